import PyProof.Rows.All
import Wide.All
import OpenK.AllK
import Wide.FinOn
import Lean
import PyProof.EqAt
import PyProof.EqKinds
import PyProof.TupleCall
import KE.KSortTup
import KE.KSortKey
import PyProof.ExcBaseAll.ValueError
import PyProof.ExcAttrAll.ValueError
import KE.KTryOn
import OpenK.KOwn
import PyProof.NeData
import PyProof.SetKind
import PyProof.Rows.SetFrom
import PyProof.CollectWalk
import KE.KDictOf
import KE.KDictList
import KE.KDictSum
import PyProof.FString5
import PySem.Challenge.RW_rowasks_k19_whole_joins_of_parts
set_option Elab.async false
set_option linter.all false
set_option maxRecDepth 100000
set_option maxHeartbeats 8000000
section
namespace HD
open PySem PySem.W
def quC:Stmt→Bool
 | .Assign (targets:=[.Name x _]) .. =>x== "__name__"
 | _=>false
def vw (p:Program):Program:={ p with main:={ p.main with body:=p.main.body.filter fun s=> !quC s } }
def qrw (p:Program) (row:String) (N:Nat) (b:Bool) (w:World):Option Shared:=(fencedOpening treeTable p w N).bind (topFrom treeTable p (w.withFollow row b) N)
def qqK (p q:Program) (loose:List Str) (Xt:Shared→Bool) (s:Shared):=openSeen q loose (importedModules p.main.body) Xt true s
def qtd (p q:Program) (loose:List Str) (Xt:Shared→Bool) (row:String) (N:Nat) (b:Bool):Prop:= ∀w:World,(qrw p row N b w).map (fun s=>(qqK p q loose Xt s).2)=some (openGood q loose).2
def qtc (p q:Program) (loose:List Str) (Xt:Shared→Bool) (H:Hook) (row:String) (N:Nat) (b:Bool):Prop:= ∀w:World,(qrw p row N b w).map (fun s=>((qqK p q loose Xt s).1,H.obs s))=some ((openGood q loose).1,H.val (w.withFollow row b))
theorem qut {p q:Program} {loose:List Str} {Xt:Shared→Bool} {H:Hook} {row:String} {N:Nat} {b:Bool} (hx:qtd p q loose Xt row N b) (hy:qtc p q loose Xt H row N b):
  ∀w:World,((fencedOpening treeTable p w N).bind (topFrom treeTable p (w.withFollow row b) N)).map (fun s=>(openSeen q loose (importedModules p.main.body) Xt true s,Hook.obs H s))=some (openGood q loose,Hook.val H (w.withFollow row b)):=fun w=>by
 have hx:=hx w
 have hy:=hy w
 have e:((fencedOpening treeTable p w N).bind (topFrom treeTable p (w.withFollow row b) N))=qrw p row N b w:=rfl
 rw[e]
 cases r:qrw p row N b w with
 | none=>rw[r] at hx; cases hx
 | some s=>
  rw[r] at hx hy
  have y:=Prod.mk.inj (Option.some.inj hy)
  exact congrArg some (Prod.ext (Prod.ext y.1 (Option.some.inj hx)) y.2)
end HD
end
section
open PySem PySem.W PyProof.Rows
namespace K19
abbrev vq:Program:=HD.vw PySem.Challenge.pw_rowasks_k19_whole_joins_of_parts
abbrev xt:Shared→Bool:=fun s=>xlAt vq [] s&&recOk (RowW.records PySem.Challenge.rw_rowasks_k19_whole_joins_of_parts.row.toRowW) s
section
local macro_rules
 | `(tactic| o_head $H)=> `(tactic| (exact False.elim (by assumption); exact $H))
set_option maxRecDepth 100000 in
set_option maxHeartbeats 0 in
noncomputable def hk:Hook:=by
 refine (fun (_:False→PySem.Challenge.rw_rowasks_k19_whole_joins_of_parts.Holds)=> ?H) ?pf
 rotate_left
 intro hp
 w_on; o_law; k_head
end
set_option maxRecDepth 100000 in
set_option maxHeartbeats 0 in
theorem rL:LeftO PySem.Challenge.pw_rowasks_k19_whole_joins_of_parts vq [] xt (Hook.obs hk) (Hook.val hk) 20000:=fun w=>by kernel_rfl
end K19
end
section
namespace L2
open PySem PySem.Spec PyProof.Rows
abbrev Key:=Sum Int Str
def keyIs:Key→Value→Bool
 | .inl k,v=>Value.isInt k v
 | .inr x,v=>Value.isStrOf x v
def quB (w:World):Key→Int
 | .inl k=>hashInt k
 | .inr x=>hashStr w x
theorem qbj: ∀{k:Key} {v:Value},keyIs k v=true→(∃i t,k=Sum.inl i∧v=Value.int i t)∨(∃x t,k=Sum.inr x∧v=Value.str x t)
 | .inl i,v,h=>by
  obtain ⟨t,e⟩:=Value.isInt_shape (k:=i) (v:=v) h
  exact .inl ⟨i,t,rfl,e⟩
 | .inr x,v,h=>by
  obtain ⟨t,e⟩:=Value.isStrOf_shape (x:=x) (v:=v) h
  exact .inr ⟨x,t,rfl,e⟩
theorem qlg (i:Int) (t:Tok):keyIs (.inl i) (.int i t)=true:=by simp[keyIs,Value.isInt]
theorem qlf (x:Str) (t:Tok):keyIs (.inr x) (.str x t)=true:=by simp[keyIs,Value.isStrOf]
theorem qqR (a b:Int):decide ((Sum.inl a:Key)=Sum.inl b)=(a==b):=by
 by_cases e:a=b
 ·subst e; simp
 ·have h: ¬(Sum.inl a:Key)=Sum.inl b:=fun q=>e (Sum.inl.inj q)
  rw[decide_eq_false h]
  exact (beq_eq_false_iff_ne.mpr e).symm
theorem qqO (a b:Str):decide ((Sum.inr a:Key)=Sum.inr b)=decide (a=b):=by
 by_cases e:a=b
 ·subst e; simp
 ·have h: ¬(Sum.inr a:Key)=Sum.inr b:=fun q=>e (Sum.inr.inj q)
  rw[decide_eq_false h,decide_eq_false e]
theorem qqQ (a:Int) (b:Str):decide ((Sum.inl a:Key)=Sum.inr b)=false:=decide_eq_false (fun q=>nomatch q)
theorem qqP (a:Str) (b:Int):decide ((Sum.inr a:Key)=Sum.inl b)=false:=decide_eq_false (fun q=>nomatch q)
def qaY (prog:Program) (w:World):PySem.KeyKind prog w Key where
 is:=keyIs
 hash:=quB w
 inj:=fun v a b ha hb=>by
  rcases qbj ha with ⟨i,t,rfl,rfl⟩ | ⟨x,t,rfl,rfl⟩
  ·rcases qbj hb with ⟨j,u,rfl,e⟩ | ⟨y,u,rfl,e⟩
   ·injection e with e1 _; rw[e1]
   ·exact nomatch e
  ·rcases qbj hb with ⟨j,u,rfl,e⟩ | ⟨y,u,rfl,e⟩
   ·exact nomatch e
   ·injection e with e1 _; rw[e1]
 byValue:=fun k v h=>by
  rcases qbj h with ⟨i,t,rfl,rfl⟩ | ⟨x,t,rfl,rfl⟩<;>rfl
 pyHash:=fun hv h=>by
  rcases qbj hv with ⟨i,t,rfl,rfl⟩ | ⟨x,t,rfl,rfl⟩
  ·exact wpAny_pyHash_int h
  ·exact wpAny_pyHash_str h
 eqBool:=fun hu hv h=>by
  rcases qbj hu with ⟨i,t,rfl,rfl⟩ | ⟨x,t,rfl,rfl⟩
  ·rcases qbj hv with ⟨j,u,rfl,rfl⟩ | ⟨y,u,rfl,rfl⟩
   ·rw[qqR] at h; exact wpAny_eqBool_int h
   ·rw[qqQ] at h; exact SeqAt.EqAt.int_str i t y u _ _ _ _ h
  ·rcases qbj hv with ⟨j,u,rfl,rfl⟩ | ⟨y,u,rfl,rfl⟩
   ·rw[qqP] at h; exact SeqAt.EqAt.str_int x t j u _ _ _ _ h
   ·rw[qqO] at h; exact wpAny_eqBool_str h
 «strs» :=fun k x t v h=>by
  rcases qbj h with ⟨i,u,rfl,e⟩ | ⟨y,u,rfl,e⟩
  ·exact nomatch e
  ·injection e with e1 _
   subst e1
   cases v<;>rfl
theorem qhB (prog:Program) (w:World) (i:Int) (t:Tok):(qaY prog w).is (.inl i) (.int i t)=true:=qlg i t
theorem qhA (prog:Program) (w:World) (x:Str) (t:Tok):(qaY prog w).is (.inr x) (.str x t)=true:=qlf x t
end L2
namespace L2
open PySem PySem.Spec PyProof.Rows
inductive V where
 | non | bl (b:Bool) | int (i:Int) | str (x:Str) | byt (b:Array UInt8) | flt (b:UInt64) | ref (a:Addr) | ty (n:String)
 deriving DecidableEq
def RelV:V→Value→Prop
 | .non,u=>u=Value.none
 | .bl b,u=>u=Value.bool b
 | .int i,u=> ∃t,u=Value.int i t
 | .str x,u=> ∃t,u=Value.str x t
 | .byt b,u=> ∃t,u=Value.bytes b t
 | .flt b,u=> ∃t,u=Value.float b t
 | .ref a,u=>u=Value.ref a
 | .ty n,u=>u=Value.type n
abbrev Vals:List V→List Value→Prop:=Paired RelV
theorem Vals.length {xs:List V} {us:List Value} (r:Vals xs us):xs.length=us.length:=Paired.length r
theorem Vals.get: ∀{xs:List V} {us:List Value} {i:Nat} {x:V},Vals xs us→xs[i]? =some x→∃u,us[i]? =some u∧RelV x u
 | _,_,_,_,.nil,e=>by simp at e
 | _,_,0,_,.cons r _,e=>by simp at e; subst e; exact ⟨_,rfl,r⟩
 | _,_,i+1,x,.cons _ t,e=>by
  obtain ⟨u,h1,h2⟩:=Vals.get (i:=i) (x:=x) t (by simpa using e)
  exact ⟨u,by simpa using h1,h2⟩
theorem Vals.append: ∀{xs ys:List V} {us ws:List Value},Vals xs us→Vals ys ws→Vals (xs++ys) (us++ws)
 | _,_,_,_,.nil,s=>s
 | _,_,_,_,.cons r t,s=>.cons r (Vals.append t s)
theorem Vals.take: ∀{xs:List V} {us:List Value} (n:Nat),Vals xs us→Vals (xs.take n) (us.take n)
 | _,_,0,_=>.nil
 | _,_,_+1,.nil=>.nil
 | _,_,n+1,.cons r t=>.cons r (Vals.take n t)
theorem Vals.drop: ∀{xs:List V} {us:List Value} (n:Nat),Vals xs us→Vals (xs.drop n) (us.drop n)
 | _,_,0,r=>r
 | _,_,_+1,.nil=>.nil
 | _,_,n+1,.cons _ t=>Vals.drop n t
def qgd:Option V→Option Value→Prop
 | some v,some u=>RelV v u
 | none,none=>True
 | _,_=>False
def KV {κ:Type}:List (κ×V)→List (κ×Value)→Prop:=Paired fun (p:κ×V) (q:κ×Value)=>p.1=q.1∧RelV p.2 q.2
def kV:Key→V
 | .inl i=>.int i
 | .inr x=>.str x
inductive HO where
 | lst (xs:List V)
 | tup (xs:List V)
 | dK (kvs:List (Key×V)) | dT (kvs:List (List Key×V))
 | set (S:Int→Bool) (n:Nat)
 | ins (C dx:Addr) (fs:List (Str×V))
 | own (x:Addr)
 | xd (fs:List (Str×V))
 | met (f x:Addr)
 | rng (lo hi:Int)
 | frz (o:Obj) (u:HO)
 | tbl (ps:Array Value)
 | ext (φ:Heap→Prop)
abbrev Hp:=Addr→Option HO
def upd (H:Hp) (a:Addr) (o:HO):Hp:=fun b=>if b=a then some o else H b
theorem qag {H:Hp} {a:Addr} {o:HO}:upd H a o a=some o:=by unfold upd; rw[if_pos rfl]
theorem qae {H:Hp} {a b:Addr} {o:HO} (h:b≠a):upd H a o b=H b:=by unfold upd; rw[if_neg h]
theorem qot {H:Hp} {a:Addr} {o u:HO}:upd (upd H a o) a u=upd H a u:=by
 funext b; unfold upd; split<;>rfl
theorem qd7 {H:Hp} {a b:Addr} {o u:HO} (h:H a=some o) (h':H b=some u) (d:o≠u):a≠b:=by
 intro e; subst e; rw[h] at h'; exact d (Option.some.inj h')
theorem qak {H:Hp} {a b:Addr} {o:HO} (h:H a=some o) (h':H b=none):a≠b:=by
 intro e; subst e; rw[h] at h'; cases h'
section
variable (P:Program) (w:World)
def qbT (H:Hp) (h:Heap) (a:Addr):HO→Prop
 | .lst xs=>xs.length≤sizeLine∧∃(its:List Value) (n:Nat),Vals xs its∧h.get? a=some { cls:=.type "list",data:=.seq its.toArray n }
 | .tup xs=>xs.length≤sizeLine∧∃its:List Value,Vals xs its∧IsTup h a its.toArray
 | .dK kvs=>kvs.length≤sizeLine∧(a==sysModules)=false∧∃vs,KV kvs vs∧h.DictOf (qaY P w) a vs
 | .dT kvs=>kvs.length≤sizeLine∧(a==sysModules)=false∧∃xs:List (List Key×Addr×Value),
   Paired (fun (p:List Key×V) (q:List Key×Addr×Value)=>p.1=q.1∧H q.2.1=some (.tup (p.1.map kV))∧RelV p.2 q.2.2) kvs xs∧
   ∃o es ep,h.get? a=some o∧o.ExactDict∧o.data= .dict es ep∧es.toList=xs.map (entryOfKey (tupleKind (qaY P w)))∧(xs.map (·.1)).Nodup
 | .set S n=>h.SetOf (intKind P w) a S n
 | .ins C dx fs=>H dx=some (.own a)∧fs.length≤1000∧dx≠a∧h.get? a=some (PySem.W.instObj C dx)∧
   ∃mA,h.Ns1 dx mA∧(∀f,qgd (fs.lookup f) (mA f))∧PySem.Within mA (fs.map (·.1))
 | .own _=> ∃o,h.get? a=some o
 | .xd fs=> ∃mA,h.Ns1 a mA∧∀f,qgd (fs.lookup f) (mA f)
 | .rng lo hi=> ∃t u v,h.get? a=some { cls:=.type "range",data:=.fields #[.int lo t,.int hi u,.int 1 v] }
 | .frz o u=>h.get? a=some o∧qbT H h a u
 | .tbl ps=>h.get? a=some { cls:=.none,data:=.fields ps }
 | .met f x=>h.get? a=some (PySem.W.methodObj (.ref f) (.ref x))
 | .ext φ=>φ h∧(∃o,h.get? a=some o)∧∀h1 h2:Heap,φ h1→(∀o,h1.get? a=some o→h2.get? a=some o)→φ h2
def HOk (H:Hp) (h:Heap):Prop:= ∀a o,H a=some o→qbT P w H h a o
end
section
variable {P:Program} {w:World} {H H':Hp} {h h':Heap} {a:Addr} {o:HO}
theorem qbT.lt (x:qbT P w H h a o):a<h.objs.size:=by
 cases o with
 | lst xs=>obtain ⟨_,_,_,_,e⟩:=x; exact Heap.lt_size e
 | tup xs=>obtain ⟨_,_,_,p⟩:=x; exact p.lt
 | dK kvs=>obtain ⟨_,_,_,_,o,_,_,e,_⟩:=x; exact Heap.lt_size e
 | dT kvs=>obtain ⟨_,_,_,_,o,_,_,e,_⟩:=x; exact Heap.lt_size e
 | set S n=>obtain ⟨o,_,_,_,e,_⟩:=x; exact Heap.lt_size e
 | ins C dx fs=>obtain ⟨_,_,_,e,_⟩:=x; exact Heap.lt_size e
 | own y=>obtain ⟨_,e⟩:=x; exact Heap.lt_size e
 | xd fs=>obtain ⟨_,⟨_,_,_,e,_⟩,_⟩:=x; exact Heap.lt_size e
 | rng lo hi=>obtain ⟨_,_,_,e⟩:=x; exact Heap.lt_size e
 | frz ob u=>obtain ⟨e,_⟩:=x; exact Heap.lt_size e
 | tbl ps=>exact Heap.lt_size (show h.get? a=some _ from x)
 | met f y=>exact Heap.lt_size (show h.get? a=some _ from x)
 | ext φ=>obtain ⟨_,⟨_,e⟩,_⟩:=x; exact Heap.lt_size e
theorem Paired.mapP {α β:Type} {F G:α→β→Prop}: ∀{l₁:List α} {l₂:List β},Paired F l₁ l₂→(∀a b,F a b→G a b)→Paired G l₁ l₂
 | _,_,.nil,_=>.nil
 | _,_,.cons r t,f=>.cons (f _ _ r) (Paired.mapP t f)
theorem qbT.stay (x:qbT P w H h a o) (k: ∀b u,(b=a∨H b=some (.own a))→h.get? b=some u→h'.get? b=some u)
  (ho: ∀b,H b=some (.own a)→H' b=some (.own a)) (ht: ∀b xs,H b=some (.tup xs)→H' b=some (.tup xs)):qbT P w H' h' a o:=by
 induction o with
 | lst xs=>obtain ⟨z,its,n,r,e⟩:=x; exact ⟨z,its,n,r,k _ _ (.inl rfl) e⟩
 | tup xs=>obtain ⟨z,its,r,ob,e,c⟩:=x; exact ⟨z,its,r,ob,k _ _ (.inl rfl) e,c⟩
 | dK kvs=>obtain ⟨z,y,vs,r,ob,es,ep,e,c⟩:=x; exact ⟨z,y,vs,r,ob,es,ep,k _ _ (.inl rfl) e,c⟩
 | dT kvs=>
  obtain ⟨z,y,xs,r,ob,es,ep,e,c⟩:=x
  exact ⟨z,y,xs,Paired.mapP r fun p q z=>⟨z.1,ht _ _ z.2.1,z.2.2⟩,ob,es,ep,k _ _ (.inl rfl) e,c⟩
 | set S n=>obtain ⟨ob,es,ep,t,e,c⟩:=x; exact ⟨ob,es,ep,t,k _ _ (.inl rfl) e,c⟩
 | ins C dx fs=>
  obtain ⟨d,z,ne,e,mA,⟨od,es,ep,e2,c⟩,r⟩:=x
  exact ⟨ho _ d,z,ne,k _ _ (.inl rfl) e,mA,⟨od,es,ep,k _ _ (.inr d) e2,c⟩,r⟩
 | own y=>obtain ⟨ob,e⟩:=x; exact ⟨ob,k _ _ (.inl rfl) e⟩
 | xd fs=>obtain ⟨mA,⟨od,es,ep,e,c⟩,r⟩:=x; exact ⟨mA,⟨od,es,ep,k _ _ (.inl rfl) e,c⟩,r⟩
 | rng lo hi=>obtain ⟨t,u,v,e⟩:=x; exact ⟨t,u,v,k _ _ (.inl rfl) e⟩
 | frz ob u ih=>obtain ⟨e,q⟩:=x; exact ⟨k _ _ (.inl rfl) e,ih q⟩
 | tbl ps=>
  have e:h.get? a=some { cls:=.none,data:=.fields ps }:=x
  show h'.get? a=some { cls:=.none,data:=.fields ps }
  exact k a _ (.inl rfl) e
 | met f y=>
  have e:h.get? a=some (PySem.W.methodObj (.ref f) (.ref y)):=x
  show h'.get? a=some (PySem.W.methodObj (.ref f) (.ref y))
  exact k a _ (.inl rfl) e
 | ext φ=>obtain ⟨p,⟨o,e⟩,st⟩:=x; exact ⟨st _ _ p fun o q=>k _ _ (.inl rfl) q,⟨o,k _ _ (.inl rfl) e⟩,st⟩
theorem HOk.lt (x:HOk P w H h) (e:H a=some o):a<h.objs.size:=(x a o e).lt
theorem HOk.fresh (x:HOk P w H h) (e:h.objs.size≤a):H a=none:=by
 cases q:H a with
 | none=>rfl
 | some u=>exact absurd (Nat.lt_of_lt_of_le (x.lt q) e) (Nat.lt_irrefl _)
theorem HOk.kept (x:HOk P w H h) (k: ∀b u,h.get? b=some u→h'.get? b=some u):HOk P w H h':=fun a o e=>
 (x a o e).stay (fun b u _ q=>k b u q) (fun _ q=>q) fun _ _ q=>q
theorem HOk.laid (x:HOk P w H h) (k: ∀b u,h.get? b=some u→h'.get? b=some u) (hp:h.objs.size≤a) (new:qbT P w (upd H a o) h' a o):HOk P w (upd H a o) h':=fun b u e=>by
 have hn:=x.fresh hp
 by_cases hb:b=a
 ·subst hb; rw[qag] at e; cases e; exact new
 ·rw[qae hb] at e
  exact (x b u e).stay (fun c v _ q=>k c v q) (fun c q=>by rw[qae (qak q hn)]; exact q) fun c xs q=>by rw[qae (qak q hn)]; exact q
end
def Rd (H:Hp) (a:Addr) (u:HO):Prop:=H a=some u∨∃o,H a=some (.frz o u)
theorem Rd.ok {P:Program} {w:World} {H:Hp} {h:Heap} {a:Addr} {u:HO} (r:Rd H a u) (x:HOk P w H h):qbT P w H h a u:=by
 rcases r with r | ⟨o,r⟩
 ·exact x a u r
 ·obtain ⟨_,q⟩:=x a _ r
  exact q
def Mut:Option HO→Prop
 | some (.lst _)=>True
 | some (.dK _)=>True
 | some (.dT _)=>True
 | some (.set _ _)=>True
 | some (.ins _ _ _)=>True
 | some (.ext _)=>True
 | _=>False
section
variable {P:Program} {w:World} {H:Hp} {h h':Heap} {x e:Addr} {o':HO}
theorem HOk.write (ok:HOk P w H h) (mu:Mut (H x)) (he:e=x∨H e=some (.own x)) (k: ∀b u,b≠e→h.get? b=some u→h'.get? b=some u) (heo: ∃u,h'.get? e=some u)
  (new:qbT P w (upd H x o') h' x o'):HOk P w (upd H x o') h':=fun b u q=>by
 have nown: ∀c y,H c=some (.own y)→c≠x:=fun c y r z=>by subst z; rw[r] at mu; exact mu
 have ntup: ∀c xs,H c=some (.tup xs)→c≠x:=fun c xs r z=>by subst z; rw[r] at mu; exact mu
 by_cases hb:b=x
 ·subst hb; rw[qag] at q; cases q; exact new
 ·rw[qae hb] at q
  by_cases hbe:b=e
  ·have q':H b=some (.own x):=by
    rcases he with z | z
    ·exact absurd (hbe.trans z) hb
    ·rw[hbe]; exact z
   rw[q] at q'; cases q'
   obtain ⟨v,hv⟩:=heo
   exact ⟨v,by rw[hbe]; exact hv⟩
  ·refine (ok b u q).stay (fun c v hc r=>k c v ?_ r) (fun c r=>by rw[qae (nown c b r)]; exact r) fun c xs r=>by rw[qae (ntup c xs r)]; exact r
   rcases hc with rfl | hc
   ·exact hbe
   ·rintro rfl
    rcases he with z | z
    ·exact nown c b hc z
    ·rw[hc] at z; cases z; exact hb rfl
end
structure Un (fs ex:List Addr) (H H':Hp) (h h':Heap):Prop where
 keep: ∀b o,h.get? b=some o→H b=none→b∉fs→b∉ex→h'.get? b=some o
 slot: ∀b o,h.get? b=some o→H b=none→b∈fs→b∉ex→∃sl,h'.get? b=some { o with slots:=sl }
 free: ∀b o,h.get? b=some o→H b=none→b∉ex→H' b=none
 there: ∀b o,h.get? b=some o→b∉ex→∃o',h'.get? b=some o'
 tups: ∀b xs,H b=some (.tup xs)→H' b=some (.tup xs)
 frzs: ∀b o u,H b=some (.frz o u)→H' b=some (.frz o u)
 tbls: ∀b ps,H b=some (.tbl ps)→∃more,H' b=some (.tbl (ps++more))
section
variable {fs fs' ex ex':List Addr} {H H1 H2:Hp} {h h1 h2 h':Heap} {a x e:Addr} {o:HO}
theorem Un.any (u:Un fs ex H H1 h h1) {b:Addr} {ob:Obj} (q:h.get? b=some ob) (n:H b=none) (hx:b∉ex): ∃sl,h1.get? b=some { ob with slots:=sl }:=by
 by_cases hb:b∈fs
 ·exact u.slot b ob q n hb hx
 ·exact ⟨ob.slots,u.keep b ob q n hb hx⟩
theorem Un.kept (k: ∀b u,h.get? b=some u→h'.get? b=some u):Un fs ex H H h h':=
 ⟨fun b ob q _ _ _=>k b ob q,fun b ob q _ _ _=>⟨ob.slots,k b ob q⟩,fun _ _ _ n _=>n,fun b ob q _=>⟨ob,k b ob q⟩,fun _ _ q=>q,fun _ _ _ q=>q,fun _ ps q=>⟨#[],by rw[q]; simp⟩⟩
theorem Un.refl:Un fs ex H H h h:=Un.kept fun _ _ q=>q
theorem Un.laid (k: ∀b u,h.get? b=some u→h'.get? b=some u) (hp:h.objs.size≤a) (hn:H a=none):Un fs ex H (upd H a o) h h' where
 keep:=fun b u q _ _ _=>k b u q
 slot:=fun b u q _ _ _=>⟨u.slots,k b u q⟩
 free:=fun b u q n _=>by rw[qae (Nat.ne_of_lt (Nat.lt_of_lt_of_le (Heap.lt_size q) hp))]; exact n
 there:=fun b u q _=>⟨u,k b u q⟩
 tups:=fun b xs q=>by rw[qae (qak q hn)]; exact q
 frzs:=fun b u xs q=>by rw[qae (qak q hn)]; exact q
 tbls:=fun b ps q=>⟨#[],by rw[qae (qak q hn),q]; simp⟩
theorem Un.write (mu:Mut (H x)) (he:e=x∨H e=some (.own x)) (k: ∀b u,b≠e→h.get? b=some u→h'.get? b=some u) (heo: ∃u,h'.get? e=some u):Un fs ex H (upd H x o) h h':=by
 have hx: ∀b,H b=none→b≠x:=fun b n z=>by subst z; rw[n] at mu; exact mu
 have hb: ∀b,H b=none→b≠e:=fun b n z=>by
  subst z
  rcases he with r | r
  ·exact hx b n r
  ·rw[n] at r; cases r
 have hm: ∀b u,H b=some u→¬Mut (some u)→b≠x:=fun b u q nm z=>by subst z; rw[q] at mu; exact nm mu
 refine ⟨fun b u q n _ _=>k b u (hb b n) q,fun b u q n _ _=>⟨u.slots,k b u (hb b n) q⟩,fun b u q n _=>by rw[qae (hx b n)]; exact n,fun b u q _=> ?_,
  fun b xs q=>by rw[qae (hm b _ q fun z=>z)]; exact q,fun b u xs q=>by rw[qae (hm b _ q fun z=>z)]; exact q,fun b ps q=>⟨#[],by rw[qae (hm b _ q fun z=>z),q]; simp⟩⟩
 by_cases hbe:b=e
 ·subst hbe; exact heo
 ·exact ⟨u,k b u hbe q⟩
end
def trk (h:Heap) (H:Hp):List Addr:=(List.range h.objs.size).filter fun a=>(H a).isSome
def qhb (h:Heap) (H:Hp):Heap:=PySem.W.hideAll h (trk h H)
theorem qgN (h:Heap) (H:Hp):(qhb h H).objs.size=h.objs.size:=PySem.W.hideAll_size _ _
theorem qiO {h:Heap} {H:Hp} {b:Addr} {o:Obj} (e:h.get? b=some o) (n:H b=none):(qhb h H).get? b=some o:=
 PySem.W.hideAll_get _ e fun hm=>by
  have q:(H b).isSome=true:=(List.mem_filter.mp hm).2
  rw[n] at q; simp at q
theorem qkW {h:Heap} {H:Hp} {b:Addr} {o:Obj} (e:(qhb h H).get? b=some o):h.get? b=some o∧H b=none:=by
 have e':h.get? b=some o:=PySem.W.of_hideAll (trk h H) e
 refine ⟨e',?_⟩
 cases q:H b with
 | none=>rfl
 | some x=>
  have hm:b∈trk h H:=List.mem_filter.mpr ⟨List.mem_range.mpr (Heap.lt_size e'),by simp[q]⟩
  have z:(qhb h H).get? b=none:=PySem.W.hideAll_none (trk h H) hm
  rw[z] at e; cases e
def qpC (g h:Heap) (L:Addr):List (Addr×Obj):=(List.range h.objs.size).filterMap fun a=>if a=L∨(g.get? a).isSome=true then none else (h.get? a).map fun o=>(a,o)
def qdB (g h:Heap) (L d:Addr):List (Addr×Obj):=(qpC g h L).filter fun p=>decide (p.1≠d)
end L2
namespace L2
open PySem PySem.Spec PyProof.Rows
structure Mod (K:PySem.W.Frag) (mg:Str→Option Value) (base:Heap):Prop where
 kin:K.In base
 glob:base.Ns mainGlobals mg
 blt: ∃mb,base.Ns builtinsNs mb∧∀x:Str,x≠ "__name__" →mb x=bootBuiltins x
 nolimit:base.NoLimit
structure Cx where
 prog:Program
 w:World
 K:PySem.W.Frag
 mg:Str→Option Value
 base:Heap
 A:Around
 N:List Str
 s₀:Shared
 H₀:Hp
 env:Env
 outer:List Env
 stack:List Env
 ex:List Addr
 fn:Str→Bool
 calm:Bool
 pn:List (Addr×Obj)
 xe:Value→Shared→Prop
def frs (l:List Env):List Addr:=l.filterMap (·.frame)
abbrev Cx.fs (X:Cx):List Addr:=frs X.outer
def Vis (sc:Scope) (x:Str):Prop:=sc.names.lookup x=some .local∨sc.names.lookup x=some .cell∨sc.names.lookup x=some .free
def Loc (sc:Scope) (x:Str):Prop:=sc.names.lookup x=some .local∨sc.names.lookup x=some .cell
def quR (env:Env) (h:Heap) (m:Str→Option Value) (x:Str) (u:Value):Prop:=
 (env.kindOf x=some .local∧m x=some u)∨((env.kindOf x=some .cell∨env.kindOf x=some .free)∧∃c,env.cells.lookup x=some c∧h.IsCell c (some u))
structure Cx.Ok (X:Cx):Prop where
 mod:Mod X.K X.mg X.base
 kind:X.env.scope.kind= .function
 glob:X.env.globals=mainGlobals
 blt:X.env.builtins=builtinsNs
 above:X.s₀.heap.objs.size≤X.env.locals
 inj: ∀x y c,X.env.cells.lookup x=some c→X.env.cells.lookup y=some c→x=y
 has: ∀x,(X.env.kindOf x=some .cell∨X.env.kindOf x=some .free)→∃c,X.env.cells.lookup x=some c
 cab: ∀x c,X.fn x=true→X.env.cells.lookup x=some c→X.s₀.heap.objs.size≤c
 hd:X.calm=true→X.A.handled=none
 frames:X.A.frames=some X.stack
 stk:X.stack=X.outer∨(X.stack=X.env::X.outer∧X.env.frame=some X.env.locals)
 exf: ∀b∈X.ex,b≠X.env.locals∧∀x c,X.env.cells.lookup x=some c→c≠b
 bs: ∀b o,X.base.get? b=some o→X.s₀.heap.get? b=some o∧X.H₀ b=none
 bsz:X.base.objs.size≤X.s₀.heap.objs.size
 noex: ∀b o,X.base.get? b=some o→b∉X.ex
 exfs: ∀b∈X.ex,b∉X.fs
 funs:X.s₀.heap.FunFrames X.base X.outer
 frf: ∀b∈X.fs,X.H₀ b=none
structure Inv (X:Cx) (pins:List (Addr×Obj)) (σ:List (Option V)) (H:Hp) (s:Shared):Prop where
 ok:X.Ok
 os:s.os=X.s₀.os
 bare:AllBare s.gens
 base:Un X.fs X.ex X.H₀ H X.s₀.heap s.heap
 loc: ∃m,s.heap.Ns X.env.locals m∧∀(i:Nat) (x:Str) (v:V),X.N[i]? =some x→σ[i]? =some (some v)→Vis X.env.scope x→∃u,RelV v u∧quR X.env s.heap m x u
 cell: ∀x c,X.env.cells.lookup x=some c→∃v,s.heap.IsCell c v
 free:H X.env.locals=none
 freeC: ∀x c,X.env.cells.lookup x=some c→H c=none
 pin: ∀p∈X.pn++pins,s.heap.get? p.1=some p.2∧H p.1=none∧p.1≠X.env.locals∧p.1∉X.fs∧∀v,p.2.data≠.cell v
 hok:HOk X.prog X.w H s.heap
 len:σ.length=X.N.length
section
variable {X:Cx} {pins:List (Addr×Obj)} {σ:List (Option V)} {H H':Hp} {s:Shared} {h':Heap}
theorem Cx.Ok.nofr (ok:X.Ok) {b:Addr} {o:Obj} (e:X.base.get? b=some o):b∉X.fs:=fun hb=>by
 have:=(ok.funs.mem hb).1
 rw[e] at this; cases this
theorem Inv.bs (I:Inv X pins σ H s): ∀b o,X.base.get? b=some o→s.heap.get? b=some o∧H b=none:=fun b o e=>
 ⟨I.base.keep b o (I.ok.bs b o e).1 (I.ok.bs b o e).2 (I.ok.nofr e) (I.ok.noex b o e),I.base.free b o (I.ok.bs b o e).1 (I.ok.bs b o e).2 (I.ok.noex b o e)⟩
theorem Inv.bk (I:Inv X pins σ H s): ∀b o,X.base.get? b=some o→s.heap.get? b=some o:=fun b o e=>(I.bs b o e).1
theorem Inv.mod (I:Inv X pins σ H s):Mod X.K X.mg X.base:=I.ok.mod
theorem Inv.kIn (I:Inv X pins σ H s):X.K.In s.heap:=I.ok.mod.kin.keeps I.bk
theorem Inv.nolimit (I:Inv X pins σ H s):s.heap.NoLimit:=I.ok.mod.nolimit.keeps I.bk
theorem Inv.fr (I:Inv X pins σ H s): ∃m,Fr X.base X.env.locals s.heap m:=
 let ⟨m,hn,_⟩:=I.loc
 ⟨m,hn,I.bk,Nat.le_trans I.ok.bsz I.ok.above⟩
theorem Inv.lt (I:Inv X pins σ H s):X.env.locals<s.heap.objs.size:=let ⟨_,hn,_⟩:=I.loc; hn.lt
theorem Inv.sz (I:Inv X pins σ H s):X.s₀.heap.objs.size≤s.heap.objs.size:=Nat.le_trans I.ok.above (Nat.le_of_lt I.lt)
theorem Inv.nofs (I:Inv X pins σ H s) {a:Addr} (h:s.heap.objs.size≤a):a∉X.fs:=fun hb=>by
 obtain ⟨_,o,ho,_⟩:=I.ok.funs.mem hb
 exact absurd (Nat.lt_of_lt_of_le (Heap.lt_size ho) (Nat.le_trans I.sz h)) (Nat.lt_irrefl _)
theorem Inv.cne (I:Inv X pins σ H s): ∀x c,X.env.cells.lookup x=some c→c≠X.env.locals:=fun x c e z=>by
 obtain ⟨v,o,ho,hd⟩:=I.cell x c e
 obtain ⟨m,⟨o',es,ep,ho',hd',_⟩,_⟩:=I.loc
 rw[z,ho'] at ho; cases ho; rw[hd'] at hd; cases hd
theorem Inv.funs (I:Inv X pins σ H s):s.heap.FunFrames X.base X.outer:=by
 have all: ∀(l:List Env),(∀b∈frs l,b∈X.fs)→X.s₀.heap.FunFrames X.base l→s.heap.FunFrames X.base l:=by
  intro l
  induction l with
  | nil=>intro _ _; trivial
  | cons env r ih=>
   intro hs hl
   obtain ⟨hk,⟨L,o,hf,hn,ho,hd⟩,hr⟩:=hl
   have hL:L∈X.fs:=hs L (by unfold frs; rw[List.filterMap_cons,hf]; exact List.mem_cons_self)
   obtain ⟨sl,e⟩:=I.base.slot L o ho (I.ok.frf L hL) hL fun z=>I.ok.exfs L z hL
   exact ⟨hk,⟨L,_,hf,hn,e,hd⟩,ih (fun b hb=>hs b (by unfold frs; rw[List.filterMap_cons,hf]; exact List.mem_cons_of_mem _ hb)) hr⟩
 exact all X.outer (fun _ hb=>hb) I.ok.funs
theorem Inv.stack (I:Inv X pins σ H s):s.heap.FunFrames X.base X.stack:=by
 rcases I.ok.stk with e | ⟨e,hf⟩
 ·rw[e]; exact I.funs
 ·rw[e]
  obtain ⟨m,hn,_⟩:=I.loc
  refine .cons (by rw[I.ok.kind]; decide) hf hn ?_ I.funs
  exact Heap.get?_none_of_le (Nat.le_trans I.ok.bsz I.ok.above)
theorem Inv.stkSub (I:Inv X pins σ H s): ∀b∈frs X.stack,b∈X.env.locals::X.fs:=fun b hb=>by
 rcases I.ok.stk with e | ⟨e,hf⟩
 ·rw[e] at hb; exact List.mem_cons_of_mem _ hb
 ·rw[e] at hb
  unfold frs at hb
  rw[List.filterMap_cons,hf] at hb
  exact hb
theorem Inv.stkFree (I:Inv X pins σ H s): ∀b∈frs X.stack,H b=none:=fun b hb=>by
 rcases List.mem_cons.mp (I.stkSub b hb) with e | hb
 ·rw[e]; exact I.free
 ·obtain ⟨_,o,ho,_⟩:=I.ok.funs.mem hb
  exact I.base.free b o ho (I.ok.frf b hb) fun z=>I.ok.exfs b z hb
theorem Inv.step {g':Array GenState} {t':Nat} {d':Drawn} {ch:List Addr} (I:Inv X pins σ H s)
  (hch: ∀b∈ch,(b∈X.ex∨X.s₀.heap.objs.size≤b)∧b≠X.env.locals∧(∀x c,X.env.cells.lookup x=some c→c≠b)∧∀p∈X.pn++pins,p.1≠b)
  (keep: ∀b o,b≠X.env.locals→b∉X.fs→b∉ch→s.heap.get? b=some o→H b=none→h'.get? b=some o)
  (slot: ∀b o,b≠X.env.locals→b∈X.fs→b∉ch→s.heap.get? b=some o→H b=none→∃sl,h'.get? b=some { o with slots:=sl }) (free: ∀b o,b∉ch→s.heap.get? b=some o→H b=none→H' b=none)
  (there: ∀b o,b∉ch→s.heap.get? b=some o→∃o',h'.get? b=some o')
  (tups: ∀b xs,H b=some (.tup xs)→H' b=some (.tup xs)) (frzs: ∀b o u,H b=some (.frz o u)→H' b=some (.frz o u)) (tbls: ∀b ps,H b=some (.tbl ps)→∃more,H' b=some (.tbl (ps++more)))
  (ns: ∀m,s.heap.Ns X.env.locals m→h'.Ns X.env.locals m) (hok:HOk X.prog X.w H' h') (hg:AllBare g'):
  Inv X pins σ H' { s with heap:=h',gens:=g',drawn:=d',toks:=t' }:=by
 have neL: ∀b o,X.s₀.heap.get? b=some o→b≠X.env.locals:=fun b o e=>Nat.ne_of_lt (Nat.lt_of_lt_of_le (Heap.lt_size e) I.ok.above)
 have neC: ∀b o,X.s₀.heap.get? b=some o→b∉X.ex→b∉ch:=fun b o e hx hb=>by
  rcases (hch b hb).1 with z | z
  ·exact hx z
  ·exact absurd (Nat.lt_of_lt_of_le (Heap.lt_size e) z) (Nat.lt_irrefl _)
 have cellK: ∀x c,X.env.cells.lookup x=some c→∀v,s.heap.IsCell c v→h'.IsCell c v:=fun x c e v ⟨o,ho,hd⟩=>by
  have nch:c∉ch:=fun z=>(hch c z).2.2.1 x c e rfl
  by_cases hc:c∈X.fs
  ·obtain ⟨sl,q⟩:=slot c o (I.cne x c e) hc nch ho (I.freeC x c e)
   exact ⟨_,q,hd⟩
  ·exact ⟨o,keep c o (I.cne x c e) hc nch ho (I.freeC x c e),hd⟩
 refine ⟨I.ok,I.os,hg,⟨fun b o e n hb hx=> ?_,fun b o e n hb hx=> ?_,fun b o e n hx=> ?_,fun b o e hx=> ?_,fun b xs e=>tups b xs (I.base.tups b xs e),fun b o xs e=>frzs b o xs (I.base.frzs b o xs e),fun b ps e=> ?_⟩,?_,fun x c e=> ?_,?_,fun x c e=> ?_,fun p hp=> ?_,hok,I.len⟩
 ·exact keep b o (neL b o e) hb (neC b o e hx) (I.base.keep b o e n hb hx) (I.base.free b o e n hx)
 ·obtain ⟨sl,e1⟩:=I.base.slot b o e n hb hx
  obtain ⟨sl',e2⟩:=slot b _ (neL b o e) hb (neC b o e hx) e1 (I.base.free b o e n hx)
  exact ⟨sl',e2⟩
 ·obtain ⟨o',e1⟩:=I.base.there b o e hx
  exact free b o' (neC b o e hx) e1 (I.base.free b o e n hx)
 ·obtain ⟨o',e1⟩:=I.base.there b o e hx
  exact there b o' (neC b o e hx) e1
 ·obtain ⟨m1,e1⟩:=I.base.tbls b ps e
  obtain ⟨m2,e2⟩:=tbls b _ e1
  exact ⟨m1++m2,by rw[e2,Array.append_assoc]⟩
 ·obtain ⟨m,hn,hl⟩:=I.loc
  refine ⟨m,ns m hn,fun i x v e1 e2 e3=> ?_⟩
  obtain ⟨u,r,l⟩:=hl i x v e1 e2 e3
  refine ⟨u,r,?_⟩
  rcases l with l | ⟨k,c,e,z⟩
  ·exact .inl l
  ·exact .inr ⟨k,c,e,cellK x c e _ z⟩
 ·obtain ⟨v,z⟩:=I.cell x c e
  exact ⟨v,cellK x c e v z⟩
 ·obtain ⟨m,⟨o,_,_,ho,_⟩,_⟩:=I.loc
  exact free _ o (fun z=>(hch _ z).2.1 rfl) ho I.free
 ·obtain ⟨v,o,ho,hd⟩:=I.cell x c e
  exact free c o (fun z=>(hch c z).2.2.1 x c e rfl) ho (I.freeC x c e)
 ·obtain ⟨e,n,ne,nf,d⟩:=I.pin p hp
  have nch:p.1∉ch:=fun z=>(hch p.1 z).2.2.2 p hp rfl
  exact ⟨keep p.1 p.2 ne nf nch e n,free p.1 p.2 nch e n,ne,nf,d⟩
theorem Inv.un {t':Nat} (I:Inv X pins σ H s) (u:Un X.fs [] H H' s.heap h') (hok:HOk X.prog X.w H' h'):Inv X pins σ H' { s with heap:=h',toks:=t' }:=by
 obtain ⟨m,⟨o,es,ep,ho,r⟩,_⟩:=id I.loc
 obtain ⟨sl,hL⟩:=u.any ho I.free (by simp)
 exact I.step (g':=s.gens) (d':=s.drawn) (ch:=[]) (fun _ z=>nomatch z) (fun b o _ hb _ e n=>u.keep b o e n hb (by simp)) (fun b o _ hb _ e n=>u.slot b o e n hb (by simp)) (fun b o _ e n=>u.free b o e n (by simp)) (fun b o _ e=>u.there b o e (by simp)) u.tups u.frzs u.tbls (fun m' hm=>by
  obtain ⟨o',es',ep',ho',r'⟩:=hm
  rw[ho] at ho'; cases ho'
  exact ⟨_,es',ep',hL,r'⟩) hok I.bare
theorem Inv.call {g':Array GenState} {t':Nat} {d':Drawn} {ch:List Addr} (I:Inv X pins σ H s) (u:Un (frs X.stack) ch H H' s.heap h') (hok:HOk X.prog X.w H' h') (hg:AllBare g')
  (hch: ∀b∈ch,(b∈X.ex∨X.s₀.heap.objs.size≤b)∧b≠X.env.locals∧(∀x c,X.env.cells.lookup x=some c→c≠b)∧∀p∈X.pn++pins,p.1≠b):
  Inv X pins σ H' { s with heap:=h',gens:=g',drawn:=d',toks:=t' }:=by
 obtain ⟨m,⟨o,es,ep,ho,r⟩,_⟩:=id I.loc
 obtain ⟨sl,hL⟩:=u.any ho I.free fun z=>(hch _ z).2.1 rfl
 exact I.step (ch:=ch) hch (fun b o hL hb hc e n=>u.keep b o e n (fun z=>(List.mem_cons.mp (I.stkSub b z)).elim hL hb) hc) (fun b o _ _ hc e n=>u.any e n hc) (fun b o hc e n=>u.free b o e n hc) (fun b o hc e=>u.there b o e hc) u.tups u.frzs u.tbls (fun m' hm=>by
  obtain ⟨o',es',ep',ho',r'⟩:=hm
  rw[ho] at ho'; cases ho'
  exact ⟨_,es',ep',hL,r'⟩) hok hg
theorem Inv.turned {t':Nat} {it:Addr} (I:Inv X pins σ H s) (k: ∀b o,b≠it→s.heap.get? b=some o→h'.get? b=some o) (hn:H it=none) (hL:it≠X.env.locals)
  (h1:it∈X.ex∨X.s₀.heap.objs.size≤it) (h2: ∀x c,X.env.cells.lookup x=some c→c≠it) (h3: ∀p∈X.pn++pins,p.1≠it):Inv X pins σ H { s with heap:=h',toks:=t' }:=by
 have nit: ∀b u,H b=some u→b≠it:=fun b u e z=>by rw[z,hn] at e; cases e
 refine I.step (g':=s.gens) (d':=s.drawn) (ch:=[it]) (fun b hb=> ?_) (fun b o _ _ hc e _=>k b o (fun z=>hc (by simp[z])) e) (fun b o _ _ hc e _=>⟨o.slots,k b o (fun z=>hc (by simp[z])) e⟩) (fun _ _ _ _ n=>n)
  (fun b o hc e=>⟨o,k b o (fun z=>hc (by simp[z])) e⟩) (fun _ _ e=>e) (fun _ _ _ e=>e) (fun b ps e=>⟨#[],by rw[e]; simp⟩) (fun m hm=> ?_) (fun b u e=> ?_) I.bare
 ·have e:b=it:=by simpa using hb
  subst e
  exact ⟨h1,hL,h2,h3⟩
 ·obtain ⟨o,es,ep,ho,r⟩:=hm
  exact ⟨o,es,ep,k _ o (Ne.symm hL) ho,r⟩
 ·refine (I.hok b u e).stay (fun c v hc q=>k c v ?_ q) (fun _ q=>q) fun _ _ q=>q
  rcases hc with z | z
  ·rw[z]; exact nit b u e
  ·exact nit c _ z
theorem Inv.tok (I:Inv X pins σ H s) (t:Nat):Inv X pins σ H { s with toks:=t }:=I.un (h':=s.heap) (t':=t) Un.refl I.hok
theorem Inv.kept {t':Nat} (I:Inv X pins σ H s) (k: ∀b u,s.heap.get? b=some u→h'.get? b=some u):Inv X pins σ H { s with heap:=h',toks:=t' }:=I.un (Un.kept k) (I.hok.kept k)
theorem Inv.laid {a:Addr} {o:HO} {t':Nat} (I:Inv X pins σ H s) (k: ∀b u,s.heap.get? b=some u→h'.get? b=some u) (hp:s.heap.objs.size≤a) (new:qbT X.prog X.w (upd H a o) h' a o):
  Inv X pins σ (upd H a o) { s with heap:=h',toks:=t' }:=I.un (Un.laid k hp (I.hok.fresh hp)) (I.hok.laid k hp new)
theorem Inv.write {x e:Addr} {o:HO} {t':Nat} (I:Inv X pins σ H s) (mu:Mut (H x)) (he:e=x∨H e=some (.own x)) (k: ∀b u,b≠e→s.heap.get? b=some u→h'.get? b=some u) (heo: ∃u,h'.get? e=some u)
  (new:qbT X.prog X.w (upd H x o) h' x o):Inv X pins σ (upd H x o) { s with heap:=h',toks:=t' }:=I.un (Un.write mu he k heo) (I.hok.write mu he k heo new)
theorem Inv.pins_of {pins':List (Addr×Obj)} (I:Inv X pins σ H s) (h: ∀p∈pins',s.heap.get? p.1=some p.2∧H p.1=none∧p.1≠X.env.locals∧p.1∉X.fs∧∀v,p.2.data≠.cell v):Inv X pins' σ H s:=
 ⟨I.ok,I.os,I.bare,I.base,I.loc,I.cell,I.free,I.freeC,fun p hp=>(List.mem_append.mp hp).elim (fun z=>I.pin p (List.mem_append_left _ z)) (h p),I.hok,I.len⟩
theorem qiz {N:List Str} (hN:N.Nodup) {i j:Nat} {x:Str} (a:N[i]? =some x) (b:N[j]? =some x):i=j:=by
 obtain ⟨h1,e1⟩:=List.getElem?_eq_some_iff.mp a
 obtain ⟨h2,e2⟩:=List.getElem?_eq_some_iff.mp b
 exact (List.getElem_inj hN).mp (e1.trans e2.symm)
theorem qgh {M:Model} {A:Around} {E:Value→Shared→Prop} {i:Nat} {x:Str} {v:V} {u:Value} {Q:Unit→Shared→Prop} (I:Inv X pins σ H s) (hN:X.N.Nodup) (hi:X.N[i]? =some x) (hx:Loc X.env.scope x) (r:RelV v u)
  (h: ∀s',Inv X pins (σ.set i (some v)) H s'→(∃a,Heap.SameBut a s.heap s'.heap∧(a=X.env.locals∨X.env.cells.lookup x=some a))→Q () s') (hf:X.fn x=true∨X.env.scope.names.lookup x=some .local:=by first | exact .inl rfl | exact .inr rfl | assumption):wpAny M A (storeName X.env x u) Q E s:=by
 obtain ⟨m,hn,hl⟩:=id I.loc
 have hcls:(X.env.scope.kind== .class||(X.env.scope.kind== .module&&X.env.locals != X.env.globals))=false:=by rw[I.ok.kind]; rfl
 have hiσ:i<σ.length:=by rw[I.len]; exact (List.getElem?_eq_some_iff.mp hi).1
 have cne:=I.cne
 have tracked: ∀{a:Addr} {h':Heap},(∃o,s.heap.get? a=some o∧H a=none)→Heap.SameBut a s.heap h'→HOk X.prog X.w H h':=fun {a h'} ha hs b ob e=>by
  obtain ⟨_,_,hfree⟩:=ha
  refine (I.hok b ob e).stay (fun c w' hc q=>(hs.2 c ?_).trans q) (fun _ q=>q) fun _ _ q=>q
  rintro rfl
  rcases hc with rfl | hc
  ·rw[hfree] at e; cases e
  ·rw[hfree] at hc; cases hc
 rcases hx with hk | hk
 ·refine wpAny_storeName_local hk hn (fun h' hn' hs=> ?_) hcls
  obtain ⟨oL,_,_,hoL,_⟩:=id hn
  refine h _ ⟨I.ok,I.os,I.bare,⟨fun b o e n hb hx=> ?_,fun b o e n hb hx=> ?_,I.base.free,fun b o e hx=> ?_,I.base.tups,I.base.frzs,I.base.tbls⟩,⟨_,hn',fun j y v' e1 e2 e3=> ?_⟩,fun y c e=> ?_,I.free,I.freeC,fun p hp=> ?_,tracked ⟨oL,hoL,I.free⟩ hs,by simpa using I.len⟩ ⟨_,hs,.inl rfl⟩
  ·exact (hs.2 b (Nat.ne_of_lt (Nat.lt_of_lt_of_le (Heap.lt_size e) I.ok.above))).trans (I.base.keep b o e n hb hx)
  ·obtain ⟨sl,e1⟩:=I.base.slot b o e n hb hx
   exact ⟨sl,(hs.2 b (Nat.ne_of_lt (Nat.lt_of_lt_of_le (Heap.lt_size e) I.ok.above))).trans e1⟩
  ·obtain ⟨o',e1⟩:=I.base.there b o e hx
   exact ⟨o',(hs.2 b (Nat.ne_of_lt (Nat.lt_of_lt_of_le (Heap.lt_size e) I.ok.above))).trans e1⟩
  ·by_cases hj:j=i
   ·subst hj
    rw[hi] at e1; cases e1
    rw[List.getElem?_set_self hiσ] at e2
    cases e2
    exact ⟨u,r,.inl ⟨hk,by simp⟩⟩
   ·rw[List.getElem?_set_ne (Ne.symm hj)] at e2
    obtain ⟨u',r',q⟩:=hl j y v' e1 e2 e3
    refine ⟨u',r',?_⟩
    rcases q with ⟨k,e⟩ | ⟨k,c,e,z⟩
    ·refine .inl ⟨k,?_⟩
     have:y≠x:=fun e=>hj (qiz hN e1 (e▸hi))
     simp[this,e]
    ·exact .inr ⟨k,c,e,z.sameBut hs (cne y c e)⟩
  ·obtain ⟨w',z⟩:=I.cell y c e
   exact ⟨w',z.sameBut hs (cne y c e)⟩
  ·obtain ⟨e,n,ne,nf,d⟩:=I.pin p hp
   exact ⟨(hs.2 p.1 ne).trans e,n,ne,nf,d⟩
 ·have hfn:X.fn x=true:=by
   rcases hf with z | z
   ·exact z
   ·rw[z] at hk; cases hk
  obtain ⟨c,hc⟩:=I.ok.has x (.inl hk)
  obtain ⟨w',z⟩:=I.cell x c hc
  refine wpAny_storeName_cell I.ok.kind hk hc z (fun h' hc' hs=> ?_)
  obtain ⟨oc,hoc,hocd⟩:=id z
  refine h { s with heap:=h' } ⟨I.ok,I.os,I.bare,⟨fun b o e n hb hx=> ?_,fun b o e n hb hx=> ?_,I.base.free,fun b o e hx=> ?_,I.base.tups,I.base.frzs,I.base.tbls⟩,⟨m,hn.sameBut hs (Ne.symm (cne x c hc)),fun j y v' e1 e2 e3=> ?_⟩,fun y c' e=> ?_,I.free,I.freeC,fun p hp=> ?_,tracked ⟨oc,hoc,I.freeC x c hc⟩ hs,by simpa using I.len⟩ ⟨c,hs,.inr hc⟩
  ·exact (hs.2 b (Nat.ne_of_lt (Nat.lt_of_lt_of_le (Heap.lt_size e) (I.ok.cab x c hfn hc)))).trans (I.base.keep b o e n hb hx)
  ·obtain ⟨sl,e1⟩:=I.base.slot b o e n hb hx
   exact ⟨sl,(hs.2 b (Nat.ne_of_lt (Nat.lt_of_lt_of_le (Heap.lt_size e) (I.ok.cab x c hfn hc)))).trans e1⟩
  ·obtain ⟨o',e1⟩:=I.base.there b o e hx
   exact ⟨o',(hs.2 b (Nat.ne_of_lt (Nat.lt_of_lt_of_le (Heap.lt_size e) (I.ok.cab x c hfn hc)))).trans e1⟩
  ·by_cases hj:j=i
   ·subst hj
    rw[hi] at e1; cases e1
    rw[List.getElem?_set_self hiσ] at e2
    cases e2
    exact ⟨u,r,.inr ⟨.inl hk,c,hc,hc'⟩⟩
   ·rw[List.getElem?_set_ne (Ne.symm hj)] at e2
    obtain ⟨u',r',q⟩:=hl j y v' e1 e2 e3
    refine ⟨u',r',?_⟩
    rcases q with q | ⟨k,c',e,z'⟩
    ·exact .inl q
    ·refine .inr ⟨k,c',e,z'.sameBut hs ?_⟩
     rintro rfl
     exact hj (qiz hN e1 (I.ok.inj _ _ _ e hc▸hi))
  ·by_cases hcc:c'=c
   ·subst hcc; exact ⟨_,hc'⟩
   ·obtain ⟨w2,z2⟩:=I.cell y c' e
    exact ⟨w2,z2.sameBut hs hcc⟩
  ·obtain ⟨e,n,ne,nf,d⟩:=I.pin p hp
   refine ⟨(hs.2 p.1 ?_).trans e,n,ne,nf,d⟩
   intro q
   rw[q,hoc] at e
   have q':oc=p.2:=Option.some.inj e
   exact d w' (by rw[←q']; exact hocd)
theorem qeu {M:Model} {A:Around} {E:Value→Shared→Prop} {i:Nat} {x:Str} {v:V} {u:Value} {Q:Unit→Shared→Prop} (I:Inv X pins σ H s) (hN:X.N.Nodup) (hi:X.N[i]? =some x) (hx:Loc X.env.scope x) (r:RelV v u)
  (h: ∀s',Inv X pins (σ.set i (some v)) H s'→Q () s') (hf:X.fn x=true∨X.env.scope.names.lookup x=some .local:=by first | exact .inl rfl | exact .inr rfl | assumption):wpAny M A (storeName X.env x u) Q E s:=
 qgh I hN hi hx r (fun s' I' _=>h s' I') hf
theorem Inv.call' {s':Shared} {ch:List Addr} (I:Inv X pins σ H s) (ho:s'.os=s.os) (u:Un (frs X.stack) ch H H' s.heap s'.heap) (hok:HOk X.prog X.w H' s'.heap) (hg:AllBare s'.gens)
  (hch: ∀b∈ch,(b∈X.ex∨X.s₀.heap.objs.size≤b)∧b≠X.env.locals∧(∀x c,X.env.cells.lookup x=some c→c≠b)∧∀p∈X.pn++pins,p.1≠b):Inv X pins σ H' s':=by
 obtain ⟨h',g',d',t',o'⟩:=s'
 have e:o'=s.os:=ho
 subst e
 exact I.call (g':=g') (t':=t') (d':=d') u hok hg hch
end
abbrev XK:=Value→Option Addr→Hp→Prop
abbrev St:=List (Option V)
abbrev VK:=V→Hp→Prop
abbrev TE:=St→Hp→VK→Prop
abbrev TT:=St→Hp→(Bool→Hp→Prop)→Prop
abbrev TA:=St→Hp→(List V→Hp→Prop)→Prop
structure qmh where
 nx:St→Hp→Prop
 rt:VK
 bk:St→Hp→Prop:=fun _ _=>False
 ct:St→Hp→Prop:=fun _ _=>False
abbrev TS:=qmh→St→Hp→Prop
def EP (X:Cx) (pins:List (Addr×Obj)) (σ:St) (Q:VK) (u:Value) (s':Shared):Prop:= ∃v H',Inv X pins σ H' s'∧RelV v u∧Q v H'
def TP (X:Cx) (pins:List (Addr×Obj)) (σ:St) (Q:Bool→Hp→Prop) (b:Bool) (s':Shared):Prop:= ∃H',Inv X pins σ H' s'∧Q b H'
def AP (X:Cx) (pins:List (Addr×Obj)) (σ:St) (Q:List V→Hp→Prop) (us:List Value) (s':Shared):Prop:= ∃vs H',Inv X pins σ H' s'∧Vals vs us∧Q vs H'
def SP (X:Cx) (pins:List (Addr×Obj)) (D:qmh) (f:Flow) (s':Shared):Prop:=
 match f with
 | .next=> ∃σ' H',Inv X pins σ' H' s'∧D.nx σ' H'
 | .brk=> ∃σ' H',Inv X pins σ' H' s'∧D.bk σ' H'
 | .cont=> ∃σ' H',Inv X pins σ' H' s'∧D.ct σ' H'
 | .ret u=> ∃v σ' H',Inv X pins σ' H' s'∧RelV v u∧D.rt v H'
def PE (X:Cx) (e:Expr) (t:TE):Prop:=
 ∀(pins:List (Addr×Obj)) (s:Shared) (σ:St) (H:Hp) (Q:VK),Inv X pins σ H s→t σ H Q→wpAny (model X.prog X.w) X.A (eval e X.env) (EP X pins σ Q) X.xe s
def PT (X:Cx) (e:Expr) (t:TT):Prop:=
 ∀(pins:List (Addr×Obj)) (s:Shared) (σ:St) (H:Hp) (Q:Bool→Hp→Prop),Inv X pins σ H s→t σ H Q→wpAny (model X.prog X.w) X.A (isTrue e X.env (eval e X.env)) (TP X pins σ Q) X.xe s
def PW (X:Cx) (e:Expr) (t:TT):Prop:=
 ∀(whole:Sem Value) (pins:List (Addr×Obj)) (s:Shared) (σ:St) (H:Hp) (Q:Bool→Hp→Prop),Inv X pins σ H s→t σ H Q→wpAny (model X.prog X.w) X.A (isTrue e X.env whole) (TP X pins σ Q) X.xe s
theorem PW.pt {X:Cx} {e:Expr} {t:TT} (h:PW X e t):PT X e t:=h _
def PA (X:Cx) (es:List Expr) (t:TA):Prop:=
 ∀(pos:Pos) (pins:List (Addr×Obj)) (s:Shared) (σ:St) (H:Hp) (Q:List V→Hp→Prop),Inv X pins σ H s→t σ H Q→wpAny (model X.prog X.w) X.A (spliced (backTo pos (starEach es X.env))) (AP X pins σ Q) X.xe s
def PS (X:Cx) (st:Stmt) (t:TS):Prop:=
 ∀(pins:List (Addr×Obj)) (s:Shared) (σ:St) (H:Hp) (D:qmh),Inv X pins σ H s→t D σ H→wpAny (model X.prog X.w) X.A (exec st X.env) (SP X pins D) X.xe s
def PSs (X:Cx) (st:List Stmt) (t:TS):Prop:=
 ∀(pins:List (Addr×Obj)) (s:Shared) (σ:St) (H:Hp) (D:qmh),Inv X pins σ H s→t D σ H→wpAny (model X.prog X.w) X.A (execs st X.env) (SP X pins D) X.xe s
theorem thn {α:Type} {t:Sem α} {Q Q':α→Shared→Prop} {M:Model} {A:Around} {E:Value→Shared→Prop} {s:Shared} (h:wpAny M A t Q E s) (hQ: ∀a s,Q a s→Q' a s):wpAny M A t Q' E s:=wpAny_mono h hQ fun _ _ x=>x
end L2
namespace L2
open PySem PySem.Spec PyProof.Rows
section
variable {X:Cx}
theorem bin {a b:Expr} {ta tb:TE} (ha:PE X a ta) (hb:PE X b tb) {pins:List (Addr×Obj)} {s:Shared} {σ:St} {H:Hp} {R:V→V→Hp→Prop} (I:Inv X pins σ H s) (h:ta σ H fun x H1=>tb σ H1 fun y H2=>R x y H2)
  {α:Type} {Q:α→Shared→Prop} {f:Value→Value→Sem α}
  (hf: ∀v u s2 x y H2,Inv X pins σ H2 s2→RelV x v→RelV y u→R x y H2→wpAny (model X.prog X.w) X.A (f v u) Q X.xe s2):
  wpAny (model X.prog X.w) X.A (eval a X.env) (fun v s₁=>wpAny (model X.prog X.w) X.A (eval b X.env) (fun u s₂=>wpAny (model X.prog X.w) X.A (f v u) Q X.xe s₂) X.xe s₁) X.xe s:=by
 refine thn (ha pins s σ H _ I h) fun v s1 ⟨x,H1,I1,r1,q1⟩=> ?_
 refine thn (hb pins s1 σ H1 _ I1 q1) fun u s2 ⟨y,H2,I2,r2,q2⟩=> ?_
 exact hf v u s2 x y H2 I2 r1 r2 q2
def qpS (i:Nat):TE:=fun σ H Q=> ∃v,σ[i]? =some (some v)∧Q v H
def tC (v:V):TE:=fun _ H Q=>Q v H
theorem qqy {i:Nat} {x:Str} {pos:Pos} (hN:X.N[i]? =some x) (hv:Vis X.env.scope x) (hd:(x==("__debug__" :Str))=false:=by decide) (hcd:(x==("__classdict__" :Str))=false:=by decide):PE X (.Name x pos) (qpS i):=by
 intro pins s σ H Q I h
 obtain ⟨v,e,h⟩:=h
 obtain ⟨m,hn,hl⟩:=I.loc
 obtain ⟨u,r,l⟩:=hl i x v hN e hv
 have fin:EP X pins σ Q u s:=⟨v,H,I,r,h⟩
 rcases l with ⟨hk,hm⟩ | ⟨hk,c,hc,hcell⟩
 ·exact wpAny_Name (wpAny_loadName_local I.ok.kind hk hn hm fin) hd
 ·rcases hk with hk | hk
  ·exact wpAny_Name (wpAny_loadName_cell I.ok.kind hk hc hcell fin) hd
  ·exact wpAny_Name (wpAny_loadName_free I.ok.kind hk hc hcell fin hcd) hd
theorem qaD {i j pos}:PE X (.Constant (.int i) j pos) (tC (.int i)):=fun _ _ _ H _ I h=>wpAny_Constant_int ⟨.int i,H,I.tok _,⟨_,rfl⟩,h⟩
theorem qqA {b j pos}:PE X (.Constant (.bool b) j pos) (tC (.bl b)):=fun _ _ _ H _ I h=>Constant_bool ⟨.bl b,H,I,rfl,h⟩
theorem qkN {x j pos}:PE X (.Constant (.str x) j pos) (tC (.str x)):=fun _ _ _ H _ I h=>Calls.Constant_str ⟨.str x,H,I.tok _,⟨_,rfl⟩,h⟩
def Gl (X:Cx) (x:Str):Prop:=X.env.kindOf x=some .globalImplicit
theorem qhF {E:Value→Shared→Prop} {pins:List (Addr×Obj)} {s:Shared} {σ:St} {H:Hp} {x:Str} {u:Value} {pos:Pos} {Q:Value→Shared→Prop} (I:Inv X pins σ H s) (hg:Gl X x) (hm:X.mg x=some u) (h:Q u s)
  (hd:(x==("__debug__" :Str))=false:=by decide):wpAny (model X.prog X.w) X.A (eval (.Name x pos) X.env) Q E s:=
 Calls.Name_function_global I.ok.kind hg (Calls.loadGlobal_global (by rw[I.ok.glob]; exact I.mod.glob.keeps I.bk) hm h) hd
theorem qdM {E:Value→Shared→Prop} {pins:List (Addr×Obj)} {s:Shared} {σ:St} {H:Hp} {x:Str} {u:Value} {pos:Pos} {Q:Value→Shared→Prop} (I:Inv X pins σ H s) (hg:Gl X x) (hm:X.mg x=none) (hv:bootBuiltins x=some u) (h:Q u s)
  (hn:x≠ "__name__" :=by decide) (hd:(x==("__debug__" :Str))=false:=by decide):wpAny (model X.prog X.w) X.A (eval (.Name x pos) X.env) Q E s:=by
 obtain ⟨mb,h1,h2⟩:=I.mod.blt
 exact Calls.Name_function_global I.ok.kind hg (Calls.loadGlobal_builtin (by rw[I.ok.glob]; exact I.mod.glob.keeps I.bk) hm (by rw[I.ok.blt]; exact h1.keeps I.bk) ((h2 x hn).trans hv) h) hd
theorem qc2 {x:Str} {v:V} {u:Value} {pos:Pos} (hg:Gl X x) (hm:X.mg x=some u) (r:RelV v u) (hd:(x==("__debug__" :Str))=false:=by decide):PE X (.Name x pos) (tC v):=
 fun _ _ _ H _ I h=>qhF I hg hm ⟨v,H,I,r,h⟩ hd
theorem qc3 {x:Str} {v:V} {u:Value} {pos:Pos} (hg:Gl X x) (hm:X.mg x=none) (hv:bootBuiltins x=some u) (r:RelV v u) (hn:x≠ "__name__" :=by decide) (hd:(x==("__debug__" :Str))=false:=by decide):PE X (.Name x pos) (tC v):=
 fun _ _ _ H _ I h=>qdM I hg hm hv ⟨v,H,I,r,h⟩ hn hd
variable {a b:Expr} {ta tb:TE} {pos:Pos}
def PC (X:Cx) (op:CmpOp) (a b:Expr) (t:TE):Prop:=
 ∀(pins:List (Addr×Obj)) (s:Shared) (σ:St) (H:Hp) (Q:VK),Inv X pins σ H s→t σ H Q→
  wpAny (model X.prog X.w) X.A (eval a X.env) (fun v s₁=>wpAny (model X.prog X.w) X.A (eval b X.env) (fun u s₂=>wpAny (model X.prog X.w) X.A (compareOp op v u) (EP X pins σ Q) X.xe s₂) X.xe s₁) X.xe s
theorem qfO (b:Expr) {op:CmpOp} (h:op≠.In) (h2:op≠.NotIn):behindInMarks op b=false:=by
 have e1:(op==CmpOp.In)=false:=by cases op<;>first | rfl | exact absurd rfl h
 have e2:(op==CmpOp.NotIn)=false:=by cases op<;>first | rfl | exact absurd rfl h2
 cases b<;>simp[behindInMarks,e1,e2]
def tB (t:TE):TT:=fun σ H Q=>t σ H fun x H1=> ∃c,x= .bl c∧Q c H1
theorem qty {op:CmpOp} {t:TE} (h:PC X op a b t) (h1:behindInMarks op b=false:=by first | exact qfO _ (by decide) (by decide) | rfl):PT X (.Compare a [op] [b] pos) (tB t):=by
 intro pins s σ H Q I hw
 refine wpAny_isTrue_Compare1 (thn (h pins s σ H _ I hw) fun v s1 h1=>thn h1 fun u s2 h2=>thn h2 fun c s3 ⟨x,H1,I1,r1,q1⟩=> ?_) h1
 obtain ⟨d,rfl,q⟩:=q1
 cases r1
 exact wpAny_truthy_bool ⟨H1,I1,q⟩
theorem qei {e:Expr} {t:TE} (h:PE X e t) (he: ∀whole,isTrue e X.env whole=(do let v ←whole; standAt e.pos; holding [v] (truthy v)):=by intro _; rfl):PT X e (tB t):=by
 intro pins s σ H Q I hw
 refine isTrue_plain (thn (h pins s σ H _ I hw) fun v s1 ⟨x,H1,I1,r1,q1⟩=> ?_) (he _)
 obtain ⟨d,rfl,q⟩:=q1
 cases r1
 exact wpAny_truthy_bool ⟨H1,I1,q⟩
variable {tA tB':TT} {qdB:List Expr}
def qt6 (t u:TT):TT:=fun σ H Q=>t σ H fun c H1=>if c=true then u σ H1 Q else Q false H1
def tOr (t u:TT):TT:=fun σ H Q=>t σ H fun c H1=>if c=true then Q true H1 else u σ H1 Q
def qt2 (t:TT):TT:=fun σ H Q=>t σ H fun c H1=>Q (!c) H1
theorem qkE (ha:PT X a tA):PW X (.BoolOp .And [a] pos) tA:=by
 intro wh pins s σ H Q I h
 refine isTrue_and (thn (ha pins s σ H Q I h) fun c s1 e=> ?_)
 cases c with
 | true=>exact isTrue_and_nil e
 | false=>exact e
theorem qin (ha:PT X a tA):PW X (.BoolOp .Or [a] pos) tA:=by
 intro wh pins s σ H Q I h
 refine isTrue_or (thn (ha pins s σ H Q I h) fun c s1 e=> ?_)
 cases c with
 | false=>exact isTrue_or_nil e
 | true=>exact e
theorem qnX (ha:PT X a tA) (hb:PW X (.BoolOp .And (b::qdB) pos) tB'):PW X (.BoolOp .And (a::b::qdB) pos) (qt6 tA tB'):=by
 intro wh pins s σ H Q I h
 refine isTrue_and (thn (ha pins s σ H _ I h) fun c s1 ⟨H1,I1,q1⟩=> ?_)
 cases c with
 | true=>exact hb wh pins s1 σ H1 Q I1 q1
 | false=>exact ⟨H1,I1,q1⟩
theorem qmC (ha:PT X a tA) (hb:PW X (.BoolOp .Or (b::qdB) pos) tB'):PW X (.BoolOp .Or (a::b::qdB) pos) (tOr tA tB'):=by
 intro wh pins s σ H Q I h
 refine isTrue_or (thn (ha pins s σ H _ I h) fun c s1 ⟨H1,I1,q1⟩=> ?_)
 cases c with
 | true=>exact ⟨H1,I1,q1⟩
 | false=>exact hb wh pins s1 σ H1 Q I1 q1
theorem qej (ha:PT X a tA):PT X (.UnaryOp .Not a pos) (qt2 tA):=by
 intro pins s σ H Q I h
 exact isTrue_not (ha pins s σ H (fun c H1=>Q (!c) H1) I h)
def qrT (ta tb:TE):TE:=fun σ H Q=>ta σ H fun x H1=> ∃c,x= .bl c∧if c=true then tb σ H1 Q else Q (.bl false) H1
def qrN (ta:TE):TE:=fun σ H Q=>ta σ H fun x H1=> ∃c,x= .bl c∧Q (.bl (!c)) H1
theorem qkO {op} {t:TE} (h:PE X a t):PE X (.BoolOp op [a] pos) t:=fun pins s σ H Q I hw=>BoolOp_one (h pins s σ H Q I hw)
theorem qkQ (ha:PE X a ta) (hb:PE X (.BoolOp .And (b::qdB) pos) tb):PE X (.BoolOp .And (a::b::qdB) pos) (qrT ta tb):=by
 intro pins s σ H Q I h
 refine BoolOp_and (thn (ha pins s σ H _ I h) fun v s1 ⟨x,H1,I1,r1,q1⟩=> ?_)
 obtain ⟨c,rfl,q1⟩:=q1
 cases r1
 refine wpAny_truthy_bool ?_
 cases c with
 | true=>exact hb pins s1 σ H1 Q I1 q1
 | false=>exact ⟨.bl false,H1,I1,rfl,q1⟩
theorem qn3 (ha:PE X a ta):PE X (.UnaryOp .Not a pos) (qrN ta):=by
 intro pins s σ H Q I h
 refine UnaryOp_ (thn (ha pins s σ H _ I h) fun v s1 ⟨x,H1,I1,r1,q1⟩=> ?_)
 obtain ⟨c,rfl,q1⟩:=q1
 cases r1
 exact not_of (wpAny_truthy_bool ⟨.bl (!c),H1,I1,rfl,q1⟩)
def tIf (t:TT) (ta tb:TE):TE:=fun σ H Q=>t σ H fun c H1=>if c=true then ta σ H1 Q else tb σ H1 Q
theorem qmI {c:Expr} (hc:PT X c tA) (ha:PE X a ta) (hb:PE X b tb):PE X (.IfExp c a b pos) (tIf tA ta tb):=by
 intro pins s σ H Q I h
 refine wpAny_IfExp (thn (hc pins s σ H _ I h) fun d s1 ⟨H1,I1,q1⟩=> ?_)
 cases d with
 | true=>exact ha pins s1 σ H1 Q I1 q1
 | false=>exact hb pins s1 σ H1 Q I1 q1
end
end L2
namespace L2
open PySem PySem.Spec PyProof.Rows
def SqL (K:PySem.W.Frag) (H:Hp) (a:Addr) (xs:List V):Prop:=
 Rd H a (.lst xs)∨
  ∃(o:Obj) (its:Array Value) (n:Nat),K.lookup a=some o∧o.cls= .type "list" ∧o.dict=none∧o.data= .seq its n∧its.size≤sizeLine∧Vals xs its.toList
def SqT (K:PySem.W.Frag) (H:Hp) (a:Addr) (xs:List V):Prop:=
 Rd H a (.tup xs)∨
  ∃(o:Obj) (its:Array Value) (n:Nat),K.lookup a=some o∧o.cls= .type "tuple" ∧o.data= .seq its n∧its.size≤sizeLine∧Vals xs its.toList
def quN:Value→Option V
 | .none=>some .non
 | .bool b=>some (.bl b)
 | .int i _=>some (.int i)
 | .str x _=>some (.str x)
 | .bytes b _=>some (.byt b)
 | .float b _=>some (.flt b)
 | .ref a=>some (.ref a)
 | .type n=>some (.ty n)
 | _=>none
theorem RelV.abs {x:V} {u:Value} (r:RelV x u):quN u=some x:=by
 cases x with
 | non=>cases r; rfl
 | bl _=>cases r; rfl
 | int _=>obtain ⟨t,rfl⟩:=r; rfl
 | str _=>obtain ⟨t,rfl⟩:=r; rfl
 | byt _=>obtain ⟨t,rfl⟩:=r; rfl
 | flt _=>obtain ⟨t,rfl⟩:=r; rfl
 | ref _=>cases r; rfl
 | ty _=>cases r; rfl
theorem RelV.inj {x y:V} {u:Value} (r:RelV x u) (q:RelV y u):x=y:=Option.some.inj (r.abs.symm.trans q.abs)
theorem Vals.inj: ∀{xs ys:List V} {us:List Value},Vals xs us→Vals ys us→xs=ys
 | _,_,_,.nil,.nil=>rfl
 | _,_,_,.cons r t,.cons r' t'=>by rw[r.inj r',Vals.inj t t']
section
variable {X:Cx} {pins:List (Addr×Obj)} {σ:St} {H:Hp} {s:Shared} {a:Addr} {xs ys:List V}
theorem SqL.of {K:PySem.W.Frag} (h:H a=some (.lst xs)):SqL K H a xs:=.inl (.inl h)
theorem SqT.of {K:PySem.W.Frag} (h:H a=some (.tup xs)):SqT K H a xs:=.inl (.inl h)
theorem Inv.list (I:Inv X pins σ H s) (h:SqL X.K H a xs): ∃its:List Value,Vals xs its∧PlainL s.heap a its.toArray∧xs.length≤sizeLine:=by
 rcases h with h | ⟨o,its,n,hk,hc,hd,hs,hz,r⟩
 ·obtain ⟨z,its,n,r,e⟩:=h.ok I.hok
  exact ⟨its,r,⟨_,n,e,rfl,rfl,rfl⟩,z⟩
 ·refine ⟨its.toList,r,⟨o,n,I.kIn a o hk,hc,hd,by simpa using hs⟩,?_⟩
  have e:=r.length
  simp only[Array.length_toList] at e
  omega
theorem Inv.tuple (I:Inv X pins σ H s) (h:SqT X.K H a xs): ∃its:List Value,Vals xs its∧IsTup s.heap a its.toArray∧xs.length≤sizeLine:=by
 rcases h with h | ⟨o,its,n,hk,hc,hs,hz,r⟩
 ·obtain ⟨z,its,r,p⟩:=h.ok I.hok
  exact ⟨its,r,p,z⟩
 ·refine ⟨its.toList,r,⟨o,I.kIn a o hk,hc,n,by simpa using hs⟩,?_⟩
  have e:=r.length
  simp only[Array.length_toList] at e
  omega
theorem Inv.list_inj (I:Inv X pins σ H s) (h:SqL X.K H a xs) (h':SqL X.K H a ys):xs=ys:=by
 obtain ⟨its,r,⟨o,n,e,_,_,d⟩,_⟩:=I.list h
 obtain ⟨its',r',⟨o',n',e',_,_,d'⟩,_⟩:=I.list h'
 rw[e] at e'; cases e'
 rw[d] at d'
 injection d' with d1 _
 have:its=its':=by simpa using congrArg Array.toList d1
 subst this
 exact r.inj r'
theorem Inv.tuple_inj (I:Inv X pins σ H s) (h:SqT X.K H a xs) (h':SqT X.K H a ys):xs=ys:=by
 obtain ⟨its,r,⟨o,e,_,n,d⟩,_⟩:=I.tuple h
 obtain ⟨its',r',⟨o',e',_,n',d'⟩,_⟩:=I.tuple h'
 rw[e] at e'; cases e'
 rw[d] at d'
 injection d' with d1 _
 have:its=its':=by simpa using congrArg Array.toList d1
 subst this
 exact r.inj r'
end
abbrev Cx.wish (X:Cx) (E:Value→Shared→Prop):Cx:={ X with xe:=E }
abbrev Cx.nox (X:Cx):Cx:=X.wish fun _ _=>False
theorem Cx.Ok.wish {X:Cx} (ok:X.Ok) (E:Value→Shared→Prop):(X.wish E).Ok:=
 ⟨ok.mod,ok.kind,ok.glob,ok.blt,ok.above,ok.inj,ok.has,ok.cab,ok.hd,ok.frames,ok.stk,ok.exf,ok.bs,ok.bsz,ok.noex,ok.exfs,ok.funs,ok.frf⟩
theorem Cx.Ok.unwish {X:Cx} {E:Value→Shared→Prop} (ok:(X.wish E).Ok):X.Ok:=
 ⟨ok.mod,ok.kind,ok.glob,ok.blt,ok.above,ok.inj,ok.has,ok.cab,ok.hd,ok.frames,ok.stk,ok.exf,ok.bs,ok.bsz,ok.noex,ok.exfs,ok.funs,ok.frf⟩
section
variable {X:Cx} {pins:List (Addr×Obj)} {σ:St} {H:Hp} {s:Shared} {E:Value→Shared→Prop}
theorem Inv.wish (I:Inv X pins σ H s) (E:Value→Shared→Prop):Inv (X.wish E) pins σ H s:=⟨I.ok.wish E,I.os,I.bare,I.base,I.loc,I.cell,I.free,I.freeC,I.pin,I.hok,I.len⟩
theorem Inv.unwish (I:Inv (X.wish E) pins σ H s):Inv X pins σ H s:=⟨I.ok.unwish,I.os,I.bare,I.base,I.loc,I.cell,I.free,I.freeC,I.pin,I.hok,I.len⟩
theorem SP.unwish {D:qmh} {f:Flow} {s':Shared} (h:SP (X.wish E) pins D f s'):SP X pins D f s':=by
 cases f with
 | next=>obtain ⟨σ',H',I,q⟩:=h; exact ⟨σ',H',I.unwish,q⟩
 | brk=>obtain ⟨σ',H',I,q⟩:=h; exact ⟨σ',H',I.unwish,q⟩
 | cont=>obtain ⟨σ',H',I,q⟩:=h; exact ⟨σ',H',I.unwish,q⟩
 | ret u=>obtain ⟨v,σ',H',I,r,q⟩:=h; exact ⟨v,σ',H',I.unwish,r,q⟩
theorem PSs.nox {st:List Stmt} {t:TS} (h:PSs X.nox st t):PSs X st t:=fun pins s σ H D I hw=>
 wpAny_mono (h pins s σ H D (I.wish _) hw) (fun _ _ q=>q.unwish) fun _ _ z=>False.elim z
end
section
variable {X:Cx} {st:Stmt} {qdB:List Stmt} {t u:TS} {e:Expr} {te:TE} {pos:Pos}
def qrO:TS:=fun D σ H=>D.nx σ H
def qt0 (t u:TS):TS:=fun D σ H=>t { D with nx:=u D } σ H
theorem qch:PSs X [] qrO:=fun _ _ σ H _ I h=>wpAny_execs_nil ⟨σ,H,I,h⟩
theorem qaA (h1:PS X st t) (h2:PSs X qdB u):PSs X (st::qdB) (qt0 t u):=by
 intro pins s σ H D I h
 refine wpAny_execs_cons (thn (h1 pins s σ H { D with nx:=u D } I h) fun f s1 q=> ?_)
 cases f with
 | next=>
  obtain ⟨σ',H',I',q⟩:=q
  exact h2 pins s1 σ' H' D I' q
 | ret v=>exact q
 | brk=>exact q
 | cont=>exact q
theorem qaW (h1:PS X st t):PSs X [st] t:=by
 intro pins s σ H D I h
 refine wpAny_execs_cons (thn (h1 pins s σ H D I h) fun f s1 q=> ?_)
 cases f with
 | next=>exact wpAny_execs_nil q
 | ret v=>exact q
 | brk=>exact q
 | cont=>exact q
theorem Inv.quiet {pins:List (Addr×Obj)} {σ:St} {H:Hp} {s:Shared} (I:Inv X pins σ H s):interactive X.env=false:=by simp[interactive,I.ok.kind]
def qrR (te:TE):TS:=fun D σ H=>te σ H fun _ H1=>D.nx σ H1
theorem qbX (he:PE X e te) (hs:swapsWith e none pos.line X.env=pure false:=by rfl):PS X (.Expr e pos) (qrR te):=by
 intro pins s σ H D I h
 exact wpAny_Expr_any (thn (he pins s σ H _ I h) fun v s1 ⟨x,H1,I1,r1,q1⟩=>⟨σ,H1,I1,q1⟩) I.quiet hs
def qt1 (te:TE):TS:=fun D σ H=>te σ H D.rt
theorem qb9 (he:PE X e te):PS X (.Return (some e) pos) (qt1 te):=by
 intro pins s σ H D I h
 exact wpAny_Return_some (thn (he pins s σ H _ I h) fun v s1 ⟨x,H1,I1,r1,q1⟩=>⟨x,σ,H1,I1,r1,q1⟩)
def qt4 (c:TT) (t u:TS):TS:=fun D σ H=>c σ H fun b H1=>if b=true then t D σ H1 else u D σ H1
theorem qeJ {c:Expr} {a b:List Stmt} {tc:TT} (hc:PT X c tc) (ha:PSs X a t) (hb:PSs X b u):PS X (.If c a b pos) (qt4 tc t u):=by
 intro pins s σ H D I h
 refine wpAny_If (thn (hc pins s σ H _ I h) fun d s1 ⟨H1,I1,q1⟩=> ?_)
 cases d with
 | true=>exact ha pins s1 σ H1 D I1 q1
 | false=>exact hb pins s1 σ H1 D I1 q1
def qp7:TS:=fun _ _ _=>False
theorem qb7 {sts:List Stmt}:PSs X sts qp7:=fun _ _ _ _ _ _ h=>h.elim
end
abbrev TG:=V→St→Hp→(St→Hp→Prop)→Prop
abbrev TGs:=List V→St→Hp→(St→Hp→Prop)→Prop
def PG (X:Cx) (target:Expr) (t:TG):Prop:=
 ∀(pins:List (Addr×Obj)) (s:Shared) (σ:St) (H:Hp) (v:V) (u:Value) (Q:St→Hp→Prop),Inv X pins σ H s→RelV v u→t v σ H Q→
  wpAny (model X.prog X.w) X.A (assign target X.env u) (fun _ s'=> ∃σ' H',Inv X pins σ' H' s'∧Q σ' H') X.xe s
def PGs (X:Cx) (ts:List Expr) (t:TGs):Prop:=
 ∀(pins:List (Addr×Obj)) (s:Shared) (σ:St) (H:Hp) (vs:List V) (us:List Value) (Q:St→Hp→Prop),Inv X pins σ H s→Vals vs us→t vs σ H Q→
  wpAny (model X.prog X.w) X.A (assignInOrder ((assignEach ts X.env).map (·.2)) us) (fun _ s'=> ∃σ' H',Inv X pins σ' H' s'∧Q σ' H') X.xe s
abbrev quQ:=V→V→V→Hp→(Hp→Prop)→Prop
section
variable {X:Cx} {pos:Pos}
def qph (i:Nat):TG:=fun v σ H Q=>Q (σ.set i (some v)) H
theorem qay {i:Nat} {x:Str} (hN:X.N.Nodup) (hi:X.N[i]? =some x) (hx:Loc X.env.scope x) (hf:X.fn x=true∨X.env.scope.names.lookup x=some .local:=by first | exact .inl rfl | exact .inr rfl | assumption):PG X (.Name x pos) (qph i):=by
 intro pins s σ H v u Q I r h
 exact wpAny_assign_Name (qeu I hN hi hx r (fun s' I'=>⟨_,H,I',h⟩) hf)
def quH:TGs:=fun vs σ H Q=>vs=[]∧Q σ H
def qsZ (t:TG) (u:TGs):TGs:=fun vs σ H Q=> ∃v r,vs=v::r∧t v σ H fun σ' H'=>u r σ' H' Q
theorem qkM:PGs X [] quH:=by
 intro pins s σ H vs us Q I r h
 obtain ⟨e,h⟩:=h
 subst e
 cases r
 exact assignInOrder_nil ⟨σ,H,I,h⟩
theorem qfI {e:Expr} {es:List Expr} {t:TG} {u:TGs} (h1:PG X e t) (h2:PGs X es u)
  (hs:(assignEach (e::es) X.env).map (·.2)=assign e X.env::(assignEach es X.env).map (·.2):=by rfl):PGs X (e::es) (qsZ t u):=by
 intro pins s σ H vs us Q I r h
 obtain ⟨v,vr,e1,h⟩:=h
 subst e1
 cases r with
 | cons r rr=>
  rw[hs]
  refine assignInOrder_cons (thn (h1 pins s σ H _ _ _ I r h) fun _ s1 ⟨σ1,H1,I1,q1⟩=> ?_)
  exact h2 pins s1 σ1 H1 _ _ Q I1 rr q1
def qtC (K:PySem.W.Frag) (n:Nat) (t:TGs):TG:=fun v σ H Q=> ∃a xs,v= .ref a∧SqT K H a xs∧xs.length=n∧t xs σ H Q
theorem qn2 {es:List Expr} {k:Nat} {t:TGs} {n:Nat} (hc:X.calm=true) (h:PGs X es t)
  (hn:(assignEach es X.env).length=n:=by rfl) (hst:(assignEach es X.env).findIdx? (·.1)=none:=by rfl):PG X (.Tuple es k pos) (qtC X.K n t):=by
 intro pins s σ H v u Q I r hw
 obtain ⟨a,xs,e1,hq,hl,hw⟩:=hw
 subst e1
 cases r
 obtain ⟨its,rv,ht,hz⟩:=I.tuple hq
 refine assign_Tuple_tuple (I.ok.hd hc) ht (by simp[hn,←hl,rv.length]) hst fun h' hx=> ?_
 have I1:Inv X pins σ H { s with heap:=h' }:=I.kept (t':=s.toks) fun b o e=>hx b o (Nat.ne_of_lt (Heap.lt_size e)) e
 exact h pins _ σ H xs _ Q I1 (by simpa using rv) hw
def gSub (to ti:TE) (t:quQ):TG:=fun v σ H Q=>to σ H fun o H1=>ti σ H1 fun i H2=>t o i v H2 fun H3=>Q σ H3
def qtp (te:TE) (g:TG):TS:=fun D σ H=>te σ H fun x H1=>g x σ H1 D.nx
theorem qqu {tg e:Expr} {te:TE} {g:TG} (he:PE X e te) (hg:PG X tg g) (hs:swapsWithSole [tg] e pos.line X.env=pure false:=by rfl) (hw:swappedStores [tg] e X.env=pure none:=by rfl)
  (h1:(assignEach [tg] X.env).map (·.2)=[assign tg X.env]:=by rfl):PS X (.Assign [tg] e pos) (qtp te g):=by
 intro pins s σ H D I h
 refine wpAny_Assign_stores (thn (he pins s σ H _ I h) fun v s1 ⟨x,H1,I1,r1,q1⟩=> ?_) hs hw
 rw[h1]
 exact thn (hg pins s1 σ H1 x v _ I1 r1 q1) fun _ s2 q=>q
theorem qfe {i:Nat} {x:Str} {e:Expr} {te:TE} {pos':Pos} (hN:X.N.Nodup) (hi:X.N[i]? =some x) (hx:Loc X.env.scope x) (he:PE X e te) (hs:swapsWith e (some (.Name x pos')) pos.line X.env=pure false:=by rfl) (hf:X.fn x=true∨X.env.scope.names.lookup x=some .local:=by first | exact .inl rfl | exact .inr rfl | assumption):
  PS X (.Assign [.Name x pos'] e pos) (qtp te (qph i)):=by
 intro pins s σ H D I h
 refine wpAny_Assign_Name (thn (he pins s σ H _ I h) fun v s1 ⟨y,H1,I1,r1,q1⟩=> ?_) hs
 exact qeu I1 hN hi hx r1 (fun s2 I2=>⟨_,H1,I2,q1⟩) hf
def qtn (i j:Nat) (ta:TA):TS:=fun D σ H=>ta σ H fun vs H1=> ∃v w,vs=[v,w]∧D.nx ((σ.set i (some v)).set j (some w)) H1
theorem qqt {i j:Nat} {x y:Str} {a b:Expr} {ta:TA} {px py pt:Pos} {kt k2 pt2} (hc:X.calm=true) (hN:X.N.Nodup) (hi:X.N[i]? =some x) (hj:X.N[j]? =some y) (hij:i≠j)
  (hx:X.env.scope.names.lookup x=some .local) (hy:X.env.scope.names.lookup y=some .local) (ha:PA X [a,b] ta)
  (hw:swappedStores [.Tuple [.Name x px,.Name y py] kt pt] (.Tuple [a,b] k2 pt2) X.env=pure (some [x,y]))
  (hs:swapsWithSole [.Tuple [.Name x px,.Name y py] kt pt] (.Tuple [a,b] k2 pt2) pos.line X.env=pure false:=by rfl):
  PS X (.Assign [.Tuple [.Name x px,.Name y py] kt pt] (.Tuple [a,b] k2 pt2) pos) (qtn i j ta):=by
 intro pins s σ H D I h
 rw[exec_Assign_arm]
 refine wpAny_bind (wpAny_standAt ?_)
 rw[hs]
 refine wpAny_bind (wpAny_pure ?_)
 rw[if_neg (by decide)]
 refine wpAny_bind (Tuple_ (thn (ha _ pins s σ H _ I h) fun us s1 ⟨vs,H1,I1,r1,q1⟩=> ?_))
 obtain ⟨v,w,e1,q1⟩:=q1
 subst e1
 obtain ⟨u1,u2,rfl,rv,rw'⟩: ∃u1 u2,us=[u1,u2]∧RelV v u1∧RelV w u2:=by
  cases r1 with
  | cons p q=>
   cases q with
   | cons p' q'=>
    cases q'
    exact ⟨_,_,rfl,p,p'⟩
 refine wpAny_newObj_type ?_ (by show 2≤sizeLine; decide)
 have I2:Inv X pins σ H1 { s1 with heap:=s1.heap.push { cls:=.type "tuple",data:=.seq [u1,u2].toArray } }:=I1.kept (t':=s1.toks) fun b o e=>Heap.get?_push_of_some _ e
 rw[hw]
 refine wpAny_bind (wpAny_pure ?_)
 show wpAny (model X.prog X.w) X.A (do rule "assign.swapped-stores"; let items ←unpackItems (.ref s1.heap.objs.size) 2 none; assignInOrder [fun v=>bindName X.env y v,fun v=>bindName X.env x v] items.reverse; pure Flow.next) _ _ _
 refine wpAny_bind (wpAny_rule (wpAny_bind (unpackItems_tuple (items:= #[u1,u2]) (I.ok.hd hc) (IsTup.new s1.heap _) fun h' hx'=> ?_)))
 have I3:=I2.kept (h':=h') (t':=s1.toks) fun b o e=>hx' b o (Nat.ne_of_lt (Heap.lt_size e)) e
 show wpAny _ _ (assignInOrder [fun v=>bindName X.env y v,fun v=>bindName X.env x v] [u2,u1]>>=fun _=>pure Flow.next) _ _ _
 refine wpAny_bind (assignInOrder_cons (wpAny_bindName (qeu I3 hN hj (.inl hy) rw' (fun s2 I4=> ?_) (.inr hy))))
 refine assignInOrder_cons (wpAny_bindName (qeu I4 hN hi (.inl hx) rv (fun s3 I5=>assignInOrder_nil (wpAny_pure ?_)) (.inr hx)))
 rw[List.set_comm _ _ (Ne.symm hij)] at I5
 exact ⟨_,H1,I5,q1⟩
end
section
variable {X:Cx} {pos:Pos}
end
structure It where
 go:Nat→Hp→Prop
 yld:Nat→Hp→V→Hp→Prop
 stop:Nat→Hp→Prop
def qj0 (X:Cx) (pins:List (Addr×Obj)) (H:Hp) (b:Addr):Prop:=
 H b=none∧b≠X.env.locals∧b∉X.fs∧(b∈X.ex∨X.s₀.heap.objs.size≤b)∧(∀x c,X.env.cells.lookup x=some c→c≠b)∧∀p∈X.pn++pins,p.1≠b
theorem Inv.fpOk {X:Cx} {pins:List (Addr×Obj)} {σ:St} {H H':Hp} {s:Shared} {b:Addr} (I:Inv X pins σ H s) (hb:s.heap.objs.size≤b) (hn:H' b=none):qj0 X pins H' b:=by
 refine ⟨hn,Nat.ne_of_gt (Nat.lt_of_lt_of_le I.lt hb),I.nofs hb,.inr (Nat.le_trans I.sz hb),fun x c e z=> ?_,fun p hp z=> ?_⟩
 ·obtain ⟨v,q⟩:=I.cell x c e
  exact absurd (Nat.lt_of_lt_of_le q.lt (by rw[z]; exact hb)) (Nat.lt_irrefl _)
 ·exact absurd (Nat.lt_of_lt_of_le (Heap.lt_size (I.pin p hp).1) (by rw[z]; exact hb)) (Nat.lt_irrefl _)
structure qpD (P:Program) (w:World) (K:PySem.W.Frag) (tg:Expr) (J:It) (fp:List Addr) (it:Addr) (tn:Nat→Heap→Prop):Prop where
 mem:it∈fp
 obj: ∀i h,tn i h→∀b∈fp,∃o,h.get? b=some o∧∀v,o.data≠.cell v
 keep: ∀i h h',tn i h→(∀b∈fp,∀o,h.get? b=some o→h'.get? b=some o)→tn i h'
 item: ∀(X:Cx),X.prog=P→X.w=w→X.K=K→X.calm=true→∀(i:Nat) (pins:List (Addr×Obj)) (s:Shared) (σ:St) (H:Hp) (E:Value→Shared→Prop),Inv X pins σ H s→(∀b∈fp,qj0 X pins H b)→tn i s.heap→J.go i H→
  wpAny (model P w) X.A (pyNext (.ref it)) (fun r s1=> ∃u,r=some u∧
   wpAny (model P w) X.A (letOwnedTupleGo tg (.ref it) u) (fun _ s2=> ∃x H',Inv X pins σ H' s2∧RelV x u∧J.yld i H x H'∧tn (i+1) s2.heap∧∀b∈fp,H' b=none) E s1) E s
 done: ∀(X:Cx),X.prog=P→X.w=w→X.K=K→X.calm=true→∀(i:Nat) (pins:List (Addr×Obj)) (s:Shared) (σ:St) (H:Hp) (E:Value→Shared→Prop),Inv X pins σ H s→(∀b∈fp,qj0 X pins H b)→tn i s.heap→J.stop i H→
  wpAny (model P w) X.A (pyNext (.ref it)) (fun r s1=>r=none∧Inv X pins σ H s1) E s
 self: ∀(A:Around) (i:Nat) (s:Shared) (Q:Value→Shared→Prop) (E:Value→Shared→Prop),tn i s.heap→Q (.ref it) s→wpAny (model P w) A (pyIter (.ref it)) Q E s
abbrev TI:=St→Hp→(It→Hp→Prop)→Prop
def PIE (X:Cx) (pins:List (Addr×Obj)) (σ:St) (tg:Expr) (R:It→Hp→Prop) (itv:Value) (s2:Shared):Prop:=
 ∃(it:Addr) (fp:List Addr) (tn:Nat→Heap→Prop) (J:It) (H':Hp),itv= .ref it∧Inv X pins σ H' s2∧qpD X.prog X.w X.K tg J fp it tn∧tn 0 s2.heap∧(∀b∈fp,qj0 X pins H' b)∧R J H'
def PI (X:Cx) (tg iter:Expr) (wi:TI):Prop:=
 ∀(pins:List (Addr×Obj)) (s:Shared) (σ:St) (H:Hp) (R:It→Hp→Prop),Inv X pins σ H s→wi σ H R→
  wpAny (model X.prog X.w) X.A (eval iter X.env) (fun v s1=>wpAny (model X.prog X.w) X.A (pyIter v) (PIE X pins σ tg R) X.xe s1) X.xe s
theorem qlw {M:Model} {A:Around} {E:Value→Shared→Prop} {s:Shared} {tg:Expr} {it:Addr} {u:Value} {o:Obj} {n:String} {vs:Array Value} {Q:Unit→Shared→Prop} (ho:s.heap.get? it=some o) (hc:o.cls= .type n) (hd:o.data= .fields vs)
  (hn:["enumerate", "zip", "dict_itemiterator", "dict_reverseitemiterator", "odict_iterator", "itertools.zip_longest", "itertools.pairwise"].contains n=false) (hQ:Q () s):wpAny M A (letOwnedTupleGo tg (.ref it) u) Q E s:=by
 unfold letOwnedTupleGo
 cases tg<;>first
  | exact wpAny_pure hQ
  | (cases u<;>first
    | exact wpAny_pure hQ
    | (refine wpAny_bind (wpAny_load ho ?_)
       rw[hc,hd]
       show wpAny M A (if (["enumerate", "zip", "dict_itemiterator", "dict_reverseitemiterator", "odict_iterator", "itertools.zip_longest", "itertools.pairwise"].contains n&&vs[0]? ==some (rawInt _))=true then _ else _) Q E s
       rw[if_neg (by intro h; rw[hn,Bool.false_and] at h; cases h)]
       exact wpAny_pure hQ))
def Itl (K:PySem.W.Frag) (a:Addr):It:=
 ⟨fun i H=> ∃xs x,SqL K H a xs∧xs[i]? =some x,fun i H x H'=>H'=H∧∀xs,SqL K H a xs→xs[i]? =some x,fun i H=> ∃xs,SqL K H a xs∧xs.length≤i⟩
def Itt (K:PySem.W.Frag) (a:Addr):It:=
 ⟨fun i H=> ∃xs x,SqT K H a xs∧xs[i]? =some x,fun i H x H'=>H'=H∧∀xs,SqT K H a xs→xs[i]? =some x,fun i H=> ∃xs,SqT K H a xs∧xs.length≤i⟩
def Itr (lo:Int) (n:Nat):It:=⟨fun i _=>i<n,fun i H x H'=>H'=H∧x= .int (lo+i),fun i _=>n≤i⟩
theorem qgg {P:Program} {w:World} {K:PySem.W.Frag} {tg:Expr} (a it:Addr):qpD P w K tg (Itl K a) [it] it (fun i h=>h.IsListIter it a i) where
 mem:=by simp
 obj:=fun i h st b hb=>by
  have e:b=it:=by simpa using hb
  subst e
  obtain ⟨o,e,c,d⟩:=st
  exact ⟨o,e,fun v z=>by rw[d] at z; cases z⟩
 keep:=fun i h h' st k=>st.at fun o e=>k it (by simp) o e
 item:=by
  intro X hP hw hK hc i pins s σ H E I hf st hg
  subst hP hw hK
  obtain ⟨xs,x,hq,hx⟩:=hg
  obtain ⟨its,rv,p,hz⟩:=I.list hq
  obtain ⟨u,hu,ru⟩:=rv.get hx
  obtain ⟨f0,f1,f2,f3,f4,f5⟩:=hf it (by simp)
  refine wpAny_pyNext_list_item st p.isList (x:=u) (by simpa using hu) fun h' st' sb=> ?_
  have I1:Inv X pins σ H { s with heap:=h' }:=I.turned (t':=s.toks) (fun b o hb e=>(sb.2 b hb).trans e) f0 f1 f3 f4 f5
  obtain ⟨o,e,c,d⟩:=id st'
  exact ⟨u,rfl,qlw (s:={ s with heap:=h' }) e c d (by decide) ⟨x,H,I1,ru,⟨rfl,fun ys hy=>by rw[I.list_inj hy hq]; exact hx⟩,st',fun b hb=>(hf b hb).1⟩⟩
 done:=by
  intro X hP hw hK hc i pins s σ H E I hf st hg
  subst hP hw hK
  obtain ⟨xs,hq,hx⟩:=hg
  obtain ⟨its,rv,p,hz⟩:=I.list hq
  obtain ⟨f0,f1,f2,f3,f4,f5⟩:=hf it (by simp)
  have hl:=rv.length
  exact wpAny_pyNext_list_end (I.ok.hd hc) st p.isList (by simp; omega) fun h' eb=>⟨rfl,I.turned (t':=s.toks) (fun b o hb e=>eb b o hb e) f0 f1 f3 f4 f5⟩
 self:=fun _ _ _ _ _ st h=>wpAny_pyIter_listiter st h
theorem qjd {P:Program} {w:World} {K:PySem.W.Frag} {tg:Expr} (a it:Addr):qpD P w K tg (Itt K a) [it] it (fun i h=>h.IsTupleIter it a i) where
 mem:=by simp
 obj:=fun i h st b hb=>by
  have e:b=it:=by simpa using hb
  subst e
  obtain ⟨o,e,c,d⟩:=st
  exact ⟨o,e,fun v z=>by rw[d] at z; cases z⟩
 keep:=fun i h h' st k=>st.at fun o e=>k it (by simp) o e
 item:=by
  intro X hP hw hK hc i pins s σ H E I hf st hg
  subst hP hw hK
  obtain ⟨xs,x,hq,hx⟩:=hg
  obtain ⟨its,rv,p,hz⟩:=I.tuple hq
  obtain ⟨u,hu,ru⟩:=rv.get hx
  obtain ⟨f0,f1,f2,f3,f4,f5⟩:=hf it (by simp)
  refine wpAny_pyNext_tuple_item st (show s.heap.IsTuple a its.toArray from p) (x:=u) (by simpa using hu) fun h' st' sb=> ?_
  have I1:Inv X pins σ H { s with heap:=h' }:=I.turned (t':=s.toks) (fun b o hb e=>(sb.2 b hb).trans e) f0 f1 f3 f4 f5
  obtain ⟨o,e,c,d⟩:=id st'
  exact ⟨u,rfl,qlw (s:={ s with heap:=h' }) e c d (by decide) ⟨x,H,I1,ru,⟨rfl,fun ys hy=>by rw[I.tuple_inj hy hq]; exact hx⟩,st',fun b hb=>(hf b hb).1⟩⟩
 done:=by
  intro X hP hw hK hc i pins s σ H E I hf st hg
  subst hP hw hK
  obtain ⟨xs,hq,hx⟩:=hg
  obtain ⟨its,rv,p,hz⟩:=I.tuple hq
  obtain ⟨f0,f1,f2,f3,f4,f5⟩:=hf it (by simp)
  have hl:=rv.length
  exact wpAny_pyNext_tuple_end (I.ok.hd hc) st (show s.heap.IsTuple a its.toArray from p) (by simp; omega) fun h' eb=>⟨rfl,I.turned (t':=s.toks) (fun b o hb e=>eb b o hb e) f0 f1 f3 f4 f5⟩
 self:=fun _ _ _ _ _ st h=>wpAny_pyIter_tupleiter st h
theorem qje {P:Program} {w:World} {K:PySem.W.Frag} {tg:Expr} (it:Addr) (lo:Int) (n:Nat):qpD P w K tg (Itr lo n) [it] it (fun i h=>IsRangeIter h it (lo+(i:Nat)*1) ((n:Int) - (i:Nat)) 1) where
 mem:=by simp
 obj:=fun i h st b hb=>by
  have e:b=it:=by simpa using hb
  subst e
  exact ⟨_,st,fun v z=>by
   have z':Data.fields _=Data.cell v:=z
   cases z'⟩
 keep:=fun i h h' st k=>k it (by simp) _ st
 item:=by
  intro X hP hw hK hc i pins s σ H E I hf st hg
  subst hP hw hK
  obtain ⟨f0,f1,f2,f3,f4,f5⟩:=hf it (by simp)
  have W:=Walks.range (prog:=X.prog) (w:=X.w) (I.ok.hd hc) it lo 1 n
  refine W.item i s _ _ hg st fun v h' tk hv st' kk=> ?_
  obtain ⟨t,rfl⟩:=hv
  have I1:Inv X pins σ H { s with heap:=h',toks:=tk }:=I.turned (fun b o hb e=>kk b o (by simpa using hb) e) f0 f1 f3 f4 f5
  refine ⟨_,rfl,qlw (s:={ s with heap:=h',toks:=tk }) (n:= "range_iterator") st' rfl rfl (by decide) ⟨.int (lo+i),H,I1,⟨t,?_⟩,⟨rfl,rfl⟩,st',fun b hb=>(hf b hb).1⟩⟩
  rw[Int.mul_one]
 done:=by
  intro X hP hw hK hc i pins s σ H E I hf st hg
  subst hP hw hK
  obtain ⟨f0,f1,f2,f3,f4,f5⟩:=hf it (by simp)
  exact wpAny_pyNext_range_end (I.ok.hd hc) st (by have:n≤i:=hg; omega) fun h' eb=>⟨rfl,I.turned (t':=s.toks) (fun b o hb e=>eb b o hb e) f0 f1 f3 f4 f5⟩
 self:=fun _ _ _ _ _ st h=>wpAny_pyIter_rangeiter st h
end L2
namespace L2
open PySem PySem.Spec PyProof.Rows
section
variable {X:Cx} {tg:Expr}
def qsX (K:PySem.W.Frag) (tl:TE):TI:=fun σ H R=>tl σ H fun x H1=> ∃a,x= .ref a∧(∃xs,SqL K H1 a xs)∧R (Itl K a) H1
theorem qd2 {l:Expr} {tl:TE} (hl:PE X l tl):PI X tg l (qsX X.K tl):=by
 intro pins s σ H R I h
 refine thn (hl pins s σ H _ I h) fun v s1 ⟨x,H1,I1,r1,q1⟩=> ?_
 obtain ⟨a,e,⟨xs,hq⟩,q⟩:=q1
 subst e
 cases r1
 obtain ⟨its,rv,p,hz⟩:=I1.list hq
 refine wpAny_pyIter_list p.isList ?_
 refine ⟨s1.heap.objs.size,[s1.heap.objs.size],_,_,H1,rfl,I1.kept (t':=s1.toks) fun b o e=>Heap.get?_push_of_some _ e,qgg a _,⟨_,Heap.get?_push_size _ rfl,rfl,rfl⟩,fun b hb=> ?_,q⟩
 have e:b=s1.heap.objs.size:=by simpa using hb
 subst e
 exact I1.fpOk (Nat.le_refl _) (I1.hok.fresh (Nat.le_refl _))
theorem qmA {pins:List (Addr×Obj)} {σ:St} {H:Hp} {s:Shared} {R:It→Hp→Prop} {E:Value→Shared→Prop} {lo hi:Int} {t u v:Tok} {tk:Nat} (I:Inv X pins σ H s) (h1: -(2 ^ 62)≤lo) (h2:lo<2 ^ 62) (h3: -(2 ^ 62)≤hi) (h4:hi<2 ^ 62)
  (q:R (Itr lo (hi - lo).toNat) H):wpAny (model X.prog X.w) X.A (pyIter (.ref s.heap.objs.size)) (PIE X pins σ tg R) E { s with heap:=s.heap.push { cls:=.type "range",data:=.fields #[.int lo t,.int hi u,.int 1 v] },toks:=tk }:=by
 refine wpAny_pyIter_range (IsRange.new ..) (small_one h1 h2 h3 h4) ?_
 have I1:Inv X pins σ H { s with heap:=s.heap.push { cls:=.type "range",data:=.fields #[.int lo t,.int hi u,.int 1 v] },toks:=tk }:=I.kept fun b o e=>Heap.get?_push_of_some _ e
 refine ⟨(s.heap.push { cls:=.type "range",data:=.fields #[.int lo t,.int hi u,.int 1 v] }).objs.size,[(s.heap.push { cls:=.type "range",data:=.fields #[.int lo t,.int hi u,.int 1 v] }).objs.size],_,_,H,rfl,
  I1.kept (t':=tk) fun b o e=>Heap.get?_push_of_some _ e,qje _ lo (hi - lo).toNat,?_,fun b hb=> ?_,q⟩
 ·have e1:lo+((0:Nat):Int)*1=lo:=by simp
  have e2:(((hi - lo).toNat:Nat):Int) - ((0:Nat):Int)=Builtin.Range.rangeSize lo hi 1:=by rw[rangeSize_one]; split<;>omega
  show IsRangeIter _ _ (lo+((0:Nat):Int)*1) ((((hi - lo).toNat:Nat):Int) - ((0:Nat):Int)) 1
  rw[e1,e2]
  exact Heap.get?_push_size _ rfl
 ·have e:b=(s.heap.push { cls:=.type "range",data:=.fields #[.int lo t,.int hi u,.int 1 v] }).objs.size:=by simpa using hb
  subst e
  exact I1.fpOk (Nat.le_refl _) (I1.hok.fresh (Nat.le_refl _))
def qsW (ta:TA):TI:=fun σ H R=>ta σ H fun vs H1=> ∃j:Int,vs=[.int j]∧ -(2 ^ 62)≤j∧j<2 ^ 62∧R (Itr 0 j.toNat) H1
theorem qkL {a:Expr} {ta:TA} {p pos:Pos} (hg:Gl X "range") (hm:X.mg "range" =none) (ha:PA X [a] ta) (hs:starEach [a] X.env=[(false,eval a X.env)]:=by rfl):PI X tg (.Call (.Name "range" p) [a] [] pos) (qsW ta):=by
 intro pins s σ H R I h
 refine Call_ (qdM I hg hm boot_range (PyProof.Rows.callWith_type1 (thn (ha pos pins s σ H _ I h) fun us s1 ⟨vs,H1,I1,r1,q1⟩=> ?_) hs rfl))
 obtain ⟨j,e,q1,q2,q⟩:=q1
 subst e
 cases r1 with
 | cons r rr=>
  cases rr
  obtain ⟨t,rfl⟩:=r
  exact call_range_1 (qmA I1 (by omega) (by omega) q1 q2 (by simpa using q))
def qt5 (wi:TI) (g:TG) (tb:TS):TS:=fun D σ H=>wi σ H fun J H1=> ∃W:Nat→Nat→St→Hp→Prop,(∃m,W 0 m σ H1)∧∀i m σ H,W i m σ H→
 (J.stop i H∧D.nx σ H)∨(J.go i H∧∃N:St→Hp→Prop,(∀σ' H',N σ' H'→∃m',m'<m∧W (i+1) m' σ' H')∧∀x H',J.yld i H x H'→g x σ H' fun σ2 H2=>tb { D with nx:=N,ct:=N,bk:=D.nx } σ2 H2)
def qgr (fp:List Addr) (h:Heap):List (Addr×Obj):=fp.filterMap fun b=>(h.get? b).map fun o=>(b,o)
theorem qc9 {fp:List Addr} {h:Heap} {b:Addr} {o:Obj} (hb:b∈fp) (e:h.get? b=some o):(b,o)∈qgr fp h:=List.mem_filterMap.mpr ⟨b,hb,by rw[e]; rfl⟩
theorem qkV {fp:List Addr} {h:Heap} {p:Addr×Obj} (hp:p∈qgr fp h):p.1∈fp∧h.get? p.1=some p.2:=by
 obtain ⟨b,hb,e⟩:=List.mem_filterMap.mp hp
 cases q:h.get? b with
 | none=>rw[q] at e; cases e
 | some o=>
  rw[q] at e
  have e':(b,o)=p:=Option.some.inj e
  subst e'
  exact ⟨hb,q⟩
theorem Inv.pinned {pins:List (Addr×Obj)} {σ:St} {H:Hp} {s:Shared} {fp:List Addr} (I:Inv X pins σ H s) (hf: ∀b∈fp,qj0 X pins H b) (ho: ∀b∈fp,∃o,s.heap.get? b=some o∧∀v,o.data≠.cell v):Inv X (pins++qgr fp s.heap) σ H s:=
 I.pins_of fun p hp=>(List.mem_append.mp hp).elim (fun z=>I.pin p (List.mem_append_right _ z)) fun z=>by
  obtain ⟨hb,e⟩:=qkV z
  obtain ⟨f0,f1,f2,_⟩:=hf p.1 hb
  obtain ⟨o,e',d⟩:=ho p.1 hb
  rw[e] at e'; cases e'
  exact ⟨e,f0,f1,f2,d⟩
theorem Inv.unpinned {pins pl:List (Addr×Obj)} {σ:St} {H:Hp} {s:Shared} (I:Inv X (pins++pl) σ H s):Inv X pins σ H s:=I.pins_of fun p hp=>I.pin p (List.mem_append_right _ (List.mem_append_left _ hp))
theorem qnY {iter:Expr} {body:List Stmt} {wi:TI} {g:TG} {tb:TS} {pos:Pos} (hp:PassesOwn (model X.prog X.w) X.A X.env X.xe) (hc:X.calm=true) (hi:PI X tg iter wi) (hg:PG X tg g) (hb:PSs X body tb)
  (hs: ∀x,foldedSetIterable iter X.env x=pure x:=by intro _; rfl):PS X (.For tg iter body [] pos) (qt5 wi g tb):=by
 intro pins s σ H D I h
 refine wpAny_For (thn (hi pins s σ H _ I h) fun v s1 h1=>thn h1 fun itv s2 h2=> ?_) hs
 obtain ⟨it,fp,tn,J,H2,e,I2,T,st2,f2,W,⟨m0,w0⟩,qib⟩:=h2
 subst e
 have stat: ∀{H':Hp},(∀b∈fp,H' b=none)→∀b∈fp,qj0 X pins H' b:=fun hn b hb=>⟨hn b hb,(f2 b hb).2⟩
 refine codeAny_forLoop_any (fun n s'=> ∃i σ' H',Inv X pins σ' H' s'∧tn i s'.heap∧(∀b∈fp,H' b=none)∧W i n σ' H') ?_ m0 ⟨0,σ,H2,I2,st2,fun b hb=>(f2 b hb).1,w0⟩
 rintro n s3 ⟨i,σ3,H3,I3,st3,fr3,w3⟩
 rcases qib i n σ3 H3 w3 with ⟨stop,qn⟩ | ⟨go,N,hN,step⟩
 ·refine wpAny_passesOwn hp (thn (T.done X rfl rfl rfl hc i pins s3 σ3 H3 X.xe I3 (stat fr3) st3 stop) fun r s4 ⟨hr,I4⟩=> ?_)
  subst hr
  exact wpAny_execs_nil ⟨σ3,H3,I4,qn⟩
 ·refine wpAny_passesOwn hp (thn (T.item X rfl rfl rfl hc i pins s3 σ3 H3 X.xe I3 (stat fr3) st3 go) fun r s4 ⟨u,hr,h4⟩=> ?_)
  subst hr
  refine wpAny_passesOwn hp (thn h4 fun _ s5 ⟨x,H5,I5,r5,y5,st5,fr5⟩=> ?_)
  have I5':=I5.pinned (stat fr5) (T.obj _ _ st5)
  refine wpAny_passesOwn hp (thn (hg _ s5 σ3 H5 x u _ I5' r5 (step x H5 y5)) fun _ s6 ⟨σ6,H6,I6,q6⟩=> ?_)
  refine wpAny_passesOwn hp (thn (hb _ s6 σ6 H6 _ I6 q6) fun f s7 q7=> ?_)
  have again: ∀{σ7:St} {H7:Hp},Inv X (pins++qgr fp s5.heap) σ7 H7 s7→N σ7 H7→∃m,m<n∧∃i σ' H',Inv X pins σ' H' s7∧tn i s7.heap∧(∀b∈fp,H' b=none)∧W i m σ' H':=fun {σ7 H7} I7 n7=>by
   obtain ⟨m',hm,w7⟩:=hN σ7 H7 n7
   refine ⟨m',hm,i+1,σ7,H7,I7.unpinned,T.keep _ _ _ st5 fun b hb o e=>(I7.pin (b,o) (List.mem_append_right _ (List.mem_append_right _ (qc9 hb e)))).1,fun b hb=> ?_,w7⟩
   obtain ⟨o,e,d⟩:=T.obj _ _ st5 b hb
   exact (I7.pin (b,o) (List.mem_append_right _ (List.mem_append_right _ (qc9 hb e)))).2.1
  cases f with
  | next=>obtain ⟨σ7,H7,I7,n7⟩:=q7; exact again I7 n7
  | cont=>obtain ⟨σ7,H7,I7,n7⟩:=q7; exact again I7 n7
  | brk=>obtain ⟨σ7,H7,I7,q7⟩:=q7; exact ⟨σ7,H7,I7.unpinned,q7⟩
  | ret v=>obtain ⟨x7,σ7,H7,I7,r7,q7⟩:=q7; exact ⟨x7,σ7,H7,I7.unpinned,r7,q7⟩
end
theorem qm8 {K:PySem.W.Frag} {a:Addr} {xs:List V} {g:TG} {tb:TS} {D:qmh} {σ:St} {H:Hp} (Pv:Nat→St→Hp→Prop) (h0:Pv 0 σ H) (hl: ∀i σ H,i≤xs.length→Pv i σ H→SqL K H a xs)
  (hs: ∀i x σ H,xs[i]? =some x→Pv i σ H→g x σ H fun σ2 H2=>tb { D with nx:=Pv (i+1),ct:=Pv (i+1),bk:=D.nx } σ2 H2) (hd: ∀σ H,Pv xs.length σ H→D.nx σ H):
  ∃W:Nat→Nat→St→Hp→Prop,(∃m,W 0 m σ H)∧∀i m σ H,W i m σ H→
   ((Itl K a).stop i H∧D.nx σ H)∨((Itl K a).go i H∧∃N:St→Hp→Prop,(∀σ' H',N σ' H'→∃m',m'<m∧W (i+1) m' σ' H')∧∀x H',(Itl K a).yld i H x H'→g x σ H' fun σ2 H2=>tb { D with nx:=N,ct:=N,bk:=D.nx } σ2 H2):=by
 refine ⟨fun i m σ H=>m=xs.length - i∧i≤xs.length∧Pv i σ H,⟨xs.length,by simp,Nat.zero_le _,h0⟩,?_⟩
 rintro i m σ H ⟨rfl,hi,p⟩
 have q:=hl i σ H hi p
 by_cases hlt:i<xs.length
 ·refine .inr ⟨⟨xs,xs[i],q,by simp[hlt]⟩,Pv (i+1),fun σ' H' p'=>⟨xs.length - (i+1),by omega,rfl,hlt,p'⟩,fun x H' y=> ?_⟩
  obtain ⟨e,y⟩:=y
  subst e
  exact hs i x σ _ (y xs q) p
 ·have e:i=xs.length:=by omega
  subst e
  exact .inl ⟨⟨xs,q,Nat.le_refl _⟩,hd σ H p⟩
end L2
namespace L2
open PySem PySem.Spec PyProof.Rows
abbrev R2:=V→V→Hp→VK→Prop
def OpR (X:Cx) (f:Value→Value→Sem Value) (r:R2):Prop:=
 ∀(pins:List (Addr×Obj)) (s:Shared) (σ:St) (H:Hp) (x y:V) (v u:Value) (Q:VK),Inv X pins σ H s→RelV x v→RelV y u→r x y H Q→
  wpAny (model X.prog X.w) X.A (f v u) (EP X pins σ Q) X.xe s
def UnR (X:Cx) (f:Value→Sem Value) (r:V→Hp→VK→Prop):Prop:=
 ∀(pins:List (Addr×Obj)) (s:Shared) (σ:St) (H:Hp) (x:V) (v:Value) (Q:VK),Inv X pins σ H s→RelV x v→r x H Q→
  wpAny (model X.prog X.w) X.A (f v) (EP X pins σ Q) X.xe s
def qe0 (X:Cx) (f:Value) (r:List V→Hp→VK→Prop):Prop:=
 ∀(pins:List (Addr×Obj)) (s:Shared) (σ:St) (H:Hp) (xs:List V) (us:List Value) (Q:VK),Inv X pins σ H s→Vals xs us→r xs H Q→
  wpAny (model X.prog X.w) X.A (call f us) (EP X pins σ Q) X.xe s
def quP (X:Cx) (r:V→Hp→(Bool→Hp→Prop)→Prop):Prop:=
 ∀(pins:List (Addr×Obj)) (s:Shared) (σ:St) (H:Hp) (x:V) (v:Value) (Q:Bool→Hp→Prop),Inv X pins σ H s→RelV x v→r x H Q→
  wpAny (model X.prog X.w) X.A (truthy v) (TP X pins σ Q) X.xe s
def tOp (r:R2) (ta tb:TE):TE:=fun σ H Q=>ta σ H fun x H1=>tb σ H1 fun y H2=>r x y H2 Q
def tUn (r:V→Hp→VK→Prop) (ta:TE):TE:=fun σ H Q=>ta σ H fun x H1=>r x H1 Q
def rI (C:Int→Int→Prop) (g:Int→Int→V):R2:=fun x y H Q=> ∃i j,x= .int i∧y= .int j∧C i j∧Q (g i j) H
def rI0 (g:Int→Int→V):R2:=fun x y H Q=> ∃i j,x= .int i∧y= .int j∧Q (g i j) H
def rU (g:Int→V):V→Hp→VK→Prop:=fun x H Q=> ∃i,x= .int i∧Q (g i) H
section
variable {X:Cx} {a b c:Expr} {ta tb tc:TE} {pos:Pos}
theorem qs9 (ha:PE X a ta) (hb:PE X b tb) {pins:List (Addr×Obj)} {s:Shared} {σ:St} {H:Hp} {R:V→V→Hp→Prop} (I:Inv X pins σ H s)
  (h:ta σ H fun x H1=>tb σ H1 fun y H2=>R x y H2) {Q:Value→Shared→Prop} {f:Value→Value→Sem Value}
  (hf: ∀v u s2 x y H2,Inv X pins σ H2 s2→RelV x v→RelV y u→R x y H2→wpAny (model X.prog X.w) X.A (f v u) Q X.xe s2):
  wpAny (model X.prog X.w) X.A (eval a X.env) (fun v s₁=>wpAny (model X.prog X.w) X.A (eval b X.env) (fun u s₂=>wpAny (model X.prog X.w) X.A (f v u) Q X.xe s₂) X.xe s₁) X.xe s:=by
 refine thn (ha pins s σ H _ I h) fun v s1 ⟨x,H1,I1,r1,q1⟩=> ?_
 refine thn (hb pins s1 σ H1 _ I1 q1) fun u s2 ⟨y,H2,I2,r2,q2⟩=> ?_
 exact hf v u s2 x y H2 I2 r1 r2 q2
theorem qcE {op:Operator} {r:R2} (ho:OpR X (binaryOp op) r) (ha:PE X a ta) (hb:PE X b tb):PE X (.BinOp a op b pos) (tOp r ta tb):=by
 intro pins s σ H Q I h
 exact wpAny_BinOp (qs9 ha hb I h fun v u s2 x y H2 I2 rx ry q=>ho pins s2 σ H2 x y v u Q I2 rx ry q)
theorem qqz {op:UnaryOp} {r:V→Hp→VK→Prop} (ho:UnR X (unaryOp op) r) (ha:PE X a ta):PE X (.UnaryOp op a pos) (tUn r ta):=by
 intro pins s σ H Q I h
 exact UnaryOp_ (thn (ha pins s σ H _ I h) fun v s1 ⟨x,H1,I1,r1,q1⟩=>ho pins s1 σ H1 x v Q I1 r1 q1)
theorem opI {f:Value→Value→Sem Value} {C:Int→Int→Prop} {g:Int→Int→Int}
  (rule: ∀(i j:Int) (t u:Tok) (s:Shared) (Q:Value→Shared→Prop) (E:Value→Shared→Prop),C i j→Q (.int (g i j) s.toks) { s with toks:=s.toks+1 }→wpAny (model X.prog X.w) X.A (f (.int i t) (.int j u)) Q E s):
  OpR X f (rI C fun i j=>.int (g i j)):=by
 intro pins s σ H x y v u Q I rx ry h
 obtain ⟨i,j,rfl,rfl,hc,q⟩:=h
 obtain ⟨t,rfl⟩:=rx
 obtain ⟨t',rfl⟩:=ry
 exact rule i j t t' s _ _ hc ⟨.int (g i j),H,I.tok _,⟨_,rfl⟩,q⟩
theorem qtA {f:Value→Value→Sem Value} {g:Int→Int→Int}
  (rule: ∀(i j:Int) (t u:Tok) (s:Shared) (Q:Value→Shared→Prop) (E:Value→Shared→Prop),Q (.int (g i j) s.toks) { s with toks:=s.toks+1 }→wpAny (model X.prog X.w) X.A (f (.int i t) (.int j u)) Q E s):
  OpR X f (rI0 fun i j=>.int (g i j)):=by
 intro pins s σ H x y v u Q I rx ry h
 obtain ⟨i,j,rfl,rfl,q⟩:=h
 obtain ⟨t,rfl⟩:=rx
 obtain ⟨t',rfl⟩:=ry
 exact rule i j t t' s _ _ ⟨.int (g i j),H,I.tok _,⟨_,rfl⟩,q⟩
theorem qry {f:Value→Value→Sem Value} {g:Int→Int→Bool}
  (rule: ∀(i j:Int) (t u:Tok) (s:Shared) (Q:Value→Shared→Prop) (E:Value→Shared→Prop),Q (.bool (g i j)) s→wpAny (model X.prog X.w) X.A (f (.int i t) (.int j u)) Q E s):
  OpR X f (rI0 fun i j=>.bl (g i j)):=by
 intro pins s σ H x y v u Q I rx ry h
 obtain ⟨i,j,rfl,rfl,q⟩:=h
 obtain ⟨t,rfl⟩:=rx
 obtain ⟨t',rfl⟩:=ry
 exact rule i j t t' s _ _ ⟨.bl (g i j),H,I,rfl,q⟩
def quW (i j:Int):Prop:=0<j∧j<1073741824
def qrH (i j:Int):Prop:=(-(2 ^ 64)<i∧i<2 ^ 64)∨(-(2 ^ 64)<j∧j<2 ^ 64)
theorem qrH.ok {i j:Int} (h:qrH i j):IntMulOk i j:=by
 rcases h with ⟨h1,h2⟩ | ⟨h1,h2⟩
 ·exact .of_left (intBits_le_64 h1 h2)
 ·exact .of_right (intBits_le_64 h1 h2)
theorem qgv:OpR X (binaryOp .Add) (rI0 fun i j=>.int (i+j)):=qtA fun _ _ _ _ _ _ _ q=>add_int q
theorem qiv:OpR X (binaryOp .Sub) (rI0 fun i j=>.int (i - j)):=qtA fun _ _ _ _ _ _ _ q=>sub_int q
theorem qfj:OpR X (binaryOp .Mult) (rI qrH fun i j=>.int (i*j)):=opI fun _ _ _ _ _ _ _ hc q=>mul_int q hc.ok
theorem qoW:OpR X (binaryOp .FloorDiv) (rI quW fun i j=>.int (i / j)):=opI fun i j _ _ _ _ _ hc q=>by
 have h1:(0:Int)<j:=hc.1
 have h2:j<1073741824:=hc.2
 exact floordiv_int (by omega) (by rw[Int.fdiv_eq_ediv_of_nonneg i (by omega)]; exact q) (.inl (PyProof.noPylong_small (by omega)))
theorem qgu:OpR X (binaryOp .Mod) (rI (fun _ j=>0<j) fun i j=>.int (i % j)):=opI fun i j _ _ _ _ _ hc q=>by
 have h1:(0:Int)<j:=hc
 exact mod_int' (by omega) (by rw[Int.fmod_eq_emod_of_nonneg i (by omega)]; exact q)
theorem unI {f:Value→Sem Value} {g:Int→Int}
  (rule: ∀(i:Int) (t:Tok) (s:Shared) (Q:Value→Shared→Prop) (E:Value→Shared→Prop),Q (.int (g i) s.toks) { s with toks:=s.toks+1 }→wpAny (model X.prog X.w) X.A (f (.int i t)) Q E s):
  UnR X f (rU fun i=>.int (g i)):=by
 intro pins s σ H x v Q I rx h
 obtain ⟨i,rfl,q⟩:=h
 obtain ⟨t,rfl⟩:=rx
 exact rule i t s _ _ ⟨.int (g i),H,I.tok _,⟨_,rfl⟩,q⟩
theorem qnz:UnR X (unaryOp .USub) (rU fun i=>.int (-i)):=unI fun _ _ _ _ _ q=>neg_int q
end
def qtq:V→V→Bool
 | .non,.non=>true | .non,.int _=>true | .int _,.non=>true | .non,.bl _=>true | .bl _,.non=>true | .non,.str _=>true | .str _,.non=>true
 | .int _,.int _=>true | .bl _,.bl _=>true | .str _,.str _=>true | .byt _,.byt _=>true
 | .int _,.str _=>true | .str _,.int _=>true | .bl _,.str _=>true | .str _,.bl _=>true
 | _,_=>false
def rEq:R2:=fun x y H Q=>qtq x y=true∧Q (.bl (decide (x=y))) H
def rNe:R2:=fun x y H Q=>qtq x y=true∧Q (.bl (!decide (x=y))) H
theorem qlL {i j:Int}:decide (V.int i=V.int j)=(i==j):=by
 rw[Bool.eq_iff_iff]
 simp
theorem qog {i j:Bool}:decide (V.bl i=V.bl j)=(i==j):=by
 rw[Bool.eq_iff_iff]
 simp
theorem qlK {i j:Str}:decide (V.str i=V.str j)=(i==j):=by
 rw[Bool.eq_iff_iff]
 simp
theorem qlM {i j:Array UInt8}:decide (V.byt i=V.byt j)=(i.toList==j.toList):=by
 rw[Bool.eq_iff_iff]
 cases i
 cases j
 simp
section
variable {X:Cx} {a b c:Expr} {ta tb tc:TE} {pos:Pos}
theorem qaZ {pins:List (Addr×Obj)} {σ:St} {H:Hp} {s:Shared} {Q:VK} {k k':Bool} (I:Inv X pins σ H s) (q:Q (.bl k) H) (e:k=k'):EP X pins σ Q (.bool k') s:=by
 subst e
 exact ⟨.bl k,H,I,rfl,q⟩
theorem qqE:OpR X (compareOp .Eq) rEq:=by
 intro pins s σ H x y v u Q I rx ry h
 obtain ⟨hs,q⟩:=h
 cases x with
 | non=>
  cases rx
  cases y with
  | non=>cases ry; exact PySem.EqNone.eq_none_none (qaZ I q (by simp))
  | bl j=>cases ry; exact PySem.EqNone.eq_none_bool (qaZ I q (by simp))
  | int j=>obtain ⟨t',rfl⟩:=ry; exact PySem.EqNone.eq_none_int (qaZ I q (by simp))
  | str j=>obtain ⟨t',rfl⟩:=ry; exact PySem.EqNone.eq_none_str (qaZ I q (by simp))
  | _=>exact absurd (show false=true from hs) Bool.false_ne_true
 | bl i=>
  cases rx
  cases y with
  | non=>cases ry; exact PySem.EqNone.eq_bool_none (qaZ I q (by simp))
  | bl j=>cases ry; exact eq_bool (qaZ I q qog)
  | str j=>obtain ⟨t',rfl⟩:=ry; exact PySem.EqMixed.eq_bool_str (qaZ I q (by simp))
  | _=>exact absurd (show false=true from hs) Bool.false_ne_true
 | int i=>
  obtain ⟨t,rfl⟩:=rx
  cases y with
  | non=>cases ry; exact PySem.EqNone.eq_int_none (qaZ I q (by simp))
  | int j=>obtain ⟨t',rfl⟩:=ry; exact eq_int (qaZ I q qlL)
  | str j=>obtain ⟨t',rfl⟩:=ry; exact PySem.EqMixed.eq_int_str (qaZ I q (by simp))
  | _=>exact absurd (show false=true from hs) Bool.false_ne_true
 | str i=>
  obtain ⟨t,rfl⟩:=rx
  cases y with
  | non=>cases ry; exact PySem.EqNone.eq_str_none (qaZ I q (by simp))
  | bl j=>cases ry; exact PySem.EqMixed.eq_str_bool (qaZ I q (by simp))
  | int j=>obtain ⟨t',rfl⟩:=ry; exact PySem.EqMixed.eq_str_int (qaZ I q (by simp))
  | str j=>obtain ⟨t',rfl⟩:=ry; exact eq_str (qaZ I q qlK)
  | _=>exact absurd (show false=true from hs) Bool.false_ne_true
 | byt i=>
  obtain ⟨t,rfl⟩:=rx
  cases y with
  | byt j=>obtain ⟨t',rfl⟩:=ry; exact PySem.W.eq_bytes (qaZ I q qlM)
  | _=>exact absurd (show false=true from hs) Bool.false_ne_true
 | _=>cases y<;>exact absurd (show false=true from hs) Bool.false_ne_true
theorem qqD:OpR X (compareOp .NotEq) rNe:=by
 intro pins s σ H x y v u Q I rx ry h
 obtain ⟨hs,q⟩:=h
 cases x with
 | non=>
  cases rx
  cases y with
  | non=>cases ry; exact PySem.EqNone.ne_none_none (qaZ I q (by simp))
  | bl j=>cases ry; exact PySem.EqNone.ne_none_bool (qaZ I q (by simp))
  | int j=>obtain ⟨t',rfl⟩:=ry; exact PySem.EqNone.ne_none_int (qaZ I q (by simp))
  | str j=>obtain ⟨t',rfl⟩:=ry; exact PySem.EqNone.ne_none_str (qaZ I q (by simp))
  | _=>exact absurd (show false=true from hs) Bool.false_ne_true
 | bl i=>
  cases rx
  cases y with
  | non=>cases ry; exact PySem.EqNone.ne_bool_none (qaZ I q (by simp))
  | bl j=>cases ry; exact ne_bool (qaZ I q (congrArg not qog))
  | str j=>obtain ⟨t',rfl⟩:=ry; exact PySem.EqMixed.ne_bool_str (qaZ I q (by simp))
  | _=>exact absurd (show false=true from hs) Bool.false_ne_true
 | int i=>
  obtain ⟨t,rfl⟩:=rx
  cases y with
  | non=>cases ry; exact PySem.EqNone.ne_int_none (qaZ I q (by simp))
  | int j=>obtain ⟨t',rfl⟩:=ry; exact ne_int (qaZ I q (congrArg not qlL))
  | str j=>obtain ⟨t',rfl⟩:=ry; exact PySem.EqMixed.ne_int_str (qaZ I q (by simp))
  | _=>exact absurd (show false=true from hs) Bool.false_ne_true
 | str i=>
  obtain ⟨t,rfl⟩:=rx
  cases y with
  | non=>cases ry; exact PySem.EqNone.ne_str_none (qaZ I q (by simp))
  | bl j=>cases ry; exact PySem.EqMixed.ne_str_bool (qaZ I q (by simp))
  | int j=>obtain ⟨t',rfl⟩:=ry; exact PySem.EqMixed.ne_str_int (qaZ I q (by simp))
  | str j=>obtain ⟨t',rfl⟩:=ry; exact ne_str (qaZ I q (congrArg not qlK))
  | _=>exact absurd (show false=true from hs) Bool.false_ne_true
 | byt i=>
  obtain ⟨t,rfl⟩:=rx
  cases y with
  | byt j=>obtain ⟨t',rfl⟩:=ry; exact PySem.W.ne_bytes (qaZ I q (congrArg not qlM))
  | _=>exact absurd (show false=true from hs) Bool.false_ne_true
 | _=>cases y<;>exact absurd (show false=true from hs) Bool.false_ne_true
theorem qoV:OpR X (compareOp .Lt) (rI0 fun i j=>.bl (decide (i<j))):=qry fun _ _ _ _ _ _ _ q=>lt_int q
theorem qhw:OpR X (compareOp .LtE) (rI0 fun i j=>.bl (decide (i≤j))):=qry fun _ _ _ _ _ _ _ q=>le_int q
theorem qsz:OpR X (compareOp .Gt) (rI0 fun i j=>.bl (decide (j<i))):=qry fun _ _ _ _ _ _ _ q=>gt_int q
theorem qsA:OpR X (compareOp .GtE) (rI0 fun i j=>.bl (decide (j≤i))):=qry fun _ _ _ _ _ _ _ q=>ge_int q
theorem qkS:OpR X (compareOp .Lt) (fun x y H Q=> ∃i j,x= .str i∧y= .str j∧Q (.bl (decide (i.cps.toList<j.cps.toList))) H):=by
 intro pins s σ H x y v u Q I rx ry h
 obtain ⟨i,j,rfl,rfl,q⟩:=h
 obtain ⟨t,rfl⟩:=rx
 obtain ⟨t',rfl⟩:=ry
 exact lt_str (qaZ I q rfl)
theorem OpR.or {f:Value→Value→Sem Value} {r r':R2} (h:OpR X f r) (h':OpR X f r'):OpR X f (fun x y H Q=>r x y H Q∨r' x y H Q):=by
 intro pins s σ H x y v u Q I rx ry q
 rcases q with q | q
 ·exact h pins s σ H x y v u Q I rx ry q
 ·exact h' pins s σ H x y v u Q I rx ry q
theorem qdH (b:Expr) {op:CmpOp} (h:op≠.In:=by decide) (h2:op≠.NotIn:=by decide):behindInMarks op b=false:=by
 have e1:(op==CmpOp.In)=false:=by cases op<;>first | rfl | exact absurd rfl h
 have e2:(op==CmpOp.NotIn)=false:=by cases op<;>first | rfl | exact absurd rfl h2
 cases b<;>simp[behindInMarks,e1,e2]
theorem qkP {op:CmpOp} {r:R2} (ho:OpR X (compareOp op) r) (ha:PE X a ta) (hb:PE X b tb) (hm:behindInMarks op b=false):PE X (.Compare a [op] [b] pos) (tOp r ta tb):=by
 intro pins s σ H Q I h
 exact wpAny_Compare1 (qs9 ha hb I h fun v u s2 x y H2 I2 rx ry q=>ho pins s2 σ H2 x y v u Q I2 rx ry q) hm
def qp6 (t:TE):TT:=fun σ H Q=>t σ H fun x H'=> ∃k,x= .bl k∧Q k H'
theorem qcz {op:CmpOp} {r:R2} (ho:OpR X (compareOp op) r) (ha:PE X a ta) (hb:PE X b tb) (hm:behindInMarks op b=false):PT X (.Compare a [op] [b] pos) (qp6 (tOp r ta tb)):=by
 intro pins s σ H Q I h
 refine wpAny_isTrue_Compare1 (thn (ha pins s σ H _ I h) fun v s1 ⟨x,H1,I1,r1,q1⟩=>thn (hb pins s1 σ H1 _ I1 q1) fun u s2 ⟨y,H2,I2,r2,q2⟩=>
  thn (ho pins s2 σ H2 x y v u _ I2 r1 r2 q2) fun c s3 ⟨z,H3,I3,r3,k,e,q3⟩=> ?_) hm
 subst e
 cases r3
 exact wpAny_truthy_bool ⟨H3,I3,q3⟩
def qj6 (r r':R2) (ta tb tc:TE):TE:=fun σ H Q=>ta σ H fun x H1=>tb σ H1 fun y H2=>r x y H2 fun z H3=> ∃k,z= .bl k∧
 (if k=true then tc σ H3 fun w' H4=>r' y w' H4 Q else Q (.bl false) H3)
theorem qfK {op op':CmpOp} {r r':R2} (ho:OpR X (compareOp op) r) (ho':OpR X (compareOp op') r') (ha:PE X a ta) (hb:PE X b tb) (hc:PE X c tc)
  (hm:lastMarks [op,op'] [b,c]=false:=by with_unfolding_all rfl):PE X (.Compare a [op,op'] [b,c] pos) (qj6 r r' ta tb tc):=by
 intro pins s σ H Q I h
 refine Compare_chain (thn (ha pins s σ H _ I h) fun v s1 ⟨x,H1,I1,r1,q1⟩=>chain_link (thn (hb pins s1 σ H1 _ I1 q1) fun u s2 ⟨y,H2,I2,r2,q2⟩=>
  thn (ho pins s2 σ H2 x y v u _ I2 r1 r2 q2) fun d s3 ⟨z,H3,I3,r3,k,e,q3⟩=> ?_)) hm
 subst e
 cases r3
 refine wpAny_truthy_bool ?_
 cases k with
 | false=>exact ite_ff ⟨.bl false,H3,I3,rfl,q3⟩
 | true=>exact ite_tt (chain_last (thn (hc pins s3 σ H3 _ I3 q3) fun w' s4 ⟨z',H4,I4,r4,q4⟩=>ho' pins s4 σ H4 y z' u w' Q I4 r2 r4 q4))
theorem qio {op op':CmpOp} {r r':R2} (ho:OpR X (compareOp op) r) (ho':OpR X (compareOp op') r') (ha:PE X a ta) (hb:PE X b tb) (hc:PE X c tc)
  (hm:lastMarks [op,op'] [b,c]=false:=by with_unfolding_all rfl):PT X (.Compare a [op,op'] [b,c] pos) (qp6 (qj6 r r' ta tb tc)):=by
 intro pins s σ H Q I h
 refine isTrue_chain (thn (ha pins s σ H _ I h) fun v s1 ⟨x,H1,I1,r1,q1⟩=>test_link (thn (hb pins s1 σ H1 _ I1 q1) fun u s2 ⟨y,H2,I2,r2,q2⟩=>
  thn (ho pins s2 σ H2 x y v u _ I2 r1 r2 q2) fun d s3 ⟨z,H3,I3,r3,k,e,q3⟩=> ?_)) hm
 subst e
 cases r3
 refine wpAny_truthy_bool ?_
 cases k with
 | false=>
  obtain ⟨k',e',q'⟩:=q3
  cases e'
  exact ite_ff ⟨H3,I3,q'⟩
 | true=>
  refine ite_tt (test_last (thn (hc pins s3 σ H3 _ I3 q3) fun w' s4 ⟨z',H4,I4,r4,q4⟩=>thn (ho' pins s4 σ H4 y z' u w' _ I4 r2 r4 q4) fun d' s5 ⟨z2,H5,I5,r5,k2,e2,q5⟩=> ?_))
  subst e2
  cases r5
  exact wpAny_truthy_bool ⟨H5,I5,q5⟩
def quO (K:PySem.W.Frag) (x:V) (H:Hp) (k:Bool):Prop:=
 match x with
 | .non=>k=false
 | .bl b=>k=b
 | .int i=>k=(i != 0)
 | .str y=>y.length≤sizeLine∧k=((y.length:Int) != 0)
 | .byt y=>y.size≤sizeLine∧k=((y.size:Int) != 0)
 | .ref p=>(∃xs,SqL K H p xs∧k= !xs.isEmpty)∨(∃xs,SqT K H p xs∧k= !xs.isEmpty)∨∃kvs,H p=some (.dK kvs)∧k= !kvs.isEmpty
 | _=>False
theorem qjE {κ:Type} {kvs:List (κ×V)} {vs:List (κ×Value)} (r:KV kvs vs):(!vs.isEmpty)= !kvs.isEmpty:=by
 cases r<;>rfl
theorem qfs {xs:List V} {its:List Value} (r:Vals xs its):(!its.toArray.isEmpty)= !xs.isEmpty:=by
 cases r<;>simp
theorem qek:(sizeLine:Nat)<2 ^ 63:=by rw[sizeLine_eq]; decide
theorem qtm:quP X (fun x H Q=> ∃k,quO X.K x H k∧Q k H):=by
 intro pins s σ H x v Q I rx h
 obtain ⟨k,e,q⟩:=h
 have hl:=qek
 have hs:sizeLine=16777216:=sizeLine_eq
 cases x with
 | non=>
  cases rx
  have e':k=false:=e
  subst e'
  exact truthy_none ⟨H,I,q⟩
 | bl b=>
  cases rx
  have e':k=b:=e
  subst e'
  exact wpAny_truthy_bool ⟨H,I,q⟩
 | int i=>
  obtain ⟨t,rfl⟩:=rx
  have e':k=(i != 0):=e
  subst e'
  exact PySem.P.truthy_int ⟨H,I,q⟩
 | str y=>
  obtain ⟨t,rfl⟩:=rx
  obtain ⟨hy,e'⟩:y.length≤sizeLine∧k=((y.length:Int) != 0):=e
  subst e'
  exact PySem.P.truthy_str (by omega) ⟨H,I.tok _,q⟩
 | byt y=>
  obtain ⟨t,rfl⟩:=rx
  obtain ⟨hy,e'⟩:y.size≤sizeLine∧k=((y.size:Int) != 0):=e
  subst e'
  exact PySem.W.truthy_bytes (by omega) ⟨H,I.tok _,q⟩
 | ref p=>
  cases rx
  have e':(∃xs,SqL X.K H p xs∧k= !xs.isEmpty)∨(∃xs,SqT X.K H p xs∧k= !xs.isEmpty)∨∃kvs,H p=some (.dK kvs)∧k= !kvs.isEmpty:=e
  rcases e' with ⟨xs,hx,e'⟩ | ⟨xs,hx,e'⟩ | ⟨kvs,hx,e'⟩
  ·subst e'
   obtain ⟨its,r,pl,hz⟩:=I.list hx
   have hlen:=r.length
   exact wpAny_truthy_list pl.isList (by simp only[List.size_toArray]; omega) ⟨H,I.tok _,by rw[qfs r]; exact q⟩
  ·subst e'
   obtain ⟨its,r,pl,hz⟩:=I.tuple hx
   have hlen:=r.length
   exact truthy_tuple pl (by simp only[List.size_toArray]; omega) ⟨H,I.tok _,by rw[qfs r]; exact q⟩
  ·subst e'
   obtain ⟨hz,hS,vs,r,m⟩:kvs.length≤sizeLine∧(p==sysModules)=false∧∃vs,KV kvs vs∧s.heap.DictOf (qaY X.prog X.w) p vs:=I.hok p _ hx
   have hlen:kvs.length=vs.length:=Paired.length r
   exact wpAny_truthy_dict hS m (by omega) ⟨H,I.tok _,by rw[qjE r]; exact q⟩
 | _=>exact (show False from e).elim
theorem qju:OpR X (binaryOp .Add) (fun x y H Q=> ∃i j,x= .str i∧y= .str j∧i.length+j.length≤sizeLine∧Q (.str (i++j)) H):=by
 intro pins s σ H x y v u Q I rx ry h
 obtain ⟨i,j,rfl,rfl,hz,q⟩:=h
 obtain ⟨t,rfl⟩:=rx
 obtain ⟨t',rfl⟩:=ry
 exact add_str (fun t' tk=>⟨.str (i++j),H,I.tok _,⟨_,rfl⟩,q⟩) hz
theorem qfz {x:V} {us:List Value} (r:Vals [x] us): ∃u,us=[u]∧RelV x u:=by
 cases r with
 | cons r1 r2=>cases r2; exact ⟨_,rfl,r1⟩
theorem qj2 {x y:V} {us:List Value} (r:Vals [x,y] us): ∃u w',us=[u,w']∧RelV x u∧RelV y w':=by
 cases r with
 | cons r1 r2=>
  cases r2 with
  | cons r3 r4=>cases r4; exact ⟨_,_,rfl,r1,r3⟩
theorem qlY (hc:X.calm=true):qe0 X (.builtin "min") (fun xs H Q=> ∃i j,xs=[.int i,.int j]∧Q (.int (if j<i then j else i)) H):=by
 intro pins s σ H xs us Q I r h
 obtain ⟨i,j,rfl,q⟩:=h
 obtain ⟨u,w',rfl,⟨t,rfl⟩,⟨t',rfl⟩⟩:=qj2 r
 refine min_two_ints (I.ok.hd hc) fun h' tk k=>⟨_,H,I.kept k,?_,q⟩
 by_cases hj:j<i
 ·rw[if_pos hj,if_pos hj]; exact ⟨_,rfl⟩
 ·rw[if_neg hj,if_neg hj]; exact ⟨_,rfl⟩
def quS (K:PySem.W.Frag) (x:V) (H:Hp) (n:Nat):Prop:=
 match x with
 | .str y=>y.length≤sizeLine∧n=y.length
 | .byt y=>y.size≤sizeLine∧n=y.size
 | .ref p=>(∃xs,SqL K H p xs∧n=xs.length)∨∃xs,SqT K H p xs∧n=xs.length
 | _=>False
theorem qeC:qe0 X (.builtin "len") (fun xs H Q=> ∃x n,xs=[x]∧quS X.K x H n∧Q (.int n) H):=by
 intro pins s σ H xs us Q I r h
 obtain ⟨x,n,rfl,e,q⟩:=h
 obtain ⟨u,rfl,rx⟩:=qfz r
 have hl:=qek
 have hs:sizeLine=16777216:=sizeLine_eq
 cases x with
 | str y=>
  obtain ⟨t,rfl⟩:=rx
  obtain ⟨hy,e'⟩:y.length≤sizeLine∧n=y.length:=e
  subst e'
  exact len_str (by omega) ⟨.int _,H,I.tok _,⟨_,rfl⟩,q⟩
 | byt y=>
  obtain ⟨t,rfl⟩:=rx
  obtain ⟨hy,e'⟩:y.size≤sizeLine∧n=y.size:=e
  subst e'
  exact PySem.W.len_bytes (by omega) ⟨.int _,H,I.tok _,⟨_,rfl⟩,q⟩
 | ref p=>
  cases rx
  have e':(∃xs,SqL X.K H p xs∧n=xs.length)∨∃xs,SqT X.K H p xs∧n=xs.length:=e
  rcases e' with ⟨xs,hx,e'⟩ | ⟨xs,hx,e'⟩
  ·subst e'
   obtain ⟨its,r',pl,hz⟩:=I.list hx
   have hlen:=r'.length
   exact Calls.call_len_list pl.isList (by simp only[List.size_toArray]; omega) ⟨.int xs.length,H,I.tok _,⟨_,by simp only[List.size_toArray]; rw[hlen]⟩,q⟩
  ·subst e'
   obtain ⟨its,r',pl,hz⟩:=I.tuple hx
   have hlen:=r'.length
   exact len_tuple pl (by simp only[List.size_toArray]; omega) ⟨.int xs.length,H,I.tok _,⟨_,by simp only[List.size_toArray]; rw[hlen]⟩,q⟩
 | _=>exact (show False from e).elim
end
end L2
namespace L2
open PySem PySem.Spec PyProof.Rows
structure qpE (h:Heap) (x dx C:Addr) (mA:Str→Option Value):Prop where
 obj:h.get? x=some (PySem.W.instObj C dx)
 ns:h.Ns1 dx mA
 ne:dx≠x
theorem qk5 {h:Heap} {dx:Addr} {mA:Str→Option Value} (n:h.Ns1 dx mA): ∃od,h.get? dx=some od∧∀name,PySem.W.lookIn name od=some (mA name):=by
 obtain ⟨o,es,ep,ho,hd,hk,_,hm⟩:=n
 refine ⟨o,ho,fun name=> ?_⟩
 have e:=hm name
 unfold nsFind findBy at e
 rw[←Array.find?_toList] at e
 unfold PySem.W.lookIn
 rw[hd]
 dsimp only
 split
 ·rename_i y q
  rw[q] at e
  exact congrArg some e
 ·rename_i q
  rw[q] at e
  have a:es.toList.any (·.refKey)=false:=by
   rw[List.any_eq_false]
   intro y hy
   obtain ⟨z,t,hkey⟩:=hk y (Array.mem_toList_iff.mp hy)
   simp[DictEntry.refKey,hkey]
  have a': ¬es.toList.any (·.refKey)=true:=by rw[a]; exact Bool.false_ne_true
  rw[if_neg a']
  exact congrArg some e
theorem qpE.look {h:Heap} {x dx C:Addr} {mA:Str→Option Value} (I:qpE h x dx C mA): ∃od,PySem.W.InstAt h x (PySem.W.instObj C dx) C (some od)∧∀name,PySem.W.lookIn name od=some (mA name):=
 let ⟨od,ho,hl⟩:=qk5 I.ns
 ⟨od,⟨I.obj,rfl,rfl,ho⟩,hl⟩
section
variable {prog:Program} {w:World} {A:Around} {E:Value→Shared→Prop} {s:Shared} {K:PySem.W.Frag} {x dx C f:Addr} {mA:Str→Option Value} {name:Str} {v:Value}
theorem qpg {expr:Bool} {Q:Value→Shared→Prop} (X:K.In s.heap) (I:qpE s.heap x dx C mA) (hg:PySem.W.plainGet K C name=true) (hh:PySem.W.hasDictIn K C=true)
  (ha:PySem.W.findIn K (.ref C) name=some none) (hv:mA name=some v) (hv':PySem.W.handedIn v=true) (h:Q v { s with toks:=s.toks+1 }):
  wpAny (model prog w) A (getAttr (.ref x) name expr) Q E s:=by
 obtain ⟨od,J,hl⟩:=I.look
 exact PySem.W.get_value X J (PySem.W.plainGet_of hg).1 (PySem.W.findObj_own hh ha rfl (by rw[hl,hv])) hv' h
theorem qm5 {pl:Sem Bool} {Q:Value×List Value→Shared→Prop} (X:K.In s.heap) (I:qpE s.heap x dx C mA) (hg:PySem.W.plainGet K C name=true)
  (hf:PySem.W.findIn K (.ref C) name=some (some (.ref f))) (ht:PySem.W.isFn K (.ref f)=true) (hv:mA name=none) (h:Q (.ref f,[.ref x]) s):
  wpAny (model prog w) A (getMethod (.ref x) name pl) Q E s:=by
 obtain ⟨od,J,hl⟩:=I.look
 exact PySem.W.method_fn X J (PySem.W.plainGet_of hg).1 (PySem.W.plainGet_of hg).2 hf (beq_iff_eq.mp ht) (by show (PySem.W.lookIn name od).map (·.isSome)=some false; rw[hl,hv]; rfl) h
theorem qoD {ns:List Str} {Q:Unit→Shared→Prop} (X:K.In s.heap) (I:qpE s.heap x dx C mA)
  (hs:PySem.W.findIn K (.ref C) "__setattr__" =some (some (.builtin "object.__setattr__"))) (hp:PySem.W.plainOver K C=true) (ht:PySem.W.takerIn K C name=some none) (hh:PySem.W.hasDictIn K C=true)
  (hw:PySem.Within mA ns) (hsz:ns.length≤sizeLine)
  (h: ∀h',qpE h' x dx C (fun y=>if y=name then some v else mA y)→Heap.SameBut dx s.heap h'→Q () { s with heap:=h',toks:=s.toks+2 }):
  wpAny (model prog w) A (setAttr (.ref x) name v) Q E s:=by
 obtain ⟨od,J,hl⟩:=I.look
 refine PySem.W.set_plain X J hs (PySem.W.osa_open (s:={ s with toks:=s.toks+1 }) (r:=none) X J hp ht fun b=> ?_)
 obtain ⟨cd,hc,hd'⟩:=PySem.W.any_some hh
 have hx:s.heap.get? x=some ⟨.ref C,some dx,.plain, #[]⟩:=I.obj
 refine wpAny_bind (wpAny_pure (wpAny_bind (wpAny_bind (wpAny_loadPart hx (wpAny_bind (PySem.W.Looks.here (s:={ s with toks:=s.toks+1 }) (PySem.W.looks_clsIn X hc) ?_))))))
 rw[hd']
 refine wpAny_pure (a:=some dx) (wpAny_bind (wpAny_pure (wpAny_bind ?_)))
 refine wpAny_nsSet1 (s:={ s with toks:=s.toks+1 }) I.ns fun h' hn2 hs2=> ?_
 obtain ⟨oD,esD,epD,hoD,hdD,hcD⟩:=hn2.count (PySem.Within.cons name v hw)
 refine wpAny_bind (wpAny_lookBehind hoD (by rw[hdD]; exact pastItsLine_dict (Nat.le_trans hcD (by rw[List.length_cons]; omega))) ?_)
 exact wpAny_pure (h _ ⟨(hs2.2 _ (Ne.symm I.ne)).trans I.obj,hn2,I.ne⟩ hs2)
theorem qmR {R:Result→Shared→Prop} {vs:List Value} {kw:List (Str×Value)} (X:K.In s.heap) (hm:PySem.W.makesIn K C=true)
  (hi:PySem.W.findIn K (.ref C) "__init__" =some (some (.ref f))) (hf:PySem.W.typeIn K (.ref f)=some (.type "function"))
  (h:codeAny (model prog w) (A.under (.builtin "type.__call__" ⟨.ref C::vs,kw⟩)) (.call (.ref f) ⟨.ref (s.heap.objs.size+1)::vs,kw⟩) (PySem.W.InitBack (s.heap.objs.size+1) R)
   { s with heap:=(s.heap.push PySem.W.emptyDict).push (PySem.W.instObj C s.heap.objs.size) }):
  codeAny (model prog w) A (.call (.ref C) ⟨vs,kw⟩) R s:=by
 obtain ⟨hh,g,d,t,os⟩:=s
 exact PySem.W.make_core (PySem.W.makes_of X hm) (PySem.W.looks_findIn X hi) (fun self=>PySem.W.bind_fn X self hf) (.inl rfl) h
end
def qeq (f:Str) (v:V):List (Str×V)→List (Str×V)
 | []=>[(f,v)]
 | (g,x)::r=>if g=f then (g,v)::r else (g,x)::qeq f v r
theorem qeO (f g:Str) (v:V): ∀fs:List (Str×V),(qeq f v fs).lookup g=if g=f then some v else fs.lookup g
 | []=>by
  show List.lookup g [(f,v)]=_
  by_cases h:g=f
  ·have hb:(g==f)=true:=beq_iff_eq.mpr h
   simp only[List.lookup,hb,if_pos h]
  ·have hb:(g==f)=false:=beq_eq_false_iff_ne.mpr h
   simp only[List.lookup,hb,if_neg h]
 | (k,x)::r=>by
  have ih:=qeO f g v r
  rw[show qeq f v ((k,x)::r)=(if k=f then (k,v)::r else (k,x)::qeq f v r) from rfl]
  by_cases hk:k=f
  ·rw[if_pos hk]
   by_cases h:g=k
   ·have hb:(g==k)=true:=beq_iff_eq.mpr h
    simp only[List.lookup,hb,if_pos (h.trans hk)]
   ·have hb:(g==k)=false:=beq_eq_false_iff_ne.mpr h
    simp only[List.lookup,hb,if_neg (fun e:g=f=>h (e.trans hk.symm))]
  ·rw[if_neg hk]
   by_cases h:g=k
   ·have hb:(g==k)=true:=beq_iff_eq.mpr h
    simp only[List.lookup,hb,if_neg (fun e:g=f=>hk (h.symm.trans e))]
   ·have hb:(g==k)=false:=beq_eq_false_iff_ne.mpr h
    simp only[List.lookup,hb]
    exact ih
theorem qeQ (f:Str) (v:V): ∀fs:List (Str×V),f∈(qeq f v fs).map (·.1)∧∀g,g∈fs.map (·.1)→g∈(qeq f v fs).map (·.1)
 | []=>⟨by simp[qeq],fun g h=>by simp at h⟩
 | (k,x)::r=>by
  obtain ⟨i1,i2⟩:=qeQ f v r
  rw[show qeq f v ((k,x)::r)=(if k=f then (k,v)::r else (k,x)::qeq f v r) from rfl]
  by_cases hk:k=f
  ·rw[if_pos hk]
   subst hk
   exact ⟨by simp,fun g h=>by simpa using h⟩
  ·rw[if_neg hk]
   refine ⟨?_,fun g h=> ?_⟩
   ·rw[List.map_cons]
    exact List.mem_cons_of_mem _ i1
   ·rw[List.map_cons] at h⊢
    rcases List.mem_cons.mp h with e | e
    ·exact List.mem_cons.mpr (.inl e)
    ·exact List.mem_cons_of_mem _ (i2 g e)
theorem qbp (f:Str) (v:V): ∀fs:List (Str×V),(qeq f v fs).length≤fs.length+1
 | []=>by simp[qeq]
 | (k,x)::r=>by
  have ih:=qbp f v r
  rw[show qeq f v ((k,x)::r)=(if k=f then (k,v)::r else (k,x)::qeq f v r) from rfl]
  by_cases hk:k=f
  ·rw[if_pos hk,List.length_cons,List.length_cons]; omega
  ·rw[if_neg hk,List.length_cons,List.length_cons]; omega
theorem qgd.some_of {v:V} {o:Option Value} (r:qgd (some v) o): ∃u,o=some u∧RelV v u:=by
 cases o with
 | none=>exact (show False from r).elim
 | some u=>exact ⟨u,rfl,r⟩
theorem qgd.none_of {o:Option Value} (r:qgd none o):o=none:=by
 cases o with
 | none=>rfl
 | some u=>exact (show False from r).elim
theorem qlu {v:V} {u:Value} (r:RelV v u):PySem.W.handedIn u=true:=by
 cases v with
 | non=>cases (show u=Value.none from r); rfl
 | bl b=>cases (show u=Value.bool b from r); rfl
 | int i=>obtain ⟨t,e⟩:=(show ∃t,u=Value.int i t from r); cases e; rfl
 | str x=>obtain ⟨t,e⟩:=(show ∃t,u=Value.str x t from r); cases e; rfl
 | byt b=>obtain ⟨t,e⟩:=(show ∃t,u=Value.bytes b t from r); cases e; rfl
 | flt b=>obtain ⟨t,e⟩:=(show ∃t,u=Value.float b t from r); cases e; rfl
 | ref a=>cases (show u=Value.ref a from r); rfl
 | ty n=>cases (show u=Value.type n from r); rfl
section
variable {P:Program} {w:World} {H H':Hp} {h h':Heap} {a C dx:Addr} {fs fs':List (Str×V)}
theorem qfU (hok:HOk P w H h) (e:H a=some (.ins C dx fs)): ∃mA,qpE h a dx C mA∧(∀f,qgd (fs.lookup f) (mA f))∧PySem.Within mA (fs.map (·.1))∧fs.length≤1000∧H dx=some (.own a):=by
 obtain ⟨d,z,ne,ob,mA,n,r,q⟩:=(show qbT P w H h a (.ins C dx fs) from hok a _ e)
 exact ⟨mA,⟨ob,n,ne⟩,r,q,z,d⟩
end
structure Cls (K:PySem.W.Frag) (C:Addr):Prop where
 pg:PySem.W.plainGet K C Str.empty=true
 hd:PySem.W.hasDictIn K C=true
 po:PySem.W.plainOver K C=true
 sa:PySem.W.findIn K (.ref C) "__setattr__" =some (some (.builtin "object.__setattr__"))
theorem Cls.get {K:PySem.W.Frag} {C:Addr} (c:Cls K C) (f:Str):PySem.W.plainGet K C f=true:=c.pg
def qcW (K:PySem.W.Frag) (C:Addr) (f:Str):Prop:=PySem.W.findIn K (.ref C) f=some none
theorem qcW.taker {K:PySem.W.Frag} {C:Addr} {f:Str} (n:qcW K C f):PySem.W.takerIn K C f=some none:=by
 unfold PySem.W.takerIn
 rw[show PySem.W.findIn K (.ref C) f=some none from n]
 rfl
structure Con (K:PySem.W.Frag) (C:Addr) (f:Str) (v:V) (u:Value):Prop where
 at_:PySem.W.findIn K (.ref C) f=some (some u)
 rel:RelV v u
 get:PySem.W.specialIn K u "__get__" =some none
 cp:PySem.W.copiedNames.contains f=false
structure qp1 (K:PySem.W.Frag) (C:Addr) (m:Str) (f:Addr):Prop where
 at_:PySem.W.findIn K (.ref C) m=some (some (.ref f))
 fn:PySem.W.isFn K (.ref f)=true
 kp:PySem.W.keepIn K (.ref f)=true
section
variable {X:Cx} {pins:List (Addr×Obj)} {σ:St} {H:Hp} {s:Shared} {a C dx:Addr} {fs:List (Str×V)} {f:Str} {v:V} {A:Around} {E:Value→Shared→Prop}
theorem qjG {b:Bool} {Q:Value→Shared→Prop} (I:Inv X pins σ H s) (e:H a=some (.ins C dx fs)) (c:Cls X.K C) (n:qcW X.K C f) (l:fs.lookup f=some v)
  (h: ∀u s',Inv X pins σ H s'→RelV v u→Q u s'):wpAny (model X.prog X.w) A (getAttr (.ref a) f b) Q E s:=by
 obtain ⟨mA,O,r,_,_,_⟩:=qfU I.hok e
 obtain ⟨u,hu,ru⟩:=qgd.some_of (v:=v) (o:=mA f) (by rw[←l]; exact r f)
 exact qpg I.kIn O (c.get f) c.hd n hu (qlu ru) (h u _ (I.tok _) ru)
theorem qft {m:Str} {g:Addr} {pl:Sem Bool} {Q:Value×List Value→Shared→Prop} (I:Inv X pins σ H s) (e:H a=some (.ins C dx fs)) (c:Cls X.K C) (k:qp1 X.K C m g) (l:fs.lookup m=none)
  (h:Q (.ref g,[.ref a]) s):wpAny (model X.prog X.w) A (getMethod (.ref a) m pl) Q E s:=by
 obtain ⟨mA,O,r,_,_,_⟩:=qfU I.hok e
 have hn:mA m=none:=qgd.none_of (by rw[←l]; exact r m)
 exact qm5 I.kIn O (c.get m) k.at_ k.fn hn h
theorem qjj {y:V} {u:Value} {Q:Unit→Shared→Prop} (I:Inv X pins σ H s) (e:H a=some (.ins C dx fs)) (c:Cls X.K C) (n:qcW X.K C f) (hl:fs.length<1000) (ry:RelV y u)
  (h: ∀s',Inv X pins σ (upd H a (.ins C dx (qeq f y fs))) s'→Q () s'):wpAny (model X.prog X.w) A (setAttr (.ref a) f u) Q E s:=by
 obtain ⟨mA,O,r,wi,_,ho⟩:=qfU I.hok e
 have hz:(fs.map (·.1)).length≤sizeLine:=by rw[List.length_map,sizeLine_eq]; omega
 refine qoD I.kIn O c.sa c.po n.taker c.hd wi hz fun h' O' sb=>h _ ?_
 have hd: ∃o,h'.get? dx=some o:=let ⟨o,_,_,e',_⟩:=O'.ns; ⟨o,e'⟩
 refine I.write (x:=a) (e:=dx) (by rw[e]; exact True.intro) (.inr ho) (fun b q hb z=>(sb.2 b hb).trans z) hd ?_
 refine ⟨by rw[qae O.ne]; exact ho,?_,O.ne,O'.obj,_,O'.ns,fun g=> ?_,fun g hg=> ?_⟩
 ·have:=qbp f y fs; omega
 ·show qgd ((qeq f y fs).lookup g) (if g=f then some u else mA g)
  rw[qeO]
  by_cases q:g=f
  ·rw[if_pos q,if_pos q]; exact ry
  ·rw[if_neg q,if_neg q]; exact r g
 ·by_cases q:g=f
  ·rw[q]; exact (qeQ f y fs).1
  ·refine (qeQ f y fs).2 g (wi g fun z=>hg ?_)
   show (if g=f then some u else mA g)=none
   rw[if_neg q]; exact z
theorem Inv.made (I:Inv X pins σ H s):Inv X pins σ (upd (upd H s.heap.objs.size (.own (s.heap.objs.size+1))) (s.heap.objs.size+1) (.ins C s.heap.objs.size []))
  { s with heap:=(s.heap.push PySem.W.emptyDict).push (PySem.W.instObj C s.heap.objs.size) }:=by
 have e1:(s.heap.push PySem.W.emptyDict).get? s.heap.objs.size=some PySem.W.emptyDict:=Heap.get?_push_size s.heap rfl
 have e2:((s.heap.push PySem.W.emptyDict).push (PySem.W.instObj C s.heap.objs.size)).get? (s.heap.objs.size+1)=some (PySem.W.instObj C s.heap.objs.size):=by
  have:=Heap.get?_push_size (s.heap.push PySem.W.emptyDict) (o:=PySem.W.instObj C s.heap.objs.size) rfl
  rwa [Heap.size_push] at this
 have e3:(s.heap.push PySem.W.emptyDict).Ns s.heap.objs.size (fun _=>none):=⟨PySem.W.emptyDict, #[],_,e1,rfl,(fun e he=>absurd he (by simp)),fun _=>rfl⟩
 have I1:=I.laid (a:=s.heap.objs.size) (o:=.own (s.heap.objs.size+1)) (h':=s.heap.push PySem.W.emptyDict) (t':=s.toks) (fun b u q=>Heap.get?_push_of_some _ q) (Nat.le_refl _) ⟨_,e1⟩
 refine I1.laid (a:=s.heap.objs.size+1) (o:=.ins C s.heap.objs.size []) (t':=s.toks) (fun b u q=>Heap.get?_push_of_some _ q) (Nat.le_of_eq (Heap.size_push _ _)) ?_
 have ne:s.heap.objs.size≠s.heap.objs.size+1:=Nat.ne_of_lt (Nat.lt_succ_self _)
 refine ⟨by rw[qae ne,qag],Nat.zero_le _,ne,e2,fun _=>none,(Heap.Ns1.of_empty e3).at fun o q=>Heap.get?_push_of_some _ q,fun _=>True.intro,fun y hy=>absurd rfl hy⟩
theorem qpB {prog:Program} {w:World} {env:Env} {e:Expr} {f:Str} {pos:Pos} {s:Shared} {Q:Value→Shared→Prop} (hb:attributeBase e f env (eval e env)=eval e env)
  (h:wpAny (model prog w) A (eval e env) (fun o s₁=>wpAny (model prog w) A (getAttr o f true) Q E s₁) E s):wpAny (model prog w) A (eval (.Attribute e f pos) env) Q E s:=
 Attribute_any_ h (by rw[arm_eval_Attribute,hb])
end
def qto (K:PySem.W.Frag) (ta:TE) (f:Str):TE:=fun σ H Q=>ta σ H fun x H1=> ∃a C dx fs v,x= .ref a∧H1 a=some (.ins C dx fs)∧Cls K C∧qcW K C f∧fs.lookup f=some v∧Q v H1
def qul (K:PySem.W.Frag) (ta tv:TE) (f:Str):TS:=fun D σ H=>tv σ H fun y H1=>ta σ H1 fun x H2=> ∃a C dx fs,x= .ref a∧H2 a=some (.ins C dx fs)∧Cls K C∧qcW K C f∧fs.length<1000∧
 D.nx σ (upd H2 a (.ins C dx (qeq f y fs)))
section
variable {X:Cx} {o e value:Expr} {f:Str} {pos pos' tpos:Pos} {ta tv:TE}
theorem qfh (he:PE X e ta) (hb:attributeBase e f X.env (eval e X.env)=eval e X.env):PE X (.Attribute e f pos) (qto X.K ta f):=by
 intro pins s σ H Q I h
 refine qpB hb (thn (he pins s σ H _ I h) fun u s1 ⟨x,H1,I1,rx,a,C,dx,fs,v,ex,ea,c,n,l,q⟩=> ?_)
 subst ex
 obtain rfl:u=Value.ref a:=rx
 exact qjG I1 ea c n l fun u' s2 I2 ru=>⟨v,H1,I2,ru,q⟩
theorem qff (ha:PE X o ta) (hv:PE X value tv) (hs:swapsWith value (some (.Attribute o f pos')) pos.line X.env=pure false):PS X (.Assign [.Attribute o f pos'] value pos) (qul X.K ta tv f):=by
 intro pins s σ H D I h
 refine plainObj_wpAny_Assign_Attribute (thn (hv pins s σ H _ I h) fun u s1 ⟨y,H1,I1,ry,q⟩=>thn (ha pins s1 σ H1 _ I1 q) fun ov s2 ⟨x,H2,I2,rx,a,C,dx,fs,ex,ea,c,n,l,q2⟩=> ?_) hs
 subst ex
 obtain rfl:ov=Value.ref a:=rx
 exact qjj I2 ea c n l ry fun s3 I3=>⟨σ,_,I3,q2⟩
theorem qo2 {pl:Sem Bool} {m:Str} {apos:Pos} {args:List Expr} {pins:List (Addr×Obj)} {s:Shared} {σ:St} {H:Hp} {Q:Value→Shared→Prop} {te:TE} (he:PE X e te) (I:Inv X pins σ H s)
  (h:te σ H fun x H1=> ∃a C dx fs g,x= .ref a∧H1 a=some (.ins C dx fs)∧Cls X.K C∧qp1 X.K C m g∧fs.lookup m=none∧
   ∀s1,Inv X pins σ H1 s1→wpAny (model X.prog X.w) X.A (callWith pos (.ref g) [.ref a] (backTo pos (starEach args X.env)) (backToKw pos (keywordEach [] X.env))) Q X.xe s1)
  (ht:eval (.Call (.Attribute e m apos) args [] pos) X.env=(do
   let ov ←eval e X.env
   standAt apos.atName
   let (f,first) ←holding [ov] (getMethod ov m pl)
   callWith pos f first (backTo pos (starEach args X.env)) (backToKw pos (keywordEach [] X.env)))):
  wpAny (model X.prog X.w) X.A (eval (.Call (.Attribute e m apos) args [] pos) X.env) Q X.xe s:=by
 refine PySem.W.methodCall_KW (pl:=pl) (thn (he pins s σ H _ I h) fun u s1 ⟨x,H1,I1,rx,a,C,dx,fs,g,ex,ea,c,k,l,q⟩=> ?_) ht
 subst ex
 obtain rfl:u=Value.ref a:=rx
 exact qft I1 ea c k l (q s1 I1)
end
section
variable {X:Cx} {pins:List (Addr×Obj)} {σ:St} {H:Hp} {s:Shared} {A:Around} {E:Value→Shared→Prop} {Q:Value→Shared→Prop} {c:Value} {b:Bool}
inductive qja (K:PySem.W.Frag) (H:Hp):V→Value→Prop where
 | non:qja K H .non (.type "NoneType")
 | bl (x:Bool):qja K H (.bl x) (.type "bool")
 | int (i:Int):qja K H (.int i) (.type "int")
 | str (x:Str):qja K H (.str x) (.type "str")
 | flt (x:UInt64):qja K H (.flt x) (.type "float")
 | lst {a:Addr} {xs:List V} (e:H a=some (.lst xs)):qja K H (.ref a) (.type "list")
 | frz {a:Addr} {o:Obj} {xs:List V} (e:H a=some (.frz o (.lst xs))):qja K H (.ref a) (.type "list")
 | tup {a:Addr} {xs:List V} (e:H a=some (.tup xs)):qja K H (.ref a) (.type "tuple")
 | dK {a:Addr} {kvs:List (Key×V)} (e:H a=some (.dK kvs)):qja K H (.ref a) (.type "dict")
 | dT {a:Addr} {kvs:List (List Key×V)} (e:H a=some (.dT kvs)):qja K H (.ref a) (.type "dict")
 | ins {a C dx:Addr} {fs:List (Str×V)} (e:H a=some (.ins C dx fs)) (cl:Cls K C) (ha:PySem.W.findIn K (.ref C) "__class__" =some (some (.builtin "object.__class__")))
   (hn:PySem.W.specialIn K (.builtin "object.__class__") "__get__" =some (some (.builtin "getset_descriptor.__get__"))) (htk:PySem.W.takesIn K (.builtin "object.__class__")=some true)
   (hm:PySem.W.mroIn K C (.type "object")=some true):qja K H (.ref a) (.ref C)
theorem qgJ {x:V} {u t:Value} (I:Inv X pins σ H s) (rx:RelV x u) (ty:qja X.K H x t) (e:PySem.W.kitOne X.K t c=some b) (h: ∀tk,Q (.bool b) { s with toks:=tk }):
  wpAny (model X.prog X.w) A (call (.builtin "isinstance") [u,c]) Q E s:=by
 cases ty with
 | non=>cases (show u=Value.none from rx); exact PySem.W.kia_one PySem.W.kitx_none I.kIn True.intro e (fun z=>nomatch z) h
 | bl y=>cases (show u=Value.bool y from rx); exact PySem.W.kia_one PySem.W.kitx_bool I.kIn True.intro e (fun z=>nomatch z) h
 | int i=>obtain ⟨t,q⟩:=(show ∃t,u=Value.int i t from rx); cases q; exact PySem.W.kia_one PySem.W.kitx_int I.kIn True.intro e (fun z=>nomatch z) h
 | str y=>obtain ⟨t,q⟩:=(show ∃t,u=Value.str y t from rx); cases q; exact PySem.W.kia_one PySem.W.kitx_str I.kIn True.intro e (fun z=>nomatch z) h
 | flt y=>obtain ⟨t,q⟩:=(show ∃t,u=Value.float y t from rx); cases q; exact PySem.W.kia_one PySem.W.kitx_float I.kIn True.intro e (fun z=>nomatch z) h
 | @lst a xs ea=>
  cases (show u=Value.ref a from rx)
  obtain ⟨_,_,n,_,h1⟩:=(show qbT X.prog X.w H s.heap a (.lst xs) from I.hok a _ ea)
  exact PySem.W.kia_one PySem.W.kitx_list I.kIn ⟨_,h1,rfl⟩ e (fun z=>nomatch z) h
 | @frz a ob xs ea=>
  cases (show u=Value.ref a from rx)
  obtain ⟨_,_,_,n,_,h1⟩:=(show qbT X.prog X.w H s.heap a (.frz ob (.lst xs)) from I.hok a _ ea)
  exact PySem.W.kia_one PySem.W.kitx_list I.kIn ⟨_,h1,rfl⟩ e (fun z=>nomatch z) h
 | @tup a xs ea=>
  cases (show u=Value.ref a from rx)
  obtain ⟨_,_,_,p⟩:=(show qbT X.prog X.w H s.heap a (.tup xs) from I.hok a _ ea)
  obtain ⟨o,h1,h2,_⟩:=p
  exact PySem.W.kia_one PySem.W.kitx_tuple I.kIn ⟨o,h1,h2⟩ e (fun z=>nomatch z) h
 | @dK a kvs ea=>
  cases (show u=Value.ref a from rx)
  obtain ⟨_,_,vs,_,p⟩:=(show qbT X.prog X.w H s.heap a (.dK kvs) from I.hok a _ ea)
  obtain ⟨o,es,ep,h1,h2,_⟩:=p
  exact PySem.W.kia_one PySem.W.kitx_dict I.kIn ⟨o,h1,h2.1⟩ e (fun z=>nomatch z) h
 | @dT a kvs ea=>
  cases (show u=Value.ref a from rx)
  obtain ⟨_,_,xs,_,o,es,ep,h1,h2,_⟩:=(show qbT X.prog X.w H s.heap a (.dT kvs) from I.hok a _ ea)
  exact PySem.W.kia_one PySem.W.kitx_dict I.kIn ⟨o,h1,h2.1⟩ e (fun z=>nomatch z) h
 | @ins a C dx fs ea cl ha hn htk hm=>
  cases (show u=Value.ref a from rx)
  obtain ⟨mA,O,_⟩:=qfU I.hok ea
  obtain ⟨od,J,_⟩:=O.look
  exact PySem.W.kia_one (PySem.W.kitx_own (cl.get _) cl.hd ha hn htk hm) I.kIn J e (fun z=>nomatch z) h
end
end L2
namespace L2
open PySem PySem.Spec PyProof.Rows
structure qcR (k:Nat) (A:Around):Prop where
 hd:A.handled=none
 dp:A.depth+3*k+5<recursionLimit
 un:A.units+16*k+200<cLine
theorem qcR.mono {j k:Nat} {A:Around} (r:qcR k A) (h:j≤k):qcR j A:=⟨r.hd,by have:=r.dp; omega,by have:=r.un; omega⟩
theorem qcR.deeper {k:Nat} {A:Around} (r:qcR (k+1) A) (env:Env):qcR k (A.deeper env):=
 ⟨r.hd,by have:=r.dp; show A.depth+1+3*k+5<_; omega,by have:=r.un; show A.units+3+16*k+200<_; omega⟩
theorem qcR.in1 {k:Nat} {A:Around} (r:qcR (k+1) A):qcR k A.in1:=
 ⟨r.hd,by have:=r.dp; show A.depth+3*k+5<_; omega,by have:=r.un; show A.units+1+16*k+200<_; omega⟩
theorem qjz {A:Around} {C:Addr} {us:List Value} {kw:List (Str×Value)}:(A.under (.builtin "type.__call__" ⟨.ref C::us,kw⟩)).depth=A.depth+1:=by
 first | rfl | simp[Around.under,Code.weight,Code.isCreation,Code.isGuard,Code.isCaller,Code.frames,Code.isFrame,guardIds]
theorem qjy {A:Around} {C:Addr} {us:List Value} {kw:List (Str×Value)}:(A.under (.builtin "type.__call__" ⟨.ref C::us,kw⟩)).units=A.units+1:=by
 first | rfl | simp[Around.under,Code.cUnits,Code.frames,Code.isFrame]
theorem qcR.make {k:Nat} {A:Around} (r:qcR (k+1) A) (C:Addr) (us:List Value) (kw:List (Str×Value)):qcR k (A.under (.builtin "type.__call__" ⟨.ref C::us,kw⟩)):=
 ⟨r.hd,by have:=r.dp; rw[qjz]; omega,by have:=r.un; rw[qjy]; omega⟩
theorem qcR.depth {k:Nat} {A:Around} (r:qcR k A):A.depth<recursionLimit:=by have:=r.dp; omega
theorem qcR.units {k:Nat} {A:Around} (r:qcR k A):A.units+64<cLine:=by have:=r.un; omega
theorem qcR.units0 {k:Nat} {A:Around} (r:qcR k A):A.units<cLine:=by have:=r.un; omega
def qj1:TA:=fun _ H Q=>Q [] H
def qdm (ta:TE) (tr:TA):TA:=fun σ H Q=>ta σ H fun x H1=>tr σ H1 fun xs H2=>Q (x::xs) H2
section
variable {X:Cx} {e:Expr} {es:List Expr} {te:TE} {t:TA} {pos:Pos}
theorem qaq:PA X [] qj1:=fun _ _ _ _ H Q I h=>Calls.spliced_nil ⟨[],H,I,.nil,h⟩
theorem qaf (ha:PE X e te) (hr:PA X es t) (hs:starEach (e::es) X.env=(false,eval e X.env)::starEach es X.env:=by rfl):PA X (e::es) (qdm te t):=by
 intro pos pins s σ H Q I h
 rw[hs]
 show wpAny _ _ (spliced ((false,eval e X.env)::backTo pos (starEach es X.env))) _ _ s
 refine Calls.spliced_cons (thn (ha pins s σ H _ I h) fun u s1 ⟨x,H1,I1,r1,q1⟩=> ?_)
 exact thn (hr pos pins s1 σ H1 _ I1 q1) fun us s2 ⟨xs,H2,I2,r2,q2⟩=>⟨x::xs,H2,I2,.cons r1 r2,q2⟩
def qtZ (t:TA):TE:=fun σ H Q=>t σ H fun xs H1=>xs.length≤sizeLine∧∀p,H1 p=none→Q (.ref p) (upd H1 p (.tup xs))
def qt3 (t:TA):TE:=fun σ H Q=>t σ H fun xs H1=>xs.length≤sizeLine∧∀p,H1 p=none→Q (.ref p) (upd H1 p (.lst xs))
theorem qfg {x1} (h:PA X es t):PE X (.Tuple es x1 pos) (qtZ t):=by
 intro pins s σ H Q I hq
 refine wpAny_Tuple_spliced (thn (h pos pins s σ H _ I hq) fun us s1 ⟨xs,H1,I1,r,z,q⟩=>⟨by rw[←r.length]; exact z,?_⟩)
 have hf:H1 s1.heap.objs.size=none:=I1.hok.fresh (Nat.le_refl _)
 refine ⟨.ref s1.heap.objs.size,upd H1 s1.heap.objs.size (.tup xs),I1.laid (t':=s1.toks) (fun b u e=>Heap.get?_push_of_some _ e) (Nat.le_refl _) ?_,rfl,q _ hf⟩
 exact ⟨z,us,r,⟨_,Heap.get?_push_size _ rfl,rfl,_,rfl⟩⟩
theorem qgt (h:PA X es t):PE X (.List es pos) (qt3 t):=by
 intro pins s σ H Q I hq
 refine wpAny_List_spliced (thn (h pos pins s σ H _ I hq) fun us s1 ⟨xs,H1,I1,r,z,q⟩=>⟨by rw[←r.length]; exact z,?_⟩)
 have hf:H1 s1.heap.objs.size=none:=I1.hok.fresh (Nat.le_refl _)
 refine ⟨.ref s1.heap.objs.size,upd H1 s1.heap.objs.size (.lst xs),I1.laid (t':=s1.toks) (fun b u e=>Heap.get?_push_of_some _ e) (Nat.le_refl _) ?_,rfl,q _ hf⟩
 exact ⟨z,us,0,r,Heap.get?_push_size _ rfl⟩
end
abbrev Sp:=List V→Hp→VK→XK→Prop
abbrev CXT:=List Env→Hp→Shared→XK→Value→Shared→Prop
structure qmd (P:Program) (w:World) (K:PySem.W.Frag) (mg:Str→Option Value) (base:Heap) (A:Around) (outer:List Env) (s:Shared) (H:Hp):Prop where
 frames:A.frames=some outer
 mod:Mod K mg base
 bs: ∀b o,base.get? b=some o→s.heap.get? b=some o∧H b=none
 bsz:base.objs.size≤s.heap.objs.size
 funs:s.heap.FunFrames base outer
 frf: ∀b∈frs outer,H b=none
 hok:HOk P w H s.heap
 bare:AllBare s.gens
def CE (outer:List Env) (P:Program) (w:World) (H:Hp) (s:Shared) (Q:VK) (u:Value) (s':Shared):Prop:=
 ∃v H',s'.os=s.os∧AllBare s'.gens∧Un (frs outer) [] H H' s.heap s'.heap∧HOk P w H' s'.heap∧RelV v u∧Q v H'
def CR (CX:CXT) (outer:List Env) (P:Program) (w:World) (H:Hp) (s:Shared) (Q:VK) (E:XK) (r:Result) (s':Shared):Prop:=
 match r with
 | .ok (.ret u)=>CE outer P w H s Q u s'
 | .ok _=>False
 | .error e=>CX outer H s E e s'
structure qbb (P:Program) (w:World) (K:PySem.W.Frag) (mg:Str→Option Value) (base:Heap) (CX:CXT) (k:Nat) (f:Addr) (fd:FuncData) (ps:List Str) (sp:Sp):Prop where
 len: ∀vs H Q E,sp vs H Q E→vs.length=ps.length
 run: ∀(A:Around) (outer:List Env) (s:Shared) (H:Hp) (args:Args) (us:List Value) (vs:List V) (Q:VK) (E:XK),qcR k A→qmd P w K mg base A outer s H→BindsTo s fd args (ps.zip us)→Vals vs us→sp vs H Q E→
  codeAny (model P w) A (.call (.ref f) args) (CR CX outer P w H s Q E) s
theorem qbb.imp {P:Program} {w:World} {K:PySem.W.Frag} {mg:Str→Option Value} {base:Heap} {CX:CXT} {k:Nat} {f:Addr} {fd:FuncData} {ps:List Str} {sp sp':Sp} (F:qbb P w K mg base CX k f fd ps sp)
  (h: ∀vs H Q E,sp' vs H Q E→sp vs H Q E):qbb P w K mg base CX k f fd ps sp':=
 ⟨fun vs H Q E q=>F.len vs H Q E (h _ _ _ _ q),fun A outer s H args us vs Q E hr he hb hv hs=>F.run A outer s H args us vs Q E hr he hb hv (h _ _ _ _ hs)⟩
theorem qmd.make {P:Program} {w:World} {K:PySem.W.Frag} {mg:Str→Option Value} {base:Heap} {A:Around} {outer:List Env} {s:Shared} {H:Hp} (e:qmd P w K mg base A outer s H) (C:Addr) (us:List Value) (kw:List (Str×Value)):
  qmd P w K mg base (A.under (.builtin "type.__call__" ⟨.ref C::us,kw⟩)) outer s H:=⟨by first | exact e.frames | (simpa [Around.under,Code.envs,Code.isFrame,pushEnvs] using e.frames),e.mod,e.bs,e.bsz,e.funs,e.frf,e.hok,e.bare⟩
theorem qmd.in1 {P:Program} {w:World} {K:PySem.W.Frag} {mg:Str→Option Value} {base:Heap} {A:Around} {outer:List Env} {s:Shared} {H:Hp} (e:qmd P w K mg base A outer s H):
  qmd P w K mg base A.in1 outer s H:=⟨e.frames,e.mod,e.bs,e.bsz,e.funs,e.frf,e.hok,e.bare⟩
section
variable {X:Cx} {pins:List (Addr×Obj)} {σ:St} {H:Hp} {s s':Shared}
theorem Inv.env0 (I:Inv X pins σ H s):qmd X.prog X.w X.K X.mg X.base X.A X.stack s H:=
 ⟨I.ok.frames,I.ok.mod,I.bs,Nat.le_trans I.ok.bsz I.sz,I.stack,I.stkFree,I.hok,I.bare⟩
theorem Inv.after {Q:VK} {u:Value} (I:Inv X pins σ H s) (h:CE X.stack X.prog X.w H s Q u s'):EP X pins σ Q u s':=by
 obtain ⟨v,H',os,bare,un,hok,r,q⟩:=h
 obtain ⟨hh,g,d,t,os'⟩:=s'
 obtain rfl:os'=s.os:=os
 exact ⟨v,H',I.call (h':=hh) (g':=g) (d':=d) (t':=t) (ch:=[]) un hok bare (fun b z=>absurd z (by simp)),r,q⟩
end
def qp9 (sp:Sp) (dvs:List V) (E:XK) (t:TA):TE:=fun σ H Q=>t σ H fun vs H1=>sp (vs++dvs) H1 Q E
def qrP (C:Addr) (m:Str) (sp:Sp) (dvs:List V) (E:XK) (ta:TE) (t:TA):TE:=fun σ H Q=>ta σ H fun x H1=> ∃a dx fs,x= .ref a∧H1 a=some (.ins C dx fs)∧fs.lookup m=none∧
 t σ H1 fun vs H2=>sp (x::(vs++dvs)) H2 Q E
def qrQ (C:Addr) (sp:Sp) (dvs:List V) (E:XK) (t:TA):TE:=fun σ H Q=>t σ H fun vs H1=> ∀x dx,H1 x=none→H1 dx=none→dx≠x→
 sp (.ref x::(vs++dvs)) (upd (upd H1 dx (.own x)) x (.ins C dx [])) (fun v H2=>v= .non∧Q (.ref x) H2) E
def qbz (K:PySem.W.Frag) (fd:FuncData) (ps:List Str) (ds:List Value):Prop:=
 ∀(s:Shared) (us:List Value),K.In s.heap→(us++ds).length=ps.length→BindsTo s fd ⟨us,[]⟩ (ps.zip (us++ds))
theorem qbz.all {K:PySem.W.Frag} {fd:FuncData} {ps:List Str} (h: ∀us:List Value,us.length=ps.length→bindArgs fd ⟨us,[]⟩=pure (ps.zip us)):qbz K fd ps []:=fun s us _ hl=>by
 rw[List.append_nil] at hl⊢
 exact .of_eq (h us hl)
def qeo (CX:CXT) (X:Cx) (E:XK):Prop:= ∀(pins:List (Addr×Obj)) (σ:St) (H:Hp) (s:Shared) (e:Value) (s':Shared),Inv X pins σ H s→CX X.stack H s E e s'→X.xe e s'
section
variable {X:Cx} {CX:CXT} {k:Nat} {f C:Addr} {fd:FuncData} {ps:List Str} {sp:Sp} {dvs:List V} {ds:List Value} {E:XK} {x m:Str} {p pos apos:Pos} {e o:Expr} {es:List Expr} {ta:TE} {t:TA}
theorem qnT {pins:List (Addr×Obj)} {σ:St} {H:Hp} {s:Shared} {Q:VK} {us:List Value} {vs:List V} (F:qbb X.prog X.w X.K X.mg X.base CX k f fd ps sp) (hr:qcR k X.A) (hb:qbz X.K fd ps ds) (hd:Vals dvs ds) (hx:qeo CX X E)
  (I:Inv X pins σ H s) (r:Vals vs us) (h:sp (vs++dvs) H Q E):wpAny (model X.prog X.w) X.A (call (.ref f) us) (EP X pins σ Q) X.xe s:=by
 have r2:Vals (vs++dvs) (us++ds):=r.append hd
 have hl:(us++ds).length=ps.length:=by rw[←r2.length]; exact F.len _ _ _ _ h
 refine wpAny_call (codeAny_mono (F.run X.A X.stack s H ⟨us,[]⟩ (us++ds) (vs++dvs) Q E hr I.env0 (hb s us I.kIn hl) r2 h) fun r s' hq=> ?_)
 cases r with
 | error e=>exact hx pins σ H s e s' I hq
 | ok fl=>
  cases fl with
  | ret u=>exact I.after hq
  | next=>exact False.elim hq
  | brk=>exact False.elim hq
  | cont=>exact False.elim hq
theorem qbi (F:qbb X.prog X.w X.K X.mg X.base CX k f fd ps sp) (hr:qcR k X.A) (hg:Gl X x) (hm:X.mg x=some (.ref f)) (hk:PySem.W.keepIn X.K (.ref f)=true) (hb:qbz X.K fd ps ds) (hd:Vals dvs ds) (hx:qeo CX X E)
  (ha:PA X (e::es) t) (hdb:(x==("__debug__" :Str))=false:=by decide) (he:starEach (e::es) X.env=(false,eval e X.env)::starEach es X.env:=by rfl) (hpl:(backTo pos (starEach es X.env)).any (·.1)=false:=by rfl):
  PE X (.Call (.Name x p) (e::es) [] pos) (qp9 sp dvs E t):=by
 intro pins s σ H Q I h
 refine wpAny_Call_Name_kw (qhF I hg hm ?_ hdb)
 refine PySem.W.callWith_K (h₀:=X.base) I.ok.mod.kin hk (thn (ha pos pins s σ H _ I h) fun us s1 ⟨vs,H1,I1,r,q⟩=>⟨I1.kIn,?_⟩) he hpl
 exact qnT F hr hb hd hx I1 r q
theorem qoP {pl:Sem Bool} (he:PE X o ta) (c:Cls X.K C) (hm:qp1 X.K C m f) (F:qbb X.prog X.w X.K X.mg X.base CX k f fd ps sp) (hr:qcR k X.A) (hb:qbz X.K fd ps ds) (hd:Vals dvs ds) (hx:qeo CX X E) (ha:PA X (e::es) t)
  (hst:starEach (e::es) X.env=(false,eval e X.env)::starEach es X.env:=by rfl) (hpl:(backTo pos (starEach es X.env)).any (·.1)=false:=by rfl)
  (ht:eval (.Call (.Attribute o m apos) (e::es) [] pos) X.env=(do
   let ov ←eval o X.env
   standAt apos.atName
   let (f,first) ←holding [ov] (getMethod ov m pl)
   callWith pos f first (backTo pos (starEach (e::es) X.env)) (backToKw pos (keywordEach [] X.env))):=by rfl):
  PE X (.Call (.Attribute o m apos) (e::es) [] pos) (qrP C m sp dvs E ta t):=by
 intro pins s σ H Q I h
 refine PySem.W.methodCall_KW (pl:=pl) (thn (he pins s σ H _ I h) fun u s1 ⟨x,H1,I1,rx,a,dx,fs,ex,ea,l,q⟩=> ?_) ht
 subst ex
 obtain rfl:u=Value.ref a:=rx
 refine qft I1 ea c hm l ?_
 refine PySem.W.callWith_K (first:=[.ref a]) (h₀:=X.base) I.ok.mod.kin hm.kp (thn (ha pos pins s1 σ H1 _ I1 q) fun us s2 ⟨vs,H2,I2,r,q2⟩=>⟨I2.kIn,?_⟩) hst hpl
 exact qnT (us:=.ref a::us) (vs:=.ref a::vs) F hr hb hd hx I2 (.cons rfl r) q2
structure Mk (K:PySem.W.Frag) (C f:Addr):Prop where
 makes:PySem.W.makesIn K C=true
 init:PySem.W.findIn K (.ref C) "__init__" =some (some (.ref f))
 fn:PySem.W.isFn K (.ref f)=true
 kp:PySem.W.keepIn K (.ref C)=true
theorem qmw {pins:List (Addr×Obj)} {σ:St} {H:Hp} {s:Shared} {Q:VK} {us:List Value} {vs:List V} (M:Mk X.K C f) (F:qbb X.prog X.w X.K X.mg X.base CX k f fd ps sp) (hr:qcR (k+1) X.A) (hb:qbz X.K fd ps ds) (hd:Vals dvs ds)
  (hx:qeo CX X E) (I:Inv X pins σ H s) (r:Vals vs us)
  (h: ∀x dx,H x=none→H dx=none→dx≠x→sp (.ref x::(vs++dvs)) (upd (upd H dx (.own x)) x (.ins C dx [])) (fun v H2=>v= .non∧Q (.ref x) H2) E):
  wpAny (model X.prog X.w) X.A (call (.ref C) us) (EP X pins σ Q) X.xe s:=by
 have hq:=h (s.heap.objs.size+1) s.heap.objs.size (I.hok.fresh (Nat.le_succ _)) (I.hok.fresh (Nat.le_refl _)) (Nat.ne_of_lt (Nat.lt_succ_self _))
 have I2:=Inv.made (C:=C) I
 have r2:Vals (V.ref (s.heap.objs.size+1)::(vs++dvs)) (Value.ref (s.heap.objs.size+1)::(us++ds)):=.cons rfl (r.append hd)
 have hl:(Value.ref (s.heap.objs.size+1)::us++ds).length=ps.length:=by
  have e:=r2.length
  rw[F.len _ _ _ _ hq] at e
  exact e.symm
 refine wpAny_call (qmR (f:=f) I.kIn M.makes M.init (beq_iff_eq.mp M.fn) (codeAny_mono (F.run _ X.stack _ _ ⟨Value.ref (s.heap.objs.size+1)::us,[]⟩ (Value.ref (s.heap.objs.size+1)::(us++ds)) _ _ E (hr.make C us [])
  (I2.env0.make C us []) (hb _ (Value.ref (s.heap.objs.size+1)::us) I2.kIn hl) r2 hq) fun r s' hq'=> ?_))
 cases r with
 | error e=>exact hx pins σ _ _ e s' I2 hq'
 | ok fl=>
  cases fl with
  | ret u=>
   obtain ⟨v,H',I3,rv,ev,q3⟩:=I2.after hq'
   subst ev
   exact ⟨rv,⟨V.ref (s.heap.objs.size+1),H',I3,rfl,q3⟩⟩
  | next=>exact False.elim hq'
  | brk=>exact False.elim hq'
  | cont=>exact False.elim hq'
theorem qoQ (M:Mk X.K C f) (F:qbb X.prog X.w X.K X.mg X.base CX k f fd ps sp) (hr:qcR (k+1) X.A) (hg:Gl X x) (hm:X.mg x=some (.ref C)) (hb:qbz X.K fd ps ds) (hd:Vals dvs ds) (hx:qeo CX X E)
  (ha:PA X (e::es) t) (hdb:(x==("__debug__" :Str))=false:=by decide) (he:starEach (e::es) X.env=(false,eval e X.env)::starEach es X.env:=by rfl) (hpl:(backTo pos (starEach es X.env)).any (·.1)=false:=by rfl):
  PE X (.Call (.Name x p) (e::es) [] pos) (qrQ C sp dvs E t):=by
 intro pins s σ H Q I h
 refine wpAny_Call_Name_kw (qhF I hg hm ?_ hdb)
 refine PySem.W.callWith_K (h₀:=X.base) I.ok.mod.kin M.kp (thn (ha pos pins s σ H _ I h) fun us s1 ⟨vs,H1,I1,r,q⟩=>⟨I1.kIn,?_⟩) he hpl
 exact qmw M F hr hb hd hx I1 r q
end
section
variable {X:Cx} {CX:CXT} {k:Nat} {f C:Addr} {fd:FuncData} {ps ks:List Str} {sp:Sp} {E:XK} {x m:Str} {p pos apos kpos:Pos} {e o:Expr} {es:List Expr} {kws:List Keyword} {te ta:TE} {t tk:TA} {nm:Option Str}
structure qtS (K:PySem.W.Frag) (fd:FuncData) (ps ks:List Str) (g:List Value→List Value→List Value) (gV:List V→List V→List V):Prop where
 to: ∀(s:Shared) (us ws:List Value),K.In s.heap→(g us ws).length=ps.length→BindsTo s fd ⟨us,ks.zip ws⟩ (ps.zip (g us ws))
 rel: ∀{vs:List V} {us:List Value} {zs:List V} {ws:List Value},Vals vs us→Vals zs ws→Vals (gV vs zs) (g us ws)
variable {g:List Value→List Value→List Value} {gV:List V→List V→List V}
end
structure qau (N P:List Str) (sc:Scope):Prop where
 kind:sc.kind= .function
 co:sc.isCoroutine=false
 gen:sc.isGenerator=false
 nd:N.Nodup
 pre:N.take P.length=P
 par: ∀x∈P,sc.names.lookup x=some .local∨sc.names.lookup x=some .cell
 nofree: ∀y∈sc.names,y.2≠.free
theorem qg5 {kindOf:Str→Option NameKind} {x:Str}: ∀{binds:List (Str×Value)} {m:Str→Option Value},(∀v,(x,v)∉binds)→bindL kindOf binds m x=m x
 | [],_,_=>rfl
 | (n,v)::r,m,h=>by
  unfold bindL
  rw[qg5 fun w hw=>h w (List.mem_cons_of_mem _ hw)]
  split
  ·have:x≠n:=by rintro rfl; exact h v List.mem_cons_self
   simp[this]
  ·rfl
theorem qg7 {kindOf:Str→Option NameKind} {x:Str}: ∀{binds:List (Str×Value)} {m:Str→Option Value},(∀v,(x,v)∉binds)→bindC kindOf binds m x=m x
 | [],_,_=>rfl
 | (n,v)::r,m,h=>by
  unfold bindC
  rw[qg7 fun w hw=>h w (List.mem_cons_of_mem _ hw)]
  split
  ·rfl
  ·have:x≠n:=by rintro rfl; exact h v List.mem_cons_self
   simp[this]
theorem qg6 {kindOf:Str→Option NameKind} {x:Str} {v:Value}: ∀{P:List Str} {vs:List Value} {i:Nat} {m:Str→Option Value},P.Nodup→P[i]? =some x→vs[i]? =some v→kindOf x=some .local→
  bindL kindOf (P.zip vs) m x=some v
 | [],_,_,_,_,h,_,_=>by simp at h
 | _::_,[],_,_,_,_,h,_=>by simp at h
 | p::P,w::vs,0,m,nd,h1,h2,hk=>by
  simp at h1 h2; subst h1; subst h2
  show bindL kindOf ((p,w)::P.zip vs) m p=_
  unfold bindL
  rw[qg5 fun v hv=>(List.nodup_cons.mp nd).1 (List.of_mem_zip hv).1,if_pos hk]
  simp
 | p::P,w::vs,i+1,m,nd,h1,h2,hk=>by
  show bindL kindOf ((p,w)::P.zip vs) m x=_
  unfold bindL
  exact qg6 (i:=i) (List.nodup_cons.mp nd).2 (by simpa using h1) (by simpa using h2) hk
theorem qg8 {kindOf:Str→Option NameKind} {x:Str} {v:Value}: ∀{P:List Str} {vs:List Value} {i:Nat} {m:Str→Option Value},P.Nodup→P[i]? =some x→vs[i]? =some v→kindOf x≠some .local→
  bindC kindOf (P.zip vs) m x=some v
 | [],_,_,_,_,h,_,_=>by simp at h
 | _::_,[],_,_,_,_,h,_=>by simp at h
 | p::P,w::vs,0,m,nd,h1,h2,hk=>by
  simp at h1 h2; subst h1; subst h2
  show bindC kindOf ((p,w)::P.zip vs) m p=_
  unfold bindC
  rw[qg7 fun v hv=>(List.nodup_cons.mp nd).1 (List.of_mem_zip hv).1,if_neg hk]
  simp
 | p::P,w::vs,i+1,m,nd,h1,h2,hk=>by
  show bindC kindOf ((p,w)::P.zip vs) m x=_
  unfold bindC
  exact qg8 (i:=i) (List.nodup_cons.mp nd).2 (by simpa using h1) (by simpa using h2) hk
def start (N:List Str) (vs:List V):St:=vs.map some++List.replicate (N.length - vs.length) none
def qpz (CX:CXT) (P:Program) (w:World) (K:PySem.W.Frag) (mg:Str→Option Value) (base:Heap) (N:List Str) (qual:Str) (scope:Scope) (f:Addr) (cd:Value) (A:Around) (outer:List Env) (s:Shared) (H:Hp) (E:XK):Cx where
 prog:=P
 w:=w
 K:=K
 mg:=mg
 base:=base
 A:=A.deeper (envOfC qual scope s.heap.objs.size f cd)
 N:=N
 s₀:=s
 H₀:=H
 env:=envOfC qual scope s.heap.objs.size f cd
 outer:=outer
 stack:=envOfC qual scope s.heap.objs.size f cd::outer
 ex:=[]
 calm:=true
 fn:=fun _=>true
 pn:=[]
 xe:=fun e s'=>wpAny (model P w) (A.deeper (envOfC qual scope s.heap.objs.size f cd)) (leaving (envOfC qual scope s.heap.objs.size f cd) e) (fun _ s''=>CX outer H s E e s'') (fun e' s''=>CX outer H s E e' s'') s'
theorem qi7 {sc:Scope} {n:Nat} {x:Str} (h:sc.names.lookup x=some .cell): ∃c,(cellsFrom n sc.names []).lookup x=some c:=by
 have q:=PySem.W.cellsFrom_some sc.names n [] (.inl h)
 exact Option.isSome_iff_exists.mp q
theorem qln {CX:CXT} {P:Program} {w:World} {K:PySem.W.Frag} {mg:Str→Option Value} {base:Heap} {N ps:List Str} {qual:Str} {scope:Scope} {f:Addr} {cd:Value} {A:Around} {outer:List Env} {s s1:Shared} {H:Hp} {E:XK} {us:List Value} {vs:List V}
  (S:qau N ps scope) (hd:A.handled=none) (e0:qmd P w K mg base A outer s H) (hl:vs.length=ps.length) (r:Vals vs us)
  (x:InCallC s s.heap.objs.size (bindL (envOfC qual scope s.heap.objs.size f cd).kindOf (ps.zip us) fun _=>none) (cellsFrom (s.heap.objs.size+1) scope.names []) (bindC (envOfC qual scope s.heap.objs.size f cd).kindOf (ps.zip us) fun _=>none) s1):
  Inv (qpz CX P w K mg base N qual scope f cd A outer s H E) [] (start N vs) H s1:=by
 have hpl:ps.length≤N.length:=by have:=congrArg List.length S.pre; rw[List.length_take] at this; omega
 obtain ⟨h1,tk,rfl,hk⟩:=x.done
 have noA: ∀b:Addr,b∉(qpz CX P w K mg base N qual scope f cd A outer s H E).ex:=fun b z=>absurd (show b∈([]:List Addr) from z) (by simp)
 refine ⟨⟨e0.mod,S.kind,rfl,rfl,Nat.le_refl _,fun y z c h1 h2=> ?_,fun y hy=> ?_,fun y c _ h=> ?_,fun _=>hd,Around.frames_deeper e0.frames,.inr ⟨rfl,rfl⟩,fun b z=>absurd z (noA b),e0.bs,e0.bsz,fun b _ _=>noA b,fun b z=>absurd z (noA b),e0.funs,e0.frf⟩,
  rfl,e0.bare,Un.kept hk,⟨_,x.toInCall.ns,fun i y v h1 h2 h3=> ?_⟩,fun y c h=>⟨_,x.cell y c h⟩,e0.hok.fresh (Nat.le_refl _),fun y c h=> ?_,fun p hp=>absurd (show p∈([]:List (Addr×Obj)) from hp) (by simp),e0.hok.kept hk,?_⟩
 ·exact name_of_addr x.apart (PySem.mem_of_lookup h1) (PySem.mem_of_lookup h2)
 ·have hy:scope.names.lookup y=some .cell∨scope.names.lookup y=some .free:=hy
  rcases hy with hy | hy
  ·exact qi7 hy
  ·exact absurd rfl (S.nofree _ (PySem.mem_of_lookup hy))
 ·exact Nat.le_of_lt (x.above y c (PySem.mem_of_lookup h))
 ·have hi:i<vs.length:=by
   unfold start at h2
   by_cases hi:i<vs.length
   ·exact hi
   ·rw[List.getElem?_append_right (by simpa using hi)] at h2
    rw[List.getElem?_replicate] at h2
    split at h2<;>cases h2
  have ha:vs[i]? =some v:=by
   unfold start at h2
   rw[List.getElem?_append_left (by simpa using hi),List.getElem?_map] at h2
   cases e:vs[i]? with
   | none=>rw[e] at h2; cases h2
   | some a=>rw[e] at h2; cases h2; rfl
  obtain ⟨u,hu,rv⟩:=r.get ha
  have hp:ps[i]? =some y:=by
   rw[←S.pre,List.getElem?_take_of_lt (by omega)]; exact h1
  have ndP:ps.Nodup:=by rw[←S.pre]; exact S.nd.sublist (List.take_sublist _ _)
  refine ⟨u,rv,?_⟩
  rcases S.par y (List.mem_of_getElem? hp) with k | k
  ·exact .inl ⟨k,qg6 ndP hp hu k⟩
  ·obtain ⟨c,e⟩:=qi7 (n:=s.heap.objs.size+1) k
   refine .inr ⟨.inl k,c,e,?_⟩
   have q:=x.cell y c e
   rw[qg8 ndP hp hu (by show scope.names.lookup y≠_; rw[k]; decide)] at q
   exact q
 ·exact e0.hok.fresh (Nat.le_of_lt (x.above y c (PySem.mem_of_lookup h)))
 ·unfold start
  show _=N.length
  rw[List.length_append,List.length_map,List.length_replicate]
  omega
theorem qpi {CX:CXT} {P:Program} {w:World} {K:PySem.W.Frag} {mg:Str→Option Value} {base:Heap} {k:Nat} {f:Addr} {name qual:Str} {params:Arguments} {body:List Stmt} {scope:Scope} {dV kV doc pm cdv ct oc:Value} {an od:Option Addr}
  {osl:Array (Option Value)} {N ps:List Str} {sp:Sp} (lk:K.lookup f=some ⟨oc,od,.func (PySem.W.fnOf name qual params body scope dV kV doc pm an cdv ct),osl⟩) (hcd:PySem.W.codeIn K cdv qual=true) (S:qau N ps scope)
  (len: ∀vs H Q E,sp vs H Q E→vs.length=ps.length)
  (hbody: ∀(A:Around) (outer:List Env) (s:Shared) (H:Hp) (vs:List V) (Q:VK) (E:XK),qcR k (A.deeper (envOfC qual scope s.heap.objs.size f cdv))→sp vs H Q E→
   ∃t,PSs (qpz CX P w K mg base N qual scope f cdv A outer s H E) body t∧t { nx:=fun _ H'=>Q .non H',rt:=Q } (start N vs) H):
  qbb P w K mg base CX (k+1) f (PySem.W.fnOf name qual params body scope dV kV doc pm an cdv ct) ps sp:=by
 refine ⟨len,fun A outer s H args us vs Q E hr e0 hb r hsp=> ?_⟩
 have hl:=len _ _ _ _ hsp
 have KX:K.In s.heap:=e0.mod.kin.keeps fun b o e=>(e0.bs b o e).1
 have lim:s.heap.NoLimit:=e0.mod.nolimit.keeps fun b o e=>(e0.bs b o e).1
 have hkind: ∀y∈ps.zip us,scope.names.lookup y.1=some .local∨(scope.names.lookup y.1=some .cell∧((cellsFrom (s.heap.objs.size+1) scope.names []).lookup y.1).isSome=true):=fun ⟨n,v⟩ hy=>by
  rcases S.par n (List.of_mem_zip hy).1 with q | q
  ·exact .inl q
  ·exact .inr ⟨q,PySem.W.cellsFrom_some _ _ _ (.inl q)⟩
 refine codeAny_call_function hr.depth (KX _ _ lk) rfl S.co S.gen rfl (PySem.W.codeRec_of KX hcd) (hb _ _ _ _ ?_)
 refine wpAny_newFunctionEnv_cells S.kind hkind fun env he s1 x=> ?_
 subst he
 refine ⟨lim.keeps x.toInCall.keep,codeAny_func ?_⟩
 obtain ⟨t,ht,hq⟩:=hbody A outer s H vs Q E (hr.deeper _) hsp
 have I:Inv (qpz CX P w K mg base N qual scope f cdv A outer s H E) [] (start N vs) H s1:=qln S hr.hd e0 hl r x
 refine wpAny_mono (ht [] s1 (start N vs) H _ I hq) (fun fl s' hs=> ?_) fun e s' hs=>hs
 have fin: ∀{σ':St} {H':Hp} {v:V} {u:Value},Inv (qpz CX P w K mg base N qual scope f cdv A outer s H E) [] σ' H' s'→RelV v u→Q v H'→CE outer P w H s Q u s':=
  fun {σ' H' v u} J rv q=>⟨v,H',J.os,J.bare,J.base,J.hok,rv,q⟩
 cases fl with
 | ret u=>
  obtain ⟨v,σ',H',J,rv,q⟩:=hs
  exact fin J rv q
 | next=>
  obtain ⟨σ',H',J,q⟩:=hs
  exact fin (v:=V.non) (u:=Value.none) J rfl q
 | brk=>
  obtain ⟨_,_,_,q⟩:=hs
  exact False.elim q
 | cont=>
  obtain ⟨_,_,_,q⟩:=hs
  exact False.elim q
end L2
namespace L2
open PySem PySem.Spec PyProof.Rows
section
variable {X:Cx} {x:Str} {p pos:Pos} {e:Expr} {es:List Expr} {t:TA} {id T:String} {r:List V→Hp→VK→Prop}
def tCB (r:List V→Hp→VK→Prop) (t:TA):TE:=fun σ H Q=>t σ H fun vs H1=>r vs H1 Q
theorem qaB (hc:qe0 X (.builtin id) r) (hg:Gl X x) (hm:X.mg x=none) (hv:bootBuiltins x=some (.builtin id)) (ha:PA X (e::es) t) (hn:x≠ "__name__" :=by decide) (hdb:(x==("__debug__" :Str))=false:=by decide)
  (he:starEach (e::es) X.env=(false,eval e X.env)::starEach es X.env:=by rfl) (hpl:(backTo pos (starEach es X.env)).any (·.1)=false:=by rfl):PE X (.Call (.Name x p) (e::es) [] pos) (tCB r t):=by
 intro pins s σ H Q I h
 refine wpAny_Call_Name_kw (qdM I hg hm hv ?_ hn hdb)
 exact PyProof.Rows.callWith_builtin1 (thn (ha pos pins s σ H _ I h) fun us s1 ⟨vs,H1,I1,r1,q1⟩=>hc pins s1 σ H1 vs us Q I1 r1 q1) he hpl
end
end L2
namespace HT
open PySem PyProof.Rows
section
open PySem.SeqAt
open PySem.AutoSeq1 (wpAny_loadPart')
open PySem.MeetsSeq PySem.MeetsSeq2 PySem.MeetsSeq3
end
section
variable {prog:Program} {w:World} {A:Around} {E:Value→Shared→Prop} {s:Shared}
theorem cat_tup {t b:Addr} {vs ws:List Value} {Q:Value→Shared→Prop} (ht:IsTup s.heap t vs.toArray) (hb:IsTup s.heap b ws.toArray) (hv:vs≠[])
  (h1:ws=[]→Q (.ref t) s) (h2:ws≠[]→Q (.ref s.heap.objs.size) { s with heap:=s.heap.push { cls:=.type "tuple",data:=.seq (vs++ws).toArray } })
  (hsz:vs.length+ws.length≤sizeLine):wpAny (model prog w) A (binaryOp .Add (.ref t) (.ref b)) Q E s:=by
 obtain ⟨⟨cls,dd,data,sl⟩,ho,hc,n,hd⟩:=id ht
 obtain ⟨⟨cls2,dd2,data2,sl2⟩,ho2,hc2,n2,hd2⟩:=id hb
 simp only at hc hd hc2 hd2
 subst hc hd hc2 hd2
 have e:vs.toArray++ws.toArray=(vs++ws).toArray:=by simp
 by_cases hw:ws=[]
 ·exact concat_meets ⟨_,ho,rfl⟩ ⟨_,ho2,rfl⟩ noFill_tuple_add seq_tuple_add PySem.F.slot_tuple_add PySem.F.entry_tuple_add (PySem.F.args_tuple_add_2 _ _)
   (tuple_addW1 t b vs.toArray ws.toArray n n2 dd dd2 sl sl2 (by simpa using hv) (by simp[hw])) ⟨ho,ho2,h1 hw⟩
 ·refine concat_meets ⟨_,ho,rfl⟩ ⟨_,ho2,rfl⟩ noFill_tuple_add seq_tuple_add PySem.F.slot_tuple_add PySem.F.entry_tuple_add (PySem.F.args_tuple_add_2 _ _)
   (tuple_addW2 t b vs.toArray ws.toArray n n2 dd dd2 sl sl2 (by simpa using hv) (by simpa using hw) (by rw[List.size_toArray,List.size_toArray]; exact hsz)) ⟨ho,ho2,?_⟩
  rw[e]
  exact h2 hw
def sIx (n d:Nat):Option Int→Nat
 | none=>d
 | some v=>if v<0 then (v+(n:Int)).toNat else min v.toNat n
theorem sIx_none (n d:Nat):sIx n d none=d:=rfl
theorem sIx_nat (n d k:Nat):sIx n d (some (k:Int))=min k n:=by
 show (if (k:Int)<0 then ((k:Int)+(n:Int)).toNat else min (k:Int).toNat n)=min k n
 rw[if_neg (by omega),Int.toNat_natCast]
theorem qqn (n d:Nat) (hd:d≤n) (o:Option Int):sIx n d o≤n:=by
 cases o with
 | none=>exact hd
 | some v=>
  show (if v<0 then (v+(n:Int)).toNat else min v.toNat n)≤n
  by_cases hv:v<0
  ·rw[if_pos hv]; omega
  ·rw[if_neg hv]; exact Nat.min_le_right _ _
theorem qlV (v:Int) (n d:Nat):(if v<0 then max (v+(n:Int)) 0 else min v (n:Int))=((sIx n d (some v):Nat):Int):=by
 show (if v<0 then max (v+(n:Int)) 0 else min v (n:Int))=(((if v<0 then (v+(n:Int)).toNat else min v.toNat n):Nat):Int)
 by_cases hv:v<0
 ·simp only[if_pos hv]; omega
 ·simp only[if_neg hv]; omega
theorem qjV (lo hi:Option Int) (n:Nat):Builtin.Slice.sliceAdjust lo hi 1 (n:Int)=(((sIx n 0 lo:Nat):Int),((sIx n n hi:Nat):Int)):=by
 have h1: ¬((1:Int)<0):=by omega
 unfold Builtin.Slice.sliceAdjust
 simp only[h1,if_false]
 refine Prod.ext ?_ ?_
 ·cases lo with
  | none=>rfl
  | some v=>exact qlV v n 0
 ·cases hi with
  | none=>rfl
  | some v=>exact qlV v n n
theorem qjq (i j:Nat):Builtin.Slice.slicePlaces (i:Int) (j:Int) 1=j - i:=by
 unfold Builtin.Slice.slicePlaces
 have h1:(1:Int)>0:=by omega
 simp only[h1,if_true,Int.ediv_one]
 split<;>omega
theorem qfc {v:Value} {o:Option Int} {Q:Option Int→Shared→Prop} (p:IsPart v o) (h:Q o s):wpAny (model prog w) A (Builtin.Slice.slicePartIndex v) Q E s:=by
 cases p with
 | none=>exact slicePart_none h
 | int i t=>exact slicePart_int h
theorem qep {sl:Addr} {vl vu:Value} {lo hi:Option Int} {n:Nat} {Q:Int×Int×Nat→Shared→Prop} (hs:s.heap.IsSliceOf sl vl vu .none) (pl:IsPart vl lo) (pu:IsPart vu hi)
  (h:Q (((sIx n 0 lo:Nat):Int),1,sIx n n hi - sIx n 0 lo) s):wpAny (model prog w) A (Builtin.Slice.sliceApplied (.ref sl) (pure (n:Int))) Q E s:=by
 obtain ⟨os,hos,hcs,hds⟩:=id hs
 unfold Builtin.Slice.sliceApplied Builtin.Slice.sliceFields
 refine wpAny_bind (wpAny_bind (wpAny_field hos hds (x:=vl) rfl (wpAny_bind (wpAny_field hos hds (x:=vu) rfl (wpAny_bind (wpAny_field hos hds (x:=.none) rfl (wpAny_pure ?_)))))))
 refine wpAny_bind (slicePart_none ?_)
 show wpAny _ _ (if ((1:Int)==0)=true then _ else _) _ _ s
 rw[if_neg (by decide)]
 refine wpAny_bind (qfc pl (wpAny_bind (qfc pu (wpAny_bind (wpAny_pure ?_)))))
 show wpAny _ _ (match Builtin.Slice.sliceAdjust lo hi 1 (n:Int) with | (lo,hi)=>pure (lo,(1:Int),Builtin.Slice.slicePlaces lo hi 1)) _ _ s
 rw[qjV lo hi n]
 show wpAny _ _ (pure (((sIx n 0 lo:Nat):Int),(1:Int),Builtin.Slice.slicePlaces ((sIx n 0 lo:Nat):Int) ((sIx n n hi:Nat):Int) 1)) _ _ s
 rw[qjq]
 exact wpAny_pure h
theorem qmF (xs:Array Value) (i k:Nat):((List.range k).filterMap fun (m:Nat)=>xs[((i:Int)+(m:Int)*1).toNat]?).toArray=((xs.toList.drop i).take k).toArray:=by
 have e:(fun (m:Nat)=>xs[((i:Int)+(m:Int)*1).toNat]?)=fun m=>xs[i+m]? :=by
  funext m
  have:((i:Int)+(m:Int)*1).toNat=i+m:=by omega
  rw[this]
 rw[e]
 have:=pick_run xs i k
 rw[List.filterMap_map] at this
 have e2:((fun x=>xs[x]?)∘fun x=>i+x)=fun m=>xs[i+m]? :=rfl
 rw[e2] at this
 rw[this]
theorem getItem_tuple_cut {t sl:Addr} {items:Array Value} {vl vu:Value} {lo hi:Option Int} {Q:Value→Shared→Prop} (ht:IsTup s.heap t items) (hs:s.heap.IsSliceOf sl vl vu .none) (pl:IsPart vl lo) (pu:IsPart vu hi)
  (hw: ¬(sIx items.size 0 lo=0∧sIx items.size items.size hi=items.size))
  (h:Q (.ref s.heap.objs.size) { s with heap:=s.heap.push { cls:=.type "tuple",data:=.seq ((items.toList.drop (sIx items.size 0 lo)).take (sIx items.size items.size hi - sIx items.size 0 lo)).toArray } })
  (hsz:items.size≤sizeLine):wpAny (model prog w) A (getItem (.ref t) (.ref sl)) Q E s:=by
 have htake:sizeOk (.seq ((items.toList.drop (sIx items.size 0 lo)).take (sIx items.size items.size hi - sIx items.size 0 lo)).toArray):=by
  show ((items.toList.drop (sIx items.size 0 lo)).take (sIx items.size items.size hi - sIx items.size 0 lo)).toArray.size≤sizeLine
  rw[List.size_toArray,List.length_take,List.length_drop,Array.length_toList]
  omega
 have hj:sIx items.size items.size hi≤items.size:=qqn _ _ (Nat.le_refl _) hi
 obtain ⟨os,hos,hcs,hds⟩:=id hs
 have hTs:s.TypeIs (.ref sl) "slice" :=⟨os,hos,hcs⟩
 unfold getItem
 try with_reducible refine wpAny_holding ?_
 first | refine wpAny_bind (wpAny_pure ?_) | skip
 refine wpAny_bind (wpAny_sequenceKey ht.typeIs (by decide) ?_)
 refine wpAny_bind (wpAny_callSpecial?_slot (name:=Str.ofString "__getitem__") ht.typeIs PyProof.Rows.slot_tuple_getitem
  (wpAny_call_entry PyProof.Rows.slot_tuple_getitem ht.typeIs entry_tuple_getitem ?_ (args_tuple_getitem _ _)))
 show wpAny _ _ (Builtin.Tuple.tupleItemsOf (.ref t)>>=_) _ _ s
 refine wpAny_bind (tupleItemsOf_ ht ?_)
 refine wpAny_bind (wpAny_typeOf hTs ?_)
 rw[if_pos (by decide)]
 refine wpAny_bind (qep hs pl pu ?_)
 have hno: ¬((((sIx items.size 0 lo:Nat):Int)==0&&(1:Int)==1&&(sIx items.size items.size hi - sIx items.size 0 lo)==items.size)=true):=by
  intro q
  rw[Bool.and_eq_true,Bool.and_eq_true] at q
  have q1:((sIx items.size 0 lo:Nat):Int)=0:=eq_of_beq q.1.1
  have q2:sIx items.size items.size hi - sIx items.size 0 lo=items.size:=eq_of_beq q.2
  exact hw ⟨by omega,by omega⟩
 show wpAny _ _ (if (((sIx items.size 0 lo:Nat):Int)==0&&(1:Int)==1&&(sIx items.size items.size hi - sIx items.size 0 lo)==items.size)=true then _ else _) _ _ s
 rw[if_neg hno,qmF]
 first
  | exact wpAny_bind (m:=Builtin.Tuple.tupleExact _) (wpAny_newObj_type (wpAny_pure ⟨_,rfl,wpAny_pure h⟩) htake)
  | exact wpAny_bind (m:=Builtin.Tuple.tupleExact _) (wpAny_newObj_type (wpAny_bind (wpAny_pure (wpAny_pure ⟨_,rfl,wpAny_pure h⟩))) htake)
  | exact wpAny_bind (wpAny_bind (m:=Builtin.Tuple.tupleExact _) (wpAny_newObj_type (wpAny_pure (wpAny_pure ⟨_,rfl,wpAny_pure h⟩)) htake))
  | exact wpAny_bind (wpAny_bind (m:=Builtin.Tuple.tupleExact _) (wpAny_newObj_type (wpAny_pure ⟨_,rfl,wpAny_pure h⟩) htake))
end
end HT
namespace L2
open PySem PySem.Spec PyProof.Rows
abbrev TO:=St→Hp→(Option Int→Hp→Prop)→Prop
def PO (X:Cx) (e:Option Expr) (t:TO):Prop:=
 ∀(pins:List (Addr×Obj)) (s:Shared) (σ:St) (H:Hp) (Q:Option Int→Hp→Prop),Inv X pins σ H s→t σ H Q→
  wpAny (model X.prog X.w) X.A (evalPart e X.env) (fun u s'=> ∃o H',Inv X pins σ H' s'∧IsPart u o∧Q o H') X.xe s
def qox:TO:=fun _ H Q=>Q none H
def qrM (t:TE):TO:=fun σ H Q=>t σ H fun x H1=> ∃i,x= .int i∧Q (some i) H1
section
variable {X:Cx} {e:Expr} {te:TE} {lo hi:Option Expr} {tl th:TO} {pos p2:Pos}
theorem qhq:PO X none qox:=by
 intro pins s σ H Q I h
 rw[evalPart_none]
 exact wpAny_pure ⟨none,H,I,.none,h⟩
theorem qhp (h:PE X e te):PO X (some e) (qrM te):=by
 intro pins s σ H Q I hw
 rw[evalPart_some]
 refine thn (h pins s σ H _ I hw) fun u s1 ⟨x,H1,I1,r1,q1⟩=> ?_
 obtain ⟨i,rfl,q⟩:=q1
 obtain ⟨t,rfl⟩:=r1
 exact ⟨some i,H1,I1,.int i t,q⟩
def SlR (X:Cx) (r:V→Option Int→Option Int→Hp→VK→Prop):Prop:=
 ∀(pins:List (Addr×Obj)) (s:Shared) (σ:St) (H:Hp) (x:V) (v vl vu:Value) (lo hi:Option Int) (sl:Addr) (Q:VK),Inv X pins σ H s→RelV x v→s.heap.IsSliceOf sl vl vu .none→IsPart vl lo→IsPart vu hi→r x lo hi H Q→
  ∃T id,typeLookup (.type T) "__getitem__" =pure (some (.builtin id))∧s.TypeIs v T∧wpAny (model X.prog X.w) X.A (getItem v (.ref sl)) (EP X pins σ Q) X.xe s
def tSl (r:V→Option Int→Option Int→Hp→VK→Prop) (te:TE) (tl th:TO):TE:=fun σ H Q=>te σ H fun x H1=>tl σ H1 fun l H2=>th σ H2 fun u H3=>r x l u H3 Q
theorem qew {r:V→Option Int→Option Int→Hp→VK→Prop} (hr:SlR X r) (he:PE X e te) (hl:PO X lo tl) (hu:PO X hi th):PE X (.Subscript e (.Slice lo hi none p2) pos) (tSl r te tl th):=by
 intro pins s σ H Q I h
 refine Subscript_ (thn (he pins s σ H _ I h) fun v s1 ⟨x,H1,I1,r1,q1⟩=> ?_)
 refine wpAny_Slice (thn (hl pins s1 σ H1 _ I1 q1) fun vl s2 ⟨l,H2,I2,pl,q2⟩=>thn (hu pins s2 σ H2 _ I2 q2) fun vu s3 ⟨u,H3,I3,pu,q3⟩=> ?_)
 rw[evalPart_none]
 refine wpAny_pure ?_
 have I4:Inv X pins σ H3 { s3 with heap:=s3.heap.push { cls:=.type "slice",data:=.fields #[vl,vu,.none] } }:=I3.kept (t':=s3.toks) fun b ob q=>Heap.get?_push_of_some _ q
 obtain ⟨T,id,hT,ht,hg⟩:=hr pins { s3 with heap:=s3.heap.push { cls:=.type "slice",data:=.fields #[vl,vu,.none] } } σ H3 x v vl vu l u s3.heap.objs.size Q I4 r1 (Heap.IsSliceOf.new ..) pl pu q3
 show wpAny (model X.prog X.w) X.A (subscriptTail e (.Slice lo hi none p2) v (.ref s3.heap.objs.size)) (EP X pins σ Q) X.xe { s3 with heap:=s3.heap.push { cls:=.type "slice",data:=.fields #[vl,vu,.none] } }
 exact tail_any (ops:=[.ref s3.heap.objs.size,v]) ht hT hg (by with_unfolding_all rfl)
def qf4 (xs:List V) (lo hi:Option Int):List V:=(xs.drop (HT.sIx xs.length 0 lo)).take (HT.sIx xs.length xs.length hi - HT.sIx xs.length 0 lo)
theorem qeX (xs:List V) (lo hi:Option Int):(qf4 xs lo hi).length≤xs.length:=by
 unfold qf4
 rw[List.length_take,List.length_drop]
 omega
def quq (K:PySem.W.Frag):V→Option Int→Option Int→Hp→VK→Prop:=fun x lo hi H Q=> ∃a xs,x= .ref a∧SqT K H a xs∧
 ¬(HT.sIx xs.length 0 lo=0∧HT.sIx xs.length xs.length hi=xs.length)∧∀p,H p=none→Q (.ref p) (upd H p (.tup (qf4 xs lo hi)))
theorem qnN:SlR X (quq X.K):=by
 intro pins s σ H x v vl vu lo hi sl Q I rx hs pl pu h
 obtain ⟨a,xs,rfl,hx,hw,q⟩:=h
 cases rx
 obtain ⟨its,r,ht,hz⟩:=I.tuple hx
 have hlen:its.toArray.size=xs.length:=by rw[List.size_toArray]; exact r.length.symm
 refine ⟨"tuple",_,PyProof.Rows.slot_tuple_getitem.lookup,ht.typeIs,?_⟩
 refine HT.getItem_tuple_cut ht hs pl pu (by rw[hlen]; exact hw) ?_ (by rw[hlen]; exact hz)
 rw[hlen]
 refine ⟨.ref s.heap.objs.size,_,I.laid (t':=s.toks) (o:=.tup (qf4 xs lo hi)) (fun b ob q=>Heap.get?_push_of_some _ q) (Nat.le_refl _) ?_,rfl,q _ (I.hok.fresh (Nat.le_refl _))⟩
 exact ⟨Nat.le_trans (qeX xs lo hi) hz,_,(r.drop (HT.sIx xs.length 0 lo)).take (HT.sIx xs.length xs.length hi - HT.sIx xs.length 0 lo),IsTup.new _ _⟩
def qmB (K:PySem.W.Frag):R2:=fun x y H Q=> ∃a b xs ys,x= .ref a∧y= .ref b∧SqT K H a xs∧SqT K H b ys∧xs≠[]∧xs.length+ys.length≤sizeLine∧
 (ys=[]→Q (.ref a) H)∧(ys≠[]→∀p,H p=none→Q (.ref p) (upd H p (.tup (xs++ys))))
theorem Vals.nil_iff {xs:List V} {us:List Value} (r:Vals xs us):us=[]↔xs=[]:=by
 cases r with
 | nil=>simp
 | cons _ _=>simp
theorem qhy:OpR X (binaryOp .Add) (qmB X.K):=by
 intro pins s σ H x y v u Q I rx ry h
 obtain ⟨a,b,xs,ys,rfl,rfl,ha,hb,hx,hz,q1,q2⟩:=h
 cases rx
 cases ry
 obtain ⟨its,r1,p1,_⟩:=I.tuple ha
 obtain ⟨its2,r2,p2,_⟩:=I.tuple hb
 refine HT.cat_tup p1 p2 (fun z=>hx (r1.nil_iff.mp z)) (fun z=>⟨.ref a,H,I,rfl,q1 (r2.nil_iff.mp z)⟩) (fun z=> ?_) (by rw[←r1.length,←r2.length]; exact hz)
 refine ⟨.ref s.heap.objs.size,_,I.laid (t':=s.toks) (o:=.tup (xs++ys)) (fun b ob q=>Heap.get?_push_of_some _ q) (Nat.le_refl _) ?_,rfl,q2 (fun w=>z (r2.nil_iff.mpr w)) _ (I.hok.fresh (Nat.le_refl _))⟩
 exact ⟨by rw[List.length_append]; exact hz,_,r1.append r2,IsTup.new _ _⟩
end
end L2
namespace L2
open PySem PySem.Spec PyProof.Rows
def ixN (n:Nat) (i:Int):Option Nat:=if 0≤i then (if i<n then some i.toNat else none) else if -(n:Int)≤i then some (i+n).toNat else none
def atI {α:Type} (xs:List α) (i:Int):Option α:=(ixN xs.length i).bind fun j=>xs[j]?
theorem qpc {n:Nat} {i:Int} {j:Nat} (h:ixN n i=some j):seqIndex? i n=some j∧j<n∧ -(n:Int)≤i∧i<n:=by
 unfold ixN at h
 by_cases h0:0≤i
 ·rw[if_pos h0] at h
  by_cases h1:i<n
  ·rw[if_pos h1] at h
   have e:i.toNat=j:=Option.some.inj h
   exact ⟨by rw[seqIndex_of h0 h1,e],by omega,by omega,h1⟩
  ·rw[if_neg h1] at h; cases h
 ·rw[if_neg h0] at h
  by_cases h1: -(n:Int)≤i
  ·rw[if_pos h1] at h
   have e:(i+n).toNat=j:=Option.some.inj h
   exact ⟨by rw[seqIndex_neg (by omega) h1,e],by omega,h1,by omega⟩
  ·rw[if_neg h1] at h; cases h
theorem qh5 {α:Type} {xs:List α} {i:Int} {v:α} (h:atI xs i=some v): ∃j,seqIndex? i xs.length=some j∧xs[j]? =some v∧j<xs.length∧ -(xs.length:Int)≤i∧i<xs.length:=by
 unfold atI at h
 cases e:ixN xs.length i with
 | none=>rw[e] at h; cases h
 | some j=>
  rw[e] at h
  obtain ⟨h1,h2,h3,h4⟩:=qpc e
  exact ⟨j,h1,h,h2,h3,h4⟩
theorem qaS {α:Type} {xs:List α} {j:Nat} {v:α} (h:xs[j]? =some v):atI xs (j:Int)=some v:=by
 have hj:j<xs.length:=(List.getElem?_eq_some_iff.mp h).1
 have e:ixN xs.length (j:Int)=some j:=by
  unfold ixN
  rw[if_pos (by omega),if_pos (by omega)]; simp
 unfold atI; rw[e]; exact h
def ql8 (b:Expr):Prop:= ∀o i,subscripted b false o i=operate [o,i] (getItem o i)
def IxR (X:Cx) (r:R2):Prop:=
 ∀(value slice:Expr) (pins:List (Addr×Obj)) (s:Shared) (σ:St) (H:Hp) (x y:V) (v u:Value) (Q:VK),Inv X pins σ H s→RelV x v→RelV y u→r x y H Q→
  subscripted slice false v u=operate [v,u] (getItem v u)→wpAny (model X.prog X.w) X.A (subscriptTail value slice v u) (EP X pins σ Q) X.xe s
def MtR (X:Cx) (id:String) (r:V→List V→Hp→VK→Prop):Prop:=
 ∀(pins:List (Addr×Obj)) (s:Shared) (σ:St) (H:Hp) (x:V) (xs:List V) (v:Value) (us:List Value) (Q:VK),Inv X pins σ H s→RelV x v→Vals xs us→r x xs H Q→
  wpAny (model X.prog X.w) X.A (call (.builtin id) (v::us)) (EP X pins σ Q) X.xe s
section
variable {X:Cx} {a b:Expr} {ta tb:TE} {pos:Pos}
theorem IxR.or {r r':R2} (h:IxR X r) (h':IxR X r'):IxR X (fun x y H Q=>r x y H Q∨r' x y H Q):=by
 intro value slice pins s σ H x y v u Q I rx ry q hs
 rcases q with q | q
 ·exact h value slice pins s σ H x y v u Q I rx ry q hs
 ·exact h' value slice pins s σ H x y v u Q I rx ry q hs
theorem qce {r:R2} (hr:IxR X r) (ha:PE X a ta) (hb:PE X b tb) (hs:ql8 b):PE X (.Subscript a b pos) (tOp r ta tb):=by
 intro pins s σ H Q I h
 exact Subscript_ (qs9 ha hb I h fun v u s2 x y H2 I2 rx ry q=>hr a b pins s2 σ H2 x y v u Q I2 rx ry q (hs _ _))
def qss (K:PySem.W.Frag):R2:=fun x y H Q=> ∃p xs i v,x= .ref p∧y= .int i∧SqL K H p xs∧atI xs i=some v∧Q v H
def qsr (K:PySem.W.Frag):R2:=fun x y H Q=> ∃p xs i v,x= .ref p∧y= .int i∧SqT K H p xs∧atI xs i=some v∧Q v H
def qtu:R2:=fun x y H Q=> ∃z i c,x= .str z∧y= .int i∧z.length≤sizeLine∧atI z.cps.toList i=some c∧Q (.str ⟨#[c]⟩) H
theorem qli:IxR X (qss X.K):=by
 intro value slice pins s σ H x y v u Q I rx ry h hs
 obtain ⟨p,xs,i,z,rfl,rfl,hq,he,q⟩:=h
 cases rx
 obtain ⟨t,rfl⟩:=ry
 obtain ⟨its,r,pl,hz⟩:=I.list hq
 obtain ⟨j,h1,h2,h3,h4,h5⟩:=qh5 he
 obtain ⟨w,ew,rw'⟩:=r.get h2
 have hl:=r.length
 have hn:=qek
 have fin:EP X pins σ Q w s:=⟨z,H,I,rw',q⟩
 by_cases h0:0≤i
 ·have hj:i.toNat=j:=by
   rw[seqIndex_of h0 h5] at h1
   exact Option.some.inj h1
  exact item_listR pl.isList h0 (by omega) (by rw[hj]; simpa using ew) fin hs
 ·have hj:(i+(its.toArray.size:Int)).toNat=j:=by
   rw[seqIndex_neg (by omega) h4] at h1
   rw[List.size_toArray,←hl]
   exact Option.some.inj h1
  exact subscriptTail_builtinR (x:=w) pl.isList.typeIs slot_list_getitem.lookup
   (wpAny_getItem_list_neg (Q:=fun r s'=>r=w∧EP X pins σ Q r s') pl.isList (by omega) (by rw[List.size_toArray]<;>omega) (by omega) (by rw[hj]; simpa using ew) ⟨rfl,fin⟩) hs
theorem qca:IxR X (qsr X.K):=by
 intro value slice pins s σ H x y v u Q I rx ry h hs
 obtain ⟨p,xs,i,z,rfl,rfl,hq,he,q⟩:=h
 cases rx
 obtain ⟨t,rfl⟩:=ry
 obtain ⟨its,r,pl,hz⟩:=I.tuple hq
 obtain ⟨j,h1,h2,h3,h4,h5⟩:=qh5 he
 obtain ⟨w,ew,rw'⟩:=r.get h2
 have hl:=r.length
 have hn:=qek
 have fin:EP X pins σ Q w s:=⟨z,H,I,rw',q⟩
 exact subscriptTail_builtinR (x:=w) pl.typeIs slot_tuple_getitem.lookup
  (getItem_tuple (j:=j) (Q:=fun r s'=>r=w∧EP X pins σ Q r s') pl (by omega) (by omega) (by rw[List.size_toArray,←hl]; exact h1) (by simpa using ew) ⟨rfl,fin⟩) hs
theorem qqU:IxR X qtu:=by
 intro value slice pins s σ H x y v u Q I rx ry h hs
 obtain ⟨z,i,c,rfl,rfl,hz,he,q⟩:=h
 obtain ⟨t,rfl⟩:=rx
 obtain ⟨t',rfl⟩:=ry
 obtain ⟨j,h1,h2,h3,h4,h5⟩:=qh5 he
 have hl:z.cps.toList.length=z.length:=by simp[Str.length]
 rw[hl] at h1 h4 h5
 have hn:=qek
 exact tail_any (typeIs_str s z t) slot_str_getitem.lookup (getItem_str (c:=c) (by
  have e1:decide (i< -(2 ^ 63:Int))=false:=decide_eq_false (by omega)
  have e2:decide (i≥2 ^ 63)=false:=decide_eq_false (by omega)
  rw[e1,e2,Bool.or_false]) (by rw[h1]; simpa using h2) ⟨.str ⟨#[c]⟩,H,I.tok _,⟨_,rfl⟩,q⟩) hs
def rIx (K:PySem.W.Frag):R2:=fun x y H Q=>qss K x y H Q∨qsr K x y H Q∨qtu x y H Q
theorem qbC:IxR X (rIx X.K):=qli.or (qca.or qqU)
theorem Inv.lst {pins:List (Addr×Obj)} {σ:St} {H:Hp} {s:Shared} {p:Addr} {xs:List V} (I:Inv X pins σ H s) (h:H p=some (.lst xs)):
  ∃(its:List Value) (n:Nat),Vals xs its∧s.heap.get? p=some { cls:=.type "list",data:=.seq its.toArray n }∧xs.length≤sizeLine:=by
 obtain ⟨z,its,n,r,e⟩:=I.hok p _ h
 exact ⟨its,n,r,e,z⟩
theorem qgl (lo hi:Option Int) (n:Nat):(sliceBounds lo hi none n).1=((HT.sIx n 0 lo:Nat):Int)∧(sliceBounds lo hi none n).2.1=((HT.sIx n n hi:Nat):Int)∧(sliceBounds lo hi none n).2.2=1:=by
 refine ⟨?_,?_,rfl⟩
 ·cases lo with
  | none=>simp[sliceBounds,HT.sIx]
  | some i=>
   simp only[sliceBounds,HT.sIx,Option.getD_none,show (1:Int)>0 by decide,if_true]
   by_cases h:i<0
   ·simp only[h,if_true]<;>omega
   ·simp only[h,if_false]<;>omega
 ·cases hi with
  | none=>simp[sliceBounds,HT.sIx]
  | some i=>
   simp only[sliceBounds,HT.sIx,Option.getD_none,show (1:Int)>0 by decide,if_true]
   by_cases h:i<0
   ·simp only[h,if_true]<;>omega
   ·simp only[h,if_false]<;>omega
theorem qfC (its:List Value) (lo hi:Option Int):slicePick its.toArray lo hi none=((its.drop (HT.sIx its.length 0 lo)).take (HT.sIx its.length its.length hi - HT.sIx its.length 0 lo)).toArray:=by
 obtain ⟨h1,h2,h3⟩:=qgl lo hi its.toArray.size
 unfold slicePick
 rw[h1,h2,h3]
 simp only[sliceRange_one,pick_run,List.size_toArray]<;>rfl
def qur (K:PySem.W.Frag):V→Option Int→Option Int→Hp→VK→Prop:=fun x lo hi H Q=> ∃a xs,x= .ref a∧SqL K H a xs∧∀p,H p=none→Q (.ref p) (upd H p (.lst (qf4 xs lo hi)))
theorem qkg:SlR X (qur X.K):=by
 intro pins s σ H x v vl vu lo hi sl Q I rx hs pl pu h
 obtain ⟨a,xs,rfl,hx,q⟩:=h
 cases rx
 obtain ⟨its,r,ht,hz⟩:=I.list hx
 have hlen:=r.length
 refine ⟨"list",_,slot_list_getitem.lookup,ht.isList.typeIs,?_⟩
 refine wpAny_getItem_list_slice ht.isList hs pl pu .none (by simp) ?_ (by rw[List.size_toArray]<;>omega)
 rw[qfC,←hlen]
 refine ⟨.ref s.heap.objs.size,_,I.laid (t':=s.toks) (o:=.lst (qf4 xs lo hi)) (fun b ob q=>Heap.get?_push_of_some _ q) (Nat.le_refl _) ?_,rfl,q _ (I.hok.fresh (Nat.le_refl _))⟩
 exact ⟨Nat.le_trans (qeX xs lo hi) hz,_,0,(r.drop (HT.sIx xs.length 0 lo)).take (HT.sIx xs.length xs.length hi - HT.sIx xs.length 0 lo),Heap.get?_push_size _ rfl⟩
def qdb:V→Bool
 | .non=>true
 | .bl _=>true
 | .int _=>true
 | .str _=>true
 | _=>false
def eqV:V→V→Bool
 | .non,.non=>true
 | .bl a,.bl b=>a==b
 | .bl a,.int b=>(if a then 1 else 0)==b
 | .int a,.bl b=>a==(if b then 1 else 0)
 | .int a,.int b=>a==b
 | .str a,.str b=>a==b
 | _,_=>false
theorem qiT {A:Around} {s:Shared} {y x:V} {u v:Value} (ry:RelV y u) (rx:RelV x v) (fy:qdb y=true) (fx:qdb x=true):SeqAt.EqAt A s u v (eqV y x):=by
 cases y with
 | non=>
  cases ry
  cases x with
  | non=>cases rx; exact SeqAt.EqAt.same _
  | bl b=>cases rx; exact SeqAt.EqAt.none_bool b
  | int b=>obtain ⟨t,rfl⟩:=rx; exact SeqAt.EqAt.none_int b t
  | str b=>obtain ⟨t,rfl⟩:=rx; exact SeqAt.EqAt.none_str b t
  | _=>exact absurd (show false=true from fx) Bool.false_ne_true
 | bl a=>
  cases ry
  cases x with
  | non=>cases rx; exact SeqAt.EqAt.bool_none a
  | bl b=>cases rx; exact SeqAt.EqAt.bool_bool a b
  | int b=>obtain ⟨t,rfl⟩:=rx; exact SeqAt.EqAt.bool_int a b t
  | str b=>obtain ⟨t,rfl⟩:=rx; exact SeqAt.EqAt.bool_str a b t
  | _=>exact absurd (show false=true from fx) Bool.false_ne_true
 | int a=>
  obtain ⟨t',rfl⟩:=ry
  cases x with
  | non=>cases rx; exact SeqAt.EqAt.int_none a t'
  | bl b=>cases rx; exact SeqAt.EqAt.int_bool a t' b
  | int b=>obtain ⟨t,rfl⟩:=rx; exact SeqAt.EqAt.int_int a t' b t
  | str b=>obtain ⟨t,rfl⟩:=rx; exact SeqAt.EqAt.int_str a t' b t
  | _=>exact absurd (show false=true from fx) Bool.false_ne_true
 | str a=>
  obtain ⟨t',rfl⟩:=ry
  cases x with
  | non=>cases rx; exact SeqAt.EqAt.str_none a t'
  | bl b=>cases rx; exact SeqAt.EqAt.str_bool a t' b
  | int b=>obtain ⟨t,rfl⟩:=rx; exact SeqAt.EqAt.str_int a t' b t
  | str b=>obtain ⟨t,rfl⟩:=rx; exact SeqAt.EqAt.str_str a t' b t
  | _=>exact absurd (show false=true from fx) Bool.false_ne_true
 | _=>exact absurd (show false=true from fy) Bool.false_ne_true
theorem qg4:qe0 X (.builtin "len") (fun xs H Q=> ∃p ys,xs=[.ref p]∧(SqL X.K H p ys∨SqT X.K H p ys)∧Q (.int ys.length) H):=by
 intro pins s σ H xs us Q I r h
 obtain ⟨p,ys,rfl,hq,q⟩:=h
 obtain ⟨u,rfl,rx⟩:=qfz r
 cases rx
 have hn:=qek
 rcases hq with hq | hq
 ·obtain ⟨its,r',pl,hz⟩:=I.list hq
  have hlen:=r'.length
  exact Calls.call_len_list pl.isList (by simp only[List.size_toArray]<;>omega) ⟨.int ys.length,H,I.tok _,⟨s.toks+1,by rw[List.size_toArray,hlen]⟩,q⟩
 ·obtain ⟨its,r',pl,hz⟩:=I.tuple hq
  have hlen:=r'.length
  exact len_tuple pl (by simp only[List.size_toArray]<;>omega) ⟨.int ys.length,H,I.tok _,⟨s.toks+1,by rw[List.size_toArray,hlen]⟩,q⟩
theorem qg3:qe0 X (.builtin "len") (fun xs H Q=> ∃z,xs=[.str z]∧z.length≤sizeLine∧Q (.int z.length) H):=by
 intro pins s σ H xs us Q I r h
 obtain ⟨z,rfl,hz,q⟩:=h
 obtain ⟨u,rfl,t,rfl⟩:=qfz r
 have hn:=qek
 exact len_str (by omega) ⟨.int z.length,H,I.tok _,⟨_,rfl⟩,q⟩
def tyV (K:PySem.W.Frag) (T:String) (x:V) (H:Hp):Prop:=match x with
 | .str _=>T= "str"
 | .int _=>T= "int"
 | .ref p=>(T= "list" ∧∃xs,SqL K H p xs)∨(T= "tuple" ∧∃o,K.lookup p=some o∧o.cls= .type "tuple" ∧o.dict=none)∨
   (T= "dict" ∧((∃kvs,H p=some (.dK kvs))∨∃kvs,H p=some (.dT kvs)))∨(T= "set" ∧∃S n,H p=some (.set S n))
 | _=>False
theorem qp2 {pins:List (Addr×Obj)} {σ:St} {H:Hp} {s:Shared} {T:String} {x:V} {v:Value} (I:Inv X pins σ H s) (r:RelV x v) (ty:tyV X.K T x H):
  s.TypeIs v T∧∀a,v= .ref a→∃ob,s.heap.get? a=some ob∧ob.dict=none:=by
 cases x with
 | str z=>
  obtain ⟨t,rfl⟩:=r
  cases (show T= "str" from ty)
  exact ⟨typeIs_str s z t,fun _ e=>nomatch e⟩
 | int i=>
  obtain ⟨t,rfl⟩:=r
  cases (show T= "int" from ty)
  exact ⟨typeIs_int s i t,fun _ e=>nomatch e⟩
 | ref p=>
  cases r
  rcases ty with ⟨rfl,xs,hq⟩ | ⟨rfl,o,hk,hc,hd⟩ | ⟨rfl,hk⟩ | ⟨rfl,S,n,hk⟩
  ·obtain ⟨its,_,pl,_⟩:=I.list hq
   refine ⟨pl.isList.typeIs,fun a e=> ?_⟩
   cases e
   obtain ⟨o,n,e,c,hd,_⟩:=pl
   exact ⟨o,e,hd⟩
  ·refine ⟨⟨o,I.kIn p o hk,hc⟩,fun a e=> ?_⟩
   cases e
   exact ⟨o,I.kIn _ o hk,hd⟩
  ·have z: ∃o,s.heap.get? p=some o∧o.ExactDict:=by
    rcases hk with ⟨kvs,hk⟩ | ⟨kvs,hk⟩
    ·obtain ⟨_,_,_,_,o,_,_,e,ex,_⟩:=I.hok p _ hk
     exact ⟨o,e,ex⟩
    ·obtain ⟨_,_,_,_,o,_,_,e,ex,_⟩:=I.hok p _ hk
     exact ⟨o,e,ex⟩
   obtain ⟨o,e,ex⟩:=z
   refine ⟨⟨o,e,ex.1⟩,fun a e2=> ?_⟩
   cases e2
   exact ⟨o,e,ex.2.1⟩
  ·obtain ⟨o,_,_,_,e,ex,_⟩:=I.hok p _ hk
   refine ⟨⟨o,e,ex.1⟩,fun a e2=> ?_⟩
   cases e2
   exact ⟨o,e,ex.2.1⟩
 | _=>exact False.elim ty
def tBM (K:PySem.W.Frag) (T:String) (r:V→List V→Hp→VK→Prop) (to:TE) (t:TA):TE:=fun σ H Q=>to σ H fun x H1=>tyV K T x H1∧t σ H1 fun xs H2=>r x xs H2 Q
variable {o e:Expr} {es:List Expr} {to:TE} {t:TA} {name:Str} {apos cpos:Pos} {T id:String} {r:V→List V→Hp→VK→Prop}
theorem qht (pa:PlainAttrs T) (slot:Slot T name id) (hty:typeOf (.builtin id)=pure (.type "method_descriptor")) (hm:MtR X id r) (ho:PE X o to) (ha:PA X (e::es) t)
  (hbase:attributeBase o name X.env (eval o X.env)=eval o X.env:=by rfl)
  (hfew:((backTo cpos (starEach (e::es) X.env)).all (fun x=> !x.1)&&(backToKw cpos (keywordEach [] X.env)).all (fun x=>x.1.isSome)
   &&decide ((e::es).length+([]:List Keyword).length+(if ([]:List Keyword).isEmpty then 0 else 1)<30))=true:=by rfl)
  (hline:(apos.endLine==cpos.line)=true:=by rfl) (hs:starEach (e::es) X.env=(false,eval e X.env)::starEach es X.env:=by rfl) (hplain:(backTo cpos (starEach es X.env)).any (·.1)=false:=by rfl):
  PE X (.Call (.Attribute o name apos) (e::es) [] cpos) (tBM X.K T r to t):=by
 intro pins s σ H Q I h
 refine wpAny_Call_method_late hbase hfew hline rfl (thn (ho pins s σ H _ I h) fun v s1 ⟨x,H1,I1,r1,ty,q1⟩=> ?_)
 obtain ⟨h1,h2⟩:=qp2 I1 r1 ty
 refine ⟨T,id,pa,slot,hty,h1,h2,?_⟩
 have hA:=ha cpos pins s1 σ H1 _ I1 q1
 rw[hs] at hA⊢
 refine Calls.callWith_builtin (by show (false||(backTo cpos (starEach es X.env)).any (·.1))=false; rw[hplain]<;>rfl) (Calls.evalArgs_plain ?_)
 exact thn hA fun us s2 ⟨vs,H2,I2,r2,q2⟩=>hm pins s2 σ H2 x vs v us Q I2 r1 r2 q2
end
end L2
namespace L2
open PySem PySem.Spec PyProof.Rows
def MtM (X:Cx) (id:String) (r:V→List V→Hp→VK→Prop):Prop:=
 ∀(pins:List (Addr×Obj)) (s:Shared) (σ:St) (H:Hp) (x:V) (xs:List V) (v:Value) (us:List Value) (Q:VK),Inv X pins σ H s→RelV x v→Vals xs us→r x xs H Q→
  wpAny (model X.prog X.w) X.A (call (.builtin id) (v::us)) (EP X pins σ Q) X.xe s
theorem Vals.one: ∀{x:V} {us:List Value},Vals [x] us→∃u,us=[u]∧RelV x u
 | _,_,.cons r .nil=>⟨_,rfl,r⟩
theorem Vals.two: ∀{x y:V} {us:List Value},Vals [x,y] us→∃u v,us=[u,v]∧RelV x u∧RelV y v
 | _,_,_,.cons r (.cons q .nil)=>⟨_,_,rfl,r,q⟩
section
variable {X:Cx} {pins:List (Addr×Obj)} {σ:St} {H:Hp} {s:Shared} {l b:Addr} {xs ys zs:List V}
theorem Inv.lset {its its':List Value} {n:Nat} {f:Array Value→Array Value} {t':Nat} (I:Inv X pins σ H s) (hH:H l=some (.lst xs))
  (e:s.heap.get? l=some { cls:=.type "list",data:=.seq its.toArray n }) (hf:f its.toArray=its'.toArray) (hv:Vals ys its') (hz:ys.length≤sizeLine):
  Inv X pins σ (upd H l (.lst ys)) { s with heap:=s.heap.update l (Obj.mapSeq f),toks:=t' }:=by
 have q:=PySem.IsL.update e f
 rw[hf] at q
 refine I.write (x:=l) (e:=l) (by rw[hH]; exact trivial) (.inl rfl) (fun b' u hb hu=>(Heap.get?_update_other s.heap (Obj.mapSeq f) (Ne.symm hb)).trans hu) ⟨_,q⟩ ?_
 exact ⟨hz,its',_,hv,q⟩
theorem Inv.lnew {its:List Value} {t':Nat} (I:Inv X pins σ H s) (hv:Vals ys its) (hz:ys.length≤sizeLine):
  Inv X pins σ (upd H s.heap.objs.size (.lst ys)) { s with heap:=s.heap.push { cls:=.type "list",data:=.seq its.toArray },toks:=t' }:=
 I.laid (fun _ _ q=>Heap.get?_push_of_some _ q) (Nat.le_refl _) ⟨hz,its,0,hv,Heap.get?_push_size _ rfl⟩
theorem Inv.fresh (I:Inv X pins σ H s):H s.heap.objs.size=none:=I.hok.fresh (Nat.le_refl _)
theorem Inv.lstM (I:Inv X pins σ H s) (hH:H l=some (.lst xs)):xs.length≤sizeLine∧∃(its:List Value) (n:Nat),Vals xs its∧xs.length=its.length∧s.heap.get? l=some { cls:=.type "list",data:=.seq its.toArray n }:=by
 obtain ⟨z,its,n,r,e⟩:=I.hok l _ hH
 exact ⟨z,its,n,r,r.length,e⟩
theorem qmN {n:Nat} (h:n≤sizeLine):Builtin.List.listTooLong n=false:=by
 unfold Builtin.List.listTooLong
 exact decide_eq_false (by omega)
end
section
variable {X:Cx}
def qkD:V→List V→Hp→VK→Prop:=fun x vs H Q=> ∃l xs y,x= .ref l∧vs=[y]∧H l=some (.lst xs)∧xs.length<sizeLine∧Q .non (upd H l (.lst (xs++[y])))
theorem qeN:MtM X "list.append" qkD:=by
 intro pins s σ H x vs v us Q I rx rv h
 obtain ⟨l,xs,y,rfl,rfl,hH,hz,q⟩:=h
 cases rx
 obtain ⟨u,rfl,ru⟩:=rv.one
 obtain ⟨z,its,n,r,hl,e⟩:=I.lstM hH
 refine call_meets F.slot_list_append ⟨_,e,rfl⟩ F.entry_list_append (F.args_list_append_2 _ _) (PySem.list_append l its.toArray n u (by rw[List.size_toArray]; omega)) ⟨e,?_⟩
 refine ⟨.non,_,I.lset (its':=its++[u]) hH e (by simp) (r.append (.cons ru .nil)) ?_,rfl,q⟩
 rw[List.length_append,List.length_singleton]
 omega
def qkC:V→List V→Hp→VK→Prop:=fun x vs H Q=> ∃l b xs zs,x= .ref l∧vs=[.ref b]∧H l=some (.lst xs)∧H b=some (.lst zs)∧xs.length+zs.length≤sizeLine∧Q .non (upd H l (.lst (xs++zs)))
theorem qeM:MtM X "list.extend" qkC:=by
 intro pins s σ H x vs v us Q I rx rv h
 obtain ⟨l,b,xs,zs,rfl,rfl,hH,hB,hz,q⟩:=h
 cases rx
 obtain ⟨u,rfl,ru⟩:=rv.one
 cases ru
 obtain ⟨z,its,n,r,hl,e⟩:=I.lstM hH
 obtain ⟨z2,its2,n2,r2,hl2,e2⟩:=I.lstM hB
 have hsz:its.toArray.size+its2.toArray.size≤sizeLine:=by rw[List.size_toArray,List.size_toArray]; omega
 have hlong: ¬(!its.toArray.isEmpty&&Builtin.List.listTooLong (its.toArray.size+its2.toArray.size))=true:=by
  rw[qmN hsz,Bool.and_false]
  exact Bool.false_ne_true
 refine call_meets F.slot_list_extend ⟨_,e,rfl⟩ F.entry_list_extend (F.args_list_extend_2 _ _)
  (AutoSeq1.list_extend_list_list_0 l its.toArray n b its2.toArray n2 hlong (by rw[List.size_toArray]; omega) (by omega)) ⟨e,e2,?_⟩
 refine ⟨.non,_,I.lset (its':=its++its2) hH e (by simp) (r.append r2) ?_,rfl,q⟩
 rw[List.length_append]
 omega
def qtw:R2:=fun x y H Q=> ∃l b xs zs,x= .ref l∧y= .ref b∧H l=some (.lst xs)∧H b=some (.lst zs)∧xs.length+zs.length≤sizeLine∧∀p,H p=none→Q (.ref p) (upd H p (.lst (xs++zs)))
theorem qkT:OpR X (binaryOp .Add) qtw:=by
 intro pins s σ H x y v u Q I rx ry h
 obtain ⟨l,b,xs,zs,rfl,rfl,hH,hB,hz,q⟩:=h
 cases rx
 cases ry
 obtain ⟨z,its,n,r,hl,e⟩:=I.lstM hH
 obtain ⟨z2,its2,n2,r2,hl2,e2⟩:=I.lstM hB
 refine PySem.P.add_list e e2 ?_ (by rw[List.size_toArray,List.size_toArray]; omega)
 have ea:its.toArray++its2.toArray=(its++its2).toArray:=by simp
 rw[ea]
 exact ⟨.ref _,_,I.lnew (t':=s.toks) (r.append r2) (by rw[List.length_append]; omega),rfl,q _ I.fresh⟩
end
section
variable {prog:Program} {w:World} {A:Around} {E:Value→Shared→Prop} {s:Shared}
end
section
variable {X:Cx}
end
end L2
namespace Att
open PySem PySem.W PySem.Calls PyProof.Rows
theorem qeS {P:Params} {h:Heap}: ∀(ns:List Int) (vs:List Value),WellAll P h vs (ns.map WData.int)→IntsAre vs ns:=by
 intro ns
 induction ns with
 | nil=>
  intro vs w
  rw[List.map_nil] at w
  cases w
  exact .nil
 | cons n ns ih=>
  intro vs w
  rw[List.map_cons] at w
  cases w with
  | cons a b=>
   cases a
   exact .cons _ _ (ih _ b)
theorem qkm {l:OpenLaw} {n:Nat} (hn:l.most=some n) {P:Params} {h:Heap} {args:List WData} {vals:List Value}
  (hpre:l.row.toRowW.claim.pre args=true) (hwl:WellAll P h vals args):
  ∃a vs ns,vals=[Value.ref a]∧args=[WData.list (ns.map WData.int)]∧h.get? a=some { cls:=.type "list",data:=.seq vs.toArray }∧IntsAre vs ns∧ns.length≤n:=by
 have hsh:WShape.hasAll [] args [.list .int]=true:=(pre_splitW hpre).1
 have hc:l.pre.holds [] { args:=args }=true:=(pre_splitW hpre).2
 obtain ⟨d,r,rfl,h1,h2⟩:=hasAllW_cons hsh
 obtain rfl:=hasAllW_nil h2
 obtain ⟨xs,rfl,h3⟩:=hasW_list h1
 obtain ⟨ns,rfl⟩:=items_int h3
 have hlen:ns.length≤n:=by
  unfold OpenLaw.pre at hc
  have h4:(WTm.not (.lt (.lit (.int (n:Int))) (.len (.arg 0)))).holds [] { args:=[.list (ns.map .int)] }=true:=by
   have h4:=(holds_andW hc).1
   rw[hn] at h4
   exact h4
  have h5:=condW_of h4 (w_not (w_lt w_lit (w_len_list (w_arg rfl))))
  rw[List.length_map] at h5
  refine Nat.le_of_not_lt fun q=> ?_
  have q':(n:Int)<((ns.length:Nat):Int):=by omega
  first
   | (rw[decide_eq_true q'] at h5; exact absurd h5 (by decide))
   | (simp at h5; omega)
 cases hwl with
 | cons w1 w2=>
  cases w2
  cases w1 with
  | list ho hall=>exact ⟨_,_,ns,rfl,rfl,ho,qeS ns _ hall,hlen⟩
theorem qkJ (l:OpenLaw) (args:List WData):l.row.toRowW.claim.post args (.bool true) args=true:=
 postW_of (r:=l.row.toRowW) (X:=(true==true))
  (show WShape.has [] (.bool true) .bool=true by first | rfl | decide | simp[WShape.has,WShape.arms,WShape.armsAll])
  (show (WTm.eq .res (.lit (.bool true))).value [] { args:=args,res:=some (.bool true),after:=args }=some (.bool (true==true)) from w_eq_bool (w_res rfl) w_lit) rfl
theorem attach_call {l:OpenLaw} {n:Nat} {q:Program} {loose:List Str} {XP:(Str→Option Value)→Heap→Prop} {YP:World→Heap→Prop} {d:DefRec}
  (hn:l.most=some n) (hdf:d.params.defaults=[])
  (call: ∀(w:World) (s₀ s₁:Shared) (mg mb:Str→Option Value) (fa:Addr) (o:Obj) (pm cd doc:Value) (a:Addr) (vs:List Value) (ns:List Int),
   Ground q loose [] XP w s₀ mg mb s₁.heap→YP w s₁.heap→
   s₁.heap.get? fa=some o→o.data= .func (docDef d.name d.params d.body d.scope pm cd doc)→s₁.heap.CodeRec cd d.name→mg d.name=some (.ref fa)→
   s₁.heap.get? a=some { cls:=.type "list",data:=.seq vs.toArray }→IntsAre vs ns→ns.length≤n→s₁.gens= #[]→
   codeAny (model l.prog w) callerA (.call (.ref fa) ⟨[.ref a],[]⟩) (fun r s'=>r= .ok (.ret (.bool true))∧OldK s₁.heap s'.heap∧s'.os=s₁.os∧AllBare s'.gens) s₁):
  WalkO q loose XP YP l.row.toRowW d [] (fun f vs=>PySem.call f vs):=by
 intro w s₀ s₁ mg mb G Y fa o pm cd doc dV kV ho hd hcd hD hmg hg args vals as hpre hlay hrd hwl hlo
 obtain rfl:dV= .none:=Dflts.none hD hdf
 obtain rfl:kV= .none:=Dflts.noKw hD
 obtain ⟨a,vs,ns,rfl,rfl,hobj,hints,hlen⟩:=qkm hn hpre hwl
 refine enter_call (codeAny_mono (call w s₀ s₁ mg mb fa o pm cd doc a vs ns G Y ho (fd_plain hd) hcd hmg hobj hints hlen hg) fun r s' hq=> ?_)
 obtain ⟨rfl,h2,h3,h4⟩:=hq
 exact ⟨.inl ⟨.bool true,.bool true,[],rfl,fun _=>rfl,.bool true,qkJ l _,fun _=>⟨List.Pairwise.nil,fun _ hm=>(nomatch hm)⟩⟩,h2,h3,h4⟩
section
variable {prog:Program} {w:World} {A:Around} {E:Value→Shared→Prop} {s:Shared} {K:Frag}
def qtB (h:Heap) (L d:Addr):List (Addr×Obj):=(List.range h.objs.size).filterMap fun a=>if a=L∨a=d then none else (h.get? a).map fun o=>(a,o)
end
end Att
namespace L2
open PySem PySem.Spec PyProof.Rows
theorem qeD: ∀{vs:List Value} {ns:List Int},IntsAre vs ns→Vals (ns.map V.int) vs
 | _,_,.nil=>.nil
 | _,_,.cons n t h=>.cons ⟨t,rfl⟩ (qeD h)
def qte (H:Hp):Prop:= ∀b,H b=none∨∃o xs,H b=some (.frz o (.lst xs))
theorem qmV {P:Program} {w:World} {K:PySem.W.Frag} {mg mb:Str→Option Value} {CX:CXT} {k:Nat} {fa a:Addr} {fd:FuncData} {x:Str} {sp:Sp} {s₁:Shared} {vs:List Value} {ns:List Int}
  (KX:K.In s₁.heap) (hns:s₁.heap.Ns mainGlobals mg) (hb:s₁.heap.Ns builtinsNs mb) (hbb: ∀x:Str,x≠ "__name__" →mb x=bootBuiltins x) (hlim:s₁.heap.NoLimit) (hg:s₁.gens= #[])
  (ha:s₁.heap.get? a=some { cls:=.type "list",data:=.seq vs.toArray }) (hi:IntsAre vs ns) (hl:ns.length≤sizeLine) (hr:qcR k callerA)
  (F: ∀base:Heap,K.In base→base.Ns mainGlobals mg→qbb P w K mg base CX k fa fd [x] sp) (hbind: ∀(s:Shared) (u:Value),BindsTo s fd ⟨[u],[]⟩ [(x,u)])
  (hsp: ∀H:Hp,qte H→SqL K H a (ns.map V.int)→sp [.ref a] H (fun v _=>v= .bl true) fun _ _ _=>False)
  (hCX: ∀H e s',CX [] H s₁ (fun _ _ _=>False) e s'→False):
  codeAny (model P w) callerA (.call (.ref fa) ⟨[.ref a],[]⟩) (fun r s'=>r= .ok (.ret (.bool true))∧OldK s₁.heap s'.heap∧s'.os=s₁.os∧AllBare s'.gens) s₁:=by
 have rv:=qeD hi
 have lenV:=hi.length
 have core: ∀H:Hp,qte H→SqL K H a (ns.map V.int)→HOk P w H s₁.heap→(∀b,H b≠none→b=a)→(H a≠none→K.lookup a=none)→
   codeAny (model P w) callerA (.call (.ref fa) ⟨[.ref a],[]⟩) (fun r s'=>r= .ok (.ret (.bool true))∧OldK s₁.heap s'.heap∧s'.os=s₁.os∧AllBare s'.gens) s₁:=by
  intro H hO hS hok hA hK
  have base_of: ∀{b:Addr} {o:Obj},s₁.heap.get? b=some o→H b=none→(qhb s₁.heap H).get? b=some o:=fun e n=>qiO e n
  have noA: ∀{b:Addr} {o:Obj} {es:Array DictEntry} {ep:Nat},s₁.heap.get? b=some o→o.data= .dict es ep→H b=none:=fun {b o es ep} e d=>by
   cases q:H b with
   | none=>rfl
   | some u=>
    have e':b=a:=hA b (by rw[q]; simp)
    subst e'
    rw[ha] at e; cases e
    have d':Data.seq vs.toArray _=Data.dict es ep:=d
    cases d'
  have nsK: ∀{b:Addr} {m:Str→Option Value},s₁.heap.Ns b m→(qhb s₁.heap H).Ns b m:=fun {b m} ⟨o,es,ep,e,d,r⟩=>⟨o,es,ep,base_of e (noA e d),d,r⟩
  have hKb:K.In (qhb s₁.heap H):=fun b o e=>base_of (KX b o e) (by
   cases q:H b with
   | none=>rfl
   | some u=>
    have e':b=a:=hA b (by rw[q]; simp)
    subst e'
    rw[hK (by rw[q]; simp)] at e; cases e)
  have hM:Mod K mg (qhb s₁.heap H):=⟨hKb,nsK hns,⟨mb,nsK hb,hbb⟩,let ⟨mc,h1,h2⟩:=hlim; ⟨mc,nsK h1,h2⟩⟩
  have e0:qmd P w K mg (qhb s₁.heap H) callerA [] s₁ H:=⟨rfl,hM,fun b o e=>qkW e,Nat.le_of_eq (qgN _ _),trivial,fun b hb=>absurd (show b∈([]:List Addr) from hb) (by simp),hok,.of_eq hg⟩
  refine codeAny_mono ((F _ hKb (nsK hns)).run callerA [] s₁ H ⟨[.ref a],[]⟩ [.ref a] [.ref a] _ _ hr e0 (hbind s₁ (.ref a)) (.cons rfl .nil) (hsp H hO hS)) fun r s' h=> ?_
  cases r with
  | error e=>exact (hCX H e s' h).elim
  | ok fl=>
   cases fl with
   | next=>exact False.elim h
   | brk=>exact False.elim h
   | cont=>exact False.elim h
   | ret u=>
    obtain ⟨v,H',os,bare,un,hok',r',q⟩:=h
    have q':v= .bl true:=q
    subst q'
    obtain rfl:u=Value.bool true:=r'
    refine ⟨rfl,OldK.of_keep fun b o e=> ?_,os,bare⟩
    cases q:H b with
    | none=>exact un.keep b o e q (by intro z; exact absurd (show b∈([]:List Addr) from z) (by simp)) (by simp)
    | some u=>
     rcases hO b with z | ⟨ob,xs,z⟩
     ·rw[q] at z; cases z
     ·have z2:=un.frzs b ob _ z
      obtain ⟨e1,_⟩:=hok b _ z
      obtain ⟨e2,_⟩:=hok' b _ z2
      rw[e] at e1; cases e1
      exact e2
 cases hk:K.lookup a with
 | some o=>
  have e:=KX a o hk
  rw[ha] at e
  cases e
  refine core (fun _=>none) (fun _=>.inl rfl) (.inr ⟨_,vs.toArray,_,hk,rfl,rfl,rfl,by rw[List.size_toArray,lenV]; exact hl,by simpa using rv⟩) (fun b u z=>by have z':(none:Option HO)=some u:=z; cases z') (fun b z=>absurd rfl z) fun z=>absurd rfl z
 | none=>
  refine core (fun b=>if b=a then some (.frz { cls:=.type "list",data:=.seq vs.toArray } (.lst (ns.map V.int))) else none) (fun b=> ?_) (.inl (.inr ⟨{ cls:=.type "list",data:=.seq vs.toArray },if_pos rfl⟩)) (fun b u z=> ?_) (fun b z=> ?_) fun _=>hk
  ·by_cases hb:b=a
   ·exact .inr ⟨_,_,if_pos hb⟩
   ·exact .inl (if_neg hb)
  ·by_cases hb:b=a
   ·have z':=(if_pos hb).symm.trans z
    cases z'
    subst hb
    exact ⟨ha,by rw[List.length_map]; exact hl,vs,_,rv,ha⟩
   ·have z':=(if_neg hb).symm.trans z
    cases z'
  ·by_cases hb:b=a
   ·exact hb
   ·exact absurd (if_neg hb) z
end L2
namespace L2
open PySem PySem.Spec PyProof.Rows
abbrev KOf {K:PySem.W.Frag} {h:Heap} (_:K.In h):PySem.W.Frag:=K
theorem qrJ {l:PySem.W.OpenLaw} {n k:Nat} {q:Program} {loose:List Str} {XP:(Str→Option Value)→Heap→Prop} {YP:World→Heap→Prop} {d:DefRec} {K:Params→PySem.W.Frag} {CX:World→CXT} {sp:World→Sp} {x:Str}
  (hn:l.most=some n) (hn2:n≤sizeLine) (hdf:d.params.defaults=[]) (hr:qcR k callerA)
  (hY: ∀(w:World) (h:Heap),YP w h→(K w.params).In h)
  (F: ∀(w:World) (mg:Str→Option Value) (fa:Addr) (h:Heap),(K w.params).In h→h.Ns mainGlobals mg→mg d.name=some (.ref fa)→
   ∃fd:FuncData,(∀(s:Shared) (u:Value),BindsTo s fd ⟨[u],[]⟩ [(x,u)])∧
    ∀base:Heap,(K w.params).In base→base.Ns mainGlobals mg→qbb l.prog w (K w.params) mg base (CX w) k fa fd [x] (sp w))
  (hsp: ∀(w:World) (H:Hp) (a:Addr) (ns:List Int),ns.length≤n→qte H→SqL (K w.params) H a (ns.map V.int)→sp w [.ref a] H (fun v _=>v= .bl true) fun _ _ _=>False)
  (hCX: ∀(w:World) (H:Hp) (s:Shared) (e:Value) (s':Shared),CX w [] H s (fun _ _ _=>False) e s'→False):
  PySem.W.WalkO q loose XP YP l.row.toRowW d [] (fun f vs=>PySem.call f vs):=by
 refine Att.attach_call hn hdf fun w s₀ s₁ mg mb fa o pm cd doc a vs ns G Y ho hd hcd hmg hobj hints hlen hg=> ?_
 have KX:=hY w _ Y
 obtain ⟨fd,hb,hF⟩:=F w mg fa _ KX G.T.g hmg
 exact qmV KX G.T.g G.T.b G.T.builtins G.T.nolimit hg hobj hints (Nat.le_trans hlen hn2) hr hF hb (fun H hO hS=>hsp w H a ns hlen hO hS) fun H e s'=>hCX w H s₁ e s'
end L2
namespace L2
open PySem PySem.Spec PyProof.Rows
def qaM (s:Stmt):Arguments:=match s with
 | .FunctionDef _ a _ _ _ _ _ _ _ _=>a
 | _=>{ posonlyargs:=[],args:=[],vararg:=none,kwonlyargs:=[],kw_defaults:=[],kwarg:=none,defaults:=[] }
def qaF (s:Stmt):List Stmt:=match s with
 | .FunctionDef _ _ b _ _ _ _ _ _ _=>b
 | _=>[]
def qad (s:Stmt):Scope:=match s with
 | .FunctionDef _ _ _ _ _ _ sc _ _ _=>sc
 | _=>{ kind:=.function,names:=[],isGenerator:=false,isCoroutine:=false }
abbrev CX0:CXT:=fun _ _ _ _ _ _=>False
abbrev E0:XK:=fun _ _ _=>False
theorem qcF {X:Cx}:qeo CX0 X E0:=fun _ _ _ _ _ _ _ h=>h.elim
structure Fun (K:PySem.W.Frag) (x qual:Str) (st:Stmt) (f:Addr) (fd:FuncData):Prop where
 ex: ∃(oc:Value) (od:Option Addr) (kV doc pm:Value) (an:Option Addr) (cdv ct:Value) (osl:Array (Option Value)),
  fd=PySem.W.fnOf x qual (qaM st) (qaF st) (qad st) .none kV doc pm an cdv ct∧K.lookup f=some ⟨oc,od,.func fd,osl⟩∧PySem.W.codeIn K cdv qual=true
 kp:PySem.W.keepIn K (.ref f)=true
section
variable {P:Program} {w:World} {K:PySem.W.Frag} {mg:Str→Option Value} {base:Heap}
theorem Fun.ok {x qual:Str} {st:Stmt} {f:Addr} {fd:FuncData} {N ps:List Str} {k:Nat} {sp:Sp} (F:Fun K x qual st f fd) (S:qau N ps (qad st)) (len: ∀vs H Q E,sp vs H Q E→vs.length=ps.length)
  (hbody: ∀(cdv:Value) (A:Around) (outer:List Env) (s:Shared) (H:Hp) (vs:List V) (Q:VK) (E:XK),qcR k (A.deeper (envOfC qual (qad st) s.heap.objs.size f cdv))→sp vs H Q E→
   ∃t,PSs (qpz CX0 P w K mg base N qual (qad st) f cdv A outer s H E).nox (qaF st) t∧t { nx:=fun _ H'=>Q .non H',rt:=Q } (start N vs) H):qbb P w K mg base CX0 (k+1) f fd ps sp:=by
 obtain ⟨oc,od,kV,doc,pm,an,cdv,ct,osl,rfl,lk,hcd⟩:=F.ex
 refine qpi lk hcd S len fun A outer s H vs Q E hr hsp=> ?_
 obtain ⟨t,h,q⟩:=hbody cdv A outer s H vs Q E hr hsp
 exact ⟨t,h.nox,q⟩
theorem Fun.binds {x qual:Str} {st:Stmt} {f:Addr} {fd:FuncData} {ps:List Str} (F:Fun K x qual st f fd)
  (h: ∀(kV doc pm:Value) (an:Option Addr) (cdv ct:Value) (us:List Value),us.length=ps.length→bindArgs (PySem.W.fnOf x qual (qaM st) (qaF st) (qad st) .none kV doc pm an cdv ct) ⟨us,[]⟩=pure (ps.zip us)):qbz K fd ps []:=by
 obtain ⟨oc,od,kV,doc,pm,an,cdv,ct,osl,rfl,lk,hcd⟩:=F.ex
 exact .all (h kV doc pm an cdv ct)
theorem qdO {x qual:Str} {st:Stmt} {f:Addr} {oc:Value} {od an:Option Addr} {osl:Array (Option Value)} {kV doc pm cdv ct:Value} (l:K.lookup f=some ⟨oc,od,.func (PySem.W.fnOf x qual (qaM st) (qaF st) (qad st) .none kV doc pm an cdv ct),osl⟩)
  (c:PySem.W.codeIn K cdv qual=true) (k:PySem.W.keepIn K (.ref f)=true):Fun K x qual st f (PySem.W.fnOf x qual (qaM st) (qaF st) (qad st) .none kV doc pm an cdv ct):=⟨⟨oc,od,kV,doc,pm,an,cdv,ct,osl,rfl,l,c⟩,k⟩
end
theorem qaQ {n:Nat} (h:n≤1000):n<sizeLine:=Nat.lt_of_le_of_lt h (by decide)
section
variable {X:Cx}
theorem pv (i:Nat) {x:Str} {pos:Pos} (hN:X.N[i]? =some x:=by rfl) (hv:Vis X.env.scope x:=by first | exact Or.inl rfl | exact Or.inr (Or.inl rfl) | exact Or.inr (Or.inr rfl)) (hd:(x==("__debug__" :Str))=false:=by decide)
  (hcd:(x==("__classdict__" :Str))=false:=by decide):PE X (.Name x pos) (qpS i):=qqy hN hv hd hcd
end
theorem qha {A B:Prop} (h:B):if false=true then A else B:=by
 rw[if_neg Bool.false_ne_true]
 exact h
theorem qm3 {A B:Prop} (h:A):if true=true then A else B:=by
 rw[if_pos rfl]
 exact h
def qck (H H':Hp):Prop:= ∀b o,H b=some o→H' b=some o
theorem qck.refl (H:Hp):qck H H:=fun _ _ h=>h
theorem qck.trans {H H1 H2:Hp} (a:qck H H1) (b:qck H1 H2):qck H H2:=fun c o h=>b c o (a c o h)
theorem qck.seq {K:PySem.W.Frag} {H H':Hp} {a:Addr} {xs:List V} (e:qck H H') (h:SqL K H a xs):SqL K H' a xs:=by
 rcases h with (h | ⟨o,h⟩) | h
 ·exact .inl (.inl (e _ _ h))
 ·exact .inl (.inr ⟨o,e _ _ h⟩)
 ·exact .inr h
end L2
end
section
namespace L2
open PySem PySem.Spec PyProof.Rows
def clOf (env:Env):List (Str×NameKind)→List (Str×Addr)→List (Str×Addr)
 | [],acc=>acc
 | x::r,acc=>clOf env r (if x.2== .free then (match env.cells.lookup x.1 with | some a=>(x.1,a)::acc | none=>acc) else acc)
theorem qfw {env:Env}: ∀(names:List (Str×NameKind)) (acc:List (Str×Addr)),(∀x∈names,x.2= .free→∃c,env.cells.lookup x.1=some c)→
  (forIn names acc fun x r=>(match x with | (name,kind)=>if (kind==NameKind.free)=true then do let a ←cellOf env name; pure (ForInStep.yield ((name,a)::r)) else pure (ForInStep.yield r):Sem (ForInStep (List (Str×Addr)))))=pure (clOf env names acc)
 | [],acc,_=>by rw[List.forIn_nil]; rfl
 | (n,k)::r,acc,h=>by
  rw[List.forIn_cons]
  have ih:=fun acc'=>qfw (env:=env) r acc' fun x hx=>h x (List.mem_cons_of_mem _ hx)
  by_cases hk:(k==NameKind.free)=true
  ·have hk':k= .free:=by simpa using hk
   obtain ⟨c,hc⟩:=h (n,k) List.mem_cons_self hk'
   simp only[hk,if_true,cellOf,hc,clOf]
   exact ih _
  ·simp only[hk,if_false,clOf]
   exact ih _
theorem qjP {scope:Scope} {env:Env} (h: ∀x∈scope.names,x.2= .free→∃c,env.cells.lookup x.1=some c):closureFor scope env=pure (clOf env scope.names []):=by
 have e:=qfw (env:=env) scope.names [] h
 unfold closureFor
 exact (congrArg (fun m=>m>>=fun r=>pure r) e)
theorem qi6 {env:Env} {x:Str} {c:Addr}: ∀(names:List (Str×NameKind)) (acc:List (Str×Addr)),(∀y d,acc.lookup y=some d→env.cells.lookup y=some d)→
  (clOf env names acc).lookup x=some c→env.cells.lookup x=some c
 | [],acc,ha,h=>ha x c h
 | (n,k)::r,acc,ha,h=>by
  refine qi6 r _ (fun y d hy=> ?_) h
  dsimp only at hy
  by_cases hk:(k==NameKind.free)=true
  ·rw[if_pos hk] at hy
   cases e:env.cells.lookup n with
   | none=>rw[e] at hy; exact ha y d hy
   | some a=>
    rw[e] at hy
    dsimp only at hy
    rw[List.lookup_cons] at hy
    cases hb:y==n with
    | true=>
     rw[hb] at hy
     have e1:y=n:=eq_of_beq hb
     subst e1
     rw[e]; exact hy
    | false=>rw[hb] at hy; exact ha y d hy
  ·rw[if_neg hk] at hy
   exact ha y d hy
theorem qeZ {env:Env} {x:Str} {c:Addr}: ∀(names:List (Str×NameKind)) (acc:List (Str×Addr)),env.cells.lookup x=some c→(acc.lookup x=some c∨(x,NameKind.free)∈names)→
  (clOf env names acc).lookup x=some c
 | [],acc,hc,h=>by
  rcases h with h | h
  ·exact h
  ·cases h
 | (n,k)::r,acc,hc,h=>by
  refine qeZ r _ hc ?_
  dsimp only
  by_cases hk:(k==NameKind.free)=true
  ·rw[if_pos hk]
   by_cases hn:x=n
   ·subst hn
    rw[hc]
    exact .inl (by simp[List.lookup_cons])
   ·have hb:(x==n)=false:=by simpa using hn
    cases e:env.cells.lookup n with
    | none=>
     rcases h with h | h
     ·exact .inl h
     ·rcases List.mem_cons.mp h with h | h
      ·cases h; exact absurd rfl hn
      ·exact .inr h
    | some a=>
     dsimp only
     rcases h with h | h
     ·exact .inl (by rw[List.lookup_cons,hb]; exact h)
     ·rcases List.mem_cons.mp h with h | h
      ·cases h; exact absurd rfl hn
      ·exact .inr h
  ·rw[if_neg hk]
   rcases h with h | h
   ·exact .inl h
   ·rcases List.mem_cons.mp h with h | h
    ·cases h; exact absurd rfl hk
    ·exact .inr h
theorem qc0 {env:Env} {x:Str} {k:NameKind}: ∀{names:List (Str×NameKind)},(∀y∈names,y.2≠.cell)→k= .cell∨k= .free→
  (names.map fun (n,k)=>if (k==NameKind.free&&env.scope.kind== .function&&env.kindOf n==some .cell) then (n,NameKind.cell) else (n,k)).lookup x=some k→names.lookup x=some .free
 | [],_,_,h=>by simp at h
 | (n,k')::r,hc,hk,h=>by
  have ih:=@qc0 env x k r (fun y hy=>hc y (List.mem_cons_of_mem _ hy)) hk
  rw[List.map_cons] at h
  dsimp only at h
  by_cases hf:(k'==NameKind.free&&env.scope.kind== .function&&env.kindOf n==some .cell)=true
  ·rw[if_pos hf] at h
   have hk':k'= .free:=by
    have:=hf; simp only[Bool.and_eq_true,beq_iff_eq] at this; exact this.1.1
   subst hk'
   cases hx:x==n with
   | true=>simp[List.lookup_cons,hx]
   | false=>
    simp only[List.lookup_cons,hx] at h⊢
    exact ih h
  ·rw[if_neg hf] at h
   cases hx:x==n with
   | true=>
    simp only[List.lookup_cons,hx] at h⊢
    cases h
    have hne:=hc (n,k) List.mem_cons_self
    rcases hk with e | e
    ·exact absurd e hne
    ·rw[e]
   | false=>
    simp only[List.lookup_cons,hx] at h⊢
    exact ih h
theorem qeh {env:Env} {x:Str}: ∀{names:List (Str×NameKind)},names.lookup x=some .free→
  let m:=(names.map fun (n,k)=>if (k==NameKind.free&&env.scope.kind== .function&&env.kindOf n==some .cell) then (n,NameKind.cell) else (n,k)).lookup x
  m=some .cell∨m=some .free
 | [],h=>by simp at h
 | (n,k)::r,h=>by
  have ih:=@qeh env x r
  dsimp only at ih⊢
  rw[List.map_cons]
  dsimp only
  cases hx:x==n with
  | true=>
   simp only[List.lookup_cons,hx] at h
   cases h
   by_cases hf:(NameKind.free==NameKind.free&&env.scope.kind== .function&&env.kindOf n==some .cell)=true
   ·rw[if_pos hf]; exact .inl (by simp[List.lookup_cons,hx])
   ·rw[if_neg hf]; exact .inr (by simp[List.lookup_cons,hx])
  | false=>
   simp only[List.lookup_cons,hx] at h
   by_cases hf:(k==NameKind.free&&env.scope.kind== .function&&env.kindOf n==some .cell)=true
   ·rw[if_pos hf]; simp only[List.lookup_cons,hx]; exact ih h
   ·rw[if_neg hf]; simp only[List.lookup_cons,hx]; exact ih h
def qbr (X:Cx) (scope:Scope) (own:List Str) (fr:List (Str×Nat)) (fp:List Addr) (s3:Shared) (H3:Hp):Cx where
 prog:=X.prog
 w:=X.w
 K:=X.K
 mg:=X.mg
 base:=X.base
 A:=X.A
 N:=own++fr.map (·.1)
 s₀:=s3
 H₀:=H3
 env:=compEnvC scope (clOf X.env scope.names []) s3.heap.objs.size X.env
 outer:=X.stack
 stack:=X.stack
 ex:=fp
 calm:=X.calm
 fn:=fun _=>false
 pn:=[]
 xe:=fun _ _=>False
def qeE (own:List Str) (fr:List (Str×Nat)) (σ:St):St:=own.map (fun _=>none)++fr.map fun p=>(σ[p.2]?).join
def qnv (Y:Cx) (ifs:List Expr) (tt:TT):Prop:=
 ∀(pins:List (Addr×Obj)) (s:Shared) (σ:St) (H:Hp) (Q:Bool→Hp→Prop),Inv Y pins σ H s→tt σ H Q→
  wpAny (model Y.prog Y.w) Y.A (forIn ifs true fun c r=>if r=true then do let ok ←isTrue c Y.env (eval c Y.env); pure (ForInStep.yield ok) else pure (ForInStep.yield r)) (TP Y pins σ Q) Y.xe s
def qoy:TT:=fun _ H Q=>Q true H
theorem qc7 {Y:Cx}:qnv Y [] qoy:=fun _ _ _ H _ I h=>wpAny_tests_nil ⟨H,I,h⟩
theorem qfH {Y:Cx} {c:Expr} {t:TT} (h:PT Y c t):qnv Y [c] t:=fun pins s σ H Q I q=>wpAny_tests_one (h pins s σ H Q I q)
theorem fls {α:Type} {t:Sem α} {Q Q':α→Shared→Prop} {M:Model} {A:Around} {E:Value→Shared→Prop} {s:Shared} (h:wpAny M A t Q (fun _ _=>False) s) (hQ: ∀a s,Q a s→Q' a s):wpAny M A t Q' E s:=
 wpAny_mono h hQ fun _ _ x=>x.elim
section
variable {prog:Program} {w:World} {A:Around} {R:Result→Shared→Prop} {s:Shared}
theorem qjS {elt tg iter:Expr} {ifs:List Expr} {scope:Scope} {pos:Pos} {it acc:Value} {env:Env} (J:Nat→Shared→Prop)
  (qib: ∀n s,J n s→wpAny (model prog w) A (pyNext it) (fun r s1=>match r with
   | none=>R (.ok .next) s1
   | some v=>wpAny (model prog w) A (letOwnedTupleGo tg it v) (fun _ s2=>wpAny (model prog w) A (assign tg env v) (fun _ s3=>
     wpAny (model prog w) A (forIn ifs true fun c r=>if r=true then do let ok ←isTrue c env (eval c env); pure (ForInStep.yield ok) else pure (ForInStep.yield r)) (fun ok s4=>
      if ok=true then wpAny (model prog w) A (eval elt env) (fun x s5=>wpAny (model prog w) A (call (.builtin "list.append") [acc,x]) (fun _ s6=> ∃m,m<n∧J m s6) (fun _ _=>False) s5) (fun _ _=>False) s4
      else ∃m,m<n∧J m s4) (fun _ _=>False) s3) (fun _ _=>False) s2) (fun _ _=>False) s1) (fun _ _=>False) s)
  (n:Nat) (h:J n s):codeAny (model prog w) A (.compLoop (.ListComp elt [⟨tg,iter,ifs,0⟩] scope pos) 0 it acc env) R s:=by
 refine codeAny_loop rfl J (fun n s hJ=> ?_) n h
 show wpAny _ A ((compTurn (.ListComp elt [⟨tg,iter,ifs,0⟩] scope pos) 0 it acc env).onRaise (fun x=>do noteFrame x env; theTreesLotGoes x)) _ _ s
 refine wpAny_noted ?_
 rw[compTurn_list]
 refine wpAny_bind (wpAny_standAt (wpAny_bind (fls (qib n s hJ) fun r s1 h1=> ?_)))
 cases r with
 | none=>exact wpAny_pure h1
 | some v=>
  refine wpAny_bind (fls h1 fun _ s2 h2=>wpAny_bind (fls h2 fun _ s3 h3=>wpAny_bind (fls h3 fun ok s4 h4=> ?_)))
  cases ok with
  | false=>exact wpAny_pure ⟨rfl,h4⟩
  | true=>exact wpAny_bind (wpAny_bind (fls h4 fun x s5 h5=>wpAny_bind (fls h5 fun _ s6 h6=>wpAny_pure (wpAny_pure ⟨rfl,h6⟩))))
end
end L2
end
section
namespace L2
open PySem PySem.Spec PyProof.Rows
def qpL (J:It) (D:Addr) (g:TG) (tt:TT) (te:TE) (σ0:St) (H0:Hp) (Q:Addr→Hp→Prop):Prop:=
 ∃W:Nat→Nat→St→Hp→Prop,(∃m,W 0 m σ0 H0)∧∀i m σ1 H2,W i m σ1 H2→
  (J.stop i H2∧Q D H2)∨(J.go i H2∧∃(Ny:St→V→Hp→Prop) (Nn:St→Hp→Prop),
   (∀σ2 y H6,Ny σ2 y H6→∃ys,H6 D=some (.lst ys)∧ys.length<sizeLine∧∃m',m'<m∧W (i+1) m' σ2 (upd H6 D (.lst (ys++[y]))))∧
   (∀σ2 H5,Nn σ2 H5→∃m',m'<m∧W (i+1) m' σ2 H5)∧
   ∀x H3,J.yld i H2 x H3→g x σ1 H3 fun σ2 H4=>tt σ2 H4 fun b H5=>if b=true then te σ2 H5 (Ny σ2) else Nn σ2 H5)
def qid (wi:TI) (g:TG) (tt:TT) (te:TE) (own:List Str) (fr:List (Str×Nat)) (σ:St) (H:Hp) (Q:Addr→Hp→Prop):Prop:=
 wi σ H fun J H1=> ∀D,H1 D=none→qpL J D g tt te (qeE own fr σ) (upd H1 D (.lst [])) Q
section
variable {X:Cx} {elt tg iter:Expr} {ifs:List Expr} {scope:Scope} {pos ppos:Pos} {own:List Str} {fr:List (Str×Nat)} {wi:TI} {g:TG} {tt:TT} {te:TE}
theorem qg1 {use:Option (Value→Sem Unit)} {Qf:Value→Shared→Prop} {pins:List (Addr×Obj)} {σ:St} {H:Hp} {s:Shared} {Q:Addr→Hp→Prop}
  (hc:X.calm=true) (hi:PI X tg iter wi) (hk:scope.kind= .function) (hcell: ∀y∈scope.names,y.2≠.cell) (hnames: ∀y∈scope.names,y.2= .local→scope.names.lookup y.1=some .local)
  (hfree: ∀y∈scope.names,y.2= .free→X.env.kindOf y.1=some .cell∨X.env.kindOf y.1=some .free) (hfr: ∀p∈fr,X.N[p.2]? =some p.1∧scope.names.lookup p.1=some .free)
  (hb: ∀(fp:List Addr) (s3:Shared) (H3:Hp),PG (qbr X scope own fr fp s3 H3) tg g∧qnv (qbr X scope own fr fp s3 H3) ifs tt∧PE (qbr X scope own fr fp s3 H3) elt te)
  (hs: ∀x,foldedSetIterable iter X.env x=pure x) (I:Inv X pins σ H s) (h:qid wi g tt te own fr σ H Q)
  (fin: ∀(D C:Addr) (H':Hp) (s':Shared) (m:Str→Option Value),Inv X pins σ H' s'→qj0 X pins H' C→s'.heap.Ns C m→Q D H'→compPost (model X.prog X.w) X.A X.xe use Qf (.ref D) C (.ok .next) s'):
  wpAny (model X.prog X.w) X.A (comprehension (.ListComp elt [⟨tg,iter,ifs,0⟩] scope pos) scope X.env ppos (newList []) false (eval iter X.env) use) Qf X.xe s:=by
 have hcel: ∀x∈scope.names,x.2= .free→∃c,X.env.cells.lookup x.1=some c:=fun x hx e=>I.ok.has x.1 (hfree x hx e)
 refine wpAny_comprehension_free (cl:=clOf X.env scope.names []) rfl hs (qjP hcel) hk hnames ?_
 refine thn (hi pins s σ H _ I h) fun xv s1 h1=>thn h1 fun itv s2 h2=> ?_
 obtain ⟨it,fp,tn,J,H2,rfl,I2,T,st2,f2,h2⟩:=h2
 refine wpAny_newObj_type (hd:=by size_fits) ?_
 generalize hD:s2.heap.objs.size=D
 have I3:Inv X pins σ (upd H2 D (.lst [])) { s2 with heap:=s2.heap.push { cls:=.type "list",dict:=none,data:=.seq ([]:List Value).toArray } }:=by
  rw[←hD]
  exact I2.lnew (its:=[]) (ys:=[]) (t':=s2.toks) .nil (Nat.zero_le _)
 have nD:H2 D=none:=I2.hok.fresh (Nat.le_of_eq hD)
 obtain ⟨W,⟨m0,w0⟩,qib⟩:=h2 D nD
 have f3: ∀b∈fp,b<s2.heap.objs.size∧qj0 X pins (upd H2 D (.lst [])) b:=fun b hb=>by
  obtain ⟨o,e,_⟩:=T.obj _ _ st2 b hb
  have lt:=Heap.lt_size e
  exact ⟨lt,by rw[qae (by rw[←hD]; exact Nat.ne_of_lt lt)]; exact (f2 b hb).1,(f2 b hb).2⟩
 have st3:tn 0 (s2.heap.push { cls:=.type "list",dict:=none,data:=.seq ([]:List Value).toArray }):=T.keep _ _ _ st2 fun b _ o e=>Heap.get?_push_of_some _ e
 generalize hs3:({ s2 with heap:=s2.heap.push { cls:=.type "list",dict:=none,data:=.seq ([]:List Value).toArray } }:Shared)=s3 at I3⊢
 have hh3:s3.heap=s2.heap.push { cls:=.type "list",dict:=none,data:=.seq ([]:List Value).toArray }:=by rw[←hs3]
 rw[←hh3] at st3
 have sz3:s3.heap.objs.size=s2.heap.objs.size+1:=by rw[hh3,Heap.size_push]
 generalize hH3:upd H2 D (.lst [])=H3 at I3 w0 f3
 refine wpAny_newFunctionEnv hcell (by intro y hy; simp at hy) (fun h4 hn4 hs4=> ?_) hk
 have old4: ∀b o,s3.heap.get? b=some o→h4.get? b=some o:=fun b o e=>
  (hs4.2 b (Nat.ne_of_lt (Heap.lt_size e))).trans (Heap.get?_push_of_some _ e)
 generalize hs4':({ s3 with heap:=h4,toks:=s3.toks+([]:List (Str×Value)).length }:Shared)=s4
 have hh4:s4.heap=h4:=by rw[←hs4']
 have cl_sub: ∀x c,(clOf X.env scope.names []).lookup x=some c→X.env.cells.lookup x=some c:=fun x c=>qi6 _ _ (fun _ _ z=>by cases z)
 have Y0:Inv (qbr X scope own fr fp s3 H3) [] (qeE own fr σ) H3 s4:=by
  refine ⟨⟨I3.ok.mod,hk,I3.ok.glob,I3.ok.blt,Nat.le_refl _,fun x y c h1 h2=>I3.ok.inj x y c (cl_sub x c h1) (cl_sub y c h2),fun x hx=> ?_,fun x c z=>absurd (show false=true from z) Bool.false_ne_true,I3.ok.hd,I3.ok.frames,.inl rfl,fun b hb=>⟨?_,fun x c e=>(f3 b hb).2.2.2.2.2.1 x c (cl_sub x c e)⟩,
   I3.bs,Nat.le_trans I3.ok.bsz I3.sz,fun b o e hb=> ?_,fun b hb z=> ?_,I3.stack,I3.stkFree⟩,by rw[←hs4']; rfl,by rw[←hs4']; exact I3.bare,?_,⟨_,by rw[hh4]; exact hn4,fun i x v e1 e2 e3=> ?_⟩,fun x c e=> ?_,I3.hok.fresh (Nat.le_refl _),fun x c e=>I3.freeC x c (cl_sub x c e),fun p hp=>absurd (show p∈([]:List (Addr×Obj)) from hp) (by simp),?_,?_⟩
  ·have hx':(relabel scope X.env).names.lookup x=some .cell∨(relabel scope X.env).names.lookup x=some .free:=hx
   have hf:scope.names.lookup x=some .free:=by
    rcases hx' with z | z
    ·exact qc0 hcell (.inl rfl) z
    ·exact qc0 hcell (.inr rfl) z
   obtain ⟨c,hc⟩:=hcel (x,.free) (PySem.mem_of_lookup hf) rfl
   exact ⟨c,qeZ _ _ hc (.inr (PySem.mem_of_lookup hf))⟩
  ·have:=(f3 b hb).1
   exact Nat.ne_of_lt (Nat.lt_of_lt_of_le this (show s2.heap.objs.size≤s3.heap.objs.size by rw[sz3]; exact Nat.le_succ _))
  ·rcases (f3 b hb).2.2.2.2.1 with z | z
   ·exact I3.ok.noex b o e z
   ·exact absurd (Nat.lt_of_lt_of_le (Heap.lt_size (I3.ok.bs b o e).1) z) (Nat.lt_irrefl _)
  ·rcases List.mem_cons.mp (I3.stkSub b z) with q | q
   ·exact (f3 b hb).2.2.1 q
   ·exact (f3 b hb).2.2.2.1 q
  ·exact Un.kept (by rw[hh4]; exact old4)
  ·
   have hi':own.length≤i:=by
    by_cases q:own.length≤i
    ·exact q
    ·exfalso
     have e2':(own.map (fun _=>(none:Option V))++fr.map fun p=>(σ[p.2]?).join)[i]? =some (some v):=e2
     rw[List.getElem?_append_left (by simpa using q),List.getElem?_map] at e2'
     cases q2:own[i]? with
     | none=>rw[q2] at e2'; cases e2'
     | some z=>rw[q2] at e2'; cases e2'
   have e2':(own.map (fun _=>(none:Option V))++fr.map fun p=>(σ[p.2]?).join)[i]? =some (some v):=e2
   rw[List.getElem?_append_right (by simpa using hi'),List.getElem?_map,List.length_map] at e2'
   have e1':(own++fr.map (·.1))[i]? =some x:=e1
   rw[List.getElem?_append_right hi',List.getElem?_map] at e1'
   cases q2:fr[i - own.length]? with
   | none=>rw[q2] at e2'; cases e2'
   | some p=>
    rw[q2] at e1' e2'
    obtain rfl:p.1=x:=Option.some.inj e1'
    have e4:(σ[p.2]?).join=some v:=Option.some.inj e2'
    have e5:σ[p.2]? =some (some v):=by
     cases q3:σ[p.2]? with
     | none=>rw[q3] at e4; cases e4
     | some z=>rw[q3] at e4; exact congrArg some e4
    obtain ⟨g1,g2⟩:=hfr p (List.mem_of_getElem? q2)
    have kx:=hfree (p.1,.free) (PySem.mem_of_lookup g2) rfl
    obtain ⟨mX,hnX,hlX⟩:=I3.loc
    obtain ⟨u,ru,lu⟩:=hlX p.2 p.1 v g1 e5 (kx.elim (fun z=>.inr (.inl z)) fun z=>.inr (.inr z))
    refine ⟨u,ru,.inr ⟨qeh g2,?_⟩⟩
    rcases lu with ⟨z,_⟩ | ⟨_,c,e6,e7⟩
    ·rcases kx with kx | kx
     ·rw[kx] at z; cases z
     ·rw[kx] at z; cases z
    ·obtain ⟨oc,hoc,hd⟩:=e7
     exact ⟨c,qeZ _ _ e6 (.inr (PySem.mem_of_lookup g2)),oc,by rw[hh4]; exact old4 _ _ hoc,hd⟩
  ·obtain ⟨v,oc,hoc,hd⟩:=I3.cell x c (cl_sub x c e)
   exact ⟨v,oc,by rw[hh4]; exact old4 _ _ hoc,hd⟩
  ·exact I3.hok.kept (by rw[hh4]; exact old4)
  ·show (own.map (fun _=>(none:Option V))++fr.map fun p=>(σ[p.2]?).join).length=(own++fr.map (·.1)).length
   simp
 have fY: ∀{H':Hp},(∀b∈fp,H' b=none)→∀b∈fp,qj0 (qbr X scope own fr fp s3 H3) [] H' b:=fun {H'} hn b hb=>
  ⟨hn b hb,(Y0.ok.exf b hb).1,Y0.ok.exfs b hb,.inl hb,(Y0.ok.exf b hb).2,fun p hp=>absurd (show p∈([]:List (Addr×Obj)) from hp) (by simp)⟩
 have st4:tn 0 s4.heap:=T.keep _ _ _ st3 (by rw[hh4]; exact fun b _ o e=>old4 b o e)
 have hcY:(qbr X scope own fr fp s3 H3).calm=true:=hc
 obtain ⟨hg,ht,he⟩:=hb fp s3 H3
 have loop:codeAny (model X.prog X.w) X.A (.compLoop (.ListComp elt [⟨tg,iter,ifs,0⟩] scope pos) 0 (.ref it) (.ref D) (compEnvC scope (clOf X.env scope.names []) s3.heap.objs.size X.env)) (compPost (model X.prog X.w) X.A X.xe use Qf (.ref D) s3.heap.objs.size) s4:=by
  refine qjS (fun n s'=> ∃i σ' H',Inv (qbr X scope own fr fp s3 H3) [] σ' H' s'∧tn i s'.heap∧(∀b∈fp,H' b=none)∧W i n σ' H') ?_ m0 ⟨0,_,_,Y0,st4,fun b hb=>(f3 b hb).2.1,w0⟩
  rintro n s5 ⟨i,σ5,H5,I5,st5,fr5,w5⟩
  rcases qib i n σ5 H5 w5 with ⟨stop,q⟩ | ⟨go,Ny,Nn,hNy,hNn,step⟩
  ·refine thn (T.done (qbr X scope own fr fp s3 H3) rfl rfl rfl hcY i [] s5 σ5 H5 _ I5 (fY fr5) st5 stop) fun r s6 hq127=> ?_
   obtain ⟨hr,I6⟩:=hq127
   subst hr
   have IX:Inv X pins σ H5 s6:=I3.call' (ch:=fp) I6.os I6.base I6.hok I6.bare fun b hb=>⟨(f3 b hb).2.2.2.2.1,(f3 b hb).2.2.1,(f3 b hb).2.2.2.2.2.1,(f3 b hb).2.2.2.2.2.2⟩
   obtain ⟨m6,hn6,_⟩:=I6.loc
   exact fin D _ H5 s6 m6 IX (I3.fpOk (Nat.le_refl _) I6.free) hn6 q
  ·refine thn (T.item (qbr X scope own fr fp s3 H3) rfl rfl rfl hcY i [] s5 σ5 H5 _ I5 (fY fr5) st5 go) fun r s6 hq132=> ?_
   obtain ⟨u,hr,h6⟩:=hq132
   subst hr
   refine thn h6 fun _ s7 hq134=> ?_
   obtain ⟨x,H7,I7,r7,y7,st7,fr7⟩:=hq134
   have I7':=I7.pinned (fY fr7) (T.obj _ _ st7)
   refine thn (hg _ s7 σ5 H7 x u _ I7' r7 (step x H7 y7)) fun _ s8 hq136=> ?_
   obtain ⟨σ8,H8,I8,q8⟩:=hq136
   refine thn (ht _ s8 σ8 H8 _ I8 q8) fun b s9 hq137=> ?_
   obtain ⟨H9,I9,q9⟩:=hq137
   have again: ∀{s':Shared} {H':Hp} {m':Nat},Inv (qbr X scope own fr fp s3 H3) ([]++qgr fp s7.heap) σ8 H' s'→m'<n→W (i+1) m' σ8 H'→∃m,m<n∧∃i σ' H',Inv (qbr X scope own fr fp s3 H3) [] σ' H' s'∧tn i s'.heap∧(∀b∈fp,H' b=none)∧W i m σ' H':=fun {s' H' m'} I' hm w'=>by
    refine ⟨m',hm,i+1,σ8,H',I'.unpinned,T.keep _ _ _ st7 fun b hb o e=>(I'.pin (b,o) (List.mem_append_right _ (List.mem_append_right _ (qc9 hb e)))).1,fun b hb=> ?_,w'⟩
    obtain ⟨o,e,d⟩:=T.obj _ _ st7 b hb
    exact (I'.pin (b,o) (List.mem_append_right _ (List.mem_append_right _ (qc9 hb e)))).2.1
   cases b with
   | false=>
    obtain ⟨m',hm,w'⟩: ∃m',m'<n∧W (i+1) m' σ8 H9:=hNn σ8 H9 (by simpa using q9)
    show ∃m,_
    exact again I9 hm w'
   | true=>
    have q9':te σ8 H9 (Ny σ8):=by simpa using q9
    show wpAny _ _ _ _ _ _
    refine thn (he _ s9 σ8 H9 _ I9 q9') fun xv s10 hq150=> ?_
    obtain ⟨y,H10,I10,r10,q10⟩:=hq150
    obtain ⟨ys,hys,hlen,m',hm,w'⟩:=hNy σ8 y H10 q10
    refine thn (qeN _ s10 σ8 H10 (.ref D) [y] (.ref D) [xv] (fun _ H'=> ∃m',m'<n∧W (i+1) m' σ8 H') I10 rfl (.cons r10 .nil) ⟨D,ys,y,rfl,rfl,hys,hlen,m',hm,w'⟩) fun _ s11 hq152=> ?_
    obtain ⟨_,H11,I11,_,m2,hm2,w2⟩:=hq152
    exact again I11 hm2 w2
 refine codeAny_compStart_list ?_ ?_
 ·exact loop
 ·exact T.self X.A 0 s4 _ _ st4 loop
theorem qdo (hc:X.calm=true) (hi:PI X tg iter wi) (hk:scope.kind= .function) (hcell: ∀y∈scope.names,y.2≠.cell) (hnames: ∀y∈scope.names,y.2= .local→scope.names.lookup y.1=some .local)
  (hfree: ∀y∈scope.names,y.2= .free→X.env.kindOf y.1=some .cell∨X.env.kindOf y.1=some .free) (hfr: ∀p∈fr,X.N[p.2]? =some p.1∧scope.names.lookup p.1=some .free)
  (hb: ∀(fp:List Addr) (s3:Shared) (H3:Hp),PG (qbr X scope own fr fp s3 H3) tg g∧qnv (qbr X scope own fr fp s3 H3) ifs tt∧PE (qbr X scope own fr fp s3 H3) elt te)
  (hs: ∀x,foldedSetIterable iter X.env x=pure x:=by intro _; rfl):
  PE X (.ListComp elt [⟨tg,iter,ifs,0⟩] scope pos) (fun σ H Q=>qid wi g tt te own fr σ H fun D H'=>Q (.ref D) H'):=by
 intro pins s σ H Q I h
 rw[eval_ListComp]
 refine qg1 (use:=none) hc hi hk hcell hnames hfree hfr hb hs I h fun D C H' s' m I' f' hn q=> ?_
 obtain ⟨f0,f1,f2,f3,f4,f5⟩:=f'
 exact ⟨m,hn,fun h' hs'=>⟨.ref D,H',I'.turned (t':=s'.toks) (fun b o hb e=>(hs'.2 b hb).trans e) f0 f1 f3 f4 f5,rfl,q⟩⟩
theorem ps_setcomp {i:Nat} {y:Str} {py spos:Pos} (hc:X.calm=true) (hi:PI X tg iter wi) (hk:scope.kind= .function) (hcell: ∀y∈scope.names,y.2≠.cell) (hnames: ∀y∈scope.names,y.2= .local→scope.names.lookup y.1=some .local)
  (hfree: ∀y∈scope.names,y.2= .free→X.env.kindOf y.1=some .cell∨X.env.kindOf y.1=some .free) (hfr: ∀p∈fr,X.N[p.2]? =some p.1∧scope.names.lookup p.1=some .free)
  (hb: ∀(fp:List Addr) (s3:Shared) (H3:Hp),PG (qbr X scope own fr fp s3 H3) tg g∧qnv (qbr X scope own fr fp s3 H3) ifs tt∧PE (qbr X scope own fr fp s3 H3) elt te)
  (hN:X.N.Nodup) (hiN:X.N[i]? =some y) (hy:X.env.scope.names.lookup y=some .local)
  (hsw:swapsWith (.ListComp elt [⟨tg,iter,ifs,0⟩] scope pos) (some (.Name y py)) spos.line X.env=pure true) (hs: ∀x,foldedSetIterable iter X.env x=pure x:=by intro _; rfl):
  PS X (.Assign [.Name y py] (.ListComp elt [⟨tg,iter,ifs,0⟩] scope pos) spos) (fun D σ H=>qid wi g tt te own fr σ H fun d H'=>D.nx (σ.set i (some (.ref d))) H'):=by
 intro pins s σ H D I h
 rw[exec_Assign_Name_used _ _ _ _ hsw]
 refine wpAny_bind (wpAny_standAt (wpAny_bind ?_))
 show wpAny _ _ (do let _ ←comprehension (.ListComp elt [⟨tg,iter,ifs,0⟩] scope pos) scope X.env _ (newList []) false (eval iter X.env) (some (assign (.Name y py) X.env))) _ _ s
 refine wpAny_bind (thn (qg1 (use:=some (assign (.Name y py) X.env)) (Qf:=fun _ s'=>SP X pins D .next s') hc hi hk hcell hnames hfree hfr hb hs I h fun d C H' s' m I' f' hn q=> ?_) fun _ s' hq=>wpAny_pure (wpAny_pure hq))
 obtain ⟨f0,f1,f2,f3,f4,f5⟩:=id f'
 show wpAny _ _ (assign (.Name y py) X.env (.ref d)) _ _ s'
 refine wpAny_assign_Name (qgh I' hN hiN (.inl hy) (v:=.ref d) rfl (fun s'' I'' ⟨a,sb,ha⟩=> ?_) (.inr hy))
 have hne:C≠a:=by
  rcases ha with rfl | ha
  ·exact f1
  ·exact fun z=>f4 y a ha z.symm
 refine ⟨m,hn.sameBut sb hne,fun h' hs'=>⟨_,H',I''.turned (t':=s''.toks) (fun b o hb e=>(hs'.2 b hb).trans e) f0 f1 f3 f4 f5,q⟩⟩
end
theorem qdV {J:It} {n:Nat} {D:Addr} {g:TG} {tt:TT} {te:TE} {σ0:St} {H0:Hp} {Q:Addr→Hp→Prop} (Pv:Nat→List V→St→Hp→Prop) (h0:Pv 0 [] σ0 H0) (hn:n≤sizeLine) (hD: ∀i ys σ H,Pv i ys σ H→H D=some (.lst ys)) (hl: ∀i ys σ H,Pv i ys σ H→ys.length≤i)
  (hgo: ∀i ys σ H,i<n→Pv i ys σ H→J.go i H) (hstop: ∀ys σ H,Pv n ys σ H→J.stop n H∧Q D H)
  (hs: ∀i ys σ H x H',i<n→Pv i ys σ H→J.yld i H x H'→g x σ H' fun σ2 H4=>tt σ2 H4 fun b H5=>if b=true then te σ2 H5 fun y H6=>H6 D=some (.lst ys)∧Pv (i+1) (ys++[y]) σ2 (upd H6 D (.lst (ys++[y]))) else Pv (i+1) ys σ2 H5):
  qpL J D g tt te σ0 H0 Q:=by
 refine ⟨fun i m σ H=>m=n - i∧i≤n∧∃ys,Pv i ys σ H,⟨n,by simp,Nat.zero_le _,[],h0⟩,?_⟩
 rintro i m σ H ⟨rfl,hi,ys,p⟩
 by_cases hlt:i<n
 ·refine .inr ⟨hgo i ys σ H hlt p,fun σ2 y H6=>H6 D=some (.lst ys)∧Pv (i+1) (ys++[y]) σ2 (upd H6 D (.lst (ys++[y]))),fun σ2 H5=>Pv (i+1) ys σ2 H5,fun σ2 y H6 q=>⟨ys,q.1,?_,n - (i+1),by lia,rfl,hlt,_,q.2⟩,fun σ2 H5 q=>⟨n - (i+1),by lia,rfl,hlt,ys,q⟩,fun x H3 y=>hs i ys σ H x H3 hlt p y⟩
  have:=hl i ys σ H p
  lia
 ·have e:i=n:=by lia
  subst e
  exact .inl (hstop ys σ H p)
end L2
end
section
namespace St
open PySem.W PyProof.Rows
def qe6 {α:Type} (N:Nat) (ask:Nat→Nat→Bool):KasT α→(α→Prop)→Prop
 | .ret a,Q=>Q a
 | .ask i j k,Q=>i<N∧j<N∧qe6 N ask (k (ask i j)) Q
theorem qcH {α β:Type} {N:Nat} {ask:Nat→Nat→Bool} {f:α→KasT β} {Q:β→Prop}: ∀{t:KasT α},qe6 N ask t (fun a=>qe6 N ask (f a) Q)→qe6 N ask (t.bind f) Q
 | .ret _,h=>h
 | .ask _ _ _,⟨h1,h2,h⟩=>⟨h1,h2,qcH h⟩
theorem qbN {α:Type} {N:Nat} {ask:Nat→Nat→Bool} {Q Q':α→Prop} (hq: ∀a,Q a→Q' a): ∀{t:KasT α},qe6 N ask t Q→qe6 N ask t Q'
 | .ret _,h=>hq _ h
 | .ask _ _ _,⟨h1,h2,h⟩=>⟨h1,h2,qbN hq h⟩
def g (p:Array Nat) (i:Nat):Nat:=p.getD i 0
theorem qq0 {p q:Array Nat} {i j:Nat} (h:p[i]? =q[j]?):g p i=g q j:=by
 unfold g
 rw[Array.getD_eq_getD_getElem?,Array.getD_eq_getD_getElem?,h]
theorem qm6 {p:Array Nat} {i j:Nat} (hj:j≤p.size) (t:Nat):g (kas_rev p i j) t=if i≤t∧t<j then g p (i+j - 1 - t) else g p t:=by
 have e:=getElem?_mirror_all (i:=i) hj t
 by_cases h1:i≤t∧t<j
 ·rw[if_pos h1] at e⊢; exact qq0 e
 ·rw[if_neg h1] at e⊢; exact qq0 e
theorem qsY {p:Array Nat} {k l:Nat} (hk:k<p.size) (hl:l≤k) (t:Nat):g (bubble p k (k - l)) t=if t=l then g p k else if l<t∧t≤k then g p (t - 1) else g p t:=by
 have e:=getElem?_bubble hk (k - l) (Nat.sub_le _ _) t
 rw[show k - (k - l)=l by lia] at e
 by_cases h1:t=l
 ·rw[if_pos h1] at e⊢; exact qq0 e
 ·rw[if_neg h1] at e⊢
  by_cases h2:l<t∧t≤k
  ·rw[if_pos h2] at e⊢; exact qq0 e
  ·rw[if_neg h2] at e⊢; exact qq0 e
theorem qfD (p:Array Nat) (i j:Nat):(kas_rev p i j).size=p.size:=mirror_size _ _ _ _
section
variable (N:Nat) (k:Nat→Int)
def L (a b:Nat):Prop:=k a<k b∨(k a=k b∧a<b)
structure Pre (n:Nat) (p:Array Nat):Prop where
 sz:p.size=N
 lo: ∀i,i<n→g p i<n
 hi: ∀i,n≤i→i<N→g p i=i
def Srt (p:Array Nat) (n:Nat):Prop:= ∀i j,i<j→j<n→L k (g p i) (g p j)
def Dsc (p:Array Nat) (n:Nat):Prop:= ∀i j,i<j→j<n→L k (g p j) (g p i)
structure qpJ (p:Array Nat) (n q:Nat):Prop where
 pre:Pre N n p
 q1:q+1≤n
 a: ∀i j,i<j→j<n - (q+1)→L k (g p j) (g p i)
 b: ∀i j,i<n - (q+1)→n - (q+1)≤j→j<n→k (g p j)<k (g p i)
 c: ∀i j,n - (q+1)≤i→i<j→j<n→k (g p i)=k (g p j)∧g p i<g p j
def qdx:Nat→Nat→Bool:=fun i j=>decide (k i<k j)
end
section
variable {N:Nat} {k:Nat→Int}
theorem Pre.lt {n:Nat} {p:Array Nat} (h:Pre N n p) (hn:n≤N) {i:Nat} (hi:i<N):g p i<N:=by
 by_cases q:i<n
 ·exact Nat.lt_of_lt_of_le (h.lo i q) hn
 ·rw[h.hi i (by lia) hi]; exact hi
theorem L.le {a b:Nat} (h:L k a b):k a≤k b:=by
 rcases h with h | h
 ·lia
 ·lia
theorem Pre.more {n:Nat} {p:Array Nat} (h:Pre N n p) (hn:n<N):Pre N (n+1) p:=
 ⟨h.sz,fun i hi=>by
  by_cases q:i<n
  ·exact Nat.lt_succ_of_lt (h.lo i q)
  ·have e:i=n:=by lia
   subst e
   rw[h.hi i (Nat.le_refl _) hn]; lia,fun i h1 h2=>h.hi i (by lia) h2⟩
theorem ql4 {p:Array Nat}: ∀(f n:Nat),1≤n→n+f≤N→Pre N n p→Srt k p n→
  qe6 N (qdx k) (kas_asc p f n) fun m=>n≤m∧m≤n+f∧Pre N m p∧Srt k p m∧(m=n+f∨k (g p m)<k (g p (m - 1)))
 | 0,n,h1,hf,hp,hs=>⟨Nat.le_refl _,Nat.le_refl _,hp,hs,.inl rfl⟩
 | f+1,n,h1,hf,hp,hs=>by
  refine ⟨hp.lt (by lia) (by lia),hp.lt (by lia) (by lia),?_⟩
  show qe6 N (qdx k) (if qdx k (g p n) (g p (n - 1))=true then .ret n else kas_asc p f (n+1)) _
  by_cases hc:k (g p n)<k (g p (n - 1))
  ·rw[if_pos (by simpa [qdx] using hc)]
   exact ⟨Nat.le_refl _,by lia,hp,hs,.inr hc⟩
  ·rw[if_neg (by simpa [qdx] using hc)]
   have hs':Srt k p (n+1):=fun i j hij hj=>by
    by_cases q:j<n
    ·exact hs i j hij q
    ·have e:j=n:=by lia
     subst e
     have en:=hp.hi j (Nat.le_refl _) (by lia)
     have lt:=hp.lo i hij
     have le:k (g p i)≤k (g p (j - 1)):=by
      by_cases q2:i=j - 1
      ·rw[q2]; exact Int.le_refl _
      ·exact (hs i (j - 1) (by lia) (by lia)).le
     unfold L
     rw[en] at hc⊢
     lia
   refine qbN (fun m h=> ?_) (ql4 f (n+1) (by lia) (by lia) (hp.more (by lia)) hs')
   obtain ⟨a,b,c,d,e⟩:=h
   exact ⟨by lia,by lia,c,d,e.elim (fun z=>.inl (by lia)) .inr⟩
def fin (p:Array Nat) (n q:Nat):Array Nat:=if q>0 then kas_rev p (n - (q+1)) n else p
theorem qpJ.fin {p:Array Nat} {n q:Nat} (h:qpJ N k p n q) (hn:n≤N):Pre N n (fin p n q)∧Dsc k (fin p n q) n:=by
 unfold St.fin
 by_cases hq:q>0
 ·rw[if_pos hq]
  have gr:=qm6 (p:=p) (i:=n - (q+1)) (j:=n) (by rw[h.pre.sz]; exact hn)
  refine ⟨⟨by rw[qfD]; exact h.pre.sz,fun i hi=> ?_,fun i h1 h2=> ?_⟩,fun i j hij hj=> ?_⟩
  ·rw[gr]
   split
   ·exact h.pre.lo _ (by lia)
   ·exact h.pre.lo _ hi
  ·rw[gr,if_neg (by lia)]; exact h.pre.hi i h1 h2
  ·rw[gr,gr]
   have hq1:=h.q1
   by_cases q1:n - (q+1)≤j
   ·rw[if_pos (show n - (q+1)≤j∧j<n from ⟨q1,hj⟩)]
    by_cases q2:n - (q+1)≤i
    ·rw[if_pos (show n - (q+1)≤i∧i<n from ⟨q2,by lia⟩)]
     have e:=h.c (n - (q+1)+n - 1 - j) (n - (q+1)+n - 1 - i) (by lia) (by lia) (by lia)
     exact .inr e
    ·rw[if_neg (by lia)]
     exact .inl (h.b i _ (by lia) (by lia) (by lia))
   ·rw[if_neg (by lia),if_neg (by lia)]
    exact h.a i j hij (by lia)
 ·rw[if_neg hq]
  have e:q=0:=by lia
  subst e
  refine ⟨h.pre,fun i j hij hj=> ?_⟩
  have hq1:=h.q1
  by_cases q1:j<n - (0+1)
  ·exact h.a i j hij q1
  ·exact .inl (h.b i j (by lia) (by lia) hj)
theorem qhY: ∀(f:Nat) (p:Array Nat) (n q:Nat),n+f≤N→qpJ N k p n q→
  qe6 N (qdx k) (kas_desc f p n q) fun r=>n≤r.2.1∧r.2.1≤n+f∧qpJ N k r.1 r.2.1 r.2.2
 | 0,p,n,q,hf,h=>⟨Nat.le_refl _,Nat.le_refl _,h⟩
 | f+1,p,n,q,hf,h=>by
  have hq1:=h.q1
  have lt: ∀{i},i<N→g p i<N:=fun hi=>h.pre.lt (by lia) hi
  refine ⟨lt (by lia),lt (by lia),?_⟩
  have en:=h.pre.hi n (Nat.le_refl _) (by lia)
  show qe6 N (qdx k) (if qdx k (g p n) (g p (n - 1))=true then (if q>0 then kas_desc f (kas_rev p (n - (q+1)) n) (n+1) 0 else kas_desc f p (n+1) 0)
   else .ask (g p (n - 1)) (g p n) fun d=>if d=true then .ret (p,n,q) else kas_desc f p (n+1) (q+1)) _
  have kle: ∀i,i<n→k (g p (n - 1))≤k (g p i):=fun i hi=>by
   by_cases q1:i<n - (q+1)
   ·exact Int.le_of_lt (h.b i (n - 1) q1 (by lia) (by lia))
   ·by_cases q2:i=n - 1
    ·rw[q2]; exact Int.le_refl _
    ·exact Int.le_of_eq (h.c i (n - 1) (by lia) (by lia) (by lia)).1.symm
  by_cases hc:k (g p n)<k (g p (n - 1))
  ·rw[if_pos (by simpa [qdx] using hc)]
   have key:qpJ N k (fin p n q) (n+1) 0:=by
    obtain ⟨fp,fd⟩:=h.fin (by lia)
    have e2:=fp.hi n (Nat.le_refl _) (by lia)
    refine ⟨fp.more (by lia),by lia,fun i j hij hj=>fd i j hij (by lia),fun i j hi h1 h2=> ?_,fun i j h1 h2 h3=>by lia⟩
    have ej:j=n:=by lia
    subst ej
    rw[e2]
    rw[en] at hc
    refine Int.lt_of_lt_of_le hc ?_
    have: ∃i',i'<j∧g (fin p j q) i=g p i':=by
     unfold St.fin
     by_cases hq:q>0
     ·rw[if_pos hq,qm6 (by rw[h.pre.sz]; lia)]
      split
      ·exact ⟨_,by lia,rfl⟩
      ·exact ⟨i,by lia,rfl⟩
     ·rw[if_neg hq]
      exact ⟨i,by lia,rfl⟩
    obtain ⟨i',hi',e3⟩:=this
    rw[e3]
    exact kle i' hi'
   have e:(if q>0 then kas_desc f (kas_rev p (n - (q+1)) n) (n+1) 0 else kas_desc f p (n+1) 0)=kas_desc f (fin p n q) (n+1) 0:=by
    unfold St.fin
    split<;>rfl
   rw[e]
   refine qbN (fun r hr=>⟨by lia,by lia,hr.2.2⟩) (qhY f (fin p n q) (n+1) 0 (by lia) key)
  ·rw[if_neg (by simpa [qdx] using hc)]
   refine ⟨lt (by lia),lt (by lia),?_⟩
   show qe6 N (qdx k) (if qdx k (g p (n - 1)) (g p n)=true then .ret (p,n,q) else kas_desc f p (n+1) (q+1)) _
   by_cases hd:k (g p (n - 1))<k (g p n)
   ·rw[if_pos (by simpa [qdx] using hd)]
    exact ⟨Nat.le_refl _,Nat.le_add_right _ _,h⟩
   ·rw[if_neg (by simpa [qdx] using hd)]
    have ek:k (g p n)=k (g p (n - 1)):=by lia
    have key:qpJ N k p (n+1) (q+1):=by
     refine ⟨h.pre.more (by lia),by lia,fun i j hij hj=>h.a i j hij (by lia),fun i j hi h1 h2=> ?_,fun i j h1 h2 h3=> ?_⟩
     ·by_cases e:j=n
      ·subst e
       rw[ek]
       exact h.b i (j - 1) (by lia) (by lia) (by lia)
      ·exact h.b i j (by lia) (by lia) (by lia)
     ·by_cases e:j=n
      ·subst e
       refine ⟨?_,?_⟩
       ·rw[ek]
        by_cases e2:i=j - 1
        ·rw[e2]
        ·exact (h.c i (j - 1) (by lia) (by lia) (by lia)).1
       ·rw[en]; exact h.pre.lo i h2
      ·exact h.c i j (by lia) h2 (by lia)
    exact qbN (fun r hr=>⟨by lia,by lia,hr.2.2⟩) (qhY f p (n+1) (q+1) (by lia) key)
def Out (N:Nat) (k:Nat→Int) (r:Nat×Array Nat):Prop:=1≤r.1∧r.1≤N∧Pre N r.1 r.2∧Srt k r.2 r.1
theorem qou {p:Array Nat} {n:Nat} (h1:1≤n) (hn:n≤N) (hp:Pre N n p) (hd:Dsc k p n):qe6 N (qdx k) (kas_tail3 n N p) (Out N k):=by
 have gr:=qm6 (p:=p) (i:=0) (j:=n) (by rw[hp.sz]; exact hn)
 refine qcH (qbN (fun m h=> ?_) (ql4 (p:=kas_rev p 0 n) (N - n) n h1 (by lia) ⟨by rw[qfD]; exact hp.sz,fun i hi=> ?_,fun i h2 h3=> ?_⟩ fun i j hij hj=> ?_))
 ·exact ⟨by lia,by lia,h.2.2.1,h.2.2.2.1⟩
 ·rw[gr,if_pos ⟨Nat.zero_le _,hi⟩]; exact hp.lo _ (by lia)
 ·rw[gr,if_neg (by lia)]; exact hp.hi i h2 h3
 ·rw[gr,gr,if_pos ⟨Nat.zero_le _,by lia⟩,if_pos ⟨Nat.zero_le _,hj⟩]
  exact hd _ _ (by lia) (by lia)
theorem qeU {p:Array Nat} {n:Nat} (hn:n+1≤N) (h:qpJ N k p (n+1) 0):qe6 N (qdx k) (kas_descPart n N p) (Out N k):=by
 refine qcH (qbN (fun r hr=> ?_) (qhY (N - (n+1)) p (n+1) 0 (by lia) h))
 obtain ⟨h1,h2,h3⟩:=hr
 obtain ⟨f1,f2⟩:=h3.fin (by lia)
 have e:(if r.2.2>0 then kas_tail3 r.2.1 N (kas_rev r.1 (r.2.1 - (r.2.2+1)) r.2.1) else kas_tail3 r.2.1 N r.1)=kas_tail3 r.2.1 N (fin r.1 r.2.1 r.2.2):=by
  unfold St.fin
  split<;>rfl
 show qe6 N (qdx k) (if r.2.2>0 then kas_tail3 r.2.1 N (kas_rev r.1 (r.2.1 - (r.2.2+1)) r.2.1) else kas_tail3 r.2.1 N r.1) _
 rw[e]
 exact qou (by lia) (by lia) f1 f2
theorem qns {p:Array Nat} (hN:1≤N) (hp:Pre N 1 p):qe6 N (qdx k) (kas_count N p) (Out N k):=by
 refine qcH (qbN (fun n h=> ?_) (ql4 (p:=p) (N - 1) 1 (Nat.le_refl _) (by lia) hp fun i j h1 h2=>by lia))
 obtain ⟨h1,h2,h3,h4,h5⟩:=h
 by_cases e:n=N
 ·rw[if_pos (by simpa using e)]
  exact ⟨h1,by lia,h3,h4⟩
 ·rw[if_neg (by simpa using e)]
  have hlt:k (g p n)<k (g p (n - 1)):=h5.resolve_left (by lia)
  by_cases hg:n>1
  ·rw[if_pos hg]
   refine ⟨h3.lt (by lia) (by lia),h3.lt (by lia) (by lia),?_⟩
   show qe6 N (qdx k) (if qdx k (g p 0) (g p (n - 1))=true then .ret (n,p) else kas_descPart n N (kas_rev p 0 n)) _
   by_cases hc:k (g p 0)<k (g p (n - 1))
   ·rw[if_pos (by simpa [qdx] using hc)]
    exact ⟨h1,by lia,h3,h4⟩
   ·rw[if_neg (by simpa [qdx] using hc)]
    have gr:=qm6 (p:=p) (i:=0) (j:=n) (by rw[h3.sz]; lia)
    have like: ∀i,i<n→k (g p i)=k (g p (n - 1)):=fun i hi=>by
     have a1:k (g p 0)≤k (g p i):=by
      by_cases q:i=0
      ·rw[q]; exact Int.le_refl _
      ·exact (h4 0 i (by lia) hi).le
     have a2:k (g p i)≤k (g p (n - 1)):=by
      by_cases q:i=n - 1
      ·rw[q]; exact Int.le_refl _
      ·exact (h4 i (n - 1) (by lia) (by lia)).le
     lia
    refine qeU (by lia) ⟨Pre.more ⟨by rw[qfD]; exact h3.sz,fun i hi=> ?_,fun i q1 q2=> ?_⟩ (by lia),by lia,fun i j hij hj=> ?_,fun i j hi q1 q2=> ?_,fun i j q1 q2 q3=>by lia⟩
    ·rw[gr,if_pos ⟨Nat.zero_le _,hi⟩]; exact h3.lo _ (by lia)
    ·rw[gr,if_neg (by lia)]; exact h3.hi i q1 q2
    ·rw[gr,gr,if_pos ⟨Nat.zero_le _,by lia⟩,if_pos ⟨Nat.zero_le _,by lia⟩]
     exact h4 _ _ (by lia) (by lia)
    ·have ej:j=n:=by lia
     subst ej
     have hi':i<j:=by simpa using hi
     have e1:g (kas_rev p 0 j) j=g p j:=by rw[gr,if_neg (by lia)]
     have e2:g (kas_rev p 0 j) i=g p (0+j - 1 - i):=by rw[gr,if_pos ⟨Nat.zero_le _,hi'⟩]
     rw[e1,e2,like (0+j - 1 - i) (by lia)]
     exact hlt
  ·rw[if_neg hg]
   have e1:n=1:=by lia
   subst e1
   refine qeU (by lia) ⟨h3.more (by lia),by lia,fun i j hij hj=>by lia,fun i j hi q1 q2=> ?_,fun i j q1 q2 q3=>by lia⟩
   have ei:i=0:=by lia
   have ej:j=1:=by lia
   subst ei ej
   exact hlt
theorem qfG {p:Array Nat} {n:Nat} (hn:n<N) (hp:Pre N n p) (hs:Srt k p n): ∀(f l r:Nat),l≤r→r≤n→r - l≤f→(∀i,i<l→k (g p i)≤k (g p n))→(∀i,r≤i→i<n→k (g p n)<k (g p i))→
  qe6 N (qdx k) (kas_place p n f l r) fun m=>m≤n∧(∀i,i<m→k (g p i)≤k (g p n))∧∀i,m≤i→i<n→k (g p n)<k (g p i)
 | 0,l,r,h1,h2,h3,hl,hr=>⟨by lia,hl,fun i q1 q2=>hr i (by lia) q2⟩
 | f+1,l,r,h1,h2,h3,hl,hr=>by
  unfold kas_place
  by_cases hge:l≥r
  ·rw[if_pos hge]
   exact ⟨by lia,hl,fun i q1 q2=>hr i (by lia) q2⟩
  ·rw[if_neg hge]
   refine ⟨hp.lt (by lia) hn,hp.lt (by lia) (by lia),?_⟩
   show qe6 N (qdx k) (if qdx k (g p n) (g p ((l+r) / 2))=true then kas_place p n f l ((l+r) / 2) else kas_place p n f ((l+r) / 2+1) r) _
   have srt: ∀i j,i≤j→j<n→k (g p i)≤k (g p j):=fun i j hij hj=>by
    by_cases q:i=j
    ·rw[q]; exact Int.le_refl _
    ·exact (hs i j (by lia) hj).le
   by_cases hc:k (g p n)<k (g p ((l+r) / 2))
   ·rw[if_pos (by simpa [qdx] using hc)]
    exact qfG hn hp hs f l _ (by lia) (by lia) (by lia) hl fun i q1 q2=>Int.lt_of_lt_of_le hc (srt _ _ q1 q2)
   ·rw[if_neg (by simpa [qdx] using hc)]
    refine qfG hn hp hs f _ r (by lia) (by lia) (by lia) (fun i q1=> ?_) hr
    have:=srt i ((l+r) / 2) (by lia) (by lia)
    lia
theorem qon: ∀(f:Nat) (p:Array Nat) (n:Nat),n+f=N→Pre N n p→Srt k p n→qe6 N (qdx k) (kas_bin f p n) fun p'=>Pre N N p'∧Srt k p' N
 | 0,p,n,hf,hp,hs=>by
  have e:n=N:=by lia
  subst e
  exact ⟨hp,hs⟩
 | f+1,p,n,hf,hp,hs=>by
  refine qcH (qbN (fun l h=> ?_) (qfG (by lia) hp hs n 0 n (by lia) (Nat.le_refl _) (by lia) (fun i q=>by lia) fun i q1 q2=>by lia))
  obtain ⟨h1,h2,h3⟩:=h
  have gb:=qsY (p:=p) (k:=n) (l:=l) (by rw[hp.sz]; lia) h1
  have en:=hp.hi n (Nat.le_refl _) (by lia)
  refine qon f _ (n+1) (by lia) ⟨by rw[bubble_size]; exact hp.sz,fun i hi=> ?_,fun i q1 q2=> ?_⟩ fun i j hij hj=> ?_
  ·rw[gb]
   split
   ·rw[en]; lia
   ·split
    ·exact Nat.lt_succ_of_lt (hp.lo _ (by lia))
    ·exact Nat.lt_succ_of_lt (hp.lo _ (by lia))
  ·rw[gb,if_neg (by lia),if_neg (by lia)]; exact hp.hi i (by lia) q2
  ·rw[gb,gb]
   by_cases c1:j=l
   ·rw[if_pos c1,if_neg (by lia),if_neg (by lia)]
    have a1:=h2 i (by lia)
    have a2:=hp.lo i (by lia)
    unfold L
    rw[en] at a1⊢
    lia
   ·rw[if_neg c1]
    by_cases c2:l<j∧j≤n
    ·rw[if_pos c2]
     by_cases c3:i=l
     ·rw[if_pos c3]
      exact .inl (h3 _ (by lia) (by lia))
     ·rw[if_neg c3]
      by_cases c4:l<i∧i≤n
      ·rw[if_pos c4]; exact hs _ _ (by lia) (by lia)
      ·rw[if_neg c4]; exact hs _ _ (by lia) (by lia)
    ·rw[if_neg c2,if_neg (by lia),if_neg (by lia)]
     exact hs _ _ hij (by lia)
theorem qkd (hN:1≤N):qe6 N (qdx k) (kas_sort N) fun p=>Pre N N p∧Srt k p N:=by
 have gr: ∀i,i<N→g (List.toArray (List.range N)) i=i:=fun i hi=>by
  unfold g
  rw[Array.getD_eq_getD_getElem?]
  simp[hi]
 refine qcH (qbN (fun r h=> ?_) (qns hN ⟨by simp,fun i hi=> ?_,fun i h1 h2=>gr i h2⟩))
 ·obtain ⟨h1,h2,h3,h4⟩:=h
  by_cases c:r.1<N
  ·rw[if_pos c,show max r.1 1=r.1 by lia]
   exact qon _ _ _ (by lia) h3 h4
  ·rw[if_neg c]
   have e:r.1=N:=by lia
   rw[e] at h3 h4
   exact ⟨h3,h4⟩
 ·rw[gr i (by lia)]; exact hi
end
end St
end
section
namespace St
open PySem PySem.W PySem.Calls PyProof.Rows
theorem qhP {α:Type} {N:Nat} {ask:Nat→Nat→Bool} {cmp:Nat→Nat→(Bool→Shared→Prop)→Shared→Prop} {Q:α→Shared→Prop} {Q':α→Prop} {s:Shared}
  (hc: ∀i j (C:Bool→Shared→Prop),i<N→j<N→C (ask i j) s→cmp i j C s) (hq: ∀a,Q' a→Q a s): ∀{t:KasT α},qe6 N ask t Q'→t.kasWp cmp Q s
 | .ret a,h=>hq a h
 | .ask i j k,⟨h1,h2,h⟩=>hc i j _ h1 h2 (qhP hc hq h)
def Order (kz:List Int) (n:Nat) (p:Array Nat):Prop:=Pre n n p∧Srt (fun i=>kz.getD i 0) p n
theorem qgK {vs:List Value} {ns:List Int} (h:IntsAre vs ns): ∀{i:Nat},i<ns.length→∃t,vs.getD i Value.none= .int (ns.getD i 0) t:=by
 induction h with
 | nil=>intro i hi; cases hi
 | cons n t h ih=>
  intro i hi
  cases i with
  | zero=>exact ⟨t,rfl⟩
  | succ i=>simpa using ih (i:=i) (by simpa using hi)
abbrev Kp (h h':Heap):Prop:= ∀b o,h.get? b=some o→h'.get? b=some o
section
variable {prog:Program} {w:World} {A:Around} {E:Value→Shared→Prop} {s:Shared} {D kS:Addr} {vs:List Value} {kz:List Int} {P:PySem.Fin→Shared→Prop} {h0:Heap}
theorem qnA {st:SortSt} {keys:Array Value} {e e1:Nat} {p:Array Nat} (hk:s.heap.get? kS=some (seqObj "list" keys e)) (hD:s.heap.get? D=some (seqObj "list" #[] e1)) (hkD:kS≠D) (h64:vs.length<64) (hks:keys.size≤64)
  (kp:Kp h0 s.heap) (hD0:h0.get? D=none) (hk0:h0.get? kS=none) (ho:Order kz vs.length p) (har:(arrOf st).map (·.2)=List.toArray (p.toList.map fun i=>vs.getD i Value.none)) (hfl:failedOf st=none)
  (h: ∀h' tk c,Kp h0 h'→h'.get? D=some (seqObj "list" (List.toArray (p.toList.map fun i=>vs.getD i Value.none)) c)→P (.done (.ret .none)) { s with heap:=h',toks:=tk }):
  wpAny (model prog w) A (ksk_tail D false e1 (.ref kS) st) P E s:=by
 unfold ksk_tail
 have s1:=Heap.SameBut.update s.heap kS (Obj.mapSeq fun _=>(#[]:Array Value))
 have hD1:(s.heap.update kS (Obj.mapSeq fun _=>(#[]:Array Value))).get? D=some (seqObj "list" #[] e1):=(s1.2 D hkD.symm).trans hD
 have hsz:(p.toList.map fun i=>vs.getD i Value.none).length=vs.length:=by rw[List.length_map,Array.length_toList,ho.1.sz]
 refine wpAny_bind (listUpdate_at hk rfl ?_ (Nat.le_trans hks (by rw[sizeLine_eq]; decide)) (Nat.zero_le _))
 refine wpAny_bind (wpAny_letGo ?_)
 refine wpAny_bind (seqEpoch_at hD1 rfl ?_)
 rw[har]
 refine wpAny_bind (listUpdate_at hD1 rfl ?_ (Nat.zero_le _) (by show (List.toArray _).size≤_; rw[List.size_toArray,hsz,sizeLine_eq]; lia))
 rw[hfl]
 simp only[bne_self_eq_false,Bool.false_eq_true,if_false]
 have hfin: ∃c,((s.heap.update kS (Obj.mapSeq fun _=>(#[]:Array Value))).update D (Obj.mapSeq fun _=>List.toArray (p.toList.map fun i=>vs.getD i Value.none))).get? D=some (seqObj "list" (List.toArray (p.toList.map fun i=>vs.getD i Value.none)) c):=⟨_,get?_update_seq hD1 fun _=>List.toArray (p.toList.map fun i=>vs.getD i Value.none)⟩
 obtain ⟨c,hc⟩:=hfin
 refine wpAny_pure (h _ _ c (fun b o q=> ?_) hc)
 have nk:b≠kS:=fun z=>by rw[z,hk0] at q; cases q
 have nD:b≠D:=fun z=>by rw[z,hD0] at q; cases q
 exact ((Heap.SameBut.update (s.heap.update kS (Obj.mapSeq fun _=>(#[]:Array Value))) D _).2 b nD).trans ((s1.2 b nk).trans (kp b o q))
theorem qs1 {keys:Array Value} {e e1:Nat} (hk:s.heap.get? kS=some (seqObj "list" keys e)) (hD:s.heap.get? D=some (seqObj "list" #[] e1)) (hkD:kS≠D) (hki:IntsAre keys.toList kz) (hlen:kz.length=vs.length) (h64:vs.length<64)
  (kp:Kp h0 s.heap) (hD0:h0.get? D=none) (hk0:h0.get? kS=none)
  (h: ∀h' tk c (p:Array Nat),Kp h0 h'→Order kz vs.length p→h'.get? D=some (seqObj "list" (List.toArray (p.toList.map fun i=>vs.getD i Value.none)) c)→P (.done (.ret .none)) { s with heap:=h',toks:=tk }):
  wpAny (model prog w) A (ksk_end D false vs.toArray e1 (.ref kS) keys) P E s:=by
 have hsz:keys.size=vs.length:=by
  have h1:=hki.length
  rw[Array.length_toList] at h1
  lia
 unfold ksk_end
 simp only[Bool.false_eq_true,if_false]
 by_cases h2:vs.toArray.size<2
 ·rw[if_pos h2,if_pos h2]
  refine wpAny_bind (wpAny_pure ?_)
  rw[StateT.run_pure]
  refine wpAny_bind (wpAny_pure ?_)
  rw[List.size_toArray] at h2
  refine qnA (kz:=kz) (p:=List.toArray (List.range vs.length)) hk hD hkD h64 (by lia) kp hD0 hk0 ⟨⟨by simp,fun i hi=> ?_,fun i q1 q2=>by lia⟩,fun i j hij hj=>by lia⟩ ?_ rfl fun h' tk c k hh=>h h' tk c _ k ⟨⟨by simp,fun i hi=> ?_,fun i q1 q2=>by lia⟩,fun i j hij hj=>by lia⟩ hh
  ·unfold g
   rw[Array.getD_eq_getD_getElem?]
   simp[hi]
  ·show (keys.zip vs.toArray).map (·.2)=_
   apply Array.toList_inj.mp
   rw[Array.toList_map,ksk_zip,List.toList_toArray,List.toList_toArray]
   have:keys.toList.length=vs.length:=by rw[Array.length_toList]; exact hsz
   rw[show (keys.toList.zip vs).map (fun x:Value×Value=>x.2)=vs from List.map_snd_zip (by lia)]
   apply List.ext_getElem
   ·simp
   ·intro i h3 h4
    simp[List.getElem?_eq_getElem h3]
  ·unfold g
   rw[Array.getD_eq_getD_getElem?]
   simp[hi]
 ·rw[if_neg h2,if_neg h2]
  rw[List.size_toArray] at h2
  rw[ksk_kind hki (by rw[hsz]; lia)]
  refine wpAny_bind (wpAny_pure ?_)
  have hk2:(List.toArray keys.toList)=keys:=by simp
  have run:=kat_run (prog:=prog) (w:=w) (A:=A) (E:=E) (s:=s) (κ:=oneType') (ks:=keys.toList) (vs:=vs) (Q:=fun st s'=>s'=s∧∃p,Order kz vs.length p∧(arrOf st).map (·.2)=List.toArray (p.toList.map fun i=>vs.getD i Value.none)∧failedOf st=none)
   (G:=fun p s'=>s'=s∧Order kz vs.length p) (by rw[Array.length_toList]; exact hsz) (by lia) h64 (fun p st' s' a1 a2 a3 a4=>⟨a4.1,p,a4.2,kat_snds (by rw[Array.length_toList]; exact hsz) a2,a3⟩)
   (qhP (ask:=qdx fun i=>kz.getD i 0) (N:=vs.length) (fun i j C hi hj hc=>by
    obtain ⟨t,e1⟩:=qgK hki (i:=i) (by lia)
    obtain ⟨u,e2⟩:=qgK hki (i:=j) (by lia)
    show wpAny _ _ (keyLt' oneType' _ _) _ _ _
    rw[e1,e2]
    exact kat_lt_int hc) (fun p hp=>⟨rfl,hp⟩) (qkd (by lia)))
  rw[hk2] at run
  refine wpAny_bind (wpAny_mono run (fun r s' hr=> ?_) fun _ _ x=>x)
  obtain ⟨rfl,p,ho,har,hf⟩:=hr
  exact qnA (p:=p) hk hD hkD h64 (by lia) kp hD0 hk0 ho har hf fun h' tk c k hh=>h h' tk c p k ho hh
theorem qqp {f:Value} {e1:Nat} (hk:s.heap.get? kS=some (seqObj "list" #[] 0)) (hD:s.heap.get? D=some (seqObj "list" #[] e1)) (hkD:kS≠D) (hlen:kz.length=vs.length) (h64:vs.length<64)
  (kp:Kp h0 s.heap) (hD0:h0.get? D=none) (hk0:h0.get? kS=none)
  (qib: ∀(i:Nat) (v:Value) (k:Int),vs[i]? =some v→kz[i]? =some k→∀s':Shared,Kp h0 s'.heap→s'.gens=s.gens→s'.os=s.os→
   wpAny (model prog w) A (call f [v]) (fun r s''=> ∃h' tk t,r= .int k t∧s''={ s' with heap:=h',toks:=tk }∧Kp s'.heap h') (fun _ _=>False) s')
  (h: ∀h' tk c (p:Array Nat),Kp h0 h'→Order kz vs.length p→h'.get? D=some (seqObj "list" (List.toArray (p.toList.map fun i=>vs.getD i Value.none)) c)→P (.done (.ret .none)) { s with heap:=h',toks:=tk }):
  wpAny (model prog w) A (ksk_rest D f false vs.toArray e1 (.ref kS)) P E s:=by
 unfold ksk_rest
 refine wpAny_bind (wpAny_rule ?_)
 first
  | rw[List.forIn_toArray]
  | (rw[←Array.forIn_toList]; simp only[List.toList_toArray])
 refine wpAny_bind (ksk_fold (fun i s'=> ∃h' tk kA e,s'={ s with heap:=h',toks:=tk }∧Kp h0 h'∧h'.get? kS=some (seqObj "list" kA e)∧h'.get? D=some (seqObj "list" #[] e1)∧IntsAre kA.toList (kz.take i)) vs 0 s
  ⟨s.heap,s.toks, #[],0,rfl,kp,hk,hD,by simpa using IntsAre.nil⟩ ?step ?done)
 case step=>
  rintro j x s' hx ⟨h',tk,kA,e,rfl,kp',hk',hD',hki⟩
  simp only[Nat.zero_add] at hki⊢
  have hj:j<vs.length:=(List.getElem?_eq_some_iff.mp hx).1
  obtain ⟨k,hkj⟩: ∃k,kz[j]? =some k:=⟨_,List.getElem?_eq_getElem (by lia)⟩
  have hz:kA.size≤vs.length:=by
   have h1:=hki.length
   rw[Array.length_toList,List.length_take] at h1
   lia
  refine wpAny_bind (wpAny_attempt (wpAny_mono (qib j x k hx hkj { s with heap:=h',toks:=tk } kp' rfl rfl) (fun v s'' he=> ?_) fun _ _ hF=>hF.elim))
  obtain ⟨h2,tk2,t2,rfl,rfl,kp2⟩:=he
  have hk2:=kp2 _ _ hk'
  have hD2:=kp2 _ _ hD'
  have s1:=Heap.SameBut.update h2 kS (Obj.mapSeq (·.push (.int k t2)))
  have ek:kz.take (j+1)=kz.take j++[k]:=by rw[List.take_add_one,hkj]; simp
  have ea:(kA.push (Value.int k t2)).toList=kA.toList++[Value.int k t2]:=by simp
  refine wpAny_bind (listUpdate_at hk2 rfl ?_ (by rw[sizeLine_eq]; lia) (Nat.le_trans (Nat.le_of_eq (Array.size_push ..)) (by rw[sizeLine_eq]; lia)))
  refine wpAny_pure ⟨rfl,_,_,kA.push (.int k t2),_,rfl,fun b o q=> ?_,get?_update_seq hk2 (·.push (.int k t2)),(s1.2 D hkD.symm).trans hD2,by rw[ea,ek]; exact ksk_snoc hki⟩
  have nk:b≠kS:=fun z=>by rw[z,hk0] at q; cases q
  exact (s1.2 b nk).trans (kp2 _ _ (kp' b o q))
 case done=>
  rintro s' ⟨h',tk,kA,e,rfl,kp',hk',hD',hki⟩
  have hki':IntsAre kA.toList kz:=by
   have e3:kz.take (0+vs.length)=kz:=List.take_of_length_le (by lia)
   rw[e3] at hki
   exact hki
  refine wpAny_bind (listItems_at hk' rfl ?_)
  exact qs1 hk' hD' hkD hki' hlen h64 kp' hD0 hk0 fun h3 tk3 c p a1 a2 a3=>h h3 tk3 c p a1 a2 a3
end
section
variable {prog:Program} {w:World} {A:Around} {E:Value→Shared→Prop} {s:Shared} {l:Addr} {vs:List Value} {kz:List Int} {Q:Value→Shared→Prop}
theorem get_none {h:Heap} {a:Addr} (x:h.objs.size≤a):h.get? a=none:=Heap.get?_none_of_le x
theorem sorted_s {f:Value} {q:Addr} (hf:f= .ref q) (hl:s.heap.IsList l vs.toArray) (hlen:kz.length=vs.length) (h64:vs.length<64)
  (qib: ∀(i:Nat) (v:Value) (k:Int),vs[i]? =some v→kz[i]? =some k→∀s':Shared,Kp s.heap s'.heap→s'.gens=s.gens→s'.os=s.os→
   wpAny (model prog w) A.in1.in1 (call f [v]) (fun r s''=> ∃h' tk t,r= .int k t∧s''={ s' with heap:=h',toks:=tk }∧Kp s'.heap h') (fun _ _=>False) s')
  (h: ∀D h' tk c (p:Array Nat),s.heap.objs.size≤D→Kp s.heap h'→Order kz vs.length p→h'.get? D=some (seqObj "list" (List.toArray (p.toList.map fun i=>vs.getD i Value.none)) c)→Q (.ref D) { s with heap:=h',toks:=tk }):
  wpAny (model prog w) A (call (.builtin "sorted") [.ref l] [(Str.ofString "key",f)]) Q E s:=by
 subst hf
 refine call_function_entry_kw kind_sorted plain_sorted entry_sorted (ksk_s1 _ _) ?_
 unfold Builtin.«sorted»
 refine wpAny_bind (m:=checkCount "sorted" 1 1 _) (wpAny_pure ?_)
 refine wpAny_bind (collect_list hl ?_ (by rw[sizeLine_eq]; lia))
 refine wpAny_bind (wpAny_newList ?_ (by rw[sizeLine_eq]; lia))
 have hsz:((s.heap.push (seqObj "list" #[] 0)).update s.heap.objs.size (Obj.mapSeq (· ++vs.toArray))).objs.size=s.heap.objs.size+1:=by
  rw[Heap.size_update,size_push']
 generalize hH1:(s.heap.push (seqObj "list" #[] 0)).update s.heap.objs.size (Obj.mapSeq (· ++vs.toArray))=H1 at hsz⊢
 have kp1:Kp s.heap H1:=fun b o q=>by
  have hlt:b<s.heap.objs.size:=Heap.lt_size q
  rw[←hH1,Heap.get?_update_ne _ _ _ _ (Nat.ne_of_lt hlt),Heap.get?_push_ne _ _ _ (Nat.ne_of_lt hlt)]
  exact q
 have kp2:Kp s.heap (H1.push (seqObj "list" vs.toArray 0)):=fun b o q=>Heap.get?_push_of_some _ (kp1 b o q)
 have hoD:(H1.push (seqObj "list" vs.toArray 0)).get? H1.objs.size=some (seqObj "list" vs.toArray 0):=Heap.get?_push_size _ rfl
 refine wpAny_bind (wpAny_holding (wpAny_call_entry_kw slot_list_sort ⟨_,hoD,rfl⟩ entry_list_sort ?body (ksk_l1 _ _)))
 case body=>
  show wpAny (model prog w) A.in1.in1 (Builtin.«list.sort» ⟨[.ref H1.objs.size],[(Str.ofString "key",.ref q)]⟩) _ _ _
  rw[ksk_t1]
  unfold ksk_tree
  have s1:=Heap.SameBut.update (H1.push (seqObj "list" vs.toArray 0)) H1.objs.size (Obj.mapSeq fun _=>(#[]:Array Value))
  obtain ⟨e1,ho1⟩: ∃e1,((H1.push (seqObj "list" vs.toArray 0)).update H1.objs.size (Obj.mapSeq fun _=>(#[]:Array Value))).get? H1.objs.size=some (seqObj "list" #[] e1):=⟨_,get?_update_seq hoD fun _=> #[]⟩
  refine wpAny_bind (listItems_at hoD rfl ?_)
  refine wpAny_bind (listUpdate_at hoD rfl ?_ (by rw[List.size_toArray,sizeLine_eq]; lia) (Nat.zero_le _))
  refine wpAny_bind (seqEpoch_at ho1 rfl ?_)
  generalize hH2:(H1.push (seqObj "list" vs.toArray 0)).update H1.objs.size (Obj.mapSeq fun _=>(#[]:Array Value))=H2 at ho1 s1⊢
  have sz2:H2.objs.size=H1.objs.size+1:=by rw[←hH2,Heap.size_update,size_push']
  have kp3:Kp s.heap H2:=fun b o z=>(s1.2 b (by rw[hsz]; exact Nat.ne_of_lt (Nat.lt_succ_of_lt (Heap.lt_size z)))).trans (kp2 b o z)
  refine wpAny_bind (wpAny_newTuple ?_ (by show vs.length≤_; rw[sizeLine_eq]; lia))
  refine wpAny_bind (wpAny_newList ?_ (Nat.zero_le _))
  refine wpAny_holding ?_
  have sz3:(H2.push (seqObj "tuple" vs.toArray 0)).objs.size=H2.objs.size+1:=size_push' _ _
  refine qqp (h0:=s.heap) (kz:=kz) (kS:=(H2.push (seqObj "tuple" vs.toArray 0)).objs.size) (s:={ s with heap:=(H2.push (seqObj "tuple" vs.toArray 0)).push (seqObj "list" #[] 0) }) (Heap.get?_push_size _ rfl)
   (Heap.get?_push_of_some _ (Heap.get?_push_of_some _ ho1)) (by rw[sz3,sz2]; exact Nat.ne_of_gt (Nat.lt_succ_of_lt (Nat.lt_succ_self _))) hlen h64 (fun b o z=>Heap.get?_push_of_some _ (Heap.get?_push_of_some _ (kp3 b o z)))
   (get_none (by rw[hsz]; exact Nat.le_succ _)) (get_none (by rw[sz3,sz2,hsz]; exact Nat.le_succ_of_le (Nat.le_succ_of_le (Nat.le_succ _)))) qib fun h' tk c p a1 a2 a3=>⟨_,rfl,?_⟩
  exact wpAny_pure ⟨_,rfl,h _ h' tk c p (by rw[hsz]; exact Nat.le_succ _) a1 a2 a3⟩
end
end St
end
section
namespace L2
open PySem PySem.Spec PyProof.Rows
theorem qmZ {prog:Program} {w:World} {A:Around} {E:Value→Shared→Prop} {s:Shared} {f t c':Addr} {qual x:Str} {params:Arguments} {scope:Scope} {pm ctv:Value} {p1 p2 p3:Pos} {i j:Nat} {k:Int} {tk:Tok} {its:List Value}
  (hf:s.heap.get? f=some (PySem.W.kla_obj "<lambda>" qual params (.Subscript (.Name x p1) (.Constant (.int (i:Int)) j p2) p3) scope [] pm c' ctv)) (hcd:s.heap.CodeRec (.ref c') qual) (hlim:s.heap.NoLimit) (hroom:A.depth<recursionLimit)
  (hk:scope.kind= .function) (hco:scope.isCoroutine=false) (hgen:scope.isGenerator=false) (hx:scope.names.lookup x=some .local) (hcell: ∀y∈scope.names,y.2≠.cell) (hdb:(x==("__debug__" :Str))=false)
  (hb: ∀v,bindArgs (PySem.W.kla_fn "<lambda>" qual params (.Subscript (.Name x p1) (.Constant (.int (i:Int)) j p2) p3) scope [] pm (.ref c') ctv) ⟨[v],[]⟩=pure [(x,v)])
  (ht:IsTup s.heap t its.toArray) (hi:its[i]? =some (.int k tk)) (hz:its.length≤sizeLine):
  wpAny (model prog w) A (call (.ref f) [.ref t]) (fun r s''=> ∃h' tk' t',r= .int k t'∧s''={ s with heap:=h',toks:=tk' }∧St.Kp s.heap h') E s:=by
 refine wpAny_call (PySem.W.kla_callFunE hroom hf rfl hco hgen rfl hcd ?_)
 rw[hb]
 refine wpAny_pure (wpAny_newFunctionEnv hcell (by intro y hy; obtain rfl:y=(x,Value.ref t):=List.mem_singleton.mp hy; exact hx) (fun h1 hn1 hs1=> ?_) hk)
 have kp:St.Kp s.heap h1:=fun b o e=>(hs1.2 b (Nat.ne_of_lt (Heap.lt_size e))).trans (Heap.get?_push_of_some _ e)
 refine ⟨hlim.keeps kp,PySem.W.kla_codeExpr ?_⟩
 refine Subscript_ (wpAny_Name (wpAny_loadName_local (v:=.ref t) hk hx hn1 (by simp[List.lookup_cons]) ?_) hdb)
 refine wpAny_Constant_int ?_
 have ht1:IsTup h1 t its.toArray:=by
  obtain ⟨o,e,r⟩:=ht
  exact ⟨o,kp _ _ e,r⟩
 have hl:i<its.length:=(List.getElem?_eq_some_iff.mp hi).1
 have hn:=qek
 exact subscriptTail_builtinR (x:=.int k tk) ht1.typeIs slot_tuple_getitem.lookup
  (getItem_tuple (j:=i) (Q:=fun r s'=>r=Value.int k tk∧_) ht1 (by lia) (by lia) (by rw[List.size_toArray]; exact seqIndex_of (by lia) (by lia)) (by simpa using hi) ⟨rfl,_,_,_,rfl,rfl,kp⟩) (by with_unfolding_all rfl)
theorem Inv.grow {X:Cx} {pins:List (Addr×Obj)} {σ:St} {H:Hp} {s:Shared} {P c':Addr} {ps more:Array Value} {h':Heap} {φ:Heap→Prop} {t':Nat} (I:Inv X pins σ H s) (hP:H P=some (.tbl ps)) (hx:Heap.ExtBut P s.heap h')
  (hP':h'.get? P=some (PySem.W.tabObj (ps++more))) (hc:s.heap.objs.size≤c') (hφ:qbT X.prog X.w (upd (upd H P (.tbl (ps++more))) c' (.ext φ)) h' c' (.ext φ)):
  Inv X pins σ (upd (upd H P (.tbl (ps++more))) c' (.ext φ)) { s with heap:=h',toks:=t' }:=by
 have nc: ∀b o,s.heap.get? b=some o→b≠c':=fun b o e=>Nat.ne_of_lt (Nat.lt_of_lt_of_le (Heap.lt_size e) hc)
 have nct: ∀b u,H b=some u→b≠c':=fun b u e z=>by rw[z,I.hok.fresh hc] at e; cases e
 have nP: ∀b,H b=none→b≠P:=fun b e z=>by rw[z,hP] at e; cases e
 have hPl:=(I.hok P _ hP).lt
 have cP:P≠c':=nct P _ hP
 refine I.step (g':=s.gens) (d':=s.drawn) (ch:=[]) (fun _ z=>nomatch z) (fun b o _ _ _ e n=>hx b o (nP b n) e) (fun b o _ _ _ e n=>⟨o.slots,hx b o (nP b n) e⟩) (fun b o _ e n=>by rw[qae (nc b o e),qae (nP b n)]; exact n)
  (fun b o _ e=> ?_) (fun b xs e=> ?_) (fun b o u e=> ?_) (fun b qs e=> ?_) (fun m hm=> ?_) (fun b u e=> ?_) I.bare
 ·by_cases z:b=P
  ·exact ⟨_,by rw[z]; exact hP'⟩
  ·exact ⟨o,hx b o z e⟩
 ·rw[qae (nct b _ e),qae (fun z=>by rw[z,hP] at e; cases e)]; exact e
 ·rw[qae (nct b _ e),qae (fun z=>by rw[z,hP] at e; cases e)]; exact e
 ·by_cases z:b=P
  ·subst z
   rw[hP] at e; cases e
   exact ⟨more,by rw[qae cP,qag]⟩
  ·exact ⟨#[],by rw[qae (nct b _ e),qae z,e]; simp⟩
 ·exact hm.extBut hx (nP _ I.free)
 ·by_cases z:b=c'
  ·subst z
   rw[qag] at e; cases e
   exact hφ
  ·rw[qae z] at e
   by_cases z2:b=P
   ·subst z2
    rw[qag] at e; cases e
    exact hP'
   ·rw[qae z2] at e
    refine (I.hok b u e).stay (fun c v hc2 q=>hx c v ?_ q) (fun c q=> ?_) fun c xs q=> ?_
    ·rcases hc2 with rfl | hc2
     ·exact z2
     ·intro z3; rw[z3,hP] at hc2; cases hc2
    ·rw[qae (nct c _ q),qae (fun z3=>by rw[z3,hP] at q; cases q)]; exact q
    ·rw[qae (nct c _ q),qae (fun z3=>by rw[z3,hP] at q; cases q)]; exact q
def qrj (c:Addr) (qual:Str):HO:=.ext fun h=>h.CodeRec (.ref c) qual
def Tab (P:Addr) (pos:Pos) (qual:Str) (H:Hp):Prop:=
 ∃ps,H P=some (.tbl ps)∧PySem.TriplesOk ps.toList∧(PySem.codeAmong pos ps.toList=none∨∃c,PySem.codeAmong pos ps.toList=some (.ref c)∧H c=some (qrj c qual))
theorem qef {a b:Value} {c:Value} {la lb:Int} {ta tb:Tok} (ha:a= .int la ta) (hb:b= .int lb tb): ∀(l:List Value),PySem.TriplesOk l→PySem.TriplesOk (l++[a,b,c])
 | [],_=>by subst ha hb; exact trivial
 | [_],h=>by cases ‹Value› <;>exact h.elim
 | [x,y],h=>by cases x<;>first | exact h.elim | (cases y<;>exact h.elim)
 | x::y::z::r,h=>by
  cases x<;>first | exact h.elim | skip
  cases y<;>first | exact h.elim | skip
  exact qef ha hb r h
theorem qh3 {c:Addr} {qual:Str} {h h':Heap} (x:h.CodeRec (.ref c) qual) (k: ∀o,h.get? c=some o→h'.get? c=some o):h'.CodeRec (.ref c) qual:=by
 obtain ⟨c2,oc,vs,tq,e,ho,hd,hq⟩:=x
 cases e
 exact ⟨c,oc,vs,tq,rfl,k _ ho,hd,hq⟩
def qed (P:Addr) (H H':Hp):Prop:= ∀b o,H b=some o→b≠P→H' b=some o
theorem qmW {X:Cx} {pins:List (Addr×Obj)} {σ:St} {H:Hp} {s:Shared} {P c:Addr} {params:Arguments} {body:Expr} {scope:Scope} {pos:Pos} {qual:Str} {E:Value→Shared→Prop} {Q:Value→Shared→Prop} (I:Inv X pins σ H s)
  (hcode:X.env.code= .ref c) (C:PySem.W.CodeHd X.base c P) (hb: ∃bm ob,X.mg "__builtins__" =some (.ref bm)∧bm≠builtinsNs∧X.base.get? bm=some ob∧ob.cls= .type "module" ∧ob.dict=some builtinsNs∧ob.data= .plain)
  (hfree: ∀x∈scope.names,x.2≠.free) (hd:defaultsOf params X.env=([],[])) (hq:X.env.qual++("<lambda>" :Str)=qual) (hT:Tab P pos qual H)
  (h: ∀(f c':Addr) (ctv:Value) (H':Hp) (s':Shared),Inv X pins σ H' s'→Tab P pos qual H'→qed P H H'→(∀b,H b≠none→H' b≠none)→(∀b o,s.heap.get? b=some o→b≠P→s'.heap.get? b=some o)→s.heap.objs.size≤f→H' f=none→
   s'.heap.get? f=some (PySem.W.kla_obj "<lambda>" qual params body scope [] ((X.mg "__name__").getD .none) c' ctv)→s'.heap.CodeRec (.ref c') qual→Q (.ref f) s'):
  wpAny (model X.prog X.w) X.A (eval (.Lambda params body scope pos) X.env) Q E s:=by
 obtain ⟨ps,hP,htr,hor⟩:=hT
 have hgP:mainGlobals≠P:=fun z=>by
  obtain ⟨o,es,ep,e,hdd,_⟩:=I.mod.glob
  have:=(I.bs _ _ e).2
  rw[z,hP] at this; cases this
 have hPo:s.heap.get? P=some (PySem.W.tabObj ps):=I.hok P _ hP
 have CS:PySem.W.CodeHd s.heap c P:=C.keeps I.bk
 have hbS:s.heap.BuiltinsAt X.mg P:=by
  obtain ⟨bm,ob,b1,b2,b3,b4,b5,b6⟩:=hb
  refine ⟨bm,ob,b1,b2,fun z=> ?_,fun z=> ?_,I.bk _ _ b3,b4,b5,b6⟩
  ·obtain ⟨o,es,ep,e,hdd,_⟩:=I.mod.glob
   rw[z,e] at b3; cases b3; rw[hdd] at b6; cases b6
  ·have:=(I.bs _ _ b3).2
   rw[z,hP] at this; cases this
 have hg:s.heap.Ns mainGlobals X.mg:=I.mod.glob.keeps I.bk
 refine PySem.W.kla_eval hd ?_
 rw[hq]
 rcases hor with hn | ⟨c2,hs,hH⟩
 ·refine PySem.W.kla_makeFunction (closureFor_none hfree) I.ok.glob hg hcode CS hPo htr hn hgP hbS fun c' ctv h' tk hx hge hlt hrec htb=> ?_
  have I1:Inv X pins σ (upd (upd H P (.tbl (ps++ #[rawInt pos.line,rawInt pos.col,.ref c']))) c' (qrj c' qual)) { s with heap:=h',toks:=tk }:=I.grow hP hx htb hge ⟨hrec,by
    obtain ⟨c2,oc,vs,tq,e,ho,_⟩:=hrec
    cases e
    exact ⟨oc,ho⟩,fun h1 h2 p k=>qh3 p k⟩
  have nP:P≠c':=Nat.ne_of_lt (Nat.lt_of_lt_of_le (I.hok P _ hP).lt hge)
  have sz:s.heap.objs.size≤h'.objs.size:=Nat.le_trans hge (Nat.le_of_lt hlt)
  refine h _ c' ctv _ _ (I1.kept (t':=tk) fun b u e=>Heap.get?_push_of_some _ e) ⟨_,by rw[qae nP,qag],?_,.inr ⟨c',?_,qag⟩⟩ (fun b o e hb=> ?_) (fun b e=> ?_) (fun b o e hb=>Heap.get?_push_of_some _ (hx b o hb e)) sz ?_ (Heap.get?_push_size _ rfl) (hrec.keeps fun b o e=>Heap.get?_push_of_some _ e)
  ·rw[Array.toList_append]
   exact qef rfl rfl _ htr
  ·rw[Array.toList_append]
   exact PySem.codeAmong_snoc _ htr hn
  ·rw[qae (Nat.ne_of_lt (Nat.lt_of_lt_of_le (I.hok b _ e).lt hge)),qae hb]; exact e
  ·by_cases z:b=c'
   ·rw[z,qag]; simp
   ·rw[qae z]
    by_cases z2:b=P
    ·rw[z2,qag]; simp
    ·rw[qae z2]; exact e
  ·exact I1.hok.fresh (Nat.le_refl _)
 ·refine PySem.W.kla_makeFunctionHit (cv:=.ref c2) (closureFor_none hfree) I.ok.glob hg hcode CS hPo htr hs hbS fun ctv h' tk kp sz=> ?_
  have I1:Inv X pins σ H { s with heap:=h',toks:=tk }:=I.kept (t':=tk) kp
  have hrec:h'.CodeRec (.ref c2) qual:=(I1.hok c2 _ hH).1
  exact h _ c2 ctv H _ (I1.kept (t':=tk) fun b u e=>Heap.get?_push_of_some _ e) ⟨ps,hP,htr,.inr ⟨c2,hs,hH⟩⟩ (fun b o e _=>e) (fun b e=>e) (fun b o e _=>Heap.get?_push_of_some _ (kp b o e)) sz (I1.hok.fresh (Nat.le_refl _)) (Heap.get?_push_size _ rfl)
   (hrec.keeps fun b o e=>Heap.get?_push_of_some _ e)
end L2
end
section
namespace L2
open PySem PySem.Spec PyProof.Rows
theorem qed.seqL {K:PySem.W.Frag} {P:Addr} {H H':Hp} {a:Addr} {xs:List V} {ps:Array Value} (e:qed P H H') (hP:H P=some (.tbl ps)) (h:SqL K H a xs):SqL K H' a xs:=by
 rcases h with (h | ⟨o,h⟩) | h
 ·exact .inl (.inl (e _ _ h fun z=>by rw[z,hP] at h; cases h))
 ·exact .inl (.inr ⟨o,e _ _ h fun z=>by rw[z,hP] at h; cases h⟩)
 ·exact .inr h
theorem qed.seqT {K:PySem.W.Frag} {P:Addr} {H H':Hp} {a:Addr} {xs:List V} {ps:Array Value} (e:qed P H H') (hP:H P=some (.tbl ps)) (h:SqT K H a xs):SqT K H' a xs:=by
 rcases h with (h | ⟨o,h⟩) | h
 ·exact .inl (.inl (e _ _ h fun z=>by rw[z,hP] at h; cases h))
 ·exact .inl (.inr ⟨o,e _ _ h fun z=>by rw[z,hP] at h; cases h⟩)
 ·exact .inr h
def qee (K:PySem.W.Frag) (H:Hp) (i:Nat) (xs:List V) (ms:List Int):Prop:=
 ms.length=xs.length∧∀(j:Nat) (x:V) (m:Int),xs[j]? =some x→ms[j]? =some m→∃t ys,x= .ref t∧SqT K H t ys∧ys[i]? =some (.int m)
def qnF (K:PySem.W.Frag) (P:Addr) (lpos:Pos) (qual:Str) (i:Nat) (te:TE):TE:=fun σ H Q=>te σ H fun x H1=> ∃a xs ms,x= .ref a∧SqL K H1 a xs∧xs.length<64∧qee K H1 i xs ms∧Tab P lpos qual H1∧
 ∀(H2:Hp) (D:Addr) (p:Array Nat),qed P H1 H2→Tab P lpos qual H2→H1 D=none→H2 D=none→St.Order ms xs.length p→Q (.ref D) (upd H2 D (.lst (p.toList.map fun j=>xs.getD j .non)))
theorem qge {xs:List V} {us:List Value} (r:Vals xs us) (j:Nat):RelV (xs.getD j .non) (us.getD j .none):=by
 induction r generalizing j with
 | nil=>exact rfl
 | cons a t ih=>
  cases j with
  | zero=>exact a
  | succ j=>simpa using ih j
theorem vals_pick {xs:List V} {us:List Value} (r:Vals xs us): ∀l:List Nat,Vals (l.map fun j=>xs.getD j .non) (l.map fun j=>us.getD j .none)
 | []=>.nil
 | j::l=>.cons (qge r j) (vals_pick r l)
section
variable {X:Cx} {e:Expr} {te:TE} {x:Str} {P c:Addr} {params:Arguments} {scope:Scope} {p1 p2 p3 lpos kpos p pos:Pos} {i j:Nat} {qual:Str}
theorem qis (he:PE X e te) (hg:Gl X "sorted") (hm:X.mg "sorted" =none) (hv:bootBuiltins "sorted" =some (.builtin "sorted"))
  (hcode:X.env.code= .ref c) (C:PySem.W.CodeHd X.base c P) (hb: ∃bm ob,X.mg "__builtins__" =some (.ref bm)∧bm≠builtinsNs∧X.base.get? bm=some ob∧ob.cls= .type "module" ∧ob.dict=some builtinsNs∧ob.data= .plain)
  (hfree: ∀x∈scope.names,x.2≠.free) (hd:defaultsOf params X.env=([],[])) (hq:X.env.qual++("<lambda>" :Str)=qual)
  (hk:scope.kind= .function) (hco:scope.isCoroutine=false) (hgen:scope.isGenerator=false) (hx:scope.names.lookup x=some .local) (hcell: ∀y∈scope.names,y.2≠.cell) (hdb:(x==("__debug__" :Str))=false)
  (hbd: ∀(pm cv ctv v:Value),bindArgs (PySem.W.kla_fn "<lambda>" qual params (.Subscript (.Name x p1) (.Constant (.int (i:Int)) j p2) p3) scope [] pm cv ctv) ⟨[v],[]⟩=pure [(x,v)]) (hr:qcR 4 X.A)
  (hs0:starEach [e] X.env=(false,eval e X.env)::starEach [] X.env:=by rfl) (hs1:backTo pos (starEach [e] X.env)=(false,eval e X.env)::backTo pos (starEach [] X.env):=by rfl) (hs2:(backTo pos (starEach [e] X.env)).any (·.1)=false:=by rfl):
  PE X (.Call (.Name "sorted" p) [e] [⟨some "key",.Lambda params (.Subscript (.Name x p1) (.Constant (.int (i:Int)) j p2) p3) scope lpos,kpos⟩] pos) (qnF X.K P lpos qual i te):=by
 intro pins s σ H Q I h
 refine wpAny_Call_Name_kw (qdM I hg hm hv ?_)
 refine PyProof.Rows.callWith_kw ?_ hs1 hs2 rfl rfl
 have hpa:PA X [e] (fun σ H Q=>te σ H fun x H1=>Q [x] H1):=fun pos pins s σ H Q I h=>(qaf he qaq hs0) pos pins s σ H Q I h
 refine thn (hpa pos pins s σ H (fun vs H1=>match vs with
  | [x]=> ∃a xs ms,x= .ref a∧SqL X.K H1 a xs∧xs.length<64∧qee X.K H1 i xs ms∧Tab P lpos qual H1∧
   ∀(H2:Hp) (D:Addr) (p:Array Nat),qed P H1 H2→Tab P lpos qual H2→H1 D=none→H2 D=none→St.Order ms xs.length p→Q (.ref D) (upd H2 D (.lst (p.toList.map fun j=>xs.getD j .non)))
  | _=>False) I h) fun us s1 ⟨vs,H1,I1,r1,q1⟩=> ?_
 match vs,r1,q1 with
 | [_],r1,q1=>
  obtain ⟨a,xs,ms,rfl,hS,h64,hK,hT,q⟩:=q1
  obtain ⟨u,rfl,ru⟩:=qfz r1
  cases ru
  show wpAny _ _ (evalAll [(do let v ←eval (.Lambda params (.Subscript (.Name x p1) (.Constant (.int (i:Int)) j p2) p3) scope lpos) X.env; standAt pos; pure v)]) _ _ s1
  obtain ⟨ps,hP,_⟩:=id hT
  refine wpAny_evalAll_cons (wpAny_bind (qmW I1 hcode C hb hfree hd hq hT fun f c' ctv H2 s2 I2 hT2 same _ kp hf0 hfn hfo hrec=>wpAny_bind (wpAny_standAt (wpAny_pure (wpAny_evalAll_nil ?_)))))
  show wpAny _ _ (call (.builtin "sorted") [.ref a] [(Str.ofString "key",.ref f)]) _ _ s2
  have hS2:=same.seqL hP hS
  obtain ⟨its,rv,pl,hz⟩:=I2.list hS2
  have hlen:=rv.length
  refine St.sorted_s (kz:=ms) (q:=f) rfl pl.isList (by rw[hK.1]; exact hlen) (by lia) (fun j' v k hv hk' s' kp' hg' ho'=> ?_) fun D h' tk cc pp hD0 kp' ho hD=> ?_
  ·have hj:j'<xs.length:=by
    have:=(List.getElem?_eq_some_iff.mp hv).1
    lia
   obtain ⟨t,ys,e1,e2,e3⟩:=hK.2 j' xs[j'] k (List.getElem?_eq_getElem hj) hk'
   obtain ⟨u,hu,ru⟩:=rv.get (List.getElem?_eq_getElem hj)
   rw[hv] at hu
   cases hu
   rw[e1] at ru
   cases ru
   obtain ⟨its2,rv2,pl2,hz2⟩:=I2.tuple (same.seqT hP e2)
   obtain ⟨w2,ew,rw2⟩:=rv2.get e3
   obtain ⟨tk2,rfl⟩:=rw2
   have pl3:IsTup s'.heap t its2.toArray:=by
    obtain ⟨o,e,r⟩:=pl2
    exact ⟨o,kp' _ _ e,r⟩
   refine qmZ (kp' _ _ hfo) (hrec.keeps kp') (I2.nolimit.keeps kp') ?_ hk hco hgen hx hcell hdb (fun v=>hbd _ _ _ v) pl3 ew (by rw[←rv2.length]; exact hz2)
   exact hr.in1.in1.depth
  ·have fD:H2 D=none:=I2.hok.fresh hD0
   have I3:Inv X pins σ (upd H2 D (.lst (pp.toList.map fun j=>xs.getD j .non))) { s2 with heap:=h',toks:=tk }:=by
    refine I2.laid kp' hD0 ⟨?_,_,cc,vals_pick rv pp.toList,hD⟩
    rw[List.length_map,Array.length_toList,ho.1.sz,sizeLine_eq]
    lia
   refine ⟨.ref D,_,I3,rfl,q H2 D pp same hT2 ?_ fD (by rw[hlen]; exact ho)⟩
   cases z:H1 D with
   | none=>rfl
   | some o=>
    by_cases zP:D=P
    ·obtain ⟨ps2,hP2,_⟩:=hT2
     rw[zP,hP2] at fD; cases fD
    ·rw[same D o z zP] at fD; cases fD
end
end L2
end
section
namespace L2
open PySem PySem.Spec PyProof.Rows
section
variable {X:Cx}
theorem qeL:OpR X (compareOp .LtE) (fun x y H Q=> ∃i j,x= .str i∧y= .str j∧Q (.bl (!decide (j.cps.toList<i.cps.toList))) H):=by
 intro pins s σ H x y v u Q I rx ry h
 obtain ⟨i,j,rfl,rfl,q⟩:=h
 obtain ⟨t,rfl⟩:=rx
 obtain ⟨t',rfl⟩:=ry
 exact PySem.P.le_str ⟨.bl _,H,I,rfl,q⟩
theorem qcP:qe0 X (.builtin "isinstance") (fun xs H Q=> ∃x t T b,xs=[x,.ty T]∧qja X.K H x t∧PySem.W.kitOne X.K t (.type T)=some b∧Q (.bl b) H):=by
 intro pins s σ H xs us Q I r h
 obtain ⟨x,t,T,b,rfl,ty,e,q⟩:=h
 obtain ⟨u,w',rfl,ru,rw'⟩:=qj2 r
 cases rw'
 exact qgJ I ru ty e fun tk=>⟨.bl b,H,I.tok tk,rfl,q⟩
theorem qh8: ∀{bs:List Bool} {us:List Value},Vals (bs.map V.bl) us→us=bs.map Value.bool
 | [],_,.nil=>rfl
 | b::bs,_,.cons r t=>by
  have e:_=Value.bool b:=r
  rw[e,qh8 t]
  rfl
theorem qkA (bs:List Bool):(List.range bs.length).all (fun i=>bs.getD i false)=bs.all id:=by
 rw[Bool.eq_iff_iff,List.all_eq_true,List.all_eq_true]
 constructor
 ·intro h b hb
  obtain ⟨i,hi,rfl⟩:=List.mem_iff_getElem.mp hb
  have:=h i (List.mem_range.mpr hi)
  simpa [List.getD_eq_getElem?_getD,hi] using this
 ·intro h i hi
  have hi':=List.mem_range.mp hi
  have:=h bs[i] (List.getElem_mem hi')
  simpa [List.getD_eq_getElem?_getD,hi'] using this
theorem qcQ (hc:X.calm=true):qe0 X (.builtin "all") (fun xs H Q=> ∃(a:Addr) (bs:List Bool),xs=[.ref a]∧SqL X.K H a (bs.map V.bl)∧Q (.bl (bs.all id)) H):=by
 intro pins s σ H xs us Q I r h
 obtain ⟨a,bs,rfl,hS,q⟩:=h
 obtain ⟨u,rfl,ru⟩:=qfz r
 cases ru
 obtain ⟨its,rv,pl,hz⟩:=I.list hS
 have e:=qh8 rv
 have hlt:a<s.heap.objs.size:=Heap.lt_size pl.isList.choose_spec.1
 have hh:X.A.in1.handled=none:=I.ok.hd hc
 refine call_all_walk (wpAny_pyIter_list pl.isList ?_)
 refine ⟨s.heap.objs.size,_,_,its.toArray.size,_,_,fun i=>bs.getD i false,rfl,Walks.list hh s.heap.objs.size a (Nat.ne_of_lt hlt) its.toArray,⟨⟨_,Heap.get?_push_size _ rfl,rfl,rfl⟩,pl.isList.at fun o e=>Heap.get?_push_of_some _ e⟩,fun i v s' Q' E' hv hq=> ?_,fun h' tk k=> ?_⟩
 ·rw[e] at hv
  have hv':(bs.map Value.bool)[i]? =some v:=by simpa using hv
  rw[List.getElem?_map] at hv'
  cases z:bs[i]? with
  | none=>rw[z] at hv'; cases hv'
  | some b=>
   rw[z] at hv'
   cases hv'
   have eb:bs.getD i false=b:=by simp[List.getD_eq_getElem?_getD,z]
   have hq':Q' (bs.getD i false) s':=hq
   rw[eb] at hq'
   exact wpAny_truthy_bool hq'
 ·have en:its.toArray.size=bs.length:=by rw[e]; simp
  rw[en,qkA]
  refine ⟨.bl (bs.all id),H,?_,rfl,q⟩
  refine I.kept (t':=tk) fun b o eo=>k b o ?_ (Heap.get?_push_of_some _ eo)
  intro z
  have:b=s.heap.objs.size:=by simpa using z
  exact Nat.ne_of_lt (Heap.lt_size eo) this
def VEq (X:Cx) (H:Hp) (x y:V) (b:Bool):Prop:= ∀(pins:List (Addr×Obj)) (σ:St) (s:Shared) (u v:Value),Inv X pins σ H s→RelV x u→RelV y v→SeqAt.EqAt X.A.in1 s u v b
theorem VEq.ref {H:Hp} (a:Addr):VEq X H (.ref a) (.ref a) true:=fun pins σ s u v I ru rv=>by
 cases ru; cases rv
 exact SeqAt.EqAt.same _
theorem VEq.flat {H:Hp} {x y:V} (fx:qdb x=true) (fy:qdb y=true):VEq X H x y (eqV x y):=fun pins σ s u v I ru rv=>qiT ru rv fx fy
theorem qhx (hu:X.A.units<cLine):OpR X (compareOp .Eq) (fun x y H Q=> ∃a b xs ys,x= .ref a∧y= .ref b∧SqL X.K H a xs∧SqL X.K H b ys∧
  ((xs.length≠ys.length∧Q (.bl false) H)∨(xs.length=ys.length∧∃e:Nat→Bool,(∀i x y,xs[i]? =some x→ys[i]? =some y→VEq X H x y (e i))∧Q (.bl ((List.range xs.length).all e)) H))):=by
 intro pins s σ H x y v u Q I rx ry h
 obtain ⟨a,b,xs,ys,rfl,rfl,ha,hb,h⟩:=h
 cases rx; cases ry
 obtain ⟨i1,r1,p1,z1⟩:=I.list ha
 obtain ⟨i2,r2,p2,z2⟩:=I.list hb
 have l1:=r1.length
 have l2:=r2.length
 rcases h with ⟨hne,q⟩ | ⟨heq,e,he,q⟩
 ·exact SeqAt.eq_list_lengthsAt p1.isList p2.isList (by simp; lia) hu ⟨.bl false,H,I,rfl,q⟩
 ·refine SeqAt.eq_listAt (e:=e) p1.isList p2.isList (by simp; lia) hu (fun j h1 h2=> ?_) ⟨.bl _,H,I,rfl,?_⟩
  ·have h1':j<i1.length:=by simpa using h1
   have h2':j<i2.length:=by simpa using h2
   have hx:xs[j]? =some xs[j]:=List.getElem?_eq_getElem (by lia)
   have hy:ys[j]? =some ys[j]:=List.getElem?_eq_getElem (by lia)
   obtain ⟨u1,e1,q1⟩:=r1.get hx
   obtain ⟨u2,e2,q2⟩:=r2.get hy
   have e3:i1.toArray[j]=u1:=by
    rw[List.getElem?_eq_getElem h1'] at e1
    simpa using Option.some.inj e1
   have e4:i2.toArray[j]=u2:=by
    rw[List.getElem?_eq_getElem h2'] at e2
    simpa using Option.some.inj e2
   rw[e3,e4]
   exact he j _ _ hx hy pins σ s u1 u2 I q1 q2
  ·rw[List.size_toArray,←l1]; exact q
end
end L2
end
section
namespace L2
open PySem PySem.Spec PyProof.Rows
def Its (z:Str):It:=⟨fun i _=>i<z.cps.size,fun i H x H'=>H'=H∧∃c,z.cps[i]? =some c∧x= .str ⟨#[c]⟩,fun i _=>z.cps.size≤i⟩
theorem qmk {P:Program} {w:World} {K:PySem.W.Frag} {tg:Expr} {z:Str} {it:Addr} {ty:String} {t:Tok} (hty:ty= "str_ascii_iterator" ∨ty= "str_iterator"):qpD P w K tg (Its z) [it] it (fun i h=>h.IsStrIter it ty z t i) where
 mem:=by simp
 obj:=fun i h st b hb=>by
  have e:b=it:=by simpa using hb
  subst e
  obtain ⟨o,e,c,d⟩:=st
  exact ⟨o,e,fun v q=>by rw[d] at q; cases q⟩
 keep:=fun i h h' st k=>by
  obtain ⟨o,e,r⟩:=st
  exact ⟨o,k it (by simp) _ e,r⟩
 item:=by
  intro X hP hw hK hc i pins s σ H E I hf st hg
  subst hP hw hK
  obtain ⟨f0,f1,f2,f3,f4,f5⟩:=hf it (by simp)
  have hcx:z.cps[i]? =some z.cps[i]:=Array.getElem?_eq_getElem hg
  have fin: ∀h',h'.IsStrIter it ty z t (i+1)→Heap.SameBut it s.heap h'→∃u,some (Value.str ⟨#[z.cps[i]]⟩ s.toks)=some u∧wpAny (model X.prog X.w) X.A (letOwnedTupleGo tg (.ref it) u) (fun _ s2=> ∃x H',Inv X pins σ H' s2∧RelV x u∧(Its z).yld i H x H'∧s2.heap.IsStrIter it ty z t (i+1)∧∀b∈[it],H' b=none) E { s with heap:=h',toks:=s.toks+1 }:=fun h' st' sb=>by
   have I1:Inv X pins σ H { s with heap:=h',toks:=s.toks+1 }:=I.turned (fun b o hb e=>(sb.2 b hb).trans e) f0 f1 f3 f4 f5
   obtain ⟨o,e,c,d⟩:=id st'
   refine ⟨_,rfl,qlw (s:={ s with heap:=h',toks:=s.toks+1 }) e c d ?_ ⟨.str ⟨#[z.cps[i]]⟩,H,I1,⟨_,rfl⟩,⟨rfl,_,hcx,rfl⟩,st',fun b hb=>(hf b hb).1⟩⟩
   rcases hty with rfl | rfl<;>decide
  rcases hty with rfl | rfl
  ·exact wpAny_pyNext_ascii_item st hcx fun h' st' sb=>fin h' st' sb
  ·exact wpAny_pyNext_wide_item st hcx fun h' st' sb=>fin h' st' sb
 done:=by
  intro X hP hw hK hc i pins s σ H E I hf st hg
  subst hP hw hK
  obtain ⟨f0,f1,f2,f3,f4,f5⟩:=hf it (by simp)
  have hcx:z.cps[i]? =none:=Array.getElem?_eq_none hg
  rcases hty with rfl | rfl
  ·exact wpAny_pyNext_ascii_end (I.ok.hd hc) st hcx fun h' eb=>⟨rfl,I.turned (t':=s.toks) (fun b o hb e=>eb b o hb e) f0 f1 f3 f4 f5⟩
  ·exact wpAny_pyNext_wide_end (I.ok.hd hc) st hcx fun h' eb=>⟨rfl,I.turned (t':=s.toks) (fun b o hb e=>eb b o hb e) f0 f1 f3 f4 f5⟩
 self:=fun A i s Q E st h=>by
  rcases hty with rfl | rfl
  ·exact wpAny_pyIter_striter_ascii st h
  ·exact wpAny_pyIter_striter_wide st h
def quE (te:TE):TI:=fun σ H R=>te σ H fun x H1=> ∃z,x= .str z∧R (Its z) H1
theorem qn1 {X:Cx} {tg e:Expr} {te:TE} (he:PE X e te):PI X tg e (quE te):=by
 intro pins s σ H R I h
 refine thn (he pins s σ H _ I h) fun v s1 hq48=> ?_
 obtain ⟨x,H1,I1,r1,z,hz,q⟩:=hq48
 subst hz
 obtain ⟨t,rfl⟩:=r1
 have fin: ∀ty:String,(ty= "str_ascii_iterator" ∨ty= "str_iterator")→PIE X pins σ tg R (.ref s1.heap.objs.size) { s1 with heap:=s1.heap.push { cls:=.type ty,data:=.fields #[.str z t,.int 0 0] } }:=fun ty hty=>
  ⟨_,_,_,Its z,H1,rfl,I1.kept (t':=s1.toks) fun b o e=>Heap.get?_push_of_some _ e,qmk (t:=t) hty,⟨_,Heap.get?_push_size _ rfl,rfl,rfl⟩,fun b hb=>by
   have e:b=s1.heap.objs.size:=by simpa using hb
   subst e
   exact I1.fpOk (Nat.le_refl _) (I1.hok.fresh (Nat.le_refl _)),q⟩
 cases ha:z.cps.all (· <128)
 ·exact wpAny_pyIter_wide ha (fin _ (.inr rfl))
 ·exact wpAny_pyIter_ascii ha (fin _ (.inl rfl))
theorem Inv.turnT {X:Cx} {pins:List (Addr×Obj)} {σ:St} {H:Hp} {s:Shared} {h':Heap} {t':Nat} {ch:List Addr} {T:Addr} {xs:List V} (I:Inv X pins σ H s) (hch: ∀b∈ch,qj0 X pins H b) (k: ∀b o,b∉ch→s.heap.get? b=some o→h'.get? b=some o)
  (hT:s.heap.objs.size≤T) (new:qbT X.prog X.w (upd H T (.tup xs)) h' T (.tup xs)):Inv X pins σ (upd H T (.tup xs)) { s with heap:=h',toks:=t' }:=by
 have nT: ∀b o,s.heap.get? b=some o→b≠T:=fun b o e=>Nat.ne_of_lt (Nat.lt_of_lt_of_le (Heap.lt_size e) hT)
 have nTt: ∀b u,H b=some u→b≠T:=fun b u e z=>by rw[z,I.hok.fresh hT] at e; cases e
 have nch: ∀b u,H b=some u→b∉ch:=fun b u e z=>by rw[(hch b z).1] at e; cases e
 refine I.step (g':=s.gens) (d':=s.drawn) (ch:=ch) (fun b hb=> ?_) (fun b o _ _ hc e _=>k b o hc e) (fun b o _ _ hc e _=>⟨o.slots,k b o hc e⟩) (fun b o _ e n=>by rw[qae (nT b o e)]; exact n) (fun b o hc e=>⟨o,k b o hc e⟩)
  (fun b ys e=>by rw[qae (nTt b _ e)]; exact e) (fun b o u e=>by rw[qae (nTt b _ e)]; exact e) (fun b ps e=>⟨#[],by rw[qae (nTt b _ e),e]; simp⟩) (fun m hm=> ?_) (fun b u e=> ?_) I.bare
 ·obtain ⟨_,f1,_,f3,f4,f5⟩:=hch b hb
  exact ⟨f3,f1,f4,f5⟩
 ·obtain ⟨o,es,ep,ho,r⟩:=hm
  exact ⟨o,es,ep,k _ o (fun z=>(hch _ z).2.1 rfl) ho,r⟩
 ·by_cases z:b=T
  ·subst z
   rw[qag] at e; cases e
   exact new
  ·rw[qae z] at e
   refine (I.hok b u e).stay (fun c v hc q=>k c v ?_ q) (fun c q=>by rw[qae (nTt c _ q)]; exact q) fun c ys q=>by rw[qae (nTt c _ q)]; exact q
   rcases hc with rfl | hc
   ·exact nch _ _ e
   ·exact nch _ _ hc
theorem Inv.turnL {X:Cx} {pins:List (Addr×Obj)} {σ:St} {H:Hp} {s:Shared} {h':Heap} {t':Nat} {ch:List Addr} (I:Inv X pins σ H s) (hch: ∀b∈ch,qj0 X pins H b) (k: ∀b o,b∉ch→s.heap.get? b=some o→h'.get? b=some o):
  Inv X pins σ H { s with heap:=h',toks:=t' }:=by
 have nch: ∀b u,H b=some u→b∉ch:=fun b u e z=>by rw[(hch b z).1] at e; cases e
 refine I.step (g':=s.gens) (d':=s.drawn) (ch:=ch) (fun b hb=> ?_) (fun b o _ _ hc e _=>k b o hc e) (fun b o _ _ hc e _=>⟨o.slots,k b o hc e⟩) (fun b o _ e n=>n) (fun b o hc e=>⟨o,k b o hc e⟩)
  (fun b ys e=>e) (fun b o u e=>e) (fun b ps e=>⟨#[],by rw[e]; simp⟩) (fun m hm=> ?_) (fun b u e=> ?_) I.bare
 ·obtain ⟨_,f1,_,f3,f4,f5⟩:=hch b hb
  exact ⟨f3,f1,f4,f5⟩
 ·obtain ⟨o,es,ep,ho,r⟩:=hm
  exact ⟨o,es,ep,k _ o (fun z=>(hch _ z).2.1 rfl) ho,r⟩
 ·refine (I.hok b u e).stay (fun c v hc q=>k c v ?_ q) (fun c q=>q) fun c ys q=>q
  rcases hc with rfl | hc
  ·exact nch _ _ e
  ·exact nch _ _ hc
def Itz (K:PySem.W.Frag) (l1 l2:Addr):It:=
 ⟨fun i H=> ∃xs ys,SqL K H l1 xs∧SqL K H l2 ys∧i<xs.length∧i<ys.length,
   fun i H v H'=> ∃T x y,v= .ref T∧H T=none∧H'=upd H T (.tup [x,y])∧(∀xs,SqL K H l1 xs→xs[i]? =some x)∧∀ys,SqL K H l2 ys→ys[i]? =some y,
   fun i H=> ∃xs ys,SqL K H l1 xs∧SqL K H l2 ys∧i=min xs.length ys.length⟩
def qtb (z TI TO i1 i2 l1 l2:Addr) (i:Nat) (h:Heap):Prop:=
 IsZip h z TI TO .none∧IsPair h TI (.ref i1) (.ref i2)∧(∃a b,IsPair h TO a b)∧h.IsListIter i1 l1 i∧h.IsListIter i2 l2 i
theorem qia {P:Program} {w:World} {K:PySem.W.Frag} {elts:List Expr} {k:Nat} {pos:Pos} {z TI TO i1 i2 l1 l2:Addr} (D:ZipApart z TI TO i1 i2 l1 l2):qpD P w K (.Tuple elts k pos) (Itz K l1 l2) [z,TI,TO,i1,i2] z (qtb z TI TO i1 i2 l1 l2) where
 mem:=by simp
 obj:=fun i h st b hb=>by
  obtain ⟨a1,a2,⟨x,y,a3⟩,⟨o4,a4,c4,d4⟩,⟨o5,a5,c5,d5⟩⟩:=st
  have hb':b=z∨b=TI∨b=TO∨b=i1∨b=i2:=by simpa using hb
  rcases hb' with rfl | rfl | rfl | rfl | rfl
  ·exact ⟨_,a1,fun v q=>by have q':Data.fields _=Data.cell v:=q; cases q'⟩
  ·exact ⟨_,a2,fun v q=>by have q':Data.seq _ _=Data.cell v:=q; cases q'⟩
  ·exact ⟨_,a3,fun v q=>by have q':Data.seq _ _=Data.cell v:=q; cases q'⟩
  ·exact ⟨o4,a4,fun v q=>by rw[d4] at q; cases q⟩
  ·exact ⟨o5,a5,fun v q=>by rw[d5] at q; cases q⟩
 keep:=fun i h h' st kk=>by
  obtain ⟨a1,a2,⟨x,y,a3⟩,a4,a5⟩:=st
  exact ⟨kk z (by simp) _ a1,kk TI (by simp) _ a2,⟨x,y,kk TO (by simp) _ a3⟩,a4.at fun o e=>kk i1 (by simp) o e,a5.at fun o e=>kk i2 (by simp) o e⟩
 item:=by
  intro X hP hw hK hc i pins s σ H E I hf st hg
  subst hP hw hK
  obtain ⟨xs,ys,h1,h2,g1,g2⟩:=hg
  obtain ⟨its1,r1,p1,z1⟩:=I.list h1
  obtain ⟨its2,r2,p2,z2⟩:=I.list h2
  have e1:=r1.length
  have e2:=r2.length
  have W:=WalksT.zip2 (prog:=X.prog) (w:=X.w) (I.ok.hd hc) z TI TO i1 i2 l1 l2 D its1.toArray its2.toArray
  obtain ⟨a1,a2,a3,a4,a5⟩:=st
  have hch: ∀b∈[z,TO,i1,i2],qj0 X pins H b:=fun b hb=>hf b (by
   have hb':b=z∨b=TO∨b=i1∨b=i2:=by simpa using hb
   rcases hb' with rfl | rfl | rfl | rfl<;>simp)
  refine W.item i s _ E (by simp; lia) ⟨a1,a2,a3,a4,a5,p1.isList,p2.isList⟩ fun T vals h' tk hv hT hti hmid kp=> ?_
  obtain ⟨u1,u2,q1,q2,rfl⟩:=hv
  refine ⟨_,rfl,W.go elts k pos i T _ _ E hmid fun h2' st' kp2=> ?_⟩
  obtain ⟨b1,b2,b3,b4,b5,_,_⟩:=st'
  have nT:T∉[z,TO,i1,i2]:=W.apart i T h' hmid
  obtain ⟨ox,hox,rox⟩:=hti
  have hx1:xs[i]? =some xs[i]:=List.getElem?_eq_getElem g1
  have hy1:ys[i]? =some ys[i]:=List.getElem?_eq_getElem g2
  obtain ⟨w1,ew1,rw1⟩:=r1.get hx1
  obtain ⟨w2,ew2,rw2⟩:=r2.get hy1
  have eu1:its1[i]? =some u1:=by simpa using q1
  have eu2:its2[i]? =some u2:=by simpa using q2
  rw[eu1] at ew1; cases ew1
  rw[eu2] at ew2; cases ew2
  have I1:Inv X pins σ (upd H T (.tup [xs[i],ys[i]])) { s with heap:=h2',toks:=tk }:=by
   refine I.turnT hch (fun b o hb e=>kp2 b o hb (kp b o hb e)) hT ⟨by show 2≤sizeLine; decide,[u1,u2],.cons rw1 (.cons rw2 .nil),ox,kp2 T ox nT hox,rox⟩
  refine ⟨.ref T,_,I1,rfl,⟨T,_,_,rfl,I.hok.fresh hT,rfl,fun xs' hx'=>by rw[I.list_inj hx' h1]; exact hx1,fun ys' hy'=>by rw[I.list_inj hy' h2]; exact hy1⟩,⟨b1,b2,b3,b4,b5⟩,fun b hb=> ?_⟩
  obtain ⟨o,eo,_⟩: ∃o,s.heap.get? b=some o∧True:=by
   have hb':b=z∨b=TI∨b=TO∨b=i1∨b=i2:=by simpa using hb
   obtain ⟨x,y,a3'⟩:=a3
   obtain ⟨o4,a4',_⟩:=a4
   obtain ⟨o5,a5',_⟩:=a5
   rcases hb' with rfl | rfl | rfl | rfl | rfl
   ·exact ⟨_,a1,trivial⟩
   ·exact ⟨_,a2,trivial⟩
   ·exact ⟨_,a3',trivial⟩
   ·exact ⟨_,a4',trivial⟩
   ·exact ⟨_,a5',trivial⟩
  rw[qae (Nat.ne_of_lt (Nat.lt_of_lt_of_le (Heap.lt_size eo) hT))]
  exact (hf b hb).1
 done:=by
  intro X hP hw hK hc i pins s σ H E I hf st hg
  subst hP hw hK
  obtain ⟨xs,ys,h1,h2,g1⟩:=hg
  obtain ⟨its1,r1,p1,z1⟩:=I.list h1
  obtain ⟨its2,r2,p2,z2⟩:=I.list h2
  have e1:=r1.length
  have e2:=r2.length
  have W:=WalksT.zip2 (prog:=X.prog) (w:=X.w) (I.ok.hd hc) z TI TO i1 i2 l1 l2 D its1.toArray its2.toArray
  have hch: ∀b∈[z,TO,i1,i2],qj0 X pins H b:=fun b hb=>hf b (by
   have hb':b=z∨b=TO∨b=i1∨b=i2:=by simpa using hb
   rcases hb' with rfl | rfl | rfl | rfl<;>simp)
  obtain ⟨a1,a2,a3,a4,a5⟩:=st
  have en:min its1.toArray.size its2.toArray.size=i:=by simp; lia
  rw[en] at W
  exact W.done s _ E ⟨a1,a2,a3,a4,a5,p1.isList,p2.isList⟩ fun h' tk kp=>⟨rfl,I.turnL hch kp⟩
 self:=fun A i s Q E st h=>wpAny_pyIter_zip st.1 h
def quD (K:PySem.W.Frag) (ta:TA):TI:=fun σ H R=>ta σ H fun vs H1=> ∃l1 l2 xs ys,vs=[.ref l1,.ref l2]∧SqL K H1 l1 xs∧SqL K H1 l2 ys∧R (Itz K l1 l2) H1
theorem qqw {X:Cx} {elts:List Expr} {kk:Nat} {tpos:Pos} {a b:Expr} {ta:TA} {p pos:Pos} (hg:Gl X "zip") (hm:X.mg "zip" =none) (ha:PA X [a,b] ta) (hs:starEach [a,b] X.env=(false,eval a X.env)::starEach [b] X.env:=by rfl) (hpl:(backTo pos (starEach [b] X.env)).any (·.1)=false:=by rfl):
  PI X (.Tuple elts kk tpos) (.Call (.Name "zip" p) [a,b] [] pos) (quD X.K ta):=by
 intro pins s σ H R I h
 refine wpAny_Call_Name_kw (qdM I hg hm PyProof.Rows.boot_zip ?_)
 refine PyProof.Rows.callWith_type1 (thn (ha pos pins s σ H _ I h) fun us s1 ⟨vs,H1,I1,r1,l1,l2,xs,ys,e,h1,h2,q⟩=> ?_) hs hpl
 subst e
 obtain ⟨u1,u2,rfl,ru1,ru2⟩:=qj2 r1
 cases ru1; cases ru2
 obtain ⟨its1,rr1,p1,z1⟩:=I1.list h1
 obtain ⟨its2,rr2,p2,z2⟩:=I1.list h2
 obtain ⟨o1,ho1,_⟩:=p1.isList
 obtain ⟨o2,ho2,_⟩:=p2.isList
 have lt1:l1<s1.heap.objs.size:=Heap.lt_size ho1
 have lt2:l2<s1.heap.objs.size:=Heap.lt_size ho2
 refine call_zip_2 p1.isList p2.isList fun h' hz hTI hTO hi1 hi2 hsz kp=>wpAny_pyIter_zip hz ?_
 have D:ZipApart (s1.heap.objs.size+4) (s1.heap.objs.size+2) (s1.heap.objs.size+3) s1.heap.objs.size (s1.heap.objs.size+1) l1 l2:=PySem.W.ktu_apart _ _ _ lt1 lt2
 refine ⟨_,_,_,Itz X.K l1 l2,H1,rfl,I1.kept (t':=s1.toks) kp,qia D,⟨hz,hTI,⟨_,_,hTO⟩,hi1,hi2⟩,fun b hb=> ?_,q⟩
 have hle:s1.heap.objs.size≤b:=by
  have hb':b=s1.heap.objs.size+4∨b=s1.heap.objs.size+2∨b=s1.heap.objs.size+3∨b=s1.heap.objs.size∨b=s1.heap.objs.size+1:=by simpa using hb
  rcases hb' with rfl | rfl | rfl | rfl | rfl
  ·exact Nat.le_add_right _ _
  ·exact Nat.le_add_right _ _
  ·exact Nat.le_add_right _ _
  ·exact Nat.le_refl _
  ·exact Nat.le_add_right _ _
 exact I1.fpOk hle (I1.hok.fresh hle)
end L2
end
section
namespace L2
open PySem PySem.Spec PyProof.Rows
def qf8 (mg:Str→Option Value) (base:Heap):Prop:= ∃bm ob,mg "__builtins__" =some (.ref bm)∧bm≠builtinsNs∧base.get? bm=some ob∧ob.cls= .type "module" ∧ob.dict=some builtinsNs∧ob.data= .plain
end L2
end
section
namespace L2
open PySem PySem.Spec PySem.Calls PyProof.Rows
theorem qbT.obj {P:Program} {w:World} {H:Hp} {h:Heap} {a:Addr} {o:HO} (x:qbT P w H h a o): ∃u,h.get? a=some u:=by
 cases o with
 | lst xs=>obtain ⟨_,_,_,_,e⟩:=x; exact ⟨_,e⟩
 | tup xs=>obtain ⟨_,_,_,p⟩:=x; exact p.imp fun _ q=>q.1
 | dK kvs=>obtain ⟨_,_,_,_,o,_,_,e,_⟩:=x; exact ⟨_,e⟩
 | dT kvs=>obtain ⟨_,_,_,_,o,_,_,e,_⟩:=x; exact ⟨_,e⟩
 | set S n=>obtain ⟨o,_,_,_,e,_⟩:=x; exact ⟨_,e⟩
 | ins C dx fs=>obtain ⟨_,_,_,e,_⟩:=x; exact ⟨_,e⟩
 | own y=>obtain ⟨_,e⟩:=x; exact ⟨_,e⟩
 | xd fs=>obtain ⟨_,⟨_,_,_,e,_⟩,_⟩:=x; exact ⟨_,e⟩
 | rng lo hi=>obtain ⟨_,_,_,e⟩:=x; exact ⟨_,e⟩
 | frz ob u=>obtain ⟨e,_⟩:=x; exact ⟨_,e⟩
 | tbl ps=>exact ⟨_,(show h.get? a=some _ from x)⟩
 | met f y=>exact ⟨_,(show h.get? a=some _ from x)⟩
 | ext φ=>obtain ⟨_,⟨_,e⟩,_⟩:=x; exact ⟨_,e⟩
structure qjY (P:Program) (w:World) (outer:List Env) (H:Hp) (s:Shared) (H':Hp) (B h':Heap):Prop where
 hok:HOk P w H' B
 st:B.StaysIn h'
 bk: ∀b o,s.heap.get? b=some o→H b=none→b∉frs outer→B.get? b=some o
 th: ∀b o,s.heap.get? b=some o→b∉frs outer→∃o',B.get? b=some o'
 sl: ∀b o,s.heap.get? b=some o→b∈frs outer→(∀vs,o.data≠.fields vs)∧∃sl,h'.get? b=some { o with slots:=sl }
 free: ∀b o,s.heap.get? b=some o→H b=none→H' b=none
 tups: ∀b xs,H b=some (.tup xs)→H' b=some (.tup xs)
 frzs: ∀b o u,H b=some (.frz o u)→H' b=some (.frz o u)
 tbls: ∀b ps,H b=some (.tbl ps)→∃more,H' b=some (.tbl (ps++more))
section
variable {P:Program} {w:World} {outer:List Env} {H H':Hp} {s s':Shared} {B h' h'':Heap}
theorem qjY.un (L:qjY P w outer H s H' B h'):Un (frs outer) [] H H' s.heap h' where
 keep:=fun b o e n nb _=>L.st b o (L.bk b o e n nb)
 slot:=fun b o e _ hb _=>(L.sl b o e hb).2
 free:=fun b o e n _=>L.free b o e n
 there:=fun b o e _=>by
  by_cases hb:b∈frs outer
  ·obtain ⟨sl,q⟩:=(L.sl b o e hb).2
   exact ⟨_,q⟩
  ·obtain ⟨o',q⟩:=L.th b o e hb
   exact ⟨o',L.st b o' q⟩
 tups:=L.tups
 frzs:=L.frzs
 tbls:=L.tbls
theorem qjY.on (L:qjY P w outer H s H' B h') (st:B.StaysIn h'') (up:h'.UpToSlots h''):qjY P w outer H s H' B h'':=
 { L with
  st:=st
  sl:=fun b o e hb=>by
   obtain ⟨nf,sl,q⟩:=L.sl b o e hb
   obtain ⟨sl',q'⟩:=up b _ q nf
   exact ⟨nf,sl',q'⟩ }
end
section
variable {X:Cx} {pins:List (Addr×Obj)} {σ:St} {H H':Hp} {s s':Shared} {B h' h'':Heap} {C a t:Addr}
theorem qgO (hst:X.stack=X.env::X.outer) (hf:X.env.frame=some X.env.locals):frs X.stack=X.env.locals::frs X.outer:=by
 rw[hst]
 show ((X.env::X.outer).filterMap (·.frame))=_
 rw[List.filterMap_cons,hf]
 rfl
theorem qjY.leave (hst:X.stack=X.env::X.outer) (hf:X.env.frame=some X.env.locals) (hex:X.ex=[]) (I:Inv X pins σ H s) (L:qjY X.prog X.w X.stack H s H' B h'):qjY X.prog X.w X.outer X.H₀ X.s₀ H' B h':=by
 have nx: ∀b:Addr,b∉X.ex:=fun b z=>by rw[hex] at z; cases z
 have neL: ∀b o,X.s₀.heap.get? b=some o→b≠X.env.locals:=fun b o e=>Nat.ne_of_lt (Nat.lt_of_lt_of_le (Heap.lt_size e) I.ok.above)
 have out: ∀b o,X.s₀.heap.get? b=some o→b∉frs X.outer→b∉frs X.stack:=fun b o e nb z=>by
  rw[qgO hst hf] at z
  rcases List.mem_cons.mp z with q | q
  ·exact neL b o e q
  ·exact nb q
 refine ⟨L.hok,L.st,fun b o e n nb=> ?_,fun b o e nb=> ?_,fun b o e hb=> ?_,fun b o e n=> ?_,fun b xs q=>L.tups b xs (I.base.tups b xs q),fun b o u q=>L.frzs b o u (I.base.frzs b o u q),fun b ps q=> ?_⟩
 ·exact L.bk b o (I.base.keep b o e n nb (nx b)) (I.base.free b o e n (nx b)) (out b o e nb)
 ·obtain ⟨o',e'⟩:=I.base.there b o e (nx b)
  exact L.th b o' e' (out b o e nb)
 ·obtain ⟨sl,e1⟩:=I.base.slot b o e (I.ok.frf b hb) hb (nx b)
  obtain ⟨nf,sl',e2⟩:=L.sl b _ e1 (by rw[qgO hst hf]; exact List.mem_cons_of_mem _ hb)
  exact ⟨nf,sl',e2⟩
 ·obtain ⟨sl,e1⟩:=I.base.any e n (nx b)
  exact L.free b _ e1 (I.base.free b o e n (nx b))
 ·obtain ⟨m1,e1⟩:=I.base.tbls b ps q
  obtain ⟨m2,e2⟩:=L.tbls b _ e1
  exact ⟨m1++m2,by rw[e2,Array.append_assoc]⟩
theorem qjY.made (I:Inv X pins σ H s) (k: ∀b o,s.heap.get? b=some o→h'.get? b=some o):qjY X.prog X.w X.stack H s H (PySem.W.hideAll s.heap (frs X.stack)) h' where
 hok:=fun a o e=>(I.hok a o e).stay (fun b u hb r=>PySem.W.hideAll_get _ r fun z=>by
   have n:=I.stkFree b z
   rcases hb with q | q
   ·rw[q,e] at n; cases n
   ·rw[q] at n; cases n) (fun _ r=>r) fun _ _ r=>r
 st:=fun b o e=>k b o (PySem.W.of_hideAll _ e)
 bk:=fun b o e n nb=>PySem.W.hideAll_get _ e nb
 th:=fun b o e nb=>⟨o,PySem.W.hideAll_get _ e nb⟩
 sl:=fun b o e hb=>by
  obtain ⟨_,o',e',nf⟩:=I.stack.mem hb
  rw[e] at e'; cases e'
  exact ⟨nf,o.slots,k b o e⟩
 free:=fun _ _ _ n=>n
 tups:=fun _ _ q=>q
 frzs:=fun _ _ _ q=>q
 tbls:=fun _ ps q=>⟨#[],by rw[q]; simp⟩
end
structure Fly (P:Program) (w:World) (outer:List Env) (H:Hp) (s:Shared) (C:Addr) (H':Hp) (a t:Addr) (B:Heap) (s':Shared):Prop where
 os:s'.os=s.os
 bare:AllBare s'.gens
 fly:Heap.FlyingW B outer a (.ref C) (.ref t) s'.heap
 lies:qjY P w outer H s H' B s'.heap
 new:H' a=none
structure quZ (P:Program) (w:World) (outer:List Env) (H:Hp) (s:Shared) (C:Addr) (H':Hp) (a t L:Addr) (B:Heap) (s':Shared):Prop where
 os:s'.os=s.os
 bare:AllBare s'.gens
 held:Heap.HeldW B outer a (.ref C) (.ref t) L s'.heap
 lies:qjY P w outer H s H' B s'.heap
 new:H' a=none
section
variable {X:Cx} {M:Model} {E:Value→Shared→Prop} {pins:List (Addr×Obj)} {σ:St} {H H':Hp} {s s':Shared} {B h' h'':Heap} {C a t:Addr}
theorem Fly.made {args:List Value} (hst:X.stack=X.env::X.outer) (hf:X.env.frame=some X.env.locals) (hex:X.ex=[]) (I:Inv X pins σ H s) (hm:Heap.MadeExcOf s.heap h' a (.ref C) args):
  wpAny M X.A (leaving X.env (.ref a)) (fun _ s''=> ∃t B,Fly X.prog X.w X.outer X.H₀ X.s₀ C H a t B s'') E { s with heap:=h' }:=by
 have hin: ∀env∈X.stack,∀b,env.frame=some b→b∈frs X.stack:=fun env he b hb=>List.mem_filterMap.mpr ⟨env,he,hb⟩
 have L:=qjY.made (h':=h') I hm.keeps
 refine wpAny_leaves_madeW (base:=PySem.W.hideAll s.heap (frs X.stack)) (h:=s.heap) (s:={ s with heap:=h' }) (I.ok.frames.trans (congrArg _ hst)) hf (fun b o q=>PySem.W.of_hideAll _ q) (hst▸PySem.W.funFrames_hide I.stack hin) hm fun h'' t fl _ _ up=> ?_
 refine ⟨t,_,I.os,I.bare,fl,(L.on fl.1 up).leave hst hf hex I,?_⟩
 cases q:H a with
 | none=>rfl
 | some o=>
  obtain ⟨u,hu⟩:=(I.hok a o q).obj
  rw[hm.new] at hu; cases hu
theorem Fly.look {Q:Unit→Shared→Prop} (hst:X.stack=X.env::X.outer) (hf:X.env.frame=some X.env.locals) (I:Inv X pins σ H s) (F:Fly X.prog X.w X.stack H s C H' a t B s')
  (h: ∀s'',Fly X.prog X.w X.stack H s C H' a t B s''→Q () s''):
  wpAny M X.A (noteFrame (.ref a) X.env) (fun _ s₂=>wpAny M X.A (setFlight (.ref a) none) Q E s₂) E s':=by
 refine wpAny_looks_onW (I.ok.frames.trans (congrArg _ hst)) hf (hst▸F.fly) fun h4 hh up=> ?_
 refine wpAny_landsW (s:={ s' with heap:=h4 }) hh fun h5 fl up5=> ?_
 exact h _ ⟨F.os,F.bare,hst▸fl,(F.lies.on (hh.1) up).on fl.1 up5,F.new⟩
end
def bmV:List Value:=[.type "ValueError",.type "Exception",.type "BaseException",.type "object"]
def qtz:List Str:=["__init__", "__getattribute__", "__getattr__", "__class__"]
inductive qh7 (h:Heap) (bmB:List Value):List Value→Prop
 | base:qh7 h bmB bmB
 | own {A:Addr} {c0:Value} {dd:Option Addr} {cd:ClassData} {sl:Array (Option Value)} {mA:Str→Option Value} {tl:List Value}:
   h.get? A=some { cls:=c0,dict:=dd,data:=.cls cd,slots:=sl }→h.Ns cd.ns mA→(∀n∈qtz,mA n=none)→qh7 h bmB tl→qh7 h bmB (.ref A::tl)
theorem qh7.keeps {h h':Heap} {bmB tl:List Value} (T:qh7 h bmB tl) (hk: ∀b o,h.get? b=some o→h'.get? b=some o):qh7 h' bmB tl:=by
 induction T with
 | base=>exact .base
 | own hA hN hq _ ih=>exact .own (hk _ _ hA) (hN.keeps hk) hq ih
def qtk (h:Heap) (C:Addr) (bm:List Value):Prop:=
 ∃N nm q bs hdct sn sub ab col dd k0 k1 k2 k3 k5 mN,h.get? C=some (excClassObj nm q C N bs bm hdct sn sub ab col dd k0 k1 k2 k3 k5 "ValueError.__new__")∧h.Ns N mN∧(∀n∈qtz,mN n=none)∧qh7 h bmV bm
theorem qtk.keeps {h h':Heap} {C:Addr} {bm:List Value} (x:qtk h C bm) (k: ∀b o,h.get? b=some o→h'.get? b=some o):qtk h' C bm:=
 let ⟨N,nm,q,bs,hdct,sn,sub,ab,col,dd,k0,k1,k2,k3,k5,mN,e,n,i,T⟩:=x
 ⟨N,nm,q,bs,hdct,sn,sub,ab,col,dd,k0,k1,k2,k3,k5,mN,k _ _ e,n.keeps k,i,T.keeps k⟩
end L2
end
section
namespace L2
open PySem PySem.Spec PySem.Calls PyProof.Rows
abbrev Cx.within (X:Cx) (a:Addr):Cx:={ X with A:=X.A.mark (some (.ref a)),calm:=false,xe:=fun _ _=>False }
section
variable {X:Cx} {pins pins':List (Addr×Obj)} {E:Value→Shared→Prop} {σ:St} {H H':Hp} {s s':Shared} {a C t:Addr} {B:Heap}
end
section
variable {M:Model} {A:Around} {E:Value→Shared→Prop} {s:Shared}
end
section
variable {X:Cx} {pins0:List (Addr×Obj)} {W:St→Addr→Hp→Prop} {k:Nat} {f C:Addr} {fd:FuncData} {ps:List Str} {sp:Sp} {x m:Str} {p pos apos:Pos} {e o:Expr} {es:List Expr} {ta:TE} {t:TA}
end
section
variable {X:Cx} {body suite:List Stmt} {b₀:Stmt} {x n:Str} {np hpos pos:Pos} {CH:Addr} {bmH:List Value} {tb:(St→Addr→Hp→Prop)→TS} {ts:TS} {E:XK}
end
end L2
end
section
namespace L2
open PySem PySem.Spec PySem.Calls PyProof.Rows
section
variable {M:Model} {A:Around} {E:Value→Shared→Prop} {h:Heap} {g:Array GenState} {d:Drawn} {t:Nat} {os:OsState}
variable {nm q:Str} {C N:Addr} {bs bm:List Value} {hdct:Bool} {sn:List Str} {sub:List Value} {ab:Bool} {col:Option Bool} {dd:Option Addr} {k0 k1 k2 k3 k5:Option Value} {newId:String}
end
section
variable {prog:Program} {w:World} {A:Around} {E:Value→Shared→Prop} {h:Heap} {g:Array GenState} {d:Drawn} {t:Nat} {os:OsState} {a:Addr} {o:Obj}
 {nm q:Str} {C N:Addr} {bs bm:List Value} {hdct:Bool} {sn:List Str} {sub:List Value} {ab:Bool} {col:Option Bool} {dd:Option Addr} {k0 k1 k2 k3 k5:Option Value} {newId:String} {mN:Str→Option Value}
end
section
variable {X:Cx}
end
end L2
end
section
namespace L2
open PySem PySem.Spec PySem.Calls PyProof.Rows
section
variable {X:Cx}
end
section
variable {P:Program} {w:World} {K:PySem.W.Frag} {mg:Str→Option Value} {base:Heap}
end
end L2
end
section
namespace L2
open PySem PySem.Spec PyProof.Rows
section
variable {κ:Type} [DecidableEq κ]
def qdX (kvs:List (κ×V)) (k:κ):Option V:=(kvs.find? fun kv=>decide (kv.1=k)).map (·.2)
def qev (kvs:List (κ×V)) (k:κ) (v:V):List (κ×V):=
 if (kvs.any fun kv=>decide (kv.1=k))=true then kvs.map (fun kv=>if kv.1=k then (kv.1,v) else kv) else kvs++[(k,v)]
theorem qbw {p:κ×V} {r:List (κ×V)} {k:κ} (e:p.1=k):qdX (p::r) k=some p.2:=by simp[qdX,List.find?_cons,e]
theorem qbx {p:κ×V} {r:List (κ×V)} {k:κ} (e: ¬p.1=k):qdX (p::r) k=qdX r k:=by simp[qdX,List.find?_cons,e]
theorem qes (k:κ): ∀kvs:List (κ×V),(kvs.any fun kv=>decide (kv.1=k))=(qdX kvs k).isSome
 | []=>rfl
 | p::r=>by
  rw[List.any_cons]
  by_cases e:p.1=k
  ·simp only[qbw e,decide_eq_true e,Bool.true_or,Option.isSome_some]
  ·rw[qbx e,decide_eq_false e,Bool.false_or]; exact qes k r
theorem qh9 (k j:κ) (y:V): ∀kvs:List (κ×V),qdX (kvs.map fun kv=>if kv.1=k then (kv.1,y) else kv) j=(qdX kvs j).map fun x=>if j=k then y else x
 | []=>rfl
 | p::r=>by
  have ih:=qh9 k j y r
  rw[List.map_cons]
  by_cases h:p.1=k
  ·rw[if_pos h]
   by_cases e:p.1=j
   ·rw[qbw (p:=(p.1,y)) e,qbw e,Option.map_some,if_pos (e.symm.trans h)]
   ·rw[qbx (p:=(p.1,y)) e,qbx e,ih]
  ·rw[if_neg h]
   by_cases e:p.1=j
   ·rw[qbw (p:=p) e,qbw e,Option.map_some,if_neg (fun z=>h (e.trans z))]
   ·rw[qbx (p:=p) e,qbx e,ih]
theorem qgf (k j:κ) (y:V): ∀kvs:List (κ×V),qdX kvs k=none→qdX (kvs++[(k,y)]) j=if j=k then some y else qdX kvs j
 | [],_=>by
  by_cases e:k=j
  ·rw[if_pos e.symm]; exact qbw (p:=(k,y)) e
  ·rw[if_neg (fun z=>e z.symm)]; exact qbx (p:=(k,y)) e
 | p::r,hn=>by
  rw[List.cons_append]
  have hk: ¬p.1=k:=fun z=>by rw[qbw z] at hn; cases hn
  rw[qbx hk] at hn
  have ih:=qgf k j y r hn
  by_cases e:p.1=j
  ·rw[qbw e,qbw e,if_neg (fun z=>hk (e.trans z))]
  ·rw[qbx e,qbx e,ih]
theorem qmj (kvs:List (κ×V)) (k j:κ) (y:V):qdX (qev kvs k y) j=if j=k then some y else qdX kvs j:=by
 unfold qev
 by_cases a:(kvs.any fun kv=>decide (kv.1=k))=true
 ·rw[if_pos a,qh9]
  rw[qes] at a
  by_cases e:j=k
  ·obtain ⟨x,hx⟩:=Option.isSome_iff_exists.mp a
   rw[if_pos e,e,hx,Option.map_some,if_pos rfl]
  ·rw[if_neg e]
   cases qdX kvs j with
   | none=>rfl
   | some x=>rw[Option.map_some,if_neg e]
 ·rw[if_neg a]
  refine qgf k j y kvs ?_
  rw[qes] at a
  cases q:qdX kvs k with
  | none=>rfl
  | some x=>rw[q] at a; exact (a rfl).elim
theorem qhE (kvs:List (κ×V)) (k:κ) (v:V):(qev kvs k v).length≤kvs.length+1:=by
 unfold qev
 split
 ·rw[List.length_map]; omega
 ·rw[List.length_append,List.length_cons,List.length_nil]; omega
theorem qgd.isSome_eq {o:Option V} {u:Option Value} (r:qgd o u):o.isSome=u.isSome:=by
 cases o with
 | none=>cases u with
  | none=>rfl
  | some _=>exact (show False from r).elim
 | some _=>cases u with
  | none=>exact (show False from r).elim
  | some _=>rfl
theorem qgd.getD {o:Option V} {u:Option Value} {d:V} {d':Value} (r:qgd o u) (rd:RelV d d'):RelV (o.getD d) (u.getD d'):=by
 cases o with
 | none=>cases u with
  | none=>exact rd
  | some _=>exact (show False from r).elim
 | some _=>cases u with
  | none=>exact (show False from r).elim
  | some _=>exact r
theorem KV.val {kvs:List (κ×V)} {vs:List (κ×Value)} (r:KV kvs vs) (k:κ):qgd (qdX kvs k) (valueAt vs k):=by
 unfold KV at r
 induction r with
 | nil=>exact True.intro
 | @cons p q ps qs h t ih=>
  obtain ⟨h1,h2⟩:=h
  by_cases e:p.1=k
  ·have e':q.1=k:=h1.symm.trans e
   have b:valueAt (q::qs) k=some q.2:=by simp[valueAt,List.find?_cons,e']
   rw[qbw e,b]; exact h2
  ·have e': ¬q.1=k:=fun z=>e (h1.trans z)
   have b:valueAt (q::qs) k=valueAt qs k:=by simp[valueAt,List.find?_cons,e']
   rw[qbx e,b]; exact ih
theorem KV.any {kvs:List (κ×V)} {vs:List (κ×Value)} (r:KV kvs vs) (k:κ):(kvs.any fun kv=>decide (kv.1=k))=vs.any fun kv=>decide (kv.1=k):=by
 unfold KV at r
 induction r with
 | nil=>rfl
 | cons h t ih=>rw[List.any_cons,List.any_cons,ih,h.1]
theorem KV.repl {kvs:List (κ×V)} {vs:List (κ×Value)} (r:KV kvs vs) (k:κ) {y:V} {u:Value} (ry:RelV y u):
  KV (kvs.map fun kv=>if kv.1=k then (kv.1,y) else kv) (vs.map fun kv=>if kv.1=k then (kv.1,u) else kv):=by
 unfold KV at r⊢
 induction r with
 | nil=>exact .nil
 | @cons p q ps qs h t ih=>
  rw[List.map_cons,List.map_cons]
  refine .cons ?_ ih
  obtain ⟨h1,h2⟩:=h
  by_cases e:p.1=k
  ·rw[if_pos e,if_pos (h1.symm.trans e)]; exact ⟨h1,ry⟩
  ·rw[if_neg e,if_neg (fun z=>e (h1.trans z))]; exact ⟨h1,h2⟩
theorem KV.put {kvs:List (κ×V)} {vs:List (κ×Value)} (r:KV kvs vs) (k:κ) {y:V} {u:Value} (ry:RelV y u):KV (qev kvs k y) (stored vs k u):=by
 unfold qev stored
 rw[r.any k]
 by_cases e:(vs.any fun kv=>decide (kv.1=k))=true
 ·rw[if_pos e,if_pos e]; exact r.repl k ry
 ·rw[if_neg e,if_neg e]; exact Paired.snoc r ⟨rfl,ry⟩
theorem KV.keys {kvs:List (κ×V)} {vs:List (κ×Value)} (r:KV kvs vs):kvs.map (·.1)=vs.map (·.1):=by
 unfold KV at r
 induction r with
 | nil=>rfl
 | cons h t ih=>rw[List.map_cons,List.map_cons,ih,h.1]
theorem KV.length {kvs:List (κ×V)} {vs:List (κ×Value)} (r:KV kvs vs):kvs.length=vs.length:=Paired.length r
end
theorem qm1 {P:Program} {w:World} {k:Key} {u:Value} (r:RelV (kV k) u):(qaY P w).is k u=true:=by
 cases k with
 | inl i=>obtain ⟨t,e⟩:=(show ∃t,u=Value.int i t from r); subst e; exact qhB P w i t
 | inr x=>obtain ⟨t,e⟩:=(show ∃t,u=Value.str x t from r); subst e; exact qhA P w x t
theorem qgH {P:Program} {w:World}: ∀{ks:List Key} {us:List Value},Vals (ks.map kV) us→ItemsAre (qaY P w) ks us
 | [],_,r=>by rw[List.map_nil] at r; cases r; exact .nil
 | k::ks,_,r=>by
  rw[List.map_cons] at r
  cases r with
  | cons h t=>exact .cons (qm1 h) (qgH t)
abbrev KT (H:Hp):List (List Key×V)→List (List Key×Addr×Value)→Prop:=Paired fun p q=>p.1=q.1∧H q.2.1=some (.tup (p.1.map kV))∧RelV p.2 q.2.2
theorem KT.val {H:Hp} {kvs:List (List Key×V)} {xs:List (List Key×Addr×Value)} (r:KT H kvs xs) (k:List Key):qgd (qdX kvs k) ((atKey xs k).map (·.2)):=by
 induction r with
 | nil=>exact True.intro
 | @cons p q ps qs h t ih=>
  obtain ⟨h1,_,h2⟩:=h
  by_cases e:p.1=k
  ·have e':q.1=k:=h1.symm.trans e
   have b:atKey (q::qs) k=some q.2:=by simp[atKey,List.find?_cons,e']
   rw[qbw e,b]; exact h2
  ·have e': ¬q.1=k:=fun z=>e (h1.trans z)
   have b:atKey (q::qs) k=atKey qs k:=by simp[atKey,List.find?_cons,e']
   rw[qbx e,b]; exact ih
theorem KT.repl {H:Hp} {kvs:List (List Key×V)} {xs:List (List Key×Addr×Value)} (r:KT H kvs xs) (k:List Key) {y:V} {u:Value} (ry:RelV y u):
  KT H (kvs.map fun kv=>if kv.1=k then (kv.1,y) else kv) (xs.map (putAt k u)):=by
 induction r with
 | nil=>exact .nil
 | @cons p q ps qs h t ih=>
  rw[List.map_cons,List.map_cons]
  refine .cons ?_ ih
  obtain ⟨h1,h2,h3⟩:=h
  unfold putAt
  by_cases e:p.1=k
  ·rw[if_pos e,if_pos (h1.symm.trans e)]; exact ⟨h1,h2,ry⟩
  ·rw[if_neg e,if_neg (fun z=>e (h1.trans z))]; exact ⟨h1,h2,h3⟩
theorem KT.put {H:Hp} {kvs:List (List Key×V)} {xs:List (List Key×Addr×Value)} (r:KT H kvs xs) (k:List Key) {b:Addr} {y:V} {u:Value} (hb:H b=some (.tup (k.map kV))) (ry:RelV y u):
  KT H (qev kvs k y) (storedH xs k b u):=by
 have e:(kvs.any fun kv=>decide (kv.1=k))=(atKey xs k).isSome:=by
  rw[qes,(r.val k).isSome_eq,Option.isSome_map]
 unfold qev storedH
 rw[e]
 by_cases q:(atKey xs k).isSome=true
 ·rw[if_pos q,if_pos q]; exact r.repl k ry
 ·rw[if_neg q,if_neg q]; exact Paired.snoc r ⟨rfl,hb,ry⟩
theorem KT.keeps {H H':Hp} {kvs:List (List Key×V)} {xs:List (List Key×Addr×Value)} (r:KT H kvs xs) (ht: ∀b ys,H b=some (.tup ys)→H' b=some (.tup ys)):KT H' kvs xs:=
 Paired.mapP r fun _ _ z=>⟨z.1,ht _ _ z.2.1,z.2.2⟩
section
variable {P:Program} {w:World} {H:Hp} {h:Heap} {a:Addr}
theorem qqq {u:HO} (ok:HOk P w H h) (e:Rd H a u):qbT P w H h a u:=e.ok ok
theorem qlH {kvs:List (Key×V)} (ok:HOk P w H h) (e:Rd H a (.dK kvs)):kvs.length≤sizeLine∧(a==sysModules)=false∧∃vs,KV kvs vs∧h.DictOf (qaY P w) a vs:=
 show qbT P w H h a (.dK kvs) from qqq ok e
theorem qs4 {kvs:List (Key×V)} (ok:HOk P w H h) (e:H a=some (.dK kvs)):kvs.length≤sizeLine∧(a==sysModules)=false∧∃vs,KV kvs vs∧h.DictOf (qaY P w) a vs:=qlH ok (.inl e)
theorem qld {ks:List Key} (ok:HOk P w H h) (e:H a=some (.tup (ks.map kV))):(tupleKind (qaY P w)).is h ks a:=by
 obtain ⟨_,its,r,o,h1,h2,n,h3⟩:=(show qbT P w H h a (.tup (ks.map kV)) from ok a _ e)
 exact ⟨o,its.toArray,n,h1,h2,h3,by simpa using qgH r⟩
theorem qnl {kvs:List (List Key×V)} (ok:HOk P w H h) (e:Rd H a (.dT kvs)):kvs.length≤sizeLine∧(a==sysModules)=false∧
  ∃xs,KT H kvs xs∧h.DictOfH (tupleKind (qaY P w)) a xs:=by
 obtain ⟨z,y,xs,r,o,es,ep,h1,h2,h3,h4,h5⟩:=(show qbT P w H h a (.dT kvs) from qqq ok e)
 refine ⟨z,y,xs,r,o,es,ep,h1,h2,h3,h4,fun x hx=> ?_,h5⟩
 have all: ∀{l:List (List Key×V)} {m:List (List Key×Addr×Value)},KT H l m→∀x∈m,(tupleKind (qaY P w)).is h x.1 x.2.1:=by
  intro l m q
  induction q with
  | nil=>intro x hx; exact nomatch hx
  | @cons p q ps qs hq t ih=>
   intro x hx
   rcases List.mem_cons.mp hx with e | hx
   ·subst e
    exact qld ok (by rw[←hq.1]; exact hq.2.1)
   ·exact ih x hx
 exact all r x hx
end
def qpK (H:Hp) (a:Addr) (y:V) (r:Option V):Prop:=
 (∃kvs k,Rd H a (.dK kvs)∧y=kV k∧r=qdX kvs k)∨∃kvs k b,Rd H a (.dT kvs)∧y= .ref b∧H b=some (.tup (k.map kV))∧r=qdX kvs k
def qtX (H:Hp) (a:Addr) (y v:V) (H':Hp):Prop:=
 (∃kvs k,H a=some (.dK kvs)∧y=kV k∧kvs.length<sizeLine∧H'=upd H a (.dK (qev kvs k v)))∨
 ∃kvs k b,H a=some (.dT kvs)∧y= .ref b∧H b=some (.tup (k.map kV))∧kvs.length<sizeLine∧H'=upd H a (.dT (qev kvs k v))
theorem qpK.k {H:Hp} {a:Addr} {kvs:List (Key×V)} {k:Key} (e:H a=some (.dK kvs)):qpK H a (kV k) (qdX kvs k):=.inl ⟨kvs,k,.inl e,rfl,rfl⟩
theorem qtX.k {H:Hp} {a:Addr} {kvs:List (Key×V)} {k:Key} {v:V} (e:H a=some (.dK kvs)) (hl:kvs.length<sizeLine):qtX H a (kV k) v (upd H a (.dK (qev kvs k v))):=.inl ⟨kvs,k,e,rfl,hl,rfl⟩
section
variable {X:Cx} {pins:List (Addr×Obj)} {σ:St} {H:Hp} {s:Shared} {a:Addr} {y v:V} {u r:Value} {o:Option V} {A:Around} {E:Value→Shared→Prop}
theorem Inv.big (I:Inv X pins σ H s):sysModules<s.heap.objs.size:=by
 have h:mainGlobals<s.heap.objs.size:=(I.mod.glob.keeps I.bk).lt
 exact Nat.lt_trans (by decide) h
theorem qlR {Q:Value→Shared→Prop} (hu:A.units+1<cLine) (I:Inv X pins σ H s) (g:qpK H a y (some v)) (ry:RelV y u) (h: ∀w' s',Inv X pins σ H s'→RelV v w'→Q w' s'):
  wpAny (model X.prog X.w) A (getItem (.ref a) u) Q E s:=by
 rcases g with ⟨kvs,k,e,ey,l⟩ | ⟨kvs,k,b,e,ey,eb,l⟩
 ·subst ey
  obtain ⟨z,hd,vs,rel,dd⟩:=qlH I.hok e
  obtain ⟨w',hw,rw'⟩:=qgd.some_of (v:=v) (o:=valueAt vs k) (by rw[l]; exact rel.val k)
  exact wpAny_getItem_of (qm1 ry) dd.mapOf hw (h w' _ (I.tok _) rw')
 ·subst ey
  cases (show u=Value.ref b from ry)
  obtain ⟨z,hd,xs,rel,dd⟩:=qnl I.hok e
  obtain ⟨w',hw,rw'⟩:=qgd.some_of (v:=v) (o:=(atKey xs k).map (·.2)) (by rw[l]; exact rel.val k)
  obtain ⟨p,hp,hp2⟩:=Option.map_eq_some_iff.mp hw
  refine wpAny_getItem_heap (tupleKind_room_in1 hu) (qld I.hok eb) dd hp ?_
  rw[hp2]
  exact h w' _ (I.tok _) rw'
theorem qq6 {P:Program} {w:World} {H':Hp} {h':Heap} {kvs:List (Key×V)} {vs:List (Key×Value)} (z:kvs.length≤sizeLine) (hd:(a==sysModules)=false) (rel:KV kvs vs) (dd:h'.DictOf (qaY P w) a vs):
  qbT P w H' h' a (.dK kvs):=⟨z,hd,vs,rel,dd⟩
end
section
variable {X:Cx} {pins:List (Addr×Obj)} {σ:St} {H:Hp} {s:Shared} {a:Addr} {kvs:List (Key×V)} {k:Key} {u:Value} {A:Around} {E:Value→Shared→Prop}
end
def qtf (i:Expr):Prop:= ∀ov iv,subscripted i false ov iv=operate [ov,iv] (getItem ov iv)
theorem qoz {prog:Program} {w:World} {A:Around} {E:Value→Shared→Prop} {s:Shared} {env:Env} {value slice:Expr} {pos:Pos} {T id:String} {Q:Value→Shared→Prop}
  (hl:typeLookup (.type T) "__getitem__" =pure (some (.builtin id))) (hs:qtf slice)
  (h:wpAny (model prog w) A (eval value env) (fun o s₁=>wpAny (model prog w) A (eval slice env) (fun i s₂=>s₂.TypeIs o T∧wpAny (model prog w) A (getItem o i) Q E s₂) E s₁) E s):
  wpAny (model prog w) A (eval (.Subscript value slice pos) env) Q E s:=by
 refine Subscript_ (wpAny_mono h (fun o s₁ h₁=>wpAny_mono h₁ (fun i s₂ h₂=> ?_) fun _ _ x=>x) fun _ _ x=>x)
 obtain ⟨hT,h₂⟩:=h₂
 unfold subscriptTail
 refine wpAny_bind ?_
 rw[getitemInPython_of_ne hT.not_modules]
 refine wpAny_bind (wpAny_specialOf hT hl ?_)
 have fin:wpAny (model prog w) A (subscripted slice false o i) (fun r s₃=>wpAny (model prog w) A (letTemporaryGo value o r>>=fun _=>pure r) Q E s₃) E s₂:=by
  rw[hs o i]
  exact wpAny_operating (wpAny_mono h₂ (fun r s₃ h₃=>wpAny_bind (wpAny_letTemporaryGo (wpAny_pure h₃))) fun _ _ x=>x)
 first
  | exact wpAny_pure (wpAny_bind fin)
  | exact wpAny_bind (wpAny_pure (wpAny_bind fin))
  | exact wpAny_bind fin
theorem qhW {X:Cx} {pins:List (Addr×Obj)} {σ:St} {H:Hp} {s:Shared} {a:Addr} {y:V} {o:Option V} (I:Inv X pins σ H s) (g:qpK H a y o):s.TypeIs (.ref a) "dict" :=by
 rcases g with ⟨kvs,k,e,_,_⟩ | ⟨kvs,k,b,e,_,_,_⟩
 ·obtain ⟨_,_,vs,_,dd⟩:=qlH I.hok e
  exact dd.typeIs
 ·obtain ⟨_,_,xs,_,dd⟩:=qnl I.hok e
  exact dd.typeIs
def qrS (td ty:TE):TE:=fun σ H Q=>td σ H fun x H1=>ty σ H1 fun y H2=> ∃a v,x= .ref a∧qpK H2 a y (some v)∧Q v H2
section
variable {X:Cx} {o i e value:Expr} {pos pos' tpos:Pos} {td ty tv:TE}
theorem qoS (hu:X.A.units+1<cLine) (ho:PE X o td) (hi:PE X i ty) (hs:qtf i):PE X (.Subscript o i pos) (qrS td ty):=by
 intro pins s σ H Q I h
 refine qoz PySem.F.slot_dict_getitem.lookup hs (thn (ho pins s σ H _ I h) fun u s1 ⟨x,H1,I1,rx,q1⟩=>thn (hi pins s1 σ H1 _ I1 q1) fun iv s2 ⟨y,H2,I2,ry,a,v,ex,g,q2⟩=> ?_)
 subst ex
 obtain rfl:u=Value.ref a:=rx
 exact ⟨qhW I2 g,qlR hu I2 g ry fun w' s3 I3 rw'=>⟨v,H2,I3,rw',q2⟩⟩
end
section
variable {X:Cx} {pos:Pos}
end
structure M1 (X:Cx) (o:Expr) (m:Str) (apos:Pos) (e:Expr) (cpos:Pos):Prop where
 base:attributeBase o m X.env (eval o X.env)=eval o X.env
 few:((backTo cpos (starEach [e] X.env)).all (fun x=> !x.1)&&(backToKw cpos (keywordEach [] X.env)).all (fun x=>x.1.isSome)
  &&decide (([e]:List Expr).length+([]:List Keyword).length+(if ([]:List Keyword).isEmpty then 0 else 1)<30))=true
 line:(apos.endLine==cpos.line)=true
 trees:backTo cpos (starEach [e] X.env)=[(false,eval e X.env)]
structure M2 (X:Cx) (o:Expr) (m:Str) (apos:Pos) (e f:Expr) (cpos:Pos):Prop where
 base:attributeBase o m X.env (eval o X.env)=eval o X.env
 few:((backTo cpos (starEach [e,f] X.env)).all (fun x=> !x.1)&&(backToKw cpos (keywordEach [] X.env)).all (fun x=>x.1.isSome)
  &&decide (([e,f]:List Expr).length+([]:List Keyword).length+(if ([]:List Keyword).isEmpty then 0 else 1)<30))=true
 line:(apos.endLine==cpos.line)=true
 trees:backTo cpos (starEach [e,f] X.env)=[(false,eval e X.env),(false,eval f X.env)]
def IsD (H:Hp) (a:Addr):Prop:=(∃kvs,Rd H a (.dK kvs))∨∃kvs,Rd H a (.dT kvs)
theorem qqX {X:Cx} {pins:List (Addr×Obj)} {σ:St} {H:Hp} {s:Shared} {a:Addr} (I:Inv X pins σ H s) (d:IsD H a):
  s.TypeIs (.ref a) "dict" ∧(∀b,Value.ref a= .ref b→∃ob,s.heap.get? b=some ob∧ob.dict=none)∧(a==sysModules)=false:=by
 rcases d with ⟨kvs,e⟩ | ⟨kvs,e⟩
 ·obtain ⟨_,hd,vs,_,dd⟩:=qlH I.hok e
  refine ⟨dd.typeIs,fun b q=> ?_,hd⟩
  cases q
  obtain ⟨ob,_,_,h1,h2,_⟩:=dd
  exact ⟨ob,h1,h2.2.1⟩
 ·obtain ⟨_,hd,xs,_,dd⟩:=qnl I.hok e
  refine ⟨dd.typeIs,fun b q=> ?_,hd⟩
  cases q
  obtain ⟨ob,_,_,h1,h2,_⟩:=dd
  exact ⟨ob,h1,h2.2.1⟩
section
variable {X:Cx} {pins:List (Addr×Obj)} {σ:St} {H:Hp} {s:Shared} {a:Addr} {y d:V} {u r:Value} {o:Option V} {A:Around} {E:Value→Shared→Prop}
theorem qrf {Q:Value→Shared→Prop} (hu:A.units+1<cLine) (I:Inv X pins σ H s) (g:qpK H a y o) (ry:RelV y u) (rd:RelV d r) (h: ∀w' s',Inv X pins σ H s'→RelV (o.getD d) w'→Q w' s'):
  wpAny (model X.prog X.w) A (call (.builtin "dict.get") [.ref a,u,r]) Q E s:=by
 rcases g with ⟨kvs,k,e,ey,l⟩ | ⟨kvs,k,b,e,ey,eb,l⟩
 ·subst ey
  obtain ⟨z,hd,vs,rel,dd⟩:=qlH I.hok e
  refine call_meetsIn PySem.F.slot_dict_get dd.typeIs PySem.F.entry_dict_get (PySem.F.args_dict_get_3 _ _ _) (meets_dict_get_default (qaY X.prog X.w) a (qm1 ry) hd r) ⟨_,dd.mapOf,h _ _ (I.tok _) ?_⟩
  rw[l]
  exact (rel.val k).getD rd
 ·subst ey
  cases (show u=Value.ref b from ry)
  obtain ⟨z,hd,xs,rel,dd⟩:=qnl I.hok e
  refine call_meetsIn PySem.F.slot_dict_get dd.typeIs PySem.F.entry_dict_get (PySem.F.args_dict_get_3 _ _ _) (meetsH_dict_get_default (tupleKind (qaY X.prog X.w)) a b hd r) ⟨tupleKind_room_in1 hu,k,xs,qld I.hok eb,dd,h _ _ (I.tok _) ?_⟩
  rw[l]
  exact (rel.val k).getD rd
end
def qp8 (td ty tx:TE):TE:=fun σ H Q=>td σ H fun x H1=> ∃a,x= .ref a∧IsD H1 a∧ty σ H1 fun y H2=>tx σ H2 fun z H3=> ∃o,qpK H3 a y o∧Q (o.getD z) H3
section
variable {X:Cx} {o e f:Expr} {apos cpos:Pos} {td ty tx:TE}
theorem qmJ (hu:X.A.units+1<cLine) (ho:PE X o td) (he:PE X e ty) (hf:PE X f tx) (m:M2 X o "get" apos e f cpos):PE X (.Call (.Attribute o "get" apos) [e,f] [] cpos) (qp8 td ty tx):=by
 intro pins s σ H Q I h
 refine wpAny_Call_method m.base m.few m.line PySem.F.plainAttrs_dict PySem.F.slot_dict_get PySem.F.type_dict_get (thn (ho pins s σ H _ I h) fun u s1 ⟨x,H1,I1,rx,a,ex,d,q1⟩=> ?_)
 subst ex
 obtain rfl:u=Value.ref a:=rx
 obtain ⟨t1,t2,_⟩:=qqX I1 d
 refine ⟨t1,t2,?_⟩
 rw[m.trees]
 refine Calls.callWith_builtin rfl (Calls.evalArgs_plain (Calls.spliced_cons (thn (he pins s1 σ H1 _ I1 q1) fun iv s2 ⟨y,H2,I2,ry,q2⟩=>
  Calls.spliced_cons (thn (hf pins s2 σ H2 _ I2 q2) fun fv s3 ⟨z,H3,I3,rz,ov,g,q3⟩=>Calls.spliced_nil ?_))))
 exact qrf hu I3 g ry rz fun w' s4 I4 rw'=>⟨_,H3,I4,rw',q3⟩
end
section
variable {X:Cx} {pins:List (Addr×Obj)} {σ:St} {H:Hp} {s:Shared} {a:Addr} {kvs:List (Key×V)} {A:Around} {E:Value→Shared→Prop}
end
section
variable {X:Cx} {pins:List (Addr×Obj)} {σ:St} {H:Hp} {s:Shared} {a:Addr} {y:V} {u:Value} {A:Around} {E:Value→Shared→Prop}
end
end L2
namespace L2
open PySem PySem.Spec PyProof.Rows
section
variable {X:Cx}
end
section
variable {κ:Type} [DecidableEq κ]
end
end L2
end
section
namespace RH
open PySem L2
theorem qgI {b:Bool} {A B:Prop} (h:b=true) (hA:A):if b=true then A else B:=by rw[if_pos h]; exact hA
theorem qhL {b:Bool} {A B:Prop} (h:b=false) (hB:B):if b=true then A else B:=by rw[if_neg (by rw[h]; decide)]; exact hB
theorem qa3 {H:Hp} {D:Addr} {o:HO} (h:H D=none):qck H (upd H D o):=fun b u e=>by
 rw[qae (qak e h)]
 exact e
theorem qdr {X:Cx} (K:PySem.W.Frag) (h:X.K=K):IxR X (qsr K):=by rw[←h]; exact qca
theorem qiK {X:Cx} (K:PySem.W.Frag) (h:X.K=K):IxR X (qss K):=by rw[←h]; exact qli
theorem qoO {X:Cx} (K:PySem.W.Frag) (h:X.K=K) {es:List Expr} {k n:Nat} {t:TGs} {pos:Pos} (hc:X.calm=true) (hs:PGs X es t) (hn:(assignEach es X.env).length=n:=by rfl) (hst:(assignEach es X.env).findIdx? (·.1)=none:=by rfl):PG X (.Tuple es k pos) (qtC K n t):=by
 rw[←h]
 exact qn2 hc hs hn hst
theorem fr_ok {X:Cx} {sc sd:Scope} (hX:X.env.scope=sd) (h:(sc.names.all fun y=>y.2 != .free||(sd.names.lookup y.1==some .cell))=true): ∀y∈sc.names,y.2= .free→X.env.kindOf y.1=some .cell∨X.env.kindOf y.1=some .free:=by
 intro y hy e
 have h1:=List.all_eq_true.mp h y hy
 rw[e] at h1
 have h2:sd.names.lookup y.1=some .cell:=by simpa using h1
 refine .inl ?_
 show X.env.scope.names.lookup y.1=some .cell
 rw[hX]
 exact h2
abbrev Rw:=Int×Str×Int
def qf9 (r:Rw):List V:=[.int r.1,.str r.2.1,.int r.2.2]
def qbD (H:Hp) (xs:List V) (rs:List Rw):Prop:=xs.length=rs.length∧∀(i:Nat) (x:V) (r:Rw),xs[i]? =some x→rs[i]? =some r→∃t,x= .ref t∧H t=some (.tup (qf9 r))
theorem qbD.same {H H':Hp} {xs:List V} {rs:List Rw} (h:qbD H xs rs) (e:qck H H'):qbD H' xs rs:=⟨h.1,fun i x r a b=>let ⟨t,c,d⟩:=h.2 i x r a b; ⟨t,c,e _ _ d⟩⟩
theorem qbD.snoc {H:Hp} {xs:List V} {rs:List Rw} {t:Addr} {r:Rw} (h:qbD H xs rs) (ht:H t=some (.tup (qf9 r))):qbD H (xs++[.ref t]) (rs++[r]):=by
 refine ⟨by simp[h.1],fun i x r' a b=> ?_⟩
 by_cases c:i<xs.length
 ·rw[List.getElem?_append_left c] at a
  rw[List.getElem?_append_left (by rw[←h.1]; exact c)] at b
  exact h.2 i x r' a b
 ·rw[List.getElem?_append_right (by lia)] at a
  rw[List.getElem?_append_right (by rw[←h.1]; lia),←h.1] at b
  cases e:i - xs.length with
  | zero=>
   rw[e] at a b
   simp at a b
   subst a b
   exact ⟨t,rfl,ht⟩
  | succ j=>
   rw[e] at a
   simp at a
theorem qbD.nil {H:Hp}:qbD H [] []:=⟨rfl,fun i x r a=>by simp at a⟩
theorem qbD.get {H:Hp} {xs:List V} {rs:List Rw} (h:qbD H xs rs) {i:Nat} {x:V} (e:xs[i]? =some x): ∃r t,rs[i]? =some r∧x= .ref t∧H t=some (.tup (qf9 r)):=by
 have hi:i<rs.length:=by rw[←h.1]; exact (List.getElem?_eq_some_iff.mp e).1
 obtain ⟨t,a,b⟩:=h.2 i x rs[i] e (List.getElem?_eq_getElem hi)
 exact ⟨rs[i],t,List.getElem?_eq_getElem hi,a,b⟩
end RH
end
section
namespace RH
open PySem L2
def qp0 (rs:List Rw) (k:Str):List Int:=(rs.filter fun r=>decide (r.2.1=k)).map (·.2.2)
theorem ql2 (rs:List Rw) (r:Rw) (k:Str):qp0 (rs++[r]) k=qp0 rs k++if r.2.1=k then [r.2.2] else []:=by
 unfold qp0
 rw[List.filter_append,List.map_append]
 by_cases c:r.2.1=k
 ·simp[c]
 ·simp[c]
def outT (g:List Int→Rw→Option Rw) (rs:List Rw) (i:Nat):List Rw:=(List.range i).filterMap fun j=>(rs[j]?).bind fun r=>g (qp0 (rs.take j) r.2.1) r
def qth (st:List Int→Option Int) (kvs:List (Key×V)) (rs:List Rw):Prop:=(∀k:Str,qdX kvs (Sum.inr k)=(st (qp0 rs k)).map V.int)∧kvs.length≤rs.length
theorem qmD (kvs:List (Key×V)) (k:Key) (v:V):(qev kvs k v).length≤kvs.length+1:=by
 unfold qev
 split
 ·simp
 ·simp
theorem qth.put {st:List Int→Option Int} {kvs:List (Key×V)} {rs:List Rw} {r:Rw} {n:Int} (h:qth st kvs rs) (hn:st (qp0 rs r.2.1++[r.2.2])=some n):qth st (qev kvs (Sum.inr r.2.1) (.int n)) (rs++[r]):=by
 refine ⟨fun k=> ?_,by have:=qmD kvs (Sum.inr r.2.1) (.int n); rw[List.length_append,List.length_singleton]; have:=h.2; lia⟩
 rw[qmj,ql2]
 by_cases c:k=r.2.1
 ·subst c
  rw[if_pos rfl,if_pos rfl,hn]
  rfl
 ·rw[if_neg (fun z=>c (by injection z)),if_neg (fun z=>c z.symm),List.append_nil]
  exact h.1 k
end RH
end
section
namespace RH
open PySem PySem.Spec PyProof.Rows L2
end RH
end
section
namespace L2
open PySem PySem.Spec PyProof.Rows
end L2
namespace RH
open PySem L2
end RH
end
section
namespace RH
open PySem PySem.Spec PyProof.Rows L2
section
variable {X:Cx}
theorem VEq.row {H:Hp} {t t':Addr} {r:Rw} (hu:X.A.units+2<cLine) (h1:H t=some (.tup (qf9 r))) (h2:H t'=some (.tup (qf9 r))):VEq X H (.ref t) (.ref t') true:=by
 intro pins σ s u v I ru rv
 cases ru; cases rv
 by_cases z:t=t'
 ·subst z
  exact SeqAt.EqAt.same _
 ·obtain ⟨i1,r1,p1,_⟩:=I.tuple (SqT.of h1)
  obtain ⟨i2,r2,p2,_⟩:=I.tuple (SqT.of h2)
  refine SeqAt.EqAt.of_refs z ?_
  have l1:=r1.length
  have l2:=r2.length
  have q:=SeqAt.RcAt.tuples (A:=X.A.in1) (e:=fun _=>true) p1 p2 (by show X.A.units+1<cLine; lia) (fun j a1 a2=> ?_)
  ·have e:((List.range (min i1.toArray.size i2.toArray.size)).all (fun _=>true)&&i1.toArray.size==i2.toArray.size)=true:=by
    simp[←l1,←l2]
   rw[e] at q
   exact q
  ·have hi: ∀(i:Int) (t u:Tok),SeqAt.EqAt X.A.in1.in1 s (.int i t) (.int i u) true:=fun i t u=>by
    have h:=SeqAt.EqAt.int_int (A:=X.A.in1.in1) (s:=s) i t i u
    rw[beq_self_eq_true] at h
    exact h
   have hs: ∀(i:Str) (t u:Tok),SeqAt.EqAt X.A.in1.in1 s (.str i t) (.str i u) true:=fun i t u=>by
    have h:=SeqAt.EqAt.str_str (A:=X.A.in1.in1) (s:=s) i t i u
    rw[beq_self_eq_true] at h
    exact h
   cases r1 with
   | cons ra ra'=>cases ra' with
    | cons rb rb'=>cases rb' with
     | cons rc rc'=>cases rc' with
      | nil=>cases r2 with
       | cons sa sa'=>cases sa' with
        | cons sb sb'=>cases sb' with
         | cons sc sc'=>cases sc' with
          | nil=>
           obtain ⟨_,rfl⟩:=ra
           obtain ⟨_,rfl⟩:=rb
           obtain ⟨_,rfl⟩:=rc
           obtain ⟨_,rfl⟩:=sa
           obtain ⟨_,rfl⟩:=sb
           obtain ⟨_,rfl⟩:=sc
           match j,a1 with
           | 0,_=>exact hi _ _ _
           | 1,_=>exact hs _ _ _
           | 2,_=>exact hi _ _ _
           | n+3,a1=>exact absurd a1 (by simp)
theorem qoR {e:Expr} {f:Str} {pos:Pos} {ta:TE} (K:PySem.W.Frag) (h:X.K=K) (he:PE X e ta) (hb:attributeBase e f X.env (eval e X.env)=eval e X.env):PE X (.Attribute e f pos) (qto K ta f):=by
 rw[←h]
 exact qfh he hb
end
end RH
end
section
namespace St
open PySem PySem.W PySem.Calls PyProof.Rows
section
variable {prog:Program} {w:World} {A:Around} {E:Value→Shared→Prop} {s:Shared} {D:Addr} {vs:List Value} {kz:List Int} {P:PySem.Fin→Shared→Prop} {h0:Heap}
theorem qhm {n:Nat} (h:n<2):Order kz n (List.toArray (List.range n)):=by
 refine ⟨⟨by simp,fun i hi=> ?_,fun i q1 q2=>by lia⟩,fun i j hij hj=>by lia⟩
 unfold g
 rw[Array.getD_eq_getD_getElem?]
 simp[hi]
theorem lsort_p {n:Nat} {κ:SortKind} (ho:s.heap.get? D=some (seqObj "list" vs.toArray n)) (hlen:kz.length=vs.length) (h64:vs.length<64) (kp:Kp h0 s.heap) (hD0:h0.get? D=none)
  (kind: ∀s':Shared,Kp h0 s'.heap→2≤vs.length→∀Q:SortKind→Shared→Prop,Q κ s'→wpAny (model prog w) A (keyKind' vs.toArray) Q E s')
  (cmp: ∀s':Shared,Kp h0 s'.heap→∀i j,i<vs.length→j<vs.length→∀C:Bool→Shared→Prop,C (decide (kz.getD i 0<kz.getD j 0)) s'→wpAny (model prog w) A (keyLt' κ (vs.getD i Value.none) (vs.getD j Value.none)) C (fun _ _=>False) s')
  (h: ∀h' tk c (p:Array Nat),Kp h0 h'→Order kz vs.length p→h'.get? D=some (seqObj "list" (List.toArray (p.toList.map fun i=>vs.getD i Value.none)) c)→P (.done (.ret .none)) { s with heap:=h',toks:=tk }):
  wpAny (model prog w) A (Builtin.«list.sort» ⟨[.ref D],[]⟩) P E s:=by
 rw[list_sort_plain]
 have s1:=Heap.SameBut.update s.heap D (Obj.mapSeq fun _=>(#[]:Array Value))
 obtain ⟨e1,ho1⟩: ∃e1,(s.heap.update D (Obj.mapSeq fun _=>(#[]:Array Value))).get? D=some (seqObj "list" #[] e1):=⟨_,get?_update_seq ho fun _=> #[]⟩
 refine wpAny_bind (listItems_at ho rfl ?_)
 refine wpAny_bind (listUpdate_at ho rfl ?_ (by rw[List.size_toArray,sizeLine_eq]; lia) (Nat.zero_le _))
 refine wpAny_bind (seqEpoch_at ho1 rfl ?_)
 generalize hH2:s.heap.update D (Obj.mapSeq fun _=>(#[]:Array Value))=H2 at ho1 s1⊢
 have kp3:Kp h0 H2:=fun b o z=>(s1.2 b (fun q=>by rw[q,hD0] at z; cases z)).trans (kp b o z)
 refine wpAny_bind (wpAny_newTuple ?_ (by show vs.length≤_; rw[sizeLine_eq]; lia))
 refine wpAny_bind (wpAny_newList ?_ (Nat.zero_le _))
 refine wpAny_holding ?_
 generalize hH3:(H2.push (seqObj "tuple" vs.toArray 0)).push (seqObj "list" #[] 0)=H3
 have hD3:H3.get? D=some (seqObj "list" #[] e1):=by rw[←hH3]; exact Heap.get?_push_of_some _ (Heap.get?_push_of_some _ ho1)
 have kp4:Kp h0 H3:=fun b o z=>by rw[←hH3]; exact Heap.get?_push_of_some _ (Heap.get?_push_of_some _ (kp3 b o z))
 have fin: ∀(st:SortSt) (p:Array Nat),Order kz vs.length p→(arrOf st).map (·.2)=List.toArray (p.toList.map fun i=>vs.getD i Value.none)→failedOf st=none→
   wpAny (model prog w) A (do
    let touched:=(←seqEpoch D) != e1
    Builtin.List.listUpdate (.ref D) fun _=>(arrOf st).map (·.2)
    if let some e:=failedOf st then rule "list.sort.comparison-raised"; throw e
    if touched then rule "list.sort.modified"; raiseError "ValueError" "list modified during sort"
    ret .none) P E { s with heap:=H3 }:=fun st p ho' har hfl=>by
  have hsz:(p.toList.map fun i=>vs.getD i Value.none).length=vs.length:=by rw[List.length_map,Array.length_toList,ho'.1.sz]
  refine wpAny_bind (seqEpoch_at hD3 rfl ?_)
  rw[har]
  refine wpAny_bind (listUpdate_at hD3 rfl ?_ (Nat.zero_le _) (by show (List.toArray _).size≤_; rw[List.size_toArray,hsz,sizeLine_eq]; lia))
  rw[hfl]
  simp only[bne_self_eq_false,Bool.false_eq_true,if_false]
  have hfin: ∃c,(H3.update D (Obj.mapSeq fun _=>List.toArray (p.toList.map fun i=>vs.getD i Value.none))).get? D=some (seqObj "list" (List.toArray (p.toList.map fun i=>vs.getD i Value.none)) c):=⟨_,get?_update_seq hD3 fun _=>List.toArray (p.toList.map fun i=>vs.getD i Value.none)⟩
  obtain ⟨c,hc⟩:=hfin
  refine wpAny_pure (h _ _ c p (fun b o q=> ?_) ho' hc)
  have nD:b≠D:=fun z=>by rw[z,hD0] at q; cases q
  exact ((Heap.SameBut.update H3 D _).2 b nD).trans (kp4 b o q)
 by_cases h2:vs.toArray.size<2
 ·rw[if_pos h2,if_pos h2]
  refine wpAny_bind (wpAny_pure ?_)
  dsimp only
  rw[StateT.run_pure]
  refine wpAny_bind (wpAny_pure ?_)
  rw[List.size_toArray] at h2
  refine fin _ _ (qhm h2) ?_ rfl
  show (vs.toArray.zip vs.toArray).map (·.2)=_
  apply Array.toList_inj.mp
  rw[Array.toList_map,ksk_zip,List.toList_toArray,List.toList_toArray]
  rw[show (vs.zip vs).map (fun x:Value×Value=>x.2)=vs from List.map_snd_zip (by lia)]
  apply List.ext_getElem
  ·simp
  ·intro i h3 h4
   simp[List.getElem?_eq_getElem h3]
 ·rw[if_neg h2,if_neg h2]
  rw[List.size_toArray] at h2
  refine wpAny_bind (kind { s with heap:=H3 } kp4 (by lia) _ ?_)
  have run:=kat_run (prog:=prog) (w:=w) (A:=A) (E:=E) (s:={ s with heap:=H3 }) (κ:=κ) (ks:=vs) (vs:=vs) (Q:=fun st s'=>s'={ s with heap:=H3 }∧∃p,Order kz vs.length p∧(arrOf st).map (·.2)=List.toArray (p.toList.map fun i=>vs.getD i Value.none)∧failedOf st=none)
   (G:=fun p s'=>s'={ s with heap:=H3 }∧Order kz vs.length p) rfl (by lia) h64 (fun p st' s' a1 a2 a3 a4=>⟨a4.1,p,a4.2,kat_snds rfl a2,a3⟩)
   (qhP (ask:=qdx fun i=>kz.getD i 0) (N:=vs.length) (fun i j C hi hj hc=>cmp { s with heap:=H3 } kp4 i j hi hj C hc) (fun p hp=>⟨rfl,hp⟩) (qkd (by lia)))
  refine wpAny_bind (wpAny_mono run (fun r s' hr=> ?_) fun _ _ x=>x)
  obtain ⟨rfl,p,ho',har,hf⟩:=hr
  exact fin _ p ho' har hf
end
end St
namespace St
open PySem PySem.W PySem.Calls PyProof.Rows
section
variable {prog:Program} {w:World} {A:Around} {E:Value→Shared→Prop} {s:Shared} {l:Addr} {vs:List Value} {kz:List Int} {Q:Value→Shared→Prop}
theorem sorted_p {κ:SortKind} (hl:s.heap.IsList l vs.toArray) (hlen:kz.length=vs.length) (h64:vs.length<64)
  (kind: ∀s':Shared,Kp s.heap s'.heap→2≤vs.length→∀(Q:SortKind→Shared→Prop) (E:Value→Shared→Prop),Q κ s'→wpAny (model prog w) A.in1.in1 (keyKind' vs.toArray) Q E s')
  (cmp: ∀s':Shared,Kp s.heap s'.heap→∀i j,i<vs.length→j<vs.length→∀C:Bool→Shared→Prop,C (decide (kz.getD i 0<kz.getD j 0)) s'→wpAny (model prog w) A.in1.in1 (keyLt' κ (vs.getD i Value.none) (vs.getD j Value.none)) C (fun _ _=>False) s')
  (h: ∀D h' tk c (p:Array Nat),s.heap.objs.size≤D→Kp s.heap h'→Order kz vs.length p→h'.get? D=some (seqObj "list" (List.toArray (p.toList.map fun i=>vs.getD i Value.none)) c)→Q (.ref D) { s with heap:=h',toks:=tk }):
  wpAny (model prog w) A (call (.builtin "sorted") [.ref l]) Q E s:=by
 refine Calls.call_function_entry kind_sorted plain_sorted entry_sorted (args_sorted1 _) ?_
 unfold Builtin.«sorted»
 refine wpAny_bind (m:=checkCount "sorted" 1 1 _) (wpAny_pure ?_)
 refine wpAny_bind (collect_list hl ?_ (by rw[sizeLine_eq]; lia))
 refine wpAny_bind (wpAny_newList ?_ (by rw[sizeLine_eq]; lia))
 have hsz:((s.heap.push (seqObj "list" #[] 0)).update s.heap.objs.size (Obj.mapSeq (· ++vs.toArray))).objs.size=s.heap.objs.size+1:=by
  rw[Heap.size_update,size_push']
 generalize hH1:(s.heap.push (seqObj "list" #[] 0)).update s.heap.objs.size (Obj.mapSeq (· ++vs.toArray))=H1 at hsz⊢
 have kp1:Kp s.heap H1:=fun b o q=>by
  have hlt:b<s.heap.objs.size:=Heap.lt_size q
  rw[←hH1,Heap.get?_update_ne _ _ _ _ (Nat.ne_of_lt hlt),Heap.get?_push_ne _ _ _ (Nat.ne_of_lt hlt)]
  exact q
 have kp2:Kp s.heap (H1.push (seqObj "list" vs.toArray 0)):=fun b o q=>Heap.get?_push_of_some _ (kp1 b o q)
 have hoD:(H1.push (seqObj "list" vs.toArray 0)).get? H1.objs.size=some (seqObj "list" vs.toArray 0):=Heap.get?_push_size _ rfl
 refine wpAny_bind (wpAny_holding (wpAny_call_entry slot_list_sort ⟨_,hoD,rfl⟩ entry_list_sort ?body (args_list_sort _)))
 case body=>
  refine lsort_p (h0:=s.heap) (kz:=kz) (κ:=κ) (s:={ s with heap:=H1.push (seqObj "list" vs.toArray 0) }) hoD hlen h64 kp2 (get_none (by rw[hsz]; exact Nat.le_succ _)) (fun s' k h2 Q hq=>kind s' k h2 Q _ hq) cmp fun h' tk c p a1 a2 a3=>⟨_,rfl,?_⟩
  exact wpAny_pure ⟨_,rfl,h _ h' tk c p (by rw[hsz]; exact Nat.le_succ _) a1 a2 a3⟩
end
end St
end
section
namespace SR
section
variable {α β:Type}
def ins (k:α→Int) (r:α):List α→List α
 | []=>[r]
 | x::l=>if k x≤k r then x::ins k r l else r::x::l
def srt (k:α→Int) (l:List α):List α:=l.foldl (fun a r=>ins k r a) []
theorem qcn {k:α→Int} {l:List α} {r:α}:srt k (l++[r])=ins k r (srt k l):=by
 unfold srt
 rw[List.foldl_append]
 rfl
theorem qlp {k:α→Int} {k':β→Int} {f:β→α} (h: ∀b,k' b=k (f b)) (r:β): ∀l:List β,(ins k' r l).map f=ins k (f r) (l.map f)
 | []=>rfl
 | x::l=>by
  show List.map f (if k' x≤k' r then x::ins k' r l else r::x::l)=(if k (f x)≤k (f r) then f x::ins k (f r) (l.map f) else f r::f x::l.map f)
  rw[h x,h r]
  by_cases c:k (f x)≤k (f r)
  ·rw[if_pos c,if_pos c,List.map_cons,qlp h r l]
  ·rw[if_neg c,if_neg c,List.map_cons,List.map_cons]
theorem qcy {k:α→Int} {k':β→Int} {f:β→α} (h: ∀b,k' b=k (f b)) (l:List β):(srt k' l).map f=srt k (l.map f):=by
 have go: ∀(l a:List β),(l.foldl (fun a r=>ins k' r a) a).map f=(l.map f).foldl (fun a r=>ins k r a) (a.map f):=by
  intro l
  induction l with
  | nil=>intro a; rfl
  | cons x l ih=>
   intro a
   rw[List.foldl_cons,ih,List.map_cons,List.foldl_cons,qlp h]
 exact go l []
theorem qfP {k:α→Int} {r x:α}: ∀{l:List α},x∈ins k r l↔x=r∨x∈l
 | []=>by simp[ins]
 | y::l=>by
  unfold ins
  by_cases c:k y≤k r
  ·rw[if_pos c,List.mem_cons,qfP,List.mem_cons]
   constructor
   ·rintro (h | h | h)
    ·exact .inr (.inl h)
    ·exact .inl h
    ·exact .inr (.inr h)
   ·rintro (h | h | h)
    ·exact .inr (.inl h)
    ·exact .inl h
    ·exact .inr (.inr h)
  ·rw[if_neg c,List.mem_cons]
theorem qfl {k:α→Int} {r:α}: ∀{l:List α},(ins k r l).length=l.length+1
 | []=>rfl
 | y::l=>by
  unfold ins
  by_cases c:k y≤k r
  ·rw[if_pos c,List.length_cons,qfl,List.length_cons]
  ·rw[if_neg c]; rfl
theorem mem_srt {k:α→Int} {x:α} (l:List α):x∈srt k l↔x∈l:=by
 have go: ∀(l a:List α),x∈l.foldl (fun a r=>ins k r a) a↔x∈a∨x∈l:=by
  intro l
  induction l with
  | nil=>intro a; simp
  | cons y l ih=>
   intro a
   rw[List.foldl_cons,ih,qfP,List.mem_cons]
   constructor
   ·rintro ((h | h) | h)
    ·exact .inr (.inl h)
    ·exact .inl h
    ·exact .inr (.inr h)
   ·rintro (h | h | h)
    ·exact .inl (.inr h)
    ·exact .inl (.inl h)
    ·exact .inr h
 rw[show srt k l=l.foldl (fun a r=>ins k r a) [] from rfl,go]
 simp
theorem length_srt {k:α→Int} (l:List α):(srt k l).length=l.length:=by
 have go: ∀(l a:List α),(l.foldl (fun a r=>ins k r a) a).length=a.length+l.length:=by
  intro l
  induction l with
  | nil=>intro a; simp
  | cons y l ih=>
   intro a
   rw[List.foldl_cons,ih,qfl,List.length_cons]
   lia
 have:=go l []
 simpa [srt] using this
def Ris (k:α→Int) (l:List α):Prop:=l.Pairwise fun a b=>k a≤k b
theorem qkx {k:α→Int} {r:α}: ∀{l:List α},Ris k l→Ris k (ins k r l)
 | [],_=>by simp[ins,Ris]
 | y::l,h=>by
  have h':=List.pairwise_cons.mp h
  unfold ins
  by_cases c:k y≤k r
  ·rw[if_pos c]
   refine List.pairwise_cons.mpr ⟨fun z hz=> ?_,qkx h'.2⟩
   rcases qfP.mp hz with q | q
   ·rw[q]; exact c
   ·exact h'.1 z q
  ·rw[if_neg c]
   refine List.pairwise_cons.mpr ⟨fun z hz=> ?_,h⟩
   rcases List.mem_cons.mp hz with q | q
   ·rw[q]; lia
   ·have:=h'.1 z q; lia
theorem ris_srt {k:α→Int} (l:List α):Ris k (srt k l):=by
 have go: ∀(l a:List α),Ris k a→Ris k (l.foldl (fun a r=>ins k r a) a):=by
  intro l
  induction l with
  | nil=>intro a h; exact h
  | cons y l ih=>intro a h; exact ih _ (qkx h)
 exact go l [] List.Pairwise.nil
theorem qlq {k:α→Int} {r:α}: ∀{l:List α},(∀x∈l,k x≤k r)→ins k r l=l++[r]
 | [],_=>rfl
 | y::l,h=>by
  unfold ins
  rw[if_pos (h y (List.mem_cons_self)),qlq fun x hx=>h x (List.mem_cons_of_mem _ hx)]
  rfl
theorem qhe {k:α→Int}: ∀{l:List α},Ris k l→srt k l=l:=by
 intro l
 have go: ∀(l a:List α),Ris k (a++l)→l.foldl (fun a r=>ins k r a) a=a++l:=by
  intro l
  induction l with
  | nil=>intro a _; simp
  | cons y l ih=>
   intro a h
   have h2:=List.pairwise_append.mp h
   rw[List.foldl_cons,qlq (fun x hx=>h2.2.2 x hx y List.mem_cons_self),ih (a++[y]) (by rw[List.append_assoc]; exact h),List.append_assoc]
   rfl
 intro h
 exact go l [] h
end
end SR
end
section
namespace SR
section
variable {α:Type}
structure Ord (lt:α→α→Bool):Prop where
 irr: ∀a,lt a a=false
 tr: ∀a b c,lt a b=true→lt b c=true→lt a c=true
 tot: ∀a b,lt a b=false→lt b a=false→a=b
def rank (lt:α→α→Bool) (as:List α) (a:α):Int:=(as.countP fun x=>lt x a:Nat)
theorem countP_le {p q:α→Bool} (h: ∀x,p x=true→q x=true): ∀l:List α,l.countP p≤l.countP q
 | []=>Nat.le_refl _
 | x::l=>by
  have ih:=countP_le h l
  rw[List.countP_cons,List.countP_cons]
  cases e:p x with
  | true=>rw[h x e]; simp; exact ih
  | false=>
   simp
   lia
theorem qgZ {p q:α→Bool} (h: ∀x,p x=true→q x=true) {a:α} (ha:p a=false) (hb:q a=true): ∀{l:List α},a∈l→l.countP p<l.countP q
 | x::l,hm=>by
  rw[List.countP_cons,List.countP_cons]
  have le:=countP_le h l
  rcases List.mem_cons.mp hm with rfl | hm
  ·rw[ha,hb]; simp; lia
  ·have ih:=qgZ h ha hb hm
   cases e:p x with
   | true=>rw[h x e]; simp; exact ih
   | false=>simp; lia
theorem qfF {lt:α→α→Bool} (o:Ord lt) {as:List α} {a b:α} (ha:a∈as) (hb:b∈as):decide (rank lt as a<rank lt as b)=lt a b:=by
 have up: ∀{a b:α},a∈as→lt a b=true→rank lt as a<rank lt as b:=fun {a b} ha h=>by
  unfold rank
  have:=qgZ (p:=fun x=>lt x a) (q:=fun x=>lt x b) (fun x hx=>o.tr x a b hx h) (o.irr a) h ha
  lia
 cases h:lt a b with
 | true=>exact decide_eq_true (up ha h)
 | false=>
  refine decide_eq_false ?_
  cases h2:lt b a with
  | true=>have:=up hb h2; lia
  | false=>
   have:=o.tot a b h h2
   subst this
   lia
theorem rank_inj {lt:α→α→Bool} (o:Ord lt) {as:List α} {a b:α} (ha:a∈as) (hb:b∈as) (h:rank lt as a=rank lt as b):a=b:=by
 refine o.tot a b ?_ ?_
 ·rw[←qfF o ha hb]; exact decide_eq_false (by lia)
 ·rw[←qfF o hb ha]; exact decide_eq_false (by lia)
def qe4 (lt:α→α→Bool) (as:List α):List α:=srt (rank lt as) as
theorem qir {k:α→Int} {r:α}: ∀l:List α,List.Perm (ins k r l) (r::l)
 | []=>List.Perm.refl _
 | x::l=>by
  show List.Perm (if k x≤k r then x::ins k r l else r::x::l) _
  by_cases c:k x≤k r
  ·rw[if_pos c]
   exact ((qir l).cons x).trans (List.Perm.swap r x l)
  ·rw[if_neg c]
theorem perm_srt {k:α→Int} (l:List α):List.Perm (srt k l) l:=by
 have go: ∀(l a:List α),List.Perm (l.foldl (fun a r=>ins k r a) a) (a++l):=by
  intro l
  induction l with
  | nil=>intro a; simp
  | cons x l ih=>
   intro a
   rw[List.foldl_cons]
   refine (ih _).trans ?_
   refine ((qir a).append_right l).trans ?_
   exact List.perm_middle.symm
 exact go l []
theorem eq_of_ris {k:α→Int}: ∀{l l':List α},(∀a∈l,∀b∈l,k a=k b→a=b)→Ris k l→Ris k l'→List.Perm l l'→l=l'
 | [],l',_,_,_,p=>(List.Perm.eq_nil p.symm).symm
 | x::l,[],_,_,_,p=>absurd (List.Perm.eq_nil p) (by simp)
 | x::l,y::l',hi,h1,h2,p=>by
  have a1:=List.pairwise_cons.mp h1
  have a2:=List.pairwise_cons.mp h2
  have hy:y∈x::l:=p.symm.subset List.mem_cons_self
  have hx:x∈y::l':=p.subset List.mem_cons_self
  have e:x=y:=by
   rcases List.mem_cons.mp hy with q | q
   ·exact q.symm
   ·rcases List.mem_cons.mp hx with r | r
    ·exact r
    ·have b1:=a1.1 y q
     have b2:=a2.1 x r
     exact hi x List.mem_cons_self y hy (by lia)
  subst e
  rw[eq_of_ris (fun a ha b hb=>hi a (List.mem_cons_of_mem _ ha) b (List.mem_cons_of_mem _ hb)) a1.2 a2.2 (p.cons_inv)]
theorem qjh {lt:α→α→Bool} (o:Ord lt) {as bs:List α} (p:List.Perm as bs):qe4 lt as=qe4 lt bs:=by
 have e:rank lt as=rank lt bs:=funext fun a=>by
  unfold rank
  rw[p.countP_eq]
 unfold qe4
 rw[←e]
 refine eq_of_ris (k:=rank lt as) (fun a ha b hb h=>rank_inj o ((mem_srt _).mp ha) ((mem_srt _).mp hb) h) (ris_srt _) (ris_srt _) ?_
 exact (perm_srt as).trans (p.trans (perm_srt bs).symm)
end
end SR
end
section
namespace L2
open PySem PySem.Spec PySem.Calls PyProof.Rows PySem.W
end L2
end
section
namespace PL
open PySem L2
inductive T where
 | non | bl (b:Bool) | int (i:Int) | str (s:Str) | tup (ts:List T) | lst (ts:List T) | dct (kvs:List (Key×T)) | dcf (kvs:List (Key×T)) | dtu (kvs:List (List Key×T)) | fn (x:Str) | scr (ns:List Int)
inductive Rs (α:Type) where
 | no | ok (a:α) | ex (c:Str)
@[inline] def Rs.bind {α β:Type}:Rs α→(α→Rs β)→Rs β
 | .no,_=>.no
 | .ok a,f=>f a
 | .ex c,_=>.ex c
instance:Monad Rs where
 pure:=Rs.ok
 bind:=Rs.bind
@[simp] theorem qai {α β:Type} (a:α) (f:α→Rs β):(Rs.ok a>>=f)=f a:=rfl
@[simp] theorem qaL {α β:Type} (f:α→Rs β):((Rs.no:Rs α)>>=f)= .no:=rfl
@[simp] theorem qaK {α:Type} (a:α):(pure a:Rs α)= .ok a:=rfl
mutual
def Rep (K:PySem.W.Frag) (B:Hp):T→V→Prop
 | .non,v=>v= .non
 | .bl b,v=>v= .bl b
 | .int i,v=>v= .int i
 | .str s,v=>v= .str s
 | .tup ts,v=> ∃p vs,v= .ref p∧B p=some (.tup vs)∧qaP K B ts vs
 | .lst ts,v=> ∃p vs,v= .ref p∧B p=some (.lst vs)∧qaP K B ts vs
 | .dct kvs,v=> ∃p us,v= .ref p∧B p=some (.dK us)∧qbH K B kvs us
 | .dcf kvs,v=> ∃p o us,v= .ref p∧B p=some (.frz o (.dK us))∧qbH K B kvs us
 | .dtu kvs,v=> ∃p us,v= .ref p∧B p=some (.dT us)∧qcl K B kvs us
 | .fn x,v=> ∃f,v= .ref f∧PySem.W.nsIn K mainGlobals x=some (some (.ref f))
 | .scr ns,v=> ∃p,v= .ref p∧SqL K B p (ns.map V.int)
def qaP (K:PySem.W.Frag) (B:Hp):List T→List V→Prop
 | [],vs=>vs=[]
 | t::ts,vs=> ∃v r,vs=v::r∧Rep K B t v∧qaP K B ts r
def qbH (K:PySem.W.Frag) (B:Hp):List (Key×T)→List (Key×V)→Prop
 | [],vs=>vs=[]
 | (k,t)::ts,vs=> ∃v r,vs=(k,v)::r∧Rep K B t v∧qbH K B ts r
def qcl (K:PySem.W.Frag) (B:Hp):List (List Key×T)→List (List Key×V)→Prop
 | [],vs=>vs=[]
 | (k,t)::ts,vs=> ∃v r,vs=(k,v)::r∧Rep K B t v∧qcl K B ts r
end
def Le (B B':Hp):Prop:= ∀a o,B a=some o→B' a=some o
theorem Le.refl (B:Hp):Le B B:=fun _ _ h=>h
theorem Le.trans {A B C:Hp} (h:Le A B) (h':Le B C):Le A C:=fun a o e=>h' a o (h a o e)
theorem Le.sqT {K:PySem.W.Frag} {B B':Hp} {p:Addr} {vs:List V} (h:Le B B') (q:SqT K B p vs):SqT K B' p vs:=by
 rcases q with (q | ⟨o,q⟩) | q
 ·exact .inl (.inl (h _ _ q))
 ·exact .inl (.inr ⟨o,h _ _ q⟩)
 ·exact .inr q
theorem Le.sqL {K:PySem.W.Frag} {B B':Hp} {p:Addr} {vs:List V} (h:Le B B') (q:SqL K B p vs):SqL K B' p vs:=by
 rcases q with (q | ⟨o,q⟩) | q
 ·exact .inl (.inl (h _ _ q))
 ·exact .inl (.inr ⟨o,h _ _ q⟩)
 ·exact .inr q
mutual
theorem Rep.mono {K:PySem.W.Frag} {B B':Hp} (h:Le B B'): ∀{t:T} {v:V},Rep K B t v→Rep K B' t v
 | .non,_,r=>r
 | .bl _,_,r=>r
 | .int _,_,r=>r
 | .str _,_,r=>r
 | .tup _,_,r=>by
  unfold Rep at r⊢
  obtain ⟨p,vs,e,q,rs⟩:=r
  exact ⟨p,vs,e,h _ _ q,qaP.mono h rs⟩
 | .lst _,_,r=>by
  unfold Rep at r⊢
  obtain ⟨p,vs,e,q,rs⟩:=r
  exact ⟨p,vs,e,h _ _ q,qaP.mono h rs⟩
 | .dct _,_,r=>by
  unfold Rep at r⊢
  obtain ⟨p,vs,e,q,rs⟩:=r
  exact ⟨p,vs,e,h _ _ q,qbH.mono h rs⟩
 | .dcf _,_,r=>by
  unfold Rep at r⊢
  obtain ⟨p,o,vs,e,q,rs⟩:=r
  exact ⟨p,o,vs,e,h _ _ q,qbH.mono h rs⟩
 | .dtu _,_,r=>by
  unfold Rep at r⊢
  obtain ⟨p,vs,e,q,rs⟩:=r
  exact ⟨p,vs,e,h _ _ q,qcl.mono h rs⟩
 | .fn _,_,r=>by unfold Rep at r⊢; exact r
 | .scr _,_,r=>by
  unfold Rep at r⊢
  obtain ⟨p,e,q⟩:=r
  exact ⟨p,e,h.sqL q⟩
theorem qaP.mono {K:PySem.W.Frag} {B B':Hp} (h:Le B B'): ∀{ts:List T} {vs:List V},qaP K B ts vs→qaP K B' ts vs
 | [],_,r=>r
 | _::_,_,r=>by
  unfold qaP at r⊢
  obtain ⟨v,r',e,a,b⟩:=r
  exact ⟨v,r',e,Rep.mono h a,qaP.mono h b⟩
theorem qbH.mono {K:PySem.W.Frag} {B B':Hp} (h:Le B B'): ∀{ts:List (Key×T)} {vs:List (Key×V)},qbH K B ts vs→qbH K B' ts vs
 | [],_,r=>r
 | (_,_)::_,_,r=>by
  unfold qbH at r⊢
  obtain ⟨v,r',e,a,b⟩:=r
  exact ⟨v,r',e,Rep.mono h a,qbH.mono h b⟩
theorem qcl.mono {K:PySem.W.Frag} {B B':Hp} (h:Le B B'): ∀{ts:List (List Key×T)} {vs:List (List Key×V)},qcl K B ts vs→qcl K B' ts vs
 | [],_,r=>r
 | (_,_)::_,_,r=>by
  unfold qcl at r⊢
  obtain ⟨v,r',e,a,b⟩:=r
  exact ⟨v,r',e,Rep.mono h a,qcl.mono h b⟩
end
section
variable {K:PySem.W.Frag} {B:Hp}
theorem qaP.nil:qaP K B [] []:=by unfold qaP; rfl
theorem qaP.cons {t:T} {v:V} {ts:List T} {vs:List V} (h:Rep K B t v) (r:qaP K B ts vs):qaP K B (t::ts) (v::vs):=by unfold qaP; exact ⟨v,vs,rfl,h,r⟩
theorem qaP.inv {t:T} {ts:List T} {vs:List V} (h:qaP K B (t::ts) vs): ∃v r,vs=v::r∧Rep K B t v∧qaP K B ts r:=by unfold qaP at h; exact h
theorem qaP.inv0 {vs:List V} (h:qaP K B [] vs):vs=[]:=by unfold qaP at h; exact h
theorem qaP.length: ∀{ts:List T} {vs:List V},qaP K B ts vs→vs.length=ts.length
 | [],_,h=>by rw[h.inv0]; rfl
 | _::_,_,h=>by
  obtain ⟨v,r,rfl,_,h'⟩:=h.inv
  simp[qaP.length h']
theorem qaP.get: ∀{ts:List T} {vs:List V} {i:Nat} {t:T},qaP K B ts vs→ts[i]? =some t→∃v,vs[i]? =some v∧Rep K B t v
 | [],_,_,_,_,e=>by simp at e
 | _::_,_,0,_,h,e=>by
  obtain ⟨v,r,rfl,a,_⟩:=h.inv
  simp at e; subst e
  exact ⟨v,rfl,a⟩
 | _::_,_,i+1,t,h,e=>by
  obtain ⟨v,r,rfl,_,h'⟩:=h.inv
  obtain ⟨u,e1,e2⟩:=qaP.get (i:=i) h' (by simpa using e)
  exact ⟨u,by simpa using e1,e2⟩
theorem qaP.of_get {ts:List T} {vs:List V} (hl:vs.length=ts.length) (h: ∀(i:Nat) (t:T) (v:V),ts[i]? =some t→vs[i]? =some v→Rep K B t v):qaP K B ts vs:=by
 induction ts generalizing vs with
 | nil=>cases vs with
  | nil=>exact .nil
  | cons _ _=>cases hl
 | cons t ts ih=>cases vs with
  | nil=>cases hl
  | cons v vs=>exact .cons (h 0 t v rfl rfl) (ih (by simpa using hl) fun i t' v' a b=>h (i+1) t' v' (by simpa using a) (by simpa using b))
theorem qaP.append: ∀{ts us:List T} {vs ws:List V},qaP K B ts vs→qaP K B us ws→qaP K B (ts++us) (vs++ws)
 | [],_,_,_,h,h'=>by rw[h.inv0]; exact h'
 | _::_,_,_,_,h,h'=>by
  obtain ⟨v,r,rfl,a,b⟩:=h.inv
  exact .cons a (qaP.append b h')
theorem qaP.snoc {ts:List T} {vs:List V} {t:T} {v:V} (h:qaP K B ts vs) (r:Rep K B t v):qaP K B (ts++[t]) (vs++[v]):=h.append (.cons r .nil)
theorem qaP.take {ts:List T} {vs:List V} (n:Nat) (h:qaP K B ts vs):qaP K B (ts.take n) (vs.take n):=by
 refine .of_get (by simp[h.length]) fun i t v a b=> ?_
 rw[List.getElem?_take] at a b
 split at a
 ·rename_i hi
  rw[if_pos hi] at b
  obtain ⟨u,e1,e2⟩:=h.get a
  rw[b] at e1; cases e1; exact e2
 ·cases a
theorem qaP.drop {ts:List T} {vs:List V} (n:Nat) (h:qaP K B ts vs):qaP K B (ts.drop n) (vs.drop n):=by
 refine .of_get (by simp[h.length]) fun i t v a b=> ?_
 rw[List.getElem?_drop] at a b
 obtain ⟨u,e1,e2⟩:=h.get a
 rw[b] at e1; cases e1; exact e2
theorem qaP.getD {ts:List T} {vs:List V} (h:qaP K B ts vs) (j:Nat) (hj:j<ts.length):Rep K B (ts.getD j .non) (vs.getD j .non):=by
 obtain ⟨u,e1,e2⟩:=h.get (List.getElem?_eq_getElem hj)
 rw[List.getD_eq_getElem?_getD,List.getD_eq_getElem?_getD,e1,List.getElem?_eq_getElem hj]
 exact e2
end
structure Gam where
 P:Hp→Prop
 st: ∀H H':Hp,(∀a o,H a=some o→(∀xs,o≠.lst xs)→(∀xs,o≠.dK xs)→(∀xs,o≠.dT xs)→(∀C dx fs,o≠.ins C dx fs)→H' a=some o)→P H→P H'
structure GX (H H':Hp):Prop where
 hh: ∀a o,H a=some o→(∀ps,o≠.tbl ps)→H' a=some o
 dm: ∀a,H a≠none→H' a≠none
theorem GX.refl (H:Hp):GX H H:=⟨fun _ _ h _=>h,fun _ h=>h⟩
theorem GX.trans {H H1 H2:Hp} (a:GX H H1) (b:GX H1 H2):GX H H2:=⟨fun x o h n=>b.hh x o (a.hh x o h n) n,fun x h=>b.dm x (a.dm x h)⟩
structure qbJ (H B H' B':Hp):Prop where
 gx:GX H H'
 bb:Le B B'
 bh:Le B' H'
 bt: ∀a ps,B' a≠some (.tbl ps)
 nw: ∀a o,H a=some o→(∀vs,o≠.tup vs)→(∀ps,o≠.tbl ps)→B' a=B a
theorem nwo {H B B':Hp} (h: ∀a,H a≠none→B' a=B a): ∀a o,H a=some o→(∀vs,o≠HO.tup vs)→(∀ps,o≠HO.tbl ps)→B' a=B a:=fun a o z _ _=>h a (by rw[z]; simp)
theorem qbJ.refl {H B:Hp} (h:Le B H) (t: ∀a ps,B a≠some (.tbl ps)):qbJ H B H B:=⟨.refl _,.refl _,h,t,fun _ _ _ _ _=>rfl⟩
theorem qbJ.trans {H B H1 B1 H2 B2:Hp} (a:qbJ H B H1 B1) (b:qbJ H1 B1 H2 B2):qbJ H B H2 B2:=
 ⟨a.gx.trans b.gx,a.bb.trans b.bb,b.bh,b.bt,fun x o h n1 n2=>(b.nw x o (a.gx.hh x o h n2) n1 n2).trans (a.nw x o h n1 n2)⟩
theorem qbJ.new {H B:Hp} {p:Addr} {o:HO} (h:Le B H) (t: ∀a ps,B a≠some (.tbl ps)) (hp:H p=none) (ho: ∀ps,o≠.tbl ps):qbJ H B (upd H p o) (upd B p o):=by
 have bp:B p=none:=by
  cases e:B p with
  | none=>rfl
  | some u=>rw[h _ _ e] at hp; cases hp
 refine ⟨⟨fun a u e _=>by rw[qae (qak e hp)]; exact e,fun a e z=> ?_⟩,fun a u e=>by rw[qae (qak e bp)]; exact e,fun a u e=> ?_,fun a ps e=> ?_,nwo fun a e=> ?_⟩
 ·by_cases q:a=p
  ·subst q; exact e hp
  ·rw[qae q] at z; exact e z
 ·by_cases q:a=p
  ·subst q; rw[qag] at e⊢; exact e
  ·rw[qae q] at e⊢; exact h _ _ e
 ·by_cases q:a=p
  ·subst q; rw[qag] at e; exact ho ps (Option.some.inj e)
  ·rw[qae q] at e; exact t a ps e
 ·rw[qae (fun z=>e (by rw[z]; exact hp))]
theorem qbJ.own {H B:Hp} {p:Addr} {o:HO} (h:Le B H) (t: ∀a ps,B a≠some (.tbl ps)) (hp:H p=none):qbJ H B (upd H p o) B:=by
 refine ⟨⟨fun a u e _=>by rw[qae (qak e hp)]; exact e,fun a e z=> ?_⟩,.refl _,fun a u e=> ?_,t,nwo fun a e=>rfl⟩
 ·by_cases q:a=p
  ·subst q; exact e hp
  ·rw[qae q] at z; exact e z
 ·rw[qae (qak (h _ _ e) hp)]; exact h _ _ e
inductive Sl where
 | no | fz (t:T) | ow (ts:List T) | od (kvs:List (Key×T)) | ou (kvs:List (List Key×T)) | pd (kvs:List (Key×T)) | pu (kvs:List (List Key×T))
def qrF (K:PySem.W.Frag) (H0 H B:Hp) (pa:Addr):Sl→Option V→Prop
 | .no,_=>True
 | .fz t,o=> ∃v,o=some v∧Rep K B t v
 | .ow ts,o=> ∃p vs,o=some (.ref p)∧H0 p=none∧B p=none∧H p=some (.lst vs)∧qaP K B ts vs
 | .od kvs,o=> ∃p us,o=some (.ref p)∧H0 p=none∧B p=none∧H p=some (.dK us)∧qbH K B kvs us
 | .ou kvs,o=> ∃p us,o=some (.ref p)∧H0 p=none∧B p=none∧H p=some (.dT us)∧qcl K B kvs us
 | .pd kvs,o=> ∃p us,p=pa∧o=some (.ref p)∧H0 p=none∧B p=none∧H p=some (.dK us)∧qbH K B kvs us
 | .pu kvs,o=> ∃p us,p=pa∧o=some (.ref p)∧H0 p=none∧B p=none∧H p=some (.dT us)∧qcl K B kvs us
def Sl.own:Sl→Bool
 | .ow _=>true
 | .od _=>true
 | .ou _=>true
 | .pd _=>true
 | .pu _=>true
 | _=>false
structure Md where
 K:PySem.W.Frag
 G:Gam
 E:XK
 C:Str→Addr
 pa:Addr
abbrev Ro:=List Sl
structure Ev (M:Md) (H0 B0:Hp) (ρ:Ro) (σ:St) (H B:Hp):Prop where
 gr:qbJ H0 B0 H B
 gm:M.G.P H
 len:ρ.length=σ.length
 sl: ∀(i:Nat) (s:Sl),ρ[i]? =some s→qrF M.K H0 H B M.pa s (σ[i]?.join)
 ap: ∀(i j:Nat) (si sj:Sl) (p:Addr),i≠j→ρ[i]? =some si→ρ[j]? =some sj→si.own=true→sj.own=true→σ[i]?.join=some (.ref p)→σ[j]?.join≠some (.ref p)
section
variable {M:Md} {H0 B0 H B H' B':Hp} {ρ:Ro} {σ:St}
theorem qrF.grow {K:PySem.W.Frag} {pa:Addr} {s:Sl} {o:Option V} (h:qrF K H0 H B pa s o) (g:qbJ H B H' B'):qrF K H0 H' B' pa s o:=by
 cases s with
 | no=>trivial
 | fz t=>obtain ⟨v,e,r⟩:=h; exact ⟨v,e,r.mono g.bb⟩
 | ow ts=>
  obtain ⟨p,vs,e,h0,hb,hp,r⟩:=h
  exact ⟨p,vs,e,h0,by rw[g.nw p _ hp (by simp) (by simp)]; exact hb,g.gx.hh _ _ hp (by intro ps z; cases z),r.mono g.bb⟩
 | od ts=>
  obtain ⟨p,vs,e,h0,hb,hp,r⟩:=h
  exact ⟨p,vs,e,h0,by rw[g.nw p _ hp (by simp) (by simp)]; exact hb,g.gx.hh _ _ hp (by intro ps z; cases z),r.mono g.bb⟩
 | ou ts=>
  obtain ⟨p,vs,e,h0,hb,hp,r⟩:=h
  exact ⟨p,vs,e,h0,by rw[g.nw p _ hp (by simp) (by simp)]; exact hb,g.gx.hh _ _ hp (by intro ps z; cases z),r.mono g.bb⟩
 | pd ts=>
  obtain ⟨p,vs,e0,e,h0,hb,hp,r⟩:=h
  exact ⟨p,vs,e0,e,h0,by rw[g.nw p _ hp (by simp) (by simp)]; exact hb,g.gx.hh _ _ hp (by intro ps z; cases z),r.mono g.bb⟩
 | pu ts=>
  obtain ⟨p,vs,e0,e,h0,hb,hp,r⟩:=h
  exact ⟨p,vs,e0,e,h0,by rw[g.nw p _ hp (by simp) (by simp)]; exact hb,g.gx.hh _ _ hp (by intro ps z; cases z),r.mono g.bb⟩
theorem Ev.grow (v:Ev M H0 B0 ρ σ H B) (g:qbJ H B H' B') (m:M.G.P H'):Ev M H0 B0 ρ σ H' B':=
 ⟨v.gr.trans g,m,v.len,fun i s e=>(v.sl i s e).grow g,v.ap⟩
theorem Ev.bh (v:Ev M H0 B0 ρ σ H B):Le B H:=v.gr.bh
theorem Ev.bt (v:Ev M H0 B0 ρ σ H B): ∀a ps,B a≠some (.tbl ps):=v.gr.bt
theorem Ev.new (v:Ev M H0 B0 ρ σ H B) {p:Addr} {o:HO} (hp:H p=none) (ho: ∀ps,o≠.tbl ps):qbJ H B (upd H p o) (upd B p o)∧M.G.P (upd H p o):=
 ⟨.new v.bh v.bt hp ho,M.G.st H _ (fun a u e _ _ _ _=>by rw[qae (qak e hp)]; exact e) v.gm⟩
theorem Ev.nown (v:Ev M H0 B0 ρ σ H B) {p:Addr} {o:HO} (hp:H p=none):qbJ H B (upd H p o) B∧M.G.P (upd H p o):=
 ⟨.own v.bh v.bt hp,M.G.st H _ (fun a u e _ _ _ _=>by rw[qae (qak e hp)]; exact e) v.gm⟩
theorem Ev.get (v:Ev M H0 B0 ρ σ H B) {i:Nat} {t:T} (e:ρ[i]? =some (.fz t)): ∃x,σ[i]? =some (some x)∧Rep M.K B t x:=by
 obtain ⟨x,e1,r⟩:=v.sl i _ e
 refine ⟨x,?_,r⟩
 cases q:σ[i]? with
 | none=>rw[q] at e1; cases e1
 | some o=>rw[q] at e1; cases o with
  | none=>cases e1
  | some y=>cases e1; rfl
theorem Ev.getOw (v:Ev M H0 B0 ρ σ H B) {i:Nat} {ts:List T} (e:ρ[i]? =some (.ow ts)): ∃p vs,σ[i]? =some (some (.ref p))∧H0 p=none∧B p=none∧H p=some (.lst vs)∧qaP M.K B ts vs:=by
 obtain ⟨p,vs,e1,r⟩:=v.sl i _ e
 refine ⟨p,vs,?_,r⟩
 cases q:σ[i]? with
 | none=>rw[q] at e1; cases e1
 | some o=>rw[q] at e1; cases o with
  | none=>cases e1
  | some y=>cases e1; rfl
theorem qdN {σ:St} {i j:Nat} {x:V} (hi:i<σ.length):(σ.set i (some x))[j]?.join=if i=j then some x else σ[j]?.join:=by
 rw[List.getElem?_set]
 by_cases q:i=j
 ·subst q; rw[if_pos rfl,if_pos rfl,if_pos hi]; rfl
 ·rw[if_neg q,if_neg q]
theorem Ev.set (v:Ev M H0 B0 ρ σ H B) {i:Nat} {t:T} {x:V} (r:Rep M.K B t x):Ev M H0 B0 (ρ.set i (.fz t)) (σ.set i (some x)) H B:=by
 by_cases hi:i<ρ.length
 case neg=>
  rw[List.set_eq_of_length_le (by lia),List.set_eq_of_length_le (by rw[←v.len]; lia)]
  exact v
 have hi':i<σ.length:=by rw[←v.len]; exact hi
 refine ⟨v.gr,v.gm,by simp[v.len],fun j s e=> ?_,fun j k sj sk p hjk ej ek oj ok a=> ?_⟩
 ·rw[qdN hi']
  rw[List.getElem?_set] at e
  by_cases q:i=j
  ·subst q
   rw[if_pos rfl,if_pos hi] at e
   cases e
   rw[if_pos rfl]
   exact ⟨x,rfl,r⟩
  ·rw[if_neg q] at e⊢
   exact v.sl j s e
 ·rw[List.getElem?_set] at ej ek
  by_cases q:i=j
  ·subst q; rw[if_pos rfl,if_pos hi] at ej; cases ej; cases oj
  ·by_cases q2:i=k
   ·subst q2; rw[if_pos rfl,if_pos hi] at ek; cases ek; cases ok
   ·rw[if_neg q] at ej
    rw[if_neg q2] at ek
    rw[qdN hi',if_neg q] at a
    rw[qdN hi',if_neg q2]
    exact v.ap j k sj sk p hjk ej ek oj ok a
theorem Ev.setOw (v:Ev M H0 B0 ρ σ H B) {i:Nat} {ts:List T} {p:Addr} {vs:List V} (h0:H0 p=none) (hb:B p=none) (hp:H p=some (.lst vs)) (r:qaP M.K B ts vs)
  (ap: ∀(j:Nat) (s:Sl),j≠i→ρ[j]? =some s→s.own=true→σ[j]?.join≠some (.ref p)):Ev M H0 B0 (ρ.set i (.ow ts)) (σ.set i (some (.ref p))) H B:=by
 by_cases hi:i<ρ.length
 case neg=>
  rw[List.set_eq_of_length_le (by lia),List.set_eq_of_length_le (by rw[←v.len]; lia)]
  exact v
 have hi':i<σ.length:=by rw[←v.len]; exact hi
 refine ⟨v.gr,v.gm,by simp[v.len],fun j s e=> ?_,fun j k sj sk p' hjk ej ek oj ok a=> ?_⟩
 ·rw[qdN hi']
  rw[List.getElem?_set] at e
  by_cases q:i=j
  ·subst q
   rw[if_pos rfl,if_pos hi] at e
   cases e
   rw[if_pos rfl]
   exact ⟨p,vs,rfl,h0,hb,hp,r⟩
  ·rw[if_neg q] at e⊢
   exact v.sl j s e
 ·rw[List.getElem?_set] at ej ek
  rw[qdN hi'] at a⊢
  by_cases q:i=j
  ·subst q
   rw[if_neg hjk] at ek
   rw[if_pos rfl] at a
   rw[if_neg hjk]
   cases a
   exact ap k sk (fun z=>hjk z.symm) ek ok
  ·rw[if_neg q] at ej a
   by_cases q2:i=k
   ·subst q2
    rw[if_pos rfl]
    intro z
    cases z
    exact ap j sj hjk ej oj a
   ·rw[if_neg q2] at ek⊢
    exact v.ap j k sj sk p' hjk ej ek oj ok a
theorem Ev.putOw (v:Ev M H0 B0 ρ σ H B) {i:Nat} {ts us:List T} {p:Addr} {ws:List V} (e:ρ[i]? =some (.ow ts)) (es:σ[i]? =some (some (.ref p))) (r:qaP M.K B us ws):Ev M H0 B0 (ρ.set i (.ow us)) σ (upd H p (.lst ws)) B:=by
 obtain ⟨q,vs,e1,h0,hb,hp,_⟩:=v.getOw e
 rw[es] at e1; cases e1
 have hi:i<ρ.length:=(List.getElem?_eq_some_iff.mp e).1
 have neB: ∀a o,B a=some o→a≠p:=fun a o z w=>by rw[w,hb] at z; cases z
 refine ⟨⟨⟨fun a o z n=> ?_,fun a z w=> ?_⟩,v.gr.bb,fun a o z=> ?_,v.gr.bt,v.gr.nw⟩,M.G.st H _ (fun a o z n1 n2 n3 n4=> ?_) v.gm,by simp[v.len],fun j s ej=> ?_,fun j k sj sk p' hjk ej ek oj ok a=> ?_⟩
 ·rw[qae (qak z h0)]; exact v.gr.gx.hh a o z n
 ·by_cases q:a=p
  ·subst q; exact z h0
  ·rw[qae q] at w; exact v.gr.gx.dm a z w
 ·rw[qae (neB a o z)]; exact v.gr.bh a o z
 ·rw[qae (qd7 z hp (n1 _))]; exact z
 ·rw[List.getElem?_set] at ej
  by_cases q:i=j
  ·subst q
   rw[if_pos rfl,if_pos hi] at ej
   cases ej
   exact ⟨p,ws,by rw[es]; rfl,h0,hb,qag,r⟩
  ·rw[if_neg q] at ej
   have o:=v.sl j s ej
   cases s with
   | no=>trivial
   | fz t=>exact o
   | ow ts'=>
    obtain ⟨p',vs',a1,a2,a3,a4,a5⟩:=o
    have ne:p'≠p:=fun z=>by
     subst z
     exact v.ap i j _ _ p' q e ej rfl rfl (by rw[es]; rfl) a1
    exact ⟨p',vs',a1,a2,a3,by rw[qae ne]; exact a4,a5⟩
   | od ts'=>
    obtain ⟨p',vs',a1,a2,a3,a4,a5⟩:=o
    have ne:p'≠p:=fun z=>by
     subst z
     exact v.ap i j _ _ p' q e ej rfl rfl (by rw[es]; rfl) a1
    exact ⟨p',vs',a1,a2,a3,by rw[qae ne]; exact a4,a5⟩
   | ou ts'=>
    obtain ⟨p',vs',a1,a2,a3,a4,a5⟩:=o
    have ne:p'≠p:=fun z=>by
     subst z
     exact v.ap i j _ _ p' q e ej rfl rfl (by rw[es]; rfl) a1
    exact ⟨p',vs',a1,a2,a3,by rw[qae ne]; exact a4,a5⟩
   | pd ts'=>
    obtain ⟨p',vs',a0,a1,a2,a3,a4,a5⟩:=o
    have ne:p'≠p:=fun z=>by
     subst z
     exact v.ap i j _ _ p' q e ej rfl rfl (by rw[es]; rfl) a1
    exact ⟨p',vs',a0,a1,a2,a3,by rw[qae ne]; exact a4,a5⟩
   | pu ts'=>
    obtain ⟨p',vs',a0,a1,a2,a3,a4,a5⟩:=o
    have ne:p'≠p:=fun z=>by
     subst z
     exact v.ap i j _ _ p' q e ej rfl rfl (by rw[es]; rfl) a1
    exact ⟨p',vs',a0,a1,a2,a3,by rw[qae ne]; exact a4,a5⟩
 ·have own_at: ∀(l:Nat) (sl:Sl),(ρ.set i (.ow us))[l]? =some sl→sl.own=true→∃sl',ρ[l]? =some sl'∧sl'.own=true:=fun l sl el ol=>by
   rw[List.getElem?_set] at el
   by_cases q:i=l
   ·subst q; exact ⟨_,e,rfl⟩
   ·rw[if_neg q] at el; exact ⟨sl,el,ol⟩
  obtain ⟨sj',ej',oj'⟩:=own_at j sj ej oj
  obtain ⟨sk',ek',ok'⟩:=own_at k sk ek ok
  exact v.ap j k sj' sk' p' hjk ej' ek' oj' ok' a
theorem Ev.freeze (v:Ev M H0 B0 ρ σ H B) {i:Nat} {ts:List T} (e:ρ[i]? =some (.ow ts)): ∃B',Le B B'∧Ev M H0 B0 (ρ.set i (.fz (.lst ts))) σ H B':=by
 obtain ⟨p,vs,es,h0,hb,hp,r⟩:=v.getOw e
 have hi:i<ρ.length:=(List.getElem?_eq_some_iff.mp e).1
 have le:Le B (upd B p (.lst vs)):=fun a o z=>by rw[qae (qak z hb)]; exact z
 refine ⟨upd B p (.lst vs),le,⟨v.gr.gx,v.gr.bb.trans le,fun a o z=> ?_,fun a ps z=> ?_,fun a o z n1 n2=> ?_⟩,v.gm,by simp[v.len],fun j s ej=> ?_,fun j k sj sk p' hjk ej ek oj ok a=> ?_⟩
 ·by_cases q:a=p
  ·subst q; rw[qag] at z; cases z; exact hp
  ·rw[qae q] at z; exact v.gr.bh a o z
 ·by_cases q:a=p
  ·subst q; rw[qag] at z; cases z
  ·rw[qae q] at z; exact v.gr.bt a ps z
 ·rw[qae (fun q=>by rw[q,h0] at z; cases z)]; exact v.gr.nw a o z n1 n2
 ·rw[List.getElem?_set] at ej
  by_cases q:i=j
  ·subst q
   rw[if_pos rfl,if_pos hi] at ej
   cases ej
   refine ⟨.ref p,by rw[es]; rfl,?_⟩
   unfold Rep
   exact ⟨p,vs,rfl,qag,r.mono le⟩
  ·rw[if_neg q] at ej
   have o:=v.sl j s ej
   cases s with
   | no=>trivial
   | fz t=>obtain ⟨x,a1,a2⟩:=o; exact ⟨x,a1,a2.mono le⟩
   | ow ts'=>
    obtain ⟨p',vs',a1,a2,a3,a4,a5⟩:=o
    have ne:p'≠p:=fun z=>by
     subst z
     exact v.ap i j _ _ p' q e ej rfl rfl (by rw[es]; rfl) a1
    exact ⟨p',vs',a1,a2,by rw[qae ne]; exact a3,a4,a5.mono le⟩
   | od ts'=>
    obtain ⟨p',vs',a1,a2,a3,a4,a5⟩:=o
    have ne:p'≠p:=fun z=>by
     subst z
     exact v.ap i j _ _ p' q e ej rfl rfl (by rw[es]; rfl) a1
    exact ⟨p',vs',a1,a2,by rw[qae ne]; exact a3,a4,a5.mono le⟩
   | ou ts'=>
    obtain ⟨p',vs',a1,a2,a3,a4,a5⟩:=o
    have ne:p'≠p:=fun z=>by
     subst z
     exact v.ap i j _ _ p' q e ej rfl rfl (by rw[es]; rfl) a1
    exact ⟨p',vs',a1,a2,by rw[qae ne]; exact a3,a4,a5.mono le⟩
   | pd ts'=>
    obtain ⟨p',vs',a0,a1,a2,a3,a4,a5⟩:=o
    have ne:p'≠p:=fun z=>by
     subst z
     exact v.ap i j _ _ p' q e ej rfl rfl (by rw[es]; rfl) a1
    exact ⟨p',vs',a0,a1,a2,by rw[qae ne]; exact a3,a4,a5.mono le⟩
   | pu ts'=>
    obtain ⟨p',vs',a0,a1,a2,a3,a4,a5⟩:=o
    have ne:p'≠p:=fun z=>by
     subst z
     exact v.ap i j _ _ p' q e ej rfl rfl (by rw[es]; rfl) a1
    exact ⟨p',vs',a0,a1,a2,by rw[qae ne]; exact a3,a4,a5.mono le⟩
 ·rw[List.getElem?_set] at ej ek
  by_cases q:i=j
  ·subst q; rw[if_pos rfl,if_pos hi] at ej; cases ej; cases oj
  ·by_cases q2:i=k
   ·subst q2; rw[if_pos rfl,if_pos hi] at ek; cases ek; cases ok
   ·rw[if_neg q] at ej
    rw[if_neg q2] at ek
    exact v.ap j k sj sk p' hjk ej ek oj ok a
end
end PL
end
section
namespace PL
open PySem L2
def qtl (M:Md) (H0 H B:Hp) (Q:VK):Rs T→Prop
 | .no=>False
 | .ok r=> ∀v H' B',qbJ H B H' B'→M.G.P H'→Rep M.K B' r v→Q v H'
 | .ex c=> ∀H',GX H0 H'→M.G.P H'→M.E (.ref (M.C c)) none H'
def qtW (M:Md) (H0 H B:Hp) (Q:List V→Hp→Prop):Rs (List T)→Prop
 | .no=>False
 | .ok r=> ∀v H' B',qbJ H B H' B'→M.G.P H'→qaP M.K B' r v→Q v H'
 | .ex c=> ∀H',GX H0 H'→M.G.P H'→M.E (.ref (M.C c)) none H'
def qtV (M:Md) (H0 H B:Hp) (Q:VK):Rs (List T)→Prop
 | .no=>False
 | .ok r=> ∀p vs H' B',qbJ H B H' B'→M.G.P H'→H p=none→B' p=none→H' p=some (.lst vs)→qaP M.K B' r vs→Q (.ref p) H'
 | .ex c=> ∀H',GX H0 H'→M.G.P H'→M.E (.ref (M.C c)) none H'
def qtU (M:Md) (H0 H B:Hp) (Q:VK):Rs (Bool×List T)→Prop
 | .no=>False
 | .ok r=> ∀p vs H' B',qbJ H B H' B'→M.G.P H'→(if r.1=true then H' p=some (.lst vs) else SqT M.K B' p vs)→qaP M.K B' r.2 vs→Q (.ref p) H'
 | .ex c=> ∀H',GX H0 H'→M.G.P H'→M.E (.ref (M.C c)) none H'
def qtT (M:Md) (H0 H B:Hp) (Q:Bool→Hp→Prop):Rs Bool→Prop
 | .no=>False
 | .ok r=> ∀H' B',qbJ H B H' B'→M.G.P H'→Q r H'
 | .ex c=> ∀H',GX H0 H'→M.G.P H'→M.E (.ref (M.C c)) none H'
def tP (M:Md) (d:Ro→Rs T):TE:=fun σ H Q=> ∃H0 B0 ρ B,Ev M H0 B0 ρ σ H B∧qtl M H0 H B Q (d ρ)
def tPA (M:Md) (d:Ro→Rs (List T)):TA:=fun σ H Q=> ∃H0 B0 ρ B,Ev M H0 B0 ρ σ H B∧qtW M H0 H B Q (d ρ)
def tF (M:Md) (d:Ro→Rs (List T)):TE:=fun σ H Q=> ∃H0 B0 ρ B,Ev M H0 B0 ρ σ H B∧qtV M H0 H B Q (d ρ)
def tQ (M:Md) (d:Ro→Rs (Bool×List T)):TE:=fun σ H Q=> ∃H0 B0 ρ B,Ev M H0 B0 ρ σ H B∧qtU M H0 H B Q (d ρ)
def tPT (M:Md) (d:Ro→Rs Bool):TT:=fun σ H Q=> ∃H0 B0 ρ B,Ev M H0 B0 ρ σ H B∧qtT M H0 H B Q (d ρ)
abbrev DE (M:Md) (X:Cx) (e:Expr) (d:Ro→Rs T):Prop:=PE X e (tP M d)
abbrev DA (M:Md) (X:Cx) (es:List Expr) (d:Ro→Rs (List T)):Prop:=PA X es (tPA M d)
abbrev DF (M:Md) (X:Cx) (e:Expr) (d:Ro→Rs (List T)):Prop:=PE X e (tF M d)
abbrev DQ (M:Md) (X:Cx) (e:Expr) (d:Ro→Rs (Bool×List T)):Prop:=PE X e (tQ M d)
abbrev DT (M:Md) (X:Cx) (e:Expr) (d:Ro→Rs Bool):Prop:=PT X e (tPT M d)
theorem PE.weak {X:Cx} {e:Expr} {t t':TE} (h:PE X e t) (w: ∀σ H Q,t' σ H Q→t σ H Q):PE X e t':=fun pins s σ H Q I q=>h pins s σ H Q I (w σ H Q q)
theorem PT.weak {X:Cx} {e:Expr} {t t':TT} (h:PT X e t) (w: ∀σ H Q,t' σ H Q→t σ H Q):PT X e t':=fun pins s σ H Q I q=>h pins s σ H Q I (w σ H Q q)
theorem PA.weak {X:Cx} {e:List Expr} {t t':TA} (h:PA X e t) (w: ∀σ H Q,t' σ H Q→t σ H Q):PA X e t':=fun pos pins s σ H Q I q=>h pos pins s σ H Q I (w σ H Q q)
theorem PS.weak {X:Cx} {e:Stmt} {t t':TS} (h:PS X e t) (w: ∀D σ H,t' D σ H→t D σ H):PS X e t':=fun pins s σ H D I q=>h pins s σ H D I (w D σ H q)
theorem PSs.weak {X:Cx} {e:List Stmt} {t t':TS} (h:PSs X e t) (w: ∀D σ H,t' D σ H→t D σ H):PSs X e t':=fun pins s σ H D I q=>h pins s σ H D I (w D σ H q)
section
variable {M:Md} {H0 B0 H B H1 B1:Hp} {ρ:Ro} {σ:St}
theorem none_of {p:Addr} (g:GX H H1) (h:H1 p=none):H p=none:=by
 cases e:H p with
 | none=>rfl
 | some o=>exact absurd h (g.dm p (by rw[e]; simp))
end
section
variable {M:Md} {H0 B0 H B:Hp} {ρ:Ro} {σ:St} {α:Type}
def Wnt (M:Md) (H0:Hp) (k:α→Prop):Rs α→Prop
 | .no=>False
 | .ok a=>k a
 | .ex c=> ∀H',GX H0 H'→M.G.P H'→M.E (.ref (M.C c)) none H'
theorem Wnt.bind {β:Type} {k:β→Prop} {r:Rs α} {f:α→Rs β} (h:Wnt M H0 k (r>>=f)):Wnt M H0 (fun a=>Wnt M H0 k (f a)) r:=by
 cases r with
 | no=>exact h
 | ok a=>exact h
 | ex c=>exact h
theorem Wnt.mono {k k':α→Prop} {r:Rs α} (h:Wnt M H0 k r) (f: ∀a,k a→k' a):Wnt M H0 k' r:=by
 cases r with
 | no=>exact h
 | ok a=>exact f a h
 | ex c=>exact h
theorem qaG {Q:VK} {r:Rs T}:qtl M H0 H B Q r↔Wnt M H0 (fun a=> ∀v H' B',qbJ H B H' B'→M.G.P H'→Rep M.K B' a v→Q v H') r:=by cases r<;>exact Iff.rfl
theorem qiV {Q:List V→Hp→Prop} {r:Rs (List T)}:qtW M H0 H B Q r↔Wnt M H0 (fun a=> ∀v H' B',qbJ H B H' B'→M.G.P H'→qaP M.K B' a v→Q v H') r:=by cases r<;>exact Iff.rfl
theorem qcp {Q:VK} {r:Rs (List T)}:qtV M H0 H B Q r↔Wnt M H0 (fun a=> ∀p vs H' B',qbJ H B H' B'→M.G.P H'→H p=none→B' p=none→H' p=some (.lst vs)→qaP M.K B' a vs→Q (.ref p) H') r:=by cases r<;>exact Iff.rfl
theorem qdT {Q:VK} {r:Rs (Bool×List T)}:qtU M H0 H B Q r↔Wnt M H0 (fun a=> ∀p vs H' B',qbJ H B H' B'→M.G.P H'→(if a.1=true then H' p=some (.lst vs) else SqT M.K B' p vs)→qaP M.K B' a.2 vs→Q (.ref p) H') r:=by cases r<;>exact Iff.rfl
theorem qdS {Q:Bool→Hp→Prop} {r:Rs Bool}:qtT M H0 H B Q r↔Wnt M H0 (fun a=> ∀H' B',qbJ H B H' B'→M.G.P H'→Q a H') r:=by cases r<;>exact Iff.rfl
theorem tP.of {Q:VK} {d:Ro→Rs T} (ev:Ev M H0 B0 ρ σ H B) (h:Wnt M H0 (fun a=> ∀v H' B',qbJ H B H' B'→M.G.P H'→Rep M.K B' a v→Q v H') (d ρ)):tP M d σ H Q:=⟨H0,B0,ρ,B,ev,qaG.mpr h⟩
theorem tPA.of {Q:List V→Hp→Prop} {d:Ro→Rs (List T)} (ev:Ev M H0 B0 ρ σ H B) (h:Wnt M H0 (fun a=> ∀v H' B',qbJ H B H' B'→M.G.P H'→qaP M.K B' a v→Q v H') (d ρ)):tPA M d σ H Q:=⟨H0,B0,ρ,B,ev,qiV.mpr h⟩
theorem tF.of {Q:VK} {d:Ro→Rs (List T)} (ev:Ev M H0 B0 ρ σ H B) (h:Wnt M H0 (fun a=> ∀p vs H' B',qbJ H B H' B'→M.G.P H'→H p=none→B' p=none→H' p=some (.lst vs)→qaP M.K B' a vs→Q (.ref p) H') (d ρ)):tF M d σ H Q:=⟨H0,B0,ρ,B,ev,qcp.mpr h⟩
theorem tQ.of {Q:VK} {d:Ro→Rs (Bool×List T)} (ev:Ev M H0 B0 ρ σ H B) (h:Wnt M H0 (fun a=> ∀p vs H' B',qbJ H B H' B'→M.G.P H'→(if a.1=true then H' p=some (.lst vs) else SqT M.K B' p vs)→qaP M.K B' a.2 vs→Q (.ref p) H') (d ρ)):tQ M d σ H Q:=⟨H0,B0,ρ,B,ev,qdT.mpr h⟩
theorem tPT.of {Q:Bool→Hp→Prop} {d:Ro→Rs Bool} (ev:Ev M H0 B0 ρ σ H B) (h:Wnt M H0 (fun a=> ∀H' B',qbJ H B H' B'→M.G.P H'→Q a H') (d ρ)):tPT M d σ H Q:=⟨H0,B0,ρ,B,ev,qdS.mpr h⟩
end
def dV (i:Nat):Ro→Rs T:=fun ρ=>match ρ[i]? with | some (.fz t)=>.ok t | _=>.no
def dC (t:T):Ro→Rs T:=fun _=>.ok t
section
variable {M:Md} {X:Cx} {e a b c:Expr} {es:List Expr} {pos:Pos} {da db dc:Ro→Rs T} {ds:Ro→Rs (List T)}
theorem qaa {i:Nat} (h:PE X e (qpS i)):DE M X e (dV i):=by
 refine PE.weak h fun σ H Q hq112=> ?_
 obtain ⟨H0,B0,ρ,B,ev,w⟩:=hq112
 have w:=qaG.mp w
 unfold dV at w
 split at w
 ·rename_i t e1
  obtain ⟨x,e2,r⟩:=ev.get e1
  exact ⟨x,e2,w x H B (.refl ev.bh ev.bt) ev.gm r⟩
 ·exact w.elim
theorem qdt {v:V} {t:T} (h:PE X e (tC v)) (r: ∀B,Rep M.K B t v):DE M X e (dC t):=
 PE.weak h fun σ H Q ⟨H0,B0,ρ,B,ev,w⟩=>w v H B (.refl ev.bh ev.bt) ev.gm (r B)
theorem qap {i j pos}:DE M X (.Constant (.int i) j pos) (dC (.int i)):=qdt qaD fun B=>by unfold Rep; rfl
theorem qgX {i j pos}:DE M X (.Constant (.bool i) j pos) (dC (.bl i)):=qdt qqA fun B=>by unfold Rep; rfl
theorem qdj {i j pos}:DE M X (.Constant (.str i) j pos) (dC (.str i)):=qdt qkN fun B=>by unfold Rep; rfl
def RS (M:Md) (r:R2) (g:T→T→Rs T):Prop:=
 ∀(H B:Hp) (x y:V) (a b c:T) (Q:VK),Le B H→(∀p ps,B p≠some (.tbl ps))→M.G.P H→Rep M.K B a x→Rep M.K B b y→g a b= .ok c→
  (∀v H' B',qbJ H B H' B'→M.G.P H'→Rep M.K B' c v→Q v H')→r x y H Q
def Pl (g:T→T→Rs T):Prop:= ∀a b c,g a b≠.ex c
def dB (g:T→T→Rs T) (da db:Ro→Rs T):Ro→Rs T:=fun ρ=>da ρ>>=fun x=>db ρ>>=fun y=>g x y
theorem qfL {r:R2} {g:T→T→Rs T} (hr:RS M r g) (hp:Pl g) {σ:St} {H:Hp} {Q:VK} (h:tP M (dB g da db) σ H Q):tOp r (tP M da) (tP M db) σ H Q:=by
 obtain ⟨H0,B0,ρ,B,ev,w⟩:=h
 refine tP.of ev (Wnt.mono (Wnt.bind (qaG.mp w)) fun x w1 v H1 B1 g1 m1 r1=> ?_)
 refine tP.of (ev.grow g1 m1) (Wnt.mono (Wnt.bind w1) fun y w2 u H2 B2 g2 m2 r2=> ?_)
 cases e:g x y with
 | no=>rw[e] at w2; exact w2.elim
 | ex c=>exact absurd e (hp x y c)
 | ok z=>
  rw[e] at w2
  have ev2:=(ev.grow g1 m1).grow g2 m2
  exact hr H2 B2 v u x y z Q ev2.bh ev2.bt m2 (r1.mono g2.bb) r2 e fun v' H' B' g' m' r'=>w2 v' H' B' ((g1.trans g2).trans g') m' r'
theorem qa6 {op:Operator} {r:R2} {g:T→T→Rs T} (ho:OpR X (binaryOp op) r) (hr:RS M r g) (hp:Pl g) (ha:DE M X a da) (hb:DE M X b db):DE M X (.BinOp a op b pos) (dB g da db):=
 PE.weak (qcE ho ha hb) fun _ _ _ h=>qfL hr hp h
theorem qlP {op:CmpOp} {r:R2} {g:T→T→Rs T} (ho:OpR X (compareOp op) r) (hr:RS M r g) (hp:Pl g) (ha:DE M X a da) (hb:DE M X b db) (hm:behindInMarks op b=false:=by first | exact qfO _ (by decide) (by decide) | rfl):DE M X (.Compare a [op] [b] pos) (dB g da db):=
 PE.weak (qkP ho ha hb hm) fun _ _ _ h=>qfL hr hp h
theorem qcK {r:R2} {g:T→T→Rs T} (ho:IxR X r) (hr:RS M r g) (hp:Pl g) (ha:DE M X a da) (hb:DE M X b db) (hs:ql8 b):DE M X (.Subscript a b pos) (dB g da db):=
 PE.weak (qce ho ha hb hs) fun _ _ _ h=>qfL hr hp h
def qat:Ro→Rs (List T):=fun _=>.ok []
def qac (da:Ro→Rs T) (ds:Ro→Rs (List T)):Ro→Rs (List T):=fun ρ=>da ρ>>=fun x=>ds ρ>>=fun xs=>.ok (x::xs)
theorem qal:DA M X [] qat:=PA.weak qaq fun σ H Q ⟨H0,B0,ρ,B,ev,w⟩=>w [] H B (.refl ev.bh ev.bt) ev.gm .nil
theorem qab (ha:DE M X e da) (hs:DA M X es ds) (hst:starEach (e::es) X.env=(false,eval e X.env)::starEach es X.env:=by rfl):DA M X (e::es) (qac da ds):=by
 refine PA.weak (qaf ha hs hst) fun σ H Q hq159=> ?_
 obtain ⟨H0,B0,ρ,B,ev,w⟩:=hq159
 refine tP.of ev (Wnt.mono (Wnt.bind (qiV.mp w)) fun x w1 v H1 B1 g1 m1 r1=> ?_)
 refine tPA.of (ev.grow g1 m1) (Wnt.mono (Wnt.bind w1) fun y w2 u H2 B2 g2 m2 r2=> ?_)
 exact w2 (v::u) H2 B2 (g1.trans g2) m2 (.cons (r1.mono g2.bb) r2)
def qcc (ds:Ro→Rs (List T)):Ro→Rs T:=fun ρ=>ds ρ>>=fun xs=>if xs.length≤1000 then .ok (.tup xs) else .no
theorem qen {x1} (hs:DA M X es ds):DE M X (.Tuple es x1 pos) (qcc ds):=by
 refine PE.weak (qfg hs) fun σ H Q hq165=> ?_
 obtain ⟨H0,B0,ρ,B,ev,w⟩:=hq165
 refine tPA.of ev (Wnt.mono (Wnt.bind (qaG.mp w)) fun xs w1 vs H1 B1 g1 m1 r1=> ?_)
 have ev1:=ev.grow g1 m1
 split at w1
 ·rename_i hl
  refine ⟨Nat.le_of_lt (qaQ (by rw[r1.length]; exact hl)),fun p hp=> ?_⟩
  obtain ⟨g2,m2⟩:=ev1.new (o:=.tup vs) hp (by intro ps z; cases z)
  refine w1 (.ref p) _ _ (g1.trans g2) m2 ?_
  unfold Rep
  exact ⟨p,vs,rfl,qag,r1.mono g2.bb⟩
 ·exact w1.elim
def qb6 (ds:Ro→Rs (List T)):Ro→Rs (List T):=fun ρ=>ds ρ>>=fun xs=>if xs.length≤1000 then .ok xs else .no
theorem qcU (hs:DA M X es ds):DF M X (.List es pos) (qb6 ds):=by
 refine PE.weak (qgt hs) fun σ H Q hq178=> ?_
 obtain ⟨H0,B0,ρ,B,ev,w⟩:=hq178
 refine tPA.of ev (Wnt.mono (Wnt.bind (qcp.mp w)) fun xs w1 vs H1 B1 g1 m1 r1=> ?_)
 have ev1:=ev.grow g1 m1
 split at w1
 ·rename_i hl
  refine ⟨Nat.le_of_lt (qaQ (by rw[r1.length]; exact hl)),fun p hp=> ?_⟩
  obtain ⟨g2,m2⟩:=ev1.nown (o:=.lst vs) hp
  have bp:B1 p=none:=by
   cases q:B1 p with
   | none=>rfl
   | some u=>rw[ev1.bh _ _ q] at hp; cases hp
  exact w1 p vs _ _ (g1.trans g2) m2 (none_of g1.gx hp) bp qag r1
 ·exact w1.elim
def dFz (ds:Ro→Rs (List T)):Ro→Rs T:=fun ρ=>ds ρ>>=fun xs=>.ok (.lst xs)
theorem qbJ.freeze {H B H' B':Hp} {p:Addr} {vs:List V} (g:qbJ H B H' B') (h:H p=none) (hb:B' p=none) (hp:H' p=some (.lst vs)):qbJ H B H' (upd B' p (.lst vs))∧Le B' (upd B' p (.lst vs)):=by
 have le:Le B' (upd B' p (.lst vs)):=fun a o z=>by rw[qae (qak z hb)]; exact z
 refine ⟨⟨g.gx,g.bb.trans le,fun a o z=> ?_,fun a ps z=> ?_,fun a o z n1 n2=> ?_⟩,le⟩
 ·by_cases q:a=p
  ·subst q; rw[qag] at z; cases z; exact hp
  ·rw[qae q] at z; exact g.bh a o z
 ·by_cases q:a=p
  ·subst q; rw[qag] at z; cases z
  ·rw[qae q] at z; exact g.bt a ps z
 ·rw[qae (fun q=>by rw[q,h] at z; cases z)]; exact g.nw a o z n1 n2
theorem qaH {e:Expr} (h:DF M X e ds):DE M X e (dFz ds):=by
 refine PE.weak h fun σ H Q hq204=> ?_
 obtain ⟨H0,B0,ρ,B,ev,w⟩:=hq204
 refine tF.of ev (Wnt.mono (Wnt.bind (qaG.mp w)) fun xs w1 p vs H1 B1 g1 m1 hp hb hl r1=> ?_)
 obtain ⟨g2,le⟩:=g1.freeze hp hb hl
 refine w1 (.ref p) H1 _ g2 m1 ?_
 unfold Rep
 exact ⟨p,vs,rfl,qag,r1.mono le⟩
def qkl:T→Rs (Bool×List T)
 | .lst ts=>.ok (true,ts)
 | .tup ts=>.ok (false,ts)
 | _=>.no
def dQ (da:Ro→Rs T):Ro→Rs (Bool×List T):=fun ρ=>da ρ>>=qkl
theorem qps (ha:DE M X e da):DQ M X e (dQ da):=by
 refine PE.weak ha fun σ H Q hq217=> ?_
 obtain ⟨H0,B0,ρ,B,ev,w⟩:=hq217
 refine tP.of ev (Wnt.mono (Wnt.bind (qdT.mp w)) fun x w1 v H1 B1 g1 m1 r1=> ?_)
 cases x with
 | lst ts=>
  unfold Rep at r1
  obtain ⟨p,vs,rfl,hp,r⟩:=r1
  exact w1 p vs H1 B1 g1 m1 (by rw[if_pos rfl]; exact g1.bh _ _ hp) r
 | tup ts=>
  unfold Rep at r1
  obtain ⟨p,vs,rfl,hp,r⟩:=r1
  exact w1 p vs H1 B1 g1 m1 (by rw[if_neg (by intro z; cases z)]; exact (SqT.of hp)) r
 | _=>exact w1.elim
def dQF (ds:Ro→Rs (List T)):Ro→Rs (Bool×List T):=fun ρ=>ds ρ>>=fun ts=>.ok (true,ts)
theorem qb5 (h:DF M X e ds):DQ M X e (dQF ds):=by
 refine PE.weak h fun σ H Q hq231=> ?_
 obtain ⟨H0,B0,ρ,B,ev,w⟩:=hq231
 exact tF.of ev (Wnt.mono (Wnt.bind (qdT.mp w)) fun xs w1 p vs H1 B1 g1 m1 hp hb hl r1=>w1 p vs H1 B1 g1 m1 (by rw[if_pos rfl]; exact hl) r1)
def dQV (i:Nat):Ro→Rs (Bool×List T):=fun ρ=>match ρ[i]? with | some (.fz t)=>qkl t | some (.ow ts)=>.ok (true,ts) | _=>.no
theorem qbP {i:Nat} (h:PE X e (qpS i)):DQ M X e (dQV i):=by
 refine PE.weak h fun σ H Q hq236=> ?_
 obtain ⟨H0,B0,ρ,B,ev,w⟩:=hq236
 have w:=qdT.mp w
 unfold dQV at w
 split at w
 ·rename_i t e1
  obtain ⟨x,e2,r⟩:=ev.get e1
  refine ⟨x,e2,?_⟩
  cases t with
  | lst ts=>
   unfold Rep at r
   obtain ⟨p,vs,rfl,hp,r⟩:=r
   exact w p vs H B (.refl ev.bh ev.bt) ev.gm (by rw[if_pos rfl]; exact ev.bh _ _ hp) r
  | tup ts=>
   unfold Rep at r
   obtain ⟨p,vs,rfl,hp,r⟩:=r
   exact w p vs H B (.refl ev.bh ev.bt) ev.gm (by rw[if_neg (by intro z; cases z)]; exact (SqT.of hp)) r
  | _=>exact w.elim
 ·rename_i ts e1
  obtain ⟨p,vs,e2,h0,hb,hp,r⟩:=ev.getOw e1
  exact ⟨.ref p,e2,w p vs H B (.refl ev.bh ev.bt) ev.gm (by rw[if_pos rfl]; exact hp) r⟩
 ·exact w.elim
end
end PL
end
section
namespace PL
open PySem L2
inductive Out where
 | nx (ρ:Ro) | rt (t:T) | bk (ρ:Ro) | ct (ρ:Ro) | rs (s:Sl) (ρ:Ro)
def qpI (M:Md) (H0 B0 B:Hp) (D:qmh):Out→Prop
 | .nx ρ=> ∀σ' H' B',Ev M H0 B0 ρ σ' H' B'→Le B B'→D.nx σ' H'
 | .bk ρ=> ∀σ' H' B',Ev M H0 B0 ρ σ' H' B'→Le B B'→D.bk σ' H'
 | .ct ρ=> ∀σ' H' B',Ev M H0 B0 ρ σ' H' B'→Le B B'→D.ct σ' H'
 | .rt t=> ∀v H' B',qbJ H0 B0 H' B'→M.G.P H'→Rep M.K B' t v→D.rt v H'
 | .rs s ρ=> ∀v σ' H' B',Ev M H0 B0 (s::ρ) (some v::σ') H' B'→Le B B'→D.rt v H'
theorem qpI.mono {M:Md} {H0 B0 B B1:Hp} {D:qmh} {o:Out} (h:qpI M H0 B0 B D o) (le:Le B B1):qpI M H0 B0 B1 D o:=by
 cases o with
 | nx ρ=>exact fun σ' H' B' e l=>h σ' H' B' e (le.trans l)
 | bk ρ=>exact fun σ' H' B' e l=>h σ' H' B' e (le.trans l)
 | ct ρ=>exact fun σ' H' B' e l=>h σ' H' B' e (le.trans l)
 | rt t=>exact h
 | rs t ρ=>exact fun v σ' H' B' e l=>h v σ' H' B' e (le.trans l)
def tS (M:Md) (d:Ro→Rs Out):TS:=fun D σ H=> ∃H0 B0 ρ B,Ev M H0 B0 ρ σ H B∧Wnt M H0 (qpI M H0 B0 B D) (d ρ)
abbrev DS (M:Md) (X:Cx) (st:Stmt) (d:Ro→Rs Out):Prop:=PS X st (tS M d)
abbrev DSs (M:Md) (X:Cx) (st:List Stmt) (d:Ro→Rs Out):Prop:=PSs X st (tS M d)
def qaC:Ro→Rs Out:=fun ρ=>.ok (.nx ρ)
def qbh (o:Out) (e:Ro→Rs Out):Rs Out:=match o with | .nx ρ=>e ρ | o=>.ok o
def qaV (d e:Ro→Rs Out):Ro→Rs Out:=fun ρ=>d ρ>>=fun o=>qbh o e
def qbk (da:Ro→Rs T):Ro→Rs Out:=fun ρ=>da ρ>>=fun t=>.ok (.rt t)
def qbI (i:Nat) (da:Ro→Rs T):Ro→Rs Out:=fun ρ=>da ρ>>=fun t=>.ok (.nx (ρ.set i (.fz t)))
def qbv (i:Nat) (ds:Ro→Rs (List T)):Ro→Rs Out:=fun ρ=>ds ρ>>=fun ts=>.ok (.nx (ρ.set i (.ow ts)))
def qbg (da:Ro→Rs T):Ro→Rs Out:=fun ρ=>da ρ>>=fun _=>.ok (.nx ρ)
def dIf (dt:Ro→Rs Bool) (d e:Ro→Rs Out):Ro→Rs Out:=fun ρ=>dt ρ>>=fun c=>if c=true then d ρ else e ρ
def dNo:Ro→Rs Out:=fun _=>.no
def qaT (ρ:Ro) (i:Nat) (us:List T):Rs Out:=match ρ[i]? with
 | some (.ow ts)=>if ts.length+us.length≤1000 then .ok (.nx (ρ.set i (.ow (ts++us)))) else .no
 | _=>.no
def qdd (ρ:Ro) (i:Nat):Rs Unit:=match ρ[i]? with | some (.ow _)=>.ok () | _=>.no
def qdw (i:Nat) (da:Ro→Rs T):Ro→Rs Out:=fun ρ=>qdd ρ i>>=fun _=>da ρ>>=fun t=>qaT ρ i [t]
def qdc (i:Nat) (dq:Ro→Rs (Bool×List T)):Ro→Rs Out:=fun ρ=>qdd ρ i>>=fun _=>dq ρ>>=fun q=>if q.1=true then qaT ρ i q.2 else .no
def frz (i:Nat) (ρ:Ro):Ro:=match ρ[i]? with | some (.ow ts)=>ρ.set i (.fz (.lst ts)) | _=>ρ
section
variable {M:Md} {X:Cx} {e a b c:Expr} {st:Stmt} {qdB sts sts':List Stmt} {pos:Pos} {da db dk:Ro→Rs T} {ds:Ro→Rs (List T)} {d d':Ro→Rs Out} {dt:Ro→Rs Bool} {dq:Ro→Rs (Bool×List T)} {x:Str} {pos':Pos} {i:Nat}
theorem qbq:DSs M X [] qaC:=PSs.weak qch fun D σ H ⟨H0,B0,ρ,B,ev,w⟩=>w σ H B ev (.refl _)
theorem qam (h:DS M X st d) (h':DSs M X qdB d'):DSs M X (st::qdB) (qaV d d'):=by
 refine PSs.weak (qaA h h') fun D σ H hq48=> ?_
 obtain ⟨H0,B0,ρ,B,ev,w⟩:=hq48
 refine ⟨H0,B0,ρ,B,ev,Wnt.mono (Wnt.bind w) fun o w1=> ?_⟩
 cases o with
 | nx ρ'=>exact fun σ' H' B' ev' le=>⟨H0,B0,ρ',B',ev',Wnt.mono w1 fun o q=>q.mono le⟩
 | bk ρ'=>exact w1
 | ct ρ'=>exact w1
 | rs t ρ'=>exact w1
 | rt t=>exact w1
theorem qax (h:DS M X st d):DSs M X [st] d:=qaW h
theorem qc5:DSs M X sts dNo:=PSs.weak qb7 fun D σ H ⟨H0,B0,ρ,B,ev,w⟩=>w
theorem qba (h:DE M X e da):DS M X (.Return (some e) pos) (qbk da):=by
 refine PS.weak (qb9 h) fun D σ H hq59=> ?_
 obtain ⟨H0,B0,ρ,B,ev,w⟩:=hq59
 exact tP.of ev (Wnt.mono (Wnt.bind w) fun t w1 v H' B' g m r=>w1 v H' B' (ev.gr.trans g) m r)
theorem qcB (h:DE M X e da) (hs:swapsWith e none pos.line X.env=pure false:=by rfl):DS M X (.Expr e pos) (qbg da):=by
 refine PS.weak (qbX h hs) fun D σ H hq68=> ?_
 obtain ⟨H0,B0,ρ,B,ev,w⟩:=hq68
 exact tP.of ev (Wnt.mono (Wnt.bind w) fun t w1 v H' B' g m r=>w1 σ H' B' (ev.grow g m) g.bb)
theorem qc6 (hc:DT M X c dt) (h:DSs M X sts d) (h':DSs M X sts' d'):DS M X (.If c sts sts' pos) (dIf dt d d'):=by
 refine PS.weak (qeJ hc h h') fun D σ H hq71=> ?_
 obtain ⟨H0,B0,ρ,B,ev,w⟩:=hq71
 refine tPT.of ev (Wnt.mono (Wnt.bind w) fun t w1 H' B' g m=> ?_)
 cases t with
 | true=>exact ⟨H0,B0,ρ,B',ev.grow g m,Wnt.mono w1 fun o q=>q.mono g.bb⟩
 | false=>exact ⟨H0,B0,ρ,B',ev.grow g m,Wnt.mono w1 fun o q=>q.mono g.bb⟩
theorem qct (hN:X.N.Nodup) (hi:X.N[i]? =some x) (hx:Loc X.env.scope x) (h:DE M X e da) (hs:swapsWith e (some (.Name x pos')) pos.line X.env=pure false:=by rfl) (hf:X.fn x=true∨X.env.scope.names.lookup x=some .local:=by first | exact .inl rfl | exact .inr rfl | assumption):
  DS M X (.Assign [.Name x pos'] e pos) (qbI i da):=by
 refine PS.weak (qfe hN hi hx h hs hf) fun D σ H hq78=> ?_
 obtain ⟨H0,B0,ρ,B,ev,w⟩:=hq78
 exact tP.of ev (Wnt.mono (Wnt.bind w) fun t w1 v H' B' g m r=>w1 _ H' B' ((ev.grow g m).set r) g.bb)
theorem Ev.newOwn {M:Md} {H0 B0 H B H' B':Hp} {ρ:Ro} {σ:St} {p:Addr} {vs:List V} {ts:List T} (i:Nat) (ev:Ev M H0 B0 ρ σ H B) (g:qbJ H B H' B') (m:M.G.P H') (hp:H p=none) (hb:B' p=none) (hl:H' p=some (.lst vs)) (r:qaP M.K B' ts vs):
  Ev M H0 B0 (ρ.set i (.ow ts)) (σ.set i (some (.ref p))) H' B':=by
 refine (ev.grow g m).setOw (none_of ev.gr.gx hp) hb hl r fun j s hj e o z=> ?_
 have q:=ev.sl j s e
 cases s with
 | no=>cases o
 | fz t=>cases o
 | ow ts'=>
  obtain ⟨p',vs',a1,a2,a3,a4,a5⟩:=q
  rw[a1] at z; cases z
  rw[a4] at hp; cases hp
 | od ts'=>
  obtain ⟨p',vs',a1,a2,a3,a4,a5⟩:=q
  rw[a1] at z; cases z
  rw[a4] at hp; cases hp
 | ou ts'=>
  obtain ⟨p',vs',a1,a2,a3,a4,a5⟩:=q
  rw[a1] at z; cases z
  rw[a4] at hp; cases hp
 | pd ts'=>
  obtain ⟨p',vs',a0,a1,a2,a3,a4,a5⟩:=q
  rw[a1] at z; cases z
  rw[a4] at hp; cases hp
 | pu ts'=>
  obtain ⟨p',vs',a0,a1,a2,a3,a4,a5⟩:=q
  rw[a1] at z; cases z
  rw[a4] at hp; cases hp
theorem qhV (hN:X.N.Nodup) (hi:X.N[i]? =some x) (hx:Loc X.env.scope x) (h:DF M X e ds) (hs:swapsWith e (some (.Name x pos')) pos.line X.env=pure false:=by rfl) (hf:X.fn x=true∨X.env.scope.names.lookup x=some .local:=by first | exact .inl rfl | exact .inr rfl | assumption):
  DS M X (.Assign [.Name x pos'] e pos) (qbv i ds):=by
 refine PS.weak (qfe hN hi hx h hs hf) fun D σ H hq97=> ?_
 obtain ⟨H0,B0,ρ,B,ev,w⟩:=hq97
 exact tF.of ev (Wnt.mono (Wnt.bind w) fun t w1 p vs H' B' g m hp hb hl r=>w1 _ H' B' (ev.newOwn i g m hp hb hl r) g.bb)
theorem qkF {M:Md} {H0 B0 H B:Hp} {ρ:Ro} {σ:St} {us:List T} {ws:List V} {Bs:Hp} {D:qmh} (ev:Ev M H0 B0 ρ σ H B) (r:qaP M.K B us ws) (w:Wnt M H0 (qpI M H0 B0 Bs D) (qaT ρ i us)) (le:Le Bs B):
  ∃p vs,σ[i]? =some (some (.ref p))∧H p=some (.lst vs)∧B p=none∧vs.length+ws.length<sizeLine∧D.nx σ (upd H p (.lst (vs++ws))):=by
 unfold qaT at w
 split at w
 ·rename_i ts e1
  split at w
  ·rename_i hl
   obtain ⟨p,vs,e2,h0,hb,hp,rv⟩:=ev.getOw e1
   refine ⟨p,vs,e2,hp,hb,qaQ (by rw[rv.length,r.length]; exact hl),w σ _ B (ev.putOw e1 e2 (rv.append r)) le⟩
  ·exact w.elim
 ·exact w.elim
theorem qn4 {M:Md} {H0:Hp} {ρ:Ro} {α:Type} {k:α→Prop} {f:Unit→Rs α} (w:Wnt M H0 k (qdd ρ i>>=f)): ∃ts,ρ[i]? =some (.ow ts)∧Wnt M H0 k (f ()):=by
 unfold qdd at w
 split at w
 ·rename_i ts e1; exact ⟨ts,e1,w⟩
 ·exact w.elim
theorem qlE {m:Expr} (h:PE X m (tBM X.K "list" qkD (qpS i) (qdm (tP M da) qj1))) (hs:swapsWith m none pos.line X.env=pure false:=by rfl):DS M X (.Expr m pos) (qdw i da):=by
 refine PS.weak (qbX h hs) fun D σ H hq116=> ?_
 obtain ⟨H0,B0,ρ,B,ev,w⟩:=hq116
 obtain ⟨ts,e1,w⟩:=qn4 w
 obtain ⟨p,vs,e2,h0,hb,hp,rv⟩:=ev.getOw e1
 refine ⟨.ref p,e2,.inl ⟨rfl,_,SqL.of hp⟩,?_⟩
 refine tP.of ev (Wnt.mono (Wnt.bind w) fun t w1 v H' B' g m r=> ?_)
 obtain ⟨p',vs',q1,q2,q3,q4,q5⟩:=qkF (Bs:=B) (ev.grow g m) (.cons r .nil) w1 g.bb
 rw[e2] at q1; cases q1
 exact ⟨p,vs',v,rfl,rfl,q2,by simpa using Nat.lt_of_succ_lt q4,q5⟩
theorem qgU {m:Expr} (h:PE X m (tBM X.K "list" qkC (qpS i) (qdm (tQ M dq) qj1))) (hs:swapsWith m none pos.line X.env=pure false:=by rfl):DS M X (.Expr m pos) (qdc i dq):=by
 refine PS.weak (qbX h hs) fun D σ H hq125=> ?_
 obtain ⟨H0,B0,ρ,B,ev,w⟩:=hq125
 obtain ⟨ts,e1,w⟩:=qn4 w
 obtain ⟨p,vs,e2,h0,hb,hp,rv⟩:=ev.getOw e1
 refine ⟨.ref p,e2,.inl ⟨rfl,_,SqL.of hp⟩,?_⟩
 refine tQ.of ev (Wnt.mono (Wnt.bind w) fun t w1 b us H' B' g m hq r=> ?_)
 split at w1
 ·rename_i hc
  rw[if_pos hc] at hq
  obtain ⟨p',vs',q1,q2,q3,q4,q5⟩:=qkF (Bs:=B) (ev.grow g m) r w1 g.bb
  rw[e2] at q1; cases q1
  exact ⟨p,b,vs',us,rfl,rfl,q2,hq,Nat.le_of_lt q4,q5⟩
 ·exact w1.elim
theorem Ev.frz {M:Md} {H0 B0 H B:Hp} {ρ:Ro} {σ:St} (i:Nat) (ev:Ev M H0 B0 ρ σ H B): ∃B',Le B B'∧Ev M H0 B0 (frz i ρ) σ H B':=by
 unfold PL.frz
 split
 ·rename_i ts e1; exact ev.freeze e1
 ·exact ⟨B,.refl _,ev⟩
theorem qoc (i:Nat) (h:DS M X st d):DS M X st (fun ρ=>d (frz i ρ)):=by
 refine PS.weak h fun D σ H hq167=> ?_
 obtain ⟨H0,B0,ρ,B,ev,w⟩:=hq167
 obtain ⟨B',le,ev'⟩:=ev.frz i
 exact ⟨H0,B0,_,B',ev',Wnt.mono w fun o q=>q.mono le⟩
end
def tG (M:Md) (dg:T→Ro→Rs Ro):TG:=fun v σ H Q=> ∃H0 B0 ρ B t,Ev M H0 B0 ρ σ H B∧Rep M.K B t v∧Wnt M H0 (fun ρ'=> ∀σ',Ev M H0 B0 ρ' σ' H B→Q σ' H) (dg t ρ)
def tGs (M:Md) (dg:List T→Ro→Rs Ro):TGs:=fun v σ H Q=> ∃H0 B0 ρ B t,Ev M H0 B0 ρ σ H B∧qaP M.K B t v∧Wnt M H0 (fun ρ'=> ∀σ',Ev M H0 B0 ρ' σ' H B→Q σ' H) (dg t ρ)
abbrev DG (M:Md) (X:Cx) (e:Expr) (dg:T→Ro→Rs Ro):Prop:=PG X e (tG M dg)
abbrev DGs (M:Md) (X:Cx) (e:List Expr) (dg:List T→Ro→Rs Ro):Prop:=PGs X e (tGs M dg)
theorem PG.weak {X:Cx} {e:Expr} {t t':TG} (h:PG X e t) (w: ∀v σ H Q,t' v σ H Q→t v σ H Q):PG X e t':=fun pins s σ H v u Q I r q=>h pins s σ H v u Q I r (w v σ H Q q)
theorem PGs.weak {X:Cx} {e:List Expr} {t t':TGs} (h:PGs X e t) (w: ∀v σ H Q,t' v σ H Q→t v σ H Q):PGs X e t':=fun pins s σ H v u Q I r q=>h pins s σ H v u Q I r (w v σ H Q q)
def gN (i:Nat):T→Ro→Rs Ro:=fun t ρ=>.ok (ρ.set i (.fz t))
def gsN:List T→Ro→Rs Ro:=fun ts ρ=>match ts with | []=>.ok ρ | _=>.no
def gsC (dg:T→Ro→Rs Ro) (dr:List T→Ro→Rs Ro):List T→Ro→Rs Ro:=fun ts ρ=>match ts with | t::r=>dg t ρ>>=dr r | []=>.no
def gT (n:Nat) (dr:List T→Ro→Rs Ro):T→Ro→Rs Ro:=fun t ρ=>match t with | .tup ts=>if ts.length=n then dr ts ρ else .no | _=>.no
section
variable {M:Md} {X:Cx} {e:Expr} {es:List Expr} {pos:Pos} {i:Nat} {x:Str} {dg:T→Ro→Rs Ro} {dr:List T→Ro→Rs Ro}
theorem qb8 {i:Nat} (h:PG X e (qph i)):DG M X e (gN i):=PG.weak h fun v σ H Q ⟨H0,B0,ρ,B,t,ev,r,w⟩=>w _ (ev.set r)
theorem qf2:DGs M X [] gsN:=PGs.weak qkM fun v σ H Q ⟨H0,B0,ρ,B,t,ev,r,w⟩=>by
 cases t with
 | nil=>exact ⟨r.inv0,w σ ev⟩
 | cons _ _=>exact w.elim
theorem qbQ (h1:DG M X e dg) (h2:DGs M X es dr) (hs:(assignEach (e::es) X.env).map (·.2)=assign e X.env::(assignEach es X.env).map (·.2):=by rfl):DGs M X (e::es) (gsC dg dr):=by
 refine PGs.weak (qfI h1 h2 hs) fun v σ H Q hq194=> ?_
 obtain ⟨H0,B0,ρ,B,t,ev,r,w⟩:=hq194
 cases t with
 | nil=>exact w.elim
 | cons t ts=>
  obtain ⟨u,vs,rfl,ra,rb⟩:=r.inv
  exact ⟨u,vs,rfl,H0,B0,ρ,B,t,ev,ra,Wnt.mono (Wnt.bind w) fun ρ' w1 σ' ev'=>⟨H0,B0,ρ',B,ts,ev',rb,w1⟩⟩
theorem qi0 {k n:Nat} (hc:X.calm=true) (h:DGs M X es dr) (hK:X.K=M.K:=by rfl) (hn:(assignEach es X.env).length=n:=by rfl) (hst:(assignEach es X.env).findIdx? (·.1)=none:=by rfl):DG M X (.Tuple es k pos) (gT n dr):=by
 refine PG.weak (qn2 hc h hn hst) fun v σ H Q hq201=> ?_
 obtain ⟨H0,B0,ρ,B,t,ev,r,w⟩:=hq201
 cases t with
 | tup ts=>
  unfold gT at w
  dsimp only at w
  split at w
  ·rename_i hl
   unfold Rep at r
   obtain ⟨p,vs,rfl,hp,rs⟩:=r
   exact ⟨p,vs,rfl,by rw[hK]; exact ev.bh.sqT (SqT.of hp),by rw[rs.length]; exact hl,H0,B0,ρ,B,ts,ev,rs,w⟩
  ·exact w.elim
 | _=>exact w.elim
end
def qtP (M:Md) (J:It) (B1:Hp) (ts:List T):Prop:= ∀H' B',Le B1 B'→Le B' H'→(∀a ps,B' a≠some (.tbl ps))→M.G.P H'→∀i:Nat,
 (∀t,ts[i]? =some t→J.go i H'∧∀x H'',J.yld i H' x H''→∃B'',qbJ H' B' H'' B''∧M.G.P H''∧Rep M.K B'' t x)∧(i=ts.length→J.stop i H')
def tI (M:Md) (d:Ro→Rs (List T)):TI:=fun σ H R=> ∃H0 B0 ρ B,Ev M H0 B0 ρ σ H B∧Wnt M H0 (fun ts=> ∀J H1 B1,qbJ H B H1 B1→M.G.P H1→ts.length≤sizeLine→qtP M J B1 ts→R J H1) (d ρ)
abbrev DI (M:Md) (X:Cx) (tg e:Expr) (d:Ro→Rs (List T)):Prop:=PI X tg e (tI M d)
theorem PI.weak {X:Cx} {tg e:Expr} {t t':TI} (h:PI X tg e t) (w: ∀σ H Q,t' σ H Q→t σ H Q):PI X tg e t':=fun pins s σ H Q I q=>h pins s σ H Q I (w σ H Q q)
section
variable {M:Md} {X:Cx} {tg e:Expr} {da:Ro→Rs T} {ds:Ro→Rs (List T)}
def quF (K:PySem.W.Frag) (tl:TE):TI:=fun σ H R=>tl σ H fun x H1=> ∃a,x= .ref a∧(((∃xs,SqL K H1 a xs∧(xs.length≤sizeLine→R (Itl K a) H1)))∨(∃xs,SqT K H1 a xs∧(xs.length≤sizeLine→R (Itt K a) H1)))
theorem qqx {l:Expr} {tl:TE} (hl:PE X l tl):PI X tg l (quF X.K tl):=by
 intro pins s σ H R I h
 refine thn (hl pins s σ H _ I h) fun v s1 hq232=> ?_
 obtain ⟨x,H1,I1,r1,q1⟩:=hq232
 obtain ⟨a,e,q⟩:=q1
 subst e
 cases r1
 rcases q with ⟨xs,hq,q⟩ | ⟨xs,hq,q⟩
 ·obtain ⟨its,rv,p,hz⟩:=I1.list hq
  have q:=q hz
  refine wpAny_pyIter_list p.isList ?_
  refine ⟨s1.heap.objs.size,[s1.heap.objs.size],_,_,H1,rfl,I1.kept (t':=s1.toks) fun b o e=>Heap.get?_push_of_some _ e,qgg a _,⟨_,Heap.get?_push_size _ rfl,rfl,rfl⟩,fun b hb=> ?_,q⟩
  have e:b=s1.heap.objs.size:=by simpa using hb
  subst e
  exact I1.fpOk (Nat.le_refl _) (I1.hok.fresh (Nat.le_refl _))
 ·obtain ⟨its,rv,p,hz⟩:=I1.tuple hq
  have q:=q hz
  refine wpAny_pyIter_tuple p ?_
  refine ⟨s1.heap.objs.size,[s1.heap.objs.size],_,_,H1,rfl,I1.kept (t':=s1.toks) fun b o e=>Heap.get?_push_of_some _ e,qjd a _,⟨_,Heap.get?_push_size _ rfl,rfl,rfl⟩,fun b hb=> ?_,q⟩
  have e:b=s1.heap.objs.size:=by simpa using hb
  subst e
  exact I1.fpOk (Nat.le_refl _) (I1.hok.fresh (Nat.le_refl _))
end
end PL
end
section
namespace PL
open PySem L2
def qfS:T→Rs (List T)
 | .lst ts=>.ok ts
 | .tup ts=>.ok ts
 | _=>.no
def dI (da:Ro→Rs T):Ro→Rs (List T):=fun ρ=>da ρ>>=qfS
def qkh:T→Rs (List T)
 | .str z=>if z.length≤1000 then .ok (z.cps.toList.map fun c=>.str ⟨#[c]⟩) else .no
 | _=>.no
def dIS (da:Ro→Rs T):Ro→Rs (List T):=fun ρ=>da ρ>>=qkh
def qtY (lo hi:Int):List T:=(List.range (hi - lo).toNat).map fun k=>.int (lo+(k:Nat))
def qkB:List T→Rs (List T)
 | [.int n]=>if n≤1000000∧ -1000000≤n then .ok ((List.range n.toNat).map fun k=>.int (k:Nat)) else .no
 | _=>.no
def qqr:List T→Rs (List T)
 | [.int m,.int n]=>if (n≤1000000∧ -1000000≤n)∧m≤1000000∧ -1000000≤m then .ok (qtY m n) else .no
 | _=>.no
def qdy (ds:Ro→Rs (List T)):Ro→Rs (List T):=fun ρ=>ds ρ>>=qkB
def qec (ds:Ro→Rs (List T)):Ro→Rs (List T):=fun ρ=>ds ρ>>=qqr
def qpM (xs ys:List T):List T:=(xs.zip ys).map fun p=>.tup [p.1,p.2]
def qor:List T→Rs (List T)
 | [.lst xs,.lst ys]=>.ok (qpM xs ys)
 | _=>.no
def dIZ (ds:Ro→Rs (List T)):Ro→Rs (List T):=fun ρ=>ds ρ>>=qor
theorem qqL:(1000000:Nat)≤sizeLine:=by decide
open PySem.Spec PyProof.Rows in
theorem qoM {X:Cx} {elts:List Expr} {kk:Nat} {tpos:Pos} {a b:Expr} {ta:TA} {p pos:Pos} (hg:Gl X "zip") (hm:X.mg "zip" =none) (ha:PA X [a,b] ta) (hs:starEach [a,b] X.env=(false,eval a X.env)::starEach [b] X.env:=by rfl) (hpl:(backTo pos (starEach [b] X.env)).any (·.1)=false:=by rfl):
  PI X (.Tuple elts kk tpos) (.Call (.Name "zip" p) [a,b] [] pos) (fun σ H R=>ta σ H fun vs H1=> ∃l1 l2 xs ys,vs=[.ref l1,.ref l2]∧SqL X.K H1 l1 xs∧SqL X.K H1 l2 ys∧(xs.length≤sizeLine→ys.length≤sizeLine→R (Itz X.K l1 l2) H1)):=by
 intro pins s σ H R I h
 refine wpAny_Call_Name_kw (qdM I hg hm PyProof.Rows.boot_zip ?_)
 refine PyProof.Rows.callWith_type1 (thn (ha pos pins s σ H _ I h) fun us s1 ⟨vs,H1,I1,r1,l1,l2,xs,ys,e,h1,h2,q⟩=> ?_) hs hpl
 subst e
 obtain ⟨u1,u2,rfl,ru1,ru2⟩:=qj2 r1
 cases ru1; cases ru2
 obtain ⟨its1,rr1,p1,z1⟩:=I1.list h1
 obtain ⟨its2,rr2,p2,z2⟩:=I1.list h2
 have q:=q z1 z2
 obtain ⟨o1,ho1,_⟩:=p1.isList
 obtain ⟨o2,ho2,_⟩:=p2.isList
 have lt1:l1<s1.heap.objs.size:=Heap.lt_size ho1
 have lt2:l2<s1.heap.objs.size:=Heap.lt_size ho2
 refine call_zip_2 p1.isList p2.isList fun h' hz hTI hTO hi1 hi2 hsz kp=>wpAny_pyIter_zip hz ?_
 have D:ZipApart (s1.heap.objs.size+4) (s1.heap.objs.size+2) (s1.heap.objs.size+3) s1.heap.objs.size (s1.heap.objs.size+1) l1 l2:=PySem.W.ktu_apart _ _ _ lt1 lt2
 refine ⟨_,_,_,Itz X.K l1 l2,H1,rfl,I1.kept (t':=s1.toks) kp,qia D,⟨hz,hTI,⟨_,_,hTO⟩,hi1,hi2⟩,fun b hb=> ?_,q⟩
 have hle:s1.heap.objs.size≤b:=by
  have hb':b=s1.heap.objs.size+4∨b=s1.heap.objs.size+2∨b=s1.heap.objs.size+3∨b=s1.heap.objs.size∨b=s1.heap.objs.size+1:=by simpa using hb
  rcases hb' with rfl | rfl | rfl | rfl | rfl
  ·exact Nat.le_add_right _ _
  ·exact Nat.le_add_right _ _
  ·exact Nat.le_add_right _ _
  ·exact Nat.le_refl _
  ·exact Nat.le_add_right _ _
 exact I1.fpOk hle (I1.hok.fresh hle)
section
variable {M:Md} {X:Cx} {tg e a b:Expr} {da:Ro→Rs T} {ds:Ro→Rs (List T)}
theorem qcu (h:DE M X e da) (hK:X.K=M.K:=by rfl):DI M X tg e (dI da):=by
 refine PI.weak (qqx h) fun σ H R hq63=> ?_
 obtain ⟨H0,B0,ρ,B,ev,w⟩:=hq63
 refine tP.of ev (Wnt.mono (Wnt.bind w) fun t w1 v H1 B1 g1 m1 r1=> ?_)
 rw[hK]
 cases t with
 | lst ts=>
  unfold Rep at r1
  obtain ⟨p,vs,rfl,hp,r⟩:=r1
  refine ⟨p,rfl,.inl ⟨vs,SqL.of (g1.bh _ _ hp),fun hz=>w1 _ H1 B1 g1 m1 (by rw[←r.length]; exact hz) fun H' B' le bh bt m i=>⟨fun t et=> ?_,fun hi=> ?_⟩⟩⟩
  ·have q:SqL M.K H' p vs:=SqL.of (bh _ _ (le _ _ hp))
   obtain ⟨x,ex,rx⟩:=r.get et
   refine ⟨⟨vs,x,q,ex⟩,fun y H'' ⟨e1,e2⟩=> ?_⟩
   subst e1
   have:=e2 vs q
   rw[ex] at this; cases this
   exact ⟨B',.refl bh bt,m,rx.mono le⟩
  ·exact ⟨vs,SqL.of (bh _ _ (le _ _ hp)),by rw[r.length,hi]; exact Nat.le_refl _⟩
 | tup ts=>
  unfold Rep at r1
  obtain ⟨p,vs,rfl,hp,r⟩:=r1
  have hp:SqT M.K B1 p vs:=SqT.of hp
  refine ⟨p,rfl,.inr ⟨vs,g1.bh.sqT hp,fun hz=>w1 _ H1 B1 g1 m1 (by rw[←r.length]; exact hz) fun H' B' le bh bt m i=>⟨fun t et=> ?_,fun hi=> ?_⟩⟩⟩
  ·have q:SqT M.K H' p vs:=bh.sqT (le.sqT hp)
   obtain ⟨x,ex,rx⟩:=r.get et
   refine ⟨⟨vs,x,q,ex⟩,fun y H'' ⟨e1,e2⟩=> ?_⟩
   subst e1
   have:=e2 vs q
   rw[ex] at this; cases this
   exact ⟨B',.refl bh bt,m,rx.mono le⟩
  ·exact ⟨vs,bh.sqT (le.sqT hp),by rw[r.length,hi]; exact Nat.le_refl _⟩
 | _=>exact w1.elim
theorem qq8 (h:DE M X e da):DI M X tg e (dIS da):=by
 refine PI.weak (qn1 h) fun σ H R hq93=> ?_
 obtain ⟨H0,B0,ρ,B,ev,w⟩:=hq93
 refine tP.of ev (Wnt.mono (Wnt.bind w) fun t w1 v H1 B1 g1 m1 r1=> ?_)
 cases t with
 | str z=>
  have e1:v= .str z:=by unfold Rep at r1; exact r1
  subst e1
  unfold qkh at w1
  dsimp only at w1
  split at w1
  ·rename_i hz
   refine ⟨z,rfl,w1 _ H1 B1 g1 m1 ?_ fun H' B' le bh bt m i=>⟨fun t et=> ?_,fun hi=> ?_⟩⟩
   ·rw[List.length_map,Array.length_toList]
    exact Nat.le_of_lt (qaQ hz)
   ·rw[List.getElem?_map] at et
    cases q:z.cps.toList[i]? with
    | none=>rw[q] at et; cases et
    | some c=>
     rw[q] at et
     cases et
     have hi:=(List.getElem?_eq_some_iff.mp q).1
     refine ⟨show i<z.cps.size by simpa using hi,fun y H'' ⟨e1,c',e2,e3⟩=> ?_⟩
     subst e1 e3
     rw[Array.getElem?_toList] at q
     rw[q] at e2; cases e2
     exact ⟨B',.refl bh bt,m,by unfold Rep; rfl⟩
   ·show z.cps.size≤i
    rw[hi,List.length_map,Array.length_toList]
    exact Nat.le_refl _
  ·exact w1.elim
 | _=>exact w1.elim
theorem qjc {lo:Int} {n:Nat} {B1:Hp}:qtP M (Itr lo n) B1 ((List.range n).map fun k=>.int (lo+(k:Nat))):=fun H' B' le bh bt m i=>by
 refine ⟨fun t et=> ?_,fun hi=> ?_⟩
 ·rw[List.getElem?_map] at et
  cases q:(List.range n)[i]? with
  | none=>rw[q] at et; cases et
  | some c=>
   rw[q] at et
   cases et
   have hi:=(List.getElem?_eq_some_iff.mp q).1
   rw[List.length_range] at hi
   rw[List.getElem?_range hi] at q; cases q
   refine ⟨hi,fun y H'' ⟨e1,e2⟩=> ?_⟩
   subst e1 e2
   exact ⟨B',.refl bh bt,m,by unfold Rep; rfl⟩
 ·show n≤i
  rw[hi,List.length_map,List.length_range]
  exact Nat.le_refl _
theorem qlI {p pos:Pos} (hg:Gl X "range") (hm:X.mg "range" =none) (ha:DA M X [a] ds) (hs:starEach [a] X.env=[(false,eval a X.env)]:=by rfl):DI M X tg (.Call (.Name "range" p) [a] [] pos) (qdy ds):=by
 refine PI.weak (qkL hg hm ha hs) fun σ H R hq141=> ?_
 obtain ⟨H0,B0,ρ,B,ev,w⟩:=hq141
 refine tPA.of ev (Wnt.mono (Wnt.bind w) fun ts w1 vs H1 B1 g1 m1 r1=> ?_)
 unfold qkB at w1
 split at w1
 ·rename_i n
  obtain ⟨v,r,rfl,a1,b1⟩:=r1.inv
  have e1:v= .int n:=by unfold Rep at a1; exact a1
  have e2:=b1.inv0
  subst e1 e2
  split at w1
  ·rename_i hb
   refine ⟨n,rfl,by lia,by lia,w1 _ H1 B1 g1 m1 ?_ ?_⟩
   ·rw[List.length_map,List.length_range]
    have:=qqL
    lia
   ·have:=qjc (M:=M) (lo:=0) (n:=n.toNat) (B1:=B1)
    simpa using this
  ·exact w1.elim
 ·exact w1.elim
theorem qq7 {elts:List Expr} {kk:Nat} {tpos p pos:Pos} (hg:Gl X "zip") (hm:X.mg "zip" =none) (ha:DA M X [a,b] ds) (hK:X.K=M.K:=by rfl) (hs:starEach [a,b] X.env=(false,eval a X.env)::starEach [b] X.env:=by rfl) (hpl:(backTo pos (starEach [b] X.env)).any (·.1)=false:=by rfl):
  DI M X (.Tuple elts kk tpos) (.Call (.Name "zip" p) [a,b] [] pos) (dIZ ds):=by
 refine PI.weak (qoM hg hm ha hs hpl) fun σ H R hq184=> ?_
 obtain ⟨H0,B0,ρ,B,ev,w⟩:=hq184
 refine tPA.of ev (Wnt.mono (Wnt.bind w) fun ts w1 vs H1 B1 g1 m1 r1=> ?_)
 unfold qor at w1
 split at w1
 ·rename_i xs ys
  obtain ⟨v,r,rfl,a1,b1⟩:=r1.inv
  obtain ⟨v',r',rfl,a2,b2⟩:=b1.inv
  have e2:=b2.inv0
  subst e2
  unfold Rep at a1 a2
  obtain ⟨p1,us,rfl,h1,ra⟩:=a1
  obtain ⟨p2,ws,rfl,h2,rb⟩:=a2
  have l1:=ra.length
  have l2:=rb.length
  refine ⟨p1,p2,us,ws,rfl,SqL.of (g1.bh _ _ h1),SqL.of (g1.bh _ _ h2),fun z1 z2=> ?_⟩
  rw[hK]
  refine w1 _ H1 B1 g1 m1 ?_ fun H' B' le bh bt m i=>⟨fun t et=> ?_,fun hi=> ?_⟩
  ·unfold qpM
   rw[List.length_map,List.length_zip]
   lia
  ·have q1:SqL M.K H' p1 us:=SqL.of (bh _ _ (le _ _ h1))
   have q2:SqL M.K H' p2 ws:=SqL.of (bh _ _ (le _ _ h2))
   unfold qpM at et
   rw[List.getElem?_map] at et
   cases q:(xs.zip ys)[i]? with
   | none=>rw[q] at et; cases et
   | some c=>
    rw[q] at et
    cases et
    have hi:=(List.getElem?_eq_some_iff.mp q).1
    rw[List.length_zip] at hi
    obtain ⟨c1,c2⟩:=c
    obtain ⟨qa,qb⟩:=List.getElem?_zip_eq_some.mp q
    obtain ⟨u,eu,ru⟩:=ra.get qa
    obtain ⟨w',ew,rw'⟩:=rb.get qb
    refine ⟨⟨us,ws,q1,q2,by lia,by lia⟩,fun y H'' ⟨T',x,y',e1,e2,e3,e4,e5⟩=> ?_⟩
    have z1:=e4 us q1
    have z2:=e5 ws q2
    rw[eu] at z1; cases z1
    rw[ew] at z2; cases z2
    subst e1 e3
    refine ⟨_,qbJ.new bh bt e2 (by intro ps z; cases z),M.G.st H' _ (fun a o e _ _ _ _=>by rw[qae (qak e e2)]; exact e) m,?_⟩
    have bp:B' T'=none:=by
     cases q:B' T' with
     | none=>rfl
     | some u=>rw[bh _ _ q] at e2; cases e2
    have le2:Le B1 (upd B' T' (.tup [u,w'])):=fun a o z=>by rw[qae (qak (le _ _ z) bp)]; exact le _ _ z
    unfold Rep
    exact ⟨T',[u,w'],rfl,qag,.cons (ru.mono le2) (.cons (rw'.mono le2) .nil)⟩
  ·refine ⟨us,ws,SqL.of (bh _ _ (le _ _ h1)),SqL.of (bh _ _ (le _ _ h2)),?_⟩
   rw[hi]
   unfold qpM
   rw[List.length_map,List.length_zip,l1,l2]
 ·exact w1.elim
end
end PL
end
section
namespace PL
open PySem L2
def qrK (o:Out) (k:Ro→Rs Out):Rs Out:=match o with
 | .nx ρ=>k ρ
 | .ct ρ=>k ρ
 | .bk ρ=>.ok (.nx ρ)
 | .rt t=>.ok (.rt t)
 | .rs s ρ=>.ok (.rs s ρ)
def qpW (dg:T→Ro→Rs Ro) (db:Ro→Rs Out):List T→Ro→Rs Out
 | [],ρ=>.ok (.nx ρ)
 | t::ts,ρ=>dg t ρ>>=fun ρ1=>db ρ1>>=fun o=>qrK o (qpW dg db ts)
def qoj (di:Ro→Rs (List T)) (dg:T→Ro→Rs Ro) (db:Ro→Rs Out):Ro→Rs Out:=fun ρ=>di ρ>>=fun ts=>qpW dg db ts ρ
section
variable {M:Md} {X:Cx} {tg e elt iter:Expr} {ifs:List Expr} {body:List Stmt} {pos:Pos} {di:Ro→Rs (List T)} {dg:T→Ro→Rs Ro} {db:Ro→Rs Out}
theorem qlD (hp:PassesOwn (model X.prog X.w) X.A X.env X.xe) (hc:X.calm=true) (hi:DI M X tg iter di) (hg:DG M X tg dg) (hb:DSs M X body db)
  (hs: ∀x,foldedSetIterable iter X.env x=pure x:=by intro _; rfl):DS M X (.For tg iter body [] pos) (qoj di dg db):=by
 refine PS.weak (qnY hp hc hi hg hb hs) fun D σ H hq21=> ?_
 obtain ⟨H0,B0,ρ,B,ev,w⟩:=hq21
 refine ⟨H0,B0,ρ,B,ev,Wnt.mono (Wnt.bind w) fun ts w1 J H1 B1 g1 m1 hz wk=> ?_⟩
 refine ⟨fun i m σ H=>i≤ts.length∧m=ts.length - i∧∃ρ' B',Ev M H0 B0 ρ' σ H B'∧Le B1 B'∧Wnt M H0 (qpI M H0 B0 B D) (qpW dg db (ts.drop i) ρ'),⟨ts.length,Nat.zero_le _,by simp,ρ,B1,ev.grow g1 m1,.refl _,by simpa using w1⟩,?_⟩
 rintro i m σ' H' ⟨hi',rfl,ρ',B',ev',le,w2⟩
 by_cases hlt:i<ts.length
 ·obtain ⟨go,yl⟩:=(wk H' B' le ev'.bh ev'.bt ev'.gm i).1 ts[i] (List.getElem?_eq_getElem hlt)
  refine .inr ⟨go,fun σ'' H''=> ∃ρ2 B2,Ev M H0 B0 ρ2 σ'' H'' B2∧Le B1 B2∧Wnt M H0 (qpI M H0 B0 B D) (qpW dg db (ts.drop (i+1)) ρ2),fun σ'' H'' ⟨ρ2,B2,q1,q2,q3⟩=>⟨ts.length - (i+1),by lia,by lia,rfl,ρ2,B2,q1,q2,q3⟩,fun x H3 y=> ?_⟩
  obtain ⟨B3,g3,m3,r3⟩:=yl x H3 y
  rw[List.drop_eq_getElem_cons hlt] at w2
  have ev3:=ev'.grow g3 m3
  have le3:Le B1 B3:=le.trans g3.bb
  refine ⟨H0,B0,ρ',B3,ts[i],ev3,r3,Wnt.mono (Wnt.bind w2) fun ρ1 w3 σ1 ev1=> ?_⟩
  have leB:Le B B3:=g1.bb.trans le3
  refine ⟨H0,B0,ρ1,B3,ev1,Wnt.mono (Wnt.bind w3) fun o w4=> ?_⟩
  cases o with
  | nx ρ2=>exact fun σ4 H4 B4 ev4 le4=>⟨ρ2,B4,ev4,le3.trans le4,w4⟩
  | ct ρ2=>exact fun σ4 H4 B4 ev4 le4=>⟨ρ2,B4,ev4,le3.trans le4,w4⟩
  | bk ρ2=>exact fun σ4 H4 B4 ev4 le4=>w4 σ4 H4 B4 ev4 (leB.trans le4)
  | rt t=>exact w4
  | rs t ρ2=>exact fun v σ4 H4 B4 ev4 le4=>w4 v σ4 H4 B4 ev4 (leB.trans le4)
 ·have e1:i=ts.length:=by lia
  subst e1
  refine .inl ⟨(wk H' B' le ev'.bh ev'.bt ev'.gm ts.length).2 rfl,?_⟩
  rw[List.drop_length] at w2
  exact w2 σ' H' B' ev' (g1.bb.trans le)
end
def Md.nox (M:Md):Md:={ M with E:=fun _ _ _=>False }
theorem Ev.nox {M:Md} {H0 B0 H B:Hp} {ρ:Ro} {σ:St} (ev:Ev M H0 B0 ρ σ H B):Ev M.nox H0 B0 ρ σ H B:=⟨ev.gr,ev.gm,ev.len,ev.sl,ev.ap⟩
def noX {α:Type}:Rs α→Rs α
 | .ex _=>.no
 | r=>r
def qh4:Option Sl→Sl
 | some (.fz t)=>.fz t
 | _=>.no
def qeH (n:Nat) (fr:List Nat) (ρ:Ro):Ro:=List.replicate n .no++fr.map fun i=>qh4 ρ[i]?
def qjW (ρ:Ro):Prop:= ∀(i:Nat) (s:Sl),ρ[i]? =some s→s.own=false
def qjO (dg:T→Ro→Rs Ro) (dt:Ro→Rs Bool) (de:Ro→Rs T):List T→Ro→Rs (List T)
 | [],_=>.ok []
 | t::ts,ρ=>dg t ρ>>=fun ρ1=>dt ρ1>>=fun c=>if c=true then de ρ1>>=fun y=>qjO dg dt de ts ρ1>>=fun ys=>.ok (y::ys) else qjO dg dt de ts ρ1
def qa2 (n:Nat) (fr:List Nat) (di:Ro→Rs (List T)) (dg:T→Ro→Rs Ro) (dt:Ro→Rs Bool) (de:Ro→Rs T):Ro→Rs (List T):=fun ρ=>di ρ>>=fun ts=>noX (qjO dg dt de ts (qeH n fr ρ))
def qdk:Ro→Rs Bool:=fun _=>.ok true
theorem qcG {α β:Type} {r:Rs α} {f:α→Rs β} {b:β} (h:(r>>=f)= .ok b): ∃a,r= .ok a∧f a= .ok b:=by
 cases r with
 | no=>cases h
 | ok a=>exact ⟨a,rfl,h⟩
 | ex c=>cases h
theorem qgm {n:Nat} {fr:List Nat} {ρ:Ro}:qjW (qeH n fr ρ):=fun i s e=>by
 unfold qeH at e
 have h:=List.mem_of_getElem? e
 rcases List.mem_append.mp h with h | h
 ·rw[(List.mem_replicate.mp h).2]; rfl
 ·obtain ⟨j,_,rfl⟩:=List.mem_map.mp h
  unfold qh4
  split<;>rfl
theorem qpo {M:Md} {H0 B0 H B:Hp} {ρ:Ro} {σ:St} {own:List Str} {fr:List (Str×Nat)} (ev:Ev M H0 B0 ρ σ H B):Ev M H0 B0 (qeH own.length (fr.map (·.2)) ρ) (qeE own fr σ) H B:=by
 refine ⟨ev.gr,ev.gm,by simp[qeH,qeE],fun i s e=> ?_,fun i j si sj p hij ei ej oi oj a z=>by rw[qgm i si ei] at oi; cases oi⟩
 unfold qeH at e
 by_cases hi:i<own.length
 ·rw[List.getElem?_append_left (by simpa using hi),List.getElem?_replicate,if_pos hi] at e
  cases e; trivial
 ·rw[List.getElem?_append_right (by simpa using hi),List.length_replicate,List.map_map,List.getElem?_map] at e
  cases q:fr[i - own.length]? with
  | none=>rw[q] at e; cases e
  | some p=>
   rw[q] at e
   have e':qh4 ρ[p.2]? =s:=Option.some.inj e
   subst e'
   have eσ:(qeE own fr σ)[i]?.join=σ[p.2]?.join:=by
    unfold qeE
    rw[List.getElem?_append_right (by simpa using hi),List.length_map,List.getElem?_map,q]
    rfl
   rw[eσ]
   cases q2:ρ[p.2]? with
   | none=>trivial
   | some s'=>
    cases s' with
    | fz t=>exact ev.sl p.2 _ q2
    | _=>trivial
theorem Ev.updD {M:Md} {H0 B0 H B:Hp} {ρ:Ro} {σ:St} {D:Addr} {ys zs:List V} (ev:Ev M H0 B0 ρ σ H B) (hD:H D=some (.lst ys)) (h0:H0 D=none) (hb:B D=none) (ap: ∀(i:Nat) (s:Sl),ρ[i]? =some s→s.own=true→σ[i]?.join≠some (.ref D)):Ev M H0 B0 ρ σ (upd H D (.lst zs)) B:=by
 have neB: ∀a o,B a=some o→a≠D:=fun a o z w=>by rw[w,hb] at z; cases z
 refine ⟨⟨⟨fun a o z n=> ?_,fun a z w=> ?_⟩,ev.gr.bb,fun a o z=> ?_,ev.gr.bt,ev.gr.nw⟩,M.G.st H _ (fun a o z n1 n2 n3 n4=> ?_) ev.gm,ev.len,fun j s ej=> ?_,ev.ap⟩
 ·rw[qae (qak z h0)]; exact ev.gr.gx.hh a o z n
 ·by_cases q:a=D
  ·subst q; exact z h0
  ·rw[qae q] at w; exact ev.gr.gx.dm a z w
 ·rw[qae (neB a o z)]; exact ev.gr.bh a o z
 ·rw[qae (qd7 z hD (n1 _))]; exact z
 ·have o:=ev.sl j s ej
  have np:=ap j s ej
  cases s with
  | no=>trivial
  | fz t=>exact o
  | ow ts'=>
   obtain ⟨p',vs',a1,a2,a3,a4,a5⟩:=o
   exact ⟨p',vs',a1,a2,a3,by rw[qae (fun z=>np rfl (by rw[a1,z]))]; exact a4,a5⟩
  | od ts'=>
   obtain ⟨p',vs',a1,a2,a3,a4,a5⟩:=o
   exact ⟨p',vs',a1,a2,a3,by rw[qae (fun z=>np rfl (by rw[a1,z]))]; exact a4,a5⟩
  | ou ts'=>
   obtain ⟨p',vs',a1,a2,a3,a4,a5⟩:=o
   exact ⟨p',vs',a1,a2,a3,by rw[qae (fun z=>np rfl (by rw[a1,z]))]; exact a4,a5⟩
  | pd ts'=>
   obtain ⟨p',vs',a0,a1,a2,a3,a4,a5⟩:=o
   exact ⟨p',vs',a0,a1,a2,a3,by rw[qae (fun z=>np rfl (by rw[a1,z]))]; exact a4,a5⟩
  | pu ts'=>
   obtain ⟨p',vs',a0,a1,a2,a3,a4,a5⟩:=o
   exact ⟨p',vs',a0,a1,a2,a3,by rw[qae (fun z=>np rfl (by rw[a1,z]))]; exact a4,a5⟩
theorem qkX {α:Type} {M:Md} {H0:Hp} {r:Rs α} {k:α→Prop} (h:Wnt M H0 k (noX r)): ∃a,r= .ok a∧k a:=by
 cases r with
 | no=>exact h.elim
 | ok a=>exact ⟨a,rfl,h⟩
 | ex c=>exact h.elim
section
variable {M:Md} {X:Cx} {tg elt iter:Expr} {ifs:List Expr} {scope:Scope} {pos:Pos} {own:List Str} {fr:List (Str×Nat)} {di:Ro→Rs (List T)} {dg:T→Ro→Rs Ro} {dt:Ro→Rs Bool} {de:Ro→Rs T}
def GNo (dg:T→Ro→Rs Ro):Prop:= ∀t ρ ρ',qjW ρ→dg t ρ= .ok ρ'→qjW ρ'
def qrG (dg:List T→Ro→Rs Ro):Prop:= ∀t ρ ρ',qjW ρ→dg t ρ= .ok ρ'→qjW ρ'
theorem qcI {i:Nat}:GNo (gN i):=fun t ρ ρ' h e j s ej=>by
 cases e
 rw[List.getElem?_set] at ej
 split at ej
 ·split at ej
  ·cases ej; rfl
  ·cases ej
 ·exact h j s ej
theorem qlv:qrG gsN:=fun t ρ ρ' h e=>by
 cases t with
 | nil=>cases e; exact h
 | cons _ _=>cases e
theorem qel {dg:T→Ro→Rs Ro} {dr:List T→Ro→Rs Ro} (h1:GNo dg) (h2:qrG dr):qrG (gsC dg dr):=fun t ρ ρ' h e=>by
 cases t with
 | nil=>cases e
 | cons t ts=>
  obtain ⟨ρ1,e1,e2⟩:=qcG e
  exact h2 ts ρ1 ρ' (h1 t ρ ρ1 h e1) e2
theorem qpf {n:Nat} {dr:List T→Ro→Rs Ro} (h2:qrG dr):GNo (gT n dr):=fun t ρ ρ' h e=>by
 cases t with
 | tup ts=>
  unfold gT at e
  dsimp only at e
  split at e
  ·exact h2 ts ρ ρ' h e
  ·cases e
 | _=>cases e
theorem qg0 (gn:GNo dg) {σ:St} {H:Hp} {H0 B0 B:Hp} {ρ:Ro} {Q:Addr→Hp→Prop} (ev:Ev M H0 B0 ρ σ H B)
  (w:Wnt M H0 (fun a=> ∀p vs H' B',qbJ H B H' B'→M.G.P H'→H p=none→B' p=none→H' p=some (.lst vs)→qaP M.K B' a vs→Q p H') (qa2 own.length (fr.map (·.2)) di dg dt de ρ)):
  qid (tI M di) (tG M.nox dg) (tPT M.nox dt) (tP M.nox de) own fr σ H Q:=by
 refine ⟨H0,B0,ρ,B,ev,Wnt.mono (Wnt.bind w) fun ts w1 J H1 B1 g1 m1 hz wk D hD=> ?_⟩
 obtain ⟨res,eR,kR⟩:=qkX w1
 have ev1:=ev.grow g1 m1
 have h0D:H0 D=none:=none_of ev1.gr.gx hD
 have bD:B1 D=none:=by
  cases q:B1 D with
  | none=>rfl
  | some u=>rw[ev1.bh _ _ q] at hD; cases hD
 obtain ⟨gD,mD⟩:=ev1.nown (o:=HO.lst []) hD
 have evD:Ev M.nox H0 B0 (qeH own.length (fr.map (·.2)) ρ) (qeE own fr σ) (upd H1 D (.lst [])) B1:=(qpo (ev1.grow gD mD)).nox
 refine qdV (n:=ts.length) (fun i ys σ' H'=> ∃ρ' B' dn rs,(Ev M.nox H0 B0 ρ' σ' H' B'∧qjW ρ')∧qbJ H1 B1 H' B'∧H' D=some (.lst ys)∧B' D=none∧ys.length≤i∧qaP M.K B' dn ys∧dn++rs=res∧qjO dg dt de (ts.drop i) ρ'= .ok rs) ?_ hz ?_ ?_ ?_ ?_ ?_
 ·exact ⟨_,B1,[],res,⟨evD,qgm⟩,gD,qag,bD,Nat.le_refl _,.nil,rfl,by simpa using eR⟩
 ·rintro i ys σ' H' ⟨ρ',B',dn,rs,_,_,h,_⟩; exact h
 ·rintro i ys σ' H' ⟨ρ',B',dn,rs,_,_,_,_,h,_⟩; exact h
 ·rintro i ys σ' H' hi ⟨ρ',B',dn,rs,⟨e1,_⟩,e2,_⟩
  exact ((wk H' B' e2.bb e2.bh e2.bt e1.gm i).1 ts[i] (List.getElem?_eq_getElem hi)).1
 ·rintro ys σ' H' ⟨ρ',B',dn,rs,⟨e1,_⟩,e2,e3,e4,e5,e6,e7,e8⟩
  refine ⟨(wk H' B' e2.bb e2.bh e2.bt e1.gm ts.length).2 rfl,?_⟩
  rw[List.drop_length] at e8
  cases e8
  rw[List.append_nil] at e7
  subst e7
  exact kR D ys H' B' (g1.trans e2) e1.gm (none_of g1.gx hD) e4 e3 e6
 ·rintro i ys σ' H' x H3 hi ⟨ρ',B',dn,rs,⟨e1,no1⟩,e2,e3,e4,e5,e6,e7,e8⟩ hy
  obtain ⟨B3,g3,m3,r3⟩:=((wk H' B' e2.bb e2.bh e2.bt e1.gm i).1 ts[i] (List.getElem?_eq_getElem hi)).2 x H3 hy
  rw[List.drop_eq_getElem_cons hi] at e8
  obtain ⟨ρ1,d1,e8⟩:=qcG e8
  obtain ⟨c,d2,e8⟩:=qcG e8
  have ev3:=e1.grow g3 m3
  have no2:=gn _ _ _ no1 d1
  have wo: ∀{α:Type} {r:Rs α} {a:α} {k:α→Prop},r= .ok a→k a→Wnt M.nox H0 k r:=fun e k=>by rw[e]; exact k
  refine ⟨H0,B0,ρ',B3,ts[i],ev3,r3,wo d1 fun σ2 ev2=> ?_⟩
  refine tPT.of ev2 (wo d2 fun H5 B5 g5 m5=> ?_)
  have ev5:=ev2.grow g5 m5
  have gg:qbJ H1 B1 H5 B5:=(e2.trans g3).trans g5
  have hD5:H5 D=some (.lst ys):=g5.gx.hh _ _ (g3.gx.hh _ _ e3 (by intro ps z; cases z)) (by intro ps z; cases z)
  have bD5:B5 D=none:=by
   rw[g5.nw D _ (g3.gx.hh _ _ e3 (by intro ps z; cases z)) (by simp) (by simp),g3.nw D _ e3 (by simp) (by simp)]; exact e4
  cases c with
  | false=>
   rw[if_neg (by intro z; cases z)] at e8
   refine qha ?_
   exact ⟨ρ1,B5,dn,rs,⟨ev5,no2⟩,gg,hD5,bD5,Nat.le_succ_of_le e5,(e6.mono g3.bb).mono g5.bb,e7,e8⟩
  | true=>
   rw[if_pos rfl] at e8
   obtain ⟨y,d3,e8⟩:=qcG e8
   obtain ⟨ys',d4,e8⟩:=qcG e8
   cases e8
   refine qm3 ?_
   refine tP.of ev5 (wo d3 fun v H6 B6 g6 m6 r6=> ?_)
   have ev6:=ev5.grow g6 m6
   have hD6:H6 D=some (.lst ys):=g6.gx.hh _ _ hD5 (by intro ps z; cases z)
   have bD6:B6 D=none:=by rw[g6.nw D _ hD5 (by simp) (by simp)]; exact bD5
   have g16:qbJ H1 B1 H6 B6:=gg.trans g6
   refine ⟨hD6,ρ1,B6,dn++[y],ys',⟨ev6.updD hD6 h0D bD6 (fun j s ej oj z=>by rw[no2 j s ej] at oj; cases oj),no2⟩,?_,qag,bD6,by rw[List.length_append,List.length_singleton]; lia,(((e6.mono g3.bb).mono g5.bb).mono g6.bb).snoc r6,by rw[List.append_assoc]; exact e7,d4⟩
   ·refine ⟨⟨fun a o z n=> ?_,fun a z w=> ?_⟩,g16.bb,fun a o z=> ?_,g16.bt,g16.nw⟩
    ·rw[qae (qak z hD)]; exact g16.gx.hh a o z n
    ·by_cases q:a=D
     ·subst q; exact z hD
     ·rw[qae q] at w; exact g16.gx.dm a z w
    ·rw[qae (fun q=>by rw[q,bD6] at z; cases z)]; exact g16.bh a o z
theorem qbR (hc:X.calm=true) (hi:DI M X tg iter di) (gn:GNo dg) (hk:scope.kind= .function) (hcell: ∀y∈scope.names,y.2≠.cell) (hnames: ∀y∈scope.names,y.2= .local→scope.names.lookup y.1=some .local)
  (hfree: ∀y∈scope.names,y.2= .free→X.env.kindOf y.1=some .cell∨X.env.kindOf y.1=some .free) (hfr: ∀p∈fr,X.N[p.2]? =some p.1∧scope.names.lookup p.1=some .free)
  (hb: ∀(fp:List Addr) (s3:Shared) (H3:Hp),DG M.nox (qbr X scope own fr fp s3 H3) tg dg∧qnv (qbr X scope own fr fp s3 H3) ifs (tPT M.nox dt)∧DE M.nox (qbr X scope own fr fp s3 H3) elt de)
  (hs: ∀x,foldedSetIterable iter X.env x=pure x:=by intro _; rfl):
  DF M X (.ListComp elt [⟨tg,iter,ifs,0⟩] scope pos) (qa2 own.length (fr.map (·.2)) di dg dt de):=
 PE.weak (qdo hc hi hk hcell hnames hfree hfr hb hs) fun σ H Q ⟨H0,B0,ρ,B,ev,w⟩=>qg0 gn ev (Wnt.mono (qcp.mp w) fun a q p vs H' B' g m h1 h2 h3 r=>q p vs H' B' g m h1 h2 h3 r)
theorem qbs {Y:Cx}:qnv Y [] (tPT M qdk):=fun pins s σ H Q I ⟨H0,B0,ρ,B,ev,w⟩=>qc7 pins s σ H Q I (w H B (.refl ev.bh ev.bt) ev.gm)
theorem qn0 {Y:Cx} {c:Expr} (h:DT M Y c dt):qnv Y [c] (tPT M dt):=qfH h
theorem qhU {i:Nat} {y:Str} {py spos:Pos} (hc:X.calm=true) (hi:DI M X tg iter di) (gn:GNo dg) (hk:scope.kind= .function) (hcell: ∀y∈scope.names,y.2≠.cell) (hnames: ∀y∈scope.names,y.2= .local→scope.names.lookup y.1=some .local)
  (hfree: ∀y∈scope.names,y.2= .free→X.env.kindOf y.1=some .cell∨X.env.kindOf y.1=some .free) (hfr: ∀p∈fr,X.N[p.2]? =some p.1∧scope.names.lookup p.1=some .free)
  (hb: ∀(fp:List Addr) (s3:Shared) (H3:Hp),DG M.nox (qbr X scope own fr fp s3 H3) tg dg∧qnv (qbr X scope own fr fp s3 H3) ifs (tPT M.nox dt)∧DE M.nox (qbr X scope own fr fp s3 H3) elt de)
  (hN:X.N.Nodup) (hiN:X.N[i]? =some y) (hy:X.env.scope.names.lookup y=some .local)
  (hsw:swapsWith (.ListComp elt [⟨tg,iter,ifs,0⟩] scope pos) (some (.Name y py)) spos.line X.env=pure true:=by rfl) (hs: ∀x,foldedSetIterable iter X.env x=pure x:=by intro _; rfl):
  DS M X (.Assign [.Name y py] (.ListComp elt [⟨tg,iter,ifs,0⟩] scope pos) spos) (qbI i (dFz (qa2 own.length (fr.map (·.2)) di dg dt de))):=
 PS.weak (L2.ps_setcomp hc hi hk hcell hnames hfree hfr hb hN hiN hy hsw hs) fun D σ H ⟨H0,B0,ρ,B,ev,w⟩=>qg0 gn ev (Wnt.mono (Wnt.bind (Wnt.bind w)) fun a q p vs H' B' g m h1 h2 h3 r=>by
  obtain ⟨g2,le⟩:=g.freeze h1 h2 h3
  refine q _ H' _ ((ev.grow g2 m).set ?_) g2.bb
  unfold Rep
  exact ⟨p,vs,rfl,qag,r.mono le⟩)
end
end PL
end
section
namespace PL
open PySem L2
def spP (K:PySem.W.Frag) (G:Gam) (C:Str→Addr) (f:List T→Rs T):Sp:=fun vs H Q E=> ∃B ts,Le B H∧(∀a ps,B a≠some (.tbl ps))∧G.P H∧qaP K B ts vs∧qtl ⟨K,G,E,C,0⟩ H H B Q (f ts)
def outT:Out→Rs T
 | .rt t=>.ok t
 | .nx _=>.ok .non
 | _=>.no
def fnT (n N:Nat) (d:Ro→Rs Out):List T→Rs T:=fun ts=>if ts.length=n then d (ts.map .fz++List.replicate (N - n) .no)>>=outT else .no
section
variable {K:PySem.W.Frag} {G:Gam} {C:Str→Addr} {E:XK}
theorem qnc {H B:Hp} {ts:List T} {vs:List V} {N:List Str} (le:Le B H) (bt: ∀a ps,B a≠some (.tbl ps)) (m:G.P H) (r:qaP K B ts vs) (hN:ts.length≤N.length):
  Ev ⟨K,G,E,C,0⟩ H B (ts.map .fz++List.replicate (N.length - ts.length) .no) (start N vs) H B:=by
 have hl:=r.length
 refine ⟨.refl le bt,m,by simp[L2.start,hl],fun i s e=> ?_,fun i j si sj p hij ei ej oi=> ?_⟩
 ·by_cases hi:i<ts.length
  ·rw[List.getElem?_append_left (by simpa using hi),List.getElem?_map] at e
   cases q:ts[i]? with
   | none=>rw[q] at e; cases e
   | some t=>
    rw[q] at e; cases e
    obtain ⟨v,ev,rv⟩:=r.get q
    refine ⟨v,?_,rv⟩
    unfold L2.start
    rw[List.getElem?_append_left (by simp; lia),List.getElem?_map,ev]
    rfl
  ·rw[List.getElem?_append_right (by simpa using hi),List.getElem?_replicate] at e
   split at e
   ·cases e; trivial
   ·cases e
 ·have h:=List.mem_of_getElem? ei
  rcases List.mem_append.mp h with h | h
  ·obtain ⟨t,_,rfl⟩:=List.mem_map.mp h
   cases oi
  ·rw[(List.mem_replicate.mp h).2] at oi; cases oi
theorem qiP {d:Ro→Rs Out} {n:Nat} {N:List Str} {vs:List V} {H:Hp} {Q:VK} (hn:n≤N.length) (h:spP K G C (fnT n N.length d) vs H Q E):tS ⟨K,G,E,C,0⟩ d { nx:=fun _ H'=>Q .non H',rt:=Q } (start N vs) H:=by
 obtain ⟨B,ts,le,bt,m,r,w⟩:=h
 unfold fnT at w
 split at w
 ·rename_i hl
  refine ⟨H,B,_,B,qnc le bt m r (by lia),?_⟩
  rw[hl]
  refine Wnt.mono (Wnt.bind (qaG.mp w)) fun o w1=> ?_
  cases o with
  | rt t=>exact w1
  | nx ρ=>exact fun σ' H' B' ev _=>w1 .non H' B' ev.gr ev.gm (by unfold Rep; rfl)
  | bk ρ=>exact w1.elim
  | ct ρ=>exact w1.elim
  | rs t ρ=>exact w1.elim
 ·exact w.elim
theorem qkb {d:Ro→Rs Out} {n N:Nat} {vs:List V} {H:Hp} {Q:VK} (h:spP K G C (fnT n N d) vs H Q E):vs.length=n:=by
 obtain ⟨B,ts,le,bt,m,r,w⟩:=h
 unfold fnT at w
 split at w
 ·rename_i hl
  rw[r.length]; exact hl
 ·exact w.elim
end
section
variable {P:Program} {w:World} {K:PySem.W.Frag} {mg:Str→Option Value} {base:Heap} {G:Gam} {C:Str→Addr}
theorem qcJ {x qual:Str} {st:Stmt} {f:Addr} {fd:FuncData} {N ps:List Str} {k:Nat} {d:Ro→Rs Out} (F:Fun K x qual st f fd) (S:qau N ps (qad st))
  (hbody: ∀(cdv:Value) (A:Around) (outer:List Env) (s:Shared) (H:Hp) (E:XK),qcR k (A.deeper (PyProof.Rows.envOfC qual (qad st) s.heap.objs.size f cdv))→
   DSs ⟨K,G,E,C,0⟩ (qpz CX0 P w K mg base N qual (qad st) f cdv A outer s H E).nox (qaF st) d):qbb P w K mg base CX0 (k+1) f fd ps (spP K G C (fnT ps.length N.length d)):=by
 have hpl:ps.length≤N.length:=by have:=congrArg List.length S.pre; rw[List.length_take] at this; lia
 exact F.ok S (fun vs H Q E h=>qkb h) fun cdv A outer s H vs Q E hr h=>⟨_,hbody cdv A outer s H E hr,qiP hpl h⟩
end
def qaj (f:List T→Rs T) (ds:Ro→Rs (List T)):Ro→Rs T:=fun ρ=>ds ρ>>=f
section
variable {M:Md} {X:Cx} {CX:CXT} {k:Nat} {f:Addr} {fd:FuncData} {ps:List Str} {fT:List T→Rs T} {x:Str} {p pos:Pos} {e:Expr} {es:List Expr} {ds:Ro→Rs (List T)}
theorem qlX {σ:St} {H:Hp} {Q:VK} (h:tP M (qaj fT ds) σ H Q):qp9 (spP M.K M.G M.C fT) [] M.E (tPA M ds) σ H Q:=by
 obtain ⟨H0,B0,ρ,B,ev,w⟩:=h
 refine tPA.of ev (Wnt.mono (Wnt.bind (qaG.mp w)) fun ts w1 vs H1 B1 g1 m1 r1=> ?_)
 have ev1:=ev.grow g1 m1
 refine ⟨B1,ts,ev1.bh,ev1.bt,m1,by rw[List.append_nil]; exact r1,?_⟩
 cases q:fT ts with
 | no=>rw[q] at w1; exact w1
 | ok r=>rw[q] at w1; exact fun v H' B' g m rr=>w1 v H' B' (g1.trans g) m rr
 | ex c=>rw[q] at w1; exact fun H' g m=>w1 H' (ev1.gr.gx.trans g) m
theorem qpw (F:qbb X.prog X.w X.K X.mg X.base CX k f fd ps (spP M.K M.G M.C fT)) (hr:qcR k X.A) (hg:Gl X x) (hm:X.mg x=some (.ref f)) (hk:PySem.W.keepIn X.K (.ref f)=true) (hb:qbz X.K fd ps []) (hx:qeo CX X M.E)
  (ha:DA M X (e::es) ds) (hdb:(x==("__debug__" :Str))=false:=by decide) (he:starEach (e::es) X.env=(false,eval e X.env)::starEach es X.env:=by rfl) (hpl:(backTo pos (starEach es X.env)).any (·.1)=false:=by rfl):
  DE M X (.Call (.Name x p) (e::es) [] pos) (qaj fT ds):=PE.weak (qbi F hr hg hm hk hb .nil hx ha hdb he hpl) fun σ H Q h=>qlX h
end
theorem qsw {M:Md} {X:Cx}:qeo CX0 X M.E:=fun _ _ _ _ _ _ _ h=>h.elim
def dTB (da:Ro→Rs T):Ro→Rs Bool:=fun ρ=>da ρ>>=fun t=>match t with | .bl b=>.ok b | _=>.no
def qdl (d e:Ro→Rs Bool):Ro→Rs Bool:=fun ρ=>d ρ>>=fun c=>if c=true then e ρ else .ok false
def dOr (d e:Ro→Rs Bool):Ro→Rs Bool:=fun ρ=>d ρ>>=fun c=>if c=true then .ok true else e ρ
def qcm (d:Ro→Rs Bool):Ro→Rs Bool:=fun ρ=>d ρ>>=fun c=>.ok (!c)
def qbu (d e:Ro→Rs T):Ro→Rs T:=fun ρ=>dTB d ρ>>=fun c=>if c=true then e ρ else .ok (.bl false)
def qea (d e:Ro→Rs T):Ro→Rs T:=fun ρ=>dTB d ρ>>=fun c=>if c=true then .ok (.bl true) else e ρ
def qbS (d:Ro→Rs T):Ro→Rs T:=fun ρ=>dTB d ρ>>=fun c=>.ok (.bl (!c))
def qcZ (dt:Ro→Rs Bool) (d e:Ro→Rs T):Ro→Rs T:=fun ρ=>dt ρ>>=fun c=>if c=true then d ρ else e ρ
abbrev DW (M:Md) (X:Cx) (e:Expr) (d:Ro→Rs Bool):Prop:=PW X e (tPT M d)
theorem PW.weak {X:Cx} {e:Expr} {t t':TT} (h:PW X e t) (w: ∀σ H Q,t' σ H Q→t σ H Q):PW X e t':=fun wh pins s σ H Q I q=>h wh pins s σ H Q I (w σ H Q q)
theorem qbA {K:PySem.W.Frag} {B:Hp} {b:Bool} {v:V} (r:Rep K B (.bl b) v):v= .bl b:=by unfold Rep at r; exact r
theorem qar {K:PySem.W.Frag} {B:Hp} {b:Int} {v:V} (r:Rep K B (.int b) v):v= .int b:=by unfold Rep at r; exact r
theorem qaJ {K:PySem.W.Frag} {B:Hp} {b:Str} {v:V} (r:Rep K B (.str b) v):v= .str b:=by unfold Rep at r; exact r
theorem qbW {K:PySem.W.Frag} {B:Hp} {v:V} (r:Rep K B .non v):v= .non:=by unfold Rep at r; exact r
theorem qmx {K:PySem.W.Frag} {B:Hp} {ts:List T} {v:V} (r:Rep K B (.tup ts) v): ∃p vs,v= .ref p∧B p=some (.tup vs)∧qaP K B ts vs:=by unfold Rep at r; exact r
theorem qbn {K:PySem.W.Frag} {B:Hp} {ts:List T} {v:V} (r:Rep K B (.tup ts) v): ∃p vs,v= .ref p∧SqT K B p vs∧qaP K B ts vs:=by obtain ⟨p,vs,a,b,c⟩:=qmx r; exact ⟨p,vs,a,SqT.of b,c⟩
theorem qbK {K:PySem.W.Frag} {B:Hp} {ts:List T} {v:V} (r:Rep K B (.lst ts) v): ∃p vs,v= .ref p∧B p=some (.lst vs)∧qaP K B ts vs:=by unfold Rep at r; exact r
theorem qdq {K:PySem.W.Frag} {B:Hp} {b:Bool}:Rep K B (.bl b) (.bl b):=by unfold Rep; rfl
theorem qbB {K:PySem.W.Frag} {B:Hp} {b:Int}:Rep K B (.int b) (.int b):=by unfold Rep; rfl
theorem qgx {K:PySem.W.Frag} {B:Hp} {b:Str}:Rep K B (.str b) (.str b):=by unfold Rep; rfl
theorem qqG {K:PySem.W.Frag} {B:Hp} {ts:List T} {p:Addr} {vs:List V} (h:B p=some (.tup vs)) (r:qaP K B ts vs):Rep K B (.tup ts) (.ref p):=by unfold Rep; exact ⟨p,vs,rfl,h,r⟩
theorem qqH {K:PySem.W.Frag} {B:Hp} {ts:List T} {p:Addr} {vs:List V} (h:B p=some (.lst vs)) (r:qaP K B ts vs):Rep K B (.lst ts) (.ref p):=by unfold Rep; exact ⟨p,vs,rfl,h,r⟩
section
variable {M:Md} {X:Cx} {e a b c:Expr} {qdB:List Expr} {pos:Pos} {da db dc:Ro→Rs T} {dt du:Ro→Rs Bool}
theorem qfA {σ:St} {H:Hp} {Q:Bool→Hp→Prop} (h:tPT M (dTB da) σ H Q):tP M da σ H fun x H1=> ∃c,x= .bl c∧Q c H1:=by
 obtain ⟨H0,B0,ρ,B,ev,w⟩:=h
 refine tP.of ev (Wnt.mono (Wnt.bind (qdS.mp w)) fun t w1 v H1 B1 g1 m1 r1=> ?_)
 cases t with
 | bl b=>exact ⟨b,qbA r1,w1 H1 B1 g1 m1⟩
 | _=>exact w1.elim
theorem qdi (h:DE M X e da) (he: ∀whole,isTrue e X.env whole=(do let v ←whole; standAt e.pos; holding [v] (truthy v)):=by intro _; rfl):DT M X e (dTB da):=PT.weak (qei h he) fun σ H Q h=>qfA h
theorem qcs {op:CmpOp} {r:R2} {g:T→T→Rs T} (ho:OpR X (compareOp op) r) (hr:RS M r g) (hp:Pl g) (ha:DE M X a da) (hb:DE M X b db) (hm:behindInMarks op b=false:=by first | exact qfO _ (by decide) (by decide) | rfl):DT M X (.Compare a [op] [b] pos) (dTB (dB g da db)):=
 PT.weak (qcz ho ha hb hm) fun _ _ _ h=>qfL hr hp (qfA h)
def qaI (g g':T→T→Rs T) (da db dc:Ro→Rs T):Ro→Rs T:=fun ρ=>da ρ>>=fun x=>db ρ>>=fun y=>g x y>>=fun z=>match z with | .bl k=>if k=true then dc ρ>>=fun u=>g' y u else .ok (.bl false) | _=>.no
theorem qfx {r r':R2} {g g':T→T→Rs T} (hr:RS M r g) (hp:Pl g) (hr':RS M r' g') (hp':Pl g') {σ:St} {H:Hp} {Q:VK} (h:tP M (qaI g g' da db dc) σ H Q):qj6 r r' (tP M da) (tP M db) (tP M dc) σ H Q:=by
 obtain ⟨H0,B0,ρ,B,ev,w⟩:=h
 refine tP.of ev (Wnt.mono (Wnt.bind (qaG.mp w)) fun x w1 v H1 B1 g1 m1 r1=> ?_)
 refine tP.of (ev.grow g1 m1) (Wnt.mono (Wnt.bind w1) fun y w2 u H2 B2 g2 m2 r2=> ?_)
 have ev2:=(ev.grow g1 m1).grow g2 m2
 cases q:g x y with
 | no=>rw[q] at w2; exact w2.elim
 | ex c=>exact absurd q (hp x y c)
 | ok z=>
  rw[q] at w2
  refine hr H2 B2 v u x y z _ ev2.bh ev2.bt m2 (r1.mono g2.bb) r2 q fun v' H3 B3 g3 m3 r3=> ?_
  cases z with
  | bl k=>
   refine ⟨k,qbA r3,?_⟩
   have ev3:=ev2.grow g3 m3
   cases k with
   | false=>exact qha (w2 (.bl false) H3 B3 ((g1.trans g2).trans g3) m3 qdq)
   | true=>
    refine qm3 (tP.of ev3 (Wnt.mono (Wnt.bind w2) fun u' w3 v4 H4 B4 g4 m4 r4=> ?_))
    have ev4:=ev3.grow g4 m4
    cases q':g' y u' with
    | no=>rw[q'] at w3; exact w3.elim
    | ex c=>exact absurd q' (hp' y u' c)
    | ok z'=>
     rw[q'] at w3
     exact hr' H4 B4 u v4 y u' z' _ ev4.bh ev4.bt m4 ((r2.mono g3.bb).mono g4.bb) r4 q' fun v5 H5 B5 g5 m5 r5=>w3 v5 H5 B5 ((((g1.trans g2).trans g3).trans g4).trans g5) m5 r5
  | _=>exact w2.elim
theorem qi2 {op op':CmpOp} {r r':R2} {g g':T→T→Rs T} (ho:OpR X (compareOp op) r) (ho':OpR X (compareOp op') r') (hr:RS M r g) (hp:Pl g) (hr':RS M r' g') (hp':Pl g') (ha:DE M X a da) (hb:DE M X b db) (hc:DE M X c dc)
  (hm:lastMarks [op,op'] [b,c]=false:=by with_unfolding_all rfl):DE M X (.Compare a [op,op'] [b,c] pos) (qaI g g' da db dc):=PE.weak (qfK ho ho' ha hb hc hm) fun _ _ _ h=>qfx hr hp hr' hp' h
theorem qnn {op op':CmpOp} {r r':R2} {g g':T→T→Rs T} (ho:OpR X (compareOp op) r) (ho':OpR X (compareOp op') r') (hr:RS M r g) (hp:Pl g) (hr':RS M r' g') (hp':Pl g') (ha:DE M X a da) (hb:DE M X b db) (hc:DE M X c dc)
  (hm:lastMarks [op,op'] [b,c]=false:=by with_unfolding_all rfl):DT M X (.Compare a [op,op'] [b,c] pos) (dTB (qaI g g' da db dc)):=PT.weak (qio ho ho' ha hb hc hm) fun _ _ _ h=>qfx hr hp hr' hp' (qfA h)
theorem qc4 (h:DT M X a dt):DT M X (.UnaryOp .Not a pos) (qcm dt):=PT.weak (qej h) fun σ H Q ⟨H0,B0,ρ,B,ev,w⟩=>tPT.of ev (Wnt.mono (Wnt.bind (qdS.mp w)) fun c w1 H1 B1 g m=>w1 H1 B1 g m)
theorem qpp (h:DT M X a dt):DW M X (.BoolOp .And [a] pos) dt:=qkE h
theorem qiY (h:DT M X a dt):DW M X (.BoolOp .Or [a] pos) dt:=qin h
theorem qq4 (h:DT M X a dt) (h':DW M X (.BoolOp .And (b::qdB) pos) du):DW M X (.BoolOp .And (a::b::qdB) pos) (qdl dt du):=PW.weak (qnX h h') fun σ H Q ⟨H0,B0,ρ,B,ev,w⟩=>tPT.of ev (Wnt.mono (Wnt.bind (qdS.mp w)) fun c w1 H1 B1 g m=>by
 cases c with
 | true=>exact qm3 (tPT.of (ev.grow g m) (Wnt.mono w1 fun c w2 H2 B2 g2 m2=>w2 H2 B2 (g.trans g2) m2))
 | false=>exact qha (w1 H1 B1 g m))
theorem qnj (h:DT M X a dt) (h':DW M X (.BoolOp .Or (b::qdB) pos) du):DW M X (.BoolOp .Or (a::b::qdB) pos) (dOr dt du):=PW.weak (qmC h h') fun σ H Q ⟨H0,B0,ρ,B,ev,w⟩=>tPT.of ev (Wnt.mono (Wnt.bind (qdS.mp w)) fun c w1 H1 B1 g m=>by
 cases c with
 | true=>exact qm3 (w1 H1 B1 g m)
 | false=>exact qha (tPT.of (ev.grow g m) (Wnt.mono w1 fun c w2 H2 B2 g2 m2=>w2 H2 B2 (g.trans g2) m2)))
theorem qq5 {e:Expr} (h:DW M X e dt):DT M X e dt:=PW.pt h
theorem qic {P':T→Prop} {H0:Hp} {ρ:Ro} {f:Bool→Rs T} (w:Wnt M H0 P' (dTB da ρ>>=f)):Wnt M H0 (fun t=> ∃c,t= .bl c∧Wnt M H0 P' (f c)) (da ρ):=by
 refine Wnt.mono (Wnt.bind (Wnt.bind w)) fun t w1=> ?_
 cases t with
 | bl b=>exact ⟨b,rfl,w1⟩
 | _=>exact w1.elim
theorem qlO {op} (h:DE M X a da):DE M X (.BoolOp op [a] pos) da:=qkO h
theorem qlQ (h:DE M X a da) (h':DE M X (.BoolOp .And (b::qdB) pos) db):DE M X (.BoolOp .And (a::b::qdB) pos) (qbu da db):=PE.weak (qkQ h h') fun σ H Q ⟨H0,B0,ρ,B,ev,w⟩=>tP.of ev (Wnt.mono (qic (qaG.mp w)) fun t ⟨c,et,w1⟩ v H1 B1 g m r=>by
 subst et
 refine ⟨c,qbA r,?_⟩
 cases c with
 | true=>exact qm3 (tP.of (ev.grow g m) (Wnt.mono w1 fun c w2 v2 H2 B2 g2 m2 r2=>w2 v2 H2 B2 (g.trans g2) m2 r2))
 | false=>exact qha (w1 _ H1 B1 g m qdq))
theorem qrb (h:DE M X a da):DE M X (.UnaryOp .Not a pos) (qbS da):=PE.weak (qn3 h) fun σ H Q ⟨H0,B0,ρ,B,ev,w⟩=>tP.of ev (Wnt.mono (qic (qaG.mp w)) fun t ⟨c,et,w1⟩ v H1 B1 g m r=>by
 subst et
 exact ⟨c,qbA r,w1 _ H1 B1 g m qdq⟩)
theorem qre (hc:DT M X c dt) (ha:DE M X a da) (hb:DE M X b db):DE M X (.IfExp c a b pos) (qcZ dt da db):=PE.weak (qmI hc ha hb) fun σ H Q ⟨H0,B0,ρ,B,ev,w⟩=>tPT.of ev (Wnt.mono (Wnt.bind (qaG.mp w)) fun c w1 H1 B1 g m=>by
 cases c with
 | true=>exact qm3 (tP.of (ev.grow g m) (Wnt.mono w1 fun c w2 v2 H2 B2 g2 m2 r2=>w2 v2 H2 B2 (g.trans g2) m2 r2))
 | false=>exact qha (tP.of (ev.grow g m) (Wnt.mono w1 fun c w2 v2 H2 B2 g2 m2 r2=>w2 v2 H2 B2 (g.trans g2) m2 r2)))
end
end PL
end
section
namespace Mir
open St
theorem qdL: ∀{l:List Nat} {x:Nat},x∈l→(l.erase x).length+1=l.length
 | [],_,h=>by cases h
 | y::l,x,h=>by
  by_cases e:y=x
  ·subst e; simp
  ·have hb:(y==x)=false:=by simpa using e
   rw[List.erase_cons,hb]
   simp only[Bool.false_eq_true,if_false,List.length_cons]
   have:=qdL (l:=l) (x:=x) ((List.mem_cons.mp h).resolve_left fun z=>e z.symm)
   lia
theorem qgD {l:List Nat} {x y:Nat} (h:y∈l) (hne:y≠x):y∈l.erase x:=by
 induction l with
 | nil=>cases h
 | cons z l ih=>
  rw[List.erase_cons]
  by_cases e:z=x
  ·have hb:(z==x)=true:=by simpa using e
   rw[hb,if_pos rfl]
   exact (List.mem_cons.mp h).resolve_left fun q=>hne (q.trans e)
  ·have hb:(z==x)=false:=by simpa using e
   rw[hb]
   simp only[Bool.false_eq_true,if_false]
   rcases List.mem_cons.mp h with q | q
   ·rw[q]; exact List.mem_cons_self
   ·exact List.mem_cons_of_mem _ (ih q)
theorem qiy: ∀{l l':List Nat},l.Nodup→(∀x∈l,x∈l')→l.length≤l'.length
 | [],_,_,_=>Nat.zero_le _
 | x::l,l',nd,h=>by
  have hx:x∈l':=h x List.mem_cons_self
  have hn:=List.nodup_cons.mp nd
  have:=qiy (l:=l) (l':=l'.erase x) hn.2 fun y hy=>qgD (h y (List.mem_cons_of_mem _ hy)) fun z=>hn.1 (z▸hy)
  have e:=qdL hx
  rw[List.length_cons]
  lia
theorem quJ {l:List Nat} {n:Nat} (nd:l.Nodup) (lt: ∀x∈l,x<n) (hl:l.length=n): ∀j,j<n→j∈l:=by
 intro j hj
 by_cases q:j∈l
 ·exact q
 ·have h1:=qiy (l:=j::l) (l':=List.range n) (List.nodup_cons.mpr ⟨q,nd⟩) fun x hx=>by
   rcases List.mem_cons.mp hx with e | e
   ·rw[e]; exact List.mem_range.mpr hj
   ·exact List.mem_range.mpr (lt x e)
  rw[List.length_cons,List.length_range] at h1
  lia
theorem qdg {R:Nat→Nat→Prop} (asym: ∀a b,R a b→¬R b a): ∀{l l':List Nat},l.Pairwise R→l'.Pairwise R→(∀x,x∈l↔x∈l')→l=l'
 | [],[],_,_,_=>rfl
 | [],y::l',_,_,h=>by have:=(h y).mpr List.mem_cons_self; cases this
 | x::l,[],_,_,h=>by have:=(h x).mp List.mem_cons_self; cases this
 | x::l,y::l',h1,h2,h=>by
  obtain ⟨a1,b1⟩:=List.pairwise_cons.mp h1
  obtain ⟨a2,b2⟩:=List.pairwise_cons.mp h2
  have exy:x=y:=by
   rcases List.mem_cons.mp ((h x).mp List.mem_cons_self) with e | e
   ·exact e
   ·rcases List.mem_cons.mp ((h y).mpr List.mem_cons_self) with e' | e'
    ·exact e'.symm
    ·exact absurd (a2 x e) (asym x y (a1 y e'))
  subst exy
  have n1:x∉l:=fun q=>asym x x (a1 x q) (a1 x q)
  have n2:x∉l':=fun q=>asym x x (a2 x q) (a2 x q)
  rw[qdg asym b1 b2 fun z=>⟨fun q=>((List.mem_cons.mp ((h z).mp (List.mem_cons_of_mem _ q))).resolve_left fun e=>n1 (e▸q)),fun q=>((List.mem_cons.mp ((h z).mpr (List.mem_cons_of_mem _ q))).resolve_left fun e=>n2 (e▸q))⟩]
variable {ms:List Int} {n:Nat} {p:Array Nat}
theorem qop {k:Nat→Int} (a b:Nat) (h:L k a b): ¬L k b a:=by
 intro h'
 rcases h with h | h<;>rcases h' with h' | h'<;>lia
theorem qde (h:Order ms n p):p.toList.Pairwise (L fun i=>ms.getD i 0):=by
 rw[List.pairwise_iff_getElem]
 intro i j hi hj hij
 have hi':i<p.size:=by simpa using hi
 have hj':j<p.size:=by simpa using hj
 have e:=h.2 i j hij (by rw[h.1.sz] at hj'; exact hj')
 have e1:g p i=p.toList[i]:=by unfold g; rw[Array.getD_eq_getD_getElem?]; simp[hi']
 have e2:g p j=p.toList[j]:=by unfold g; rw[Array.getD_eq_getD_getElem?]; simp[hj']
 rw[e1,e2] at e
 exact e
theorem qit (h:Order ms n p): ∀x∈p.toList,x<n:=by
 intro x hx
 obtain ⟨i,hi,rfl⟩:=List.mem_iff_getElem.mp hx
 have hi':i<p.size:=by simpa using hi
 have e:=h.1.lo i (by rw[h.1.sz] at hi'; exact hi')
 have e1:g p i=p.toList[i]:=by unfold g; rw[Array.getD_eq_getD_getElem?]; simp[hi']
 rw[e1] at e
 exact e
theorem qhu (h:Order ms n p):p.toList.Nodup:=by
 refine List.Pairwise.imp ?_ (qde h)
 intro a b hab e
 subst e
 exact qop a a hab hab
theorem order_mem (h:Order ms n p) (x:Nat):x∈p.toList↔x<n:=
 ⟨qit h x,quJ (qhu h) (qit h) (by rw[Array.length_toList]; exact h.1.sz) x⟩
def qrX (ms:List Int) (n:Nat) (m:Int):List Nat:=(List.range n).filter fun j=>decide (ms.getD j 0=m)
def due (ms:List Int) (n t:Nat):List Nat:=(List.range t).flatMap fun m=>qrX ms n (m:Nat)
theorem map_range_getD {α:Type} (xs:List α) (d:α):(List.range xs.length).map (fun j=>xs.getD j d)=xs:=by
 apply List.ext_getElem
 ·simp
 ·intro i h1 h2
  simp[h2]
end Mir
end
section
namespace SR
open PySem L2 RH St Mir
theorem qqY {k:Nat→Int} {n:Nat}: ∀{l:List Nat},(∀x∈l,x<n)→l.Pairwise (L k)→(ins k n l).Pairwise (L k)
 | [],_,_=>by simp[ins]
 | y::l,hl,h=>by
  have h':=List.pairwise_cons.mp h
  have hy:y<n:=hl y List.mem_cons_self
  show (if k y≤k n then y::ins k n l else n::y::l).Pairwise (L k)
  by_cases c:k y≤k n
  ·rw[if_pos c]
   refine List.pairwise_cons.mpr ⟨fun z hz=> ?_,qqY (fun x hx=>hl x (List.mem_cons_of_mem _ hx)) h'.2⟩
   rcases qfP.mp hz with q | q
   ·subst q
    unfold L
    lia
   ·exact h'.1 z q
  ·rw[if_neg c]
   refine List.pairwise_cons.mpr ⟨fun z hz=> ?_,h⟩
   rcases List.mem_cons.mp hz with q | q
   ·subst q
    exact .inl (by lia)
   ·have:=h'.1 z q
    unfold L at this⊢
    lia
theorem qgq (k:Nat→Int): ∀n,(srt k (List.range n)).Pairwise (L k)
 | 0=>List.Pairwise.nil
 | n+1=>by
  rw[List.range_succ,qcn]
  exact qqY (fun x hx=>List.mem_range.mp ((mem_srt _).mp hx)) (qgq k n)
theorem qdG {ms:List Int} {n:Nat} {p:Array Nat} (h:Order ms n p):p.toList=srt (fun i=>ms.getD i 0) (List.range n):=
 qdg qop (qde h) (qgq _ _) fun x=>by rw[order_mem h,mem_srt,List.mem_range]
abbrev mk:Rw→Int:=fun r=>r.1
theorem qjl {K:PySem.W.Frag} {H:Hp} {xs:List V} {rs:List Rw} (hR:qbD H xs rs):qee K H 0 xs (rs.map mk):=by
 refine ⟨by rw[List.length_map]; first | exact hR.1.symm | exact hR.1,fun i x m a b=> ?_⟩
 rw[List.getElem?_map] at b
 cases q:rs[i]? with
 | none=>rw[q] at b; cases b
 | some r=>
  rw[q] at b
  have b':mk r=m:=Option.some.inj b
  obtain ⟨t,e1,e2⟩:=hR.2 i x r a q
  exact ⟨t,qf9 r,e1,SqT.of e2,by rw[←b']; rfl⟩
end SR
end
section
namespace RH
open PySem PySem.Spec PyProof.Rows L2 SR
section
variable {α β:Type}
def TAt (tv:α→List V) (H:Hp) (xs:List V) (as:List α):Prop:=xs.length=as.length∧∀(i:Nat) (x:V) (a:α),xs[i]? =some x→as[i]? =some a→∃t,x= .ref t∧H t=some (.tup (tv a))
theorem TAt.of {H:Hp} {xs:List V} {rs:List Rw} (h:qbD H xs rs):TAt qf9 H xs rs:=h
theorem TAt.same {tv:α→List V} {H H':Hp} {xs:List V} {rs:List α} (h:TAt tv H xs rs) (e:qck H H'):TAt tv H' xs rs:=⟨h.1,fun i x r a b=>let ⟨t,c,d⟩:=h.2 i x r a b; ⟨t,c,e _ _ d⟩⟩
theorem TAt.keep {tv:α→List V} {H H':Hp} {xs:List V} {rs:List α} (h:TAt tv H xs rs) (e: ∀b us,H b=some (.tup us)→H' b=some (.tup us)):TAt tv H' xs rs:=⟨h.1,fun i x r a b=>let ⟨t,c,d⟩:=h.2 i x r a b; ⟨t,c,e _ _ d⟩⟩
theorem TAt.upd {tv:α→List V} {H:Hp} {xs ys zs:List V} {rs:List α} {D:Addr} (h:TAt tv H xs rs) (hD:H D=some (.lst ys)):TAt tv (upd H D (.lst zs)) xs rs:=
 h.keep fun b us e=>by rw[qae (qd7 e hD (by intro z; cases z))]; exact e
theorem TAt.nil {tv:α→List V} {H:Hp}:TAt tv H [] []:=⟨rfl,fun i x r a=>by simp at a⟩
theorem TAt.snoc {tv:α→List V} {H:Hp} {xs:List V} {rs:List α} {t:Addr} {r:α} (h:TAt tv H xs rs) (ht:H t=some (.tup (tv r))):TAt tv H (xs++[.ref t]) (rs++[r]):=by
 refine ⟨by simp[h.1],fun i x r' a b=> ?_⟩
 by_cases c:i<xs.length
 ·rw[List.getElem?_append_left c] at a
  rw[List.getElem?_append_left (by rw[←h.1]; exact c)] at b
  exact h.2 i x r' a b
 ·rw[List.getElem?_append_right (by lia)] at a
  rw[List.getElem?_append_right (by rw[←h.1]; lia),←h.1] at b
  cases e:i - xs.length with
  | zero=>
   rw[e] at a b
   simp at a b
   subst a b
   exact ⟨t,rfl,ht⟩
  | succ j=>
   rw[e] at a
   simp at a
theorem TAt.append {tv:α→List V} {H:Hp} {xs ys:List V} {rs qs:List α} (h:TAt tv H xs rs) (h':TAt tv H ys qs):TAt tv H (xs++ys) (rs++qs):=by
 refine ⟨by simp[h.1,h'.1],fun i x r' a b=> ?_⟩
 by_cases c:i<xs.length
 ·rw[List.getElem?_append_left c] at a
  rw[List.getElem?_append_left (by rw[←h.1]; exact c)] at b
  exact h.2 i x r' a b
 ·rw[List.getElem?_append_right (by lia)] at a
  rw[List.getElem?_append_right (by rw[←h.1]; lia),←h.1] at b
  exact h'.2 _ x r' a b
theorem TAt.get {tv:α→List V} {H:Hp} {xs:List V} {rs:List α} (h:TAt tv H xs rs) {i:Nat} {x:V} (e:xs[i]? =some x): ∃r t,rs[i]? =some r∧x= .ref t∧H t=some (.tup (tv r)):=by
 have hi:i<rs.length:=by rw[←h.1]; exact (List.getElem?_eq_some_iff.mp e).1
 obtain ⟨t,a,b⟩:=h.2 i x rs[i] e (List.getElem?_eq_getElem hi)
 exact ⟨rs[i],t,List.getElem?_eq_getElem hi,a,b⟩
theorem TAt.pick {tv:α→List V} {H:Hp} {xs:List V} {rs:List α} (h:TAt tv H xs rs) (d:α) (l:List Nat) (hl: ∀j∈l,j<xs.length):TAt tv H (l.map fun j=>xs.getD j .non) (l.map fun j=>rs.getD j d):=by
 refine ⟨by simp,fun i x m a b=> ?_⟩
 rw[List.getElem?_map] at a b
 cases e:l[i]? with
 | none=>rw[e] at a; cases a
 | some j=>
  rw[e] at a b
  have ea:xs.getD j .non=x:=Option.some.inj a
  have eb:rs.getD j d=m:=Option.some.inj b
  have hj:=hl j (List.mem_of_getElem? e)
  refine h.2 j x m ?_ ?_
  ·rw[←ea,List.getD_eq_getElem?_getD,List.getElem?_eq_getElem hj]; rfl
  ·rw[←eb,List.getD_eq_getElem?_getD,List.getElem?_eq_getElem (by rw[←h.1]; exact hj)]; rfl
theorem qi5 {K:PySem.W.Frag} {a D:Addr} {g:TG} {tt:TT} {te:TE} {σ0:L2.St} {H0:Hp} {Q:Addr→Hp→Prop} {tv:α→List V} {tw:β→List V} {xs:List V} {rs:List α} (f:α→Option β) (Sg:L2.St→Prop) (h0:Sg σ0) (hx:SqL K H0 a xs) (hR:TAt tv H0 xs rs) (hl:xs.length≤1000) (hD:H0 D=none)
  (qib: ∀(σ:L2.St) (H':Hp) (t:Addr) (r:α) (Ny:L2.St→V→Hp→Prop) (Nn:L2.St→Hp→Prop),Sg σ→qck H0 H'→r∈rs→H' t=some (.tup (tv r))→
   (∀σ2 t' H6 r',f r=some r'→Sg σ2→qck H' H6→H6 t'=some (.tup (tw r'))→Ny σ2 (.ref t') H6)→(f r=none→∀σ2 H5,Sg σ2→qck H' H5→Nn σ2 H5)→
   g (.ref t) σ H' fun σ2 H4=>tt σ2 H4 fun b H5=>if b=true then te σ2 H5 (Ny σ2) else Nn σ2 H5)
  (fin: ∀ys H',qck H0 H'→H' D=some (.lst ys)→TAt tw H' ys (rs.filterMap f)→Q D H'):
  qpL (Itl K a) D g tt te σ0 (L2.upd H0 D (.lst [])) Q:=by
 refine qdV (n:=xs.length) (fun i ys σ H'=>Sg σ∧qck H0 H'∧H' D=some (.lst ys)∧ys.length≤i∧TAt tw H' ys ((rs.take i).filterMap f)) ⟨h0,qa3 hD,qag,Nat.le_refl _,TAt.nil⟩ (Nat.le_of_lt (qaQ hl)) ?_ ?_ ?_ ?_ ?_
 ·rintro i ys σ H' ⟨_,_,h,_⟩
  exact h
 ·rintro i ys σ H' ⟨_,_,_,h,_⟩
  exact h
 ·rintro i ys σ H' hi ⟨_,sm,_⟩
  exact ⟨xs,xs[i],sm.seq hx,List.getElem?_eq_getElem hi⟩
 ·rintro ys σ H' ⟨_,sm,h,_,hr⟩
  refine ⟨⟨xs,sm.seq hx,Nat.le_refl _⟩,fin ys H' sm h ?_⟩
  rw[List.take_of_length_le (by rw[hR.1]; exact Nat.le_refl _)] at hr
  exact hr
 ·rintro i ys σ H' x H3 hi ⟨hS,sm,h,hn,hr⟩ ⟨rfl,hxi⟩
  have e:=hxi xs (sm.seq hx)
  obtain ⟨r,t,er,rfl,ht⟩:=(hR.same sm).get e
  have tk:rs.take (i+1)=rs.take i++[r]:=by rw[List.take_add_one,er]; rfl
  refine qib σ H3 t r _ _ hS sm (List.mem_of_getElem? er) ht (fun σ2 t' H6 r' ef hS2 s6 ht'=> ?_) fun ef σ2 H5 hS2 s5=> ?_
  ·refine ⟨s6 _ _ h,hS2,fun b o z=> ?_,qag,by rw[List.length_append,List.length_singleton]; lia,?_⟩
   ·rw[qae (qak z hD)]
    exact s6 _ _ (sm b o z)
   ·rw[tk,List.filterMap_append]
    show TAt tw _ _ (List.filterMap f (rs.take i)++List.filterMap f [r])
    rw[show List.filterMap f [r]=[r'] by simp[ef]]
    exact TAt.upd ((hr.same s6).snoc ht') (s6 _ _ h)
  ·refine ⟨hS2,sm.trans s5,s5 _ _ h,Nat.le_succ_of_le hn,?_⟩
   rw[tk,List.filterMap_append,show List.filterMap f [r]=[] by simp[ef],List.append_nil]
   exact hr.same s5
end
theorem qnd {x:V} (h:qdb x=true):eqV x x=true:=by
 cases x<;>first | rfl | (simp[eqV]; done) | cases h
section
variable {X:Cx} {α:Type}
def eqT (us vs:List V):Bool:=(List.range us.length).all fun j=>eqV (us.getD j .non) (vs.getD j .non)
theorem qhR {us:List V} (h:us.all qdb=true) {j:Nat} (hj:j<us.length):qdb (us.getD j .non)=true:=by
 rw[List.getD_eq_getElem?_getD,List.getElem?_eq_getElem hj]
 exact List.all_eq_true.mp h _ (List.getElem_mem hj)
theorem qiS {us:List V} (h:us.all qdb=true):eqT us us=true:=by
 unfold eqT
 rw[List.all_eq_true]
 intro j hj
 exact qnd (qhR h (List.mem_range.mp hj))
theorem valsArr {us:List V} {is:List Value} (r:Vals us is) {j:Nat} (h:j<is.toArray.size):RelV (us.getD j .non) is.toArray[j]:=by
 have hj:j<us.length:=by rw[r.length]; simpa using h
 obtain ⟨u,e,q⟩:=r.get (List.getElem?_eq_getElem hj)
 rw[List.getD_eq_getElem?_getD,List.getElem?_eq_getElem hj]
 have:is.toArray[j]=u:=by
  rw[List.getElem?_eq_getElem (by simpa using h)] at e
  simpa using Option.some.inj e
 rw[this]
 exact q
theorem VEq.tup {H:Hp} {t t':Addr} {us vs:List V} (hu:X.A.units+2<cLine) (h1:H t=some (.tup us)) (h2:H t'=some (.tup vs)) (f1:us.all qdb=true) (f2:vs.all qdb=true) (hl:us.length=vs.length):VEq X H (.ref t) (.ref t') (eqT us vs):=by
 intro pins σ s u v I ru rv
 cases ru; cases rv
 by_cases z:t=t'
 ·subst z
  rw[h1] at h2; cases h2
  rw[qiS f1]
  exact SeqAt.EqAt.same _
 ·obtain ⟨i1,r1,p1,_⟩:=I.tuple (SqT.of h1)
  obtain ⟨i2,r2,p2,_⟩:=I.tuple (SqT.of h2)
  refine SeqAt.EqAt.of_refs z ?_
  have l1:=r1.length
  have l2:=r2.length
  have q:=SeqAt.RcAt.tuples (A:=X.A.in1) (s:=s) (e:=fun j=>eqV (us.getD j .non) (vs.getD j .non)) p1 p2 (by show X.A.units+1<cLine; lia) (fun j a1 a2=>qiT (valsArr r1 a1) (valsArr r2 a2) (qhR f1 (by rw[l1]; simpa using a1)) (qhR f2 (by rw[l2]; simpa using a2)))
  have e:((List.range (min i1.toArray.size i2.toArray.size)).all (fun j=>eqV (us.getD j .non) (vs.getD j .non))&&i1.toArray.size==i2.toArray.size)=eqT us vs:=by
   unfold eqT
   simp[←l1,←l2,←hl]
  rw[e] at q
  exact q
def qus (K:PySem.W.Frag) (tv:α→List V):R2:=fun x y H Q=> ∃a b xs ys as,x= .ref a∧y= .ref b∧SqL K H a xs∧SqL K H b ys∧TAt tv H xs as∧TAt tv H ys as∧Q (.bl false) H
theorem op_neT {tv:α→List V} (hf: ∀a,(tv a).all qdb=true) (hu:X.A.units+2<cLine):OpR X (compareOp .NotEq) (qus X.K tv):=by
 intro pins s σ H x y v u Q I rx ry h
 obtain ⟨a,b,xs,ys,rs,rfl,rfl,ha,hb,hx,hy,q⟩:=h
 cases rx; cases ry
 obtain ⟨i1,r1,p1,z1⟩:=I.list ha
 obtain ⟨i2,r2,p2,z2⟩:=I.list hb
 have l1:=r1.length
 have l2:=r2.length
 have l3:=hx.1
 have l4:=hy.1
 have q':=SeqAt.RcNeAt.lists (A:=X.A) (s:=s) (e:=fun _=>true) p1.isList p2.isList (by simp; lia) (by lia) (fun j h1 h2=> ?_)
 ·have e:(!(List.range i1.toArray.size).all (fun _=>true))=false:=by simp
  rw[e] at q'
  exact q' _ _ _ _ ⟨.bl false,H,I,rfl,q⟩
 ·have h1':j<i1.length:=by simpa using h1
  have h2':j<i2.length:=by simpa using h2
  have hxj:xs[j]? =some xs[j]:=List.getElem?_eq_getElem (by lia)
  have hyj:ys[j]? =some ys[j]:=List.getElem?_eq_getElem (by lia)
  obtain ⟨t1,c1,d1⟩:=hx.2 j _ rs[j] hxj (List.getElem?_eq_getElem (by lia))
  obtain ⟨t2,c2,d2⟩:=hy.2 j _ rs[j] hyj (List.getElem?_eq_getElem (by lia))
  have q1:=valsArr r1 h1
  have q2:=valsArr r2 h2
  rw[List.getD_eq_getElem?_getD,hxj,Option.getD_some,c1] at q1
  rw[List.getD_eq_getElem?_getD,hyj,Option.getD_some,c2] at q2
  have z:=VEq.tup (X:=X) hu d1 d2 (hf _) (hf _) rfl pins σ s _ _ I q1 q2
  rw[qiS (hf _)] at z
  exact z
end
end RH
end
section
namespace PL
open PySem L2
mutual
def eqT:T→T→Bool
 | .non,.non=>true
 | .bl a,.bl b=>a==b
 | .bl a,.int b=>(if a then 1 else 0)==b
 | .int a,.bl b=>a==(if b then 1 else 0)
 | .int a,.int b=>a==b
 | .str a,.str b=>a==b
 | .tup xs,.tup ys=>qgb xs ys
 | .lst xs,.lst ys=>qgb xs ys
 | _,_=>false
def qgb:List T→List T→Bool
 | [],[]=>true
 | x::xs,y::ys=>eqT x y&&qgb xs ys
 | _,_=>false
end
def okT:Nat→T→Bool
 | _,.non=>true
 | _,.bl _=>true
 | _,.int _=>true
 | _,.str _=>true
 | n+1,.tup ts=>ts.all (okT n)
 | n+1,.lst ts=>ts.all (okT n)
 | _,_=>false
def qm9:T→Bool
 | .non=>true
 | .bl _=>true
 | .int _=>true
 | .str _=>true
 | _=>false
abbrev qiq (xs ys:List T) (j:Nat):Bool:=eqT (xs.getD j .non) (ys.getD j .non)
theorem qdR: ∀xs ys:List T,qgb xs ys=((List.range (min xs.length ys.length)).all (qiq xs ys)&&xs.length==ys.length)
 | [],[]=>by simp[qgb]
 | [],_::_=>by simp[qgb]
 | _::_,[]=>by simp[qgb]
 | x::xs,y::ys=>by
  rw[qgb,qdR xs ys]
  have m:min (x::xs).length (y::ys).length=(min xs.length ys.length).succ:=by simp only[List.length_cons]; lia
  rw[m,List.range_succ_eq_map,List.all_cons,List.all_map,←Bool.and_assoc]
  have e:(qiq (x::xs) (y::ys)∘Nat.succ)=qiq xs ys:=by funext j; simp[qiq]
  rw[e,show qiq (x::xs) (y::ys) 0=eqT x y from rfl]
  simp
theorem qiR {xs ys:List T} (h:xs.length=ys.length):qgb xs ys=(List.range xs.length).all (qiq xs ys):=by
 rw[qdR,h,Nat.min_self,beq_self_eq_true,Bool.and_true]
theorem qlA {xs ys:List T} (h:xs.length≠ys.length):qgb xs ys=false:=by
 rw[qdR]; simp[h]
section kinds
open SeqAt
variable {A:Around} {s:Shared} {x:V} {u:Value} {l b:Addr} {is js:Array Value}
theorem qhT (r:RelV x u) (f:qdb x=true) (h:s.heap.IsList l is) (c:A.units<cLine):EqAt A s u (.ref l) false∧EqAt A s (.ref l) u false∧RcAt A s u (.ref l) false∧RcAt A s (.ref l) u false∧RcNeAt A s u (.ref l) true∧RcNeAt A s (.ref l) u true:=by
 cases x with
 | non=>cases r; exact ⟨.none_list h c,.list_none h c,.none_list h c,.list_none h c,.none_list h c,.list_none h c⟩
 | bl k=>cases r; exact ⟨.bool_list k h c,.list_bool k h c,.bool_list k h c,.list_bool k h c,.bool_list k h c,.list_bool k h c⟩
 | int k=>obtain ⟨t,rfl⟩:=r; exact ⟨.int_list k t h c,.list_int k t h c,.int_list k t h c,.list_int k t h c,.int_list k t h c,.list_int k t h c⟩
 | str k=>obtain ⟨t,rfl⟩:=r; exact ⟨.str_list k t h c,.list_str k t h c,.str_list k t h c,.list_str k t h c,.str_list k t h c,.list_str k t h c⟩
 | _=>cases f
theorem qhS (r:RelV x u) (f:qdb x=true) (h:s.heap.IsTuple l is) (c:A.units<cLine):EqAt A s u (.ref l) false∧EqAt A s (.ref l) u false∧RcAt A s u (.ref l) false∧RcAt A s (.ref l) u false∧RcNeAt A s u (.ref l) true∧RcNeAt A s (.ref l) u true:=by
 cases x with
 | non=>cases r; exact ⟨.none_tuple h c,.tuple_none h c,.none_tuple h c,.tuple_none h c,.none_tuple h c,.tuple_none h c⟩
 | bl k=>cases r; exact ⟨.bool_tuple k h c,.tuple_bool k h c,.bool_tuple k h c,.tuple_bool k h c,.bool_tuple k h c,.tuple_bool k h c⟩
 | int k=>obtain ⟨t,rfl⟩:=r; exact ⟨.int_tuple k t h c,.tuple_int k t h c,.int_tuple k t h c,.tuple_int k t h c,.int_tuple k t h c,.tuple_int k t h c⟩
 | str k=>obtain ⟨t,rfl⟩:=r; exact ⟨.str_tuple k t h c,.tuple_str k t h c,.str_tuple k t h c,.tuple_str k t h c,.str_tuple k t h c,.tuple_str k t h c⟩
 | _=>cases f
theorem qsq {y:V} {v:Value} (r:RelV x u) (f:qdb x=true) (r':RelV y v) (f':qdb y=true):RcAt A s u v (eqV x y)∧RcNeAt A s u v (!eqV x y):=by
 cases x with
 | non=>
  cases r
  cases y with
  | non=>cases r'; exact ⟨.none_none,.none_none⟩
  | bl k=>cases r'; exact ⟨.none_bool k,.none_bool k⟩
  | int k=>obtain ⟨t,rfl⟩:=r'; exact ⟨.none_int k t,.none_int k t⟩
  | str k=>obtain ⟨t,rfl⟩:=r'; exact ⟨.none_str k t,.none_str k t⟩
  | _=>cases f'
 | bl i=>
  cases r
  cases y with
  | non=>cases r'; exact ⟨.bool_none i,.bool_none i⟩
  | bl k=>cases r'; exact ⟨.bool_bool i k,.bool_bool i k⟩
  | int k=>obtain ⟨t,rfl⟩:=r'; exact ⟨.bool_int i k t,.bool_int i k t⟩
  | str k=>obtain ⟨t,rfl⟩:=r'; exact ⟨.bool_str i k t,.bool_str i k t⟩
  | _=>cases f'
 | int i=>
  obtain ⟨t0,rfl⟩:=r
  cases y with
  | non=>cases r'; exact ⟨.int_none i t0,.int_none i t0⟩
  | bl k=>cases r'; exact ⟨.int_bool i t0 k,.int_bool i t0 k⟩
  | int k=>obtain ⟨t,rfl⟩:=r'; exact ⟨.int_int i t0 k t,.int_int i t0 k t⟩
  | str k=>obtain ⟨t,rfl⟩:=r'; exact ⟨.int_str i t0 k t,.int_str i t0 k t⟩
  | _=>cases f'
 | str i=>
  obtain ⟨t0,rfl⟩:=r
  cases y with
  | non=>cases r'; exact ⟨.str_none i t0,.str_none i t0⟩
  | bl k=>cases r'; exact ⟨.str_bool i t0 k,.str_bool i t0 k⟩
  | int k=>obtain ⟨t,rfl⟩:=r'; exact ⟨.str_int i t0 k t,.str_int i t0 k t⟩
  | str k=>obtain ⟨t,rfl⟩:=r'; exact ⟨.str_str i t0 k t,.str_str i t0 k t⟩
  | _=>cases f'
 | _=>cases f
end kinds
inductive St3 (K:PySem.W.Frag) (B:Hp) (s:Shared):T→V→Value→Prop
 | flat {t x u}:qm9 t=true→qdb x=true→RelV x u→Rep K B t x→St3 K B s t x u
 | lst {ts p is vs}:s.heap.IsList p (List.toArray is)→Vals vs is→qaP K B ts vs→St3 K B s (.lst ts) (.ref p) (.ref p)
 | tup {ts p is vs}:s.heap.IsTuple p (List.toArray is)→Vals vs is→qaP K B ts vs→St3 K B s (.tup ts) (.ref p) (.ref p)
section
variable {X:Cx} {pins:List (Addr×Obj)} {σ:St} {H B:Hp} {s:Shared}
theorem st3 {n:Nat} {t:T} {x:V} {u:Value} (I:Inv X pins σ H s) (le:Le B H) (ok:okT n t=true) (r:Rep X.K B t x) (ru:RelV x u):St3 X.K B s t x u:=by
 cases t with
 | non=>have:=qbW r; subst this; exact .flat rfl rfl ru r
 | bl b=>have:=qbA r; subst this; exact .flat rfl rfl ru r
 | int b=>have:=qar r; subst this; exact .flat rfl rfl ru r
 | str b=>have:=qaJ r; subst this; exact .flat rfl rfl ru r
 | tup ts=>
  obtain ⟨p,vs,rfl,hp,rs⟩:=qbn r
  cases ru
  obtain ⟨is,rv,pl,_⟩:=I.tuple (le.sqT hp)
  exact .tup pl rv rs
 | lst ts=>
  obtain ⟨p,vs,rfl,hp,rs⟩:=qbK r
  cases ru
  obtain ⟨is,rv,pl,_⟩:=I.list (SqL.of (le _ _ hp))
  exact .lst pl.isList rv rs
 | dct _=>cases n<;>cases ok
 | dtu _=>cases n<;>cases ok
 | dcf _=>cases n<;>cases ok
 | fn _=>cases n<;>cases ok
 | scr _=>cases n<;>cases ok
theorem qfW {K:PySem.W.Frag} {t u:T} {x y:V} (ft:qm9 t=true) (fu:qm9 u=true) (r:Rep K B t x) (r':Rep K B u y):eqT t u=eqV x y:=by
 cases t<;>first | cases ft | skip
 ·have:=qbW r; subst this; cases u<;>first | cases fu | skip
  ·have:=qbW r'; subst this; rfl
  ·have:=qbA r'; subst this; rfl
  ·have:=qar r'; subst this; rfl
  ·have:=qaJ r'; subst this; rfl
 ·have:=qbA r; subst this; cases u<;>first | cases fu | skip
  ·have:=qbW r'; subst this; rfl
  ·have:=qbA r'; subst this; rfl
  ·have:=qar r'; subst this; rfl
  ·have:=qaJ r'; subst this; rfl
 ·have:=qar r; subst this; cases u<;>first | cases fu | skip
  ·have:=qbW r'; subst this; rfl
  ·have:=qbA r'; subst this; rfl
  ·have:=qar r'; subst this; rfl
  ·have:=qaJ r'; subst this; rfl
 ·have:=qaJ r; subst this; cases u<;>first | cases fu | skip
  ·have:=qbW r'; subst this; rfl
  ·have:=qbA r'; subst this; rfl
  ·have:=qar r'; subst this; rfl
  ·have:=qaJ r'; subst this; rfl
theorem qb4 {t:T} {ts:List T} (f:qm9 t=true):eqT t (.lst ts)=false∧eqT (.lst ts) t=false∧eqT t (.tup ts)=false∧eqT (.tup ts) t=false:=by
 cases t<;>first | exact ⟨rfl,rfl,rfl,rfl⟩ | cases f
theorem qbL {n:Nat} {ts:List T} (h:ts.all (okT n)=true) {j:Nat} (hj:j<ts.length):okT n (ts.getD j .non)=true:=by
 rw[List.getD_eq_getElem?_getD,List.getElem?_eq_getElem hj]
 exact List.all_eq_true.mp h _ (List.getElem_mem hj)
theorem qd5 {n:Nat} {ts:List T} (h:okT n (.lst ts)=true): ∃m,n=m+1∧ts.all (okT m)=true:=by
 cases n with
 | zero=>cases h
 | succ m=>exact ⟨m,rfl,h⟩
theorem qd4 {n:Nat} {ts:List T} (h:okT n (.tup ts)=true): ∃m,n=m+1∧ts.all (okT m)=true:=by
 cases n with
 | zero=>cases h
 | succ m=>exact ⟨m,rfl,h⟩
mutual
theorem qeA: ∀(n:Nat) (t:T),okT n t=true→eqT t t=true
 | _,.non,_=>rfl
 | _,.bl b,_=>by simp[eqT]
 | _,.int b,_=>by simp[eqT]
 | _,.str b,_=>by simp[eqT]
 | _,.tup ts,h=>by
  obtain ⟨m,_,h'⟩:=qd4 h
  rw[eqT]; exact qeT m ts h'
 | _,.lst ts,h=>by
  obtain ⟨m,_,h'⟩:=qd5 h
  rw[eqT]; exact qeT m ts h'
 | n,.dct _,h=>by cases n<;>cases h
 | n,.dtu _,h=>by cases n<;>cases h
 | n,.dcf _,h=>by cases n<;>cases h
 | n,.fn _,h=>by cases n<;>cases h
 | n,.scr _,h=>by cases n<;>cases h
theorem qeT: ∀(n:Nat) (ts:List T),ts.all (okT n)=true→qgb ts ts=true
 | _,[],_=>rfl
 | n,t::ts,h=>by
  rw[List.all_cons,Bool.and_eq_true] at h
  rw[qgb,qeA n t h.1,qeT n ts h.2]; rfl
end
mutual
theorem qeI (I:Inv X pins σ H s) (le:Le B H): ∀(n m:Nat) (t u:T) (x:V),okT n t=true→okT m u=true→Rep X.K B t x→Rep X.K B u x→t=u
 | n,m,.non,u,x,_,hu,r,r'=>by
  have:=qbW r; subst this
  cases u with
  | non=>rfl
  | bl _=>cases qbA r'
  | int _=>cases qar r'
  | str _=>cases qaJ r'
  | tup _=>obtain ⟨_,_,e,_⟩:=qbn r'; cases e
  | lst _=>obtain ⟨_,_,e,_⟩:=qbK r'; cases e
  | dct _=>cases m<;>cases hu
  | dtu _=>cases m<;>cases hu
  | dcf _=>cases m<;>cases hu
  | fn _=>cases m<;>cases hu
  | scr _=>cases m<;>cases hu
 | n,m,.bl _,u,x,_,hu,r,r'=>by
  have:=qbA r; subst this
  cases u with
  | non=>cases qbW r'
  | bl _=>cases qbA r'; rfl
  | int _=>cases qar r'
  | str _=>cases qaJ r'
  | tup _=>obtain ⟨_,_,e,_⟩:=qbn r'; cases e
  | lst _=>obtain ⟨_,_,e,_⟩:=qbK r'; cases e
  | dct _=>cases m<;>cases hu
  | dtu _=>cases m<;>cases hu
  | dcf _=>cases m<;>cases hu
  | fn _=>cases m<;>cases hu
  | scr _=>cases m<;>cases hu
 | n,m,.int _,u,x,_,hu,r,r'=>by
  have:=qar r; subst this
  cases u with
  | non=>cases qbW r'
  | bl _=>cases qbA r'
  | int _=>cases qar r'; rfl
  | str _=>cases qaJ r'
  | tup _=>obtain ⟨_,_,e,_⟩:=qbn r'; cases e
  | lst _=>obtain ⟨_,_,e,_⟩:=qbK r'; cases e
  | dct _=>cases m<;>cases hu
  | dtu _=>cases m<;>cases hu
  | dcf _=>cases m<;>cases hu
  | fn _=>cases m<;>cases hu
  | scr _=>cases m<;>cases hu
 | n,m,.str _,u,x,_,hu,r,r'=>by
  have:=qaJ r; subst this
  cases u with
  | non=>cases qbW r'
  | bl _=>cases qbA r'
  | int _=>cases qar r'
  | str _=>cases qaJ r'; rfl
  | tup _=>obtain ⟨_,_,e,_⟩:=qbn r'; cases e
  | lst _=>obtain ⟨_,_,e,_⟩:=qbK r'; cases e
  | dct _=>cases m<;>cases hu
  | dtu _=>cases m<;>cases hu
  | dcf _=>cases m<;>cases hu
  | fn _=>cases m<;>cases hu
  | scr _=>cases m<;>cases hu
 | n,m,.tup ts,u,x,ht,hu,r,r'=>by
  obtain ⟨p,vs,rfl,hp,rs⟩:=qbn r
  cases u with
  | non=>cases qbW r'
  | bl _=>cases qbA r'
  | int _=>cases qar r'
  | str _=>cases qaJ r'
  | tup us=>
   obtain ⟨p',vs',e,hp',rs'⟩:=qbn r'
   cases e
   have:=I.tuple_inj (le.sqT hp) (le.sqT hp')
   subst this
   obtain ⟨n',_,ht'⟩:=qd4 ht
   obtain ⟨m',_,hu'⟩:=qd4 hu
   rw[qfE I le n' m' ts us vs ht' hu' rs rs']
  | lst us=>
   obtain ⟨p',vs',e,hp',rs'⟩:=qbK r'
   cases e
   obtain ⟨is,_,pl,_⟩:=I.tuple (le.sqT hp)
   obtain ⟨is',_,pl',_⟩:=I.list (SqL.of (le _ _ hp'))
   obtain ⟨o,e1,c1,_⟩:=pl
   obtain ⟨o',e2,c2,_⟩:=pl'.isList
   rw[e1] at e2; cases e2; rw[c1] at c2; injection c2 with c2; exact absurd c2 (by decide)
  | dct _=>cases m<;>cases hu
  | dtu _=>cases m<;>cases hu
  | dcf _=>cases m<;>cases hu
  | fn _=>cases m<;>cases hu
  | scr _=>cases m<;>cases hu
 | n,m,.lst ts,u,x,ht,hu,r,r'=>by
  obtain ⟨p,vs,rfl,hp,rs⟩:=qbK r
  cases u with
  | non=>cases qbW r'
  | bl _=>cases qbA r'
  | int _=>cases qar r'
  | str _=>cases qaJ r'
  | lst us=>
   obtain ⟨p',vs',e,hp',rs'⟩:=qbK r'
   cases e
   rw[hp] at hp'; cases hp'
   obtain ⟨n',_,ht'⟩:=qd5 ht
   obtain ⟨m',_,hu'⟩:=qd5 hu
   rw[qfE I le n' m' ts us vs ht' hu' rs rs']
  | tup us=>
   obtain ⟨p',vs',e,hp',rs'⟩:=qbn r'
   cases e
   obtain ⟨is,_,pl,_⟩:=I.tuple (le.sqT hp')
   obtain ⟨is',_,pl',_⟩:=I.list (SqL.of (le _ _ hp))
   obtain ⟨o,e1,c1,_⟩:=pl
   obtain ⟨o',e2,c2,_⟩:=pl'.isList
   rw[e1] at e2; cases e2; rw[c1] at c2; injection c2 with c2; exact absurd c2 (by decide)
  | dct _=>cases m<;>cases hu
  | dtu _=>cases m<;>cases hu
  | dcf _=>cases m<;>cases hu
  | fn _=>cases m<;>cases hu
  | scr _=>cases m<;>cases hu
 | n,m,.dct _,u,x,ht,_,_,_=>by cases n<;>cases ht
 | n,m,.dtu _,u,x,ht,_,_,_=>by cases n<;>cases ht
 | n,m,.dcf _,u,x,ht,_,_,_=>by cases n<;>cases ht
 | n,m,.fn _,u,x,ht,_,_,_=>by cases n<;>cases ht
 | n,m,.scr _,u,x,ht,_,_,_=>by cases n<;>cases ht
theorem qfE (I:Inv X pins σ H s) (le:Le B H): ∀(n m:Nat) (ts us:List T) (vs:List V),ts.all (okT n)=true→us.all (okT m)=true→qaP X.K B ts vs→qaP X.K B us vs→ts=us
 | _,_,[],us,vs,_,_,r,r'=>by
  have:=r.inv0; subst this
  cases us with
  | nil=>rfl
  | cons _ _=>obtain ⟨_,_,e,_⟩:=r'.inv; cases e
 | n,m,t::ts,us,vs,ht,hu,r,r'=>by
  obtain ⟨v,vs',rfl,a,b⟩:=r.inv
  cases us with
  | nil=>cases r'.inv0
  | cons u us=>
   obtain ⟨v',vs'',e,a',b'⟩:=r'.inv
   cases e
   rw[List.all_cons,Bool.and_eq_true] at ht hu
   rw[qeI I le n m t u v ht.1 hu.1 a a',qfE I le n m ts us vs' ht.2 hu.2 b b']
end
open SeqAt in
theorem qiU (I:Inv X pins σ H s) (le:Le B H): ∀(n m:Nat) (A:Around) (t u:T) (x y:V) (v w:Value),okT n t=true→okT m u=true→A.units+n<cLine→Rep X.K B t x→Rep X.K B u y→RelV x v→RelV y w→EqAt A s v w (eqT t u):=by
 intro n
 induction n with
 | zero=>
  intro m A t u x y v w ht hu hc r r' rv rw'
  rcases st3 I le ht r rv with ⟨f,fx,_,_⟩ | _ | _
  ·rcases st3 I le hu r' rw' with ⟨g,gx,_,_⟩ | ⟨pl,_,_⟩ | ⟨pl,_,_⟩
   ·rw[qfW f g r r']; exact qiT rv rw' fx gx
   ·rw[(qb4 f).1]; exact (qhT rv fx pl (by lia)).1
   ·rw[(qb4 f).2.2.1]; exact (qhS rv fx pl (by lia)).1
  ·cases ht
  ·cases ht
 | succ n ih=>
  intro m A t u x y v w ht hu hc r r' rv rw'
  have hA:A.units<cLine:=by lia
  rcases st3 I le ht r rv with ⟨f,fx,_,_⟩ | ⟨pl,vs,rs⟩ | ⟨pl,vs,rs⟩
  ·rcases st3 I le hu r' rw' with ⟨g,gx,_,_⟩ | ⟨pl,_,_⟩ | ⟨pl,_,_⟩
   ·rw[qfW f g r r']; exact qiT rv rw' fx gx
   ·rw[(qb4 f).1]; exact (qhT rv fx pl hA).1
   ·rw[(qb4 f).2.2.1]; exact (qhS rv fx pl hA).1
  ·rename_i ts p is xs
   rcases st3 I le hu r' rw' with ⟨g,gx,_,_⟩ | ⟨pl',vs',rs'⟩ | ⟨pl',_,_⟩
   ·rw[(qb4 g).2.1]; exact (qhT rw' gx pl hA).2.1
   ·rename_i us p' is' ys
    by_cases z:p=p'
    ·subst z
     have e:=qeI I le (n+1) m _ _ _ ht hu r r'
     rw[←e,qeA _ _ ht]
     exact EqAt.same _
    ·have l1:=vs.length
     have l2:=vs'.length
     have l3:=rs.length
     have l4:=rs'.length
     refine EqAt.of_refs z ?_
     show RcAt A s _ _ (qgb ts us)
     by_cases hl:ts.length=us.length
     ·rw[qiR hl]
      have q:=RcAt.lists (A:=A) (s:=s) (e:=qiq ts us) pl pl' (by simp; lia) hA fun j a1 a2=> ?_
      ·have:(List.toArray is).size=ts.length:=by simp; lia
       rw[this] at q; exact q
      ·have b1:j<ts.length:=by simp at a1; lia
       have b2:j<us.length:=by lia
       obtain ⟨m',rfl,hu'⟩:=qd5 hu
       exact ih m' A.in1 _ _ _ _ _ _ (qbL ht b1) (qbL hu' b2) (by show A.units+1+n<cLine; lia) (rs.getD j b1) (rs'.getD j b2) (RH.valsArr vs a1) (RH.valsArr vs' a2)
     ·rw[qlA hl]
      exact RcAt.lists_lengths pl pl' (by simp; lia) hA
   ·exact EqAt.list_tuple pl pl' hA
  ·rename_i ts p is xs
   rcases st3 I le hu r' rw' with ⟨g,gx,_,_⟩ | ⟨pl',vs',rs'⟩ | ⟨pl',vs',rs'⟩
   ·rw[(qb4 g).2.2.2]; exact (qhS rw' gx pl hA).2.1
   ·exact EqAt.tuple_list pl pl' hA
   ·rename_i us p' is' ys
    by_cases z:p=p'
    ·subst z
     have e:=qeI I le (n+1) m _ _ _ ht hu r r'
     rw[←e,qeA _ _ ht]
     exact EqAt.same _
    ·have l1:=vs.length
     have l2:=vs'.length
     have l3:=rs.length
     have l4:=rs'.length
     refine EqAt.of_refs z ?_
     show RcAt A s _ _ (qgb ts us)
     rw[qdR]
     have q:=RcAt.tuples (A:=A) (s:=s) (e:=qiq ts us) pl pl' hA fun j a1 a2=> ?_
     ·have e1:(List.toArray is).size=ts.length:=by simp; lia
      have e2:(List.toArray is').size=us.length:=by simp; lia
      rw[e1,e2] at q; exact q
     ·have b1:j<ts.length:=by simp at a1; lia
      have b2:j<us.length:=by simp at a2; lia
      obtain ⟨m',rfl,hu'⟩:=qd4 hu
      exact ih m' A.in1 _ _ _ _ _ _ (qbL ht b1) (qbL hu' b2) (by show A.units+1+n<cLine; lia) (rs.getD j b1) (rs'.getD j b2) (RH.valsArr vs a1) (RH.valsArr vs' a2)
open SeqAt in
theorem qnV (I:Inv X pins σ H s) (le:Le B H) (n:Nat) (A:Around) (t u:T) (x y:V) (v w:Value) (ht:okT n t=true) (hu:okT n u=true) (hc:A.units+n<cLine) (r:Rep X.K B t x) (r':Rep X.K B u y) (rv:RelV x v) (rw':RelV y w):RcAt A s v w (eqT t u)∧RcNeAt A s v w (!eqT t u):=by
 have hA:A.units<cLine:=by lia
 rcases st3 I le ht r rv with ⟨f,fx,_,_⟩ | ⟨pl,vs,rs⟩ | ⟨pl,vs,rs⟩
 ·rcases st3 I le hu r' rw' with ⟨g,gx,_,_⟩ | ⟨pl,_,_⟩ | ⟨pl,_,_⟩
  ·rw[qfW f g r r']; exact qsq rv fx rw' gx
  ·rw[(qb4 f).1]; exact ⟨(qhT rv fx pl hA).2.2.1,(qhT rv fx pl hA).2.2.2.2.1⟩
  ·rw[(qb4 f).2.2.1]; exact ⟨(qhS rv fx pl hA).2.2.1,(qhS rv fx pl hA).2.2.2.2.1⟩
 ·rename_i ts p is xs
  rcases st3 I le hu r' rw' with ⟨g,gx,_,_⟩ | ⟨pl',vs',rs'⟩ | ⟨pl',_,_⟩
  ·rw[(qb4 g).2.1]; exact ⟨(qhT rw' gx pl hA).2.2.2.1,(qhT rw' gx pl hA).2.2.2.2.2⟩
  ·rename_i us p' is' ys
   have l1:=vs.length
   have l2:=vs'.length
   have l3:=rs.length
   have l4:=rs'.length
   obtain ⟨n',rfl,ht'⟩:=qd5 ht
   obtain ⟨m',e,hu'⟩:=qd5 hu
   cases e
   show RcAt A s _ _ (qgb ts us)∧RcNeAt A s _ _ (!qgb ts us)
   by_cases hl:ts.length=us.length
   ·rw[qiR hl]
    have it: ∀j (a1:j<(List.toArray is).size) (a2:j<(List.toArray is').size),EqAt A.in1 s (List.toArray is)[j] (List.toArray is')[j] (qiq ts us j):=fun j a1 a2=>by
     have b1:j<ts.length:=by simp at a1; lia
     have b2:j<us.length:=by lia
     exact qiU I le n' n' A.in1 _ _ _ _ _ _ (qbL ht' b1) (qbL hu' b2) (by show A.units+1+n'<cLine; lia) (rs.getD j b1) (rs'.getD j b2) (RH.valsArr vs a1) (RH.valsArr vs' a2)
    have ez:(List.toArray is).size=ts.length:=by simp; lia
    have q1:=RcAt.lists (A:=A) (s:=s) (e:=qiq ts us) pl pl' (by simp; lia) hA it
    have q2:=RcNeAt.lists (A:=A) (s:=s) (e:=qiq ts us) pl pl' (by simp; lia) hA it
    rw[ez] at q1 q2
    exact ⟨q1,q2⟩
   ·rw[qlA hl]
    exact ⟨RcAt.lists_lengths pl pl' (by simp; lia) hA,RcNeAt.lists_lengths pl pl' (by simp; lia) hA⟩
  ·exact ⟨RcAt.list_tuple pl pl' hA,RcNeAt.list_tuple pl pl' hA⟩
 ·rename_i ts p is xs
  rcases st3 I le hu r' rw' with ⟨g,gx,_,_⟩ | ⟨pl',vs',rs'⟩ | ⟨pl',vs',rs'⟩
  ·rw[(qb4 g).2.2.2]; exact ⟨(qhS rw' gx pl hA).2.2.2.1,(qhS rw' gx pl hA).2.2.2.2.2⟩
  ·exact ⟨RcAt.tuple_list pl pl' hA,RcNeAt.tuple_list pl pl' hA⟩
  ·rename_i us p' is' ys
   have l1:=vs.length
   have l2:=vs'.length
   have l3:=rs.length
   have l4:=rs'.length
   obtain ⟨n',rfl,ht'⟩:=qd4 ht
   obtain ⟨m',e,hu'⟩:=qd4 hu
   cases e
   show RcAt A s _ _ (qgb ts us)∧RcNeAt A s _ _ (!qgb ts us)
   rw[qdR]
   have it: ∀j (a1:j<(List.toArray is).size) (a2:j<(List.toArray is').size),EqAt A.in1 s (List.toArray is)[j] (List.toArray is')[j] (qiq ts us j):=fun j a1 a2=>by
    have b1:j<ts.length:=by simp at a1; lia
    have b2:j<us.length:=by simp at a2; lia
    exact qiU I le n' n' A.in1 _ _ _ _ _ _ (qbL ht' b1) (qbL hu' b2) (by show A.units+1+n'<cLine; lia) (rs.getD j b1) (rs'.getD j b2) (RH.valsArr vs a1) (RH.valsArr vs' a2)
   have e1:(List.toArray is).size=ts.length:=by simp; lia
   have e2:(List.toArray is').size=us.length:=by simp; lia
   have q1:=RcAt.tuples (A:=A) (s:=s) (e:=qiq ts us) pl pl' hA it
   have q2:=RcNeAt.tuples (A:=A) (s:=s) (e:=qiq ts us) pl pl' hA it
   rw[e1,e2] at q1 q2
   exact ⟨q1,q2⟩
end
end PL
end
section
namespace PL
open PySem L2
def qcb:T→T→Rs T
 | .int i,.int j=>.ok (.int (i+j))
 | .str x,.str y=>if x.length+y.length≤1000 then .ok (.str (x++y)) else .no
 | .lst xs,.lst ys=>if xs.length+ys.length≤1000 then .ok (.lst (xs++ys)) else .no
 | .tup (x::xs),.tup (y::ys)=>if (x::xs).length+(y::ys).length≤1000 then .ok (.tup ((x::xs)++(y::ys))) else .no
 | _,_=>.no
def gSub:T→T→Rs T
 | .int i,.int j=>.ok (.int (i - j))
 | _,_=>.no
def qn7:T→T→Rs T
 | .int i,.int j=>if (-1000000≤i∧i≤1000000)∨(-1000000≤j∧j≤1000000) then .ok (.int (i*j)) else .no
 | _,_=>.no
def quI:T→T→Rs T
 | .int i,.int j=>if 0<j∧j<1073741824 then .ok (.int (i / j)) else .no
 | _,_=>.no
def qpV:T→T→Rs T
 | .int i,.int j=>if 0<j then .ok (.int (i % j)) else .no
 | _,_=>.no
def qtD:T→Rs T
 | .int i=>.ok (.int (-i))
 | _=>.no
def qqb (x y:Str):Bool:=decide (x.cps.toList<y.cps.toList)
def gLt:T→T→Rs T
 | .int i,.int j=>.ok (.bl (decide (i<j)))
 | .str x,.str y=>.ok (.bl (qqb x y))
 | _,_=>.no
def gLe:T→T→Rs T
 | .int i,.int j=>.ok (.bl (decide (i≤j)))
 | .str x,.str y=>.ok (.bl (!qqb y x))
 | _,_=>.no
def gGt:T→T→Rs T
 | .int i,.int j=>.ok (.bl (decide (j<i)))
 | _,_=>.no
def gGe:T→T→Rs T
 | .int i,.int j=>.ok (.bl (decide (j≤i)))
 | _,_=>.no
def gEq (a b:T):Rs T:=if okT 8 a=true∧okT 8 b=true then .ok (.bl (eqT a b)) else .no
def gNe (a b:T):Rs T:=if okT 8 a=true∧okT 8 b=true then .ok (.bl (!eqT a b)) else .no
def gIx:T→T→Rs T
 | .lst ts,.int k=>(match atI ts k with | some t=>.ok t | none=>.no)
 | .tup ts,.int k=>(match atI ts k with | some t=>.ok t | none=>.no)
 | .str z,.int k=>if z.length≤1000 then (match atI z.cps.toList k with | some c=>.ok (.str ⟨#[c]⟩) | none=>.no) else .no
 | _,_=>.no
def gIs:T→T→Rs T
 | x,.non=>(match x with | .non=>.ok (.bl true) | .dct _=>.no | .scr _=>.no | _=>.ok (.bl false))
 | .bl a,.bl b=>.ok (.bl (a==b))
 | _,_=>.no
def qq1:T→T→Rs T
 | x,.non=>(match x with | .non=>.ok (.bl false) | .dct _=>.no | .scr _=>.no | _=>.ok (.bl true))
 | .bl a,.bl b=>.ok (.bl (a != b))
 | _,_=>.no
theorem Rep.sq {K:PySem.W.Frag} {B:Hp} {ts:List T} {v:V} (r:Rep K B (.lst ts) v): ∃p vs,v= .ref p∧B p=some (.lst vs)∧qaP K B ts vs:=qbK r
section
variable {M:Md} {X:Cx}
def qqs (K:PySem.W.Frag):R2:=fun x y H Q=>(rI0 (fun i j=>.int (i+j)) x y H Q∨(∃i j,x= .str i∧y= .str j∧i.length+j.length≤sizeLine∧Q (.str (i++j)) H))∨(qtw x y H Q∨qmB K x y H Q)
theorem qaX:OpR X (binaryOp .Add) (qqs X.K):=(qgv.or qju).or (qkT.or qhy)
theorem qbo:Pl qcb:=fun a b c e=>by unfold qcb at e; split at e<;>first | cases e | (split at e<;>cases e)
theorem qbm (hK:X.K=M.K:=by rfl):RS M (qqs X.K) qcb:=by
 intro H B x y a b c Q le bt m ra rb e k
 have same: ∀{t:T} {v:V},(∀B,Rep M.K B t v)→c=t→Q v H:=fun r ec=>by subst ec; exact k _ H B (.refl le bt) m (r B)
 unfold qcb at e
 split at e
 ·cases e
  rw[qar ra,qar rb]
  exact .inl (.inl ⟨_,_,rfl,rfl,same (fun B=>qbB) rfl⟩)
 ·split at e
  ·rename_i hz
   cases e
   rw[qaJ ra,qaJ rb]
   exact .inl (.inr ⟨_,_,rfl,rfl,Nat.le_of_lt (qaQ hz),same (fun B=>qgx) rfl⟩)
  ·cases e
 ·split at e
  ·rename_i xs ys hz
   cases e
   obtain ⟨p,us,rfl,hp,r1⟩:=qbK ra
   obtain ⟨q,ws,rfl,hq,r2⟩:=qbK rb
   refine .inr (.inl ⟨p,q,us,ws,rfl,rfl,le _ _ hp,le _ _ hq,Nat.le_of_lt (qaQ (by rw[r1.length,r2.length]; exact hz)),fun d hd=> ?_⟩)
   have g:=qbJ.new (o:=HO.lst (us++ws)) le bt hd (by intro ps z; cases z)
   exact k _ _ _ g (M.G.st H _ (fun a o e _ _ _ _=>by rw[qae (qak e hd)]; exact e) m) (qqH qag ((r1.append r2).mono g.bb))
  ·cases e
 ·split at e
  ·rename_i x xs y ys hz
   cases e
   obtain ⟨p,us,rfl,hp,r1⟩:=qbn ra
   obtain ⟨q,ws,rfl,hq,r2⟩:=qbn rb
   have l1:=r1.length
   have l2:=r2.length
   refine .inr (.inr ⟨p,q,us,ws,rfl,rfl,by rw[hK]; exact le.sqT hp,by rw[hK]; exact le.sqT hq,(fun z=>by rw[z] at l1; cases l1),Nat.le_of_lt (qaQ (by lia)),(fun z=>by rw[z] at l2; cases l2),fun _ d hd=> ?_⟩)
   have g:=qbJ.new (o:=HO.tup (us++ws)) le bt hd (by intro ps z; cases z)
   exact k _ _ _ g (M.G.st H _ (fun a o e _ _ _ _=>by rw[qae (qak e hd)]; exact e) m) (qqG qag ((r1.append r2).mono g.bb))
  ·cases e
 ·cases e
theorem qku:RS M (rI0 fun i j=>.int (i - j)) gSub:=by
 intro H B x y a b c Q le bt m ra rb e k
 unfold gSub at e
 split at e
 ·cases e
  exact ⟨_,_,qar ra,qar rb,k _ H B (.refl le bt) m qbB⟩
 ·cases e
theorem qkK:Pl gSub:=fun a b c e=>by unfold gSub at e; split at e<;>cases e
theorem qnU:RS M (rI qrH fun i j=>.int (i*j)) qn7:=by
 intro H B x y a b c Q le bt m ra rb e k
 unfold qn7 at e
 split at e
 ·split at e
  ·rename_i h
   cases e
   refine ⟨_,_,qar ra,qar rb,?_,k _ H B (.refl le bt) m qbB⟩
   rcases h with h | h
   ·exact .inl ⟨by lia,by lia⟩
   ·exact .inr ⟨by lia,by lia⟩
  ·cases e
 ·cases e
theorem qnZ:Pl qn7:=fun a b c e=>by unfold qn7 at e; split at e<;>first | cases e | (split at e<;>cases e)
theorem qqo:RS M (rI (fun _ j=>0<j) fun i j=>.int (i % j)) qpV:=by
 intro H B x y a b c Q le bt m ra rb e k
 unfold qpV at e
 split at e
 ·split at e
  ·rename_i h
   cases e
   exact ⟨_,_,qar ra,qar rb,h,k _ H B (.refl le bt) m qbB⟩
  ·cases e
 ·cases e
theorem qqv:Pl qpV:=fun a b c e=>by unfold qpV at e; split at e<;>first | cases e | (split at e<;>cases e)
theorem qoU:OpR X (compareOp .Lt) (fun x y H Q=>rI0 (fun i j=>.bl (decide (i<j))) x y H Q∨∃i j,x= .str i∧y= .str j∧Q (.bl (decide (i.cps.toList<j.cps.toList))) H):=qoV.or qkS
theorem qsn:RS M (fun x y H Q=>rI0 (fun i j=>.bl (decide (i<j))) x y H Q∨∃i j,x= .str i∧y= .str j∧Q (.bl (decide (i.cps.toList<j.cps.toList))) H) gLt:=by
 intro H B x y a b c Q le bt m ra rb e k
 unfold gLt at e
 split at e
 ·cases e; exact .inl ⟨_,_,qar ra,qar rb,k _ H B (.refl le bt) m qdq⟩
 ·cases e; exact .inr ⟨_,_,qaJ ra,qaJ rb,k _ H B (.refl le bt) m qdq⟩
 ·cases e
theorem qst:Pl gLt:=fun a b c e=>by unfold gLt at e; split at e<;>cases e
theorem qdp:OpR X (compareOp .LtE) (fun x y H Q=>rI0 (fun i j=>.bl (decide (i≤j))) x y H Q∨∃i j,x= .str i∧y= .str j∧Q (.bl (!decide (j.cps.toList<i.cps.toList))) H):=qhw.or qeL
theorem qhi:RS M (fun x y H Q=>rI0 (fun i j=>.bl (decide (i≤j))) x y H Q∨∃i j,x= .str i∧y= .str j∧Q (.bl (!decide (j.cps.toList<i.cps.toList))) H) gLe:=by
 intro H B x y a b c Q le bt m ra rb e k
 unfold gLe at e
 split at e
 ·cases e; exact .inl ⟨_,_,qar ra,qar rb,k _ H B (.refl le bt) m qdq⟩
 ·cases e; exact .inr ⟨_,_,qaJ ra,qaJ rb,k _ H B (.refl le bt) m qdq⟩
 ·cases e
theorem qhs:Pl gLe:=fun a b c e=>by unfold gLe at e; split at e<;>cases e
theorem qso:RS M (rI0 fun i j=>.bl (decide (j<i))) gGt:=by
 intro H B x y a b c Q le bt m ra rb e k
 unfold gGt at e
 split at e
 ·cases e; exact ⟨_,_,qar ra,qar rb,k _ H B (.refl le bt) m qdq⟩
 ·cases e
theorem qsu:Pl gGt:=fun a b c e=>by unfold gGt at e; split at e<;>cases e
theorem qsp:RS M (rI0 fun i j=>.bl (decide (j≤i))) gGe:=by
 intro H B x y a b c Q le bt m ra rb e k
 unfold gGe at e
 split at e
 ·cases e; exact ⟨_,_,qar ra,qar rb,k _ H B (.refl le bt) m qdq⟩
 ·cases e
theorem qsv:Pl gGe:=fun a b c e=>by unfold gGe at e; split at e<;>cases e
def qrx (K:PySem.W.Frag) (neg:Bool):R2:=fun x y H Q=> ∃B t u,Le B H∧Rep K B t x∧Rep K B u y∧okT 8 t=true∧okT 8 u=true∧Q (.bl (if neg then !eqT t u else eqT t u)) H
theorem qfk (hu:X.A.units+8<cLine):OpR X (compareOp .Eq) (qrx X.K false):=by
 intro pins s σ H x y v u Q I rx ry hq181
 obtain ⟨B,t,u',le,ra,rb,o1,o2,q⟩:=hq181
 exact (qnV I le 8 X.A t u' x y v u o1 o2 hu ra rb rx ry).1 _ _ _ _ ⟨.bl _,H,I,rfl,q⟩
theorem op_neT (hu:X.A.units+8<cLine):OpR X (compareOp .NotEq) (qrx X.K true):=by
 intro pins s σ H x y v u Q I rx ry hq184
 obtain ⟨B,t,u',le,ra,rb,o1,o2,q⟩:=hq184
 exact (qnV I le 8 X.A t u' x y v u o1 o2 hu ra rb rx ry).2 _ _ _ _ ⟨.bl _,H,I,rfl,q⟩
theorem qjk (hK:X.K=M.K:=by rfl):RS M (qrx X.K false) gEq:=by
 intro H B x y a b c Q le bt m ra rb e k
 unfold gEq at e
 split at e
 ·rename_i h
  cases e
  exact ⟨B,a,b,le,by rw[hK]; exact ra,by rw[hK]; exact rb,h.1,h.2,k _ H B (.refl le bt) m qdq⟩
 ·cases e
theorem qjr:Pl gEq:=fun a b c e=>by unfold gEq at e; split at e<;>cases e
theorem qhh (hK:X.K=M.K:=by rfl):RS M (qrx X.K true) gNe:=by
 intro H B x y a b c Q le bt m ra rb e k
 unfold gNe at e
 split at e
 ·rename_i h
  cases e
  exact ⟨B,a,b,le,by rw[hK]; exact ra,by rw[hK]; exact rb,h.1,h.2,k _ H B (.refl le bt) m qdq⟩
 ·cases e
theorem qhr:Pl gNe:=fun a b c e=>by unfold gNe at e; split at e<;>cases e
theorem qim {K:PySem.W.Frag} {B:Hp} {ts:List T} {vs:List V} {k:Int} {t:T} (r:qaP K B ts vs) (e:atI ts k=some t): ∃v,atI vs k=some v∧Rep K B t v:=by
 unfold atI at e⊢
 rw[r.length]
 cases q:ixN ts.length k with
 | none=>rw[q] at e; cases e
 | some j=>rw[q] at e; exact r.get e
theorem qcC (hK:X.K=M.K:=by rfl):RS M (rIx X.K) gIx:=by
 intro H B x y a b c Q le bt m ra rb e k
 unfold gIx at e
 split at e
 ·split at e
  ·rename_i ts i t et
   cases e
   obtain ⟨p,vs,rfl,hp,r⟩:=qbK ra
   obtain ⟨v,ev,rv⟩:=qim r et
   exact .inl ⟨p,vs,_,v,rfl,qar rb,SqL.of (le _ _ hp),ev,k _ H B (.refl le bt) m rv⟩
  ·cases e
 ·split at e
  ·rename_i ts i t et
   cases e
   obtain ⟨p,vs,rfl,hp,r⟩:=qbn ra
   obtain ⟨v,ev,rv⟩:=qim r et
   exact .inr (.inl ⟨p,vs,_,v,rfl,qar rb,by rw[hK]; exact le.sqT hp,ev,k _ H B (.refl le bt) m rv⟩)
  ·cases e
 ·split at e
  ·rename_i hz
   split at e
   ·rename_i ch ec
    cases e
    exact .inr (.inr ⟨_,_,ch,qaJ ra,qar rb,Nat.le_of_lt (qaQ hz),ec,k _ H B (.refl le bt) m qgx⟩)
   ·cases e
  ·cases e
 ·cases e
theorem qcD:Pl gIx:=fun a b c e=>by
 unfold gIx at e
 split at e
 ·split at e<;>cases e
 ·split at e<;>cases e
 ·split at e
  ·split at e<;>cases e
  ·cases e
 ·cases e
end
end PL
end
section
namespace PL
open PySem L2
theorem PO.weak {X:Cx} {e:Option Expr} {t t':TO} (h:PO X e t) (w: ∀σ H Q,t' σ H Q→t σ H Q):PO X e t':=fun pins s σ H Q I q=>h pins s σ H Q I (w σ H Q q)
def qoq (M:Md) (H B:Hp) (q:Bool×List T) (p:Addr) (vs:List V):Prop:=if q.1=true then H p=some (.lst vs) else SqT M.K B p vs
theorem qoq.seq {M:Md} {X:Cx} {H B:Hp} {q:Bool×List T} {p:Addr} {vs:List V} (h:qoq M H B q p vs) (le:Le B H) (hK:X.K=M.K):SqL X.K H p vs∨SqT X.K H p vs:=by
 unfold qoq at h
 split at h
 ·exact .inl (SqL.of h)
 ·exact .inr (by rw[hK]; exact le.sqT h)
section
variable {M:Md} {X:Cx} {e a b:Expr} {pos p2:Pos} {da db:Ro→Rs T} {dq:Ro→Rs (Bool×List T)} {lo hi:Option Expr} {dl dh:Ro→Rs (Option Int)}
def dCQ (g:Bool×List T→Rs T) (dq:Ro→Rs (Bool×List T)):Ro→Rs T:=fun ρ=>dq ρ>>=g
def qcv (g:Bool×List T→Rs (List T)) (dq:Ro→Rs (Bool×List T)):Ro→Rs (List T):=fun ρ=>dq ρ>>=g
theorem qoh {r:List V→Hp→VK→Prop} {g:Bool×List T→Rs T} (h:PE X e (tCB r (qdm (tQ M dq) qj1)))
  (hs: ∀(H B:Hp) (p:Addr) (vs:List V) (q:Bool×List T) (c:T) (Q:VK),Le B H→(∀a ps,B a≠some (.tbl ps))→M.G.P H→qoq M H B q p vs→qaP M.K B q.2 vs→g q= .ok c→(∀v H' B',qbJ H B H' B'→M.G.P H'→Rep M.K B' c v→Q v H')→r [.ref p] H Q)
  (hp: ∀q c,g q≠.ex c):DE M X e (dCQ g dq):=by
 refine PE.weak h fun σ H Q hq30=> ?_
 obtain ⟨H0,B0,ρ,B,ev,w⟩:=hq30
 refine tQ.of ev (Wnt.mono (Wnt.bind (qaG.mp w)) fun q w1 p vs H1 B1 g1 m1 hq r1=> ?_)
 have ev1:=ev.grow g1 m1
 cases z:g q with
 | no=>rw[z] at w1; exact w1.elim
 | ex c=>exact absurd z (hp q c)
 | ok c=>
  rw[z] at w1
  exact hs H1 B1 p vs q c Q ev1.bh ev1.bt m1 hq r1 z fun v H' B' g' m' r'=>w1 v H' B' (g1.trans g') m' r'
theorem qra {r:List V→Hp→VK→Prop} {g:Bool×List T→Rs (List T)} (h:PE X e (tCB r (qdm (tQ M dq) qj1)))
  (hs: ∀(H B:Hp) (p:Addr) (vs:List V) (q:Bool×List T) (c:List T) (Q:VK),Le B H→(∀a ps,B a≠some (.tbl ps))→M.G.P H→qoq M H B q p vs→qaP M.K B q.2 vs→g q= .ok c→(∀p' ws H' B',qbJ H B H' B'→M.G.P H'→H p'=none→B' p'=none→H' p'=some (.lst ws)→qaP M.K B' c ws→Q (.ref p') H')→r [.ref p] H Q)
  (hp: ∀q c,g q≠.ex c):DF M X e (qcv g dq):=by
 refine PE.weak h fun σ H Q hq42=> ?_
 obtain ⟨H0,B0,ρ,B,ev,w⟩:=hq42
 refine tQ.of ev (Wnt.mono (Wnt.bind (qcp.mp w)) fun q w1 p vs H1 B1 g1 m1 hq r1=> ?_)
 have ev1:=ev.grow g1 m1
 cases z:g q with
 | no=>rw[z] at w1; exact w1.elim
 | ex c=>exact absurd z (hp q c)
 | ok c=>
  rw[z] at w1
  exact hs H1 B1 p vs q c Q ev1.bh ev1.bt m1 hq r1 z fun p' ws H' B' g' m' n1 n2 n3 r'=>w1 p' ws H' B' (g1.trans g') m' (none_of g1.gx n1) n2 n3 r'
theorem qdJ {H B:Hp} {p:Addr} {ws:List V} (le:Le B H) (bt: ∀a ps,B a≠some (.tbl ps)) (m:M.G.P H) (hp:H p=none):qbJ H B (upd H p (.lst ws)) B∧M.G.P (upd H p (.lst ws))∧B p=none:=
 ⟨.own le bt hp,M.G.st H _ (fun a o e _ _ _ _=>by rw[qae (qak e hp)]; exact e) m,by
  cases q:B p with
  | none=>rfl
  | some u=>rw[le _ _ q] at hp; cases hp⟩
def qd8:Bool×List T→Rs T:=fun q=>.ok (.int q.2.length)
def qbd:Bool×List T→Rs (List T):=fun q=>.ok q.2
def qbc:Bool×List T→Rs T:=fun q=>if q.1=true then .ok (.tup q.2) else .no
def qrE (dp dq:Ro→Rs (Bool×List T)):Ro→Rs (List T):=fun ρ=>dp ρ>>=fun x=>dq ρ>>=fun y=>if (x.1=true∧y.1=true)∧x.2.length+y.2.length≤1000 then .ok (x.2++y.2) else .no
theorem qq9 {dp:Ro→Rs (Bool×List T)} (ha:DQ M X a dp) (hb:DQ M X b dq):DF M X (.BinOp a .Add b pos) (qrE dp dq):=by
 refine PE.weak (qcE qkT ha hb) fun σ H Q hq81=> ?_
 obtain ⟨H0,B0,ρ,B,ev,w⟩:=hq81
 refine tQ.of ev (Wnt.mono (Wnt.bind (qcp.mp w)) fun x w1 p vs H1 B1 g1 m1 hx r1=> ?_)
 have ev1:=ev.grow g1 m1
 refine tQ.of ev1 (Wnt.mono (Wnt.bind w1) fun y w2 p' vs' H2 B2 g2 m2 hy r2=> ?_)
 have ev2:=ev1.grow g2 m2
 split at w2
 ·rename_i hc
  rw[if_pos hc.1.1] at hx
  rw[if_pos hc.1.2] at hy
  refine ⟨p,p',vs,vs',rfl,rfl,g2.gx.hh _ _ hx (by intro ps z; cases z),hy,Nat.le_of_lt (qaQ (by rw[r1.length,r2.length]; exact hc.2)),fun l hl=> ?_⟩
  obtain ⟨g,m',bp⟩:=qdJ (M:=M) (ws:=vs++vs') ev2.bh ev2.bt m2 hl
  exact w2 l _ _ B2 ((g1.trans g2).trans g) m' (none_of (g1.trans g2).gx hl) bp qag ((r1.mono g2.bb).append r2)
 ·exact w2.elim
def ixQ (q:Bool×List T):T→Rs T
 | .int k=>(match atI q.2 k with | some t=>.ok t | none=>.no)
 | _=>.no
def qeb (dq:Ro→Rs (Bool×List T)) (db:Ro→Rs T):Ro→Rs T:=fun ρ=>dq ρ>>=fun q=>db ρ>>=fun k=>ixQ q k
def tPO (M:Md) (d:Ro→Rs (Option Int)):TO:=fun σ H Q=> ∃H0 B0 ρ B,Ev M H0 B0 ρ σ H B∧Wnt M H0 (fun o=> ∀H' B',qbJ H B H' B'→M.G.P H'→Q o H') (d ρ)
abbrev DO (M:Md) (X:Cx) (e:Option Expr) (d:Ro→Rs (Option Int)):Prop:=PO X e (tPO M d)
def dON:Ro→Rs (Option Int):=fun _=>.ok none
def dOS (da:Ro→Rs T):Ro→Rs (Option Int):=fun ρ=>da ρ>>=fun t=>match t with | .int i=>.ok (some i) | _=>.no
theorem qf1:DO M X none dON:=PO.weak qhq fun σ H Q ⟨H0,B0,ρ,B,ev,w⟩=>w H B (.refl ev.bh ev.bt) ev.gm
theorem qf0 (h:DE M X e da):DO M X (some e) (dOS da):=PO.weak (qhp h) fun σ H Q ⟨H0,B0,ρ,B,ev,w⟩=>tP.of ev (Wnt.mono (Wnt.bind w) fun t w1 v H1 B1 g1 m1 r1=>by
 cases t with
 | int i=>exact ⟨i,qar r1,w1 H1 B1 g1 m1⟩
 | _=>exact w1.elim)
def qpZ (ts:List T) (lo hi:Option Int):List T:=(ts.drop (HT.sIx ts.length 0 lo)).take (HT.sIx ts.length ts.length hi - HT.sIx ts.length 0 lo)
theorem qik {K:PySem.W.Frag} {B:Hp} {ts:List T} {vs:List V} (r:qaP K B ts vs) (lo hi:Option Int):qaP K B (qpZ ts lo hi) (qf4 vs lo hi):=by
 unfold qpZ qf4
 rw[r.length]
 exact (r.drop _).take _
def qdu (dq:Ro→Rs (Bool×List T)) (dl dh:Ro→Rs (Option Int)):Ro→Rs (List T):=fun ρ=>dq ρ>>=fun q=>dl ρ>>=fun l=>dh ρ>>=fun h=>if q.1=true then .ok (qpZ q.2 l h) else .no
theorem qnq (ha:DQ M X a dq) (hl:DO M X lo dl) (hh:DO M X hi dh):DF M X (.Subscript a (.Slice lo hi none p2) pos) (qdu dq dl dh):=by
 refine PE.weak (qew qkg ha hl hh) fun σ H Q hq136=> ?_
 obtain ⟨H0,B0,ρ,B,ev,w⟩:=hq136
 refine tQ.of ev (Wnt.mono (Wnt.bind (qcp.mp w)) fun q w1 p vs H1 B1 g1 m1 hx r1=> ?_)
 have ev1:=ev.grow g1 m1
 refine ⟨H0,B0,ρ,B1,ev1,Wnt.mono (Wnt.bind w1) fun l w2 H2 B2 g2 m2=> ?_⟩
 have ev2:=ev1.grow g2 m2
 refine ⟨H0,B0,ρ,B2,ev2,Wnt.mono (Wnt.bind w2) fun h w3 H3 B3 g3 m3=> ?_⟩
 have ev3:=ev2.grow g3 m3
 split at w3
 ·rename_i hc
  rw[if_pos hc] at hx
  refine ⟨p,vs,rfl,SqL.of (g3.gx.hh _ _ (g2.gx.hh _ _ hx (by intro ps z; cases z)) (by intro ps z; cases z)),fun d hd=> ?_⟩
  obtain ⟨g,m',bp⟩:=qdJ (M:=M) (ws:=qf4 vs l h) ev3.bh ev3.bt m3 hd
  have gg:=(g1.trans g2).trans g3
  exact w3 d _ _ B3 (gg.trans g) m' (none_of gg.gx hd) bp qag (qik ((r1.mono g2.bb).mono g3.bb) l h)
 ·exact w3.elim
def qtv (M:Md) (K:PySem.W.Frag) (neg:Bool):R2:=fun x y H Q=> ∃B t p vs ts,Le B H∧Rep K B t x∧y= .ref p∧(H p=some (.lst vs)∨SqT K H p vs)∧qaP K B ts vs∧okT 7 t=true∧ts.all (okT 7)=true∧Q (.bl (if neg then !ts.any (fun u=>eqT u t) else ts.any (fun u=>eqT u t))) H
open SeqAt in
theorem qiN {pins:List (Addr×Obj)} {σ:St} {H B:Hp} {s:Shared} (hu:X.A.units+8<cLine) (I:Inv X pins σ H s) (le:Le B H) {t:T} {x:V} {v:Value} {ts:List T} {vs:List V} {is:List Value} (ra:Rep X.K B t x) (rx:RelV x v) (ot:okT 7 t=true) (ots:ts.all (okT 7)=true) (rs:qaP X.K B ts vs) (rv:Vals vs is):
  ∃e:Value→Bool,(∀y,y∈is.toArray→EqAt X.A.in1 s y v (e y))∧is.toArray.any e=ts.any (fun u=>eqT u t):=by
 have l1:=rv.length
 have l2:=rs.length
 have at_: ∀(j:Nat) (h:j<is.toArray.size),EqAt X.A.in1 s is.toArray[j] v (eqT (ts.getD j .non) t):=fun j h=>by
  have hj:j<ts.length:=by simp at h; lia
  exact qiU I le 7 7 X.A.in1 _ _ _ _ _ _ (qbL ots hj) ot (by show X.A.units+1+7<cLine; lia) (rs.getD j hj) ra (RH.valsArr rv h) rx
 have one: ∀(j k:Nat) (h:j<is.toArray.size) (h':k<is.toArray.size),is.toArray[j]=is.toArray[k]→ts.getD j .non=ts.getD k .non:=fun j k h h' e=>by
  have hj:j<ts.length:=by simp at h; lia
  have hk:k<ts.length:=by simp at h'; lia
  have r1:=RH.valsArr rv h
  have r2:=RH.valsArr rv h'
  rw[←e] at r2
  have:=r1.inj r2
  refine qeI I le 7 7 _ _ _ (qbL ots hj) (qbL ots hk) (rs.getD j hj) ?_
  rw[this]
  exact rs.getD k hk
 classical
 refine ⟨fun y=>decide (∃(j:Nat) (h:j<is.toArray.size),is.toArray[j]=y∧eqT (ts.getD j .non) t=true),fun y hy=> ?_,?_⟩
 ·obtain ⟨j,hj,rfl⟩:=Array.mem_iff_getElem.mp hy
  have q:=at_ j hj
  cases z:eqT (ts.getD j .non) t with
  | true=>
   rw[z] at q
   show EqAt X.A.in1 s is.toArray[j] v (decide (∃(j':Nat) (h:j'<is.toArray.size),is.toArray[j']=is.toArray[j]∧eqT (ts.getD j' .non) t=true))
   rw[decide_eq_true ⟨j,hj,rfl,z⟩]
   exact q
  | false=>
   rw[z] at q
   show EqAt X.A.in1 s is.toArray[j] v (decide (∃(j':Nat) (h:j'<is.toArray.size),is.toArray[j']=is.toArray[j]∧eqT (ts.getD j' .non) t=true))
   rw[decide_eq_false (fun ⟨k,hk,e,ek⟩=>by rw[one k j hk hj e,z] at ek; cases ek)]
   exact q
 ·rw[Bool.eq_iff_iff,Array.any_eq_true,List.any_eq_true]
  constructor
  ·rintro ⟨j,hj,e⟩
   obtain ⟨k,hk,ek,et⟩:=of_decide_eq_true e
   have hk':k<ts.length:=by simp at hk; lia
   refine ⟨ts.getD k .non,?_,et⟩
   rw[List.getD_eq_getElem?_getD,List.getElem?_eq_getElem hk']
   exact List.getElem_mem hk'
  ·rintro ⟨u,hm,eu⟩
   obtain ⟨j,hj,rfl⟩:=List.mem_iff_getElem.mp hm
   have hj':j<is.toArray.size:=by simp; lia
   refine ⟨j,hj',decide_eq_true ⟨j,hj',rfl,?_⟩⟩
   rw[List.getD_eq_getElem?_getD,List.getElem?_eq_getElem hj]
   exact eu
theorem qkR (hu:X.A.units+8<cLine):OpR X (compareOp .NotIn) (qtv M X.K true):=by
 intro pins s σ H x y v u Q I rx ry hq212
 obtain ⟨B,t,p,vs,ts,le,ra,ey,hp,rs,o1,o2,q⟩:=hq212
 subst ey
 cases ry
 rcases hp with hp | hp
 ·obtain ⟨is,rv,pl,_⟩:=I.list (SqL.of hp)
  obtain ⟨e,h1,h2⟩:=qiN hu I le ra rx o1 o2 rs rv
  exact SeqAt.notIn_listAt e pl.isList h1 (by rw[h2]; exact ⟨.bl _,H,I,rfl,q⟩)
 ·obtain ⟨is,rv,pl,_⟩:=I.tuple hp
  obtain ⟨e,h1,h2⟩:=qiN hu I le ra rx o1 o2 rs rv
  exact SeqAt.notIn_tupleAt e pl h1 (by rw[h2]; exact ⟨.bl _,H,I,rfl,q⟩)
def qds (neg:Bool) (t:T) (q:Bool×List T):Rs T:=if okT 7 t=true∧q.2.all (okT 7)=true then .ok (.bl (if neg then !q.2.any (fun u=>eqT u t) else q.2.any (fun u=>eqT u t))) else .no
def dIn (neg:Bool) (da:Ro→Rs T) (dq:Ro→Rs (Bool×List T)):Ro→Rs T:=fun ρ=>da ρ>>=fun t=>dq ρ>>=fun q=>qds neg t q
theorem qpd {neg:Bool} (hK:X.K=M.K) {σ:St} {H:Hp} {Q:VK} (h:tP M (dIn neg da dq) σ H Q):tOp (qtv M X.K neg) (tP M da) (tQ M dq) σ H Q:=by
 obtain ⟨H0,B0,ρ,B,ev,w⟩:=h
 refine tP.of ev (Wnt.mono (Wnt.bind (qaG.mp w)) fun t w1 v H1 B1 g1 m1 r1=> ?_)
 have ev1:=ev.grow g1 m1
 refine tQ.of ev1 (Wnt.mono (Wnt.bind w1) fun q w2 p vs H2 B2 g2 m2 hq r2=> ?_)
 have ev2:=ev1.grow g2 m2
 unfold qds at w2
 split at w2
 ·rename_i hc
  refine ⟨B2,t,p,vs,q.2,ev2.bh,by rw[hK]; exact r1.mono g2.bb,rfl,?_,by rw[hK]; exact r2,hc.1,hc.2,w2 _ H2 B2 (g1.trans g2) m2 qdq⟩
  split at hq
  ·exact .inl hq
  ·exact .inr (by rw[hK]; exact ev2.bh.sqT hq)
 ·exact w2.elim
theorem qnm (hu:X.A.units+8<cLine) (ha:DE M X a da) (hb:DQ M X b dq) (hm:behindInMarks .NotIn b=false:=by rfl) (hK:X.K=M.K:=by rfl):DT M X (.Compare a [.NotIn] [b] pos) (dTB (dIn true da dq)):=
 PT.weak (qcz (qkR (M:=M) hu) ha hb hm) fun _ _ _ h=>qpd hK (qfA h)
end
end PL
end
section
namespace SetL
open PySem
def Ri (xs:Array Nat):Prop:=xs.toList.Pairwise (· < ·)
theorem Ri.lt {xs:Array Nat} (h:Ri xs) {i j:Nat} (hij:i<j) (hj:j<xs.size):xs.getD i 0<xs.getD j 0:=by
 have:=List.pairwise_iff_getElem.mp h i j (by rw[Array.length_toList]; lia) (by rw[Array.length_toList]; lia) hij
 simpa [Array.getD,hj,show i<xs.size by lia] using this
theorem qpe {xs:Array Nat} {j:Nat} (h:Ri xs): ∀(fuel lo hi:Nat),lo≤hi→hi≤xs.size→hi - lo≤fuel→(∀i,i<lo→xs.getD i 0<j)→(∀i,hi≤i→i<xs.size→j≤xs.getD i 0)→
  SetTable.below.go xs j fuel lo hi≤xs.size∧(∀i,i<SetTable.below.go xs j fuel lo hi→xs.getD i 0<j)∧∀i,SetTable.below.go xs j fuel lo hi≤i→i<xs.size→j≤xs.getD i 0
 | 0,lo,hi,h1,h2,h3,a,b=>by
  unfold SetTable.below.go
  exact ⟨by lia,a,fun i hi'=>b i (by lia)⟩
 | fuel+1,lo,hi,h1,h2,h3,a,b=>by
  unfold SetTable.below.go
  by_cases c:lo<hi
  ·rw[if_pos c]
   dsimp only
   have hm:(lo+hi) / 2<xs.size:=by lia
   have em:xs.getD ((lo+hi) / 2) j=xs.getD ((lo+hi) / 2) 0:=by simp[Array.getD,hm]
   rw[em]
   by_cases d:xs.getD ((lo+hi) / 2) 0<j
   ·rw[if_pos d]
    refine qpe h fuel _ _ (by lia) h2 (by lia) (fun i hi'=> ?_) b
    by_cases e:i=(lo+hi) / 2
    ·rw[e]; exact d
    ·have:=h.lt (i:=i) (j:=(lo+hi) / 2) (by lia) hm
     lia
   ·rw[if_neg d]
    refine qpe h fuel _ _ (by lia) (by lia) (by lia) a fun i hi' hs=> ?_
    by_cases e:i=(lo+hi) / 2
    ·rw[e]; lia
    ·have:=h.lt (i:=(lo+hi) / 2) (j:=i) (by lia) hs
     lia
  ·rw[if_neg c]
   exact ⟨by lia,a,fun i hi'=>b i (by lia)⟩
theorem qf6 {xs:Array Nat} (h:Ri xs) (j:Nat):SetTable.below xs j≤xs.size∧(∀i,i<SetTable.below xs j→xs.getD i 0<j)∧∀i,SetTable.below xs j≤i→i<xs.size→j≤xs.getD i 0:=
 qpe h _ _ _ (Nat.zero_le _) (Nat.le_refl _) (by lia) (fun i hi=>absurd hi (Nat.not_lt_zero _)) fun i hi hs=>absurd hs (by lia)
theorem qjU {xs:Array Nat} (h:Ri xs) {i:Nat} (hi:i<xs.size):SetTable.below xs (xs.getD i 0+1)=i+1:=by
 obtain ⟨b1,b2,b3⟩:=qf6 h (xs.getD i 0+1)
 rcases Nat.lt_trichotomy (SetTable.below xs (xs.getD i 0+1)) (i+1) with c | c | c
 ·have:=b3 i (by lia) hi; lia
 ·exact c
 ·have:=b2 (i+1) c
  have:=h.lt (i:=i) (j:=i+1) (by lia) (by lia)
  lia
theorem qjT {xs:Array Nat} (h:Ri xs):SetTable.below xs 0=0:=by
 obtain ⟨b1,b2,b3⟩:=qf6 h 0
 by_cases c:SetTable.below xs 0=0
 ·exact c
 ·have:=b2 0 (by lia); lia
theorem qhN {α:Type} (xs:Array α) (p:Nat) (x:α) (hp:p≤xs.size):(SetTable.insertAt xs p x).toList=xs.toList.take p++x::xs.toList.drop p:=by
 unfold SetTable.insertAt
 rw[Array.toList_append,Array.toList_push,Array.toList_extract,Array.toList_extract]
 simp[List.extract_eq_drop_take]
 exact List.take_of_length_le (by rw[List.length_drop,Array.length_toList]; exact Nat.le_refl _)
theorem qlo {xs:Array Nat} (h:Ri xs) {j:Nat} (hn:xs[SetTable.below xs j]? ≠some j):Ri (SetTable.insertAt xs (SetTable.below xs j) j):=by
 obtain ⟨b1,b2,b3⟩:=qf6 h j
 unfold Ri
 rw[qhN _ _ _ b1]
 have g: ∀{i:Nat} (hi:i<xs.toList.length),xs.toList[i]=xs.getD i 0:=fun {i} hi=>by
  have:i<xs.size:=by rw[Array.length_toList] at hi; exact hi
  simp[Array.getD,this]
 have gt: ∀i,SetTable.below xs j≤i→i<xs.size→j<xs.getD i 0:=fun i h1 h2=>by
  have e0:=b3 i h1 h2
  by_cases c:i=SetTable.below xs j
  ·have:xs[SetTable.below xs j]? =some (xs.getD (SetTable.below xs j) 0):=by
    have hs:SetTable.below xs j<xs.size:=by lia
    simp[Array.getD,hs]
   rw[this] at hn
   subst c
   have:xs.getD (SetTable.below xs j) 0≠j:=fun z=>hn (by rw[z])
   lia
  ·have e1:=b3 (SetTable.below xs j) (Nat.le_refl _) (by lia)
   have:=h.lt (i:=SetTable.below xs j) (j:=i) (by lia) h2
   lia
 refine List.pairwise_append.mpr ⟨List.Pairwise.sublist (List.take_sublist _ _) h,List.pairwise_cons.mpr ⟨fun y hy=> ?_,List.Pairwise.sublist (List.drop_sublist _ _) h⟩,fun x hx y hy=> ?_⟩
 ·obtain ⟨k,hk,rfl⟩:=List.mem_iff_getElem.mp hy
  rw[List.getElem_drop,g]
  rw[List.length_drop,Array.length_toList] at hk
  exact gt _ (by lia) (by lia)
 ·obtain ⟨k,hk,rfl⟩:=List.mem_iff_getElem.mp hx
  rw[List.getElem_take,g]
  rw[List.length_take] at hk
  have a:=b2 k (by lia)
  rcases List.mem_cons.mp hy with z | z
  ·rw[z]; exact a
  ·obtain ⟨m,hm,rfl⟩:=List.mem_iff_getElem.mp z
   rw[List.getElem_drop,g]
   rw[List.length_drop,Array.length_toList] at hm
   have:=gt (SetTable.below xs j+m) (by lia) (by lia)
   lia
theorem qmz (n:Nat):Ri (Array.range n):=by
 unfold Ri
 rw[Array.toList_range]
 exact List.pairwise_lt_range
def qe1 (t:SetTable):Prop:=Ri t.place∧t.dummies= #[]
theorem qjw (a b:Nat) (l:Bool):qe1 (.fresh a b l):=⟨List.Pairwise.nil,rfl⟩
theorem qc8 (t:SetTable) (n:Nat):qe1 (t.standIn n):=⟨qmz n,rfl⟩
theorem qjv {t:SetTable} (h:qe1 t) (b:Bool):qe1 { t with plain:=b }:=h
theorem qls (j:Nat):SetTable.has #[] j=false:=rfl
theorem qkf {t:SetTable} (h:qe1 t) (j:Nat):t.slot j≠.dummy:=by
 unfold SetTable.slot
 dsimp only
 rw[h.2,qls]
 split
 ·intro z; cases z
 ·rw[if_neg (by decide)]; intro z; cases z
theorem qip {t:SetTable} (h:qe1 t) (ha:Nat→Int) (x:Int): ∀(fuel:Nat) (p:SetTable.Probe) (j:Nat) (d:Option Nat),p.dummy=none→SetTable.probe.go t ha x fuel p=some (.empty j d)→d=none∧t.slot j= .empty
 | 0,p,j,d,hp,e=>by unfold SetTable.probe.go at e; cases e
 | fuel+1,p,j,d,hp,e=>by
  have adv:(t.advance p).dummy=none:=by
   unfold SetTable.advance
   split
   ·exact hp
   ·exact hp
  unfold SetTable.probe.go at e
  split at e
  ·rename_i es
   cases e
   exact ⟨hp,es⟩
  ·rename_i es
   exact absurd es (qkf h _)
  ·split at e
   ·cases e
   ·exact qip h ha x fuel _ j d adv e
theorem qji {t:SetTable} {j:Nat} (h:t.slot j= .empty):t.place[SetTable.below t.place j]? ≠some j:=by
 intro z
 unfold SetTable.slot at h
 dsimp only at h
 rw[z,if_pos (by simp)] at h
 cases h
theorem qmO {t:SetTable} (h:qe1 t) {j:Nat} (hj:t.slot j= .empty):qe1 (t.put j).1:=by
 unfold SetTable.put
 refine ⟨qlo h.1 (qji hj),?_⟩
 show (if SetTable.has t.dummies j=true then _ else t.dummies)= #[]
 rw[h.2,qls,if_neg (by decide)]
theorem qgB {t:SetTable} (h:qe1 t) (n:Nat):qe1 (t.orStandIn n):=by
 unfold SetTable.orStandIn
 split
 ·exact h
 ·exact qc8 _ _
theorem qmU {t:SetTable} (h:qe1 t) (es:Array (Int×Value)) (x:Int) (v:Value):qe1 (layNew t es x v).2.1:=by
 unfold layNew
 split
 ·rename_i slot wd e
  unfold SetTable.freeSlot at e
  split at e
  ·rename_i j d e2
   obtain ⟨rfl,e3⟩:=qip h _ _ _ _ j d rfl e2
   cases e
   exact qgB (qmO h e3) _
  ·cases e
 ·exact qc8 _ _
theorem qiJ (ow:Array (Option Nat)): ∀l:List Nat,l.Pairwise (· < ·)→((l.filterMap fun j=>(ow.getD j none).map (j, ·)).map (·.1)).Pairwise (· < ·)∧∀x∈((l.filterMap fun j=>(ow.getD j none).map (j, ·)).map (·.1)),x∈l
 | [],_=>⟨List.Pairwise.nil,fun _ h=>by cases h⟩
 | y::l,h=>by
  have h':=List.pairwise_cons.mp h
  obtain ⟨i1,i2⟩:=qiJ ow l h'.2
  cases e:ow.getD y none with
  | none=>
   rw[List.filterMap_cons,e]
   exact ⟨i1,fun x hx=>List.mem_cons_of_mem _ (i2 x hx)⟩
  | some k=>
   rw[List.filterMap_cons,e]
   dsimp only[Option.map]
   rw[List.map_cons]
   refine ⟨List.pairwise_cons.mpr ⟨fun x hx=>h'.1 x (i2 x hx),i1⟩,fun x hx=> ?_⟩
   rcases List.mem_cons.mp hx with z | z
   ·rw[z]; exact List.mem_cons_self
   ·exact List.mem_cons_of_mem _ (i2 x z)
theorem qhl {t t':SetTable} {hs:Array Int} {n:Nat} {o:Array Nat} (e:t.relaid hs n=some (t',o)):qe1 t':=by
 unfold SetTable.relaid SetTable.laid at e
 cases q:SetTable.layClean (SetTable.sizeAbove n - 1) hs with
 | none=>rw[q] at e; cases e
 | some ow=>
  rw[q] at e
  have e':=Option.some.inj e
  have e1:=(Prod.mk.inj e').1
  subst e1
  exact ⟨(qiJ ow _ List.pairwise_lt_range).1,rfl⟩
theorem qjo (t:SetTable) (es:Array (Int×Value)) (n:Nat):qe1 (relayAll t es n).2.1:=by
 unfold relayAll
 split
 ·rename_i t' o e
  dsimp only
  split
  ·exact qhl e
  ·exact qc8 _ _
 ·exact qc8 _ _
end SetL
end
section
namespace SetL
open PySem
theorem qhv {t:SetTable} {n:Nat}:(t.orStandIn n).led=t.led:=by
 unfold SetTable.orStandIn
 split<;>rfl
theorem qo7 {t:SetTable} {es:Array (Int×Value)} {h:Int} {x:Value}:(layNew t es h x).2.1.led=t.led:=by
 unfold layNew
 split
 ·exact qhv
 ·rfl
theorem qjp {t t':SetTable} {hs:Array Int} {n:Nat} {o:Array Nat} (e:t.relaid hs n=some (t',o)):t'.led=t.led:=by
 unfold SetTable.relaid SetTable.laid at e
 cases q:SetTable.layClean (SetTable.sizeAbove n - 1) hs with
 | none=>rw[q] at e; cases e
 | some ow=>
  rw[q] at e
  have e':=Option.some.inj e
  exact (congrArg (fun p:SetTable×Array Nat=>p.1.led) e').symm
theorem qkz {t:SetTable} {es:Array (Int×Value)} {n:Nat}:(relayAll t es n).2.1.led=t.led:=by
 unfold relayAll
 split
 ·rename_i t' o e
  dsimp only
  split
  ·exact qjp e
  ·rfl
 ·rfl
section
variable {prog:Program} {w:World} {K:Type} [DecidableEq K] (knd:KeyKind prog w K)
def qjb (h:Heap) (a:Addr) (S:K→Bool) (n:Nat):Prop:=
 ∃o es ep t,h.get? a=some o∧o.ExactSet∧o.data= .set es ep t∧ElemsOf knd es.toList∧(∀k,S k=true↔∃e∈es.toList,knd.is k e.2=true)∧es.size<scanBound∧t.fits es.size=true∧es.size=n∧qe1 t∧t.led= !w.params.followText "set-order"
variable {knd} {A:Around} {E:Value→Shared→Prop} {s:Shared}
theorem qjb.keep {h h':Heap} {a:Addr} {S:K→Bool} {n:Nat} (x:qjb knd h a S n) (k: ∀o,h.get? a=some o→h'.get? a=some o):qjb knd h' a S n:=
 let ⟨o,es,ep,t,ho,r⟩:=x
 ⟨o,es,ep,t,k _ ho,r⟩
theorem qly (b:Bool) {s₁:Shared} {Q':Unit→Shared→Prop} (hq:Q' () s₁):wpAny (model prog w) A (match b with | true=>rule "set.scan.the-table-gave-way" | false=>pure ()) Q' E s₁:=by
 cases b with
 | true=>exact wpAny_rule hq
 | false=>exact wpAny_pure hq
theorem qj8 {a:Addr} {o:Obj} {es es':Array (Int×Value)} {ep:Nat} {t t':SetTable} {S':K→Bool} {Q:Unit→Shared→Prop} (ho:s.heap.get? a=some o) (hx:o.ExactSet) (hd:o.data= .set es ep t) (el:ElemsOf knd es'.toList)
  (me: ∀k,S' k=true↔∃e∈es'.toList,knd.is k e.2=true) (hb:es'.size<scanBound) (hf:t'.fits es'.size=true) (hp:qe1 t') (hl:t'.led= !w.params.followText "set-order")
  (h: ∀h',Heap.SameBut a s.heap h'→h'.get? a=some { o with data:=.set es' (ep+1) t' }→qjb knd h' a S' es'.size→Q () { s with heap:=h' }):wpAny (model prog w) A (storeSet a es' t') Q E s:=by
 refine wpAny_storeSet_of ho hd ?_ (fits_of_scanBound hb)
 obtain ⟨g,_⟩:=SetOf_store (knd:=knd) ho hx hd el me hb hf
 exact h _ (Heap.SameBut.update s.heap a _) g ⟨_,es',ep+1,t',g,hx,rfl,el,me,hb,hf,rfl,hp,hl⟩
theorem qta {a:Addr} {S:K→Bool} {n:Nat} {k:K} {x:Value} {Q:Bool→Shared→Prop} (hk:knd.is k x=true) (hsc:x.scannable=true) (hS:qjb knd s.heap a S n) (room:n+1<scanBound)
  (h: ∀h',Heap.SameBut a s.heap h'→qjb knd h' a (fun k'=>S k'||decide (k'=k)) (if S k then n else n+1)→Q (!S k) { s with heap:=h' }):wpAny (model prog w) A (setAddHashed a x (knd.hash k)) Q E s:=by
 obtain ⟨o,es,ep,t,ho,hx,hd,el,me,hb,hf,hn,pl,ld⟩:=hS
 unfold setAddHashed setAddHashedIn
 refine wpAny_holding (wpAny_bind (wpAny_setState_of ho hd hf ?_))
 dsimp only
 rw[byScan_of hsc hb el,if_pos rfl]
 unfold setAddByScan
 refine wpAny_bind (wpAny_bind (wpAny_rule (wpAny_bind (wpAny_setScan_of hk ho hd hf el ?_))))
 cases fr:List.findIdx? (fun e=>knd.is k e.2) es.toList with
 | some j=>
  obtain ⟨hj,pj,_⟩:=List.findIdx?_eq_some_iff_getElem.mp fr
  have Sk:S k=true:=(me k).mpr ⟨_,List.getElem_mem hj,pj⟩
  refine wpAny_pure (wpAny_pure ?_)
  have z:=h s.heap (Heap.SameBut.refl a s.heap) ⟨o,es,ep,t,ho,hx,hd,el,fun k'=> ?_,hb,hf,by rw[if_pos Sk]; exact hn,pl,ld⟩
  ·rw[Sk] at z
   exact z
  ·rw[Bool.or_eq_true,decide_eq_true_eq,←me k']
   exact ⟨fun q=>q.elim id fun e=>by rw[e]; exact Sk,.inl⟩
 | none=>
  have Sk:S k=false:=by
   cases q:S k with
   | false=>rfl
   | true=>
    obtain ⟨e,he,p⟩:=(me k).mp q
    rw[List.findIdx?_eq_none_iff.mp fr e he] at p
    cases p
  have pm:=layNew_perm t es (knd.hash k) x
  have ft:=layNew_fits t es (knd.hash k) x
  have lp:=qmU pl es (knd.hash k) x
  have ll:=qo7 (es:=es) (h:=knd.hash k) (x:=x) (t:=t)
  generalize layNew t es (knd.hash k) x=L at pm ft lp ll⊢
  obtain ⟨es1,t1,wd,gv⟩:=L
  dsimp only at pm ft lp ll⊢
  rw[Array.toList_push] at pm
  have el1:ElemsOf knd es1.toList:=(el.push hk hsc).perm pm
  have me1:=mem_push_iff (S:=S) hk me pm
  have sz:es1.size=n+1:=by rw[←Array.length_toList,pm.length_eq,List.length_append,Array.length_toList,hn]; rfl
  refine wpAny_bind (qly _ ?_)
  have go: ∀t2:SetTable,t2.fits es1.size=true→qe1 t2→t2.led=(!w.params.followText "set-order")→wpAny (model prog w) A (do
    storeSet a es1 t2
    if (!wd&&t2.tooFull)=true then do
     (match (relayAll t2 es1 (SetTable.grown es1.size)).2.2 with | true=>rule "set.scan.the-table-gave-way" | false=>pure ())
     storeSet a (relayAll t2 es1 (SetTable.grown es1.size)).1 (relayAll t2 es1 (SetTable.grown es1.size)).2.1
     pure (some true)
    else pure (some true):Sem (Option Bool)) (fun r s'=> ∃h',s'={ s with heap:=h' }∧r=some true∧Q true { s with heap:=h' }) E s:=fun t2 f2 p2 l2=>by
   refine wpAny_bind (qj8 (knd:=knd) (S':=fun k'=>S k'||decide (k'=k)) ho hx hd el1 me1 (by lia) f2 p2 l2 fun h1 sb g1 S1=> ?_)
   split
   ·have pm2:=relayAll_perm t2 es1 (SetTable.grown es1.size)
    have ft2:=relayAll_fits t2 es1 (SetTable.grown es1.size)
    have rp:=qjo t2 es1 (SetTable.grown es1.size)
    have rl:=qkz (es:=es1) (n:=SetTable.grown es1.size) (t:=t2)
    generalize relayAll t2 es1 (SetTable.grown es1.size)=R at pm2 ft2 rp rl⊢
    obtain ⟨es2,t3,g2⟩:=R
    dsimp only at pm2 ft2 rp rl⊢
    have sz2:es2.size=es1.size:=by rw[←Array.length_toList,pm2.length_eq,Array.length_toList]
    refine wpAny_bind (qly _ (wpAny_bind (qj8 (knd:=knd) (S':=fun k'=>S k'||decide (k'=k)) (s:={ s with heap:=h1 }) g1 hx rfl (el1.perm pm2) (fun k'=>(me1 k').trans ⟨fun ⟨e,he,q⟩=>⟨e,pm2.mem_iff.mpr he,q⟩,fun ⟨e,he,q⟩=>⟨e,pm2.mem_iff.mp he,q⟩⟩) (by lia) ft2 rp (rl.trans l2) fun h2 sb2 _ S2=> ?_)))
    have z:=h h2 (sb.trans sb2) (by rw[Sk,if_neg (by decide)]; rw[sz2,sz] at S2; exact S2)
    rw[Sk] at z
    exact wpAny_pure ⟨h2,rfl,rfl,z⟩
   ·have z:=h h1 sb (by rw[Sk,if_neg (by decide)]; rw[sz] at S1; exact S1)
    rw[Sk] at z
    exact wpAny_pure ⟨h1,rfl,rfl,z⟩
  have both: ∀c:Bool,wpAny (model prog w) A (do
    let t2:SetTable:=if c=true then t1 else { t1 with plain:=false }
    storeSet a es1 t2
    if (!wd&&t2.tooFull)=true then do
     (match (relayAll t2 es1 (SetTable.grown es1.size)).2.2 with | true=>rule "set.scan.the-table-gave-way" | false=>pure ())
     storeSet a (relayAll t2 es1 (SetTable.grown es1.size)).1 (relayAll t2 es1 (SetTable.grown es1.size)).2.1
     pure (some true)
    else pure (some true):Sem (Option Bool)) (fun r s'=> ∃h',s'={ s with heap:=h' }∧r=some true∧Q true { s with heap:=h' }) E s:=fun c=>by
   cases c with
   | true=>exact go t1 ft lp (ll.trans ld)
   | false=>exact go { t1 with plain:=false } (SetTable.fits_plain_off ft) (qjv lp false) (ll.trans ld)
  by_cases tp:t1.plain=true
  ·rw[if_pos tp,hashByValue_scannable 8 hsc]
   refine wpAny_bind (wpAny_pure ?_)
   refine wpAny_mono (both (plainKind x)) (fun r s' ⟨h',e1,e2,q⟩=> ?_) fun _ _ z=>z
   subst e1 e2
   exact wpAny_pure q
  ·rw[if_neg tp]
   refine wpAny_bind (wpAny_pure ?_)
   refine wpAny_mono (both true) (fun r s' ⟨h',e1,e2,q⟩=> ?_) fun _ _ z=>z
   subst e1 e2
   exact wpAny_pure q
end
end SetL
end
section
namespace SetL
open PySem
theorem qlW {M:Model} {A:Around} {E:Value→Shared→Prop} {s:Shared} {src:Source} {n:Nat} {Q:Nat→Shared→Prop} (hn:n≠0) (h: ∀i d,i<n→Q i { s with drawn:=d }):wpAny M A (choose src n) Q E s:=
 fun Γ p hΓ=>⟨hn,h _ _ (Nat.mod_lt _ (Nat.pos_of_ne_zero hn))⟩
theorem qd3 {α:Type}: ∀{xs:List α} {i:Nat} {x:α},xs[i]? =some x→List.Perm (x::xs.eraseIdx i) xs
 | [],i,x,h=>by simp at h
 | y::ys,0,x,h=>by
  simp at h; subst h
  exact List.Perm.refl _
 | y::ys,i+1,x,h=>by
  have:=qd3 (xs:=ys) (i:=i) (x:=x) (by simpa using h)
  exact (List.Perm.swap y x _).trans (this.cons y)
theorem qlF {M:Model} {A:Around} {E:Value→Shared→Prop} {α:Type}: ∀(n:Nat) (xs:List α) (s:Shared) (Q:List α→Shared→Prop),xs.length=n→(∀ys d,List.Perm ys xs→Q ys { s with drawn:=d })→wpAny M A (drawOrder n xs) Q E s
 | 0,xs,s,Q,hl,h=>by
  have e:xs=[]:=List.length_eq_zero_iff.mp hl
  subst e
  exact wpAny_pure (h [] s.drawn (List.Perm.refl _))
 | n+1,[],s,Q,hl,h=>by cases hl
 | n+1,x::xs,s,Q,hl,h=>by
  unfold drawOrder
  refine wpAny_bind (qlW (by simp) fun i d hi=> ?_)
  obtain ⟨y,hy⟩: ∃y,(x::xs)[i]? =some y:=⟨_,List.getElem?_eq_getElem hi⟩
  rw[hy]
  have hp:=qd3 hy
  refine wpAny_bind (qlF n _ _ _ ?_ fun ys d' pm=>wpAny_pure (h (y::ys) d' ((pm.cons y).trans hp)))
  have:=hp.length_eq
  simp only[List.length_cons] at this hl⊢
  lia
theorem qgs {α:Type} (next:Nat→Nat): ∀(fuel k:Nat) (left:List α) (out:Array α),left.length=fuel→List.Perm (pickOrder.go next fuel k left out).toList (out.toList++left)
 | 0,k,left,out,h=>by
  have e:left=[]:=List.length_eq_zero_iff.mp h
  subst e
  simp[pickOrder.go]
 | n+1,k,left,out,h=>by
  unfold pickOrder.go
  have hlt:next k % left.length<left.length:=Nat.mod_lt _ (by lia)
  rw[List.getElem?_eq_getElem hlt]
  dsimp only
  have hp:=qd3 (List.getElem?_eq_getElem hlt)
  have hl:=hp.length_eq
  simp only[List.length_cons] at hl
  refine (qgs next n (k+1) _ _ (by lia)).trans ?_
  rw[Array.toList_push,List.append_assoc]
  exact List.Perm.append_left _ hp
theorem qe5 {α:Type} (next:Nat→Nat) (xs:Array α):List.Perm (pickOrder next xs).toList xs.toList:=by
 unfold pickOrder
 have:=qgs next xs.size 0 xs.toList #[] (by simp)
 simpa using this
def qhM (first:Value) (i:Nat) (a:Addr) (n ep:Nat):Obj:={ cls:=.type "set_iterator",data:=.fields #[first,rawInt i,.ref a,rawInt n,rawInt ep] }
inductive Way (w:World) (h:Heap) (a:Addr) (es:Array (Int×Value)) (ep:Nat) (t:SetTable):List Addr→(Nat→Value)→List Value→Prop
 | drawn {tp:Addr} {ot:Obj} {pl:List Nat} {k:Nat}:h.get? tp=some ot→ot.data= .seq (List.toArray (pl.map fun (i:Nat)=>rawInt i)) k→(∀i∈pl,i<es.size)→Way w h a es ep t [tp] (fun _=>.ref tp) (pl.map fun i=>(es.toList.map (·.2)).getD i .none)
 | text:w.params.followText "set-order" =true→Way w h a es ep t [] (fun _=>rawInt 0) ((pickOrder (w.params.setOrder a ep) es).toList.map (·.2))
 | small:w.params.followText "set-order" =false→(!t.plain&&decide (es.size>1))=false→t.led=true→qe1 t→Way w h a es ep t [] (fun i=>if i=0 then rawInt 0 else rawInt (t.place.getD (i - 1) 0+1:Nat)) (es.toList.map (·.2))
theorem Way.keep {w:World} {h h':Heap} {a:Addr} {es:Array (Int×Value)} {ep:Nat} {t:SetTable} {tl:List Addr} {f:Nat→Value} {vs:List Value} (x:Way w h a es ep t tl f vs) (k: ∀b∈tl,∀o,h.get? b=some o→h'.get? b=some o):Way w h' a es ep t tl f vs:=by
 cases x with
 | drawn e d b=>exact .drawn (k _ (List.mem_singleton.mpr rfl) _ e) d b
 | text e=>exact .text e
 | small e1 e2 e3 e4=>exact .small e1 e2 e3 e4
theorem qdA:Slot "set_iterator" "__next__" "set_iterator.__next__" :=
 .of (owner:= "set_iterator") (n:= "__next__") (by rw[typeLookup_type,builtinLookup_eq_fast]; kernel_rfl) (by decide+kernel) (by decide+kernel)
  (by decide+kernel) (by first | exact .inl (by decide+kernel) | exact .inr (by decide+kernel)) (by rw[isSubtype_type]; kernel_rfl)
theorem qgk:Slot "set_iterator" "__iter__" "set_iterator.__iter__" :=
 .of (owner:= "set_iterator") (n:= "__iter__") (by rw[typeLookup_type,builtinLookup_eq_fast]; kernel_rfl) (by decide+kernel) (by decide+kernel)
  (by decide+kernel) (by first | exact .inl (by decide+kernel) | exact .inr (by decide+kernel)) (by rw[isSubtype_type]; kernel_rfl)
theorem qjK:entryFor table "set_iterator.__next__" =some Builtin.«set_iterator.__next__» :=entryFor_of_fast (by kernel_rfl)
theorem qfX:entryFor table "set.__iter__" =some Builtin.«frozenset.__iter__» :=
 entryFor_alias (id':= "frozenset.__iter__") (by kernel_rfl) rfl (by decide+kernel) (by kernel_rfl)
theorem ql5 (a:Value):argsOk "set_iterator.__next__" ⟨[a],[]⟩:=by
 unfold argsOk; kernel_rfl
section
variable {prog:Program} {w:World} {A:Around} {E:Value→Shared→Prop} {s:Shared}
theorem qhc {Q:Bool→Shared→Prop} (h:Q (w.params.followText "set-order") s):wpAny (model prog w) A setsByText Q E s:=by
 unfold setsByText
 exact wpAny_bind (wpAny_askSetting (wpAny_pure h))
theorem qjL {a:Addr} {o:Obj} {es:Array (Int×Value)} {ep:Nat} {t:SetTable} {Q:Nat→Shared→Prop} (ho:s.heap.get? a=some o) (hd:o.data= .set es ep t) (hf:t.fits es.size=true) (h:Q es.size s):wpAny (model prog w) A (Builtin.Frozenset.sizeOf a) Q E s:=by
 unfold Builtin.Frozenset.sizeOf
 exact wpAny_bind (wpAny_setEntries_of ho hd hf (wpAny_pure h))
theorem qno {a:Addr} {o:Obj} {es:Array (Int×Value)} {ep:Nat} {t:SetTable} {Q:Bool→Shared→Prop} (ho:s.heap.get? a=some o) (hd:o.data= .set es ep t) (hf:t.fits es.size=true) (h:Q (!w.params.followText "set-order" &&(!t.plain&&decide (es.size>1))) s):wpAny (model prog w) A (setDrawn a) Q E s:=by
 unfold setDrawn
 exact wpAny_bind (wpAny_setState_of ho hd hf (wpAny_bind (qhc (wpAny_pure h))))
theorem qm2 {a:Addr} {o:Obj} {es:Array (Int×Value)} {ep:Nat} {t:SetTable} {Q:Value→Shared→Prop} (ho:s.heap.get? a=some o) (hx:o.ExactSet) (hd:o.data= .set es ep t) (hf:t.fits es.size=true) (hb:es.size<scanBound) (pl:qe1 t) (ld:t.led= !w.params.followText "set-order")
  (h: ∀(it:Addr) (h':Heap) (d:Drawn) (tl:List Addr) (f:Nat→Value) (vs:List Value),s.heap.objs.size≤it→(∀b∈tl,s.heap.objs.size≤b∧b≠it)→(∀b u,s.heap.get? b=some u→h'.get? b=some u)→h'.get? it=some (qhM (f 0) 0 a es.size ep)→Way w h' a es ep t tl f vs→List.Perm vs (es.toList.map (·.2))→
   Q (.ref it) { s with heap:=h',drawn:=d }):wpAny (model prog w) A (pyIter (.ref a)) Q E s:=by
 have ty:s.TypeIs (.ref a) "set" :=⟨o,ho,hx.1⟩
 refine wpAny_pyIter_slot ty PySem.F.slot_set_iter (wpAny_call_entry PySem.F.slot_set_iter ty qfX ?_ (PySem.F.args_set_iter_1 _))
 unfold Builtin.«frozenset.__iter__» Builtin.Frozenset.slot0 slotArgs
 refine wpAny_bind (wpAny_pure (wpAny_bind (qjL ho hd hf ?_)))
 refine wpAny_bind (qno ho hd hf ?_)
 have fin: ∀(s1:Shared) (first:Value) (tl:List Addr) (f:Nat→Value) (vs:List Value),s1.gens=s.gens→s1.os=s.os→s1.toks=s.toks→s.heap.objs.size≤s1.heap.objs.size→(∀b u,s.heap.get? b=some u→s1.heap.get? b=some u)→(∀b∈tl,s.heap.objs.size≤b∧b<s1.heap.objs.size)→f 0=first→(∀h',(∀b u,s1.heap.get? b=some u→h'.get? b=some u)→Way w h' a es ep t tl f vs)→List.Perm vs (es.toList.map (·.2))→
   wpAny (model prog w) A.in1 (do ret (←newFields "set_iterator" [first,rawInt 0,.ref a,rawInt (es.size:Nat),rawInt (←setEpoch a)])) (fun r s'=> ∃v,r= .done (.ret v)∧∃(T':String) (r':Value),s'.TypeIs v T'∧typeLookup (.type T') "__next__" =pure (some r')∧Q v s') E s1:=fun s1 first tl f vs e1 e2 e3 sz kp tb ef wy pm=>by
  refine wpAny_bind (wpAny_setEpoch_of (kp _ _ ho) hd hf ?_)
  refine wpAny_bind (wpAny_newObj_type ?_ (by size_fits))
  refine wpAny_pure ⟨_,rfl, "set_iterator",_,⟨_,Heap.get?_push_size _ rfl,rfl⟩,qdA.lookup,?_⟩
  have kp2: ∀b u,s1.heap.get? b=some u→(s1.heap.push (qhM first 0 a es.size ep)).get? b=some u:=fun b u q=>Heap.get?_push_of_some _ q
  have:=h s1.heap.objs.size (s1.heap.push (qhM first 0 a es.size ep)) s1.drawn tl f vs sz (fun b hb=>⟨(tb b hb).1,Nat.ne_of_lt (tb b hb).2⟩) (fun b u q=>kp2 b u (kp b u q)) (by rw[ef]; exact Heap.get?_push_size _ rfl) (wy _ kp2) pm
  obtain ⟨hh,g,d,tk,os⟩:=s1
  dsimp only at e1 e2 e3 this⊢
  subst e1 e2 e3
  exact this
 have hall: ∀{α:Type} (d:α) (l:List α),(List.range l.length).map (fun i=>l.getD i d)=l:=fun d l=>by
  apply List.ext_getElem
  ·simp
  ·intro i h1 h2
   simp[List.getElem?_eq_getElem h2]
 cases bt:w.params.followText "set-order" with
 | true=>
  rw[if_neg (by simp)]
  refine wpAny_bind (wpAny_pure ?_)
  refine fin s (rawInt 0) [] (fun _=>rawInt 0) _ rfl rfl rfl (Nat.le_refl _) (fun _ _ q=>q) (fun b hb=>nomatch hb) rfl (fun h' _=>.text bt) ?_
  exact (qe5 _ _).map _
 | false=>
  by_cases h1:(!t.plain&&decide (es.size>1))=true
  ·rw[if_pos (by rw[h1]; rfl)]
   refine wpAny_bind (qlF es.size (List.range es.size) s _ (by simp) fun ys d pm=> ?_)
   refine wpAny_bind (wpAny_newObj_type ?_ (by
    have:=pm.length_eq
    have h2:scanBound=4096:=rfl
    show (List.toArray (ys.map fun (i:Nat)=>rawInt i)).size≤sizeLine
    rw[List.size_toArray,List.length_map,this,List.length_range,sizeLine_eq]
    lia))
   refine fin _ (.ref s.heap.objs.size) [s.heap.objs.size] (fun _=>.ref s.heap.objs.size) (ys.map fun i=>(es.toList.map (·.2)).getD i .none) rfl rfl rfl (by show _≤(s.heap.push _).objs.size; rw[Heap.size_push]; exact Nat.le_succ _) (fun b u q=>Heap.get?_push_of_some _ q) (fun b hb=> ?_) rfl (fun h' kp=> ?_) ?_
   ·rw[List.mem_singleton.mp hb]
    refine ⟨Nat.le_refl _,?_⟩
    show _<(s.heap.push _).objs.size
    rw[Heap.size_push]; exact Nat.lt_succ_self _
   ·refine .drawn (kp _ _ (Heap.get?_push_size _ rfl)) rfl fun i hi=> ?_
    have:=pm.mem_iff.mp hi
    simpa using this
   ·have q:=pm.map fun i=>(es.toList.map (·.2)).getD i Value.none
    have e:es.size=(es.toList.map (·.2)).length:=by simp
    rw[e,hall] at q
    exact q
  ·have h1':(!t.plain&&decide (es.size>1))=false:=by simpa using h1
   rw[if_neg (by rw[h1']; decide)]
   refine wpAny_bind (wpAny_pure ?_)
   exact fin s (rawInt 0) [] _ _ rfl rfl rfl (Nat.le_refl _) (fun _ _ q=>q) (fun b hb=>nomatch hb) (if_pos rfl) (fun h' _=>.small bt h1' (by rw[ld,bt]; rfl) pl) (List.Perm.refl _)
end
end SetL
end
section
namespace SetL
open PySem
section
variable {prog:Program} {w:World} {A:Around} {E:Value→Shared→Prop} {s:Shared} {it a:Addr} {o:Obj} {es:Array (Int×Value)} {ep:Nat} {t:SetTable} {tl:List Addr} {f:Nat→Value} {vs:List Value}
theorem qo0 {i:Nat} {slot:Nat} {Q:Option (Value×Nat)→Shared→Prop} (ho:s.heap.get? a=some o) (hd:o.data= .set es ep t) (hf:t.fits es.size=true) (W:Way w s.heap a es ep t tl f vs) (hs:f i=rawInt (slot:Nat)) (hi:i≤vs.length)
  (h:Q (vs[i]?.map fun v=>(v,if w.params.followText "set-order" =true then slot else t.place.getD i 0+1)) s):wpAny (model prog w) A (setNext a slot i ep) Q E s:=by
 unfold setNext
 refine wpAny_bind (wpAny_setState_of ho hd hf ?_)
 dsimp only
 refine wpAny_bind (qhc ?_)
 cases W with
 | drawn _ _ _=>cases hs
 | text e=>
  rw[if_pos e,if_neg (by simp)]
  refine wpAny_bind ?_
  unfold setWalk
  refine wpAny_bind (wpAny_setState_of ho hd hf ?_)
  dsimp only
  refine wpAny_bind (qhc ?_)
  rw[if_pos e]
  refine wpAny_bind (wpAny_askSetting (wpAny_pure (wpAny_pure ?_)))
  have e2:(if w.params.followText "set-order" =true then slot else t.place.getD i 0+1)=slot:=if_pos e
  rw[e2] at h
  have e3:((pickOrder (w.params.setOrder a ep) es).toList.map (·.2))[i]?.map (fun v=>(v,slot))=((pickOrder (w.params.setOrder a ep) es)[i]?).map fun e=>(e.2,slot):=by
   rw[List.getElem?_map,Array.getElem?_toList,Option.map_map]
   rfl
  rw[e3] at h
  exact h
 | small e ndr hl hft=>
  rw[e,if_neg (by decide)]
  split
  ·rename_i z
   have z':(!t.plain&&decide (es.size>1))=true:=z
   rw[ndr] at z'; cases z'
  have led:(!t.led&& !es.isEmpty)=false:=by rw[hl]; rfl
  refine wpAny_bind ?_
  show wpAny _ _ (if (!t.led&& !es.isEmpty)=true then _ else _) _ _ _
  rw[if_neg (by rw[led]; decide)]
  refine wpAny_pure (wpAny_pure ?_)
  have e2:(if w.params.followText "set-order" =true then slot else t.place.getD i 0+1)=t.place.getD i 0+1:=if_neg (by rw[e]; decide)
  rw[e2] at h
  have psz:t.place.size=es.size:=by
   have:=hf
   simp only[SetTable.fits,Bool.and_eq_true,beq_iff_eq] at this
   exact this.1
  have hi':i≤es.size:=by simpa using hi
  have eb:SetTable.below t.place slot=i:=by
   cases i with
   | zero=>
    have:slot=0:=by
     have hs':rawInt 0=rawInt (slot:Nat):=by simpa using hs
     unfold rawInt at hs'
     injection hs' with q _
     lia
    rw[this]; exact qjT hft.1
   | succ i=>
    have:slot=t.place.getD i 0+1:=by
     have hs':rawInt ((t.place.getD i 0+1:Nat):Int)=rawInt (slot:Nat):=by simpa using hs
     unfold rawInt at hs'
     injection hs' with q _
     lia
    rw[this]; exact qjU hft.1 (by lia)
  have e3:((es.toList.map (·.2))[i]?.map fun v=>(v,t.place.getD i 0+1))=(es[i]?).map fun e=>(e.2,t.place.getD i 0+1):=by
   rw[List.getElem?_map,Array.getElem?_toList,Option.map_map]
   rfl
  rw[e3] at h
  rw[eb]
  by_cases c:i<es.size
  ·have c1:es[i]? =some es[i]:=by simp[c]
   have c2:t.place[i]? =some (t.place.getD i 0):=by simp[Array.getD,psz,c]
   rw[c1] at h⊢
   rw[c2]
   exact h
  ·have c1:es[i]? =none:=by simp; lia
   rw[c1] at h⊢
   exact h
theorem qoA {Q:Option Value→Shared→Prop} (hh:A.handled=none) {s:Shared} (h: ∀h',(∀b u,s.heap.get? b=some u→h'.get? b=some u)→Q none { s with heap:=h' }):
  wpAny (model prog w) A.in1 (do raiseNew (←newExc (.type "StopIteration") []):Sem Fin) (fun r s'=> ∃v,r=Fin.done (.ret v)∧Q (some v) s') (fun e s'=>wpAny (model prog w) A (do if ←isInstance e (.type "StopIteration") then pure none else throw e) Q E s') s:=by
 refine wpAny_bind ?_
 simp only[newExc,newTuple]
 refine wpAny_bind (wpAny_newObj_type ?_ (by size_fits))
 refine wpAny_bind (m:=firstArgMember _ _) (wpAny_of_eq (a:=Value.none) (by first | rfl | (simp only[firstArgMember]; rfl)) ?_)
 refine wpAny_newObj_type ?_ (by size_fits)
 simp only[raiseNew]
 refine wpAny_bind (wpAny_handled ?_)
 rw[show A.in1.handled=none from hh]
 refine wpAny_bind (wpAny_pure (wpAny_throw ?_))
 refine wpAny_bind (wpAny_isInstance (T:= "StopIteration") (b:=true) ⟨_,Heap.get?_push_size _ rfl,rfl⟩ isSubtype_stop ?_)
 exact wpAny_pure (h _ fun b u q=>Heap.get?_push_of_some _ (Heap.get?_push_of_some _ q))
theorem qiQ {first:Value} {i n:Nat} {j:Nat} {x:Value} {h:Heap} (ho:h.get? it=some (qhM first i a n ep)):(h.update it (Obj.mapFields (·.setIfInBounds j x))).get? it=some { cls:=.type "set_iterator",data:=.fields (#[first,rawInt i,.ref a,rawInt n,rawInt ep].setIfInBounds j x) }:=
 Heap.get?_update_self _ ho rfl
theorem qib {i:Nat} {Q:Option Value→Shared→Prop} (hh:A.handled=none) (hne:a≠it) (htl:it∉tl) (hit:s.heap.get? it=some (qhM (f i) i a es.size ep)) (ho:s.heap.get? a=some o) (hd:o.data= .set es ep t) (hf:t.fits es.size=true) (W:Way w s.heap a es ep t tl f vs) (hv:vs.length=es.size) (hi:i≤vs.length)
  (h1: ∀v h',vs[i]? =some v→Heap.SameBut it s.heap h'→h'.get? it=some (qhM (f (i+1)) (i+1) a es.size ep)→Q (some v) { s with heap:=h' })
  (h0: ∀h',vs[i]? =none→(∀b u,b≠it→s.heap.get? b=some u→h'.get? b=some u)→Q none { s with heap:=h' }):wpAny (model prog w) A (pyNext (.ref it)) Q E s:=by
 have ty:s.TypeIs (.ref it) "set_iterator" :=⟨_,hit,rfl⟩
 unfold pyNext
 refine wpAny_bind (wpAny_attempt (wpAny_callSpecial?_slot (name:=Str.ofString "__next__") ty qdA (wpAny_call_entry qdA ty qjK ?_ (ql5 _))))
 unfold Builtin.«set_iterator.__next__» slotArgs
 refine wpAny_bind (wpAny_pure (wpAny_bind (wpAny_fieldsOf hit rfl ?_)))
 refine wpAny_bind (wpAny_setEntries_of ho hd hf ?_)
 dsimp only
 rw[if_neg (by simp)]
 have one: ∀(v:Value) (s2:Shared),Q (some v) s2→∃v',Fin.done (Flow.ret v)=Fin.done (Flow.ret v')∧wpAny (model prog w) A (match (Except.ok (some v'):Except Value (Option Value)) with
      | Except.ok (some v)=>pure (some v)
      | Except.ok none=>unsupported "iter:the-iterator's-class-has-lost-its-__next__-amid-the-walk"
      | Except.error e=>do
       let b ←isInstance e (Value.type "StopIteration")
       if b=true then pure none else throw e) Q E s2:=fun v s2 q=>⟨v,rfl,wpAny_pure q⟩
 have stop: ∀s2:Shared,(∀h',(∀b u,s2.heap.get? b=some u→h'.get? b=some u)→Q none { s2 with heap:=h' })→wpAny (model prog w) A.in1 (do raiseNew (←newExc (.type "StopIteration") []):Sem Fin) (fun fin s'=> ∃v,fin=Fin.done (Flow.ret v)∧wpAny (model prog w) A (match (Except.ok (some v):Except Value (Option Value)) with
      | Except.ok (some v)=>pure (some v)
      | Except.ok none=>unsupported "iter:the-iterator's-class-has-lost-its-__next__-amid-the-walk"
      | Except.error e=>do
       let b ←isInstance e (Value.type "StopIteration")
       if b=true then pure none else throw e) Q E s') (fun e s'=>wpAny (model prog w) A (do
       let b ←isInstance e (Value.type "StopIteration")
       if b=true then pure none else throw e) Q E s') s2:=fun s2 q=>wpAny_mono (qoA (Q:=Q) (E:=E) hh q) (fun r s' ⟨v,e,q'⟩=>⟨v,e,wpAny_pure q'⟩) fun _ _ z=>z
 have byInt: ∀slot:Nat,f i=rawInt (slot:Nat)→(∀v,vs[i]? =some v→f (i+1)=rawInt ((if w.params.followText "set-order" =true then slot else t.place.getD i 0+1:Nat):Int))→
   wpAny (model prog w) A.in1 (do
    let r ←setNext a ((slot:Nat):Int).toNat ((i:Nat):Int).toNat ((ep:Nat):Int).toNat
    match r with
     | some (x,next)=>do
      setField (Value.ref it) 0 (rawInt (next:Nat))
      setField (Value.ref it) 1 (rawInt ((i:Nat)+1))
      ret x
     | none=>do
      setField (Value.ref it) 2 Value.none
      let e ←newExc (Value.type "StopIteration") []
      raiseNew e) (fun fin s'=> ∃v,fin=Fin.done (Flow.ret v)∧wpAny (model prog w) A (match (Except.ok (some v):Except Value (Option Value)) with
      | Except.ok (some v)=>pure (some v)
      | Except.ok none=>unsupported "iter:the-iterator's-class-has-lost-its-__next__-amid-the-walk"
      | Except.error e=>do
       let b ←isInstance e (Value.type "StopIteration")
       if b=true then pure none else throw e) Q E s') (fun e s'=>wpAny (model prog w) A (do
       let b ←isInstance e (Value.type "StopIteration")
       if b=true then pure none else throw e) Q E s') s:=fun slot hs hnx=>by
  rw[Int.toNat_natCast,Int.toNat_natCast,Int.toNat_natCast]
  refine wpAny_bind (qo0 (slot:=slot) ho hd hf W hs hi ?_)
  cases q:vs[i]? with
  | some v=>
   dsimp only[Option.map]
   refine wpAny_bind (wpAny_setField (i:=0) hit rfl (by simp) ?_)
   refine wpAny_bind (wpAny_setField (i:=1) (qiQ hit) rfl (by simp) (wpAny_pure (one v _ (h1 v _ q ((Heap.SameBut.update ..).trans (Heap.SameBut.update ..)) ?_))))
   rw[hnx v q]
   exact Heap.get?_update_self _ (qiQ hit) rfl
  | none=>
   dsimp only[Option.map]
   refine wpAny_bind (wpAny_setField (i:=2) hit rfl (by simp) (stop _ fun h' kp=>h0 h' q fun b u hb e=>kp b u ?_))
   exact (Heap.get?_update_other _ _ (Ne.symm hb)).trans e
 cases id W with
 | drawn et dt bd=>
  rename_i tp ot pl k
  show wpAny _ _ (seqItems? (.ref tp)>>=_) _ _ _
  refine wpAny_bind (wpAny_seqItems et dt ?_)
  dsimp only
  rw[Int.toNat_natCast]
  cases q:pl[i]? with
  | some j=>
   have e1:(List.toArray (pl.map fun (i:Nat)=>rawInt i))[i]? =some (rawInt (j:Nat)):=by simp[q]
   rw[e1]
   have hj:=bd j (List.mem_of_getElem? q)
   show wpAny _ _ (setNextDrawn a ((j:Nat):Int).toNat ((ep:Nat):Int).toNat>>=_) _ _ _
   rw[Int.toNat_natCast,Int.toNat_natCast]
   have ej:es[j]? =some es[j]:=by simp[hj]
   refine wpAny_bind ?_
   unfold setNextDrawn
   refine wpAny_bind (wpAny_setState_of ho hd hf ?_)
   dsimp only
   rw[if_neg (by simp),ej]
   refine wpAny_pure ?_
   have ev:(pl.map fun i=>(es.toList.map (·.2)).getD i Value.none)[i]? =some es[j].2:=by
    rw[List.getElem?_map,q]
    simp[hj]
   exact wpAny_bind (wpAny_setField hit rfl (by simp) (wpAny_pure (one _ _ (h1 _ _ ev (Heap.SameBut.update ..) (qiQ hit)))))
  | none=>
   have e1:(List.toArray (pl.map fun (i:Nat)=>rawInt i))[i]? =none:=by simp[List.getElem?_eq_none_iff.mp q]
   rw[e1]
   have ev:(pl.map fun i=>(es.toList.map (·.2)).getD i Value.none)[i]? =none:=by rw[List.getElem?_map,q]; rfl
   refine wpAny_bind (wpAny_setField hit rfl (by simp) ?_)
   refine wpAny_bind (wpAny_setField (qiQ hit) rfl (by simp) (stop _ fun h' kp=>h0 h' ev fun b u hb e=>kp b u ?_))
   exact (Heap.get?_update_other _ _ (Ne.symm hb)).trans ((Heap.get?_update_other _ _ (Ne.symm hb)).trans e)
 | text e=>
  exact byInt 0 rfl fun v _=>by rw[if_pos e]; rfl
 | small e hn hl hft=>
  cases i with
  | zero=>exact byInt 0 rfl fun v _=>by rw[if_neg (by rw[e]; decide)]; rfl
  | succ i=>
   have:=byInt (t.place.getD i 0+1) rfl fun v _=>by rw[if_neg (by rw[e]; decide)]; rfl
   exact this
end
end SetL
end
section
namespace SetL
open PySem
theorem qgQ:entryFor table "set_iterator.__iter__" =some Builtin.«dict_keyiterator.__iter__» :=
 entryFor_alias (id':= "dict_keyiterator.__iter__") (by kernel_rfl) rfl (by decide+kernel) (by kernel_rfl)
theorem qh6 (a:Value):argsOk "set_iterator.__iter__" ⟨[a],[]⟩:=by
 unfold argsOk; kernel_rfl
section
variable {prog:Program} {w:World} {A:Around} {it a:Addr} {o:Obj} {es:Array (Int×Value)} {ep:Nat} {t:SetTable} {tl:List Addr} {f:Nat→Value} {vs:List Value}
def quV (w:World) (it a:Addr) (o:Obj) (es:Array (Int×Value)) (ep:Nat) (t:SetTable) (tl:List Addr) (f:Nat→Value) (vs:List Value) (i:Nat) (h:Heap):Prop:=h.get? it=some (qhM (f i) i a es.size ep)∧h.get? a=some o∧Way w h a es ep t tl f vs∧i≤vs.length
theorem qrI (hh:A.handled=none) (hne:a≠it) (htl:it∉tl) (hd:o.data= .set es ep t) (hf:t.fits es.size=true) (hv:vs.length=es.size):Walks prog w A it (it::a::tl) [it] vs.length (fun i v=>vs[i]? =some v) (quV w it a o es ep t tl f vs) where
 sub:=fun b hb=>by rw[List.mem_singleton.mp hb]; exact List.mem_cons_self
 frame:=fun i h h' st k=>⟨k it List.mem_cons_self _ st.1,k a (List.mem_cons_of_mem _ List.mem_cons_self) _ st.2.1,st.2.2.1.keep fun b hb u e=>k b (List.mem_cons_of_mem _ (List.mem_cons_of_mem _ hb)) u e,st.2.2.2⟩
 item:=fun i s Q E hi st hQ=>by
  refine qib hh hne htl st.1 st.2.1 hd hf st.2.2.1 hv st.2.2.2 (fun v h' ev sb g=> ?_) fun h' ev _=> ?_
  ·have e:s={ s with toks:=s.toks }:=rfl
   refine hQ v h' s.toks ev ⟨g,(sb.2 a hne).trans st.2.1,st.2.2.1.keep fun b hb u q=>(sb.2 b (fun z=>htl (by rw[←z]; exact hb))).trans q,hi⟩ fun b u hb q=>(sb.2 b (fun z=>hb (by rw[z]; exact List.mem_singleton.mpr rfl))).trans q
  ·rw[List.getElem?_eq_getElem hi] at ev; cases ev
 done:=fun s Q E st hQ=>by
  refine qib hh hne htl st.1 st.2.1 hd hf st.2.2.1 hv st.2.2.2 (fun v h' ev sb g=> ?_) fun h' ev kp=> ?_
  ·rw[List.getElem?_eq_none_iff.mpr (Nat.le_refl _)] at ev; cases ev
  ·exact hQ h' s.toks fun b u hb q=>kp b u (fun z=>hb (by rw[z]; exact List.mem_singleton.mpr rfl)) q
 self:=fun i s Q E st hQ=>by
  have ty:s.TypeIs (.ref it) "set_iterator" :=⟨_,st.1,rfl⟩
  refine wpAny_pyIter_slot ty qgk (wpAny_call_entry qgk ty qgQ ?_ (qh6 _))
  show wpAny _ _ (ret (.ref it)) _ _ s
  exact wpAny_pure ⟨_,rfl, "set_iterator",_,ty,qdA.lookup,hQ⟩
end
section
variable {prog:Program} {w:World} {A:Around} {E:Value→Shared→Prop} {s:Shared}
theorem qj9:splitId "set.__len__" =some ("set", "__len__"):=by decide+kernel
theorem qqV {α:Type} {M:Model} {c:Bool} {x y:Sem α} {Q:α→Shared→Prop} (hc:c=true) (h:wpAny M A x Q E s):wpAny M A (if c=true then x else y) Q E s:=by rw[if_pos hc]; exact h
theorem qsU {α:Type} {M:Model} {c:Bool} {x y:Sem α} {Q:α→Shared→Prop} (hc:c=false) (h:wpAny M A y Q E s):wpAny M A (if c=true then x else y) Q E s:=by rw[if_neg (by rw[hc]; decide)]; exact h
theorem qh2 {a:Addr} {o:Obj} {es:Array (Int×Value)} {ep:Nat} {t:SetTable} {Q:List Value→Shared→Prop} (hh:A.handled=none) (ho:s.heap.get? a=some o) (hx:o.ExactSet) (hd:o.data= .set es ep t) (hf:t.fits es.size=true) (hb:es.size<scanBound) (pl:qe1 t) (ld:t.led= !w.params.followText "set-order")
  (h: ∀(vs:List Value) (h':Heap) (d:Drawn) (tk:Nat),List.Perm vs (es.toList.map (·.2))→(∀b u,s.heap.get? b=some u→h'.get? b=some u)→Q vs { s with heap:=h',drawn:=d,toks:=tk }):wpAny (model prog w) A (collect (.ref a)) Q E s:=by
 have ha:=Heap.lt_size ho
 unfold collect
 refine wpAny_bind (wpAny_runValue (codeAny_builtin PySem.F.entry_proto_collect ?_))
 rw[Around.under_plainId PySem.F.plain_proto_collect _]
 refine wpAny_bind (wpAny_newObj_type ?_ (by size_fits))
 refine wpAny_pure ⟨plainId_quiet PySem.F.plain_list_iadd _,codeAny_builtin PySem.F.entry_list_iadd ?_⟩
 rw[Around.under_plainId PySem.F.plain_list_iadd _]
 have hL:(s.heap.push { cls:=.type "list",data:=.seq ([]:List Value).toArray }).get? s.heap.objs.size=some { cls:=.type "list",data:=.seq ([]:List Value).toArray }:=Heap.get?_push_size _ rfl
 have ho1:(s.heap.push { cls:=.type "list",data:=.seq ([]:List Value).toArray }).get? a=some o:=Heap.get?_push_of_some _ ho
 have ty:({ s with heap:=s.heap.push { cls:=.type "list",data:=.seq ([]:List Value).toArray } }:Shared).TypeIs (.ref a) "set" :=⟨o,ho1,hx.1⟩
 show wpAny _ A.in1 (Builtin.List.listExtendWith (.ref s.heap.objs.size) (.ref a) (.ref s.heap.objs.size)) _ _ _
 unfold Builtin.List.listExtendWith
 refine wpAny_bind (wpAny_typeOf ty ?_)
 have ns:Builtin.List.listSameRef (.ref s.heap.objs.size) (.ref a)=false:=by
  simp[Builtin.List.listSameRef]
  exact (Nat.ne_of_lt ha).symm
 rw[if_neg (by rw[ns]; decide)]
 refine wpAny_bind (qm2 (s:={ s with heap:=s.heap.push { cls:=.type "list",data:=.seq ([]:List Value).toArray } }) ho1 hx hd hf hb pl ld fun it h1 d tl f vs hit htl kp g W pm=> ?_)
 have ty1:({ s with heap:=h1,drawn:=d }:Shared).TypeIs (.ref a) "set" :=⟨o,kp _ _ ho1,hx.1⟩
 refine wpAny_bind (wpAny_holding ?_)
 unfold Builtin.List.listLengthHint
 refine wpAny_bind (wpAny_specialOf ty1 PySem.F.slot_set_len.lookup ?_)
 dsimp only
 rw[qj9]
 dsimp only
 refine wpAny_bind (wpAny_isInstance (b:=true) ty1 (by rw[isSubtype_type]; kernel_rfl) ?_)
 refine qsU rfl (qqV (by decide+kernel) ?_)
 refine wpAny_bind (wpAny_typeOf ty1 (wpAny_pure ?_))
 refine qqV (by decide+kernel) ?_
 refine wpAny_bind (wpAny_rule ?_)
 have g1:h1.get? s.heap.objs.size=some { cls:=.type "list",data:=.seq ([]:List Value).toArray }:=kp _ _ hL
 refine wpAny_bind ?_
 show wpAny _ A.in1 (updateSeq s.heap.objs.size (·.push .none)>>=fun _=>updateSeq s.heap.objs.size (·.pop)) _ _ _
 refine wpAny_bind (wpAny_updateSeq g1 rfl ?_)
 have g2:=Heap.get?_update_self (Obj.mapSeq (·.push Value.none)) g1 rfl
 refine wpAny_updateSeq g2 rfl ?_
 have g3:=Heap.get?_update_self (Obj.mapSeq (·.pop)) g2 rfl
 have oth: ∀b u,b≠s.heap.objs.size→h1.get? b=some u→((h1.update s.heap.objs.size (Obj.mapSeq (·.push Value.none))).update s.heap.objs.size (Obj.mapSeq (·.pop))).get? b=some u:=
  fun b u hb e=>(Heap.get?_update_other _ _ (Ne.symm hb)).trans ((Heap.get?_update_other _ _ (Ne.symm hb)).trans e)
 have szp:s.heap.objs.size<({ s with heap:=s.heap.push { cls:=.type "list",data:=.seq ([]:List Value).toArray } }:Shared).heap.objs.size:=by
  show _<(s.heap.push _).objs.size
  rw[Heap.size_push]; exact Nat.lt_succ_self _
 have nit:it≠s.heap.objs.size:=fun z=>by rw[z] at hit; exact absurd (Nat.lt_of_lt_of_le szp hit) (Nat.lt_irrefl _)
 have nia:a≠it:=fun z=>by
  rw[←z] at hit
  exact absurd (Nat.lt_of_lt_of_le (Nat.lt_trans ha szp) hit) (Nat.lt_irrefl _)
 have ntl:it∉tl:=fun z=>(htl it z).2 rfl
 have lt:s.heap.objs.size∉(it::a::tl):=fun z=>by
  rcases List.mem_cons.mp z with z | z
  ·exact nit z.symm
  ·rcases List.mem_cons.mp z with z | z
   ·exact absurd ha (by rw[←z]; exact Nat.lt_irrefl _)
   ·exact absurd (Nat.lt_of_lt_of_le szp (htl _ z).1) (Nat.lt_irrefl _)
 have lv:vs.length=es.size:=by rw[pm.length_eq]; simp
 have hh2:A.in1.handled=none:=hh
 have Wk:=qrI (prog:=prog) (w:=w) (A:=A.in1) (f:=f) hh2 nia ntl hd hf lv
 refine wpAny_pure ⟨plainId_quiet PySem.F.plain_extend_loop _,codeAny_extend_loopS Wk.toS (by rw[lv]; exact fits_of_scanBound hb) _ lt _ vs.length 0 _ _ _ rfl (Nat.zero_le _) ?_ g3 (ItemsOf.nil _) fun s' acc' c' hm hS' hacc=> ?_⟩
 ·exact ⟨oth _ _ nit g,oth _ _ (Nat.ne_of_lt ha) (kp _ _ ho1),W.keep fun b hb' u e=>oth b u (fun z=>lt (by rw[←z]; exact List.mem_cons_of_mem _ (List.mem_cons_of_mem _ hb'))) e,Nat.zero_le _⟩
 ·show wpAny _ A (load s.heap.objs.size>>=_) _ _ s'
  refine wpAny_bind (wpAny_load hS' (wpAny_pure ?_))
  have ev:acc'.toList=vs:=by
   apply List.ext_getElem?
   intro j
   by_cases hj:j<vs.length
   ·have h2:j<acc'.size:=by rw[hacc.1]; exact hj
    have:=hacc.2 j acc'[j] (by simp[h2])
    rw[this]
    simp[h2]
   ·have q1:acc'.toList[j]? =none:=List.getElem?_eq_none_iff.mpr (by rw[Array.length_toList,hacc.1]; lia)
    have q2:vs[j]? =none:=List.getElem?_eq_none_iff.mpr (by lia)
    rw[q1,q2]
  rw[ev]
  obtain ⟨hh',gg,dd,tk,os⟩:=s'
  have e1:gg=s.gens:=hm.gens
  have e2:dd=d:=hm.drawn
  have e3:os=s.os:=hm.os
  subst e1 e2 e3
  refine h vs hh' dd tk pm fun b u e=> ?_
  have nb:b<s.heap.objs.size:=Heap.lt_size e
  refine hm.heap b u (fun z=> ?_) (oth b u (Nat.ne_of_lt nb) (kp b u (Heap.get?_push_of_some _ e)))
  rcases List.mem_cons.mp z with z | z
  ·exact absurd nb (by rw[z]; exact Nat.lt_irrefl _)
  ·rw[List.mem_singleton.mp z] at nb
   exact absurd (Nat.lt_of_lt_of_le (Nat.lt_trans nb szp) hit) (Nat.lt_irrefl _)
end
end SetL
end
section
namespace SetL
open PySem
section
variable {K:Type} [DecidableEq K]
def mem (key:Nat→K) (i:Nat) (k:K):Bool:=(List.range i).any fun j=>decide (k=key j)
def cnt (key:Nat→K):Nat→Nat
 | 0=>0
 | i+1=>if mem key i (key i)=true then cnt key i else cnt key i+1
theorem qiC (key:Nat→K) (i:Nat) (k:K):mem key (i+1) k=(mem key i k||decide (k=key i)):=by
 unfold mem
 rw[List.range_succ,List.any_append]
 simp
theorem qol (key:Nat→K): ∀i,cnt key i≤i
 | 0=>Nat.le_refl _
 | i+1=>by
  have:=qol key i
  unfold cnt
  split<;>lia
end
section
variable {prog:Program} {w:World} {K:Type} [DecidableEq K] {knd:KeyKind prog w K} {A:Around} {R:Result→Shared→Prop} {I:Addr} {fp wr:List Addr} {G:Array GenState→Array GenState→Prop} {n:Nat} {P:Nat→Value→Prop} {Sx:Nat→Shared→Prop}
theorem qqJ (W:WalksS prog w A.in1 I fp wr G n P Sx) (S:Addr) (hSf:S∉fp) (key:Nat→K) (hval: ∀i v,P i v→knd.is (key i) v=true∧v.scannable=true) (hb:n+1<scanBound):
  ∀(k i:Nat) (s:Shared),n - i=k→i≤n→Sx i s→qjb knd s.heap S (mem key i) (cnt key i)→(∀s',Moved (S::wr) G s s'→qjb knd s'.heap S (mem key n) (cnt key n)→R (.ok (.ret .none)) s')→
   codeAny (model prog w) A (.builtin "set.update.loop" ⟨[.ref S,.ref I],[]⟩) R s:=by
 have nw:S∉wr:=fun z=>hSf (W.sub _ z)
 have sub: ∀b∈wr,b∈S::wr:=fun b z=>List.mem_cons_of_mem _ z
 intro k
 induction k with
 | zero=>
  intro i s hk hi st hS fin
  obtain rfl:i=n:=by lia
  refine codeAny_builtin PyProof.Rows.F.entry_set_update_loop ?_
  rw[Around.under_plainId PyProof.Rows.F.plain_set_update_loop _]
  refine wpAny_bind (W.done s _ _ st fun s' mv=>wpAny_pure (fin s' (mv.mono sub) (hS.keep fun o e=>mv.heap S o nw e)))
 | succ k ih=>
  intro i s hk hi st hS fin
  have lt:i<n:=by lia
  refine codeAny_builtin PyProof.Rows.F.entry_set_update_loop ?_
  rw[Around.under_plainId PyProof.Rows.F.plain_set_update_loop _]
  refine wpAny_bind (W.item i s _ _ lt st fun v s' hP st' mv=> ?_)
  obtain ⟨v1,v2⟩:=hval i v hP
  refine wpAny_bind (wpAny_holding ?_)
  unfold setAdd
  refine wpAny_holding (wpAny_bind (knd.pyHash (k:=key i) v1 ?_))
  have cl:=qol key i
  refine qta (knd:=knd) (s:={ s' with toks:=s'.toks+1 }) v1 v2 (hS.keep fun o e=>mv.heap S o nw e) (by lia) fun h' sb S2=> ?_
  refine wpAny_pure ⟨plainId_quiet PyProof.Rows.F.plain_set_update_loop _,ih (i+1) _ (by lia) lt (W.frame _ s' _ _ st' (Nat.le_succ _) fun b hb' o e=> ?_) ?_ fun s'' mv2 S3=> ?_⟩
  ·rw[sb.2 b fun z=>hSf (by rw[←z]; exact hb')]; exact e
  ·obtain ⟨o,es,ep,t,a1,a2,a3,a4,a5,a6,a7,a8,a9,a10⟩:=S2
   exact ⟨o,es,ep,t,a1,a2,a3,a4,fun k'=>by rw[qiC]; exact a5 k',a6,a7,a8,a9,a10⟩
  ·refine fin s'' (Moved.trans W.gtrans ((mv.mono sub).then_heap (Nat.le_succ _) fun b o hb' e=> ?_) mv2) S3
   rw[sb.2 b fun z=>hb' (by rw[z]; exact List.mem_cons_self)]; exact e
end
section
variable {prog:Program} {w:World} {K:Type} [DecidableEq K] {knd:KeyKind prog w K} {A:Around} {E:Value→Shared→Prop} {s:Shared}
theorem qo1 (x:Value) {Q₁:Value→Shared→Prop} (h:Q₁ (.ref s.heap.objs.size) { s with heap:=s.heap.push { cls:=.type "set",dict:=none,data:=.set #[] 0 (.fresh 0 0 (!w.params.followText "set-order")) } }):
  codeAny (model prog w) A (.call (.builtin "set.__new__") ⟨[.type "set",x],[]⟩) (PySem.wants Q₁ E) s:=by
 refine codeAny_of_tree ?_
 show wpAny _ A.in1 (do checkBuiltinCall "set.__new__" ⟨[.type "set",x],[]⟩; again (.builtin "set.__new__" ⟨[.type "set",x],[]⟩)) _ _ s
 refine wpAny_bind (wpAny_of_eq (PySem.F.newCall_set_1 x) (wpAny_pure ⟨plainId_quiet PySem.F.plain_set_new _,codeAny_builtin PySem.F.entry_set_new ?_⟩))
 rw[Around.under_plainId PySem.F.plain_set_new _]
 unfold Builtin.«set.__new__»
 unfold Builtin.Frozenset.newClass
 have sb:=PySem.sub_set_self
 obtain ⟨hp,g,d,tk,os⟩:=s
 dsimp only
 wp_walk
 exact wpAny_askSetting (wpAny_pure (by
  dsimp only
  simp only[newObj]
  exact wpAny_bind (wpAny_alloc (wpAny_pure (wpAny_pure h)))))
set_option maxHeartbeats 8000000 in
theorem qrk {l:Addr} {items:Array Value} {key:Nat→K} {Q:Value→Shared→Prop} (hh:A.handled=none) (hl:s.heap.IsList l items) (hval: ∀i v,items[i]? =some v→knd.is (key i) v=true∧v.scannable=true) (hb:items.size+1<scanBound)
  (h: ∀(h':Heap) (tk:Nat),qjb knd h' s.heap.objs.size (mem key items.size) (cnt key items.size)→(∀b o,s.heap.get? b=some o→h'.get? b=some o)→Q (.ref s.heap.objs.size) { s with heap:=h',toks:=tk }):
  wpAny (model prog w) A (call (.type "set") [.ref l]) Q E s:=by
 obtain ⟨c,tl,mro⟩:=PySem.F.called_set.mro
 have md:=PySem.F.called_set.made
 have sb:=PySem.F.called_set.sub
 refine wpAny_call (codeAny_of_tree ?_)
 show wpAny _ _ (callAny (.type "set") _) _ _ _
 refine wpAny_pure ⟨Code.quiet_builtin _ (by decide+kernel),codeAny_builtin PySem.F.entry_type_call ?_⟩
 rw[Around.under_plain (weight_type_call_type "set" [.ref l] []) rfl]
 have q1:=PySem.F.called_set.notType
 have q2:=PySem.F.called_set.canCreate
 have q3:=PySem.F.typeCall_set_1 (.ref l)
 repeat (any_goals (first | assumption | wp_step))
 refine codeAny_mono (qo1 (.ref l) (E:=E) (Q₁:=fun v s1=>v= .ref s.heap.objs.size∧s1={ s with heap:=s.heap.push { cls:=.type "set",dict:=none,data:=.set #[] 0 (.fresh 0 0 (!w.params.followText "set-order")) } }) ⟨rfl,rfl⟩) fun r s1 hr=> ?_
 cases r with
 | error e=>exact hr
 | ok fl=>cases fl with
  | ret obj=>
   obtain ⟨rfl,rfl⟩:=hr
   have gS:(s.heap.push { cls:=.type "set",dict:=none,data:=.set #[] 0 (.fresh 0 0 (!w.params.followText "set-order")) }).get? s.heap.objs.size=some { cls:=.type "set",dict:=none,data:=.set #[] 0 (.fresh 0 0 (!w.params.followText "set-order")) }:=Heap.get?_push_size _ rfl
   have tS:Shared.TypeIs { s with heap:=s.heap.push { cls:=.type "set",dict:=none,data:=.set #[] 0 (.fresh 0 0 (!w.params.followText "set-order")) } } (.ref s.heap.objs.size) "set" :=⟨_,gS,rfl⟩
   have li:=PySem.F.called_set.init.lookup
   have bi:=PySem.F.called_set.init.bind (.ref s.heap.objs.size)
   repeat (any_goals (first | assumption | wp_step))
   refine codeAny_mono (codeAny_call_builtin (R:=PySem.wants (fun r s2=>r= .none∧∃h' tk,s2={ s with heap:=h',toks:=tk }∧qjb knd h' s.heap.objs.size (mem key items.size) (cnt key items.size)∧∀b o,s.heap.get? b=some o→h'.get? b=some o) E) PySem.F.called_set.init.plain PySem.F.entry_set_init (PySem.check_set_init_1 tS ?_)) fun r2 s2 hr2=> ?_
   ·obtain ⟨⟨oc,od,odt,osl⟩,gl,cl,nl,dl⟩:=hl
    simp only at cl dl
    subst cl dl
    have gl':(s.heap.push { cls:=.type "set",dict:=none,data:=.set #[] 0 (.fresh 0 0 (!w.params.followText "set-order")) }).get? l=some { cls:=.type "list",dict:=od,data:=.seq items nl,slots:=osl }:=Heap.get?_push_of_some _ gl
    have u1:=PySem.F.sub_list_set
    have u2:=PySem.F.sub_list_frozenset
    have u3:(Value.type "list" ==Value.type "dict")=false:=by decide
    have l1:(s.heap.push { cls:=.type "set",dict:=none,data:=.set #[] 0 (.fresh 0 0 (!w.params.followText "set-order")) }).IsList l items:=⟨_,gl',rfl,nl,rfl⟩
    unfold Builtin.«set.__init__» noKeywords
    unfold Builtin.Frozenset.updateFrom
    generalize pie:pyIter=PI
    wp_walk
    subst pie
    refine wpAny_pyIter_list l1 (wpAny_bind (wpAny_runValue ?_))
    have lS:l<s.heap.objs.size:=Heap.lt_size gl
    have sz:(s.heap.push { cls:=.type "set",dict:=none,data:=.set #[] 0 (.fresh 0 0 (!w.params.followText "set-order")) }).objs.size=s.heap.objs.size+1:=Heap.size_push ..
    have n1:l≠(s.heap.push { cls:=.type "set",dict:=none,data:=.set #[] 0 (.fresh 0 0 (!w.params.followText "set-order")) }).objs.size:=by rw[sz]; exact Nat.ne_of_lt (Nat.lt_succ_of_lt lS)
    have n2:s.heap.objs.size∉[(s.heap.push { cls:=.type "set",dict:=none,data:=.set #[] 0 (.fresh 0 0 (!w.params.followText "set-order")) }).objs.size,l]:=fun z=>by
     rw[sz] at z
     rcases List.mem_cons.mp z with z | z
     ·exact absurd z (Nat.ne_of_lt (Nat.lt_succ_self _))
     ·exact absurd (List.mem_singleton.mp z) (Nat.ne_of_gt lS)
    have hh3:A.in1.in1.in1.handled=none:=hh
    refine qqJ (knd:=knd) ((Walks.list hh3 _ l n1 items).toS) s.heap.objs.size n2 key (fun i v hv=>hval i v hv) hb (items.size - 0) 0 _ (by lia) (Nat.zero_le _) ⟨⟨_,Heap.get?_push_size _ rfl,rfl,rfl⟩,l1.push _⟩ ?_ fun s' mv S'=> ?_
    ·exact ⟨_, #[],0,_,Heap.get?_push_of_some _ gS,⟨rfl,rfl,rfl⟩,rfl,fun e he=>by simp at he,fun k=>by simp[mem],by decide,by rfl,rfl,qjw _ _ _,rfl⟩
    ·obtain ⟨h',g',d',tk',os'⟩:=s'
     have e1:g'=s.gens:=mv.gens
     have e2:d'=s.drawn:=mv.drawn
     have e3:os'=s.os:=mv.os
     subst e1 e2 e3
     refine wpAny_pure (wpAny_pure ⟨rfl,h',tk',rfl,S',fun b o e=> ?_⟩)
     have lb:=Heap.lt_size e
     refine mv.heap b o (fun z=> ?_) (Heap.get?_push_of_some _ (Heap.get?_push_of_some _ e))
     rcases List.mem_cons.mp z with z | z
     ·exact absurd z (Nat.ne_of_lt lb)
     ·have z':=List.mem_singleton.mp z
      rw[sz] at z'
      exact absurd z' (Nat.ne_of_lt (Nat.lt_succ_of_lt lb))
   ·cases r2 with
    | error e=>exact hr2
    | ok f2=>cases f2 with
     | ret r=>
      obtain ⟨rfl,h',tk,rfl,S',kp⟩:=hr2
      repeat (any_goals (first | assumption | wp_step))
      exact h _ _ S' kp
     | _=>exact hr2.elim
  | _=>exact hr.elim
end
end SetL
end
section
namespace SR
theorem qcd {α:Type} {P:List α→Prop} (h0:P []) (hs: ∀l a,P l→P (l++[a])): ∀l,P l:=by
 intro l
 have: ∀r:List α,P r.reverse:=by
  intro r
  induction r with
  | nil=>exact h0
  | cons a r ih=>rw[List.reverse_cons]; exact hs _ _ ih
 rw[←List.reverse_reverse l]
 exact this _
section
variable {α:Type}
theorem qcA {k:α→Int} {r:α} {p:α→Bool} (h:p r=true): ∀{l:List α},Ris k l→(ins k r l).filter p=ins k r (l.filter p)
 | [],_=>by simp[ins,h]
 | y::l,hl=>by
  have hl':=List.pairwise_cons.mp hl
  show (if k y≤k r then y::ins k r l else r::y::l).filter p=_
  by_cases c:k y≤k r
  ·rw[if_pos c]
   by_cases d:p y=true
   ·rw[List.filter_cons_of_pos d,List.filter_cons_of_pos d,qcA h hl'.2]
    show _=(if k y≤k r then y::ins k r (l.filter p) else r::y::l.filter p)
    rw[if_pos c]
   ·rw[List.filter_cons_of_neg d,List.filter_cons_of_neg d,qcA h hl'.2]
  ·rw[if_neg c,List.filter_cons_of_pos h]
   have all: ∀x∈(y::l).filter p,¬k x≤k r:=fun x hx=>by
    have hx':=(List.mem_filter.mp hx).1
    rcases List.mem_cons.mp hx' with q | q
    ·rw[q]; exact c
    ·have:=hl'.1 x q; lia
   cases e:(y::l).filter p with
   | nil=>rfl
   | cons z t=>
    have:=all z (by rw[e]; exact List.mem_cons_self)
    show _=(if k z≤k r then z::ins k r t else r::z::t)
    rw[if_neg this]
theorem qdP {k:α→Int} {r:α} {p:α→Bool} (h:p r=false): ∀{l:List α},(ins k r l).filter p=l.filter p
 | []=>by simp[ins,h]
 | y::l=>by
  show (if k y≤k r then y::ins k r l else r::y::l).filter p=_
  by_cases c:k y≤k r
  ·rw[if_pos c,List.filter_cons,List.filter_cons,qdP h]
  ·rw[if_neg c,List.filter_cons_of_neg (by rw[h]; decide)]
theorem qdZ {k:α→Int} {p:α→Bool} (l:List α):srt k (l.filter p)=(srt k l).filter p:=by
 refine qcd (P:=fun l=>srt k (l.filter p)=(srt k l).filter p) rfl (fun l a ih=> ?_) l
 rw[List.filter_append,qcn]
 cases h:p a with
 | true=>
  rw[show [a].filter p=[a] by simp[h],qcn,ih,qcA h (ris_srt l)]
 | false=>
  rw[show [a].filter p=[] by simp[h],List.append_nil,ih,qdP h]
end
section
variable {κ:Type} [DecidableEq κ]
abbrev T4 (κ:Type):=Int×κ×Int×Int
def cpl (a r:T4 κ):T4 κ:=if r.2.2.2=0 then (r.1,r.2.1,r.2.2.1,a.2.2.1) else (r.1,r.2.1,a.2.2.1,r.2.2.1)
def hit (w:Int) (r a:T4 κ):Bool:=decide (r.1 - a.1≤w)&&(decide (a.2.2.2≠r.2.2.2)&&decide (a.2.1=r.2.1))
theorem qcO {w:Int} {r a:T4 κ}:hit w r a=true↔(r.1 - a.1≤w∧a.2.2.2≠r.2.2.2∧a.2.1=r.2.1):=by
 unfold hit
 rw[Bool.and_eq_true,Bool.and_eq_true,decide_eq_true_eq,decide_eq_true_eq,decide_eq_true_eq]
def qfq (w:Int) (s:List (T4 κ)×List (T4 κ)) (r:T4 κ):List (T4 κ)×List (T4 κ):=(s.1++[r],s.2++(s.1.filter (hit w r)).map fun a=>cpl a r)
def jo (w:Int) (M:List (T4 κ)):List (T4 κ):=(M.foldl (qfq w) ([],[])).2
theorem qsT (w:Int) (M:List (T4 κ)):(M.foldl (qfq w) ([],[])).1=M:=by
 refine qcd (P:=fun M=>(M.foldl (qfq w) ([],[])).1=M) rfl (fun l a ih=> ?_) M
 rw[List.foldl_append]
 show (List.foldl (qfq w) ([],[]) l).1++[a]=_
 rw[ih]
theorem qcN (w:Int) (M:List (T4 κ)) (r:T4 κ):jo w (M++[r])=jo w M++(M.filter (hit w r)).map fun a=>cpl a r:=by
 unfold jo
 rw[List.foldl_append]
 show (List.foldl (qfq w) ([],[]) M).2++((List.foldl (qfq w) ([],[]) M).1.filter (hit w r)).map (fun a=>cpl a r)=_
 rw[qsT]
theorem qlT (a r:T4 κ):(cpl a r).2.1=r.2.1:=by
 unfold cpl
 by_cases c:r.2.2.2=0
 ·rw[if_pos c]
 ·rw[if_neg c]
theorem qcS {α:Type} {p q r:α→Bool} {l:List α} (h: ∀a∈l,(q a&&p a)=r a):(l.filter p).filter q=l.filter r:=by
 rw[List.filter_filter]
 exact List.filter_congr fun a ha=>h a ha
theorem qe7 (k:κ) (r:T4 κ) (l:List (T4 κ)):(l.map fun a=>cpl a r).filter (fun q=>decide (q.2.1=k))=if r.2.1=k then l.map (fun a=>cpl a r) else []:=by
 by_cases c:r.2.1=k
 ·rw[if_pos c]
  refine List.filter_eq_self.mpr fun q hq=> ?_
  obtain ⟨a,_,rfl⟩:=List.mem_map.mp hq
  rw[qlT]
  exact decide_eq_true c
 ·rw[if_neg c]
  refine List.filter_eq_nil_iff.mpr fun q hq=> ?_
  obtain ⟨a,_,rfl⟩:=List.mem_map.mp hq
  rw[qlT]
  simpa using c
theorem qlh {w:Int} {k:κ} {p:T4 κ→Bool} (h1: ∀r:T4 κ,r.2.1=k→p r=true) (M:List (T4 κ)) (h2: ∀a∈M,∀r∈M,a.2.1=r.2.1→r.2.1≠k→a.2.2.2≠r.2.2.2→p a=true→p r=true→False):
  jo w (M.filter p)=(jo w M).filter fun q=>decide (q.2.1=k):=by
 revert h2
 refine qcd (P:=fun M=>(∀a∈M,∀r∈M,a.2.1=r.2.1→r.2.1≠k→a.2.2.2≠r.2.2.2→p a=true→p r=true→False)→jo w (M.filter p)=(jo w M).filter fun q=>decide (q.2.1=k)) (fun _=>rfl) (fun l r ih h2=> ?_) M
 have ih:=ih fun a ha r hr=>h2 a (List.mem_append_left _ ha) r (List.mem_append_left _ hr)
 rw[List.filter_append,qcN,List.filter_append,qe7,←ih]
 cases c:p r with
 | false=>
  have nk: ¬r.2.1=k:=fun z=>by rw[h1 r z] at c; cases c
  rw[show [r].filter p=[] by simp[c],List.append_nil,if_neg nk,List.append_nil]
 | true=>
  rw[show [r].filter p=[r] by simp[c],qcN]
  congr 1
  by_cases d:r.2.1=k
  ·rw[if_pos d]
   congr 1
   refine qcS fun a _=> ?_
   cases e:hit w r a with
   | false=>rfl
   | true=>
    unfold hit at e
    rw[Bool.and_eq_true,Bool.and_eq_true] at e
    have:a.2.1=k:=(of_decide_eq_true e.2.2).trans d
    rw[h1 a this]
    rfl
  ·rw[if_neg d]
   rw[List.filter_filter,List.filter_eq_nil_iff.mpr,List.map_nil]
   intro a ha z
   rw[Bool.and_eq_true] at z
   unfold hit at z
   rw[Bool.and_eq_true,Bool.and_eq_true] at z
   exact h2 a (List.mem_append_left _ ha) r (List.mem_append_right _ List.mem_cons_self) (of_decide_eq_true z.1.2.2) d (of_decide_eq_true z.1.2.1) z.2 c
end
end SR
end
section
namespace SR
section
variable {κ:Type} [DecidableEq κ]
abbrev R3 (κ:Type):=Int×κ×Int
def un (t:T4 κ):R3 κ:=(t.1,t.2.1,t.2.2.1)
def tag (s:Int) (r:R3 κ):T4 κ:=(r.1,r.2.1,r.2.2,s)
def mat (w:Int) (a b:R3 κ):Bool:=decide (a.2.1=b.2.1)&&(decide (a.1 - b.1≤w)&&decide (b.1 - a.1≤w))
def cp (a b:R3 κ):T4 κ:=(max a.1 b.1,a.2.1,a.2.2,b.2.2)
def pr (w:Int) (A B:List (R3 κ)):List (T4 κ):=A.flatMap fun a=>(B.filter (mat w a)).map (cp a)
def sw (t:T4 κ):T4 κ:=(t.1,t.2.1,t.2.2.2,t.2.2.1)
theorem qfQ {w:Int} {a b:R3 κ}:mat w a b=true↔(a.2.1=b.2.1∧a.1 - b.1≤w∧b.1 - a.1≤w):=by
 unfold mat
 rw[Bool.and_eq_true,Bool.and_eq_true,decide_eq_true_eq,decide_eq_true_eq,decide_eq_true_eq]
theorem qkH (w:Int) (B:List (R3 κ)):pr w [] B=[]:=rfl
theorem qc1 (w:Int) (a:R3 κ) (A B:List (R3 κ)):pr w (a::A) B=(B.filter (mat w a)).map (cp a)++pr w A B:=rfl
theorem qoL (w:Int) (A B:List (R3 κ)) (a:R3 κ):pr w (A++[a]) B=pr w A B++(B.filter (mat w a)).map (cp a):=by
 unfold pr
 rw[List.flatMap_append]
 simp
theorem qdC (w:Int) (B:List (R3 κ)) (b:R3 κ): ∀A:List (R3 κ),List.Perm (pr w A (B++[b])) (pr w A B++(A.filter fun a=>mat w a b).map fun a=>cp a b)
 | []=>List.Perm.refl _
 | a::A=>by
  have ih:=qdC w B b A
  rw[qc1,qc1,List.filter_append,List.map_append]
  cases c:mat w a b with
  | true=>
   rw[show [b].filter (mat w a)=[b] by simp[c],List.filter_cons_of_pos (by simpa using c),List.map_cons,List.map_cons,List.map_nil]
   refine List.Perm.trans (ih.append_left _) ?_
   rw[List.append_assoc,List.append_assoc]
   refine List.Perm.append_left _ ?_
   show List.Perm (cp a b::(pr w A B++_)) (pr w A B++cp a b::_)
   exact List.perm_middle.symm
  | false=>
   rw[show [b].filter (mat w a)=[] by simp[c],List.filter_cons_of_neg (by simpa using c),List.map_nil,List.append_nil,List.append_assoc]
   exact ih.append_left _
theorem qdD (w:Int) (B:List (R3 κ)) (b:R3 κ): ∀A:List (R3 κ),List.Perm (pr w A (b::B)) ((A.filter fun a=>mat w a b).map (fun a=>cp a b)++pr w A B)
 | []=>List.Perm.refl _
 | a::A=>by
  have ih:=qdD w B b A
  rw[qc1,qc1]
  cases c:mat w a b with
  | true=>
   rw[List.filter_cons_of_pos (by simpa using c),List.filter_cons_of_pos (by simpa using c),List.map_cons,List.map_cons]
   refine List.Perm.cons _ ?_
   refine List.Perm.trans (ih.append_left _) ?_
   show List.Perm _ ((A.filter fun a=>mat w a b).map (fun a=>cp a b)++((B.filter (mat w a)).map (cp a)++pr w A B))
   rw[←List.append_assoc,←List.append_assoc]
   exact List.perm_append_comm.append_right _
  | false=>
   rw[List.filter_cons_of_neg (by simpa using c),List.filter_cons_of_neg (by simpa using c)]
   refine List.Perm.trans (ih.append_left _) ?_
   rw[←List.append_assoc,←List.append_assoc]
   exact List.perm_append_comm.append_right _
theorem qmQ (w:Int) (a b:R3 κ):mat w a b=mat w b a:=by
 unfold mat
 rw[Bool.and_comm (decide (a.1 - b.1≤w))]
 congr 1
 rw[Bool.eq_iff_iff]
 simp[eq_comm]
theorem qrU {w:Int} {a b:R3 κ} (h:mat w a b=true):sw (cp a b)=cp b a:=by
 unfold mat at h
 rw[Bool.and_eq_true] at h
 have hk:a.2.1=b.2.1:=of_decide_eq_true h.1
 unfold sw cp
 rw[Int.max_comm]
 simp only[hk]
theorem qho (w:Int) (B:List (R3 κ)): ∀A:List (R3 κ),List.Perm ((pr w A B).map sw) (pr w B A)
 | []=>by
  rw[qkH]
  unfold pr
  simp
 | a::A=>by
  rw[qc1,List.map_append,List.map_map]
  have e:(B.filter (mat w a)).map (sw∘cp a)=(B.filter fun b=>mat w b a).map fun b=>cp b a:=by
   rw[show (fun b=>mat w b a)=mat w a from funext fun b=>(qmQ w a b).symm]
   refine List.map_congr_left fun b hb=> ?_
   exact qrU (List.mem_filter.mp hb).2
  rw[e]
  exact ((qho w B A).append_left _).trans (qdD w A a B).symm
theorem qpb {w:Int} (hw:0≤w): ∀M:List (T4 κ),Ris (fun t:T4 κ=>t.1) M→(∀r∈M,r.2.2.2=0∨r.2.2.2=1)→
  List.Perm (jo w M) (pr w ((M.filter fun t=>decide (t.2.2.2=0)).map un) ((M.filter fun t=>decide (t.2.2.2=1)).map un)):=by
 intro M
 refine qcd (P:=fun M=>Ris (fun t:T4 κ=>t.1) M→(∀r∈M,r.2.2.2=0∨r.2.2.2=1)→List.Perm (jo w M) (pr w ((M.filter fun t=>decide (t.2.2.2=0)).map un) ((M.filter fun t=>decide (t.2.2.2=1)).map un))) (fun _ _=>List.Perm.refl _) (fun l r ih hR hM=> ?_) M
 have hR':=List.pairwise_append.mp hR
 have ih':=ih hR'.1 fun x hx=>hM x (List.mem_append_left _ hx)
 have le: ∀a∈l,a.1≤r.1:=fun a ha=>hR'.2.2 a ha r List.mem_cons_self
 rw[qcN,List.filter_append,List.filter_append,List.map_append,List.map_append]
 rcases hM r (List.mem_append_right _ List.mem_cons_self) with hr | hr
 ·rw[show [r].filter (fun t=>decide (t.2.2.2=0))=[r] by simp[hr],show [r].filter (fun t=>decide (t.2.2.2=1))=[] by simp[hr],List.map_nil,List.append_nil,List.map_cons,List.map_nil,qoL]
  refine ih'.append (List.Perm.of_eq ?_)
  rw[List.filter_map,List.map_map,List.filter_filter]
  have e:l.filter (hit w r)=l.filter fun a=>(mat w (un r)∘un) a&&decide (a.2.2.2=1):=List.filter_congr fun a ha=>by
   have:=le a ha
   rw[Bool.eq_iff_iff,qcO,Bool.and_eq_true]
   show _↔mat w (un r) (un a)=true∧_
   rw[qfQ,decide_eq_true_eq]
   show _↔(r.2.1=a.2.1∧r.1 - a.1≤w∧a.1 - r.1≤w)∧a.2.2.2=1
   have hs:=hM a (List.mem_append_left _ ha)
   constructor
   ·rintro ⟨h1,h2,h3⟩
    exact ⟨⟨h3.symm,h1,by lia⟩,by lia⟩
   ·rintro ⟨⟨h1,h2,h3⟩,h4⟩
    exact ⟨h2,by lia,h1.symm⟩
  rw[←e]
  refine List.map_congr_left fun a ha=> ?_
  have:=le a (List.mem_filter.mp ha).1
  show cpl a r=cp (un r) (un a)
  unfold cpl cp un
  rw[if_pos hr]
  show _=(max r.1 a.1,_)
  rw[Int.max_eq_left this]
 ·rw[show [r].filter (fun t=>decide (t.2.2.2=0))=[] by simp[hr],show [r].filter (fun t=>decide (t.2.2.2=1))=[r] by simp[hr],List.map_nil,List.append_nil,List.map_cons,List.map_nil]
  refine (ih'.append (List.Perm.of_eq ?_)).trans (qdC w _ (un r) _).symm
  rw[List.filter_map,List.map_map,List.filter_filter]
  have e:l.filter (hit w r)=l.filter fun a=>((fun a=>mat w a (un r))∘un) a&&decide (a.2.2.2=0):=List.filter_congr fun a ha=>by
   have:=le a ha
   rw[Bool.eq_iff_iff,qcO,Bool.and_eq_true]
   show _↔mat w (un a) (un r)=true∧_
   rw[qfQ,decide_eq_true_eq]
   show _↔(a.2.1=r.2.1∧a.1 - r.1≤w∧r.1 - a.1≤w)∧a.2.2.2=0
   have hs:=hM a (List.mem_append_left _ ha)
   constructor
   ·rintro ⟨h1,h2,h3⟩
    exact ⟨⟨h3,by lia,h1⟩,by lia⟩
   ·rintro ⟨⟨h1,h2,h3⟩,h4⟩
    exact ⟨h3,by lia,h1⟩
  rw[←e]
  refine List.map_congr_left fun a ha=> ?_
  have h1:=(List.mem_filter.mp ha)
  have:=le a h1.1
  have hk:a.2.1=r.2.1:=by
   have h2:=h1.2
   unfold hit at h2
   rw[Bool.and_eq_true,Bool.and_eq_true] at h2
   exact of_decide_eq_true h2.2.2
  show cpl a r=cp (un a) (un r)
  unfold cpl cp un
  rw[if_neg (by lia)]
  show _=(max a.1 r.1,a.2.1,_)
  rw[Int.max_eq_right this,hk]
abbrev mo:R3 κ→Int:=fun r=>r.1
abbrev mo4:T4 κ→Int:=fun r=>r.1
def Mof (one other:List (R3 κ)):List (T4 κ):=srt mo4 (one.map (tag 0)++other.map (tag 1))
def J (w:Int) (one other:List (R3 κ)):List (T4 κ):=jo w (Mof one other)
theorem qma (one other:List (R3 κ)):Ris mo4 (Mof one other):=ris_srt _
theorem qnw (one other:List (R3 κ)): ∀r∈Mof one other,r.2.2.2=0∨r.2.2.2=1:=fun r hr=>by
 have h:=(mem_srt _).mp hr
 rcases List.mem_append.mp h with h | h
 ·obtain ⟨a,_,rfl⟩:=List.mem_map.mp h
  exact .inl rfl
 ·obtain ⟨a,_,rfl⟩:=List.mem_map.mp h
  exact .inr rfl
theorem qjX (one other:List (R3 κ)) (p q:R3 κ→Bool):Mof (one.filter p) (other.filter q)=(Mof one other).filter fun t=>if t.2.2.2=0 then p (un t) else q (un t):=by
 unfold Mof
 rw[←qdZ,List.filter_append,List.filter_map,List.filter_map]
 rfl
theorem qny (s:Int):(un∘tag s:R3 κ→R3 κ)=id:=rfl
theorem qpF {one other:List (R3 κ)} (h:Ris mo one):((Mof one other).filter fun t=>decide (t.2.2.2=0)).map un=one:=by
 unfold Mof
 rw[←qdZ,List.filter_append,List.filter_map,List.filter_map]
 rw[show one.filter ((fun t:T4 κ=>decide (t.2.2.2=0))∘tag 0)=one from List.filter_eq_self.mpr fun a _=>rfl,show other.filter ((fun t:T4 κ=>decide (t.2.2.2=0))∘tag 1)=[] from List.filter_eq_nil_iff.mpr fun a _=>by simp[tag],List.map_nil,List.append_nil]
 rw[qcy (k:=mo) (k':=mo4) (f:=un) (fun b=>rfl),List.map_map,qny,List.map_id,qhe h]
theorem qmb {one other:List (R3 κ)} (h:Ris mo other):((Mof one other).filter fun t=>decide (t.2.2.2=1)).map un=other:=by
 unfold Mof
 rw[←qdZ,List.filter_append,List.filter_map,List.filter_map]
 rw[show one.filter ((fun t:T4 κ=>decide (t.2.2.2=1))∘tag 0)=[] from List.filter_eq_nil_iff.mpr fun a _=>by simp[tag],show other.filter ((fun t:T4 κ=>decide (t.2.2.2=1))∘tag 1)=other from List.filter_eq_self.mpr fun a _=>rfl,List.map_nil,List.nil_append]
 rw[qcy (k:=mo) (k':=mo4) (f:=un) (fun b=>rfl),List.map_map,qny,List.map_id,qhe h]
theorem qpG {w:Int} (hw:0≤w) {one other:List (R3 κ)} (h1:Ris mo one) (h2:Ris mo other):List.Perm (J w one other) (pr w one other):=by
 have h:=qpb hw (Mof one other) (qma one other) (qnw one other)
 rw[qpF h1,qmb h2] at h
 exact h
def keyIs (k:κ):R3 κ→Bool:=fun r=>decide (r.2.1=k)
theorem qrr (w:Int) (k:κ) (one other:List (R3 κ)):J w (one.filter (keyIs k)) (other.filter (keyIs k))=(J w one other).filter fun q=>decide (q.2.1=k):=by
 unfold J
 rw[qjX]
 refine qlh (fun r h=> ?_) _ (fun a _ r _ h1 h2 h3 h4 h5=> ?_)
 ·show (if r.2.2.2=0 then keyIs k (un r) else keyIs k (un r))=true
  rw[ite_self]
  exact decide_eq_true h
 ·have h5':(if r.2.2.2=0 then keyIs k (un r) else keyIs k (un r))=true:=h5
  rw[ite_self] at h5'
  exact h2 (of_decide_eq_true h5')
end
end SR
end
section
namespace SR
theorem qgM {α:Type} {k k':α→Int} {r:α} (hr:k r=k' r): ∀l:List α,(∀x∈l,k x=k' x)→ins k r l=ins k' r l
 | [],_=>rfl
 | x::l,h=>by
  show (if k x≤k r then x::ins k r l else r::x::l)=(if k' x≤k' r then x::ins k' r l else r::x::l)
  rw[hr,h x List.mem_cons_self,qgM hr l fun y hy=>h y (List.mem_cons_of_mem _ hy)]
theorem srt_congr {α:Type} {k k':α→Int} (l:List α):(∀x∈l,k x=k' x)→srt k l=srt k' l:=by
 refine qcd (P:=fun l=>(∀x∈l,k x=k' x)→srt k l=srt k' l) (fun _=>rfl) (fun l a ih h=> ?_) l
 rw[qcn,qcn,ih fun x hx=>h x (List.mem_append_left _ hx)]
 exact qgM (h a (List.mem_append_right _ List.mem_cons_self)) _ fun x hx=>h x (List.mem_append_left _ ((mem_srt _).mp hx))
end SR
namespace RH
open PySem PySem.Spec PyProof.Rows L2 SR
abbrev Q4:=T4 Str
def qcY (q:Q4):List V:=[.int q.1,.str q.2.1,.int q.2.2.1,.int q.2.2.2]
def ltS (x y:Str):Bool:=decide (x.cps.toList<y.cps.toList)
theorem qqa {x y:Str} (h:x.cps.toList=y.cps.toList):x=y:=by
 cases x; cases y
 congr 1
 exact Array.toList_inj.mp h
theorem ordS:Ord ltS where
 irr:=fun a=>decide_eq_false (List.lt_irrefl _)
 tr:=fun a b c h1 h2=>decide_eq_true (List.lt_trans (of_decide_eq_true h1) (of_decide_eq_true h2))
 tot:=fun a b h1 h2=>qqa (List.le_antisymm (List.not_lt.mp (of_decide_eq_false h2)) (List.not_lt.mp (of_decide_eq_false h1)))
section
variable {prog:Program} {w:World} {A:Around} {s:Shared}
open PySem.W
end
section
variable {X:Cx}
end
end RH
end
section
namespace SetL
section
variable {α:Type} [DecidableEq α]
def dd:List α→List α
 | []=>[]
 | x::xs=>if x∈dd xs then dd xs else x::dd xs
theorem qiE {x:α}: ∀{l:List α},x∈dd l↔x∈l
 | []=>Iff.rfl
 | y::l=>by
  have ih:=qiE (x:=x) (l:=l)
  show x∈(if y∈dd l then dd l else y::dd l)↔_
  by_cases c:y∈dd l
  ·rw[if_pos c,ih,List.mem_cons]
   refine ⟨.inr,fun h=> ?_⟩
   rcases h with rfl | h
   ·exact ih.mp c
   ·exact h
  ·rw[if_neg c,List.mem_cons,List.mem_cons,ih]
theorem qdI: ∀l:List α,(dd l).Nodup
 | []=>List.nodup_nil
 | y::l=>by
  show (if y∈dd l then dd l else y::dd l).Nodup
  by_cases c:y∈dd l
  ·rw[if_pos c]; exact qdI l
  ·rw[if_neg c]; exact List.nodup_cons.mpr ⟨c,qdI l⟩
theorem qpx: ∀l:List α,(dd l).length≤l.length
 | []=>Nat.le_refl _
 | y::l=>by
  have ih:=qpx l
  show (if y∈dd l then dd l else y::dd l).length≤_
  split
  ·exact Nat.le_succ_of_le ih
  ·exact Nat.succ_le_succ ih
theorem qeK: ∀{D L:List α},D.Nodup→(∀x∈D,x∈L)→L.length=D.length→List.Perm L D
 | [],L,_,_,hl=>by rw[List.length_eq_zero_iff.mp hl]
 | d::D,L,hn,hm,hl=>by
  have hd:=hm d List.mem_cons_self
  have hn':=List.nodup_cons.mp hn
  refine (List.perm_cons_erase hd).trans (List.Perm.cons d (qeK hn'.2 (fun x hx=> ?_) ?_))
  ·have ne:x≠d:=fun z=>by subst z; exact hn'.1 hx
   refine (List.mem_erase_of_ne ne).mpr (hm x (List.mem_cons_of_mem _ hx))
  ·rw[List.length_erase_of_mem hd,hl]; rfl
def dl (key:Nat→α):Nat→List α
 | 0=>[]
 | i+1=>if mem key i (key i)=true then dl key i else dl key i++[key i]
theorem qod (key:Nat→α): ∀i,(dl key i).length=cnt key i
 | 0=>rfl
 | i+1=>by
  have ih:=qod key i
  show (if mem key i (key i)=true then dl key i else dl key i++[key i]).length=if mem key i (key i)=true then cnt key i else cnt key i+1
  split
  ·exact ih
  ·rw[List.length_append,ih]; rfl
theorem qkZ (key:Nat→α) (x:α): ∀i,x∈dl key i↔mem key i x=true
 | 0=>by simp[dl,mem]
 | i+1=>by
  have ih:=qkZ key x i
  rw[qiC]
  show x∈(if mem key i (key i)=true then dl key i else dl key i++[key i])↔_
  by_cases c:mem key i (key i)=true
  ·rw[if_pos c,ih]
   simp only[Bool.or_eq_true,decide_eq_true_eq]
   refine ⟨.inl,fun h=> ?_⟩
   rcases h with h | rfl
   ·exact h
   ·exact c
  ·rw[if_neg c,List.mem_append,ih]
   simp
theorem qiA (key:Nat→α): ∀i,(dl key i).Nodup
 | 0=>List.nodup_nil
 | i+1=>by
  have ih:=qiA key i
  show (if mem key i (key i)=true then dl key i else dl key i++[key i]).Nodup
  by_cases c:mem key i (key i)=true
  ·rw[if_pos c]; exact ih
  ·rw[if_neg c,List.nodup_append]
   refine ⟨ih,by simp,fun a ha b hb=> ?_⟩
   rw[List.mem_singleton] at hb
   subst hb
   intro z
   subst z
   exact c ((qkZ key _ i).mp ha)
theorem qiD {l:List α} {d:α} {x:α}:mem (fun i=>l.getD i d) l.length x=true↔x∈l:=by
 unfold mem
 rw[List.any_eq_true]
 constructor
 ·rintro ⟨j,hj,e⟩
  have hj':=List.mem_range.mp hj
  have e':=of_decide_eq_true e
  rw[e']
  show l.getD j d∈l
  rw[List.getD_eq_getElem?_getD,List.getElem?_eq_getElem hj']
  exact List.getElem_mem hj'
 ·intro h
  obtain ⟨j,hj,e⟩:=List.mem_iff_getElem.mp h
  refine ⟨j,List.mem_range.mpr hj,decide_eq_true ?_⟩
  show x=l.getD j d
  rw[List.getD_eq_getElem?_getD,List.getElem?_eq_getElem hj]
  exact e.symm
theorem qs3 {l:List α} {d:α}:List.Perm (dl (fun i=>l.getD i d) l.length) (dd l):=
 (List.perm_ext_iff_of_nodup (qiA _ _) (qdI _)).mpr fun x=>by rw[qkZ,qiD,qiE]
theorem qom {l:List α} {d:α}:cnt (fun i=>l.getD i d) l.length=(dd l).length:=by rw[←qod,qs3.length_eq]
end
end SetL
namespace SetL
open PySem PySem.W PySem.Calls PyProof.Rows SR
structure Kd (prog:Program) (w:World) (α:Type) [DecidableEq α] where
 knd:PySem.KeyKind prog w α
 up:α→L2.V
 d:α
 of:Value→α
 lt:α→α→Bool
 ord:Ord lt
 isv: ∀x u,L2.RelV (up x) u→knd.is x u=true∧u.scannable=true
 vis: ∀x u,knd.is x u=true→L2.RelV (up x) u
 ofv: ∀x u,L2.RelV (up x) u→of u=x
 kind: ∀v1 v2 vs,(∀v∈v1::v2::vs,∃x,L2.RelV (up x) v)→keyKind' (v1::v2::vs).toArray=pure oneType'
 lts: ∀{A:Around} {E:Value→Shared→Prop} {s:Shared} {Q:Bool→Shared→Prop} (x y:α) (u v:Value),L2.RelV (up x) u→L2.RelV (up y) v→Q (lt x y) s→wpAny (model prog w) A (keyLt' oneType' u v) Q E s
section
variable {prog:Program} {w:World} {A:Around} {E:Value→Shared→Prop} {s:Shared} {α:Type} [DecidableEq α] (k:Kd prog w α)
theorem qne {h:Heap} {a:Addr} {ss:List α} (S:qjb k.knd h a (mem (fun i=>ss.getD i k.d) ss.length) (cnt (fun i=>ss.getD i k.d) ss.length)):
  ∃o es ep t,h.get? a=some o∧o.ExactSet∧o.data= .set es ep t∧es.size<scanBound∧t.fits es.size=true∧qe1 t∧t.led=(!w.params.followText "set-order")∧es.size=(dd ss).length∧
   (∀v∈es.toList.map (·.2),∃x,L2.RelV (k.up x) v)∧List.Perm ((es.toList.map (·.2)).map k.of) (dd ss):=by
 obtain ⟨o,es,ep,t,ho,hx,hd,hel,hme,hb,hf,hn,hp,hl⟩:=S
 have hv: ∀v∈es.toList.map (·.2),∃x,L2.RelV (k.up x) v:=fun v hv=>by
  obtain ⟨e,he,rfl⟩:=List.mem_map.mp hv
  obtain ⟨⟨x,hk,_⟩,_⟩:=hel e he
  exact ⟨x,k.vis x _ hk⟩
 refine ⟨o,es,ep,t,ho,hx,hd,hb,hf,hp,hl,by rw[hn,qom],hv,?_⟩
 refine qeK (qdI ss) (fun x hx=> ?_) (by rw[List.length_map,List.length_map,Array.length_toList,hn,qom])
 have hx':=qiE.mp hx
 obtain ⟨e,he,ek⟩:=(hme x).mp (qiD.mpr hx')
 exact List.mem_map.mpr ⟨e.2,List.mem_map.mpr ⟨e,he,rfl⟩,k.ofv x _ (k.vis x _ ek)⟩
theorem qjg {a:Addr} {ss:List α} {Q:Value→Shared→Prop} (hh:A.handled=none) (S:qjb k.knd s.heap a (mem (fun i=>ss.getD i k.d) ss.length) (cnt (fun i=>ss.getD i k.d) ss.length)) (h64:ss.length<64)
  (h: ∀h1 D h' d tk c vs,St.Kp s.heap h1→h1.objs.size≤D→St.Kp h1 h'→h'.get? D=some (seqObj "list" (List.toArray vs) c)→L2.Vals ((qe4 k.lt (dd ss)).map k.up) vs→Q (.ref D) { s with heap:=h',drawn:=d,toks:=tk }):
  wpAny (model prog w) A (call (.builtin "sorted") [.ref a]) Q E s:=by
 obtain ⟨o,es,ep,t,ho,hx,hd,hb,hf,hp,hl,hn,hv,pm⟩:=qne k S
 refine Calls.call_function_entry kind_sorted plain_sorted entry_sorted (args_sorted1 _) ?_
 unfold Builtin.«sorted»
 refine wpAny_bind (m:=checkCount "sorted" 1 1 _) (wpAny_pure ?_)
 refine wpAny_bind (qh2 (by exact hh) ho hx hd hf hb hp hl fun vs H1 d1 tk1 pv kp1=> ?_)
 have le:vs.length=(dd ss).length:=by rw[pv.length_eq,List.length_map,Array.length_toList,hn]
 have l64:vs.length<64:=by have:=qpx ss; lia
 have hv': ∀v∈vs,∃x,L2.RelV (k.up x) v:=fun v z=>hv v (pv.mem_iff.mp z)
 have pm':List.Perm (vs.map k.of) (dd ss):=(pv.map k.of).trans pm
 refine wpAny_bind (wpAny_newList ?_ (by rw[sizeLine_eq]; show vs.length≤_; lia))
 have kp2:St.Kp H1 (H1.push (seqObj "list" vs.toArray 0)):=fun b o q=>Heap.get?_push_of_some _ q
 have hoD:(H1.push (seqObj "list" vs.toArray 0)).get? H1.objs.size=some (seqObj "list" vs.toArray 0):=Heap.get?_push_size _ rfl
 refine wpAny_bind (wpAny_holding (wpAny_call_entry slot_list_sort ⟨_,hoD,rfl⟩ entry_list_sort ?body (args_list_sort _)))
 case body=>
  have at_: ∀{m:Nat},m<vs.length→L2.RelV (k.up ((vs.map k.of).getD m k.d)) (vs.getD m Value.none)∧(vs.map k.of).getD m k.d∈vs.map k.of:=fun {m} hm=>by
   obtain ⟨x,e⟩:=hv' vs[m] (List.getElem_mem hm)
   have e1:(vs.map k.of).getD m k.d=x:=by
    rw[List.getD_eq_getElem?_getD,List.getElem?_map,List.getElem?_eq_getElem hm]
    exact k.ofv x _ e
   refine ⟨?_,?_⟩
   ·rw[e1,List.getD_eq_getElem?_getD,List.getElem?_eq_getElem hm]; exact e
   ·rw[e1]; exact List.mem_map.mpr ⟨_,List.getElem_mem hm,k.ofv x _ e⟩
  refine St.lsort_p (h0:=H1) (kz:=(vs.map k.of).map (rank k.lt (vs.map k.of))) (κ:=oneType') (s:={ s with heap:=H1.push (seqObj "list" vs.toArray 0),drawn:=d1,toks:=tk1 }) hoD (by simp) l64 kp2 (St.get_none (Nat.le_refl _)) (fun s' kk h2 Q' hq=> ?_) (fun s' kk i j hi hj C hc=> ?_) fun h' tk c p a1 a2 a3=>⟨_,rfl,?_⟩
  ·match vs,h2,hv' with
   | v1::v2::vs,_,hv'=>
    rw[k.kind v1 v2 vs hv']
    exact wpAny_pure hq
  ·have e1: ∀{m:Nat},m<vs.length→((vs.map k.of).map (rank k.lt (vs.map k.of))).getD m 0=rank k.lt (vs.map k.of) ((vs.map k.of).getD m k.d):=fun {m} hm=>by
    have hm':m<(vs.map k.of).length:=by rw[List.length_map]; exact hm
    rw[List.getD_eq_getElem?_getD,List.getD_eq_getElem?_getD,List.getElem?_map,List.getElem?_eq_getElem hm']
    rfl
   obtain ⟨f1,m1⟩:=at_ hi
   obtain ⟨f2,m2⟩:=at_ hj
   rw[e1 hi,e1 hj,qfF k.ord m1 m2] at hc
   exact k.lts _ _ _ _ f1 f2 hc
  ·refine wpAny_pure ⟨_,rfl,h _ _ h' d1 tk c _ kp1 (Nat.le_refl _) a1 a3 ?_⟩
   have ep:=qdG a2
   have e:qe4 k.lt (dd ss)=p.toList.map fun j=>(vs.map k.of).getD j k.d:=by
    rw[←qjh k.ord pm',ep,SR.srt_congr (k':=fun j=>rank k.lt (vs.map k.of) ((vs.map k.of).getD j k.d)),qcy (k:=rank k.lt (vs.map k.of)) (f:=fun j=>(vs.map k.of).getD j k.d) (fun b=>rfl),show vs.length=(vs.map k.of).length by simp,Mir.map_range_getD]
    ·rfl
    ·intro b hb'
     have hb2:b<(vs.map k.of).length:=by rw[List.length_map]; exact List.mem_range.mp hb'
     rw[List.getD_eq_getElem?_getD,List.getElem?_map,List.getElem?_eq_getElem hb2,List.getD_eq_getElem?_getD,List.getElem?_eq_getElem hb2]
     rfl
   rw[e,List.map_map]
   have go: ∀l:List Nat,(∀j∈l,j<vs.length)→L2.Vals (l.map (k.up∘fun j=>(vs.map k.of).getD j k.d)) (l.map fun i=>vs.getD i Value.none):=fun l=>by
    induction l with
    | nil=>exact fun _=>.nil
    | cons j l ih=>
     intro hl
     exact .cons (at_ (hl j List.mem_cons_self)).1 (ih fun i hi=>hl i (List.mem_cons_of_mem _ hi))
   exact go _ fun j hj=>(Mir.order_mem a2 j).mp hj
end
def qrV:Value→Str
 | .str x _=>x
 | _=> ""
def qrW (prog:Program) (w:World):Kd prog w Str where
 knd:=PySem.strKind prog w
 up:=L2.V.str
 d:= ""
 of:=qrV
 lt:=RH.ltS
 ord:=RH.ordS
 isv:=fun x u ⟨t,e⟩=>by subst e; exact ⟨by show Value.isStrOf x (Value.str x t)=true; simp[Value.isStrOf],rfl⟩
 vis:=fun x u h=>Value.isStrOf_shape h
 ofv:=fun x u ⟨t,e⟩=>by subst e; rfl
 kind:=fun v1 v2 vs h=>keyKind_strs (strsAre_map _ fun v hv=>by obtain ⟨x,t,e⟩:=h v hv; exact ⟨x,t,e⟩)
 lts:=fun x y u v ⟨t,e⟩ ⟨t',e'⟩ h=>by subst e e'; exact PySem.W.kas_lt_str h
end SetL
end
section
namespace SetL
open PySem L2 SR
theorem boot_sorted:bootBuiltins "sorted" =some (.builtin "sorted"):=by decide+kernel
theorem qnt:bootBuiltins "set" =some (.type "set"):=by decide+kernel
section
variable {X:Cx} {a:Expr} {t:TE} {p1 p2 p3 pos:Pos} {α:Type} [DecidableEq α] (k:Kd X.prog X.w α)
theorem qsS {pins:List (Addr×Obj)} {σ:St} {H:Hp} {s:Shared} {h':Heap} {d:Drawn} {tk:Nat} (I:Inv X pins σ H s) (k: ∀b u,s.heap.get? b=some u→h'.get? b=some u):Inv X pins σ H { s with heap:=h',drawn:=d,toks:=tk }:=by
 have J:=I.kept (t':=tk) k
 exact ⟨J.ok,J.os,J.bare,J.base,J.loc,J.cell,J.free,J.freeC,J.pin,J.hok,J.len⟩
theorem qos (ss:List α) {is:List Value} (r:Vals (ss.map k.up) is) (i:Nat) (v:Value) (h:is[i]? =some v):RelV (k.up (ss.getD i k.d)) v:=by
 have hl:=r.length
 rw[List.length_map] at hl
 obtain ⟨hi,_⟩:=List.getElem?_eq_some_iff.mp h
 have hi':i<ss.length:=by lia
 obtain ⟨u,e,ru⟩:=r.get (i:=i) (x:=k.up ss[i]) (by rw[List.getElem?_map,List.getElem?_eq_getElem hi']; rfl)
 rw[h] at e
 cases e
 rw[List.getD_eq_getElem?_getD,List.getElem?_eq_getElem hi']
 exact ru
theorem qmp {pins:List (Addr×Obj)} {σ:St} {H:Hp} {s:Shared} {Q:Addr→List α→Hp→Prop} (hc:X.calm=true) (gt:Gl X "set") (mt:X.mg "set" =none) (ha:PE X a t) (hmono: ∀σ H (Q Q':VK),(∀v H1,Q v H1→Q' v H1)→t σ H Q→t σ H Q')
  (he:starEach [a] X.env=(false,eval a X.env)::starEach [] X.env) (I:Inv X pins σ H s)
  (h:t σ H fun v H1=> ∃l ss,v= .ref l∧SqL X.K H1 l (ss.map k.up)∧ss.length<64∧Q l ss H1):
  wpAny (model X.prog X.w) X.A (eval (.Call (.Name "set" p2) [a] [] p3) X.env) (fun u s'=> ∃S l ss H1,u= .ref S∧Inv X pins σ H1 s'∧ss.length<64∧qjb k.knd s'.heap S (mem (fun i=>ss.getD i k.d) ss.length) (cnt (fun i=>ss.getD i k.d) ss.length)∧Q l ss H1) X.xe s:=by
 refine wpAny_Call_Name_kw (qdM I gt mt qnt ?_)
 refine PyProof.Rows.callWith_type1 ?_ he rfl
 refine thn (qaf ha qaq he p3 pins s σ H (fun vs H1=> ∃l ss,vs=[.ref l]∧SqL X.K H1 l (ss.map k.up)∧ss.length<64∧Q l ss H1) I (hmono σ H _ _ (fun v H1 ⟨l,ss,e,r⟩=>⟨l,ss,by rw[e],r⟩) h)) fun us s1 hq32=> ?_
 obtain ⟨vs,H1,I1,r1,q1⟩:=hq32
 obtain ⟨l,ss,rfl,hS,h64,q⟩:=q1
 cases r1 with
 | cons r rr=>
  cases rr
  cases r
  obtain ⟨its,rv,pl,hz⟩:=I1.list hS
  have hl:=rv.length
  rw[List.length_map] at hl
  have hh:X.A.handled=none:=I1.ok.hd hc
  refine qrk (knd:=k.knd) (key:=fun i=>ss.getD i k.d) hh pl.isList (fun i v hv=> ?_) ?_ fun h' tk S' kp=> ?_
  ·exact k.isv _ _ (qos k ss rv i v (by simpa using hv))
  ·rw[List.size_toArray]
   have:scanBound=2 ^ 24∨100<scanBound:=.inr (by decide)
   rcases this with z | z<;>lia
  ·refine ⟨_,l,ss,H1,rfl,I1.kept kp,h64,?_,q⟩
   have e:its.toArray.size=ss.length:=by rw[List.size_toArray]; lia
   rw[e] at S'
   exact S'
def tSS (k:Kd X.prog X.w α) (t:TE):TE:=fun σ H Q=>t σ H fun v H1=> ∃l ss,v= .ref l∧SqL X.K H1 l (ss.map k.up)∧ss.length<64∧∀D,H1 D=none→Q (.ref D) (upd H1 D (.lst ((qe4 k.lt (dd ss)).map k.up)))
theorem qfJ (hc:X.calm=true) (gs:Gl X "sorted") (ms:X.mg "sorted" =none) (gt:Gl X "set") (mt:X.mg "set" =none) (ha:PE X a t) (hmono: ∀σ H (Q Q':VK),(∀v H1,Q v H1→Q' v H1)→t σ H Q→t σ H Q') (he:starEach [a] X.env=(false,eval a X.env)::starEach [] X.env:=by rfl):
  PE X (.Call (.Name "sorted" p1) [.Call (.Name "set" p2) [a] [] p3] [] pos) (tSS k t):=by
 intro pins s σ H Q I h
 refine wpAny_Call_Name_kw (qdM I gs ms boot_sorted ?_)
 refine PyProof.Rows.callWith_builtin1 (Calls.spliced_cons (thn (qmp k (Q:=fun l ss H1=> ∀D,H1 D=none→Q (.ref D) (upd H1 D (.lst ((qe4 k.lt (dd ss)).map k.up)))) hc gt mt ha hmono he I h) fun u s1 ⟨S,l,ss,H1,eu,I1,h64,hS,q⟩=> ?_)) rfl rfl
 subst eu
 refine Calls.spliced_nil ?_
 have hh:X.A.handled=none:=I1.ok.hd hc
 refine qjg k (ss:=ss) hh hS h64 fun h1 D h' d tk c vs k1 hD k2 hg rv=> ?_
 have I2:=qsS (d:=d) (tk:=tk) I1 k1
 have fD:H1 D=none:=I2.hok.fresh hD
 have I3:Inv X pins σ (upd H1 D (.lst ((qe4 k.lt (dd ss)).map k.up))) { s1 with heap:=h',drawn:=d,toks:=tk }:=by
  refine I2.laid (h':=h') (t':=tk) k2 hD ⟨?_,_,c,rv,hg⟩
  rw[List.length_map,sizeLine_eq]
  have:=(perm_srt (k:=rank k.lt (dd ss)) (dd ss)).length_eq
  have e:(qe4 k.lt (dd ss)).length=(dd ss).length:=this
  have:=qpx ss
  lia
 exact ⟨.ref D,_,I3,rfl,q D fD⟩
end
end SetL
end
section
namespace PL
open PySem L2 SR SetL
inductive Ky where
 | i (n:Int) | s (x:Str)
 deriving DecidableEq
def qmS:Ky→Ky→Bool
 | .i a,.i b=>decide (a<b)
 | .i _,.s _=>true
 | .s _,.i _=>false
 | .s a,.s b=>RH.ltS a b
theorem qoT:Ord qmS where
 irr:=fun a=>by
  cases a with
  | i n=>exact decide_eq_false (Int.lt_irrefl n)
  | s x=>exact RH.ordS.irr x
 tr:=fun a b c h1 h2=>match a,b,c,h1,h2 with
  | .i _,.i _,.i _,h1,h2=>decide_eq_true (Int.lt_trans (of_decide_eq_true h1) (of_decide_eq_true h2))
  | .i _,.i _,.s _,_,_=>rfl
  | .i _,.s _,.i _,_,h2=>nomatch h2
  | .i _,.s _,.s _,_,_=>rfl
  | .s _,.i _,_,h1,_=>nomatch h1
  | .s _,.s _,.i _,_,h2=>nomatch h2
  | .s _,.s _,.s _,h1,h2=>RH.ordS.tr _ _ _ h1 h2
 tot:=fun a b h1 h2=>match a,b,h1,h2 with
  | .i x,.i y,h1,h2=>by
   have e1: ¬x<y:=of_decide_eq_false h1
   have e2: ¬y<x:=of_decide_eq_false h2
   congr 1; lia
  | .i _,.s _,h1,_=>nomatch h1
  | .s _,.i _,_,h2=>nomatch h2
  | .s x,.s y,h1,h2=>congrArg Ky.s (RH.ordS.tot x y h1 h2)
def qdW:List Ky→List Ky→Bool
 | [],[]=>false
 | [],_::_=>true
 | _::_,[]=>false
 | a::as,b::bs=>if a=b then qdW as bs else qmS a b
theorem qiG: ∀a,qdW a a=false
 | []=>rfl
 | a::as=>by
  show (if a=a then qdW as as else qmS a a)=false
  rw[if_pos rfl]; exact qiG as
theorem qk2: ∀a b c,qdW a b=true→qdW b c=true→qdW a c=true
 | [],[],_,h,_=>by cases h
 | [],_::_,[],_,h=>by cases h
 | [],_::_,_::_,_,_=>rfl
 | _::_,[],_,h,_=>by cases h
 | _::_,_::_,[],_,h=>by cases h
 | a::as,b::bs,c::cs,h1,h2=>by
  have h1':(if a=b then qdW as bs else qmS a b)=true:=h1
  have h2':(if b=c then qdW bs cs else qmS b c)=true:=h2
  show (if a=c then qdW as cs else qmS a c)=true
  by_cases e1:a=b
  ·subst e1
   rw[if_pos rfl] at h1'
   by_cases e2:a=c
   ·rw[if_pos e2] at h2'⊢; exact qk2 as bs cs h1' h2'
   ·rw[if_neg e2] at h2'⊢; exact h2'
  ·rw[if_neg e1] at h1'
   by_cases e2:b=c
   ·subst e2
    rw[if_neg e1]; exact h1'
   ·rw[if_neg e2] at h2'
    have t:=qoT.tr _ _ _ h1' h2'
    by_cases e3:a=c
    ·subst e3; rw[qoT.irr] at t; cases t
    ·rw[if_neg e3]; exact t
theorem qiF: ∀a b,qdW a b=false→qdW b a=false→a=b
 | [],[],_,_=>rfl
 | [],_::_,h,_=>by cases h
 | _::_,[],_,h=>by cases h
 | a::as,b::bs,h1,h2=>by
  have h1':(if a=b then qdW as bs else qmS a b)=false:=h1
  have h2':(if b=a then qdW bs as else qmS b a)=false:=h2
  by_cases e:a=b
  ·subst e
   rw[if_pos rfl] at h1' h2'
   rw[qiF as bs h1' h2']
  ·rw[if_neg e] at h1'
   rw[if_neg (Ne.symm e)] at h2'
   exact absurd (qoT.tot _ _ h1' h2') e
theorem qqC:Ord qdW:=⟨qiG,qk2,qiF⟩
def kyT:T→Ky
 | .int i=>.i i
 | .str x=>.s x
 | _=>.i 0
def qex:T→List Ky
 | .int i=>[.i i]
 | .str x=>[.s x]
 | .tup ts=>ts.map kyT
 | _=>[]
def shT:T→Nat
 | .int _=>0
 | .str _=>1
 | _=>9
def qco:T→List Nat
 | .int _=>[0]
 | .str _=>[1]
 | .tup ts=>2::ts.map shT
 | _=>[9]
def qd6:List Nat→Bool
 | [0]=>true
 | [1]=>true
 | 2::x::r=>(x::r).all fun n=>n==0||n==1
 | _=>false
def qdz:List T→Bool
 | []=>true
 | t::ts=>qd6 (qco t)&&ts.all fun u=>qco u==qco t
def qke {α:Type} (f:α→List Ky) (ts:List α):List α:=srt (fun t=>rank qdW (ts.map f) (f t)) ts
def qdn (ts:List T):List T:=qke qex ts
section
variable {prog:Program} {w:World} {A:Around} {s:Shared}
open PySem.W PyProof.Rows
def kyV:Ky→V
 | .i n=>.int n
 | .s x=>.str x
def shK:Ky→Nat
 | .i _=>0
 | .s _=>1
theorem qsR {C:Bool→Shared→Prop}: ∀(as bs:List Ky) (us vs:List Value) (i:Nat),Vals (as.map kyV) us→Vals (bs.map kyV) vs→as.map shK=bs.map shK→C (qdW as bs) s→KatLex prog w A true false C (us.zip vs) i s
 | [],[],_,_,i,.nil,.nil,_,h=>kat_nil h
 | [],_::_,_,_,_,_,_,hs,_=>by cases hs
 | _::_,[],_,_,_,_,_,hs,_=>by cases hs
 | a::as,b::bs,_,_,i,.cons (l₂:=us) ra rs,.cons (l₂:=vs) rb rt,hs,h=>by
  have hs1:shK a=shK b:=(List.cons.inj hs).1
  have hs2:as.map shK=bs.map shK:=(List.cons.inj hs).2
  have h':C (if a=b then qdW as bs else qmS a b) s:=h
  have go: ∀{p q:Value} {rr:List (Value×Value)} {e:Bool},MeetsSeq.EqGives p q e→(e=true→KatLex prog w A true false C rr (i+1) s)→(e=false→wpAny (model prog w) A (oneLt' (true&&i==0) p q) C (fun _ _=>False) s)→KatLex prog w A true false C ((p,q)::rr) i s:=fun {p q rr e} he h1 h2=>by
   refine kat_cons (he prog w A _ s _ ?_)
   cases e with
   | true=>exact kat_yes (h1 rfl)
   | false=>exact kat_no (h2 rfl)
  cases a with
  | i x=>
   cases b with
   | i y=>
    obtain ⟨t1,rfl⟩:=ra
    obtain ⟨t2,rfl⟩:=rb
    refine go (MeetsSeq.EqGives.int _ _ _ _) (fun e=> ?_) (fun e=> ?_)
    ·have e':=eq_of_beq e
     rw[if_pos (by rw[e'])] at h'
     exact qsR as bs us vs (i+1) rs rt hs2 h'
    ·have e': ¬Ky.i x=Ky.i y:=fun z=>by cases z; rw[beq_self_eq_true] at e; cases e
     rw[if_neg e'] at h'
     cases z:(i==0) with
     | true=>exact oneLt_int h'
     | false=>exact kat_one _ _ (lt_int (show PySem.W.BoolBack C (.bool _) s from h'))
   | s y=>cases hs1
  | s x=>
   cases b with
   | i y=>cases hs1
   | s y=>
    obtain ⟨t1,rfl⟩:=ra
    obtain ⟨t2,rfl⟩:=rb
    have es:MeetsSeq.EqGives (.str x t1) (.str y t2) (decide (x=y)):=fun _ _ _ _ _ _ hq=>wpAny_eqBool_str hq
    refine go es (fun e=> ?_) (fun e=> ?_)
    ·have e':=of_decide_eq_true e
     rw[if_pos (by rw[e'])] at h'
     exact qsR as bs us vs (i+1) rs rt hs2 h'
    ·have e': ¬Ky.s x=Ky.s y:=fun z=>by cases z; simp at e
     rw[if_neg e'] at h'
     cases z:(i==0) with
     | true=>exact oneLt_str h'
     | false=>exact kat_one _ _ (PySem.P.lt_str (show PySem.W.BoolBack C (.bool _) s from h'))
end
end PL
end
section
namespace PL
open PySem L2 SR SetL
section
variable {K:PySem.W.Frag} {B:Hp}
def qpk (t:T):Bool:=shT t==0||shT t==1
theorem qmy {t:T} {v:V} (h:qpk t=true) (r:Rep K B t v):v=kyV (kyT t)∧shT t=shK (kyT t):=by
 cases t with
 | int i=>exact ⟨qar r,rfl⟩
 | str x=>exact ⟨qaJ r,rfl⟩
 | non=>cases (show false=true from h)
 | bl b=>cases (show false=true from h)
 | tup b=>cases (show false=true from h)
 | lst b=>cases (show false=true from h)
 | dct b=>cases (show false=true from h)
 | dtu b=>cases (show false=true from h)
 | dcf b=>cases (show false=true from h)
 | fn b=>cases (show false=true from h)
 | scr b=>cases (show false=true from h)
theorem qgp: ∀{us:List T} {ws:List V},us.all qpk=true→qaP K B us ws→ws=(us.map kyT).map kyV∧us.map shT=(us.map kyT).map shK
 | [],_,_,r=>⟨r.inv0,rfl⟩
 | u::us,_,h,r=>by
  obtain ⟨v,rr,rfl,a,b⟩:=r.inv
  rw[List.all_cons,Bool.and_eq_true] at h
  obtain ⟨e1,e2⟩:=qmy h.1 a
  obtain ⟨e3,e4⟩:=qgp h.2 b
  refine ⟨by rw[List.map_cons,List.map_cons,←e1,←e3],?_⟩
  rw[List.map_cons,List.map_cons,List.map_cons,e2,e4]
end
theorem qe2 {ts:List T} (h:qdz ts=true) {t:T} (ht:t∈ts): ∃s0,qd6 s0=true∧∀u∈ts,qco u=s0:=by
 cases ts with
 | nil=>cases ht
 | cons t0 ts=>
  have h':(qd6 (qco t0)&&ts.all fun u=>qco u==qco t0)=true:=h
  rw[Bool.and_eq_true] at h'
  refine ⟨qco t0,h'.1,fun u hu=> ?_⟩
  rcases List.mem_cons.mp hu with rfl | hu
  ·rfl
  ·exact eq_of_beq (List.all_eq_true.mp h'.2 u hu)
theorem qkk {t:T} (h:qco t=[0]): ∃i,t= .int i:=by
 cases t with
 | int i=>exact ⟨i,rfl⟩
 | _=>cases h
theorem qkj {t:T} (h:qco t=[1]): ∃x,t= .str x:=by
 cases t with
 | str i=>exact ⟨i,rfl⟩
 | _=>cases h
theorem qki {t:T} {x:Nat} {r:List Nat} (h:qco t=2::x::r): ∃us,t= .tup us∧us.map shT=x::r:=by
 cases t with
 | tup us=>exact ⟨us,rfl,(List.cons.inj h).2⟩
 | _=>cases h
theorem qpj {us:List T} {l:List Nat} (h:us.map shT=l) (ho:l.all (fun n=>n==0||n==1)=true):us.all qpk=true:=by
 subst h
 rw[List.all_map] at ho
 refine List.all_eq_true.mpr fun u hu=> ?_
 exact List.all_eq_true.mp ho u hu
theorem qfN {s0:List Nat} (h:qd6 s0=true):s0=[0]∨s0=[1]∨∃x r,s0=2::x::r∧(x::r).all (fun n=>n==0||n==1)=true:=by
 unfold qd6 at h
 split at h
 ·exact .inl rfl
 ·exact .inr (.inl rfl)
 ·exact .inr (.inr ⟨_,_,rfl,h⟩)
 ·cases h
open PySem.W PyProof.Rows in
theorem qk9 {prog:Program} {w:World} {A:Around} {E:Value→Shared→Prop} {s:Shared} {Q:SortKind→Shared→Prop} (its:List Value) (h2:2≤its.length) (hv: ∀v∈its,∃x t,v= .str x t) (hq:Q oneType' s):wpAny (model prog w) A (keyKind' its.toArray) Q E s:=
 match its,h2,hv with
 | v1::v2::vs',_,hv=>by
  rw[keyKind_strs (strsAre_map _ hv)]
  exact wpAny_pure hq
theorem qfp {h:Heap} {P:Value→Prop}: ∀(l:List Value),(∀v∈l,∃f,(∃a o xs n,v= .ref a∧h.get? a=some o∧o.cls= .type "tuple" ∧o.data= .seq xs n∧xs[0]? =some f)∧P f)→∃fs,PySem.W.KatTups h l fs∧fs.length=l.length∧∀f∈fs,P f
 | [],_=>⟨[],trivial,rfl,fun _ hf=>nomatch hf⟩
 | v::l,hl=>by
  obtain ⟨f,h1,h2⟩:=hl v List.mem_cons_self
  obtain ⟨fs,h3,h4,h5⟩:=qfp l fun u hu=>hl u (List.mem_cons_of_mem _ hu)
  refine ⟨f::fs,⟨h1,h3⟩,by simp[h4],fun g hg=> ?_⟩
  rcases List.mem_cons.mp hg with rfl | hg
  ·exact h2
  ·exact h5 g hg
section
variable {X:Cx}
open PySem.W PyProof.Rows in
theorem qcw:qe0 X (.builtin "sorted") (fun xs H Q=> ∃(B:Hp) (a:Addr) (vs:List V) (ts:List T),xs=[.ref a]∧Le B H∧SqL X.K H a vs∧qaP X.K B ts vs∧ts.length<64∧qdz ts=true∧
  ∀(D:Addr) (ys:List V),H D=none→qaP X.K B (qdn ts) ys→Q (.ref D) (L2.upd H D (.lst ys))):=by
 intro pins s σ H xs us Q I r h
 obtain ⟨B,a,vs,ts,rfl,le,hS,hR,h64,hok,q⟩:=h
 obtain ⟨u,rfl,ru⟩:=qfz r
 cases ru
 obtain ⟨its,rv,pl,hz⟩:=I.list hS
 have l1:=rv.length
 have l2:=hR.length
 have elem: ∀{m:Nat},m<ts.length→Rep X.K B (ts.getD m .non) (vs.getD m .non)∧RelV (vs.getD m .non) (its.getD m Value.none)∧ts.getD m .non∈ts:=fun {m} hm=>⟨hR.getD m hm,qge rv m,by
  rw[List.getD_eq_getElem?_getD,List.getElem?_eq_getElem hm]; exact List.getElem_mem hm⟩
 have key1: ∀{m:Nat},m<ts.length→((ts.map qex).map (rank qdW (ts.map qex))).getD m 0=rank qdW (ts.map qex) (qex (ts.getD m .non)):=fun {m} hm=>by
  rw[List.getD_eq_getElem?_getD,List.getElem?_map,List.getElem?_map,List.getElem?_eq_getElem hm,List.getD_eq_getElem?_getD,List.getElem?_eq_getElem hm]
  rfl
 have main: ∀κ:SortKind,(∀s':Shared,St.Kp s.heap s'.heap→2≤its.length→∀(Q:SortKind→Shared→Prop) (E:Value→Shared→Prop),Q κ s'→wpAny (model X.prog X.w) X.A.in1.in1 (keyKind' its.toArray) Q E s')→
   (∀s':Shared,St.Kp s.heap s'.heap→∀i j,i<ts.length→j<ts.length→∀C:Bool→Shared→Prop,C (qdW (qex (ts.getD i .non)) (qex (ts.getD j .non))) s'→wpAny (model X.prog X.w) X.A.in1.in1 (keyLt' κ (its.getD i Value.none) (its.getD j Value.none)) C (fun _ _=>False) s')→
   wpAny (model X.prog X.w) X.A (call (.builtin "sorted") [.ref a]) (EP X pins σ Q) X.xe s:=fun κ kind cmp=>by
  refine St.sorted_p (kz:=(ts.map qex).map (rank qdW (ts.map qex))) (κ:=κ) pl.isList (by simp; lia) (by lia) kind (fun s' k i j hi hj C hc=> ?_) fun D h' tk c p hD kp ho hget=> ?_
  ·have hi':i<ts.length:=by lia
   have hj':j<ts.length:=by lia
   rw[key1 hi',key1 hj',qfF qqC (List.mem_map.mpr ⟨_,(elem hi').2.2,rfl⟩) (List.mem_map.mpr ⟨_,(elem hj').2.2,rfl⟩)] at hc
   exact cmp s' k i j hi' hj' C hc
  ·have fD:H D=none:=I.hok.fresh hD
   have I3:Inv X pins σ (L2.upd H D (.lst (p.toList.map fun j=>vs.getD j .non))) { s with heap:=h',toks:=tk }:=by
    refine I.laid kp hD ⟨?_,_,c,L2.vals_pick rv p.toList,hget⟩
    rw[List.length_map,Array.length_toList,ho.1.sz,sizeLine_eq]
    lia
   refine ⟨.ref D,_,I3,rfl,q D _ fD ?_⟩
   have ep:=qdG ho
   have e:qdn ts=p.toList.map fun j=>ts.getD j .non:=by
    unfold qdn qke
    rw[ep,srt_congr (k':=fun j=>rank qdW (ts.map qex) (qex (ts.getD j .non))),qcy (k:=fun t=>rank qdW (ts.map qex) (qex t)) (f:=fun j=>ts.getD j .non) (fun b=>rfl),show its.length=ts.length by lia,Mir.map_range_getD]
    intro b hb
    have hb':b<ts.length:=by have:=List.mem_range.mp hb; lia
    exact key1 hb'
   rw[e]
   have go: ∀l:List Nat,(∀j∈l,j<ts.length)→qaP X.K B (l.map fun j=>ts.getD j .non) (l.map fun j=>vs.getD j .non):=fun l=>by
    induction l with
    | nil=>exact fun _=>.nil
    | cons j l ih=>exact fun hl=>.cons (elem (hl j List.mem_cons_self)).1 (ih fun i hi=>hl i (List.mem_cons_of_mem _ hi))
   exact go _ fun j hj=>by have:=(Mir.order_mem ho j).mp hj; lia
 rcases Nat.eq_zero_or_pos ts.length with z | z
 ·exact main oneType' (fun s' k h2=>by lia) (fun s' k i j hi=>by lia)
 ·obtain ⟨s0,ok0,sh⟩:=qe2 hok (elem z).2.2
  have hInts:s0=[0]→wpAny (model X.prog X.w) X.A (call (.builtin "sorted") [.ref a]) (EP X pins σ Q) X.xe s:=fun e0=>by
   have at_: ∀{m:Nat},m<ts.length→∃n t,ts.getD m .non= .int n∧its.getD m Value.none= .int n t:=fun {m} hm=>by
    obtain ⟨a1,a2,a3⟩:=elem hm
    obtain ⟨n,en⟩:=qkk (e0▸sh _ a3)
    rw[en] at a1
    rw[qar a1] at a2
    obtain ⟨t,et⟩:=a2
    exact ⟨n,t,en,et⟩
   refine main oneType' (fun s' k h2 Q' E' hq=> ?_) (fun s' k i j hi hj C hc=> ?_)
   ·have hI: ∀l:List Value,(∀v∈l,∃n t,v= .int n t)→∃ns,IntsAre l ns:=fun l=>by
     induction l with
     | nil=>exact fun _=>⟨[],.nil⟩
     | cons v l ih=>
      intro hl
      obtain ⟨n,t,rfl⟩:=hl v List.mem_cons_self
      obtain ⟨ns,hn⟩:=ih fun u hu=>hl u (List.mem_cons_of_mem _ hu)
      exact ⟨n::ns,.cons n t hn⟩
    obtain ⟨ns,hns⟩:=hI its fun v hv=>by
     obtain ⟨m,hm,rfl⟩:=List.mem_iff_getElem.mp hv
     obtain ⟨n,t,_,e⟩:=at_ (m:=m) (by lia)
     rw[List.getD_eq_getElem?_getD,List.getElem?_eq_getElem hm] at e
     exact ⟨n,t,e⟩
    rw[ksk_kind (keys:=its.toArray) (by simpa using hns) (by simpa using h2)]
    exact wpAny_pure hq
   ·obtain ⟨n1,t1,f1,g1⟩:=at_ hi
    obtain ⟨n2,t2,f2,g2⟩:=at_ hj
    rw[g1,g2]
    rw[f1,f2] at hc
    refine kat_lt_int ?_
    have e:qdW (qex (.int n1)) (qex (.int n2))=decide (n1<n2):=by
     show (if Ky.i n1=Ky.i n2 then false else decide (n1<n2))=_
     by_cases c:n1=n2
     ·subst c; rw[if_pos rfl]; exact (decide_eq_false (Int.lt_irrefl _)).symm
     ·rw[if_neg (fun z=>c (by cases z; rfl))]
    rw[←e]; exact hc
  have hStrs:s0=[1]→wpAny (model X.prog X.w) X.A (call (.builtin "sorted") [.ref a]) (EP X pins σ Q) X.xe s:=fun e0=>by
   have at_: ∀{m:Nat},m<ts.length→∃n t,ts.getD m .non= .str n∧its.getD m Value.none= .str n t:=fun {m} hm=>by
    obtain ⟨a1,a2,a3⟩:=elem hm
    obtain ⟨n,en⟩:=qkj (e0▸sh _ a3)
    rw[en] at a1
    rw[qaJ a1] at a2
    obtain ⟨t,et⟩:=a2
    exact ⟨n,t,en,et⟩
   refine main oneType' (fun s' k h2 Q' E' hq=> ?_) (fun s' k i j hi hj C hc=> ?_)
   ·have hv': ∀v∈its,∃x t,v= .str x t:=fun v hv=>by
     obtain ⟨m,hm,rfl⟩:=List.mem_iff_getElem.mp hv
     obtain ⟨n,t,_,e⟩:=at_ (m:=m) (by lia)
     rw[List.getD_eq_getElem?_getD,List.getElem?_eq_getElem hm] at e
     exact ⟨n,t,e⟩
    exact qk9 its h2 hv' hq
   ·obtain ⟨n1,t1,f1,g1⟩:=at_ hi
    obtain ⟨n2,t2,f2,g2⟩:=at_ hj
    rw[g1,g2]
    rw[f1,f2] at hc
    refine kas_lt_str ?_
    have e:qdW (qex (.str n1)) (qex (.str n2))=decide (n1.cps.toList<n2.cps.toList):=by
     show (if Ky.s n1=Ky.s n2 then false else RH.ltS n1 n2)=_
     by_cases c:n1=n2
     ·subst c; rw[if_pos rfl]; exact (RH.ordS.irr n1).symm
     ·rw[if_neg (fun z=>c (by cases z; rfl))]; rfl
    rw[←e]; exact hc
  have hTups: ∀x r,s0=2::x::r→(x::r).all (fun n=>n==0||n==1)=true→wpAny (model X.prog X.w) X.A (call (.builtin "sorted") [.ref a]) (EP X pins σ Q) X.xe s:=fun x r e0 ho=>by
   have at_: ∀{m:Nat},m<ts.length→∃us p its2,ts.getD m .non= .tup us∧us.map shT=x::r∧its.getD m Value.none= .ref p∧IsTup s.heap p (List.toArray its2)∧Vals ((us.map kyT).map kyV) its2∧(us.map kyT).map shK=x::r:=fun {m} hm=>by
    obtain ⟨a1,a2,a3⟩:=elem hm
    obtain ⟨us,en,es⟩:=qki (e0▸sh _ a3)
    rw[en] at a1
    obtain ⟨p,ws,ep,sq,rs⟩:=qbn a1
    rw[ep] at a2
    have g:its.getD m Value.none= .ref p:=a2
    obtain ⟨its2,rv2,pl2,_⟩:=I.tuple (le.sqT sq)
    obtain ⟨f1,f2⟩:=qgp (qpj es ho) rs
    exact ⟨us,p,its2,en,es,g,pl2,f1▸rv2,f2▸es⟩
   refine main (tuples' true) (fun s' k h2 Q' E' hq=> ?_) (fun s' k i j hi hj C hc=> ?_)
   ·have hx:x=0∨x=1:=by
     rw[List.all_cons,Bool.and_eq_true] at ho
     have:=ho.1
     simpa using this
    have fst: ∀v∈its,∃f,(∃a o xs n,v= .ref a∧s'.heap.get? a=some o∧o.cls= .type "tuple" ∧o.data= .seq xs n∧xs[0]? =some f)∧((x=0∧∃i t,f=Value.int i t)∨(x=1∧∃i t,f=Value.str i t)):=fun v hv=>by
     obtain ⟨m,hm,rfl⟩:=List.mem_iff_getElem.mp hv
     obtain ⟨us,p,w1,f1,_,g1,i1,v1,k1⟩:=at_ (m:=m) (by lia)
     rw[List.getD_eq_getElem?_getD,List.getElem?_eq_getElem hm] at g1
     obtain ⟨o1,e1,c1,n1,d1⟩:=i1
     cases hk:us.map kyT with
     | nil=>rw[hk] at k1; cases k1
     | cons ky kr=>
      rw[hk] at v1 k1
      cases v1 with
      | cons r0 rr=>
       have ks:shK ky=x:=(List.cons.inj k1).1
       cases ky with
       | i n=>
        obtain ⟨tk,rfl⟩:=r0
        exact ⟨_,⟨p,o1,_,n1,g1,k _ _ e1,c1,d1,rfl⟩,.inl ⟨ks.symm,n,tk,rfl⟩⟩
       | s n=>
        obtain ⟨tk,rfl⟩:=r0
        exact ⟨_,⟨p,o1,_,n1,g1,k _ _ e1,c1,d1,rfl⟩,.inr ⟨ks.symm,n,tk,rfl⟩⟩
    obtain ⟨fs,k1,k2,k3⟩:=qfp its fst
    rcases hx with rfl | rfl
    ·refine PySem.W.kat_kind k1 (by lia) (T:=.type "int") (fun v hv=> ?_) (by decide) ?_
     ·rcases k3 v hv with ⟨_,i,t,rfl⟩ | ⟨z,_⟩
      ·exact PySem.W.Looks.of_pure rfl
      ·cases z
     ·exact hq
    ·refine PySem.W.kat_kind k1 (by lia) (T:=.type "str") (fun v hv=> ?_) (by decide) ?_
     ·rcases k3 v hv with ⟨z,_⟩ | ⟨_,i,t,rfl⟩
      ·cases z
      ·exact PySem.W.Looks.of_pure rfl
     ·exact hq
   ·obtain ⟨u1,p1,w1,f1,_,g1,i1,v1,k1⟩:=at_ hi
    obtain ⟨u2,p2,w2,f2,_,g2,i2,v2,k2⟩:=at_ hj
    rw[g1,g2]
    rw[f1,f2] at hc
    obtain ⟨o1,e1,_,n1,d1⟩:=i1
    obtain ⟨o2,e2,_,n2,d2⟩:=i2
    refine kat_lt (k _ _ e1) d1 (k _ _ e2) d2 ?_
    have hl:w1.length=w2.length:=by
     have h1:=v1.length
     have h2:=v2.length
     have h3:=congrArg List.length (k1.trans k2.symm)
     simp only[List.length_map] at h1 h2 h3
     lia
    rw[show decide ((List.toArray w1).size<(List.toArray w2).size)=false by simp[hl]]
    exact qsR _ _ _ _ 0 v1 v2 (k1.trans k2.symm) hc
  rcases qfN ok0 with e | e | ⟨x,r,e,ho⟩
  ·exact hInts e
  ·exact hStrs e
  ·exact hTups x r e ho
end
end PL
end
section
namespace PL
open PySem L2 SR SetL
section
variable {M:Md} {X:Cx} {e a b:Expr} {pos p1 p2 p3:Pos} {da db:Ro→Rs T} {dq:Ro→Rs (Bool×List T)}
theorem tQ.mono {σ:St} {H:Hp} {Q Q':VK} (f: ∀v H1,Q v H1→Q' v H1) (h:tQ M dq σ H Q):tQ M dq σ H Q':=by
 obtain ⟨H0,B0,ρ,B,ev,w⟩:=h
 exact tQ.of ev (Wnt.mono (qdT.mp w) fun q k p vs H' B' g m hq r=>f _ _ (k p vs H' B' g m hq r))
def qfb:T→Str
 | .str x=>x
 | _=> ""
def qll:T→Bool
 | .str _=>true
 | _=>false
theorem qgn {K:PySem.W.Frag} {B:Hp}: ∀{ts:List T} {vs:List V},ts.all qll=true→qaP K B ts vs→vs=(ts.map qfb).map V.str
 | [],_,_,r=>r.inv0
 | t::ts,_,h,r=>by
  obtain ⟨v,rr,rfl,a,b⟩:=r.inv
  rw[List.all_cons,Bool.and_eq_true] at h
  cases t with
  | str x=>rw[qaJ a,qgn h.2 b]; rfl
  | _=>exact absurd h.1 Bool.false_ne_true
theorem qeg {K:PySem.W.Frag} {B:Hp}: ∀(ss:List Str),qaP K B (ss.map T.str) (ss.map V.str)
 | []=>.nil
 | s::ss=>.cons qgx (qeg ss)
def qmY (ss:List Str):List Str:=qe4 RH.ltS (dd ss)
def qhI (q:Bool×List T):Rs (List T):=if (q.1=true∧q.2.length<64)∧q.2.all qll=true then .ok ((qmY (q.2.map qfb)).map T.str) else .no
theorem qlJ (hc:X.calm=true) (gs:Gl X "sorted") (ms:X.mg "sorted" =none) (gt:Gl X "set") (mt:X.mg "set" =none) (ha:DQ M X a dq) (he:starEach [a] X.env=(false,eval a X.env)::starEach [] X.env:=by rfl):
  DF M X (.Call (.Name "sorted" p1) [.Call (.Name "set" p2) [a] [] p3] [] pos) (qcv qhI dq):=by
 refine PE.weak (qfJ (qrW X.prog X.w) hc gs ms gt mt ha (fun σ H Q Q' f h=>tQ.mono f h) he) fun σ H Q hq35=> ?_
 obtain ⟨H0,B0,ρ,B,ev,w⟩:=hq35
 refine tQ.of ev (Wnt.mono (Wnt.bind (qcp.mp w)) fun q w1 p vs H1 B1 g1 m1 hq r1=> ?_)
 have ev1:=ev.grow g1 m1
 unfold qhI at w1
 split at w1
 ·rename_i hcc
  rw[if_pos hcc.1.1] at hq
  refine ⟨p,q.2.map qfb,rfl,SqL.of (by rw[qgn hcc.2 r1] at hq; exact hq),by rw[List.length_map]; exact hcc.1.2,fun D hD=> ?_⟩
  obtain ⟨g,m',bp⟩:=qdJ (M:=M) (ws:=(qmY (q.2.map qfb)).map V.str) ev1.bh ev1.bt m1 hD
  exact w1 D _ _ B1 (g1.trans g) m' (none_of g1.gx hD) bp qag (qeg _)
 ·exact w1.elim
def qlm:T→Bool
 | .int _=>true
 | _=>false
def qgL:T→Int
 | .int b=>b
 | _=>0
theorem qgo {K:PySem.W.Frag} {B:Hp}: ∀{ts:List T} {vs:List V},ts.all qlm=true→qaP K B ts vs→vs=(ts.map qgL).map V.int
 | [],_,_,r=>r.inv0
 | t::ts,_,h,r=>by
  obtain ⟨v,rr,rfl,a,b⟩:=r.inv
  rw[List.all_cons,Bool.and_eq_true] at h
  cases t with
  | int x=>rw[qar a,qgo h.2 b]; rfl
  | _=>exact absurd h.1 Bool.false_ne_true
def qd0 (q:Bool×List T):Rs (List T):=if (q.1=true∧q.2.length<64)∧qdz q.2=true then .ok (qdn q.2) else .no
theorem qdU (h:PE X e (tCB (fun xs H Q=> ∃(B:Hp) (a:Addr) (vs:List V) (ts:List T),xs=[.ref a]∧Le B H∧SqL X.K H a vs∧qaP X.K B ts vs∧ts.length<64∧qdz ts=true∧
  ∀(D:Addr) (ys:List V),H D=none→qaP X.K B (qdn ts) ys→Q (.ref D) (L2.upd H D (.lst ys))) (qdm (tQ M dq) qj1))) (hK:X.K=M.K:=by rfl):DF M X e (qcv qd0 dq):=
 qra h (fun H B p vs q c Q le bt m hq r ec k=>by
  unfold qd0 at ec
  split at ec
  ·rename_i hcc
   cases ec
   unfold qoq at hq
   rw[if_pos hcc.1.1] at hq
   refine ⟨B,p,vs,q.2,rfl,le,SqL.of hq,by rw[hK]; exact r,hcc.1.2,hcc.2,fun D ys hD ry=> ?_⟩
   obtain ⟨g,m',bp⟩:=qdJ (M:=M) (ws:=ys) le bt m hD
   exact k D ys _ B g m' hD bp qag (by rw[←hK]; exact ry)
  ·cases ec) (fun q c z=>by unfold qd0 at z; split at z<;>cases z)
def qm4:T→Bool
 | .bl _=>true
 | _=>false
def ql1:T→Bool
 | .bl b=>b
 | _=>false
theorem qil {K:PySem.W.Frag} {B:Hp}: ∀{ts:List T} {vs:List V},ts.all qm4=true→qaP K B ts vs→vs=(ts.map ql1).map V.bl
 | [],_,_,r=>r.inv0
 | t::ts,_,h,r=>by
  obtain ⟨v,rr,rfl,a,b⟩:=r.inv
  rw[List.all_cons,Bool.and_eq_true] at h
  cases t with
  | bl x=>rw[qbA a,qil h.2 b]; rfl
  | _=>exact absurd h.1 Bool.false_ne_true
def qmf (q:Bool×List T):Rs T:=if q.1=true∧q.2.all qm4=true then .ok (.bl (q.2.all ql1)) else .no
theorem qi3 (h:PE X e (tCB (fun xs H Q=> ∃(a:Addr) (bs:List Bool),xs=[.ref a]∧SqL X.K H a (bs.map V.bl)∧Q (.bl (bs.all id)) H) (qdm (tQ M dq) qj1))):DE M X e (dCQ qmf dq):=
 qoh h (fun H B p vs q c Q le bt m hq r ec k=>by
  unfold qmf at ec
  split at ec
  ·rename_i hcc
   cases ec
   unfold qoq at hq
   rw[if_pos hcc.1] at hq
   refine ⟨p,q.2.map ql1,rfl,SqL.of (by rw[←qil hcc.2 r]; exact hq),?_⟩
   rw[List.all_map]
   exact k _ H B (.refl le bt) m qdq
  ·cases ec) (fun q c z=>by unfold qmf at z; split at z<;>cases z)
def qrA:T→T→Rs T
 | .int i,.int j=>.ok (.int (if j<i then j else i))
 | _,_=>.no
def dB2 (g:T→T→Rs T) (da db:Ro→Rs T):Ro→Rs T:=fun ρ=>da ρ>>=fun x=>db ρ>>=fun y=>g x y
theorem qrd (h:PE X e (tCB (fun xs H Q=> ∃i j,xs=[.int i,.int j]∧Q (.int (if j<i then j else i)) H) (qdm (tP M da) (qdm (tP M db) qj1)))):DE M X e (dB2 qrA da db):=by
 refine PE.weak h fun σ H Q hq128=> ?_
 obtain ⟨H0,B0,ρ,B,ev,w⟩:=hq128
 refine tP.of ev (Wnt.mono (Wnt.bind (qaG.mp w)) fun x w1 v H1 B1 g1 m1 r1=> ?_)
 have ev1:=ev.grow g1 m1
 refine tP.of ev1 (Wnt.mono (Wnt.bind w1) fun y w2 v2 H2 B2 g2 m2 r2=> ?_)
 cases x with
 | int i=>
  cases y with
  | int j=>
   rw[qar r1,qar r2]
   exact ⟨i,j,rfl,w2 _ H2 B2 (g1.trans g2) m2 qbB⟩
  | _=>exact w2.elim
 | _=>exact w2.elim
def tyT:T→String
 | .non=> "NoneType" | .bl _=> "bool" | .int _=> "int" | .str _=> "str" | .tup _=> "tuple" | .lst _=> "list" | _=> ""
def qiM (N:String) (t:T):Bool:=tyT t==N||(N== "int" &&tyT t== "bool")
def qhQ (N:String):T→Rs T
 | .dct _=>.no
 | .dtu _=>.no
 | .dcf _=>.no
 | .fn _=>.no
 | .scr _=>.no
 | t=>.ok (.bl (qiM N t))
def qmc (K:PySem.W.Frag) (N:String):Prop:= ∀m∈["NoneType", "bool", "int", "str", "tuple", "list"],PySem.W.kitOne K (.type m) (.type N)=some (m==N||(N== "int" &&m== "bool"))
theorem qcx {N:String} (hk:qmc X.K N):qe0 X (.builtin "isinstance") (fun xs H Q=> ∃B x t c,xs=[x,.ty N]∧Le B H∧Rep X.K B t x∧qhQ N t= .ok c∧∀v,Rep X.K B c v→Q v H):=by
 intro pins s σ H xs us Q I r h
 obtain ⟨B,x,t,c,rfl,le,rx,ec,q⟩:=h
 obtain ⟨u,w',rfl,ru,rw'⟩:=qj2 r
 cases rw'
 have fin: ∀{m:String},tyT t=m→m∈["NoneType", "bool", "int", "str", "tuple", "list"]→qja X.K H x (.type m)→qhQ N t= .ok (.bl (qiM N t))→wpAny (model X.prog X.w) X.A (call (.builtin "isinstance") [u,.type N]) (EP X pins σ Q) X.xe s:=fun {m} e1 e2 ty e3=>by
  rw[e3] at ec
  cases ec
  refine qgJ I ru ty (hk m e2) fun tk=>⟨.bl _,H,I.tok tk,rfl,q _ ?_⟩
  have:(m==N||(N== "int" &&m== "bool"))=qiM N t:=by unfold qiM; rw[e1]
  rw[this]
  exact qdq
 cases t with
 | non=>cases qbW rx; exact fin (m:= "NoneType") rfl (by simp) .non rfl
 | bl y=>cases qbA rx; exact fin (m:= "bool") rfl (by simp) (.bl y) rfl
 | int y=>cases qar rx; exact fin (m:= "int") rfl (by simp) (.int y) rfl
 | str y=>cases qaJ rx; exact fin (m:= "str") rfl (by simp) (.str y) rfl
 | lst ts=>
  obtain ⟨p,vs,rfl,hp,_⟩:=qbK rx
  exact fin (m:= "list") rfl (by simp) (.lst (le _ _ hp)) rfl
 | tup ts=>
  obtain ⟨p,vs,rfl,hp,_⟩:=qbn rx
  cases ru
  cases ec
  obtain ⟨its,rv,⟨o,h1,h2,_⟩,_⟩:=I.tuple (le.sqT hp)
  refine PySem.W.kia_one PySem.W.kitx_tuple I.kIn ⟨o,h1,h2⟩ (hk "tuple" (by simp)) (fun z=>nomatch z) fun tk=>⟨.bl _,H,I.tok tk,rfl,q _ ?_⟩
  exact qdq
 | dct _=>cases ec
 | dtu _=>cases ec
 | dcf _=>cases ec
 | fn _=>cases ec
 | scr _=>cases ec
def qbt (N:String) (da:Ro→Rs T):Ro→Rs T:=fun ρ=>da ρ>>=qhQ N
theorem qf3 {N:String} (h:PE X e (tCB (fun xs H Q=> ∃B x t c,xs=[x,.ty N]∧Le B H∧Rep X.K B t x∧qhQ N t= .ok c∧∀v,Rep X.K B c v→Q v H) (qdm (tP M da) (qdm (tC (.ty N)) qj1)))) (hK:X.K=M.K:=by rfl):DE M X e (qbt N da):=by
 refine PE.weak h fun σ H Q hq180=> ?_
 obtain ⟨H0,B0,ρ,B,ev,w⟩:=hq180
 refine tP.of ev (Wnt.mono (Wnt.bind (qaG.mp w)) fun x w1 v H1 B1 g1 m1 r1=> ?_)
 have ev1:=ev.grow g1 m1
 cases z:qhQ N x with
 | no=>rw[z] at w1; exact w1.elim
 | ex c=>exfalso; cases x<;>cases z
 | ok c=>
  rw[z] at w1
  exact ⟨B1,v,x,c,rfl,ev1.bh,by rw[hK]; exact r1,z,fun v' rv'=>w1 v' H1 B1 g1 m1 (by rw[←hK]; exact rv')⟩
end
end PL
end
section
namespace PL
open PySem L2 SR SetL
def qlt (i:Nat):T→Bool
 | .tup us=>(match us[i]? with | some (.int _)=>true | _=>false)
 | _=>false
def qfT (i:Nat):T→Int
 | .tup us=>(match us[i]? with | some (.int m)=>m | _=>0)
 | _=>0
theorem qjF {i:Nat} {t:T} (h:qlt i t=true): ∃us,t= .tup us∧us[i]? =some (.int (qfT i t)):=by
 cases t with
 | tup us=>
  refine ⟨us,rfl,?_⟩
  have h':(match us[i]? with | some (.int _)=>true | _=>false)=true:=h
  show us[i]? =some (.int (match us[i]? with | some (.int m)=>m | _=>0))
  split at h'
  ·rename_i e; rw[e]
  ·cases h'
 | _=>cases h
def qgj (i:Nat) (q:Bool×List T):Rs (List T):=if (q.1=true∧q.2.length<64)∧q.2.all (qlt i)=true then .ok (srt (qfT i) q.2) else .no
section
variable {M:Md} {X:Cx} {e:Expr} {dq:Ro→Rs (Bool×List T)} {P:Addr} {lpos:Pos} {qual:Str} {i:Nat}
theorem qnp (h:PE X e (qnF X.K P lpos qual i (tQ M dq))) (hT: ∀H,M.G.P H→Tab P lpos qual H) (hT': ∀H H2,M.G.P H→qed P H H2→Tab P lpos qual H2→M.G.P H2) (hK:X.K=M.K:=by rfl):DF M X e (qcv (qgj i) dq):=by
 refine PE.weak h fun σ H Q hq28=> ?_
 obtain ⟨H0,B0,ρ,B,ev,w⟩:=hq28
 refine tQ.of ev (Wnt.mono (Wnt.bind (qcp.mp w)) fun q w1 p vs H1 B1 g1 m1 hq r1=> ?_)
 have ev1:=ev.grow g1 m1
 unfold qgj at w1
 split at w1
 ·rename_i hcc
  rw[if_pos hcc.1.1] at hq
  have l2:=r1.length
  have tb:=hT _ m1
  have at_: ∀{j:Nat},j<q.2.length→∃us,q.2.getD j .non= .tup us∧us[i]? =some (.int (qfT i (q.2.getD j .non))):=fun {j} hj=>by
   have hm:q.2.getD j .non∈q.2:=by rw[List.getD_eq_getElem?_getD,List.getElem?_eq_getElem hj]; exact List.getElem_mem hj
   exact qjF (List.all_eq_true.mp hcc.2 _ hm)
  refine ⟨p,vs,q.2.map (qfT i),rfl,SqL.of hq,by rw[l2]; exact hcc.1.2,⟨by rw[List.length_map,l2],fun j x m hx hm=> ?_⟩,tb,fun H2 D pp sm tb2 n1 n2 ho=> ?_⟩
  ·have hj:j<q.2.length:=by rw[←l2]; exact (List.getElem?_eq_some_iff.mp hx).1
   obtain ⟨us,eu,ei⟩:=at_ hj
   have rr:=r1.getD j hj
   have ex:vs.getD j .non=x:=by rw[List.getD_eq_getElem?_getD,hx]; rfl
   rw[ex,eu] at rr
   obtain ⟨t,ws,et,sq,rs⟩:=qbn rr
   obtain ⟨v,ev',rv⟩:=rs.get ei
   rw[qar rv] at ev'
   have em:qfT i (q.2.getD j .non)=m:=by
    rw[List.getElem?_map,List.getElem?_eq_getElem hj] at hm
    rw[List.getD_eq_getElem?_getD,List.getElem?_eq_getElem hj]
    exact Option.some.inj hm
   rw[em] at ev'
   exact ⟨t,ws,et,by rw[hK]; exact ev1.bh.sqT sq,ev'⟩
  ·obtain ⟨ps,hP,_⟩:=id tb
   obtain ⟨ps2,hP2,_⟩:=id tb2
   have notP: ∀b o,B1 b=some o→b≠P:=fun b o eb z=>by
    subst z
    have:=ev1.bh _ _ eb
    rw[hP] at this; cases this
    exact ev1.bt _ _ eb
   have g2:qbJ H1 B1 H2 B1:=⟨⟨fun b o eb ne=>sm b o eb (fun z=>by subst z; rw[hP] at eb; cases eb; exact ne ps rfl),fun b nb=>by
     by_cases z:b=P
     ·subst z; rw[hP2]; intro w; cases w
     ·cases eb:H1 b with
      | none=>exact absurd eb nb
      | some o=>rw[sm b o eb z]; intro w; cases w⟩,.refl _,fun b o eb=>sm b o (ev1.bh _ _ eb) (notP b o eb),ev1.bt,fun _ _ _ _ _=>rfl⟩
   have m2:=hT' _ _ m1 sm tb2
   obtain ⟨g,m',bp⟩:=qdJ (M:=M) (ws:=pp.toList.map fun j=>vs.getD j .non) g2.bh ev1.bt m2 n2
   refine w1 D _ _ B1 ((g1.trans g2).trans g) m' (none_of g1.gx n1) bp qag ?_
   have ep:=qdG ho
   have ee:srt (qfT i) q.2=pp.toList.map fun j=>q.2.getD j .non:=by
    rw[ep,srt_congr (k':=fun j=>qfT i (q.2.getD j .non)),qcy (k:=qfT i) (f:=fun j=>q.2.getD j .non) (fun b=>rfl),l2,Mir.map_range_getD]
    intro b hb
    have hb':b<q.2.length:=by have:=List.mem_range.mp hb; lia
    rw[List.getD_eq_getElem?_getD,List.getElem?_map,List.getElem?_eq_getElem hb',List.getD_eq_getElem?_getD,List.getElem?_eq_getElem hb']
    rfl
   rw[ee]
   have go: ∀l:List Nat,(∀j∈l,j<q.2.length)→qaP M.K B1 (l.map fun j=>q.2.getD j .non) (l.map fun j=>vs.getD j .non):=fun l=>by
    induction l with
    | nil=>exact fun _=>.nil
    | cons j l ih=>exact fun hl=>.cons (r1.getD j (hl j List.mem_cons_self)) (ih fun i hi=>hl i (List.mem_cons_of_mem _ hi))
   exact go _ fun j hj=>by have:=(Mir.order_mem ho j).mp hj; lia
 ·exact w1.elim
end
end PL
end
section
namespace PL
open PySem L2 SR SetL
def Kn (P:Program) (w:World) (K:PySem.W.Frag) (mg:Str→Option Value) (base:Heap) (G:Gam) (C:Str→Addr) (x:Str) (ps:List Str) (k:Nat) (fT:List T→Rs T):Prop:=
 ∃f fd,qbb P w K mg base CX0 k f fd ps (spP K G C fT)∧mg x=some (.ref f)∧PySem.W.keepIn K (.ref f)=true∧qbz K fd ps []
section
variable {M:Md} {X:Cx} {e a b:Expr} {es:List Expr} {pos p p1 p2 p3:Pos} {da db:Ro→Rs T} {ds:Ro→Rs (List T)} {dq:Ro→Rs (Bool×List T)} {x:Str} {k:Nat} {ps:List Str} {fT:List T→Rs T}
theorem qah (F:Kn X.prog X.w X.K X.mg X.base M.G M.C x ps k fT) (hK:X.K=M.K) (hr:qcR k X.A) (hg:Gl X x) (ha:DA M X (e::es) ds) (hdb:(x==("__debug__" :Str))=false:=by decide)
  (he:starEach (e::es) X.env=(false,eval e X.env)::starEach es X.env:=by rfl) (hpl:(backTo pos (starEach es X.env)).any (·.1)=false:=by rfl):DE M X (.Call (.Name x p) (e::es) [] pos) (qaj fT ds):=by
 obtain ⟨f,fd,G,m,kk,bb⟩:=F
 rw[hK] at G
 exact qpw (by rw[hK]; exact G) hr hg m kk bb qsw ha hdb he hpl
def qdv (i j:Nat) (da db:Ro→Rs T):Ro→Rs Out:=fun ρ=>da ρ>>=fun t=>db ρ>>=fun u=>.ok (.nx ((ρ.set i (.fz t)).set j (.fz u)))
def qb2 (i j:Nat) (da:Ro→Rs T) (ds:Ro→Rs (List T)):Ro→Rs Out:=fun ρ=>da ρ>>=fun t=>ds ρ>>=fun u=>.ok (.nx ((ρ.set i (.fz t)).set j (.ow u)))
theorem qmK {i j:Nat} {D:qmh} {σ:St} {H:Hp} (h:tS M (qdv i j da db) D σ H):qtn i j (qdm (tP M da) (qdm (tP M db) qj1)) D σ H:=by
 obtain ⟨H0,B0,ρ,B,ev,w⟩:=h
 refine tP.of ev (Wnt.mono (Wnt.bind w) fun t w1 v H1 B1 g1 m1 r1=> ?_)
 have ev1:=ev.grow g1 m1
 refine tP.of ev1 (Wnt.mono (Wnt.bind w1) fun u w2 v2 H2 B2 g2 m2 r2=> ?_)
 have ev2:=ev1.grow g2 m2
 exact ⟨v,v2,rfl,w2 _ H2 B2 ((ev2.set (i:=i) (r1.mono g2.bb)).set r2) (g1.bb.trans g2.bb)⟩
def qbF (dg:T→Ro→Rs Ro) (da:Ro→Rs T):Ro→Rs Out:=fun ρ=>da ρ>>=fun t=>dg t ρ>>=fun ρ'=>.ok (.nx ρ')
theorem qpr {tg:Expr} {dg:T→Ro→Rs Ro} (h:DE M X e da) (hg:DG M X tg dg) (hs:swapsWithSole [tg] e pos.line X.env=pure false:=by rfl) (hw:swappedStores [tg] e X.env=pure none:=by rfl)
  (h1:(assignEach [tg] X.env).map (·.2)=[assign tg X.env]:=by rfl):DS M X (.Assign [tg] e pos) (qbF dg da):=by
 refine PS.weak (qqu h hg hs hw h1) fun D σ H hq38=> ?_
 obtain ⟨H0,B0,ρ,B,ev,w⟩:=hq38
 refine tP.of ev (Wnt.mono (Wnt.bind w) fun t w1 v H1 B1 g1 m1 r1=> ?_)
 have ev1:=ev.grow g1 m1
 exact ⟨H0,B0,ρ,B1,t,ev1,r1,Wnt.mono (Wnt.bind w1) fun ρ' w2 σ' ev'=>w2 σ' H1 B1 ev' g1.bb⟩
def qn8:T→Rs T
 | .str z=>if z.length≤1000 then .ok (.int z.length) else .no
 | .tup ts=>.ok (.int ts.length)
 | .lst ts=>.ok (.int ts.length)
 | _=>.no
def qcL (da:Ro→Rs T):Ro→Rs T:=fun ρ=>da ρ>>=qn8
theorem qeV (hg:Gl X "len") (hm:X.mg "len" =none) (h:DE M X a da) (hK:X.K=M.K:=by rfl) (he:starEach [a] X.env=(false,eval a X.env)::starEach [] X.env:=by rfl):DE M X (.Call (.Name "len" p) [a] [] pos) (qcL da):=by
 have hc:qe0 X (.builtin "len") (fun xs H Q=>(∃p ys,xs=[.ref p]∧(SqL X.K H p ys∨SqT X.K H p ys)∧Q (.int ys.length) H)∨∃z,xs=[.str z]∧z.length≤sizeLine∧Q (.int z.length) H):=fun pins s σ H xs us Q I r h=>h.elim (qg4 pins s σ H xs us Q I r) (qg3 pins s σ H xs us Q I r)
 refine PE.weak (qaB hc hg hm PySem.boot_len (qaf h qaq he) (by decide) (by decide) he rfl) fun σ H Q hq51=> ?_
 obtain ⟨H0,B0,ρ,B,ev,w⟩:=hq51
 refine tP.of ev (Wnt.mono (Wnt.bind (qaG.mp w)) fun t w1 v H1 B1 g1 m1 r1=> ?_)
 have ev1:=ev.grow g1 m1
 cases t with
 | str z=>
  rw[qaJ r1]
  unfold qn8 at w1
  dsimp only at w1
  split at w1
  ·rename_i hz
   exact .inr ⟨z,rfl,Nat.le_trans hz (by decide),w1 _ H1 B1 g1 m1 qbB⟩
  ·exact w1.elim
 | tup ts=>
  obtain ⟨q,vs,rfl,sq,rs⟩:=qbn r1
  exact .inl ⟨q,vs,rfl,.inr (by rw[hK]; exact ev1.bh.sqT sq),by rw[rs.length]; exact w1 _ H1 B1 g1 m1 qbB⟩
 | lst ts=>
  obtain ⟨q,vs,rfl,sq,rs⟩:=qbK r1
  exact .inl ⟨q,vs,rfl,.inl (SqL.of (ev1.bh _ _ sq)),by rw[rs.length]; exact w1 _ H1 B1 g1 m1 qbB⟩
 | _=>exact w1.elim
end
end PL
end
section
namespace PL
open PySem L2 SR SetL
def names:List Str:=["len", "isinstance", "all", "min", "sorted", "set", "tuple", "list", "int", "bool", "str", "range", "zip", "sum", "any", "max"]
theorem hu8 {k:Nat} {A:Around} (r:qcR k A):A.units+8<cLine:=by have:=r.units; lia
def qbG (da:Ro→Rs T):Ro→Rs T:=fun ρ=>da ρ>>=qtD
theorem boot_all:bootBuiltins "all" =some (.builtin "all"):=by decide+kernel
theorem qnu:bootBuiltins "min" =some (.builtin "min"):=by decide+kernel
theorem boot_tuple:bootBuiltins "tuple" =some (.type "tuple"):=by decide+kernel
section
variable {M:Md} {X:Cx} {a:Expr} {pos:Pos} {da:Ro→Rs T}
theorem qrc (h:DE M X a da):DE M X (.UnaryOp .USub a pos) (qbG da):=by
 refine PE.weak (qqz qnz h) fun σ H Q hq15=> ?_
 obtain ⟨H0,B0,ρ,B,ev,w⟩:=hq15
 refine tP.of ev (Wnt.mono (Wnt.bind (qaG.mp w)) fun t w1 v H1 B1 g1 m1 r1=> ?_)
 cases t with
 | int i=>rw[qar r1]; exact ⟨i,rfl,w1 _ H1 B1 g1 m1 qbB⟩
 | _=>exact w1.elim
end
end PL
namespace PL
open PySem L2 SR SetL
section
variable {M:Md} {X:Cx} {a b:Expr} {pos px py pt pt2:Pos} {kt k2:Nat} {x y:Str} {i j:Nat} {da db:Ro→Rs T} {ds:Ro→Rs (List T)}
theorem qob (hc:X.calm=true) (hN:X.N.Nodup) (hi:X.N[i]? =some x) (hj:X.N[j]? =some y) (hij:i≠j) (hx:X.env.scope.names.lookup x=some .local) (hy:X.env.scope.names.lookup y=some .local) (ha:DE M X a da) (hb:DE M X b db)
  (hw:swappedStores [.Tuple [.Name x px,.Name y py] kt pt] (.Tuple [a,b] k2 pt2) X.env=pure (some [x,y])) (he:starEach (a::[b]) X.env=(false,eval a X.env)::starEach [b] X.env:=by rfl) (he2:starEach (b::[]) X.env=(false,eval b X.env)::starEach [] X.env:=by rfl)
  (hs:swapsWithSole [.Tuple [.Name x px,.Name y py] kt pt] (.Tuple [a,b] k2 pt2) pos.line X.env=pure false:=by rfl):
  DS M X (.Assign [.Tuple [.Name x px,.Name y py] kt pt] (.Tuple [a,b] k2 pt2) pos) (qdv i j da db):=
 PS.weak (qqt hc hN hi hj hij hx hy (qaf ha (qaf hb qaq he2) he) hw hs) fun D σ H h=>qmK h
end
end PL
end
section
namespace PL
open PySem L2 SR SetL
theorem qao (ts:List T):qfS (.lst ts)= .ok ts:=rfl
theorem qan (ts:List T):qfS (.tup ts)= .ok ts:=rfl
theorem qas (ts:List T):qkl (.lst ts)= .ok (true,ts):=rfl
theorem qav (ts:List T):qkl (.tup ts)= .ok (false,ts):=rfl
theorem qaO (i j:Int):qcb (.int i) (.int j)= .ok (.int (i+j)):=rfl
theorem qa7 (i:Int):qtD (.int i)= .ok (.int (-i)):=rfl
theorem qa4 (i j:Int):gSub (.int i) (.int j)= .ok (.int (i - j)):=rfl
theorem qa0 (i j:Int):qn7 (.int i) (.int j)=if (-1000000≤i∧i≤1000000)∨(-1000000≤j∧j≤1000000) then .ok (.int (i*j)) else .no:=rfl
theorem qbf (i j:Int):quI (.int i) (.int j)=if 0<j∧j<1073741824 then .ok (.int (i / j)) else .no:=rfl
theorem qa1 (i j:Int):qpV (.int i) (.int j)=if 0<j then .ok (.int (i % j)) else .no:=rfl
theorem qbU (i j:Int):gLt (.int i) (.int j)= .ok (.bl (decide (i<j))):=rfl
theorem qbO (i j:Int):gLe (.int i) (.int j)= .ok (.bl (decide (i≤j))):=rfl
theorem qbE (i j:Int):gGt (.int i) (.int j)= .ok (.bl (decide (j<i))):=rfl
theorem qb0 (i j:Int):gGe (.int i) (.int j)= .ok (.bl (decide (j≤i))):=rfl
theorem qbZ (i j:Bool):gIs (.bl i) (.bl j)= .ok (.bl (i==j)):=rfl
theorem qaz (i j:Bool):qq1 (.bl i) (.bl j)= .ok (.bl (i != j)):=rfl
theorem qa8 (i j:Int):qrA (.int i) (.int j)= .ok (.int (if j<i then j else i)):=rfl
theorem qby (i j:Int):gEq (.int i) (.int j)= .ok (.bl (i==j)):=rfl
theorem qbY (i j:Int):gNe (.int i) (.int j)= .ok (.bl (!(i==j))):=rfl
theorem qb1 (i j:Str):gEq (.str i) (.str j)= .ok (.bl (i==j)):=rfl
theorem qa9 (z:Str):qn8 (.str z)=if z.length≤1000 then .ok (.int z.length) else .no:=rfl
theorem qbe (ts:List T):qn8 (.tup ts)= .ok (.int ts.length):=rfl
theorem qa5 (ts:List T):qn8 (.lst ts)= .ok (.int ts.length):=rfl
section
variable {α:Type} {dg:T→Ro→Rs Ro} {dt:Ro→Rs Bool} {de:Ro→Rs T} {di:Ro→Rs (List T)} {f h:α→T} {p:α→Bool} {ρ:Ro}
theorem qeB (I:Ro→Prop): ∀(xs:List α) (ρ:Ro),(∀x∈xs,∀ρ,I ρ→∃ρ',dg (f x) ρ= .ok ρ'∧I ρ'∧dt ρ'= .ok (p x)∧(p x=true→de ρ'= .ok (h x)))→I ρ→qjO dg dt de (xs.map f) ρ= .ok ((xs.filter p).map h)
 | [],_,_,_=>rfl
 | x::xs,ρ,st,hI=>by
  obtain ⟨ρ',e1,i1,e2,e3⟩:=st x List.mem_cons_self ρ hI
  have ih:=qeB I xs ρ' (fun y hy=>st y (List.mem_cons_of_mem _ hy)) i1
  rw[List.map_cons,qjO]
  rw[e1,qai,e2,qai,List.filter_cons]
  by_cases c:p x=true
  ·rw[if_pos c,if_pos c,e3 c,qai,ih,qai]; rfl
  ·rw[if_neg c,if_neg c,ih]
theorem qcV {fr:List Nat} {xs:List α} (hi:di ρ= .ok (xs.map f)) (hs: ∀x∈xs,dt (.fz (f x)::fr.map fun i=>qh4 ρ[i]?)= .ok (p x)∧(p x=true→de (.fz (f x)::fr.map fun i=>qh4 ρ[i]?)= .ok (h x))):
  qa2 1 fr di (gN 0) dt de ρ= .ok ((xs.filter p).map h):=by
 unfold qa2
 rw[hi,qai]
 refine congrArg noX (qeB (fun ρ'=> ∃s,ρ'=s::fr.map fun i=>qh4 ρ[i]?) xs _ (fun x hx ρ' ⟨s,e⟩=> ?_) ⟨.no,rfl⟩)
 subst e
 exact ⟨_,rfl,⟨_,rfl⟩,(hs x hx).1,(hs x hx).2⟩
variable {a b c:α→T}
theorem qrg {fr:List Nat} {xs:List α} (hi:di ρ= .ok (xs.map fun x=>.tup [a x,b x])) (hs: ∀x∈xs,dt (.fz (a x)::.fz (b x)::fr.map fun i=>qh4 ρ[i]?)= .ok (p x)∧(p x=true→de (.fz (a x)::.fz (b x)::fr.map fun i=>qh4 ρ[i]?)= .ok (h x))):
  qa2 2 fr di (gT 2 (gsC (gN 0) (gsC (gN 1) gsN))) dt de ρ= .ok ((xs.filter p).map h):=by
 unfold qa2
 rw[hi,qai]
 refine congrArg noX (qeB (f:=fun x=>.tup [a x,b x]) (fun ρ'=> ∃s s',ρ'=s::s'::fr.map fun i=>qh4 ρ[i]?) xs _ (fun x hx ρ' ⟨s,s',e⟩=> ?_) ⟨.no,.no,rfl⟩)
 subst e
 exact ⟨_,rfl,⟨_,_,rfl⟩,(hs x hx).1,(hs x hx).2⟩
theorem qok {fr:List Nat} {xs:List α} (hi:di ρ= .ok (xs.map fun x=>.tup [a x,b x,c x])) (hs: ∀x∈xs,dt (.fz (a x)::.fz (b x)::.fz (c x)::fr.map fun i=>qh4 ρ[i]?)= .ok (p x)∧(p x=true→de (.fz (a x)::.fz (b x)::.fz (c x)::fr.map fun i=>qh4 ρ[i]?)= .ok (h x))):
  qa2 3 fr di (gT 3 (gsC (gN 0) (gsC (gN 1) (gsC (gN 2) gsN)))) dt de ρ= .ok ((xs.filter p).map h):=by
 unfold qa2
 rw[hi,qai]
 refine congrArg noX (qeB (f:=fun x=>.tup [a x,b x,c x]) (fun ρ'=> ∃s s' s'',ρ'=s::s'::s''::fr.map fun i=>qh4 ρ[i]?) xs _ (fun x hx ρ' ⟨s,s',s'',e⟩=> ?_) ⟨.no,.no,.no,rfl⟩)
 subst e
 exact ⟨_,rfl,⟨_,_,_,rfl⟩,(hs x hx).1,(hs x hx).2⟩
theorem qaU {xs:List α}:xs.filter (fun _=>true)=xs:=by simp
theorem qez {db:Ro→Rs Out} (I:List α→Ro→Prop) (whole:List α): ∀(xs done:List α) (ρ:Ro),done++xs=whole→(∀(dn:List α) (x:α) (qdB:List α) ρ,dn++x::qdB=whole→I dn ρ→∃ρ1 ρ2,dg (f x) ρ= .ok ρ1∧(db ρ1= .ok (.nx ρ2)∨db ρ1= .ok (.ct ρ2))∧I (dn++[x]) ρ2)→I done ρ→∃ρ',qpW dg db (xs.map f) ρ= .ok (.nx ρ')∧I whole ρ'
 | [],done,ρ,hw,_,hI=>⟨ρ,rfl,by rw[List.append_nil] at hw; rw[←hw]; exact hI⟩
 | x::xs,done,ρ,hw,st,hI=>by
  obtain ⟨ρ1,ρ2,e1,e2,i2⟩:=st done x xs ρ hw hI
  obtain ⟨ρ',e3,i3⟩:=qez I whole xs (done++[x]) ρ2 (by rw[←hw]; simp) st i2
  refine ⟨ρ',?_,i3⟩
  rw[List.map_cons,qpW,e1,qai]
  rcases e2 with e2 | e2<;>(rw[e2,qai]; exact e3)
end
abbrev Row:=Int×Str×Int
def qb3 (r:Row):T:=.tup [.int r.1,.str r.2.1,.int r.2.2]
def qaE (rs:List Row):T:=.lst (rs.map qb3)
def qcX (x:Str):Prop:=(1≤x.length∧x.length≤2)∧∀c∈x.cps.toList,97≤c∧c≤122
def qhj (r:Row):Prop:=(0≤r.1∧r.1≤99)∧qcX r.2.1∧ -99≤r.2.2∧r.2.2≤99
end PL
end
section
namespace PL
open PySem L2
section
variable {prog:Program} {w:World} {A:Around} {E:Value→Shared→Prop} {s:Shared}
end
section
variable {M:Md} {X:Cx} {es:List Expr} {pos:Pos} {dr:List T→Ro→Rs Ro}
def gL (n:Nat) (dr:List T→Ro→Rs Ro):T→Ro→Rs Ro:=fun t ρ=>match t with | .lst ts=>if ts.length=n then dr ts ρ else .no | _=>.no
end
end PL
namespace PL
open PySem L2
theorem qhG (K:PySem.W.Frag): ∀N∈["int", "bool", "str", "tuple"],qmc K N:=by
 intro N hN m hm
 simp only[List.mem_cons,List.not_mem_nil,or_false] at hN hm
 rcases hN with rfl | rfl | rfl | rfl<;>rcases hm with rfl | rfl | rfl | rfl | rfl | rfl<;>rfl
end PL
end
section
namespace St
open PySem PySem.W PySem.Calls PyProof.Rows
section
variable {prog:Program} {w:World} {A:Around} {E:Value→Shared→Prop} {s:Shared} {D kS:Addr} {vs:List Value} {kz:List Int} {P:PySem.Fin→Shared→Prop} {h0:Heap} {KV:Heap→Nat→Value→Prop}
end
section
variable {prog:Program} {w:World} {A:Around} {E:Value→Shared→Prop} {s:Shared} {l:Addr} {vs:List Value} {kz:List Int} {Q:Value→Shared→Prop} {KV:Heap→Nat→Value→Prop}
end
end St
end
section
namespace L2
open PySem PySem.Spec PyProof.Rows
structure qtR (x:Str) (v:Value) (env:Env) (h:Heap):Prop where
 kind:env.scope.kind= .function
 loc:env.kindOf x=some .local
 ns: ∃m,h.Ns env.locals m∧m x=some v
section
variable {prog:Program} {w:World} {A:Around} {E:Value→Shared→Prop} {s:Shared} {env:Env} {x:Str} {t:Addr} {its:List Value} {v:Value} {i j:Nat} {p1 p2 p3:Pos} {Q:Value→Shared→Prop}
end
end L2
end
section
namespace PL
open PySem L2 SR SetL
section
open PySem.W PyProof.Rows
variable {prog:Program} {w:World} {A:Around} {E:Value→Shared→Prop} {s:Shared}
end
section
variable {M:Md} {X:Cx} {e:Expr} {dq:Ro→Rs (Bool×List T)} {x:Str} {P c:Addr} {params:Arguments} {scope:Scope} {p1 p2 p3 p4 p5 p6 tp lpos kpos p pos:Pos} {i j j1 j2 kk:Nat} {qual:Str}
end
end PL
end
section
namespace PL
open PySem L2 SR SetL
section
variable {X:Cx}
end
section
variable {M:Md} {X:Cx} {e a:Expr} {pos p1 p2 p3:Pos} {dq:Ro→Rs (Bool×List T)}
end
section
variable {M:Md} {X:Cx} {a b c:Expr} {pos px py pz pt pt2:Pos} {kt k2:Nat} {x y z:Str} {i j k:Nat} {da db dc:Ro→Rs T} {ds:Ro→Rs (List T)} {ta:TA}
end
end PL
end
section
namespace St
open PySem PySem.W PySem.Calls PyProof.Rows
section
variable {prog:Program} {w:World} {A:Around} {s:Shared} {h0:Heap} {l q I S:Addr} {vs:List Value} {kf:Nat→Int} {d:Value} {R:Result→Shared→Prop}
end
end St
end
section
namespace St
open PySem PySem.W PySem.Calls PyProof.Rows
section
variable {prog:Program} {w:World} {A:Around} {E:Value→Shared→Prop} {s:Shared} {l q:Addr} {vs:List Value} {kf:Nat→Int} {d:Value} {Q:Value→Shared→Prop}
end
end St
end
section
namespace PL
open PySem L2 SR SetL
section
variable {M:Md} {X:Cx} {e:Expr} {dq:Ro→Rs (Bool×List T)} {x:Str} {P c:Addr} {params:Arguments} {scope:Scope} {p1 p2 p3 p4 p5 p6 bp dp lpos kpos kpos2 p pos:Pos} {i j j1 j2 j3:Nat} {qual:Str}
end
end PL
end
section
namespace L2
open PySem PySem.Spec PyProof.Rows
def qg9 (Ts:List Addr) (H:Hp):Prop:=(∀T∈Ts,H T=some (.tbl #[]))∧∀b,b∉Ts→H b=none∨∃o xs,H b=some (.frz o (.lst xs))
theorem qjC {P:Program} {w:World} {K:PySem.W.Frag} {mg mb:Str→Option Value} {CX:CXT} {k:Nat} {fa a:Addr} {cts:List (Addr×Addr)} {fd:FuncData} {x:Str} {sp:Sp} {s₁:Shared} {vs:List Value} {ns:List Int}
  (KX:K.In s₁.heap) (hns:s₁.heap.Ns mainGlobals mg) (hb:s₁.heap.Ns builtinsNs mb) (hbb: ∀x:Str,x≠ "__name__" →mb x=bootBuiltins x) (hlim:s₁.heap.NoLimit) (hg:s₁.gens= #[])
  (ha:s₁.heap.get? a=some { cls:=.type "list",data:=.seq vs.toArray }) (hi:IntsAre vs ns) (hl:ns.length≤sizeLine) (hr:qcR k callerA)
  (hC: ∀p∈cts,PySem.W.CodeHd s₁.heap p.1 p.2) (hT: ∀T∈cts.map (·.2),s₁.heap.get? T=some (PySem.W.tabObj #[])) (hKT: ∀T∈cts.map (·.2),K.lookup T=none) (hbm:qf8 mg s₁.heap)
  (F: ∀base:Heap,K.In base→base.Ns mainGlobals mg→(∀p∈cts,PySem.W.CodeHd base p.1 p.2)→qf8 mg base→qbb P w K mg base CX k fa fd [x] sp) (hbind: ∀(s:Shared) (u:Value),BindsTo s fd ⟨[u],[]⟩ [(x,u)])
  (hsp: ∀H:Hp,qg9 (cts.map (·.2)) H→SqL K H a (ns.map V.int)→sp [.ref a] H (fun v _=>v= .bl true) fun _ _ _=>False)
  (hCX: ∀H e s',CX [] H s₁ (fun _ _ _=>False) e s'→False):
  codeAny (model P w) callerA (.call (.ref fa) ⟨[.ref a],[]⟩) (fun r s'=>r= .ok (.ret (.bool true))∧OldK s₁.heap s'.heap∧s'.os=s₁.os∧AllBare s'.gens) s₁:=by
 have rv:=qeD hi
 have lenV:=hi.length
 have core: ∀H:Hp,qg9 (cts.map (·.2)) H→SqL K H a (ns.map V.int)→HOk P w H s₁.heap→(∀b,H b≠none→b=a∨b∈cts.map (·.2))→(H a≠none→K.lookup a=none)→
   codeAny (model P w) callerA (.call (.ref fa) ⟨[.ref a],[]⟩) (fun r s'=>r= .ok (.ret (.bool true))∧OldK s₁.heap s'.heap∧s'.os=s₁.os∧AllBare s'.gens) s₁:=by
  intro H hO hS hok hA hK
  have base_of: ∀{b:Addr} {o:Obj},s₁.heap.get? b=some o→H b=none→(qhb s₁.heap H).get? b=some o:=fun e n=>qiO e n
  have other: ∀{b:Addr} {o:Obj},s₁.heap.get? b=some o→(∀xs n,o.data≠.seq xs n)→(o.cls≠.none)→H b=none:=fun {b o} e d d2=>by
   cases q:H b with
   | none=>rfl
   | some u=>
    rcases hA b (by rw[q]; simp) with z | z
    ·subst z
     rw[ha] at e; cases e
     exact absurd rfl (d _ _)
    ·rw[hT b z] at e; cases e
     exact absurd rfl d2
  have noA: ∀{b:Addr} {o:Obj} {es:Array DictEntry} {ep:Nat},s₁.heap.get? b=some o→o.data= .dict es ep→H b=none:=fun {b o es ep} e d=>by
   cases q:H b with
   | none=>rfl
   | some u=>
    rcases hA b (by rw[q]; simp) with z | z
    ·subst z
     rw[ha] at e; cases e
     have d':Data.seq vs.toArray _=Data.dict es ep:=d
     cases d'
    ·rw[hT b z] at e; cases e
     have d':Data.fields _=Data.dict es ep:=d
     cases d'
  have nsK: ∀{b:Addr} {m:Str→Option Value},s₁.heap.Ns b m→(qhb s₁.heap H).Ns b m:=fun {b m} ⟨o,es,ep,e,d,r⟩=>⟨o,es,ep,base_of e (noA e d),d,r⟩
  have hKb:K.In (qhb s₁.heap H):=fun b o e=>base_of (KX b o e) (by
   cases q:H b with
   | none=>rfl
   | some u=>
    rcases hA b (by rw[q]; simp) with z | z
    ·subst z
     rw[hK (by rw[q]; simp)] at e; cases e
    ·rw[hKT b z] at e; cases e)
  have hM:Mod K mg (qhb s₁.heap H):=⟨hKb,nsK hns,⟨mb,nsK hb,hbb⟩,let ⟨mc,h1,h2⟩:=hlim; ⟨mc,nsK h1,h2⟩⟩
  have hCb: ∀p∈cts,PySem.W.CodeHd (qhb s₁.heap H) p.1 p.2:=fun p hp=>by
   obtain ⟨o,vs',file,tf,flags,tg,inF,text,tt,e1,e2,e3,r⟩:=hC p hp
   exact ⟨o,vs',file,tf,flags,tg,inF,text,tt,base_of e1 (other e1 (fun xs n z=>by rw[e3] at z; cases z) (fun z=>by rw[e2] at z; cases z)),e2,e3,r⟩
  have hBb:qf8 mg (qhb s₁.heap H):=by
   obtain ⟨bm,ob,b1,b2,b3,b4,b5,b6⟩:=hbm
   exact ⟨bm,ob,b1,b2,base_of b3 (other b3 (fun xs n z=>by rw[b6] at z; cases z) (fun z=>by rw[b4] at z; cases z)),b4,b5,b6⟩
  have e0:qmd P w K mg (qhb s₁.heap H) callerA [] s₁ H:=⟨rfl,hM,fun b o e=>qkW e,Nat.le_of_eq (qgN _ _),trivial,fun b hb=>absurd (show b∈([]:List Addr) from hb) (by simp),hok,.of_eq hg⟩
  refine codeAny_mono ((F _ hKb (nsK hns) hCb hBb).run callerA [] s₁ H ⟨[.ref a],[]⟩ [.ref a] [.ref a] _ _ hr e0 (hbind s₁ (.ref a)) (.cons rfl .nil) (hsp H hO hS)) fun r s' h=> ?_
  cases r with
  | error e=>exact (hCX H e s' h).elim
  | ok fl=>
   cases fl with
   | next=>exact False.elim h
   | brk=>exact False.elim h
   | cont=>exact False.elim h
   | ret u=>
    obtain ⟨v,H',os,bare,un,hok',r',q⟩:=h
    have q':v= .bl true:=q
    subst q'
    obtain rfl:u=Value.bool true:=r'
    have old: ∀b o,b∉cts.map (·.2)→s₁.heap.get? b=some o→s'.heap.get? b=some o:=fun b o hbT e=>by
     cases q:H b with
     | none=>exact un.keep b o e q (by intro z; exact absurd (show b∈([]:List Addr) from z) (by simp)) (by simp)
     | some u=>
      rcases hO.2 b hbT with z | ⟨ob,xs,z⟩
      ·rw[q] at z; cases z
      ·have z2:=un.frzs b ob _ z
       obtain ⟨e1,_⟩:=hok b _ z
       obtain ⟨e2,_⟩:=hok' b _ z2
       rw[e] at e1; cases e1
       exact e2
    have tb: ∀T∈cts.map (·.2),∃more,s'.heap.get? T=some (PySem.W.tabObj (#[]++more)):=fun T hTm=>by
     obtain ⟨more,hT'⟩:=un.tbls T _ (hO.1 T hTm)
     exact ⟨more,hok' T _ hT'⟩
    refine ⟨rfl,⟨fun b o e=> ?_,fun b o e=> ?_⟩,os,bare⟩
    ·by_cases z:b∈cts.map (·.2)
     ·obtain ⟨more,hT2⟩:=tb b z
      rw[hT b z] at e; cases e
      obtain ⟨p,hp,rfl⟩:=List.mem_map.mp z
      exact .inr (.inl ⟨((hC p hp).tab (hT _ z)).isCodeTable,rfl, #[],more,rfl,hT2⟩)
     ·exact .inl (old b o z e)
    ·by_cases z:b∈cts.map (·.2)
     ·obtain ⟨more,hT2⟩:=tb b z
      exact ⟨_,hT2⟩
     ·exact ⟨o,old b o z e⟩
 have aT:a∉cts.map (·.2):=fun z=>by rw[hT a z] at ha; cases ha
 cases hk:K.lookup a with
 | some o=>
  have e:=KX a o hk
  rw[ha] at e
  cases e
  refine core (fun b=>if b∈cts.map (·.2) then some (.tbl #[]) else none) ⟨fun T hTm=>if_pos hTm,fun b hb=>.inl (if_neg hb)⟩ (.inr ⟨_,vs.toArray,_,hk,rfl,rfl,rfl,by rw[List.size_toArray,lenV]; exact hl,by simpa using rv⟩) (fun b u z=> ?_) (fun b z=> ?_) fun z=>absurd (if_neg aT) z
  ·by_cases hb:b∈cts.map (·.2)
   ·have z':=(if_pos hb).symm.trans z
    cases z'
    exact hT b hb
   ·have z':=(if_neg hb).symm.trans z
    cases z'
  ·by_cases hb:b∈cts.map (·.2)
   ·exact .inr hb
   ·exact absurd (if_neg hb) z
 | none=>
  refine core (fun b=>if b∈cts.map (·.2) then some (.tbl #[]) else if b=a then some (.frz { cls:=.type "list",data:=.seq vs.toArray } (.lst (ns.map V.int))) else none) ⟨fun T hTm=>if_pos hTm,fun b hbT=> ?_⟩ (.inl (.inr ⟨{ cls:=.type "list",data:=.seq vs.toArray },(if_neg aT).trans (if_pos rfl)⟩)) (fun b u z=> ?_) (fun b z=> ?_) fun _=>hk
  ·by_cases hb:b=a
   ·exact .inr ⟨_,_,(if_neg hbT).trans (if_pos hb)⟩
   ·exact .inl ((if_neg hbT).trans (if_neg hb))
  ·by_cases hbT:b∈cts.map (·.2)
   ·have z':=(if_pos hbT).symm.trans z
    cases z'
    exact hT b hbT
   ·by_cases hb:b=a
    ·have z':=((if_neg hbT).trans (if_pos hb)).symm.trans z
     cases z'
     subst hb
     exact ⟨ha,by rw[List.length_map]; exact hl,vs,_,rv,ha⟩
    ·have z':=((if_neg hbT).trans (if_neg hb)).symm.trans z
     cases z'
  ·by_cases hbT:b∈cts.map (·.2)
   ·exact .inr hbT
   ·by_cases hb:b=a
    ·exact .inl hb
    ·exact absurd ((if_neg hbT).trans (if_neg hb)) z
theorem walk_ofTs {l:PySem.W.OpenLaw} {n k:Nat} {q:Program} {loose:List Str} {XP:(Str→Option Value)→Heap→Prop} {YP:World→Heap→Prop} {d:DefRec} {K:Params→PySem.W.Frag} {CX:World→CXT} {sp:World→List (Addr×Addr)→Sp} {x:Str} {ys:List Str}
  (hn:l.most=some n) (hn2:n≤sizeLine) (hdf:d.params.defaults=[]) (hr:qcR k callerA)
  (hY: ∀(w:World) (h:Heap),YP w h→(K w.params).In h) (hrec: ∀y∈ys,∃dx,(recsOf q).find? (fun e=>e.name==y)=some dx)
  (F: ∀(w:World) (mg:Str→Option Value) (fa:Addr) (h:Heap),(K w.params).In h→h.Ns mainGlobals mg→mg d.name=some (.ref fa)→
   ∃(fd:FuncData) (cts:List (Addr×Addr)),ys.map (PySem.W.tabIn (K w.params))=cts.map some∧(∀T∈cts.map (·.2),(K w.params).lookup T=none)∧(∀(s:Shared) (u:Value),BindsTo s fd ⟨[u],[]⟩ [(x,u)])∧
    (∀base:Heap,(K w.params).In base→base.Ns mainGlobals mg→(∀p∈cts,PySem.W.CodeHd base p.1 p.2)→qf8 mg base→qbb l.prog w (K w.params) mg base (CX w) k fa fd [x] (sp w cts)))
  (hsp: ∀(w:World) (cts:List (Addr×Addr)) (H:Hp) (a:Addr) (ns:List Int),ns.length≤n→qg9 (cts.map (·.2)) H→SqL (K w.params) H a (ns.map V.int)→sp w cts [.ref a] H (fun v _=>v= .bl true) fun _ _ _=>False)
  (hCX: ∀(w:World) (H:Hp) (s:Shared) (e:Value) (s':Shared),CX w [] H s (fun _ _ _=>False) e s'→False):
  PySem.W.WalkO q loose XP YP l.row.toRowW d [] (fun f vs=>PySem.call f vs):=by
 refine Att.attach_call hn hdf fun w s₀ s₁ mg mb fa o pm cd doc a vs ns G Y ho hd hcd hmg hobj hints hlen hg=> ?_
 have KX:=hY w _ Y
 obtain ⟨fd,cts,ht,hkt,hb,hF⟩:=F w mg fa _ KX G.T.g hmg
 have each: ∀p∈cts,PySem.W.CodeHd s₁.heap p.1 p.2∧s₁.heap.get? p.2=some (PySem.W.tabObj #[]):=fun p hp=>by
  have hm:some p∈ys.map (PySem.W.tabIn (K w.params)):=by rw[ht]; exact List.mem_map.mpr ⟨p,hp,rfl⟩
  obtain ⟨y,hy,ey⟩:=List.mem_map.mp hm
  obtain ⟨dx,hdx⟩:=hrec y hy
  exact PySem.W.tab_of G.T KX hdx ey
 have hC:=fun p hp=>(each p hp).1
 have hT: ∀T∈cts.map (·.2),s₁.heap.get? T=some (PySem.W.tabObj #[]):=fun T hTm=>by
  obtain ⟨p,hp,rfl⟩:=List.mem_map.mp hTm
  exact (each p hp).2
 exact qjC KX G.T.g G.T.b G.T.builtins G.T.nolimit hg hobj hints (Nat.le_trans hlen hn2) hr hC hT hkt G.T.bmain hF hb (fun H hO hS=>hsp w cts H a ns hlen hO hS) fun H e s'=>hCX w H s₁ e s'
end L2
end
section
namespace PL
open PySem L2 SR SetL
theorem qqM {α:Type}: ∀{us:List α},us.length=1→∃a,us=[a]
 | [a],_=>⟨a,rfl⟩
theorem qpU {α:Type}: ∀{us:List α},us.length=2→∃a b,us=[a,b]
 | [a,b],_=>⟨a,b,rfl⟩
theorem qpT {α:Type}: ∀{us:List α},us.length=3→∃a b c,us=[a,b,c]
 | [a,b,c],_=>⟨a,b,c,rfl⟩
theorem hu1 {k:Nat} {A:Around} (r:qcR k A):A.units+1<cLine:=by have:=r.units; lia
theorem ql0:bootBuiltins "max" =some (.builtin "max"):=by decide+kernel
def qer (l:List (Addr×Pos×Str)):Gam where
 P:=fun H=> ∀p∈l,Tab p.1 p.2.1 p.2.2 H
 st:=fun H H' k h p hp=>by
  obtain ⟨ps,h1,h2,h3⟩:=h p hp
  refine ⟨ps,k _ _ h1 (fun _ z=>by cases z) (fun _ z=>by cases z) (fun _ z=>by cases z) (fun _ _ _ z=>by cases z),h2,h3.imp_right fun ⟨c,a,b⟩=>⟨c,a,k _ _ b (fun _ z=>by cases z) (fun _ z=>by cases z) (fun _ z=>by cases z) (fun _ _ _ z=>by cases z)⟩⟩
theorem qm7 {l:List (Addr×Pos×Str)} {P:Addr} {lpos:Pos} {qual:Str} (h:(P,lpos,qual)∈l): ∀H,(qer l).P H→Tab P lpos qual H:=fun H g=>g _ h
theorem qgA {β:Type}: ∀{l:List (Addr×β)},(l.map (·.1)).Nodup→∀{a b:Addr×β},a∈l→b∈l→a.1=b.1→a=b
 | [],_,_,_,h,_,_=>by cases h
 | x::l,nd,a,b,ha,hb,e=>by
  rw[List.map_cons,List.nodup_cons] at nd
  rcases List.mem_cons.mp ha with rfl | ha'
  ·rcases List.mem_cons.mp hb with rfl | hb'
   ·rfl
   ·exact absurd (by rw[e]; exact List.mem_map.mpr ⟨b,hb',rfl⟩) nd.1
  ·rcases List.mem_cons.mp hb with rfl | hb'
   ·exact absurd (by rw[←e]; exact List.mem_map.mpr ⟨a,ha',rfl⟩) nd.1
   ·exact qgA nd.2 ha' hb' e
theorem qjH {l:List (Addr×Pos×Str)} {P:Addr} {lpos:Pos} {qual:Str} (h:(P,lpos,qual)∈l) (nd:(l.map (·.1)).Nodup): ∀H H2,(qer l).P H→qed P H H2→Tab P lpos qual H2→(qer l).P H2:=fun H H2 g same t p hp=>by
 by_cases e:p.1=P
 ·have:=qgA nd hp h e
  subst this
  exact t
 ·obtain ⟨ps,h1,h2,h3⟩:=g p hp
  obtain ⟨qs,k1,_⟩:=g _ h
  refine ⟨ps,same _ _ h1 e,h2,h3.imp_right fun ⟨c,a,b⟩=>⟨c,a,same _ _ b fun z=> ?_⟩⟩
  subst z
  rw[k1] at b
  cases b
theorem qrL {Ts:List Addr} {lq:List (Pos×Str)} {H:Hp} (h:qg9 Ts H):(qer (Ts.zip lq)).P H:=fun p hp=>⟨#[],h.1 _ (List.of_mem_zip hp).1,trivial,.inl rfl⟩
end PL
end
section
namespace PL
open PySem L2
section
variable {M:Md} {H0 B0 H B H' B':Hp} {ρ:Ro} {σ:St}
end
def qfo:T→Option Key
 | .int i=>some (.inl i)
 | .str x=>some (.inr x)
 | _=>none
def qhK:Key→T
 | .inl i=>.int i
 | .inr x=>.str x
def qoK (kvs:List (Key×T)) (k:Key) (t:T):List (Key×T):=if (kvs.any fun kv=>decide (kv.1=k))=true then kvs.map (fun kv=>if kv.1=k then (kv.1,t) else kv) else kvs++[(k,t)]
def qme (kvs:List (Key×T)) (k:Key):Option T:=(kvs.find? fun kv=>decide (kv.1=k)).map (·.2)
section
variable {K:PySem.W.Frag} {B:Hp}
theorem qbH.nil:qbH K B [] []:=by unfold qbH; rfl
theorem qbH.cons {k:Key} {t:T} {v:V} {ts:List (Key×T)} {vs:List (Key×V)} (h:Rep K B t v) (r:qbH K B ts vs):qbH K B ((k,t)::ts) ((k,v)::vs):=by unfold qbH; exact ⟨v,vs,rfl,h,r⟩
theorem qbH.inv {k:Key} {t:T} {ts:List (Key×T)} {vs:List (Key×V)} (h:qbH K B ((k,t)::ts) vs): ∃v r,vs=(k,v)::r∧Rep K B t v∧qbH K B ts r:=by unfold qbH at h; exact h
theorem qbH.inv0 {vs:List (Key×V)} (h:qbH K B [] vs):vs=[]:=by unfold qbH at h; exact h
theorem qbH.length: ∀{ts:List (Key×T)} {vs:List (Key×V)},qbH K B ts vs→vs.length=ts.length
 | [],_,h=>by rw[h.inv0]; rfl
 | (_,_)::_,_,h=>by
  obtain ⟨v,r,rfl,_,h'⟩:=h.inv
  simp[qbH.length h']
theorem qbH.any (k:Key): ∀{ts:List (Key×T)} {vs:List (Key×V)},qbH K B ts vs→(vs.any fun kv=>decide (kv.1=k))=ts.any fun kv=>decide (kv.1=k)
 | [],_,h=>by rw[h.inv0]; rfl
 | (_,_)::_,_,h=>by
  obtain ⟨v,r,rfl,_,h'⟩:=h.inv
  rw[List.any_cons,List.any_cons,qbH.any k h']
theorem qbH.repl (k:Key) {t:T} {v:V} (h:Rep K B t v): ∀{ts:List (Key×T)} {vs:List (Key×V)},qbH K B ts vs→qbH K B (ts.map fun kv=>if kv.1=k then (kv.1,t) else kv) (vs.map fun kv=>if kv.1=k then (kv.1,v) else kv)
 | [],_,r=>by rw[r.inv0]; exact .nil
 | (j,u)::_,_,r=>by
  obtain ⟨x,rr,rfl,a,b⟩:=r.inv
  rw[List.map_cons,List.map_cons]
  by_cases c:j=k
  ·rw[if_pos c,if_pos c]; exact .cons h (qbH.repl k h b)
  ·rw[if_neg c,if_neg c]; exact .cons a (qbH.repl k h b)
theorem qbH.snoc {k:Key} {t:T} {v:V} (h:Rep K B t v): ∀{ts:List (Key×T)} {vs:List (Key×V)},qbH K B ts vs→qbH K B (ts++[(k,t)]) (vs++[(k,v)])
 | [],_,r=>by rw[r.inv0]; exact .cons h .nil
 | (_,_)::_,_,r=>by
  obtain ⟨x,rr,rfl,a,b⟩:=r.inv
  exact .cons a (qbH.snoc h b)
theorem qbH.put {k:Key} {t:T} {v:V} {ts:List (Key×T)} {vs:List (Key×V)} (r:qbH K B ts vs) (h:Rep K B t v):qbH K B (qoK ts k t) (qev vs k v):=by
 unfold qoK qev
 rw[r.any k]
 split
 ·exact r.repl k h
 ·exact r.snoc h
theorem qbH.val (k:Key): ∀{ts:List (Key×T)} {vs:List (Key×V)},qbH K B ts vs→(∀t,qme ts k=some t→∃v,qdX vs k=some v∧Rep K B t v)∧(qme ts k=none→qdX vs k=none)
 | [],_,r=>by rw[r.inv0]; exact ⟨(fun t z=>by cases z),(fun _=>rfl)⟩
 | (j,u)::_,_,r=>by
  obtain ⟨x,rr,rfl,a,b⟩:=r.inv
  obtain ⟨h1,h2⟩:=qbH.val k b
  unfold qme qdX at*
  rw[List.find?_cons,List.find?_cons]
  by_cases c:j=k
  ·simp[c]
   exact a
  ·simp only[c,decide_false]
   exact ⟨h1,h2⟩
end
end PL
end
section
namespace St
open PySem PySem.W PySem.Calls PyProof.Rows
section
variable {prog:Program} {w:World} {A:Around} {E:Value→Shared→Prop} {s:Shared} {v:Value} {Q:Value→Shared→Prop}
end
end St
end
section
namespace L2
open PySem PySem.Spec PyProof.Rows
theorem qsV {P:Program} {w:World} {k:Key} {u:Value} (h:(qaY P w).is k u=true):RelV (kV k) u:=by
 cases k with
 | inl i=>
  cases u with
  | int j t=>
   have:j=i:=by simpa [qaY,keyIs,Value.isInt,Value.isStrOf] using h
   subst this; exact ⟨t,rfl⟩
  | _=>simp[qaY,keyIs,Value.isInt,Value.isStrOf] at h
 | inr x=>
  cases u with
  | str j t=>
   have:j=x:=by simpa [qaY,keyIs,Value.isInt,Value.isStrOf] using h
   subst this; exact ⟨t,rfl⟩
  | _=>simp[qaY,keyIs,Value.isInt,Value.isStrOf] at h
theorem KV.get {us:List (Key×V)} {vs:List (Key×Value)} (r:KV us vs): ∀{j:Nat} {k:Key} {x:Value},vs[j]? =some (k,x)→∃v,us[j]? =some (k,v)∧RelV v x:=by
 induction r with
 | nil=>intro j k x e; simp at e
 | cons h t ih=>
  intro j k x e
  cases j with
  | zero=>
   rename_i p q _ _
   simp at e
   subst e
   obtain ⟨p1,p2⟩:=p
   have h1:p1=k:=h.1
   exact ⟨p2,by rw[←h1]; rfl,h.2⟩
  | succ j=>
   obtain ⟨v,e1,e2⟩:=ih (j:=j) (by simpa using e)
   exact ⟨v,by simpa using e1,e2⟩
end L2
end
section
namespace PL
open PySem L2 SR SetL
theorem qhJ {K:PySem.W.Frag} {B:Hp} {t:T} {k:Key} {v:V} (h:qfo t=some k) (r:Rep K B t v):v=kV k:=by
 cases t with
 | int i=>cases h; exact qar r
 | str x=>cases h; exact qaJ r
 | _=>cases h
theorem qml {K:PySem.W.Frag} {B:Hp} (k:Key):Rep K B (qhK k) (kV k):=by
 cases k with
 | inl i=>exact qbB
 | inr x=>exact qgx
section
variable {M:Md} {X:Cx} {e o k value:Expr} {pos pos' p1 apos cpos:Pos} {da dk:Ro→Rs T} {dd:Ro→Rs (List (Key×T))} {i:Nat} {x:Str} {st:Stmt} {sts:List Stmt} {d:Ro→Rs Out}
def qo5 (kvs:List (Key×T)) (k:T):Rs T:=match qfo k with
 | some k=>(match qme kvs k with | some t=>.ok t | none=>.no)
 | none=>.no
end
end PL
end
section
namespace PL
open PySem L2 SR SetL
theorem qbH.get {K:PySem.W.Frag} {B:Hp}: ∀{ts:List (Key×T)} {us:List (Key×V)} {j:Nat} {k:Key} {v:V},qbH K B ts us→us[j]? =some (k,v)→∃t,ts[j]? =some (k,t)∧Rep K B t v
 | [],_,j,_,_,r,e=>by rw[r.inv0] at e; simp at e
 | (k0,t0)::ts,_,0,k,v,r,e=>by
  obtain ⟨x,rr,rfl,a,b⟩:=r.inv
  simp at e
  obtain ⟨rfl,rfl⟩:=e
  exact ⟨t0,rfl,a⟩
 | (k0,t0)::ts,_,j+1,k,v,r,e=>by
  obtain ⟨x,rr,rfl,a,b⟩:=r.inv
  obtain ⟨t,e1,e2⟩:=qbH.get (j:=j) b (by simpa using e)
  exact ⟨t,by simpa using e1,e2⟩
section
variable {M:Md} {X:Cx} {o:Expr} {pos p1 apos cpos:Pos} {dd:Ro→Rs (List (Key×T))}
end
end PL
end
section
namespace SetL
open PySem
def qsy (N:Nat):Nat→Nat→List Nat
 | 0,_=>[]
 | f+1,i=>i::qsy N f ((i*5+1) % N)
def orb (N:Nat):Nat→Nat→Nat
 | 0,i=>i
 | t+1,i=>orb N t ((i*5+1) % N)
theorem qiu (N:Nat) {j:Nat}: ∀(f i:Nat),j∈qsy N f i→∃t,t<f∧orb N t i=j
 | 0,_,h=>by cases h
 | f+1,i,h=>by
  rcases List.mem_cons.mp h with z | z
  ·exact ⟨0,by lia,z.symm⟩
  ·obtain ⟨t,h1,h2⟩:=qiu N f _ z
   exact ⟨t+1,by lia,h2⟩
theorem qs7: ∀N∈[8,16,32,64],((List.range N).all fun i=>(List.range N).all fun j=>(qsy N N i).contains j)=true:=by decide+kernel
def Sz (mask:Nat):Prop:=mask+1∈[8,16,32,64]
theorem qri {mask:Nat} (h:Sz mask) {i j:Nat} (hi:i<mask+1) (hj:j<mask+1): ∃t,t<mask+1∧orb (mask+1) t i=j:=by
 have:=qs7 _ h
 have a:=List.all_eq_true.mp this i (List.mem_range.mpr hi)
 have b:=List.all_eq_true.mp a j (List.mem_range.mpr hj)
 exact qiu _ _ _ (by simpa using b)
def its (mask:Nat):Nat→Nat×Nat→Nat×Nat
 | 0,x=>x
 | t+1,x=>its mask t (SetTable.leap mask x.1 x.2)
theorem qlk (mask:Nat) (t:Nat): ∀(s:Nat) (x:Nat×Nat),its mask (s+t) x=its mask t (its mask s x)
 | 0,x=>by rw[Nat.zero_add]; rfl
 | s+1,x=>by
  rw[show s+1+t=(s+t)+1 by lia]
  exact qlk mask t s _
theorem qlj (mask:Nat): ∀(t:Nat) (x:Nat×Nat),(its mask t x).2=x.2 / 32 ^ t
 | 0,x=>by simp[its]
 | t+1,x=>by
  show (its mask t (SetTable.leap mask x.1 x.2)).2=_
  rw[qlj mask t]
  show x.2 / 32 / 32 ^ t=_
  rw[Nat.div_div_eq_div_mul,Nat.pow_succ,Nat.mul_comm]
theorem qfr (mask:Nat): ∀(t:Nat) (x:Nat×Nat),x.1<mask+1→(its mask t x).1<mask+1
 | 0,x,h=>h
 | t+1,x,h=>qfr mask t _ (Nat.mod_lt _ (Nat.succ_pos _))
theorem qiL (mask:Nat): ∀(t i:Nat),(its mask t (i,0)).1=orb (mask+1) t i
 | 0,i=>rfl
 | t+1,i=>by
  have e:SetTable.leap mask i 0=((i*5+1) % (mask+1),0):=by unfold SetTable.leap; simp
  show (its mask t (SetTable.leap mask i 0)).1=orb (mask+1) t ((i*5+1) % (mask+1))
  rw[e]
  exact qiL mask t _
theorem qup {mask:Nat} (h:Sz mask) {i p j:Nat} (hi:i<mask+1) (hp:p<2 ^ 64) (hj:j<mask+1): ∃t,t<SetTable.turns mask∧(its mask t (i,p)).1=j:=by
 have h13:(its mask 13 (i,p)).2=0:=by
  rw[qlj]
  exact Nat.div_eq_of_lt (Nat.lt_of_lt_of_le hp (by decide))
 have hl:=qfr mask 13 (i,p) hi
 obtain ⟨t,h1,h2⟩:=qri h hl hj
 refine ⟨13+t,by unfold SetTable.turns; lia,?_⟩
 rw[qlk]
 have e:its mask 13 (i,p)=((its mask 13 (i,p)).1,0):=Prod.ext rfl h13
 rw[e,qiL,h2]
section
variable {mask:Nat} {ow:Array (Option Nat)}
end
end SetL
end
section
namespace SetL
open PySem
section
variable {prog:Program} {w:World} {K:Type} [DecidableEq K] (knd:KeyKind prog w K)
def SX (h:Heap) (a:Addr) (l:List K) (es:Array (Int×Value)) (ep:Nat) (t:SetTable):Prop:=
 ∃o,h.get? a=some o∧o.ExactSet∧o.data= .set es ep t∧ElemsOf knd es.toList∧(∀k,k∈l↔∃e∈es.toList,knd.is k e.2=true)∧es.size<scanBound∧t.fits es.size=true∧es.size=(dd l).length∧qe1 t∧t.led= !w.params.followText "set-order"
variable {knd} {A:Around} {E:Value→Shared→Prop} {s:Shared}
theorem SX.p {h:Heap} {a:Addr} {l:List K} {es:Array (Int×Value)} {ep:Nat} {t:SetTable} (x:SX knd h a l es ep t):qjb knd h a (fun k=>decide (k∈l)) (dd l).length:=by
 obtain ⟨o,a1,a2,a3,a4,a5,a6,a7,a8,a9,a10⟩:=x
 exact ⟨o,es,ep,t,a1,a2,a3,a4,fun k=>by rw[decide_eq_true_eq]; exact a5 k,a6,a7,a8,a9,a10⟩
end
end SetL
end
section
namespace SetL
open PySem
section
variable {prog:Program} {w:World} {K:Type} [DecidableEq K] {knd:KeyKind prog w K} {A:Around} {E:Value→Shared→Prop} {s:Shared}
end
end SetL
end
section
namespace SetL
open PySem
section
variable {prog:Program} {w:World} {K:Type} [DecidableEq K] {knd:KeyKind prog w K} {A:Around} {E:Value→Shared→Prop} {s:Shared}
end
end SetL
end
section
namespace PL
open PySem L2 SR SetL
def quY:Key→Str
 | .inr x=>x
 | .inl _=> ""
def qqW:Key→Bool
 | .inr _=>true
 | .inl _=>false
def okD (a:List (Key×T)):Bool:=decide (a.length≤15)&&a.all fun p=>qqW p.1
section
variable {X:Cx} {a:Expr} {t:TE} {p2 p3:Pos}
end
section
variable {M:Md} {X:Cx} {a b:Expr} {da db:Ro→Rs (List (Key×T))} {p1 p2 p3 p4 p5 p6 pos:Pos}
end
end PL
end
section
namespace PL
open PySem L2 SR SetL
section
variable {X:Cx}
def qk1:List Int→Int
 | []=>0
 | x::xs=>xs.foldl (fun a b=>if a<b then b else a) x
theorem qjI (ns:List Int): ∀k,k<ns.length→ns.getD (argBest (fun i j=>decide (ns.getD i 0>ns.getD j 0)) k) 0=((ns.take (k+1)).drop 1).foldl (fun a b=>if a<b then b else a) (ns.getD 0 0):=by
 intro k
 induction k with
 | zero=>
  intro h
  have:(ns.take 1).drop 1=[]:=by cases ns<;>simp
  rw[this]
  rfl
 | succ k ih=>
  intro h
  have ih:=ih (by lia)
  have et:(ns.take (k+1+1)).drop 1=(ns.take (k+1)).drop 1++[ns.getD (k+1) 0]:=by
   rw[List.take_succ,List.getElem?_eq_getElem h,List.drop_append_of_le_length (by rw[List.length_take]; lia)]
   simp[List.getD_eq_getElem?_getD,h]
  rw[et,List.foldl_append,←ih]
  show ns.getD (if decide (ns.getD (k+1) 0>ns.getD (argBest _ k) 0)=true then k+1 else argBest _ k) 0=(if _<_ then _ else _)
  by_cases c:ns.getD (k+1) 0>ns.getD (argBest (fun i j=>decide (ns.getD i 0>ns.getD j 0)) k) 0
  ·rw[if_pos (decide_eq_true c),if_pos c]
  ·rw[if_neg (by rw[decide_eq_false c]; decide),if_neg c]
theorem qlZ (hc:X.calm=true):qe0 X (.builtin "max") (fun xs H Q=> ∃(a:Addr) (ns:List Int),xs=[.ref a]∧SqL X.K H a (ns.map V.int)∧ns≠[]∧Q (.int (qk1 ns)) H):=by
 intro pins s σ H xs us Q I r h
 obtain ⟨a,ns,rfl,hS,hne,q⟩:=h
 obtain ⟨u,rfl,ru⟩:=qfz r
 cases ru
 obtain ⟨its,rv,pl,hz⟩:=I.list hS
 have hl:=rv.length
 rw[List.length_map] at hl
 have n0:0<ns.length:=List.length_pos_iff.mpr hne
 have hlt:a<s.heap.objs.size:=Heap.lt_size pl.isList.choose_spec.1
 have hh:X.A.in1.handled=none:=I.ok.hd hc
 have shape: ∀{i:Nat} {v:Value},its.toArray[i]? =some v→∃t,v= .int (ns.getD i 0) t:=fun {i v} hv=>by
  have hv':its[i]? =some v:=by simpa using hv
  have hi:=(List.getElem?_eq_some_iff.mp hv').1
  obtain ⟨u,e1,e2⟩:=rv.get (i:=i) (x:=V.int (ns.getD i 0)) (by rw[List.getElem?_map,List.getElem?_eq_getElem (by lia)]; simp[List.getD_eq_getElem?_getD,show i<ns.length by lia])
  rw[hv'] at e1; cases e1
  exact e2
 refine call_max_walk (wpAny_pyIter_list pl.isList ?_)
 refine ⟨s.heap.objs.size,_,_,its.toArray.size,_,_,fun i j=>decide (ns.getD i 0>ns.getD j 0),rfl,Walks.list hh s.heap.objs.size a (Nat.ne_of_lt hlt) its.toArray,⟨⟨_,Heap.get?_push_size _ rfl,rfl,rfl⟩,pl.isList.at fun o e=>Heap.get?_push_of_some _ e⟩,fun b hb=> ?_,by rw[List.size_toArray]; lia,fun i j vi vj s' Q' E' hi hj hq=> ?_,fun v h' tk hv k=> ?_⟩
 ·have hb':b=s.heap.objs.size∨b=a:=by simpa using hb
  rcases hb' with rfl | rfl
  ·show s.heap.objs.size<(Heap.push _ _).objs.size
   rw[PyProof.Rows.size_push']; exact Nat.lt_succ_self _
  ·show b<(Heap.push _ _).objs.size
   rw[PyProof.Rows.size_push']; exact Nat.lt_succ_of_lt hlt
 ·obtain ⟨t,rfl⟩:=shape hi
  obtain ⟨t',rfl⟩:=shape hj
  exact PySem.P.gt_int hq
 ·obtain ⟨t,rfl⟩:=shape hv
  have e:ns.getD (argBest (fun i j=>decide (ns.getD i 0>ns.getD j 0)) (its.toArray.size - 1)) 0=qk1 ns:=by
   rw[qjI ns _ (by rw[List.size_toArray]; lia)]
   have:its.toArray.size - 1+1=ns.length:=by rw[List.size_toArray]; lia
   rw[this,List.take_length]
   cases ns with
   | nil=>exact absurd rfl hne
   | cons x xs=>rfl
  refine ⟨.int (qk1 ns),H,?_,⟨t,by rw[e]⟩,q⟩
  refine I.kept (t':=tk) fun b o eo=>k b o ?_ (Heap.get?_push_of_some _ eo)
  intro z
  have:b=s.heap.objs.size:=by simpa using z
  exact Nat.ne_of_lt (Heap.lt_size eo) this
end
section
variable {M:Md} {X:Cx} {e a:Expr} {pos p2:Pos} {da:Ro→Rs T} {dq:Ro→Rs (Bool×List T)} {lo hi:Option Expr} {dl dh:Ro→Rs (Option Int)}
def qhC (q:Bool×List T):Rs T:=if (q.1=true∧q.2≠[])∧q.2.all qlm=true then .ok (.int (qk1 (q.2.map qgL))) else .no
theorem qpu (h:PE X e (tCB (fun xs H Q=> ∃(a:Addr) (ns:List Int),xs=[.ref a]∧SqL X.K H a (ns.map V.int)∧ns≠[]∧Q (.int (qk1 ns)) H) (qdm (tQ M dq) qj1))):DE M X e (dCQ qhC dq):=
 qoh h (fun H B p vs q c Q le bt m hq r ec k=>by
  unfold qhC at ec
  split at ec
  ·rename_i hcc
   cases ec
   unfold qoq at hq
   rw[if_pos hcc.1.1] at hq
   exact ⟨p,q.2.map qgL,rfl,SqL.of (by rw[←qgo hcc.2 r]; exact hq),fun z=>hcc.1.2 (List.map_eq_nil_iff.mp z),k _ H B (.refl le bt) m qbB⟩
  ·cases ec) (fun q c z=>by unfold qhC at z; split at z<;>cases z)
def slT (ts:List T) (l h:Option Int):Rs T:=if HT.sIx ts.length 0 l=0∧HT.sIx ts.length ts.length h=ts.length then .no else .ok (.tup (qpZ ts l h))
def qjN (da:Ro→Rs T) (dl dh:Ro→Rs (Option Int)):Ro→Rs T:=fun ρ=>da ρ>>=fun t=>dl ρ>>=fun l=>dh ρ>>=fun h=>match t with | .tup ts=>slT ts l h | _=>.no
theorem qlN (ha:DE M X a da) (hl:DO M X lo dl) (hh:DO M X hi dh) (hK:X.K=M.K:=by rfl):DE M X (.Subscript a (.Slice lo hi none p2) pos) (qjN da dl dh):=by
 refine PE.weak (qew qnN ha hl hh) fun σ H Q hq146=> ?_
 obtain ⟨H0,B0,ρ,B,ev,w⟩:=hq146
 refine tP.of ev (Wnt.mono (Wnt.bind (qaG.mp w)) fun t w1 v H1 B1 g1 m1 r1=> ?_)
 have ev1:=ev.grow g1 m1
 refine ⟨H0,B0,ρ,B1,ev1,Wnt.mono (Wnt.bind w1) fun l w2 H2 B2 g2 m2=> ?_⟩
 have ev2:=ev1.grow g2 m2
 refine ⟨H0,B0,ρ,B2,ev2,Wnt.mono (Wnt.bind w2) fun h w3 H3 B3 g3 m3=> ?_⟩
 have ev3:=ev2.grow g3 m3
 cases t with
 | tup ts=>
  obtain ⟨p,vs,rfl,sq,rs⟩:=qbn r1
  have w3:Wnt M H0 _ (slT ts l h):=w3
  unfold slT at w3
  split at w3
  ·exact w3.elim
  ·rename_i hcc
   have ln:=rs.length
   have sq3:SqT X.K H3 p vs:=by rw[hK]; exact ev3.bh.sqT ((g3.bb).sqT ((g2.bb).sqT sq))
   refine ⟨p,vs,rfl,sq3,by rw[ln]; exact hcc,fun d hd=> ?_⟩
   have g:=qbJ.new (o:=HO.tup (qf4 vs l h)) ev3.bh ev3.bt hd (by intro ps z; cases z)
   have gg:=(g1.trans g2).trans g3
   refine w3 _ _ _ (gg.trans g) (M.G.st H3 _ (fun a o e _ _ _ _=>by rw[qae (qak e hd)]; exact e) m3) ?_
   unfold Rep
   exact ⟨d,qf4 vs l h,rfl,qag,(qik ((rs.mono g2.bb).mono g3.bb) l h).mono g.bb⟩
 | _=>exact w3.elim
end
end PL
end
section
namespace PySem
section
variable {prog:Program} {w:World} {A:Around} {E:Value→Shared→Prop} {h:Heap} {g:Array GenState} {d:Drawn} {t:Nat} {os:OsState} {a:Addr} {items:Array Value} {c:Nat}
theorem qgF:typeLookup (.type "list") "keys" =pure none:=by rw[typeLookup_type,builtinLookup_eq_fast]; kernel_rfl
theorem qeP:typeLookup (.type "list") "__getattr__" =pure none:=by rw[typeLookup_type,builtinLookup_eq_fast]; kernel_rfl
theorem qj7:isSubtype (.type "AttributeError") (.type "AttributeError")=pure true:=by rw[isSubtype_type]; kernel_rfl
def qtg (h:Heap) (g:Array GenState) (d:Drawn) (os:OsState) (E:Value→Shared→Prop):Prop:= ∀(e:Addr) (h':Heap) (t':Nat),(∀b u,h.get? b=some u→h'.get? b=some u)→(∃o,h'.get? e=some o∧o.cls= .type "AttributeError")→E (.ref e) ⟨h',g,d,t',os⟩
theorem qlb {tk:Tok} {Q:Fin→Shared→Prop} (hh:A.handled=none) (hx:h.get? a=some { cls:=.type "list",dict:=none,data:=.seq items c,slots:= #[] }) (hE:qtg h g d os E):
  wpAny (model prog w) A (Builtin.«object.__getattribute__» ⟨[.ref a,.str "keys" tk],[]⟩) Q E ⟨h,g,d,t,os⟩:=by
 have hT:(⟨h,g,d,t,os⟩:Shared).TypeIs (.ref a) "list" :=⟨_,hx,rfl⟩
 have f4:=qgF
 repeat (any_goals (first | assumption | wp_step))
 have em:(Str.ofString (toString "'" ++toString ((Manifest.find? "list").elim "list" fun x=>x.tpName)++toString "' object has no attribute '")++Str.ofString "keys" ++Str.ofString "'").length≤sizeLine:=by
  have:(Manifest.find? "list").elim "list" (fun x=>x.tpName)= "list" :=by decide+kernel
  rw[this]
  decide+kernel
 generalize (Str.ofString (toString "'" ++toString ((Manifest.find? "list").elim "list" fun x=>x.tpName)++toString "' object has no attribute '")++Str.ofString "keys" ++Str.ofString "'")=msg at em⊢
 unfold raiseAttrError
 simp only[newExc,newTuple]
 repeat (any_goals (first | assumption | wp_step))
 have eo:ownMembersOf (Value.type "AttributeError") [Value.str msg t]= #[unsetMember,unsetMember]:=rfl
 have ei:((Manifest.find? "AttributeError").elim false fun t=>t.mro.contains "StopIteration" ||t.mro.contains "SystemExit")=false:=by decide+kernel
 rw[eo,ei]
 refine wpAny_of_eq qj7 ?_
 repeat (any_goals (first | assumption | wp_step))
 unfold raiseNew
 refine wpAny_bind (wpAny_handled ?_)
 rw[hh]
 refine wpAny_bind (wpAny_pure (wpAny_throw ?_))
 refine hE _ _ _ (fun b u q=> ?_) ⟨_,Heap.get?_update_self _ (Heap.get?_push_size _ rfl) rfl,rfl⟩
 have q1:=Heap.get?_push_of_some { cls:=Value.type "tuple",data:=Data.seq #[Value.str msg t] } q
 rw[Heap.get?_update_other _ _ (Nat.ne_of_gt (Heap.lt_size q1))]
 exact Heap.get?_push_of_some _ q1
theorem qlc {tk:Tok} {R:Result→Shared→Prop} (hh:A.handled=none) (hx:h.get? a=some { cls:=.type "list",dict:=none,data:=.seq items c,slots:= #[] }) (hE:qtg h g d os fun e s=>R (.error e) s):
  codeAny (model prog w) A (.call (.builtin "list.__getattribute__") ⟨[.ref a,.str "keys" tk],[]⟩) R ⟨h,g,d,t,os⟩:=
 codeAny_call_builtin F.slot_list_getattribute.plain F.entry_list_ga (F.slot_list_getattribute.check _ _ _ _ _ _ _ _ (show (⟨h,g,d,t,os⟩:Shared).TypeIs (.ref a) "list" from ⟨_,hx,rfl⟩) (F.args_list_getattribute_2 _ _) (qlb hh hx hE))
theorem qo9 {tk:Tok} {Q:Value→Shared→Prop} (hh:A.handled=none) (hx:h.get? a=some { cls:=.type "list",dict:=none,data:=.seq items c,slots:= #[] }) (hE:qtg h g d os E):wpAny (model prog w) A (getAttrBy (.ref a) (.str "keys" tk) false) Q E ⟨h,g,d,t,os⟩:=by
 have hT:(⟨h,g,d,t,os⟩:Shared).TypeIs (.ref a) "list" :=⟨_,hx,rfl⟩
 have f2:=F.slot_list_getattribute.lookup
 have f3:=F.slot_list_getattribute.bind (.ref a)
 repeat (any_goals (first | assumption | wp_step))
 refine qlc hh hx fun e h' t' kp hq48=> ?_
 obtain ⟨o,ho,hc⟩:=hq48
 show wpAny _ _ (getattributeRaised (Value.ref a) (Value.str (Str.ofString "keys") tk) (Value.type "list") (.ref e) none false false) _ _ _
 unfold getattributeRaised
 refine wpAny_bind (wpAny_isInstance (b:=true) ⟨o,ho,hc⟩ qj7 ?_)
 rw[if_pos rfl]
 unfold hookBehind
 refine wpAny_bind (wpAny_of_eq (show (if onTheHeap (Value.type "list")=true then pure none else typeLookup (Value.type "list") "__getattr__")=pure none from qeP) ?_)
 exact wpAny_throw (hE e h' t' kp ⟨o,ho,hc⟩)
theorem qla {Q:Option Value→Shared→Prop} (hh:A.handled=none) (hx:h.get? a=some { cls:=.type "list",dict:=none,data:=.seq items c,slots:= #[] })
  (hq: ∀h' t',(∀b u,h.get? b=some u→h'.get? b=some u)→Q none ⟨h',g,d,t',os⟩):wpAny (model prog w) A (getAttr? (.ref a) "keys") Q E ⟨h,g,d,t,os⟩:=by
 unfold getAttr? getAttrBy?
 refine wpAny_bind (wpAny_mkText ?_)
 refine wpAny_bind (wpAny_attempt (qo9 hh hx fun e h' t' kp ⟨o,ho,hc⟩=> ?_))
 show wpAny _ _ (do if ←isInstance (.ref e) (.type "AttributeError") then pure none else throw (.ref e)) _ _ _
 refine wpAny_bind (wpAny_isInstance (b:=true) ⟨o,ho,hc⟩ qj7 ?_)
 rw[if_pos rfl]
 exact wpAny_pure (hq h' t' kp)
end
end PySem
end
section
namespace PySem
section
variable {prog:Program} {w:World} {K:Type} [DecidableEq K] {knd:KeyKind prog w K} {A:Around} {E:Value→Shared→Prop} {s:Shared}
theorem qgR:entryFor table "dict.update.loop" =some Builtin.«dict.update.loop» :=entryFor_of_fast (by kernel_rfl)
theorem qdE:plainId "dict.update.loop" =true:=by decide+kernel
def ql9 (knd:KeyKind prog w K) (h:Heap) (p:K×Value) (v:Value):Prop:= ∃a k,v= .ref a∧PyProof.Rows.IsTup h a #[k,p.2]∧knd.is p.1 k=true
def qmo (kvs:List (K×Value)):List (K×Value)→List (K×Value)
 | []=>kvs
 | p::ps=>qmo (stored kvs p.1 p.2) ps
theorem qjf (kvs:List (K×Value)) (k:K) (v:Value):(stored kvs k v).length≤kvs.length+1:=by
 unfold stored
 split<;>simp
theorem qnk {h0:Heap} {D I l:Addr} {vs:List Value} {R:Result→Shared→Prop} (hh:A.in1.handled=none) (hl:h0.IsList l vs.toArray) (hDI:D≠I) (hDl:D≠l) (hlI:l≠I) (hI0:h0.get? I=none) (hD0:h0.get? D=none):
  ∀(ps:List (K×Value)) (j:Nat) (h:Heap) (tk:Nat) (kvs:List (K×Value)),j+ps.length=vs.length→(∀i p,ps[i]? =some p→∃v,vs[j+i]? =some v∧ql9 knd h0 p v)→kvs.length+ps.length≤1000→(∀b o,h0.get? b=some o→h.get? b=some o)→h.IsListIter I l j→h.DictOf knd D kvs→
   (∀h' tk',(∀b o,h0.get? b=some o→h'.get? b=some o)→h'.DictOf knd D (qmo kvs ps)→R (.ok (.ret .none)) { s with heap:=h',toks:=tk' })→
   codeAny (model prog w) A (.builtin "dict.update.loop" ⟨[.ref D,.ref I,rawInt (j:Nat),.none],[]⟩) R { s with heap:=h,toks:=tk }:=by
 have W:=Walks.list (prog:=prog) (w:=w) (A:=A.in1) hh I l hlI vs.toArray
 have lat: ∀h:Heap,(∀b o,h0.get? b=some o→h.get? b=some o)→h.IsList l vs.toArray:=fun h k=>hl.at fun o e=>k _ _ e
 intro ps
 induction ps with
 | nil=>
  intro j h tk kvs hj hp hz kp hI hD fin
  have hj':j=vs.toArray.size:=by rw[List.size_toArray]; simpa using hj
  refine codeAny_builtin qgR ?_
  rw[Around.under_plainId qdE _]
  unfold Builtin.«dict.update.loop»
  show wpAny _ _ (pyNext (.ref I)>>=_) _ _ _
  refine wpAny_bind (W.done _ _ _ (by rw[←hj']; exact ⟨hI,lat h kp⟩) fun h' tk' k2=> ?_)
  show wpAny _ _ (Builtin.Dict.addKeywords D []>>=_) _ _ _
  refine wpAny_bind (wpAny_pure (wpAny_pure ?_))
  refine fin h' tk' (fun b o e=>k2 b o (fun z=>by rw[List.mem_singleton.mp z,hI0] at e; cases e) (kp b o e)) (hD.at fun o e=>k2 D o (by simpa using hDI) e)
 | cons p ps ih=>
  intro j h tk kvs hj hp hz kp hI hD fin
  have hlt:j<vs.toArray.size:=by rw[List.size_toArray]; rw[List.length_cons] at hj; lia
  refine codeAny_builtin qgR ?_
  rw[Around.under_plainId qdE _]
  unfold Builtin.«dict.update.loop»
  show wpAny _ _ (pyNext (.ref I)>>=_) _ _ _
  refine wpAny_bind (W.item j _ _ _ hlt ⟨hI,lat h kp⟩ fun v h' tk' hv st k2=> ?_)
  have kp': ∀b o,h0.get? b=some o→h'.get? b=some o:=fun b o e=>k2 b o (fun z=>by rw[List.mem_singleton.mp z,hI0] at e; cases e) (kp b o e)
  have hD':h'.DictOf knd D kvs:=hD.at fun o e=>k2 D o (by simpa using hDI) e
  obtain ⟨v',ev,a,k,ea,⟨oa,ga,ca,na,da⟩,hk⟩:=hp 0 p rfl
  have hv':vs[j]? =some v:=by simpa using hv
  have:v'=v:=by rw[Nat.add_zero,hv'] at ev; exact (Option.some.inj ev).symm
  subst this
  subst ea
  dsimp only
  refine wpAny_bind (wpAny_holding ?_)
  have ty:({ s with heap:=h',toks:=tk' }:Shared).TypeIs (.ref a) "tuple" :=⟨oa,kp' _ _ ga,ca⟩
  refine wpAny_bind (wpAny_tryCatch ?_)
  unfold Builtin.Dict.pairItems
  refine wpAny_bind (wpAny_typeOf ty ?_)
  rw[if_pos (by decide)]
  refine wpAny_bind (wpAny_seqItems (kp' _ _ ga) da (wpAny_pure ?_))
  show wpAny _ _ (holding [k,p.2] (dictSet D k p.2)) _ _ _
  refine wpAny_holding (wpAny_dictSet_pairs (s:={ s with heap:=h',toks:=tk' }) hk hD' (fun h2 hD2 sb=> ?_) (by rw[List.length_cons] at hz; have:=sizeLine_eq; lia))
  refine wpAny_pure ⟨plainId_quiet qdE _,?_⟩
  have hI2:h2.IsListIter I l (j+1):=by
   obtain ⟨oi,gi,ri⟩:=st.1
   exact ⟨oi,by rw[sb.2 I (Ne.symm hDI)]; exact gi,ri⟩
  have sl:=qjf kvs p.1 p.2
  refine ih (j+1) h2 _ (stored kvs p.1 p.2) (by rw[List.length_cons] at hj; lia) (fun i q hq=> ?_) (by rw[List.length_cons] at hz; lia) (fun b o e=> ?_) hI2 hD2 fin
  ·obtain ⟨v,e1,e2⟩:=hp (i+1) q (by simpa using hq)
   exact ⟨v,by rw[←e1]; congr 1; lia,e2⟩
  ·rw[sb.2 b (fun z=>by rw[z,hD0] at e; cases e)]
   exact kp' b o e
theorem qjQ {l:Addr} {vs:List Value} {c:Nat} {ps:List (K×Value)} {Q:Value→Shared→Prop} (hh:A.handled=none) (hl:s.heap.get? l=some { cls:=.type "list",dict:=none,data:=.seq vs.toArray c,slots:= #[] }) (hn:ps.length=vs.length) (hz:ps.length≤1000)
  (hp: ∀(i:Nat) (p:K×Value),ps[i]? =some p→∃v,vs[i]? =some v∧ql9 knd s.heap p v)
  (h: ∀h' tk,h'.DictOf knd s.heap.objs.size (qmo [] ps)→(∀b o,s.heap.get? b=some o→h'.get? b=some o)→Q (.ref s.heap.objs.size) { s with heap:=h',toks:=tk }):
  wpAny (model prog w) A (call (.type "dict") [.ref l]) Q E s:=by
 refine callType_codes (Q₁:=fun obj s₁=>obj= .ref s.heap.objs.size∧s₁={ s with heap:=s.heap.push { cls:=.type "dict",data:=.dict #[] } }) F.kt_called_dict (F.kt_typeCall_dict_1 _) F.entry_dict_init (kt_code_dict_new _ ⟨rfl,rfl⟩) ?_
 rintro obj s₁ ⟨rfl,rfl⟩
 have hnew:(s.heap.push { cls:=.type "dict",data:=.dict #[] }).DictOf knd s.heap.objs.size []:=Heap.DictOf.new s.heap
 have hl':(s.heap.push { cls:=.type "dict",data:=.dict #[] }).get? l=some { cls:=.type "list",dict:=none,data:=.seq vs.toArray c,slots:= #[] }:=Heap.get?_push_of_some _ hl
 have ll:=Heap.lt_size hl
 refine ⟨hnew.typeIs,F.args_dict_init_2 _ _,?_⟩
 unfold Builtin.«dict.__init__»
 refine wpAny_bind ?_
 unfold Builtin.Dict.selfAndRest
 refine wpAny_bind (wpAny_notOrdered_dict hnew.typeIs ?_)
 show wpAny _ _ (pure (s.heap.objs.size,[Value.ref l])) _ _ _
 refine wpAny_pure ?_
 show wpAny _ _ (Builtin.Dict.updateFrom "dict.__init__" s.heap.objs.size (.ref l) [] .none) _ _ _
 unfold Builtin.Dict.updateFrom
 have tl:({ s with heap:=s.heap.push { cls:=.type "dict",data:=.dict #[] } }:Shared).TypeIs (.ref l) "list" :=⟨_,hl',rfl⟩
 refine wpAny_bind (wpAny_typeOf tl ?_)
 rw[if_pos (by decide)]
 refine wpAny_bind ?_
 obtain ⟨hp0,g,d,tk,os⟩:=s
 refine qla (by exact hh) hl' fun h1 t1 kp1=> ?_
 rw[if_pos (show (none:Option Value).isNone=true from rfl)]
 refine wpAny_bind (wpAny_rule ?_)
 have hl1:=kp1 _ _ hl'
 refine wpAny_bind (wpAny_pyIter_list (s:=⟨h1,g,d,t1,os⟩) ⟨_,hl1,rfl,_,rfl⟩ ?_)
 have hD1:h1.DictOf knd hp0.objs.size []:=hnew.at fun o e=>kp1 _ _ e
 have lD:hp0.objs.size<h1.objs.size:=by
  obtain ⟨o,_,_,e,_⟩:=hD1
  exact Heap.lt_size e
 have kp0: ∀b o,hp0.get? b=some o→h1.get? b=some o:=fun b o e=>kp1 b o (Heap.get?_push_of_some _ e)
 have gn: ∀{b:Addr},hp0.objs.size≤b→hp0.get? b=none:=fun {b} hb=>by
  cases q:hp0.get? b with
  | none=>rfl
  | some o=>exact absurd (Heap.lt_size q) (Nat.not_lt.mpr hb)
 refine wpAny_pure ⟨plainId_quiet qdE _,?_⟩
 refine qnk (A:=A.in1) (knd:=knd) (s:=⟨h1,g,d,t1,os⟩) (h0:=hp0) (vs:=vs) (by exact hh) ⟨_,hl,rfl,_,rfl⟩ (Nat.ne_of_lt lD) (Nat.ne_of_gt ll) (Nat.ne_of_lt (Nat.lt_trans ll lD)) (gn (Nat.le_of_lt lD)) (gn (Nat.le_refl _)) ps 0 _ t1 [] (by rw[Nat.zero_add]; exact hn) (fun i p hi=> ?_) (by simpa using hz) (fun b o e=>Heap.get?_push_of_some _ (kp0 b o e)) ⟨_,Heap.get?_push_size _ rfl,rfl,rfl⟩ (hD1.push _) fun h' tk' k2 hD2=>⟨rfl,h h' tk' hD2 k2⟩
 obtain ⟨v,e1,e2⟩:=hp i p hi
 exact ⟨v,by rw[Nat.zero_add]; exact e1,e2⟩
end
end PySem
end
section
namespace PL
open PySem L2 SR SetL
def namesD:List Str:= "dict" ::names
theorem qjR:bootBuiltins "dict" =some (.type "dict"):=by decide+kernel
def qdF:T→Option (Key×T)
 | .tup [k,v]=>(qfo k).map fun kk=>(kk,v)
 | _=>none
def dOf (ps:List (Key×T)):List (Key×T):=ps.foldl (fun d p=>qoK d p.1 p.2) []
def qe9 (q:Bool×List T):Rs (List (Key×T)):=if (q.1=true∧q.2.length≤1000)∧q.2.all (fun t=>(qdF t).isSome)=true then .ok (dOf (q.2.filterMap qdF)) else .no
theorem qjt {t:T} {p:Key×T} (h:qdF t=some p): ∃k,t= .tup [k,p.2]∧qfo k=some p.1:=by
 unfold qdF at h
 split at h
 ·rename_i k v
  cases e:qfo k with
  | none=>rw[e] at h; cases h
  | some kk=>rw[e] at h; cases h; exact ⟨k,rfl,e⟩
 ·cases h
def tN (M:Md) (d:Ro→Rs (List (Key×T))):TE:=fun σ H Q=> ∃H0 B0 ρ B,Ev M H0 B0 ρ σ H B∧Wnt M H0 (fun a=> ∀p us H' B',qbJ H B H' B'→M.G.P H'→H p=none→B' p=none→H' p=some (.dK us)→qbH M.K B' a us→Q (.ref p) H') (d ρ)
abbrev DN (M:Md) (X:Cx) (e:Expr) (d:Ro→Rs (List (Key×T))):Prop:=PE X e (tN M d)
def qpY (g:Bool×List T→Rs (List (Key×T))) (dq:Ro→Rs (Bool×List T)):Ro→Rs (List (Key×T)):=fun ρ=>dq ρ>>=g
section
variable {M:Md} {X:Cx} {e a:Expr} {pos pos' p1:Pos} {dq:Ro→Rs (Bool×List T)} {ds:Ro→Rs (List (Key×T))} {x:Str} {i:Nat}
theorem qlG (hc:X.calm=true) (gd:Gl X "dict") (md:X.mg "dict" =none) (ha:DQ M X a dq) (hK:X.K=M.K:=by rfl) (he:starEach [a] X.env=(false,eval a X.env)::starEach [] X.env:=by rfl):
  DN M X (.Call (.Name "dict" p1) [a] [] pos) (qpY qe9 dq):=by
 intro pins s σ H Q I hq56
 obtain ⟨H0,B0,ρ,B,ev,w⟩:=hq56
 refine wpAny_Call_Name_kw (qdM I gd md qjR ?_)
 refine PyProof.Rows.callWith_type1 ?_ he rfl
 have hR:tQ M dq σ H fun x H1=> ∃p vs q B1,x= .ref p∧qbJ H B H1 B1∧M.G.P H1∧(if q.1=true then H1 p=some (.lst vs) else SqT M.K B1 p vs)∧qaP M.K B1 q.2 vs∧
   Wnt M H0 (fun a=> ∀p us H' B',qbJ H B H' B'→M.G.P H'→H p=none→B' p=none→H' p=some (.dK us)→qbH M.K B' a us→Q (.ref p) H') (qe9 q):=
  tQ.of ev (Wnt.mono (Wnt.bind w) fun q w1 p vs H1 B1 g1 m1 hq r1=>⟨p,vs,q,B1,rfl,g1,m1,hq,r1,w1⟩)
 refine thn (qaf ha qaq he pos pins s σ H (fun vs H1=> ∃x,vs=[x]∧∃p vs q B1,x= .ref p∧qbJ H B H1 B1∧M.G.P H1∧(if q.1=true then H1 p=some (.lst vs) else SqT M.K B1 p vs)∧qaP M.K B1 q.2 vs∧
   Wnt M H0 (fun a=> ∀p us H' B',qbJ H B H' B'→M.G.P H'→H p=none→B' p=none→H' p=some (.dK us)→qbH M.K B' a us→Q (.ref p) H') (qe9 q)) I (tQ.mono (fun v H1 h=>⟨v,rfl,h⟩) hR)) fun us s1 h1=> ?_
 obtain ⟨vs0,H1,I1,r1,x,rfl,p,vs,q,B1,rfl,g1,m1,hq,rq,w1⟩:=h1
 obtain ⟨u,rfl,ru⟩:=qfz r1
 cases ru
 have ev1:=ev.grow g1 m1
 unfold qe9 at w1
 split at w1
 case isFalse=>exact w1.elim
 rename_i hcc
 rw[if_pos hcc.1.1] at hq
 obtain ⟨z,its,n,rv,hl,el⟩:=I1.lstM hq
 have hh:X.A.handled=none:=I1.ok.hd hc
 have l2:=rq.length
 have each: ∀(ts:List T) (vs:List V) (its:List Value),(ts.all fun t=>(qdF t).isSome)=true→qaP M.K B1 ts vs→Vals vs its→∃(pv:List (Key×V)) (pu:List (Key×Value)),pv.length=ts.length∧KV pv pu∧qbH M.K B1 (ts.filterMap qdF) pv∧∀(i:Nat) (pp:Key×Value),pu[i]? =some pp→∃v,its[i]? =some v∧ql9 (qaY X.prog X.w) s1.heap pp v:=by
  intro ts
  induction ts with
  | nil=>
   intro vs its _ r v
   have:=r.inv0
   subst this
   cases v
   exact ⟨[],[],rfl,.nil,.nil,fun i pp h=>by simp at h⟩
  | cons t ts ih=>
   intro vs its hall r v
   obtain ⟨y,ys,rfl,ry,rys⟩:=r.inv
   rw[List.all_cons,Bool.and_eq_true] at hall
   cases v with
   | cons vy vys=>
    rename_i u us
    obtain ⟨pv,pu,e1,e2,e3,e4⟩:=ih ys us hall.2 rys vys
    cases ep:qdF t with
    | none=>rw[ep] at hall; cases hall.1
    | some pp=>
     obtain ⟨k,et,ek⟩:=qjt ep
     rw[et] at ry
     obtain ⟨ta,ws,rfl,sq,rs⟩:=qbn ry
     obtain ⟨wk,r',rfl,rk,rr⟩:=rs.inv
     obtain ⟨wv,r'',rfl,rv',rr'⟩:=rr.inv
     have:=rr'.inv0
     subst this
     have ewk:=qhJ ek rk
     subst ewk
     cases vy
     obtain ⟨its2,rv2,pl2,_⟩:=I1.tuple (by rw[hK]; exact ev1.bh.sqT sq)
     cases rv2 with
     | cons a1 a2=>
      rename_i uk us2
      cases a2 with
      | cons b1 b2=>
       rename_i uv us3
       cases b2
       refine ⟨(pp.1,wv)::pv,(pp.1,uv)::pu,by simp[e1],.cons ⟨rfl,b1⟩ e2,?_,fun i qq hi=> ?_⟩
       ·rw[List.filterMap_cons,ep]
        obtain ⟨kk,tt⟩:=pp
        exact .cons rv' e3
       ·cases i with
        | zero=>
         simp at hi
         subst hi
         exact ⟨_,rfl,ta,uk,rfl,pl2,qm1 a1⟩
        | succ i=>
         obtain ⟨v,h1,h2⟩:=e4 i qq (by simpa using hi)
         exact ⟨v,by simpa using h1,h2⟩
 obtain ⟨pv,pu,f1,f2,f3,f4⟩:=each q.2 vs its hcc.2 rq rv
 have lpu:pv.length=pu.length:=f2.length
 refine qjQ (knd:=qaY X.prog X.w) (ps:=pu) hh el (by lia) (by lia) f4 fun h' tk hD kp=> ?_
 have all: ∀(ps:List (Key×T)) (pv:List (Key×V)) (pu:List (Key×Value)) (dt:List (Key×T)) (dv:List (Key×V)) (du:List (Key×Value)),qbH M.K B1 ps pv→KV pv pu→qbH M.K B1 dt dv→KV dv du→qbH M.K B1 (ps.foldl (fun d p=>qoK d p.1 p.2) dt) (pv.foldl (fun d p=>qev d p.1 p.2) dv)∧KV (pv.foldl (fun d p=>qev d p.1 p.2) dv) (qmo du pu):=by
  intro ps
  induction ps with
  | nil=>
   intro pv pu dt dv du r k rd kd
   have:=r.inv0
   subst this
   cases k
   exact ⟨rd,kd⟩
  | cons p ps ih=>
   intro pv pu dt dv du r k rd kd
   obtain ⟨kk,tt⟩:=p
   obtain ⟨v,rr,rfl,rv,rps⟩:=r.inv
   cases k with
   | cons a b=>
    rename_i qq qs
    obtain ⟨qk,qv⟩:=qq
    have ek:kk=qk:=a.1
    subst ek
    exact ih rr qs _ _ _ rps b (rd.put rv) (kd.put kk a.2)
 obtain ⟨rD,kD⟩:=all _ pv pu [] [] [] f3 f2 .nil .nil
 have len: ∀(pv:List (Key×V)) (dv:List (Key×V)),(pv.foldl (fun d p=>qev d p.1 p.2) dv).length≤dv.length+pv.length:=by
  intro pv
  induction pv with
  | nil=>intro dv; exact Nat.le_refl _
  | cons p pv ih=>
   intro dv
   have h1:=ih (qev dv p.1 p.2)
   have h2:=qhE dv p.1 p.2
   rw[List.foldl_cons,List.length_cons]
   lia
 have fD:H1 s1.heap.objs.size=none:=I1.hok.fresh (Nat.le_refl _)
 have sm:(s1.heap.objs.size==sysModules)=false:=by simpa using Nat.ne_of_gt I1.big
 have I3:Inv X pins σ (upd H1 s1.heap.objs.size (.dK (pv.foldl (fun d p=>qev d p.1 p.2) []))) { s1 with heap:=h',toks:=tk }:=by
  refine I1.laid (h':=h') (t':=tk) kp (Nat.le_refl _) (qq6 ?_ sm kD hD)
  have h1:=len pv []
  rw[List.length_nil,Nat.zero_add] at h1
  have h2:=hcc.1.2
  have h3:(1000:Nat)≤sizeLine:=by rw[sizeLine_eq]; decide
  lia
 obtain ⟨g2,m2⟩:=ev1.nown (o:=.dK (pv.foldl (fun d p=>qev d p.1 p.2) [])) fD
 have bp:B1 s1.heap.objs.size=none:=by
  cases q:B1 s1.heap.objs.size with
  | none=>rfl
  | some u=>rw[ev1.bh _ _ q] at fD; cases fD
 exact ⟨.ref s1.heap.objs.size,_,I3,rfl,w1 _ _ _ _ (g1.trans g2) m2 (none_of g1.gx fD) bp qag rD⟩
end
end PL
end
section
namespace PL
open PySem L2
def Sl.out:Sl→Sl
 | .pd k=>.od k
 | .pu k=>.ou k
 | s=>s
def DAt (K:PySem.W.Frag) (H B:Hp) (p:Addr):Sl→Prop
 | .od k=> ∃us,H p=some (.dK us)∧qbH K B k us
 | .pd k=> ∃us,H p=some (.dK us)∧qbH K B k us
 | .ou k=> ∃us,H p=some (.dT us)∧qcl K B k us
 | .pu k=> ∃us,H p=some (.dT us)∧qcl K B k us
 | _=>False
theorem DAt.out {K:PySem.W.Frag} {H B:Hp} {p:Addr} {s:Sl} (h:DAt K H B p s):DAt K H B p s.out:=by cases s<;>exact h
section
variable {K:PySem.W.Frag} {G:Gam} {C:Str→Addr} {E:XK}
end
section
variable {P:Program} {w:World} {K:PySem.W.Frag} {mg:Str→Option Value} {base:Heap} {G:Gam} {C:Str→Addr}
end
section
variable {M:Md} {H0 B0 H B H' B':Hp} {ρ:Ro} {σ:St}
end
section
variable {M:Md} {H0 B0 H B H' B':Hp} {ρ:Ro} {σ:St}
end
end PL
end
section
namespace PL
open PySem L2
section
variable {M:Md} {X:Cx} {e a b c:Expr} {es:List Expr} {pos p pos':Pos} {i j k:Nat} {x y:Str} {da db dc:Ro→Rs T} {ds:Ro→Rs (List T)} {ps:List Str} {fQ:List T→Sl→Rs (Sl×Sl)} {fS:List T→Rs Sl} {fT:List T→Rs T} {dl:Ro→Rs (List T)}
end
section
variable {M:Md} {X:Cx} {e a b c:Expr} {es:List Expr} {pos p pos':Pos} {i j k:Nat} {x y:Str} {da db dc:Ro→Rs T} {ds:Ro→Rs (List T)} {ps:List Str} {fT:List T→Rs T}
end
section
variable {M:Md} {X:Cx} {st:Stmt} {sts:List Stmt} {d:Ro→Rs Out}
end
end PL
end
section
namespace PL
open PySem L2
def qnx (kvs:List (List Key×T)) (k:List Key):Option T:=(kvs.find? fun kv=>decide (kv.1=k)).map (·.2)
def qtx (kvs:List (List Key×T)) (k:List Key) (t:T):List (List Key×T):=if (kvs.any fun kv=>decide (kv.1=k))=true then kvs.map (fun kv=>if kv.1=k then (kv.1,t) else kv) else kvs++[(k,t)]
section
variable {K:PySem.W.Frag} {B H:Hp}
theorem qcl.nil:qcl K B [] []:=by unfold qcl; rfl
theorem qcl.cons {k:List Key} {t:T} {v:V} {ts:List (List Key×T)} {vs:List (List Key×V)} (h:Rep K B t v) (r:qcl K B ts vs):qcl K B ((k,t)::ts) ((k,v)::vs):=by unfold qcl; exact ⟨v,vs,rfl,h,r⟩
theorem qcl.inv {k:List Key} {t:T} {ts:List (List Key×T)} {vs:List (List Key×V)} (h:qcl K B ((k,t)::ts) vs): ∃v r,vs=(k,v)::r∧Rep K B t v∧qcl K B ts r:=by unfold qcl at h; exact h
theorem qcl.inv0 {vs:List (List Key×V)} (h:qcl K B [] vs):vs=[]:=by unfold qcl at h; exact h
theorem qcl.length: ∀{ts:List (List Key×T)} {vs:List (List Key×V)},qcl K B ts vs→vs.length=ts.length
 | [],_,h=>by rw[h.inv0]; rfl
 | (_,_)::_,_,h=>by obtain ⟨v,r,rfl,_,h'⟩:=h.inv; simp[qcl.length h']
theorem qcl.any (k:List Key): ∀{ts:List (List Key×T)} {vs:List (List Key×V)},qcl K B ts vs→(vs.any fun kv=>decide (kv.1=k))=ts.any fun kv=>decide (kv.1=k)
 | [],_,h=>by rw[h.inv0]; rfl
 | (_,_)::_,_,h=>by obtain ⟨v,r,rfl,_,h'⟩:=h.inv; simp[qcl.any k h']
theorem qcl.repl (k:List Key) {t:T} {v:V} (h:Rep K B t v): ∀{ts:List (List Key×T)} {vs:List (List Key×V)},qcl K B ts vs→qcl K B (ts.map fun kv=>if kv.1=k then (kv.1,t) else kv) (vs.map fun kv=>if kv.1=k then (kv.1,v) else kv)
 | [],_,r=>by rw[r.inv0]; exact .nil
 | (j,u)::_,_,r=>by
  obtain ⟨x,r',rfl,a,b⟩:=r.inv
  simp only[List.map_cons]
  by_cases q:j=k
  ·rw[if_pos q,if_pos q]; exact .cons h (qcl.repl k h b)
  ·rw[if_neg q,if_neg q]; exact .cons a (qcl.repl k h b)
theorem qcl.snoc {k:List Key} {t:T} {v:V} (h:Rep K B t v): ∀{ts:List (List Key×T)} {vs:List (List Key×V)},qcl K B ts vs→qcl K B (ts++[(k,t)]) (vs++[(k,v)])
 | [],_,r=>by rw[r.inv0]; exact .cons h .nil
 | (_,_)::_,_,r=>by obtain ⟨x,r',rfl,a,b⟩:=r.inv; exact .cons a (qcl.snoc h b)
theorem qcl.put {k:List Key} {t:T} {v:V} {ts:List (List Key×T)} {vs:List (List Key×V)} (r:qcl K B ts vs) (h:Rep K B t v):qcl K B (qtx ts k t) (qev vs k v):=by
 unfold qtx qev
 rw[r.any k]
 split
 ·exact r.repl k h
 ·exact r.snoc h
theorem qcl.val (k:List Key): ∀{ts:List (List Key×T)} {vs:List (List Key×V)},qcl K B ts vs→(∀t,qnx ts k=some t→∃v,qdX vs k=some v∧Rep K B t v)∧(qnx ts k=none→qdX vs k=none)
 | [],_,r=>by rw[r.inv0]; exact ⟨fun t e=>by simp[qnx] at e,fun _=>rfl⟩
 | (j,u)::ts,_,r=>by
  obtain ⟨x,r',rfl,a,b⟩:=r.inv
  by_cases q:j=k
  ·rw[qbw q]
   have:qnx ((j,u)::ts) k=some u:=by simp[qnx,List.find?_cons,q]
   rw[this]
   exact ⟨fun t e=>by cases e; exact ⟨x,rfl,a⟩,fun e=>by cases e⟩
  ·rw[qbx q]
   have:qnx ((j,u)::ts) k=qnx ts k:=by simp[qnx,List.find?_cons,q]
   rw[this]
   exact qcl.val k b
end
section
variable {M:Md} {X:Cx} {o e k a b c value:Expr} {es:List Expr} {pos p pos' apos cpos:Pos} {i j:Nat} {x y:Str} {da db dc dk:Ro→Rs T} {dx:Ro→Rs Sl} {ds:Ro→Rs (List T)}
end
end PL
end
section
namespace PL
open PySem PySem.Spec PyProof.Rows L2 SR SetL
theorem Inv.freeze {X:Cx} {pins:List (Addr×Obj)} {σ:L2.St} {H:Hp} {s:Shared} {p:Addr} {us:List (Key×V)} (I:Inv X pins σ H s) (e:H p=some (.dK us)): ∃o,Inv X pins σ (upd H p (.frz o (.dK us))) s:=by
 obtain ⟨hz,hs,vs,kv,o,es,ep,ho,hd⟩:=qs4 I.hok e
 have nn: ∀b,H b=none→(upd H p (.frz o (.dK us))) b=none:=fun b n=>by rw[qae (fun z=>by rw[z,e] at n; cases n)]; exact n
 have nk: ∀b u,H b=some u→(∀ks,u≠.dK ks)→(upd H p (.frz o (.dK us))) b=some u:=fun b u n d=>by
  rw[qae (fun z=>by rw[z,e] at n; cases n; exact d us rfl)]; exact n
 have st: ∀b u,qbT X.prog X.w H s.heap b u→qbT X.prog X.w (upd H p (.frz o (.dK us))) s.heap b u:=fun b u q=>q.stay (fun _ _ _ q=>q) (fun c q=>nk c _ q (by intro _ z; cases z)) fun c xs q=>nk c _ q (by intro _ z; cases z)
 refine ⟨o,⟨I.ok,I.os,I.bare,⟨I.base.keep,I.base.slot,fun b ob a n hx=>nn b (I.base.free b ob a n hx),I.base.there,fun b xs q=>nk b _ (I.base.tups b xs q) (by intro _ z; cases z),fun b ob u q=>nk b _ (I.base.frzs b ob u q) (by intro _ z; cases z),fun b ps q=> ?_⟩,
  I.loc,I.cell,nn _ I.free,fun x c q=>nn _ (I.freeC x c q),fun q hq=> ?_,fun b u q=> ?_,I.len⟩⟩
 ·obtain ⟨more,q⟩:=I.base.tbls b ps q
  exact ⟨more,nk b _ q (by intro _ z; cases z)⟩
 ·obtain ⟨a,b,c⟩:=I.pin q hq
  exact ⟨a,nn _ b,c⟩
 ·by_cases z:b=p
  ·subst z
   rw[qag] at q
   cases q
   exact ⟨ho,st _ _ (I.hok _ _ e)⟩
  ·rw[qae z] at q
   exact st _ _ (I.hok b u q)
def qpX (ds:Ro→Rs (List (Key×T))):Ro→Rs T:=fun ρ=>ds ρ>>=fun t=>.ok (.dcf t)
theorem qhk {K:PySem.W.Frag} {B:Hp} {kvs:List (Key×T)} {v:V} (r:Rep K B (.dcf kvs) v): ∃p o us,v= .ref p∧B p=some (.frz o (.dK us))∧qbH K B kvs us:=by unfold Rep at r; exact r
def qhZ:T→Rs (List (Key×T))
 | .dcf kvs=>.ok kvs
 | _=>.no
section
variable {M:Md} {X:Cx} {e o k a tg:Expr} {pos apos cpos:Pos} {da dk do_:Ro→Rs T} {ds:Ro→Rs (List (Key×T))}
theorem qgW (h:DN M X e ds):DE M X e (qpX ds):=by
 intro pins s σ H Q I hq
 obtain ⟨H0,B0,ρ,B,ev,w⟩:=hq
 refine thn (h pins s σ H (fun v H1=> ∃p us t B1,v= .ref p∧qbJ H B H1 B1∧M.G.P H1∧H p=none∧B1 p=none∧H1 p=some (.dK us)∧qbH M.K B1 t us∧(∀v' H' B',qbJ H B H' B'→M.G.P H'→Rep M.K B' (.dcf t) v'→Q v' H')) I
  ⟨H0,B0,ρ,B,ev,Wnt.mono (Wnt.bind (qaG.mp w)) fun t w1 p us H1 B1 g1 m1 hp hb hl r=>⟨p,us,t,B1,rfl,g1,m1,hp,hb,hl,r,w1⟩⟩) fun u s1 h1=> ?_
 obtain ⟨x,H1,I1,r1,p,us,t,B1,rfl,g1,m1,hp,hb,hl,rd,w1⟩:=h1
 obtain ⟨ob,I2⟩:=Inv.freeze I1 hl
 have le:Le B1 (upd B1 p (.frz ob (.dK us))):=fun a o z=>by rw[qae (qak z hb)]; exact z
 have g2:qbJ H B (upd H1 p (.frz ob (.dK us))) (upd B1 p (.frz ob (.dK us))):=by
  refine ⟨⟨fun a o z n=> ?_,fun a z=> ?_⟩,g1.bb.trans le,fun a o z=> ?_,fun a ps z=> ?_,fun a o z n1 n2=> ?_⟩
  ·rw[qae (fun q=>by rw[q,hp] at z; cases z)]; exact g1.gx.hh a o z n
  ·rw[qae (fun q=>by rw[q] at z; exact z hp)]; exact g1.gx.dm a z
  ·by_cases q:a=p
   ·subst q; rw[qag] at z⊢; exact z
   ·rw[qae q] at z⊢; exact g1.bh a o z
  ·by_cases q:a=p
   ·subst q; rw[qag] at z; cases z
   ·rw[qae q] at z; exact g1.bt a ps z
  ·rw[qae (fun q=>by rw[q,hp] at z; cases z)]; exact g1.nw a o z n1 n2
 have m2:M.G.P (upd H1 p (.frz ob (.dK us))):=M.G.st H1 _ (fun a u z _ d _ _=>by rw[qae (fun q=>by rw[q,hl] at z; cases z; exact d us rfl)]; exact z) m1
 refine ⟨.ref p,_,I2,r1,w1 _ _ _ g2 m2 ?_⟩
 unfold Rep
 exact ⟨p,ob,us,rfl,qag,rd.mono le⟩
def qlS (do_ dk:Ro→Rs T):Ro→Rs T:=fun ρ=>do_ ρ>>=fun d=>dk ρ>>=fun k=>qhZ d>>=fun kvs=>qo5 kvs k
theorem qpv (hu:X.A.units+1<cLine) (ho:DE M X o do_) (hk:DE M X k dk) (hs:qtf k:=by intro _ _; rfl):DE M X (.Subscript o k pos) (qlS do_ dk):=by
 refine PE.weak (qoS hu ho hk hs) fun σ H Q hq=> ?_
 obtain ⟨H0,B0,ρ,B,ev,w⟩:=hq
 refine tP.of ev (Wnt.mono (Wnt.bind (qaG.mp w)) fun d w1 v H1 B1 g1 m1 r1=> ?_)
 have ev1:=ev.grow g1 m1
 refine tP.of ev1 (Wnt.mono (Wnt.bind w1) fun kt w2 y H2 B2 g2 m2 r2=> ?_)
 cases d with
 | dcf kvs=>
  obtain ⟨p,ob,us,rfl,hp,rd⟩:=qhk r1
  unfold qhZ at w2
  dsimp only[qai] at w2
  unfold qo5 at w2
  split at w2
  ·rename_i k' ek
   split at w2
   ·rename_i t et
    obtain ⟨v,ev',rv⟩:=(rd.val k').1 t et
    refine ⟨p,v,rfl,?_,w2 v H2 B2 (g1.trans g2) m2 (rv.mono g2.bb)⟩
    rw[qhJ ek r2,←ev']
    exact .inl ⟨us,k',.inr ⟨ob,g2.bh _ _ (g2.bb _ _ hp)⟩,rfl,rfl⟩
   ·exact w2.elim
  ·exact w2.elim
 | _=>exact w2.elim
def qk6 (kvs:List (Key×T)) (k t:T):Rs T:=match qfo k with
 | some k=>.ok ((qme kvs k).getD t)
 | none=>.no
def qgY (do_ dk da:Ro→Rs T):Ro→Rs T:=fun ρ=>do_ ρ>>=fun d=>qhZ d>>=fun kvs=>dk ρ>>=fun k=>da ρ>>=fun t=>qk6 kvs k t
theorem qnr (hu:X.A.units+1<cLine) (ho:DE M X o do_) (hk:DE M X k dk) (ha:DE M X a da) (m:M2 X o "get" apos k a cpos):DE M X (.Call (.Attribute o "get" apos) [k,a] [] cpos) (qgY do_ dk da):=by
 refine PE.weak (qmJ hu ho hk ha m) fun σ H Q hq=> ?_
 obtain ⟨H0,B0,ρ,B,ev,w⟩:=hq
 refine tP.of ev (Wnt.mono (Wnt.bind (qaG.mp w)) fun d w1 v H1 B1 g1 m1 r1=> ?_)
 have ev1:=ev.grow g1 m1
 cases d with
 | dcf kvs=>
  obtain ⟨p,ob,us,rfl,hp,rd⟩:=qhk r1
  unfold qhZ at w1
  dsimp only[qai] at w1
  refine ⟨p,rfl,.inl ⟨us,.inr ⟨ob,g1.bh _ _ hp⟩⟩,?_⟩
  refine tP.of ev1 (Wnt.mono (Wnt.bind w1) fun kt w2 y H2 B2 g2 m2 r2=> ?_)
  have ev2:=ev1.grow g2 m2
  refine tP.of ev2 (Wnt.mono (Wnt.bind w2) fun t w3 z H3 B3 g3 m3 r3=> ?_)
  unfold qk6 at w3
  split at w3
  ·rename_i k' ek
   refine ⟨qdX us k',by rw[qhJ ek r2]; exact .inl ⟨us,k',.inr ⟨ob,g3.bh _ _ (g3.bb _ _ (g2.bb _ _ hp))⟩,rfl,rfl⟩,?_⟩
   cases et:qme kvs k' with
   | some t'=>
    obtain ⟨v,ev',rv⟩:=(rd.val k').1 t' et
    rw[ev']
    rw[et] at w3
    exact w3 v H3 B3 ((g1.trans g2).trans g3) m3 (rv.mono (g2.bb.trans g3.bb))
   | none=>
    rw[(rd.val k').2 et]
    rw[et] at w3
    exact w3 z H3 B3 ((g1.trans g2).trans g3) m3 r3
  ·exact w3.elim
 | _=>exact w1.elim
end
def Itd (a:Addr) (o:Obj) (us:List (Key×V)):It:=
 ⟨fun i H=>H a=some (.frz o (.dK us))∧i<us.length,fun i H x H'=>H'=H∧∃k v,us[i]? =some (k,v)∧x=kV k,fun i H=>H a=some (.frz o (.dK us))∧us.length≤i⟩
theorem qhX {P:Program} {w:World} {H:Hp} {h:Heap} {a:Addr} {o:Obj} {us:List (Key×V)} {es:Array DictEntry} {ep:Nat} (hok:HOk P w H h) (e:H a=some (.frz o (.dK us))) (hd:o.data= .dict es ep):
  ∃vs,KV us vs∧h.DictAt (qaY P w) a vs ep∧(a==sysModules)=false∧us.length≤sizeLine:=by
 obtain ⟨h1,hz,hs,vs,kv,o',es',ep',h2,hx,hd',r⟩:=hok a _ e
 rw[h1] at h2; cases h2
 rw[hd] at hd'; cases hd'
 exact ⟨vs,kv,⟨o,es,h1,hx,hd,r⟩,hs,hz⟩
theorem qj4 {P:Program} {w:World} {K:PySem.W.Frag} {tg:Expr} {a it:Addr} {o:Obj} {us:List (Key×V)} {es:Array DictEntry} {ep:Nat} (hd:o.data= .dict es ep):qpD P w K tg (Itd a o us) [it] it (fun i h=>h.IsKeyIter it a i us.length ep) where
 mem:=by simp
 obj:=fun i h st b hb=>by
  have e:b=it:=by simpa using hb
  subst e
  obtain ⟨o,e,c,d⟩:=st
  exact ⟨o,e,fun v z=>by rw[d] at z; cases z⟩
 keep:=fun i h h' st k=>st.at fun o e=>k it (by simp) o e
 item:=by
  intro X hP hw hK hc i pins s σ H E I hf st hg
  subst hP hw hK
  obtain ⟨ha,hi⟩:=hg
  obtain ⟨vs,kv,hA,_,_⟩:=qhX I.hok ha hd
  have lv:=kv.length
  rw[lv] at st
  obtain ⟨⟨k,x⟩,hx⟩: ∃p,vs[i]? =some p:=⟨vs[i]'(by omega),by simp⟩
  obtain ⟨v,hu,_⟩:=kv.get hx
  obtain ⟨f0,f1,f2,f3,f4,f5⟩:=hf it (by simp)
  refine wpAny_pyNext_dict_item st hA hx fun key h' hk st' sb=> ?_
  have I1:Inv X pins σ H { s with heap:=h' }:=I.turned (t':=s.toks) (fun b o hb e=>(sb.2 b hb).trans e) f0 f1 f3 f4 f5
  obtain ⟨o',e,c,d⟩:=id st'
  rw[←lv] at st'
  exact ⟨key,rfl,qlw (s:={ s with heap:=h' }) e c d (by decide) ⟨kV k,H,I1,qsV hk,⟨rfl,k,v,hu,rfl⟩,st',fun b hb=>(hf b hb).1⟩⟩
 done:=by
  intro X hP hw hK hc i pins s σ H E I hf st hg
  subst hP hw hK
  obtain ⟨ha,hi⟩:=hg
  obtain ⟨vs,kv,hA,_,_⟩:=qhX I.hok ha hd
  have lv:=kv.length
  rw[lv] at st
  obtain ⟨f0,f1,f2,f3,f4,f5⟩:=hf it (by simp)
  exact wpAny_pyNext_dict_end (I.ok.hd hc) st hA (by simp; omega) fun h' eb=>⟨rfl,I.turned (t':=s.toks) (fun b o hb e=>eb b o hb e) f0 f1 f3 f4 f5⟩
 self:=fun _ _ _ _ _ st h=>wpAny_pyIter_keyiter st h
def quG (tl:TE):TI:=fun σ H R=>tl σ H fun x H1=> ∃a o us,x= .ref a∧H1 a=some (.frz o (.dK us))∧(us.length≤sizeLine→R (Itd a o us) H1)
section
variable {M:Md} {X:Cx} {tg e l:Expr} {da:Ro→Rs T} {tl:TE}
theorem qoN (hl:PE X l tl):PI X tg l (quG tl):=by
 intro pins s σ H R I h
 refine thn (hl pins s σ H _ I h) fun v s1 hq=> ?_
 obtain ⟨x,H1,I1,r1,a,o,us,e,ha,q⟩:=hq
 subst e
 cases r1
 obtain ⟨h1,hz,hs,vs0,kv0,o',es,ep,h2,hx,hd,_⟩:=I1.hok a _ ha
 rw[h1] at h2; cases h2
 obtain ⟨vs,kv,hA,_,_⟩:=qhX I1.hok ha hd
 refine wpAny_pyIter_dict hs hA ?_
 have lv:=kv.length
 refine ⟨s1.heap.objs.size,[s1.heap.objs.size],_,_,H1,rfl,I1.kept (t':=s1.toks) fun b o e=>Heap.get?_push_of_some _ e,qj4 hd,⟨_,Heap.get?_push_size _ rfl,rfl,by rw[lv]; rfl⟩,fun b hb=> ?_,q hz⟩
 have e:b=s1.heap.objs.size:=by simpa using hb
 subst e
 exact I1.fpOk (Nat.le_refl _) (I1.hok.fresh (Nat.le_refl _))
def qh0 (t:T):Rs (List T):=qhZ t>>=fun kvs=>.ok (kvs.map fun p=>qhK p.1)
def qrD (da:Ro→Rs T):Ro→Rs (List T):=fun ρ=>da ρ>>=qh0
theorem qpt (h:DE M X e da):DI M X tg e (qrD da):=by
 refine PI.weak (qoN h) fun σ H R hq=> ?_
 obtain ⟨H0,B0,ρ,B,ev,w⟩:=hq
 refine tP.of ev (Wnt.mono (Wnt.bind w) fun t w1 v H1 B1 g1 m1 r1=> ?_)
 cases t with
 | dcf kvs=>
  obtain ⟨p,o,us,rfl,hp,rd⟩:=qhk r1
  unfold qh0 qhZ at w1
  dsimp only[qai] at w1
  have lk:=rd.length
  refine ⟨p,o,us,rfl,g1.bh _ _ hp,fun hz=>w1 _ H1 B1 g1 m1 (by rw[List.length_map,←lk]; exact hz) fun H' B' le bh bt m i=>⟨fun t et=> ?_,fun hi=> ?_⟩⟩
  ·rw[List.getElem?_map] at et
   cases q:kvs[i]? with
   | none=>rw[q] at et; cases et
   | some pr=>
    rw[q] at et; cases et
    have hi:=(List.getElem?_eq_some_iff.mp q).1
    refine ⟨⟨bh _ _ (le _ _ hp),by omega⟩,fun y H'' ⟨e1,k,v,e2,e3⟩=> ?_⟩
    subst e1 e3
    obtain ⟨t',q2,_⟩:=rd.get e2
    rw[q] at q2; cases q2
    exact ⟨B',.refl bh bt,m,qml k⟩
  ·exact ⟨bh _ _ (le _ _ hp),by rw[hi,List.length_map,lk]; exact Nat.le_refl _⟩
 | _=>exact w1.elim
end
end PL
end
section
namespace PL
open PySem PySem.Spec L2
section
variable {M:Md} {X:Cx} {e o a:Expr} {apos cpos:Pos} {da:Ro→Rs T} {dq:Ro→Rs (Bool×List T)}
open SeqAt in
theorem qh1 {pins:List (Addr×Obj)} {σ:St} {H B:Hp} {s:Shared} (hu:X.A.units+8<cLine) (I:Inv X pins σ H s) (le:Le B H) {t:T} {x:V} {v:Value} {ts:List T} {vs:List V} {is:List Value} (ra:Rep X.K B t x) (rx:RelV x v) (ot:okT 7 t=true) (ots:ts.all (okT 7)=true) (rs:qaP X.K B ts vs) (rv:Vals vs is):
  ∃e:Value→Bool,(∀y,y∈is.toArray→EqAt X.A.in1 s y v (e y))∧is.countP e=ts.countP (fun u=>eqT u t):=by
 have l1:=rv.length
 have l2:=rs.length
 have at_: ∀(j:Nat) (h:j<is.toArray.size),EqAt X.A.in1 s is.toArray[j] v (eqT (ts.getD j .non) t):=fun j h=>by
  have hj:j<ts.length:=by simp at h; lia
  exact qiU I le 7 7 X.A.in1 _ _ _ _ _ _ (qbL ots hj) ot (by show X.A.units+1+7<cLine; lia) (rs.getD j hj) ra (RH.valsArr rv h) rx
 have one: ∀(j k:Nat) (h:j<is.toArray.size) (h':k<is.toArray.size),is.toArray[j]=is.toArray[k]→ts.getD j .non=ts.getD k .non:=fun j k h h' e=>by
  have hj:j<ts.length:=by simp at h; lia
  have hk:k<ts.length:=by simp at h'; lia
  have r1:=RH.valsArr rv h
  have r2:=RH.valsArr rv h'
  rw[←e] at r2
  have:=r1.inj r2
  refine qeI I le 7 7 _ _ _ (qbL ots hj) (qbL ots hk) (rs.getD j hj) ?_
  rw[this]
  exact rs.getD k hk
 classical
 have key: ∀(j:Nat) (hj:j<is.toArray.size),decide (∃(j':Nat) (h:j'<is.toArray.size),is.toArray[j']=is.toArray[j]∧eqT (ts.getD j' .non) t=true)=eqT (ts.getD j .non) t:=fun j hj=>by
  cases z:eqT (ts.getD j .non) t with
  | true=>exact decide_eq_true ⟨j,hj,rfl,z⟩
  | false=>exact decide_eq_false (fun ⟨k,hk,e,ek⟩=>by rw[one k j hk hj e,z] at ek; cases ek)
 refine ⟨fun y=>decide (∃(j:Nat) (h:j<is.toArray.size),is.toArray[j]=y∧eqT (ts.getD j .non) t=true),fun y hy=> ?_,?_⟩
 ·obtain ⟨j,hj,rfl⟩:=Array.mem_iff_getElem.mp hy
  show EqAt X.A.in1 s is.toArray[j] v (decide (∃(j':Nat) (h:j'<is.toArray.size),is.toArray[j']=is.toArray[j]∧eqT (ts.getD j' .non) t=true))
  rw[key j hj]
  exact at_ j hj
 ·have go: ∀(f:Value→Bool) (g:T→Bool) (is:List Value) (ts:List T),is.length=ts.length→(∀(j:Nat) (h:j<is.length),f is[j]=g (ts.getD j .non))→is.countP f=ts.countP g:=by
   intro f g is
   induction is with
   | nil=>
    intro ts hl _
    cases ts with
    | nil=>rfl
    | cons _ _=>simp at hl
   | cons i is ih=>
    intro ts hl h
    cases ts with
    | nil=>simp at hl
    | cons u ts=>
     rw[List.countP_cons,List.countP_cons,ih ts (by simpa using hl) (fun j hj=>h (j+1) (Nat.succ_lt_succ hj))]
     have:=h 0 (by simp)
     simp only[List.getElem_cons_zero,List.getD_cons_zero] at this
     rw[this]
  refine go _ _ is ts (by lia) fun j hj=> ?_
  have:=key j (by simpa using hj)
  simpa using this
def qnW (K:PySem.W.Frag):V→List V→Hp→VK→Prop:=fun x vs H Q=> ∃B t p ws ts y,Le B H∧x= .ref p∧vs=[y]∧Rep K B t y∧H p=some (.lst ws)∧qaP K B ts ws∧okT 7 t=true∧ts.all (okT 7)=true∧Q (.int (ts.countP (fun u=>eqT u t):Nat)) H
theorem qgC (hu:X.A.units+8<cLine):MtR X "list.count" (qnW X.K):=by
 intro pins s σ H x vs v us Q I rx rv h
 obtain ⟨B,t,p,ws,ts,y,le,rfl,rfl,rt,hH,rs,o1,o2,q⟩:=h
 cases rx
 obtain ⟨u,rfl,ru⟩:=qfz rv
 obtain ⟨z,its,n,r,hl,e⟩:=I.lstM hH
 obtain ⟨f,h1,h2⟩:=qh1 hu I le rt ru o1 o2 rs r
 refine call_meets F.slot_list_count ⟨_,e,rfl⟩ F.entry_list_count (F.args_list_count_2 _ _) (SeqAt.list_countAt p _ n _ _ u f) ⟨e,h1,?_⟩
 refine ⟨.int _,H,I.tok _,⟨_,rfl⟩,?_⟩
 rw[show its.toArray.toList=its from rfl,h2]
 exact q
def qfu (q:Bool×List T) (t:T):Rs T:=if q.1=true∧okT 7 t=true∧q.2.all (okT 7)=true then .ok (.int (q.2.countP (fun u=>eqT u t):Nat)) else .no
def qeW (dq:Ro→Rs (Bool×List T)) (da:Ro→Rs T):Ro→Rs T:=fun ρ=>dq ρ>>=fun q=>if q.1=true then da ρ>>=fun t=>qfu q t else .no
theorem qi1 (h:PE X e (tBM X.K "list" (qnW X.K) (tQ M dq) (qdm (tP M da) qj1))) (hK:X.K=M.K:=by rfl):DE M X e (qeW dq da):=by
 refine PE.weak h fun σ H Q hq=> ?_
 obtain ⟨H0,B0,ρ,B,ev,w⟩:=hq
 refine tQ.of ev (Wnt.mono (Wnt.bind (qaG.mp w)) fun q w1 p vs H1 B1 g1 m1 hq r1=> ?_)
 have ev1:=ev.grow g1 m1
 split at w1
 ·rename_i z
  rw[if_pos z] at hq
  have hp:H1 p=some (.lst vs):=hq
  refine ⟨.inl ⟨rfl,_,SqL.of hp⟩,?_⟩
  refine tP.of ev1 (Wnt.mono (Wnt.bind w1) fun t w2 y H2 B2 g2 m2 r2=> ?_)
  have ev2:=ev1.grow g2 m2
  unfold qfu at w2
  split at w2
  ·rename_i hc
   refine ⟨B2,t,p,vs,q.2,y,ev2.bh,rfl,rfl,by rw[hK]; exact r2,g2.gx.hh _ _ hp (by intro ps z; cases z),by rw[hK]; exact r1.mono g2.bb,hc.2.1,hc.2.2,w2 _ H2 B2 (g1.trans g2) m2 qbB⟩
  ·exact w2.elim
 ·exact w1.elim
end
end PL
end
section
namespace K19
open PySem L2
def top (i:Nat):Stmt:=PySem.Challenge.pw_rowasks_k19_whole_joins_of_parts.main.body.getD i (.Pass ⟨0,0,0,0⟩)
abbrev qui:Stmt:=top 0
abbrev qsi:Stmt:=top 11
abbrev s_7:Stmt:=top 12
abbrev qsg:Stmt:=top 13
abbrev qse:Stmt:=top 14
abbrev qsd:Stmt:=top 15
abbrev qsc:Stmt:=top 16
abbrev qnR:Stmt:=top 17
abbrev qsf:Stmt:=top 18
abbrev s_1:Stmt:=top 19
abbrev s_3:Stmt:=top 20
abbrev s_2:Stmt:=top 21
abbrev s_0:Stmt:=top 22
abbrev s_4:Stmt:=top 23
abbrev s_8:Stmt:=top 24
abbrev quk:Stmt:=top 27
abbrev quj:Stmt:=top 28
abbrev qrt:Stmt:=top 30
abbrev qsb:Stmt:=top 32
abbrev s_9:Stmt:=top 33
abbrev qru:Stmt:=top 34
abbrev qrv:Stmt:=top 35
abbrev qsl:Stmt:=top 37
abbrev qsk:Stmt:=top 38
abbrev qsh:Stmt:=top 39
abbrev qsm:Stmt:=top 40
abbrev qsj:Stmt:=top 41
abbrev qhg:Stmt:=top 42
end K19
end
section
namespace K19
open PySem L2 RH PL
def qg2 (ns:List Int) (k:Int):Int:=if k<(ns.length:Int) then ns.getD k.toNat 0 else if ns=[] then 0 else ns.getD (k % (ns.length:Int)).toNat 0*31+k
def qgV (ns:List Int) (k:Int):Int:=(qg2 ns k+6151*(k+1))*40692 % 2147483399
def qjs (ns:List Int) (k many:Int):Int:=(qgV ns k*qgV ns k+qgV ns k / 31) % 2147483629 % many
theorem qmG {ns:List Int} {k many:Int} (h:0<many):0≤qjs ns k many:=Int.emod_nonneg _ (by omega)
theorem qmH {ns:List Int} {k many:Int} (h:0<many):qjs ns k many<many:=Int.emod_lt_of_pos _ h
def qoo (K:PySem.W.Frag) (H:Hp) (a:Addr) (ns:List Int):Prop:=SqL K H a (ns.map V.int)∧ns.length≤63
def qnM (K:PySem.W.Frag):Sp:=fun vs H Q _=> ∃a ns k,vs=[.ref a,.int k]∧qoo K H a ns∧0≤k∧k<1000000∧∀H',qck H H'→Q (.int (qg2 ns k)) H'
def qnK (K:PySem.W.Frag):Sp:=fun vs H Q _=> ∃a ns k many,vs=[.ref a,.int k,.int many]∧qoo K H a ns∧0≤k∧k<1000000∧0<many∧∀H',qck H H'→Q (.int (qjs ns k many)) H'
theorem ql3 {ns:List Int} {k:Int} (h0:0≤k) (h1:k<(ns.length:Int)):atI (ns.map V.int) k=some (.int (ns.getD k.toNat 0)):=by
 obtain ⟨j,rfl⟩: ∃j:Nat,k=j:=⟨k.toNat,by omega⟩
 refine qaS ?_
 rw[List.getElem?_map,Int.toNat_natCast,List.getD_eq_getElem?_getD,List.getElem?_eq_getElem (by omega)]
 rfl
section
variable {P:Program} {w:World} {K:PySem.W.Frag} {mg:Str→Option Value} {base:Heap}
theorem qqk:qau ["_law_script", "_law_k"] ["_law_script", "_law_k"] (qad qsl):=⟨rfl,rfl,rfl,by decide+kernel,rfl,by decide+kernel,by decide+kernel⟩
theorem qoZ {f:Addr} {fd:FuncData} (F:Fun K "_law_cell" "_law_cell" qsl f fd) (n1:mg "len" =none):qbb P w K mg base CX0 1 f fd ["_law_script", "_law_k"] (qnM K):=by
 refine F.ok qqk (fun vs H Q E h=> ?_) (fun cdv A outer s H vs Q E hr h=> ?_)
 ·obtain ⟨a,ns,k,rfl,_⟩:=h
  rfl
 ·obtain ⟨a,ns,k,rfl,hS,h0,hb,q⟩:=h
  refine ⟨_,qaA (qeJ (qcz qoV (pv 1) (qaB qeC rfl n1 PySem.boot_len (qaf (pv 0) qaq)) (qdH _)) (qaW (qb9 (qce (qiK K rfl) (pv 0) (pv 1) (fun _ _=>rfl)))) qch)
   (qaA (qeJ (qcz (qhx hr.units0) (pv 0) (qgt qaq) (qdH _)) (qaW (qb9 qaD)) qch)
   (qaW (qb9 (qcE qgv (qcE qfj (qce (qiK K rfl) (pv 0) (qcE qgu (pv 1) (qaB qeC rfl n1 PySem.boot_len (qaf (pv 0) qaq))) (fun _ _=>rfl)) qaD) (pv 1))))),?_⟩
  refine ⟨_,rfl,_,rfl,_,_,rfl,.inl ⟨_,hS.1,rfl⟩,_,_,rfl,rfl,_,rfl,?_⟩
  have len:((ns.map V.int).length:Int)=(ns.length:Int):=by rw[List.length_map]
  by_cases c1:k<(ns.length:Int)
  ·refine qgI (by rw[len]; exact decide_eq_true c1) ?_
   refine ⟨_,rfl,_,rfl,a,_,k,_,rfl,rfl,hS.1,ql3 h0 c1,?_⟩
   have e:qg2 ns k=ns.getD k.toNat 0:=by unfold qg2; rw[if_pos c1]
   rw[←e]
   exact q H (qck.refl H)
  ·refine qhL (by rw[len]; exact decide_eq_false c1) ?_
   refine ⟨_,rfl,Nat.zero_le _,fun p hp=> ?_⟩
   have s1:qck H (upd H p (.lst [])):=qa3 hp
   refine ⟨a,p,_,_,rfl,rfl,s1.seq hS.1,SqL.of qag,?_⟩
   by_cases c2:ns=[]
   ·subst c2
    refine .inr ⟨rfl,fun _=>true,fun i x y hx=>by simp at hx,_,rfl,?_⟩
    refine qgI rfl ?_
    have e:qg2 [] k=0:=by unfold qg2; rw[if_neg c1,if_pos rfl]
    have q':=q _ s1
    rw[e] at q'
    exact q'
   ·have hpos:0<ns.length:=List.length_pos_iff.mpr c2
    refine .inl ⟨by simpa using c2,_,rfl,?_⟩
    refine qhL rfl ?_
    have hm0:0≤k % (ns.length:Int):=Int.emod_nonneg _ (by omega)
    have hm1:k % (ns.length:Int)<(ns.length:Int):=Int.emod_lt_of_pos _ (by omega)
    refine ⟨_,rfl,_,rfl,_,rfl,_,_,rfl,.inl ⟨_,s1.seq hS.1,rfl⟩,_,_,rfl,rfl,by rw[len]; omega,a,_,_,_,rfl,rfl,s1.seq hS.1,by rw[len]; exact ql3 hm0 hm1,_,_,rfl,rfl,.inr ⟨by decide,by decide⟩,_,rfl,_,_,rfl,rfl,?_⟩
    have e:qg2 ns k=ns.getD (k % (ns.length:Int)).toNat 0*31+k:=by unfold qg2; rw[if_neg c1,if_neg c2]
    have q':=q _ s1
    rw[e] at q'
    exact q'
theorem qnQ:qau ["_law_script", "_law_k", "_law_many", "_law_drawn"] ["_law_script", "_law_k", "_law_many"] (qad qsk):=⟨rfl,rfl,rfl,by decide+kernel,rfl,by decide+kernel,by decide+kernel⟩
theorem qoY {f fC:Addr} {fd fdC:FuncData} (F:Fun K "_law_pick" "_law_pick" qsk f fd) (GC:qbb P w K mg base CX0 1 fC fdC ["_law_script", "_law_k"] (qnM K)) (mC:mg "_law_cell" =some (.ref fC)) (kC:PySem.W.keepIn K (.ref fC)=true) (bC:qbz K fdC ["_law_script", "_law_k"] []):
  qbb P w K mg base CX0 2 f fd ["_law_script", "_law_k", "_law_many"] (qnK K):=by
 refine F.ok qnQ (fun vs H Q E h=> ?_) (fun cdv A outer s H vs Q E hr h=> ?_)
 ·obtain ⟨a,ns,k,many,rfl,_⟩:=h
  rfl
 ·obtain ⟨a,ns,k,many,rfl,hS,h0,hb,hm,q⟩:=h
  refine ⟨_,qaA (qfe (i:=3) qnQ.nd rfl (Or.inl rfl) (qcE qgu (qcE qfj (qcE qgv (qbi GC hr rfl mC kC bC .nil qcF (qaf (pv 0) (qaf (pv 1) qaq))) (qcE qfj qaD (qcE qgv (pv 1) qaD))) qaD) qaD))
   (qaW (qb9 (qcE qgu (qcE qgu (qcE qgv (qcE qfj (pv 3) (pv 3)) (qcE qoW (pv 3) qaD)) qaD) (pv 2)))),?_⟩
  refine ⟨_,rfl,_,rfl,a,ns,k,rfl,hS,h0,hb,fun H1 s1=> ?_⟩
  refine ⟨_,rfl,_,_,rfl,rfl,_,_,rfl,rfl,.inl ⟨by decide,by decide⟩,_,_,rfl,rfl,_,_,rfl,rfl,.inr ⟨by decide,by decide⟩,_,_,rfl,rfl,(show (0:Int)<2147483399 by decide),?_⟩
  have d0:0≤qgV ns k:=Int.emod_nonneg _ (by decide)
  have d1:qgV ns k<2147483399:=Int.emod_lt_of_pos _ (by decide)
  refine ⟨_,rfl,_,rfl,_,_,rfl,rfl,.inl ⟨?_,?_⟩,_,rfl,_,_,rfl,rfl,⟨by decide,by decide⟩,_,_,rfl,rfl,_,_,rfl,rfl,(show (0:Int)<2147483629 by decide),_,rfl,_,_,rfl,rfl,hm,q H1 s1⟩
  ·exact Int.lt_of_lt_of_le (by decide) d0
  ·exact Int.lt_trans d1 (by decide)
end
def qdY:List T→Rs T
 | [.scr ns,.int k,.int many]=>if (0≤k∧k<1000000)∧0<many∧ns.length≤63 then .ok (.int (qjs ns k many)) else .no
 | _=>.no
theorem qo8 {P:Program} {w:World} {K:PySem.W.Frag} {mg:Str→Option Value} {base:Heap} {G:Gam} {C:Str→Addr} {f:Addr} {fd:FuncData} (F:qbb P w K mg base CX0 2 f fd ["_law_script", "_law_k", "_law_many"] (qnK K)) (m:mg "_law_pick" =some (.ref f))
  (k:PySem.W.keepIn K (.ref f)=true) (b:qbz K fd ["_law_script", "_law_k", "_law_many"] []):Kn P w K mg base G C "_law_pick" ["_law_script", "_law_k", "_law_many"] 2 qdY:=by
 refine ⟨f,fd,F.imp fun vs H Q E h=> ?_,m,k,b⟩
 obtain ⟨B,ts,le,bt,gm,r,w⟩:=h
 unfold qdY at w
 split at w
 ·rename_i ns k many
  split at w
  ·rename_i hc
   obtain ⟨v1,r1,rfl,a1,b1⟩:=r.inv
   obtain ⟨v2,r2,rfl,a2,b2⟩:=b1.inv
   obtain ⟨v3,r3,rfl,a3,b3⟩:=b2.inv
   cases b3.inv0
   unfold Rep at a1
   obtain ⟨p,rfl,sq⟩:=a1
   cases qar a2
   cases qar a3
   refine ⟨p,ns,k,many,rfl,⟨le.sqL sq,hc.2.2⟩,hc.1.1,hc.1.2,hc.2.1,fun H' sm=> ?_⟩
   exact w _ H' B ⟨⟨fun a o e _=>sm a o e,fun a e z=>by
    cases q:H a with
    | none=>exact e q
    | some o=>rw[sm a o q] at z; cases z⟩,.refl _,fun a o e=>sm a o (le a o e),bt,fun _ _ _ _ _=>rfl⟩ (G.st H H' (fun a o e _ _ _ _=>sm a o e) gm) qbB
  ·exact w.elim
 ·exact w.elim
end K19
end
section
namespace K19J
open PySem L2 RH
def top (i:Nat):Stmt:=PySem.Challenge.pw_rowasks_k19_whole_joins_of_parts.main.body.getD i (.Pass ⟨0,0,0,0⟩)
abbrev qnS:Stmt:=top 11
abbrev qtt:Stmt:=top 14
abbrev qtr:Stmt:=top 15
abbrev qts:Stmt:=top 16
abbrev qeG:Stmt:=top 17
abbrev qko:Stmt:=top 12
abbrev qql:Stmt:=top 13
def qka:Sp:=fun vs H Q _=> ∃i,vs=[.int i]∧Q (.bl true) H
def qie:Sp:=fun vs H Q _=> ∃i lo hi,vs=[.int i,.int lo,.int hi]∧lo≤i∧i≤hi∧Q (.bl true) H
def letterB (c:Nat):Bool:=decide (97≤c)&&decide (c≤122)
def keyS (z:Str):Bool:=decide (1≤z.length)&&decide (z.length≤2)&&z.cps.toList.all letterB
def qnH:Sp:=fun vs H Q _=> ∃z,vs=[.str z,.int 2]∧keyS z=true∧∀H',qck H H'→Q (.bl true) H'
def qqe:Sp:=fun vs H Q _=> ∃z,vs=[.str z]∧keyS z=true∧∀H',qck H H'→Q (.bl true) H'
structure RowOk (r:Rw):Prop where
 m:0≤r.1∧r.1≤99
 k:keyS r.2.1=true
 n: -99≤r.2.2∧r.2.2≤99
def qqc:Sp:=fun vs H Q _=> ∃t r,vs=[.ref t]∧H t=some (.tup (qf9 r))∧RowOk r∧∀H',qck H H'→Q (.bl true) H'
theorem qn5 (a b:Nat):decide ([a]<[b])=decide (a<b):=by
 rw[Bool.eq_iff_iff,decide_eq_true_eq,decide_eq_true_eq,List.cons_lt_cons_iff]
 constructor
 ·rintro (h | ⟨_,h⟩)
  ·exact h
  ·exact absurd h (List.lt_irrefl _)
 ·exact .inl
theorem boot_all:bootBuiltins "all" =some (.builtin "all"):=by decide+kernel
section
variable {P:Program} {w:World} {K:PySem.W.Frag} {mg:Str→Option Value} {base:Heap}
theorem qoF:qau ["thing"] ["thing"] (qad qnS):=⟨rfl,rfl,rfl,by decide+kernel,rfl,by decide+kernel,by decide+kernel⟩
theorem ok_whole {f:Addr} {fd:FuncData} (F:Fun K "is_whole" "is_whole" qnS f fd) (n1:mg "isinstance" =none) (n2:mg "int" =none) (n3:mg "bool" =none):qbb P w K mg base CX0 1 f fd ["thing"] qka:=by
 refine F.ok qoF (fun vs H Q E h=> ?_) (fun cdv A outer s H vs Q E hr h=> ?_)
 ·obtain ⟨x,rfl,_⟩:=h
  rfl
 ·obtain ⟨i,rfl,k⟩:=h
  refine ⟨_,qaW (qb9 (qkQ (qaB qcP rfl n1 PyProof.Rows.boot_isinstance (qaf (pv 0) (qaf (qc3 (v:=.ty "int") rfl n2 PyProof.Rows.boot_int rfl) qaq)))
    (qkO (qn3 (qaB qcP rfl n1 PyProof.Rows.boot_isinstance (qaf (pv 0) (qaf (qc3 (v:=.ty "bool") rfl n3 PyProof.Rows.boot_bool rfl) qaq))))))),?_⟩
  exact ⟨_,rfl,_,_,_,true,rfl,.int i,rfl,_,rfl,qm3 ⟨_,rfl,_,_,_,false,rfl,.int i,rfl,_,rfl,k⟩⟩
theorem qmr:qau ["thing", "least", "greatest"] ["thing", "least", "greatest"] (qad qko):=⟨rfl,rfl,rfl,by decide+kernel,rfl,by decide+kernel,by decide+kernel⟩
theorem ok_within {f fW:Addr} {fd fdW:FuncData} (F:Fun K "is_whole_within" "is_whole_within" qko f fd) (GW:qbb P w K mg base CX0 1 fW fdW ["thing"] qka) (mW:mg "is_whole" =some (.ref fW)) (kW:PySem.W.keepIn K (.ref fW)=true) (bW:qbz K fdW ["thing"] []):qbb P w K mg base CX0 2 f fd ["thing", "least", "greatest"] qie:=by
 refine F.ok qmr (fun vs H Q E h=> ?_) (fun cdv A outer s H vs Q E hr h=> ?_)
 ·obtain ⟨x,lo,hi,rfl,_⟩:=h
  rfl
 ·obtain ⟨i,lo,hi,rfl,h1,h2,k⟩:=h
  refine ⟨_,qaW (qb9 (qkQ (qbi GW hr rfl mW kW bW .nil qcF (qaf (pv 0) qaq)) (qkO (qfK qhw qhw (pv 1) (pv 0) (pv 2))))),?_⟩
  refine ⟨_,rfl,i,rfl,_,rfl,qm3 ⟨_,rfl,_,rfl,_,_,rfl,rfl,_,rfl,qgI (decide_eq_true h1) ⟨_,rfl,_,_,rfl,rfl,?_⟩⟩⟩
  show Q (.bl (decide (i≤hi))) H
  rw[decide_eq_true h2]
  exact k
theorem qqh:qau ["thing", "longest"] ["thing", "longest"] (qad qql):=⟨rfl,rfl,rfl,by decide+kernel,rfl,by decide+kernel,by decide+kernel⟩
theorem ok_word {f:Addr} {fd:FuncData} (F:Fun K "is_word" "is_word" qql f fd) (n1:mg "isinstance" =none) (n2:mg "str" =none) (n3:mg "len" =none) (n4:mg "all" =none):qbb P w K mg base CX0 1 f fd ["thing", "longest"] qnH:=by
 refine F.ok qqh (fun vs H Q E h=> ?_) (fun cdv A outer s H vs Q E hr h=> ?_)
 ·obtain ⟨x,rfl,_⟩:=h
  rfl
 ·obtain ⟨z,rfl,hk,k⟩:=h
  refine ⟨_,qaA (qeJ (PW.pt (qmC (qej (qei (qaB qcP rfl n1 PyProof.Rows.boot_isinstance (qaf (pv 0) (qaf (qc3 (v:=.ty "str") rfl n2 PyProof.Rows.boot_str rfl) qaq)))))
    (qin (qej (qio qhw qhw qaD (qaB qeC rfl n3 PySem.boot_len (qaf (pv 0) qaq)) (pv 1)))))) qb7 qch)
   (qaW (qb9 (qaB (qcQ rfl) rfl n4 boot_all (qaf (qdo (own:=["sign"]) (fr:=[]) rfl (qn1 (pv 0)) rfl (by decide+kernel) (by decide+kernel) (fun y hy e=>absurd e ((by decide+kernel: ∀y∈_,y.2≠NameKind.free) y hy)) (fun p hp=>nomatch hp)
    (fun fp s3 H3=>⟨qay (i:=0) (show (["sign"]:List Str).Nodup by decide+kernel) rfl (Or.inl rfl) (.inr rfl),qc7,qfK qeL qeL qkN (pv 0) qkN⟩)) qaq)))),?_⟩
  unfold keyS at hk
  rw[Bool.and_eq_true,Bool.and_eq_true,decide_eq_true_eq,decide_eq_true_eq] at hk
  obtain ⟨⟨k1,k2⟩,k3⟩:=hk
  have hsz:z.length≤sizeLine:=Nat.le_of_lt (qaQ (by omega))
  refine ⟨_,rfl,_,_,_,true,rfl,.str z,rfl,_,rfl,qha ⟨_,rfl,_,z.length,rfl,⟨hsz,rfl⟩,_,_,rfl,rfl,_,rfl,qgI (decide_eq_true (by omega)) ⟨_,rfl,_,_,rfl,rfl,_,rfl,qhL (by simp; omega) ?_⟩⟩⟩
  refine ⟨_,rfl,z,rfl,fun D hD=>qdV (n:=z.cps.size) (fun i ys σ H'=>ys=(z.cps.toList.take i).map (fun _=>V.bl true)∧H'=upd H D (.lst ys)∧∃o,σ=[o]) ⟨by simp,rfl,none,rfl⟩ hsz ?_ ?_ ?_ ?_ ?_⟩
  ·rintro i ys σ H' ⟨_,rfl,_⟩
   exact qag
  ·rintro i ys σ H' ⟨rfl,_,_⟩
   rw[List.length_map,List.length_take]
   exact Nat.min_le_left _ _
  ·rintro i ys σ H' hi _
   exact hi
  ·rintro ys σ H' ⟨rfl,rfl,_⟩
   refine ⟨Nat.le_refl _,D,z.cps.toList.map (fun _=>true),rfl,?_,?_⟩
   ·rw[List.take_of_length_le (by simp),List.map_map]
    exact SqL.of qag
   ·rw[show (z.cps.toList.map (fun _=>true)).all id=true by simp]
    exact k _ (qa3 hD)
  ·rintro i ys σ H' x H2 hi ⟨rfl,rfl,o,rfl⟩ ⟨rfl,c,hc,rfl⟩
   have hcl:z.cps.toList[i]? =some c:=by simpa using hc
   have hl:=List.all_eq_true.mp k3 c (List.mem_of_getElem? hcl)
   unfold letterB at hl
   rw[Bool.and_eq_true,decide_eq_true_eq,decide_eq_true_eq] at hl
   refine ⟨_,rfl,_,_,rfl,rfl,_,rfl,qgI (by show (!decide ([c]<[97]))=true; rw[qn5,decide_eq_false (by omega)]; rfl) ⟨_,_,rfl,rfl,qag,?_,qot,_,rfl⟩⟩
   rw[List.take_add_one,hcl,List.map_append]
   show _++[V.bl (!decide ([122]<[c]))]=_
   rw[qn5,decide_eq_false (by omega)]
   rfl
theorem qsa:qau ["thing"] ["thing"] (qad qtt):=⟨rfl,rfl,rfl,by decide+kernel,rfl,by decide+kernel,by decide+kernel⟩
theorem ok_key {f fW:Addr} {fd fdW:FuncData} (F:Fun K "is_key" "is_key" qtt f fd) {u:Value} (g1:mg "LONGEST_KEY" =some u) (r1:RelV (.int 2) u) (GW:qbb P w K mg base CX0 1 fW fdW ["thing", "longest"] qnH) (mW:mg "is_word" =some (.ref fW)) (kW:PySem.W.keepIn K (.ref fW)=true) (bW:qbz K fdW ["thing", "longest"] []):qbb P w K mg base CX0 2 f fd ["thing"] qqe:=by
 refine F.ok qsa (fun vs H Q E h=> ?_) (fun cdv A outer s H vs Q E hr h=> ?_)
 ·obtain ⟨x,rfl,_⟩:=h
  rfl
 ·obtain ⟨z,rfl,hk,k⟩:=h
  refine ⟨_,qaW (qb9 (qbi GW hr rfl mW kW bW .nil qcF (qaf (pv 0) (qaf (qc2 (v:=.int 2) rfl g1 r1) qaq)))),?_⟩
  exact ⟨_,rfl,z,rfl,hk,k⟩
theorem qr8:qau ["thing"] ["thing"] (qad qtr):=⟨rfl,rfl,rfl,by decide+kernel,rfl,by decide+kernel,by decide+kernel⟩
theorem ok_row {f fW fK:Addr} {fd fdW fdK:FuncData} (F:Fun K "is_row" "is_row" qtr f fd) (n1:mg "isinstance" =none) (n2:mg "tuple" =none) (n3:mg "len" =none) {u1 u2:Value} (g1:mg "GREATEST_MOMENT" =some u1) (r1:RelV (.int 99) u1) (g2:mg "GREATEST_NUMBER" =some u2) (r2:RelV (.int 99) u2)
  (GW:qbb P w K mg base CX0 2 fW fdW ["thing", "least", "greatest"] qie) (mW:mg "is_whole_within" =some (.ref fW)) (kW:PySem.W.keepIn K (.ref fW)=true) (bW:qbz K fdW ["thing", "least", "greatest"] [])
  (GK:qbb P w K mg base CX0 2 fK fdK ["thing"] qqe) (mK:mg "is_key" =some (.ref fK)) (kK:PySem.W.keepIn K (.ref fK)=true) (bK:qbz K fdK ["thing"] []):qbb P w K mg base CX0 3 f fd ["thing"] qqc:=by
 refine F.ok qr8 (fun vs H Q E h=> ?_) (fun cdv A outer s H vs Q E hr h=> ?_)
 ·obtain ⟨x,b,rfl,_⟩:=h
  rfl
 ·obtain ⟨t,r,rfl,ht,ro,k⟩:=h
  refine ⟨_,qaA (qeJ (PW.pt (qmC (qej (qei (qaB qcP rfl n1 PyProof.Rows.boot_isinstance (qaf (pv 0) (qaf (qc3 (v:=.ty "tuple") rfl n2 PyProof.Rows.boot_tuple rfl) qaq)))))
    (qin (qcz qqD (qaB qeC rfl n3 PySem.boot_len (qaf (pv 0) qaq)) qaD (qdH _))))) qb7 qch)
   (qaA (qeJ (PW.pt (qmC (qej (qei (qbi GW hr rfl mW kW bW .nil qcF (qaf (qce qca (pv 0) qaD (fun _ _=>rfl)) (qaf qaD (qaf (qc2 (v:=.int 99) rfl g1 r1) qaq))))))
    (qin (qej (qei (qbi GK hr rfl mK kK bK .nil qcF (qaf (qce qca (pv 0) qaD (fun _ _=>rfl)) qaq))))))) qb7 qch)
   (qaW (qb9 (qbi GW hr rfl mW kW bW .nil qcF (qaf (qce qca (pv 0) qaD (fun _ _=>rfl)) (qaf (qqz qnz (qc2 (v:=.int 99) rfl g2 r2)) (qaf (qc2 (v:=.int 99) rfl g2 r2) qaq))))))),?_⟩
  refine ⟨_,rfl,_,_,_,true,rfl,.tup ht,rfl,_,rfl,qha ⟨_,rfl,_,3,rfl,.inr ⟨_,SqT.of ht,rfl⟩,rfl,_,rfl,qha ?_⟩⟩
  refine ⟨_,rfl,_,_,_,_,rfl,rfl,SqT.of ht,qaS (j:=0) rfl,r.1,0,99,rfl,ro.m.1,ro.m.2,_,rfl,qha ?_⟩
  refine ⟨_,rfl,_,_,_,_,rfl,rfl,SqT.of ht,qaS (j:=1) rfl,r.2.1,rfl,ro.k,fun H1 s1=>⟨_,rfl,qha ?_⟩⟩
  exact ⟨_,rfl,_,_,_,_,rfl,rfl,SqT.of (s1 _ _ ht),qaS (j:=2) rfl,_,rfl,r.2.2, -99,99,rfl,ro.n.1,ro.n.2,k H1 s1⟩
end
theorem cut1 (xs:List V):qf4 xs (some 1) none=xs.drop 1:=by
 unfold qf4
 have e1:HT.sIx xs.length 0 (some ((1:Nat):Int))=min 1 xs.length:=HT.sIx_nat _ _ _
 have e1':HT.sIx xs.length 0 (some 1)=min 1 xs.length:=e1
 rw[e1',HT.sIx_none]
 cases xs with
 | nil=>rfl
 | cons x r=>
  have e:min 1 (x::r).length=1:=by simp
  rw[e]
  simp
def qrz (ms:List Int):Bool:=((List.range (ms.length - 1)).map fun j=>decide (ms.getD j 0≤ms.getD (j+1) 0)).all id
def qqd (K:PySem.W.Frag):Sp:=fun vs H Q _=> ∃a xs ms,vs=[.ref a]∧SqL K H a xs∧qee K H 0 xs ms∧xs.length≤1000∧∀H',qck H H'→Q (.bl (qrz ms)) H'
theorem qck.seqT {K:PySem.W.Frag} {H H':Hp} {a:Addr} {xs:List V} (e:qck H H') (h:SqT K H a xs):SqT K H' a xs:=by
 rcases h with (h | ⟨o,h⟩) | h
 ·exact .inl (.inl (e _ _ h))
 ·exact .inl (.inr ⟨o,e _ _ h⟩)
 ·exact .inr h
theorem qlx {ms:List Int} {i:Nat} (h:i<ms.length):ms[i]? =some (ms.getD i 0):=by
 rw[List.getD_eq_getElem?_getD,List.getElem?_eq_getElem h]
 rfl
section
variable {P:Program} {w:World} {K:PySem.W.Frag} {mg:Str→Option Value} {base:Heap}
theorem qr9:qau ["rows"] ["rows"] (qad qts):=⟨rfl,rfl,rfl,by decide+kernel,rfl,by decide+kernel,by decide+kernel⟩
theorem ok_log {f:Addr} {fd:FuncData} (F:Fun K "is_log" "is_log" qts f fd) (n1:mg "all" =none) (n2:mg "zip" =none):qbb P w K mg base CX0 1 f fd ["rows"] (qqd K):=by
 refine F.ok qr9 (fun vs H Q E h=> ?_) (fun cdv A outer s H vs Q E hr h=> ?_)
 ·obtain ⟨a,xs,ms,rfl,_⟩:=h
  rfl
 ·obtain ⟨a,xs,ms,rfl,hS,hK,hz,k⟩:=h
  refine ⟨_,qaW (qb9 (qaB (qcQ rfl) rfl n1 boot_all (qaf (qdo (own:=["ahead", "row"]) (fr:=[]) rfl (qqw rfl n2 (qaf (pv 0) (qaf (qew qkg (pv 0) (qhp qaD) qhq) qaq))) rfl (by decide+kernel) (by decide+kernel)
    (fun y hy e=>absurd e ((by decide+kernel: ∀y∈_,y.2≠NameKind.free) y hy)) (fun p hp=>nomatch hp)
    (fun fp s3 H3=>⟨qoO K rfl (n:=2) rfl (qfI (qay (i:=0) (show (["ahead", "row"]:List Str).Nodup by decide+kernel) rfl (Or.inl rfl) (.inr rfl)) (qfI (qay (i:=1) (show (["ahead", "row"]:List Str).Nodup by decide+kernel) rfl (Or.inl rfl) (.inr rfl)) qkM)),
     qc7,qkP qhw (qce (qdr K rfl) (pv 0) qaD (fun _ _=>rfl)) (qce (qdr K rfl) (pv 1) qaD (fun _ _=>rfl)) (qdH _)⟩)) qaq))),?_⟩
  refine ⟨_,rfl,_,rfl,_,rfl,a,xs,rfl,hS,fun q hq=> ?_⟩
  have s1:qck H (upd H q (.lst (qf4 xs (some 1) none))):=qa3 hq
  refine ⟨a,q,xs,_,rfl,s1.seq hS,SqL.of qag,fun D hD=> ?_⟩
  rw[cut1] at s1 hD⊢
  have hml:=hK.1
  generalize hH1:upd H q (.lst (xs.drop 1))=H1 at s1 hD⊢
  have hq1:H1 q=some (.lst (xs.drop 1)):=by rw[←hH1]; exact qag
  refine qdV (n:=xs.length - 1) (fun i ys σ H'=>ys=(List.range i).map (fun j=>V.bl (decide (ms.getD j 0≤ms.getD (j+1) 0)))∧H' D=some (.lst ys)∧qck H1 H'∧∃o1 o2,σ=[o1,o2]) ⟨rfl,qag,qa3 hD,none,none,rfl⟩ (Nat.le_trans (Nat.sub_le _ _) (Nat.le_of_lt (qaQ hz))) ?_ ?_ ?_ ?_ ?_
  ·rintro i ys σ H' ⟨_,h,_⟩
   exact h
  ·rintro i ys σ H' ⟨rfl,_⟩
   simp
  ·rintro i ys σ H' hi ⟨_,_,sm,_⟩
   exact ⟨xs,xs.drop 1,(s1.trans sm).seq hS,SqL.of (sm _ _ hq1),by omega,by rw[List.length_drop]; omega⟩
  ·rintro ys σ H' ⟨rfl,h,sm,_⟩
   refine ⟨⟨xs,xs.drop 1,(s1.trans sm).seq hS,SqL.of (sm _ _ hq1),by rw[List.length_drop]; omega⟩,D,(List.range (xs.length - 1)).map (fun j=>decide (ms.getD j 0≤ms.getD (j+1) 0)),rfl,?_,?_⟩
   ·rw[List.map_map]
    exact SqL.of h
   ·have k':=k H' (s1.trans sm)
    unfold qrz at k'
    rw[hml] at k'
    exact k'
  ·rintro i ys σ H' v H3 hi ⟨rfl,h,sm,o1,o2,rfl⟩ ⟨T,x,y,rfl,hT,rfl,hx,hy⟩
   have hx':=hx xs ((s1.trans sm).seq hS)
   have hy':=hy (xs.drop 1) (SqL.of (sm _ _ hq1))
   rw[List.getElem?_drop] at hy'
   obtain ⟨t1,z1,rfl,q1,e1⟩:=hK.2 i x _ hx' (qlx (by omega))
   obtain ⟨t2,z2,rfl,q2,e2⟩:=hK.2 (1+i) y _ hy' (qlx (by omega))
   have hTD:D≠T:=qak h hT
   have smT:qck H1 (upd H' T (.tup [V.ref t1,V.ref t2])):=sm.trans (qa3 hT)
   refine ⟨T,_,rfl,SqT.of qag,rfl,_,_,rfl,_,_,rfl,rfl,?_⟩
   refine ⟨_,rfl,t1,z1,_,_,rfl,rfl,qck.seqT (s1.trans smT) q1,qaS (j:=0) e1,_,rfl,t2,z2,_,_,rfl,rfl,qck.seqT (s1.trans smT) q2,qaS (j:=0) e2,_,_,rfl,rfl,?_⟩
   refine ⟨by rw[qae hTD]; exact h,?_,qag,fun b o e=> ?_,_,_,rfl⟩
   ·rw[List.range_succ,List.map_append,Nat.add_comm 1 i]
    rfl
   ·rw[qae (qak e hD)]
    exact smT b o e
end
abbrev qk3:Pos:=⟨38,28,38,46⟩
abbrev qhn:Str:= "in_order.<locals>.<lambda>"
def qkc (K:PySem.W.Frag) (T:Addr):Sp:=fun vs H Q _=> ∃a xs ms,vs=[.ref a]∧SqL K H a xs∧xs.length<64∧qee K H 0 xs ms∧Tab T qk3 qhn H∧
 ∀(H2:Hp) (D:Addr) (p:Array Nat),qed T H H2→Tab T qk3 qhn H2→H D=none→H2 D=none→St.Order ms xs.length p→Q (.ref D) (upd H2 D (.lst (p.toList.map fun j=>xs.getD j .non)))
section
variable {P:Program} {w:World} {K:PySem.W.Frag} {mg:Str→Option Value} {base:Heap}
theorem qoG:qau ["rows"] ["rows"] (qad qeG):=⟨rfl,rfl,rfl,by decide+kernel,rfl,by decide+kernel,by decide+kernel⟩
theorem ok_order {f c T:Addr} {oc kV doc pm cdv ct:Value} {od an:Option Addr} {osl:Array (Option Value)}
  (lk:K.lookup f=some ⟨oc,od,.func (PySem.W.fnOf "in_order" "in_order" (qaM qeG) (qaF qeG) (qad qeG) .none kV doc pm an cdv ct),osl⟩) (hcd:PySem.W.codeIn K cdv "in_order" =true) (hc:cdv= .ref c)
  (n1:mg "sorted" =none) (C:PySem.W.CodeHd base c T) (hb:qf8 mg base):
  qbb P w K mg base CX0 5 f (PySem.W.fnOf "in_order" "in_order" (qaM qeG) (qaF qeG) (qad qeG) .none kV doc pm an cdv ct) ["rows"] (qkc K T):=by
 refine qpi lk hcd qoG (fun vs H Q E h=> ?_) (fun A outer s H vs Q E hr h=> ?_)
 ·obtain ⟨a,xs,ms,rfl,_⟩:=h
  rfl
 ·obtain ⟨a,xs,ms,rfl,hS,h64,hK,hT,k⟩:=h
  refine ⟨_,PSs.nox (qaW (qb9 (qis (P:=T) (qual:=qhn) (i:=0) (pv 0) rfl n1 PyProof.Rows.boot_sorted hc C hb (by decide+kernel) rfl (show ("in_order" :Str)++ ".<locals>." ++ "<lambda>" =qhn by decide+kernel) rfl rfl rfl rfl (by decide+kernel) (by decide) (fun pm cv ctv v=>rfl) hr))),?_⟩
  exact ⟨_,rfl,a,xs,ms,rfl,hS,h64,hK,hT,fun H2 D p a1 a2 a3 a4 a5=>k H2 D p a1 a2 a3 a4 a5⟩
end
end K19J
end
section
namespace K19J
open PySem L2 RH SR
abbrev qkp:Stmt:=top 19
abbrev qkq:Stmt:=top 20
abbrev qkr:Stmt:=top 23
abbrev qij:Stmt:=top 24
abbrev qkt:Stmt:=top 27
abbrev qqm:Stmt:=top 22
def qfB (K:PySem.W.Frag):Sp:=fun vs H Q _=> ∃a xs rs,vs=[.ref a]∧SqL K H a xs∧qbD H xs rs∧(∀r∈rs,RowOk r)∧xs.length≤100∧∀H',qck H H'→Q .non H'
def qif (K:PySem.W.Frag):Sp:=fun vs H Q _=> ∃a xs rs,vs=[.ref a]∧SqL K H a xs∧qbD H xs rs∧Ris mk rs∧xs.length≤100∧∀H',qck H H'→Q .non H'
def qig:Sp:=fun vs H Q _=>vs=[.bl false]∧Q .non H
def qgi:Sp:=fun vs H Q _=> ∃t r m0,vs=[.ref t,.bl false,.int m0]∧H t=some (.tup (qf9 r))∧RowOk r∧m0≤r.1∧∀H',qck H H'→Q .non H'
def qih:Sp:=fun vs H Q _=> ∃ta t a r side,vs=[.ref ta,.ref t,.int side]∧H ta=some (.tup (qcY a))∧H t=some (.tup (qf9 r))∧∀p,H p=none→Q (.ref p) (upd H p (.tup (qcY (cpl a (tag side r)))))
theorem qmT {rs:List Rw} (h:Ris mk rs):qrz (rs.map mk)=true:=by
 unfold qrz
 rw[List.all_eq_true]
 intro b hb
 obtain ⟨j,hj,rfl⟩:=List.mem_map.mp hb
 have hj':=List.mem_range.mp hj
 rw[List.length_map] at hj'
 refine decide_eq_true ?_
 have h1:j<rs.length:=by omega
 have h2:j+1<rs.length:=by omega
 rw[List.getD_eq_getElem?_getD,List.getD_eq_getElem?_getD,List.getElem?_map,List.getElem?_map,List.getElem?_eq_getElem h1,List.getElem?_eq_getElem h2]
 exact List.pairwise_iff_getElem.mp h j (j+1) h1 h2 (Nat.lt_succ_self j)
section
variable {P:Program} {w:World} {K:PySem.W.Frag} {mg:Str→Option Value} {base:Heap}
theorem qms:qau ["rows"] ["rows"] (qad qkp):=⟨rfl,rfl,rfl,by decide+kernel,rfl,by decide+kernel,by decide+kernel⟩
theorem ok_refRow {f fR:Addr} {fd fdR:FuncData} (F:Fun K "refuse_what_is_no_row" "refuse_what_is_no_row" qkp f fd) (n1:mg "all" =none) (GR:qbb P w K mg base CX0 3 fR fdR ["thing"] qqc) (mR:mg "is_row" =some (.ref fR)) (kR:PySem.W.keepIn K (.ref fR)=true) (bR:qbz K fdR ["thing"] []):
  qbb P w K mg base CX0 4 f fd ["rows"] (qfB K):=by
 refine F.ok qms (fun vs H Q E h=> ?_) (fun cdv A outer s H vs Q E hr h=> ?_)
 ·obtain ⟨a,xs,rs,rfl,_⟩:=h
  rfl
 ·obtain ⟨a,xs,rs,rfl,hS,hR,hok,hl,k⟩:=h
  refine ⟨_,qaW (qeJ (qej (qei (qaB (qcQ rfl) rfl n1 boot_all (qaf (qdo (own:=["row"]) (fr:=[]) rfl (qd2 (pv 0)) rfl (by decide+kernel) (by decide+kernel) (fun y hy e=>absurd e ((by decide+kernel: ∀y∈_,y.2≠NameKind.free) y hy)) (fun p hp=>nomatch hp)
    (fun fp s3 H3=>⟨qay (i:=0) (show (["row"]:List Str).Nodup by decide+kernel) rfl (Or.inl rfl) (.inr rfl),qc7,qbi GR hr rfl mR kR bR .nil qcF (qaf (pv 0) qaq)⟩)) qaq)))) qb7 qch),?_⟩
  refine ⟨_,rfl,a,rfl,⟨_,hS⟩,fun D hD=> ?_⟩
  refine qdV (n:=xs.length) (fun i ys σ H'=>qck H H'∧H' D=some (.lst ys)∧ys=(List.replicate i true).map V.bl∧∃o,σ=[o]) ⟨qa3 hD,qag,rfl,none,rfl⟩ (Nat.le_of_lt (qaQ (by omega))) ?_ ?_ ?_ ?_ ?_
  ·rintro i ys σ H' ⟨_,h,_⟩
   exact h
  ·rintro i ys σ H' ⟨_,_,rfl,_⟩
   simp
  ·rintro i ys σ H' hi ⟨sm,_⟩
   exact ⟨xs,xs[i],sm.seq hS,List.getElem?_eq_getElem hi⟩
  ·rintro ys σ H' ⟨sm,h,rfl,_⟩
   refine ⟨⟨xs,sm.seq hS,Nat.le_refl _⟩,D,List.replicate xs.length true,rfl,SqL.of h,?_⟩
   rw[show (List.replicate xs.length true).all id=true by rw[List.all_eq_true]; intro b hb; exact List.eq_of_mem_replicate hb]
   exact ⟨_,rfl,qha (k H' sm)⟩
  ·rintro i ys σ H' v H3 hi ⟨sm,h,rfl,o,rfl⟩ ⟨rfl,hxi⟩
   have e:=hxi xs (sm.seq hS)
   obtain ⟨r,t,er,rfl,ht⟩:=(hR.same sm).get e
   have ro:=hok r (List.mem_of_getElem? er)
   refine ⟨_,rfl,t,r,rfl,ht,ro,fun H4 s4=> ?_⟩
   refine ⟨s4 _ _ h,fun b' o e=> ?_,qag,by rw[List.replicate_succ',List.map_append]; rfl,_,rfl⟩
   rw[qae (qak e hD)]
   exact s4 _ _ (sm _ _ e)
theorem qmt:qau ["rows"] ["rows"] (qad qkq):=⟨rfl,rfl,rfl,by decide+kernel,rfl,by decide+kernel,by decide+kernel⟩
theorem ok_refLog {f fL:Addr} {fd fdL:FuncData} (F:Fun K "refuse_out_of_order" "refuse_out_of_order" qkq f fd) (GL:qbb P w K mg base CX0 1 fL fdL ["rows"] (qqd K)) (mL:mg "is_log" =some (.ref fL)) (kL:PySem.W.keepIn K (.ref fL)=true) (bL:qbz K fdL ["rows"] []):
  qbb P w K mg base CX0 2 f fd ["rows"] (qif K):=by
 refine F.ok qmt (fun vs H Q E h=> ?_) (fun cdv A outer s H vs Q E hr h=> ?_)
 ·obtain ⟨a,xs,rs,rfl,_⟩:=h
  rfl
 ·obtain ⟨a,xs,rs,rfl,hS,hR,hris,hl,k⟩:=h
  refine ⟨_,qaW (qeJ (qej (qei (qbi GL hr rfl mL kL bL .nil qcF (qaf (pv 0) qaq)))) qb7 qch),?_⟩
  refine ⟨_,rfl,a,xs,_,rfl,hS,qjl hR,by omega,fun H' s'=> ?_⟩
  rw[qmT hris]
  exact ⟨_,rfl,qha (k H' s')⟩
theorem qmu:qau ["ended"] ["ended"] (qad qkr):=⟨rfl,rfl,rfl,by decide+kernel,rfl,by decide+kernel,by decide+kernel⟩
theorem ok_refEnd {f:Addr} {fd:FuncData} (F:Fun K "refuse_when_ended" "refuse_when_ended" qkr f fd):qbb P w K mg base CX0 1 f fd ["ended"] qig:=by
 refine F.ok qmu (fun vs H Q E h=> ?_) (fun cdv A outer s H vs Q E hr h=> ?_)
 ·obtain ⟨rfl,_⟩:=h
  rfl
 ·obtain ⟨rfl,k⟩:=h
  exact ⟨_,qaW (qeJ (qei (pv 0)) qb7 qch),_,rfl,_,rfl,qha k⟩
theorem qkn:qau ["row", "ended", "earliest"] ["row", "ended", "earliest"] (qad qij):=⟨rfl,rfl,rfl,by decide+kernel,rfl,by decide+kernel,by decide+kernel⟩
theorem ok_refTake {f fE fR:Addr} {fd fdE fdR:FuncData} (F:Fun K "refuse_to_take" "refuse_to_take" qij f fd)
  (GE:qbb P w K mg base CX0 1 fE fdE ["ended"] qig) (mE:mg "refuse_when_ended" =some (.ref fE)) (kE:PySem.W.keepIn K (.ref fE)=true) (bE:qbz K fdE ["ended"] [])
  (GR:qbb P w K mg base CX0 4 fR fdR ["rows"] (qfB K)) (mR:mg "refuse_what_is_no_row" =some (.ref fR)) (kR:PySem.W.keepIn K (.ref fR)=true) (bR:qbz K fdR ["rows"] []):qbb P w K mg base CX0 5 f fd ["row", "ended", "earliest"] qgi:=by
 refine F.ok qkn (fun vs H Q E h=> ?_) (fun cdv A outer s H vs Q E hr h=> ?_)
 ·obtain ⟨t,r,m0,rfl,_⟩:=h
  rfl
 ·obtain ⟨t,r,m0,rfl,ht,ro,hm,k⟩:=h
  refine ⟨_,qaA (qbX (qbi GE (hr.mono (by decide)) rfl mE kE bE .nil qcF (qaf (pv 1) qaq)))
   (qaA (qbX (qbi GR (hr.mono (by decide)) rfl mR kR bR .nil qcF (qaf (qgt (qaf (pv 0) qaq)) qaq)))
   (qaW (qeJ (qcz qoV (qce qca (pv 0) qaD (fun _ _=>rfl)) (pv 2) (qdH _)) qb7 qch))),?_⟩
  refine ⟨_,rfl,rfl,_,rfl,by show 1≤sizeLine; decide,fun l hl=> ?_⟩
  have s1:qck H (upd H l (.lst [.ref t])):=qa3 hl
  refine ⟨l,_,[r],rfl,SqL.of qag,qbD.snoc qbD.nil (s1 _ _ ht),fun r' hr'=>by rw[List.mem_singleton.mp hr']; exact ro,by show 1≤100; decide,fun H2 s2=> ?_⟩
  have s3:=s1.trans s2
  refine ⟨_,rfl,t,_,_,_,rfl,rfl,SqT.of (s3 _ _ ht),qaS (j:=0) rfl,_,rfl,_,_,rfl,rfl,_,rfl,?_⟩
  exact qhL (decide_eq_false (by omega)) (k H2 s3)
theorem qmv:qau ["ahead", "row", "side"] ["ahead", "row", "side"] (qad qkt):=⟨rfl,rfl,rfl,by decide+kernel,rfl,by decide+kernel,by decide+kernel⟩
theorem ok_26 {f:Addr} {fd:FuncData} (F:Fun K "couple" "couple" qkt f fd):qbb P w K mg base CX0 1 f fd ["ahead", "row", "side"] qih:=by
 refine F.ok qmv (fun vs H Q E h=> ?_) (fun cdv A outer s H vs Q E hr h=> ?_)
 ·obtain ⟨ta,t,a,r,side,rfl,_⟩:=h
  rfl
 ·obtain ⟨ta,t,a,r,side,rfl,ha,ht,k⟩:=h
  refine ⟨_,qaA (qeJ (qcz qqE (pv 2) qaD (qdH _)) (qaW (qb9 (qfg (qaf (qce qca (pv 1) qaD (fun _ _=>rfl)) (qaf (qce qca (pv 1) qaD (fun _ _=>rfl)) (qaf (qce qca (pv 1) qaD (fun _ _=>rfl)) (qaf (qce qca (pv 0) qaD (fun _ _=>rfl)) qaq))))))) qch)
   (qaW (qb9 (qfg (qaf (qce qca (pv 1) qaD (fun _ _=>rfl)) (qaf (qce qca (pv 1) qaD (fun _ _=>rfl)) (qaf (qce qca (pv 0) qaD (fun _ _=>rfl)) (qaf (qce qca (pv 1) qaD (fun _ _=>rfl)) qaq))))))),?_⟩
  refine ⟨_,rfl,rfl,_,rfl,?_⟩
  by_cases c:side=0
  ·refine qgI (decide_eq_true (by rw[c])) ?_
   refine ⟨_,rfl,t,_,_,_,rfl,rfl,SqT.of ht,qaS (j:=0) rfl,_,rfl,t,_,_,_,rfl,rfl,SqT.of ht,qaS (j:=1) rfl,_,rfl,t,_,_,_,rfl,rfl,SqT.of ht,qaS (j:=2) rfl,_,rfl,ta,_,_,_,rfl,rfl,SqT.of ha,qaS (j:=2) rfl,by show 4≤sizeLine; decide,fun p hp=> ?_⟩
   have e:cpl a (tag side r)=(r.1,r.2.1,r.2.2,a.2.2.1):=by unfold cpl; exact if_pos c
   have z:=k p hp
   rw[e] at z
   exact z
  ·refine qhL (decide_eq_false (fun z=>c (by injection z))) ?_
   refine ⟨_,rfl,t,_,_,_,rfl,rfl,SqT.of ht,qaS (j:=0) rfl,_,rfl,t,_,_,_,rfl,rfl,SqT.of ht,qaS (j:=1) rfl,_,rfl,ta,_,_,_,rfl,rfl,SqT.of ha,qaS (j:=2) rfl,_,rfl,t,_,_,_,rfl,rfl,SqT.of ht,qaS (j:=2) rfl,by show 4≤sizeLine; decide,fun p hp=> ?_⟩
   have e:cpl a (tag side r)=(r.1,r.2.1,a.2.2.1,r.2.2):=by unfold cpl; exact if_neg c
   have z:=k p hp
   rw[e] at z
   exact z
end
def qnJ (K:PySem.W.Frag):Sp:=fun vs H Q _=> ∃a xs rs b ys qs,vs=[.ref a,.ref b]∧(SqL K H a xs∧qbD H xs rs∧(∀r∈rs,RowOk r)∧Ris mk rs∧xs.length≤100)∧(SqL K H b ys∧qbD H ys qs∧(∀r∈qs,RowOk r)∧Ris mk qs∧ys.length≤100)∧∀H',qck H H'→Q .non H'
section
variable {P:Program} {w:World} {K:PySem.W.Frag} {mg:Str→Option Value} {base:Heap}
theorem qqi:qau ["one", "other"] ["one", "other"] (qad qqm):=⟨rfl,rfl,rfl,by decide+kernel,rfl,by decide+kernel,by decide+kernel⟩
theorem ok_ref2 {f fR fL:Addr} {fd fdR fdL:FuncData} (F:Fun K "refuse_what_are_no_two_logs" "refuse_what_are_no_two_logs" qqm f fd)
  (GR:qbb P w K mg base CX0 4 fR fdR ["rows"] (qfB K)) (mR:mg "refuse_what_is_no_row" =some (.ref fR)) (kR:PySem.W.keepIn K (.ref fR)=true) (bR:qbz K fdR ["rows"] [])
  (GL:qbb P w K mg base CX0 2 fL fdL ["rows"] (qif K)) (mL:mg "refuse_out_of_order" =some (.ref fL)) (kL:PySem.W.keepIn K (.ref fL)=true) (bL:qbz K fdL ["rows"] []):qbb P w K mg base CX0 5 f fd ["one", "other"] (qnJ K):=by
 refine F.ok qqi (fun vs H Q E h=> ?_) (fun cdv A outer s H vs Q E hr h=> ?_)
 ·obtain ⟨a,xs,rs,b,ys,qs,rfl,_⟩:=h
  rfl
 ·obtain ⟨a,xs,rs,b,ys,qs,rfl,⟨hS1,hR1,ho1,hi1,l1⟩,⟨hS2,hR2,ho2,hi2,l2⟩,k⟩:=h
  refine ⟨_,qaA (qbX (qbi GR (hr.mono (by decide)) rfl mR kR bR .nil qcF (qaf (pv 0) qaq)))
   (qaA (qbX (qbi GR (hr.mono (by decide)) rfl mR kR bR .nil qcF (qaf (pv 1) qaq)))
   (qaA (qbX (qbi GL (hr.mono (by decide)) rfl mL kL bL .nil qcF (qaf (pv 0) qaq)))
   (qaW (qbX (qbi GL (hr.mono (by decide)) rfl mL kL bL .nil qcF (qaf (pv 1) qaq)))))),?_⟩
  refine ⟨_,rfl,a,xs,rs,rfl,hS1,hR1,ho1,l1,fun H1 s1=> ?_⟩
  refine ⟨_,rfl,b,ys,qs,rfl,s1.seq hS2,hR2.same s1,ho2,l2,fun H2 s2=> ?_⟩
  have t2:=s1.trans s2
  refine ⟨_,rfl,a,xs,rs,rfl,t2.seq hS1,hR1.same t2,hi1,l1,fun H3 s3=> ?_⟩
  have t3:=t2.trans s3
  exact ⟨_,rfl,b,ys,qs,rfl,t3.seq hS2,hR2.same t3,hi2,l2,fun H4 s4=>k H4 (t3.trans s4)⟩
end
end K19J
end
section
namespace K19J
open PySem L2 RH SR
def qqZ (s:Stmt) (i:Nat):Stmt:=match s with
 | .ClassDef _ _ _ b _ _ _ _ _ _ _=>b.getD i (.Pass ⟨0,0,0,0⟩)
 | _=>.Pass ⟨0,0,0,0⟩
abbrev sInit:Stmt:=qqZ (top 26) 0
abbrev sTake:Stmt:=qqZ (top 26) 1
def qga (w:Int) (nl:Addr) (n:Int):List (Str×V):=[("width",.int w),("near",.ref nl),("newest",.int n),("ended",.bl false)]
theorem qpm {w nl n}:(qga w nl n).lookup ("width" :Str)=some (.int w):=rfl
theorem qlz {w nl n}:(qga w nl n).lookup ("near" :Str)=some (.ref nl):=rfl
theorem qnb {w nl n}:(qga w nl n).lookup ("newest" :Str)=some (.int n):=rfl
theorem qpn {w nl n}:(qga w nl n).lookup ("ended" :Str)=some (.bl false):=rfl
theorem qq2 {w nl n}:(qga w nl n).lookup ("take" :Str)=none:=rfl
theorem ne1: ¬(("width" :Str)= "near"):=by decide+kernel
theorem ne2: ¬(("width" :Str)= "newest"):=by decide+kernel
theorem ne3: ¬(("width" :Str)= "ended"):=by decide+kernel
theorem ne4: ¬(("near" :Str)= "newest"):=by decide+kernel
theorem ne5: ¬(("near" :Str)= "ended"):=by decide+kernel
theorem ne6: ¬(("newest" :Str)= "ended"):=by decide+kernel
theorem qqB {w nl n m}:qeq "near" (.ref m) (qga w nl n)=qga w m n:=by
 simp only[qga,qeq,if_neg ne1,if_true]
theorem qmL {w nl n m}:qeq "newest" (.int m) (qga w nl n)=qga w nl m:=by
 simp only[qga,qeq,if_neg ne2,if_neg ne4,if_true]
theorem qsx {w nl n}:qeq "ended" (.bl false) (qeq "newest" (.int n) (qeq "near" (.ref nl) (qeq "width" (.int w) [])))=qga w nl n:=by
 simp only[qga,qeq,if_neg ne1,if_neg ne2,if_neg ne3,if_neg ne4,if_neg ne5,if_neg ne6]
def qfy (C:Addr) (Av:Addr→Prop) (H:Hp) (x:Addr) (w n:Int) (near:List Q4):Prop:= ∃dx nl ns,H x=some (.ins C dx (qga w nl n))∧H nl=some (.lst ns)∧TAt qcY H ns near∧¬Av nl
def qtj (H:Hp) (Av:Addr→Prop):Prop:= ∀b,Av b→H b≠none
structure Txt (K:PySem.W.Frag) (C:Addr):Prop where
 cl:Cls K C
 nWidth:qcW K C "width"
 nNear:qcW K C "near"
 nNewest:qcW K C "newest"
 nEnded:qcW K C "ended"
def qrl (x:Addr) (H H':Hp):Prop:= ∀b o,H b=some o→b≠x→H' b=some o
def qnL (C:Addr):Sp:=fun vs H Q _=> ∃(x dx:Addr) (w:Int),vs=[.ref x,.int w]∧H x=some (.ins C dx [])∧∀H':Hp,qrl x H H'→qfy C (fun _=>False) H' x w 0 []→Q .non H'
def qf5 (w m:Int) (near:List Q4):List Q4:=near.filter fun a=>decide (m - a.1≤w)
def qrs (side:Int) (r:Rw) (near:List Q4):List Q4:=(near.filter fun a=>decide (a.2.2.2≠side)&&decide (a.2.1=r.2.1)).map fun a=>cpl a (tag side r)
def qnI (C:Addr):Sp:=fun vs H Q _=> ∃(x t:Addr) (side w n:Int) (near:List Q4) (r:Rw) (Av:Addr→Prop),vs=[.ref x,.int side,.ref t]∧qfy C Av H x w n near∧qtj H Av∧H t=some (.tup (qf9 r))∧RowOk r∧n≤r.1∧near.length≤100∧
 ∀(H':Hp) (D:Addr) (ys:List V),qrl x H H'→H D=none→H' D=some (.lst ys)→TAt qcY H' ys (qrs side r (qf5 w r.1 near))→qfy C Av H' x w r.1 (qf5 w r.1 near++[tag side r])→Q (.ref D) H'
theorem qem {α:Type} (p:α→Bool): ∀l:List α,l.filterMap (fun r=>if p r=true then some r else none)=l.filter p
 | []=>rfl
 | r::l=>by
  rw[List.filterMap_cons,List.filter_cons,qem p l]
  cases h:p r with
  | true=>simp
  | false=>simp
theorem qdQ {α β:Type} (p:α→Bool) (g:α→β): ∀l:List α,l.filterMap (fun r=>if p r=true then some (g r) else none)=(l.filter p).map g
 | []=>rfl
 | r::l=>by
  rw[List.filterMap_cons,List.filter_cons,qdQ p g l]
  cases h:p r with
  | true=>simp
  | false=>simp
section
variable {P:Program} {w:World} {K:PySem.W.Frag} {mg:Str→Option Value} {base:Heap}
theorem qqj:qau ["self", "width"] ["self", "width"] (qad sInit):=⟨rfl,rfl,rfl,by decide+kernel,rfl,by decide+kernel,by decide+kernel⟩
theorem ok_init {f C:Addr} {fd:FuncData} (F:Fun K "__init__" "Join.__init__" sInit f fd) (T:Txt K C):qbb P w K mg base CX0 1 f fd ["self", "width"] (qnL C):=by
 refine F.ok qqj (fun vs H Q E h=> ?_) (fun cdv A outer s H vs Q E hr h=> ?_)
 ·obtain ⟨x,dx,l,rfl,_⟩:=h
  rfl
 ·obtain ⟨x,dx,l,rfl,hx,k⟩:=h
  refine ⟨_,qaA (qff (pv 0) (pv 1) rfl) (qaA (qff (pv 0) (qgt qaq) rfl) (qaA (qff (pv 0) qaD rfl) (qaW (qff (pv 0) qqA rfl)))),?_⟩
  refine ⟨_,rfl,_,rfl,x,C,dx,_,rfl,hx,T.cl,T.nWidth,(by show 0<1000; decide),?_⟩
  refine ⟨by show 0≤sizeLine; decide,fun wl hw=> ?_⟩
  have nxw:x≠wl:=qak qag hw
  refine ⟨_,rfl,x,C,dx,_,rfl,(by rw[qae nxw,qag]),T.cl,T.nNear,Nat.lt_of_le_of_lt (qbp _ _ _) (by decide),?_⟩
  refine ⟨_,rfl,x,C,dx,_,rfl,qag,T.cl,T.nNewest,Nat.lt_of_le_of_lt (qbp _ _ _) (Nat.lt_of_le_of_lt (Nat.succ_le_succ (qbp _ _ _)) (by decide)),?_⟩
  refine ⟨_,rfl,x,C,dx,_,rfl,qag,T.cl,T.nEnded,Nat.lt_of_le_of_lt (qbp _ _ _) (Nat.lt_of_le_of_lt (Nat.succ_le_succ (qbp _ _ _)) (Nat.lt_of_le_of_lt (Nat.succ_le_succ (Nat.succ_le_succ (qbp _ _ _))) (by decide))),?_⟩
  refine k _ (fun b o e hb=> ?_) ⟨dx,wl,[],Eq.trans qag (congrArg (fun l=>some (HO.ins C dx l)) qsx),?_,TAt.nil,fun z=>z⟩
  ·have hbw:b≠wl:=by
    rw[qae nxw.symm] at hw
    exact qak e hw
   rw[qae hb,qae hb,qae hb,qae hbw,qae hb]
   exact e
  ·rw[qae nxw.symm,qae nxw.symm,qae nxw.symm,qag]
theorem qnP:qau ["self", "side", "row", "told"] ["self", "side", "row"] (qad sTake):=⟨rfl,rfl,rfl,by decide+kernel,rfl,by decide+kernel,by decide+kernel⟩
theorem ok_31 {f fR fC C:Addr} {fd fdR fdC:FuncData} (F:Fun K "take" "Join.take" sTake f fd) (X:Txt K C)
  (GR:qbb P w K mg base CX0 5 fR fdR ["row", "ended", "earliest"] qgi) (mR:mg "refuse_to_take" =some (.ref fR)) (kR:PySem.W.keepIn K (.ref fR)=true) (bR:qbz K fdR ["row", "ended", "earliest"] [])
  (GC:qbb P w K mg base CX0 1 fC fdC ["ahead", "row", "side"] qih) (mC:mg "couple" =some (.ref fC)) (kC:PySem.W.keepIn K (.ref fC)=true) (bC:qbz K fdC ["ahead", "row", "side"] []):qbb P w K mg base CX0 6 f fd ["self", "side", "row"] (qnI C):=by
 refine F.ok qnP (fun vs H Q E h=> ?_) (fun cdv A outer s H vs Q E hr h=> ?_)
 ·obtain ⟨x,t,side,w,n,near,r,Av,rfl,_⟩:=h
  rfl
 ·obtain ⟨x,t,side,w,n,near,r,Av,rfl,hJ,hAv,ht,ro,hn,hlen,k⟩:=h
  have hr1:qcR 1 (A.deeper (PyProof.Rows.envOfC "Join.take" (qad sTake) s.heap.objs.size f cdv)):=hr.mono (by decide)
  refine ⟨_,qaA (qbX (qbi GR hr rfl mR kR bR .nil qcF (qaf (pv 2) (qaf (qfh (pv 0) rfl) (qaf (qfh (pv 0) rfl) qaq)))))
   (qaA (qff (pv 0) (qce qca (pv 2) qaD (fun _ _=>rfl)) rfl)
   (qaA (qff (pv 0) (qdo (own:=["ahead"]) (fr:=[("row",2),("self",0)]) rfl (qd2 (qfh (pv 0) rfl)) rfl (by decide+kernel) (by decide+kernel) (fr_ok (sd:=qad sTake) rfl (by decide+kernel)) (fun p hp=>by
     rcases List.mem_cons.mp hp with rfl | hp
     ·exact ⟨rfl,rfl⟩
     ·obtain rfl:=List.mem_singleton.mp hp; exact ⟨rfl,rfl⟩)
    (fun fp s3 H3=>⟨qay (i:=0) (show (["ahead", "row", "self"]:List Str).Nodup by decide+kernel) rfl (Or.inl rfl) (.inr rfl),qfH (qcz qhw (qcE qiv (qce (qdr K rfl) (pv 1) qaD (fun _ _=>rfl)) (qce (qdr K rfl) (pv 0) qaD (fun _ _=>rfl))) (qoR K rfl (pv 2) rfl) (qdH _)),pv 0⟩)) rfl)
   (qaA (ps_setcomp (i:=3) (own:=["ahead"]) (fr:=[("row",2),("side",1)]) rfl (qd2 (qfh (pv 0) rfl)) rfl (by decide+kernel) (by decide+kernel) (fr_ok (sd:=qad sTake) rfl (by decide+kernel)) (fun p hp=>by
     rcases List.mem_cons.mp hp with rfl | hp
     ·exact ⟨rfl,rfl⟩
     ·obtain rfl:=List.mem_singleton.mp hp; exact ⟨rfl,rfl⟩)
    (fun fp s3 H3=>⟨qay (i:=0) (show (["ahead", "row", "side"]:List Str).Nodup by decide+kernel) rfl (Or.inl rfl) (.inr rfl),qfH (PW.pt (qnX (qcz qqD (qce (qdr K rfl) (pv 0) qaD (fun _ _=>rfl)) (pv 2) (qdH _)) (qkE (qcz qqE (qce (qdr K rfl) (pv 0) qaD (fun _ _=>rfl)) (qce (qdr K rfl) (pv 1) qaD (fun _ _=>rfl)) (qdH _))))),
     qbi GC hr1 rfl mC kC bC .nil qcF (qaf (pv 0) (qaf (pv 1) (qaf (pv 2) qaq)))⟩)
    qnP.nd rfl rfl rfl)
   (qaA (qbX (qht PySem.F.plainAttrs_list PySem.F.slot_list_append PySem.F.type_list_append qeN (qfh (pv 0) rfl) (qaf (qcE qhy (pv 2) (qfg (qaf (pv 1) qaq))) qaq)))
   (qaW (qb9 (pv 3))))))),?_⟩
  obtain ⟨dx,nl,ns,hx,hnl,hT,hA⟩:=id hJ
  refine ⟨_,rfl,_,rfl,x,C,dx,_,_,rfl,hx,X.cl,X.nEnded,qpn,_,rfl,x,C,dx,_,_,rfl,hx,X.cl,X.nNewest,qnb,t,r,n,rfl,ht,ro,hn,fun H1 s1=> ?_⟩
  refine ⟨_,rfl,t,_,_,_,rfl,rfl,SqT.of (s1 _ _ ht),qaS (j:=0) rfl,_,rfl,x,C,dx,_,rfl,s1 _ _ hx,X.cl,X.nNewest,(by show 4<1000; decide),?_⟩
  rw[qmL]
  generalize hH2:upd H1 x (HO.ins C dx (qga w nl r.1))=H2
  have x2:H2 x=some (.ins C dx (qga w nl r.1)):=by rw[←hH2]; exact qag
  have o2: ∀b o,H b=some o→b≠x→H2 b=some o:=fun b o e hb=>by rw[←hH2,qae hb]; exact s1 _ _ e
  have t2:=o2 _ _ ht (qd7 ht hx (by intro z; cases z))
  have n2:=o2 _ _ hnl (qd7 hnl hx (by intro z; cases z))
  have T2:TAt qcY H2 ns near:=hT.keep fun b us e=>o2 _ _ e (qd7 e hx (by intro z; cases z))
  have hl2:ns.length≤1000:=by rw[hT.1]; omega
  refine ⟨_,rfl,x,C,dx,_,_,rfl,x2,X.cl,X.nNear,qlz,nl,rfl,⟨_,SqL.of n2⟩,fun D1 hD1=> ?_⟩
  refine qi5 (K:=K) (tv:=qcY) (tw:=qcY) (fun a:Q4=>if decide (r.1 - a.1≤w)=true then some a else none) (fun σ=> ∃o,σ=[o,some (.ref t),some (.ref x)]) ⟨none,rfl⟩ (SqL.of n2) T2 hl2 hD1 ?_ fun zs H3 s3 h3 T3=> ?_
  ·rintro σ H' ta a Ny Nn ⟨o,rfl⟩ sm _ hta hy hno
   refine ⟨_,rfl,t,_,_,_,rfl,rfl,SqT.of (sm _ _ t2),qaS (j:=0) rfl,_,rfl,ta,_,_,_,rfl,rfl,SqT.of hta,qaS (j:=0) rfl,_,_,rfl,rfl,_,rfl,x,C,dx,_,_,rfl,sm _ _ x2,X.cl,X.nWidth,qpm,_,_,rfl,rfl,_,rfl,?_⟩
   by_cases c:r.1 - a.1≤w
   ·exact qgI (decide_eq_true c) ⟨_,rfl,hy _ ta _ a (by rw[if_pos (decide_eq_true c)]) ⟨_,rfl⟩ (qck.refl _) hta⟩
   ·exact qhL (decide_eq_false c) (hno (by rw[if_neg (by simpa using c)]) _ _ ⟨_,rfl⟩ (qck.refl _))
  rw[qem (fun a:Q4=>decide (r.1 - a.1≤w))] at T3
  refine ⟨_,rfl,x,C,dx,_,rfl,s3 _ _ x2,X.cl,X.nNear,(by show 4<1000; decide),?_⟩
  rw[qqB]
  have x3:=s3 _ _ x2
  generalize hH4:upd H3 x (HO.ins C dx (qga w D1 r.1))=H4
  have x4:H4 x=some (.ins C dx (qga w D1 r.1)):=by rw[←hH4]; exact qag
  have o4: ∀b o,H3 b=some o→b≠x→H4 b=some o:=fun b o e hb=>by rw[←hH4,qae hb]; exact e
  have d4:=o4 _ _ h3 (qd7 h3 x3 (by intro z; cases z))
  have T4':TAt qcY H4 zs (qf5 w r.1 near):=T3.keep fun b us e=>o4 _ _ e (qd7 e x3 (by intro z; cases z))
  have t4:=o4 _ _ (s3 _ _ t2) (qd7 t2 x2 (by intro z; cases z))
  have hlc:(qf5 w r.1 near).length≤near.length:=List.length_filter_le _ _
  refine ⟨_,rfl,x,C,dx,_,_,rfl,x4,X.cl,X.nNear,qlz,D1,rfl,⟨_,SqL.of d4⟩,fun D2 hD2=> ?_⟩
  refine qi5 (K:=K) (tv:=qcY) (tw:=qcY) (fun a:Q4=>if (decide (a.2.2.2≠side)&&decide (a.2.1=r.2.1))=true then some (cpl a (tag side r)) else none) (fun σ=> ∃o,σ=[o,some (.ref t),some (.int side)]) ⟨none,rfl⟩ (SqL.of d4) T4' (by rw[T4'.1]; omega) hD2 ?_ fun us H5 s5 h5 T5=> ?_
  ·rintro σ H' ta a Ny Nn ⟨o,rfl⟩ sm _ hta hy hno
   refine ⟨_,rfl,ta,_,_,_,rfl,rfl,SqT.of hta,qaS (j:=3) rfl,_,rfl,rfl,_,rfl,?_⟩
   by_cases c1:a.2.2.2=side
   ·have e1:decide (V.int a.2.2.2=V.int side)=true:=decide_eq_true (by rw[c1])
    rw[e1]
    refine qha ?_
    refine qha ?_
    exact hno (by simp[c1]) _ _ ⟨_,rfl⟩ (qck.refl _)
   ·have e1:decide (V.int a.2.2.2=V.int side)=false:=decide_eq_false (fun z=>c1 (by injection z))
    rw[e1]
    refine qm3 ?_
    refine ⟨_,rfl,ta,_,_,_,rfl,rfl,SqT.of hta,qaS (j:=1) rfl,_,rfl,t,_,_,_,rfl,rfl,SqT.of (sm _ _ t4),qaS (j:=1) rfl,rfl,_,rfl,?_⟩
    by_cases c2:a.2.1=r.2.1
    ·refine qgI (decide_eq_true (by rw[c2])) ?_
     refine ⟨_,rfl,_,rfl,_,rfl,ta,t,a,r,side,rfl,hta,sm _ _ t4,fun p hp=> ?_⟩
     exact hy _ p _ (cpl a (tag side r)) (by simp[c1,c2]) ⟨_,rfl⟩ (qa3 hp) qag
    ·refine qhL (decide_eq_false (fun z=>c2 (by injection z))) ?_
     exact hno (by simp[c2]) _ _ ⟨_,rfl⟩ (qck.refl _)
  rw[qdQ (fun a:Q4=>decide (a.2.2.2≠side)&&decide (a.2.1=r.2.1)) (fun a=>cpl a (tag side r))] at T5
  have x5:=s5 _ _ x4
  have d5:=s5 _ _ d4
  refine ⟨_,rfl,x,C,dx,_,_,rfl,x5,X.cl,X.nNear,qlz,.inl ⟨rfl,_,SqL.of d5⟩,_,rfl,_,rfl,by show 1≤sizeLine; decide,fun t1 ht1=> ?_⟩
  have s6:=qa3 (o:=HO.tup [V.int side]) ht1
  have t6:=s6 _ _ (s5 _ _ t4)
  refine ⟨t,t1,_,_,rfl,rfl,SqT.of t6,SqT.of qag,(by intro z; cases z),by show 4≤sizeLine; decide,(fun z=>by cases z),fun _ p hp=> ?_⟩
  have s7:=qa3 (o:=HO.tup (qf9 r++[V.int side])) hp
  refine ⟨D1,zs,_,rfl,rfl,s7 _ _ (s6 _ _ d5),qaQ (by rw[T4'.1]; omega),?_⟩
  have s67:qck H5 _:=s6.trans s7
  generalize hH7:upd (upd H5 t1 (.tup [V.int side])) p (.tup (qf9 r++[V.int side]))=H7 at s67 s7⊢
  have hpt:H7 p=some (.tup (qcY (tag side r))):=by rw[←hH7]; exact qag
  have d7:=s67 _ _ d5
  have nD:D2≠D1:=fun z=>by rw[z,d4] at hD2; cases hD2
  have o8: ∀b o,H7 b=some o→b≠D1→(upd H7 D1 (.lst (zs++[V.ref p]))) b=some o:=fun b o e hb=>by rw[qae hb]; exact e
  have D1n:H D1=none:=by
   cases q:H D1 with
   | none=>rfl
   | some o=>
    exfalso
    by_cases z:D1=x
    ·rw[z,x2] at hD1; cases hD1
    ·rw[o2 _ _ q z] at hD1; cases hD1
  have oAll: ∀b o,H b=some o→b≠x→H7 b=some o:=fun b o e hb=>s67 _ _ (s5 _ _ (o4 _ _ (s3 _ _ (o2 _ _ e hb)) hb))
  refine ⟨_,rfl,k _ D2 us (fun b o e hb=>o8 _ _ (oAll _ _ e hb) (qak e D1n)) ?_ (o8 _ _ (s67 _ _ h5) nD) ?_ ⟨dx,D1,_,o8 _ _ (s67 _ _ x5) (qd7 x5 d5 (by intro z; cases z)),qag,TAt.upd (((T4'.same s5).same s67).snoc hpt) d7,fun z=>hAv _ z D1n⟩⟩
  ·cases q:H D2 with
   | none=>rfl
   | some o=>
    exfalso
    by_cases z:D2=x
    ·rw[z,x4] at hD2; cases hD2
    ·rw[o4 _ _ (s3 _ _ (o2 _ _ q z)) z] at hD2; cases hD2
  ·exact TAt.upd (T5.same s67) d7
end
end K19J
end
section
namespace K19J
open PySem L2 RH SR
abbrev qks:Stmt:=top 28
theorem qiw {X:Cx} (K:PySem.W.Frag) (h:X.K=K):OpR X (binaryOp .Add) (qmB K):=by rw[←h]; exact qhy
theorem qqN {K:PySem.W.Frag} {H:Hp} {xs:List V} {rs:List Q4} (hR:TAt qcY H xs rs):qee K H 0 xs (rs.map mo4):=by
 refine ⟨by rw[List.length_map]; exact hR.1.symm,fun i x m a b=> ?_⟩
 rw[List.getElem?_map] at b
 cases q:rs[i]? with
 | none=>rw[q] at b; cases b
 | some r=>
  rw[q] at b
  have b':mo4 r=m:=Option.some.inj b
  obtain ⟨t,e1,e2⟩:=hR.2 i x r a q
  exact ⟨t,qcY r,e1,SqT.of e2,by rw[←b']; rfl⟩
theorem qub {H:Hp} {xs:List V} {rs:List Q4} {p:Array Nat} (hR:TAt qcY H xs rs) (h:St.Order (rs.map mo4) xs.length p):TAt qcY H (p.toList.map fun j=>xs.getD j .non) (srt mo4 rs):=by
 have ep:=qdG h
 have hk: ∀j:Nat,(rs.map mo4).getD j 0=mo4 (rs.getD j (0, "",0,0)):=fun j=>by
  rw[List.getD_eq_getElem?_getD,List.getD_eq_getElem?_getD,List.getElem?_map]
  cases rs[j]? <;>rfl
 have e:srt mo4 rs=p.toList.map fun j=>rs.getD j (0, "",0,0):=by
  rw[ep,qcy (k:=mo4) hk,hR.1,Mir.map_range_getD]
 rw[e]
 refine hR.pick (0, "",0,0) p.toList fun j hj=> ?_
 exact (Mir.order_mem h j).mp hj
theorem qhd {T:Addr} {p:Pos} {q:Str} {H:Hp} (h:Tab T p q H): ∃ps,H T=some (.tbl ps):=let ⟨ps,e,_⟩:=h; ⟨ps,e⟩
theorem qmm {T:Addr} {p:Pos} {q:Str} {H H':Hp} (h:Tab T p q H) (e: ∀b o,H b=some o→(∀C dx fs,o≠.ins C dx fs)→(∀xs,o≠.lst xs)→H' b=some o):Tab T p q H':=by
 obtain ⟨ps,e1,e2,e3⟩:=h
 refine ⟨ps,e _ _ e1 (fun _ _ _ z=>by cases z) (fun _ z=>by cases z),e2,?_⟩
 rcases e3 with e3 | ⟨c,e3,e4⟩
 ·exact .inl e3
 ·exact .inr ⟨c,e3,e _ _ e4 (fun _ _ _ z=>by cases z) (fun _ z=>by cases z)⟩
theorem qet {T:Addr} {p:Pos} {q:Str} {H H':Hp} (h:Tab T p q H) (e:qck H H'):Tab T p q H':=qmm h fun b o z _ _=>e b o z
theorem qp3 (q:Q4):tag q.2.2.2 (un q)=q:=rfl
theorem quM (q:Q4):qf4 (qcY q) none (some 3)=qf9 (un q):=by
 unfold qf4
 have e1:HT.sIx (qcY q).length (qcY q).length (some ((3:Nat):Int))=min 3 (qcY q).length:=HT.sIx_nat _ _ _
 have e1':HT.sIx (qcY q).length (qcY q).length (some 3)=min 3 (qcY q).length:=e1
 rw[e1',HT.sIx_none]
 rfl
theorem qkY {w n:Int} {L:List Q4} {q:Q4} (hw:0≤w) (hn:n≤q.1):qf5 w q.1 (L.filter fun a=>decide (n - a.1≤w))++[q]=(L++[q]).filter fun a=>decide (q.1 - a.1≤w):=by
 unfold qf5
 rw[List.filter_append,show [q].filter (fun a=>decide (q.1 - a.1≤w))=[q] by simp; omega]
 congr 1
 refine qcS fun a _=> ?_
 rw[Bool.eq_iff_iff,Bool.and_eq_true,decide_eq_true_eq,decide_eq_true_eq]
 constructor
 ·exact fun h=>h.1
 ·exact fun h=>⟨h,by omega⟩
theorem qj5 {w n:Int} {L:List Q4} {q:Q4} (hn:n≤q.1):qrs q.2.2.2 (un q) (qf5 w q.1 (L.filter fun a=>decide (n - a.1≤w)))=(L.filter (hit w q)).map fun a=>cpl a q:=by
 unfold qrs qf5
 rw[qp3]
 congr 1
 rw[List.filter_filter,List.filter_filter]
 refine List.filter_congr fun a _=> ?_
 rw[Bool.eq_iff_iff,qcO]
 simp only[Bool.and_eq_true,decide_eq_true_eq]
 constructor
 ·rintro ⟨⟨⟨h1,h2⟩,h3⟩,h4⟩
  exact ⟨h3,h1,h2⟩
 ·rintro ⟨h1,h2,h3⟩
  exact ⟨⟨⟨h2,h3⟩,h1⟩,by omega⟩
structure LogAt (K:PySem.W.Frag) (H:Hp) (a:Addr) (rs:List Rw):Prop where
 xs: ∃xs,SqL K H a xs∧qbD H xs rs
 ok: ∀r∈rs,RowOk r
 ris:Ris mk rs
 len:rs.length≤12
def spJoined (K:PySem.W.Frag) (T:Addr):Sp:=fun vs H Q _=> ∃a b w one other,vs=[.ref a,.ref b,.int w]∧LogAt K H a one∧LogAt K H b other∧0≤w∧Tab T qk3 qhn H∧
 ∀(H':Hp) (D:Addr) (ys:List V),qed T H H'→Tab T qk3 qhn H'→H D=none→H' D=some (.lst ys)→TAt qcY H' ys (J w one other)→Q (.ref D) H'
abbrev NJ:List Str:=["one", "other", "width", "rows", "meeting", "told", "row"]
section
variable {P:Program} {w:World} {K:PySem.W.Frag} {mg:Str→Option Value} {base:Heap}
theorem qii:qau NJ ["one", "other", "width"] (qad qks):=⟨rfl,rfl,rfl,by decide+kernel,rfl,by decide+kernel,by decide+kernel⟩
theorem ok_27 {f fR fO fI fT C T:Addr} {fd fdR fdO fdI fdT:FuncData} (F:Fun K "joined" "joined" qks f fd) (X:Txt K C)
  (GR:qbb P w K mg base CX0 5 fR fdR ["one", "other"] (qnJ K)) (mR:mg "refuse_what_are_no_two_logs" =some (.ref fR)) (kR:PySem.W.keepIn K (.ref fR)=true) (bR:qbz K fdR ["one", "other"] [])
  (GO:qbb P w K mg base CX0 5 fO fdO ["rows"] (qkc K T)) (mO:mg "in_order" =some (.ref fO)) (kO:PySem.W.keepIn K (.ref fO)=true) (bO:qbz K fdO ["rows"] [])
  (GI:qbb P w K mg base CX0 1 fI fdI ["self", "width"] (qnL C)) (MI:Mk K C fI) (bI:qbz K fdI ["self", "width"] []) (mC:mg "Join" =some (.ref C))
  (GT:qbb P w K mg base CX0 6 fT fdT ["self", "side", "row"] (qnI C)) (mT:qp1 K C "take" fT) (bT:qbz K fdT ["self", "side", "row"] []):qbb P w K mg base CX0 7 f fd ["one", "other", "width"] (spJoined K T):=by
 refine F.ok qii (fun vs H Q E h=> ?_) (fun cdv A outer s H vs Q E hr h=> ?_)
 ·obtain ⟨a,b,w,one,other,rfl,_⟩:=h
  rfl
 ·obtain ⟨a,b,w,one,other,rfl,h1,h2,hw,tab,k⟩:=h
  have nd:=qii.nd
  refine ⟨_,qaA (qbX (qbi GR (hr.mono (by decide)) rfl mR kR bR .nil qcF (qaf (pv 0) (qaf (pv 1) qaq))))
   (qaA (qfe (i:=3) nd rfl (Or.inl rfl) (qbi GO (hr.mono (by decide)) rfl mO kO bO .nil qcF (qaf (qcE qkT
     (qdo (own:=["row"]) (fr:=[]) rfl (qd2 (pv 0)) rfl (by decide+kernel) (by decide+kernel) (fun y hy e=>absurd e ((by decide+kernel: ∀y∈_,y.2≠NameKind.free) y hy)) (fun p hp=>nomatch hp)
      (fun fp s3 H3=>⟨qay (i:=0) (show (["row"]:List Str).Nodup by decide+kernel) rfl (Or.inl rfl) (.inr rfl),qc7,qcE (qiw K rfl) (pv 0) (qfg (qaf qaD qaq))⟩))
     (qdo (own:=["row"]) (fr:=[]) rfl (qd2 (pv 1)) rfl (by decide+kernel) (by decide+kernel) (fun y hy e=>absurd e ((by decide+kernel: ∀y∈_,y.2≠NameKind.free) y hy)) (fun p hp=>nomatch hp)
      (fun fp s3 H3=>⟨qay (i:=0) (show (["row"]:List Str).Nodup by decide+kernel) rfl (Or.inl rfl) (.inr rfl),qc7,qcE (qiw K rfl) (pv 0) (qfg (qaf qaD qaq))⟩))) qaq)))
   (qaA (qfe (i:=4) nd rfl (Or.inl rfl) (qoQ MI GI (hr.mono (by decide)) rfl mC bI .nil qcF (qaf (pv 2) qaq)))
   (qaA (qfe (i:=5) nd rfl (Or.inl rfl) (qgt qaq))
   (qaA (qnY PassesOwn.never rfl (qd2 (pv 3)) (qay (i:=6) nd rfl (Or.inl rfl))
    (qaW (qbX (qht PySem.F.plainAttrs_list PySem.F.slot_list_extend PySem.F.type_list_extend qeM (pv 5) (qaf (qoP (pv 4) X.cl mT GT (hr.mono (by decide)) bT .nil qcF (qaf (qce qca (pv 6) qaD (fun _ _=>rfl)) (qaf (qew qnN (pv 6) qhq (qhp qaD)) qaq))) qaq)))))
   (qaW (qb9 (pv 5))))))),?_⟩
  obtain ⟨xs1,hS1,hR1⟩:=h1.xs
  obtain ⟨xs2,hS2,hR2⟩:=h2.xs
  have l1:=h1.len
  have l2:=h2.len
  have e1:=hR1.1
  have e2:=hR2.1
  refine ⟨_,rfl,_,rfl,a,xs1,one,b,xs2,other,rfl,⟨hS1,hR1,h1.ok,h1.ris,by omega⟩,⟨hS2,hR2,h2.ok,h2.ris,by omega⟩,fun H4 t4=> ?_⟩
  have tagged: ∀(side:Int) (Hc H':Hp) (t:Addr) (r:Rw) (Q':V→Hp→Prop),H' t=some (.tup (qf9 r))→(∀p H6,qck H' H6→H6 p=some (.tup (qcY (tag side r)))→Q' (.ref p) H6)→
    ∀t1,H' t1=none→qmB K (.ref t) (.ref t1) (upd H' t1 (.tup [V.int side])) Q':=fun side Hc H' t r Q' ht q t1 ht1=>by
   have s6:=qa3 (o:=HO.tup [V.int side]) ht1
   refine ⟨t,t1,_,_,rfl,rfl,SqT.of (s6 _ _ ht),SqT.of qag,(by intro z; cases z),by show 4≤sizeLine; decide,(fun z=>by cases z),fun _ p hp=> ?_⟩
   exact q p _ (s6.trans (qa3 hp)) qag
  refine ⟨_,rfl,a,rfl,⟨_,t4.seq hS1⟩,fun D1 hD1=> ?_⟩
  refine qi5 (K:=K) (tv:=qf9) (tw:=qcY) (fun r:Rw=>some (tag 0 r)) (fun σ=> ∃o,σ=[o]) ⟨none,rfl⟩ (t4.seq hS1) (TAt.of (hR1.same t4)) (by omega) hD1 ?_ fun us1 H5 s5 d5 T5=> ?_
  ·rintro σ H' t r Ny Nn ⟨o,rfl⟩ sm _ ht hy hno
   refine ⟨_,rfl,by show 1≤sizeLine; decide,fun t1 ht1=>tagged 0 H' H' t r _ ht (fun p H6 s6 h6=>hy _ p H6 (tag 0 r) rfl ⟨_,rfl⟩ s6 h6) t1 ht1⟩
  have t5:=t4.trans s5
  refine ⟨_,rfl,b,rfl,⟨_,t5.seq hS2⟩,fun D2 hD2=> ?_⟩
  refine qi5 (K:=K) (tv:=qf9) (tw:=qcY) (fun r:Rw=>some (tag 1 r)) (fun σ=> ∃o,σ=[o]) ⟨none,rfl⟩ (t5.seq hS2) (TAt.of (hR2.same t5)) (by omega) hD2 ?_ fun us2 H6 s6 d6 T6=> ?_
  ·rintro σ H' t r Ny Nn ⟨o,rfl⟩ sm _ ht hy hno
   refine ⟨_,rfl,by show 1≤sizeLine; decide,fun t1 ht1=>tagged 1 H' H' t r _ ht (fun p H6 s6 h6=>hy _ p H6 (tag 1 r) rfl ⟨_,rfl⟩ s6 h6) t1 ht1⟩
  have t6:=t5.trans s6
  rw[show one.filterMap (fun r:Rw=>some (tag 0 r))=one.map (tag 0) from by rw[←List.filterMap_eq_map]; rfl] at T5
  rw[show other.filterMap (fun r:Rw=>some (tag 1 r))=other.map (tag 1) from by rw[←List.filterMap_eq_map]; rfl] at T6
  have u1:=T5.1
  have u2:=T6.1
  rw[List.length_map] at u1 u2
  refine ⟨D1,D2,us1,us2,rfl,rfl,s6 _ _ d5,d6,Nat.le_of_lt (qaQ (by omega)),fun D3 hD3=> ?_⟩
  have s7:=qa3 (o:=HO.lst (us1++us2)) hD3
  have T7:TAt qcY (upd H6 D3 (.lst (us1++us2))) (us1++us2) (one.map (tag 0)++other.map (tag 1)):=(T5.same (s6.trans s7)).append (T6.same s7)
  have t7:=t6.trans s7
  generalize hH7:upd H6 D3 (.lst (us1++us2))=H7 at T7 s7 t7
  have d7:H7 D3=some (.lst (us1++us2)):=by rw[←hH7]; exact qag
  refine ⟨D3,_,_,rfl,SqL.of d7,by rw[List.length_append]; omega,qqN T7,qet tab t7,fun H8 D4 p sT tb8 hD4 hD4' ho=> ?_⟩
  obtain ⟨pT,hT7⟩:=qhd (qet tab t7)
  have T8:TAt qcY H8 (us1++us2) (one.map (tag 0)++other.map (tag 1)):=T7.keep fun b us e=>sT _ _ e (qd7 e hT7 (by intro z; cases z))
  have hxl:(us1++us2).length≤24:=by rw[List.length_append]; omega
  have T8':=qub T8 ho
  have hM:srt mo4 (one.map (tag 0)++other.map (tag 1))=Mof one other:=rfl
  rw[hM] at T8'
  have hMr:=qma one other
  have hMo: ∀q∈Mof one other,RowOk (un q):=fun q hq=>by
   rcases List.mem_append.mp ((mem_srt _).mp hq) with h | h
   ·obtain ⟨r,hr,rfl⟩:=List.mem_map.mp h
    exact h1.ok r hr
   ·obtain ⟨r,hr,rfl⟩:=List.mem_map.mp h
    exact h2.ok r hr
  have hMl:(Mof one other).length≤24:=by
   have e:(Mof one other).length=(one.map (tag 0)++other.map (tag 1)).length:=length_srt _
   rw[e,List.length_append,List.length_map,List.length_map]; omega
  generalize hms:(p.toList.map fun j=>(us1++us2).getD j .non)=ms at T8'⊢
  have s9:=qa3 (o:=HO.lst ms) hD4'
  have T9:TAt qcY (upd H8 D4 (.lst ms)) ms (Mof one other):=T8'.same s9
  have d9:(upd H8 D4 (.lst ms)) D4=some (.lst ms):=qag
  have tb9:Tab T qk3 qhn (upd H8 D4 (.lst ms)):=qet tb8 s9
  have sH9:qed T H (upd H8 D4 (.lst ms)):=fun b o e hb=>s9 _ _ (sT _ _ (t7 _ _ e) hb)
  have tabH: ∃ps,H T=some (.tbl ps):=qhd tab
  generalize upd H8 D4 (.lst ms)=H9 at T9 d9 tb9 sH9⊢
  generalize hMM:Mof one other=M at T9 hMr hMo hMl
  refine ⟨_,rfl,fun x dx nx ndx nex=>⟨x,dx,w,rfl,qag,fun H10 kp J10=>⟨rfl,?_⟩⟩⟩
  have s10:qck H9 H10:=fun b o e=>kp b o (by rw[qae (qak e nx),qae (qak e ndx)]; exact e) (qak e nx)
  refine ⟨by show 0≤sizeLine; decide,fun tl ntl=> ?_⟩
  have s11:=qa3 (o:=HO.lst []) ntl
  have ntlH:H tl=none:=by
   cases q:H tl with
   | none=>rfl
   | some o=>
    exfalso
    by_cases z:tl=T
    ·obtain ⟨ps,e⟩:=qhd tb9
     rw[z,s10 _ _ e] at ntl; cases ntl
    ·rw[s10 _ _ (sH9 _ _ q z)] at ntl; cases ntl
  have J11:qfy C (fun b=>b=tl) (upd H10 tl (.lst [])) x w 0 []:=by
   obtain ⟨dx2,nl,ns,j1,j2,j3,_⟩:=J10
   exact ⟨dx2,nl,ns,s11 _ _ j1,s11 _ _ j2,j3.same s11,fun z=>by rw[z,ntl] at j2; cases j2⟩
  have e11:(upd H10 tl (.lst [])) tl=some (.lst []):=qag
  have s9a:qck H9 (upd H10 tl (.lst [])):=s10.trans s11
  have nH9:H9 tl=none:=by
   cases q:H9 tl with
   | none=>rfl
   | some o=>rw[s10 _ _ q] at ntl; cases ntl
  generalize upd H10 tl (.lst [])=H11 at J11 e11 s9a⊢
  have hrow: ∀(i:Nat) (q:Q4),M[i]? =some q→q∈M:=fun i q e=>List.mem_of_getElem? e
  refine ⟨_,rfl,D4,rfl,⟨_,SqL.of (s9a _ _ d9)⟩,qm8 (xs:=ms) (fun i σ H'=> ∃n zs o6,σ=[some (.ref a),some (.ref b),some (.int w),some (.ref D4),some (.ref x),some (.ref tl),o6]∧qck H9 H'∧qfy C (fun b=>b=tl) H' x w n ((M.take i).filter fun a=>decide (n - a.1≤w))∧H' tl=some (.lst zs)∧TAt qcY H' zs (jo w (M.take i))∧(∀q∈M.drop i,n≤q.1)∧zs.length≤24*i)
   ⟨0,[],none,rfl,s9a,J11,e11,TAt.nil,(fun q hq=>(hMo q (List.mem_of_mem_drop hq)).m.1),by simp⟩ (fun i σ H' _ ⟨_,_,_,_,sm,_⟩=>SqL.of (sm _ _ d9)) ?_ ?_⟩
  ·rintro i xv σ H' hi ⟨n,zs,o6,rfl,sm,hJ,hzs,hZ,hn,hzl⟩
   obtain ⟨q,t,eq,rfl,ht⟩:=(T9.same sm).get hi
   have hil:=(List.getElem?_eq_some_iff.mp eq).1
   have hq:=hrow i q eq
   have hnq:n≤q.1:=hn q (by rw[List.drop_eq_getElem_cons hil]; rw[(List.getElem?_eq_some_iff.mp eq).2]; exact List.mem_cons_self)
   have hnl:((M.take i).filter fun a=>decide (n - a.1≤w)).length≤24:=Nat.le_trans (List.length_filter_le _ _) (by rw[List.length_take]; omega)
   have tk:M.take (i+1)=M.take i++[q]:=by rw[List.take_add_one,eq]; rfl
   obtain ⟨dxj,nl,ns,j1,j2,j3,j4⟩:=id hJ
   refine ⟨_,rfl,.inl ⟨rfl,_,SqL.of hzs⟩,_,rfl,x,dxj,_,rfl,j1,qq2,_,rfl,t,_,_,_,rfl,rfl,SqT.of ht,qaS (j:=3) rfl,_,rfl,_,rfl,t,_,rfl,SqT.of ht,?_,fun t3 ht3=> ?_⟩
   ·show ¬(HT.sIx 4 0 none=0∧HT.sIx 4 4 (some 3)=4)
    decide
   have s12:=qa3 (o:=HO.tup (qf4 (qcY q) none (some 3))) ht3
   have c3:(upd H' t3 (.tup (qf4 (qcY q) none (some 3)))) t3=some (.tup (qf9 (un q))):=by rw[qag,quM]
   generalize upd H' t3 (.tup (qf4 (qcY q) none (some 3)))=H12 at s12 c3⊢
   have hJ12:qfy C (fun b=>b=tl) H12 x w n ((M.take i).filter fun a=>decide (n - a.1≤w)):=⟨dxj,nl,ns,s12 _ _ j1,s12 _ _ j2,j3.same s12,j4⟩
   refine ⟨x,t3,q.2.2.2,w,n,_,un q,(fun b=>b=tl),rfl,hJ12,(fun b hb=>by rw[hb,s12 _ _ hzs]; intro z; cases z),c3,hMo q hq,hnq,Nat.le_trans hnl (by decide),fun H13 D ys so nD eD TD J13=> ?_⟩
   have tx:tl≠x:=qd7 hzs j1 (by intro z; cases z)
   have e13:H13 tl=some (.lst zs):=so _ _ (s12 _ _ hzs) tx
   have hys:ys.length≤24:=by
    rw[TD.1]; unfold qrs qf5
    rw[List.length_map]
    exact Nat.le_trans (List.length_filter_le _ _) (Nat.le_trans (List.length_filter_le _ _) hnl)
   have nDt:D≠tl:=fun z=>by rw[z,s12 _ _ hzs] at nD; cases nD
   refine ⟨tl,D,zs,ys,rfl,rfl,e13,eD,Nat.le_of_lt (qaQ (by omega)),?_⟩
   obtain ⟨dx3,nl3,ns3,u1',u2',u3',u4'⟩:=id J13
   have xH9: ∀o,H9 x≠some o:=fun o e=>by rw[e] at nx; cases nx
   refine ⟨q.1,zs++ys,_,rfl,fun b o e=> ?_,⟨dx3,nl3,ns3,?_,?_,?_,u4'⟩,qag,?_,?_,?_⟩
   ·rw[qae (qak e nH9)]
    exact so _ _ (s12 _ _ (sm _ _ e)) (fun z=>xH9 o (by rw[←z]; exact e))
   ·rw[qae tx.symm]; exact u1'
   ·rw[qae u4']; exact u2'
   ·rw[tk,←qkY hw hnq]
    exact TAt.upd u3' e13
   ·rw[tk,qcN,←qj5 (n:=n) hnq]
    exact TAt.upd ((hZ.keep fun b us e=>so _ _ (s12 _ _ e) (qd7 e j1 (by intro z; cases z))).append TD) e13
   ·intro q' hq'
    have hd:M.drop i=q::M.drop (i+1):=by rw[List.drop_eq_getElem_cons hil,(List.getElem?_eq_some_iff.mp eq).2]
    have rd:Ris mo4 (M.drop i):=List.Pairwise.sublist (List.drop_sublist i M) hMr
    rw[hd] at rd
    exact (List.pairwise_cons.mp rd).1 q' hq'
   ·rw[List.length_append]; omega
  ·rintro σ H' ⟨n,zs,o6,rfl,sm,hJ,hzs,hZ,hn,hzl⟩
   have hml:ms.length=M.length:=T9.1
   rw[hml,List.take_length] at hZ
   refine ⟨_,rfl,k H' tl zs (fun b o e hb=>sm _ _ (sH9 _ _ e hb)) (qet tb9 sm) ntlH hzs ?_⟩
   show TAt qcY H' zs (jo w (Mof one other))
   rw[hMM]
   exact hZ
end
end K19J
end
section
namespace PL
open SR
section
variable {α:Type} {k:α→Int}
theorem qjm {p:α→Bool} {l:List α} (h:Ris k l):Ris k (l.filter p):=List.Pairwise.filter p h
end
end PL
end
section
namespace PL
open PySem L2 SetL SR
theorem qoC {c:Nat} (h:97≤c∧c≤122):gLe (.str "a") (.str ⟨#[c]⟩)= .ok (.bl true)∧gLe (.str ⟨#[c]⟩) (.str "z")= .ok (.bl true):=by
 have e1:("a" :Str).cps.toList=[97]:=by decide
 have e2:("z" :Str).cps.toList=[122]:=by decide
 have n1: ¬([c]:List Nat)<[97]:=by
  rw[List.cons_lt_cons_iff]
  rintro (h1 | ⟨_,h2⟩)
  ·lia
  ·exact absurd h2 (List.not_lt_nil _)
 have n2: ¬([122]:List Nat)<[c]:=by
  rw[List.cons_lt_cons_iff]
  rintro (h1 | ⟨_,h2⟩)
  ·lia
  ·exact absurd h2 (List.not_lt_nil _)
 constructor
 ·show Rs.ok (T.bl (!decide (([c]:List Nat)<("a" :Str).cps.toList)))=_
  rw[e1,decide_eq_false n1]
  rfl
 ·show Rs.ok (T.bl (!decide (("z" :Str).cps.toList<([c]:List Nat))))=_
  rw[e2,decide_eq_false n2]
  rfl
theorem quo (r:Row):gIx (qb3 r) (.int 0)= .ok (.int r.1):=rfl
theorem qun (r:Row):gIx (qb3 r) (.int 1)= .ok (.str r.2.1):=rfl
theorem qum (r:Row):gIx (qb3 r) (.int 2)= .ok (.int r.2.2):=rfl
theorem qf7 {α:Type} (g:α→Bool) (xs:List α):qmf (true,xs.map fun x=>T.bl (g x))= .ok (.bl (xs.all g)):=by
 have y:(xs.map fun x=>T.bl (g x)).all qm4=true:=by rw[List.all_map,List.all_eq_true]; intro _ _; rfl
 have z:(xs.map fun x=>T.bl (g x)).all ql1=xs.all g:=by rw[List.all_map]; rfl
 unfold qmf
 rw[if_pos ⟨rfl,y⟩,z]
def qeR (rs:List Row):Bool:=(rs.zip (rs.drop 1)).all fun p=>decide (p.1.1≤p.2.1)
theorem cut1 (ts:List T):qpZ ts (some 1) none=ts.drop 1:=by
 unfold qpZ
 have e:HT.sIx ts.length 0 (some 1)=min 1 ts.length:=HT.sIx_nat ts.length 0 1
 rw[e,HT.sIx_none]
 cases ts with
 | nil=>rfl
 | cons a l=>
  rw[show min 1 (a::l).length=1 by simp]
  rw[List.take_of_length_le (by simp)]
theorem qmi (as bs:List Row):qpM (as.map qb3) (bs.map qb3)=(as.zip bs).map fun p=>T.tup [qb3 p.1,qb3 p.2]:=by
 unfold qpM
 rw[List.zip_map,List.map_map]
 rfl
structure Log (rs:List Row):Prop where
 ok: ∀r∈rs,qhj r
 log:qeR rs=true
theorem qfm {ss:List Str} (h:ss.length<64):qhI (true,ss.map T.str)= .ok ((qmY ss).map T.str):=by
 have y:(ss.map T.str).all qll=true:=by rw[List.all_map,List.all_eq_true]; intro _ _; rfl
 have z:(ss.map T.str).map qfb=ss:=by rw[List.map_map]; simp[Function.comp_def,qfb]
 unfold qhI
 rw[if_pos ⟨⟨rfl,by rw[List.length_map]; exact h⟩,y⟩,z]
def qaN (rs:List Row):List Str:=qmY (rs.map fun r=>r.2.1)
def qbM (rs:List Row) (k:Str):List Row:=rs.filter fun r=>r.2.1==k
def qdf (rs:List Row) (old new:Str):List Row:=rs.map fun r=>(r.1,if r.2.1==old then new else r.2.1,r.2.2)
def qdK:Str:= "abcdefghijklmnopqrstuvwxyz"
theorem qjB: ∀i:Nat,i<26→qdK.cps.toList[i]? =some (97+i):=by decide+kernel
theorem qhD:qdK.length=26:=by decide+kernel
theorem qgG {i:Int} (h0:0≤i) (h1:i<26):gIx (.str qdK) (.int i)= .ok (.str ⟨#[97+i.toNat]⟩):=by
 obtain ⟨j,rfl⟩: ∃j:Nat,i=j:=⟨i.toNat,by lia⟩
 show (if qdK.length≤1000 then (match atI qdK.cps.toList (j:Int) with | some c=>Rs.ok (T.str ⟨#[c]⟩) | none=>.no) else .no)=_
 rw[qhD,if_pos (by decide),qaS (qjB j (by lia))]
 rfl
theorem qqT {i:Int} (h0:0≤i) (h1:i<26):qcX ⟨#[97+i.toNat]⟩:=by
 refine ⟨⟨Nat.le_refl 1,by show 1≤2; decide⟩,fun c hc=> ?_⟩
 have:c=97+i.toNat:=by simpa using hc
 lia
theorem qqS {i j:Int} (h0:0≤i) (h1:i<26) (h2:0≤j) (h3:j<26):qcX ((⟨#[97+i.toNat]⟩:Str)++⟨#[97+j.toNat]⟩):=by
 have e:((⟨#[97+i.toNat]⟩:Str)++⟨#[97+j.toNat]⟩)=⟨#[97+i.toNat,97+j.toNat]⟩:=rfl
 rw[e]
 refine ⟨⟨by show 1≤2; decide,Nat.le_refl 2⟩,fun c hc=> ?_⟩
 have:c=97+i.toNat∨c=97+j.toNat:=by simpa using hc
 lia
theorem qle:qcX "a" ∧qcX "b" ∧qcX "ab" :=by
 refine ⟨⟨by decide,fun c hc=> ?_⟩,⟨by decide,fun c hc=> ?_⟩,⟨by decide,fun c hc=> ?_⟩⟩<;>(revert c; decide)
theorem qjD {rs:List Row} {r:Row} (h:qeR rs=true) (hr: ∀q∈rs,q.1≤r.1):qeR (rs++[r])=true:=by
 unfold qeR at h⊢
 rw[List.all_eq_true] at h⊢
 intro p hp
 obtain ⟨i,hi,e⟩:=List.mem_iff_getElem.mp hp
 rw[List.getElem_zip] at e
 have hi':i+1<(rs++[r]).length:=by simp at hi⊢; lia
 rw[List.getElem_drop] at e
 subst e
 refine decide_eq_true ?_
 simp at hi'
 by_cases c:i+1<rs.length
 ·have hm:(rs[i],rs[i+1])∈rs.zip (rs.drop 1):=by
   refine List.mem_iff_getElem.mpr ⟨i,by simp; lia,?_⟩
   rw[List.getElem_zip,List.getElem_drop]
   simp[Nat.add_comm]
  have:=of_decide_eq_true (h _ hm)
  simp only[Nat.add_comm 1 i]
  rw[List.getElem_append_left (by lia),List.getElem_append_left c]
  exact this
 ·have e1:i+1=rs.length:=by lia
  simp only[Nat.add_comm 1 i]
  rw[List.getElem_append_left (by lia),List.getElem_append_right (by lia)]
  simp[e1]
  exact hr _ (List.getElem_mem _)
abbrev mo:Row→Int:=fun r=>r.1
theorem qci: ∀rs:List Row,qeR rs=true↔Ris mo rs
 | []=>⟨fun _=>List.Pairwise.nil,fun _=>rfl⟩
 | [a]=>⟨fun _=>List.pairwise_singleton _ _,fun _=>rfl⟩
 | a::b::l=>by
  have ih:=qci (b::l)
  have e:qeR (a::b::l)=(decide (a.1≤b.1)&&qeR (b::l)):=rfl
  rw[e,Bool.and_eq_true,ih,decide_eq_true_iff]
  constructor
  ·rintro ⟨h1,h2⟩
   refine List.pairwise_cons.mpr ⟨fun y hy=> ?_,h2⟩
   rcases List.mem_cons.mp hy with rfl | hy
   ·exact h1
   ·exact Int.le_trans h1 ((List.pairwise_cons.mp h2).1 y hy)
  ·intro h
   have h':=List.pairwise_cons.mp h
   exact ⟨h'.1 b List.mem_cons_self,h'.2⟩
theorem Log.ris {rs:List Row} (h:Log rs):Ris mo rs:=(qci rs).mp h.log
theorem Log.filter {rs:List Row} (h:Log rs) (p:Row→Bool):Log (rs.filter p):=⟨fun r hr=>h.ok r (List.mem_filter.mp hr).1,(qci _).mpr (qjm h.ris)⟩
theorem qo6 {rs:List Row} (h: ∀r∈rs,qhj r):Log (srt mo rs):=⟨fun r hr=>h r ((mem_srt rs).mp hr),(qci _).mpr (ris_srt rs)⟩
theorem Log.srt {rs:List Row} (h:Log rs):srt mo rs=rs:=qhe h.ris
theorem qoX (ss:List Str):okT 8 (.lst (ss.map T.str))=true:=by show (ss.map T.str).all (okT 7)=true; rw[List.all_map,List.all_eq_true]; intro _ _; rfl
theorem qhz {t:T} (h:okT 8 t=true):gNe t t= .ok (.bl false):=by unfold gNe; rw[if_pos ⟨h,h⟩,qeA 8 t h]; rfl
theorem qd9 (rs:List Row):(qaN rs).Nodup:=by
 have:List.Perm (qaN rs) (dd (rs.map fun r=>r.2.1)):=perm_srt _
 exact this.nodup_iff.mpr (qdI _)
theorem qda {rs:List Row} {k:Str}:k∈qaN rs↔∃r∈rs,r.2.1=k:=by
 have:List.Perm (qaN rs) (dd (rs.map fun r=>r.2.1)):=perm_srt _
 rw[this.mem_iff,qiE,List.mem_map]
theorem qfi: ∀(ks:List Str) (rs:List Row),ks.Nodup→(∀r∈rs,r.2.1∈ks)→List.Perm (ks.flatMap fun k=>qbM rs k) rs
 | [],rs,_,h=>by
  cases rs with
  | nil=>exact List.Perm.refl _
  | cons r rs=>exact absurd (h r List.mem_cons_self) (by simp)
 | k::ks,rs,nd,h=>by
  have nd':=List.nodup_cons.mp nd
  have ih:=qfi ks (rs.filter fun r=> !(r.2.1==k)) nd'.2 (fun r hr=>by
   have hr':=List.mem_filter.mp hr
   rcases List.mem_cons.mp (h r hr'.1) with z | z
   ·have:=hr'.2; rw[z] at this; simp at this
   ·exact z)
  have e:(ks.flatMap fun k'=>qbM (rs.filter fun r=> !(r.2.1==k)) k')=ks.flatMap fun k'=>qbM rs k':=by
   rw[List.flatMap_def,List.flatMap_def]
   refine congrArg List.flatten (List.map_congr_left fun k' hk'=> ?_)
   unfold qbM
   rw[List.filter_filter]
   refine List.filter_congr fun r _=> ?_
   by_cases c:r.2.1=k'
   ·have:r.2.1≠k:=fun z=>nd'.1 (by rw[←z,c]; exact hk')
    simp[c] at this⊢
    exact this
   ·simp[c]
  rw[List.flatMap_cons,←e]
  exact (List.Perm.append_left _ ih).trans (List.filter_append_perm (fun r:Row=>r.2.1==k) rs)
theorem qkv (rs:List Row):List.Perm ((qaN rs).map (qbM rs)).flatten rs:=by
 rw[←List.flatMap_def]
 exact qfi (qaN rs) rs (qd9 rs) fun r hr=>qda.mpr ⟨r,hr,rfl⟩
theorem qfn {rs:List Row} (h:Log rs) {old new:Str} (hn:qcX new):Log (qdf rs old new):=by
 refine ⟨fun r hr=> ?_,?_⟩
 ·obtain ⟨q,hq,rfl⟩:=List.mem_map.mp hr
  obtain ⟨a,b,c⟩:=h.ok q hq
  refine ⟨a,?_,c⟩
  show qcX (if q.2.1==old then new else q.2.1)
  split
  ·exact hn
  ·exact b
 ·rw[qci]
  exact List.Pairwise.map _ (fun a b h=>h) h.ris
end PL
end
section
namespace K19
open PySem L2 RH PL SR
def qcg:T→Option Row
 | .tup [.int m,.str k,.int n]=>some (m,k,n)
 | _=>none
theorem qkU {t:T} {r:Row} (h:qcg t=some r):t=qb3 r:=by
 unfold qcg at h
 split at h
 ·cases h; rfl
 ·cases h
def qoJ (r:Row):Bool:=(decide (0≤r.1)&&decide (r.1≤99))&&(K19J.keyS r.2.1&&(decide (-99≤r.2.2)&&decide (r.2.2≤99)))
def qgE (ts:List T):Bool:=ts.all (fun t=>(qcg t).any qoJ)&&(qeR (ts.filterMap qcg)&&decide (ts.length≤12))
def qaw (q:Q4):T:=.tup [.int q.1,.str q.2.1,.int q.2.2.1,.int q.2.2.2]
def qfa:List T→Rs T
 | [.lst a,.lst b,.int w]=>if qgE a=true∧qgE b=true∧0≤w then .ok (.lst ((J w (a.filterMap qcg) (b.filterMap qcg)).map qaw)) else .no
 | _=>.no
theorem qkw: ∀{ts:List T},ts.all (fun t=>(qcg t).any qoJ)=true→ts=(ts.filterMap qcg).map qb3∧∀r∈ts.filterMap qcg,qoJ r=true
 | [],_=>⟨rfl,fun r hr=>by cases hr⟩
 | t::ts,h=>by
  rw[List.all_cons,Bool.and_eq_true] at h
  obtain ⟨h1,h2⟩:=qkw h.2
  cases e:qcg t with
  | none=>rw[e] at h; cases h.1
  | some r=>
   rw[e] at h
   rw[List.filterMap_cons,e]
   refine ⟨by rw[List.map_cons,←qkU e,←h1],fun r' hr'=> ?_⟩
   rcases List.mem_cons.mp hr' with rfl | hr'
   ·exact h.1
   ·exact h2 r' hr'
theorem qoH {r:Row} (h:qoJ r=true):K19J.RowOk r:=by
 unfold qoJ at h
 simp only[Bool.and_eq_true,decide_eq_true_eq] at h
 exact ⟨h.1,h.2.1,h.2.2⟩
theorem qky {K:PySem.W.Frag} {B H:Hp} (le:Le B H) {rs:List Row} {vs:List V} (r:qaP K B (rs.map qb3) vs):qbD H vs rs:=by
 refine ⟨by rw[r.length,List.length_map],fun i x q hx hq=> ?_⟩
 obtain ⟨v,e1,e2⟩:=r.get (i:=i) (t:=qb3 q) (by rw[List.getElem?_map,hq]; rfl)
 rw[hx] at e1; cases e1
 unfold qb3 Rep at e2
 obtain ⟨p,ws,rfl,hp,rw_⟩:=e2
 refine ⟨p,rfl,le _ _ ?_⟩
 rw[hp]
 obtain ⟨a1,r1,rfl,q1,w1⟩:=rw_.inv
 obtain ⟨a2,r2,rfl,q2,w2⟩:=w1.inv
 obtain ⟨a3,r3,rfl,q3,w3⟩:=w2.inv
 cases w3.inv0
 rw[qar q1,qaJ q2,qar q3]
 rfl
theorem qiI {K:PySem.W.Frag} {B H:Hp} (le:Le B H) {ts:List T} {vs:List V} {p:Addr} (hp:B p=some (.lst vs)) (r:qaP K B ts vs) (h:qgE ts=true):K19J.LogAt K H p (ts.filterMap qcg):=by
 unfold qgE at h
 rw[Bool.and_eq_true,Bool.and_eq_true,decide_eq_true_eq] at h
 obtain ⟨e1,e2⟩:=qkw h.1
 have hl:ts.length=(ts.filterMap qcg).length:=by conv=>lhs; rw[e1]; rw[List.length_map]
 rw[e1] at r
 exact ⟨⟨vs,SqL.of (le _ _ hp),qky le r⟩,fun q hq=>qoH (e2 q hq),(qci _).mp h.2.1,by omega⟩
def qmg (H' B:Hp) (D:Addr) (ys:List V):Hp:=fun x=>if x=D then some (.lst ys) else match H' x with
 | some (.tup us)=>some (.tup us)
 | _=>B x
theorem qi9 {H' B:Hp} {D x:Addr} {ys us:List V} (h:H' x=some (.tup us)) (n:x≠D):qmg H' B D ys x=some (.tup us):=by
 unfold qmg
 rw[if_neg n,h]
theorem ql6 {H' B:Hp} {D x:Addr} {ys:List V} (h: ∀us,H' x≠some (.tup us)) (n:x≠D):qmg H' B D ys x=B x:=by
 unfold qmg
 rw[if_neg n]
 split
 ·rename_i us e; exact absurd e (h us)
 ·rfl
theorem ql7 {H' B:Hp} {D:Addr} {ys:List V}:qmg H' B D ys D=some (.lst ys):=by unfold qmg; rw[if_pos rfl]
theorem qhO {H B H':Hp} {D Tt:Addr} {ys:List V} (le:Le B H) (bt: ∀a ps,B a≠some (.tbl ps)) (t0: ∃ps,H Tt=some (.tbl ps)) (t1: ∃ps,H' Tt=some (.tbl ps)) (sT:qed Tt H H') (nD:H D=none) (hD:H' D=some (.lst ys)):qbJ H B H' (qmg H' B D ys):=by
 have hh: ∀a o,H a=some o→(∀ps,o≠.tbl ps)→H' a=some o:=fun a o e n=>sT a o e (fun z=>by
  obtain ⟨ps,q⟩:=t0
  rw[z,q] at e; cases e; exact n ps rfl)
 have nt: ∀a o,B a=some o→∀ps,o≠.tbl ps:=fun a o e ps z=>bt a ps (by rw[e,z])
 have nd: ∀a o,H a=some o→a≠D:=fun a o e z=>by rw[z,nD] at e; cases e
 refine ⟨⟨hh,fun a e z=> ?_⟩,fun a o e=> ?_,fun a o e=> ?_,fun a ps e=> ?_,fun a o e n1 n2=> ?_⟩
 ·by_cases q:a=Tt
  ·obtain ⟨ps,q'⟩:=t1
   rw[q,q'] at z; cases z
  ·cases q':H a with
   | none=>exact e q'
   | some o=>rw[sT a o q' q] at z; cases z
 ·have h1:=le a o e
  have h2:=hh a o h1 (nt a o e)
  by_cases c: ∃us,o= .tup us
  ·obtain ⟨us,rfl⟩:=c
   exact qi9 h2 (nd a _ h1)
  ·rw[ql6 (fun us z=>by rw[h2] at z; cases z; exact c ⟨us,rfl⟩) (nd a _ h1)]
   exact e
 ·by_cases q:a=D
  ·subst q; rw[ql7] at e; cases e; exact hD
  ·unfold qmg at e
   rw[if_neg q] at e
   split at e
   ·rename_i us h1; cases e; exact h1
   ·exact hh a o (le a o e) (nt a o e)
 ·by_cases q:a=D
  ·subst q; rw[ql7] at e; cases e
  ·unfold qmg at e
   rw[if_neg q] at e
   split at e
   ·cases e
   ·exact bt a ps e
 ·exact ql6 (fun us z=>by rw[hh a o e n2] at z; cases z; exact n1 us rfl) (nd a o e)
theorem qjn {K:PySem.W.Frag} {H' B:Hp} {D:Addr} {ys:List V} {qs:List Q4} (hD:H' D=some (.lst ys)) (h:TAt qcY H' ys qs):Rep K (qmg H' B D ys) (.lst (qs.map qaw)) (.ref D):=by
 unfold Rep
 refine ⟨D,ys,rfl,ql7,.of_get (by rw[h.1,List.length_map]) fun i t v et ev=> ?_⟩
 rw[List.getElem?_map] at et
 cases q:qs[i]? with
 | none=>rw[q] at et; cases et
 | some a=>
  rw[q] at et; cases et
  obtain ⟨p,rfl,hp⟩:=h.2 i v a ev q
  unfold qaw Rep
  exact ⟨p,qcY a,rfl,qi9 hp (fun z=>by rw[z,hD] at hp; cases hp),.cons qbB (.cons qgx (.cons qbB (.cons qbB .nil)))⟩
end K19
end
section
namespace K19
open PySem L2 PL SetL
section
variable {P:Program} {w:World} {K:PySem.W.Frag} {mg:Str→Option Value} {base:Heap} {G:Gam} {C:Str→Addr}
abbrev qfR:Pos:=⟨38,28,38,46⟩
abbrev qd1:Str:= "in_order.<locals>.<lambda>"
abbrev lq:List (Pos×Str):=[(qfR,qd1)]
abbrev gL (T_17:Addr):Gam:=qer [(T_17,qfR,qd1)]
theorem qr5:qau ["thing"] ["thing"] (qad qsi):=⟨rfl,rfl,rfl,by decide+kernel,rfl,by decide+kernel,by decide+kernel⟩
def quL:Ro→Rs Out:=qbk (qbu (qbt "int" (dV 0)) (qbS (qbt "bool" (dV 0))))
def qpQ:List T→Rs T:=fnT 1 1 quL
theorem qud:qau ["thing", "least", "greatest"] ["thing", "least", "greatest"] (qad s_7):=⟨rfl,rfl,rfl,by decide+kernel,rfl,by decide+kernel,by decide+kernel⟩
def d_7:Ro→Rs Out:=qbk (qbu (qaj qpQ (qac (dV 0) (qat))) (qaI gLe gLe (dV 1) (dV 0) (dV 2)))
def t_7:List T→Rs T:=fnT 3 3 d_7
theorem qr3:qau ["thing", "longest"] ["thing", "longest"] (qad qsg):=⟨rfl,rfl,rfl,by decide+kernel,rfl,by decide+kernel,by decide+kernel⟩
def qtL:Ro→Rs Out:=qaV (dIf (dOr (qcm (dTB (qbt "str" (dV 0)))) (qcm (dTB (qaI gLe gLe (dC (.int 1)) (qcL (dV 0)) (dV 1))))) (qbk (dC (.bl false))) (qaC)) (qbk (dCQ qmf (dQF (qa2 1 [] (dIS (dV 0)) (gN 0) (qdk) (qaI gLe gLe (dC (.str "a")) (dV 0) (dC (.str "z")))))))
def qp5:List T→Rs T:=fnT 2 2 qtL
theorem qr1:qau ["thing"] ["thing"] (qad qse):=⟨rfl,rfl,rfl,by decide+kernel,rfl,by decide+kernel,by decide+kernel⟩
def qtI:Ro→Rs Out:=qbk (qaj qp5 (qac (dV 0) (qac (dC (.int 2)) (qat))))
def qnB:List T→Rs T:=fnT 1 1 qtI
theorem qr0:qau ["thing"] ["thing"] (qad qsd):=⟨rfl,rfl,rfl,by decide+kernel,rfl,by decide+kernel,by decide+kernel⟩
def qtH:Ro→Rs Out:=qaV (dIf (dOr (qcm (dTB (qbt "tuple" (dV 0)))) (dTB (dB gNe (qcL (dV 0)) (dC (.int 3))))) (qbk (dC (.bl false))) (qaC)) (qaV (dIf (dOr (qcm (dTB (qaj t_7 (qac (dB gIx (dV 0) (dC (.int 0))) (qac (dC (.int 0)) (qac (dC (.int 99)) (qat))))))) (qcm (dTB (qaj qnB (qac (dB gIx (dV 0) (dC (.int 1))) (qat)))))) (qbk (dC (.bl false))) (qaC)) (qbk (qaj t_7 (qac (dB gIx (dV 0) (dC (.int 2))) (qac (qbG (dC (.int 99))) (qac (dC (.int 99)) (qat)))))))
def qmn:List T→Rs T:=fnT 1 1 qtH
theorem qrZ:qau ["rows"] ["rows"] (qad qsc):=⟨rfl,rfl,rfl,by decide+kernel,rfl,by decide+kernel,by decide+kernel⟩
def qtG:Ro→Rs Out:=qbk (dCQ qmf (dQF (qa2 2 [] (dIZ (qac (dV 0) (qac (dFz (qdu (dQV 0) (dOS (dC (.int 1))) (dON))) (qat)))) (gT 2 (gsC (gN 0) (gsC (gN 1) (gsN)))) (qdk) (dB gLe (dB gIx (dV 0) (dC (.int 0))) (dB gIx (dV 1) (dC (.int 0)))))))
def qp4:List T→Rs T:=fnT 1 1 qtG
theorem qr4:qau ["rows"] ["rows"] (qad qnR):=⟨rfl,rfl,rfl,by decide+kernel,rfl,by decide+kernel,by decide+kernel⟩
def qtM:Ro→Rs Out:=qbk (dFz (qcv (qgj 0) (dQV 0)))
def qpP:List T→Rs T:=fnT 1 1 qtM
theorem qr2:qau ["rows"] ["rows"] (qad qsf):=⟨rfl,rfl,rfl,by decide+kernel,rfl,by decide+kernel,by decide+kernel⟩
def qtK:Ro→Rs Out:=qbk (dFz (qcv qhI (dQF (qa2 1 [] (dI (dV 0)) (gN 0) (qdk) (dB gIx (dV 0) (dC (.int 1)))))))
def qpO:List T→Rs T:=fnT 1 1 qtK
theorem qug:qau ["rows"] ["rows"] (qad s_1):=⟨rfl,rfl,rfl,by decide+kernel,rfl,by decide+kernel,by decide+kernel⟩
def d_1:Ro→Rs Out:=dIf (qcm (dTB (dCQ qmf (dQF (qa2 1 [] (dI (dV 0)) (gN 0) (qdk) (qaj qmn (qac (dV 0) (qat)))))))) (dNo) (qaC)
def t_1:List T→Rs T:=fnT 1 1 d_1
theorem que:qau ["rows"] ["rows"] (qad s_3):=⟨rfl,rfl,rfl,by decide+kernel,rfl,by decide+kernel,by decide+kernel⟩
def d_3:Ro→Rs Out:=dIf (qcm (dTB (qaj qp4 (qac (dV 0) (qat))))) (dNo) (qaC)
def t_3:List T→Rs T:=fnT 1 1 d_3
theorem quf:qau ["rows"] ["rows"] (qad s_2):=⟨rfl,rfl,rfl,by decide+kernel,rfl,by decide+kernel,by decide+kernel⟩
def d_2:Ro→Rs Out:=qaV (qbg (qaj t_1 (qac (dV 0) (qat)))) (qbg (qaj t_3 (qac (dV 0) (qat))))
def t_2:List T→Rs T:=fnT 1 1 d_2
theorem quh:qau ["one", "other"] ["one", "other"] (qad s_0):=⟨rfl,rfl,rfl,by decide+kernel,rfl,by decide+kernel,by decide+kernel⟩
def d_0:Ro→Rs Out:=qaV (qbg (qaj t_1 (qac (dV 0) (qat)))) (qaV (qbg (qaj t_1 (qac (dV 1) (qat)))) (qaV (qbg (qaj t_3 (qac (dV 0) (qat)))) (qbg (qaj t_3 (qac (dV 1) (qat))))))
def t_0:List T→Rs T:=fnT 2 2 d_0
theorem qrY:qau ["rows", "key"] ["rows", "key"] (qad qrt):=⟨rfl,rfl,rfl,by decide+kernel,rfl,by decide+kernel,by decide+kernel⟩
def qtF:Ro→Rs Out:=qbk (dFz (qa2 1 [1] (dI (dV 0)) (gN 0) (dTB (dB gEq (dB gIx (dV 0) (dC (.int 1))) (dV 1))) (dV 0)))
def qpN:List T→Rs T:=fnT 2 2 qtF
theorem qoE:qau ["logs", "rows", "log"] ["logs"] (qad qsb):=⟨rfl,rfl,rfl,by decide+kernel,rfl,by decide+kernel,by decide+kernel⟩
def qtE:Ro→Rs Out:=qaV (qbv 1 (qb6 (qat))) (qaV (qoj (dI (dV 0)) (gN 2) (qaV (qbg (qaj t_2 (qac (dV 2) (qat)))) (qdc 1 (dQV 2)))) ((fun ρ=>(qbk (qaj qpP (qac (dV 1) (qat)))) (frz 1 ρ))))
def qov:List T→Rs T:=fnT 1 3 qtE
theorem quc:qau ["rows"] ["rows"] (qad s_9):=⟨rfl,rfl,rfl,by decide+kernel,rfl,by decide+kernel,by decide+kernel⟩
def d_9:Ro→Rs Out:=qaV (qbg (qaj t_2 (qac (dV 0) (qat)))) (qbk (dFz (qa2 1 [0] (dI (qaj qpO (qac (dV 0) (qat)))) (gN 0) (qdk) (qcc (qac (dV 0) (qac (qaj qpN (qac (dV 1) (qac (dV 0) (qat)))) (qat)))))))
def t_9:List T→Rs T:=fnT 1 1 d_9
theorem qqg:qau ["rows", "by", "moved"] ["rows", "by"] (qad qru):=⟨rfl,rfl,rfl,by decide+kernel,rfl,by decide+kernel,by decide+kernel⟩
def qtJ:Ro→Rs Out:=qaV (qbg (qaj t_2 (qac (dV 0) (qat)))) (qaV (dIf (qcm (dTB (qaj qpQ (qac (dV 1) (qat))))) (dNo) (qaC)) (qaV (qbI 2 (dFz (qa2 3 [1] (dI (dV 0)) (gT 3 (gsC (gN 0) (gsC (gN 1) (gsC (gN 2) (gsN))))) (qdk) (qcc (qac (dB qcb (dV 0) (dV 3)) (qac (dV 1) (qac (dV 2) (qat)))))))) (qaV (dIf (qcm (dTB (dCQ qmf (dQF (qa2 1 [] (dI (dV 2)) (gN 0) (qdk) (qaj qmn (qac (dV 0) (qat)))))))) (dNo) (qaC)) (qbk (dV 2)))))
def qnC:List T→Rs T:=fnT 2 3 qtJ
theorem qr7:qau ["rows", "old", "new"] ["rows", "old", "new"] (qad qrv):=⟨rfl,rfl,rfl,by decide+kernel,rfl,by decide+kernel,by decide+kernel⟩
def qtO:Ro→Rs Out:=qaV (qbg (qaj t_2 (qac (dV 0) (qat)))) (qaV (dIf (dOr (qcm (dTB (qaj qnB (qac (dV 1) (qat))))) (qcm (dTB (qaj qnB (qac (dV 2) (qat)))))) (dNo) (qaC)) (qbk (dFz (qa2 3 [1,2] (dI (dV 0)) (gT 3 (gsC (gN 0) (gsC (gN 1) (gsC (gN 2) (gsN))))) (qdk) (qcc (qac (dV 0) (qac (qcZ (dTB (dB gEq (dV 1) (dV 3))) (dV 4) (dV 1)) (qac (dV 2) (qat)))))))))
def qnE:List T→Rs T:=fnT 3 3 qtO
theorem qmq:qau ["_law_script", "_law_at", "_law_letters", "_law_way", "_law_key_here"] ["_law_script", "_law_at"] (qad qsh):=⟨rfl,rfl,rfl,by decide+kernel,rfl,by decide+kernel,by decide+kernel⟩
def qrC:Ro→Rs Out:=qaV (qbI 2 (dC (.str "abcdefghijklmnopqrstuvwxyz"))) (qaV (qbI 3 (qaj qdY (qac (dV 0) (qac (dV 1) (qac (dC (.int 16)) (qat)))))) (qaV (dIf (dTB (dB gGt (dV 3) (dC (.int 0)))) (qbk (dB gIx (dFz (qb6 (qac (dC (.str "a")) (qac (dC (.str "b")) (qac (dC (.str "ab")) (qat)))))) (dB qpV (dV 3) (dC (.int 3))))) (qaC)) (qaV (qbI 4 (dB gIx (dV 2) (qaj qdY (qac (dV 0) (qac (dB qcb (dV 1) (dC (.int 1))) (qac (dC (.int 26)) (qat))))))) (qaV (dIf (dTB (dB gEq (qaj qdY (qac (dV 0) (qac (dB qcb (dV 1) (dC (.int 2))) (qac (dC (.int 2)) (qat))))) (dC (.int 0)))) (qbk (dV 4)) (qaC)) (qbk (dB qcb (dV 4) (dB gIx (dV 2) (qaj qdY (qac (dV 0) (qac (dB qcb (dV 1) (dC (.int 3))) (qac (dC (.int 26)) (qat))))))))))))
def qnD:List T→Rs T:=fnT 2 5 qrC
theorem qr6:qau ["_law_script", "_law_at", "_law_most"] ["_law_script", "_law_at", "_law_most"] (qad qsm):=⟨rfl,rfl,rfl,by decide+kernel,rfl,by decide+kernel,by decide+kernel⟩
def qs6:Ro→Rs Out:=qaV (dIf (dTB (dB gEq (qaj qdY (qac (dV 0) (qac (dV 1) (qac (dC (.int 8)) (qat))))) (dC (.int 0)))) (qbk (dB gSub (qaj qdY (qac (dV 0) (qac (dB qcb (dV 1) (dC (.int 1))) (qac (dB qcb (dB qn7 (dC (.int 2)) (dV 2)) (dC (.int 1))) (qat))))) (dV 2))) (qaC)) (qbk (dB gSub (qaj qdY (qac (dV 0) (qac (dB qcb (dV 1) (dC (.int 1))) (qac (dC (.int 9)) (qat))))) (dC (.int 4))))
def qow:List T→Rs T:=fnT 3 3 qs6
theorem qhf:qau ["_law_script", "_law_at", "_law_most", "_law_made", "_law_moment", "_law_far", "_law_k", "_law_base"] ["_law_script", "_law_at", "_law_most"] (qad qsj):=⟨rfl,rfl,rfl,by decide+kernel,rfl,by decide+kernel,by decide+kernel⟩
def qtN:Ro→Rs Out:=qaV (qbv 3 (qb6 (qat))) (qaV (qbI 4 (qaj qdY (qac (dV 0) (qac (dV 1) (qac (dC (.int 9)) (qat)))))) (qaV (qbI 5 (dB gIx (dFz (qb6 (qac (dC (.int 1)) (qac (dC (.int 3)) (qac (dC (.int 6)) (qac (dC (.int 14)) (qat))))))) (qaj qdY (qac (dV 0) (qac (dB qcb (dV 1) (dC (.int 1))) (qac (dC (.int 4)) (qat))))))) (qaV (qoj (qdy (qac (qaj qdY (qac (dV 0) (qac (dB qcb (dV 1) (dC (.int 2))) (qac (dB qcb (dV 2) (dC (.int 1))) (qat))))) (qat))) (gN 6) (qaV (qbI 7 (dB qcb (dB qcb (dV 1) (dC (.int 10))) (dB qn7 (dC (.int 8)) (dV 6)))) (qaV (qbI 4 (dB2 qrA (dC (.int 99)) (dB qcb (dV 4) (qaj qdY (qac (dV 0) (qac (dV 7) (qac (dV 5) (qat)))))))) (qdw 3 (qcc (qac (dV 4) (qac (qaj qnD (qac (dV 0) (qac (dB qcb (dV 7) (dC (.int 1))) (qat)))) (qac (qaj qow (qac (dV 0) (qac (dB qcb (dV 7) (dC (.int 5))) (qac (dC (.int 99)) (qat))))) (qat))))))))) ((fun ρ=>(qbk (dV 3)) (frz 3 ρ))))))
def qpR:List T→Rs T:=fnT 3 8 qtN
theorem qcf:qau ["_law_script", "_law_one", "_law_other", "_law_width", "_law_wider", "_law_told", "_law_mine", "_law_yours", "_law_due", "_law_key_here", "_law_by", "_law_keys", "_law_old", "_law_new", "_law_about", "_law_many", "_law_both_of"] ["_law_script"] (qad qhg):=⟨rfl,rfl,rfl,by decide+kernel,rfl,by decide+kernel,by decide+kernel⟩
def qpy:Ro→Rs Out:=qaV (qdv 1 2 (qaj qpR (qac (dV 0) (qac (dC (.int 0)) (qac (dC (.int 6)) (qat))))) (qaj qpR (qac (dV 0) (qac (dC (.int 200)) (qac (dC (.int 6)) (qat)))))) (qaV (qdv 3 4 (qaj qdY (qac (dV 0) (qac (dC (.int 400)) (qac (dC (.int 9)) (qat))))) (dB qcb (dC (.int 9)) (qaj qdY (qac (dV 0) (qac (dC (.int 401)) (qac (dC (.int 9)) (qat))))))) (qaV (qbF (gT 3 (gsC (gN 5) (gsC (gN 6) (gsC (gN 7) (gsN))))) (qcc (qac (qaj qfa (qac (dV 1) (qac (dV 2) (qac (dV 3) (qat))))) (qac (qpX (qpY qe9 (dQ (qaj t_9 (qac (dV 1) (qat)))))) (qac (qpX (qpY qe9 (dQ (qaj t_9 (qac (dV 2) (qat)))))) (qat)))))) (qaV (qbv 8 (qb6 (qat))) (qaV (qoj (qrD (dV 6)) (gN 9) (qdc 8 (dQ (qaj qfa (qac (qlS (dV 6) (dV 9)) (qac (qgY (dV 7) (dV 9) (dFz (qb6 (qat)))) (qac (dV 3) (qat)))))))) (qaV (dIf (dTB (dB gNe (dFz (qcv qd0 (dQV 8))) (dFz (qcv qd0 (dQV 5))))) (qbk (dC (.bl false))) (qaC)) (qaV (qbI 10 (qaj qdY (qac (dV 0) (qac (dC (.int 402)) (qac (dB gSub (dC (.int 100)) (dCQ qhC (dQF (qrE (dQF (qa2 1 [] (dI (dB qcb (dV 1) (dV 2))) (gN 0) (qdk) (dB gIx (dV 0) (dC (.int 0))))) (dQF (qb6 (qac (dC (.int 0)) (qat)))))))) (qat)))))) (qaV (dIf (dTB (dB gNe (qaj qfa (qac (qaj qnC (qac (dV 1) (qac (dV 10) (qat)))) (qac (qaj qnC (qac (dV 2) (qac (dV 10) (qat)))) (qac (dV 3) (qat))))) (dFz (qa2 1 [10] (dI (dV 5)) (gN 0) (qdk) (dB qcb (qcc (qac (dB qcb (dB gIx (dV 0) (dC (.int 0))) (dV 1)) (qat))) (qjN (dV 0) (dOS (dC (.int 1))) (dON))))))) (qbk (dC (.bl false))) (qaC)) (qaV (qbI 11 (dFz (qcv qhI (dQF (qa2 1 [] (dI (dB qcb (dV 1) (dV 2))) (gN 0) (qdk) (dB gIx (dV 0) (dC (.int 1)))))))) (qaV (dIf (qdl (dTB (dB gNe (dV 11) (dFz (qb6 (qat))))) (dTB (dIn true (dC (.str "zz")) (dQV 11)))) (qaV (qbI 12 (dB gIx (dV 11) (qaj qdY (qac (dV 0) (qac (dC (.int 403)) (qac (qcL (dV 11)) (qat))))))) (qaV (qbI 13 (qaj qfa (qac (qaj qnE (qac (dV 1) (qac (dV 12) (qac (dC (.str "zz")) (qat))))) (qac (qaj qnE (qac (dV 2) (qac (dV 12) (qac (dC (.str "zz")) (qat))))) (qac (dV 3) (qat)))))) (dIf (dTB (dB gNe (dV 13) (dFz (qa2 1 [12] (dI (dV 5)) (gN 0) (qdk) (dB qcb (qcc (qac (dB gIx (dV 0) (dC (.int 0))) (qac (qcZ (dTB (dB gEq (dB gIx (dV 0) (dC (.int 1))) (dV 1))) (dC (.str "zz")) (dB gIx (dV 0) (dC (.int 1)))) (qat)))) (qjN (dV 0) (dOS (dC (.int 2))) (dON))))))) (qbk (dC (.bl false))) (qaC)))) (qaC)) (qaV (qbI 14 (qaj qfa (qac (dV 2) (qac (dV 1) (qac (dV 3) (qat)))))) (qaV (dIf (dTB (dB gNe (dFz (qcv qd0 (dQF (qa2 1 [] (dI (dV 14)) (gN 0) (qdk) (dB qcb (qjN (dV 0) (dON) (dOS (dC (.int 2)))) (qcc (qac (dB gIx (dV 0) (dC (.int 3))) (qac (dB gIx (dV 0) (dC (.int 2))) (qat))))))))) (dFz (qcv qd0 (dQV 5))))) (qbk (dC (.bl false))) (qaC)) (qaV (qbI 15 (qaj qfa (qac (dV 1) (qac (dV 2) (qac (dV 4) (qat)))))) (qaV (dIf (dTB (dB gNe (dFz (qa2 1 [15,5] (dI (dV 5)) (gN 0) (dTB (dB gLt (qeW (dQV 1) (dV 0)) (qeW (dQV 2) (dV 0)))) (dV 0))) (dFz (qb6 (qat))))) (qbk (dC (.bl false))) (qaC)) (qaV (qbI 16 (qaj qov (qac (dFz (qb6 (qac (dV 1) (qac (dV 2) (qat))))) (qat)))) (qbk (qbu (dB gEq (qaj qfa (qac (dV 1) (qac (dFz (qb6 (qat))) (qac (dV 3) (qat))))) (dFz (qb6 (qat)))) (dB gGe (qcL (qaj qfa (qac (dV 16) (qac (dV 16) (qac (dC (.int 0)) (qat)))))) (qcL (dV 16)))))))))))))))))))
def t_law:List T→Rs T:=fnT 1 17 qpy
end
end K19
end
section
namespace K19
open PySem L2 PL SetL SR
theorem qbV {d e:Ro→Rs Out} {ρ ρ':Ro} {r:Rs Out} (h:d ρ= .ok (.nx ρ')) (h2:e ρ'=r):qaV d e ρ=r:=by
 unfold qaV; rw[h]; exact h2
theorem qfv (i:Int):qpQ [.int i]= .ok (.bl true):=rfl
theorem qiW (i a b:Int):t_7 [.int i,.int a,.int b]= .ok (.bl (decide (a≤i)&&decide (i≤b))):=by
 unfold t_7 d_7
 simp only[fnT,List.length_cons,List.length_nil,Nat.reduceAdd,qbk,qbu,dTB,qaj,qac,dV,List.map_cons,List.map_nil,Nat.reduceSub,List.replicate,List.append_nil,List.getElem?_cons_zero,qat,qai,qfv,qaI,List.getElem?_cons_succ,qbO,if_true]
 by_cases h:a≤i
 ·simp[h]; rfl
 ·simp[h]; rfl
theorem qlC {x:Str} (h:qcX x):qp5 [.str x,.int 2]= .ok (.bl true):=by
 have l1:(1:Int)≤(x.length:Int):=by have:=h.1.1; lia
 have l2:(x.length:Int)≤2:=by have:=h.1.2; lia
 have l3:x.length≤1000:=by have:=h.1.2; lia
 have cm:qa2 1 [] (dIS (dV 0)) (gN 0) qdk (qaI gLe gLe (dC (T.str "a")) (dV 0) (dC (T.str "z"))) [.fz (.str x),.fz (.int 2)]= .ok ((x.cps.toList.filter fun _=>true).map fun _=>T.bl true):=by
  refine qcV (f:=fun c=>T.str ⟨#[c]⟩) ?_ fun c hc=>⟨rfl,fun _=> ?_⟩
  ·show (if x.length≤1000 then _ else _)=_
   rw[if_pos l3]
  ·have:=qoC (h.2 c hc)
   unfold qaI
   simp only[dC,dV,qai,List.getElem?_cons_zero,this.1,this.2,if_true]
 unfold qp5 qtL
 have i1:qhQ "str" (.str x)= .ok (.bl true):=rfl
 simp only[fnT,List.length_cons,List.length_nil,Nat.reduceAdd,qaV,dIf,dOr,qcm,dTB,qbt,dV,List.map_cons,List.map_nil,Nat.reduceSub,List.replicate,List.append_nil,List.getElem?_cons_zero,qai,i1,Bool.not_true,qaI,dC,qcL,qa9,l3,if_true,List.getElem?_cons_succ,qbO,l2,decide_true,l1,Bool.false_eq_true,if_false,qbk,qaC,qbh,dCQ,dQF,cm,qmf]
 have y: ∀l:List Nat,(l.map fun _=>T.bl true).all qm4=true∧(l.map fun _=>T.bl true).all ql1=true:=fun l=>by constructor<;>(rw[List.all_map,List.all_eq_true]; intro _ _; rfl)
 rw[qaU,(y _).1,(y _).2]
 simp only[true_and,if_true,qai]
 rfl
theorem qfY {x:Str} (h:qcX x):qnB [.str x]= .ok (.bl true):=by
 unfold qnB qtI
 simp only[fnT,List.length_cons,List.length_nil,Nat.reduceAdd,qbk,qaj,qac,dV,List.map_cons,List.map_nil,Nat.reduceSub,List.replicate,List.append_nil,List.getElem?_cons_zero,dC,qat,qai,qlC h,outT,if_true]
theorem qiX {r:Row} (h:qhj r):qmn [qb3 r]= .ok (.bl true):=by
 obtain ⟨⟨h1,h2⟩,hk,h3,h4⟩:=h
 have i1:qhQ "tuple" (qb3 r)= .ok (.bl true):=rfl
 have i2:qn8 (qb3 r)= .ok (.int 3):=rfl
 have i3:gNe (.int 3) (.int 3)= .ok (.bl false):=rfl
 have w1:=qiW r.1 0 99
 have w2:=qiW r.2.2 (-99) 99
 rw[decide_eq_true h1,decide_eq_true h2] at w1
 rw[decide_eq_true h3,decide_eq_true h4] at w2
 unfold qmn qtH
 simp only[fnT,List.length_cons,List.length_nil,Nat.reduceAdd,qaV,dIf,dOr,qcm,dTB,qbt,dV,List.map_cons,List.map_nil,Nat.reduceSub,List.replicate,List.append_nil,List.getElem?_cons_zero,qai,i1,Bool.not_true,dB,qcL,i2,dC,i3,Bool.false_eq_true,if_false,qbk,qaC,qbh,qaj,qac,qat,qbG,qa7,quo,w1,Bool.and_self,qun,qfY hk,qum,w2,outT,if_true]
theorem qni (rs:List Row):qp4 [qaE rs]= .ok (.bl (qeR rs)):=by
 have cm:qa2 2 [] (dIZ (qac (dV 0) (qac (dFz (qdu (dQV 0) (dOS (dC (T.int 1))) dON)) qat))) (gT 2 (gsC (gN 0) (gsC (gN 1) gsN))) qdk (dB gLe (dB gIx (dV 0) (dC (T.int 0))) (dB gIx (dV 1) (dC (T.int 0)))) [.fz (qaE rs)]= .ok (((rs.zip (rs.drop 1)).filter fun _=>true).map fun p=>T.bl (decide (p.1.1≤p.2.1))):=by
  refine qrg (a:=fun p:Row×Row=>qb3 p.1) (b:=fun p=>qb3 p.2) ?_ fun p hp=>⟨rfl,fun _=>rfl⟩
  unfold qaE
  simp only[dIZ,qac,dV,dFz,qdu,dQV,dOS,dC,dON,qat,qkl,qai,List.getElem?_cons_zero,if_true,cut1,qor]
  rw[←List.map_drop,qmi]
 unfold qp4 qtG
 simp only[fnT,List.length_cons,List.length_nil,Nat.reduceAdd,qbk,dCQ,dQF,List.map_cons,List.map_nil,Nat.reduceSub,List.replicate,List.append_nil,cm,qaU,qai,qf7,outT,if_true]
 rfl
theorem qgT {rs:List Row} (h: ∀r∈rs,qhj r):t_1 [qaE rs]= .ok .non:=by
 have cm:qa2 1 [] (dI (dV 0)) (gN 0) qdk (qaj qmn (qac (dV 0) qat)) [.fz (qaE rs)]= .ok ((rs.filter fun _=>true).map fun _=>T.bl true):=by
  refine qcV (f:=qb3) rfl fun r hr=>⟨rfl,fun _=> ?_⟩
  simp only[qaj,qac,dV,List.map_nil,List.getElem?_cons_zero,qat,qai,qiX (h r hr)]
 unfold t_1 d_1
 simp only[fnT,List.length_cons,List.length_nil,Nat.reduceAdd,dIf,qcm,dTB,dCQ,dQF,List.map_cons,List.map_nil,Nat.reduceSub,List.replicate,List.append_nil,cm,qaU,qai,qf7,qaC,if_true]
 have y:(rs.all fun _=>true)=true:=by rw[List.all_eq_true]; intro _ _; rfl
 rw[y]; rfl
theorem qe8 {rs:List Row} (h:qeR rs=true):t_3 [qaE rs]= .ok .non:=by
 unfold t_3 d_3
 simp only[fnT,List.length_cons,List.length_nil,Nat.reduceAdd,dIf,qcm,dTB,qaj,qac,dV,List.map_cons,List.map_nil,Nat.reduceSub,List.replicate,List.append_nil,List.getElem?_cons_zero,qat,qai,qni,h,Bool.not_true,qaC,Bool.false_eq_true,if_false,outT,if_true]
theorem qcq {rs:List Row} (h:Log rs):t_2 [qaE rs]= .ok .non:=by
 unfold t_2 d_2
 simp only[fnT,List.length_cons,List.length_nil,Nat.reduceAdd,qaV,qbg,qaj,qac,dV,List.map_cons,List.map_nil,Nat.reduceSub,List.replicate,List.append_nil,List.getElem?_cons_zero,qat,qai,qgT h.ok,qbh,qe8 h.log,outT,if_true]
theorem qlB {rs:List Row} (h:rs.length<64):qpO [qaE rs]= .ok (.lst ((qaN rs).map T.str)):=by
 have cm:qa2 1 [] (dI (dV 0)) (gN 0) qdk (dB gIx (dV 0) (dC (T.int 1))) [.fz (qaE rs)]= .ok ((rs.filter fun _=>true).map fun r=>T.str r.2.1):=
  qcV (f:=qb3) rfl fun r hr=>⟨rfl,fun _=>rfl⟩
 unfold qpO qtK
 have e:(rs.map fun r=>T.str r.2.1)=(rs.map fun r=>r.2.1).map T.str:=by rw[List.map_map]; rfl
 simp only[fnT,List.length_cons,List.length_nil,Nat.reduceAdd,qbk,dFz,qcv,dQF,List.map_cons,List.map_nil,Nat.reduceSub,List.replicate,List.append_nil,cm,qaU,e,qai,qfm (ss:=rs.map fun r=>r.2.1) (by rw[List.length_map]; exact h),outT,if_true]
 rfl
theorem qnf (rs:List Row) (k:Str):qpN [qaE rs,.str k]= .ok (qaE (qbM rs k)):=by
 have cm:qa2 1 [1] (dI (dV 0)) (gN 0) (dTB (dB gEq (dB gIx (dV 0) (dC (T.int 1))) (dV 1))) (dV 0) [.fz (qaE rs),.fz (.str k)]= .ok ((rs.filter fun r=>r.2.1==k).map qb3):=
  qcV (f:=qb3) rfl fun r hr=>⟨rfl,fun _=>rfl⟩
 unfold qpN qtF
 simp only[fnT,List.length_cons,List.length_nil,Nat.reduceAdd,qbk,dFz,List.map_cons,List.map_nil,Nat.reduceSub,List.replicate,List.append_nil,cm,qai,outT,if_true]
 rfl
theorem qcj {ns:List Int} (hn:ns.length≤63) {k many:Int} (h0:0≤k) (h1:k<1000000) (hm:0<many): ∃v,0≤v∧v<many∧qdY [.scr ns,.int k,.int many]= .ok (.int v):=
 ⟨qjs ns k many,qmG hm,qmH hm,by
  show (if (0≤k∧k<1000000)∧0<many∧ns.length≤63 then Rs.ok (T.int (qjs ns k many)) else Rs.no)=_
  rw[if_pos ⟨⟨h0,h1⟩,hm,hn⟩]⟩
theorem qs2 {ns:List Int} (hn:ns.length≤63) {k:Int} (h0:0≤k) (h1:k<900000): ∃x,qcX x∧qnD [.scr ns,.int k]= .ok (.str x):=by
 obtain ⟨v,a1,a2,e1⟩:=qcj hn (k:=k) (many:=16) h0 (by lia) (by decide)
 obtain ⟨i,b1,b2,e2⟩:=qcj hn (k:=k+1) (many:=26) (by lia) (by lia) (by decide)
 obtain ⟨u,c1,c2,e3⟩:=qcj hn (k:=k+2) (many:=2) (by lia) (by lia) (by decide)
 obtain ⟨j,d1,d2,e4⟩:=qcj hn (k:=k+3) (many:=26) (by lia) (by lia) (by decide)
 have g1:=qgG b1 b2
 have g2:=qgG d1 d2
 by_cases c:0<v
 ·have m0:0≤v % 3:=Int.emod_nonneg _ (by decide)
  have m1:v % 3<3:=Int.emod_lt_of_pos _ (by decide)
  have g: ∃x,qcX x∧gIx (.lst [.str "a",.str "b",.str "ab"]) (.int (v % 3))= .ok (.str x):=by
   generalize v % 3=m at m0 m1
   have:m=0∨m=1∨m=2:=by lia
   rcases this with rfl | rfl | rfl
   ·exact ⟨_,qle.1,rfl⟩
   ·exact ⟨_,qle.2.1,rfl⟩
   ·exact ⟨_,qle.2.2,rfl⟩
  obtain ⟨x,hx,ex⟩:=g
  refine ⟨x,hx,?_⟩
  have p3:(0:Int)<3:=by decide
  have l3:(3:Nat)≤1000:=by decide
  unfold qnD qrC
  simp only[fnT,List.length_cons,List.length_nil,Nat.reduceAdd,qaV,qbI,dC,List.map_cons,List.map_nil,Nat.reduceSub,List.replicate,List.cons_append,List.nil_append,List.set_cons_succ,List.set_cons_zero,qai,qbh,qaj,qac,dV,qat,dIf,dTB,dB,qbk,dFz,qb6,l3,if_true,qaC,List.getElem?_cons_zero,List.getElem?_cons_succ,e1,qbE,decide_eq_true c,qa1,p3,ex,outT]
 ·have g1':gIx (.str "abcdefghijklmnopqrstuvwxyz") (.int i)=_:=g1
  have g2':gIx (.str "abcdefghijklmnopqrstuvwxyz") (.int j)=_:=g2
  by_cases c':u=0
  ·refine ⟨_,qqT b1 b2,?_⟩
   subst c'
   unfold qnD qrC
   simp only[fnT,List.length_cons,List.length_nil,Nat.reduceAdd,qaV,qbI,dC,List.map_cons,List.map_nil,Nat.reduceSub,List.replicate,List.cons_append,List.nil_append,List.set_cons_succ,List.set_cons_zero,qai,qbh,qaj,qac,dV,qat,dIf,dTB,dB,qbk,dFz,qb6,Nat.reduceLeDiff,if_true,qaC,List.getElem?_cons_zero,List.getElem?_cons_succ,e1,qbE,decide_eq_false c,qa1,Bool.false_eq_true,if_false,qaO,e2,g1',e3,qby,beq_self_eq_true,outT]
  ·refine ⟨_,qqS b1 b2 d1 d2,?_⟩
   have n:(u==0)=false:=by simpa using c'
   have ga:qcb (.str ⟨#[97+i.toNat]⟩) (.str ⟨#[97+j.toNat]⟩)= .ok (.str ((⟨#[97+i.toNat]⟩:Str)++⟨#[97+j.toNat]⟩)):=rfl
   unfold qnD qrC
   simp only[fnT,List.length_cons,List.length_nil,Nat.reduceAdd,qaV,qbI,dC,List.map_cons,List.map_nil,Nat.reduceSub,List.replicate,List.cons_append,List.nil_append,List.set_cons_succ,List.set_cons_zero,qai,qbh,qaj,qac,dV,qat,dIf,dTB,dB,qbk,dFz,qb6,Nat.reduceLeDiff,if_true,qaC,List.getElem?_cons_zero,List.getElem?_cons_succ,e1,qbE,decide_eq_false c,qa1,Bool.false_eq_true,if_false,qaO,e2,g1',e3,qby,n,e4,g2',ga,outT]
theorem qng {ns:List Int} (hn:ns.length≤63) {k:Int} (h0:0≤k) (h1:k<900000): ∃v, -99≤v∧v≤99∧qow [.scr ns,.int k,.int 99]= .ok (.int v):=by
 obtain ⟨v,a1,a2,e1⟩:=qcj hn (k:=k) (many:=8) h0 (by lia) (by decide)
 obtain ⟨i,b1,b2,e2⟩:=qcj hn (k:=k+1) (many:=2*99+1) (by lia) (by lia) (by decide)
 obtain ⟨u,c1,c2,e3⟩:=qcj hn (k:=k+1) (many:=9) (by lia) (by lia) (by decide)
 by_cases c:v=0
 ·subst c
  refine ⟨i - 99,by lia,by lia,?_⟩
  have m:((-1000000:Int)≤2∧(2:Int)≤1000000)∨((-1000000:Int)≤99∧(99:Int)≤1000000):=.inl (by decide)
  unfold qow qs6
  simp only[fnT,List.length_cons,List.length_nil,Nat.reduceAdd,qaV,dIf,dTB,dB,qaj,qac,dV,List.map_cons,List.map_nil,Nat.reduceSub,List.replicate,List.append_nil,List.getElem?_cons_zero,List.getElem?_cons_succ,dC,qat,qai,e1,qby,beq_self_eq_true,qbk,qaO,qa0,m,if_true,e2,qa4,qaC,qbh,outT]
 ·have n:(v==0)=false:=by simpa using c
  refine ⟨u - 4,by lia,by lia,?_⟩
  unfold qow qs6
  simp only[fnT,List.length_cons,List.length_nil,Nat.reduceAdd,qaV,dIf,dTB,dB,qaj,qac,dV,List.map_cons,List.map_nil,Nat.reduceSub,List.replicate,List.append_nil,List.getElem?_cons_zero,List.getElem?_cons_succ,dC,qat,qai,e1,qby,n,qbk,qaO,qa0,qaC,Bool.false_eq_true,if_false,qbh,e3,qa4,outT,if_true]
theorem qn9 {ns:List Int} (hn:ns.length≤63) {k most:Int} (h0:0≤k) (h1:k<10000) (hm:0≤most) (hm2:most≤20): ∃rs:List Row,Log rs∧(rs.length:Int)≤most∧qpR [.scr ns,.int k,.int most]= .ok (qaE rs):=by
 obtain ⟨v,a1,a2,e1⟩:=qcj hn (k:=k) (many:=9) h0 (by lia) (by decide)
 obtain ⟨i,b1,b2,e2⟩:=qcj hn (k:=k+1) (many:=4) (by lia) (by lia) (by decide)
 obtain ⟨n,c1,c2,e3⟩:=qcj hn (k:=k+2) (many:=most+1) (by lia) (by lia) (by lia)
 have g: ∃far,0<far∧far≤14∧gIx (.lst [.int 1,.int 3,.int 6,.int 14]) (.int i)= .ok (.int far):=by
  have:i=0∨i=1∨i=2∨i=3:=by lia
  rcases this with rfl | rfl | rfl | rfl
  ·exact ⟨1,by decide,by decide,rfl⟩
  ·exact ⟨3,by decide,by decide,rfl⟩
  ·exact ⟨6,by decide,by decide,rfl⟩
  ·exact ⟨14,by decide,by decide,rfl⟩
 obtain ⟨far,f1,f2,e4⟩:=g
 have l4:(4:Nat)≤1000:=by decide
 have l0:(0:Nat)≤1000:=by decide
 have hr:qkB [.int n]= .ok ((List.range n.toNat).map fun j=>T.int (j:Nat)):=by
  show (if n≤1000000∧ -1000000≤n then _ else _)=_
  rw[if_pos ⟨by lia,by lia⟩]
 obtain ⟨ρ',e5,rs,m,s6,s7,er,ok,lg,ln,le,m0,m1⟩:=qez (dg:=gN 6) (f:=fun j:Nat=>T.int (j:Nat))
  (db:=qaV (qbI 7 (dB qcb (dB qcb (dV 1) (dC (T.int 10))) (dB qn7 (dC (T.int 8)) (dV 6)))) (qaV (qbI 4 (dB2 qrA (dC (T.int 99)) (dB qcb (dV 4) (qaj qdY (qac (dV 0) (qac (dV 7) (qac (dV 5) qat)))))))
   (qdw 3 (qcc (qac (dV 4) (qac (qaj qnD (qac (dV 0) (qac (dB qcb (dV 7) (dC (T.int 1))) qat))) (qac (qaj qow (qac (dV 0) (qac (dB qcb (dV 7) (dC (T.int 5))) (qac (dC (T.int 99)) qat)))) qat)))))))
  (fun dn ρ=> ∃(rs:List Row) (m:Int) (s6 s7:Sl),ρ=[.fz (.scr ns),.fz (.int k),.fz (.int most),.ow (rs.map qb3),.fz (.int m),.fz (.int far),s6,s7]∧(∀r∈rs,qhj r)∧qeR rs=true∧rs.length=dn.length∧(∀r∈rs,r.1≤m)∧0≤m∧m≤99)
  (List.range n.toNat) (List.range n.toNat) [] [.fz (.scr ns),.fz (.int k),.fz (.int most),.ow [],.fz (.int v),.fz (.int far),.no,.no] rfl
  (fun dn j qdB ρ hw ⟨rs,m,s6,s7,e,ok,lg,ln,le,m0,m1⟩=>by
   subst e
   have hl:dn.length+(qdB.length+1)=n.toNat:=by
    have:=congrArg List.length hw
    simpa using this
   have hj:j<n.toNat:=by
    have:j∈List.range n.toNat:=by rw[←hw]; simp
    exact List.mem_range.mp this
   obtain ⟨w,w1,w2,ew⟩:=qcj hn (k:=k+10+8*(j:Nat)) (many:=far) (by lia) (by lia) f1
   obtain ⟨x,hx,ex⟩:=qs2 hn (k:=k+10+8*(j:Nat)+1) (by lia) (by lia)
   obtain ⟨u,u1,u2,eu⟩:=qng hn (k:=k+10+8*(j:Nat)+5) (by lia) (by lia)
   have hm':((-1000000:Int)≤8∧(8:Int)≤1000000)∨((-1000000:Int)≤(j:Nat)∧((j:Nat):Int)≤1000000):=.inl (by decide)
   have mm: ∃m',(if m+w<99 then m+w else 99)=m'∧m≤m'∧m'≤99:=by
    by_cases c:m+w<99
    ·exact ⟨m+w,by rw[if_pos c],by lia,by lia⟩
    ·exact ⟨99,by rw[if_neg c],by lia,by lia⟩
   obtain ⟨m',em,le1,le2⟩:=mm
   have l3:(3:Nat)≤1000:=by decide
   have lb:rs.length≤999:=by lia
   refine ⟨_,[.fz (.scr ns),.fz (.int k),.fz (.int most),.ow ((rs++[(m',x,u)]).map qb3),.fz (.int m'),.fz (.int far),.fz (.int (j:Nat)),.fz (.int (k+10+8*(j:Nat)))],rfl,.inl ?_,rs++[(m',x,u)],m',_,_,rfl,?_,?_,by simp[ln],?_,by lia,le2⟩
   ·have er:(rs++[(m',x,u)]).map qb3=rs.map qb3++[.tup [.int m',.str x,.int u]]:=by rw[List.map_append]; rfl
    rw[er]
    simp only[qaV,qbI,dB,dV,List.set_cons_succ,List.set_cons_zero,List.getElem?_cons_succ,List.getElem?_cons_zero,dC,qai,qaO,qa0,hm',if_true,qbh,dB2,qaj,qac,qat,qdw,qdd,qcc,qaT,List.length_cons,List.length_nil,Nat.reduceAdd,Nat.reduceLeDiff,ew,qa8,em,ex,eu,l3,List.length_map,lb]
   ·intro r hr'
    rcases List.mem_append.mp hr' with hr' | hr'
    ·exact ok r hr'
    ·rw[List.mem_singleton.mp hr']
     exact ⟨⟨by show 0≤m'; lia,le2⟩,hx,u1,u2⟩
   ·refine qjD lg fun q hq=> ?_
    have:=le q hq
    show q.1≤m'
    lia
   ·intro r hr'
    rcases List.mem_append.mp hr' with hr' | hr'
    ·have:=le r hr'; lia
    ·rw[List.mem_singleton.mp hr']; exact Int.le_refl _) ⟨[],v,.no,.no,rfl,(fun _ h=>by cases h),rfl,rfl,(fun _ h=>by cases h),a1,by lia⟩
 subst er
 refine ⟨rs,⟨ok,lg⟩,by rw[ln]; simp; lia,?_⟩
 unfold qpR qtN
 simp only[fnT,List.length_cons,List.length_nil,Nat.reduceAdd,qaV,qbv,qb6,qat,qai,l0,if_true,List.map_cons,List.map_nil,Nat.reduceSub,List.replicate,List.cons_append,List.nil_append,List.set_cons_succ,List.set_cons_zero,qbh,qbI,qaj,qac,dV,dC,dB,dFz,l4,qoj,qdy,qbk,frz,List.getElem?_cons_zero,List.getElem?_cons_succ,e1,qaO,e2,e4,e3,hr,e5,outT]
 rfl
theorem qjM {rs:List Row} (h:rs.length<64):qpP [qaE rs]= .ok (qaE (srt (fun r=>r.1) rs)):=by
 unfold qpP qtM qaE
 have y:(rs.map qb3).all (qlt 0)=true:=by rw[List.all_map,List.all_eq_true]; intro _ _; rfl
 have e:qgj 0 (true,rs.map qb3)= .ok ((srt (fun r=>r.1) rs).map qb3):=by
  unfold qgj
  rw[if_pos ⟨⟨rfl,by rw[List.length_map]; exact h⟩,y⟩,qcy (k:=qfT 0) (f:=qb3) (k':=fun r:Row=>r.1) (fun b=>rfl)]
 simp only[fnT,qaV,qbh,qbk,qbI,qbv,qbg,dIf,qaC,dV,dC,dB,dB2,qaj,qac,qat,qcc,qb6,dFz,dQ,dQF,dQV,qas,qav,dCQ,qcv,dTB,qdl,dOr,qcm,qbu,qea,qbS,qcZ,qaI,dI,qao,qan,dIS,qdy,qec,dIZ,qdv,qb2,qbF,qcL,qbt,qbG,qa7,qdw,qdc,qdd,qaT,frz,qeb,ixQ,qdu,dOS,dON,gN,gT,gsC,gsN,qaO,qa4,qa0,qbf,qa1,qbU,qbO,qbE,qb0,qbZ,qaz,qa8,qby,qbY,qb1,qa9,qbe,qa5,qd8,PL.outT,dIn,qds,qbc,qbd,qai,qaL,qaK,List.map_cons,List.map_nil,List.length_cons,List.length_nil,List.length_map,List.replicate,List.cons_append,List.nil_append,List.append_nil,List.getElem?_cons_zero,List.getElem?_cons_succ,List.set_cons_zero,List.set_cons_succ,Nat.reduceSub,Nat.reduceAdd,Nat.reduceLeDiff,Nat.reduceEqDiff,if_true,if_false,Bool.false_eq_true,reduceIte,Bool.not_true,Bool.not_false,Bool.and_true,Bool.true_and,Bool.and_self,Bool.or_self,e]
theorem qnh {logs:List (List Row)} (hl: ∀l∈logs,Log l) (h:logs.flatten.length<64) {s:List T→T} (hs:s=T.lst∨s=T.tup):qov [s (logs.map qaE)]= .ok (qaE (srt (fun r=>r.1) logs.flatten)):=by
 have di:qfS (s (logs.map qaE))= .ok (logs.map qaE):=by rcases hs with rfl | rfl<;>rfl
 obtain ⟨ρ',e1,s',e2⟩:=qez (dg:=gN 2) (f:=qaE) (db:=qaV (qbg (qaj t_2 (qac (dV 2) qat))) (qdc 1 (dQV 2))) (fun dn ρ=> ∃s',ρ=[.fz (s (logs.map qaE)),.ow (dn.flatten.map qb3),s']) logs logs [] [.fz (s (logs.map qaE)),.ow [],.no] rfl
  (fun dn x qdB ρ hw ⟨s',e⟩=>by
   subst e
   have hx:x∈logs:=by rw[←hw]; simp
   have hb:dn.flatten.length+x.length≤1000:=by
    have:logs.flatten.length=dn.flatten.length+(x.length+qdB.flatten.length):=by rw[←hw]; simp only[List.flatten_append,List.flatten_cons,List.length_append]
    omega
   refine ⟨_,[.fz (s (logs.map qaE)),.ow ((dn++[x]).flatten.map qb3),.fz (qaE x)],rfl,.inl ?_,_,rfl⟩
   have e:qaE x= .lst (x.map qb3):=rfl
   have f:(dn++[x]).flatten.map qb3=dn.flatten.map qb3++x.map qb3:=by simp
   rw[f]
   simp only[fnT,qaV,qbh,qbk,qbI,qbv,qbg,dIf,qaC,dV,dC,dB,dB2,qaj,qac,qat,qcc,qb6,dFz,dQ,dQF,dQV,qas,qav,dCQ,qcv,dTB,qdl,dOr,qcm,qbu,qea,qbS,qcZ,qaI,dI,qao,qan,dIS,qdy,qec,dIZ,qdv,qb2,qbF,qcL,qbt,qbG,qa7,qdw,qdc,qdd,qaT,frz,qeb,ixQ,qdu,dOS,dON,gN,gT,gsC,gsN,qaO,qa4,qa0,qbf,qa1,qbU,qbO,qbE,qb0,qbZ,qaz,qa8,qby,qbY,qb1,qa9,qbe,qa5,qd8,PL.outT,dIn,qds,qbc,qbd,qai,qaL,qaK,List.map_cons,List.map_nil,List.length_cons,List.length_nil,List.length_map,List.replicate,List.cons_append,List.nil_append,List.append_nil,List.getElem?_cons_zero,List.getElem?_cons_succ,List.set_cons_zero,List.set_cons_succ,Nat.reduceSub,Nat.reduceAdd,Nat.reduceLeDiff,Nat.reduceEqDiff,if_true,if_false,Bool.false_eq_true,reduceIte,Bool.not_true,Bool.not_false,Bool.and_true,Bool.true_and,Bool.and_self,Bool.or_self,qcq (hl x hx)]
   simp only[fnT,qaV,qbh,qbk,qbI,qbv,qbg,dIf,qaC,dV,dC,dB,dB2,qaj,qac,qat,qcc,qb6,dFz,dQ,dQF,dQV,qas,qav,dCQ,qcv,dTB,qdl,dOr,qcm,qbu,qea,qbS,qcZ,qaI,dI,qao,qan,dIS,qdy,qec,dIZ,qdv,qb2,qbF,qcL,qbt,qbG,qa7,qdw,qdc,qdd,qaT,frz,qeb,ixQ,qdu,dOS,dON,gN,gT,gsC,gsN,qaO,qa4,qa0,qbf,qa1,qbU,qbO,qbE,qb0,qbZ,qaz,qa8,qby,qbY,qb1,qa9,qbe,qa5,qd8,PL.outT,dIn,qds,qbc,qbd,qai,qaL,qaK,List.map_cons,List.map_nil,List.length_cons,List.length_nil,List.length_map,List.replicate,List.cons_append,List.nil_append,List.append_nil,List.getElem?_cons_zero,List.getElem?_cons_succ,List.set_cons_zero,List.set_cons_succ,Nat.reduceSub,Nat.reduceAdd,Nat.reduceLeDiff,Nat.reduceEqDiff,if_true,if_false,Bool.false_eq_true,reduceIte,Bool.not_true,Bool.not_false,Bool.and_true,Bool.true_and,Bool.and_self,Bool.or_self,e,hb]) ⟨.no,rfl⟩
 subst e2
 unfold qov qtE
 have g:=qjM h
 have l0:(0:Nat)≤1000:=by decide
 simp only[fnT,qaV,qbh,qbk,qbI,qbv,qbg,dIf,qaC,dV,dC,dB,dB2,qaj,qac,qat,qcc,qb6,dFz,dQ,dQF,dQV,qas,qav,dCQ,qcv,dTB,qdl,dOr,qcm,qbu,qea,qbS,qcZ,qaI,dI,qao,qan,dIS,qdy,qec,dIZ,qdv,qb2,qbF,qcL,qbt,qbG,qa7,qdw,qdc,qdd,qaT,frz,qeb,ixQ,qdu,dOS,dON,gN,gT,gsC,gsN,qaO,qa4,qa0,qbf,qa1,qbU,qbO,qbE,qb0,qbZ,qaz,qa8,qby,qbY,qb1,qa9,qbe,qa5,qd8,PL.outT,dIn,qds,qbc,qbd,qai,qaL,qaK,List.map_cons,List.map_nil,List.length_cons,List.length_nil,List.length_map,List.replicate,List.cons_append,List.nil_append,List.append_nil,List.getElem?_cons_zero,List.getElem?_cons_succ,List.set_cons_zero,List.set_cons_succ,Nat.reduceSub,Nat.reduceAdd,Nat.reduceLeDiff,Nat.reduceEqDiff,if_true,if_false,Bool.false_eq_true,reduceIte,Bool.not_true,Bool.not_false,Bool.and_true,Bool.true_and,Bool.and_self,Bool.or_self,qoj,di,e1,l0]
 have g':qpP [T.lst (logs.flatten.map qb3)]=_:=g
 rw[g']
 rfl
theorem qcT {rs:List Row} (hl:Log rs) (h:rs.length<64):t_9 [qaE rs]= .ok (.lst ((qaN rs).map fun k=>.tup [.str k,qaE (qbM rs k)])):=by
 have cm:qa2 1 [0] (dI (qaj qpO (qac (dV 0) qat))) (gN 0) qdk (qcc (qac (dV 0) (qac (qaj qpN (qac (dV 1) (qac (dV 0) qat))) qat))) [.fz (qaE rs)]= .ok (((qaN rs).filter fun _=>true).map fun k=>.tup [.str k,qaE (qbM rs k)]):=by
  refine qcV (f:=T.str) ?_ fun k hk=>⟨rfl,fun _=> ?_⟩
  ·simp only[fnT,qaV,qbh,qbk,qbI,qbv,qbg,dIf,qaC,dV,dC,dB,dB2,qaj,qac,qat,qcc,qb6,dFz,dQ,dQF,dQV,qas,qav,dCQ,qcv,dTB,qdl,dOr,qcm,qbu,qea,qbS,qcZ,qaI,dI,qao,qan,dIS,qdy,qec,dIZ,qdv,qb2,qbF,qcL,qbt,qbG,qa7,qdw,qdc,qdd,qaT,frz,qeb,ixQ,qdu,dOS,dON,gN,gT,gsC,gsN,qaO,qa4,qa0,qbf,qa1,qbU,qbO,qbE,qb0,qbZ,qaz,qa8,qby,qbY,qb1,qa9,qbe,qa5,qd8,PL.outT,dIn,qds,qbc,qbd,qai,qaL,qaK,List.map_cons,List.map_nil,List.length_cons,List.length_nil,List.length_map,List.replicate,List.cons_append,List.nil_append,List.append_nil,List.getElem?_cons_zero,List.getElem?_cons_succ,List.set_cons_zero,List.set_cons_succ,Nat.reduceSub,Nat.reduceAdd,Nat.reduceLeDiff,Nat.reduceEqDiff,if_true,if_false,Bool.false_eq_true,reduceIte,Bool.not_true,Bool.not_false,Bool.and_true,Bool.true_and,Bool.and_self,Bool.or_self,qlB h]
  ·have l2:(2:Nat)≤1000:=by decide
   simp only[fnT,qaV,qbh,qbk,qbI,qbv,qbg,dIf,qaC,dV,dC,dB,dB2,qaj,qac,qat,qcc,qb6,dFz,dQ,dQF,dQV,qas,qav,dCQ,qcv,dTB,qdl,dOr,qcm,qbu,qea,qbS,qcZ,qaI,dI,qao,qan,dIS,qdy,qec,dIZ,qdv,qb2,qbF,qcL,qbt,qbG,qa7,qdw,qdc,qdd,qaT,frz,qeb,ixQ,qdu,dOS,dON,gN,gT,gsC,gsN,qaO,qa4,qa0,qbf,qa1,qbU,qbO,qbE,qb0,qbZ,qaz,qa8,qby,qbY,qb1,qa9,qbe,qa5,qd8,PL.outT,dIn,qds,qbc,qbd,qai,qaL,qaK,List.map_cons,List.map_nil,List.length_cons,List.length_nil,List.length_map,List.replicate,List.cons_append,List.nil_append,List.append_nil,List.getElem?_cons_zero,List.getElem?_cons_succ,List.set_cons_zero,List.set_cons_succ,Nat.reduceSub,Nat.reduceAdd,Nat.reduceLeDiff,Nat.reduceEqDiff,if_true,if_false,Bool.false_eq_true,reduceIte,Bool.not_true,Bool.not_false,Bool.and_true,Bool.true_and,Bool.and_self,Bool.or_self,qh4,qnf]
 unfold t_9 d_9
 simp only[fnT,qaV,qbh,qbk,qbI,qbv,qbg,dIf,qaC,dV,dC,dB,dB2,qaj,qac,qat,qcc,qb6,dFz,dQ,dQF,dQV,qas,qav,dCQ,qcv,dTB,qdl,dOr,qcm,qbu,qea,qbS,qcZ,qaI,dI,qao,qan,dIS,qdy,qec,dIZ,qdv,qb2,qbF,qcL,qbt,qbG,qa7,qdw,qdc,qdd,qaT,frz,qeb,ixQ,qdu,dOS,dON,gN,gT,gsC,gsN,qaO,qa4,qa0,qbf,qa1,qbU,qbO,qbE,qb0,qbZ,qaz,qa8,qby,qbY,qb1,qa9,qbe,qa5,qd8,PL.outT,dIn,qds,qbc,qbd,qai,qaL,qaK,List.map_cons,List.map_nil,List.length_cons,List.length_nil,List.length_map,List.replicate,List.cons_append,List.nil_append,List.append_nil,List.getElem?_cons_zero,List.getElem?_cons_succ,List.set_cons_zero,List.set_cons_succ,Nat.reduceSub,Nat.reduceAdd,Nat.reduceLeDiff,Nat.reduceEqDiff,if_true,if_false,Bool.false_eq_true,reduceIte,Bool.not_true,Bool.not_false,Bool.and_true,Bool.true_and,Bool.and_self,Bool.or_self,qcq hl,cm,qaU]
theorem qdh {rs:List Row} (hl:Log rs) {old new:Str} (ho:qcX old) (hn:qcX new):qnE [qaE rs,.str old,.str new]= .ok (qaE (qdf rs old new)):=by
 have cm:qa2 3 [1,2] (dI (dV 0)) (gT 3 (gsC (gN 0) (gsC (gN 1) (gsC (gN 2) gsN)))) qdk (qcc (qac (dV 0) (qac (qcZ (dTB (dB gEq (dV 1) (dV 3))) (dV 4) (dV 1)) (qac (dV 2) qat)))) [.fz (qaE rs),.fz (.str old),.fz (.str new)]= .ok ((rs.filter fun _=>true).map fun r=>qb3 (r.1,if r.2.1==old then new else r.2.1,r.2.2)):=by
  refine qok (a:=fun r:Row=>.int r.1) (b:=fun r=>.str r.2.1) (c:=fun r=>.int r.2.2) rfl fun r hr=>⟨rfl,fun _=> ?_⟩
  simp only[fnT,qaV,qbh,qbk,qbI,qbv,qbg,dIf,qaC,dV,dC,dB,dB2,qaj,qac,qat,qcc,qb6,dFz,dQ,dQF,dQV,qas,qav,dCQ,qcv,dTB,qdl,dOr,qcm,qbu,qea,qbS,qcZ,qaI,dI,qao,qan,dIS,qdy,qec,dIZ,qdv,qb2,qbF,qcL,qbt,qbG,qa7,qdw,qdc,qdd,qaT,frz,qeb,ixQ,qdu,dOS,dON,gN,gT,gsC,gsN,qaO,qa4,qa0,qbf,qa1,qbU,qbO,qbE,qb0,qbZ,qaz,qa8,qby,qbY,qb1,qa9,qbe,qa5,qd8,PL.outT,dIn,qds,qbc,qbd,qai,qaL,qaK,List.map_cons,List.map_nil,List.length_cons,List.length_nil,List.length_map,List.replicate,List.cons_append,List.nil_append,List.append_nil,List.getElem?_cons_zero,List.getElem?_cons_succ,List.set_cons_zero,List.set_cons_succ,Nat.reduceSub,Nat.reduceAdd,Nat.reduceLeDiff,Nat.reduceEqDiff,if_true,if_false,Bool.false_eq_true,reduceIte,Bool.not_true,Bool.not_false,Bool.and_true,Bool.true_and,Bool.and_self,Bool.or_self,qh4]
  by_cases c:(r.2.1==old)=true
  ·rw[c]; rfl
  ·rw[Bool.not_eq_true] at c; rw[c]; rfl
 unfold qnE qtO
 simp only[fnT,qaV,qbh,qbk,qbI,qbv,qbg,dIf,qaC,dV,dC,dB,dB2,qaj,qac,qat,qcc,qb6,dFz,dQ,dQF,dQV,qas,qav,dCQ,qcv,dTB,qdl,dOr,qcm,qbu,qea,qbS,qcZ,qaI,dI,qao,qan,dIS,qdy,qec,dIZ,qdv,qb2,qbF,qcL,qbt,qbG,qa7,qdw,qdc,qdd,qaT,frz,qeb,ixQ,qdu,dOS,dON,gN,gT,gsC,gsN,qaO,qa4,qa0,qbf,qa1,qbU,qbO,qbE,qb0,qbZ,qaz,qa8,qby,qbY,qb1,qa9,qbe,qa5,qd8,PL.outT,dIn,qds,qbc,qbd,qai,qaL,qaK,List.map_cons,List.map_nil,List.length_cons,List.length_nil,List.length_map,List.replicate,List.cons_append,List.nil_append,List.append_nil,List.getElem?_cons_zero,List.getElem?_cons_succ,List.set_cons_zero,List.set_cons_succ,Nat.reduceSub,Nat.reduceAdd,Nat.reduceLeDiff,Nat.reduceEqDiff,if_true,if_false,Bool.false_eq_true,reduceIte,Bool.not_true,Bool.not_false,Bool.and_true,Bool.true_and,Bool.and_self,Bool.or_self,qcq hl,qfY ho,qfY hn,cm,qaU]
 unfold qaE qdf
 rw[List.map_map]; rfl
def mvR (b:Int) (r:Row):Row:=(r.1+b,r.2.1,r.2.2)
def sh (b:Int) (rs:List Row):List Row:=rs.map (mvR b)
theorem qqf (b:Int) {rs:List Row} (h:Ris PL.mo rs):Ris PL.mo (sh b rs):=by
 unfold sh Ris at*
 rw[List.pairwise_map]
 exact h.imp fun z=>Int.add_le_add_right z b
theorem qnO {b:Int} {rs:List Row} (h:Log rs) (hb: ∀r∈rs,0≤r.1+b∧r.1+b≤99):Log (sh b rs):=by
 refine ⟨fun r hr=> ?_,(qci _).mpr (qqf b h.ris)⟩
 obtain ⟨q,hq,rfl⟩:=List.mem_map.mp hr
 exact ⟨hb q hq,(h.ok q hq).2⟩
theorem qgS {rs:List Row} {b:Int} (h:Log rs) (hs:Log (sh b rs)):qnC [qaE rs,.int b]= .ok (qaE (sh b rs)):=by
 have l3:(3:Nat)≤1000:=by decide
 have c1:qa2 3 [1] (dI (dV 0)) (gT 3 (gsC (gN 0) (gsC (gN 1) (gsC (gN 2) (gsN))))) (qdk) (qcc (qac (dB qcb (dV 0) (dV 3)) (qac (dV 1) (qac (dV 2) (qat))))) [.fz (qaE rs),.fz (.int b),.no]= .ok ((rs.filter fun _=>true).map fun r=>qb3 (mvR b r)):=by
  refine qok (a:=fun r:Row=>.int r.1) (b:=fun r=>.str r.2.1) (c:=fun r=>.int r.2.2) rfl fun r hr=>⟨rfl,fun _=> ?_⟩
  simp only[qcc,qac,dB,dV,qh4,List.map_cons,List.getElem?_cons_succ,List.getElem?_cons_zero,List.map_nil,qai,qaO,qat,List.length_cons,List.length_nil,Nat.reduceAdd,l3,if_true]
  rfl
 rw[qaU] at c1
 have e1:(rs.map fun r=>qb3 (mvR b r))=(sh b rs).map qb3:=by unfold sh; rw[List.map_map]; rfl
 rw[e1] at c1
 have c2:qa2 1 [] (dI (dV 2)) (gN 0) (qdk) (qaj qmn (qac (dV 0) (qat))) [.fz (qaE rs),.fz (.int b),.fz (qaE (sh b rs))]= .ok (((sh b rs).filter fun _=>true).map fun _=>T.bl true):=by
  refine qcV (f:=qb3) rfl fun r hr=>⟨rfl,fun _=> ?_⟩
  simp only[qaj,qac,dV,List.map_nil,List.getElem?_cons_zero,qat,qai,qiX (hs.ok r hr)]
 rw[qaU] at c2
 have aq:=qf7 (fun _:Row=>true) (sh b rs)
 have at':(sh b rs).all (fun _=>true)=true:=by rw[List.all_eq_true]; intro _ _; rfl
 rw[at'] at aq
 unfold qnC qtJ
 show (if (2:Nat)=2 then _ else _)=_
 rw[if_pos rfl]
 show (qaV _ _ [.fz (qaE rs),.fz (.int b),.no]>>=outT)=_
 rw[qbV (ρ':=[.fz (qaE rs),.fz (.int b),.no]) (by simp only[qbg,qaj,qac,dV,List.getElem?_cons_zero,qat,qai,qcq h]) (r:=.ok (.rt (qaE (sh b rs)))) ?_]
 ·rfl
 apply qbV (ρ':=[.fz (qaE rs),.fz (.int b),.no])
 ·simp only[dIf,qcm,dTB,qaj,qac,dV,List.getElem?_cons_succ,List.getElem?_cons_zero,qat,qai,qfv,Bool.not_true,qaC,Bool.false_eq_true,if_false]
 apply qbV (ρ':=[.fz (qaE rs),.fz (.int b),.fz (qaE (sh b rs))])
 ·simp only[qbI,dFz,c1,qai,List.set_cons_succ,List.set_cons_zero]
  rfl
 apply qbV (ρ':=[.fz (qaE rs),.fz (.int b),.fz (qaE (sh b rs))])
 ·simp only[dIf,qcm,dTB,dCQ,dQF,c2,aq,qai,Bool.not_true,Bool.false_eq_true,if_false,reduceIte,qaC]
 ·rfl
end K19
end
section
namespace K19
open PySem L2 RH PL
open SR (J Mof jo qcN hit qcO cpl tag un sw pr mat qfQ cp qpG qc1 qkH qho keyIs qrr qcd mo4 Ris srt qcy qcn ins)
theorem qpa {x:Str} (h:qcX x):K19J.keyS x=true:=by
 unfold K19J.keyS
 rw[Bool.and_eq_true,Bool.and_eq_true,decide_eq_true_eq,decide_eq_true_eq,List.all_eq_true]
 refine ⟨h.1,fun c hc=> ?_⟩
 have:=h.2 c hc
 unfold K19J.letterB
 rw[Bool.and_eq_true,decide_eq_true_eq,decide_eq_true_eq]
 exact this
theorem qoI {r:Row} (h:qhj r):qoJ r=true:=by
 unfold qoJ
 simp only[Bool.and_eq_true,decide_eq_true_eq]
 exact ⟨h.1,qpa h.2.1,h.2.2⟩
theorem qfV: ∀rs:List Row,(rs.map qb3).filterMap qcg=rs
 | []=>rfl
 | r::rs=>by
  rw[List.map_cons,List.filterMap_cons,qfV rs]
  rfl
theorem qiH {rs:List Row} (h:Log rs) (hl:rs.length≤12):qgE (rs.map qb3)=true:=by
 unfold qgE
 rw[Bool.and_eq_true,Bool.and_eq_true,decide_eq_true_eq,qfV,List.length_map]
 refine ⟨?_,h.log,hl⟩
 rw[List.all_map,List.all_eq_true]
 intro r hr
 exact qoI (h.ok r hr)
theorem qcr {a b:List Row} (la:Log a) (lb:Log b) (ha:a.length≤12) (hb:b.length≤12) {w:Int} (hw:0≤w):qfa [qaE a,qaE b,.int w]= .ok (.lst ((J w a b).map qaw)):=by
 show (if qgE (a.map qb3)=true∧qgE (b.map qb3)=true∧0≤w then Rs.ok (T.lst ((J w ((a.map qb3).filterMap qcg) ((b.map qb3).filterMap qcg)).map qaw)) else .no)=_
 rw[if_pos ⟨qiH la ha,qiH lb hb,hw⟩,qfV,qfV]
theorem qn6 {w:Int} {f g:Q4→Q4} {P:Q4→Prop} (h1: ∀a r,P a→P r→hit w (f r) (f a)=hit w r a) (h2: ∀a r,P a→P r→cpl (f a) (f r)=g (cpl a r)): ∀M:List Q4,(∀a∈M,P a)→jo w (M.map f)=(jo w M).map g:=by
 refine qcd (P:=fun M=>(∀a∈M,P a)→jo w (M.map f)=(jo w M).map g) (fun _=>rfl) fun M r ih hp=> ?_
 have hM: ∀a∈M,P a:=fun a ha=>hp a (List.mem_append_left _ ha)
 have hr:P r:=hp r (List.mem_append_right _ List.mem_cons_self)
 rw[List.map_append,List.map_cons,List.map_nil,qcN,qcN,ih hM,List.map_append]
 refine congrArg _ ?_
 rw[List.filter_map,List.map_map,List.map_map,show M.filter (hit w (f r)∘f)=M.filter (hit w r) from List.filter_congr fun a ha=>h1 a r (hM a ha) hr]
 refine List.map_congr_left fun a ha=> ?_
 exact h2 a r (hM a (List.mem_filter.mp ha).1) hr
theorem qlr {α:Type} {k:α→Int} (b:Int) (r:α): ∀l:List α,ins (fun x=>k x+b) r l=ins k r l
 | []=>rfl
 | x::l=>by
  unfold ins
  rw[qlr b r l]
  by_cases c:k x≤k r
  ·rw[if_pos c,if_pos (Int.add_le_add_right c b)]
  ·rw[if_neg c,if_neg (fun z=>c (Int.le_of_add_le_add_right z))]
theorem qoB {α:Type} {k:α→Int} (b:Int): ∀l:List α,srt (fun x=>k x+b) l=srt k l:=by
 refine qcd (P:=fun l=>srt (fun x=>k x+b) l=srt k l) rfl fun l r ih=> ?_
 rw[qcn,qcn,ih,qlr]
def mv4 (b:Int) (q:Q4):Q4:=(q.1+b,q.2.1,q.2.2.1,q.2.2.2)
theorem qrm (b:Int) (one other:List Row):Mof (sh b one) (sh b other)=(Mof one other).map (mv4 b):=by
 unfold SR.Mof sh
 rw[List.map_map,List.map_map]
 have e:one.map (tag 0∘mvR b)++other.map (tag 1∘mvR b)=(one.map (tag 0)++other.map (tag 1)).map (mv4 b):=by
  rw[List.map_append,List.map_map,List.map_map]
  rfl
 rw[e,←qcy (k:=mo4) (k':=fun q:Q4=>mo4 q+b) (f:=mv4 b) (fun _=>rfl),qoB]
theorem quT (w b:Int) (one other:List Row):J w (sh b one) (sh b other)=(J w one other).map (mv4 b):=by
 unfold SR.J
 rw[qrm]
 refine qn6 (P:=fun _=>True) (fun a r _ _=> ?_) (fun a r _ _=> ?_) _ (fun _ _=>trivial)
 ·rw[Bool.eq_iff_iff,qcO,qcO]
  show ((r.1+b) - (a.1+b)≤w∧a.2.2.2≠r.2.2.2∧a.2.1=r.2.1)↔_
  rw[show (r.1+b) - (a.1+b)=r.1 - a.1 by omega]
 ·unfold SR.cpl mv4
  split<;>rfl
def chS (old new k:Str):Str:=if k==old then new else k
def ch4 (old new:Str) (q:Q4):Q4:=(q.1,chS old new q.2.1,q.2.2.1,q.2.2.2)
theorem qrn (old new:Str) (one other:List Row):Mof (qdf one old new) (qdf other old new)=(Mof one other).map (ch4 old new):=by
 unfold SR.Mof qdf
 rw[List.map_map,List.map_map]
 have e:(one.map (tag 0∘fun r:Row=>(r.1,if r.2.1==old then new else r.2.1,r.2.2))++other.map (tag 1∘fun r:Row=>(r.1,if r.2.1==old then new else r.2.1,r.2.2)))=(one.map (tag 0)++other.map (tag 1)).map (ch4 old new):=by
  rw[List.map_append,List.map_map,List.map_map]
  rfl
 rw[e,←qcy (k:=mo4) (k':=mo4) (f:=ch4 old new) (fun _=>rfl)]
theorem qpA {old new a b:Str} (ha:a≠new) (hb:b≠new):chS old new a=chS old new b↔a=b:=by
 unfold chS
 constructor
 ·intro h
  by_cases c:a=old
  ·by_cases d:b=old
   ·rw[c,d]
   ·rw[if_pos (by simpa using c),if_neg (by simpa using d)] at h
    exact absurd h.symm hb
  ·by_cases d:b=old
   ·rw[if_neg (by simpa using c),if_pos (by simpa using d)] at h
    exact absurd h ha
   ·rw[if_neg (by simpa using c),if_neg (by simpa using d)] at h
    exact h
 ·rintro rfl; rfl
theorem qo3 {one other:List Row} {q:Q4} (h:q∈Mof one other):un q∈one∨un q∈other:=by
 rcases List.mem_append.mp ((SR.mem_srt _).mp h) with h | h
 ·obtain ⟨r,hr,rfl⟩:=List.mem_map.mp h
  exact .inl hr
 ·obtain ⟨r,hr,rfl⟩:=List.mem_map.mp h
  exact .inr hr
theorem quU (w:Int) {old new:Str} {one other:List Row} (h1: ∀r∈one,r.2.1≠new) (h2: ∀r∈other,r.2.1≠new):J w (qdf one old new) (qdf other old new)=(J w one other).map (ch4 old new):=by
 unfold SR.J
 rw[qrn]
 refine qn6 (P:=fun q=>q.2.1≠new) (fun a r ha hr=> ?_) (fun a r _ _=> ?_) _ (fun q hq=> ?_)
 ·rw[Bool.eq_iff_iff,qcO,qcO]
  show (r.1 - a.1≤w∧a.2.2.2≠r.2.2.2∧chS old new a.2.1=chS old new r.2.1)↔_
  rw[qpA ha hr]
 ·unfold SR.cpl ch4
  split<;>rfl
 ·rcases qo3 hq with h | h
  ·exact h1 _ h
  ·exact h2 _ h
theorem qkI (w:Int) (B:List Row): ∀A:List Row,(pr w A B).length≤A.length*B.length
 | []=>by rw[qkH]; simp
 | a::A=>by
  rw[qc1,List.length_append,List.length_map,List.length_cons,Nat.succ_mul]
  have:=qkI w B A
  have:=List.length_filter_le (mat w a) B
  omega
theorem qrp {w:Int} (hw:0≤w) {A B:List Row} (h1:Log A) (h2:Log B) {n m:Nat} (hA:A.length≤n) (hB:B.length≤m):(J w A B).length≤n*m:=by
 rw[(qpG hw h1.ris h2.ris).length_eq]
 exact Nat.le_trans (qkI w B A) (Nat.mul_le_mul hA hB)
theorem qjJ {α:Type} {p q:α→Bool} (h: ∀a,p a=true→q a=true) (l:List α):(l.filter p).Sublist (l.filter q):=by
 have e:l.filter p=(l.filter q).filter p:=by
  rw[List.filter_filter]
  refine List.filter_congr fun a _=> ?_
  cases c:p a with
  | false=>rfl
  | true=>rw[h a c]; rfl
 rw[e]
 exact List.filter_sublist
theorem qti {w w':Int} (h:w≤w') (A B:List Row):(J w A B).Sublist (J w' A B):=by
 unfold SR.J
 refine qcd (P:=fun M=>(jo w M).Sublist (jo w' M)) (List.Sublist.refl _) (fun M r ih=> ?_) (Mof A B)
 rw[qcN,qcN]
 refine List.Sublist.append ih (List.Sublist.map _ (qjJ (fun a ha=> ?_) M))
 rw[qcO] at ha⊢
 exact ⟨Int.le_trans ha.1 h,ha.2⟩
theorem qpH {w:Int} (hw:0≤w) {A B:List Row} (h1:Log A) (h2:Log B):List.Perm ((J w B A).map sw) (J w A B):=
 ((qpG hw h2.ris h1.ris).map sw).trans ((qho w A B).trans (qpG hw h1.ris h2.ris).symm)
theorem qro {w:Int} (hw:0≤w) {A:List Row} (h:Log A):J w A []=[]:=by
 have hn:Ris SR.mo ([]:List Row):=List.Pairwise.nil
 have p:=qpG hw h.ris hn
 have e:pr w A []=[]:=by
  have:=qkI w [] A
  rw[List.length_nil,Nat.mul_zero] at this
  exact List.length_eq_zero_iff.mp (Nat.le_zero.mp this)
 rw[e] at p
 exact p.eq_nil
theorem qkG (B:List Row): ∀A:List Row,(∀a∈A,a∈B)→A.length≤(pr 0 A B).length
 | [],_=>Nat.zero_le _
 | a::A,h=>by
  rw[qc1,List.length_append,List.length_map,List.length_cons]
  have ih:=qkG B A fun b hb=>h b (List.mem_cons_of_mem _ hb)
  have:0<(B.filter (mat 0 a)).length:=List.length_pos_of_mem (List.mem_filter.mpr ⟨h a List.mem_cons_self,qfQ.mpr ⟨rfl,by omega,by omega⟩⟩)
  omega
theorem qjZ {A:List Row} (h:Log A):A.length≤(J 0 A A).length:=by
 rw[(qpG (Int.le_refl 0) h.ris h.ris).length_eq]
 exact qkG A A fun _ z=>z
theorem qfd: ∀(ks:List Str) (L:List Q4),ks.Nodup→(∀q∈L,q.2.1∈ks)→List.Perm (ks.flatMap fun k=>L.filter fun q=>decide (q.2.1=k)) L
 | [],L,_,h=>by
  cases L with
  | nil=>exact List.Perm.refl _
  | cons r rs=>exact absurd (h r List.mem_cons_self) (by simp)
 | k::ks,L,nd,h=>by
  have nd':=List.nodup_cons.mp nd
  have ih:=qfd ks (L.filter fun q=> !decide (q.2.1=k)) nd'.2 (fun r hr=>by
   have hr':=List.mem_filter.mp hr
   rcases List.mem_cons.mp (h r hr'.1) with z | z
   ·have:=hr'.2; rw[z] at this; simp at this
   ·exact z)
  have e:(ks.flatMap fun k'=>(L.filter fun q=> !decide (q.2.1=k)).filter fun q=>decide (q.2.1=k'))=ks.flatMap fun k'=>L.filter fun q=>decide (q.2.1=k'):=by
   rw[List.flatMap_def,List.flatMap_def]
   refine congrArg List.flatten (List.map_congr_left fun k' hk'=> ?_)
   rw[List.filter_filter]
   refine List.filter_congr fun r _=> ?_
   by_cases c:r.2.1=k'
   ·have:r.2.1≠k:=fun z=>nd'.1 (by rw[←z,c]; exact hk')
    simp[c] at this⊢
    exact this
   ·simp[c]
  rw[List.flatMap_cons,←e]
  exact (List.Perm.append_left _ ih).trans (List.filter_append_perm (fun q:Q4=>decide (q.2.1=k)) L)
theorem qix (rs:List Row) (k:Str):qbM rs k=rs.filter (keyIs k):=by
 unfold qbM
 refine List.filter_congr fun r _=> ?_
 unfold SR.keyIs
 rw[Bool.eq_iff_iff,beq_iff_eq,decide_eq_true_eq]
theorem qrq {w:Int} (hw:0≤w) {one other:List Row} (h1:Log one) (h2:Log other): ∀q∈J w one other,q.2.1∈qaN one:=fun q hq=>by
 have hq:=(qpG hw h1.ris h2.ris).mem_iff.mp hq
 unfold SR.pr at hq
 obtain ⟨a,ha,hq⟩:=List.mem_flatMap.mp hq
 obtain ⟨b,_,rfl⟩:=List.mem_map.mp hq
 exact qda.mpr ⟨a,ha,rfl⟩
def qgc (w:Int) (one other:List Row) (ks:List Str):List Q4:=ks.flatMap fun k=>J w (qbM one k) (qbM other k)
theorem qiZ {w:Int} (hw:0≤w) {one other:List Row} (h1:Log one) (h2:Log other):List.Perm (qgc w one other (qaN one)) (J w one other):=by
 have e:qgc w one other (qaN one)=(qaN one).flatMap fun k=>(J w one other).filter fun q=>decide (q.2.1=k):=by
  unfold qgc
  rw[List.flatMap_def,List.flatMap_def]
  refine congrArg List.flatten (List.map_congr_left fun k _=> ?_)
  rw[qix,qix,qrr]
 rw[e]
 exact qfd _ _ (qd9 one) (qrq hw h1 h2)
theorem qm0 {a b:Q4} (h:qex (qaw a)=qex (qaw b)):a=b:=by
 have h':[Ky.i a.1,Ky.s a.2.1,Ky.i a.2.2.1,Ky.i a.2.2.2]=[Ky.i b.1,Ky.s b.2.1,Ky.i b.2.2.1,Ky.i b.2.2.2]:=h
 simp at h'
 exact Prod.ext h'.1 (Prod.ext h'.2.1 (Prod.ext h'.2.2.1 h'.2.2.2))
theorem qeF {as bs:List Q4} (p:List.Perm as bs):qdn (as.map qaw)=qdn (bs.map qaw):=by
 unfold qdn qke
 have e:SR.rank qdW ((as.map qaw).map qex)=SR.rank qdW ((bs.map qaw).map qex):=funext fun a=>by
  unfold SR.rank
  rw[((p.map qaw).map qex).countP_eq]
 rw[←e]
 refine SR.eq_of_ris (k:=fun t=>SR.rank qdW ((as.map qaw).map qex) (qex t)) (fun a ha b hb h=> ?_) (SR.ris_srt _) (SR.ris_srt _) ((SR.perm_srt _).trans ((p.map qaw).trans (SR.perm_srt _).symm))
 have ha':=(SR.mem_srt _).mp ha
 have hb':=(SR.mem_srt _).mp hb
 have:=SR.rank_inj qqC (List.mem_map.mpr ⟨a,ha',rfl⟩) (List.mem_map.mpr ⟨b,hb',rfl⟩) h
 obtain ⟨x,_,rfl⟩:=List.mem_map.mp ha'
 obtain ⟨y,_,rfl⟩:=List.mem_map.mp hb'
 rw[qm0 this]
theorem qe3 (rs:List Q4):qdz (rs.map qaw)=true:=by
 cases rs with
 | nil=>rfl
 | cons r rs=>
  show (qd6 (qco (qaw r))&&(rs.map qaw).all fun u=>qco u==qco (qaw r))=true
  rw[Bool.and_eq_true]
  refine ⟨rfl,?_⟩
  rw[List.all_map,List.all_eq_true]
  intro _ _; rfl
theorem qcM {rs:List Q4} (h:rs.length<64):qd0 (true,rs.map qaw)= .ok (qdn (rs.map qaw)):=by
 unfold qd0
 rw[if_pos ⟨⟨rfl,by rw[List.length_map]; exact h⟩,qe3 rs⟩]
theorem qfM (rs:List Q4):(rs.map qaw).all (okT 7)=true:=by rw[List.all_map,List.all_eq_true]; intro _ _; rfl
theorem qmM (rs:List Q4):okT 8 (.lst (rs.map qaw))=true:=qfM rs
theorem qgw (rs:List Q4):okT 8 (.lst (qdn (rs.map qaw)))=true:=by
 show (qdn (rs.map qaw)).all (okT 7)=true
 rw[List.all_eq_true]
 intro t ht
 exact List.all_eq_true.mp (qfM rs) t ((SR.mem_srt _).mp ht)
end K19
end
section
namespace K19
open PySem L2 RH PL
open SR (J)
def qbl (rs:List Row):List (Key×T):=(qaN rs).map fun k=>((.inr k:Key),qaE (qbM rs k))
theorem qmE {kvs:List (Key×T)} {k:Key} {t:T} (h: ∀p∈kvs,p.1≠k):qoK kvs k t=kvs++[(k,t)]:=by
 unfold qoK
 rw[if_neg]
 rw[List.any_eq_true]
 rintro ⟨p,hp,e⟩
 exact h p hp (of_decide_eq_true e)
theorem qoi: ∀(ps acc:List (Key×T)),((acc++ps).map (·.1)).Nodup→ps.foldl (fun d p=>qoK d p.1 p.2) acc=acc++ps
 | [],acc,_=>by simp
 | p::ps,acc,h=>by
  have hn: ∀q∈acc,q.1≠p.1:=fun q hq e=>by
   rw[List.map_append,List.nodup_append] at h
   exact h.2.2 q.1 (List.mem_map.mpr ⟨q,hq,rfl⟩) p.1 (by simp) e
  rw[List.foldl_cons,qmE hn,qoi ps (acc++[(p.1,p.2)]) (by simpa using h)]
  simp
theorem qk7 (rs:List Row):((qbl rs).map (·.1)).Nodup:=by
 unfold qbl
 rw[List.map_map]
 exact List.pairwise_map.mpr ((qd9 rs).imp fun h z=>h (by simpa using z))
theorem qmX (rs:List Row):(qaN rs).length≤rs.length:=by
 have h:=(qkv rs).length_eq
 have: ∀ks:List Str,(∀k∈ks,0<(qbM rs k).length)→ks.length≤(ks.map (qbM rs)).flatten.length:=by
  intro ks
  induction ks with
  | nil=>intro _; exact Nat.zero_le _
  | cons k ks ih=>
   intro hk
   have a:=hk k List.mem_cons_self
   have b:=ih fun q hq=>hk q (List.mem_cons_of_mem _ hq)
   rw[List.map_cons,List.flatten_cons,List.length_append,List.length_cons]
   omega
 have a:=this (qaN rs) fun k hk=>by
  obtain ⟨r,hr,e⟩:=qda.mp hk
  exact List.length_pos_of_mem (List.mem_filter.mpr ⟨hr,by rw[e]; simp⟩)
 omega
theorem qoa {rs:List Row} (h:rs.length<64):qe9 (true,(qaN rs).map fun k=>T.tup [.str k,qaE (qbM rs k)])= .ok (qbl rs):=by
 unfold qe9
 have hl:=qmX rs
 have e1:((qaN rs).map fun k=>T.tup [.str k,qaE (qbM rs k)]).all (fun t=>(qdF t).isSome)=true:=by
  rw[List.all_map,List.all_eq_true]; intro _ _; rfl
 have e2:((qaN rs).map fun k=>T.tup [.str k,qaE (qbM rs k)]).filterMap qdF=qbl rs:=by
  rw[List.filterMap_map]
  unfold qbl
  rw[←List.filterMap_eq_map]
  rfl
 rw[if_pos ⟨⟨rfl,by rw[List.length_map]; omega⟩,e1⟩,e2]
 unfold dOf
 rw[qoi _ [] (by simpa using qk7 rs)]
 rfl
theorem qgP {F:Str→T} (k:Str): ∀ks:List Str,(ks.map fun k=>((.inr k:Key),F k)).find? (fun kv=>decide (kv.1= .inr k))=if k∈ks then some (.inr k,F k) else none
 | []=>rfl
 | j::ks=>by
  rw[List.map_cons,List.find?_cons]
  by_cases c:j=k
  ·subst c
   simp
  ·have:decide ((Sum.inr j:Key)= .inr k)=false:=decide_eq_false (fun z=>c (by simpa using z))
   rw[this]
   have e:=qgP (F:=F) k ks
   rw[e]
   by_cases d:k∈ks
   ·rw[if_pos d,if_pos (List.mem_cons_of_mem _ d)]
   ·rw[if_neg d,if_neg (fun z=>by rcases List.mem_cons.mp z with z | z; exact c z.symm; exact d z)]
theorem qj3 (rs:List Row) (k:Str):qme (qbl rs) (.inr k)=if k∈qaN rs then some (qaE (qbM rs k)) else none:=by
 unfold qme qbl
 rw[qgP]
 split<;>rfl
theorem qk4 {rs:List Row} {k:Str} (h:k∈qaN rs):qo5 (qbl rs) (.str k)= .ok (qaE (qbM rs k)):=by
 show (match qme (qbl rs) (.inr k) with | some t=>Rs.ok t | none=>.no)=_
 rw[qj3,if_pos h]
theorem qjA (rs:List Row) (k:Str):qk6 (qbl rs) (.str k) (.lst [])= .ok (qaE (qbM rs k)):=by
 show Rs.ok ((qme (qbl rs) (.inr k)).getD (.lst []))=_
 rw[qj3]
 by_cases h:k∈qaN rs
 ·rw[if_pos h]; rfl
 ·rw[if_neg h]
  have:qbM rs k=[]:=by
   unfold qbM
   rw[List.filter_eq_nil_iff]
   intro r hr z
   exact h (qda.mpr ⟨r,hr,by simpa using z⟩)
  rw[this]; rfl
theorem qhH (rs:List Row):qh0 (.dcf (qbl rs))= .ok ((qaN rs).map T.str):=by
 show Rs.ok ((qbl rs).map fun p=>qhK p.1)=_
 unfold qbl
 rw[List.map_map]
 rfl
theorem qgy {rs:List Row} (h:Log rs) (k:Str):Log (qbM rs k):=h.filter _
theorem qgz (rs:List Row) (k:Str):(qbM rs k).length≤rs.length:=List.length_filter_le _ _
theorem qfZ (w:Int) (one other:List Row) (a b:List Str):qgc w one other (a++b)=qgc w one other a++qgc w one other b:=by
 unfold qgc
 rw[List.flatMap_append]
theorem qpq {w:Int} (hw:0≤w) {one other:List Row} (h1:Log one) (h2:Log other) (n1:one.length≤6) (n2:other.length≤6):(qgc w one other (qaN one)).length≤36:=by
 rw[(qiZ hw h1 h2).length_eq]
 exact qrp hw h1 h2 n1 n2
theorem qq3 {ns:List Int} {one other:List Row} {w:Int} (hw:0≤w) (h1:Log one) (h2:Log other) (n1:one.length≤6) (n2:other.length≤6) (s4 s5:Sl): ∃s9:Sl,
  qoj (qrD (dV 6)) (gN 9) (qdc 8 (dQ (qaj qfa (qac (qlS (dV 6) (dV 9)) (qac (qgY (dV 7) (dV 9) (dFz (qb6 (qat)))) (qac (dV 3) (qat)))))))
   [.fz (.scr ns),.fz (qaE one),.fz (qaE other),.fz (.int w),s4,s5,.fz (.dcf (qbl one)),.fz (.dcf (qbl other)),.ow [],.no,.no,.no,.no,.no,.no,.no,.no]=
  .ok (.nx [.fz (.scr ns),.fz (qaE one),.fz (qaE other),.fz (.int w),s4,s5,.fz (.dcf (qbl one)),.fz (.dcf (qbl other)),.ow ((qgc w one other (qaN one)).map qaw),s9,.no,.no,.no,.no,.no,.no,.no]):=by
 obtain ⟨ρ',e1,s9,e2⟩:=qez (dg:=gN 9) (f:=T.str) (db:=qdc 8 (dQ (qaj qfa (qac (qlS (dV 6) (dV 9)) (qac (qgY (dV 7) (dV 9) (dFz (qb6 (qat)))) (qac (dV 3) (qat)))))))
  (fun dn ρ=> ∃s9:Sl,ρ=[.fz (.scr ns),.fz (qaE one),.fz (qaE other),.fz (.int w),s4,s5,.fz (.dcf (qbl one)),.fz (.dcf (qbl other)),.ow ((qgc w one other dn).map qaw),s9,.no,.no,.no,.no,.no,.no,.no]) (qaN one) (qaN one) []
  [.fz (.scr ns),.fz (qaE one),.fz (qaE other),.fz (.int w),s4,s5,.fz (.dcf (qbl one)),.fz (.dcf (qbl other)),.ow [],.no,.no,.no,.no,.no,.no,.no,.no] rfl
  (fun dn k qdB ρ hk ⟨s9,e⟩=>by
   subst e
   have hmem:k∈qaN one:=by rw[←hk]; simp
   have ej:=qcr (qgy h1 k) (qgy h2 k) (Nat.le_trans (qgz one k) (by omega)) (Nat.le_trans (qgz other k) (by omega)) hw
   have hl:=qpq hw h1 h2 n1 n2
   rw[←hk,show dn++k::qdB=(dn++[k])++qdB by simp,qfZ,qfZ,List.length_append,List.length_append] at hl
   have e1:qgc w one other [k]=J w (qbM one k) (qbM other k):=by unfold qgc; simp
   rw[e1] at hl
   have hb:(qgc w one other dn).length+(J w (qbM one k) (qbM other k)).length≤1000:=by omega
   have l0:(0:Nat)≤1000:=by decide
   refine ⟨_,[.fz (.scr ns),.fz (qaE one),.fz (qaE other),.fz (.int w),s4,s5,.fz (.dcf (qbl one)),.fz (.dcf (qbl other)),.ow ((qgc w one other (dn++[k])).map qaw),.fz (.str k),.no,.no,.no,.no,.no,.no,.no],rfl,.inl ?_,_,rfl⟩
   rw[qfZ,e1,List.map_append]
   simp only[fnT,qaV,qbh,qbk,qbI,qbv,qbg,dIf,qaC,dV,dC,dB,dB2,qaj,qac,qat,qcc,qb6,dFz,dQ,dQF,dQV,qas,qav,dCQ,qcv,dTB,qdl,dOr,qcm,qbu,qea,qbS,qcZ,qaI,dI,qao,qan,dIS,qdy,qec,dIZ,qdv,qb2,qbF,qcL,qbt,qbG,qa7,qdw,qdc,qdd,qaT,frz,qeb,ixQ,qdu,dOS,dON,gN,gT,gsC,gsN,qaO,qa4,qa0,qbf,qa1,qbU,qbO,qbE,qb0,qbZ,qaz,qa8,qby,qbY,qb1,qa9,qbe,qa5,qd8,PL.outT,dIn,qds,qbc,qbd,qai,qaL,qaK,List.map_cons,List.map_nil,List.length_cons,List.length_nil,List.length_map,List.replicate,List.cons_append,List.nil_append,List.append_nil,List.getElem?_cons_zero,List.getElem?_cons_succ,List.set_cons_zero,List.set_cons_succ,Nat.reduceSub,Nat.reduceAdd,Nat.reduceLeDiff,Nat.reduceEqDiff,if_true,if_false,Bool.false_eq_true,reduceIte,Bool.not_true,Bool.not_false,Bool.and_true,Bool.true_and,Bool.and_self,Bool.or_self,qlS,qgY,qhZ,qk4 hmem,qjA,l0,ej,hb]) ⟨.no,rfl⟩
 subst e2
 refine ⟨s9,?_⟩
 simp only[fnT,qaV,qbh,qbk,qbI,qbv,qbg,dIf,qaC,dV,dC,dB,dB2,qaj,qac,qat,qcc,qb6,dFz,dQ,dQF,dQV,qas,qav,dCQ,qcv,dTB,qdl,dOr,qcm,qbu,qea,qbS,qcZ,qaI,dI,qao,qan,dIS,qdy,qec,dIZ,qdv,qb2,qbF,qcL,qbt,qbG,qa7,qdw,qdc,qdd,qaT,frz,qeb,ixQ,qdu,dOS,dON,gN,gT,gsC,gsN,qaO,qa4,qa0,qbf,qa1,qbU,qbO,qbE,qb0,qbZ,qaz,qa8,qby,qbY,qb1,qa9,qbe,qa5,qd8,PL.outT,dIn,qds,qbc,qbd,qai,qaL,qaK,List.map_cons,List.map_nil,List.length_cons,List.length_nil,List.length_map,List.replicate,List.cons_append,List.nil_append,List.append_nil,List.getElem?_cons_zero,List.getElem?_cons_succ,List.set_cons_zero,List.set_cons_succ,Nat.reduceSub,Nat.reduceAdd,Nat.reduceLeDiff,Nat.reduceEqDiff,if_true,if_false,Bool.false_eq_true,reduceIte,Bool.not_true,Bool.not_false,Bool.and_true,Bool.true_and,Bool.and_self,Bool.or_self,qoj,qrD,qhH]
 exact e1
end K19
end
section
namespace K19
open PySem L2 RH PL
open SR (J sw)
abbrev R (a b c d e f g h i j k l m n o p q:Sl):Ro:=[a,b,c,d,e,f,g,h,i,j,k,l,m,n,o,p,q]
theorem qk0 (ns:List Int): ∀a:Int,a≤ns.foldl (fun a b=>if a<b then b else a) a∧(∀x∈ns,x≤ns.foldl (fun a b=>if a<b then b else a) a)∧∀B:Int,a≤B→(∀x∈ns,x≤B)→ns.foldl (fun a b=>if a<b then b else a) a≤B:=by
 induction ns with
 | nil=>exact fun a=>⟨Int.le_refl _,(fun x hx=>by cases hx),fun B h _=>h⟩
 | cons n ns ih=>
  intro a
  obtain ⟨h1,h2,h3⟩:=ih (if a<n then n else a)
  rw[List.foldl_cons]
  refine ⟨Int.le_trans (by split<;>omega) h1,fun x hx=> ?_,fun B ha hb=>h3 B (by have:=hb n List.mem_cons_self; split<;>omega) fun x hx=>hb x (List.mem_cons_of_mem _ hx)⟩
  rcases List.mem_cons.mp hx with rfl | hx
  ·exact Int.le_trans (by split<;>omega) h1
  ·exact h2 x hx
theorem qmP {ns:List Int} (hn:ns≠[]):(∀x∈ns,x≤qk1 ns)∧∀B:Int,(∀x∈ns,x≤B)→qk1 ns≤B:=by
 cases ns with
 | nil=>exact absurd rfl hn
 | cons n ns=>
  obtain ⟨h1,h2,h3⟩:=qk0 ns n
  refine ⟨fun x hx=> ?_,fun B hb=>h3 B (hb n List.mem_cons_self) fun x hx=>hb x (List.mem_cons_of_mem _ hx)⟩
  rcases List.mem_cons.mp hx with rfl | hx
  ·exact h1
  ·exact h2 x hx
theorem qjx {ns:List Int} (hn:ns≠[]):qhC (true,ns.map T.int)= .ok (.int (qk1 ns)):=by
 have y:(ns.map T.int).all qlm=true:=by rw[List.all_map,List.all_eq_true]; intro _ _; rfl
 have z:(ns.map T.int).map qgL=ns:=by rw[List.map_map]; simp[Function.comp_def,qgL]
 unfold qhC
 rw[if_pos ⟨⟨rfl,by simpa using hn⟩,y⟩,z]
theorem qi8 {as bs:List Row} (h:as.length+bs.length≤1000):qcb (qaE as) (qaE bs)= .ok (qaE (as++bs)):=by
 show (if (as.map qb3).length+(bs.map qb3).length≤1000 then Rs.ok (T.lst (as.map qb3++bs.map qb3)) else .no)=_
 rw[List.length_map,List.length_map,if_pos h,←List.map_append]
 rfl
abbrev qaR (qs:List Q4):T:=.lst (qs.map qaw)
theorem qiB (qs:List Q4):gNe (qaR qs) (qaR qs)= .ok (.bl false):=qhz (qmM qs)
section
variable {ns:List Int} {one other:List Row} {w:Int} {a b c d e f g h i j k l m n o p q s1 s2:Sl}
theorem st6 {D L:List Q4} (hp:List.Perm D L) (hl:L.length<64):dIf (dTB (dB gNe (dFz (qcv qd0 (dQV 8))) (dFz (qcv qd0 (dQV 5))))) (qbk (dC (.bl false))) (qaC) (R a b c d e (.fz (qaR L)) g h (.ow (D.map qaw)) j k l m n o p q)=
  .ok (.nx (R a b c d e (.fz (qaR L)) g h (.ow (D.map qaw)) j k l m n o p q)):=by
 have h1:=qcM hl
 have h2:=qcM (rs:=D) (by rw[hp.length_eq]; exact hl)
 rw[qeF hp] at h2
 have h3:gNe (.lst (qdn (L.map qaw))) (.lst (qdn (L.map qaw)))= .ok (.bl false):=qhz (qgw L)
 simp only[fnT,qaV,qbh,qbk,qbI,qbv,qbg,dIf,qaC,dV,dC,dB,dB2,qaj,qac,qat,qcc,qb6,dFz,dQ,dQF,dQV,qas,qav,dCQ,qcv,dTB,qdl,dOr,qcm,qbu,qea,qbS,qcZ,qaI,dI,qao,qan,dIS,qdy,qec,dIZ,qdv,qb2,qbF,qcL,qbt,qbG,qa7,qdw,qdc,qdd,qaT,frz,qeb,ixQ,qdu,dOS,dON,gN,gT,gsC,gsN,qaO,qa4,qa0,qbf,qa1,qbU,qbO,qbE,qb0,qbZ,qaz,qa8,qby,qbY,qb1,qa9,qbe,qa5,qd8,PL.outT,dIn,qds,qbc,qbd,qai,qaL,qaK,List.map_cons,List.map_nil,List.length_cons,List.length_nil,List.length_map,List.replicate,List.cons_append,List.nil_append,List.append_nil,List.getElem?_cons_zero,List.getElem?_cons_succ,List.set_cons_zero,List.set_cons_succ,Nat.reduceSub,Nat.reduceAdd,Nat.reduceLeDiff,Nat.reduceEqDiff,if_true,if_false,Bool.false_eq_true,reduceIte,Bool.not_true,Bool.not_false,Bool.and_true,Bool.true_and,Bool.and_self,Bool.or_self,R,h1,h2,h3]
theorem st7 (hn:ns.length≤63) (h1:Log one) (h2:Log other) (n1:one.length≤6) (n2:other.length≤6): ∃by_:Int,0≤by_∧(∀r∈one,r.1+by_≤99)∧(∀r∈other,r.1+by_≤99)∧
  qbI 10 (qaj qdY (qac (dV 0) (qac (dC (.int 402)) (qac (dB gSub (dC (.int 100)) (dCQ qhC (dQF (qrE (dQF (qa2 1 [] (dI (dB qcb (dV 1) (dV 2))) (gN 0) (qdk) (dB gIx (dV 0) (dC (.int 0))))) (dQF (qb6 (qac (dC (.int 0)) (qat)))))))) (qat))))) (R (.fz (.scr ns)) (.fz (qaE one)) (.fz (qaE other)) d e f g h i j k l m n o p q)=
  .ok (.nx (R (.fz (.scr ns)) (.fz (qaE one)) (.fz (qaE other)) d e f g h i j (.fz (.int by_)) l m n o p q)):=by
 have hm:((one++other).map (fun r=>r.1)++[(0:Int)])≠[]:=by simp
 obtain ⟨m1,m2⟩:=qmP hm
 have m99:qk1 ((one++other).map (fun r=>r.1)++[(0:Int)])≤99:=m2 99 fun x hx=>by
  rcases List.mem_append.mp hx with hx | hx
  ·obtain ⟨r,hr,rfl⟩:=List.mem_map.mp hx
   rcases List.mem_append.mp hr with hr | hr
   ·exact (h1.ok r hr).1.2
   ·exact (h2.ok r hr).1.2
  ·rw[List.mem_singleton.mp hx]; decide
 have mr: ∀r∈one++other,r.1≤qk1 ((one++other).map (fun r=>r.1)++[(0:Int)]):=fun r hr=>m1 r.1 (List.mem_append_left _ (List.mem_map.mpr ⟨r,hr,rfl⟩))
 have mq:=qjx hm
 generalize qk1 ((one++other).map (fun r=>r.1)++[(0:Int)])=mx at m99 mr mq
 obtain ⟨v,v0,v1,ev⟩:=qcj hn (k:=402) (many:=100 - mx) (by decide) (by decide) (by omega)
 refine ⟨v,v0,fun r hr=> ?_,fun r hr=> ?_,?_⟩
 ·have:=mr r (List.mem_append_left _ hr); omega
 ·have:=mr r (List.mem_append_right _ hr); omega
 have ad:=qi8 (as:=one) (bs:=other) (by omega)
 have c1:qa2 1 [] (dI (dB qcb (dV 1) (dV 2))) (gN 0) (qdk) (dB gIx (dV 0) (dC (.int 0))) (R (.fz (.scr ns)) (.fz (qaE one)) (.fz (qaE other)) d e f g h i j k l m n o p q)= .ok (((one++other).filter fun _=>true).map fun r=>T.int r.1):=by
  refine qcV (f:=qb3) ?_ fun r hr=>⟨rfl,fun _=>rfl⟩
  simp only[fnT,qaV,qbh,qbk,qbI,qbv,qbg,dIf,qaC,dV,dC,dB,dB2,qaj,qac,qat,qcc,qb6,dFz,dQ,dQF,dQV,qas,qav,dCQ,qcv,dTB,qdl,dOr,qcm,qbu,qea,qbS,qcZ,qaI,dI,qao,qan,dIS,qdy,qec,dIZ,qdv,qb2,qbF,qcL,qbt,qbG,qa7,qdw,qdc,qdd,qaT,frz,qeb,ixQ,qdu,dOS,dON,gN,gT,gsC,gsN,qaO,qa4,qa0,qbf,qa1,qbU,qbO,qbE,qb0,qbZ,qaz,qa8,qby,qbY,qb1,qa9,qbe,qa5,qd8,PL.outT,dIn,qds,qbc,qbd,qai,qaL,qaK,List.map_cons,List.map_nil,List.length_cons,List.length_nil,List.length_map,List.replicate,List.cons_append,List.nil_append,List.append_nil,List.getElem?_cons_zero,List.getElem?_cons_succ,List.set_cons_zero,List.set_cons_succ,Nat.reduceSub,Nat.reduceAdd,Nat.reduceLeDiff,Nat.reduceEqDiff,if_true,if_false,Bool.false_eq_true,reduceIte,Bool.not_true,Bool.not_false,Bool.and_true,Bool.true_and,Bool.and_self,Bool.or_self,R,ad]
  rfl
 rw[qaU,show ((one++other).map fun r=>T.int r.1)=((one++other).map fun r=>r.1).map T.int by rw[List.map_map]; rfl] at c1
 rw[List.map_append,List.map_cons,List.map_nil] at mq
 have l1:(1:Nat)≤1000:=by decide
 have l2:(one++other).length≤999:=by rw[List.length_append]; omega
 simp only[R] at c1
 simp only[fnT,qaV,qbh,qbk,qbI,qbv,qbg,dIf,qaC,dV,dC,dB,dB2,qaj,qac,qat,qcc,qb6,dFz,dQ,dQF,dQV,qas,qav,dCQ,qcv,dTB,qdl,dOr,qcm,qbu,qea,qbS,qcZ,qaI,dI,qao,qan,dIS,qdy,qec,dIZ,qdv,qb2,qbF,qcL,qbt,qbG,qa7,qdw,qdc,qdd,qaT,frz,qeb,ixQ,qdu,dOS,dON,gN,gT,gsC,gsN,qaO,qa4,qa0,qbf,qa1,qbU,qbO,qbE,qb0,qbZ,qaz,qa8,qby,qbY,qb1,qa9,qbe,qa5,qd8,PL.outT,dIn,qds,qbc,qbd,qai,qaL,qaK,List.map_cons,List.map_nil,List.length_cons,List.length_nil,List.length_map,List.replicate,List.cons_append,List.nil_append,List.append_nil,List.getElem?_cons_zero,List.getElem?_cons_succ,List.set_cons_zero,List.set_cons_succ,Nat.reduceSub,Nat.reduceAdd,Nat.reduceLeDiff,Nat.reduceEqDiff,if_true,if_false,Bool.false_eq_true,reduceIte,Bool.not_true,Bool.not_false,Bool.and_true,Bool.true_and,Bool.and_self,Bool.or_self,R,qrE,c1,l1,l2,true_and,and_self,mq,ev]
theorem st8 {L:List Q4} {by_:Int} (hw:0≤w) (h1:Log one) (h2:Log other) (n1:one.length≤6) (n2:other.length≤6) (b0:0≤by_) (b1: ∀r∈one,r.1+by_≤99) (b2: ∀r∈other,r.1+by_≤99) (hL:J w one other=L):
  dIf (dTB (dB gNe (qaj qfa (qac (qaj qnC (qac (dV 1) (qac (dV 10) (qat)))) (qac (qaj qnC (qac (dV 2) (qac (dV 10) (qat)))) (qac (dV 3) (qat))))) (dFz (qa2 1 [10] (dI (dV 5)) (gN 0) (qdk) (dB qcb (qcc (qac (dB qcb (dB gIx (dV 0) (dC (.int 0))) (dV 1)) (qat))) (qjN (dV 0) (dOS (dC (.int 1))) (dON))))))) (qbk (dC (.bl false))) (qaC)
   (R a (.fz (qaE one)) (.fz (qaE other)) (.fz (.int w)) e (.fz (qaR L)) g h i j (.fz (.int by_)) l m n o p q)= .ok (.nx (R a (.fz (qaE one)) (.fz (qaE other)) (.fz (.int w)) e (.fz (qaR L)) g h i j (.fz (.int by_)) l m n o p q)):=by
 have s1:Log (sh by_ one):=qnO h1 fun r hr=>⟨by have:=(h1.ok r hr).1.1; omega,b1 r hr⟩
 have s2:Log (sh by_ other):=qnO h2 fun r hr=>⟨by have:=(h2.ok r hr).1.1; omega,b2 r hr⟩
 have ej:=qcr s1 s2 (by unfold sh; rw[List.length_map]; omega) (by unfold sh; rw[List.length_map]; omega) hw
 rw[quT,hL] at ej
 have c1:qa2 1 [10] (dI (dV 5)) (gN 0) (qdk) (dB qcb (qcc (qac (dB qcb (dB gIx (dV 0) (dC (.int 0))) (dV 1)) (qat))) (qjN (dV 0) (dOS (dC (.int 1))) (dON))) (R a (.fz (qaE one)) (.fz (qaE other)) (.fz (.int w)) e (.fz (qaR L)) g h i j (.fz (.int by_)) l m n o p q)= .ok ((L.filter fun _=>true).map fun q=>qaw (mv4 by_ q)):=by
  refine qcV (f:=qaw) rfl fun q hq=>⟨rfl,fun _=>rfl⟩
 rw[qaU,show (L.map fun q=>qaw (mv4 by_ q))=(L.map (mv4 by_)).map qaw by rw[List.map_map]; rfl] at c1
 have n8:=qiB (L.map (mv4 by_))
 simp only[R] at c1
 simp only[fnT,qaV,qbh,qbk,qbI,qbv,qbg,dIf,qaC,dV,dC,dB,dB2,qaj,qac,qat,qcc,qb6,dFz,dQ,dQF,dQV,qas,qav,dCQ,qcv,dTB,qdl,dOr,qcm,qbu,qea,qbS,qcZ,qaI,dI,qao,qan,dIS,qdy,qec,dIZ,qdv,qb2,qbF,qcL,qbt,qbG,qa7,qdw,qdc,qdd,qaT,frz,qeb,ixQ,qdu,dOS,dON,gN,gT,gsC,gsN,qaO,qa4,qa0,qbf,qa1,qbU,qbO,qbE,qb0,qbZ,qaz,qa8,qby,qbY,qb1,qa9,qbe,qa5,qd8,PL.outT,dIn,qds,qbc,qbd,qai,qaL,qaK,List.map_cons,List.map_nil,List.length_cons,List.length_nil,List.length_map,List.replicate,List.cons_append,List.nil_append,List.append_nil,List.getElem?_cons_zero,List.getElem?_cons_succ,List.set_cons_zero,List.set_cons_succ,Nat.reduceSub,Nat.reduceAdd,Nat.reduceLeDiff,Nat.reduceEqDiff,if_true,if_false,Bool.false_eq_true,reduceIte,Bool.not_true,Bool.not_false,Bool.and_true,Bool.true_and,Bool.and_self,Bool.or_self,R,qgS h1 s1,qgS h2 s2,ej,c1,n8]
theorem st9 (n1:one.length≤6) (n2:other.length≤6):qbI 11 (dFz (qcv qhI (dQF (qa2 1 [] (dI (dB qcb (dV 1) (dV 2))) (gN 0) (qdk) (dB gIx (dV 0) (dC (.int 1))))))) (R a (.fz (qaE one)) (.fz (qaE other)) d e f g h i j k l m n o p q)=
  .ok (.nx (R a (.fz (qaE one)) (.fz (qaE other)) d e f g h i j k (.fz (.lst ((qaN (one++other)).map T.str))) m n o p q)):=by
 have ad:=qi8 (as:=one) (bs:=other) (by omega)
 have c1:qa2 1 [] (dI (dB qcb (dV 1) (dV 2))) (gN 0) (qdk) (dB gIx (dV 0) (dC (.int 1))) (R a (.fz (qaE one)) (.fz (qaE other)) d e f g h i j k l m n o p q)= .ok (((one++other).filter fun _=>true).map fun r=>T.str r.2.1):=by
  refine qcV (f:=qb3) ?_ fun r hr=>⟨rfl,fun _=>rfl⟩
  simp only[fnT,qaV,qbh,qbk,qbI,qbv,qbg,dIf,qaC,dV,dC,dB,dB2,qaj,qac,qat,qcc,qb6,dFz,dQ,dQF,dQV,qas,qav,dCQ,qcv,dTB,qdl,dOr,qcm,qbu,qea,qbS,qcZ,qaI,dI,qao,qan,dIS,qdy,qec,dIZ,qdv,qb2,qbF,qcL,qbt,qbG,qa7,qdw,qdc,qdd,qaT,frz,qeb,ixQ,qdu,dOS,dON,gN,gT,gsC,gsN,qaO,qa4,qa0,qbf,qa1,qbU,qbO,qbE,qb0,qbZ,qaz,qa8,qby,qbY,qb1,qa9,qbe,qa5,qd8,PL.outT,dIn,qds,qbc,qbd,qai,qaL,qaK,List.map_cons,List.map_nil,List.length_cons,List.length_nil,List.length_map,List.replicate,List.cons_append,List.nil_append,List.append_nil,List.getElem?_cons_zero,List.getElem?_cons_succ,List.set_cons_zero,List.set_cons_succ,Nat.reduceSub,Nat.reduceAdd,Nat.reduceLeDiff,Nat.reduceEqDiff,if_true,if_false,Bool.false_eq_true,reduceIte,Bool.not_true,Bool.not_false,Bool.and_true,Bool.true_and,Bool.and_self,Bool.or_self,R,ad]
  rfl
 rw[qaU,show ((one++other).map fun r=>T.str r.2.1)=((one++other).map fun r=>r.2.1).map T.str by rw[List.map_map]; rfl] at c1
 have kq:=qfm (ss:=(one++other).map fun r=>r.2.1) (by rw[List.length_map,List.length_append]; omega)
 simp only[R] at c1
 simp only[fnT,qaV,qbh,qbk,qbI,qbv,qbg,dIf,qaC,dV,dC,dB,dB2,qaj,qac,qat,qcc,qb6,dFz,dQ,dQF,dQV,qas,qav,dCQ,qcv,dTB,qdl,dOr,qcm,qbu,qea,qbS,qcZ,qaI,dI,qao,qan,dIS,qdy,qec,dIZ,qdv,qb2,qbF,qcL,qbt,qbG,qa7,qdw,qdc,qdd,qaT,frz,qeb,ixQ,qdu,dOS,dON,gN,gT,gsC,gsN,qaO,qa4,qa0,qbf,qa1,qbU,qbO,qbE,qb0,qbZ,qaz,qa8,qby,qbY,qb1,qa9,qbe,qa5,qd8,PL.outT,dIn,qds,qbc,qbd,qai,qaL,qaK,List.map_cons,List.map_nil,List.length_cons,List.length_nil,List.length_map,List.replicate,List.cons_append,List.nil_append,List.append_nil,List.getElem?_cons_zero,List.getElem?_cons_succ,List.set_cons_zero,List.set_cons_succ,Nat.reduceSub,Nat.reduceAdd,Nat.reduceLeDiff,Nat.reduceEqDiff,if_true,if_false,Bool.false_eq_true,reduceIte,Bool.not_true,Bool.not_false,Bool.and_true,Bool.true_and,Bool.and_self,Bool.or_self,R,c1,kq]
 rfl
end
end K19
end
section
namespace K19
open PySem L2 RH PL
open SR (J sw)
theorem ixL {ss:List Str} {v:Int} (h0:0≤v) (h1:v<(ss.length:Nat)): ∃x,x∈ss∧gIx (.lst (ss.map T.str)) (.int v)= .ok (.str x):=by
 obtain ⟨n,rfl⟩: ∃n:Nat,v=n:=⟨v.toNat,by omega⟩
 have hn:n<ss.length:=by omega
 refine ⟨ss[n],List.getElem_mem hn,?_⟩
 show (match atI (ss.map T.str) ((n:Nat):Int) with | some t=>Rs.ok t | none=>.no)=_
 rw[show atI (ss.map T.str) ((n:Nat):Int)=some (T.str ss[n]) from qaS (by rw[List.getElem?_map,List.getElem?_eq_getElem hn]; rfl)]
theorem qey:qcX "zz" :=by
 unfold qcX; decide+kernel
theorem quK (q:Q4) (old:Str):dB qcb (qcc (qac (dB gIx (dV 0) (dC (.int 0))) (qac (qcZ (dTB (dB gEq (dB gIx (dV 0) (dC (.int 1))) (dV 1))) (dC (.str "zz")) (dB gIx (dV 0) (dC (.int 1)))) (qat)))) (qjN (dV 0) (dOS (dC (.int 2))) (dON)) [.fz (qaw q),.fz (.str old)]= .ok (qaw (ch4 old "zz" q)):=by
 have hif:qcZ (dTB (dB gEq (dB gIx (dV 0) (dC (.int 1))) (dV 1))) (dC (.str "zz")) (dB gIx (dV 0) (dC (.int 1))) [.fz (qaw q),.fz (.str old)]= .ok (.str (chS old "zz" q.2.1)):=by
  show ((Rs.ok (q.2.1==old):Rs Bool)>>=fun c=>if c=true then Rs.ok (T.str "zz") else Rs.ok (T.str q.2.1))=_
  unfold chS
  cases (q.2.1==old)<;>rfl
 have h0:dB gIx (dV 0) (dC (.int 0)) [.fz (qaw q),.fz (.str old)]= .ok (.int q.1):=rfl
 have hs:qjN (dV 0) (dOS (dC (.int 2))) (dON) [.fz (qaw q),.fz (.str old)]= .ok (.tup [.int q.2.2.1,.int q.2.2.2]):=rfl
 show ((((dB gIx (dV 0) (dC (.int 0)) [.fz (qaw q),.fz (.str old)])>>=fun x=>(qcZ (dTB (dB gEq (dB gIx (dV 0) (dC (.int 1))) (dV 1))) (dC (.str "zz")) (dB gIx (dV 0) (dC (.int 1))) [.fz (qaw q),.fz (.str old)]>>=fun y=>Rs.ok []>>=fun z=>Rs.ok (y::z))>>=fun y=>Rs.ok (x::y))>>=fun xs=>if xs.length≤1000 then Rs.ok (T.tup xs) else .no)>>=fun x=>qjN (dV 0) (dOS (dC (.int 2))) (dON) [.fz (qaw q),.fz (.str old)]>>=fun y=>qcb x y)=_
 rw[hif,h0,hs]
 rfl
section
variable {ns:List Int} {one other:List Row} {w:Int} {a b c d e f g h i j k l m n o p q s1 s2:Sl}
theorem qua {L:List Q4} (hn:ns.length≤63) (hw:0≤w) (h1:Log one) (h2:Log other) (n1:one.length≤6) (n2:other.length≤6) (hL:J w one other=L): ∃s12 s13:Sl,
  dIf (qdl (dTB (dB gNe (dV 11) (dFz (qb6 (qat))))) (dTB (dIn true (dC (.str "zz")) (dQV 11)))) (qaV (qbI 12 (dB gIx (dV 11) (qaj qdY (qac (dV 0) (qac (dC (.int 403)) (qac (qcL (dV 11)) (qat))))))) (qaV (qbI 13 (qaj qfa (qac (qaj qnE (qac (dV 1) (qac (dV 12) (qac (dC (.str "zz")) (qat))))) (qac (qaj qnE (qac (dV 2) (qac (dV 12) (qac (dC (.str "zz")) (qat))))) (qac (dV 3) (qat)))))) (dIf (dTB (dB gNe (dV 13) (dFz (qa2 1 [12] (dI (dV 5)) (gN 0) (qdk) (dB qcb (qcc (qac (dB gIx (dV 0) (dC (.int 0))) (qac (qcZ (dTB (dB gEq (dB gIx (dV 0) (dC (.int 1))) (dV 1))) (dC (.str "zz")) (dB gIx (dV 0) (dC (.int 1)))) (qat)))) (qjN (dV 0) (dOS (dC (.int 2))) (dON))))))) (qbk (dC (.bl false))) (qaC)))) (qaC)
   (R (.fz (.scr ns)) (.fz (qaE one)) (.fz (qaE other)) (.fz (.int w)) e (.fz (qaR L)) g h i j k (.fz (.lst ((qaN (one++other)).map T.str))) m n o p q)=
  .ok (.nx (R (.fz (.scr ns)) (.fz (qaE one)) (.fz (qaE other)) (.fz (.int w)) e (.fz (qaR L)) g h i j k (.fz (.lst ((qaN (one++other)).map T.str))) s12 s13 o p q)):=by
 have l0:(0:Nat)≤1000:=by decide
 have okk:((qaN (one++other)).map T.str).all (okT 7)=true:=by rw[List.all_map,List.all_eq_true]; intro _ _; rfl
 have okk8:okT 8 (.lst ((qaN (one++other)).map T.str))=true:=qoX _
 have zok:okT 7 (.str "zz")=true:=rfl
 have nok:okT 8 (.lst [])=true:=rfl
 have inq:qds true (.str "zz") (true,(qaN (one++other)).map T.str)= .ok (.bl (!decide (("zz" :Str)∈qaN (one++other)))):=by
  unfold qds
  rw[if_pos ⟨zok,okk⟩]
  show Rs.ok (T.bl (!((qaN (one++other)).map T.str).any fun u=>PL.eqT u (.str "zz")))=_
  rw[List.any_map]
  refine congrArg (fun z=>Rs.ok (T.bl (!z))) ?_
  rw[Bool.eq_iff_iff,List.any_eq_true,decide_eq_true_eq]
  constructor
  ·rintro ⟨x,hx,e⟩
   have:x= "zz" :=by simpa [PL.eqT] using e
   rw[←this]; exact hx
  ·intro z
   exact ⟨_,z,by simp[PL.eqT]⟩
 by_cases ke:qaN (one++other)=[]
 ·have nk:gNe (.lst ((qaN (one++other)).map T.str)) (.lst [])= .ok (.bl false):=by rw[ke]; rfl
  refine ⟨m,n,?_⟩
  generalize hgo:qaV (qbI 12 (dB gIx (dV 11) (qaj qdY (qac (dV 0) (qac (dC (.int 403)) (qac (qcL (dV 11)) (qat))))))) _=go
  simp only[fnT,qaV,qbh,qbk,qbI,qbv,qbg,dIf,qaC,dV,dC,dB,dB2,qaj,qac,qat,qcc,qb6,dFz,dQ,dQF,dQV,qas,qav,dCQ,qcv,dTB,qdl,dOr,qcm,qbu,qea,qbS,qcZ,qaI,dI,qao,qan,dIS,qdy,qec,dIZ,qdv,qb2,qbF,qcL,qbt,qbG,qa7,qdw,qdc,qdd,qaT,frz,qeb,ixQ,qdu,dOS,dON,gN,gT,gsC,gsN,qaO,qa4,qa0,qbf,qa1,qbU,qbO,qbE,qb0,qbZ,qaz,qa8,qby,qbY,qb1,qa9,qbe,qa5,qd8,PL.outT,dIn,qds,qbc,qbd,qai,qaL,qaK,List.map_cons,List.map_nil,List.length_cons,List.length_nil,List.length_map,List.replicate,List.cons_append,List.nil_append,List.append_nil,List.getElem?_cons_zero,List.getElem?_cons_succ,List.set_cons_zero,List.set_cons_succ,Nat.reduceSub,Nat.reduceAdd,Nat.reduceLeDiff,Nat.reduceEqDiff,if_true,if_false,Bool.false_eq_true,reduceIte,Bool.not_true,Bool.not_false,Bool.and_true,Bool.true_and,Bool.and_self,Bool.or_self,R,l0,nk]
 ·have nk:gNe (.lst ((qaN (one++other)).map T.str)) (.lst [])= .ok (.bl true):=by
   cases q:qaN (one++other) with
   | nil=>exact absurd q ke
   | cons x xs=>
    rw[q] at okk8
    unfold gNe
    rw[if_pos ⟨okk8,nok⟩]
    rfl
  by_cases zz:("zz" :Str)∈qaN (one++other)
  ·refine ⟨m,n,?_⟩
   rw[decide_eq_true zz] at inq
   generalize hgo:qaV (qbI 12 (dB gIx (dV 11) (qaj qdY (qac (dV 0) (qac (dC (.int 403)) (qac (qcL (dV 11)) (qat))))))) _=go
   simp only[dIf,qdl,dTB,dB,dV,dFz,qb6,qat,dIn,dC,dQV,qas,R,List.getElem?_cons_succ,List.getElem?_cons_zero,qai,List.length_nil,l0,if_true,nk,inq,Bool.not_true,Bool.false_eq_true,if_false,qaC]
  ·rw[decide_eq_false zz] at inq
   have kp:0<(qaN (one++other)).length:=List.length_pos_iff.mpr ke
   obtain ⟨v,v0,v1,ev⟩:=qcj hn (k:=403) (many:=((qaN (one++other)).length:Nat)) (by decide) (by decide) (by omega)
   obtain ⟨old,ho,eo⟩:=ixL v0 v1
   have hne: ∀r∈one++other,r.2.1≠ "zz" :=fun r hr z=>zz (qda.mpr ⟨r,hr,z⟩)
   obtain ⟨r0,hr0,er0⟩:=qda.mp ho
   have ok0:qcX old:=by
    rw[←er0]
    rcases List.mem_append.mp hr0 with z | z
    ·exact (h1.ok _ z).2.1
    ·exact (h2.ok _ z).2.1
   have c1:=qfn h1 (old:=old) qey
   have c2:=qfn h2 (old:=old) qey
   have ej:=qcr c1 c2 (by unfold qdf; rw[List.length_map]; omega) (by unfold qdf; rw[List.length_map]; omega) hw
   rw[quU w (fun r hr=>hne r (List.mem_append_left _ hr)) (fun r hr=>hne r (List.mem_append_right _ hr)),hL] at ej
   have cc:qa2 1 [12] (dI (dV 5)) (gN 0) (qdk) (dB qcb (qcc (qac (dB gIx (dV 0) (dC (.int 0))) (qac (qcZ (dTB (dB gEq (dB gIx (dV 0) (dC (.int 1))) (dV 1))) (dC (.str "zz")) (dB gIx (dV 0) (dC (.int 1)))) (qat)))) (qjN (dV 0) (dOS (dC (.int 2))) (dON)))
     (R (.fz (.scr ns)) (.fz (qaE one)) (.fz (qaE other)) (.fz (.int w)) e (.fz (qaR L)) g h i j k (.fz (.lst ((qaN (one++other)).map T.str))) (.fz (.str old)) (.fz (qaR (L.map (ch4 old "zz")))) o p q)= .ok ((L.filter fun _=>true).map fun q=>qaw (ch4 old "zz" q)):=by
    refine qcV (f:=qaw) rfl fun q hq=>⟨rfl,fun _=> ?_⟩
    exact quK q old
   rw[qaU,show (L.map fun q=>qaw (ch4 old "zz" q))=(L.map (ch4 old "zz")).map qaw by rw[List.map_map]; rfl] at cc
   have n8:=qiB (L.map (ch4 old "zz"))
   simp only[R] at cc
   refine ⟨.fz (.str old),.fz (qaR (L.map (ch4 old "zz"))),?_⟩
   have gl:qn8 (.lst ((qaN (one++other)).map T.str))= .ok (.int ((qaN (one++other)).length:Nat)):=by rw[qa5,List.length_map]
   have e1:=qdh h1 ok0 qey
   have e2:=qdh h2 ok0 qey
   simp only[dIf,qdl,dTB,dB,dV,dFz,qb6,qat,dIn,dC,dQV,qas,R,List.getElem?_cons_succ,List.getElem?_cons_zero,qai,List.length_nil,l0,if_true,nk,inq,Bool.not_false,qaV,qbh,qbI,qaj,qac,qcL,gl,ev,eo,List.set_cons_succ,List.set_cons_zero,e1,e2,ej,cc,n8,Bool.false_eq_true,if_false,qaC]
theorem qt9 {L L':List Q4} (hp:List.Perm (L'.map sw) L) (hl:L.length<64):dIf (dTB (dB gNe (dFz (qcv qd0 (dQF (qa2 1 [] (dI (dV 14)) (gN 0) (qdk) (dB qcb (qjN (dV 0) (dON) (dOS (dC (.int 2)))) (qcc (qac (dB gIx (dV 0) (dC (.int 3))) (qac (dB gIx (dV 0) (dC (.int 2))) (qat))))))))) (dFz (qcv qd0 (dQV 5))))) (qbk (dC (.bl false))) (qaC)
   (R a b c d e (.fz (qaR L)) g h i j k l m n (.fz (qaR L')) p q)= .ok (.nx (R a b c d e (.fz (qaR L)) g h i j k l m n (.fz (qaR L')) p q)):=by
 have c1:qa2 1 [] (dI (dV 14)) (gN 0) (qdk) (dB qcb (qjN (dV 0) (dON) (dOS (dC (.int 2)))) (qcc (qac (dB gIx (dV 0) (dC (.int 3))) (qac (dB gIx (dV 0) (dC (.int 2))) (qat))))) (R a b c d e (.fz (qaR L)) g h i j k l m n (.fz (qaR L')) p q)= .ok ((L'.filter fun _=>true).map fun q=>qaw (sw q)):=by
  refine qcV (f:=qaw) rfl fun q hq=>⟨rfl,fun _=>rfl⟩
 rw[qaU,show (L'.map fun q=>qaw (sw q))=(L'.map sw).map qaw by rw[List.map_map]; rfl] at c1
 have h1:=qcM hl
 have h2:=qcM (rs:=L'.map sw) (by rw[hp.length_eq]; exact hl)
 rw[qeF hp] at h2
 have h3:gNe (.lst (qdn (L.map qaw))) (.lst (qdn (L.map qaw)))= .ok (.bl false):=qhz (qgw L)
 simp only[R] at c1
 simp only[fnT,qaV,qbh,qbk,qbI,qbv,qbg,dIf,qaC,dV,dC,dB,dB2,qaj,qac,qat,qcc,qb6,dFz,dQ,dQF,dQV,qas,qav,dCQ,qcv,dTB,qdl,dOr,qcm,qbu,qea,qbS,qcZ,qaI,dI,qao,qan,dIS,qdy,qec,dIZ,qdv,qb2,qbF,qcL,qbt,qbG,qa7,qdw,qdc,qdd,qaT,frz,qeb,ixQ,qdu,dOS,dON,gN,gT,gsC,gsN,qaO,qa4,qa0,qbf,qa1,qbU,qbO,qbE,qb0,qbZ,qaz,qa8,qby,qbY,qb1,qa9,qbe,qa5,qd8,PL.outT,dIn,qds,qbc,qbd,qai,qaL,qaK,List.map_cons,List.map_nil,List.length_cons,List.length_nil,List.length_map,List.replicate,List.cons_append,List.nil_append,List.append_nil,List.getElem?_cons_zero,List.getElem?_cons_succ,List.set_cons_zero,List.set_cons_succ,Nat.reduceSub,Nat.reduceAdd,Nat.reduceLeDiff,Nat.reduceEqDiff,if_true,if_false,Bool.false_eq_true,reduceIte,Bool.not_true,Bool.not_false,Bool.and_true,Bool.true_and,Bool.and_self,Bool.or_self,R,c1,h1,h2,h3]
theorem qt8 {L M:List Q4} (hs:L.Sublist M):dIf (dTB (dB gNe (dFz (qa2 1 [15,5] (dI (dV 5)) (gN 0) (dTB (dB gLt (qeW (dQV 1) (dV 0)) (qeW (dQV 2) (dV 0)))) (dV 0))) (dFz (qb6 (qat))))) (qbk (dC (.bl false))) (qaC)
   (R a b c d e (.fz (qaR L)) g h i j k l m n o (.fz (qaR M)) q)= .ok (.nx (R a b c d e (.fz (qaR L)) g h i j k l m n o (.fz (qaR M)) q)):=by
 have c1:qa2 1 [15,5] (dI (dV 5)) (gN 0) (dTB (dB gLt (qeW (dQV 1) (dV 0)) (qeW (dQV 2) (dV 0)))) (dV 0) (R a b c d e (.fz (qaR L)) g h i j k l m n o (.fz (qaR M)) q)= .ok ((L.filter fun _=>false).map qaw):=by
  refine qcV (f:=qaw) rfl fun x hx=>⟨?_,fun z=>by cases z⟩
  have cnt: ∀N:List Q4,qfu (true,N.map qaw) (qaw x)= .ok (.int ((N.map qaw).countP (fun u=>PL.eqT u (qaw x)):Nat)):=fun N=>by
   unfold qfu
   rw[if_pos ⟨rfl,rfl,qfM N⟩]
  have le:(L.map qaw).countP (fun u=>PL.eqT u (qaw x))≤(M.map qaw).countP (fun u=>PL.eqT u (qaw x)):=(hs.map qaw).countP_le
  show (((qfu (true,M.map qaw) (qaw x))>>=fun y=>(qfu (true,L.map qaw) (qaw x))>>=fun z=>gLt y z)>>=fun t=>match t with | .bl b=>Rs.ok b | _=>.no)=_
  rw[cnt,cnt,qai,qai,qbU,decide_eq_false (by omega)]
  rfl
 have e0:(L.filter fun _=>false)=[]:=by simp
 rw[e0,List.map_nil] at c1
 have l0:(0:Nat)≤1000:=by decide
 have n0:gNe (.lst []) (.lst [])= .ok (.bl false):=rfl
 simp only[R] at c1
 simp only[fnT,qaV,qbh,qbk,qbI,qbv,qbg,dIf,qaC,dV,dC,dB,dB2,qaj,qac,qat,qcc,qb6,dFz,dQ,dQF,dQV,qas,qav,dCQ,qcv,dTB,qdl,dOr,qcm,qbu,qea,qbS,qcZ,qaI,dI,qao,qan,dIS,qdy,qec,dIZ,qdv,qb2,qbF,qcL,qbt,qbG,qa7,qdw,qdc,qdd,qaT,frz,qeb,ixQ,qdu,dOS,dON,gN,gT,gsC,gsN,qaO,qa4,qa0,qbf,qa1,qbU,qbO,qbE,qb0,qbZ,qaz,qa8,qby,qbY,qb1,qa9,qbe,qa5,qd8,PL.outT,dIn,qds,qbc,qbd,qai,qaL,qaK,List.map_cons,List.map_nil,List.length_cons,List.length_nil,List.length_map,List.replicate,List.cons_append,List.nil_append,List.append_nil,List.getElem?_cons_zero,List.getElem?_cons_succ,List.set_cons_zero,List.set_cons_succ,Nat.reduceSub,Nat.reduceAdd,Nat.reduceLeDiff,Nat.reduceEqDiff,if_true,if_false,Bool.false_eq_true,reduceIte,Bool.not_true,Bool.not_false,Bool.and_true,Bool.true_and,Bool.and_self,Bool.or_self,R,c1,l0,n0]
theorem qt7 (h1:Log one) (h2:Log other) (n1:one.length≤6) (n2:other.length≤6) (hw:0≤w):qaV (qbI 16 (qaj qov (qac (dFz (qb6 (qac (dV 1) (qac (dV 2) (qat))))) (qat)))) (qbk (qbu (dB gEq (qaj qfa (qac (dV 1) (qac (dFz (qb6 (qat))) (qac (dV 3) (qat))))) (dFz (qb6 (qat)))) (dB gGe (qcL (qaj qfa (qac (dV 16) (qac (dV 16) (qac (dC (.int 0)) (qat)))))) (qcL (dV 16)))))
   (R a (.fz (qaE one)) (.fz (qaE other)) (.fz (.int w)) e f g h i j k l m n o p q)= .ok (.rt (.bl true)):=by
 have hall: ∀r∈one++other,qhj r:=fun r hr=>by
  rcases List.mem_append.mp hr with z | z
  ·exact h1.ok r z
  ·exact h2.ok r z
 have em:=qnh (logs:=[one,other]) (fun x hx=>by
  rcases List.mem_cons.mp hx with rfl | hx
  ·exact h1
  ·rw[List.mem_singleton.mp hx]; exact h2) (by simp; omega) (s:=T.lst) (.inl rfl)
 rw[show ([one,other]:List (List Row)).flatten=one++other by simp] at em
 have em:qov [.lst [qaE one,qaE other]]= .ok (qaE (SR.srt (fun r=>r.1) (one++other))):=em
 have lb:Log (SR.srt (fun r:Row=>r.1) (one++other)):=qo6 hall
 have nb:(SR.srt (fun r:Row=>r.1) (one++other)).length≤12:=by rw[SR.length_srt,List.length_append]; omega
 generalize SR.srt (fun r:Row=>r.1) (one++other)=both at em lb nb
 have ej:=qcr lb lb nb nb (Int.le_refl 0)
 have jl:=qjZ lb
 have ln:Log ([]:List Row):=⟨fun r hr=>(by cases hr),rfl⟩
 have e0:=qcr h1 ln (by omega) (by decide) hw
 rw[qro hw h1] at e0
 have e0:qfa [qaE one,.lst [],.int w]= .ok (.lst []):=e0
 have l0:(0:Nat)≤1000:=by decide
 have l2:(2:Nat)≤1000:=by decide
 have q0:gEq (.lst []) (.lst [])= .ok (.bl true):=rfl
 have gl:qn8 (qaE both)= .ok (.int (both.length:Nat)):=by unfold qaE; rw[qa5,List.length_map]
 have ge:decide (((both.length:Nat):Int)≤(((J 0 both both).map qaw).length:Nat))=true:=decide_eq_true (by rw[List.length_map]; omega)
 rw[List.length_map] at ge
 simp only[fnT,qaV,qbh,qbk,qbI,qbv,qbg,dIf,qaC,dV,dC,dB,dB2,qaj,qac,qat,qcc,qb6,dFz,dQ,dQF,dQV,qas,qav,dCQ,qcv,dTB,qdl,dOr,qcm,qbu,qea,qbS,qcZ,qaI,dI,qao,qan,dIS,qdy,qec,dIZ,qdv,qb2,qbF,qcL,qbt,qbG,qa7,qdw,qdc,qdd,qaT,frz,qeb,ixQ,qdu,dOS,dON,gN,gT,gsC,gsN,qaO,qa4,qa0,qbf,qa1,qbU,qbO,qbE,qb0,qbZ,qaz,qa8,qby,qbY,qb1,qa9,qbe,qa5,qd8,PL.outT,dIn,qds,qbc,qbd,qai,qaL,qaK,List.map_cons,List.map_nil,List.length_cons,List.length_nil,List.length_map,List.replicate,List.cons_append,List.nil_append,List.append_nil,List.getElem?_cons_zero,List.getElem?_cons_succ,List.set_cons_zero,List.set_cons_succ,Nat.reduceSub,Nat.reduceAdd,Nat.reduceLeDiff,Nat.reduceEqDiff,if_true,if_false,Bool.false_eq_true,reduceIte,Bool.not_true,Bool.not_false,Bool.and_true,Bool.true_and,Bool.and_self,Bool.or_self,R,em,l0,l2,e0,q0,ej,gl,ge]
end
end K19
end
section
namespace K19
open PySem L2 RH PL
open SR (J sw)
theorem st3 {ns:List Int} {one other:List Row} {w:Int} {e f g h i j k l m n o p q:Sl} (hw:0≤w) (h1:Log one) (h2:Log other) (n1:one.length≤6) (n2:other.length≤6):qbF (gT 3 (gsC (gN 5) (gsC (gN 6) (gsC (gN 7) (gsN))))) (qcc (qac (qaj qfa (qac (dV 1) (qac (dV 2) (qac (dV 3) (qat))))) (qac (qpX (qpY qe9 (dQ (qaj t_9 (qac (dV 1) (qat)))))) (qac (qpX (qpY qe9 (dQ (qaj t_9 (qac (dV 2) (qat)))))) (qat)))))
   (R (.fz (.scr ns)) (.fz (qaE one)) (.fz (qaE other)) (.fz (.int w)) e f g h i j k l m n o p q)=
  .ok (.nx (R (.fz (.scr ns)) (.fz (qaE one)) (.fz (qaE other)) (.fz (.int w)) e (.fz (qaR (J w one other))) (.fz (.dcf (qbl one))) (.fz (.dcf (qbl other))) i j k l m n o p q)):=by
 have ej:=qcr h1 h2 (by omega) (by omega) hw
 have b1:=qcT h1 (by omega)
 have b2:=qcT h2 (by omega)
 have d1:=qoa (rs:=one) (by omega)
 have d2:=qoa (rs:=other) (by omega)
 have l3:(3:Nat)≤1000:=by decide
 simp only[fnT,qaV,qbh,qbk,qbI,qbv,qbg,dIf,qaC,dV,dC,dB,dB2,qaj,qac,qat,qcc,qb6,dFz,dQ,dQF,dQV,qas,qav,dCQ,qcv,dTB,qdl,dOr,qcm,qbu,qea,qbS,qcZ,qaI,dI,qao,qan,dIS,qdy,qec,dIZ,qdv,qb2,qbF,qcL,qbt,qbG,qa7,qdw,qdc,qdd,qaT,frz,qeb,ixQ,qdu,dOS,dON,gN,gT,gsC,gsN,qaO,qa4,qa0,qbf,qa1,qbU,qbO,qbE,qb0,qbZ,qaz,qa8,qby,qbY,qb1,qa9,qbe,qa5,qd8,PL.outT,dIn,qds,qbc,qbd,qai,qaL,qaK,List.map_cons,List.map_nil,List.length_cons,List.length_nil,List.length_map,List.replicate,List.cons_append,List.nil_append,List.append_nil,List.getElem?_cons_zero,List.getElem?_cons_succ,List.set_cons_zero,List.set_cons_succ,Nat.reduceSub,Nat.reduceAdd,Nat.reduceLeDiff,Nat.reduceEqDiff,if_true,if_false,Bool.false_eq_true,reduceIte,Bool.not_true,Bool.not_false,Bool.and_true,Bool.true_and,Bool.and_self,Bool.or_self,R,qpX,qpY,ej,b1,b2,d1,d2,l3]
theorem qpl {ns:List Int} (h:qpy (R (.fz (.scr ns)) .no .no .no .no .no .no .no .no .no .no .no .no .no .no .no .no)= .ok (.rt (.bl true))):t_law [.scr ns]= .ok (.bl true):=by
 unfold t_law fnT
 rw[if_pos (show [T.scr ns].length=1 from rfl)]
 have e:List.map Sl.fz [T.scr ns]++List.replicate (17 - 1) Sl.no=R (.fz (.scr ns)) .no .no .no .no .no .no .no .no .no .no .no .no .no .no .no .no:=rfl
 rw[e,h]
 rfl
theorem law_true {ns:List Int} (hn:ns.length≤63):t_law [.scr ns]= .ok (.bl true):=by
 obtain ⟨one,h1,n1,e1⟩:=qn9 hn (k:=0) (most:=6) (by decide) (by decide) (by decide) (by decide)
 obtain ⟨other,h2,n2,e2⟩:=qn9 hn (k:=200) (most:=6) (by decide) (by decide) (by decide) (by decide)
 have n1:one.length≤6:=by omega
 have n2:other.length≤6:=by omega
 obtain ⟨w,w0,w9,ew⟩:=qcj hn (k:=400) (many:=9) (by decide) (by decide) (by decide)
 obtain ⟨v,v0,v9,ev⟩:=qcj hn (k:=401) (many:=9) (by decide) (by decide) (by decide)
 refine qpl ?_
 unfold qpy
 apply qbV (ρ':=R (.fz (.scr ns)) (.fz (qaE one)) (.fz (qaE other)) .no .no .no .no .no .no .no .no .no .no .no .no .no .no)
 ·simp only[fnT,qaV,qbh,qbk,qbI,qbv,qbg,dIf,qaC,dV,dC,dB,dB2,qaj,qac,qat,qcc,qb6,dFz,dQ,dQF,dQV,qas,qav,dCQ,qcv,dTB,qdl,dOr,qcm,qbu,qea,qbS,qcZ,qaI,dI,qao,qan,dIS,qdy,qec,dIZ,qdv,qb2,qbF,qcL,qbt,qbG,qa7,qdw,qdc,qdd,qaT,frz,qeb,ixQ,qdu,dOS,dON,gN,gT,gsC,gsN,qaO,qa4,qa0,qbf,qa1,qbU,qbO,qbE,qb0,qbZ,qaz,qa8,qby,qbY,qb1,qa9,qbe,qa5,qd8,PL.outT,dIn,qds,qbc,qbd,qai,qaL,qaK,List.map_cons,List.map_nil,List.length_cons,List.length_nil,List.length_map,List.replicate,List.cons_append,List.nil_append,List.append_nil,List.getElem?_cons_zero,List.getElem?_cons_succ,List.set_cons_zero,List.set_cons_succ,Nat.reduceSub,Nat.reduceAdd,Nat.reduceLeDiff,Nat.reduceEqDiff,if_true,if_false,Bool.false_eq_true,reduceIte,Bool.not_true,Bool.not_false,Bool.and_true,Bool.true_and,Bool.and_self,Bool.or_self,R,e1,e2]
 apply qbV (ρ':=R (.fz (.scr ns)) (.fz (qaE one)) (.fz (qaE other)) (.fz (.int w)) (.fz (.int (9+v))) .no .no .no .no .no .no .no .no .no .no .no .no)
 ·simp only[fnT,qaV,qbh,qbk,qbI,qbv,qbg,dIf,qaC,dV,dC,dB,dB2,qaj,qac,qat,qcc,qb6,dFz,dQ,dQF,dQV,qas,qav,dCQ,qcv,dTB,qdl,dOr,qcm,qbu,qea,qbS,qcZ,qaI,dI,qao,qan,dIS,qdy,qec,dIZ,qdv,qb2,qbF,qcL,qbt,qbG,qa7,qdw,qdc,qdd,qaT,frz,qeb,ixQ,qdu,dOS,dON,gN,gT,gsC,gsN,qaO,qa4,qa0,qbf,qa1,qbU,qbO,qbE,qb0,qbZ,qaz,qa8,qby,qbY,qb1,qa9,qbe,qa5,qd8,PL.outT,dIn,qds,qbc,qbd,qai,qaL,qaK,List.map_cons,List.map_nil,List.length_cons,List.length_nil,List.length_map,List.replicate,List.cons_append,List.nil_append,List.append_nil,List.getElem?_cons_zero,List.getElem?_cons_succ,List.set_cons_zero,List.set_cons_succ,Nat.reduceSub,Nat.reduceAdd,Nat.reduceLeDiff,Nat.reduceEqDiff,if_true,if_false,Bool.false_eq_true,reduceIte,Bool.not_true,Bool.not_false,Bool.and_true,Bool.true_and,Bool.and_self,Bool.or_self,R,ew,ev]
 refine qbV (st3 w0 h1 h2 n1 n2) ?_
 apply qbV (ρ':=R (.fz (.scr ns)) (.fz (qaE one)) (.fz (qaE other)) (.fz (.int w)) (.fz (.int (9+v))) (.fz (qaR (J w one other))) (.fz (.dcf (qbl one))) (.fz (.dcf (qbl other))) (.ow []) .no .no .no .no .no .no .no .no)
 ·have l0:(0:Nat)≤1000:=by decide
  simp only[fnT,qaV,qbh,qbk,qbI,qbv,qbg,dIf,qaC,dV,dC,dB,dB2,qaj,qac,qat,qcc,qb6,dFz,dQ,dQF,dQV,qas,qav,dCQ,qcv,dTB,qdl,dOr,qcm,qbu,qea,qbS,qcZ,qaI,dI,qao,qan,dIS,qdy,qec,dIZ,qdv,qb2,qbF,qcL,qbt,qbG,qa7,qdw,qdc,qdd,qaT,frz,qeb,ixQ,qdu,dOS,dON,gN,gT,gsC,gsN,qaO,qa4,qa0,qbf,qa1,qbU,qbO,qbE,qb0,qbZ,qaz,qa8,qby,qbY,qb1,qa9,qbe,qa5,qd8,PL.outT,dIn,qds,qbc,qbd,qai,qaL,qaK,List.map_cons,List.map_nil,List.length_cons,List.length_nil,List.length_map,List.replicate,List.cons_append,List.nil_append,List.append_nil,List.getElem?_cons_zero,List.getElem?_cons_succ,List.set_cons_zero,List.set_cons_succ,Nat.reduceSub,Nat.reduceAdd,Nat.reduceLeDiff,Nat.reduceEqDiff,if_true,if_false,Bool.false_eq_true,reduceIte,Bool.not_true,Bool.not_false,Bool.and_true,Bool.true_and,Bool.and_self,Bool.or_self,R,l0]
 obtain ⟨s9,el⟩:=qq3 (ns:=ns) w0 h1 h2 n1 n2 (.fz (.int (9+v))) (.fz (qaR (J w one other)))
 refine qbV el ?_
 have jl:(J w one other).length<64:=Nat.lt_of_le_of_lt (qrp w0 h1 h2 n1 n2) (by decide)
 refine qbV (st6 (qiZ w0 h1 h2) jl) ?_
 obtain ⟨by_,b0,b1,b2,e7⟩:=st7 (d:=.fz (.int w)) (e:=.fz (.int (9+v))) (f:=.fz (qaR (J w one other))) (g:=.fz (.dcf (qbl one))) (h:=.fz (.dcf (qbl other))) (i:=.ow ((qgc w one other (qaN one)).map qaw)) (j:=s9) (k:=.no) (l:=.no) (m:=.no) (n:=.no) (o:=.no) (p:=.no) (q:=.no) hn h1 h2 n1 n2
 refine qbV e7 ?_
 refine qbV (st8 w0 h1 h2 n1 n2 b0 b1 b2 rfl) ?_
 refine qbV (st9 n1 n2) ?_
 obtain ⟨s12,s13,e10⟩:=qua (e:=.fz (.int (9+v))) (g:=.fz (.dcf (qbl one))) (h:=.fz (.dcf (qbl other))) (i:=.ow ((qgc w one other (qaN one)).map qaw)) (j:=s9) (k:=.fz (.int by_)) (m:=.no) (n:=.no) (o:=.no) (p:=.no) (q:=.no) hn w0 h1 h2 n1 n2 rfl
 refine qbV e10 ?_
 generalize hL:J w one other=L
 apply qbV (ρ':=R (.fz (.scr ns)) (.fz (qaE one)) (.fz (qaE other)) (.fz (.int w)) (.fz (.int (9+v))) (.fz (qaR L)) (.fz (.dcf (qbl one))) (.fz (.dcf (qbl other))) (.ow ((qgc w one other (qaN one)).map qaw)) s9 (.fz (.int by_)) (.fz (.lst ((qaN (one++other)).map T.str))) s12 s13 (.fz (qaR (J w other one))) .no .no)
 ·have ej:=qcr h2 h1 (by omega) (by omega) w0
  simp only[fnT,qaV,qbh,qbk,qbI,qbv,qbg,dIf,qaC,dV,dC,dB,dB2,qaj,qac,qat,qcc,qb6,dFz,dQ,dQF,dQV,qas,qav,dCQ,qcv,dTB,qdl,dOr,qcm,qbu,qea,qbS,qcZ,qaI,dI,qao,qan,dIS,qdy,qec,dIZ,qdv,qb2,qbF,qcL,qbt,qbG,qa7,qdw,qdc,qdd,qaT,frz,qeb,ixQ,qdu,dOS,dON,gN,gT,gsC,gsN,qaO,qa4,qa0,qbf,qa1,qbU,qbO,qbE,qb0,qbZ,qaz,qa8,qby,qbY,qb1,qa9,qbe,qa5,qd8,PL.outT,dIn,qds,qbc,qbd,qai,qaL,qaK,List.map_cons,List.map_nil,List.length_cons,List.length_nil,List.length_map,List.replicate,List.cons_append,List.nil_append,List.append_nil,List.getElem?_cons_zero,List.getElem?_cons_succ,List.set_cons_zero,List.set_cons_succ,Nat.reduceSub,Nat.reduceAdd,Nat.reduceLeDiff,Nat.reduceEqDiff,if_true,if_false,Bool.false_eq_true,reduceIte,Bool.not_true,Bool.not_false,Bool.and_true,Bool.true_and,Bool.and_self,Bool.or_self,R,ej]
 refine qbV (qt9 (by rw[←hL]; exact qpH w0 h1 h2) (by rw[←hL]; exact jl)) ?_
 apply qbV (ρ':=R (.fz (.scr ns)) (.fz (qaE one)) (.fz (qaE other)) (.fz (.int w)) (.fz (.int (9+v))) (.fz (qaR L)) (.fz (.dcf (qbl one))) (.fz (.dcf (qbl other))) (.ow ((qgc w one other (qaN one)).map qaw)) s9 (.fz (.int by_)) (.fz (.lst ((qaN (one++other)).map T.str))) s12 s13 (.fz (qaR (J w other one))) (.fz (qaR (J (9+v) one other))) .no)
 ·have ej:=qcr h1 h2 (by omega) (by omega) (w:=9+v) (by omega)
  simp only[fnT,qaV,qbh,qbk,qbI,qbv,qbg,dIf,qaC,dV,dC,dB,dB2,qaj,qac,qat,qcc,qb6,dFz,dQ,dQF,dQV,qas,qav,dCQ,qcv,dTB,qdl,dOr,qcm,qbu,qea,qbS,qcZ,qaI,dI,qao,qan,dIS,qdy,qec,dIZ,qdv,qb2,qbF,qcL,qbt,qbG,qa7,qdw,qdc,qdd,qaT,frz,qeb,ixQ,qdu,dOS,dON,gN,gT,gsC,gsN,qaO,qa4,qa0,qbf,qa1,qbU,qbO,qbE,qb0,qbZ,qaz,qa8,qby,qbY,qb1,qa9,qbe,qa5,qd8,PL.outT,dIn,qds,qbc,qbd,qai,qaL,qaK,List.map_cons,List.map_nil,List.length_cons,List.length_nil,List.length_map,List.replicate,List.cons_append,List.nil_append,List.append_nil,List.getElem?_cons_zero,List.getElem?_cons_succ,List.set_cons_zero,List.set_cons_succ,Nat.reduceSub,Nat.reduceAdd,Nat.reduceLeDiff,Nat.reduceEqDiff,if_true,if_false,Bool.false_eq_true,reduceIte,Bool.not_true,Bool.not_false,Bool.and_true,Bool.true_and,Bool.and_self,Bool.or_self,R,ej]
 refine qbV (qt8 (by rw[←hL]; exact qti (by omega) one other)) ?_
 exact qt7 h1 h2 n1 n2 w0
end K19
end
section
namespace K19
open PySem L2 PL SetL
section
variable {P:Program} {w:World} {K:PySem.W.Frag} {mg:Str→Option Value} {base:Heap} {G:Gam} {C:Str→Addr}
theorem qqF {f:Addr} {fd:FuncData} (F:Fun K "law" "law" qhg f fd) (nb: ∀x∈namesD,mg x=none) (F_14:Kn P w K mg base G C "_law_pick" ["_law_script", "_law_k", "_law_many"] 2 qdY) (F_15:Kn P w K mg base G C "_law_rows" ["_law_script", "_law_at", "_law_most"] 4 qpR) (F_9:Kn P w K mg base G C "by_keys_parted" ["rows"] 6 t_9) (F_27:Kn P w K mg base G C "joined" ["one", "other", "width"] 7 qfa) (F_10:Kn P w K mg base G C "keys_changed" ["rows", "old", "new"] 6 qnE) (F_29:Kn P w K mg base G C "merged" ["logs"] 6 qov) (F_22:Kn P w K mg base G C "shifted" ["rows", "by"] 6 qnC):qbb P w K mg base CX0 8 f fd ["_law_script"] (spP K G C t_law):=
 qcJ F qcf fun cdv A outer s H E hr=>qam (qob (i:=1) (j:=2) rfl qcf.nd rfl rfl (by decide) rfl rfl (qah F_15 rfl (hr.mono (by decide)) rfl (qab (qaa (pv 0)) (qab (qap) (qab (qap) (qal))))) (qah F_15 rfl (hr.mono (by decide)) rfl (qab (qaa (pv 0)) (qab (qap) (qab (qap) (qal))))) rfl) (qam (qob (i:=3) (j:=4) rfl qcf.nd rfl rfl (by decide) rfl rfl (qah F_14 rfl (hr.mono (by decide)) rfl (qab (qaa (pv 0)) (qab (qap) (qab (qap) (qal))))) (qa6 qaX qbm qbo (qap) (qah F_14 rfl (hr.mono (by decide)) rfl (qab (qaa (pv 0)) (qab (qap) (qab (qap) (qal)))))) rfl) (qam (qpr (qen (qab (qah F_27 rfl (hr.mono (by decide)) rfl (qab (qaa (pv 1)) (qab (qaa (pv 2)) (qab (qaa (pv 3)) (qal))))) (qab (qgW (qlG rfl rfl (nb "dict" (by decide)) (qps (qah F_9 rfl (hr.mono (by decide)) rfl (qab (qaa (pv 1)) (qal)))))) (qab (qgW (qlG rfl rfl (nb "dict" (by decide)) (qps (qah F_9 rfl (hr.mono (by decide)) rfl (qab (qaa (pv 2)) (qal)))))) (qal))))) (qi0 rfl (qbQ (qb8 (qay (i:=5) qcf.nd rfl (by first | exact Or.inl rfl | exact Or.inr rfl))) (qbQ (qb8 (qay (i:=6) qcf.nd rfl (by first | exact Or.inl rfl | exact Or.inr rfl))) (qbQ (qb8 (qay (i:=7) qcf.nd rfl (by first | exact Or.inl rfl | exact Or.inr rfl))) (qf2)))))) (qam (qhV (i:=8) qcf.nd rfl (by first | exact Or.inl rfl | exact Or.inr rfl) (qcU (qal))) (qam (qlD PassesOwn.never rfl (qpt (qaa (pv 6))) (qb8 (qay (i:=9) qcf.nd rfl (by first | exact Or.inl rfl | exact Or.inr rfl))) (qax (qgU (qht PySem.F.plainAttrs_list PySem.F.slot_list_extend PySem.F.type_list_extend qeM (pv 8) (qaf (qps (qah F_27 rfl (hr.mono (by decide)) rfl (qab (qpv (hu1 hr) (qaa (pv 6)) (qaa (pv 9))) (qab (qnr (hu1 hr) (qaa (pv 7)) (qaa (pv 9)) (qaH (qcU (qal))) ⟨rfl,rfl,rfl,rfl⟩) (qab (qaa (pv 3)) (qal)))))) qaq))))) (qam (qc6 (qcs (op_neT (hu8 hr)) qhh qhr (qaH (qdU (qaB qcw rfl (nb "sorted" (by decide)) boot_sorted (qaf (qbP (pv 8)) qaq)))) (qaH (qdU (qaB qcw rfl (nb "sorted" (by decide)) boot_sorted (qaf (qbP (pv 5)) qaq))))) (qax (qba (qgX))) (qbq)) (qam (qct (i:=10) qcf.nd rfl (by first | exact Or.inl rfl | exact Or.inr rfl) (qah F_14 rfl (hr.mono (by decide)) rfl (qab (qaa (pv 0)) (qab (qap) (qab (qa6 qiv qku qkK (qap) (qpu (qaB (qlZ rfl) rfl (nb "max" (by decide)) ql0 (qaf (qb5 (qq9 (qb5 (qbR (own:=["_law_row"]) (fr:=[]) rfl (qcu (qa6 qaX qbm qbo (qaa (pv 1)) (qaa (pv 2)))) (qcI) rfl (by decide+kernel) (by decide+kernel) (fun y hy e=>absurd e ((by decide+kernel: ∀y∈_,y.2≠NameKind.free) y hy)) (fun p hp=>nomatch hp) (fun fp s3 H3=>⟨qb8 (qay (i:=0) (show (["_law_row"]:List Str).Nodup by decide+kernel) rfl (by first | exact Or.inl rfl | exact Or.inr rfl)),qbs,qcK qbC qcC qcD (qaa (pv 0)) (qap) (fun _ _=>rfl)⟩))) (qb5 (qcU (qab (qap) (qal)))))) qaq)))) (qal)))))) (qam (qc6 (qcs (op_neT (hu8 hr)) qhh qhr (qah F_27 rfl (hr.mono (by decide)) rfl (qab (qah F_22 rfl (hr.mono (by decide)) rfl (qab (qaa (pv 1)) (qab (qaa (pv 10)) (qal)))) (qab (qah F_22 rfl (hr.mono (by decide)) rfl (qab (qaa (pv 2)) (qab (qaa (pv 10)) (qal)))) (qab (qaa (pv 3)) (qal))))) (qaH (qbR (own:=["_law_row"]) (fr:=[("_law_by",10)]) rfl (qcu (qaa (pv 5))) (qcI) rfl (by decide+kernel) (by decide+kernel) (RH.fr_ok (sd:=qad qhg) rfl (by decide+kernel)) (fun p hp=>by simp only[List.mem_cons,List.not_mem_nil,or_false] at hp; subst hp; exact ⟨rfl,rfl⟩) (fun fp s3 H3=>⟨qb8 (qay (i:=0) (show (["_law_row", "_law_by"]:List Str).Nodup by decide+kernel) rfl (by first | exact Or.inl rfl | exact Or.inr rfl)),qbs,qa6 qaX qbm qbo (qen (qab (qa6 qaX qbm qbo (qcK qbC qcC qcD (qaa (pv 0)) (qap) (fun _ _=>rfl)) (qaa (pv 1))) (qal))) (qlN (qaa (pv 0)) (qf0 (qap)) (qf1))⟩)))) (qax (qba (qgX))) (qbq)) (qam (qct (i:=11) qcf.nd rfl (by first | exact Or.inl rfl | exact Or.inr rfl) (qaH (qlJ rfl rfl (nb "sorted" (by decide)) rfl (nb "set" (by decide)) (qb5 (qbR (own:=["_law_row"]) (fr:=[]) rfl (qcu (qa6 qaX qbm qbo (qaa (pv 1)) (qaa (pv 2)))) (qcI) rfl (by decide+kernel) (by decide+kernel) (fun y hy e=>absurd e ((by decide+kernel: ∀y∈_,y.2≠NameKind.free) y hy)) (fun p hp=>nomatch hp) (fun fp s3 H3=>⟨qb8 (qay (i:=0) (show (["_law_row"]:List Str).Nodup by decide+kernel) rfl (by first | exact Or.inl rfl | exact Or.inr rfl)),qbs,qcK qbC qcC qcD (qaa (pv 0)) (qap) (fun _ _=>rfl)⟩)))))) (qam (qc6 (qq5 (qq4 (qcs (op_neT (hu8 hr)) qhh qhr (qaa (pv 11)) (qaH (qcU (qal)))) (qpp (qnm (hu8 hr) (qdj) (qbP (pv 11)))))) (qam (qct (i:=12) qcf.nd rfl (by first | exact Or.inl rfl | exact Or.inr rfl) (qcK qbC qcC qcD (qaa (pv 11)) (qah F_14 rfl (hr.mono (by decide)) rfl (qab (qaa (pv 0)) (qab (qap) (qab (qeV rfl (nb "len" (by decide)) (qaa (pv 11))) (qal))))) (fun _ _=>rfl))) (qam (qct (i:=13) qcf.nd rfl (by first | exact Or.inl rfl | exact Or.inr rfl) (qah F_27 rfl (hr.mono (by decide)) rfl (qab (qah F_10 rfl (hr.mono (by decide)) rfl (qab (qaa (pv 1)) (qab (qaa (pv 12)) (qab (qdj) (qal))))) (qab (qah F_10 rfl (hr.mono (by decide)) rfl (qab (qaa (pv 2)) (qab (qaa (pv 12)) (qab (qdj) (qal))))) (qab (qaa (pv 3)) (qal)))))) (qax (qc6 (qcs (op_neT (hu8 hr)) qhh qhr (qaa (pv 13)) (qaH (qbR (own:=["_law_row"]) (fr:=[("_law_old",12)]) rfl (qcu (qaa (pv 5))) (qcI) rfl (by decide+kernel) (by decide+kernel) (RH.fr_ok (sd:=qad qhg) rfl (by decide+kernel)) (fun p hp=>by simp only[List.mem_cons,List.not_mem_nil,or_false] at hp; subst hp; exact ⟨rfl,rfl⟩) (fun fp s3 H3=>⟨qb8 (qay (i:=0) (show (["_law_row", "_law_old"]:List Str).Nodup by decide+kernel) rfl (by first | exact Or.inl rfl | exact Or.inr rfl)),qbs,qa6 qaX qbm qbo (qen (qab (qcK qbC qcC qcD (qaa (pv 0)) (qap) (fun _ _=>rfl)) (qab (qre (qcs (qfk (hu8 hr)) qjk qjr (qcK qbC qcC qcD (qaa (pv 0)) (qap) (fun _ _=>rfl)) (qaa (pv 1))) (qdj) (qcK qbC qcC qcD (qaa (pv 0)) (qap) (fun _ _=>rfl))) (qal)))) (qlN (qaa (pv 0)) (qf0 (qap)) (qf1))⟩)))) (qax (qba (qgX))) (qbq))))) (qbq)) (qam (qct (i:=14) qcf.nd rfl (by first | exact Or.inl rfl | exact Or.inr rfl) (qah F_27 rfl (hr.mono (by decide)) rfl (qab (qaa (pv 2)) (qab (qaa (pv 1)) (qab (qaa (pv 3)) (qal)))))) (qam (qc6 (qcs (op_neT (hu8 hr)) qhh qhr (qaH (qdU (qaB qcw rfl (nb "sorted" (by decide)) boot_sorted (qaf (qb5 (qbR (own:=["_law_row"]) (fr:=[]) rfl (qcu (qaa (pv 14))) (qcI) rfl (by decide+kernel) (by decide+kernel) (fun y hy e=>absurd e ((by decide+kernel: ∀y∈_,y.2≠NameKind.free) y hy)) (fun p hp=>nomatch hp) (fun fp s3 H3=>⟨qb8 (qay (i:=0) (show (["_law_row"]:List Str).Nodup by decide+kernel) rfl (by first | exact Or.inl rfl | exact Or.inr rfl)),qbs,qa6 qaX qbm qbo (qlN (qaa (pv 0)) (qf1) (qf0 (qap))) (qen (qab (qcK qbC qcC qcD (qaa (pv 0)) (qap) (fun _ _=>rfl)) (qab (qcK qbC qcC qcD (qaa (pv 0)) (qap) (fun _ _=>rfl)) (qal))))⟩))) qaq)))) (qaH (qdU (qaB qcw rfl (nb "sorted" (by decide)) boot_sorted (qaf (qbP (pv 5)) qaq))))) (qax (qba (qgX))) (qbq)) (qam (qct (i:=15) qcf.nd rfl (by first | exact Or.inl rfl | exact Or.inr rfl) (qah F_27 rfl (hr.mono (by decide)) rfl (qab (qaa (pv 1)) (qab (qaa (pv 2)) (qab (qaa (pv 4)) (qal)))))) (qam (qc6 (qcs (op_neT (hu8 hr)) qhh qhr (qaH (qbR (own:=["_law_row"]) (fr:=[("_law_many",15),("_law_told",5)]) rfl (qcu (qaa (pv 5))) (qcI) rfl (by decide+kernel) (by decide+kernel) (RH.fr_ok (sd:=qad qhg) rfl (by decide+kernel)) (fun p hp=>by simp only[List.mem_cons,List.not_mem_nil,or_false] at hp; rcases hp with rfl | rfl<;>exact ⟨rfl,rfl⟩) (fun fp s3 H3=>⟨qb8 (qay (i:=0) (show (["_law_row", "_law_many", "_law_told"]:List Str).Nodup by decide+kernel) rfl (by first | exact Or.inl rfl | exact Or.inr rfl)),qn0 (qcs qoU qsn qst (qi1 (qht PySem.F.plainAttrs_list PySem.F.slot_list_count PySem.F.type_list_count (qgC (hu8 hr)) (qbP (pv 1)) (qaf (qaa (pv 0)) qaq))) (qi1 (qht PySem.F.plainAttrs_list PySem.F.slot_list_count PySem.F.type_list_count (qgC (hu8 hr)) (qbP (pv 2)) (qaf (qaa (pv 0)) qaq)))),qaa (pv 0)⟩))) (qaH (qcU (qal)))) (qax (qba (qgX))) (qbq)) (qam (qct (i:=16) qcf.nd rfl (by first | exact Or.inl rfl | exact Or.inr rfl) (qah F_29 rfl (hr.mono (by decide)) rfl (qab (qaH (qcU (qab (qaa (pv 1)) (qab (qaa (pv 2)) (qal))))) (qal)))) (qax (qba (qlQ (qlP (qfk (hu8 hr)) qjk qjr (qah F_27 rfl (hr.mono (by decide)) rfl (qab (qaa (pv 1)) (qab (qaH (qcU (qal))) (qab (qaa (pv 3)) (qal))))) (qaH (qcU (qal)))) (qlO (qlP qsA qsp qsv (qeV rfl (nb "len" (by decide)) (qah F_27 rfl (hr.mono (by decide)) rfl (qab (qaa (pv 16)) (qab (qaa (pv 16)) (qab (qap) (qal)))))) (qeV rfl (nb "len" (by decide)) (qaa (pv 16))))))))))))))))))))))
end
end K19
end
section
namespace K19
open PySem L2 PL SetL
section
variable {P:Program} {w:World} {K:PySem.W.Frag} {mg:Str→Option Value} {base:Heap} {G:Gam} {C:Str→Addr}
theorem qsM {f:Addr} {fd:FuncData} (F:Fun K "_law_rows" "_law_rows" qsj f fd) (nb: ∀x∈namesD,mg x=none) (F_18:Kn P w K mg base G C "_law_key" ["_law_script", "_law_at"] 3 qnD) (F_12:Kn P w K mg base G C "_law_number" ["_law_script", "_law_at", "_law_most"] 3 qow) (F_14:Kn P w K mg base G C "_law_pick" ["_law_script", "_law_k", "_law_many"] 2 qdY):qbb P w K mg base CX0 4 f fd ["_law_script", "_law_at", "_law_most"] (spP K G C qpR):=
 qcJ F qhf fun cdv A outer s H E hr=>qam (qhV (i:=3) qhf.nd rfl (by first | exact Or.inl rfl | exact Or.inr rfl) (qcU (qal))) (qam (qct (i:=4) qhf.nd rfl (by first | exact Or.inl rfl | exact Or.inr rfl) (qah F_14 rfl (hr.mono (by decide)) rfl (qab (qaa (pv 0)) (qab (qaa (pv 1)) (qab (qap) (qal)))))) (qam (qct (i:=5) qhf.nd rfl (by first | exact Or.inl rfl | exact Or.inr rfl) (qcK qbC qcC qcD (qaH (qcU (qab (qap) (qab (qap) (qab (qap) (qab (qap) (qal))))))) (qah F_14 rfl (hr.mono (by decide)) rfl (qab (qaa (pv 0)) (qab (qa6 qaX qbm qbo (qaa (pv 1)) (qap)) (qab (qap) (qal))))) (fun _ _=>rfl))) (qam (qlD PassesOwn.never rfl (qlI rfl (nb "range" (by decide)) (qab (qah F_14 rfl (hr.mono (by decide)) rfl (qab (qaa (pv 0)) (qab (qa6 qaX qbm qbo (qaa (pv 1)) (qap)) (qab (qa6 qaX qbm qbo (qaa (pv 2)) (qap)) (qal))))) (qal))) (qb8 (qay (i:=6) qhf.nd rfl (by first | exact Or.inl rfl | exact Or.inr rfl))) (qam (qct (i:=7) qhf.nd rfl (by first | exact Or.inl rfl | exact Or.inr rfl) (qa6 qaX qbm qbo (qa6 qaX qbm qbo (qaa (pv 1)) (qap)) (qa6 qfj qnU qnZ (qap) (qaa (pv 6))))) (qam (qct (i:=4) qhf.nd rfl (by first | exact Or.inl rfl | exact Or.inr rfl) (qrd (qaB (qlY rfl) rfl (nb "min" (by decide)) qnu (qaf (qap) (qaf (qa6 qaX qbm qbo (qaa (pv 4)) (qah F_14 rfl (hr.mono (by decide)) rfl (qab (qaa (pv 0)) (qab (qaa (pv 7)) (qab (qaa (pv 5)) (qal)))))) qaq))))) (qax (qlE (qht PySem.F.plainAttrs_list PySem.F.slot_list_append PySem.F.type_list_append qeN (pv 3) (qaf (qen (qab (qaa (pv 4)) (qab (qah F_18 rfl (hr.mono (by decide)) rfl (qab (qaa (pv 0)) (qab (qa6 qaX qbm qbo (qaa (pv 7)) (qap)) (qal)))) (qab (qah F_12 rfl (hr.mono (by decide)) rfl (qab (qaa (pv 0)) (qab (qa6 qaX qbm qbo (qaa (pv 7)) (qap)) (qab (qap) (qal))))) (qal))))) qaq))))))) (qax (qoc 3 (qba (qaa (pv 3))))))))
theorem quu {f:Addr} {fd:FuncData} (F:Fun K "by_keys_parted" "by_keys_parted" s_9 f fd) (nb: ∀x∈namesD,mg x=none) (F_21:Kn P w K mg base G C "keys_of" ["rows"] 1 qpO) (F_28:Kn P w K mg base G C "of_key" ["rows", "key"] 1 qpN) (F_2:Kn P w K mg base G C "refuse_what_is_no_log" ["rows"] 5 t_2):qbb P w K mg base CX0 6 f fd ["rows"] (spP K G C t_9):=
 qcJ F quc fun cdv A outer s H E hr=>qam (qcB (qah F_2 rfl (hr.mono (by decide)) rfl (qab (qaa (pv 0)) (qal)))) (qax (qba (qaH (qbR (own:=["key"]) (fr:=[("rows",0)]) rfl (qcu (qah F_21 rfl (hr.mono (by decide)) rfl (qab (qaa (pv 0)) (qal)))) (qcI) rfl (by decide+kernel) (by decide+kernel) (RH.fr_ok (sd:=qad s_9) rfl (by decide+kernel)) (fun p hp=>by simp only[List.mem_cons,List.not_mem_nil,or_false] at hp; subst hp; exact ⟨rfl,rfl⟩) (fun fp s3 H3=>⟨qb8 (qay (i:=0) (show (["key", "rows"]:List Str).Nodup by decide+kernel) rfl (by first | exact Or.inl rfl | exact Or.inr rfl)),qbs,qen (qab (qaa (pv 0)) (qab (qah F_28 rfl (hr.mono (by decide)) rfl (qab (qaa (pv 1)) (qab (qaa (pv 0)) (qal)))) (qal)))⟩)))))
theorem qsK {f c T_17:Addr} {oc kV doc pm cdv ct:Value} {od an:Option Addr} {osl:Array (Option Value)}
  (lk:K.lookup f=some ⟨oc,od,.func (PySem.W.fnOf "in_order" "in_order" (qaM qnR) (qaF qnR) (qad qnR) .none kV doc pm an cdv ct),osl⟩) (hcd:PySem.W.codeIn K cdv "in_order" =true) (hc:cdv= .ref c)
  (nb: ∀x∈namesD,mg x=none) (C0:PySem.W.CodeHd base c T_17) (hb:qf8 mg base) (nd:([T_17]:List Addr).Nodup):
  qbb P w K mg base CX0 5 f (PySem.W.fnOf "in_order" "in_order" (qaM qnR) (qaF qnR) (qad qnR) .none kV doc pm an cdv ct) ["rows"] (spP K (gL T_17) C qpP):=by
 refine qpi lk hcd qr4 (fun vs H Q E h=>qkb h) (fun A outer s H vs Q E hr h=> ?_)
 refine ⟨_,PSs.nox (qax (M:=⟨K,(gL T_17),E,C,0⟩) (qba (qaH (qnp (qis (P:=T_17) (qual:=qd1) (i:=0) (qbP (pv 0)) rfl (nb "sorted" (by decide)) PyProof.Rows.boot_sorted hc C0 hb (by decide+kernel) rfl (show ("in_order" :Str)++ ".<locals>." ++ "<lambda>" =qd1 by decide+kernel) rfl rfl rfl rfl (by decide+kernel) (by decide) (fun pm cv ctv v=>rfl) (hr.mono (by decide))) (qm7 (by simp)) (qjH (by simp) nd))))),?_⟩
 exact qiP (n:=1) (N:=["rows"]) (by decide) h
theorem quz {f:Addr} {fd:FuncData} (F:Fun K "refuse_what_are_no_two_logs" "refuse_what_are_no_two_logs" s_0 f fd) (nb: ∀x∈namesD,mg x=none) (F_3:Kn P w K mg base G C "refuse_out_of_order" ["rows"] 2 t_3) (F_1:Kn P w K mg base G C "refuse_what_is_no_row" ["rows"] 4 t_1):qbb P w K mg base CX0 5 f fd ["one", "other"] (spP K G C t_0):=
 qcJ F quh fun cdv A outer s H E hr=>qam (qcB (qah F_1 rfl (hr.mono (by decide)) rfl (qab (qaa (pv 0)) (qal)))) (qam (qcB (qah F_1 rfl (hr.mono (by decide)) rfl (qab (qaa (pv 1)) (qal)))) (qam (qcB (qah F_3 rfl (hr.mono (by decide)) rfl (qab (qaa (pv 0)) (qal)))) (qax (qcB (qah F_3 rfl (hr.mono (by decide)) rfl (qab (qaa (pv 1)) (qal)))))))
theorem qsC {f:Addr} {fd:FuncData} (F:Fun K "of_key" "of_key" qrt f fd) (nb: ∀x∈namesD,mg x=none):qbb P w K mg base CX0 1 f fd ["rows", "key"] (spP K G C qpN):=
 qcJ F qrY fun cdv A outer s H E hr=>qax (qba (qaH (qbR (own:=["row"]) (fr:=[("key",1)]) rfl (qcu (qaa (pv 0))) (qcI) rfl (by decide+kernel) (by decide+kernel) (RH.fr_ok (sd:=qad qrt) rfl (by decide+kernel)) (fun p hp=>by simp only[List.mem_cons,List.not_mem_nil,or_false] at hp; subst hp; exact ⟨rfl,rfl⟩) (fun fp s3 H3=>⟨qb8 (qay (i:=0) (show (["row", "key"]:List Str).Nodup by decide+kernel) rfl (by first | exact Or.inl rfl | exact Or.inr rfl)),qn0 (qcs (qfk (hu8 hr)) qjk qjr (qcK qbC qcC qcD (qaa (pv 0)) (qap) (fun _ _=>rfl)) (qaa (pv 1))),qaa (pv 0)⟩))))
theorem qux {f:Addr} {fd:FuncData} (F:Fun K "refuse_what_is_no_log" "refuse_what_is_no_log" s_2 f fd) (nb: ∀x∈namesD,mg x=none) (F_3:Kn P w K mg base G C "refuse_out_of_order" ["rows"] 2 t_3) (F_1:Kn P w K mg base G C "refuse_what_is_no_row" ["rows"] 4 t_1):qbb P w K mg base CX0 5 f fd ["rows"] (spP K G C t_2):=
 qcJ F quf fun cdv A outer s H E hr=>qam (qcB (qah F_1 rfl (hr.mono (by decide)) rfl (qab (qaa (pv 0)) (qal)))) (qax (qcB (qah F_3 rfl (hr.mono (by decide)) rfl (qab (qaa (pv 0)) (qal)))))
theorem quw {f:Addr} {fd:FuncData} (F:Fun K "refuse_out_of_order" "refuse_out_of_order" s_3 f fd) (nb: ∀x∈namesD,mg x=none) (F_25:Kn P w K mg base G C "is_log" ["rows"] 1 qp4):qbb P w K mg base CX0 2 f fd ["rows"] (spP K G C t_3):=
 qcJ F que fun cdv A outer s H E hr=>qax (qc6 (qc4 (qdi (qah F_25 rfl (hr.mono (by decide)) rfl (qab (qaa (pv 0)) (qal))))) (qc5) (qbq))
end
end K19
end
section
namespace K19
open PySem L2 PL SetL
section
variable {P:Program} {w:World} {K:PySem.W.Frag} {mg:Str→Option Value} {base:Heap} {G:Gam} {C:Str→Addr}
theorem qsG {f:Addr} {fd:FuncData} (F:Fun K "shifted" "shifted" qru f fd) (nb: ∀x∈namesD,mg x=none) (F_24:Kn P w K mg base G C "is_row" ["thing"] 3 qmn) (F_16:Kn P w K mg base G C "is_whole" ["thing"] 1 qpQ) (F_2:Kn P w K mg base G C "refuse_what_is_no_log" ["rows"] 5 t_2):qbb P w K mg base CX0 6 f fd ["rows", "by"] (spP K G C qnC):=
 qcJ F qqg fun cdv A outer s H E hr=>qam (qcB (qah F_2 rfl (hr.mono (by decide)) rfl (qab (qaa (pv 0)) (qal)))) (qam (qc6 (qc4 (qdi (qah F_16 rfl (hr.mono (by decide)) rfl (qab (qaa (pv 1)) (qal))))) (qc5) (qbq)) (qam (qhU (i:=2) (own:=["moment", "key", "number"]) (fr:=[("by",1)]) rfl (qcu (qaa (pv 0))) (qpf (qel (qcI) (qel (qcI) (qel (qcI) (qlv))))) rfl (by decide+kernel) (by decide+kernel) (RH.fr_ok (sd:=qad qru) rfl (by decide+kernel)) (fun p hp=>by simp only[List.mem_cons,List.not_mem_nil,or_false] at hp; subst hp; exact ⟨rfl,rfl⟩) (fun fp s3 H3=>⟨qi0 rfl (qbQ (qb8 (qay (i:=0) (show (["moment", "key", "number", "by"]:List Str).Nodup by decide+kernel) rfl (by first | exact Or.inl rfl | exact Or.inr rfl))) (qbQ (qb8 (qay (i:=1) (show (["moment", "key", "number", "by"]:List Str).Nodup by decide+kernel) rfl (by first | exact Or.inl rfl | exact Or.inr rfl))) (qbQ (qb8 (qay (i:=2) (show (["moment", "key", "number", "by"]:List Str).Nodup by decide+kernel) rfl (by first | exact Or.inl rfl | exact Or.inr rfl))) (qf2)))),qbs,qen (qab (qa6 qaX qbm qbo (qaa (pv 0)) (qaa (pv 3))) (qab (qaa (pv 1)) (qab (qaa (pv 2)) (qal))))⟩) qqg.nd rfl rfl) (qam (qc6 (qc4 (qdi (qi3 (qaB (qcQ rfl) rfl (nb "all" (by decide)) boot_all (qaf (qb5 (qbR (own:=["row"]) (fr:=[]) rfl (qcu (qaa (pv 2))) (qcI) rfl (by decide+kernel) (by decide+kernel) (fun y hy e=>absurd e ((by decide+kernel: ∀y∈_,y.2≠NameKind.free) y hy)) (fun p hp=>nomatch hp) (fun fp s3 H3=>⟨qb8 (qay (i:=0) (show (["row"]:List Str).Nodup by decide+kernel) rfl (by first | exact Or.inl rfl | exact Or.inr rfl)),qbs,qah F_24 rfl (hr.mono (by decide)) rfl (qab (qaa (pv 0)) (qal))⟩))) qaq))))) (qc5) (qbq)) (qax (qba (qaa (pv 2)))))))
theorem qsJ {f:Addr} {fd:FuncData} (F:Fun K "_law_key" "_law_key" qsh f fd) (nb: ∀x∈namesD,mg x=none) (F_14:Kn P w K mg base G C "_law_pick" ["_law_script", "_law_k", "_law_many"] 2 qdY):qbb P w K mg base CX0 3 f fd ["_law_script", "_law_at"] (spP K G C qnD):=
 qcJ F qmq fun cdv A outer s H E hr=>qam (qct (i:=2) qmq.nd rfl (by first | exact Or.inl rfl | exact Or.inr rfl) (qdj)) (qam (qct (i:=3) qmq.nd rfl (by first | exact Or.inl rfl | exact Or.inr rfl) (qah F_14 rfl (hr.mono (by decide)) rfl (qab (qaa (pv 0)) (qab (qaa (pv 1)) (qab (qap) (qal)))))) (qam (qc6 (qcs qsz qso qsu (qaa (pv 3)) (qap)) (qax (qba (qcK qbC qcC qcD (qaH (qcU (qab (qdj) (qab (qdj) (qab (qdj) (qal)))))) (qa6 qgu qqo qqv (qaa (pv 3)) (qap)) (fun _ _=>rfl)))) (qbq)) (qam (qct (i:=4) qmq.nd rfl (by first | exact Or.inl rfl | exact Or.inr rfl) (qcK qbC qcC qcD (qaa (pv 2)) (qah F_14 rfl (hr.mono (by decide)) rfl (qab (qaa (pv 0)) (qab (qa6 qaX qbm qbo (qaa (pv 1)) (qap)) (qab (qap) (qal))))) (fun _ _=>rfl))) (qam (qc6 (qcs (qfk (hu8 hr)) qjk qjr (qah F_14 rfl (hr.mono (by decide)) rfl (qab (qaa (pv 0)) (qab (qa6 qaX qbm qbo (qaa (pv 1)) (qap)) (qab (qap) (qal))))) (qap)) (qax (qba (qaa (pv 4)))) (qbq)) (qax (qba (qa6 qaX qbm qbo (qaa (pv 4)) (qcK qbC qcC qcD (qaa (pv 2)) (qah F_14 rfl (hr.mono (by decide)) rfl (qab (qaa (pv 0)) (qab (qa6 qaX qbm qbo (qaa (pv 1)) (qap)) (qab (qap) (qal))))) (fun _ _=>rfl)))))))))
theorem qsD {f:Addr} {fd:FuncData} (F:Fun K "is_log" "is_log" qsc f fd) (nb: ∀x∈namesD,mg x=none):qbb P w K mg base CX0 1 f fd ["rows"] (spP K G C qp4):=
 qcJ F qrZ fun cdv A outer s H E hr=>qax (qba (qi3 (qaB (qcQ rfl) rfl (nb "all" (by decide)) boot_all (qaf (qb5 (qbR (own:=["ahead", "row"]) (fr:=[]) rfl (qq7 rfl (nb "zip" (by decide)) (qab (qaa (pv 0)) (qab (qaH (qnq (qbP (pv 0)) (qf0 (qap)) (qf1))) (qal)))) (qpf (qel (qcI) (qel (qcI) (qlv)))) rfl (by decide+kernel) (by decide+kernel) (fun y hy e=>absurd e ((by decide+kernel: ∀y∈_,y.2≠NameKind.free) y hy)) (fun p hp=>nomatch hp) (fun fp s3 H3=>⟨qi0 rfl (qbQ (qb8 (qay (i:=0) (show (["ahead", "row"]:List Str).Nodup by decide+kernel) rfl (by first | exact Or.inl rfl | exact Or.inr rfl))) (qbQ (qb8 (qay (i:=1) (show (["ahead", "row"]:List Str).Nodup by decide+kernel) rfl (by first | exact Or.inl rfl | exact Or.inr rfl))) (qf2))),qbs,qlP qdp qhi qhs (qcK qbC qcC qcD (qaa (pv 0)) (qap) (fun _ _=>rfl)) (qcK qbC qcC qcD (qaa (pv 1)) (qap) (fun _ _=>rfl))⟩))) qaq))))
theorem qsB {f:Addr} {fd:FuncData} (F:Fun K "merged" "merged" qsb f fd) (nb: ∀x∈namesD,mg x=none) (F_17:Kn P w K mg base G C "in_order" ["rows"] 5 qpP) (F_2:Kn P w K mg base G C "refuse_what_is_no_log" ["rows"] 5 t_2):qbb P w K mg base CX0 6 f fd ["logs"] (spP K G C qov):=
 qcJ F qoE fun cdv A outer s H E hr=>qam (qhV (i:=1) qoE.nd rfl (by first | exact Or.inl rfl | exact Or.inr rfl) (qcU (qal))) (qam (qlD PassesOwn.never rfl (qcu (qaa (pv 0))) (qb8 (qay (i:=2) qoE.nd rfl (by first | exact Or.inl rfl | exact Or.inr rfl))) (qam (qcB (qah F_2 rfl (hr.mono (by decide)) rfl (qab (qaa (pv 2)) (qal)))) (qax (qgU (qht PySem.F.plainAttrs_list PySem.F.slot_list_extend PySem.F.type_list_extend qeM (pv 1) (qaf (qbP (pv 2)) qaq)))))) (qax (qoc 1 (qba (qah F_17 rfl (hr.mono (by decide)) rfl (qab (qaa (pv 1)) (qal)))))))
theorem qsL {f:Addr} {fd:FuncData} (F:Fun K "is_whole" "is_whole" qsi f fd) (nb: ∀x∈namesD,mg x=none) (kt: ∀N∈["int", "bool", "str", "tuple"],qmc K N):qbb P w K mg base CX0 1 f fd ["thing"] (spP K G C qpQ):=
 qcJ F qr5 fun cdv A outer s H E hr=>qax (qba (qlQ (qf3 (qaB (qcx (kt "int" (by decide))) rfl (nb "isinstance" (by decide)) PyProof.Rows.boot_isinstance (qaf (qaa (pv 0)) (qaf (qc3 (v:=.ty "int") rfl (nb "int" (by decide)) PyProof.Rows.boot_int rfl) qaq)))) (qlO (qrb (qf3 (qaB (qcx (kt "bool" (by decide))) rfl (nb "isinstance" (by decide)) PyProof.Rows.boot_isinstance (qaf (qaa (pv 0)) (qaf (qc3 (v:=.ty "bool") rfl (nb "bool" (by decide)) PyProof.Rows.boot_bool rfl) qaq))))))))
theorem qsH {f:Addr} {fd:FuncData} (F:Fun K "keys_of" "keys_of" qsf f fd) (nb: ∀x∈namesD,mg x=none):qbb P w K mg base CX0 1 f fd ["rows"] (spP K G C qpO):=
 qcJ F qr2 fun cdv A outer s H E hr=>qax (qba (qaH (qlJ rfl rfl (nb "sorted" (by decide)) rfl (nb "set" (by decide)) (qb5 (qbR (own:=["row"]) (fr:=[]) rfl (qcu (qaa (pv 0))) (qcI) rfl (by decide+kernel) (by decide+kernel) (fun y hy e=>absurd e ((by decide+kernel: ∀y∈_,y.2≠NameKind.free) y hy)) (fun p hp=>nomatch hp) (fun fp s3 H3=>⟨qb8 (qay (i:=0) (show (["row"]:List Str).Nodup by decide+kernel) rfl (by first | exact Or.inl rfl | exact Or.inr rfl)),qbs,qcK qbC qcC qcD (qaa (pv 0)) (qap) (fun _ _=>rfl)⟩))))))
end
end K19
end
section
namespace K19
open PySem L2 PL SetL
section
variable {P:Program} {w:World} {K:PySem.W.Frag} {mg:Str→Option Value} {base:Heap} {G:Gam} {C:Str→Addr}
theorem qsE {f:Addr} {fd:FuncData} (F:Fun K "is_row" "is_row" qsd f fd) (nb: ∀x∈namesD,mg x=none) (kt: ∀N∈["int", "bool", "str", "tuple"],qmc K N) {u_5:Value} (cm_5:mg "GREATEST_MOMENT" =some u_5) (cr_5:RelV (.int 99) u_5) {u_6:Value} (cm_6:mg "GREATEST_NUMBER" =some u_6) (cr_6:RelV (.int 99) u_6) (F_23:Kn P w K mg base G C "is_key" ["thing"] 2 qnB) (F_7:Kn P w K mg base G C "is_whole_within" ["thing", "least", "greatest"] 2 t_7):qbb P w K mg base CX0 3 f fd ["thing"] (spP K G C qmn):=
 qcJ F qr0 fun cdv A outer s H E hr=>qam (qc6 (qq5 (qnj (qc4 (qdi (qf3 (qaB (qcx (kt "tuple" (by decide))) rfl (nb "isinstance" (by decide)) PyProof.Rows.boot_isinstance (qaf (qaa (pv 0)) (qaf (qc3 (v:=.ty "tuple") rfl (nb "tuple" (by decide)) boot_tuple rfl) qaq)))))) (qiY (qcs (op_neT (hu8 hr)) qhh qhr (qeV rfl (nb "len" (by decide)) (qaa (pv 0))) (qap))))) (qax (qba (qgX))) (qbq)) (qam (qc6 (qq5 (qnj (qc4 (qdi (qah F_7 rfl (hr.mono (by decide)) rfl (qab (qcK qbC qcC qcD (qaa (pv 0)) (qap) (fun _ _=>rfl)) (qab (qap) (qab (qdt (qc2 rfl cm_5 cr_5) (fun _=>qbB)) (qal))))))) (qiY (qc4 (qdi (qah F_23 rfl (hr.mono (by decide)) rfl (qab (qcK qbC qcC qcD (qaa (pv 0)) (qap) (fun _ _=>rfl)) (qal)))))))) (qax (qba (qgX))) (qbq)) (qax (qba (qah F_7 rfl (hr.mono (by decide)) rfl (qab (qcK qbC qcC qcD (qaa (pv 0)) (qap) (fun _ _=>rfl)) (qab (qrc (qdt (qc2 rfl cm_6 cr_6) (fun _=>qbB))) (qab (qdt (qc2 rfl cm_6 cr_6) (fun _=>qbB)) (qal))))))))
theorem qsO {f:Addr} {fd:FuncData} (F:Fun K "keys_changed" "keys_changed" qrv f fd) (nb: ∀x∈namesD,mg x=none) (F_23:Kn P w K mg base G C "is_key" ["thing"] 2 qnB) (F_2:Kn P w K mg base G C "refuse_what_is_no_log" ["rows"] 5 t_2):qbb P w K mg base CX0 6 f fd ["rows", "old", "new"] (spP K G C qnE):=
 qcJ F qr7 fun cdv A outer s H E hr=>qam (qcB (qah F_2 rfl (hr.mono (by decide)) rfl (qab (qaa (pv 0)) (qal)))) (qam (qc6 (qq5 (qnj (qc4 (qdi (qah F_23 rfl (hr.mono (by decide)) rfl (qab (qaa (pv 1)) (qal))))) (qiY (qc4 (qdi (qah F_23 rfl (hr.mono (by decide)) rfl (qab (qaa (pv 2)) (qal)))))))) (qc5) (qbq)) (qax (qba (qaH (qbR (own:=["moment", "key", "number"]) (fr:=[("old",1),("new",2)]) rfl (qcu (qaa (pv 0))) (qpf (qel (qcI) (qel (qcI) (qel (qcI) (qlv))))) rfl (by decide+kernel) (by decide+kernel) (RH.fr_ok (sd:=qad qrv) rfl (by decide+kernel)) (fun p hp=>by simp only[List.mem_cons,List.not_mem_nil,or_false] at hp; rcases hp with rfl | rfl<;>exact ⟨rfl,rfl⟩) (fun fp s3 H3=>⟨qi0 rfl (qbQ (qb8 (qay (i:=0) (show (["moment", "key", "number", "old", "new"]:List Str).Nodup by decide+kernel) rfl (by first | exact Or.inl rfl | exact Or.inr rfl))) (qbQ (qb8 (qay (i:=1) (show (["moment", "key", "number", "old", "new"]:List Str).Nodup by decide+kernel) rfl (by first | exact Or.inl rfl | exact Or.inr rfl))) (qbQ (qb8 (qay (i:=2) (show (["moment", "key", "number", "old", "new"]:List Str).Nodup by decide+kernel) rfl (by first | exact Or.inl rfl | exact Or.inr rfl))) (qf2)))),qbs,qen (qab (qaa (pv 0)) (qab (qre (qcs (qfk (hu8 hr)) qjk qjr (qaa (pv 1)) (qaa (pv 3))) (qaa (pv 4)) (qaa (pv 1))) (qab (qaa (pv 2)) (qal))))⟩))))))
theorem qsI {f:Addr} {fd:FuncData} (F:Fun K "is_word" "is_word" qsg f fd) (nb: ∀x∈namesD,mg x=none) (kt: ∀N∈["int", "bool", "str", "tuple"],qmc K N):qbb P w K mg base CX0 1 f fd ["thing", "longest"] (spP K G C qp5):=
 qcJ F qr3 fun cdv A outer s H E hr=>qam (qc6 (qq5 (qnj (qc4 (qdi (qf3 (qaB (qcx (kt "str" (by decide))) rfl (nb "isinstance" (by decide)) PyProof.Rows.boot_isinstance (qaf (qaa (pv 0)) (qaf (qc3 (v:=.ty "str") rfl (nb "str" (by decide)) PyProof.Rows.boot_str rfl) qaq)))))) (qiY (qc4 (qnn qdp qdp qhi qhs qhi qhs (qap) (qeV rfl (nb "len" (by decide)) (qaa (pv 0))) (qaa (pv 1))))))) (qax (qba (qgX))) (qbq)) (qax (qba (qi3 (qaB (qcQ rfl) rfl (nb "all" (by decide)) boot_all (qaf (qb5 (qbR (own:=["sign"]) (fr:=[]) rfl (qq8 (qaa (pv 0))) (qcI) rfl (by decide+kernel) (by decide+kernel) (fun y hy e=>absurd e ((by decide+kernel: ∀y∈_,y.2≠NameKind.free) y hy)) (fun p hp=>nomatch hp) (fun fp s3 H3=>⟨qb8 (qay (i:=0) (show (["sign"]:List Str).Nodup by decide+kernel) rfl (by first | exact Or.inl rfl | exact Or.inr rfl)),qbs,qi2 qdp qdp qhi qhs qhi qhs (qdj) (qaa (pv 0)) (qdj)⟩))) qaq)))))
theorem qsN {f:Addr} {fd:FuncData} (F:Fun K "_law_number" "_law_number" qsm f fd) (nb: ∀x∈namesD,mg x=none) (F_14:Kn P w K mg base G C "_law_pick" ["_law_script", "_law_k", "_law_many"] 2 qdY):qbb P w K mg base CX0 3 f fd ["_law_script", "_law_at", "_law_most"] (spP K G C qow):=
 qcJ F qr6 fun cdv A outer s H E hr=>qam (qc6 (qcs (qfk (hu8 hr)) qjk qjr (qah F_14 rfl (hr.mono (by decide)) rfl (qab (qaa (pv 0)) (qab (qaa (pv 1)) (qab (qap) (qal))))) (qap)) (qax (qba (qa6 qiv qku qkK (qah F_14 rfl (hr.mono (by decide)) rfl (qab (qaa (pv 0)) (qab (qa6 qaX qbm qbo (qaa (pv 1)) (qap)) (qab (qa6 qaX qbm qbo (qa6 qfj qnU qnZ (qap) (qaa (pv 2))) (qap)) (qal))))) (qaa (pv 2))))) (qbq)) (qax (qba (qa6 qiv qku qkK (qah F_14 rfl (hr.mono (by decide)) rfl (qab (qaa (pv 0)) (qab (qa6 qaX qbm qbo (qaa (pv 1)) (qap)) (qab (qap) (qal))))) (qap))))
theorem quy {f:Addr} {fd:FuncData} (F:Fun K "refuse_what_is_no_row" "refuse_what_is_no_row" s_1 f fd) (nb: ∀x∈namesD,mg x=none) (F_24:Kn P w K mg base G C "is_row" ["thing"] 3 qmn):qbb P w K mg base CX0 4 f fd ["rows"] (spP K G C t_1):=
 qcJ F qug fun cdv A outer s H E hr=>qax (qc6 (qc4 (qdi (qi3 (qaB (qcQ rfl) rfl (nb "all" (by decide)) boot_all (qaf (qb5 (qbR (own:=["row"]) (fr:=[]) rfl (qcu (qaa (pv 0))) (qcI) rfl (by decide+kernel) (by decide+kernel) (fun y hy e=>absurd e ((by decide+kernel: ∀y∈_,y.2≠NameKind.free) y hy)) (fun p hp=>nomatch hp) (fun fp s3 H3=>⟨qb8 (qay (i:=0) (show (["row"]:List Str).Nodup by decide+kernel) rfl (by first | exact Or.inl rfl | exact Or.inr rfl)),qbs,qah F_24 rfl (hr.mono (by decide)) rfl (qab (qaa (pv 0)) (qal))⟩))) qaq))))) (qc5) (qbq))
theorem qsF {f:Addr} {fd:FuncData} (F:Fun K "is_key" "is_key" qse f fd) (nb: ∀x∈namesD,mg x=none) {u_11:Value} (cm_11:mg "LONGEST_KEY" =some u_11) (cr_11:RelV (.int 2) u_11) (F_20:Kn P w K mg base G C "is_word" ["thing", "longest"] 1 qp5):qbb P w K mg base CX0 2 f fd ["thing"] (spP K G C qnB):=
 qcJ F qr1 fun cdv A outer s H E hr=>qax (qba (qah F_20 rfl (hr.mono (by decide)) rfl (qab (qaa (pv 0)) (qab (qdt (qc2 rfl cm_11 cr_11) (fun _=>qbB)) (qal)))))
theorem quv {f:Addr} {fd:FuncData} (F:Fun K "is_whole_within" "is_whole_within" s_7 f fd) (nb: ∀x∈namesD,mg x=none) (F_16:Kn P w K mg base G C "is_whole" ["thing"] 1 qpQ):qbb P w K mg base CX0 2 f fd ["thing", "least", "greatest"] (spP K G C t_7):=
 qcJ F qud fun cdv A outer s H E hr=>qax (qba (qlQ (qah F_16 rfl (hr.mono (by decide)) rfl (qab (qaa (pv 0)) (qal))) (qlO (qi2 qdp qdp qhi qhs qhi qhs (qaa (pv 1)) (qaa (pv 0)) (qaa (pv 2))))))
end
end K19
end
section
end
section
namespace K19
open PySem L2 RH PL SR
theorem qk8 {P:Program} {w:World} {K:PySem.W.Frag} {mg:Str→Option Value} {base:Heap} {T_17:Addr} {C:Str→Addr} {f:Addr} {fd:FuncData} (F:qbb P w K mg base CX0 7 f fd ["one", "other", "width"] (K19J.spJoined K T_17)) (m:mg "joined" =some (.ref f))
  (k:PySem.W.keepIn K (.ref f)=true) (b:qbz K fd ["one", "other", "width"] []):Kn P w K mg base (gL T_17) C "joined" ["one", "other", "width"] 7 qfa:=by
 refine ⟨f,fd,F.imp fun vs H Q E h=> ?_,m,k,b⟩
 obtain ⟨B,ts,le,bt,gm,r,w⟩:=h
 unfold qfa at w
 split at w
 ·rename_i a b wd
  split at w
  ·rename_i hc
   obtain ⟨v1,r1,rfl,a1,b1⟩:=r.inv
   obtain ⟨v2,r2,rfl,a2,b2⟩:=b1.inv
   obtain ⟨v3,r3,rfl,a3,b3⟩:=b2.inv
   cases b3.inv0
   unfold Rep at a1 a2
   obtain ⟨p1,vs1,rfl,h1,q1⟩:=a1
   obtain ⟨p2,vs2,rfl,h2,q2⟩:=a2
   cases qar a3
   have tb:Tab T_17 qfR qd1 H:=gm _ (List.mem_singleton.mpr rfl)
   refine ⟨p1,p2,wd,_,_,rfl,qiI le h1 q1 hc.1,qiI le h2 q2 hc.2.1,hc.2.2,tb,fun H' D ys sT tb' nD hD TA=> ?_⟩
   exact w (.ref D) H' _ (qhO le bt ⟨_,tb.choose_spec.1⟩ ⟨_,tb'.choose_spec.1⟩ sT nD hD) (fun p hp=>by rw[List.mem_singleton.mp hp]; exact tb') (qjn hD TA)
  ·exact w.elim
 ·exact w.elim
end K19
end
section
namespace HD
open PySem L2 PL
abbrev e2 (x:Str) (s:Stmt):Str×Stmt:=(x,s)
abbrev c2 (x:Str) (n:Int):Str×Int:=(x,n)
def qs0 (K:PySem.W.Frag) (x:Str):Option (Addr×Obj):=match PySem.W.nsIn K mainGlobals x with
 | some (some (.ref f))=>(match K.lookup f with | some o=>some (f,o) | none=>none)
 | _=>none
def qna (K:PySem.W.Frag) (x:Str):Option FuncData:=match qs0 K x with
 | some (_,⟨_,_,.func fd,_⟩)=>some fd
 | _=>none
def okD (K:PySem.W.Frag) (x:Str):Bool:=match qs0 K x with
 | some (f,⟨_,_,.func fd,_⟩)=>PySem.W.codeIn K fd.code x&&PySem.W.keepIn K (.ref f)
 | _=>false
def due (x:Str) (st:Stmt) (fd:FuncData):FuncData:=PySem.W.fnOf x x (qaM st) (qaF st) (qad st) .none fd.kwdefaults fd.doc fd.pyModule fd.annotations fd.code fd.closureTuple
def okN (K:PySem.W.Frag) (x:Str):Bool:=match PySem.W.nsIn K mainGlobals x with
 | some none=>true
 | _=>false
def okC (K:PySem.W.Frag) (c:Str×Int):Bool:=match PySem.W.nsIn K mainGlobals c.1 with
 | some (some (.int n _))=>n==c.2
 | _=>false
def Df (K:PySem.W.Frag) (mg:Str→Option Value) (x:Str) (st:Stmt):Prop:=
 ∃(f:Addr) (oc:Value) (od:Option Addr) (osl:Array (Option Value)) (kV doc pm:Value) (an:Option Addr) (cdv ct:Value),
  K.lookup f=some ⟨oc,od,.func (PySem.W.fnOf x x (qaM st) (qaF st) (qad st) .none kV doc pm an cdv ct),osl⟩∧PySem.W.codeIn K cdv x=true∧PySem.W.keepIn K (.ref f)=true∧mg x=some (.ref f)∧
   PySem.W.nsIn K mainGlobals x=some (some (.ref f))
section
variable {K:PySem.W.Frag} {h:Heap} {mg:Str→Option Value} {x:Str} {st:Stmt} {tb:List (Str×Stmt)}
theorem qs5 (X:K.In h) (G:h.Ns mainGlobals mg) (a:okD K x=true) (e:qna K x=(qna K x).map (due x st)):Df K mg x st:=by
 unfold okD at a
 unfold qna at e
 split at a
 ·rename_i f oc od fd osl q
  rw[q] at e
  have e:fd=due x st fd:=Option.some.inj e
  unfold qs0 at q
  split at q
  ·rename_i f' n
   split at q
   ·rename_i o lk
    cases q
    have a:=Bool.and_eq_true_iff.mp a
    exact ⟨_,_,_,_,fd.kwdefaults,fd.doc,fd.pyModule,fd.annotations,fd.code,fd.closureTuple,by rw[lk,show PySem.W.fnOf x x (qaM st) (qaF st) (qad st) .none fd.kwdefaults fd.doc fd.pyModule fd.annotations fd.code fd.closureTuple=fd from e.symm],a.1,a.2,PySem.W.mg_of X G n,n⟩
   ·cases q
  ·cases q
 ·cases a
theorem qoe (X:K.In h) (G:h.Ns mainGlobals mg) (a:(tb.all fun p=>okD K p.1)=true) (e:tb.map (fun p=>qna K p.1)=tb.map fun p=>(qna K p.1).map (due p.1 p.2)): ∀(i:Nat) (x:Str) (st:Stmt),tb[i]? =some (x,st)→Df K mg x st:=fun i x st hi=>by
 have a:=List.all_eq_true.mp a _ (List.mem_of_getElem? hi)
 have e:=congrArg (fun l=>l[i]?) e
 simp only[List.getElem?_map,hi,Option.map_some] at e
 exact qs5 X G a (Option.some.inj e)
theorem qqI (X:K.In h) (G:h.Ns mainGlobals mg) {l:List Str} (a:l.all (okN K)=true): ∀x∈l,mg x=none:=fun x hx=>by
 have a:=List.all_eq_true.mp a x hx
 unfold okN at a
 split at a
 ·rename_i q; exact PySem.W.mg_none_of X G q
 ·cases a
theorem qrh (X:K.In h) (G:h.Ns mainGlobals mg) {l:List (Str×Int)} (a:l.all (okC K)=true): ∀(i:Nat) (x:Str) (n:Int),l[i]? =some (x,n)→∃u,mg x=some u∧RelV (.int n) u:=fun i x n hi=>by
 have a:=List.all_eq_true.mp a _ (List.mem_of_getElem? hi)
 unfold okC at a
 split at a
 ·rename_i m tk q
  have:m=n:=by simpa using a
  subst this
  exact ⟨_,PySem.W.mg_of X G q,_,rfl⟩
 ·cases a
end
section
variable {P:Program} {w:World} {K:PySem.W.Frag} {mg:Str→Option Value} {base:Heap} {G:Gam} {C:Str→Addr} {x:Str} {st:Stmt} {ps:List Str} {k:Nat} {t:List T→Rs T}
theorem kn (D:Df K mg x st) (ok: ∀{f:Addr} {fd:FuncData},Fun K x x st f fd→qbb P w K mg base CX0 k f fd ps (spP K G C t))
  (hb: ∀(kV doc pm:Value) (an:Option Addr) (cdv ct:Value) (us:List Value),us.length=ps.length→bindArgs (PySem.W.fnOf x x (qaM st) (qaF st) (qad st) .none kV doc pm an cdv ct) ⟨us,[]⟩=pure (ps.zip us):=by
   exact fun _ _ _ _ _ _ us hl=>by first | (obtain ⟨a,e⟩:=qqM hl; subst e; rfl) | (obtain ⟨a,b,e⟩:=qpU hl; subst e; rfl) | (obtain ⟨a,b,c,e⟩:=qpT hl; subst e; rfl) | (obtain ⟨a,b,c,d,e⟩:=len4 hl; subst e; rfl)):Kn P w K mg base G C x ps k t:=by
 obtain ⟨f,oc,od,osl,kV,doc,pm,an,cdv,ct,lk,hcd,kp,m, -⟩:=D
 have F:=qdO lk hcd kp
 exact ⟨_,_,ok F,m,kp,F.binds hb⟩
theorem qlU (D:Df K mg x st) {c T:Addr} (ht:PySem.W.tabIn K x=some (c,T)): ∃(f:Addr) (oc:Value) (od:Option Addr) (osl:Array (Option Value)) (kV doc pm:Value) (an:Option Addr) (cdv ct:Value),
  K.lookup f=some ⟨oc,od,.func (PySem.W.fnOf x x (qaM st) (qaF st) (qad st) .none kV doc pm an cdv ct),osl⟩∧PySem.W.codeIn K cdv x=true∧PySem.W.keepIn K (.ref f)=true∧mg x=some (.ref f)∧cdv= .ref c:=by
 obtain ⟨f,oc,od,osl,kV,doc,pm,an,cdv,ct,lk,hcd,kp,m,n⟩:=D
 refine ⟨f,oc,od,osl,kV,doc,pm,an,cdv,ct,lk,hcd,kp,m,?_⟩
 unfold PySem.W.tabIn at ht
 rw[n] at ht
 simp only[lk] at ht
 cases cdv with
 | ref c'=>
  dsimp only at ht
  split at ht
  ·split at ht
   ·cases ht; rfl
   ·cases ht
  ·cases ht
 | _=>cases ht
theorem knL (D:Df K mg x st) {c T:Addr} (ht:PySem.W.tabIn K x=some (c,T)) (hC:PySem.W.CodeHd base c T)
  (ok: ∀{f:Addr} {oc kV doc pm cdv ct:Value} {od an:Option Addr} {osl:Array (Option Value)},K.lookup f=some ⟨oc,od,.func (PySem.W.fnOf x x (qaM st) (qaF st) (qad st) .none kV doc pm an cdv ct),osl⟩→PySem.W.codeIn K cdv x=true→cdv= .ref c→PySem.W.CodeHd base c T→
   qbb P w K mg base CX0 k f (PySem.W.fnOf x x (qaM st) (qaF st) (qad st) .none kV doc pm an cdv ct) ps (spP K G C t))
  (hb: ∀(kV doc pm:Value) (an:Option Addr) (cdv ct:Value) (us:List Value),us.length=ps.length→bindArgs (PySem.W.fnOf x x (qaM st) (qaF st) (qad st) .none kV doc pm an cdv ct) ⟨us,[]⟩=pure (ps.zip us):=by
   exact fun _ _ _ _ _ _ us hl=>by first | (obtain ⟨a,e⟩:=qqM hl; subst e; rfl) | (obtain ⟨a,b,e⟩:=qpU hl; subst e; rfl) | (obtain ⟨a,b,c,e⟩:=qpT hl; subst e; rfl) | (obtain ⟨a,b,c,d,e⟩:=len4 hl; subst e; rfl)):Kn P w K mg base G C x ps k t:=by
 obtain ⟨f,oc,od,osl,kV,doc,pm,an,cdv,ct,lk,hcd,kp,m,hc⟩:=qlU D ht
 have F:=qdO lk hcd kp
 exact ⟨_,_,ok lk hcd hc hC,m,kp,F.binds hb⟩
end
theorem qnG {K:PySem.W.Frag} {lq:List (Pos×Str)} {Ts:List Addr} {H:Hp} {a:Addr} {ns:List Int} {C:Str→Addr} {t:List T→Rs T} (ht:t [.scr ns]= .ok (.bl true)) (hO:qg9 Ts H) (hS:SqL K H a (ns.map V.int)):spP K (qer (Ts.zip lq)) C t [.ref a] H (fun v _=>v= .bl true) fun _ _ _=>False:=by
 have fin: ∀B:Hp,Le B H→(∀a ps,B a≠some (.tbl ps))→SqL K B a (ns.map V.int)→spP K (qer (Ts.zip lq)) C t [.ref a] H (fun v _=>v= .bl true) fun _ _ _=>False:=fun B le bt sq=>by
  refine ⟨B,[.scr ns],le,bt,qrL hO,.cons (by unfold Rep; exact ⟨a,rfl,sq⟩) .nil,?_⟩
  rw[ht]
  exact fun v H' B' _ _ r=>qbA r
 have cut: ∀{o:HO},H a=some o→(∀ps,o≠.tbl ps)→SqL K (fun b=>if b=a then H a else none) a (ns.map V.int)→spP K (qer (Ts.zip lq)) C t [.ref a] H (fun v _=>v= .bl true) fun _ _ _=>False:=fun {o} ho n sq=>
  fin _ (fun b o z=>by
   by_cases c:b=a
   ·subst c; simpa using z
   ·simp[c] at z) (fun b ps z=>by
   by_cases c:b=a
   ·subst c; simp[ho] at z; exact n ps z
   ·simp[c] at z) sq
 rcases hS with (hS | ⟨o,hS⟩) | hS
 ·exact cut hS (fun ps z=>by cases z) (.inl (.inl (by simp[hS])))
 ·exact cut hS (fun ps z=>by cases z) (.inl (.inr ⟨o,by simp[hS]⟩))
 ·exact fin (fun _=>none) (fun _ _ z=>by cases z) (fun _ _ z=>by cases z) (.inr hS)
def tOf (K:PySem.W.Frag) (y:Str):Addr:=((PySem.W.tabIn K y).getD (0,0)).2
def qeY (K:PySem.W.Frag) (ys:List Str):List (Addr×Addr):=ys.map fun y=>(PySem.W.tabIn K y).getD (0,0)
def okT (K:PySem.W.Frag) (ys:List Str):Bool:=decide (ys.map (tOf K)).Nodup&&ys.all fun y=>match PySem.W.tabIn K y with
 | some (_,T)=>(match K.lookup T with | none=>true | some _=>false)
 | none=>false
theorem qi4 {K:PySem.W.Frag} {ys:List Str} (h:okT K ys=true):ys.map (PySem.W.tabIn K)=(qeY K ys).map some∧(∀T∈(qeY K ys).map (·.2),K.lookup T=none)∧(ys.map (tOf K)).Nodup:=by
 have h:=Bool.and_eq_true_iff.mp h
 have nd:=of_decide_eq_true h.1
 have h:=List.all_eq_true.mp h.2
 refine ⟨?_,?_,nd⟩
 ·unfold qeY
  rw[List.map_map]
  refine List.map_congr_left fun y hy=> ?_
  have:=h y hy
  show PySem.W.tabIn K y=some ((PySem.W.tabIn K y).getD (0,0))
  cases q:PySem.W.tabIn K y with
  | none=>rw[q] at this; cases this
  | some p=>rfl
 ·intro T hT
  obtain ⟨p,hp,rfl⟩:=List.mem_map.mp hT
  obtain ⟨y,hy,rfl⟩:=List.mem_map.mp hp
  have:=h y hy
  cases q:PySem.W.tabIn K y with
  | none=>rw[q] at this; cases this
  | some p=>
   rw[q] at this
   dsimp only at this
   show K.lookup p.2=none
   split at this
   ·assumption
   ·cases this
theorem quX {l:PySem.W.OpenLaw} {q:Program} {loose:List Str} {XP:(Str→Option Value)→Heap→Prop} {YP:World→Heap→Prop} {d:DefRec} {K:Params→PySem.W.Frag} {tb:List (Str×Stmt)} {cs:List (Str×Int)} {nms:List Str} {ys:List Str} {lq:List (Pos×Str)} {LV:Nat} {sl:Stmt} {t:List T→Rs T}
  (hn:l.most=some 63) (hdf:d.params.defaults=[]) (hd:d.name= "law") (hY: ∀(w:World) (h:Heap),YP w h→(K w.params).In h) (hrec: ∀y∈ys,∃dx,(PyProof.Rows.recsOf q).find? (fun e=>e.name==y)=some dx) (hR:qcR LV callerA)
  (h1: ∀w:World,(tb.all fun p=>okD (K w.params) p.1)=true) (h2: ∀w:World,tb.map (fun p=>qna (K w.params) p.1)=tb.map fun p=>(qna (K w.params) p.1).map (due p.1 p.2)) (h3: ∀w:World,cs.all (okC (K w.params))=true) (h4: ∀w:World,nms.all (okN (K w.params))=true)
  (h5: ∀w:World,okT (K w.params) ys=true) {i:Nat} (hi:tb[i]? =some (Str.ofString "law",sl)) (hT: ∀ns:List Int,ns.length≤63→t [.scr ns]= .ok (.bl true))
  (hbl: ∀(kV doc pm:Value) (an:Option Addr) (cdv ct u:Value),bindArgs (PySem.W.fnOf "law" "law" (qaM sl) (qaF sl) (qad sl) .none kV doc pm an cdv ct) ⟨[u],[]⟩=pure [(Str.ofString "_law_script",u)])
  (F: ∀{w:World} {K:PySem.W.Frag} {mg:Str→Option Value} {base:Heap} {fa:Addr} {fd:FuncData},(∀(i:Nat) (x:Str) (st:Stmt),tb[i]? =some (x,st)→Df K mg x st)→(∀x∈nms,mg x=none)→(∀(i:Nat) (x:Str) (n:Int),cs[i]? =some (x,n)→∃u,mg x=some u∧RelV (.int n) u)→
   (∀y∈ys,∃c,PySem.W.tabIn K y=some (c,tOf K y)∧PySem.W.CodeHd base c (tOf K y))→(ys.map (tOf K)).Nodup→qf8 mg base→K.In base→Fun K "law" "law" sl fa fd→qbb l.prog w K mg base CX0 LV fa fd ["_law_script"] (spP K (qer ((ys.map (tOf K)).zip lq)) (fun _=>0) t)):
  PySem.W.WalkO q loose XP YP l.row.toRowW d [] (fun f vs=>PySem.call f vs):=by
 refine L2.walk_ofTs (n:=63) (k:=LV) (x:= "_law_script") (ys:=ys) (CX:=fun _=>CX0) (sp:=fun w cts=>spP (K w.params) (qer ((cts.map (·.2)).zip lq)) (fun _=>0) t) hn (by decide) hdf hR hY hrec ?_ (fun _ _ _ a ns hl hO hS=>qnG (hT ns hl) hO hS) fun _ _ _ _ _ z=>z
 intro w mg fa h X G hm
 have D:=qoe X G (h1 w) (h2 w)
 obtain ⟨f,oc,od,osl,kV,doc,pm,an,cdv,ct,lk,hcd,kp,m, -⟩:=D i _ _ hi
 rw[hd] at hm
 have e:=hm.symm.trans m
 cases e
 obtain ⟨t1,t2,nd⟩:=qi4 (h5 w)
 have em:(qeY (K w.params) ys).map (·.2)=ys.map (tOf (K w.params)):=by unfold qeY; rw[List.map_map]; rfl
 refine ⟨_,qeY (K w.params) ys,t1,t2,fun s u=>.of_eq (hbl kV doc pm an cdv ct u),fun base KI _ hC hb=> ?_⟩
 rw[em]
 refine F D (qqI X G (h4 w)) (qrh X G (h3 w)) (fun y hy=> ?_) nd hb KI (qdO lk hcd kp)
 have e1:some ((PySem.W.tabIn (K w.params) y).getD (0,0))=PySem.W.tabIn (K w.params) y:=by
  obtain ⟨j,hj,ej⟩:=List.mem_iff_getElem.mp hy
  have:=congrArg (fun l=>l[j]?) t1
  unfold qeY at this
  simp only[List.getElem?_map,List.getElem?_eq_getElem hj,ej,Option.map_some] at this
  exact (Option.some.inj this).symm
 exact ⟨((PySem.W.tabIn (K w.params) y).getD (0,0)).1,e1.symm,hC _ (List.mem_map.mpr ⟨y,hy,rfl⟩)⟩
end HD
end
section
namespace DH
open PySem PySem.Spec PyProof.Rows PySem.W
variable {prog:Program} {w:World} {A:Around} {E:Value→Shared→Prop} {s:Shared}
def qtQ (h:Heap) (d:Addr) (es:Array DictEntry) (ep:Nat):Prop:= ∃o,h.get? d=some o∧o.ExactDict∧o.data= .dict es ep
theorem qtQ.ty {d:Addr} {es:Array DictEntry} {ep:Nat} (x:qtQ s.heap d es ep):s.TypeIs (.ref d) "dict" :=let ⟨o,a,b,_⟩:=x; ⟨o,a,b.1⟩
end DH
end
section
namespace DH
open PySem PySem.Spec PyProof.Rows PySem.W L2
variable {prog:Program} {w:World} {A:Around} {E:Value→Shared→Prop} {s:Shared}
section
variable {R:Result→Shared→Prop} {I:Addr} {fp wr:List Addr} {n:Nat} {P:Nat→Value→Prop} {St:Nat→Heap→Prop}
end
end DH
end
section
namespace DH
open PySem PySem.Spec PyProof.Rows PySem.W L2
variable {prog:Program} {w:World} {A:Around} {E:Value→Shared→Prop} {s:Shared}
end DH
end
section
namespace PL
open PySem L2
section
variable {X:Cx} {pins:List (Addr×Obj)} {σ:St} {H:Hp} {s:Shared}
end
section
variable {M:Md} {X:Cx} {o e a:Expr} {pos p p1 apos cpos:Pos} {i:Nat} {dx:Ro→Rs Sl}
end
section
variable {M:Md} {X:Cx} {o e a:Expr} {pos p p1 apos cpos:Pos} {i:Nat} {dx:Ro→Rs Sl}
end
end PL
end
section
namespace PL
open PySem L2 SR SetL
section
variable {M:Md} {X:Cx} {o e a:Expr} {pos p p1 apos cpos:Pos} {i:Nat} {dx:Ro→Rs Sl}
end
end PL
end
section
namespace PL
open PySem L2
section
variable {M:Md} {X:Cx} {e a k value:Expr} {es:List Expr} {pos p dp pos':Pos} {i j n:Nat} {x D:Str} {da dk:Ro→Rs T} {ds:Ro→Rs (List T)} {tbl:List (Str×Str)}
end
section
variable {M:Md} {X:Cx} {e a k value:Expr} {es:List Expr} {pos p dp pos':Pos} {i j n:Nat} {x D:Str} {da dk:Ro→Rs T} {ds:Ro→Rs (List T)}
end
end PL
end
section
namespace HD
open PySem L2 PL
def KnX (P:Program) (w:World) (K:PySem.W.Frag) (mg:Str→Option Value) (base:Heap) (CX:CXT) (x:Str) (ps:List Str) (k:Nat) (sp:Sp):Prop:=
 ∃(f:Addr) (fd:FuncData),qbb P w K mg base CX k f fd ps sp∧mg x=some (.ref f)∧PySem.W.keepIn K (.ref f)=true∧qbz K fd ps []
section
variable {P:Program} {w:World} {K:PySem.W.Frag} {mg:Str→Option Value} {base:Heap} {CX:CXT} {x:Str} {st:Stmt} {ps:List Str} {k:Nat} {sp:Sp}
theorem knx (D:Df K mg x st) (ok: ∀{f:Addr} {fd:FuncData},Fun K x x st f fd→qbb P w K mg base CX k f fd ps sp)
  (hb: ∀(kV doc pm:Value) (an:Option Addr) (cdv ct:Value) (us:List Value),us.length=ps.length→bindArgs (PySem.W.fnOf x x (qaM st) (qaF st) (qad st) .none kV doc pm an cdv ct) ⟨us,[]⟩=pure (ps.zip us):=by
   exact fun _ _ _ _ _ _ us hl=>by first | (obtain ⟨a,e⟩:=qqM hl; subst e; rfl) | (obtain ⟨a,b,e⟩:=qpU hl; subst e; rfl) | (obtain ⟨a,b,c,e⟩:=qpT hl; subst e; rfl) | (obtain ⟨a,b,c,d,e⟩:=len4 hl; subst e; rfl)):KnX P w K mg base CX x ps k sp:=by
 obtain ⟨f,oc,od,osl,kV,doc,pm,an,cdv,ct,lk,hcd,kp,m, -⟩:=D
 have F:=qdO lk hcd kp
 exact ⟨_,_,ok F,m,kp,F.binds hb⟩
theorem quA (D:Df K mg x st) {c T:Addr} (ht:PySem.W.tabIn K x=some (c,T)) (hC:PySem.W.CodeHd base c T)
  (ok: ∀{f:Addr} {oc kV doc pm cdv ct:Value} {od an:Option Addr} {osl:Array (Option Value)},K.lookup f=some ⟨oc,od,.func (PySem.W.fnOf x x (qaM st) (qaF st) (qad st) .none kV doc pm an cdv ct),osl⟩→PySem.W.codeIn K cdv x=true→cdv= .ref c→PySem.W.CodeHd base c T→
   qbb P w K mg base CX k f (PySem.W.fnOf x x (qaM st) (qaF st) (qad st) .none kV doc pm an cdv ct) ps sp)
  (hb: ∀(kV doc pm:Value) (an:Option Addr) (cdv ct:Value) (us:List Value),us.length=ps.length→bindArgs (PySem.W.fnOf x x (qaM st) (qaF st) (qad st) .none kV doc pm an cdv ct) ⟨us,[]⟩=pure (ps.zip us):=by
   exact fun _ _ _ _ _ _ us hl=>by first | (obtain ⟨a,e⟩:=qqM hl; subst e; rfl) | (obtain ⟨a,b,e⟩:=qpU hl; subst e; rfl) | (obtain ⟨a,b,c,e⟩:=qpT hl; subst e; rfl) | (obtain ⟨a,b,c,d,e⟩:=len4 hl; subst e; rfl)):KnX P w K mg base CX x ps k sp:=by
 obtain ⟨f,oc,od,osl,kV,doc,pm,an,cdv,ct,lk,hcd,kp,m,hc⟩:=qlU D ht
 have F:=qdO lk hcd kp
 exact ⟨_,_,ok lk hcd hc hC,m,kp,F.binds hb⟩
end
def clOf (K:PySem.W.Frag) (x:Str):Addr:=match PySem.W.nsIn K mainGlobals x with
 | some (some (.ref C))=>C
 | _=>0
def noB (K:PySem.W.Frag) (C:Addr) (f:Str):Bool:=match PySem.W.findIn K (.ref C) f with
 | some none=>true
 | _=>false
def qsP (K:PySem.W.Frag) (x:Str) (fs:List Str):Bool:=match PySem.W.nsIn K mainGlobals x with
 | some (some (.ref C))=>PySem.W.plainGet K C Str.empty&&(PySem.W.hasDictIn K C&&(PySem.W.plainOver K C&&((match PySem.W.findIn K (.ref C) "__setattr__" with | some (some (.builtin n))=>n== "object.__setattr__" | _=>false)&&(PySem.W.makesIn K C&&(PySem.W.keepIn K (.ref C)&&fs.all (noB K C))))))
 | _=>false
theorem qs8 {K:PySem.W.Frag} {h:Heap} {mg:Str→Option Value} {x:Str} {fs:List Str} (X:K.In h) (G:h.Ns mainGlobals mg) (a:qsP K x fs=true):
  mg x=some (.ref (clOf K x))∧Cls K (clOf K x)∧PySem.W.makesIn K (clOf K x)=true∧PySem.W.keepIn K (.ref (clOf K x))=true∧∀f∈fs,qcW K (clOf K x) f:=by
 unfold qsP at a
 split at a
 ·rename_i C n
  have e:clOf K x=C:=by unfold clOf; rw[n]
  rw[e]
  simp only[Bool.and_eq_true] at a
  obtain ⟨a1,a2,a3,a4,a5,a6,a7⟩:=a
  refine ⟨PySem.W.mg_of X G n,⟨a1,a2,a3,?_⟩,a5,a6,fun f hf=> ?_⟩
  ·split at a4
   ·rename_i m q
    have:m= "object.__setattr__" :=by simpa using a4
    rw[q,this]
   ·cases a4
  ·have:=List.all_eq_true.mp a7 f hf
   unfold noB at this
   split at this
   ·assumption
   ·cases this
 ·cases a
def qsQ (K:PySem.W.Frag) (C:Addr) (m:Str):Option (Addr×Obj):=match PySem.W.findIn K (.ref C) m with
 | some (some (.ref f))=>(match K.lookup f with | some o=>some (f,o) | none=>none)
 | _=>none
def qo4 (K:PySem.W.Frag) (C:Addr) (m:Str):Option FuncData:=match qsQ K C m with
 | some (_,⟨_,_,.func fd,_⟩)=>some fd
 | _=>none
def okM (K:PySem.W.Frag) (C:Addr) (m q:Str):Bool:=match qsQ K C m with
 | some (f,⟨_,_,.func fd,_⟩)=>PySem.W.isFn K (.ref f)&&(PySem.W.codeIn K fd.code q&&PySem.W.keepIn K (.ref f))
 | _=>false
def qrB (m q:Str) (st:Stmt) (fd:FuncData):FuncData:=PySem.W.fnOf m q (qaM st) (qaF st) (qad st) .none fd.kwdefaults fd.doc fd.pyModule fd.annotations fd.code fd.closureTuple
def DfM (K:PySem.W.Frag) (C:Addr) (m q:Str) (st:Stmt):Prop:=
 ∃(f:Addr) (oc:Value) (od:Option Addr) (osl:Array (Option Value)) (kV doc pm:Value) (an:Option Addr) (cdv ct:Value),
  K.lookup f=some ⟨oc,od,.func (PySem.W.fnOf m q (qaM st) (qaF st) (qad st) .none kV doc pm an cdv ct),osl⟩∧PySem.W.codeIn K cdv q=true∧qp1 K C m f
theorem qof {K:PySem.W.Frag} {C:Addr} {m q:Str} {st:Stmt} (a:okM K C m q=true) (e:qo4 K C m=(qo4 K C m).map (qrB m q st)):DfM K C m q st:=by
 unfold okM at a
 unfold qo4 at e
 split at a
 ·rename_i f oc od fd osl z
  rw[z] at e
  have e:fd=qrB m q st fd:=Option.some.inj e
  unfold qsQ at z
  split at z
  ·rename_i f' n
   split at z
   ·rename_i o lk
    cases z
    simp only[Bool.and_eq_true] at a
    exact ⟨_,_,_,_,fd.kwdefaults,fd.doc,fd.pyModule,fd.annotations,fd.code,fd.closureTuple,by rw[lk,show PySem.W.fnOf m q (qaM st) (qaF st) (qad st) .none fd.kwdefaults fd.doc fd.pyModule fd.annotations fd.code fd.closureTuple=fd from e.symm],a.2.1,⟨n,a.1,a.2.2⟩⟩
   ·cases z
  ·cases z
 ·cases a
def KnM (P:Program) (w:World) (K:PySem.W.Frag) (mg:Str→Option Value) (base:Heap) (CX:CXT) (C:Addr) (m:Str) (ps:List Str) (k:Nat) (sp:Sp):Prop:=
 ∃(f:Addr) (fd:FuncData),qbb P w K mg base CX k f fd ps sp∧qp1 K C m f∧qbz K fd ps []
section
variable {P:Program} {w:World} {K:PySem.W.Frag} {mg:Str→Option Value} {base:Heap} {CX:CXT} {C:Addr} {m q:Str} {st:Stmt} {ps:List Str} {k:Nat} {sp:Sp}
theorem knm (D:DfM K C m q st) (ok: ∀{f:Addr} {fd:FuncData},Fun K m q st f fd→qbb P w K mg base CX k f fd ps sp)
  (hb: ∀(kV doc pm:Value) (an:Option Addr) (cdv ct:Value) (us:List Value),us.length=ps.length→bindArgs (PySem.W.fnOf m q (qaM st) (qaF st) (qad st) .none kV doc pm an cdv ct) ⟨us,[]⟩=pure (ps.zip us):=by
   exact fun _ _ _ _ _ _ us hl=>by first | (obtain ⟨a,e⟩:=qqM hl; subst e; rfl) | (obtain ⟨a,b,e⟩:=qpU hl; subst e; rfl) | (obtain ⟨a,b,c,e⟩:=qpT hl; subst e; rfl) | (obtain ⟨a,b,c,d,e⟩:=len4 hl; subst e; rfl)):KnM P w K mg base CX C m ps k sp:=by
 obtain ⟨f,oc,od,osl,kV,doc,pm,an,cdv,ct,lk,hcd,M⟩:=D
 have F:=qdO lk hcd M.kp
 exact ⟨_,_,ok F,M,F.binds hb⟩
end
end HD
end
section
namespace HD
open PySem L2 PL
theorem walkX {Ex:PySem.W.Frag→(Str→Option Value)→Prop} {l:PySem.W.OpenLaw} {q:Program} {loose:List Str} {XP:(Str→Option Value)→Heap→Prop} {YP:World→Heap→Prop} {d:DefRec} {K:Params→PySem.W.Frag} {tb:List (Str×Stmt)} {cs:List (Str×Int)} {nms:List Str} {ys:List Str} {lq:List (Pos×Str)} {LV:Nat} {sl:Stmt} {t:List T→Rs T}
  (hn:l.most=some 63) (hdf:d.params.defaults=[]) (hd:d.name= "law") (hY: ∀(w:World) (h:Heap),YP w h→(K w.params).In h) (hrec: ∀y∈ys,∃dx,(PyProof.Rows.recsOf q).find? (fun e=>e.name==y)=some dx) (hR:qcR LV callerA)
  (h1: ∀w:World,(tb.all fun p=>okD (K w.params) p.1)=true) (h2: ∀w:World,tb.map (fun p=>qna (K w.params) p.1)=tb.map fun p=>(qna (K w.params) p.1).map (due p.1 p.2)) (h3: ∀w:World,cs.all (okC (K w.params))=true) (h4: ∀w:World,nms.all (okN (K w.params))=true)
  (h5: ∀w:World,okT (K w.params) ys=true) {i:Nat} (hi:tb[i]? =some (Str.ofString "law",sl)) (hT: ∀ns:List Int,ns.length≤63→t [.scr ns]= .ok (.bl true))
  (hbl: ∀(kV doc pm:Value) (an:Option Addr) (cdv ct u:Value),bindArgs (PySem.W.fnOf "law" "law" (qaM sl) (qaF sl) (qad sl) .none kV doc pm an cdv ct) ⟨[u],[]⟩=pure [(Str.ofString "_law_script",u)])
  (hE: ∀(w:World) (mg:Str→Option Value) (h:Heap),(K w.params).In h→h.Ns mainGlobals mg→Ex (K w.params) mg)
  (F: ∀{w:World} {K:PySem.W.Frag} {mg:Str→Option Value} {base:Heap} {fa:Addr} {fd:FuncData},(∀(i:Nat) (x:Str) (st:Stmt),tb[i]? =some (x,st)→Df K mg x st)→(∀x∈nms,mg x=none)→(∀(i:Nat) (x:Str) (n:Int),cs[i]? =some (x,n)→∃u,mg x=some u∧RelV (.int n) u)→
   (∀y∈ys,∃c,PySem.W.tabIn K y=some (c,tOf K y)∧PySem.W.CodeHd base c (tOf K y))→(ys.map (tOf K)).Nodup→qf8 mg base→K.In base→Ex K mg→Fun K "law" "law" sl fa fd→qbb l.prog w K mg base CX0 LV fa fd ["_law_script"] (spP K (qer ((ys.map (tOf K)).zip lq)) (fun _=>0) t)):
  PySem.W.WalkO q loose XP YP l.row.toRowW d [] (fun f vs=>PySem.call f vs):=by
 refine L2.walk_ofTs (n:=63) (k:=LV) (x:= "_law_script") (ys:=ys) (CX:=fun _=>CX0) (sp:=fun w cts=>spP (K w.params) (qer ((cts.map (·.2)).zip lq)) (fun _=>0) t) hn (by decide) hdf hR hY hrec ?_ (fun _ _ _ a ns hl hO hS=>qnG (hT ns hl) hO hS) fun _ _ _ _ _ z=>z
 intro w mg fa h X G hm
 have D:=qoe X G (h1 w) (h2 w)
 obtain ⟨f,oc,od,osl,kV,doc,pm,an,cdv,ct,lk,hcd,kp,m, -⟩:=D i _ _ hi
 rw[hd] at hm
 have e:=hm.symm.trans m
 cases e
 obtain ⟨t1,t2,nd⟩:=qi4 (h5 w)
 have em:(qeY (K w.params) ys).map (·.2)=ys.map (tOf (K w.params)):=by unfold qeY; rw[List.map_map]; rfl
 refine ⟨_,qeY (K w.params) ys,t1,t2,fun s u=>.of_eq (hbl kV doc pm an cdv ct u),fun base KI _ hC hb=> ?_⟩
 rw[em]
 refine F D (qqI X G (h4 w)) (qrh X G (h3 w)) (fun y hy=> ?_) nd hb KI (hE w mg h X G) (qdO lk hcd kp)
 have e1:some ((PySem.W.tabIn (K w.params) y).getD (0,0))=PySem.W.tabIn (K w.params) y:=by
  obtain ⟨j,hj,ej⟩:=List.mem_iff_getElem.mp hy
  have:=congrArg (fun l=>l[j]?) t1
  unfold qeY at this
  simp only[List.getElem?_map,List.getElem?_eq_getElem hj,ej,Option.map_some] at this
  exact (Option.some.inj this).symm
 exact ⟨((PySem.W.tabIn (K w.params) y).getD (0,0)).1,e1.symm,hC _ (List.mem_map.mpr ⟨y,hy,rfl⟩)⟩
end HD
end
section
namespace K19
open PySem L2 PL SetL RH HD
abbrev lqs:List (Pos×Str):=[(qfR,qd1)]
abbrev tb:List (Str×Stmt):=[e2 "_wall" qui,e2 "is_whole" qsi,e2 "is_whole_within" s_7,e2 "is_word" qsg,e2 "is_key" qse,e2 "is_row" qsd,e2 "is_log" qsc,e2 "in_order" qnR,e2 "keys_of" qsf,e2 "refuse_what_is_no_row" s_1,e2 "refuse_out_of_order" s_3,e2 "refuse_what_is_no_log" s_2,e2 "refuse_what_are_no_two_logs" s_0,e2 "refuse_when_ended" s_4,e2 "refuse_to_take" s_8,e2 "couple" quk,e2 "joined" quj,e2 "of_key" qrt,e2 "merged" qsb,e2 "by_keys_parted" s_9,e2 "shifted" qru,e2 "keys_changed" qrv,e2 "_law_cell" qsl,e2 "_law_pick" qsk,e2 "_law_key" qsh,e2 "_law_number" qsm,e2 "_law_rows" qsj,e2 "law" qhg]
abbrev cs:List (Str×Int):=[c2 "GREATEST_MOMENT" (99),c2 "GREATEST_NUMBER" (99),c2 "LONGEST_KEY" (2)]
abbrev fs:List Str:=["width", "near", "newest", "ended"]
def Ex (K:PySem.W.Frag) (mg:Str→Option Value):Prop:=mg "Join" =some (.ref (HD.clOf K "Join"))∧Cls K (HD.clOf K "Join")∧PySem.W.makesIn K (HD.clOf K "Join")=true∧PySem.W.keepIn K (.ref (HD.clOf K "Join"))=true∧(∀f∈fs,qcW K (HD.clOf K "Join") f)∧DfM K (HD.clOf K "Join") "__init__" "Join.__init__" K19J.sInit∧DfM K (HD.clOf K "Join") "take" "Join.take" K19J.sTake
theorem ex_of {K:Params→PySem.W.Frag} (h6: ∀w:World,qsP (K w.params) "Join" fs=true) (h7: ∀w:World,(okM (K w.params) (HD.clOf (K w.params) "Join") "__init__" "Join.__init__" &&okM (K w.params) (HD.clOf (K w.params) "Join") "take" "Join.take")=true)
  (h8: ∀w:World,qo4 (K w.params) (HD.clOf (K w.params) "Join") "__init__" =(qo4 (K w.params) (HD.clOf (K w.params) "Join") "__init__").map (qrB "__init__" "Join.__init__" K19J.sInit)) (h9: ∀w:World,qo4 (K w.params) (HD.clOf (K w.params) "Join") "take" =(qo4 (K w.params) (HD.clOf (K w.params) "Join") "take").map (qrB "take" "Join.take" K19J.sTake))
  (w:World) (mg:Str→Option Value) (h:Heap) (X:(K w.params).In h) (G:h.Ns mainGlobals mg):Ex (K w.params) mg:=by
 obtain ⟨mC,hCl,mk0,kc,na⟩:=qs8 X G (h6 w)
 have h7':=Bool.and_eq_true_iff.mp (h7 w)
 exact ⟨mC,hCl,mk0,kc,na,qof h7'.1 (h8 w),qof h7'.2 (h9 w)⟩
theorem mk {P:Program} {w:World} {K:PySem.W.Frag} {mg:Str→Option Value} {base:Heap} {fa:Addr} {fd:FuncData} (D: ∀(i:Nat) (x:Str) (st:Stmt),tb[i]? =some (x,st)→Df K mg x st) (nb: ∀x∈namesD,mg x=none) (cm: ∀(i:Nat) (x:Str) (n:Int),cs[i]? =some (x,n)→∃u,mg x=some u∧RelV (.int n) u)
  (tc: ∀y∈(["in_order"]:List Str),∃c,PySem.W.tabIn K y=some (c,tOf K y)∧PySem.W.CodeHd base c (tOf K y)) (nd:((["in_order"]:List Str).map (tOf K)).Nodup) (hb:qf8 mg base) (KI:K.In base) (EX:Ex K mg) (F:Fun K "law" "law" qhg fa fd):
  qbb P w K mg base CX0 8 fa fd ["_law_script"] (spP K (gL (HD.tOf K "in_order")) (fun _=>0) t_law):=by
 obtain ⟨_,cm_5,cr_5⟩:=cm 0 _ _ rfl
 obtain ⟨_,cm_6,cr_6⟩:=cm 1 _ _ rfl
 obtain ⟨_,cm_11,cr_11⟩:=cm 2 _ _ rfl
 obtain ⟨_,ht_17,hC_17⟩:=tc "in_order" (by simp)
 have N_16:=kn (w:=w) (G:=(gL (HD.tOf K "in_order"))) (C:=fun _=>0) (D 1 _ _ rfl) fun F=>qsL (P:=P) (w:=w) (mg:=mg) (base:=base) F nb (qhG K)
 have N_7:=kn (w:=w) (G:=(gL (HD.tOf K "in_order"))) (C:=fun _=>0) (D 2 _ _ rfl) fun F=>quv (P:=P) (w:=w) (mg:=mg) (base:=base) F nb N_16
 have N_20:=kn (w:=w) (G:=(gL (HD.tOf K "in_order"))) (C:=fun _=>0) (D 3 _ _ rfl) fun F=>qsI (P:=P) (w:=w) (mg:=mg) (base:=base) F nb (qhG K)
 have N_23:=kn (w:=w) (G:=(gL (HD.tOf K "in_order"))) (C:=fun _=>0) (D 4 _ _ rfl) fun F=>qsF (P:=P) (w:=w) (mg:=mg) (base:=base) F nb cm_11 cr_11 N_20
 have N_24:=kn (w:=w) (G:=(gL (HD.tOf K "in_order"))) (C:=fun _=>0) (D 5 _ _ rfl) fun F=>qsE (P:=P) (w:=w) (mg:=mg) (base:=base) F nb (qhG K) cm_5 cr_5 cm_6 cr_6 N_23 N_7
 have N_25:=kn (w:=w) (G:=(gL (HD.tOf K "in_order"))) (C:=fun _=>0) (D 6 _ _ rfl) fun F=>qsD (P:=P) (w:=w) (mg:=mg) (base:=base) F nb
 have N_17:=knL (w:=w) (G:=(gL (HD.tOf K "in_order"))) (C:=fun _=>0) (D 7 _ _ rfl) ht_17 hC_17 fun lk hcd hc C0=>qsK (C:=fun _=>0) (P:=P) (w:=w) (mg:=mg) (base:=base) lk hcd hc nb C0 hb nd
 have N_21:=kn (w:=w) (G:=(gL (HD.tOf K "in_order"))) (C:=fun _=>0) (D 8 _ _ rfl) fun F=>qsH (P:=P) (w:=w) (mg:=mg) (base:=base) F nb
 have N_1:=kn (w:=w) (G:=(gL (HD.tOf K "in_order"))) (C:=fun _=>0) (D 9 _ _ rfl) fun F=>quy (P:=P) (w:=w) (mg:=mg) (base:=base) F nb N_24
 have N_3:=kn (w:=w) (G:=(gL (HD.tOf K "in_order"))) (C:=fun _=>0) (D 10 _ _ rfl) fun F=>quw (P:=P) (w:=w) (mg:=mg) (base:=base) F nb N_25
 have N_2:=kn (w:=w) (G:=(gL (HD.tOf K "in_order"))) (C:=fun _=>0) (D 11 _ _ rfl) fun F=>qux (P:=P) (w:=w) (mg:=mg) (base:=base) F nb N_3 N_1
 have N_0:=kn (w:=w) (G:=(gL (HD.tOf K "in_order"))) (C:=fun _=>0) (D 12 _ _ rfl) fun F=>quz (P:=P) (w:=w) (mg:=mg) (base:=base) F nb N_3 N_1
 obtain ⟨mC,hCl,mk0,kc,na,DI,DT⟩:=EX
 have TX:K19J.Txt K (HD.clOf K "Join"):=⟨hCl,na _ (by decide),na _ (by decide),na _ (by decide),na _ (by decide)⟩
 obtain ⟨fW,fdW,GW,mW,kW,bW⟩:=knx (P:=P) (w:=w) (base:=base) (D 1 _ _ rfl) fun F=>K19J.ok_whole F (nb _ (by decide)) (nb _ (by decide)) (nb _ (by decide))
 obtain ⟨fI,fdI,GI,mI,kI,bI⟩:=knx (P:=P) (w:=w) (base:=base) (D 2 _ _ rfl) fun F=>K19J.ok_within F GW mW kW bW
 obtain ⟨fWd,fdWd,GWd,mWd,kWd,bWd⟩:=knx (P:=P) (w:=w) (base:=base) (D 3 _ _ rfl) fun F=>K19J.ok_word F (nb _ (by decide)) (nb _ (by decide)) (nb _ (by decide)) (nb _ (by decide))
 obtain ⟨fK,fdK,GK,mK,kK,bK⟩:=knx (P:=P) (w:=w) (base:=base) (D 4 _ _ rfl) fun F=>K19J.ok_key F cm_11 cr_11 GWd mWd kWd bWd
 obtain ⟨fR,fdR,GR,mR,kR,bR⟩:=knx (P:=P) (w:=w) (base:=base) (D 5 _ _ rfl) fun F=>K19J.ok_row F (nb _ (by decide)) (nb _ (by decide)) (nb _ (by decide)) cm_5 cr_5 cm_6 cr_6 GI mI kI bI GK mK kK bK
 obtain ⟨fL,fdL,GL,mL,kL,bL⟩:=knx (P:=P) (w:=w) (base:=base) (D 6 _ _ rfl) fun F=>K19J.ok_log F (nb _ (by decide)) (nb _ (by decide))
 obtain ⟨fO,fdO,GO,mO,kO,bO⟩:=quA (P:=P) (w:=w) (base:=base) (D 7 _ _ rfl) ht_17 hC_17 fun lk hcd hc C0=>K19J.ok_order lk hcd hc (nb _ (by decide)) C0 hb
 obtain ⟨fRR,fdRR,GRR,mRR,kRR,bRR⟩:=knx (P:=P) (w:=w) (base:=base) (D 9 _ _ rfl) fun F=>K19J.ok_refRow F (nb _ (by decide)) GR mR kR bR
 obtain ⟨fRL,fdRL,GRL,mRL,kRL,bRL⟩:=knx (P:=P) (w:=w) (base:=base) (D 10 _ _ rfl) fun F=>K19J.ok_refLog F GL mL kL bL
 obtain ⟨fR2,fdR2,GR2,mR2,kR2,bR2⟩:=knx (P:=P) (w:=w) (base:=base) (D 12 _ _ rfl) fun F=>K19J.ok_ref2 F GRR mRR kRR bRR GRL mRL kRL bRL
 obtain ⟨fRE,fdRE,GRE,mRE,kRE,bRE⟩:=knx (P:=P) (w:=w) (base:=base) (D 13 _ _ rfl) fun F=>K19J.ok_refEnd F
 obtain ⟨fRT,fdRT,GRT,mRT,kRT,bRT⟩:=knx (P:=P) (w:=w) (base:=base) (D 14 _ _ rfl) fun F=>K19J.ok_refTake F GRE mRE kRE bRE GRR mRR kRR bRR
 obtain ⟨fCP,fdCP,GCP,mCP,kCP,bCP⟩:=knx (P:=P) (w:=w) (base:=base) (D 15 _ _ rfl) fun F=>K19J.ok_26 F
 obtain ⟨fMI,fdMI,GMI,MMI,bMI⟩:=knm (P:=P) (w:=w) (mg:=mg) (base:=base) DI fun F=>K19J.ok_init F TX
 obtain ⟨fMT,fdMT,GMT,MMT,bMT⟩:=knm (P:=P) (w:=w) (mg:=mg) (base:=base) DT fun F=>K19J.ok_31 F TX GRT mRT kRT bRT GCP mCP kCP bCP
 obtain ⟨fJD,fdJD,GJD,mJD,kJD,bJD⟩:=knx (P:=P) (w:=w) (base:=base) (D 16 _ _ rfl) fun F=>K19J.ok_27 F TX GR2 mR2 kR2 bR2 GO mO kO bO GMI ⟨mk0,MMI.at_,MMI.fn,kc⟩ bMI mC GMT MMT bMT
 have N_27:=qk8 (C:=fun _=>0) GJD mJD kJD bJD
 have N_28:=kn (w:=w) (G:=(gL (HD.tOf K "in_order"))) (C:=fun _=>0) (D 17 _ _ rfl) fun F=>qsC (P:=P) (w:=w) (mg:=mg) (base:=base) F nb
 have N_29:=kn (w:=w) (G:=(gL (HD.tOf K "in_order"))) (C:=fun _=>0) (D 18 _ _ rfl) fun F=>qsB (P:=P) (w:=w) (mg:=mg) (base:=base) F nb N_17 N_2
 have N_9:=kn (w:=w) (G:=(gL (HD.tOf K "in_order"))) (C:=fun _=>0) (D 19 _ _ rfl) fun F=>quu (P:=P) (w:=w) (mg:=mg) (base:=base) F nb N_21 N_28 N_2
 have N_22:=kn (w:=w) (G:=(gL (HD.tOf K "in_order"))) (C:=fun _=>0) (D 20 _ _ rfl) fun F=>qsG (P:=P) (w:=w) (mg:=mg) (base:=base) F nb N_24 N_16 N_2
 have N_10:=kn (w:=w) (G:=(gL (HD.tOf K "in_order"))) (C:=fun _=>0) (D 21 _ _ rfl) fun F=>qsO (P:=P) (w:=w) (mg:=mg) (base:=base) F nb N_23 N_2
 obtain ⟨f1,oc1,od1,osl1,kV1,doc1,pm1,an1,cdv1,ct1,lk1,hcd1,kp1,m1, -⟩:=D 22 _ _ rfl
 have F1:=qdO lk1 hcd1 kp1
 have G1:=qoZ (P:=P) (w:=w) (mg:=mg) (base:=base) F1 (nb "len" (by decide))
 have b1:=F1.binds (ps:=["_law_script", "_law_k"]) fun _ _ _ _ _ _ us hl=>by obtain ⟨a,b,e⟩:=qpU hl; subst e; rfl
 obtain ⟨f2,oc2,od2,osl2,kV2,doc2,pm2,an2,cdv2,ct2,lk2,hcd2,kp2,m2, -⟩:=D 23 _ _ rfl
 have F2:=qdO lk2 hcd2 kp2
 have G2:=qoY (P:=P) (w:=w) (mg:=mg) (base:=base) F2 G1 m1 kp1 b1
 have N_14:=qo8 (G:=(gL (HD.tOf K "in_order"))) (C:=fun _=>0) G2 m2 kp2 (F2.binds (ps:=["_law_script", "_law_k", "_law_many"]) fun _ _ _ _ _ _ us hl=>by obtain ⟨a,b,c,e⟩:=qpT hl; subst e; rfl)
 have N_18:=kn (w:=w) (G:=(gL (HD.tOf K "in_order"))) (C:=fun _=>0) (D 24 _ _ rfl) fun F=>qsJ (P:=P) (w:=w) (mg:=mg) (base:=base) F nb N_14
 have N_12:=kn (w:=w) (G:=(gL (HD.tOf K "in_order"))) (C:=fun _=>0) (D 25 _ _ rfl) fun F=>qsN (P:=P) (w:=w) (mg:=mg) (base:=base) F nb N_14
 have N_15:=kn (w:=w) (G:=(gL (HD.tOf K "in_order"))) (C:=fun _=>0) (D 26 _ _ rfl) fun F=>qsM (P:=P) (w:=w) (mg:=mg) (base:=base) F nb N_18 N_12 N_14
 exact qqF (G:=(gL (HD.tOf K "in_order"))) (C:=fun _=>0) (P:=P) (w:=w) (mg:=mg) (base:=base) F nb N_14 N_15 N_9 N_27 N_10 N_29 N_22
end K19
end
section
open PySem PySem.W PyProof.Rows
set_option maxRecDepth 100000 in
set_option maxHeartbeats 0 in
theorem PySem.Challenge.cw_rowasks_k19_whole_joins_of_parts_holds : PySem.Challenge.rw_rowasks_k19_whole_joins_of_parts.Holds := by
 w_on; o_law
 refine holds_open (q:=K19.vq) (loose:=[]) (Xt:=K19.xt) (XP:=XL K19.vq []) (Yf:=Hook.obs K19.hk) (Ya:=Hook.val K19.hk) (YP:=Hook.says K19.hk) (N:=20000) K19.rL (Hook.of K19.hk) (Hook.keeps K19.hk) (fun s e=>xl_of s (Bool.and_eq_true_iff.mp e).1) XL.keeps (by rfl) (by rfl) (by rfl) (fun s e=>recFacts_of (Bool.and_eq_true_iff.mp e).2) (by rfl) (by first | assumption | decide+kernel) (by decide+kernel) ⟨rfl,rfl,rfl,rfl,rfl,by decide+kernel⟩ ?hw ?hc
 (case hw=>w_witness2)
 k_fill
 refine' HD.walkX (l:=PySem.Challenge.rw_rowasks_k19_whole_joins_of_parts) (tb:=K19.tb) (cs:=K19.cs) (nms:=PL.namesD) (ys:=["in_order"]) (lq:=K19.lqs) (LV:=8) (i:=27) (t:=K19.t_law) rfl rfl rfl (fun w h Y=>Y.1) ?_ ⟨rfl,by decide,by decide⟩ (fun w=>by kernel_rfl) (fun w=>by kernel_rfl) (fun w=>by kernel_rfl) (fun w=>by kernel_rfl) (fun w=>by kernel_rfl) rfl (fun ns hl=>K19.law_true hl) (fun _ _ _ _ _ _ _=>rfl) (K19.ex_of (fun w=>by kernel_rfl) (fun w=>by kernel_rfl) (fun w=>by kernel_rfl) (fun w=>by kernel_rfl)) K19.mk
 intro y hy
 simp only[List.mem_cons,List.not_mem_nil,or_false] at hy
 subst hy
 ·exact ⟨_,rfl⟩
end
