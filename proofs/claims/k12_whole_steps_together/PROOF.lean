import PyProof.Rows.All
import Wide.All
import OpenK.AllK
import Wide.FinOn
import Lean
import PyProof.EqAt
import PyProof.EqKinds
import PyProof.TupleCall
import KE.KSortTup
import KE.KSortKey
import PyProof.ExcBaseAll.ValueError
import PyProof.ExcAttrAll.ValueError
import KE.KTryOn
import OpenK.KOwn
import PyProof.NeData
import PyProof.SetKind
import PyProof.Rows.SetFrom
import PyProof.CollectWalk
import KE.KDictOf
import KE.KDictList
import KE.KDictSum
import PyProof.FString5
import PyProof.WalksEnum
import PyProof.EnumMake
import PySem.Challenge.RW_rowasks_k12_whole_steps_together
set_option Elab.async false
set_option linter.all false
set_option maxRecDepth 100000
set_option maxHeartbeats 8000000
section
namespace HD
open PySem PySem.W
def quy:Stmt→Bool
 | .Assign (targets:=[.Name x _]) .. =>x== "__name__"
 | _=>false
def vw (p:Program):Program:={ p with main:={ p.main with body:=p.main.body.filter fun s=> !quy s } }
theorem left_two {p q:Program} {loose:List Str} {Xt:Shared→Bool} {α:Type} {Yf:Shared→α} {Ya:World→α} {N:Nat} (row:String)
  (hf: ∀w:World,((fencedOpening treeTable p w N).bind (topFrom treeTable p (w.withFollow row false) N)).map (fun s=>(openSeen q loose (importedModules p.main.body) Xt true s,Yf s))=some (openGood q loose,Ya (w.withFollow row false)))
  (ht: ∀w:World,((fencedOpening treeTable p w N).bind (topFrom treeTable p (w.withFollow row true) N)).map (fun s=>(openSeen q loose (importedModules p.main.body) Xt true s,Yf s))=some (openGood q loose,Ya (w.withFollow row true))):
  LeftO p q loose Xt Yf Ya N:=fun w=>by
 have e:=World.withFollow_self w row
 unfold openEnds
 cases hb:w.params.followText row<;>rw[hb] at e
 ·have:=hf w; rw[e] at this; exact this
 ·have:=ht w; rw[e] at this; exact this
def qrj (p:Program) (row:String) (N:Nat) (b:Bool) (w:World):Option Shared:=(fencedOpening treeTable p w N).bind (topFrom treeTable p (w.withFollow row b) N)
def lookS (p q:Program) (loose:List Str) (Xt:Shared→Bool) (s:Shared):=openSeen q loose (importedModules p.main.body) Xt true s
def qtj (p q:Program) (loose:List Str) (Xt:Shared→Bool) (row:String) (N:Nat) (b:Bool):Prop:= ∀w:World,(qrj p row N b w).map (fun s=>(lookS p q loose Xt s).2)=some (openGood q loose).2
def qti (p q:Program) (loose:List Str) (Xt:Shared→Bool) (H:Hook) (row:String) (N:Nat) (b:Bool):Prop:= ∀w:World,(qrj p row N b w).map (fun s=>((lookS p q loose Xt s).1,H.obs s))=some ((openGood q loose).1,H.val (w.withFollow row b))
theorem qup {p q:Program} {loose:List Str} {Xt:Shared→Bool} {H:Hook} {row:String} {N:Nat} {b:Bool} (hx:qtj p q loose Xt row N b) (hy:qti p q loose Xt H row N b):
  ∀w:World,((fencedOpening treeTable p w N).bind (topFrom treeTable p (w.withFollow row b) N)).map (fun s=>(openSeen q loose (importedModules p.main.body) Xt true s,Hook.obs H s))=some (openGood q loose,Hook.val H (w.withFollow row b)):=fun w=>by
 have hx:=hx w
 have hy:=hy w
 have e:((fencedOpening treeTable p w N).bind (topFrom treeTable p (w.withFollow row b) N))=qrj p row N b w:=rfl
 rw[e]
 cases r:qrj p row N b w with
 | none=>rw[r] at hx; cases hx
 | some s=>
  rw[r] at hx hy
  have y:=Prod.mk.inj (Option.some.inj hy)
  exact congrArg some (Prod.ext (Prod.ext y.1 (Option.some.inj hx)) y.2)
end HD
end
section
open PySem PySem.W PyProof.Rows
namespace K12
abbrev vq:Program:=HD.vw PySem.Challenge.pw_rowasks_k12_whole_steps_together
abbrev lo:List Str:=["NUMBER_STEPS", "COUNT_STEPS", "BARE_STEPS"]
abbrev xt:Shared→Bool:=fun s=>xlAt vq [] s&&recOk (RowW.records PySem.Challenge.rw_rowasks_k12_whole_steps_together.row.toRowW) s
section
local macro_rules
 | `(tactic| o_head $H)=> `(tactic| (exact False.elim (by assumption); exact $H))
set_option maxRecDepth 100000 in
set_option maxHeartbeats 0 in
noncomputable def hk:Hook:=by
 refine (fun (_:False→PySem.Challenge.rw_rowasks_k12_whole_steps_together.Holds)=> ?H) ?pf
 rotate_left
 intro hp
 w_on; o_law; k_head
end
set_option maxRecDepth 100000 in
set_option maxHeartbeats 0 in
theorem runF: ∀w:World,((fencedOpening treeTable PySem.Challenge.pw_rowasks_k12_whole_steps_together w 20000).bind (topFrom treeTable PySem.Challenge.pw_rowasks_k12_whole_steps_together (w.withFollow "special-get-raises" false) 20000)).map (fun s=>(openSeen vq lo (importedModules PySem.Challenge.pw_rowasks_k12_whole_steps_together.main.body) xt true s,Hook.obs hk s))=some (openGood vq lo,Hook.val hk (w.withFollow "special-get-raises" false)):=fun w=>by kernel_rfl
set_option maxRecDepth 100000 in
set_option maxHeartbeats 0 in
theorem runT: ∀w:World,((fencedOpening treeTable PySem.Challenge.pw_rowasks_k12_whole_steps_together w 20000).bind (topFrom treeTable PySem.Challenge.pw_rowasks_k12_whole_steps_together (w.withFollow "special-get-raises" true) 20000)).map (fun s=>(openSeen vq lo (importedModules PySem.Challenge.pw_rowasks_k12_whole_steps_together.main.body) xt true s,Hook.obs hk s))=some (openGood vq lo,Hook.val hk (w.withFollow "special-get-raises" true)):=fun w=>by kernel_rfl
end K12
end
section
namespace L2
open PySem PySem.Spec PyProof.Rows
abbrev Key:=Sum Int Str
def keyIs:Key→Value→Bool
 | .inl k,v=>Value.isInt k v
 | .inr x,v=>Value.isStrOf x v
def qux (w:World):Key→Int
 | .inl k=>hashInt k
 | .inr x=>hashStr w x
theorem qaY: ∀{k:Key} {v:Value},keyIs k v=true→(∃i t,k=Sum.inl i∧v=Value.int i t)∨(∃x t,k=Sum.inr x∧v=Value.str x t)
 | .inl i,v,h=>by
  obtain ⟨t,e⟩:=Value.isInt_shape (k:=i) (v:=v) h
  exact .inl ⟨i,t,rfl,e⟩
 | .inr x,v,h=>by
  obtain ⟨t,e⟩:=Value.isStrOf_shape (x:=x) (v:=v) h
  exact .inr ⟨x,t,rfl,e⟩
theorem qkr (i:Int) (t:Tok):keyIs (.inl i) (.int i t)=true:=by simp[keyIs,Value.isInt]
theorem qkq (x:Str) (t:Tok):keyIs (.inr x) (.str x t)=true:=by simp[keyIs,Value.isStrOf]
theorem qqw (a b:Int):decide ((Sum.inl a:Key)=Sum.inl b)=(a==b):=by
 by_cases e:a=b
 ·subst e; simp
 ·have h: ¬(Sum.inl a:Key)=Sum.inl b:=fun q=>e (Sum.inl.inj q)
  rw[decide_eq_false h]
  exact (beq_eq_false_iff_ne.mpr e).symm
theorem qqt (a b:Str):decide ((Sum.inr a:Key)=Sum.inr b)=decide (a=b):=by
 by_cases e:a=b
 ·subst e; simp
 ·have h: ¬(Sum.inr a:Key)=Sum.inr b:=fun q=>e (Sum.inr.inj q)
  rw[decide_eq_false h,decide_eq_false e]
theorem qqv (a:Int) (b:Str):decide ((Sum.inl a:Key)=Sum.inr b)=false:=decide_eq_false (fun q=>nomatch q)
theorem qqu (a:Str) (b:Int):decide ((Sum.inr a:Key)=Sum.inl b)=false:=decide_eq_false (fun q=>nomatch q)
def qaI (prog:Program) (w:World):PySem.KeyKind prog w Key where
 is:=keyIs
 hash:=qux w
 inj:=fun v a b ha hb=>by
  rcases qaY ha with ⟨i,t,rfl,rfl⟩ | ⟨x,t,rfl,rfl⟩
  ·rcases qaY hb with ⟨j,u,rfl,e⟩ | ⟨y,u,rfl,e⟩
   ·injection e with e1 _; rw[e1]
   ·exact nomatch e
  ·rcases qaY hb with ⟨j,u,rfl,e⟩ | ⟨y,u,rfl,e⟩
   ·exact nomatch e
   ·injection e with e1 _; rw[e1]
 byValue:=fun k v h=>by
  rcases qaY h with ⟨i,t,rfl,rfl⟩ | ⟨x,t,rfl,rfl⟩<;>rfl
 pyHash:=fun hv h=>by
  rcases qaY hv with ⟨i,t,rfl,rfl⟩ | ⟨x,t,rfl,rfl⟩
  ·exact wpAny_pyHash_int h
  ·exact wpAny_pyHash_str h
 eqBool:=fun hu hv h=>by
  rcases qaY hu with ⟨i,t,rfl,rfl⟩ | ⟨x,t,rfl,rfl⟩
  ·rcases qaY hv with ⟨j,u,rfl,rfl⟩ | ⟨y,u,rfl,rfl⟩
   ·rw[qqw] at h; exact wpAny_eqBool_int h
   ·rw[qqv] at h; exact SeqAt.EqAt.int_str i t y u _ _ _ _ h
  ·rcases qaY hv with ⟨j,u,rfl,rfl⟩ | ⟨y,u,rfl,rfl⟩
   ·rw[qqu] at h; exact SeqAt.EqAt.str_int x t j u _ _ _ _ h
   ·rw[qqt] at h; exact wpAny_eqBool_str h
 «strs» :=fun k x t v h=>by
  rcases qaY h with ⟨i,u,rfl,e⟩ | ⟨y,u,rfl,e⟩
  ·exact nomatch e
  ·injection e with e1 _
   subst e1
   cases v<;>rfl
theorem qgL (prog:Program) (w:World) (i:Int) (t:Tok):(qaI prog w).is (.inl i) (.int i t)=true:=qkr i t
theorem qgK (prog:Program) (w:World) (x:Str) (t:Tok):(qaI prog w).is (.inr x) (.str x t)=true:=qkq x t
end L2
namespace L2
open PySem PySem.Spec PyProof.Rows
inductive V where
 | non | bl (b:Bool) | int (i:Int) | str (x:Str) | byt (b:Array UInt8) | flt (b:UInt64) | ref (a:Addr) | ty (n:String)
 deriving DecidableEq
def RelV:V→Value→Prop
 | .non,u=>u=Value.none
 | .bl b,u=>u=Value.bool b
 | .int i,u=> ∃t,u=Value.int i t
 | .str x,u=> ∃t,u=Value.str x t
 | .byt b,u=> ∃t,u=Value.bytes b t
 | .flt b,u=> ∃t,u=Value.float b t
 | .ref a,u=>u=Value.ref a
 | .ty n,u=>u=Value.type n
abbrev qa1:List V→List Value→Prop:=Paired RelV
theorem qa1.length {xs:List V} {us:List Value} (r:qa1 xs us):xs.length=us.length:=Paired.length r
theorem qa1.get: ∀{xs:List V} {us:List Value} {i:Nat} {x:V},qa1 xs us→xs[i]? =some x→∃u,us[i]? =some u∧RelV x u
 | _,_,_,_,.nil,e=>by simp at e
 | _,_,0,_,.cons r _,e=>by simp at e; subst e; exact ⟨_,rfl,r⟩
 | _,_,i+1,x,.cons _ t,e=>by
  obtain ⟨u,h1,h2⟩:=qa1.get (i:=i) (x:=x) t (by simpa using e)
  exact ⟨u,by simpa using h1,h2⟩
theorem qa1.append: ∀{xs ys:List V} {us ws:List Value},qa1 xs us→qa1 ys ws→qa1 (xs++ys) (us++ws)
 | _,_,_,_,.nil,s=>s
 | _,_,_,_,.cons r t,s=>.cons r (qa1.append t s)
theorem qa1.take: ∀{xs:List V} {us:List Value} (n:Nat),qa1 xs us→qa1 (xs.take n) (us.take n)
 | _,_,0,_=>.nil
 | _,_,_+1,.nil=>.nil
 | _,_,n+1,.cons r t=>.cons r (qa1.take n t)
theorem qa1.drop: ∀{xs:List V} {us:List Value} (n:Nat),qa1 xs us→qa1 (xs.drop n) (us.drop n)
 | _,_,0,r=>r
 | _,_,_+1,.nil=>.nil
 | _,_,n+1,.cons _ t=>qa1.drop n t
def qi5:Option V→Option Value→Prop
 | some v,some u=>RelV v u
 | none,none=>True
 | _,_=>False
def KV {κ:Type}:List (κ×V)→List (κ×Value)→Prop:=Paired fun (p:κ×V) (q:κ×Value)=>p.1=q.1∧RelV p.2 q.2
def kV:Key→V
 | .inl i=>.int i
 | .inr x=>.str x
inductive HO where
 | lst (xs:List V)
 | tup (xs:List V)
 | dK (kvs:List (Key×V)) | dT (kvs:List (List Key×V))
 | set (S:Int→Bool) (n:Nat)
 | ins (C dx:Addr) (fs:List (Str×V))
 | own (x:Addr)
 | xd (fs:List (Str×V))
 | met (f x:Addr)
 | rng (lo hi:Int)
 | frz (o:Obj) (u:HO)
 | tbl (ps:Array Value)
 | ext (φ:Heap→Prop)
abbrev Hp:=Addr→Option HO
def upd (H:Hp) (a:Addr) (o:HO):Hp:=fun b=>if b=a then some o else H b
theorem qak {H:Hp} {a:Addr} {o:HO}:upd H a o a=some o:=by unfold upd; rw[if_pos rfl]
theorem qag {H:Hp} {a b:Addr} {o:HO} (h:b≠a):upd H a o b=H b:=by unfold upd; rw[if_neg h]
theorem qoy {H:Hp} {a b:Addr} {o u:HO} (h:H a=some o) (h':H b=some u) (d:o≠u):a≠b:=by
 intro e; subst e; rw[h] at h'; exact d (Option.some.inj h')
theorem qap {H:Hp} {a b:Addr} {o:HO} (h:H a=some o) (h':H b=none):a≠b:=by
 intro e; subst e; rw[h] at h'; cases h'
section
variable (P:Program) (w:World)
def qa2 (H:Hp) (h:Heap) (a:Addr):HO→Prop
 | .lst xs=>xs.length≤sizeLine∧∃(its:List Value) (n:Nat),qa1 xs its∧h.get? a=some { cls:=.type "list",data:=.seq its.toArray n }
 | .tup xs=>xs.length≤sizeLine∧∃its:List Value,qa1 xs its∧IsTup h a its.toArray
 | .dK kvs=>kvs.length≤sizeLine∧(a==sysModules)=false∧∃vs,KV kvs vs∧h.DictOf (qaI P w) a vs
 | .dT kvs=>kvs.length≤sizeLine∧(a==sysModules)=false∧∃xs:List (List Key×Addr×Value),
   Paired (fun (p:List Key×V) (q:List Key×Addr×Value)=>p.1=q.1∧H q.2.1=some (.tup (p.1.map kV))∧RelV p.2 q.2.2) kvs xs∧
   ∃o es ep,h.get? a=some o∧o.ExactDict∧o.data= .dict es ep∧es.toList=xs.map (entryOfKey (tupleKind (qaI P w)))∧(xs.map (·.1)).Nodup
 | .set S n=>h.SetOf (intKind P w) a S n
 | .ins C dx fs=>H dx=some (.own a)∧fs.length≤1000∧dx≠a∧h.get? a=some (PySem.W.instObj C dx)∧
   ∃mA,h.Ns1 dx mA∧(∀f,qi5 (fs.lookup f) (mA f))∧PySem.Within mA (fs.map (·.1))
 | .own _=> ∃o,h.get? a=some o
 | .xd fs=> ∃mA,h.Ns1 a mA∧∀f,qi5 (fs.lookup f) (mA f)
 | .rng lo hi=> ∃t u v,h.get? a=some { cls:=.type "range",data:=.fields #[.int lo t,.int hi u,.int 1 v] }
 | .frz o u=>h.get? a=some o∧qa2 H h a u
 | .tbl ps=>h.get? a=some { cls:=.none,data:=.fields ps }
 | .met f x=>h.get? a=some (PySem.W.methodObj (.ref f) (.ref x))
 | .ext φ=>φ h∧(∃o,h.get? a=some o)∧∀h1 h2:Heap,φ h1→(∀o,h1.get? a=some o→h2.get? a=some o)→φ h2
def HOk (H:Hp) (h:Heap):Prop:= ∀a o,H a=some o→qa2 P w H h a o
end
section
variable {P:Program} {w:World} {H H':Hp} {h h':Heap} {a:Addr} {o:HO}
theorem qa2.lt (x:qa2 P w H h a o):a<h.objs.size:=by
 cases o with
 | lst xs=>obtain ⟨_,_,_,_,e⟩:=x; exact Heap.lt_size e
 | tup xs=>obtain ⟨_,_,_,p⟩:=x; exact p.lt
 | dK kvs=>obtain ⟨_,_,_,_,o,_,_,e,_⟩:=x; exact Heap.lt_size e
 | dT kvs=>obtain ⟨_,_,_,_,o,_,_,e,_⟩:=x; exact Heap.lt_size e
 | set S n=>obtain ⟨o,_,_,_,e,_⟩:=x; exact Heap.lt_size e
 | ins C dx fs=>obtain ⟨_,_,_,e,_⟩:=x; exact Heap.lt_size e
 | own y=>obtain ⟨_,e⟩:=x; exact Heap.lt_size e
 | xd fs=>obtain ⟨_,⟨_,_,_,e,_⟩,_⟩:=x; exact Heap.lt_size e
 | rng lo hi=>obtain ⟨_,_,_,e⟩:=x; exact Heap.lt_size e
 | frz ob u=>obtain ⟨e,_⟩:=x; exact Heap.lt_size e
 | tbl ps=>exact Heap.lt_size (show h.get? a=some _ from x)
 | met f y=>exact Heap.lt_size (show h.get? a=some _ from x)
 | ext φ=>obtain ⟨_,⟨_,e⟩,_⟩:=x; exact Heap.lt_size e
theorem Paired.mapP {α β:Type} {F G:α→β→Prop}: ∀{l₁:List α} {l₂:List β},Paired F l₁ l₂→(∀a b,F a b→G a b)→Paired G l₁ l₂
 | _,_,.nil,_=>.nil
 | _,_,.cons r t,f=>.cons (f _ _ r) (Paired.mapP t f)
theorem qa2.stay (x:qa2 P w H h a o) (k: ∀b u,(b=a∨H b=some (.own a))→h.get? b=some u→h'.get? b=some u)
  (ho: ∀b,H b=some (.own a)→H' b=some (.own a)) (ht: ∀b xs,H b=some (.tup xs)→H' b=some (.tup xs)):qa2 P w H' h' a o:=by
 induction o with
 | lst xs=>obtain ⟨z,its,n,r,e⟩:=x; exact ⟨z,its,n,r,k _ _ (.inl rfl) e⟩
 | tup xs=>obtain ⟨z,its,r,ob,e,c⟩:=x; exact ⟨z,its,r,ob,k _ _ (.inl rfl) e,c⟩
 | dK kvs=>obtain ⟨z,y,vs,r,ob,es,ep,e,c⟩:=x; exact ⟨z,y,vs,r,ob,es,ep,k _ _ (.inl rfl) e,c⟩
 | dT kvs=>
  obtain ⟨z,y,xs,r,ob,es,ep,e,c⟩:=x
  exact ⟨z,y,xs,Paired.mapP r fun p q z=>⟨z.1,ht _ _ z.2.1,z.2.2⟩,ob,es,ep,k _ _ (.inl rfl) e,c⟩
 | set S n=>obtain ⟨ob,es,ep,t,e,c⟩:=x; exact ⟨ob,es,ep,t,k _ _ (.inl rfl) e,c⟩
 | ins C dx fs=>
  obtain ⟨d,z,ne,e,mA,⟨od,es,ep,e2,c⟩,r⟩:=x
  exact ⟨ho _ d,z,ne,k _ _ (.inl rfl) e,mA,⟨od,es,ep,k _ _ (.inr d) e2,c⟩,r⟩
 | own y=>obtain ⟨ob,e⟩:=x; exact ⟨ob,k _ _ (.inl rfl) e⟩
 | xd fs=>obtain ⟨mA,⟨od,es,ep,e,c⟩,r⟩:=x; exact ⟨mA,⟨od,es,ep,k _ _ (.inl rfl) e,c⟩,r⟩
 | rng lo hi=>obtain ⟨t,u,v,e⟩:=x; exact ⟨t,u,v,k _ _ (.inl rfl) e⟩
 | frz ob u ih=>obtain ⟨e,q⟩:=x; exact ⟨k _ _ (.inl rfl) e,ih q⟩
 | tbl ps=>
  have e:h.get? a=some { cls:=.none,data:=.fields ps }:=x
  show h'.get? a=some { cls:=.none,data:=.fields ps }
  exact k a _ (.inl rfl) e
 | met f y=>
  have e:h.get? a=some (PySem.W.methodObj (.ref f) (.ref y)):=x
  show h'.get? a=some (PySem.W.methodObj (.ref f) (.ref y))
  exact k a _ (.inl rfl) e
 | ext φ=>obtain ⟨p,⟨o,e⟩,st⟩:=x; exact ⟨st _ _ p fun o q=>k _ _ (.inl rfl) q,⟨o,k _ _ (.inl rfl) e⟩,st⟩
theorem HOk.lt (x:HOk P w H h) (e:H a=some o):a<h.objs.size:=(x a o e).lt
theorem HOk.fresh (x:HOk P w H h) (e:h.objs.size≤a):H a=none:=by
 cases q:H a with
 | none=>rfl
 | some u=>exact absurd (Nat.lt_of_lt_of_le (x.lt q) e) (Nat.lt_irrefl _)
theorem HOk.kept (x:HOk P w H h) (k: ∀b u,h.get? b=some u→h'.get? b=some u):HOk P w H h':=fun a o e=>
 (x a o e).stay (fun b u _ q=>k b u q) (fun _ q=>q) fun _ _ q=>q
theorem HOk.laid (x:HOk P w H h) (k: ∀b u,h.get? b=some u→h'.get? b=some u) (hp:h.objs.size≤a) (new:qa2 P w (upd H a o) h' a o):HOk P w (upd H a o) h':=fun b u e=>by
 have hn:=x.fresh hp
 by_cases hb:b=a
 ·subst hb; rw[qak] at e; cases e; exact new
 ·rw[qag hb] at e
  exact (x b u e).stay (fun c v _ q=>k c v q) (fun c q=>by rw[qag (qap q hn)]; exact q) fun c xs q=>by rw[qag (qap q hn)]; exact q
end
def Rd (H:Hp) (a:Addr) (u:HO):Prop:=H a=some u∨∃o,H a=some (.frz o u)
theorem Rd.ok {P:Program} {w:World} {H:Hp} {h:Heap} {a:Addr} {u:HO} (r:Rd H a u) (x:HOk P w H h):qa2 P w H h a u:=by
 rcases r with r | ⟨o,r⟩
 ·exact x a u r
 ·obtain ⟨_,q⟩:=x a _ r
  exact q
def Mut:Option HO→Prop
 | some (.lst _)=>True
 | some (.dK _)=>True
 | some (.dT _)=>True
 | some (.set _ _)=>True
 | some (.ins _ _ _)=>True
 | some (.ext _)=>True
 | _=>False
section
variable {P:Program} {w:World} {H:Hp} {h h':Heap} {x e:Addr} {o':HO}
theorem HOk.write (ok:HOk P w H h) (mu:Mut (H x)) (he:e=x∨H e=some (.own x)) (k: ∀b u,b≠e→h.get? b=some u→h'.get? b=some u) (heo: ∃u,h'.get? e=some u)
  (new:qa2 P w (upd H x o') h' x o'):HOk P w (upd H x o') h':=fun b u q=>by
 have nown: ∀c y,H c=some (.own y)→c≠x:=fun c y r z=>by subst z; rw[r] at mu; exact mu
 have ntup: ∀c xs,H c=some (.tup xs)→c≠x:=fun c xs r z=>by subst z; rw[r] at mu; exact mu
 by_cases hb:b=x
 ·subst hb; rw[qak] at q; cases q; exact new
 ·rw[qag hb] at q
  by_cases hbe:b=e
  ·have q':H b=some (.own x):=by
    rcases he with z | z
    ·exact absurd (hbe.trans z) hb
    ·rw[hbe]; exact z
   rw[q] at q'; cases q'
   obtain ⟨v,hv⟩:=heo
   exact ⟨v,by rw[hbe]; exact hv⟩
  ·refine (ok b u q).stay (fun c v hc r=>k c v ?_ r) (fun c r=>by rw[qag (nown c b r)]; exact r) fun c xs r=>by rw[qag (ntup c xs r)]; exact r
   rcases hc with rfl | hc
   ·exact hbe
   ·rintro rfl
    rcases he with z | z
    ·exact nown c b hc z
    ·rw[hc] at z; cases z; exact hb rfl
end
structure Un (fs ex:List Addr) (H H':Hp) (h h':Heap):Prop where
 keep: ∀b o,h.get? b=some o→H b=none→b∉fs→b∉ex→h'.get? b=some o
 slot: ∀b o,h.get? b=some o→H b=none→b∈fs→b∉ex→∃sl,h'.get? b=some { o with slots:=sl }
 free: ∀b o,h.get? b=some o→H b=none→b∉ex→H' b=none
 there: ∀b o,h.get? b=some o→b∉ex→∃o',h'.get? b=some o'
 tups: ∀b xs,H b=some (.tup xs)→H' b=some (.tup xs)
 frzs: ∀b o u,H b=some (.frz o u)→H' b=some (.frz o u)
 tbls: ∀b ps,H b=some (.tbl ps)→∃more,H' b=some (.tbl (ps++more))
section
variable {fs fs' ex ex':List Addr} {H H1 H2:Hp} {h h1 h2 h':Heap} {a x e:Addr} {o:HO}
theorem Un.any (u:Un fs ex H H1 h h1) {b:Addr} {ob:Obj} (q:h.get? b=some ob) (n:H b=none) (hx:b∉ex): ∃sl,h1.get? b=some { ob with slots:=sl }:=by
 by_cases hb:b∈fs
 ·exact u.slot b ob q n hb hx
 ·exact ⟨ob.slots,u.keep b ob q n hb hx⟩
theorem Un.kept (k: ∀b u,h.get? b=some u→h'.get? b=some u):Un fs ex H H h h':=
 ⟨fun b ob q _ _ _=>k b ob q,fun b ob q _ _ _=>⟨ob.slots,k b ob q⟩,fun _ _ _ n _=>n,fun b ob q _=>⟨ob,k b ob q⟩,fun _ _ q=>q,fun _ _ _ q=>q,fun _ ps q=>⟨#[],by rw[q]; simp⟩⟩
theorem Un.refl:Un fs ex H H h h:=Un.kept fun _ _ q=>q
theorem Un.laid (k: ∀b u,h.get? b=some u→h'.get? b=some u) (hp:h.objs.size≤a) (hn:H a=none):Un fs ex H (upd H a o) h h' where
 keep:=fun b u q _ _ _=>k b u q
 slot:=fun b u q _ _ _=>⟨u.slots,k b u q⟩
 free:=fun b u q n _=>by rw[qag (Nat.ne_of_lt (Nat.lt_of_lt_of_le (Heap.lt_size q) hp))]; exact n
 there:=fun b u q _=>⟨u,k b u q⟩
 tups:=fun b xs q=>by rw[qag (qap q hn)]; exact q
 frzs:=fun b u xs q=>by rw[qag (qap q hn)]; exact q
 tbls:=fun b ps q=>⟨#[],by rw[qag (qap q hn),q]; simp⟩
theorem Un.write (mu:Mut (H x)) (he:e=x∨H e=some (.own x)) (k: ∀b u,b≠e→h.get? b=some u→h'.get? b=some u) (heo: ∃u,h'.get? e=some u):Un fs ex H (upd H x o) h h':=by
 have hx: ∀b,H b=none→b≠x:=fun b n z=>by subst z; rw[n] at mu; exact mu
 have hb: ∀b,H b=none→b≠e:=fun b n z=>by
  subst z
  rcases he with r | r
  ·exact hx b n r
  ·rw[n] at r; cases r
 have hm: ∀b u,H b=some u→¬Mut (some u)→b≠x:=fun b u q nm z=>by subst z; rw[q] at mu; exact nm mu
 refine ⟨fun b u q n _ _=>k b u (hb b n) q,fun b u q n _ _=>⟨u.slots,k b u (hb b n) q⟩,fun b u q n _=>by rw[qag (hx b n)]; exact n,fun b u q _=> ?_,
  fun b xs q=>by rw[qag (hm b _ q fun z=>z)]; exact q,fun b u xs q=>by rw[qag (hm b _ q fun z=>z)]; exact q,fun b ps q=>⟨#[],by rw[qag (hm b _ q fun z=>z),q]; simp⟩⟩
 by_cases hbe:b=e
 ·subst hbe; exact heo
 ·exact ⟨u,k b u hbe q⟩
end
def trk (h:Heap) (H:Hp):List Addr:=(List.range h.objs.size).filter fun a=>(H a).isSome
def qgu (h:Heap) (H:Hp):Heap:=PySem.W.hideAll h (trk h H)
theorem qfT (h:Heap) (H:Hp):(qgu h H).objs.size=h.objs.size:=PySem.W.hideAll_size _ _
theorem qhR {h:Heap} {H:Hp} {b:Addr} {o:Obj} (e:h.get? b=some o) (n:H b=none):(qgu h H).get? b=some o:=
 PySem.W.hideAll_get _ e fun hm=>by
  have q:(H b).isSome=true:=(List.mem_filter.mp hm).2
  rw[n] at q; simp at q
theorem qj6 {h:Heap} {H:Hp} {b:Addr} {o:Obj} (e:(qgu h H).get? b=some o):h.get? b=some o∧H b=none:=by
 have e':h.get? b=some o:=PySem.W.of_hideAll (trk h H) e
 refine ⟨e',?_⟩
 cases q:H b with
 | none=>rfl
 | some x=>
  have hm:b∈trk h H:=List.mem_filter.mpr ⟨List.mem_range.mpr (Heap.lt_size e'),by simp[q]⟩
  have z:(qgu h H).get? b=none:=PySem.W.hideAll_none (trk h H) hm
  rw[z] at e; cases e
def qpr (g h:Heap) (L:Addr):List (Addr×Obj):=(List.range h.objs.size).filterMap fun a=>if a=L∨(g.get? a).isSome=true then none else (h.get? a).map fun o=>(a,o)
def qde (g h:Heap) (L d:Addr):List (Addr×Obj):=(qpr g h L).filter fun p=>decide (p.1≠d)
end L2
namespace L2
open PySem PySem.Spec PyProof.Rows
structure Mod (K:PySem.W.Frag) (mg:Str→Option Value) (base:Heap):Prop where
 kin:K.In base
 glob:base.Ns mainGlobals mg
 blt: ∃mb,base.Ns builtinsNs mb∧∀x:Str,x≠ "__name__" →mb x=bootBuiltins x
 nolimit:base.NoLimit
structure Cx where
 prog:Program
 w:World
 K:PySem.W.Frag
 mg:Str→Option Value
 base:Heap
 A:Around
 N:List Str
 s₀:Shared
 H₀:Hp
 env:Env
 outer:List Env
 stack:List Env
 ex:List Addr
 fn:Str→Bool
 calm:Bool
 pn:List (Addr×Obj)
 xe:Value→Shared→Prop
def frs (l:List Env):List Addr:=l.filterMap (·.frame)
abbrev Cx.fs (X:Cx):List Addr:=frs X.outer
def Vis (sc:Scope) (x:Str):Prop:=sc.names.lookup x=some .local∨sc.names.lookup x=some .cell∨sc.names.lookup x=some .free
def Loc (sc:Scope) (x:Str):Prop:=sc.names.lookup x=some .local∨sc.names.lookup x=some .cell
def quX (env:Env) (h:Heap) (m:Str→Option Value) (x:Str) (u:Value):Prop:=
 (env.kindOf x=some .local∧m x=some u)∨((env.kindOf x=some .cell∨env.kindOf x=some .free)∧∃c,env.cells.lookup x=some c∧h.IsCell c (some u))
structure Cx.Ok (X:Cx):Prop where
 mod:Mod X.K X.mg X.base
 kind:X.env.scope.kind= .function
 glob:X.env.globals=mainGlobals
 blt:X.env.builtins=builtinsNs
 above:X.s₀.heap.objs.size≤X.env.locals
 inj: ∀x y c,X.env.cells.lookup x=some c→X.env.cells.lookup y=some c→x=y
 has: ∀x,(X.env.kindOf x=some .cell∨X.env.kindOf x=some .free)→∃c,X.env.cells.lookup x=some c
 cab: ∀x c,X.fn x=true→X.env.cells.lookup x=some c→X.s₀.heap.objs.size≤c
 hd:X.calm=true→X.A.handled=none
 frames:X.A.frames=some X.stack
 stk:X.stack=X.outer∨(X.stack=X.env::X.outer∧X.env.frame=some X.env.locals)
 exf: ∀b∈X.ex,b≠X.env.locals∧∀x c,X.env.cells.lookup x=some c→c≠b
 bs: ∀b o,X.base.get? b=some o→X.s₀.heap.get? b=some o∧X.H₀ b=none
 bsz:X.base.objs.size≤X.s₀.heap.objs.size
 noex: ∀b o,X.base.get? b=some o→b∉X.ex
 exfs: ∀b∈X.ex,b∉X.fs
 funs:X.s₀.heap.FunFrames X.base X.outer
 frf: ∀b∈X.fs,X.H₀ b=none
structure Inv (X:Cx) (pins:List (Addr×Obj)) (σ:List (Option V)) (H:Hp) (s:Shared):Prop where
 ok:X.Ok
 os:s.os=X.s₀.os
 bare:AllBare s.gens
 base:Un X.fs X.ex X.H₀ H X.s₀.heap s.heap
 loc: ∃m,s.heap.Ns X.env.locals m∧∀(i:Nat) (x:Str) (v:V),X.N[i]? =some x→σ[i]? =some (some v)→Vis X.env.scope x→∃u,RelV v u∧quX X.env s.heap m x u
 cell: ∀x c,X.env.cells.lookup x=some c→∃v,s.heap.IsCell c v
 free:H X.env.locals=none
 freeC: ∀x c,X.env.cells.lookup x=some c→H c=none
 pin: ∀p∈X.pn++pins,s.heap.get? p.1=some p.2∧H p.1=none∧p.1≠X.env.locals∧p.1∉X.fs∧∀v,p.2.data≠.cell v
 hok:HOk X.prog X.w H s.heap
 len:σ.length=X.N.length
section
variable {X:Cx} {pins:List (Addr×Obj)} {σ:List (Option V)} {H H':Hp} {s:Shared} {h':Heap}
theorem Cx.Ok.nofr (ok:X.Ok) {b:Addr} {o:Obj} (e:X.base.get? b=some o):b∉X.fs:=fun hb=>by
 have:=(ok.funs.mem hb).1
 rw[e] at this; cases this
theorem Inv.bs (I:Inv X pins σ H s): ∀b o,X.base.get? b=some o→s.heap.get? b=some o∧H b=none:=fun b o e=>
 ⟨I.base.keep b o (I.ok.bs b o e).1 (I.ok.bs b o e).2 (I.ok.nofr e) (I.ok.noex b o e),I.base.free b o (I.ok.bs b o e).1 (I.ok.bs b o e).2 (I.ok.noex b o e)⟩
theorem Inv.bk (I:Inv X pins σ H s): ∀b o,X.base.get? b=some o→s.heap.get? b=some o:=fun b o e=>(I.bs b o e).1
theorem Inv.mod (I:Inv X pins σ H s):Mod X.K X.mg X.base:=I.ok.mod
theorem Inv.kIn (I:Inv X pins σ H s):X.K.In s.heap:=I.ok.mod.kin.keeps I.bk
theorem Inv.fr (I:Inv X pins σ H s): ∃m,Fr X.base X.env.locals s.heap m:=
 let ⟨m,hn,_⟩:=I.loc
 ⟨m,hn,I.bk,Nat.le_trans I.ok.bsz I.ok.above⟩
theorem Inv.lt (I:Inv X pins σ H s):X.env.locals<s.heap.objs.size:=let ⟨_,hn,_⟩:=I.loc; hn.lt
theorem Inv.sz (I:Inv X pins σ H s):X.s₀.heap.objs.size≤s.heap.objs.size:=Nat.le_trans I.ok.above (Nat.le_of_lt I.lt)
theorem Inv.nofs (I:Inv X pins σ H s) {a:Addr} (h:s.heap.objs.size≤a):a∉X.fs:=fun hb=>by
 obtain ⟨_,o,ho,_⟩:=I.ok.funs.mem hb
 exact absurd (Nat.lt_of_lt_of_le (Heap.lt_size ho) (Nat.le_trans I.sz h)) (Nat.lt_irrefl _)
theorem Inv.cne (I:Inv X pins σ H s): ∀x c,X.env.cells.lookup x=some c→c≠X.env.locals:=fun x c e z=>by
 obtain ⟨v,o,ho,hd⟩:=I.cell x c e
 obtain ⟨m,⟨o',es,ep,ho',hd',_⟩,_⟩:=I.loc
 rw[z,ho'] at ho; cases ho; rw[hd'] at hd; cases hd
theorem Inv.funs (I:Inv X pins σ H s):s.heap.FunFrames X.base X.outer:=by
 have all: ∀(l:List Env),(∀b∈frs l,b∈X.fs)→X.s₀.heap.FunFrames X.base l→s.heap.FunFrames X.base l:=by
  intro l
  induction l with
  | nil=>intro _ _; trivial
  | cons env r ih=>
   intro hs hl
   obtain ⟨hk,⟨L,o,hf,hn,ho,hd⟩,hr⟩:=hl
   have hL:L∈X.fs:=hs L (by unfold frs; rw[List.filterMap_cons,hf]; exact List.mem_cons_self)
   obtain ⟨sl,e⟩:=I.base.slot L o ho (I.ok.frf L hL) hL fun z=>I.ok.exfs L z hL
   exact ⟨hk,⟨L,_,hf,hn,e,hd⟩,ih (fun b hb=>hs b (by unfold frs; rw[List.filterMap_cons,hf]; exact List.mem_cons_of_mem _ hb)) hr⟩
 exact all X.outer (fun _ hb=>hb) I.ok.funs
theorem Inv.stack (I:Inv X pins σ H s):s.heap.FunFrames X.base X.stack:=by
 rcases I.ok.stk with e | ⟨e,hf⟩
 ·rw[e]; exact I.funs
 ·rw[e]
  obtain ⟨m,hn,_⟩:=I.loc
  refine .cons (by rw[I.ok.kind]; decide) hf hn ?_ I.funs
  exact Heap.get?_none_of_le (Nat.le_trans I.ok.bsz I.ok.above)
theorem Inv.stkSub (I:Inv X pins σ H s): ∀b∈frs X.stack,b∈X.env.locals::X.fs:=fun b hb=>by
 rcases I.ok.stk with e | ⟨e,hf⟩
 ·rw[e] at hb; exact List.mem_cons_of_mem _ hb
 ·rw[e] at hb
  unfold frs at hb
  rw[List.filterMap_cons,hf] at hb
  exact hb
theorem Inv.stkFree (I:Inv X pins σ H s): ∀b∈frs X.stack,H b=none:=fun b hb=>by
 rcases List.mem_cons.mp (I.stkSub b hb) with e | hb
 ·rw[e]; exact I.free
 ·obtain ⟨_,o,ho,_⟩:=I.ok.funs.mem hb
  exact I.base.free b o ho (I.ok.frf b hb) fun z=>I.ok.exfs b z hb
theorem Inv.step {g':Array GenState} {t':Nat} {d':Drawn} {ch:List Addr} (I:Inv X pins σ H s)
  (hch: ∀b∈ch,(b∈X.ex∨X.s₀.heap.objs.size≤b)∧b≠X.env.locals∧(∀x c,X.env.cells.lookup x=some c→c≠b)∧∀p∈X.pn++pins,p.1≠b)
  (keep: ∀b o,b≠X.env.locals→b∉X.fs→b∉ch→s.heap.get? b=some o→H b=none→h'.get? b=some o)
  (slot: ∀b o,b≠X.env.locals→b∈X.fs→b∉ch→s.heap.get? b=some o→H b=none→∃sl,h'.get? b=some { o with slots:=sl }) (free: ∀b o,b∉ch→s.heap.get? b=some o→H b=none→H' b=none)
  (there: ∀b o,b∉ch→s.heap.get? b=some o→∃o',h'.get? b=some o')
  (tups: ∀b xs,H b=some (.tup xs)→H' b=some (.tup xs)) (frzs: ∀b o u,H b=some (.frz o u)→H' b=some (.frz o u)) (tbls: ∀b ps,H b=some (.tbl ps)→∃more,H' b=some (.tbl (ps++more)))
  (ns: ∀m,s.heap.Ns X.env.locals m→h'.Ns X.env.locals m) (hok:HOk X.prog X.w H' h') (hg:AllBare g'):
  Inv X pins σ H' { s with heap:=h',gens:=g',drawn:=d',toks:=t' }:=by
 have neL: ∀b o,X.s₀.heap.get? b=some o→b≠X.env.locals:=fun b o e=>Nat.ne_of_lt (Nat.lt_of_lt_of_le (Heap.lt_size e) I.ok.above)
 have neC: ∀b o,X.s₀.heap.get? b=some o→b∉X.ex→b∉ch:=fun b o e hx hb=>by
  rcases (hch b hb).1 with z | z
  ·exact hx z
  ·exact absurd (Nat.lt_of_lt_of_le (Heap.lt_size e) z) (Nat.lt_irrefl _)
 have cellK: ∀x c,X.env.cells.lookup x=some c→∀v,s.heap.IsCell c v→h'.IsCell c v:=fun x c e v ⟨o,ho,hd⟩=>by
  have nch:c∉ch:=fun z=>(hch c z).2.2.1 x c e rfl
  by_cases hc:c∈X.fs
  ·obtain ⟨sl,q⟩:=slot c o (I.cne x c e) hc nch ho (I.freeC x c e)
   exact ⟨_,q,hd⟩
  ·exact ⟨o,keep c o (I.cne x c e) hc nch ho (I.freeC x c e),hd⟩
 refine ⟨I.ok,I.os,hg,⟨fun b o e n hb hx=> ?_,fun b o e n hb hx=> ?_,fun b o e n hx=> ?_,fun b o e hx=> ?_,fun b xs e=>tups b xs (I.base.tups b xs e),fun b o xs e=>frzs b o xs (I.base.frzs b o xs e),fun b ps e=> ?_⟩,?_,fun x c e=> ?_,?_,fun x c e=> ?_,fun p hp=> ?_,hok,I.len⟩
 ·exact keep b o (neL b o e) hb (neC b o e hx) (I.base.keep b o e n hb hx) (I.base.free b o e n hx)
 ·obtain ⟨sl,e1⟩:=I.base.slot b o e n hb hx
  obtain ⟨sl',e2⟩:=slot b _ (neL b o e) hb (neC b o e hx) e1 (I.base.free b o e n hx)
  exact ⟨sl',e2⟩
 ·obtain ⟨o',e1⟩:=I.base.there b o e hx
  exact free b o' (neC b o e hx) e1 (I.base.free b o e n hx)
 ·obtain ⟨o',e1⟩:=I.base.there b o e hx
  exact there b o' (neC b o e hx) e1
 ·obtain ⟨m1,e1⟩:=I.base.tbls b ps e
  obtain ⟨m2,e2⟩:=tbls b _ e1
  exact ⟨m1++m2,by rw[e2,Array.append_assoc]⟩
 ·obtain ⟨m,hn,hl⟩:=I.loc
  refine ⟨m,ns m hn,fun i x v e1 e2 e3=> ?_⟩
  obtain ⟨u,r,l⟩:=hl i x v e1 e2 e3
  refine ⟨u,r,?_⟩
  rcases l with l | ⟨k,c,e,z⟩
  ·exact .inl l
  ·exact .inr ⟨k,c,e,cellK x c e _ z⟩
 ·obtain ⟨v,z⟩:=I.cell x c e
  exact ⟨v,cellK x c e v z⟩
 ·obtain ⟨m,⟨o,_,_,ho,_⟩,_⟩:=I.loc
  exact free _ o (fun z=>(hch _ z).2.1 rfl) ho I.free
 ·obtain ⟨v,o,ho,hd⟩:=I.cell x c e
  exact free c o (fun z=>(hch c z).2.2.1 x c e rfl) ho (I.freeC x c e)
 ·obtain ⟨e,n,ne,nf,d⟩:=I.pin p hp
  have nch:p.1∉ch:=fun z=>(hch p.1 z).2.2.2 p hp rfl
  exact ⟨keep p.1 p.2 ne nf nch e n,free p.1 p.2 nch e n,ne,nf,d⟩
theorem Inv.un {t':Nat} (I:Inv X pins σ H s) (u:Un X.fs [] H H' s.heap h') (hok:HOk X.prog X.w H' h'):Inv X pins σ H' { s with heap:=h',toks:=t' }:=by
 obtain ⟨m,⟨o,es,ep,ho,r⟩,_⟩:=id I.loc
 obtain ⟨sl,hL⟩:=u.any ho I.free (by simp)
 exact I.step (g':=s.gens) (d':=s.drawn) (ch:=[]) (fun _ z=>nomatch z) (fun b o _ hb _ e n=>u.keep b o e n hb (by simp)) (fun b o _ hb _ e n=>u.slot b o e n hb (by simp)) (fun b o _ e n=>u.free b o e n (by simp)) (fun b o _ e=>u.there b o e (by simp)) u.tups u.frzs u.tbls (fun m' hm=>by
  obtain ⟨o',es',ep',ho',r'⟩:=hm
  rw[ho] at ho'; cases ho'
  exact ⟨_,es',ep',hL,r'⟩) hok I.bare
theorem Inv.call {g':Array GenState} {t':Nat} {d':Drawn} {ch:List Addr} (I:Inv X pins σ H s) (u:Un (frs X.stack) ch H H' s.heap h') (hok:HOk X.prog X.w H' h') (hg:AllBare g')
  (hch: ∀b∈ch,(b∈X.ex∨X.s₀.heap.objs.size≤b)∧b≠X.env.locals∧(∀x c,X.env.cells.lookup x=some c→c≠b)∧∀p∈X.pn++pins,p.1≠b):
  Inv X pins σ H' { s with heap:=h',gens:=g',drawn:=d',toks:=t' }:=by
 obtain ⟨m,⟨o,es,ep,ho,r⟩,_⟩:=id I.loc
 obtain ⟨sl,hL⟩:=u.any ho I.free fun z=>(hch _ z).2.1 rfl
 exact I.step (ch:=ch) hch (fun b o hL hb hc e n=>u.keep b o e n (fun z=>(List.mem_cons.mp (I.stkSub b z)).elim hL hb) hc) (fun b o _ _ hc e n=>u.any e n hc) (fun b o hc e n=>u.free b o e n hc) (fun b o hc e=>u.there b o e hc) u.tups u.frzs u.tbls (fun m' hm=>by
  obtain ⟨o',es',ep',ho',r'⟩:=hm
  rw[ho] at ho'; cases ho'
  exact ⟨_,es',ep',hL,r'⟩) hok hg
theorem Inv.turned {t':Nat} {it:Addr} (I:Inv X pins σ H s) (k: ∀b o,b≠it→s.heap.get? b=some o→h'.get? b=some o) (hn:H it=none) (hL:it≠X.env.locals)
  (h1:it∈X.ex∨X.s₀.heap.objs.size≤it) (h2: ∀x c,X.env.cells.lookup x=some c→c≠it) (h3: ∀p∈X.pn++pins,p.1≠it):Inv X pins σ H { s with heap:=h',toks:=t' }:=by
 have nit: ∀b u,H b=some u→b≠it:=fun b u e z=>by rw[z,hn] at e; cases e
 refine I.step (g':=s.gens) (d':=s.drawn) (ch:=[it]) (fun b hb=> ?_) (fun b o _ _ hc e _=>k b o (fun z=>hc (by simp[z])) e) (fun b o _ _ hc e _=>⟨o.slots,k b o (fun z=>hc (by simp[z])) e⟩) (fun _ _ _ _ n=>n)
  (fun b o hc e=>⟨o,k b o (fun z=>hc (by simp[z])) e⟩) (fun _ _ e=>e) (fun _ _ _ e=>e) (fun b ps e=>⟨#[],by rw[e]; simp⟩) (fun m hm=> ?_) (fun b u e=> ?_) I.bare
 ·have e:b=it:=by simpa using hb
  subst e
  exact ⟨h1,hL,h2,h3⟩
 ·obtain ⟨o,es,ep,ho,r⟩:=hm
  exact ⟨o,es,ep,k _ o (Ne.symm hL) ho,r⟩
 ·refine (I.hok b u e).stay (fun c v hc q=>k c v ?_ q) (fun _ q=>q) fun _ _ q=>q
  rcases hc with z | z
  ·rw[z]; exact nit b u e
  ·exact nit c _ z
theorem Inv.tok (I:Inv X pins σ H s) (t:Nat):Inv X pins σ H { s with toks:=t }:=I.un (h':=s.heap) (t':=t) Un.refl I.hok
theorem Inv.kept {t':Nat} (I:Inv X pins σ H s) (k: ∀b u,s.heap.get? b=some u→h'.get? b=some u):Inv X pins σ H { s with heap:=h',toks:=t' }:=I.un (Un.kept k) (I.hok.kept k)
theorem Inv.laid {a:Addr} {o:HO} {t':Nat} (I:Inv X pins σ H s) (k: ∀b u,s.heap.get? b=some u→h'.get? b=some u) (hp:s.heap.objs.size≤a) (new:qa2 X.prog X.w (upd H a o) h' a o):
  Inv X pins σ (upd H a o) { s with heap:=h',toks:=t' }:=I.un (Un.laid k hp (I.hok.fresh hp)) (I.hok.laid k hp new)
theorem Inv.write {x e:Addr} {o:HO} {t':Nat} (I:Inv X pins σ H s) (mu:Mut (H x)) (he:e=x∨H e=some (.own x)) (k: ∀b u,b≠e→s.heap.get? b=some u→h'.get? b=some u) (heo: ∃u,h'.get? e=some u)
  (new:qa2 X.prog X.w (upd H x o) h' x o):Inv X pins σ (upd H x o) { s with heap:=h',toks:=t' }:=I.un (Un.write mu he k heo) (I.hok.write mu he k heo new)
theorem Inv.pins_of {pins':List (Addr×Obj)} (I:Inv X pins σ H s) (h: ∀p∈pins',s.heap.get? p.1=some p.2∧H p.1=none∧p.1≠X.env.locals∧p.1∉X.fs∧∀v,p.2.data≠.cell v):Inv X pins' σ H s:=
 ⟨I.ok,I.os,I.bare,I.base,I.loc,I.cell,I.free,I.freeC,fun p hp=>(List.mem_append.mp hp).elim (fun z=>I.pin p (List.mem_append_left _ z)) (h p),I.hok,I.len⟩
theorem qhH {N:List Str} (hN:N.Nodup) {i j:Nat} {x:Str} (a:N[i]? =some x) (b:N[j]? =some x):i=j:=by
 obtain ⟨h1,e1⟩:=List.getElem?_eq_some_iff.mp a
 obtain ⟨h2,e2⟩:=List.getElem?_eq_some_iff.mp b
 exact (List.getElem_inj hN).mp (e1.trans e2.symm)
theorem qfz {M:Model} {A:Around} {E:Value→Shared→Prop} {i:Nat} {x:Str} {v:V} {u:Value} {Q:Unit→Shared→Prop} (I:Inv X pins σ H s) (hN:X.N.Nodup) (hi:X.N[i]? =some x) (hx:Loc X.env.scope x) (r:RelV v u)
  (h: ∀s',Inv X pins (σ.set i (some v)) H s'→(∃a,Heap.SameBut a s.heap s'.heap∧(a=X.env.locals∨X.env.cells.lookup x=some a))→Q () s') (hf:X.fn x=true∨X.env.scope.names.lookup x=some .local:=by first | exact .inl rfl | exact .inr rfl | assumption):wpAny M A (storeName X.env x u) Q E s:=by
 obtain ⟨m,hn,hl⟩:=id I.loc
 have hcls:(X.env.scope.kind== .class||(X.env.scope.kind== .module&&X.env.locals != X.env.globals))=false:=by rw[I.ok.kind]; rfl
 have hiσ:i<σ.length:=by rw[I.len]; exact (List.getElem?_eq_some_iff.mp hi).1
 have cne:=I.cne
 have tracked: ∀{a:Addr} {h':Heap},(∃o,s.heap.get? a=some o∧H a=none)→Heap.SameBut a s.heap h'→HOk X.prog X.w H h':=fun {a h'} ha hs b ob e=>by
  obtain ⟨_,_,hfree⟩:=ha
  refine (I.hok b ob e).stay (fun c w' hc q=>(hs.2 c ?_).trans q) (fun _ q=>q) fun _ _ q=>q
  rintro rfl
  rcases hc with rfl | hc
  ·rw[hfree] at e; cases e
  ·rw[hfree] at hc; cases hc
 rcases hx with hk | hk
 ·refine wpAny_storeName_local hk hn (fun h' hn' hs=> ?_) hcls
  obtain ⟨oL,_,_,hoL,_⟩:=id hn
  refine h _ ⟨I.ok,I.os,I.bare,⟨fun b o e n hb hx=> ?_,fun b o e n hb hx=> ?_,I.base.free,fun b o e hx=> ?_,I.base.tups,I.base.frzs,I.base.tbls⟩,⟨_,hn',fun j y v' e1 e2 e3=> ?_⟩,fun y c e=> ?_,I.free,I.freeC,fun p hp=> ?_,tracked ⟨oL,hoL,I.free⟩ hs,by simpa using I.len⟩ ⟨_,hs,.inl rfl⟩
  ·exact (hs.2 b (Nat.ne_of_lt (Nat.lt_of_lt_of_le (Heap.lt_size e) I.ok.above))).trans (I.base.keep b o e n hb hx)
  ·obtain ⟨sl,e1⟩:=I.base.slot b o e n hb hx
   exact ⟨sl,(hs.2 b (Nat.ne_of_lt (Nat.lt_of_lt_of_le (Heap.lt_size e) I.ok.above))).trans e1⟩
  ·obtain ⟨o',e1⟩:=I.base.there b o e hx
   exact ⟨o',(hs.2 b (Nat.ne_of_lt (Nat.lt_of_lt_of_le (Heap.lt_size e) I.ok.above))).trans e1⟩
  ·by_cases hj:j=i
   ·subst hj
    rw[hi] at e1; cases e1
    rw[List.getElem?_set_self hiσ] at e2
    cases e2
    exact ⟨u,r,.inl ⟨hk,by simp⟩⟩
   ·rw[List.getElem?_set_ne (Ne.symm hj)] at e2
    obtain ⟨u',r',q⟩:=hl j y v' e1 e2 e3
    refine ⟨u',r',?_⟩
    rcases q with ⟨k,e⟩ | ⟨k,c,e,z⟩
    ·refine .inl ⟨k,?_⟩
     have:y≠x:=fun e=>hj (qhH hN e1 (e▸hi))
     simp[this,e]
    ·exact .inr ⟨k,c,e,z.sameBut hs (cne y c e)⟩
  ·obtain ⟨w',z⟩:=I.cell y c e
   exact ⟨w',z.sameBut hs (cne y c e)⟩
  ·obtain ⟨e,n,ne,nf,d⟩:=I.pin p hp
   exact ⟨(hs.2 p.1 ne).trans e,n,ne,nf,d⟩
 ·have hfn:X.fn x=true:=by
   rcases hf with z | z
   ·exact z
   ·rw[z] at hk; cases hk
  obtain ⟨c,hc⟩:=I.ok.has x (.inl hk)
  obtain ⟨w',z⟩:=I.cell x c hc
  refine wpAny_storeName_cell I.ok.kind hk hc z (fun h' hc' hs=> ?_)
  obtain ⟨oc,hoc,hocd⟩:=id z
  refine h { s with heap:=h' } ⟨I.ok,I.os,I.bare,⟨fun b o e n hb hx=> ?_,fun b o e n hb hx=> ?_,I.base.free,fun b o e hx=> ?_,I.base.tups,I.base.frzs,I.base.tbls⟩,⟨m,hn.sameBut hs (Ne.symm (cne x c hc)),fun j y v' e1 e2 e3=> ?_⟩,fun y c' e=> ?_,I.free,I.freeC,fun p hp=> ?_,tracked ⟨oc,hoc,I.freeC x c hc⟩ hs,by simpa using I.len⟩ ⟨c,hs,.inr hc⟩
  ·exact (hs.2 b (Nat.ne_of_lt (Nat.lt_of_lt_of_le (Heap.lt_size e) (I.ok.cab x c hfn hc)))).trans (I.base.keep b o e n hb hx)
  ·obtain ⟨sl,e1⟩:=I.base.slot b o e n hb hx
   exact ⟨sl,(hs.2 b (Nat.ne_of_lt (Nat.lt_of_lt_of_le (Heap.lt_size e) (I.ok.cab x c hfn hc)))).trans e1⟩
  ·obtain ⟨o',e1⟩:=I.base.there b o e hx
   exact ⟨o',(hs.2 b (Nat.ne_of_lt (Nat.lt_of_lt_of_le (Heap.lt_size e) (I.ok.cab x c hfn hc)))).trans e1⟩
  ·by_cases hj:j=i
   ·subst hj
    rw[hi] at e1; cases e1
    rw[List.getElem?_set_self hiσ] at e2
    cases e2
    exact ⟨u,r,.inr ⟨.inl hk,c,hc,hc'⟩⟩
   ·rw[List.getElem?_set_ne (Ne.symm hj)] at e2
    obtain ⟨u',r',q⟩:=hl j y v' e1 e2 e3
    refine ⟨u',r',?_⟩
    rcases q with q | ⟨k,c',e,z'⟩
    ·exact .inl q
    ·refine .inr ⟨k,c',e,z'.sameBut hs ?_⟩
     rintro rfl
     exact hj (qhH hN e1 (I.ok.inj _ _ _ e hc▸hi))
  ·by_cases hcc:c'=c
   ·subst hcc; exact ⟨_,hc'⟩
   ·obtain ⟨w2,z2⟩:=I.cell y c' e
    exact ⟨w2,z2.sameBut hs hcc⟩
  ·obtain ⟨e,n,ne,nf,d⟩:=I.pin p hp
   refine ⟨(hs.2 p.1 ?_).trans e,n,ne,nf,d⟩
   intro q
   rw[q,hoc] at e
   have q':oc=p.2:=Option.some.inj e
   exact d w' (by rw[←q']; exact hocd)
theorem qdO {M:Model} {A:Around} {E:Value→Shared→Prop} {i:Nat} {x:Str} {v:V} {u:Value} {Q:Unit→Shared→Prop} (I:Inv X pins σ H s) (hN:X.N.Nodup) (hi:X.N[i]? =some x) (hx:Loc X.env.scope x) (r:RelV v u)
  (h: ∀s',Inv X pins (σ.set i (some v)) H s'→Q () s') (hf:X.fn x=true∨X.env.scope.names.lookup x=some .local:=by first | exact .inl rfl | exact .inr rfl | assumption):wpAny M A (storeName X.env x u) Q E s:=
 qfz I hN hi hx r (fun s' I' _=>h s' I') hf
theorem Inv.call' {s':Shared} {ch:List Addr} (I:Inv X pins σ H s) (ho:s'.os=s.os) (u:Un (frs X.stack) ch H H' s.heap s'.heap) (hok:HOk X.prog X.w H' s'.heap) (hg:AllBare s'.gens)
  (hch: ∀b∈ch,(b∈X.ex∨X.s₀.heap.objs.size≤b)∧b≠X.env.locals∧(∀x c,X.env.cells.lookup x=some c→c≠b)∧∀p∈X.pn++pins,p.1≠b):Inv X pins σ H' s':=by
 obtain ⟨h',g',d',t',o'⟩:=s'
 have e:o'=s.os:=ho
 subst e
 exact I.call (g':=g') (t':=t') (d':=d') u hok hg hch
end
abbrev XK:=Value→Option Addr→Hp→Prop
abbrev St:=List (Option V)
abbrev VK:=V→Hp→Prop
abbrev TE:=St→Hp→VK→Prop
abbrev TT:=St→Hp→(Bool→Hp→Prop)→Prop
abbrev TA:=St→Hp→(List V→Hp→Prop)→Prop
structure qm6 where
 nx:St→Hp→Prop
 rt:VK
 bk:St→Hp→Prop:=fun _ _=>False
 ct:St→Hp→Prop:=fun _ _=>False
abbrev TS:=qm6→St→Hp→Prop
def EP (X:Cx) (pins:List (Addr×Obj)) (σ:St) (Q:VK) (u:Value) (s':Shared):Prop:= ∃v H',Inv X pins σ H' s'∧RelV v u∧Q v H'
def TP (X:Cx) (pins:List (Addr×Obj)) (σ:St) (Q:Bool→Hp→Prop) (b:Bool) (s':Shared):Prop:= ∃H',Inv X pins σ H' s'∧Q b H'
def AP (X:Cx) (pins:List (Addr×Obj)) (σ:St) (Q:List V→Hp→Prop) (us:List Value) (s':Shared):Prop:= ∃vs H',Inv X pins σ H' s'∧qa1 vs us∧Q vs H'
def SP (X:Cx) (pins:List (Addr×Obj)) (D:qm6) (f:Flow) (s':Shared):Prop:=
 match f with
 | .next=> ∃σ' H',Inv X pins σ' H' s'∧D.nx σ' H'
 | .brk=> ∃σ' H',Inv X pins σ' H' s'∧D.bk σ' H'
 | .cont=> ∃σ' H',Inv X pins σ' H' s'∧D.ct σ' H'
 | .ret u=> ∃v σ' H',Inv X pins σ' H' s'∧RelV v u∧D.rt v H'
def PE (X:Cx) (e:Expr) (t:TE):Prop:=
 ∀(pins:List (Addr×Obj)) (s:Shared) (σ:St) (H:Hp) (Q:VK),Inv X pins σ H s→t σ H Q→wpAny (model X.prog X.w) X.A (eval e X.env) (EP X pins σ Q) X.xe s
def PT (X:Cx) (e:Expr) (t:TT):Prop:=
 ∀(pins:List (Addr×Obj)) (s:Shared) (σ:St) (H:Hp) (Q:Bool→Hp→Prop),Inv X pins σ H s→t σ H Q→wpAny (model X.prog X.w) X.A (isTrue e X.env (eval e X.env)) (TP X pins σ Q) X.xe s
def PW (X:Cx) (e:Expr) (t:TT):Prop:=
 ∀(qaT:Sem Value) (pins:List (Addr×Obj)) (s:Shared) (σ:St) (H:Hp) (Q:Bool→Hp→Prop),Inv X pins σ H s→t σ H Q→wpAny (model X.prog X.w) X.A (isTrue e X.env qaT) (TP X pins σ Q) X.xe s
theorem PW.pt {X:Cx} {e:Expr} {t:TT} (h:PW X e t):PT X e t:=h _
def PA (X:Cx) (es:List Expr) (t:TA):Prop:=
 ∀(pos:Pos) (pins:List (Addr×Obj)) (s:Shared) (σ:St) (H:Hp) (Q:List V→Hp→Prop),Inv X pins σ H s→t σ H Q→wpAny (model X.prog X.w) X.A (spliced (backTo pos (starEach es X.env))) (AP X pins σ Q) X.xe s
def PS (X:Cx) (st:Stmt) (t:TS):Prop:=
 ∀(pins:List (Addr×Obj)) (s:Shared) (σ:St) (H:Hp) (D:qm6),Inv X pins σ H s→t D σ H→wpAny (model X.prog X.w) X.A (exec st X.env) (SP X pins D) X.xe s
def PSs (X:Cx) (st:List Stmt) (t:TS):Prop:=
 ∀(pins:List (Addr×Obj)) (s:Shared) (σ:St) (H:Hp) (D:qm6),Inv X pins σ H s→t D σ H→wpAny (model X.prog X.w) X.A (execs st X.env) (SP X pins D) X.xe s
theorem thn {α:Type} {t:Sem α} {Q Q':α→Shared→Prop} {M:Model} {A:Around} {E:Value→Shared→Prop} {s:Shared} (h:wpAny M A t Q E s) (hQ: ∀a s,Q a s→Q' a s):wpAny M A t Q' E s:=wpAny_mono h hQ fun _ _ x=>x
end L2
namespace L2
open PySem PySem.Spec PyProof.Rows
section
variable {X:Cx}
theorem bin {a b:Expr} {ta tb:TE} (ha:PE X a ta) (hb:PE X b tb) {pins:List (Addr×Obj)} {s:Shared} {σ:St} {H:Hp} {R:V→V→Hp→Prop} (I:Inv X pins σ H s) (h:ta σ H fun x H1=>tb σ H1 fun y H2=>R x y H2)
  {α:Type} {Q:α→Shared→Prop} {f:Value→Value→Sem α}
  (hf: ∀v u s2 x y H2,Inv X pins σ H2 s2→RelV x v→RelV y u→R x y H2→wpAny (model X.prog X.w) X.A (f v u) Q X.xe s2):
  wpAny (model X.prog X.w) X.A (eval a X.env) (fun v s₁=>wpAny (model X.prog X.w) X.A (eval b X.env) (fun u s₂=>wpAny (model X.prog X.w) X.A (f v u) Q X.xe s₂) X.xe s₁) X.xe s:=by
 refine thn (ha pins s σ H _ I h) fun v s1 ⟨x,H1,I1,r1,q1⟩=> ?_
 refine thn (hb pins s1 σ H1 _ I1 q1) fun u s2 ⟨y,H2,I2,r2,q2⟩=> ?_
 exact hf v u s2 x y H2 I2 r1 r2 q2
def qho (i:Nat):TE:=fun σ H Q=> ∃v,σ[i]? =some (some v)∧Q v H
def tC (v:V):TE:=fun _ H Q=>Q v H
theorem qqf {i:Nat} {x:Str} {pos:Pos} (hN:X.N[i]? =some x) (hv:Vis X.env.scope x) (hd:(x==("__debug__" :Str))=false:=by decide) (hcd:(x==("__classdict__" :Str))=false:=by decide):PE X (.Name x pos) (qho i):=by
 intro pins s σ H Q I h
 obtain ⟨v,e,h⟩:=h
 obtain ⟨m,hn,hl⟩:=I.loc
 obtain ⟨u,r,l⟩:=hl i x v hN e hv
 have fin:EP X pins σ Q u s:=⟨v,H,I,r,h⟩
 rcases l with ⟨hk,hm⟩ | ⟨hk,c,hc,hcell⟩
 ·exact wpAny_Name (wpAny_loadName_local I.ok.kind hk hn hm fin) hd
 ·rcases hk with hk | hk
  ·exact wpAny_Name (wpAny_loadName_cell I.ok.kind hk hc hcell fin) hd
  ·exact wpAny_Name (wpAny_loadName_free I.ok.kind hk hc hcell fin hcd) hd
theorem qcW {i j pos}:PE X (.Constant (.int i) j pos) (tC (.int i)):=fun _ _ _ H _ I h=>wpAny_Constant_int ⟨.int i,H,I.tok _,⟨_,rfl⟩,h⟩
theorem qsl {b j pos}:PE X (.Constant (.bool b) j pos) (tC (.bl b)):=fun _ _ _ H _ I h=>Constant_bool ⟨.bl b,H,I,rfl,h⟩
theorem qqh {x j pos}:PE X (.Constant (.str x) j pos) (tC (.str x)):=fun _ _ _ H _ I h=>Calls.Constant_str ⟨.str x,H,I.tok _,⟨_,rfl⟩,h⟩
def Gl (X:Cx) (x:Str):Prop:=X.env.kindOf x=some .globalImplicit
theorem qkf {E:Value→Shared→Prop} {pins:List (Addr×Obj)} {s:Shared} {σ:St} {H:Hp} {x:Str} {u:Value} {pos:Pos} {Q:Value→Shared→Prop} (I:Inv X pins σ H s) (hg:Gl X x) (hm:X.mg x=some u) (h:Q u s)
  (hd:(x==("__debug__" :Str))=false:=by decide):wpAny (model X.prog X.w) X.A (eval (.Name x pos) X.env) Q E s:=
 Calls.Name_function_global I.ok.kind hg (Calls.loadGlobal_global (by rw[I.ok.glob]; exact I.mod.glob.keeps I.bk) hm h) hd
theorem qdC {E:Value→Shared→Prop} {pins:List (Addr×Obj)} {s:Shared} {σ:St} {H:Hp} {x:Str} {u:Value} {pos:Pos} {Q:Value→Shared→Prop} (I:Inv X pins σ H s) (hg:Gl X x) (hm:X.mg x=none) (hv:bootBuiltins x=some u) (h:Q u s)
  (hn:x≠ "__name__" :=by decide) (hd:(x==("__debug__" :Str))=false:=by decide):wpAny (model X.prog X.w) X.A (eval (.Name x pos) X.env) Q E s:=by
 obtain ⟨mb,h1,h2⟩:=I.mod.blt
 exact Calls.Name_function_global I.ok.kind hg (Calls.loadGlobal_builtin (by rw[I.ok.glob]; exact I.mod.glob.keeps I.bk) hm (by rw[I.ok.blt]; exact h1.keeps I.bk) ((h2 x hn).trans hv) h) hd
theorem qbE {x:Str} {v:V} {u:Value} {pos:Pos} (hg:Gl X x) (hm:X.mg x=some u) (r:RelV v u) (hd:(x==("__debug__" :Str))=false:=by decide):PE X (.Name x pos) (tC v):=
 fun _ _ _ H _ I h=>qkf I hg hm ⟨v,H,I,r,h⟩ hd
theorem qcF {x:Str} {v:V} {u:Value} {pos:Pos} (hg:Gl X x) (hm:X.mg x=none) (hv:bootBuiltins x=some u) (r:RelV v u) (hn:x≠ "__name__" :=by decide) (hd:(x==("__debug__" :Str))=false:=by decide):PE X (.Name x pos) (tC v):=
 fun _ _ _ H _ I h=>qdC I hg hm hv ⟨v,H,I,r,h⟩ hn hd
variable {a b:Expr} {ta tb:TE} {pos:Pos}
def PC (X:Cx) (op:CmpOp) (a b:Expr) (t:TE):Prop:=
 ∀(pins:List (Addr×Obj)) (s:Shared) (σ:St) (H:Hp) (Q:VK),Inv X pins σ H s→t σ H Q→
  wpAny (model X.prog X.w) X.A (eval a X.env) (fun v s₁=>wpAny (model X.prog X.w) X.A (eval b X.env) (fun u s₂=>wpAny (model X.prog X.w) X.A (compareOp op v u) (EP X pins σ Q) X.xe s₂) X.xe s₁) X.xe s
theorem qfb (b:Expr) {op:CmpOp} (h:op≠.In) (h2:op≠.NotIn):behindInMarks op b=false:=by
 have e1:(op==CmpOp.In)=false:=by cases op<;>first | rfl | exact absurd rfl h
 have e2:(op==CmpOp.NotIn)=false:=by cases op<;>first | rfl | exact absurd rfl h2
 cases b<;>simp[behindInMarks,e1,e2]
def tB (t:TE):TT:=fun σ H Q=>t σ H fun x H1=> ∃c,x= .bl c∧Q c H1
theorem qnj {op:CmpOp} {t:TE} (h:PC X op a b t) (h1:behindInMarks op b=false:=by first | exact qfb _ (by decide) (by decide) | rfl):PT X (.Compare a [op] [b] pos) (tB t):=by
 intro pins s σ H Q I hw
 refine wpAny_isTrue_Compare1 (thn (h pins s σ H _ I hw) fun v s1 h1=>thn h1 fun u s2 h2=>thn h2 fun c s3 ⟨x,H1,I1,r1,q1⟩=> ?_) h1
 obtain ⟨d,rfl,q⟩:=q1
 cases r1
 exact wpAny_truthy_bool ⟨H1,I1,q⟩
theorem qp6 {e:Expr} {t:TE} (h:PE X e t) (he: ∀qaT,isTrue e X.env qaT=(do let v ←qaT; standAt e.pos; holding [v] (truthy v)):=by intro _; rfl):PT X e (tB t):=by
 intro pins s σ H Q I hw
 refine isTrue_plain (thn (h pins s σ H _ I hw) fun v s1 ⟨x,H1,I1,r1,q1⟩=> ?_) (he _)
 obtain ⟨d,rfl,q⟩:=q1
 cases r1
 exact wpAny_truthy_bool ⟨H1,I1,q⟩
variable {tA tB':TT} {qde:List Expr}
def qt1 (t u:TT):TT:=fun σ H Q=>t σ H fun c H1=>if c=true then u σ H1 Q else Q false H1
def tOr (t u:TT):TT:=fun σ H Q=>t σ H fun c H1=>if c=true then Q true H1 else u σ H1 Q
def qtV (t:TT):TT:=fun σ H Q=>t σ H fun c H1=>Q (!c) H1
theorem qoa (ha:PT X a tA):PW X (.BoolOp .And [a] pos) tA:=by
 intro wh pins s σ H Q I h
 refine isTrue_and (thn (ha pins s σ H Q I h) fun c s1 e=> ?_)
 cases c with
 | true=>exact isTrue_and_nil e
 | false=>exact e
theorem qp4 (ha:PT X a tA):PW X (.BoolOp .Or [a] pos) tA:=by
 intro wh pins s σ H Q I h
 refine isTrue_or (thn (ha pins s σ H Q I h) fun c s1 e=> ?_)
 cases c with
 | false=>exact isTrue_or_nil e
 | true=>exact e
theorem qp5 (ha:PT X a tA) (hb:PW X (.BoolOp .And (b::qde) pos) tB'):PW X (.BoolOp .And (a::b::qde) pos) (qt1 tA tB'):=by
 intro wh pins s σ H Q I h
 refine isTrue_and (thn (ha pins s σ H _ I h) fun c s1 ⟨H1,I1,q1⟩=> ?_)
 cases c with
 | true=>exact hb wh pins s1 σ H1 Q I1 q1
 | false=>exact ⟨H1,I1,q1⟩
theorem qsj (ha:PT X a tA) (hb:PW X (.BoolOp .Or (b::qde) pos) tB'):PW X (.BoolOp .Or (a::b::qde) pos) (tOr tA tB'):=by
 intro wh pins s σ H Q I h
 refine isTrue_or (thn (ha pins s σ H _ I h) fun c s1 ⟨H1,I1,q1⟩=> ?_)
 cases c with
 | true=>exact ⟨H1,I1,q1⟩
 | false=>exact hb wh pins s1 σ H1 Q I1 q1
theorem qp7 (ha:PT X a tA):PT X (.UnaryOp .Not a pos) (qtV tA):=by
 intro pins s σ H Q I h
 exact isTrue_not (ha pins s σ H (fun c H1=>Q (!c) H1) I h)
def qrE (ta tb:TE):TE:=fun σ H Q=>ta σ H fun x H1=> ∃c,x= .bl c∧if c=true then tb σ H1 Q else Q (.bl false) H1
def qrA (ta:TE):TE:=fun σ H Q=>ta σ H fun x H1=> ∃c,x= .bl c∧Q (.bl (!c)) H1
theorem qqi {op} {t:TE} (h:PE X a t):PE X (.BoolOp op [a] pos) t:=fun pins s σ H Q I hw=>BoolOp_one (h pins s σ H Q I hw)
theorem qqk (ha:PE X a ta) (hb:PE X (.BoolOp .And (b::qde) pos) tb):PE X (.BoolOp .And (a::b::qde) pos) (qrE ta tb):=by
 intro pins s σ H Q I h
 refine BoolOp_and (thn (ha pins s σ H _ I h) fun v s1 ⟨x,H1,I1,r1,q1⟩=> ?_)
 obtain ⟨c,rfl,q1⟩:=q1
 cases r1
 refine wpAny_truthy_bool ?_
 cases c with
 | true=>exact hb pins s1 σ H1 Q I1 q1
 | false=>exact ⟨.bl false,H1,I1,rfl,q1⟩
theorem qqj (ha:PE X a ta):PE X (.UnaryOp .Not a pos) (qrA ta):=by
 intro pins s σ H Q I h
 refine UnaryOp_ (thn (ha pins s σ H _ I h) fun v s1 ⟨x,H1,I1,r1,q1⟩=> ?_)
 obtain ⟨c,rfl,q1⟩:=q1
 cases r1
 exact not_of (wpAny_truthy_bool ⟨.bl (!c),H1,I1,rfl,q1⟩)
end
end L2
namespace L2
open PySem PySem.Spec PyProof.Rows
def SqL (K:PySem.W.Frag) (H:Hp) (a:Addr) (xs:List V):Prop:=
 Rd H a (.lst xs)∨
  ∃(o:Obj) (its:Array Value) (n:Nat),K.lookup a=some o∧o.cls= .type "list" ∧o.dict=none∧o.data= .seq its n∧its.size≤sizeLine∧qa1 xs its.toList
def SqT (K:PySem.W.Frag) (H:Hp) (a:Addr) (xs:List V):Prop:=
 Rd H a (.tup xs)∨
  ∃(o:Obj) (its:Array Value) (n:Nat),K.lookup a=some o∧o.cls= .type "tuple" ∧o.data= .seq its n∧its.size≤sizeLine∧qa1 xs its.toList
def quS:Value→Option V
 | .none=>some .non
 | .bool b=>some (.bl b)
 | .int i _=>some (.int i)
 | .str x _=>some (.str x)
 | .bytes b _=>some (.byt b)
 | .float b _=>some (.flt b)
 | .ref a=>some (.ref a)
 | .type n=>some (.ty n)
 | _=>none
theorem RelV.abs {x:V} {u:Value} (r:RelV x u):quS u=some x:=by
 cases x with
 | non=>cases r; rfl
 | bl _=>cases r; rfl
 | int _=>obtain ⟨t,rfl⟩:=r; rfl
 | str _=>obtain ⟨t,rfl⟩:=r; rfl
 | byt _=>obtain ⟨t,rfl⟩:=r; rfl
 | flt _=>obtain ⟨t,rfl⟩:=r; rfl
 | ref _=>cases r; rfl
 | ty _=>cases r; rfl
theorem RelV.inj {x y:V} {u:Value} (r:RelV x u) (q:RelV y u):x=y:=Option.some.inj (r.abs.symm.trans q.abs)
theorem qa1.inj: ∀{xs ys:List V} {us:List Value},qa1 xs us→qa1 ys us→xs=ys
 | _,_,_,.nil,.nil=>rfl
 | _,_,_,.cons r t,.cons r' t'=>by rw[r.inj r',qa1.inj t t']
section
variable {X:Cx} {pins:List (Addr×Obj)} {σ:St} {H:Hp} {s:Shared} {a:Addr} {xs ys:List V}
theorem SqL.of {K:PySem.W.Frag} (h:H a=some (.lst xs)):SqL K H a xs:=.inl (.inl h)
theorem SqT.of {K:PySem.W.Frag} (h:H a=some (.tup xs)):SqT K H a xs:=.inl (.inl h)
theorem Inv.list (I:Inv X pins σ H s) (h:SqL X.K H a xs): ∃its:List Value,qa1 xs its∧PlainL s.heap a its.toArray∧xs.length≤sizeLine:=by
 rcases h with h | ⟨o,its,n,hk,hc,hd,hs,hz,r⟩
 ·obtain ⟨z,its,n,r,e⟩:=h.ok I.hok
  exact ⟨its,r,⟨_,n,e,rfl,rfl,rfl⟩,z⟩
 ·refine ⟨its.toList,r,⟨o,n,I.kIn a o hk,hc,hd,by simpa using hs⟩,?_⟩
  have e:=r.length
  simp only[Array.length_toList] at e
  omega
theorem Inv.tuple (I:Inv X pins σ H s) (h:SqT X.K H a xs): ∃its:List Value,qa1 xs its∧IsTup s.heap a its.toArray∧xs.length≤sizeLine:=by
 rcases h with h | ⟨o,its,n,hk,hc,hs,hz,r⟩
 ·obtain ⟨z,its,r,p⟩:=h.ok I.hok
  exact ⟨its,r,p,z⟩
 ·refine ⟨its.toList,r,⟨o,I.kIn a o hk,hc,n,by simpa using hs⟩,?_⟩
  have e:=r.length
  simp only[Array.length_toList] at e
  omega
theorem Inv.list_inj (I:Inv X pins σ H s) (h:SqL X.K H a xs) (h':SqL X.K H a ys):xs=ys:=by
 obtain ⟨its,r,⟨o,n,e,_,_,d⟩,_⟩:=I.list h
 obtain ⟨its',r',⟨o',n',e',_,_,d'⟩,_⟩:=I.list h'
 rw[e] at e'; cases e'
 rw[d] at d'
 injection d' with d1 _
 have:its=its':=by simpa using congrArg Array.toList d1
 subst this
 exact r.inj r'
theorem Inv.tuple_inj (I:Inv X pins σ H s) (h:SqT X.K H a xs) (h':SqT X.K H a ys):xs=ys:=by
 obtain ⟨its,r,⟨o,e,_,n,d⟩,_⟩:=I.tuple h
 obtain ⟨its',r',⟨o',e',_,n',d'⟩,_⟩:=I.tuple h'
 rw[e] at e'; cases e'
 rw[d] at d'
 injection d' with d1 _
 have:its=its':=by simpa using congrArg Array.toList d1
 subst this
 exact r.inj r'
end
abbrev Cx.wish (X:Cx) (E:Value→Shared→Prop):Cx:={ X with xe:=E }
abbrev Cx.nox (X:Cx):Cx:=X.wish fun _ _=>False
theorem Cx.Ok.wish {X:Cx} (ok:X.Ok) (E:Value→Shared→Prop):(X.wish E).Ok:=
 ⟨ok.mod,ok.kind,ok.glob,ok.blt,ok.above,ok.inj,ok.has,ok.cab,ok.hd,ok.frames,ok.stk,ok.exf,ok.bs,ok.bsz,ok.noex,ok.exfs,ok.funs,ok.frf⟩
theorem Cx.Ok.unwish {X:Cx} {E:Value→Shared→Prop} (ok:(X.wish E).Ok):X.Ok:=
 ⟨ok.mod,ok.kind,ok.glob,ok.blt,ok.above,ok.inj,ok.has,ok.cab,ok.hd,ok.frames,ok.stk,ok.exf,ok.bs,ok.bsz,ok.noex,ok.exfs,ok.funs,ok.frf⟩
section
variable {X:Cx} {pins:List (Addr×Obj)} {σ:St} {H:Hp} {s:Shared} {E:Value→Shared→Prop}
theorem Inv.wish (I:Inv X pins σ H s) (E:Value→Shared→Prop):Inv (X.wish E) pins σ H s:=⟨I.ok.wish E,I.os,I.bare,I.base,I.loc,I.cell,I.free,I.freeC,I.pin,I.hok,I.len⟩
theorem Inv.unwish (I:Inv (X.wish E) pins σ H s):Inv X pins σ H s:=⟨I.ok.unwish,I.os,I.bare,I.base,I.loc,I.cell,I.free,I.freeC,I.pin,I.hok,I.len⟩
theorem SP.unwish {D:qm6} {f:Flow} {s':Shared} (h:SP (X.wish E) pins D f s'):SP X pins D f s':=by
 cases f with
 | next=>obtain ⟨σ',H',I,q⟩:=h; exact ⟨σ',H',I.unwish,q⟩
 | brk=>obtain ⟨σ',H',I,q⟩:=h; exact ⟨σ',H',I.unwish,q⟩
 | cont=>obtain ⟨σ',H',I,q⟩:=h; exact ⟨σ',H',I.unwish,q⟩
 | ret u=>obtain ⟨v,σ',H',I,r,q⟩:=h; exact ⟨v,σ',H',I.unwish,r,q⟩
theorem PSs.nox {st:List Stmt} {t:TS} (h:PSs X.nox st t):PSs X st t:=fun pins s σ H D I hw=>
 wpAny_mono (h pins s σ H D (I.wish _) hw) (fun _ _ q=>q.unwish) fun _ _ z=>False.elim z
end
section
variable {X:Cx} {st:Stmt} {qde:List Stmt} {t u:TS} {e:Expr} {te:TE} {pos:Pos}
def qrB:TS:=fun D σ H=>D.nx σ H
def qtT (t u:TS):TS:=fun D σ H=>t { D with nx:=u D } σ H
theorem qgF:PSs X [] qrB:=fun _ _ σ H _ I h=>wpAny_execs_nil ⟨σ,H,I,h⟩
theorem qdQ (h1:PS X st t) (h2:PSs X qde u):PSs X (st::qde) (qtT t u):=by
 intro pins s σ H D I h
 refine wpAny_execs_cons (thn (h1 pins s σ H { D with nx:=u D } I h) fun f s1 q=> ?_)
 cases f with
 | next=>
  obtain ⟨σ',H',I',q⟩:=q
  exact h2 pins s1 σ' H' D I' q
 | ret v=>exact q
 | brk=>exact q
 | cont=>exact q
theorem qec (h1:PS X st t):PSs X [st] t:=by
 intro pins s σ H D I h
 refine wpAny_execs_cons (thn (h1 pins s σ H D I h) fun f s1 q=> ?_)
 cases f with
 | next=>exact wpAny_execs_nil q
 | ret v=>exact q
 | brk=>exact q
 | cont=>exact q
theorem Inv.quiet {pins:List (Addr×Obj)} {σ:St} {H:Hp} {s:Shared} (I:Inv X pins σ H s):interactive X.env=false:=by simp[interactive,I.ok.kind]
def qrC (te:TE):TS:=fun D σ H=>te σ H fun _ H1=>D.nx σ H1
theorem qe8 (he:PE X e te) (hs:swapsWith e none pos.line X.env=pure false:=by rfl):PS X (.Expr e pos) (qrC te):=by
 intro pins s σ H D I h
 exact wpAny_Expr_any (thn (he pins s σ H _ I h) fun v s1 ⟨x,H1,I1,r1,q1⟩=>⟨σ,H1,I1,q1⟩) I.quiet hs
def qtU (te:TE):TS:=fun D σ H=>te σ H D.rt
theorem qcv (he:PE X e te):PS X (.Return (some e) pos) (qtU te):=by
 intro pins s σ H D I h
 exact wpAny_Return_some (thn (he pins s σ H _ I h) fun v s1 ⟨x,H1,I1,r1,q1⟩=>⟨x,σ,H1,I1,r1,q1⟩)
def qtX (c:TT) (t u:TS):TS:=fun D σ H=>c σ H fun b H1=>if b=true then t D σ H1 else u D σ H1
theorem qod {c:Expr} {a b:List Stmt} {tc:TT} (hc:PT X c tc) (ha:PSs X a t) (hb:PSs X b u):PS X (.If c a b pos) (qtX tc t u):=by
 intro pins s σ H D I h
 refine wpAny_If (thn (hc pins s σ H _ I h) fun d s1 ⟨H1,I1,q1⟩=> ?_)
 cases d with
 | true=>exact ha pins s1 σ H1 D I1 q1
 | false=>exact hb pins s1 σ H1 D I1 q1
def qpP:TS:=fun _ _ _=>False
theorem qjM {sts:List Stmt}:PSs X sts qpP:=fun _ _ _ _ _ _ h=>h.elim
end
abbrev TG:=V→St→Hp→(St→Hp→Prop)→Prop
abbrev TGs:=List V→St→Hp→(St→Hp→Prop)→Prop
def PG (X:Cx) (target:Expr) (t:TG):Prop:=
 ∀(pins:List (Addr×Obj)) (s:Shared) (σ:St) (H:Hp) (v:V) (u:Value) (Q:St→Hp→Prop),Inv X pins σ H s→RelV v u→t v σ H Q→
  wpAny (model X.prog X.w) X.A (assign target X.env u) (fun _ s'=> ∃σ' H',Inv X pins σ' H' s'∧Q σ' H') X.xe s
def PGs (X:Cx) (ts:List Expr) (t:TGs):Prop:=
 ∀(pins:List (Addr×Obj)) (s:Shared) (σ:St) (H:Hp) (vs:List V) (us:List Value) (Q:St→Hp→Prop),Inv X pins σ H s→qa1 vs us→t vs σ H Q→
  wpAny (model X.prog X.w) X.A (assignInOrder ((assignEach ts X.env).map (·.2)) us) (fun _ s'=> ∃σ' H',Inv X pins σ' H' s'∧Q σ' H') X.xe s
abbrev quV:=V→V→V→Hp→(Hp→Prop)→Prop
section
variable {X:Cx} {pos:Pos}
def qoM (i:Nat):TG:=fun v σ H Q=>Q (σ.set i (some v)) H
theorem qat {i:Nat} {x:Str} (hN:X.N.Nodup) (hi:X.N[i]? =some x) (hx:Loc X.env.scope x) (hf:X.fn x=true∨X.env.scope.names.lookup x=some .local:=by first | exact .inl rfl | exact .inr rfl | assumption):PG X (.Name x pos) (qoM i):=by
 intro pins s σ H v u Q I r h
 exact wpAny_assign_Name (qdO I hN hi hx r (fun s' I'=>⟨_,H,I',h⟩) hf)
def quD:TGs:=fun vs σ H Q=>vs=[]∧Q σ H
def qs2 (t:TG) (u:TGs):TGs:=fun vs σ H Q=> ∃v r,vs=v::r∧t v σ H fun σ' H'=>u r σ' H' Q
theorem qol:PGs X [] quD:=by
 intro pins s σ H vs us Q I r h
 obtain ⟨e,h⟩:=h
 subst e
 cases r
 exact assignInOrder_nil ⟨σ,H,I,h⟩
theorem qma {e:Expr} {es:List Expr} {t:TG} {u:TGs} (h1:PG X e t) (h2:PGs X es u)
  (hs:(assignEach (e::es) X.env).map (·.2)=assign e X.env::(assignEach es X.env).map (·.2):=by rfl):PGs X (e::es) (qs2 t u):=by
 intro pins s σ H vs us Q I r h
 obtain ⟨v,vr,e1,h⟩:=h
 subst e1
 cases r with
 | cons r rr=>
  rw[hs]
  refine assignInOrder_cons (thn (h1 pins s σ H _ _ _ I r h) fun _ s1 ⟨σ1,H1,I1,q1⟩=> ?_)
  exact h2 pins s1 σ1 H1 _ _ Q I1 rr q1
def quC (K:PySem.W.Frag) (n:Nat) (t:TGs):TG:=fun v σ H Q=> ∃a xs,v= .ref a∧SqT K H a xs∧xs.length=n∧t xs σ H Q
theorem qqe {es:List Expr} {k:Nat} {t:TGs} {n:Nat} (hc:X.calm=true) (h:PGs X es t)
  (hn:(assignEach es X.env).length=n:=by rfl) (hst:(assignEach es X.env).findIdx? (·.1)=none:=by rfl):PG X (.Tuple es k pos) (quC X.K n t):=by
 intro pins s σ H v u Q I r hw
 obtain ⟨a,xs,e1,hq,hl,hw⟩:=hw
 subst e1
 cases r
 obtain ⟨its,rv,ht,hz⟩:=I.tuple hq
 refine assign_Tuple_tuple (I.ok.hd hc) ht (by simp[hn,←hl,rv.length]) hst fun h' hx=> ?_
 have I1:Inv X pins σ H { s with heap:=h' }:=I.kept (t':=s.toks) fun b o e=>hx b o (Nat.ne_of_lt (Heap.lt_size e)) e
 exact h pins _ σ H xs _ Q I1 (by simpa using rv) hw
def gSub (to ti:TE) (t:quV):TG:=fun v σ H Q=>to σ H fun o H1=>ti σ H1 fun i H2=>t o i v H2 fun H3=>Q σ H3
def qt0 (te:TE) (g:TG):TS:=fun D σ H=>te σ H fun x H1=>g x σ H1 D.nx
theorem qfF {i:Nat} {x:Str} {e:Expr} {te:TE} {pos':Pos} (hN:X.N.Nodup) (hi:X.N[i]? =some x) (hx:Loc X.env.scope x) (he:PE X e te) (hs:swapsWith e (some (.Name x pos')) pos.line X.env=pure false:=by rfl) (hf:X.fn x=true∨X.env.scope.names.lookup x=some .local:=by first | exact .inl rfl | exact .inr rfl | assumption):
  PS X (.Assign [.Name x pos'] e pos) (qt0 te (qoM i)):=by
 intro pins s σ H D I h
 refine wpAny_Assign_Name (thn (he pins s σ H _ I h) fun v s1 ⟨y,H1,I1,r1,q1⟩=> ?_) hs
 exact qdO I1 hN hi hx r1 (fun s2 I2=>⟨_,H1,I2,q1⟩) hf
def qtt (i j:Nat) (ta:TA):TS:=fun D σ H=>ta σ H fun vs H1=> ∃v w,vs=[v,w]∧D.nx ((σ.set i (some v)).set j (some w)) H1
theorem qp8 {i j:Nat} {x y:Str} {a b:Expr} {ta:TA} {px py pt:Pos} {kt k2 pt2} (hc:X.calm=true) (hN:X.N.Nodup) (hi:X.N[i]? =some x) (hj:X.N[j]? =some y) (hij:i≠j)
  (hx:X.env.scope.names.lookup x=some .local) (hy:X.env.scope.names.lookup y=some .local) (ha:PA X [a,b] ta)
  (hw:swappedStores [.Tuple [.Name x px,.Name y py] kt pt] (.Tuple [a,b] k2 pt2) X.env=pure (some [x,y]))
  (hs:swapsWithSole [.Tuple [.Name x px,.Name y py] kt pt] (.Tuple [a,b] k2 pt2) pos.line X.env=pure false:=by rfl):
  PS X (.Assign [.Tuple [.Name x px,.Name y py] kt pt] (.Tuple [a,b] k2 pt2) pos) (qtt i j ta):=by
 intro pins s σ H D I h
 rw[exec_Assign_arm]
 refine wpAny_bind (wpAny_standAt ?_)
 rw[hs]
 refine wpAny_bind (wpAny_pure ?_)
 rw[if_neg (by decide)]
 refine wpAny_bind (Tuple_ (thn (ha _ pins s σ H _ I h) fun us s1 ⟨vs,H1,I1,r1,q1⟩=> ?_))
 obtain ⟨v,w,e1,q1⟩:=q1
 subst e1
 obtain ⟨u1,u2,rfl,rv,rw'⟩: ∃u1 u2,us=[u1,u2]∧RelV v u1∧RelV w u2:=by
  cases r1 with
  | cons p q=>
   cases q with
   | cons p' q'=>
    cases q'
    exact ⟨_,_,rfl,p,p'⟩
 refine wpAny_newObj_type ?_ (by show 2≤sizeLine; decide)
 have I2:Inv X pins σ H1 { s1 with heap:=s1.heap.push { cls:=.type "tuple",data:=.seq [u1,u2].toArray } }:=I1.kept (t':=s1.toks) fun b o e=>Heap.get?_push_of_some _ e
 rw[hw]
 refine wpAny_bind (wpAny_pure ?_)
 show wpAny (model X.prog X.w) X.A (do rule "assign.swapped-stores"; let items ←unpackItems (.ref s1.heap.objs.size) 2 none; assignInOrder [fun v=>bindName X.env y v,fun v=>bindName X.env x v] items.reverse; pure Flow.next) _ _ _
 refine wpAny_bind (wpAny_rule (wpAny_bind (unpackItems_tuple (items:= #[u1,u2]) (I.ok.hd hc) (IsTup.new s1.heap _) fun h' hx'=> ?_)))
 have I3:=I2.kept (h':=h') (t':=s1.toks) fun b o e=>hx' b o (Nat.ne_of_lt (Heap.lt_size e)) e
 show wpAny _ _ (assignInOrder [fun v=>bindName X.env y v,fun v=>bindName X.env x v] [u2,u1]>>=fun _=>pure Flow.next) _ _ _
 refine wpAny_bind (assignInOrder_cons (wpAny_bindName (qdO I3 hN hj (.inl hy) rw' (fun s2 I4=> ?_) (.inr hy))))
 refine assignInOrder_cons (wpAny_bindName (qdO I4 hN hi (.inl hx) rv (fun s3 I5=>assignInOrder_nil (wpAny_pure ?_)) (.inr hx)))
 rw[List.set_comm _ _ (Ne.symm hij)] at I5
 exact ⟨_,H1,I5,q1⟩
end
section
variable {X:Cx} {pos:Pos}
end
structure It where
 go:Nat→Hp→Prop
 yld:Nat→Hp→V→Hp→Prop
 stop:Nat→Hp→Prop
def qhh (X:Cx) (pins:List (Addr×Obj)) (H:Hp) (b:Addr):Prop:=
 H b=none∧b≠X.env.locals∧b∉X.fs∧(b∈X.ex∨X.s₀.heap.objs.size≤b)∧(∀x c,X.env.cells.lookup x=some c→c≠b)∧∀p∈X.pn++pins,p.1≠b
theorem Inv.fpOk {X:Cx} {pins:List (Addr×Obj)} {σ:St} {H H':Hp} {s:Shared} {b:Addr} (I:Inv X pins σ H s) (hb:s.heap.objs.size≤b) (hn:H' b=none):qhh X pins H' b:=by
 refine ⟨hn,Nat.ne_of_gt (Nat.lt_of_lt_of_le I.lt hb),I.nofs hb,.inr (Nat.le_trans I.sz hb),fun x c e z=> ?_,fun p hp z=> ?_⟩
 ·obtain ⟨v,q⟩:=I.cell x c e
  exact absurd (Nat.lt_of_lt_of_le q.lt (by rw[z]; exact hb)) (Nat.lt_irrefl _)
 ·exact absurd (Nat.lt_of_lt_of_le (Heap.lt_size (I.pin p hp).1) (by rw[z]; exact hb)) (Nat.lt_irrefl _)
structure qnM (P:Program) (w:World) (K:PySem.W.Frag) (tg:Expr) (J:It) (fp:List Addr) (it:Addr) (tn:Nat→Heap→Prop):Prop where
 mem:it∈fp
 obj: ∀i h,tn i h→∀b∈fp,∃o,h.get? b=some o∧∀v,o.data≠.cell v
 keep: ∀i h h',tn i h→(∀b∈fp,∀o,h.get? b=some o→h'.get? b=some o)→tn i h'
 item: ∀(X:Cx),X.prog=P→X.w=w→X.K=K→X.calm=true→∀(i:Nat) (pins:List (Addr×Obj)) (s:Shared) (σ:St) (H:Hp) (E:Value→Shared→Prop),Inv X pins σ H s→(∀b∈fp,qhh X pins H b)→tn i s.heap→J.go i H→
  wpAny (model P w) X.A (pyNext (.ref it)) (fun r s1=> ∃u,r=some u∧
   wpAny (model P w) X.A (letOwnedTupleGo tg (.ref it) u) (fun _ s2=> ∃x H',Inv X pins σ H' s2∧RelV x u∧J.yld i H x H'∧tn (i+1) s2.heap∧∀b∈fp,H' b=none) E s1) E s
 done: ∀(X:Cx),X.prog=P→X.w=w→X.K=K→X.calm=true→∀(i:Nat) (pins:List (Addr×Obj)) (s:Shared) (σ:St) (H:Hp) (E:Value→Shared→Prop),Inv X pins σ H s→(∀b∈fp,qhh X pins H b)→tn i s.heap→J.stop i H→
  wpAny (model P w) X.A (pyNext (.ref it)) (fun r s1=>r=none∧Inv X pins σ H s1) E s
 self: ∀(A:Around) (i:Nat) (s:Shared) (Q:Value→Shared→Prop) (E:Value→Shared→Prop),tn i s.heap→Q (.ref it) s→wpAny (model P w) A (pyIter (.ref it)) Q E s
abbrev TI:=St→Hp→(It→Hp→Prop)→Prop
def PIE (X:Cx) (pins:List (Addr×Obj)) (σ:St) (tg:Expr) (R:It→Hp→Prop) (itv:Value) (s2:Shared):Prop:=
 ∃(it:Addr) (fp:List Addr) (tn:Nat→Heap→Prop) (J:It) (H':Hp),itv= .ref it∧Inv X pins σ H' s2∧qnM X.prog X.w X.K tg J fp it tn∧tn 0 s2.heap∧(∀b∈fp,qhh X pins H' b)∧R J H'
def PI (X:Cx) (tg iter:Expr) (wi:TI):Prop:=
 ∀(pins:List (Addr×Obj)) (s:Shared) (σ:St) (H:Hp) (R:It→Hp→Prop),Inv X pins σ H s→wi σ H R→
  wpAny (model X.prog X.w) X.A (eval iter X.env) (fun v s1=>wpAny (model X.prog X.w) X.A (pyIter v) (PIE X pins σ tg R) X.xe s1) X.xe s
theorem qkH {M:Model} {A:Around} {E:Value→Shared→Prop} {s:Shared} {tg:Expr} {it:Addr} {u:Value} {o:Obj} {n:String} {vs:Array Value} {Q:Unit→Shared→Prop} (ho:s.heap.get? it=some o) (hc:o.cls= .type n) (hd:o.data= .fields vs)
  (hn:["enumerate", "zip", "dict_itemiterator", "dict_reverseitemiterator", "odict_iterator", "itertools.zip_longest", "itertools.pairwise"].contains n=false) (hQ:Q () s):wpAny M A (letOwnedTupleGo tg (.ref it) u) Q E s:=by
 unfold letOwnedTupleGo
 cases tg<;>first
  | exact wpAny_pure hQ
  | (cases u<;>first
    | exact wpAny_pure hQ
    | (refine wpAny_bind (wpAny_load ho ?_)
       rw[hc,hd]
       show wpAny M A (if (["enumerate", "zip", "dict_itemiterator", "dict_reverseitemiterator", "odict_iterator", "itertools.zip_longest", "itertools.pairwise"].contains n&&vs[0]? ==some (rawInt _))=true then _ else _) Q E s
       rw[if_neg (by intro h; rw[hn,Bool.false_and] at h; cases h)]
       exact wpAny_pure hQ))
def Itl (K:PySem.W.Frag) (a:Addr):It:=
 ⟨fun i H=> ∃xs x,SqL K H a xs∧xs[i]? =some x,fun i H x H'=>H'=H∧∀xs,SqL K H a xs→xs[i]? =some x,fun i H=> ∃xs,SqL K H a xs∧xs.length≤i⟩
def Itt (K:PySem.W.Frag) (a:Addr):It:=
 ⟨fun i H=> ∃xs x,SqT K H a xs∧xs[i]? =some x,fun i H x H'=>H'=H∧∀xs,SqT K H a xs→xs[i]? =some x,fun i H=> ∃xs,SqT K H a xs∧xs.length≤i⟩
def Itr (lo:Int) (n:Nat):It:=⟨fun i _=>i<n,fun i H x H'=>H'=H∧x= .int (lo+i),fun i _=>n≤i⟩
theorem qjd {P:Program} {w:World} {K:PySem.W.Frag} {tg:Expr} (a it:Addr):qnM P w K tg (Itl K a) [it] it (fun i h=>h.IsListIter it a i) where
 mem:=by simp
 obj:=fun i h st b hb=>by
  have e:b=it:=by simpa using hb
  subst e
  obtain ⟨o,e,c,d⟩:=st
  exact ⟨o,e,fun v z=>by rw[d] at z; cases z⟩
 keep:=fun i h h' st k=>st.at fun o e=>k it (by simp) o e
 item:=by
  intro X hP hw hK hc i pins s σ H E I hf st hg
  subst hP hw hK
  obtain ⟨xs,x,hq,hx⟩:=hg
  obtain ⟨its,rv,p,hz⟩:=I.list hq
  obtain ⟨u,hu,ru⟩:=rv.get hx
  obtain ⟨f0,f1,f2,f3,f4,f5⟩:=hf it (by simp)
  refine wpAny_pyNext_list_item st p.isList (x:=u) (by simpa using hu) fun h' st' sb=> ?_
  have I1:Inv X pins σ H { s with heap:=h' }:=I.turned (t':=s.toks) (fun b o hb e=>(sb.2 b hb).trans e) f0 f1 f3 f4 f5
  obtain ⟨o,e,c,d⟩:=id st'
  exact ⟨u,rfl,qkH (s:={ s with heap:=h' }) e c d (by decide) ⟨x,H,I1,ru,⟨rfl,fun ys hy=>by rw[I.list_inj hy hq]; exact hx⟩,st',fun b hb=>(hf b hb).1⟩⟩
 done:=by
  intro X hP hw hK hc i pins s σ H E I hf st hg
  subst hP hw hK
  obtain ⟨xs,hq,hx⟩:=hg
  obtain ⟨its,rv,p,hz⟩:=I.list hq
  obtain ⟨f0,f1,f2,f3,f4,f5⟩:=hf it (by simp)
  have hl:=rv.length
  exact wpAny_pyNext_list_end (I.ok.hd hc) st p.isList (by simp; omega) fun h' eb=>⟨rfl,I.turned (t':=s.toks) (fun b o hb e=>eb b o hb e) f0 f1 f3 f4 f5⟩
 self:=fun _ _ _ _ _ st h=>wpAny_pyIter_listiter st h
theorem qij {P:Program} {w:World} {K:PySem.W.Frag} {tg:Expr} (a it:Addr):qnM P w K tg (Itt K a) [it] it (fun i h=>h.IsTupleIter it a i) where
 mem:=by simp
 obj:=fun i h st b hb=>by
  have e:b=it:=by simpa using hb
  subst e
  obtain ⟨o,e,c,d⟩:=st
  exact ⟨o,e,fun v z=>by rw[d] at z; cases z⟩
 keep:=fun i h h' st k=>st.at fun o e=>k it (by simp) o e
 item:=by
  intro X hP hw hK hc i pins s σ H E I hf st hg
  subst hP hw hK
  obtain ⟨xs,x,hq,hx⟩:=hg
  obtain ⟨its,rv,p,hz⟩:=I.tuple hq
  obtain ⟨u,hu,ru⟩:=rv.get hx
  obtain ⟨f0,f1,f2,f3,f4,f5⟩:=hf it (by simp)
  refine wpAny_pyNext_tuple_item st (show s.heap.IsTuple a its.toArray from p) (x:=u) (by simpa using hu) fun h' st' sb=> ?_
  have I1:Inv X pins σ H { s with heap:=h' }:=I.turned (t':=s.toks) (fun b o hb e=>(sb.2 b hb).trans e) f0 f1 f3 f4 f5
  obtain ⟨o,e,c,d⟩:=id st'
  exact ⟨u,rfl,qkH (s:={ s with heap:=h' }) e c d (by decide) ⟨x,H,I1,ru,⟨rfl,fun ys hy=>by rw[I.tuple_inj hy hq]; exact hx⟩,st',fun b hb=>(hf b hb).1⟩⟩
 done:=by
  intro X hP hw hK hc i pins s σ H E I hf st hg
  subst hP hw hK
  obtain ⟨xs,hq,hx⟩:=hg
  obtain ⟨its,rv,p,hz⟩:=I.tuple hq
  obtain ⟨f0,f1,f2,f3,f4,f5⟩:=hf it (by simp)
  have hl:=rv.length
  exact wpAny_pyNext_tuple_end (I.ok.hd hc) st (show s.heap.IsTuple a its.toArray from p) (by simp; omega) fun h' eb=>⟨rfl,I.turned (t':=s.toks) (fun b o hb e=>eb b o hb e) f0 f1 f3 f4 f5⟩
 self:=fun _ _ _ _ _ st h=>wpAny_pyIter_tupleiter st h
theorem qik {P:Program} {w:World} {K:PySem.W.Frag} {tg:Expr} (it:Addr) (lo:Int) (n:Nat):qnM P w K tg (Itr lo n) [it] it (fun i h=>IsRangeIter h it (lo+(i:Nat)*1) ((n:Int) - (i:Nat)) 1) where
 mem:=by simp
 obj:=fun i h st b hb=>by
  have e:b=it:=by simpa using hb
  subst e
  exact ⟨_,st,fun v z=>by
   have z':Data.fields _=Data.cell v:=z
   cases z'⟩
 keep:=fun i h h' st k=>k it (by simp) _ st
 item:=by
  intro X hP hw hK hc i pins s σ H E I hf st hg
  subst hP hw hK
  obtain ⟨f0,f1,f2,f3,f4,f5⟩:=hf it (by simp)
  have W:=Walks.range (prog:=X.prog) (w:=X.w) (I.ok.hd hc) it lo 1 n
  refine W.item i s _ _ hg st fun v h' tk hv st' kk=> ?_
  obtain ⟨t,rfl⟩:=hv
  have I1:Inv X pins σ H { s with heap:=h',toks:=tk }:=I.turned (fun b o hb e=>kk b o (by simpa using hb) e) f0 f1 f3 f4 f5
  refine ⟨_,rfl,qkH (s:={ s with heap:=h',toks:=tk }) (n:= "range_iterator") st' rfl rfl (by decide) ⟨.int (lo+i),H,I1,⟨t,?_⟩,⟨rfl,rfl⟩,st',fun b hb=>(hf b hb).1⟩⟩
  rw[Int.mul_one]
 done:=by
  intro X hP hw hK hc i pins s σ H E I hf st hg
  subst hP hw hK
  obtain ⟨f0,f1,f2,f3,f4,f5⟩:=hf it (by simp)
  exact wpAny_pyNext_range_end (I.ok.hd hc) st (by have:n≤i:=hg; omega) fun h' eb=>⟨rfl,I.turned (t':=s.toks) (fun b o hb e=>eb b o hb e) f0 f1 f3 f4 f5⟩
 self:=fun _ _ _ _ _ st h=>wpAny_pyIter_rangeiter st h
end L2
namespace L2
open PySem PySem.Spec PyProof.Rows
section
variable {X:Cx} {tg:Expr}
theorem qhx {pins:List (Addr×Obj)} {σ:St} {H:Hp} {s:Shared} {R:It→Hp→Prop} {E:Value→Shared→Prop} {lo hi:Int} {t u v:Tok} {tk:Nat} (I:Inv X pins σ H s) (h1: -(2 ^ 62)≤lo) (h2:lo<2 ^ 62) (h3: -(2 ^ 62)≤hi) (h4:hi<2 ^ 62)
  (q:R (Itr lo (hi - lo).toNat) H):wpAny (model X.prog X.w) X.A (pyIter (.ref s.heap.objs.size)) (PIE X pins σ tg R) E { s with heap:=s.heap.push { cls:=.type "range",data:=.fields #[.int lo t,.int hi u,.int 1 v] },toks:=tk }:=by
 refine wpAny_pyIter_range (IsRange.new ..) (small_one h1 h2 h3 h4) ?_
 have I1:Inv X pins σ H { s with heap:=s.heap.push { cls:=.type "range",data:=.fields #[.int lo t,.int hi u,.int 1 v] },toks:=tk }:=I.kept fun b o e=>Heap.get?_push_of_some _ e
 refine ⟨(s.heap.push { cls:=.type "range",data:=.fields #[.int lo t,.int hi u,.int 1 v] }).objs.size,[(s.heap.push { cls:=.type "range",data:=.fields #[.int lo t,.int hi u,.int 1 v] }).objs.size],_,_,H,rfl,
  I1.kept (t':=tk) fun b o e=>Heap.get?_push_of_some _ e,qik _ lo (hi - lo).toNat,?_,fun b hb=> ?_,q⟩
 ·have e1:lo+((0:Nat):Int)*1=lo:=by simp
  have e2:(((hi - lo).toNat:Nat):Int) - ((0:Nat):Int)=Builtin.Range.rangeSize lo hi 1:=by rw[rangeSize_one]; split<;>omega
  show IsRangeIter _ _ (lo+((0:Nat):Int)*1) ((((hi - lo).toNat:Nat):Int) - ((0:Nat):Int)) 1
  rw[e1,e2]
  exact Heap.get?_push_size _ rfl
 ·have e:b=(s.heap.push { cls:=.type "range",data:=.fields #[.int lo t,.int hi u,.int 1 v] }).objs.size:=by simpa using hb
  subst e
  exact I1.fpOk (Nat.le_refl _) (I1.hok.fresh (Nat.le_refl _))
def qsU (ta:TA):TI:=fun σ H R=>ta σ H fun vs H1=> ∃j:Int,vs=[.int j]∧ -(2 ^ 62)≤j∧j<2 ^ 62∧R (Itr 0 j.toNat) H1
def qsT (ta:TA):TI:=fun σ H R=>ta σ H fun vs H1=> ∃i j:Int,vs=[.int i,.int j]∧(-(2 ^ 62)≤i∧i<2 ^ 62∧ -(2 ^ 62)≤j∧j<2 ^ 62)∧R (Itr i (j - i).toNat) H1
theorem qjS {a:Expr} {ta:TA} {p pos:Pos} (hg:Gl X "range") (hm:X.mg "range" =none) (ha:PA X [a] ta) (hs:starEach [a] X.env=[(false,eval a X.env)]:=by rfl):PI X tg (.Call (.Name "range" p) [a] [] pos) (qsU ta):=by
 intro pins s σ H R I h
 refine Call_ (qdC I hg hm boot_range (PyProof.Rows.callWith_type1 (thn (ha pos pins s σ H _ I h) fun us s1 ⟨vs,H1,I1,r1,q1⟩=> ?_) hs rfl))
 obtain ⟨j,e,q1,q2,q⟩:=q1
 subst e
 cases r1 with
 | cons r rr=>
  cases rr
  obtain ⟨t,rfl⟩:=r
  exact call_range_1 (qhx I1 (by omega) (by omega) q1 q2 (by simpa using q))
theorem qjR {a b:Expr} {ta:TA} {p pos:Pos} (hg:Gl X "range") (hm:X.mg "range" =none) (ha:PA X [a,b] ta) (hs:starEach [a,b] X.env=[(false,eval a X.env),(false,eval b X.env)]:=by rfl) (hs2:starEach [b] X.env=[(false,eval b X.env)]:=by rfl):
  PI X tg (.Call (.Name "range" p) [a,b] [] pos) (qsT ta):=by
 intro pins s σ H R I h
 refine Call_ (qdC I hg hm boot_range (PyProof.Rows.callWith_type1 (thn (ha pos pins s σ H _ I h) fun us s1 ⟨vs,H1,I1,r1,q1⟩=> ?_) (by rw[hs,hs2]) (by rw[hs2]; rfl)))
 obtain ⟨i,j,e,⟨q1,q2,q3,q4⟩,q⟩:=q1
 subst e
 cases r1 with
 | cons r rr=>
  cases rr with
  | cons r' rr=>
   cases rr
   obtain ⟨t,rfl⟩:=r
   obtain ⟨t',rfl⟩:=r'
   exact call_range_2 (qhx I1 q1 q2 q3 q4 q)
def qtY (wi:TI) (g:TG) (tb:TS):TS:=fun D σ H=>wi σ H fun J H1=> ∃W:Nat→Nat→St→Hp→Prop,(∃m,W 0 m σ H1)∧∀i m σ H,W i m σ H→
 (J.stop i H∧D.nx σ H)∨(J.go i H∧∃N:St→Hp→Prop,(∀σ' H',N σ' H'→∃m',m'<m∧W (i+1) m' σ' H')∧∀x H',J.yld i H x H'→g x σ H' fun σ2 H2=>tb { D with nx:=N,ct:=N,bk:=D.nx } σ2 H2)
def qfG (fp:List Addr) (h:Heap):List (Addr×Obj):=fp.filterMap fun b=>(h.get? b).map fun o=>(b,o)
theorem qco {fp:List Addr} {h:Heap} {b:Addr} {o:Obj} (hb:b∈fp) (e:h.get? b=some o):(b,o)∈qfG fp h:=List.mem_filterMap.mpr ⟨b,hb,by rw[e]; rfl⟩
theorem qj5 {fp:List Addr} {h:Heap} {p:Addr×Obj} (hp:p∈qfG fp h):p.1∈fp∧h.get? p.1=some p.2:=by
 obtain ⟨b,hb,e⟩:=List.mem_filterMap.mp hp
 cases q:h.get? b with
 | none=>rw[q] at e; cases e
 | some o=>
  rw[q] at e
  have e':(b,o)=p:=Option.some.inj e
  subst e'
  exact ⟨hb,q⟩
theorem Inv.pinned {pins:List (Addr×Obj)} {σ:St} {H:Hp} {s:Shared} {fp:List Addr} (I:Inv X pins σ H s) (hf: ∀b∈fp,qhh X pins H b) (ho: ∀b∈fp,∃o,s.heap.get? b=some o∧∀v,o.data≠.cell v):Inv X (pins++qfG fp s.heap) σ H s:=
 I.pins_of fun p hp=>(List.mem_append.mp hp).elim (fun z=>I.pin p (List.mem_append_right _ z)) fun z=>by
  obtain ⟨hb,e⟩:=qj5 z
  obtain ⟨f0,f1,f2,_⟩:=hf p.1 hb
  obtain ⟨o,e',d⟩:=ho p.1 hb
  rw[e] at e'; cases e'
  exact ⟨e,f0,f1,f2,d⟩
theorem Inv.unpinned {pins pl:List (Addr×Obj)} {σ:St} {H:Hp} {s:Shared} (I:Inv X (pins++pl) σ H s):Inv X pins σ H s:=I.pins_of fun p hp=>I.pin p (List.mem_append_right _ (List.mem_append_left _ hp))
theorem qp9 {iter:Expr} {body:List Stmt} {wi:TI} {g:TG} {tb:TS} {pos:Pos} (hp:PassesOwn (model X.prog X.w) X.A X.env X.xe) (hc:X.calm=true) (hi:PI X tg iter wi) (hg:PG X tg g) (hb:PSs X body tb)
  (hs: ∀x,foldedSetIterable iter X.env x=pure x:=by intro _; rfl):PS X (.For tg iter body [] pos) (qtY wi g tb):=by
 intro pins s σ H D I h
 refine wpAny_For (thn (hi pins s σ H _ I h) fun v s1 h1=>thn h1 fun itv s2 h2=> ?_) hs
 obtain ⟨it,fp,tn,J,H2,e,I2,T,st2,f2,W,⟨m0,w0⟩,qm9⟩:=h2
 subst e
 have stat: ∀{H':Hp},(∀b∈fp,H' b=none)→∀b∈fp,qhh X pins H' b:=fun hn b hb=>⟨hn b hb,(f2 b hb).2⟩
 refine codeAny_forLoop_any (fun n s'=> ∃i σ' H',Inv X pins σ' H' s'∧tn i s'.heap∧(∀b∈fp,H' b=none)∧W i n σ' H') ?_ m0 ⟨0,σ,H2,I2,st2,fun b hb=>(f2 b hb).1,w0⟩
 rintro n s3 ⟨i,σ3,H3,I3,st3,fr3,w3⟩
 rcases qm9 i n σ3 H3 w3 with ⟨stop,qn⟩ | ⟨go,N,hN,step⟩
 ·refine wpAny_passesOwn hp (thn (T.done X rfl rfl rfl hc i pins s3 σ3 H3 X.xe I3 (stat fr3) st3 stop) fun r s4 ⟨hr,I4⟩=> ?_)
  subst hr
  exact wpAny_execs_nil ⟨σ3,H3,I4,qn⟩
 ·refine wpAny_passesOwn hp (thn (T.item X rfl rfl rfl hc i pins s3 σ3 H3 X.xe I3 (stat fr3) st3 go) fun r s4 ⟨u,hr,h4⟩=> ?_)
  subst hr
  refine wpAny_passesOwn hp (thn h4 fun _ s5 ⟨x,H5,I5,r5,y5,st5,fr5⟩=> ?_)
  have I5':=I5.pinned (stat fr5) (T.obj _ _ st5)
  refine wpAny_passesOwn hp (thn (hg _ s5 σ3 H5 x u _ I5' r5 (step x H5 y5)) fun _ s6 ⟨σ6,H6,I6,q6⟩=> ?_)
  refine wpAny_passesOwn hp (thn (hb _ s6 σ6 H6 _ I6 q6) fun f s7 q7=> ?_)
  have again: ∀{σ7:St} {H7:Hp},Inv X (pins++qfG fp s5.heap) σ7 H7 s7→N σ7 H7→∃m,m<n∧∃i σ' H',Inv X pins σ' H' s7∧tn i s7.heap∧(∀b∈fp,H' b=none)∧W i m σ' H':=fun {σ7 H7} I7 n7=>by
   obtain ⟨m',hm,w7⟩:=hN σ7 H7 n7
   refine ⟨m',hm,i+1,σ7,H7,I7.unpinned,T.keep _ _ _ st5 fun b hb o e=>(I7.pin (b,o) (List.mem_append_right _ (List.mem_append_right _ (qco hb e)))).1,fun b hb=> ?_,w7⟩
   obtain ⟨o,e,d⟩:=T.obj _ _ st5 b hb
   exact (I7.pin (b,o) (List.mem_append_right _ (List.mem_append_right _ (qco hb e)))).2.1
  cases f with
  | next=>obtain ⟨σ7,H7,I7,n7⟩:=q7; exact again I7 n7
  | cont=>obtain ⟨σ7,H7,I7,n7⟩:=q7; exact again I7 n7
  | brk=>obtain ⟨σ7,H7,I7,q7⟩:=q7; exact ⟨σ7,H7,I7.unpinned,q7⟩
  | ret v=>obtain ⟨x7,σ7,H7,I7,r7,q7⟩:=q7; exact ⟨x7,σ7,H7,I7.unpinned,r7,q7⟩
end
end L2
namespace L2
open PySem PySem.Spec PyProof.Rows
abbrev R2:=V→V→Hp→VK→Prop
def OpR (X:Cx) (f:Value→Value→Sem Value) (r:R2):Prop:=
 ∀(pins:List (Addr×Obj)) (s:Shared) (σ:St) (H:Hp) (x y:V) (v u:Value) (Q:VK),Inv X pins σ H s→RelV x v→RelV y u→r x y H Q→
  wpAny (model X.prog X.w) X.A (f v u) (EP X pins σ Q) X.xe s
def UnR (X:Cx) (f:Value→Sem Value) (r:V→Hp→VK→Prop):Prop:=
 ∀(pins:List (Addr×Obj)) (s:Shared) (σ:St) (H:Hp) (x:V) (v:Value) (Q:VK),Inv X pins σ H s→RelV x v→r x H Q→
  wpAny (model X.prog X.w) X.A (f v) (EP X pins σ Q) X.xe s
def qcL (X:Cx) (f:Value) (r:List V→Hp→VK→Prop):Prop:=
 ∀(pins:List (Addr×Obj)) (s:Shared) (σ:St) (H:Hp) (xs:List V) (us:List Value) (Q:VK),Inv X pins σ H s→qa1 xs us→r xs H Q→
  wpAny (model X.prog X.w) X.A (call f us) (EP X pins σ Q) X.xe s
def quU (X:Cx) (r:V→Hp→(Bool→Hp→Prop)→Prop):Prop:=
 ∀(pins:List (Addr×Obj)) (s:Shared) (σ:St) (H:Hp) (x:V) (v:Value) (Q:Bool→Hp→Prop),Inv X pins σ H s→RelV x v→r x H Q→
  wpAny (model X.prog X.w) X.A (truthy v) (TP X pins σ Q) X.xe s
def tOp (r:R2) (ta tb:TE):TE:=fun σ H Q=>ta σ H fun x H1=>tb σ H1 fun y H2=>r x y H2 Q
def tUn (r:V→Hp→VK→Prop) (ta:TE):TE:=fun σ H Q=>ta σ H fun x H1=>r x H1 Q
def rI (C:Int→Int→Prop) (g:Int→Int→V):R2:=fun x y H Q=> ∃i j,x= .int i∧y= .int j∧C i j∧Q (g i j) H
def rI0 (g:Int→Int→V):R2:=fun x y H Q=> ∃i j,x= .int i∧y= .int j∧Q (g i j) H
def rU (g:Int→V):V→Hp→VK→Prop:=fun x H Q=> ∃i,x= .int i∧Q (g i) H
section
variable {X:Cx} {a b c:Expr} {ta tb tc:TE} {pos:Pos}
theorem qtg (ha:PE X a ta) (hb:PE X b tb) {pins:List (Addr×Obj)} {s:Shared} {σ:St} {H:Hp} {R:V→V→Hp→Prop} (I:Inv X pins σ H s)
  (h:ta σ H fun x H1=>tb σ H1 fun y H2=>R x y H2) {Q:Value→Shared→Prop} {f:Value→Value→Sem Value}
  (hf: ∀v u s2 x y H2,Inv X pins σ H2 s2→RelV x v→RelV y u→R x y H2→wpAny (model X.prog X.w) X.A (f v u) Q X.xe s2):
  wpAny (model X.prog X.w) X.A (eval a X.env) (fun v s₁=>wpAny (model X.prog X.w) X.A (eval b X.env) (fun u s₂=>wpAny (model X.prog X.w) X.A (f v u) Q X.xe s₂) X.xe s₁) X.xe s:=by
 refine thn (ha pins s σ H _ I h) fun v s1 ⟨x,H1,I1,r1,q1⟩=> ?_
 refine thn (hb pins s1 σ H1 _ I1 q1) fun u s2 ⟨y,H2,I2,r2,q2⟩=> ?_
 exact hf v u s2 x y H2 I2 r1 r2 q2
theorem qcE {op:Operator} {r:R2} (ho:OpR X (binaryOp op) r) (ha:PE X a ta) (hb:PE X b tb):PE X (.BinOp a op b pos) (tOp r ta tb):=by
 intro pins s σ H Q I h
 exact wpAny_BinOp (qtg ha hb I h fun v u s2 x y H2 I2 rx ry q=>ho pins s2 σ H2 x y v u Q I2 rx ry q)
theorem qsk {op:UnaryOp} {r:V→Hp→VK→Prop} (ho:UnR X (unaryOp op) r) (ha:PE X a ta):PE X (.UnaryOp op a pos) (tUn r ta):=by
 intro pins s σ H Q I h
 exact UnaryOp_ (thn (ha pins s σ H _ I h) fun v s1 ⟨x,H1,I1,r1,q1⟩=>ho pins s1 σ H1 x v Q I1 r1 q1)
theorem opI {f:Value→Value→Sem Value} {C:Int→Int→Prop} {g:Int→Int→Int}
  (rule: ∀(i j:Int) (t u:Tok) (s:Shared) (Q:Value→Shared→Prop) (E:Value→Shared→Prop),C i j→Q (.int (g i j) s.toks) { s with toks:=s.toks+1 }→wpAny (model X.prog X.w) X.A (f (.int i t) (.int j u)) Q E s):
  OpR X f (rI C fun i j=>.int (g i j)):=by
 intro pins s σ H x y v u Q I rx ry h
 obtain ⟨i,j,rfl,rfl,hc,q⟩:=h
 obtain ⟨t,rfl⟩:=rx
 obtain ⟨t',rfl⟩:=ry
 exact rule i j t t' s _ _ hc ⟨.int (g i j),H,I.tok _,⟨_,rfl⟩,q⟩
theorem qtB {f:Value→Value→Sem Value} {g:Int→Int→Int}
  (rule: ∀(i j:Int) (t u:Tok) (s:Shared) (Q:Value→Shared→Prop) (E:Value→Shared→Prop),Q (.int (g i j) s.toks) { s with toks:=s.toks+1 }→wpAny (model X.prog X.w) X.A (f (.int i t) (.int j u)) Q E s):
  OpR X f (rI0 fun i j=>.int (g i j)):=by
 intro pins s σ H x y v u Q I rx ry h
 obtain ⟨i,j,rfl,rfl,q⟩:=h
 obtain ⟨t,rfl⟩:=rx
 obtain ⟨t',rfl⟩:=ry
 exact rule i j t t' s _ _ ⟨.int (g i j),H,I.tok _,⟨_,rfl⟩,q⟩
theorem qsp {f:Value→Value→Sem Value} {g:Int→Int→Bool}
  (rule: ∀(i j:Int) (t u:Tok) (s:Shared) (Q:Value→Shared→Prop) (E:Value→Shared→Prop),Q (.bool (g i j)) s→wpAny (model X.prog X.w) X.A (f (.int i t) (.int j u)) Q E s):
  OpR X f (rI0 fun i j=>.bl (g i j)):=by
 intro pins s σ H x y v u Q I rx ry h
 obtain ⟨i,j,rfl,rfl,q⟩:=h
 obtain ⟨t,rfl⟩:=rx
 obtain ⟨t',rfl⟩:=ry
 exact rule i j t t' s _ _ ⟨.bl (g i j),H,I,rfl,q⟩
def qtP (i j:Int):Prop:=0<j∧j<1073741824
def qrv (i j:Int):Prop:=(-(2 ^ 64)<i∧i<2 ^ 64)∨(-(2 ^ 64)<j∧j<2 ^ 64)
theorem qrv.ok {i j:Int} (h:qrv i j):IntMulOk i j:=by
 rcases h with ⟨h1,h2⟩ | ⟨h1,h2⟩
 ·exact .of_left (intBits_le_64 h1 h2)
 ·exact .of_right (intBits_le_64 h1 h2)
theorem qfH:OpR X (binaryOp .Add) (rI0 fun i j=>.int (i+j)):=qtB fun _ _ _ _ _ _ _ q=>add_int q
theorem qb6:OpR X (binaryOp .Sub) (rI0 fun i j=>.int (i - j)):=qtB fun _ _ _ _ _ _ _ q=>sub_int q
theorem qcd:OpR X (binaryOp .Mult) (rI qrv fun i j=>.int (i*j)):=opI fun _ _ _ _ _ _ _ hc q=>mul_int q hc.ok
theorem qj3:OpR X (binaryOp .FloorDiv) (rI qtP fun i j=>.int (i / j)):=opI fun i j _ _ _ _ _ hc q=>by
 have h1:(0:Int)<j:=hc.1
 have h2:j<1073741824:=hc.2
 exact floordiv_int (by omega) (by rw[Int.fdiv_eq_ediv_of_nonneg i (by omega)]; exact q) (.inl (PyProof.noPylong_small (by omega)))
theorem qeH:OpR X (binaryOp .Mod) (rI (fun _ j=>0<j) fun i j=>.int (i % j)):=opI fun i j _ _ _ _ _ hc q=>by
 have h1:(0:Int)<j:=hc
 exact mod_int' (by omega) (by rw[Int.fmod_eq_emod_of_nonneg i (by omega)]; exact q)
theorem unI {f:Value→Sem Value} {g:Int→Int}
  (rule: ∀(i:Int) (t:Tok) (s:Shared) (Q:Value→Shared→Prop) (E:Value→Shared→Prop),Q (.int (g i) s.toks) { s with toks:=s.toks+1 }→wpAny (model X.prog X.w) X.A (f (.int i t)) Q E s):
  UnR X f (rU fun i=>.int (g i)):=by
 intro pins s σ H x v Q I rx h
 obtain ⟨i,rfl,q⟩:=h
 obtain ⟨t,rfl⟩:=rx
 exact rule i t s _ _ ⟨.int (g i),H,I.tok _,⟨_,rfl⟩,q⟩
theorem qpI:UnR X (unaryOp .USub) (rU fun i=>.int (-i)):=unI fun _ _ _ _ _ q=>neg_int q
end
section
variable {X:Cx} {a b c:Expr} {ta tb tc:TE} {pos:Pos}
theorem qqO {pins:List (Addr×Obj)} {σ:St} {H:Hp} {s:Shared} {Q:VK} {k k':Bool} (I:Inv X pins σ H s) (q:Q (.bl k) H) (e:k=k'):EP X pins σ Q (.bool k') s:=by
 subst e
 exact ⟨.bl k,H,I,rfl,q⟩
theorem qqm:OpR X (compareOp .Lt) (rI0 fun i j=>.bl (decide (i<j))):=qsp fun _ _ _ _ _ _ _ q=>lt_int q
theorem qso:OpR X (compareOp .LtE) (rI0 fun i j=>.bl (decide (i≤j))):=qsp fun _ _ _ _ _ _ _ q=>le_int q
theorem qmk:OpR X (compareOp .Gt) (rI0 fun i j=>.bl (decide (j<i))):=qsp fun _ _ _ _ _ _ _ q=>gt_int q
theorem qj0:OpR X (compareOp .Lt) (fun x y H Q=> ∃i j,x= .str i∧y= .str j∧Q (.bl (decide (i.cps.toList<j.cps.toList))) H):=by
 intro pins s σ H x y v u Q I rx ry h
 obtain ⟨i,j,rfl,rfl,q⟩:=h
 obtain ⟨t,rfl⟩:=rx
 obtain ⟨t',rfl⟩:=ry
 exact lt_str (qqO I q rfl)
theorem OpR.or {f:Value→Value→Sem Value} {r r':R2} (h:OpR X f r) (h':OpR X f r'):OpR X f (fun x y H Q=>r x y H Q∨r' x y H Q):=by
 intro pins s σ H x y v u Q I rx ry q
 rcases q with q | q
 ·exact h pins s σ H x y v u Q I rx ry q
 ·exact h' pins s σ H x y v u Q I rx ry q
theorem qnr (b:Expr) {op:CmpOp} (h:op≠.In:=by decide) (h2:op≠.NotIn:=by decide):behindInMarks op b=false:=by
 have e1:(op==CmpOp.In)=false:=by cases op<;>first | rfl | exact absurd rfl h
 have e2:(op==CmpOp.NotIn)=false:=by cases op<;>first | rfl | exact absurd rfl h2
 cases b<;>simp[behindInMarks,e1,e2]
theorem qjU {op:CmpOp} {r:R2} (ho:OpR X (compareOp op) r) (ha:PE X a ta) (hb:PE X b tb) (hm:behindInMarks op b=false):PE X (.Compare a [op] [b] pos) (tOp r ta tb):=by
 intro pins s σ H Q I h
 exact wpAny_Compare1 (qtg ha hb I h fun v u s2 x y H2 I2 rx ry q=>ho pins s2 σ H2 x y v u Q I2 rx ry q) hm
def qpO (t:TE):TT:=fun σ H Q=>t σ H fun x H'=> ∃k,x= .bl k∧Q k H'
theorem qdm {op:CmpOp} {r:R2} (ho:OpR X (compareOp op) r) (ha:PE X a ta) (hb:PE X b tb) (hm:behindInMarks op b=false):PT X (.Compare a [op] [b] pos) (qpO (tOp r ta tb)):=by
 intro pins s σ H Q I h
 refine wpAny_isTrue_Compare1 (thn (ha pins s σ H _ I h) fun v s1 ⟨x,H1,I1,r1,q1⟩=>thn (hb pins s1 σ H1 _ I1 q1) fun u s2 ⟨y,H2,I2,r2,q2⟩=>
  thn (ho pins s2 σ H2 x y v u _ I2 r1 r2 q2) fun c s3 ⟨z,H3,I3,r3,k,e,q3⟩=> ?_) hm
 subst e
 cases r3
 exact wpAny_truthy_bool ⟨H3,I3,q3⟩
def qjh (r r':R2) (ta tb tc:TE):TE:=fun σ H Q=>ta σ H fun x H1=>tb σ H1 fun y H2=>r x y H2 fun z H3=> ∃k,z= .bl k∧
 (if k=true then tc σ H3 fun w' H4=>r' y w' H4 Q else Q (.bl false) H3)
theorem qme {op op':CmpOp} {r r':R2} (ho:OpR X (compareOp op) r) (ho':OpR X (compareOp op') r') (ha:PE X a ta) (hb:PE X b tb) (hc:PE X c tc)
  (hm:lastMarks [op,op'] [b,c]=false:=by with_unfolding_all rfl):PE X (.Compare a [op,op'] [b,c] pos) (qjh r r' ta tb tc):=by
 intro pins s σ H Q I h
 refine Compare_chain (thn (ha pins s σ H _ I h) fun v s1 ⟨x,H1,I1,r1,q1⟩=>chain_link (thn (hb pins s1 σ H1 _ I1 q1) fun u s2 ⟨y,H2,I2,r2,q2⟩=>
  thn (ho pins s2 σ H2 x y v u _ I2 r1 r2 q2) fun d s3 ⟨z,H3,I3,r3,k,e,q3⟩=> ?_)) hm
 subst e
 cases r3
 refine wpAny_truthy_bool ?_
 cases k with
 | false=>exact ite_ff ⟨.bl false,H3,I3,rfl,q3⟩
 | true=>exact ite_tt (chain_last (thn (hc pins s3 σ H3 _ I3 q3) fun w' s4 ⟨z',H4,I4,r4,q4⟩=>ho' pins s4 σ H4 y z' u w' Q I4 r2 r4 q4))
theorem ql4 {op op':CmpOp} {r r':R2} (ho:OpR X (compareOp op) r) (ho':OpR X (compareOp op') r') (ha:PE X a ta) (hb:PE X b tb) (hc:PE X c tc)
  (hm:lastMarks [op,op'] [b,c]=false:=by with_unfolding_all rfl):PT X (.Compare a [op,op'] [b,c] pos) (qpO (qjh r r' ta tb tc)):=by
 intro pins s σ H Q I h
 refine isTrue_chain (thn (ha pins s σ H _ I h) fun v s1 ⟨x,H1,I1,r1,q1⟩=>test_link (thn (hb pins s1 σ H1 _ I1 q1) fun u s2 ⟨y,H2,I2,r2,q2⟩=>
  thn (ho pins s2 σ H2 x y v u _ I2 r1 r2 q2) fun d s3 ⟨z,H3,I3,r3,k,e,q3⟩=> ?_)) hm
 subst e
 cases r3
 refine wpAny_truthy_bool ?_
 cases k with
 | false=>
  obtain ⟨k',e',q'⟩:=q3
  cases e'
  exact ite_ff ⟨H3,I3,q'⟩
 | true=>
  refine ite_tt (test_last (thn (hc pins s3 σ H3 _ I3 q3) fun w' s4 ⟨z',H4,I4,r4,q4⟩=>thn (ho' pins s4 σ H4 y z' u w' _ I4 r2 r4 q4) fun d' s5 ⟨z2,H5,I5,r5,k2,e2,q5⟩=> ?_))
  subst e2
  cases r5
  exact wpAny_truthy_bool ⟨H5,I5,q5⟩
def quT (K:PySem.W.Frag) (x:V) (H:Hp) (k:Bool):Prop:=
 match x with
 | .non=>k=false
 | .bl b=>k=b
 | .int i=>k=(i != 0)
 | .str y=>y.length≤sizeLine∧k=((y.length:Int) != 0)
 | .byt y=>y.size≤sizeLine∧k=((y.size:Int) != 0)
 | .ref p=>(∃xs,SqL K H p xs∧k= !xs.isEmpty)∨(∃xs,SqT K H p xs∧k= !xs.isEmpty)∨∃kvs,H p=some (.dK kvs)∧k= !kvs.isEmpty
 | _=>False
theorem qiG {κ:Type} {kvs:List (κ×V)} {vs:List (κ×Value)} (r:KV kvs vs):(!vs.isEmpty)= !kvs.isEmpty:=by
 cases r<;>rfl
theorem qeO {xs:List V} {its:List Value} (r:qa1 xs its):(!its.toArray.isEmpty)= !xs.isEmpty:=by
 cases r<;>simp
theorem qef:(sizeLine:Nat)<2 ^ 63:=by rw[sizeLine_eq]; decide
theorem qts:quU X (fun x H Q=> ∃k,quT X.K x H k∧Q k H):=by
 intro pins s σ H x v Q I rx h
 obtain ⟨k,e,q⟩:=h
 have hl:=qef
 have hs:sizeLine=16777216:=sizeLine_eq
 cases x with
 | non=>
  cases rx
  have e':k=false:=e
  subst e'
  exact truthy_none ⟨H,I,q⟩
 | bl b=>
  cases rx
  have e':k=b:=e
  subst e'
  exact wpAny_truthy_bool ⟨H,I,q⟩
 | int i=>
  obtain ⟨t,rfl⟩:=rx
  have e':k=(i != 0):=e
  subst e'
  exact PySem.P.truthy_int ⟨H,I,q⟩
 | str y=>
  obtain ⟨t,rfl⟩:=rx
  obtain ⟨hy,e'⟩:y.length≤sizeLine∧k=((y.length:Int) != 0):=e
  subst e'
  exact PySem.P.truthy_str (by omega) ⟨H,I.tok _,q⟩
 | byt y=>
  obtain ⟨t,rfl⟩:=rx
  obtain ⟨hy,e'⟩:y.size≤sizeLine∧k=((y.size:Int) != 0):=e
  subst e'
  exact PySem.W.truthy_bytes (by omega) ⟨H,I.tok _,q⟩
 | ref p=>
  cases rx
  have e':(∃xs,SqL X.K H p xs∧k= !xs.isEmpty)∨(∃xs,SqT X.K H p xs∧k= !xs.isEmpty)∨∃kvs,H p=some (.dK kvs)∧k= !kvs.isEmpty:=e
  rcases e' with ⟨xs,hx,e'⟩ | ⟨xs,hx,e'⟩ | ⟨kvs,hx,e'⟩
  ·subst e'
   obtain ⟨its,r,pl,hz⟩:=I.list hx
   have hlen:=r.length
   exact wpAny_truthy_list pl.isList (by simp only[List.size_toArray]; omega) ⟨H,I.tok _,by rw[qeO r]; exact q⟩
  ·subst e'
   obtain ⟨its,r,pl,hz⟩:=I.tuple hx
   have hlen:=r.length
   exact truthy_tuple pl (by simp only[List.size_toArray]; omega) ⟨H,I.tok _,by rw[qeO r]; exact q⟩
  ·subst e'
   obtain ⟨hz,hS,vs,r,m⟩:kvs.length≤sizeLine∧(p==sysModules)=false∧∃vs,KV kvs vs∧s.heap.DictOf (qaI X.prog X.w) p vs:=I.hok p _ hx
   have hlen:kvs.length=vs.length:=Paired.length r
   exact wpAny_truthy_dict hS m (by omega) ⟨H,I.tok _,by rw[qiG r]; exact q⟩
 | _=>exact (show False from e).elim
theorem qiy:OpR X (binaryOp .Add) (fun x y H Q=> ∃i j,x= .str i∧y= .str j∧i.length+j.length≤sizeLine∧Q (.str (i++j)) H):=by
 intro pins s σ H x y v u Q I rx ry h
 obtain ⟨i,j,rfl,rfl,hz,q⟩:=h
 obtain ⟨t,rfl⟩:=rx
 obtain ⟨t',rfl⟩:=ry
 exact add_str (fun t' tk=>⟨.str (i++j),H,I.tok _,⟨_,rfl⟩,q⟩) hz
theorem qdZ {x:V} {us:List Value} (r:qa1 [x] us): ∃u,us=[u]∧RelV x u:=by
 cases r with
 | cons r1 r2=>cases r2; exact ⟨_,rfl,r1⟩
theorem qlD {x y:V} {us:List Value} (r:qa1 [x,y] us): ∃u w',us=[u,w']∧RelV x u∧RelV y w':=by
 cases r with
 | cons r1 r2=>
  cases r2 with
  | cons r3 r4=>cases r4; exact ⟨_,_,rfl,r1,r3⟩
theorem qlf (hc:X.calm=true):qcL X (.builtin "max") (fun xs H Q=> ∃i j,xs=[.int i,.int j]∧Q (.int (if j>i then j else i)) H):=by
 intro pins s σ H xs us Q I r h
 obtain ⟨i,j,rfl,q⟩:=h
 obtain ⟨u,w',rfl,⟨t,rfl⟩,⟨t',rfl⟩⟩:=qlD r
 refine max_two_ints (I.ok.hd hc) fun h' tk k=>⟨_,H,I.kept k,?_,q⟩
 by_cases hj:j>i
 ·rw[if_pos hj,if_pos hj]; exact ⟨_,rfl⟩
 ·rw[if_neg hj,if_neg hj]; exact ⟨_,rfl⟩
theorem qgg (hc:X.calm=true):qcL X (.builtin "min") (fun xs H Q=> ∃i j,xs=[.int i,.int j]∧Q (.int (if j<i then j else i)) H):=by
 intro pins s σ H xs us Q I r h
 obtain ⟨i,j,rfl,q⟩:=h
 obtain ⟨u,w',rfl,⟨t,rfl⟩,⟨t',rfl⟩⟩:=qlD r
 refine min_two_ints (I.ok.hd hc) fun h' tk k=>⟨_,H,I.kept k,?_,q⟩
 by_cases hj:j<i
 ·rw[if_pos hj,if_pos hj]; exact ⟨_,rfl⟩
 ·rw[if_neg hj,if_neg hj]; exact ⟨_,rfl⟩
def quY (K:PySem.W.Frag) (x:V) (H:Hp) (n:Nat):Prop:=
 match x with
 | .str y=>y.length≤sizeLine∧n=y.length
 | .byt y=>y.size≤sizeLine∧n=y.size
 | .ref p=>(∃xs,SqL K H p xs∧n=xs.length)∨∃xs,SqT K H p xs∧n=xs.length
 | _=>False
theorem qif:qcL X (.builtin "len") (fun xs H Q=> ∃x n,xs=[x]∧quY X.K x H n∧Q (.int n) H):=by
 intro pins s σ H xs us Q I r h
 obtain ⟨x,n,rfl,e,q⟩:=h
 obtain ⟨u,rfl,rx⟩:=qdZ r
 have hl:=qef
 have hs:sizeLine=16777216:=sizeLine_eq
 cases x with
 | str y=>
  obtain ⟨t,rfl⟩:=rx
  obtain ⟨hy,e'⟩:y.length≤sizeLine∧n=y.length:=e
  subst e'
  exact len_str (by omega) ⟨.int _,H,I.tok _,⟨_,rfl⟩,q⟩
 | byt y=>
  obtain ⟨t,rfl⟩:=rx
  obtain ⟨hy,e'⟩:y.size≤sizeLine∧n=y.size:=e
  subst e'
  exact PySem.W.len_bytes (by omega) ⟨.int _,H,I.tok _,⟨_,rfl⟩,q⟩
 | ref p=>
  cases rx
  have e':(∃xs,SqL X.K H p xs∧n=xs.length)∨∃xs,SqT X.K H p xs∧n=xs.length:=e
  rcases e' with ⟨xs,hx,e'⟩ | ⟨xs,hx,e'⟩
  ·subst e'
   obtain ⟨its,r',pl,hz⟩:=I.list hx
   have hlen:=r'.length
   exact Calls.call_len_list pl.isList (by simp only[List.size_toArray]; omega) ⟨.int xs.length,H,I.tok _,⟨_,by simp only[List.size_toArray]; rw[hlen]⟩,q⟩
  ·subst e'
   obtain ⟨its,r',pl,hz⟩:=I.tuple hx
   have hlen:=r'.length
   exact len_tuple pl (by simp only[List.size_toArray]; omega) ⟨.int xs.length,H,I.tok _,⟨_,by simp only[List.size_toArray]; rw[hlen]⟩,q⟩
 | _=>exact (show False from e).elim
end
end L2
namespace L2
open PySem PySem.Spec PyProof.Rows
structure qtl (h:Heap) (x dx C:Addr) (mA:Str→Option Value):Prop where
 obj:h.get? x=some (PySem.W.instObj C dx)
 ns:h.Ns1 dx mA
 ne:dx≠x
theorem qke {h:Heap} {dx:Addr} {mA:Str→Option Value} (n:h.Ns1 dx mA): ∃od,h.get? dx=some od∧∀name,PySem.W.lookIn name od=some (mA name):=by
 obtain ⟨o,es,ep,ho,hd,hk,_,hm⟩:=n
 refine ⟨o,ho,fun name=> ?_⟩
 have e:=hm name
 unfold nsFind findBy at e
 rw[←Array.find?_toList] at e
 unfold PySem.W.lookIn
 rw[hd]
 dsimp only
 split
 ·rename_i y q
  rw[q] at e
  exact congrArg some e
 ·rename_i q
  rw[q] at e
  have a:es.toList.any (·.refKey)=false:=by
   rw[List.any_eq_false]
   intro y hy
   obtain ⟨z,t,hkey⟩:=hk y (Array.mem_toList_iff.mp hy)
   simp[DictEntry.refKey,hkey]
  have a': ¬es.toList.any (·.refKey)=true:=by rw[a]; exact Bool.false_ne_true
  rw[if_neg a']
  exact congrArg some e
theorem qtl.look {h:Heap} {x dx C:Addr} {mA:Str→Option Value} (I:qtl h x dx C mA): ∃od,PySem.W.InstAt h x (PySem.W.instObj C dx) C (some od)∧∀name,PySem.W.lookIn name od=some (mA name):=
 let ⟨od,ho,hl⟩:=qke I.ns
 ⟨od,⟨I.obj,rfl,rfl,ho⟩,hl⟩
section
variable {prog:Program} {w:World} {A:Around} {E:Value→Shared→Prop} {s:Shared} {K:PySem.W.Frag} {x dx C f:Addr} {mA:Str→Option Value} {name:Str} {v:Value}
end
theorem qi5.some_of {v:V} {o:Option Value} (r:qi5 (some v) o): ∃u,o=some u∧RelV v u:=by
 cases o with
 | none=>exact (show False from r).elim
 | some u=>exact ⟨u,rfl,r⟩
section
variable {P:Program} {w:World} {H H':Hp} {h h':Heap} {a C dx:Addr} {fs fs':List (Str×V)}
theorem qoJ (hok:HOk P w H h) (e:H a=some (.ins C dx fs)): ∃mA,qtl h a dx C mA∧(∀f,qi5 (fs.lookup f) (mA f))∧PySem.Within mA (fs.map (·.1))∧fs.length≤1000∧H dx=some (.own a):=by
 obtain ⟨d,z,ne,ob,mA,n,r,q⟩:=(show qa2 P w H h a (.ins C dx fs) from hok a _ e)
 exact ⟨mA,⟨ob,n,ne⟩,r,q,z,d⟩
end
structure Cls (K:PySem.W.Frag) (C:Addr):Prop where
 pg:PySem.W.plainGet K C Str.empty=true
 hd:PySem.W.hasDictIn K C=true
 po:PySem.W.plainOver K C=true
 sa:PySem.W.findIn K (.ref C) "__setattr__" =some (some (.builtin "object.__setattr__"))
theorem Cls.get {K:PySem.W.Frag} {C:Addr} (c:Cls K C) (f:Str):PySem.W.plainGet K C f=true:=c.pg
structure Con (K:PySem.W.Frag) (C:Addr) (f:Str) (v:V) (u:Value):Prop where
 at_:PySem.W.findIn K (.ref C) f=some (some u)
 rel:RelV v u
 get:PySem.W.specialIn K u "__get__" =some none
 cp:PySem.W.copiedNames.contains f=false
structure qu2 (K:PySem.W.Frag) (C:Addr) (m:Str) (f:Addr):Prop where
 at_:PySem.W.findIn K (.ref C) m=some (some (.ref f))
 fn:PySem.W.isFn K (.ref f)=true
 kp:PySem.W.keepIn K (.ref f)=true
section
variable {X:Cx} {pins:List (Addr×Obj)} {σ:St} {H:Hp} {s:Shared} {a C dx:Addr} {fs:List (Str×V)} {f:Str} {v:V} {A:Around} {E:Value→Shared→Prop}
theorem Inv.made (I:Inv X pins σ H s):Inv X pins σ (upd (upd H s.heap.objs.size (.own (s.heap.objs.size+1))) (s.heap.objs.size+1) (.ins C s.heap.objs.size []))
  { s with heap:=(s.heap.push PySem.W.emptyDict).push (PySem.W.instObj C s.heap.objs.size) }:=by
 have e1:(s.heap.push PySem.W.emptyDict).get? s.heap.objs.size=some PySem.W.emptyDict:=Heap.get?_push_size s.heap rfl
 have e2:((s.heap.push PySem.W.emptyDict).push (PySem.W.instObj C s.heap.objs.size)).get? (s.heap.objs.size+1)=some (PySem.W.instObj C s.heap.objs.size):=by
  have:=Heap.get?_push_size (s.heap.push PySem.W.emptyDict) (o:=PySem.W.instObj C s.heap.objs.size) rfl
  rwa [Heap.size_push] at this
 have e3:(s.heap.push PySem.W.emptyDict).Ns s.heap.objs.size (fun _=>none):=⟨PySem.W.emptyDict, #[],_,e1,rfl,(fun e he=>absurd he (by simp)),fun _=>rfl⟩
 have I1:=I.laid (a:=s.heap.objs.size) (o:=.own (s.heap.objs.size+1)) (h':=s.heap.push PySem.W.emptyDict) (t':=s.toks) (fun b u q=>Heap.get?_push_of_some _ q) (Nat.le_refl _) ⟨_,e1⟩
 refine I1.laid (a:=s.heap.objs.size+1) (o:=.ins C s.heap.objs.size []) (t':=s.toks) (fun b u q=>Heap.get?_push_of_some _ q) (Nat.le_of_eq (Heap.size_push _ _)) ?_
 have ne:s.heap.objs.size≠s.heap.objs.size+1:=Nat.ne_of_lt (Nat.lt_succ_self _)
 refine ⟨by rw[qag ne,qak],Nat.zero_le _,ne,e2,fun _=>none,(Heap.Ns1.of_empty e3).at fun o q=>Heap.get?_push_of_some _ q,fun _=>True.intro,fun y hy=>absurd rfl hy⟩
end
section
variable {X:Cx} {o e value:Expr} {f:Str} {pos pos' tpos:Pos} {ta tv:TE}
end
section
variable {X:Cx} {pins:List (Addr×Obj)} {σ:St} {H:Hp} {s:Shared} {A:Around} {E:Value→Shared→Prop} {Q:Value→Shared→Prop} {c:Value} {b:Bool}
inductive qi3 (K:PySem.W.Frag) (H:Hp):V→Value→Prop where
 | non:qi3 K H .non (.type "NoneType")
 | bl (x:Bool):qi3 K H (.bl x) (.type "bool")
 | int (i:Int):qi3 K H (.int i) (.type "int")
 | str (x:Str):qi3 K H (.str x) (.type "str")
 | flt (x:UInt64):qi3 K H (.flt x) (.type "float")
 | lst {a:Addr} {xs:List V} (e:H a=some (.lst xs)):qi3 K H (.ref a) (.type "list")
 | frz {a:Addr} {o:Obj} {xs:List V} (e:H a=some (.frz o (.lst xs))):qi3 K H (.ref a) (.type "list")
 | tup {a:Addr} {xs:List V} (e:H a=some (.tup xs)):qi3 K H (.ref a) (.type "tuple")
 | dK {a:Addr} {kvs:List (Key×V)} (e:H a=some (.dK kvs)):qi3 K H (.ref a) (.type "dict")
 | dT {a:Addr} {kvs:List (List Key×V)} (e:H a=some (.dT kvs)):qi3 K H (.ref a) (.type "dict")
 | ins {a C dx:Addr} {fs:List (Str×V)} (e:H a=some (.ins C dx fs)) (cl:Cls K C) (ha:PySem.W.findIn K (.ref C) "__class__" =some (some (.builtin "object.__class__")))
   (hn:PySem.W.specialIn K (.builtin "object.__class__") "__get__" =some (some (.builtin "getset_descriptor.__get__"))) (htk:PySem.W.takesIn K (.builtin "object.__class__")=some true)
   (hm:PySem.W.mroIn K C (.type "object")=some true):qi3 K H (.ref a) (.ref C)
theorem qky {x:V} {u t:Value} (I:Inv X pins σ H s) (rx:RelV x u) (ty:qi3 X.K H x t) (e:PySem.W.kitOne X.K t c=some b) (h: ∀tk,Q (.bool b) { s with toks:=tk }):
  wpAny (model X.prog X.w) A (call (.builtin "isinstance") [u,c]) Q E s:=by
 cases ty with
 | non=>cases (show u=Value.none from rx); exact PySem.W.kia_one PySem.W.kitx_none I.kIn True.intro e (fun z=>nomatch z) h
 | bl y=>cases (show u=Value.bool y from rx); exact PySem.W.kia_one PySem.W.kitx_bool I.kIn True.intro e (fun z=>nomatch z) h
 | int i=>obtain ⟨t,q⟩:=(show ∃t,u=Value.int i t from rx); cases q; exact PySem.W.kia_one PySem.W.kitx_int I.kIn True.intro e (fun z=>nomatch z) h
 | str y=>obtain ⟨t,q⟩:=(show ∃t,u=Value.str y t from rx); cases q; exact PySem.W.kia_one PySem.W.kitx_str I.kIn True.intro e (fun z=>nomatch z) h
 | flt y=>obtain ⟨t,q⟩:=(show ∃t,u=Value.float y t from rx); cases q; exact PySem.W.kia_one PySem.W.kitx_float I.kIn True.intro e (fun z=>nomatch z) h
 | @lst a xs ea=>
  cases (show u=Value.ref a from rx)
  obtain ⟨_,_,n,_,h1⟩:=(show qa2 X.prog X.w H s.heap a (.lst xs) from I.hok a _ ea)
  exact PySem.W.kia_one PySem.W.kitx_list I.kIn ⟨_,h1,rfl⟩ e (fun z=>nomatch z) h
 | @frz a ob xs ea=>
  cases (show u=Value.ref a from rx)
  obtain ⟨_,_,_,n,_,h1⟩:=(show qa2 X.prog X.w H s.heap a (.frz ob (.lst xs)) from I.hok a _ ea)
  exact PySem.W.kia_one PySem.W.kitx_list I.kIn ⟨_,h1,rfl⟩ e (fun z=>nomatch z) h
 | @tup a xs ea=>
  cases (show u=Value.ref a from rx)
  obtain ⟨_,_,_,p⟩:=(show qa2 X.prog X.w H s.heap a (.tup xs) from I.hok a _ ea)
  obtain ⟨o,h1,h2,_⟩:=p
  exact PySem.W.kia_one PySem.W.kitx_tuple I.kIn ⟨o,h1,h2⟩ e (fun z=>nomatch z) h
 | @dK a kvs ea=>
  cases (show u=Value.ref a from rx)
  obtain ⟨_,_,vs,_,p⟩:=(show qa2 X.prog X.w H s.heap a (.dK kvs) from I.hok a _ ea)
  obtain ⟨o,es,ep,h1,h2,_⟩:=p
  exact PySem.W.kia_one PySem.W.kitx_dict I.kIn ⟨o,h1,h2.1⟩ e (fun z=>nomatch z) h
 | @dT a kvs ea=>
  cases (show u=Value.ref a from rx)
  obtain ⟨_,_,xs,_,o,es,ep,h1,h2,_⟩:=(show qa2 X.prog X.w H s.heap a (.dT kvs) from I.hok a _ ea)
  exact PySem.W.kia_one PySem.W.kitx_dict I.kIn ⟨o,h1,h2.1⟩ e (fun z=>nomatch z) h
 | @ins a C dx fs ea cl ha hn htk hm=>
  cases (show u=Value.ref a from rx)
  obtain ⟨mA,O,_⟩:=qoJ I.hok ea
  obtain ⟨od,J,_⟩:=O.look
  exact PySem.W.kia_one (PySem.W.kitx_own (cl.get _) cl.hd ha hn htk hm) I.kIn J e (fun z=>nomatch z) h
end
end L2
namespace L2
open PySem PySem.Spec PyProof.Rows
structure qbW (k:Nat) (A:Around):Prop where
 hd:A.handled=none
 dp:A.depth+3*k+5<recursionLimit
 un:A.units+16*k+200<cLine
theorem qbW.mono {j k:Nat} {A:Around} (r:qbW k A) (h:j≤k):qbW j A:=⟨r.hd,by have:=r.dp; omega,by have:=r.un; omega⟩
theorem qbW.deeper {k:Nat} {A:Around} (r:qbW (k+1) A) (env:Env):qbW k (A.deeper env):=
 ⟨r.hd,by have:=r.dp; show A.depth+1+3*k+5<_; omega,by have:=r.un; show A.units+3+16*k+200<_; omega⟩
theorem qbW.in1 {k:Nat} {A:Around} (r:qbW (k+1) A):qbW k A.in1:=
 ⟨r.hd,by have:=r.dp; show A.depth+3*k+5<_; omega,by have:=r.un; show A.units+1+16*k+200<_; omega⟩
theorem qiA {A:Around} {C:Addr} {us:List Value} {kw:List (Str×Value)}:(A.under (.builtin "type.__call__" ⟨.ref C::us,kw⟩)).depth=A.depth+1:=by
 first | rfl | simp[Around.under,Code.weight,Code.isCreation,Code.isGuard,Code.isCaller,Code.frames,Code.isFrame,guardIds]
theorem qiz {A:Around} {C:Addr} {us:List Value} {kw:List (Str×Value)}:(A.under (.builtin "type.__call__" ⟨.ref C::us,kw⟩)).units=A.units+1:=by
 first | rfl | simp[Around.under,Code.cUnits,Code.frames,Code.isFrame]
theorem qbW.make {k:Nat} {A:Around} (r:qbW (k+1) A) (C:Addr) (us:List Value) (kw:List (Str×Value)):qbW k (A.under (.builtin "type.__call__" ⟨.ref C::us,kw⟩)):=
 ⟨r.hd,by have:=r.dp; rw[qiA]; omega,by have:=r.un; rw[qiz]; omega⟩
theorem qbW.depth {k:Nat} {A:Around} (r:qbW k A):A.depth<recursionLimit:=by have:=r.dp; omega
theorem qbW.units {k:Nat} {A:Around} (r:qbW k A):A.units+64<cLine:=by have:=r.un; omega
theorem qbW.units0 {k:Nat} {A:Around} (r:qbW k A):A.units<cLine:=by have:=r.un; omega
def qi7:TA:=fun _ H Q=>Q [] H
def qcr (ta:TE) (tr:TA):TA:=fun σ H Q=>ta σ H fun x H1=>tr σ H1 fun xs H2=>Q (x::xs) H2
section
variable {X:Cx} {e:Expr} {es:List Expr} {te:TE} {t:TA} {pos:Pos}
theorem qaH:PA X [] qi7:=fun _ _ _ _ H Q I h=>Calls.spliced_nil ⟨[],H,I,.nil,h⟩
theorem qar (ha:PE X e te) (hr:PA X es t) (hs:starEach (e::es) X.env=(false,eval e X.env)::starEach es X.env:=by rfl):PA X (e::es) (qcr te t):=by
 intro pos pins s σ H Q I h
 rw[hs]
 show wpAny _ _ (spliced ((false,eval e X.env)::backTo pos (starEach es X.env))) _ _ s
 refine Calls.spliced_cons (thn (ha pins s σ H _ I h) fun u s1 ⟨x,H1,I1,r1,q1⟩=> ?_)
 exact thn (hr pos pins s1 σ H1 _ I1 q1) fun us s2 ⟨xs,H2,I2,r2,q2⟩=>⟨x::xs,H2,I2,.cons r1 r2,q2⟩
def qtS (t:TA):TE:=fun σ H Q=>t σ H fun xs H1=>xs.length≤sizeLine∧∀p,H1 p=none→Q (.ref p) (upd H1 p (.tup xs))
def qtW (t:TA):TE:=fun σ H Q=>t σ H fun xs H1=>xs.length≤sizeLine∧∀p,H1 p=none→Q (.ref p) (upd H1 p (.lst xs))
theorem qqg {x1} (h:PA X es t):PE X (.Tuple es x1 pos) (qtS t):=by
 intro pins s σ H Q I hq
 refine wpAny_Tuple_spliced (thn (h pos pins s σ H _ I hq) fun us s1 ⟨xs,H1,I1,r,z,q⟩=>⟨by rw[←r.length]; exact z,?_⟩)
 have hf:H1 s1.heap.objs.size=none:=I1.hok.fresh (Nat.le_refl _)
 refine ⟨.ref s1.heap.objs.size,upd H1 s1.heap.objs.size (.tup xs),I1.laid (t':=s1.toks) (fun b u e=>Heap.get?_push_of_some _ e) (Nat.le_refl _) ?_,rfl,q _ hf⟩
 exact ⟨z,us,r,⟨_,Heap.get?_push_size _ rfl,rfl,_,rfl⟩⟩
theorem qnl (h:PA X es t):PE X (.List es pos) (qtW t):=by
 intro pins s σ H Q I hq
 refine wpAny_List_spliced (thn (h pos pins s σ H _ I hq) fun us s1 ⟨xs,H1,I1,r,z,q⟩=>⟨by rw[←r.length]; exact z,?_⟩)
 have hf:H1 s1.heap.objs.size=none:=I1.hok.fresh (Nat.le_refl _)
 refine ⟨.ref s1.heap.objs.size,upd H1 s1.heap.objs.size (.lst xs),I1.laid (t':=s1.toks) (fun b u e=>Heap.get?_push_of_some _ e) (Nat.le_refl _) ?_,rfl,q _ hf⟩
 exact ⟨z,us,0,r,Heap.get?_push_size _ rfl⟩
end
abbrev Sp:=List V→Hp→VK→XK→Prop
abbrev CXT:=List Env→Hp→Shared→XK→Value→Shared→Prop
structure qlw (P:Program) (w:World) (K:PySem.W.Frag) (mg:Str→Option Value) (base:Heap) (A:Around) (outer:List Env) (s:Shared) (H:Hp):Prop where
 frames:A.frames=some outer
 mod:Mod K mg base
 bs: ∀b o,base.get? b=some o→s.heap.get? b=some o∧H b=none
 bsz:base.objs.size≤s.heap.objs.size
 funs:s.heap.FunFrames base outer
 frf: ∀b∈frs outer,H b=none
 hok:HOk P w H s.heap
 bare:AllBare s.gens
def CE (outer:List Env) (P:Program) (w:World) (H:Hp) (s:Shared) (Q:VK) (u:Value) (s':Shared):Prop:=
 ∃v H',s'.os=s.os∧AllBare s'.gens∧Un (frs outer) [] H H' s.heap s'.heap∧HOk P w H' s'.heap∧RelV v u∧Q v H'
def CR (CX:CXT) (outer:List Env) (P:Program) (w:World) (H:Hp) (s:Shared) (Q:VK) (E:XK) (r:Result) (s':Shared):Prop:=
 match r with
 | .ok (.ret u)=>CE outer P w H s Q u s'
 | .ok _=>False
 | .error e=>CX outer H s E e s'
structure qbe (P:Program) (w:World) (K:PySem.W.Frag) (mg:Str→Option Value) (base:Heap) (CX:CXT) (k:Nat) (f:Addr) (fd:FuncData) (ps:List Str) (sp:Sp):Prop where
 len: ∀vs H Q E,sp vs H Q E→vs.length=ps.length
 run: ∀(A:Around) (outer:List Env) (s:Shared) (H:Hp) (args:Args) (us:List Value) (vs:List V) (Q:VK) (E:XK),qbW k A→qlw P w K mg base A outer s H→BindsTo s fd args (ps.zip us)→qa1 vs us→sp vs H Q E→
  codeAny (model P w) A (.call (.ref f) args) (CR CX outer P w H s Q E) s
theorem qbe.mono {P:Program} {w:World} {K:PySem.W.Frag} {mg:Str→Option Value} {base:Heap} {CX:CXT} {j k:Nat} {f:Addr} {fd:FuncData} {ps:List Str} {sp:Sp} (F:qbe P w K mg base CX j f fd ps sp) (h:j≤k):
  qbe P w K mg base CX k f fd ps sp:=⟨F.len,fun A outer s H args us vs Q E hr=>F.run A outer s H args us vs Q E (hr.mono h)⟩
theorem qbe.imp {P:Program} {w:World} {K:PySem.W.Frag} {mg:Str→Option Value} {base:Heap} {CX:CXT} {k:Nat} {f:Addr} {fd:FuncData} {ps:List Str} {sp sp':Sp} (F:qbe P w K mg base CX k f fd ps sp)
  (h: ∀vs H Q E,sp' vs H Q E→sp vs H Q E):qbe P w K mg base CX k f fd ps sp':=
 ⟨fun vs H Q E q=>F.len vs H Q E (h _ _ _ _ q),fun A outer s H args us vs Q E hr he hb hv hs=>F.run A outer s H args us vs Q E hr he hb hv (h _ _ _ _ hs)⟩
theorem qlw.make {P:Program} {w:World} {K:PySem.W.Frag} {mg:Str→Option Value} {base:Heap} {A:Around} {outer:List Env} {s:Shared} {H:Hp} (e:qlw P w K mg base A outer s H) (C:Addr) (us:List Value) (kw:List (Str×Value)):
  qlw P w K mg base (A.under (.builtin "type.__call__" ⟨.ref C::us,kw⟩)) outer s H:=⟨by first | exact e.frames | (simpa [Around.under,Code.envs,Code.isFrame,pushEnvs] using e.frames),e.mod,e.bs,e.bsz,e.funs,e.frf,e.hok,e.bare⟩
theorem qlw.in1 {P:Program} {w:World} {K:PySem.W.Frag} {mg:Str→Option Value} {base:Heap} {A:Around} {outer:List Env} {s:Shared} {H:Hp} (e:qlw P w K mg base A outer s H):
  qlw P w K mg base A.in1 outer s H:=⟨e.frames,e.mod,e.bs,e.bsz,e.funs,e.frf,e.hok,e.bare⟩
section
variable {X:Cx} {pins:List (Addr×Obj)} {σ:St} {H:Hp} {s s':Shared}
theorem Inv.env0 (I:Inv X pins σ H s):qlw X.prog X.w X.K X.mg X.base X.A X.stack s H:=
 ⟨I.ok.frames,I.ok.mod,I.bs,Nat.le_trans I.ok.bsz I.sz,I.stack,I.stkFree,I.hok,I.bare⟩
theorem Inv.after {Q:VK} {u:Value} (I:Inv X pins σ H s) (h:CE X.stack X.prog X.w H s Q u s'):EP X pins σ Q u s':=by
 obtain ⟨v,H',os,bare,un,hok,r,q⟩:=h
 obtain ⟨hh,g,d,t,os'⟩:=s'
 obtain rfl:os'=s.os:=os
 exact ⟨v,H',I.call (h':=hh) (g':=g) (d':=d) (t':=t) (ch:=[]) un hok bare (fun b z=>absurd z (by simp)),r,q⟩
end
def qgy (sp:Sp) (dvs:List V) (E:XK) (t:TA):TE:=fun σ H Q=>t σ H fun vs H1=>sp (vs++dvs) H1 Q E
def qdy (K:PySem.W.Frag) (fd:FuncData) (ps:List Str) (ds:List Value):Prop:=
 ∀(s:Shared) (us:List Value),K.In s.heap→(us++ds).length=ps.length→BindsTo s fd ⟨us,[]⟩ (ps.zip (us++ds))
theorem qdy.all {K:PySem.W.Frag} {fd:FuncData} {ps:List Str} (h: ∀us:List Value,us.length=ps.length→bindArgs fd ⟨us,[]⟩=pure (ps.zip us)):qdy K fd ps []:=fun s us _ hl=>by
 rw[List.append_nil] at hl⊢
 exact .of_eq (h us hl)
def qgr (CX:CXT) (X:Cx) (E:XK):Prop:= ∀(pins:List (Addr×Obj)) (σ:St) (H:Hp) (s:Shared) (e:Value) (s':Shared),Inv X pins σ H s→CX X.stack H s E e s'→X.xe e s'
section
variable {X:Cx} {CX:CXT} {k:Nat} {f C:Addr} {fd:FuncData} {ps:List Str} {sp:Sp} {dvs:List V} {ds:List Value} {E:XK} {x m:Str} {p pos apos:Pos} {e o:Expr} {es:List Expr} {ta:TE} {t:TA}
theorem qnf {pins:List (Addr×Obj)} {σ:St} {H:Hp} {s:Shared} {Q:VK} {us:List Value} {vs:List V} (F:qbe X.prog X.w X.K X.mg X.base CX k f fd ps sp) (hr:qbW k X.A) (hb:qdy X.K fd ps ds) (hd:qa1 dvs ds) (hx:qgr CX X E)
  (I:Inv X pins σ H s) (r:qa1 vs us) (h:sp (vs++dvs) H Q E):wpAny (model X.prog X.w) X.A (call (.ref f) us) (EP X pins σ Q) X.xe s:=by
 have r2:qa1 (vs++dvs) (us++ds):=r.append hd
 have hl:(us++ds).length=ps.length:=by rw[←r2.length]; exact F.len _ _ _ _ h
 refine wpAny_call (codeAny_mono (F.run X.A X.stack s H ⟨us,[]⟩ (us++ds) (vs++dvs) Q E hr I.env0 (hb s us I.kIn hl) r2 h) fun r s' hq=> ?_)
 cases r with
 | error e=>exact hx pins σ H s e s' I hq
 | ok fl=>
  cases fl with
  | ret u=>exact I.after hq
  | next=>exact False.elim hq
  | brk=>exact False.elim hq
  | cont=>exact False.elim hq
theorem qdo (F:qbe X.prog X.w X.K X.mg X.base CX k f fd ps sp) (hr:qbW k X.A) (hg:Gl X x) (hm:X.mg x=some (.ref f)) (hk:PySem.W.keepIn X.K (.ref f)=true) (hb:qdy X.K fd ps ds) (hd:qa1 dvs ds) (hx:qgr CX X E)
  (ha:PA X (e::es) t) (hdb:(x==("__debug__" :Str))=false:=by decide) (he:starEach (e::es) X.env=(false,eval e X.env)::starEach es X.env:=by rfl) (hpl:(backTo pos (starEach es X.env)).any (·.1)=false:=by rfl):
  PE X (.Call (.Name x p) (e::es) [] pos) (qgy sp dvs E t):=by
 intro pins s σ H Q I h
 refine wpAny_Call_Name_kw (qkf I hg hm ?_ hdb)
 refine PySem.W.callWith_K (h₀:=X.base) I.ok.mod.kin hk (thn (ha pos pins s σ H _ I h) fun us s1 ⟨vs,H1,I1,r,q⟩=>⟨I1.kIn,?_⟩) he hpl
 exact qnf F hr hb hd hx I1 r q
structure Mk (K:PySem.W.Frag) (C f:Addr):Prop where
 makes:PySem.W.makesIn K C=true
 init:PySem.W.findIn K (.ref C) "__init__" =some (some (.ref f))
 fn:PySem.W.isFn K (.ref f)=true
 kp:PySem.W.keepIn K (.ref C)=true
end
section
variable {X:Cx} {CX:CXT} {k:Nat} {f C:Addr} {fd:FuncData} {ps ks:List Str} {sp:Sp} {E:XK} {x m:Str} {p pos apos kpos:Pos} {e o:Expr} {es:List Expr} {kws:List Keyword} {te ta:TE} {t tk:TA} {nm:Option Str}
structure qtK (K:PySem.W.Frag) (fd:FuncData) (ps ks:List Str) (g:List Value→List Value→List Value) (gV:List V→List V→List V):Prop where
 to: ∀(s:Shared) (us ws:List Value),K.In s.heap→(g us ws).length=ps.length→BindsTo s fd ⟨us,ks.zip ws⟩ (ps.zip (g us ws))
 rel: ∀{vs:List V} {us:List Value} {zs:List V} {ws:List Value},qa1 vs us→qa1 zs ws→qa1 (gV vs zs) (g us ws)
variable {g:List Value→List Value→List Value} {gV:List V→List V→List V}
end
structure qav (N P:List Str) (sc:Scope):Prop where
 kind:sc.kind= .function
 co:sc.isCoroutine=false
 gen:sc.isGenerator=false
 nd:N.Nodup
 pre:N.take P.length=P
 par: ∀x∈P,sc.names.lookup x=some .local∨sc.names.lookup x=some .cell
 nofree: ∀y∈sc.names,y.2≠.free
theorem qgm {kindOf:Str→Option NameKind} {x:Str}: ∀{binds:List (Str×Value)} {m:Str→Option Value},(∀v,(x,v)∉binds)→bindL kindOf binds m x=m x
 | [],_,_=>rfl
 | (n,v)::r,m,h=>by
  unfold bindL
  rw[qgm fun w hw=>h w (List.mem_cons_of_mem _ hw)]
  split
  ·have:x≠n:=by rintro rfl; exact h v List.mem_cons_self
   simp[this]
  ·rfl
theorem qgo {kindOf:Str→Option NameKind} {x:Str}: ∀{binds:List (Str×Value)} {m:Str→Option Value},(∀v,(x,v)∉binds)→bindC kindOf binds m x=m x
 | [],_,_=>rfl
 | (n,v)::r,m,h=>by
  unfold bindC
  rw[qgo fun w hw=>h w (List.mem_cons_of_mem _ hw)]
  split
  ·rfl
  ·have:x≠n:=by rintro rfl; exact h v List.mem_cons_self
   simp[this]
theorem qgn {kindOf:Str→Option NameKind} {x:Str} {v:Value}: ∀{P:List Str} {vs:List Value} {i:Nat} {m:Str→Option Value},P.Nodup→P[i]? =some x→vs[i]? =some v→kindOf x=some .local→
  bindL kindOf (P.zip vs) m x=some v
 | [],_,_,_,_,h,_,_=>by simp at h
 | _::_,[],_,_,_,_,h,_=>by simp at h
 | p::P,w::vs,0,m,nd,h1,h2,hk=>by
  simp at h1 h2; subst h1; subst h2
  show bindL kindOf ((p,w)::P.zip vs) m p=_
  unfold bindL
  rw[qgm fun v hv=>(List.nodup_cons.mp nd).1 (List.of_mem_zip hv).1,if_pos hk]
  simp
 | p::P,w::vs,i+1,m,nd,h1,h2,hk=>by
  show bindL kindOf ((p,w)::P.zip vs) m x=_
  unfold bindL
  exact qgn (i:=i) (List.nodup_cons.mp nd).2 (by simpa using h1) (by simpa using h2) hk
theorem qgp {kindOf:Str→Option NameKind} {x:Str} {v:Value}: ∀{P:List Str} {vs:List Value} {i:Nat} {m:Str→Option Value},P.Nodup→P[i]? =some x→vs[i]? =some v→kindOf x≠some .local→
  bindC kindOf (P.zip vs) m x=some v
 | [],_,_,_,_,h,_,_=>by simp at h
 | _::_,[],_,_,_,_,h,_=>by simp at h
 | p::P,w::vs,0,m,nd,h1,h2,hk=>by
  simp at h1 h2; subst h1; subst h2
  show bindC kindOf ((p,w)::P.zip vs) m p=_
  unfold bindC
  rw[qgo fun v hv=>(List.nodup_cons.mp nd).1 (List.of_mem_zip hv).1,if_neg hk]
  simp
 | p::P,w::vs,i+1,m,nd,h1,h2,hk=>by
  show bindC kindOf ((p,w)::P.zip vs) m x=_
  unfold bindC
  exact qgp (i:=i) (List.nodup_cons.mp nd).2 (by simpa using h1) (by simpa using h2) hk
def start (N:List Str) (vs:List V):St:=vs.map some++List.replicate (N.length - vs.length) none
def qmU (CX:CXT) (P:Program) (w:World) (K:PySem.W.Frag) (mg:Str→Option Value) (base:Heap) (N:List Str) (qual:Str) (scope:Scope) (f:Addr) (cd:Value) (A:Around) (outer:List Env) (s:Shared) (H:Hp) (E:XK):Cx where
 prog:=P
 w:=w
 K:=K
 mg:=mg
 base:=base
 A:=A.deeper (envOfC qual scope s.heap.objs.size f cd)
 N:=N
 s₀:=s
 H₀:=H
 env:=envOfC qual scope s.heap.objs.size f cd
 outer:=outer
 stack:=envOfC qual scope s.heap.objs.size f cd::outer
 ex:=[]
 calm:=true
 fn:=fun _=>true
 pn:=[]
 xe:=fun e s'=>wpAny (model P w) (A.deeper (envOfC qual scope s.heap.objs.size f cd)) (leaving (envOfC qual scope s.heap.objs.size f cd) e) (fun _ s''=>CX outer H s E e s'') (fun e' s''=>CX outer H s E e' s'') s'
theorem qie {sc:Scope} {n:Nat} {x:Str} (h:sc.names.lookup x=some .cell): ∃c,(cellsFrom n sc.names []).lookup x=some c:=by
 have q:=PySem.W.cellsFrom_some sc.names n [] (.inl h)
 exact Option.isSome_iff_exists.mp q
theorem qkB {CX:CXT} {P:Program} {w:World} {K:PySem.W.Frag} {mg:Str→Option Value} {base:Heap} {N ps:List Str} {qual:Str} {scope:Scope} {f:Addr} {cd:Value} {A:Around} {outer:List Env} {s s1:Shared} {H:Hp} {E:XK} {us:List Value} {vs:List V}
  (S:qav N ps scope) (hd:A.handled=none) (e0:qlw P w K mg base A outer s H) (hl:vs.length=ps.length) (r:qa1 vs us)
  (x:InCallC s s.heap.objs.size (bindL (envOfC qual scope s.heap.objs.size f cd).kindOf (ps.zip us) fun _=>none) (cellsFrom (s.heap.objs.size+1) scope.names []) (bindC (envOfC qual scope s.heap.objs.size f cd).kindOf (ps.zip us) fun _=>none) s1):
  Inv (qmU CX P w K mg base N qual scope f cd A outer s H E) [] (start N vs) H s1:=by
 have hpl:ps.length≤N.length:=by have:=congrArg List.length S.pre; rw[List.length_take] at this; omega
 obtain ⟨h1,tk,rfl,hk⟩:=x.done
 have noA: ∀b:Addr,b∉(qmU CX P w K mg base N qual scope f cd A outer s H E).ex:=fun b z=>absurd (show b∈([]:List Addr) from z) (by simp)
 refine ⟨⟨e0.mod,S.kind,rfl,rfl,Nat.le_refl _,fun y z c h1 h2=> ?_,fun y hy=> ?_,fun y c _ h=> ?_,fun _=>hd,Around.frames_deeper e0.frames,.inr ⟨rfl,rfl⟩,fun b z=>absurd z (noA b),e0.bs,e0.bsz,fun b _ _=>noA b,fun b z=>absurd z (noA b),e0.funs,e0.frf⟩,
  rfl,e0.bare,Un.kept hk,⟨_,x.toInCall.ns,fun i y v h1 h2 h3=> ?_⟩,fun y c h=>⟨_,x.cell y c h⟩,e0.hok.fresh (Nat.le_refl _),fun y c h=> ?_,fun p hp=>absurd (show p∈([]:List (Addr×Obj)) from hp) (by simp),e0.hok.kept hk,?_⟩
 ·exact name_of_addr x.apart (PySem.mem_of_lookup h1) (PySem.mem_of_lookup h2)
 ·have hy:scope.names.lookup y=some .cell∨scope.names.lookup y=some .free:=hy
  rcases hy with hy | hy
  ·exact qie hy
  ·exact absurd rfl (S.nofree _ (PySem.mem_of_lookup hy))
 ·exact Nat.le_of_lt (x.above y c (PySem.mem_of_lookup h))
 ·have hi:i<vs.length:=by
   unfold start at h2
   by_cases hi:i<vs.length
   ·exact hi
   ·rw[List.getElem?_append_right (by simpa using hi)] at h2
    rw[List.getElem?_replicate] at h2
    split at h2<;>cases h2
  have ha:vs[i]? =some v:=by
   unfold start at h2
   rw[List.getElem?_append_left (by simpa using hi),List.getElem?_map] at h2
   cases e:vs[i]? with
   | none=>rw[e] at h2; cases h2
   | some a=>rw[e] at h2; cases h2; rfl
  obtain ⟨u,hu,rv⟩:=r.get ha
  have hp:ps[i]? =some y:=by
   rw[←S.pre,List.getElem?_take_of_lt (by omega)]; exact h1
  have ndP:ps.Nodup:=by rw[←S.pre]; exact S.nd.sublist (List.take_sublist _ _)
  refine ⟨u,rv,?_⟩
  rcases S.par y (List.mem_of_getElem? hp) with k | k
  ·exact .inl ⟨k,qgn ndP hp hu k⟩
  ·obtain ⟨c,e⟩:=qie (n:=s.heap.objs.size+1) k
   refine .inr ⟨.inl k,c,e,?_⟩
   have q:=x.cell y c e
   rw[qgp ndP hp hu (by show scope.names.lookup y≠_; rw[k]; decide)] at q
   exact q
 ·exact e0.hok.fresh (Nat.le_of_lt (x.above y c (PySem.mem_of_lookup h)))
 ·unfold start
  show _=N.length
  rw[List.length_append,List.length_map,List.length_replicate]
  omega
theorem qs4 {CX:CXT} {P:Program} {w:World} {K:PySem.W.Frag} {mg:Str→Option Value} {base:Heap} {k:Nat} {f:Addr} {name qual:Str} {params:Arguments} {body:List Stmt} {scope:Scope} {dV kV doc pm cdv ct oc:Value} {an od:Option Addr}
  {osl:Array (Option Value)} {N ps:List Str} {sp:Sp} (lk:K.lookup f=some ⟨oc,od,.func (PySem.W.fnOf name qual params body scope dV kV doc pm an cdv ct),osl⟩) (hcd:PySem.W.codeIn K cdv qual=true) (S:qav N ps scope)
  (len: ∀vs H Q E,sp vs H Q E→vs.length=ps.length)
  (hbody: ∀(A:Around) (outer:List Env) (s:Shared) (H:Hp) (vs:List V) (Q:VK) (E:XK),qbW k (A.deeper (envOfC qual scope s.heap.objs.size f cdv))→sp vs H Q E→
   ∃t,PSs (qmU CX P w K mg base N qual scope f cdv A outer s H E) body t∧t { nx:=fun _ H'=>Q .non H',rt:=Q } (start N vs) H):
  qbe P w K mg base CX (k+1) f (PySem.W.fnOf name qual params body scope dV kV doc pm an cdv ct) ps sp:=by
 refine ⟨len,fun A outer s H args us vs Q E hr e0 hb r hsp=> ?_⟩
 have hl:=len _ _ _ _ hsp
 have KX:K.In s.heap:=e0.mod.kin.keeps fun b o e=>(e0.bs b o e).1
 have lim:s.heap.NoLimit:=e0.mod.nolimit.keeps fun b o e=>(e0.bs b o e).1
 have hkind: ∀y∈ps.zip us,scope.names.lookup y.1=some .local∨(scope.names.lookup y.1=some .cell∧((cellsFrom (s.heap.objs.size+1) scope.names []).lookup y.1).isSome=true):=fun ⟨n,v⟩ hy=>by
  rcases S.par n (List.of_mem_zip hy).1 with q | q
  ·exact .inl q
  ·exact .inr ⟨q,PySem.W.cellsFrom_some _ _ _ (.inl q)⟩
 refine codeAny_call_function hr.depth (KX _ _ lk) rfl S.co S.gen rfl (PySem.W.codeRec_of KX hcd) (hb _ _ _ _ ?_)
 refine wpAny_newFunctionEnv_cells S.kind hkind fun env he s1 x=> ?_
 subst he
 refine ⟨lim.keeps x.toInCall.keep,codeAny_func ?_⟩
 obtain ⟨t,ht,hq⟩:=hbody A outer s H vs Q E (hr.deeper _) hsp
 have I:Inv (qmU CX P w K mg base N qual scope f cdv A outer s H E) [] (start N vs) H s1:=qkB S hr.hd e0 hl r x
 refine wpAny_mono (ht [] s1 (start N vs) H _ I hq) (fun fl s' hs=> ?_) fun e s' hs=>hs
 have fin: ∀{σ':St} {H':Hp} {v:V} {u:Value},Inv (qmU CX P w K mg base N qual scope f cdv A outer s H E) [] σ' H' s'→RelV v u→Q v H'→CE outer P w H s Q u s':=
  fun {σ' H' v u} J rv q=>⟨v,H',J.os,J.bare,J.base,J.hok,rv,q⟩
 cases fl with
 | ret u=>
  obtain ⟨v,σ',H',J,rv,q⟩:=hs
  exact fin J rv q
 | next=>
  obtain ⟨σ',H',J,q⟩:=hs
  exact fin (v:=V.non) (u:=Value.none) J rfl q
 | brk=>
  obtain ⟨_,_,_,q⟩:=hs
  exact False.elim q
 | cont=>
  obtain ⟨_,_,_,q⟩:=hs
  exact False.elim q
end L2
namespace L2
open PySem PySem.Spec PyProof.Rows
section
variable {X:Cx} {x:Str} {p pos:Pos} {e:Expr} {es:List Expr} {t:TA} {id T:String} {r:List V→Hp→VK→Prop}
def tCB (r:List V→Hp→VK→Prop) (t:TA):TE:=fun σ H Q=>t σ H fun vs H1=>r vs H1 Q
theorem qaE (hc:qcL X (.builtin id) r) (hg:Gl X x) (hm:X.mg x=none) (hv:bootBuiltins x=some (.builtin id)) (ha:PA X (e::es) t) (hn:x≠ "__name__" :=by decide) (hdb:(x==("__debug__" :Str))=false:=by decide)
  (he:starEach (e::es) X.env=(false,eval e X.env)::starEach es X.env:=by rfl) (hpl:(backTo pos (starEach es X.env)).any (·.1)=false:=by rfl):PE X (.Call (.Name x p) (e::es) [] pos) (tCB r t):=by
 intro pins s σ H Q I h
 refine wpAny_Call_Name_kw (qdC I hg hm hv ?_ hn hdb)
 exact PyProof.Rows.callWith_builtin1 (thn (ha pos pins s σ H _ I h) fun us s1 ⟨vs,H1,I1,r1,q1⟩=>hc pins s1 σ H1 vs us Q I1 r1 q1) he hpl
theorem qjV (hc:qcL X (.type T) r) (hg:Gl X x) (hm:X.mg x=none) (hv:bootBuiltins x=some (.type T)) (ha:PA X (e::es) t) (hn:x≠ "__name__" :=by decide) (hdb:(x==("__debug__" :Str))=false:=by decide)
  (he:starEach (e::es) X.env=(false,eval e X.env)::starEach es X.env:=by rfl) (hpl:(backTo pos (starEach es X.env)).any (·.1)=false:=by rfl):PE X (.Call (.Name x p) (e::es) [] pos) (tCB r t):=by
 intro pins s σ H Q I h
 refine wpAny_Call_Name_kw (qdC I hg hm hv ?_ hn hdb)
 exact PyProof.Rows.callWith_type1 (thn (ha pos pins s σ H _ I h) fun us s1 ⟨vs,H1,I1,r1,q1⟩=>hc pins s1 σ H1 vs us Q I1 r1 q1) he hpl
end
end L2
namespace HT
open PySem PyProof.Rows
section
open PySem.SeqAt
open PySem.AutoSeq1 (wpAny_loadPart')
open PySem.MeetsSeq PySem.MeetsSeq2 PySem.MeetsSeq3
end
section
variable {prog:Program} {w:World} {A:Around} {E:Value→Shared→Prop} {s:Shared}
theorem cat_tup {t b:Addr} {vs ws:List Value} {Q:Value→Shared→Prop} (ht:IsTup s.heap t vs.toArray) (hb:IsTup s.heap b ws.toArray) (hv:vs≠[])
  (h1:ws=[]→Q (.ref t) s) (h2:ws≠[]→Q (.ref s.heap.objs.size) { s with heap:=s.heap.push { cls:=.type "tuple",data:=.seq (vs++ws).toArray } })
  (hsz:vs.length+ws.length≤sizeLine):wpAny (model prog w) A (binaryOp .Add (.ref t) (.ref b)) Q E s:=by
 obtain ⟨⟨cls,dd,data,sl⟩,ho,hc,n,hd⟩:=id ht
 obtain ⟨⟨cls2,dd2,data2,sl2⟩,ho2,hc2,n2,hd2⟩:=id hb
 simp only at hc hd hc2 hd2
 subst hc hd hc2 hd2
 have e:vs.toArray++ws.toArray=(vs++ws).toArray:=by simp
 by_cases hw:ws=[]
 ·exact concat_meets ⟨_,ho,rfl⟩ ⟨_,ho2,rfl⟩ noFill_tuple_add seq_tuple_add PySem.F.slot_tuple_add PySem.F.entry_tuple_add (PySem.F.args_tuple_add_2 _ _)
   (tuple_addW1 t b vs.toArray ws.toArray n n2 dd dd2 sl sl2 (by simpa using hv) (by simp[hw])) ⟨ho,ho2,h1 hw⟩
 ·refine concat_meets ⟨_,ho,rfl⟩ ⟨_,ho2,rfl⟩ noFill_tuple_add seq_tuple_add PySem.F.slot_tuple_add PySem.F.entry_tuple_add (PySem.F.args_tuple_add_2 _ _)
   (tuple_addW2 t b vs.toArray ws.toArray n n2 dd dd2 sl sl2 (by simpa using hv) (by simpa using hw) (by rw[List.size_toArray,List.size_toArray]; exact hsz)) ⟨ho,ho2,?_⟩
  rw[e]
  exact h2 hw
def sIx (n d:Nat):Option Int→Nat
 | none=>d
 | some v=>if v<0 then (v+(n:Int)).toNat else min v.toNat n
theorem sIx_none (n d:Nat):sIx n d none=d:=rfl
theorem sIx_nat (n d k:Nat):sIx n d (some (k:Int))=min k n:=by
 show (if (k:Int)<0 then ((k:Int)+(n:Int)).toNat else min (k:Int).toNat n)=min k n
 rw[if_neg (by omega),Int.toNat_natCast]
end
end HT
namespace L2
open PySem PySem.Spec PyProof.Rows
abbrev TO:=St→Hp→(Option Int→Hp→Prop)→Prop
def PO (X:Cx) (e:Option Expr) (t:TO):Prop:=
 ∀(pins:List (Addr×Obj)) (s:Shared) (σ:St) (H:Hp) (Q:Option Int→Hp→Prop),Inv X pins σ H s→t σ H Q→
  wpAny (model X.prog X.w) X.A (evalPart e X.env) (fun u s'=> ∃o H',Inv X pins σ H' s'∧IsPart u o∧Q o H') X.xe s
def qnX:TO:=fun _ H Q=>Q none H
def qrz (t:TE):TO:=fun σ H Q=>t σ H fun x H1=> ∃i,x= .int i∧Q (some i) H1
section
variable {X:Cx} {e:Expr} {te:TE} {lo hi:Option Expr} {tl th:TO} {pos p2:Pos}
theorem qog:PO X none qnX:=by
 intro pins s σ H Q I h
 rw[evalPart_none]
 exact wpAny_pure ⟨none,H,I,.none,h⟩
theorem qof (h:PE X e te):PO X (some e) (qrz te):=by
 intro pins s σ H Q I hw
 rw[evalPart_some]
 refine thn (h pins s σ H _ I hw) fun u s1 ⟨x,H1,I1,r1,q1⟩=> ?_
 obtain ⟨i,rfl,q⟩:=q1
 obtain ⟨t,rfl⟩:=r1
 exact ⟨some i,H1,I1,.int i t,q⟩
def SlR (X:Cx) (r:V→Option Int→Option Int→Hp→VK→Prop):Prop:=
 ∀(pins:List (Addr×Obj)) (s:Shared) (σ:St) (H:Hp) (x:V) (v vl vu:Value) (lo hi:Option Int) (sl:Addr) (Q:VK),Inv X pins σ H s→RelV x v→s.heap.IsSliceOf sl vl vu .none→IsPart vl lo→IsPart vu hi→r x lo hi H Q→
  ∃T id,typeLookup (.type T) "__getitem__" =pure (some (.builtin id))∧s.TypeIs v T∧wpAny (model X.prog X.w) X.A (getItem v (.ref sl)) (EP X pins σ Q) X.xe s
def tSl (r:V→Option Int→Option Int→Hp→VK→Prop) (te:TE) (tl th:TO):TE:=fun σ H Q=>te σ H fun x H1=>tl σ H1 fun l H2=>th σ H2 fun u H3=>r x l u H3 Q
theorem qmb {r:V→Option Int→Option Int→Hp→VK→Prop} (hr:SlR X r) (he:PE X e te) (hl:PO X lo tl) (hu:PO X hi th):PE X (.Subscript e (.Slice lo hi none p2) pos) (tSl r te tl th):=by
 intro pins s σ H Q I h
 refine Subscript_ (thn (he pins s σ H _ I h) fun v s1 ⟨x,H1,I1,r1,q1⟩=> ?_)
 refine wpAny_Slice (thn (hl pins s1 σ H1 _ I1 q1) fun vl s2 ⟨l,H2,I2,pl,q2⟩=>thn (hu pins s2 σ H2 _ I2 q2) fun vu s3 ⟨u,H3,I3,pu,q3⟩=> ?_)
 rw[evalPart_none]
 refine wpAny_pure ?_
 have I4:Inv X pins σ H3 { s3 with heap:=s3.heap.push { cls:=.type "slice",data:=.fields #[vl,vu,.none] } }:=I3.kept (t':=s3.toks) fun b ob q=>Heap.get?_push_of_some _ q
 obtain ⟨T,id,hT,ht,hg⟩:=hr pins { s3 with heap:=s3.heap.push { cls:=.type "slice",data:=.fields #[vl,vu,.none] } } σ H3 x v vl vu l u s3.heap.objs.size Q I4 r1 (Heap.IsSliceOf.new ..) pl pu q3
 show wpAny (model X.prog X.w) X.A (subscriptTail e (.Slice lo hi none p2) v (.ref s3.heap.objs.size)) (EP X pins σ Q) X.xe { s3 with heap:=s3.heap.push { cls:=.type "slice",data:=.fields #[vl,vu,.none] } }
 exact tail_any (ops:=[.ref s3.heap.objs.size,v]) ht hT hg (by with_unfolding_all rfl)
def qpn (xs:List V) (lo hi:Option Int):List V:=(xs.drop (HT.sIx xs.length 0 lo)).take (HT.sIx xs.length xs.length hi - HT.sIx xs.length 0 lo)
theorem qha (xs:List V) (lo hi:Option Int):(qpn xs lo hi).length≤xs.length:=by
 unfold qpn
 rw[List.length_take,List.length_drop]
 omega
def qp2 (K:PySem.W.Frag):R2:=fun x y H Q=> ∃a b xs ys,x= .ref a∧y= .ref b∧SqT K H a xs∧SqT K H b ys∧xs≠[]∧xs.length+ys.length≤sizeLine∧
 (ys=[]→Q (.ref a) H)∧(ys≠[]→∀p,H p=none→Q (.ref p) (upd H p (.tup (xs++ys))))
theorem qa1.nil_iff {xs:List V} {us:List Value} (r:qa1 xs us):us=[]↔xs=[]:=by
 cases r with
 | nil=>simp
 | cons _ _=>simp
theorem qoq:OpR X (binaryOp .Add) (qp2 X.K):=by
 intro pins s σ H x y v u Q I rx ry h
 obtain ⟨a,b,xs,ys,rfl,rfl,ha,hb,hx,hz,q1,q2⟩:=h
 cases rx
 cases ry
 obtain ⟨its,r1,p1,_⟩:=I.tuple ha
 obtain ⟨its2,r2,p2,_⟩:=I.tuple hb
 refine HT.cat_tup p1 p2 (fun z=>hx (r1.nil_iff.mp z)) (fun z=>⟨.ref a,H,I,rfl,q1 (r2.nil_iff.mp z)⟩) (fun z=> ?_) (by rw[←r1.length,←r2.length]; exact hz)
 refine ⟨.ref s.heap.objs.size,_,I.laid (t':=s.toks) (o:=.tup (xs++ys)) (fun b ob q=>Heap.get?_push_of_some _ q) (Nat.le_refl _) ?_,rfl,q2 (fun w=>z (r2.nil_iff.mpr w)) _ (I.hok.fresh (Nat.le_refl _))⟩
 exact ⟨by rw[List.length_append]; exact hz,_,r1.append r2,IsTup.new _ _⟩
end
end L2
namespace L2
open PySem PySem.Spec PyProof.Rows
def ixN (n:Nat) (i:Int):Option Nat:=if 0≤i then (if i<n then some i.toNat else none) else if -(n:Int)≤i then some (i+n).toNat else none
def atI {α:Type} (xs:List α) (i:Int):Option α:=(ixN xs.length i).bind fun j=>xs[j]?
theorem qoI {n:Nat} {i:Int} {j:Nat} (h:ixN n i=some j):seqIndex? i n=some j∧j<n∧ -(n:Int)≤i∧i<n:=by
 unfold ixN at h
 by_cases h0:0≤i
 ·rw[if_pos h0] at h
  by_cases h1:i<n
  ·rw[if_pos h1] at h
   have e:i.toNat=j:=Option.some.inj h
   exact ⟨by rw[seqIndex_of h0 h1,e],by omega,by omega,h1⟩
  ·rw[if_neg h1] at h; cases h
 ·rw[if_neg h0] at h
  by_cases h1: -(n:Int)≤i
  ·rw[if_pos h1] at h
   have e:(i+n).toNat=j:=Option.some.inj h
   exact ⟨by rw[seqIndex_neg (by omega) h1,e],by omega,h1,by omega⟩
  ·rw[if_neg h1] at h; cases h
theorem qhc {α:Type} {xs:List α} {i:Int} {v:α} (h:atI xs i=some v): ∃j,seqIndex? i xs.length=some j∧xs[j]? =some v∧j<xs.length∧ -(xs.length:Int)≤i∧i<xs.length:=by
 unfold atI at h
 cases e:ixN xs.length i with
 | none=>rw[e] at h; cases h
 | some j=>
  rw[e] at h
  obtain ⟨h1,h2,h3,h4⟩:=qoI e
  exact ⟨j,h1,h,h2,h3,h4⟩
theorem qhb {α:Type} {xs:List α} {j:Nat} {v:α} (h:xs[j]? =some v):atI xs (j:Int)=some v:=by
 have hj:j<xs.length:=(List.getElem?_eq_some_iff.mp h).1
 have e:ixN xs.length (j:Int)=some j:=by
  unfold ixN
  rw[if_pos (by omega),if_pos (by omega)]; simp
 unfold atI; rw[e]; exact h
def qlt (b:Expr):Prop:= ∀o i,subscripted b false o i=operate [o,i] (getItem o i)
def IxR (X:Cx) (r:R2):Prop:=
 ∀(value slice:Expr) (pins:List (Addr×Obj)) (s:Shared) (σ:St) (H:Hp) (x y:V) (v u:Value) (Q:VK),Inv X pins σ H s→RelV x v→RelV y u→r x y H Q→
  subscripted slice false v u=operate [v,u] (getItem v u)→wpAny (model X.prog X.w) X.A (subscriptTail value slice v u) (EP X pins σ Q) X.xe s
def MtR (X:Cx) (id:String) (r:V→List V→Hp→VK→Prop):Prop:=
 ∀(pins:List (Addr×Obj)) (s:Shared) (σ:St) (H:Hp) (x:V) (xs:List V) (v:Value) (us:List Value) (Q:VK),Inv X pins σ H s→RelV x v→qa1 xs us→r x xs H Q→
  wpAny (model X.prog X.w) X.A (call (.builtin id) (v::us)) (EP X pins σ Q) X.xe s
section
variable {X:Cx} {a b:Expr} {ta tb:TE} {pos:Pos}
theorem IxR.or {r r':R2} (h:IxR X r) (h':IxR X r'):IxR X (fun x y H Q=>r x y H Q∨r' x y H Q):=by
 intro value slice pins s σ H x y v u Q I rx ry q hs
 rcases q with q | q
 ·exact h value slice pins s σ H x y v u Q I rx ry q hs
 ·exact h' value slice pins s σ H x y v u Q I rx ry q hs
theorem qom {r:R2} (hr:IxR X r) (ha:PE X a ta) (hb:PE X b tb) (hs:qlt b):PE X (.Subscript a b pos) (tOp r ta tb):=by
 intro pins s σ H Q I h
 exact Subscript_ (qtg ha hb I h fun v u s2 x y H2 I2 rx ry q=>hr a b pins s2 σ H2 x y v u Q I2 rx ry q (hs _ _))
def qsh (K:PySem.W.Frag):R2:=fun x y H Q=> ∃p xs i v,x= .ref p∧y= .int i∧SqL K H p xs∧atI xs i=some v∧Q v H
def qtw (K:PySem.W.Frag):R2:=fun x y H Q=> ∃p xs i v,x= .ref p∧y= .int i∧SqT K H p xs∧atI xs i=some v∧Q v H
def qtx:R2:=fun x y H Q=> ∃z i c,x= .str z∧y= .int i∧z.length≤sizeLine∧atI z.cps.toList i=some c∧Q (.str ⟨#[c]⟩) H
theorem qkt:IxR X (qsh X.K):=by
 intro value slice pins s σ H x y v u Q I rx ry h hs
 obtain ⟨p,xs,i,z,rfl,rfl,hq,he,q⟩:=h
 cases rx
 obtain ⟨t,rfl⟩:=ry
 obtain ⟨its,r,pl,hz⟩:=I.list hq
 obtain ⟨j,h1,h2,h3,h4,h5⟩:=qhc he
 obtain ⟨w,ew,rw'⟩:=r.get h2
 have hl:=r.length
 have hn:=qef
 have fin:EP X pins σ Q w s:=⟨z,H,I,rw',q⟩
 by_cases h0:0≤i
 ·have hj:i.toNat=j:=by
   rw[seqIndex_of h0 h5] at h1
   exact Option.some.inj h1
  exact item_listR pl.isList h0 (by omega) (by rw[hj]; simpa using ew) fin hs
 ·have hj:(i+(its.toArray.size:Int)).toNat=j:=by
   rw[seqIndex_neg (by omega) h4] at h1
   rw[List.size_toArray,←hl]
   exact Option.some.inj h1
  exact subscriptTail_builtinR (x:=w) pl.isList.typeIs slot_list_getitem.lookup
   (wpAny_getItem_list_neg (Q:=fun r s'=>r=w∧EP X pins σ Q r s') pl.isList (by omega) (by rw[List.size_toArray]<;>omega) (by omega) (by rw[hj]; simpa using ew) ⟨rfl,fin⟩) hs
theorem qqz:IxR X (qtw X.K):=by
 intro value slice pins s σ H x y v u Q I rx ry h hs
 obtain ⟨p,xs,i,z,rfl,rfl,hq,he,q⟩:=h
 cases rx
 obtain ⟨t,rfl⟩:=ry
 obtain ⟨its,r,pl,hz⟩:=I.tuple hq
 obtain ⟨j,h1,h2,h3,h4,h5⟩:=qhc he
 obtain ⟨w,ew,rw'⟩:=r.get h2
 have hl:=r.length
 have hn:=qef
 have fin:EP X pins σ Q w s:=⟨z,H,I,rw',q⟩
 exact subscriptTail_builtinR (x:=w) pl.typeIs slot_tuple_getitem.lookup
  (getItem_tuple (j:=j) (Q:=fun r s'=>r=w∧EP X pins σ Q r s') pl (by omega) (by omega) (by rw[List.size_toArray,←hl]; exact h1) (by simpa using ew) ⟨rfl,fin⟩) hs
theorem qqA:IxR X qtx:=by
 intro value slice pins s σ H x y v u Q I rx ry h hs
 obtain ⟨z,i,c,rfl,rfl,hz,he,q⟩:=h
 obtain ⟨t,rfl⟩:=rx
 obtain ⟨t',rfl⟩:=ry
 obtain ⟨j,h1,h2,h3,h4,h5⟩:=qhc he
 have hl:z.cps.toList.length=z.length:=by simp[Str.length]
 rw[hl] at h1 h4 h5
 have hn:=qef
 exact tail_any (typeIs_str s z t) slot_str_getitem.lookup (getItem_str (c:=c) (by
  have e1:decide (i< -(2 ^ 63:Int))=false:=decide_eq_false (by omega)
  have e2:decide (i≥2 ^ 63)=false:=decide_eq_false (by omega)
  rw[e1,e2,Bool.or_false]) (by rw[h1]; simpa using h2) ⟨.str ⟨#[c]⟩,H,I.tok _,⟨_,rfl⟩,q⟩) hs
def rIx (K:PySem.W.Frag):R2:=fun x y H Q=>qsh K x y H Q∨qtw K x y H Q∨qtx x y H Q
theorem qaz:IxR X (rIx X.K):=qkt.or (qqz.or qqA)
theorem Inv.lst {pins:List (Addr×Obj)} {σ:St} {H:Hp} {s:Shared} {p:Addr} {xs:List V} (I:Inv X pins σ H s) (h:H p=some (.lst xs)):
  ∃(its:List Value) (n:Nat),qa1 xs its∧s.heap.get? p=some { cls:=.type "list",data:=.seq its.toArray n }∧xs.length≤sizeLine:=by
 obtain ⟨z,its,n,r,e⟩:=I.hok p _ h
 exact ⟨its,n,r,e,z⟩
theorem qfB (lo hi:Option Int) (n:Nat):(sliceBounds lo hi none n).1=((HT.sIx n 0 lo:Nat):Int)∧(sliceBounds lo hi none n).2.1=((HT.sIx n n hi:Nat):Int)∧(sliceBounds lo hi none n).2.2=1:=by
 refine ⟨?_,?_,rfl⟩
 ·cases lo with
  | none=>simp[sliceBounds,HT.sIx]
  | some i=>
   simp only[sliceBounds,HT.sIx,Option.getD_none,show (1:Int)>0 by decide,if_true]
   by_cases h:i<0
   ·simp only[h,if_true]<;>omega
   ·simp only[h,if_false]<;>omega
 ·cases hi with
  | none=>simp[sliceBounds,HT.sIx]
  | some i=>
   simp only[sliceBounds,HT.sIx,Option.getD_none,show (1:Int)>0 by decide,if_true]
   by_cases h:i<0
   ·simp only[h,if_true]<;>omega
   ·simp only[h,if_false]<;>omega
theorem qe2 (its:List Value) (lo hi:Option Int):slicePick its.toArray lo hi none=((its.drop (HT.sIx its.length 0 lo)).take (HT.sIx its.length its.length hi - HT.sIx its.length 0 lo)).toArray:=by
 obtain ⟨h1,h2,h3⟩:=qfB lo hi its.toArray.size
 unfold slicePick
 rw[h1,h2,h3]
 simp only[sliceRange_one,pick_run,List.size_toArray]<;>rfl
def qui (K:PySem.W.Frag):V→Option Int→Option Int→Hp→VK→Prop:=fun x lo hi H Q=> ∃a xs,x= .ref a∧SqL K H a xs∧∀p,H p=none→Q (.ref p) (upd H p (.lst (qpn xs lo hi)))
theorem qn6:SlR X (qui X.K):=by
 intro pins s σ H x v vl vu lo hi sl Q I rx hs pl pu h
 obtain ⟨a,xs,rfl,hx,q⟩:=h
 cases rx
 obtain ⟨its,r,ht,hz⟩:=I.list hx
 have hlen:=r.length
 refine ⟨"list",_,slot_list_getitem.lookup,ht.isList.typeIs,?_⟩
 refine wpAny_getItem_list_slice ht.isList hs pl pu .none (by simp) ?_ (by rw[List.size_toArray]<;>omega)
 rw[qe2,←hlen]
 refine ⟨.ref s.heap.objs.size,_,I.laid (t':=s.toks) (o:=.lst (qpn xs lo hi)) (fun b ob q=>Heap.get?_push_of_some _ q) (Nat.le_refl _) ?_,rfl,q _ (I.hok.fresh (Nat.le_refl _))⟩
 exact ⟨Nat.le_trans (qha xs lo hi) hz,_,0,(r.drop (HT.sIx xs.length 0 lo)).take (HT.sIx xs.length xs.length hi - HT.sIx xs.length 0 lo),Heap.get?_push_size _ rfl⟩
def qct:V→Bool
 | .non=>true
 | .bl _=>true
 | .int _=>true
 | .str _=>true
 | _=>false
def eqV:V→V→Bool
 | .non,.non=>true
 | .bl a,.bl b=>a==b
 | .bl a,.int b=>(if a then 1 else 0)==b
 | .int a,.bl b=>a==(if b then 1 else 0)
 | .int a,.int b=>a==b
 | .str a,.str b=>a==b
 | _,_=>false
theorem qh1 {A:Around} {s:Shared} {y x:V} {u v:Value} (ry:RelV y u) (rx:RelV x v) (fy:qct y=true) (fx:qct x=true):SeqAt.EqAt A s u v (eqV y x):=by
 cases y with
 | non=>
  cases ry
  cases x with
  | non=>cases rx; exact SeqAt.EqAt.same _
  | bl b=>cases rx; exact SeqAt.EqAt.none_bool b
  | int b=>obtain ⟨t,rfl⟩:=rx; exact SeqAt.EqAt.none_int b t
  | str b=>obtain ⟨t,rfl⟩:=rx; exact SeqAt.EqAt.none_str b t
  | _=>exact absurd (show false=true from fx) Bool.false_ne_true
 | bl a=>
  cases ry
  cases x with
  | non=>cases rx; exact SeqAt.EqAt.bool_none a
  | bl b=>cases rx; exact SeqAt.EqAt.bool_bool a b
  | int b=>obtain ⟨t,rfl⟩:=rx; exact SeqAt.EqAt.bool_int a b t
  | str b=>obtain ⟨t,rfl⟩:=rx; exact SeqAt.EqAt.bool_str a b t
  | _=>exact absurd (show false=true from fx) Bool.false_ne_true
 | int a=>
  obtain ⟨t',rfl⟩:=ry
  cases x with
  | non=>cases rx; exact SeqAt.EqAt.int_none a t'
  | bl b=>cases rx; exact SeqAt.EqAt.int_bool a t' b
  | int b=>obtain ⟨t,rfl⟩:=rx; exact SeqAt.EqAt.int_int a t' b t
  | str b=>obtain ⟨t,rfl⟩:=rx; exact SeqAt.EqAt.int_str a t' b t
  | _=>exact absurd (show false=true from fx) Bool.false_ne_true
 | str a=>
  obtain ⟨t',rfl⟩:=ry
  cases x with
  | non=>cases rx; exact SeqAt.EqAt.str_none a t'
  | bl b=>cases rx; exact SeqAt.EqAt.str_bool a t' b
  | int b=>obtain ⟨t,rfl⟩:=rx; exact SeqAt.EqAt.str_int a t' b t
  | str b=>obtain ⟨t,rfl⟩:=rx; exact SeqAt.EqAt.str_str a t' b t
  | _=>exact absurd (show false=true from fx) Bool.false_ne_true
 | _=>exact absurd (show false=true from fy) Bool.false_ne_true
theorem qgj:qcL X (.builtin "len") (fun xs H Q=> ∃p ys,xs=[.ref p]∧(SqL X.K H p ys∨SqT X.K H p ys)∧Q (.int ys.length) H):=by
 intro pins s σ H xs us Q I r h
 obtain ⟨p,ys,rfl,hq,q⟩:=h
 obtain ⟨u,rfl,rx⟩:=qdZ r
 cases rx
 have hn:=qef
 rcases hq with hq | hq
 ·obtain ⟨its,r',pl,hz⟩:=I.list hq
  have hlen:=r'.length
  exact Calls.call_len_list pl.isList (by simp only[List.size_toArray]<;>omega) ⟨.int ys.length,H,I.tok _,⟨s.toks+1,by rw[List.size_toArray,hlen]⟩,q⟩
 ·obtain ⟨its,r',pl,hz⟩:=I.tuple hq
  have hlen:=r'.length
  exact len_tuple pl (by simp only[List.size_toArray]<;>omega) ⟨.int ys.length,H,I.tok _,⟨s.toks+1,by rw[List.size_toArray,hlen]⟩,q⟩
theorem qgi:qcL X (.builtin "len") (fun xs H Q=> ∃z,xs=[.str z]∧z.length≤sizeLine∧Q (.int z.length) H):=by
 intro pins s σ H xs us Q I r h
 obtain ⟨z,rfl,hz,q⟩:=h
 obtain ⟨u,rfl,t,rfl⟩:=qdZ r
 have hn:=qef
 exact len_str (by omega) ⟨.int z.length,H,I.tok _,⟨_,rfl⟩,q⟩
theorem qgh:qcL X (.type "list") (fun xs H Q=> ∃p ys,xs=[.ref p]∧(SqL X.K H p ys∨SqT X.K H p ys)∧∀l,H l=none→Q (.ref l) (upd H l (.lst ys))):=by
 intro pins s σ H xs us Q I r h
 obtain ⟨p,ys,rfl,hq,q⟩:=h
 obtain ⟨u,rfl,rx⟩:=qdZ r
 cases rx
 have fin: ∀(its:List Value),qa1 ys its→ys.length≤sizeLine→∀(h':Heap) (c':Nat),(∀b o',s.heap.get? b=some o'→h'.get? b=some o')→
   h'.get? s.heap.objs.size=some { cls:=.type "list",dict:=none,data:=.seq its.toArray c',slots:= #[] }→EP X pins σ Q (.ref s.heap.objs.size) { s with heap:=h' }:=fun its r' hz h' c' kp e=>
  ⟨.ref s.heap.objs.size,_,I.laid (t':=s.toks) kp (Nat.le_refl _) (show qa2 X.prog X.w _ h' _ (.lst ys) from ⟨hz,its,c',r',e⟩),rfl,q _ (I.hok.fresh (Nat.le_refl _))⟩
 rcases hq with hq | hq
 ·obtain ⟨its,r',pl,hz⟩:=I.list hq
  have hlen:=r'.length
  obtain ⟨o,ho,hc,n,hd⟩:=pl.isList
  exact call_list_seq p (.inl rfl) ho hc hd (fun h' c' kp e=>fin its r' hz h' c' kp e) (by simp only[List.size_toArray]<;>omega)
 ·obtain ⟨its,r',pl,hz⟩:=I.tuple hq
  have hlen:=r'.length
  obtain ⟨o,ho,hc,n,hd⟩:=pl
  exact call_list_seq p (.inr rfl) ho hc hd (fun h' c' kp e=>fin its r' hz h' c' kp e) (by simp only[List.size_toArray]<;>omega)
def tyV (K:PySem.W.Frag) (T:String) (x:V) (H:Hp):Prop:=match x with
 | .str _=>T= "str"
 | .int _=>T= "int"
 | .ref p=>(T= "list" ∧∃xs,SqL K H p xs)∨(T= "tuple" ∧∃o,K.lookup p=some o∧o.cls= .type "tuple" ∧o.dict=none)∨
   (T= "dict" ∧((∃kvs,H p=some (.dK kvs))∨∃kvs,H p=some (.dT kvs)))∨(T= "set" ∧∃S n,H p=some (.set S n))
 | _=>False
theorem qm8 {pins:List (Addr×Obj)} {σ:St} {H:Hp} {s:Shared} {T:String} {x:V} {v:Value} (I:Inv X pins σ H s) (r:RelV x v) (ty:tyV X.K T x H):
  s.TypeIs v T∧∀a,v= .ref a→∃ob,s.heap.get? a=some ob∧ob.dict=none:=by
 cases x with
 | str z=>
  obtain ⟨t,rfl⟩:=r
  cases (show T= "str" from ty)
  exact ⟨typeIs_str s z t,fun _ e=>nomatch e⟩
 | int i=>
  obtain ⟨t,rfl⟩:=r
  cases (show T= "int" from ty)
  exact ⟨typeIs_int s i t,fun _ e=>nomatch e⟩
 | ref p=>
  cases r
  rcases ty with ⟨rfl,xs,hq⟩ | ⟨rfl,o,hk,hc,hd⟩ | ⟨rfl,hk⟩ | ⟨rfl,S,n,hk⟩
  ·obtain ⟨its,_,pl,_⟩:=I.list hq
   refine ⟨pl.isList.typeIs,fun a e=> ?_⟩
   cases e
   obtain ⟨o,n,e,c,hd,_⟩:=pl
   exact ⟨o,e,hd⟩
  ·refine ⟨⟨o,I.kIn p o hk,hc⟩,fun a e=> ?_⟩
   cases e
   exact ⟨o,I.kIn _ o hk,hd⟩
  ·have z: ∃o,s.heap.get? p=some o∧o.ExactDict:=by
    rcases hk with ⟨kvs,hk⟩ | ⟨kvs,hk⟩
    ·obtain ⟨_,_,_,_,o,_,_,e,ex,_⟩:=I.hok p _ hk
     exact ⟨o,e,ex⟩
    ·obtain ⟨_,_,_,_,o,_,_,e,ex,_⟩:=I.hok p _ hk
     exact ⟨o,e,ex⟩
   obtain ⟨o,e,ex⟩:=z
   refine ⟨⟨o,e,ex.1⟩,fun a e2=> ?_⟩
   cases e2
   exact ⟨o,e,ex.2.1⟩
  ·obtain ⟨o,_,_,_,e,ex,_⟩:=I.hok p _ hk
   refine ⟨⟨o,e,ex.1⟩,fun a e2=> ?_⟩
   cases e2
   exact ⟨o,e,ex.2.1⟩
 | _=>exact False.elim ty
def tBM (K:PySem.W.Frag) (T:String) (r:V→List V→Hp→VK→Prop) (to:TE) (t:TA):TE:=fun σ H Q=>to σ H fun x H1=>tyV K T x H1∧t σ H1 fun xs H2=>r x xs H2 Q
variable {o e:Expr} {es:List Expr} {to:TE} {t:TA} {name:Str} {apos cpos:Pos} {T id:String} {r:V→List V→Hp→VK→Prop}
theorem qjW (pa:PlainAttrs T) (slot:Slot T name id) (hty:typeOf (.builtin id)=pure (.type "method_descriptor")) (hm:MtR X id r) (ho:PE X o to) (ha:PA X (e::es) t)
  (hbase:attributeBase o name X.env (eval o X.env)=eval o X.env:=by rfl)
  (hfew:((backTo cpos (starEach (e::es) X.env)).all (fun x=> !x.1)&&(backToKw cpos (keywordEach [] X.env)).all (fun x=>x.1.isSome)
   &&decide ((e::es).length+([]:List Keyword).length+(if ([]:List Keyword).isEmpty then 0 else 1)<30))=true:=by rfl)
  (hline:(apos.endLine==cpos.line)=true:=by rfl) (hs:starEach (e::es) X.env=(false,eval e X.env)::starEach es X.env:=by rfl) (hplain:(backTo cpos (starEach es X.env)).any (·.1)=false:=by rfl):
  PE X (.Call (.Attribute o name apos) (e::es) [] cpos) (tBM X.K T r to t):=by
 intro pins s σ H Q I h
 refine wpAny_Call_method_late hbase hfew hline rfl (thn (ho pins s σ H _ I h) fun v s1 ⟨x,H1,I1,r1,ty,q1⟩=> ?_)
 obtain ⟨h1,h2⟩:=qm8 I1 r1 ty
 refine ⟨T,id,pa,slot,hty,h1,h2,?_⟩
 have hA:=ha cpos pins s1 σ H1 _ I1 q1
 rw[hs] at hA⊢
 refine Calls.callWith_builtin (by show (false||(backTo cpos (starEach es X.env)).any (·.1))=false; rw[hplain]<;>rfl) (Calls.evalArgs_plain ?_)
 exact thn hA fun us s2 ⟨vs,H2,I2,r2,q2⟩=>hm pins s2 σ H2 x vs v us Q I2 r1 r2 q2
end
end L2
namespace L2
open PySem PySem.Spec PyProof.Rows
def MtM (X:Cx) (id:String) (r:V→List V→Hp→VK→Prop):Prop:=
 ∀(pins:List (Addr×Obj)) (s:Shared) (σ:St) (H:Hp) (x:V) (xs:List V) (v:Value) (us:List Value) (Q:VK),Inv X pins σ H s→RelV x v→qa1 xs us→r x xs H Q→
  wpAny (model X.prog X.w) X.A (call (.builtin id) (v::us)) (EP X pins σ Q) X.xe s
theorem qa1.one: ∀{x:V} {us:List Value},qa1 [x] us→∃u,us=[u]∧RelV x u
 | _,_,.cons r .nil=>⟨_,rfl,r⟩
theorem qa1.two: ∀{x y:V} {us:List Value},qa1 [x,y] us→∃u v,us=[u,v]∧RelV x u∧RelV y v
 | _,_,_,.cons r (.cons q .nil)=>⟨_,_,rfl,r,q⟩
section
variable {X:Cx} {pins:List (Addr×Obj)} {σ:St} {H:Hp} {s:Shared} {l b:Addr} {xs ys zs:List V}
theorem Inv.lset {its its':List Value} {n:Nat} {f:Array Value→Array Value} {t':Nat} (I:Inv X pins σ H s) (hH:H l=some (.lst xs))
  (e:s.heap.get? l=some { cls:=.type "list",data:=.seq its.toArray n }) (hf:f its.toArray=its'.toArray) (hv:qa1 ys its') (hz:ys.length≤sizeLine):
  Inv X pins σ (upd H l (.lst ys)) { s with heap:=s.heap.update l (Obj.mapSeq f),toks:=t' }:=by
 have q:=PySem.IsL.update e f
 rw[hf] at q
 refine I.write (x:=l) (e:=l) (by rw[hH]; exact trivial) (.inl rfl) (fun b' u hb hu=>(Heap.get?_update_other s.heap (Obj.mapSeq f) (Ne.symm hb)).trans hu) ⟨_,q⟩ ?_
 exact ⟨hz,its',_,hv,q⟩
theorem Inv.lnew {its:List Value} {t':Nat} (I:Inv X pins σ H s) (hv:qa1 ys its) (hz:ys.length≤sizeLine):
  Inv X pins σ (upd H s.heap.objs.size (.lst ys)) { s with heap:=s.heap.push { cls:=.type "list",data:=.seq its.toArray },toks:=t' }:=
 I.laid (fun _ _ q=>Heap.get?_push_of_some _ q) (Nat.le_refl _) ⟨hz,its,0,hv,Heap.get?_push_size _ rfl⟩
theorem Inv.fresh (I:Inv X pins σ H s):H s.heap.objs.size=none:=I.hok.fresh (Nat.le_refl _)
theorem Inv.lstM (I:Inv X pins σ H s) (hH:H l=some (.lst xs)):xs.length≤sizeLine∧∃(its:List Value) (n:Nat),qa1 xs its∧xs.length=its.length∧s.heap.get? l=some { cls:=.type "list",data:=.seq its.toArray n }:=by
 obtain ⟨z,its,n,r,e⟩:=I.hok l _ hH
 exact ⟨z,its,n,r,r.length,e⟩
theorem qml {n:Nat} (h:n≤sizeLine):Builtin.List.listTooLong n=false:=by
 unfold Builtin.List.listTooLong
 exact decide_eq_false (by omega)
end
section
variable {X:Cx}
def qjG:V→List V→Hp→VK→Prop:=fun x vs H Q=> ∃l xs y,x= .ref l∧vs=[y]∧H l=some (.lst xs)∧xs.length<sizeLine∧Q .non (upd H l (.lst (xs++[y])))
theorem qcf:MtM X "list.append" qjG:=by
 intro pins s σ H x vs v us Q I rx rv h
 obtain ⟨l,xs,y,rfl,rfl,hH,hz,q⟩:=h
 cases rx
 obtain ⟨u,rfl,ru⟩:=rv.one
 obtain ⟨z,its,n,r,hl,e⟩:=I.lstM hH
 refine call_meets F.slot_list_append ⟨_,e,rfl⟩ F.entry_list_append (F.args_list_append_2 _ _) (PySem.list_append l its.toArray n u (by rw[List.size_toArray]; omega)) ⟨e,?_⟩
 refine ⟨.non,_,I.lset (its':=its++[u]) hH e (by simp) (r.append (.cons ru .nil)) ?_,rfl,q⟩
 rw[List.length_append,List.length_singleton]
 omega
def qjF:V→List V→Hp→VK→Prop:=fun x vs H Q=> ∃l b xs zs,x= .ref l∧vs=[.ref b]∧H l=some (.lst xs)∧H b=some (.lst zs)∧xs.length+zs.length≤sizeLine∧Q .non (upd H l (.lst (xs++zs)))
theorem qj9:MtM X "list.extend" qjF:=by
 intro pins s σ H x vs v us Q I rx rv h
 obtain ⟨l,b,xs,zs,rfl,rfl,hH,hB,hz,q⟩:=h
 cases rx
 obtain ⟨u,rfl,ru⟩:=rv.one
 cases ru
 obtain ⟨z,its,n,r,hl,e⟩:=I.lstM hH
 obtain ⟨z2,its2,n2,r2,hl2,e2⟩:=I.lstM hB
 have hsz:its.toArray.size+its2.toArray.size≤sizeLine:=by rw[List.size_toArray,List.size_toArray]; omega
 have hlong: ¬(!its.toArray.isEmpty&&Builtin.List.listTooLong (its.toArray.size+its2.toArray.size))=true:=by
  rw[qml hsz,Bool.and_false]
  exact Bool.false_ne_true
 refine call_meets F.slot_list_extend ⟨_,e,rfl⟩ F.entry_list_extend (F.args_list_extend_2 _ _)
  (AutoSeq1.list_extend_list_list_0 l its.toArray n b its2.toArray n2 hlong (by rw[List.size_toArray]; omega) (by omega)) ⟨e,e2,?_⟩
 refine ⟨.non,_,I.lset (its':=its++its2) hH e (by simp) (r.append r2) ?_,rfl,q⟩
 rw[List.length_append]
 omega
def qty:R2:=fun x y H Q=> ∃l b xs zs,x= .ref l∧y= .ref b∧H l=some (.lst xs)∧H b=some (.lst zs)∧xs.length+zs.length≤sizeLine∧∀p,H p=none→Q (.ref p) (upd H p (.lst (xs++zs)))
theorem qno:OpR X (binaryOp .Add) qty:=by
 intro pins s σ H x y v u Q I rx ry h
 obtain ⟨l,b,xs,zs,rfl,rfl,hH,hB,hz,q⟩:=h
 cases rx
 cases ry
 obtain ⟨z,its,n,r,hl,e⟩:=I.lstM hH
 obtain ⟨z2,its2,n2,r2,hl2,e2⟩:=I.lstM hB
 refine PySem.P.add_list e e2 ?_ (by rw[List.size_toArray,List.size_toArray]; omega)
 have ea:its.toArray++its2.toArray=(its++its2).toArray:=by simp
 rw[ea]
 exact ⟨.ref _,_,I.lnew (t':=s.toks) (r.append r2) (by rw[List.length_append]; omega),rfl,q _ I.fresh⟩
end
section
variable {prog:Program} {w:World} {A:Around} {E:Value→Shared→Prop} {s:Shared}
end
section
variable {X:Cx}
end
end L2
namespace Att
open PySem PySem.W PySem.Calls PyProof.Rows
theorem qel {P:Params} {h:Heap}: ∀(ns:List Int) (vs:List Value),WellAll P h vs (ns.map WData.int)→IntsAre vs ns:=by
 intro ns
 induction ns with
 | nil=>
  intro vs w
  rw[List.map_nil] at w
  cases w
  exact .nil
 | cons n ns ih=>
  intro vs w
  rw[List.map_cons] at w
  cases w with
  | cons a b=>
   cases a
   exact .cons _ _ (ih _ b)
theorem qjt {l:OpenLaw} {n:Nat} (hn:l.most=some n) {P:Params} {h:Heap} {args:List WData} {vals:List Value}
  (hpre:l.row.toRowW.claim.pre args=true) (hwl:WellAll P h vals args):
  ∃a vs ns,vals=[Value.ref a]∧args=[WData.list (ns.map WData.int)]∧h.get? a=some { cls:=.type "list",data:=.seq vs.toArray }∧IntsAre vs ns∧ns.length≤n:=by
 have hsh:WShape.hasAll [] args [.list .int]=true:=(pre_splitW hpre).1
 have hc:l.pre.holds [] { args:=args }=true:=(pre_splitW hpre).2
 obtain ⟨d,r,rfl,h1,h2⟩:=hasAllW_cons hsh
 obtain rfl:=hasAllW_nil h2
 obtain ⟨xs,rfl,h3⟩:=hasW_list h1
 obtain ⟨ns,rfl⟩:=items_int h3
 have hlen:ns.length≤n:=by
  unfold OpenLaw.pre at hc
  have h4:(WTm.not (.lt (.lit (.int (n:Int))) (.len (.arg 0)))).holds [] { args:=[.list (ns.map .int)] }=true:=by
   have h4:=(holds_andW hc).1
   rw[hn] at h4
   exact h4
  have h5:=condW_of h4 (w_not (w_lt w_lit (w_len_list (w_arg rfl))))
  rw[List.length_map] at h5
  refine Nat.le_of_not_lt fun q=> ?_
  have q':(n:Int)<((ns.length:Nat):Int):=by omega
  first
   | (rw[decide_eq_true q'] at h5; exact absurd h5 (by decide))
   | (simp at h5; omega)
 cases hwl with
 | cons w1 w2=>
  cases w2
  cases w1 with
  | list ho hall=>exact ⟨_,_,ns,rfl,rfl,ho,qel ns _ hall,hlen⟩
theorem qjN (l:OpenLaw) (args:List WData):l.row.toRowW.claim.post args (.bool true) args=true:=
 postW_of (r:=l.row.toRowW) (X:=(true==true))
  (show WShape.has [] (.bool true) .bool=true by first | rfl | decide | simp[WShape.has,WShape.arms,WShape.armsAll])
  (show (WTm.eq .res (.lit (.bool true))).value [] { args:=args,res:=some (.bool true),after:=args }=some (.bool (true==true)) from w_eq_bool (w_res rfl) w_lit) rfl
theorem attach_call {l:OpenLaw} {n:Nat} {q:Program} {loose:List Str} {XP:(Str→Option Value)→Heap→Prop} {YP:World→Heap→Prop} {d:DefRec}
  (hn:l.most=some n) (hdf:d.params.defaults=[])
  (call: ∀(w:World) (s₀ s₁:Shared) (mg mb:Str→Option Value) (fa:Addr) (o:Obj) (pm cd doc:Value) (a:Addr) (vs:List Value) (ns:List Int),
   Ground q loose [] XP w s₀ mg mb s₁.heap→YP w s₁.heap→
   s₁.heap.get? fa=some o→o.data= .func (docDef d.name d.params d.body d.scope pm cd doc)→s₁.heap.CodeRec cd d.name→mg d.name=some (.ref fa)→
   s₁.heap.get? a=some { cls:=.type "list",data:=.seq vs.toArray }→IntsAre vs ns→ns.length≤n→s₁.gens= #[]→
   codeAny (model l.prog w) callerA (.call (.ref fa) ⟨[.ref a],[]⟩) (fun r s'=>r= .ok (.ret (.bool true))∧OldK s₁.heap s'.heap∧s'.os=s₁.os∧AllBare s'.gens) s₁):
  WalkO q loose XP YP l.row.toRowW d [] (fun f vs=>PySem.call f vs):=by
 intro w s₀ s₁ mg mb G Y fa o pm cd doc dV kV ho hd hcd hD hmg hg args vals as hpre hlay hrd hwl hlo
 obtain rfl:dV= .none:=Dflts.none hD hdf
 obtain rfl:kV= .none:=Dflts.noKw hD
 obtain ⟨a,vs,ns,rfl,rfl,hobj,hints,hlen⟩:=qjt hn hpre hwl
 refine enter_call (codeAny_mono (call w s₀ s₁ mg mb fa o pm cd doc a vs ns G Y ho (fd_plain hd) hcd hmg hobj hints hlen hg) fun r s' hq=> ?_)
 obtain ⟨rfl,h2,h3,h4⟩:=hq
 exact ⟨.inl ⟨.bool true,.bool true,[],rfl,fun _=>rfl,.bool true,qjN l _,fun _=>⟨List.Pairwise.nil,fun _ hm=>(nomatch hm)⟩⟩,h2,h3,h4⟩
section
variable {prog:Program} {w:World} {A:Around} {E:Value→Shared→Prop} {s:Shared} {K:Frag}
def qtD (h:Heap) (L d:Addr):List (Addr×Obj):=(List.range h.objs.size).filterMap fun a=>if a=L∨a=d then none else (h.get? a).map fun o=>(a,o)
end
end Att
namespace L2
open PySem PySem.Spec PyProof.Rows
theorem qdY: ∀{vs:List Value} {ns:List Int},IntsAre vs ns→qa1 (ns.map V.int) vs
 | _,_,.nil=>.nil
 | _,_,.cons n t h=>.cons ⟨t,rfl⟩ (qdY h)
def qtk (H:Hp):Prop:= ∀b,H b=none∨∃o xs,H b=some (.frz o (.lst xs))
theorem qmp {P:Program} {w:World} {K:PySem.W.Frag} {mg mb:Str→Option Value} {CX:CXT} {k:Nat} {fa a:Addr} {fd:FuncData} {x:Str} {sp:Sp} {s₁:Shared} {vs:List Value} {ns:List Int}
  (KX:K.In s₁.heap) (hns:s₁.heap.Ns mainGlobals mg) (hb:s₁.heap.Ns builtinsNs mb) (hbb: ∀x:Str,x≠ "__name__" →mb x=bootBuiltins x) (hlim:s₁.heap.NoLimit) (hg:s₁.gens= #[])
  (ha:s₁.heap.get? a=some { cls:=.type "list",data:=.seq vs.toArray }) (hi:IntsAre vs ns) (hl:ns.length≤sizeLine) (hr:qbW k callerA)
  (F: ∀base:Heap,K.In base→base.Ns mainGlobals mg→qbe P w K mg base CX k fa fd [x] sp) (hbind: ∀(s:Shared) (u:Value),BindsTo s fd ⟨[u],[]⟩ [(x,u)])
  (hsp: ∀H:Hp,qtk H→SqL K H a (ns.map V.int)→sp [.ref a] H (fun v _=>v= .bl true) fun _ _ _=>False)
  (hCX: ∀H e s',CX [] H s₁ (fun _ _ _=>False) e s'→False):
  codeAny (model P w) callerA (.call (.ref fa) ⟨[.ref a],[]⟩) (fun r s'=>r= .ok (.ret (.bool true))∧OldK s₁.heap s'.heap∧s'.os=s₁.os∧AllBare s'.gens) s₁:=by
 have rv:=qdY hi
 have lenV:=hi.length
 have core: ∀H:Hp,qtk H→SqL K H a (ns.map V.int)→HOk P w H s₁.heap→(∀b,H b≠none→b=a)→(H a≠none→K.lookup a=none)→
   codeAny (model P w) callerA (.call (.ref fa) ⟨[.ref a],[]⟩) (fun r s'=>r= .ok (.ret (.bool true))∧OldK s₁.heap s'.heap∧s'.os=s₁.os∧AllBare s'.gens) s₁:=by
  intro H hO hS hok hA hK
  have base_of: ∀{b:Addr} {o:Obj},s₁.heap.get? b=some o→H b=none→(qgu s₁.heap H).get? b=some o:=fun e n=>qhR e n
  have noA: ∀{b:Addr} {o:Obj} {es:Array DictEntry} {ep:Nat},s₁.heap.get? b=some o→o.data= .dict es ep→H b=none:=fun {b o es ep} e d=>by
   cases q:H b with
   | none=>rfl
   | some u=>
    have e':b=a:=hA b (by rw[q]; simp)
    subst e'
    rw[ha] at e; cases e
    have d':Data.seq vs.toArray _=Data.dict es ep:=d
    cases d'
  have nsK: ∀{b:Addr} {m:Str→Option Value},s₁.heap.Ns b m→(qgu s₁.heap H).Ns b m:=fun {b m} ⟨o,es,ep,e,d,r⟩=>⟨o,es,ep,base_of e (noA e d),d,r⟩
  have hKb:K.In (qgu s₁.heap H):=fun b o e=>base_of (KX b o e) (by
   cases q:H b with
   | none=>rfl
   | some u=>
    have e':b=a:=hA b (by rw[q]; simp)
    subst e'
    rw[hK (by rw[q]; simp)] at e; cases e)
  have hM:Mod K mg (qgu s₁.heap H):=⟨hKb,nsK hns,⟨mb,nsK hb,hbb⟩,let ⟨mc,h1,h2⟩:=hlim; ⟨mc,nsK h1,h2⟩⟩
  have e0:qlw P w K mg (qgu s₁.heap H) callerA [] s₁ H:=⟨rfl,hM,fun b o e=>qj6 e,Nat.le_of_eq (qfT _ _),trivial,fun b hb=>absurd (show b∈([]:List Addr) from hb) (by simp),hok,.of_eq hg⟩
  refine codeAny_mono ((F _ hKb (nsK hns)).run callerA [] s₁ H ⟨[.ref a],[]⟩ [.ref a] [.ref a] _ _ hr e0 (hbind s₁ (.ref a)) (.cons rfl .nil) (hsp H hO hS)) fun r s' h=> ?_
  cases r with
  | error e=>exact (hCX H e s' h).elim
  | ok fl=>
   cases fl with
   | next=>exact False.elim h
   | brk=>exact False.elim h
   | cont=>exact False.elim h
   | ret u=>
    obtain ⟨v,H',os,bare,un,hok',r',q⟩:=h
    have q':v= .bl true:=q
    subst q'
    obtain rfl:u=Value.bool true:=r'
    refine ⟨rfl,OldK.of_keep fun b o e=> ?_,os,bare⟩
    cases q:H b with
    | none=>exact un.keep b o e q (by intro z; exact absurd (show b∈([]:List Addr) from z) (by simp)) (by simp)
    | some u=>
     rcases hO b with z | ⟨ob,xs,z⟩
     ·rw[q] at z; cases z
     ·have z2:=un.frzs b ob _ z
      obtain ⟨e1,_⟩:=hok b _ z
      obtain ⟨e2,_⟩:=hok' b _ z2
      rw[e] at e1; cases e1
      exact e2
 cases hk:K.lookup a with
 | some o=>
  have e:=KX a o hk
  rw[ha] at e
  cases e
  refine core (fun _=>none) (fun _=>.inl rfl) (.inr ⟨_,vs.toArray,_,hk,rfl,rfl,rfl,by rw[List.size_toArray,lenV]; exact hl,by simpa using rv⟩) (fun b u z=>by have z':(none:Option HO)=some u:=z; cases z') (fun b z=>absurd rfl z) fun z=>absurd rfl z
 | none=>
  refine core (fun b=>if b=a then some (.frz { cls:=.type "list",data:=.seq vs.toArray } (.lst (ns.map V.int))) else none) (fun b=> ?_) (.inl (.inr ⟨{ cls:=.type "list",data:=.seq vs.toArray },if_pos rfl⟩)) (fun b u z=> ?_) (fun b z=> ?_) fun _=>hk
  ·by_cases hb:b=a
   ·exact .inr ⟨_,_,if_pos hb⟩
   ·exact .inl (if_neg hb)
  ·by_cases hb:b=a
   ·have z':=(if_pos hb).symm.trans z
    cases z'
    subst hb
    exact ⟨ha,by rw[List.length_map]; exact hl,vs,_,rv,ha⟩
   ·have z':=(if_neg hb).symm.trans z
    cases z'
  ·by_cases hb:b=a
   ·exact hb
   ·exact absurd (if_neg hb) z
end L2
namespace L2
open PySem PySem.Spec PyProof.Rows
abbrev KOf {K:PySem.W.Frag} {h:Heap} (_:K.In h):PySem.W.Frag:=K
theorem qrw {l:PySem.W.OpenLaw} {n k:Nat} {q:Program} {loose:List Str} {XP:(Str→Option Value)→Heap→Prop} {YP:World→Heap→Prop} {d:DefRec} {K:Params→PySem.W.Frag} {CX:World→CXT} {sp:World→Sp} {x:Str}
  (hn:l.most=some n) (hn2:n≤sizeLine) (hdf:d.params.defaults=[]) (hr:qbW k callerA)
  (hY: ∀(w:World) (h:Heap),YP w h→(K w.params).In h)
  (F: ∀(w:World) (mg:Str→Option Value) (fa:Addr) (h:Heap),(K w.params).In h→h.Ns mainGlobals mg→mg d.name=some (.ref fa)→
   ∃fd:FuncData,(∀(s:Shared) (u:Value),BindsTo s fd ⟨[u],[]⟩ [(x,u)])∧
    ∀base:Heap,(K w.params).In base→base.Ns mainGlobals mg→qbe l.prog w (K w.params) mg base (CX w) k fa fd [x] (sp w))
  (hsp: ∀(w:World) (H:Hp) (a:Addr) (ns:List Int),ns.length≤n→qtk H→SqL (K w.params) H a (ns.map V.int)→sp w [.ref a] H (fun v _=>v= .bl true) fun _ _ _=>False)
  (hCX: ∀(w:World) (H:Hp) (s:Shared) (e:Value) (s':Shared),CX w [] H s (fun _ _ _=>False) e s'→False):
  PySem.W.WalkO q loose XP YP l.row.toRowW d [] (fun f vs=>PySem.call f vs):=by
 refine Att.attach_call hn hdf fun w s₀ s₁ mg mb fa o pm cd doc a vs ns G Y ho hd hcd hmg hobj hints hlen hg=> ?_
 have KX:=hY w _ Y
 obtain ⟨fd,hb,hF⟩:=F w mg fa _ KX G.T.g hmg
 exact qmp KX G.T.g G.T.b G.T.builtins G.T.nolimit hg hobj hints (Nat.le_trans hlen hn2) hr hF hb (fun H hO hS=>hsp w H a ns hlen hO hS) fun H e s'=>hCX w H s₁ e s'
end L2
namespace L2
open PySem PySem.Spec PyProof.Rows
def qbJ (s:Stmt):Arguments:=match s with
 | .FunctionDef _ a _ _ _ _ _ _ _ _=>a
 | _=>{ posonlyargs:=[],args:=[],vararg:=none,kwonlyargs:=[],kw_defaults:=[],kwarg:=none,defaults:=[] }
def qbd (s:Stmt):List Stmt:=match s with
 | .FunctionDef _ _ b _ _ _ _ _ _ _=>b
 | _=>[]
def qaf (s:Stmt):Scope:=match s with
 | .FunctionDef _ _ _ _ _ _ sc _ _ _=>sc
 | _=>{ kind:=.function,names:=[],isGenerator:=false,isCoroutine:=false }
abbrev CX0:CXT:=fun _ _ _ _ _ _=>False
abbrev E0:XK:=fun _ _ _=>False
theorem qsm {X:Cx}:qgr CX0 X E0:=fun _ _ _ _ _ _ _ h=>h.elim
structure Fun (K:PySem.W.Frag) (x qual:Str) (st:Stmt) (f:Addr) (fd:FuncData):Prop where
 ex: ∃(oc:Value) (od:Option Addr) (kV doc pm:Value) (an:Option Addr) (cdv ct:Value) (osl:Array (Option Value)),
  fd=PySem.W.fnOf x qual (qbJ st) (qbd st) (qaf st) .none kV doc pm an cdv ct∧K.lookup f=some ⟨oc,od,.func fd,osl⟩∧PySem.W.codeIn K cdv qual=true
 kp:PySem.W.keepIn K (.ref f)=true
section
variable {P:Program} {w:World} {K:PySem.W.Frag} {mg:Str→Option Value} {base:Heap}
theorem Fun.ok {x qual:Str} {st:Stmt} {f:Addr} {fd:FuncData} {N ps:List Str} {k:Nat} {sp:Sp} (F:Fun K x qual st f fd) (S:qav N ps (qaf st)) (len: ∀vs H Q E,sp vs H Q E→vs.length=ps.length)
  (hbody: ∀(cdv:Value) (A:Around) (outer:List Env) (s:Shared) (H:Hp) (vs:List V) (Q:VK) (E:XK),qbW k (A.deeper (envOfC qual (qaf st) s.heap.objs.size f cdv))→sp vs H Q E→
   ∃t,PSs (qmU CX0 P w K mg base N qual (qaf st) f cdv A outer s H E).nox (qbd st) t∧t { nx:=fun _ H'=>Q .non H',rt:=Q } (start N vs) H):qbe P w K mg base CX0 (k+1) f fd ps sp:=by
 obtain ⟨oc,od,kV,doc,pm,an,cdv,ct,osl,rfl,lk,hcd⟩:=F.ex
 refine qs4 lk hcd S len fun A outer s H vs Q E hr hsp=> ?_
 obtain ⟨t,h,q⟩:=hbody cdv A outer s H vs Q E hr hsp
 exact ⟨t,h.nox,q⟩
theorem Fun.binds {x qual:Str} {st:Stmt} {f:Addr} {fd:FuncData} {ps:List Str} (F:Fun K x qual st f fd)
  (h: ∀(kV doc pm:Value) (an:Option Addr) (cdv ct:Value) (us:List Value),us.length=ps.length→bindArgs (PySem.W.fnOf x qual (qbJ st) (qbd st) (qaf st) .none kV doc pm an cdv ct) ⟨us,[]⟩=pure (ps.zip us)):qdy K fd ps []:=by
 obtain ⟨oc,od,kV,doc,pm,an,cdv,ct,osl,rfl,lk,hcd⟩:=F.ex
 exact .all (h kV doc pm an cdv ct)
theorem qeQ {x qual:Str} {st:Stmt} {f:Addr} {oc:Value} {od an:Option Addr} {osl:Array (Option Value)} {kV doc pm cdv ct:Value} (l:K.lookup f=some ⟨oc,od,.func (PySem.W.fnOf x qual (qbJ st) (qbd st) (qaf st) .none kV doc pm an cdv ct),osl⟩)
  (c:PySem.W.codeIn K cdv qual=true) (k:PySem.W.keepIn K (.ref f)=true):Fun K x qual st f (PySem.W.fnOf x qual (qbJ st) (qbd st) (qaf st) .none kV doc pm an cdv ct):=⟨⟨oc,od,kV,doc,pm,an,cdv,ct,osl,rfl,l,c⟩,k⟩
end
theorem qa3 {n:Nat} (h:n≤1000):n<sizeLine:=Nat.lt_of_le_of_lt h (by decide)
section
variable {X:Cx}
theorem pv (i:Nat) {x:Str} {pos:Pos} (hN:X.N[i]? =some x:=by rfl) (hv:Vis X.env.scope x:=by first | exact Or.inl rfl | exact Or.inr (Or.inl rfl) | exact Or.inr (Or.inr rfl)) (hd:(x==("__debug__" :Str))=false:=by decide)
  (hcd:(x==("__classdict__" :Str))=false:=by decide):PE X (.Name x pos) (qho i):=qqf hN hv hd hcd
end
theorem qqF {A B:Prop} (h:B):if false=true then A else B:=by
 rw[if_neg Bool.false_ne_true]
 exact h
theorem qqD {A B:Prop} (h:A):if true=true then A else B:=by
 rw[if_pos rfl]
 exact h
def qm4 (H H':Hp):Prop:= ∀b o,H b=some o→H' b=some o
theorem qm4.refl (H:Hp):qm4 H H:=fun _ _ h=>h
theorem qm4.seq {K:PySem.W.Frag} {H H':Hp} {a:Addr} {xs:List V} (e:qm4 H H') (h:SqL K H a xs):SqL K H' a xs:=by
 rcases h with (h | ⟨o,h⟩) | h
 ·exact .inl (.inl (e _ _ h))
 ·exact .inl (.inr ⟨o,e _ _ h⟩)
 ·exact .inr h
end L2
end
section
namespace L2
open PySem PySem.Spec PyProof.Rows
def qla (env:Env):List (Str×NameKind)→List (Str×Addr)→List (Str×Addr)
 | [],acc=>acc
 | x::r,acc=>qla env r (if x.2== .free then (match env.cells.lookup x.1 with | some a=>(x.1,a)::acc | none=>acc) else acc)
theorem qeU {env:Env}: ∀(names:List (Str×NameKind)) (acc:List (Str×Addr)),(∀x∈names,x.2= .free→∃c,env.cells.lookup x.1=some c)→
  (forIn names acc fun x r=>(match x with | (name,kind)=>if (kind==NameKind.free)=true then do let a ←cellOf env name; pure (ForInStep.yield ((name,a)::r)) else pure (ForInStep.yield r):Sem (ForInStep (List (Str×Addr)))))=pure (qla env names acc)
 | [],acc,_=>by rw[List.forIn_nil]; rfl
 | (n,k)::r,acc,h=>by
  rw[List.forIn_cons]
  have ih:=fun acc'=>qeU (env:=env) r acc' fun x hx=>h x (List.mem_cons_of_mem _ hx)
  by_cases hk:(k==NameKind.free)=true
  ·have hk':k= .free:=by simpa using hk
   obtain ⟨c,hc⟩:=h (n,k) List.mem_cons_self hk'
   simp only[hk,if_true,cellOf,hc,qla]
   exact ih _
  ·simp only[hk,if_false,qla]
   exact ih _
theorem qiS {scope:Scope} {env:Env} (h: ∀x∈scope.names,x.2= .free→∃c,env.cells.lookup x.1=some c):closureFor scope env=pure (qla env scope.names []):=by
 have e:=qeU (env:=env) scope.names [] h
 unfold closureFor
 exact (congrArg (fun m=>m>>=fun r=>pure r) e)
theorem qid {env:Env} {x:Str} {c:Addr}: ∀(names:List (Str×NameKind)) (acc:List (Str×Addr)),(∀y d,acc.lookup y=some d→env.cells.lookup y=some d)→
  (qla env names acc).lookup x=some c→env.cells.lookup x=some c
 | [],acc,ha,h=>ha x c h
 | (n,k)::r,acc,ha,h=>by
  refine qid r _ (fun y d hy=> ?_) h
  dsimp only at hy
  by_cases hk:(k==NameKind.free)=true
  ·rw[if_pos hk] at hy
   cases e:env.cells.lookup n with
   | none=>rw[e] at hy; exact ha y d hy
   | some a=>
    rw[e] at hy
    dsimp only at hy
    rw[List.lookup_cons] at hy
    cases hb:y==n with
    | true=>
     rw[hb] at hy
     have e1:y=n:=eq_of_beq hb
     subst e1
     rw[e]; exact hy
    | false=>rw[hb] at hy; exact ha y d hy
  ·rw[if_neg hk] at hy
   exact ha y d hy
theorem qev {env:Env} {x:Str} {c:Addr}: ∀(names:List (Str×NameKind)) (acc:List (Str×Addr)),env.cells.lookup x=some c→(acc.lookup x=some c∨(x,NameKind.free)∈names)→
  (qla env names acc).lookup x=some c
 | [],acc,hc,h=>by
  rcases h with h | h
  ·exact h
  ·cases h
 | (n,k)::r,acc,hc,h=>by
  refine qev r _ hc ?_
  dsimp only
  by_cases hk:(k==NameKind.free)=true
  ·rw[if_pos hk]
   by_cases hn:x=n
   ·subst hn
    rw[hc]
    exact .inl (by simp[List.lookup_cons])
   ·have hb:(x==n)=false:=by simpa using hn
    cases e:env.cells.lookup n with
    | none=>
     rcases h with h | h
     ·exact .inl h
     ·rcases List.mem_cons.mp h with h | h
      ·cases h; exact absurd rfl hn
      ·exact .inr h
    | some a=>
     dsimp only
     rcases h with h | h
     ·exact .inl (by rw[List.lookup_cons,hb]; exact h)
     ·rcases List.mem_cons.mp h with h | h
      ·cases h; exact absurd rfl hn
      ·exact .inr h
  ·rw[if_neg hk]
   rcases h with h | h
   ·exact .inl h
   ·rcases List.mem_cons.mp h with h | h
    ·cases h; exact absurd rfl hk
    ·exact .inr h
theorem qcc {env:Env} {x:Str} {k:NameKind}: ∀{names:List (Str×NameKind)},(∀y∈names,y.2≠.cell)→k= .cell∨k= .free→
  (names.map fun (n,k)=>if (k==NameKind.free&&env.scope.kind== .function&&env.kindOf n==some .cell) then (n,NameKind.cell) else (n,k)).lookup x=some k→names.lookup x=some .free
 | [],_,_,h=>by simp at h
 | (n,k')::r,hc,hk,h=>by
  have ih:=@qcc env x k r (fun y hy=>hc y (List.mem_cons_of_mem _ hy)) hk
  rw[List.map_cons] at h
  dsimp only at h
  by_cases hf:(k'==NameKind.free&&env.scope.kind== .function&&env.kindOf n==some .cell)=true
  ·rw[if_pos hf] at h
   have hk':k'= .free:=by
    have:=hf; simp only[Bool.and_eq_true,beq_iff_eq] at this; exact this.1.1
   subst hk'
   cases hx:x==n with
   | true=>simp[List.lookup_cons,hx]
   | false=>
    simp only[List.lookup_cons,hx] at h⊢
    exact ih h
  ·rw[if_neg hf] at h
   cases hx:x==n with
   | true=>
    simp only[List.lookup_cons,hx] at h⊢
    cases h
    have hne:=hc (n,k) List.mem_cons_self
    rcases hk with e | e
    ·exact absurd e hne
    ·rw[e]
   | false=>
    simp only[List.lookup_cons,hx] at h⊢
    exact ih h
theorem qdA {env:Env} {x:Str}: ∀{names:List (Str×NameKind)},names.lookup x=some .free→
  let m:=(names.map fun (n,k)=>if (k==NameKind.free&&env.scope.kind== .function&&env.kindOf n==some .cell) then (n,NameKind.cell) else (n,k)).lookup x
  m=some .cell∨m=some .free
 | [],h=>by simp at h
 | (n,k)::r,h=>by
  have ih:=@qdA env x r
  dsimp only at ih⊢
  rw[List.map_cons]
  dsimp only
  cases hx:x==n with
  | true=>
   simp only[List.lookup_cons,hx] at h
   cases h
   by_cases hf:(NameKind.free==NameKind.free&&env.scope.kind== .function&&env.kindOf n==some .cell)=true
   ·rw[if_pos hf]; exact .inl (by simp[List.lookup_cons,hx])
   ·rw[if_neg hf]; exact .inr (by simp[List.lookup_cons,hx])
  | false=>
   simp only[List.lookup_cons,hx] at h
   by_cases hf:(k==NameKind.free&&env.scope.kind== .function&&env.kindOf n==some .cell)=true
   ·rw[if_pos hf]; simp only[List.lookup_cons,hx]; exact ih h
   ·rw[if_neg hf]; simp only[List.lookup_cons,hx]; exact ih h
def qa4 (X:Cx) (scope:Scope) (own:List Str) (fr:List (Str×Nat)) (fp:List Addr) (s3:Shared) (H3:Hp):Cx where
 prog:=X.prog
 w:=X.w
 K:=X.K
 mg:=X.mg
 base:=X.base
 A:=X.A
 N:=own++fr.map (·.1)
 s₀:=s3
 H₀:=H3
 env:=compEnvC scope (qla X.env scope.names []) s3.heap.objs.size X.env
 outer:=X.stack
 stack:=X.stack
 ex:=fp
 calm:=X.calm
 fn:=fun _=>false
 pn:=[]
 xe:=fun _ _=>False
def qd3 (own:List Str) (fr:List (Str×Nat)) (σ:St):St:=own.map (fun _=>none)++fr.map fun p=>(σ[p.2]?).join
def qm5 (Y:Cx) (ifs:List Expr) (tt:TT):Prop:=
 ∀(pins:List (Addr×Obj)) (s:Shared) (σ:St) (H:Hp) (Q:Bool→Hp→Prop),Inv Y pins σ H s→tt σ H Q→
  wpAny (model Y.prog Y.w) Y.A (forIn ifs true fun c r=>if r=true then do let ok ←isTrue c Y.env (eval c Y.env); pure (ForInStep.yield ok) else pure (ForInStep.yield r)) (TP Y pins σ Q) Y.xe s
def qnZ:TT:=fun _ H Q=>Q true H
theorem ql7 {Y:Cx}:qm5 Y [] qnZ:=fun _ _ _ H _ I h=>wpAny_tests_nil ⟨H,I,h⟩
theorem ql6 {Y:Cx} {c:Expr} {t:TT} (h:PT Y c t):qm5 Y [c] t:=fun pins s σ H Q I q=>wpAny_tests_one (h pins s σ H Q I q)
theorem fls {α:Type} {t:Sem α} {Q Q':α→Shared→Prop} {M:Model} {A:Around} {E:Value→Shared→Prop} {s:Shared} (h:wpAny M A t Q (fun _ _=>False) s) (hQ: ∀a s,Q a s→Q' a s):wpAny M A t Q' E s:=
 wpAny_mono h hQ fun _ _ x=>x.elim
section
variable {prog:Program} {w:World} {A:Around} {R:Result→Shared→Prop} {s:Shared}
theorem qiY {elt tg iter:Expr} {ifs:List Expr} {scope:Scope} {pos:Pos} {it acc:Value} {env:Env} (J:Nat→Shared→Prop)
  (qm9: ∀n s,J n s→wpAny (model prog w) A (pyNext it) (fun r s1=>match r with
   | none=>R (.ok .next) s1
   | some v=>wpAny (model prog w) A (letOwnedTupleGo tg it v) (fun _ s2=>wpAny (model prog w) A (assign tg env v) (fun _ s3=>
     wpAny (model prog w) A (forIn ifs true fun c r=>if r=true then do let ok ←isTrue c env (eval c env); pure (ForInStep.yield ok) else pure (ForInStep.yield r)) (fun ok s4=>
      if ok=true then wpAny (model prog w) A (eval elt env) (fun x s5=>wpAny (model prog w) A (call (.builtin "list.append") [acc,x]) (fun _ s6=> ∃m,m<n∧J m s6) (fun _ _=>False) s5) (fun _ _=>False) s4
      else ∃m,m<n∧J m s4) (fun _ _=>False) s3) (fun _ _=>False) s2) (fun _ _=>False) s1) (fun _ _=>False) s)
  (n:Nat) (h:J n s):codeAny (model prog w) A (.compLoop (.ListComp elt [⟨tg,iter,ifs,0⟩] scope pos) 0 it acc env) R s:=by
 refine codeAny_loop rfl J (fun n s hJ=> ?_) n h
 show wpAny _ A ((compTurn (.ListComp elt [⟨tg,iter,ifs,0⟩] scope pos) 0 it acc env).onRaise (fun x=>do noteFrame x env; theTreesLotGoes x)) _ _ s
 refine wpAny_noted ?_
 rw[compTurn_list]
 refine wpAny_bind (wpAny_standAt (wpAny_bind (fls (qm9 n s hJ) fun r s1 h1=> ?_)))
 cases r with
 | none=>exact wpAny_pure h1
 | some v=>
  refine wpAny_bind (fls h1 fun _ s2 h2=>wpAny_bind (fls h2 fun _ s3 h3=>wpAny_bind (fls h3 fun ok s4 h4=> ?_)))
  cases ok with
  | false=>exact wpAny_pure ⟨rfl,h4⟩
  | true=>exact wpAny_bind (wpAny_bind (fls h4 fun x s5 h5=>wpAny_bind (fls h5 fun _ s6 h6=>wpAny_pure (wpAny_pure ⟨rfl,h6⟩))))
end
end L2
end
section
namespace L2
open PySem PySem.Spec PyProof.Rows
def qrb (J:It) (D:Addr) (g:TG) (tt:TT) (te:TE) (σ0:St) (H0:Hp) (Q:Addr→Hp→Prop):Prop:=
 ∃W:Nat→Nat→St→Hp→Prop,(∃m,W 0 m σ0 H0)∧∀i m σ1 H2,W i m σ1 H2→
  (J.stop i H2∧Q D H2)∨(J.go i H2∧∃(Ny:St→V→Hp→Prop) (Nn:St→Hp→Prop),
   (∀σ2 y H6,Ny σ2 y H6→∃ys,H6 D=some (.lst ys)∧ys.length<sizeLine∧∃m',m'<m∧W (i+1) m' σ2 (upd H6 D (.lst (ys++[y]))))∧
   (∀σ2 H5,Nn σ2 H5→∃m',m'<m∧W (i+1) m' σ2 H5)∧
   ∀x H3,J.yld i H2 x H3→g x σ1 H3 fun σ2 H4=>tt σ2 H4 fun b H5=>if b=true then te σ2 H5 (Ny σ2) else Nn σ2 H5)
def qhp (wi:TI) (g:TG) (tt:TT) (te:TE) (own:List Str) (fr:List (Str×Nat)) (σ:St) (H:Hp) (Q:Addr→Hp→Prop):Prop:=
 wi σ H fun J H1=> ∀D,H1 D=none→qrb J D g tt te (qd3 own fr σ) (upd H1 D (.lst [])) Q
section
variable {X:Cx} {elt tg iter:Expr} {ifs:List Expr} {scope:Scope} {pos ppos:Pos} {own:List Str} {fr:List (Str×Nat)} {wi:TI} {g:TG} {tt:TT} {te:TE}
theorem qgc {use:Option (Value→Sem Unit)} {Qf:Value→Shared→Prop} {pins:List (Addr×Obj)} {σ:St} {H:Hp} {s:Shared} {Q:Addr→Hp→Prop}
  (hc:X.calm=true) (hi:PI X tg iter wi) (hk:scope.kind= .function) (hcell: ∀y∈scope.names,y.2≠.cell) (hnames: ∀y∈scope.names,y.2= .local→scope.names.lookup y.1=some .local)
  (hfree: ∀y∈scope.names,y.2= .free→X.env.kindOf y.1=some .cell∨X.env.kindOf y.1=some .free) (hfr: ∀p∈fr,X.N[p.2]? =some p.1∧scope.names.lookup p.1=some .free)
  (hb: ∀(fp:List Addr) (s3:Shared) (H3:Hp),PG (qa4 X scope own fr fp s3 H3) tg g∧qm5 (qa4 X scope own fr fp s3 H3) ifs tt∧PE (qa4 X scope own fr fp s3 H3) elt te)
  (hs: ∀x,foldedSetIterable iter X.env x=pure x) (I:Inv X pins σ H s) (h:qhp wi g tt te own fr σ H Q)
  (fin: ∀(D C:Addr) (H':Hp) (s':Shared) (m:Str→Option Value),Inv X pins σ H' s'→qhh X pins H' C→s'.heap.Ns C m→Q D H'→compPost (model X.prog X.w) X.A X.xe use Qf (.ref D) C (.ok .next) s'):
  wpAny (model X.prog X.w) X.A (comprehension (.ListComp elt [⟨tg,iter,ifs,0⟩] scope pos) scope X.env ppos (newList []) false (eval iter X.env) use) Qf X.xe s:=by
 have hcel: ∀x∈scope.names,x.2= .free→∃c,X.env.cells.lookup x.1=some c:=fun x hx e=>I.ok.has x.1 (hfree x hx e)
 refine wpAny_comprehension_free (cl:=qla X.env scope.names []) rfl hs (qiS hcel) hk hnames ?_
 refine thn (hi pins s σ H _ I h) fun xv s1 h1=>thn h1 fun itv s2 h2=> ?_
 obtain ⟨it,fp,tn,J,H2,rfl,I2,T,st2,f2,h2⟩:=h2
 refine wpAny_newObj_type (hd:=by size_fits) ?_
 generalize hD:s2.heap.objs.size=D
 have I3:Inv X pins σ (upd H2 D (.lst [])) { s2 with heap:=s2.heap.push { cls:=.type "list",dict:=none,data:=.seq ([]:List Value).toArray } }:=by
  rw[←hD]
  exact I2.lnew (its:=[]) (ys:=[]) (t':=s2.toks) .nil (Nat.zero_le _)
 have nD:H2 D=none:=I2.hok.fresh (Nat.le_of_eq hD)
 obtain ⟨W,⟨m0,w0⟩,qm9⟩:=h2 D nD
 have f3: ∀b∈fp,b<s2.heap.objs.size∧qhh X pins (upd H2 D (.lst [])) b:=fun b hb=>by
  obtain ⟨o,e,_⟩:=T.obj _ _ st2 b hb
  have lt:=Heap.lt_size e
  exact ⟨lt,by rw[qag (by rw[←hD]; exact Nat.ne_of_lt lt)]; exact (f2 b hb).1,(f2 b hb).2⟩
 have st3:tn 0 (s2.heap.push { cls:=.type "list",dict:=none,data:=.seq ([]:List Value).toArray }):=T.keep _ _ _ st2 fun b _ o e=>Heap.get?_push_of_some _ e
 generalize hs3:({ s2 with heap:=s2.heap.push { cls:=.type "list",dict:=none,data:=.seq ([]:List Value).toArray } }:Shared)=s3 at I3⊢
 have hh3:s3.heap=s2.heap.push { cls:=.type "list",dict:=none,data:=.seq ([]:List Value).toArray }:=by rw[←hs3]
 rw[←hh3] at st3
 have sz3:s3.heap.objs.size=s2.heap.objs.size+1:=by rw[hh3,Heap.size_push]
 generalize hH3:upd H2 D (.lst [])=H3 at I3 w0 f3
 refine wpAny_newFunctionEnv hcell (by intro y hy; simp at hy) (fun h4 hn4 hs4=> ?_) hk
 have old4: ∀b o,s3.heap.get? b=some o→h4.get? b=some o:=fun b o e=>
  (hs4.2 b (Nat.ne_of_lt (Heap.lt_size e))).trans (Heap.get?_push_of_some _ e)
 generalize hs4':({ s3 with heap:=h4,toks:=s3.toks+([]:List (Str×Value)).length }:Shared)=s4
 have hh4:s4.heap=h4:=by rw[←hs4']
 have cl_sub: ∀x c,(qla X.env scope.names []).lookup x=some c→X.env.cells.lookup x=some c:=fun x c=>qid _ _ (fun _ _ z=>by cases z)
 have Y0:Inv (qa4 X scope own fr fp s3 H3) [] (qd3 own fr σ) H3 s4:=by
  refine ⟨⟨I3.ok.mod,hk,I3.ok.glob,I3.ok.blt,Nat.le_refl _,fun x y c h1 h2=>I3.ok.inj x y c (cl_sub x c h1) (cl_sub y c h2),fun x hx=> ?_,fun x c z=>absurd (show false=true from z) Bool.false_ne_true,I3.ok.hd,I3.ok.frames,.inl rfl,fun b hb=>⟨?_,fun x c e=>(f3 b hb).2.2.2.2.2.1 x c (cl_sub x c e)⟩,
   I3.bs,Nat.le_trans I3.ok.bsz I3.sz,fun b o e hb=> ?_,fun b hb z=> ?_,I3.stack,I3.stkFree⟩,by rw[←hs4']; rfl,by rw[←hs4']; exact I3.bare,?_,⟨_,by rw[hh4]; exact hn4,fun i x v e1 e2 e3=> ?_⟩,fun x c e=> ?_,I3.hok.fresh (Nat.le_refl _),fun x c e=>I3.freeC x c (cl_sub x c e),fun p hp=>absurd (show p∈([]:List (Addr×Obj)) from hp) (by simp),?_,?_⟩
  ·have hx':(relabel scope X.env).names.lookup x=some .cell∨(relabel scope X.env).names.lookup x=some .free:=hx
   have hf:scope.names.lookup x=some .free:=by
    rcases hx' with z | z
    ·exact qcc hcell (.inl rfl) z
    ·exact qcc hcell (.inr rfl) z
   obtain ⟨c,hc⟩:=hcel (x,.free) (PySem.mem_of_lookup hf) rfl
   exact ⟨c,qev _ _ hc (.inr (PySem.mem_of_lookup hf))⟩
  ·have:=(f3 b hb).1
   exact Nat.ne_of_lt (Nat.lt_of_lt_of_le this (show s2.heap.objs.size≤s3.heap.objs.size by rw[sz3]; exact Nat.le_succ _))
  ·rcases (f3 b hb).2.2.2.2.1 with z | z
   ·exact I3.ok.noex b o e z
   ·exact absurd (Nat.lt_of_lt_of_le (Heap.lt_size (I3.ok.bs b o e).1) z) (Nat.lt_irrefl _)
  ·rcases List.mem_cons.mp (I3.stkSub b z) with q | q
   ·exact (f3 b hb).2.2.1 q
   ·exact (f3 b hb).2.2.2.1 q
  ·exact Un.kept (by rw[hh4]; exact old4)
  ·
   have hi':own.length≤i:=by
    by_cases q:own.length≤i
    ·exact q
    ·exfalso
     have e2':(own.map (fun _=>(none:Option V))++fr.map fun p=>(σ[p.2]?).join)[i]? =some (some v):=e2
     rw[List.getElem?_append_left (by simpa using q),List.getElem?_map] at e2'
     cases q2:own[i]? with
     | none=>rw[q2] at e2'; cases e2'
     | some z=>rw[q2] at e2'; cases e2'
   have e2':(own.map (fun _=>(none:Option V))++fr.map fun p=>(σ[p.2]?).join)[i]? =some (some v):=e2
   rw[List.getElem?_append_right (by simpa using hi'),List.getElem?_map,List.length_map] at e2'
   have e1':(own++fr.map (·.1))[i]? =some x:=e1
   rw[List.getElem?_append_right hi',List.getElem?_map] at e1'
   cases q2:fr[i - own.length]? with
   | none=>rw[q2] at e2'; cases e2'
   | some p=>
    rw[q2] at e1' e2'
    obtain rfl:p.1=x:=Option.some.inj e1'
    have e4:(σ[p.2]?).join=some v:=Option.some.inj e2'
    have e5:σ[p.2]? =some (some v):=by
     cases q3:σ[p.2]? with
     | none=>rw[q3] at e4; cases e4
     | some z=>rw[q3] at e4; exact congrArg some e4
    obtain ⟨g1,g2⟩:=hfr p (List.mem_of_getElem? q2)
    have kx:=hfree (p.1,.free) (PySem.mem_of_lookup g2) rfl
    obtain ⟨mX,hnX,hlX⟩:=I3.loc
    obtain ⟨u,ru,lu⟩:=hlX p.2 p.1 v g1 e5 (kx.elim (fun z=>.inr (.inl z)) fun z=>.inr (.inr z))
    refine ⟨u,ru,.inr ⟨qdA g2,?_⟩⟩
    rcases lu with ⟨z,_⟩ | ⟨_,c,e6,e7⟩
    ·rcases kx with kx | kx
     ·rw[kx] at z; cases z
     ·rw[kx] at z; cases z
    ·obtain ⟨oc,hoc,hd⟩:=e7
     exact ⟨c,qev _ _ e6 (.inr (PySem.mem_of_lookup g2)),oc,by rw[hh4]; exact old4 _ _ hoc,hd⟩
  ·obtain ⟨v,oc,hoc,hd⟩:=I3.cell x c (cl_sub x c e)
   exact ⟨v,oc,by rw[hh4]; exact old4 _ _ hoc,hd⟩
  ·exact I3.hok.kept (by rw[hh4]; exact old4)
  ·show (own.map (fun _=>(none:Option V))++fr.map fun p=>(σ[p.2]?).join).length=(own++fr.map (·.1)).length
   simp
 have fY: ∀{H':Hp},(∀b∈fp,H' b=none)→∀b∈fp,qhh (qa4 X scope own fr fp s3 H3) [] H' b:=fun {H'} hn b hb=>
  ⟨hn b hb,(Y0.ok.exf b hb).1,Y0.ok.exfs b hb,.inl hb,(Y0.ok.exf b hb).2,fun p hp=>absurd (show p∈([]:List (Addr×Obj)) from hp) (by simp)⟩
 have st4:tn 0 s4.heap:=T.keep _ _ _ st3 (by rw[hh4]; exact fun b _ o e=>old4 b o e)
 have hcY:(qa4 X scope own fr fp s3 H3).calm=true:=hc
 obtain ⟨hg,ht,he⟩:=hb fp s3 H3
 have loop:codeAny (model X.prog X.w) X.A (.compLoop (.ListComp elt [⟨tg,iter,ifs,0⟩] scope pos) 0 (.ref it) (.ref D) (compEnvC scope (qla X.env scope.names []) s3.heap.objs.size X.env)) (compPost (model X.prog X.w) X.A X.xe use Qf (.ref D) s3.heap.objs.size) s4:=by
  refine qiY (fun n s'=> ∃i σ' H',Inv (qa4 X scope own fr fp s3 H3) [] σ' H' s'∧tn i s'.heap∧(∀b∈fp,H' b=none)∧W i n σ' H') ?_ m0 ⟨0,_,_,Y0,st4,fun b hb=>(f3 b hb).2.1,w0⟩
  rintro n s5 ⟨i,σ5,H5,I5,st5,fr5,w5⟩
  rcases qm9 i n σ5 H5 w5 with ⟨stop,q⟩ | ⟨go,Ny,Nn,hNy,hNn,step⟩
  ·refine thn (T.done (qa4 X scope own fr fp s3 H3) rfl rfl rfl hcY i [] s5 σ5 H5 _ I5 (fY fr5) st5 stop) fun r s6 hq127=> ?_
   obtain ⟨hr,I6⟩:=hq127
   subst hr
   have IX:Inv X pins σ H5 s6:=I3.call' (ch:=fp) I6.os I6.base I6.hok I6.bare fun b hb=>⟨(f3 b hb).2.2.2.2.1,(f3 b hb).2.2.1,(f3 b hb).2.2.2.2.2.1,(f3 b hb).2.2.2.2.2.2⟩
   obtain ⟨m6,hn6,_⟩:=I6.loc
   exact fin D _ H5 s6 m6 IX (I3.fpOk (Nat.le_refl _) I6.free) hn6 q
  ·refine thn (T.item (qa4 X scope own fr fp s3 H3) rfl rfl rfl hcY i [] s5 σ5 H5 _ I5 (fY fr5) st5 go) fun r s6 hq132=> ?_
   obtain ⟨u,hr,h6⟩:=hq132
   subst hr
   refine thn h6 fun _ s7 hq134=> ?_
   obtain ⟨x,H7,I7,r7,y7,st7,fr7⟩:=hq134
   have I7':=I7.pinned (fY fr7) (T.obj _ _ st7)
   refine thn (hg _ s7 σ5 H7 x u _ I7' r7 (step x H7 y7)) fun _ s8 hq136=> ?_
   obtain ⟨σ8,H8,I8,q8⟩:=hq136
   refine thn (ht _ s8 σ8 H8 _ I8 q8) fun b s9 hq137=> ?_
   obtain ⟨H9,I9,q9⟩:=hq137
   have again: ∀{s':Shared} {H':Hp} {m':Nat},Inv (qa4 X scope own fr fp s3 H3) ([]++qfG fp s7.heap) σ8 H' s'→m'<n→W (i+1) m' σ8 H'→∃m,m<n∧∃i σ' H',Inv (qa4 X scope own fr fp s3 H3) [] σ' H' s'∧tn i s'.heap∧(∀b∈fp,H' b=none)∧W i m σ' H':=fun {s' H' m'} I' hm w'=>by
    refine ⟨m',hm,i+1,σ8,H',I'.unpinned,T.keep _ _ _ st7 fun b hb o e=>(I'.pin (b,o) (List.mem_append_right _ (List.mem_append_right _ (qco hb e)))).1,fun b hb=> ?_,w'⟩
    obtain ⟨o,e,d⟩:=T.obj _ _ st7 b hb
    exact (I'.pin (b,o) (List.mem_append_right _ (List.mem_append_right _ (qco hb e)))).2.1
   cases b with
   | false=>
    obtain ⟨m',hm,w'⟩: ∃m',m'<n∧W (i+1) m' σ8 H9:=hNn σ8 H9 (by simpa using q9)
    show ∃m,_
    exact again I9 hm w'
   | true=>
    have q9':te σ8 H9 (Ny σ8):=by simpa using q9
    show wpAny _ _ _ _ _ _
    refine thn (he _ s9 σ8 H9 _ I9 q9') fun xv s10 hq150=> ?_
    obtain ⟨y,H10,I10,r10,q10⟩:=hq150
    obtain ⟨ys,hys,hlen,m',hm,w'⟩:=hNy σ8 y H10 q10
    refine thn (qcf _ s10 σ8 H10 (.ref D) [y] (.ref D) [xv] (fun _ H'=> ∃m',m'<n∧W (i+1) m' σ8 H') I10 rfl (.cons r10 .nil) ⟨D,ys,y,rfl,rfl,hys,hlen,m',hm,w'⟩) fun _ s11 hq152=> ?_
    obtain ⟨_,H11,I11,_,m2,hm2,w2⟩:=hq152
    exact again I11 hm2 w2
 refine codeAny_compStart_list ?_ ?_
 ·exact loop
 ·exact T.self X.A 0 s4 _ _ st4 loop
theorem qon (hc:X.calm=true) (hi:PI X tg iter wi) (hk:scope.kind= .function) (hcell: ∀y∈scope.names,y.2≠.cell) (hnames: ∀y∈scope.names,y.2= .local→scope.names.lookup y.1=some .local)
  (hfree: ∀y∈scope.names,y.2= .free→X.env.kindOf y.1=some .cell∨X.env.kindOf y.1=some .free) (hfr: ∀p∈fr,X.N[p.2]? =some p.1∧scope.names.lookup p.1=some .free)
  (hb: ∀(fp:List Addr) (s3:Shared) (H3:Hp),PG (qa4 X scope own fr fp s3 H3) tg g∧qm5 (qa4 X scope own fr fp s3 H3) ifs tt∧PE (qa4 X scope own fr fp s3 H3) elt te)
  (hs: ∀x,foldedSetIterable iter X.env x=pure x:=by intro _; rfl):
  PE X (.ListComp elt [⟨tg,iter,ifs,0⟩] scope pos) (fun σ H Q=>qhp wi g tt te own fr σ H fun D H'=>Q (.ref D) H'):=by
 intro pins s σ H Q I h
 rw[eval_ListComp]
 refine qgc (use:=none) hc hi hk hcell hnames hfree hfr hb hs I h fun D C H' s' m I' f' hn q=> ?_
 obtain ⟨f0,f1,f2,f3,f4,f5⟩:=f'
 exact ⟨m,hn,fun h' hs'=>⟨.ref D,H',I'.turned (t':=s'.toks) (fun b o hb e=>(hs'.2 b hb).trans e) f0 f1 f3 f4 f5,rfl,q⟩⟩
theorem ps_setcomp {i:Nat} {y:Str} {py spos:Pos} (hc:X.calm=true) (hi:PI X tg iter wi) (hk:scope.kind= .function) (hcell: ∀y∈scope.names,y.2≠.cell) (hnames: ∀y∈scope.names,y.2= .local→scope.names.lookup y.1=some .local)
  (hfree: ∀y∈scope.names,y.2= .free→X.env.kindOf y.1=some .cell∨X.env.kindOf y.1=some .free) (hfr: ∀p∈fr,X.N[p.2]? =some p.1∧scope.names.lookup p.1=some .free)
  (hb: ∀(fp:List Addr) (s3:Shared) (H3:Hp),PG (qa4 X scope own fr fp s3 H3) tg g∧qm5 (qa4 X scope own fr fp s3 H3) ifs tt∧PE (qa4 X scope own fr fp s3 H3) elt te)
  (hN:X.N.Nodup) (hiN:X.N[i]? =some y) (hy:X.env.scope.names.lookup y=some .local)
  (hsw:swapsWith (.ListComp elt [⟨tg,iter,ifs,0⟩] scope pos) (some (.Name y py)) spos.line X.env=pure true) (hs: ∀x,foldedSetIterable iter X.env x=pure x:=by intro _; rfl):
  PS X (.Assign [.Name y py] (.ListComp elt [⟨tg,iter,ifs,0⟩] scope pos) spos) (fun D σ H=>qhp wi g tt te own fr σ H fun d H'=>D.nx (σ.set i (some (.ref d))) H'):=by
 intro pins s σ H D I h
 rw[exec_Assign_Name_used _ _ _ _ hsw]
 refine wpAny_bind (wpAny_standAt (wpAny_bind ?_))
 show wpAny _ _ (do let _ ←comprehension (.ListComp elt [⟨tg,iter,ifs,0⟩] scope pos) scope X.env _ (newList []) false (eval iter X.env) (some (assign (.Name y py) X.env))) _ _ s
 refine wpAny_bind (thn (qgc (use:=some (assign (.Name y py) X.env)) (Qf:=fun _ s'=>SP X pins D .next s') hc hi hk hcell hnames hfree hfr hb hs I h fun d C H' s' m I' f' hn q=> ?_) fun _ s' hq=>wpAny_pure (wpAny_pure hq))
 obtain ⟨f0,f1,f2,f3,f4,f5⟩:=id f'
 show wpAny _ _ (assign (.Name y py) X.env (.ref d)) _ _ s'
 refine wpAny_assign_Name (qfz I' hN hiN (.inl hy) (v:=.ref d) rfl (fun s'' I'' ⟨a,sb,ha⟩=> ?_) (.inr hy))
 have hne:C≠a:=by
  rcases ha with rfl | ha
  ·exact f1
  ·exact fun z=>f4 y a ha z.symm
 refine ⟨m,hn.sameBut sb hne,fun h' hs'=>⟨_,H',I''.turned (t':=s''.toks) (fun b o hb e=>(hs'.2 b hb).trans e) f0 f1 f3 f4 f5,q⟩⟩
end
theorem qmX {J:It} {n:Nat} {D:Addr} {g:TG} {tt:TT} {te:TE} {σ0:St} {H0:Hp} {Q:Addr→Hp→Prop} (Pv:Nat→List V→St→Hp→Prop) (h0:Pv 0 [] σ0 H0) (hn:n≤sizeLine) (hD: ∀i ys σ H,Pv i ys σ H→H D=some (.lst ys)) (hl: ∀i ys σ H,Pv i ys σ H→ys.length≤i)
  (hgo: ∀i ys σ H,i<n→Pv i ys σ H→J.go i H) (hstop: ∀ys σ H,Pv n ys σ H→J.stop n H∧Q D H)
  (hs: ∀i ys σ H x H',i<n→Pv i ys σ H→J.yld i H x H'→g x σ H' fun σ2 H4=>tt σ2 H4 fun b H5=>if b=true then te σ2 H5 fun y H6=>H6 D=some (.lst ys)∧Pv (i+1) (ys++[y]) σ2 (upd H6 D (.lst (ys++[y]))) else Pv (i+1) ys σ2 H5):
  qrb J D g tt te σ0 H0 Q:=by
 refine ⟨fun i m σ H=>m=n - i∧i≤n∧∃ys,Pv i ys σ H,⟨n,by simp,Nat.zero_le _,[],h0⟩,?_⟩
 rintro i m σ H ⟨rfl,hi,ys,p⟩
 by_cases hlt:i<n
 ·refine .inr ⟨hgo i ys σ H hlt p,fun σ2 y H6=>H6 D=some (.lst ys)∧Pv (i+1) (ys++[y]) σ2 (upd H6 D (.lst (ys++[y]))),fun σ2 H5=>Pv (i+1) ys σ2 H5,fun σ2 y H6 q=>⟨ys,q.1,?_,n - (i+1),by lia,rfl,hlt,_,q.2⟩,fun σ2 H5 q=>⟨n - (i+1),by lia,rfl,hlt,ys,q⟩,fun x H3 y=>hs i ys σ H x H3 hlt p y⟩
  have:=hl i ys σ H p
  lia
 ·have e:i=n:=by lia
  subst e
  exact .inl (hstop ys σ H p)
end L2
end
section
namespace St
open PySem.W PyProof.Rows
def qeB {α:Type} (N:Nat) (ask:Nat→Nat→Bool):KasT α→(α→Prop)→Prop
 | .ret a,Q=>Q a
 | .ask i j k,Q=>i<N∧j<N∧qeB N ask (k (ask i j)) Q
theorem qb0 {α β:Type} {N:Nat} {ask:Nat→Nat→Bool} {f:α→KasT β} {Q:β→Prop}: ∀{t:KasT α},qeB N ask t (fun a=>qeB N ask (f a) Q)→qeB N ask (t.bind f) Q
 | .ret _,h=>h
 | .ask _ _ _,⟨h1,h2,h⟩=>⟨h1,h2,qb0 h⟩
theorem qbm {α:Type} {N:Nat} {ask:Nat→Nat→Bool} {Q Q':α→Prop} (hq: ∀a,Q a→Q' a): ∀{t:KasT α},qeB N ask t Q→qeB N ask t Q'
 | .ret _,h=>hq _ h
 | .ask _ _ _,⟨h1,h2,h⟩=>⟨h1,h2,qbm hq h⟩
def g (p:Array Nat) (i:Nat):Nat:=p.getD i 0
theorem qqJ {p q:Array Nat} {i j:Nat} (h:p[i]? =q[j]?):g p i=g q j:=by
 unfold g
 rw[Array.getD_eq_getD_getElem?,Array.getD_eq_getD_getElem?,h]
theorem qmx {p:Array Nat} {i j:Nat} (hj:j≤p.size) (t:Nat):g (kas_rev p i j) t=if i≤t∧t<j then g p (i+j - 1 - t) else g p t:=by
 have e:=getElem?_mirror_all (i:=i) hj t
 by_cases h1:i≤t∧t<j
 ·rw[if_pos h1] at e⊢; exact qqJ e
 ·rw[if_neg h1] at e⊢; exact qqJ e
theorem qsW {p:Array Nat} {k l:Nat} (hk:k<p.size) (hl:l≤k) (t:Nat):g (bubble p k (k - l)) t=if t=l then g p k else if l<t∧t≤k then g p (t - 1) else g p t:=by
 have e:=getElem?_bubble hk (k - l) (Nat.sub_le _ _) t
 rw[show k - (k - l)=l by lia] at e
 by_cases h1:t=l
 ·rw[if_pos h1] at e⊢; exact qqJ e
 ·rw[if_neg h1] at e⊢
  by_cases h2:l<t∧t≤k
  ·rw[if_pos h2] at e⊢; exact qqJ e
  ·rw[if_neg h2] at e⊢; exact qqJ e
theorem qe4 (p:Array Nat) (i j:Nat):(kas_rev p i j).size=p.size:=mirror_size _ _ _ _
section
variable (N:Nat) (k:Nat→Int)
def L (a b:Nat):Prop:=k a<k b∨(k a=k b∧a<b)
structure Pre (n:Nat) (p:Array Nat):Prop where
 sz:p.size=N
 lo: ∀i,i<n→g p i<n
 hi: ∀i,n≤i→i<N→g p i=i
def Srt (p:Array Nat) (n:Nat):Prop:= ∀i j,i<j→j<n→L k (g p i) (g p j)
def Dsc (p:Array Nat) (n:Nat):Prop:= ∀i j,i<j→j<n→L k (g p j) (g p i)
structure qpu (p:Array Nat) (n q:Nat):Prop where
 pre:Pre N n p
 q1:q+1≤n
 a: ∀i j,i<j→j<n - (q+1)→L k (g p j) (g p i)
 b: ∀i j,i<n - (q+1)→n - (q+1)≤j→j<n→k (g p j)<k (g p i)
 c: ∀i j,n - (q+1)≤i→i<j→j<n→k (g p i)=k (g p j)∧g p i<g p j
def qcN:Nat→Nat→Bool:=fun i j=>decide (k i<k j)
end
section
variable {N:Nat} {k:Nat→Int}
theorem Pre.lt {n:Nat} {p:Array Nat} (h:Pre N n p) (hn:n≤N) {i:Nat} (hi:i<N):g p i<N:=by
 by_cases q:i<n
 ·exact Nat.lt_of_lt_of_le (h.lo i q) hn
 ·rw[h.hi i (by lia) hi]; exact hi
theorem L.le {a b:Nat} (h:L k a b):k a≤k b:=by
 rcases h with h | h
 ·lia
 ·lia
theorem Pre.more {n:Nat} {p:Array Nat} (h:Pre N n p) (hn:n<N):Pre N (n+1) p:=
 ⟨h.sz,fun i hi=>by
  by_cases q:i<n
  ·exact Nat.lt_succ_of_lt (h.lo i q)
  ·have e:i=n:=by lia
   subst e
   rw[h.hi i (Nat.le_refl _) hn]; lia,fun i h1 h2=>h.hi i (by lia) h2⟩
theorem qlp {p:Array Nat}: ∀(f n:Nat),1≤n→n+f≤N→Pre N n p→Srt k p n→
  qeB N (qcN k) (kas_asc p f n) fun m=>n≤m∧m≤n+f∧Pre N m p∧Srt k p m∧(m=n+f∨k (g p m)<k (g p (m - 1)))
 | 0,n,h1,hf,hp,hs=>⟨Nat.le_refl _,Nat.le_refl _,hp,hs,.inl rfl⟩
 | f+1,n,h1,hf,hp,hs=>by
  refine ⟨hp.lt (by lia) (by lia),hp.lt (by lia) (by lia),?_⟩
  show qeB N (qcN k) (if qcN k (g p n) (g p (n - 1))=true then .ret n else kas_asc p f (n+1)) _
  by_cases hc:k (g p n)<k (g p (n - 1))
  ·rw[if_pos (by simpa [qcN] using hc)]
   exact ⟨Nat.le_refl _,by lia,hp,hs,.inr hc⟩
  ·rw[if_neg (by simpa [qcN] using hc)]
   have hs':Srt k p (n+1):=fun i j hij hj=>by
    by_cases q:j<n
    ·exact hs i j hij q
    ·have e:j=n:=by lia
     subst e
     have en:=hp.hi j (Nat.le_refl _) (by lia)
     have lt:=hp.lo i hij
     have le:k (g p i)≤k (g p (j - 1)):=by
      by_cases q2:i=j - 1
      ·rw[q2]; exact Int.le_refl _
      ·exact (hs i (j - 1) (by lia) (by lia)).le
     unfold L
     rw[en] at hc⊢
     lia
   refine qbm (fun m h=> ?_) (qlp f (n+1) (by lia) (by lia) (hp.more (by lia)) hs')
   obtain ⟨a,b,c,d,e⟩:=h
   exact ⟨by lia,by lia,c,d,e.elim (fun z=>.inl (by lia)) .inr⟩
def fin (p:Array Nat) (n q:Nat):Array Nat:=if q>0 then kas_rev p (n - (q+1)) n else p
theorem qpu.fin {p:Array Nat} {n q:Nat} (h:qpu N k p n q) (hn:n≤N):Pre N n (fin p n q)∧Dsc k (fin p n q) n:=by
 unfold St.fin
 by_cases hq:q>0
 ·rw[if_pos hq]
  have gr:=qmx (p:=p) (i:=n - (q+1)) (j:=n) (by rw[h.pre.sz]; exact hn)
  refine ⟨⟨by rw[qe4]; exact h.pre.sz,fun i hi=> ?_,fun i h1 h2=> ?_⟩,fun i j hij hj=> ?_⟩
  ·rw[gr]
   split
   ·exact h.pre.lo _ (by lia)
   ·exact h.pre.lo _ hi
  ·rw[gr,if_neg (by lia)]; exact h.pre.hi i h1 h2
  ·rw[gr,gr]
   have hq1:=h.q1
   by_cases q1:n - (q+1)≤j
   ·rw[if_pos (show n - (q+1)≤j∧j<n from ⟨q1,hj⟩)]
    by_cases q2:n - (q+1)≤i
    ·rw[if_pos (show n - (q+1)≤i∧i<n from ⟨q2,by lia⟩)]
     have e:=h.c (n - (q+1)+n - 1 - j) (n - (q+1)+n - 1 - i) (by lia) (by lia) (by lia)
     exact .inr e
    ·rw[if_neg (by lia)]
     exact .inl (h.b i _ (by lia) (by lia) (by lia))
   ·rw[if_neg (by lia),if_neg (by lia)]
    exact h.a i j hij (by lia)
 ·rw[if_neg hq]
  have e:q=0:=by lia
  subst e
  refine ⟨h.pre,fun i j hij hj=> ?_⟩
  have hq1:=h.q1
  by_cases q1:j<n - (0+1)
  ·exact h.a i j hij q1
  ·exact .inl (h.b i j (by lia) (by lia) hj)
theorem qg3: ∀(f:Nat) (p:Array Nat) (n q:Nat),n+f≤N→qpu N k p n q→
  qeB N (qcN k) (kas_desc f p n q) fun r=>n≤r.2.1∧r.2.1≤n+f∧qpu N k r.1 r.2.1 r.2.2
 | 0,p,n,q,hf,h=>⟨Nat.le_refl _,Nat.le_refl _,h⟩
 | f+1,p,n,q,hf,h=>by
  have hq1:=h.q1
  have lt: ∀{i},i<N→g p i<N:=fun hi=>h.pre.lt (by lia) hi
  refine ⟨lt (by lia),lt (by lia),?_⟩
  have en:=h.pre.hi n (Nat.le_refl _) (by lia)
  show qeB N (qcN k) (if qcN k (g p n) (g p (n - 1))=true then (if q>0 then kas_desc f (kas_rev p (n - (q+1)) n) (n+1) 0 else kas_desc f p (n+1) 0)
   else .ask (g p (n - 1)) (g p n) fun d=>if d=true then .ret (p,n,q) else kas_desc f p (n+1) (q+1)) _
  have kle: ∀i,i<n→k (g p (n - 1))≤k (g p i):=fun i hi=>by
   by_cases q1:i<n - (q+1)
   ·exact Int.le_of_lt (h.b i (n - 1) q1 (by lia) (by lia))
   ·by_cases q2:i=n - 1
    ·rw[q2]; exact Int.le_refl _
    ·exact Int.le_of_eq (h.c i (n - 1) (by lia) (by lia) (by lia)).1.symm
  by_cases hc:k (g p n)<k (g p (n - 1))
  ·rw[if_pos (by simpa [qcN] using hc)]
   have key:qpu N k (fin p n q) (n+1) 0:=by
    obtain ⟨fp,fd⟩:=h.fin (by lia)
    have e2:=fp.hi n (Nat.le_refl _) (by lia)
    refine ⟨fp.more (by lia),by lia,fun i j hij hj=>fd i j hij (by lia),fun i j hi h1 h2=> ?_,fun i j h1 h2 h3=>by lia⟩
    have ej:j=n:=by lia
    subst ej
    rw[e2]
    rw[en] at hc
    refine Int.lt_of_lt_of_le hc ?_
    have: ∃i',i'<j∧g (fin p j q) i=g p i':=by
     unfold St.fin
     by_cases hq:q>0
     ·rw[if_pos hq,qmx (by rw[h.pre.sz]; lia)]
      split
      ·exact ⟨_,by lia,rfl⟩
      ·exact ⟨i,by lia,rfl⟩
     ·rw[if_neg hq]
      exact ⟨i,by lia,rfl⟩
    obtain ⟨i',hi',e3⟩:=this
    rw[e3]
    exact kle i' hi'
   have e:(if q>0 then kas_desc f (kas_rev p (n - (q+1)) n) (n+1) 0 else kas_desc f p (n+1) 0)=kas_desc f (fin p n q) (n+1) 0:=by
    unfold St.fin
    split<;>rfl
   rw[e]
   refine qbm (fun r hr=>⟨by lia,by lia,hr.2.2⟩) (qg3 f (fin p n q) (n+1) 0 (by lia) key)
  ·rw[if_neg (by simpa [qcN] using hc)]
   refine ⟨lt (by lia),lt (by lia),?_⟩
   show qeB N (qcN k) (if qcN k (g p (n - 1)) (g p n)=true then .ret (p,n,q) else kas_desc f p (n+1) (q+1)) _
   by_cases hd:k (g p (n - 1))<k (g p n)
   ·rw[if_pos (by simpa [qcN] using hd)]
    exact ⟨Nat.le_refl _,Nat.le_add_right _ _,h⟩
   ·rw[if_neg (by simpa [qcN] using hd)]
    have ek:k (g p n)=k (g p (n - 1)):=by lia
    have key:qpu N k p (n+1) (q+1):=by
     refine ⟨h.pre.more (by lia),by lia,fun i j hij hj=>h.a i j hij (by lia),fun i j hi h1 h2=> ?_,fun i j h1 h2 h3=> ?_⟩
     ·by_cases e:j=n
      ·subst e
       rw[ek]
       exact h.b i (j - 1) (by lia) (by lia) (by lia)
      ·exact h.b i j (by lia) (by lia) (by lia)
     ·by_cases e:j=n
      ·subst e
       refine ⟨?_,?_⟩
       ·rw[ek]
        by_cases e2:i=j - 1
        ·rw[e2]
        ·exact (h.c i (j - 1) (by lia) (by lia) (by lia)).1
       ·rw[en]; exact h.pre.lo i h2
      ·exact h.c i j (by lia) h2 (by lia)
    exact qbm (fun r hr=>⟨by lia,by lia,hr.2.2⟩) (qg3 f p (n+1) (q+1) (by lia) key)
def Out (N:Nat) (k:Nat→Int) (r:Nat×Array Nat):Prop:=1≤r.1∧r.1≤N∧Pre N r.1 r.2∧Srt k r.2 r.1
theorem qnV {p:Array Nat} {n:Nat} (h1:1≤n) (hn:n≤N) (hp:Pre N n p) (hd:Dsc k p n):qeB N (qcN k) (kas_tail3 n N p) (Out N k):=by
 have gr:=qmx (p:=p) (i:=0) (j:=n) (by rw[hp.sz]; exact hn)
 refine qb0 (qbm (fun m h=> ?_) (qlp (p:=kas_rev p 0 n) (N - n) n h1 (by lia) ⟨by rw[qe4]; exact hp.sz,fun i hi=> ?_,fun i h2 h3=> ?_⟩ fun i j hij hj=> ?_))
 ·exact ⟨by lia,by lia,h.2.2.1,h.2.2.2.1⟩
 ·rw[gr,if_pos ⟨Nat.zero_le _,hi⟩]; exact hp.lo _ (by lia)
 ·rw[gr,if_neg (by lia)]; exact hp.hi i h2 h3
 ·rw[gr,gr,if_pos ⟨Nat.zero_le _,by lia⟩,if_pos ⟨Nat.zero_le _,hj⟩]
  exact hd _ _ (by lia) (by lia)
theorem qeq {p:Array Nat} {n:Nat} (hn:n+1≤N) (h:qpu N k p (n+1) 0):qeB N (qcN k) (kas_descPart n N p) (Out N k):=by
 refine qb0 (qbm (fun r hr=> ?_) (qg3 (N - (n+1)) p (n+1) 0 (by lia) h))
 obtain ⟨h1,h2,h3⟩:=hr
 obtain ⟨f1,f2⟩:=h3.fin (by lia)
 have e:(if r.2.2>0 then kas_tail3 r.2.1 N (kas_rev r.1 (r.2.1 - (r.2.2+1)) r.2.1) else kas_tail3 r.2.1 N r.1)=kas_tail3 r.2.1 N (fin r.1 r.2.1 r.2.2):=by
  unfold St.fin
  split<;>rfl
 show qeB N (qcN k) (if r.2.2>0 then kas_tail3 r.2.1 N (kas_rev r.1 (r.2.1 - (r.2.2+1)) r.2.1) else kas_tail3 r.2.1 N r.1) _
 rw[e]
 exact qnV (by lia) (by lia) f1 f2
theorem qmV {p:Array Nat} (hN:1≤N) (hp:Pre N 1 p):qeB N (qcN k) (kas_count N p) (Out N k):=by
 refine qb0 (qbm (fun n h=> ?_) (qlp (p:=p) (N - 1) 1 (Nat.le_refl _) (by lia) hp fun i j h1 h2=>by lia))
 obtain ⟨h1,h2,h3,h4,h5⟩:=h
 by_cases e:n=N
 ·rw[if_pos (by simpa using e)]
  exact ⟨h1,by lia,h3,h4⟩
 ·rw[if_neg (by simpa using e)]
  have hlt:k (g p n)<k (g p (n - 1)):=h5.resolve_left (by lia)
  by_cases hg:n>1
  ·rw[if_pos hg]
   refine ⟨h3.lt (by lia) (by lia),h3.lt (by lia) (by lia),?_⟩
   show qeB N (qcN k) (if qcN k (g p 0) (g p (n - 1))=true then .ret (n,p) else kas_descPart n N (kas_rev p 0 n)) _
   by_cases hc:k (g p 0)<k (g p (n - 1))
   ·rw[if_pos (by simpa [qcN] using hc)]
    exact ⟨h1,by lia,h3,h4⟩
   ·rw[if_neg (by simpa [qcN] using hc)]
    have gr:=qmx (p:=p) (i:=0) (j:=n) (by rw[h3.sz]; lia)
    have like: ∀i,i<n→k (g p i)=k (g p (n - 1)):=fun i hi=>by
     have a1:k (g p 0)≤k (g p i):=by
      by_cases q:i=0
      ·rw[q]; exact Int.le_refl _
      ·exact (h4 0 i (by lia) hi).le
     have a2:k (g p i)≤k (g p (n - 1)):=by
      by_cases q:i=n - 1
      ·rw[q]; exact Int.le_refl _
      ·exact (h4 i (n - 1) (by lia) (by lia)).le
     lia
    refine qeq (by lia) ⟨Pre.more ⟨by rw[qe4]; exact h3.sz,fun i hi=> ?_,fun i q1 q2=> ?_⟩ (by lia),by lia,fun i j hij hj=> ?_,fun i j hi q1 q2=> ?_,fun i j q1 q2 q3=>by lia⟩
    ·rw[gr,if_pos ⟨Nat.zero_le _,hi⟩]; exact h3.lo _ (by lia)
    ·rw[gr,if_neg (by lia)]; exact h3.hi i q1 q2
    ·rw[gr,gr,if_pos ⟨Nat.zero_le _,by lia⟩,if_pos ⟨Nat.zero_le _,by lia⟩]
     exact h4 _ _ (by lia) (by lia)
    ·have ej:j=n:=by lia
     subst ej
     have hi':i<j:=by simpa using hi
     have e1:g (kas_rev p 0 j) j=g p j:=by rw[gr,if_neg (by lia)]
     have e2:g (kas_rev p 0 j) i=g p (0+j - 1 - i):=by rw[gr,if_pos ⟨Nat.zero_le _,hi'⟩]
     rw[e1,e2,like (0+j - 1 - i) (by lia)]
     exact hlt
  ·rw[if_neg hg]
   have e1:n=1:=by lia
   subst e1
   refine qeq (by lia) ⟨h3.more (by lia),by lia,fun i j hij hj=>by lia,fun i j hi q1 q2=> ?_,fun i j q1 q2 q3=>by lia⟩
   have ei:i=0:=by lia
   have ej:j=1:=by lia
   subst ei ej
   exact hlt
theorem qe9 {p:Array Nat} {n:Nat} (hn:n<N) (hp:Pre N n p) (hs:Srt k p n): ∀(f l r:Nat),l≤r→r≤n→r - l≤f→(∀i,i<l→k (g p i)≤k (g p n))→(∀i,r≤i→i<n→k (g p n)<k (g p i))→
  qeB N (qcN k) (kas_place p n f l r) fun m=>m≤n∧(∀i,i<m→k (g p i)≤k (g p n))∧∀i,m≤i→i<n→k (g p n)<k (g p i)
 | 0,l,r,h1,h2,h3,hl,hr=>⟨by lia,hl,fun i q1 q2=>hr i (by lia) q2⟩
 | f+1,l,r,h1,h2,h3,hl,hr=>by
  unfold kas_place
  by_cases hge:l≥r
  ·rw[if_pos hge]
   exact ⟨by lia,hl,fun i q1 q2=>hr i (by lia) q2⟩
  ·rw[if_neg hge]
   refine ⟨hp.lt (by lia) hn,hp.lt (by lia) (by lia),?_⟩
   show qeB N (qcN k) (if qcN k (g p n) (g p ((l+r) / 2))=true then kas_place p n f l ((l+r) / 2) else kas_place p n f ((l+r) / 2+1) r) _
   have srt: ∀i j,i≤j→j<n→k (g p i)≤k (g p j):=fun i j hij hj=>by
    by_cases q:i=j
    ·rw[q]; exact Int.le_refl _
    ·exact (hs i j (by lia) hj).le
   by_cases hc:k (g p n)<k (g p ((l+r) / 2))
   ·rw[if_pos (by simpa [qcN] using hc)]
    exact qe9 hn hp hs f l _ (by lia) (by lia) (by lia) hl fun i q1 q2=>Int.lt_of_lt_of_le hc (srt _ _ q1 q2)
   ·rw[if_neg (by simpa [qcN] using hc)]
    refine qe9 hn hp hs f _ r (by lia) (by lia) (by lia) (fun i q1=> ?_) hr
    have:=srt i ((l+r) / 2) (by lia) (by lia)
    lia
theorem qnK: ∀(f:Nat) (p:Array Nat) (n:Nat),n+f=N→Pre N n p→Srt k p n→qeB N (qcN k) (kas_bin f p n) fun p'=>Pre N N p'∧Srt k p' N
 | 0,p,n,hf,hp,hs=>by
  have e:n=N:=by lia
  subst e
  exact ⟨hp,hs⟩
 | f+1,p,n,hf,hp,hs=>by
  refine qb0 (qbm (fun l h=> ?_) (qe9 (by lia) hp hs n 0 n (by lia) (Nat.le_refl _) (by lia) (fun i q=>by lia) fun i q1 q2=>by lia))
  obtain ⟨h1,h2,h3⟩:=h
  have gb:=qsW (p:=p) (k:=n) (l:=l) (by rw[hp.sz]; lia) h1
  have en:=hp.hi n (Nat.le_refl _) (by lia)
  refine qnK f _ (n+1) (by lia) ⟨by rw[bubble_size]; exact hp.sz,fun i hi=> ?_,fun i q1 q2=> ?_⟩ fun i j hij hj=> ?_
  ·rw[gb]
   split
   ·rw[en]; lia
   ·split
    ·exact Nat.lt_succ_of_lt (hp.lo _ (by lia))
    ·exact Nat.lt_succ_of_lt (hp.lo _ (by lia))
  ·rw[gb,if_neg (by lia),if_neg (by lia)]; exact hp.hi i (by lia) q2
  ·rw[gb,gb]
   by_cases c1:j=l
   ·rw[if_pos c1,if_neg (by lia),if_neg (by lia)]
    have a1:=h2 i (by lia)
    have a2:=hp.lo i (by lia)
    unfold L
    rw[en] at a1⊢
    lia
   ·rw[if_neg c1]
    by_cases c2:l<j∧j≤n
    ·rw[if_pos c2]
     by_cases c3:i=l
     ·rw[if_pos c3]
      exact .inl (h3 _ (by lia) (by lia))
     ·rw[if_neg c3]
      by_cases c4:l<i∧i≤n
      ·rw[if_pos c4]; exact hs _ _ (by lia) (by lia)
      ·rw[if_neg c4]; exact hs _ _ (by lia) (by lia)
    ·rw[if_neg c2,if_neg (by lia),if_neg (by lia)]
     exact hs _ _ hij (by lia)
theorem qn5 (hN:1≤N):qeB N (qcN k) (kas_sort N) fun p=>Pre N N p∧Srt k p N:=by
 have gr: ∀i,i<N→g (List.toArray (List.range N)) i=i:=fun i hi=>by
  unfold g
  rw[Array.getD_eq_getD_getElem?]
  simp[hi]
 refine qb0 (qbm (fun r h=> ?_) (qmV hN ⟨by simp,fun i hi=> ?_,fun i h1 h2=>gr i h2⟩))
 ·obtain ⟨h1,h2,h3,h4⟩:=h
  by_cases c:r.1<N
  ·rw[if_pos c,show max r.1 1=r.1 by lia]
   exact qnK _ _ _ (by lia) h3 h4
  ·rw[if_neg c]
   have e:r.1=N:=by lia
   rw[e] at h3 h4
   exact ⟨h3,h4⟩
 ·rw[gr i (by lia)]; exact hi
end
end St
end
section
namespace St
open PySem PySem.W PySem.Calls PyProof.Rows
theorem qkG {α:Type} {N:Nat} {ask:Nat→Nat→Bool} {cmp:Nat→Nat→(Bool→Shared→Prop)→Shared→Prop} {Q:α→Shared→Prop} {Q':α→Prop} {s:Shared}
  (hc: ∀i j (C:Bool→Shared→Prop),i<N→j<N→C (ask i j) s→cmp i j C s) (hq: ∀a,Q' a→Q a s): ∀{t:KasT α},qeB N ask t Q'→t.kasWp cmp Q s
 | .ret a,h=>hq a h
 | .ask i j k,⟨h1,h2,h⟩=>hc i j _ h1 h2 (qkG hc hq h)
def qew (kz:List Int) (n:Nat) (p:Array Nat):Prop:=Pre n n p∧Srt (fun i=>kz.getD i 0) p n
abbrev Kp (h h':Heap):Prop:= ∀b o,h.get? b=some o→h'.get? b=some o
section
variable {prog:Program} {w:World} {A:Around} {E:Value→Shared→Prop} {s:Shared} {D kS:Addr} {vs:List Value} {kz:List Int} {P:PySem.Fin→Shared→Prop} {h0:Heap}
end
section
variable {prog:Program} {w:World} {A:Around} {E:Value→Shared→Prop} {s:Shared} {l:Addr} {vs:List Value} {kz:List Int} {Q:Value→Shared→Prop}
theorem qmw {h:Heap} {a:Addr} (x:h.objs.size≤a):h.get? a=none:=Heap.get?_none_of_le x
end
end St
end
section
namespace L2
open PySem PySem.Spec PyProof.Rows
def qtf (c:Addr) (qual:Str):HO:=.ext fun h=>h.CodeRec (.ref c) qual
def Tab (P:Addr) (pos:Pos) (qual:Str) (H:Hp):Prop:=
 ∃ps,H P=some (.tbl ps)∧PySem.TriplesOk ps.toList∧(PySem.codeAmong pos ps.toList=none∨∃c,PySem.codeAmong pos ps.toList=some (.ref c)∧H c=some (qtf c qual))
end L2
end
section
namespace L2
open PySem PySem.Spec PyProof.Rows
theorem qjb {xs:List V} {us:List Value} (r:qa1 xs us) (j:Nat):RelV (xs.getD j .non) (us.getD j .none):=by
 induction r generalizing j with
 | nil=>exact rfl
 | cons a t ih=>
  cases j with
  | zero=>exact a
  | succ j=>simpa using ih j
theorem vals_pick {xs:List V} {us:List Value} (r:qa1 xs us): ∀l:List Nat,qa1 (l.map fun j=>xs.getD j .non) (l.map fun j=>us.getD j .none)
 | []=>.nil
 | j::l=>.cons (qjb r j) (vals_pick r l)
section
variable {X:Cx} {e:Expr} {te:TE} {x:Str} {P c:Addr} {params:Arguments} {scope:Scope} {p1 p2 p3 lpos kpos p pos:Pos} {i j:Nat} {qual:Str}
end
end L2
end
section
namespace L2
open PySem PySem.Spec PyProof.Rows
section
variable {X:Cx}
theorem qj2:OpR X (compareOp .LtE) (fun x y H Q=> ∃i j,x= .str i∧y= .str j∧Q (.bl (!decide (j.cps.toList<i.cps.toList))) H):=by
 intro pins s σ H x y v u Q I rx ry h
 obtain ⟨i,j,rfl,rfl,q⟩:=h
 obtain ⟨t,rfl⟩:=rx
 obtain ⟨t',rfl⟩:=ry
 exact PySem.P.le_str ⟨.bl _,H,I,rfl,q⟩
theorem qhk: ∀{bs:List Bool} {us:List Value},qa1 (bs.map V.bl) us→us=bs.map Value.bool
 | [],_,.nil=>rfl
 | b::bs,_,.cons r t=>by
  have e:_=Value.bool b:=r
  rw[e,qhk t]
  rfl
theorem qjD (bs:List Bool):(List.range bs.length).all (fun i=>bs.getD i false)=bs.all id:=by
 rw[Bool.eq_iff_iff,List.all_eq_true,List.all_eq_true]
 constructor
 ·intro h b hb
  obtain ⟨i,hi,rfl⟩:=List.mem_iff_getElem.mp hb
  have:=h i (List.mem_range.mpr hi)
  simpa [List.getD_eq_getElem?_getD,hi] using this
 ·intro h i hi
  have hi':=List.mem_range.mp hi
  have:=h bs[i] (List.getElem_mem hi')
  simpa [List.getD_eq_getElem?_getD,hi'] using this
theorem qdW (hc:X.calm=true):qcL X (.builtin "all") (fun xs H Q=> ∃(a:Addr) (bs:List Bool),xs=[.ref a]∧SqL X.K H a (bs.map V.bl)∧Q (.bl (bs.all id)) H):=by
 intro pins s σ H xs us Q I r h
 obtain ⟨a,bs,rfl,hS,q⟩:=h
 obtain ⟨u,rfl,ru⟩:=qdZ r
 cases ru
 obtain ⟨its,rv,pl,hz⟩:=I.list hS
 have e:=qhk rv
 have hlt:a<s.heap.objs.size:=Heap.lt_size pl.isList.choose_spec.1
 have hh:X.A.in1.handled=none:=I.ok.hd hc
 refine call_all_walk (wpAny_pyIter_list pl.isList ?_)
 refine ⟨s.heap.objs.size,_,_,its.toArray.size,_,_,fun i=>bs.getD i false,rfl,Walks.list hh s.heap.objs.size a (Nat.ne_of_lt hlt) its.toArray,⟨⟨_,Heap.get?_push_size _ rfl,rfl,rfl⟩,pl.isList.at fun o e=>Heap.get?_push_of_some _ e⟩,fun i v s' Q' E' hv hq=> ?_,fun h' tk k=> ?_⟩
 ·rw[e] at hv
  have hv':(bs.map Value.bool)[i]? =some v:=by simpa using hv
  rw[List.getElem?_map] at hv'
  cases z:bs[i]? with
  | none=>rw[z] at hv'; cases hv'
  | some b=>
   rw[z] at hv'
   cases hv'
   have eb:bs.getD i false=b:=by simp[List.getD_eq_getElem?_getD,z]
   have hq':Q' (bs.getD i false) s':=hq
   rw[eb] at hq'
   exact wpAny_truthy_bool hq'
 ·have en:its.toArray.size=bs.length:=by rw[e]; simp
  rw[en,qjD]
  refine ⟨.bl (bs.all id),H,?_,rfl,q⟩
  refine I.kept (t':=tk) fun b o eo=>k b o ?_ (Heap.get?_push_of_some _ eo)
  intro z
  have:b=s.heap.objs.size:=by simpa using z
  exact Nat.ne_of_lt (Heap.lt_size eo) this
def VEq (X:Cx) (H:Hp) (x y:V) (b:Bool):Prop:= ∀(pins:List (Addr×Obj)) (σ:St) (s:Shared) (u v:Value),Inv X pins σ H s→RelV x u→RelV y v→SeqAt.EqAt X.A.in1 s u v b
theorem VEq.ref {H:Hp} (a:Addr):VEq X H (.ref a) (.ref a) true:=fun pins σ s u v I ru rv=>by
 cases ru; cases rv
 exact SeqAt.EqAt.same _
theorem VEq.flat {H:Hp} {x y:V} (fx:qct x=true) (fy:qct y=true):VEq X H x y (eqV x y):=fun pins σ s u v I ru rv=>qh1 ru rv fx fy
theorem qgJ (hu:X.A.units<cLine):OpR X (compareOp .Eq) (fun x y H Q=> ∃a b xs ys,x= .ref a∧y= .ref b∧SqL X.K H a xs∧SqL X.K H b ys∧
  ((xs.length≠ys.length∧Q (.bl false) H)∨(xs.length=ys.length∧∃e:Nat→Bool,(∀i x y,xs[i]? =some x→ys[i]? =some y→VEq X H x y (e i))∧Q (.bl ((List.range xs.length).all e)) H))):=by
 intro pins s σ H x y v u Q I rx ry h
 obtain ⟨a,b,xs,ys,rfl,rfl,ha,hb,h⟩:=h
 cases rx; cases ry
 obtain ⟨i1,r1,p1,z1⟩:=I.list ha
 obtain ⟨i2,r2,p2,z2⟩:=I.list hb
 have l1:=r1.length
 have l2:=r2.length
 rcases h with ⟨hne,q⟩ | ⟨heq,e,he,q⟩
 ·exact SeqAt.eq_list_lengthsAt p1.isList p2.isList (by simp; lia) hu ⟨.bl false,H,I,rfl,q⟩
 ·refine SeqAt.eq_listAt (e:=e) p1.isList p2.isList (by simp; lia) hu (fun j h1 h2=> ?_) ⟨.bl _,H,I,rfl,?_⟩
  ·have h1':j<i1.length:=by simpa using h1
   have h2':j<i2.length:=by simpa using h2
   have hx:xs[j]? =some xs[j]:=List.getElem?_eq_getElem (by lia)
   have hy:ys[j]? =some ys[j]:=List.getElem?_eq_getElem (by lia)
   obtain ⟨u1,e1,q1⟩:=r1.get hx
   obtain ⟨u2,e2,q2⟩:=r2.get hy
   have e3:i1.toArray[j]=u1:=by
    rw[List.getElem?_eq_getElem h1'] at e1
    simpa using Option.some.inj e1
   have e4:i2.toArray[j]=u2:=by
    rw[List.getElem?_eq_getElem h2'] at e2
    simpa using Option.some.inj e2
   rw[e3,e4]
   exact he j _ _ hx hy pins σ s u1 u2 I q1 q2
  ·rw[List.size_toArray,←l1]; exact q
end
end L2
end
section
namespace L2
open PySem PySem.Spec PyProof.Rows
def Its (z:Str):It:=⟨fun i _=>i<z.cps.size,fun i H x H'=>H'=H∧∃c,z.cps[i]? =some c∧x= .str ⟨#[c]⟩,fun i _=>z.cps.size≤i⟩
theorem qlI {P:Program} {w:World} {K:PySem.W.Frag} {tg:Expr} {z:Str} {it:Addr} {ty:String} {t:Tok} (hty:ty= "str_ascii_iterator" ∨ty= "str_iterator"):qnM P w K tg (Its z) [it] it (fun i h=>h.IsStrIter it ty z t i) where
 mem:=by simp
 obj:=fun i h st b hb=>by
  have e:b=it:=by simpa using hb
  subst e
  obtain ⟨o,e,c,d⟩:=st
  exact ⟨o,e,fun v q=>by rw[d] at q; cases q⟩
 keep:=fun i h h' st k=>by
  obtain ⟨o,e,r⟩:=st
  exact ⟨o,k it (by simp) _ e,r⟩
 item:=by
  intro X hP hw hK hc i pins s σ H E I hf st hg
  subst hP hw hK
  obtain ⟨f0,f1,f2,f3,f4,f5⟩:=hf it (by simp)
  have hcx:z.cps[i]? =some z.cps[i]:=Array.getElem?_eq_getElem hg
  have fin: ∀h',h'.IsStrIter it ty z t (i+1)→Heap.SameBut it s.heap h'→∃u,some (Value.str ⟨#[z.cps[i]]⟩ s.toks)=some u∧wpAny (model X.prog X.w) X.A (letOwnedTupleGo tg (.ref it) u) (fun _ s2=> ∃x H',Inv X pins σ H' s2∧RelV x u∧(Its z).yld i H x H'∧s2.heap.IsStrIter it ty z t (i+1)∧∀b∈[it],H' b=none) E { s with heap:=h',toks:=s.toks+1 }:=fun h' st' sb=>by
   have I1:Inv X pins σ H { s with heap:=h',toks:=s.toks+1 }:=I.turned (fun b o hb e=>(sb.2 b hb).trans e) f0 f1 f3 f4 f5
   obtain ⟨o,e,c,d⟩:=id st'
   refine ⟨_,rfl,qkH (s:={ s with heap:=h',toks:=s.toks+1 }) e c d ?_ ⟨.str ⟨#[z.cps[i]]⟩,H,I1,⟨_,rfl⟩,⟨rfl,_,hcx,rfl⟩,st',fun b hb=>(hf b hb).1⟩⟩
   rcases hty with rfl | rfl<;>decide
  rcases hty with rfl | rfl
  ·exact wpAny_pyNext_ascii_item st hcx fun h' st' sb=>fin h' st' sb
  ·exact wpAny_pyNext_wide_item st hcx fun h' st' sb=>fin h' st' sb
 done:=by
  intro X hP hw hK hc i pins s σ H E I hf st hg
  subst hP hw hK
  obtain ⟨f0,f1,f2,f3,f4,f5⟩:=hf it (by simp)
  have hcx:z.cps[i]? =none:=Array.getElem?_eq_none hg
  rcases hty with rfl | rfl
  ·exact wpAny_pyNext_ascii_end (I.ok.hd hc) st hcx fun h' eb=>⟨rfl,I.turned (t':=s.toks) (fun b o hb e=>eb b o hb e) f0 f1 f3 f4 f5⟩
  ·exact wpAny_pyNext_wide_end (I.ok.hd hc) st hcx fun h' eb=>⟨rfl,I.turned (t':=s.toks) (fun b o hb e=>eb b o hb e) f0 f1 f3 f4 f5⟩
 self:=fun A i s Q E st h=>by
  rcases hty with rfl | rfl
  ·exact wpAny_pyIter_striter_ascii st h
  ·exact wpAny_pyIter_striter_wide st h
def quz (te:TE):TI:=fun σ H R=>te σ H fun x H1=> ∃z,x= .str z∧R (Its z) H1
theorem qqc {X:Cx} {tg e:Expr} {te:TE} (he:PE X e te):PI X tg e (quz te):=by
 intro pins s σ H R I h
 refine thn (he pins s σ H _ I h) fun v s1 hq48=> ?_
 obtain ⟨x,H1,I1,r1,z,hz,q⟩:=hq48
 subst hz
 obtain ⟨t,rfl⟩:=r1
 have fin: ∀ty:String,(ty= "str_ascii_iterator" ∨ty= "str_iterator")→PIE X pins σ tg R (.ref s1.heap.objs.size) { s1 with heap:=s1.heap.push { cls:=.type ty,data:=.fields #[.str z t,.int 0 0] } }:=fun ty hty=>
  ⟨_,_,_,Its z,H1,rfl,I1.kept (t':=s1.toks) fun b o e=>Heap.get?_push_of_some _ e,qlI (t:=t) hty,⟨_,Heap.get?_push_size _ rfl,rfl,rfl⟩,fun b hb=>by
   have e:b=s1.heap.objs.size:=by simpa using hb
   subst e
   exact I1.fpOk (Nat.le_refl _) (I1.hok.fresh (Nat.le_refl _)),q⟩
 cases ha:z.cps.all (· <128)
 ·exact wpAny_pyIter_wide ha (fin _ (.inr rfl))
 ·exact wpAny_pyIter_ascii ha (fin _ (.inl rfl))
theorem Inv.turnT {X:Cx} {pins:List (Addr×Obj)} {σ:St} {H:Hp} {s:Shared} {h':Heap} {t':Nat} {ch:List Addr} {T:Addr} {xs:List V} (I:Inv X pins σ H s) (hch: ∀b∈ch,qhh X pins H b) (k: ∀b o,b∉ch→s.heap.get? b=some o→h'.get? b=some o)
  (hT:s.heap.objs.size≤T) (new:qa2 X.prog X.w (upd H T (.tup xs)) h' T (.tup xs)):Inv X pins σ (upd H T (.tup xs)) { s with heap:=h',toks:=t' }:=by
 have nT: ∀b o,s.heap.get? b=some o→b≠T:=fun b o e=>Nat.ne_of_lt (Nat.lt_of_lt_of_le (Heap.lt_size e) hT)
 have nTt: ∀b u,H b=some u→b≠T:=fun b u e z=>by rw[z,I.hok.fresh hT] at e; cases e
 have nch: ∀b u,H b=some u→b∉ch:=fun b u e z=>by rw[(hch b z).1] at e; cases e
 refine I.step (g':=s.gens) (d':=s.drawn) (ch:=ch) (fun b hb=> ?_) (fun b o _ _ hc e _=>k b o hc e) (fun b o _ _ hc e _=>⟨o.slots,k b o hc e⟩) (fun b o _ e n=>by rw[qag (nT b o e)]; exact n) (fun b o hc e=>⟨o,k b o hc e⟩)
  (fun b ys e=>by rw[qag (nTt b _ e)]; exact e) (fun b o u e=>by rw[qag (nTt b _ e)]; exact e) (fun b ps e=>⟨#[],by rw[qag (nTt b _ e),e]; simp⟩) (fun m hm=> ?_) (fun b u e=> ?_) I.bare
 ·obtain ⟨_,f1,_,f3,f4,f5⟩:=hch b hb
  exact ⟨f3,f1,f4,f5⟩
 ·obtain ⟨o,es,ep,ho,r⟩:=hm
  exact ⟨o,es,ep,k _ o (fun z=>(hch _ z).2.1 rfl) ho,r⟩
 ·by_cases z:b=T
  ·subst z
   rw[qak] at e; cases e
   exact new
  ·rw[qag z] at e
   refine (I.hok b u e).stay (fun c v hc q=>k c v ?_ q) (fun c q=>by rw[qag (nTt c _ q)]; exact q) fun c ys q=>by rw[qag (nTt c _ q)]; exact q
   rcases hc with rfl | hc
   ·exact nch _ _ e
   ·exact nch _ _ hc
theorem Inv.turnL {X:Cx} {pins:List (Addr×Obj)} {σ:St} {H:Hp} {s:Shared} {h':Heap} {t':Nat} {ch:List Addr} (I:Inv X pins σ H s) (hch: ∀b∈ch,qhh X pins H b) (k: ∀b o,b∉ch→s.heap.get? b=some o→h'.get? b=some o):
  Inv X pins σ H { s with heap:=h',toks:=t' }:=by
 have nch: ∀b u,H b=some u→b∉ch:=fun b u e z=>by rw[(hch b z).1] at e; cases e
 refine I.step (g':=s.gens) (d':=s.drawn) (ch:=ch) (fun b hb=> ?_) (fun b o _ _ hc e _=>k b o hc e) (fun b o _ _ hc e _=>⟨o.slots,k b o hc e⟩) (fun b o _ e n=>n) (fun b o hc e=>⟨o,k b o hc e⟩)
  (fun b ys e=>e) (fun b o u e=>e) (fun b ps e=>⟨#[],by rw[e]; simp⟩) (fun m hm=> ?_) (fun b u e=> ?_) I.bare
 ·obtain ⟨_,f1,_,f3,f4,f5⟩:=hch b hb
  exact ⟨f3,f1,f4,f5⟩
 ·obtain ⟨o,es,ep,ho,r⟩:=hm
  exact ⟨o,es,ep,k _ o (fun z=>(hch _ z).2.1 rfl) ho,r⟩
 ·refine (I.hok b u e).stay (fun c v hc q=>k c v ?_ q) (fun c q=>q) fun c ys q=>q
  rcases hc with rfl | hc
  ·exact nch _ _ e
  ·exact nch _ _ hc
def Itz (K:PySem.W.Frag) (l1 l2:Addr):It:=
 ⟨fun i H=> ∃xs ys,SqL K H l1 xs∧SqL K H l2 ys∧i<xs.length∧i<ys.length,
   fun i H v H'=> ∃T x y,v= .ref T∧H T=none∧H'=upd H T (.tup [x,y])∧(∀xs,SqL K H l1 xs→xs[i]? =some x)∧∀ys,SqL K H l2 ys→ys[i]? =some y,
   fun i H=> ∃xs ys,SqL K H l1 xs∧SqL K H l2 ys∧i=min xs.length ys.length⟩
def qth (z TI TO i1 i2 l1 l2:Addr) (i:Nat) (h:Heap):Prop:=
 IsZip h z TI TO .none∧IsPair h TI (.ref i1) (.ref i2)∧(∃a b,IsPair h TO a b)∧h.IsListIter i1 l1 i∧h.IsListIter i2 l2 i
theorem qlH {P:Program} {w:World} {K:PySem.W.Frag} {elts:List Expr} {k:Nat} {pos:Pos} {z TI TO i1 i2 l1 l2:Addr} (D:ZipApart z TI TO i1 i2 l1 l2):qnM P w K (.Tuple elts k pos) (Itz K l1 l2) [z,TI,TO,i1,i2] z (qth z TI TO i1 i2 l1 l2) where
 mem:=by simp
 obj:=fun i h st b hb=>by
  obtain ⟨a1,a2,⟨x,y,a3⟩,⟨o4,a4,c4,d4⟩,⟨o5,a5,c5,d5⟩⟩:=st
  have hb':b=z∨b=TI∨b=TO∨b=i1∨b=i2:=by simpa using hb
  rcases hb' with rfl | rfl | rfl | rfl | rfl
  ·exact ⟨_,a1,fun v q=>by have q':Data.fields _=Data.cell v:=q; cases q'⟩
  ·exact ⟨_,a2,fun v q=>by have q':Data.seq _ _=Data.cell v:=q; cases q'⟩
  ·exact ⟨_,a3,fun v q=>by have q':Data.seq _ _=Data.cell v:=q; cases q'⟩
  ·exact ⟨o4,a4,fun v q=>by rw[d4] at q; cases q⟩
  ·exact ⟨o5,a5,fun v q=>by rw[d5] at q; cases q⟩
 keep:=fun i h h' st kk=>by
  obtain ⟨a1,a2,⟨x,y,a3⟩,a4,a5⟩:=st
  exact ⟨kk z (by simp) _ a1,kk TI (by simp) _ a2,⟨x,y,kk TO (by simp) _ a3⟩,a4.at fun o e=>kk i1 (by simp) o e,a5.at fun o e=>kk i2 (by simp) o e⟩
 item:=by
  intro X hP hw hK hc i pins s σ H E I hf st hg
  subst hP hw hK
  obtain ⟨xs,ys,h1,h2,g1,g2⟩:=hg
  obtain ⟨its1,r1,p1,z1⟩:=I.list h1
  obtain ⟨its2,r2,p2,z2⟩:=I.list h2
  have e1:=r1.length
  have e2:=r2.length
  have W:=WalksT.zip2 (prog:=X.prog) (w:=X.w) (I.ok.hd hc) z TI TO i1 i2 l1 l2 D its1.toArray its2.toArray
  obtain ⟨a1,a2,a3,a4,a5⟩:=st
  have hch: ∀b∈[z,TO,i1,i2],qhh X pins H b:=fun b hb=>hf b (by
   have hb':b=z∨b=TO∨b=i1∨b=i2:=by simpa using hb
   rcases hb' with rfl | rfl | rfl | rfl<;>simp)
  refine W.item i s _ E (by simp; lia) ⟨a1,a2,a3,a4,a5,p1.isList,p2.isList⟩ fun T vals h' tk hv hT hti hmid kp=> ?_
  obtain ⟨u1,u2,q1,q2,rfl⟩:=hv
  refine ⟨_,rfl,W.go elts k pos i T _ _ E hmid fun h2' st' kp2=> ?_⟩
  obtain ⟨b1,b2,b3,b4,b5,_,_⟩:=st'
  have nT:T∉[z,TO,i1,i2]:=W.apart i T h' hmid
  obtain ⟨ox,hox,rox⟩:=hti
  have hx1:xs[i]? =some xs[i]:=List.getElem?_eq_getElem g1
  have hy1:ys[i]? =some ys[i]:=List.getElem?_eq_getElem g2
  obtain ⟨w1,ew1,rw1⟩:=r1.get hx1
  obtain ⟨w2,ew2,rw2⟩:=r2.get hy1
  have eu1:its1[i]? =some u1:=by simpa using q1
  have eu2:its2[i]? =some u2:=by simpa using q2
  rw[eu1] at ew1; cases ew1
  rw[eu2] at ew2; cases ew2
  have I1:Inv X pins σ (upd H T (.tup [xs[i],ys[i]])) { s with heap:=h2',toks:=tk }:=by
   refine I.turnT hch (fun b o hb e=>kp2 b o hb (kp b o hb e)) hT ⟨by show 2≤sizeLine; decide,[u1,u2],.cons rw1 (.cons rw2 .nil),ox,kp2 T ox nT hox,rox⟩
  refine ⟨.ref T,_,I1,rfl,⟨T,_,_,rfl,I.hok.fresh hT,rfl,fun xs' hx'=>by rw[I.list_inj hx' h1]; exact hx1,fun ys' hy'=>by rw[I.list_inj hy' h2]; exact hy1⟩,⟨b1,b2,b3,b4,b5⟩,fun b hb=> ?_⟩
  obtain ⟨o,eo,_⟩: ∃o,s.heap.get? b=some o∧True:=by
   have hb':b=z∨b=TI∨b=TO∨b=i1∨b=i2:=by simpa using hb
   obtain ⟨x,y,a3'⟩:=a3
   obtain ⟨o4,a4',_⟩:=a4
   obtain ⟨o5,a5',_⟩:=a5
   rcases hb' with rfl | rfl | rfl | rfl | rfl
   ·exact ⟨_,a1,trivial⟩
   ·exact ⟨_,a2,trivial⟩
   ·exact ⟨_,a3',trivial⟩
   ·exact ⟨_,a4',trivial⟩
   ·exact ⟨_,a5',trivial⟩
  rw[qag (Nat.ne_of_lt (Nat.lt_of_lt_of_le (Heap.lt_size eo) hT))]
  exact (hf b hb).1
 done:=by
  intro X hP hw hK hc i pins s σ H E I hf st hg
  subst hP hw hK
  obtain ⟨xs,ys,h1,h2,g1⟩:=hg
  obtain ⟨its1,r1,p1,z1⟩:=I.list h1
  obtain ⟨its2,r2,p2,z2⟩:=I.list h2
  have e1:=r1.length
  have e2:=r2.length
  have W:=WalksT.zip2 (prog:=X.prog) (w:=X.w) (I.ok.hd hc) z TI TO i1 i2 l1 l2 D its1.toArray its2.toArray
  have hch: ∀b∈[z,TO,i1,i2],qhh X pins H b:=fun b hb=>hf b (by
   have hb':b=z∨b=TO∨b=i1∨b=i2:=by simpa using hb
   rcases hb' with rfl | rfl | rfl | rfl<;>simp)
  obtain ⟨a1,a2,a3,a4,a5⟩:=st
  have en:min its1.toArray.size its2.toArray.size=i:=by simp; lia
  rw[en] at W
  exact W.done s _ E ⟨a1,a2,a3,a4,a5,p1.isList,p2.isList⟩ fun h' tk kp=>⟨rfl,I.turnL hch kp⟩
 self:=fun A i s Q E st h=>wpAny_pyIter_zip st.1 h
end L2
end
section
namespace L2
open PySem PySem.Spec PyProof.Rows
def qhi (mg:Str→Option Value) (base:Heap):Prop:= ∃bm ob,mg "__builtins__" =some (.ref bm)∧bm≠builtinsNs∧base.get? bm=some ob∧ob.cls= .type "module" ∧ob.dict=some builtinsNs∧ob.data= .plain
end L2
end
section
namespace L2
open PySem PySem.Spec PySem.Calls PyProof.Rows
theorem qa2.obj {P:Program} {w:World} {H:Hp} {h:Heap} {a:Addr} {o:HO} (x:qa2 P w H h a o): ∃u,h.get? a=some u:=by
 cases o with
 | lst xs=>obtain ⟨_,_,_,_,e⟩:=x; exact ⟨_,e⟩
 | tup xs=>obtain ⟨_,_,_,p⟩:=x; exact p.imp fun _ q=>q.1
 | dK kvs=>obtain ⟨_,_,_,_,o,_,_,e,_⟩:=x; exact ⟨_,e⟩
 | dT kvs=>obtain ⟨_,_,_,_,o,_,_,e,_⟩:=x; exact ⟨_,e⟩
 | set S n=>obtain ⟨o,_,_,_,e,_⟩:=x; exact ⟨_,e⟩
 | ins C dx fs=>obtain ⟨_,_,_,e,_⟩:=x; exact ⟨_,e⟩
 | own y=>obtain ⟨_,e⟩:=x; exact ⟨_,e⟩
 | xd fs=>obtain ⟨_,⟨_,_,_,e,_⟩,_⟩:=x; exact ⟨_,e⟩
 | rng lo hi=>obtain ⟨_,_,_,e⟩:=x; exact ⟨_,e⟩
 | frz ob u=>obtain ⟨e,_⟩:=x; exact ⟨_,e⟩
 | tbl ps=>exact ⟨_,(show h.get? a=some _ from x)⟩
 | met f y=>exact ⟨_,(show h.get? a=some _ from x)⟩
 | ext φ=>obtain ⟨_,⟨_,e⟩,_⟩:=x; exact ⟨_,e⟩
structure qlv (P:Program) (w:World) (outer:List Env) (H:Hp) (s:Shared) (H':Hp) (B h':Heap):Prop where
 hok:HOk P w H' B
 st:B.StaysIn h'
 bk: ∀b o,s.heap.get? b=some o→H b=none→b∉frs outer→B.get? b=some o
 th: ∀b o,s.heap.get? b=some o→b∉frs outer→∃o',B.get? b=some o'
 sl: ∀b o,s.heap.get? b=some o→b∈frs outer→(∀vs,o.data≠.fields vs)∧∃sl,h'.get? b=some { o with slots:=sl }
 free: ∀b o,s.heap.get? b=some o→H b=none→H' b=none
 tups: ∀b xs,H b=some (.tup xs)→H' b=some (.tup xs)
 frzs: ∀b o u,H b=some (.frz o u)→H' b=some (.frz o u)
 tbls: ∀b ps,H b=some (.tbl ps)→∃more,H' b=some (.tbl (ps++more))
section
variable {P:Program} {w:World} {outer:List Env} {H H':Hp} {s s':Shared} {B h' h'':Heap}
theorem qlv.on (L:qlv P w outer H s H' B h') (st:B.StaysIn h'') (up:h'.UpToSlots h''):qlv P w outer H s H' B h'':=
 { L with
  st:=st
  sl:=fun b o e hb=>by
   obtain ⟨nf,sl,q⟩:=L.sl b o e hb
   obtain ⟨sl',q'⟩:=up b _ q nf
   exact ⟨nf,sl',q'⟩ }
end
section
variable {X:Cx} {pins:List (Addr×Obj)} {σ:St} {H H':Hp} {s s':Shared} {B h' h'':Heap} {C a t:Addr}
theorem qfU (hst:X.stack=X.env::X.outer) (hf:X.env.frame=some X.env.locals):frs X.stack=X.env.locals::frs X.outer:=by
 rw[hst]
 show ((X.env::X.outer).filterMap (·.frame))=_
 rw[List.filterMap_cons,hf]
 rfl
theorem qlv.leave (hst:X.stack=X.env::X.outer) (hf:X.env.frame=some X.env.locals) (hex:X.ex=[]) (I:Inv X pins σ H s) (L:qlv X.prog X.w X.stack H s H' B h'):qlv X.prog X.w X.outer X.H₀ X.s₀ H' B h':=by
 have nx: ∀b:Addr,b∉X.ex:=fun b z=>by rw[hex] at z; cases z
 have neL: ∀b o,X.s₀.heap.get? b=some o→b≠X.env.locals:=fun b o e=>Nat.ne_of_lt (Nat.lt_of_lt_of_le (Heap.lt_size e) I.ok.above)
 have out: ∀b o,X.s₀.heap.get? b=some o→b∉frs X.outer→b∉frs X.stack:=fun b o e nb z=>by
  rw[qfU hst hf] at z
  rcases List.mem_cons.mp z with q | q
  ·exact neL b o e q
  ·exact nb q
 refine ⟨L.hok,L.st,fun b o e n nb=> ?_,fun b o e nb=> ?_,fun b o e hb=> ?_,fun b o e n=> ?_,fun b xs q=>L.tups b xs (I.base.tups b xs q),fun b o u q=>L.frzs b o u (I.base.frzs b o u q),fun b ps q=> ?_⟩
 ·exact L.bk b o (I.base.keep b o e n nb (nx b)) (I.base.free b o e n (nx b)) (out b o e nb)
 ·obtain ⟨o',e'⟩:=I.base.there b o e (nx b)
  exact L.th b o' e' (out b o e nb)
 ·obtain ⟨sl,e1⟩:=I.base.slot b o e (I.ok.frf b hb) hb (nx b)
  obtain ⟨nf,sl',e2⟩:=L.sl b _ e1 (by rw[qfU hst hf]; exact List.mem_cons_of_mem _ hb)
  exact ⟨nf,sl',e2⟩
 ·obtain ⟨sl,e1⟩:=I.base.any e n (nx b)
  exact L.free b _ e1 (I.base.free b o e n (nx b))
 ·obtain ⟨m1,e1⟩:=I.base.tbls b ps q
  obtain ⟨m2,e2⟩:=L.tbls b _ e1
  exact ⟨m1++m2,by rw[e2,Array.append_assoc]⟩
theorem qlv.made (I:Inv X pins σ H s) (k: ∀b o,s.heap.get? b=some o→h'.get? b=some o):qlv X.prog X.w X.stack H s H (PySem.W.hideAll s.heap (frs X.stack)) h' where
 hok:=fun a o e=>(I.hok a o e).stay (fun b u hb r=>PySem.W.hideAll_get _ r fun z=>by
   have n:=I.stkFree b z
   rcases hb with q | q
   ·rw[q,e] at n; cases n
   ·rw[q] at n; cases n) (fun _ r=>r) fun _ _ r=>r
 st:=fun b o e=>k b o (PySem.W.of_hideAll _ e)
 bk:=fun b o e n nb=>PySem.W.hideAll_get _ e nb
 th:=fun b o e nb=>⟨o,PySem.W.hideAll_get _ e nb⟩
 sl:=fun b o e hb=>by
  obtain ⟨_,o',e',nf⟩:=I.stack.mem hb
  rw[e] at e'; cases e'
  exact ⟨nf,o.slots,k b o e⟩
 free:=fun _ _ _ n=>n
 tups:=fun _ _ q=>q
 frzs:=fun _ _ _ q=>q
 tbls:=fun _ ps q=>⟨#[],by rw[q]; simp⟩
end
structure Fly (P:Program) (w:World) (outer:List Env) (H:Hp) (s:Shared) (C:Addr) (H':Hp) (a t:Addr) (B:Heap) (s':Shared):Prop where
 os:s'.os=s.os
 bare:AllBare s'.gens
 fly:Heap.FlyingW B outer a (.ref C) (.ref t) s'.heap
 lies:qlv P w outer H s H' B s'.heap
 new:H' a=none
structure Held (P:Program) (w:World) (outer:List Env) (H:Hp) (s:Shared) (C:Addr) (H':Hp) (a t L:Addr) (B:Heap) (s':Shared):Prop where
 os:s'.os=s.os
 bare:AllBare s'.gens
 held:Heap.HeldW B outer a (.ref C) (.ref t) L s'.heap
 lies:qlv P w outer H s H' B s'.heap
 new:H' a=none
section
variable {X:Cx} {M:Model} {E:Value→Shared→Prop} {pins:List (Addr×Obj)} {σ:St} {H H':Hp} {s s':Shared} {B h' h'':Heap} {C a t:Addr}
theorem Fly.made {args:List Value} (hst:X.stack=X.env::X.outer) (hf:X.env.frame=some X.env.locals) (hex:X.ex=[]) (I:Inv X pins σ H s) (hm:Heap.MadeExcOf s.heap h' a (.ref C) args):
  wpAny M X.A (leaving X.env (.ref a)) (fun _ s''=> ∃t B,Fly X.prog X.w X.outer X.H₀ X.s₀ C H a t B s'') E { s with heap:=h' }:=by
 have hin: ∀env∈X.stack,∀b,env.frame=some b→b∈frs X.stack:=fun env he b hb=>List.mem_filterMap.mpr ⟨env,he,hb⟩
 have L:=qlv.made (h':=h') I hm.keeps
 refine wpAny_leaves_madeW (base:=PySem.W.hideAll s.heap (frs X.stack)) (h:=s.heap) (s:={ s with heap:=h' }) (I.ok.frames.trans (congrArg _ hst)) hf (fun b o q=>PySem.W.of_hideAll _ q) (hst▸PySem.W.funFrames_hide I.stack hin) hm fun h'' t fl _ _ up=> ?_
 refine ⟨t,_,I.os,I.bare,fl,(L.on fl.1 up).leave hst hf hex I,?_⟩
 cases q:H a with
 | none=>rfl
 | some o=>
  obtain ⟨u,hu⟩:=(I.hok a o q).obj
  rw[hm.new] at hu; cases hu
theorem Fly.look {Q:Unit→Shared→Prop} (hst:X.stack=X.env::X.outer) (hf:X.env.frame=some X.env.locals) (I:Inv X pins σ H s) (F:Fly X.prog X.w X.stack H s C H' a t B s')
  (h: ∀s'',Fly X.prog X.w X.stack H s C H' a t B s''→Q () s''):
  wpAny M X.A (noteFrame (.ref a) X.env) (fun _ s₂=>wpAny M X.A (setFlight (.ref a) none) Q E s₂) E s':=by
 refine wpAny_looks_onW (I.ok.frames.trans (congrArg _ hst)) hf (hst▸F.fly) fun h4 hh up=> ?_
 refine wpAny_landsW (s:={ s' with heap:=h4 }) hh fun h5 fl up5=> ?_
 exact h _ ⟨F.os,F.bare,hst▸fl,(F.lies.on (hh.1) up).on fl.1 up5,F.new⟩
end
def bmV:List Value:=[.type "ValueError",.type "Exception",.type "BaseException",.type "object"]
def qtA:List Str:=["__init__", "__getattribute__", "__getattr__", "__class__"]
inductive qhf (h:Heap) (bmB:List Value):List Value→Prop
 | base:qhf h bmB bmB
 | own {A:Addr} {c0:Value} {dd:Option Addr} {cd:ClassData} {sl:Array (Option Value)} {mA:Str→Option Value} {tl:List Value}:
   h.get? A=some { cls:=c0,dict:=dd,data:=.cls cd,slots:=sl }→h.Ns cd.ns mA→(∀n∈qtA,mA n=none)→qhf h bmB tl→qhf h bmB (.ref A::tl)
theorem qhf.keeps {h h':Heap} {bmB tl:List Value} (T:qhf h bmB tl) (hk: ∀b o,h.get? b=some o→h'.get? b=some o):qhf h' bmB tl:=by
 induction T with
 | base=>exact .base
 | own hA hN hq _ ih=>exact .own (hk _ _ hA) (hN.keeps hk) hq ih
def qtp (h:Heap) (C:Addr) (bm:List Value):Prop:=
 ∃N nm q bs hdct sn sub ab col dd k0 k1 k2 k3 k5 mN,h.get? C=some (excClassObj nm q C N bs bm hdct sn sub ab col dd k0 k1 k2 k3 k5 "ValueError.__new__")∧h.Ns N mN∧(∀n∈qtA,mN n=none)∧qhf h bmV bm
theorem qtp.keeps {h h':Heap} {C:Addr} {bm:List Value} (x:qtp h C bm) (k: ∀b o,h.get? b=some o→h'.get? b=some o):qtp h' C bm:=
 let ⟨N,nm,q,bs,hdct,sn,sub,ab,col,dd,k0,k1,k2,k3,k5,mN,e,n,i,T⟩:=x
 ⟨N,nm,q,bs,hdct,sn,sub,ab,col,dd,k0,k1,k2,k3,k5,mN,k _ _ e,n.keeps k,i,T.keeps k⟩
end L2
end
section
namespace L2
open PySem PySem.Spec PySem.Calls PyProof.Rows
abbrev Cx.within (X:Cx) (a:Addr):Cx:={ X with A:=X.A.mark (some (.ref a)),calm:=false,xe:=fun _ _=>False }
section
variable {X:Cx} {pins pins':List (Addr×Obj)} {E:Value→Shared→Prop} {σ:St} {H H':Hp} {s s':Shared} {a C t:Addr} {B:Heap}
end
section
variable {M:Model} {A:Around} {E:Value→Shared→Prop} {s:Shared}
end
section
variable {X:Cx} {pins0:List (Addr×Obj)} {W:St→Addr→Hp→Prop} {k:Nat} {f C:Addr} {fd:FuncData} {ps:List Str} {sp:Sp} {x m:Str} {p pos apos:Pos} {e o:Expr} {es:List Expr} {ta:TE} {t:TA}
end
section
variable {X:Cx} {body suite:List Stmt} {b₀:Stmt} {x n:Str} {np hpos pos:Pos} {CH:Addr} {bmH:List Value} {tb:(St→Addr→Hp→Prop)→TS} {ts:TS} {E:XK}
end
end L2
end
section
namespace L2
open PySem PySem.Spec PySem.Calls PyProof.Rows
section
variable {M:Model} {A:Around} {E:Value→Shared→Prop} {h:Heap} {g:Array GenState} {d:Drawn} {t:Nat} {os:OsState}
variable {nm q:Str} {C N:Addr} {bs bm:List Value} {hdct:Bool} {sn:List Str} {sub:List Value} {ab:Bool} {col:Option Bool} {dd:Option Addr} {k0 k1 k2 k3 k5:Option Value} {newId:String}
end
section
variable {prog:Program} {w:World} {A:Around} {E:Value→Shared→Prop} {h:Heap} {g:Array GenState} {d:Drawn} {t:Nat} {os:OsState} {a:Addr} {o:Obj}
 {nm q:Str} {C N:Addr} {bs bm:List Value} {hdct:Bool} {sn:List Str} {sub:List Value} {ab:Bool} {col:Option Bool} {dd:Option Addr} {k0 k1 k2 k3 k5:Option Value} {newId:String} {mN:Str→Option Value}
end
section
variable {X:Cx}
end
end L2
end
section
namespace L2
open PySem PySem.Spec PySem.Calls PyProof.Rows
section
variable {X:Cx}
end
section
variable {P:Program} {w:World} {K:PySem.W.Frag} {mg:Str→Option Value} {base:Heap}
end
end L2
end
section
namespace L2
open PySem PySem.Spec PyProof.Rows
section
variable {κ:Type} [DecidableEq κ]
def qcO (kvs:List (κ×V)) (k:κ):Option V:=(kvs.find? fun kv=>decide (kv.1=k)).map (·.2)
def qdk (kvs:List (κ×V)) (k:κ) (v:V):List (κ×V):=
 if (kvs.any fun kv=>decide (kv.1=k))=true then kvs.map (fun kv=>if kv.1=k then (kv.1,v) else kv) else kvs++[(k,v)]
theorem qba {p:κ×V} {r:List (κ×V)} {k:κ} (e:p.1=k):qcO (p::r) k=some p.2:=by simp[qcO,List.find?_cons,e]
theorem qbb {p:κ×V} {r:List (κ×V)} {k:κ} (e: ¬p.1=k):qcO (p::r) k=qcO r k:=by simp[qcO,List.find?_cons,e]
theorem qdN (k:κ): ∀kvs:List (κ×V),(kvs.any fun kv=>decide (kv.1=k))=(qcO kvs k).isSome
 | []=>rfl
 | p::r=>by
  rw[List.any_cons]
  by_cases e:p.1=k
  ·simp only[qba e,decide_eq_true e,Bool.true_or,Option.isSome_some]
  ·rw[qbb e,decide_eq_false e,Bool.false_or]; exact qdN k r
theorem qhm (k j:κ) (y:V): ∀kvs:List (κ×V),qcO (kvs.map fun kv=>if kv.1=k then (kv.1,y) else kv) j=(qcO kvs j).map fun x=>if j=k then y else x
 | []=>rfl
 | p::r=>by
  have ih:=qhm k j y r
  rw[List.map_cons]
  by_cases h:p.1=k
  ·rw[if_pos h]
   by_cases e:p.1=j
   ·rw[qba (p:=(p.1,y)) e,qba e,Option.map_some,if_pos (e.symm.trans h)]
   ·rw[qbb (p:=(p.1,y)) e,qbb e,ih]
  ·rw[if_neg h]
   by_cases e:p.1=j
   ·rw[qba (p:=p) e,qba e,Option.map_some,if_neg (fun z=>h (e.trans z))]
   ·rw[qbb (p:=p) e,qbb e,ih]
theorem qfw (k j:κ) (y:V): ∀kvs:List (κ×V),qcO kvs k=none→qcO (kvs++[(k,y)]) j=if j=k then some y else qcO kvs j
 | [],_=>by
  by_cases e:k=j
  ·rw[if_pos e.symm]; exact qba (p:=(k,y)) e
  ·rw[if_neg (fun z=>e z.symm)]; exact qbb (p:=(k,y)) e
 | p::r,hn=>by
  rw[List.cons_append]
  have hk: ¬p.1=k:=fun z=>by rw[qba z] at hn; cases hn
  rw[qbb hk] at hn
  have ih:=qfw k j y r hn
  by_cases e:p.1=j
  ·rw[qba e,qba e,if_neg (fun z=>hk (e.trans z))]
  ·rw[qbb e,qbb e,ih]
theorem qlG (kvs:List (κ×V)) (k j:κ) (y:V):qcO (qdk kvs k y) j=if j=k then some y else qcO kvs j:=by
 unfold qdk
 by_cases a:(kvs.any fun kv=>decide (kv.1=k))=true
 ·rw[if_pos a,qhm]
  rw[qdN] at a
  by_cases e:j=k
  ·obtain ⟨x,hx⟩:=Option.isSome_iff_exists.mp a
   rw[if_pos e,e,hx,Option.map_some,if_pos rfl]
  ·rw[if_neg e]
   cases qcO kvs j with
   | none=>rfl
   | some x=>rw[Option.map_some,if_neg e]
 ·rw[if_neg a]
  refine qfw k j y kvs ?_
  rw[qdN] at a
  cases q:qcO kvs k with
  | none=>rfl
  | some x=>rw[q] at a; exact (a rfl).elim
theorem qcH (kvs:List (κ×V)) (k:κ) (v:V):(qdk kvs k v).length≤kvs.length+1:=by
 unfold qdk
 split
 ·rw[List.length_map]; omega
 ·rw[List.length_append,List.length_cons,List.length_nil]; omega
theorem qi5.isSome_eq {o:Option V} {u:Option Value} (r:qi5 o u):o.isSome=u.isSome:=by
 cases o with
 | none=>cases u with
  | none=>rfl
  | some _=>exact (show False from r).elim
 | some _=>cases u with
  | none=>exact (show False from r).elim
  | some _=>rfl
theorem qi5.getD {o:Option V} {u:Option Value} {d:V} {d':Value} (r:qi5 o u) (rd:RelV d d'):RelV (o.getD d) (u.getD d'):=by
 cases o with
 | none=>cases u with
  | none=>exact rd
  | some _=>exact (show False from r).elim
 | some _=>cases u with
  | none=>exact (show False from r).elim
  | some _=>exact r
theorem KV.val {kvs:List (κ×V)} {vs:List (κ×Value)} (r:KV kvs vs) (k:κ):qi5 (qcO kvs k) (valueAt vs k):=by
 unfold KV at r
 induction r with
 | nil=>exact True.intro
 | @cons p q ps qs h t ih=>
  obtain ⟨h1,h2⟩:=h
  by_cases e:p.1=k
  ·have e':q.1=k:=h1.symm.trans e
   have b:valueAt (q::qs) k=some q.2:=by simp[valueAt,List.find?_cons,e']
   rw[qba e,b]; exact h2
  ·have e': ¬q.1=k:=fun z=>e (h1.trans z)
   have b:valueAt (q::qs) k=valueAt qs k:=by simp[valueAt,List.find?_cons,e']
   rw[qbb e,b]; exact ih
theorem KV.any {kvs:List (κ×V)} {vs:List (κ×Value)} (r:KV kvs vs) (k:κ):(kvs.any fun kv=>decide (kv.1=k))=vs.any fun kv=>decide (kv.1=k):=by
 unfold KV at r
 induction r with
 | nil=>rfl
 | cons h t ih=>rw[List.any_cons,List.any_cons,ih,h.1]
theorem KV.repl {kvs:List (κ×V)} {vs:List (κ×Value)} (r:KV kvs vs) (k:κ) {y:V} {u:Value} (ry:RelV y u):
  KV (kvs.map fun kv=>if kv.1=k then (kv.1,y) else kv) (vs.map fun kv=>if kv.1=k then (kv.1,u) else kv):=by
 unfold KV at r⊢
 induction r with
 | nil=>exact .nil
 | @cons p q ps qs h t ih=>
  rw[List.map_cons,List.map_cons]
  refine .cons ?_ ih
  obtain ⟨h1,h2⟩:=h
  by_cases e:p.1=k
  ·rw[if_pos e,if_pos (h1.symm.trans e)]; exact ⟨h1,ry⟩
  ·rw[if_neg e,if_neg (fun z=>e (h1.trans z))]; exact ⟨h1,h2⟩
theorem KV.put {kvs:List (κ×V)} {vs:List (κ×Value)} (r:KV kvs vs) (k:κ) {y:V} {u:Value} (ry:RelV y u):KV (qdk kvs k y) (stored vs k u):=by
 unfold qdk stored
 rw[r.any k]
 by_cases e:(vs.any fun kv=>decide (kv.1=k))=true
 ·rw[if_pos e,if_pos e]; exact r.repl k ry
 ·rw[if_neg e,if_neg e]; exact Paired.snoc r ⟨rfl,ry⟩
theorem KV.keys {kvs:List (κ×V)} {vs:List (κ×Value)} (r:KV kvs vs):kvs.map (·.1)=vs.map (·.1):=by
 unfold KV at r
 induction r with
 | nil=>rfl
 | cons h t ih=>rw[List.map_cons,List.map_cons,ih,h.1]
theorem KV.length {kvs:List (κ×V)} {vs:List (κ×Value)} (r:KV kvs vs):kvs.length=vs.length:=Paired.length r
end
theorem qej {P:Program} {w:World} {k:Key} {u:Value} (r:RelV (kV k) u):(qaI P w).is k u=true:=by
 cases k with
 | inl i=>obtain ⟨t,e⟩:=(show ∃t,u=Value.int i t from r); subst e; exact qgL P w i t
 | inr x=>obtain ⟨t,e⟩:=(show ∃t,u=Value.str x t from r); subst e; exact qgK P w x t
theorem qfR {P:Program} {w:World}: ∀{ks:List Key} {us:List Value},qa1 (ks.map kV) us→ItemsAre (qaI P w) ks us
 | [],_,r=>by rw[List.map_nil] at r; cases r; exact .nil
 | k::ks,_,r=>by
  rw[List.map_cons] at r
  cases r with
  | cons h t=>exact .cons (qej h) (qfR t)
abbrev KT (H:Hp):List (List Key×V)→List (List Key×Addr×Value)→Prop:=Paired fun p q=>p.1=q.1∧H q.2.1=some (.tup (p.1.map kV))∧RelV p.2 q.2.2
theorem KT.val {H:Hp} {kvs:List (List Key×V)} {xs:List (List Key×Addr×Value)} (r:KT H kvs xs) (k:List Key):qi5 (qcO kvs k) ((atKey xs k).map (·.2)):=by
 induction r with
 | nil=>exact True.intro
 | @cons p q ps qs h t ih=>
  obtain ⟨h1,_,h2⟩:=h
  by_cases e:p.1=k
  ·have e':q.1=k:=h1.symm.trans e
   have b:atKey (q::qs) k=some q.2:=by simp[atKey,List.find?_cons,e']
   rw[qba e,b]; exact h2
  ·have e': ¬q.1=k:=fun z=>e (h1.trans z)
   have b:atKey (q::qs) k=atKey qs k:=by simp[atKey,List.find?_cons,e']
   rw[qbb e,b]; exact ih
theorem KT.repl {H:Hp} {kvs:List (List Key×V)} {xs:List (List Key×Addr×Value)} (r:KT H kvs xs) (k:List Key) {y:V} {u:Value} (ry:RelV y u):
  KT H (kvs.map fun kv=>if kv.1=k then (kv.1,y) else kv) (xs.map (putAt k u)):=by
 induction r with
 | nil=>exact .nil
 | @cons p q ps qs h t ih=>
  rw[List.map_cons,List.map_cons]
  refine .cons ?_ ih
  obtain ⟨h1,h2,h3⟩:=h
  unfold putAt
  by_cases e:p.1=k
  ·rw[if_pos e,if_pos (h1.symm.trans e)]; exact ⟨h1,h2,ry⟩
  ·rw[if_neg e,if_neg (fun z=>e (h1.trans z))]; exact ⟨h1,h2,h3⟩
theorem KT.put {H:Hp} {kvs:List (List Key×V)} {xs:List (List Key×Addr×Value)} (r:KT H kvs xs) (k:List Key) {b:Addr} {y:V} {u:Value} (hb:H b=some (.tup (k.map kV))) (ry:RelV y u):
  KT H (qdk kvs k y) (storedH xs k b u):=by
 have e:(kvs.any fun kv=>decide (kv.1=k))=(atKey xs k).isSome:=by
  rw[qdN,(r.val k).isSome_eq,Option.isSome_map]
 unfold qdk storedH
 rw[e]
 by_cases q:(atKey xs k).isSome=true
 ·rw[if_pos q,if_pos q]; exact r.repl k ry
 ·rw[if_neg q,if_neg q]; exact Paired.snoc r ⟨rfl,hb,ry⟩
theorem KT.keeps {H H':Hp} {kvs:List (List Key×V)} {xs:List (List Key×Addr×Value)} (r:KT H kvs xs) (ht: ∀b ys,H b=some (.tup ys)→H' b=some (.tup ys)):KT H' kvs xs:=
 Paired.mapP r fun _ _ z=>⟨z.1,ht _ _ z.2.1,z.2.2⟩
section
variable {P:Program} {w:World} {H:Hp} {h:Heap} {a:Addr}
theorem qp1 {u:HO} (ok:HOk P w H h) (e:Rd H a u):qa2 P w H h a u:=e.ok ok
theorem qgZ {kvs:List (Key×V)} (ok:HOk P w H h) (e:Rd H a (.dK kvs)):kvs.length≤sizeLine∧(a==sysModules)=false∧∃vs,KV kvs vs∧h.DictOf (qaI P w) a vs:=
 show qa2 P w H h a (.dK kvs) from qp1 ok e
theorem qo1 {kvs:List (Key×V)} (ok:HOk P w H h) (e:H a=some (.dK kvs)):kvs.length≤sizeLine∧(a==sysModules)=false∧∃vs,KV kvs vs∧h.DictOf (qaI P w) a vs:=qgZ ok (.inl e)
theorem qeL {ks:List Key} (ok:HOk P w H h) (e:H a=some (.tup (ks.map kV))):(tupleKind (qaI P w)).is h ks a:=by
 obtain ⟨_,its,r,o,h1,h2,n,h3⟩:=(show qa2 P w H h a (.tup (ks.map kV)) from ok a _ e)
 exact ⟨o,its.toArray,n,h1,h2,h3,by simpa using qfR r⟩
theorem qgX {kvs:List (List Key×V)} (ok:HOk P w H h) (e:Rd H a (.dT kvs)):kvs.length≤sizeLine∧(a==sysModules)=false∧
  ∃xs,KT H kvs xs∧h.DictOfH (tupleKind (qaI P w)) a xs:=by
 obtain ⟨z,y,xs,r,o,es,ep,h1,h2,h3,h4,h5⟩:=(show qa2 P w H h a (.dT kvs) from qp1 ok e)
 refine ⟨z,y,xs,r,o,es,ep,h1,h2,h3,h4,fun x hx=> ?_,h5⟩
 have all: ∀{l:List (List Key×V)} {m:List (List Key×Addr×Value)},KT H l m→∀x∈m,(tupleKind (qaI P w)).is h x.1 x.2.1:=by
  intro l m q
  induction q with
  | nil=>intro x hx; exact nomatch hx
  | @cons p q ps qs hq t ih=>
   intro x hx
   rcases List.mem_cons.mp hx with e | hx
   ·subst e
    exact qeL ok (by rw[←hq.1]; exact hq.2.1)
   ·exact ih x hx
 exact all r x hx
theorem qqS {kvs:List (List Key×V)} (ok:HOk P w H h) (e:H a=some (.dT kvs)):kvs.length≤sizeLine∧(a==sysModules)=false∧
  ∃xs,KT H kvs xs∧h.DictOfH (tupleKind (qaI P w)) a xs:=qgX ok (.inl e)
end
def qfu (H:Hp) (a:Addr) (y:V) (r:Option V):Prop:=
 (∃kvs k,Rd H a (.dK kvs)∧y=kV k∧r=qcO kvs k)∨∃kvs k b,Rd H a (.dT kvs)∧y= .ref b∧H b=some (.tup (k.map kV))∧r=qcO kvs k
def qlx (H:Hp) (a:Addr) (y v:V) (H':Hp):Prop:=
 (∃kvs k,H a=some (.dK kvs)∧y=kV k∧kvs.length<sizeLine∧H'=upd H a (.dK (qdk kvs k v)))∨
 ∃kvs k b,H a=some (.dT kvs)∧y= .ref b∧H b=some (.tup (k.map kV))∧kvs.length<sizeLine∧H'=upd H a (.dT (qdk kvs k v))
theorem qfu.k {H:Hp} {a:Addr} {kvs:List (Key×V)} {k:Key} (e:H a=some (.dK kvs)):qfu H a (kV k) (qcO kvs k):=.inl ⟨kvs,k,.inl e,rfl,rfl⟩
theorem qfu.t {H:Hp} {a b:Addr} {kvs:List (List Key×V)} {k:List Key} (e:H a=some (.dT kvs)) (eb:H b=some (.tup (k.map kV))):qfu H a (.ref b) (qcO kvs k):=.inr ⟨kvs,k,b,.inl e,rfl,eb,rfl⟩
theorem qlx.k {H:Hp} {a:Addr} {kvs:List (Key×V)} {k:Key} {v:V} (e:H a=some (.dK kvs)) (hl:kvs.length<sizeLine):qlx H a (kV k) v (upd H a (.dK (qdk kvs k v))):=.inl ⟨kvs,k,e,rfl,hl,rfl⟩
theorem qlx.t {H:Hp} {a b:Addr} {kvs:List (List Key×V)} {k:List Key} {v:V} (e:H a=some (.dT kvs)) (eb:H b=some (.tup (k.map kV))) (hl:kvs.length<sizeLine):
  qlx H a (.ref b) v (upd H a (.dT (qdk kvs k v))):=.inr ⟨kvs,k,b,e,rfl,eb,hl,rfl⟩
section
variable {X:Cx} {pins:List (Addr×Obj)} {σ:St} {H:Hp} {s:Shared} {a:Addr} {y v:V} {u r:Value} {o:Option V} {A:Around} {E:Value→Shared→Prop}
theorem Inv.big (I:Inv X pins σ H s):sysModules<s.heap.objs.size:=by
 have h:mainGlobals<s.heap.objs.size:=(I.mod.glob.keeps I.bk).lt
 exact Nat.lt_trans (by decide) h
theorem qk5 {Q:Value→Shared→Prop} (hu:A.units+1<cLine) (I:Inv X pins σ H s) (g:qfu H a y (some v)) (ry:RelV y u) (h: ∀w' s',Inv X pins σ H s'→RelV v w'→Q w' s'):
  wpAny (model X.prog X.w) A (getItem (.ref a) u) Q E s:=by
 rcases g with ⟨kvs,k,e,ey,l⟩ | ⟨kvs,k,b,e,ey,eb,l⟩
 ·subst ey
  obtain ⟨z,hd,vs,rel,dd⟩:=qgZ I.hok e
  obtain ⟨w',hw,rw'⟩:=qi5.some_of (v:=v) (o:=valueAt vs k) (by rw[l]; exact rel.val k)
  exact wpAny_getItem_of (qej ry) dd.mapOf hw (h w' _ (I.tok _) rw')
 ·subst ey
  cases (show u=Value.ref b from ry)
  obtain ⟨z,hd,xs,rel,dd⟩:=qgX I.hok e
  obtain ⟨w',hw,rw'⟩:=qi5.some_of (v:=v) (o:=(atKey xs k).map (·.2)) (by rw[l]; exact rel.val k)
  obtain ⟨p,hp,hp2⟩:=Option.map_eq_some_iff.mp hw
  refine wpAny_getItem_heap (tupleKind_room_in1 hu) (qeL I.hok eb) dd hp ?_
  rw[hp2]
  exact h w' _ (I.tok _) rw'
theorem quG {Q:Value→Shared→Prop} (hu:A.units+1<cLine) (I:Inv X pins σ H s) (g:qfu H a y o) (ry:RelV y u) (h: ∀s',Inv X pins σ H s'→Q (.bool o.isSome) s'):
  wpAny (model X.prog X.w) A (compareOp .In u (.ref a)) Q E s:=by
 rcases g with ⟨kvs,k,e,ey,l⟩ | ⟨kvs,k,b,e,ey,eb,l⟩
 ·subst ey
  obtain ⟨z,hd,vs,rel,dd⟩:=qgZ I.hok e
  refine wpAny_in_of (qej ry) hd dd.mapOf ?_
  rw[←(rel.val k).isSome_eq,←l]
  exact h _ (I.tok _)
 ·subst ey
  cases (show u=Value.ref b from ry)
  obtain ⟨z,hd,xs,rel,dd⟩:=qgX I.hok e
  refine wpAny_in_heap (tupleKind_room_in1 hu) (qeL I.hok eb) hd dd ?_
  have q:=(rel.val k).isSome_eq
  rw[Option.isSome_map] at q
  rw[←q,←l]
  exact h _ (I.tok _)
theorem qpe {Q:Value→Shared→Prop} (hu:A.units+1<cLine) (I:Inv X pins σ H s) (g:qfu H a y o) (ry:RelV y u) (h: ∀s',Inv X pins σ H s'→Q (.bool (!o.isSome)) s'):
  wpAny (model X.prog X.w) A (compareOp .NotIn u (.ref a)) Q E s:=by
 rcases g with ⟨kvs,k,e,ey,l⟩ | ⟨kvs,k,b,e,ey,eb,l⟩
 ·subst ey
  obtain ⟨z,hd,vs,rel,dd⟩:=qgZ I.hok e
  refine wpAny_notIn_of (qej ry) hd dd.mapOf ?_
  rw[←(rel.val k).isSome_eq,←l]
  exact h _ (I.tok _)
 ·subst ey
  cases (show u=Value.ref b from ry)
  obtain ⟨z,hd,xs,rel,dd⟩:=qgX I.hok e
  refine wpAny_notIn_heap (tupleKind_room_in1 hu) (qeL I.hok eb) hd dd ?_
  have q:=(rel.val k).isSome_eq
  rw[Option.isSome_map] at q
  rw[←q,←l]
  exact h _ (I.tok _)
theorem qg5 {h':Heap} {t':Nat} {ob:HO} (I:Inv X pins σ H s) (mu:Mut (H a)) (hs:Heap.SameBut a s.heap h') (he: ∃q,h'.get? a=some q) (new:qa2 X.prog X.w (upd H a ob) h' a ob):
  Inv X pins σ (upd H a ob) { s with heap:=h',toks:=t' }:=
 I.write (x:=a) (e:=a) mu (.inl rfl) (fun b q hb z=>(hs.2 b hb).trans z) he new
theorem qnC {P:Program} {w:World} {H':Hp} {h':Heap} {kvs:List (Key×V)} {vs:List (Key×Value)} (z:kvs.length≤sizeLine) (hd:(a==sysModules)=false) (rel:KV kvs vs) (dd:h'.DictOf (qaI P w) a vs):
  qa2 P w H' h' a (.dK kvs):=⟨z,hd,vs,rel,dd⟩
theorem qk4 {H':Hp} {Q:Unit→Shared→Prop} (hu:A.units+1<cLine) (I:Inv X pins σ H s) (g:qlx H a y v H') (ry:RelV y u) (rv:RelV v r) (h: ∀s',Inv X pins σ H' s'→Q () s'):
  wpAny (model X.prog X.w) A (setItem (.ref a) u r) Q E s:=by
 rcases g with ⟨kvs,k,e,ey,l,eH⟩ | ⟨kvs,k,b,e,ey,eb,l,eH⟩
 ·subst ey eH
  obtain ⟨z,hd,vs,rel,dd⟩:=qo1 I.hok e
  have hz:vs.length≤sizeLine:=by rw[←rel.length]; exact z
  have hl:(qdk kvs k v).length≤sizeLine:=by have:=qcH kvs k v; omega
  refine wpAny_setItem_pairs (hsz:=hz) (qej ry) dd fun h' dd' hs=>h _ ?_
  have he: ∃q,h'.get? a=some q:=let ⟨q,_,_,hq,_⟩:=dd'; ⟨q,hq⟩
  exact qg5 I (by rw[e]; exact True.intro) hs he (qnC hl hd (rel.put k rv) dd')
 ·subst ey eH
  cases (show u=Value.ref b from ry)
  obtain ⟨z,hd,xs,rel,dd⟩:=qqS I.hok e
  have hz:xs.length≤sizeLine:=by rw[←Paired.length rel]; exact z
  have hl:(qdk kvs k v).length≤sizeLine:=by have:=qcH kvs k v; omega
  refine wpAny_setItem_heap (hsz:=hz) (tupleKind_room_in1 hu) (qeL I.hok eb) dd fun h' dd' hs=>h _ ?_
  obtain ⟨q,es,ep,hq,h2,h3,h4,_,h5⟩:=dd'
  refine qg5 I (by rw[e]; exact True.intro) hs ⟨q,hq⟩ ⟨hl,hd,_,(rel.put k eb rv).keeps fun c ys ec=> ?_,q,es,ep,hq,h2,h3,h4,h5⟩
  rw[qag (qoy ec e (fun z=>nomatch z))]
  exact ec
end
section
variable {X:Cx} {pins:List (Addr×Obj)} {σ:St} {H:Hp} {s:Shared} {a:Addr} {kvs:List (Key×V)} {k:Key} {u:Value} {A:Around} {E:Value→Shared→Prop}
end
def qq7 (i:Expr):Prop:= ∀ov iv,subscripted i false ov iv=operate [ov,iv] (getItem ov iv)
theorem qjj {prog:Program} {w:World} {A:Around} {E:Value→Shared→Prop} {s:Shared} {env:Env} {value slice:Expr} {pos:Pos} {T id:String} {Q:Value→Shared→Prop}
  (hl:typeLookup (.type T) "__getitem__" =pure (some (.builtin id))) (hs:qq7 slice)
  (h:wpAny (model prog w) A (eval value env) (fun o s₁=>wpAny (model prog w) A (eval slice env) (fun i s₂=>s₂.TypeIs o T∧wpAny (model prog w) A (getItem o i) Q E s₂) E s₁) E s):
  wpAny (model prog w) A (eval (.Subscript value slice pos) env) Q E s:=by
 refine Subscript_ (wpAny_mono h (fun o s₁ h₁=>wpAny_mono h₁ (fun i s₂ h₂=> ?_) fun _ _ x=>x) fun _ _ x=>x)
 obtain ⟨hT,h₂⟩:=h₂
 unfold subscriptTail
 refine wpAny_bind ?_
 rw[getitemInPython_of_ne hT.not_modules]
 refine wpAny_bind (wpAny_specialOf hT hl ?_)
 have fin:wpAny (model prog w) A (subscripted slice false o i) (fun r s₃=>wpAny (model prog w) A (letTemporaryGo value o r>>=fun _=>pure r) Q E s₃) E s₂:=by
  rw[hs o i]
  exact wpAny_operating (wpAny_mono h₂ (fun r s₃ h₃=>wpAny_bind (wpAny_letTemporaryGo (wpAny_pure h₃))) fun _ _ x=>x)
 first
  | exact wpAny_pure (wpAny_bind fin)
  | exact wpAny_bind (wpAny_pure (wpAny_bind fin))
  | exact wpAny_bind fin
theorem qg0 {X:Cx} {pins:List (Addr×Obj)} {σ:St} {H:Hp} {s:Shared} {a:Addr} {y:V} {o:Option V} (I:Inv X pins σ H s) (g:qfu H a y o):s.TypeIs (.ref a) "dict" :=by
 rcases g with ⟨kvs,k,e,_,_⟩ | ⟨kvs,k,b,e,_,_,_⟩
 ·obtain ⟨_,_,vs,_,dd⟩:=qgZ I.hok e
  exact dd.typeIs
 ·obtain ⟨_,_,xs,_,dd⟩:=qgX I.hok e
  exact dd.typeIs
def qrD (td ty:TE):TE:=fun σ H Q=>td σ H fun x H1=>ty σ H1 fun y H2=> ∃a v,x= .ref a∧qfu H2 a y (some v)∧Q v H2
def qtZ (ty td:TE):TE:=fun σ H Q=>ty σ H fun y H1=>td σ H1 fun x H2=> ∃a o,x= .ref a∧qfu H2 a y o∧Q (.bl o.isSome) H2
def qnY (ty td:TE):TE:=fun σ H Q=>ty σ H fun y H1=>td σ H1 fun x H2=> ∃a o,x= .ref a∧qfu H2 a y o∧Q (.bl (!o.isSome)) H2
def qse (td ty tv:TE):TS:=fun D σ H=>tv σ H fun v H1=>td σ H1 fun x H2=>ty σ H2 fun y H3=> ∃a H4,x= .ref a∧qlx H3 a y v H4∧D.nx σ H4
section
variable {X:Cx} {o i e value:Expr} {pos pos' tpos:Pos} {td ty tv:TE}
theorem qjT (hu:X.A.units+1<cLine) (ho:PE X o td) (hi:PE X i ty) (hs:qq7 i):PE X (.Subscript o i pos) (qrD td ty):=by
 intro pins s σ H Q I h
 refine qjj PySem.F.slot_dict_getitem.lookup hs (thn (ho pins s σ H _ I h) fun u s1 ⟨x,H1,I1,rx,q1⟩=>thn (hi pins s1 σ H1 _ I1 q1) fun iv s2 ⟨y,H2,I2,ry,a,v,ex,g,q2⟩=> ?_)
 subst ex
 obtain rfl:u=Value.ref a:=rx
 exact ⟨qg0 I2 g,qk5 hu I2 g ry fun w' s3 I3 rw'=>⟨v,H2,I3,rw',q2⟩⟩
theorem qql (hu:X.A.units+1<cLine) (hi:PE X i ty) (ho:PE X o td):PC X .In i o (qtZ ty td):=by
 intro pins s σ H Q I h
 refine thn (hi pins s σ H _ I h) fun iv s1 ⟨y,H1,I1,ry,q1⟩=>thn (ho pins s1 σ H1 _ I1 q1) fun u s2 ⟨x,H2,I2,rx,a,ov,ex,g,q2⟩=> ?_
 subst ex
 obtain rfl:u=Value.ref a:=rx
 exact quG hu I2 g ry fun s3 I3=>⟨.bl ov.isSome,H2,I3,rfl,q2⟩
theorem qjX (hu:X.A.units+1<cLine) (hi:PE X i ty) (ho:PE X o td):PC X .NotIn i o (qnY ty td):=by
 intro pins s σ H Q I h
 refine thn (hi pins s σ H _ I h) fun iv s1 ⟨y,H1,I1,ry,q1⟩=>thn (ho pins s1 σ H1 _ I1 q1) fun u s2 ⟨x,H2,I2,rx,a,ov,ex,g,q2⟩=> ?_
 subst ex
 obtain rfl:u=Value.ref a:=rx
 exact qpe hu I2 g ry fun s3 I3=>⟨.bl (!ov.isSome),H2,I3,rfl,q2⟩
theorem qoe (hu:X.A.units+1<cLine) (ho:PE X o td) (hi:PE X i ty) (hv:PE X value tv) (hs:swapsWith value (some (.Subscript o i pos')) pos.line X.env=pure false):
  PS X (.Assign [.Subscript o i pos'] value pos) (qse td ty tv):=by
 intro pins s σ H D I h
 refine wpAny_Assign_Subscript (thn (hv pins s σ H _ I h) fun r s1 ⟨v,H1,I1,rv,q1⟩=>thn (ho pins s1 σ H1 _ I1 q1) fun u s2 ⟨x,H2,I2,rx,q2⟩=>thn (hi pins s2 σ H2 _ I2 q2) fun iv s3 ⟨y,H3,I3,ry,a,H4,ex,g,q3⟩=> ?_) hs
 subst ex
 obtain rfl:u=Value.ref a:=rx
 exact qk4 hu I3 g ry rv fun s4 I4=>⟨σ,H4,I4,q3⟩
end
theorem qmQ {P:Program} {w:World} {H:Hp} (h:Heap) (hb:sysModules<h.objs.size):qa2 P w H (h.push { cls:=.type "dict",data:=.dict #[] }) h.objs.size (.dK []):=
 ⟨Nat.zero_le _,beq_eq_false_iff_ne.mpr (Ne.symm (Nat.ne_of_lt hb)),[],.nil,Heap.DictOf.new h⟩
def qpQ:TE:=fun _ H Q=> ∀p,H p=none→Q (.ref p) (upd H p (.dK []))
section
variable {X:Cx} {pos:Pos}
theorem qmc:PE X (.Dict [] [] pos) qpQ:=fun pins s σ H Q I h=>
 wpAny_Dict_empty ⟨.ref s.heap.objs.size,_,I.laid (a:=s.heap.objs.size) (o:=.dK []) (t':=s.toks) (fun _ _ q=>Heap.get?_push_of_some _ q) (Nat.le_refl _) (qmQ s.heap I.big),rfl,h _ (I.hok.fresh (Nat.le_refl _))⟩
end
structure M1 (X:Cx) (o:Expr) (m:Str) (apos:Pos) (e:Expr) (cpos:Pos):Prop where
 base:attributeBase o m X.env (eval o X.env)=eval o X.env
 few:((backTo cpos (starEach [e] X.env)).all (fun x=> !x.1)&&(backToKw cpos (keywordEach [] X.env)).all (fun x=>x.1.isSome)
  &&decide (([e]:List Expr).length+([]:List Keyword).length+(if ([]:List Keyword).isEmpty then 0 else 1)<30))=true
 line:(apos.endLine==cpos.line)=true
 trees:backTo cpos (starEach [e] X.env)=[(false,eval e X.env)]
structure M2 (X:Cx) (o:Expr) (m:Str) (apos:Pos) (e f:Expr) (cpos:Pos):Prop where
 base:attributeBase o m X.env (eval o X.env)=eval o X.env
 few:((backTo cpos (starEach [e,f] X.env)).all (fun x=> !x.1)&&(backToKw cpos (keywordEach [] X.env)).all (fun x=>x.1.isSome)
  &&decide (([e,f]:List Expr).length+([]:List Keyword).length+(if ([]:List Keyword).isEmpty then 0 else 1)<30))=true
 line:(apos.endLine==cpos.line)=true
 trees:backTo cpos (starEach [e,f] X.env)=[(false,eval e X.env),(false,eval f X.env)]
def IsD (H:Hp) (a:Addr):Prop:=(∃kvs,Rd H a (.dK kvs))∨∃kvs,Rd H a (.dT kvs)
theorem qqH {X:Cx} {pins:List (Addr×Obj)} {σ:St} {H:Hp} {s:Shared} {a:Addr} (I:Inv X pins σ H s) (d:IsD H a):
  s.TypeIs (.ref a) "dict" ∧(∀b,Value.ref a= .ref b→∃ob,s.heap.get? b=some ob∧ob.dict=none)∧(a==sysModules)=false:=by
 rcases d with ⟨kvs,e⟩ | ⟨kvs,e⟩
 ·obtain ⟨_,hd,vs,_,dd⟩:=qgZ I.hok e
  refine ⟨dd.typeIs,fun b q=> ?_,hd⟩
  cases q
  obtain ⟨ob,_,_,h1,h2,_⟩:=dd
  exact ⟨ob,h1,h2.2.1⟩
 ·obtain ⟨_,hd,xs,_,dd⟩:=qgX I.hok e
  refine ⟨dd.typeIs,fun b q=> ?_,hd⟩
  cases q
  obtain ⟨ob,_,_,h1,h2,_⟩:=dd
  exact ⟨ob,h1,h2.2.1⟩
section
variable {X:Cx} {pins:List (Addr×Obj)} {σ:St} {H:Hp} {s:Shared} {a:Addr} {y d:V} {u r:Value} {o:Option V} {A:Around} {E:Value→Shared→Prop}
theorem qq0 {Q:Value→Shared→Prop} (hu:A.units+1<cLine) (I:Inv X pins σ H s) (g:qfu H a y o) (ry:RelV y u) (rd:RelV d r) (h: ∀w' s',Inv X pins σ H s'→RelV (o.getD d) w'→Q w' s'):
  wpAny (model X.prog X.w) A (call (.builtin "dict.get") [.ref a,u,r]) Q E s:=by
 rcases g with ⟨kvs,k,e,ey,l⟩ | ⟨kvs,k,b,e,ey,eb,l⟩
 ·subst ey
  obtain ⟨z,hd,vs,rel,dd⟩:=qgZ I.hok e
  refine call_meetsIn PySem.F.slot_dict_get dd.typeIs PySem.F.entry_dict_get (PySem.F.args_dict_get_3 _ _ _) (meets_dict_get_default (qaI X.prog X.w) a (qej ry) hd r) ⟨_,dd.mapOf,h _ _ (I.tok _) ?_⟩
  rw[l]
  exact (rel.val k).getD rd
 ·subst ey
  cases (show u=Value.ref b from ry)
  obtain ⟨z,hd,xs,rel,dd⟩:=qgX I.hok e
  refine call_meetsIn PySem.F.slot_dict_get dd.typeIs PySem.F.entry_dict_get (PySem.F.args_dict_get_3 _ _ _) (meetsH_dict_get_default (tupleKind (qaI X.prog X.w)) a b hd r) ⟨tupleKind_room_in1 hu,k,xs,qeL I.hok eb,dd,h _ _ (I.tok _) ?_⟩
  rw[l]
  exact (rel.val k).getD rd
end
def qpR (td ty tx:TE):TE:=fun σ H Q=>td σ H fun x H1=> ∃a,x= .ref a∧IsD H1 a∧ty σ H1 fun y H2=>tx σ H2 fun z H3=> ∃o,qfu H3 a y o∧Q (o.getD z) H3
section
variable {X:Cx} {o e f:Expr} {apos cpos:Pos} {td ty tx:TE}
theorem qmd (hu:X.A.units+1<cLine) (ho:PE X o td) (he:PE X e ty) (hf:PE X f tx) (m:M2 X o "get" apos e f cpos):PE X (.Call (.Attribute o "get" apos) [e,f] [] cpos) (qpR td ty tx):=by
 intro pins s σ H Q I h
 refine wpAny_Call_method m.base m.few m.line PySem.F.plainAttrs_dict PySem.F.slot_dict_get PySem.F.type_dict_get (thn (ho pins s σ H _ I h) fun u s1 ⟨x,H1,I1,rx,a,ex,d,q1⟩=> ?_)
 subst ex
 obtain rfl:u=Value.ref a:=rx
 obtain ⟨t1,t2,_⟩:=qqH I1 d
 refine ⟨t1,t2,?_⟩
 rw[m.trees]
 refine Calls.callWith_builtin rfl (Calls.evalArgs_plain (Calls.spliced_cons (thn (he pins s1 σ H1 _ I1 q1) fun iv s2 ⟨y,H2,I2,ry,q2⟩=>
  Calls.spliced_cons (thn (hf pins s2 σ H2 _ I2 q2) fun fv s3 ⟨z,H3,I3,rz,ov,g,q3⟩=>Calls.spliced_nil ?_))))
 exact qq0 hu I3 g ry rz fun w' s4 I4 rw'=>⟨_,H3,I4,rw',q3⟩
end
section
variable {X:Cx} {pins:List (Addr×Obj)} {σ:St} {H:Hp} {s:Shared} {a:Addr} {kvs:List (Key×V)} {A:Around} {E:Value→Shared→Prop}
end
section
variable {X:Cx} {pins:List (Addr×Obj)} {σ:St} {H:Hp} {s:Shared} {a:Addr} {y:V} {u:Value} {A:Around} {E:Value→Shared→Prop}
end
end L2
namespace L2
open PySem PySem.Spec PyProof.Rows
section
variable {X:Cx}
end
section
variable {κ:Type} [DecidableEq κ]
end
end L2
end
section
namespace RH
open PySem L2
theorem qqC {b:Bool} {A B:Prop} (h:b=true) (hA:A):if b=true then A else B:=by rw[if_pos h]; exact hA
theorem qqE {b:Bool} {A B:Prop} (h:b=false) (hB:B):if b=true then A else B:=by rw[if_neg (by rw[h]; decide)]; exact hB
theorem qlX {H:Hp} {D:Addr} {o:HO} (h:H D=none):qm4 H (upd H D o):=fun b u e=>by
 rw[qag (qap e h)]
 exact e
theorem qhO {X:Cx} (K:PySem.W.Frag) (h:X.K=K):IxR X (qsh K):=by rw[←h]; exact qkt
theorem fr_ok {X:Cx} {sc sd:Scope} (hX:X.env.scope=sd) (h:(sc.names.all fun y=>y.2 != .free||(sd.names.lookup y.1==some .cell))=true): ∀y∈sc.names,y.2= .free→X.env.kindOf y.1=some .cell∨X.env.kindOf y.1=some .free:=by
 intro y hy e
 have h1:=List.all_eq_true.mp h y hy
 rw[e] at h1
 have h2:sd.names.lookup y.1=some .cell:=by simpa using h1
 refine .inl ?_
 show X.env.scope.names.lookup y.1=some .cell
 rw[hX]
 exact h2
abbrev Rw:=Int×Str×Int
def qpL (r:Rw):List V:=[.int r.1,.str r.2.1,.int r.2.2]
def qbA (H:Hp) (xs:List V) (rs:List Rw):Prop:=xs.length=rs.length∧∀(i:Nat) (x:V) (r:Rw),xs[i]? =some x→rs[i]? =some r→∃t,x= .ref t∧H t=some (.tup (qpL r))
theorem qbA.nil {H:Hp}:qbA H [] []:=⟨rfl,fun i x r a=>by simp at a⟩
theorem qbA.get {H:Hp} {xs:List V} {rs:List Rw} (h:qbA H xs rs) {i:Nat} {x:V} (e:xs[i]? =some x): ∃r t,rs[i]? =some r∧x= .ref t∧H t=some (.tup (qpL r)):=by
 have hi:i<rs.length:=by rw[←h.1]; exact (List.getElem?_eq_some_iff.mp e).1
 obtain ⟨t,a,b⟩:=h.2 i x rs[i] e (List.getElem?_eq_getElem hi)
 exact ⟨rs[i],t,List.getElem?_eq_getElem hi,a,b⟩
end RH
end
section
namespace RH
open PySem L2
def qpD (rs:List Rw) (k:Str):List Int:=(rs.filter fun r=>decide (r.2.1=k)).map (·.2.2)
theorem qlm (rs:List Rw) (r:Rw) (k:Str):qpD (rs++[r]) k=qpD rs k++if r.2.1=k then [r.2.2] else []:=by
 unfold qpD
 rw[List.filter_append,List.map_append]
 by_cases c:r.2.1=k
 ·simp[c]
 ·simp[c]
def outT (g:List Int→Rw→Option Rw) (rs:List Rw) (i:Nat):List Rw:=(List.range i).filterMap fun j=>(rs[j]?).bind fun r=>g (qpD (rs.take j) r.2.1) r
def qto (st:List Int→Option Int) (kvs:List (Key×V)) (rs:List Rw):Prop:=(∀k:Str,qcO kvs (Sum.inr k)=(st (qpD rs k)).map V.int)∧kvs.length≤rs.length
theorem ql2 (kvs:List (Key×V)) (k:Key) (v:V):(qdk kvs k v).length≤kvs.length+1:=by
 unfold qdk
 split
 ·simp
 ·simp
theorem qto.put {st:List Int→Option Int} {kvs:List (Key×V)} {rs:List Rw} {r:Rw} {n:Int} (h:qto st kvs rs) (hn:st (qpD rs r.2.1++[r.2.2])=some n):qto st (qdk kvs (Sum.inr r.2.1) (.int n)) (rs++[r]):=by
 refine ⟨fun k=> ?_,by have:=ql2 kvs (Sum.inr r.2.1) (.int n); rw[List.length_append,List.length_singleton]; have:=h.2; lia⟩
 rw[qlG,qlm]
 by_cases c:k=r.2.1
 ·subst c
  rw[if_pos rfl,if_pos rfl,hn]
  rfl
 ·rw[if_neg (fun z=>c (by injection z)),if_neg (fun z=>c z.symm),List.append_nil]
  exact h.1 k
end RH
end
section
namespace RH
open PySem PySem.Spec PyProof.Rows L2
def pickL {α:Type} (xs:List α) (lo hi st:Option Int):List α:=(sliceRange (sliceBounds lo hi st xs.length).1 (sliceBounds lo hi st xs.length).2.1 (sliceBounds lo hi st xs.length).2.2).filterMap (xs[·]?)
theorem qnU {xs:List V} {us:List Value} (r:qa1 xs us) (i:Nat):(xs[i]? =none∧us[i]? =none)∨∃x u,xs[i]? =some x∧us[i]? =some u∧RelV x u:=by
 induction r generalizing i with
 | nil=>exact .inl ⟨rfl,rfl⟩
 | cons h _ ih=>
  cases i with
  | zero=>exact .inr ⟨_,_,rfl,rfl,h⟩
  | succ i=>exact ih i
theorem vals_pick {xs:List V} {us:List Value} (r:qa1 xs us): ∀l:List Nat,qa1 (l.filterMap (xs[·]?)) (l.filterMap (us[·]?))
 | []=>.nil
 | i::l=>by
  rcases qnU r i with ⟨e1,e2⟩ | ⟨x,u,e1,e2,h⟩
  ·rw[List.filterMap_cons_none e1,List.filterMap_cons_none e2]
   exact vals_pick r l
  ·rw[List.filterMap_cons_some e1,List.filterMap_cons_some e2]
   exact .cons h (vals_pick r l)
theorem pe_slice3 {X:Cx} {e ste:Expr} {lo hi:Option Expr} {te:TE} {tl th ts:TO} {p2 pos:Pos} (he:PE X e te) (hl:PO X lo tl) (hu:PO X hi th) (hst:PO X (some ste) ts):
  PE X (.Subscript e (.Slice lo hi (some ste) p2) pos) (fun σ H Q=>te σ H fun x H1=>tl σ H1 fun l H2=>th σ H2 fun u H3=>ts σ H3 fun st H4=>st≠some 0∧∃a xs,x= .ref a∧SqL X.K H4 a xs∧∀p,H4 p=none→Q (.ref p) (upd H4 p (.lst (pickL xs l u st)))):=by
 intro pins s σ H Q I h
 refine Subscript_ (thn (he pins s σ H _ I h) fun v s1 ⟨x,H1,I1,r1,q1⟩=> ?_)
 refine wpAny_Slice (thn (hl pins s1 σ H1 _ I1 q1) fun vl s2 ⟨l,H2,I2,pl,q2⟩=>thn (hu pins s2 σ H2 _ I2 q2) fun vu s3 ⟨u,H3,I3,pu,q3⟩=>thn (hst pins s3 σ H3 _ I3 q3) fun vs s4 ⟨st,H4,I4,ps,n0,a,xs,ex,hx,q4⟩=> ?_)
 subst ex
 cases r1
 have I5:Inv X pins σ H4 { s4 with heap:=s4.heap.push { cls:=.type "slice",data:=.fields #[vl,vu,vs] } }:=I4.kept (t':=s4.toks) fun b ob q=>Heap.get?_push_of_some _ q
 obtain ⟨its,r,ht,hz⟩:=I5.list hx
 have hlen:=r.length
 refine tail_any (ops:=[.ref a,.ref s4.heap.objs.size]) (T:= "list") ht.isList.typeIs slot_list_getitem.lookup ?_ (by with_unfolding_all rfl)
 refine wpAny_getItem_list_slice ht.isList (Heap.IsSliceOf.new ..) pl pu ps n0 ?_ (by rw[List.size_toArray]<;>lia)
 have ep:slicePick its.toArray l u st=(pickL its l u st).toArray:=by
  unfold slicePick pickL
  simp
 rw[ep]
 refine ⟨.ref _,_,I5.laid (t':=s4.toks) (o:=.lst (pickL xs l u st)) (fun b ob q=>Heap.get?_push_of_some _ q) (Nat.le_refl _) ?_,rfl,q4 _ (I5.hok.fresh (Nat.le_refl _))⟩
 have rv:qa1 (pickL xs l u st) (pickL its l u st):=by
  unfold pickL
  rw[hlen]
  exact vals_pick r _
 have sz:(pickL its l u st).length≤its.length:=by
  have:=slicePick_size_le its.toArray l u st
  rw[ep] at this
  simpa using this
 exact ⟨by rw[rv.length]; lia,_,0,rv,Heap.get?_push_size _ rfl⟩
theorem qbA.cons {H:Hp} {xs:List V} {rs:List Rw} {t:Addr} {r:Rw} (h:qbA H xs rs) (ht:H t=some (.tup (qpL r))):qbA H (.ref t::xs) (r::rs):=by
 refine ⟨by simp[h.1],fun i x q a b=> ?_⟩
 cases i with
 | zero=>
  simp at a b
  subst a b
  exact ⟨t,rfl,ht⟩
 | succ i=>exact h.2 i x q (by simpa using a) (by simpa using b)
theorem qbA.picked {H:Hp} {xs:List V} {rs:List Rw} (h:qbA H xs rs): ∀l:List Nat,qbA H (l.filterMap (xs[·]?)) (l.filterMap (rs[·]?))
 | []=>qbA.nil
 | i::l=>by
  cases e:xs[i]? with
  | none=>
   have e2:rs[i]? =none:=by
    rw[List.getElem?_eq_none_iff] at e⊢
    rw[←h.1]; exact e
   rw[List.filterMap_cons_none e,List.filterMap_cons_none e2]
   exact qbA.picked h l
  | some x=>
   obtain ⟨r,t,er,rfl,ht⟩:=h.get e
   rw[List.filterMap_cons_some e,List.filterMap_cons_some er]
   exact (qbA.picked h l).cons ht
theorem qbA.pickL {H:Hp} {xs:List V} {rs:List Rw} (h:qbA H xs rs) (lo hi st:Option Int):qbA H (RH.pickL xs lo hi st) (RH.pickL rs lo hi st):=by
 unfold RH.pickL
 rw[h.1]
 exact h.picked _
end RH
end
section
namespace L2
open PySem PySem.Spec PyProof.Rows
end L2
namespace RH
open PySem L2
end RH
end
section
namespace RH
open PySem PySem.Spec PyProof.Rows L2
section
variable {X:Cx}
theorem VEq.row {H:Hp} {t t':Addr} {r:Rw} (hu:X.A.units+2<cLine) (h1:H t=some (.tup (qpL r))) (h2:H t'=some (.tup (qpL r))):VEq X H (.ref t) (.ref t') true:=by
 intro pins σ s u v I ru rv
 cases ru; cases rv
 by_cases z:t=t'
 ·subst z
  exact SeqAt.EqAt.same _
 ·obtain ⟨i1,r1,p1,_⟩:=I.tuple (SqT.of h1)
  obtain ⟨i2,r2,p2,_⟩:=I.tuple (SqT.of h2)
  refine SeqAt.EqAt.of_refs z ?_
  have l1:=r1.length
  have l2:=r2.length
  have q:=SeqAt.RcAt.tuples (A:=X.A.in1) (e:=fun _=>true) p1 p2 (by show X.A.units+1<cLine; lia) (fun j a1 a2=> ?_)
  ·have e:((List.range (min i1.toArray.size i2.toArray.size)).all (fun _=>true)&&i1.toArray.size==i2.toArray.size)=true:=by
    simp[←l1,←l2]
   rw[e] at q
   exact q
  ·have hi: ∀(i:Int) (t u:Tok),SeqAt.EqAt X.A.in1.in1 s (.int i t) (.int i u) true:=fun i t u=>by
    have h:=SeqAt.EqAt.int_int (A:=X.A.in1.in1) (s:=s) i t i u
    rw[beq_self_eq_true] at h
    exact h
   have hs: ∀(i:Str) (t u:Tok),SeqAt.EqAt X.A.in1.in1 s (.str i t) (.str i u) true:=fun i t u=>by
    have h:=SeqAt.EqAt.str_str (A:=X.A.in1.in1) (s:=s) i t i u
    rw[beq_self_eq_true] at h
    exact h
   cases r1 with
   | cons ra ra'=>cases ra' with
    | cons rb rb'=>cases rb' with
     | cons rc rc'=>cases rc' with
      | nil=>cases r2 with
       | cons sa sa'=>cases sa' with
        | cons sb sb'=>cases sb' with
         | cons sc sc'=>cases sc' with
          | nil=>
           obtain ⟨_,rfl⟩:=ra
           obtain ⟨_,rfl⟩:=rb
           obtain ⟨_,rfl⟩:=rc
           obtain ⟨_,rfl⟩:=sa
           obtain ⟨_,rfl⟩:=sb
           obtain ⟨_,rfl⟩:=sc
           match j,a1 with
           | 0,_=>exact hi _ _ _
           | 1,_=>exact hs _ _ _
           | 2,_=>exact hi _ _ _
           | n+3,a1=>exact absurd a1 (by simp)
end
end RH
end
section
namespace St
open PySem PySem.W PySem.Calls PyProof.Rows
section
variable {prog:Program} {w:World} {A:Around} {E:Value→Shared→Prop} {s:Shared} {D:Addr} {vs:List Value} {kz:List Int} {P:PySem.Fin→Shared→Prop} {h0:Heap}
theorem qgD {n:Nat} (h:n<2):qew kz n (List.toArray (List.range n)):=by
 refine ⟨⟨by simp,fun i hi=> ?_,fun i q1 q2=>by lia⟩,fun i j hij hj=>by lia⟩
 unfold g
 rw[Array.getD_eq_getD_getElem?]
 simp[hi]
theorem qoC {n:Nat} {κ:SortKind} (ho:s.heap.get? D=some (seqObj "list" vs.toArray n)) (hlen:kz.length=vs.length) (h64:vs.length<64) (kp:Kp h0 s.heap) (hD0:h0.get? D=none)
  (kind: ∀s':Shared,Kp h0 s'.heap→2≤vs.length→∀Q:SortKind→Shared→Prop,Q κ s'→wpAny (model prog w) A (keyKind' vs.toArray) Q E s')
  (cmp: ∀s':Shared,Kp h0 s'.heap→∀i j,i<vs.length→j<vs.length→∀C:Bool→Shared→Prop,C (decide (kz.getD i 0<kz.getD j 0)) s'→wpAny (model prog w) A (keyLt' κ (vs.getD i Value.none) (vs.getD j Value.none)) C (fun _ _=>False) s')
  (h: ∀h' tk c (p:Array Nat),Kp h0 h'→qew kz vs.length p→h'.get? D=some (seqObj "list" (List.toArray (p.toList.map fun i=>vs.getD i Value.none)) c)→P (.done (.ret .none)) { s with heap:=h',toks:=tk }):
  wpAny (model prog w) A (Builtin.«list.sort» ⟨[.ref D],[]⟩) P E s:=by
 rw[list_sort_plain]
 have s1:=Heap.SameBut.update s.heap D (Obj.mapSeq fun _=>(#[]:Array Value))
 obtain ⟨e1,ho1⟩: ∃e1,(s.heap.update D (Obj.mapSeq fun _=>(#[]:Array Value))).get? D=some (seqObj "list" #[] e1):=⟨_,get?_update_seq ho fun _=> #[]⟩
 refine wpAny_bind (listItems_at ho rfl ?_)
 refine wpAny_bind (listUpdate_at ho rfl ?_ (by rw[List.size_toArray,sizeLine_eq]; lia) (Nat.zero_le _))
 refine wpAny_bind (seqEpoch_at ho1 rfl ?_)
 generalize hH2:s.heap.update D (Obj.mapSeq fun _=>(#[]:Array Value))=H2 at ho1 s1⊢
 have kp3:Kp h0 H2:=fun b o z=>(s1.2 b (fun q=>by rw[q,hD0] at z; cases z)).trans (kp b o z)
 refine wpAny_bind (wpAny_newTuple ?_ (by show vs.length≤_; rw[sizeLine_eq]; lia))
 refine wpAny_bind (wpAny_newList ?_ (Nat.zero_le _))
 refine wpAny_holding ?_
 generalize hH3:(H2.push (seqObj "tuple" vs.toArray 0)).push (seqObj "list" #[] 0)=H3
 have hD3:H3.get? D=some (seqObj "list" #[] e1):=by rw[←hH3]; exact Heap.get?_push_of_some _ (Heap.get?_push_of_some _ ho1)
 have kp4:Kp h0 H3:=fun b o z=>by rw[←hH3]; exact Heap.get?_push_of_some _ (Heap.get?_push_of_some _ (kp3 b o z))
 have fin: ∀(st:SortSt) (p:Array Nat),qew kz vs.length p→(arrOf st).map (·.2)=List.toArray (p.toList.map fun i=>vs.getD i Value.none)→failedOf st=none→
   wpAny (model prog w) A (do
    let touched:=(←seqEpoch D) != e1
    Builtin.List.listUpdate (.ref D) fun _=>(arrOf st).map (·.2)
    if let some e:=failedOf st then rule "list.sort.comparison-raised"; throw e
    if touched then rule "list.sort.modified"; raiseError "ValueError" "list modified during sort"
    ret .none) P E { s with heap:=H3 }:=fun st p ho' har hfl=>by
  have hsz:(p.toList.map fun i=>vs.getD i Value.none).length=vs.length:=by rw[List.length_map,Array.length_toList,ho'.1.sz]
  refine wpAny_bind (seqEpoch_at hD3 rfl ?_)
  rw[har]
  refine wpAny_bind (listUpdate_at hD3 rfl ?_ (Nat.zero_le _) (by show (List.toArray _).size≤_; rw[List.size_toArray,hsz,sizeLine_eq]; lia))
  rw[hfl]
  simp only[bne_self_eq_false,Bool.false_eq_true,if_false]
  have hfin: ∃c,(H3.update D (Obj.mapSeq fun _=>List.toArray (p.toList.map fun i=>vs.getD i Value.none))).get? D=some (seqObj "list" (List.toArray (p.toList.map fun i=>vs.getD i Value.none)) c):=⟨_,get?_update_seq hD3 fun _=>List.toArray (p.toList.map fun i=>vs.getD i Value.none)⟩
  obtain ⟨c,hc⟩:=hfin
  refine wpAny_pure (h _ _ c p (fun b o q=> ?_) ho' hc)
  have nD:b≠D:=fun z=>by rw[z,hD0] at q; cases q
  exact ((Heap.SameBut.update H3 D _).2 b nD).trans (kp4 b o q)
 by_cases h2:vs.toArray.size<2
 ·rw[if_pos h2,if_pos h2]
  refine wpAny_bind (wpAny_pure ?_)
  dsimp only
  rw[StateT.run_pure]
  refine wpAny_bind (wpAny_pure ?_)
  rw[List.size_toArray] at h2
  refine fin _ _ (qgD h2) ?_ rfl
  show (vs.toArray.zip vs.toArray).map (·.2)=_
  apply Array.toList_inj.mp
  rw[Array.toList_map,ksk_zip,List.toList_toArray,List.toList_toArray]
  rw[show (vs.zip vs).map (fun x:Value×Value=>x.2)=vs from List.map_snd_zip (by lia)]
  apply List.ext_getElem
  ·simp
  ·intro i h3 h4
   simp[List.getElem?_eq_getElem h3]
 ·rw[if_neg h2,if_neg h2]
  rw[List.size_toArray] at h2
  refine wpAny_bind (kind { s with heap:=H3 } kp4 (by lia) _ ?_)
  have run:=kat_run (prog:=prog) (w:=w) (A:=A) (E:=E) (s:={ s with heap:=H3 }) (κ:=κ) (ks:=vs) (vs:=vs) (Q:=fun st s'=>s'={ s with heap:=H3 }∧∃p,qew kz vs.length p∧(arrOf st).map (·.2)=List.toArray (p.toList.map fun i=>vs.getD i Value.none)∧failedOf st=none)
   (G:=fun p s'=>s'={ s with heap:=H3 }∧qew kz vs.length p) rfl (by lia) h64 (fun p st' s' a1 a2 a3 a4=>⟨a4.1,p,a4.2,kat_snds rfl a2,a3⟩)
   (qkG (ask:=qcN fun i=>kz.getD i 0) (N:=vs.length) (fun i j C hi hj hc=>cmp { s with heap:=H3 } kp4 i j hi hj C hc) (fun p hp=>⟨rfl,hp⟩) (qn5 (by lia)))
  refine wpAny_bind (wpAny_mono run (fun r s' hr=> ?_) fun _ _ x=>x)
  obtain ⟨rfl,p,ho',har,hf⟩:=hr
  exact fin _ p ho' har hf
end
end St
namespace St
open PySem PySem.W PySem.Calls PyProof.Rows
section
variable {prog:Program} {w:World} {A:Around} {E:Value→Shared→Prop} {s:Shared} {l:Addr} {vs:List Value} {kz:List Int} {Q:Value→Shared→Prop}
end
end St
end
section
namespace SR
section
variable {α β:Type}
def ins (k:α→Int) (r:α):List α→List α
 | []=>[r]
 | x::l=>if k x≤k r then x::ins k r l else r::x::l
def srt (k:α→Int) (l:List α):List α:=l.foldl (fun a r=>ins k r a) []
theorem qe1 {k:α→Int} {l:List α} {r:α}:srt k (l++[r])=ins k r (srt k l):=by
 unfold srt
 rw[List.foldl_append]
 rfl
theorem qkC {k:α→Int} {k':β→Int} {f:β→α} (h: ∀b,k' b=k (f b)) (r:β): ∀l:List β,(ins k' r l).map f=ins k (f r) (l.map f)
 | []=>rfl
 | x::l=>by
  show List.map f (if k' x≤k' r then x::ins k' r l else r::x::l)=(if k (f x)≤k (f r) then f x::ins k (f r) (l.map f) else f r::f x::l.map f)
  rw[h x,h r]
  by_cases c:k (f x)≤k (f r)
  ·rw[if_pos c,if_pos c,List.map_cons,qkC h r l]
  ·rw[if_neg c,if_neg c,List.map_cons,List.map_cons]
theorem qd4 {k:α→Int} {k':β→Int} {f:β→α} (h: ∀b,k' b=k (f b)) (l:List β):(srt k' l).map f=srt k (l.map f):=by
 have go: ∀(l a:List β),(l.foldl (fun a r=>ins k' r a) a).map f=(l.map f).foldl (fun a r=>ins k r a) (a.map f):=by
  intro l
  induction l with
  | nil=>intro a; rfl
  | cons x l ih=>
   intro a
   rw[List.foldl_cons,ih,List.map_cons,List.foldl_cons,qkC h]
 exact go l []
theorem qfc {k:α→Int} {r x:α}: ∀{l:List α},x∈ins k r l↔x=r∨x∈l
 | []=>by simp[ins]
 | y::l=>by
  unfold ins
  by_cases c:k y≤k r
  ·rw[if_pos c,List.mem_cons,qfc,List.mem_cons]
   constructor
   ·rintro (h | h | h)
    ·exact .inr (.inl h)
    ·exact .inl h
    ·exact .inr (.inr h)
   ·rintro (h | h | h)
    ·exact .inr (.inl h)
    ·exact .inl h
    ·exact .inr (.inr h)
  ·rw[if_neg c,List.mem_cons]
theorem qeK {k:α→Int} {r:α}: ∀{l:List α},(ins k r l).length=l.length+1
 | []=>rfl
 | y::l=>by
  unfold ins
  by_cases c:k y≤k r
  ·rw[if_pos c,List.length_cons,qeK,List.length_cons]
  ·rw[if_neg c]; rfl
theorem qbT {k:α→Int} {x:α} (l:List α):x∈srt k l↔x∈l:=by
 have go: ∀(l a:List α),x∈l.foldl (fun a r=>ins k r a) a↔x∈a∨x∈l:=by
  intro l
  induction l with
  | nil=>intro a; simp
  | cons y l ih=>
   intro a
   rw[List.foldl_cons,ih,qfc,List.mem_cons]
   constructor
   ·rintro ((h | h) | h)
    ·exact .inr (.inl h)
    ·exact .inl h
    ·exact .inr (.inr h)
   ·rintro (h | h | h)
    ·exact .inl (.inr h)
    ·exact .inl (.inl h)
    ·exact .inr h
 rw[show srt k l=l.foldl (fun a r=>ins k r a) [] from rfl,go]
 simp
theorem qdr {k:α→Int} (l:List α):(srt k l).length=l.length:=by
 have go: ∀(l a:List α),(l.foldl (fun a r=>ins k r a) a).length=a.length+l.length:=by
  intro l
  induction l with
  | nil=>intro a; simp
  | cons y l ih=>
   intro a
   rw[List.foldl_cons,ih,qeK,List.length_cons]
   lia
 have:=go l []
 simpa [srt] using this
def Ris (k:α→Int) (l:List α):Prop:=l.Pairwise fun a b=>k a≤k b
theorem qjA {k:α→Int} {r:α}: ∀{l:List α},Ris k l→Ris k (ins k r l)
 | [],_=>by simp[ins,Ris]
 | y::l,h=>by
  have h':=List.pairwise_cons.mp h
  unfold ins
  by_cases c:k y≤k r
  ·rw[if_pos c]
   refine List.pairwise_cons.mpr ⟨fun z hz=> ?_,qjA h'.2⟩
   rcases qfc.mp hz with q | q
   ·rw[q]; exact c
   ·exact h'.1 z q
  ·rw[if_neg c]
   refine List.pairwise_cons.mpr ⟨fun z hz=> ?_,h⟩
   rcases List.mem_cons.mp hz with q | q
   ·rw[q]; lia
   ·have:=h'.1 z q; lia
theorem qdi {k:α→Int} (l:List α):Ris k (srt k l):=by
 have go: ∀(l a:List α),Ris k a→Ris k (l.foldl (fun a r=>ins k r a) a):=by
  intro l
  induction l with
  | nil=>intro a h; exact h
  | cons y l ih=>intro a h; exact ih _ (qjA h)
 exact go l [] List.Pairwise.nil
theorem qkD {k:α→Int} {r:α}: ∀{l:List α},(∀x∈l,k x≤k r)→ins k r l=l++[r]
 | [],_=>rfl
 | y::l,h=>by
  unfold ins
  rw[if_pos (h y (List.mem_cons_self)),qkD fun x hx=>h x (List.mem_cons_of_mem _ hx)]
  rfl
theorem qn1 {k:α→Int}: ∀{l:List α},Ris k l→srt k l=l:=by
 intro l
 have go: ∀(l a:List α),Ris k (a++l)→l.foldl (fun a r=>ins k r a) a=a++l:=by
  intro l
  induction l with
  | nil=>intro a _; simp
  | cons y l ih=>
   intro a h
   have h2:=List.pairwise_append.mp h
   rw[List.foldl_cons,qkD (fun x hx=>h2.2.2 x hx y List.mem_cons_self),ih (a++[y]) (by rw[List.append_assoc]; exact h),List.append_assoc]
   rfl
 intro h
 exact go l [] h
end
end SR
end
section
namespace SR
section
variable {α:Type}
structure Ord (lt:α→α→Bool):Prop where
 irr: ∀a,lt a a=false
 tr: ∀a b c,lt a b=true→lt b c=true→lt a c=true
 tot: ∀a b,lt a b=false→lt b a=false→a=b
def qdj (lt:α→α→Bool) (as:List α) (a:α):Int:=(as.countP fun x=>lt x a:Nat)
theorem qga {p q:α→Bool} (h: ∀x,p x=true→q x=true): ∀l:List α,l.countP p≤l.countP q
 | []=>Nat.le_refl _
 | x::l=>by
  have ih:=qga h l
  rw[List.countP_cons,List.countP_cons]
  cases e:p x with
  | true=>rw[h x e]; simp; exact ih
  | false=>
   simp
   lia
theorem qf9 {p q:α→Bool} (h: ∀x,p x=true→q x=true) {a:α} (ha:p a=false) (hb:q a=true): ∀{l:List α},a∈l→l.countP p<l.countP q
 | x::l,hm=>by
  rw[List.countP_cons,List.countP_cons]
  have le:=qga h l
  rcases List.mem_cons.mp hm with rfl | hm
  ·rw[ha,hb]; simp; lia
  ·have ih:=qf9 h ha hb hm
   cases e:p x with
   | true=>rw[h x e]; simp; exact ih
   | false=>simp; lia
theorem qcC {lt:α→α→Bool} (o:Ord lt) {as:List α} {a b:α} (ha:a∈as) (hb:b∈as):decide (qdj lt as a<qdj lt as b)=lt a b:=by
 have up: ∀{a b:α},a∈as→lt a b=true→qdj lt as a<qdj lt as b:=fun {a b} ha h=>by
  unfold qdj
  have:=qf9 (p:=fun x=>lt x a) (q:=fun x=>lt x b) (fun x hx=>o.tr x a b hx h) (o.irr a) h ha
  lia
 cases h:lt a b with
 | true=>exact decide_eq_true (up ha h)
 | false=>
  refine decide_eq_false ?_
  cases h2:lt b a with
  | true=>have:=up hb h2; lia
  | false=>
   have:=o.tot a b h h2
   subst this
   lia
theorem qdP {lt:α→α→Bool} (o:Ord lt) {as:List α} {a b:α} (ha:a∈as) (hb:b∈as) (h:qdj lt as a=qdj lt as b):a=b:=by
 refine o.tot a b ?_ ?_
 ·rw[←qcC o ha hb]; exact decide_eq_false (by lia)
 ·rw[←qcC o hb ha]; exact decide_eq_false (by lia)
def qdG (lt:α→α→Bool) (as:List α):List α:=srt (qdj lt as) as
theorem qhz {k:α→Int} {r:α}: ∀l:List α,List.Perm (ins k r l) (r::l)
 | []=>List.Perm.refl _
 | x::l=>by
  show List.Perm (if k x≤k r then x::ins k r l else r::x::l) _
  by_cases c:k x≤k r
  ·rw[if_pos c]
   exact ((qhz l).cons x).trans (List.Perm.swap r x l)
  ·rw[if_neg c]
theorem qcn {k:α→Int} (l:List α):List.Perm (srt k l) l:=by
 have go: ∀(l a:List α),List.Perm (l.foldl (fun a r=>ins k r a) a) (a++l):=by
  intro l
  induction l with
  | nil=>intro a; simp
  | cons x l ih=>
   intro a
   rw[List.foldl_cons]
   refine (ih _).trans ?_
   refine ((qhz a).append_right l).trans ?_
   exact List.perm_middle.symm
 exact go l []
theorem qcj {k:α→Int}: ∀{l l':List α},(∀a∈l,∀b∈l,k a=k b→a=b)→Ris k l→Ris k l'→List.Perm l l'→l=l'
 | [],l',_,_,_,p=>(List.Perm.eq_nil p.symm).symm
 | x::l,[],_,_,_,p=>absurd (List.Perm.eq_nil p) (by simp)
 | x::l,y::l',hi,h1,h2,p=>by
  have a1:=List.pairwise_cons.mp h1
  have a2:=List.pairwise_cons.mp h2
  have hy:y∈x::l:=p.symm.subset List.mem_cons_self
  have hx:x∈y::l':=p.subset List.mem_cons_self
  have e:x=y:=by
   rcases List.mem_cons.mp hy with q | q
   ·exact q.symm
   ·rcases List.mem_cons.mp hx with r | r
    ·exact r
    ·have b1:=a1.1 y q
     have b2:=a2.1 x r
     exact hi x List.mem_cons_self y hy (by lia)
  subst e
  rw[qcj (fun a ha b hb=>hi a (List.mem_cons_of_mem _ ha) b (List.mem_cons_of_mem _ hb)) a1.2 a2.2 (p.cons_inv)]
theorem qbY {lt:α→α→Bool} (o:Ord lt) {as bs:List α} (p:List.Perm as bs):qdG lt as=qdG lt bs:=by
 have e:qdj lt as=qdj lt bs:=funext fun a=>by
  unfold qdj
  rw[p.countP_eq]
 unfold qdG
 rw[←e]
 refine qcj (k:=qdj lt as) (fun a ha b hb h=>qdP o ((qbT _).mp ha) ((qbT _).mp hb) h) (qdi _) (qdi _) ?_
 exact (qcn as).trans (p.trans (qcn bs).symm)
end
end SR
end
section
namespace L2
open PySem PySem.Spec PySem.Calls PyProof.Rows PySem.W
end L2
end
section
namespace PL
open PySem L2
inductive T where
 | non | bl (b:Bool) | int (i:Int) | str (s:Str) | tup (ts:List T) | lst (ts:List T) | dct (kvs:List (Key×T)) | dcf (kvs:List (Key×T)) | dtu (kvs:List (List Key×T)) | fn (x:Str) | scr (ns:List Int)
inductive Rs (α:Type) where
 | no | ok (a:α) | ex (c:Str)
@[inline] def Rs.bind {α β:Type}:Rs α→(α→Rs β)→Rs β
 | .no,_=>.no
 | .ok a,f=>f a
 | .ex c,_=>.ex c
instance:Monad Rs where
 pure:=Rs.ok
 bind:=Rs.bind
@[simp] theorem qad {α β:Type} (a:α) (f:α→Rs β):(Rs.ok a>>=f)=f a:=rfl
@[simp] theorem qow {α β:Type} (f:α→Rs β):((Rs.no:Rs α)>>=f)= .no:=rfl
@[simp] theorem qoc {α:Type} (a:α):(pure a:Rs α)= .ok a:=rfl
mutual
def Rep (K:PySem.W.Frag) (B:Hp):T→V→Prop
 | .non,v=>v= .non
 | .bl b,v=>v= .bl b
 | .int i,v=>v= .int i
 | .str s,v=>v= .str s
 | .tup ts,v=> ∃p vs,v= .ref p∧B p=some (.tup vs)∧qaL K B ts vs
 | .lst ts,v=> ∃p vs,v= .ref p∧B p=some (.lst vs)∧qaL K B ts vs
 | .dct kvs,v=> ∃p us,v= .ref p∧B p=some (.dK us)∧qbc K B kvs us
 | .dcf kvs,v=> ∃p o us,v= .ref p∧B p=some (.frz o (.dK us))∧qbc K B kvs us
 | .dtu kvs,v=> ∃p us,v= .ref p∧B p=some (.dT us)∧qbr K B kvs us
 | .fn x,v=> ∃f,v= .ref f∧PySem.W.nsIn K mainGlobals x=some (some (.ref f))
 | .scr ns,v=> ∃p,v= .ref p∧SqL K B p (ns.map V.int)
def qaL (K:PySem.W.Frag) (B:Hp):List T→List V→Prop
 | [],vs=>vs=[]
 | t::ts,vs=> ∃v r,vs=v::r∧Rep K B t v∧qaL K B ts r
def qbc (K:PySem.W.Frag) (B:Hp):List (Key×T)→List (Key×V)→Prop
 | [],vs=>vs=[]
 | (k,t)::ts,vs=> ∃v r,vs=(k,v)::r∧Rep K B t v∧qbc K B ts r
def qbr (K:PySem.W.Frag) (B:Hp):List (List Key×T)→List (List Key×V)→Prop
 | [],vs=>vs=[]
 | (k,t)::ts,vs=> ∃v r,vs=(k,v)::r∧Rep K B t v∧qbr K B ts r
end
def Le (B B':Hp):Prop:= ∀a o,B a=some o→B' a=some o
theorem Le.refl (B:Hp):Le B B:=fun _ _ h=>h
theorem Le.trans {A B C:Hp} (h:Le A B) (h':Le B C):Le A C:=fun a o e=>h' a o (h a o e)
theorem Le.sqT {K:PySem.W.Frag} {B B':Hp} {p:Addr} {vs:List V} (h:Le B B') (q:SqT K B p vs):SqT K B' p vs:=by
 rcases q with (q | ⟨o,q⟩) | q
 ·exact .inl (.inl (h _ _ q))
 ·exact .inl (.inr ⟨o,h _ _ q⟩)
 ·exact .inr q
theorem Le.sqL {K:PySem.W.Frag} {B B':Hp} {p:Addr} {vs:List V} (h:Le B B') (q:SqL K B p vs):SqL K B' p vs:=by
 rcases q with (q | ⟨o,q⟩) | q
 ·exact .inl (.inl (h _ _ q))
 ·exact .inl (.inr ⟨o,h _ _ q⟩)
 ·exact .inr q
mutual
theorem Rep.mono {K:PySem.W.Frag} {B B':Hp} (h:Le B B'): ∀{t:T} {v:V},Rep K B t v→Rep K B' t v
 | .non,_,r=>r
 | .bl _,_,r=>r
 | .int _,_,r=>r
 | .str _,_,r=>r
 | .tup _,_,r=>by
  unfold Rep at r⊢
  obtain ⟨p,vs,e,q,rs⟩:=r
  exact ⟨p,vs,e,h _ _ q,qaL.mono h rs⟩
 | .lst _,_,r=>by
  unfold Rep at r⊢
  obtain ⟨p,vs,e,q,rs⟩:=r
  exact ⟨p,vs,e,h _ _ q,qaL.mono h rs⟩
 | .dct _,_,r=>by
  unfold Rep at r⊢
  obtain ⟨p,vs,e,q,rs⟩:=r
  exact ⟨p,vs,e,h _ _ q,qbc.mono h rs⟩
 | .dcf _,_,r=>by
  unfold Rep at r⊢
  obtain ⟨p,o,vs,e,q,rs⟩:=r
  exact ⟨p,o,vs,e,h _ _ q,qbc.mono h rs⟩
 | .dtu _,_,r=>by
  unfold Rep at r⊢
  obtain ⟨p,vs,e,q,rs⟩:=r
  exact ⟨p,vs,e,h _ _ q,qbr.mono h rs⟩
 | .fn _,_,r=>by unfold Rep at r⊢; exact r
 | .scr _,_,r=>by
  unfold Rep at r⊢
  obtain ⟨p,e,q⟩:=r
  exact ⟨p,e,h.sqL q⟩
theorem qaL.mono {K:PySem.W.Frag} {B B':Hp} (h:Le B B'): ∀{ts:List T} {vs:List V},qaL K B ts vs→qaL K B' ts vs
 | [],_,r=>r
 | _::_,_,r=>by
  unfold qaL at r⊢
  obtain ⟨v,r',e,a,b⟩:=r
  exact ⟨v,r',e,Rep.mono h a,qaL.mono h b⟩
theorem qbc.mono {K:PySem.W.Frag} {B B':Hp} (h:Le B B'): ∀{ts:List (Key×T)} {vs:List (Key×V)},qbc K B ts vs→qbc K B' ts vs
 | [],_,r=>r
 | (_,_)::_,_,r=>by
  unfold qbc at r⊢
  obtain ⟨v,r',e,a,b⟩:=r
  exact ⟨v,r',e,Rep.mono h a,qbc.mono h b⟩
theorem qbr.mono {K:PySem.W.Frag} {B B':Hp} (h:Le B B'): ∀{ts:List (List Key×T)} {vs:List (List Key×V)},qbr K B ts vs→qbr K B' ts vs
 | [],_,r=>r
 | (_,_)::_,_,r=>by
  unfold qbr at r⊢
  obtain ⟨v,r',e,a,b⟩:=r
  exact ⟨v,r',e,Rep.mono h a,qbr.mono h b⟩
end
section
variable {K:PySem.W.Frag} {B:Hp}
theorem qaL.nil:qaL K B [] []:=by unfold qaL; rfl
theorem qaL.cons {t:T} {v:V} {ts:List T} {vs:List V} (h:Rep K B t v) (r:qaL K B ts vs):qaL K B (t::ts) (v::vs):=by unfold qaL; exact ⟨v,vs,rfl,h,r⟩
theorem qaL.inv {t:T} {ts:List T} {vs:List V} (h:qaL K B (t::ts) vs): ∃v r,vs=v::r∧Rep K B t v∧qaL K B ts r:=by unfold qaL at h; exact h
theorem qaL.inv0 {vs:List V} (h:qaL K B [] vs):vs=[]:=by unfold qaL at h; exact h
theorem qaL.length: ∀{ts:List T} {vs:List V},qaL K B ts vs→vs.length=ts.length
 | [],_,h=>by rw[h.inv0]; rfl
 | _::_,_,h=>by
  obtain ⟨v,r,rfl,_,h'⟩:=h.inv
  simp[qaL.length h']
theorem qaL.get: ∀{ts:List T} {vs:List V} {i:Nat} {t:T},qaL K B ts vs→ts[i]? =some t→∃v,vs[i]? =some v∧Rep K B t v
 | [],_,_,_,_,e=>by simp at e
 | _::_,_,0,_,h,e=>by
  obtain ⟨v,r,rfl,a,_⟩:=h.inv
  simp at e; subst e
  exact ⟨v,rfl,a⟩
 | _::_,_,i+1,t,h,e=>by
  obtain ⟨v,r,rfl,_,h'⟩:=h.inv
  obtain ⟨u,e1,e2⟩:=qaL.get (i:=i) h' (by simpa using e)
  exact ⟨u,by simpa using e1,e2⟩
theorem qaL.of_get {ts:List T} {vs:List V} (hl:vs.length=ts.length) (h: ∀(i:Nat) (t:T) (v:V),ts[i]? =some t→vs[i]? =some v→Rep K B t v):qaL K B ts vs:=by
 induction ts generalizing vs with
 | nil=>cases vs with
  | nil=>exact .nil
  | cons _ _=>cases hl
 | cons t ts ih=>cases vs with
  | nil=>cases hl
  | cons v vs=>exact .cons (h 0 t v rfl rfl) (ih (by simpa using hl) fun i t' v' a b=>h (i+1) t' v' (by simpa using a) (by simpa using b))
theorem qaL.append: ∀{ts us:List T} {vs ws:List V},qaL K B ts vs→qaL K B us ws→qaL K B (ts++us) (vs++ws)
 | [],_,_,_,h,h'=>by rw[h.inv0]; exact h'
 | _::_,_,_,_,h,h'=>by
  obtain ⟨v,r,rfl,a,b⟩:=h.inv
  exact .cons a (qaL.append b h')
theorem qaL.snoc {ts:List T} {vs:List V} {t:T} {v:V} (h:qaL K B ts vs) (r:Rep K B t v):qaL K B (ts++[t]) (vs++[v]):=h.append (.cons r .nil)
theorem qaL.take {ts:List T} {vs:List V} (n:Nat) (h:qaL K B ts vs):qaL K B (ts.take n) (vs.take n):=by
 refine .of_get (by simp[h.length]) fun i t v a b=> ?_
 rw[List.getElem?_take] at a b
 split at a
 ·rename_i hi
  rw[if_pos hi] at b
  obtain ⟨u,e1,e2⟩:=h.get a
  rw[b] at e1; cases e1; exact e2
 ·cases a
theorem qaL.drop {ts:List T} {vs:List V} (n:Nat) (h:qaL K B ts vs):qaL K B (ts.drop n) (vs.drop n):=by
 refine .of_get (by simp[h.length]) fun i t v a b=> ?_
 rw[List.getElem?_drop] at a b
 obtain ⟨u,e1,e2⟩:=h.get a
 rw[b] at e1; cases e1; exact e2
theorem qaL.getD {ts:List T} {vs:List V} (h:qaL K B ts vs) (j:Nat) (hj:j<ts.length):Rep K B (ts.getD j .non) (vs.getD j .non):=by
 obtain ⟨u,e1,e2⟩:=h.get (List.getElem?_eq_getElem hj)
 rw[List.getD_eq_getElem?_getD,List.getD_eq_getElem?_getD,e1,List.getElem?_eq_getElem hj]
 exact e2
end
structure Gam where
 P:Hp→Prop
 st: ∀H H':Hp,(∀a o,H a=some o→(∀xs,o≠.lst xs)→(∀xs,o≠.dK xs)→(∀xs,o≠.dT xs)→(∀C dx fs,o≠.ins C dx fs)→H' a=some o)→P H→P H'
structure GX (H H':Hp):Prop where
 hh: ∀a o,H a=some o→(∀ps,o≠.tbl ps)→H' a=some o
 dm: ∀a,H a≠none→H' a≠none
theorem GX.refl (H:Hp):GX H H:=⟨fun _ _ h _=>h,fun _ h=>h⟩
theorem GX.trans {H H1 H2:Hp} (a:GX H H1) (b:GX H1 H2):GX H H2:=⟨fun x o h n=>b.hh x o (a.hh x o h n) n,fun x h=>b.dm x (a.dm x h)⟩
structure qa0 (H B H' B':Hp):Prop where
 gx:GX H H'
 bb:Le B B'
 bh:Le B' H'
 bt: ∀a ps,B' a≠some (.tbl ps)
 nw: ∀a o,H a=some o→(∀vs,o≠.tup vs)→(∀ps,o≠.tbl ps)→B' a=B a
theorem nwo {H B B':Hp} (h: ∀a,H a≠none→B' a=B a): ∀a o,H a=some o→(∀vs,o≠HO.tup vs)→(∀ps,o≠HO.tbl ps)→B' a=B a:=fun a o z _ _=>h a (by rw[z]; simp)
theorem qa0.refl {H B:Hp} (h:Le B H) (t: ∀a ps,B a≠some (.tbl ps)):qa0 H B H B:=⟨.refl _,.refl _,h,t,fun _ _ _ _ _=>rfl⟩
theorem qa0.trans {H B H1 B1 H2 B2:Hp} (a:qa0 H B H1 B1) (b:qa0 H1 B1 H2 B2):qa0 H B H2 B2:=
 ⟨a.gx.trans b.gx,a.bb.trans b.bb,b.bh,b.bt,fun x o h n1 n2=>(b.nw x o (a.gx.hh x o h n2) n1 n2).trans (a.nw x o h n1 n2)⟩
theorem qa0.new {H B:Hp} {p:Addr} {o:HO} (h:Le B H) (t: ∀a ps,B a≠some (.tbl ps)) (hp:H p=none) (ho: ∀ps,o≠.tbl ps):qa0 H B (upd H p o) (upd B p o):=by
 have bp:B p=none:=by
  cases e:B p with
  | none=>rfl
  | some u=>rw[h _ _ e] at hp; cases hp
 refine ⟨⟨fun a u e _=>by rw[qag (qap e hp)]; exact e,fun a e z=> ?_⟩,fun a u e=>by rw[qag (qap e bp)]; exact e,fun a u e=> ?_,fun a ps e=> ?_,nwo fun a e=> ?_⟩
 ·by_cases q:a=p
  ·subst q; exact e hp
  ·rw[qag q] at z; exact e z
 ·by_cases q:a=p
  ·subst q; rw[qak] at e⊢; exact e
  ·rw[qag q] at e⊢; exact h _ _ e
 ·by_cases q:a=p
  ·subst q; rw[qak] at e; exact ho ps (Option.some.inj e)
  ·rw[qag q] at e; exact t a ps e
 ·rw[qag (fun z=>e (by rw[z]; exact hp))]
theorem qa0.own {H B:Hp} {p:Addr} {o:HO} (h:Le B H) (t: ∀a ps,B a≠some (.tbl ps)) (hp:H p=none):qa0 H B (upd H p o) B:=by
 refine ⟨⟨fun a u e _=>by rw[qag (qap e hp)]; exact e,fun a e z=> ?_⟩,.refl _,fun a u e=> ?_,t,nwo fun a e=>rfl⟩
 ·by_cases q:a=p
  ·subst q; exact e hp
  ·rw[qag q] at z; exact e z
 ·rw[qag (qap (h _ _ e) hp)]; exact h _ _ e
inductive Sl where
 | no | fz (t:T) | ow (ts:List T) | od (kvs:List (Key×T)) | ou (kvs:List (List Key×T)) | pd (kvs:List (Key×T)) | pu (kvs:List (List Key×T))
def qgq (K:PySem.W.Frag) (H0 H B:Hp) (pa:Addr):Sl→Option V→Prop
 | .no,_=>True
 | .fz t,o=> ∃v,o=some v∧Rep K B t v
 | .ow ts,o=> ∃p vs,o=some (.ref p)∧H0 p=none∧B p=none∧H p=some (.lst vs)∧qaL K B ts vs
 | .od kvs,o=> ∃p us,o=some (.ref p)∧H0 p=none∧B p=none∧H p=some (.dK us)∧qbc K B kvs us
 | .ou kvs,o=> ∃p us,o=some (.ref p)∧H0 p=none∧B p=none∧H p=some (.dT us)∧qbr K B kvs us
 | .pd kvs,o=> ∃p us,p=pa∧o=some (.ref p)∧H0 p=none∧B p=none∧H p=some (.dK us)∧qbc K B kvs us
 | .pu kvs,o=> ∃p us,p=pa∧o=some (.ref p)∧H0 p=none∧B p=none∧H p=some (.dT us)∧qbr K B kvs us
def Sl.own:Sl→Bool
 | .ow _=>true
 | .od _=>true
 | .ou _=>true
 | .pd _=>true
 | .pu _=>true
 | _=>false
structure Md where
 K:PySem.W.Frag
 G:Gam
 E:XK
 C:Str→Addr
 pa:Addr
abbrev Ro:=List Sl
structure Ev (M:Md) (H0 B0:Hp) (ρ:Ro) (σ:St) (H B:Hp):Prop where
 gr:qa0 H0 B0 H B
 gm:M.G.P H
 len:ρ.length=σ.length
 sl: ∀(i:Nat) (s:Sl),ρ[i]? =some s→qgq M.K H0 H B M.pa s (σ[i]?.join)
 ap: ∀(i j:Nat) (si sj:Sl) (p:Addr),i≠j→ρ[i]? =some si→ρ[j]? =some sj→si.own=true→sj.own=true→σ[i]?.join=some (.ref p)→σ[j]?.join≠some (.ref p)
section
variable {M:Md} {H0 B0 H B H' B':Hp} {ρ:Ro} {σ:St}
theorem qgq.grow {K:PySem.W.Frag} {pa:Addr} {s:Sl} {o:Option V} (h:qgq K H0 H B pa s o) (g:qa0 H B H' B'):qgq K H0 H' B' pa s o:=by
 cases s with
 | no=>trivial
 | fz t=>obtain ⟨v,e,r⟩:=h; exact ⟨v,e,r.mono g.bb⟩
 | ow ts=>
  obtain ⟨p,vs,e,h0,hb,hp,r⟩:=h
  exact ⟨p,vs,e,h0,by rw[g.nw p _ hp (by simp) (by simp)]; exact hb,g.gx.hh _ _ hp (by intro ps z; cases z),r.mono g.bb⟩
 | od ts=>
  obtain ⟨p,vs,e,h0,hb,hp,r⟩:=h
  exact ⟨p,vs,e,h0,by rw[g.nw p _ hp (by simp) (by simp)]; exact hb,g.gx.hh _ _ hp (by intro ps z; cases z),r.mono g.bb⟩
 | ou ts=>
  obtain ⟨p,vs,e,h0,hb,hp,r⟩:=h
  exact ⟨p,vs,e,h0,by rw[g.nw p _ hp (by simp) (by simp)]; exact hb,g.gx.hh _ _ hp (by intro ps z; cases z),r.mono g.bb⟩
 | pd ts=>
  obtain ⟨p,vs,e0,e,h0,hb,hp,r⟩:=h
  exact ⟨p,vs,e0,e,h0,by rw[g.nw p _ hp (by simp) (by simp)]; exact hb,g.gx.hh _ _ hp (by intro ps z; cases z),r.mono g.bb⟩
 | pu ts=>
  obtain ⟨p,vs,e0,e,h0,hb,hp,r⟩:=h
  exact ⟨p,vs,e0,e,h0,by rw[g.nw p _ hp (by simp) (by simp)]; exact hb,g.gx.hh _ _ hp (by intro ps z; cases z),r.mono g.bb⟩
theorem Ev.grow (v:Ev M H0 B0 ρ σ H B) (g:qa0 H B H' B') (m:M.G.P H'):Ev M H0 B0 ρ σ H' B':=
 ⟨v.gr.trans g,m,v.len,fun i s e=>(v.sl i s e).grow g,v.ap⟩
theorem Ev.bh (v:Ev M H0 B0 ρ σ H B):Le B H:=v.gr.bh
theorem Ev.bt (v:Ev M H0 B0 ρ σ H B): ∀a ps,B a≠some (.tbl ps):=v.gr.bt
theorem Ev.new (v:Ev M H0 B0 ρ σ H B) {p:Addr} {o:HO} (hp:H p=none) (ho: ∀ps,o≠.tbl ps):qa0 H B (upd H p o) (upd B p o)∧M.G.P (upd H p o):=
 ⟨.new v.bh v.bt hp ho,M.G.st H _ (fun a u e _ _ _ _=>by rw[qag (qap e hp)]; exact e) v.gm⟩
theorem Ev.nown (v:Ev M H0 B0 ρ σ H B) {p:Addr} {o:HO} (hp:H p=none):qa0 H B (upd H p o) B∧M.G.P (upd H p o):=
 ⟨.own v.bh v.bt hp,M.G.st H _ (fun a u e _ _ _ _=>by rw[qag (qap e hp)]; exact e) v.gm⟩
theorem Ev.get (v:Ev M H0 B0 ρ σ H B) {i:Nat} {t:T} (e:ρ[i]? =some (.fz t)): ∃x,σ[i]? =some (some x)∧Rep M.K B t x:=by
 obtain ⟨x,e1,r⟩:=v.sl i _ e
 refine ⟨x,?_,r⟩
 cases q:σ[i]? with
 | none=>rw[q] at e1; cases e1
 | some o=>rw[q] at e1; cases o with
  | none=>cases e1
  | some y=>cases e1; rfl
theorem Ev.getOw (v:Ev M H0 B0 ρ σ H B) {i:Nat} {ts:List T} (e:ρ[i]? =some (.ow ts)): ∃p vs,σ[i]? =some (some (.ref p))∧H0 p=none∧B p=none∧H p=some (.lst vs)∧qaL M.K B ts vs:=by
 obtain ⟨p,vs,e1,r⟩:=v.sl i _ e
 refine ⟨p,vs,?_,r⟩
 cases q:σ[i]? with
 | none=>rw[q] at e1; cases e1
 | some o=>rw[q] at e1; cases o with
  | none=>cases e1
  | some y=>cases e1; rfl
theorem qc3 {σ:St} {i j:Nat} {x:V} (hi:i<σ.length):(σ.set i (some x))[j]?.join=if i=j then some x else σ[j]?.join:=by
 rw[List.getElem?_set]
 by_cases q:i=j
 ·subst q; rw[if_pos rfl,if_pos rfl,if_pos hi]; rfl
 ·rw[if_neg q,if_neg q]
theorem Ev.set (v:Ev M H0 B0 ρ σ H B) {i:Nat} {t:T} {x:V} (r:Rep M.K B t x):Ev M H0 B0 (ρ.set i (.fz t)) (σ.set i (some x)) H B:=by
 by_cases hi:i<ρ.length
 case neg=>
  rw[List.set_eq_of_length_le (by lia),List.set_eq_of_length_le (by rw[←v.len]; lia)]
  exact v
 have hi':i<σ.length:=by rw[←v.len]; exact hi
 refine ⟨v.gr,v.gm,by simp[v.len],fun j s e=> ?_,fun j k sj sk p hjk ej ek oj ok a=> ?_⟩
 ·rw[qc3 hi']
  rw[List.getElem?_set] at e
  by_cases q:i=j
  ·subst q
   rw[if_pos rfl,if_pos hi] at e
   cases e
   rw[if_pos rfl]
   exact ⟨x,rfl,r⟩
  ·rw[if_neg q] at e⊢
   exact v.sl j s e
 ·rw[List.getElem?_set] at ej ek
  by_cases q:i=j
  ·subst q; rw[if_pos rfl,if_pos hi] at ej; cases ej; cases oj
  ·by_cases q2:i=k
   ·subst q2; rw[if_pos rfl,if_pos hi] at ek; cases ek; cases ok
   ·rw[if_neg q] at ej
    rw[if_neg q2] at ek
    rw[qc3 hi',if_neg q] at a
    rw[qc3 hi',if_neg q2]
    exact v.ap j k sj sk p hjk ej ek oj ok a
theorem Ev.setOw (v:Ev M H0 B0 ρ σ H B) {i:Nat} {ts:List T} {p:Addr} {vs:List V} (h0:H0 p=none) (hb:B p=none) (hp:H p=some (.lst vs)) (r:qaL M.K B ts vs)
  (ap: ∀(j:Nat) (s:Sl),j≠i→ρ[j]? =some s→s.own=true→σ[j]?.join≠some (.ref p)):Ev M H0 B0 (ρ.set i (.ow ts)) (σ.set i (some (.ref p))) H B:=by
 by_cases hi:i<ρ.length
 case neg=>
  rw[List.set_eq_of_length_le (by lia),List.set_eq_of_length_le (by rw[←v.len]; lia)]
  exact v
 have hi':i<σ.length:=by rw[←v.len]; exact hi
 refine ⟨v.gr,v.gm,by simp[v.len],fun j s e=> ?_,fun j k sj sk p' hjk ej ek oj ok a=> ?_⟩
 ·rw[qc3 hi']
  rw[List.getElem?_set] at e
  by_cases q:i=j
  ·subst q
   rw[if_pos rfl,if_pos hi] at e
   cases e
   rw[if_pos rfl]
   exact ⟨p,vs,rfl,h0,hb,hp,r⟩
  ·rw[if_neg q] at e⊢
   exact v.sl j s e
 ·rw[List.getElem?_set] at ej ek
  rw[qc3 hi'] at a⊢
  by_cases q:i=j
  ·subst q
   rw[if_neg hjk] at ek
   rw[if_pos rfl] at a
   rw[if_neg hjk]
   cases a
   exact ap k sk (fun z=>hjk z.symm) ek ok
  ·rw[if_neg q] at ej a
   by_cases q2:i=k
   ·subst q2
    rw[if_pos rfl]
    intro z
    cases z
    exact ap j sj hjk ej oj a
   ·rw[if_neg q2] at ek⊢
    exact v.ap j k sj sk p' hjk ej ek oj ok a
theorem Ev.putOw (v:Ev M H0 B0 ρ σ H B) {i:Nat} {ts us:List T} {p:Addr} {ws:List V} (e:ρ[i]? =some (.ow ts)) (es:σ[i]? =some (some (.ref p))) (r:qaL M.K B us ws):Ev M H0 B0 (ρ.set i (.ow us)) σ (upd H p (.lst ws)) B:=by
 obtain ⟨q,vs,e1,h0,hb,hp,_⟩:=v.getOw e
 rw[es] at e1; cases e1
 have hi:i<ρ.length:=(List.getElem?_eq_some_iff.mp e).1
 have neB: ∀a o,B a=some o→a≠p:=fun a o z w=>by rw[w,hb] at z; cases z
 refine ⟨⟨⟨fun a o z n=> ?_,fun a z w=> ?_⟩,v.gr.bb,fun a o z=> ?_,v.gr.bt,v.gr.nw⟩,M.G.st H _ (fun a o z n1 n2 n3 n4=> ?_) v.gm,by simp[v.len],fun j s ej=> ?_,fun j k sj sk p' hjk ej ek oj ok a=> ?_⟩
 ·rw[qag (qap z h0)]; exact v.gr.gx.hh a o z n
 ·by_cases q:a=p
  ·subst q; exact z h0
  ·rw[qag q] at w; exact v.gr.gx.dm a z w
 ·rw[qag (neB a o z)]; exact v.gr.bh a o z
 ·rw[qag (qoy z hp (n1 _))]; exact z
 ·rw[List.getElem?_set] at ej
  by_cases q:i=j
  ·subst q
   rw[if_pos rfl,if_pos hi] at ej
   cases ej
   exact ⟨p,ws,by rw[es]; rfl,h0,hb,qak,r⟩
  ·rw[if_neg q] at ej
   have o:=v.sl j s ej
   cases s with
   | no=>trivial
   | fz t=>exact o
   | ow ts'=>
    obtain ⟨p',vs',a1,a2,a3,a4,a5⟩:=o
    have ne:p'≠p:=fun z=>by
     subst z
     exact v.ap i j _ _ p' q e ej rfl rfl (by rw[es]; rfl) a1
    exact ⟨p',vs',a1,a2,a3,by rw[qag ne]; exact a4,a5⟩
   | od ts'=>
    obtain ⟨p',vs',a1,a2,a3,a4,a5⟩:=o
    have ne:p'≠p:=fun z=>by
     subst z
     exact v.ap i j _ _ p' q e ej rfl rfl (by rw[es]; rfl) a1
    exact ⟨p',vs',a1,a2,a3,by rw[qag ne]; exact a4,a5⟩
   | ou ts'=>
    obtain ⟨p',vs',a1,a2,a3,a4,a5⟩:=o
    have ne:p'≠p:=fun z=>by
     subst z
     exact v.ap i j _ _ p' q e ej rfl rfl (by rw[es]; rfl) a1
    exact ⟨p',vs',a1,a2,a3,by rw[qag ne]; exact a4,a5⟩
   | pd ts'=>
    obtain ⟨p',vs',a0,a1,a2,a3,a4,a5⟩:=o
    have ne:p'≠p:=fun z=>by
     subst z
     exact v.ap i j _ _ p' q e ej rfl rfl (by rw[es]; rfl) a1
    exact ⟨p',vs',a0,a1,a2,a3,by rw[qag ne]; exact a4,a5⟩
   | pu ts'=>
    obtain ⟨p',vs',a0,a1,a2,a3,a4,a5⟩:=o
    have ne:p'≠p:=fun z=>by
     subst z
     exact v.ap i j _ _ p' q e ej rfl rfl (by rw[es]; rfl) a1
    exact ⟨p',vs',a0,a1,a2,a3,by rw[qag ne]; exact a4,a5⟩
 ·have own_at: ∀(l:Nat) (sl:Sl),(ρ.set i (.ow us))[l]? =some sl→sl.own=true→∃sl',ρ[l]? =some sl'∧sl'.own=true:=fun l sl el ol=>by
   rw[List.getElem?_set] at el
   by_cases q:i=l
   ·subst q; exact ⟨_,e,rfl⟩
   ·rw[if_neg q] at el; exact ⟨sl,el,ol⟩
  obtain ⟨sj',ej',oj'⟩:=own_at j sj ej oj
  obtain ⟨sk',ek',ok'⟩:=own_at k sk ek ok
  exact v.ap j k sj' sk' p' hjk ej' ek' oj' ok' a
theorem Ev.freeze (v:Ev M H0 B0 ρ σ H B) {i:Nat} {ts:List T} (e:ρ[i]? =some (.ow ts)): ∃B',Le B B'∧Ev M H0 B0 (ρ.set i (.fz (.lst ts))) σ H B':=by
 obtain ⟨p,vs,es,h0,hb,hp,r⟩:=v.getOw e
 have hi:i<ρ.length:=(List.getElem?_eq_some_iff.mp e).1
 have le:Le B (upd B p (.lst vs)):=fun a o z=>by rw[qag (qap z hb)]; exact z
 refine ⟨upd B p (.lst vs),le,⟨v.gr.gx,v.gr.bb.trans le,fun a o z=> ?_,fun a ps z=> ?_,fun a o z n1 n2=> ?_⟩,v.gm,by simp[v.len],fun j s ej=> ?_,fun j k sj sk p' hjk ej ek oj ok a=> ?_⟩
 ·by_cases q:a=p
  ·subst q; rw[qak] at z; cases z; exact hp
  ·rw[qag q] at z; exact v.gr.bh a o z
 ·by_cases q:a=p
  ·subst q; rw[qak] at z; cases z
  ·rw[qag q] at z; exact v.gr.bt a ps z
 ·rw[qag (fun q=>by rw[q,h0] at z; cases z)]; exact v.gr.nw a o z n1 n2
 ·rw[List.getElem?_set] at ej
  by_cases q:i=j
  ·subst q
   rw[if_pos rfl,if_pos hi] at ej
   cases ej
   refine ⟨.ref p,by rw[es]; rfl,?_⟩
   unfold Rep
   exact ⟨p,vs,rfl,qak,r.mono le⟩
  ·rw[if_neg q] at ej
   have o:=v.sl j s ej
   cases s with
   | no=>trivial
   | fz t=>obtain ⟨x,a1,a2⟩:=o; exact ⟨x,a1,a2.mono le⟩
   | ow ts'=>
    obtain ⟨p',vs',a1,a2,a3,a4,a5⟩:=o
    have ne:p'≠p:=fun z=>by
     subst z
     exact v.ap i j _ _ p' q e ej rfl rfl (by rw[es]; rfl) a1
    exact ⟨p',vs',a1,a2,by rw[qag ne]; exact a3,a4,a5.mono le⟩
   | od ts'=>
    obtain ⟨p',vs',a1,a2,a3,a4,a5⟩:=o
    have ne:p'≠p:=fun z=>by
     subst z
     exact v.ap i j _ _ p' q e ej rfl rfl (by rw[es]; rfl) a1
    exact ⟨p',vs',a1,a2,by rw[qag ne]; exact a3,a4,a5.mono le⟩
   | ou ts'=>
    obtain ⟨p',vs',a1,a2,a3,a4,a5⟩:=o
    have ne:p'≠p:=fun z=>by
     subst z
     exact v.ap i j _ _ p' q e ej rfl rfl (by rw[es]; rfl) a1
    exact ⟨p',vs',a1,a2,by rw[qag ne]; exact a3,a4,a5.mono le⟩
   | pd ts'=>
    obtain ⟨p',vs',a0,a1,a2,a3,a4,a5⟩:=o
    have ne:p'≠p:=fun z=>by
     subst z
     exact v.ap i j _ _ p' q e ej rfl rfl (by rw[es]; rfl) a1
    exact ⟨p',vs',a0,a1,a2,by rw[qag ne]; exact a3,a4,a5.mono le⟩
   | pu ts'=>
    obtain ⟨p',vs',a0,a1,a2,a3,a4,a5⟩:=o
    have ne:p'≠p:=fun z=>by
     subst z
     exact v.ap i j _ _ p' q e ej rfl rfl (by rw[es]; rfl) a1
    exact ⟨p',vs',a0,a1,a2,by rw[qag ne]; exact a3,a4,a5.mono le⟩
 ·rw[List.getElem?_set] at ej ek
  by_cases q:i=j
  ·subst q; rw[if_pos rfl,if_pos hi] at ej; cases ej; cases oj
  ·by_cases q2:i=k
   ·subst q2; rw[if_pos rfl,if_pos hi] at ek; cases ek; cases ok
   ·rw[if_neg q] at ej
    rw[if_neg q2] at ek
    exact v.ap j k sj sk p' hjk ej ek oj ok a
end
end PL
end
section
namespace PL
open PySem L2
def qtq (M:Md) (H0 H B:Hp) (Q:VK):Rs T→Prop
 | .no=>False
 | .ok r=> ∀v H' B',qa0 H B H' B'→M.G.P H'→Rep M.K B' r v→Q v H'
 | .ex c=> ∀H',GX H0 H'→M.G.P H'→M.E (.ref (M.C c)) none H'
def qtO (M:Md) (H0 H B:Hp) (Q:List V→Hp→Prop):Rs (List T)→Prop
 | .no=>False
 | .ok r=> ∀v H' B',qa0 H B H' B'→M.G.P H'→qaL M.K B' r v→Q v H'
 | .ex c=> ∀H',GX H0 H'→M.G.P H'→M.E (.ref (M.C c)) none H'
def qtN (M:Md) (H0 H B:Hp) (Q:VK):Rs (List T)→Prop
 | .no=>False
 | .ok r=> ∀p vs H' B',qa0 H B H' B'→M.G.P H'→H p=none→B' p=none→H' p=some (.lst vs)→qaL M.K B' r vs→Q (.ref p) H'
 | .ex c=> ∀H',GX H0 H'→M.G.P H'→M.E (.ref (M.C c)) none H'
def qtM (M:Md) (H0 H B:Hp) (Q:VK):Rs (Bool×List T)→Prop
 | .no=>False
 | .ok r=> ∀p vs H' B',qa0 H B H' B'→M.G.P H'→(if r.1=true then H' p=some (.lst vs) else SqT M.K B' p vs)→qaL M.K B' r.2 vs→Q (.ref p) H'
 | .ex c=> ∀H',GX H0 H'→M.G.P H'→M.E (.ref (M.C c)) none H'
def qtL (M:Md) (H0 H B:Hp) (Q:Bool→Hp→Prop):Rs Bool→Prop
 | .no=>False
 | .ok r=> ∀H' B',qa0 H B H' B'→M.G.P H'→Q r H'
 | .ex c=> ∀H',GX H0 H'→M.G.P H'→M.E (.ref (M.C c)) none H'
def tP (M:Md) (d:Ro→Rs T):TE:=fun σ H Q=> ∃H0 B0 ρ B,Ev M H0 B0 ρ σ H B∧qtq M H0 H B Q (d ρ)
def tPA (M:Md) (d:Ro→Rs (List T)):TA:=fun σ H Q=> ∃H0 B0 ρ B,Ev M H0 B0 ρ σ H B∧qtO M H0 H B Q (d ρ)
def tF (M:Md) (d:Ro→Rs (List T)):TE:=fun σ H Q=> ∃H0 B0 ρ B,Ev M H0 B0 ρ σ H B∧qtN M H0 H B Q (d ρ)
def tQ (M:Md) (d:Ro→Rs (Bool×List T)):TE:=fun σ H Q=> ∃H0 B0 ρ B,Ev M H0 B0 ρ σ H B∧qtM M H0 H B Q (d ρ)
def tPT (M:Md) (d:Ro→Rs Bool):TT:=fun σ H Q=> ∃H0 B0 ρ B,Ev M H0 B0 ρ σ H B∧qtL M H0 H B Q (d ρ)
abbrev DE (M:Md) (X:Cx) (e:Expr) (d:Ro→Rs T):Prop:=PE X e (tP M d)
abbrev DA (M:Md) (X:Cx) (es:List Expr) (d:Ro→Rs (List T)):Prop:=PA X es (tPA M d)
abbrev DF (M:Md) (X:Cx) (e:Expr) (d:Ro→Rs (List T)):Prop:=PE X e (tF M d)
abbrev DQ (M:Md) (X:Cx) (e:Expr) (d:Ro→Rs (Bool×List T)):Prop:=PE X e (tQ M d)
abbrev DT (M:Md) (X:Cx) (e:Expr) (d:Ro→Rs Bool):Prop:=PT X e (tPT M d)
theorem PE.weak {X:Cx} {e:Expr} {t t':TE} (h:PE X e t) (w: ∀σ H Q,t' σ H Q→t σ H Q):PE X e t':=fun pins s σ H Q I q=>h pins s σ H Q I (w σ H Q q)
theorem PT.weak {X:Cx} {e:Expr} {t t':TT} (h:PT X e t) (w: ∀σ H Q,t' σ H Q→t σ H Q):PT X e t':=fun pins s σ H Q I q=>h pins s σ H Q I (w σ H Q q)
theorem PA.weak {X:Cx} {e:List Expr} {t t':TA} (h:PA X e t) (w: ∀σ H Q,t' σ H Q→t σ H Q):PA X e t':=fun pos pins s σ H Q I q=>h pos pins s σ H Q I (w σ H Q q)
theorem PS.weak {X:Cx} {e:Stmt} {t t':TS} (h:PS X e t) (w: ∀D σ H,t' D σ H→t D σ H):PS X e t':=fun pins s σ H D I q=>h pins s σ H D I (w D σ H q)
theorem PSs.weak {X:Cx} {e:List Stmt} {t t':TS} (h:PSs X e t) (w: ∀D σ H,t' D σ H→t D σ H):PSs X e t':=fun pins s σ H D I q=>h pins s σ H D I (w D σ H q)
section
variable {M:Md} {H0 B0 H B H1 B1:Hp} {ρ:Ro} {σ:St}
theorem qbG {p:Addr} (g:GX H H1) (h:H1 p=none):H p=none:=by
 cases e:H p with
 | none=>rfl
 | some o=>exact absurd h (g.dm p (by rw[e]; simp))
end
section
variable {M:Md} {H0 B0 H B:Hp} {ρ:Ro} {σ:St} {α:Type}
def Wnt (M:Md) (H0:Hp) (k:α→Prop):Rs α→Prop
 | .no=>False
 | .ok a=>k a
 | .ex c=> ∀H',GX H0 H'→M.G.P H'→M.E (.ref (M.C c)) none H'
theorem Wnt.bind {β:Type} {k:β→Prop} {r:Rs α} {f:α→Rs β} (h:Wnt M H0 k (r>>=f)):Wnt M H0 (fun a=>Wnt M H0 k (f a)) r:=by
 cases r with
 | no=>exact h
 | ok a=>exact h
 | ex c=>exact h
theorem Wnt.mono {k k':α→Prop} {r:Rs α} (h:Wnt M H0 k r) (f: ∀a,k a→k' a):Wnt M H0 k' r:=by
 cases r with
 | no=>exact h
 | ok a=>exact f a h
 | ex c=>exact h
theorem qaw {Q:VK} {r:Rs T}:qtq M H0 H B Q r↔Wnt M H0 (fun a=> ∀v H' B',qa0 H B H' B'→M.G.P H'→Rep M.K B' a v→Q v H') r:=by cases r<;>exact Iff.rfl
theorem qh2 {Q:List V→Hp→Prop} {r:Rs (List T)}:qtO M H0 H B Q r↔Wnt M H0 (fun a=> ∀v H' B',qa0 H B H' B'→M.G.P H'→qaL M.K B' a v→Q v H') r:=by cases r<;>exact Iff.rfl
theorem qbR {Q:VK} {r:Rs (List T)}:qtN M H0 H B Q r↔Wnt M H0 (fun a=> ∀p vs H' B',qa0 H B H' B'→M.G.P H'→H p=none→B' p=none→H' p=some (.lst vs)→qaL M.K B' a vs→Q (.ref p) H') r:=by cases r<;>exact Iff.rfl
theorem qc8 {Q:VK} {r:Rs (Bool×List T)}:qtM M H0 H B Q r↔Wnt M H0 (fun a=> ∀p vs H' B',qa0 H B H' B'→M.G.P H'→(if a.1=true then H' p=some (.lst vs) else SqT M.K B' p vs)→qaL M.K B' a.2 vs→Q (.ref p) H') r:=by cases r<;>exact Iff.rfl
theorem qc7 {Q:Bool→Hp→Prop} {r:Rs Bool}:qtL M H0 H B Q r↔Wnt M H0 (fun a=> ∀H' B',qa0 H B H' B'→M.G.P H'→Q a H') r:=by cases r<;>exact Iff.rfl
theorem tP.of {Q:VK} {d:Ro→Rs T} (ev:Ev M H0 B0 ρ σ H B) (h:Wnt M H0 (fun a=> ∀v H' B',qa0 H B H' B'→M.G.P H'→Rep M.K B' a v→Q v H') (d ρ)):tP M d σ H Q:=⟨H0,B0,ρ,B,ev,qaw.mpr h⟩
theorem tPA.of {Q:List V→Hp→Prop} {d:Ro→Rs (List T)} (ev:Ev M H0 B0 ρ σ H B) (h:Wnt M H0 (fun a=> ∀v H' B',qa0 H B H' B'→M.G.P H'→qaL M.K B' a v→Q v H') (d ρ)):tPA M d σ H Q:=⟨H0,B0,ρ,B,ev,qh2.mpr h⟩
theorem tF.of {Q:VK} {d:Ro→Rs (List T)} (ev:Ev M H0 B0 ρ σ H B) (h:Wnt M H0 (fun a=> ∀p vs H' B',qa0 H B H' B'→M.G.P H'→H p=none→B' p=none→H' p=some (.lst vs)→qaL M.K B' a vs→Q (.ref p) H') (d ρ)):tF M d σ H Q:=⟨H0,B0,ρ,B,ev,qbR.mpr h⟩
theorem tQ.of {Q:VK} {d:Ro→Rs (Bool×List T)} (ev:Ev M H0 B0 ρ σ H B) (h:Wnt M H0 (fun a=> ∀p vs H' B',qa0 H B H' B'→M.G.P H'→(if a.1=true then H' p=some (.lst vs) else SqT M.K B' p vs)→qaL M.K B' a.2 vs→Q (.ref p) H') (d ρ)):tQ M d σ H Q:=⟨H0,B0,ρ,B,ev,qc8.mpr h⟩
theorem tPT.of {Q:Bool→Hp→Prop} {d:Ro→Rs Bool} (ev:Ev M H0 B0 ρ σ H B) (h:Wnt M H0 (fun a=> ∀H' B',qa0 H B H' B'→M.G.P H'→Q a H') (d ρ)):tPT M d σ H Q:=⟨H0,B0,ρ,B,ev,qc7.mpr h⟩
end
def dV (i:Nat):Ro→Rs T:=fun ρ=>match ρ[i]? with | some (.fz t)=>.ok t | _=>.no
def dC (t:T):Ro→Rs T:=fun _=>.ok t
section
variable {M:Md} {X:Cx} {e a b c:Expr} {es:List Expr} {pos:Pos} {da db dc:Ro→Rs T} {ds:Ro→Rs (List T)}
theorem qaa {i:Nat} (h:PE X e (qho i)):DE M X e (dV i):=by
 refine PE.weak h fun σ H Q hq112=> ?_
 obtain ⟨H0,B0,ρ,B,ev,w⟩:=hq112
 have w:=qaw.mp w
 unfold dV at w
 split at w
 ·rename_i t e1
  obtain ⟨x,e2,r⟩:=ev.get e1
  exact ⟨x,e2,w x H B (.refl ev.bh ev.bt) ev.gm r⟩
 ·exact w.elim
theorem qbK {v:V} {t:T} (h:PE X e (tC v)) (r: ∀B,Rep M.K B t v):DE M X e (dC t):=
 PE.weak h fun σ H Q ⟨H0,B0,ρ,B,ev,w⟩=>w v H B (.refl ev.bh ev.bt) ev.gm (r B)
theorem qah {i j pos}:DE M X (.Constant (.int i) j pos) (dC (.int i)):=qbK qcW fun B=>by unfold Rep; rfl
theorem qdd {i j pos}:DE M X (.Constant (.bool i) j pos) (dC (.bl i)):=qbK qsl fun B=>by unfold Rep; rfl
theorem qaN {i j pos}:DE M X (.Constant (.str i) j pos) (dC (.str i)):=qbK qqh fun B=>by unfold Rep; rfl
def RS (M:Md) (r:R2) (g:T→T→Rs T):Prop:=
 ∀(H B:Hp) (x y:V) (a b c:T) (Q:VK),Le B H→(∀p ps,B p≠some (.tbl ps))→M.G.P H→Rep M.K B a x→Rep M.K B b y→g a b= .ok c→
  (∀v H' B',qa0 H B H' B'→M.G.P H'→Rep M.K B' c v→Q v H')→r x y H Q
def Pl (g:T→T→Rs T):Prop:= ∀a b c,g a b≠.ex c
def dB (g:T→T→Rs T) (da db:Ro→Rs T):Ro→Rs T:=fun ρ=>da ρ>>=fun x=>db ρ>>=fun y=>g x y
theorem qfa {r:R2} {g:T→T→Rs T} (hr:RS M r g) (hp:Pl g) {σ:St} {H:Hp} {Q:VK} (h:tP M (dB g da db) σ H Q):tOp r (tP M da) (tP M db) σ H Q:=by
 obtain ⟨H0,B0,ρ,B,ev,w⟩:=h
 refine tP.of ev (Wnt.mono (Wnt.bind (qaw.mp w)) fun x w1 v H1 B1 g1 m1 r1=> ?_)
 refine tP.of (ev.grow g1 m1) (Wnt.mono (Wnt.bind w1) fun y w2 u H2 B2 g2 m2 r2=> ?_)
 cases e:g x y with
 | no=>rw[e] at w2; exact w2.elim
 | ex c=>exact absurd e (hp x y c)
 | ok z=>
  rw[e] at w2
  have ev2:=(ev.grow g1 m1).grow g2 m2
  exact hr H2 B2 v u x y z Q ev2.bh ev2.bt m2 (r1.mono g2.bb) r2 e fun v' H' B' g' m' r'=>w2 v' H' B' ((g1.trans g2).trans g') m' r'
theorem qax {op:Operator} {r:R2} {g:T→T→Rs T} (ho:OpR X (binaryOp op) r) (hr:RS M r g) (hp:Pl g) (ha:DE M X a da) (hb:DE M X b db):DE M X (.BinOp a op b pos) (dB g da db):=
 PE.weak (qcE ho ha hb) fun _ _ _ h=>qfa hr hp h
theorem qh5 {op:CmpOp} {r:R2} {g:T→T→Rs T} (ho:OpR X (compareOp op) r) (hr:RS M r g) (hp:Pl g) (ha:DE M X a da) (hb:DE M X b db) (hm:behindInMarks op b=false:=by first | exact qfb _ (by decide) (by decide) | rfl):DE M X (.Compare a [op] [b] pos) (dB g da db):=
 PE.weak (qjU ho ha hb hm) fun _ _ _ h=>qfa hr hp h
theorem qaQ {r:R2} {g:T→T→Rs T} (ho:IxR X r) (hr:RS M r g) (hp:Pl g) (ha:DE M X a da) (hb:DE M X b db) (hs:qlt b):DE M X (.Subscript a b pos) (dB g da db):=
 PE.weak (qom ho ha hb hs) fun _ _ _ h=>qfa hr hp h
def qan:Ro→Rs (List T):=fun _=>.ok []
def qab (da:Ro→Rs T) (ds:Ro→Rs (List T)):Ro→Rs (List T):=fun ρ=>da ρ>>=fun x=>ds ρ>>=fun xs=>.ok (x::xs)
theorem qaj:DA M X [] qan:=PA.weak qaH fun σ H Q ⟨H0,B0,ρ,B,ev,w⟩=>w [] H B (.refl ev.bh ev.bt) ev.gm .nil
theorem qac (ha:DE M X e da) (hs:DA M X es ds) (hst:starEach (e::es) X.env=(false,eval e X.env)::starEach es X.env:=by rfl):DA M X (e::es) (qab da ds):=by
 refine PA.weak (qar ha hs hst) fun σ H Q hq159=> ?_
 obtain ⟨H0,B0,ρ,B,ev,w⟩:=hq159
 refine tP.of ev (Wnt.mono (Wnt.bind (qh2.mp w)) fun x w1 v H1 B1 g1 m1 r1=> ?_)
 refine tPA.of (ev.grow g1 m1) (Wnt.mono (Wnt.bind w1) fun y w2 u H2 B2 g2 m2 r2=> ?_)
 exact w2 (v::u) H2 B2 (g1.trans g2) m2 (.cons (r1.mono g2.bb) r2)
def qaJ (ds:Ro→Rs (List T)):Ro→Rs T:=fun ρ=>ds ρ>>=fun xs=>if xs.length≤1000 then .ok (.tup xs) else .no
theorem qaD {x1} (hs:DA M X es ds):DE M X (.Tuple es x1 pos) (qaJ ds):=by
 refine PE.weak (qqg hs) fun σ H Q hq165=> ?_
 obtain ⟨H0,B0,ρ,B,ev,w⟩:=hq165
 refine tPA.of ev (Wnt.mono (Wnt.bind (qaw.mp w)) fun xs w1 vs H1 B1 g1 m1 r1=> ?_)
 have ev1:=ev.grow g1 m1
 split at w1
 ·rename_i hl
  refine ⟨Nat.le_of_lt (qa3 (by rw[r1.length]; exact hl)),fun p hp=> ?_⟩
  obtain ⟨g2,m2⟩:=ev1.new (o:=.tup vs) hp (by intro ps z; cases z)
  refine w1 (.ref p) _ _ (g1.trans g2) m2 ?_
  unfold Rep
  exact ⟨p,vs,rfl,qak,r1.mono g2.bb⟩
 ·exact w1.elim
def qg7 (ds:Ro→Rs (List T)):Ro→Rs (List T):=fun ρ=>ds ρ>>=fun xs=>if xs.length≤1000 then .ok xs else .no
theorem qdF (hs:DA M X es ds):DF M X (.List es pos) (qg7 ds):=by
 refine PE.weak (qnl hs) fun σ H Q hq178=> ?_
 obtain ⟨H0,B0,ρ,B,ev,w⟩:=hq178
 refine tPA.of ev (Wnt.mono (Wnt.bind (qbR.mp w)) fun xs w1 vs H1 B1 g1 m1 r1=> ?_)
 have ev1:=ev.grow g1 m1
 split at w1
 ·rename_i hl
  refine ⟨Nat.le_of_lt (qa3 (by rw[r1.length]; exact hl)),fun p hp=> ?_⟩
  obtain ⟨g2,m2⟩:=ev1.nown (o:=.lst vs) hp
  have bp:B1 p=none:=by
   cases q:B1 p with
   | none=>rfl
   | some u=>rw[ev1.bh _ _ q] at hp; cases hp
  exact w1 p vs _ _ (g1.trans g2) m2 (qbG g1.gx hp) bp qak r1
 ·exact w1.elim
def dFz (ds:Ro→Rs (List T)):Ro→Rs T:=fun ρ=>ds ρ>>=fun xs=>.ok (.lst xs)
theorem qa0.freeze {H B H' B':Hp} {p:Addr} {vs:List V} (g:qa0 H B H' B') (h:H p=none) (hb:B' p=none) (hp:H' p=some (.lst vs)):qa0 H B H' (upd B' p (.lst vs))∧Le B' (upd B' p (.lst vs)):=by
 have le:Le B' (upd B' p (.lst vs)):=fun a o z=>by rw[qag (qap z hb)]; exact z
 refine ⟨⟨g.gx,g.bb.trans le,fun a o z=> ?_,fun a ps z=> ?_,fun a o z n1 n2=> ?_⟩,le⟩
 ·by_cases q:a=p
  ·subst q; rw[qak] at z; cases z; exact hp
  ·rw[qag q] at z; exact g.bh a o z
 ·by_cases q:a=p
  ·subst q; rw[qak] at z; cases z
  ·rw[qag q] at z; exact g.bt a ps z
 ·rw[qag (fun q=>by rw[q,h] at z; cases z)]; exact g.nw a o z n1 n2
theorem qa7 {e:Expr} (h:DF M X e ds):DE M X e (dFz ds):=by
 refine PE.weak h fun σ H Q hq204=> ?_
 obtain ⟨H0,B0,ρ,B,ev,w⟩:=hq204
 refine tF.of ev (Wnt.mono (Wnt.bind (qaw.mp w)) fun xs w1 p vs H1 B1 g1 m1 hp hb hl r1=> ?_)
 obtain ⟨g2,le⟩:=g1.freeze hp hb hl
 refine w1 (.ref p) H1 _ g2 m1 ?_
 unfold Rep
 exact ⟨p,vs,rfl,qak,r1.mono le⟩
def qe3:T→Rs (Bool×List T)
 | .lst ts=>.ok (true,ts)
 | .tup ts=>.ok (false,ts)
 | _=>.no
def dQ (da:Ro→Rs T):Ro→Rs (Bool×List T):=fun ρ=>da ρ>>=qe3
theorem qqT (ha:DE M X e da):DQ M X e (dQ da):=by
 refine PE.weak ha fun σ H Q hq217=> ?_
 obtain ⟨H0,B0,ρ,B,ev,w⟩:=hq217
 refine tP.of ev (Wnt.mono (Wnt.bind (qc8.mp w)) fun x w1 v H1 B1 g1 m1 r1=> ?_)
 cases x with
 | lst ts=>
  unfold Rep at r1
  obtain ⟨p,vs,rfl,hp,r⟩:=r1
  exact w1 p vs H1 B1 g1 m1 (by rw[if_pos rfl]; exact g1.bh _ _ hp) r
 | tup ts=>
  unfold Rep at r1
  obtain ⟨p,vs,rfl,hp,r⟩:=r1
  exact w1 p vs H1 B1 g1 m1 (by rw[if_neg (by intro z; cases z)]; exact (SqT.of hp)) r
 | _=>exact w1.elim
def dQF (ds:Ro→Rs (List T)):Ro→Rs (Bool×List T):=fun ρ=>ds ρ>>=fun ts=>.ok (true,ts)
theorem qbB (h:DF M X e ds):DQ M X e (dQF ds):=by
 refine PE.weak h fun σ H Q hq231=> ?_
 obtain ⟨H0,B0,ρ,B,ev,w⟩:=hq231
 exact tF.of ev (Wnt.mono (Wnt.bind (qc8.mp w)) fun xs w1 p vs H1 B1 g1 m1 hp hb hl r1=>w1 p vs H1 B1 g1 m1 (by rw[if_pos rfl]; exact hl) r1)
def dQV (i:Nat):Ro→Rs (Bool×List T):=fun ρ=>match ρ[i]? with | some (.fz t)=>qe3 t | some (.ow ts)=>.ok (true,ts) | _=>.no
theorem qbv {i:Nat} (h:PE X e (qho i)):DQ M X e (dQV i):=by
 refine PE.weak h fun σ H Q hq236=> ?_
 obtain ⟨H0,B0,ρ,B,ev,w⟩:=hq236
 have w:=qc8.mp w
 unfold dQV at w
 split at w
 ·rename_i t e1
  obtain ⟨x,e2,r⟩:=ev.get e1
  refine ⟨x,e2,?_⟩
  cases t with
  | lst ts=>
   unfold Rep at r
   obtain ⟨p,vs,rfl,hp,r⟩:=r
   exact w p vs H B (.refl ev.bh ev.bt) ev.gm (by rw[if_pos rfl]; exact ev.bh _ _ hp) r
  | tup ts=>
   unfold Rep at r
   obtain ⟨p,vs,rfl,hp,r⟩:=r
   exact w p vs H B (.refl ev.bh ev.bt) ev.gm (by rw[if_neg (by intro z; cases z)]; exact (SqT.of hp)) r
  | _=>exact w.elim
 ·rename_i ts e1
  obtain ⟨p,vs,e2,h0,hb,hp,r⟩:=ev.getOw e1
  exact ⟨.ref p,e2,w p vs H B (.refl ev.bh ev.bt) ev.gm (by rw[if_pos rfl]; exact hp) r⟩
 ·exact w.elim
end
end PL
end
section
namespace PL
open PySem L2
inductive Out where
 | nx (ρ:Ro) | rt (t:T) | bk (ρ:Ro) | ct (ρ:Ro) | rs (s:Sl) (ρ:Ro)
def qm7 (M:Md) (H0 B0 B:Hp) (D:qm6):Out→Prop
 | .nx ρ=> ∀σ' H' B',Ev M H0 B0 ρ σ' H' B'→Le B B'→D.nx σ' H'
 | .bk ρ=> ∀σ' H' B',Ev M H0 B0 ρ σ' H' B'→Le B B'→D.bk σ' H'
 | .ct ρ=> ∀σ' H' B',Ev M H0 B0 ρ σ' H' B'→Le B B'→D.ct σ' H'
 | .rt t=> ∀v H' B',qa0 H0 B0 H' B'→M.G.P H'→Rep M.K B' t v→D.rt v H'
 | .rs s ρ=> ∀v σ' H' B',Ev M H0 B0 (s::ρ) (some v::σ') H' B'→Le B B'→D.rt v H'
theorem qm7.mono {M:Md} {H0 B0 B B1:Hp} {D:qm6} {o:Out} (h:qm7 M H0 B0 B D o) (le:Le B B1):qm7 M H0 B0 B1 D o:=by
 cases o with
 | nx ρ=>exact fun σ' H' B' e l=>h σ' H' B' e (le.trans l)
 | bk ρ=>exact fun σ' H' B' e l=>h σ' H' B' e (le.trans l)
 | ct ρ=>exact fun σ' H' B' e l=>h σ' H' B' e (le.trans l)
 | rt t=>exact h
 | rs t ρ=>exact fun v σ' H' B' e l=>h v σ' H' B' e (le.trans l)
def tS (M:Md) (d:Ro→Rs Out):TS:=fun D σ H=> ∃H0 B0 ρ B,Ev M H0 B0 ρ σ H B∧Wnt M H0 (qm7 M H0 B0 B D) (d ρ)
abbrev DS (M:Md) (X:Cx) (st:Stmt) (d:Ro→Rs Out):Prop:=PS X st (tS M d)
abbrev DSs (M:Md) (X:Cx) (st:List Stmt) (d:Ro→Rs Out):Prop:=PSs X st (tS M d)
def qay:Ro→Rs Out:=fun ρ=>.ok (.nx ρ)
def qdf (o:Out) (e:Ro→Rs Out):Rs Out:=match o with | .nx ρ=>e ρ | o=>.ok o
def qaK (d e:Ro→Rs Out):Ro→Rs Out:=fun ρ=>d ρ>>=fun o=>qdf o e
def qbo (da:Ro→Rs T):Ro→Rs Out:=fun ρ=>da ρ>>=fun t=>.ok (.rt t)
def qbz (i:Nat) (da:Ro→Rs T):Ro→Rs Out:=fun ρ=>da ρ>>=fun t=>.ok (.nx (ρ.set i (.fz t)))
def qfo (i:Nat) (ds:Ro→Rs (List T)):Ro→Rs Out:=fun ρ=>ds ρ>>=fun ts=>.ok (.nx (ρ.set i (.ow ts)))
def qg9 (da:Ro→Rs T):Ro→Rs Out:=fun ρ=>da ρ>>=fun _=>.ok (.nx ρ)
def dIf (dt:Ro→Rs Bool) (d e:Ro→Rs Out):Ro→Rs Out:=fun ρ=>dt ρ>>=fun c=>if c=true then d ρ else e ρ
def dNo:Ro→Rs Out:=fun _=>.no
def qdB (ρ:Ro) (i:Nat) (us:List T):Rs Out:=match ρ[i]? with
 | some (.ow ts)=>if ts.length+us.length≤1000 then .ok (.nx (ρ.set i (.ow (ts++us)))) else .no
 | _=>.no
def qnn (ρ:Ro) (i:Nat):Rs Unit:=match ρ[i]? with | some (.ow _)=>.ok () | _=>.no
def qfq (i:Nat) (da:Ro→Rs T):Ro→Rs Out:=fun ρ=>qnn ρ i>>=fun _=>da ρ>>=fun t=>qdB ρ i [t]
def qpC (i:Nat) (dq:Ro→Rs (Bool×List T)):Ro→Rs Out:=fun ρ=>qnn ρ i>>=fun _=>dq ρ>>=fun q=>if q.1=true then qdB ρ i q.2 else .no
def frz (i:Nat) (ρ:Ro):Ro:=match ρ[i]? with | some (.ow ts)=>ρ.set i (.fz (.lst ts)) | _=>ρ
section
variable {M:Md} {X:Cx} {e a b c:Expr} {st:Stmt} {qde sts sts':List Stmt} {pos:Pos} {da db dk:Ro→Rs T} {ds:Ro→Rs (List T)} {d d':Ro→Rs Out} {dt:Ro→Rs Bool} {dq:Ro→Rs (Bool×List T)} {x:Str} {pos':Pos} {i:Nat}
theorem qaC:DSs M X [] qay:=PSs.weak qgF fun D σ H ⟨H0,B0,ρ,B,ev,w⟩=>w σ H B ev (.refl _)
theorem qae (h:DS M X st d) (h':DSs M X qde d'):DSs M X (st::qde) (qaK d d'):=by
 refine PSs.weak (qdQ h h') fun D σ H hq48=> ?_
 obtain ⟨H0,B0,ρ,B,ev,w⟩:=hq48
 refine ⟨H0,B0,ρ,B,ev,Wnt.mono (Wnt.bind w) fun o w1=> ?_⟩
 cases o with
 | nx ρ'=>exact fun σ' H' B' ev' le=>⟨H0,B0,ρ',B',ev',Wnt.mono w1 fun o q=>q.mono le⟩
 | bk ρ'=>exact w1
 | ct ρ'=>exact w1
 | rs t ρ'=>exact w1
 | rt t=>exact w1
theorem qal (h:DS M X st d):DSs M X [st] d:=qec h
theorem qeo:DSs M X sts dNo:=PSs.weak qjM fun D σ H ⟨H0,B0,ρ,B,ev,w⟩=>w
theorem qaM (h:DE M X e da):DS M X (.Return (some e) pos) (qbo da):=by
 refine PS.weak (qcv h) fun D σ H hq59=> ?_
 obtain ⟨H0,B0,ρ,B,ev,w⟩:=hq59
 exact tP.of ev (Wnt.mono (Wnt.bind w) fun t w1 v H' B' g m r=>w1 v H' B' (ev.gr.trans g) m r)
theorem qfj (h:DE M X e da) (hs:swapsWith e none pos.line X.env=pure false:=by rfl):DS M X (.Expr e pos) (qg9 da):=by
 refine PS.weak (qe8 h hs) fun D σ H hq68=> ?_
 obtain ⟨H0,B0,ρ,B,ev,w⟩:=hq68
 exact tP.of ev (Wnt.mono (Wnt.bind w) fun t w1 v H' B' g m r=>w1 σ H' B' (ev.grow g m) g.bb)
theorem qbh (hc:DT M X c dt) (h:DSs M X sts d) (h':DSs M X sts' d'):DS M X (.If c sts sts' pos) (dIf dt d d'):=by
 refine PS.weak (qod hc h h') fun D σ H hq71=> ?_
 obtain ⟨H0,B0,ρ,B,ev,w⟩:=hq71
 refine tPT.of ev (Wnt.mono (Wnt.bind w) fun t w1 H' B' g m=> ?_)
 cases t with
 | true=>exact ⟨H0,B0,ρ,B',ev.grow g m,Wnt.mono w1 fun o q=>q.mono g.bb⟩
 | false=>exact ⟨H0,B0,ρ,B',ev.grow g m,Wnt.mono w1 fun o q=>q.mono g.bb⟩
theorem qa8 (hN:X.N.Nodup) (hi:X.N[i]? =some x) (hx:Loc X.env.scope x) (h:DE M X e da) (hs:swapsWith e (some (.Name x pos')) pos.line X.env=pure false:=by rfl) (hf:X.fn x=true∨X.env.scope.names.lookup x=some .local:=by first | exact .inl rfl | exact .inr rfl | assumption):
  DS M X (.Assign [.Name x pos'] e pos) (qbz i da):=by
 refine PS.weak (qfF hN hi hx h hs hf) fun D σ H hq78=> ?_
 obtain ⟨H0,B0,ρ,B,ev,w⟩:=hq78
 exact tP.of ev (Wnt.mono (Wnt.bind w) fun t w1 v H' B' g m r=>w1 _ H' B' ((ev.grow g m).set r) g.bb)
theorem Ev.newOwn {M:Md} {H0 B0 H B H' B':Hp} {ρ:Ro} {σ:St} {p:Addr} {vs:List V} {ts:List T} (i:Nat) (ev:Ev M H0 B0 ρ σ H B) (g:qa0 H B H' B') (m:M.G.P H') (hp:H p=none) (hb:B' p=none) (hl:H' p=some (.lst vs)) (r:qaL M.K B' ts vs):
  Ev M H0 B0 (ρ.set i (.ow ts)) (σ.set i (some (.ref p))) H' B':=by
 refine (ev.grow g m).setOw (qbG ev.gr.gx hp) hb hl r fun j s hj e o z=> ?_
 have q:=ev.sl j s e
 cases s with
 | no=>cases o
 | fz t=>cases o
 | ow ts'=>
  obtain ⟨p',vs',a1,a2,a3,a4,a5⟩:=q
  rw[a1] at z; cases z
  rw[a4] at hp; cases hp
 | od ts'=>
  obtain ⟨p',vs',a1,a2,a3,a4,a5⟩:=q
  rw[a1] at z; cases z
  rw[a4] at hp; cases hp
 | ou ts'=>
  obtain ⟨p',vs',a1,a2,a3,a4,a5⟩:=q
  rw[a1] at z; cases z
  rw[a4] at hp; cases hp
 | pd ts'=>
  obtain ⟨p',vs',a0,a1,a2,a3,a4,a5⟩:=q
  rw[a1] at z; cases z
  rw[a4] at hp; cases hp
 | pu ts'=>
  obtain ⟨p',vs',a0,a1,a2,a3,a4,a5⟩:=q
  rw[a1] at z; cases z
  rw[a4] at hp; cases hp
theorem qdt (hN:X.N.Nodup) (hi:X.N[i]? =some x) (hx:Loc X.env.scope x) (h:DF M X e ds) (hs:swapsWith e (some (.Name x pos')) pos.line X.env=pure false:=by rfl) (hf:X.fn x=true∨X.env.scope.names.lookup x=some .local:=by first | exact .inl rfl | exact .inr rfl | assumption):
  DS M X (.Assign [.Name x pos'] e pos) (qfo i ds):=by
 refine PS.weak (qfF hN hi hx h hs hf) fun D σ H hq97=> ?_
 obtain ⟨H0,B0,ρ,B,ev,w⟩:=hq97
 exact tF.of ev (Wnt.mono (Wnt.bind w) fun t w1 p vs H' B' g m hp hb hl r=>w1 _ H' B' (ev.newOwn i g m hp hb hl r) g.bb)
theorem qjK {M:Md} {H0 B0 H B:Hp} {ρ:Ro} {σ:St} {us:List T} {ws:List V} {Bs:Hp} {D:qm6} (ev:Ev M H0 B0 ρ σ H B) (r:qaL M.K B us ws) (w:Wnt M H0 (qm7 M H0 B0 Bs D) (qdB ρ i us)) (le:Le Bs B):
  ∃p vs,σ[i]? =some (some (.ref p))∧H p=some (.lst vs)∧B p=none∧vs.length+ws.length<sizeLine∧D.nx σ (upd H p (.lst (vs++ws))):=by
 unfold qdB at w
 split at w
 ·rename_i ts e1
  split at w
  ·rename_i hl
   obtain ⟨p,vs,e2,h0,hb,hp,rv⟩:=ev.getOw e1
   refine ⟨p,vs,e2,hp,hb,qa3 (by rw[rv.length,r.length]; exact hl),w σ _ B (ev.putOw e1 e2 (rv.append r)) le⟩
  ·exact w.elim
 ·exact w.elim
theorem qnm {M:Md} {H0:Hp} {ρ:Ro} {α:Type} {k:α→Prop} {f:Unit→Rs α} (w:Wnt M H0 k (qnn ρ i>>=f)): ∃ts,ρ[i]? =some (.ow ts)∧Wnt M H0 k (f ()):=by
 unfold qnn at w
 split at w
 ·rename_i ts e1; exact ⟨ts,e1,w⟩
 ·exact w.elim
theorem qdb {m:Expr} (h:PE X m (tBM X.K "list" qjG (qho i) (qcr (tP M da) qi7))) (hs:swapsWith m none pos.line X.env=pure false:=by rfl):DS M X (.Expr m pos) (qfq i da):=by
 refine PS.weak (qe8 h hs) fun D σ H hq116=> ?_
 obtain ⟨H0,B0,ρ,B,ev,w⟩:=hq116
 obtain ⟨ts,e1,w⟩:=qnm w
 obtain ⟨p,vs,e2,h0,hb,hp,rv⟩:=ev.getOw e1
 refine ⟨.ref p,e2,.inl ⟨rfl,_,SqL.of hp⟩,?_⟩
 refine tP.of ev (Wnt.mono (Wnt.bind w) fun t w1 v H' B' g m r=> ?_)
 obtain ⟨p',vs',q1,q2,q3,q4,q5⟩:=qjK (Bs:=B) (ev.grow g m) (.cons r .nil) w1 g.bb
 rw[e2] at q1; cases q1
 exact ⟨p,vs',v,rfl,rfl,q2,by simpa using Nat.lt_of_succ_lt q4,q5⟩
theorem qkX {m:Expr} (h:PE X m (tBM X.K "list" qjF (qho i) (qcr (tQ M dq) qi7))) (hs:swapsWith m none pos.line X.env=pure false:=by rfl):DS M X (.Expr m pos) (qpC i dq):=by
 refine PS.weak (qe8 h hs) fun D σ H hq125=> ?_
 obtain ⟨H0,B0,ρ,B,ev,w⟩:=hq125
 obtain ⟨ts,e1,w⟩:=qnm w
 obtain ⟨p,vs,e2,h0,hb,hp,rv⟩:=ev.getOw e1
 refine ⟨.ref p,e2,.inl ⟨rfl,_,SqL.of hp⟩,?_⟩
 refine tQ.of ev (Wnt.mono (Wnt.bind w) fun t w1 b us H' B' g m hq r=> ?_)
 split at w1
 ·rename_i hc
  rw[if_pos hc] at hq
  obtain ⟨p',vs',q1,q2,q3,q4,q5⟩:=qjK (Bs:=B) (ev.grow g m) r w1 g.bb
  rw[e2] at q1; cases q1
  exact ⟨p,b,vs',us,rfl,rfl,q2,hq,Nat.le_of_lt q4,q5⟩
 ·exact w1.elim
theorem Ev.frz {M:Md} {H0 B0 H B:Hp} {ρ:Ro} {σ:St} (i:Nat) (ev:Ev M H0 B0 ρ σ H B): ∃B',Le B B'∧Ev M H0 B0 (frz i ρ) σ H B':=by
 unfold PL.frz
 split
 ·rename_i ts e1; exact ev.freeze e1
 ·exact ⟨B,.refl _,ev⟩
theorem qnA (i:Nat) (h:DS M X st d):DS M X st (fun ρ=>d (frz i ρ)):=by
 refine PS.weak h fun D σ H hq167=> ?_
 obtain ⟨H0,B0,ρ,B,ev,w⟩:=hq167
 obtain ⟨B',le,ev'⟩:=ev.frz i
 exact ⟨H0,B0,_,B',ev',Wnt.mono w fun o q=>q.mono le⟩
end
def tG (M:Md) (dg:T→Ro→Rs Ro):TG:=fun v σ H Q=> ∃H0 B0 ρ B t,Ev M H0 B0 ρ σ H B∧Rep M.K B t v∧Wnt M H0 (fun ρ'=> ∀σ',Ev M H0 B0 ρ' σ' H B→Q σ' H) (dg t ρ)
def tGs (M:Md) (dg:List T→Ro→Rs Ro):TGs:=fun v σ H Q=> ∃H0 B0 ρ B t,Ev M H0 B0 ρ σ H B∧qaL M.K B t v∧Wnt M H0 (fun ρ'=> ∀σ',Ev M H0 B0 ρ' σ' H B→Q σ' H) (dg t ρ)
abbrev DG (M:Md) (X:Cx) (e:Expr) (dg:T→Ro→Rs Ro):Prop:=PG X e (tG M dg)
abbrev DGs (M:Md) (X:Cx) (e:List Expr) (dg:List T→Ro→Rs Ro):Prop:=PGs X e (tGs M dg)
theorem PG.weak {X:Cx} {e:Expr} {t t':TG} (h:PG X e t) (w: ∀v σ H Q,t' v σ H Q→t v σ H Q):PG X e t':=fun pins s σ H v u Q I r q=>h pins s σ H v u Q I r (w v σ H Q q)
theorem PGs.weak {X:Cx} {e:List Expr} {t t':TGs} (h:PGs X e t) (w: ∀v σ H Q,t' v σ H Q→t v σ H Q):PGs X e t':=fun pins s σ H v u Q I r q=>h pins s σ H v u Q I r (w v σ H Q q)
def gN (i:Nat):T→Ro→Rs Ro:=fun t ρ=>.ok (ρ.set i (.fz t))
def gsN:List T→Ro→Rs Ro:=fun ts ρ=>match ts with | []=>.ok ρ | _=>.no
def gsC (dg:T→Ro→Rs Ro) (dr:List T→Ro→Rs Ro):List T→Ro→Rs Ro:=fun ts ρ=>match ts with | t::r=>dg t ρ>>=dr r | []=>.no
def gT (n:Nat) (dr:List T→Ro→Rs Ro):T→Ro→Rs Ro:=fun t ρ=>match t with | .tup ts=>if ts.length=n then dr ts ρ else .no | _=>.no
section
variable {M:Md} {X:Cx} {e:Expr} {es:List Expr} {pos:Pos} {i:Nat} {x:Str} {dg:T→Ro→Rs Ro} {dr:List T→Ro→Rs Ro}
theorem qaR {i:Nat} (h:PG X e (qoM i)):DG M X e (gN i):=PG.weak h fun v σ H Q ⟨H0,B0,ρ,B,t,ev,r,w⟩=>w _ (ev.set r)
theorem qbV:DGs M X [] gsN:=PGs.weak qol fun v σ H Q ⟨H0,B0,ρ,B,t,ev,r,w⟩=>by
 cases t with
 | nil=>exact ⟨r.inv0,w σ ev⟩
 | cons _ _=>exact w.elim
theorem qaA (h1:DG M X e dg) (h2:DGs M X es dr) (hs:(assignEach (e::es) X.env).map (·.2)=assign e X.env::(assignEach es X.env).map (·.2):=by rfl):DGs M X (e::es) (gsC dg dr):=by
 refine PGs.weak (qma h1 h2 hs) fun v σ H Q hq194=> ?_
 obtain ⟨H0,B0,ρ,B,t,ev,r,w⟩:=hq194
 cases t with
 | nil=>exact w.elim
 | cons t ts=>
  obtain ⟨u,vs,rfl,ra,rb⟩:=r.inv
  exact ⟨u,vs,rfl,H0,B0,ρ,B,t,ev,ra,Wnt.mono (Wnt.bind w) fun ρ' w1 σ' ev'=>⟨H0,B0,ρ',B,ts,ev',rb,w1⟩⟩
theorem qcA {k n:Nat} (hc:X.calm=true) (h:DGs M X es dr) (hK:X.K=M.K:=by rfl) (hn:(assignEach es X.env).length=n:=by rfl) (hst:(assignEach es X.env).findIdx? (·.1)=none:=by rfl):DG M X (.Tuple es k pos) (gT n dr):=by
 refine PG.weak (qqe hc h hn hst) fun v σ H Q hq201=> ?_
 obtain ⟨H0,B0,ρ,B,t,ev,r,w⟩:=hq201
 cases t with
 | tup ts=>
  unfold gT at w
  dsimp only at w
  split at w
  ·rename_i hl
   unfold Rep at r
   obtain ⟨p,vs,rfl,hp,rs⟩:=r
   exact ⟨p,vs,rfl,by rw[hK]; exact ev.bh.sqT (SqT.of hp),by rw[rs.length]; exact hl,H0,B0,ρ,B,ts,ev,rs,w⟩
  ·exact w.elim
 | _=>exact w.elim
end
def qtI (M:Md) (J:It) (B1:Hp) (ts:List T):Prop:= ∀H' B',Le B1 B'→Le B' H'→(∀a ps,B' a≠some (.tbl ps))→M.G.P H'→∀i:Nat,
 (∀t,ts[i]? =some t→J.go i H'∧∀x H'',J.yld i H' x H''→∃B'',qa0 H' B' H'' B''∧M.G.P H''∧Rep M.K B'' t x)∧(i=ts.length→J.stop i H')
def tI (M:Md) (d:Ro→Rs (List T)):TI:=fun σ H R=> ∃H0 B0 ρ B,Ev M H0 B0 ρ σ H B∧Wnt M H0 (fun ts=> ∀J H1 B1,qa0 H B H1 B1→M.G.P H1→ts.length≤sizeLine→qtI M J B1 ts→R J H1) (d ρ)
abbrev DI (M:Md) (X:Cx) (tg e:Expr) (d:Ro→Rs (List T)):Prop:=PI X tg e (tI M d)
theorem PI.weak {X:Cx} {tg e:Expr} {t t':TI} (h:PI X tg e t) (w: ∀σ H Q,t' σ H Q→t σ H Q):PI X tg e t':=fun pins s σ H Q I q=>h pins s σ H Q I (w σ H Q q)
section
variable {M:Md} {X:Cx} {tg e:Expr} {da:Ro→Rs T} {ds:Ro→Rs (List T)}
def quA (K:PySem.W.Frag) (tl:TE):TI:=fun σ H R=>tl σ H fun x H1=> ∃a,x= .ref a∧(((∃xs,SqL K H1 a xs∧(xs.length≤sizeLine→R (Itl K a) H1)))∨(∃xs,SqT K H1 a xs∧(xs.length≤sizeLine→R (Itt K a) H1)))
theorem qqd {l:Expr} {tl:TE} (hl:PE X l tl):PI X tg l (quA X.K tl):=by
 intro pins s σ H R I h
 refine thn (hl pins s σ H _ I h) fun v s1 hq232=> ?_
 obtain ⟨x,H1,I1,r1,q1⟩:=hq232
 obtain ⟨a,e,q⟩:=q1
 subst e
 cases r1
 rcases q with ⟨xs,hq,q⟩ | ⟨xs,hq,q⟩
 ·obtain ⟨its,rv,p,hz⟩:=I1.list hq
  have q:=q hz
  refine wpAny_pyIter_list p.isList ?_
  refine ⟨s1.heap.objs.size,[s1.heap.objs.size],_,_,H1,rfl,I1.kept (t':=s1.toks) fun b o e=>Heap.get?_push_of_some _ e,qjd a _,⟨_,Heap.get?_push_size _ rfl,rfl,rfl⟩,fun b hb=> ?_,q⟩
  have e:b=s1.heap.objs.size:=by simpa using hb
  subst e
  exact I1.fpOk (Nat.le_refl _) (I1.hok.fresh (Nat.le_refl _))
 ·obtain ⟨its,rv,p,hz⟩:=I1.tuple hq
  have q:=q hz
  refine wpAny_pyIter_tuple p ?_
  refine ⟨s1.heap.objs.size,[s1.heap.objs.size],_,_,H1,rfl,I1.kept (t':=s1.toks) fun b o e=>Heap.get?_push_of_some _ e,qij a _,⟨_,Heap.get?_push_size _ rfl,rfl,rfl⟩,fun b hb=> ?_,q⟩
  have e:b=s1.heap.objs.size:=by simpa using hb
  subst e
  exact I1.fpOk (Nat.le_refl _) (I1.hok.fresh (Nat.le_refl _))
end
end PL
end
section
namespace PL
open PySem L2
def qfe:T→Rs (List T)
 | .lst ts=>.ok ts
 | .tup ts=>.ok ts
 | _=>.no
def dI (da:Ro→Rs T):Ro→Rs (List T):=fun ρ=>da ρ>>=qfe
def qjp:T→Rs (List T)
 | .str z=>if z.length≤1000 then .ok (z.cps.toList.map fun c=>.str ⟨#[c]⟩) else .no
 | _=>.no
def dIS (da:Ro→Rs T):Ro→Rs (List T):=fun ρ=>da ρ>>=qjp
def upTo (lo hi:Int):List T:=(List.range (hi - lo).toNat).map fun k=>.int (lo+(k:Nat))
def qjE:List T→Rs (List T)
 | [.int n]=>if n≤1000000∧ -1000000≤n then .ok ((List.range n.toNat).map fun k=>.int (k:Nat)) else .no
 | _=>.no
def qni:List T→Rs (List T)
 | [.int m,.int n]=>if (n≤1000000∧ -1000000≤n)∧m≤1000000∧ -1000000≤m then .ok (upTo m n) else .no
 | _=>.no
def qro (ds:Ro→Rs (List T)):Ro→Rs (List T):=fun ρ=>ds ρ>>=qjE
def qpm (ds:Ro→Rs (List T)):Ro→Rs (List T):=fun ρ=>ds ρ>>=qni
def qpv (xs ys:List T):List T:=(xs.zip ys).map fun p=>.tup [p.1,p.2]
def qnP:List T→Rs (List T)
 | [.lst xs,.lst ys]=>.ok (qpv xs ys)
 | _=>.no
def dIZ (ds:Ro→Rs (List T)):Ro→Rs (List T):=fun ρ=>ds ρ>>=qnP
theorem qqs:(1000000:Nat)≤sizeLine:=by decide
open PySem.Spec PyProof.Rows in
theorem qoi {X:Cx} {elts:List Expr} {kk:Nat} {tpos:Pos} {a b:Expr} {ta:TA} {p pos:Pos} (hg:Gl X "zip") (hm:X.mg "zip" =none) (ha:PA X [a,b] ta) (hs:starEach [a,b] X.env=(false,eval a X.env)::starEach [b] X.env:=by rfl) (hpl:(backTo pos (starEach [b] X.env)).any (·.1)=false:=by rfl):
  PI X (.Tuple elts kk tpos) (.Call (.Name "zip" p) [a,b] [] pos) (fun σ H R=>ta σ H fun vs H1=> ∃l1 l2 xs ys,vs=[.ref l1,.ref l2]∧SqL X.K H1 l1 xs∧SqL X.K H1 l2 ys∧(xs.length≤sizeLine→ys.length≤sizeLine→R (Itz X.K l1 l2) H1)):=by
 intro pins s σ H R I h
 refine wpAny_Call_Name_kw (qdC I hg hm PyProof.Rows.boot_zip ?_)
 refine PyProof.Rows.callWith_type1 (thn (ha pos pins s σ H _ I h) fun us s1 ⟨vs,H1,I1,r1,l1,l2,xs,ys,e,h1,h2,q⟩=> ?_) hs hpl
 subst e
 obtain ⟨u1,u2,rfl,ru1,ru2⟩:=qlD r1
 cases ru1; cases ru2
 obtain ⟨its1,rr1,p1,z1⟩:=I1.list h1
 obtain ⟨its2,rr2,p2,z2⟩:=I1.list h2
 have q:=q z1 z2
 obtain ⟨o1,ho1,_⟩:=p1.isList
 obtain ⟨o2,ho2,_⟩:=p2.isList
 have lt1:l1<s1.heap.objs.size:=Heap.lt_size ho1
 have lt2:l2<s1.heap.objs.size:=Heap.lt_size ho2
 refine call_zip_2 p1.isList p2.isList fun h' hz hTI hTO hi1 hi2 hsz kp=>wpAny_pyIter_zip hz ?_
 have D:ZipApart (s1.heap.objs.size+4) (s1.heap.objs.size+2) (s1.heap.objs.size+3) s1.heap.objs.size (s1.heap.objs.size+1) l1 l2:=PySem.W.ktu_apart _ _ _ lt1 lt2
 refine ⟨_,_,_,Itz X.K l1 l2,H1,rfl,I1.kept (t':=s1.toks) kp,qlH D,⟨hz,hTI,⟨_,_,hTO⟩,hi1,hi2⟩,fun b hb=> ?_,q⟩
 have hle:s1.heap.objs.size≤b:=by
  have hb':b=s1.heap.objs.size+4∨b=s1.heap.objs.size+2∨b=s1.heap.objs.size+3∨b=s1.heap.objs.size∨b=s1.heap.objs.size+1:=by simpa using hb
  rcases hb' with rfl | rfl | rfl | rfl | rfl
  ·exact Nat.le_add_right _ _
  ·exact Nat.le_add_right _ _
  ·exact Nat.le_add_right _ _
  ·exact Nat.le_refl _
  ·exact Nat.le_add_right _ _
 exact I1.fpOk hle (I1.hok.fresh hle)
section
variable {M:Md} {X:Cx} {tg e a b:Expr} {da:Ro→Rs T} {ds:Ro→Rs (List T)}
theorem qa9 (h:DE M X e da) (hK:X.K=M.K:=by rfl):DI M X tg e (dI da):=by
 refine PI.weak (qqd h) fun σ H R hq63=> ?_
 obtain ⟨H0,B0,ρ,B,ev,w⟩:=hq63
 refine tP.of ev (Wnt.mono (Wnt.bind w) fun t w1 v H1 B1 g1 m1 r1=> ?_)
 rw[hK]
 cases t with
 | lst ts=>
  unfold Rep at r1
  obtain ⟨p,vs,rfl,hp,r⟩:=r1
  refine ⟨p,rfl,.inl ⟨vs,SqL.of (g1.bh _ _ hp),fun hz=>w1 _ H1 B1 g1 m1 (by rw[←r.length]; exact hz) fun H' B' le bh bt m i=>⟨fun t et=> ?_,fun hi=> ?_⟩⟩⟩
  ·have q:SqL M.K H' p vs:=SqL.of (bh _ _ (le _ _ hp))
   obtain ⟨x,ex,rx⟩:=r.get et
   refine ⟨⟨vs,x,q,ex⟩,fun y H'' ⟨e1,e2⟩=> ?_⟩
   subst e1
   have:=e2 vs q
   rw[ex] at this; cases this
   exact ⟨B',.refl bh bt,m,rx.mono le⟩
  ·exact ⟨vs,SqL.of (bh _ _ (le _ _ hp)),by rw[r.length,hi]; exact Nat.le_refl _⟩
 | tup ts=>
  unfold Rep at r1
  obtain ⟨p,vs,rfl,hp,r⟩:=r1
  have hp:SqT M.K B1 p vs:=SqT.of hp
  refine ⟨p,rfl,.inr ⟨vs,g1.bh.sqT hp,fun hz=>w1 _ H1 B1 g1 m1 (by rw[←r.length]; exact hz) fun H' B' le bh bt m i=>⟨fun t et=> ?_,fun hi=> ?_⟩⟩⟩
  ·have q:SqT M.K H' p vs:=bh.sqT (le.sqT hp)
   obtain ⟨x,ex,rx⟩:=r.get et
   refine ⟨⟨vs,x,q,ex⟩,fun y H'' ⟨e1,e2⟩=> ?_⟩
   subst e1
   have:=e2 vs q
   rw[ex] at this; cases this
   exact ⟨B',.refl bh bt,m,rx.mono le⟩
  ·exact ⟨vs,bh.sqT (le.sqT hp),by rw[r.length,hi]; exact Nat.le_refl _⟩
 | _=>exact w1.elim
theorem qqV (h:DE M X e da):DI M X tg e (dIS da):=by
 refine PI.weak (qqc h) fun σ H R hq93=> ?_
 obtain ⟨H0,B0,ρ,B,ev,w⟩:=hq93
 refine tP.of ev (Wnt.mono (Wnt.bind w) fun t w1 v H1 B1 g1 m1 r1=> ?_)
 cases t with
 | str z=>
  have e1:v= .str z:=by unfold Rep at r1; exact r1
  subst e1
  unfold qjp at w1
  dsimp only at w1
  split at w1
  ·rename_i hz
   refine ⟨z,rfl,w1 _ H1 B1 g1 m1 ?_ fun H' B' le bh bt m i=>⟨fun t et=> ?_,fun hi=> ?_⟩⟩
   ·rw[List.length_map,Array.length_toList]
    exact Nat.le_of_lt (qa3 hz)
   ·rw[List.getElem?_map] at et
    cases q:z.cps.toList[i]? with
    | none=>rw[q] at et; cases et
    | some c=>
     rw[q] at et
     cases et
     have hi:=(List.getElem?_eq_some_iff.mp q).1
     refine ⟨show i<z.cps.size by simpa using hi,fun y H'' ⟨e1,c',e2,e3⟩=> ?_⟩
     subst e1 e3
     rw[Array.getElem?_toList] at q
     rw[q] at e2; cases e2
     exact ⟨B',.refl bh bt,m,by unfold Rep; rfl⟩
   ·show z.cps.size≤i
    rw[hi,List.length_map,Array.length_toList]
    exact Nat.le_refl _
  ·exact w1.elim
 | _=>exact w1.elim
theorem qeD {lo:Int} {n:Nat} {B1:Hp}:qtI M (Itr lo n) B1 ((List.range n).map fun k=>.int (lo+(k:Nat))):=fun H' B' le bh bt m i=>by
 refine ⟨fun t et=> ?_,fun hi=> ?_⟩
 ·rw[List.getElem?_map] at et
  cases q:(List.range n)[i]? with
  | none=>rw[q] at et; cases et
  | some c=>
   rw[q] at et
   cases et
   have hi:=(List.getElem?_eq_some_iff.mp q).1
   rw[List.length_range] at hi
   rw[List.getElem?_range hi] at q; cases q
   refine ⟨hi,fun y H'' ⟨e1,e2⟩=> ?_⟩
   subst e1 e2
   exact ⟨B',.refl bh bt,m,by unfold Rep; rfl⟩
 ·show n≤i
  rw[hi,List.length_map,List.length_range]
  exact Nat.le_refl _
theorem qkZ {p pos:Pos} (hg:Gl X "range") (hm:X.mg "range" =none) (ha:DA M X [a] ds) (hs:starEach [a] X.env=[(false,eval a X.env)]:=by rfl):DI M X tg (.Call (.Name "range" p) [a] [] pos) (qro ds):=by
 refine PI.weak (qjS hg hm ha hs) fun σ H R hq141=> ?_
 obtain ⟨H0,B0,ρ,B,ev,w⟩:=hq141
 refine tPA.of ev (Wnt.mono (Wnt.bind w) fun ts w1 vs H1 B1 g1 m1 r1=> ?_)
 unfold qjE at w1
 split at w1
 ·rename_i n
  obtain ⟨v,r,rfl,a1,b1⟩:=r1.inv
  have e1:v= .int n:=by unfold Rep at a1; exact a1
  have e2:=b1.inv0
  subst e1 e2
  split at w1
  ·rename_i hb
   refine ⟨n,rfl,by lia,by lia,w1 _ H1 B1 g1 m1 ?_ ?_⟩
   ·rw[List.length_map,List.length_range]
    have:=qqs
    lia
   ·have:=qeD (M:=M) (lo:=0) (n:=n.toNat) (B1:=B1)
    simpa using this
  ·exact w1.elim
 ·exact w1.elim
theorem qkY {p pos:Pos} (hg:Gl X "range") (hm:X.mg "range" =none) (ha:DA M X [a,b] ds) (hs:starEach [a,b] X.env=[(false,eval a X.env),(false,eval b X.env)]:=by rfl) (hs2:starEach [b] X.env=[(false,eval b X.env)]:=by rfl):
  DI M X tg (.Call (.Name "range" p) [a,b] [] pos) (qpm ds):=by
 refine PI.weak (qjR hg hm ha hs hs2) fun σ H R hq162=> ?_
 obtain ⟨H0,B0,ρ,B,ev,w⟩:=hq162
 refine tPA.of ev (Wnt.mono (Wnt.bind w) fun ts w1 vs H1 B1 g1 m1 r1=> ?_)
 unfold qni at w1
 split at w1
 ·rename_i m n
  obtain ⟨v,r,rfl,a1,b1⟩:=r1.inv
  obtain ⟨v',r',rfl,a2,b2⟩:=b1.inv
  have e1:v= .int m:=by unfold Rep at a1; exact a1
  have e1':v'= .int n:=by unfold Rep at a2; exact a2
  have e2:=b2.inv0
  subst e1 e1' e2
  split at w1
  ·rename_i hb
   refine ⟨m,n,rfl,⟨by lia,by lia,by lia,by lia⟩,w1 _ H1 B1 g1 m1 ?_ qeD⟩
   unfold upTo
   rw[List.length_map,List.length_range]
   have:(2000000:Nat)≤sizeLine:=by decide
   lia
  ·exact w1.elim
 ·exact w1.elim
theorem qqU {elts:List Expr} {kk:Nat} {tpos p pos:Pos} (hg:Gl X "zip") (hm:X.mg "zip" =none) (ha:DA M X [a,b] ds) (hK:X.K=M.K:=by rfl) (hs:starEach [a,b] X.env=(false,eval a X.env)::starEach [b] X.env:=by rfl) (hpl:(backTo pos (starEach [b] X.env)).any (·.1)=false:=by rfl):
  DI M X (.Tuple elts kk tpos) (.Call (.Name "zip" p) [a,b] [] pos) (dIZ ds):=by
 refine PI.weak (qoi hg hm ha hs hpl) fun σ H R hq184=> ?_
 obtain ⟨H0,B0,ρ,B,ev,w⟩:=hq184
 refine tPA.of ev (Wnt.mono (Wnt.bind w) fun ts w1 vs H1 B1 g1 m1 r1=> ?_)
 unfold qnP at w1
 split at w1
 ·rename_i xs ys
  obtain ⟨v,r,rfl,a1,b1⟩:=r1.inv
  obtain ⟨v',r',rfl,a2,b2⟩:=b1.inv
  have e2:=b2.inv0
  subst e2
  unfold Rep at a1 a2
  obtain ⟨p1,us,rfl,h1,ra⟩:=a1
  obtain ⟨p2,ws,rfl,h2,rb⟩:=a2
  have l1:=ra.length
  have l2:=rb.length
  refine ⟨p1,p2,us,ws,rfl,SqL.of (g1.bh _ _ h1),SqL.of (g1.bh _ _ h2),fun z1 z2=> ?_⟩
  rw[hK]
  refine w1 _ H1 B1 g1 m1 ?_ fun H' B' le bh bt m i=>⟨fun t et=> ?_,fun hi=> ?_⟩
  ·unfold qpv
   rw[List.length_map,List.length_zip]
   lia
  ·have q1:SqL M.K H' p1 us:=SqL.of (bh _ _ (le _ _ h1))
   have q2:SqL M.K H' p2 ws:=SqL.of (bh _ _ (le _ _ h2))
   unfold qpv at et
   rw[List.getElem?_map] at et
   cases q:(xs.zip ys)[i]? with
   | none=>rw[q] at et; cases et
   | some c=>
    rw[q] at et
    cases et
    have hi:=(List.getElem?_eq_some_iff.mp q).1
    rw[List.length_zip] at hi
    obtain ⟨c1,c2⟩:=c
    obtain ⟨qa,qb⟩:=List.getElem?_zip_eq_some.mp q
    obtain ⟨u,eu,ru⟩:=ra.get qa
    obtain ⟨w',ew,rw'⟩:=rb.get qb
    refine ⟨⟨us,ws,q1,q2,by lia,by lia⟩,fun y H'' ⟨T',x,y',e1,e2,e3,e4,e5⟩=> ?_⟩
    have z1:=e4 us q1
    have z2:=e5 ws q2
    rw[eu] at z1; cases z1
    rw[ew] at z2; cases z2
    subst e1 e3
    refine ⟨_,qa0.new bh bt e2 (by intro ps z; cases z),M.G.st H' _ (fun a o e _ _ _ _=>by rw[qag (qap e e2)]; exact e) m,?_⟩
    have bp:B' T'=none:=by
     cases q:B' T' with
     | none=>rfl
     | some u=>rw[bh _ _ q] at e2; cases e2
    have le2:Le B1 (upd B' T' (.tup [u,w'])):=fun a o z=>by rw[qag (qap (le _ _ z) bp)]; exact le _ _ z
    unfold Rep
    exact ⟨T',[u,w'],rfl,qak,.cons (ru.mono le2) (.cons (rw'.mono le2) .nil)⟩
  ·refine ⟨us,ws,SqL.of (bh _ _ (le _ _ h1)),SqL.of (bh _ _ (le _ _ h2)),?_⟩
   rw[hi]
   unfold qpv
   rw[List.length_map,List.length_zip,l1,l2]
 ·exact w1.elim
end
end PL
end
section
namespace PL
open PySem L2
def qpJ (o:Out) (k:Ro→Rs Out):Rs Out:=match o with
 | .nx ρ=>k ρ
 | .ct ρ=>k ρ
 | .bk ρ=>.ok (.nx ρ)
 | .rt t=>.ok (.rt t)
 | .rs s ρ=>.ok (.rs s ρ)
def qdK (dg:T→Ro→Rs Ro) (db:Ro→Rs Out):List T→Ro→Rs Out
 | [],ρ=>.ok (.nx ρ)
 | t::ts,ρ=>dg t ρ>>=fun ρ1=>db ρ1>>=fun o=>qpJ o (qdK dg db ts)
def qlA (di:Ro→Rs (List T)) (dg:T→Ro→Rs Ro) (db:Ro→Rs Out):Ro→Rs Out:=fun ρ=>di ρ>>=fun ts=>qdK dg db ts ρ
section
variable {M:Md} {X:Cx} {tg e elt iter:Expr} {ifs:List Expr} {body:List Stmt} {pos:Pos} {di:Ro→Rs (List T)} {dg:T→Ro→Rs Ro} {db:Ro→Rs Out}
theorem qep (hp:PassesOwn (model X.prog X.w) X.A X.env X.xe) (hc:X.calm=true) (hi:DI M X tg iter di) (hg:DG M X tg dg) (hb:DSs M X body db)
  (hs: ∀x,foldedSetIterable iter X.env x=pure x:=by intro _; rfl):DS M X (.For tg iter body [] pos) (qlA di dg db):=by
 refine PS.weak (qp9 hp hc hi hg hb hs) fun D σ H hq21=> ?_
 obtain ⟨H0,B0,ρ,B,ev,w⟩:=hq21
 refine ⟨H0,B0,ρ,B,ev,Wnt.mono (Wnt.bind w) fun ts w1 J H1 B1 g1 m1 hz wk=> ?_⟩
 refine ⟨fun i m σ H=>i≤ts.length∧m=ts.length - i∧∃ρ' B',Ev M H0 B0 ρ' σ H B'∧Le B1 B'∧Wnt M H0 (qm7 M H0 B0 B D) (qdK dg db (ts.drop i) ρ'),⟨ts.length,Nat.zero_le _,by simp,ρ,B1,ev.grow g1 m1,.refl _,by simpa using w1⟩,?_⟩
 rintro i m σ' H' ⟨hi',rfl,ρ',B',ev',le,w2⟩
 by_cases hlt:i<ts.length
 ·obtain ⟨go,yl⟩:=(wk H' B' le ev'.bh ev'.bt ev'.gm i).1 ts[i] (List.getElem?_eq_getElem hlt)
  refine .inr ⟨go,fun σ'' H''=> ∃ρ2 B2,Ev M H0 B0 ρ2 σ'' H'' B2∧Le B1 B2∧Wnt M H0 (qm7 M H0 B0 B D) (qdK dg db (ts.drop (i+1)) ρ2),fun σ'' H'' ⟨ρ2,B2,q1,q2,q3⟩=>⟨ts.length - (i+1),by lia,by lia,rfl,ρ2,B2,q1,q2,q3⟩,fun x H3 y=> ?_⟩
  obtain ⟨B3,g3,m3,r3⟩:=yl x H3 y
  rw[List.drop_eq_getElem_cons hlt] at w2
  have ev3:=ev'.grow g3 m3
  have le3:Le B1 B3:=le.trans g3.bb
  refine ⟨H0,B0,ρ',B3,ts[i],ev3,r3,Wnt.mono (Wnt.bind w2) fun ρ1 w3 σ1 ev1=> ?_⟩
  have leB:Le B B3:=g1.bb.trans le3
  refine ⟨H0,B0,ρ1,B3,ev1,Wnt.mono (Wnt.bind w3) fun o w4=> ?_⟩
  cases o with
  | nx ρ2=>exact fun σ4 H4 B4 ev4 le4=>⟨ρ2,B4,ev4,le3.trans le4,w4⟩
  | ct ρ2=>exact fun σ4 H4 B4 ev4 le4=>⟨ρ2,B4,ev4,le3.trans le4,w4⟩
  | bk ρ2=>exact fun σ4 H4 B4 ev4 le4=>w4 σ4 H4 B4 ev4 (leB.trans le4)
  | rt t=>exact w4
  | rs t ρ2=>exact fun v σ4 H4 B4 ev4 le4=>w4 v σ4 H4 B4 ev4 (leB.trans le4)
 ·have e1:i=ts.length:=by lia
  subst e1
  refine .inl ⟨(wk H' B' le ev'.bh ev'.bt ev'.gm ts.length).2 rfl,?_⟩
  rw[List.drop_length] at w2
  exact w2 σ' H' B' ev' (g1.bb.trans le)
end
def Md.nox (M:Md):Md:={ M with E:=fun _ _ _=>False }
theorem Ev.nox {M:Md} {H0 B0 H B:Hp} {ρ:Ro} {σ:St} (ev:Ev M H0 B0 ρ σ H B):Ev M.nox H0 B0 ρ σ H B:=⟨ev.gr,ev.gm,ev.len,ev.sl,ev.ap⟩
def noX {α:Type}:Rs α→Rs α
 | .ex _=>.no
 | r=>r
def qge:Option Sl→Sl
 | some (.fz t)=>.fz t
 | _=>.no
def qd9 (n:Nat) (fr:List Nat) (ρ:Ro):Ro:=List.replicate n .no++fr.map fun i=>qge ρ[i]?
def qi6 (ρ:Ro):Prop:= ∀(i:Nat) (s:Sl),ρ[i]? =some s→s.own=false
def qiR (dg:T→Ro→Rs Ro) (dt:Ro→Rs Bool) (de:Ro→Rs T):List T→Ro→Rs (List T)
 | [],_=>.ok []
 | t::ts,ρ=>dg t ρ>>=fun ρ1=>dt ρ1>>=fun c=>if c=true then de ρ1>>=fun y=>qiR dg dt de ts ρ1>>=fun ys=>.ok (y::ys) else qiR dg dt de ts ρ1
def qaB (n:Nat) (fr:List Nat) (di:Ro→Rs (List T)) (dg:T→Ro→Rs Ro) (dt:Ro→Rs Bool) (de:Ro→Rs T):Ro→Rs (List T):=fun ρ=>di ρ>>=fun ts=>noX (qiR dg dt de ts (qd9 n fr ρ))
def qb8:Ro→Rs Bool:=fun _=>.ok true
theorem qbZ {α β:Type} {r:Rs α} {f:α→Rs β} {b:β} (h:(r>>=f)= .ok b): ∃a,r= .ok a∧f a= .ok b:=by
 cases r with
 | no=>cases h
 | ok a=>exact ⟨a,rfl,h⟩
 | ex c=>cases h
theorem qfC {n:Nat} {fr:List Nat} {ρ:Ro}:qi6 (qd9 n fr ρ):=fun i s e=>by
 unfold qd9 at e
 have h:=List.mem_of_getElem? e
 rcases List.mem_append.mp h with h | h
 ·rw[(List.mem_replicate.mp h).2]; rfl
 ·obtain ⟨j,_,rfl⟩:=List.mem_map.mp h
  unfold qge
  split<;>rfl
theorem qoQ {M:Md} {H0 B0 H B:Hp} {ρ:Ro} {σ:St} {own:List Str} {fr:List (Str×Nat)} (ev:Ev M H0 B0 ρ σ H B):Ev M H0 B0 (qd9 own.length (fr.map (·.2)) ρ) (qd3 own fr σ) H B:=by
 refine ⟨ev.gr,ev.gm,by simp[qd9,qd3],fun i s e=> ?_,fun i j si sj p hij ei ej oi oj a z=>by rw[qfC i si ei] at oi; cases oi⟩
 unfold qd9 at e
 by_cases hi:i<own.length
 ·rw[List.getElem?_append_left (by simpa using hi),List.getElem?_replicate,if_pos hi] at e
  cases e; trivial
 ·rw[List.getElem?_append_right (by simpa using hi),List.length_replicate,List.map_map,List.getElem?_map] at e
  cases q:fr[i - own.length]? with
  | none=>rw[q] at e; cases e
  | some p=>
   rw[q] at e
   have e':qge ρ[p.2]? =s:=Option.some.inj e
   subst e'
   have eσ:(qd3 own fr σ)[i]?.join=σ[p.2]?.join:=by
    unfold qd3
    rw[List.getElem?_append_right (by simpa using hi),List.length_map,List.getElem?_map,q]
    rfl
   rw[eσ]
   cases q2:ρ[p.2]? with
   | none=>trivial
   | some s'=>
    cases s' with
    | fz t=>exact ev.sl p.2 _ q2
    | _=>trivial
theorem Ev.updD {M:Md} {H0 B0 H B:Hp} {ρ:Ro} {σ:St} {D:Addr} {ys zs:List V} (ev:Ev M H0 B0 ρ σ H B) (hD:H D=some (.lst ys)) (h0:H0 D=none) (hb:B D=none) (ap: ∀(i:Nat) (s:Sl),ρ[i]? =some s→s.own=true→σ[i]?.join≠some (.ref D)):Ev M H0 B0 ρ σ (upd H D (.lst zs)) B:=by
 have neB: ∀a o,B a=some o→a≠D:=fun a o z w=>by rw[w,hb] at z; cases z
 refine ⟨⟨⟨fun a o z n=> ?_,fun a z w=> ?_⟩,ev.gr.bb,fun a o z=> ?_,ev.gr.bt,ev.gr.nw⟩,M.G.st H _ (fun a o z n1 n2 n3 n4=> ?_) ev.gm,ev.len,fun j s ej=> ?_,ev.ap⟩
 ·rw[qag (qap z h0)]; exact ev.gr.gx.hh a o z n
 ·by_cases q:a=D
  ·subst q; exact z h0
  ·rw[qag q] at w; exact ev.gr.gx.dm a z w
 ·rw[qag (neB a o z)]; exact ev.gr.bh a o z
 ·rw[qag (qoy z hD (n1 _))]; exact z
 ·have o:=ev.sl j s ej
  have np:=ap j s ej
  cases s with
  | no=>trivial
  | fz t=>exact o
  | ow ts'=>
   obtain ⟨p',vs',a1,a2,a3,a4,a5⟩:=o
   exact ⟨p',vs',a1,a2,a3,by rw[qag (fun z=>np rfl (by rw[a1,z]))]; exact a4,a5⟩
  | od ts'=>
   obtain ⟨p',vs',a1,a2,a3,a4,a5⟩:=o
   exact ⟨p',vs',a1,a2,a3,by rw[qag (fun z=>np rfl (by rw[a1,z]))]; exact a4,a5⟩
  | ou ts'=>
   obtain ⟨p',vs',a1,a2,a3,a4,a5⟩:=o
   exact ⟨p',vs',a1,a2,a3,by rw[qag (fun z=>np rfl (by rw[a1,z]))]; exact a4,a5⟩
  | pd ts'=>
   obtain ⟨p',vs',a0,a1,a2,a3,a4,a5⟩:=o
   exact ⟨p',vs',a0,a1,a2,a3,by rw[qag (fun z=>np rfl (by rw[a1,z]))]; exact a4,a5⟩
  | pu ts'=>
   obtain ⟨p',vs',a0,a1,a2,a3,a4,a5⟩:=o
   exact ⟨p',vs',a0,a1,a2,a3,by rw[qag (fun z=>np rfl (by rw[a1,z]))]; exact a4,a5⟩
theorem qj7 {α:Type} {M:Md} {H0:Hp} {r:Rs α} {k:α→Prop} (h:Wnt M H0 k (noX r)): ∃a,r= .ok a∧k a:=by
 cases r with
 | no=>exact h.elim
 | ok a=>exact ⟨a,rfl,h⟩
 | ex c=>exact h.elim
section
variable {M:Md} {X:Cx} {tg elt iter:Expr} {ifs:List Expr} {scope:Scope} {pos:Pos} {own:List Str} {fr:List (Str×Nat)} {di:Ro→Rs (List T)} {dg:T→Ro→Rs Ro} {dt:Ro→Rs Bool} {de:Ro→Rs T}
def GNo (dg:T→Ro→Rs Ro):Prop:= ∀t ρ ρ',qi6 ρ→dg t ρ= .ok ρ'→qi6 ρ'
def qru (dg:List T→Ro→Rs Ro):Prop:= ∀t ρ ρ',qi6 ρ→dg t ρ= .ok ρ'→qi6 ρ'
theorem qbg {i:Nat}:GNo (gN i):=fun t ρ ρ' h e j s ej=>by
 cases e
 rw[List.getElem?_set] at ej
 split at ej
 ·split at ej
  ·cases ej; rfl
  ·cases ej
 ·exact h j s ej
theorem qeP:qru gsN:=fun t ρ ρ' h e=>by
 cases t with
 | nil=>cases e; exact h
 | cons _ _=>cases e
theorem qbQ {dg:T→Ro→Rs Ro} {dr:List T→Ro→Rs Ro} (h1:GNo dg) (h2:qru dr):qru (gsC dg dr):=fun t ρ ρ' h e=>by
 cases t with
 | nil=>cases e
 | cons t ts=>
  obtain ⟨ρ1,e1,e2⟩:=qbZ e
  exact h2 ts ρ1 ρ' (h1 t ρ ρ1 h e1) e2
theorem qiH {n:Nat} {dr:List T→Ro→Rs Ro} (h2:qru dr):GNo (gT n dr):=fun t ρ ρ' h e=>by
 cases t with
 | tup ts=>
  unfold gT at e
  dsimp only at e
  split at e
  ·exact h2 ts ρ ρ' h e
  ·cases e
 | _=>cases e
theorem qgb (gn:GNo dg) {σ:St} {H:Hp} {H0 B0 B:Hp} {ρ:Ro} {Q:Addr→Hp→Prop} (ev:Ev M H0 B0 ρ σ H B)
  (w:Wnt M H0 (fun a=> ∀p vs H' B',qa0 H B H' B'→M.G.P H'→H p=none→B' p=none→H' p=some (.lst vs)→qaL M.K B' a vs→Q p H') (qaB own.length (fr.map (·.2)) di dg dt de ρ)):
  qhp (tI M di) (tG M.nox dg) (tPT M.nox dt) (tP M.nox de) own fr σ H Q:=by
 refine ⟨H0,B0,ρ,B,ev,Wnt.mono (Wnt.bind w) fun ts w1 J H1 B1 g1 m1 hz wk D hD=> ?_⟩
 obtain ⟨res,eR,kR⟩:=qj7 w1
 have ev1:=ev.grow g1 m1
 have h0D:H0 D=none:=qbG ev1.gr.gx hD
 have bD:B1 D=none:=by
  cases q:B1 D with
  | none=>rfl
  | some u=>rw[ev1.bh _ _ q] at hD; cases hD
 obtain ⟨gD,mD⟩:=ev1.nown (o:=HO.lst []) hD
 have evD:Ev M.nox H0 B0 (qd9 own.length (fr.map (·.2)) ρ) (qd3 own fr σ) (upd H1 D (.lst [])) B1:=(qoQ (ev1.grow gD mD)).nox
 refine qmX (n:=ts.length) (fun i ys σ' H'=> ∃ρ' B' dn rs,(Ev M.nox H0 B0 ρ' σ' H' B'∧qi6 ρ')∧qa0 H1 B1 H' B'∧H' D=some (.lst ys)∧B' D=none∧ys.length≤i∧qaL M.K B' dn ys∧dn++rs=res∧qiR dg dt de (ts.drop i) ρ'= .ok rs) ?_ hz ?_ ?_ ?_ ?_ ?_
 ·exact ⟨_,B1,[],res,⟨evD,qfC⟩,gD,qak,bD,Nat.le_refl _,.nil,rfl,by simpa using eR⟩
 ·rintro i ys σ' H' ⟨ρ',B',dn,rs,_,_,h,_⟩; exact h
 ·rintro i ys σ' H' ⟨ρ',B',dn,rs,_,_,_,_,h,_⟩; exact h
 ·rintro i ys σ' H' hi ⟨ρ',B',dn,rs,⟨e1,_⟩,e2,_⟩
  exact ((wk H' B' e2.bb e2.bh e2.bt e1.gm i).1 ts[i] (List.getElem?_eq_getElem hi)).1
 ·rintro ys σ' H' ⟨ρ',B',dn,rs,⟨e1,_⟩,e2,e3,e4,e5,e6,e7,e8⟩
  refine ⟨(wk H' B' e2.bb e2.bh e2.bt e1.gm ts.length).2 rfl,?_⟩
  rw[List.drop_length] at e8
  cases e8
  rw[List.append_nil] at e7
  subst e7
  exact kR D ys H' B' (g1.trans e2) e1.gm (qbG g1.gx hD) e4 e3 e6
 ·rintro i ys σ' H' x H3 hi ⟨ρ',B',dn,rs,⟨e1,no1⟩,e2,e3,e4,e5,e6,e7,e8⟩ hy
  obtain ⟨B3,g3,m3,r3⟩:=((wk H' B' e2.bb e2.bh e2.bt e1.gm i).1 ts[i] (List.getElem?_eq_getElem hi)).2 x H3 hy
  rw[List.drop_eq_getElem_cons hi] at e8
  obtain ⟨ρ1,d1,e8⟩:=qbZ e8
  obtain ⟨c,d2,e8⟩:=qbZ e8
  have ev3:=e1.grow g3 m3
  have no2:=gn _ _ _ no1 d1
  have wo: ∀{α:Type} {r:Rs α} {a:α} {k:α→Prop},r= .ok a→k a→Wnt M.nox H0 k r:=fun e k=>by rw[e]; exact k
  refine ⟨H0,B0,ρ',B3,ts[i],ev3,r3,wo d1 fun σ2 ev2=> ?_⟩
  refine tPT.of ev2 (wo d2 fun H5 B5 g5 m5=> ?_)
  have ev5:=ev2.grow g5 m5
  have gg:qa0 H1 B1 H5 B5:=(e2.trans g3).trans g5
  have hD5:H5 D=some (.lst ys):=g5.gx.hh _ _ (g3.gx.hh _ _ e3 (by intro ps z; cases z)) (by intro ps z; cases z)
  have bD5:B5 D=none:=by
   rw[g5.nw D _ (g3.gx.hh _ _ e3 (by intro ps z; cases z)) (by simp) (by simp),g3.nw D _ e3 (by simp) (by simp)]; exact e4
  cases c with
  | false=>
   rw[if_neg (by intro z; cases z)] at e8
   refine qqF ?_
   exact ⟨ρ1,B5,dn,rs,⟨ev5,no2⟩,gg,hD5,bD5,Nat.le_succ_of_le e5,(e6.mono g3.bb).mono g5.bb,e7,e8⟩
  | true=>
   rw[if_pos rfl] at e8
   obtain ⟨y,d3,e8⟩:=qbZ e8
   obtain ⟨ys',d4,e8⟩:=qbZ e8
   cases e8
   refine qqD ?_
   refine tP.of ev5 (wo d3 fun v H6 B6 g6 m6 r6=> ?_)
   have ev6:=ev5.grow g6 m6
   have hD6:H6 D=some (.lst ys):=g6.gx.hh _ _ hD5 (by intro ps z; cases z)
   have bD6:B6 D=none:=by rw[g6.nw D _ hD5 (by simp) (by simp)]; exact bD5
   have g16:qa0 H1 B1 H6 B6:=gg.trans g6
   refine ⟨hD6,ρ1,B6,dn++[y],ys',⟨ev6.updD hD6 h0D bD6 (fun j s ej oj z=>by rw[no2 j s ej] at oj; cases oj),no2⟩,?_,qak,bD6,by rw[List.length_append,List.length_singleton]; lia,(((e6.mono g3.bb).mono g5.bb).mono g6.bb).snoc r6,by rw[List.append_assoc]; exact e7,d4⟩
   ·refine ⟨⟨fun a o z n=> ?_,fun a z w=> ?_⟩,g16.bb,fun a o z=> ?_,g16.bt,g16.nw⟩
    ·rw[qag (qap z hD)]; exact g16.gx.hh a o z n
    ·by_cases q:a=D
     ·subst q; exact z hD
     ·rw[qag q] at w; exact g16.gx.dm a z w
    ·rw[qag (fun q=>by rw[q,bD6] at z; cases z)]; exact g16.bh a o z
theorem qaZ (hc:X.calm=true) (hi:DI M X tg iter di) (gn:GNo dg) (hk:scope.kind= .function) (hcell: ∀y∈scope.names,y.2≠.cell) (hnames: ∀y∈scope.names,y.2= .local→scope.names.lookup y.1=some .local)
  (hfree: ∀y∈scope.names,y.2= .free→X.env.kindOf y.1=some .cell∨X.env.kindOf y.1=some .free) (hfr: ∀p∈fr,X.N[p.2]? =some p.1∧scope.names.lookup p.1=some .free)
  (hb: ∀(fp:List Addr) (s3:Shared) (H3:Hp),DG M.nox (qa4 X scope own fr fp s3 H3) tg dg∧qm5 (qa4 X scope own fr fp s3 H3) ifs (tPT M.nox dt)∧DE M.nox (qa4 X scope own fr fp s3 H3) elt de)
  (hs: ∀x,foldedSetIterable iter X.env x=pure x:=by intro _; rfl):
  DF M X (.ListComp elt [⟨tg,iter,ifs,0⟩] scope pos) (qaB own.length (fr.map (·.2)) di dg dt de):=
 PE.weak (qon hc hi hk hcell hnames hfree hfr hb hs) fun σ H Q ⟨H0,B0,ρ,B,ev,w⟩=>qgb gn ev (Wnt.mono (qbR.mp w) fun a q p vs H' B' g m h1 h2 h3 r=>q p vs H' B' g m h1 h2 h3 r)
theorem qa6 {Y:Cx}:qm5 Y [] (tPT M qb8):=fun pins s σ H Q I ⟨H0,B0,ρ,B,ev,w⟩=>ql7 pins s σ H Q I (w H B (.refl ev.bh ev.bt) ev.gm)
theorem qcV {Y:Cx} {c:Expr} (h:DT M Y c dt):qm5 Y [c] (tPT M dt):=ql6 h
theorem qcI {i:Nat} {y:Str} {py spos:Pos} (hc:X.calm=true) (hi:DI M X tg iter di) (gn:GNo dg) (hk:scope.kind= .function) (hcell: ∀y∈scope.names,y.2≠.cell) (hnames: ∀y∈scope.names,y.2= .local→scope.names.lookup y.1=some .local)
  (hfree: ∀y∈scope.names,y.2= .free→X.env.kindOf y.1=some .cell∨X.env.kindOf y.1=some .free) (hfr: ∀p∈fr,X.N[p.2]? =some p.1∧scope.names.lookup p.1=some .free)
  (hb: ∀(fp:List Addr) (s3:Shared) (H3:Hp),DG M.nox (qa4 X scope own fr fp s3 H3) tg dg∧qm5 (qa4 X scope own fr fp s3 H3) ifs (tPT M.nox dt)∧DE M.nox (qa4 X scope own fr fp s3 H3) elt de)
  (hN:X.N.Nodup) (hiN:X.N[i]? =some y) (hy:X.env.scope.names.lookup y=some .local)
  (hsw:swapsWith (.ListComp elt [⟨tg,iter,ifs,0⟩] scope pos) (some (.Name y py)) spos.line X.env=pure true:=by rfl) (hs: ∀x,foldedSetIterable iter X.env x=pure x:=by intro _; rfl):
  DS M X (.Assign [.Name y py] (.ListComp elt [⟨tg,iter,ifs,0⟩] scope pos) spos) (qbz i (dFz (qaB own.length (fr.map (·.2)) di dg dt de))):=
 PS.weak (L2.ps_setcomp hc hi hk hcell hnames hfree hfr hb hN hiN hy hsw hs) fun D σ H ⟨H0,B0,ρ,B,ev,w⟩=>qgb gn ev (Wnt.mono (Wnt.bind (Wnt.bind w)) fun a q p vs H' B' g m h1 h2 h3 r=>by
  obtain ⟨g2,le⟩:=g.freeze h1 h2 h3
  refine q _ H' _ ((ev.grow g2 m).set ?_) g2.bb
  unfold Rep
  exact ⟨p,vs,rfl,qak,r.mono le⟩)
end
end PL
end
section
namespace PL
open PySem L2
def spP (K:PySem.W.Frag) (G:Gam) (C:Str→Addr) (f:List T→Rs T):Sp:=fun vs H Q E=> ∃B ts,Le B H∧(∀a ps,B a≠some (.tbl ps))∧G.P H∧qaL K B ts vs∧qtq ⟨K,G,E,C,0⟩ H H B Q (f ts)
def outT:Out→Rs T
 | .rt t=>.ok t
 | .nx _=>.ok .non
 | _=>.no
def fnT (n N:Nat) (d:Ro→Rs Out):List T→Rs T:=fun ts=>if ts.length=n then d (ts.map .fz++List.replicate (N - n) .no)>>=outT else .no
section
variable {K:PySem.W.Frag} {G:Gam} {C:Str→Addr} {E:XK}
theorem qhY {H B:Hp} {ts:List T} {vs:List V} {N:List Str} (le:Le B H) (bt: ∀a ps,B a≠some (.tbl ps)) (m:G.P H) (r:qaL K B ts vs) (hN:ts.length≤N.length):
  Ev ⟨K,G,E,C,0⟩ H B (ts.map .fz++List.replicate (N.length - ts.length) .no) (start N vs) H B:=by
 have hl:=r.length
 refine ⟨.refl le bt,m,by simp[L2.start,hl],fun i s e=> ?_,fun i j si sj p hij ei ej oi=> ?_⟩
 ·by_cases hi:i<ts.length
  ·rw[List.getElem?_append_left (by simpa using hi),List.getElem?_map] at e
   cases q:ts[i]? with
   | none=>rw[q] at e; cases e
   | some t=>
    rw[q] at e; cases e
    obtain ⟨v,ev,rv⟩:=r.get q
    refine ⟨v,?_,rv⟩
    unfold L2.start
    rw[List.getElem?_append_left (by simp; lia),List.getElem?_map,ev]
    rfl
  ·rw[List.getElem?_append_right (by simpa using hi),List.getElem?_replicate] at e
   split at e
   ·cases e; trivial
   ·cases e
 ·have h:=List.mem_of_getElem? ei
  rcases List.mem_append.mp h with h | h
  ·obtain ⟨t,_,rfl⟩:=List.mem_map.mp h
   cases oi
  ·rw[(List.mem_replicate.mp h).2] at oi; cases oi
theorem qmA {d:Ro→Rs Out} {n:Nat} {N:List Str} {vs:List V} {H:Hp} {Q:VK} (hn:n≤N.length) (h:spP K G C (fnT n N.length d) vs H Q E):tS ⟨K,G,E,C,0⟩ d { nx:=fun _ H'=>Q .non H',rt:=Q } (start N vs) H:=by
 obtain ⟨B,ts,le,bt,m,r,w⟩:=h
 unfold fnT at w
 split at w
 ·rename_i hl
  refine ⟨H,B,_,B,qhY le bt m r (by lia),?_⟩
  rw[hl]
  refine Wnt.mono (Wnt.bind (qaw.mp w)) fun o w1=> ?_
  cases o with
  | rt t=>exact w1
  | nx ρ=>exact fun σ' H' B' ev _=>w1 .non H' B' ev.gr ev.gm (by unfold Rep; rfl)
  | bk ρ=>exact w1.elim
  | ct ρ=>exact w1.elim
  | rs t ρ=>exact w1.elim
 ·exact w.elim
theorem qn4 {d:Ro→Rs Out} {n N:Nat} {vs:List V} {H:Hp} {Q:VK} (h:spP K G C (fnT n N d) vs H Q E):vs.length=n:=by
 obtain ⟨B,ts,le,bt,m,r,w⟩:=h
 unfold fnT at w
 split at w
 ·rename_i hl
  rw[r.length]; exact hl
 ·exact w.elim
end
section
variable {P:Program} {w:World} {K:PySem.W.Frag} {mg:Str→Option Value} {base:Heap} {G:Gam} {C:Str→Addr}
theorem qch {x qual:Str} {st:Stmt} {f:Addr} {fd:FuncData} {N ps:List Str} {k:Nat} {d:Ro→Rs Out} (F:Fun K x qual st f fd) (S:qav N ps (qaf st))
  (hbody: ∀(cdv:Value) (A:Around) (outer:List Env) (s:Shared) (H:Hp) (E:XK),qbW k (A.deeper (PyProof.Rows.envOfC qual (qaf st) s.heap.objs.size f cdv))→
   DSs ⟨K,G,E,C,0⟩ (qmU CX0 P w K mg base N qual (qaf st) f cdv A outer s H E).nox (qbd st) d):qbe P w K mg base CX0 (k+1) f fd ps (spP K G C (fnT ps.length N.length d)):=by
 have hpl:ps.length≤N.length:=by have:=congrArg List.length S.pre; rw[List.length_take] at this; lia
 exact F.ok S (fun vs H Q E h=>qn4 h) fun cdv A outer s H vs Q E hr h=>⟨_,hbody cdv A outer s H E hr,qmA hpl h⟩
end
def qas (f:List T→Rs T) (ds:Ro→Rs (List T)):Ro→Rs T:=fun ρ=>ds ρ>>=f
section
variable {M:Md} {X:Cx} {CX:CXT} {k:Nat} {f:Addr} {fd:FuncData} {ps:List Str} {fT:List T→Rs T} {x:Str} {p pos:Pos} {e:Expr} {es:List Expr} {ds:Ro→Rs (List T)}
theorem qld {σ:St} {H:Hp} {Q:VK} (h:tP M (qas fT ds) σ H Q):qgy (spP M.K M.G M.C fT) [] M.E (tPA M ds) σ H Q:=by
 obtain ⟨H0,B0,ρ,B,ev,w⟩:=h
 refine tPA.of ev (Wnt.mono (Wnt.bind (qaw.mp w)) fun ts w1 vs H1 B1 g1 m1 r1=> ?_)
 have ev1:=ev.grow g1 m1
 refine ⟨B1,ts,ev1.bh,ev1.bt,m1,by rw[List.append_nil]; exact r1,?_⟩
 cases q:fT ts with
 | no=>rw[q] at w1; exact w1
 | ok r=>rw[q] at w1; exact fun v H' B' g m rr=>w1 v H' B' (g1.trans g) m rr
 | ex c=>rw[q] at w1; exact fun H' g m=>w1 H' (ev1.gr.gx.trans g) m
theorem qo8 (F:qbe X.prog X.w X.K X.mg X.base CX k f fd ps (spP M.K M.G M.C fT)) (hr:qbW k X.A) (hg:Gl X x) (hm:X.mg x=some (.ref f)) (hk:PySem.W.keepIn X.K (.ref f)=true) (hb:qdy X.K fd ps []) (hx:qgr CX X M.E)
  (ha:DA M X (e::es) ds) (hdb:(x==("__debug__" :Str))=false:=by decide) (he:starEach (e::es) X.env=(false,eval e X.env)::starEach es X.env:=by rfl) (hpl:(backTo pos (starEach es X.env)).any (·.1)=false:=by rfl):
  DE M X (.Call (.Name x p) (e::es) [] pos) (qas fT ds):=PE.weak (qdo F hr hg hm hk hb .nil hx ha hdb he hpl) fun σ H Q h=>qld h
end
theorem qiv {M:Md} {X:Cx}:qgr CX0 X M.E:=fun _ _ _ _ _ _ _ h=>h.elim
def dTB (da:Ro→Rs T):Ro→Rs Bool:=fun ρ=>da ρ>>=fun t=>match t with | .bl b=>.ok b | _=>.no
def qrs (d e:Ro→Rs Bool):Ro→Rs Bool:=fun ρ=>d ρ>>=fun c=>if c=true then e ρ else .ok false
def dOr (d e:Ro→Rs Bool):Ro→Rs Bool:=fun ρ=>d ρ>>=fun c=>if c=true then .ok true else e ρ
def qf8 (d:Ro→Rs Bool):Ro→Rs Bool:=fun ρ=>d ρ>>=fun c=>.ok (!c)
def qfr (d e:Ro→Rs T):Ro→Rs T:=fun ρ=>dTB d ρ>>=fun c=>if c=true then e ρ else .ok (.bl false)
def quO (d e:Ro→Rs T):Ro→Rs T:=fun ρ=>dTB d ρ>>=fun c=>if c=true then .ok (.bl true) else e ρ
def qpl (d:Ro→Rs T):Ro→Rs T:=fun ρ=>dTB d ρ>>=fun c=>.ok (.bl (!c))
def quQ (dt:Ro→Rs Bool) (d e:Ro→Rs T):Ro→Rs T:=fun ρ=>dt ρ>>=fun c=>if c=true then d ρ else e ρ
abbrev DW (M:Md) (X:Cx) (e:Expr) (d:Ro→Rs Bool):Prop:=PW X e (tPT M d)
theorem PW.weak {X:Cx} {e:Expr} {t t':TT} (h:PW X e t) (w: ∀σ H Q,t' σ H Q→t σ H Q):PW X e t':=fun wh pins s σ H Q I q=>h wh pins s σ H Q I (w σ H Q q)
theorem qbf {K:PySem.W.Frag} {B:Hp} {b:Bool} {v:V} (r:Rep K B (.bl b) v):v= .bl b:=by unfold Rep at r; exact r
theorem qau {K:PySem.W.Frag} {B:Hp} {b:Int} {v:V} (r:Rep K B (.int b) v):v= .int b:=by unfold Rep at r; exact r
theorem qaG {K:PySem.W.Frag} {B:Hp} {b:Str} {v:V} (r:Rep K B (.str b) v):v= .str b:=by unfold Rep at r; exact r
theorem qbq {K:PySem.W.Frag} {B:Hp} {v:V} (r:Rep K B .non v):v= .non:=by unfold Rep at r; exact r
theorem qhv {K:PySem.W.Frag} {B:Hp} {ts:List T} {v:V} (r:Rep K B (.tup ts) v): ∃p vs,v= .ref p∧B p=some (.tup vs)∧qaL K B ts vs:=by unfold Rep at r; exact r
theorem qbj {K:PySem.W.Frag} {B:Hp} {ts:List T} {v:V} (r:Rep K B (.tup ts) v): ∃p vs,v= .ref p∧SqT K B p vs∧qaL K B ts vs:=by obtain ⟨p,vs,a,b,c⟩:=qhv r; exact ⟨p,vs,a,SqT.of b,c⟩
theorem qbk {K:PySem.W.Frag} {B:Hp} {ts:List T} {v:V} (r:Rep K B (.lst ts) v): ∃p vs,v= .ref p∧B p=some (.lst vs)∧qaL K B ts vs:=by unfold Rep at r; exact r
theorem qce {K:PySem.W.Frag} {B:Hp} {b:Bool}:Rep K B (.bl b) (.bl b):=by unfold Rep; rfl
theorem qaX {K:PySem.W.Frag} {B:Hp} {b:Int}:Rep K B (.int b) (.int b):=by unfold Rep; rfl
theorem qfI {K:PySem.W.Frag} {B:Hp} {b:Str}:Rep K B (.str b) (.str b):=by unfold Rep; rfl
theorem qj4 {K:PySem.W.Frag} {B:Hp} {ts:List T} {p:Addr} {vs:List V} (h:B p=some (.tup vs)) (r:qaL K B ts vs):Rep K B (.tup ts) (.ref p):=by unfold Rep; exact ⟨p,vs,rfl,h,r⟩
theorem qnq {K:PySem.W.Frag} {B:Hp} {ts:List T} {p:Addr} {vs:List V} (h:B p=some (.lst vs)) (r:qaL K B ts vs):Rep K B (.lst ts) (.ref p):=by unfold Rep; exact ⟨p,vs,rfl,h,r⟩
section
variable {M:Md} {X:Cx} {e a b c:Expr} {qde:List Expr} {pos:Pos} {da db dc:Ro→Rs T} {dt du:Ro→Rs Bool}
theorem qca {σ:St} {H:Hp} {Q:Bool→Hp→Prop} (h:tPT M (dTB da) σ H Q):tP M da σ H fun x H1=> ∃c,x= .bl c∧Q c H1:=by
 obtain ⟨H0,B0,ρ,B,ev,w⟩:=h
 refine tP.of ev (Wnt.mono (Wnt.bind (qc7.mp w)) fun t w1 v H1 B1 g1 m1 r1=> ?_)
 cases t with
 | bl b=>exact ⟨b,qbf r1,w1 H1 B1 g1 m1⟩
 | _=>exact w1.elim
theorem qcz (h:DE M X e da) (he: ∀qaT,isTrue e X.env qaT=(do let v ←qaT; standAt e.pos; holding [v] (truthy v)):=by intro _; rfl):DT M X e (dTB da):=PT.weak (qp6 h he) fun σ H Q h=>qca h
theorem qaS {op:CmpOp} {r:R2} {g:T→T→Rs T} (ho:OpR X (compareOp op) r) (hr:RS M r g) (hp:Pl g) (ha:DE M X a da) (hb:DE M X b db) (hm:behindInMarks op b=false:=by first | exact qfb _ (by decide) (by decide) | rfl):DT M X (.Compare a [op] [b] pos) (dTB (dB g da db)):=
 PT.weak (qdm ho ha hb hm) fun _ _ _ h=>qfa hr hp (qca h)
def qcm (g g':T→T→Rs T) (da db dc:Ro→Rs T):Ro→Rs T:=fun ρ=>da ρ>>=fun x=>db ρ>>=fun y=>g x y>>=fun z=>match z with | .bl k=>if k=true then dc ρ>>=fun u=>g' y u else .ok (.bl false) | _=>.no
theorem qeV {r r':R2} {g g':T→T→Rs T} (hr:RS M r g) (hp:Pl g) (hr':RS M r' g') (hp':Pl g') {σ:St} {H:Hp} {Q:VK} (h:tP M (qcm g g' da db dc) σ H Q):qjh r r' (tP M da) (tP M db) (tP M dc) σ H Q:=by
 obtain ⟨H0,B0,ρ,B,ev,w⟩:=h
 refine tP.of ev (Wnt.mono (Wnt.bind (qaw.mp w)) fun x w1 v H1 B1 g1 m1 r1=> ?_)
 refine tP.of (ev.grow g1 m1) (Wnt.mono (Wnt.bind w1) fun y w2 u H2 B2 g2 m2 r2=> ?_)
 have ev2:=(ev.grow g1 m1).grow g2 m2
 cases q:g x y with
 | no=>rw[q] at w2; exact w2.elim
 | ex c=>exact absurd q (hp x y c)
 | ok z=>
  rw[q] at w2
  refine hr H2 B2 v u x y z _ ev2.bh ev2.bt m2 (r1.mono g2.bb) r2 q fun v' H3 B3 g3 m3 r3=> ?_
  cases z with
  | bl k=>
   refine ⟨k,qbf r3,?_⟩
   have ev3:=ev2.grow g3 m3
   cases k with
   | false=>exact qqF (w2 (.bl false) H3 B3 ((g1.trans g2).trans g3) m3 qce)
   | true=>
    refine qqD (tP.of ev3 (Wnt.mono (Wnt.bind w2) fun u' w3 v4 H4 B4 g4 m4 r4=> ?_))
    have ev4:=ev3.grow g4 m4
    cases q':g' y u' with
    | no=>rw[q'] at w3; exact w3.elim
    | ex c=>exact absurd q' (hp' y u' c)
    | ok z'=>
     rw[q'] at w3
     exact hr' H4 B4 u v4 y u' z' _ ev4.bh ev4.bt m4 ((r2.mono g3.bb).mono g4.bb) r4 q' fun v5 H5 B5 g5 m5 r5=>w3 v5 H5 B5 ((((g1.trans g2).trans g3).trans g4).trans g5) m5 r5
  | _=>exact w2.elim
theorem qh6 {op op':CmpOp} {r r':R2} {g g':T→T→Rs T} (ho:OpR X (compareOp op) r) (ho':OpR X (compareOp op') r') (hr:RS M r g) (hp:Pl g) (hr':RS M r' g') (hp':Pl g') (ha:DE M X a da) (hb:DE M X b db) (hc:DE M X c dc)
  (hm:lastMarks [op,op'] [b,c]=false:=by with_unfolding_all rfl):DE M X (.Compare a [op,op'] [b,c] pos) (qcm g g' da db dc):=PE.weak (qme ho ho' ha hb hc hm) fun _ _ _ h=>qeV hr hp hr' hp' h
theorem qmO {op op':CmpOp} {r r':R2} {g g':T→T→Rs T} (ho:OpR X (compareOp op) r) (ho':OpR X (compareOp op') r') (hr:RS M r g) (hp:Pl g) (hr':RS M r' g') (hp':Pl g') (ha:DE M X a da) (hb:DE M X b db) (hc:DE M X c dc)
  (hm:lastMarks [op,op'] [b,c]=false:=by with_unfolding_all rfl):DT M X (.Compare a [op,op'] [b,c] pos) (dTB (qcm g g' da db dc)):=PT.weak (ql4 ho ho' ha hb hc hm) fun _ _ _ h=>qeV hr hp hr' hp' (qca h)
theorem qck (h:DT M X a dt):DT M X (.UnaryOp .Not a pos) (qf8 dt):=PT.weak (qp7 h) fun σ H Q ⟨H0,B0,ρ,B,ev,w⟩=>tPT.of ev (Wnt.mono (Wnt.bind (qc7.mp w)) fun c w1 H1 B1 g m=>w1 H1 B1 g m)
theorem qoU (h:DT M X a dt):DW M X (.BoolOp .And [a] pos) dt:=qoa h
theorem qen (h:DT M X a dt):DW M X (.BoolOp .Or [a] pos) dt:=qp4 h
theorem qqQ (h:DT M X a dt) (h':DW M X (.BoolOp .And (b::qde) pos) du):DW M X (.BoolOp .And (a::b::qde) pos) (qrs dt du):=PW.weak (qp5 h h') fun σ H Q ⟨H0,B0,ρ,B,ev,w⟩=>tPT.of ev (Wnt.mono (Wnt.bind (qc7.mp w)) fun c w1 H1 B1 g m=>by
 cases c with
 | true=>exact qqD (tPT.of (ev.grow g m) (Wnt.mono w1 fun c w2 H2 B2 g2 m2=>w2 H2 B2 (g.trans g2) m2))
 | false=>exact qqF (w1 H1 B1 g m))
theorem qf3 (h:DT M X a dt) (h':DW M X (.BoolOp .Or (b::qde) pos) du):DW M X (.BoolOp .Or (a::b::qde) pos) (dOr dt du):=PW.weak (qsj h h') fun σ H Q ⟨H0,B0,ρ,B,ev,w⟩=>tPT.of ev (Wnt.mono (Wnt.bind (qc7.mp w)) fun c w1 H1 B1 g m=>by
 cases c with
 | true=>exact qqD (w1 H1 B1 g m)
 | false=>exact qqF (tPT.of (ev.grow g m) (Wnt.mono w1 fun c w2 H2 B2 g2 m2=>w2 H2 B2 (g.trans g2) m2)))
theorem qnz {e:Expr} (h:DW M X e dt):DT M X e dt:=PW.pt h
theorem qhn {P':T→Prop} {H0:Hp} {ρ:Ro} {f:Bool→Rs T} (w:Wnt M H0 P' (dTB da ρ>>=f)):Wnt M H0 (fun t=> ∃c,t= .bl c∧Wnt M H0 P' (f c)) (da ρ):=by
 refine Wnt.mono (Wnt.bind (Wnt.bind w)) fun t w1=> ?_
 cases t with
 | bl b=>exact ⟨b,rfl,w1⟩
 | _=>exact w1.elim
theorem qh4 {op} (h:DE M X a da):DE M X (.BoolOp op [a] pos) da:=qqi h
theorem qh8 (h:DE M X a da) (h':DE M X (.BoolOp .And (b::qde) pos) db):DE M X (.BoolOp .And (a::b::qde) pos) (qfr da db):=PE.weak (qqk h h') fun σ H Q ⟨H0,B0,ρ,B,ev,w⟩=>tP.of ev (Wnt.mono (qhn (qaw.mp w)) fun t ⟨c,et,w1⟩ v H1 B1 g m r=>by
 subst et
 refine ⟨c,qbf r,?_⟩
 cases c with
 | true=>exact qqD (tP.of (ev.grow g m) (Wnt.mono w1 fun c w2 v2 H2 B2 g2 m2 r2=>w2 v2 H2 B2 (g.trans g2) m2 r2))
 | false=>exact qqF (w1 _ H1 B1 g m qce))
theorem qqY (h:DE M X a da):DE M X (.UnaryOp .Not a pos) (qpl da):=PE.weak (qqj h) fun σ H Q ⟨H0,B0,ρ,B,ev,w⟩=>tP.of ev (Wnt.mono (qhn (qaw.mp w)) fun t ⟨c,et,w1⟩ v H1 B1 g m r=>by
 subst et
 exact ⟨c,qbf r,w1 _ H1 B1 g m qce⟩)
end
end PL
end
section
namespace Mir
open St
theorem qc2: ∀{l:List Nat} {x:Nat},x∈l→(l.erase x).length+1=l.length
 | [],_,h=>by cases h
 | y::l,x,h=>by
  by_cases e:y=x
  ·subst e; simp
  ·have hb:(y==x)=false:=by simpa using e
   rw[List.erase_cons,hb]
   simp only[Bool.false_eq_true,if_false,List.length_cons]
   have:=qc2 (l:=l) (x:=x) ((List.mem_cons.mp h).resolve_left fun z=>e z.symm)
   lia
theorem qfK {l:List Nat} {x y:Nat} (h:y∈l) (hne:y≠x):y∈l.erase x:=by
 induction l with
 | nil=>cases h
 | cons z l ih=>
  rw[List.erase_cons]
  by_cases e:z=x
  ·have hb:(z==x)=true:=by simpa using e
   rw[hb,if_pos rfl]
   exact (List.mem_cons.mp h).resolve_left fun q=>hne (q.trans e)
  ·have hb:(z==x)=false:=by simpa using e
   rw[hb]
   simp only[Bool.false_eq_true,if_false]
   rcases List.mem_cons.mp h with q | q
   ·rw[q]; exact List.mem_cons_self
   ·exact List.mem_cons_of_mem _ (ih q)
theorem qhG: ∀{l l':List Nat},l.Nodup→(∀x∈l,x∈l')→l.length≤l'.length
 | [],_,_,_=>Nat.zero_le _
 | x::l,l',nd,h=>by
  have hx:x∈l':=h x List.mem_cons_self
  have hn:=List.nodup_cons.mp nd
  have:=qhG (l:=l) (l':=l'.erase x) hn.2 fun y hy=>qfK (h y (List.mem_cons_of_mem _ hy)) fun z=>hn.1 (z▸hy)
  have e:=qc2 hx
  rw[List.length_cons]
  lia
theorem quE {l:List Nat} {n:Nat} (nd:l.Nodup) (lt: ∀x∈l,x<n) (hl:l.length=n): ∀j,j<n→j∈l:=by
 intro j hj
 by_cases q:j∈l
 ·exact q
 ·have h1:=qhG (l:=j::l) (l':=List.range n) (List.nodup_cons.mpr ⟨q,nd⟩) fun x hx=>by
   rcases List.mem_cons.mp hx with e | e
   ·rw[e]; exact List.mem_range.mpr hj
   ·exact List.mem_range.mpr (lt x e)
  rw[List.length_cons,List.length_range] at h1
  lia
theorem qcy {R:Nat→Nat→Prop} (asym: ∀a b,R a b→¬R b a): ∀{l l':List Nat},l.Pairwise R→l'.Pairwise R→(∀x,x∈l↔x∈l')→l=l'
 | [],[],_,_,_=>rfl
 | [],y::l',_,_,h=>by have:=(h y).mpr List.mem_cons_self; cases this
 | x::l,[],_,_,h=>by have:=(h x).mp List.mem_cons_self; cases this
 | x::l,y::l',h1,h2,h=>by
  obtain ⟨a1,b1⟩:=List.pairwise_cons.mp h1
  obtain ⟨a2,b2⟩:=List.pairwise_cons.mp h2
  have exy:x=y:=by
   rcases List.mem_cons.mp ((h x).mp List.mem_cons_self) with e | e
   ·exact e
   ·rcases List.mem_cons.mp ((h y).mpr List.mem_cons_self) with e' | e'
    ·exact e'.symm
    ·exact absurd (a2 x e) (asym x y (a1 y e'))
  subst exy
  have n1:x∉l:=fun q=>asym x x (a1 x q) (a1 x q)
  have n2:x∉l':=fun q=>asym x x (a2 x q) (a2 x q)
  rw[qcy asym b1 b2 fun z=>⟨fun q=>((List.mem_cons.mp ((h z).mp (List.mem_cons_of_mem _ q))).resolve_left fun e=>n1 (e▸q)),fun q=>((List.mem_cons.mp ((h z).mpr (List.mem_cons_of_mem _ q))).resolve_left fun e=>n2 (e▸q))⟩]
variable {ms:List Int} {n:Nat} {p:Array Nat}
theorem qnO {k:Nat→Int} (a b:Nat) (h:L k a b): ¬L k b a:=by
 intro h'
 rcases h with h | h<;>rcases h' with h' | h'<;>lia
theorem qcw (h:qew ms n p):p.toList.Pairwise (L fun i=>ms.getD i 0):=by
 rw[List.pairwise_iff_getElem]
 intro i j hi hj hij
 have hi':i<p.size:=by simpa using hi
 have hj':j<p.size:=by simpa using hj
 have e:=h.2 i j hij (by rw[h.1.sz] at hj'; exact hj')
 have e1:g p i=p.toList[i]:=by unfold g; rw[Array.getD_eq_getD_getElem?]; simp[hi']
 have e2:g p j=p.toList[j]:=by unfold g; rw[Array.getD_eq_getD_getElem?]; simp[hj']
 rw[e1,e2] at e
 exact e
theorem qhC (h:qew ms n p): ∀x∈p.toList,x<n:=by
 intro x hx
 obtain ⟨i,hi,rfl⟩:=List.mem_iff_getElem.mp hx
 have hi':i<p.size:=by simpa using hi
 have e:=h.1.lo i (by rw[h.1.sz] at hi'; exact hi')
 have e1:g p i=p.toList[i]:=by unfold g; rw[Array.getD_eq_getD_getElem?]; simp[hi']
 rw[e1] at e
 exact e
theorem qgI (h:qew ms n p):p.toList.Nodup:=by
 refine List.Pairwise.imp ?_ (qcw h)
 intro a b hab e
 subst e
 exact qnO a a hab hab
theorem order_mem (h:qew ms n p) (x:Nat):x∈p.toList↔x<n:=
 ⟨qhC h x,quE (qgI h) (qhC h) (by rw[Array.length_toList]; exact h.1.sz) x⟩
def qrF (ms:List Int) (n:Nat) (m:Int):List Nat:=(List.range n).filter fun j=>decide (ms.getD j 0=m)
def due (ms:List Int) (n t:Nat):List Nat:=(List.range t).flatMap fun m=>qrF ms n (m:Nat)
theorem map_range_getD {α:Type} (xs:List α) (d:α):(List.range xs.length).map (fun j=>xs.getD j d)=xs:=by
 apply List.ext_getElem
 ·simp
 ·intro i h1 h2
  simp[h2]
end Mir
end
section
namespace SR
open PySem L2 RH St Mir
theorem qqI {k:Nat→Int} {n:Nat}: ∀{l:List Nat},(∀x∈l,x<n)→l.Pairwise (L k)→(ins k n l).Pairwise (L k)
 | [],_,_=>by simp[ins]
 | y::l,hl,h=>by
  have h':=List.pairwise_cons.mp h
  have hy:y<n:=hl y List.mem_cons_self
  show (if k y≤k n then y::ins k n l else n::y::l).Pairwise (L k)
  by_cases c:k y≤k n
  ·rw[if_pos c]
   refine List.pairwise_cons.mpr ⟨fun z hz=> ?_,qqI (fun x hx=>hl x (List.mem_cons_of_mem _ hx)) h'.2⟩
   rcases qfc.mp hz with q | q
   ·subst q
    unfold L
    lia
   ·exact h'.1 z q
  ·rw[if_neg c]
   refine List.pairwise_cons.mpr ⟨fun z hz=> ?_,h⟩
   rcases List.mem_cons.mp hz with q | q
   ·subst q
    exact .inl (by lia)
   ·have:=h'.1 z q
    unfold L at this⊢
    lia
theorem qfE (k:Nat→Int): ∀n,(srt k (List.range n)).Pairwise (L k)
 | 0=>List.Pairwise.nil
 | n+1=>by
  rw[List.range_succ,qe1]
  exact qqI (fun x hx=>List.mem_range.mp ((qbT _).mp hx)) (qfE k n)
theorem qjY {ms:List Int} {n:Nat} {p:Array Nat} (h:qew ms n p):p.toList=srt (fun i=>ms.getD i 0) (List.range n):=
 qcy qnO (qcw h) (qfE _ _) fun x=>by rw[order_mem h,qbT,List.mem_range]
end SR
end
section
namespace RH
open PySem PySem.Spec PyProof.Rows L2 SR
section
variable {α β:Type}
def TAt (tv:α→List V) (H:Hp) (xs:List V) (as:List α):Prop:=xs.length=as.length∧∀(i:Nat) (x:V) (a:α),xs[i]? =some x→as[i]? =some a→∃t,x= .ref t∧H t=some (.tup (tv a))
end
theorem qmE {x:V} (h:qct x=true):eqV x x=true:=by
 cases x<;>first | rfl | (simp[eqV]; done) | cases h
section
variable {X:Cx} {α:Type}
def eqT (us vs:List V):Bool:=(List.range us.length).all fun j=>eqV (us.getD j .non) (vs.getD j .non)
theorem qgU {us:List V} (h:us.all qct=true) {j:Nat} (hj:j<us.length):qct (us.getD j .non)=true:=by
 rw[List.getD_eq_getElem?_getD,List.getElem?_eq_getElem hj]
 exact List.all_eq_true.mp h _ (List.getElem_mem hj)
theorem qh0 {us:List V} (h:us.all qct=true):eqT us us=true:=by
 unfold eqT
 rw[List.all_eq_true]
 intro j hj
 exact qmE (qgU h (List.mem_range.mp hj))
theorem valsArr {us:List V} {is:List Value} (r:qa1 us is) {j:Nat} (h:j<is.toArray.size):RelV (us.getD j .non) is.toArray[j]:=by
 have hj:j<us.length:=by rw[r.length]; simpa using h
 obtain ⟨u,e,q⟩:=r.get (List.getElem?_eq_getElem hj)
 rw[List.getD_eq_getElem?_getD,List.getElem?_eq_getElem hj]
 have:is.toArray[j]=u:=by
  rw[List.getElem?_eq_getElem (by simpa using h)] at e
  simpa using Option.some.inj e
 rw[this]
 exact q
theorem VEq.tup {H:Hp} {t t':Addr} {us vs:List V} (hu:X.A.units+2<cLine) (h1:H t=some (.tup us)) (h2:H t'=some (.tup vs)) (f1:us.all qct=true) (f2:vs.all qct=true) (hl:us.length=vs.length):VEq X H (.ref t) (.ref t') (eqT us vs):=by
 intro pins σ s u v I ru rv
 cases ru; cases rv
 by_cases z:t=t'
 ·subst z
  rw[h1] at h2; cases h2
  rw[qh0 f1]
  exact SeqAt.EqAt.same _
 ·obtain ⟨i1,r1,p1,_⟩:=I.tuple (SqT.of h1)
  obtain ⟨i2,r2,p2,_⟩:=I.tuple (SqT.of h2)
  refine SeqAt.EqAt.of_refs z ?_
  have l1:=r1.length
  have l2:=r2.length
  have q:=SeqAt.RcAt.tuples (A:=X.A.in1) (s:=s) (e:=fun j=>eqV (us.getD j .non) (vs.getD j .non)) p1 p2 (by show X.A.units+1<cLine; lia) (fun j a1 a2=>qh1 (valsArr r1 a1) (valsArr r2 a2) (qgU f1 (by rw[l1]; simpa using a1)) (qgU f2 (by rw[l2]; simpa using a2)))
  have e:((List.range (min i1.toArray.size i2.toArray.size)).all (fun j=>eqV (us.getD j .non) (vs.getD j .non))&&i1.toArray.size==i2.toArray.size)=eqT us vs:=by
   unfold eqT
   simp[←l1,←l2,←hl]
  rw[e] at q
  exact q
def quj (K:PySem.W.Frag) (tv:α→List V):R2:=fun x y H Q=> ∃a b xs ys as,x= .ref a∧y= .ref b∧SqL K H a xs∧SqL K H b ys∧TAt tv H xs as∧TAt tv H ys as∧Q (.bl false) H
theorem op_neT {tv:α→List V} (hf: ∀a,(tv a).all qct=true) (hu:X.A.units+2<cLine):OpR X (compareOp .NotEq) (quj X.K tv):=by
 intro pins s σ H x y v u Q I rx ry h
 obtain ⟨a,b,xs,ys,rs,rfl,rfl,ha,hb,hx,hy,q⟩:=h
 cases rx; cases ry
 obtain ⟨i1,r1,p1,z1⟩:=I.list ha
 obtain ⟨i2,r2,p2,z2⟩:=I.list hb
 have l1:=r1.length
 have l2:=r2.length
 have l3:=hx.1
 have l4:=hy.1
 have q':=SeqAt.RcNeAt.lists (A:=X.A) (s:=s) (e:=fun _=>true) p1.isList p2.isList (by simp; lia) (by lia) (fun j h1 h2=> ?_)
 ·have e:(!(List.range i1.toArray.size).all (fun _=>true))=false:=by simp
  rw[e] at q'
  exact q' _ _ _ _ ⟨.bl false,H,I,rfl,q⟩
 ·have h1':j<i1.length:=by simpa using h1
  have h2':j<i2.length:=by simpa using h2
  have hxj:xs[j]? =some xs[j]:=List.getElem?_eq_getElem (by lia)
  have hyj:ys[j]? =some ys[j]:=List.getElem?_eq_getElem (by lia)
  obtain ⟨t1,c1,d1⟩:=hx.2 j _ rs[j] hxj (List.getElem?_eq_getElem (by lia))
  obtain ⟨t2,c2,d2⟩:=hy.2 j _ rs[j] hyj (List.getElem?_eq_getElem (by lia))
  have q1:=valsArr r1 h1
  have q2:=valsArr r2 h2
  rw[List.getD_eq_getElem?_getD,hxj,Option.getD_some,c1] at q1
  rw[List.getD_eq_getElem?_getD,hyj,Option.getD_some,c2] at q2
  have z:=VEq.tup (X:=X) hu d1 d2 (hf _) (hf _) rfl pins σ s _ _ I q1 q2
  rw[qh0 (hf _)] at z
  exact z
end
end RH
end
section
namespace PL
open PySem L2
mutual
def eqT:T→T→Bool
 | .non,.non=>true
 | .bl a,.bl b=>a==b
 | .bl a,.int b=>(if a then 1 else 0)==b
 | .int a,.bl b=>a==(if b then 1 else 0)
 | .int a,.int b=>a==b
 | .str a,.str b=>a==b
 | .tup xs,.tup ys=>qfv xs ys
 | .lst xs,.lst ys=>qfv xs ys
 | _,_=>false
def qfv:List T→List T→Bool
 | [],[]=>true
 | x::xs,y::ys=>eqT x y&&qfv xs ys
 | _,_=>false
end
def okT:Nat→T→Bool
 | _,.non=>true
 | _,.bl _=>true
 | _,.int _=>true
 | _,.str _=>true
 | n+1,.tup ts=>ts.all (okT n)
 | n+1,.lst ts=>ts.all (okT n)
 | _,_=>false
def qmB:T→Bool
 | .non=>true
 | .bl _=>true
 | .int _=>true
 | .str _=>true
 | _=>false
abbrev qhy (xs ys:List T) (j:Nat):Bool:=eqT (xs.getD j .non) (ys.getD j .non)
theorem qc5: ∀xs ys:List T,qfv xs ys=((List.range (min xs.length ys.length)).all (qhy xs ys)&&xs.length==ys.length)
 | [],[]=>by simp[qfv]
 | [],_::_=>by simp[qfv]
 | _::_,[]=>by simp[qfv]
 | x::xs,y::ys=>by
  rw[qfv,qc5 xs ys]
  have m:min (x::xs).length (y::ys).length=(min xs.length ys.length).succ:=by simp only[List.length_cons]; lia
  rw[m,List.range_succ_eq_map,List.all_cons,List.all_map,←Bool.and_assoc]
  have e:(qhy (x::xs) (y::ys)∘Nat.succ)=qhy xs ys:=by funext j; simp[qhy]
  rw[e,show qhy (x::xs) (y::ys) 0=eqT x y from rfl]
  simp
theorem qhZ {xs ys:List T} (h:xs.length=ys.length):qfv xs ys=(List.range xs.length).all (qhy xs ys):=by
 rw[qc5,h,Nat.min_self,beq_self_eq_true,Bool.and_true]
theorem qkP {xs ys:List T} (h:xs.length≠ys.length):qfv xs ys=false:=by
 rw[qc5]; simp[h]
section kinds
open SeqAt
variable {A:Around} {s:Shared} {x:V} {u:Value} {l b:Addr} {is js:Array Value}
theorem qgW (r:RelV x u) (f:qct x=true) (h:s.heap.IsList l is) (c:A.units<cLine):EqAt A s u (.ref l) false∧EqAt A s (.ref l) u false∧RcAt A s u (.ref l) false∧RcAt A s (.ref l) u false∧RcNeAt A s u (.ref l) true∧RcNeAt A s (.ref l) u true:=by
 cases x with
 | non=>cases r; exact ⟨.none_list h c,.list_none h c,.none_list h c,.list_none h c,.none_list h c,.list_none h c⟩
 | bl k=>cases r; exact ⟨.bool_list k h c,.list_bool k h c,.bool_list k h c,.list_bool k h c,.bool_list k h c,.list_bool k h c⟩
 | int k=>obtain ⟨t,rfl⟩:=r; exact ⟨.int_list k t h c,.list_int k t h c,.int_list k t h c,.list_int k t h c,.int_list k t h c,.list_int k t h c⟩
 | str k=>obtain ⟨t,rfl⟩:=r; exact ⟨.str_list k t h c,.list_str k t h c,.str_list k t h c,.list_str k t h c,.str_list k t h c,.list_str k t h c⟩
 | _=>cases f
theorem qgV (r:RelV x u) (f:qct x=true) (h:s.heap.IsTuple l is) (c:A.units<cLine):EqAt A s u (.ref l) false∧EqAt A s (.ref l) u false∧RcAt A s u (.ref l) false∧RcAt A s (.ref l) u false∧RcNeAt A s u (.ref l) true∧RcNeAt A s (.ref l) u true:=by
 cases x with
 | non=>cases r; exact ⟨.none_tuple h c,.tuple_none h c,.none_tuple h c,.tuple_none h c,.none_tuple h c,.tuple_none h c⟩
 | bl k=>cases r; exact ⟨.bool_tuple k h c,.tuple_bool k h c,.bool_tuple k h c,.tuple_bool k h c,.bool_tuple k h c,.tuple_bool k h c⟩
 | int k=>obtain ⟨t,rfl⟩:=r; exact ⟨.int_tuple k t h c,.tuple_int k t h c,.int_tuple k t h c,.tuple_int k t h c,.int_tuple k t h c,.tuple_int k t h c⟩
 | str k=>obtain ⟨t,rfl⟩:=r; exact ⟨.str_tuple k t h c,.tuple_str k t h c,.str_tuple k t h c,.tuple_str k t h c,.str_tuple k t h c,.tuple_str k t h c⟩
 | _=>cases f
theorem qsg {y:V} {v:Value} (r:RelV x u) (f:qct x=true) (r':RelV y v) (f':qct y=true):RcAt A s u v (eqV x y)∧RcNeAt A s u v (!eqV x y):=by
 cases x with
 | non=>
  cases r
  cases y with
  | non=>cases r'; exact ⟨.none_none,.none_none⟩
  | bl k=>cases r'; exact ⟨.none_bool k,.none_bool k⟩
  | int k=>obtain ⟨t,rfl⟩:=r'; exact ⟨.none_int k t,.none_int k t⟩
  | str k=>obtain ⟨t,rfl⟩:=r'; exact ⟨.none_str k t,.none_str k t⟩
  | _=>cases f'
 | bl i=>
  cases r
  cases y with
  | non=>cases r'; exact ⟨.bool_none i,.bool_none i⟩
  | bl k=>cases r'; exact ⟨.bool_bool i k,.bool_bool i k⟩
  | int k=>obtain ⟨t,rfl⟩:=r'; exact ⟨.bool_int i k t,.bool_int i k t⟩
  | str k=>obtain ⟨t,rfl⟩:=r'; exact ⟨.bool_str i k t,.bool_str i k t⟩
  | _=>cases f'
 | int i=>
  obtain ⟨t0,rfl⟩:=r
  cases y with
  | non=>cases r'; exact ⟨.int_none i t0,.int_none i t0⟩
  | bl k=>cases r'; exact ⟨.int_bool i t0 k,.int_bool i t0 k⟩
  | int k=>obtain ⟨t,rfl⟩:=r'; exact ⟨.int_int i t0 k t,.int_int i t0 k t⟩
  | str k=>obtain ⟨t,rfl⟩:=r'; exact ⟨.int_str i t0 k t,.int_str i t0 k t⟩
  | _=>cases f'
 | str i=>
  obtain ⟨t0,rfl⟩:=r
  cases y with
  | non=>cases r'; exact ⟨.str_none i t0,.str_none i t0⟩
  | bl k=>cases r'; exact ⟨.str_bool i t0 k,.str_bool i t0 k⟩
  | int k=>obtain ⟨t,rfl⟩:=r'; exact ⟨.str_int i t0 k t,.str_int i t0 k t⟩
  | str k=>obtain ⟨t,rfl⟩:=r'; exact ⟨.str_str i t0 k t,.str_str i t0 k t⟩
  | _=>cases f'
 | _=>cases f
end kinds
inductive St3 (K:PySem.W.Frag) (B:Hp) (s:Shared):T→V→Value→Prop
 | flat {t x u}:qmB t=true→qct x=true→RelV x u→Rep K B t x→St3 K B s t x u
 | lst {ts p is vs}:s.heap.IsList p (List.toArray is)→qa1 vs is→qaL K B ts vs→St3 K B s (.lst ts) (.ref p) (.ref p)
 | tup {ts p is vs}:s.heap.IsTuple p (List.toArray is)→qa1 vs is→qaL K B ts vs→St3 K B s (.tup ts) (.ref p) (.ref p)
section
variable {X:Cx} {pins:List (Addr×Obj)} {σ:St} {H B:Hp} {s:Shared}
theorem st3 {n:Nat} {t:T} {x:V} {u:Value} (I:Inv X pins σ H s) (le:Le B H) (ok:okT n t=true) (r:Rep X.K B t x) (ru:RelV x u):St3 X.K B s t x u:=by
 cases t with
 | non=>have:=qbq r; subst this; exact .flat rfl rfl ru r
 | bl b=>have:=qbf r; subst this; exact .flat rfl rfl ru r
 | int b=>have:=qau r; subst this; exact .flat rfl rfl ru r
 | str b=>have:=qaG r; subst this; exact .flat rfl rfl ru r
 | tup ts=>
  obtain ⟨p,vs,rfl,hp,rs⟩:=qbj r
  cases ru
  obtain ⟨is,rv,pl,_⟩:=I.tuple (le.sqT hp)
  exact .tup pl rv rs
 | lst ts=>
  obtain ⟨p,vs,rfl,hp,rs⟩:=qbk r
  cases ru
  obtain ⟨is,rv,pl,_⟩:=I.list (SqL.of (le _ _ hp))
  exact .lst pl.isList rv rs
 | dct _=>cases n<;>cases ok
 | dtu _=>cases n<;>cases ok
 | dcf _=>cases n<;>cases ok
 | fn _=>cases n<;>cases ok
 | scr _=>cases n<;>cases ok
theorem qfi {K:PySem.W.Frag} {t u:T} {x y:V} (ft:qmB t=true) (fu:qmB u=true) (r:Rep K B t x) (r':Rep K B u y):eqT t u=eqV x y:=by
 cases t<;>first | cases ft | skip
 ·have:=qbq r; subst this; cases u<;>first | cases fu | skip
  ·have:=qbq r'; subst this; rfl
  ·have:=qbf r'; subst this; rfl
  ·have:=qau r'; subst this; rfl
  ·have:=qaG r'; subst this; rfl
 ·have:=qbf r; subst this; cases u<;>first | cases fu | skip
  ·have:=qbq r'; subst this; rfl
  ·have:=qbf r'; subst this; rfl
  ·have:=qau r'; subst this; rfl
  ·have:=qaG r'; subst this; rfl
 ·have:=qau r; subst this; cases u<;>first | cases fu | skip
  ·have:=qbq r'; subst this; rfl
  ·have:=qbf r'; subst this; rfl
  ·have:=qau r'; subst this; rfl
  ·have:=qaG r'; subst this; rfl
 ·have:=qaG r; subst this; cases u<;>first | cases fu | skip
  ·have:=qbq r'; subst this; rfl
  ·have:=qbf r'; subst this; rfl
  ·have:=qau r'; subst this; rfl
  ·have:=qaG r'; subst this; rfl
theorem qbs {t:T} {ts:List T} (f:qmB t=true):eqT t (.lst ts)=false∧eqT (.lst ts) t=false∧eqT t (.tup ts)=false∧eqT (.tup ts) t=false:=by
 cases t<;>first | exact ⟨rfl,rfl,rfl,rfl⟩ | cases f
theorem qbF {n:Nat} {ts:List T} (h:ts.all (okT n)=true) {j:Nat} (hj:j<ts.length):okT n (ts.getD j .non)=true:=by
 rw[List.getD_eq_getElem?_getD,List.getElem?_eq_getElem hj]
 exact List.all_eq_true.mp h _ (List.getElem_mem hj)
theorem qdq {n:Nat} {ts:List T} (h:okT n (.lst ts)=true): ∃m,n=m+1∧ts.all (okT m)=true:=by
 cases n with
 | zero=>cases h
 | succ m=>exact ⟨m,rfl,h⟩
theorem qdp {n:Nat} {ts:List T} (h:okT n (.tup ts)=true): ∃m,n=m+1∧ts.all (okT m)=true:=by
 cases n with
 | zero=>cases h
 | succ m=>exact ⟨m,rfl,h⟩
mutual
theorem qc6: ∀(n:Nat) (t:T),okT n t=true→eqT t t=true
 | _,.non,_=>rfl
 | _,.bl b,_=>by simp[eqT]
 | _,.int b,_=>by simp[eqT]
 | _,.str b,_=>by simp[eqT]
 | _,.tup ts,h=>by
  obtain ⟨m,_,h'⟩:=qdp h
  rw[eqT]; exact qem m ts h'
 | _,.lst ts,h=>by
  obtain ⟨m,_,h'⟩:=qdq h
  rw[eqT]; exact qem m ts h'
 | n,.dct _,h=>by cases n<;>cases h
 | n,.dtu _,h=>by cases n<;>cases h
 | n,.dcf _,h=>by cases n<;>cases h
 | n,.fn _,h=>by cases n<;>cases h
 | n,.scr _,h=>by cases n<;>cases h
theorem qem: ∀(n:Nat) (ts:List T),ts.all (okT n)=true→qfv ts ts=true
 | _,[],_=>rfl
 | n,t::ts,h=>by
  rw[List.all_cons,Bool.and_eq_true] at h
  rw[qfv,qc6 n t h.1,qem n ts h.2]; rfl
end
mutual
theorem qe7 (I:Inv X pins σ H s) (le:Le B H): ∀(n m:Nat) (t u:T) (x:V),okT n t=true→okT m u=true→Rep X.K B t x→Rep X.K B u x→t=u
 | n,m,.non,u,x,_,hu,r,r'=>by
  have:=qbq r; subst this
  cases u with
  | non=>rfl
  | bl _=>cases qbf r'
  | int _=>cases qau r'
  | str _=>cases qaG r'
  | tup _=>obtain ⟨_,_,e,_⟩:=qbj r'; cases e
  | lst _=>obtain ⟨_,_,e,_⟩:=qbk r'; cases e
  | dct _=>cases m<;>cases hu
  | dtu _=>cases m<;>cases hu
  | dcf _=>cases m<;>cases hu
  | fn _=>cases m<;>cases hu
  | scr _=>cases m<;>cases hu
 | n,m,.bl _,u,x,_,hu,r,r'=>by
  have:=qbf r; subst this
  cases u with
  | non=>cases qbq r'
  | bl _=>cases qbf r'; rfl
  | int _=>cases qau r'
  | str _=>cases qaG r'
  | tup _=>obtain ⟨_,_,e,_⟩:=qbj r'; cases e
  | lst _=>obtain ⟨_,_,e,_⟩:=qbk r'; cases e
  | dct _=>cases m<;>cases hu
  | dtu _=>cases m<;>cases hu
  | dcf _=>cases m<;>cases hu
  | fn _=>cases m<;>cases hu
  | scr _=>cases m<;>cases hu
 | n,m,.int _,u,x,_,hu,r,r'=>by
  have:=qau r; subst this
  cases u with
  | non=>cases qbq r'
  | bl _=>cases qbf r'
  | int _=>cases qau r'; rfl
  | str _=>cases qaG r'
  | tup _=>obtain ⟨_,_,e,_⟩:=qbj r'; cases e
  | lst _=>obtain ⟨_,_,e,_⟩:=qbk r'; cases e
  | dct _=>cases m<;>cases hu
  | dtu _=>cases m<;>cases hu
  | dcf _=>cases m<;>cases hu
  | fn _=>cases m<;>cases hu
  | scr _=>cases m<;>cases hu
 | n,m,.str _,u,x,_,hu,r,r'=>by
  have:=qaG r; subst this
  cases u with
  | non=>cases qbq r'
  | bl _=>cases qbf r'
  | int _=>cases qau r'
  | str _=>cases qaG r'; rfl
  | tup _=>obtain ⟨_,_,e,_⟩:=qbj r'; cases e
  | lst _=>obtain ⟨_,_,e,_⟩:=qbk r'; cases e
  | dct _=>cases m<;>cases hu
  | dtu _=>cases m<;>cases hu
  | dcf _=>cases m<;>cases hu
  | fn _=>cases m<;>cases hu
  | scr _=>cases m<;>cases hu
 | n,m,.tup ts,u,x,ht,hu,r,r'=>by
  obtain ⟨p,vs,rfl,hp,rs⟩:=qbj r
  cases u with
  | non=>cases qbq r'
  | bl _=>cases qbf r'
  | int _=>cases qau r'
  | str _=>cases qaG r'
  | tup us=>
   obtain ⟨p',vs',e,hp',rs'⟩:=qbj r'
   cases e
   have:=I.tuple_inj (le.sqT hp) (le.sqT hp')
   subst this
   obtain ⟨n',_,ht'⟩:=qdp ht
   obtain ⟨m',_,hu'⟩:=qdp hu
   rw[qe5 I le n' m' ts us vs ht' hu' rs rs']
  | lst us=>
   obtain ⟨p',vs',e,hp',rs'⟩:=qbk r'
   cases e
   obtain ⟨is,_,pl,_⟩:=I.tuple (le.sqT hp)
   obtain ⟨is',_,pl',_⟩:=I.list (SqL.of (le _ _ hp'))
   obtain ⟨o,e1,c1,_⟩:=pl
   obtain ⟨o',e2,c2,_⟩:=pl'.isList
   rw[e1] at e2; cases e2; rw[c1] at c2; injection c2 with c2; exact absurd c2 (by decide)
  | dct _=>cases m<;>cases hu
  | dtu _=>cases m<;>cases hu
  | dcf _=>cases m<;>cases hu
  | fn _=>cases m<;>cases hu
  | scr _=>cases m<;>cases hu
 | n,m,.lst ts,u,x,ht,hu,r,r'=>by
  obtain ⟨p,vs,rfl,hp,rs⟩:=qbk r
  cases u with
  | non=>cases qbq r'
  | bl _=>cases qbf r'
  | int _=>cases qau r'
  | str _=>cases qaG r'
  | lst us=>
   obtain ⟨p',vs',e,hp',rs'⟩:=qbk r'
   cases e
   rw[hp] at hp'; cases hp'
   obtain ⟨n',_,ht'⟩:=qdq ht
   obtain ⟨m',_,hu'⟩:=qdq hu
   rw[qe5 I le n' m' ts us vs ht' hu' rs rs']
  | tup us=>
   obtain ⟨p',vs',e,hp',rs'⟩:=qbj r'
   cases e
   obtain ⟨is,_,pl,_⟩:=I.tuple (le.sqT hp')
   obtain ⟨is',_,pl',_⟩:=I.list (SqL.of (le _ _ hp))
   obtain ⟨o,e1,c1,_⟩:=pl
   obtain ⟨o',e2,c2,_⟩:=pl'.isList
   rw[e1] at e2; cases e2; rw[c1] at c2; injection c2 with c2; exact absurd c2 (by decide)
  | dct _=>cases m<;>cases hu
  | dtu _=>cases m<;>cases hu
  | dcf _=>cases m<;>cases hu
  | fn _=>cases m<;>cases hu
  | scr _=>cases m<;>cases hu
 | n,m,.dct _,u,x,ht,_,_,_=>by cases n<;>cases ht
 | n,m,.dtu _,u,x,ht,_,_,_=>by cases n<;>cases ht
 | n,m,.dcf _,u,x,ht,_,_,_=>by cases n<;>cases ht
 | n,m,.fn _,u,x,ht,_,_,_=>by cases n<;>cases ht
 | n,m,.scr _,u,x,ht,_,_,_=>by cases n<;>cases ht
theorem qe5 (I:Inv X pins σ H s) (le:Le B H): ∀(n m:Nat) (ts us:List T) (vs:List V),ts.all (okT n)=true→us.all (okT m)=true→qaL X.K B ts vs→qaL X.K B us vs→ts=us
 | _,_,[],us,vs,_,_,r,r'=>by
  have:=r.inv0; subst this
  cases us with
  | nil=>rfl
  | cons _ _=>obtain ⟨_,_,e,_⟩:=r'.inv; cases e
 | n,m,t::ts,us,vs,ht,hu,r,r'=>by
  obtain ⟨v,vs',rfl,a,b⟩:=r.inv
  cases us with
  | nil=>cases r'.inv0
  | cons u us=>
   obtain ⟨v',vs'',e,a',b'⟩:=r'.inv
   cases e
   rw[List.all_cons,Bool.and_eq_true] at ht hu
   rw[qe7 I le n m t u v ht.1 hu.1 a a',qe5 I le n m ts us vs' ht.2 hu.2 b b']
end
open SeqAt in
theorem qkQ (I:Inv X pins σ H s) (le:Le B H): ∀(n m:Nat) (A:Around) (t u:T) (x y:V) (v w:Value),okT n t=true→okT m u=true→A.units+n<cLine→Rep X.K B t x→Rep X.K B u y→RelV x v→RelV y w→EqAt A s v w (eqT t u):=by
 intro n
 induction n with
 | zero=>
  intro m A t u x y v w ht hu hc r r' rv rw'
  rcases st3 I le ht r rv with ⟨f,fx,_,_⟩ | _ | _
  ·rcases st3 I le hu r' rw' with ⟨g,gx,_,_⟩ | ⟨pl,_,_⟩ | ⟨pl,_,_⟩
   ·rw[qfi f g r r']; exact qh1 rv rw' fx gx
   ·rw[(qbs f).1]; exact (qgW rv fx pl (by lia)).1
   ·rw[(qbs f).2.2.1]; exact (qgV rv fx pl (by lia)).1
  ·cases ht
  ·cases ht
 | succ n ih=>
  intro m A t u x y v w ht hu hc r r' rv rw'
  have hA:A.units<cLine:=by lia
  rcases st3 I le ht r rv with ⟨f,fx,_,_⟩ | ⟨pl,vs,rs⟩ | ⟨pl,vs,rs⟩
  ·rcases st3 I le hu r' rw' with ⟨g,gx,_,_⟩ | ⟨pl,_,_⟩ | ⟨pl,_,_⟩
   ·rw[qfi f g r r']; exact qh1 rv rw' fx gx
   ·rw[(qbs f).1]; exact (qgW rv fx pl hA).1
   ·rw[(qbs f).2.2.1]; exact (qgV rv fx pl hA).1
  ·rename_i ts p is xs
   rcases st3 I le hu r' rw' with ⟨g,gx,_,_⟩ | ⟨pl',vs',rs'⟩ | ⟨pl',_,_⟩
   ·rw[(qbs g).2.1]; exact (qgW rw' gx pl hA).2.1
   ·rename_i us p' is' ys
    by_cases z:p=p'
    ·subst z
     have e:=qe7 I le (n+1) m _ _ _ ht hu r r'
     rw[←e,qc6 _ _ ht]
     exact EqAt.same _
    ·have l1:=vs.length
     have l2:=vs'.length
     have l3:=rs.length
     have l4:=rs'.length
     refine EqAt.of_refs z ?_
     show RcAt A s _ _ (qfv ts us)
     by_cases hl:ts.length=us.length
     ·rw[qhZ hl]
      have q:=RcAt.lists (A:=A) (s:=s) (e:=qhy ts us) pl pl' (by simp; lia) hA fun j a1 a2=> ?_
      ·have:(List.toArray is).size=ts.length:=by simp; lia
       rw[this] at q; exact q
      ·have b1:j<ts.length:=by simp at a1; lia
       have b2:j<us.length:=by lia
       obtain ⟨m',rfl,hu'⟩:=qdq hu
       exact ih m' A.in1 _ _ _ _ _ _ (qbF ht b1) (qbF hu' b2) (by show A.units+1+n<cLine; lia) (rs.getD j b1) (rs'.getD j b2) (RH.valsArr vs a1) (RH.valsArr vs' a2)
     ·rw[qkP hl]
      exact RcAt.lists_lengths pl pl' (by simp; lia) hA
   ·exact EqAt.list_tuple pl pl' hA
  ·rename_i ts p is xs
   rcases st3 I le hu r' rw' with ⟨g,gx,_,_⟩ | ⟨pl',vs',rs'⟩ | ⟨pl',vs',rs'⟩
   ·rw[(qbs g).2.2.2]; exact (qgV rw' gx pl hA).2.1
   ·exact EqAt.tuple_list pl pl' hA
   ·rename_i us p' is' ys
    by_cases z:p=p'
    ·subst z
     have e:=qe7 I le (n+1) m _ _ _ ht hu r r'
     rw[←e,qc6 _ _ ht]
     exact EqAt.same _
    ·have l1:=vs.length
     have l2:=vs'.length
     have l3:=rs.length
     have l4:=rs'.length
     refine EqAt.of_refs z ?_
     show RcAt A s _ _ (qfv ts us)
     rw[qc5]
     have q:=RcAt.tuples (A:=A) (s:=s) (e:=qhy ts us) pl pl' hA fun j a1 a2=> ?_
     ·have e1:(List.toArray is).size=ts.length:=by simp; lia
      have e2:(List.toArray is').size=us.length:=by simp; lia
      rw[e1,e2] at q; exact q
     ·have b1:j<ts.length:=by simp at a1; lia
      have b2:j<us.length:=by simp at a2; lia
      obtain ⟨m',rfl,hu'⟩:=qdp hu
      exact ih m' A.in1 _ _ _ _ _ _ (qbF ht b1) (qbF hu' b2) (by show A.units+1+n<cLine; lia) (rs.getD j b1) (rs'.getD j b2) (RH.valsArr vs a1) (RH.valsArr vs' a2)
open SeqAt in
theorem qnh (I:Inv X pins σ H s) (le:Le B H) (n:Nat) (A:Around) (t u:T) (x y:V) (v w:Value) (ht:okT n t=true) (hu:okT n u=true) (hc:A.units+n<cLine) (r:Rep X.K B t x) (r':Rep X.K B u y) (rv:RelV x v) (rw':RelV y w):RcAt A s v w (eqT t u)∧RcNeAt A s v w (!eqT t u):=by
 have hA:A.units<cLine:=by lia
 rcases st3 I le ht r rv with ⟨f,fx,_,_⟩ | ⟨pl,vs,rs⟩ | ⟨pl,vs,rs⟩
 ·rcases st3 I le hu r' rw' with ⟨g,gx,_,_⟩ | ⟨pl,_,_⟩ | ⟨pl,_,_⟩
  ·rw[qfi f g r r']; exact qsg rv fx rw' gx
  ·rw[(qbs f).1]; exact ⟨(qgW rv fx pl hA).2.2.1,(qgW rv fx pl hA).2.2.2.2.1⟩
  ·rw[(qbs f).2.2.1]; exact ⟨(qgV rv fx pl hA).2.2.1,(qgV rv fx pl hA).2.2.2.2.1⟩
 ·rename_i ts p is xs
  rcases st3 I le hu r' rw' with ⟨g,gx,_,_⟩ | ⟨pl',vs',rs'⟩ | ⟨pl',_,_⟩
  ·rw[(qbs g).2.1]; exact ⟨(qgW rw' gx pl hA).2.2.2.1,(qgW rw' gx pl hA).2.2.2.2.2⟩
  ·rename_i us p' is' ys
   have l1:=vs.length
   have l2:=vs'.length
   have l3:=rs.length
   have l4:=rs'.length
   obtain ⟨n',rfl,ht'⟩:=qdq ht
   obtain ⟨m',e,hu'⟩:=qdq hu
   cases e
   show RcAt A s _ _ (qfv ts us)∧RcNeAt A s _ _ (!qfv ts us)
   by_cases hl:ts.length=us.length
   ·rw[qhZ hl]
    have it: ∀j (a1:j<(List.toArray is).size) (a2:j<(List.toArray is').size),EqAt A.in1 s (List.toArray is)[j] (List.toArray is')[j] (qhy ts us j):=fun j a1 a2=>by
     have b1:j<ts.length:=by simp at a1; lia
     have b2:j<us.length:=by lia
     exact qkQ I le n' n' A.in1 _ _ _ _ _ _ (qbF ht' b1) (qbF hu' b2) (by show A.units+1+n'<cLine; lia) (rs.getD j b1) (rs'.getD j b2) (RH.valsArr vs a1) (RH.valsArr vs' a2)
    have ez:(List.toArray is).size=ts.length:=by simp; lia
    have q1:=RcAt.lists (A:=A) (s:=s) (e:=qhy ts us) pl pl' (by simp; lia) hA it
    have q2:=RcNeAt.lists (A:=A) (s:=s) (e:=qhy ts us) pl pl' (by simp; lia) hA it
    rw[ez] at q1 q2
    exact ⟨q1,q2⟩
   ·rw[qkP hl]
    exact ⟨RcAt.lists_lengths pl pl' (by simp; lia) hA,RcNeAt.lists_lengths pl pl' (by simp; lia) hA⟩
  ·exact ⟨RcAt.list_tuple pl pl' hA,RcNeAt.list_tuple pl pl' hA⟩
 ·rename_i ts p is xs
  rcases st3 I le hu r' rw' with ⟨g,gx,_,_⟩ | ⟨pl',vs',rs'⟩ | ⟨pl',vs',rs'⟩
  ·rw[(qbs g).2.2.2]; exact ⟨(qgV rw' gx pl hA).2.2.2.1,(qgV rw' gx pl hA).2.2.2.2.2⟩
  ·exact ⟨RcAt.tuple_list pl pl' hA,RcNeAt.tuple_list pl pl' hA⟩
  ·rename_i us p' is' ys
   have l1:=vs.length
   have l2:=vs'.length
   have l3:=rs.length
   have l4:=rs'.length
   obtain ⟨n',rfl,ht'⟩:=qdp ht
   obtain ⟨m',e,hu'⟩:=qdp hu
   cases e
   show RcAt A s _ _ (qfv ts us)∧RcNeAt A s _ _ (!qfv ts us)
   rw[qc5]
   have it: ∀j (a1:j<(List.toArray is).size) (a2:j<(List.toArray is').size),EqAt A.in1 s (List.toArray is)[j] (List.toArray is')[j] (qhy ts us j):=fun j a1 a2=>by
    have b1:j<ts.length:=by simp at a1; lia
    have b2:j<us.length:=by simp at a2; lia
    exact qkQ I le n' n' A.in1 _ _ _ _ _ _ (qbF ht' b1) (qbF hu' b2) (by show A.units+1+n'<cLine; lia) (rs.getD j b1) (rs'.getD j b2) (RH.valsArr vs a1) (RH.valsArr vs' a2)
   have e1:(List.toArray is).size=ts.length:=by simp; lia
   have e2:(List.toArray is').size=us.length:=by simp; lia
   have q1:=RcAt.tuples (A:=A) (s:=s) (e:=qhy ts us) pl pl' hA it
   have q2:=RcNeAt.tuples (A:=A) (s:=s) (e:=qhy ts us) pl pl' hA it
   rw[e1,e2] at q1 q2
   exact ⟨q1,q2⟩
end
end PL
end
section
namespace PL
open PySem L2
def qbp:T→T→Rs T
 | .int i,.int j=>.ok (.int (i+j))
 | .str x,.str y=>if x.length+y.length≤1000 then .ok (.str (x++y)) else .no
 | .lst xs,.lst ys=>if xs.length+ys.length≤1000 then .ok (.lst (xs++ys)) else .no
 | .tup (x::xs),.tup (y::ys)=>if (x::xs).length+(y::ys).length≤1000 then .ok (.tup ((x::xs)++(y::ys))) else .no
 | _,_=>.no
def gSub:T→T→Rs T
 | .int i,.int j=>.ok (.int (i - j))
 | _,_=>.no
def qdD:T→T→Rs T
 | .int i,.int j=>if (-1000000≤i∧i≤1000000)∨(-1000000≤j∧j≤1000000) then .ok (.int (i*j)) else .no
 | _,_=>.no
def qnx:T→T→Rs T
 | .int i,.int j=>if 0<j∧j<1073741824 then .ok (.int (i / j)) else .no
 | _,_=>.no
def qnu:T→T→Rs T
 | .int i,.int j=>if 0<j then .ok (.int (i % j)) else .no
 | _,_=>.no
def qtE:T→Rs T
 | .int i=>.ok (.int (-i))
 | _=>.no
def qpT (x y:Str):Bool:=decide (x.cps.toList<y.cps.toList)
def gLt:T→T→Rs T
 | .int i,.int j=>.ok (.bl (decide (i<j)))
 | .str x,.str y=>.ok (.bl (qpT x y))
 | _,_=>.no
def gLe:T→T→Rs T
 | .int i,.int j=>.ok (.bl (decide (i≤j)))
 | .str x,.str y=>.ok (.bl (!qpT y x))
 | _,_=>.no
def gGt:T→T→Rs T
 | .int i,.int j=>.ok (.bl (decide (j<i)))
 | _,_=>.no
def gGe:T→T→Rs T
 | .int i,.int j=>.ok (.bl (decide (j≤i)))
 | _,_=>.no
def gEq (a b:T):Rs T:=if okT 8 a=true∧okT 8 b=true then .ok (.bl (eqT a b)) else .no
def gNe (a b:T):Rs T:=if okT 8 a=true∧okT 8 b=true then .ok (.bl (!eqT a b)) else .no
def gIx:T→T→Rs T
 | .lst ts,.int k=>(match atI ts k with | some t=>.ok t | none=>.no)
 | .tup ts,.int k=>(match atI ts k with | some t=>.ok t | none=>.no)
 | .str z,.int k=>if z.length≤1000 then (match atI z.cps.toList k with | some c=>.ok (.str ⟨#[c]⟩) | none=>.no) else .no
 | _,_=>.no
def gIs:T→T→Rs T
 | x,.non=>(match x with | .non=>.ok (.bl true) | .dct _=>.no | .scr _=>.no | _=>.ok (.bl false))
 | .bl a,.bl b=>.ok (.bl (a==b))
 | _,_=>.no
def qqM:T→T→Rs T
 | x,.non=>(match x with | .non=>.ok (.bl false) | .dct _=>.no | .scr _=>.no | _=>.ok (.bl true))
 | .bl a,.bl b=>.ok (.bl (a != b))
 | _,_=>.no
theorem Rep.sq {K:PySem.W.Frag} {B:Hp} {ts:List T} {v:V} (r:Rep K B (.lst ts) v): ∃p vs,v= .ref p∧B p=some (.lst vs)∧qaL K B ts vs:=qbk r
section
variable {M:Md} {X:Cx}
def qp3 (K:PySem.W.Frag):R2:=fun x y H Q=>(rI0 (fun i j=>.int (i+j)) x y H Q∨(∃i j,x= .str i∧y= .str j∧i.length+j.length≤sizeLine∧Q (.str (i++j)) H))∨(qty x y H Q∨qp2 K x y H Q)
theorem qaF:OpR X (binaryOp .Add) (qp3 X.K):=(qfH.or qiy).or (qno.or qoq)
theorem qaV:Pl qbp:=fun a b c e=>by unfold qbp at e; split at e<;>first | cases e | (split at e<;>cases e)
theorem qaU (hK:X.K=M.K:=by rfl):RS M (qp3 X.K) qbp:=by
 intro H B x y a b c Q le bt m ra rb e k
 have same: ∀{t:T} {v:V},(∀B,Rep M.K B t v)→c=t→Q v H:=fun r ec=>by subst ec; exact k _ H B (.refl le bt) m (r B)
 unfold qbp at e
 split at e
 ·cases e
  rw[qau ra,qau rb]
  exact .inl (.inl ⟨_,_,rfl,rfl,same (fun B=>qaX) rfl⟩)
 ·split at e
  ·rename_i hz
   cases e
   rw[qaG ra,qaG rb]
   exact .inl (.inr ⟨_,_,rfl,rfl,Nat.le_of_lt (qa3 hz),same (fun B=>qfI) rfl⟩)
  ·cases e
 ·split at e
  ·rename_i xs ys hz
   cases e
   obtain ⟨p,us,rfl,hp,r1⟩:=qbk ra
   obtain ⟨q,ws,rfl,hq,r2⟩:=qbk rb
   refine .inr (.inl ⟨p,q,us,ws,rfl,rfl,le _ _ hp,le _ _ hq,Nat.le_of_lt (qa3 (by rw[r1.length,r2.length]; exact hz)),fun d hd=> ?_⟩)
   have g:=qa0.new (o:=HO.lst (us++ws)) le bt hd (by intro ps z; cases z)
   exact k _ _ _ g (M.G.st H _ (fun a o e _ _ _ _=>by rw[qag (qap e hd)]; exact e) m) (qnq qak ((r1.append r2).mono g.bb))
  ·cases e
 ·split at e
  ·rename_i x xs y ys hz
   cases e
   obtain ⟨p,us,rfl,hp,r1⟩:=qbj ra
   obtain ⟨q,ws,rfl,hq,r2⟩:=qbj rb
   have l1:=r1.length
   have l2:=r2.length
   refine .inr (.inr ⟨p,q,us,ws,rfl,rfl,by rw[hK]; exact le.sqT hp,by rw[hK]; exact le.sqT hq,(fun z=>by rw[z] at l1; cases l1),Nat.le_of_lt (qa3 (by lia)),(fun z=>by rw[z] at l2; cases l2),fun _ d hd=> ?_⟩)
   have g:=qa0.new (o:=HO.tup (us++ws)) le bt hd (by intro ps z; cases z)
   exact k _ _ _ g (M.G.st H _ (fun a o e _ _ _ _=>by rw[qag (qap e hd)]; exact e) m) (qj4 qak ((r1.append r2).mono g.bb))
  ·cases e
 ·cases e
theorem qb4:RS M (rI0 fun i j=>.int (i - j)) gSub:=by
 intro H B x y a b c Q le bt m ra rb e k
 unfold gSub at e
 split at e
 ·cases e
  exact ⟨_,_,qau ra,qau rb,k _ H B (.refl le bt) m qaX⟩
 ·cases e
theorem qb5:Pl gSub:=fun a b c e=>by unfold gSub at e; split at e<;>cases e
theorem qd8:RS M (rI qrv fun i j=>.int (i*j)) qdD:=by
 intro H B x y a b c Q le bt m ra rb e k
 unfold qdD at e
 split at e
 ·split at e
  ·rename_i h
   cases e
   refine ⟨_,_,qau ra,qau rb,?_,k _ H B (.refl le bt) m qaX⟩
   rcases h with h | h
   ·exact .inl ⟨by lia,by lia⟩
   ·exact .inr ⟨by lia,by lia⟩
  ·cases e
 ·cases e
theorem qed:Pl qdD:=fun a b c e=>by unfold qdD at e; split at e<;>first | cases e | (split at e<;>cases e)
theorem qp0:RS M (rI qtP fun i j=>.int (i / j)) qnx:=by
 intro H B x y a b c Q le bt m ra rb e k
 unfold qnx at e
 split at e
 ·split at e
  ·rename_i h
   cases e
   exact ⟨_,_,qau ra,qau rb,h,k _ H B (.refl le bt) m qaX⟩
  ·cases e
 ·cases e
theorem qqb:Pl qnx:=fun a b c e=>by unfold qnx at e; split at e<;>first | cases e | (split at e<;>cases e)
theorem qng:RS M (rI (fun _ j=>0<j) fun i j=>.int (i % j)) qnu:=by
 intro H B x y a b c Q le bt m ra rb e k
 unfold qnu at e
 split at e
 ·split at e
  ·rename_i h
   cases e
   exact ⟨_,_,qau ra,qau rb,h,k _ H B (.refl le bt) m qaX⟩
  ·cases e
 ·cases e
theorem qnk:Pl qnu:=fun a b c e=>by unfold qnu at e; split at e<;>first | cases e | (split at e<;>cases e)
theorem qj1:OpR X (compareOp .Lt) (fun x y H Q=>rI0 (fun i j=>.bl (decide (i<j))) x y H Q∨∃i j,x= .str i∧y= .str j∧Q (.bl (decide (i.cps.toList<j.cps.toList))) H):=qqm.or qj0
theorem qpZ:RS M (fun x y H Q=>rI0 (fun i j=>.bl (decide (i<j))) x y H Q∨∃i j,x= .str i∧y= .str j∧Q (.bl (decide (i.cps.toList<j.cps.toList))) H) gLt:=by
 intro H B x y a b c Q le bt m ra rb e k
 unfold gLt at e
 split at e
 ·cases e; exact .inl ⟨_,_,qau ra,qau rb,k _ H B (.refl le bt) m qce⟩
 ·cases e; exact .inr ⟨_,_,qaG ra,qaG rb,k _ H B (.refl le bt) m qce⟩
 ·cases e
theorem qqa:Pl gLt:=fun a b c e=>by unfold gLt at e; split at e<;>cases e
theorem qcG:OpR X (compareOp .LtE) (fun x y H Q=>rI0 (fun i j=>.bl (decide (i≤j))) x y H Q∨∃i j,x= .str i∧y= .str j∧Q (.bl (!decide (j.cps.toList<i.cps.toList))) H):=qso.or qj2
theorem qgC:RS M (fun x y H Q=>rI0 (fun i j=>.bl (decide (i≤j))) x y H Q∨∃i j,x= .str i∧y= .str j∧Q (.bl (!decide (j.cps.toList<i.cps.toList))) H) gLe:=by
 intro H B x y a b c Q le bt m ra rb e k
 unfold gLe at e
 split at e
 ·cases e; exact .inl ⟨_,_,qau ra,qau rb,k _ H B (.refl le bt) m qce⟩
 ·cases e; exact .inr ⟨_,_,qaG ra,qaG rb,k _ H B (.refl le bt) m qce⟩
 ·cases e
theorem qgH:Pl gLe:=fun a b c e=>by unfold gLe at e; split at e<;>cases e
theorem qlY:RS M (rI0 fun i j=>.bl (decide (j<i))) gGt:=by
 intro H B x y a b c Q le bt m ra rb e k
 unfold gGt at e
 split at e
 ·cases e; exact ⟨_,_,qau ra,qau rb,k _ H B (.refl le bt) m qce⟩
 ·cases e
theorem ql5:Pl gGt:=fun a b c e=>by unfold gGt at e; split at e<;>cases e
def qrk (K:PySem.W.Frag) (neg:Bool):R2:=fun x y H Q=> ∃B t u,Le B H∧Rep K B t x∧Rep K B u y∧okT 8 t=true∧okT 8 u=true∧Q (.bl (if neg then !eqT t u else eqT t u)) H
theorem qbO (hu:X.A.units+8<cLine):OpR X (compareOp .Eq) (qrk X.K false):=by
 intro pins s σ H x y v u Q I rx ry hq181
 obtain ⟨B,t,u',le,ra,rb,o1,o2,q⟩:=hq181
 exact (qnh I le 8 X.A t u' x y v u o1 o2 hu ra rb rx ry).1 _ _ _ _ ⟨.bl _,H,I,rfl,q⟩
theorem op_neT (hu:X.A.units+8<cLine):OpR X (compareOp .NotEq) (qrk X.K true):=by
 intro pins s σ H x y v u Q I rx ry hq184
 obtain ⟨B,t,u',le,ra,rb,o1,o2,q⟩:=hq184
 exact (qnh I le 8 X.A t u' x y v u o1 o2 hu ra rb rx ry).2 _ _ _ _ ⟨.bl _,H,I,rfl,q⟩
theorem qcS (hK:X.K=M.K:=by rfl):RS M (qrk X.K false) gEq:=by
 intro H B x y a b c Q le bt m ra rb e k
 unfold gEq at e
 split at e
 ·rename_i h
  cases e
  exact ⟨B,a,b,le,by rw[hK]; exact ra,by rw[hK]; exact rb,h.1,h.2,k _ H B (.refl le bt) m qce⟩
 ·cases e
theorem qcU:Pl gEq:=fun a b c e=>by unfold gEq at e; split at e<;>cases e
theorem qdH (hK:X.K=M.K:=by rfl):RS M (qrk X.K true) gNe:=by
 intro H B x y a b c Q le bt m ra rb e k
 unfold gNe at e
 split at e
 ·rename_i h
  cases e
  exact ⟨B,a,b,le,by rw[hK]; exact ra,by rw[hK]; exact rb,h.1,h.2,k _ H B (.refl le bt) m qce⟩
 ·cases e
theorem qdI:Pl gNe:=fun a b c e=>by unfold gNe at e; split at e<;>cases e
theorem qhu {K:PySem.W.Frag} {B:Hp} {ts:List T} {vs:List V} {k:Int} {t:T} (r:qaL K B ts vs) (e:atI ts k=some t): ∃v,atI vs k=some v∧Rep K B t v:=by
 unfold atI at e⊢
 rw[r.length]
 cases q:ixN ts.length k with
 | none=>rw[q] at e; cases e
 | some j=>rw[q] at e; exact r.get e
theorem qaO (hK:X.K=M.K:=by rfl):RS M (rIx X.K) gIx:=by
 intro H B x y a b c Q le bt m ra rb e k
 unfold gIx at e
 split at e
 ·split at e
  ·rename_i ts i t et
   cases e
   obtain ⟨p,vs,rfl,hp,r⟩:=qbk ra
   obtain ⟨v,ev,rv⟩:=qhu r et
   exact .inl ⟨p,vs,_,v,rfl,qau rb,SqL.of (le _ _ hp),ev,k _ H B (.refl le bt) m rv⟩
  ·cases e
 ·split at e
  ·rename_i ts i t et
   cases e
   obtain ⟨p,vs,rfl,hp,r⟩:=qbj ra
   obtain ⟨v,ev,rv⟩:=qhu r et
   exact .inr (.inl ⟨p,vs,_,v,rfl,qau rb,by rw[hK]; exact le.sqT hp,ev,k _ H B (.refl le bt) m rv⟩)
  ·cases e
 ·split at e
  ·rename_i hz
   split at e
   ·rename_i ch ec
    cases e
    exact .inr (.inr ⟨_,_,ch,qaG ra,qau rb,Nat.le_of_lt (qa3 hz),ec,k _ H B (.refl le bt) m qfI⟩)
   ·cases e
  ·cases e
 ·cases e
theorem qaP:Pl gIx:=fun a b c e=>by
 unfold gIx at e
 split at e
 ·split at e<;>cases e
 ·split at e<;>cases e
 ·split at e
  ·split at e<;>cases e
  ·cases e
 ·cases e
end
end PL
end
section
namespace PL
open PySem L2
theorem PO.weak {X:Cx} {e:Option Expr} {t t':TO} (h:PO X e t) (w: ∀σ H Q,t' σ H Q→t σ H Q):PO X e t':=fun pins s σ H Q I q=>h pins s σ H Q I (w σ H Q q)
def qpt (M:Md) (H B:Hp) (q:Bool×List T) (p:Addr) (vs:List V):Prop:=if q.1=true then H p=some (.lst vs) else SqT M.K B p vs
theorem qpt.seq {M:Md} {X:Cx} {H B:Hp} {q:Bool×List T} {p:Addr} {vs:List V} (h:qpt M H B q p vs) (le:Le B H) (hK:X.K=M.K):SqL X.K H p vs∨SqT X.K H p vs:=by
 unfold qpt at h
 split at h
 ·exact .inl (SqL.of h)
 ·exact .inr (by rw[hK]; exact le.sqT h)
section
variable {M:Md} {X:Cx} {e a b:Expr} {pos p2:Pos} {da db:Ro→Rs T} {dq:Ro→Rs (Bool×List T)} {lo hi:Option Expr} {dl dh:Ro→Rs (Option Int)}
def dCQ (g:Bool×List T→Rs T) (dq:Ro→Rs (Bool×List T)):Ro→Rs T:=fun ρ=>dq ρ>>=g
def qrr (g:Bool×List T→Rs (List T)) (dq:Ro→Rs (Bool×List T)):Ro→Rs (List T):=fun ρ=>dq ρ>>=g
theorem qnH {r:List V→Hp→VK→Prop} {g:Bool×List T→Rs T} (h:PE X e (tCB r (qcr (tQ M dq) qi7)))
  (hs: ∀(H B:Hp) (p:Addr) (vs:List V) (q:Bool×List T) (c:T) (Q:VK),Le B H→(∀a ps,B a≠some (.tbl ps))→M.G.P H→qpt M H B q p vs→qaL M.K B q.2 vs→g q= .ok c→(∀v H' B',qa0 H B H' B'→M.G.P H'→Rep M.K B' c v→Q v H')→r [.ref p] H Q)
  (hp: ∀q c,g q≠.ex c):DE M X e (dCQ g dq):=by
 refine PE.weak h fun σ H Q hq30=> ?_
 obtain ⟨H0,B0,ρ,B,ev,w⟩:=hq30
 refine tQ.of ev (Wnt.mono (Wnt.bind (qaw.mp w)) fun q w1 p vs H1 B1 g1 m1 hq r1=> ?_)
 have ev1:=ev.grow g1 m1
 cases z:g q with
 | no=>rw[z] at w1; exact w1.elim
 | ex c=>exact absurd z (hp q c)
 | ok c=>
  rw[z] at w1
  exact hs H1 B1 p vs q c Q ev1.bh ev1.bt m1 hq r1 z fun v H' B' g' m' r'=>w1 v H' B' (g1.trans g') m' r'
theorem qqX {r:List V→Hp→VK→Prop} {g:Bool×List T→Rs (List T)} (h:PE X e (tCB r (qcr (tQ M dq) qi7)))
  (hs: ∀(H B:Hp) (p:Addr) (vs:List V) (q:Bool×List T) (c:List T) (Q:VK),Le B H→(∀a ps,B a≠some (.tbl ps))→M.G.P H→qpt M H B q p vs→qaL M.K B q.2 vs→g q= .ok c→(∀p' ws H' B',qa0 H B H' B'→M.G.P H'→H p'=none→B' p'=none→H' p'=some (.lst ws)→qaL M.K B' c ws→Q (.ref p') H')→r [.ref p] H Q)
  (hp: ∀q c,g q≠.ex c):DF M X e (qrr g dq):=by
 refine PE.weak h fun σ H Q hq42=> ?_
 obtain ⟨H0,B0,ρ,B,ev,w⟩:=hq42
 refine tQ.of ev (Wnt.mono (Wnt.bind (qbR.mp w)) fun q w1 p vs H1 B1 g1 m1 hq r1=> ?_)
 have ev1:=ev.grow g1 m1
 cases z:g q with
 | no=>rw[z] at w1; exact w1.elim
 | ex c=>exact absurd z (hp q c)
 | ok c=>
  rw[z] at w1
  exact hs H1 B1 p vs q c Q ev1.bh ev1.bt m1 hq r1 z fun p' ws H' B' g' m' n1 n2 n3 r'=>w1 p' ws H' B' (g1.trans g') m' (qbG g1.gx n1) n2 n3 r'
theorem qcZ {H B:Hp} {p:Addr} {ws:List V} (le:Le B H) (bt: ∀a ps,B a≠some (.tbl ps)) (m:M.G.P H) (hp:H p=none):qa0 H B (upd H p (.lst ws)) B∧M.G.P (upd H p (.lst ws))∧B p=none:=
 ⟨.own le bt hp,M.G.st H _ (fun a o e _ _ _ _=>by rw[qag (qap e hp)]; exact e) m,by
  cases q:B p with
  | none=>rfl
  | some u=>rw[le _ _ q] at hp; cases hp⟩
def quw:Bool×List T→Rs T:=fun q=>.ok (.int q.2.length)
def qkx:Bool×List T→Rs (List T):=fun q=>.ok q.2
theorem qo3 (h:PE X e (tCB (fun xs H Q=> ∃p ys,xs=[.ref p]∧(SqL X.K H p ys∨SqT X.K H p ys)∧∀l,H l=none→Q (.ref l) (upd H l (.lst ys))) (qcr (tQ M dq) qi7))) (hK:X.K=M.K:=by rfl):DF M X e (qrr qkx dq):=
 qqX h (fun H B p vs q c Q le bt m hq r e k=>by
  cases e
  refine ⟨p,vs,rfl,hq.seq le hK,fun l hl=> ?_⟩
  obtain ⟨g,m',bp⟩:=qcZ (M:=M) le bt m hl
  exact k l vs _ B g m' hl bp qak r) (fun q c e=>by cases e)
def qpK:Bool×List T→Rs T:=fun q=>if q.1=true then .ok (.tup q.2) else .no
def qtd (dp dq:Ro→Rs (Bool×List T)):Ro→Rs (List T):=fun ρ=>dp ρ>>=fun x=>dq ρ>>=fun y=>if (x.1=true∧y.1=true)∧x.2.length+y.2.length≤1000 then .ok (x.2++y.2) else .no
theorem qqW {dp:Ro→Rs (Bool×List T)} (ha:DQ M X a dp) (hb:DQ M X b dq):DF M X (.BinOp a .Add b pos) (qtd dp dq):=by
 refine PE.weak (qcE qno ha hb) fun σ H Q hq81=> ?_
 obtain ⟨H0,B0,ρ,B,ev,w⟩:=hq81
 refine tQ.of ev (Wnt.mono (Wnt.bind (qbR.mp w)) fun x w1 p vs H1 B1 g1 m1 hx r1=> ?_)
 have ev1:=ev.grow g1 m1
 refine tQ.of ev1 (Wnt.mono (Wnt.bind w1) fun y w2 p' vs' H2 B2 g2 m2 hy r2=> ?_)
 have ev2:=ev1.grow g2 m2
 split at w2
 ·rename_i hc
  rw[if_pos hc.1.1] at hx
  rw[if_pos hc.1.2] at hy
  refine ⟨p,p',vs,vs',rfl,rfl,g2.gx.hh _ _ hx (by intro ps z; cases z),hy,Nat.le_of_lt (qa3 (by rw[r1.length,r2.length]; exact hc.2)),fun l hl=> ?_⟩
  obtain ⟨g,m',bp⟩:=qcZ (M:=M) (ws:=vs++vs') ev2.bh ev2.bt m2 hl
  exact w2 l _ _ B2 ((g1.trans g2).trans g) m' (qbG (g1.trans g2).gx hl) bp qak ((r1.mono g2.bb).append r2)
 ·exact w2.elim
def ixQ (q:Bool×List T):T→Rs T
 | .int k=>(match atI q.2 k with | some t=>.ok t | none=>.no)
 | _=>.no
def quP (dq:Ro→Rs (Bool×List T)) (db:Ro→Rs T):Ro→Rs T:=fun ρ=>dq ρ>>=fun q=>db ρ>>=fun k=>ixQ q k
def tPO (M:Md) (d:Ro→Rs (Option Int)):TO:=fun σ H Q=> ∃H0 B0 ρ B,Ev M H0 B0 ρ σ H B∧Wnt M H0 (fun o=> ∀H' B',qa0 H B H' B'→M.G.P H'→Q o H') (d ρ)
abbrev DO (M:Md) (X:Cx) (e:Option Expr) (d:Ro→Rs (Option Int)):Prop:=PO X e (tPO M d)
def dON:Ro→Rs (Option Int):=fun _=>.ok none
def dOS (da:Ro→Rs T):Ro→Rs (Option Int):=fun ρ=>da ρ>>=fun t=>match t with | .int i=>.ok (some i) | _=>.no
theorem qdv:DO M X none dON:=PO.weak qog fun σ H Q ⟨H0,B0,ρ,B,ev,w⟩=>w H B (.refl ev.bh ev.bt) ev.gm
theorem qcJ (h:DE M X e da):DO M X (some e) (dOS da):=PO.weak (qof h) fun σ H Q ⟨H0,B0,ρ,B,ev,w⟩=>tP.of ev (Wnt.mono (Wnt.bind w) fun t w1 v H1 B1 g1 m1 r1=>by
 cases t with
 | int i=>exact ⟨i,qau r1,w1 H1 B1 g1 m1⟩
 | _=>exact w1.elim)
def qlB (ts:List T) (lo hi:Option Int):List T:=(ts.drop (HT.sIx ts.length 0 lo)).take (HT.sIx ts.length ts.length hi - HT.sIx ts.length 0 lo)
theorem ql0 {K:PySem.W.Frag} {B:Hp} {ts:List T} {vs:List V} (r:qaL K B ts vs) (lo hi:Option Int):qaL K B (qlB ts lo hi) (qpn vs lo hi):=by
 unfold qlB qpn
 rw[r.length]
 exact (r.drop _).take _
def qgv (dq:Ro→Rs (Bool×List T)) (dl dh:Ro→Rs (Option Int)):Ro→Rs (List T):=fun ρ=>dq ρ>>=fun q=>dl ρ>>=fun l=>dh ρ>>=fun h=>if q.1=true then .ok (qlB q.2 l h) else .no
theorem qdc (ha:DQ M X a dq) (hl:DO M X lo dl) (hh:DO M X hi dh):DF M X (.Subscript a (.Slice lo hi none p2) pos) (qgv dq dl dh):=by
 refine PE.weak (qmb qn6 ha hl hh) fun σ H Q hq136=> ?_
 obtain ⟨H0,B0,ρ,B,ev,w⟩:=hq136
 refine tQ.of ev (Wnt.mono (Wnt.bind (qbR.mp w)) fun q w1 p vs H1 B1 g1 m1 hx r1=> ?_)
 have ev1:=ev.grow g1 m1
 refine ⟨H0,B0,ρ,B1,ev1,Wnt.mono (Wnt.bind w1) fun l w2 H2 B2 g2 m2=> ?_⟩
 have ev2:=ev1.grow g2 m2
 refine ⟨H0,B0,ρ,B2,ev2,Wnt.mono (Wnt.bind w2) fun h w3 H3 B3 g3 m3=> ?_⟩
 have ev3:=ev2.grow g3 m3
 split at w3
 ·rename_i hc
  rw[if_pos hc] at hx
  refine ⟨p,vs,rfl,SqL.of (g3.gx.hh _ _ (g2.gx.hh _ _ hx (by intro ps z; cases z)) (by intro ps z; cases z)),fun d hd=> ?_⟩
  obtain ⟨g,m',bp⟩:=qcZ (M:=M) (ws:=qpn vs l h) ev3.bh ev3.bt m3 hd
  have gg:=(g1.trans g2).trans g3
  exact w3 d _ _ B3 (gg.trans g) m' (qbG gg.gx hd) bp qak (ql0 ((r1.mono g2.bb).mono g3.bb) l h)
 ·exact w3.elim
def qsi (M:Md) (K:PySem.W.Frag) (neg:Bool):R2:=fun x y H Q=> ∃B t p vs ts,Le B H∧Rep K B t x∧y= .ref p∧(H p=some (.lst vs)∨SqT K H p vs)∧qaL K B ts vs∧okT 7 t=true∧ts.all (okT 7)=true∧Q (.bl (if neg then !ts.any (fun u=>eqT u t) else ts.any (fun u=>eqT u t))) H
open SeqAt in
theorem qdR {pins:List (Addr×Obj)} {σ:St} {H B:Hp} {s:Shared} (hu:X.A.units+8<cLine) (I:Inv X pins σ H s) (le:Le B H) {t:T} {x:V} {v:Value} {ts:List T} {vs:List V} {is:List Value} (ra:Rep X.K B t x) (rx:RelV x v) (ot:okT 7 t=true) (ots:ts.all (okT 7)=true) (rs:qaL X.K B ts vs) (rv:qa1 vs is):
  ∃e:Value→Bool,(∀y,y∈is.toArray→EqAt X.A.in1 s y v (e y))∧is.toArray.any e=ts.any (fun u=>eqT u t):=by
 have l1:=rv.length
 have l2:=rs.length
 have at_: ∀(j:Nat) (h:j<is.toArray.size),EqAt X.A.in1 s is.toArray[j] v (eqT (ts.getD j .non) t):=fun j h=>by
  have hj:j<ts.length:=by simp at h; lia
  exact qkQ I le 7 7 X.A.in1 _ _ _ _ _ _ (qbF ots hj) ot (by show X.A.units+1+7<cLine; lia) (rs.getD j hj) ra (RH.valsArr rv h) rx
 have one: ∀(j k:Nat) (h:j<is.toArray.size) (h':k<is.toArray.size),is.toArray[j]=is.toArray[k]→ts.getD j .non=ts.getD k .non:=fun j k h h' e=>by
  have hj:j<ts.length:=by simp at h; lia
  have hk:k<ts.length:=by simp at h'; lia
  have r1:=RH.valsArr rv h
  have r2:=RH.valsArr rv h'
  rw[←e] at r2
  have:=r1.inj r2
  refine qe7 I le 7 7 _ _ _ (qbF ots hj) (qbF ots hk) (rs.getD j hj) ?_
  rw[this]
  exact rs.getD k hk
 classical
 refine ⟨fun y=>decide (∃(j:Nat) (h:j<is.toArray.size),is.toArray[j]=y∧eqT (ts.getD j .non) t=true),fun y hy=> ?_,?_⟩
 ·obtain ⟨j,hj,rfl⟩:=Array.mem_iff_getElem.mp hy
  have q:=at_ j hj
  cases z:eqT (ts.getD j .non) t with
  | true=>
   rw[z] at q
   show EqAt X.A.in1 s is.toArray[j] v (decide (∃(j':Nat) (h:j'<is.toArray.size),is.toArray[j']=is.toArray[j]∧eqT (ts.getD j' .non) t=true))
   rw[decide_eq_true ⟨j,hj,rfl,z⟩]
   exact q
  | false=>
   rw[z] at q
   show EqAt X.A.in1 s is.toArray[j] v (decide (∃(j':Nat) (h:j'<is.toArray.size),is.toArray[j']=is.toArray[j]∧eqT (ts.getD j' .non) t=true))
   rw[decide_eq_false (fun ⟨k,hk,e,ek⟩=>by rw[one k j hk hj e,z] at ek; cases ek)]
   exact q
 ·rw[Bool.eq_iff_iff,Array.any_eq_true,List.any_eq_true]
  constructor
  ·rintro ⟨j,hj,e⟩
   obtain ⟨k,hk,ek,et⟩:=of_decide_eq_true e
   have hk':k<ts.length:=by simp at hk; lia
   refine ⟨ts.getD k .non,?_,et⟩
   rw[List.getD_eq_getElem?_getD,List.getElem?_eq_getElem hk']
   exact List.getElem_mem hk'
  ·rintro ⟨u,hm,eu⟩
   obtain ⟨j,hj,rfl⟩:=List.mem_iff_getElem.mp hm
   have hj':j<is.toArray.size:=by simp; lia
   refine ⟨j,hj',decide_eq_true ⟨j,hj',rfl,?_⟩⟩
   rw[List.getD_eq_getElem?_getD,List.getElem?_eq_getElem hj]
   exact eu
theorem qqn (hu:X.A.units+8<cLine):OpR X (compareOp .In) (qsi M X.K false):=by
 intro pins s σ H x y v u Q I rx ry hq201
 obtain ⟨B,t,p,vs,ts,le,ra,ey,hp,rs,o1,o2,q⟩:=hq201
 subst ey
 cases ry
 rcases hp with hp | hp
 ·obtain ⟨is,rv,pl,_⟩:=I.list (SqL.of hp)
  obtain ⟨e,h1,h2⟩:=qdR hu I le ra rx o1 o2 rs rv
  exact SeqAt.in_listAt e pl.isList h1 (by rw[h2]; exact ⟨.bl _,H,I,rfl,q⟩)
 ·obtain ⟨is,rv,pl,_⟩:=I.tuple hp
  obtain ⟨e,h1,h2⟩:=qdR hu I le ra rx o1 o2 rs rv
  exact SeqAt.in_tupleAt e pl h1 (by rw[h2]; exact ⟨.bl _,H,I,rfl,q⟩)
theorem qjZ (hu:X.A.units+8<cLine):OpR X (compareOp .NotIn) (qsi M X.K true):=by
 intro pins s σ H x y v u Q I rx ry hq212
 obtain ⟨B,t,p,vs,ts,le,ra,ey,hp,rs,o1,o2,q⟩:=hq212
 subst ey
 cases ry
 rcases hp with hp | hp
 ·obtain ⟨is,rv,pl,_⟩:=I.list (SqL.of hp)
  obtain ⟨e,h1,h2⟩:=qdR hu I le ra rx o1 o2 rs rv
  exact SeqAt.notIn_listAt e pl.isList h1 (by rw[h2]; exact ⟨.bl _,H,I,rfl,q⟩)
 ·obtain ⟨is,rv,pl,_⟩:=I.tuple hp
  obtain ⟨e,h1,h2⟩:=qdR hu I le ra rx o1 o2 rs rv
  exact SeqAt.notIn_tupleAt e pl h1 (by rw[h2]; exact ⟨.bl _,H,I,rfl,q⟩)
def qpz (neg:Bool) (t:T) (q:Bool×List T):Rs T:=if okT 7 t=true∧q.2.all (okT 7)=true then .ok (.bl (if neg then !q.2.any (fun u=>eqT u t) else q.2.any (fun u=>eqT u t))) else .no
def dIn (neg:Bool) (da:Ro→Rs T) (dq:Ro→Rs (Bool×List T)):Ro→Rs T:=fun ρ=>da ρ>>=fun t=>dq ρ>>=fun q=>qpz neg t q
theorem qkE {neg:Bool} (hK:X.K=M.K) {σ:St} {H:Hp} {Q:VK} (h:tP M (dIn neg da dq) σ H Q):tOp (qsi M X.K neg) (tP M da) (tQ M dq) σ H Q:=by
 obtain ⟨H0,B0,ρ,B,ev,w⟩:=h
 refine tP.of ev (Wnt.mono (Wnt.bind (qaw.mp w)) fun t w1 v H1 B1 g1 m1 r1=> ?_)
 have ev1:=ev.grow g1 m1
 refine tQ.of ev1 (Wnt.mono (Wnt.bind w1) fun q w2 p vs H2 B2 g2 m2 hq r2=> ?_)
 have ev2:=ev1.grow g2 m2
 unfold qpz at w2
 split at w2
 ·rename_i hc
  refine ⟨B2,t,p,vs,q.2,ev2.bh,by rw[hK]; exact r1.mono g2.bb,rfl,?_,by rw[hK]; exact r2,hc.1,hc.2,w2 _ H2 B2 (g1.trans g2) m2 qce⟩
  split at hq
  ·exact .inl hq
  ·exact .inr (by rw[hK]; exact ev2.bh.sqT hq)
 ·exact w2.elim
theorem qs6 (hu:X.A.units+8<cLine) (ha:DE M X a da) (hb:DQ M X b dq) (hm:behindInMarks .In b=false:=by rfl) (hK:X.K=M.K:=by rfl):DT M X (.Compare a [.In] [b] pos) (dTB (dIn false da dq)):=
 PT.weak (qdm (qqn (M:=M) hu) ha hb hm) fun _ _ _ h=>qkE hK (qca h)
theorem qmN (hu:X.A.units+8<cLine) (ha:DE M X a da) (hb:DQ M X b dq) (hm:behindInMarks .NotIn b=false:=by rfl) (hK:X.K=M.K:=by rfl):DT M X (.Compare a [.NotIn] [b] pos) (dTB (dIn true da dq)):=
 PT.weak (qdm (qjZ (M:=M) hu) ha hb hm) fun _ _ _ h=>qkE hK (qca h)
end
end PL
end
section
namespace SetL
open PySem
def Ri (xs:Array Nat):Prop:=xs.toList.Pairwise (· < ·)
theorem Ri.lt {xs:Array Nat} (h:Ri xs) {i j:Nat} (hij:i<j) (hj:j<xs.size):xs.getD i 0<xs.getD j 0:=by
 have:=List.pairwise_iff_getElem.mp h i j (by rw[Array.length_toList]; lia) (by rw[Array.length_toList]; lia) hij
 simpa [Array.getD,hj,show i<xs.size by lia] using this
theorem qoK {xs:Array Nat} {j:Nat} (h:Ri xs): ∀(fuel lo hi:Nat),lo≤hi→hi≤xs.size→hi - lo≤fuel→(∀i,i<lo→xs.getD i 0<j)→(∀i,hi≤i→i<xs.size→j≤xs.getD i 0)→
  SetTable.below.go xs j fuel lo hi≤xs.size∧(∀i,i<SetTable.below.go xs j fuel lo hi→xs.getD i 0<j)∧∀i,SetTable.below.go xs j fuel lo hi≤i→i<xs.size→j≤xs.getD i 0
 | 0,lo,hi,h1,h2,h3,a,b=>by
  unfold SetTable.below.go
  exact ⟨by lia,a,fun i hi'=>b i (by lia)⟩
 | fuel+1,lo,hi,h1,h2,h3,a,b=>by
  unfold SetTable.below.go
  by_cases c:lo<hi
  ·rw[if_pos c]
   dsimp only
   have hm:(lo+hi) / 2<xs.size:=by lia
   have em:xs.getD ((lo+hi) / 2) j=xs.getD ((lo+hi) / 2) 0:=by simp[Array.getD,hm]
   rw[em]
   by_cases d:xs.getD ((lo+hi) / 2) 0<j
   ·rw[if_pos d]
    refine qoK h fuel _ _ (by lia) h2 (by lia) (fun i hi'=> ?_) b
    by_cases e:i=(lo+hi) / 2
    ·rw[e]; exact d
    ·have:=h.lt (i:=i) (j:=(lo+hi) / 2) (by lia) hm
     lia
   ·rw[if_neg d]
    refine qoK h fuel _ _ (by lia) (by lia) (by lia) a fun i hi' hs=> ?_
    by_cases e:i=(lo+hi) / 2
    ·rw[e]; lia
    ·have:=h.lt (i:=(lo+hi) / 2) (j:=i) (by lia) hs
     lia
  ·rw[if_neg c]
   exact ⟨by lia,a,fun i hi'=>b i (by lia)⟩
theorem qih {xs:Array Nat} (h:Ri xs) (j:Nat):SetTable.below xs j≤xs.size∧(∀i,i<SetTable.below xs j→xs.getD i 0<j)∧∀i,SetTable.below xs j≤i→i<xs.size→j≤xs.getD i 0:=
 qoK h _ _ _ (Nat.zero_le _) (Nat.le_refl _) (by lia) (fun i hi=>absurd hi (Nat.not_lt_zero _)) fun i hi hs=>absurd hs (by lia)
theorem qi0 {xs:Array Nat} (h:Ri xs) {i:Nat} (hi:i<xs.size):SetTable.below xs (xs.getD i 0+1)=i+1:=by
 obtain ⟨b1,b2,b3⟩:=qih h (xs.getD i 0+1)
 rcases Nat.lt_trichotomy (SetTable.below xs (xs.getD i 0+1)) (i+1) with c | c | c
 ·have:=b3 i (by lia) hi; lia
 ·exact c
 ·have:=b2 (i+1) c
  have:=h.lt (i:=i) (j:=i+1) (by lia) (by lia)
  lia
theorem qiZ {xs:Array Nat} (h:Ri xs):SetTable.below xs 0=0:=by
 obtain ⟨b1,b2,b3⟩:=qih h 0
 by_cases c:SetTable.below xs 0=0
 ·exact c
 ·have:=b2 0 (by lia); lia
def qtm (t:SetTable):Prop:=Ri t.place∧t.dummies= #[]
end SetL
end
section
namespace SetL
open PySem
section
variable {prog:Program} {w:World} {K:Type} [DecidableEq K] (knd:KeyKind prog w K)
def quW (h:Heap) (a:Addr) (S:K→Bool) (n:Nat):Prop:=
 ∃o es ep t,h.get? a=some o∧o.ExactSet∧o.data= .set es ep t∧ElemsOf knd es.toList∧(∀k,S k=true↔∃e∈es.toList,knd.is k e.2=true)∧es.size<scanBound∧t.fits es.size=true∧es.size=n∧qtm t∧t.led= !w.params.followText "set-order"
variable {knd} {A:Around} {E:Value→Shared→Prop} {s:Shared}
end
end SetL
end
section
namespace SetL
open PySem
def qms (first:Value) (i:Nat) (a:Addr) (n ep:Nat):Obj:={ cls:=.type "set_iterator",data:=.fields #[first,rawInt i,.ref a,rawInt n,rawInt ep] }
inductive Way (w:World) (h:Heap) (a:Addr) (es:Array (Int×Value)) (ep:Nat) (t:SetTable):List Addr→(Nat→Value)→List Value→Prop
 | drawn {tp:Addr} {ot:Obj} {pl:List Nat} {k:Nat}:h.get? tp=some ot→ot.data= .seq (List.toArray (pl.map fun (i:Nat)=>rawInt i)) k→(∀i∈pl,i<es.size)→Way w h a es ep t [tp] (fun _=>.ref tp) (pl.map fun i=>(es.toList.map (·.2)).getD i .none)
 | text:w.params.followText "set-order" =true→Way w h a es ep t [] (fun _=>rawInt 0) ((pickOrder (w.params.setOrder a ep) es).toList.map (·.2))
 | small:w.params.followText "set-order" =false→(!t.plain&&decide (es.size>1))=false→t.led=true→qtm t→Way w h a es ep t [] (fun i=>if i=0 then rawInt 0 else rawInt (t.place.getD (i - 1) 0+1:Nat)) (es.toList.map (·.2))
theorem Way.keep {w:World} {h h':Heap} {a:Addr} {es:Array (Int×Value)} {ep:Nat} {t:SetTable} {tl:List Addr} {f:Nat→Value} {vs:List Value} (x:Way w h a es ep t tl f vs) (k: ∀b∈tl,∀o,h.get? b=some o→h'.get? b=some o):Way w h' a es ep t tl f vs:=by
 cases x with
 | drawn e d b=>exact .drawn (k _ (List.mem_singleton.mpr rfl) _ e) d b
 | text e=>exact .text e
 | small e1 e2 e3 e4=>exact .small e1 e2 e3 e4
theorem qd6:Slot "set_iterator" "__next__" "set_iterator.__next__" :=
 .of (owner:= "set_iterator") (n:= "__next__") (by rw[typeLookup_type,builtinLookup_eq_fast]; kernel_rfl) (by decide+kernel) (by decide+kernel)
  (by decide+kernel) (by first | exact .inl (by decide+kernel) | exact .inr (by decide+kernel)) (by rw[isSubtype_type]; kernel_rfl)
theorem qfA:Slot "set_iterator" "__iter__" "set_iterator.__iter__" :=
 .of (owner:= "set_iterator") (n:= "__iter__") (by rw[typeLookup_type,builtinLookup_eq_fast]; kernel_rfl) (by decide+kernel) (by decide+kernel)
  (by decide+kernel) (by first | exact .inl (by decide+kernel) | exact .inr (by decide+kernel)) (by rw[isSubtype_type]; kernel_rfl)
theorem qiK:entryFor table "set_iterator.__next__" =some Builtin.«set_iterator.__next__» :=entryFor_of_fast (by kernel_rfl)
theorem qlq (a:Value):argsOk "set_iterator.__next__" ⟨[a],[]⟩:=by
 unfold argsOk; kernel_rfl
section
variable {prog:Program} {w:World} {A:Around} {E:Value→Shared→Prop} {s:Shared}
theorem qjg {Q:Bool→Shared→Prop} (h:Q (w.params.followText "set-order") s):wpAny (model prog w) A setsByText Q E s:=by
 unfold setsByText
 exact wpAny_bind (wpAny_askSetting (wpAny_pure h))
end
end SetL
end
section
namespace SetL
open PySem
section
variable {prog:Program} {w:World} {A:Around} {E:Value→Shared→Prop} {s:Shared} {it a:Addr} {o:Obj} {es:Array (Int×Value)} {ep:Nat} {t:SetTable} {tl:List Addr} {f:Nat→Value} {vs:List Value}
theorem qox {i:Nat} {slot:Nat} {Q:Option (Value×Nat)→Shared→Prop} (ho:s.heap.get? a=some o) (hd:o.data= .set es ep t) (hf:t.fits es.size=true) (W:Way w s.heap a es ep t tl f vs) (hs:f i=rawInt (slot:Nat)) (hi:i≤vs.length)
  (h:Q (vs[i]?.map fun v=>(v,if w.params.followText "set-order" =true then slot else t.place.getD i 0+1)) s):wpAny (model prog w) A (setNext a slot i ep) Q E s:=by
 unfold setNext
 refine wpAny_bind (wpAny_setState_of ho hd hf ?_)
 dsimp only
 refine wpAny_bind (qjg ?_)
 cases W with
 | drawn _ _ _=>cases hs
 | text e=>
  rw[if_pos e,if_neg (by simp)]
  refine wpAny_bind ?_
  unfold setWalk
  refine wpAny_bind (wpAny_setState_of ho hd hf ?_)
  dsimp only
  refine wpAny_bind (qjg ?_)
  rw[if_pos e]
  refine wpAny_bind (wpAny_askSetting (wpAny_pure (wpAny_pure ?_)))
  have e2:(if w.params.followText "set-order" =true then slot else t.place.getD i 0+1)=slot:=if_pos e
  rw[e2] at h
  have e3:((pickOrder (w.params.setOrder a ep) es).toList.map (·.2))[i]?.map (fun v=>(v,slot))=((pickOrder (w.params.setOrder a ep) es)[i]?).map fun e=>(e.2,slot):=by
   rw[List.getElem?_map,Array.getElem?_toList,Option.map_map]
   rfl
  rw[e3] at h
  exact h
 | small e ndr hl hft=>
  rw[e,if_neg (by decide)]
  split
  ·rename_i z
   have z':(!t.plain&&decide (es.size>1))=true:=z
   rw[ndr] at z'; cases z'
  have led:(!t.led&& !es.isEmpty)=false:=by rw[hl]; rfl
  refine wpAny_bind ?_
  show wpAny _ _ (if (!t.led&& !es.isEmpty)=true then _ else _) _ _ _
  rw[if_neg (by rw[led]; decide)]
  refine wpAny_pure (wpAny_pure ?_)
  have e2:(if w.params.followText "set-order" =true then slot else t.place.getD i 0+1)=t.place.getD i 0+1:=if_neg (by rw[e]; decide)
  rw[e2] at h
  have psz:t.place.size=es.size:=by
   have:=hf
   simp only[SetTable.fits,Bool.and_eq_true,beq_iff_eq] at this
   exact this.1
  have hi':i≤es.size:=by simpa using hi
  have eb:SetTable.below t.place slot=i:=by
   cases i with
   | zero=>
    have:slot=0:=by
     have hs':rawInt 0=rawInt (slot:Nat):=by simpa using hs
     unfold rawInt at hs'
     injection hs' with q _
     lia
    rw[this]; exact qiZ hft.1
   | succ i=>
    have:slot=t.place.getD i 0+1:=by
     have hs':rawInt ((t.place.getD i 0+1:Nat):Int)=rawInt (slot:Nat):=by simpa using hs
     unfold rawInt at hs'
     injection hs' with q _
     lia
    rw[this]; exact qi0 hft.1 (by lia)
  have e3:((es.toList.map (·.2))[i]?.map fun v=>(v,t.place.getD i 0+1))=(es[i]?).map fun e=>(e.2,t.place.getD i 0+1):=by
   rw[List.getElem?_map,Array.getElem?_toList,Option.map_map]
   rfl
  rw[e3] at h
  rw[eb]
  by_cases c:i<es.size
  ·have c1:es[i]? =some es[i]:=by simp[c]
   have c2:t.place[i]? =some (t.place.getD i 0):=by simp[Array.getD,psz,c]
   rw[c1] at h⊢
   rw[c2]
   exact h
  ·have c1:es[i]? =none:=by simp; lia
   rw[c1] at h⊢
   exact h
theorem qn0 {Q:Option Value→Shared→Prop} (hh:A.handled=none) {s:Shared} (h: ∀h',(∀b u,s.heap.get? b=some u→h'.get? b=some u)→Q none { s with heap:=h' }):
  wpAny (model prog w) A.in1 (do raiseNew (←newExc (.type "StopIteration") []):Sem Fin) (fun r s'=> ∃v,r=Fin.done (.ret v)∧Q (some v) s') (fun e s'=>wpAny (model prog w) A (do if ←isInstance e (.type "StopIteration") then pure none else throw e) Q E s') s:=by
 refine wpAny_bind ?_
 simp only[newExc,newTuple]
 refine wpAny_bind (wpAny_newObj_type ?_ (by size_fits))
 refine wpAny_bind (m:=firstArgMember _ _) (wpAny_of_eq (a:=Value.none) (by first | rfl | (simp only[firstArgMember]; rfl)) ?_)
 refine wpAny_newObj_type ?_ (by size_fits)
 simp only[raiseNew]
 refine wpAny_bind (wpAny_handled ?_)
 rw[show A.in1.handled=none from hh]
 refine wpAny_bind (wpAny_pure (wpAny_throw ?_))
 refine wpAny_bind (wpAny_isInstance (T:= "StopIteration") (b:=true) ⟨_,Heap.get?_push_size _ rfl,rfl⟩ isSubtype_stop ?_)
 exact wpAny_pure (h _ fun b u q=>Heap.get?_push_of_some _ (Heap.get?_push_of_some _ q))
theorem qhX {first:Value} {i n:Nat} {j:Nat} {x:Value} {h:Heap} (ho:h.get? it=some (qms first i a n ep)):(h.update it (Obj.mapFields (·.setIfInBounds j x))).get? it=some { cls:=.type "set_iterator",data:=.fields (#[first,rawInt i,.ref a,rawInt n,rawInt ep].setIfInBounds j x) }:=
 Heap.get?_update_self _ ho rfl
theorem qm9 {i:Nat} {Q:Option Value→Shared→Prop} (hh:A.handled=none) (hne:a≠it) (htl:it∉tl) (hit:s.heap.get? it=some (qms (f i) i a es.size ep)) (ho:s.heap.get? a=some o) (hd:o.data= .set es ep t) (hf:t.fits es.size=true) (W:Way w s.heap a es ep t tl f vs) (hv:vs.length=es.size) (hi:i≤vs.length)
  (h1: ∀v h',vs[i]? =some v→Heap.SameBut it s.heap h'→h'.get? it=some (qms (f (i+1)) (i+1) a es.size ep)→Q (some v) { s with heap:=h' })
  (h0: ∀h',vs[i]? =none→(∀b u,b≠it→s.heap.get? b=some u→h'.get? b=some u)→Q none { s with heap:=h' }):wpAny (model prog w) A (pyNext (.ref it)) Q E s:=by
 have ty:s.TypeIs (.ref it) "set_iterator" :=⟨_,hit,rfl⟩
 unfold pyNext
 refine wpAny_bind (wpAny_attempt (wpAny_callSpecial?_slot (name:=Str.ofString "__next__") ty qd6 (wpAny_call_entry qd6 ty qiK ?_ (qlq _))))
 unfold Builtin.«set_iterator.__next__» slotArgs
 refine wpAny_bind (wpAny_pure (wpAny_bind (wpAny_fieldsOf hit rfl ?_)))
 refine wpAny_bind (wpAny_setEntries_of ho hd hf ?_)
 dsimp only
 rw[if_neg (by simp)]
 have one: ∀(v:Value) (s2:Shared),Q (some v) s2→∃v',Fin.done (Flow.ret v)=Fin.done (Flow.ret v')∧wpAny (model prog w) A (match (Except.ok (some v'):Except Value (Option Value)) with
      | Except.ok (some v)=>pure (some v)
      | Except.ok none=>unsupported "iter:the-iterator's-class-has-lost-its-__next__-amid-the-walk"
      | Except.error e=>do
       let b ←isInstance e (Value.type "StopIteration")
       if b=true then pure none else throw e) Q E s2:=fun v s2 q=>⟨v,rfl,wpAny_pure q⟩
 have stop: ∀s2:Shared,(∀h',(∀b u,s2.heap.get? b=some u→h'.get? b=some u)→Q none { s2 with heap:=h' })→wpAny (model prog w) A.in1 (do raiseNew (←newExc (.type "StopIteration") []):Sem Fin) (fun fin s'=> ∃v,fin=Fin.done (Flow.ret v)∧wpAny (model prog w) A (match (Except.ok (some v):Except Value (Option Value)) with
      | Except.ok (some v)=>pure (some v)
      | Except.ok none=>unsupported "iter:the-iterator's-class-has-lost-its-__next__-amid-the-walk"
      | Except.error e=>do
       let b ←isInstance e (Value.type "StopIteration")
       if b=true then pure none else throw e) Q E s') (fun e s'=>wpAny (model prog w) A (do
       let b ←isInstance e (Value.type "StopIteration")
       if b=true then pure none else throw e) Q E s') s2:=fun s2 q=>wpAny_mono (qn0 (Q:=Q) (E:=E) hh q) (fun r s' ⟨v,e,q'⟩=>⟨v,e,wpAny_pure q'⟩) fun _ _ z=>z
 have byInt: ∀slot:Nat,f i=rawInt (slot:Nat)→(∀v,vs[i]? =some v→f (i+1)=rawInt ((if w.params.followText "set-order" =true then slot else t.place.getD i 0+1:Nat):Int))→
   wpAny (model prog w) A.in1 (do
    let r ←setNext a ((slot:Nat):Int).toNat ((i:Nat):Int).toNat ((ep:Nat):Int).toNat
    match r with
     | some (x,next)=>do
      setField (Value.ref it) 0 (rawInt (next:Nat))
      setField (Value.ref it) 1 (rawInt ((i:Nat)+1))
      ret x
     | none=>do
      setField (Value.ref it) 2 Value.none
      let e ←newExc (Value.type "StopIteration") []
      raiseNew e) (fun fin s'=> ∃v,fin=Fin.done (Flow.ret v)∧wpAny (model prog w) A (match (Except.ok (some v):Except Value (Option Value)) with
      | Except.ok (some v)=>pure (some v)
      | Except.ok none=>unsupported "iter:the-iterator's-class-has-lost-its-__next__-amid-the-walk"
      | Except.error e=>do
       let b ←isInstance e (Value.type "StopIteration")
       if b=true then pure none else throw e) Q E s') (fun e s'=>wpAny (model prog w) A (do
       let b ←isInstance e (Value.type "StopIteration")
       if b=true then pure none else throw e) Q E s') s:=fun slot hs hnx=>by
  rw[Int.toNat_natCast,Int.toNat_natCast,Int.toNat_natCast]
  refine wpAny_bind (qox (slot:=slot) ho hd hf W hs hi ?_)
  cases q:vs[i]? with
  | some v=>
   dsimp only[Option.map]
   refine wpAny_bind (wpAny_setField (i:=0) hit rfl (by simp) ?_)
   refine wpAny_bind (wpAny_setField (i:=1) (qhX hit) rfl (by simp) (wpAny_pure (one v _ (h1 v _ q ((Heap.SameBut.update ..).trans (Heap.SameBut.update ..)) ?_))))
   rw[hnx v q]
   exact Heap.get?_update_self _ (qhX hit) rfl
  | none=>
   dsimp only[Option.map]
   refine wpAny_bind (wpAny_setField (i:=2) hit rfl (by simp) (stop _ fun h' kp=>h0 h' q fun b u hb e=>kp b u ?_))
   exact (Heap.get?_update_other _ _ (Ne.symm hb)).trans e
 cases id W with
 | drawn et dt bd=>
  rename_i tp ot pl k
  show wpAny _ _ (seqItems? (.ref tp)>>=_) _ _ _
  refine wpAny_bind (wpAny_seqItems et dt ?_)
  dsimp only
  rw[Int.toNat_natCast]
  cases q:pl[i]? with
  | some j=>
   have e1:(List.toArray (pl.map fun (i:Nat)=>rawInt i))[i]? =some (rawInt (j:Nat)):=by simp[q]
   rw[e1]
   have hj:=bd j (List.mem_of_getElem? q)
   show wpAny _ _ (setNextDrawn a ((j:Nat):Int).toNat ((ep:Nat):Int).toNat>>=_) _ _ _
   rw[Int.toNat_natCast,Int.toNat_natCast]
   have ej:es[j]? =some es[j]:=by simp[hj]
   refine wpAny_bind ?_
   unfold setNextDrawn
   refine wpAny_bind (wpAny_setState_of ho hd hf ?_)
   dsimp only
   rw[if_neg (by simp),ej]
   refine wpAny_pure ?_
   have ev:(pl.map fun i=>(es.toList.map (·.2)).getD i Value.none)[i]? =some es[j].2:=by
    rw[List.getElem?_map,q]
    simp[hj]
   exact wpAny_bind (wpAny_setField hit rfl (by simp) (wpAny_pure (one _ _ (h1 _ _ ev (Heap.SameBut.update ..) (qhX hit)))))
  | none=>
   have e1:(List.toArray (pl.map fun (i:Nat)=>rawInt i))[i]? =none:=by simp[List.getElem?_eq_none_iff.mp q]
   rw[e1]
   have ev:(pl.map fun i=>(es.toList.map (·.2)).getD i Value.none)[i]? =none:=by rw[List.getElem?_map,q]; rfl
   refine wpAny_bind (wpAny_setField hit rfl (by simp) ?_)
   refine wpAny_bind (wpAny_setField (qhX hit) rfl (by simp) (stop _ fun h' kp=>h0 h' ev fun b u hb e=>kp b u ?_))
   exact (Heap.get?_update_other _ _ (Ne.symm hb)).trans ((Heap.get?_update_other _ _ (Ne.symm hb)).trans e)
 | text e=>
  exact byInt 0 rfl fun v _=>by rw[if_pos e]; rfl
 | small e hn hl hft=>
  cases i with
  | zero=>exact byInt 0 rfl fun v _=>by rw[if_neg (by rw[e]; decide)]; rfl
  | succ i=>
   have:=byInt (t.place.getD i 0+1) rfl fun v _=>by rw[if_neg (by rw[e]; decide)]; rfl
   exact this
end
end SetL
end
section
namespace SetL
open PySem
theorem qfW:entryFor table "set_iterator.__iter__" =some Builtin.«dict_keyiterator.__iter__» :=
 entryFor_alias (id':= "dict_keyiterator.__iter__") (by kernel_rfl) rfl (by decide+kernel) (by kernel_rfl)
theorem qhd (a:Value):argsOk "set_iterator.__iter__" ⟨[a],[]⟩:=by
 unfold argsOk; kernel_rfl
section
variable {prog:Program} {w:World} {A:Around} {it a:Addr} {o:Obj} {es:Array (Int×Value)} {ep:Nat} {t:SetTable} {tl:List Addr} {f:Nat→Value} {vs:List Value}
def quZ (w:World) (it a:Addr) (o:Obj) (es:Array (Int×Value)) (ep:Nat) (t:SetTable) (tl:List Addr) (f:Nat→Value) (vs:List Value) (i:Nat) (h:Heap):Prop:=h.get? it=some (qms (f i) i a es.size ep)∧h.get? a=some o∧Way w h a es ep t tl f vs∧i≤vs.length
theorem qtR (hh:A.handled=none) (hne:a≠it) (htl:it∉tl) (hd:o.data= .set es ep t) (hf:t.fits es.size=true) (hv:vs.length=es.size):Walks prog w A it (it::a::tl) [it] vs.length (fun i v=>vs[i]? =some v) (quZ w it a o es ep t tl f vs) where
 sub:=fun b hb=>by rw[List.mem_singleton.mp hb]; exact List.mem_cons_self
 frame:=fun i h h' st k=>⟨k it List.mem_cons_self _ st.1,k a (List.mem_cons_of_mem _ List.mem_cons_self) _ st.2.1,st.2.2.1.keep fun b hb u e=>k b (List.mem_cons_of_mem _ (List.mem_cons_of_mem _ hb)) u e,st.2.2.2⟩
 item:=fun i s Q E hi st hQ=>by
  refine qm9 hh hne htl st.1 st.2.1 hd hf st.2.2.1 hv st.2.2.2 (fun v h' ev sb g=> ?_) fun h' ev _=> ?_
  ·have e:s={ s with toks:=s.toks }:=rfl
   refine hQ v h' s.toks ev ⟨g,(sb.2 a hne).trans st.2.1,st.2.2.1.keep fun b hb u q=>(sb.2 b (fun z=>htl (by rw[←z]; exact hb))).trans q,hi⟩ fun b u hb q=>(sb.2 b (fun z=>hb (by rw[z]; exact List.mem_singleton.mpr rfl))).trans q
  ·rw[List.getElem?_eq_getElem hi] at ev; cases ev
 done:=fun s Q E st hQ=>by
  refine qm9 hh hne htl st.1 st.2.1 hd hf st.2.2.1 hv st.2.2.2 (fun v h' ev sb g=> ?_) fun h' ev kp=> ?_
  ·rw[List.getElem?_eq_none_iff.mpr (Nat.le_refl _)] at ev; cases ev
  ·exact hQ h' s.toks fun b u hb q=>kp b u (fun z=>hb (by rw[z]; exact List.mem_singleton.mpr rfl)) q
 self:=fun i s Q E st hQ=>by
  have ty:s.TypeIs (.ref it) "set_iterator" :=⟨_,st.1,rfl⟩
  refine wpAny_pyIter_slot ty qfA (wpAny_call_entry qfA ty qfW ?_ (qhd _))
  show wpAny _ _ (ret (.ref it)) _ _ s
  exact wpAny_pure ⟨_,rfl, "set_iterator",_,ty,qd6.lookup,hQ⟩
end
section
variable {prog:Program} {w:World} {A:Around} {E:Value→Shared→Prop} {s:Shared}
end
end SetL
end
section
namespace SetL
open PySem
section
variable {K:Type} [DecidableEq K]
def mem (key:Nat→K) (i:Nat) (k:K):Bool:=(List.range i).any fun j=>decide (k=key j)
end
section
variable {prog:Program} {w:World} {K:Type} [DecidableEq K] {knd:KeyKind prog w K} {A:Around} {R:Result→Shared→Prop} {I:Addr} {fp wr:List Addr} {G:Array GenState→Array GenState→Prop} {n:Nat} {P:Nat→Value→Prop} {Sx:Nat→Shared→Prop}
end
section
variable {prog:Program} {w:World} {K:Type} [DecidableEq K] {knd:KeyKind prog w K} {A:Around} {E:Value→Shared→Prop} {s:Shared}
end
end SetL
end
section
namespace SR
theorem qlS {α:Type} {P:List α→Prop} (h0:P []) (hs: ∀l a,P l→P (l++[a])): ∀l,P l:=by
 intro l
 have: ∀r:List α,P r.reverse:=by
  intro r
  induction r with
  | nil=>exact h0
  | cons a r ih=>rw[List.reverse_cons]; exact hs _ _ ih
 rw[←List.reverse_reverse l]
 exact this _
section
variable {α:Type}
end
section
variable {κ:Type} [DecidableEq κ]
abbrev T4 (κ:Type):=Int×κ×Int×Int
end
end SR
end
section
namespace SR
section
variable {κ:Type} [DecidableEq κ]
abbrev R3 (κ:Type):=Int×κ×Int
def un (t:T4 κ):R3 κ:=(t.1,t.2.1,t.2.2.1)
def mat (w:Int) (a b:R3 κ):Bool:=decide (a.2.1=b.2.1)&&(decide (a.1 - b.1≤w)&&decide (b.1 - a.1≤w))
def cp (a b:R3 κ):T4 κ:=(max a.1 b.1,a.2.1,a.2.2,b.2.2)
def pr (w:Int) (A B:List (R3 κ)):List (T4 κ):=A.flatMap fun a=>(B.filter (mat w a)).map (cp a)
abbrev mo:R3 κ→Int:=fun r=>r.1
def keyIs (k:κ):R3 κ→Bool:=fun r=>decide (r.2.1=k)
end
end SR
end
section
namespace SR
theorem qfS {α:Type} {k k':α→Int} {r:α} (hr:k r=k' r): ∀l:List α,(∀x∈l,k x=k' x)→ins k r l=ins k' r l
 | [],_=>rfl
 | x::l,h=>by
  show (if k x≤k r then x::ins k r l else r::x::l)=(if k' x≤k' r then x::ins k' r l else r::x::l)
  rw[hr,h x List.mem_cons_self,qfS hr l fun y hy=>h y (List.mem_cons_of_mem _ hy)]
theorem qjk {α:Type} {k k':α→Int} (l:List α):(∀x∈l,k x=k' x)→srt k l=srt k' l:=by
 refine qlS (P:=fun l=>(∀x∈l,k x=k' x)→srt k l=srt k' l) (fun _=>rfl) (fun l a ih h=> ?_) l
 rw[qe1,qe1,ih fun x hx=>h x (List.mem_append_left _ hx)]
 exact qfS (h a (List.mem_append_right _ List.mem_cons_self)) _ fun x hx=>h x (List.mem_append_left _ ((qbT _).mp hx))
end SR
namespace RH
open PySem PySem.Spec PyProof.Rows L2 SR
def ltS (x y:Str):Bool:=decide (x.cps.toList<y.cps.toList)
theorem qpS {x y:Str} (h:x.cps.toList=y.cps.toList):x=y:=by
 cases x; cases y
 congr 1
 exact Array.toList_inj.mp h
theorem ordS:Ord ltS where
 irr:=fun a=>decide_eq_false (List.lt_irrefl _)
 tr:=fun a b c h1 h2=>decide_eq_true (List.lt_trans (of_decide_eq_true h1) (of_decide_eq_true h2))
 tot:=fun a b h1 h2=>qpS (List.le_antisymm (List.not_lt.mp (of_decide_eq_false h2)) (List.not_lt.mp (of_decide_eq_false h1)))
section
variable {prog:Program} {w:World} {A:Around} {s:Shared}
open PySem.W
end
section
variable {X:Cx}
end
end RH
end
section
namespace SetL
section
variable {α:Type} [DecidableEq α]
def dd:List α→List α
 | []=>[]
 | x::xs=>if x∈dd xs then dd xs else x::dd xs
theorem qeI {x:α}: ∀{l:List α},x∈dd l↔x∈l
 | []=>Iff.rfl
 | y::l=>by
  have ih:=qeI (x:=x) (l:=l)
  show x∈(if y∈dd l then dd l else y::dd l)↔_
  by_cases c:y∈dd l
  ·rw[if_pos c,ih,List.mem_cons]
   refine ⟨.inr,fun h=> ?_⟩
   rcases h with rfl | h
   ·exact ih.mp c
   ·exact h
  ·rw[if_neg c,List.mem_cons,List.mem_cons,ih]
theorem qb2: ∀l:List α,(dd l).Nodup
 | []=>List.nodup_nil
 | y::l=>by
  show (if y∈dd l then dd l else y::dd l).Nodup
  by_cases c:y∈dd l
  ·rw[if_pos c]; exact qb2 l
  ·rw[if_neg c]; exact List.nodup_cons.mpr ⟨c,qb2 l⟩
theorem qo9: ∀l:List α,(dd l).length≤l.length
 | []=>Nat.le_refl _
 | y::l=>by
  have ih:=qo9 l
  show (if y∈dd l then dd l else y::dd l).length≤_
  split
  ·exact Nat.le_succ_of_le ih
  ·exact Nat.succ_le_succ ih
def dl (key:Nat→α):Nat→List α
 | 0=>[]
 | i+1=>if mem key i (key i)=true then dl key i else dl key i++[key i]
end
end SetL
namespace SetL
open PySem PySem.W PySem.Calls PyProof.Rows SR
structure Kd (prog:Program) (w:World) (α:Type) [DecidableEq α] where
 knd:PySem.KeyKind prog w α
 up:α→L2.V
 d:α
 of:Value→α
 lt:α→α→Bool
 ord:Ord lt
 isv: ∀x u,L2.RelV (up x) u→knd.is x u=true∧u.scannable=true
 vis: ∀x u,knd.is x u=true→L2.RelV (up x) u
 ofv: ∀x u,L2.RelV (up x) u→of u=x
 kind: ∀v1 v2 vs,(∀v∈v1::v2::vs,∃x,L2.RelV (up x) v)→keyKind' (v1::v2::vs).toArray=pure oneType'
 lts: ∀{A:Around} {E:Value→Shared→Prop} {s:Shared} {Q:Bool→Shared→Prop} (x y:α) (u v:Value),L2.RelV (up x) u→L2.RelV (up y) v→Q (lt x y) s→wpAny (model prog w) A (keyLt' oneType' u v) Q E s
section
variable {prog:Program} {w:World} {A:Around} {E:Value→Shared→Prop} {s:Shared} {α:Type} [DecidableEq α] (k:Kd prog w α)
end
end SetL
end
section
namespace SetL
open PySem L2 SR
theorem boot_sorted:bootBuiltins "sorted" =some (.builtin "sorted"):=by decide+kernel
section
variable {X:Cx} {a:Expr} {t:TE} {p1 p2 p3 pos:Pos} {α:Type} [DecidableEq α] (k:Kd X.prog X.w α)
end
end SetL
end
section
namespace PL
open PySem L2 SR SetL
inductive Ky where
 | i (n:Int) | s (x:Str)
 deriving DecidableEq
def qmm:Ky→Ky→Bool
 | .i a,.i b=>decide (a<b)
 | .i _,.s _=>true
 | .s _,.i _=>false
 | .s a,.s b=>RH.ltS a b
theorem qop:Ord qmm where
 irr:=fun a=>by
  cases a with
  | i n=>exact decide_eq_false (Int.lt_irrefl n)
  | s x=>exact RH.ordS.irr x
 tr:=fun a b c h1 h2=>match a,b,c,h1,h2 with
  | .i _,.i _,.i _,h1,h2=>decide_eq_true (Int.lt_trans (of_decide_eq_true h1) (of_decide_eq_true h2))
  | .i _,.i _,.s _,_,_=>rfl
  | .i _,.s _,.i _,_,h2=>nomatch h2
  | .i _,.s _,.s _,_,_=>rfl
  | .s _,.i _,_,h1,_=>nomatch h1
  | .s _,.s _,.i _,_,h2=>nomatch h2
  | .s _,.s _,.s _,h1,h2=>RH.ordS.tr _ _ _ h1 h2
 tot:=fun a b h1 h2=>match a,b,h1,h2 with
  | .i x,.i y,h1,h2=>by
   have e1: ¬x<y:=of_decide_eq_false h1
   have e2: ¬y<x:=of_decide_eq_false h2
   congr 1; lia
  | .i _,.s _,h1,_=>nomatch h1
  | .s _,.i _,_,h2=>nomatch h2
  | .s x,.s y,h1,h2=>congrArg Ky.s (RH.ordS.tot x y h1 h2)
def qdJ:List Ky→List Ky→Bool
 | [],[]=>false
 | [],_::_=>true
 | _::_,[]=>false
 | a::as,b::bs=>if a=b then qdJ as bs else qmm a b
theorem qhK: ∀a,qdJ a a=false
 | []=>rfl
 | a::as=>by
  show (if a=a then qdJ as as else qmm a a)=false
  rw[if_pos rfl]; exact qhK as
theorem qkc: ∀a b c,qdJ a b=true→qdJ b c=true→qdJ a c=true
 | [],[],_,h,_=>by cases h
 | [],_::_,[],_,h=>by cases h
 | [],_::_,_::_,_,_=>rfl
 | _::_,[],_,h,_=>by cases h
 | _::_,_::_,[],_,h=>by cases h
 | a::as,b::bs,c::cs,h1,h2=>by
  have h1':(if a=b then qdJ as bs else qmm a b)=true:=h1
  have h2':(if b=c then qdJ bs cs else qmm b c)=true:=h2
  show (if a=c then qdJ as cs else qmm a c)=true
  by_cases e1:a=b
  ·subst e1
   rw[if_pos rfl] at h1'
   by_cases e2:a=c
   ·rw[if_pos e2] at h2'⊢; exact qkc as bs cs h1' h2'
   ·rw[if_neg e2] at h2'⊢; exact h2'
  ·rw[if_neg e1] at h1'
   by_cases e2:b=c
   ·subst e2
    rw[if_neg e1]; exact h1'
   ·rw[if_neg e2] at h2'
    have t:=qop.tr _ _ _ h1' h2'
    by_cases e3:a=c
    ·subst e3; rw[qop.irr] at t; cases t
    ·rw[if_neg e3]; exact t
theorem qhJ: ∀a b,qdJ a b=false→qdJ b a=false→a=b
 | [],[],_,_=>rfl
 | [],_::_,h,_=>by cases h
 | _::_,[],_,h=>by cases h
 | a::as,b::bs,h1,h2=>by
  have h1':(if a=b then qdJ as bs else qmm a b)=false:=h1
  have h2':(if b=a then qdJ bs as else qmm b a)=false:=h2
  by_cases e:a=b
  ·subst e
   rw[if_pos rfl] at h1' h2'
   rw[qhJ as bs h1' h2']
  ·rw[if_neg e] at h1'
   rw[if_neg (Ne.symm e)] at h2'
   exact absurd (qop.tot _ _ h1' h2') e
theorem qmj:Ord qdJ:=⟨qhK,qkc,qhJ⟩
def kyT:T→Ky
 | .int i=>.i i
 | .str x=>.s x
 | _=>.i 0
def qhN:T→List Ky
 | .int i=>[.i i]
 | .str x=>[.s x]
 | .tup ts=>ts.map kyT
 | _=>[]
def qjm {α:Type} (f:α→List Ky) (ts:List α):List α:=srt (fun t=>qdj qdJ (ts.map f) (f t)) ts
def qim (ts:List T):List T:=qjm qhN ts
section
variable {prog:Program} {w:World} {A:Around} {s:Shared}
open PySem.W PyProof.Rows
def kyV:Ky→V
 | .i n=>.int n
 | .s x=>.str x
def shK:Ky→Nat
 | .i _=>0
 | .s _=>1
theorem qsP {C:Bool→Shared→Prop}: ∀(as bs:List Ky) (us vs:List Value) (i:Nat),qa1 (as.map kyV) us→qa1 (bs.map kyV) vs→as.map shK=bs.map shK→C (qdJ as bs) s→KatLex prog w A true false C (us.zip vs) i s
 | [],[],_,_,i,.nil,.nil,_,h=>kat_nil h
 | [],_::_,_,_,_,_,_,hs,_=>by cases hs
 | _::_,[],_,_,_,_,_,hs,_=>by cases hs
 | a::as,b::bs,_,_,i,.cons (l₂:=us) ra rs,.cons (l₂:=vs) rb rt,hs,h=>by
  have hs1:shK a=shK b:=(List.cons.inj hs).1
  have hs2:as.map shK=bs.map shK:=(List.cons.inj hs).2
  have h':C (if a=b then qdJ as bs else qmm a b) s:=h
  have go: ∀{p q:Value} {rr:List (Value×Value)} {e:Bool},MeetsSeq.EqGives p q e→(e=true→KatLex prog w A true false C rr (i+1) s)→(e=false→wpAny (model prog w) A (oneLt' (true&&i==0) p q) C (fun _ _=>False) s)→KatLex prog w A true false C ((p,q)::rr) i s:=fun {p q rr e} he h1 h2=>by
   refine kat_cons (he prog w A _ s _ ?_)
   cases e with
   | true=>exact kat_yes (h1 rfl)
   | false=>exact kat_no (h2 rfl)
  cases a with
  | i x=>
   cases b with
   | i y=>
    obtain ⟨t1,rfl⟩:=ra
    obtain ⟨t2,rfl⟩:=rb
    refine go (MeetsSeq.EqGives.int _ _ _ _) (fun e=> ?_) (fun e=> ?_)
    ·have e':=eq_of_beq e
     rw[if_pos (by rw[e'])] at h'
     exact qsP as bs us vs (i+1) rs rt hs2 h'
    ·have e': ¬Ky.i x=Ky.i y:=fun z=>by cases z; rw[beq_self_eq_true] at e; cases e
     rw[if_neg e'] at h'
     cases z:(i==0) with
     | true=>exact oneLt_int h'
     | false=>exact kat_one _ _ (lt_int (show PySem.W.BoolBack C (.bool _) s from h'))
   | s y=>cases hs1
  | s x=>
   cases b with
   | i y=>cases hs1
   | s y=>
    obtain ⟨t1,rfl⟩:=ra
    obtain ⟨t2,rfl⟩:=rb
    have es:MeetsSeq.EqGives (.str x t1) (.str y t2) (decide (x=y)):=fun _ _ _ _ _ _ hq=>wpAny_eqBool_str hq
    refine go es (fun e=> ?_) (fun e=> ?_)
    ·have e':=of_decide_eq_true e
     rw[if_pos (by rw[e'])] at h'
     exact qsP as bs us vs (i+1) rs rt hs2 h'
    ·have e': ¬Ky.s x=Ky.s y:=fun z=>by cases z; simp at e
     rw[if_neg e'] at h'
     cases z:(i==0) with
     | true=>exact oneLt_str h'
     | false=>exact kat_one _ _ (PySem.P.lt_str (show PySem.W.BoolBack C (.bool _) s from h'))
end
end PL
end
section
namespace PL
open PySem L2 SR SetL
section
variable {K:PySem.W.Frag} {B:Hp}
end
theorem qeM {h:Heap} {P:Value→Prop}: ∀(l:List Value),(∀v∈l,∃f,(∃a o xs n,v= .ref a∧h.get? a=some o∧o.cls= .type "tuple" ∧o.data= .seq xs n∧xs[0]? =some f)∧P f)→∃fs,PySem.W.KatTups h l fs∧fs.length=l.length∧∀f∈fs,P f
 | [],_=>⟨[],trivial,rfl,fun _ hf=>nomatch hf⟩
 | v::l,hl=>by
  obtain ⟨f,h1,h2⟩:=hl v List.mem_cons_self
  obtain ⟨fs,h3,h4,h5⟩:=qeM l fun u hu=>hl u (List.mem_cons_of_mem _ hu)
  refine ⟨f::fs,⟨h1,h3⟩,by simp[h4],fun g hg=> ?_⟩
  rcases List.mem_cons.mp hg with rfl | hg
  ·exact h2
  ·exact h5 g hg
section
variable {X:Cx}
end
end PL
end
section
namespace PL
open PySem L2 SR SetL
section
variable {M:Md} {X:Cx} {e a b:Expr} {pos p1 p2 p3:Pos} {da db:Ro→Rs T} {dq:Ro→Rs (Bool×List T)}
theorem tQ.mono {σ:St} {H:Hp} {Q Q':VK} (f: ∀v H1,Q v H1→Q' v H1) (h:tQ M dq σ H Q):tQ M dq σ H Q':=by
 obtain ⟨H0,B0,ρ,B,ev,w⟩:=h
 exact tQ.of ev (Wnt.mono (qc8.mp w) fun q k p vs H' B' g m hq r=>f _ _ (k p vs H' B' g m hq r))
def qkA:T→Bool
 | .int _=>true
 | _=>false
def qcx:T→Int
 | .int b=>b
 | _=>0
theorem qfD {K:PySem.W.Frag} {B:Hp}: ∀{ts:List T} {vs:List V},ts.all qkA=true→qaL K B ts vs→vs=(ts.map qcx).map V.int
 | [],_,_,r=>r.inv0
 | t::ts,_,h,r=>by
  obtain ⟨v,rr,rfl,a,b⟩:=r.inv
  rw[List.all_cons,Bool.and_eq_true] at h
  cases t with
  | int x=>rw[qau a,qfD h.2 b]; rfl
  | _=>exact absurd h.1 Bool.false_ne_true
def qmv:T→Bool
 | .bl _=>true
 | _=>false
def qll:T→Bool
 | .bl b=>b
 | _=>false
theorem qht {K:PySem.W.Frag} {B:Hp}: ∀{ts:List T} {vs:List V},ts.all qmv=true→qaL K B ts vs→vs=(ts.map qll).map V.bl
 | [],_,_,r=>r.inv0
 | t::ts,_,h,r=>by
  obtain ⟨v,rr,rfl,a,b⟩:=r.inv
  rw[List.all_cons,Bool.and_eq_true] at h
  cases t with
  | bl x=>rw[qbf a,qht h.2 b]; rfl
  | _=>exact absurd h.1 Bool.false_ne_true
def qlr (q:Bool×List T):Rs T:=if q.1=true∧q.2.all qmv=true then .ok (.bl (q.2.all qll)) else .no
theorem qh9 (h:PE X e (tCB (fun xs H Q=> ∃(a:Addr) (bs:List Bool),xs=[.ref a]∧SqL X.K H a (bs.map V.bl)∧Q (.bl (bs.all id)) H) (qcr (tQ M dq) qi7))):DE M X e (dCQ qlr dq):=
 qnH h (fun H B p vs q c Q le bt m hq r ec k=>by
  unfold qlr at ec
  split at ec
  ·rename_i hcc
   cases ec
   unfold qpt at hq
   rw[if_pos hcc.1] at hq
   refine ⟨p,q.2.map qll,rfl,SqL.of (by rw[←qht hcc.2 r]; exact hq),?_⟩
   rw[List.all_map]
   exact k _ H B (.refl le bt) m qce
  ·cases ec) (fun q c z=>by unfold qlr at z; split at z<;>cases z)
def qpx:T→T→Rs T
 | .int i,.int j=>.ok (.int (if j<i then j else i))
 | _,_=>.no
def dB2 (g:T→T→Rs T) (da db:Ro→Rs T):Ro→Rs T:=fun ρ=>da ρ>>=fun x=>db ρ>>=fun y=>g x y
theorem qnG (h:PE X e (tCB (fun xs H Q=> ∃i j,xs=[.int i,.int j]∧Q (.int (if j<i then j else i)) H) (qcr (tP M da) (qcr (tP M db) qi7)))):DE M X e (dB2 qpx da db):=by
 refine PE.weak h fun σ H Q hq128=> ?_
 obtain ⟨H0,B0,ρ,B,ev,w⟩:=hq128
 refine tP.of ev (Wnt.mono (Wnt.bind (qaw.mp w)) fun x w1 v H1 B1 g1 m1 r1=> ?_)
 have ev1:=ev.grow g1 m1
 refine tP.of ev1 (Wnt.mono (Wnt.bind w1) fun y w2 v2 H2 B2 g2 m2 r2=> ?_)
 cases x with
 | int i=>
  cases y with
  | int j=>
   rw[qau r1,qau r2]
   exact ⟨i,j,rfl,w2 _ H2 B2 (g1.trans g2) m2 qaX⟩
  | _=>exact w2.elim
 | _=>exact w2.elim
def tyT:T→String
 | .non=> "NoneType" | .bl _=> "bool" | .int _=> "int" | .str _=> "str" | .tup _=> "tuple" | .lst _=> "list" | _=> ""
def qhQ (N:String) (t:T):Bool:=tyT t==N||(N== "int" &&tyT t== "bool")
def qgT (N:String):T→Rs T
 | .dct _=>.no
 | .dtu _=>.no
 | .dcf _=>.no
 | .fn _=>.no
 | .scr _=>.no
 | t=>.ok (.bl (qhQ N t))
def qhg (K:PySem.W.Frag) (N:String):Prop:= ∀m∈["NoneType", "bool", "int", "str", "tuple", "list"],PySem.W.kitOne K (.type m) (.type N)=some (m==N||(N== "int" &&m== "bool"))
theorem qa5 {N:String} (hk:qhg X.K N):qcL X (.builtin "isinstance") (fun xs H Q=> ∃B x t c,xs=[x,.ty N]∧Le B H∧Rep X.K B t x∧qgT N t= .ok c∧∀v,Rep X.K B c v→Q v H):=by
 intro pins s σ H xs us Q I r h
 obtain ⟨B,x,t,c,rfl,le,rx,ec,q⟩:=h
 obtain ⟨u,w',rfl,ru,rw'⟩:=qlD r
 cases rw'
 have fin: ∀{m:String},tyT t=m→m∈["NoneType", "bool", "int", "str", "tuple", "list"]→qi3 X.K H x (.type m)→qgT N t= .ok (.bl (qhQ N t))→wpAny (model X.prog X.w) X.A (call (.builtin "isinstance") [u,.type N]) (EP X pins σ Q) X.xe s:=fun {m} e1 e2 ty e3=>by
  rw[e3] at ec
  cases ec
  refine qky I ru ty (hk m e2) fun tk=>⟨.bl _,H,I.tok tk,rfl,q _ ?_⟩
  have:(m==N||(N== "int" &&m== "bool"))=qhQ N t:=by unfold qhQ; rw[e1]
  rw[this]
  exact qce
 cases t with
 | non=>cases qbq rx; exact fin (m:= "NoneType") rfl (by simp) .non rfl
 | bl y=>cases qbf rx; exact fin (m:= "bool") rfl (by simp) (.bl y) rfl
 | int y=>cases qau rx; exact fin (m:= "int") rfl (by simp) (.int y) rfl
 | str y=>cases qaG rx; exact fin (m:= "str") rfl (by simp) (.str y) rfl
 | lst ts=>
  obtain ⟨p,vs,rfl,hp,_⟩:=qbk rx
  exact fin (m:= "list") rfl (by simp) (.lst (le _ _ hp)) rfl
 | tup ts=>
  obtain ⟨p,vs,rfl,hp,_⟩:=qbj rx
  cases ru
  cases ec
  obtain ⟨its,rv,⟨o,h1,h2,_⟩,_⟩:=I.tuple (le.sqT hp)
  refine PySem.W.kia_one PySem.W.kitx_tuple I.kIn ⟨o,h1,h2⟩ (hk "tuple" (by simp)) (fun z=>nomatch z) fun tk=>⟨.bl _,H,I.tok tk,rfl,q _ ?_⟩
  exact qce
 | dct _=>cases ec
 | dtu _=>cases ec
 | dcf _=>cases ec
 | fn _=>cases ec
 | scr _=>cases ec
def qet (N:String) (da:Ro→Rs T):Ro→Rs T:=fun ρ=>da ρ>>=qgT N
theorem qcK {N:String} (h:PE X e (tCB (fun xs H Q=> ∃B x t c,xs=[x,.ty N]∧Le B H∧Rep X.K B t x∧qgT N t= .ok c∧∀v,Rep X.K B c v→Q v H) (qcr (tP M da) (qcr (tC (.ty N)) qi7)))) (hK:X.K=M.K:=by rfl):DE M X e (qet N da):=by
 refine PE.weak h fun σ H Q hq180=> ?_
 obtain ⟨H0,B0,ρ,B,ev,w⟩:=hq180
 refine tP.of ev (Wnt.mono (Wnt.bind (qaw.mp w)) fun x w1 v H1 B1 g1 m1 r1=> ?_)
 have ev1:=ev.grow g1 m1
 cases z:qgT N x with
 | no=>rw[z] at w1; exact w1.elim
 | ex c=>exfalso; cases x<;>cases z
 | ok c=>
  rw[z] at w1
  exact ⟨B1,v,x,c,rfl,ev1.bh,by rw[hK]; exact r1,z,fun v' rv'=>w1 v' H1 B1 g1 m1 (by rw[←hK]; exact rv')⟩
end
end PL
end
section
namespace PL
open PySem L2 SR SetL
section
variable {M:Md} {X:Cx} {e:Expr} {dq:Ro→Rs (Bool×List T)} {P:Addr} {lpos:Pos} {qual:Str} {i:Nat}
end
end PL
end
section
namespace PL
open PySem L2 SR SetL
def Kn (P:Program) (w:World) (K:PySem.W.Frag) (mg:Str→Option Value) (base:Heap) (G:Gam) (C:Str→Addr) (x:Str) (ps:List Str) (k:Nat) (fT:List T→Rs T):Prop:=
 ∃f fd,qbe P w K mg base CX0 k f fd ps (spP K G C fT)∧mg x=some (.ref f)∧PySem.W.keepIn K (.ref f)=true∧qdy K fd ps []
section
variable {M:Md} {X:Cx} {e a b:Expr} {es:List Expr} {pos p p1 p2 p3:Pos} {da db:Ro→Rs T} {ds:Ro→Rs (List T)} {dq:Ro→Rs (Bool×List T)} {x:Str} {k:Nat} {ps:List Str} {fT:List T→Rs T}
theorem qao (F:Kn X.prog X.w X.K X.mg X.base M.G M.C x ps k fT) (hK:X.K=M.K) (hr:qbW k X.A) (hg:Gl X x) (ha:DA M X (e::es) ds) (hdb:(x==("__debug__" :Str))=false:=by decide)
  (he:starEach (e::es) X.env=(false,eval e X.env)::starEach es X.env:=by rfl) (hpl:(backTo pos (starEach es X.env)).any (·.1)=false:=by rfl):DE M X (.Call (.Name x p) (e::es) [] pos) (qas fT ds):=by
 obtain ⟨f,fd,G,m,kk,bb⟩:=F
 rw[hK] at G
 exact qo8 (by rw[hK]; exact G) hr hg m kk bb qiv ha hdb he hpl
def qpk (i j:Nat) (da db:Ro→Rs T):Ro→Rs Out:=fun ρ=>da ρ>>=fun t=>db ρ>>=fun u=>.ok (.nx ((ρ.set i (.fz t)).set j (.fz u)))
def qtb (i j:Nat) (da:Ro→Rs T) (ds:Ro→Rs (List T)):Ro→Rs Out:=fun ρ=>da ρ>>=fun t=>ds ρ>>=fun u=>.ok (.nx ((ρ.set i (.fz t)).set j (.ow u)))
theorem qmi {i j:Nat} {D:qm6} {σ:St} {H:Hp} (h:tS M (qpk i j da db) D σ H):qtt i j (qcr (tP M da) (qcr (tP M db) qi7)) D σ H:=by
 obtain ⟨H0,B0,ρ,B,ev,w⟩:=h
 refine tP.of ev (Wnt.mono (Wnt.bind w) fun t w1 v H1 B1 g1 m1 r1=> ?_)
 have ev1:=ev.grow g1 m1
 refine tP.of ev1 (Wnt.mono (Wnt.bind w1) fun u w2 v2 H2 B2 g2 m2 r2=> ?_)
 have ev2:=ev1.grow g2 m2
 exact ⟨v,v2,rfl,w2 _ H2 B2 ((ev2.set (i:=i) (r1.mono g2.bb)).set r2) (g1.bb.trans g2.bb)⟩
def qta (dg:T→Ro→Rs Ro) (da:Ro→Rs T):Ro→Rs Out:=fun ρ=>da ρ>>=fun t=>dg t ρ>>=fun ρ'=>.ok (.nx ρ')
def qpy:T→Rs T
 | .str z=>if z.length≤1000 then .ok (.int z.length) else .no
 | .tup ts=>.ok (.int ts.length)
 | .lst ts=>.ok (.int ts.length)
 | _=>.no
def qdw (da:Ro→Rs T):Ro→Rs T:=fun ρ=>da ρ>>=qpy
theorem qbw (hg:Gl X "len") (hm:X.mg "len" =none) (h:DE M X a da) (hK:X.K=M.K:=by rfl) (he:starEach [a] X.env=(false,eval a X.env)::starEach [] X.env:=by rfl):DE M X (.Call (.Name "len" p) [a] [] pos) (qdw da):=by
 have hc:qcL X (.builtin "len") (fun xs H Q=>(∃p ys,xs=[.ref p]∧(SqL X.K H p ys∨SqT X.K H p ys)∧Q (.int ys.length) H)∨∃z,xs=[.str z]∧z.length≤sizeLine∧Q (.int z.length) H):=fun pins s σ H xs us Q I r h=>h.elim (qgj pins s σ H xs us Q I r) (qgi pins s σ H xs us Q I r)
 refine PE.weak (qaE hc hg hm PySem.boot_len (qar h qaH he) (by decide) (by decide) he rfl) fun σ H Q hq51=> ?_
 obtain ⟨H0,B0,ρ,B,ev,w⟩:=hq51
 refine tP.of ev (Wnt.mono (Wnt.bind (qaw.mp w)) fun t w1 v H1 B1 g1 m1 r1=> ?_)
 have ev1:=ev.grow g1 m1
 cases t with
 | str z=>
  rw[qaG r1]
  unfold qpy at w1
  dsimp only at w1
  split at w1
  ·rename_i hz
   exact .inr ⟨z,rfl,Nat.le_trans hz (by decide),w1 _ H1 B1 g1 m1 qaX⟩
  ·exact w1.elim
 | tup ts=>
  obtain ⟨q,vs,rfl,sq,rs⟩:=qbj r1
  exact .inl ⟨q,vs,rfl,.inr (by rw[hK]; exact ev1.bh.sqT sq),by rw[rs.length]; exact w1 _ H1 B1 g1 m1 qaX⟩
 | lst ts=>
  obtain ⟨q,vs,rfl,sq,rs⟩:=qbk r1
  exact .inl ⟨q,vs,rfl,.inl (SqL.of (ev1.bh _ _ sq)),by rw[rs.length]; exact w1 _ H1 B1 g1 m1 qaX⟩
 | _=>exact w1.elim
end
end PL
end
section
namespace PL
open PySem L2 SR SetL
def names:List Str:=["len", "isinstance", "all", "min", "sorted", "set", "tuple", "list", "int", "bool", "str", "range", "zip", "sum", "any", "max"]
theorem hu8 {k:Nat} {A:Around} (r:qbW k A):A.units+8<cLine:=by have:=r.units; lia
def qg6 (da:Ro→Rs T):Ro→Rs T:=fun ρ=>da ρ>>=qtE
theorem qdX:bootBuiltins "all" =some (.builtin "all"):=by decide+kernel
theorem qig:bootBuiltins "min" =some (.builtin "min"):=by decide+kernel
theorem qdx:bootBuiltins "tuple" =some (.type "tuple"):=by decide+kernel
theorem qlj:bootBuiltins "list" =some (.type "list"):=by decide+kernel
section
variable {M:Md} {X:Cx} {a:Expr} {pos:Pos} {da:Ro→Rs T}
theorem qnF (h:DE M X a da):DE M X (.UnaryOp .USub a pos) (qg6 da):=by
 refine PE.weak (qsk qpI h) fun σ H Q hq15=> ?_
 obtain ⟨H0,B0,ρ,B,ev,w⟩:=hq15
 refine tP.of ev (Wnt.mono (Wnt.bind (qaw.mp w)) fun t w1 v H1 B1 g1 m1 r1=> ?_)
 cases t with
 | int i=>rw[qau r1]; exact ⟨i,rfl,w1 _ H1 B1 g1 m1 qaX⟩
 | _=>exact w1.elim
end
end PL
namespace PL
open PySem L2 SR SetL
section
variable {M:Md} {X:Cx} {a b:Expr} {pos px py pt pt2:Pos} {kt k2:Nat} {x y:Str} {i j:Nat} {da db:Ro→Rs T} {ds:Ro→Rs (List T)}
theorem qkW (hc:X.calm=true) (hN:X.N.Nodup) (hi:X.N[i]? =some x) (hj:X.N[j]? =some y) (hij:i≠j) (hx:X.env.scope.names.lookup x=some .local) (hy:X.env.scope.names.lookup y=some .local) (ha:DE M X a da) (hb:DE M X b db)
  (hw:swappedStores [.Tuple [.Name x px,.Name y py] kt pt] (.Tuple [a,b] k2 pt2) X.env=pure (some [x,y])) (he:starEach (a::[b]) X.env=(false,eval a X.env)::starEach [b] X.env:=by rfl) (he2:starEach (b::[]) X.env=(false,eval b X.env)::starEach [] X.env:=by rfl)
  (hs:swapsWithSole [.Tuple [.Name x px,.Name y py] kt pt] (.Tuple [a,b] k2 pt2) pos.line X.env=pure false:=by rfl):
  DS M X (.Assign [.Tuple [.Name x px,.Name y py] kt pt] (.Tuple [a,b] k2 pt2) pos) (qpk i j da db):=
 PS.weak (qp8 hc hN hi hj hij hx hy (qar ha (qar hb qaH he2) he) hw hs) fun D σ H h=>qmi h
end
end PL
end
section
namespace PL
open PySem L2 SR SetL
theorem qgQ (ts:List T):qfe (.lst ts)= .ok ts:=rfl
theorem qgP (ts:List T):qfe (.tup ts)= .ok ts:=rfl
theorem qjr (ts:List T):qe3 (.lst ts)= .ok (true,ts):=rfl
theorem qjq (ts:List T):qe3 (.tup ts)= .ok (false,ts):=rfl
theorem qc4 (i j:Int):qbp (.int i) (.int j)= .ok (.int (i+j)):=rfl
theorem qnt (i:Int):qtE (.int i)= .ok (.int (-i)):=rfl
theorem qkI (i j:Int):gSub (.int i) (.int j)= .ok (.int (i - j)):=rfl
theorem qhT (i j:Int):qdD (.int i) (.int j)=if (-1000000≤i∧i≤1000000)∨(-1000000≤j∧j≤1000000) then .ok (.int (i*j)) else .no:=rfl
theorem qqN (i j:Int):qnx (.int i) (.int j)=if 0<j∧j<1073741824 then .ok (.int (i / j)) else .no:=rfl
theorem qhU (i j:Int):qnu (.int i) (.int j)=if 0<j then .ok (.int (i % j)) else .no:=rfl
theorem qsY (i j:Int):gLt (.int i) (.int j)= .ok (.bl (decide (i<j))):=rfl
theorem qoN (i j:Int):gLe (.int i) (.int j)= .ok (.bl (decide (i≤j))):=rfl
theorem qmz (i j:Int):gGt (.int i) (.int j)= .ok (.bl (decide (j<i))):=rfl
theorem qs0 (i j:Int):gGe (.int i) (.int j)= .ok (.bl (decide (j≤i))):=rfl
theorem qsZ (i j:Bool):gIs (.bl i) (.bl j)= .ok (.bl (i==j)):=rfl
theorem qmy (i j:Bool):qqM (.bl i) (.bl j)= .ok (.bl (i != j)):=rfl
theorem qnv (i j:Int):qpx (.int i) (.int j)= .ok (.int (if j<i then j else i)):=rfl
theorem qiI (i j:Int):gEq (.int i) (.int j)= .ok (.bl (i==j)):=rfl
theorem qoL (i j:Int):gNe (.int i) (.int j)= .ok (.bl (!(i==j))):=rfl
theorem qs1 (i j:Str):gEq (.str i) (.str j)= .ok (.bl (i==j)):=rfl
theorem qnw (z:Str):qpy (.str z)=if z.length≤1000 then .ok (.int z.length) else .no:=rfl
theorem qqK (ts:List T):qpy (.tup ts)= .ok (.int ts.length):=rfl
theorem qqL (ts:List T):qpy (.lst ts)= .ok (.int ts.length):=rfl
section
variable {α:Type} {dg:T→Ro→Rs Ro} {dt:Ro→Rs Bool} {de:Ro→Rs T} {di:Ro→Rs (List T)} {f h:α→T} {p:α→Bool} {ρ:Ro}
theorem qdV (I:Ro→Prop): ∀(xs:List α) (ρ:Ro),(∀x∈xs,∀ρ,I ρ→∃ρ',dg (f x) ρ= .ok ρ'∧I ρ'∧dt ρ'= .ok (p x)∧(p x=true→de ρ'= .ok (h x)))→I ρ→qiR dg dt de (xs.map f) ρ= .ok ((xs.filter p).map h)
 | [],_,_,_=>rfl
 | x::xs,ρ,st,hI=>by
  obtain ⟨ρ',e1,i1,e2,e3⟩:=st x List.mem_cons_self ρ hI
  have ih:=qdV I xs ρ' (fun y hy=>st y (List.mem_cons_of_mem _ hy)) i1
  rw[List.map_cons,qiR]
  rw[e1,qad,e2,qad,List.filter_cons]
  by_cases c:p x=true
  ·rw[if_pos c,if_pos c,e3 c,qad,ih,qad]; rfl
  ·rw[if_neg c,if_neg c,ih]
theorem qbS {fr:List Nat} {xs:List α} (hi:di ρ= .ok (xs.map f)) (hs: ∀x∈xs,dt (.fz (f x)::fr.map fun i=>qge ρ[i]?)= .ok (p x)∧(p x=true→de (.fz (f x)::fr.map fun i=>qge ρ[i]?)= .ok (h x))):
  qaB 1 fr di (gN 0) dt de ρ= .ok ((xs.filter p).map h):=by
 unfold qaB
 rw[hi,qad]
 refine congrArg noX (qdV (fun ρ'=> ∃s,ρ'=s::fr.map fun i=>qge ρ[i]?) xs _ (fun x hx ρ' ⟨s,e⟩=> ?_) ⟨.no,rfl⟩)
 subst e
 exact ⟨_,rfl,⟨_,rfl⟩,(hs x hx).1,(hs x hx).2⟩
variable {a b c:α→T}
theorem qk7 {fr:List Nat} {xs:List α} (hi:di ρ= .ok (xs.map fun x=>.tup [a x,b x])) (hs: ∀x∈xs,dt (.fz (a x)::.fz (b x)::fr.map fun i=>qge ρ[i]?)= .ok (p x)∧(p x=true→de (.fz (a x)::.fz (b x)::fr.map fun i=>qge ρ[i]?)= .ok (h x))):
  qaB 2 fr di (gT 2 (gsC (gN 0) (gsC (gN 1) gsN))) dt de ρ= .ok ((xs.filter p).map h):=by
 unfold qaB
 rw[hi,qad]
 refine congrArg noX (qdV (f:=fun x=>.tup [a x,b x]) (fun ρ'=> ∃s s',ρ'=s::s'::fr.map fun i=>qge ρ[i]?) xs _ (fun x hx ρ' ⟨s,s',e⟩=> ?_) ⟨.no,.no,rfl⟩)
 subst e
 exact ⟨_,rfl,⟨_,_,rfl⟩,(hs x hx).1,(hs x hx).2⟩
theorem qnJ {fr:List Nat} {xs:List α} (hi:di ρ= .ok (xs.map fun x=>.tup [a x,b x,c x])) (hs: ∀x∈xs,dt (.fz (a x)::.fz (b x)::.fz (c x)::fr.map fun i=>qge ρ[i]?)= .ok (p x)∧(p x=true→de (.fz (a x)::.fz (b x)::.fz (c x)::fr.map fun i=>qge ρ[i]?)= .ok (h x))):
  qaB 3 fr di (gT 3 (gsC (gN 0) (gsC (gN 1) (gsC (gN 2) gsN)))) dt de ρ= .ok ((xs.filter p).map h):=by
 unfold qaB
 rw[hi,qad]
 refine congrArg noX (qdV (f:=fun x=>.tup [a x,b x,c x]) (fun ρ'=> ∃s s' s'',ρ'=s::s'::s''::fr.map fun i=>qge ρ[i]?) xs _ (fun x hx ρ' ⟨s,s',s'',e⟩=> ?_) ⟨.no,.no,.no,rfl⟩)
 subst e
 exact ⟨_,rfl,⟨_,_,_,rfl⟩,(hs x hx).1,(hs x hx).2⟩
theorem qaW {xs:List α}:xs.filter (fun _=>true)=xs:=by simp
theorem qfh {db:Ro→Rs Out} (I:List α→Ro→Prop) (qaT:List α): ∀(xs done:List α) (ρ:Ro),done++xs=qaT→(∀(dn:List α) (x:α) (qde:List α) ρ,dn++x::qde=qaT→I dn ρ→∃ρ1 ρ2,dg (f x) ρ= .ok ρ1∧(db ρ1= .ok (.nx ρ2)∨db ρ1= .ok (.ct ρ2))∧I (dn++[x]) ρ2)→I done ρ→∃ρ',qdK dg db (xs.map f) ρ= .ok (.nx ρ')∧I qaT ρ'
 | [],done,ρ,hw,_,hI=>⟨ρ,rfl,by rw[List.append_nil] at hw; rw[←hw]; exact hI⟩
 | x::xs,done,ρ,hw,st,hI=>by
  obtain ⟨ρ1,ρ2,e1,e2,i2⟩:=st done x xs ρ hw hI
  obtain ⟨ρ',e3,i3⟩:=qfh I qaT xs (done++[x]) ρ2 (by rw[←hw]; simp) st i2
  refine ⟨ρ',?_,i3⟩
  rw[List.map_cons,qdK,e1,qad]
  rcases e2 with e2 | e2<;>(rw[e2,qad]; exact e3)
end
abbrev Row:=Int×Str×Int
def qaq (r:Row):T:=.tup [.int r.1,.str r.2.1,.int r.2.2]
def qam (rs:List Row):T:=.lst (rs.map qaq)
def qei (x:Str):Prop:=(1≤x.length∧x.length≤2)∧∀c∈x.cps.toList,97≤c∧c≤122
def qlZ (r:Row):Prop:=(0≤r.1∧r.1≤99)∧qei r.2.1∧ -99≤r.2.2∧r.2.2≤99
end PL
end
section
namespace PL
open PySem L2
section
variable {prog:Program} {w:World} {A:Around} {E:Value→Shared→Prop} {s:Shared}
end
section
variable {M:Md} {X:Cx} {es:List Expr} {pos:Pos} {dr:List T→Ro→Rs Ro}
def gL (n:Nat) (dr:List T→Ro→Rs Ro):T→Ro→Rs Ro:=fun t ρ=>match t with | .lst ts=>if ts.length=n then dr ts ρ else .no | _=>.no
end
end PL
namespace PL
open PySem L2
theorem qeg (K:PySem.W.Frag): ∀N∈["int", "bool", "str", "tuple"],qhg K N:=by
 intro N hN m hm
 simp only[List.mem_cons,List.not_mem_nil,or_false] at hN hm
 rcases hN with rfl | rfl | rfl | rfl<;>rcases hm with rfl | rfl | rfl | rfl | rfl | rfl<;>rfl
end PL
end
section
namespace St
open PySem PySem.W PySem.Calls PyProof.Rows
section
variable {prog:Program} {w:World} {A:Around} {E:Value→Shared→Prop} {s:Shared} {D kS:Addr} {vs:List Value} {kz:List Int} {P:PySem.Fin→Shared→Prop} {h0:Heap} {KV:Heap→Nat→Value→Prop}
end
section
variable {prog:Program} {w:World} {A:Around} {E:Value→Shared→Prop} {s:Shared} {l:Addr} {vs:List Value} {kz:List Int} {Q:Value→Shared→Prop} {KV:Heap→Nat→Value→Prop}
end
end St
end
section
namespace L2
open PySem PySem.Spec PyProof.Rows
structure qtJ (x:Str) (v:Value) (env:Env) (h:Heap):Prop where
 kind:env.scope.kind= .function
 loc:env.kindOf x=some .local
 ns: ∃m,h.Ns env.locals m∧m x=some v
section
variable {prog:Program} {w:World} {A:Around} {E:Value→Shared→Prop} {s:Shared} {env:Env} {x:Str} {t:Addr} {its:List Value} {v:Value} {i j:Nat} {p1 p2 p3:Pos} {Q:Value→Shared→Prop}
end
end L2
end
section
namespace PL
open PySem L2 SR SetL
section
open PySem.W PyProof.Rows
variable {prog:Program} {w:World} {A:Around} {E:Value→Shared→Prop} {s:Shared}
def qgt (h:Heap) (kl:List Ky) (v:Value):Prop:= ∃p its,v= .ref p∧IsTup h p (List.toArray its)∧qa1 (kl.map kyV) its
theorem qkh {Q:SortKind→Shared→Prop} (its:List Value) {x:Nat} {r:List Nat} (hx:x=0∨x=1) (h2:2≤its.length) (hk: ∀v∈its,∃kl,qgt s.heap kl v∧kl.map shK=x::r) (hq:Q (tuples' true) s):wpAny (model prog w) A (keyKind' its.toArray) Q E s:=by
 have fst: ∀v∈its,∃f,(∃a o xs n,v= .ref a∧s.heap.get? a=some o∧o.cls= .type "tuple" ∧o.data= .seq xs n∧xs[0]? =some f)∧((x=0∧∃i t,f=Value.int i t)∨(x=1∧∃i t,f=Value.str i t)):=fun v hv=>by
  obtain ⟨kl,⟨p,w1,g1,i1,v1⟩,k1⟩:=hk v hv
  obtain ⟨o1,e1,c1,n1,d1⟩:=i1
  cases kl with
  | nil=>cases k1
  | cons ky kr=>
   cases v1 with
   | cons r0 rr=>
    have ks:shK ky=x:=(List.cons.inj k1).1
    cases ky with
    | i n=>
     obtain ⟨tk,rfl⟩:=r0
     exact ⟨_,⟨p,o1,_,n1,g1,e1,c1,d1,rfl⟩,.inl ⟨ks.symm,n,tk,rfl⟩⟩
    | s n=>
     obtain ⟨tk,rfl⟩:=r0
     exact ⟨_,⟨p,o1,_,n1,g1,e1,c1,d1,rfl⟩,.inr ⟨ks.symm,n,tk,rfl⟩⟩
 obtain ⟨fs,k1,k2,k3⟩:=qeM its fst
 rcases hx with rfl | rfl
 ·refine PySem.W.kat_kind k1 (by lia) (T:=.type "int") (fun v hv=> ?_) (by decide) ?_
  ·rcases k3 v hv with ⟨_,i,t,rfl⟩ | ⟨z,_⟩
   ·exact PySem.W.Looks.of_pure rfl
   ·cases z
  ·exact hq
 ·refine PySem.W.kat_kind k1 (by lia) (T:=.type "str") (fun v hv=> ?_) (by decide) ?_
  ·rcases k3 v hv with ⟨z,_⟩ | ⟨_,i,t,rfl⟩
   ·cases z
   ·exact PySem.W.Looks.of_pure rfl
  ·exact hq
theorem qoB {C:Bool→Shared→Prop} {a b:List Ky} {u v:Value} (h1:qgt s.heap a u) (h2:qgt s.heap b v) (hs:a.map shK=b.map shK) (hc:C (qdJ a b) s):wpAny (model prog w) A (keyLt' (tuples' true) u v) C (fun _ _=>False) s:=by
 obtain ⟨p1,w1,rfl,i1,v1⟩:=h1
 obtain ⟨p2,w2,rfl,i2,v2⟩:=h2
 obtain ⟨o1,e1,_,n1,d1⟩:=i1
 obtain ⟨o2,e2,_,n2,d2⟩:=i2
 refine kat_lt e1 d1 e2 d2 ?_
 have hl:w1.length=w2.length:=by
  have h1:=v1.length
  have h2:=v2.length
  have h3:=congrArg List.length hs
  simp only[List.length_map] at h1 h2 h3
  lia
 rw[show decide ((List.toArray w1).size<(List.toArray w2).size)=false by simp[hl]]
 exact qsP _ _ _ _ 0 v1 v2 hs hc
end
section
variable {M:Md} {X:Cx} {e:Expr} {dq:Ro→Rs (Bool×List T)} {x:Str} {P c:Addr} {params:Arguments} {scope:Scope} {p1 p2 p3 p4 p5 p6 tp lpos kpos p pos:Pos} {i j j1 j2 kk:Nat} {qual:Str}
end
end PL
end
section
namespace PL
open PySem L2 SR SetL
theorem qgk:bootBuiltins "sum" =some (.builtin "sum"):=by decide+kernel
theorem qfV (ns:List Int): ∀a:Int,PySem.W.Num.foldFrom PySem.W.Num.add (.int a) (ns.map PySem.W.WData.int)=some (.int (a+ns.sum)):=by
 induction ns with
 | nil=>intro a; simp[PySem.W.Num.foldFrom]
 | cons n ns ih=>
  intro a
  simp only[List.map_cons,PySem.W.Num.foldFrom,List.sum_cons]
  have e:PySem.W.Num.add (.int a) (.int n)=some (.int (a+n)):=rfl
  rw[e]
  show PySem.W.Num.foldFrom _ _ _=_
  rw[ih,Int.add_assoc]
theorem qfy (ns:List Int): ∀a:Int,PySem.W.Num.sumInts a (ns.map PySem.W.WData.int)=some (.int (a+ns.sum)):=by
 induction ns with
 | nil=>intro a; simp[PySem.W.Num.sumInts]
 | cons n ns ih=>
  intro a
  simp only[List.map_cons,PySem.W.Num.sumInts,List.sum_cons]
  rw[ih,qfV,Int.add_assoc]
  split<;>rfl
section
variable {X:Cx}
open PySem.Spec PyProof.Rows in
theorem qgf (hc:X.calm=true):qcL X (.builtin "sum") (fun xs H Q=> ∃(a:Addr) (ns:List Int),xs=[.ref a]∧SqL X.K H a (ns.map V.int)∧Q (.int ns.sum) H):=by
 intro pins s σ H xs us Q I r h
 obtain ⟨a,ns,rfl,hS,q⟩:=h
 obtain ⟨u,rfl,ru⟩:=qdZ r
 cases ru
 obtain ⟨its,rv,pl,hz⟩:=I.list hS
 have hl:=rv.length
 rw[List.length_map] at hl
 have hlt:a<s.heap.objs.size:=Heap.lt_size pl.isList.choose_spec.1
 have hh:X.A.in1.handled=none:=I.ok.hd hc
 refine PySem.Flt.call_sum_walkF (xs:=ns.map PySem.W.WData.int) (qfy ns 0) (wpAny_pyIter_list pl.isList ?_)
 have W:=(Walks.list (prog:=X.prog) (w:=X.w) hh s.heap.objs.size a (Nat.ne_of_lt hlt) its.toArray).toS
 have en:its.toArray.size=(ns.map PySem.W.WData.int).length:=by rw[List.size_toArray,List.length_map]; lia
 rw[en] at W
 refine ⟨s.heap.objs.size,_,_,_,_,_,rfl,W,⟨⟨_,Heap.get?_push_size _ rfl,rfl,rfl⟩,pl.isList.at fun o e=>Heap.get?_push_of_some _ e⟩,fun b hb=> ?_,fun i v hv=> ?_,fun s' v hv mv=> ?_⟩
 ·have hb':b=s.heap.objs.size∨b=a:=by simpa using hb
  rcases hb' with rfl | rfl
  ·show s.heap.objs.size<(Heap.push _ _).objs.size
   rw[size_push']; exact Nat.lt_succ_self _
  ·show b<(Heap.push _ _).objs.size
   rw[size_push']; exact Nat.lt_succ_of_lt hlt
 ·have hv':its[i]? =some v:=by simpa using hv
  have hi:=(List.getElem?_eq_some_iff.mp hv').1
  have hi':i<ns.length:=by lia
  obtain ⟨u,e1,e2⟩:=rv.get (i:=i) (x:=V.int ns[i]) (by rw[List.getElem?_map,List.getElem?_eq_getElem hi']; rfl)
  rw[hv'] at e1; cases e1
  obtain ⟨tk,rfl⟩:=e2
  exact ⟨.int ns[i],by rw[List.getElem?_map,List.getElem?_eq_getElem hi']; rfl,.int _ _⟩
 ·rw[Int.zero_add] at hv
  cases hv with
  | int n t=>
   obtain ⟨m1,m2,m3,m4,m5⟩:=mv
   have es:s'={ s with heap:=s'.heap,toks:=s'.toks }:=by
    cases s'
    simp only at m2 m3 m4
    subst m2 m3 m4
    rfl
   rw[es]
   refine ⟨.int ns.sum,H,?_,⟨t,rfl⟩,q⟩
   refine I.kept (t':=s'.toks) fun b o eo=>m1 b o ?_ (Heap.get?_push_of_some _ eo)
   intro z
   have:b=s.heap.objs.size:=by simpa using z
   exact Nat.ne_of_lt (Heap.lt_size eo) this
end
def qlL (q:Bool×List T):Rs T:=if q.1=true∧q.2.all qkA=true then .ok (.int (q.2.map qcx).sum) else .no
section
variable {M:Md} {X:Cx} {e a:Expr} {pos p1 p2 p3:Pos} {dq:Ro→Rs (Bool×List T)}
theorem qnE (h:PE X e (tCB (fun xs H Q=> ∃(a:Addr) (ns:List Int),xs=[.ref a]∧SqL X.K H a (ns.map V.int)∧Q (.int ns.sum) H) (qcr (tQ M dq) qi7))):DE M X e (dCQ qlL dq):=
 qnH h (fun H B p vs q c Q le bt m hq r ec k=>by
  unfold qlL at ec
  split at ec
  ·rename_i hcc
   cases ec
   unfold qpt at hq
   rw[if_pos hcc.1] at hq
   exact ⟨p,q.2.map qcx,rfl,SqL.of (by rw[←qfD hcc.2 r]; exact hq),k _ H B (.refl le bt) m qaX⟩
  ·cases ec) (fun q c z=>by unfold qlL at z; split at z<;>cases z)
end
section
variable {M:Md} {X:Cx} {a b c:Expr} {pos px py pz pt pt2:Pos} {kt k2:Nat} {x y z:Str} {i j k:Nat} {da db dc:Ro→Rs T} {ds:Ro→Rs (List T)} {ta:TA}
end
end PL
end
section
namespace St
open PySem PySem.W PySem.Calls PyProof.Rows
section
variable {prog:Program} {w:World} {A:Around} {s:Shared} {h0:Heap} {l q I S:Addr} {vs:List Value} {kf:Nat→Int} {d:Value} {R:Result→Shared→Prop}
end
end St
end
section
namespace St
open PySem PySem.W PySem.Calls PyProof.Rows
section
variable {prog:Program} {w:World} {A:Around} {E:Value→Shared→Prop} {s:Shared} {l q:Addr} {vs:List Value} {kf:Nat→Int} {d:Value} {Q:Value→Shared→Prop}
end
end St
end
section
namespace PL
open PySem L2 SR SetL
section
variable {M:Md} {X:Cx} {e:Expr} {dq:Ro→Rs (Bool×List T)} {x:Str} {P c:Addr} {params:Arguments} {scope:Scope} {p1 p2 p3 p4 p5 p6 bp dp lpos kpos kpos2 p pos:Pos} {i j j1 j2 j3:Nat} {qual:Str}
end
end PL
end
section
namespace L2
open PySem PySem.Spec PyProof.Rows
def qgs (Ts:List Addr) (H:Hp):Prop:=(∀T∈Ts,H T=some (.tbl #[]))∧∀b,b∉Ts→H b=none∨∃o xs,H b=some (.frz o (.lst xs))
theorem qiE {P:Program} {w:World} {K:PySem.W.Frag} {mg mb:Str→Option Value} {CX:CXT} {k:Nat} {fa a:Addr} {cts:List (Addr×Addr)} {fd:FuncData} {x:Str} {sp:Sp} {s₁:Shared} {vs:List Value} {ns:List Int}
  (KX:K.In s₁.heap) (hns:s₁.heap.Ns mainGlobals mg) (hb:s₁.heap.Ns builtinsNs mb) (hbb: ∀x:Str,x≠ "__name__" →mb x=bootBuiltins x) (hlim:s₁.heap.NoLimit) (hg:s₁.gens= #[])
  (ha:s₁.heap.get? a=some { cls:=.type "list",data:=.seq vs.toArray }) (hi:IntsAre vs ns) (hl:ns.length≤sizeLine) (hr:qbW k callerA)
  (hC: ∀p∈cts,PySem.W.CodeHd s₁.heap p.1 p.2) (hT: ∀T∈cts.map (·.2),s₁.heap.get? T=some (PySem.W.tabObj #[])) (hKT: ∀T∈cts.map (·.2),K.lookup T=none) (hbm:qhi mg s₁.heap)
  (F: ∀base:Heap,K.In base→base.Ns mainGlobals mg→(∀p∈cts,PySem.W.CodeHd base p.1 p.2)→qhi mg base→qbe P w K mg base CX k fa fd [x] sp) (hbind: ∀(s:Shared) (u:Value),BindsTo s fd ⟨[u],[]⟩ [(x,u)])
  (hsp: ∀H:Hp,qgs (cts.map (·.2)) H→SqL K H a (ns.map V.int)→sp [.ref a] H (fun v _=>v= .bl true) fun _ _ _=>False)
  (hCX: ∀H e s',CX [] H s₁ (fun _ _ _=>False) e s'→False):
  codeAny (model P w) callerA (.call (.ref fa) ⟨[.ref a],[]⟩) (fun r s'=>r= .ok (.ret (.bool true))∧OldK s₁.heap s'.heap∧s'.os=s₁.os∧AllBare s'.gens) s₁:=by
 have rv:=qdY hi
 have lenV:=hi.length
 have core: ∀H:Hp,qgs (cts.map (·.2)) H→SqL K H a (ns.map V.int)→HOk P w H s₁.heap→(∀b,H b≠none→b=a∨b∈cts.map (·.2))→(H a≠none→K.lookup a=none)→
   codeAny (model P w) callerA (.call (.ref fa) ⟨[.ref a],[]⟩) (fun r s'=>r= .ok (.ret (.bool true))∧OldK s₁.heap s'.heap∧s'.os=s₁.os∧AllBare s'.gens) s₁:=by
  intro H hO hS hok hA hK
  have base_of: ∀{b:Addr} {o:Obj},s₁.heap.get? b=some o→H b=none→(qgu s₁.heap H).get? b=some o:=fun e n=>qhR e n
  have other: ∀{b:Addr} {o:Obj},s₁.heap.get? b=some o→(∀xs n,o.data≠.seq xs n)→(o.cls≠.none)→H b=none:=fun {b o} e d d2=>by
   cases q:H b with
   | none=>rfl
   | some u=>
    rcases hA b (by rw[q]; simp) with z | z
    ·subst z
     rw[ha] at e; cases e
     exact absurd rfl (d _ _)
    ·rw[hT b z] at e; cases e
     exact absurd rfl d2
  have noA: ∀{b:Addr} {o:Obj} {es:Array DictEntry} {ep:Nat},s₁.heap.get? b=some o→o.data= .dict es ep→H b=none:=fun {b o es ep} e d=>by
   cases q:H b with
   | none=>rfl
   | some u=>
    rcases hA b (by rw[q]; simp) with z | z
    ·subst z
     rw[ha] at e; cases e
     have d':Data.seq vs.toArray _=Data.dict es ep:=d
     cases d'
    ·rw[hT b z] at e; cases e
     have d':Data.fields _=Data.dict es ep:=d
     cases d'
  have nsK: ∀{b:Addr} {m:Str→Option Value},s₁.heap.Ns b m→(qgu s₁.heap H).Ns b m:=fun {b m} ⟨o,es,ep,e,d,r⟩=>⟨o,es,ep,base_of e (noA e d),d,r⟩
  have hKb:K.In (qgu s₁.heap H):=fun b o e=>base_of (KX b o e) (by
   cases q:H b with
   | none=>rfl
   | some u=>
    rcases hA b (by rw[q]; simp) with z | z
    ·subst z
     rw[hK (by rw[q]; simp)] at e; cases e
    ·rw[hKT b z] at e; cases e)
  have hM:Mod K mg (qgu s₁.heap H):=⟨hKb,nsK hns,⟨mb,nsK hb,hbb⟩,let ⟨mc,h1,h2⟩:=hlim; ⟨mc,nsK h1,h2⟩⟩
  have hCb: ∀p∈cts,PySem.W.CodeHd (qgu s₁.heap H) p.1 p.2:=fun p hp=>by
   obtain ⟨o,vs',file,tf,flags,tg,inF,text,tt,e1,e2,e3,r⟩:=hC p hp
   exact ⟨o,vs',file,tf,flags,tg,inF,text,tt,base_of e1 (other e1 (fun xs n z=>by rw[e3] at z; cases z) (fun z=>by rw[e2] at z; cases z)),e2,e3,r⟩
  have hBb:qhi mg (qgu s₁.heap H):=by
   obtain ⟨bm,ob,b1,b2,b3,b4,b5,b6⟩:=hbm
   exact ⟨bm,ob,b1,b2,base_of b3 (other b3 (fun xs n z=>by rw[b6] at z; cases z) (fun z=>by rw[b4] at z; cases z)),b4,b5,b6⟩
  have e0:qlw P w K mg (qgu s₁.heap H) callerA [] s₁ H:=⟨rfl,hM,fun b o e=>qj6 e,Nat.le_of_eq (qfT _ _),trivial,fun b hb=>absurd (show b∈([]:List Addr) from hb) (by simp),hok,.of_eq hg⟩
  refine codeAny_mono ((F _ hKb (nsK hns) hCb hBb).run callerA [] s₁ H ⟨[.ref a],[]⟩ [.ref a] [.ref a] _ _ hr e0 (hbind s₁ (.ref a)) (.cons rfl .nil) (hsp H hO hS)) fun r s' h=> ?_
  cases r with
  | error e=>exact (hCX H e s' h).elim
  | ok fl=>
   cases fl with
   | next=>exact False.elim h
   | brk=>exact False.elim h
   | cont=>exact False.elim h
   | ret u=>
    obtain ⟨v,H',os,bare,un,hok',r',q⟩:=h
    have q':v= .bl true:=q
    subst q'
    obtain rfl:u=Value.bool true:=r'
    have old: ∀b o,b∉cts.map (·.2)→s₁.heap.get? b=some o→s'.heap.get? b=some o:=fun b o hbT e=>by
     cases q:H b with
     | none=>exact un.keep b o e q (by intro z; exact absurd (show b∈([]:List Addr) from z) (by simp)) (by simp)
     | some u=>
      rcases hO.2 b hbT with z | ⟨ob,xs,z⟩
      ·rw[q] at z; cases z
      ·have z2:=un.frzs b ob _ z
       obtain ⟨e1,_⟩:=hok b _ z
       obtain ⟨e2,_⟩:=hok' b _ z2
       rw[e] at e1; cases e1
       exact e2
    have tb: ∀T∈cts.map (·.2),∃more,s'.heap.get? T=some (PySem.W.tabObj (#[]++more)):=fun T hTm=>by
     obtain ⟨more,hT'⟩:=un.tbls T _ (hO.1 T hTm)
     exact ⟨more,hok' T _ hT'⟩
    refine ⟨rfl,⟨fun b o e=> ?_,fun b o e=> ?_⟩,os,bare⟩
    ·by_cases z:b∈cts.map (·.2)
     ·obtain ⟨more,hT2⟩:=tb b z
      rw[hT b z] at e; cases e
      obtain ⟨p,hp,rfl⟩:=List.mem_map.mp z
      exact .inr (.inl ⟨((hC p hp).tab (hT _ z)).isCodeTable,rfl, #[],more,rfl,hT2⟩)
     ·exact .inl (old b o z e)
    ·by_cases z:b∈cts.map (·.2)
     ·obtain ⟨more,hT2⟩:=tb b z
      exact ⟨_,hT2⟩
     ·exact ⟨o,old b o z e⟩
 have aT:a∉cts.map (·.2):=fun z=>by rw[hT a z] at ha; cases ha
 cases hk:K.lookup a with
 | some o=>
  have e:=KX a o hk
  rw[ha] at e
  cases e
  refine core (fun b=>if b∈cts.map (·.2) then some (.tbl #[]) else none) ⟨fun T hTm=>if_pos hTm,fun b hb=>.inl (if_neg hb)⟩ (.inr ⟨_,vs.toArray,_,hk,rfl,rfl,rfl,by rw[List.size_toArray,lenV]; exact hl,by simpa using rv⟩) (fun b u z=> ?_) (fun b z=> ?_) fun z=>absurd (if_neg aT) z
  ·by_cases hb:b∈cts.map (·.2)
   ·have z':=(if_pos hb).symm.trans z
    cases z'
    exact hT b hb
   ·have z':=(if_neg hb).symm.trans z
    cases z'
  ·by_cases hb:b∈cts.map (·.2)
   ·exact .inr hb
   ·exact absurd (if_neg hb) z
 | none=>
  refine core (fun b=>if b∈cts.map (·.2) then some (.tbl #[]) else if b=a then some (.frz { cls:=.type "list",data:=.seq vs.toArray } (.lst (ns.map V.int))) else none) ⟨fun T hTm=>if_pos hTm,fun b hbT=> ?_⟩ (.inl (.inr ⟨{ cls:=.type "list",data:=.seq vs.toArray },(if_neg aT).trans (if_pos rfl)⟩)) (fun b u z=> ?_) (fun b z=> ?_) fun _=>hk
  ·by_cases hb:b=a
   ·exact .inr ⟨_,_,(if_neg hbT).trans (if_pos hb)⟩
   ·exact .inl ((if_neg hbT).trans (if_neg hb))
  ·by_cases hbT:b∈cts.map (·.2)
   ·have z':=(if_pos hbT).symm.trans z
    cases z'
    exact hT b hbT
   ·by_cases hb:b=a
    ·have z':=((if_neg hbT).trans (if_pos hb)).symm.trans z
     cases z'
     subst hb
     exact ⟨ha,by rw[List.length_map]; exact hl,vs,_,rv,ha⟩
    ·have z':=((if_neg hbT).trans (if_neg hb)).symm.trans z
     cases z'
  ·by_cases hbT:b∈cts.map (·.2)
   ·exact .inr hbT
   ·by_cases hb:b=a
    ·exact .inl hb
    ·exact absurd ((if_neg hbT).trans (if_neg hb)) z
theorem walk_ofTs {l:PySem.W.OpenLaw} {n k:Nat} {q:Program} {loose:List Str} {XP:(Str→Option Value)→Heap→Prop} {YP:World→Heap→Prop} {d:DefRec} {K:Params→PySem.W.Frag} {CX:World→CXT} {sp:World→List (Addr×Addr)→Sp} {x:Str} {ys:List Str}
  (hn:l.most=some n) (hn2:n≤sizeLine) (hdf:d.params.defaults=[]) (hr:qbW k callerA)
  (hY: ∀(w:World) (h:Heap),YP w h→(K w.params).In h) (hrec: ∀y∈ys,∃dx,(recsOf q).find? (fun e=>e.name==y)=some dx)
  (F: ∀(w:World) (mg:Str→Option Value) (fa:Addr) (h:Heap),(K w.params).In h→h.Ns mainGlobals mg→mg d.name=some (.ref fa)→
   ∃(fd:FuncData) (cts:List (Addr×Addr)),ys.map (PySem.W.tabIn (K w.params))=cts.map some∧(∀T∈cts.map (·.2),(K w.params).lookup T=none)∧(∀(s:Shared) (u:Value),BindsTo s fd ⟨[u],[]⟩ [(x,u)])∧
    (∀base:Heap,(K w.params).In base→base.Ns mainGlobals mg→(∀p∈cts,PySem.W.CodeHd base p.1 p.2)→qhi mg base→qbe l.prog w (K w.params) mg base (CX w) k fa fd [x] (sp w cts)))
  (hsp: ∀(w:World) (cts:List (Addr×Addr)) (H:Hp) (a:Addr) (ns:List Int),ns.length≤n→qgs (cts.map (·.2)) H→SqL (K w.params) H a (ns.map V.int)→sp w cts [.ref a] H (fun v _=>v= .bl true) fun _ _ _=>False)
  (hCX: ∀(w:World) (H:Hp) (s:Shared) (e:Value) (s':Shared),CX w [] H s (fun _ _ _=>False) e s'→False):
  PySem.W.WalkO q loose XP YP l.row.toRowW d [] (fun f vs=>PySem.call f vs):=by
 refine Att.attach_call hn hdf fun w s₀ s₁ mg mb fa o pm cd doc a vs ns G Y ho hd hcd hmg hobj hints hlen hg=> ?_
 have KX:=hY w _ Y
 obtain ⟨fd,cts,ht,hkt,hb,hF⟩:=F w mg fa _ KX G.T.g hmg
 have each: ∀p∈cts,PySem.W.CodeHd s₁.heap p.1 p.2∧s₁.heap.get? p.2=some (PySem.W.tabObj #[]):=fun p hp=>by
  have hm:some p∈ys.map (PySem.W.tabIn (K w.params)):=by rw[ht]; exact List.mem_map.mpr ⟨p,hp,rfl⟩
  obtain ⟨y,hy,ey⟩:=List.mem_map.mp hm
  obtain ⟨dx,hdx⟩:=hrec y hy
  exact PySem.W.tab_of G.T KX hdx ey
 have hC:=fun p hp=>(each p hp).1
 have hT: ∀T∈cts.map (·.2),s₁.heap.get? T=some (PySem.W.tabObj #[]):=fun T hTm=>by
  obtain ⟨p,hp,rfl⟩:=List.mem_map.mp hTm
  exact (each p hp).2
 exact qiE KX G.T.g G.T.b G.T.builtins G.T.nolimit hg hobj hints (Nat.le_trans hlen hn2) hr hC hT hkt G.T.bmain hF hb (fun H hO hS=>hsp w cts H a ns hlen hO hS) fun H e s'=>hCX w H s₁ e s'
end L2
end
section
namespace PL
open PySem L2 SR SetL
theorem qtC {α:Type}: ∀{us:List α},us.length=1→∃a,us=[a]
 | [a],_=>⟨a,rfl⟩
theorem qsR {α:Type}: ∀{us:List α},us.length=2→∃a b,us=[a,b]
 | [a,b],_=>⟨a,b,rfl⟩
theorem qsQ {α:Type}: ∀{us:List α},us.length=3→∃a b c,us=[a,b,c]
 | [a,b,c],_=>⟨a,b,c,rfl⟩
theorem hu1 {k:Nat} {A:Around} (r:qbW k A):A.units+1<cLine:=by have:=r.units; lia
theorem qgl:bootBuiltins "max" =some (.builtin "max"):=by decide+kernel
def qfg (l:List (Addr×Pos×Str)):Gam where
 P:=fun H=> ∀p∈l,Tab p.1 p.2.1 p.2.2 H
 st:=fun H H' k h p hp=>by
  obtain ⟨ps,h1,h2,h3⟩:=h p hp
  refine ⟨ps,k _ _ h1 (fun _ z=>by cases z) (fun _ z=>by cases z) (fun _ z=>by cases z) (fun _ _ _ z=>by cases z),h2,h3.imp_right fun ⟨c,a,b⟩=>⟨c,a,k _ _ b (fun _ z=>by cases z) (fun _ z=>by cases z) (fun _ z=>by cases z) (fun _ _ _ z=>by cases z)⟩⟩
theorem qry {Ts:List Addr} {lq:List (Pos×Str)} {H:Hp} (h:qgs Ts H):(qfg (Ts.zip lq)).P H:=fun p hp=>⟨#[],h.1 _ (List.of_mem_zip hp).1,trivial,.inl rfl⟩
end PL
end
section
namespace PL
open PySem L2
section
variable {M:Md} {H0 B0 H B H' B':Hp} {ρ:Ro} {σ:St}
end
def qbP:T→Option Key
 | .int i=>some (.inl i)
 | .str x=>some (.inr x)
 | _=>none
def qgN:Key→T
 | .inl i=>.int i
 | .inr x=>.str x
def qdl (kvs:List (Key×T)) (k:Key) (t:T):List (Key×T):=if (kvs.any fun kv=>decide (kv.1=k))=true then kvs.map (fun kv=>if kv.1=k then (kv.1,t) else kv) else kvs++[(k,t)]
def qeZ (kvs:List (Key×T)) (k:Key):Option T:=(kvs.find? fun kv=>decide (kv.1=k)).map (·.2)
section
variable {K:PySem.W.Frag} {B:Hp}
theorem qbc.nil:qbc K B [] []:=by unfold qbc; rfl
theorem qbc.cons {k:Key} {t:T} {v:V} {ts:List (Key×T)} {vs:List (Key×V)} (h:Rep K B t v) (r:qbc K B ts vs):qbc K B ((k,t)::ts) ((k,v)::vs):=by unfold qbc; exact ⟨v,vs,rfl,h,r⟩
theorem qbc.inv {k:Key} {t:T} {ts:List (Key×T)} {vs:List (Key×V)} (h:qbc K B ((k,t)::ts) vs): ∃v r,vs=(k,v)::r∧Rep K B t v∧qbc K B ts r:=by unfold qbc at h; exact h
theorem qbc.inv0 {vs:List (Key×V)} (h:qbc K B [] vs):vs=[]:=by unfold qbc at h; exact h
theorem qbc.length: ∀{ts:List (Key×T)} {vs:List (Key×V)},qbc K B ts vs→vs.length=ts.length
 | [],_,h=>by rw[h.inv0]; rfl
 | (_,_)::_,_,h=>by
  obtain ⟨v,r,rfl,_,h'⟩:=h.inv
  simp[qbc.length h']
theorem qbc.any (k:Key): ∀{ts:List (Key×T)} {vs:List (Key×V)},qbc K B ts vs→(vs.any fun kv=>decide (kv.1=k))=ts.any fun kv=>decide (kv.1=k)
 | [],_,h=>by rw[h.inv0]; rfl
 | (_,_)::_,_,h=>by
  obtain ⟨v,r,rfl,_,h'⟩:=h.inv
  rw[List.any_cons,List.any_cons,qbc.any k h']
theorem qbc.repl (k:Key) {t:T} {v:V} (h:Rep K B t v): ∀{ts:List (Key×T)} {vs:List (Key×V)},qbc K B ts vs→qbc K B (ts.map fun kv=>if kv.1=k then (kv.1,t) else kv) (vs.map fun kv=>if kv.1=k then (kv.1,v) else kv)
 | [],_,r=>by rw[r.inv0]; exact .nil
 | (j,u)::_,_,r=>by
  obtain ⟨x,rr,rfl,a,b⟩:=r.inv
  rw[List.map_cons,List.map_cons]
  by_cases c:j=k
  ·rw[if_pos c,if_pos c]; exact .cons h (qbc.repl k h b)
  ·rw[if_neg c,if_neg c]; exact .cons a (qbc.repl k h b)
theorem qbc.snoc {k:Key} {t:T} {v:V} (h:Rep K B t v): ∀{ts:List (Key×T)} {vs:List (Key×V)},qbc K B ts vs→qbc K B (ts++[(k,t)]) (vs++[(k,v)])
 | [],_,r=>by rw[r.inv0]; exact .cons h .nil
 | (_,_)::_,_,r=>by
  obtain ⟨x,rr,rfl,a,b⟩:=r.inv
  exact .cons a (qbc.snoc h b)
theorem qbc.put {k:Key} {t:T} {v:V} {ts:List (Key×T)} {vs:List (Key×V)} (r:qbc K B ts vs) (h:Rep K B t v):qbc K B (qdl ts k t) (qdk vs k v):=by
 unfold qdl qdk
 rw[r.any k]
 split
 ·exact r.repl k h
 ·exact r.snoc h
theorem qbc.val (k:Key): ∀{ts:List (Key×T)} {vs:List (Key×V)},qbc K B ts vs→(∀t,qeZ ts k=some t→∃v,qcO vs k=some v∧Rep K B t v)∧(qeZ ts k=none→qcO vs k=none)
 | [],_,r=>by rw[r.inv0]; exact ⟨(fun t z=>by cases z),(fun _=>rfl)⟩
 | (j,u)::_,_,r=>by
  obtain ⟨x,rr,rfl,a,b⟩:=r.inv
  obtain ⟨h1,h2⟩:=qbc.val k b
  unfold qeZ qcO at*
  rw[List.find?_cons,List.find?_cons]
  by_cases c:j=k
  ·simp[c]
   exact a
  ·simp only[c,decide_false]
   exact ⟨h1,h2⟩
end
end PL
end
section
namespace St
open PySem PySem.W PySem.Calls PyProof.Rows
section
variable {prog:Program} {w:World} {A:Around} {E:Value→Shared→Prop} {s:Shared} {v:Value} {Q:Value→Shared→Prop}
theorem sorted_c (hcol:wpAny (model prog w) A.in1 (collect v) (fun vs s1=> ∃(h1:Heap) (t1:Nat) (κ:SortKind) (kz:List Int),s1={ s with heap:=h1,toks:=t1 }∧Kp s.heap h1∧kz.length=vs.length∧vs.length<64∧
   (∀s':Shared,Kp h1 s'.heap→2≤vs.length→∀(Q:SortKind→Shared→Prop) (E:Value→Shared→Prop),Q κ s'→wpAny (model prog w) A.in1.in1 (keyKind' vs.toArray) Q E s')∧
   (∀s':Shared,Kp h1 s'.heap→∀i j,i<vs.length→j<vs.length→∀C:Bool→Shared→Prop,C (decide (kz.getD i 0<kz.getD j 0)) s'→wpAny (model prog w) A.in1.in1 (keyLt' κ (vs.getD i Value.none) (vs.getD j Value.none)) C (fun _ _=>False) s')∧
   ∀D h' tk c (p:Array Nat),h1.objs.size≤D→Kp h1 h'→qew kz vs.length p→h'.get? D=some (seqObj "list" (List.toArray (p.toList.map fun i=>vs.getD i Value.none)) c)→Q (.ref D) { s with heap:=h',toks:=tk }) E s):
  wpAny (model prog w) A (call (.builtin "sorted") [v]) Q E s:=by
 refine Calls.call_function_entry kind_sorted plain_sorted entry_sorted (args_sorted1 _) ?_
 unfold Builtin.«sorted»
 refine wpAny_bind (m:=checkCount "sorted" 1 1 _) (wpAny_pure ?_)
 refine wpAny_bind (wpAny_mono hcol (fun vs s1 h=> ?_) fun _ _ x=>x)
 obtain ⟨H1,t1,κ,kz,rfl,kp1,hlen,h64,kind,cmp,h⟩:=h
 refine wpAny_bind (wpAny_newList ?_ (by rw[sizeLine_eq]; lia))
 have kp2:Kp H1 (H1.push (seqObj "list" vs.toArray 0)):=fun b o q=>Heap.get?_push_of_some _ q
 have hoD:(H1.push (seqObj "list" vs.toArray 0)).get? H1.objs.size=some (seqObj "list" vs.toArray 0):=Heap.get?_push_size _ rfl
 refine wpAny_bind (wpAny_holding (wpAny_call_entry slot_list_sort ⟨_,hoD,rfl⟩ entry_list_sort ?body (args_list_sort _)))
 case body=>
  refine qoC (h0:=H1) (kz:=kz) (κ:=κ) (s:={ s with heap:=H1.push (seqObj "list" vs.toArray 0),toks:=t1 }) hoD hlen h64 kp2 (qmw (Nat.le_refl _)) (fun s' k h2 Q hq=>kind s' k h2 Q _ hq) cmp fun h' tk c p a1 a2 a3=>⟨_,rfl,?_⟩
  exact wpAny_pure ⟨_,rfl,h _ h' tk c p (Nat.le_refl _) a1 a2 a3⟩
end
end St
end
section
namespace L2
open PySem PySem.Spec PyProof.Rows
theorem qsS {P:Program} {w:World} {k:Key} {u:Value} (h:(qaI P w).is k u=true):RelV (kV k) u:=by
 cases k with
 | inl i=>
  cases u with
  | int j t=>
   have:j=i:=by simpa [qaI,keyIs,Value.isInt,Value.isStrOf] using h
   subst this; exact ⟨t,rfl⟩
  | _=>simp[qaI,keyIs,Value.isInt,Value.isStrOf] at h
 | inr x=>
  cases u with
  | str j t=>
   have:j=x:=by simpa [qaI,keyIs,Value.isInt,Value.isStrOf] using h
   subst this; exact ⟨t,rfl⟩
  | _=>simp[qaI,keyIs,Value.isInt,Value.isStrOf] at h
theorem KV.get {us:List (Key×V)} {vs:List (Key×Value)} (r:KV us vs): ∀{j:Nat} {k:Key} {x:Value},vs[j]? =some (k,x)→∃v,us[j]? =some (k,v)∧RelV v x:=by
 induction r with
 | nil=>intro j k x e; simp at e
 | cons h t ih=>
  intro j k x e
  cases j with
  | zero=>
   rename_i p q _ _
   simp at e
   subst e
   obtain ⟨p1,p2⟩:=p
   have h1:p1=k:=h.1
   exact ⟨p2,by rw[←h1]; rfl,h.2⟩
  | succ j=>
   obtain ⟨v,e1,e2⟩:=ih (j:=j) (by simpa using e)
   exact ⟨v,by simpa using e1,e2⟩
end L2
end
section
namespace PL
open PySem L2 SR SetL
theorem qeh {K:PySem.W.Frag} {B:Hp} {t:T} {k:Key} {v:V} (h:qbP t=some k) (r:Rep K B t v):v=kV k:=by
 cases t with
 | int i=>cases h; exact qau r
 | str x=>cases h; exact qaG r
 | _=>cases h
theorem qlJ {K:PySem.W.Frag} {B:Hp} (k:Key):Rep K B (qgN k) (kV k):=by
 cases k with
 | inl i=>exact qaX
 | inr x=>exact qfI
section
variable {M:Md} {X:Cx} {e o k value:Expr} {pos pos' p1 apos cpos:Pos} {da dk:Ro→Rs T} {dd:Ro→Rs (List (Key×T))} {i:Nat} {x:Str} {st:Stmt} {sts:List Stmt} {d:Ro→Rs Out}
def qoD (kvs:List (Key×T)) (k:T):Rs T:=match qbP k with
 | some k=>(match qeZ kvs k with | some t=>.ok t | none=>.no)
 | none=>.no
end
end PL
end
section
namespace PL
open PySem L2 SR SetL
theorem qbc.get {K:PySem.W.Frag} {B:Hp}: ∀{ts:List (Key×T)} {us:List (Key×V)} {j:Nat} {k:Key} {v:V},qbc K B ts us→us[j]? =some (k,v)→∃t,ts[j]? =some (k,t)∧Rep K B t v
 | [],_,j,_,_,r,e=>by rw[r.inv0] at e; simp at e
 | (k0,t0)::ts,_,0,k,v,r,e=>by
  obtain ⟨x,rr,rfl,a,b⟩:=r.inv
  simp at e
  obtain ⟨rfl,rfl⟩:=e
  exact ⟨t0,rfl,a⟩
 | (k0,t0)::ts,_,j+1,k,v,r,e=>by
  obtain ⟨x,rr,rfl,a,b⟩:=r.inv
  obtain ⟨t,e1,e2⟩:=qbc.get (j:=j) b (by simpa using e)
  exact ⟨t,by simpa using e1,e2⟩
section
variable {M:Md} {X:Cx} {o:Expr} {pos p1 apos cpos:Pos} {dd:Ro→Rs (List (Key×T))}
end
end PL
end
section
namespace SetL
open PySem
theorem fm_congr {α β:Type} {f g:α→Option β}: ∀{l:List α},(∀x∈l,f x=g x)→l.filterMap f=l.filterMap g
 | [],_=>rfl
 | x::l,h=>by
  rw[List.filterMap_cons,List.filterMap_cons,h x List.mem_cons_self,fm_congr fun y hy=>h y (List.mem_cons_of_mem _ hy)]
def qsn (N:Nat):Nat→Nat→List Nat
 | 0,_=>[]
 | f+1,i=>i::qsn N f ((i*5+1) % N)
def orb (N:Nat):Nat→Nat→Nat
 | 0,i=>i
 | t+1,i=>orb N t ((i*5+1) % N)
theorem qhD (N:Nat) {j:Nat}: ∀(f i:Nat),j∈qsn N f i→∃t,t<f∧orb N t i=j
 | 0,_,h=>by cases h
 | f+1,i,h=>by
  rcases List.mem_cons.mp h with z | z
  ·exact ⟨0,by lia,z.symm⟩
  ·obtain ⟨t,h1,h2⟩:=qhD N f _ z
   exact ⟨t+1,by lia,h2⟩
theorem qte: ∀N∈[8,16,32,64],((List.range N).all fun i=>(List.range N).all fun j=>(qsn N N i).contains j)=true:=by decide+kernel
def Sz (mask:Nat):Prop:=mask+1∈[8,16,32,64]
theorem qq2 {mask:Nat} (h:Sz mask) {i j:Nat} (hi:i<mask+1) (hj:j<mask+1): ∃t,t<mask+1∧orb (mask+1) t i=j:=by
 have:=qte _ h
 have a:=List.all_eq_true.mp this i (List.mem_range.mpr hi)
 have b:=List.all_eq_true.mp a j (List.mem_range.mpr hj)
 exact qhD _ _ _ (by simpa using b)
def its (mask:Nat):Nat→Nat×Nat→Nat×Nat
 | 0,x=>x
 | t+1,x=>its mask t (SetTable.leap mask x.1 x.2)
theorem qkw (mask:Nat) (t:Nat): ∀(s:Nat) (x:Nat×Nat),its mask (s+t) x=its mask t (its mask s x)
 | 0,x=>by rw[Nat.zero_add]; rfl
 | s+1,x=>by
  rw[show s+1+t=(s+t)+1 by lia]
  exact qkw mask t s _
theorem qkv (mask:Nat): ∀(t:Nat) (x:Nat×Nat),(its mask t x).2=x.2 / 32 ^ t
 | 0,x=>by simp[its]
 | t+1,x=>by
  show (its mask t (SetTable.leap mask x.1 x.2)).2=_
  rw[qkv mask t]
  show x.2 / 32 / 32 ^ t=_
  rw[Nat.div_div_eq_div_mul,Nat.pow_succ,Nat.mul_comm]
theorem qeN (mask:Nat): ∀(t:Nat) (x:Nat×Nat),x.1<mask+1→(its mask t x).1<mask+1
 | 0,x,h=>h
 | t+1,x,h=>qeN mask t _ (Nat.mod_lt _ (Nat.succ_pos _))
theorem qhP (mask:Nat): ∀(t i:Nat),(its mask t (i,0)).1=orb (mask+1) t i
 | 0,i=>rfl
 | t+1,i=>by
  have e:SetTable.leap mask i 0=((i*5+1) % (mask+1),0):=by unfold SetTable.leap; simp
  show (its mask t (SetTable.leap mask i 0)).1=orb (mask+1) t ((i*5+1) % (mask+1))
  rw[e]
  exact qhP mask t _
theorem quh {mask:Nat} (h:Sz mask) {i p j:Nat} (hi:i<mask+1) (hp:p<2 ^ 64) (hj:j<mask+1): ∃t,t<SetTable.turns mask∧(its mask t (i,p)).1=j:=by
 have h13:(its mask 13 (i,p)).2=0:=by
  rw[qkv]
  exact Nat.div_eq_of_lt (Nat.lt_of_lt_of_le hp (by decide))
 have hl:=qeN mask 13 (i,p) hi
 obtain ⟨t,h1,h2⟩:=qq2 h hl hj
 refine ⟨13+t,by unfold SetTable.turns; lia,?_⟩
 rw[qkw]
 have e:its mask 13 (i,p)=((its mask 13 (i,p)).1,0):=Prod.ext rfl h13
 rw[e,qhP,h2]
section
variable {mask:Nat} {ow:Array (Option Nat)}
end
end SetL
end
section
namespace SetL
open PySem
section
variable {prog:Program} {w:World} {K:Type} [DecidableEq K] (knd:KeyKind prog w K)
def SX (h:Heap) (a:Addr) (l:List K) (es:Array (Int×Value)) (ep:Nat) (t:SetTable):Prop:=
 ∃o,h.get? a=some o∧o.ExactSet∧o.data= .set es ep t∧ElemsOf knd es.toList∧(∀k,k∈l↔∃e∈es.toList,knd.is k e.2=true)∧es.size<scanBound∧t.fits es.size=true∧es.size=(dd l).length∧qtm t∧t.led= !w.params.followText "set-order"
variable {knd} {A:Around} {E:Value→Shared→Prop} {s:Shared}
theorem SX.p {h:Heap} {a:Addr} {l:List K} {es:Array (Int×Value)} {ep:Nat} {t:SetTable} (x:SX knd h a l es ep t):quW knd h a (fun k=>decide (k∈l)) (dd l).length:=by
 obtain ⟨o,a1,a2,a3,a4,a5,a6,a7,a8,a9,a10⟩:=x
 exact ⟨o,es,ep,t,a1,a2,a3,a4,fun k=>by rw[decide_eq_true_eq]; exact a5 k,a6,a7,a8,a9,a10⟩
end
end SetL
end
section
namespace SetL
open PySem
section
variable {prog:Program} {w:World} {K:Type} [DecidableEq K] {knd:KeyKind prog w K} {A:Around} {E:Value→Shared→Prop} {s:Shared}
end
end SetL
end
section
namespace SetL
open PySem
section
variable {prog:Program} {w:World} {K:Type} [DecidableEq K] {knd:KeyKind prog w K} {A:Around} {E:Value→Shared→Prop} {s:Shared}
end
end SetL
end
section
namespace PL
open PySem L2 SR SetL
def qu1:Key→Str
 | .inr x=>x
 | .inl _=> ""
def qqG:Key→Bool
 | .inr _=>true
 | .inl _=>false
def okD (a:List (Key×T)):Bool:=decide (a.length≤15)&&a.all fun p=>qqG p.1
section
variable {X:Cx} {a:Expr} {t:TE} {p2 p3:Pos}
end
section
variable {M:Md} {X:Cx} {a b:Expr} {da db:Ro→Rs (List (Key×T))} {p1 p2 p3 p4 p5 p6 pos:Pos}
end
end PL
end
section
namespace PL
open PySem L2 SR SetL
section
variable {X:Cx}
end
section
variable {M:Md} {X:Cx} {e a:Expr} {pos p2:Pos} {da:Ro→Rs T} {dq:Ro→Rs (Bool×List T)} {lo hi:Option Expr} {dl dh:Ro→Rs (Option Int)}
end
end PL
end
section
namespace PySem
section
variable {prog:Program} {w:World} {A:Around} {E:Value→Shared→Prop} {h:Heap} {g:Array GenState} {d:Drawn} {t:Nat} {os:OsState} {a:Addr} {items:Array Value} {c:Nat}
theorem qfM:typeLookup (.type "list") "keys" =pure none:=by rw[typeLookup_type,builtinLookup_eq_fast]; kernel_rfl
theorem qee:typeLookup (.type "list") "__getattr__" =pure none:=by rw[typeLookup_type,builtinLookup_eq_fast]; kernel_rfl
theorem qji:isSubtype (.type "AttributeError") (.type "AttributeError")=pure true:=by rw[isSubtype_type]; kernel_rfl
def qtn (h:Heap) (g:Array GenState) (d:Drawn) (os:OsState) (E:Value→Shared→Prop):Prop:= ∀(e:Addr) (h':Heap) (t':Nat),(∀b u,h.get? b=some u→h'.get? b=some u)→(∃o,h'.get? e=some o∧o.cls= .type "AttributeError")→E (.ref e) ⟨h',g,d,t',os⟩
theorem qkj {tk:Tok} {Q:Fin→Shared→Prop} (hh:A.handled=none) (hx:h.get? a=some { cls:=.type "list",dict:=none,data:=.seq items c,slots:= #[] }) (hE:qtn h g d os E):
  wpAny (model prog w) A (Builtin.«object.__getattribute__» ⟨[.ref a,.str "keys" tk],[]⟩) Q E ⟨h,g,d,t,os⟩:=by
 have hT:(⟨h,g,d,t,os⟩:Shared).TypeIs (.ref a) "list" :=⟨_,hx,rfl⟩
 have f4:=qfM
 repeat (any_goals (first | assumption | wp_step))
 have em:(Str.ofString (toString "'" ++toString ((Manifest.find? "list").elim "list" fun x=>x.tpName)++toString "' object has no attribute '")++Str.ofString "keys" ++Str.ofString "'").length≤sizeLine:=by
  have:(Manifest.find? "list").elim "list" (fun x=>x.tpName)= "list" :=by decide+kernel
  rw[this]
  decide+kernel
 generalize (Str.ofString (toString "'" ++toString ((Manifest.find? "list").elim "list" fun x=>x.tpName)++toString "' object has no attribute '")++Str.ofString "keys" ++Str.ofString "'")=msg at em⊢
 unfold raiseAttrError
 simp only[newExc,newTuple]
 repeat (any_goals (first | assumption | wp_step))
 have eo:ownMembersOf (Value.type "AttributeError") [Value.str msg t]= #[unsetMember,unsetMember]:=rfl
 have ei:((Manifest.find? "AttributeError").elim false fun t=>t.mro.contains "StopIteration" ||t.mro.contains "SystemExit")=false:=by decide+kernel
 rw[eo,ei]
 refine wpAny_of_eq qji ?_
 repeat (any_goals (first | assumption | wp_step))
 unfold raiseNew
 refine wpAny_bind (wpAny_handled ?_)
 rw[hh]
 refine wpAny_bind (wpAny_pure (wpAny_throw ?_))
 refine hE _ _ _ (fun b u q=> ?_) ⟨_,Heap.get?_update_self _ (Heap.get?_push_size _ rfl) rfl,rfl⟩
 have q1:=Heap.get?_push_of_some { cls:=Value.type "tuple",data:=Data.seq #[Value.str msg t] } q
 rw[Heap.get?_update_other _ _ (Nat.ne_of_gt (Heap.lt_size q1))]
 exact Heap.get?_push_of_some _ q1
theorem qkl {tk:Tok} {R:Result→Shared→Prop} (hh:A.handled=none) (hx:h.get? a=some { cls:=.type "list",dict:=none,data:=.seq items c,slots:= #[] }) (hE:qtn h g d os fun e s=>R (.error e) s):
  codeAny (model prog w) A (.call (.builtin "list.__getattribute__") ⟨[.ref a,.str "keys" tk],[]⟩) R ⟨h,g,d,t,os⟩:=
 codeAny_call_builtin F.slot_list_getattribute.plain F.entry_list_ga (F.slot_list_getattribute.check _ _ _ _ _ _ _ _ (show (⟨h,g,d,t,os⟩:Shared).TypeIs (.ref a) "list" from ⟨_,hx,rfl⟩) (F.args_list_getattribute_2 _ _) (qkj hh hx hE))
theorem qoG {tk:Tok} {Q:Value→Shared→Prop} (hh:A.handled=none) (hx:h.get? a=some { cls:=.type "list",dict:=none,data:=.seq items c,slots:= #[] }) (hE:qtn h g d os E):wpAny (model prog w) A (getAttrBy (.ref a) (.str "keys" tk) false) Q E ⟨h,g,d,t,os⟩:=by
 have hT:(⟨h,g,d,t,os⟩:Shared).TypeIs (.ref a) "list" :=⟨_,hx,rfl⟩
 have f2:=F.slot_list_getattribute.lookup
 have f3:=F.slot_list_getattribute.bind (.ref a)
 repeat (any_goals (first | assumption | wp_step))
 refine qkl hh hx fun e h' t' kp hq48=> ?_
 obtain ⟨o,ho,hc⟩:=hq48
 show wpAny _ _ (getattributeRaised (Value.ref a) (Value.str (Str.ofString "keys") tk) (Value.type "list") (.ref e) none false false) _ _ _
 unfold getattributeRaised
 refine wpAny_bind (wpAny_isInstance (b:=true) ⟨o,ho,hc⟩ qji ?_)
 rw[if_pos rfl]
 unfold hookBehind
 refine wpAny_bind (wpAny_of_eq (show (if onTheHeap (Value.type "list")=true then pure none else typeLookup (Value.type "list") "__getattr__")=pure none from qee) ?_)
 exact wpAny_throw (hE e h' t' kp ⟨o,ho,hc⟩)
theorem qki {Q:Option Value→Shared→Prop} (hh:A.handled=none) (hx:h.get? a=some { cls:=.type "list",dict:=none,data:=.seq items c,slots:= #[] })
  (hq: ∀h' t',(∀b u,h.get? b=some u→h'.get? b=some u)→Q none ⟨h',g,d,t',os⟩):wpAny (model prog w) A (getAttr? (.ref a) "keys") Q E ⟨h,g,d,t,os⟩:=by
 unfold getAttr? getAttrBy?
 refine wpAny_bind (wpAny_mkText ?_)
 refine wpAny_bind (wpAny_attempt (qoG hh hx fun e h' t' kp ⟨o,ho,hc⟩=> ?_))
 show wpAny _ _ (do if ←isInstance (.ref e) (.type "AttributeError") then pure none else throw (.ref e)) _ _ _
 refine wpAny_bind (wpAny_isInstance (b:=true) ⟨o,ho,hc⟩ qji ?_)
 rw[if_pos rfl]
 exact wpAny_pure (hq h' t' kp)
end
end PySem
end
section
namespace PySem
section
variable {prog:Program} {w:World} {K:Type} [DecidableEq K] {knd:KeyKind prog w K} {A:Around} {E:Value→Shared→Prop} {s:Shared}
theorem qfX:entryFor table "dict.update.loop" =some Builtin.«dict.update.loop» :=entryFor_of_fast (by kernel_rfl)
theorem qcT:plainId "dict.update.loop" =true:=by decide+kernel
def qlu (knd:KeyKind prog w K) (h:Heap) (p:K×Value) (v:Value):Prop:= ∃a k,v= .ref a∧PyProof.Rows.IsTup h a #[k,p.2]∧knd.is p.1 k=true
def qlP (kvs:List (K×Value)):List (K×Value)→List (K×Value)
 | []=>kvs
 | p::ps=>qlP (stored kvs p.1 p.2) ps
theorem qil (kvs:List (K×Value)) (k:K) (v:Value):(stored kvs k v).length≤kvs.length+1:=by
 unfold stored
 split<;>simp
theorem qmM {h0:Heap} {D I l:Addr} {vs:List Value} {R:Result→Shared→Prop} (hh:A.in1.handled=none) (hl:h0.IsList l vs.toArray) (hDI:D≠I) (hDl:D≠l) (hlI:l≠I) (hI0:h0.get? I=none) (hD0:h0.get? D=none):
  ∀(ps:List (K×Value)) (j:Nat) (h:Heap) (tk:Nat) (kvs:List (K×Value)),j+ps.length=vs.length→(∀i p,ps[i]? =some p→∃v,vs[j+i]? =some v∧qlu knd h0 p v)→kvs.length+ps.length≤1000→(∀b o,h0.get? b=some o→h.get? b=some o)→h.IsListIter I l j→h.DictOf knd D kvs→
   (∀h' tk',(∀b o,h0.get? b=some o→h'.get? b=some o)→h'.DictOf knd D (qlP kvs ps)→R (.ok (.ret .none)) { s with heap:=h',toks:=tk' })→
   codeAny (model prog w) A (.builtin "dict.update.loop" ⟨[.ref D,.ref I,rawInt (j:Nat),.none],[]⟩) R { s with heap:=h,toks:=tk }:=by
 have W:=Walks.list (prog:=prog) (w:=w) (A:=A.in1) hh I l hlI vs.toArray
 have lat: ∀h:Heap,(∀b o,h0.get? b=some o→h.get? b=some o)→h.IsList l vs.toArray:=fun h k=>hl.at fun o e=>k _ _ e
 intro ps
 induction ps with
 | nil=>
  intro j h tk kvs hj hp hz kp hI hD fin
  have hj':j=vs.toArray.size:=by rw[List.size_toArray]; simpa using hj
  refine codeAny_builtin qfX ?_
  rw[Around.under_plainId qcT _]
  unfold Builtin.«dict.update.loop»
  show wpAny _ _ (pyNext (.ref I)>>=_) _ _ _
  refine wpAny_bind (W.done _ _ _ (by rw[←hj']; exact ⟨hI,lat h kp⟩) fun h' tk' k2=> ?_)
  show wpAny _ _ (Builtin.Dict.addKeywords D []>>=_) _ _ _
  refine wpAny_bind (wpAny_pure (wpAny_pure ?_))
  refine fin h' tk' (fun b o e=>k2 b o (fun z=>by rw[List.mem_singleton.mp z,hI0] at e; cases e) (kp b o e)) (hD.at fun o e=>k2 D o (by simpa using hDI) e)
 | cons p ps ih=>
  intro j h tk kvs hj hp hz kp hI hD fin
  have hlt:j<vs.toArray.size:=by rw[List.size_toArray]; rw[List.length_cons] at hj; lia
  refine codeAny_builtin qfX ?_
  rw[Around.under_plainId qcT _]
  unfold Builtin.«dict.update.loop»
  show wpAny _ _ (pyNext (.ref I)>>=_) _ _ _
  refine wpAny_bind (W.item j _ _ _ hlt ⟨hI,lat h kp⟩ fun v h' tk' hv st k2=> ?_)
  have kp': ∀b o,h0.get? b=some o→h'.get? b=some o:=fun b o e=>k2 b o (fun z=>by rw[List.mem_singleton.mp z,hI0] at e; cases e) (kp b o e)
  have hD':h'.DictOf knd D kvs:=hD.at fun o e=>k2 D o (by simpa using hDI) e
  obtain ⟨v',ev,a,k,ea,⟨oa,ga,ca,na,da⟩,hk⟩:=hp 0 p rfl
  have hv':vs[j]? =some v:=by simpa using hv
  have:v'=v:=by rw[Nat.add_zero,hv'] at ev; exact (Option.some.inj ev).symm
  subst this
  subst ea
  dsimp only
  refine wpAny_bind (wpAny_holding ?_)
  have ty:({ s with heap:=h',toks:=tk' }:Shared).TypeIs (.ref a) "tuple" :=⟨oa,kp' _ _ ga,ca⟩
  refine wpAny_bind (wpAny_tryCatch ?_)
  unfold Builtin.Dict.pairItems
  refine wpAny_bind (wpAny_typeOf ty ?_)
  rw[if_pos (by decide)]
  refine wpAny_bind (wpAny_seqItems (kp' _ _ ga) da (wpAny_pure ?_))
  show wpAny _ _ (holding [k,p.2] (dictSet D k p.2)) _ _ _
  refine wpAny_holding (wpAny_dictSet_pairs (s:={ s with heap:=h',toks:=tk' }) hk hD' (fun h2 hD2 sb=> ?_) (by rw[List.length_cons] at hz; have:=sizeLine_eq; lia))
  refine wpAny_pure ⟨plainId_quiet qcT _,?_⟩
  have hI2:h2.IsListIter I l (j+1):=by
   obtain ⟨oi,gi,ri⟩:=st.1
   exact ⟨oi,by rw[sb.2 I (Ne.symm hDI)]; exact gi,ri⟩
  have sl:=qil kvs p.1 p.2
  refine ih (j+1) h2 _ (stored kvs p.1 p.2) (by rw[List.length_cons] at hj; lia) (fun i q hq=> ?_) (by rw[List.length_cons] at hz; lia) (fun b o e=> ?_) hI2 hD2 fin
  ·obtain ⟨v,e1,e2⟩:=hp (i+1) q (by simpa using hq)
   exact ⟨v,by rw[←e1]; congr 1; lia,e2⟩
  ·rw[sb.2 b (fun z=>by rw[z,hD0] at e; cases e)]
   exact kp' b o e
theorem qiT {l:Addr} {vs:List Value} {c:Nat} {ps:List (K×Value)} {Q:Value→Shared→Prop} (hh:A.handled=none) (hl:s.heap.get? l=some { cls:=.type "list",dict:=none,data:=.seq vs.toArray c,slots:= #[] }) (hn:ps.length=vs.length) (hz:ps.length≤1000)
  (hp: ∀(i:Nat) (p:K×Value),ps[i]? =some p→∃v,vs[i]? =some v∧qlu knd s.heap p v)
  (h: ∀h' tk,h'.DictOf knd s.heap.objs.size (qlP [] ps)→(∀b o,s.heap.get? b=some o→h'.get? b=some o)→Q (.ref s.heap.objs.size) { s with heap:=h',toks:=tk }):
  wpAny (model prog w) A (call (.type "dict") [.ref l]) Q E s:=by
 refine callType_codes (Q₁:=fun obj s₁=>obj= .ref s.heap.objs.size∧s₁={ s with heap:=s.heap.push { cls:=.type "dict",data:=.dict #[] } }) F.kt_called_dict (F.kt_typeCall_dict_1 _) F.entry_dict_init (kt_code_dict_new _ ⟨rfl,rfl⟩) ?_
 rintro obj s₁ ⟨rfl,rfl⟩
 have hnew:(s.heap.push { cls:=.type "dict",data:=.dict #[] }).DictOf knd s.heap.objs.size []:=Heap.DictOf.new s.heap
 have hl':(s.heap.push { cls:=.type "dict",data:=.dict #[] }).get? l=some { cls:=.type "list",dict:=none,data:=.seq vs.toArray c,slots:= #[] }:=Heap.get?_push_of_some _ hl
 have ll:=Heap.lt_size hl
 refine ⟨hnew.typeIs,F.args_dict_init_2 _ _,?_⟩
 unfold Builtin.«dict.__init__»
 refine wpAny_bind ?_
 unfold Builtin.Dict.selfAndRest
 refine wpAny_bind (wpAny_notOrdered_dict hnew.typeIs ?_)
 show wpAny _ _ (pure (s.heap.objs.size,[Value.ref l])) _ _ _
 refine wpAny_pure ?_
 show wpAny _ _ (Builtin.Dict.updateFrom "dict.__init__" s.heap.objs.size (.ref l) [] .none) _ _ _
 unfold Builtin.Dict.updateFrom
 have tl:({ s with heap:=s.heap.push { cls:=.type "dict",data:=.dict #[] } }:Shared).TypeIs (.ref l) "list" :=⟨_,hl',rfl⟩
 refine wpAny_bind (wpAny_typeOf tl ?_)
 rw[if_pos (by decide)]
 refine wpAny_bind ?_
 obtain ⟨hp0,g,d,tk,os⟩:=s
 refine qki (by exact hh) hl' fun h1 t1 kp1=> ?_
 rw[if_pos (show (none:Option Value).isNone=true from rfl)]
 refine wpAny_bind (wpAny_rule ?_)
 have hl1:=kp1 _ _ hl'
 refine wpAny_bind (wpAny_pyIter_list (s:=⟨h1,g,d,t1,os⟩) ⟨_,hl1,rfl,_,rfl⟩ ?_)
 have hD1:h1.DictOf knd hp0.objs.size []:=hnew.at fun o e=>kp1 _ _ e
 have lD:hp0.objs.size<h1.objs.size:=by
  obtain ⟨o,_,_,e,_⟩:=hD1
  exact Heap.lt_size e
 have kp0: ∀b o,hp0.get? b=some o→h1.get? b=some o:=fun b o e=>kp1 b o (Heap.get?_push_of_some _ e)
 have gn: ∀{b:Addr},hp0.objs.size≤b→hp0.get? b=none:=fun {b} hb=>by
  cases q:hp0.get? b with
  | none=>rfl
  | some o=>exact absurd (Heap.lt_size q) (Nat.not_lt.mpr hb)
 refine wpAny_pure ⟨plainId_quiet qcT _,?_⟩
 refine qmM (A:=A.in1) (knd:=knd) (s:=⟨h1,g,d,t1,os⟩) (h0:=hp0) (vs:=vs) (by exact hh) ⟨_,hl,rfl,_,rfl⟩ (Nat.ne_of_lt lD) (Nat.ne_of_gt ll) (Nat.ne_of_lt (Nat.lt_trans ll lD)) (gn (Nat.le_of_lt lD)) (gn (Nat.le_refl _)) ps 0 _ t1 [] (by rw[Nat.zero_add]; exact hn) (fun i p hi=> ?_) (by simpa using hz) (fun b o e=>Heap.get?_push_of_some _ (kp0 b o e)) ⟨_,Heap.get?_push_size _ rfl,rfl,rfl⟩ (hD1.push _) fun h' tk' k2 hD2=>⟨rfl,h h' tk' hD2 k2⟩
 obtain ⟨v,e1,e2⟩:=hp i p hi
 exact ⟨v,by rw[Nat.zero_add]; exact e1,e2⟩
end
end PySem
end
section
namespace PL
open PySem L2 SR SetL
def qqr:List Str:= "dict" ::names
theorem qiX:bootBuiltins "dict" =some (.type "dict"):=by decide+kernel
def qcX:T→Option (Key×T)
 | .tup [k,v]=>(qbP k).map fun kk=>(kk,v)
 | _=>none
def dOf (ps:List (Key×T)):List (Key×T):=ps.foldl (fun d p=>qdl d p.1 p.2) []
def qf5 (q:Bool×List T):Rs (List (Key×T)):=if (q.1=true∧q.2.length≤1000)∧q.2.all (fun t=>(qcX t).isSome)=true then .ok (dOf (q.2.filterMap qcX)) else .no
theorem qiw {t:T} {p:Key×T} (h:qcX t=some p): ∃k,t= .tup [k,p.2]∧qbP k=some p.1:=by
 unfold qcX at h
 split at h
 ·rename_i k v
  cases e:qbP k with
  | none=>rw[e] at h; cases h
  | some kk=>rw[e] at h; cases h; exact ⟨k,rfl,e⟩
 ·cases h
def tN (M:Md) (d:Ro→Rs (List (Key×T))):TE:=fun σ H Q=> ∃H0 B0 ρ B,Ev M H0 B0 ρ σ H B∧Wnt M H0 (fun a=> ∀p us H' B',qa0 H B H' B'→M.G.P H'→H p=none→B' p=none→H' p=some (.dK us)→qbc M.K B' a us→Q (.ref p) H') (d ρ)
abbrev DN (M:Md) (X:Cx) (e:Expr) (d:Ro→Rs (List (Key×T))):Prop:=PE X e (tN M d)
def qrq (g:Bool×List T→Rs (List (Key×T))) (dq:Ro→Rs (Bool×List T)):Ro→Rs (List (Key×T)):=fun ρ=>dq ρ>>=g
section
variable {M:Md} {X:Cx} {e a:Expr} {pos pos' p1:Pos} {dq:Ro→Rs (Bool×List T)} {ds:Ro→Rs (List (Key×T))} {x:Str} {i:Nat}
theorem qo0 (hc:X.calm=true) (gd:Gl X "dict") (md:X.mg "dict" =none) (ha:DQ M X a dq) (hK:X.K=M.K:=by rfl) (he:starEach [a] X.env=(false,eval a X.env)::starEach [] X.env:=by rfl):
  DN M X (.Call (.Name "dict" p1) [a] [] pos) (qrq qf5 dq):=by
 intro pins s σ H Q I hq56
 obtain ⟨H0,B0,ρ,B,ev,w⟩:=hq56
 refine wpAny_Call_Name_kw (qdC I gd md qiX ?_)
 refine PyProof.Rows.callWith_type1 ?_ he rfl
 have hR:tQ M dq σ H fun x H1=> ∃p vs q B1,x= .ref p∧qa0 H B H1 B1∧M.G.P H1∧(if q.1=true then H1 p=some (.lst vs) else SqT M.K B1 p vs)∧qaL M.K B1 q.2 vs∧
   Wnt M H0 (fun a=> ∀p us H' B',qa0 H B H' B'→M.G.P H'→H p=none→B' p=none→H' p=some (.dK us)→qbc M.K B' a us→Q (.ref p) H') (qf5 q):=
  tQ.of ev (Wnt.mono (Wnt.bind w) fun q w1 p vs H1 B1 g1 m1 hq r1=>⟨p,vs,q,B1,rfl,g1,m1,hq,r1,w1⟩)
 refine thn (qar ha qaH he pos pins s σ H (fun vs H1=> ∃x,vs=[x]∧∃p vs q B1,x= .ref p∧qa0 H B H1 B1∧M.G.P H1∧(if q.1=true then H1 p=some (.lst vs) else SqT M.K B1 p vs)∧qaL M.K B1 q.2 vs∧
   Wnt M H0 (fun a=> ∀p us H' B',qa0 H B H' B'→M.G.P H'→H p=none→B' p=none→H' p=some (.dK us)→qbc M.K B' a us→Q (.ref p) H') (qf5 q)) I (tQ.mono (fun v H1 h=>⟨v,rfl,h⟩) hR)) fun us s1 h1=> ?_
 obtain ⟨vs0,H1,I1,r1,x,rfl,p,vs,q,B1,rfl,g1,m1,hq,rq,w1⟩:=h1
 obtain ⟨u,rfl,ru⟩:=qdZ r1
 cases ru
 have ev1:=ev.grow g1 m1
 unfold qf5 at w1
 split at w1
 case isFalse=>exact w1.elim
 rename_i hcc
 rw[if_pos hcc.1.1] at hq
 obtain ⟨z,its,n,rv,hl,el⟩:=I1.lstM hq
 have hh:X.A.handled=none:=I1.ok.hd hc
 have l2:=rq.length
 have each: ∀(ts:List T) (vs:List V) (its:List Value),(ts.all fun t=>(qcX t).isSome)=true→qaL M.K B1 ts vs→qa1 vs its→∃(pv:List (Key×V)) (pu:List (Key×Value)),pv.length=ts.length∧KV pv pu∧qbc M.K B1 (ts.filterMap qcX) pv∧∀(i:Nat) (pp:Key×Value),pu[i]? =some pp→∃v,its[i]? =some v∧qlu (qaI X.prog X.w) s1.heap pp v:=by
  intro ts
  induction ts with
  | nil=>
   intro vs its _ r v
   have:=r.inv0
   subst this
   cases v
   exact ⟨[],[],rfl,.nil,.nil,fun i pp h=>by simp at h⟩
  | cons t ts ih=>
   intro vs its hall r v
   obtain ⟨y,ys,rfl,ry,rys⟩:=r.inv
   rw[List.all_cons,Bool.and_eq_true] at hall
   cases v with
   | cons vy vys=>
    rename_i u us
    obtain ⟨pv,pu,e1,e2,e3,e4⟩:=ih ys us hall.2 rys vys
    cases ep:qcX t with
    | none=>rw[ep] at hall; cases hall.1
    | some pp=>
     obtain ⟨k,et,ek⟩:=qiw ep
     rw[et] at ry
     obtain ⟨ta,ws,rfl,sq,rs⟩:=qbj ry
     obtain ⟨wk,r',rfl,rk,rr⟩:=rs.inv
     obtain ⟨wv,r'',rfl,rv',rr'⟩:=rr.inv
     have:=rr'.inv0
     subst this
     have ewk:=qeh ek rk
     subst ewk
     cases vy
     obtain ⟨its2,rv2,pl2,_⟩:=I1.tuple (by rw[hK]; exact ev1.bh.sqT sq)
     cases rv2 with
     | cons a1 a2=>
      rename_i uk us2
      cases a2 with
      | cons b1 b2=>
       rename_i uv us3
       cases b2
       refine ⟨(pp.1,wv)::pv,(pp.1,uv)::pu,by simp[e1],.cons ⟨rfl,b1⟩ e2,?_,fun i qq hi=> ?_⟩
       ·rw[List.filterMap_cons,ep]
        obtain ⟨kk,tt⟩:=pp
        exact .cons rv' e3
       ·cases i with
        | zero=>
         simp at hi
         subst hi
         exact ⟨_,rfl,ta,uk,rfl,pl2,qej a1⟩
        | succ i=>
         obtain ⟨v,h1,h2⟩:=e4 i qq (by simpa using hi)
         exact ⟨v,by simpa using h1,h2⟩
 obtain ⟨pv,pu,f1,f2,f3,f4⟩:=each q.2 vs its hcc.2 rq rv
 have lpu:pv.length=pu.length:=f2.length
 refine qiT (knd:=qaI X.prog X.w) (ps:=pu) hh el (by lia) (by lia) f4 fun h' tk hD kp=> ?_
 have all: ∀(ps:List (Key×T)) (pv:List (Key×V)) (pu:List (Key×Value)) (dt:List (Key×T)) (dv:List (Key×V)) (du:List (Key×Value)),qbc M.K B1 ps pv→KV pv pu→qbc M.K B1 dt dv→KV dv du→qbc M.K B1 (ps.foldl (fun d p=>qdl d p.1 p.2) dt) (pv.foldl (fun d p=>qdk d p.1 p.2) dv)∧KV (pv.foldl (fun d p=>qdk d p.1 p.2) dv) (qlP du pu):=by
  intro ps
  induction ps with
  | nil=>
   intro pv pu dt dv du r k rd kd
   have:=r.inv0
   subst this
   cases k
   exact ⟨rd,kd⟩
  | cons p ps ih=>
   intro pv pu dt dv du r k rd kd
   obtain ⟨kk,tt⟩:=p
   obtain ⟨v,rr,rfl,rv,rps⟩:=r.inv
   cases k with
   | cons a b=>
    rename_i qq qs
    obtain ⟨qk,qv⟩:=qq
    have ek:kk=qk:=a.1
    subst ek
    exact ih rr qs _ _ _ rps b (rd.put rv) (kd.put kk a.2)
 obtain ⟨rD,kD⟩:=all _ pv pu [] [] [] f3 f2 .nil .nil
 have len: ∀(pv:List (Key×V)) (dv:List (Key×V)),(pv.foldl (fun d p=>qdk d p.1 p.2) dv).length≤dv.length+pv.length:=by
  intro pv
  induction pv with
  | nil=>intro dv; exact Nat.le_refl _
  | cons p pv ih=>
   intro dv
   have h1:=ih (qdk dv p.1 p.2)
   have h2:=qcH dv p.1 p.2
   rw[List.foldl_cons,List.length_cons]
   lia
 have fD:H1 s1.heap.objs.size=none:=I1.hok.fresh (Nat.le_refl _)
 have sm:(s1.heap.objs.size==sysModules)=false:=by simpa using Nat.ne_of_gt I1.big
 have I3:Inv X pins σ (upd H1 s1.heap.objs.size (.dK (pv.foldl (fun d p=>qdk d p.1 p.2) []))) { s1 with heap:=h',toks:=tk }:=by
  refine I1.laid (h':=h') (t':=tk) kp (Nat.le_refl _) (qnC ?_ sm kD hD)
  have h1:=len pv []
  rw[List.length_nil,Nat.zero_add] at h1
  have h2:=hcc.1.2
  have h3:(1000:Nat)≤sizeLine:=by rw[sizeLine_eq]; decide
  lia
 obtain ⟨g2,m2⟩:=ev1.nown (o:=.dK (pv.foldl (fun d p=>qdk d p.1 p.2) [])) fD
 have bp:B1 s1.heap.objs.size=none:=by
  cases q:B1 s1.heap.objs.size with
  | none=>rfl
  | some u=>rw[ev1.bh _ _ q] at fD; cases fD
 exact ⟨.ref s1.heap.objs.size,_,I3,rfl,w1 _ _ _ _ (g1.trans g2) m2 (qbG g1.gx fD) bp qak rD⟩
end
end PL
end
section
namespace PL
open PySem L2
def hid (H:Hp) (p:Addr):Hp:=fun a=>if a=p then none else H a
theorem qff {H:Hp} {p:Addr}:hid H p p=none:=by simp[hid]
theorem qbH {H:Hp} {p a:Addr} (h:a≠p):hid H p a=H a:=by simp[hid,h]
theorem qcp {H:Hp} {p a:Addr} {o:HO} (h:hid H p a=some o):H a=some o∧a≠p:=by
 unfold hid at h
 split at h
 ·cases h
 ·rename_i n; exact ⟨h,n⟩
def Sl.inn:Sl→Sl
 | .od k=>.pd k
 | .ou k=>.pu k
 | s=>s
def Sl.out:Sl→Sl
 | .pd k=>.od k
 | .pu k=>.ou k
 | s=>s
def Sl.isP:Sl→Bool
 | .pd _=>true
 | .pu _=>true
 | _=>false
def Sl.isD:Sl→Bool
 | .pd _=>true
 | .pu _=>true
 | .od _=>true
 | .ou _=>true
 | _=>false
def DAt (K:PySem.W.Frag) (H B:Hp) (p:Addr):Sl→Prop
 | .od k=> ∃us,H p=some (.dK us)∧qbc K B k us
 | .pd k=> ∃us,H p=some (.dK us)∧qbc K B k us
 | .ou k=> ∃us,H p=some (.dT us)∧qbr K B k us
 | .pu k=> ∃us,H p=some (.dT us)∧qbr K B k us
 | _=>False
theorem DAt.isD {K:PySem.W.Frag} {H B:Hp} {p:Addr} {s:Sl} (h:DAt K H B p s):s.isD=true:=by cases s<;>first | rfl | exact h.elim
theorem DAt.inn {K:PySem.W.Frag} {H B:Hp} {p:Addr} {s:Sl} (h:DAt K H B p s):DAt K H B p s.inn:=by cases s<;>exact h
theorem DAt.out {K:PySem.W.Frag} {H B:Hp} {p:Addr} {s:Sl} (h:DAt K H B p s):DAt K H B p s.out:=by cases s<;>exact h
theorem DAt.ne {K:PySem.W.Frag} {H B:Hp} {p:Addr} {s:Sl} (h:DAt K H B p s):H p≠none∧∀ps,H p≠some (.tbl ps):=by
 cases s with
 | od k=>obtain ⟨us,a,b⟩:=h; rw[a]; exact ⟨by simp,by simp⟩
 | pd k=>obtain ⟨us,a,b⟩:=h; rw[a]; exact ⟨by simp,by simp⟩
 | ou k=>obtain ⟨us,a,b⟩:=h; rw[a]; exact ⟨by simp,by simp⟩
 | pu k=>obtain ⟨us,a,b⟩:=h; rw[a]; exact ⟨by simp,by simp⟩
 | _=>exact h.elim
theorem qjo {K:PySem.W.Frag} {H0 H B:Hp} {pa:Addr} {s:Sl} {o:Option V} (h:qgq K H0 H B pa s o) (hd:s.isD=true): ∃p,o=some (.ref p)∧H0 p=none∧B p=none∧DAt K H B p s∧(s.isP=true→p=pa):=by
 cases s with
 | od k=>obtain ⟨p,us,a,b,c,d,e⟩:=h; exact ⟨p,a,b,c,⟨us,d,e⟩,fun z=>by cases z⟩
 | ou k=>obtain ⟨p,us,a,b,c,d,e⟩:=h; exact ⟨p,a,b,c,⟨us,d,e⟩,fun z=>by cases z⟩
 | pd k=>obtain ⟨p,us,z,a,b,c,d,e⟩:=h; exact ⟨p,a,b,c,⟨us,d,e⟩,fun _=>z⟩
 | pu k=>obtain ⟨p,us,z,a,b,c,d,e⟩:=h; exact ⟨p,a,b,c,⟨us,d,e⟩,fun _=>z⟩
 | _=>cases hd
theorem qjn {K:PySem.W.Frag} {H0 H B:Hp} {pa p:Addr} {s:Sl} (h0:H0 p=none) (hb:B p=none) (h:DAt K H B p s) (hp:s.isP=true→p=pa):qgq K H0 H B pa s (some (.ref p)):=by
 cases s with
 | od k=>obtain ⟨us,d,e⟩:=h; exact ⟨p,us,rfl,h0,hb,d,e⟩
 | ou k=>obtain ⟨us,d,e⟩:=h; exact ⟨p,us,rfl,h0,hb,d,e⟩
 | pd k=>obtain ⟨us,d,e⟩:=h; exact ⟨p,us,hp rfl,rfl,h0,hb,d,e⟩
 | pu k=>obtain ⟨us,d,e⟩:=h; exact ⟨p,us,hp rfl,rfl,h0,hb,d,e⟩
 | _=>exact h.elim
def Sl.ret:Sl→Bool
 | .fz _=>true
 | .ow _=>true
 | _=>false
theorem qhq {K:PySem.W.Frag} {H0 H B:Hp} {pa pa':Addr} {s:Sl} {o:Option V} (r:s.ret=true) (h:qgq K H0 H B pa s o):qgq K H0 H B pa' s o:=by
 cases s<;>first | exact h | cases r
def qra (M:Md) (H0 B:Hp) (p:Addr) (Q:VK) (r:Rs (Sl×Sl)):Prop:=Wnt M H0 (fun r=> ∀v H' B',qa0 H0 B H' B'→M.G.P H'→r.1.ret=true→qgq M.K H0 H' B' 0 r.1 (some v)→B' p=none→DAt M.K H' B' p r.2→Q v H') r
def spQ (K:PySem.W.Frag) (G:Gam) (C:Str→Addr) (f:List T→Sl→Rs (Sl×Sl)):Sp:=fun vs H Q E=> ∃B ts s p vs0,vs=vs0++[.ref p]∧Le B H∧(∀a ps,B a≠some (.tbl ps))∧G.P H∧qaL K B ts vs0∧B p=none∧DAt K H B p s∧
 qra ⟨K,G,E,C,0⟩ (hid H p) B p Q (f ts s)
def qrl (ρ:Ro) (n:Nat) (r:Sl):Rs (Sl×Sl):=match ρ[n]? with | some s=>if r.ret=true∧s.isP=true then .ok (r,s.out) else .no | none=>.no
def qi9 (n:Nat):Out→Rs (Sl×Sl)
 | .rs r ρ=>qrl ρ n r
 | .nx ρ=>qrl ρ n (.fz .non)
 | _=>.no
def fnQ (n N:Nat) (d:Ro→Rs Out):List T→Sl→Rs (Sl×Sl):=fun ts s=>if ts.length=n∧n<N then d (ts.map .fz++s.inn::List.replicate (N - n - 1) .no)>>=qi9 n else .no
section
variable {K:PySem.W.Frag} {G:Gam} {C:Str→Addr} {E:XK}
theorem qkO {H B:Hp} {ts:List T} {vs:List V} {N:List Str} {p:Addr} {s:Sl} (le:Le B H) (bt: ∀a ps,B a≠some (.tbl ps)) (m:G.P H) (r:qaL K B ts vs) (hN:ts.length<N.length) (hb:B p=none) (hs:DAt K H B p s):
  Ev ⟨K,G,E,C,p⟩ (hid H p) B (ts.map .fz++s.inn::List.replicate (N.length - ts.length - 1) .no) (start N (vs++[.ref p])) H B:=by
 have hl:=r.length
 refine ⟨⟨⟨fun a o h _=>(qcp h).1,fun a h z=>h (by unfold hid; split<;>first | rfl | exact z)⟩,.refl _,le,bt,fun _ _ _ _ _=>rfl⟩,m,by simp[L2.start,hl]; lia,fun i u e=> ?_,fun i j si sj q hij ei ej oi oj=> ?_⟩
 ·by_cases hi:i<ts.length
  ·rw[List.getElem?_append_left (by simpa using hi),List.getElem?_map] at e
   cases q:ts[i]? with
   | none=>rw[q] at e; cases e
   | some t=>
    rw[q] at e; cases e
    obtain ⟨v,ev,rv⟩:=r.get q
    refine ⟨v,?_,rv⟩
    unfold L2.start
    rw[List.getElem?_append_left (by simp; lia),List.getElem?_map,List.getElem?_append_left (by lia),ev]
    rfl
  ·rw[List.getElem?_append_right (by simpa using hi)] at e
   simp only[List.length_map] at e
   by_cases h0:i=ts.length
   ·subst h0
    rw[Nat.sub_self] at e
    cases e
    unfold L2.start
    rw[List.getElem?_append_left (by simp; lia),List.getElem?_map,List.getElem?_append_right (by lia),hl,Nat.sub_self]
    exact qjn qff hb hs.inn fun _=>rfl
   ·obtain ⟨k,hk⟩: ∃k,i - ts.length=k+1:=⟨i - ts.length - 1,by lia⟩
    rw[hk,List.getElem?_cons_succ,List.getElem?_replicate] at e
    split at e
    ·cases e; trivial
    ·cases e
 ·have one: ∀(l:Nat) (u:Sl),(ts.map Sl.fz++s.inn::List.replicate (N.length - ts.length - 1) Sl.no)[l]? =some u→u.own=true→l=ts.length:=fun l u el ol=>by
   by_cases hi:l<ts.length
   ·rw[List.getElem?_append_left (by simpa using hi),List.getElem?_map] at el
    cases q:ts[l]? with
    | none=>rw[q] at el; cases el
    | some t=>rw[q] at el; cases el; cases ol
   ·rw[List.getElem?_append_right (by simpa using hi)] at el
    simp only[List.length_map] at el
    by_cases h0:l=ts.length
    ·exact h0
    ·obtain ⟨k,hk⟩: ∃k,l - ts.length=k+1:=⟨l - ts.length - 1,by lia⟩
     rw[hk,List.getElem?_cons_succ,List.getElem?_replicate] at el
     split at el
     ·cases el; cases ol
     ·cases el
  exact absurd ((one i si ei oi).trans (one j sj ej oj).symm) hij
theorem qhB {n:Nat} {r:Sl} {ρ:Ro} {k:Sl×Sl→Prop} {M:Md} {H0:Hp} (w:Wnt M H0 k (qrl ρ n r)): ∃s,ρ[n]? =some s∧r.ret=true∧s.isP=true∧k (r,s.out):=by
 unfold qrl at w
 split at w
 ·rename_i s e
  split at w
  ·rename_i c; exact ⟨s,e,c.1,c.2,w⟩
  ·exact w.elim
 ·exact w.elim
theorem qkz {s:Sl} (h:s.isP=true):s.isD=true:=by cases s<;>first | rfl | cases h
theorem qkM {d:Ro→Rs Out} {n:Nat} {N:List Str} {vs:List V} {H:Hp} {Q:VK} (h:spQ K G C (fnQ n N.length d) vs H Q E): ∃p,tS ⟨K,G,E,C,p⟩ d { nx:=fun _ H'=>Q .non H',rt:=Q } (start N vs) H:=by
 obtain ⟨B,ts,s,p,vs0,rfl,le,bt,m,r,hb,hs,w⟩:=h
 refine ⟨p,?_⟩
 unfold qra fnQ at w
 split at w
 ·rename_i hl
  obtain ⟨hl,hn⟩:=hl
  subst hl
  refine ⟨_,B,_,B,qkO le bt m r hn hb hs,?_⟩
  have w:=Wnt.bind w
  cases q:d (ts.map .fz++s.inn::List.replicate (N.length - ts.length - 1) .no) with
  | no=>rw[q] at w; exact w
  | ex c=>rw[q] at w; exact w
  | ok o=>
   rw[q] at w
   have w1:Wnt ⟨K,G,E,C,0⟩ (hid H p) _ (qi9 ts.length o):=w
   cases o with
   | rt t=>exact w1.elim
   | bk ρ=>exact w1.elim
   | ct ρ=>exact w1.elim
   | nx ρ=>
    obtain ⟨s',e1,_,e2,k⟩:=qhB w1
    intro σ' H' B' ev _
    obtain ⟨p',a1,a2,a3,a4,a5⟩:=qjo (ev.sl _ _ e1) (qkz e2)
    have:=a5 e2; subst this
    exact k .non H' B' ev.gr ev.gm rfl ⟨_,rfl,by unfold Rep; rfl⟩ a3 a4.out
   | rs r ρ=>
    obtain ⟨s',e1,er,e2,k⟩:=qhB w1
    intro v σ' H' B' ev _
    have e1':(r::ρ)[ts.length+1]? =some s':=by simpa using e1
    obtain ⟨p',a1,a2,a3,a4,a5⟩:=qjo (ev.sl _ _ e1') (qkz e2)
    have:=a5 e2; subst this
    exact k v H' B' ev.gr ev.gm er (qhq er (ev.sl 0 r rfl)) a3 a4.out
 ·exact w.elim
theorem qn3 {d:Ro→Rs Out} {n N:Nat} {vs:List V} {H:Hp} {Q:VK} (h:spQ K G C (fnQ n N d) vs H Q E):vs.length=n+1:=by
 obtain ⟨B,ts,s,p,vs0,rfl,le,bt,m,r,hb,hs,w⟩:=h
 unfold qra fnQ at w
 split at w
 ·rename_i hl
  rw[List.length_append,r.length,hl.1]; rfl
 ·exact w.elim
end
section
variable {P:Program} {w:World} {K:PySem.W.Frag} {mg:Str→Option Value} {base:Heap} {G:Gam} {C:Str→Addr}
theorem qdE {x qual:Str} {st:Stmt} {f:Addr} {fd:FuncData} {N ps:List Str} {n k:Nat} {d:Ro→Rs Out} (F:Fun K x qual st f fd) (S:qav N ps (qaf st)) (hn:ps.length=n+1)
  (hbody: ∀(cdv:Value) (A:Around) (outer:List Env) (s:Shared) (H:Hp) (E:XK) (p:Addr),qbW k (A.deeper (PyProof.Rows.envOfC qual (qaf st) s.heap.objs.size f cdv))→
   DSs ⟨K,G,E,C,p⟩ (qmU CX0 P w K mg base N qual (qaf st) f cdv A outer s H E).nox (qbd st) d):qbe P w K mg base CX0 (k+1) f fd ps (spQ K G C (fnQ n N.length d)):=by
 exact F.ok S (fun vs H Q E h=>by rw[hn]; exact qn3 h) fun cdv A outer s H vs Q E hr h=>by
  obtain ⟨p,q⟩:=qkM h
  exact ⟨_,hbody cdv A outer s H E p hr,q⟩
def KnQ (P:Program) (w:World) (K:PySem.W.Frag) (mg:Str→Option Value) (base:Heap) (G:Gam) (C:Str→Addr) (x:Str) (ps:List Str) (k:Nat) (fQ:List T→Sl→Rs (Sl×Sl)):Prop:=
 ∃f fd,qbe P w K mg base CX0 k f fd ps (spQ K G C fQ)∧mg x=some (.ref f)∧PySem.W.keepIn K (.ref f)=true∧qdy K fd ps []
end
section
variable {M:Md} {H0 B0 H B H' B':Hp} {ρ:Ro} {σ:St}
theorem Ev.getD' (v:Ev M H0 B0 ρ σ H B) {i:Nat} {s:Sl} (e:ρ[i]? =some s) (hd:s.isD=true): ∃p,σ[i]? =some (some (.ref p))∧H0 p=none∧B p=none∧DAt M.K H B p s∧(s.isP=true→p=M.pa):=by
 obtain ⟨p,e1,r⟩:=qjo (v.sl i _ e) hd
 refine ⟨p,?_,r⟩
 cases q:σ[i]? with
 | none=>rw[q] at e1; cases e1
 | some o=>rw[q] at e1; cases o with
  | none=>cases e1
  | some y=>cases e1; rfl
theorem qgS {s:Sl} (h:s.isD=true):s.own=true:=by cases s<;>first | rfl | cases h
theorem qlT {K:PySem.W.Frag} {pa p:Addr} {s:Sl} {o:Option V} (h:qgq K H0 H B pa s o) (g:qa0 (hid H p) B H' B') (ne:s.own=true→o≠some (.ref p)):qgq K H0 H' B' pa s o:=by
 have key: ∀{q:Addr} {u:HO},o=some (.ref q)→s.own=true→H q=some u→(∀ps,u≠.tbl ps)→(∀vs,u≠.tup vs)→B q=none→H' q=some u∧B' q=none:=fun {q u} eo so hq nt nt2 hb=>by
  have nq:q≠p:=fun z=>ne so (by rw[eo,z])
  have hh:hid H p q=some u:=by rw[qbH nq]; exact hq
  exact ⟨g.gx.hh _ _ hh nt,by rw[g.nw q u hh nt2 nt]; exact hb⟩
 cases s with
 | no=>trivial
 | fz t=>obtain ⟨v,e,r⟩:=h; exact ⟨v,e,r.mono g.bb⟩
 | ow ts=>
  obtain ⟨q,vs,e,h0,hb,hp,r⟩:=h
  obtain ⟨a,b⟩:=key e rfl hp (fun ps z=>by cases z) (fun ps z=>by cases z) hb
  exact ⟨q,vs,e,h0,b,a,r.mono g.bb⟩
 | od ts=>
  obtain ⟨q,vs,e,h0,hb,hp,r⟩:=h
  obtain ⟨a,b⟩:=key e rfl hp (fun ps z=>by cases z) (fun ps z=>by cases z) hb
  exact ⟨q,vs,e,h0,b,a,r.mono g.bb⟩
 | ou ts=>
  obtain ⟨q,vs,e,h0,hb,hp,r⟩:=h
  obtain ⟨a,b⟩:=key e rfl hp (fun ps z=>by cases z) (fun ps z=>by cases z) hb
  exact ⟨q,vs,e,h0,b,a,r.mono g.bb⟩
 | pd ts=>
  obtain ⟨q,vs,e0,e,h0,hb,hp,r⟩:=h
  obtain ⟨a,b⟩:=key e rfl hp (fun ps z=>by cases z) (fun ps z=>by cases z) hb
  exact ⟨q,vs,e0,e,h0,b,a,r.mono g.bb⟩
 | pu ts=>
  obtain ⟨q,vs,e0,e,h0,hb,hp,r⟩:=h
  obtain ⟨a,b⟩:=key e rfl hp (fun ps z=>by cases z) (fun ps z=>by cases z) hb
  exact ⟨q,vs,e0,e,h0,b,a,r.mono g.bb⟩
theorem qa0.unhid {p:Addr} (g0:qa0 H0 B0 H B) (h0:H0 p=none) (g:qa0 (hid H p) B H' B'):qa0 H0 B0 H' B':=by
 have nz: ∀a,H0 a≠none→a≠p:=fun a z e=>z (by rw[e]; exact h0)
 refine ⟨⟨fun a o h n=> ?_,fun a h=> ?_⟩,g0.bb.trans g.bb,g.bh,g.bt,fun a o h n1 n2=> ?_⟩
 ·have:=g0.gx.hh a o h n
  exact g.gx.hh a o (by rw[qbH (nz a (by rw[h]; simp))]; exact this) n
 ·exact g.gx.dm a (by rw[qbH (nz a h)]; exact g0.gx.dm a h)
 ·rw[g.nw a o (by rw[qbH (nz a (by rw[h]; simp))]; exact g0.gx.hh a o h n2) n1 n2]; exact g0.nw a o h n1 n2
def Sl.like (s s':Sl):Sl:=if s.isP=true then s'.inn else s'.out
theorem qmn {s s':Sl} (h:s.isD=true) (h':s'.isD=true):(s.like s').isP=s.isP∧(s.like s').isD=true:=by
 cases s<;>cases s'<;>first | exact ⟨rfl,rfl⟩ | exact absurd h (by decide) | exact absurd h' (by decide) | exact absurd h Bool.false_ne_true | exact absurd h' Bool.false_ne_true
theorem qoE {K:PySem.W.Frag} {p:Addr} {s s':Sl} (h:DAt K H B p s'):DAt K H B p (s.like s'):=by
 unfold Sl.like
 split
 ·exact h.inn
 ·exact h.out
theorem Ev.behindQ {i:Nat} {p:Addr} {s s':Sl} (v:Ev M H0 B0 ρ σ H B) (e:ρ[i]? =some s) (hd:s.isD=true) (es:σ[i]? =some (some (.ref p))) (g:qa0 (hid H p) B H' B') (m:M.G.P H') (hb:B' p=none) (hs:DAt M.K H' B' p s'):
  Ev M H0 B0 (ρ.set i (s.like s')) σ H' B':=by
 obtain ⟨p',es',h0,hb0,hs0,hp⟩:=v.getD' e hd
 rw[es] at es'; cases es'
 have hi:i<ρ.length:=(List.getElem?_eq_some_iff.mp e).1
 obtain ⟨lp,ld⟩:=qmn hd hs.isD
 have own_at: ∀(l:Nat) (sl:Sl),(ρ.set i (s.like s'))[l]? =some sl→sl.own=true→∃sl',ρ[l]? =some sl'∧sl'.own=true:=fun l sl el ol=>by
  rw[List.getElem?_set] at el
  by_cases q:i=l
  ·subst q; exact ⟨s,e,qgS hd⟩
  ·rw[if_neg q] at el; exact ⟨sl,el,ol⟩
 refine ⟨v.gr.unhid h0 g,m,by simp[v.len],fun j u ej=> ?_,fun j k sj sk q hjk ej ek oj ok a=> ?_⟩
 ·rw[List.getElem?_set] at ej
  by_cases q:i=j
  ·subst q
   rw[if_pos rfl,if_pos hi] at ej
   cases ej
   rw[es]
   exact qjn h0 hb (qoE hs) fun z=>hp (by rw[←lp]; exact z)
  ·rw[if_neg q] at ej
   exact qlT (v.sl j u ej) g fun ou z=>v.ap i j s u p q e ej (qgS hd) ou (by rw[es]; rfl) z
 ·obtain ⟨sj',e1,o1⟩:=own_at j sj ej oj
  obtain ⟨sk',e2,o2⟩:=own_at k sk ek ok
  exact v.ap j k sj' sk' q hjk e1 e2 o1 o2 a
end
section
variable {M:Md} {H0 B0 H B H' B':Hp} {ρ:Ro} {σ:St}
theorem Ev.cons (ev:Ev M H0 B0 ρ σ H B) {s:Sl} {v:V} (hs:qgq M.K H0 H B M.pa s (some v)) (ap:s.own=true→∀(j:Nat) (u:Sl) (p:Addr),ρ[j]? =some u→u.own=true→v= .ref p→σ[j]?.join≠some (.ref p)):Ev M H0 B0 (s::ρ) (some v::σ) H B:=by
 refine ⟨ev.gr,ev.gm,by simp[ev.len],fun i u e=> ?_,fun i j si sj p hij ei ej oi oj a=> ?_⟩
 ·cases i with
  | zero=>cases e; exact hs
  | succ i=>simpa using ev.sl i u (by simpa using e)
 ·cases i with
  | zero=>
   cases j with
   | zero=>exact absurd rfl hij
   | succ j=>
    cases ei
    have a:v= .ref p:=by simpa using a
    simpa using ap oi j sj p (by simpa using ej) oj a
  | succ i=>
   cases j with
   | zero=>
    cases ej
    intro z
    have z:v= .ref p:=by simpa using z
    exact ap oj i si p (by simpa using ei) oi z (by simpa using a)
   | succ j=>simpa using ev.ap i j si sj p (fun z=>hij (by rw[z])) (by simpa using ei) (by simpa using ej) oi oj (by simpa using a)
theorem Ev.store (ev:Ev M H0 B0 (s::ρ) (some v::σ) H B) (j:Nat):Ev M H0 B0 (ρ.set j s) (σ.set j (some v)) H B:=by
 have hl:ρ.length=σ.length:=by simpa using ev.len
 have look: ∀(i:Nat) (u:Sl),(ρ.set j s)[i]? =some u→∃k,(s::ρ)[k]? =some u∧(some v::σ)[k]?.join=(σ.set j (some v))[i]?.join∧(i=j↔k=0)∧(i≠j→k=i+1):=fun i u e=>by
  rw[List.getElem?_set] at e
  by_cases q:j=i
  ·subst q
   rw[if_pos rfl] at e
   split at e
   ·rename_i h
    cases e
    exact ⟨0,rfl,by rw[List.getElem?_set_self (by omega)]; rfl,⟨fun _=>rfl,fun _=>rfl⟩,fun z=>absurd rfl z⟩
   ·cases e
  ·rw[if_neg q] at e
   exact ⟨i+1,by simpa using e,by rw[List.getElem?_set_ne q]; simp,⟨fun z=>absurd z.symm q,fun z=>by omega⟩,fun _=>rfl⟩
 refine ⟨ev.gr,ev.gm,by simp[hl],fun i u e=> ?_,fun i k si sk p hik ei ek oi ok a=> ?_⟩
 ·obtain ⟨m,e1,e2,_⟩:=look i u e
  rw[←e2]
  exact ev.sl m u e1
 ·obtain ⟨m,e1,e2,e3,e4⟩:=look i si ei
  obtain ⟨n,f1,f2,f3,f4⟩:=look k sk ek
  rw[←e2] at a
  rw[←f2]
  refine ev.ap m n si sk p (fun z=>hik ?_) e1 f1 oi ok a
  by_cases c1:i=j
  ·by_cases c2:k=j
   ·rw[c1,c2]
   ·have:=e3.mp c1; have:=f4 c2; omega
  ·by_cases c2:k=j
   ·have:=f3.mp c2; have:=e4 c1; omega
   ·have:=e4 c1; have:=f4 c2; omega
theorem Ev.consNew {Hc Bc:Hp} {s:Sl} {v:V} (evc:Ev M H0 B0 ρ σ Hc Bc) (ev:Ev M H0 B0 ρ' σ H' B') (same: ∀(j:Nat) (u:Sl),ρ'[j]? =some u→u.own=true→∃u',ρ[j]? =some u'∧u'.own=true) (r:s.ret=true) (hs:qgq M.K Hc H' B' 0 s (some v)):Ev M H0 B0 (s::ρ') (some v::σ) H' B':=by
 cases s with
 | fz t=>exact ev.cons hs (fun z=>by cases z)
 | ow ts=>
  obtain ⟨q,vs,e,h0,hb,hp,rr⟩:=hs
  cases e
  refine ev.cons ⟨q,vs,rfl,qbG evc.gr.gx h0,hb,hp,rr⟩ fun _ j u p ej ou ep z=> ?_
  cases ep
  obtain ⟨u',ej',ou'⟩:=same j u ej ou
  obtain ⟨o,ho⟩: ∃o,Hc q=some o:=by
   have:=evc.sl j u' ej'
   cases u' with
   | no=>cases ou'
   | fz t=>cases ou'
   | ow _=>obtain ⟨p',vs',a1,_,_,a4,_⟩:=this; rw[z] at a1; cases a1; exact ⟨_,a4⟩
   | od _=>obtain ⟨p',vs',a1,_,_,a4,_⟩:=this; rw[z] at a1; cases a1; exact ⟨_,a4⟩
   | ou _=>obtain ⟨p',vs',a1,_,_,a4,_⟩:=this; rw[z] at a1; cases a1; exact ⟨_,a4⟩
   | pd _=>obtain ⟨p',vs',_,a1,_,_,a4,_⟩:=this; rw[z] at a1; cases a1; exact ⟨_,a4⟩
   | pu _=>obtain ⟨p',vs',_,a1,_,_,a4,_⟩:=this; rw[z] at a1; cases a1; exact ⟨_,a4⟩
  rw[h0] at ho; cases ho
 | _=>cases r
end
end PL
end
section
namespace PL
open PySem L2
def qez (ρ:Ro) (i:Nat):Rs Sl:=match ρ[i]? with | some s=>if s.isD=true then .ok s else .no | none=>.no
theorem qcQ {ρ:Ro} {i:Nat} {α:Type} {M:Md} {H0:Hp} {k:α→Prop} {f:Sl→Rs α} (w:Wnt M H0 k (qez ρ i>>=f)): ∃s,ρ[i]? =some s∧s.isD=true∧Wnt M H0 k (f s):=by
 unfold qez at w
 cases e:ρ[i]? with
 | none=>rw[e] at w; exact w.elim
 | some s=>
  rw[e] at w
  dsimp only at w
  split at w
  ·exact ⟨s,rfl,by assumption,w⟩
  ·exact w.elim
def tPV (M:Md) (ds:Ro→Rs (List T)) (i:Nat):TA:=fun σ H Q=> ∃H0 B0 ρ B,Ev M H0 B0 ρ σ H B∧(∃s,ρ[i]? =some s∧s.isD=true)∧
 Wnt M H0 (fun ts=> ∀vs p H' B',qa0 H B H' B'→M.G.P H'→qaL M.K B' ts vs→σ[i]? =some (some (.ref p))→Q (vs++[.ref p]) H') (ds ρ)
section
variable {M:Md} {X:Cx} {e a b c:Expr} {es:List Expr} {pos p pos':Pos} {i j k:Nat} {x y:Str} {da db dc:Ro→Rs T} {ds:Ro→Rs (List T)} {ps:List Str} {fQ:List T→Sl→Rs (Sl×Sl)} {fS:List T→Rs Sl} {fT:List T→Rs T} {dl:Ro→Rs (List T)}
theorem qes (h:PE X e (qho i)) (hst:starEach [e] X.env=(false,eval e X.env)::starEach [] X.env:=by rfl):PA X [e] (tPV M qan i):=by
 refine PA.weak (qar h qaH hst) fun σ H Q hq=> ?_
 obtain ⟨H0,B0,ρ,B,ev,⟨s,es,hd⟩,w⟩:=hq
 obtain ⟨p,e1,_⟩:=ev.getD' es hd
 exact ⟨.ref p,e1,w [] p H B (.refl ev.bh ev.bt) ev.gm .nil e1⟩
theorem qb3 (ha:DE M X e da) (hs:PA X es (tPV M ds i)) (hst:starEach (e::es) X.env=(false,eval e X.env)::starEach es X.env:=by rfl):PA X (e::es) (tPV M (qab da ds) i):=by
 refine PA.weak (qar ha hs hst) fun σ H Q hq=> ?_
 obtain ⟨H0,B0,ρ,B,ev,hd,w⟩:=hq
 refine tP.of ev (Wnt.mono (Wnt.bind w) fun x w1 v H1 B1 g1 m1 r1=> ?_)
 refine ⟨H0,B0,ρ,B1,ev.grow g1 m1,hd,Wnt.mono (Wnt.bind w1) fun xs w2 u p H2 B2 g2 m2 r2 e2=> ?_⟩
 exact w2 (v::u) p H2 B2 (g1.trans g2) m2 (.cons (r1.mono g2.bb) r2) e2
def tU (M:Md) (i:Nat) (ds:Ro→Rs (List T)) (fQ:List T→Sl→Rs (Sl×Sl)):TE:=fun σ H Q=> ∃H0 B0 ρ B,Ev M H0 B0 ρ σ H B∧
 Wnt M H0 (fun r:Sl×Ro=> ∀v H' B',Ev M H0 B0 (r.1::r.2) (some v::σ) H' B'→Le B B'→Q v H') (qez ρ i>>=fun s=>ds ρ>>=fun ts=>fQ ts s>>=fun r=>.ok (r.1,ρ.set i (s.like r.2)))
theorem qin {K:PySem.W.Frag} {H H' B':Hp} {p:Addr} {s u:Sl} {v:V} (r:s.ret=true) (h:qgq K (hid H p) H' B' 0 s (some v)) (d:DAt K H' B' p u):qgq K H H' B' 0 s (some v):=by
 cases s with
 | fz t=>exact h
 | ow ts=>
  obtain ⟨q,vs,e,h0,hb,hp,rr⟩:=h
  refine ⟨q,vs,e,?_,hb,hp,rr⟩
  rw[qbH (fun z=> ?_)] at h0
  ·exact h0
  ·subst z
   cases u with
   | od k=>obtain ⟨us,a,_⟩:=d; rw[hp] at a; cases a
   | pd k=>obtain ⟨us,a,_⟩:=d; rw[hp] at a; cases a
   | ou k=>obtain ⟨us,a,_⟩:=d; rw[hp] at a; cases a
   | pu k=>obtain ⟨us,a,_⟩:=d; rw[hp] at a; cases a
   | _=>exact d.elim
 | _=>cases r
theorem qeW {σ:St} {H:Hp} {Q:VK} (h:tU M i ds fQ σ H Q):qgy (spQ M.K M.G M.C fQ) [] M.E (tPV M ds i) σ H Q:=by
 obtain ⟨H0,B0,ρ,B,ev,w⟩:=h
 obtain ⟨s,e1,hd,w⟩:=qcQ w
 refine ⟨H0,B0,ρ,B,ev,⟨s,e1,hd⟩,Wnt.mono (Wnt.bind w) fun ts w1 vs p H1 B1 g1 m1 r1 es=> ?_⟩
 have ev1:=ev.grow g1 m1
 obtain ⟨p',es',h0,hb,hs,_⟩:=ev1.getD' e1 hd
 rw[es] at es'; cases es'
 refine ⟨B1,ts,s,p,vs,by rw[List.append_nil],ev1.bh,ev1.bt,m1,r1,hb,hs,?_⟩
 have w1:=Wnt.bind w1
 unfold qra
 cases q:fQ ts s with
 | no=>rw[q] at w1; exact w1
 | ok r=>
  rw[q] at w1
  intro v H' B' g m er hr hb' hs'
  refine w1 v H' B' (ev1.consNew (ev1.behindQ e1 hd es g m hb' hs') (fun j u ej ou=> ?_) er (qin er hr hs')) (g1.bb.trans g.bb)
  rw[List.getElem?_set] at ej
  by_cases c:i=j
  ·subst c; exact ⟨s,e1,qgS hd⟩
  ·rw[if_neg c] at ej; exact ⟨u,ej,ou⟩
 | ex c=>
  rw[q] at w1
  refine fun H' g m=>w1 H' ⟨fun a o h n=> ?_,fun a h=> ?_⟩ m
  ·have:=ev1.gr.gx.hh a o h n
   exact g.hh a o (by rw[qbH (fun z=>by subst z; rw[h0] at h; cases h)]; exact this) n
  ·exact g.dm a (by rw[qbH (fun z=>h (by rw[z]; exact h0))]; exact ev1.gr.gx.dm a h)
theorem qmf (F:KnQ X.prog X.w X.K X.mg X.base M.G M.C x ps k fQ) (hK:X.K=M.K) (hr:qbW k X.A) (hg:Gl X x) (ha:PA X (e::es) (tPV M ds i)) (hdb:(x==("__debug__" :Str))=false:=by decide)
  (he:starEach (e::es) X.env=(false,eval e X.env)::starEach es X.env:=by rfl) (hpl:(backTo pos (starEach es X.env)).any (·.1)=false:=by rfl):PE X (.Call (.Name x p) (e::es) [] pos) (tU M i ds fQ):=by
 obtain ⟨f,fd,G,m,kk,bb⟩:=F
 rw[hK] at G
 exact PE.weak (qdo (by rw[hK]; exact G) hr hg m kk bb .nil qiv ha hdb he hpl) fun σ H Q h=>qeW h
def qk6 (j i:Nat) (ds:Ro→Rs (List T)) (fQ:List T→Sl→Rs (Sl×Sl)):Ro→Rs Out:=fun ρ=>qez ρ i>>=fun s=>ds ρ>>=fun ts=>fQ ts s>>=fun r=>.ok (.nx ((ρ.set i (s.like r.2)).set j r.1))
theorem qoW (hN:X.N.Nodup) (hi:X.N[j]? =some x) (hx:Loc X.env.scope x) (h:PE X e (tU M i ds fQ)) (hs:swapsWith e (some (.Name x pos')) pos.line X.env=pure false:=by rfl) (hf:X.fn x=true∨X.env.scope.names.lookup x=some .local:=by first | exact .inl rfl | exact .inr rfl | assumption):
  DS M X (.Assign [.Name x pos'] e pos) (qk6 j i ds fQ):=by
 refine PS.weak (qfF hN hi hx h hs hf) fun D σ H hq=> ?_
 obtain ⟨H0,B0,ρ,B,ev,w⟩:=hq
 refine ⟨H0,B0,ρ,B,ev,?_⟩
 unfold qk6 at w
 cases q1:qez ρ i with
 | no=>rw[q1] at w; exact w
 | ex c=>rw[q1] at w; exact w
 | ok s=>
  rw[q1] at w
  rw[qad] at w⊢
  cases q2:ds ρ with
  | no=>rw[q2] at w; exact w
  | ex c=>rw[q2] at w; exact w
  | ok ts=>
   rw[q2] at w
   rw[qad] at w⊢
   cases q3:fQ ts s with
   | no=>rw[q3] at w; exact w
   | ex c=>rw[q3] at w; exact w
   | ok r=>
    rw[q3] at w
    exact fun v H' B' ev' le=>w _ H' B' (ev'.store j) le
def qpj (i:Nat) (ds:Ro→Rs (List T)) (fQ:List T→Sl→Rs (Sl×Sl)):Ro→Rs Out:=fun ρ=>qez ρ i>>=fun s=>ds ρ>>=fun ts=>fQ ts s>>=fun r=>.ok (.rs r.1 (ρ.set i (s.like r.2)))
def qbL (dl:Ro→Rs (List T)):Ro→Rs Out:=fun ρ=>dl ρ>>=fun ts=>.ok (.rs (.ow ts) ρ)
theorem qcl (h:DF M X e dl):DS M X (.Return (some e) pos) (qbL dl):=by
 refine PS.weak (qcv h) fun D σ H hq=> ?_
 obtain ⟨H0,B0,ρ,B,ev,w⟩:=hq
 exact tF.of ev (Wnt.mono (Wnt.bind w) fun ts w1 p vs H1 B1 g1 m1 hp hb hl r1=>w1 (.ref p) σ H1 B1 (ev.consNew (ev.grow g1 m1) (fun j u ej ou=>⟨u,ej,ou⟩) rfl ⟨p,vs,rfl,hp,hb,hl,r1⟩) g1.bb)
def qf7 (i:Nat):Ro→Rs Out:=fun ρ=>match ρ[i]? with | some (.ow ts)=>.ok (.rs (.ow ts) (ρ.set i .no)) | _=>.no
theorem Ev.drop {H0 B0 H B:Hp} {ρ:Ro} {σ:St} (ev:Ev M H0 B0 ρ σ H B) (i:Nat):Ev M H0 B0 (ρ.set i .no) σ H B:=by
 have look: ∀(j:Nat) (u:Sl),(ρ.set i .no)[j]? =some u→u= .no∨ρ[j]? =some u:=fun j u e=>by
  rw[List.getElem?_set] at e
  split at e
  ·split at e
   ·exact .inl (Option.some.inj e).symm
   ·cases e
  ·exact .inr e
 refine ⟨ev.gr,ev.gm,by simp[ev.len],fun j u e=> ?_,fun j k sj sk p hjk ej ek oj ok a=> ?_⟩
 ·rcases look j u e with rfl | e
  ·trivial
  ·exact ev.sl j u e
 ·rcases look j sj ej with rfl | ej
  ·cases oj
  ·rcases look k sk ek with rfl | ek
   ·cases ok
   ·exact ev.ap j k sj sk p hjk ej ek oj ok a
theorem qdu (h:PE X e (qho i)):DS M X (.Return (some e) pos) (qf7 i):=by
 refine PS.weak (qcv h) fun D σ H hq=> ?_
 obtain ⟨H0,B0,ρ,B,ev,w⟩:=hq
 unfold qf7 at w
 split at w
 ·rename_i ts e1
  obtain ⟨p,vs,es,h0,hb,hp,rr⟩:=ev.getOw e1
  refine ⟨.ref p,es,w (.ref p) σ H B ((ev.drop i).cons ⟨p,vs,rfl,h0,hb,hp,rr⟩ fun _ j u q ej ou ep z=> ?_) (.refl _)⟩
  cases ep
  rw[List.getElem?_set] at ej
  split at ej
  ·split at ej
   ·cases ej; cases ou
   ·cases ej
  ·rename_i c
   exact ev.ap i j (.ow ts) u p c e1 ej rfl ou (by rw[es]; rfl) z
 ·exact w.elim
def spS (K:PySem.W.Frag) (G:Gam) (C:Str→Addr) (f:List T→Rs Sl):Sp:=fun vs H Q E=> ∃B ts,Le B H∧(∀a ps,B a≠some (.tbl ps))∧G.P H∧qaL K B ts vs∧
 Wnt ⟨K,G,E,C,0⟩ H (fun s=> ∀v H' B',qa0 H B H' B'→G.P H'→s.ret=true→qgq K H H' B' 0 s (some v)→Q v H') (f ts)
def qoo:Out→Rs Sl
 | .rs s _=>if s.ret=true then .ok s else .no
 | .rt t=>.ok (.fz t)
 | .nx _=>.ok (.fz .non)
 | _=>.no
def fnS (n N:Nat) (d:Ro→Rs Out):List T→Rs Sl:=fun ts=>if ts.length=n then d (ts.map .fz++List.replicate (N - n) .no)>>=qoo else .no
theorem qkL {K:PySem.W.Frag} {G:Gam} {C:Str→Addr} {E:XK} {d:Ro→Rs Out} {n:Nat} {N:List Str} {vs:List V} {H:Hp} {Q:VK} (hn:n≤N.length) (h:spS K G C (fnS n N.length d) vs H Q E):tS ⟨K,G,E,C,0⟩ d { nx:=fun _ H'=>Q .non H',rt:=Q } (start N vs) H:=by
 obtain ⟨B,ts,le,bt,m,r,w⟩:=h
 unfold fnS at w
 split at w
 ·rename_i hl
  refine ⟨H,B,_,B,qhY le bt m r (by omega),?_⟩
  rw[hl]
  refine Wnt.mono (Wnt.bind w) fun o w1=> ?_
  cases o with
  | rt t=>exact fun v H' B' g m r=>w1 v H' B' g m rfl ⟨v,rfl,r⟩
  | nx ρ=>exact fun σ' H' B' ev _=>w1 .non H' B' ev.gr ev.gm rfl ⟨_,rfl,by unfold Rep; rfl⟩
  | bk ρ=>exact w1.elim
  | ct ρ=>exact w1.elim
  | rs s ρ=>
   have w1:Wnt ⟨K,G,E,C,0⟩ H _ (if s.ret=true then .ok s else .no):=w1
   split at w1
   ·rename_i er
    exact fun v σ' H' B' ev _=>w1 v H' B' ev.gr ev.gm er (qhq er (ev.sl 0 s rfl))
   ·exact w1.elim
 ·exact w.elim
theorem qn2 {K:PySem.W.Frag} {G:Gam} {C:Str→Addr} {E:XK} {d:Ro→Rs Out} {n N:Nat} {vs:List V} {H:Hp} {Q:VK} (h:spS K G C (fnS n N d) vs H Q E):vs.length=n:=by
 obtain ⟨B,ts,le,bt,m,r,w⟩:=h
 unfold fnS at w
 split at w
 ·rename_i hl
  rw[r.length]; exact hl
 ·exact w.elim
theorem qeR {P:Program} {w:World} {K:PySem.W.Frag} {mg:Str→Option Value} {base:Heap} {G:Gam} {C:Str→Addr} {x qual:Str} {st:Stmt} {f:Addr} {fd:FuncData} {N ps:List Str} {k:Nat} {d:Ro→Rs Out} (F:Fun K x qual st f fd) (S:qav N ps (qaf st))
  (hbody: ∀(cdv:Value) (A:Around) (outer:List Env) (s:Shared) (H:Hp) (E:XK),qbW k (A.deeper (PyProof.Rows.envOfC qual (qaf st) s.heap.objs.size f cdv))→
   DSs ⟨K,G,E,C,0⟩ (qmU CX0 P w K mg base N qual (qaf st) f cdv A outer s H E).nox (qbd st) d):qbe P w K mg base CX0 (k+1) f fd ps (spS K G C (fnS ps.length N.length d)):=by
 have hpl:ps.length≤N.length:=by have:=congrArg List.length S.pre; rw[List.length_take] at this; omega
 exact F.ok S (fun vs H Q E h=>qn2 h) fun cdv A outer s H vs Q E hr h=>⟨_,hbody cdv A outer s H E hr,qkL hpl h⟩
def KnS (P:Program) (w:World) (K:PySem.W.Frag) (mg:Str→Option Value) (base:Heap) (G:Gam) (C:Str→Addr) (x:Str) (ps:List Str) (k:Nat) (fS:List T→Rs Sl):Prop:=
 ∃f fd,qbe P w K mg base CX0 k f fd ps (spS K G C fS)∧mg x=some (.ref f)∧PySem.W.keepIn K (.ref f)=true∧qdy K fd ps []
def qs3:Sl→Rs T
 | .fz t=>.ok t
 | .ow ts=>.ok (.lst ts)
 | _=>.no
def qrc (fS:List T→Rs Sl):List T→Rs T:=fun ts=>fS ts>>=qs3
theorem qlU {K:PySem.W.Frag} {H B H' B':Hp} {s:Sl} {v:V} (g:qa0 H B H' B') (r:s.ret=true) (h:qgq K H H' B' 0 s (some v)): ∃t B2,qs3 s= .ok t∧qa0 H B H' B2∧Rep K B2 t v:=by
 cases s with
 | fz t=>obtain ⟨x,e,r⟩:=h; cases e; exact ⟨t,B',rfl,g,r⟩
 | ow ts=>
  obtain ⟨q,vs,e,h0,hb,hp,rr⟩:=h
  cases e
  obtain ⟨g2,le⟩:=g.freeze h0 hb hp
  exact ⟨.lst ts,_,rfl,g2,qnq qak (rr.mono le)⟩
 | _=>cases r
theorem qrG {K:PySem.W.Frag} {G:Gam} {C:Str→Addr} {vs:List V} {H:Hp} {Q:VK} {E:XK} (h:spP K G C (qrc fS) vs H Q E):spS K G C fS vs H Q E:=by
 obtain ⟨B,ts,le,bt,m,r,w⟩:=h
 refine ⟨B,ts,le,bt,m,r,?_⟩
 unfold qrc at w
 have w:=Wnt.bind (qaw.mp w)
 refine Wnt.mono w fun s w1 v H' B' g m' er hs=> ?_
 obtain ⟨t,B2,e1,g2,r2⟩:=qlU g er hs
 rw[e1] at w1
 exact w1 v H' B2 g2 m' r2
theorem KnS.kn {P:Program} {w:World} {K:PySem.W.Frag} {mg:Str→Option Value} {base:Heap} {G:Gam} {C:Str→Addr} (h:KnS P w K mg base G C x ps k fS):Kn P w K mg base G C x ps k (qrc fS):=by
 obtain ⟨f,fd,F,r⟩:=h
 exact ⟨f,fd,F.imp fun vs H Q E h=>qrG h,r⟩
def tS' (M:Md) (ds:Ro→Rs (List T)) (fS:List T→Rs Sl):TE:=fun σ H Q=> ∃H0 B0 ρ B,Ev M H0 B0 ρ σ H B∧
 Wnt M H0 (fun s:Sl=> ∀v H' B',Ev M H0 B0 (s::ρ) (some v::σ) H' B'→Le B B'→Q v H') (ds ρ>>=fS)
theorem qeX {σ:St} {H:Hp} {Q:VK} (h:tS' M ds fS σ H Q):qgy (spS M.K M.G M.C fS) [] M.E (tPA M ds) σ H Q:=by
 obtain ⟨H0,B0,ρ,B,ev,w⟩:=h
 refine tPA.of ev (Wnt.mono (Wnt.bind w) fun ts w1 vs H1 B1 g1 m1 r1=> ?_)
 have ev1:=ev.grow g1 m1
 refine ⟨B1,ts,ev1.bh,ev1.bt,m1,by rw[List.append_nil]; exact r1,?_⟩
 cases q:fS ts with
 | no=>rw[q] at w1; exact w1
 | ok s=>rw[q] at w1; exact fun v H' B' g m er hs=>w1 v H' B' (ev1.consNew (ev1.grow g m) (fun j u ej ou=>⟨u,ej,ou⟩) er hs) (g1.bb.trans g.bb)
 | ex c=>rw[q] at w1; exact fun H' g m=>w1 H' (ev1.gr.gx.trans g) m
theorem qmg (F:KnS X.prog X.w X.K X.mg X.base M.G M.C x ps k fS) (hK:X.K=M.K) (hr:qbW k X.A) (hg:Gl X x) (ha:DA M X (e::es) ds) (hdb:(x==("__debug__" :Str))=false:=by decide)
  (he:starEach (e::es) X.env=(false,eval e X.env)::starEach es X.env:=by rfl) (hpl:(backTo pos (starEach es X.env)).any (·.1)=false:=by rfl):PE X (.Call (.Name x p) (e::es) [] pos) (tS' M ds fS):=by
 obtain ⟨f,fd,G,m,kk,bb⟩:=F
 rw[hK] at G
 exact PE.weak (qdo (by rw[hK]; exact G) hr hg m kk bb .nil qiv ha hdb he hpl) fun σ H Q h=>qeX h
def qmT (j:Nat) (ds:Ro→Rs (List T)) (fS:List T→Rs Sl):Ro→Rs Out:=fun ρ=>ds ρ>>=fun ts=>fS ts>>=fun s=>.ok (.nx (ρ.set j s))
theorem qoX (hN:X.N.Nodup) (hi:X.N[j]? =some y) (hx:Loc X.env.scope y) (h:PE X e (tS' M ds fS)) (hs:swapsWith e (some (.Name y pos')) pos.line X.env=pure false:=by rfl) (hf:X.fn y=true∨X.env.scope.names.lookup y=some .local:=by first | exact .inl rfl | exact .inr rfl | assumption):
  DS M X (.Assign [.Name y pos'] e pos) (qmT j ds fS):=by
 refine PS.weak (qfF hN hi hx h hs hf) fun D σ H hq=> ?_
 obtain ⟨H0,B0,ρ,B,ev,w⟩:=hq
 refine ⟨H0,B0,ρ,B,ev,?_⟩
 unfold qmT at w
 cases q2:ds ρ with
 | no=>rw[q2] at w; exact w
 | ex c=>rw[q2] at w; exact w
 | ok ts=>
  rw[q2] at w
  rw[qad] at w⊢
  cases q3:fS ts with
  | no=>rw[q3] at w; exact w
  | ex c=>rw[q3] at w; exact w
  | ok r=>rw[q3] at w; exact fun v H' B' ev' le=>w _ H' B' (ev'.store j) le
def qiP (ds:Ro→Rs (List T)) (fS:List T→Rs Sl):Ro→Rs Out:=fun ρ=>ds ρ>>=fun ts=>fS ts>>=fun s=>.ok (.rs s ρ)
theorem qoZ (h:PE X e (tS' M ds fS)):DS M X (.Return (some e) pos) (qiP ds fS):=by
 refine PS.weak (qcv h) fun D σ H hq=> ?_
 obtain ⟨H0,B0,ρ,B,ev,w⟩:=hq
 refine ⟨H0,B0,ρ,B,ev,?_⟩
 unfold qiP at w
 cases q2:ds ρ with
 | no=>rw[q2] at w; exact w
 | ex c=>rw[q2] at w; exact w
 | ok ts=>
  rw[q2] at w
  rw[qad] at w⊢
  cases q3:fS ts with
  | no=>rw[q3] at w; exact w
  | ex c=>rw[q3] at w; exact w
  | ok r=>rw[q3] at w; exact fun v H' B' ev' le=>w v σ H' B' ev' le
def tPN (M:Md) (ds:Ro→Rs (List T)):TA:=fun σ H Q=> ∃H0 B0 ρ B,Ev M H0 B0 ρ σ H B∧
 Wnt M H0 (fun ts=> ∀vs p H' B',qa0 H B H' B'→M.G.P H'→qaL M.K B' ts vs→H' p=none→Q (vs++[.ref p]) (upd H' p (.dK []))) (ds ρ)
theorem qpd (hst:starEach [.Dict [] [] p] X.env=(false,eval (.Dict [] [] p) X.env)::starEach [] X.env:=by rfl):PA X [.Dict [] [] p] (tPN M qan):=by
 refine PA.weak (qar qmc qaH hst) fun σ H Q hq=> ?_
 obtain ⟨H0,B0,ρ,B,ev,w⟩:=hq
 exact fun p hp=>w [] p H B (.refl ev.bh ev.bt) ev.gm .nil hp
theorem qia (ha:DE M X e da) (hs:PA X es (tPN M ds)) (hst:starEach (e::es) X.env=(false,eval e X.env)::starEach es X.env:=by rfl):PA X (e::es) (tPN M (qab da ds)):=by
 refine PA.weak (qar ha hs hst) fun σ H Q hq=> ?_
 obtain ⟨H0,B0,ρ,B,ev,w⟩:=hq
 refine tP.of ev (Wnt.mono (Wnt.bind w) fun x w1 v H1 B1 g1 m1 r1=> ?_)
 refine ⟨H0,B0,ρ,B1,ev.grow g1 m1,Wnt.mono (Wnt.bind w1) fun xs w2 u p H2 B2 g2 m2 r2 e2=> ?_⟩
 exact w2 (v::u) p H2 B2 (g1.trans g2) m2 (.cons (r1.mono g2.bb) r2) e2
def tSN (M:Md) (ds:Ro→Rs (List T)) (fQ:List T→Sl→Rs (Sl×Sl)):TE:=tS' M ds fun ts=>fQ ts (.od [])>>=fun r=>.ok r.1
theorem qiU {σ:St} {H:Hp} {Q:VK} (h:tSN M ds fQ σ H Q):qgy (spQ M.K M.G M.C fQ) [] M.E (tPN M ds) σ H Q:=by
 obtain ⟨H0,B0,ρ,B,ev,w⟩:=h
 refine ⟨H0,B0,ρ,B,ev,Wnt.mono (Wnt.bind w) fun ts w1 vs p H1 B1 g1 m1 r1 hp=> ?_⟩
 have ev1:=ev.grow g1 m1
 have bp:B1 p=none:=by
  cases q:B1 p with
  | none=>rfl
  | some u=>rw[ev1.bh _ _ q] at hp; cases hp
 obtain ⟨g2,m2⟩:=ev1.nown (o:=.dK []) hp
 have eh:hid (upd H1 p (.dK [])) p=H1:=by
  funext a
  by_cases q:a=p
  ·subst q; rw[qff,hp]
  ·rw[qbH q,qag q]
 refine ⟨B1,ts,.od [],p,vs,by rw[List.append_nil],g2.bh,g2.bt,m2,r1,bp,⟨[],qak,.nil⟩,?_⟩
 rw[eh]
 have w1:=Wnt.bind w1
 unfold qra
 cases q:fQ ts (.od []) with
 | no=>rw[q] at w1; exact w1
 | ok r=>rw[q] at w1; exact fun v H' B' g m er hs _ _=>w1 v H' B' (ev1.consNew (ev1.grow g m) (fun j u ej ou=>⟨u,ej,ou⟩) er hs) (g1.bb.trans g.bb)
 | ex c=>rw[q] at w1; exact fun H' g m=>w1 H' (ev1.gr.gx.trans g) m
theorem qmh (F:KnQ X.prog X.w X.K X.mg X.base M.G M.C x ps k fQ) (hK:X.K=M.K) (hr:qbW k X.A) (hg:Gl X x) (ha:PA X (e::es) (tPN M ds)) (hdb:(x==("__debug__" :Str))=false:=by decide)
  (he:starEach (e::es) X.env=(false,eval e X.env)::starEach es X.env:=by rfl) (hpl:(backTo pos (starEach es X.env)).any (·.1)=false:=by rfl):PE X (.Call (.Name x p) (e::es) [] pos) (tSN M ds fQ):=by
 obtain ⟨f,fd,G,m,kk,bb⟩:=F
 rw[hK] at G
 exact PE.weak (qdo (by rw[hK]; exact G) hr hg m kk bb .nil qiv ha hdb he hpl) fun σ H Q h=>qiU h
end
mutual
def qbD:T→Bool
 | .tup ts=>qcD ts
 | .lst ts=>qcD ts
 | .dct _=>false
 | .dtu _=>false
 | .dcf _=>false
 | .fn _=>false
 | .scr _=>false
 | _=>true
def qcD:List T→Bool
 | []=>true
 | t::ts=>qbD t&&qcD ts
end
def qq8 (B:Hp) (p:Addr):Prop:=(∀vs,B p≠some (.tup vs))∧∀vs,B p≠some (.lst vs)
mutual
theorem qjB {K:PySem.W.Frag} {B:Hp} {p:Addr} (n:qq8 B p): ∀{t:T} {v:V},qbD t=true→Rep K B t v→Rep K (hid B p) t v
 | .non,_,_,r=>by unfold Rep at r⊢; exact r
 | .bl _,_,_,r=>by unfold Rep at r⊢; exact r
 | .int _,_,_,r=>by unfold Rep at r⊢; exact r
 | .str _,_,_,r=>by unfold Rep at r⊢; exact r
 | .tup ts,_,h,r=>by
  unfold Rep at r⊢
  obtain ⟨q,vs,e,b,rs⟩:=r
  exact ⟨q,vs,e,by rw[qbH (fun z=>n.1 vs (by rw[←z]; exact b))]; exact b,qe6 n (by unfold qbD at h; exact h) rs⟩
 | .lst ts,_,h,r=>by
  unfold Rep at r⊢
  obtain ⟨q,vs,e,b,rs⟩:=r
  exact ⟨q,vs,e,by rw[qbH (fun z=>n.2 vs (by rw[←z]; exact b))]; exact b,qe6 n (by unfold qbD at h; exact h) rs⟩
 | .dct _,_,h,_=>by unfold qbD at h; cases h
 | .dtu _,_,h,_=>by unfold qbD at h; cases h
 | .dcf _,_,h,_=>by unfold qbD at h; cases h
 | .fn _,_,h,_=>by unfold qbD at h; cases h
 | .scr _,_,h,_=>by unfold qbD at h; cases h
theorem qe6 {K:PySem.W.Frag} {B:Hp} {p:Addr} (n:qq8 B p): ∀{ts:List T} {vs:List V},qcD ts=true→qaL K B ts vs→qaL K (hid B p) ts vs
 | [],_,_,r=>by unfold qaL at r⊢; exact r
 | t::ts,_,h,r=>by
  unfold qaL at r⊢
  unfold qcD at h
  have h:=Bool.and_eq_true_iff.mp h
  obtain ⟨v,r',e,a,b⟩:=r
  exact ⟨v,r',e,qjB n h.1 a,qe6 n h.2 b⟩
end
def qrm:Sl→T
 | .od k=>.dct k
 | .pd k=>.dct k
 | .ou k=>.dtu k
 | .pu k=>.dtu k
 | _=>.non
def qmo (r:T):Rs T:=if qbD r=true then .ok r else .no
def qeS (i:Nat) (fT:List T→Rs T) (ds:Ro→Rs (List T)):Ro→Rs T:=fun ρ=>qez ρ i>>=fun s=>ds ρ>>=fun ts=>fT (ts++[qrm s])>>=qmo
theorem qpa {K:PySem.W.Frag} {H B:Hp} {p:Addr} {s:Sl} (h:DAt K H B p s) (hb:B p=none): ∃o,H p=some o∧(∀ps,o≠.tbl ps)∧(∀vs,o≠.tup vs)∧(∀vs,o≠.lst vs)∧Rep K (upd B p o) (qrm s) (.ref p):=by
 have le: ∀o,Le B (upd B p o):=fun o a u z=>by rw[qag (qap z hb)]; exact z
 cases s with
 | od k=>obtain ⟨us,a,b⟩:=h; exact ⟨_,a,nofun,nofun,nofun,by show Rep K _ (.dct k) _; unfold Rep; exact ⟨p,us,rfl,qak,b.mono (le _)⟩⟩
 | pd k=>obtain ⟨us,a,b⟩:=h; exact ⟨_,a,nofun,nofun,nofun,by show Rep K _ (.dct k) _; unfold Rep; exact ⟨p,us,rfl,qak,b.mono (le _)⟩⟩
 | ou k=>obtain ⟨us,a,b⟩:=h; exact ⟨_,a,nofun,nofun,nofun,by show Rep K _ (.dtu k) _; unfold Rep; exact ⟨p,us,rfl,qak,b.mono (le _)⟩⟩
 | pu k=>obtain ⟨us,a,b⟩:=h; exact ⟨_,a,nofun,nofun,nofun,by show Rep K _ (.dtu k) _; unfold Rep; exact ⟨p,us,rfl,qak,b.mono (le _)⟩⟩
 | _=>exact h.elim
section
variable {M:Md} {X:Cx} {e a b c:Expr} {es:List Expr} {pos p pos':Pos} {i j k:Nat} {x y:Str} {da db dc:Ro→Rs T} {ds:Ro→Rs (List T)} {ps:List Str} {fT:List T→Rs T}
theorem qiV {σ:St} {H:Hp} {Q:VK} (h:tP M (qeS i fT ds) σ H Q):qgy (spP M.K M.G M.C fT) [] M.E (tPV M ds i) σ H Q:=by
 obtain ⟨H0,B0,ρ,B,ev,w⟩:=h
 obtain ⟨s,e1,hd,w⟩:=qcQ (qaw.mp w)
 refine ⟨H0,B0,ρ,B,ev,⟨s,e1,hd⟩,Wnt.mono (Wnt.bind w) fun ts w1 vs p H1 B1 g1 m1 r1 es=> ?_⟩
 have ev1:=ev.grow g1 m1
 obtain ⟨p',es',h0,hb,hs,_⟩:=ev1.getD' e1 hd
 rw[es] at es'; cases es'
 obtain ⟨o,ho,n1,n2,n3,rd⟩:=qpa hs hb
 have le:Le B1 (upd B1 p o):=fun a u z=>by rw[qag (qap z hb)]; exact z
 have leH:Le (upd B1 p o) H1:=fun a u z=>by
  by_cases q:a=p
  ·subst q; rw[qak] at z; cases z; exact ho
  ·rw[qag q] at z; exact ev1.bh _ _ z
 refine ⟨upd B1 p o,ts++[qrm s],leH,fun a ps z=> ?_,m1,by rw[List.append_nil]; exact (r1.mono le).append (.cons rd .nil),?_⟩
 ·by_cases q:a=p
  ·subst q; rw[qak] at z; exact n1 ps (Option.some.inj z)
  ·rw[qag q] at z; exact ev1.bt a ps z
 have w1:=Wnt.bind w1
 cases q:fT (ts++[qrm s]) with
 | no=>rw[q] at w1; exact w1
 | ex c=>rw[q] at w1; exact fun H' g m=>w1 H' (ev1.gr.gx.trans g) m
 | ok r=>
  rw[q] at w1
  unfold qmo at w1
  intro v H' B' g m rr
  have w1:Wnt M H0 _ (if qbD r=true then .ok r else .no):=w1
  split at w1
  ·rename_i pl
   have hp1:B' p=some o:=g.bb _ _ qak
   refine w1 v H' (hid B' p) (g1.trans ⟨g.gx,fun a u z=> ?_,fun a u z=>g.bh _ _ (qcp z).1,fun a ps z=>g.bt a ps (qcp z).1,fun a o z m1 m2=> ?_⟩) m (qjB ⟨fun vs z=>by rw[hp1] at z; exact n2 vs (Option.some.inj z),fun vs z=>by rw[hp1] at z; exact n3 vs (Option.some.inj z)⟩ pl rr)
   ·rw[qbH (qap z hb)]; exact g.bb _ _ (le _ _ z)
   ·by_cases q2:a=p
    ·subst q2; rw[qff,hb]
    ·rw[qbH q2,g.nw a o z m1 m2,qag q2]
  ·exact w1.elim
theorem qh7 (F:Kn X.prog X.w X.K X.mg X.base M.G M.C x ps k fT) (hK:X.K=M.K) (hr:qbW k X.A) (hg:Gl X x) (ha:PA X (e::es) (tPV M ds i)) (hdb:(x==("__debug__" :Str))=false:=by decide)
  (he:starEach (e::es) X.env=(false,eval e X.env)::starEach es X.env:=by rfl) (hpl:(backTo pos (starEach es X.env)).any (·.1)=false:=by rfl):DE M X (.Call (.Name x p) (e::es) [] pos) (qeS i fT ds):=by
 obtain ⟨f,fd,G,m,kk,bb⟩:=F
 rw[hK] at G
 exact PE.weak (qdo (by rw[hK]; exact G) hr hg m kk bb .nil qiv ha hdb he hpl) fun σ H Q h=>qiV h
end
def qmW (i:Nat) (ρ:Ro):Ro:=match ρ[i]? with
 | some (.pd [])=>ρ.set i (.pu [])
 | some (.od [])=>ρ.set i (.ou [])
 | _=>ρ
theorem qov {P:Program} {w:World} {H:Hp} {h:Heap} {p:Addr} (hp:H p=some (.dK [])): ∀(o:HO) (a:Addr),qa2 P w H h a o→qa2 P w (upd H p (.dT [])) h a o:=by
 intro o
 induction o with
 | lst xs=>exact fun a h=>h
 | tup xs=>exact fun a h=>h
 | dK kvs=>exact fun a h=>h
 | dT kvs=>
  intro a h
  obtain ⟨z,y,xs,r,qde⟩:=h
  refine ⟨z,y,xs,?_,qde⟩
  clear qde z y
  induction r with
  | nil=>exact .nil
  | cons c _ ih=>
   refine .cons ⟨c.1,?_,c.2.2⟩ ih
   rw[qag (fun z=>by rw[z,hp] at c; cases c.2.1)]
   exact c.2.1
 | set S n=>exact fun a h=>h
 | ins C dx fs=>
  intro a h
  obtain ⟨h1,r⟩:=h
  exact ⟨by rw[qag (fun z=>by rw[z,hp] at h1; cases h1)]; exact h1,r⟩
 | own x=>exact fun a h=>h
 | xd fs=>exact fun a h=>h
 | rng lo hi=>exact fun a h=>h
 | frz o u ih=>exact fun a h=>⟨h.1,ih a h.2⟩
 | _=>exact fun a h=>h
theorem Inv.asT {X:Cx} {pins:List (Addr×Obj)} {σ:St} {H:Hp} {s:Shared} {p:Addr} (I:L2.Inv X pins σ H s) (hp:H p=some (.dK [])):L2.Inv X pins σ (upd H p (.dT [])) s:=by
 have no: ∀{b:Addr},H b=none→upd H p (.dT []) b=none:=fun {b} h=>by rw[qag (fun z=>by rw[z,hp] at h; cases h)]; exact h
 have same: ∀{b:Addr} {o:HO},H b=some o→o≠.dK []→upd H p (.dT []) b=some o:=fun {b o} h n=>by rw[qag (fun z=>n (by rw[z,hp] at h; exact (Option.some.inj h).symm))]; exact h
 refine ⟨I.ok,I.os,I.bare,⟨I.base.keep,I.base.slot,fun b o a h e=>no (I.base.free b o a h e),I.base.there,fun b xs h=>same (I.base.tups b xs h) (by simp),fun b o u h=>same (I.base.frzs b o u h) (by simp),fun b ps h=> ?_⟩,I.loc,I.cell,no I.free,fun x c h=>no (I.freeC x c h),fun q hq=> ?_,fun a o h=> ?_,I.len⟩
 ·obtain ⟨more,e⟩:=I.base.tbls b ps h
  exact ⟨more,same e (by simp)⟩
 ·obtain ⟨a,b,c⟩:=I.pin q hq
  exact ⟨a,no b,c⟩
 ·by_cases z:a=p
  ·subst z
   rw[qak] at h; cases h
   obtain ⟨z1,z2,vs,kv,d⟩:=(show qa2 X.prog X.w H s.heap a (.dK []) from I.hok a _ hp)
   cases kv
   obtain ⟨o,es,ep,h1,h2,h3,h4,h5,h6⟩:=d
   exact ⟨z1,z2,[],.nil,o,es,ep,h1,h2,h3,by generalize es.toList=l at h5⊢; cases h5; rfl,List.nodup_nil⟩
  ·rw[qag z] at h
   exact qov hp o a (I.hok a o h)
section
variable {M:Md} {X:Cx} {st:Stmt} {sts:List Stmt} {d:Ro→Rs Out}
theorem Ev.conv {H0 B0 H B:Hp} {ρ:Ro} {σ:St} {pins:List (Addr×Obj)} {s:Shared} (i:Nat) (ev:Ev M H0 B0 ρ σ H B) (I:L2.Inv X pins σ H s): ∃H',L2.Inv X pins σ H' s∧Ev M H0 B0 (qmW i ρ) σ H' B:=by
 have go: ∀(u u':Sl),ρ[i]? =some u→u.isD=true→(∀K p,DAt K H B p u→H p=some (.dK []))→(∀K H p,H p=some (.dT [])→DAt K H B p u')→u.like u'=u'→∃H',L2.Inv X pins σ H' s∧Ev M H0 B0 (ρ.set i u') σ H' B:=fun u u' e hd k1 k2 k3=>by
  obtain ⟨p,es,h0,hb,hs,_⟩:=ev.getD' e hd
  have hp:=k1 _ _ hs
  refine ⟨upd H p (.dT []),Inv.asT I hp,?_⟩
  have:=ev.behindQ (H':=upd H p (.dT [])) (B':=B) (s':=u') e hd es ⟨⟨fun a o z n=> ?_,fun a z=> ?_⟩,.refl _,fun a o z=> ?_,ev.bt,fun _ _ _ _ _=>rfl⟩ (M.G.st H _ (fun a o z n1 n2 n3 n4=> ?_) ev.gm) hb (k2 _ _ _ qak)
  ·rw[k3] at this; exact this
  ·have:=qcp z; rw[qag this.2]; exact this.1
  ·by_cases q:a=p
   ·subst q; rw[qak]; simp
   ·rw[qag q]; rw[qbH q] at z; exact z
  ·rw[qag (qap z hb)]; exact ev.bh _ _ z
  ·rw[qag (fun q=>by rw[q,hp] at z; exact n2 _ (Option.some.inj z).symm)]; exact z
 unfold qmW
 split
 ·rename_i e
  exact go _ _ e rfl (fun K p h=>by obtain ⟨us,a,b⟩:=h; rw[b.inv0] at a; exact a) (fun K H p h=>⟨[],h,by unfold qbr; rfl⟩) rfl
 ·rename_i e
  exact go _ _ e rfl (fun K p h=>by obtain ⟨us,a,b⟩:=h; rw[b.inv0] at a; exact a) (fun K H p h=>⟨[],h,by unfold qbr; rfl⟩) rfl
 ·exact ⟨H,I,ev⟩
theorem qmP (i:Nat) (h:DSs M X sts d):DSs M X sts (fun ρ=>d (qmW i ρ)):=fun pins s σ H D I hq=>by
 obtain ⟨H0,B0,ρ,B,ev,w⟩:=hq
 obtain ⟨H',I',ev'⟩:=ev.conv i I
 exact h pins s σ H' D I' ⟨H0,B0,_,B,ev',w⟩
end
end PL
end
section
namespace PL
open PySem L2
def qmq:List T→Option (List Key)
 | []=>some []
 | t::ts=>(match qbP t,qmq ts with | some k,some ks=>some (k::ks) | _,_=>none)
def qly:T→Option (List Key)
 | .tup ts=>qmq ts
 | _=>none
def qey (kvs:List (List Key×T)) (k:List Key):Option T:=(kvs.find? fun kv=>decide (kv.1=k)).map (·.2)
def qit (kvs:List (List Key×T)) (k:List Key) (t:T):List (List Key×T):=if (kvs.any fun kv=>decide (kv.1=k))=true then kvs.map (fun kv=>if kv.1=k then (kv.1,t) else kv) else kvs++[(k,t)]
def lookS:Sl→T→Option (Option T)
 | .od kvs,k=>(qbP k).map (qeZ kvs)
 | .pd kvs,k=>(qbP k).map (qeZ kvs)
 | .ou kvs,k=>(qly k).map (qey kvs)
 | .pu kvs,k=>(qly k).map (qey kvs)
 | _,_=>none
def qns:Sl→Nat
 | .od kvs=>kvs.length
 | .pd kvs=>kvs.length
 | .ou kvs=>kvs.length
 | .pu kvs=>kvs.length
 | _=>0
def qtz:Sl→T→T→Option Sl
 | .od kvs,k,t=>(qbP k).map fun k=>.od (qdl kvs k t)
 | .pd kvs,k,t=>(qbP k).map fun k=>.pd (qdl kvs k t)
 | .ou kvs,k,t=>(qly k).map fun k=>.ou (qit kvs k t)
 | .pu kvs,k,t=>(qly k).map fun k=>.pu (qit kvs k t)
 | _,_,_=>none
section
variable {K:PySem.W.Frag} {B H:Hp}
theorem qbr.nil:qbr K B [] []:=by unfold qbr; rfl
theorem qbr.cons {k:List Key} {t:T} {v:V} {ts:List (List Key×T)} {vs:List (List Key×V)} (h:Rep K B t v) (r:qbr K B ts vs):qbr K B ((k,t)::ts) ((k,v)::vs):=by unfold qbr; exact ⟨v,vs,rfl,h,r⟩
theorem qbr.inv {k:List Key} {t:T} {ts:List (List Key×T)} {vs:List (List Key×V)} (h:qbr K B ((k,t)::ts) vs): ∃v r,vs=(k,v)::r∧Rep K B t v∧qbr K B ts r:=by unfold qbr at h; exact h
theorem qbr.inv0 {vs:List (List Key×V)} (h:qbr K B [] vs):vs=[]:=by unfold qbr at h; exact h
theorem qbr.length: ∀{ts:List (List Key×T)} {vs:List (List Key×V)},qbr K B ts vs→vs.length=ts.length
 | [],_,h=>by rw[h.inv0]; rfl
 | (_,_)::_,_,h=>by obtain ⟨v,r,rfl,_,h'⟩:=h.inv; simp[qbr.length h']
theorem qbr.any (k:List Key): ∀{ts:List (List Key×T)} {vs:List (List Key×V)},qbr K B ts vs→(vs.any fun kv=>decide (kv.1=k))=ts.any fun kv=>decide (kv.1=k)
 | [],_,h=>by rw[h.inv0]; rfl
 | (_,_)::_,_,h=>by obtain ⟨v,r,rfl,_,h'⟩:=h.inv; simp[qbr.any k h']
theorem qbr.repl (k:List Key) {t:T} {v:V} (h:Rep K B t v): ∀{ts:List (List Key×T)} {vs:List (List Key×V)},qbr K B ts vs→qbr K B (ts.map fun kv=>if kv.1=k then (kv.1,t) else kv) (vs.map fun kv=>if kv.1=k then (kv.1,v) else kv)
 | [],_,r=>by rw[r.inv0]; exact .nil
 | (j,u)::_,_,r=>by
  obtain ⟨x,r',rfl,a,b⟩:=r.inv
  simp only[List.map_cons]
  by_cases q:j=k
  ·rw[if_pos q,if_pos q]; exact .cons h (qbr.repl k h b)
  ·rw[if_neg q,if_neg q]; exact .cons a (qbr.repl k h b)
theorem qbr.snoc {k:List Key} {t:T} {v:V} (h:Rep K B t v): ∀{ts:List (List Key×T)} {vs:List (List Key×V)},qbr K B ts vs→qbr K B (ts++[(k,t)]) (vs++[(k,v)])
 | [],_,r=>by rw[r.inv0]; exact .cons h .nil
 | (_,_)::_,_,r=>by obtain ⟨x,r',rfl,a,b⟩:=r.inv; exact .cons a (qbr.snoc h b)
theorem qbr.put {k:List Key} {t:T} {v:V} {ts:List (List Key×T)} {vs:List (List Key×V)} (r:qbr K B ts vs) (h:Rep K B t v):qbr K B (qit ts k t) (qdk vs k v):=by
 unfold qit qdk
 rw[r.any k]
 split
 ·exact r.repl k h
 ·exact r.snoc h
theorem qbr.val (k:List Key): ∀{ts:List (List Key×T)} {vs:List (List Key×V)},qbr K B ts vs→(∀t,qey ts k=some t→∃v,qcO vs k=some v∧Rep K B t v)∧(qey ts k=none→qcO vs k=none)
 | [],_,r=>by rw[r.inv0]; exact ⟨fun t e=>by simp[qey] at e,fun _=>rfl⟩
 | (j,u)::ts,_,r=>by
  obtain ⟨x,r',rfl,a,b⟩:=r.inv
  by_cases q:j=k
  ·rw[qba q]
   have:qey ((j,u)::ts) k=some u:=by simp[qey,List.find?_cons,q]
   rw[this]
   exact ⟨fun t e=>by cases e; exact ⟨x,rfl,a⟩,fun e=>by cases e⟩
  ·rw[qbb q]
   have:qey ((j,u)::ts) k=qey ts k:=by simp[qey,List.find?_cons,q]
   rw[this]
   exact qbr.val k b
theorem qfQ: ∀{ts:List T} {ks:List Key} {vs:List V},qmq ts=some ks→qaL K B ts vs→vs=ks.map kV
 | [],ks,_,e,r=>by cases e; exact r.inv0
 | t::ts,ks,_,e,r=>by
  obtain ⟨v,r',rfl,a,b⟩:=r.inv
  unfold qmq at e
  split at e
  ·rename_i k ks' e1 e2
   cases e
   rw[qfQ e2 b,qeh e1 a]; rfl
  ·cases e
theorem qhM {t:T} {ks:List Key} {v:V} (e:qly t=some ks) (r:Rep K B t v): ∃b,v= .ref b∧B b=some (.tup (ks.map kV)):=by
 unfold qly at e
 split at e
 ·obtain ⟨b,vs,e1,e2,e3⟩:=qhv r
  exact ⟨b,e1,by rw[e2,qfQ e e3]⟩
 ·cases e
theorem qg4 {p:Addr} {s:Sl} {k:T} {y:V} {o:Option T} (h:DAt K H B p s) (le:Le B H) (r:Rep K B k y) (e:lookS s k=some o): ∃ov,qfu H p y ov∧(∀t,o=some t→∃v,ov=some v∧Rep K B t v)∧(o=none→ov=none):=by
 have go1: ∀{kvs:List (Key×T)} {us:List (Key×V)},H p=some (.dK us)→qbc K B kvs us→(qbP k).map (qeZ kvs)=some o→∃ov,qfu H p y ov∧(∀t,o=some t→∃v,ov=some v∧Rep K B t v)∧(o=none→ov=none):=fun {kvs us} hp rd e=>by
  cases q:qbP k with
  | none=>rw[q] at e; cases e
  | some k'=>
   rw[q] at e
   have e:=Option.some.inj e
   subst e
   obtain ⟨a,b⟩:=rd.val k'
   exact ⟨qcO us k',by rw[qeh q r]; exact qfu.k hp,a,b⟩
 have go2: ∀{kvs:List (List Key×T)} {us:List (List Key×V)},H p=some (.dT us)→qbr K B kvs us→(qly k).map (qey kvs)=some o→∃ov,qfu H p y ov∧(∀t,o=some t→∃v,ov=some v∧Rep K B t v)∧(o=none→ov=none):=fun {kvs us} hp rd e=>by
  cases q:qly k with
  | none=>rw[q] at e; cases e
  | some k'=>
   rw[q] at e
   have e:=Option.some.inj e
   subst e
   obtain ⟨a,b⟩:=rd.val k'
   obtain ⟨c,e1,e2⟩:=qhM q r
   exact ⟨qcO us k',by rw[e1]; exact qfu.t hp (le _ _ e2),a,b⟩
 cases s with
 | od _=>obtain ⟨us,a,b⟩:=h; exact go1 a b e
 | pd _=>obtain ⟨us,a,b⟩:=h; exact go1 a b e
 | ou _=>obtain ⟨us,a,b⟩:=h; exact go2 a b e
 | pu _=>obtain ⟨us,a,b⟩:=h; exact go2 a b e
 | _=>exact h.elim
theorem qpb {p:Addr} {s s':Sl} {k t:T} {y v:V} (h:DAt K H B p s) (le:Le B H) (hb:B p=none) (r:Rep K B k y) (rt:Rep K B t v) (hl:qns s≤1000) (e:qtz s k t=some s'):
  ∃o,qlx H p y v (upd H p o)∧(∀ps,o≠.tbl ps)∧DAt K (upd H p o) B p s'∧s.like s'=s':=by
 have go1: ∀{kvs:List (Key×T)} {us:List (Key×V)} {f:List (Key×T)→Sl},H p=some (.dK us)→qbc K B kvs us→kvs.length≤1000→(qbP k).map (fun k=>f (qdl kvs k t))=some s'→(∀H k us,H p=some (.dK us)→qbc K B k us→DAt K H B p (f k))→(∀k,s.like (f k)=f k)→
   ∃o,qlx H p y v (upd H p o)∧(∀ps,o≠.tbl ps)∧DAt K (upd H p o) B p s'∧s.like s'=s':=fun {kvs us f} hp rd hl e k1 k2=>by
  cases q:qbP k with
  | none=>rw[q] at e; cases e
  | some k'=>
   rw[q] at e
   have e:=Option.some.inj e
   subst e
   exact ⟨_,by rw[qeh q r]; exact qlx.k hp (by rw[rd.length]; exact qa3 hl),(fun _ z=>by cases z),k1 _ _ _ qak (rd.put rt),k2 _⟩
 have go2: ∀{kvs:List (List Key×T)} {us:List (List Key×V)} {f:List (List Key×T)→Sl},H p=some (.dT us)→qbr K B kvs us→kvs.length≤1000→(qly k).map (fun k=>f (qit kvs k t))=some s'→(∀H k us,H p=some (.dT us)→qbr K B k us→DAt K H B p (f k))→(∀k,s.like (f k)=f k)→
   ∃o,qlx H p y v (upd H p o)∧(∀ps,o≠.tbl ps)∧DAt K (upd H p o) B p s'∧s.like s'=s':=fun {kvs us f} hp rd hl e k1 k2=>by
  cases q:qly k with
  | none=>rw[q] at e; cases e
  | some k'=>
   rw[q] at e
   have e:=Option.some.inj e
   subst e
   obtain ⟨c,e1,e2⟩:=qhM q r
   exact ⟨_,by rw[e1]; exact qlx.t hp (le _ _ e2) (by rw[rd.length]; exact qa3 hl),(fun _ z=>by cases z),k1 _ _ _ qak (rd.put rt),k2 _⟩
 cases s with
 | od _=>obtain ⟨us,a,b⟩:=h; exact go1 (f:=.od) a b hl e (fun H k us x y=>⟨us,x,y⟩) fun _=>rfl
 | pd _=>obtain ⟨us,a,b⟩:=h; exact go1 (f:=.pd) a b hl e (fun H k us x y=>⟨us,x,y⟩) fun _=>rfl
 | ou _=>obtain ⟨us,a,b⟩:=h; exact go2 (f:=.ou) a b hl e (fun H k us x y=>⟨us,x,y⟩) fun _=>rfl
 | pu _=>obtain ⟨us,a,b⟩:=h; exact go2 (f:=.pu) a b hl e (fun H k us x y=>⟨us,x,y⟩) fun _=>rfl
 | _=>exact h.elim
end
def tX (M:Md) (d:Ro→Rs Sl):TE:=fun σ H Q=> ∃H0 B0 ρ B,Ev M H0 B0 ρ σ H B∧Wnt M H0 (fun s=> ∀p H' B',qa0 H B H' B'→M.G.P H'→DAt M.K H' B' p s→Q (.ref p) H') (d ρ)
abbrev DX (M:Md) (X:Cx) (e:Expr) (d:Ro→Rs Sl):Prop:=PE X e (tX M d)
def slX:T→Rs Sl
 | .dct k=>.ok (.od k)
 | .dtu k=>.ok (.ou k)
 | _=>.no
def dXV (i:Nat):Ro→Rs Sl:=fun ρ=>match ρ[i]? with
 | some (.fz t)=>slX t
 | some s=>if s.isD=true then .ok s else .no
 | none=>.no
theorem qsf {K:PySem.W.Frag} {B H:Hp} {t:T} {v:V} {s:Sl} (le:Le B H) (r:Rep K B t v) (e:slX t= .ok s): ∃p,v= .ref p∧DAt K H B p s:=by
 cases t with
 | dct k=>cases e; unfold Rep at r; obtain ⟨p,us,a,b,c⟩:=r; exact ⟨p,a,us,le _ _ b,c⟩
 | dtu k=>cases e; unfold Rep at r; obtain ⟨p,us,a,b,c⟩:=r; exact ⟨p,a,us,le _ _ b,c⟩
 | _=>cases e
theorem qpU {α:Type} {M:Md} {H0:Hp} {k:Sl→Prop} {t:T} (w:Wnt M H0 k (slX t)): ∃s,slX t= .ok s∧k s:=by
 cases t with
 | dct z=>exact ⟨_,rfl,w⟩
 | dtu z=>exact ⟨_,rfl,w⟩
 | _=>exact w.elim
section
variable {M:Md} {X:Cx} {o e k a b c value:Expr} {es:List Expr} {pos p pos' apos cpos:Pos} {i j:Nat} {x y:Str} {da db dc dk:Ro→Rs T} {dx:Ro→Rs Sl} {ds:Ro→Rs (List T)}
theorem qb1 (h:PE X e (qho i)):DX M X e (dXV i):=by
 refine PE.weak h fun σ H Q hq=> ?_
 obtain ⟨H0,B0,ρ,B,ev,w⟩:=hq
 unfold dXV at w
 split at w
 ·rename_i t e1
  obtain ⟨s,es,ks⟩:=qpU (α:=Unit) w
  obtain ⟨x,e2,r⟩:=ev.get e1
  obtain ⟨p,rfl,d⟩:=qsf ev.bh r es
  exact ⟨_,e2,ks p H B (.refl ev.bh ev.bt) ev.gm d⟩
 ·rename_i s nf e1
  split at w
  ·rename_i hd
   obtain ⟨p,es,h0,hb,hs,_⟩:=ev.getD' e1 hd
   exact ⟨_,es,w p H B (.refl ev.bh ev.bt) ev.gm hs⟩
  ·exact w.elim
 ·exact w.elim
theorem qfm {K:PySem.W.Frag} {H B H' B':Hp} {p:Addr} {s:Sl} (h:DAt K H B p s) (g:qa0 H B H' B'):DAt K H' B' p s:=by
 cases s with
 | od k=>obtain ⟨us,a,b⟩:=h; exact ⟨us,g.gx.hh _ _ a nofun,b.mono g.bb⟩
 | pd k=>obtain ⟨us,a,b⟩:=h; exact ⟨us,g.gx.hh _ _ a nofun,b.mono g.bb⟩
 | ou k=>obtain ⟨us,a,b⟩:=h; exact ⟨us,g.gx.hh _ _ a nofun,b.mono g.bb⟩
 | pu k=>obtain ⟨us,a,b⟩:=h; exact ⟨us,g.gx.hh _ _ a nofun,b.mono g.bb⟩
 | _=>exact h
theorem qpc {K:PySem.W.Frag} {H B:Hp} {p:Addr} {s:Sl} (h:DAt K H B p s):IsD H p:=by
 cases s with
 | od k=>obtain ⟨us,a,b⟩:=h; exact .inl ⟨us,.inl a⟩
 | pd k=>obtain ⟨us,a,b⟩:=h; exact .inl ⟨us,.inl a⟩
 | ou k=>obtain ⟨us,a,b⟩:=h; exact .inr ⟨us,.inl a⟩
 | pu k=>obtain ⟨us,a,b⟩:=h; exact .inr ⟨us,.inl a⟩
 | _=>exact h.elim
def qiC (s:Sl) (k:T):Rs T:=match lookS s k with | some (some t)=>.ok t | _=>.no
def qb9 (dx:Ro→Rs Sl) (dk:Ro→Rs T):Ro→Rs T:=fun ρ=>dx ρ>>=fun s=>dk ρ>>=fun k=>qiC s k
theorem qfk (hu:X.A.units+1<cLine) (ho:DX M X o dx) (hk:DE M X k dk) (hs:qq7 k:=by intro _ _; rfl):DE M X (.Subscript o k pos) (qb9 dx dk):=by
 refine PE.weak (qjT hu ho hk hs) fun σ H Q hq=> ?_
 obtain ⟨H0,B0,ρ,B,ev,w⟩:=hq
 refine ⟨H0,B0,ρ,B,ev,Wnt.mono (Wnt.bind (qaw.mp w)) fun s w1 p H1 B1 g1 m1 hs=> ?_⟩
 have ev1:=ev.grow g1 m1
 refine tP.of ev1 (Wnt.mono (Wnt.bind w1) fun kt w2 y H2 B2 g2 m2 r2=> ?_)
 have ev2:=ev1.grow g2 m2
 unfold qiC at w2
 split at w2
 ·rename_i t el
  obtain ⟨ov,g,a1,_⟩:=qg4 (qfm hs g2) ev2.bh r2 el
  obtain ⟨v,rfl,rv⟩:=a1 t rfl
  exact ⟨p,v,rfl,g,w2 v H2 B2 (g1.trans g2) m2 rv⟩
 ·exact w2.elim
def qeJ (s:Sl) (k t:T):Rs T:=match lookS s k with | some o=>.ok (o.getD t) | none=>.no
def qcB (dx:Ro→Rs Sl) (dk da:Ro→Rs T):Ro→Rs T:=fun ρ=>dx ρ>>=fun s=>dk ρ>>=fun k=>da ρ>>=fun t=>qeJ s k t
theorem qdU (hu:X.A.units+1<cLine) (ho:DX M X o dx) (hk:DE M X k dk) (ha:DE M X a da) (m:M2 X o "get" apos k a cpos):DE M X (.Call (.Attribute o "get" apos) [k,a] [] cpos) (qcB dx dk da):=by
 refine PE.weak (qmd hu ho hk ha m) fun σ H Q hq=> ?_
 obtain ⟨H0,B0,ρ,B,ev,w⟩:=hq
 refine ⟨H0,B0,ρ,B,ev,Wnt.mono (Wnt.bind (qaw.mp w)) fun s w1 p H1 B1 g1 m1 hs=> ?_⟩
 have ev1:=ev.grow g1 m1
 refine ⟨p,rfl,qpc hs,?_⟩
 refine tP.of ev1 (Wnt.mono (Wnt.bind w1) fun kt w2 y H2 B2 g2 m2 r2=> ?_)
 have ev2:=ev1.grow g2 m2
 refine tP.of ev2 (Wnt.mono (Wnt.bind w2) fun t w3 z H3 B3 g3 m3 r3=> ?_)
 have ev3:=ev2.grow g3 m3
 unfold qeJ at w3
 split at w3
 ·rename_i oo el
  obtain ⟨ov,g,a1,a2⟩:=qg4 (qfm (qfm hs g2) g3) ev3.bh (r2.mono g3.bb) el
  refine ⟨ov,g,?_⟩
  cases oo with
  | none=>rw[a2 rfl]; exact w3 z H3 B3 ((g1.trans g2).trans g3) m3 r3
  | some t'=>obtain ⟨v,rfl,rv⟩:=a1 t' rfl; exact w3 v H3 B3 ((g1.trans g2).trans g3) m3 rv
 ·exact w3.elim
def inX (neg:Bool) (s:Sl) (k:T):Rs T:=match lookS s k with | some o=>.ok (.bl (if neg then !o.isSome else o.isSome)) | none=>.no
def qiN (neg:Bool) (dk:Ro→Rs T) (dx:Ro→Rs Sl):Ro→Rs T:=fun ρ=>dk ρ>>=fun k=>dx ρ>>=fun s=>inX neg s k
theorem qhj {neg:Bool} {σ:St} {H:Hp} {Q:VK} (h:tP M (qiN neg dk dx) σ H Q):tP M dk σ H fun y H1=>tX M dx σ H1 fun x H2=> ∃a o,x= .ref a∧qfu H2 a y o∧Q (.bl (if neg then !o.isSome else o.isSome)) H2:=by
 obtain ⟨H0,B0,ρ,B,ev,w⟩:=h
 refine tP.of ev (Wnt.mono (Wnt.bind (qaw.mp w)) fun kt w1 y H1 B1 g1 m1 r1=> ?_)
 have ev1:=ev.grow g1 m1
 refine ⟨H0,B0,ρ,B1,ev1,Wnt.mono (Wnt.bind w1) fun s w2 p H2 B2 g2 m2 hs=> ?_⟩
 have ev2:=ev1.grow g2 m2
 unfold inX at w2
 split at w2
 ·rename_i oo el
  obtain ⟨ov,g,a1,a2⟩:=qg4 hs ev2.bh (r1.mono g2.bb) el
  have:ov.isSome=oo.isSome:=by
   cases oo with
   | none=>rw[a2 rfl]; rfl
   | some t'=>obtain ⟨v,rfl,_⟩:=a1 t' rfl; rfl
  exact ⟨p,ov,rfl,g,by rw[this]; exact w2 _ H2 B2 (g1.trans g2) m2 qce⟩
 ·exact w2.elim
theorem qqR (hu:X.A.units+1<cLine) (hk:DE M X k dk) (ho:DX M X o dx) (hm:behindInMarks .In o=false:=by rfl):DT M X (.Compare k [.In] [o] pos) (dTB (qiN false dk dx)):=
 PT.weak (qnj (qql hu hk ho) hm) fun _ _ _ h=>qhj (neg:=false) (qca h)
theorem qkU (hu:X.A.units+1<cLine) (hk:DE M X k dk) (ho:DX M X o dx) (hm:behindInMarks .NotIn o=false:=by rfl):DT M X (.Compare k [.NotIn] [o] pos) (dTB (qiN true dk dx)):=
 PT.weak (qnj (qjX hu hk ho) hm) fun _ _ _ h=>qhj (neg:=true) (qca h)
def qjL (ρ:Ro) (i:Nat) (s:Sl) (k t:T):Rs Out:=if qns s≤1000 then (match qtz s k t with | some s'=>.ok (.nx (ρ.set i s')) | none=>.no) else .no
def qcu (i:Nat) (dk da:Ro→Rs T):Ro→Rs Out:=fun ρ=>qez ρ i>>=fun s=>da ρ>>=fun t=>dk ρ>>=fun k=>qjL ρ i s k t
theorem qds (hu:X.A.units+1<cLine) (ho:PE X o (qho i)) (hk:DE M X k dk) (hv:DE M X value da) (hs:swapsWith value (some (.Subscript o k pos')) pos.line X.env=pure false:=by rfl):
  DS M X (.Assign [.Subscript o k pos'] value pos) (qcu i dk da):=by
 refine PS.weak (qoe hu ho hk hv hs) fun D σ H hq=> ?_
 obtain ⟨H0,B0,ρ,B,ev,w⟩:=hq
 obtain ⟨s,e0,hd,w⟩:=qcQ w
 refine tP.of ev (Wnt.mono (Wnt.bind w) fun t w1 v H1 B1 g1 m1 r1=> ?_)
 have ev1:=ev.grow g1 m1
 obtain ⟨p,es,h0,hb,hs0,_⟩:=ev1.getD' e0 hd
 refine ⟨.ref p,es,?_⟩
 refine tP.of ev1 (Wnt.mono (Wnt.bind w1) fun kt w2 y H2 B2 g2 m2 r2=> ?_)
 have ev2:=ev1.grow g2 m2
 obtain ⟨p',es',h0',hb',hs',_⟩:=ev2.getD' e0 hd
 rw[es] at es'; cases es'
 unfold qjL at w2
 split at w2
 ·rename_i hl
  split at w2
  ·rename_i s' ep
   obtain ⟨ob,g,nt,ha,lk⟩:=qpb hs' ev2.bh hb' r2 (r1.mono g2.bb) hl ep
   refine ⟨p,_,rfl,g,w2 σ _ B2 ?_ (g1.bb.trans g2.bb)⟩
   have:=ev2.behindQ (H':=upd H2 p ob) (B':=B2) (s':=s') e0 hd es ⟨⟨fun a o z n=> ?_,fun a z=> ?_⟩,.refl _,fun a o z=> ?_,ev2.bt,fun _ _ _ _ _=>rfl⟩ (M.G.st H2 _ (fun a o z n1 n2 n3 n4=> ?_) m2) hb' ha
   ·rw[lk] at this; exact this
   ·have:=qcp z; rw[qag this.2]; exact this.1
   ·by_cases q:a=p
    ·subst q; rw[qak]; simp
    ·rw[qag q]; rw[qbH q] at z; exact z
   ·rw[qag (qap z hb')]; exact ev2.bh _ _ z
   ·rw[qag (fun q=> ?_)]; exact z
    subst q
    cases s with
    | od k=>obtain ⟨us,a,b⟩:=hs'; rw[a] at z; exact n2 _ (Option.some.inj z).symm
    | pd k=>obtain ⟨us,a,b⟩:=hs'; rw[a] at z; exact n2 _ (Option.some.inj z).symm
    | ou k=>obtain ⟨us,a,b⟩:=hs'; rw[a] at z; exact n3 _ (Option.some.inj z).symm
    | pu k=>obtain ⟨us,a,b⟩:=hs'; rw[a] at z; exact n3 _ (Option.some.inj z).symm
    | _=>exact hs'.elim
  ·exact w2.elim
 ·exact w2.elim
end
end PL
end
section
namespace PL
open PySem PySem.Spec PyProof.Rows L2 SR SetL
theorem Inv.freeze {X:Cx} {pins:List (Addr×Obj)} {σ:L2.St} {H:Hp} {s:Shared} {p:Addr} {us:List (Key×V)} (I:Inv X pins σ H s) (e:H p=some (.dK us)): ∃o,Inv X pins σ (upd H p (.frz o (.dK us))) s:=by
 obtain ⟨hz,hs,vs,kv,o,es,ep,ho,hd⟩:=qo1 I.hok e
 have nn: ∀b,H b=none→(upd H p (.frz o (.dK us))) b=none:=fun b n=>by rw[qag (fun z=>by rw[z,e] at n; cases n)]; exact n
 have nk: ∀b u,H b=some u→(∀ks,u≠.dK ks)→(upd H p (.frz o (.dK us))) b=some u:=fun b u n d=>by
  rw[qag (fun z=>by rw[z,e] at n; cases n; exact d us rfl)]; exact n
 have st: ∀b u,qa2 X.prog X.w H s.heap b u→qa2 X.prog X.w (upd H p (.frz o (.dK us))) s.heap b u:=fun b u q=>q.stay (fun _ _ _ q=>q) (fun c q=>nk c _ q (by intro _ z; cases z)) fun c xs q=>nk c _ q (by intro _ z; cases z)
 refine ⟨o,⟨I.ok,I.os,I.bare,⟨I.base.keep,I.base.slot,fun b ob a n hx=>nn b (I.base.free b ob a n hx),I.base.there,fun b xs q=>nk b _ (I.base.tups b xs q) (by intro _ z; cases z),fun b ob u q=>nk b _ (I.base.frzs b ob u q) (by intro _ z; cases z),fun b ps q=> ?_⟩,
  I.loc,I.cell,nn _ I.free,fun x c q=>nn _ (I.freeC x c q),fun q hq=> ?_,fun b u q=> ?_,I.len⟩⟩
 ·obtain ⟨more,q⟩:=I.base.tbls b ps q
  exact ⟨more,nk b _ q (by intro _ z; cases z)⟩
 ·obtain ⟨a,b,c⟩:=I.pin q hq
  exact ⟨a,nn _ b,c⟩
 ·by_cases z:b=p
  ·subst z
   rw[qak] at q
   cases q
   exact ⟨ho,st _ _ (I.hok _ _ e)⟩
  ·rw[qag z] at q
   exact st _ _ (I.hok b u q)
def qrp (ds:Ro→Rs (List (Key×T))):Ro→Rs T:=fun ρ=>ds ρ>>=fun t=>.ok (.dcf t)
theorem qjC {K:PySem.W.Frag} {B:Hp} {kvs:List (Key×T)} {v:V} (r:Rep K B (.dcf kvs) v): ∃p o us,v= .ref p∧B p=some (.frz o (.dK us))∧qbc K B kvs us:=by unfold Rep at r; exact r
def qmS:T→Rs (List (Key×T))
 | .dcf kvs=>.ok kvs
 | _=>.no
section
variable {M:Md} {X:Cx} {e o k a tg:Expr} {pos apos cpos:Pos} {da dk do_:Ro→Rs T} {ds:Ro→Rs (List (Key×T))}
theorem qk2 (h:DN M X e ds):DE M X e (qrp ds):=by
 intro pins s σ H Q I hq
 obtain ⟨H0,B0,ρ,B,ev,w⟩:=hq
 refine thn (h pins s σ H (fun v H1=> ∃p us t B1,v= .ref p∧qa0 H B H1 B1∧M.G.P H1∧H p=none∧B1 p=none∧H1 p=some (.dK us)∧qbc M.K B1 t us∧(∀v' H' B',qa0 H B H' B'→M.G.P H'→Rep M.K B' (.dcf t) v'→Q v' H')) I
  ⟨H0,B0,ρ,B,ev,Wnt.mono (Wnt.bind (qaw.mp w)) fun t w1 p us H1 B1 g1 m1 hp hb hl r=>⟨p,us,t,B1,rfl,g1,m1,hp,hb,hl,r,w1⟩⟩) fun u s1 h1=> ?_
 obtain ⟨x,H1,I1,r1,p,us,t,B1,rfl,g1,m1,hp,hb,hl,rd,w1⟩:=h1
 obtain ⟨ob,I2⟩:=Inv.freeze I1 hl
 have le:Le B1 (upd B1 p (.frz ob (.dK us))):=fun a o z=>by rw[qag (qap z hb)]; exact z
 have g2:qa0 H B (upd H1 p (.frz ob (.dK us))) (upd B1 p (.frz ob (.dK us))):=by
  refine ⟨⟨fun a o z n=> ?_,fun a z=> ?_⟩,g1.bb.trans le,fun a o z=> ?_,fun a ps z=> ?_,fun a o z n1 n2=> ?_⟩
  ·rw[qag (fun q=>by rw[q,hp] at z; cases z)]; exact g1.gx.hh a o z n
  ·rw[qag (fun q=>by rw[q] at z; exact z hp)]; exact g1.gx.dm a z
  ·by_cases q:a=p
   ·subst q; rw[qak] at z⊢; exact z
   ·rw[qag q] at z⊢; exact g1.bh a o z
  ·by_cases q:a=p
   ·subst q; rw[qak] at z; cases z
   ·rw[qag q] at z; exact g1.bt a ps z
  ·rw[qag (fun q=>by rw[q,hp] at z; cases z)]; exact g1.nw a o z n1 n2
 have m2:M.G.P (upd H1 p (.frz ob (.dK us))):=M.G.st H1 _ (fun a u z _ d _ _=>by rw[qag (fun q=>by rw[q,hl] at z; cases z; exact d us rfl)]; exact z) m1
 refine ⟨.ref p,_,I2,r1,w1 _ _ _ g2 m2 ?_⟩
 unfold Rep
 exact ⟨p,ob,us,rfl,qak,rd.mono le⟩
def qg8 (do_ dk:Ro→Rs T):Ro→Rs T:=fun ρ=>do_ ρ>>=fun d=>dk ρ>>=fun k=>qmS d>>=fun kvs=>qoD kvs k
theorem qo7 (hu:X.A.units+1<cLine) (ho:DE M X o do_) (hk:DE M X k dk) (hs:qq7 k:=by intro _ _; rfl):DE M X (.Subscript o k pos) (qg8 do_ dk):=by
 refine PE.weak (qjT hu ho hk hs) fun σ H Q hq=> ?_
 obtain ⟨H0,B0,ρ,B,ev,w⟩:=hq
 refine tP.of ev (Wnt.mono (Wnt.bind (qaw.mp w)) fun d w1 v H1 B1 g1 m1 r1=> ?_)
 have ev1:=ev.grow g1 m1
 refine tP.of ev1 (Wnt.mono (Wnt.bind w1) fun kt w2 y H2 B2 g2 m2 r2=> ?_)
 cases d with
 | dcf kvs=>
  obtain ⟨p,ob,us,rfl,hp,rd⟩:=qjC r1
  unfold qmS at w2
  dsimp only[qad] at w2
  unfold qoD at w2
  split at w2
  ·rename_i k' ek
   split at w2
   ·rename_i t et
    obtain ⟨v,ev',rv⟩:=(rd.val k').1 t et
    refine ⟨p,v,rfl,?_,w2 v H2 B2 (g1.trans g2) m2 (rv.mono g2.bb)⟩
    rw[qeh ek r2,←ev']
    exact .inl ⟨us,k',.inr ⟨ob,g2.bh _ _ (g2.bb _ _ hp)⟩,rfl,rfl⟩
   ·exact w2.elim
  ·exact w2.elim
 | _=>exact w2.elim
end
def Itd (a:Addr) (o:Obj) (us:List (Key×V)):It:=
 ⟨fun i H=>H a=some (.frz o (.dK us))∧i<us.length,fun i H x H'=>H'=H∧∃k v,us[i]? =some (k,v)∧x=kV k,fun i H=>H a=some (.frz o (.dK us))∧us.length≤i⟩
theorem qg1 {P:Program} {w:World} {H:Hp} {h:Heap} {a:Addr} {o:Obj} {us:List (Key×V)} {es:Array DictEntry} {ep:Nat} (hok:HOk P w H h) (e:H a=some (.frz o (.dK us))) (hd:o.data= .dict es ep):
  ∃vs,KV us vs∧h.DictAt (qaI P w) a vs ep∧(a==sysModules)=false∧us.length≤sizeLine:=by
 obtain ⟨h1,hz,hs,vs,kv,o',es',ep',h2,hx,hd',r⟩:=hok a _ e
 rw[h1] at h2; cases h2
 rw[hd] at hd'; cases hd'
 exact ⟨vs,kv,⟨o,es,h1,hx,hd,r⟩,hs,hz⟩
theorem qjf {P:Program} {w:World} {K:PySem.W.Frag} {tg:Expr} {a it:Addr} {o:Obj} {us:List (Key×V)} {es:Array DictEntry} {ep:Nat} (hd:o.data= .dict es ep):qnM P w K tg (Itd a o us) [it] it (fun i h=>h.IsKeyIter it a i us.length ep) where
 mem:=by simp
 obj:=fun i h st b hb=>by
  have e:b=it:=by simpa using hb
  subst e
  obtain ⟨o,e,c,d⟩:=st
  exact ⟨o,e,fun v z=>by rw[d] at z; cases z⟩
 keep:=fun i h h' st k=>st.at fun o e=>k it (by simp) o e
 item:=by
  intro X hP hw hK hc i pins s σ H E I hf st hg
  subst hP hw hK
  obtain ⟨ha,hi⟩:=hg
  obtain ⟨vs,kv,hA,_,_⟩:=qg1 I.hok ha hd
  have lv:=kv.length
  rw[lv] at st
  obtain ⟨⟨k,x⟩,hx⟩: ∃p,vs[i]? =some p:=⟨vs[i]'(by omega),by simp⟩
  obtain ⟨v,hu,_⟩:=kv.get hx
  obtain ⟨f0,f1,f2,f3,f4,f5⟩:=hf it (by simp)
  refine wpAny_pyNext_dict_item st hA hx fun key h' hk st' sb=> ?_
  have I1:Inv X pins σ H { s with heap:=h' }:=I.turned (t':=s.toks) (fun b o hb e=>(sb.2 b hb).trans e) f0 f1 f3 f4 f5
  obtain ⟨o',e,c,d⟩:=id st'
  rw[←lv] at st'
  exact ⟨key,rfl,qkH (s:={ s with heap:=h' }) e c d (by decide) ⟨kV k,H,I1,qsS hk,⟨rfl,k,v,hu,rfl⟩,st',fun b hb=>(hf b hb).1⟩⟩
 done:=by
  intro X hP hw hK hc i pins s σ H E I hf st hg
  subst hP hw hK
  obtain ⟨ha,hi⟩:=hg
  obtain ⟨vs,kv,hA,_,_⟩:=qg1 I.hok ha hd
  have lv:=kv.length
  rw[lv] at st
  obtain ⟨f0,f1,f2,f3,f4,f5⟩:=hf it (by simp)
  exact wpAny_pyNext_dict_end (I.ok.hd hc) st hA (by simp; omega) fun h' eb=>⟨rfl,I.turned (t':=s.toks) (fun b o hb e=>eb b o hb e) f0 f1 f3 f4 f5⟩
 self:=fun _ _ _ _ _ st h=>wpAny_pyIter_keyiter st h
def quB (tl:TE):TI:=fun σ H R=>tl σ H fun x H1=> ∃a o us,x= .ref a∧H1 a=some (.frz o (.dK us))∧(us.length≤sizeLine→R (Itd a o us) H1)
section
variable {M:Md} {X:Cx} {tg e l:Expr} {da:Ro→Rs T} {tl:TE}
theorem qok (hl:PE X l tl):PI X tg l (quB tl):=by
 intro pins s σ H R I h
 refine thn (hl pins s σ H _ I h) fun v s1 hq=> ?_
 obtain ⟨x,H1,I1,r1,a,o,us,e,ha,q⟩:=hq
 subst e
 cases r1
 obtain ⟨h1,hz,hs,vs0,kv0,o',es,ep,h2,hx,hd,_⟩:=I1.hok a _ ha
 rw[h1] at h2; cases h2
 obtain ⟨vs,kv,hA,_,_⟩:=qg1 I1.hok ha hd
 refine wpAny_pyIter_dict hs hA ?_
 have lv:=kv.length
 refine ⟨s1.heap.objs.size,[s1.heap.objs.size],_,_,H1,rfl,I1.kept (t':=s1.toks) fun b o e=>Heap.get?_push_of_some _ e,qjf hd,⟨_,Heap.get?_push_size _ rfl,rfl,by rw[lv]; rfl⟩,fun b hb=> ?_,q hz⟩
 have e:b=s1.heap.objs.size:=by simpa using hb
 subst e
 exact I1.fpOk (Nat.le_refl _) (I1.hok.fresh (Nat.le_refl _))
def qfl (t:T):Rs (List T):=qmS t>>=fun kvs=>.ok (kvs.map fun p=>qgN p.1)
def qtc (da:Ro→Rs T):Ro→Rs (List T):=fun ρ=>da ρ>>=qfl
theorem qo2 (h:DE M X e da):DI M X tg e (qtc da):=by
 refine PI.weak (qok h) fun σ H R hq=> ?_
 obtain ⟨H0,B0,ρ,B,ev,w⟩:=hq
 refine tP.of ev (Wnt.mono (Wnt.bind w) fun t w1 v H1 B1 g1 m1 r1=> ?_)
 cases t with
 | dcf kvs=>
  obtain ⟨p,o,us,rfl,hp,rd⟩:=qjC r1
  unfold qfl qmS at w1
  dsimp only[qad] at w1
  have lk:=rd.length
  refine ⟨p,o,us,rfl,g1.bh _ _ hp,fun hz=>w1 _ H1 B1 g1 m1 (by rw[List.length_map,←lk]; exact hz) fun H' B' le bh bt m i=>⟨fun t et=> ?_,fun hi=> ?_⟩⟩
  ·rw[List.getElem?_map] at et
   cases q:kvs[i]? with
   | none=>rw[q] at et; cases et
   | some pr=>
    rw[q] at et; cases et
    have hi:=(List.getElem?_eq_some_iff.mp q).1
    refine ⟨⟨bh _ _ (le _ _ hp),by omega⟩,fun y H'' ⟨e1,k,v,e2,e3⟩=> ?_⟩
    subst e1 e3
    obtain ⟨t',q2,_⟩:=rd.get e2
    rw[q] at q2; cases q2
    exact ⟨B',.refl bh bt,m,qlJ k⟩
  ·exact ⟨bh _ _ (le _ _ hp),by rw[hi,List.length_map,lk]; exact Nat.le_refl _⟩
 | _=>exact w1.elim
end
end PL
end
section
namespace PL
open PySem PySem.Spec L2
section
variable {M:Md} {X:Cx} {e o a:Expr} {apos cpos:Pos} {da:Ro→Rs T} {dq:Ro→Rs (Bool×List T)}
end
end PL
end
section
namespace DH
open PySem PySem.Spec PyProof.Rows PySem.W
variable {prog:Program} {w:World} {A:Around} {E:Value→Shared→Prop} {s:Shared}
def RawD (h:Heap) (d:Addr) (es:Array DictEntry) (ep:Nat):Prop:= ∃o,h.get? d=some o∧o.ExactDict∧o.data= .dict es ep
theorem RawD.at {h h':Heap} {d:Addr} {es:Array DictEntry} {ep:Nat} (x:RawD h d es ep) (k: ∀o,h.get? d=some o→h'.get? d=some o):RawD h' d es ep:=let ⟨o,a,b⟩:=x; ⟨o,k o a,b⟩
theorem RawD.lt {h:Heap} {d:Addr} {es:Array DictEntry} {ep:Nat} (x:RawD h d es ep):d<h.objs.size:=let ⟨_,a,_⟩:=x; Heap.lt_size a
theorem RawD.ty {d:Addr} {es:Array DictEntry} {ep:Nat} (x:RawD s.heap d es ep):s.TypeIs (.ref d) "dict" :=let ⟨o,a,b,_⟩:=x; ⟨o,a,b.1⟩
theorem qqB {d:Addr} {es:Array DictEntry} {ep:Nat} {Q:Value→Shared→Prop} (lo:(d==sysModules)=false) (x:RawD s.heap d es ep)
  (q:Q (.ref s.heap.objs.size) { s with heap:=s.heap.push { cls:=.type "dict_keyiterator",data:=.fields #[.ref d,.int 0 0,.int es.size 0,.int ep 0] } }):wpAny (model prog w) A (pyIter (.ref d)) Q E s:=by
 obtain ⟨o,ho,hx,hd⟩:=id x
 have ty:=x.ty
 refine wpAny_pyIter_slot ty F.slot_dict_iter (wpAny_call_entry F.slot_dict_iter ty F.entry_dict_iter ?_ (F.args_dict_iter_1 _))
 unfold Builtin.«dict.__iter__»; refine wpAny_bind ?_; unfold Builtin.Dict.dictSlotNone; refine wpAny_bind (wpAny_notOrdered_dict ty ?_)
 refine wpAny_pure (a:=Value.ref d) ?_
 show wpAny _ _ (Builtin.Dict.showsAll d>>=_) _ _ s; unfold Builtin.Dict.showsAll; rw[if_neg (by rw[lo]; exact Bool.false_ne_true)]; refine wpAny_bind (wpAny_pure ?_)
 refine wpAny_bind (wpAny_dictEntries ho hd (wpAny_bind (wpAny_dictEpoch ho hd ?_)))
 exact wpAny_bind (wpAny_newObj_type (wpAny_pure ⟨_,rfl, "dict_keyiterator",_,⟨_,Heap.get?_push_size _ rfl,rfl⟩,F.slot_dict_keyiterator_next.lookup,by simpa [rawInt] using q⟩))
theorem qsO {it d:Addr} {i ep:Nat} {es:Array DictEntry} {Q:Option Value→Shared→Prop} (hi:s.heap.IsKeyIter it d i es.size ep) (x:RawD s.heap d es ep) (lt:i<es.size)
  (q: ∀h',h'.IsKeyIter it d (i+1) es.size ep→Heap.SameBut it s.heap h'→Q (some es[i].key) { s with heap:=h' }):wpAny (model prog w) A (pyNext (.ref it)) Q E s:=by
 obtain ⟨o,ho,hc,hd⟩:=id hi
 obtain ⟨od,ho2,hx2,hd2⟩:=id x
 have ty:=hi.typeIs
 unfold pyNext; refine wpAny_bind (wpAny_attempt (wpAny_callSpecial?_slot (name:=Str.ofString "__next__") ty F.slot_dict_keyiterator_next (wpAny_call_entry F.slot_dict_keyiterator_next ty F.entry_dict_keyiterator_next ?_ (F.args_dict_keyiterator_next_1 _))))
 refine wpAny_bind (wpAny_pure ?_); refine wpAny_bind ?_; refine wpAny_bind ?_
 first | refine wpAny_bind (wpAny_typeNameOfWhole_keyiter ty (wpAny_pure ?_)) | refine wpAny_bind (wpAny_typeNameOf_keyiter ty (wpAny_pure ?_))
 refine wpAny_bind (wpAny_fieldsOf ho hd ?_)
 have ow:Builtin.Dict_items.ownsTuple "dict_keyiterator" =false:=by decide
 simp only[ow,Bool.false_eq_true,if_false]; show wpAny _ _ (if (Value.ref d==Value.none)=true then _ else _) _ _ s; rw[if_neg (show ¬((Value.ref d==Value.none)=true) from Bool.false_ne_true)]
 refine wpAny_bind (wpAny_pure ?_); refine wpAny_bind (wpAny_dictEntries ho2 hd2 ?_); rw[if_neg (by simp)]
 refine wpAny_bind (wpAny_pure ?_); refine wpAny_bind (wpAny_dictEpoch ho2 hd2 ?_); rw[if_neg (by simp)]; refine wpAny_pure ?_
 simp only[show ¬((i:Int)<0) from by omega,if_false,Int.toNat_natCast,Array.getElem?_eq_getElem lt]; refine wpAny_bind ?_
 first | refine wpAny_bind (wpAny_typeNameOfWhole_keyiter ty (wpAny_pure ?_)) | refine wpAny_bind (wpAny_typeNameOf_keyiter ty (wpAny_pure ?_))
 refine wpAny_bind (wpAny_isOneOf_keyiter ty ?_); show wpAny _ _ (setField (.ref it) 1 (rawInt ((i:Int)+1))>>=_) _ _ s; refine wpAny_bind (wpAny_setField ho hd (by simp) ?_)
 have hi2:(s.heap.update it (Obj.mapFields (·.setIfInBounds 1 (rawInt ((i:Int)+1))))).IsKeyIter it d (i+1) es.size ep:=⟨_,Heap.get?_update_self _ ho (Obj.isFreed_of_fields (Obj.data_mapFields hd _)),(Obj.cls_mapFields ..).trans hc,by rw[Obj.data_mapFields hd]; simp[rawInt]⟩
 refine wpAny_bind (wpAny_holding ?_); refine wpAny_bind (wpAny_isOneOf_keyiter (s:={ s with heap:=s.heap.update it (Obj.mapFields (·.setIfInBounds 1 (rawInt ((i:Int)+1)))) }) hi2.typeIs ?_)
 show wpAny _ _ (pure es[i].key) _ _ _; exact wpAny_pure (wpAny_pure ⟨_,rfl,wpAny_pure (q _ hi2 (Heap.SameBut.update ..))⟩)
theorem quF {it d:Addr} {i ep:Nat} {es:Array DictEntry} {Q:Option Value→Shared→Prop} (hh:A.handled=none) (hi:s.heap.IsKeyIter it d i es.size ep) (x:RawD s.heap d es ep) (ge:es.size≤i)
  (q: ∀h',Heap.ExtBut it s.heap h'→Q none { s with heap:=h' }):wpAny (model prog w) A (pyNext (.ref it)) Q E s:=by
 obtain ⟨o,ho,hc,hd⟩:=id hi
 obtain ⟨od,ho2,hx2,hd2⟩:=id x
 have ty:=hi.typeIs
 unfold pyNext; refine wpAny_bind (wpAny_attempt (wpAny_callSpecial?_slot (name:=Str.ofString "__next__") ty F.slot_dict_keyiterator_next (wpAny_call_entry F.slot_dict_keyiterator_next ty F.entry_dict_keyiterator_next ?_ (F.args_dict_keyiterator_next_1 _))))
 refine wpAny_bind (wpAny_pure ?_); refine wpAny_bind ?_; refine wpAny_bind ?_
 first | refine wpAny_bind (wpAny_typeNameOfWhole_keyiter ty (wpAny_pure ?_)) | refine wpAny_bind (wpAny_typeNameOf_keyiter ty (wpAny_pure ?_))
 refine wpAny_bind (wpAny_fieldsOf ho hd ?_)
 have ow:Builtin.Dict_items.ownsTuple "dict_keyiterator" =false:=by decide
 simp only[ow,Bool.false_eq_true,if_false]; show wpAny _ _ (if (Value.ref d==Value.none)=true then _ else _) _ _ s; rw[if_neg (show ¬((Value.ref d==Value.none)=true) from Bool.false_ne_true)]
 refine wpAny_bind (wpAny_pure ?_); refine wpAny_bind (wpAny_dictEntries ho2 hd2 ?_); rw[if_neg (by simp)]
 refine wpAny_bind (wpAny_pure ?_); refine wpAny_bind (wpAny_dictEpoch ho2 hd2 ?_); rw[if_neg (by simp)]; refine wpAny_pure ?_
 simp only[show ¬((i:Int)<0) from by omega,if_false,Int.toNat_natCast,Array.getElem?_eq_none ge]; refine wpAny_bind ?_
 first | refine wpAny_bind (wpAny_typeNameOfWhole_keyiter ty (wpAny_pure ?_)) | refine wpAny_bind (wpAny_typeNameOf_keyiter ty (wpAny_pure ?_))
 show wpAny _ _ (setField (.ref it) 0 .none>>=_) _ _ s; refine wpAny_bind (wpAny_setField ho hd (by simp) ?_); show wpAny _ _ (newExc (.type "StopIteration") []>>=_) _ _ _
 refine wpAny_bind ?_; simp only[newExc,newTuple]; refine wpAny_bind (wpAny_newObj_type ?_ (by size_fits))
 refine wpAny_bind (m:=firstArgMember _ _) (wpAny_of_eq (a:=Value.none) (by first | rfl | (simp only[firstArgMember]; rfl)) ?_); refine wpAny_newObj_type ?_ (by size_fits)
 simp only[raiseNew]; refine wpAny_bind (wpAny_handled ?_); rw[show A.in1.handled=none from hh]; refine wpAny_bind (wpAny_pure (wpAny_throw ?_))
 refine wpAny_bind (wpAny_isInstance (T:= "StopIteration") (b:=true) ⟨_,Heap.get?_push_size _ rfl,rfl⟩ isSubtype_stop ?_); exact wpAny_pure (q _ (((Heap.SameBut.update ..).extBut.push _).push _))
theorem qpE (hh:A.handled=none) (I d:Addr) (ne:d≠I) (es:Array DictEntry) (ep:Nat):
  Walks prog w A I [I,d] [I] es.size (fun i v=> ∃e,es[i]? =some e∧v=e.key) (fun i h=>h.IsKeyIter I d i es.size ep∧RawD h d es ep) where
 sub:=fun b hb=>by simp at hb; simp[hb]
 frame:=fun _ _ _ st hk=>⟨st.1.at fun o e=>hk I (by simp) o e,st.2.at fun o e=>hk d (by simp) o e⟩
 item:=fun i s Q E hi st hQ=>qsO st.1 st.2 hi fun h' a b=>hQ _ h' s.toks ⟨es[i],by simp[hi],rfl⟩ ⟨a,st.2.at fun o e=>b.extBut d o ne e⟩ fun c o hc e=>b.extBut c o (fun z=>hc (by simp[z])) e
 done:=fun s Q E st hQ=>quF hh st.1 st.2 (Nat.le_refl _) fun h' b=>hQ h' s.toks fun c o hc e=>b c o (fun z=>hc (by simp[z])) e
 self:=fun _ _ _ _ st hQ=>wpAny_pyIter_keyiter st.1 hQ
theorem qt8 {d:Addr} {es:Array DictEntry} {ep:Nat} (lo:(d==sysModules)=false):KdlSrc prog w "dict" d d es.size (fun i v=> ∃e,es[i]? =some e∧v=e.key) (fun h=>RawD h d es ep) where
 type:=fun _ m=>m.ty
 there:=fun _ m=>⟨m.lt,m.lt⟩
 keep:=fun _ _ m k=>m.at fun o e=>k d (.inl rfl) o e
 notList:=by decide
 notTuple:=by decide
 hint:=fun _ _ _ _ m q=>kdl_hint_dict m.ty q
 iter:=fun _ _ hh m=>⟨_,_,fun _ _ q=>qqB lo m q,qpE hh _ d (Nat.ne_of_lt m.lt) es ep,⟨⟨_,Heap.get?_push_size _ rfl,rfl,rfl⟩,m.at fun o e=>Heap.get?_push_of_some _ e⟩⟩
theorem collectD {d:Addr} {es:Array DictEntry} {ep:Nat} {R:List Value→Shared→Prop} (hh:A.handled=none) (lo:(d==sysModules)=false) (m:RawD s.heap d es ep) (hn:es.size≤sizeLine)
  (h: ∀(h':Heap) (tk:Nat),(∀b o,s.heap.get? b=some o→h'.get? b=some o)→R (es.toList.map (·.key)) { s with heap:=h',toks:=tk }):wpAny (model prog w) A (collect (.ref d)) R E s:=by
 refine kdu_collect (qt8 lo) hh m hn fun h' tk acc k hI=> ?_
 have:acc.toList=es.toList.map (·.key):=by
  refine List.ext_getElem? fun j=> ?_
  rw[List.getElem?_map,Array.getElem?_toList,Array.getElem?_toList]
  by_cases c:j<acc.size
  ·obtain ⟨e,h1,h2⟩:=hI.2 j acc[j] (by simp[c])
   rw[h1,Array.getElem?_eq_getElem c,h2]; rfl
  ·have: ¬j<es.size:=by rw[←hI.1]; exact c
   rw[Array.getElem?_eq_none (by omega),Array.getElem?_eq_none (by omega)]; rfl
 rw[this]
 exact h h' tk k
end DH
end
section
namespace DH
open PySem PySem.Spec PyProof.Rows PySem.W L2
variable {prog:Program} {w:World} {A:Around} {E:Value→Shared→Prop} {s:Shared}
abbrev IS:=Int×Str
def gtIS (x y:IS):Bool:=if x.1=y.1 then (if x.2=y.2 then false else decide (y.2.cps.toList<x.2.cps.toList)) else decide (y.1<x.1)
def ISAt (h:Heap) (x:IS) (p:Addr):Prop:= ∃t u,IsTup h p #[.int x.1 t,.str x.2 u]
theorem ISAt.keep {h h':Heap} {x:IS} {p:Addr} (a:ISAt h x p) (k: ∀o,h.get? p=some o→h'.get? p=some o):ISAt h' x p:=by
 obtain ⟨t,u,o,e,r⟩:=a
 exact ⟨t,u,o,k o e,r⟩
theorem qsV {x y:IS} {p q:Addr} {Q:Value→Shared→Prop} (hp:ISAt s.heap x p) (hq:ISAt s.heap y q) (hu:A.units<cLine) (h:Q (.bool (gtIS x y)) s):wpAny (model prog w) A (richCompare .Gt (.ref p) (.ref q)) Q E s:=by
 obtain ⟨t1,t2,o1,e1,c1,n1,d1⟩:=hp
 obtain ⟨t3,t4,o2,e2,c2,n2,d2⟩:=hq
 have ty1:s.TypeIs (.ref p) "tuple" :=⟨o1,e1,c1⟩
 have ty2:s.TypeIs (.ref q) "tuple" :=⟨o2,e2,c2⟩
 refine wpAny_richCompare_same_room (op:=.Gt) ty1 ty2 F.slot_tuple_gt (wpAny_call_entry F.slot_tuple_gt ty1 F.entry_tuple_gt ?_ (F.args_tuple_gt_2 _ _)) hu
 show wpAny _ _ (isInstance (.ref q) (.type "tuple")>>=_) _ _ s
 refine wpAny_bind (wpAny_isInstance ty2 isSubtype_tuple_tuple ?_)
 simp only[Bool.not_true,Bool.false_eq_true,if_false]
 refine wpAny_bind (wpAny_tupleItemsOf e1 d1 (wpAny_bind (wpAny_tupleItemsOf e2 d2 ?_)))
 simp only[List.zip_cons_cons,List.zip_nil_left,List.forIn_cons,List.forIn_nil]
 refine wpAny_bind (wpAny_bind (wpAny_bind ((qaI prog w).eqBool (a:=.inl x.1) (b:=.inl y.1) (qej (k:=.inl x.1) ⟨t1,rfl⟩) (qej (k:=.inl y.1) ⟨t3,rfl⟩) ?_)))
 unfold gtIS at h
 by_cases c:x.1=y.1
 ·rw[if_pos c] at h
  rw[decide_eq_true (show (Sum.inl x.1:Key)= .inl y.1 by rw[c])]
  simp only[Bool.not_true,Bool.false_eq_true,if_false]
  refine wpAny_pure (wpAny_bind (wpAny_bind ((qaI prog w).eqBool (a:=.inr x.2) (b:=.inr y.2) (qej (k:=.inr x.2) ⟨t2,rfl⟩) (qej (k:=.inr y.2) ⟨t4,rfl⟩) ?_)))
  by_cases c2:x.2=y.2
  ·rw[if_pos c2] at h
   rw[decide_eq_true (show (Sum.inr x.2:Key)= .inr y.2 by rw[c2])]
   simp only[Bool.not_true,Bool.false_eq_true,if_false]
   refine wpAny_pure (wpAny_pure ?_)
   exact wpAny_pure ⟨_,rfl,(fun z=>nomatch z),h⟩
  ·rw[if_neg c2] at h
   rw[decide_eq_false (show ¬(Sum.inr x.2:Key)= .inr y.2 from fun z=>c2 (Sum.inr.inj z))]
   simp only[Bool.not_false,if_true]
   refine wpAny_bind (wpAny_rule ?_)
   refine wpAny_bind (PySem.P.gt_str ?_)
   exact wpAny_pure (wpAny_pure (wpAny_pure ⟨_,rfl,(fun z=>nomatch z),h⟩))
 ·rw[if_neg c] at h
  rw[decide_eq_false (show ¬(Sum.inl x.1:Key)= .inl y.1 from fun z=>c (Sum.inl.inj z))]
  simp only[Bool.not_false,if_true]
  refine wpAny_bind (wpAny_rule ?_)
  refine wpAny_bind (PySem.P.gt_int ?_)
  exact wpAny_pure (wpAny_pure (wpAny_pure ⟨_,rfl,(fun z=>nomatch z),h⟩))
section
variable {R:Result→Shared→Prop} {I:Addr} {fp wr:List Addr} {n:Nat} {P:Nat→Value→Prop} {St:Nat→Heap→Prop}
def qtr (prog:Program) (w:World) (A:Around) (P:Nat→Value→Prop) (St:Nat→Heap→Prop) (bt:Nat→Nat→Bool):Prop:=
 ∀i j k a b (s:Shared) (Q:Value→Shared→Prop) (E:Value→Shared→Prop),St k s.heap→P i a→P j b→Q (.bool (bt i j)) s→wpAny (model prog w) A (richCompare .Gt a b) Q E s
theorem qc0:(toString "max" ++toString ".loop" :String)= "max.loop" :=by decide
theorem qka (W:Walks prog w A.in1 I fp wr n P St) (bt:Nat→Nat→Bool) (cm:qtr prog w A.in1 P St bt) (S:Addr) (nf:S∉fp): ∀(m j:Nat) (s:Shared) (x:Value) (c:Nat),n - (j+1)=m→j+1≤n→St (j+1) s.heap→P (argBest bt j) x→
  s.heap.get? S=some { cls:=.type "list",dict:=none,data:=.seq #[x,x] c,slots:= #[] }→
  (∀v h' tk,P (argBest bt (n - 1)) v→(∀b o,b∉wr→b≠S→s.heap.get? b=some o→h'.get? b=some o)→R (.ok (.ret v)) { s with heap:=h',toks:=tk })→codeAny (model prog w) A (.builtin "max.loop" ⟨[.ref I,.none,.ref S],[]⟩) R s:=by
 have nw:S∉wr:=fun h=>nf (W.sub _ h)
 intro m
 induction m with
 | zero=>
  intro j s x c e1 e2 st px eS k
  have jn:j+1=n:=by omega
  refine codeAny_builtin F.entry_max_loop ?_; rw[Around.under_plainId F.plain_max_loop _]; show wpAny _ A.in1 (seqItems? (.ref S)>>=_) _ _ s
  refine wpAny_bind (wpAny_seqItems eS rfl ?_); show wpAny _ A.in1 (tryCatch (pyNext (.ref I)) _>>=_) _ _ s
  refine wpAny_bind (wpAny_tryCatch (W.done s _ _ (jn▸st) fun h1 t1 kp=> ?_))
  have eS1:=kp S _ nw eS
  show wpAny _ A.in1 (updateSeq S (fun _=> #[])>>=_) _ _ _; refine wpAny_bind ?_; refine wpAny_updateSeq eS1 rfl (wpAny_bind (wpAny_letGo (wpAny_pure ?_)))
  exact k x _ t1 (by rw[←jn]; exact px) fun b o nb ns eb=>(Heap.get?_update_other _ _ (Ne.symm ns)).trans (kp b o nb eb)
 | succ m ih=>
  intro j s x c e1 e2 st px eS k
  have lt:j+1<n:=by omega
  refine codeAny_builtin F.entry_max_loop ?_; rw[Around.under_plainId F.plain_max_loop _]; show wpAny _ A.in1 (seqItems? (.ref S)>>=_) _ _ s
  refine wpAny_bind (wpAny_seqItems eS rfl ?_); show wpAny _ A.in1 (tryCatch (pyNext (.ref I)) _>>=_) _ _ s
  refine wpAny_bind (wpAny_tryCatch (W.item (j+1) s _ _ lt st fun v h1 t1 pv st1 kp=> ?_))
  have eS1:=kp S _ nw eS
  show wpAny _ A.in1 (tryCatch (holding [v,v] (richCompare .Gt v x>>=_)) _>>=_) _ _ _
  refine wpAny_bind (wpAny_tryCatch (wpAny_holding (wpAny_bind (cm (j+1) (argBest bt j) _ v x _ _ _ st1 pv px ?_)))); refine wpAny_bind (wpAny_holding (wpAny_truthy_bool ?_)); refine wpAny_bind (wpAny_letGo (wpAny_pure ?_))
  cases eb:bt (j+1) (argBest bt j) with
  | true=>
   simp only[if_true]; refine wpAny_bind ?_; refine wpAny_updateSeq eS1 rfl (wpAny_bind (wpAny_letGo ?_)); rw[qc0]
   refine wpAny_pure ⟨plainId_quiet F.plain_max_loop _,ih (j+1) _ v _ (by omega) lt (W.frame _ _ _ st1 fun b bf o ob=> ?_) (by simp only[argBest,eb,if_true]; exact pv) (Heap.get?_update_self _ eS1 rfl) fun v2 h2 t2 pv2 kp2=> ?_⟩
   ·exact (Heap.get?_update_other _ _ (fun z:S=b=>nf (by rw[z]; exact bf))).trans ob
   ·exact k v2 h2 t2 pv2 fun b o nb ns ob=>kp2 b o nb ns ((Heap.get?_update_other _ _ (Ne.symm ns)).trans (kp b o nb ob))
  | false=>
   simp only[Bool.false_eq_true,if_false]; refine wpAny_bind (wpAny_letGo ?_); rw[qc0]
   exact wpAny_pure ⟨plainId_quiet F.plain_max_loop _,ih (j+1) _ x c (by omega) lt st1 (by simp only[argBest,eb,Bool.false_eq_true,if_false]; exact px) eS1 fun v2 h2 t2 pv2 kp2=>k v2 h2 t2 pv2 fun b o nb ns ob=>kp2 b o nb ns (kp b o nb ob)⟩
theorem qkb (W:Walks prog w A.in1 I fp wr n P St) (bt:Nat→Nat→Bool) (cm:qtr prog w A.in1 P St bt) (S:Addr) (nf:S∉fp) (hn:0<n) {s:Shared} {c:Nat} (st:St 0 s.heap) (eS:s.heap.get? S=some { cls:=.type "list",dict:=none,data:=.seq #[] c,slots:= #[] })
  (k: ∀v h' tk,P (argBest bt (n - 1)) v→(∀b o,b∉wr→b≠S→s.heap.get? b=some o→h'.get? b=some o)→R (.ok (.ret v)) { s with heap:=h',toks:=tk }):codeAny (model prog w) A (.builtin "max.loop" ⟨[.ref I,.none,.ref S],[]⟩) R s:=by
 have nw:S∉wr:=fun h=>nf (W.sub _ h)
 refine codeAny_builtin F.entry_max_loop ?_; rw[Around.under_plainId F.plain_max_loop _]; show wpAny _ A.in1 (seqItems? (.ref S)>>=_) _ _ s
 refine wpAny_bind (wpAny_seqItems eS rfl ?_); show wpAny _ A.in1 (tryCatch (pyNext (.ref I)) _>>=_) _ _ s
 refine wpAny_bind (wpAny_tryCatch (W.item 0 s _ _ hn st fun v h1 t1 pv st1 kp=> ?_))
 have eS1:=kp S _ nw eS
 show wpAny _ A.in1 (updateSeq S (fun _=> #[v,v])>>=_) _ _ _; refine wpAny_bind ?_; refine wpAny_updateSeq eS1 rfl ?_; rw[qc0]
 refine wpAny_pure ⟨plainId_quiet F.plain_max_loop _,qka W bt cm S nf _ 0 _ v _ rfl hn (W.frame _ _ _ st1 fun b bf o ob=> ?_) pv (Heap.get?_update_self _ eS1 rfl) fun v2 h2 t2 pv2 kp2=> ?_⟩
 ·exact (Heap.get?_update_other _ _ (fun z:S=b=>nf (by rw[z]; exact bf))).trans ob
 ·exact k v2 h2 t2 pv2 fun b o nb ns ob=>kp2 b o nb ns ((Heap.get?_update_other _ _ (Ne.symm ns)).trans (kp b o nb ob))
theorem qle {x:Value} {Q:Value→Shared→Prop} (h:wpAny (model prog w) A.in1 (pyIter x) (fun it s1=> ∃I fp wr n P St bt,it= .ref I∧Walks prog w A.in1 I fp wr n P St∧St 0 s1.heap∧(∀b∈fp,b<s1.heap.objs.size)∧0<n∧qtr prog w A.in1 P St bt∧
   ∀v h' tk,P (argBest bt (n - 1)) v→(∀b o,b∉wr→s1.heap.get? b=some o→h'.get? b=some o)→Q v { s1 with heap:=h',toks:=tk }) E s):wpAny (model prog w) A (call (.builtin "max") [x]) Q E s:=by
 refine call_function_tree F.kind_max F.plain_max F.entry_max (F.args_max1 _) ?_; show wpAny _ A.in1 (Builtin.Builtins.bindParams "max" ["key", "default"] 0 ⟨[],[]⟩>>=_) _ _ s
 refine wpAny_bind (wpAny_of_eq (show Builtin.Builtins.bindParams "max" ["key", "default"] 0 ⟨[],[]⟩=pure [none,none] from rfl) ?_); refine wpAny_bind (wpAny_pure ?_)
 refine wpAny_bind (wpAny_mono h (fun it s1 hq=> ?_) fun _ _ z=>z)
 obtain ⟨I,fp,wr,n,P,St,bt,rfl,W,st,lo,hn,cm,k⟩:=hq
 refine wpAny_bind (wpAny_newObj_type ?_)
 have nf:s1.heap.objs.size∉fp:=fun m=>Nat.lt_irrefl _ (lo _ m)
 rw[qc0]
 refine wpAny_pure ⟨plainId_quiet F.plain_max_loop _,qkb W bt cm s1.heap.objs.size nf hn (W.frame _ _ _ st fun b _ o ob=>Heap.get?_push_of_some _ ob) (Heap.get?_push_size _ rfl) fun v h' tk pv kp=> ?_⟩
 exact k v h' tk pv fun b o nb ob=>kp b o nb (Nat.ne_of_lt (Heap.lt_size ob)) (Heap.get?_push_of_some _ ob)
end
end DH
end
section
namespace DH
open PySem PySem.Spec PyProof.Rows PySem.W L2
variable {prog:Program} {w:World} {A:Around} {E:Value→Shared→Prop} {s:Shared}
theorem qrx {I:Addr} {fp wr more:List Addr} {n:Nat} {P:Nat→Value→Prop} {St:Nat→Heap→Prop} {T:Heap→Prop} (W:Walks prog w A I fp wr n P St) (nw: ∀b∈more,b∉wr)
  (hT: ∀h h':Heap,T h→(∀b∈more,∀o,h.get? b=some o→h'.get? b=some o)→T h'):Walks prog w A I (fp++more) wr n P (fun i h=>St i h∧T h) where
 sub:=fun b hb=>List.mem_append.mpr (.inl (W.sub b hb))
 frame:=fun i h h' st k=>⟨W.frame i h h' st.1 fun b hb o e=>k b (List.mem_append.mpr (.inl hb)) o e,hT _ _ st.2 fun b hb o e=>k b (List.mem_append.mpr (.inr hb)) o e⟩
 item:=fun i s Q E hi st hQ=>W.item i s Q E hi st.1 fun v h' tk pv st' k=>hQ v h' tk pv ⟨st',hT _ _ st.2 fun b hb o e=>k b o (nw b hb) e⟩ k
 done:=fun s Q E st hQ=>W.done s Q E st.1 hQ
 self:=fun i s Q E st hQ=>W.self i s Q E st.1 hQ
def bestIS (xs:List IS):Nat:=argBest (fun i j=>gtIS (xs.getD i (0, "")) (xs.getD j (0, ""))) (xs.length - 1)
theorem argBest_le (bt:Nat→Nat→Bool): ∀k,argBest bt k≤k
 | 0=>Nat.le_refl _
 | k+1=>by
  unfold argBest
  split
  ·exact Nat.le_refl _
  ·exact Nat.le_succ_of_le (argBest_le bt k)
theorem bestIS_lt {xs:List IS} (h:xs≠[]):bestIS xs<xs.length:=by
 have:=argBest_le (fun i j=>gtIS (xs.getD i (0, "")) (xs.getD j (0, ""))) (xs.length - 1)
 have:=List.length_pos_iff.mpr h
 unfold bestIS
 omega
theorem call_maxD {d:Addr} {es:Array DictEntry} {ep:Nat} {xs:List IS} {qs:List Addr} {Q:Value→Shared→Prop} (hh:A.in1.handled=none) (hu:A.in1.units<cLine) (lo:(d==sysModules)=false) (m:RawD s.heap d es ep) (hk:es.toList.map (·.key)=qs.map Value.ref) (hl:xs.length=qs.length) (hne:xs≠[])
  (ht: ∀j q,qs[j]? =some q→ISAt s.heap (xs.getD j (0, "")) q)
  (h: ∀(h':Heap) (tk:Nat),(∀b o,s.heap.get? b=some o→h'.get? b=some o)→Q (.ref (qs.getD (bestIS xs) 0)) { s with heap:=h',toks:=tk }):wpAny (model prog w) A (call (.builtin "max") [.ref d]) Q E s:=by
 have n1:es.size=qs.length:=by have:=congrArg List.length hk; simpa using this
 have key: ∀{i:Nat} {v:Value},(∃e,es[i]? =some e∧v=e.key)→∃q,qs[i]? =some q∧v= .ref q:=fun {i v} hv=>by
  obtain ⟨e,h1,h2⟩:=hv
  have h3:=congrArg (fun l=>l[i]?) hk
  simp only[List.getElem?_map,Array.getElem?_toList,h1,Option.map_some] at h3
  cases q:qs[i]? with
  | none=>rw[q] at h3; cases h3
  | some a=>rw[q] at h3; exact ⟨a,rfl,h2.trans (Option.some.inj h3)⟩
 have lq: ∀q∈qs,q<s.heap.objs.size:=fun q hq=>by
  obtain ⟨j,hj⟩:=List.mem_iff_getElem?.mp hq
  obtain ⟨t,u,o,e,_⟩:=ht j q hj
  exact Heap.lt_size e
 refine qle (qqB lo m ?_)
 refine ⟨_,_,_,es.size,_,_,fun i j=>gtIS (xs.getD i (0, "")) (xs.getD j (0, "")),rfl,qrx (more:=qs) (T:=fun h=> ∀j q,qs[j]? =some q→ISAt h (xs.getD j (0, "")) q) (qpE hh _ d (Nat.ne_of_lt m.lt) es ep) (fun b hb z=> ?_) (fun h h' t k j q hj=>(t j q hj).keep fun o e=>k q (List.mem_of_getElem? hj) o e),
  ⟨⟨⟨_,Heap.get?_push_size _ rfl,rfl,rfl⟩,m.at fun o e=>Heap.get?_push_of_some _ e⟩,fun j q hj=>(ht j q hj).keep fun o e=>Heap.get?_push_of_some _ e⟩,fun b hb=> ?_,?_,fun i j k a b s1 Q1 E1 st pa pb hq=> ?_,fun v h' tk pv kp=> ?_⟩
 ·have e:b=s.heap.objs.size:=by simpa using z
  exact absurd (lq b hb) (by rw[e]; exact Nat.lt_irrefl _)
 ·show b<(Heap.push _ _).objs.size
  rw[PyProof.Rows.size_push']
  rcases List.mem_append.mp hb with hb | hb
  ·have hb':b=s.heap.objs.size∨b=d:=by simpa using hb
   rcases hb' with rfl | rfl
   ·exact Nat.lt_succ_self _
   ·exact Nat.lt_succ_of_lt m.lt
  ·exact Nat.lt_succ_of_lt (lq b hb)
 ·rw[n1,←hl]; exact List.length_pos_iff.mpr hne
 ·obtain ⟨q1,e1,rfl⟩:=key pa
  obtain ⟨q2,e2,rfl⟩:=key pb
  exact qsV (st.2 i q1 e1) (st.2 j q2 e2) hu hq
 ·obtain ⟨q,e1,rfl⟩:=key pv
  have e2:argBest (fun i j=>gtIS (xs.getD i (0, "")) (xs.getD j (0, ""))) (es.size - 1)=bestIS xs:=by unfold bestIS; rw[n1,hl]
  rw[e2] at e1
  have:qs.getD (bestIS xs) 0=q:=by rw[List.getD_eq_getElem?_getD,e1]; rfl
  rw[←this]
  refine h h' tk fun b o ob=>kp b o (fun z=> ?_) (Heap.get?_push_of_some _ ob)
  have:b=s.heap.objs.size:=by simpa using z
  exact Nat.ne_of_lt (Heap.lt_size ob) this
theorem call_lenR {d:Addr} {es:Array DictEntry} {ep:Nat} {Q:Value→Shared→Prop} (lo:(d==sysModules)=false) (m:RawD s.heap d es ep) (hz:es.size≤sizeLine) (h:Q (.int es.size (s.toks+1)) { s with toks:=s.toks+1+1 }):wpAny (model prog w) A (call (.builtin "len") [.ref d]) Q E s:=by
 obtain ⟨o,ho,hx,hd⟩:=id m
 have ty:=m.ty
 rw[sizeLine_eq] at hz
 refine Calls.call_function_entry kind_len plain_len entry_len (args_len1 _) ?_
 unfold Builtin.«len»; refine wpAny_bind (m:=oneArg "len" _) (wpAny_pure ?_)
 refine wpAny_bind (m:=callSpecial? (.ref d) (Str.ofString "__len__")) (wpAny_callSpecial?_slot (name:=Str.ofString "__len__") ty F.slot_dict_len (wpAny_call_entry F.slot_dict_len ty F.entry_dict_len ?_ (F.args_dict_len_1 _)))
 show wpAny _ _ (dictSize d>>=_) _ _ s; unfold dictSize; refine wpAny_bind (wpAny_bind (wpAny_dictEntries ho hd (wpAny_pure ?_)))
 show wpAny _ _ (Builtin.Dict.pendingCount d>>=_) _ _ s; refine wpAny_bind (wpAny_pendingCount_other lo ?_); refine wpAny_ret_mkInt ?_
 rw[show ((es.size:Int)+((0:Nat):Int))=(es.size:Int) by simp]
 refine wpAny_bind (wpAny_holding (wpAny_pure ?_)); refine wpAny_bind (wpAny_letGo ?_)
 show wpAny _ _ (if ((es.size:Nat):Int)<0 then _ else _) _ _ _; rw[if_neg (by omega)]
 show wpAny _ _ (if ((es.size:Nat):Int)≥2 ^ 63 then _ else _) _ _ _; rw[if_neg (by omega)]
 exact wpAny_bind (wpAny_mkInt (wpAny_pure ⟨_,rfl,h⟩))
theorem call_clearR {d:Addr} {es:Array DictEntry} {ep:Nat} {Q:Value→Shared→Prop} (m:RawD s.heap d es ep) (hz:es.size≤sizeLine) (h: ∀h',RawD h' d #[] (ep+1)→Heap.SameBut d s.heap h'→Q .none { s with heap:=h' }):wpAny (model prog w) A (call (.builtin "dict.clear") [.ref d]) Q E s:=by
 obtain ⟨o,ho,hx,hd⟩:=id m
 have ty:=m.ty
 refine wpAny_call_entry F.slot_dict_clear ty F.entry_dict_clear ?_ (F.args_dict_clear_1 _)
 unfold Builtin.«dict.clear»; refine wpAny_bind ?_; unfold Builtin.Dict.noArgs; refine wpAny_bind (wpAny_notOrdered_dict ty ?_)
 refine wpAny_pure (a:=d) ?_
 refine wpAny_bind (wpAny_dictEntries ho hd ?_); refine wpAny_bind ?_; unfold bearsInstanceDictMark; refine wpAny_bind (wpAny_load ho (wpAny_pure ?_)); refine wpAny_bind (wpAny_updateDictKeys (hz:=hz) ho hd ?_)
 have nw:RawD (s.heap.update d (Obj.mapDictKeys fun _=> #[])) d #[] (ep+1):=⟨_,Heap.get?_update_self _ ho (Obj.isFreed_of_dict (Obj.data_mapDictKeys hd _)),hx.mapDictKeys _,Obj.data_mapDictKeys hd _⟩
 split
 ·exact wpAny_bind (wpAny_letGo (wpAny_pure ⟨.none,rfl,h _ nw (Heap.SameBut.update ..)⟩))
 ·exact wpAny_bind (wpAny_pure (wpAny_pure ⟨.none,rfl,h _ nw (Heap.SameBut.update ..)⟩))
end DH
end
section
namespace PL
open PySem L2
def qls (H B:Hp) (qs:List Addr):Hp:=fun a=>if a∈qs then H a else B a
theorem qa0.absorb {H B:Hp} {qs:List Addr} (le:Le B H) (bt: ∀a ps,B a≠some (.tbl ps)) (h: ∀q∈qs,∃vs,H q=some (.tup vs)):qa0 H B H (qls H B qs):=by
 refine ⟨.refl _,fun a o e=> ?_,fun a o e=> ?_,fun a ps e=> ?_,fun a o e n1 _=> ?_⟩
 ·unfold qls; split
  ·exact le _ _ e
  ·exact e
 ·unfold qls at e; split at e
  ·exact e
  ·exact le _ _ e
 ·unfold qls at e; split at e
  ·rename_i m; obtain ⟨vs,z⟩:=h a m; rw[z] at e; cases e
  ·exact bt a ps e
 ·unfold qls; rw[if_neg (fun m=>by obtain ⟨vs,z⟩:=h a m; rw[z] at e; exact n1 vs (Option.some.inj e).symm)]
theorem qps {H B:Hp} {qs:List Addr} {q:Addr} (h:q∈qs):qls H B qs q=H q:=by unfold qls; rw[if_pos h]
section
variable {X:Cx} {pins:List (Addr×Obj)} {σ:St} {H:Hp} {s:Shared}
theorem qgY {p:Addr} {us:List (List Key×V)} (I:L2.Inv X pins σ H s) (hp:H p=some (.dT us)): ∃(qs:List Addr) (es:Array DictEntry) (ep:Nat),DH.RawD s.heap p es ep∧(p==sysModules)=false∧us.length≤sizeLine∧es.toList.map (·.key)=qs.map Value.ref∧es.size=us.length∧qs.length=us.length∧
  ∀(j:Nat) (q:Addr),qs[j]? =some q→∃k v,us[j]? =some (k,v)∧H q=some (.tup (k.map kV)):=by
 obtain ⟨hz,lo,xs,kt,o,es,ep,ho,hx,hd,he,hk,nd⟩:=qqS I.hok hp
 have lx:us.length=xs.length:=Paired.length kt
 refine ⟨xs.map (·.2.1),es,ep,⟨o,ho,hx,hd⟩,lo,hz,by rw[he,List.map_map,List.map_map]; rfl,?_,by rw[List.length_map,lx],fun j q e=> ?_⟩
 ·have:=congrArg List.length he
  rw[List.length_map] at this
  rw[lx,←this]; simp
 ·have go: ∀{us:List (List Key×V)} {xs:List (List Key×Addr×Value)} {j:Nat} {q:Addr},KT H us xs→(xs.map (·.2.1))[j]? =some q→∃k v,us[j]? =some (k,v)∧H q=some (.tup (k.map kV)):=fun {us xs j q} kt=>by
   induction kt generalizing j with
   | nil=>intro e; cases j<;>cases e
   | cons c _ ih=>
    intro e
    cases j with
    | zero=>
     rw[List.map_cons,List.getElem?_cons_zero] at e
     have e:=Option.some.inj e
     refine ⟨_,_,List.getElem?_cons_zero,?_⟩
     rw[←e]
     exact c.2.1
    | succ j=>obtain ⟨k,v,e1,e2⟩:=ih (j:=j) (by simpa using e); exact ⟨k,v,by simpa using e1,e2⟩
  exact go kt e
theorem qnB {p:Addr} {us:List (Key×V)} (I:L2.Inv X pins σ H s) (hp:H p=some (.dK us)): ∃(es:Array DictEntry) (ep:Nat),DH.RawD s.heap p es ep∧(p==sysModules)=false∧us.length≤sizeLine∧es.size=us.length:=by
 obtain ⟨hz,lo,vs,kv,o,es,ep,ho,hx,hd,h4,h5,h6⟩:=qo1 I.hok hp
 refine ⟨es,ep,⟨o,ho,hx,hd⟩,lo,hz,?_⟩
 have:=h5.length
 rw[kv.length,←this]; simp
theorem qk3 {K:PySem.W.Frag} {B:Hp} {p:Addr} {u:Sl} (I:L2.Inv X pins σ H s) (h:DAt K H B p u): ∃(es:Array DictEntry) (ep:Nat),DH.RawD s.heap p es ep∧(p==sysModules)=false∧es.size=qns u∧es.size≤sizeLine:=by
 cases u with
 | od k=>obtain ⟨us,a,b⟩:=h; obtain ⟨es,ep,r,lo,hz,e⟩:=qnB I a; exact ⟨es,ep,r,lo,by rw[e]; exact b.length,by rw[e]; exact hz⟩
 | pd k=>obtain ⟨us,a,b⟩:=h; obtain ⟨es,ep,r,lo,hz,e⟩:=qnB I a; exact ⟨es,ep,r,lo,by rw[e]; exact b.length,by rw[e]; exact hz⟩
 | ou k=>obtain ⟨us,a,b⟩:=h; obtain ⟨qs,es,ep,r,lo,hz,_,e,_⟩:=qgY I a; exact ⟨es,ep,r,lo,by rw[e]; exact b.length,by rw[e]; exact hz⟩
 | pu k=>obtain ⟨us,a,b⟩:=h; obtain ⟨qs,es,ep,r,lo,hz,_,e,_⟩:=qgY I a; exact ⟨es,ep,r,lo,by rw[e]; exact b.length,by rw[e]; exact hz⟩
 | _=>exact h.elim
end
def qph (dx:Ro→Rs Sl):Ro→Rs T:=fun ρ=>dx ρ>>=fun s=>.ok (.int (qns s))
section
variable {M:Md} {X:Cx} {o e a:Expr} {pos p p1 apos cpos:Pos} {i:Nat} {dx:Ro→Rs Sl}
theorem qo5 (gl:Gl X "len") (ml:X.mg "len" =none) (ho:DX M X o dx) (he:starEach [o] X.env=(false,eval o X.env)::starEach [] X.env:=by rfl):DE M X (.Call (.Name "len" p) [o] [] pos) (qph dx):=by
 have cr:qcL X (.builtin "len") (fun xs H Q=> ∃a K B u,xs=[V.ref a]∧DAt K H B a u∧Q (.int (qns u)) H):=by
  intro pins s σ H xs us Q I r h
  obtain ⟨a,K,B,u,rfl,d,q⟩:=h
  obtain ⟨v,rfl,rv⟩:=qdZ r
  cases rv
  obtain ⟨es,ep,r,lo,e,hz⟩:=qk3 I d
  exact DH.call_lenR lo r hz ⟨.int (qns u),H,I.tok _,⟨_,by rw[e]⟩,q⟩
 refine PE.weak (qaE cr gl ml PySem.boot_len (qar ho qaH he) (he:=he)) fun σ H Q hq=> ?_
 obtain ⟨H0,B0,ρ,B,ev,w⟩:=hq
 refine ⟨H0,B0,ρ,B,ev,Wnt.mono (Wnt.bind (qaw.mp w)) fun s w1 p H1 B1 g1 m1 hs=> ?_⟩
 exact ⟨p,_,_,s,rfl,hs,w1 _ H1 B1 g1 m1 qaX⟩
def qtG:Sl→Sl
 | .od _=>.od []
 | .pd _=>.pd []
 | .ou _=>.ou []
 | .pu _=>.pu []
 | s=>s
def qpi (i:Nat):Ro→Rs Out:=fun ρ=>qez ρ i>>=fun s=>.ok (.nx (ρ.set i (qtG s)))
theorem qk9 {P:Program} {w:World} {H':Hp} {h':Heap} {p:Addr} {ep:Nat} (lo:(p==sysModules)=false) (r:DH.RawD h' p #[] ep):qa2 P w H' h' p (.dK [])∧qa2 P w H' h' p (.dT []):=by
 obtain ⟨o,ho,hx,hd⟩:=r
 exact ⟨⟨Nat.zero_le _,lo,[],.nil,o, #[],ep,ho,hx,hd,fun _ he=>by simp at he,.nil,List.nodup_nil⟩,⟨Nat.zero_le _,lo,[],.nil,o, #[],ep,ho,hx,hd,rfl,List.nodup_nil⟩⟩
theorem qoV (ho:PE X o (qho i)) (hbase:attributeBase o "clear" X.env (eval o X.env)=eval o X.env:=by rfl) (hline:(apos.endLine==cpos.line)=true:=by rfl) (hs:swapsWith (.Call (.Attribute o "clear" apos) [] [] cpos) none pos.line X.env=pure false:=by rfl):
  DS M X (.Expr (.Call (.Attribute o "clear" apos) [] [] cpos) pos) (qpi i):=by
 have pe:PE X (.Call (.Attribute o "clear" apos) [] [] cpos) (fun σ H Q=> ∃p K B u ob,σ[i]? =some (some (V.ref p))∧DAt K H B p u∧(ob= .dK []∧(∃us,H p=some (.dK us))∨ob= .dT []∧∃us,H p=some (.dT us))∧Q .non (upd H p ob)):=by
  intro pins s σ H Q I h
  obtain ⟨p,K,B,u,ob,es,d,hob,q⟩:=h
  refine wpAny_Call_method0_late hbase hline (thn (ho pins s σ H (fun x H1=>x=V.ref p∧H1=H) I ⟨.ref p,es,rfl,rfl⟩) fun v s1 hv=> ?_)
  obtain ⟨x,H1,I1,rx,rfl,rfl⟩:=hv
  obtain rfl:v=Value.ref p:=rx
  have ty:tyV X.K "dict" (.ref p) H1:=by
   rcases hob with ⟨_,us,z⟩ | ⟨_,us,z⟩
   ·exact .inr (.inr (.inl ⟨rfl,.inl ⟨us,z⟩⟩))
   ·exact .inr (.inr (.inl ⟨rfl,.inr ⟨us,z⟩⟩))
  obtain ⟨h1,h2⟩:=qm8 (T:= "dict") (v:=.ref p) I1 (show RelV (.ref p) (.ref p) from rfl) ty
  obtain ⟨es',ep,r,lo,e,hz⟩:=qk3 I1 d
  refine ⟨"dict", "dict.clear",PySem.F.plainAttrs_dict,PySem.F.slot_dict_clear,PySem.F.type_dict_clear,h1,h2,Calls.callWith_builtin rfl (PySem.evalArgs_none (DH.call_clearR r hz fun h' r' sb=> ?_))⟩
  have hw: ∃q,h'.get? p=some q:=let ⟨q,hq,_⟩:=r'; ⟨q,hq⟩
  refine ⟨.non,_,qg5 (t':=s1.toks) (ob:=ob) I1 ?_ sb hw ?_,rfl,q⟩
  ·rcases hob with ⟨_,us,z⟩ | ⟨_,us,z⟩<;>rw[z]<;>exact True.intro
  ·rcases hob with ⟨rfl,_⟩ | ⟨rfl,_⟩
   ·exact (qk9 lo r').1
   ·exact (qk9 lo r').2
 refine PS.weak (qe8 pe hs) fun D σ H hq=> ?_
 obtain ⟨H0,B0,ρ,B,ev,w⟩:=hq
 obtain ⟨u,e0,hd,w⟩:=qcQ w
 obtain ⟨p,es,h0,hb,hs0,hpp⟩:=ev.getD' e0 hd
 have go: ∀ob u',(ob= .dK []∧(∃us,H p=some (.dK us))∨ob= .dT []∧∃us,H p=some (.dT us))→qtG u=u'→u.like u'=u'→DAt M.K (upd H p ob) B p u'→∃p K B u ob,σ[i]? =some (some (V.ref p))∧DAt K H B p u∧(ob= .dK []∧(∃us,H p=some (.dK us))∨ob= .dT []∧∃us,H p=some (.dT us))∧D.nx σ (upd H p ob):=fun ob u' hob e1 lk da=>by
  refine ⟨p,M.K,B,u,ob,es,hs0,hob,w σ _ B ?_ (.refl _)⟩
  rw[e1]
  have:=ev.behindQ (H':=upd H p ob) (B':=B) (s':=u') e0 hd es ⟨⟨fun a o z n=> ?_,fun a z=> ?_⟩,.refl _,fun a o z=> ?_,ev.bt,fun _ _ _ _ _=>rfl⟩ (M.G.st H _ (fun a o z n1 n2 n3 n4=> ?_) ev.gm) hb da
  ·rw[lk] at this; exact this
  ·have:=qcp z; rw[qag this.2]; exact this.1
  ·by_cases q:a=p
   ·subst q; rw[qak]; simp
   ·rw[qag q]; rw[qbH q] at z; exact z
  ·rw[qag (qap z hb)]; exact ev.bh _ _ z
  ·rw[qag (fun q=> ?_)]; exact z
   subst q
   rcases hob with ⟨_,us,y⟩ | ⟨_,us,y⟩
   ·rw[y] at z; exact n2 _ (Option.some.inj z).symm
   ·rw[y] at z; exact n3 _ (Option.some.inj z).symm
 cases u with
 | od k=>obtain ⟨us,a,b⟩:=hs0; exact go (.dK []) _ (.inl ⟨rfl,us,a⟩) rfl rfl ⟨[],qak,.nil⟩
 | pd k=>obtain ⟨us,a,b⟩:=hs0; exact go (.dK []) _ (.inl ⟨rfl,us,a⟩) rfl rfl ⟨[],qak,.nil⟩
 | ou k=>obtain ⟨us,a,b⟩:=hs0; exact go (.dT []) _ (.inr ⟨rfl,us,a⟩) rfl rfl ⟨[],qak,.nil⟩
 | pu k=>obtain ⟨us,a,b⟩:=hs0; exact go (.dT []) _ (.inr ⟨rfl,us,a⟩) rfl rfl ⟨[],qak,.nil⟩
 | _=>cases hd
end
def qmu:List Key→Bool
 | [.inl _,.inr _]=>true
 | _=>false
def qb7:List Key→DH.IS
 | [.inl i,.inr s]=>(i,s)
 | _=>(0, "")
def isT (x:DH.IS):T:=.tup [.int x.1,.str x.2]
def kvU:Sl→Option (List (List Key×T))
 | .ou k=>some k
 | .pu k=>some k
 | _=>none
def qoA (s:Sl):Rs T:=match kvU s with
 | some kvs=>if kvs≠[]∧(kvs.all fun kv=>qmu kv.1)=true then .ok (isT ((kvs.map fun kv=>qb7 kv.1).getD (DH.bestIS (kvs.map fun kv=>qb7 kv.1)) (0, ""))) else .no
 | none=>.no
def qpg (dx:Ro→Rs Sl):Ro→Rs T:=fun ρ=>dx ρ>>=qoA
theorem qmt {k:List Key} (h:qmu k=true):k.map kV=[.int (qb7 k).1,.str (qb7 k).2]:=by
 unfold qmu at h
 split at h
 ·rfl
 ·cases h
section
variable {M:Md} {X:Cx} {o e a:Expr} {pos p p1 apos cpos:Pos} {i:Nat} {dx:Ro→Rs Sl}
theorem qqZ {K:PySem.W.Frag} {H B:Hp} {p:Addr} {s:Sl} {kvs:List (List Key×T)} (h:DAt K H B p s) (e:kvU s=some kvs): ∃us,H p=some (.dT us)∧qbr K B kvs us:=by
 cases s with
 | ou k=>cases e; exact h
 | pu k=>cases e; exact h
 | _=>cases e
theorem qhw {K:PySem.W.Frag} {B:Hp}: ∀{kvs:List (List Key×T)} {us:List (List Key×V)} {j:Nat} {k:List Key} {v:V},qbr K B kvs us→us[j]? =some (k,v)→∃t,kvs[j]? =some (k,t)
 | [],_,_,_,_,r,e=>by rw[r.inv0] at e; simp at e
 | (k0,t0)::kvs,_,0,k,v,r,e=>by
  obtain ⟨x,r',rfl,a,b⟩:=r.inv
  have e:(k0,x)=(k,v):=by simpa using e
  cases e
  exact ⟨t0,rfl⟩
 | (k0,t0)::kvs,_,j+1,k,v,r,e=>by
  obtain ⟨x,r',rfl,a,b⟩:=r.inv
  obtain ⟨t,h⟩:=qhw (j:=j) b (by simpa using e)
  exact ⟨t,by simpa using h⟩
theorem qkm {pins:List (Addr×Obj)} {σ:St} {H B:Hp} {s:Shared} {p:Addr} {kvs:List (List Key×T)} {us:List (List Key×V)} (I:L2.Inv X pins σ H s) (le:Le B H) (bt: ∀a ps,B a≠some (.tbl ps)) (hp:H p=some (.dT us)) (r:qbr M.K B kvs us) (hi:(kvs.all fun kv=>qmu kv.1)=true):
  ∃(qs:List Addr) (es:Array DictEntry) (ep:Nat),DH.RawD s.heap p es ep∧(p==sysModules)=false∧es.size≤sizeLine∧es.toList.map (·.key)=qs.map Value.ref∧qs.length=kvs.length∧qa0 H B H (qls H B qs)∧
   (∀(j:Nat) (q:Addr),qs[j]? =some q→DH.ISAt s.heap ((kvs.map fun kv=>qb7 kv.1).getD j (0, "")) q∧qls H B qs q=some (.tup [.int ((kvs.map fun kv=>qb7 kv.1).getD j (0, "")).1,.str ((kvs.map fun kv=>qb7 kv.1).getD j (0, "")).2])):=by
 obtain ⟨qs,es,ep,r1,lo,hz,hk,h1,h2,h3⟩:=qgY I hp
 have hl:us.length=kvs.length:=r.length
 have at_: ∀(j:Nat) (q:Addr),qs[j]? =some q→H q=some (.tup [.int ((kvs.map fun kv=>qb7 kv.1).getD j (0, "")).1,.str ((kvs.map fun kv=>qb7 kv.1).getD j (0, "")).2]):=fun j q e=>by
  obtain ⟨k,v,e1,e2⟩:=h3 j q e
  obtain ⟨t,e3⟩:=qhw r e1
  have:=List.all_eq_true.mp hi _ (List.mem_of_getElem? e3)
  rw[qmt this] at e2
  rw[List.getD_eq_getElem?_getD,List.getElem?_map,e3]
  exact e2
 refine ⟨qs,es,ep,r1,lo,by rw[h1]; exact hz,hk,by rw[h2,hl],.absorb le bt fun q hq=> ?_,fun j q e=>⟨?_,?_⟩⟩
 ·obtain ⟨j,hj⟩:=List.mem_iff_getElem?.mp hq
  exact ⟨_,at_ j q hj⟩
 ·obtain ⟨its,rv,pl,_⟩:=I.tuple (SqT.of (at_ j q e))
  cases rv with
  | cons a r=>
   obtain ⟨t,rfl⟩:=a
   cases r with
   | cons a r=>
    obtain ⟨u,rfl⟩:=a
    cases r
    exact ⟨t,u,pl⟩
 ·rw[qps (List.mem_of_getElem? e)]; exact at_ j q e
theorem qo4 (hc:X.calm=true) (hu:X.A.units+8<cLine) (gl:Gl X "max") (ml:X.mg "max" =none) (ho:DX M X o dx) (hK:X.K=M.K:=by rfl) (he:starEach [o] X.env=(false,eval o X.env)::starEach [] X.env:=by rfl):DE M X (.Call (.Name "max" p) [o] [] pos) (qpg dx):=by
 have cr:qcL X (.builtin "max") (fun xs H Q=> ∃a B u t,xs=[V.ref a]∧Le B H∧(∀a ps,B a≠some (.tbl ps))∧DAt M.K H B a u∧qoA u= .ok t∧∀v B',qa0 H B H B'→Rep M.K B' t v→Q v H):=by
  intro pins s σ H xs us Q I r h
  obtain ⟨a,B,u,t,rfl,le,bt,d,e,q⟩:=h
  obtain ⟨v,rfl,rv⟩:=qdZ r
  cases rv
  unfold qoA at e
  split at e
  ·rename_i kvs ek
   split at e
   ·rename_i hc2
    cases e
    obtain ⟨us,hp,ru⟩:=qqZ d ek
    obtain ⟨qs,es,ep,r1,lo,hz,hk,hl,g,at_⟩:=qkm (M:=M) I le bt hp ru hc2.2
    have hh:X.A.in1.handled=none:=I.ok.hd hc
    have hne:(kvs.map fun kv=>qb7 kv.1)≠[]:=fun z=>hc2.1 (List.map_eq_nil_iff.mp z)
    have hb:=DH.bestIS_lt hne
    rw[List.length_map] at hb
    refine DH.call_maxD (xs:=kvs.map fun kv=>qb7 kv.1) (qs:=qs) hh (by show X.A.units+1<cLine; omega) lo r1 hk (by rw[List.length_map,hl]) hne (fun j q e=>(at_ j q e).1) fun h' tk k=> ?_
    have e1:qs[DH.bestIS (kvs.map fun kv=>qb7 kv.1)]? =some (qs.getD (DH.bestIS (kvs.map fun kv=>qb7 kv.1)) 0):=by rw[List.getD_eq_getElem?_getD,List.getElem?_eq_getElem (by omega)]; rfl
    refine ⟨.ref _,H,I.kept (t':=tk) k,rfl,q _ _ g (qj4 (at_ _ _ e1).2 (.cons qaX (.cons qfI .nil)))⟩
   ·cases e
  ·cases e
 refine PE.weak (qaE cr gl ml qgl (qar ho qaH he) (he:=he)) fun σ H Q hq=> ?_
 obtain ⟨H0,B0,ρ,B,ev,w⟩:=hq
 refine ⟨H0,B0,ρ,B,ev,Wnt.mono (Wnt.bind (qaw.mp w)) fun s w1 p H1 B1 g1 m1 hs=> ?_⟩
 have ev1:=ev.grow g1 m1
 cases q:qoA s with
 | no=>rw[q] at w1; exact w1.elim
 | ex c=>unfold qoA at q; split at q<;>first | (split at q<;>cases q) | cases q
 | ok t=>
  rw[q] at w1
  exact ⟨p,B1,s,t,rfl,ev1.bh,ev1.bt,hs,q,fun v B' g rv=>w1 v H1 B' (g1.trans g) m1 rv⟩
end
end PL
end
section
namespace PL
open PySem L2 SR SetL
def qgO (x:DH.IS):List Ky:=[.i x.1,.s x.2]
theorem qko (x:DH.IS):qhN (isT x)=qgO x:=rfl
theorem qkn {h:Heap} {x:DH.IS} {q:Addr} (a:DH.ISAt h x q):qgt h (qgO x) (.ref q):=by
 obtain ⟨t,u,pl⟩:=a
 exact ⟨q,[.int x.1 t,.str x.2 u],rfl,pl,.cons ⟨t,rfl⟩ (.cons ⟨u,rfl⟩ .nil)⟩
def qgz (s:Sl):Rs (List T):=match kvU s with
 | some kvs=>if kvs.length<64∧(kvs.all fun kv=>qmu kv.1)=true then .ok (qim ((kvs.map fun kv=>qb7 kv.1).map isT)) else .no
 | none=>.no
def qib (dx:Ro→Rs Sl):Ro→Rs (List T):=fun ρ=>dx ρ>>=qgz
section
variable {M:Md} {X:Cx} {o e a:Expr} {pos p p1 apos cpos:Pos} {i:Nat} {dx:Ro→Rs Sl}
open PySem.W PyProof.Rows in
theorem qiM (hc:X.calm=true) (gl:Gl X "sorted") (ml:X.mg "sorted" =none) (ho:DX M X o dx) (hK:X.K=M.K:=by rfl) (he:starEach [o] X.env=(false,eval o X.env)::starEach [] X.env:=by rfl):DF M X (.Call (.Name "sorted" p) [o] [] pos) (qib dx):=by
 have cr:qcL X (.builtin "sorted") (fun xs H Q=> ∃a B u ts,xs=[V.ref a]∧Le B H∧(∀a ps,B a≠some (.tbl ps))∧M.G.P H∧DAt M.K H B a u∧qgz u= .ok ts∧∀D vs H' B',qa0 H B H' B'→M.G.P H'→H D=none→B' D=none→H' D=some (.lst vs)→qaL M.K B' ts vs→Q (.ref D) H'):=by
  intro pins s σ H xs us Q I r h
  obtain ⟨a,B,u,ts,rfl,le,bt,m,d,e,q⟩:=h
  obtain ⟨v,rfl,rv⟩:=qdZ r
  cases rv
  unfold qgz at e
  split at e
  case h_2=>cases e
  rename_i kvs ek
  split at e
  case isFalse=>cases e
  rename_i hc2
  cases e
  obtain ⟨us,hp,ru⟩:=qqZ d ek
  obtain ⟨qs,es,ep,r1,lo,hz,hk,hl,g,at_⟩:=qkm (M:=M) I le bt hp ru hc2.2
  have hh:X.A.in1.handled=none:=I.ok.hd hc
  generalize exs:(kvs.map fun kv=>qb7 kv.1)=xs at at_ q
  have lx:xs.length=qs.length:=by rw[←exs,List.length_map,hl]
  have l64:qs.length<64:=by rw[hl]; exact hc2.1
  have lj: ∀{j:Nat},j<qs.length→qs[j]? =some (qs.getD j 0):=fun {j} hj=>by rw[List.getD_eq_getElem?_getD,List.getElem?_eq_getElem hj]; rfl
  have vat: ∀{j:Nat},j<qs.length→(qs.map Value.ref).getD j Value.none= .ref (qs.getD j 0):=fun {j} hj=>by rw[List.getD_eq_getElem?_getD,List.getElem?_map,lj hj]; rfl
  have tat: ∀{j:Nat},j<qs.length→(xs.map isT).getD j .non=isT (xs.getD j (0, "")):=fun {j} hj=>by rw[List.getD_eq_getElem?_getD,List.getElem?_map,List.getD_eq_getElem?_getD,List.getElem?_eq_getElem (by omega)]; rfl
  have hR:qaL M.K (qls H B qs) (xs.map isT) (qs.map V.ref):=by
   refine .of_get (by simp; omega) fun j t' v' h1 h2=> ?_
   rw[List.getElem?_map] at h1 h2
   cases z:qs[j]? with
   | none=>rw[z] at h2; cases h2
   | some b=>
    rw[z] at h2; cases h2
    have hj:j<xs.length:=by have:=(List.getElem?_eq_some_iff.mp z).1; omega
    have e1:xs.getD j (0, "")=xs[j]:=by rw[List.getD_eq_getElem?_getD,List.getElem?_eq_getElem hj]; rfl
    rw[List.getElem?_eq_getElem hj,←e1] at h1; cases h1
    exact qj4 (at_ j b z).2 (.cons qaX (.cons qfI .nil))
  have key1: ∀{j:Nat},j<qs.length→(((xs.map isT).map qhN).map (qdj qdJ ((xs.map isT).map qhN))).getD j 0=qdj qdJ ((xs.map isT).map qhN) (qhN ((xs.map isT).getD j .non)):=fun {j} hj=>by
   have hj':j<(xs.map isT).length:=by rw[List.length_map]; omega
   rw[List.getD_eq_getElem?_getD,List.getElem?_map,List.getElem?_map,List.getElem?_eq_getElem hj',List.getD_eq_getElem?_getD,List.getElem?_eq_getElem hj']
   rfl
  have memt: ∀{j:Nat},j<qs.length→(xs.map isT).getD j .non∈xs.map isT:=fun {j} hj=>by
   have hj':j<(xs.map isT).length:=by rw[List.length_map]; omega
   rw[List.getD_eq_getElem?_getD,List.getElem?_eq_getElem hj']; exact List.getElem_mem hj'
  refine St.sorted_c (DH.collectD hh lo r1 hz fun h' tk kp=> ?_)
  rw[hk]
  have kt: ∀{j:Nat},j<qs.length→∀{h2:Heap},St.Kp h' h2→qgt h2 (qgO (xs.getD j (0, ""))) (.ref (qs.getD j 0)):=fun {j} hj {h2} k2=>qkn ((at_ j _ (lj hj)).1.keep fun o e=>k2 _ _ (kp _ _ e))
  refine ⟨h',tk,tuples' true,((xs.map isT).map qhN).map (qdj qdJ ((xs.map isT).map qhN)),rfl,kp,by simp; omega,by simp; omega,fun s' k2 h2 Q' E' hq'=> ?_,fun s' k2 i j hi hj C hC=> ?_,fun D h'' tk'' c p hD k2 ho' hget=> ?_⟩
  ·refine qkh (x:=0) (r:=[1]) (qs.map Value.ref) (.inl rfl) h2 (fun v hv=> ?_) hq'
   obtain ⟨j,hj,rfl⟩:=List.mem_iff_getElem.mp hv
   have hj':j<qs.length:=by simpa using hj
   have e1:(qs.map Value.ref)[j]= .ref (qs.getD j 0):=by
    have:=vat hj'
    rw[List.getD_eq_getElem?_getD,List.getElem?_eq_getElem hj] at this
    exact this
   rw[e1]
   exact ⟨_,kt hj' k2,rfl⟩
  ·have hi':i<qs.length:=by simpa using hi
   have hj':j<qs.length:=by simpa using hj
   rw[key1 hi',key1 hj',qcC qmj (List.mem_map.mpr ⟨_,memt hi',rfl⟩) (List.mem_map.mpr ⟨_,memt hj',rfl⟩),tat hi',tat hj',qko,qko] at hC
   rw[vat hi',vat hj']
   exact qoB (kt hi' k2) (kt hj' k2) rfl hC
  ·have I2:L2.Inv X pins σ H { s with heap:=h',toks:=tk }:=I.kept (t':=tk) kp
   have fD:H D=none:=I2.hok.fresh hD
   have rv:qa1 (qs.map V.ref) (qs.map Value.ref):=by
    have go: ∀l:List Addr,qa1 (l.map V.ref) (l.map Value.ref):=fun l=>by
     induction l with
     | nil=>exact .nil
     | cons b l ih=>exact .cons rfl ih
    exact go qs
   have I4:L2.Inv X pins σ (L2.upd H D (.lst (p.toList.map fun j=>(qs.map V.ref).getD j .non))) { s with heap:=h'',toks:=tk'' }:=by
    refine I2.laid k2 hD ⟨?_,_,c,L2.vals_pick rv p.toList,hget⟩
    rw[List.length_map,Array.length_toList,ho'.1.sz,sizeLine_eq]
    simp
    omega
   obtain ⟨g2,m2,bp⟩:=qcZ (M:=M) (ws:=p.toList.map fun j=>(qs.map V.ref).getD j .non) g.bh g.bt m fD
   refine ⟨.ref D,_,I4,rfl,q D _ _ _ (g.trans g2) m2 fD bp qak ?_⟩
   have ep':=qjY ho'
   have e:qim (xs.map isT)=p.toList.map fun j=>(xs.map isT).getD j .non:=by
    unfold qim qjm
    rw[ep',qjk (k':=fun j=>qdj qdJ ((xs.map isT).map qhN) (qhN ((xs.map isT).getD j .non))),qd4 (k:=fun t=>qdj qdJ ((xs.map isT).map qhN) (qhN t)) (f:=fun j=>(xs.map isT).getD j .non) (fun b=>rfl),show (qs.map Value.ref).length=(xs.map isT).length by simp; omega,Mir.map_range_getD]
    intro b hb
    have hb':b<qs.length:=by have:=List.mem_range.mp hb; simpa using this
    exact key1 hb'
   rw[e]
   have go: ∀l:List Nat,(∀j∈l,j<qs.length)→qaL M.K (qls H B qs) (l.map fun j=>(xs.map isT).getD j .non) (l.map fun j=>(qs.map V.ref).getD j .non):=fun l=>by
    induction l with
    | nil=>exact fun _=>.nil
    | cons j l ih=>exact fun hl=>.cons (hR.getD j (by rw[List.length_map]; have:=hl j List.mem_cons_self; omega)) (ih fun i hi=>hl i (List.mem_cons_of_mem _ hi))
   exact go _ fun j hj=>by have:=(Mir.order_mem ho' j).mp hj; simpa using this
 refine PE.weak (qaE cr gl ml SetL.boot_sorted (qar ho qaH he) (he:=he)) fun σ H Q hq=> ?_
 obtain ⟨H0,B0,ρ,B,ev,w⟩:=hq
 refine ⟨H0,B0,ρ,B,ev,Wnt.mono (Wnt.bind (qbR.mp w)) fun s w1 p H1 B1 g1 m1 hs=> ?_⟩
 have ev1:=ev.grow g1 m1
 cases q:qgz s with
 | no=>rw[q] at w1; exact w1.elim
 | ex c=>unfold qgz at q; split at q<;>first | (split at q<;>cases q) | cases q
 | ok t=>
  rw[q] at w1
  exact ⟨p,B1,s,t,rfl,ev1.bh,ev1.bt,m1,hs,q,fun D vs H' B' g m2 fD bD hD rs=>w1 D vs H' B' (g1.trans g) m2 (qbG g1.gx fD) bD hD rs⟩
end
end PL
end
section
namespace PL
open PySem L2
def luS {α:Type} (tbl:List (Str×α)) (z:Str):Option α:=(tbl.find? fun p=>decide (p.1=z)).map (·.2)
def qi4 (K:PySem.W.Frag) (mg:Str→Option Value) (w:World) (D:Str) (tbl:List (Str×Str)):Prop:=
 ∃(a:Addr) (es:Array DictEntry) (n:Nat),mg D=some (.ref a)∧K.lookup a=some ⟨.type "dict",none,.dict es n, #[]⟩∧PySem.W.KeysLit w.params es.toList∧(a==sysModules)=false∧
  ∀z,match luS tbl z with | none=>findBy Value.isStrOf es z=none | some g=> ∃f,findBy Value.isStrOf es z=some (.ref f)∧PySem.W.nsIn K mainGlobals g=some (some (.ref f))
def qpA (K:PySem.W.Frag) (D:Str):Option (List DictEntry):=match PySem.W.nsIn K mainGlobals D with
 | some (some (.ref a))=>(match K.lookup a with | some ⟨.type "dict",none,.dict es _,sl⟩=>if (a==sysModules)=false∧sl.size=0 then some es.toList else none | _=>none)
 | _=>none
def qpB (K:PySem.W.Frag):List DictEntry→List (Str×Str)→Bool
 | [],[]=>true
 | e::es,(k,g)::tb=>(match e.key,e.val,PySem.W.nsIn K mainGlobals g with | .str x _,.ref f,some (some (.ref f'))=>x==k&&f==f' | _,_,_=>false)&&qpB K es tb
 | _,_=>false
def qpN (K:PySem.W.Frag) (D:Str) (tbl:List (Str×Str)):Bool:=match qpA K D with
 | some es=>qpB K es tbl
 | none=>false
theorem qfY {K:PySem.W.Frag} {P:Params}: ∀{es:List DictEntry} {tbl:List (Str×Str)},qpB K es tbl=true→es.map (·.hash)=tbl.map (fun p=>PyData.keyHash P p.1)→PySem.W.KeysLit P es
 | [],[],_,_=>True.intro
 | e::es,(k,g)::tb,h,hh=>by
  unfold qpB at h
  have h:=Bool.and_eq_true_iff.mp h
  have h1:=h.1
  split at h1
  ·rename_i x t f f' e1 e2 e3
   have h1:=Bool.and_eq_true_iff.mp h1
   have:x=k:=by simpa using h1.1
   subst this
   exact ⟨⟨x,t,e1,(List.cons.inj hh).1⟩,qfY h.2 (List.cons.inj hh).2⟩
  ·cases h1
 | [],_::_,h,_=>by cases h
 | _::_,[],h,_=>by cases h
theorem qfZ {K:PySem.W.Frag} (z:Str): ∀{es:List DictEntry} {tbl:List (Str×Str)},qpB K es tbl=true→
  match luS tbl z with | none=>(es.find? fun e=>Value.isStrOf z e.key).map (·.val)=none | some g=> ∃f,(es.find? fun e=>Value.isStrOf z e.key).map (·.val)=some (.ref f)∧PySem.W.nsIn K mainGlobals g=some (some (.ref f))
 | [],[],_=>rfl
 | e::es,(k,g)::tb,h=>by
  unfold qpB at h
  have h:=Bool.and_eq_true_iff.mp h
  have h1:=h.1
  split at h1
  ·rename_i x t f f' e1 e2 e3
   have h1:=Bool.and_eq_true_iff.mp h1
   have:x=k:=by simpa using h1.1
   subst this
   have:f=f':=by simpa using h1.2
   subst this
   by_cases c:x=z
   ·subst c
    have l:luS ((x,g)::tb) x=some g:=by simp[luS,List.find?_cons]
    rw[l]
    refine ⟨f,?_,e3⟩
    have:Value.isStrOf x e.key=true:=by rw[e1]; show (x==x)=true; simp
    rw[List.find?_cons,this]
    exact congrArg some e2
   ·have l:luS ((x,g)::tb) z=luS tb z:=by simp[luS,List.find?_cons,c]
    have n:Value.isStrOf z e.key=false:=by
     rw[e1]
     show (x==z)=false
     exact beq_eq_false_iff_ne.mpr c
    rw[l,List.find?_cons,n]
    exact qfZ z h.2
  ·cases h1
 | [],_::_,h=>by cases h
 | _::_,[],h=>by cases h
theorem qgx {K:PySem.W.Frag} {h:Heap} {mg:Str→Option Value} {w:World} {D:Str} {tbl:List (Str×Str)} (X:K.In h) (G:h.Ns mainGlobals mg) (b:qpN K D tbl=true) (hh:(qpA K D).map (fun es=>es.map (·.hash))=some (tbl.map fun p=>PyData.keyHash w.params p.1)):qi4 K mg w D tbl:=by
 unfold qpN at b
 split at b
 ·rename_i es e
  rw[e] at hh
  have hh:=Option.some.inj hh
  unfold qpA at e
  split at e
  ·rename_i a n
   split at e
   ·rename_i es' m sl l
    split at e
    ·rename_i c
     cases e
     have:sl= #[]:=by simpa using c.2
     subst this
     refine ⟨a,es',m,PySem.W.mg_of X G n,l,qfY b hh,c.1,fun z=> ?_⟩
     have:=qfZ z b
     unfold findBy
     rw[←Array.find?_toList]
     exact this
    ·cases e
   ·cases e
  ·cases e
 ·cases b
section
variable {M:Md} {X:Cx} {e a k value:Expr} {es:List Expr} {pos p dp pos':Pos} {i j n:Nat} {x D:Str} {da dk:Ro→Rs T} {ds:Ro→Rs (List T)} {tbl:List (Str×Str)}
def qd0 (tbl:List (Str×Str)):T→Rs T
 | .str z=>.ok (.bl (luS tbl z).isSome)
 | _=>.no
def qbn (tbl:List (Str×Str)) (da:Ro→Rs T):Ro→Rs T:=fun ρ=>da ρ>>=qd0 tbl
def qpM (tbl:List (Str×Str)):T→Rs T
 | .str z=>(match luS tbl z with | some g=>.ok (.fn g) | none=>.no)
 | _=>.no
def qfn (tbl:List (Str×Str)) (da:Ro→Rs T):Ro→Rs T:=fun ρ=>da ρ>>=qpM tbl
theorem qhE {a:Addr} {es:Array DictEntry} {n:Nat} (hl:X.K.lookup a=some ⟨.type "dict",none,.dict es n, #[]⟩) (hk:PySem.W.KeysLit X.w.params es.toList) (lo:(a==sysModules)=false)
  (hz: ∀z,match luS tbl z with | none=>findBy Value.isStrOf es z=none | some g=> ∃f,findBy Value.isStrOf es z=some (.ref f)∧PySem.W.nsIn X.K mainGlobals g=some (some (.ref f))):
  OpR X (compareOp .In) (fun x y H Q=> ∃z,x= .str z∧y= .ref a∧Q (.bl (luS tbl z).isSome) H):=by
 intro pins s σ H x y v u Q I rx ry q
 obtain ⟨z,rfl,rfl,q⟩:=q
 obtain ⟨t,rfl⟩:=rx
 cases ry
 refine PySem.wpAny_in_of (PySem.strKind_is X.prog X.w z t) lo (PySem.W.mapOf_K (prog:=X.prog) I.kIn hl hk) ?_
 have:(findBy Value.isStrOf es z).isSome=(luS tbl z).isSome:=by
  have:=hz z
  split at this
  ·rename_i e; rw[this,e]; rfl
  ·rename_i g e; obtain ⟨f,h1,_⟩:=this; rw[h1,e]; rfl
 rw[this]
 exact ⟨.bl _,H,I.tok _,rfl,q⟩
theorem qmR (T0:qi4 X.K X.mg X.w D tbl) (hg:Gl X D) (ha:DE M X e da) (hm:behindInMarks .In (.Name D dp)=false:=by rfl) (hd:(D==("__debug__" :Str))=false:=by decide):DE M X (.Compare e [.In] [.Name D dp] pos) (qbn tbl da):=by
 obtain ⟨a,es,n,mD,hl,hk,lo,hz⟩:=T0
 refine PE.weak (qjU (qhE hl hk lo hz) ha (qbE hg mD (v:=.ref a) rfl hd) hm) fun σ H Q hq=> ?_
 obtain ⟨H0,B0,ρ,B,ev,w⟩:=hq
 refine tP.of ev (Wnt.mono (Wnt.bind (qaw.mp w)) fun t w1 v H1 B1 g1 m1 r1=> ?_)
 cases t with
 | str z=>exact ⟨z,qaG r1,rfl,w1 _ H1 B1 g1 m1 qce⟩
 | _=>exact w1.elim
theorem qdT (T0:qi4 X.K X.mg X.w D tbl) (hg:Gl X D) (ha:DE M X e da) (hm:behindInMarks .In (.Name D dp)=false:=by rfl) (hd:(D==("__debug__" :Str))=false:=by decide):DT M X (.Compare e [.In] [.Name D dp] pos) (dTB (qbn tbl da)):=by
 obtain ⟨a,es,n,mD,hl,hk,lo,hz⟩:=T0
 refine PT.weak (qdm (qhE hl hk lo hz) ha (qbE hg mD (v:=.ref a) rfl hd) hm) fun σ H Q hq=> ?_
 obtain ⟨H0,B0,ρ,B,ev,w⟩:=qca hq
 refine tP.of ev (Wnt.mono (Wnt.bind (qaw.mp w)) fun t w1 v H1 B1 g1 m1 r1=> ?_)
 cases t with
 | str z=>exact ⟨z,qaG r1,rfl,w1 _ H1 B1 g1 m1 qce⟩
 | _=>exact w1.elim
theorem qer (T0:qi4 X.K X.mg X.w D tbl) (hg:Gl X D) (ha:DE M X k da) (hK:X.K=M.K:=by rfl) (hs:qq7 k:=by intro _ _; rfl) (hd:(D==("__debug__" :Str))=false:=by decide):DE M X (.Subscript (.Name D dp) k pos) (qfn tbl da):=by
 obtain ⟨a,es,n,mD,hl,hk,lo,hz⟩:=T0
 intro pins s σ H Q I hq
 obtain ⟨H0,B0,ρ,B,ev,w⟩:=hq
 have pa:tP M da σ H fun y H1=> ∃z g f,y=V.str z∧luS tbl z=some g∧findBy Value.isStrOf es z=some (.ref f)∧Q (.ref f) H1:=by
  refine tP.of ev (Wnt.mono (Wnt.bind (qaw.mp w)) fun t w1 v H1 B1 g1 m1 r1=> ?_)
  cases t with
  | str z=>
   have w1:Wnt M H0 (fun a=> ∀v H' B',qa0 H B H' B'→M.G.P H'→Rep M.K B' a v→Q v H') (match luS tbl z with | some g=>.ok (.fn g) | none=>.no):=w1
   cases q:luS tbl z with
   | none=>rw[q] at w1; exact w1.elim
   | some g=>
    rw[q] at w1
    have:=hz z
    rw[q] at this
    obtain ⟨f,h1,h2⟩:=this
    exact ⟨z,g,f,qaG r1,q,h1,w1 _ H1 B1 g1 m1 (by unfold Rep; exact ⟨f,rfl,by rw[←hK]; exact h2⟩)⟩
  | _=>exact w1.elim
 refine qjj PySem.F.slot_dict_getitem.lookup hs (thn (qbE hg mD (v:=.ref a) rfl hd pins s σ H (fun x H1=>x= .ref a∧H1=H) I ⟨rfl,rfl⟩) fun u s1 hu=> ?_)
 obtain ⟨x,H1,I1,rx,rfl,rfl⟩:=hu
 obtain rfl:u=Value.ref a:=rx
 refine thn (ha pins s1 σ H1 _ I1 pa) fun iv s2 hv=> ?_
 obtain ⟨y,H2,I2,ry,z,g,f,rfl,_,hf,q⟩:=hv
 obtain ⟨t,rfl⟩:=ry
 have hm:=PySem.W.mapOf_K (prog:=X.prog) (w:=X.w) I2.kIn hl hk
 exact ⟨hm.typeIs,PySem.wpAny_getItem_of (PySem.strKind_is X.prog X.w z t) hm hf ⟨.ref f,H2,I2.tok _,rfl,q⟩⟩
end
section
variable {M:Md} {X:Cx} {e a k value:Expr} {es:List Expr} {pos p dp pos':Pos} {i j n:Nat} {x D:Str} {da dk:Ro→Rs T} {ds:Ro→Rs (List T)}
def fnAt (ρ:Ro) (i:Nat):Rs Str:=match ρ[i]? with | some (.fz (.fn g))=>.ok g | _=>.no
theorem qhW {α:Type} {M:Md} {H0:Hp} {k:α→Prop} {ρ:Ro} {f:Str→Rs α} (w:Wnt M H0 k (fnAt ρ i>>=f)): ∃g,ρ[i]? =some (.fz (.fn g))∧Wnt M H0 k (f g):=by
 unfold fnAt at w
 split at w
 ·rename_i g e; exact ⟨g,e,w⟩
 ·exact w.elim
theorem qhA {f:Addr} {fd:FuncData} {ps:List Str} {sp:Sp} {t:TA} {k:Nat} {pins:List (Addr×Obj)} {s:Shared} {σ:St} {H:Hp} {Q:VK} (I:L2.Inv X pins σ H s) (hv:PE X (.Name x p) (qho i)) (ei:σ[i]? =some (some (.ref f))) (F:qbe X.prog X.w X.K X.mg X.base CX0 k f fd ps sp) (hr:qbW k X.A)
  (hk:PySem.W.keepIn X.K (.ref f)=true) (hb:qdy X.K fd ps []) (ha:PA X (e::es) t) (h:qgy sp [] M.E t σ H Q)
  (he:starEach (e::es) X.env=(false,eval e X.env)::starEach es X.env) (hpl:(backTo pos (starEach es X.env)).any (·.1)=false):
  wpAny (model X.prog X.w) X.A (eval (.Call (.Name x p) (e::es) [] pos) X.env) (EP X pins σ Q) X.xe s:=by
 refine wpAny_Call_Name_kw (thn (hv pins s σ H (fun v H1=>v= .ref f∧H1=H) I ⟨.ref f,ei,rfl,rfl⟩) fun u s1 hu=> ?_)
 obtain ⟨v,H1,I1,rv,rfl,rfl⟩:=hu
 obtain rfl:u=Value.ref f:=rv
 refine PySem.W.callWith_K (h₀:=X.base) I1.ok.mod.kin hk (thn (ha pos pins s1 σ H1 _ I1 h) fun us s2 hq=> ?_) he hpl
 obtain ⟨vs,H2,I2,r,q⟩:=hq
 exact ⟨I2.kIn,qnf F hr hb .nil (qiv (M:=M)) I2 r q⟩
theorem qkN {f f':Addr} {g:Str} {pins:List (Addr×Obj)} {s:Shared} {σ:St} {H:Hp} (I:L2.Inv X pins σ H s) (h:PySem.W.nsIn X.K mainGlobals g=some (some (.ref f))) (m:X.mg g=some (.ref f')):f=f':=by
 have:=PySem.W.mg_of I.ok.mod.kin I.ok.mod.glob h
 rw[m] at this
 cases this
 rfl
def qiO (j:Nat) (tbl:List (Str×(List T→Rs Sl))) (ds:Ro→Rs (List T)):Ro→Rs Out:=fun ρ=>fnAt ρ j>>=fun g=>match luS tbl g with | some t=>qiP ds t ρ | none=>.no
theorem qoY {tbl:List (Str×(List T→Rs Sl))} {k:Nat} (F: ∀g t,luS tbl g=some t→∃ps,KnS X.prog X.w X.K X.mg X.base M.G M.C g ps k t) (hK:X.K=M.K) (hr:qbW k X.A) (hv:PE X (.Name x p) (qho j)) (ha:DA M X (e::es) ds)
  (he:starEach (e::es) X.env=(false,eval e X.env)::starEach es X.env:=by rfl) (hpl:(backTo pos (starEach es X.env)).any (·.1)=false:=by rfl):DS M X (.Return (some (.Call (.Name x p) (e::es) [] pos)) pos') (qiO j tbl ds):=by
 have pe:PE X (.Call (.Name x p) (e::es) [] pos) (fun σ H Q=> ∃H0 B0 ρ B g t,Ev M H0 B0 ρ σ H B∧ρ[j]? =some (.fz (.fn g))∧luS tbl g=some t∧tS' M ds t σ H Q):=by
  intro pins s σ H Q I hq
  obtain ⟨H0,B0,ρ,B,g,t,ev,e1,q,h⟩:=hq
  obtain ⟨ps,f,fd,G,m,kk,bb⟩:=F g t q
  obtain ⟨v,e2,r⟩:=ev.get e1
  unfold Rep at r
  obtain ⟨f',rfl,hn⟩:=r
  have:f'=f:=qkN I (by rw[hK]; exact hn) m
  subst this
  rw[hK] at G
  exact qhA (M:=M) I hv e2 (by rw[hK]; exact G) hr kk bb ha (qeX h) he hpl
 refine PS.weak (qcv pe) fun D σ H hq=> ?_
 obtain ⟨H0,B0,ρ,B,ev,w⟩:=hq
 obtain ⟨g,e1,w⟩:=qhW w
 cases q:luS tbl g with
 | none=>rw[q] at w; exact w.elim
 | some t=>
  rw[q] at w
  refine ⟨H0,B0,ρ,B,g,t,ev,e1,q,H0,B0,ρ,B,ev,?_⟩
  have w:Wnt M H0 (qm7 M H0 B0 B D) (qiP ds t ρ):=w
  unfold qiP at w
  cases q2:ds ρ with
  | no=>rw[q2] at w; exact w
  | ex c=>rw[q2] at w; exact w
  | ok ts=>
   rw[q2] at w
   rw[qad] at w⊢
   cases q3:t ts with
   | no=>rw[q3] at w; exact w
   | ex c=>rw[q3] at w; exact w
   | ok r=>rw[q3] at w; exact fun v H' B' ev' le=>w v σ H' B' ev' le
def qfp (j i:Nat) (tbl:List (Str×(List T→Sl→Rs (Sl×Sl)))) (ds:Ro→Rs (List T)):Ro→Rs Out:=fun ρ=>fnAt ρ j>>=fun g=>match luS tbl g with | some t=>qpj i ds t ρ | none=>.no
theorem qkV {tbl:List (Str×(List T→Sl→Rs (Sl×Sl)))} {k:Nat} (F: ∀g t,luS tbl g=some t→∃ps,KnQ X.prog X.w X.K X.mg X.base M.G M.C g ps k t) (hK:X.K=M.K) (hr:qbW k X.A) (hv:PE X (.Name x p) (qho j)) (ha:PA X (e::es) (tPV M ds i))
  (he:starEach (e::es) X.env=(false,eval e X.env)::starEach es X.env:=by rfl) (hpl:(backTo pos (starEach es X.env)).any (·.1)=false:=by rfl):DS M X (.Return (some (.Call (.Name x p) (e::es) [] pos)) pos') (qfp j i tbl ds):=by
 have pe:PE X (.Call (.Name x p) (e::es) [] pos) (fun σ H Q=> ∃H0 B0 ρ B g t,Ev M H0 B0 ρ σ H B∧ρ[j]? =some (.fz (.fn g))∧luS tbl g=some t∧tU M i ds t σ H Q):=by
  intro pins s σ H Q I hq
  obtain ⟨H0,B0,ρ,B,g,t,ev,e1,q,h⟩:=hq
  obtain ⟨ps,f,fd,G,m,kk,bb⟩:=F g t q
  obtain ⟨v,e2,r⟩:=ev.get e1
  unfold Rep at r
  obtain ⟨f',rfl,hn⟩:=r
  have:f'=f:=qkN I (by rw[hK]; exact hn) m
  subst this
  rw[hK] at G
  exact qhA (M:=M) I hv e2 (by rw[hK]; exact G) hr kk bb ha (qeW h) he hpl
 refine PS.weak (qcv pe) fun D σ H hq=> ?_
 obtain ⟨H0,B0,ρ,B,ev,w⟩:=hq
 obtain ⟨g,e1,w⟩:=qhW w
 cases q:luS tbl g with
 | none=>rw[q] at w; exact w.elim
 | some t=>
  rw[q] at w
  refine ⟨H0,B0,ρ,B,g,t,ev,e1,q,H0,B0,ρ,B,ev,?_⟩
  have w:Wnt M H0 (qm7 M H0 B0 B D) (qpj i ds t ρ):=w
  unfold qpj at w
  cases q1:qez ρ i with
  | no=>rw[q1] at w; exact w
  | ex c=>rw[q1] at w; exact w
  | ok s=>
   rw[q1] at w
   rw[qad] at w⊢
   cases q2:ds ρ with
   | no=>rw[q2] at w; exact w
   | ex c=>rw[q2] at w; exact w
   | ok ts=>
    rw[q2] at w
    rw[qad] at w⊢
    cases q3:t ts s with
    | no=>rw[q3] at w; exact w
    | ex c=>rw[q3] at w; exact w
    | ok r=>
     rw[q3] at w
     exact fun v H' B' ev' le=>w v σ H' B' ev' le
end
end PL
end
section
namespace L2
open PySem PySem.Spec PyProof.Rows
def Ite (K:PySem.W.Frag) (l:Addr):It:=
 ⟨fun i H=> ∃xs,SqL K H l xs∧i<xs.length,
   fun i H v H'=> ∃T x,v= .ref T∧H T=none∧H'=upd H T (.tup [.int i,x])∧∀xs,SqL K H l xs→xs[i]? =some x,
   fun i H=> ∃xs,SqL K H l xs∧i=xs.length⟩
def qq9 (e it l:Addr) (i:Nat) (h:Heap):Prop:=(∃old,IsEnum h e it i old)∧h.IsListIter it l i
theorem qje {P:Program} {w:World} {K:PySem.W.Frag} {elts:List Expr} {k:Nat} {pos:Pos} {e it l:Addr} (d1:e≠it) (d2:l≠e) (d3:l≠it):qnM P w K (.Tuple elts k pos) (Ite K l) [e,it] e (qq9 e it l) where
 mem:=by simp
 obj:=fun i h st b hb=>by
  obtain ⟨⟨old,a1⟩,⟨o4,a4,c4,d4⟩⟩:=st
  have hb':b=e∨b=it:=by simpa using hb
  rcases hb' with rfl | rfl
  ·exact ⟨_,a1,fun v q=>by have q':Data.fields _=Data.cell v:=q; cases q'⟩
  ·exact ⟨o4,a4,fun v q=>by rw[d4] at q; cases q⟩
 keep:=fun i h h' st kk=>by
  obtain ⟨⟨old,a1⟩,a4⟩:=st
  exact ⟨⟨old,kk e (by simp) _ a1⟩,a4.at fun o q=>kk it (by simp) o q⟩
 item:=by
  intro X hP hw hK hc i pins s σ H E I hf st hg
  subst hP hw hK
  obtain ⟨xs,h1,g1⟩:=hg
  obtain ⟨its,r1,p1,z1⟩:=I.list h1
  have e1:=r1.length
  have W:=WalksT.enumerate (prog:=X.prog) (w:=X.w) (I.ok.hd hc) e it l d1 d2 d3 its.toArray
  have hch: ∀b∈[e,it],qhh X pins H b:=fun b hb=>hf b hb
  refine W.item i s _ E (by simp; omega) ⟨st.1,st.2,p1.isList⟩ fun T vals h' tk hv hT hti hmid kp=> ?_
  obtain ⟨t,u,q1,rfl⟩:=hv
  refine ⟨_,rfl,W.go elts k pos i T _ _ E hmid fun h2' st' kp2=> ?_⟩
  have nT:T∉[e,it]:=W.apart i T h' hmid
  obtain ⟨ox,hox,rox⟩:=hti
  have hx1:xs[i]? =some xs[i]:=List.getElem?_eq_getElem g1
  obtain ⟨w1,ew1,rw1⟩:=r1.get hx1
  have eu1:its[i]? =some u:=by simpa using q1
  rw[eu1] at ew1; cases ew1
  have I1:Inv X pins σ (upd H T (.tup [.int i,xs[i]])) { s with heap:=h2',toks:=tk }:=
   I.turnT hch (fun b o hb q=>kp2 b o hb (kp b o hb q)) hT ⟨by show 2≤sizeLine; decide,[.int i t,u],.cons ⟨t,rfl⟩ (.cons rw1 .nil),ox,kp2 T ox nT hox,rox⟩
  refine ⟨.ref T,_,I1,rfl,⟨T,_,rfl,I.hok.fresh hT,rfl,fun xs' hx'=>by rw[I.list_inj hx' h1]; exact hx1⟩,⟨st'.1,st'.2.1⟩,fun b hb=> ?_⟩
  obtain ⟨o,eo,_⟩: ∃o,s.heap.get? b=some o∧True:=by
   have hb':b=e∨b=it:=by simpa using hb
   obtain ⟨⟨old,a1⟩,⟨o4,a4,_⟩⟩:=st
   rcases hb' with rfl | rfl
   ·exact ⟨_,a1,trivial⟩
   ·exact ⟨_,a4,trivial⟩
  rw[qag (Nat.ne_of_lt (Nat.lt_of_lt_of_le (Heap.lt_size eo) hT))]
  exact (hf b hb).1
 done:=by
  intro X hP hw hK hc i pins s σ H E I hf st hg
  subst hP hw hK
  obtain ⟨xs,h1,g1⟩:=hg
  obtain ⟨its,r1,p1,z1⟩:=I.list h1
  have e1:=r1.length
  have W:=WalksT.enumerate (prog:=X.prog) (w:=X.w) (I.ok.hd hc) e it l d1 d2 d3 its.toArray
  have hch: ∀b∈[e,it],qhh X pins H b:=fun b hb=>hf b hb
  have en:its.toArray.size=i:=by simp; omega
  rw[en] at W
  exact W.done s _ E ⟨st.1,st.2,p1.isList⟩ fun h' tk kp=>⟨rfl,I.turnL hch kp⟩
 self:=fun A i s Q E st h=>let ⟨⟨old,a⟩,_⟩:=st; wpAny_pyIter_enum a h
theorem qlk:bootBuiltins "enumerate" =some (.type "enumerate"):=by decide+kernel
theorem qoj {X:Cx} {elts:List Expr} {kk:Nat} {tpos:Pos} {a:Expr} {ta:TA} {p pos:Pos} (hg:Gl X "enumerate") (hm:X.mg "enumerate" =none) (ha:PA X [a] ta) (hs:starEach [a] X.env=(false,eval a X.env)::starEach [] X.env:=by rfl) (hpl:(backTo pos (starEach [] X.env)).any (·.1)=false:=by rfl):
  PI X (.Tuple elts kk tpos) (.Call (.Name "enumerate" p) [a] [] pos) (fun σ H R=>ta σ H fun vs H1=> ∃l xs,vs=[.ref l]∧SqL X.K H1 l xs∧(xs.length≤sizeLine→R (Ite X.K l) H1)):=by
 intro pins s σ H R I h
 refine wpAny_Call_Name_kw (qdC I hg hm qlk ?_)
 refine PyProof.Rows.callWith_type1 (thn (ha pos pins s σ H _ I h) fun us s1 hq=> ?_) hs hpl
 obtain ⟨vs,H1,I1,r1,l,xs,e,h1,q⟩:=hq
 subst e
 obtain ⟨u1,rfl,ru1⟩:=qdZ r1
 cases ru1
 obtain ⟨its,rr1,p1,z1⟩:=I1.list h1
 have q:=q z1
 obtain ⟨o1,ho1,_⟩:=p1.isList
 have lt1:l<s1.heap.objs.size:=Heap.lt_size ho1
 refine call_enumerate_list p1.isList fun h' he hi hsz kp=>wpAny_pyIter_enum he ?_
 refine ⟨_,_,_,Ite X.K l,H1,rfl,I1.kept (t':=s1.toks) kp,qje (e:=s1.heap.objs.size+1) (it:=s1.heap.objs.size) (Nat.succ_ne_self _) (Nat.ne_of_lt (Nat.lt_succ_of_lt lt1)) (Nat.ne_of_lt lt1),⟨⟨_,he⟩,hi⟩,fun b hb=> ?_,q⟩
 have hle:s1.heap.objs.size≤b:=by
  have hb':b=s1.heap.objs.size+1∨b=s1.heap.objs.size:=by simpa using hb
  rcases hb' with rfl | rfl
  ·exact Nat.le_add_right _ _
  ·exact Nat.le_refl _
 exact I1.fpOk hle (I1.hok.fresh hle)
end L2
namespace PL
open PySem L2
def qmF (xs:List T):List T:=xs.zipIdx.map fun p=>.tup [.int p.2,p.1]
def qny:List T→Rs (List T)
 | [.lst xs]=>.ok (qmF xs)
 | _=>.no
def qja (ds:Ro→Rs (List T)):Ro→Rs (List T):=fun ρ=>ds ρ>>=qny
section
variable {M:Md} {X:Cx} {tg e a b:Expr} {da:Ro→Rs T} {ds:Ro→Rs (List T)}
theorem qg2 {elts:List Expr} {kk:Nat} {tpos p pos:Pos} (hg:Gl X "enumerate") (hm:X.mg "enumerate" =none) (ha:DA M X [a] ds) (hK:X.K=M.K:=by rfl) (hs:starEach [a] X.env=(false,eval a X.env)::starEach [] X.env:=by rfl) (hpl:(backTo pos (starEach [] X.env)).any (·.1)=false:=by rfl):
  DI M X (.Tuple elts kk tpos) (.Call (.Name "enumerate" p) [a] [] pos) (qja ds):=by
 refine PI.weak (qoj hg hm ha hs hpl) fun σ H R hq=> ?_
 obtain ⟨H0,B0,ρ,B,ev,w⟩:=hq
 refine tPA.of ev (Wnt.mono (Wnt.bind w) fun ts w1 vs H1 B1 g1 m1 r1=> ?_)
 unfold qny at w1
 split at w1
 ·rename_i xs
  obtain ⟨v,r,rfl,a1,b1⟩:=r1.inv
  have e2:=b1.inv0
  subst e2
  unfold Rep at a1
  obtain ⟨p1,us,rfl,h1,ra⟩:=a1
  have l1:=ra.length
  refine ⟨p1,us,rfl,SqL.of (g1.bh _ _ h1),fun z1=> ?_⟩
  rw[hK]
  refine w1 _ H1 B1 g1 m1 ?_ fun H' B' le bh bt m i=>⟨fun t et=> ?_,fun hi=> ?_⟩
  ·unfold qmF
   rw[List.length_map,List.length_zipIdx]
   omega
  ·have q1:SqL M.K H' p1 us:=SqL.of (bh _ _ (le _ _ h1))
   unfold qmF at et
   rw[List.getElem?_map,List.getElem?_zipIdx] at et
   cases q:xs[i]? with
   | none=>rw[q] at et; cases et
   | some c=>
    rw[q] at et
    simp only[Option.map_some,Nat.zero_add,Option.some.injEq] at et
    subst et
    have hi:=(List.getElem?_eq_some_iff.mp q).1
    obtain ⟨u,eu,ru⟩:=ra.get q
    refine ⟨⟨us,q1,by omega⟩,fun y H'' hy=> ?_⟩
    obtain ⟨T',x,e1,e2,e3,e4⟩:=hy
    have z1:=e4 us q1
    rw[eu] at z1; cases z1
    subst e1 e3
    refine ⟨_,qa0.new bh bt e2 (by intro ps z; cases z),M.G.st H' _ (fun a o e _ _ _ _=>by rw[qag (qap e e2)]; exact e) m,?_⟩
    have bp:B' T'=none:=by
     cases q:B' T' with
     | none=>rfl
     | some u=>rw[bh _ _ q] at e2; cases e2
    have le2:Le B1 (upd B' T' (.tup [.int i,u])):=fun a o z=>by rw[qag (qap (le _ _ z) bp)]; exact le _ _ z
    unfold Rep
    exact ⟨T',[.int i,u],rfl,qak,.cons qaX (.cons (ru.mono le2) .nil)⟩
  ·refine ⟨us,SqL.of (bh _ _ (le _ _ h1)),?_⟩
   rw[hi]
   unfold qmF
   rw[List.length_map,List.length_zipIdx,l1]
 ·exact w1.elim
end
end PL
end
section
namespace PL
open PySem L2
def namesX:List Str:= "enumerate" ::qqr
section
variable {M:Md} {X:Cx} {a b e ste:Expr} {lo hi:Option Expr} {p2 pos p:Pos} {dq:Ro→Rs (Bool×List T)} {dl dh dst:Ro→Rs (Option Int)} {da db:Ro→Rs T}
theorem qeb {K:PySem.W.Frag} {B:Hp} {ts:List T} {vs:List V} (r:qaL K B ts vs): ∀l:List Nat,qaL K B (l.filterMap (ts[·]?)) (l.filterMap (vs[·]?))
 | []=>.nil
 | i::l=>by
  cases e:ts[i]? with
  | none=>
   have e2:vs[i]? =none:=by rw[List.getElem?_eq_none_iff] at e⊢; rw[r.length]; exact e
   rw[List.filterMap_cons_none e,List.filterMap_cons_none e2]
   exact qeb r l
  | some t=>
   obtain ⟨v,e2,rv⟩:=r.get e
   rw[List.filterMap_cons_some e,List.filterMap_cons_some e2]
   exact .cons rv (qeb r l)
def qs9 (dq:Ro→Rs (Bool×List T)) (dl dh dst:Ro→Rs (Option Int)):Ro→Rs (List T):=fun ρ=>dq ρ>>=fun q=>dl ρ>>=fun l=>dh ρ>>=fun h=>dst ρ>>=fun st=>if q.1=true∧st≠some 0 then .ok (RH.pickL q.2 l h st) else .no
theorem qk0 (ha:DQ M X a dq) (hl:DO M X lo dl) (hh:DO M X hi dh) (hst:DO M X (some ste) dst):DF M X (.Subscript a (.Slice lo hi (some ste) p2) pos) (qs9 dq dl dh dst):=by
 refine PE.weak (RH.pe_slice3 ha hl hh hst) fun σ H Q hq=> ?_
 obtain ⟨H0,B0,ρ,B,ev,w⟩:=hq
 refine tQ.of ev (Wnt.mono (Wnt.bind (qbR.mp w)) fun q w1 p vs H1 B1 g1 m1 hx r1=> ?_)
 have ev1:=ev.grow g1 m1
 refine ⟨H0,B0,ρ,B1,ev1,Wnt.mono (Wnt.bind w1) fun l w2 H2 B2 g2 m2=> ?_⟩
 have ev2:=ev1.grow g2 m2
 refine ⟨H0,B0,ρ,B2,ev2,Wnt.mono (Wnt.bind w2) fun h w3 H3 B3 g3 m3=> ?_⟩
 have ev3:=ev2.grow g3 m3
 refine ⟨H0,B0,ρ,B3,ev3,Wnt.mono (Wnt.bind w3) fun st w4 H4 B4 g4 m4=> ?_⟩
 have ev4:=ev3.grow g4 m4
 split at w4
 ·rename_i c
  rw[if_pos c.1] at hx
  have hx4:H4 p=some (.lst vs):=g4.gx.hh _ _ (g3.gx.hh _ _ (g2.gx.hh _ _ hx nofun) nofun) nofun
  refine ⟨c.2,p,vs,rfl,SqL.of hx4,fun d hd=> ?_⟩
  obtain ⟨g5,m5,bp⟩:=qcZ (M:=M) (ws:=RH.pickL vs l h st) ev4.bh ev4.bt m4 hd
  have gg:=((g1.trans g2).trans g3).trans g4
  refine w4 d _ _ B4 (gg.trans g5) m5 (qbG gg.gx hd) bp qak ?_
  unfold RH.pickL
  rw[r1.length]
  exact qeb (((r1.mono g2.bb).mono g3.bb).mono g4.bb) _
 ·exact w4.elim
def qsX:T→T→Rs T
 | .int i,.int j=>.ok (.int (if j>i then j else i))
 | _,_=>.no
theorem qo6 (h:PE X e (tCB (fun xs H Q=> ∃i j,xs=[.int i,.int j]∧Q (.int (if j>i then j else i)) H) (qcr (tP M da) (qcr (tP M db) qi7)))):DE M X e (dB2 qsX da db):=by
 refine PE.weak h fun σ H Q hq=> ?_
 obtain ⟨H0,B0,ρ,B,ev,w⟩:=hq
 refine tP.of ev (Wnt.mono (Wnt.bind (qaw.mp w)) fun x w1 v H1 B1 g1 m1 r1=> ?_)
 have ev1:=ev.grow g1 m1
 refine tP.of ev1 (Wnt.mono (Wnt.bind w1) fun y w2 v2 H2 B2 g2 m2 r2=> ?_)
 cases x with
 | int i=>
  cases y with
  | int j=>
   rw[qau r1,qau r2]
   exact ⟨i,j,rfl,w2 _ H2 B2 (g1.trans g2) m2 qaX⟩
  | _=>exact w2.elim
 | _=>exact w2.elim
end
section
variable {M:Md} {X:Cx} {st:Stmt} {sts:List Stmt} {d:Ro→Rs Out}
end
end PL
end
section
namespace HT
open PySem PySem.Spec PyProof.Rows L2
variable {prog:Program} {w:World} {A:Around} {E:Value→Shared→Prop} {s:Shared}
end HT
namespace L2
open PySem PySem.Spec PyProof.Rows
end L2
namespace PL
open PySem L2
section
variable {M:Md} {X:Cx} {a:Expr} {lo hi:Option Expr} {p2 pos:Pos} {dl dh:Ro→Rs (Option Int)} {da:Ro→Rs T}
end
def qtQ {α:Type} (P:Str→α→Prop):List (Str×α)→Prop
 | []=>True
 | (g,t)::r=>P g t∧qtQ P r
theorem qhI {α:Type} {P:Str→α→Prop}: ∀{tbl:List (Str×α)},qtQ P tbl→∀g t,luS tbl g=some t→P g t
 | [],_,g,t,e=>by simp[luS] at e
 | (k,u)::r,h,g,t,e=>by
  by_cases c:k=g
  ·have:luS ((k,u)::r) g=some u:=by simp[luS,List.find?_cons,c]
   rw[this] at e; cases e
   rw[←c]; exact h.1
  ·have:luS ((k,u)::r) g=luS r g:=by simp[luS,List.find?_cons,c]
   rw[this] at e
   exact qhI h.2 g t e
section
variable {P:Program} {w:World} {K:PySem.W.Frag} {mg:Str→Option Value} {base:Heap} {G:Gam} {C:Str→Addr} {x:Str} {ps:List Str} {j k:Nat} {fS:List T→Rs Sl} {fQ:List T→Sl→Rs (Sl×Sl)}
theorem KnS.up (h:KnS P w K mg base G C x ps j fS) (l:j≤k): ∃ps,KnS P w K mg base G C x ps k fS:=by
 obtain ⟨f,fd,F,r⟩:=h
 exact ⟨ps,f,fd,F.mono l,r⟩
theorem KnQ.up (h:KnQ P w K mg base G C x ps j fQ) (l:j≤k): ∃ps,KnQ P w K mg base G C x ps k fQ:=by
 obtain ⟨f,fd,F,r⟩:=h
 exact ⟨ps,f,fd,F.mono l,r⟩
end
end PL
end
section
namespace K12
open PySem L2
def top (i:Nat):Stmt:=PySem.Challenge.pw_rowasks_k12_whole_steps_together.main.body.getD i (.Pass ⟨0,0,0,0⟩)
abbrev qr8:Stmt:=top 9
abbrev s_8:Stmt:=top 10
abbrev qr6:Stmt:=top 11
abbrev qr3:Stmt:=top 12
abbrev qr2:Stmt:=top 13
abbrev qr1:Stmt:=top 14
abbrev s_0:Stmt:=top 15
abbrev s_4:Stmt:=top 16
abbrev s_1:Stmt:=top 17
abbrev qrh:Stmt:=top 21
abbrev qre:Stmt:=top 22
abbrev qrg:Stmt:=top 23
abbrev qrd:Stmt:=top 24
abbrev qrf:Stmt:=top 25
abbrev qrW:Stmt:=top 26
abbrev qrU:Stmt:=top 27
abbrev qri:Stmt:=top 29
abbrev qr0:Stmt:=top 28
abbrev qr5:Stmt:=top 30
abbrev qrZ:Stmt:=top 31
abbrev qrY:Stmt:=top 32
abbrev qr4:Stmt:=top 36
abbrev qrX:Stmt:=top 37
abbrev s_2:Stmt:=top 38
abbrev qsd:Stmt:=top 39
abbrev s_5:Stmt:=top 40
abbrev qrV:Stmt:=top 41
abbrev qsb:Stmt:=top 43
abbrev qsa:Stmt:=top 44
abbrev qr7:Stmt:=top 45
abbrev qsc:Stmt:=top 46
abbrev qr9:Stmt:=top 47
abbrev qd7:Stmt:=top 48
end K12
end
section
namespace K12
open PySem L2 RH PL
def qgd (ns:List Int) (k:Int):Int:=if k<(ns.length:Int) then ns.getD k.toNat 0 else if ns=[] then 0 else ns.getD (k % (ns.length:Int)).toNat 0*31+k
def qf4 (ns:List Int) (k:Int):Int:=(qgd ns k+6151*(k+1))*40692 % 2147483399
def qiu (ns:List Int) (k many:Int):Int:=(qf4 ns k*qf4 ns k+qf4 ns k / 31) % 2147483629 % many
theorem ql8 {ns:List Int} {k many:Int} (h:0<many):0≤qiu ns k many:=Int.emod_nonneg _ (by omega)
theorem ql9 {ns:List Int} {k many:Int} (h:0<many):qiu ns k many<many:=Int.emod_lt_of_pos _ h
def qnN (K:PySem.W.Frag) (H:Hp) (a:Addr) (ns:List Int):Prop:=SqL K H a (ns.map V.int)∧ns.length≤63
def qnd (K:PySem.W.Frag):Sp:=fun vs H Q _=> ∃a ns k,vs=[.ref a,.int k]∧qnN K H a ns∧0≤k∧k<1000000∧∀H',qm4 H H'→Q (.int (qgd ns k)) H'
def qnc (K:PySem.W.Frag):Sp:=fun vs H Q _=> ∃a ns k many,vs=[.ref a,.int k,.int many]∧qnN K H a ns∧0≤k∧k<1000000∧0<many∧∀H',qm4 H H'→Q (.int (qiu ns k many)) H'
theorem qln {ns:List Int} {k:Int} (h0:0≤k) (h1:k<(ns.length:Int)):atI (ns.map V.int) k=some (.int (ns.getD k.toNat 0)):=by
 obtain ⟨j,rfl⟩: ∃j:Nat,k=j:=⟨k.toNat,by omega⟩
 refine qhb ?_
 rw[List.getElem?_map,Int.toNat_natCast,List.getD_eq_getElem?_getD,List.getElem?_eq_getElem (by omega)]
 rfl
section
variable {P:Program} {w:World} {K:PySem.W.Frag} {mg:Str→Option Value} {base:Heap}
theorem qpY:qav ["_law_script", "_law_k"] ["_law_script", "_law_k"] (qaf qsb):=⟨rfl,rfl,rfl,by decide+kernel,rfl,by decide+kernel,by decide+kernel⟩
theorem qou {f:Addr} {fd:FuncData} (F:Fun K "_law_cell" "_law_cell" qsb f fd) (n1:mg "len" =none):qbe P w K mg base CX0 1 f fd ["_law_script", "_law_k"] (qnd K):=by
 refine F.ok qpY (fun vs H Q E h=> ?_) (fun cdv A outer s H vs Q E hr h=> ?_)
 ·obtain ⟨a,ns,k,rfl,_⟩:=h
  rfl
 ·obtain ⟨a,ns,k,rfl,hS,h0,hb,q⟩:=h
  refine ⟨_,qdQ (qod (qdm qqm (pv 1) (qaE qif rfl n1 PySem.boot_len (qar (pv 0) qaH)) (qnr _)) (qec (qcv (qom (qhO K rfl) (pv 0) (pv 1) (fun _ _=>rfl)))) qgF)
   (qdQ (qod (qdm (qgJ hr.units0) (pv 0) (qnl qaH) (qnr _)) (qec (qcv qcW)) qgF)
   (qec (qcv (qcE qfH (qcE qcd (qom (qhO K rfl) (pv 0) (qcE qeH (pv 1) (qaE qif rfl n1 PySem.boot_len (qar (pv 0) qaH))) (fun _ _=>rfl)) qcW) (pv 1))))),?_⟩
  refine ⟨_,rfl,_,rfl,_,_,rfl,.inl ⟨_,hS.1,rfl⟩,_,_,rfl,rfl,_,rfl,?_⟩
  have len:((ns.map V.int).length:Int)=(ns.length:Int):=by rw[List.length_map]
  by_cases c1:k<(ns.length:Int)
  ·refine qqC (by rw[len]; exact decide_eq_true c1) ?_
   refine ⟨_,rfl,_,rfl,a,_,k,_,rfl,rfl,hS.1,qln h0 c1,?_⟩
   have e:qgd ns k=ns.getD k.toNat 0:=by unfold qgd; rw[if_pos c1]
   rw[←e]
   exact q H (qm4.refl H)
  ·refine qqE (by rw[len]; exact decide_eq_false c1) ?_
   refine ⟨_,rfl,Nat.zero_le _,fun p hp=> ?_⟩
   have s1:qm4 H (upd H p (.lst [])):=qlX hp
   refine ⟨a,p,_,_,rfl,rfl,s1.seq hS.1,SqL.of qak,?_⟩
   by_cases c2:ns=[]
   ·subst c2
    refine .inr ⟨rfl,fun _=>true,fun i x y hx=>by simp at hx,_,rfl,?_⟩
    refine qqC rfl ?_
    have e:qgd [] k=0:=by unfold qgd; rw[if_neg c1,if_pos rfl]
    have q':=q _ s1
    rw[e] at q'
    exact q'
   ·have hpos:0<ns.length:=List.length_pos_iff.mpr c2
    refine .inl ⟨by simpa using c2,_,rfl,?_⟩
    refine qqE rfl ?_
    have hm0:0≤k % (ns.length:Int):=Int.emod_nonneg _ (by omega)
    have hm1:k % (ns.length:Int)<(ns.length:Int):=Int.emod_lt_of_pos _ (by omega)
    refine ⟨_,rfl,_,rfl,_,rfl,_,_,rfl,.inl ⟨_,s1.seq hS.1,rfl⟩,_,_,rfl,rfl,by rw[len]; omega,a,_,_,_,rfl,rfl,s1.seq hS.1,by rw[len]; exact qln hm0 hm1,_,_,rfl,rfl,.inr ⟨by decide,by decide⟩,_,rfl,_,_,rfl,rfl,?_⟩
    have e:qgd ns k=ns.getD (k % (ns.length:Int)).toNat 0*31+k:=by unfold qgd; rw[if_neg c1,if_neg c2]
    have q':=q _ s1
    rw[e] at q'
    exact q'
theorem qne:qav ["_law_script", "_law_k", "_law_many", "_law_drawn"] ["_law_script", "_law_k", "_law_many"] (qaf qsa):=⟨rfl,rfl,rfl,by decide+kernel,rfl,by decide+kernel,by decide+kernel⟩
theorem qos {f fC:Addr} {fd fdC:FuncData} (F:Fun K "_law_pick" "_law_pick" qsa f fd) (GC:qbe P w K mg base CX0 1 fC fdC ["_law_script", "_law_k"] (qnd K)) (mC:mg "_law_cell" =some (.ref fC)) (kC:PySem.W.keepIn K (.ref fC)=true) (bC:qdy K fdC ["_law_script", "_law_k"] []):
  qbe P w K mg base CX0 2 f fd ["_law_script", "_law_k", "_law_many"] (qnc K):=by
 refine F.ok qne (fun vs H Q E h=> ?_) (fun cdv A outer s H vs Q E hr h=> ?_)
 ·obtain ⟨a,ns,k,many,rfl,_⟩:=h
  rfl
 ·obtain ⟨a,ns,k,many,rfl,hS,h0,hb,hm,q⟩:=h
  refine ⟨_,qdQ (qfF (i:=3) qne.nd rfl (Or.inl rfl) (qcE qeH (qcE qcd (qcE qfH (qdo GC hr rfl mC kC bC .nil qsm (qar (pv 0) (qar (pv 1) qaH))) (qcE qcd qcW (qcE qfH (pv 1) qcW))) qcW) qcW))
   (qec (qcv (qcE qeH (qcE qeH (qcE qfH (qcE qcd (pv 3) (pv 3)) (qcE qj3 (pv 3) qcW)) qcW) (pv 2)))),?_⟩
  refine ⟨_,rfl,_,rfl,a,ns,k,rfl,hS,h0,hb,fun H1 s1=> ?_⟩
  refine ⟨_,rfl,_,_,rfl,rfl,_,_,rfl,rfl,.inl ⟨by decide,by decide⟩,_,_,rfl,rfl,_,_,rfl,rfl,.inr ⟨by decide,by decide⟩,_,_,rfl,rfl,(show (0:Int)<2147483399 by decide),?_⟩
  have d0:0≤qf4 ns k:=Int.emod_nonneg _ (by decide)
  have d1:qf4 ns k<2147483399:=Int.emod_lt_of_pos _ (by decide)
  refine ⟨_,rfl,_,rfl,_,_,rfl,rfl,.inl ⟨?_,?_⟩,_,rfl,_,_,rfl,rfl,⟨by decide,by decide⟩,_,_,rfl,rfl,_,_,rfl,rfl,(show (0:Int)<2147483629 by decide),_,rfl,_,_,rfl,rfl,hm,q H1 s1⟩
  ·exact Int.lt_of_lt_of_le (by decide) d0
  ·exact Int.lt_trans d1 (by decide)
end
def qcP:List T→Rs T
 | [.scr ns,.int k,.int many]=>if (0≤k∧k<1000000)∧0<many∧ns.length≤63 then .ok (.int (qiu ns k many)) else .no
 | _=>.no
theorem qoF {P:Program} {w:World} {K:PySem.W.Frag} {mg:Str→Option Value} {base:Heap} {G:Gam} {C:Str→Addr} {f:Addr} {fd:FuncData} (F:qbe P w K mg base CX0 2 f fd ["_law_script", "_law_k", "_law_many"] (qnc K)) (m:mg "_law_pick" =some (.ref f))
  (k:PySem.W.keepIn K (.ref f)=true) (b:qdy K fd ["_law_script", "_law_k", "_law_many"] []):Kn P w K mg base G C "_law_pick" ["_law_script", "_law_k", "_law_many"] 2 qcP:=by
 refine ⟨f,fd,F.imp fun vs H Q E h=> ?_,m,k,b⟩
 obtain ⟨B,ts,le,bt,gm,r,w⟩:=h
 unfold qcP at w
 split at w
 ·rename_i ns k many
  split at w
  ·rename_i hc
   obtain ⟨v1,r1,rfl,a1,b1⟩:=r.inv
   obtain ⟨v2,r2,rfl,a2,b2⟩:=b1.inv
   obtain ⟨v3,r3,rfl,a3,b3⟩:=b2.inv
   cases b3.inv0
   unfold Rep at a1
   obtain ⟨p,rfl,sq⟩:=a1
   cases qau a2
   cases qau a3
   refine ⟨p,ns,k,many,rfl,⟨le.sqL sq,hc.2.2⟩,hc.1.1,hc.1.2,hc.2.1,fun H' sm=> ?_⟩
   exact w _ H' B ⟨⟨fun a o e _=>sm a o e,fun a e z=>by
    cases q:H a with
    | none=>exact e q
    | some o=>rw[sm a o q] at z; cases z⟩,.refl _,fun a o e=>sm a o (le a o e),bt,fun _ _ _ _ _=>rfl⟩ (G.st H H' (fun a o e _ _ _ _=>sm a o e) gm) qaX
  ·exact w.elim
 ·exact w.elim
end K12
end
section
namespace PL
open SR
section
variable {α:Type} {k:α→Int}
theorem qir {p:α→Bool} {l:List α} (h:Ris k l):Ris k (l.filter p):=List.Pairwise.filter p h
end
end PL
end
section
namespace PL
open PySem L2 SetL SR
theorem qn7 {c:Nat} (h:97≤c∧c≤122):gLe (.str "a") (.str ⟨#[c]⟩)= .ok (.bl true)∧gLe (.str ⟨#[c]⟩) (.str "z")= .ok (.bl true):=by
 have e1:("a" :Str).cps.toList=[97]:=by decide
 have e2:("z" :Str).cps.toList=[122]:=by decide
 have n1: ¬([c]:List Nat)<[97]:=by
  rw[List.cons_lt_cons_iff]
  rintro (h1 | ⟨_,h2⟩)
  ·lia
  ·exact absurd h2 (List.not_lt_nil _)
 have n2: ¬([122]:List Nat)<[c]:=by
  rw[List.cons_lt_cons_iff]
  rintro (h1 | ⟨_,h2⟩)
  ·lia
  ·exact absurd h2 (List.not_lt_nil _)
 constructor
 ·show Rs.ok (T.bl (!decide (([c]:List Nat)<("a" :Str).cps.toList)))=_
  rw[e1,decide_eq_false n1]
  rfl
 ·show Rs.ok (T.bl (!decide (("z" :Str).cps.toList<([c]:List Nat))))=_
  rw[e2,decide_eq_false n2]
  rfl
theorem qug (r:Row):gIx (qaq r) (.int 0)= .ok (.int r.1):=rfl
theorem quf (r:Row):gIx (qaq r) (.int 1)= .ok (.str r.2.1):=rfl
theorem que (r:Row):gIx (qaq r) (.int 2)= .ok (.int r.2.2):=rfl
theorem qft {α:Type} (g:α→Bool) (xs:List α):qlr (true,xs.map fun x=>T.bl (g x))= .ok (.bl (xs.all g)):=by
 have y:(xs.map fun x=>T.bl (g x)).all qmv=true:=by rw[List.all_map,List.all_eq_true]; intro _ _; rfl
 have z:(xs.map fun x=>T.bl (g x)).all qll=xs.all g:=by rw[List.all_map]; rfl
 unfold qlr
 rw[if_pos ⟨rfl,y⟩,z]
def qeA (rs:List Row):Bool:=(rs.zip (rs.drop 1)).all fun p=>decide (p.1.1≤p.2.1)
theorem quR (ts:List T):qlB ts (some 1) none=ts.drop 1:=by
 unfold qlB
 have e:HT.sIx ts.length 0 (some 1)=min 1 ts.length:=HT.sIx_nat ts.length 0 1
 rw[e,HT.sIx_none]
 cases ts with
 | nil=>rfl
 | cons a l=>
  rw[show min 1 (a::l).length=1 by simp]
  rw[List.take_of_length_le (by simp)]
theorem qlC (as bs:List Row):qpv (as.map qaq) (bs.map qaq)=(as.zip bs).map fun p=>T.tup [qaq p.1,qaq p.2]:=by
 unfold qpv
 rw[List.zip_map,List.map_map]
 rfl
structure Log (rs:List Row):Prop where
 ok: ∀r∈rs,qlZ r
 log:qeA rs=true
def qqp (rs:List Row) (k:Str):List Row:=rs.filter fun r=>r.2.1==k
def qc1:Str:= "abcdefghijklmnopqrstuvwxyz"
theorem qiD: ∀i:Nat,i<26→qc1.cps.toList[i]? =some (97+i):=by decide+kernel
theorem qgM:qc1.length=26:=by decide+kernel
theorem qfN {i:Int} (h0:0≤i) (h1:i<26):gIx (.str qc1) (.int i)= .ok (.str ⟨#[97+i.toNat]⟩):=by
 obtain ⟨j,rfl⟩: ∃j:Nat,i=j:=⟨i.toNat,by lia⟩
 show (if qc1.length≤1000 then (match atI qc1.cps.toList (j:Int) with | some c=>Rs.ok (T.str ⟨#[c]⟩) | none=>.no) else .no)=_
 rw[qgM,if_pos (by decide),qhb (qiD j (by lia))]
 rfl
theorem qqy {i:Int} (h0:0≤i) (h1:i<26):qei ⟨#[97+i.toNat]⟩:=by
 refine ⟨⟨Nat.le_refl 1,by show 1≤2; decide⟩,fun c hc=> ?_⟩
 have:c=97+i.toNat:=by simpa using hc
 lia
theorem qqx {i j:Int} (h0:0≤i) (h1:i<26) (h2:0≤j) (h3:j<26):qei ((⟨#[97+i.toNat]⟩:Str)++⟨#[97+j.toNat]⟩):=by
 have e:((⟨#[97+i.toNat]⟩:Str)++⟨#[97+j.toNat]⟩)=⟨#[97+i.toNat,97+j.toNat]⟩:=rfl
 rw[e]
 refine ⟨⟨by show 1≤2; decide,Nat.le_refl 2⟩,fun c hc=> ?_⟩
 have:c=97+i.toNat∨c=97+j.toNat:=by simpa using hc
 lia
theorem qkp:qei "a" ∧qei "b" ∧qei "ab" :=by
 refine ⟨⟨by decide,fun c hc=> ?_⟩,⟨by decide,fun c hc=> ?_⟩,⟨by decide,fun c hc=> ?_⟩⟩<;>(revert c; decide)
theorem qiF {rs:List Row} {r:Row} (h:qeA rs=true) (hr: ∀q∈rs,q.1≤r.1):qeA (rs++[r])=true:=by
 unfold qeA at h⊢
 rw[List.all_eq_true] at h⊢
 intro p hp
 obtain ⟨i,hi,e⟩:=List.mem_iff_getElem.mp hp
 rw[List.getElem_zip] at e
 have hi':i+1<(rs++[r]).length:=by simp at hi⊢; lia
 rw[List.getElem_drop] at e
 subst e
 refine decide_eq_true ?_
 simp at hi'
 by_cases c:i+1<rs.length
 ·have hm:(rs[i],rs[i+1])∈rs.zip (rs.drop 1):=by
   refine List.mem_iff_getElem.mpr ⟨i,by simp; lia,?_⟩
   rw[List.getElem_zip,List.getElem_drop]
   simp[Nat.add_comm]
  have:=of_decide_eq_true (h _ hm)
  simp only[Nat.add_comm 1 i]
  rw[List.getElem_append_left (by lia),List.getElem_append_left c]
  exact this
 ·have e1:i+1=rs.length:=by lia
  simp only[Nat.add_comm 1 i]
  rw[List.getElem_append_left (by lia),List.getElem_append_right (by lia)]
  simp[e1]
  exact hr _ (List.getElem_mem _)
abbrev mo:Row→Int:=fun r=>r.1
theorem qek: ∀rs:List Row,qeA rs=true↔Ris mo rs
 | []=>⟨fun _=>List.Pairwise.nil,fun _=>rfl⟩
 | [a]=>⟨fun _=>List.pairwise_singleton _ _,fun _=>rfl⟩
 | a::b::l=>by
  have ih:=qek (b::l)
  have e:qeA (a::b::l)=(decide (a.1≤b.1)&&qeA (b::l)):=rfl
  rw[e,Bool.and_eq_true,ih,decide_eq_true_iff]
  constructor
  ·rintro ⟨h1,h2⟩
   refine List.pairwise_cons.mpr ⟨fun y hy=> ?_,h2⟩
   rcases List.mem_cons.mp hy with rfl | hy
   ·exact h1
   ·exact Int.le_trans h1 ((List.pairwise_cons.mp h2).1 y hy)
  ·intro h
   have h':=List.pairwise_cons.mp h
   exact ⟨h'.1 b List.mem_cons_self,h'.2⟩
theorem Log.ris {rs:List Row} (h:Log rs):Ris mo rs:=(qek rs).mp h.log
theorem Log.filter {rs:List Row} (h:Log rs) (p:Row→Bool):Log (rs.filter p):=⟨fun r hr=>h.ok r (List.mem_filter.mp hr).1,(qek _).mpr (qir h.ris)⟩
theorem Log.srt {rs:List Row} (h:Log rs):srt mo rs=rs:=qn1 h.ris
theorem qor (rs:List Row):(rs.map qaq).all (okT 7)=true:=by rw[List.all_map,List.all_eq_true]; intro _ _; rfl
theorem qnp (rs:List Row):okT 8 (qam rs)=true:=qor rs
theorem qj8 {t:T} (h:okT 8 t=true):gNe t t= .ok (.bl false):=by unfold gNe; rw[if_pos ⟨h,h⟩,qc6 8 t h]; rfl
theorem qoR {t:T} (h:okT 8 t=true):gEq t t= .ok (.bl true):=by unfold gEq; rw[if_pos ⟨h,h⟩,qc6 8 t h]
theorem qfJ (rs:List Row):gNe (qam rs) (qam rs)= .ok (.bl false):=qj8 (qnp rs)
end PL
end
section
namespace AS
open PySem L2 PL SetL
def quM:Ro→Rs Out:=qbo (qfr (qet "int" (dV 0)) (qpl (qet "bool" (dV 0))))
def t_20:List T→Rs T:=fnT 1 1 quM
def d_8:Ro→Rs Out:=qbo (qfr (qas t_20 (qab (dV 0) (qan))) (qcm gLe gLe (dV 1) (dV 0) (dV 2)))
def t_8:List T→Rs T:=fnT 3 3 d_8
def d_22:Ro→Rs Out:=qaK (dIf (dOr (qf8 (dTB (qet "str" (dV 0)))) (qf8 (dTB (qcm gLe gLe (dC (.int 1)) (qdw (dV 0)) (dV 1))))) (qbo (dC (.bl false))) (qay)) (qbo (dCQ qlr (dQF (qaB 1 [] (dIS (dV 0)) (gN 0) (qb8) (qcm gLe gLe (dC (.str "a")) (dV 0) (dC (.str "z")))))))
def t_22:List T→Rs T:=fnT 2 2 d_22
def d_25:Ro→Rs Out:=qbo (qas t_22 (qab (dV 0) (qab (dC (.int 2)) (qan))))
def t_25:List T→Rs T:=fnT 1 1 d_25
def d_26:Ro→Rs Out:=qaK (dIf (dOr (qf8 (dTB (qet "tuple" (dV 0)))) (dTB (dB gNe (qdw (dV 0)) (dC (.int 3))))) (qbo (dC (.bl false))) (qay)) (qaK (dIf (dOr (qf8 (dTB (qas t_8 (qab (dB gIx (dV 0) (dC (.int 0))) (qab (dC (.int 0)) (qab (dC (.int 99)) (qan))))))) (qf8 (dTB (qas t_25 (qab (dB gIx (dV 0) (dC (.int 1))) (qan)))))) (qbo (dC (.bl false))) (qay)) (qbo (qas t_8 (qab (dB gIx (dV 0) (dC (.int 2))) (qab (qg6 (dC (.int 99))) (qab (dC (.int 99)) (qan)))))))
def t_26:List T→Rs T:=fnT 1 1 d_26
def d_27:Ro→Rs Out:=qbo (dCQ qlr (dQF (qaB 2 [] (dIZ (qab (dV 0) (qab (dFz (qgv (dQV 0) (dOS (dC (.int 1))) (dON))) (qan)))) (gT 2 (gsC (gN 0) (gsC (gN 1) (gsN)))) (qb8) (dB gLe (dB gIx (dV 0) (dC (.int 0))) (dB gIx (dV 1) (dC (.int 0)))))))
def t_27:List T→Rs T:=fnT 1 1 d_27
def d_0:Ro→Rs Out:=dIf (qf8 (dTB (dCQ qlr (dQF (qaB 1 [] (dI (dV 0)) (gN 0) (qb8) (qas t_26 (qab (dV 0) (qan)))))))) (dNo) (qay)
def t_0:List T→Rs T:=fnT 1 1 d_0
def d_4:Ro→Rs Out:=dIf (qf8 (dTB (qas t_27 (qab (dV 0) (qan))))) (dNo) (qay)
def t_4:List T→Rs T:=fnT 1 1 d_4
def d_1:Ro→Rs Out:=qaK (qg9 (qas t_0 (qab (dV 0) (qan)))) (qg9 (qas t_4 (qab (dV 0) (qan))))
def t_1:List T→Rs T:=fnT 1 1 d_1
def quL:Ro→Rs Out:=qbL (qaB 1 [1] (dI (dV 0)) (gN 0) (dTB (dB gEq (dB gIx (dV 0) (dC (.int 1))) (dV 1))) (dV 0))
def o_28:List T→Rs Sl:=fnS 2 2 quL
def quI:Ro→Rs Out:=qbL (qaB 1 [1] (dI (dV 0)) (gN 0) (dTB (dB gGt (dB gIx (dV 0) (dC (.int 2))) (dV 1))) (dV 0))
def o_37:List T→Rs Sl:=fnS 2 2 quI
def quK:Ro→Rs Out:=qbL (qaB 1 [1] (dI (dV 0)) (gN 0) (dTB (dB gLt (dB gIx (dV 0) (dC (.int 2))) (dV 1))) (dV 0))
def o_33:List T→Rs Sl:=fnS 2 2 quK
def quH:Ro→Rs Out:=qbL (qaB 3 [1] (dI (dV 0)) (gT 3 (gsC (gN 0) (gsC (gN 1) (gsC (gN 2) (gsN))))) (qb8) (qaJ (qab (dV 0) (qab (dV 1) (qab (dB qbp (dV 2) (dV 3)) (qan))))))
def o_38:List T→Rs Sl:=fnS 2 2 quH
def quJ:Ro→Rs Out:=qbL (qaB 3 [1] (dI (dV 0)) (gT 3 (gsC (gN 0) (gsC (gN 1) (gsC (gN 2) (gsN))))) (qb8) (qaJ (qab (dV 0) (qab (dV 1) (qab (dB qdD (dV 2) (dV 3)) (qan))))))
def o_34:List T→Rs Sl:=fnS 2 2 quJ
def d_35:Ro→Rs Out:=qaK (qbz 3 (qcB (dXV 2) (dC (.str "came")) (dC (.int 0)))) (qaK (qcu 2 (dC (.str "came")) (dB qbp (dV 3) (qdw (dV 0)))) (qbL (qgv (dQV 0) (dON) (dOS (dB2 qsX (dB gSub (dV 1) (dV 3)) (dC (.int 0)))))))
def q_35:List T→Sl→Rs (Sl×Sl):=fnQ 2 4 d_35
def d_39:Ro→Rs Out:=qaK (qbz 3 (qcB (dXV 2) (dC (.str "came")) (dC (.int 0)))) (qaK (qcu 2 (dC (.str "came")) (dB qnu (dB qbp (dV 3) (qdw (dV 0))) (dV 1))) (qbL (qs9 (dQV 0) (dOS (dB gSub (dB gSub (dV 1) (dC (.int 1))) (dV 3))) (dON) (dOS (dV 1)))))
def q_39:List T→Sl→Rs (Sl×Sl):=fnQ 2 4 d_39
def quN:Ro→Rs Out:=qbo (dFz (qaB 1 [0,1] (dI (dFz (qib (dXV 1)))) (gN 0) (qb8) (qaJ (qab (dB gSub (dB qdD (dB qbp (dB gIx (dV 0) (dC (.int 0))) (dC (.int 1))) (dV 1)) (dC (.int 1))) (qab (dB gIx (dV 0) (dC (.int 1))) (qab (qb9 (dXV 2) (dV 0)) (qan)))))))
def t_11:List T→Rs T:=fnT 2 2 quN
def d_29:Ro→Rs Out:=fun ρ=>(qaK (qfo 3 (qg7 (qan))) (qaK (qlA (dI (dV 0)) (gT 3 (gsC (gN 4) (gsC (gN 5) (gsC (gN 6) (gsN))))) (qaK (qbz 7 (qaJ (qab (dB qnx (dV 4) (dV 1)) (qab (dV 5) (qan))))) (qaK (dIf (qrs (dTB (dB gGt (qph (dXV 2)) (dC (.int 0)))) (dTB (dB gLt (dB gIx (qpg (dXV 2)) (dC (.int 0))) (dB gIx (dV 7) (dC (.int 0)))))) (qaK (qpC 3 (dQ (qeS 2 t_11 (qab (dV 1) (qan))))) (qpi 2)) (qay)) (qcu 2 (dV 7) (dB qbp (qcB (dXV 2) (dV 7) (dC (.int 0))) (dV 6)))))) (qf7 3))) (qmW 2 ρ)
def q_29:List T→Sl→Rs (Sl×Sl):=fnQ 2 8 d_29
def d_23:Ro→Rs Out:=qaK (qfo 2 (qg7 (qan))) (qaK (qlA (dI (dV 0)) (gT 3 (gsC (gN 3) (gsC (gN 4) (gsC (gN 5) (gsN))))) (qaK (qcu 1 (dV 4) (dB qbp (qcB (dXV 1) (dV 4) (dC (.int 0))) (dV 5))) (qfq 2 (qaJ (qab (dV 3) (qab (dV 4) (qab (qb9 (dXV 1) (dV 4)) (qan)))))))) (qf7 2))
def q_23:List T→Sl→Rs (Sl×Sl):=fnQ 1 6 d_23
def d_30:Ro→Rs Out:=qaK (qfo 2 (qg7 (qan))) (qaK (qlA (dI (dV 0)) (gT 3 (gsC (gN 3) (gsC (gN 4) (gsC (gN 5) (gsN))))) (qaK (dIf (dTB (qiN false (dV 4) (dXV 1))) (qfq 2 (qaJ (qab (dV 3) (qab (dV 4) (qab (dB gSub (dV 5) (qb9 (dXV 1) (dV 4))) (qan)))))) (qay)) (qcu 1 (dV 4) (dV 5)))) (qf7 2))
def q_30:List T→Sl→Rs (Sl×Sl):=fnQ 1 6 d_30
def d_31:Ro→Rs Out:=qaK (qfo 2 (qg7 (qan))) (qaK (qlA (dI (dV 0)) (gT 3 (gsC (gN 3) (gsC (gN 4) (gsC (gN 5) (gsN))))) (qaK (dIf (dOr (dTB (qiN true (dV 4) (dXV 1))) (dTB (dB gNe (qb9 (dXV 1) (dV 4)) (dV 5)))) (qfq 2 (qaJ (qab (dV 3) (qab (dV 4) (qab (dV 5) (qan)))))) (qay)) (qcu 1 (dV 4) (dV 5)))) (qf7 2))
def q_31:List T→Sl→Rs (Sl×Sl):=fnQ 1 6 d_31
def d_24:Ro→Rs Out:=qaK (dIf (dOr (qf8 (dTB (qet "tuple" (dV 0)))) (dOr (dTB (dB gEq (qdw (dV 0)) (dC (.int 0)))) (qf8 (dTB (qet "str" (dB gIx (dV 0) (dC (.int 0)))))))) (qbo (dC (.bl false))) (qay)) (qaK (qbz 1 (dB gIx (dV 0) (dC (.int 0)))) (qaK (dIf (dTB (qbn [(("running" :Str),("running" :Str)),(("change" :Str),("change" :Str)),(("unlike" :Str),("unlike" :Str))] (dV 1))) (qbo (dB gEq (qdw (dV 0)) (dC (.int 1)))) (qay)) (qaK (dIf (dTB (dB gNe (qdw (dV 0)) (dC (.int 2)))) (qbo (dC (.bl false))) (qay)) (qaK (dIf (dTB (dB gEq (dV 1) (dC (.str "key")))) (qbo (qas t_25 (qab (dB gIx (dV 0) (dC (.int 1))) (qan)))) (qay)) (qaK (dIf (dTB (qbn [(("over" :Str),("over" :Str)),(("under" :Str),("under" :Str)),(("plus" :Str),("plus" :Str)),(("times" :Str),("times" :Str))] (dV 1))) (qbo (qas t_8 (qab (dB gIx (dV 0) (dC (.int 1))) (qab (qg6 (dC (.int 20))) (qab (dC (.int 20)) (qan)))))) (qay)) (qbo (qfr (qbn [(("first" :Str),("first" :Str)),(("each" :Str),("each" :Str)),(("window" :Str),("window" :Str))] (dV 1)) (qas t_8 (qab (dB gIx (dV 0) (dC (.int 1))) (qab (dC (.int 1)) (qab (dC (.int 20)) (qan))))))))))))
def t_24:List T→Rs T:=fnT 1 2 d_24
def d_32:Ro→Rs Out:=qaK (dIf (dOr (qf8 (dTB (qet "tuple" (dV 0)))) (dTB (dB gGt (qdw (dV 0)) (dC (.int 5))))) (qbo (dC (.bl false))) (qay)) (qbo (dCQ qlr (dQF (qaB 1 [] (dI (dV 0)) (gN 0) (qb8) (qas t_24 (qab (dV 0) (qan)))))))
def t_32:List T→Rs T:=fnT 1 1 d_32
def d_2:Ro→Rs Out:=dIf (qf8 (dTB (qas t_32 (qab (dV 0) (qan))))) (dNo) (qay)
def t_2:List T→Rs T:=fnT 1 1 d_2
def d_13:Ro→Rs Out:=qaK (qbz 3 (dB gIx (dV 0) (dC (.int 0)))) (qaK (dIf (dTB (dB gEq (dV 3) (dC (.str "key")))) (qiP (qab (dV 1) (qab (dB gIx (dV 0) (dC (.int 1))) (qan))) o_28) (qay)) (qaK (dIf (dTB (qbn [(("over" :Str),("over" :Str)),(("under" :Str),("under" :Str)),(("plus" :Str),("plus" :Str)),(("times" :Str),("times" :Str))] (dV 3))) (qaK (qbz 4 (qfn [(("over" :Str),("over" :Str)),(("under" :Str),("under" :Str)),(("plus" :Str),("plus" :Str)),(("times" :Str),("times" :Str))] (dV 3))) (qiO 4 [(("over" :Str),o_37),(("under" :Str),o_33),(("plus" :Str),o_38),(("times" :Str),o_34)] (qab (dV 1) (qab (dB gIx (dV 0) (dC (.int 1))) (qan))))) (qay)) (qaK (dIf (dTB (qbn [(("first" :Str),("first" :Str)),(("each" :Str),("each" :Str)),(("window" :Str),("window" :Str))] (dV 3))) (qaK (qbz 4 (qfn [(("first" :Str),("first" :Str)),(("each" :Str),("each" :Str)),(("window" :Str),("window" :Str))] (dV 3))) (qfp 4 2 [(("first" :Str),q_35),(("each" :Str),q_39),(("window" :Str),q_29)] (qab (dV 1) (qab (dB gIx (dV 0) (dC (.int 1))) (qan))))) (qay)) (qaK (qbz 4 (qfn [(("running" :Str),("running" :Str)),(("change" :Str),("change" :Str)),(("unlike" :Str),("unlike" :Str))] (dV 3))) (qfp 4 2 [(("running" :Str),q_23),(("change" :Str),q_30),(("unlike" :Str),q_31)] (qab (dV 1) (qan)))))))
def q_13:List T→Sl→Rs (Sl×Sl):=fnQ 2 5 d_13
def d_5:Ro→Rs Out:=qaK (qk6 3 2 (qab (dV 0) (qab (dV 1) (qan))) q_13) (qaK (dIf (dTB (dB gEq (dB gIx (dV 0) (dC (.int 0))) (dC (.str "window")))) (qbL (qtd (dQV 3) (dQ (qeS 2 t_11 (qab (dB gIx (dV 0) (dC (.int 1))) (qan)))))) (qay)) (qf7 3))
def q_5:List T→Sl→Rs (Sl×Sl):=fnQ 2 4 d_5
def d_36:Ro→Rs Out:=qaK (qg9 (qas t_2 (qab (dV 0) (qan)))) (qaK (qg9 (qas t_1 (qab (dV 1) (qan)))) (qaK (qfo 2 (qrr qkx (dQV 1))) (qaK (qlA (dI (dV 0)) (gN 3) ((fun ρ=>(qmT 2 (qab (dV 3) (qab (dV 2) (qan))) (fun ts=>q_5 ts (.od [])>>=fun r=>.ok r.1)) (frz 2 ρ)))) (qf7 2))))
def o_36:List T→Rs Sl:=fnS 2 4 d_36
def t_36:List T→Rs T:=qrc o_36
end AS
end
section
namespace K12
open PySem L2 PL SetL
section
variable {P:Program} {w:World} {K:PySem.W.Frag} {mg:Str→Option Value} {base:Heap} {G:Gam} {C:Str→Addr}
theorem qrR:qav ["thing"] ["thing"] (qaf qr8):=⟨rfl,rfl,rfl,by decide+kernel,rfl,by decide+kernel,by decide+kernel⟩
def t_20:List T→Rs T:=AS.t_20
theorem qt9:qav ["thing", "least", "greatest"] ["thing", "least", "greatest"] (qaf s_8):=⟨rfl,rfl,rfl,by decide+kernel,rfl,by decide+kernel,by decide+kernel⟩
def d_8:Ro→Rs Out:=AS.d_8
def t_8:List T→Rs T:=AS.t_8
theorem qrQ:qav ["thing", "longest"] ["thing", "longest"] (qaf qr6):=⟨rfl,rfl,rfl,by decide+kernel,rfl,by decide+kernel,by decide+kernel⟩
def d_22:Ro→Rs Out:=AS.d_22
def t_22:List T→Rs T:=AS.t_22
theorem qrP:qav ["thing"] ["thing"] (qaf qr3):=⟨rfl,rfl,rfl,by decide+kernel,rfl,by decide+kernel,by decide+kernel⟩
def d_25:Ro→Rs Out:=AS.d_25
def t_25:List T→Rs T:=AS.t_25
theorem qrO:qav ["thing"] ["thing"] (qaf qr2):=⟨rfl,rfl,rfl,by decide+kernel,rfl,by decide+kernel,by decide+kernel⟩
def d_26:Ro→Rs Out:=AS.d_26
def t_26:List T→Rs T:=AS.t_26
theorem qrN:qav ["rows"] ["rows"] (qaf qr1):=⟨rfl,rfl,rfl,by decide+kernel,rfl,by decide+kernel,by decide+kernel⟩
def d_27:Ro→Rs Out:=AS.d_27
def t_27:List T→Rs T:=AS.t_27
theorem qud:qav ["rows"] ["rows"] (qaf s_0):=⟨rfl,rfl,rfl,by decide+kernel,rfl,by decide+kernel,by decide+kernel⟩
def d_0:Ro→Rs Out:=AS.d_0
def t_0:List T→Rs T:=AS.t_0
theorem qua:qav ["rows"] ["rows"] (qaf s_4):=⟨rfl,rfl,rfl,by decide+kernel,rfl,by decide+kernel,by decide+kernel⟩
def d_4:Ro→Rs Out:=AS.d_4
def t_4:List T→Rs T:=AS.t_4
theorem quc:qav ["rows"] ["rows"] (qaf s_1):=⟨rfl,rfl,rfl,by decide+kernel,rfl,by decide+kernel,by decide+kernel⟩
def d_1:Ro→Rs Out:=AS.d_1
def t_1:List T→Rs T:=AS.t_1
theorem qrM:qav ["rows", "key"] ["rows", "key"] (qaf qrh):=⟨rfl,rfl,rfl,by decide+kernel,rfl,by decide+kernel,by decide+kernel⟩
def o_28:List T→Rs Sl:=AS.o_28
theorem qrI:qav ["rows", "bound"] ["rows", "bound"] (qaf qre):=⟨rfl,rfl,rfl,by decide+kernel,rfl,by decide+kernel,by decide+kernel⟩
def o_37:List T→Rs Sl:=AS.o_37
theorem qrK:qav ["rows", "bound"] ["rows", "bound"] (qaf qrg):=⟨rfl,rfl,rfl,by decide+kernel,rfl,by decide+kernel,by decide+kernel⟩
def o_33:List T→Rs Sl:=AS.o_33
theorem qrH:qav ["rows", "more"] ["rows", "more"] (qaf qrd):=⟨rfl,rfl,rfl,by decide+kernel,rfl,by decide+kernel,by decide+kernel⟩
def o_38:List T→Rs Sl:=AS.o_38
theorem qrJ:qav ["rows", "factor"] ["rows", "factor"] (qaf qrf):=⟨rfl,rfl,rfl,by decide+kernel,rfl,by decide+kernel,by decide+kernel⟩
def o_34:List T→Rs Sl:=AS.o_34
theorem qpW:qav ["rows", "many", "kept", "came"] ["rows", "many", "kept"] (qaf qrW):=⟨rfl,rfl,rfl,by decide+kernel,rfl,by decide+kernel,by decide+kernel⟩
def d_35:Ro→Rs Out:=AS.d_35
def q_35:List T→Sl→Rs (Sl×Sl):=AS.q_35
theorem qpV:qav ["rows", "many", "kept", "came"] ["rows", "many", "kept"] (qaf qrU):=⟨rfl,rfl,rfl,by decide+kernel,rfl,by decide+kernel,by decide+kernel⟩
def d_39:Ro→Rs Out:=AS.d_39
def q_39:List T→Sl→Rs (Sl×Sl):=AS.q_39
theorem qrT:qav ["size", "sums"] ["size", "sums"] (qaf qri):=⟨rfl,rfl,rfl,by decide+kernel,rfl,by decide+kernel,by decide+kernel⟩
def t_11:List T→Rs T:=AS.t_11
theorem qip:qav ["rows", "size", "sums", "made", "moment", "key", "number", "place"] ["rows", "size", "sums"] (qaf qr0):=⟨rfl,rfl,rfl,by decide+kernel,rfl,by decide+kernel,by decide+kernel⟩
def d_29:Ro→Rs Out:=AS.d_29
def q_29:List T→Sl→Rs (Sl×Sl):=AS.q_29
theorem qjw:qav ["rows", "sums", "made", "moment", "key", "number"] ["rows", "sums"] (qaf qr5):=⟨rfl,rfl,rfl,by decide+kernel,rfl,by decide+kernel,by decide+kernel⟩
def d_23:Ro→Rs Out:=AS.d_23
def q_23:List T→Sl→Rs (Sl×Sl):=AS.q_23
theorem qjv:qav ["rows", "ahead", "made", "moment", "key", "number"] ["rows", "ahead"] (qaf qrZ):=⟨rfl,rfl,rfl,by decide+kernel,rfl,by decide+kernel,by decide+kernel⟩
def d_30:Ro→Rs Out:=AS.d_30
def q_30:List T→Sl→Rs (Sl×Sl):=AS.q_30
theorem qju:qav ["rows", "ahead", "made", "moment", "key", "number"] ["rows", "ahead"] (qaf qrY):=⟨rfl,rfl,rfl,by decide+kernel,rfl,by decide+kernel,by decide+kernel⟩
def d_31:Ro→Rs Out:=AS.d_31
def q_31:List T→Sl→Rs (Sl×Sl):=AS.q_31
theorem qpX:qav ["thing", "word"] ["thing"] (qaf qr4):=⟨rfl,rfl,rfl,by decide+kernel,rfl,by decide+kernel,by decide+kernel⟩
def d_24:Ro→Rs Out:=AS.d_24
def t_24:List T→Rs T:=AS.t_24
theorem qrL:qav ["thing"] ["thing"] (qaf qrX):=⟨rfl,rfl,rfl,by decide+kernel,rfl,by decide+kernel,by decide+kernel⟩
def d_32:Ro→Rs Out:=AS.d_32
def t_32:List T→Rs T:=AS.t_32
theorem qub:qav ["ask"] ["ask"] (qaf s_2):=⟨rfl,rfl,rfl,by decide+kernel,rfl,by decide+kernel,by decide+kernel⟩
def t_2:List T→Rs T:=AS.t_2
theorem qjx:qav ["step", "rows", "kept", "word", "make"] ["step", "rows", "kept"] (qaf qsd):=⟨rfl,rfl,rfl,by decide+kernel,rfl,by decide+kernel,by decide+kernel⟩
def d_13:Ro→Rs Out:=AS.d_13
def q_13:List T→Sl→Rs (Sl×Sl):=AS.q_13
theorem qtv:qav ["step", "rows", "kept", "made"] ["step", "rows", "kept"] (qaf s_5):=⟨rfl,rfl,rfl,by decide+kernel,rfl,by decide+kernel,by decide+kernel⟩
def d_5:Ro→Rs Out:=AS.d_5
def q_5:List T→Sl→Rs (Sl×Sl):=AS.q_5
theorem qlV:qav ["ask", "rows", "told", "step"] ["ask", "rows"] (qaf qrV):=⟨rfl,rfl,rfl,by decide+kernel,rfl,by decide+kernel,by decide+kernel⟩
def d_36:Ro→Rs Out:=AS.d_36
def o_36:List T→Rs Sl:=AS.o_36
def t_36:List T→Rs T:=AS.t_36
theorem qlW:qav ["_law_script", "_law_at", "_law_letters", "_law_way", "_law_key_here"] ["_law_script", "_law_at"] (qaf qr7):=⟨rfl,rfl,rfl,by decide+kernel,rfl,by decide+kernel,by decide+kernel⟩
def qrn:Ro→Rs Out:=qaK (qbz 2 (dC (.str "abcdefghijklmnopqrstuvwxyz"))) (qaK (qbz 3 (qas qcP (qab (dV 0) (qab (dV 1) (qab (dC (.int 16)) (qan)))))) (qaK (dIf (dTB (dB gGt (dV 3) (dC (.int 0)))) (qbo (dB gIx (dFz (qg7 (qab (dC (.str "a")) (qab (dC (.str "b")) (qab (dC (.str "ab")) (qan)))))) (dB qnu (dV 3) (dC (.int 3))))) (qay)) (qaK (qbz 4 (dB gIx (dV 2) (qas qcP (qab (dV 0) (qab (dB qbp (dV 1) (dC (.int 1))) (qab (dC (.int 26)) (qan))))))) (qaK (dIf (dTB (dB gEq (qas qcP (qab (dV 0) (qab (dB qbp (dV 1) (dC (.int 2))) (qab (dC (.int 2)) (qan))))) (dC (.int 0)))) (qbo (dV 4)) (qay)) (qbo (dB qbp (dV 4) (dB gIx (dV 2) (qas qcP (qab (dV 0) (qab (dB qbp (dV 1) (dC (.int 3))) (qab (dC (.int 26)) (qan))))))))))))
def qna:List T→Rs T:=fnT 2 5 qrn
theorem qrS:qav ["_law_script", "_law_at", "_law_most"] ["_law_script", "_law_at", "_law_most"] (qaf qsc):=⟨rfl,rfl,rfl,by decide+kernel,rfl,by decide+kernel,by decide+kernel⟩
def qs8:Ro→Rs Out:=qaK (dIf (dTB (dB gEq (qas qcP (qab (dV 0) (qab (dV 1) (qab (dC (.int 8)) (qan))))) (dC (.int 0)))) (qbo (dB gSub (qas qcP (qab (dV 0) (qab (dB qbp (dV 1) (dC (.int 1))) (qab (dB qbp (dB qdD (dC (.int 2)) (dV 2)) (dC (.int 1))) (qan))))) (dV 2))) (qay)) (qbo (dB gSub (qas qcP (qab (dV 0) (qab (dB qbp (dV 1) (dC (.int 1))) (qab (dC (.int 9)) (qan))))) (dC (.int 4))))
def qnW:List T→Rs T:=fnT 3 3 qs8
theorem qgA:qav ["_law_script", "_law_at", "_law_most", "_law_made", "_law_moment", "_law_far", "_law_k", "_law_base"] ["_law_script", "_law_at", "_law_most"] (qaf qr9):=⟨rfl,rfl,rfl,by decide+kernel,rfl,by decide+kernel,by decide+kernel⟩
def qtF:Ro→Rs Out:=qaK (qfo 3 (qg7 (qan))) (qaK (qbz 4 (qas qcP (qab (dV 0) (qab (dV 1) (qab (dC (.int 9)) (qan)))))) (qaK (qbz 5 (dB gIx (dFz (qg7 (qab (dC (.int 1)) (qab (dC (.int 3)) (qab (dC (.int 6)) (qab (dC (.int 14)) (qan))))))) (qas qcP (qab (dV 0) (qab (dB qbp (dV 1) (dC (.int 1))) (qab (dC (.int 4)) (qan))))))) (qaK (qlA (qro (qab (qas qcP (qab (dV 0) (qab (dB qbp (dV 1) (dC (.int 2))) (qab (dB qbp (dV 2) (dC (.int 1))) (qan))))) (qan))) (gN 6) (qaK (qbz 7 (dB qbp (dB qbp (dV 1) (dC (.int 10))) (dB qdD (dC (.int 8)) (dV 6)))) (qaK (qbz 4 (dB2 qpx (dC (.int 99)) (dB qbp (dV 4) (qas qcP (qab (dV 0) (qab (dV 7) (qab (dV 5) (qan)))))))) (qfq 3 (qaJ (qab (dV 4) (qab (qas qna (qab (dV 0) (qab (dB qbp (dV 7) (dC (.int 1))) (qan)))) (qab (qas qnW (qab (dV 0) (qab (dB qbp (dV 7) (dC (.int 5))) (qab (dC (.int 99)) (qan))))) (qan))))))))) ((fun ρ=>(qbo (dV 3)) (frz 3 ρ))))))
def qpw:List T→Rs T:=fnT 3 8 qtF
theorem qbC:qav ["_law_script", "_law_rows_here", "_law_size", "_law_by", "_law_short", "_law_firsts", "_law_later", "_law_heads", "_law_some", "_law_key_here", "_law_mine", "_law_whole", "_law_changed", "_law_one", "_law_other", "_law_n", "_law_over", "_law_under"] ["_law_script"] (qaf qd7):=⟨rfl,rfl,rfl,by decide+kernel,rfl,by decide+kernel,by decide+kernel⟩
def qpf:Ro→Rs Out:=qaK (qbz 1 (qas qpw (qab (dV 0) (qab (dC (.int 100)) (qab (dC (.int 12)) (qan)))))) (qaK (qpk 2 3 (dB qbp (dC (.int 1)) (qas qcP (qab (dV 0) (qab (dC (.int 0)) (qab (dC (.int 5)) (qan)))))) (dB qbp (dC (.int 1)) (qas qcP (qab (dV 0) (qab (dC (.int 1)) (qab (dC (.int 4)) (qan))))))) (qaK (qbz 4 (qas t_36 (qab (qaJ (qab (qaJ (qab (dC (.str "window")) (qab (dV 2) (qan)))) (qan))) (qab (dV 1) (qan))))) (qaK (dIf (dTB (dB gNe (qas t_36 (qab (qaJ (qab (qaJ (qab (dC (.str "window")) (qab (dV 2) (qan)))) (qab (qaJ (qab (dC (.str "window")) (qab (dB qdD (dV 2) (dV 3)) (qan)))) (qan)))) (qab (dV 1) (qan)))) (qas t_36 (qab (qaJ (qab (qaJ (qab (dC (.str "window")) (qab (dB qdD (dV 2) (dV 3)) (qan)))) (qan))) (qab (dV 1) (qan)))))) (qbo (dC (.bl false))) (qay)) (qaK (dIf (dTB (dB gNe (dCQ qlL (dQF (qaB 1 [] (dI (dV 4)) (gN 0) (qb8) (dB gIx (dV 0) (dC (.int 2)))))) (dCQ qlL (dQF (qaB 1 [] (dI (dV 1)) (gN 0) (qb8) (dB gIx (dV 0) (dC (.int 2)))))))) (qbo (dC (.bl false))) (qay)) (qaK (qbz 5 (dFz (qaB 2 [1] (qja (qab (dV 1) (qan))) (gT 2 (gsC (gN 0) (gsC (gN 1) (gsN)))) (dTB (dIn true (dB gIx (dV 1) (dC (.int 1))) (dQF (qaB 1 [] (dI (dFz (qgv (dQV 2) (dON) (dOS (dV 0))))) (gN 0) (qb8) (dB gIx (dV 0) (dC (.int 1))))))) (dV 1)))) (qaK (qbz 6 (dFz (qaB 2 [1] (qja (qab (dV 1) (qan))) (gT 2 (gsC (gN 0) (gsC (gN 1) (gsN)))) (dTB (dIn false (dB gIx (dV 1) (dC (.int 1))) (dQF (qaB 1 [] (dI (dFz (qgv (dQV 2) (dON) (dOS (dV 0))))) (gN 0) (qb8) (dB gIx (dV 0) (dC (.int 1))))))) (dV 1)))) (qaK (dIf (dTB (dB gNe (qas t_36 (qab (qaJ (qab (qaJ (qab (dC (.str "running")) (qan))) (qab (qaJ (qab (dC (.str "change")) (qan))) (qan)))) (qab (dV 1) (qan)))) (dV 6))) (qbo (dC (.bl false))) (qay)) (qaK (qbz 7 (qrp (qrq qf5 (dQF (qaB 1 [] (dI (dV 5)) (gN 0) (qb8) (qaJ (qab (dB gIx (dV 0) (dC (.int 1))) (qab (dB gIx (dV 0) (dC (.int 2))) (qan))))))))) (qaK (dIf (dTB (dB gNe (qas t_36 (qab (qaJ (qab (qaJ (qab (dC (.str "change")) (qan))) (qab (qaJ (qab (dC (.str "running")) (qan))) (qan)))) (qab (dV 1) (qan)))) (dFz (qaB 1 [7] (dI (dV 6)) (gN 0) (qb8) (qaJ (qab (dB gIx (dV 0) (dC (.int 0))) (qab (dB gIx (dV 0) (dC (.int 1))) (qab (dB gSub (dB gIx (dV 0) (dC (.int 2))) (qg8 (dV 1) (dB gIx (dV 0) (dC (.int 1))))) (qan))))))))) (qbo (dC (.bl false))) (qay)) (qaK (qbz 8 (qas t_36 (qab (qaJ (qab (qaJ (qab (dC (.str "unlike")) (qan))) (qan))) (qab (dV 1) (qan))))) (qaK (qlA (qtc (dV 7)) (gN 9) (qaK (qbz 10 (dFz (qaB 1 [9] (dI (dV 8)) (gN 0) (dTB (dB gEq (dB gIx (dV 0) (dC (.int 1))) (dV 1))) (dB gIx (dV 0) (dC (.int 2)))))) (qaK (dIf (dTB (dB gNe (dFz (qaB 1 [10] (qpm (qab (dC (.int 1)) (qab (qdw (dV 10)) (qan)))) (gN 0) (dTB (dB gEq (dB gIx (dV 1) (dV 0)) (dB gIx (dV 1) (dB gSub (dV 0) (dC (.int 1)))))) (dV 0))) (dFz (qg7 (qan))))) (qbo (dC (.bl false))) (qay)) (qaK (qbz 11 (dFz (qaB 1 [9] (dI (dV 1)) (gN 0) (dTB (dB gEq (dB gIx (dV 0) (dC (.int 1))) (dV 1))) (dB gIx (dV 0) (dC (.int 2)))))) (qaK (qbz 12 (dFz (qaB 2 [11] (qja (qab (dV 11) (qan))) (gT 2 (gsC (gN 0) (gsC (gN 1) (gsN)))) (dOr (dTB (dB gEq (dV 0) (dC (.int 0)))) (dTB (dB gNe (dB gIx (dV 2) (dB gSub (dV 0) (dC (.int 1)))) (dV 1)))) (dV 1)))) (dIf (dTB (dB gNe (dV 10) (dV 12))) (qbo (dC (.bl false))) (qay))))))) (qaK (qpk 13 14 (dB qbp (dC (.int 1)) (qas qcP (qab (dV 0) (qab (dC (.int 2)) (qab (dC (.int 4)) (qan)))))) (dB qbp (dC (.int 1)) (qas qcP (qab (dV 0) (qab (dC (.int 3)) (qab (dC (.int 4)) (qan))))))) (qaK (dIf (dTB (dB gNe (qas t_36 (qab (qaJ (qab (qaJ (qab (dC (.str "each")) (qab (dV 13) (qan)))) (qab (qaJ (qab (dC (.str "each")) (qab (dV 14) (qan)))) (qan)))) (qab (dV 1) (qan)))) (qas t_36 (qab (qaJ (qab (qaJ (qab (dC (.str "each")) (qab (dB qdD (dV 13) (dV 14)) (qan)))) (qan))) (qab (dV 1) (qan)))))) (qbo (dC (.bl false))) (qay)) (qaK (dIf (dTB (dB gNe (qas t_36 (qab (qaJ (qab (qaJ (qab (dC (.str "first")) (qab (dV 13) (qan)))) (qab (qaJ (qab (dC (.str "first")) (qab (dV 14) (qan)))) (qan)))) (qab (dV 1) (qan)))) (dFz (qgv (dQV 1) (dON) (dOS (dB2 qpx (dV 13) (dV 14))))))) (qbo (dC (.bl false))) (qay)) (qaK (qbz 15 (dB gSub (qas qcP (qab (dV 0) (qab (dC (.int 4)) (qab (dC (.int 9)) (qan))))) (dC (.int 4)))) (qaK (qpk 16 17 (qas t_36 (qab (qaJ (qab (qaJ (qab (dC (.str "over")) (qab (dV 15) (qan)))) (qan))) (qab (dV 1) (qan)))) (qas t_36 (qab (qaJ (qab (qaJ (qab (dC (.str "under")) (qab (dB qbp (dV 15) (dC (.int 1))) (qan)))) (qan))) (qab (dV 1) (qan))))) (qbo (qfr (dB gEq (dB qbp (qdw (dV 16)) (qdw (dV 17))) (qdw (dV 1))) (dB gEq (qas t_36 (qab (qaJ (qab (qaJ (qab (dC (.str "plus")) (qab (dV 15) (qan)))) (qab (qaJ (qab (dC (.str "plus")) (qab (dB gSub (dC (.int 0)) (dV 15)) (qan)))) (qan)))) (qab (dV 1) (qan)))) (dV 1))))))))))))))))))))
def t_law:List T→Rs T:=fnT 1 18 qpf
end
end K12
end
section
namespace AS
open PySem L2 PL SetL SR
theorem qai {d e:Ro→Rs Out} {ρ ρ':Ro} {r:Rs Out} (h:d ρ= .ok (.nx ρ')) (h2:e ρ'=r):qaK d e ρ=r:=by
 unfold qaK; rw[h]; exact h2
theorem qiL (i:Int):t_20 [.int i]= .ok (.bl true):=rfl
theorem qdS (i a b:Int):t_8 [.int i,.int a,.int b]= .ok (.bl (decide (a≤i)&&decide (i≤b))):=by
 unfold t_8 d_8
 simp only[fnT,List.length_cons,List.length_nil,Nat.reduceAdd,qbo,qfr,dTB,qas,qab,dV,List.map_cons,List.map_nil,Nat.reduceSub,List.replicate,List.append_nil,List.getElem?_cons_zero,qan,qad,qiL,qcm,List.getElem?_cons_succ,qoN,if_true]
 by_cases h:a≤i
 ·simp[h]; rfl
 ·simp[h]; rfl
theorem qkS {x:Str} (h:qei x):t_22 [.str x,.int 2]= .ok (.bl true):=by
 have l1:(1:Int)≤(x.length:Int):=by have:=h.1.1; lia
 have l2:(x.length:Int)≤2:=by have:=h.1.2; lia
 have l3:x.length≤1000:=by have:=h.1.2; lia
 have cm:qaB 1 [] (dIS (dV 0)) (gN 0) qb8 (qcm gLe gLe (dC (T.str "a")) (dV 0) (dC (T.str "z"))) [.fz (.str x),.fz (.int 2)]= .ok ((x.cps.toList.filter fun _=>true).map fun _=>T.bl true):=by
  refine qbS (f:=fun c=>T.str ⟨#[c]⟩) ?_ fun c hc=>⟨rfl,fun _=> ?_⟩
  ·show (if x.length≤1000 then _ else _)=_
   rw[if_pos l3]
  ·have:=qn7 (h.2 c hc)
   unfold qcm
   simp only[dC,dV,qad,List.getElem?_cons_zero,this.1,this.2,if_true]
 unfold t_22 d_22
 have i1:qgT "str" (.str x)= .ok (.bl true):=rfl
 simp only[fnT,List.length_cons,List.length_nil,Nat.reduceAdd,qaK,dIf,dOr,qf8,dTB,qet,dV,List.map_cons,List.map_nil,Nat.reduceSub,List.replicate,List.append_nil,List.getElem?_cons_zero,qad,i1,Bool.not_true,qcm,dC,qdw,qnw,l3,if_true,List.getElem?_cons_succ,qoN,l2,decide_true,l1,Bool.false_eq_true,if_false,qbo,qay,qdf,dCQ,dQF,cm,qlr]
 have y: ∀l:List Nat,(l.map fun _=>T.bl true).all qmv=true∧(l.map fun _=>T.bl true).all qll=true:=fun l=>by constructor<;>(rw[List.all_map,List.all_eq_true]; intro _ _; rfl)
 rw[qaW,(y _).1,(y _).2]
 simp only[true_and,if_true,qad]
 rfl
theorem qh3 {x:Str} (h:qei x):t_25 [.str x]= .ok (.bl true):=by
 unfold t_25 d_25
 simp only[fnT,List.length_cons,List.length_nil,Nat.reduceAdd,qbo,qas,qab,dV,List.map_cons,List.map_nil,Nat.reduceSub,List.replicate,List.append_nil,List.getElem?_cons_zero,dC,qan,qad,qkS h,outT,if_true]
theorem qmJ {r:Row} (h:qlZ r):t_26 [qaq r]= .ok (.bl true):=by
 obtain ⟨⟨h1,h2⟩,hk,h3,h4⟩:=h
 have i1:qgT "tuple" (qaq r)= .ok (.bl true):=rfl
 have i2:qpy (qaq r)= .ok (.int 3):=rfl
 have i3:gNe (.int 3) (.int 3)= .ok (.bl false):=rfl
 have w1:=qdS r.1 0 99
 have w2:=qdS r.2.2 (-99) 99
 rw[decide_eq_true h1,decide_eq_true h2] at w1
 rw[decide_eq_true h3,decide_eq_true h4] at w2
 unfold t_26 d_26
 simp only[fnT,List.length_cons,List.length_nil,Nat.reduceAdd,qaK,dIf,dOr,qf8,dTB,qet,dV,List.map_cons,List.map_nil,Nat.reduceSub,List.replicate,List.append_nil,List.getElem?_cons_zero,qad,i1,Bool.not_true,dB,qdw,i2,dC,i3,Bool.false_eq_true,if_false,qbo,qay,qdf,qas,qab,qan,qg6,qnt,qug,w1,Bool.and_self,quf,qh3 hk,que,w2,outT,if_true]
theorem qmK (rs:List Row):t_27 [qam rs]= .ok (.bl (qeA rs)):=by
 have cm:qaB 2 [] (dIZ (qab (dV 0) (qab (dFz (qgv (dQV 0) (dOS (dC (T.int 1))) dON)) qan))) (gT 2 (gsC (gN 0) (gsC (gN 1) gsN))) qb8 (dB gLe (dB gIx (dV 0) (dC (T.int 0))) (dB gIx (dV 1) (dC (T.int 0)))) [.fz (qam rs)]= .ok (((rs.zip (rs.drop 1)).filter fun _=>true).map fun p=>T.bl (decide (p.1.1≤p.2.1))):=by
  refine qk7 (a:=fun p:Row×Row=>qaq p.1) (b:=fun p=>qaq p.2) ?_ fun p hp=>⟨rfl,fun _=>rfl⟩
  unfold qam
  simp only[dIZ,qab,dV,dFz,qgv,dQV,dOS,dC,dON,qan,qe3,qad,List.getElem?_cons_zero,if_true,quR,qnP]
  rw[←List.map_drop,qlC]
 unfold t_27 d_27
 simp only[fnT,List.length_cons,List.length_nil,Nat.reduceAdd,qbo,dCQ,dQF,List.map_cons,List.map_nil,Nat.reduceSub,List.replicate,List.append_nil,cm,qaW,qad,qft,outT,if_true]
 rfl
theorem qf0 {rs:List Row} (h: ∀r∈rs,qlZ r):t_0 [qam rs]= .ok .non:=by
 have cm:qaB 1 [] (dI (dV 0)) (gN 0) qb8 (qas t_26 (qab (dV 0) qan)) [.fz (qam rs)]= .ok ((rs.filter fun _=>true).map fun _=>T.bl true):=by
  refine qbS (f:=qaq) rfl fun r hr=>⟨rfl,fun _=> ?_⟩
  simp only[qas,qab,dV,List.map_nil,List.getElem?_cons_zero,qan,qad,qmJ (h r hr)]
 unfold t_0 d_0
 simp only[fnT,List.length_cons,List.length_nil,Nat.reduceAdd,dIf,qf8,dTB,dCQ,dQF,List.map_cons,List.map_nil,Nat.reduceSub,List.replicate,List.append_nil,cm,qaW,qad,qft,qay,if_true]
 have y:(rs.all fun _=>true)=true:=by rw[List.all_eq_true]; intro _ _; rfl
 rw[y]; rfl
theorem qeC {rs:List Row} (h:qeA rs=true):t_4 [qam rs]= .ok .non:=by
 unfold t_4 d_4
 simp only[fnT,List.length_cons,List.length_nil,Nat.reduceAdd,dIf,qf8,dTB,qas,qab,dV,List.map_cons,List.map_nil,Nat.reduceSub,List.replicate,List.append_nil,List.getElem?_cons_zero,qan,qad,qmK,h,Bool.not_true,qay,Bool.false_eq_true,if_false,outT,if_true]
theorem qf1 {rs:List Row} (h:Log rs):t_1 [qam rs]= .ok .non:=by
 unfold t_1 d_1
 simp only[fnT,List.length_cons,List.length_nil,Nat.reduceAdd,qaK,qg9,qas,qab,dV,List.map_cons,List.map_nil,Nat.reduceSub,List.replicate,List.append_nil,List.getElem?_cons_zero,qan,qad,qf0 h.ok,qdf,qeC h.log,outT,if_true]
theorem qci {κ:Type} [DecidableEq κ] (k k':κ) (t:T): ∀kvs:List (κ×T),((kvs.map fun kv=>if kv.1=k then (kv.1,t) else kv).find? fun kv=>decide (kv.1=k')).map (·.2)=
  if k=k' then (if (kvs.any fun kv=>decide (kv.1=k))=true then some t else none) else (kvs.find? fun kv=>decide (kv.1=k')).map (·.2)
 | []=>by simp
 | p::kvs=>by
  have ih:=qci k k' t kvs
  rw[List.map_cons,List.find?_cons,List.find?_cons,List.any_cons]
  by_cases c:p.1=k
  ·rw[if_pos c]
   by_cases d:k=k'
   ·have:p.1=k':=c.trans d
    simp[this,d]
   ·have: ¬p.1=k':=fun z=>d (c.symm.trans z)
    rw[decide_eq_false this]
    simp only[d,if_false] at ih⊢
    exact ih
  ·rw[if_neg c,decide_eq_false c,Bool.false_or]
   by_cases e:p.1=k'
   ·have: ¬k=k':=fun z=>c (e.trans z.symm)
    rw[decide_eq_true e]
    simp[this]
   ·rw[decide_eq_false e]
    exact ih
theorem qlF (kvs:List (Key×T)) (k k':Key) (t:T):qeZ (qdl kvs k t) k'=if k=k' then some t else qeZ kvs k':=by
 unfold qeZ qdl
 by_cases c:(kvs.any fun kv=>decide (kv.1=k))=true
 ·rw[if_pos c,qci,if_pos c]
 ·rw[if_neg c,List.find?_append]
  by_cases d:k=k'
  ·subst d
   have:(kvs.find? fun kv=>decide (kv.1=k))=none:=by
    rw[List.find?_eq_none]
    intro p hp z
    exact c (List.any_eq_true.mpr ⟨p,hp,z⟩)
   rw[this]; simp
  ·rw[if_neg d]
   cases e:kvs.find? fun kv=>decide (kv.1=k') with
   | some p=>rfl
   | none=>simp[d]
theorem qlE (kvs:List (List Key×T)) (k k':List Key) (t:T):qey (qit kvs k t) k'=if k=k' then some t else qey kvs k':=by
 unfold qey qit
 by_cases c:(kvs.any fun kv=>decide (kv.1=k))=true
 ·rw[if_pos c,qci,if_pos c]
 ·rw[if_neg c,List.find?_append]
  by_cases d:k=k'
  ·subst d
   have:(kvs.find? fun kv=>decide (kv.1=k))=none:=by
    rw[List.find?_eq_none]
    intro p hp z
    exact c (List.any_eq_true.mpr ⟨p,hp,z⟩)
   rw[this]; simp
  ·rw[if_neg d]
   cases e:kvs.find? fun kv=>decide (kv.1=k') with
   | some p=>rfl
   | none=>simp[d]
theorem qfd (kvs:List (Key×T)) (k:Key) (t:T):(qdl kvs k t).length≤kvs.length+1:=by
 unfold qdl
 split
 ·rw[List.length_map]; omega
 ·simp
def qcY (b:Int) (rs:List Row):List Row:=rs.filter fun r=>decide (b<r.2.2)
def qbM (b:Int) (rs:List Row):List Row:=rs.filter fun r=>decide (r.2.2<b)
def qcs (m:Int) (rs:List Row):List Row:=rs.map fun r=>(r.1,r.2.1,r.2.2+m)
def qeE (m:Int) (rs:List Row):List Row:=rs.map fun r=>(r.1,r.2.1,r.2.2*m)
theorem quo (rs:List Row) (k:Str):o_28 [qam rs,.str k]= .ok (.ow ((qqp rs k).map qaq)):=by
 have cm:qaB 1 [1] (dI (dV 0)) (gN 0) (dTB (dB gEq (dB gIx (dV 0) (dC (.int 1))) (dV 1))) (dV 0) [.fz (qam rs),.fz (.str k)]= .ok ((rs.filter fun r=>r.2.1==k).map qaq):=
  qbS (f:=qaq) rfl fun r hr=>⟨rfl,fun _=>rfl⟩
 show (qbL _ [.fz (qam rs),.fz (.str k)]>>=qoo)=_
 unfold qbL
 rw[cm]
 rfl
theorem qul (rs:List Row) (b:Int):o_37 [qam rs,.int b]= .ok (.ow ((qcY b rs).map qaq)):=by
 have cm:qaB 1 [1] (dI (dV 0)) (gN 0) (dTB (dB gGt (dB gIx (dV 0) (dC (.int 2))) (dV 1))) (dV 0) [.fz (qam rs),.fz (.int b)]= .ok ((qcY b rs).map qaq):=
  qbS (f:=qaq) rfl fun r hr=>⟨rfl,fun _=>rfl⟩
 show (qbL _ [.fz (qam rs),.fz (.int b)]>>=qoo)=_
 unfold qbL
 rw[cm]
 rfl
theorem qun (rs:List Row) (b:Int):o_33 [qam rs,.int b]= .ok (.ow ((qbM b rs).map qaq)):=by
 have cm:qaB 1 [1] (dI (dV 0)) (gN 0) (dTB (dB gLt (dB gIx (dV 0) (dC (.int 2))) (dV 1))) (dV 0) [.fz (qam rs),.fz (.int b)]= .ok ((qbM b rs).map qaq):=
  qbS (f:=qaq) rfl fun r hr=>⟨rfl,fun _=>rfl⟩
 show (qbL _ [.fz (qam rs),.fz (.int b)]>>=qoo)=_
 unfold qbL
 rw[cm]
 rfl
theorem quk (rs:List Row) (b:Int):o_38 [qam rs,.int b]= .ok (.ow ((qcs b rs).map qaq)):=by
 have cm:qaB 3 [1] (dI (dV 0)) (gT 3 (gsC (gN 0) (gsC (gN 1) (gsC (gN 2) (gsN))))) (qb8) (qaJ (qab (dV 0) (qab (dV 1) (qab (dB qbp (dV 2) (dV 3)) (qan))))) [.fz (qam rs),.fz (.int b)]= .ok ((rs.filter fun _=>true).map fun r=>qaq (r.1,r.2.1,r.2.2+b)):=
  qnJ (a:=fun r:Row=>.int r.1) (b:=fun r=>.str r.2.1) (c:=fun r=>.int r.2.2) rfl fun r hr=>⟨rfl,fun _=>rfl⟩
 show (qbL _ [.fz (qam rs),.fz (.int b)]>>=qoo)=_
 unfold qbL
 rw[cm,qaW,show (rs.map fun r=>qaq (r.1,r.2.1,r.2.2+b))=(qcs b rs).map qaq by unfold qcs; rw[List.map_map]; rfl]
 rfl
theorem qum (rs:List Row) {b:Int} (hb: -1000000≤b∧b≤1000000):o_34 [qam rs,.int b]= .ok (.ow ((qeE b rs).map qaq)):=by
 have cm:qaB 3 [1] (dI (dV 0)) (gT 3 (gsC (gN 0) (gsC (gN 1) (gsC (gN 2) (gsN))))) (qb8) (qaJ (qab (dV 0) (qab (dV 1) (qab (dB qdD (dV 2) (dV 3)) (qan))))) [.fz (qam rs),.fz (.int b)]= .ok ((rs.filter fun _=>true).map fun r=>qaq (r.1,r.2.1,r.2.2*b)):=by
  refine qnJ (a:=fun r:Row=>.int r.1) (b:=fun r=>.str r.2.1) (c:=fun r=>.int r.2.2) rfl fun r hr=>⟨rfl,fun _=> ?_⟩
  have l3:(3:Nat)≤1000:=by decide
  simp only[fnT,qaK,qdf,qbo,qbz,qfo,qg9,dIf,qay,dV,dC,dB,dB2,qas,qab,qan,qaJ,qg7,dFz,dQ,dQF,dQV,qjr,qjq,dCQ,qrr,dTB,qrs,dOr,qf8,qfr,quO,qpl,quQ,qcm,dI,qgQ,qgP,dIS,qro,qpm,dIZ,qpk,qtb,qta,qdw,qet,qg6,qnt,qfq,qpC,qnn,qdB,frz,quP,ixQ,qgv,dOS,dON,gN,gT,gsC,gsN,qc4,qkI,qhT,qqN,qhU,qsY,qoN,qmz,qs0,qsZ,qmy,qnv,qiI,qoL,qs1,qnw,qqK,qqL,quw,PL.outT,dIn,qpz,qpK,qkx,qad,qow,qoc,List.map_cons,List.map_nil,List.length_cons,List.length_nil,List.length_map,List.replicate,List.cons_append,List.nil_append,List.append_nil,List.getElem?_cons_zero,List.getElem?_cons_succ,List.set_cons_zero,List.set_cons_succ,Nat.reduceSub,Nat.reduceAdd,Nat.reduceLeDiff,Nat.reduceEqDiff,if_true,if_false,Bool.false_eq_true,reduceIte,Bool.not_true,Bool.not_false,Bool.and_true,Bool.true_and,Bool.and_self,Bool.or_self,qge,hb,and_self,or_true,l3]
  rfl
 show (qbL _ [.fz (qam rs),.fz (.int b)]>>=qoo)=_
 unfold qbL
 rw[cm,qaW,show (rs.map fun r=>qaq (r.1,r.2.1,r.2.2*b))=(qeE b rs).map qaq by unfold qeE; rw[List.map_map]; rfl]
 rfl
end AS
end
section
namespace AS
open PySem L2 PL SetL SR
theorem cut_take {α:Type} (ts:List T) {n:Nat}:qlB ts none (some (n:Int))=ts.take n:=by
 unfold qlB
 rw[HT.sIx_none,HT.sIx_nat,List.drop_zero,Nat.sub_zero]
 rcases Nat.le_total n ts.length with h | h
 ·rw[Nat.min_eq_left h]
 ·rw[Nat.min_eq_right h,List.take_of_length_le (Nat.le_refl _),List.take_of_length_le h]
theorem ql1 (rs:List Row) {n:Int} (hn:0≤n): ∃D:List (Key×T),q_35 [qam rs,.int n] (.od [])= .ok (.ow ((rs.take n.toNat).map qaq),.od D):=by
 obtain ⟨m,rfl⟩: ∃m:Nat,n=m:=⟨n.toNat,by omega⟩
 refine ⟨qdl [] (.inr "came") (.int (0+(rs.map qaq).length)),?_⟩
 have e1:qbz 3 (qcB (dXV 2) (dC (.str "came")) (dC (.int 0))) [.fz (qam rs),.fz (.int m),.pd [],.no]= .ok (.nx [.fz (qam rs),.fz (.int m),.pd [],.fz (.int 0)]):=rfl
 have e2:qcu 2 (dC (.str "came")) (dB qbp (dV 3) (qdw (dV 0))) [.fz (qam rs),.fz (.int m),.pd [],.fz (.int 0)]= .ok (.nx [.fz (qam rs),.fz (.int m),.pd (qdl [] (.inr "came") (.int (0+(rs.map qaq).length))),.fz (.int 0)]):=rfl
 have e3: ∀D:List (Key×T),qbL (qgv (dQV 0) (dON) (dOS (dB2 qsX (dB gSub (dV 1) (dV 3)) (dC (.int 0))))) [.fz (qam rs),.fz (.int m),.pd D,.fz (.int 0)]= .ok (.rs (.ow ((rs.take m).map qaq)) [.fz (qam rs),.fz (.int m),.pd D,.fz (.int 0)]):=fun D=>by
  show (Rs.ok (qlB (rs.map qaq) none (some (if (0:Int)>(m:Int) - 0 then 0 else (m:Int) - 0)))>>=fun ts=>Rs.ok (Out.rs (.ow ts) [.fz (qam rs),.fz (.int m),.pd D,.fz (.int 0)]))=_
  rw[if_neg (by omega),show (m:Int) - 0=m by omega,cut_take (α:=Unit),qad,List.map_take]
 show (d_35 [.fz (qam rs),.fz (.int m),.pd [],.no]>>=qi9 2)=_
 unfold d_35
 rw[qai e1 (qai e2 (e3 _)),qad]
 rfl
def qbI (n:Int) (rs:List Row):List Row:=RH.pickL rs (some (n - 1)) none (some n)
theorem qjQ {α β:Type} (f:α→β) (xs:List α) (a b c:Option Int):RH.pickL (xs.map f) a b c=(RH.pickL xs a b c).map f:=by
 unfold RH.pickL
 rw[List.length_map,List.map_filterMap]
 refine congrArg (fun g=>List.filterMap g _) (funext fun i=> ?_)
 rw[List.getElem?_map]
theorem qn9 (rs:List Row) {n:Int} (hn:0<n): ∃D:List (Key×T),q_39 [qam rs,.int n] (.od [])= .ok (.ow ((qbI n rs).map qaq),.od D):=by
 refine ⟨qdl [] (.inr "came") (.int ((0+(rs.map qaq).length) % n)),?_⟩
 have e1:qbz 3 (qcB (dXV 2) (dC (.str "came")) (dC (.int 0))) [.fz (qam rs),.fz (.int n),.pd [],.no]= .ok (.nx [.fz (qam rs),.fz (.int n),.pd [],.fz (.int 0)]):=rfl
 have e2:qcu 2 (dC (.str "came")) (dB qnu (dB qbp (dV 3) (qdw (dV 0))) (dV 1)) [.fz (qam rs),.fz (.int n),.pd [],.fz (.int 0)]= .ok (.nx [.fz (qam rs),.fz (.int n),.pd (qdl [] (.inr "came") (.int ((0+(rs.map qaq).length) % n))),.fz (.int 0)]):=by
  show ((if 0<n then Rs.ok (T.int ((0+((rs.map qaq).length:Nat)) % n)) else .no)>>=fun t=>Rs.ok (T.str "came")>>=fun k=>qjL _ 2 (.pd []) k t)=_
  rw[if_pos hn]
  rfl
 have e3: ∀D:List (Key×T),qbL (qs9 (dQV 0) (dOS (dB gSub (dB gSub (dV 1) (dC (.int 1))) (dV 3))) (dON) (dOS (dV 1))) [.fz (qam rs),.fz (.int n),.pd D,.fz (.int 0)]= .ok (.rs (.ow ((qbI n rs).map qaq)) [.fz (qam rs),.fz (.int n),.pd D,.fz (.int 0)]):=fun D=>by
  show ((if (true:Bool)=true∧(some n:Option Int)≠some 0 then Rs.ok (RH.pickL (rs.map qaq) (some (n - 1 - 0)) none (some n)) else .no)>>=fun ts=>Rs.ok (Out.rs (.ow ts) [.fz (qam rs),.fz (.int n),.pd D,.fz (.int 0)]))=_
  rw[if_pos ⟨rfl,fun z=>by cases z; omega⟩,show n - 1 - 0=n - 1 by omega,qad,qjQ]
  rfl
 show (d_39 [.fz (qam rs),.fz (.int n),.pd [],.no]>>=qi9 2)=_
 unfold d_39
 rw[qai e1 (qai e2 (e3 _)),qad]
 rfl
def qdz {β:Type} (f:Str→β) (k:Str) (x:β):Str→β:=fun j=>if j=k then x else f j
def qex:(Str→Option Int)→List Row→List Row
 | _,[]=>[]
 | f,r::rs=>(r.1,r.2.1,(f r.2.1).getD 0+r.2.2)::qex (qdz f r.2.1 (some ((f r.2.1).getD 0+r.2.2))) rs
def qdL:(Str→Option Int)→List Row→List Row
 | _,[]=>[]
 | f,r::rs=>(match f r.2.1 with | some x=>[(r.1,r.2.1,r.2.2 - x)] | none=>[])++qdL (qdz f r.2.1 (some r.2.2)) rs
def qbX:(Str→Option Int)→List Row→List Row
 | _,[]=>[]
 | f,r::rs=>(if f r.2.1=some r.2.2 then [] else [r])++qbX (qdz f r.2.1 (some r.2.2)) rs
def Agr (D:List (Key×T)) (f:Str→Option Int):Prop:= ∀k,qeZ D (.inr k)=(f k).map T.int
theorem Agr.nil:Agr [] (fun _=>none):=fun _=>rfl
theorem Agr.put {D:List (Key×T)} {f:Str→Option Int} (h:Agr D f) (k:Str) (x:Int):Agr (qdl D (.inr k) (.int x)) (qdz f k (some x)):=fun j=>by
 rw[qlF]
 unfold qdz
 by_cases c:j=k
 ·subst c; rw[if_pos rfl,if_pos rfl]; rfl
 ·rw[if_neg (fun z=>c (by simpa using z.symm)),if_neg c]
  exact h j
theorem Agr.get2 {D:List (Key×T)} {f:Str→Option Int} (h:Agr D f) (k:Str):qeJ (.pd D) (.str k) (.int 0)= .ok (.int ((f k).getD 0)):=by
 show Rs.ok ((qeZ D (.inr k)).getD (.int 0))=_
 rw[h k]
 cases f k<;>rfl
theorem Agr.get {D:List (Key×T)} {f:Str→Option Int} (h:Agr D f) {k:Str} {x:Int} (e:f k=some x):qiC (.pd D) (.str k)= .ok (.int x):=by
 show (match some (qeZ D (.inr k)) with | some (some t)=>Rs.ok t | _=>.no)=_
 rw[h k,e]
 rfl
theorem Agr.in_ {D:List (Key×T)} {f:Str→Option Int} (h:Agr D f) (k:Str) (neg:Bool):inX neg (.pd D) (.str k)= .ok (.bl (if neg then !(f k).isSome else (f k).isSome)):=by
 show Rs.ok (T.bl (if neg then !(qeZ D (.inr k)).isSome else (qeZ D (.inr k)).isSome))=_
 rw[h k]
 cases f k<;>rfl
theorem qgE {ρ:Ro} {i:Nat} {D:List (Key×T)} {k:Str} {t:T} (h:D.length≤1000):qjL ρ i (.pd D) (.str k) t= .ok (.nx (ρ.set i (.pd (qdl D (.inr k) t)))):=by
 unfold qjL
 rw[if_pos (show qns (.pd D)≤1000 from h)]
 rfl
abbrev qlz (i j k:Nat):T→Ro→Rs Ro:=gT 3 (gsC (gN i) (gsC (gN j) (gsC (gN k) (gsN))))
theorem qhe {ρ:Ro} {i:Nat} {acc:List Row} {x:Row} {da:Ro→Rs T} (h:ρ[i]? =some (.ow (acc.map qaq))) (hx:da ρ= .ok (qaq x)) (hl:acc.length≤900):qfq i da ρ= .ok (.nx (ρ.set i (.ow ((acc++[x]).map qaq)))):=by
 unfold qfq qnn
 rw[h]
 simp only[qad,hx]
 unfold qdB
 rw[h]
 have:(acc.map qaq).length+[qaq x].length≤1000:=by rw[List.length_map,List.length_singleton]; omega
 simp only[this,if_true,List.map_append,List.map_cons,List.map_nil]
theorem qhs (x0:Sl): ∀(rs:List Row) (D:List (Key×T)) (f:Str→Option Int) (acc:List Row) (s3 s4 s5:Sl),Agr D f→D.length+rs.length≤900→acc.length+rs.length≤900→∃D' s3' s4' s5',
  qdK (qlz 3 4 5) (qaK (qcu 1 (dV 4) (dB qbp (qcB (dXV 1) (dV 4) (dC (.int 0))) (dV 5))) (qfq 2 (qaJ (qab (dV 3) (qab (dV 4) (qab (qb9 (dXV 1) (dV 4)) (qan))))))) (rs.map qaq) [x0,.pd D,.ow (acc.map qaq),s3,s4,s5]= .ok (.nx [x0,.pd D',.ow ((acc++qex f rs).map qaq),s3',s4',s5'])
 | [],D,f,acc,s3,s4,s5,_,_,_=>⟨D,s3,s4,s5,by rw[show acc++qex f []=acc by simp[qex]]; rfl⟩
 | r::rs,D,f,acc,s3,s4,s5,h,hd,ha=>by
  rw[List.length_cons] at hd ha
  have l3:(3:Nat)≤1000:=by decide
  have h':=h.put r.2.1 ((f r.2.1).getD 0+r.2.2)
  have lp:=qfd D (.inr r.2.1) (.int ((f r.2.1).getD 0+r.2.2))
  obtain ⟨D',t3,t4,t5,ih⟩:=qhs x0 rs (qdl D (.inr r.2.1) (.int ((f r.2.1).getD 0+r.2.2))) _ (acc++[(r.1,r.2.1,(f r.2.1).getD 0+r.2.2)]) (.fz (.int r.1)) (.fz (.str r.2.1)) (.fz (.int r.2.2)) h' (by omega) (by rw[List.length_append,List.length_singleton]; omega)
  refine ⟨D',t3,t4,t5,?_⟩
  rw[List.map_cons]
  unfold qdK
  have e0:qlz 3 4 5 (qaq r) [x0,.pd D,.ow (acc.map qaq),s3,s4,s5]= .ok [x0,.pd D,.ow (acc.map qaq),.fz (.int r.1),.fz (.str r.2.1),.fz (.int r.2.2)]:=rfl
  have e1:qcu 1 (dV 4) (dB qbp (qcB (dXV 1) (dV 4) (dC (.int 0))) (dV 5)) [x0,.pd D,.ow (acc.map qaq),.fz (.int r.1),.fz (.str r.2.1),.fz (.int r.2.2)]= .ok (.nx [x0,.pd (qdl D (.inr r.2.1) (.int ((f r.2.1).getD 0+r.2.2))),.ow (acc.map qaq),.fz (.int r.1),.fz (.str r.2.1),.fz (.int r.2.2)]):=by
   show ((qeJ (.pd D) (.str r.2.1) (.int 0)>>=fun y=>qbp y (.int r.2.2))>>=fun t=>qjL [x0,.pd D,.ow (acc.map qaq),.fz (.int r.1),.fz (.str r.2.1),.fz (.int r.2.2)] 1 (.pd D) (.str r.2.1) t)=_
   rw[h.get2,qad,qc4,qad,qgE (by omega)]
   rfl
  have e2:qfq 2 (qaJ (qab (dV 3) (qab (dV 4) (qab (qb9 (dXV 1) (dV 4)) (qan))))) [x0,.pd (qdl D (.inr r.2.1) (.int ((f r.2.1).getD 0+r.2.2))),.ow (acc.map qaq),.fz (.int r.1),.fz (.str r.2.1),.fz (.int r.2.2)]= .ok (.nx [x0,.pd (qdl D (.inr r.2.1) (.int ((f r.2.1).getD 0+r.2.2))),.ow ((acc++[(r.1,r.2.1,(f r.2.1).getD 0+r.2.2)]).map qaq),.fz (.int r.1),.fz (.str r.2.1),.fz (.int r.2.2)]):=by
   have g:=h'.get (k:=r.2.1) (x:=(f r.2.1).getD 0+r.2.2) (by unfold qdz; rw[if_pos rfl])
   refine qhe (x:=(r.1,r.2.1,(f r.2.1).getD 0+r.2.2)) rfl ?_ (by omega)
   show (((qiC (.pd (qdl D (.inr r.2.1) (.int ((f r.2.1).getD 0+r.2.2)))) (.str r.2.1)>>=fun y=>(Rs.ok []>>=fun z=>Rs.ok (y::z)))>>=fun z=>Rs.ok (T.str r.2.1::z))>>=fun z=>Rs.ok (T.int r.1::z))>>=(fun xs=>if xs.length≤1000 then Rs.ok (T.tup xs) else .no)=_
   rw[g]
   rfl
  rw[e0,qad,qai e1 e2,qad]
  show qdK _ _ _ _=_
  rw[ih,List.append_assoc]
  rfl
end AS
end
section
namespace AS
open PySem L2 PL SetL SR
theorem qfs (x0:Sl): ∀(rs:List Row) (D:List (Key×T)) (f:Str→Option Int) (acc:List Row) (s3 s4 s5:Sl),Agr D f→D.length+rs.length≤900→acc.length+rs.length≤900→∃D' s3' s4' s5',
  qdK (qlz 3 4 5) (qaK (dIf (dTB (qiN false (dV 4) (dXV 1))) (qfq 2 (qaJ (qab (dV 3) (qab (dV 4) (qab (dB gSub (dV 5) (qb9 (dXV 1) (dV 4))) (qan)))))) (qay)) (qcu 1 (dV 4) (dV 5))) (rs.map qaq) [x0,.pd D,.ow (acc.map qaq),s3,s4,s5]= .ok (.nx [x0,.pd D',.ow ((acc++qdL f rs).map qaq),s3',s4',s5'])
 | [],D,f,acc,s3,s4,s5,_,_,_=>⟨D,s3,s4,s5,by rw[show acc++qdL f []=acc by simp[qdL]]; rfl⟩
 | r::rs,D,f,acc,s3,s4,s5,h,hd,ha=>by
  rw[List.length_cons] at hd ha
  have h':=h.put r.2.1 r.2.2
  have lp:=qfd D (.inr r.2.1) (.int r.2.2)
  have e0:qlz 3 4 5 (qaq r) [x0,.pd D,.ow (acc.map qaq),s3,s4,s5]= .ok [x0,.pd D,.ow (acc.map qaq),.fz (.int r.1),.fz (.str r.2.1),.fz (.int r.2.2)]:=rfl
  have e2: ∀a:List Row,qcu 1 (dV 4) (dV 5) [x0,.pd D,.ow (a.map qaq),.fz (.int r.1),.fz (.str r.2.1),.fz (.int r.2.2)]= .ok (.nx [x0,.pd (qdl D (.inr r.2.1) (.int r.2.2)),.ow (a.map qaq),.fz (.int r.1),.fz (.str r.2.1),.fz (.int r.2.2)]):=fun a=>by
   show qjL [x0,.pd D,.ow (a.map qaq),.fz (.int r.1),.fz (.str r.2.1),.fz (.int r.2.2)] 1 (.pd D) (.str r.2.1) (.int r.2.2)=_
   rw[qgE (by omega)]
   rfl
  have ti:dTB (qiN false (dV 4) (dXV 1)) [x0,.pd D,.ow (acc.map qaq),.fz (.int r.1),.fz (.str r.2.1),.fz (.int r.2.2)]= .ok (f r.2.1).isSome:=by
   show (inX false (.pd D) (.str r.2.1)>>=fun t=>match t with | .bl b=>Rs.ok b | _=>.no)=_
   rw[h.in_]
   rfl
  rw[List.map_cons]
  unfold qdK
  rw[e0,qad]
  cases c:f r.2.1 with
  | none=>
   rw[c] at ti
   have e1:dIf (dTB (qiN false (dV 4) (dXV 1))) (qfq 2 (qaJ (qab (dV 3) (qab (dV 4) (qab (dB gSub (dV 5) (qb9 (dXV 1) (dV 4))) (qan)))))) (qay) [x0,.pd D,.ow (acc.map qaq),.fz (.int r.1),.fz (.str r.2.1),.fz (.int r.2.2)]= .ok (.nx [x0,.pd D,.ow (acc.map qaq),.fz (.int r.1),.fz (.str r.2.1),.fz (.int r.2.2)]):=by
    unfold dIf
    rw[ti]
    rfl
   obtain ⟨D',t3,t4,t5,ih⟩:=qfs x0 rs _ _ acc (.fz (.int r.1)) (.fz (.str r.2.1)) (.fz (.int r.2.2)) h' (by omega) (by omega)
   refine ⟨D',t3,t4,t5,?_⟩
   rw[qai e1 (e2 acc),qad]
   show qdK _ _ _ _=_
   rw[ih]
   conv=>rhs; unfold qdL
   rw[c]
   rfl
  | some x=>
   rw[c] at ti
   have g:=h.get c
   have e1:dIf (dTB (qiN false (dV 4) (dXV 1))) (qfq 2 (qaJ (qab (dV 3) (qab (dV 4) (qab (dB gSub (dV 5) (qb9 (dXV 1) (dV 4))) (qan)))))) (qay) [x0,.pd D,.ow (acc.map qaq),.fz (.int r.1),.fz (.str r.2.1),.fz (.int r.2.2)]= .ok (.nx [x0,.pd D,.ow ((acc++[(r.1,r.2.1,r.2.2 - x)]).map qaq),.fz (.int r.1),.fz (.str r.2.1),.fz (.int r.2.2)]):=by
    unfold dIf
    rw[ti]
    simp only[qad,Option.isSome_some,if_true]
    refine qhe (x:=(r.1,r.2.1,r.2.2 - x)) rfl ?_ (by omega)
    show ((((qiC (.pd D) (.str r.2.1)>>=fun y=>gSub (.int r.2.2) y)>>=fun y=>(Rs.ok []>>=fun z=>Rs.ok (y::z)))>>=fun z=>Rs.ok (T.str r.2.1::z))>>=fun z=>Rs.ok (T.int r.1::z))>>=(fun xs=>if xs.length≤1000 then Rs.ok (T.tup xs) else .no)=_
    rw[g]
    rfl
   obtain ⟨D',t3,t4,t5,ih⟩:=qfs x0 rs _ _ (acc++[(r.1,r.2.1,r.2.2 - x)]) (.fz (.int r.1)) (.fz (.str r.2.1)) (.fz (.int r.2.2)) h' (by omega) (by rw[List.length_append,List.length_singleton]; omega)
   refine ⟨D',t3,t4,t5,?_⟩
   rw[qai e1 (e2 _),qad]
   show qdK _ _ _ _=_
   rw[ih,List.append_assoc]
   conv=>rhs; unfold qdL
   rw[c]
theorem qe0 (x0:Sl): ∀(rs:List Row) (D:List (Key×T)) (f:Str→Option Int) (acc:List Row) (s3 s4 s5:Sl),Agr D f→D.length+rs.length≤900→acc.length+rs.length≤900→∃D' s3' s4' s5',
  qdK (qlz 3 4 5) (qaK (dIf (dOr (dTB (qiN true (dV 4) (dXV 1))) (dTB (dB gNe (qb9 (dXV 1) (dV 4)) (dV 5)))) (qfq 2 (qaJ (qab (dV 3) (qab (dV 4) (qab (dV 5) (qan)))))) (qay)) (qcu 1 (dV 4) (dV 5))) (rs.map qaq) [x0,.pd D,.ow (acc.map qaq),s3,s4,s5]= .ok (.nx [x0,.pd D',.ow ((acc++qbX f rs).map qaq),s3',s4',s5'])
 | [],D,f,acc,s3,s4,s5,_,_,_=>⟨D,s3,s4,s5,by rw[show acc++qbX f []=acc by simp[qbX]]; rfl⟩
 | r::rs,D,f,acc,s3,s4,s5,h,hd,ha=>by
  rw[List.length_cons] at hd ha
  have h':=h.put r.2.1 r.2.2
  have lp:=qfd D (.inr r.2.1) (.int r.2.2)
  have e0:qlz 3 4 5 (qaq r) [x0,.pd D,.ow (acc.map qaq),s3,s4,s5]= .ok [x0,.pd D,.ow (acc.map qaq),.fz (.int r.1),.fz (.str r.2.1),.fz (.int r.2.2)]:=rfl
  have e2: ∀a:List Row,qcu 1 (dV 4) (dV 5) [x0,.pd D,.ow (a.map qaq),.fz (.int r.1),.fz (.str r.2.1),.fz (.int r.2.2)]= .ok (.nx [x0,.pd (qdl D (.inr r.2.1) (.int r.2.2)),.ow (a.map qaq),.fz (.int r.1),.fz (.str r.2.1),.fz (.int r.2.2)]):=fun a=>by
   show qjL [x0,.pd D,.ow (a.map qaq),.fz (.int r.1),.fz (.str r.2.1),.fz (.int r.2.2)] 1 (.pd D) (.str r.2.1) (.int r.2.2)=_
   rw[qgE (by omega)]
   rfl
  have ti:dOr (dTB (qiN true (dV 4) (dXV 1))) (dTB (dB gNe (qb9 (dXV 1) (dV 4)) (dV 5))) [x0,.pd D,.ow (acc.map qaq),.fz (.int r.1),.fz (.str r.2.1),.fz (.int r.2.2)]= .ok (decide (f r.2.1≠some r.2.2)):=by
   show ((inX true (.pd D) (.str r.2.1)>>=fun t=>match t with | .bl b=>Rs.ok b | _=>.no)>>=fun c=>if c=true then Rs.ok true else ((qiC (.pd D) (.str r.2.1)>>=fun y=>gNe y (.int r.2.2))>>=fun t=>match t with | .bl b=>Rs.ok b | _=>.no))=_
   rw[h.in_]
   cases c:f r.2.1 with
   | none=>rfl
   | some x=>
    rw[h.get c]
    show (Rs.ok (!(x==r.2.2)):Rs Bool)=_
    refine congrArg Rs.ok ?_
    by_cases d:x=r.2.2
    ·subst d; simp
    ·simp[d]
  have ap:qfq 2 (qaJ (qab (dV 3) (qab (dV 4) (qab (dV 5) (qan))))) [x0,.pd D,.ow (acc.map qaq),.fz (.int r.1),.fz (.str r.2.1),.fz (.int r.2.2)]= .ok (.nx [x0,.pd D,.ow ((acc++[r]).map qaq),.fz (.int r.1),.fz (.str r.2.1),.fz (.int r.2.2)]):=qhe (x:=r) rfl rfl (by omega)
  rw[List.map_cons]
  unfold qdK
  rw[e0,qad]
  by_cases c:f r.2.1=some r.2.2
  ·rw[decide_eq_false (by simpa using c)] at ti
   have e1:dIf (dOr (dTB (qiN true (dV 4) (dXV 1))) (dTB (dB gNe (qb9 (dXV 1) (dV 4)) (dV 5)))) (qfq 2 (qaJ (qab (dV 3) (qab (dV 4) (qab (dV 5) (qan)))))) (qay) [x0,.pd D,.ow (acc.map qaq),.fz (.int r.1),.fz (.str r.2.1),.fz (.int r.2.2)]= .ok (.nx [x0,.pd D,.ow (acc.map qaq),.fz (.int r.1),.fz (.str r.2.1),.fz (.int r.2.2)]):=by
    unfold dIf
    rw[ti]
    rfl
   obtain ⟨D',t3,t4,t5,ih⟩:=qe0 x0 rs _ _ acc (.fz (.int r.1)) (.fz (.str r.2.1)) (.fz (.int r.2.2)) h' (by omega) (by omega)
   refine ⟨D',t3,t4,t5,?_⟩
   rw[qai e1 (e2 acc),qad]
   show qdK _ _ _ _=_
   rw[ih]
   conv=>rhs; unfold qbX
   rw[if_pos c]
   rfl
  ·rw[decide_eq_true (by simpa using c)] at ti
   have e1:dIf (dOr (dTB (qiN true (dV 4) (dXV 1))) (dTB (dB gNe (qb9 (dXV 1) (dV 4)) (dV 5)))) (qfq 2 (qaJ (qab (dV 3) (qab (dV 4) (qab (dV 5) (qan)))))) (qay) [x0,.pd D,.ow (acc.map qaq),.fz (.int r.1),.fz (.str r.2.1),.fz (.int r.2.2)]= .ok (.nx [x0,.pd D,.ow ((acc++[r]).map qaq),.fz (.int r.1),.fz (.str r.2.1),.fz (.int r.2.2)]):=by
    unfold dIf
    rw[ti]
    exact ap
   obtain ⟨D',t3,t4,t5,ih⟩:=qe0 x0 rs _ _ (acc++[r]) (.fz (.int r.1)) (.fz (.str r.2.1)) (.fz (.int r.2.2)) h' (by omega) (by rw[List.length_append,List.length_singleton]; omega)
   refine ⟨D',t3,t4,t5,?_⟩
   rw[qai e1 (e2 _),qad]
   show qdK _ _ _ _=_
   rw[ih,List.append_assoc]
   conv=>rhs; unfold qbX
   rw[if_neg c]
abbrev no:Str→Option Int:=fun _=>none
theorem qis {rs:List Row} (h:rs.length≤900): ∃D:List (Key×T),q_23 [qam rs] (.od [])= .ok (.ow ((qex no rs).map qaq),.od D):=by
 obtain ⟨D',t3,t4,t5,e⟩:=qhs (.fz (qam rs)) rs [] no [] .no .no .no .nil (by simpa using h) (by simpa using h)
 refine ⟨D',?_⟩
 have e':d_23 [.fz (qam rs),.pd [],.no,.no,.no,.no]= .ok (.rs (.ow ((qex no rs).map qaq)) [.fz (qam rs),.pd D',.no,t3,t4,t5]):=by
  unfold d_23
  refine qai (ρ':=[.fz (qam rs),.pd [],.ow [],.no,.no,.no]) rfl ?_
  refine qai (ρ':=[.fz (qam rs),.pd D',.ow ((qex no rs).map qaq),t3,t4,t5]) ?_ rfl
  exact e
 show (d_23 [.fz (qam rs),.pd [],.no,.no,.no,.no]>>=qi9 1)=_
 rw[e']
 rfl
theorem qjJ {rs:List Row} (h:rs.length≤900): ∃D:List (Key×T),q_30 [qam rs] (.od [])= .ok (.ow ((qdL no rs).map qaq),.od D):=by
 obtain ⟨D',t3,t4,t5,e⟩:=qfs (.fz (qam rs)) rs [] no [] .no .no .no .nil (by simpa using h) (by simpa using h)
 refine ⟨D',?_⟩
 have e':d_30 [.fz (qam rs),.pd [],.no,.no,.no,.no]= .ok (.rs (.ow ((qdL no rs).map qaq)) [.fz (qam rs),.pd D',.no,t3,t4,t5]):=by
  unfold d_30
  refine qai (ρ':=[.fz (qam rs),.pd [],.ow [],.no,.no,.no]) rfl ?_
  refine qai (ρ':=[.fz (qam rs),.pd D',.ow ((qdL no rs).map qaq),t3,t4,t5]) ?_ rfl
  exact e
 show (d_30 [.fz (qam rs),.pd [],.no,.no,.no,.no]>>=qi9 1)=_
 rw[e']
 rfl
theorem qjI {rs:List Row} (h:rs.length≤900): ∃D:List (Key×T),q_31 [qam rs] (.od [])= .ok (.ow ((qbX no rs).map qaq),.od D):=by
 obtain ⟨D',t3,t4,t5,e⟩:=qe0 (.fz (qam rs)) rs [] no [] .no .no .no .nil (by simpa using h) (by simpa using h)
 refine ⟨D',?_⟩
 have e':d_31 [.fz (qam rs),.pd [],.no,.no,.no,.no]= .ok (.rs (.ow ((qbX no rs).map qaq)) [.fz (qam rs),.pd D',.no,t3,t4,t5]):=by
  unfold d_31
  refine qai (ρ':=[.fz (qam rs),.pd [],.ow [],.no,.no,.no]) rfl ?_
  refine qai (ρ':=[.fz (qam rs),.pd D',.ow ((qbX no rs).map qaq),t3,t4,t5]) ?_ rfl
  exact e
 show (d_31 [.fz (qam rs),.pd [],.no,.no,.no,.no]>>=qi9 1)=_
 rw[e']
 rfl
end AS
end
section
namespace AS
open PySem L2 PL SetL
open SR (Ris srt qd4 qcn qdj qdi qbT qdr qdG qbY qcC qdP qcj)
abbrev IS:=DH.IS
def qfL (x y:IS):Bool:=qdJ (qgO x) (qgO y)
theorem qks {x y:IS} (h:qgO x=qgO y):x=y:=by
 have h':[Ky.i x.1,Ky.s x.2]=[Ky.i y.1,Ky.s y.2]:=h
 simp at h'
 exact Prod.ext h'.1 h'.2
theorem qix:SR.Ord qfL where
 irr:=fun a=>qmj.irr _
 tr:=fun a b c h1 h2=>qmj.tr _ _ _ h1 h2
 tot:=fun a b h1 h2=>qks (qmj.tot _ _ h1 h2)
theorem qhL {x y:IS} (h:x.1<y.1):qfL x y=true:=by
 show (if Ky.i x.1=Ky.i y.1 then _ else decide (x.1<y.1))=true
 rw[if_neg (fun z=>by injection z with z; omega),decide_eq_true h]
theorem qlR (ks:List IS):qim (ks.map isT)=(qdG qfL ks).map isT:=by
 unfold qim qjm qdG
 rw[qd4 (k:=fun t=>qdj qdJ ((ks.map isT).map qhN) (qhN t)) (f:=isT) (k':=qdj qfL ks)]
 intro b
 unfold qdj
 rw[List.map_map,List.countP_map]
 rfl
theorem qdn {α:Type} (lt:α→α→Bool) (as:List α):List.Perm (qdG lt as) as:=qcn _
def sds (ks:List IS):List IS:=qdG qfL (dd ks)
theorem qbl {ks:List IS} {p:IS}:p∈sds ks↔p∈ks:=by
 unfold sds
 rw[(qdn qfL _).mem_iff,qeI]
theorem qcb (ks:List IS):(sds ks).Nodup:=((qdn qfL _).nodup_iff).mpr (qb2 ks)
theorem qhr (ks:List IS):(sds ks).Pairwise fun a b=>qfL b a=false:=by
 unfold sds qdG
 refine List.Pairwise.imp_of_mem (fun {a b} ha hb h=> ?_) (qdi (k:=qdj qfL (dd ks)) (dd ks))
 have h1:=qcC qix ((qbT _).mp hb) ((qbT _).mp ha)
 have h:qdj qfL (dd ks) a≤qdj qfL (dd ks) b:=h
 rw[←h1]
 exact decide_eq_false (by omega)
theorem qjs {a b:List IS} (h: ∀p,p∈a↔p∈b):sds a=sds b:=
 qbY qix ((List.perm_ext_iff_of_nodup (qb2 a) (qb2 b)).mpr fun p=>by rw[qeI,qeI]; exact h p)
theorem qd5: ∀{a b:List IS},a.Nodup→b.Nodup→(a.Pairwise fun x y=>qfL y x=false)→(b.Pairwise fun x y=>qfL y x=false)→(∀p,p∈a↔p∈b)→a=b
 | [],[],_,_,_,_,_=>rfl
 | [],y::b,_,_,_,_,h=>by have:=(h y).mpr List.mem_cons_self; cases this
 | x::a,[],_,_,_,_,h=>by have:=(h x).mp List.mem_cons_self; cases this
 | x::a,y::b,na,nb,pa,pb,h=>by
  have na':=List.nodup_cons.mp na
  have nb':=List.nodup_cons.mp nb
  have pa':=List.pairwise_cons.mp pa
  have pb':=List.pairwise_cons.mp pb
  have e:x=y:=by
   rcases List.mem_cons.mp ((h x).mp List.mem_cons_self) with z | z
   ·exact z
   ·rcases List.mem_cons.mp ((h y).mpr List.mem_cons_self) with w | w
    ·exact w.symm
    ·exact qix.tot _ _ (pb'.1 x z) (pa'.1 y w)
  subst e
  refine congrArg (x:: ·) (qd5 na'.2 nb'.2 pa'.2 pb'.2 fun p=> ?_)
  constructor
  ·intro hp
   rcases List.mem_cons.mp ((h p).mp (List.mem_cons_of_mem _ hp)) with z | z
   ·subst z; exact absurd hp na'.1
   ·exact z
  ·intro hp
   rcases List.mem_cons.mp ((h p).mpr (List.mem_cons_of_mem _ hp)) with z | z
   ·subst z; exact absurd hp nb'.1
   ·exact z
theorem qio {a b:List IS} (h: ∀x∈a,∀y∈b,x.1<y.1):sds (a++b)=sds a++sds b:=by
 refine qd5 (qcb _) ?_ (qhr _) ?_ fun p=> ?_
 ·rw[List.nodup_append]
  refine ⟨qcb a,qcb b,fun x hx y hy e=> ?_⟩
  have:=h x (qbl.mp hx) y (qbl.mp hy)
  rw[e] at this; omega
 ·rw[List.pairwise_append]
  refine ⟨qhr a,qhr b,fun x hx y hy=> ?_⟩
  have hxy:=qhL (h x (qbl.mp hx) y (qbl.mp hy))
  cases c:qfL y x with
  | false=>rfl
  | true=>have:=qix.tr _ _ _ hxy c; rw[qix.irr] at this; cases this
 ·rw[qbl,List.mem_append,List.mem_append,qbl,qbl]
def plc (s:Int) (r:Row):IS:=(r.1 / s,r.2.1)
def qbt (s:Int) (rs:List Row) (p:IS):Int:=((rs.filter fun r=>decide (plc s r=p)).map fun r=>r.2.2).sum
theorem qd2 (s:Int) (p:IS):qbt s [] p=0:=rfl
theorem qdh (s:Int) (r:Row) (rs:List Row) (p:IS):qbt s (r::rs) p=(if plc s r=p then r.2.2 else 0)+qbt s rs p:=by
 unfold qbt
 rw[List.filter_cons]
 by_cases c:plc s r=p
 ·rw[decide_eq_true c,if_pos rfl,if_pos c,List.map_cons,List.sum_cons]
 ·rw[decide_eq_false c,if_neg c]
  simp
theorem qbN (s:Int) (a b:List Row) (p:IS):qbt s (a++b) p=qbt s a p+qbt s b p:=by
 unfold qbt
 rw[List.filter_append,List.map_append,List.sum_append]
theorem qdg {s:Int} {rs:List Row} {p:IS} (h: ∀r∈rs,plc s r≠p):qbt s rs p=0:=by
 unfold qbt
 rw[List.filter_eq_nil_iff.mpr fun r hr z=>h r hr (of_decide_eq_true z)]
 rfl
def qbi (s:Int) (rs:List Row):List Row:=(sds (rs.map (plc s))).map fun p=>((p.1+1)*s - 1,p.2,qbt s rs p)
theorem qgw {s:Int} {a b:List Row} (h: ∀x∈a,∀y∈b,(plc s x).1<(plc s y).1):qbi s (a++b)=qbi s a++qbi s b:=by
 unfold qbi
 rw[List.map_append,qio (fun x hx y hy=>by
  obtain ⟨r,hr,rfl⟩:=List.mem_map.mp hx
  obtain ⟨q,hq,rfl⟩:=List.mem_map.mp hy
  exact h r hr q hq),List.map_append]
 congr 1
 ·refine List.map_congr_left fun p hp=> ?_
  obtain ⟨r,hr,e⟩:=List.mem_map.mp (qbl.mp hp)
  rw[qbN,qdg (rs:=b) (fun q hq z=>by have:=h r hr q hq; rw[z,←e] at this; omega),Int.add_zero]
 ·refine List.map_congr_left fun p hp=> ?_
  obtain ⟨r,hr,e⟩:=List.mem_map.mp (qbl.mp hp)
  rw[qbN,qdg (rs:=a) (fun q hq z=>by have:=h q hq r hr; rw[z,←e] at this; omega),Int.zero_add]
end AS
end
section
namespace AS
open PySem L2 PL SetL
open SR (Ris srt qd4 qcn qdj qdi qbT qdr qdG qbY qcC qdP qcj)
def kIS (p:IS):List Key:=[.inl p.1,.inr p.2]
theorem qoH {p q:IS} (h:kIS p=kIS q):p=q:=by
 have h':([.inl p.1,.inr p.2]:List Key)=[.inl q.1,.inr q.2]:=h
 simp at h'
 exact Prod.ext h'.1 h'.2
structure Held (s:Int) (D:List (List Key×T)) (B:List Row):Prop where
 nd:(D.map (·.1)).Nodup
 ks: ∀k,k∈D.map (·.1)↔∃r∈B,k=kIS (plc s r)
 vl: ∀p,qey D (kIS p)=if p∈B.map (plc s) then some (.int (qbt s B p)) else none
theorem Held.nil (s:Int):Held s [] []:=⟨List.nodup_nil,fun k=>by simp,fun p=>rfl⟩
theorem qfP (D:List (List Key×T)) (k:List Key) (t:T):(k∈D.map (·.1)∧(qit D k t).map (·.1)=D.map (·.1))∨(k∉D.map (·.1)∧(qit D k t).map (·.1)=D.map (·.1)++[k]):=by
 unfold qit
 by_cases c:(D.any fun kv=>decide (kv.1=k))=true
 ·have hm:k∈D.map (·.1):=by
   obtain ⟨p,hp,e⟩:=List.any_eq_true.mp c
   exact List.mem_map.mpr ⟨p,hp,of_decide_eq_true e⟩
  refine .inl ⟨hm,?_⟩
  rw[if_pos c,List.map_map]
  refine List.map_congr_left fun p _=> ?_
  show (if p.1=k then (p.1,t) else p).1=p.1
  split<;>rfl
 ·have hm:k∉D.map (·.1):=fun z=>by
   obtain ⟨p,hp,e⟩:=List.mem_map.mp z
   exact c (List.any_eq_true.mpr ⟨p,hp,decide_eq_true e⟩)
  refine .inr ⟨hm,?_⟩
  rw[if_neg c,List.map_append]
  rfl
theorem Held.put {s:Int} {D:List (List Key×T)} {B:List Row} (h:Held s D B) (r:Row):Held s (qit D (kIS (plc s r)) (.int (((qey D (kIS (plc s r))).map qcx).getD 0+r.2.2))) (B++[r]):=by
 have hv:((qey D (kIS (plc s r))).map qcx).getD 0=qbt s B (plc s r):=by
  rw[h.vl]
  split
  ·rfl
  ·rename_i d
   rw[qdg fun q hq z=>d (List.mem_map.mpr ⟨q,hq,z⟩)]
   rfl
 rw[hv]
 refine ⟨?_,fun k=> ?_,fun p=> ?_⟩
 ·rcases qfP D (kIS (plc s r)) (.int (qbt s B (plc s r)+r.2.2)) with ⟨c,e⟩ | ⟨c,e⟩
  ·rw[e]; exact h.nd
  ·rw[e,List.nodup_append]
   refine ⟨h.nd,by simp,fun a ha b hb e=> ?_⟩
   rw[List.mem_singleton.mp hb] at e
   rw[e] at ha
   exact c ha
 ·have hks:(∃q∈B++[r],k=kIS (plc s q))↔(k∈D.map (·.1)∨k=kIS (plc s r)):=by
   rw[h.ks]
   constructor
   ·rintro ⟨q,hq,e⟩
    rcases List.mem_append.mp hq with hq | hq
    ·exact .inl ⟨q,hq,e⟩
    ·rw[List.mem_singleton.mp hq] at e; exact .inr e
   ·rintro (⟨q,hq,e⟩ | e)
    ·exact ⟨q,List.mem_append_left _ hq,e⟩
    ·exact ⟨r,by simp,e⟩
  rw[hks]
  rcases qfP D (kIS (plc s r)) (.int (qbt s B (plc s r)+r.2.2)) with ⟨c,e⟩ | ⟨c,e⟩
  ·rw[e]
   exact ⟨.inl,fun z=>z.elim id fun z=>by rw[z]; exact c⟩
  ·rw[e,List.mem_append,List.mem_singleton]
 ·rw[qlE]
  by_cases c:plc s r=p
  ·subst c
   rw[if_pos rfl,if_pos (List.mem_map.mpr ⟨r,by simp,rfl⟩),qbN,qdh,if_pos rfl,qd2,Int.add_zero]
  ·rw[if_neg (fun z=>c (qoH z))]
   have e:(p∈(B++[r]).map (plc s))↔p∈B.map (plc s):=by
    rw[List.map_append,List.mem_append]
    constructor
    ·rintro (z | z)
     ·exact z
     ·exact absurd (List.mem_singleton.mp z).symm c
    ·exact .inl
   rw[h.vl]
   by_cases d:p∈B.map (plc s)
   ·rw[if_pos d,if_pos (e.mpr d),qbN,qdh,if_neg c,qd2,Int.add_zero,Int.add_zero]
   ·rw[if_neg d,if_neg (fun z=>d (e.mp z))]
theorem qkF {s:Int} {D:List (List Key×T)} {B:List Row} (h:Held s D B):(D.all fun kv=>qmu kv.1)=true:=by
 rw[List.all_eq_true]
 intro kv hkv
 obtain ⟨r,_,e⟩:=(h.ks kv.1).mp (List.mem_map.mpr ⟨kv,hkv,rfl⟩)
 rw[e]; rfl
theorem qcg {s:Int} {D:List (List Key×T)} {B:List Row} (h:Held s D B):(∀p,p∈(D.map fun kv=>qb7 kv.1)↔p∈B.map (plc s))∧(D.map fun kv=>qb7 kv.1).Nodup:=by
 have e: ∀kv∈D,∃r∈B,kv.1=kIS (plc s r):=fun kv hkv=>(h.ks kv.1).mp (List.mem_map.mpr ⟨kv,hkv,rfl⟩)
 constructor
 ·intro p
  constructor
  ·intro hp
   obtain ⟨kv,hkv,rfl⟩:=List.mem_map.mp hp
   obtain ⟨r,hr,e⟩:=e kv hkv
   rw[e]
   exact List.mem_map.mpr ⟨r,hr,rfl⟩
  ·intro hp
   obtain ⟨r,hr,rfl⟩:=List.mem_map.mp hp
   obtain ⟨kv,hkv,e⟩:=List.mem_map.mp ((h.ks (kIS (plc s r))).mpr ⟨r,hr,rfl⟩)
   exact List.mem_map.mpr ⟨kv,hkv,by rw[e]; rfl⟩
 ·have nd:=h.nd
  unfold List.Nodup at nd⊢
  rw[List.pairwise_map] at nd⊢
  refine List.Pairwise.imp_of_mem (fun {a b} ha hb hab z=>hab ?_) nd
  obtain ⟨r,_,ea⟩:=e a ha
  obtain ⟨q,_,eb⟩:=e b hb
  rw[ea,eb] at z⊢
  have z:plc s r=plc s q:=z
  rw[z]
theorem qhS {s:Int} {D:List (List Key×T)} {B:List Row} (h:Held s D B):D.length≤B.length:=by
 have h2:=(qcg h).2
 have:(D.map fun kv=>qb7 kv.1).length≤(B.map (plc s)).length:=by
  have p:List.Perm (D.map fun kv=>qb7 kv.1) (dd (B.map (plc s))):=(List.perm_ext_iff_of_nodup h2 (qb2 _)).mpr fun p=>by rw[qeI]; exact (qcg h).1 p
  rw[p.length_eq]
  exact qo9 _
 simpa using this
end AS
end
section
namespace AS
open PySem L2 PL SetL
open SR (Ris srt qd4 qcn qdj qdi qbT qdr qdG qbY qcC qdP qcj)
theorem qjl {s:Int} {D:List (List Key×T)} {B:List Row} (h:Held s D B):qdG qfL (D.map fun kv=>qb7 kv.1)=sds (B.map (plc s)):=
 qbY qix ((List.perm_ext_iff_of_nodup (qcg h).2 (qb2 _)).mpr fun p=>by rw[qeI]; exact (qcg h).1 p)
theorem qn8 (ks:List IS):(sds ks).length≤ks.length:=by
 unfold sds
 rw[(qdn qfL _).length_eq]
 exact qo9 _
theorem qdM (s:Int) (B:List Row):(qbi s B).length≤B.length:=by
 unfold qbi
 rw[List.length_map]
 have:=qn8 (B.map (plc s))
 rwa [List.length_map] at this
theorem qlQ {s:Int} {D:List (List Key×T)} {B:List Row} (h:Held s D B) (hl:D.length<64):qgz (.ou D)= .ok ((sds (B.map (plc s))).map isT):=by
 show (if D.length<64∧(D.all fun kv=>qmu kv.1)=true then Rs.ok (qim ((D.map fun kv=>qb7 kv.1).map isT)) else .no)=_
 rw[if_pos ⟨hl,qkF h⟩,qlR,qjl h]
theorem qda {s:Int} {D:List (List Key×T)} {B:List Row} (h:Held s D B) (hl:D.length<64) (hs:0<s∧s≤1000):t_11 [.int s,.dtu D]= .ok (.lst ((qbi s B).map qaq)):=by
 have c1:qaB 1 [0,1] (dI (dFz (qib (dXV 1)))) (gN 0) (qb8) (qaJ (qab (dB gSub (dB qdD (dB qbp (dB gIx (dV 0) (dC (.int 0))) (dC (.int 1))) (dV 1)) (dC (.int 1))) (qab (dB gIx (dV 0) (dC (.int 1))) (qab (qb9 (dXV 2) (dV 0)) (qan))))) [.fz (.int s),.fz (.dtu D)]= .ok (((sds (B.map (plc s))).filter fun _=>true).map fun p=>qaq ((p.1+1)*s - 1,p.2,qbt s B p)):=by
  refine qbS (f:=isT) ?_ fun p hp=>⟨rfl,fun _=> ?_⟩
  ·show ((qgz (.ou D)>>=fun xs=>Rs.ok (T.lst xs))>>=qfe)=_
   rw[qlQ h hl]
   rfl
  ·have g:qb9 (dXV 2) (dV 0) [.fz (isT p),.fz (.int s),.fz (.dtu D)]= .ok (.int (qbt s B p)):=by
    show (match some (qey D (kIS p)) with | some (some t)=>Rs.ok t | _=>.no)=_
    rw[h.vl,if_pos (qbl.mp hp)]
   have m:dB qdD (dB qbp (dB gIx (dV 0) (dC (.int 0))) (dC (.int 1))) (dV 1) [.fz (isT p),.fz (.int s),.fz (.dtu D)]= .ok (.int ((p.1+1)*s)):=by
    show (if (-1000000≤p.1+1∧p.1+1≤1000000)∨(-1000000≤s∧s≤1000000) then Rs.ok (T.int ((p.1+1)*s)) else .no)=_
    rw[if_pos (.inr ⟨by omega,by omega⟩)]
   show (((dB qdD (dB qbp (dB gIx (dV 0) (dC (.int 0))) (dC (.int 1))) (dV 1) [.fz (isT p),.fz (.int s),.fz (.dtu D)]>>=fun x=>Rs.ok (T.int 1)>>=fun y=>gSub x y)>>=fun a=>(Rs.ok (T.str p.2)>>=fun b=>(qb9 (dXV 2) (dV 0) [.fz (isT p),.fz (.int s),.fz (.dtu D)]>>=fun c=>Rs.ok []>>=fun z=>Rs.ok (c::z))>>=fun z=>Rs.ok (b::z))>>=fun z=>Rs.ok (a::z))>>=fun xs=>if xs.length≤1000 then Rs.ok (T.tup xs) else .no)=_
   rw[m,g]
   rfl
 rw[qaW] at c1
 have e:((sds (B.map (plc s))).map fun p=>qaq ((p.1+1)*s - 1,p.2,qbt s B p))=(qbi s B).map qaq:=by unfold qbi; rw[List.map_map]; rfl
 rw[e] at c1
 show (((qaB 1 [0,1] (dI (dFz (qib (dXV 1)))) (gN 0) (qb8) (qaJ (qab (dB gSub (dB qdD (dB qbp (dB gIx (dV 0) (dC (.int 0))) (dC (.int 1))) (dV 1)) (dC (.int 1))) (qab (dB gIx (dV 0) (dC (.int 1))) (qab (qb9 (dXV 2) (dV 0)) (qan))))) [.fz (.int s),.fz (.dtu D)]>>=fun xs=>Rs.ok (T.lst xs))>>=fun t=>Rs.ok (Out.rt t))>>=outT)=_
 rw[c1]
 rfl
theorem qeF (rs:List Row):qbD (.lst (rs.map qaq))=true:=by
 unfold qbD
 have: ∀rs:List Row,qcD (rs.map qaq)=true:=by
  intro rs
  induction rs with
  | nil=>rfl
  | cons r rs ih=>rw[List.map_cons]; unfold qcD; rw[ih]; rfl
 exact this rs
theorem qmD {ρ:Ro} {i:Nat} {acc xs:List Row} {dq:Ro→Rs (Bool×List T)} (h:ρ[i]? =some (.ow (acc.map qaq))) (hx:dq ρ= .ok (true,xs.map qaq)) (hl:acc.length+xs.length≤1000):qpC i dq ρ= .ok (.nx (ρ.set i (.ow ((acc++xs).map qaq)))):=by
 unfold qpC qnn
 rw[h]
 simp only[qad,hx,if_true]
 unfold qdB
 rw[h]
 have:(acc.map qaq).length+(xs.map qaq).length≤1000:=by rw[List.length_map,List.length_map]; exact hl
 simp only[this,if_true,List.map_append]
theorem qoz {D:List (List Key×T)} {W:Int} (h0:D≠[]) (hi:(D.all fun kv=>qmu kv.1)=true) (hW: ∀p∈D.map (fun kv=>qb7 kv.1),p.1=W): ∃k,qoA (.pu D)= .ok (.tup [.int W,.str k]):=by
 have hn:(D.map fun kv=>qb7 kv.1)≠[]:=by simpa using h0
 have hlt:DH.bestIS (D.map fun kv=>qb7 kv.1)<(D.map fun kv=>qb7 kv.1).length:=by
  unfold DH.bestIS
  have:=DH.argBest_le (fun i j=>DH.gtIS ((D.map fun kv=>qb7 kv.1).getD i (0, "")) ((D.map fun kv=>qb7 kv.1).getD j (0, ""))) ((D.map fun kv=>qb7 kv.1).length - 1)
  have hp:=List.length_pos_iff.mpr hn
  omega
 have hm:(D.map fun kv=>qb7 kv.1).getD (DH.bestIS (D.map fun kv=>qb7 kv.1)) (0, "")∈D.map fun kv=>qb7 kv.1:=by
  rw[List.getD_eq_getElem?_getD,List.getElem?_eq_getElem hlt]
  exact List.getElem_mem hlt
 refine ⟨((D.map fun kv=>qb7 kv.1).getD (DH.bestIS (D.map fun kv=>qb7 kv.1)) (0, "")).2,?_⟩
 show (if D≠[]∧(D.all fun kv=>qmu kv.1)=true then Rs.ok (isT ((D.map fun kv=>qb7 kv.1).getD (DH.bestIS (D.map fun kv=>qb7 kv.1)) (0, ""))) else .no)=_
 rw[if_pos ⟨h0,hi⟩]
 show Rs.ok (T.tup [.int ((D.map fun kv=>qb7 kv.1).getD (DH.bestIS (D.map fun kv=>qb7 kv.1)) (0, "")).1,_])=_
 rw[hW _ hm]
theorem qob {ρ:Ro} {i:Nat} {D:List (List Key×T)} {p:IS} {t:T} (h:D.length≤1000):qjL ρ i (.pu D) (isT p) t= .ok (.nx (ρ.set i (.pu (qit D (kIS p) t)))):=by
 unfold qjL
 rw[if_pos (show qns (.pu D)≤1000 from h)]
 rfl
theorem Held.get2 {s:Int} {D:List (List Key×T)} {B:List Row} (h:Held s D B) (p:IS):qeJ (.pu D) (isT p) (.int 0)= .ok (.int (((qey D (kIS p)).map qcx).getD 0)):=by
 show Rs.ok ((qey D (kIS p)).getD (.int 0))=_
 rw[h.vl]
 split<;>rfl
abbrev qm2:Ro→Rs Bool:=qrs (dTB (dB gGt (qph (dXV 2)) (dC (.int 0)))) (dTB (dB gLt (dB gIx (qpg (dXV 2)) (dC (.int 0))) (dB gIx (dV 7) (dC (.int 0)))))
abbrev qnL:Ro→Rs Out:=qaK (qpC 3 (dQ (qeS 2 t_11 (qab (dV 1) (qan))))) (qpi 2)
abbrev qtH:Ro→Rs Out:=qcu 2 (dV 7) (dB qbp (qcB (dXV 2) (dV 7) (dC (.int 0))) (dV 6))
abbrev qq5:Ro→Rs Out:=qaK (qbz 7 (qaJ (qab (dB qnx (dV 4) (dV 1)) (qab (dV 5) (qan))))) (qaK (dIf qm2 qnL (qay)) qtH)
section
variable {x0:Sl} {s:Int} {D:List (List Key×T)} {B acc:List Row} {r:Row} {s7:Sl}
theorem qpG (hs:0<s∧s≤1000):qbz 7 (qaJ (qab (dB qnx (dV 4) (dV 1)) (qab (dV 5) (qan)))) [x0,.fz (.int s),.pu D,.ow (acc.map qaq),.fz (.int r.1),.fz (.str r.2.1),.fz (.int r.2.2),s7]=
  .ok (.nx [x0,.fz (.int s),.pu D,.ow (acc.map qaq),.fz (.int r.1),.fz (.str r.2.1),.fz (.int r.2.2),.fz (isT (plc s r))]):=by
 show ((((if 0<s∧s<1073741824 then Rs.ok (T.int (r.1 / s)) else .no)>>=fun a=>(Rs.ok (T.str r.2.1)>>=fun b=>Rs.ok []>>=fun z=>Rs.ok (b::z))>>=fun z=>Rs.ok (a::z))>>=fun xs=>if xs.length≤1000 then Rs.ok (T.tup xs) else .no)>>=fun t=>Rs.ok (Out.nx [x0,.fz (.int s),.pu D,.ow (acc.map qaq),.fz (.int r.1),.fz (.str r.2.1),.fz (.int r.2.2),.fz t]))=_
 rw[if_pos ⟨hs.1,by omega⟩]
 rfl
theorem qpH (h:Held s D B) (hl:D.length≤900):qtH [x0,.fz (.int s),.pu D,.ow (acc.map qaq),.fz (.int r.1),.fz (.str r.2.1),.fz (.int r.2.2),.fz (isT (plc s r))]=
  .ok (.nx [x0,.fz (.int s),.pu (qit D (kIS (plc s r)) (.int (((qey D (kIS (plc s r))).map qcx).getD 0+r.2.2))),.ow (acc.map qaq),.fz (.int r.1),.fz (.str r.2.1),.fz (.int r.2.2),.fz (isT (plc s r))]):=by
 show ((qeJ (.pu D) (isT (plc s r)) (.int 0)>>=fun y=>qbp y (.int r.2.2))>>=fun t=>qjL [x0,.fz (.int s),.pu D,.ow (acc.map qaq),.fz (.int r.1),.fz (.str r.2.1),.fz (.int r.2.2),.fz (isT (plc s r))] 2 (.pu D) (isT (plc s r)) t)=_
 rw[h.get2,qad,qc4,qad,qob (by omega)]
 rfl
theorem qnS (h:D=[]):qm2 [x0,.fz (.int s),.pu D,.ow (acc.map qaq),.fz (.int r.1),.fz (.str r.2.1),.fz (.int r.2.2),.fz (isT (plc s r))]= .ok false:=by
 subst h; rfl
theorem qpF {W:Int} (h:Held s D B) (h0:D≠[]) (hW: ∀a∈B,(plc s a).1=W):qm2 [x0,.fz (.int s),.pu D,.ow (acc.map qaq),.fz (.int r.1),.fz (.str r.2.1),.fz (.int r.2.2),.fz (isT (plc s r))]= .ok (decide (W<(plc s r).1)):=by
 obtain ⟨k,hk⟩:=qoz (W:=W) h0 (qkF h) fun p hp=>by
  obtain ⟨q,hq,rfl⟩:=List.mem_map.mp ((qcg h).1 p |>.mp hp)
  exact hW q hq
 have hp:0<D.length:=List.length_pos_iff.mpr h0
 show ((Rs.ok (decide ((0:Int)<(D.length:Nat))):Rs Bool)>>=fun c=>if c=true then (((qoA (.pu D)>>=fun y=>gIx y (.int 0))>>=fun y=>gLt y (.int (plc s r).1))>>=fun t=>match t with | .bl b=>Rs.ok b | _=>.no) else Rs.ok false)=_
 rw[decide_eq_true (by omega),hk]
 rfl
theorem qnT (h:Held s D B) (hl:D.length<64) (hs:0<s∧s≤1000) (ha:acc.length+B.length≤1000):qnL [x0,.fz (.int s),.pu D,.ow (acc.map qaq),.fz (.int r.1),.fz (.str r.2.1),.fz (.int r.2.2),.fz (isT (plc s r))]=
  .ok (.nx [x0,.fz (.int s),.pu [],.ow ((acc++qbi s B).map qaq),.fz (.int r.1),.fz (.str r.2.1),.fz (.int r.2.2),.fz (isT (plc s r))]):=by
 refine qai (qmD (acc:=acc) (xs:=qbi s B) rfl ?_ (Nat.le_trans (Nat.add_le_add_left (qdM s B) _) ha)) rfl
 show ((t_11 [.int s,.dtu D]>>=qmo)>>=qe3)=_
 rw[qda h hl hs,qad]
 show ((if qbD (.lst ((qbi s B).map qaq))=true then Rs.ok (T.lst ((qbi s B).map qaq)) else .no)>>=qe3)=_
 rw[if_pos (qeF _)]
 rfl
end
theorem qeY (x0:Sl) {s:Int} (hs:0<s∧s≤1000): ∀(rs:List Row) (D:List (List Key×T)) (B acc:List Row) (s4 s5 s6 s7:Sl),Held s D B→(∀a∈B,∀b∈B,(plc s a).1=(plc s b).1)→(∀a∈B,∀r∈rs,(plc s a).1≤(plc s r).1)→Ris (fun r=>(plc s r).1) rs→
  B.length+rs.length<64→acc.length+(B.length+rs.length)≤800→∃D' B' acc' s4' s5' s6' s7',qdK (qlz 4 5 6) qq5 (rs.map qaq) [x0,.fz (.int s),.pu D,.ow (acc.map qaq),s4,s5,s6,s7]= .ok (.nx [x0,.fz (.int s),.pu D',.ow (acc'.map qaq),s4',s5',s6',s7'])∧
   Held s D' B'∧B'.length<64∧acc'++qbi s B'=acc++qbi s (B++rs)∧acc'.length≤800
 | [],D,B,acc,s4,s5,s6,s7,h,_,_,_,hl,ha=>⟨D,B,acc,s4,s5,s6,s7,rfl,h,by simpa using hl,by simp,by omega⟩
 | r::rs,D,B,acc,s4,s5,s6,s7,h,hB,hr,hR,hl,ha=>by
  rw[List.length_cons] at hl ha
  have hR':=List.pairwise_cons.mp hR
  have hd:=qhS h
  have e0:qlz 4 5 6 (qaq r) [x0,.fz (.int s),.pu D,.ow (acc.map qaq),s4,s5,s6,s7]= .ok [x0,.fz (.int s),.pu D,.ow (acc.map qaq),.fz (.int r.1),.fz (.str r.2.1),.fz (.int r.2.2),s7]:=rfl
  have goOn:(∀a∈B,(plc s a).1=(plc s r).1)→qm2 [x0,.fz (.int s),.pu D,.ow (acc.map qaq),.fz (.int r.1),.fz (.str r.2.1),.fz (.int r.2.2),.fz (isT (plc s r))]= .ok false→∃D' B' acc' s4' s5' s6' s7',qdK (qlz 4 5 6) qq5 ((r::rs).map qaq) [x0,.fz (.int s),.pu D,.ow (acc.map qaq),s4,s5,s6,s7]= .ok (.nx [x0,.fz (.int s),.pu D',.ow (acc'.map qaq),s4',s5',s6',s7'])∧
    Held s D' B'∧B'.length<64∧acc'++qbi s B'=acc++qbi s (B++r::rs)∧acc'.length≤800:=fun hW ht=>by
   have e1:qq5 [x0,.fz (.int s),.pu D,.ow (acc.map qaq),.fz (.int r.1),.fz (.str r.2.1),.fz (.int r.2.2),s7]=_:=qai (qpG hs) (qai (ρ':=[x0,.fz (.int s),.pu D,.ow (acc.map qaq),.fz (.int r.1),.fz (.str r.2.1),.fz (.int r.2.2),.fz (isT (plc s r))]) (by unfold dIf; rw[ht]; rfl) (qpH h (by omega)))
   obtain ⟨D',B',acc',t4,t5,t6,t7,f1,f2,f3,f4,f5⟩:=qeY x0 hs rs _ (B++[r]) acc (.fz (.int r.1)) (.fz (.str r.2.1)) (.fz (.int r.2.2)) (.fz (isT (plc s r))) (h.put r)
    (fun a ha b hb=>by
     have go: ∀c∈B++[r],(plc s c).1=(plc s r).1:=fun c hc=>by
      rcases List.mem_append.mp hc with hc | hc
      ·exact hW c hc
      ·rw[List.mem_singleton.mp hc]
     rw[go a ha,go b hb])
    (fun a ha q hq=>by
     rcases List.mem_append.mp ha with ha | ha
     ·exact hr a ha q (List.mem_cons_of_mem _ hq)
     ·rw[List.mem_singleton.mp ha]; exact hR'.1 q hq) hR'.2 (by rw[List.length_append,List.length_singleton]; omega) (by rw[List.length_append,List.length_singleton]; omega)
   have res:qdK (qlz 4 5 6) qq5 ((r::rs).map qaq) [x0,.fz (.int s),.pu D,.ow (acc.map qaq),s4,s5,s6,s7]= .ok (.nx [x0,.fz (.int s),.pu D',.ow (acc'.map qaq),t4,t5,t6,t7]):=by
    rw[List.map_cons]
    unfold qdK
    rw[e0,qad,e1,qad]
    exact f1
   have f4':acc'++qbi s B'=acc++qbi s (B++r::rs):=by rw[f4,List.append_assoc]; rfl
   exact ⟨D',B',acc',t4,t5,t6,t7,res,f2,f3,f4',f5⟩
  cases B with
  | nil=>
   have:D=[]:=List.length_eq_zero_iff.mp (Nat.le_zero.mp hd)
   exact goOn (fun a ha=>by cases ha) (qnS this)
  | cons b0 B0=>
   have hD:D≠[]:=fun z=>by
    have:=(h.ks (kIS (plc s b0))).mpr ⟨b0,List.mem_cons_self,rfl⟩
    rw[z] at this; cases this
   have hW: ∀a∈b0::B0,(plc s a).1=(plc s b0).1:=fun a ha=>hB a ha b0 List.mem_cons_self
   have ht:=qpF (x0:=x0) (acc:=acc) (r:=r) h hD hW
   by_cases c:(plc s b0).1<(plc s r).1
   ·rw[decide_eq_true c] at ht
    have hwl:=qdM s (b0::B0)
    have e1:qq5 [x0,.fz (.int s),.pu D,.ow (acc.map qaq),.fz (.int r.1),.fz (.str r.2.1),.fz (.int r.2.2),s7]=_:=qai (qpG hs) (qai (ρ':=[x0,.fz (.int s),.pu [],.ow ((acc++qbi s (b0::B0)).map qaq),.fz (.int r.1),.fz (.str r.2.1),.fz (.int r.2.2),.fz (isT (plc s r))]) (by unfold dIf; rw[ht,qad,if_pos rfl]; exact qnT h (by omega) hs (by omega)) (qpH (Held.nil s) (by decide)))
    obtain ⟨D',B',acc',t4,t5,t6,t7,f1,f2,f3,f4,f5⟩:=qeY x0 hs rs _ ([]++[r]) (acc++qbi s (b0::B0)) (.fz (.int r.1)) (.fz (.str r.2.1)) (.fz (.int r.2.2)) (.fz (isT (plc s r))) ((Held.nil s).put r)
     (fun a ha b hb=>by rw[List.nil_append] at ha hb; rw[List.mem_singleton.mp ha,List.mem_singleton.mp hb]) (fun a ha q hq=>by rw[List.nil_append] at ha; rw[List.mem_singleton.mp ha]; exact hR'.1 q hq) hR'.2
     (by simp; omega) (by rw[List.length_append]; simp; simp at hwl ha hl; omega)
    refine ⟨D',B',acc',t4,t5,t6,t7,?_,f2,f3,?_,f5⟩
    ·rw[List.map_cons]
     unfold qdK
     rw[e0,qad,e1,qad]
     exact f1
    ·rw[f4,qgw (a:=b0::B0) (b:=r::rs) (fun x hx y hy=>by
      rw[hW x hx]
      rcases List.mem_cons.mp hy with rfl | hy
      ·exact c
      ·have:(plc s r).1≤(plc s y).1:=hR'.1 y hy
       omega),List.append_assoc]
     rfl
   ·rw[decide_eq_false c] at ht
    have hle:=hr b0 List.mem_cons_self r List.mem_cons_self
    exact goOn (fun a ha=>by rw[hW a ha]; omega) ht
end AS
end
section
namespace AS
open PySem L2 PL SetL
open SR (Ris)
abbrev NT:List (Str×Str):=[(("over" :Str),("over" :Str)),(("under" :Str),("under" :Str)),(("plus" :Str),("plus" :Str)),(("times" :Str),("times" :Str))]
abbrev CT:List (Str×Str):=[(("first" :Str),("first" :Str)),(("each" :Str),("each" :Str)),(("window" :Str),("window" :Str))]
abbrev BT:List (Str×Str):=[(("running" :Str),("running" :Str)),(("change" :Str),("change" :Str)),(("unlike" :Str),("unlike" :Str))]
abbrev NF:List (Str×(List T→Rs Sl)):=[(("over" :Str),o_37),(("under" :Str),o_33),(("plus" :Str),o_38),(("times" :Str),o_34)]
abbrev CF:List (Str×(List T→Sl→Rs (Sl×Sl))):=[(("first" :Str),q_35),(("each" :Str),q_39),(("window" :Str),q_29)]
abbrev BF:List (Str×(List T→Sl→Rs (Sl×Sl))):=[(("running" :Str),q_23),(("change" :Str),q_30),(("unlike" :Str),q_31)]
abbrev r1 (s X:T) (z:Str):Ro:=[.fz s,.fz X,.pd [],.fz (.str z),.no]
abbrev r2 (s X:T) (z:Str):Ro:=[.fz s,.fz X,.pd [],.fz (.str z),.fz (.fn z)]
theorem qoh {s:Int} (hs:0<s) {rs:List Row} (h:Ris PL.mo rs):Ris (fun r=>(plc s r).1) rs:=h.imp fun z=>Int.ediv_le_ediv hs z
theorem qjH {rs:List Row} {s:Int} (hs:0<s∧s≤1000) (h:Ris PL.mo rs) (hl:rs.length<64): ∃D' B' acc',q_29 [qam rs,.int s] (.od [])= .ok (.ow (acc'.map qaq),.ou D')∧Held s D' B'∧B'.length<64∧acc'++qbi s B'=qbi s rs∧acc'.length≤800:=by
 obtain ⟨D',B',acc',t4,t5,t6,t7,f1,f2,f3,f4,f5⟩:=qeY (.fz (qam rs)) hs rs [] [] [] .no .no .no .no (Held.nil s) (fun a ha=>by cases ha) (fun a ha=>by cases ha) (qoh hs.1 h) (by simpa using hl) (by simp; omega)
 refine ⟨D',B',acc',?_,f2,f3,by simpa using f4,f5⟩
 have e':d_29 [.fz (qam rs),.fz (.int s),.pd [],.no,.no,.no,.no,.no]= .ok (.rs (.ow (acc'.map qaq)) [.fz (qam rs),.fz (.int s),.pu D',.no,t4,t5,t6,t7]):=by
  unfold d_29
  refine qai (ρ':=[.fz (qam rs),.fz (.int s),.pu [],.ow [],.no,.no,.no,.no]) rfl ?_
  refine qai (ρ':=[.fz (qam rs),.fz (.int s),.pu D',.ow (acc'.map qaq),t4,t5,t6,t7]) ?_ rfl
  exact f1
 show (d_29 [.fz (qam rs),.fz (.int s),.pd [],.no,.no,.no,.no,.no]>>=qi9 2)=_
 rw[e']
 rfl
section
variable {X:T} {n:Int} {k:Str}
theorem qcR {d e:Ro→Rs Out} {ρ ρ':Ro} {s:Sl} (h:d ρ= .ok (.rs s ρ')):qaK d e ρ= .ok (.rs s ρ'):=by
 unfold qaK; rw[h]; rfl
theorem qq4 {s:Sl} (e:o_28 [X,.str k]= .ok s): ∃ρ',d_13 [.fz (.tup [.str "key",.str k]),.fz X,.pd [],.no,.no]= .ok (.rs s ρ')∧ρ'[2]? =some (.pd []):=by
 refine ⟨(r1 (.tup [.str "key",.str k]) X "key"),?_,rfl⟩
 unfold d_13
 refine qai (ρ':=(r1 (.tup [.str "key",.str k]) X "key")) (by kernel_rfl) ?_
 refine qcR ?_
 have t:dTB (dB gEq (dV 3) (dC (.str "key"))) (r1 (.tup [.str "key",.str k]) X "key")= .ok true:=by kernel_rfl
 unfold dIf
 rw[t,qad,if_pos rfl]
 show (o_28 [X,.str k]>>=fun s=>Rs.ok (Out.rs s (r1 (.tup [.str "key",.str k]) X "key")))=_
 rw[e]
 rfl
theorem qpp {s:Sl} (e:o_37 [X,.int n]= .ok s): ∃ρ',d_13 [.fz (.tup [.str "over",.int n]),.fz X,.pd [],.no,.no]= .ok (.rs s ρ')∧ρ'[2]? =some (.pd []):=by
 refine ⟨(r2 (.tup [.str "over",.int n]) X "over"),?_,rfl⟩
 unfold d_13
 refine qai (ρ':=(r1 (.tup [.str "over",.int n]) X "over")) (by kernel_rfl) ?_
 refine qai (ρ':=(r1 (.tup [.str "over",.int n]) X "over")) (by kernel_rfl) ?_
 refine qcR ?_
 have t:dTB (qbn NT (dV 3)) (r1 (.tup [.str "over",.int n]) X "over")= .ok true:=by kernel_rfl
 unfold dIf
 rw[t,qad,if_pos rfl]
 refine qai (ρ':=(r2 (.tup [.str "over",.int n]) X "over")) (by kernel_rfl) ?_
 have q:qiO 4 NF (qab (dV 1) (qab (dB gIx (dV 0) (dC (.int 1))) (qan))) (r2 (.tup [.str "over",.int n]) X "over")=(o_37 [X,.int n]>>=fun s=>.ok (.rs s (r2 (.tup [.str "over",.int n]) X "over"))):=by kernel_rfl
 rw[q,e]
 rfl
theorem qmZ {s:Sl} (e:o_33 [X,.int n]= .ok s): ∃ρ',d_13 [.fz (.tup [.str "under",.int n]),.fz X,.pd [],.no,.no]= .ok (.rs s ρ')∧ρ'[2]? =some (.pd []):=by
 refine ⟨(r2 (.tup [.str "under",.int n]) X "under"),?_,rfl⟩
 unfold d_13
 refine qai (ρ':=(r1 (.tup [.str "under",.int n]) X "under")) (by kernel_rfl) ?_
 refine qai (ρ':=(r1 (.tup [.str "under",.int n]) X "under")) (by kernel_rfl) ?_
 refine qcR ?_
 have t:dTB (qbn NT (dV 3)) (r1 (.tup [.str "under",.int n]) X "under")= .ok true:=by kernel_rfl
 unfold dIf
 rw[t,qad,if_pos rfl]
 refine qai (ρ':=(r2 (.tup [.str "under",.int n]) X "under")) (by kernel_rfl) ?_
 have q:qiO 4 NF (qab (dV 1) (qab (dB gIx (dV 0) (dC (.int 1))) (qan))) (r2 (.tup [.str "under",.int n]) X "under")=(o_33 [X,.int n]>>=fun s=>.ok (.rs s (r2 (.tup [.str "under",.int n]) X "under"))):=by kernel_rfl
 rw[q,e]
 rfl
theorem qpo {s:Sl} (e:o_38 [X,.int n]= .ok s): ∃ρ',d_13 [.fz (.tup [.str "plus",.int n]),.fz X,.pd [],.no,.no]= .ok (.rs s ρ')∧ρ'[2]? =some (.pd []):=by
 refine ⟨(r2 (.tup [.str "plus",.int n]) X "plus"),?_,rfl⟩
 unfold d_13
 refine qai (ρ':=(r1 (.tup [.str "plus",.int n]) X "plus")) (by kernel_rfl) ?_
 refine qai (ρ':=(r1 (.tup [.str "plus",.int n]) X "plus")) (by kernel_rfl) ?_
 refine qcR ?_
 have t:dTB (qbn NT (dV 3)) (r1 (.tup [.str "plus",.int n]) X "plus")= .ok true:=by kernel_rfl
 unfold dIf
 rw[t,qad,if_pos rfl]
 refine qai (ρ':=(r2 (.tup [.str "plus",.int n]) X "plus")) (by kernel_rfl) ?_
 have q:qiO 4 NF (qab (dV 1) (qab (dB gIx (dV 0) (dC (.int 1))) (qan))) (r2 (.tup [.str "plus",.int n]) X "plus")=(o_38 [X,.int n]>>=fun s=>.ok (.rs s (r2 (.tup [.str "plus",.int n]) X "plus"))):=by kernel_rfl
 rw[q,e]
 rfl
theorem qm0 {s:Sl} (e:o_34 [X,.int n]= .ok s): ∃ρ',d_13 [.fz (.tup [.str "times",.int n]),.fz X,.pd [],.no,.no]= .ok (.rs s ρ')∧ρ'[2]? =some (.pd []):=by
 refine ⟨(r2 (.tup [.str "times",.int n]) X "times"),?_,rfl⟩
 unfold d_13
 refine qai (ρ':=(r1 (.tup [.str "times",.int n]) X "times")) (by kernel_rfl) ?_
 refine qai (ρ':=(r1 (.tup [.str "times",.int n]) X "times")) (by kernel_rfl) ?_
 refine qcR ?_
 have t:dTB (qbn NT (dV 3)) (r1 (.tup [.str "times",.int n]) X "times")= .ok true:=by kernel_rfl
 unfold dIf
 rw[t,qad,if_pos rfl]
 refine qai (ρ':=(r2 (.tup [.str "times",.int n]) X "times")) (by kernel_rfl) ?_
 have q:qiO 4 NF (qab (dV 1) (qab (dB gIx (dV 0) (dC (.int 1))) (qan))) (r2 (.tup [.str "times",.int n]) X "times")=(o_34 [X,.int n]>>=fun s=>.ok (.rs s (r2 (.tup [.str "times",.int n]) X "times"))):=by kernel_rfl
 rw[q,e]
 rfl
theorem qm1 {s u:Sl} (e:q_35 [X,.int n] (.pd [])= .ok (s,u)): ∃ρ',d_13 [.fz (.tup [.str "first",.int n]),.fz X,.pd [],.no,.no]= .ok (.rs s ρ')∧ρ'[2]? =some ((Sl.pd []).like u):=by
 refine ⟨[.fz (.tup [.str "first",.int n]),.fz X,(Sl.pd []).like u,.fz (.str "first"),.fz (.fn "first")],?_,rfl⟩
 unfold d_13
 refine qai (ρ':=(r1 (.tup [.str "first",.int n]) X "first")) (by kernel_rfl) ?_
 refine qai (ρ':=(r1 (.tup [.str "first",.int n]) X "first")) (by kernel_rfl) ?_
 refine qai (ρ':=(r1 (.tup [.str "first",.int n]) X "first")) (by kernel_rfl) ?_
 refine qcR ?_
 have t:dTB (qbn CT (dV 3)) (r1 (.tup [.str "first",.int n]) X "first")= .ok true:=by kernel_rfl
 unfold dIf
 rw[t,qad,if_pos rfl]
 refine qai (ρ':=(r2 (.tup [.str "first",.int n]) X "first")) (by kernel_rfl) ?_
 have q:qfp 4 2 CF (qab (dV 1) (qab (dB gIx (dV 0) (dC (.int 1))) (qan))) (r2 (.tup [.str "first",.int n]) X "first")=(q_35 [X,.int n] (.pd [])>>=fun r=>.ok (.rs r.1 [.fz (.tup [.str "first",.int n]),.fz X,(Sl.pd []).like r.2,.fz (.str "first"),.fz (.fn "first")])):=by kernel_rfl
 rw[q,e]
 rfl
theorem qpq {s u:Sl} (e:q_39 [X,.int n] (.pd [])= .ok (s,u)): ∃ρ',d_13 [.fz (.tup [.str "each",.int n]),.fz X,.pd [],.no,.no]= .ok (.rs s ρ')∧ρ'[2]? =some ((Sl.pd []).like u):=by
 refine ⟨[.fz (.tup [.str "each",.int n]),.fz X,(Sl.pd []).like u,.fz (.str "each"),.fz (.fn "each")],?_,rfl⟩
 unfold d_13
 refine qai (ρ':=(r1 (.tup [.str "each",.int n]) X "each")) (by kernel_rfl) ?_
 refine qai (ρ':=(r1 (.tup [.str "each",.int n]) X "each")) (by kernel_rfl) ?_
 refine qai (ρ':=(r1 (.tup [.str "each",.int n]) X "each")) (by kernel_rfl) ?_
 refine qcR ?_
 have t:dTB (qbn CT (dV 3)) (r1 (.tup [.str "each",.int n]) X "each")= .ok true:=by kernel_rfl
 unfold dIf
 rw[t,qad,if_pos rfl]
 refine qai (ρ':=(r2 (.tup [.str "each",.int n]) X "each")) (by kernel_rfl) ?_
 have q:qfp 4 2 CF (qab (dV 1) (qab (dB gIx (dV 0) (dC (.int 1))) (qan))) (r2 (.tup [.str "each",.int n]) X "each")=(q_39 [X,.int n] (.pd [])>>=fun r=>.ok (.rs r.1 [.fz (.tup [.str "each",.int n]),.fz X,(Sl.pd []).like r.2,.fz (.str "each"),.fz (.fn "each")])):=by kernel_rfl
 rw[q,e]
 rfl
theorem qlg {s u:Sl} (e:q_29 [X,.int n] (.pd [])= .ok (s,u)): ∃ρ',d_13 [.fz (.tup [.str "window",.int n]),.fz X,.pd [],.no,.no]= .ok (.rs s ρ')∧ρ'[2]? =some ((Sl.pd []).like u):=by
 refine ⟨[.fz (.tup [.str "window",.int n]),.fz X,(Sl.pd []).like u,.fz (.str "window"),.fz (.fn "window")],?_,rfl⟩
 unfold d_13
 refine qai (ρ':=(r1 (.tup [.str "window",.int n]) X "window")) (by kernel_rfl) ?_
 refine qai (ρ':=(r1 (.tup [.str "window",.int n]) X "window")) (by kernel_rfl) ?_
 refine qai (ρ':=(r1 (.tup [.str "window",.int n]) X "window")) (by kernel_rfl) ?_
 refine qcR ?_
 have t:dTB (qbn CT (dV 3)) (r1 (.tup [.str "window",.int n]) X "window")= .ok true:=by kernel_rfl
 unfold dIf
 rw[t,qad,if_pos rfl]
 refine qai (ρ':=(r2 (.tup [.str "window",.int n]) X "window")) (by kernel_rfl) ?_
 have q:qfp 4 2 CF (qab (dV 1) (qab (dB gIx (dV 0) (dC (.int 1))) (qan))) (r2 (.tup [.str "window",.int n]) X "window")=(q_29 [X,.int n] (.pd [])>>=fun r=>.ok (.rs r.1 [.fz (.tup [.str "window",.int n]),.fz X,(Sl.pd []).like r.2,.fz (.str "window"),.fz (.fn "window")])):=by kernel_rfl
 rw[q,e]
 rfl
theorem qiW {s u:Sl} (e:q_23 [X] (.pd [])= .ok (s,u)): ∃ρ',d_13 [.fz (.tup [.str "running"]),.fz X,.pd [],.no,.no]= .ok (.rs s ρ')∧ρ'[2]? =some ((Sl.pd []).like u):=by
 refine ⟨[.fz (.tup [.str "running"]),.fz X,(Sl.pd []).like u,.fz (.str "running"),.fz (.fn "running")],?_,rfl⟩
 unfold d_13
 refine qai (ρ':=(r1 (.tup [.str "running"]) X "running")) (by kernel_rfl) ?_
 refine qai (ρ':=(r1 (.tup [.str "running"]) X "running")) (by kernel_rfl) ?_
 refine qai (ρ':=(r1 (.tup [.str "running"]) X "running")) (by kernel_rfl) ?_
 refine qai (ρ':=(r1 (.tup [.str "running"]) X "running")) (by kernel_rfl) ?_
 refine qai (ρ':=(r2 (.tup [.str "running"]) X "running")) (by kernel_rfl) ?_
 have q:qfp 4 2 BF (qab (dV 1) (qan)) (r2 (.tup [.str "running"]) X "running")=(q_23 [X] (.pd [])>>=fun r=>.ok (.rs r.1 [.fz (.tup [.str "running"]),.fz X,(Sl.pd []).like r.2,.fz (.str "running"),.fz (.fn "running")])):=by kernel_rfl
 rw[q,e]
 rfl
theorem qli {s u:Sl} (e:q_30 [X] (.pd [])= .ok (s,u)): ∃ρ',d_13 [.fz (.tup [.str "change"]),.fz X,.pd [],.no,.no]= .ok (.rs s ρ')∧ρ'[2]? =some ((Sl.pd []).like u):=by
 refine ⟨[.fz (.tup [.str "change"]),.fz X,(Sl.pd []).like u,.fz (.str "change"),.fz (.fn "change")],?_,rfl⟩
 unfold d_13
 refine qai (ρ':=(r1 (.tup [.str "change"]) X "change")) (by kernel_rfl) ?_
 refine qai (ρ':=(r1 (.tup [.str "change"]) X "change")) (by kernel_rfl) ?_
 refine qai (ρ':=(r1 (.tup [.str "change"]) X "change")) (by kernel_rfl) ?_
 refine qai (ρ':=(r1 (.tup [.str "change"]) X "change")) (by kernel_rfl) ?_
 refine qai (ρ':=(r2 (.tup [.str "change"]) X "change")) (by kernel_rfl) ?_
 have q:qfp 4 2 BF (qab (dV 1) (qan)) (r2 (.tup [.str "change"]) X "change")=(q_30 [X] (.pd [])>>=fun r=>.ok (.rs r.1 [.fz (.tup [.str "change"]),.fz X,(Sl.pd []).like r.2,.fz (.str "change"),.fz (.fn "change")])):=by kernel_rfl
 rw[q,e]
 rfl
theorem qlh {s u:Sl} (e:q_31 [X] (.pd [])= .ok (s,u)): ∃ρ',d_13 [.fz (.tup [.str "unlike"]),.fz X,.pd [],.no,.no]= .ok (.rs s ρ')∧ρ'[2]? =some ((Sl.pd []).like u):=by
 refine ⟨[.fz (.tup [.str "unlike"]),.fz X,(Sl.pd []).like u,.fz (.str "unlike"),.fz (.fn "unlike")],?_,rfl⟩
 unfold d_13
 refine qai (ρ':=(r1 (.tup [.str "unlike"]) X "unlike")) (by kernel_rfl) ?_
 refine qai (ρ':=(r1 (.tup [.str "unlike"]) X "unlike")) (by kernel_rfl) ?_
 refine qai (ρ':=(r1 (.tup [.str "unlike"]) X "unlike")) (by kernel_rfl) ?_
 refine qai (ρ':=(r1 (.tup [.str "unlike"]) X "unlike")) (by kernel_rfl) ?_
 refine qai (ρ':=(r2 (.tup [.str "unlike"]) X "unlike")) (by kernel_rfl) ?_
 have q:qfp 4 2 BF (qab (dV 1) (qan)) (r2 (.tup [.str "unlike"]) X "unlike")=(q_31 [X] (.pd [])>>=fun r=>.ok (.rs r.1 [.fz (.tup [.str "unlike"]),.fz X,(Sl.pd []).like r.2,.fz (.str "unlike"),.fz (.fn "unlike")])):=by kernel_rfl
 rw[q,e]
 rfl
end
end AS
end
section
namespace AS
open PySem L2 PL SetL
open SR (Ris)
inductive Stp where
 | key (k:Str) | over (n:Int) | under (n:Int) | plus (n:Int) | times (n:Int) | first (n:Int) | each (n:Int) | window (n:Int) | running | change | unlike
def Stp.t:Stp→T
 | .key k=>.tup [.str "key",.str k]
 | .over n=>.tup [.str "over",.int n]
 | .under n=>.tup [.str "under",.int n]
 | .plus n=>.tup [.str "plus",.int n]
 | .times n=>.tup [.str "times",.int n]
 | .first n=>.tup [.str "first",.int n]
 | .each n=>.tup [.str "each",.int n]
 | .window n=>.tup [.str "window",.int n]
 | .running=>.tup [.str "running"]
 | .change=>.tup [.str "change"]
 | .unlike=>.tup [.str "unlike"]
def Stp.ok:Stp→Prop
 | .key k=>qei k
 | .over n=> -20≤n∧n≤20
 | .under n=> -20≤n∧n≤20
 | .plus n=> -20≤n∧n≤20
 | .times n=> -20≤n∧n≤20
 | .first n=>1≤n∧n≤20
 | .each n=>1≤n∧n≤20
 | .window n=>1≤n∧n≤20
 | _=>True
def Stp.run:Stp→List Row→List Row
 | .key k,rs=>qqp rs k
 | .over n,rs=>qcY n rs
 | .under n,rs=>qbM n rs
 | .plus n,rs=>qcs n rs
 | .times n,rs=>qeE n rs
 | .first n,rs=>rs.take n.toNat
 | .each n,rs=>qbI n rs
 | .window n,rs=>qbi n rs
 | .running,rs=>qex no rs
 | .change,rs=>qdL no rs
 | .unlike,rs=>qbX no rs
theorem qbU {st X:T} {ts:List T} {ρ':Ro} {u:Sl} (h:d_13 [.fz st,.fz X,.pd [],.no,.no]= .ok (.rs (.ow ts) ρ')) (hu:ρ'[2]? =some u) (hp:u.isP=true) (hw:(dTB (dB gEq (dB gIx (dV 0) (dC (.int 0))) (dC (.str "window"))) [.fz st,.fz X,(Sl.pd []).like u.out,.ow ts])= .ok false) (hd:((Sl.pd []).like u.out).isP=true):
  ∃s,q_5 [st,X] (.od [])= .ok (.ow ts,s):=by
 have e1:q_13 [st,X] (.pd [])= .ok (.ow ts,u.out):=by
  show (d_13 [.fz st,.fz X,.pd [],.no,.no]>>=qi9 2)=_
  rw[h]
  show (match ρ'[2]? with | some s=>if (Sl.ow ts).ret=true∧s.isP=true then Rs.ok (Sl.ow ts,s.out) else .no | none=>.no)=_
  rw[hu]
  show (if (Sl.ow ts).ret=true∧u.isP=true then Rs.ok (Sl.ow ts,u.out) else .no)=_
  rw[if_pos ⟨rfl,hp⟩]
 have e2:qk6 3 2 (qab (dV 0) (qab (dV 1) (qan))) q_13 [.fz st,.fz X,.pd [],.no]= .ok (.nx [.fz st,.fz X,(Sl.pd []).like u.out,.ow ts]):=by
  show (q_13 [st,X] (.pd [])>>=fun r=>Rs.ok (Out.nx [.fz st,.fz X,(Sl.pd []).like r.2,r.1]))=_
  rw[e1]
  rfl
 refine ⟨((Sl.pd []).like u.out).out,?_⟩
 have e3:d_5 [.fz st,.fz X,.pd [],.no]= .ok (.rs (.ow ts) [.fz st,.fz X,(Sl.pd []).like u.out,.no]):=by
  unfold d_5
  refine qai e2 (qai (ρ':=[.fz st,.fz X,(Sl.pd []).like u.out,.ow ts]) ?_ rfl)
  unfold dIf
  rw[hw]
  rfl
 show (d_5 [.fz st,.fz X,.pd [],.no]>>=qi9 2)=_
 rw[e3]
 show (if (Sl.ow ts).ret=true∧((Sl.pd []).like u.out).isP=true then Rs.ok (Sl.ow ts,((Sl.pd []).like u.out).out) else .no)=_
 rw[if_pos ⟨rfl,hd⟩]
theorem qlM {st:Stp} (ok:st.ok) {rs:List Row} (h:Ris PL.mo rs) (hl:rs.length<64): ∃s,q_5 [st.t,qam rs] (.od [])= .ok (.ow ((st.run rs).map qaq),s):=by
 cases st with
 | key k=>
  obtain ⟨ρ',a,b⟩:=qq4 (quo rs k)
  exact qbU a b rfl (by kernel_rfl) rfl
 | over n=>
  obtain ⟨ρ',a,b⟩:=qpp (qul rs n)
  exact qbU a b rfl (by kernel_rfl) rfl
 | under n=>
  obtain ⟨ρ',a,b⟩:=qmZ (qun rs n)
  exact qbU a b rfl (by kernel_rfl) rfl
 | plus n=>
  obtain ⟨ρ',a,b⟩:=qpo (quk rs n)
  exact qbU a b rfl (by kernel_rfl) rfl
 | times n=>
  have ok: -20≤n∧n≤20:=ok
  obtain ⟨ρ',a,b⟩:=qm0 (qum rs (b:=n) ⟨by omega,by omega⟩)
  exact qbU a b rfl (by kernel_rfl) rfl
 | first n=>
  have ok:1≤n∧n≤20:=ok
  obtain ⟨D,e⟩:=ql1 rs (n:=n) (by omega)
  obtain ⟨ρ',a,b⟩:=qm1 e
  exact qbU a b rfl (by kernel_rfl) rfl
 | each n=>
  have ok:1≤n∧n≤20:=ok
  obtain ⟨D,e⟩:=qn9 rs (n:=n) (by omega)
  obtain ⟨ρ',a,b⟩:=qpq e
  exact qbU a b rfl (by kernel_rfl) rfl
 | running=>
  obtain ⟨D,e⟩:=qis (rs:=rs) (by omega)
  obtain ⟨ρ',a,b⟩:=qiW e
  exact qbU a b rfl (by kernel_rfl) rfl
 | change=>
  obtain ⟨D,e⟩:=qjJ (rs:=rs) (by omega)
  obtain ⟨ρ',a,b⟩:=qli e
  exact qbU a b rfl (by kernel_rfl) rfl
 | unlike=>
  obtain ⟨D,e⟩:=qjI (rs:=rs) (by omega)
  obtain ⟨ρ',a,b⟩:=qlh e
  exact qbU a b rfl (by kernel_rfl) rfl
 | window n=>
  have ok:1≤n∧n≤20:=ok
  obtain ⟨D',B',acc',f1,f2,f3,f4,f5⟩:=qjH (s:=n) ⟨by omega,by omega⟩ h hl
  obtain ⟨ρ',a,b⟩:=qlg f1
  have e1:q_13 [Stp.t (.window n),qam rs] (.pd [])= .ok (.ow (acc'.map qaq),.ou D'):=by
   show (d_13 [.fz (.tup [.str "window",.int n]),.fz (qam rs),.pd [],.no,.no]>>=qi9 2)=_
   rw[a]
   show (match ρ'[2]? with | some s=>if (Sl.ow (acc'.map qaq)).ret=true∧s.isP=true then Rs.ok (Sl.ow (acc'.map qaq),s.out) else .no | none=>.no)=_
   rw[b]
   rfl
  have e2:qk6 3 2 (qab (dV 0) (qab (dV 1) (qan))) q_13 [.fz (Stp.t (.window n)),.fz (qam rs),.pd [],.no]= .ok (.nx [.fz (Stp.t (.window n)),.fz (qam rs),.pu D',.ow (acc'.map qaq)]):=by
   show (q_13 [Stp.t (.window n),qam rs] (.pd [])>>=fun r=>Rs.ok (Out.nx [.fz (Stp.t (.window n)),.fz (qam rs),(Sl.pd []).like r.2,r.1]))=_
   rw[e1]
   rfl
  have hw:dTB (dB gEq (dB gIx (dV 0) (dC (.int 0))) (dC (.str "window"))) [.fz (Stp.t (.window n)),.fz (qam rs),.pu D',.ow (acc'.map qaq)]= .ok true:=by kernel_rfl
  have hdl:=qhS f2
  have hcat:qtd (dQV 3) (dQ (qeS 2 t_11 (qab (dB gIx (dV 0) (dC (.int 1))) (qan)))) [.fz (Stp.t (.window n)),.fz (qam rs),.pu D',.ow (acc'.map qaq)]= .ok ((qbi n rs).map qaq):=by
   show ((t_11 [.int n,.dtu D']>>=qmo)>>=qe3)>>=(fun y=>if ((true:Bool)=true∧y.1=true)∧(acc'.map qaq).length+y.2.length≤1000 then Rs.ok (acc'.map qaq++y.2) else .no)=_
   rw[qda f2 (by omega) ⟨by omega,by omega⟩,qad]
   show ((if qbD (.lst ((qbi n B').map qaq))=true then Rs.ok (T.lst ((qbi n B').map qaq)) else .no)>>=qe3)>>=_=_
   rw[if_pos (qeF _)]
   show (if ((true:Bool)=true∧(true:Bool)=true)∧(acc'.map qaq).length+((qbi n B').map qaq).length≤1000 then Rs.ok (acc'.map qaq++(qbi n B').map qaq) else .no)=_
   have hwl:=qdM n B'
   rw[if_pos ⟨⟨rfl,rfl⟩,by rw[List.length_map,List.length_map]; omega⟩,←List.map_append,f4]
  refine ⟨.ou D',?_⟩
  have e3:d_5 [.fz (Stp.t (.window n)),.fz (qam rs),.pd [],.no]= .ok (.rs (.ow ((qbi n rs).map qaq)) [.fz (Stp.t (.window n)),.fz (qam rs),.pu D',.ow (acc'.map qaq)]):=by
   unfold d_5
   refine qai e2 (qcR ?_)
   unfold dIf
   rw[hw,qad,if_pos rfl]
   unfold qbL
   rw[hcat]
   rfl
  show (d_5 [.fz (Stp.t (.window n)),.fz (qam rs),.pd [],.no]>>=qi9 2)=_
  rw[e3]
  rfl
end AS
end
section
namespace AS
open PySem L2 PL SetL
open SR (Ris)
theorem qea {α:Type} {k:α→Int} {a b:List α} (h:a.Sublist b) (hb:Ris k b):Ris k a:=List.Pairwise.sublist h hb
theorem qjz {a b:List Row} (e:a.map PL.mo=b.map PL.mo) (hb:Ris PL.mo b):Ris PL.mo a:=by
 unfold SR.Ris at*
 rw[show (fun a b:Row=>PL.mo a≤PL.mo b)=fun a b=>(fun x y:Int=>x≤y) (PL.mo a) (PL.mo b) from rfl] at*
 rw[←List.pairwise_map] at*
 rw[e]; exact hb
theorem qiq {a b:List Row} (e:(a.map PL.mo).Sublist (b.map PL.mo)) (hb:Ris PL.mo b):Ris PL.mo a:=by
 unfold SR.Ris at*
 rw[show (fun a b:Row=>PL.mo a≤PL.mo b)=fun a b=>(fun x y:Int=>x≤y) (PL.mo a) (PL.mo b) from rfl] at*
 rw[←List.pairwise_map] at*
 exact hb.sublist e
theorem fm_congr {α β:Type} {f g:α→Option β}: ∀{l:List α},(∀a∈l,f a=g a)→l.filterMap f=l.filterMap g
 | [],_=>rfl
 | a::l,h=>by rw[List.filterMap_cons,List.filterMap_cons,h a List.mem_cons_self,fm_congr fun b hb=>h b (List.mem_cons_of_mem _ hb)]
theorem qoS {α:Type} (rs:List α) {n:Nat} (hn:0<n):RH.pickL rs (some ((n:Int) - 1)) none (some (n:Int))=(List.range (rs.length / n)).filterMap fun k=>rs[n*k+(n - 1)]? :=by
 unfold RH.pickL
 have hp:(n:Int)>0:=by omega
 have e:sliceBounds (some ((n:Int) - 1)) none (some (n:Int)) rs.length=(((min (n - 1) rs.length:Nat):Int),(rs.length:Int),(n:Int)):=by
  unfold sliceBounds
  simp only[Option.getD_some,hp,if_true,gt_iff_lt]
  rw[if_neg (by omega)]
  refine Prod.ext ?_ rfl
  show max 0 (min ((n:Int) - 1) (rs.length:Int))=_
  omega
 rw[e]
 unfold sliceRange
 simp only[hp,if_true,gt_iff_lt]
 have ec:(if ((min (n - 1) rs.length:Nat):Int)<(rs.length:Int) then ((rs.length:Int) - ((min (n - 1) rs.length:Nat):Int)+n - 1) / n else 0)=((rs.length / n:Nat):Int):=by
  by_cases c:n - 1<rs.length
  ·rw[Nat.min_eq_left (by omega),if_pos (by omega)]
   have:(rs.length:Int) - ((n - 1:Nat):Int)+n - 1=rs.length:=by omega
   rw[this]
   exact (Int.natCast_ediv _ _).symm
  ·rw[Nat.min_eq_right (by omega),if_neg (by omega)]
   have:rs.length / n=0:=Nat.div_eq_of_lt (by omega)
   rw[this]; rfl
 rw[ec,Int.toNat_natCast,List.filterMap_map]
 refine fm_congr fun k hk=> ?_
 have hk:=List.mem_range.mp hk
 have h1:n≤rs.length:=by
  have:0<rs.length / n:=by omega
  exact (Nat.div_pos_iff.mp this).2
 show rs[(((min (n - 1) rs.length:Nat):Int)+n*(k:Int)).toNat]? =_
 rw[Nat.min_eq_left (by omega)]
 refine congrArg (fun i=>rs[i]?) ?_
 have:(((n - 1:Nat):Int)+(n:Int)*(k:Int))=((n*k+(n - 1):Nat):Int):=by push_cast; omega
 rw[this,Int.toNat_natCast]
theorem qc9 (rs:List Row) {n:Nat} (hn:0<n):qbI (n:Int) rs=(List.range (rs.length / n)).filterMap fun k=>rs[n*k+(n - 1)]? :=qoS rs hn
theorem qmH (rs:List Row) {n:Nat} (hn:0<n):(qbI (n:Int) rs).length≤rs.length:=by
 rw[qc9 rs hn]
 refine Nat.le_trans (List.length_filterMap_le _ _) ?_
 rw[List.length_range]
 exact Nat.div_le_self _ _
theorem qmG {rs:List Row} {n:Nat} (hn:0<n) (h:Ris PL.mo rs):Ris PL.mo (qbI (n:Int) rs):=by
 rw[qc9 rs hn]
 unfold SR.Ris at*
 rw[List.pairwise_filterMap]
 refine List.Pairwise.imp (fun {a b} hab x hx y hy=> ?_) (List.pairwise_lt_range (n:=rs.length / n))
 obtain ⟨ha,rfl⟩:=List.getElem?_eq_some_iff.mp hx
 obtain ⟨hb,rfl⟩:=List.getElem?_eq_some_iff.mp hy
 refine (List.pairwise_iff_getElem.mp h) _ _ ha hb ?_
 have:=Nat.mul_lt_mul_of_pos_left hab hn
 omega
theorem qjy: ∀(f:Str→Option Int) (rs:List Row),(qex f rs).map PL.mo=rs.map PL.mo
 | _,[]=>rfl
 | f,r::rs=>by
  unfold qex
  rw[List.map_cons,List.map_cons,qjy _ rs]
theorem qlc: ∀(f:Str→Option Int) (rs:List Row),((qdL f rs).map PL.mo).Sublist (rs.map PL.mo)
 | _,[]=>List.Sublist.refl _
 | f,r::rs=>by
  unfold qdL
  have ih:=qlc (qdz f r.2.1 (some r.2.2)) rs
  cases f r.2.1 with
  | none=>exact List.Sublist.cons _ ih
  | some x=>exact List.Sublist.cons_cons _ ih
theorem unl_sub: ∀(f:Str→Option Int) (rs:List Row),(qbX f rs).Sublist rs
 | _,[]=>List.Sublist.refl _
 | f,r::rs=>by
  unfold qbX
  have ih:=unl_sub (qdz f r.2.1 (some r.2.2)) rs
  by_cases c:f r.2.1=some r.2.2
  ·rw[if_pos c]; exact List.Sublist.cons _ ih
  ·rw[if_neg c]; exact List.Sublist.cons_cons _ ih
theorem qiB {x y:IS} (h:qfL y x=false):x.1≤y.1:=by
 rcases Int.lt_or_le y.1 x.1 with c | c
 ·rw[qhL c] at h; cases h
 ·exact c
theorem qnR {s:Int} (hs:0<s) (rs:List Row):Ris PL.mo (qbi s rs):=by
 unfold qbi SR.Ris
 rw[List.pairwise_map]
 refine (qhr _).imp fun {a b} h=> ?_
 show (a.1+1)*s - 1≤(b.1+1)*s - 1
 have:=Int.mul_le_mul_of_nonneg_right (Int.add_le_add_right (qiB h) 1) (Int.le_of_lt hs)
 omega
theorem qlN {st:Stp} (ok:st.ok) {rs:List Row} (h:Ris PL.mo rs):Ris PL.mo (st.run rs):=by
 cases st with
 | key k=>exact qea List.filter_sublist h
 | over n=>exact qea List.filter_sublist h
 | under n=>exact qea List.filter_sublist h
 | plus n=>exact qjz (by show (qcs n rs).map PL.mo=_; unfold qcs; rw[List.map_map]; rfl) h
 | times n=>exact qjz (by show (qeE n rs).map PL.mo=_; unfold qeE; rw[List.map_map]; rfl) h
 | first n=>exact qea (List.take_sublist _ _) h
 | each n=>
  have ok:1≤n∧n≤20:=ok
  obtain ⟨m,rfl⟩: ∃m:Nat,n=m:=⟨n.toNat,by omega⟩
  exact qmG (by omega) h
 | window n=>exact qnR (by have:1≤n∧n≤20:=ok; omega) rs
 | running=>exact qjz (qjy _ rs) h
 | change=>exact qiq (qlc _ rs) h
 | unlike=>exact qea (unl_sub _ rs) h
theorem qlO {st:Stp} (ok:st.ok) (rs:List Row):(st.run rs).length≤rs.length:=by
 cases st with
 | key k=>exact List.length_filter_le _ _
 | over n=>exact List.length_filter_le _ _
 | under n=>exact List.length_filter_le _ _
 | plus n=>exact Nat.le_of_eq (List.length_map _)
 | times n=>exact Nat.le_of_eq (List.length_map _)
 | first n=>exact (List.take_sublist _ _).length_le
 | each n=>
  have ok:1≤n∧n≤20:=ok
  obtain ⟨m,rfl⟩: ∃m:Nat,n=m:=⟨n.toNat,by omega⟩
  exact qmH rs (by omega)
 | window n=>exact qdM n rs
 | running=>
  have:=congrArg List.length (qjy no rs)
  rw[List.length_map,List.length_map] at this
  exact Nat.le_of_eq this
 | change=>
  have:=(qlc no rs).length_le
  rw[List.length_map,List.length_map] at this
  exact this
 | unlike=>exact (unl_sub no rs).length_le
def qi8:List Stp→List Row→List Row
 | [],rs=>rs
 | st::ask,rs=>qi8 ask (st.run rs)
def qbx (ask:List Stp):T:=.tup (ask.map Stp.t)
end AS
end
section
namespace AS
open PySem L2 PL SetL
open SR (Ris)
theorem qgR {z:Str} (h:qbn BT (dV 1) [.fz (.tup [.str z]),.fz (.str z)]= .ok (.bl true)):t_24 [.tup [.str z]]= .ok (.bl true):=by
 show (d_24 [.fz (.tup [.str z]),.no]>>=outT)=_
 have e:d_24 [.fz (.tup [.str z]),.no]= .ok (.rt (.bl true)):=by
  unfold d_24
  refine qai (ρ':=[.fz (.tup [.str z]),.no]) rfl (qai (ρ':=[.fz (.tup [.str z]),.fz (.str z)]) rfl ?_)
  have:dIf (dTB (qbn BT (dV 1))) (qbo (dB gEq (qdw (dV 0)) (dC (.int 1)))) (qay) [.fz (.tup [.str z]),.fz (.str z)]= .ok (.rt (.bl true)):=by
   unfold dIf dTB
   rw[h]
   rfl
  unfold qaK
  rw[this]
  rfl
 rw[e]
 rfl
theorem qhF {z:Str} {n:Int} (b:qd0 BT (.str z)= .ok (.bl false)) (k:gEq (.str z) (.str "key")= .ok (.bl false)) (m:qd0 NT (.str z)= .ok (.bl true)) (h: -20≤n∧n≤20):t_24 [.tup [.str z,.int n]]= .ok (.bl true):=by
 have w:t_8 [.int n,.int (-20),.int 20]= .ok (.bl true):=by rw[qdS,decide_eq_true h.1,decide_eq_true h.2]; rfl
 have e:d_24 [.fz (.tup [.str z,.int n]),.no]= .ok (.rt (.bl true)):=by
  unfold d_24
  refine qai (ρ':=[.fz (.tup [.str z,.int n]),.no]) rfl (qai (ρ':=[.fz (.tup [.str z,.int n]),.fz (.str z)]) rfl ?_)
  refine qai (ρ':=[.fz (.tup [.str z,.int n]),.fz (.str z)]) ?_ (qai (ρ':=[.fz (.tup [.str z,.int n]),.fz (.str z)]) rfl (qai (ρ':=[.fz (.tup [.str z,.int n]),.fz (.str z)]) ?_ ?_))
  ·show ((qd0 BT (.str z)>>=fun t=>match t with | .bl b=>Rs.ok b | _=>.no)>>=fun c=>if c=true then _ else qay [.fz (.tup [.str z,.int n]),.fz (.str z)])=_
   rw[b]; rfl
  ·show (((gEq (.str z) (.str "key"))>>=fun t=>match t with | .bl b=>Rs.ok b | _=>.no)>>=fun c=>if c=true then _ else qay [.fz (.tup [.str z,.int n]),.fz (.str z)])=_
   rw[k]; rfl
  ·have q:dIf (dTB (qbn NT (dV 1))) (qbo (qas t_8 (qab (dB gIx (dV 0) (dC (.int 1))) (qab (qg6 (dC (.int 20))) (qab (dC (.int 20)) (qan)))))) (qay) [.fz (.tup [.str z,.int n]),.fz (.str z)]= .ok (.rt (.bl true)):=by
    show ((qd0 NT (.str z)>>=fun t=>match t with | .bl b=>Rs.ok b | _=>.no)>>=fun c=>if c=true then (t_8 [.int n,.int (-20),.int 20]>>=fun t=>Rs.ok (Out.rt t)) else _)=_
    rw[m,w]; rfl
   unfold qaK
   rw[q]; rfl
 show (d_24 [.fz (.tup [.str z,.int n]),.no]>>=outT)=_
 rw[e]; rfl
theorem qk8 {z:Str} {n:Int} (b:qd0 BT (.str z)= .ok (.bl false)) (k:gEq (.str z) (.str "key")= .ok (.bl false)) (m:qd0 NT (.str z)= .ok (.bl false)) (c:qd0 CT (.str z)= .ok (.bl true)) (h:1≤n∧n≤20):t_24 [.tup [.str z,.int n]]= .ok (.bl true):=by
 have w:t_8 [.int n,.int 1,.int 20]= .ok (.bl true):=by rw[qdS,decide_eq_true h.1,decide_eq_true h.2]; rfl
 have e:d_24 [.fz (.tup [.str z,.int n]),.no]= .ok (.rt (.bl true)):=by
  unfold d_24
  refine qai (ρ':=[.fz (.tup [.str z,.int n]),.no]) rfl (qai (ρ':=[.fz (.tup [.str z,.int n]),.fz (.str z)]) rfl ?_)
  refine qai (ρ':=[.fz (.tup [.str z,.int n]),.fz (.str z)]) ?_ (qai (ρ':=[.fz (.tup [.str z,.int n]),.fz (.str z)]) rfl (qai (ρ':=[.fz (.tup [.str z,.int n]),.fz (.str z)]) ?_ (qai (ρ':=[.fz (.tup [.str z,.int n]),.fz (.str z)]) ?_ ?_)))
  ·show ((qd0 BT (.str z)>>=fun t=>match t with | .bl b=>Rs.ok b | _=>.no)>>=fun c=>if c=true then _ else qay [.fz (.tup [.str z,.int n]),.fz (.str z)])=_
   rw[b]; rfl
  ·show (((gEq (.str z) (.str "key"))>>=fun t=>match t with | .bl b=>Rs.ok b | _=>.no)>>=fun c=>if c=true then _ else qay [.fz (.tup [.str z,.int n]),.fz (.str z)])=_
   rw[k]; rfl
  ·show ((qd0 NT (.str z)>>=fun t=>match t with | .bl b=>Rs.ok b | _=>.no)>>=fun c=>if c=true then _ else qay [.fz (.tup [.str z,.int n]),.fz (.str z)])=_
   rw[m]; rfl
  ·show (((qd0 CT (.str z)>>=fun t=>match t with | .bl b=>Rs.ok b | _=>.no)>>=fun c=>if c=true then t_8 [.int n,.int 1,.int 20] else Rs.ok (T.bl false))>>=fun t=>Rs.ok (Out.rt t))=_
   rw[c,w]; rfl
 show (d_24 [.fz (.tup [.str z,.int n]),.no]>>=outT)=_
 rw[e]; rfl
theorem qkT {st:Stp} (ok:st.ok):t_24 [st.t]= .ok (.bl true):=by
 cases st with
 | running=>exact qgR (by kernel_rfl)
 | change=>exact qgR (by kernel_rfl)
 | unlike=>exact qgR (by kernel_rfl)
 | key k=>
  have e:t_24 [.tup [.str "key",.str k]]=(((t_25 [.str k]>>=fun t=>Rs.ok (Out.rt t))>>=fun o=>qdf o (qaK (dIf (dTB (qbn NT (dV 1))) (qbo (qas t_8 (qab (dB gIx (dV 0) (dC (.int 1))) (qab (qg6 (dC (.int 20))) (qab (dC (.int 20)) (qan)))))) (qay)) (qbo (qfr (qbn CT (dV 1)) (qas t_8 (qab (dB gIx (dV 0) (dC (.int 1))) (qab (dC (.int 1)) (qab (dC (.int 20)) (qan)))))))))>>=outT):=by kernel_rfl
  rw[show Stp.t (.key k)= .tup [.str "key",.str k] from rfl,e,qh3 ok]
  rfl
 | over n=>exact qhF (by kernel_rfl) (by kernel_rfl) (by kernel_rfl) ok
 | under n=>exact qhF (by kernel_rfl) (by kernel_rfl) (by kernel_rfl) ok
 | plus n=>exact qhF (by kernel_rfl) (by kernel_rfl) (by kernel_rfl) ok
 | times n=>exact qhF (by kernel_rfl) (by kernel_rfl) (by kernel_rfl) ok
 | first n=>exact qk8 (by kernel_rfl) (by kernel_rfl) (by kernel_rfl) (by kernel_rfl) ok
 | each n=>exact qk8 (by kernel_rfl) (by kernel_rfl) (by kernel_rfl) (by kernel_rfl) ok
 | window n=>exact qk8 (by kernel_rfl) (by kernel_rfl) (by kernel_rfl) (by kernel_rfl) ok
end AS
end
section
namespace AS
open PySem L2 PL SetL
open SR (Ris)
theorem qmL {ask:List Stp} (ok: ∀st∈ask,st.ok) (h5:ask.length≤5):t_32 [qbx ask]= .ok (.bl true):=by
 have c1:qaB 1 [] (dI (dV 0)) (gN 0) (qb8) (qas t_24 (qab (dV 0) (qan))) [.fz (qbx ask)]= .ok ((ask.filter fun _=>true).map fun _=>T.bl true):=by
  refine qbS (f:=Stp.t) rfl fun st hst=>⟨rfl,fun _=> ?_⟩
  show t_24 [st.t]=_
  exact qkT (ok st hst)
 rw[qaW] at c1
 have aq:=qft (fun _:Stp=>true) ask
 rw[show (ask.all fun _=>true)=true by rw[List.all_eq_true]; intro _ _; rfl] at aq
 have hl: ¬((5:Int)<((ask.map Stp.t).length:Nat)):=by rw[List.length_map]; omega
 have e:d_32 [.fz (qbx ask)]= .ok (.rt (.bl true)):=by
  unfold d_32
  refine qai (ρ':=[.fz (qbx ask)]) ?_ ?_
  ·show ((Rs.ok (decide ((5:Int)<((ask.map Stp.t).length:Nat))):Rs Bool)>>=fun c=>if c=true then _ else qay [.fz (qbx ask)])=_
   rw[decide_eq_false hl]
   rfl
  ·show (((qaB 1 [] (dI (dV 0)) (gN 0) (qb8) (qas t_24 (qab (dV 0) (qan))) [.fz (qbx ask)]>>=fun ts=>Rs.ok (true,ts))>>=qlr)>>=fun t=>Rs.ok (Out.rt t))=_
   rw[c1,qad,qad,aq]
   rfl
 show (d_32 [.fz (qbx ask)]>>=outT)=_
 rw[e]
 rfl
theorem qf2 {ask:List Stp} (ok: ∀st∈ask,st.ok) (h5:ask.length≤5):t_2 [qbx ask]= .ok .non:=by
 show (((t_32 [qbx ask]>>=fun t=>match t with | .bl b=>Rs.ok b | _=>.no)>>=fun c=>Rs.ok (!c))>>=fun c=>if c=true then dNo [.fz (qbx ask)] else qay [.fz (qbx ask)])>>=outT=_
 rw[qmL ok h5]
 rfl
theorem qii (x0 x1:Sl): ∀(ask:List Stp) (rs:List Row) (s3:Sl),(∀st∈ask,st.ok)→Ris PL.mo rs→rs.length<64→∃s3',
  qdK (gN 3) (fun ρ=>(qmT 2 (qab (dV 3) (qab (dV 2) (qan))) (fun ts=>q_5 ts (.od [])>>=fun r=>.ok r.1)) (frz 2 ρ)) (ask.map Stp.t) [x0,x1,.ow (rs.map qaq),s3]= .ok (.nx [x0,x1,.ow ((qi8 ask rs).map qaq),s3'])
 | [],rs,s3,_,_,_=>⟨s3,rfl⟩
 | st::ask,rs,s3,ok,h,hl=>by
  have ok1:=ok st List.mem_cons_self
  obtain ⟨u,e⟩:=qlM ok1 h hl
  have hl':=qlO ok1 rs
  obtain ⟨s',ih⟩:=qii x0 x1 ask (st.run rs) (.fz st.t) (fun x hx=>ok x (List.mem_cons_of_mem _ hx)) (qlN ok1 h) (by omega)
  refine ⟨s',?_⟩
  rw[List.map_cons]
  unfold qdK
  show ((q_5 [st.t,qam rs] (.od [])>>=fun r=>Rs.ok r.1)>>=fun s=>Rs.ok (Out.nx [x0,x1,s,.fz st.t]))>>=(fun o=>qpJ o _)=_
  rw[e]
  exact ih
theorem qlo {ask:List Stp} (ok: ∀st∈ask,st.ok) (h5:ask.length≤5) {rs:List Row} (hL:Log rs) (hl:rs.length<64):o_36 [qbx ask,qam rs]= .ok (.ow ((qi8 ask rs).map qaq)):=by
 obtain ⟨s3,e⟩:=qii (.fz (qbx ask)) (.fz (qam rs)) ask rs .no ok hL.ris hl
 have e':d_36 [.fz (qbx ask),.fz (qam rs),.no,.no]= .ok (.rs (.ow ((qi8 ask rs).map qaq)) [.fz (qbx ask),.fz (qam rs),.no,s3]):=by
  unfold d_36
  refine qai (ρ':=[.fz (qbx ask),.fz (qam rs),.no,.no]) ?_ (qai (ρ':=[.fz (qbx ask),.fz (qam rs),.no,.no]) ?_ (qai (ρ':=[.fz (qbx ask),.fz (qam rs),.ow (rs.map qaq),.no]) ?_ (qai (ρ':=[.fz (qbx ask),.fz (qam rs),.ow ((qi8 ask rs).map qaq),s3]) ?_ rfl)))
  ·show (t_2 [qbx ask]>>=fun _=>Rs.ok (Out.nx [.fz (qbx ask),.fz (qam rs),.no,.no]))=_
   rw[qf2 ok h5]
   rfl
  ·show (t_1 [qam rs]>>=fun _=>Rs.ok (Out.nx [.fz (qbx ask),.fz (qam rs),.no,.no]))=_
   rw[qf1 hL]
   rfl
  ·rfl
  ·exact e
 show (d_36 [.fz (qbx ask),.fz (qam rs),.no,.no]>>=qoo)=_
 rw[e']
 rfl
theorem asked_t {ask:List Stp} (ok: ∀st∈ask,st.ok) (h5:ask.length≤5) {rs:List Row} (hL:Log rs) (hl:rs.length<64):t_36 [qbx ask,qam rs]= .ok (qam (qi8 ask rs)):=by
 show (o_36 [qbx ask,qam rs]>>=qs3)=_
 rw[qlo ok h5 hL hl]
 rfl
end AS
end
section
namespace K12
open PySem L2 PL SetL AS
open SR (Ris)
theorem qjP {s b:Int} (hs:0<s) (hb:0<b) (p:IS) (x:Int):plc (s*b) ((p.1+1)*s - 1,p.2,x)=(p.1 / b,p.2):=by
 unfold plc
 refine Prod.ext ?_ rfl
 show ((p.1+1)*s - 1) / (s*b)=p.1 / b
 rw[←Int.ediv_ediv_of_nonneg (Int.le_of_lt hs)]
 have:((p.1+1)*s - 1) / s=p.1:=by
  rw[Int.add_mul,Int.one_mul,show p.1*s+s - 1=(s - 1)+p.1*s by omega,Int.add_mul_ediv_right _ _ (by omega),Int.ediv_eq_zero_of_lt (by omega) (by omega),Int.zero_add]
 rw[this]
theorem qgG {s b:Int} (hs:0<s) (r:Row):plc (s*b) r=((plc s r).1 / b,(plc s r).2):=by
 unfold plc
 refine Prod.ext ?_ rfl
 show r.1 / (s*b)=r.1 / s / b
 rw[Int.ediv_ediv_of_nonneg (Int.le_of_lt hs)]
theorem qd1 {s:Int} (φ:IS→Bool) (P:List IS) (nd:P.Nodup): ∀rs:List Row,(∀r∈rs,plc s r∈P)→((P.filter φ).map fun p=>qbt s rs p).sum=((rs.filter fun r=>φ (plc s r)).map fun r=>r.2.2).sum
 | [],_=>by
  have: ∀l:List IS,(l.map fun p=>qbt s [] p).sum=0:=by
   intro l; induction l with
   | nil=>rfl
   | cons x l ih=>rw[List.map_cons,List.sum_cons,ih,qd2]; rfl
  rw[this]; rfl
 | r::rs,h=>by
  have ih:=qd1 φ P nd rs fun q hq=>h q (List.mem_cons_of_mem _ hq)
  have one: ∀l:List IS,l.Nodup→(l.map fun p=>qbt s (r::rs) p).sum=(if plc s r∈l then r.2.2 else 0)+(l.map fun p=>qbt s rs p).sum:=by
   intro l
   induction l with
   | nil=>intro _; rfl
   | cons x l ih=>
    intro nd
    have nd':=List.nodup_cons.mp nd
    rw[List.map_cons,List.sum_cons,ih nd'.2,qdh,List.map_cons,List.sum_cons]
    by_cases c:plc s r=x
    ·have hn:plc s r∉l:=by rw[c]; exact nd'.1
     rw[if_pos c,if_neg hn,if_pos (by rw[c]; exact List.mem_cons_self)]
     omega
    ·rw[if_neg c]
     by_cases d:plc s r∈l
     ·rw[if_pos d,if_pos (List.mem_cons_of_mem _ d)]; omega
     ·rw[if_neg d,if_neg (fun z=>by rcases List.mem_cons.mp z with z | z; exact c z; exact d z)]; omega
  rw[one _ (nd.filter _),ih,List.filter_cons]
  by_cases c:φ (plc s r)=true
  ·rw[if_pos (List.mem_filter.mpr ⟨h r List.mem_cons_self,c⟩),if_pos c,List.map_cons,List.sum_cons]
  ·rw[if_neg (fun z=>c (List.mem_filter.mp z).2),if_neg c]; omega
theorem qlK (s:Int) (rs:List Row):((qbi s rs).map fun r=>r.2.2).sum=(rs.map fun r=>r.2.2).sum:=by
 have:=qd1 (s:=s) (fun _=>true) (sds (rs.map (plc s))) (qcb _) rs fun r hr=>qbl.mpr (List.mem_map.mpr ⟨r,hr,rfl⟩)
 rw[List.filter_eq_self.mpr (fun _ _=>rfl),List.filter_eq_self.mpr (fun _ _=>rfl)] at this
 unfold qbi
 rw[List.map_map]
 exact this
theorem qnQ {s b:Int} (hs:0<s) (hb:0<b) (rs:List Row):qbi (s*b) (qbi s rs)=qbi (s*b) rs:=by
 have hk:sds ((qbi s rs).map (plc (s*b)))=sds (rs.map (plc (s*b))):=qjs fun p=>by
  constructor
  ·intro h
   obtain ⟨r',hr',e⟩:=List.mem_map.mp h
   unfold qbi at hr'
   obtain ⟨q,hq,rfl⟩:=List.mem_map.mp hr'
   obtain ⟨r,hr,rfl⟩:=List.mem_map.mp (qbl.mp hq)
   rw[qjP hs hb] at e
   exact List.mem_map.mpr ⟨r,hr,by rw[qgG hs]; exact e⟩
  ·intro h
   obtain ⟨r,hr,e⟩:=List.mem_map.mp h
   refine List.mem_map.mpr ⟨(((plc s r).1+1)*s - 1,(plc s r).2,qbt s rs (plc s r)),List.mem_map.mpr ⟨plc s r,qbl.mpr (List.mem_map.mpr ⟨r,hr,rfl⟩),rfl⟩,?_⟩
   rw[qjP hs hb,←qgG hs]
   exact e
 show (sds ((qbi s rs).map (plc (s*b)))).map _=(sds (rs.map (plc (s*b)))).map _
 rw[hk]
 refine List.map_congr_left fun p _=> ?_
 refine Prod.ext rfl (Prod.ext rfl ?_)
 show qbt (s*b) (qbi s rs) p=qbt (s*b) rs p
 have hp:=qd1 (s:=s) (fun q=>decide ((q.1 / b,q.2)=p)) (sds (rs.map (plc s))) (qcb _) rs fun r hr=>qbl.mpr (List.mem_map.mpr ⟨r,hr,rfl⟩)
 unfold qbt at hp⊢
 unfold qbi
 rw[List.filter_map,List.map_map]
 have e1:((fun r=>decide (plc (s*b) r=p))∘fun p:IS=>((p.1+1)*s - 1,p.2,((rs.filter fun r=>decide (plc s r=p)).map fun r=>r.2.2).sum))=fun q:IS=>decide ((q.1 / b,q.2)=p):=funext fun q=>by
  show decide (plc (s*b) _=p)=_
  rw[qjP hs hb]
 have e2:(rs.filter fun r=>decide (plc (s*b) r=p))=rs.filter fun r=>decide (((plc s r).1 / b,(plc s r).2)=p):=List.filter_congr fun r _=>by rw[qgG hs]
 show ((List.filter ((fun r=>decide (plc (s*b) r=p))∘fun p:IS=>((p.1+1)*s - 1,p.2,((rs.filter fun r=>decide (plc s r=p)).map fun r=>r.2.2).sum)) (sds (rs.map (plc s)))).map _).sum=_
 rw[e1,e2]
 exact hp
def qcq:List Str→List Row→List Row
 | _,[]=>[]
 | seen,r::rs=>(if r.2.1∈seen then [] else [r])++qcq (seen++[r.2.1]) rs
def qcM:List Str→List Row→List Row
 | _,[]=>[]
 | seen,r::rs=>(if r.2.1∈seen then [r] else [])++qcM (seen++[r.2.1]) rs
theorem qlb: ∀(rs:List Row) (f g:Str→Option Int) (seen:List Str),(∀k,(f k).isSome=decide (k∈seen))→(∀k,g k=f k)→qdL g (qex f rs)=qcM seen rs
 | [],_,_,_,_,_=>rfl
 | r::rs,f,g,seen,hf,hg=>by
  unfold qex qdL qcM
  have hf': ∀k,(qdz f r.2.1 (some ((f r.2.1).getD 0+r.2.2)) k).isSome=decide (k∈seen++[r.2.1]):=fun k=>by
   unfold qdz
   by_cases c:k=r.2.1
   ·rw[if_pos c,c]; simp
   ·rw[if_neg c,hf k]
    simp[c]
  have ih:=qlb rs (qdz f r.2.1 (some ((f r.2.1).getD 0+r.2.2))) (qdz g r.2.1 (some ((f r.2.1).getD 0+r.2.2))) (seen++[r.2.1]) hf' (fun k=>by unfold qdz; split; rfl; exact hg k)
  show (match g r.2.1 with | some x=>[(r.1,r.2.1,(f r.2.1).getD 0+r.2.2 - x)] | none=>[])++qdL (qdz g r.2.1 (some ((f r.2.1).getD 0+r.2.2))) _=_
  rw[ih,hg r.2.1]
  congr 1
  have h1:=hf r.2.1
  cases e:f r.2.1 with
  | none=>
   rw[e] at h1
   rw[if_neg (of_decide_eq_false h1.symm)]
  | some x=>
   rw[e] at h1
   rw[if_pos (of_decide_eq_true h1.symm)]
   show [(r.1,r.2.1,x+r.2.2 - x)]=[r]
   rw[show x+r.2.2 - x=r.2.2 by omega]
end K12
end
section
namespace K12
open PySem L2 PL SetL AS
open SR (Ris)
theorem qgB {H:Str→Int}: ∀(rs:List Row) (f g:Str→Option Int) (seen:List Str),(∀k,(f k).isSome=decide (k∈seen))→(∀k x,f k=some x→(g k).getD 0=x - H k)→(∀k,f k=none→(g k).getD 0=0)→(∀r∈qcq seen rs,H r.2.1=r.2.2)→
  qex g (qdL f rs)=(qcM seen rs).map fun r=>(r.1,r.2.1,r.2.2 - H r.2.1)
 | [],_,_,_,_,_,_,_=>rfl
 | r::rs,f,g,seen,hf,h1,h0,hH=>by
  have hf': ∀k,(qdz f r.2.1 (some r.2.2) k).isSome=decide (k∈seen++[r.2.1]):=fun k=>by
   unfold qdz
   by_cases c:k=r.2.1
   ·rw[if_pos c,c]; simp
   ·rw[if_neg c,hf k]; simp[c]
  have hk:=hf r.2.1
  unfold qdL qcM
  unfold qcq at hH
  cases e:f r.2.1 with
  | none=>
   rw[e] at hk
   have ns:=of_decide_eq_false hk.symm
   rw[if_neg ns] at hH⊢
   have hr:H r.2.1=r.2.2:=hH r (by simp)
   refine qgB rs _ g _ hf' (fun k x hx=> ?_) (fun k hx=> ?_) (fun q hq=>hH q (List.mem_append_right _ hq))
   ·unfold qdz at hx
    by_cases c:k=r.2.1
    ·rw[if_pos c] at hx; cases hx
     rw[c,h0 _ e,hr]; omega
    ·rw[if_neg c] at hx; exact h1 k x hx
   ·unfold qdz at hx
    by_cases c:k=r.2.1
    ·rw[if_pos c] at hx; cases hx
    ·rw[if_neg c] at hx; exact h0 k hx
  | some x=>
   rw[e] at hk
   have hs:=of_decide_eq_true hk.symm
   rw[if_pos hs] at hH⊢
   have gx:=h1 _ _ e
   show qex g ((r.1,r.2.1,r.2.2 - x)::qdL (qdz f r.2.1 (some r.2.2)) rs)=(r::qcM (seen++[r.2.1]) rs).map _
   unfold qex
   rw[List.map_cons]
   congr 1
   ·refine Prod.ext rfl (Prod.ext rfl ?_)
    show (g r.2.1).getD 0+(r.2.2 - x)=r.2.2 - H r.2.1
    omega
   ·refine qgB rs _ _ _ hf' (fun k y hy=> ?_) (fun k hy=> ?_) (fun q hq=>hH q (List.mem_append_right _ hq))
    ·unfold qdz at hy⊢
     by_cases c:k=r.2.1
     ·rw[if_pos c] at hy⊢; cases hy
      show (g r.2.1).getD 0+(r.2.2 - x)=_
      rw[c]; omega
     ·rw[if_neg c] at hy⊢; exact h1 k y hy
    ·unfold qdz at hy⊢
     by_cases c:k=r.2.1
     ·rw[if_pos c] at hy; cases hy
     ·rw[if_neg c] at hy⊢; exact h0 k hy
theorem qhV: ∀(rs:List Row) (seen:List Str),∀r∈rs,r.2.1∈seen∨∃q∈qcq seen rs,q.2.1=r.2.1
 | [],_,_,h=>by cases h
 | x::rs,seen,r,h=>by
  unfold qcq
  rcases List.mem_cons.mp h with rfl | h
  ·by_cases c:r.2.1∈seen
   ·exact .inl c
   ·rw[if_neg c]
    exact .inr ⟨r,by simp,rfl⟩
  ·rcases qhV rs (seen++[x.2.1]) r h with z | ⟨q,hq,e⟩
   ·rcases List.mem_append.mp z with z | z
    ·exact .inl z
    ·by_cases c:x.2.1∈seen
     ·rw[List.mem_singleton.mp z]; exact .inl c
     ·rw[if_neg c]
      exact .inr ⟨x,by simp,(List.mem_singleton.mp z).symm⟩
   ·exact .inr ⟨q,List.mem_append_right _ hq,e⟩
theorem qkK: ∀(rs:List Row) (seen:List Str),(∀q∈qcq seen rs,q.2.1∉seen)∧((qcq seen rs).map fun r=>r.2.1).Nodup∧∀q∈qcq seen rs,q∈rs
 | [],_=>⟨fun q h=>(by cases h),List.nodup_nil,fun q h=>(by cases h)⟩
 | r::rs,seen=>by
  obtain ⟨a,b,d⟩:=qkK rs (seen++[r.2.1])
  unfold qcq
  by_cases c:r.2.1∈seen
  ·rw[if_pos c,List.nil_append]
   exact ⟨fun q hq z=>a q hq (List.mem_append_left _ z),b,fun q hq=>List.mem_cons_of_mem _ (d q hq)⟩
  ·rw[if_neg c]
   refine ⟨fun q hq=> ?_,?_,fun q hq=> ?_⟩
   ·rcases List.mem_cons.mp hq with rfl | hq
    ·exact c
    ·exact fun z=>a q hq (List.mem_append_left _ z)
   ·show (r.2.1::(qcq (seen++[r.2.1]) rs).map fun r=>r.2.1).Nodup
    refine List.nodup_cons.mpr ⟨fun z=> ?_,b⟩
    obtain ⟨q,hq,e⟩:=List.mem_map.mp z
    exact a q hq (List.mem_append_right _ (by rw[e]; exact List.mem_cons_self))
   ·rcases List.mem_cons.mp hq with rfl | hq
    ·exact List.mem_cons_self
    ·exact List.mem_cons_of_mem _ (d q hq)
theorem qkg: ∀(rs:List Row) (seen:List Str),∀q∈qcM seen rs,q∈rs
 | [],_,_,h=>by cases h
 | r::rs,seen,q,h=>by
  unfold qcM at h
  rcases List.mem_append.mp h with h | h
  ·split at h
   ·rw[List.mem_singleton.mp h]; exact List.mem_cons_self
   ·cases h
  ·exact List.mem_cons_of_mem _ (qkg rs _ q h)
theorem qkJ (neg:Bool): ∀(suf pre:List Row),((suf.zipIdx pre.length).filter fun x=>if neg then !decide (x.1.2.1∈((pre++suf).take x.2).map fun r=>r.2.1) else decide (x.1.2.1∈((pre++suf).take x.2).map fun r=>r.2.1)).map (·.1)=if neg then qcq (pre.map fun r=>r.2.1) suf else qcM (pre.map fun r=>r.2.1) suf
 | [],pre=>by cases neg<;>rfl
 | r::suf,pre=>by
  have ih:=qkJ neg suf (pre++[r])
  rw[List.length_append,List.length_singleton,List.append_assoc,List.map_append] at ih
  rw[List.zipIdx_cons,List.filter_cons]
  have e:(pre++r::suf).take pre.length=pre:=by simp
  rw[e]
  cases neg with
  | true=>
   simp only[if_true] at ih⊢
   conv=>rhs; unfold qcq
   by_cases c:r.2.1∈pre.map fun r=>r.2.1
   ·rw[decide_eq_true c,if_pos c]
    simp only[Bool.not_true,Bool.false_eq_true,if_false]
    exact ih
   ·rw[decide_eq_false c,if_neg c]
    simp only[Bool.not_false,if_true]
    rw[List.map_cons]
    exact congrArg (r:: ·) ih
  | false=>
   simp only[Bool.false_eq_true,if_false] at ih⊢
   conv=>rhs; unfold qcM
   by_cases c:r.2.1∈pre.map fun r=>r.2.1
   ·rw[decide_eq_true c,if_pos c]
    simp only[if_true]
    rw[List.map_cons]
    exact congrArg (r:: ·) ih
   ·rw[decide_eq_false c,if_neg c]
    simp only[Bool.false_eq_true,if_false]
    exact ih
def ded:Option Int→List Int→List Int
 | _,[]=>[]
 | p,x::xs=>(if p=some x then [] else [x])++ded (some x) xs
def qaT (rs:List Row) (k:Str):List Int:=(rs.filter fun r=>r.2.1==k).map fun r=>r.2.2
theorem qjc (k:Str): ∀(rs:List Row) (f:Str→Option Int),qaT (qbX f rs) k=ded (f k) (qaT rs k)
 | [],_=>rfl
 | r::rs,f=>by
  have ih:=qjc k rs (qdz f r.2.1 (some r.2.2))
  unfold qbX
  unfold qaT at ih⊢
  rw[List.filter_append,List.map_append,ih,List.filter_cons]
  by_cases c:r.2.1=k
  ·have cb:(r.2.1==k)=true:=by simpa using c
   rw[if_pos cb,List.map_cons]
   conv=>rhs; unfold ded
   rw[show qdz f r.2.1 (some r.2.2) k=some r.2.2 by unfold qdz; rw[if_pos c.symm]]
   congr 1
   rw[c]
   by_cases d:f k=some r.2.2
   ·rw[if_pos d,if_pos d]; rfl
   ·rw[if_neg d,if_neg d]
    simp[cb,c]
  ·have cb:(r.2.1==k)=false:=by simpa using c
   have this:((if f r.2.1=some r.2.2 then [] else [r]).filter fun r=>r.2.1==k)=[]:=by
    split
    ·rfl
    ·simp[cb]
   have e2:(if (r.2.1==k)=true then r::rs.filter (fun r=>r.2.1==k) else rs.filter fun r=>r.2.1==k)=rs.filter fun r=>r.2.1==k:=if_neg (by rw[cb]; exact Bool.false_ne_true)
   rw[this,e2,show qdz f r.2.1 (some r.2.2) k=f k by unfold qdz; rw[if_neg (fun z=>c z.symm)]]
   rfl
theorem qf6: ∀(xs:List Int) (p:Option Int),(∀a,(ded p xs)[0]? =some a→p≠some a)∧∀(i:Nat) (a b:Int),(ded p xs)[i]? =some a→(ded p xs)[i+1]? =some b→a≠b
 | [],_=>⟨fun a h=>(by cases h),fun i a b h=>(by cases h)⟩
 | x::xs,p=>by
  obtain ⟨h1,h2⟩:=qf6 xs (some x)
  unfold ded
  by_cases c:p=some x
  ·rw[if_pos c,List.nil_append]
   exact ⟨fun a ha=>by rw[c]; exact h1 a ha,h2⟩
  ·rw[if_neg c]
   refine ⟨fun a ha=> ?_,fun i a b ha hb=> ?_⟩
   ·have:x=a:=by simpa using ha
    rw[←this]; exact c
   ·cases i with
    | zero=>
     have e:x=a:=by simpa using ha
     have hb:(ded (some x) xs)[0]? =some b:=by simpa using hb
     have:=h1 b hb
     rw[e] at this
     exact fun z=>this (by rw[z])
    | succ i=>exact h2 i a b (by simpa using ha) (by simpa using hb)
theorem qk1: ∀(suf pre:List Int),((suf.zipIdx pre.length).filter fun x=>decide (x.2=0)||decide ((pre++suf)[x.2 - 1]? ≠some x.1)).map (·.1)=ded pre.getLast? suf
 | [],pre=>rfl
 | x::suf,pre=>by
  have ih:=qk1 suf (pre++[x])
  rw[List.length_append,List.length_singleton,List.append_assoc] at ih
  rw[List.zipIdx_cons,List.filter_cons]
  unfold ded
  rw[show (pre++[x]).getLast? =some x by simp] at ih
  have key:(decide (pre.length=0)||decide ((pre++x::suf)[pre.length - 1]? ≠some x))=decide (pre.getLast? ≠some x):=by
   rcases List.eq_nil_or_concat pre with rfl | ⟨l,y,rfl⟩
   ·rfl
   ·simp
  rw[key]
  by_cases c:pre.getLast? =some x
  ·rw[decide_eq_false (by simpa using c),if_pos c]
   simp only[Bool.false_eq_true,if_false]
   exact ih
  ·rw[decide_eq_true (by simpa using c),if_neg c]
   simp only[if_true]
   rw[List.map_cons]
   exact congrArg (x:: ·) ih
theorem qkR (rs:List Row) {a b:Nat} (ha:0<a) (hb:0<b):qbI (b:Int) (qbI (a:Int) rs)=qbI ((a:Int)*(b:Int)) rs:=by
 rw[show (a:Int)*(b:Int)=((a*b:Nat):Int) by push_cast; rfl,qc9 _ hb,qc9 _ (Nat.mul_pos ha hb),qc9 rs ha]
 have hidx: ∀j,j<rs.length / a→a*j+(a - 1)<rs.length:=fun j hj=>by
  have h1:a*(j+1)≤a*(rs.length / a):=Nat.mul_le_mul_left a hj
  have h2:=Nat.mul_div_le rs.length a
  rw[Nat.mul_add] at h1
  omega
 have hl:((List.range (rs.length / a)).filterMap fun k=>rs[a*k+(a - 1)]?)=(List.range (rs.length / a)).map fun k=>rs.getD (a*k+(a - 1)) (0, "",0):=by
  rw[←List.filterMap_eq_map]
  refine AS.fm_congr fun k hk=> ?_
  have:=hidx k (List.mem_range.mp hk)
  rw[List.getElem?_eq_getElem this]
  show _=some (rs.getD _ _)
  rw[List.getD_eq_getElem?_getD,List.getElem?_eq_getElem this]
  rfl
 rw[hl,List.length_map,List.length_range,Nat.div_div_eq_div_mul]
 refine AS.fm_congr fun k hk=> ?_
 have hk:=List.mem_range.mp hk
 rw[←Nat.div_div_eq_div_mul] at hk
 have hj:b*k+(b - 1)<rs.length / a:=by
  have h1:b*(k+1)≤b*(rs.length / a / b):=Nat.mul_le_mul_left b hk
  have h2:=Nat.mul_div_le (rs.length / a) b
  rw[Nat.mul_add] at h1
  omega
 rw[List.getElem?_map,List.getElem?_range hj]
 show some (rs.getD (a*(b*k+(b - 1))+(a - 1)) (0, "",0))=_
 have e:a*(b*k+(b - 1))+(a - 1)=a*b*k+(a*b - 1):=by
  have h3:a*(b - 1)+a=a*b:=by
   rw[←Nat.mul_succ]; congr 1; omega
  have:0<a*b:=Nat.mul_pos ha hb
  rw[Nat.mul_add,←Nat.mul_assoc]
  omega
 rw[e]
 have hi:=hidx _ hj
 rw[e] at hi
 rw[List.getElem?_eq_getElem hi,List.getD_eq_getElem?_getD,List.getElem?_eq_getElem hi]
 rfl
theorem qeG (n:Int): ∀rs:List Row,(qcY n rs).length+(qbM (n+1) rs).length=rs.length
 | []=>rfl
 | r::rs=>by
  have ih:=qeG n rs
  unfold qcY qbM at ih⊢
  rw[List.filter_cons,List.filter_cons,List.length_cons]
  by_cases c:n<r.2.2
  ·rw[decide_eq_true c,decide_eq_false (by omega)]
   simp only[if_true,Bool.false_eq_true,if_false,List.length_cons]
   omega
  ·rw[decide_eq_false c,decide_eq_true (by omega)]
   simp only[if_true,Bool.false_eq_true,if_false,List.length_cons]
   omega
theorem qjO (n:Int) (rs:List Row):qcs (0 - n) (qcs n rs)=rs:=by
 unfold qcs
 rw[List.map_map]
 conv=>rhs; rw[←List.map_id rs]
 refine List.map_congr_left fun r _=> ?_
 refine Prod.ext rfl (Prod.ext rfl ?_)
 show r.2.2+n+(0 - n)=r.2.2
 omega
end K12
end
section
namespace K12
open PySem L2 PL SetL SR
theorem qby {ns:List Int} (hn:ns.length≤63) {k many:Int} (h0:0≤k) (h1:k<1000000) (hm:0<many): ∃v,0≤v∧v<many∧qcP [.scr ns,.int k,.int many]= .ok (.int v):=
 ⟨qiu ns k many,ql8 hm,ql9 hm,by
  show (if (0≤k∧k<1000000)∧0<many∧ns.length≤63 then Rs.ok (T.int (qiu ns k many)) else Rs.no)=_
  rw[if_pos ⟨⟨h0,h1⟩,hm,hn⟩]⟩
theorem qs5 {ns:List Int} (hn:ns.length≤63) {k:Int} (h0:0≤k) (h1:k<900000): ∃x,qei x∧qna [.scr ns,.int k]= .ok (.str x):=by
 obtain ⟨v,a1,a2,e1⟩:=qby hn (k:=k) (many:=16) h0 (by lia) (by decide)
 obtain ⟨i,b1,b2,e2⟩:=qby hn (k:=k+1) (many:=26) (by lia) (by lia) (by decide)
 obtain ⟨u,c1,c2,e3⟩:=qby hn (k:=k+2) (many:=2) (by lia) (by lia) (by decide)
 obtain ⟨j,d1,d2,e4⟩:=qby hn (k:=k+3) (many:=26) (by lia) (by lia) (by decide)
 have g1:=qfN b1 b2
 have g2:=qfN d1 d2
 by_cases c:0<v
 ·have m0:0≤v % 3:=Int.emod_nonneg _ (by decide)
  have m1:v % 3<3:=Int.emod_lt_of_pos _ (by decide)
  have g: ∃x,qei x∧gIx (.lst [.str "a",.str "b",.str "ab"]) (.int (v % 3))= .ok (.str x):=by
   generalize v % 3=m at m0 m1
   have:m=0∨m=1∨m=2:=by lia
   rcases this with rfl | rfl | rfl
   ·exact ⟨_,qkp.1,rfl⟩
   ·exact ⟨_,qkp.2.1,rfl⟩
   ·exact ⟨_,qkp.2.2,rfl⟩
  obtain ⟨x,hx,ex⟩:=g
  refine ⟨x,hx,?_⟩
  have p3:(0:Int)<3:=by decide
  have l3:(3:Nat)≤1000:=by decide
  unfold qna qrn
  simp only[fnT,List.length_cons,List.length_nil,Nat.reduceAdd,qaK,qbz,dC,List.map_cons,List.map_nil,Nat.reduceSub,List.replicate,List.cons_append,List.nil_append,List.set_cons_succ,List.set_cons_zero,qad,qdf,qas,qab,dV,qan,dIf,dTB,dB,qbo,dFz,qg7,l3,if_true,qay,List.getElem?_cons_zero,List.getElem?_cons_succ,e1,qmz,decide_eq_true c,qhU,p3,ex,outT]
 ·have g1':gIx (.str "abcdefghijklmnopqrstuvwxyz") (.int i)=_:=g1
  have g2':gIx (.str "abcdefghijklmnopqrstuvwxyz") (.int j)=_:=g2
  by_cases c':u=0
  ·refine ⟨_,qqy b1 b2,?_⟩
   subst c'
   unfold qna qrn
   simp only[fnT,List.length_cons,List.length_nil,Nat.reduceAdd,qaK,qbz,dC,List.map_cons,List.map_nil,Nat.reduceSub,List.replicate,List.cons_append,List.nil_append,List.set_cons_succ,List.set_cons_zero,qad,qdf,qas,qab,dV,qan,dIf,dTB,dB,qbo,dFz,qg7,Nat.reduceLeDiff,if_true,qay,List.getElem?_cons_zero,List.getElem?_cons_succ,e1,qmz,decide_eq_false c,qhU,Bool.false_eq_true,if_false,qc4,e2,g1',e3,qiI,beq_self_eq_true,outT]
  ·refine ⟨_,qqx b1 b2 d1 d2,?_⟩
   have n:(u==0)=false:=by simpa using c'
   have ga:qbp (.str ⟨#[97+i.toNat]⟩) (.str ⟨#[97+j.toNat]⟩)= .ok (.str ((⟨#[97+i.toNat]⟩:Str)++⟨#[97+j.toNat]⟩)):=rfl
   unfold qna qrn
   simp only[fnT,List.length_cons,List.length_nil,Nat.reduceAdd,qaK,qbz,dC,List.map_cons,List.map_nil,Nat.reduceSub,List.replicate,List.cons_append,List.nil_append,List.set_cons_succ,List.set_cons_zero,qad,qdf,qas,qab,dV,qan,dIf,dTB,dB,qbo,dFz,qg7,Nat.reduceLeDiff,if_true,qay,List.getElem?_cons_zero,List.getElem?_cons_succ,e1,qmz,decide_eq_false c,qhU,Bool.false_eq_true,if_false,qc4,e2,g1',e3,qiI,n,e4,g2',ga,outT]
theorem qmI {ns:List Int} (hn:ns.length≤63) {k:Int} (h0:0≤k) (h1:k<900000): ∃v, -99≤v∧v≤99∧qnW [.scr ns,.int k,.int 99]= .ok (.int v):=by
 obtain ⟨v,a1,a2,e1⟩:=qby hn (k:=k) (many:=8) h0 (by lia) (by decide)
 obtain ⟨i,b1,b2,e2⟩:=qby hn (k:=k+1) (many:=2*99+1) (by lia) (by lia) (by decide)
 obtain ⟨u,c1,c2,e3⟩:=qby hn (k:=k+1) (many:=9) (by lia) (by lia) (by decide)
 by_cases c:v=0
 ·subst c
  refine ⟨i - 99,by lia,by lia,?_⟩
  have m:((-1000000:Int)≤2∧(2:Int)≤1000000)∨((-1000000:Int)≤99∧(99:Int)≤1000000):=.inl (by decide)
  unfold qnW qs8
  simp only[fnT,List.length_cons,List.length_nil,Nat.reduceAdd,qaK,dIf,dTB,dB,qas,qab,dV,List.map_cons,List.map_nil,Nat.reduceSub,List.replicate,List.append_nil,List.getElem?_cons_zero,List.getElem?_cons_succ,dC,qan,qad,e1,qiI,beq_self_eq_true,qbo,qc4,qhT,m,if_true,e2,qkI,qay,qdf,outT]
 ·have n:(v==0)=false:=by simpa using c
  refine ⟨u - 4,by lia,by lia,?_⟩
  unfold qnW qs8
  simp only[fnT,List.length_cons,List.length_nil,Nat.reduceAdd,qaK,dIf,dTB,dB,qas,qab,dV,List.map_cons,List.map_nil,Nat.reduceSub,List.replicate,List.append_nil,List.getElem?_cons_zero,List.getElem?_cons_succ,dC,qan,qad,e1,qiI,n,qbo,qc4,qhT,qay,Bool.false_eq_true,if_false,qdf,e3,qkI,outT,if_true]
theorem qqP {ns:List Int} (hn:ns.length≤63) {k most:Int} (h0:0≤k) (h1:k<10000) (hm:0≤most) (hm2:most≤20): ∃rs:List Row,Log rs∧(rs.length:Int)≤most∧qpw [.scr ns,.int k,.int most]= .ok (qam rs):=by
 obtain ⟨v,a1,a2,e1⟩:=qby hn (k:=k) (many:=9) h0 (by lia) (by decide)
 obtain ⟨i,b1,b2,e2⟩:=qby hn (k:=k+1) (many:=4) (by lia) (by lia) (by decide)
 obtain ⟨n,c1,c2,e3⟩:=qby hn (k:=k+2) (many:=most+1) (by lia) (by lia) (by lia)
 have g: ∃far,0<far∧far≤14∧gIx (.lst [.int 1,.int 3,.int 6,.int 14]) (.int i)= .ok (.int far):=by
  have:i=0∨i=1∨i=2∨i=3:=by lia
  rcases this with rfl | rfl | rfl | rfl
  ·exact ⟨1,by decide,by decide,rfl⟩
  ·exact ⟨3,by decide,by decide,rfl⟩
  ·exact ⟨6,by decide,by decide,rfl⟩
  ·exact ⟨14,by decide,by decide,rfl⟩
 obtain ⟨far,f1,f2,e4⟩:=g
 have l4:(4:Nat)≤1000:=by decide
 have l0:(0:Nat)≤1000:=by decide
 have hr:qjE [.int n]= .ok ((List.range n.toNat).map fun j=>T.int (j:Nat)):=by
  show (if n≤1000000∧ -1000000≤n then _ else _)=_
  rw[if_pos ⟨by lia,by lia⟩]
 obtain ⟨ρ',e5,rs,m,s6,s7,er,ok,lg,ln,le,m0,m1⟩:=qfh (dg:=gN 6) (f:=fun j:Nat=>T.int (j:Nat))
  (db:=qaK (qbz 7 (dB qbp (dB qbp (dV 1) (dC (T.int 10))) (dB qdD (dC (T.int 8)) (dV 6)))) (qaK (qbz 4 (dB2 qpx (dC (T.int 99)) (dB qbp (dV 4) (qas qcP (qab (dV 0) (qab (dV 7) (qab (dV 5) qan)))))))
   (qfq 3 (qaJ (qab (dV 4) (qab (qas qna (qab (dV 0) (qab (dB qbp (dV 7) (dC (T.int 1))) qan))) (qab (qas qnW (qab (dV 0) (qab (dB qbp (dV 7) (dC (T.int 5))) (qab (dC (T.int 99)) qan)))) qan)))))))
  (fun dn ρ=> ∃(rs:List Row) (m:Int) (s6 s7:Sl),ρ=[.fz (.scr ns),.fz (.int k),.fz (.int most),.ow (rs.map qaq),.fz (.int m),.fz (.int far),s6,s7]∧(∀r∈rs,qlZ r)∧qeA rs=true∧rs.length=dn.length∧(∀r∈rs,r.1≤m)∧0≤m∧m≤99)
  (List.range n.toNat) (List.range n.toNat) [] [.fz (.scr ns),.fz (.int k),.fz (.int most),.ow [],.fz (.int v),.fz (.int far),.no,.no] rfl
  (fun dn j qde ρ hw ⟨rs,m,s6,s7,e,ok,lg,ln,le,m0,m1⟩=>by
   subst e
   have hl:dn.length+(qde.length+1)=n.toNat:=by
    have:=congrArg List.length hw
    simpa using this
   have hj:j<n.toNat:=by
    have:j∈List.range n.toNat:=by rw[←hw]; simp
    exact List.mem_range.mp this
   obtain ⟨w,w1,w2,ew⟩:=qby hn (k:=k+10+8*(j:Nat)) (many:=far) (by lia) (by lia) f1
   obtain ⟨x,hx,ex⟩:=qs5 hn (k:=k+10+8*(j:Nat)+1) (by lia) (by lia)
   obtain ⟨u,u1,u2,eu⟩:=qmI hn (k:=k+10+8*(j:Nat)+5) (by lia) (by lia)
   have hm':((-1000000:Int)≤8∧(8:Int)≤1000000)∨((-1000000:Int)≤(j:Nat)∧((j:Nat):Int)≤1000000):=.inl (by decide)
   have mm: ∃m',(if m+w<99 then m+w else 99)=m'∧m≤m'∧m'≤99:=by
    by_cases c:m+w<99
    ·exact ⟨m+w,by rw[if_pos c],by lia,by lia⟩
    ·exact ⟨99,by rw[if_neg c],by lia,by lia⟩
   obtain ⟨m',em,le1,le2⟩:=mm
   have l3:(3:Nat)≤1000:=by decide
   have lb:rs.length≤999:=by lia
   refine ⟨_,[.fz (.scr ns),.fz (.int k),.fz (.int most),.ow ((rs++[(m',x,u)]).map qaq),.fz (.int m'),.fz (.int far),.fz (.int (j:Nat)),.fz (.int (k+10+8*(j:Nat)))],rfl,.inl ?_,rs++[(m',x,u)],m',_,_,rfl,?_,?_,by simp[ln],?_,by lia,le2⟩
   ·have er:(rs++[(m',x,u)]).map qaq=rs.map qaq++[.tup [.int m',.str x,.int u]]:=by rw[List.map_append]; rfl
    rw[er]
    simp only[qaK,qbz,dB,dV,List.set_cons_succ,List.set_cons_zero,List.getElem?_cons_succ,List.getElem?_cons_zero,dC,qad,qc4,qhT,hm',if_true,qdf,dB2,qas,qab,qan,qfq,qnn,qaJ,qdB,List.length_cons,List.length_nil,Nat.reduceAdd,Nat.reduceLeDiff,ew,qnv,em,ex,eu,l3,List.length_map,lb]
   ·intro r hr'
    rcases List.mem_append.mp hr' with hr' | hr'
    ·exact ok r hr'
    ·rw[List.mem_singleton.mp hr']
     exact ⟨⟨by show 0≤m'; lia,le2⟩,hx,u1,u2⟩
   ·refine qiF lg fun q hq=> ?_
    have:=le q hq
    show q.1≤m'
    lia
   ·intro r hr'
    rcases List.mem_append.mp hr' with hr' | hr'
    ·have:=le r hr'; lia
    ·rw[List.mem_singleton.mp hr']; exact Int.le_refl _) ⟨[],v,.no,.no,rfl,(fun _ h=>by cases h),rfl,rfl,(fun _ h=>by cases h),a1,by lia⟩
 subst er
 refine ⟨rs,⟨ok,lg⟩,by rw[ln]; simp; lia,?_⟩
 unfold qpw qtF
 simp only[fnT,List.length_cons,List.length_nil,Nat.reduceAdd,qaK,qfo,qg7,qan,qad,l0,if_true,List.map_cons,List.map_nil,Nat.reduceSub,List.replicate,List.cons_append,List.nil_append,List.set_cons_succ,List.set_cons_zero,qdf,qbz,qas,qab,dV,dC,dB,dFz,l4,qlA,qro,qbo,frz,List.getElem?_cons_zero,List.getElem?_cons_succ,e1,qc4,e2,e4,e3,hr,e5,outT]
 rfl
end K12
end
section
namespace K12
open PySem L2 PL SetL
open AS (Stp qbx qi8 qbi qbI qex qdL qbX qcY qbM qcs no)
open SR (Ris)
abbrev R (a b c d e f g h i j k l m n o p q r:Sl):Ro:=[a,b,c,d,e,f,g,h,i,j,k,l,m,n,o,p,q,r]
theorem qm3:t_36=AS.t_36:=rfl
theorem qq6 {ask:List Stp} (ok: ∀st∈ask,st.ok) (h5:ask.length≤5) {rs:List Row} (hL:Log rs) (hl:rs.length<64):t_36 [qbx ask,qam rs]= .ok (qam (qi8 ask rs)):=by
 rw[qm3]; exact AS.asked_t ok h5 hL hl
theorem ok1 {st:Stp} (h:st.ok): ∀s∈[st],s.ok:=fun s hs=>by rw[List.mem_singleton.mp hs]; exact h
theorem ok2 {st su:Stp} (h:st.ok) (h':su.ok): ∀s∈[st,su],s.ok:=fun s hs=>by
 rcases List.mem_cons.mp hs with rfl | hs
 ·exact h
 ·rw[List.mem_singleton.mp hs]; exact h'
theorem qi2 (st:Stp) (h:st.ok) {rs:List Row} (hL:Log rs) (hl:rs.length<64):t_36 [qbx [st],qam rs]= .ok (qam (st.run rs)):=qq6 (ok1 h) (Nat.le_of_ble_eq_true rfl) hL hl
theorem qi1 (st su:Stp) (h:st.ok) (h':su.ok) {rs:List Row} (hL:Log rs) (hl:rs.length<64):t_36 [qbx [st,su],qam rs]= .ok (qam (su.run (st.run rs))):=qq6 (ok2 h h') (Nat.le_of_ble_eq_true rfl) hL hl
theorem qfx (xs:List Int):qlL (true,xs.map T.int)= .ok (.int xs.sum):=by
 have y:(xs.map T.int).all qkA=true:=by rw[List.all_map,List.all_eq_true]; intro _ _; rfl
 have z:(xs.map T.int).map qcx=xs:=by rw[List.map_map]; simp[Function.comp_def,qcx]
 unfold qlL
 rw[if_pos ⟨rfl,y⟩,z]
section
variable {ns:List Int} {rs:List Row} {s b:Int} {x0 x2 x3 x4 x5 x6 x7 x8 x9 xa xb xc xd xe xf xg xh:Sl}
theorem st3 (hL:Log rs) (hl:rs.length<64) (hs:1≤s∧s≤20):qbz 4 (qas t_36 (qab (qaJ (qab (qaJ (qab (dC (.str "window")) (qab (dV 2) (qan)))) (qan))) (qab (dV 1) (qan)))) (R x0 (.fz (qam rs)) (.fz (.int s)) x3 x4 x5 x6 x7 x8 x9 xa xb xc xd xe xf xg xh)=
  .ok (.nx (R x0 (.fz (qam rs)) (.fz (.int s)) x3 (.fz (qam (qbi s rs))) x5 x6 x7 x8 x9 xa xb xc xd xe xf xg xh)):=by
 show (t_36 [qbx [.window s],qam rs]>>=fun t=>Rs.ok (Out.nx (R x0 (.fz (qam rs)) (.fz (.int s)) x3 (.fz t) x5 x6 x7 x8 x9 xa xb xc xd xe xf xg xh)))=_
 rw[qi2 (.window s) hs hL hl]
 rfl
theorem st4 (hL:Log rs) (hl:rs.length<64) (hs:1≤s∧s≤5) (hb:1≤b∧b≤4) (h20:s*b≤20):dIf (dTB (dB gNe (qas t_36 (qab (qaJ (qab (qaJ (qab (dC (.str "window")) (qab (dV 2) (qan)))) (qab (qaJ (qab (dC (.str "window")) (qab (dB qdD (dV 2) (dV 3)) (qan)))) (qan)))) (qab (dV 1) (qan)))) (qas t_36 (qab (qaJ (qab (qaJ (qab (dC (.str "window")) (qab (dB qdD (dV 2) (dV 3)) (qan)))) (qan))) (qab (dV 1) (qan)))))) (qbo (dC (.bl false))) (qay)
   (R x0 (.fz (qam rs)) (.fz (.int s)) (.fz (.int b)) x4 x5 x6 x7 x8 x9 xa xb xc xd xe xf xg xh)= .ok (.nx (R x0 (.fz (qam rs)) (.fz (.int s)) (.fz (.int b)) x4 x5 x6 x7 x8 x9 xa xb xc xd xe xf xg xh)):=by
 have h1:1≤s*b:=by have:=Int.mul_le_mul hs.1 hb.1 (by omega) (by omega); omega
 have m:dB qdD (dV 2) (dV 3) (R x0 (.fz (qam rs)) (.fz (.int s)) (.fz (.int b)) x4 x5 x6 x7 x8 x9 xa xb xc xd xe xf xg xh)= .ok (.int (s*b)):=by
  show (if (-1000000≤s∧s≤1000000)∨(-1000000≤b∧b≤1000000) then Rs.ok (T.int (s*b)) else .no)=_
  rw[if_pos (.inl ⟨by omega,by omega⟩)]
 have a1:t_36 [qbx [.window s,.window (s*b)],qam rs]= .ok (qam (qbi (s*b) (qbi s rs))):=qi1 (.window s) (.window (s*b)) ⟨by omega,by omega⟩ ⟨h1,h20⟩ hL hl
 have a2:t_36 [qbx [.window (s*b)],qam rs]= .ok (qam (qbi (s*b) rs)):=qi2 (.window (s*b)) ⟨h1,h20⟩ hL hl
 rw[qnQ (by omega) (by omega)] at a1
 have l2:(2:Nat)≤1000:=by decide
 have l1:(1:Nat)≤1000:=by decide
 have n:=qfJ (qbi (s*b) rs)
 have q1:qas t_36 (qab (qaJ (qab (qaJ (qab (dC (.str "window")) (qab (dV 2) (qan)))) (qab (qaJ (qab (dC (.str "window")) (qab (dB qdD (dV 2) (dV 3)) (qan)))) (qan)))) (qab (dV 1) (qan))) (R x0 (.fz (qam rs)) (.fz (.int s)) (.fz (.int b)) x4 x5 x6 x7 x8 x9 xa xb xc xd xe xf xg xh)= .ok (qam (qbi (s*b) rs)):=by
  rw[←a1]
  simp only[qas,qab,qaJ,dC,qan,m,qad,List.length_cons,List.length_nil,Nat.reduceAdd,l1,l2,if_true]
  rfl
 have q2:qas t_36 (qab (qaJ (qab (qaJ (qab (dC (.str "window")) (qab (dB qdD (dV 2) (dV 3)) (qan)))) (qan))) (qab (dV 1) (qan))) (R x0 (.fz (qam rs)) (.fz (.int s)) (.fz (.int b)) x4 x5 x6 x7 x8 x9 xa xb xc xd xe xf xg xh)= .ok (qam (qbi (s*b) rs)):=by
  rw[←a2]
  simp only[qas,qab,qaJ,dC,qan,m,qad,List.length_cons,List.length_nil,Nat.reduceAdd,l1,l2,if_true]
  rfl
 unfold dIf dTB dB at*
 simp only[q1,q2,qad,n,Bool.false_eq_true,if_false]
 rfl
theorem st5 (rs':List Row) (h:(rs'.map fun r=>r.2.2).sum=(rs.map fun r=>r.2.2).sum):dIf (dTB (dB gNe (dCQ qlL (dQF (qaB 1 [] (dI (dV 4)) (gN 0) (qb8) (dB gIx (dV 0) (dC (.int 2)))))) (dCQ qlL (dQF (qaB 1 [] (dI (dV 1)) (gN 0) (qb8) (dB gIx (dV 0) (dC (.int 2)))))))) (qbo (dC (.bl false))) (qay)
   (R x0 (.fz (qam rs)) x2 x3 (.fz (qam rs')) x5 x6 x7 x8 x9 xa xb xc xd xe xf xg xh)= .ok (.nx (R x0 (.fz (qam rs)) x2 x3 (.fz (qam rs')) x5 x6 x7 x8 x9 xa xb xc xd xe xf xg xh)):=by
 have c1:qaB 1 [] (dI (dV 4)) (gN 0) (qb8) (dB gIx (dV 0) (dC (.int 2))) (R x0 (.fz (qam rs)) x2 x3 (.fz (qam rs')) x5 x6 x7 x8 x9 xa xb xc xd xe xf xg xh)= .ok ((rs'.filter fun _=>true).map fun r=>T.int r.2.2):=qbS (f:=qaq) rfl fun r hr=>⟨rfl,fun _=>rfl⟩
 have c2:qaB 1 [] (dI (dV 1)) (gN 0) (qb8) (dB gIx (dV 0) (dC (.int 2))) (R x0 (.fz (qam rs)) x2 x3 (.fz (qam rs')) x5 x6 x7 x8 x9 xa xb xc xd xe xf xg xh)= .ok ((rs.filter fun _=>true).map fun r=>T.int r.2.2):=qbS (f:=qaq) rfl fun r hr=>⟨rfl,fun _=>rfl⟩
 have e: ∀l:List Row,(l.map fun r=>T.int r.2.2)=(l.map fun r=>r.2.2).map T.int:=fun l=>by rw[List.map_map]; rfl
 rw[qaW,e] at c1 c2
 have s1:=qfx (rs'.map fun r=>r.2.2)
 have s2:=qfx (rs.map fun r=>r.2.2)
 rw[h] at s1
 simp only[dIf,dTB,dB,dCQ,dQF,c1,c2,qad,s1,s2,qoL,beq_self_eq_true,Bool.not_true,Bool.false_eq_true,if_false,qay]
theorem inK (neg:Bool) (k:Str) (ks:List Str):qpz neg (.str k) (true,ks.map T.str)= .ok (.bl (if neg then !decide (k∈ks) else decide (k∈ks))):=by
 unfold qpz
 have hok:(ks.map T.str).all (okT 7)=true:=by rw[List.all_map,List.all_eq_true]; intro _ _; rfl
 rw[if_pos ⟨rfl,hok⟩]
 have e:((ks.map T.str).any fun u=>PL.eqT u (.str k))=decide (k∈ks):=by
  rw[List.any_map,Bool.eq_iff_iff,List.any_eq_true,decide_eq_true_eq]
  constructor
  ·rintro ⟨x,hx,e⟩
   have:x=k:=by simpa [PL.eqT] using e
   rw[←this]; exact hx
  ·intro z
   exact ⟨k,z,by simp[PL.eqT]⟩
 rw[e]
theorem qq3 (neg:Bool) (ρ:Ro) (h:ρ[1]? =some (.fz (qam rs))):qaB 2 [1] (qja (qab (dV 1) (qan))) (gT 2 (gsC (gN 0) (gsC (gN 1) (gsN)))) (dTB (dIn neg (dB gIx (dV 1) (dC (.int 1))) (dQF (qaB 1 [] (dI (dFz (qgv (dQV 2) (dON) (dOS (dV 0))))) (gN 0) (qb8) (dB gIx (dV 0) (dC (.int 1))))))) (dV 1) ρ= .ok ((if neg then qcq [] rs else qcM [] rs).map qaq):=by
 have hi:qja (qab (dV 1) (qan)) ρ= .ok (rs.zipIdx.map fun x=>T.tup [.int (x.2:Nat),qaq x.1]):=by
  have e:qab (dV 1) qan ρ= .ok [qam rs]:=by unfold qab dV; rw[h]; rfl
  unfold qja
  rw[e]
  show Rs.ok (((rs.map qaq).zipIdx).map fun p=>T.tup [.int p.2,p.1])=_
  rw[List.zipIdx_map,List.map_map]
  rfl
 have:=qk7 (a:=fun x:Row×Nat=>T.int (x.2:Nat)) (b:=fun x=>qaq x.1) (h:=fun x=>qaq x.1) (p:=fun x=>if neg then !decide (x.1.2.1∈(rs.take x.2).map fun r=>r.2.1) else decide (x.1.2.1∈(rs.take x.2).map fun r=>r.2.1)) (fr:=[1]) (ρ:=ρ) (de:=dV 1)
  (dt:=dTB (dIn neg (dB gIx (dV 1) (dC (.int 1))) (dQF (qaB 1 [] (dI (dFz (qgv (dQV 2) (dON) (dOS (dV 0))))) (gN 0) (qb8) (dB gIx (dV 0) (dC (.int 1))))))) hi fun x hx=>⟨?_,fun _=>rfl⟩
 ·have z:=qkJ neg rs []
  rw[List.length_nil,List.nil_append,List.map_nil] at z
  have z':=congrArg (List.map qaq) z
  rw[List.map_map] at z'
  rw[this]
  exact congrArg Rs.ok z'
 ·show dTB _ (.fz (.int (x.2:Nat))::.fz (qaq x.1)::[qge ρ[1]?])=_
  rw[h]
  have c1:qaB 1 [] (dI (dFz (qgv (dQV 2) (dON) (dOS (dV 0))))) (gN 0) (qb8) (dB gIx (dV 0) (dC (.int 1))) [.fz (.int (x.2:Nat)),.fz (qaq x.1),.fz (qam rs)]= .ok (((rs.take x.2).filter fun _=>true).map fun r=>T.str r.2.1):=by
   refine qbS (f:=qaq) ?_ fun r hr=>⟨rfl,fun _=>rfl⟩
   show Rs.ok (qlB (rs.map qaq) none (some ((x.2:Nat):Int)))=_
   rw[AS.cut_take (α:=Unit),List.map_take]
  rw[qaW,show ((rs.take x.2).map fun r=>T.str r.2.1)=((rs.take x.2).map fun r=>r.2.1).map T.str by rw[List.map_map]; rfl] at c1
  show ((Rs.ok (T.str x.1.2.1)>>=fun t=>(qaB 1 [] (dI (dFz (qgv (dQV 2) (dON) (dOS (dV 0))))) (gN 0) (qb8) (dB gIx (dV 0) (dC (.int 1))) [.fz (.int (x.2:Nat)),.fz (qaq x.1),.fz (qam rs)]>>=fun ts=>Rs.ok (true,ts))>>=fun q=>qpz neg t q)>>=fun t=>match t with | .bl b=>Rs.ok b | _=>.no)=_
  rw[c1,qad,qad,qad,inK]
  rfl
theorem qtu (neg:Bool) (i:Nat) (ρ:Ro) (h:ρ[1]? =some (.fz (qam rs))):qbz i (dFz (qaB 2 [1] (qja (qab (dV 1) (qan))) (gT 2 (gsC (gN 0) (gsC (gN 1) (gsN)))) (dTB (dIn neg (dB gIx (dV 1) (dC (.int 1))) (dQF (qaB 1 [] (dI (dFz (qgv (dQV 2) (dON) (dOS (dV 0))))) (gN 0) (qb8) (dB gIx (dV 0) (dC (.int 1))))))) (dV 1))) ρ= .ok (.nx (ρ.set i (.fz (qam (if neg then qcq [] rs else qcM [] rs))))):=by
 show ((_>>=fun ts=>Rs.ok (T.lst ts))>>=fun t=>Rs.ok (Out.nx (ρ.set i (.fz t))))=_
 rw[qq3 neg ρ h]
 rfl
end
end K12
end
section
namespace K12
open PySem L2 PL SetL
open AS (Stp qbx qi8 qbi qbI qex qdL qbX qcY qbM qcs no)
open SR (Ris)
def kvH (rs:List Row):List (Key×T):=(qcq [] rs).map fun r=>((.inr r.2.1:Key),T.int r.2.2)
theorem ql3 {kvs:List (Key×T)} {k:Key} {t:T} (h: ∀p∈kvs,p.1≠k):qdl kvs k t=kvs++[(k,t)]:=by
 unfold qdl
 rw[if_neg]
 rw[List.any_eq_true]
 rintro ⟨p,hp,e⟩
 exact h p hp (of_decide_eq_true e)
theorem qnI: ∀(ps acc:List (Key×T)),((acc++ps).map (·.1)).Nodup→ps.foldl (fun d p=>qdl d p.1 p.2) acc=acc++ps
 | [],acc,_=>by simp
 | p::ps,acc,h=>by
  have hn: ∀q∈acc,q.1≠p.1:=fun q hq e=>by
   rw[List.map_append,List.nodup_append] at h
   exact h.2.2 q.1 (List.mem_map.mpr ⟨q,hq,rfl⟩) p.1 (by simp) e
  rw[List.foldl_cons,ql3 hn,qnI ps (acc++[(p.1,p.2)]) (by simpa using h)]
  simp
theorem qfO (rs:List Row):((kvH rs).map (·.1)).Nodup:=by
 have h:=(qkK rs []).2.1
 unfold kvH List.Nodup at*
 rw[List.map_map,List.pairwise_map]
 rw[List.pairwise_map] at h
 exact h.imp fun h z=>h (by simpa using z)
theorem qoO (rs:List Row):(qcq [] rs).length≤rs.length:=by
 have: ∀(rs:List Row) (seen:List Str),(qcq seen rs).length≤rs.length:=by
  intro rs
  induction rs with
  | nil=>intro _; exact Nat.le_refl _
  | cons r rs ih=>
   intro seen
   unfold qcq
   have:=ih (seen++[r.2.1])
   rw[List.length_append,List.length_cons]
   split
   ·simp; omega
   ·simp; omega
 exact this rs []
theorem qoT {rs:List Row} (h:rs.length<64):qf5 (true,(qcq [] rs).map fun r=>T.tup [.str r.2.1,.int r.2.2])= .ok (kvH rs):=by
 unfold qf5
 have hl:=qoO rs
 have e1:((qcq [] rs).map fun r=>T.tup [.str r.2.1,.int r.2.2]).all (fun t=>(qcX t).isSome)=true:=by
  rw[List.all_map,List.all_eq_true]; intro _ _; rfl
 have e2:((qcq [] rs).map fun r=>T.tup [.str r.2.1,.int r.2.2]).filterMap qcX=kvH rs:=by
  rw[List.filterMap_map]
  unfold kvH
  rw[←List.filterMap_eq_map]
  rfl
 rw[if_pos ⟨⟨rfl,by rw[List.length_map]; omega⟩,e1⟩,e2]
 unfold dOf
 rw[qnI _ [] (by simpa using qfO rs)]
 rfl
def hdR (rs:List Row) (k:Str):Int:=((qeZ (kvH rs) (.inr k)).map qcx).getD 0
theorem qiJ {α:Type} {kvs:List (Key×α)} (nd:(kvs.map (·.1)).Nodup) {p:Key×α} (hp:p∈kvs):kvs.find? (fun kv=>decide (kv.1=p.1))=some p:=by
 induction kvs with
 | nil=>cases hp
 | cons q kvs ih=>
  rw[List.map_cons,List.nodup_cons] at nd
  rw[List.find?_cons]
  rcases List.mem_cons.mp hp with rfl | hp
  ·simp
  ·have: ¬q.1=p.1:=fun z=>nd.1 (by rw[z]; exact List.mem_map.mpr ⟨p,hp,rfl⟩)
   rw[decide_eq_false this]
   exact ih nd.2 hp
theorem qhl {rs:List Row} {r:Row} (h:r∈qcq [] rs):qeZ (kvH rs) (.inr r.2.1)=some (.int r.2.2):=by
 have hm:((.inr r.2.1:Key),T.int r.2.2)∈kvH rs:=List.mem_map.mpr ⟨r,h,rfl⟩
 unfold qeZ
 rw[qiJ (qfO rs) hm]
 rfl
theorem qkd {rs:List Row} {r:Row} (h:r∈rs):qoD (kvH rs) (.str r.2.1)= .ok (.int (hdR rs r.2.1)):=by
 rcases qhV rs [] r h with z | ⟨q,hq,e⟩
 ·cases z
 ·show (match qeZ (kvH rs) (.inr r.2.1) with | some t=>Rs.ok t | none=>.no)=_
  unfold hdR
  rw[←e,qhl hq]
  rfl
theorem qkk (rs:List Row):qfl (.dcf (kvH rs))= .ok ((qcq [] rs).map fun r=>T.str r.2.1):=by
 show Rs.ok ((kvH rs).map fun p=>qgN p.1)=_
 unfold kvH
 rw[List.map_map]
 rfl
section
variable {ns:List Int} {rs:List Row} {s b:Int} {x0 x2 x3 x4 x5 x6 x7 x8 x9 xa xb xc xd xe xf xg xh:Sl}
theorem st8 (hL:Log rs) (hl:rs.length<64):dIf (dTB (dB gNe (qas t_36 (qab (qaJ (qab (qaJ (qab (dC (.str "running")) (qan))) (qab (qaJ (qab (dC (.str "change")) (qan))) (qan)))) (qab (dV 1) (qan)))) (dV 6))) (qbo (dC (.bl false))) (qay)
   (R x0 (.fz (qam rs)) x2 x3 x4 x5 (.fz (qam (qcM [] rs))) x7 x8 x9 xa xb xc xd xe xf xg xh)= .ok (.nx (R x0 (.fz (qam rs)) x2 x3 x4 x5 (.fz (qam (qcM [] rs))) x7 x8 x9 xa xb xc xd xe xf xg xh)):=by
 have a1:t_36 [qbx [.running,.change],qam rs]= .ok (qam (qdL no (qex no rs))):=qi1 .running .change trivial trivial hL hl
 rw[qlb rs no no [] (fun k=>rfl) (fun _=>rfl)] at a1
 show (((t_36 [qbx [.running,.change],qam rs]>>=fun x=>gNe x (qam (qcM [] rs)))>>=fun t=>match t with | .bl b=>Rs.ok b | _=>.no)>>=fun c=>if c=true then _ else qay (R x0 (.fz (qam rs)) x2 x3 x4 x5 (.fz (qam (qcM [] rs))) x7 x8 x9 xa xb xc xd xe xf xg xh))=_
 rw[a1,qad,qfJ]
 rfl
theorem st9 (hl:rs.length<64):qbz 7 (qrp (qrq qf5 (dQF (qaB 1 [] (dI (dV 5)) (gN 0) (qb8) (qaJ (qab (dB gIx (dV 0) (dC (.int 1))) (qab (dB gIx (dV 0) (dC (.int 2))) (qan)))))))) (R x0 (.fz (qam rs)) x2 x3 x4 (.fz (qam (qcq [] rs))) x6 x7 x8 x9 xa xb xc xd xe xf xg xh)=
  .ok (.nx (R x0 (.fz (qam rs)) x2 x3 x4 (.fz (qam (qcq [] rs))) x6 (.fz (.dcf (kvH rs))) x8 x9 xa xb xc xd xe xf xg xh)):=by
 have c1:qaB 1 [] (dI (dV 5)) (gN 0) (qb8) (qaJ (qab (dB gIx (dV 0) (dC (.int 1))) (qab (dB gIx (dV 0) (dC (.int 2))) (qan)))) (R x0 (.fz (qam rs)) x2 x3 x4 (.fz (qam (qcq [] rs))) x6 x7 x8 x9 xa xb xc xd xe xf xg xh)= .ok (((qcq [] rs).filter fun _=>true).map fun r=>T.tup [.str r.2.1,.int r.2.2]):=qbS (f:=qaq) rfl fun r hr=>⟨rfl,fun _=>rfl⟩
 rw[qaW] at c1
 simp only[qbz,qrp,qrq,dQF,c1,qad,qoT hl]
 rfl
theorem qt7 (hL:Log rs) (hl:rs.length<64):dIf (dTB (dB gNe (qas t_36 (qab (qaJ (qab (qaJ (qab (dC (.str "change")) (qan))) (qab (qaJ (qab (dC (.str "running")) (qan))) (qan)))) (qab (dV 1) (qan)))) (dFz (qaB 1 [7] (dI (dV 6)) (gN 0) (qb8) (qaJ (qab (dB gIx (dV 0) (dC (.int 0))) (qab (dB gIx (dV 0) (dC (.int 1))) (qab (dB gSub (dB gIx (dV 0) (dC (.int 2))) (qg8 (dV 1) (dB gIx (dV 0) (dC (.int 1))))) (qan))))))))) (qbo (dC (.bl false))) (qay)
   (R x0 (.fz (qam rs)) x2 x3 x4 x5 (.fz (qam (qcM [] rs))) (.fz (.dcf (kvH rs))) x8 x9 xa xb xc xd xe xf xg xh)= .ok (.nx (R x0 (.fz (qam rs)) x2 x3 x4 x5 (.fz (qam (qcM [] rs))) (.fz (.dcf (kvH rs))) x8 x9 xa xb xc xd xe xf xg xh)):=by
 have a1:t_36 [qbx [.change,.running],qam rs]= .ok (qam (qex no (qdL no rs))):=qi1 .change .running trivial trivial hL hl
 rw[qgB (H:=hdR rs) rs no no [] (fun k=>rfl) (fun k x z=>by cases z) (fun k _=>rfl) (fun r hr=>by unfold hdR; rw[qhl hr]; rfl)] at a1
 have c1:qaB 1 [7] (dI (dV 6)) (gN 0) (qb8) (qaJ (qab (dB gIx (dV 0) (dC (.int 0))) (qab (dB gIx (dV 0) (dC (.int 1))) (qab (dB gSub (dB gIx (dV 0) (dC (.int 2))) (qg8 (dV 1) (dB gIx (dV 0) (dC (.int 1))))) (qan))))) (R x0 (.fz (qam rs)) x2 x3 x4 x5 (.fz (qam (qcM [] rs))) (.fz (.dcf (kvH rs))) x8 x9 xa xb xc xd xe xf xg xh)= .ok (((qcM [] rs).filter fun _=>true).map fun r=>qaq (r.1,r.2.1,r.2.2 - hdR rs r.2.1)):=by
  refine qbS (f:=qaq) rfl fun r hr=>⟨rfl,fun _=> ?_⟩
  have g:qg8 (dV 1) (dB gIx (dV 0) (dC (.int 1))) [.fz (qaq r),.fz (.dcf (kvH rs))]= .ok (.int (hdR rs r.2.1)):=qkd (qkg rs [] r hr)
  show (((Rs.ok (T.int r.1)>>=fun a=>(Rs.ok (T.str r.2.1)>>=fun b=>((Rs.ok (T.int r.2.2)>>=fun x=>qg8 (dV 1) (dB gIx (dV 0) (dC (.int 1))) [.fz (qaq r),.fz (.dcf (kvH rs))]>>=fun y=>gSub x y)>>=fun c=>Rs.ok []>>=fun z=>Rs.ok (c::z))>>=fun z=>Rs.ok (b::z))>>=fun z=>Rs.ok (a::z))>>=fun xs=>if xs.length≤1000 then Rs.ok (T.tup xs) else .no))=_
  rw[g]
  rfl
 rw[qaW,show ((qcM [] rs).map fun r=>qaq (r.1,r.2.1,r.2.2 - hdR rs r.2.1))=((qcM [] rs).map fun r=>(r.1,r.2.1,r.2.2 - hdR rs r.2.1)).map qaq by rw[List.map_map]; rfl] at c1
 show (((t_36 [qbx [.change,.running],qam rs]>>=fun x=>(qaB 1 [7] (dI (dV 6)) (gN 0) (qb8) (qaJ (qab (dB gIx (dV 0) (dC (.int 0))) (qab (dB gIx (dV 0) (dC (.int 1))) (qab (dB gSub (dB gIx (dV 0) (dC (.int 2))) (qg8 (dV 1) (dB gIx (dV 0) (dC (.int 1))))) (qan))))) (R x0 (.fz (qam rs)) x2 x3 x4 x5 (.fz (qam (qcM [] rs))) (.fz (.dcf (kvH rs))) x8 x9 xa xb xc xd xe xf xg xh)>>=fun ts=>Rs.ok (T.lst ts))>>=fun y=>gNe x y)>>=fun t=>match t with | .bl b=>Rs.ok b | _=>.no)>>=fun c=>if c=true then _ else qay (R x0 (.fz (qam rs)) x2 x3 x4 x5 (.fz (qam (qcM [] rs))) (.fz (.dcf (kvH rs))) x8 x9 xa xb xc xd xe xf xg xh))=_
 rw[a1,c1,qad,qad,qad]
 have n:=qfJ ((qcM [] rs).map fun r=>(r.1,r.2.1,r.2.2 - hdR rs r.2.1))
 unfold qam at n⊢
 rw[n]
 rfl
theorem qt6 (hL:Log rs) (hl:rs.length<64):qbz 8 (qas t_36 (qab (qaJ (qab (qaJ (qab (dC (.str "unlike")) (qan))) (qan))) (qab (dV 1) (qan)))) (R x0 (.fz (qam rs)) x2 x3 x4 x5 x6 x7 x8 x9 xa xb xc xd xe xf xg xh)=
  .ok (.nx (R x0 (.fz (qam rs)) x2 x3 x4 x5 x6 x7 (.fz (qam (qbX no rs))) x9 xa xb xc xd xe xf xg xh)):=by
 show (t_36 [qbx [.unlike],qam rs]>>=fun t=>Rs.ok (Out.nx (R x0 (.fz (qam rs)) x2 x3 x4 x5 x6 x7 (.fz t) x9 xa xb xc xd xe xf xg xh)))=_
 rw[qi2 .unlike trivial hL hl]
 rfl
end
end K12
end
section
namespace K12
open PySem L2 PL SetL
open AS (Stp qbx qi8 qbi qbI qex qdL qbX qcY qbM qcs no)
open SR (Ris)
abbrev qbu (xs:List Int):T:=.lst (xs.map T.int)
theorem qot (xs:List Int):okT 8 (qbu xs)=true:=by show (xs.map T.int).all (okT 7)=true; rw[List.all_map,List.all_eq_true]; intro _ _; rfl
theorem qku {xs:List Int} {i:Nat} {x:Int} (h:xs[i]? =some x):gIx (qbu xs) (.int (i:Nat))= .ok (.int x):=by
 show (match atI (xs.map T.int) ((i:Nat):Int) with | some t=>Rs.ok t | none=>.no)=_
 rw[show atI (xs.map T.int) ((i:Nat):Int)=some (T.int x) from qhb (by rw[List.getElem?_map,h]; rfl)]
theorem qeT {ρ:Ro} {i j:Nat} {l:List Row} {k:Str} (h:ρ[i]? =some (.fz (qam l))) (hk:ρ[j]? =some (.fz (.str k))):qaB 1 [j] (dI (dV i)) (gN 0) (dTB (dB gEq (dB gIx (dV 0) (dC (.int 1))) (dV 1))) (dB gIx (dV 0) (dC (.int 2))) ρ= .ok ((qaT l k).map T.int):=by
 have:=qbS (f:=qaq) (xs:=l) (di:=dI (dV i)) (ρ:=ρ) (fr:=[j]) (dt:=dTB (dB gEq (dB gIx (dV 0) (dC (.int 1))) (dV 1))) (de:=dB gIx (dV 0) (dC (.int 2))) (p:=fun r=>r.2.1==k) (h:=fun r=>T.int r.2.2) (by unfold dI dV; rw[h]; rfl) fun r hr=>⟨by
  show dTB _ [.fz (qaq r),qge ρ[j]?]=_
  rw[hk]
  rfl,fun _=>rfl⟩
 rw[this]
 unfold qaT
 rw[List.map_map]
 rfl
theorem qiQ {ρ:Ro} {i:Nat} {xs:List Int} (h:ρ[i]? =some (.fz (qbu xs))) (hl:xs.length≤1000) (ap: ∀(i:Nat) (a b:Int),xs[i]? =some a→xs[i+1]? =some b→a≠b):qaB 1 [i] (qpm (qab (dC (.int 1)) (qab (qdw (dV i)) (qan)))) (gN 0) (dTB (dB gEq (dB gIx (dV 1) (dV 0)) (dB gIx (dV 1) (dB gSub (dV 0) (dC (.int 1)))))) (dV 0) ρ= .ok []:=by
 have hi:qpm (qab (dC (.int 1)) (qab (qdw (dV i)) (qan))) ρ= .ok ((List.range (xs.length - 1)).map fun k=>T.int (1+(k:Nat))):=by
  have e:qab (dC (.int 1)) (qab (qdw (dV i)) (qan)) ρ= .ok [.int 1,.int ((xs.map T.int).length:Nat)]:=by unfold qab qdw dV dC; rw[h]; rfl
  unfold qpm
  rw[e,qad,List.length_map]
  show (if (((xs.length:Nat):Int)≤1000000∧ -1000000≤((xs.length:Nat):Int))∧(1:Int)≤1000000∧(-1000000:Int)≤1 then Rs.ok (PL.upTo 1 (xs.length:Nat)) else .no)=_
  rw[if_pos ⟨⟨by omega,by omega⟩,by decide,by decide⟩]
  unfold PL.upTo
  rw[show (((xs.length:Nat):Int) - 1).toNat=xs.length - 1 by omega]
 have:=qbS (f:=fun k:Nat=>T.int (1+(k:Nat))) (xs:=List.range (xs.length - 1)) (ρ:=ρ) (fr:=[i]) (dt:=dTB (dB gEq (dB gIx (dV 1) (dV 0)) (dB gIx (dV 1) (dB gSub (dV 0) (dC (.int 1)))))) (de:=dV 0) (p:=fun _=>false) (h:=fun k=>T.int (1+(k:Nat))) hi fun k hk=>⟨by
  have hk:=List.mem_range.mp hk
  show dTB _ [.fz (.int (1+(k:Nat))),qge ρ[i]?]=_
  rw[h]
  have e1:xs[k]? =some (xs[k]'(by omega)):=List.getElem?_eq_getElem _
  have e2:xs[k+1]? =some (xs[k+1]'(by omega)):=List.getElem?_eq_getElem _
  have g1:=qku e2
  have g2:=qku e1
  show (((gIx (qbu xs) (.int (1+(k:Nat))))>>=fun a=>(gIx (qbu xs) (.int (1+(k:Nat) - 1)))>>=fun b=>gEq a b)>>=fun t=>match t with | .bl b=>Rs.ok b | _=>.no)=_
  rw[show (1:Int)+(k:Nat) - 1=((k:Nat):Int) by omega,show (1:Int)+(k:Nat)=((k+1:Nat):Int) by push_cast; omega,g1,g2,qad,qad,qiI]
  have:=ap k _ _ e1 e2
  show Rs.ok (xs[k+1]==xs[k])=_
  rw[beq_eq_false_iff_ne.mpr (Ne.symm this)],fun z=>by cases z⟩
 rw[this]
 simp
theorem qmY {ρ:Ro} {i:Nat} {xs:List Int} (h:ρ[i]? =some (.fz (qbu xs))):qaB 2 [i] (qja (qab (dV i) (qan))) (gT 2 (gsC (gN 0) (gsC (gN 1) (gsN)))) (dOr (dTB (dB gEq (dV 0) (dC (.int 0)))) (dTB (dB gNe (dB gIx (dV 2) (dB gSub (dV 0) (dC (.int 1)))) (dV 1)))) (dV 1) ρ= .ok ((ded none xs).map T.int):=by
 have hi:qja (qab (dV i) (qan)) ρ= .ok (xs.zipIdx.map fun x=>T.tup [.int (x.2:Nat),.int x.1]):=by
  have e:qab (dV i) qan ρ= .ok [qbu xs]:=by unfold qab dV; rw[h]; rfl
  unfold qja
  rw[e]
  show Rs.ok (((xs.map T.int).zipIdx).map fun p=>T.tup [.int p.2,p.1])=_
  rw[List.zipIdx_map,List.map_map]
  rfl
 have:=qk7 (a:=fun x:Int×Nat=>T.int (x.2:Nat)) (b:=fun x=>T.int x.1) (h:=fun x=>T.int x.1) (p:=fun x=>decide (x.2=0)||decide (xs[x.2 - 1]? ≠some x.1)) (fr:=[i]) (ρ:=ρ) (de:=dV 1)
  (dt:=dOr (dTB (dB gEq (dV 0) (dC (.int 0)))) (dTB (dB gNe (dB gIx (dV 2) (dB gSub (dV 0) (dC (.int 1)))) (dV 1)))) hi fun x hx=>⟨?_,fun _=>rfl⟩
 ·have z:=qk1 xs []
  rw[List.length_nil,List.nil_append] at z
  have z':=congrArg (List.map T.int) z
  rw[List.map_map] at z'
  rw[this]
  exact congrArg Rs.ok z'
 ·show dOr _ _ (.fz (.int (x.2:Nat))::.fz (.int x.1)::[qge ρ[i]?])=_
  rw[h]
  obtain ⟨y,n⟩:=x
  have hn:xs[n]? =some y:=by
   have:=List.mem_zipIdx hx
   simp at this
   obtain ⟨h1,h2⟩:=this
   rw[h2]; exact List.getElem?_eq_getElem _
  show ((Rs.ok (((n:Nat):Int)==0):Rs Bool)>>=fun c=>if c=true then Rs.ok true else (((gIx (qbu xs) (.int ((n:Nat) - 1))>>=fun a=>gNe a (.int y))>>=fun t=>match t with | .bl b=>Rs.ok b | _=>.no)))=Rs.ok (decide (n=0)||decide (xs[n - 1]? ≠some y))
  cases n with
  | zero=>rfl
  | succ n=>
   have hlt:=(List.getElem?_eq_some_iff.mp hn).1
   have e1:xs[n]? =some (xs[n]'(by omega)):=List.getElem?_eq_getElem _
   rw[show (((n+1:Nat):Int)==0)=false by simpa using (by omega: ¬((n:Int)+1=0)),qad]
   simp only[Bool.false_eq_true,if_false]
   rw[show (((n+1:Nat):Int) - 1)=((n:Nat):Int) by push_cast; omega,qku e1,qad,qoL,Nat.add_sub_cancel,e1]
   show Rs.ok (!(xs[n]==y))=_
   refine congrArg Rs.ok ?_
   by_cases c:xs[n]=y
   ·simp[c]
   ·simp[c]
end K12
end
section
namespace K12
open PySem L2 PL SetL
open AS (Stp qbx qi8 qbi qbI qex qdL qbX qcY qbM qcs no qai)
open SR (Ris)
abbrev qrt:Ro→Rs Out:=qaK (qbz 10 (dFz (qaB 1 [9] (dI (dV 8)) (gN 0) (dTB (dB gEq (dB gIx (dV 0) (dC (.int 1))) (dV 1))) (dB gIx (dV 0) (dC (.int 2)))))) (qaK (dIf (dTB (dB gNe (dFz (qaB 1 [10] (qpm (qab (dC (.int 1)) (qab (qdw (dV 10)) (qan)))) (gN 0) (dTB (dB gEq (dB gIx (dV 1) (dV 0)) (dB gIx (dV 1) (dB gSub (dV 0) (dC (.int 1)))))) (dV 0))) (dFz (qg7 (qan))))) (qbo (dC (.bl false))) (qay)) (qaK (qbz 11 (dFz (qaB 1 [9] (dI (dV 1)) (gN 0) (dTB (dB gEq (dB gIx (dV 0) (dC (.int 1))) (dV 1))) (dB gIx (dV 0) (dC (.int 2)))))) (qaK (qbz 12 (dFz (qaB 2 [11] (qja (qab (dV 11) (qan))) (gT 2 (gsC (gN 0) (gsC (gN 1) (gsN)))) (dOr (dTB (dB gEq (dV 0) (dC (.int 0)))) (dTB (dB gNe (dB gIx (dV 2) (dB gSub (dV 0) (dC (.int 1)))) (dV 1)))) (dV 1)))) (dIf (dTB (dB gNe (dV 10) (dV 12))) (qbo (dC (.bl false))) (qay)))))
theorem unl_sub (rs:List Row):(qbX no rs).length≤rs.length:=(AS.unl_sub no rs).length_le
section
variable {ns:List Int} {rs:List Row} {s b:Int} {k:Str} {x0 x2 x3 x4 x5 x6 x7 x8 x9 xa xb xc xd xe xf xg xh:Sl}
theorem qmr (hl:rs.length<64):qrt (R x0 (.fz (qam rs)) x2 x3 x4 x5 x6 x7 (.fz (qam (qbX no rs))) (.fz (.str k)) xa xb xc xd xe xf xg xh)=
  .ok (.nx (R x0 (.fz (qam rs)) x2 x3 x4 x5 x6 x7 (.fz (qam (qbX no rs))) (.fz (.str k)) (.fz (qbu (ded none (qaT rs k)))) (.fz (qbu (qaT rs k))) (.fz (qbu (ded none (qaT rs k)))) xd xe xf xg xh)):=by
 have hw:qaT (qbX no rs) k=ded none (qaT rs k):=qjc k rs no
 have hlw:(ded none (qaT rs k)).length≤1000:=by
  rw[←hw]
  unfold qaT
  rw[List.length_map]
  have:=List.length_filter_le (fun r:Row=>r.2.1==k) (qbX no rs)
  have:=unl_sub rs
  omega
 refine qai (ρ':=R x0 (.fz (qam rs)) x2 x3 x4 x5 x6 x7 (.fz (qam (qbX no rs))) (.fz (.str k)) (.fz (qbu (ded none (qaT rs k)))) xb xc xd xe xf xg xh) ?_ ?_
 ·have c:=qeT (ρ:=R x0 (.fz (qam rs)) x2 x3 x4 x5 x6 x7 (.fz (qam (qbX no rs))) (.fz (.str k)) xa xb xc xd xe xf xg xh) (i:=8) (j:=9) rfl rfl
  rw[hw] at c
  unfold qbz dFz
  rw[c]
  rfl
 refine qai (ρ':=R x0 (.fz (qam rs)) x2 x3 x4 x5 x6 x7 (.fz (qam (qbX no rs))) (.fz (.str k)) (.fz (qbu (ded none (qaT rs k)))) xb xc xd xe xf xg xh) ?_ ?_
 ·have c:=qiQ (ρ:=R x0 (.fz (qam rs)) x2 x3 x4 x5 x6 x7 (.fz (qam (qbX no rs))) (.fz (.str k)) (.fz (qbu (ded none (qaT rs k)))) xb xc xd xe xf xg xh) (i:=10) rfl hlw (qf6 (qaT rs k) none).2
  simp only[dIf,dTB,dB,dFz,c,qad]
  rfl
 refine qai (ρ':=R x0 (.fz (qam rs)) x2 x3 x4 x5 x6 x7 (.fz (qam (qbX no rs))) (.fz (.str k)) (.fz (qbu (ded none (qaT rs k)))) (.fz (qbu (qaT rs k))) xc xd xe xf xg xh) ?_ ?_
 ·have c:=qeT (ρ:=R x0 (.fz (qam rs)) x2 x3 x4 x5 x6 x7 (.fz (qam (qbX no rs))) (.fz (.str k)) (.fz (qbu (ded none (qaT rs k)))) xb xc xd xe xf xg xh) (i:=1) (j:=9) rfl rfl
  unfold qbz dFz
  rw[c]
  rfl
 refine qai (ρ':=R x0 (.fz (qam rs)) x2 x3 x4 x5 x6 x7 (.fz (qam (qbX no rs))) (.fz (.str k)) (.fz (qbu (ded none (qaT rs k)))) (.fz (qbu (qaT rs k))) (.fz (qbu (ded none (qaT rs k)))) xd xe xf xg xh) ?_ ?_
 ·have c:=qmY (ρ:=R x0 (.fz (qam rs)) x2 x3 x4 x5 x6 x7 (.fz (qam (qbX no rs))) (.fz (.str k)) (.fz (qbu (ded none (qaT rs k)))) (.fz (qbu (qaT rs k))) xc xd xe xf xg xh) (i:=11) rfl
  unfold qbz dFz
  rw[c]
  rfl
 ·have n:gNe (qbu (ded none (qaT rs k))) (qbu (ded none (qaT rs k)))= .ok (.bl false):=qj8 (qot _)
  show ((gNe (qbu (ded none (qaT rs k))) (qbu (ded none (qaT rs k)))>>=fun t=>match t with | .bl b=>Rs.ok b | _=>.no)>>=fun c=>if c=true then _ else qay _)=_
  rw[n]
  rfl
theorem qt5 (hl:rs.length<64): ∃y9 y10 y11 y12:Sl,qlA (qtc (dV 7)) (gN 9) qrt (R x0 (.fz (qam rs)) x2 x3 x4 x5 x6 (.fz (.dcf (kvH rs))) (.fz (qam (qbX no rs))) x9 xa xb xc xd xe xf xg xh)=
  .ok (.nx (R x0 (.fz (qam rs)) x2 x3 x4 x5 x6 (.fz (.dcf (kvH rs))) (.fz (qam (qbX no rs))) y9 y10 y11 y12 xd xe xf xg xh)):=by
 obtain ⟨ρ',e1,y9,y10,y11,y12,e2⟩:=qfh (dg:=gN 9) (f:=fun r:Row=>T.str r.2.1) (db:=qrt) (fun dn ρ=> ∃y9 y10 y11 y12:Sl,ρ=R x0 (.fz (qam rs)) x2 x3 x4 x5 x6 (.fz (.dcf (kvH rs))) (.fz (qam (qbX no rs))) y9 y10 y11 y12 xd xe xf xg xh) (qcq [] rs) (qcq [] rs) [] (R x0 (.fz (qam rs)) x2 x3 x4 x5 x6 (.fz (.dcf (kvH rs))) (.fz (qam (qbX no rs))) x9 xa xb xc xd xe xf xg xh) rfl
  (fun dn r qde ρ hw ⟨y9,y10,y11,y12,e⟩=>by
   subst e
   exact ⟨_,_,rfl,.inl (qmr (k:=r.2.1) hl),_,_,_,_,rfl⟩) ⟨_,_,_,_,rfl⟩
 subst e2
 refine ⟨y9,y10,y11,y12,?_⟩
 show ((qfl (.dcf (kvH rs)))>>=fun ts=>qdK (gN 9) qrt ts (R x0 (.fz (qam rs)) x2 x3 x4 x5 x6 (.fz (.dcf (kvH rs))) (.fz (qam (qbX no rs))) x9 xa xb xc xd xe xf xg xh))=_
 rw[qkk]
 exact e1
theorem qt4 {a c:Int} (hL:Log rs) (hl:rs.length<64) (ha:1≤a∧a≤4) (hc:1≤c∧c≤4):dIf (dTB (dB gNe (qas t_36 (qab (qaJ (qab (qaJ (qab (dC (.str "each")) (qab (dV 13) (qan)))) (qab (qaJ (qab (dC (.str "each")) (qab (dV 14) (qan)))) (qan)))) (qab (dV 1) (qan)))) (qas t_36 (qab (qaJ (qab (qaJ (qab (dC (.str "each")) (qab (dB qdD (dV 13) (dV 14)) (qan)))) (qan))) (qab (dV 1) (qan)))))) (qbo (dC (.bl false))) (qay)
   (R x0 (.fz (qam rs)) x2 x3 x4 x5 x6 x7 x8 x9 xa xb xc (.fz (.int a)) (.fz (.int c)) xf xg xh)= .ok (.nx (R x0 (.fz (qam rs)) x2 x3 x4 x5 x6 x7 x8 x9 xa xb xc (.fz (.int a)) (.fz (.int c)) xf xg xh)):=by
 have h1:1≤a*c:=by have:=Int.mul_le_mul ha.1 hc.1 (by omega) (by omega); omega
 have h20:a*c≤20:=by have:=Int.mul_le_mul ha.2 hc.2 (by omega) (by omega); omega
 have m:dB qdD (dV 13) (dV 14) (R x0 (.fz (qam rs)) x2 x3 x4 x5 x6 x7 x8 x9 xa xb xc (.fz (.int a)) (.fz (.int c)) xf xg xh)= .ok (.int (a*c)):=by
  show (if (-1000000≤a∧a≤1000000)∨(-1000000≤c∧c≤1000000) then Rs.ok (T.int (a*c)) else .no)=_
  rw[if_pos (.inl ⟨by omega,by omega⟩)]
 have a1:t_36 [qbx [.each a,.each c],qam rs]= .ok (qam (qbI c (qbI a rs))):=qi1 (.each a) (.each c) ⟨by omega,by omega⟩ ⟨by omega,by omega⟩ hL hl
 have a2:t_36 [qbx [.each (a*c)],qam rs]= .ok (qam (qbI (a*c) rs)):=qi2 (.each (a*c)) ⟨h1,h20⟩ hL hl
 have ee:qbI c (qbI a rs)=qbI (a*c) rs:=by
  obtain ⟨p,rfl⟩: ∃p:Nat,a=p:=⟨a.toNat,by omega⟩
  obtain ⟨q,rfl⟩: ∃q:Nat,c=q:=⟨c.toNat,by omega⟩
  exact qkR rs (by omega) (by omega)
 rw[ee] at a1
 have l2:(2:Nat)≤1000:=by decide
 have l1:(1:Nat)≤1000:=by decide
 have n:=qfJ (qbI (a*c) rs)
 have q1:qas t_36 (qab (qaJ (qab (qaJ (qab (dC (.str "each")) (qab (dV 13) (qan)))) (qab (qaJ (qab (dC (.str "each")) (qab (dV 14) (qan)))) (qan)))) (qab (dV 1) (qan))) (R x0 (.fz (qam rs)) x2 x3 x4 x5 x6 x7 x8 x9 xa xb xc (.fz (.int a)) (.fz (.int c)) xf xg xh)= .ok (qam (qbI (a*c) rs)):=by
  rw[←a1]; rfl
 have q2:qas t_36 (qab (qaJ (qab (qaJ (qab (dC (.str "each")) (qab (dB qdD (dV 13) (dV 14)) (qan)))) (qan))) (qab (dV 1) (qan))) (R x0 (.fz (qam rs)) x2 x3 x4 x5 x6 x7 x8 x9 xa xb xc (.fz (.int a)) (.fz (.int c)) xf xg xh)= .ok (qam (qbI (a*c) rs)):=by
  rw[←a2]
  simp only[qas,qab,qaJ,dC,qan,m,qad,List.length_cons,List.length_nil,Nat.reduceAdd,l1,l2,if_true]
  rfl
 unfold dIf dTB dB at*
 simp only[q1,q2,qad,n,Bool.false_eq_true,if_false]
 rfl
theorem qt3 {a c:Int} (hL:Log rs) (hl:rs.length<64) (ha:1≤a∧a≤4) (hc:1≤c∧c≤4):dIf (dTB (dB gNe (qas t_36 (qab (qaJ (qab (qaJ (qab (dC (.str "first")) (qab (dV 13) (qan)))) (qab (qaJ (qab (dC (.str "first")) (qab (dV 14) (qan)))) (qan)))) (qab (dV 1) (qan)))) (dFz (qgv (dQV 1) (dON) (dOS (dB2 qpx (dV 13) (dV 14))))))) (qbo (dC (.bl false))) (qay)
   (R x0 (.fz (qam rs)) x2 x3 x4 x5 x6 x7 x8 x9 xa xb xc (.fz (.int a)) (.fz (.int c)) xf xg xh)= .ok (.nx (R x0 (.fz (qam rs)) x2 x3 x4 x5 x6 x7 x8 x9 xa xb xc (.fz (.int a)) (.fz (.int c)) xf xg xh)):=by
 have a1:t_36 [qbx [.first a,.first c],qam rs]= .ok (qam ((rs.take a.toNat).take c.toNat)):=qi1 (.first a) (.first c) ⟨by omega,by omega⟩ ⟨by omega,by omega⟩ hL hl
 obtain ⟨p,rfl⟩: ∃p:Nat,a=p:=⟨a.toNat,by omega⟩
 obtain ⟨q,rfl⟩: ∃q:Nat,c=q:=⟨c.toNat,by omega⟩
 rw[Int.toNat_natCast,Int.toNat_natCast,List.take_take] at a1
 have e:(if (q:Int)<(p:Int) then (q:Int) else (p:Int))=((min q p:Nat):Int):=by split<;>omega
 show (((t_36 [qbx [.first p,.first q],qam rs]>>=fun x=>Rs.ok (T.lst (qlB (rs.map qaq) none (some (if (q:Int)<(p:Int) then (q:Int) else (p:Int)))))>>=fun y=>gNe x y)>>=fun t=>match t with | .bl b=>Rs.ok b | _=>.no)>>=fun c=>if c=true then _ else qay _)=_
 rw[a1,e,AS.cut_take (α:=Unit),←List.map_take,qad,qad]
 have n:=qfJ (rs.take (min q p))
 unfold qam at n⊢
 rw[n]
 rfl
theorem qt2 {z:Int} (hL:Log rs) (hl:rs.length<64) (hz: -4≤z∧z≤4):qaK (qpk 16 17 (qas t_36 (qab (qaJ (qab (qaJ (qab (dC (.str "over")) (qab (dV 15) (qan)))) (qan))) (qab (dV 1) (qan)))) (qas t_36 (qab (qaJ (qab (qaJ (qab (dC (.str "under")) (qab (dB qbp (dV 15) (dC (.int 1))) (qan)))) (qan))) (qab (dV 1) (qan))))) (qbo (qfr (dB gEq (dB qbp (qdw (dV 16)) (qdw (dV 17))) (qdw (dV 1))) (dB gEq (qas t_36 (qab (qaJ (qab (qaJ (qab (dC (.str "plus")) (qab (dV 15) (qan)))) (qab (qaJ (qab (dC (.str "plus")) (qab (dB gSub (dC (.int 0)) (dV 15)) (qan)))) (qan)))) (qab (dV 1) (qan)))) (dV 1))))
   (R x0 (.fz (qam rs)) x2 x3 x4 x5 x6 x7 x8 x9 xa xb xc xd xe (.fz (.int z)) xg xh)= .ok (.rt (.bl true)):=by
 have a1:t_36 [qbx [.over z],qam rs]= .ok (qam (qcY z rs)):=qi2 (.over z) ⟨by omega,by omega⟩ hL hl
 have a2:t_36 [qbx [.under (z+1)],qam rs]= .ok (qam (qbM (z+1) rs)):=qi2 (.under (z+1)) ⟨by omega,by omega⟩ hL hl
 have a3:t_36 [qbx [.plus z,.plus (0 - z)],qam rs]= .ok (qam (qcs (0 - z) (qcs z rs))):=qi1 (.plus z) (.plus (0 - z)) ⟨by omega,by omega⟩ ⟨by omega,by omega⟩ hL hl
 rw[qjO] at a3
 refine qai (ρ':=R x0 (.fz (qam rs)) x2 x3 x4 x5 x6 x7 x8 x9 xa xb xc xd xe (.fz (.int z)) (.fz (qam (qcY z rs))) (.fz (qam (qbM (z+1) rs)))) ?_ ?_
 ·show (t_36 [qbx [.over z],qam rs]>>=fun t=>t_36 [qbx [.under (z+1)],qam rs]>>=fun u=>Rs.ok (Out.nx (R x0 (.fz (qam rs)) x2 x3 x4 x5 x6 x7 x8 x9 xa xb xc xd xe (.fz (.int z)) (.fz t) (.fz u))))=_
  rw[a1,a2]
  rfl
 ·have ll:((((qcY z rs).map qaq).length:Nat):Int)+((((qbM (z+1) rs).map qaq).length:Nat):Int)=(((rs.map qaq).length:Nat):Int):=by
   rw[List.length_map,List.length_map,List.length_map]
   have:=qeG z rs
   omega
  have q:gEq (qam rs) (qam rs)= .ok (.bl true):=qoR (qnp rs)
  show (((Rs.ok (((((qcY z rs).map qaq).length:Nat):Int)+((((qbM (z+1) rs).map qaq).length:Nat):Int)==(((rs.map qaq).length:Nat):Int)):Rs Bool)>>=fun c=>if c=true then (t_36 [qbx [.plus z,.plus (0 - z)],qam rs]>>=fun x=>gEq x (qam rs)) else Rs.ok (T.bl false))>>=fun t=>Rs.ok (Out.rt t))=_
  rw[ll,beq_self_eq_true,a3,qad,if_pos rfl,qad,q]
  rfl
end
end K12
end
section
namespace K12
open PySem L2 PL SetL
open AS (Stp qbx qi8 qbi qbI qex qdL qbX qcY qbM qcs no qai)
open SR (Ris)
theorem qoP {ns:List Int} (h:qpf (R (.fz (.scr ns)) .no .no .no .no .no .no .no .no .no .no .no .no .no .no .no .no .no)= .ok (.rt (.bl true))):t_law [.scr ns]= .ok (.bl true):=by
 unfold t_law fnT
 rw[if_pos (show [T.scr ns].length=1 from rfl)]
 have e:List.map Sl.fz [T.scr ns]++List.replicate (18 - 1) Sl.no=R (.fz (.scr ns)) .no .no .no .no .no .no .no .no .no .no .no .no .no .no .no .no .no:=rfl
 rw[e,h]
 rfl
theorem law_true {ns:List Int} (hn:ns.length≤63):t_law [.scr ns]= .ok (.bl true):=by
 obtain ⟨rs,hL,n12,er⟩:=qqP hn (k:=100) (most:=12) (by decide) (by decide) (by decide) (by decide)
 have hl:rs.length<64:=by omega
 obtain ⟨s,s0,s5,es⟩:=qby hn (k:=0) (many:=5) (by decide) (by decide) (by decide)
 obtain ⟨b,b0,b4,eb⟩:=qby hn (k:=1) (many:=4) (by decide) (by decide) (by decide)
 obtain ⟨u,u0,u4,eu⟩:=qby hn (k:=2) (many:=4) (by decide) (by decide) (by decide)
 obtain ⟨v,v0,v4,ev⟩:=qby hn (k:=3) (many:=4) (by decide) (by decide) (by decide)
 obtain ⟨z,z0,z9,ez⟩:=qby hn (k:=4) (many:=9) (by decide) (by decide) (by decide)
 have h20:(1+s)*(1+b)≤20:=by
  have:=Int.mul_le_mul (show 1+s≤5 by omega) (show 1+b≤4 by omega) (by omega) (by omega)
  omega
 refine qoP ?_
 unfold qpf
 refine qai (ρ':=R (.fz (.scr ns)) (.fz (qam rs)) .no .no .no .no .no .no .no .no .no .no .no .no .no .no .no .no) ?_ ?_
 ·show (qpw [.scr ns,.int 100,.int 12]>>=fun t=>Rs.ok (Out.nx (R (.fz (.scr ns)) (.fz t) .no .no .no .no .no .no .no .no .no .no .no .no .no .no .no .no)))=_
  rw[er]
  rfl
 refine qai (ρ':=R (.fz (.scr ns)) (.fz (qam rs)) (.fz (.int (1+s))) (.fz (.int (1+b))) .no .no .no .no .no .no .no .no .no .no .no .no .no .no) ?_ ?_
 ·show ((qcP [.scr ns,.int 0,.int 5]>>=fun y=>qbp (.int 1) y)>>=fun t=>(qcP [.scr ns,.int 1,.int 4]>>=fun y=>qbp (.int 1) y)>>=fun u=>Rs.ok (Out.nx (R (.fz (.scr ns)) (.fz (qam rs)) (.fz t) (.fz u) .no .no .no .no .no .no .no .no .no .no .no .no .no .no)))=_
  rw[es,eb]
  rfl
 refine qai (st3 hL hl ⟨by omega,by omega⟩) ?_
 refine qai (st4 hL hl ⟨by omega,by omega⟩ ⟨by omega,by omega⟩ h20) ?_
 refine qai (st5 (qbi (1+s) rs) (qlK (1+s) rs)) ?_
 refine qai (qtu true 5 _ rfl) ?_
 refine qai (qtu false 6 _ rfl) ?_
 refine qai (st8 hL hl) ?_
 refine qai (st9 hl) ?_
 refine qai (qt7 hL hl) ?_
 refine qai (qt6 hL hl) ?_
 obtain ⟨y9,y10,y11,y12,e12⟩:=qt5 (x0:=.fz (.scr ns)) (x2:=.fz (.int (1+s))) (x3:=.fz (.int (1+b))) (x4:=.fz (qam (qbi (1+s) rs))) (x5:=.fz (qam (qcq [] rs))) (x6:=.fz (qam (qcM [] rs))) (x9:=.no) (xa:=.no) (xb:=.no) (xc:=.no) (xd:=.no) (xe:=.no) (xf:=.no) (xg:=.no) (xh:=.no) hl
 refine qai e12 ?_
 refine qai (ρ':=R (.fz (.scr ns)) (.fz (qam rs)) (.fz (.int (1+s))) (.fz (.int (1+b))) (.fz (qam (qbi (1+s) rs))) (.fz (qam (qcq [] rs))) (.fz (qam (qcM [] rs))) (.fz (.dcf (kvH rs))) (.fz (qam (qbX no rs))) y9 y10 y11 y12 (.fz (.int (1+u))) (.fz (.int (1+v))) .no .no .no) ?_ ?_
 ·show ((qcP [.scr ns,.int 2,.int 4]>>=fun y=>qbp (.int 1) y)>>=fun t=>(qcP [.scr ns,.int 3,.int 4]>>=fun y=>qbp (.int 1) y)>>=fun u=>Rs.ok (Out.nx (R (.fz (.scr ns)) (.fz (qam rs)) (.fz (.int (1+s))) (.fz (.int (1+b))) (.fz (qam (qbi (1+s) rs))) (.fz (qam (qcq [] rs))) (.fz (qam (qcM [] rs))) (.fz (.dcf (kvH rs))) (.fz (qam (qbX no rs))) y9 y10 y11 y12 (.fz t) (.fz u) .no .no .no)))=_
  rw[eu,ev]
  rfl
 refine qai (qt4 hL hl ⟨by omega,by omega⟩ ⟨by omega,by omega⟩) ?_
 refine qai (qt3 hL hl ⟨by omega,by omega⟩ ⟨by omega,by omega⟩) ?_
 refine qai (ρ':=R (.fz (.scr ns)) (.fz (qam rs)) (.fz (.int (1+s))) (.fz (.int (1+b))) (.fz (qam (qbi (1+s) rs))) (.fz (qam (qcq [] rs))) (.fz (qam (qcM [] rs))) (.fz (.dcf (kvH rs))) (.fz (qam (qbX no rs))) y9 y10 y11 y12 (.fz (.int (1+u))) (.fz (.int (1+v))) (.fz (.int (z - 4))) .no .no) ?_ ?_
 ·show ((qcP [.scr ns,.int 4,.int 9]>>=fun y=>gSub y (.int 4))>>=fun t=>Rs.ok (Out.nx (R (.fz (.scr ns)) (.fz (qam rs)) (.fz (.int (1+s))) (.fz (.int (1+b))) (.fz (qam (qbi (1+s) rs))) (.fz (qam (qcq [] rs))) (.fz (qam (qcM [] rs))) (.fz (.dcf (kvH rs))) (.fz (qam (qbX no rs))) y9 y10 y11 y12 (.fz (.int (1+u))) (.fz (.int (1+v))) (.fz t) .no .no)))=_
  rw[ez]
  rfl
 exact qt2 hL hl ⟨by omega,by omega⟩
end K12
end
section
namespace K12
open PySem L2 PL SetL
section
variable {P:Program} {w:World} {K:PySem.W.Frag} {mg:Str→Option Value} {base:Heap} {G:Gam} {C:Str→Addr}
theorem qqo {f:Addr} {fd:FuncData} (F:Fun K "law" "law" qd7 f fd) (nb: ∀x∈namesX,mg x=none) (F_18:Kn P w K mg base G C "_law_pick" ["_law_script", "_law_k", "_law_many"] 2 qcP) (F_19:Kn P w K mg base G C "_law_rows" ["_law_script", "_law_at", "_law_most"] 4 qpw) (F_36:KnS P w K mg base G C "asked" ["ask", "rows"] 6 o_36):qbe P w K mg base CX0 7 f fd ["_law_script"] (spP K G C t_law):=
 qch F qbC fun cdv A outer s H E hr=>qae (qa8 (i:=1) qbC.nd rfl (by first | exact Or.inl rfl | exact Or.inr rfl) (qao F_19 rfl (hr.mono (by decide)) rfl (qac (qaa (pv 0)) (qac (qah) (qac (qah) (qaj)))))) (qae (qkW (i:=2) (j:=3) rfl qbC.nd rfl rfl (by decide) rfl rfl (qax qaF qaU qaV (qah) (qao F_18 rfl (hr.mono (by decide)) rfl (qac (qaa (pv 0)) (qac (qah) (qac (qah) (qaj)))))) (qax qaF qaU qaV (qah) (qao F_18 rfl (hr.mono (by decide)) rfl (qac (qaa (pv 0)) (qac (qah) (qac (qah) (qaj)))))) rfl) (qae (qa8 (i:=4) qbC.nd rfl (by first | exact Or.inl rfl | exact Or.inr rfl) (qao F_36.kn rfl (hr.mono (by decide)) rfl (qac (qaD (qac (qaD (qac (qaN) (qac (qaa (pv 2)) (qaj)))) (qaj))) (qac (qaa (pv 1)) (qaj))))) (qae (qbh (qaS (op_neT (hu8 hr)) qdH qdI (qao F_36.kn rfl (hr.mono (by decide)) rfl (qac (qaD (qac (qaD (qac (qaN) (qac (qaa (pv 2)) (qaj)))) (qac (qaD (qac (qaN) (qac (qax qcd qd8 qed (qaa (pv 2)) (qaa (pv 3))) (qaj)))) (qaj)))) (qac (qaa (pv 1)) (qaj)))) (qao F_36.kn rfl (hr.mono (by decide)) rfl (qac (qaD (qac (qaD (qac (qaN) (qac (qax qcd qd8 qed (qaa (pv 2)) (qaa (pv 3))) (qaj)))) (qaj))) (qac (qaa (pv 1)) (qaj))))) (qal (qaM (qdd))) (qaC)) (qae (qbh (qaS (op_neT (hu8 hr)) qdH qdI (qnE (qaE (qgf rfl) rfl (nb "sum" (by decide)) qgk (qar (qbB (qaZ (own:=["_law_row"]) (fr:=[]) rfl (qa9 (qaa (pv 4))) (qbg) rfl (by decide+kernel) (by decide+kernel) (fun y hy e=>absurd e ((by decide+kernel: ∀y∈_,y.2≠NameKind.free) y hy)) (fun p hp=>nomatch hp) (fun fp s3 H3=>⟨qaR (qat (i:=0) (show (["_law_row"]:List Str).Nodup by decide+kernel) rfl (by first | exact Or.inl rfl | exact Or.inr rfl)),qa6,qaQ qaz qaO qaP (qaa (pv 0)) (qah) (fun _ _=>rfl)⟩))) qaH))) (qnE (qaE (qgf rfl) rfl (nb "sum" (by decide)) qgk (qar (qbB (qaZ (own:=["_law_row"]) (fr:=[]) rfl (qa9 (qaa (pv 1))) (qbg) rfl (by decide+kernel) (by decide+kernel) (fun y hy e=>absurd e ((by decide+kernel: ∀y∈_,y.2≠NameKind.free) y hy)) (fun p hp=>nomatch hp) (fun fp s3 H3=>⟨qaR (qat (i:=0) (show (["_law_row"]:List Str).Nodup by decide+kernel) rfl (by first | exact Or.inl rfl | exact Or.inr rfl)),qa6,qaQ qaz qaO qaP (qaa (pv 0)) (qah) (fun _ _=>rfl)⟩))) qaH)))) (qal (qaM (qdd))) (qaC)) (qae (qcI (i:=5) (own:=["_law_k", "_law_row"]) (fr:=[("_law_rows_here",1)]) rfl (qg2 rfl (nb "enumerate" (by decide)) (qac (qaa (pv 1)) (qaj))) (qiH (qbQ (qbg) (qbQ (qbg) (qeP)))) rfl (by decide+kernel) (by decide+kernel) (RH.fr_ok (sd:=qaf qd7) rfl (by decide+kernel)) (fun p hp=>by simp only[List.mem_cons,List.not_mem_nil,or_false] at hp; subst hp; exact ⟨rfl,rfl⟩) (fun fp s3 H3=>⟨qcA rfl (qaA (qaR (qat (i:=0) (show (["_law_k", "_law_row", "_law_rows_here"]:List Str).Nodup by decide+kernel) rfl (by first | exact Or.inl rfl | exact Or.inr rfl))) (qaA (qaR (qat (i:=1) (show (["_law_k", "_law_row", "_law_rows_here"]:List Str).Nodup by decide+kernel) rfl (by first | exact Or.inl rfl | exact Or.inr rfl))) (qbV))),qcV (qmN (hu8 hr) (qaQ qaz qaO qaP (qaa (pv 1)) (qah) (fun _ _=>rfl)) (qbB (qaZ (own:=["_law_one"]) (fr:=[]) rfl (qa9 (qa7 (qdc (qbv (pv 2)) (qdv) (qcJ (qaa (pv 0)))))) (qbg) rfl (by decide+kernel) (by decide+kernel) (fun y hy e=>absurd e ((by decide+kernel: ∀y∈_,y.2≠NameKind.free) y hy)) (fun p hp=>nomatch hp) (fun fp s3 H3=>⟨qaR (qat (i:=0) (show (["_law_one"]:List Str).Nodup by decide+kernel) rfl (by first | exact Or.inl rfl | exact Or.inr rfl)),qa6,qaQ qaz qaO qaP (qaa (pv 0)) (qah) (fun _ _=>rfl)⟩)))),qaa (pv 1)⟩) qbC.nd rfl rfl) (qae (qcI (i:=6) (own:=["_law_k", "_law_row"]) (fr:=[("_law_rows_here",1)]) rfl (qg2 rfl (nb "enumerate" (by decide)) (qac (qaa (pv 1)) (qaj))) (qiH (qbQ (qbg) (qbQ (qbg) (qeP)))) rfl (by decide+kernel) (by decide+kernel) (RH.fr_ok (sd:=qaf qd7) rfl (by decide+kernel)) (fun p hp=>by simp only[List.mem_cons,List.not_mem_nil,or_false] at hp; subst hp; exact ⟨rfl,rfl⟩) (fun fp s3 H3=>⟨qcA rfl (qaA (qaR (qat (i:=0) (show (["_law_k", "_law_row", "_law_rows_here"]:List Str).Nodup by decide+kernel) rfl (by first | exact Or.inl rfl | exact Or.inr rfl))) (qaA (qaR (qat (i:=1) (show (["_law_k", "_law_row", "_law_rows_here"]:List Str).Nodup by decide+kernel) rfl (by first | exact Or.inl rfl | exact Or.inr rfl))) (qbV))),qcV (qs6 (hu8 hr) (qaQ qaz qaO qaP (qaa (pv 1)) (qah) (fun _ _=>rfl)) (qbB (qaZ (own:=["_law_one"]) (fr:=[]) rfl (qa9 (qa7 (qdc (qbv (pv 2)) (qdv) (qcJ (qaa (pv 0)))))) (qbg) rfl (by decide+kernel) (by decide+kernel) (fun y hy e=>absurd e ((by decide+kernel: ∀y∈_,y.2≠NameKind.free) y hy)) (fun p hp=>nomatch hp) (fun fp s3 H3=>⟨qaR (qat (i:=0) (show (["_law_one"]:List Str).Nodup by decide+kernel) rfl (by first | exact Or.inl rfl | exact Or.inr rfl)),qa6,qaQ qaz qaO qaP (qaa (pv 0)) (qah) (fun _ _=>rfl)⟩)))),qaa (pv 1)⟩) qbC.nd rfl rfl) (qae (qbh (qaS (op_neT (hu8 hr)) qdH qdI (qao F_36.kn rfl (hr.mono (by decide)) rfl (qac (qaD (qac (qaD (qac (qaN) (qaj))) (qac (qaD (qac (qaN) (qaj))) (qaj)))) (qac (qaa (pv 1)) (qaj)))) (qaa (pv 6))) (qal (qaM (qdd))) (qaC)) (qae (qa8 (i:=7) qbC.nd rfl (by first | exact Or.inl rfl | exact Or.inr rfl) (qk2 (qo0 rfl rfl (nb "dict" (by decide)) (qbB (qaZ (own:=["_law_row"]) (fr:=[]) rfl (qa9 (qaa (pv 5))) (qbg) rfl (by decide+kernel) (by decide+kernel) (fun y hy e=>absurd e ((by decide+kernel: ∀y∈_,y.2≠NameKind.free) y hy)) (fun p hp=>nomatch hp) (fun fp s3 H3=>⟨qaR (qat (i:=0) (show (["_law_row"]:List Str).Nodup by decide+kernel) rfl (by first | exact Or.inl rfl | exact Or.inr rfl)),qa6,qaD (qac (qaQ qaz qaO qaP (qaa (pv 0)) (qah) (fun _ _=>rfl)) (qac (qaQ qaz qaO qaP (qaa (pv 0)) (qah) (fun _ _=>rfl)) (qaj)))⟩)))))) (qae (qbh (qaS (op_neT (hu8 hr)) qdH qdI (qao F_36.kn rfl (hr.mono (by decide)) rfl (qac (qaD (qac (qaD (qac (qaN) (qaj))) (qac (qaD (qac (qaN) (qaj))) (qaj)))) (qac (qaa (pv 1)) (qaj)))) (qa7 (qaZ (own:=["_law_row"]) (fr:=[("_law_heads",7)]) rfl (qa9 (qaa (pv 6))) (qbg) rfl (by decide+kernel) (by decide+kernel) (RH.fr_ok (sd:=qaf qd7) rfl (by decide+kernel)) (fun p hp=>by simp only[List.mem_cons,List.not_mem_nil,or_false] at hp; subst hp; exact ⟨rfl,rfl⟩) (fun fp s3 H3=>⟨qaR (qat (i:=0) (show (["_law_row", "_law_heads"]:List Str).Nodup by decide+kernel) rfl (by first | exact Or.inl rfl | exact Or.inr rfl)),qa6,qaD (qac (qaQ qaz qaO qaP (qaa (pv 0)) (qah) (fun _ _=>rfl)) (qac (qaQ qaz qaO qaP (qaa (pv 0)) (qah) (fun _ _=>rfl)) (qac (qax qb6 qb4 qb5 (qaQ qaz qaO qaP (qaa (pv 0)) (qah) (fun _ _=>rfl)) (qo7 (hu1 hr) (qaa (pv 1)) (qaQ qaz qaO qaP (qaa (pv 0)) (qah) (fun _ _=>rfl)))) (qaj))))⟩)))) (qal (qaM (qdd))) (qaC)) (qae (qa8 (i:=8) qbC.nd rfl (by first | exact Or.inl rfl | exact Or.inr rfl) (qao F_36.kn rfl (hr.mono (by decide)) rfl (qac (qaD (qac (qaD (qac (qaN) (qaj))) (qaj))) (qac (qaa (pv 1)) (qaj))))) (qae (qep PassesOwn.never rfl (qo2 (qaa (pv 7))) (qaR (qat (i:=9) qbC.nd rfl (by first | exact Or.inl rfl | exact Or.inr rfl))) (qae (qa8 (i:=10) qbC.nd rfl (by first | exact Or.inl rfl | exact Or.inr rfl) (qa7 (qaZ (own:=["_law_row"]) (fr:=[("_law_key_here",9)]) rfl (qa9 (qaa (pv 8))) (qbg) rfl (by decide+kernel) (by decide+kernel) (RH.fr_ok (sd:=qaf qd7) rfl (by decide+kernel)) (fun p hp=>by simp only[List.mem_cons,List.not_mem_nil,or_false] at hp; subst hp; exact ⟨rfl,rfl⟩) (fun fp s3 H3=>⟨qaR (qat (i:=0) (show (["_law_row", "_law_key_here"]:List Str).Nodup by decide+kernel) rfl (by first | exact Or.inl rfl | exact Or.inr rfl)),qcV (qaS (qbO (hu8 hr)) qcS qcU (qaQ qaz qaO qaP (qaa (pv 0)) (qah) (fun _ _=>rfl)) (qaa (pv 1))),qaQ qaz qaO qaP (qaa (pv 0)) (qah) (fun _ _=>rfl)⟩)))) (qae (qbh (qaS (op_neT (hu8 hr)) qdH qdI (qa7 (qaZ (own:=["_law_k"]) (fr:=[("_law_mine",10)]) rfl (qkY rfl (nb "range" (by decide)) (qac (qah) (qac (qbw rfl (nb "len" (by decide)) (qaa (pv 10))) (qaj)))) (qbg) rfl (by decide+kernel) (by decide+kernel) (RH.fr_ok (sd:=qaf qd7) rfl (by decide+kernel)) (fun p hp=>by simp only[List.mem_cons,List.not_mem_nil,or_false] at hp; subst hp; exact ⟨rfl,rfl⟩) (fun fp s3 H3=>⟨qaR (qat (i:=0) (show (["_law_k", "_law_mine"]:List Str).Nodup by decide+kernel) rfl (by first | exact Or.inl rfl | exact Or.inr rfl)),qcV (qaS (qbO (hu8 hr)) qcS qcU (qaQ qaz qaO qaP (qaa (pv 1)) (qaa (pv 0)) (fun _ _=>rfl)) (qaQ qaz qaO qaP (qaa (pv 1)) (qax qb6 qb4 qb5 (qaa (pv 0)) (qah)) (fun _ _=>rfl))),qaa (pv 0)⟩))) (qa7 (qdF (qaj)))) (qal (qaM (qdd))) (qaC)) (qae (qa8 (i:=11) qbC.nd rfl (by first | exact Or.inl rfl | exact Or.inr rfl) (qa7 (qaZ (own:=["_law_row"]) (fr:=[("_law_key_here",9)]) rfl (qa9 (qaa (pv 1))) (qbg) rfl (by decide+kernel) (by decide+kernel) (RH.fr_ok (sd:=qaf qd7) rfl (by decide+kernel)) (fun p hp=>by simp only[List.mem_cons,List.not_mem_nil,or_false] at hp; subst hp; exact ⟨rfl,rfl⟩) (fun fp s3 H3=>⟨qaR (qat (i:=0) (show (["_law_row", "_law_key_here"]:List Str).Nodup by decide+kernel) rfl (by first | exact Or.inl rfl | exact Or.inr rfl)),qcV (qaS (qbO (hu8 hr)) qcS qcU (qaQ qaz qaO qaP (qaa (pv 0)) (qah) (fun _ _=>rfl)) (qaa (pv 1))),qaQ qaz qaO qaP (qaa (pv 0)) (qah) (fun _ _=>rfl)⟩)))) (qae (qcI (i:=12) (own:=["_law_k", "_law_number_here"]) (fr:=[("_law_whole",11)]) rfl (qg2 rfl (nb "enumerate" (by decide)) (qac (qaa (pv 11)) (qaj))) (qiH (qbQ (qbg) (qbQ (qbg) (qeP)))) rfl (by decide+kernel) (by decide+kernel) (RH.fr_ok (sd:=qaf qd7) rfl (by decide+kernel)) (fun p hp=>by simp only[List.mem_cons,List.not_mem_nil,or_false] at hp; subst hp; exact ⟨rfl,rfl⟩) (fun fp s3 H3=>⟨qcA rfl (qaA (qaR (qat (i:=0) (show (["_law_k", "_law_number_here", "_law_whole"]:List Str).Nodup by decide+kernel) rfl (by first | exact Or.inl rfl | exact Or.inr rfl))) (qaA (qaR (qat (i:=1) (show (["_law_k", "_law_number_here", "_law_whole"]:List Str).Nodup by decide+kernel) rfl (by first | exact Or.inl rfl | exact Or.inr rfl))) (qbV))),qcV (qnz (qf3 (qaS (qbO (hu8 hr)) qcS qcU (qaa (pv 0)) (qah)) (qen (qaS (op_neT (hu8 hr)) qdH qdI (qaQ qaz qaO qaP (qaa (pv 2)) (qax qb6 qb4 qb5 (qaa (pv 0)) (qah)) (fun _ _=>rfl)) (qaa (pv 1)))))),qaa (pv 1)⟩) qbC.nd rfl rfl) (qal (qbh (qaS (op_neT (hu8 hr)) qdH qdI (qaa (pv 10)) (qaa (pv 12))) (qal (qaM (qdd))) (qaC)))))))) (qae (qkW (i:=13) (j:=14) rfl qbC.nd rfl rfl (by decide) rfl rfl (qax qaF qaU qaV (qah) (qao F_18 rfl (hr.mono (by decide)) rfl (qac (qaa (pv 0)) (qac (qah) (qac (qah) (qaj)))))) (qax qaF qaU qaV (qah) (qao F_18 rfl (hr.mono (by decide)) rfl (qac (qaa (pv 0)) (qac (qah) (qac (qah) (qaj)))))) rfl) (qae (qbh (qaS (op_neT (hu8 hr)) qdH qdI (qao F_36.kn rfl (hr.mono (by decide)) rfl (qac (qaD (qac (qaD (qac (qaN) (qac (qaa (pv 13)) (qaj)))) (qac (qaD (qac (qaN) (qac (qaa (pv 14)) (qaj)))) (qaj)))) (qac (qaa (pv 1)) (qaj)))) (qao F_36.kn rfl (hr.mono (by decide)) rfl (qac (qaD (qac (qaD (qac (qaN) (qac (qax qcd qd8 qed (qaa (pv 13)) (qaa (pv 14))) (qaj)))) (qaj))) (qac (qaa (pv 1)) (qaj))))) (qal (qaM (qdd))) (qaC)) (qae (qbh (qaS (op_neT (hu8 hr)) qdH qdI (qao F_36.kn rfl (hr.mono (by decide)) rfl (qac (qaD (qac (qaD (qac (qaN) (qac (qaa (pv 13)) (qaj)))) (qac (qaD (qac (qaN) (qac (qaa (pv 14)) (qaj)))) (qaj)))) (qac (qaa (pv 1)) (qaj)))) (qa7 (qdc (qbv (pv 1)) (qdv) (qcJ (qnG (qaE (qgg rfl) rfl (nb "min" (by decide)) qig (qar (qaa (pv 13)) (qar (qaa (pv 14)) qaH)))))))) (qal (qaM (qdd))) (qaC)) (qae (qa8 (i:=15) qbC.nd rfl (by first | exact Or.inl rfl | exact Or.inr rfl) (qax qb6 qb4 qb5 (qao F_18 rfl (hr.mono (by decide)) rfl (qac (qaa (pv 0)) (qac (qah) (qac (qah) (qaj))))) (qah))) (qae (qkW (i:=16) (j:=17) rfl qbC.nd rfl rfl (by decide) rfl rfl (qao F_36.kn rfl (hr.mono (by decide)) rfl (qac (qaD (qac (qaD (qac (qaN) (qac (qaa (pv 15)) (qaj)))) (qaj))) (qac (qaa (pv 1)) (qaj)))) (qao F_36.kn rfl (hr.mono (by decide)) rfl (qac (qaD (qac (qaD (qac (qaN) (qac (qax qaF qaU qaV (qaa (pv 15)) (qah)) (qaj)))) (qaj))) (qac (qaa (pv 1)) (qaj)))) rfl) (qal (qaM (qh8 (qh5 (qbO (hu8 hr)) qcS qcU (qax qaF qaU qaV (qbw rfl (nb "len" (by decide)) (qaa (pv 16))) (qbw rfl (nb "len" (by decide)) (qaa (pv 17)))) (qbw rfl (nb "len" (by decide)) (qaa (pv 1)))) (qh4 (qh5 (qbO (hu8 hr)) qcS qcU (qao F_36.kn rfl (hr.mono (by decide)) rfl (qac (qaD (qac (qaD (qac (qaN) (qac (qaa (pv 15)) (qaj)))) (qac (qaD (qac (qaN) (qac (qax qb6 qb4 qb5 (qah) (qaa (pv 15))) (qaj)))) (qaj)))) (qac (qaa (pv 1)) (qaj)))) (qaa (pv 1)))))))))))))))))))))))
end
end K12
end
section
namespace K12
open PySem L2 PL SetL
section
variable {P:Program} {w:World} {K:PySem.W.Frag} {mg:Str→Option Value} {base:Heap} {G:Gam} {C:Str→Addr}
theorem qsF {f:Addr} {fd:FuncData} (F:Fun K "is_step" "is_step" qr4 f fd) (nb: ∀x∈namesX,mg x=none) (kt: ∀N∈["int", "bool", "str", "tuple"],qhg K N) {u_3:Value} (cm_3:mg "GREATEST_STEP_NUMBER" =some u_3) (cr_3:RelV (.int 20) u_3) (F_25:Kn P w K mg base G C "is_key" ["thing"] 2 t_25) (F_8:Kn P w K mg base G C "is_whole_within" ["thing", "least", "greatest"] 2 t_8) (T_16:qi4 K mg w "BARE_STEPS" [(("running" :Str),("running" :Str)),(("change" :Str),("change" :Str)),(("unlike" :Str),("unlike" :Str))]) (T_12:qi4 K mg w "COUNT_STEPS" [(("first" :Str),("first" :Str)),(("each" :Str),("each" :Str)),(("window" :Str),("window" :Str))]) (T_9:qi4 K mg w "NUMBER_STEPS" [(("over" :Str),("over" :Str)),(("under" :Str),("under" :Str)),(("plus" :Str),("plus" :Str)),(("times" :Str),("times" :Str))]):qbe P w K mg base CX0 3 f fd ["thing"] (spP K G C t_24):=
 qch F qpX fun cdv A outer s H E hr=>qae (qbh (qnz (qf3 (qck (qcz (qcK (qaE (qa5 (kt "tuple" (by decide))) rfl (nb "isinstance" (by decide)) PyProof.Rows.boot_isinstance (qar (qaa (pv 0)) (qar (qcF (v:=.ty "tuple") rfl (nb "tuple" (by decide)) qdx rfl) qaH)))))) (qf3 (qaS (qbO (hu8 hr)) qcS qcU (qbw rfl (nb "len" (by decide)) (qaa (pv 0))) (qah)) (qen (qck (qcz (qcK (qaE (qa5 (kt "str" (by decide))) rfl (nb "isinstance" (by decide)) PyProof.Rows.boot_isinstance (qar (qaQ qaz qaO qaP (qaa (pv 0)) (qah) (fun _ _=>rfl)) (qar (qcF (v:=.ty "str") rfl (nb "str" (by decide)) PyProof.Rows.boot_str rfl) qaH)))))))))) (qal (qaM (qdd))) (qaC)) (qae (qa8 (i:=1) qpX.nd rfl (by first | exact Or.inl rfl | exact Or.inr rfl) (qaQ qaz qaO qaP (qaa (pv 0)) (qah) (fun _ _=>rfl))) (qae (qbh (qdT T_16 rfl (qaa (pv 1))) (qal (qaM (qh5 (qbO (hu8 hr)) qcS qcU (qbw rfl (nb "len" (by decide)) (qaa (pv 0))) (qah)))) (qaC)) (qae (qbh (qaS (op_neT (hu8 hr)) qdH qdI (qbw rfl (nb "len" (by decide)) (qaa (pv 0))) (qah)) (qal (qaM (qdd))) (qaC)) (qae (qbh (qaS (qbO (hu8 hr)) qcS qcU (qaa (pv 1)) (qaN)) (qal (qaM (qao F_25 rfl (hr.mono (by decide)) rfl (qac (qaQ qaz qaO qaP (qaa (pv 0)) (qah) (fun _ _=>rfl)) (qaj))))) (qaC)) (qae (qbh (qdT T_9 rfl (qaa (pv 1))) (qal (qaM (qao F_8 rfl (hr.mono (by decide)) rfl (qac (qaQ qaz qaO qaP (qaa (pv 0)) (qah) (fun _ _=>rfl)) (qac (qnF (qbK (qbE rfl cm_3 cr_3) (fun _=>qaX))) (qac (qbK (qbE rfl cm_3 cr_3) (fun _=>qaX)) (qaj))))))) (qaC)) (qal (qaM (qh8 (qmR T_12 rfl (qaa (pv 1))) (qh4 (qao F_8 rfl (hr.mono (by decide)) rfl (qac (qaQ qaz qaO qaP (qaa (pv 0)) (qah) (fun _ _=>rfl)) (qac (qah) (qac (qbK (qbE rfl cm_3 cr_3) (fun _=>qaX)) (qaj))))))))))))))
theorem qsv {f:Addr} {fd:FuncData} (F:Fun K "times" "times" qrf f fd) (nb: ∀x∈namesX,mg x=none):qbe P w K mg base CX0 1 f fd ["rows", "factor"] (spS K G C o_34):=
 qeR F qrJ fun cdv A outer s H E hr=>qal (qcl (qaZ (own:=["moment", "key", "number"]) (fr:=[("factor",1)]) rfl (qa9 (qaa (pv 0))) (qiH (qbQ (qbg) (qbQ (qbg) (qbQ (qbg) (qeP))))) rfl (by decide+kernel) (by decide+kernel) (RH.fr_ok (sd:=qaf qrf) rfl (by decide+kernel)) (fun p hp=>by simp only[List.mem_cons,List.not_mem_nil,or_false] at hp; subst hp; exact ⟨rfl,rfl⟩) (fun fp s3 H3=>⟨qcA rfl (qaA (qaR (qat (i:=0) (show (["moment", "key", "number", "factor"]:List Str).Nodup by decide+kernel) rfl (by first | exact Or.inl rfl | exact Or.inr rfl))) (qaA (qaR (qat (i:=1) (show (["moment", "key", "number", "factor"]:List Str).Nodup by decide+kernel) rfl (by first | exact Or.inl rfl | exact Or.inr rfl))) (qaA (qaR (qat (i:=2) (show (["moment", "key", "number", "factor"]:List Str).Nodup by decide+kernel) rfl (by first | exact Or.inl rfl | exact Or.inr rfl))) (qbV)))),qa6,qaD (qac (qaa (pv 0)) (qac (qaa (pv 1)) (qac (qax qcd qd8 qed (qaa (pv 2)) (qaa (pv 3))) (qaj))))⟩)))
theorem qsG {f:Addr} {fd:FuncData} (F:Fun K "running" "running" qr5 f fd) (nb: ∀x∈namesX,mg x=none):qbe P w K mg base CX0 1 f fd ["rows", "sums"] (spQ K G C q_23):=
 qdE F qjw rfl fun cdv A outer s H E pq hr=>qae (qdt (i:=2) qjw.nd rfl (by first | exact Or.inl rfl | exact Or.inr rfl) (qdF (qaj))) (qae (qep PassesOwn.never rfl (qa9 (qaa (pv 0))) (qcA rfl (qaA (qaR (qat (i:=3) qjw.nd rfl (by first | exact Or.inl rfl | exact Or.inr rfl))) (qaA (qaR (qat (i:=4) qjw.nd rfl (by first | exact Or.inl rfl | exact Or.inr rfl))) (qaA (qaR (qat (i:=5) qjw.nd rfl (by first | exact Or.inl rfl | exact Or.inr rfl))) (qbV))))) (qae (qds (hu1 hr) (pv 1) (qaa (pv 4)) (qax qaF qaU qaV (qdU (hu1 hr) (qb1 (pv 1)) (qaa (pv 4)) (qah) ⟨rfl,rfl,rfl,rfl⟩) (qaa (pv 5)))) (qal (qdb (qjW PySem.F.plainAttrs_list PySem.F.slot_list_append PySem.F.type_list_append qcf (pv 2) (qar (qaD (qac (qaa (pv 3)) (qac (qaa (pv 4)) (qac (qfk (hu1 hr) (qb1 (pv 1)) (qaa (pv 4))) (qaj))))) qaH)))))) (qal (qdu (pv 2))))
theorem qsB {f:Addr} {fd:FuncData} (F:Fun K "of_key" "of_key" qrh f fd) (nb: ∀x∈namesX,mg x=none):qbe P w K mg base CX0 1 f fd ["rows", "key"] (spS K G C o_28):=
 qeR F qrM fun cdv A outer s H E hr=>qal (qcl (qaZ (own:=["row"]) (fr:=[("key",1)]) rfl (qa9 (qaa (pv 0))) (qbg) rfl (by decide+kernel) (by decide+kernel) (RH.fr_ok (sd:=qaf qrh) rfl (by decide+kernel)) (fun p hp=>by simp only[List.mem_cons,List.not_mem_nil,or_false] at hp; subst hp; exact ⟨rfl,rfl⟩) (fun fp s3 H3=>⟨qaR (qat (i:=0) (show (["row", "key"]:List Str).Nodup by decide+kernel) rfl (by first | exact Or.inl rfl | exact Or.inr rfl)),qcV (qaS (qbO (hu8 hr)) qcS qcU (qaQ qaz qaO qaP (qaa (pv 0)) (qah) (fun _ _=>rfl)) (qaa (pv 1))),qaa (pv 0)⟩)))
theorem qsq {f:Addr} {fd:FuncData} (F:Fun K "each" "each" qrU f fd) (nb: ∀x∈namesX,mg x=none):qbe P w K mg base CX0 1 f fd ["rows", "many", "kept"] (spQ K G C q_39):=
 qdE F qpV rfl fun cdv A outer s H E pq hr=>qae (qa8 (i:=3) qpV.nd rfl (by first | exact Or.inl rfl | exact Or.inr rfl) (qdU (hu1 hr) (qb1 (pv 2)) (qaN) (qah) ⟨rfl,rfl,rfl,rfl⟩)) (qae (qds (hu1 hr) (pv 2) (qaN) (qax qeH qng qnk (qax qaF qaU qaV (qaa (pv 3)) (qbw rfl (nb "len" (by decide)) (qaa (pv 0)))) (qaa (pv 1)))) (qal (qcl (qk0 (qbv (pv 0)) (qcJ (qax qb6 qb4 qb5 (qax qb6 qb4 qb5 (qaa (pv 1)) (qah)) (qaa (pv 3)))) (qdv) (qcJ (qaa (pv 1)))))))
theorem qut {f:Addr} {fd:FuncData} (F:Fun K "refuse_what_is_no_ask" "refuse_what_is_no_ask" s_2 f fd) (nb: ∀x∈namesX,mg x=none) (F_32:Kn P w K mg base G C "is_ask" ["thing"] 4 t_32):qbe P w K mg base CX0 5 f fd ["ask"] (spP K G C t_2):=
 qch F qub fun cdv A outer s H E hr=>qal (qbh (qck (qcz (qao F_32 rfl (hr.mono (by decide)) rfl (qac (qaa (pv 0)) (qaj))))) (qeo) (qaC))
end
end K12
end
section
namespace K12
open PySem L2 PL SetL
section
variable {P:Program} {w:World} {K:PySem.W.Frag} {mg:Str→Option Value} {base:Heap} {G:Gam} {C:Str→Addr}
theorem qsM {f:Addr} {fd:FuncData} (F:Fun K "behind_step" "behind_step" qsd f fd) (nb: ∀x∈namesX,mg x=none) (F_30:KnQ P w K mg base G C "change" ["rows", "ahead"] 1 q_30) (F_39:KnQ P w K mg base G C "each" ["rows", "many", "kept"] 1 q_39) (F_35:KnQ P w K mg base G C "first" ["rows", "many", "kept"] 1 q_35) (F_28:KnS P w K mg base G C "of_key" ["rows", "key"] 1 o_28) (F_37:KnS P w K mg base G C "over" ["rows", "bound"] 1 o_37) (F_38:KnS P w K mg base G C "plus" ["rows", "more"] 1 o_38) (F_23:KnQ P w K mg base G C "running" ["rows", "sums"] 1 q_23) (F_34:KnS P w K mg base G C "times" ["rows", "factor"] 1 o_34) (F_33:KnS P w K mg base G C "under" ["rows", "bound"] 1 o_33) (F_31:KnQ P w K mg base G C "unlike" ["rows", "ahead"] 1 q_31) (F_29:KnQ P w K mg base G C "window" ["rows", "size", "sums"] 2 q_29) (T_16:qi4 K mg w "BARE_STEPS" [(("running" :Str),("running" :Str)),(("change" :Str),("change" :Str)),(("unlike" :Str),("unlike" :Str))]) (T_12:qi4 K mg w "COUNT_STEPS" [(("first" :Str),("first" :Str)),(("each" :Str),("each" :Str)),(("window" :Str),("window" :Str))]) (T_9:qi4 K mg w "NUMBER_STEPS" [(("over" :Str),("over" :Str)),(("under" :Str),("under" :Str)),(("plus" :Str),("plus" :Str)),(("times" :Str),("times" :Str))]):qbe P w K mg base CX0 3 f fd ["step", "rows", "kept"] (spQ K G C q_13):=
 qdE F qjx rfl fun cdv A outer s H E pq hr=>qae (qa8 (i:=3) qjx.nd rfl (by first | exact Or.inl rfl | exact Or.inr rfl) (qaQ qaz qaO qaP (qaa (pv 0)) (qah) (fun _ _=>rfl))) (qae (qbh (qaS (qbO (hu8 hr)) qcS qcU (qaa (pv 3)) (qaN)) (qal (qoZ (qmg F_28 rfl (hr.mono (by decide)) rfl (qac (qaa (pv 1)) (qac (qaQ qaz qaO qaP (qaa (pv 0)) (qah) (fun _ _=>rfl)) (qaj)))))) (qaC)) (qae (qbh (qdT T_9 rfl (qaa (pv 3))) (qae (qa8 (i:=4) qjx.nd rfl (by first | exact Or.inl rfl | exact Or.inr rfl) (qer T_9 rfl (qaa (pv 3)))) (qal (qoY (k:=1) (qhI ⟨F_37.up (by decide),F_33.up (by decide),F_38.up (by decide),F_34.up (by decide),trivial⟩) rfl (hr.mono (by decide)) (pv 4) (qac (qaa (pv 1)) (qac (qaQ qaz qaO qaP (qaa (pv 0)) (qah) (fun _ _=>rfl)) (qaj)))))) (qaC)) (qae (qbh (qdT T_12 rfl (qaa (pv 3))) (qae (qa8 (i:=4) qjx.nd rfl (by first | exact Or.inl rfl | exact Or.inr rfl) (qer T_12 rfl (qaa (pv 3)))) (qal (qkV (k:=2) (qhI ⟨F_35.up (by decide),F_39.up (by decide),F_29.up (by decide),trivial⟩) rfl (hr.mono (by decide)) (pv 4) (qb3 (qaa (pv 1)) (qb3 (qaQ qaz qaO qaP (qaa (pv 0)) (qah) (fun _ _=>rfl)) (qes (pv 2))))))) (qaC)) (qae (qa8 (i:=4) qjx.nd rfl (by first | exact Or.inl rfl | exact Or.inr rfl) (qer T_16 rfl (qaa (pv 3)))) (qal (qkV (k:=1) (qhI ⟨F_23.up (by decide),F_30.up (by decide),F_31.up (by decide),trivial⟩) rfl (hr.mono (by decide)) (pv 4) (qb3 (qaa (pv 1)) (qes (pv 2)))))))))
theorem qsH {f:Addr} {fd:FuncData} (F:Fun K "is_word" "is_word" qr6 f fd) (nb: ∀x∈namesX,mg x=none) (kt: ∀N∈["int", "bool", "str", "tuple"],qhg K N):qbe P w K mg base CX0 1 f fd ["thing", "longest"] (spP K G C t_22):=
 qch F qrQ fun cdv A outer s H E hr=>qae (qbh (qnz (qf3 (qck (qcz (qcK (qaE (qa5 (kt "str" (by decide))) rfl (nb "isinstance" (by decide)) PyProof.Rows.boot_isinstance (qar (qaa (pv 0)) (qar (qcF (v:=.ty "str") rfl (nb "str" (by decide)) PyProof.Rows.boot_str rfl) qaH)))))) (qen (qck (qmO qcG qcG qgC qgH qgC qgH (qah) (qbw rfl (nb "len" (by decide)) (qaa (pv 0))) (qaa (pv 1))))))) (qal (qaM (qdd))) (qaC)) (qal (qaM (qh9 (qaE (qdW rfl) rfl (nb "all" (by decide)) qdX (qar (qbB (qaZ (own:=["sign"]) (fr:=[]) rfl (qqV (qaa (pv 0))) (qbg) rfl (by decide+kernel) (by decide+kernel) (fun y hy e=>absurd e ((by decide+kernel: ∀y∈_,y.2≠NameKind.free) y hy)) (fun p hp=>nomatch hp) (fun fp s3 H3=>⟨qaR (qat (i:=0) (show (["sign"]:List Str).Nodup by decide+kernel) rfl (by first | exact Or.inl rfl | exact Or.inr rfl)),qa6,qh6 qcG qcG qgC qgH qgC qgH (qaN) (qaa (pv 0)) (qaN)⟩))) qaH)))))
theorem qsz {f:Addr} {fd:FuncData} (F:Fun K "change" "change" qrZ f fd) (nb: ∀x∈namesX,mg x=none):qbe P w K mg base CX0 1 f fd ["rows", "ahead"] (spQ K G C q_30):=
 qdE F qjv rfl fun cdv A outer s H E pq hr=>qae (qdt (i:=2) qjv.nd rfl (by first | exact Or.inl rfl | exact Or.inr rfl) (qdF (qaj))) (qae (qep PassesOwn.never rfl (qa9 (qaa (pv 0))) (qcA rfl (qaA (qaR (qat (i:=3) qjv.nd rfl (by first | exact Or.inl rfl | exact Or.inr rfl))) (qaA (qaR (qat (i:=4) qjv.nd rfl (by first | exact Or.inl rfl | exact Or.inr rfl))) (qaA (qaR (qat (i:=5) qjv.nd rfl (by first | exact Or.inl rfl | exact Or.inr rfl))) (qbV))))) (qae (qbh (qqR (hu1 hr) (qaa (pv 4)) (qb1 (pv 1))) (qal (qdb (qjW PySem.F.plainAttrs_list PySem.F.slot_list_append PySem.F.type_list_append qcf (pv 2) (qar (qaD (qac (qaa (pv 3)) (qac (qaa (pv 4)) (qac (qax qb6 qb4 qb5 (qaa (pv 5)) (qfk (hu1 hr) (qb1 (pv 1)) (qaa (pv 4)))) (qaj))))) qaH)))) (qaC)) (qal (qds (hu1 hr) (pv 1) (qaa (pv 4)) (qaa (pv 5)))))) (qal (qdu (pv 2))))
theorem quv {f:Addr} {fd:FuncData} (F:Fun K "refuse_what_is_no_row" "refuse_what_is_no_row" s_0 f fd) (nb: ∀x∈namesX,mg x=none) (F_26:Kn P w K mg base G C "is_row" ["thing"] 3 t_26):qbe P w K mg base CX0 4 f fd ["rows"] (spP K G C t_0):=
 qch F qud fun cdv A outer s H E hr=>qal (qbh (qck (qcz (qh9 (qaE (qdW rfl) rfl (nb "all" (by decide)) qdX (qar (qbB (qaZ (own:=["row"]) (fr:=[]) rfl (qa9 (qaa (pv 0))) (qbg) rfl (by decide+kernel) (by decide+kernel) (fun y hy e=>absurd e ((by decide+kernel: ∀y∈_,y.2≠NameKind.free) y hy)) (fun p hp=>nomatch hp) (fun fp s3 H3=>⟨qaR (qat (i:=0) (show (["row"]:List Str).Nodup by decide+kernel) rfl (by first | exact Or.inl rfl | exact Or.inr rfl)),qa6,qao F_26 rfl (hr.mono (by decide)) rfl (qac (qaa (pv 0)) (qaj))⟩))) qaH))))) (qeo) (qaC))
theorem quu {f:Addr} {fd:FuncData} (F:Fun K "refuse_what_is_no_log" "refuse_what_is_no_log" s_1 f fd) (nb: ∀x∈namesX,mg x=none) (F_4:Kn P w K mg base G C "refuse_out_of_order" ["rows"] 2 t_4) (F_0:Kn P w K mg base G C "refuse_what_is_no_row" ["rows"] 4 t_0):qbe P w K mg base CX0 5 f fd ["rows"] (spP K G C t_1):=
 qch F quc fun cdv A outer s H E hr=>qae (qfj (qao F_0 rfl (hr.mono (by decide)) rfl (qac (qaa (pv 0)) (qaj)))) (qal (qfj (qao F_4 rfl (hr.mono (by decide)) rfl (qac (qaa (pv 0)) (qaj)))))
end
end K12
end
section
namespace K12
open PySem L2 PL SetL
section
variable {P:Program} {w:World} {K:PySem.W.Frag} {mg:Str→Option Value} {base:Heap} {G:Gam} {C:Str→Addr}
theorem qsK {f:Addr} {fd:FuncData} (F:Fun K "_law_rows" "_law_rows" qr9 f fd) (nb: ∀x∈namesX,mg x=none) (F_21:Kn P w K mg base G C "_law_key" ["_law_script", "_law_at"] 3 qna) (F_14:Kn P w K mg base G C "_law_number" ["_law_script", "_law_at", "_law_most"] 3 qnW) (F_18:Kn P w K mg base G C "_law_pick" ["_law_script", "_law_k", "_law_many"] 2 qcP):qbe P w K mg base CX0 4 f fd ["_law_script", "_law_at", "_law_most"] (spP K G C qpw):=
 qch F qgA fun cdv A outer s H E hr=>qae (qdt (i:=3) qgA.nd rfl (by first | exact Or.inl rfl | exact Or.inr rfl) (qdF (qaj))) (qae (qa8 (i:=4) qgA.nd rfl (by first | exact Or.inl rfl | exact Or.inr rfl) (qao F_18 rfl (hr.mono (by decide)) rfl (qac (qaa (pv 0)) (qac (qaa (pv 1)) (qac (qah) (qaj)))))) (qae (qa8 (i:=5) qgA.nd rfl (by first | exact Or.inl rfl | exact Or.inr rfl) (qaQ qaz qaO qaP (qa7 (qdF (qac (qah) (qac (qah) (qac (qah) (qac (qah) (qaj))))))) (qao F_18 rfl (hr.mono (by decide)) rfl (qac (qaa (pv 0)) (qac (qax qaF qaU qaV (qaa (pv 1)) (qah)) (qac (qah) (qaj))))) (fun _ _=>rfl))) (qae (qep PassesOwn.never rfl (qkZ rfl (nb "range" (by decide)) (qac (qao F_18 rfl (hr.mono (by decide)) rfl (qac (qaa (pv 0)) (qac (qax qaF qaU qaV (qaa (pv 1)) (qah)) (qac (qax qaF qaU qaV (qaa (pv 2)) (qah)) (qaj))))) (qaj))) (qaR (qat (i:=6) qgA.nd rfl (by first | exact Or.inl rfl | exact Or.inr rfl))) (qae (qa8 (i:=7) qgA.nd rfl (by first | exact Or.inl rfl | exact Or.inr rfl) (qax qaF qaU qaV (qax qaF qaU qaV (qaa (pv 1)) (qah)) (qax qcd qd8 qed (qah) (qaa (pv 6))))) (qae (qa8 (i:=4) qgA.nd rfl (by first | exact Or.inl rfl | exact Or.inr rfl) (qnG (qaE (qgg rfl) rfl (nb "min" (by decide)) qig (qar (qah) (qar (qax qaF qaU qaV (qaa (pv 4)) (qao F_18 rfl (hr.mono (by decide)) rfl (qac (qaa (pv 0)) (qac (qaa (pv 7)) (qac (qaa (pv 5)) (qaj)))))) qaH))))) (qal (qdb (qjW PySem.F.plainAttrs_list PySem.F.slot_list_append PySem.F.type_list_append qcf (pv 3) (qar (qaD (qac (qaa (pv 4)) (qac (qao F_21 rfl (hr.mono (by decide)) rfl (qac (qaa (pv 0)) (qac (qax qaF qaU qaV (qaa (pv 7)) (qah)) (qaj)))) (qac (qao F_14 rfl (hr.mono (by decide)) rfl (qac (qaa (pv 0)) (qac (qax qaF qaU qaV (qaa (pv 7)) (qah)) (qac (qah) (qaj))))) (qaj))))) qaH))))))) (qal (qnA 3 (qaM (qaa (pv 3))))))))
theorem qst {f:Addr} {fd:FuncData} (F:Fun K "asked" "asked" qrV f fd) (nb: ∀x∈namesX,mg x=none) (F_5:KnQ P w K mg base G C "behind_last_rows" ["step", "rows", "kept"] 4 q_5) (F_2:Kn P w K mg base G C "refuse_what_is_no_ask" ["ask"] 5 t_2) (F_1:Kn P w K mg base G C "refuse_what_is_no_log" ["rows"] 5 t_1):qbe P w K mg base CX0 6 f fd ["ask", "rows"] (spS K G C o_36):=
 qeR F qlV fun cdv A outer s H E hr=>qae (qfj (qao F_2 rfl (hr.mono (by decide)) rfl (qac (qaa (pv 0)) (qaj)))) (qae (qfj (qao F_1 rfl (hr.mono (by decide)) rfl (qac (qaa (pv 1)) (qaj)))) (qae (qdt (i:=2) qlV.nd rfl (by first | exact Or.inl rfl | exact Or.inr rfl) (qo3 (qjV qgh rfl (nb "list" (by decide)) qlj (qar (qbv (pv 1)) qaH)))) (qae (qep PassesOwn.never rfl (qa9 (qaa (pv 0))) (qaR (qat (i:=3) qlV.nd rfl (by first | exact Or.inl rfl | exact Or.inr rfl))) (qal (qnA 2 (qoX (j:=2) qlV.nd rfl (by first | exact Or.inl rfl | exact Or.inr rfl) (qmh F_5 rfl (hr.mono (by decide)) rfl (qia (qaa (pv 3)) (qia (qaa (pv 2)) (qpd)))))))) (qal (qdu (pv 2))))))
theorem qsC {f:Addr} {fd:FuncData} (F:Fun K "is_log" "is_log" qr1 f fd) (nb: ∀x∈namesX,mg x=none):qbe P w K mg base CX0 1 f fd ["rows"] (spP K G C t_27):=
 qch F qrN fun cdv A outer s H E hr=>qal (qaM (qh9 (qaE (qdW rfl) rfl (nb "all" (by decide)) qdX (qar (qbB (qaZ (own:=["ahead", "row"]) (fr:=[]) rfl (qqU rfl (nb "zip" (by decide)) (qac (qaa (pv 0)) (qac (qa7 (qdc (qbv (pv 0)) (qcJ (qah)) (qdv))) (qaj)))) (qiH (qbQ (qbg) (qbQ (qbg) (qeP)))) rfl (by decide+kernel) (by decide+kernel) (fun y hy e=>absurd e ((by decide+kernel: ∀y∈_,y.2≠NameKind.free) y hy)) (fun p hp=>nomatch hp) (fun fp s3 H3=>⟨qcA rfl (qaA (qaR (qat (i:=0) (show (["ahead", "row"]:List Str).Nodup by decide+kernel) rfl (by first | exact Or.inl rfl | exact Or.inr rfl))) (qaA (qaR (qat (i:=1) (show (["ahead", "row"]:List Str).Nodup by decide+kernel) rfl (by first | exact Or.inl rfl | exact Or.inr rfl))) (qbV))),qa6,qh5 qcG qgC qgH (qaQ qaz qaO qaP (qaa (pv 0)) (qah) (fun _ _=>rfl)) (qaQ qaz qaO qaP (qaa (pv 1)) (qah) (fun _ _=>rfl))⟩))) qaH))))
theorem qur {f:Addr} {fd:FuncData} (F:Fun K "behind_last_rows" "behind_last_rows" s_5 f fd) (nb: ∀x∈namesX,mg x=none) (F_13:KnQ P w K mg base G C "behind_step" ["step", "rows", "kept"] 3 q_13) (F_11:Kn P w K mg base G C "window_rows" ["size", "sums"] 1 t_11):qbe P w K mg base CX0 4 f fd ["step", "rows", "kept"] (spQ K G C q_5):=
 qdE F qtv rfl fun cdv A outer s H E pq hr=>qae (qoW (j:=3) qtv.nd rfl (by first | exact Or.inl rfl | exact Or.inr rfl) (qmf F_13 rfl (hr.mono (by decide)) rfl (qb3 (qaa (pv 0)) (qb3 (qaa (pv 1)) (qes (pv 2)))))) (qae (qbh (qaS (qbO (hu8 hr)) qcS qcU (qaQ qaz qaO qaP (qaa (pv 0)) (qah) (fun _ _=>rfl)) (qaN)) (qal (qcl (qqW (qbv (pv 3)) (qqT (qh7 F_11 rfl (hr.mono (by decide)) rfl (qb3 (qaQ qaz qaO qaP (qaa (pv 0)) (qah) (fun _ _=>rfl)) (qes (pv 2)))))))) (qaC)) (qal (qdu (pv 3))))
theorem qsJ {f:Addr} {fd:FuncData} (F:Fun K "is_whole" "is_whole" qr8 f fd) (nb: ∀x∈namesX,mg x=none) (kt: ∀N∈["int", "bool", "str", "tuple"],qhg K N):qbe P w K mg base CX0 1 f fd ["thing"] (spP K G C t_20):=
 qch F qrR fun cdv A outer s H E hr=>qal (qaM (qh8 (qcK (qaE (qa5 (kt "int" (by decide))) rfl (nb "isinstance" (by decide)) PyProof.Rows.boot_isinstance (qar (qaa (pv 0)) (qar (qcF (v:=.ty "int") rfl (nb "int" (by decide)) PyProof.Rows.boot_int rfl) qaH)))) (qh4 (qqY (qcK (qaE (qa5 (kt "bool" (by decide))) rfl (nb "isinstance" (by decide)) PyProof.Rows.boot_isinstance (qar (qaa (pv 0)) (qar (qcF (v:=.ty "bool") rfl (nb "bool" (by decide)) PyProof.Rows.boot_bool rfl) qaH))))))))
theorem quq {f:Addr} {fd:FuncData} (F:Fun K "is_whole_within" "is_whole_within" s_8 f fd) (nb: ∀x∈namesX,mg x=none) (F_20:Kn P w K mg base G C "is_whole" ["thing"] 1 t_20):qbe P w K mg base CX0 2 f fd ["thing", "least", "greatest"] (spP K G C t_8):=
 qch F qt9 fun cdv A outer s H E hr=>qal (qaM (qh8 (qao F_20 rfl (hr.mono (by decide)) rfl (qac (qaa (pv 0)) (qaj))) (qh4 (qh6 qcG qcG qgC qgH qgC qgH (qaa (pv 1)) (qaa (pv 0)) (qaa (pv 2))))))
end
end K12
end
section
namespace K12
open PySem L2 PL SetL
section
variable {P:Program} {w:World} {K:PySem.W.Frag} {mg:Str→Option Value} {base:Heap} {G:Gam} {C:Str→Addr}
theorem qsD {f:Addr} {fd:FuncData} (F:Fun K "is_row" "is_row" qr2 f fd) (nb: ∀x∈namesX,mg x=none) (kt: ∀N∈["int", "bool", "str", "tuple"],qhg K N) {u_6:Value} (cm_6:mg "GREATEST_MOMENT" =some u_6) (cr_6:RelV (.int 99) u_6) {u_7:Value} (cm_7:mg "GREATEST_NUMBER" =some u_7) (cr_7:RelV (.int 99) u_7) (F_25:Kn P w K mg base G C "is_key" ["thing"] 2 t_25) (F_8:Kn P w K mg base G C "is_whole_within" ["thing", "least", "greatest"] 2 t_8):qbe P w K mg base CX0 3 f fd ["thing"] (spP K G C t_26):=
 qch F qrO fun cdv A outer s H E hr=>qae (qbh (qnz (qf3 (qck (qcz (qcK (qaE (qa5 (kt "tuple" (by decide))) rfl (nb "isinstance" (by decide)) PyProof.Rows.boot_isinstance (qar (qaa (pv 0)) (qar (qcF (v:=.ty "tuple") rfl (nb "tuple" (by decide)) qdx rfl) qaH)))))) (qen (qaS (op_neT (hu8 hr)) qdH qdI (qbw rfl (nb "len" (by decide)) (qaa (pv 0))) (qah))))) (qal (qaM (qdd))) (qaC)) (qae (qbh (qnz (qf3 (qck (qcz (qao F_8 rfl (hr.mono (by decide)) rfl (qac (qaQ qaz qaO qaP (qaa (pv 0)) (qah) (fun _ _=>rfl)) (qac (qah) (qac (qbK (qbE rfl cm_6 cr_6) (fun _=>qaX)) (qaj))))))) (qen (qck (qcz (qao F_25 rfl (hr.mono (by decide)) rfl (qac (qaQ qaz qaO qaP (qaa (pv 0)) (qah) (fun _ _=>rfl)) (qaj)))))))) (qal (qaM (qdd))) (qaC)) (qal (qaM (qao F_8 rfl (hr.mono (by decide)) rfl (qac (qaQ qaz qaO qaP (qaa (pv 0)) (qah) (fun _ _=>rfl)) (qac (qnF (qbK (qbE rfl cm_7 cr_7) (fun _=>qaX))) (qac (qbK (qbE rfl cm_7 cr_7) (fun _=>qaX)) (qaj))))))))
theorem qsx {f:Addr} {fd:FuncData} (F:Fun K "is_ask" "is_ask" qrX f fd) (nb: ∀x∈namesX,mg x=none) (kt: ∀N∈["int", "bool", "str", "tuple"],qhg K N) {u_15:Value} (cm_15:mg "MOST_STEPS" =some u_15) (cr_15:RelV (.int 5) u_15) (F_24:Kn P w K mg base G C "is_step" ["thing"] 3 t_24):qbe P w K mg base CX0 4 f fd ["thing"] (spP K G C t_32):=
 qch F qrL fun cdv A outer s H E hr=>qae (qbh (qnz (qf3 (qck (qcz (qcK (qaE (qa5 (kt "tuple" (by decide))) rfl (nb "isinstance" (by decide)) PyProof.Rows.boot_isinstance (qar (qaa (pv 0)) (qar (qcF (v:=.ty "tuple") rfl (nb "tuple" (by decide)) qdx rfl) qaH)))))) (qen (qaS qmk qlY ql5 (qbw rfl (nb "len" (by decide)) (qaa (pv 0))) (qbK (qbE rfl cm_15 cr_15) (fun _=>qaX)))))) (qal (qaM (qdd))) (qaC)) (qal (qaM (qh9 (qaE (qdW rfl) rfl (nb "all" (by decide)) qdX (qar (qbB (qaZ (own:=["step"]) (fr:=[]) rfl (qa9 (qaa (pv 0))) (qbg) rfl (by decide+kernel) (by decide+kernel) (fun y hy e=>absurd e ((by decide+kernel: ∀y∈_,y.2≠NameKind.free) y hy)) (fun p hp=>nomatch hp) (fun fp s3 H3=>⟨qaR (qat (i:=0) (show (["step"]:List Str).Nodup by decide+kernel) rfl (by first | exact Or.inl rfl | exact Or.inr rfl)),qa6,qao F_24 rfl (hr.mono (by decide)) rfl (qac (qaa (pv 0)) (qaj))⟩))) qaH)))))
theorem qsr {f:Addr} {fd:FuncData} (F:Fun K "plus" "plus" qrd f fd) (nb: ∀x∈namesX,mg x=none):qbe P w K mg base CX0 1 f fd ["rows", "more"] (spS K G C o_38):=
 qeR F qrH fun cdv A outer s H E hr=>qal (qcl (qaZ (own:=["moment", "key", "number"]) (fr:=[("more",1)]) rfl (qa9 (qaa (pv 0))) (qiH (qbQ (qbg) (qbQ (qbg) (qbQ (qbg) (qeP))))) rfl (by decide+kernel) (by decide+kernel) (RH.fr_ok (sd:=qaf qrd) rfl (by decide+kernel)) (fun p hp=>by simp only[List.mem_cons,List.not_mem_nil,or_false] at hp; subst hp; exact ⟨rfl,rfl⟩) (fun fp s3 H3=>⟨qcA rfl (qaA (qaR (qat (i:=0) (show (["moment", "key", "number", "more"]:List Str).Nodup by decide+kernel) rfl (by first | exact Or.inl rfl | exact Or.inr rfl))) (qaA (qaR (qat (i:=1) (show (["moment", "key", "number", "more"]:List Str).Nodup by decide+kernel) rfl (by first | exact Or.inl rfl | exact Or.inr rfl))) (qaA (qaR (qat (i:=2) (show (["moment", "key", "number", "more"]:List Str).Nodup by decide+kernel) rfl (by first | exact Or.inl rfl | exact Or.inr rfl))) (qbV)))),qa6,qaD (qac (qaa (pv 0)) (qac (qaa (pv 1)) (qac (qax qaF qaU qaV (qaa (pv 2)) (qaa (pv 3))) (qaj))))⟩)))
theorem qsN {f:Addr} {fd:FuncData} (F:Fun K "window_rows" "window_rows" qri f fd) (nb: ∀x∈namesX,mg x=none):qbe P w K mg base CX0 1 f fd ["size", "sums"] (spP K G C t_11):=
 qch F qrT fun cdv A outer s H E hr=>qal (qaM (qa7 (qaZ (own:=["place"]) (fr:=[("size",0),("sums",1)]) rfl (qa9 (qa7 (qiM rfl rfl (nb "sorted" (by decide)) (qb1 (pv 1))))) (qbg) rfl (by decide+kernel) (by decide+kernel) (RH.fr_ok (sd:=qaf qri) rfl (by decide+kernel)) (fun p hp=>by simp only[List.mem_cons,List.not_mem_nil,or_false] at hp; rcases hp with rfl | rfl<;>exact ⟨rfl,rfl⟩) (fun fp s3 H3=>⟨qaR (qat (i:=0) (show (["place", "size", "sums"]:List Str).Nodup by decide+kernel) rfl (by first | exact Or.inl rfl | exact Or.inr rfl)),qa6,qaD (qac (qax qb6 qb4 qb5 (qax qcd qd8 qed (qax qaF qaU qaV (qaQ qaz qaO qaP (qaa (pv 0)) (qah) (fun _ _=>rfl)) (qah)) (qaa (pv 1))) (qah)) (qac (qaQ qaz qaO qaP (qaa (pv 0)) (qah) (fun _ _=>rfl)) (qac (qfk (hu1 hr) (qb1 (pv 2)) (qaa (pv 0))) (qaj))))⟩))))
theorem qsw {f:Addr} {fd:FuncData} (F:Fun K "under" "under" qrg f fd) (nb: ∀x∈namesX,mg x=none):qbe P w K mg base CX0 1 f fd ["rows", "bound"] (spS K G C o_33):=
 qeR F qrK fun cdv A outer s H E hr=>qal (qcl (qaZ (own:=["row"]) (fr:=[("bound",1)]) rfl (qa9 (qaa (pv 0))) (qbg) rfl (by decide+kernel) (by decide+kernel) (RH.fr_ok (sd:=qaf qrg) rfl (by decide+kernel)) (fun p hp=>by simp only[List.mem_cons,List.not_mem_nil,or_false] at hp; subst hp; exact ⟨rfl,rfl⟩) (fun fp s3 H3=>⟨qaR (qat (i:=0) (show (["row", "bound"]:List Str).Nodup by decide+kernel) rfl (by first | exact Or.inl rfl | exact Or.inr rfl)),qcV (qaS qj1 qpZ qqa (qaQ qaz qaO qaP (qaa (pv 0)) (qah) (fun _ _=>rfl)) (qaa (pv 1))),qaa (pv 0)⟩)))
theorem qsu {f:Addr} {fd:FuncData} (F:Fun K "first" "first" qrW f fd) (nb: ∀x∈namesX,mg x=none):qbe P w K mg base CX0 1 f fd ["rows", "many", "kept"] (spQ K G C q_35):=
 qdE F qpW rfl fun cdv A outer s H E pq hr=>qae (qa8 (i:=3) qpW.nd rfl (by first | exact Or.inl rfl | exact Or.inr rfl) (qdU (hu1 hr) (qb1 (pv 2)) (qaN) (qah) ⟨rfl,rfl,rfl,rfl⟩)) (qae (qds (hu1 hr) (pv 2) (qaN) (qax qaF qaU qaV (qaa (pv 3)) (qbw rfl (nb "len" (by decide)) (qaa (pv 0))))) (qal (qcl (qdc (qbv (pv 0)) (qdv) (qcJ (qo6 (qaE (qlf rfl) rfl (nb "max" (by decide)) qgl (qar (qax qb6 qb4 qb5 (qaa (pv 1)) (qaa (pv 3))) (qar (qah) qaH)))))))))
end
end K12
end
section
namespace K12
open PySem L2 PL SetL
section
variable {P:Program} {w:World} {K:PySem.W.Frag} {mg:Str→Option Value} {base:Heap} {G:Gam} {C:Str→Addr}
theorem qsA {f:Addr} {fd:FuncData} (F:Fun K "window" "window" qr0 f fd) (nb: ∀x∈namesX,mg x=none) (F_11:Kn P w K mg base G C "window_rows" ["size", "sums"] 1 t_11):qbe P w K mg base CX0 2 f fd ["rows", "size", "sums"] (spQ K G C q_29):=
 qdE F qip rfl fun cdv A outer s H E pq hr=>qmP 2 (qae (qdt (i:=3) qip.nd rfl (by first | exact Or.inl rfl | exact Or.inr rfl) (qdF (qaj))) (qae (qep PassesOwn.never rfl (qa9 (qaa (pv 0))) (qcA rfl (qaA (qaR (qat (i:=4) qip.nd rfl (by first | exact Or.inl rfl | exact Or.inr rfl))) (qaA (qaR (qat (i:=5) qip.nd rfl (by first | exact Or.inl rfl | exact Or.inr rfl))) (qaA (qaR (qat (i:=6) qip.nd rfl (by first | exact Or.inl rfl | exact Or.inr rfl))) (qbV))))) (qae (qa8 (i:=7) qip.nd rfl (by first | exact Or.inl rfl | exact Or.inr rfl) (qaD (qac (qax qj3 qp0 qqb (qaa (pv 4)) (qaa (pv 1))) (qac (qaa (pv 5)) (qaj))))) (qae (qbh (qnz (qqQ (qaS qmk qlY ql5 (qo5 rfl (nb "len" (by decide)) (qb1 (pv 2))) (qah)) (qoU (qaS qj1 qpZ qqa (qaQ qaz qaO qaP (qo4 rfl (hu8 hr) rfl (nb "max" (by decide)) (qb1 (pv 2))) (qah) (fun _ _=>rfl)) (qaQ qaz qaO qaP (qaa (pv 7)) (qah) (fun _ _=>rfl)))))) (qae (qkX (qjW PySem.F.plainAttrs_list PySem.F.slot_list_extend PySem.F.type_list_extend qj9 (pv 3) (qar (qqT (qh7 F_11 rfl (hr.mono (by decide)) rfl (qb3 (qaa (pv 1)) (qes (pv 2))))) qaH))) (qal (qoV (pv 2)))) (qaC)) (qal (qds (hu1 hr) (pv 2) (qaa (pv 7)) (qax qaF qaU qaV (qdU (hu1 hr) (qb1 (pv 2)) (qaa (pv 7)) (qah) ⟨rfl,rfl,rfl,rfl⟩) (qaa (pv 6)))))))) (qal (qdu (pv 3)))))
theorem qsI {f:Addr} {fd:FuncData} (F:Fun K "_law_key" "_law_key" qr7 f fd) (nb: ∀x∈namesX,mg x=none) (F_18:Kn P w K mg base G C "_law_pick" ["_law_script", "_law_k", "_law_many"] 2 qcP):qbe P w K mg base CX0 3 f fd ["_law_script", "_law_at"] (spP K G C qna):=
 qch F qlW fun cdv A outer s H E hr=>qae (qa8 (i:=2) qlW.nd rfl (by first | exact Or.inl rfl | exact Or.inr rfl) (qaN)) (qae (qa8 (i:=3) qlW.nd rfl (by first | exact Or.inl rfl | exact Or.inr rfl) (qao F_18 rfl (hr.mono (by decide)) rfl (qac (qaa (pv 0)) (qac (qaa (pv 1)) (qac (qah) (qaj)))))) (qae (qbh (qaS qmk qlY ql5 (qaa (pv 3)) (qah)) (qal (qaM (qaQ qaz qaO qaP (qa7 (qdF (qac (qaN) (qac (qaN) (qac (qaN) (qaj)))))) (qax qeH qng qnk (qaa (pv 3)) (qah)) (fun _ _=>rfl)))) (qaC)) (qae (qa8 (i:=4) qlW.nd rfl (by first | exact Or.inl rfl | exact Or.inr rfl) (qaQ qaz qaO qaP (qaa (pv 2)) (qao F_18 rfl (hr.mono (by decide)) rfl (qac (qaa (pv 0)) (qac (qax qaF qaU qaV (qaa (pv 1)) (qah)) (qac (qah) (qaj))))) (fun _ _=>rfl))) (qae (qbh (qaS (qbO (hu8 hr)) qcS qcU (qao F_18 rfl (hr.mono (by decide)) rfl (qac (qaa (pv 0)) (qac (qax qaF qaU qaV (qaa (pv 1)) (qah)) (qac (qah) (qaj))))) (qah)) (qal (qaM (qaa (pv 4)))) (qaC)) (qal (qaM (qax qaF qaU qaV (qaa (pv 4)) (qaQ qaz qaO qaP (qaa (pv 2)) (qao F_18 rfl (hr.mono (by decide)) rfl (qac (qaa (pv 0)) (qac (qax qaF qaU qaV (qaa (pv 1)) (qah)) (qac (qah) (qaj))))) (fun _ _=>rfl)))))))))
theorem qsy {f:Addr} {fd:FuncData} (F:Fun K "unlike" "unlike" qrY f fd) (nb: ∀x∈namesX,mg x=none):qbe P w K mg base CX0 1 f fd ["rows", "ahead"] (spQ K G C q_31):=
 qdE F qju rfl fun cdv A outer s H E pq hr=>qae (qdt (i:=2) qju.nd rfl (by first | exact Or.inl rfl | exact Or.inr rfl) (qdF (qaj))) (qae (qep PassesOwn.never rfl (qa9 (qaa (pv 0))) (qcA rfl (qaA (qaR (qat (i:=3) qju.nd rfl (by first | exact Or.inl rfl | exact Or.inr rfl))) (qaA (qaR (qat (i:=4) qju.nd rfl (by first | exact Or.inl rfl | exact Or.inr rfl))) (qaA (qaR (qat (i:=5) qju.nd rfl (by first | exact Or.inl rfl | exact Or.inr rfl))) (qbV))))) (qae (qbh (qnz (qf3 (qkU (hu1 hr) (qaa (pv 4)) (qb1 (pv 1))) (qen (qaS (op_neT (hu8 hr)) qdH qdI (qfk (hu1 hr) (qb1 (pv 1)) (qaa (pv 4))) (qaa (pv 5)))))) (qal (qdb (qjW PySem.F.plainAttrs_list PySem.F.slot_list_append PySem.F.type_list_append qcf (pv 2) (qar (qaD (qac (qaa (pv 3)) (qac (qaa (pv 4)) (qac (qaa (pv 5)) (qaj))))) qaH)))) (qaC)) (qal (qds (hu1 hr) (pv 1) (qaa (pv 4)) (qaa (pv 5)))))) (qal (qdu (pv 2))))
theorem qsL {f:Addr} {fd:FuncData} (F:Fun K "_law_number" "_law_number" qsc f fd) (nb: ∀x∈namesX,mg x=none) (F_18:Kn P w K mg base G C "_law_pick" ["_law_script", "_law_k", "_law_many"] 2 qcP):qbe P w K mg base CX0 3 f fd ["_law_script", "_law_at", "_law_most"] (spP K G C qnW):=
 qch F qrS fun cdv A outer s H E hr=>qae (qbh (qaS (qbO (hu8 hr)) qcS qcU (qao F_18 rfl (hr.mono (by decide)) rfl (qac (qaa (pv 0)) (qac (qaa (pv 1)) (qac (qah) (qaj))))) (qah)) (qal (qaM (qax qb6 qb4 qb5 (qao F_18 rfl (hr.mono (by decide)) rfl (qac (qaa (pv 0)) (qac (qax qaF qaU qaV (qaa (pv 1)) (qah)) (qac (qax qaF qaU qaV (qax qcd qd8 qed (qah) (qaa (pv 2))) (qah)) (qaj))))) (qaa (pv 2))))) (qaC)) (qal (qaM (qax qb6 qb4 qb5 (qao F_18 rfl (hr.mono (by decide)) rfl (qac (qaa (pv 0)) (qac (qax qaF qaU qaV (qaa (pv 1)) (qah)) (qac (qah) (qaj))))) (qah))))
theorem qss {f:Addr} {fd:FuncData} (F:Fun K "over" "over" qre f fd) (nb: ∀x∈namesX,mg x=none):qbe P w K mg base CX0 1 f fd ["rows", "bound"] (spS K G C o_37):=
 qeR F qrI fun cdv A outer s H E hr=>qal (qcl (qaZ (own:=["row"]) (fr:=[("bound",1)]) rfl (qa9 (qaa (pv 0))) (qbg) rfl (by decide+kernel) (by decide+kernel) (RH.fr_ok (sd:=qaf qre) rfl (by decide+kernel)) (fun p hp=>by simp only[List.mem_cons,List.not_mem_nil,or_false] at hp; subst hp; exact ⟨rfl,rfl⟩) (fun fp s3 H3=>⟨qaR (qat (i:=0) (show (["row", "bound"]:List Str).Nodup by decide+kernel) rfl (by first | exact Or.inl rfl | exact Or.inr rfl)),qcV (qaS qmk qlY ql5 (qaQ qaz qaO qaP (qaa (pv 0)) (qah) (fun _ _=>rfl)) (qaa (pv 1))),qaa (pv 0)⟩)))
theorem qsE {f:Addr} {fd:FuncData} (F:Fun K "is_key" "is_key" qr3 f fd) (nb: ∀x∈namesX,mg x=none) {u_10:Value} (cm_10:mg "LONGEST_KEY" =some u_10) (cr_10:RelV (.int 2) u_10) (F_22:Kn P w K mg base G C "is_word" ["thing", "longest"] 1 t_22):qbe P w K mg base CX0 2 f fd ["thing"] (spP K G C t_25):=
 qch F qrP fun cdv A outer s H E hr=>qal (qaM (qao F_22 rfl (hr.mono (by decide)) rfl (qac (qaa (pv 0)) (qac (qbK (qbE rfl cm_10 cr_10) (fun _=>qaX)) (qaj)))))
theorem qus {f:Addr} {fd:FuncData} (F:Fun K "refuse_out_of_order" "refuse_out_of_order" s_4 f fd) (nb: ∀x∈namesX,mg x=none) (F_27:Kn P w K mg base G C "is_log" ["rows"] 1 t_27):qbe P w K mg base CX0 2 f fd ["rows"] (spP K G C t_4):=
 qch F qua fun cdv A outer s H E hr=>qal (qbh (qck (qcz (qao F_27 rfl (hr.mono (by decide)) rfl (qac (qaa (pv 0)) (qaj))))) (qeo) (qaC))
end
end K12
end
section
end
section
namespace HD
open PySem L2 PL
abbrev e2 (x:Str) (s:Stmt):Str×Stmt:=(x,s)
abbrev c2 (x:Str) (n:Int):Str×Int:=(x,n)
def fnAt (K:PySem.W.Frag) (x:Str):Option (Addr×Obj):=match PySem.W.nsIn K mainGlobals x with
 | some (some (.ref f))=>(match K.lookup f with | some o=>some (f,o) | none=>none)
 | _=>none
def qmC (K:PySem.W.Frag) (x:Str):Option FuncData:=match fnAt K x with
 | some (_,⟨_,_,.func fd,_⟩)=>some fd
 | _=>none
def okD (K:PySem.W.Frag) (x:Str):Bool:=match fnAt K x with
 | some (f,⟨_,_,.func fd,_⟩)=>PySem.W.codeIn K fd.code x&&PySem.W.keepIn K (.ref f)
 | _=>false
def due (x:Str) (st:Stmt) (fd:FuncData):FuncData:=PySem.W.fnOf x x (qbJ st) (qbd st) (qaf st) .none fd.kwdefaults fd.doc fd.pyModule fd.annotations fd.code fd.closureTuple
def okN (K:PySem.W.Frag) (x:Str):Bool:=match PySem.W.nsIn K mainGlobals x with
 | some none=>true
 | _=>false
def okC (K:PySem.W.Frag) (c:Str×Int):Bool:=match PySem.W.nsIn K mainGlobals c.1 with
 | some (some (.int n _))=>n==c.2
 | _=>false
def Df (K:PySem.W.Frag) (mg:Str→Option Value) (x:Str) (st:Stmt):Prop:=
 ∃(f:Addr) (oc:Value) (od:Option Addr) (osl:Array (Option Value)) (kV doc pm:Value) (an:Option Addr) (cdv ct:Value),
  K.lookup f=some ⟨oc,od,.func (PySem.W.fnOf x x (qbJ st) (qbd st) (qaf st) .none kV doc pm an cdv ct),osl⟩∧PySem.W.codeIn K cdv x=true∧PySem.W.keepIn K (.ref f)=true∧mg x=some (.ref f)∧
   PySem.W.nsIn K mainGlobals x=some (some (.ref f))
section
variable {K:PySem.W.Frag} {h:Heap} {mg:Str→Option Value} {x:Str} {st:Stmt} {tb:List (Str×Stmt)}
theorem qs7 (X:K.In h) (G:h.Ns mainGlobals mg) (a:okD K x=true) (e:qmC K x=(qmC K x).map (due x st)):Df K mg x st:=by
 unfold okD at a
 unfold qmC at e
 split at a
 ·rename_i f oc od fd osl q
  rw[q] at e
  have e:fd=due x st fd:=Option.some.inj e
  unfold fnAt at q
  split at q
  ·rename_i f' n
   split at q
   ·rename_i o lk
    cases q
    have a:=Bool.and_eq_true_iff.mp a
    exact ⟨_,_,_,_,fd.kwdefaults,fd.doc,fd.pyModule,fd.annotations,fd.code,fd.closureTuple,by rw[lk,show PySem.W.fnOf x x (qbJ st) (qbd st) (qaf st) .none fd.kwdefaults fd.doc fd.pyModule fd.annotations fd.code fd.closureTuple=fd from e.symm],a.1,a.2,PySem.W.mg_of X G n,n⟩
   ·cases q
  ·cases q
 ·cases a
theorem qnD (X:K.In h) (G:h.Ns mainGlobals mg) (a:(tb.all fun p=>okD K p.1)=true) (e:tb.map (fun p=>qmC K p.1)=tb.map fun p=>(qmC K p.1).map (due p.1 p.2)): ∀(i:Nat) (x:Str) (st:Stmt),tb[i]? =some (x,st)→Df K mg x st:=fun i x st hi=>by
 have a:=List.all_eq_true.mp a _ (List.mem_of_getElem? hi)
 have e:=congrArg (fun l=>l[i]?) e
 simp only[List.getElem?_map,hi,Option.map_some] at e
 exact qs7 X G a (Option.some.inj e)
theorem qqq (X:K.In h) (G:h.Ns mainGlobals mg) {l:List Str} (a:l.all (okN K)=true): ∀x∈l,mg x=none:=fun x hx=>by
 have a:=List.all_eq_true.mp a x hx
 unfold okN at a
 split at a
 ·rename_i q; exact PySem.W.mg_none_of X G q
 ·cases a
theorem qq1 (X:K.In h) (G:h.Ns mainGlobals mg) {l:List (Str×Int)} (a:l.all (okC K)=true): ∀(i:Nat) (x:Str) (n:Int),l[i]? =some (x,n)→∃u,mg x=some u∧RelV (.int n) u:=fun i x n hi=>by
 have a:=List.all_eq_true.mp a _ (List.mem_of_getElem? hi)
 unfold okC at a
 split at a
 ·rename_i m tk q
  have:m=n:=by simpa using a
  subst this
  exact ⟨_,PySem.W.mg_of X G q,_,rfl⟩
 ·cases a
end
section
variable {P:Program} {w:World} {K:PySem.W.Frag} {mg:Str→Option Value} {base:Heap} {G:Gam} {C:Str→Addr} {x:Str} {st:Stmt} {ps:List Str} {k:Nat} {t:List T→Rs T}
theorem kn (D:Df K mg x st) (ok: ∀{f:Addr} {fd:FuncData},Fun K x x st f fd→qbe P w K mg base CX0 k f fd ps (spP K G C t))
  (hb: ∀(kV doc pm:Value) (an:Option Addr) (cdv ct:Value) (us:List Value),us.length=ps.length→bindArgs (PySem.W.fnOf x x (qbJ st) (qbd st) (qaf st) .none kV doc pm an cdv ct) ⟨us,[]⟩=pure (ps.zip us):=by
   exact fun _ _ _ _ _ _ us hl=>by first | (obtain ⟨a,e⟩:=qtC hl; subst e; rfl) | (obtain ⟨a,b,e⟩:=qsR hl; subst e; rfl) | (obtain ⟨a,b,c,e⟩:=qsQ hl; subst e; rfl) | (obtain ⟨a,b,c,d,e⟩:=len4 hl; subst e; rfl)):Kn P w K mg base G C x ps k t:=by
 obtain ⟨f,oc,od,osl,kV,doc,pm,an,cdv,ct,lk,hcd,kp,m, -⟩:=D
 have F:=qeQ lk hcd kp
 exact ⟨_,_,ok F,m,kp,F.binds hb⟩
end
theorem qnb {K:PySem.W.Frag} {lq:List (Pos×Str)} {Ts:List Addr} {H:Hp} {a:Addr} {ns:List Int} {C:Str→Addr} {t:List T→Rs T} (ht:t [.scr ns]= .ok (.bl true)) (hO:qgs Ts H) (hS:SqL K H a (ns.map V.int)):spP K (qfg (Ts.zip lq)) C t [.ref a] H (fun v _=>v= .bl true) fun _ _ _=>False:=by
 have fin: ∀B:Hp,Le B H→(∀a ps,B a≠some (.tbl ps))→SqL K B a (ns.map V.int)→spP K (qfg (Ts.zip lq)) C t [.ref a] H (fun v _=>v= .bl true) fun _ _ _=>False:=fun B le bt sq=>by
  refine ⟨B,[.scr ns],le,bt,qry hO,.cons (by unfold Rep; exact ⟨a,rfl,sq⟩) .nil,?_⟩
  rw[ht]
  exact fun v H' B' _ _ r=>qbf r
 have cut: ∀{o:HO},H a=some o→(∀ps,o≠.tbl ps)→SqL K (fun b=>if b=a then H a else none) a (ns.map V.int)→spP K (qfg (Ts.zip lq)) C t [.ref a] H (fun v _=>v= .bl true) fun _ _ _=>False:=fun {o} ho n sq=>
  fin _ (fun b o z=>by
   by_cases c:b=a
   ·subst c; simpa using z
   ·simp[c] at z) (fun b ps z=>by
   by_cases c:b=a
   ·subst c; simp[ho] at z; exact n ps z
   ·simp[c] at z) sq
 rcases hS with (hS | ⟨o,hS⟩) | hS
 ·exact cut hS (fun ps z=>by cases z) (.inl (.inl (by simp[hS])))
 ·exact cut hS (fun ps z=>by cases z) (.inl (.inr ⟨o,by simp[hS]⟩))
 ·exact fin (fun _=>none) (fun _ _ z=>by cases z) (fun _ _ z=>by cases z) (.inr hS)
def tOf (K:PySem.W.Frag) (y:Str):Addr:=((PySem.W.tabIn K y).getD (0,0)).2
def qeu (K:PySem.W.Frag) (ys:List Str):List (Addr×Addr):=ys.map fun y=>(PySem.W.tabIn K y).getD (0,0)
def okT (K:PySem.W.Frag) (ys:List Str):Bool:=decide (ys.map (tOf K)).Nodup&&ys.all fun y=>match PySem.W.tabIn K y with
 | some (_,T)=>(match K.lookup T with | none=>true | some _=>false)
 | none=>false
theorem qic {K:PySem.W.Frag} {ys:List Str} (h:okT K ys=true):ys.map (PySem.W.tabIn K)=(qeu K ys).map some∧(∀T∈(qeu K ys).map (·.2),K.lookup T=none)∧(ys.map (tOf K)).Nodup:=by
 have h:=Bool.and_eq_true_iff.mp h
 have nd:=of_decide_eq_true h.1
 have h:=List.all_eq_true.mp h.2
 refine ⟨?_,?_,nd⟩
 ·unfold qeu
  rw[List.map_map]
  refine List.map_congr_left fun y hy=> ?_
  have:=h y hy
  show PySem.W.tabIn K y=some ((PySem.W.tabIn K y).getD (0,0))
  cases q:PySem.W.tabIn K y with
  | none=>rw[q] at this; cases this
  | some p=>rfl
 ·intro T hT
  obtain ⟨p,hp,rfl⟩:=List.mem_map.mp hT
  obtain ⟨y,hy,rfl⟩:=List.mem_map.mp hp
  have:=h y hy
  cases q:PySem.W.tabIn K y with
  | none=>rw[q] at this; cases this
  | some p=>
   rw[q] at this
   dsimp only at this
   show K.lookup p.2=none
   split at this
   ·assumption
   ·cases this
theorem qu0 {l:PySem.W.OpenLaw} {q:Program} {loose:List Str} {XP:(Str→Option Value)→Heap→Prop} {YP:World→Heap→Prop} {d:DefRec} {K:Params→PySem.W.Frag} {tb:List (Str×Stmt)} {cs:List (Str×Int)} {nms:List Str} {ys:List Str} {lq:List (Pos×Str)} {LV:Nat} {sl:Stmt} {t:List T→Rs T}
  (hn:l.most=some 63) (hdf:d.params.defaults=[]) (hd:d.name= "law") (hY: ∀(w:World) (h:Heap),YP w h→(K w.params).In h) (hrec: ∀y∈ys,∃dx,(PyProof.Rows.recsOf q).find? (fun e=>e.name==y)=some dx) (hR:qbW LV callerA)
  (h1: ∀w:World,(tb.all fun p=>okD (K w.params) p.1)=true) (h2: ∀w:World,tb.map (fun p=>qmC (K w.params) p.1)=tb.map fun p=>(qmC (K w.params) p.1).map (due p.1 p.2)) (h3: ∀w:World,cs.all (okC (K w.params))=true) (h4: ∀w:World,nms.all (okN (K w.params))=true)
  (h5: ∀w:World,okT (K w.params) ys=true) {i:Nat} (hi:tb[i]? =some (Str.ofString "law",sl)) (hT: ∀ns:List Int,ns.length≤63→t [.scr ns]= .ok (.bl true))
  (hbl: ∀(kV doc pm:Value) (an:Option Addr) (cdv ct u:Value),bindArgs (PySem.W.fnOf "law" "law" (qbJ sl) (qbd sl) (qaf sl) .none kV doc pm an cdv ct) ⟨[u],[]⟩=pure [(Str.ofString "_law_script",u)])
  (F: ∀{w:World} {K:PySem.W.Frag} {mg:Str→Option Value} {base:Heap} {fa:Addr} {fd:FuncData},(∀(i:Nat) (x:Str) (st:Stmt),tb[i]? =some (x,st)→Df K mg x st)→(∀x∈nms,mg x=none)→(∀(i:Nat) (x:Str) (n:Int),cs[i]? =some (x,n)→∃u,mg x=some u∧RelV (.int n) u)→
   (∀y∈ys,∃c,PySem.W.tabIn K y=some (c,tOf K y)∧PySem.W.CodeHd base c (tOf K y))→(ys.map (tOf K)).Nodup→qhi mg base→K.In base→Fun K "law" "law" sl fa fd→qbe l.prog w K mg base CX0 LV fa fd ["_law_script"] (spP K (qfg ((ys.map (tOf K)).zip lq)) (fun _=>0) t)):
  PySem.W.WalkO q loose XP YP l.row.toRowW d [] (fun f vs=>PySem.call f vs):=by
 refine L2.walk_ofTs (n:=63) (k:=LV) (x:= "_law_script") (ys:=ys) (CX:=fun _=>CX0) (sp:=fun w cts=>spP (K w.params) (qfg ((cts.map (·.2)).zip lq)) (fun _=>0) t) hn (by decide) hdf hR hY hrec ?_ (fun _ _ _ a ns hl hO hS=>qnb (hT ns hl) hO hS) fun _ _ _ _ _ z=>z
 intro w mg fa h X G hm
 have D:=qnD X G (h1 w) (h2 w)
 obtain ⟨f,oc,od,osl,kV,doc,pm,an,cdv,ct,lk,hcd,kp,m, -⟩:=D i _ _ hi
 rw[hd] at hm
 have e:=hm.symm.trans m
 cases e
 obtain ⟨t1,t2,nd⟩:=qic (h5 w)
 have em:(qeu (K w.params) ys).map (·.2)=ys.map (tOf (K w.params)):=by unfold qeu; rw[List.map_map]; rfl
 refine ⟨_,qeu (K w.params) ys,t1,t2,fun s u=>.of_eq (hbl kV doc pm an cdv ct u),fun base KI _ hC hb=> ?_⟩
 rw[em]
 refine F D (qqq X G (h4 w)) (qq1 X G (h3 w)) (fun y hy=> ?_) nd hb KI (qeQ lk hcd kp)
 have e1:some ((PySem.W.tabIn (K w.params) y).getD (0,0))=PySem.W.tabIn (K w.params) y:=by
  obtain ⟨j,hj,ej⟩:=List.mem_iff_getElem.mp hy
  have:=congrArg (fun l=>l[j]?) t1
  unfold qeu at this
  simp only[List.getElem?_map,List.getElem?_eq_getElem hj,ej,Option.map_some] at this
  exact (Option.some.inj this).symm
 exact ⟨((PySem.W.tabIn (K w.params) y).getD (0,0)).1,e1.symm,hC _ (List.mem_map.mpr ⟨y,hy,rfl⟩)⟩
end HD
end
section
namespace HD
open PySem L2 PL
def KnX (P:Program) (w:World) (K:PySem.W.Frag) (mg:Str→Option Value) (base:Heap) (CX:CXT) (x:Str) (ps:List Str) (k:Nat) (sp:Sp):Prop:=
 ∃(f:Addr) (fd:FuncData),qbe P w K mg base CX k f fd ps sp∧mg x=some (.ref f)∧PySem.W.keepIn K (.ref f)=true∧qdy K fd ps []
section
variable {P:Program} {w:World} {K:PySem.W.Frag} {mg:Str→Option Value} {base:Heap} {CX:CXT} {x:Str} {st:Stmt} {ps:List Str} {k:Nat} {sp:Sp}
theorem knx (D:Df K mg x st) (ok: ∀{f:Addr} {fd:FuncData},Fun K x x st f fd→qbe P w K mg base CX k f fd ps sp)
  (hb: ∀(kV doc pm:Value) (an:Option Addr) (cdv ct:Value) (us:List Value),us.length=ps.length→bindArgs (PySem.W.fnOf x x (qbJ st) (qbd st) (qaf st) .none kV doc pm an cdv ct) ⟨us,[]⟩=pure (ps.zip us):=by
   exact fun _ _ _ _ _ _ us hl=>by first | (obtain ⟨a,e⟩:=qtC hl; subst e; rfl) | (obtain ⟨a,b,e⟩:=qsR hl; subst e; rfl) | (obtain ⟨a,b,c,e⟩:=qsQ hl; subst e; rfl) | (obtain ⟨a,b,c,d,e⟩:=len4 hl; subst e; rfl)):KnX P w K mg base CX x ps k sp:=by
 obtain ⟨f,oc,od,osl,kV,doc,pm,an,cdv,ct,lk,hcd,kp,m, -⟩:=D
 have F:=qeQ lk hcd kp
 exact ⟨_,_,ok F,m,kp,F.binds hb⟩
end
section
variable {P:Program} {w:World} {K:PySem.W.Frag} {mg:Str→Option Value} {base:Heap} {CX:CXT} {C:Addr} {m q:Str} {st:Stmt} {ps:List Str} {k:Nat} {sp:Sp}
end
end HD
end
section
namespace HD
open PySem L2 PL
end HD
end
section
namespace HD
open PySem L2 PL
theorem walkW {Ex:World→PySem.W.Frag→(Str→Option Value)→Prop} {l:PySem.W.OpenLaw} {q:Program} {loose:List Str} {XP:(Str→Option Value)→Heap→Prop} {YP:World→Heap→Prop} {d:DefRec} {K:Params→PySem.W.Frag} {tb:List (Str×Stmt)} {cs:List (Str×Int)} {nms:List Str} {ys:List Str} {lq:List (Pos×Str)} {LV:Nat} {sl:Stmt} {t:List T→Rs T}
  (hn:l.most=some 63) (hdf:d.params.defaults=[]) (hd:d.name= "law") (hY: ∀(w:World) (h:Heap),YP w h→(K w.params).In h) (hrec: ∀y∈ys,∃dx,(PyProof.Rows.recsOf q).find? (fun e=>e.name==y)=some dx) (hR:qbW LV callerA)
  (h1: ∀w:World,(tb.all fun p=>okD (K w.params) p.1)=true) (h2: ∀w:World,tb.map (fun p=>qmC (K w.params) p.1)=tb.map fun p=>(qmC (K w.params) p.1).map (due p.1 p.2)) (h3: ∀w:World,cs.all (okC (K w.params))=true) (h4: ∀w:World,nms.all (okN (K w.params))=true)
  (h5: ∀w:World,okT (K w.params) ys=true) {i:Nat} (hi:tb[i]? =some (Str.ofString "law",sl)) (hT: ∀ns:List Int,ns.length≤63→t [.scr ns]= .ok (.bl true))
  (hbl: ∀(kV doc pm:Value) (an:Option Addr) (cdv ct u:Value),bindArgs (PySem.W.fnOf "law" "law" (qbJ sl) (qbd sl) (qaf sl) .none kV doc pm an cdv ct) ⟨[u],[]⟩=pure [(Str.ofString "_law_script",u)])
  (hE: ∀(w:World) (mg:Str→Option Value) (h:Heap),(K w.params).In h→h.Ns mainGlobals mg→Ex w (K w.params) mg)
  (F: ∀{w:World} {K:PySem.W.Frag} {mg:Str→Option Value} {base:Heap} {fa:Addr} {fd:FuncData},(∀(i:Nat) (x:Str) (st:Stmt),tb[i]? =some (x,st)→Df K mg x st)→(∀x∈nms,mg x=none)→(∀(i:Nat) (x:Str) (n:Int),cs[i]? =some (x,n)→∃u,mg x=some u∧RelV (.int n) u)→
   (∀y∈ys,∃c,PySem.W.tabIn K y=some (c,tOf K y)∧PySem.W.CodeHd base c (tOf K y))→(ys.map (tOf K)).Nodup→qhi mg base→K.In base→Ex w K mg→Fun K "law" "law" sl fa fd→qbe l.prog w K mg base CX0 LV fa fd ["_law_script"] (spP K (qfg ((ys.map (tOf K)).zip lq)) (fun _=>0) t)):
  PySem.W.WalkO q loose XP YP l.row.toRowW d [] (fun f vs=>PySem.call f vs):=by
 refine L2.walk_ofTs (n:=63) (k:=LV) (x:= "_law_script") (ys:=ys) (CX:=fun _=>CX0) (sp:=fun w cts=>spP (K w.params) (qfg ((cts.map (·.2)).zip lq)) (fun _=>0) t) hn (by decide) hdf hR hY hrec ?_ (fun _ _ _ a ns hl hO hS=>qnb (hT ns hl) hO hS) fun _ _ _ _ _ z=>z
 intro w mg fa h X G hm
 have D:=qnD X G (h1 w) (h2 w)
 obtain ⟨f,oc,od,osl,kV,doc,pm,an,cdv,ct,lk,hcd,kp,m, -⟩:=D i _ _ hi
 rw[hd] at hm
 have e:=hm.symm.trans m
 cases e
 obtain ⟨t1,t2,nd⟩:=qic (h5 w)
 have em:(qeu (K w.params) ys).map (·.2)=ys.map (tOf (K w.params)):=by unfold qeu; rw[List.map_map]; rfl
 refine ⟨_,qeu (K w.params) ys,t1,t2,fun s u=>.of_eq (hbl kV doc pm an cdv ct u),fun base KI _ hC hb=> ?_⟩
 rw[em]
 refine F D (qqq X G (h4 w)) (qq1 X G (h3 w)) (fun y hy=> ?_) nd hb KI (hE w mg h X G) (qeQ lk hcd kp)
 have e1:some ((PySem.W.tabIn (K w.params) y).getD (0,0))=PySem.W.tabIn (K w.params) y:=by
  obtain ⟨j,hj,ej⟩:=List.mem_iff_getElem.mp hy
  have:=congrArg (fun l=>l[j]?) t1
  unfold qeu at this
  simp only[List.getElem?_map,List.getElem?_eq_getElem hj,ej,Option.map_some] at this
  exact (Option.some.inj this).symm
 exact ⟨((PySem.W.tabIn (K w.params) y).getD (0,0)).1,e1.symm,hC _ (List.mem_map.mpr ⟨y,hy,rfl⟩)⟩
end HD
end
section
namespace K12
open PySem L2 PL SetL RH HD
abbrev gL:Gam:=qfg []
abbrev lqs:List (Pos×Str):=[]
abbrev tb:List (Str×Stmt):=[e2 "is_whole" qr8,e2 "is_whole_within" s_8,e2 "is_word" qr6,e2 "is_key" qr3,e2 "is_row" qr2,e2 "is_log" qr1,e2 "refuse_what_is_no_row" s_0,e2 "refuse_out_of_order" s_4,e2 "refuse_what_is_no_log" s_1,e2 "of_key" qrh,e2 "over" qre,e2 "under" qrg,e2 "plus" qrd,e2 "times" qrf,e2 "first" qrW,e2 "each" qrU,e2 "window" qr0,e2 "window_rows" qri,e2 "running" qr5,e2 "change" qrZ,e2 "unlike" qrY,e2 "is_step" qr4,e2 "is_ask" qrX,e2 "refuse_what_is_no_ask" s_2,e2 "behind_step" qsd,e2 "behind_last_rows" s_5,e2 "asked" qrV,e2 "_law_cell" qsb,e2 "_law_pick" qsa,e2 "_law_key" qr7,e2 "_law_number" qsc,e2 "_law_rows" qr9,e2 "law" qd7]
abbrev cs:List (Str×Int):=[c2 "GREATEST_MOMENT" (99),c2 "GREATEST_NUMBER" (99),c2 "GREATEST_STEP_NUMBER" (20),c2 "LONGEST_KEY" (2),c2 "MOST_STEPS" (5)]
def Ex (w:World) (K:PySem.W.Frag) (mg:Str→Option Value):Prop:=qi4 K mg w "NUMBER_STEPS" [(("over" :Str),("over" :Str)),(("under" :Str),("under" :Str)),(("plus" :Str),("plus" :Str)),(("times" :Str),("times" :Str))]∧qi4 K mg w "COUNT_STEPS" [(("first" :Str),("first" :Str)),(("each" :Str),("each" :Str)),(("window" :Str),("window" :Str))]∧qi4 K mg w "BARE_STEPS" [(("running" :Str),("running" :Str)),(("change" :Str),("change" :Str)),(("unlike" :Str),("unlike" :Str))]
theorem ex_of {K:Params→PySem.W.Frag} (b0: ∀w:World,qpN (K w.params) "NUMBER_STEPS" [(("over" :Str),("over" :Str)),(("under" :Str),("under" :Str)),(("plus" :Str),("plus" :Str)),(("times" :Str),("times" :Str))]=true) (h0: ∀w:World,(qpA (K w.params) "NUMBER_STEPS").map (fun es=>es.map (·.hash))=some (([(("over" :Str),("over" :Str)),(("under" :Str),("under" :Str)),(("plus" :Str),("plus" :Str)),(("times" :Str),("times" :Str))]:List (Str×Str)).map fun p=>PyData.keyHash w.params p.1)) (b1: ∀w:World,qpN (K w.params) "COUNT_STEPS" [(("first" :Str),("first" :Str)),(("each" :Str),("each" :Str)),(("window" :Str),("window" :Str))]=true) (h1: ∀w:World,(qpA (K w.params) "COUNT_STEPS").map (fun es=>es.map (·.hash))=some (([(("first" :Str),("first" :Str)),(("each" :Str),("each" :Str)),(("window" :Str),("window" :Str))]:List (Str×Str)).map fun p=>PyData.keyHash w.params p.1)) (b2: ∀w:World,qpN (K w.params) "BARE_STEPS" [(("running" :Str),("running" :Str)),(("change" :Str),("change" :Str)),(("unlike" :Str),("unlike" :Str))]=true) (h2: ∀w:World,(qpA (K w.params) "BARE_STEPS").map (fun es=>es.map (·.hash))=some (([(("running" :Str),("running" :Str)),(("change" :Str),("change" :Str)),(("unlike" :Str),("unlike" :Str))]:List (Str×Str)).map fun p=>PyData.keyHash w.params p.1))
  (w:World) (mg:Str→Option Value) (h:Heap) (X:(K w.params).In h) (G:h.Ns mainGlobals mg):Ex w (K w.params) mg:=
 ⟨qgx X G (b0 w) (h0 w),qgx X G (b1 w) (h1 w),qgx X G (b2 w) (h2 w)⟩
theorem mk {P:Program} {w:World} {K:PySem.W.Frag} {mg:Str→Option Value} {base:Heap} {fa:Addr} {fd:FuncData} (D: ∀(i:Nat) (x:Str) (st:Stmt),tb[i]? =some (x,st)→Df K mg x st) (nb: ∀x∈namesX,mg x=none) (cm: ∀(i:Nat) (x:Str) (n:Int),cs[i]? =some (x,n)→∃u,mg x=some u∧RelV (.int n) u)
  (tc: ∀y∈([]:List Str),∃c,PySem.W.tabIn K y=some (c,tOf K y)∧PySem.W.CodeHd base c (tOf K y)) (nd:(([]:List Str).map (tOf K)).Nodup) (hb:qhi mg base) (KI:K.In base) (EX:Ex w K mg) (F:Fun K "law" "law" qd7 fa fd):
  qbe P w K mg base CX0 7 fa fd ["_law_script"] (spP K gL (fun _=>0) t_law):=by
 obtain ⟨T_9,T_12,T_16⟩:=EX
 obtain ⟨_,cm_6,cr_6⟩:=cm 0 _ _ rfl
 obtain ⟨_,cm_7,cr_7⟩:=cm 1 _ _ rfl
 obtain ⟨_,cm_3,cr_3⟩:=cm 2 _ _ rfl
 obtain ⟨_,cm_10,cr_10⟩:=cm 3 _ _ rfl
 obtain ⟨_,cm_15,cr_15⟩:=cm 4 _ _ rfl
 have N_20:=kn (w:=w) (G:=gL) (C:=fun _=>0) (D 0 _ _ rfl) fun F=>qsJ (P:=P) (w:=w) (mg:=mg) (base:=base) F nb (qeg K)
 have N_8:=kn (w:=w) (G:=gL) (C:=fun _=>0) (D 1 _ _ rfl) fun F=>quq (P:=P) (w:=w) (mg:=mg) (base:=base) F nb N_20
 have N_22:=kn (w:=w) (G:=gL) (C:=fun _=>0) (D 2 _ _ rfl) fun F=>qsH (P:=P) (w:=w) (mg:=mg) (base:=base) F nb (qeg K)
 have N_25:=kn (w:=w) (G:=gL) (C:=fun _=>0) (D 3 _ _ rfl) fun F=>qsE (P:=P) (w:=w) (mg:=mg) (base:=base) F nb cm_10 cr_10 N_22
 have N_26:=kn (w:=w) (G:=gL) (C:=fun _=>0) (D 4 _ _ rfl) fun F=>qsD (P:=P) (w:=w) (mg:=mg) (base:=base) F nb (qeg K) cm_6 cr_6 cm_7 cr_7 N_25 N_8
 have N_27:=kn (w:=w) (G:=gL) (C:=fun _=>0) (D 5 _ _ rfl) fun F=>qsC (P:=P) (w:=w) (mg:=mg) (base:=base) F nb
 have N_0:=kn (w:=w) (G:=gL) (C:=fun _=>0) (D 6 _ _ rfl) fun F=>quv (P:=P) (w:=w) (mg:=mg) (base:=base) F nb N_26
 have N_4:=kn (w:=w) (G:=gL) (C:=fun _=>0) (D 7 _ _ rfl) fun F=>qus (P:=P) (w:=w) (mg:=mg) (base:=base) F nb N_27
 have N_1:=kn (w:=w) (G:=gL) (C:=fun _=>0) (D 8 _ _ rfl) fun F=>quu (P:=P) (w:=w) (mg:=mg) (base:=base) F nb N_4 N_0
 have N_28:KnS P w K mg base gL (fun _=>0) "of_key" ["rows", "key"] 1 o_28:=knx (P:=P) (w:=w) (base:=base) (D 9 _ _ rfl) fun F=>qsB (G:=gL) (C:=fun _=>0) (P:=P) (w:=w) (mg:=mg) (base:=base) F nb
 have N_37:KnS P w K mg base gL (fun _=>0) "over" ["rows", "bound"] 1 o_37:=knx (P:=P) (w:=w) (base:=base) (D 10 _ _ rfl) fun F=>qss (G:=gL) (C:=fun _=>0) (P:=P) (w:=w) (mg:=mg) (base:=base) F nb
 have N_33:KnS P w K mg base gL (fun _=>0) "under" ["rows", "bound"] 1 o_33:=knx (P:=P) (w:=w) (base:=base) (D 11 _ _ rfl) fun F=>qsw (G:=gL) (C:=fun _=>0) (P:=P) (w:=w) (mg:=mg) (base:=base) F nb
 have N_38:KnS P w K mg base gL (fun _=>0) "plus" ["rows", "more"] 1 o_38:=knx (P:=P) (w:=w) (base:=base) (D 12 _ _ rfl) fun F=>qsr (G:=gL) (C:=fun _=>0) (P:=P) (w:=w) (mg:=mg) (base:=base) F nb
 have N_34:KnS P w K mg base gL (fun _=>0) "times" ["rows", "factor"] 1 o_34:=knx (P:=P) (w:=w) (base:=base) (D 13 _ _ rfl) fun F=>qsv (G:=gL) (C:=fun _=>0) (P:=P) (w:=w) (mg:=mg) (base:=base) F nb
 have N_35:KnQ P w K mg base gL (fun _=>0) "first" ["rows", "many", "kept"] 1 q_35:=knx (P:=P) (w:=w) (base:=base) (D 14 _ _ rfl) fun F=>qsu (G:=gL) (C:=fun _=>0) (P:=P) (w:=w) (mg:=mg) (base:=base) F nb
 have N_39:KnQ P w K mg base gL (fun _=>0) "each" ["rows", "many", "kept"] 1 q_39:=knx (P:=P) (w:=w) (base:=base) (D 15 _ _ rfl) fun F=>qsq (G:=gL) (C:=fun _=>0) (P:=P) (w:=w) (mg:=mg) (base:=base) F nb
 have N_11:=kn (w:=w) (G:=gL) (C:=fun _=>0) (D 17 _ _ rfl) fun F=>qsN (P:=P) (w:=w) (mg:=mg) (base:=base) F nb
 have N_29:KnQ P w K mg base gL (fun _=>0) "window" ["rows", "size", "sums"] 2 q_29:=knx (P:=P) (w:=w) (base:=base) (D 16 _ _ rfl) fun F=>qsA (G:=gL) (C:=fun _=>0) (P:=P) (w:=w) (mg:=mg) (base:=base) F nb N_11
 have N_23:KnQ P w K mg base gL (fun _=>0) "running" ["rows", "sums"] 1 q_23:=knx (P:=P) (w:=w) (base:=base) (D 18 _ _ rfl) fun F=>qsG (G:=gL) (C:=fun _=>0) (P:=P) (w:=w) (mg:=mg) (base:=base) F nb
 have N_30:KnQ P w K mg base gL (fun _=>0) "change" ["rows", "ahead"] 1 q_30:=knx (P:=P) (w:=w) (base:=base) (D 19 _ _ rfl) fun F=>qsz (G:=gL) (C:=fun _=>0) (P:=P) (w:=w) (mg:=mg) (base:=base) F nb
 have N_31:KnQ P w K mg base gL (fun _=>0) "unlike" ["rows", "ahead"] 1 q_31:=knx (P:=P) (w:=w) (base:=base) (D 20 _ _ rfl) fun F=>qsy (G:=gL) (C:=fun _=>0) (P:=P) (w:=w) (mg:=mg) (base:=base) F nb
 have N_24:=kn (w:=w) (G:=gL) (C:=fun _=>0) (D 21 _ _ rfl) fun F=>qsF (P:=P) (w:=w) (mg:=mg) (base:=base) F nb (qeg K) cm_3 cr_3 N_25 N_8 T_16 T_12 T_9
 have N_32:=kn (w:=w) (G:=gL) (C:=fun _=>0) (D 22 _ _ rfl) fun F=>qsx (P:=P) (w:=w) (mg:=mg) (base:=base) F nb (qeg K) cm_15 cr_15 N_24
 have N_2:=kn (w:=w) (G:=gL) (C:=fun _=>0) (D 23 _ _ rfl) fun F=>qut (P:=P) (w:=w) (mg:=mg) (base:=base) F nb N_32
 have N_13:KnQ P w K mg base gL (fun _=>0) "behind_step" ["step", "rows", "kept"] 3 q_13:=knx (P:=P) (w:=w) (base:=base) (D 24 _ _ rfl) fun F=>qsM (G:=gL) (C:=fun _=>0) (P:=P) (w:=w) (mg:=mg) (base:=base) F nb N_30 N_39 N_35 N_28 N_37 N_38 N_23 N_34 N_33 N_31 N_29 T_16 T_12 T_9
 have N_5:KnQ P w K mg base gL (fun _=>0) "behind_last_rows" ["step", "rows", "kept"] 4 q_5:=knx (P:=P) (w:=w) (base:=base) (D 25 _ _ rfl) fun F=>qur (G:=gL) (C:=fun _=>0) (P:=P) (w:=w) (mg:=mg) (base:=base) F nb N_13 N_11
 have N_36:KnS P w K mg base gL (fun _=>0) "asked" ["ask", "rows"] 6 o_36:=knx (P:=P) (w:=w) (base:=base) (D 26 _ _ rfl) fun F=>qst (G:=gL) (C:=fun _=>0) (P:=P) (w:=w) (mg:=mg) (base:=base) F nb N_5 N_2 N_1
 obtain ⟨f1,oc1,od1,osl1,kV1,doc1,pm1,an1,cdv1,ct1,lk1,hcd1,kp1,m1, -⟩:=D 27 _ _ rfl
 have F1:=qeQ lk1 hcd1 kp1
 have G1:=qou (P:=P) (w:=w) (mg:=mg) (base:=base) F1 (nb "len" (by decide))
 have b1:=F1.binds (ps:=["_law_script", "_law_k"]) fun _ _ _ _ _ _ us hl=>by obtain ⟨a,b,e⟩:=qsR hl; subst e; rfl
 obtain ⟨f2,oc2,od2,osl2,kV2,doc2,pm2,an2,cdv2,ct2,lk2,hcd2,kp2,m2, -⟩:=D 28 _ _ rfl
 have F2:=qeQ lk2 hcd2 kp2
 have G2:=qos (P:=P) (w:=w) (mg:=mg) (base:=base) F2 G1 m1 kp1 b1
 have N_18:=qoF (G:=gL) (C:=fun _=>0) G2 m2 kp2 (F2.binds (ps:=["_law_script", "_law_k", "_law_many"]) fun _ _ _ _ _ _ us hl=>by obtain ⟨a,b,c,e⟩:=qsQ hl; subst e; rfl)
 have N_21:=kn (w:=w) (G:=gL) (C:=fun _=>0) (D 29 _ _ rfl) fun F=>qsI (P:=P) (w:=w) (mg:=mg) (base:=base) F nb N_18
 have N_14:=kn (w:=w) (G:=gL) (C:=fun _=>0) (D 30 _ _ rfl) fun F=>qsL (P:=P) (w:=w) (mg:=mg) (base:=base) F nb N_18
 have N_19:=kn (w:=w) (G:=gL) (C:=fun _=>0) (D 31 _ _ rfl) fun F=>qsK (P:=P) (w:=w) (mg:=mg) (base:=base) F nb N_21 N_14 N_18
 exact qqo (G:=gL) (C:=fun _=>0) (P:=P) (w:=w) (mg:=mg) (base:=base) F nb N_18 N_19 N_36
end K12
end
section
open PySem PySem.W PyProof.Rows
set_option maxRecDepth 100000 in
set_option maxHeartbeats 0 in
theorem PySem.Challenge.cw_rowasks_k12_whole_steps_together_holds : PySem.Challenge.rw_rowasks_k12_whole_steps_together.Holds := by
 w_on; o_law
 refine holds_open (q:=K12.vq) (loose:=K12.lo) (Xt:=K12.xt) (XP:=XL K12.vq []) (Yf:=Hook.obs K12.hk) (Ya:=Hook.val K12.hk) (YP:=Hook.says K12.hk) (N:=20000) (HD.left_two "special-get-raises" K12.runF K12.runT) (Hook.of K12.hk) (Hook.keeps K12.hk) (fun s e=>xl_of s (Bool.and_eq_true_iff.mp e).1) XL.keeps (by rfl) (by rfl) (by rfl) (fun s e=>recFacts_of (Bool.and_eq_true_iff.mp e).2) (by rfl) (by first | assumption | decide+kernel) (by decide+kernel) ⟨rfl,rfl,rfl,rfl,rfl,by decide+kernel⟩ ?hw ?hc
 (case hw=>w_witness2)
 k_fill
 refine' HD.walkW (l:=PySem.Challenge.rw_rowasks_k12_whole_steps_together) (tb:=K12.tb) (cs:=K12.cs) (nms:=PL.namesX) (ys:=[]) (lq:=K12.lqs) (LV:=7) (i:=32) (t:=K12.t_law) rfl rfl rfl (fun w h Y=>Y) ?_ ⟨rfl,by decide,by decide⟩ (fun w=>by kernel_rfl) (fun w=>by kernel_rfl) (fun w=>by kernel_rfl) (fun w=>by kernel_rfl) (fun w=>by kernel_rfl) rfl (fun ns hl=>K12.law_true hl) (fun _ _ _ _ _ _ _=>rfl) (K12.ex_of (fun w=>by kernel_rfl) (fun w=>by kernel_rfl) (fun w=>by kernel_rfl) (fun w=>by kernel_rfl) (fun w=>by kernel_rfl) (fun w=>by kernel_rfl)) K12.mk
 intro y hy
 cases hy
end
