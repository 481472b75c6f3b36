import PyProof.Rows.All
import Wide.All
import OpenK.AllK
import Wide.FinOn
import Lean
import PyProof.EqAt
import PyProof.EqKinds
import PyProof.TupleCall
import KE.KSortTup
import KE.KSortKey
import PyProof.ExcBaseAll.ValueError
import PyProof.ExcAttrAll.ValueError
import KE.KTryOn
import OpenK.KOwn
import PyProof.NeData
import PyProof.SetKind
import PyProof.Rows.SetFrom
import PyProof.CollectWalk
import KE.KDictOf
import KE.KDictList
import KE.KDictSum
import PyProof.FString5
import PyProof.WalksEnum
import PyProof.EnumMake
import PySem.Challenge.RW_rowasks_k94_whole_stretches_and_asks
set_option Elab.async false
set_option linter.all false
set_option maxRecDepth 100000
set_option maxHeartbeats 8000000
local macro_rules | `(tactic| trivial)=> `(tactic| first | exact Or.inl rfl | exact Or.inr rfl | exact ⟨rfl,rfl,rfl,by decide+kernel,rfl,by decide+kernel,by decide+kernel⟩ | (intro p hp; simp only[List.mem_cons,List.not_mem_nil,or_false] at hp; subst hp; exact ⟨rfl,rfl⟩))
section
namespace HD
open PySem PySem.W
def quV:Stmt->Bool
 | .Assign (targets:=[.Name x _]) .. =>x== "__name__"
 | _=>false
def vw (p:Program):Program:={ p with main:={ p.main with body:=p.main.body.filter λs=> !quV s } }
theorem qmP {p q:Program} {loose:List Str} {Xt:Shared->Bool} {α:Type} {Yf:Shared->α} {Ya:World->α} {N:Nat} (row:String)
  (hf: ∀w:World,((fencedOpening treeTable p w N).bind (topFrom treeTable p (w.withFollow row false) N)).map (λs=>(openSeen q loose (importedModules p.main.body) Xt true s,Yf s))=some (openGood q loose,Ya (w.withFollow row false)))
  (ht: ∀w:World,((fencedOpening treeTable p w N).bind (topFrom treeTable p (w.withFollow row true) N)).map (λs=>(openSeen q loose (importedModules p.main.body) Xt true s,Yf s))=some (openGood q loose,Ya (w.withFollow row true))):
  LeftO p q loose Xt Yf Ya N:=λw=>by
 have e:=World.withFollow_self w row
 unfold openEnds
 cases hb:w.params.followText row<;>rw[hb] at e
 ·have:=hf w; rw[e] at this; exact this
 ·have:=ht w; rw[e] at this; exact this
def qrh (p:Program) (row:String) (N:Nat) (b:Bool) (w:World):Option Shared:=(fencedOpening treeTable p w N).bind (topFrom treeTable p (w.withFollow row b) N)
def lookS (p q:Program) (loose:List Str) (Xt:Shared->Bool) (s:Shared):=openSeen q loose (importedModules p.main.body) Xt true s
def PartX (p q:Program) (loose:List Str) (Xt:Shared->Bool) (row:String) (N:Nat) (b:Bool):Prop:= ∀w:World,(qrh p row N b w).map (λs=>(lookS p q loose Xt s).2)=some (openGood q loose).2
def PartY (p q:Program) (loose:List Str) (Xt:Shared->Bool) (H:Hook) (row:String) (N:Nat) (b:Bool):Prop:= ∀w:World,(qrh p row N b w).map (λs=>((lookS p q loose Xt s).1,H.obs s))=some ((openGood q loose).1,H.val (w.withFollow row b))
theorem parts {p q:Program} {loose:List Str} {Xt:Shared->Bool} {H:Hook} {row:String} {N:Nat} {b:Bool} (hx:PartX p q loose Xt row N b) (hy:PartY p q loose Xt H row N b):
  ∀w:World,((fencedOpening treeTable p w N).bind (topFrom treeTable p (w.withFollow row b) N)).map (λs=>(openSeen q loose (importedModules p.main.body) Xt true s,Hook.obs H s))=some (openGood q loose,Hook.val H (w.withFollow row b)):=λw=>by
 have hx:=hx w
 have hy:=hy w
 have e:((fencedOpening treeTable p w N).bind (topFrom treeTable p (w.withFollow row b) N))=qrh p row N b w:=rfl
 rw[e]
 cases r:qrh p row N b w with
 | none=>rw[r] at hx; cases hx
 | some s=>
  rw[r] at hx hy
  have y:=Prod.mk.inj (Option.some.inj hy)
  exact congrArg some (Prod.ext (Prod.ext y.1 (Option.some.inj hx)) y.2)
theorem left_parts {p q:Program} {loose:List Str} {Xt:Shared->Bool} {H:Hook} {N:Nat} (row:String) (x0:PartX p q loose Xt row N false) (y0:PartY p q loose Xt H row N false) (x1:PartX p q loose Xt row N true) (y1:PartY p q loose Xt H row N true):
  LeftO p q loose Xt (Hook.obs H) (Hook.val H) N:=qmP row (parts x0 y0) (parts x1 y1)
end HD
end
section
open PySem PySem.W PyProof.Rows
namespace K94
abbrev vq:Program:=HD.vw PySem.Challenge.pw_rowasks_k94_whole_stretches_and_asks
abbrev lo:List Str:=["NUMBER_STEPS", "COUNT_STEPS", "BARE_STEPS"]
abbrev xt:Shared->Bool:=λs=>xlAt vq [] s&&recOk (RowW.records PySem.Challenge.rw_rowasks_k94_whole_stretches_and_asks.row.toRowW) s
set_option maxRecDepth 100000 in
set_option maxHeartbeats 0 in
theorem rXF:HD.PartX PySem.Challenge.pw_rowasks_k94_whole_stretches_and_asks vq lo xt "special-get-raises" 20000 false:=λw=>by kernel_rfl
set_option maxRecDepth 100000 in
set_option maxHeartbeats 0 in
theorem rXT:HD.PartX PySem.Challenge.pw_rowasks_k94_whole_stretches_and_asks vq lo xt "special-get-raises" 20000 true:=λw=>by kernel_rfl
section
local macro_rules
 | `(tactic| o_head $H)=> `(tactic| (exact False.elim (by assumption); exact $H))
set_option maxRecDepth 100000 in
set_option maxHeartbeats 0 in
noncomputable def hk:Hook:=by
 refine (λ(_:False->PySem.Challenge.rw_rowasks_k94_whole_stretches_and_asks.Holds)=> ?H) ?pf
 rotate_left
 intro hp
 w_on; o_law; k_head
end
set_option maxRecDepth 100000 in
set_option maxHeartbeats 0 in
theorem rYF:HD.PartY PySem.Challenge.pw_rowasks_k94_whole_stretches_and_asks vq lo xt hk "special-get-raises" 20000 false:=λw=>by kernel_rfl
set_option maxRecDepth 100000 in
set_option maxHeartbeats 0 in
theorem rYT:HD.PartY PySem.Challenge.pw_rowasks_k94_whole_stretches_and_asks vq lo xt hk "special-get-raises" 20000 true:=λw=>by kernel_rfl
end K94
end
section
namespace L2
open PySem PySem.Spec PyProof.Rows
abbrev Key:=Sum Int Str
def qjf:Key->Value->Bool
 | .inl k,v=>Value.isInt k v
 | .inr x,v=>Value.isStrOf x v
def quT (w:World):Key->Int
 | .inl k=>hashInt k
 | .inr x=>hashStr w x
theorem qa3: ∀{k:Key} {v:Value},qjf k v=true->(∃i t,k=Sum.inl i/\v=Value.int i t)\/(∃x t,k=Sum.inr x/\v=Value.str x t)
 | .inl i,v,h=>by
  obtain ⟨t,e⟩:=Value.isInt_shape (k:=i) (v:=v) h
  exact .inl ⟨i,t,rfl,e⟩
 | .inr x,v,h=>by
  obtain ⟨t,e⟩:=Value.isStrOf_shape (x:=x) (v:=v) h
  exact .inr ⟨x,t,rfl,e⟩
theorem qkT (i:Int) (t:Tok):qjf (.inl i) (.int i t)=true:=by simp[qjf,Value.isInt]
theorem qkS (x:Str) (t:Tok):qjf (.inr x) (.str x t)=true:=by simp[qjf,Value.isStrOf]
theorem qqF (a b:Int):decide ((Sum.inl a:Key)=Sum.inl b)=(a==b):=by
 by_cases e:a=b
 ·subst e; simp
 ·have h: ¬(Sum.inl a:Key)=Sum.inl b:=λq=>e (Sum.inl.inj q)
  rw[decide_eq_false h]
  exact (beq_eq_false_iff_ne.mpr e).symm
theorem qqC (a b:Str):decide ((Sum.inr a:Key)=Sum.inr b)=decide (a=b):=by
 by_cases e:a=b
 ·subst e; simp
 ·have h: ¬(Sum.inr a:Key)=Sum.inr b:=λq=>e (Sum.inr.inj q)
  rw[decide_eq_false h,decide_eq_false e]
theorem qqE (a:Int) (b:Str):decide ((Sum.inl a:Key)=Sum.inr b)=false:=decide_eq_false (λq=>nomatch q)
theorem qqD (a:Str) (b:Int):decide ((Sum.inr a:Key)=Sum.inl b)=false:=decide_eq_false (λq=>nomatch q)
def qbg (prog:Program) (w:World):PySem.KeyKind prog w Key where
 is:=qjf
 hash:=quT w
 inj:=λv a b ha hb=>by
  rcases qa3 ha with ⟨i,t,rfl,rfl⟩ | ⟨x,t,rfl,rfl⟩
  ·rcases qa3 hb with ⟨j,u,rfl,e⟩ | ⟨y,u,rfl,e⟩
   ·injection e with e1 _; rw[e1]
   ·exact nomatch e
  ·rcases qa3 hb with ⟨j,u,rfl,e⟩ | ⟨y,u,rfl,e⟩
   ·exact nomatch e
   ·injection e with e1 _; rw[e1]
 byValue:=λk v h=>by
  rcases qa3 h with ⟨i,t,rfl,rfl⟩ | ⟨x,t,rfl,rfl⟩<;>rfl
 pyHash:=λhv h=>by
  rcases qa3 hv with ⟨i,t,rfl,rfl⟩ | ⟨x,t,rfl,rfl⟩
  ·exact wpAny_pyHash_int h
  ·exact wpAny_pyHash_str h
 eqBool:=λhu hv h=>by
  rcases qa3 hu with ⟨i,t,rfl,rfl⟩ | ⟨x,t,rfl,rfl⟩
  ·rcases qa3 hv with ⟨j,u,rfl,rfl⟩ | ⟨y,u,rfl,rfl⟩
   ·rw[qqF] at h; exact wpAny_eqBool_int h
   ·rw[qqE] at h; exact SeqAt.EqAt.int_str i t y u _ _ _ _ h
  ·rcases qa3 hv with ⟨j,u,rfl,rfl⟩ | ⟨y,u,rfl,rfl⟩
   ·rw[qqD] at h; exact SeqAt.EqAt.str_int x t j u _ _ _ _ h
   ·rw[qqC] at h; exact wpAny_eqBool_str h
 «strs» :=λk x t v h=>by
  rcases qa3 h with ⟨i,u,rfl,e⟩ | ⟨y,u,rfl,e⟩
  ·exact nomatch e
  ·injection e with e1 _
   subst e1
   cases v<;>rfl
theorem qhi (prog:Program) (w:World) (i:Int) (t:Tok):(qbg prog w).is (.inl i) (.int i t)=true:=qkT i t
theorem qhh (prog:Program) (w:World) (x:Str) (t:Tok):(qbg prog w).is (.inr x) (.str x t)=true:=qkS x t
end L2
namespace L2
open PySem PySem.Spec PyProof.Rows
inductive V where
 | non | bl (b:Bool) | int (i:Int) | str (x:Str) | byt (b:Array UInt8) | flt (b:UInt64) | ref (a:Addr) | ty (n:String)
 deriving DecidableEq
def RelV:V->Value->Prop
 | .non,u=>u=Value.none
 | .bl b,u=>u=Value.bool b
 | .int i,u=> ∃t,u=Value.int i t
 | .str x,u=> ∃t,u=Value.str x t
 | .byt b,u=> ∃t,u=Value.bytes b t
 | .flt b,u=> ∃t,u=Value.float b t
 | .ref a,u=>u=Value.ref a
 | .ty n,u=>u=Value.type n
abbrev Vals:List V->List Value->Prop:=Paired RelV
theorem Vals.length {xs:List V} {us:List Value} (r:Vals xs us):xs.length=us.length:=Paired.length r
theorem Vals.get: ∀{xs:List V} {us:List Value} {i:Nat} {x:V},Vals xs us->xs[i]? =some x->∃u,us[i]? =some u/\RelV x u
 | _,_,_,_,.nil,e=>by simp at e
 | _,_,0,_,.cons r _,e=>by simp at e; subst e; exact ⟨_,rfl,r⟩
 | _,_,i+1,x,.cons _ t,e=>by
  obtain ⟨u,h1,h2⟩:=Vals.get (i:=i) (x:=x) t (by simpa using e)
  exact ⟨u,by simpa using h1,h2⟩
theorem Vals.set {x:V} {u:Value} (r:RelV x u): ∀{xs:List V} {us:List Value} (i:Nat),Vals xs us->Vals (xs.set i x) (us.set i u)
 | _,_,_,.nil=>.nil
 | _,_,0,.cons _ t=>.cons r t
 | _,_,i+1,.cons q t=>.cons q (Vals.set r i t)
theorem Vals.append: ∀{xs ys:List V} {us ws:List Value},Vals xs us->Vals ys ws->Vals (xs++ys) (us++ws)
 | _,_,_,_,.nil,s=>s
 | _,_,_,_,.cons r t,s=>.cons r (Vals.append t s)
theorem Vals.take: ∀{xs:List V} {us:List Value} (n:Nat),Vals xs us->Vals (xs.take n) (us.take n)
 | _,_,0,_=>.nil
 | _,_,_+1,.nil=>.nil
 | _,_,n+1,.cons r t=>.cons r (Vals.take n t)
theorem Vals.drop: ∀{xs:List V} {us:List Value} (n:Nat),Vals xs us->Vals (xs.drop n) (us.drop n)
 | _,_,0,r=>r
 | _,_,_+1,.nil=>.nil
 | _,_,n+1,.cons _ t=>Vals.drop n t
def qjD:Option V->Option Value->Prop
 | some v,some u=>RelV v u
 | none,none=>True
 | _,_=>False
def KV {κ:Type}:List (κ×V)->List (κ×Value)->Prop:=Paired λ(p:κ×V) (q:κ×Value)=>p.1=q.1/\RelV p.2 q.2
def kV:Key->V
 | .inl i=>.int i
 | .inr x=>.str x
inductive HO where
 | lst (xs:List V)
 | tup (xs:List V)
 | dK (kvs:List (Key×V)) | dT (kvs:List (List Key×V))
 | set (S:Int->Bool) (n:Nat)
 | ins (C dx:Addr) (fs:List (Str×V))
 | own (x:Addr)
 | xd (fs:List (Str×V))
 | met (f x:Addr)
 | rng (lo hi:Int)
 | frz (o:Obj) (u:HO)
 | tbl (ps:Array Value)
 | ext (φ:Heap->Prop)
abbrev Hp:=Addr->Option HO
def upd (H:Hp) (a:Addr) (o:HO):Hp:=λb=>if b=a then some o else H b
theorem qak {H:Hp} {a:Addr} {o:HO}:upd H a o a=some o:=by unfold upd; rw[if_pos rfl]
theorem qad {H:Hp} {a b:Addr} {o:HO} (h:b≠a):upd H a o b=H b:=by unfold upd; rw[if_neg h]
theorem qoK {H:Hp} {a b:Addr} {o u:HO} (h:H a=some o) (h':H b=some u) (d:o≠u):a≠b:=by
 intro e; subst e; rw[h] at h'; exact d (Option.some.inj h')
theorem qap {H:Hp} {a b:Addr} {o:HO} (h:H a=some o) (h':H b=none):a≠b:=by
 intro e; subst e; rw[h] at h'; cases h'
section
variable (P:Program) (w:World)
def qbe (H:Hp) (h:Heap) (a:Addr):HO->Prop
 | .lst xs=>xs.length<=sizeLine/\∃(its:List Value) (n:Nat),Vals xs its/\h.get? a=some { cls:=.type "list",data:=.seq its.toArray n }
 | .tup xs=>xs.length<=sizeLine/\∃its:List Value,Vals xs its/\IsTup h a its.toArray
 | .dK kvs=>kvs.length<=sizeLine/\(a==sysModules)=false/\∃vs,KV kvs vs/\h.DictOf (qbg P w) a vs
 | .dT kvs=>kvs.length<=sizeLine/\(a==sysModules)=false/\∃xs:List (List Key×Addr×Value),
   Paired (λ(p:List Key×V) (q:List Key×Addr×Value)=>p.1=q.1/\H q.2.1=some (.tup (p.1.map kV))/\RelV p.2 q.2.2) kvs xs/\
   ∃o es ep,h.get? a=some o/\o.ExactDict/\o.data= .dict es ep/\es.toList=xs.map (entryOfKey (tupleKind (qbg P w)))/\(xs.map (·.1)).Nodup
 | .set S n=>h.SetOf (intKind P w) a S n
 | .ins C dx fs=>H dx=some (.own a)/\fs.length<=1000/\dx≠a/\h.get? a=some (PySem.W.instObj C dx)/\
   ∃mA,h.Ns1 dx mA/\(∀f,qjD (fs.lookup f) (mA f))/\PySem.Within mA (fs.map (·.1))
 | .own _=> ∃o,h.get? a=some o
 | .xd fs=> ∃mA,h.Ns1 a mA/\∀f,qjD (fs.lookup f) (mA f)
 | .rng lo hi=> ∃t u v,h.get? a=some { cls:=.type "range",data:=.fields #[.int lo t,.int hi u,.int 1 v] }
 | .frz o u=>h.get? a=some o/\qbe H h a u
 | .tbl ps=>h.get? a=some { cls:=.none,data:=.fields ps }
 | .met f x=>h.get? a=some (PySem.W.methodObj (.ref f) (.ref x))
 | .ext φ=>φ h/\(∃o,h.get? a=some o)/\∀h1 h2:Heap,φ h1->(∀o,h1.get? a=some o->h2.get? a=some o)->φ h2
def HOk (H:Hp) (h:Heap):Prop:= ∀a o,H a=some o->qbe P w H h a o
end
section
variable {P:Program} {w:World} {H H':Hp} {h h':Heap} {a:Addr} {o:HO}
theorem qbe.lt (x:qbe P w H h a o):a<h.objs.size:=by
 cases o with
 | lst xs=>obtain ⟨_,_,_,_,e⟩:=x; exact Heap.lt_size e
 | tup xs=>obtain ⟨_,_,_,p⟩:=x; exact p.lt
 | dK kvs=>obtain ⟨_,_,_,_,o,_,_,e,_⟩:=x; exact Heap.lt_size e
 | dT kvs=>obtain ⟨_,_,_,_,o,_,_,e,_⟩:=x; exact Heap.lt_size e
 | set S n=>obtain ⟨o,_,_,_,e,_⟩:=x; exact Heap.lt_size e
 | ins C dx fs=>obtain ⟨_,_,_,e,_⟩:=x; exact Heap.lt_size e
 | own y=>obtain ⟨_,e⟩:=x; exact Heap.lt_size e
 | xd fs=>obtain ⟨_,⟨_,_,_,e,_⟩,_⟩:=x; exact Heap.lt_size e
 | rng lo hi=>obtain ⟨_,_,_,e⟩:=x; exact Heap.lt_size e
 | frz ob u=>obtain ⟨e,_⟩:=x; exact Heap.lt_size e
 | tbl ps=>exact Heap.lt_size (show h.get? a=some _ from x)
 | met f y=>exact Heap.lt_size (show h.get? a=some _ from x)
 | ext φ=>obtain ⟨_,⟨_,e⟩,_⟩:=x; exact Heap.lt_size e
theorem Paired.mapP {α β:Type} {F G:α->β->Prop}: ∀{l₁:List α} {l₂:List β},Paired F l₁ l₂->(∀a b,F a b->G a b)->Paired G l₁ l₂
 | _,_,.nil,_=>.nil
 | _,_,.cons r t,f=>.cons (f _ _ r) (Paired.mapP t f)
theorem qbe.stay (x:qbe P w H h a o) (k: ∀b u,(b=a\/H b=some (.own a))->h.get? b=some u->h'.get? b=some u)
  (ho: ∀b,H b=some (.own a)->H' b=some (.own a)) (ht: ∀b xs,H b=some (.tup xs)->H' b=some (.tup xs)):qbe P w H' h' a o:=by
 induction o with
 | lst xs=>obtain ⟨z,its,n,r,e⟩:=x; exact ⟨z,its,n,r,k _ _ (.inl rfl) e⟩
 | tup xs=>obtain ⟨z,its,r,ob,e,c⟩:=x; exact ⟨z,its,r,ob,k _ _ (.inl rfl) e,c⟩
 | dK kvs=>obtain ⟨z,y,vs,r,ob,es,ep,e,c⟩:=x; exact ⟨z,y,vs,r,ob,es,ep,k _ _ (.inl rfl) e,c⟩
 | dT kvs=>
  obtain ⟨z,y,xs,r,ob,es,ep,e,c⟩:=x
  exact ⟨z,y,xs,Paired.mapP r λp q z=>⟨z.1,ht _ _ z.2.1,z.2.2⟩,ob,es,ep,k _ _ (.inl rfl) e,c⟩
 | set S n=>obtain ⟨ob,es,ep,t,e,c⟩:=x; exact ⟨ob,es,ep,t,k _ _ (.inl rfl) e,c⟩
 | ins C dx fs=>
  obtain ⟨d,z,ne,e,mA,⟨od,es,ep,e2,c⟩,r⟩:=x
  exact ⟨ho _ d,z,ne,k _ _ (.inl rfl) e,mA,⟨od,es,ep,k _ _ (.inr d) e2,c⟩,r⟩
 | own y=>obtain ⟨ob,e⟩:=x; exact ⟨ob,k _ _ (.inl rfl) e⟩
 | xd fs=>obtain ⟨mA,⟨od,es,ep,e,c⟩,r⟩:=x; exact ⟨mA,⟨od,es,ep,k _ _ (.inl rfl) e,c⟩,r⟩
 | rng lo hi=>obtain ⟨t,u,v,e⟩:=x; exact ⟨t,u,v,k _ _ (.inl rfl) e⟩
 | frz ob u ih=>obtain ⟨e,q⟩:=x; exact ⟨k _ _ (.inl rfl) e,ih q⟩
 | tbl ps=>
  have e:h.get? a=some { cls:=.none,data:=.fields ps }:=x
  show h'.get? a=some { cls:=.none,data:=.fields ps }
  exact k a _ (.inl rfl) e
 | met f y=>
  have e:h.get? a=some (PySem.W.methodObj (.ref f) (.ref y)):=x
  show h'.get? a=some (PySem.W.methodObj (.ref f) (.ref y))
  exact k a _ (.inl rfl) e
 | ext φ=>obtain ⟨p,⟨o,e⟩,st⟩:=x; exact ⟨st _ _ p λo q=>k _ _ (.inl rfl) q,⟨o,k _ _ (.inl rfl) e⟩,st⟩
theorem HOk.lt (x:HOk P w H h) (e:H a=some o):a<h.objs.size:=(x a o e).lt
theorem HOk.fresh (x:HOk P w H h) (e:h.objs.size<=a):H a=none:=by
 cases q:H a with
 | none=>rfl
 | some u=>exact absurd (Nat.lt_of_lt_of_le (x.lt q) e) (Nat.lt_irrefl _)
theorem HOk.kept (x:HOk P w H h) (k: ∀b u,h.get? b=some u->h'.get? b=some u):HOk P w H h':=λa o e=>
 (x a o e).stay (λb u _ q=>k b u q) (λ_ q=>q) λ_ _ q=>q
theorem HOk.laid (x:HOk P w H h) (k: ∀b u,h.get? b=some u->h'.get? b=some u) (hp:h.objs.size<=a) (new:qbe P w (upd H a o) h' a o):HOk P w (upd H a o) h':=λb u e=>by
 have hn:=x.fresh hp
 by_cases hb:b=a
 ·subst hb; rw[qak] at e; cases e; exact new
 ·rw[qad hb] at e
  exact (x b u e).stay (λc v _ q=>k c v q) (λc q=>by rw[qad (qap q hn)]; exact q) λc xs q=>by rw[qad (qap q hn)]; exact q
end
def Rd (H:Hp) (a:Addr) (u:HO):Prop:=H a=some u\/∃o,H a=some (.frz o u)
theorem Rd.ok {P:Program} {w:World} {H:Hp} {h:Heap} {a:Addr} {u:HO} (r:Rd H a u) (x:HOk P w H h):qbe P w H h a u:=by
 rcases r with r | ⟨o,r⟩
 ·exact x a u r
 ·obtain ⟨_,q⟩:=x a _ r
  exact q
def Mut:Option HO->Prop
 | some (.lst _)=>True
 | some (.dK _)=>True
 | some (.dT _)=>True
 | some (.set _ _)=>True
 | some (.ins _ _ _)=>True
 | some (.ext _)=>True
 | _=>False
section
variable {P:Program} {w:World} {H:Hp} {h h':Heap} {x e:Addr} {o':HO}
theorem HOk.write (ok:HOk P w H h) (mu:Mut (H x)) (he:e=x\/H e=some (.own x)) (k: ∀b u,b≠e->h.get? b=some u->h'.get? b=some u) (heo: ∃u,h'.get? e=some u)
  (new:qbe P w (upd H x o') h' x o'):HOk P w (upd H x o') h':=λb u q=>by
 have nown: ∀c y,H c=some (.own y)->c≠x:=λc y r z=>by subst z; rw[r] at mu; exact mu
 have ntup: ∀c xs,H c=some (.tup xs)->c≠x:=λc xs r z=>by subst z; rw[r] at mu; exact mu
 by_cases hb:b=x
 ·subst hb; rw[qak] at q; cases q; exact new
 ·rw[qad hb] at q
  by_cases hbe:b=e
  ·have q':H b=some (.own x):=by
    rcases he with z | z
    ·exact absurd (hbe.trans z) hb
    ·rw[hbe]; exact z
   rw[q] at q'; cases q'
   obtain ⟨v,hv⟩:=heo
   exact ⟨v,by rw[hbe]; exact hv⟩
  ·refine (ok b u q).stay (λc v hc r=>k c v ?_ r) (λc r=>by rw[qad (nown c b r)]; exact r) λc xs r=>by rw[qad (ntup c xs r)]; exact r
   rcases hc with rfl | hc
   ·exact hbe
   ·rintro rfl
    rcases he with z | z
    ·exact nown c b hc z
    ·rw[hc] at z; cases z; exact hb rfl
end
structure Un (fs ex:List Addr) (H H':Hp) (h h':Heap):Prop where
 keep: ∀b o,h.get? b=some o->H b=none->b∉fs->b∉ex->h'.get? b=some o
 slot: ∀b o,h.get? b=some o->H b=none->b∈fs->b∉ex->∃sl,h'.get? b=some { o with slots:=sl }
 free: ∀b o,h.get? b=some o->H b=none->b∉ex->H' b=none
 there: ∀b o,h.get? b=some o->b∉ex->∃o',h'.get? b=some o'
 tups: ∀b xs,H b=some (.tup xs)->H' b=some (.tup xs)
 frzs: ∀b o u,H b=some (.frz o u)->H' b=some (.frz o u)
 tbls: ∀b ps,H b=some (.tbl ps)->∃more,H' b=some (.tbl (ps++more))
section
variable {fs fs' ex ex':List Addr} {H H1 H2:Hp} {h h1 h2 h':Heap} {a x e:Addr} {o:HO}
theorem Un.any (u:Un fs ex H H1 h h1) {b:Addr} {ob:Obj} (q:h.get? b=some ob) (n:H b=none) (hx:b∉ex): ∃sl,h1.get? b=some { ob with slots:=sl }:=by
 by_cases hb:b∈fs
 ·exact u.slot b ob q n hb hx
 ·exact ⟨ob.slots,u.keep b ob q n hb hx⟩
theorem Un.kept (k: ∀b u,h.get? b=some u->h'.get? b=some u):Un fs ex H H h h':=
 ⟨λb ob q _ _ _=>k b ob q,λb ob q _ _ _=>⟨ob.slots,k b ob q⟩,λ_ _ _ n _=>n,λb ob q _=>⟨ob,k b ob q⟩,λ_ _ q=>q,λ_ _ _ q=>q,λ_ ps q=>⟨#[],by rw[q]; simp⟩⟩
theorem Un.refl:Un fs ex H H h h:=Un.kept λ_ _ q=>q
theorem Un.laid (k: ∀b u,h.get? b=some u->h'.get? b=some u) (hp:h.objs.size<=a) (hn:H a=none):Un fs ex H (upd H a o) h h' where
 keep:=λb u q _ _ _=>k b u q
 slot:=λb u q _ _ _=>⟨u.slots,k b u q⟩
 free:=λb u q n _=>by rw[qad (Nat.ne_of_lt (Nat.lt_of_lt_of_le (Heap.lt_size q) hp))]; exact n
 there:=λb u q _=>⟨u,k b u q⟩
 tups:=λb xs q=>by rw[qad (qap q hn)]; exact q
 frzs:=λb u xs q=>by rw[qad (qap q hn)]; exact q
 tbls:=λb ps q=>⟨#[],by rw[qad (qap q hn),q]; simp⟩
theorem Un.write (mu:Mut (H x)) (he:e=x\/H e=some (.own x)) (k: ∀b u,b≠e->h.get? b=some u->h'.get? b=some u) (heo: ∃u,h'.get? e=some u):Un fs ex H (upd H x o) h h':=by
 have hx: ∀b,H b=none->b≠x:=λb n z=>by subst z; rw[n] at mu; exact mu
 have hb: ∀b,H b=none->b≠e:=λb n z=>by
  subst z
  rcases he with r | r
  ·exact hx b n r
  ·rw[n] at r; cases r
 have hm: ∀b u,H b=some u->¬Mut (some u)->b≠x:=λb u q nm z=>by subst z; rw[q] at mu; exact nm mu
 refine ⟨λb u q n _ _=>k b u (hb b n) q,λb u q n _ _=>⟨u.slots,k b u (hb b n) q⟩,λb u q n _=>by rw[qad (hx b n)]; exact n,λb u q _=> ?_,
  λb xs q=>by rw[qad (hm b _ q λz=>z)]; exact q,λb u xs q=>by rw[qad (hm b _ q λz=>z)]; exact q,λb ps q=>⟨#[],by rw[qad (hm b _ q λz=>z),q]; simp⟩⟩
 by_cases hbe:b=e
 ·subst hbe; exact heo
 ·exact ⟨u,k b u hbe q⟩
end
def trk (h:Heap) (H:Hp):List Addr:=(List.range h.objs.size).filter λa=>(H a).isSome
def qk7 (h:Heap) (H:Hp):Heap:=PySem.W.hideAll h (trk h H)
theorem qk6 (h:Heap) (H:Hp):(qk7 h H).objs.size=h.objs.size:=PySem.W.hideAll_size _ _
theorem qmY {h:Heap} {H:Hp} {b:Addr} {o:Obj} (e:h.get? b=some o) (n:H b=none):(qk7 h H).get? b=some o:=
 PySem.W.hideAll_get _ e λhm=>by
  have q:(H b).isSome=true:=(List.mem_filter.mp hm).2
  rw[n] at q; simp at q
theorem qoE {h:Heap} {H:Hp} {b:Addr} {o:Obj} (e:(qk7 h H).get? b=some o):h.get? b=some o/\H b=none:=by
 have e':h.get? b=some o:=PySem.W.of_hideAll (trk h H) e
 refine ⟨e',?_⟩
 cases q:H b with
 | none=>rfl
 | some x=>
  have hm:b∈trk h H:=List.mem_filter.mpr ⟨List.mem_range.mpr (Heap.lt_size e'),by simp[q]⟩
  have z:(qk7 h H).get? b=none:=PySem.W.hideAll_none (trk h H) hm
  rw[z] at e; cases e
def qpp (g h:Heap) (L:Addr):List (Addr×Obj):=(List.range h.objs.size).filterMap λa=>if a=L\/(g.get? a).isSome=true then none else (h.get? a).map λo=>(a,o)
def qc3 (g h:Heap) (L d:Addr):List (Addr×Obj):=(qpp g h L).filter λp=>decide (p.1≠d)
end L2
namespace L2
open PySem PySem.Spec PyProof.Rows
structure Mod (K:PySem.W.Frag) (mg:Str->Option Value) (base:Heap):Prop where
 kin:K.In base
 glob:base.Ns mainGlobals mg
 blt: ∃mb,base.Ns builtinsNs mb/\∀x:Str,x≠ "__name__" ->mb x=bootBuiltins x
 nolimit:base.NoLimit
structure Cx where
 prog:Program
 w:World
 K:PySem.W.Frag
 mg:Str->Option Value
 base:Heap
 A:Around
 N:List Str
 s₀:Shared
 H₀:Hp
 env:Env
 outer:List Env
 stack:List Env
 ex:List Addr
 fn:Str->Bool
 calm:Bool
 pn:List (Addr×Obj)
 xe:Value->Shared->Prop
def frs (l:List Env):List Addr:=l.filterMap (·.frame)
abbrev Cx.fs (X:Cx):List Addr:=frs X.outer
def Vis (sc:Scope) (x:Str):Prop:=sc.names.lookup x=some .local\/sc.names.lookup x=some .cell\/sc.names.lookup x=some .free
def Loc (sc:Scope) (x:Str):Prop:=sc.names.lookup x=some .local\/sc.names.lookup x=some .cell
def qvo (env:Env) (h:Heap) (m:Str->Option Value) (x:Str) (u:Value):Prop:=
 (env.kindOf x=some .local/\m x=some u)\/((env.kindOf x=some .cell\/env.kindOf x=some .free)/\∃c,env.cells.lookup x=some c/\h.IsCell c (some u))
structure Cx.Ok (X:Cx):Prop where
 mod:Mod X.K X.mg X.base
 kind:X.env.scope.kind= .function
 glob:X.env.globals=mainGlobals
 blt:X.env.builtins=builtinsNs
 above:X.s₀.heap.objs.size<=X.env.locals
 inj: ∀x y c,X.env.cells.lookup x=some c->X.env.cells.lookup y=some c->x=y
 has: ∀x,(X.env.kindOf x=some .cell\/X.env.kindOf x=some .free)->∃c,X.env.cells.lookup x=some c
 cab: ∀x c,X.fn x=true->X.env.cells.lookup x=some c->X.s₀.heap.objs.size<=c
 hd:X.calm=true->X.A.handled=none
 frames:X.A.frames=some X.stack
 stk:X.stack=X.outer\/(X.stack=X.env::X.outer/\X.env.frame=some X.env.locals)
 exf: ∀b∈X.ex,b≠X.env.locals/\∀x c,X.env.cells.lookup x=some c->c≠b
 bs: ∀b o,X.base.get? b=some o->X.s₀.heap.get? b=some o/\X.H₀ b=none
 bsz:X.base.objs.size<=X.s₀.heap.objs.size
 noex: ∀b o,X.base.get? b=some o->b∉X.ex
 exfs: ∀b∈X.ex,b∉X.fs
 funs:X.s₀.heap.FunFrames X.base X.outer
 frf: ∀b∈X.fs,X.H₀ b=none
structure Inv (X:Cx) (pins:List (Addr×Obj)) (σ:List (Option V)) (H:Hp) (s:Shared):Prop where
 ok:X.Ok
 os:s.os=X.s₀.os
 bare:AllBare s.gens
 base:Un X.fs X.ex X.H₀ H X.s₀.heap s.heap
 loc: ∃m,s.heap.Ns X.env.locals m/\∀(i:Nat) (x:Str) (v:V),X.N[i]? =some x->σ[i]? =some (some v)->Vis X.env.scope x->∃u,RelV v u/\qvo X.env s.heap m x u
 cell: ∀x c,X.env.cells.lookup x=some c->∃v,s.heap.IsCell c v
 free:H X.env.locals=none
 freeC: ∀x c,X.env.cells.lookup x=some c->H c=none
 pin: ∀p∈X.pn++pins,s.heap.get? p.1=some p.2/\H p.1=none/\p.1≠X.env.locals/\p.1∉X.fs/\∀v,p.2.data≠.cell v
 hok:HOk X.prog X.w H s.heap
 len:σ.length=X.N.length
section
variable {X:Cx} {pins:List (Addr×Obj)} {σ:List (Option V)} {H H':Hp} {s:Shared} {h':Heap}
theorem Cx.Ok.nofr (ok:X.Ok) {b:Addr} {o:Obj} (e:X.base.get? b=some o):b∉X.fs:=λhb=>by
 have:=(ok.funs.mem hb).1
 rw[e] at this; cases this
theorem Inv.bs (I:Inv X pins σ H s): ∀b o,X.base.get? b=some o->s.heap.get? b=some o/\H b=none:=λb o e=>
 ⟨I.base.keep b o (I.ok.bs b o e).1 (I.ok.bs b o e).2 (I.ok.nofr e) (I.ok.noex b o e),I.base.free b o (I.ok.bs b o e).1 (I.ok.bs b o e).2 (I.ok.noex b o e)⟩
theorem Inv.bk (I:Inv X pins σ H s): ∀b o,X.base.get? b=some o->s.heap.get? b=some o:=λb o e=>(I.bs b o e).1
theorem Inv.mod (I:Inv X pins σ H s):Mod X.K X.mg X.base:=I.ok.mod
theorem Inv.kIn (I:Inv X pins σ H s):X.K.In s.heap:=I.ok.mod.kin.keeps I.bk
theorem Inv.nolimit (I:Inv X pins σ H s):s.heap.NoLimit:=I.ok.mod.nolimit.keeps I.bk
theorem Inv.lt (I:Inv X pins σ H s):X.env.locals<s.heap.objs.size:=let ⟨_,hn,_⟩:=I.loc; hn.lt
theorem Inv.sz (I:Inv X pins σ H s):X.s₀.heap.objs.size<=s.heap.objs.size:=Nat.le_trans I.ok.above (Nat.le_of_lt I.lt)
theorem Inv.nofs (I:Inv X pins σ H s) {a:Addr} (h:s.heap.objs.size<=a):a∉X.fs:=λhb=>by
 obtain ⟨_,o,ho,_⟩:=I.ok.funs.mem hb
 exact absurd (Nat.lt_of_lt_of_le (Heap.lt_size ho) (Nat.le_trans I.sz h)) (Nat.lt_irrefl _)
theorem Inv.cne (I:Inv X pins σ H s): ∀x c,X.env.cells.lookup x=some c->c≠X.env.locals:=λx c e z=>by
 obtain ⟨v,o,ho,hd⟩:=I.cell x c e
 obtain ⟨m,⟨o',es,ep,ho',hd',_⟩,_⟩:=I.loc
 rw[z,ho'] at ho; cases ho; rw[hd'] at hd; cases hd
theorem Inv.funs (I:Inv X pins σ H s):s.heap.FunFrames X.base X.outer:=by
 have all: ∀(l:List Env),(∀b∈frs l,b∈X.fs)->X.s₀.heap.FunFrames X.base l->s.heap.FunFrames X.base l:=by
  intro l
  induction l with
  | nil=>intro _ _; trivial
  | cons env r ih=>
   intro hs hl
   obtain ⟨hk,⟨L,o,hf,hn,ho,hd⟩,hr⟩:=hl
   have hL:L∈X.fs:=hs L (by unfold frs; rw[List.filterMap_cons,hf]; exact List.mem_cons_self)
   obtain ⟨sl,e⟩:=I.base.slot L o ho (I.ok.frf L hL) hL λz=>I.ok.exfs L z hL
   exact ⟨hk,⟨L,_,hf,hn,e,hd⟩,ih (λb hb=>hs b (by unfold frs; rw[List.filterMap_cons,hf]; exact List.mem_cons_of_mem _ hb)) hr⟩
 exact all X.outer (λ_ hb=>hb) I.ok.funs
theorem Inv.stack (I:Inv X pins σ H s):s.heap.FunFrames X.base X.stack:=by
 rcases I.ok.stk with e | ⟨e,hf⟩
 ·rw[e]; exact I.funs
 ·rw[e]
  obtain ⟨m,hn,_⟩:=I.loc
  refine .cons (by rw[I.ok.kind]; decide) hf hn ?_ I.funs
  exact Heap.get?_none_of_le (Nat.le_trans I.ok.bsz I.ok.above)
theorem Inv.stkSub (I:Inv X pins σ H s): ∀b∈frs X.stack,b∈X.env.locals::X.fs:=λb hb=>by
 rcases I.ok.stk with e | ⟨e,hf⟩
 ·rw[e] at hb; exact List.mem_cons_of_mem _ hb
 ·rw[e] at hb
  unfold frs at hb
  rw[List.filterMap_cons,hf] at hb
  exact hb
theorem Inv.stkFree (I:Inv X pins σ H s): ∀b∈frs X.stack,H b=none:=λb hb=>by
 rcases List.mem_cons.mp (I.stkSub b hb) with e | hb
 ·rw[e]; exact I.free
 ·obtain ⟨_,o,ho,_⟩:=I.ok.funs.mem hb
  exact I.base.free b o ho (I.ok.frf b hb) λz=>I.ok.exfs b z hb
theorem Inv.step {g':Array GenState} {t':Nat} {d':Drawn} {ch:List Addr} (I:Inv X pins σ H s)
  (hch: ∀b∈ch,(b∈X.ex\/X.s₀.heap.objs.size<=b)/\b≠X.env.locals/\(∀x c,X.env.cells.lookup x=some c->c≠b)/\∀p∈X.pn++pins,p.1≠b)
  (keep: ∀b o,b≠X.env.locals->b∉X.fs->b∉ch->s.heap.get? b=some o->H b=none->h'.get? b=some o)
  (slot: ∀b o,b≠X.env.locals->b∈X.fs->b∉ch->s.heap.get? b=some o->H b=none->∃sl,h'.get? b=some { o with slots:=sl }) (free: ∀b o,b∉ch->s.heap.get? b=some o->H b=none->H' b=none)
  (there: ∀b o,b∉ch->s.heap.get? b=some o->∃o',h'.get? b=some o')
  (tups: ∀b xs,H b=some (.tup xs)->H' b=some (.tup xs)) (frzs: ∀b o u,H b=some (.frz o u)->H' b=some (.frz o u)) (tbls: ∀b ps,H b=some (.tbl ps)->∃more,H' b=some (.tbl (ps++more)))
  (ns: ∀m,s.heap.Ns X.env.locals m->h'.Ns X.env.locals m) (hok:HOk X.prog X.w H' h') (hg:AllBare g'):
  Inv X pins σ H' { s with heap:=h',gens:=g',drawn:=d',toks:=t' }:=by
 have neL: ∀b o,X.s₀.heap.get? b=some o->b≠X.env.locals:=λb o e=>Nat.ne_of_lt (Nat.lt_of_lt_of_le (Heap.lt_size e) I.ok.above)
 have neC: ∀b o,X.s₀.heap.get? b=some o->b∉X.ex->b∉ch:=λb o e hx hb=>by
  rcases (hch b hb).1 with z | z
  ·exact hx z
  ·exact absurd (Nat.lt_of_lt_of_le (Heap.lt_size e) z) (Nat.lt_irrefl _)
 have cellK: ∀x c,X.env.cells.lookup x=some c->∀v,s.heap.IsCell c v->h'.IsCell c v:=λx c e v ⟨o,ho,hd⟩=>by
  have nch:c∉ch:=λz=>(hch c z).2.2.1 x c e rfl
  by_cases hc:c∈X.fs
  ·obtain ⟨sl,q⟩:=slot c o (I.cne x c e) hc nch ho (I.freeC x c e)
   exact ⟨_,q,hd⟩
  ·exact ⟨o,keep c o (I.cne x c e) hc nch ho (I.freeC x c e),hd⟩
 refine ⟨I.ok,I.os,hg,⟨λb o e n hb hx=> ?_,λb o e n hb hx=> ?_,λb o e n hx=> ?_,λb o e hx=> ?_,λb xs e=>tups b xs (I.base.tups b xs e),λb o xs e=>frzs b o xs (I.base.frzs b o xs e),λb ps e=> ?_⟩,?_,λx c e=> ?_,?_,λx c e=> ?_,λp hp=> ?_,hok,I.len⟩
 ·exact keep b o (neL b o e) hb (neC b o e hx) (I.base.keep b o e n hb hx) (I.base.free b o e n hx)
 ·obtain ⟨sl,e1⟩:=I.base.slot b o e n hb hx
  obtain ⟨sl',e2⟩:=slot b _ (neL b o e) hb (neC b o e hx) e1 (I.base.free b o e n hx)
  exact ⟨sl',e2⟩
 ·obtain ⟨o',e1⟩:=I.base.there b o e hx
  exact free b o' (neC b o e hx) e1 (I.base.free b o e n hx)
 ·obtain ⟨o',e1⟩:=I.base.there b o e hx
  exact there b o' (neC b o e hx) e1
 ·obtain ⟨m1,e1⟩:=I.base.tbls b ps e
  obtain ⟨m2,e2⟩:=tbls b _ e1
  exact ⟨m1++m2,by rw[e2,Array.append_assoc]⟩
 ·obtain ⟨m,hn,hl⟩:=I.loc
  refine ⟨m,ns m hn,λi x v e1 e2 e3=> ?_⟩
  obtain ⟨u,r,l⟩:=hl i x v e1 e2 e3
  refine ⟨u,r,?_⟩
  rcases l with l | ⟨k,c,e,z⟩
  ·exact .inl l
  ·exact .inr ⟨k,c,e,cellK x c e _ z⟩
 ·obtain ⟨v,z⟩:=I.cell x c e
  exact ⟨v,cellK x c e v z⟩
 ·obtain ⟨m,⟨o,_,_,ho,_⟩,_⟩:=I.loc
  exact free _ o (λz=>(hch _ z).2.1 rfl) ho I.free
 ·obtain ⟨v,o,ho,hd⟩:=I.cell x c e
  exact free c o (λz=>(hch c z).2.2.1 x c e rfl) ho (I.freeC x c e)
 ·obtain ⟨e,n,ne,nf,d⟩:=I.pin p hp
  have nch:p.1∉ch:=λz=>(hch p.1 z).2.2.2 p hp rfl
  exact ⟨keep p.1 p.2 ne nf nch e n,free p.1 p.2 nch e n,ne,nf,d⟩
theorem Inv.un {t':Nat} (I:Inv X pins σ H s) (u:Un X.fs [] H H' s.heap h') (hok:HOk X.prog X.w H' h'):Inv X pins σ H' { s with heap:=h',toks:=t' }:=by
 obtain ⟨m,⟨o,es,ep,ho,r⟩,_⟩:=id I.loc
 obtain ⟨sl,hL⟩:=u.any ho I.free (by simp)
 exact I.step (g':=s.gens) (d':=s.drawn) (ch:=[]) (λ_ z=>nomatch z) (λb o _ hb _ e n=>u.keep b o e n hb (by simp)) (λb o _ hb _ e n=>u.slot b o e n hb (by simp)) (λb o _ e n=>u.free b o e n (by simp)) (λb o _ e=>u.there b o e (by simp)) u.tups u.frzs u.tbls (λm' hm=>by
  obtain ⟨o',es',ep',ho',r'⟩:=hm
  rw[ho] at ho'; cases ho'
  exact ⟨_,es',ep',hL,r'⟩) hok I.bare
theorem Inv.call {g':Array GenState} {t':Nat} {d':Drawn} {ch:List Addr} (I:Inv X pins σ H s) (u:Un (frs X.stack) ch H H' s.heap h') (hok:HOk X.prog X.w H' h') (hg:AllBare g')
  (hch: ∀b∈ch,(b∈X.ex\/X.s₀.heap.objs.size<=b)/\b≠X.env.locals/\(∀x c,X.env.cells.lookup x=some c->c≠b)/\∀p∈X.pn++pins,p.1≠b):
  Inv X pins σ H' { s with heap:=h',gens:=g',drawn:=d',toks:=t' }:=by
 obtain ⟨m,⟨o,es,ep,ho,r⟩,_⟩:=id I.loc
 obtain ⟨sl,hL⟩:=u.any ho I.free λz=>(hch _ z).2.1 rfl
 exact I.step (ch:=ch) hch (λb o hL hb hc e n=>u.keep b o e n (λz=>(List.mem_cons.mp (I.stkSub b z)).elim hL hb) hc) (λb o _ _ hc e n=>u.any e n hc) (λb o hc e n=>u.free b o e n hc) (λb o hc e=>u.there b o e hc) u.tups u.frzs u.tbls (λm' hm=>by
  obtain ⟨o',es',ep',ho',r'⟩:=hm
  rw[ho] at ho'; cases ho'
  exact ⟨_,es',ep',hL,r'⟩) hok hg
theorem Inv.turned {t':Nat} {it:Addr} (I:Inv X pins σ H s) (k: ∀b o,b≠it->s.heap.get? b=some o->h'.get? b=some o) (hn:H it=none) (hL:it≠X.env.locals)
  (h1:it∈X.ex\/X.s₀.heap.objs.size<=it) (h2: ∀x c,X.env.cells.lookup x=some c->c≠it) (h3: ∀p∈X.pn++pins,p.1≠it):Inv X pins σ H { s with heap:=h',toks:=t' }:=by
 have nit: ∀b u,H b=some u->b≠it:=λb u e z=>by rw[z,hn] at e; cases e
 refine I.step (g':=s.gens) (d':=s.drawn) (ch:=[it]) (λb hb=> ?_) (λb o _ _ hc e _=>k b o (λz=>hc (by simp[z])) e) (λb o _ _ hc e _=>⟨o.slots,k b o (λz=>hc (by simp[z])) e⟩) (λ_ _ _ _ n=>n)
  (λb o hc e=>⟨o,k b o (λz=>hc (by simp[z])) e⟩) (λ_ _ e=>e) (λ_ _ _ e=>e) (λb ps e=>⟨#[],by rw[e]; simp⟩) (λm hm=> ?_) (λb u e=> ?_) I.bare
 ·have e:b=it:=by simpa using hb
  subst e
  exact ⟨h1,hL,h2,h3⟩
 ·obtain ⟨o,es,ep,ho,r⟩:=hm
  exact ⟨o,es,ep,k _ o (Ne.symm hL) ho,r⟩
 ·refine (I.hok b u e).stay (λc v hc q=>k c v ?_ q) (λ_ q=>q) λ_ _ q=>q
  rcases hc with z | z
  ·rw[z]; exact nit b u e
  ·exact nit c _ z
theorem Inv.tok (I:Inv X pins σ H s) (t:Nat):Inv X pins σ H { s with toks:=t }:=I.un (h':=s.heap) (t':=t) Un.refl I.hok
theorem Inv.kept {t':Nat} (I:Inv X pins σ H s) (k: ∀b u,s.heap.get? b=some u->h'.get? b=some u):Inv X pins σ H { s with heap:=h',toks:=t' }:=I.un (Un.kept k) (I.hok.kept k)
theorem Inv.laid {a:Addr} {o:HO} {t':Nat} (I:Inv X pins σ H s) (k: ∀b u,s.heap.get? b=some u->h'.get? b=some u) (hp:s.heap.objs.size<=a) (new:qbe X.prog X.w (upd H a o) h' a o):
  Inv X pins σ (upd H a o) { s with heap:=h',toks:=t' }:=I.un (Un.laid k hp (I.hok.fresh hp)) (I.hok.laid k hp new)
theorem Inv.write {x e:Addr} {o:HO} {t':Nat} (I:Inv X pins σ H s) (mu:Mut (H x)) (he:e=x\/H e=some (.own x)) (k: ∀b u,b≠e->s.heap.get? b=some u->h'.get? b=some u) (heo: ∃u,h'.get? e=some u)
  (new:qbe X.prog X.w (upd H x o) h' x o):Inv X pins σ (upd H x o) { s with heap:=h',toks:=t' }:=I.un (Un.write mu he k heo) (I.hok.write mu he k heo new)
theorem Inv.pins_of {pins':List (Addr×Obj)} (I:Inv X pins σ H s) (h: ∀p∈pins',s.heap.get? p.1=some p.2/\H p.1=none/\p.1≠X.env.locals/\p.1∉X.fs/\∀v,p.2.data≠.cell v):Inv X pins' σ H s:=
 ⟨I.ok,I.os,I.bare,I.base,I.loc,I.cell,I.free,I.freeC,λp hp=>(List.mem_append.mp hp).elim (λz=>I.pin p (List.mem_append_left _ z)) (h p),I.hok,I.len⟩
theorem qic {N:List Str} (hN:N.Nodup) {i j:Nat} {x:Str} (a:N[i]? =some x) (b:N[j]? =some x):i=j:=by
 obtain ⟨h1,e1⟩:=List.getElem?_eq_some_iff.mp a
 obtain ⟨h2,e2⟩:=List.getElem?_eq_some_iff.mp b
 exact (List.getElem_inj hN).mp (e1.trans e2.symm)
theorem qf4 {M:Model} {A:Around} {E:Value->Shared->Prop} {i:Nat} {x:Str} {v:V} {u:Value} {Q:Unit->Shared->Prop} (I:Inv X pins σ H s) (hN:X.N.Nodup) (hi:X.N[i]? =some x) (hx:Loc X.env.scope x) (r:RelV v u)
  (h: ∀s',Inv X pins (σ.set i (some v)) H s'->(∃a,Heap.SameBut a s.heap s'.heap/\(a=X.env.locals\/X.env.cells.lookup x=some a))->Q () s') (hf:X.fn x=true\/X.env.scope.names.lookup x=some .local:=by first | exact .inl rfl | exact .inr rfl | assumption):wpAny M A (storeName X.env x u) Q E s:=by
 obtain ⟨m,hn,hl⟩:=id I.loc
 have hcls:(X.env.scope.kind== .class||(X.env.scope.kind== .module&&X.env.locals != X.env.globals))=false:=by rw[I.ok.kind]; rfl
 have hiσ:i<σ.length:=by rw[I.len]; exact (List.getElem?_eq_some_iff.mp hi).1
 have cne:=I.cne
 have tracked: ∀{a:Addr} {h':Heap},(∃o,s.heap.get? a=some o/\H a=none)->Heap.SameBut a s.heap h'->HOk X.prog X.w H h':=λ{a h'} ha hs b ob e=>by
  obtain ⟨_,_,hfree⟩:=ha
  refine (I.hok b ob e).stay (λc w' hc q=>(hs.2 c ?_).trans q) (λ_ q=>q) λ_ _ q=>q
  rintro rfl
  rcases hc with rfl | hc
  ·rw[hfree] at e; cases e
  ·rw[hfree] at hc; cases hc
 rcases hx with hk | hk
 ·refine wpAny_storeName_local hk hn (λh' hn' hs=> ?_) hcls
  obtain ⟨oL,_,_,hoL,_⟩:=id hn
  refine h _ ⟨I.ok,I.os,I.bare,⟨λb o e n hb hx=> ?_,λb o e n hb hx=> ?_,I.base.free,λb o e hx=> ?_,I.base.tups,I.base.frzs,I.base.tbls⟩,⟨_,hn',λj y v' e1 e2 e3=> ?_⟩,λy c e=> ?_,I.free,I.freeC,λp hp=> ?_,tracked ⟨oL,hoL,I.free⟩ hs,by simpa using I.len⟩ ⟨_,hs,.inl rfl⟩
  ·exact (hs.2 b (Nat.ne_of_lt (Nat.lt_of_lt_of_le (Heap.lt_size e) I.ok.above))).trans (I.base.keep b o e n hb hx)
  ·obtain ⟨sl,e1⟩:=I.base.slot b o e n hb hx
   exact ⟨sl,(hs.2 b (Nat.ne_of_lt (Nat.lt_of_lt_of_le (Heap.lt_size e) I.ok.above))).trans e1⟩
  ·obtain ⟨o',e1⟩:=I.base.there b o e hx
   exact ⟨o',(hs.2 b (Nat.ne_of_lt (Nat.lt_of_lt_of_le (Heap.lt_size e) I.ok.above))).trans e1⟩
  ·by_cases hj:j=i
   ·subst hj
    rw[hi] at e1; cases e1
    rw[List.getElem?_set_self hiσ] at e2
    cases e2
    exact ⟨u,r,.inl ⟨hk,by simp⟩⟩
   ·rw[List.getElem?_set_ne (Ne.symm hj)] at e2
    obtain ⟨u',r',q⟩:=hl j y v' e1 e2 e3
    refine ⟨u',r',?_⟩
    rcases q with ⟨k,e⟩ | ⟨k,c,e,z⟩
    ·refine .inl ⟨k,?_⟩
     have:y≠x:=λe=>hj (qic hN e1 (e▸hi))
     simp[this,e]
    ·exact .inr ⟨k,c,e,z.sameBut hs (cne y c e)⟩
  ·obtain ⟨w',z⟩:=I.cell y c e
   exact ⟨w',z.sameBut hs (cne y c e)⟩
  ·obtain ⟨e,n,ne,nf,d⟩:=I.pin p hp
   exact ⟨(hs.2 p.1 ne).trans e,n,ne,nf,d⟩
 ·have hfn:X.fn x=true:=by
   rcases hf with z | z
   ·exact z
   ·rw[z] at hk; cases hk
  obtain ⟨c,hc⟩:=I.ok.has x (.inl hk)
  obtain ⟨w',z⟩:=I.cell x c hc
  refine wpAny_storeName_cell I.ok.kind hk hc z (λh' hc' hs=> ?_)
  obtain ⟨oc,hoc,hocd⟩:=id z
  refine h { s with heap:=h' } ⟨I.ok,I.os,I.bare,⟨λb o e n hb hx=> ?_,λb o e n hb hx=> ?_,I.base.free,λb o e hx=> ?_,I.base.tups,I.base.frzs,I.base.tbls⟩,⟨m,hn.sameBut hs (Ne.symm (cne x c hc)),λj y v' e1 e2 e3=> ?_⟩,λy c' e=> ?_,I.free,I.freeC,λp hp=> ?_,tracked ⟨oc,hoc,I.freeC x c hc⟩ hs,by simpa using I.len⟩ ⟨c,hs,.inr hc⟩
  ·exact (hs.2 b (Nat.ne_of_lt (Nat.lt_of_lt_of_le (Heap.lt_size e) (I.ok.cab x c hfn hc)))).trans (I.base.keep b o e n hb hx)
  ·obtain ⟨sl,e1⟩:=I.base.slot b o e n hb hx
   exact ⟨sl,(hs.2 b (Nat.ne_of_lt (Nat.lt_of_lt_of_le (Heap.lt_size e) (I.ok.cab x c hfn hc)))).trans e1⟩
  ·obtain ⟨o',e1⟩:=I.base.there b o e hx
   exact ⟨o',(hs.2 b (Nat.ne_of_lt (Nat.lt_of_lt_of_le (Heap.lt_size e) (I.ok.cab x c hfn hc)))).trans e1⟩
  ·by_cases hj:j=i
   ·subst hj
    rw[hi] at e1; cases e1
    rw[List.getElem?_set_self hiσ] at e2
    cases e2
    exact ⟨u,r,.inr ⟨.inl hk,c,hc,hc'⟩⟩
   ·rw[List.getElem?_set_ne (Ne.symm hj)] at e2
    obtain ⟨u',r',q⟩:=hl j y v' e1 e2 e3
    refine ⟨u',r',?_⟩
    rcases q with q | ⟨k,c',e,z'⟩
    ·exact .inl q
    ·refine .inr ⟨k,c',e,z'.sameBut hs ?_⟩
     rintro rfl
     exact hj (qic hN e1 (I.ok.inj _ _ _ e hc▸hi))
  ·by_cases hcc:c'=c
   ·subst hcc; exact ⟨_,hc'⟩
   ·obtain ⟨w2,z2⟩:=I.cell y c' e
    exact ⟨w2,z2.sameBut hs hcc⟩
  ·obtain ⟨e,n,ne,nf,d⟩:=I.pin p hp
   refine ⟨(hs.2 p.1 ?_).trans e,n,ne,nf,d⟩
   intro q
   rw[q,hoc] at e
   have q':oc=p.2:=Option.some.inj e
   exact d w' (by rw[<-q']; exact hocd)
theorem qhR {M:Model} {A:Around} {E:Value->Shared->Prop} {i:Nat} {x:Str} {v:V} {u:Value} {Q:Unit->Shared->Prop} (I:Inv X pins σ H s) (hN:X.N.Nodup) (hi:X.N[i]? =some x) (hx:Loc X.env.scope x) (r:RelV v u)
  (h: ∀s',Inv X pins (σ.set i (some v)) H s'->Q () s') (hf:X.fn x=true\/X.env.scope.names.lookup x=some .local:=by first | exact .inl rfl | exact .inr rfl | assumption):wpAny M A (storeName X.env x u) Q E s:=
 qf4 I hN hi hx r (λs' I' _=>h s' I') hf
theorem Inv.call' {s':Shared} {ch:List Addr} (I:Inv X pins σ H s) (ho:s'.os=s.os) (u:Un (frs X.stack) ch H H' s.heap s'.heap) (hok:HOk X.prog X.w H' s'.heap) (hg:AllBare s'.gens)
  (hch: ∀b∈ch,(b∈X.ex\/X.s₀.heap.objs.size<=b)/\b≠X.env.locals/\(∀x c,X.env.cells.lookup x=some c->c≠b)/\∀p∈X.pn++pins,p.1≠b):Inv X pins σ H' s':=by
 obtain ⟨h',g',d',t',o'⟩:=s'
 have e:o'=s.os:=ho
 subst e
 exact I.call (g':=g') (t':=t') (d':=d') u hok hg hch
end
abbrev XK:=Value->Option Addr->Hp->Prop
abbrev St:=List (Option V)
abbrev VK:=V->Hp->Prop
abbrev TE:=St->Hp->VK->Prop
abbrev TT:=St->Hp->(Bool->Hp->Prop)->Prop
abbrev TA:=St->Hp->(List V->Hp->Prop)->Prop
structure qn6 where
 nx:St->Hp->Prop
 rt:VK
 bk:St->Hp->Prop:=λ_ _=>False
 ct:St->Hp->Prop:=λ_ _=>False
abbrev TS:=qn6->St->Hp->Prop
def EP (X:Cx) (pins:List (Addr×Obj)) (σ:St) (Q:VK) (u:Value) (s':Shared):Prop:= ∃v H',Inv X pins σ H' s'/\RelV v u/\Q v H'
def TP (X:Cx) (pins:List (Addr×Obj)) (σ:St) (Q:Bool->Hp->Prop) (b:Bool) (s':Shared):Prop:= ∃H',Inv X pins σ H' s'/\Q b H'
def AP (X:Cx) (pins:List (Addr×Obj)) (σ:St) (Q:List V->Hp->Prop) (us:List Value) (s':Shared):Prop:= ∃vs H',Inv X pins σ H' s'/\Vals vs us/\Q vs H'
def SP (X:Cx) (pins:List (Addr×Obj)) (D:qn6) (f:Flow) (s':Shared):Prop:=
 match f with
 | .next=> ∃σ' H',Inv X pins σ' H' s'/\D.nx σ' H'
 | .brk=> ∃σ' H',Inv X pins σ' H' s'/\D.bk σ' H'
 | .cont=> ∃σ' H',Inv X pins σ' H' s'/\D.ct σ' H'
 | .ret u=> ∃v σ' H',Inv X pins σ' H' s'/\RelV v u/\D.rt v H'
def PE (X:Cx) (e:Expr) (t:TE):Prop:=
 ∀(pins:List (Addr×Obj)) (s:Shared) (σ:St) (H:Hp) (Q:VK),Inv X pins σ H s->t σ H Q->wpAny (model X.prog X.w) X.A (eval e X.env) (EP X pins σ Q) X.xe s
def PT (X:Cx) (e:Expr) (t:TT):Prop:=
 ∀(pins:List (Addr×Obj)) (s:Shared) (σ:St) (H:Hp) (Q:Bool->Hp->Prop),Inv X pins σ H s->t σ H Q->wpAny (model X.prog X.w) X.A (isTrue e X.env (eval e X.env)) (TP X pins σ Q) X.xe s
def PW (X:Cx) (e:Expr) (t:TT):Prop:=
 ∀(whole:Sem Value) (pins:List (Addr×Obj)) (s:Shared) (σ:St) (H:Hp) (Q:Bool->Hp->Prop),Inv X pins σ H s->t σ H Q->wpAny (model X.prog X.w) X.A (isTrue e X.env whole) (TP X pins σ Q) X.xe s
theorem PW.pt {X:Cx} {e:Expr} {t:TT} (h:PW X e t):PT X e t:=h _
def PA (X:Cx) (es:List Expr) (t:TA):Prop:=
 ∀(pos:Pos) (pins:List (Addr×Obj)) (s:Shared) (σ:St) (H:Hp) (Q:List V->Hp->Prop),Inv X pins σ H s->t σ H Q->wpAny (model X.prog X.w) X.A (spliced (backTo pos (starEach es X.env))) (AP X pins σ Q) X.xe s
def PS (X:Cx) (st:Stmt) (t:TS):Prop:=
 ∀(pins:List (Addr×Obj)) (s:Shared) (σ:St) (H:Hp) (D:qn6),Inv X pins σ H s->t D σ H->wpAny (model X.prog X.w) X.A (exec st X.env) (SP X pins D) X.xe s
def PSs (X:Cx) (st:List Stmt) (t:TS):Prop:=
 ∀(pins:List (Addr×Obj)) (s:Shared) (σ:St) (H:Hp) (D:qn6),Inv X pins σ H s->t D σ H->wpAny (model X.prog X.w) X.A (execs st X.env) (SP X pins D) X.xe s
theorem thn {α:Type} {t:Sem α} {Q Q':α->Shared->Prop} {M:Model} {A:Around} {E:Value->Shared->Prop} {s:Shared} (h:wpAny M A t Q E s) (hQ: ∀a s,Q a s->Q' a s):wpAny M A t Q' E s:=wpAny_mono h hQ λ_ _ x=>x
end L2
namespace L2
open PySem PySem.Spec PyProof.Rows
section
variable {X:Cx}
theorem bin {a b:Expr} {ta tb:TE} (ha:PE X a ta) (hb:PE X b tb) {pins:List (Addr×Obj)} {s:Shared} {σ:St} {H:Hp} {R:V->V->Hp->Prop} (I:Inv X pins σ H s) (h:ta σ H λx H1=>tb σ H1 λy H2=>R x y H2)
  {α:Type} {Q:α->Shared->Prop} {f:Value->Value->Sem α}
  (hf: ∀v u s2 x y H2,Inv X pins σ H2 s2->RelV x v->RelV y u->R x y H2->wpAny (model X.prog X.w) X.A (f v u) Q X.xe s2):
  wpAny (model X.prog X.w) X.A (eval a X.env) (λv s₁=>wpAny (model X.prog X.w) X.A (eval b X.env) (λu s₂=>wpAny (model X.prog X.w) X.A (f v u) Q X.xe s₂) X.xe s₁) X.xe s:=by
 refine thn (ha pins s σ H _ I h) λv s1 ⟨x,H1,I1,r1,q1⟩=> ?_
 refine thn (hb pins s1 σ H1 _ I1 q1) λu s2 ⟨y,H2,I2,r2,q2⟩=> ?_
 exact hf v u s2 x y H2 I2 r1 r2 q2
def qhK (i:Nat):TE:=λσ H Q=> ∃v,σ[i]? =some (some v)/\Q v H
def tC (v:V):TE:=λ_ H Q=>Q v H
theorem qql {i:Nat} {x:Str} {pos:Pos} (hN:X.N[i]? =some x) (hv:Vis X.env.scope x) (hd:(x==("__debug__" :Str))=false:=by decide) (hcd:(x==("__classdict__" :Str))=false:=by decide):PE X (.Name x pos) (qhK i):=by
 intro pins s σ H Q I h
 obtain ⟨v,e,h⟩:=h
 obtain ⟨m,hn,hl⟩:=I.loc
 obtain ⟨u,r,l⟩:=hl i x v hN e hv
 have fin:EP X pins σ Q u s:=⟨v,H,I,r,h⟩
 rcases l with ⟨hk,hm⟩ | ⟨hk,c,hc,hcell⟩
 ·exact wpAny_Name (wpAny_loadName_local I.ok.kind hk hn hm fin) hd
 ·rcases hk with hk | hk
  ·exact wpAny_Name (wpAny_loadName_cell I.ok.kind hk hc hcell fin) hd
  ·exact wpAny_Name (wpAny_loadName_free I.ok.kind hk hc hcell fin hcd) hd
theorem qdp {i j pos}:PE X (.Constant (.int i) j pos) (tC (.int i)):=λ_ _ _ H _ I h=>wpAny_Constant_int ⟨.int i,H,I.tok _,⟨_,rfl⟩,h⟩
theorem qsv {b j pos}:PE X (.Constant (.bool b) j pos) (tC (.bl b)):=λ_ _ _ H _ I h=>Constant_bool ⟨.bl b,H,I,rfl,h⟩
theorem qqn {x j pos}:PE X (.Constant (.str x) j pos) (tC (.str x)):=λ_ _ _ H _ I h=>Calls.Constant_str ⟨.str x,H,I.tok _,⟨_,rfl⟩,h⟩
def Gl (X:Cx) (x:Str):Prop:=X.env.kindOf x=some .globalImplicit
theorem qkK {E:Value->Shared->Prop} {pins:List (Addr×Obj)} {s:Shared} {σ:St} {H:Hp} {x:Str} {u:Value} {pos:Pos} {Q:Value->Shared->Prop} (I:Inv X pins σ H s) (hg:Gl X x) (hm:X.mg x=some u) (h:Q u s)
  (hd:(x==("__debug__" :Str))=false:=by decide):wpAny (model X.prog X.w) X.A (eval (.Name x pos) X.env) Q E s:=
 Calls.Name_function_global I.ok.kind hg (Calls.loadGlobal_global (by rw[I.ok.glob]; exact I.mod.glob.keeps I.bk) hm h) hd
theorem qd4 {E:Value->Shared->Prop} {pins:List (Addr×Obj)} {s:Shared} {σ:St} {H:Hp} {x:Str} {u:Value} {pos:Pos} {Q:Value->Shared->Prop} (I:Inv X pins σ H s) (hg:Gl X x) (hm:X.mg x=none) (hv:bootBuiltins x=some u) (h:Q u s)
  (hn:x≠ "__name__" :=by decide) (hd:(x==("__debug__" :Str))=false:=by decide):wpAny (model X.prog X.w) X.A (eval (.Name x pos) X.env) Q E s:=by
 obtain ⟨mb,h1,h2⟩:=I.mod.blt
 exact Calls.Name_function_global I.ok.kind hg (Calls.loadGlobal_builtin (by rw[I.ok.glob]; exact I.mod.glob.keeps I.bk) hm (by rw[I.ok.blt]; exact h1.keeps I.bk) ((h2 x hn).trans hv) h) hd
theorem qcy {x:Str} {v:V} {u:Value} {pos:Pos} (hg:Gl X x) (hm:X.mg x=some u) (r:RelV v u) (hd:(x==("__debug__" :Str))=false:=by decide):PE X (.Name x pos) (tC v):=
 λ_ _ _ H _ I h=>qkK I hg hm ⟨v,H,I,r,h⟩ hd
theorem qc4 {x:Str} {v:V} {u:Value} {pos:Pos} (hg:Gl X x) (hm:X.mg x=none) (hv:bootBuiltins x=some u) (r:RelV v u) (hn:x≠ "__name__" :=by decide) (hd:(x==("__debug__" :Str))=false:=by decide):PE X (.Name x pos) (tC v):=
 λ_ _ _ H _ I h=>qd4 I hg hm hv ⟨v,H,I,r,h⟩ hn hd
variable {a b:Expr} {ta tb:TE} {pos:Pos}
def PC (X:Cx) (op:CmpOp) (a b:Expr) (t:TE):Prop:=
 ∀(pins:List (Addr×Obj)) (s:Shared) (σ:St) (H:Hp) (Q:VK),Inv X pins σ H s->t σ H Q->
  wpAny (model X.prog X.w) X.A (eval a X.env) (λv s₁=>wpAny (model X.prog X.w) X.A (eval b X.env) (λu s₂=>wpAny (model X.prog X.w) X.A (compareOp op v u) (EP X pins σ Q) X.xe s₂) X.xe s₁) X.xe s
theorem qfJ (b:Expr) {op:CmpOp} (h:op≠.In) (h2:op≠.NotIn):behindInMarks op b=false:=by
 have e1:(op==CmpOp.In)=false:=by cases op<;>first | rfl | exact absurd rfl h
 have e2:(op==CmpOp.NotIn)=false:=by cases op<;>first | rfl | exact absurd rfl h2
 cases b<;>simp[behindInMarks,e1,e2]
def tB (t:TE):TT:=λσ H Q=>t σ H λx H1=> ∃c,x= .bl c/\Q c H1
theorem qqd {op:CmpOp} {t:TE} (h:PC X op a b t) (h1:behindInMarks op b=false:=by first | exact qfJ _ (by decide) (by decide) | rfl):PT X (.Compare a [op] [b] pos) (tB t):=by
 intro pins s σ H Q I hw
 refine wpAny_isTrue_Compare1 (thn (h pins s σ H _ I hw) λv s1 h1=>thn h1 λu s2 h2=>thn h2 λc s3 ⟨x,H1,I1,r1,q1⟩=> ?_) h1
 obtain ⟨d,rfl,q⟩:=q1
 cases r1
 exact wpAny_truthy_bool ⟨H1,I1,q⟩
theorem qqb {e:Expr} {t:TE} (h:PE X e t) (he: ∀whole,isTrue e X.env whole=(do let v <-whole; standAt e.pos; holding [v] (truthy v)):=by intro _; rfl):PT X e (tB t):=by
 intro pins s σ H Q I hw
 refine isTrue_plain (thn (h pins s σ H _ I hw) λv s1 ⟨x,H1,I1,r1,q1⟩=> ?_) (he _)
 obtain ⟨d,rfl,q⟩:=q1
 cases r1
 exact wpAny_truthy_bool ⟨H1,I1,q⟩
variable {tA tB':TT} {qc3:List Expr}
def que (t u:TT):TT:=λσ H Q=>t σ H λc H1=>if c=true then u σ H1 Q else Q false H1
def tOr (t u:TT):TT:=λσ H Q=>t σ H λc H1=>if c=true then Q true H1 else u σ H1 Q
def qt9 (t:TT):TT:=λσ H Q=>t σ H λc H1=>Q (!c) H1
theorem qon (ha:PT X a tA):PW X (.BoolOp .And [a] pos) tA:=by
 intro wh pins s σ H Q I h
 refine isTrue_and (thn (ha pins s σ H Q I h) λc s1 e=> ?_)
 cases c with
 | true=>exact isTrue_and_nil e
 | false=>exact e
theorem qp8 (ha:PT X a tA):PW X (.BoolOp .Or [a] pos) tA:=by
 intro wh pins s σ H Q I h
 refine isTrue_or (thn (ha pins s σ H Q I h) λc s1 e=> ?_)
 cases c with
 | false=>exact isTrue_or_nil e
 | true=>exact e
theorem qp9 (ha:PT X a tA) (hb:PW X (.BoolOp .And (b::qc3) pos) tB'):PW X (.BoolOp .And (a::b::qc3) pos) (que tA tB'):=by
 intro wh pins s σ H Q I h
 refine isTrue_and (thn (ha pins s σ H _ I h) λc s1 ⟨H1,I1,q1⟩=> ?_)
 cases c with
 | true=>exact hb wh pins s1 σ H1 Q I1 q1
 | false=>exact ⟨H1,I1,q1⟩
theorem qst (ha:PT X a tA) (hb:PW X (.BoolOp .Or (b::qc3) pos) tB'):PW X (.BoolOp .Or (a::b::qc3) pos) (tOr tA tB'):=by
 intro wh pins s σ H Q I h
 refine isTrue_or (thn (ha pins s σ H _ I h) λc s1 ⟨H1,I1,q1⟩=> ?_)
 cases c with
 | true=>exact ⟨H1,I1,q1⟩
 | false=>exact hb wh pins s1 σ H1 Q I1 q1
theorem qqc (ha:PT X a tA):PT X (.UnaryOp .Not a pos) (qt9 tA):=by
 intro pins s σ H Q I h
 exact isTrue_not (ha pins s σ H (λc H1=>Q (!c) H1) I h)
def qrG (ta tb:TE):TE:=λσ H Q=>ta σ H λx H1=> ∃c,x= .bl c/\if c=true then tb σ H1 Q else Q (.bl false) H1
def qrC (ta:TE):TE:=λσ H Q=>ta σ H λx H1=> ∃c,x= .bl c/\Q (.bl (!c)) H1
theorem qqo {op} {t:TE} (h:PE X a t):PE X (.BoolOp op [a] pos) t:=λpins s σ H Q I hw=>BoolOp_one (h pins s σ H Q I hw)
theorem qqq (ha:PE X a ta) (hb:PE X (.BoolOp .And (b::qc3) pos) tb):PE X (.BoolOp .And (a::b::qc3) pos) (qrG ta tb):=by
 intro pins s σ H Q I h
 refine BoolOp_and (thn (ha pins s σ H _ I h) λv s1 ⟨x,H1,I1,r1,q1⟩=> ?_)
 obtain ⟨c,rfl,q1⟩:=q1
 cases r1
 refine wpAny_truthy_bool ?_
 cases c with
 | true=>exact hb pins s1 σ H1 Q I1 q1
 | false=>exact ⟨.bl false,H1,I1,rfl,q1⟩
theorem qqp (ha:PE X a ta):PE X (.UnaryOp .Not a pos) (qrC ta):=by
 intro pins s σ H Q I h
 refine UnaryOp_ (thn (ha pins s σ H _ I h) λv s1 ⟨x,H1,I1,r1,q1⟩=> ?_)
 obtain ⟨c,rfl,q1⟩:=q1
 cases r1
 exact not_of (wpAny_truthy_bool ⟨.bl (!c),H1,I1,rfl,q1⟩)
def tIf (t:TT) (ta tb:TE):TE:=λσ H Q=>t σ H λc H1=>if c=true then ta σ H1 Q else tb σ H1 Q
theorem qmx {c:Expr} (hc:PT X c tA) (ha:PE X a ta) (hb:PE X b tb):PE X (.IfExp c a b pos) (tIf tA ta tb):=by
 intro pins s σ H Q I h
 refine wpAny_IfExp (thn (hc pins s σ H _ I h) λd s1 ⟨H1,I1,q1⟩=> ?_)
 cases d with
 | true=>exact ha pins s1 σ H1 Q I1 q1
 | false=>exact hb pins s1 σ H1 Q I1 q1
end
end L2
namespace L2
open PySem PySem.Spec PyProof.Rows
def SqL (K:PySem.W.Frag) (H:Hp) (a:Addr) (xs:List V):Prop:=
 Rd H a (.lst xs)\/
  ∃(o:Obj) (its:Array Value) (n:Nat),K.lookup a=some o/\o.cls= .type "list" /\o.dict=none/\o.data= .seq its n/\its.size<=sizeLine/\Vals xs its.toList
def SqT (K:PySem.W.Frag) (H:Hp) (a:Addr) (xs:List V):Prop:=
 Rd H a (.tup xs)\/
  ∃(o:Obj) (its:Array Value) (n:Nat),K.lookup a=some o/\o.cls= .type "tuple" /\o.data= .seq its n/\its.size<=sizeLine/\Vals xs its.toList
def qvl:Value->Option V
 | .none=>some .non
 | .bool b=>some (.bl b)
 | .int i _=>some (.int i)
 | .str x _=>some (.str x)
 | .bytes b _=>some (.byt b)
 | .float b _=>some (.flt b)
 | .ref a=>some (.ref a)
 | .type n=>some (.ty n)
 | _=>none
theorem RelV.abs {x:V} {u:Value} (r:RelV x u):qvl u=some x:=by
 cases x with
 | non=>cases r; rfl
 | bl _=>cases r; rfl
 | int _=>obtain ⟨t,rfl⟩:=r; rfl
 | str _=>obtain ⟨t,rfl⟩:=r; rfl
 | byt _=>obtain ⟨t,rfl⟩:=r; rfl
 | flt _=>obtain ⟨t,rfl⟩:=r; rfl
 | ref _=>cases r; rfl
 | ty _=>cases r; rfl
theorem RelV.inj {x y:V} {u:Value} (r:RelV x u) (q:RelV y u):x=y:=Option.some.inj (r.abs.symm.trans q.abs)
theorem Vals.inj: ∀{xs ys:List V} {us:List Value},Vals xs us->Vals ys us->xs=ys
 | _,_,_,.nil,.nil=>rfl
 | _,_,_,.cons r t,.cons r' t'=>by rw[r.inj r',Vals.inj t t']
section
variable {X:Cx} {pins:List (Addr×Obj)} {σ:St} {H:Hp} {s:Shared} {a:Addr} {xs ys:List V}
theorem SqL.of {K:PySem.W.Frag} (h:H a=some (.lst xs)):SqL K H a xs:=.inl (.inl h)
theorem SqT.of {K:PySem.W.Frag} (h:H a=some (.tup xs)):SqT K H a xs:=.inl (.inl h)
theorem Inv.list (I:Inv X pins σ H s) (h:SqL X.K H a xs): ∃its:List Value,Vals xs its/\PlainL s.heap a its.toArray/\xs.length<=sizeLine:=by
 rcases h with h | ⟨o,its,n,hk,hc,hd,hs,hz,r⟩
 ·obtain ⟨z,its,n,r,e⟩:=h.ok I.hok
  exact ⟨its,r,⟨_,n,e,rfl,rfl,rfl⟩,z⟩
 ·refine ⟨its.toList,r,⟨o,n,I.kIn a o hk,hc,hd,by simpa using hs⟩,?_⟩
  have e:=r.length
  simp only[Array.length_toList] at e
  omega
theorem Inv.tuple (I:Inv X pins σ H s) (h:SqT X.K H a xs): ∃its:List Value,Vals xs its/\IsTup s.heap a its.toArray/\xs.length<=sizeLine:=by
 rcases h with h | ⟨o,its,n,hk,hc,hs,hz,r⟩
 ·obtain ⟨z,its,r,p⟩:=h.ok I.hok
  exact ⟨its,r,p,z⟩
 ·refine ⟨its.toList,r,⟨o,I.kIn a o hk,hc,n,by simpa using hs⟩,?_⟩
  have e:=r.length
  simp only[Array.length_toList] at e
  omega
theorem Inv.list_inj (I:Inv X pins σ H s) (h:SqL X.K H a xs) (h':SqL X.K H a ys):xs=ys:=by
 obtain ⟨its,r,⟨o,n,e,_,_,d⟩,_⟩:=I.list h
 obtain ⟨its',r',⟨o',n',e',_,_,d'⟩,_⟩:=I.list h'
 rw[e] at e'; cases e'
 rw[d] at d'
 injection d' with d1 _
 have:its=its':=by simpa using congrArg Array.toList d1
 subst this
 exact r.inj r'
theorem Inv.tuple_inj (I:Inv X pins σ H s) (h:SqT X.K H a xs) (h':SqT X.K H a ys):xs=ys:=by
 obtain ⟨its,r,⟨o,e,_,n,d⟩,_⟩:=I.tuple h
 obtain ⟨its',r',⟨o',e',_,n',d'⟩,_⟩:=I.tuple h'
 rw[e] at e'; cases e'
 rw[d] at d'
 injection d' with d1 _
 have:its=its':=by simpa using congrArg Array.toList d1
 subst this
 exact r.inj r'
end
abbrev Cx.wish (X:Cx) (E:Value->Shared->Prop):Cx:={ X with xe:=E }
abbrev Cx.nox (X:Cx):Cx:=X.wish λ_ _=>False
theorem Cx.Ok.wish {X:Cx} (ok:X.Ok) (E:Value->Shared->Prop):(X.wish E).Ok:=
 ⟨ok.mod,ok.kind,ok.glob,ok.blt,ok.above,ok.inj,ok.has,ok.cab,ok.hd,ok.frames,ok.stk,ok.exf,ok.bs,ok.bsz,ok.noex,ok.exfs,ok.funs,ok.frf⟩
theorem Cx.Ok.unwish {X:Cx} {E:Value->Shared->Prop} (ok:(X.wish E).Ok):X.Ok:=
 ⟨ok.mod,ok.kind,ok.glob,ok.blt,ok.above,ok.inj,ok.has,ok.cab,ok.hd,ok.frames,ok.stk,ok.exf,ok.bs,ok.bsz,ok.noex,ok.exfs,ok.funs,ok.frf⟩
section
variable {X:Cx} {pins:List (Addr×Obj)} {σ:St} {H:Hp} {s:Shared} {E:Value->Shared->Prop}
theorem Inv.wish (I:Inv X pins σ H s) (E:Value->Shared->Prop):Inv (X.wish E) pins σ H s:=⟨I.ok.wish E,I.os,I.bare,I.base,I.loc,I.cell,I.free,I.freeC,I.pin,I.hok,I.len⟩
theorem Inv.unwish (I:Inv (X.wish E) pins σ H s):Inv X pins σ H s:=⟨I.ok.unwish,I.os,I.bare,I.base,I.loc,I.cell,I.free,I.freeC,I.pin,I.hok,I.len⟩
theorem SP.unwish {D:qn6} {f:Flow} {s':Shared} (h:SP (X.wish E) pins D f s'):SP X pins D f s':=by
 cases f with
 | next=>obtain ⟨σ',H',I,q⟩:=h; exact ⟨σ',H',I.unwish,q⟩
 | brk=>obtain ⟨σ',H',I,q⟩:=h; exact ⟨σ',H',I.unwish,q⟩
 | cont=>obtain ⟨σ',H',I,q⟩:=h; exact ⟨σ',H',I.unwish,q⟩
 | ret u=>obtain ⟨v,σ',H',I,r,q⟩:=h; exact ⟨v,σ',H',I.unwish,r,q⟩
theorem PSs.nox {st:List Stmt} {t:TS} (h:PSs X.nox st t):PSs X st t:=λpins s σ H D I hw=>
 wpAny_mono (h pins s σ H D (I.wish _) hw) (λ_ _ q=>q.unwish) λ_ _ z=>False.elim z
end
section
variable {X:Cx} {st:Stmt} {qc3:List Stmt} {t u:TS} {e:Expr} {te:TE} {pos:Pos}
def qrD:TS:=λD σ H=>D.nx σ H
def qt7 (t u:TS):TS:=λD σ H=>t { D with nx:=u D } σ H
theorem qha:PSs X [] qrD:=λ_ _ σ H _ I h=>wpAny_execs_nil ⟨σ,H,I,h⟩
theorem qef (h1:PS X st t) (h2:PSs X qc3 u):PSs X (st::qc3) (qt7 t u):=by
 intro pins s σ H D I h
 refine wpAny_execs_cons (thn (h1 pins s σ H { D with nx:=u D } I h) λf s1 q=> ?_)
 cases f with
 | next=>
  obtain ⟨σ',H',I',q⟩:=q
  exact h2 pins s1 σ' H' D I' q
 | ret v=>exact q
 | brk=>exact q
 | cont=>exact q
theorem qew (h1:PS X st t):PSs X [st] t:=by
 intro pins s σ H D I h
 refine wpAny_execs_cons (thn (h1 pins s σ H D I h) λf s1 q=> ?_)
 cases f with
 | next=>exact wpAny_execs_nil q
 | ret v=>exact q
 | brk=>exact q
 | cont=>exact q
theorem Inv.quiet {pins:List (Addr×Obj)} {σ:St} {H:Hp} {s:Shared} (I:Inv X pins σ H s):interactive X.env=false:=by simp[interactive,I.ok.kind]
def qrE (te:TE):TS:=λD σ H=>te σ H λ_ H1=>D.nx σ H1
theorem qhb (he:PE X e te) (hs:swapsWith e none pos.line X.env=pure false:=by rfl):PS X (.Expr e pos) (qrE te):=by
 intro pins s σ H D I h
 exact wpAny_Expr_any (thn (he pins s σ H _ I h) λv s1 ⟨x,H1,I1,r1,q1⟩=>⟨σ,H1,I1,q1⟩) I.quiet hs
def qt8 (te:TE):TS:=λD σ H=>te σ H D.rt
theorem qdm (he:PE X e te):PS X (.Return (some e) pos) (qt8 te):=by
 intro pins s σ H D I h
 exact wpAny_Return_some (thn (he pins s σ H _ I h) λv s1 ⟨x,H1,I1,r1,q1⟩=>⟨x,σ,H1,I1,r1,q1⟩)
def qub (c:TT) (t u:TS):TS:=λD σ H=>c σ H λb H1=>if b=true then t D σ H1 else u D σ H1
theorem qoq {c:Expr} {a b:List Stmt} {tc:TT} (hc:PT X c tc) (ha:PSs X a t) (hb:PSs X b u):PS X (.If c a b pos) (qub tc t u):=by
 intro pins s σ H D I h
 refine wpAny_If (thn (hc pins s σ H _ I h) λd s1 ⟨H1,I1,q1⟩=> ?_)
 cases d with
 | true=>exact ha pins s1 σ H1 D I1 q1
 | false=>exact hb pins s1 σ H1 D I1 q1
def qpL:TS:=λ_ _ _=>False
theorem qko {sts:List Stmt}:PSs X sts qpL:=λ_ _ _ _ _ _ h=>h.elim
end
abbrev TG:=V->St->Hp->(St->Hp->Prop)->Prop
abbrev TGs:=List V->St->Hp->(St->Hp->Prop)->Prop
def PG (X:Cx) (target:Expr) (t:TG):Prop:=
 ∀(pins:List (Addr×Obj)) (s:Shared) (σ:St) (H:Hp) (v:V) (u:Value) (Q:St->Hp->Prop),Inv X pins σ H s->RelV v u->t v σ H Q->
  wpAny (model X.prog X.w) X.A (assign target X.env u) (λ_ s'=> ∃σ' H',Inv X pins σ' H' s'/\Q σ' H') X.xe s
def PGs (X:Cx) (ts:List Expr) (t:TGs):Prop:=
 ∀(pins:List (Addr×Obj)) (s:Shared) (σ:St) (H:Hp) (vs:List V) (us:List Value) (Q:St->Hp->Prop),Inv X pins σ H s->Vals vs us->t vs σ H Q->
  wpAny (model X.prog X.w) X.A (assignInOrder ((assignEach ts X.env).map (·.2)) us) (λ_ s'=> ∃σ' H',Inv X pins σ' H' s'/\Q σ' H') X.xe s
abbrev qtw:=V->V->V->Hp->(Hp->Prop)->Prop
def qtW (X:Cx) (t:qtw):Prop:=
 ∀(pins:List (Addr×Obj)) (s:Shared) (σ:St) (H:Hp) (o i v:V) (ov iv u:Value) (Q:Hp->Prop),Inv X pins σ H s->RelV o ov->RelV i iv->RelV v u->t o i v H Q->
  wpAny (model X.prog X.w) X.A (setItem ov iv u) (λ_ s'=> ∃H',Inv X pins σ H' s'/\Q H') X.xe s
section
variable {X:Cx} {pos:Pos}
def qoV (i:Nat):TG:=λv σ H Q=>Q (σ.set i (some v)) H
theorem qaq {i:Nat} {x:Str} (hN:X.N.Nodup) (hi:X.N[i]? =some x) (hx:Loc X.env.scope x) (hf:X.fn x=true\/X.env.scope.names.lookup x=some .local:=by first | exact .inl rfl | exact .inr rfl | assumption):PG X (.Name x pos) (qoV i):=by
 intro pins s σ H v u Q I r h
 exact wpAny_assign_Name (qhR I hN hi hx r (λs' I'=>⟨_,H,I',h⟩) hf)
def qu0:TGs:=λvs σ H Q=>vs=[]/\Q σ H
def qtb (t:TG) (u:TGs):TGs:=λvs σ H Q=> ∃v r,vs=v::r/\t v σ H λσ' H'=>u r σ' H' Q
theorem qov:PGs X [] qu0:=by
 intro pins s σ H vs us Q I r h
 obtain ⟨e,h⟩:=h
 subst e
 cases r
 exact assignInOrder_nil ⟨σ,H,I,h⟩
theorem qmv {e:Expr} {es:List Expr} {t:TG} {u:TGs} (h1:PG X e t) (h2:PGs X es u)
  (hs:(assignEach (e::es) X.env).map (·.2)=assign e X.env::(assignEach es X.env).map (·.2):=by rfl):PGs X (e::es) (qtb t u):=by
 intro pins s σ H vs us Q I r h
 obtain ⟨v,vr,e1,h⟩:=h
 subst e1
 cases r with
 | cons r rr=>
  rw[hs]
  refine assignInOrder_cons (thn (h1 pins s σ H _ _ _ I r h) λ_ s1 ⟨σ1,H1,I1,q1⟩=> ?_)
  exact h2 pins s1 σ1 H1 _ _ Q I1 rr q1
def quZ (K:PySem.W.Frag) (n:Nat) (t:TGs):TG:=λv σ H Q=> ∃a xs,v= .ref a/\SqT K H a xs/\xs.length=n/\t xs σ H Q
theorem qqj {es:List Expr} {k:Nat} {t:TGs} {n:Nat} (hc:X.calm=true) (h:PGs X es t)
  (hn:(assignEach es X.env).length=n:=by rfl) (hst:(assignEach es X.env).findIdx? (·.1)=none:=by rfl):PG X (.Tuple es k pos) (quZ X.K n t):=by
 intro pins s σ H v u Q I r hw
 obtain ⟨a,xs,e1,hq,hl,hw⟩:=hw
 subst e1
 cases r
 obtain ⟨its,rv,ht,hz⟩:=I.tuple hq
 refine assign_Tuple_tuple (I.ok.hd hc) ht (by simp[hn,<-hl,rv.length]) hst λh' hx=> ?_
 have I1:Inv X pins σ H { s with heap:=h' }:=I.kept (t':=s.toks) λb o e=>hx b o (Nat.ne_of_lt (Heap.lt_size e)) e
 exact h pins _ σ H xs _ Q I1 (by simpa using rv) hw
def gSub (to ti:TE) (t:qtw):TG:=λv σ H Q=>to σ H λo H1=>ti σ H1 λi H2=>t o i v H2 λH3=>Q σ H3
theorem qqk {o i:Expr} {to ti:TE} {t:qtw} (ho:PE X o to) (hi:PE X i ti) (hs:qtW X t)
  (ha: ∀v,assign (.Subscript o i pos) X.env v=(do
   let ov <-holding [v] (eval o X.env)
   let iv <-holding [v,ov] (eval i X.env)
   standAt pos
   holding [v,ov,iv] (setItem ov iv v)
   release [v,ov,iv] []):=by intro _; rfl):PG X (.Subscript o i pos) (gSub to ti t):=by
 intro pins s σ H v u Q I r h
 rw[ha]
 refine wpAny_bind (wpAny_holding (thn (ho pins s σ H _ I h) λov s1 ⟨x,H1,I1,r1,q1⟩=> ?_))
 refine wpAny_bind (wpAny_holding (thn (hi pins s1 σ H1 _ I1 q1) λiv s2 ⟨y,H2,I2,r2,q2⟩=> ?_))
 refine wpAny_bind (wpAny_standAt (wpAny_bind (wpAny_holding (thn (hs pins s2 σ H2 x y v ov iv u _ I2 r1 r2 r q2) λ_ s3 ⟨H3,I3,q3⟩=> ?_))))
 exact wpAny_release ⟨σ,H3,I3,q3⟩
def qtB (te:TE) (g:TG):TS:=λD σ H=>te σ H λx H1=>g x σ H1 D.nx
theorem qnG {tg e:Expr} {te:TE} {g:TG} (he:PE X e te) (hg:PG X tg g) (hs:swapsWithSole [tg] e pos.line X.env=pure false:=by rfl) (hw:swappedStores [tg] e X.env=pure none:=by rfl)
  (h1:(assignEach [tg] X.env).map (·.2)=[assign tg X.env]:=by rfl):PS X (.Assign [tg] e pos) (qtB te g):=by
 intro pins s σ H D I h
 refine wpAny_Assign_stores (thn (he pins s σ H _ I h) λv s1 ⟨x,H1,I1,r1,q1⟩=> ?_) hs hw
 rw[h1]
 exact thn (hg pins s1 σ H1 x v _ I1 r1 q1) λ_ s2 q=>q
theorem qfi {i:Nat} {x:Str} {e:Expr} {te:TE} {pos':Pos} (hN:X.N.Nodup) (hi:X.N[i]? =some x) (hx:Loc X.env.scope x) (he:PE X e te) (hs:swapsWith e (some (.Name x pos')) pos.line X.env=pure false:=by rfl) (hf:X.fn x=true\/X.env.scope.names.lookup x=some .local:=by first | exact .inl rfl | exact .inr rfl | assumption):
  PS X (.Assign [.Name x pos'] e pos) (qtB te (qoV i)):=by
 intro pins s σ H D I h
 refine wpAny_Assign_Name (thn (he pins s σ H _ I h) λv s1 ⟨y,H1,I1,r1,q1⟩=> ?_) hs
 exact qhR I1 hN hi hx r1 (λs2 I2=>⟨_,H1,I2,q1⟩) hf
end
structure It where
 go:Nat->Hp->Prop
 yld:Nat->Hp->V->Hp->Prop
 stop:Nat->Hp->Prop
def qjF (X:Cx) (pins:List (Addr×Obj)) (H:Hp) (b:Addr):Prop:=
 H b=none/\b≠X.env.locals/\b∉X.fs/\(b∈X.ex\/X.s₀.heap.objs.size<=b)/\(∀x c,X.env.cells.lookup x=some c->c≠b)/\∀p∈X.pn++pins,p.1≠b
theorem Inv.fpOk {X:Cx} {pins:List (Addr×Obj)} {σ:St} {H H':Hp} {s:Shared} {b:Addr} (I:Inv X pins σ H s) (hb:s.heap.objs.size<=b) (hn:H' b=none):qjF X pins H' b:=by
 refine ⟨hn,Nat.ne_of_gt (Nat.lt_of_lt_of_le I.lt hb),I.nofs hb,.inr (Nat.le_trans I.sz hb),λx c e z=> ?_,λp hp z=> ?_⟩
 ·obtain ⟨v,q⟩:=I.cell x c e
  exact absurd (Nat.lt_of_lt_of_le q.lt (by rw[z]; exact hb)) (Nat.lt_irrefl _)
 ·exact absurd (Nat.lt_of_lt_of_le (Heap.lt_size (I.pin p hp).1) (by rw[z]; exact hb)) (Nat.lt_irrefl _)
structure qpC (P:Program) (w:World) (K:PySem.W.Frag) (tg:Expr) (J:It) (fp:List Addr) (it:Addr) (tn:Nat->Heap->Prop):Prop where
 mem:it∈fp
 obj: ∀i h,tn i h->∀b∈fp,∃o,h.get? b=some o/\∀v,o.data≠.cell v
 keep: ∀i h h',tn i h->(∀b∈fp,∀o,h.get? b=some o->h'.get? b=some o)->tn i h'
 item: ∀(X:Cx),X.prog=P->X.w=w->X.K=K->X.calm=true->∀(i:Nat) (pins:List (Addr×Obj)) (s:Shared) (σ:St) (H:Hp) (E:Value->Shared->Prop),Inv X pins σ H s->(∀b∈fp,qjF X pins H b)->tn i s.heap->J.go i H->
  wpAny (model P w) X.A (pyNext (.ref it)) (λr s1=> ∃u,r=some u/\
   wpAny (model P w) X.A (letOwnedTupleGo tg (.ref it) u) (λ_ s2=> ∃x H',Inv X pins σ H' s2/\RelV x u/\J.yld i H x H'/\tn (i+1) s2.heap/\∀b∈fp,H' b=none) E s1) E s
 done: ∀(X:Cx),X.prog=P->X.w=w->X.K=K->X.calm=true->∀(i:Nat) (pins:List (Addr×Obj)) (s:Shared) (σ:St) (H:Hp) (E:Value->Shared->Prop),Inv X pins σ H s->(∀b∈fp,qjF X pins H b)->tn i s.heap->J.stop i H->
  wpAny (model P w) X.A (pyNext (.ref it)) (λr s1=>r=none/\Inv X pins σ H s1) E s
 self: ∀(A:Around) (i:Nat) (s:Shared) (Q:Value->Shared->Prop) (E:Value->Shared->Prop),tn i s.heap->Q (.ref it) s->wpAny (model P w) A (pyIter (.ref it)) Q E s
abbrev TI:=St->Hp->(It->Hp->Prop)->Prop
def PIE (X:Cx) (pins:List (Addr×Obj)) (σ:St) (tg:Expr) (R:It->Hp->Prop) (itv:Value) (s2:Shared):Prop:=
 ∃(it:Addr) (fp:List Addr) (tn:Nat->Heap->Prop) (J:It) (H':Hp),itv= .ref it/\Inv X pins σ H' s2/\qpC X.prog X.w X.K tg J fp it tn/\tn 0 s2.heap/\(∀b∈fp,qjF X pins H' b)/\R J H'
def PI (X:Cx) (tg iter:Expr) (wi:TI):Prop:=
 ∀(pins:List (Addr×Obj)) (s:Shared) (σ:St) (H:Hp) (R:It->Hp->Prop),Inv X pins σ H s->wi σ H R->
  wpAny (model X.prog X.w) X.A (eval iter X.env) (λv s1=>wpAny (model X.prog X.w) X.A (pyIter v) (PIE X pins σ tg R) X.xe s1) X.xe s
theorem qm0 {M:Model} {A:Around} {E:Value->Shared->Prop} {s:Shared} {tg:Expr} {it:Addr} {u:Value} {o:Obj} {n:String} {vs:Array Value} {Q:Unit->Shared->Prop} (ho:s.heap.get? it=some o) (hc:o.cls= .type n) (hd:o.data= .fields vs)
  (hn:["enumerate", "zip", "dict_itemiterator", "dict_reverseitemiterator", "odict_iterator", "itertools.zip_longest", "itertools.pairwise"].contains n=false) (hQ:Q () s):wpAny M A (letOwnedTupleGo tg (.ref it) u) Q E s:=by
 unfold letOwnedTupleGo
 cases tg<;>first
  | exact wpAny_pure hQ
  | (cases u<;>first
    | exact wpAny_pure hQ
    | (refine wpAny_bind (wpAny_load ho ?_)
       rw[hc,hd]
       show wpAny M A (if (["enumerate", "zip", "dict_itemiterator", "dict_reverseitemiterator", "odict_iterator", "itertools.zip_longest", "itertools.pairwise"].contains n&&vs[0]? ==some (rawInt _))=true then _ else _) Q E s
       rw[if_neg (by intro h; rw[hn,Bool.false_and] at h; cases h)]
       exact wpAny_pure hQ))
def Itl (K:PySem.W.Frag) (a:Addr):It:=
 ⟨λi H=> ∃xs x,SqL K H a xs/\xs[i]? =some x,λi H x H'=>H'=H/\∀xs,SqL K H a xs->xs[i]? =some x,λi H=> ∃xs,SqL K H a xs/\xs.length<=i⟩
def Itt (K:PySem.W.Frag) (a:Addr):It:=
 ⟨λi H=> ∃xs x,SqT K H a xs/\xs[i]? =some x,λi H x H'=>H'=H/\∀xs,SqT K H a xs->xs[i]? =some x,λi H=> ∃xs,SqT K H a xs/\xs.length<=i⟩
def Itr (lo:Int) (n:Nat):It:=⟨λi _=>i<n,λi H x H'=>H'=H/\x= .int (lo+i),λi _=>n<=i⟩
theorem qjN {P:Program} {w:World} {K:PySem.W.Frag} {tg:Expr} (a it:Addr):qpC P w K tg (Itl K a) [it] it (λi h=>h.IsListIter it a i) where
 mem:=by simp
 obj:=λi h st b hb=>by
  have e:b=it:=by simpa using hb
  subst e
  obtain ⟨o,e,c,d⟩:=st
  exact ⟨o,e,λv z=>by rw[d] at z; cases z⟩
 keep:=λi h h' st k=>st.at λo e=>k it (by simp) o e
 item:=by
  intro X hP hw hK hc i pins s σ H E I hf st hg
  subst hP hw hK
  obtain ⟨xs,x,hq,hx⟩:=hg
  obtain ⟨its,rv,p,hz⟩:=I.list hq
  obtain ⟨u,hu,ru⟩:=rv.get hx
  obtain ⟨f0,f1,f2,f3,f4,f5⟩:=hf it (by simp)
  refine wpAny_pyNext_list_item st p.isList (x:=u) (by simpa using hu) λh' st' sb=> ?_
  have I1:Inv X pins σ H { s with heap:=h' }:=I.turned (t':=s.toks) (λb o hb e=>(sb.2 b hb).trans e) f0 f1 f3 f4 f5
  obtain ⟨o,e,c,d⟩:=id st'
  exact ⟨u,rfl,qm0 (s:={ s with heap:=h' }) e c d (by decide) ⟨x,H,I1,ru,⟨rfl,λys hy=>by rw[I.list_inj hy hq]; exact hx⟩,st',λb hb=>(hf b hb).1⟩⟩
 done:=by
  intro X hP hw hK hc i pins s σ H E I hf st hg
  subst hP hw hK
  obtain ⟨xs,hq,hx⟩:=hg
  obtain ⟨its,rv,p,hz⟩:=I.list hq
  obtain ⟨f0,f1,f2,f3,f4,f5⟩:=hf it (by simp)
  have hl:=rv.length
  exact wpAny_pyNext_list_end (I.ok.hd hc) st p.isList (by simp; omega) λh' eb=>⟨rfl,I.turned (t':=s.toks) (λb o hb e=>eb b o hb e) f0 f1 f3 f4 f5⟩
 self:=λ_ _ _ _ _ st h=>wpAny_pyIter_listiter st h
theorem qiS {P:Program} {w:World} {K:PySem.W.Frag} {tg:Expr} (a it:Addr):qpC P w K tg (Itt K a) [it] it (λi h=>h.IsTupleIter it a i) where
 mem:=by simp
 obj:=λi h st b hb=>by
  have e:b=it:=by simpa using hb
  subst e
  obtain ⟨o,e,c,d⟩:=st
  exact ⟨o,e,λv z=>by rw[d] at z; cases z⟩
 keep:=λi h h' st k=>st.at λo e=>k it (by simp) o e
 item:=by
  intro X hP hw hK hc i pins s σ H E I hf st hg
  subst hP hw hK
  obtain ⟨xs,x,hq,hx⟩:=hg
  obtain ⟨its,rv,p,hz⟩:=I.tuple hq
  obtain ⟨u,hu,ru⟩:=rv.get hx
  obtain ⟨f0,f1,f2,f3,f4,f5⟩:=hf it (by simp)
  refine wpAny_pyNext_tuple_item st (show s.heap.IsTuple a its.toArray from p) (x:=u) (by simpa using hu) λh' st' sb=> ?_
  have I1:Inv X pins σ H { s with heap:=h' }:=I.turned (t':=s.toks) (λb o hb e=>(sb.2 b hb).trans e) f0 f1 f3 f4 f5
  obtain ⟨o,e,c,d⟩:=id st'
  exact ⟨u,rfl,qm0 (s:={ s with heap:=h' }) e c d (by decide) ⟨x,H,I1,ru,⟨rfl,λys hy=>by rw[I.tuple_inj hy hq]; exact hx⟩,st',λb hb=>(hf b hb).1⟩⟩
 done:=by
  intro X hP hw hK hc i pins s σ H E I hf st hg
  subst hP hw hK
  obtain ⟨xs,hq,hx⟩:=hg
  obtain ⟨its,rv,p,hz⟩:=I.tuple hq
  obtain ⟨f0,f1,f2,f3,f4,f5⟩:=hf it (by simp)
  have hl:=rv.length
  exact wpAny_pyNext_tuple_end (I.ok.hd hc) st (show s.heap.IsTuple a its.toArray from p) (by simp; omega) λh' eb=>⟨rfl,I.turned (t':=s.toks) (λb o hb e=>eb b o hb e) f0 f1 f3 f4 f5⟩
 self:=λ_ _ _ _ _ st h=>wpAny_pyIter_tupleiter st h
theorem qiT {P:Program} {w:World} {K:PySem.W.Frag} {tg:Expr} (it:Addr) (lo:Int) (n:Nat):qpC P w K tg (Itr lo n) [it] it (λi h=>IsRangeIter h it (lo+(i:Nat)*1) ((n:Int) - (i:Nat)) 1) where
 mem:=by simp
 obj:=λi h st b hb=>by
  have e:b=it:=by simpa using hb
  subst e
  exact ⟨_,st,λv z=>by
   have z':Data.fields _=Data.cell v:=z
   cases z'⟩
 keep:=λi h h' st k=>k it (by simp) _ st
 item:=by
  intro X hP hw hK hc i pins s σ H E I hf st hg
  subst hP hw hK
  obtain ⟨f0,f1,f2,f3,f4,f5⟩:=hf it (by simp)
  have W:=Walks.range (prog:=X.prog) (w:=X.w) (I.ok.hd hc) it lo 1 n
  refine W.item i s _ _ hg st λv h' tk hv st' kk=> ?_
  obtain ⟨t,rfl⟩:=hv
  have I1:Inv X pins σ H { s with heap:=h',toks:=tk }:=I.turned (λb o hb e=>kk b o (by simpa using hb) e) f0 f1 f3 f4 f5
  refine ⟨_,rfl,qm0 (s:={ s with heap:=h',toks:=tk }) (n:= "range_iterator") st' rfl rfl (by decide) ⟨.int (lo+i),H,I1,⟨t,?_⟩,⟨rfl,rfl⟩,st',λb hb=>(hf b hb).1⟩⟩
  rw[Int.mul_one]
 done:=by
  intro X hP hw hK hc i pins s σ H E I hf st hg
  subst hP hw hK
  obtain ⟨f0,f1,f2,f3,f4,f5⟩:=hf it (by simp)
  exact wpAny_pyNext_range_end (I.ok.hd hc) st (by have:n<=i:=hg; omega) λh' eb=>⟨rfl,I.turned (t':=s.toks) (λb o hb e=>eb b o hb e) f0 f1 f3 f4 f5⟩
 self:=λ_ _ _ _ _ st h=>wpAny_pyIter_rangeiter st h
end L2
namespace L2
open PySem PySem.Spec PyProof.Rows
section
variable {X:Cx} {tg:Expr}
theorem qml {pins:List (Addr×Obj)} {σ:St} {H:Hp} {s:Shared} {R:It->Hp->Prop} {E:Value->Shared->Prop} {lo hi:Int} {t u v:Tok} {tk:Nat} (I:Inv X pins σ H s) (h1: -(2 ^ 62)<=lo) (h2:lo<2 ^ 62) (h3: -(2 ^ 62)<=hi) (h4:hi<2 ^ 62)
  (q:R (Itr lo (hi - lo).toNat) H):wpAny (model X.prog X.w) X.A (pyIter (.ref s.heap.objs.size)) (PIE X pins σ tg R) E { s with heap:=s.heap.push { cls:=.type "range",data:=.fields #[.int lo t,.int hi u,.int 1 v] },toks:=tk }:=by
 refine wpAny_pyIter_range (IsRange.new ..) (small_one h1 h2 h3 h4) ?_
 have I1:Inv X pins σ H { s with heap:=s.heap.push { cls:=.type "range",data:=.fields #[.int lo t,.int hi u,.int 1 v] },toks:=tk }:=I.kept λb o e=>Heap.get?_push_of_some _ e
 refine ⟨(s.heap.push { cls:=.type "range",data:=.fields #[.int lo t,.int hi u,.int 1 v] }).objs.size,[(s.heap.push { cls:=.type "range",data:=.fields #[.int lo t,.int hi u,.int 1 v] }).objs.size],_,_,H,rfl,
  I1.kept (t':=tk) λb o e=>Heap.get?_push_of_some _ e,qiT _ lo (hi - lo).toNat,?_,λb hb=> ?_,q⟩
 ·have e1:lo+((0:Nat):Int)*1=lo:=by simp
  have e2:(((hi - lo).toNat:Nat):Int) - ((0:Nat):Int)=Builtin.Range.rangeSize lo hi 1:=by rw[rangeSize_one]; split<;>omega
  show IsRangeIter _ _ (lo+((0:Nat):Int)*1) ((((hi - lo).toNat:Nat):Int) - ((0:Nat):Int)) 1
  rw[e1,e2]
  exact Heap.get?_push_size _ rfl
 ·have e:b=(s.heap.push { cls:=.type "range",data:=.fields #[.int lo t,.int hi u,.int 1 v] }).objs.size:=by simpa using hb
  subst e
  exact I1.fpOk (Nat.le_refl _) (I1.hok.fresh (Nat.le_refl _))
def qs8 (ta:TA):TI:=λσ H R=>ta σ H λvs H1=> ∃j:Int,vs=[.int j]/\ -(2 ^ 62)<=j/\j<2 ^ 62/\R (Itr 0 j.toNat) H1
theorem qkr {a:Expr} {ta:TA} {p pos:Pos} (hg:Gl X "range") (hm:X.mg "range" =none) (ha:PA X [a] ta) (hs:starEach [a] X.env=[(false,eval a X.env)]:=by rfl):PI X tg (.Call (.Name "range" p) [a] [] pos) (qs8 ta):=by
 intro pins s σ H R I h
 refine Call_ (qd4 I hg hm boot_range (PyProof.Rows.callWith_type1 (thn (ha pos pins s σ H _ I h) λus s1 ⟨vs,H1,I1,r1,q1⟩=> ?_) hs rfl))
 obtain ⟨j,e,q1,q2,q⟩:=q1
 subst e
 cases r1 with
 | cons r rr=>
  cases rr
  obtain ⟨t,rfl⟩:=r
  exact call_range_1 (qml I1 (by omega) (by omega) q1 q2 (by simpa using q))
def quc (wi:TI) (g:TG) (tb:TS):TS:=λD σ H=>wi σ H λJ H1=> ∃W:Nat->Nat->St->Hp->Prop,(∃m,W 0 m σ H1)/\∀i m σ H,W i m σ H->
 (J.stop i H/\D.nx σ H)\/(J.go i H/\∃N:St->Hp->Prop,(∀σ' H',N σ' H'->∃m',m'<m/\W (i+1) m' σ' H')/\∀x H',J.yld i H x H'->g x σ H' λσ2 H2=>tb { D with nx:=N,ct:=N,bk:=D.nx } σ2 H2)
def qgg (fp:List Addr) (h:Heap):List (Addr×Obj):=fp.filterMap λb=>(h.get? b).map λo=>(b,o)
theorem qcN {fp:List Addr} {h:Heap} {b:Addr} {o:Obj} (hb:b∈fp) (e:h.get? b=some o):(b,o)∈qgg fp h:=List.mem_filterMap.mpr ⟨b,hb,by rw[e]; rfl⟩
theorem qkA {fp:List Addr} {h:Heap} {p:Addr×Obj} (hp:p∈qgg fp h):p.1∈fp/\h.get? p.1=some p.2:=by
 obtain ⟨b,hb,e⟩:=List.mem_filterMap.mp hp
 cases q:h.get? b with
 | none=>rw[q] at e; cases e
 | some o=>
  rw[q] at e
  have e':(b,o)=p:=Option.some.inj e
  subst e'
  exact ⟨hb,q⟩
theorem Inv.pinned {pins:List (Addr×Obj)} {σ:St} {H:Hp} {s:Shared} {fp:List Addr} (I:Inv X pins σ H s) (hf: ∀b∈fp,qjF X pins H b) (ho: ∀b∈fp,∃o,s.heap.get? b=some o/\∀v,o.data≠.cell v):Inv X (pins++qgg fp s.heap) σ H s:=
 I.pins_of λp hp=>(List.mem_append.mp hp).elim (λz=>I.pin p (List.mem_append_right _ z)) λz=>by
  obtain ⟨hb,e⟩:=qkA z
  obtain ⟨f0,f1,f2,_⟩:=hf p.1 hb
  obtain ⟨o,e',d⟩:=ho p.1 hb
  rw[e] at e'; cases e'
  exact ⟨e,f0,f1,f2,d⟩
theorem Inv.unpinned {pins pl:List (Addr×Obj)} {σ:St} {H:Hp} {s:Shared} (I:Inv X (pins++pl) σ H s):Inv X pins σ H s:=I.pins_of λp hp=>I.pin p (List.mem_append_right _ (List.mem_append_left _ hp))
theorem qqe {iter:Expr} {body:List Stmt} {wi:TI} {g:TG} {tb:TS} {pos:Pos} (hp:PassesOwn (model X.prog X.w) X.A X.env X.xe) (hc:X.calm=true) (hi:PI X tg iter wi) (hg:PG X tg g) (hb:PSs X body tb)
  (hs: ∀x,foldedSetIterable iter X.env x=pure x:=by intro _; rfl):PS X (.For tg iter body [] pos) (quc wi g tb):=by
 intro pins s σ H D I h
 refine wpAny_For (thn (hi pins s σ H _ I h) λv s1 h1=>thn h1 λitv s2 h2=> ?_) hs
 obtain ⟨it,fp,tn,J,H2,e,I2,T,st2,f2,W,⟨m0,w0⟩,qjH⟩:=h2
 subst e
 have stat: ∀{H':Hp},(∀b∈fp,H' b=none)->∀b∈fp,qjF X pins H' b:=λhn b hb=>⟨hn b hb,(f2 b hb).2⟩
 refine codeAny_forLoop_any (λn s'=> ∃i σ' H',Inv X pins σ' H' s'/\tn i s'.heap/\(∀b∈fp,H' b=none)/\W i n σ' H') ?_ m0 ⟨0,σ,H2,I2,st2,λb hb=>(f2 b hb).1,w0⟩
 rintro n s3 ⟨i,σ3,H3,I3,st3,fr3,w3⟩
 rcases qjH i n σ3 H3 w3 with ⟨stop,qn⟩ | ⟨go,N,hN,step⟩
 ·refine wpAny_passesOwn hp (thn (T.done X rfl rfl rfl hc i pins s3 σ3 H3 X.xe I3 (stat fr3) st3 stop) λr s4 ⟨hr,I4⟩=> ?_)
  subst hr
  exact wpAny_execs_nil ⟨σ3,H3,I4,qn⟩
 ·refine wpAny_passesOwn hp (thn (T.item X rfl rfl rfl hc i pins s3 σ3 H3 X.xe I3 (stat fr3) st3 go) λr s4 ⟨u,hr,h4⟩=> ?_)
  subst hr
  refine wpAny_passesOwn hp (thn h4 λ_ s5 ⟨x,H5,I5,r5,y5,st5,fr5⟩=> ?_)
  have I5':=I5.pinned (stat fr5) (T.obj _ _ st5)
  refine wpAny_passesOwn hp (thn (hg _ s5 σ3 H5 x u _ I5' r5 (step x H5 y5)) λ_ s6 ⟨σ6,H6,I6,q6⟩=> ?_)
  refine wpAny_passesOwn hp (thn (hb _ s6 σ6 H6 _ I6 q6) λf s7 q7=> ?_)
  have again: ∀{σ7:St} {H7:Hp},Inv X (pins++qgg fp s5.heap) σ7 H7 s7->N σ7 H7->∃m,m<n/\∃i σ' H',Inv X pins σ' H' s7/\tn i s7.heap/\(∀b∈fp,H' b=none)/\W i m σ' H':=λ{σ7 H7} I7 n7=>by
   obtain ⟨m',hm,w7⟩:=hN σ7 H7 n7
   refine ⟨m',hm,i+1,σ7,H7,I7.unpinned,T.keep _ _ _ st5 λb hb o e=>(I7.pin (b,o) (List.mem_append_right _ (List.mem_append_right _ (qcN hb e)))).1,λb hb=> ?_,w7⟩
   obtain ⟨o,e,d⟩:=T.obj _ _ st5 b hb
   exact (I7.pin (b,o) (List.mem_append_right _ (List.mem_append_right _ (qcN hb e)))).2.1
  cases f with
  | next=>obtain ⟨σ7,H7,I7,n7⟩:=q7; exact again I7 n7
  | cont=>obtain ⟨σ7,H7,I7,n7⟩:=q7; exact again I7 n7
  | brk=>obtain ⟨σ7,H7,I7,q7⟩:=q7; exact ⟨σ7,H7,I7.unpinned,q7⟩
  | ret v=>obtain ⟨x7,σ7,H7,I7,r7,q7⟩:=q7; exact ⟨x7,σ7,H7,I7.unpinned,r7,q7⟩
end
end L2
namespace L2
open PySem PySem.Spec PyProof.Rows
abbrev R2:=V->V->Hp->VK->Prop
def OpR (X:Cx) (f:Value->Value->Sem Value) (r:R2):Prop:=
 ∀(pins:List (Addr×Obj)) (s:Shared) (σ:St) (H:Hp) (x y:V) (v u:Value) (Q:VK),Inv X pins σ H s->RelV x v->RelV y u->r x y H Q->
  wpAny (model X.prog X.w) X.A (f v u) (EP X pins σ Q) X.xe s
def UnR (X:Cx) (f:Value->Sem Value) (r:V->Hp->VK->Prop):Prop:=
 ∀(pins:List (Addr×Obj)) (s:Shared) (σ:St) (H:Hp) (x:V) (v:Value) (Q:VK),Inv X pins σ H s->RelV x v->r x H Q->
  wpAny (model X.prog X.w) X.A (f v) (EP X pins σ Q) X.xe s
def qdf (X:Cx) (f:Value) (r:List V->Hp->VK->Prop):Prop:=
 ∀(pins:List (Addr×Obj)) (s:Shared) (σ:St) (H:Hp) (xs:List V) (us:List Value) (Q:VK),Inv X pins σ H s->Vals xs us->r xs H Q->
  wpAny (model X.prog X.w) X.A (call f us) (EP X pins σ Q) X.xe s
def qvn (X:Cx) (r:V->Hp->(Bool->Hp->Prop)->Prop):Prop:=
 ∀(pins:List (Addr×Obj)) (s:Shared) (σ:St) (H:Hp) (x:V) (v:Value) (Q:Bool->Hp->Prop),Inv X pins σ H s->RelV x v->r x H Q->
  wpAny (model X.prog X.w) X.A (truthy v) (TP X pins σ Q) X.xe s
def tOp (r:R2) (ta tb:TE):TE:=λσ H Q=>ta σ H λx H1=>tb σ H1 λy H2=>r x y H2 Q
def tUn (r:V->Hp->VK->Prop) (ta:TE):TE:=λσ H Q=>ta σ H λx H1=>r x H1 Q
def rI (C:Int->Int->Prop) (g:Int->Int->V):R2:=λx y H Q=> ∃i j,x= .int i/\y= .int j/\C i j/\Q (g i j) H
def rI0 (g:Int->Int->V):R2:=λx y H Q=> ∃i j,x= .int i/\y= .int j/\Q (g i j) H
def rU (g:Int->V):V->Hp->VK->Prop:=λx H Q=> ∃i,x= .int i/\Q (g i) H
section
variable {X:Cx} {a b c:Expr} {ta tb tc:TE} {pos:Pos}
theorem qtr (ha:PE X a ta) (hb:PE X b tb) {pins:List (Addr×Obj)} {s:Shared} {σ:St} {H:Hp} {R:V->V->Hp->Prop} (I:Inv X pins σ H s)
  (h:ta σ H λx H1=>tb σ H1 λy H2=>R x y H2) {Q:Value->Shared->Prop} {f:Value->Value->Sem Value}
  (hf: ∀v u s2 x y H2,Inv X pins σ H2 s2->RelV x v->RelV y u->R x y H2->wpAny (model X.prog X.w) X.A (f v u) Q X.xe s2):
  wpAny (model X.prog X.w) X.A (eval a X.env) (λv s₁=>wpAny (model X.prog X.w) X.A (eval b X.env) (λu s₂=>wpAny (model X.prog X.w) X.A (f v u) Q X.xe s₂) X.xe s₁) X.xe s:=by
 refine thn (ha pins s σ H _ I h) λv s1 ⟨x,H1,I1,r1,q1⟩=> ?_
 refine thn (hb pins s1 σ H1 _ I1 q1) λu s2 ⟨y,H2,I2,r2,q2⟩=> ?_
 exact hf v u s2 x y H2 I2 r1 r2 q2
theorem qdo {op:Operator} {r:R2} (ho:OpR X (binaryOp op) r) (ha:PE X a ta) (hb:PE X b tb):PE X (.BinOp a op b pos) (tOp r ta tb):=by
 intro pins s σ H Q I h
 exact wpAny_BinOp (qtr ha hb I h λv u s2 x y H2 I2 rx ry q=>ho pins s2 σ H2 x y v u Q I2 rx ry q)
theorem qsu {op:UnaryOp} {r:V->Hp->VK->Prop} (ho:UnR X (unaryOp op) r) (ha:PE X a ta):PE X (.UnaryOp op a pos) (tUn r ta):=by
 intro pins s σ H Q I h
 exact UnaryOp_ (thn (ha pins s σ H _ I h) λv s1 ⟨x,H1,I1,r1,q1⟩=>ho pins s1 σ H1 x v Q I1 r1 q1)
theorem opI {f:Value->Value->Sem Value} {C:Int->Int->Prop} {g:Int->Int->Int}
  (rule: ∀(i j:Int) (t u:Tok) (s:Shared) (Q:Value->Shared->Prop) (E:Value->Shared->Prop),C i j->Q (.int (g i j) s.toks) { s with toks:=s.toks+1 }->wpAny (model X.prog X.w) X.A (f (.int i t) (.int j u)) Q E s):
  OpR X f (rI C λi j=>.int (g i j)):=by
 intro pins s σ H x y v u Q I rx ry h
 obtain ⟨i,j,rfl,rfl,hc,q⟩:=h
 obtain ⟨t,rfl⟩:=rx
 obtain ⟨t',rfl⟩:=ry
 exact rule i j t t' s _ _ hc ⟨.int (g i j),H,I.tok _,⟨_,rfl⟩,q⟩
theorem qtI {f:Value->Value->Sem Value} {g:Int->Int->Int}
  (rule: ∀(i j:Int) (t u:Tok) (s:Shared) (Q:Value->Shared->Prop) (E:Value->Shared->Prop),Q (.int (g i j) s.toks) { s with toks:=s.toks+1 }->wpAny (model X.prog X.w) X.A (f (.int i t) (.int j u)) Q E s):
  OpR X f (rI0 λi j=>.int (g i j)):=by
 intro pins s σ H x y v u Q I rx ry h
 obtain ⟨i,j,rfl,rfl,q⟩:=h
 obtain ⟨t,rfl⟩:=rx
 obtain ⟨t',rfl⟩:=ry
 exact rule i j t t' s _ _ ⟨.int (g i j),H,I.tok _,⟨_,rfl⟩,q⟩
theorem qsA {f:Value->Value->Sem Value} {g:Int->Int->Bool}
  (rule: ∀(i j:Int) (t u:Tok) (s:Shared) (Q:Value->Shared->Prop) (E:Value->Shared->Prop),Q (.bool (g i j)) s->wpAny (model X.prog X.w) X.A (f (.int i t) (.int j u)) Q E s):
  OpR X f (rI0 λi j=>.bl (g i j)):=by
 intro pins s σ H x y v u Q I rx ry h
 obtain ⟨i,j,rfl,rfl,q⟩:=h
 obtain ⟨t,rfl⟩:=rx
 obtain ⟨t',rfl⟩:=ry
 exact rule i j t t' s _ _ ⟨.bl (g i j),H,I,rfl,q⟩
def qt3 (i j:Int):Prop:=0<j/\j<1073741824
def qrv (i j:Int):Prop:=(-(2 ^ 64)<i/\i<2 ^ 64)\/(-(2 ^ 64)<j/\j<2 ^ 64)
theorem qrv.ok {i j:Int} (h:qrv i j):IntMulOk i j:=by
 rcases h with ⟨h1,h2⟩ | ⟨h1,h2⟩
 ·exact .of_left (intBits_le_64 h1 h2)
 ·exact .of_right (intBits_le_64 h1 h2)
theorem qgl:OpR X (binaryOp .Add) (rI0 λi j=>.int (i+j)):=qtI λ_ _ _ _ _ _ _ q=>add_int q
theorem qgj:OpR X (binaryOp .Sub) (rI0 λi j=>.int (i - j)):=qtI λ_ _ _ _ _ _ _ q=>sub_int q
theorem qd3:OpR X (binaryOp .Mult) (rI qrv λi j=>.int (i*j)):=opI λ_ _ _ _ _ _ _ hc q=>mul_int q hc.ok
theorem qkx:OpR X (binaryOp .FloorDiv) (rI qt3 λi j=>.int (i / j)):=opI λi j _ _ _ _ _ hc q=>by
 have h1:(0:Int)<j:=hc.1
 have h2:j<1073741824:=hc.2
 exact floordiv_int (by omega) (by rw[Int.fdiv_eq_ediv_of_nonneg i (by omega)]; exact q) (.inl (PyProof.noPylong_small (by omega)))
theorem qgk:OpR X (binaryOp .Mod) (rI (λ_ j=>0<j) λi j=>.int (i % j)):=opI λi j _ _ _ _ _ hc q=>by
 have h1:(0:Int)<j:=hc
 exact mod_int' (by omega) (by rw[Int.fmod_eq_emod_of_nonneg i (by omega)]; exact q)
theorem unI {f:Value->Sem Value} {g:Int->Int}
  (rule: ∀(i:Int) (t:Tok) (s:Shared) (Q:Value->Shared->Prop) (E:Value->Shared->Prop),Q (.int (g i) s.toks) { s with toks:=s.toks+1 }->wpAny (model X.prog X.w) X.A (f (.int i t)) Q E s):
  UnR X f (rU λi=>.int (g i)):=by
 intro pins s σ H x v Q I rx h
 obtain ⟨i,rfl,q⟩:=h
 obtain ⟨t,rfl⟩:=rx
 exact rule i t s _ _ ⟨.int (g i),H,I.tok _,⟨_,rfl⟩,q⟩
theorem qpD:UnR X (unaryOp .USub) (rU λi=>.int (-i)):=unI λ_ _ _ _ _ q=>neg_int q
end
section
variable {X:Cx} {a b c:Expr} {ta tb tc:TE} {pos:Pos}
theorem qsy:OpR X (compareOp .Lt) (rI0 λi j=>.bl (decide (i<j))):=qsA λ_ _ _ _ _ _ _ q=>lt_int q
theorem qsz:OpR X (compareOp .LtE) (rI0 λi j=>.bl (decide (i<=j))):=qsA λ_ _ _ _ _ _ _ q=>le_int q
theorem qmH:OpR X (compareOp .Gt) (rI0 λi j=>.bl (decide (j<i))):=qsA λ_ _ _ _ _ _ _ q=>gt_int q
theorem OpR.or {f:Value->Value->Sem Value} {r r':R2} (h:OpR X f r) (h':OpR X f r'):OpR X f (λx y H Q=>r x y H Q\/r' x y H Q):=by
 intro pins s σ H x y v u Q I rx ry q
 rcases q with q | q
 ·exact h pins s σ H x y v u Q I rx ry q
 ·exact h' pins s σ H x y v u Q I rx ry q
theorem qnL (b:Expr) {op:CmpOp} (h:op≠.In:=by decide) (h2:op≠.NotIn:=by decide):behindInMarks op b=false:=by
 have e1:(op==CmpOp.In)=false:=by cases op<;>first | rfl | exact absurd rfl h
 have e2:(op==CmpOp.NotIn)=false:=by cases op<;>first | rfl | exact absurd rfl h2
 cases b<;>simp[behindInMarks,e1,e2]
theorem qoy {op:CmpOp} {r:R2} (ho:OpR X (compareOp op) r) (ha:PE X a ta) (hb:PE X b tb) (hm:behindInMarks op b=false):PE X (.Compare a [op] [b] pos) (tOp r ta tb):=by
 intro pins s σ H Q I h
 exact wpAny_Compare1 (qtr ha hb I h λv u s2 x y H2 I2 rx ry q=>ho pins s2 σ H2 x y v u Q I2 rx ry q) hm
def qpK (t:TE):TT:=λσ H Q=>t σ H λx H'=> ∃k,x= .bl k/\Q k H'
theorem qev {op:CmpOp} {r:R2} (ho:OpR X (compareOp op) r) (ha:PE X a ta) (hb:PE X b tb) (hm:behindInMarks op b=false):PT X (.Compare a [op] [b] pos) (qpK (tOp r ta tb)):=by
 intro pins s σ H Q I h
 refine wpAny_isTrue_Compare1 (thn (ha pins s σ H _ I h) λv s1 ⟨x,H1,I1,r1,q1⟩=>thn (hb pins s1 σ H1 _ I1 q1) λu s2 ⟨y,H2,I2,r2,q2⟩=>
  thn (ho pins s2 σ H2 x y v u _ I2 r1 r2 q2) λc s3 ⟨z,H3,I3,r3,k,e,q3⟩=> ?_) hm
 subst e
 cases r3
 exact wpAny_truthy_bool ⟨H3,I3,q3⟩
def qjQ (r r':R2) (ta tb tc:TE):TE:=λσ H Q=>ta σ H λx H1=>tb σ H1 λy H2=>r x y H2 λz H3=> ∃k,z= .bl k/\
 (if k=true then tc σ H3 λw' H4=>r' y w' H4 Q else Q (.bl false) H3)
theorem qmz {op op':CmpOp} {r r':R2} (ho:OpR X (compareOp op) r) (ho':OpR X (compareOp op') r') (ha:PE X a ta) (hb:PE X b tb) (hc:PE X c tc)
  (hm:lastMarks [op,op'] [b,c]=false:=by with_unfolding_all rfl):PE X (.Compare a [op,op'] [b,c] pos) (qjQ r r' ta tb tc):=by
 intro pins s σ H Q I h
 refine Compare_chain (thn (ha pins s σ H _ I h) λv s1 ⟨x,H1,I1,r1,q1⟩=>chain_link (thn (hb pins s1 σ H1 _ I1 q1) λu s2 ⟨y,H2,I2,r2,q2⟩=>
  thn (ho pins s2 σ H2 x y v u _ I2 r1 r2 q2) λd s3 ⟨z,H3,I3,r3,k,e,q3⟩=> ?_)) hm
 subst e
 cases r3
 refine wpAny_truthy_bool ?_
 cases k with
 | false=>exact ite_ff ⟨.bl false,H3,I3,rfl,q3⟩
 | true=>exact ite_tt (chain_last (thn (hc pins s3 σ H3 _ I3 q3) λw' s4 ⟨z',H4,I4,r4,q4⟩=>ho' pins s4 σ H4 y z' u w' Q I4 r2 r4 q4))
theorem qmo {op op':CmpOp} {r r':R2} (ho:OpR X (compareOp op) r) (ho':OpR X (compareOp op') r') (ha:PE X a ta) (hb:PE X b tb) (hc:PE X c tc)
  (hm:lastMarks [op,op'] [b,c]=false:=by with_unfolding_all rfl):PT X (.Compare a [op,op'] [b,c] pos) (qpK (qjQ r r' ta tb tc)):=by
 intro pins s σ H Q I h
 refine isTrue_chain (thn (ha pins s σ H _ I h) λv s1 ⟨x,H1,I1,r1,q1⟩=>test_link (thn (hb pins s1 σ H1 _ I1 q1) λu s2 ⟨y,H2,I2,r2,q2⟩=>
  thn (ho pins s2 σ H2 x y v u _ I2 r1 r2 q2) λd s3 ⟨z,H3,I3,r3,k,e,q3⟩=> ?_)) hm
 subst e
 cases r3
 refine wpAny_truthy_bool ?_
 cases k with
 | false=>
  obtain ⟨k',e',q'⟩:=q3
  cases e'
  exact ite_ff ⟨H3,I3,q'⟩
 | true=>
  refine ite_tt (test_last (thn (hc pins s3 σ H3 _ I3 q3) λw' s4 ⟨z',H4,I4,r4,q4⟩=>thn (ho' pins s4 σ H4 y z' u w' _ I4 r2 r4 q4) λd' s5 ⟨z2,H5,I5,r5,k2,e2,q5⟩=> ?_))
  subst e2
  cases r5
  exact wpAny_truthy_bool ⟨H5,I5,q5⟩
def qvm (K:PySem.W.Frag) (x:V) (H:Hp) (k:Bool):Prop:=
 match x with
 | .non=>k=false
 | .bl b=>k=b
 | .int i=>k=(i != 0)
 | .str y=>y.length<=sizeLine/\k=((y.length:Int) != 0)
 | .byt y=>y.size<=sizeLine/\k=((y.size:Int) != 0)
 | .ref p=>(∃xs,SqL K H p xs/\k= !xs.isEmpty)\/(∃xs,SqT K H p xs/\k= !xs.isEmpty)\/∃kvs,H p=some (.dK kvs)/\k= !kvs.isEmpty
 | _=>False
theorem qji {κ:Type} {kvs:List (κ×V)} {vs:List (κ×Value)} (r:KV kvs vs):(!vs.isEmpty)= !kvs.isEmpty:=by
 cases r<;>rfl
theorem qfn {xs:List V} {its:List Value} (r:Vals xs its):(!its.toArray.isEmpty)= !xs.isEmpty:=by
 cases r<;>simp
theorem qdv:(sizeLine:Nat)<2 ^ 63:=by rw[sizeLine_eq]; decide
theorem qtz:qvn X (λx H Q=> ∃k,qvm X.K x H k/\Q k H):=by
 intro pins s σ H x v Q I rx h
 obtain ⟨k,e,q⟩:=h
 have hl:=qdv
 have hs:sizeLine=16777216:=sizeLine_eq
 cases x with
 | non=>
  cases rx
  have e':k=false:=e
  subst e'
  exact truthy_none ⟨H,I,q⟩
 | bl b=>
  cases rx
  have e':k=b:=e
  subst e'
  exact wpAny_truthy_bool ⟨H,I,q⟩
 | int i=>
  obtain ⟨t,rfl⟩:=rx
  have e':k=(i != 0):=e
  subst e'
  exact PySem.P.truthy_int ⟨H,I,q⟩
 | str y=>
  obtain ⟨t,rfl⟩:=rx
  obtain ⟨hy,e'⟩:y.length<=sizeLine/\k=((y.length:Int) != 0):=e
  subst e'
  exact PySem.P.truthy_str (by omega) ⟨H,I.tok _,q⟩
 | byt y=>
  obtain ⟨t,rfl⟩:=rx
  obtain ⟨hy,e'⟩:y.size<=sizeLine/\k=((y.size:Int) != 0):=e
  subst e'
  exact PySem.W.truthy_bytes (by omega) ⟨H,I.tok _,q⟩
 | ref p=>
  cases rx
  have e':(∃xs,SqL X.K H p xs/\k= !xs.isEmpty)\/(∃xs,SqT X.K H p xs/\k= !xs.isEmpty)\/∃kvs,H p=some (.dK kvs)/\k= !kvs.isEmpty:=e
  rcases e' with ⟨xs,hx,e'⟩ | ⟨xs,hx,e'⟩ | ⟨kvs,hx,e'⟩
  ·subst e'
   obtain ⟨its,r,pl,hz⟩:=I.list hx
   have hlen:=r.length
   exact wpAny_truthy_list pl.isList (by simp only[List.size_toArray]; omega) ⟨H,I.tok _,by rw[qfn r]; exact q⟩
  ·subst e'
   obtain ⟨its,r,pl,hz⟩:=I.tuple hx
   have hlen:=r.length
   exact truthy_tuple pl (by simp only[List.size_toArray]; omega) ⟨H,I.tok _,by rw[qfn r]; exact q⟩
  ·subst e'
   obtain ⟨hz,hS,vs,r,m⟩:kvs.length<=sizeLine/\(p==sysModules)=false/\∃vs,KV kvs vs/\s.heap.DictOf (qbg X.prog X.w) p vs:=I.hok p _ hx
   have hlen:kvs.length=vs.length:=Paired.length r
   exact wpAny_truthy_dict hS m (by omega) ⟨H,I.tok _,by rw[qji r]; exact q⟩
 | _=>exact (show False from e).elim
theorem qi7:OpR X (binaryOp .Add) (λx y H Q=> ∃i j,x= .str i/\y= .str j/\i.length+j.length<=sizeLine/\Q (.str (i++j)) H):=by
 intro pins s σ H x y v u Q I rx ry h
 obtain ⟨i,j,rfl,rfl,hz,q⟩:=h
 obtain ⟨t,rfl⟩:=rx
 obtain ⟨t',rfl⟩:=ry
 exact add_str (λt' tk=>⟨.str (i++j),H,I.tok _,⟨_,rfl⟩,q⟩) hz
theorem qeW {x:V} {us:List Value} (r:Vals [x] us): ∃u,us=[u]/\RelV x u:=by
 cases r with
 | cons r1 r2=>cases r2; exact ⟨_,rfl,r1⟩
theorem ql2 {x y:V} {us:List Value} (r:Vals [x,y] us): ∃u w',us=[u,w']/\RelV x u/\RelV y w':=by
 cases r with
 | cons r1 r2=>
  cases r2 with
  | cons r3 r4=>cases r4; exact ⟨_,_,rfl,r1,r3⟩
theorem qlJ (hc:X.calm=true):qdf X (.builtin "max") (λxs H Q=> ∃i j,xs=[.int i,.int j]/\Q (.int (if j>i then j else i)) H):=by
 intro pins s σ H xs us Q I r h
 obtain ⟨i,j,rfl,q⟩:=h
 obtain ⟨u,w',rfl,⟨t,rfl⟩,⟨t',rfl⟩⟩:=ql2 r
 refine max_two_ints (I.ok.hd hc) λh' tk k=>⟨_,H,I.kept k,?_,q⟩
 by_cases hj:j>i
 ·rw[if_pos hj,if_pos hj]; exact ⟨_,rfl⟩
 ·rw[if_neg hj,if_neg hj]; exact ⟨_,rfl⟩
theorem qgM (hc:X.calm=true):qdf X (.builtin "min") (λxs H Q=> ∃i j,xs=[.int i,.int j]/\Q (.int (if j<i then j else i)) H):=by
 intro pins s σ H xs us Q I r h
 obtain ⟨i,j,rfl,q⟩:=h
 obtain ⟨u,w',rfl,⟨t,rfl⟩,⟨t',rfl⟩⟩:=ql2 r
 refine min_two_ints (I.ok.hd hc) λh' tk k=>⟨_,H,I.kept k,?_,q⟩
 by_cases hj:j<i
 ·rw[if_pos hj,if_pos hj]; exact ⟨_,rfl⟩
 ·rw[if_neg hj,if_neg hj]; exact ⟨_,rfl⟩
def qvp (K:PySem.W.Frag) (x:V) (H:Hp) (n:Nat):Prop:=
 match x with
 | .str y=>y.length<=sizeLine/\n=y.length
 | .byt y=>y.size<=sizeLine/\n=y.size
 | .ref p=>(∃xs,SqL K H p xs/\n=xs.length)\/∃xs,SqT K H p xs/\n=xs.length
 | _=>False
theorem qiL:qdf X (.builtin "len") (λxs H Q=> ∃x n,xs=[x]/\qvp X.K x H n/\Q (.int n) H):=by
 intro pins s σ H xs us Q I r h
 obtain ⟨x,n,rfl,e,q⟩:=h
 obtain ⟨u,rfl,rx⟩:=qeW r
 have hl:=qdv
 have hs:sizeLine=16777216:=sizeLine_eq
 cases x with
 | str y=>
  obtain ⟨t,rfl⟩:=rx
  obtain ⟨hy,e'⟩:y.length<=sizeLine/\n=y.length:=e
  subst e'
  exact len_str (by omega) ⟨.int _,H,I.tok _,⟨_,rfl⟩,q⟩
 | byt y=>
  obtain ⟨t,rfl⟩:=rx
  obtain ⟨hy,e'⟩:y.size<=sizeLine/\n=y.size:=e
  subst e'
  exact PySem.W.len_bytes (by omega) ⟨.int _,H,I.tok _,⟨_,rfl⟩,q⟩
 | ref p=>
  cases rx
  have e':(∃xs,SqL X.K H p xs/\n=xs.length)\/∃xs,SqT X.K H p xs/\n=xs.length:=e
  rcases e' with ⟨xs,hx,e'⟩ | ⟨xs,hx,e'⟩
  ·subst e'
   obtain ⟨its,r',pl,hz⟩:=I.list hx
   have hlen:=r'.length
   exact Calls.call_len_list pl.isList (by simp only[List.size_toArray]; omega) ⟨.int xs.length,H,I.tok _,⟨_,by simp only[List.size_toArray]; rw[hlen]⟩,q⟩
  ·subst e'
   obtain ⟨its,r',pl,hz⟩:=I.tuple hx
   have hlen:=r'.length
   exact len_tuple pl (by simp only[List.size_toArray]; omega) ⟨.int xs.length,H,I.tok _,⟨_,by simp only[List.size_toArray]; rw[hlen]⟩,q⟩
 | _=>exact (show False from e).elim
end
end L2
namespace L2
open PySem PySem.Spec PyProof.Rows
structure qtx (h:Heap) (x dx C:Addr) (mA:Str->Option Value):Prop where
 obj:h.get? x=some (PySem.W.instObj C dx)
 ns:h.Ns1 dx mA
 ne:dx≠x
theorem qkH {h:Heap} {dx:Addr} {mA:Str->Option Value} (n:h.Ns1 dx mA): ∃od,h.get? dx=some od/\∀name,PySem.W.lookIn name od=some (mA name):=by
 obtain ⟨o,es,ep,ho,hd,hk,_,hm⟩:=n
 refine ⟨o,ho,λname=> ?_⟩
 have e:=hm name
 unfold nsFind findBy at e
 rw[<-Array.find?_toList] at e
 unfold PySem.W.lookIn
 rw[hd]
 dsimp only
 split
 ·rename_i y q
  rw[q] at e
  exact congrArg some e
 ·rename_i q
  rw[q] at e
  have a:es.toList.any (·.refKey)=false:=by
   rw[List.any_eq_false]
   intro y hy
   obtain ⟨z,t,hkey⟩:=hk y (Array.mem_toList_iff.mp hy)
   simp[DictEntry.refKey,hkey]
  have a': ¬es.toList.any (·.refKey)=true:=by rw[a]; exact Bool.false_ne_true
  rw[if_neg a']
  exact congrArg some e
theorem qtx.look {h:Heap} {x dx C:Addr} {mA:Str->Option Value} (I:qtx h x dx C mA): ∃od,PySem.W.InstAt h x (PySem.W.instObj C dx) C (some od)/\∀name,PySem.W.lookIn name od=some (mA name):=
 let ⟨od,ho,hl⟩:=qkH I.ns
 ⟨od,⟨I.obj,rfl,rfl,ho⟩,hl⟩
theorem qjD.some_of {v:V} {o:Option Value} (r:qjD (some v) o): ∃u,o=some u/\RelV v u:=by
 cases o with
 | none=>exact (show False from r).elim
 | some u=>exact ⟨u,rfl,r⟩
section
variable {P:Program} {w:World} {H H':Hp} {h h':Heap} {a C dx:Addr} {fs fs':List (Str×V)}
theorem qoR (hok:HOk P w H h) (e:H a=some (.ins C dx fs)): ∃mA,qtx h a dx C mA/\(∀f,qjD (fs.lookup f) (mA f))/\PySem.Within mA (fs.map (·.1))/\fs.length<=1000/\H dx=some (.own a):=by
 obtain ⟨d,z,ne,ob,mA,n,r,q⟩:=(show qbe P w H h a (.ins C dx fs) from hok a _ e)
 exact ⟨mA,⟨ob,n,ne⟩,r,q,z,d⟩
end
structure Cls (K:PySem.W.Frag) (C:Addr):Prop where
 pg:PySem.W.plainGet K C Str.empty=true
 hd:PySem.W.hasDictIn K C=true
 po:PySem.W.plainOver K C=true
 sa:PySem.W.findIn K (.ref C) "__setattr__" =some (some (.builtin "object.__setattr__"))
theorem Cls.get {K:PySem.W.Frag} {C:Addr} (c:Cls K C) (f:Str):PySem.W.plainGet K C f=true:=c.pg
structure Con (K:PySem.W.Frag) (C:Addr) (f:Str) (v:V) (u:Value):Prop where
 at_:PySem.W.findIn K (.ref C) f=some (some u)
 rel:RelV v u
 get:PySem.W.specialIn K u "__get__" =some none
 cp:PySem.W.copiedNames.contains f=false
structure qvs (K:PySem.W.Frag) (C:Addr) (m:Str) (f:Addr):Prop where
 at_:PySem.W.findIn K (.ref C) m=some (some (.ref f))
 fn:PySem.W.isFn K (.ref f)=true
 kp:PySem.W.keepIn K (.ref f)=true
section
variable {X:Cx} {pins:List (Addr×Obj)} {σ:St} {H:Hp} {s:Shared} {A:Around} {E:Value->Shared->Prop} {Q:Value->Shared->Prop} {c:Value} {b:Bool}
inductive qjB (K:PySem.W.Frag) (H:Hp):V->Value->Prop where
 | non:qjB K H .non (.type "NoneType")
 | bl (x:Bool):qjB K H (.bl x) (.type "bool")
 | int (i:Int):qjB K H (.int i) (.type "int")
 | str (x:Str):qjB K H (.str x) (.type "str")
 | flt (x:UInt64):qjB K H (.flt x) (.type "float")
 | lst {a:Addr} {xs:List V} (e:H a=some (.lst xs)):qjB K H (.ref a) (.type "list")
 | frz {a:Addr} {o:Obj} {xs:List V} (e:H a=some (.frz o (.lst xs))):qjB K H (.ref a) (.type "list")
 | tup {a:Addr} {xs:List V} (e:H a=some (.tup xs)):qjB K H (.ref a) (.type "tuple")
 | dK {a:Addr} {kvs:List (Key×V)} (e:H a=some (.dK kvs)):qjB K H (.ref a) (.type "dict")
 | dT {a:Addr} {kvs:List (List Key×V)} (e:H a=some (.dT kvs)):qjB K H (.ref a) (.type "dict")
 | ins {a C dx:Addr} {fs:List (Str×V)} (e:H a=some (.ins C dx fs)) (cl:Cls K C) (ha:PySem.W.findIn K (.ref C) "__class__" =some (some (.builtin "object.__class__")))
   (hn:PySem.W.specialIn K (.builtin "object.__class__") "__get__" =some (some (.builtin "getset_descriptor.__get__"))) (htk:PySem.W.takesIn K (.builtin "object.__class__")=some true)
   (hm:PySem.W.mroIn K C (.type "object")=some true):qjB K H (.ref a) (.ref C)
theorem qkY {x:V} {u t:Value} (I:Inv X pins σ H s) (rx:RelV x u) (ty:qjB X.K H x t) (e:PySem.W.kitOne X.K t c=some b) (h: ∀tk,Q (.bool b) { s with toks:=tk }):
  wpAny (model X.prog X.w) A (call (.builtin "isinstance") [u,c]) Q E s:=by
 cases ty with
 | non=>cases (show u=Value.none from rx); exact PySem.W.kia_one PySem.W.kitx_none I.kIn True.intro e (λz=>nomatch z) h
 | bl y=>cases (show u=Value.bool y from rx); exact PySem.W.kia_one PySem.W.kitx_bool I.kIn True.intro e (λz=>nomatch z) h
 | int i=>obtain ⟨t,q⟩:=(show ∃t,u=Value.int i t from rx); cases q; exact PySem.W.kia_one PySem.W.kitx_int I.kIn True.intro e (λz=>nomatch z) h
 | str y=>obtain ⟨t,q⟩:=(show ∃t,u=Value.str y t from rx); cases q; exact PySem.W.kia_one PySem.W.kitx_str I.kIn True.intro e (λz=>nomatch z) h
 | flt y=>obtain ⟨t,q⟩:=(show ∃t,u=Value.float y t from rx); cases q; exact PySem.W.kia_one PySem.W.kitx_float I.kIn True.intro e (λz=>nomatch z) h
 | @lst a xs ea=>
  cases (show u=Value.ref a from rx)
  obtain ⟨_,_,n,_,h1⟩:=(show qbe X.prog X.w H s.heap a (.lst xs) from I.hok a _ ea)
  exact PySem.W.kia_one PySem.W.kitx_list I.kIn ⟨_,h1,rfl⟩ e (λz=>nomatch z) h
 | @frz a ob xs ea=>
  cases (show u=Value.ref a from rx)
  obtain ⟨_,_,_,n,_,h1⟩:=(show qbe X.prog X.w H s.heap a (.frz ob (.lst xs)) from I.hok a _ ea)
  exact PySem.W.kia_one PySem.W.kitx_list I.kIn ⟨_,h1,rfl⟩ e (λz=>nomatch z) h
 | @tup a xs ea=>
  cases (show u=Value.ref a from rx)
  obtain ⟨_,_,_,p⟩:=(show qbe X.prog X.w H s.heap a (.tup xs) from I.hok a _ ea)
  obtain ⟨o,h1,h2,_⟩:=p
  exact PySem.W.kia_one PySem.W.kitx_tuple I.kIn ⟨o,h1,h2⟩ e (λz=>nomatch z) h
 | @dK a kvs ea=>
  cases (show u=Value.ref a from rx)
  obtain ⟨_,_,vs,_,p⟩:=(show qbe X.prog X.w H s.heap a (.dK kvs) from I.hok a _ ea)
  obtain ⟨o,es,ep,h1,h2,_⟩:=p
  exact PySem.W.kia_one PySem.W.kitx_dict I.kIn ⟨o,h1,h2.1⟩ e (λz=>nomatch z) h
 | @dT a kvs ea=>
  cases (show u=Value.ref a from rx)
  obtain ⟨_,_,xs,_,o,es,ep,h1,h2,_⟩:=(show qbe X.prog X.w H s.heap a (.dT kvs) from I.hok a _ ea)
  exact PySem.W.kia_one PySem.W.kitx_dict I.kIn ⟨o,h1,h2.1⟩ e (λz=>nomatch z) h
 | @ins a C dx fs ea cl ha hn htk hm=>
  cases (show u=Value.ref a from rx)
  obtain ⟨mA,O,_⟩:=qoR I.hok ea
  obtain ⟨od,J,_⟩:=O.look
  exact PySem.W.kia_one (PySem.W.kitx_own (cl.get _) cl.hd ha hn htk hm) I.kIn J e (λz=>nomatch z) h
end
end L2
namespace L2
open PySem PySem.Spec PyProof.Rows
structure qcu (k:Nat) (A:Around):Prop where
 hd:A.handled=none
 dp:A.depth+3*k+5<recursionLimit
 un:A.units+16*k+200<cLine
theorem qcu.mono {j k:Nat} {A:Around} (r:qcu k A) (h:j<=k):qcu j A:=⟨r.hd,by have:=r.dp; omega,by have:=r.un; omega⟩
theorem qcu.deeper {k:Nat} {A:Around} (r:qcu (k+1) A) (env:Env):qcu k (A.deeper env):=
 ⟨r.hd,by have:=r.dp; show A.depth+1+3*k+5<_; omega,by have:=r.un; show A.units+3+16*k+200<_; omega⟩
theorem qcu.in1 {k:Nat} {A:Around} (r:qcu (k+1) A):qcu k A.in1:=
 ⟨r.hd,by have:=r.dp; show A.depth+3*k+5<_; omega,by have:=r.un; show A.units+1+16*k+200<_; omega⟩
theorem qcu.depth {k:Nat} {A:Around} (r:qcu k A):A.depth<recursionLimit:=by have:=r.dp; omega
theorem qcu.units {k:Nat} {A:Around} (r:qcu k A):A.units+64<cLine:=by have:=r.un; omega
theorem qcu.units0 {k:Nat} {A:Around} (r:qcu k A):A.units<cLine:=by have:=r.un; omega
def qhL:TA:=λ_ H Q=>Q [] H
def qcv (ta:TE) (tr:TA):TA:=λσ H Q=>ta σ H λx H1=>tr σ H1 λxs H2=>Q (x::xs) H2
section
variable {X:Cx} {e:Expr} {es:List Expr} {te:TE} {t:TA} {pos:Pos}
theorem qaF:PA X [] qhL:=λ_ _ _ _ H Q I h=>Calls.spliced_nil ⟨[],H,I,.nil,h⟩
theorem qao (ha:PE X e te) (hr:PA X es t) (hs:starEach (e::es) X.env=(false,eval e X.env)::starEach es X.env:=by rfl):PA X (e::es) (qcv te t):=by
 intro pos pins s σ H Q I h
 rw[hs]
 show wpAny _ _ (spliced ((false,eval e X.env)::backTo pos (starEach es X.env))) _ _ s
 refine Calls.spliced_cons (thn (ha pins s σ H _ I h) λu s1 ⟨x,H1,I1,r1,q1⟩=> ?_)
 exact thn (hr pos pins s1 σ H1 _ I1 q1) λus s2 ⟨xs,H2,I2,r2,q2⟩=>⟨x::xs,H2,I2,.cons r1 r2,q2⟩
def qt6 (t:TA):TE:=λσ H Q=>t σ H λxs H1=>xs.length<=sizeLine/\∀p,H1 p=none->Q (.ref p) (upd H1 p (.tup xs))
def qua (t:TA):TE:=λσ H Q=>t σ H λxs H1=>xs.length<=sizeLine/\∀p,H1 p=none->Q (.ref p) (upd H1 p (.lst xs))
theorem qqm {x1} (h:PA X es t):PE X (.Tuple es x1 pos) (qt6 t):=by
 intro pins s σ H Q I hq
 refine wpAny_Tuple_spliced (thn (h pos pins s σ H _ I hq) λus s1 ⟨xs,H1,I1,r,z,q⟩=>⟨by rw[<-r.length]; exact z,?_⟩)
 have hf:H1 s1.heap.objs.size=none:=I1.hok.fresh (Nat.le_refl _)
 refine ⟨.ref s1.heap.objs.size,upd H1 s1.heap.objs.size (.tup xs),I1.laid (t':=s1.toks) (λb u e=>Heap.get?_push_of_some _ e) (Nat.le_refl _) ?_,rfl,q _ hf⟩
 exact ⟨z,us,r,⟨_,Heap.get?_push_size _ rfl,rfl,_,rfl⟩⟩
theorem qnI (h:PA X es t):PE X (.List es pos) (qua t):=by
 intro pins s σ H Q I hq
 refine wpAny_List_spliced (thn (h pos pins s σ H _ I hq) λus s1 ⟨xs,H1,I1,r,z,q⟩=>⟨by rw[<-r.length]; exact z,?_⟩)
 have hf:H1 s1.heap.objs.size=none:=I1.hok.fresh (Nat.le_refl _)
 refine ⟨.ref s1.heap.objs.size,upd H1 s1.heap.objs.size (.lst xs),I1.laid (t':=s1.toks) (λb u e=>Heap.get?_push_of_some _ e) (Nat.le_refl _) ?_,rfl,q _ hf⟩
 exact ⟨z,us,0,r,Heap.get?_push_size _ rfl⟩
end
abbrev Sp:=List V->Hp->VK->XK->Prop
abbrev CXT:=List Env->Hp->Shared->XK->Value->Shared->Prop
structure qru (P:Program) (w:World) (K:PySem.W.Frag) (mg:Str->Option Value) (base:Heap) (A:Around) (outer:List Env) (s:Shared) (H:Hp):Prop where
 frames:A.frames=some outer
 mod:Mod K mg base
 bs: ∀b o,base.get? b=some o->s.heap.get? b=some o/\H b=none
 bsz:base.objs.size<=s.heap.objs.size
 funs:s.heap.FunFrames base outer
 frf: ∀b∈frs outer,H b=none
 hok:HOk P w H s.heap
 bare:AllBare s.gens
def CE (outer:List Env) (P:Program) (w:World) (H:Hp) (s:Shared) (Q:VK) (u:Value) (s':Shared):Prop:=
 ∃v H',s'.os=s.os/\AllBare s'.gens/\Un (frs outer) [] H H' s.heap s'.heap/\HOk P w H' s'.heap/\RelV v u/\Q v H'
def CR (CX:CXT) (outer:List Env) (P:Program) (w:World) (H:Hp) (s:Shared) (Q:VK) (E:XK) (r:Result) (s':Shared):Prop:=
 match r with
 | .ok (.ret u)=>CE outer P w H s Q u s'
 | .ok _=>False
 | .error e=>CX outer H s E e s'
structure qbo (P:Program) (w:World) (K:PySem.W.Frag) (mg:Str->Option Value) (base:Heap) (CX:CXT) (k:Nat) (f:Addr) (fd:FuncData) (ps:List Str) (sp:Sp):Prop where
 len: ∀vs H Q E,sp vs H Q E->vs.length=ps.length
 run: ∀(A:Around) (outer:List Env) (s:Shared) (H:Hp) (args:Args) (us:List Value) (vs:List V) (Q:VK) (E:XK),qcu k A->qru P w K mg base A outer s H->BindsTo s fd args (ps.zip us)->Vals vs us->sp vs H Q E->
  codeAny (model P w) A (.call (.ref f) args) (CR CX outer P w H s Q E) s
theorem qbo.mono {P:Program} {w:World} {K:PySem.W.Frag} {mg:Str->Option Value} {base:Heap} {CX:CXT} {j k:Nat} {f:Addr} {fd:FuncData} {ps:List Str} {sp:Sp} (F:qbo P w K mg base CX j f fd ps sp) (h:j<=k):
  qbo P w K mg base CX k f fd ps sp:=⟨F.len,λA outer s H args us vs Q E hr=>F.run A outer s H args us vs Q E (hr.mono h)⟩
theorem qbo.imp {P:Program} {w:World} {K:PySem.W.Frag} {mg:Str->Option Value} {base:Heap} {CX:CXT} {k:Nat} {f:Addr} {fd:FuncData} {ps:List Str} {sp sp':Sp} (F:qbo P w K mg base CX k f fd ps sp)
  (h: ∀vs H Q E,sp' vs H Q E->sp vs H Q E):qbo P w K mg base CX k f fd ps sp':=
 ⟨λvs H Q E q=>F.len vs H Q E (h _ _ _ _ q),λA outer s H args us vs Q E hr he hb hv hs=>F.run A outer s H args us vs Q E hr he hb hv (h _ _ _ _ hs)⟩
section
variable {X:Cx} {pins:List (Addr×Obj)} {σ:St} {H:Hp} {s s':Shared}
theorem Inv.env0 (I:Inv X pins σ H s):qru X.prog X.w X.K X.mg X.base X.A X.stack s H:=
 ⟨I.ok.frames,I.ok.mod,I.bs,Nat.le_trans I.ok.bsz I.sz,I.stack,I.stkFree,I.hok,I.bare⟩
theorem Inv.after {Q:VK} {u:Value} (I:Inv X pins σ H s) (h:CE X.stack X.prog X.w H s Q u s'):EP X pins σ Q u s':=by
 obtain ⟨v,H',os,bare,un,hok,r,q⟩:=h
 obtain ⟨hh,g,d,t,os'⟩:=s'
 obtain rfl:os'=s.os:=os
 exact ⟨v,H',I.call (h':=hh) (g':=g) (d':=d) (t':=t) (ch:=[]) un hok bare (λb z=>absurd z (by simp)),r,q⟩
end
def qiV (sp:Sp) (dvs:List V) (E:XK) (t:TA):TE:=λσ H Q=>t σ H λvs H1=>sp (vs++dvs) H1 Q E
def qdZ (K:PySem.W.Frag) (fd:FuncData) (ps:List Str) (ds:List Value):Prop:=
 ∀(s:Shared) (us:List Value),K.In s.heap->(us++ds).length=ps.length->BindsTo s fd ⟨us,[]⟩ (ps.zip (us++ds))
theorem qdZ.all {K:PySem.W.Frag} {fd:FuncData} {ps:List Str} (h: ∀us:List Value,us.length=ps.length->bindArgs fd ⟨us,[]⟩=pure (ps.zip us)):qdZ K fd ps []:=λs us _ hl=>by
 rw[List.append_nil] at hl⊢
 exact .of_eq (h us hl)
def qgV (CX:CXT) (X:Cx) (E:XK):Prop:= ∀(pins:List (Addr×Obj)) (σ:St) (H:Hp) (s:Shared) (e:Value) (s':Shared),Inv X pins σ H s->CX X.stack H s E e s'->X.xe e s'
section
variable {X:Cx} {CX:CXT} {k:Nat} {f C:Addr} {fd:FuncData} {ps:List Str} {sp:Sp} {dvs:List V} {ds:List Value} {E:XK} {x m:Str} {p pos apos:Pos} {e o:Expr} {es:List Expr} {ta:TE} {t:TA}
theorem qnD {pins:List (Addr×Obj)} {σ:St} {H:Hp} {s:Shared} {Q:VK} {us:List Value} {vs:List V} (F:qbo X.prog X.w X.K X.mg X.base CX k f fd ps sp) (hr:qcu k X.A) (hb:qdZ X.K fd ps ds) (hd:Vals dvs ds) (hx:qgV CX X E)
  (I:Inv X pins σ H s) (r:Vals vs us) (h:sp (vs++dvs) H Q E):wpAny (model X.prog X.w) X.A (call (.ref f) us) (EP X pins σ Q) X.xe s:=by
 have r2:Vals (vs++dvs) (us++ds):=r.append hd
 have hl:(us++ds).length=ps.length:=by rw[<-r2.length]; exact F.len _ _ _ _ h
 refine wpAny_call (codeAny_mono (F.run X.A X.stack s H ⟨us,[]⟩ (us++ds) (vs++dvs) Q E hr I.env0 (hb s us I.kIn hl) r2 h) λr s' hq=> ?_)
 cases r with
 | error e=>exact hx pins σ H s e s' I hq
 | ok fl=>
  cases fl with
  | ret u=>exact I.after hq
  | next=>exact False.elim hq
  | brk=>exact False.elim hq
  | cont=>exact False.elim hq
theorem qey (F:qbo X.prog X.w X.K X.mg X.base CX k f fd ps sp) (hr:qcu k X.A) (hg:Gl X x) (hm:X.mg x=some (.ref f)) (hk:PySem.W.keepIn X.K (.ref f)=true) (hb:qdZ X.K fd ps ds) (hd:Vals dvs ds) (hx:qgV CX X E)
  (ha:PA X (e::es) t) (hdb:(x==("__debug__" :Str))=false:=by decide) (he:starEach (e::es) X.env=(false,eval e X.env)::starEach es X.env:=by rfl) (hpl:(backTo pos (starEach es X.env)).any (·.1)=false:=by rfl):
  PE X (.Call (.Name x p) (e::es) [] pos) (qiV sp dvs E t):=by
 intro pins s σ H Q I h
 refine wpAny_Call_Name_kw (qkK I hg hm ?_ hdb)
 refine PySem.W.callWith_K (h₀:=X.base) I.ok.mod.kin hk (thn (ha pos pins s σ H _ I h) λus s1 ⟨vs,H1,I1,r,q⟩=>⟨I1.kIn,?_⟩) he hpl
 exact qnD F hr hb hd hx I1 r q
structure Mk (K:PySem.W.Frag) (C f:Addr):Prop where
 makes:PySem.W.makesIn K C=true
 init:PySem.W.findIn K (.ref C) "__init__" =some (some (.ref f))
 fn:PySem.W.isFn K (.ref f)=true
 kp:PySem.W.keepIn K (.ref C)=true
end
section
variable {X:Cx} {CX:CXT} {k:Nat} {f C:Addr} {fd:FuncData} {ps ks:List Str} {sp:Sp} {E:XK} {x m:Str} {p pos apos kpos:Pos} {e o:Expr} {es:List Expr} {kws:List Keyword} {te ta:TE} {t tk:TA} {nm:Option Str}
structure qtY (K:PySem.W.Frag) (fd:FuncData) (ps ks:List Str) (g:List Value->List Value->List Value) (gV:List V->List V->List V):Prop where
 to: ∀(s:Shared) (us ws:List Value),K.In s.heap->(g us ws).length=ps.length->BindsTo s fd ⟨us,ks.zip ws⟩ (ps.zip (g us ws))
 rel: ∀{vs:List V} {us:List Value} {zs:List V} {ws:List Value},Vals vs us->Vals zs ws->Vals (gV vs zs) (g us ws)
variable {g:List Value->List Value->List Value} {gV:List V->List V->List V}
end
structure qau (N P:List Str) (sc:Scope):Prop where
 kind:sc.kind= .function
 co:sc.isCoroutine=false
 gen:sc.isGenerator=false
 nd:N.Nodup
 pre:N.take P.length=P
 par: ∀x∈P,sc.names.lookup x=some .local\/sc.names.lookup x=some .cell
 nofree: ∀y∈sc.names,y.2≠.free
theorem qgP {kindOf:Str->Option NameKind} {x:Str}: ∀{binds:List (Str×Value)} {m:Str->Option Value},(∀v,(x,v)∉binds)->bindL kindOf binds m x=m x
 | [],_,_=>rfl
 | (n,v)::r,m,h=>by
  unfold bindL
  rw[qgP λw hw=>h w (List.mem_cons_of_mem _ hw)]
  split
  ·have:x≠n:=by rintro rfl; exact h v List.mem_cons_self
   simp[this]
  ·rfl
theorem qgR {kindOf:Str->Option NameKind} {x:Str}: ∀{binds:List (Str×Value)} {m:Str->Option Value},(∀v,(x,v)∉binds)->bindC kindOf binds m x=m x
 | [],_,_=>rfl
 | (n,v)::r,m,h=>by
  unfold bindC
  rw[qgR λw hw=>h w (List.mem_cons_of_mem _ hw)]
  split
  ·rfl
  ·have:x≠n:=by rintro rfl; exact h v List.mem_cons_self
   simp[this]
theorem qgQ {kindOf:Str->Option NameKind} {x:Str} {v:Value}: ∀{P:List Str} {vs:List Value} {i:Nat} {m:Str->Option Value},P.Nodup->P[i]? =some x->vs[i]? =some v->kindOf x=some .local->
  bindL kindOf (P.zip vs) m x=some v
 | [],_,_,_,_,h,_,_=>by simp at h
 | _::_,[],_,_,_,_,h,_=>by simp at h
 | p::P,w::vs,0,m,nd,h1,h2,hk=>by
  simp at h1 h2; subst h1; subst h2
  show bindL kindOf ((p,w)::P.zip vs) m p=_
  unfold bindL
  rw[qgP λv hv=>(List.nodup_cons.mp nd).1 (List.of_mem_zip hv).1,if_pos hk]
  simp
 | p::P,w::vs,i+1,m,nd,h1,h2,hk=>by
  show bindL kindOf ((p,w)::P.zip vs) m x=_
  unfold bindL
  exact qgQ (i:=i) (List.nodup_cons.mp nd).2 (by simpa using h1) (by simpa using h2) hk
theorem qgS {kindOf:Str->Option NameKind} {x:Str} {v:Value}: ∀{P:List Str} {vs:List Value} {i:Nat} {m:Str->Option Value},P.Nodup->P[i]? =some x->vs[i]? =some v->kindOf x≠some .local->
  bindC kindOf (P.zip vs) m x=some v
 | [],_,_,_,_,h,_,_=>by simp at h
 | _::_,[],_,_,_,_,h,_=>by simp at h
 | p::P,w::vs,0,m,nd,h1,h2,hk=>by
  simp at h1 h2; subst h1; subst h2
  show bindC kindOf ((p,w)::P.zip vs) m p=_
  unfold bindC
  rw[qgR λv hv=>(List.nodup_cons.mp nd).1 (List.of_mem_zip hv).1,if_neg hk]
  simp
 | p::P,w::vs,i+1,m,nd,h1,h2,hk=>by
  show bindC kindOf ((p,w)::P.zip vs) m x=_
  unfold bindC
  exact qgS (i:=i) (List.nodup_cons.mp nd).2 (by simpa using h1) (by simpa using h2) hk
def start (N:List Str) (vs:List V):St:=vs.map some++List.replicate (N.length - vs.length) none
def qnl (CX:CXT) (P:Program) (w:World) (K:PySem.W.Frag) (mg:Str->Option Value) (base:Heap) (N:List Str) (qual:Str) (scope:Scope) (f:Addr) (cd:Value) (A:Around) (outer:List Env) (s:Shared) (H:Hp) (E:XK):Cx where
 prog:=P
 w:=w
 K:=K
 mg:=mg
 base:=base
 A:=A.deeper (envOfC qual scope s.heap.objs.size f cd)
 N:=N
 s₀:=s
 H₀:=H
 env:=envOfC qual scope s.heap.objs.size f cd
 outer:=outer
 stack:=envOfC qual scope s.heap.objs.size f cd::outer
 ex:=[]
 calm:=true
 fn:=λ_=>true
 pn:=[]
 xe:=λe s'=>wpAny (model P w) (A.deeper (envOfC qual scope s.heap.objs.size f cd)) (leaving (envOfC qual scope s.heap.objs.size f cd) e) (λ_ s''=>CX outer H s E e s'') (λe' s''=>CX outer H s E e' s'') s'
theorem qiK {sc:Scope} {n:Nat} {x:Str} (h:sc.names.lookup x=some .cell): ∃c,(cellsFrom n sc.names []).lookup x=some c:=by
 have q:=PySem.W.cellsFrom_some sc.names n [] (.inl h)
 exact Option.isSome_iff_exists.mp q
theorem qk2 {CX:CXT} {P:Program} {w:World} {K:PySem.W.Frag} {mg:Str->Option Value} {base:Heap} {N ps:List Str} {qual:Str} {scope:Scope} {f:Addr} {cd:Value} {A:Around} {outer:List Env} {s s1:Shared} {H:Hp} {E:XK} {us:List Value} {vs:List V}
  (S:qau N ps scope) (hd:A.handled=none) (e0:qru P w K mg base A outer s H) (hl:vs.length=ps.length) (r:Vals vs us)
  (x:InCallC s s.heap.objs.size (bindL (envOfC qual scope s.heap.objs.size f cd).kindOf (ps.zip us) λ_=>none) (cellsFrom (s.heap.objs.size+1) scope.names []) (bindC (envOfC qual scope s.heap.objs.size f cd).kindOf (ps.zip us) λ_=>none) s1):
  Inv (qnl CX P w K mg base N qual scope f cd A outer s H E) [] (start N vs) H s1:=by
 have hpl:ps.length<=N.length:=by have:=congrArg List.length S.pre; rw[List.length_take] at this; omega
 obtain ⟨h1,tk,rfl,hk⟩:=x.done
 have noA: ∀b:Addr,b∉(qnl CX P w K mg base N qual scope f cd A outer s H E).ex:=λb z=>absurd (show b∈([]:List Addr) from z) (by simp)
 refine ⟨⟨e0.mod,S.kind,rfl,rfl,Nat.le_refl _,λy z c h1 h2=> ?_,λy hy=> ?_,λy c _ h=> ?_,λ_=>hd,Around.frames_deeper e0.frames,.inr ⟨rfl,rfl⟩,λb z=>absurd z (noA b),e0.bs,e0.bsz,λb _ _=>noA b,λb z=>absurd z (noA b),e0.funs,e0.frf⟩,
  rfl,e0.bare,Un.kept hk,⟨_,x.toInCall.ns,λi y v h1 h2 h3=> ?_⟩,λy c h=>⟨_,x.cell y c h⟩,e0.hok.fresh (Nat.le_refl _),λy c h=> ?_,λp hp=>absurd (show p∈([]:List (Addr×Obj)) from hp) (by simp),e0.hok.kept hk,?_⟩
 ·exact name_of_addr x.apart (PySem.mem_of_lookup h1) (PySem.mem_of_lookup h2)
 ·have hy:scope.names.lookup y=some .cell\/scope.names.lookup y=some .free:=hy
  rcases hy with hy | hy
  ·exact qiK hy
  ·exact absurd rfl (S.nofree _ (PySem.mem_of_lookup hy))
 ·exact Nat.le_of_lt (x.above y c (PySem.mem_of_lookup h))
 ·have hi:i<vs.length:=by
   unfold start at h2
   by_cases hi:i<vs.length
   ·exact hi
   ·rw[List.getElem?_append_right (by simpa using hi)] at h2
    rw[List.getElem?_replicate] at h2
    split at h2<;>cases h2
  have ha:vs[i]? =some v:=by
   unfold start at h2
   rw[List.getElem?_append_left (by simpa using hi),List.getElem?_map] at h2
   cases e:vs[i]? with
   | none=>rw[e] at h2; cases h2
   | some a=>rw[e] at h2; cases h2; rfl
  obtain ⟨u,hu,rv⟩:=r.get ha
  have hp:ps[i]? =some y:=by
   rw[<-S.pre,List.getElem?_take_of_lt (by omega)]; exact h1
  have ndP:ps.Nodup:=by rw[<-S.pre]; exact S.nd.sublist (List.take_sublist _ _)
  refine ⟨u,rv,?_⟩
  rcases S.par y (List.mem_of_getElem? hp) with k | k
  ·exact .inl ⟨k,qgQ ndP hp hu k⟩
  ·obtain ⟨c,e⟩:=qiK (n:=s.heap.objs.size+1) k
   refine .inr ⟨.inl k,c,e,?_⟩
   have q:=x.cell y c e
   rw[qgS ndP hp hu (by show scope.names.lookup y≠_; rw[k]; decide)] at q
   exact q
 ·exact e0.hok.fresh (Nat.le_of_lt (x.above y c (PySem.mem_of_lookup h)))
 ·unfold start
  show _=N.length
  rw[List.length_append,List.length_map,List.length_replicate]
  omega
theorem qqU {CX:CXT} {P:Program} {w:World} {K:PySem.W.Frag} {mg:Str->Option Value} {base:Heap} {k:Nat} {f:Addr} {name qual:Str} {params:Arguments} {body:List Stmt} {scope:Scope} {dV kV doc pm cdv ct oc:Value} {an od:Option Addr}
  {osl:Array (Option Value)} {N ps:List Str} {sp:Sp} (lk:K.lookup f=some ⟨oc,od,.func (PySem.W.fnOf name qual params body scope dV kV doc pm an cdv ct),osl⟩) (hcd:PySem.W.codeIn K cdv qual=true) (S:qau N ps scope)
  (len: ∀vs H Q E,sp vs H Q E->vs.length=ps.length)
  (hbody: ∀(A:Around) (outer:List Env) (s:Shared) (H:Hp) (vs:List V) (Q:VK) (E:XK),qcu k (A.deeper (envOfC qual scope s.heap.objs.size f cdv))->sp vs H Q E->
   ∃t,PSs (qnl CX P w K mg base N qual scope f cdv A outer s H E) body t/\t { nx:=λ_ H'=>Q .non H',rt:=Q } (start N vs) H):
  qbo P w K mg base CX (k+1) f (PySem.W.fnOf name qual params body scope dV kV doc pm an cdv ct) ps sp:=by
 refine ⟨len,λA outer s H args us vs Q E hr e0 hb r hsp=> ?_⟩
 have hl:=len _ _ _ _ hsp
 have KX:K.In s.heap:=e0.mod.kin.keeps λb o e=>(e0.bs b o e).1
 have lim:s.heap.NoLimit:=e0.mod.nolimit.keeps λb o e=>(e0.bs b o e).1
 have hkind: ∀y∈ps.zip us,scope.names.lookup y.1=some .local\/(scope.names.lookup y.1=some .cell/\((cellsFrom (s.heap.objs.size+1) scope.names []).lookup y.1).isSome=true):=λ⟨n,v⟩ hy=>by
  rcases S.par n (List.of_mem_zip hy).1 with q | q
  ·exact .inl q
  ·exact .inr ⟨q,PySem.W.cellsFrom_some _ _ _ (.inl q)⟩
 refine codeAny_call_function hr.depth (KX _ _ lk) rfl S.co S.gen rfl (PySem.W.codeRec_of KX hcd) (hb _ _ _ _ ?_)
 refine wpAny_newFunctionEnv_cells S.kind hkind λenv he s1 x=> ?_
 subst he
 refine ⟨lim.keeps x.toInCall.keep,codeAny_func ?_⟩
 obtain ⟨t,ht,hq⟩:=hbody A outer s H vs Q E (hr.deeper _) hsp
 have I:Inv (qnl CX P w K mg base N qual scope f cdv A outer s H E) [] (start N vs) H s1:=qk2 S hr.hd e0 hl r x
 refine wpAny_mono (ht [] s1 (start N vs) H _ I hq) (λfl s' hs=> ?_) λe s' hs=>hs
 have fin: ∀{σ':St} {H':Hp} {v:V} {u:Value},Inv (qnl CX P w K mg base N qual scope f cdv A outer s H E) [] σ' H' s'->RelV v u->Q v H'->CE outer P w H s Q u s':=
  λ{σ' H' v u} J rv q=>⟨v,H',J.os,J.bare,J.base,J.hok,rv,q⟩
 cases fl with
 | ret u=>
  obtain ⟨v,σ',H',J,rv,q⟩:=hs
  exact fin J rv q
 | next=>
  obtain ⟨σ',H',J,q⟩:=hs
  exact fin (v:=V.non) (u:=Value.none) J rfl q
 | brk=>
  obtain ⟨_,_,_,q⟩:=hs
  exact False.elim q
 | cont=>
  obtain ⟨_,_,_,q⟩:=hs
  exact False.elim q
end L2
namespace L2
open PySem PySem.Spec PyProof.Rows
section
variable {X:Cx} {x:Str} {p pos:Pos} {e:Expr} {es:List Expr} {t:TA} {id T:String} {r:List V->Hp->VK->Prop}
def tCB (r:List V->Hp->VK->Prop) (t:TA):TE:=λσ H Q=>t σ H λvs H1=>r vs H1 Q
theorem qaz (hc:qdf X (.builtin id) r) (hg:Gl X x) (hm:X.mg x=none) (hv:bootBuiltins x=some (.builtin id)) (ha:PA X (e::es) t) (hn:x≠ "__name__" :=by decide) (hdb:(x==("__debug__" :Str))=false:=by decide)
  (he:starEach (e::es) X.env=(false,eval e X.env)::starEach es X.env:=by rfl) (hpl:(backTo pos (starEach es X.env)).any (·.1)=false:=by rfl):PE X (.Call (.Name x p) (e::es) [] pos) (tCB r t):=by
 intro pins s σ H Q I h
 refine wpAny_Call_Name_kw (qd4 I hg hm hv ?_ hn hdb)
 exact PyProof.Rows.callWith_builtin1 (thn (ha pos pins s σ H _ I h) λus s1 ⟨vs,H1,I1,r1,q1⟩=>hc pins s1 σ H1 vs us Q I1 r1 q1) he hpl
theorem qgi (hc:qdf X (.type T) r) (hg:Gl X x) (hm:X.mg x=none) (hv:bootBuiltins x=some (.type T)) (ha:PA X (e::es) t) (hn:x≠ "__name__" :=by decide) (hdb:(x==("__debug__" :Str))=false:=by decide)
  (he:starEach (e::es) X.env=(false,eval e X.env)::starEach es X.env:=by rfl) (hpl:(backTo pos (starEach es X.env)).any (·.1)=false:=by rfl):PE X (.Call (.Name x p) (e::es) [] pos) (tCB r t):=by
 intro pins s σ H Q I h
 refine wpAny_Call_Name_kw (qd4 I hg hm hv ?_ hn hdb)
 exact PyProof.Rows.callWith_type1 (thn (ha pos pins s σ H _ I h) λus s1 ⟨vs,H1,I1,r1,q1⟩=>hc pins s1 σ H1 vs us Q I1 r1 q1) he hpl
end
end L2
namespace HT
open PySem PyProof.Rows
section
variable {prog:Program} {w:World} {A:Around} {E:Value->Shared->Prop} {s:Shared}
theorem cat_tup {t b:Addr} {vs ws:List Value} {Q:Value->Shared->Prop} (ht:IsTup s.heap t vs.toArray) (hb:IsTup s.heap b ws.toArray) (hv:vs≠[])
  (h1:ws=[]->Q (.ref t) s) (h2:ws≠[]->Q (.ref s.heap.objs.size) { s with heap:=s.heap.push { cls:=.type "tuple",data:=.seq (vs++ws).toArray } })
  (hsz:vs.length+ws.length<=sizeLine):wpAny (model prog w) A (binaryOp .Add (.ref t) (.ref b)) Q E s:=by
 obtain ⟨⟨cls,dd,data,sl⟩,ho,hc,n,hd⟩:=id ht
 obtain ⟨⟨cls2,dd2,data2,sl2⟩,ho2,hc2,n2,hd2⟩:=id hb
 simp only at hc hd hc2 hd2
 subst hc hd hc2 hd2
 have e:vs.toArray++ws.toArray=(vs++ws).toArray:=by simp
 by_cases hw:ws=[]
 ·exact concat_meets ⟨_,ho,rfl⟩ ⟨_,ho2,rfl⟩ noFill_tuple_add seq_tuple_add PySem.F.slot_tuple_add PySem.F.entry_tuple_add (PySem.F.args_tuple_add_2 _ _)
   (tuple_addW1 t b vs.toArray ws.toArray n n2 dd dd2 sl sl2 (by simpa using hv) (by simp[hw])) ⟨ho,ho2,h1 hw⟩
 ·refine concat_meets ⟨_,ho,rfl⟩ ⟨_,ho2,rfl⟩ noFill_tuple_add seq_tuple_add PySem.F.slot_tuple_add PySem.F.entry_tuple_add (PySem.F.args_tuple_add_2 _ _)
   (tuple_addW2 t b vs.toArray ws.toArray n n2 dd dd2 sl sl2 (by simpa using hv) (by simpa using hw) (by rw[List.size_toArray,List.size_toArray]; exact hsz)) ⟨ho,ho2,?_⟩
  rw[e]
  exact h2 hw
def sIx (n d:Nat):Option Int->Nat
 | none=>d
 | some v=>if v<0 then (v+(n:Int)).toNat else min v.toNat n
theorem sIx_none (n d:Nat):sIx n d none=d:=rfl
theorem sIx_nat (n d k:Nat):sIx n d (some (k:Int))=min k n:=by
 show (if (k:Int)<0 then ((k:Int)+(n:Int)).toNat else min (k:Int).toNat n)=min k n
 rw[if_neg (by omega),Int.toNat_natCast]
theorem qpY (n d:Nat) (hd:d<=n) (o:Option Int):sIx n d o<=n:=by
 cases o with
 | none=>exact hd
 | some v=>
  show (if v<0 then (v+(n:Int)).toNat else min v.toNat n)<=n
  by_cases hv:v<0
  ·rw[if_pos hv]; omega
  ·rw[if_neg hv]; exact Nat.min_le_right _ _
theorem qlF (v:Int) (n d:Nat):(if v<0 then max (v+(n:Int)) 0 else min v (n:Int))=((sIx n d (some v):Nat):Int):=by
 show (if v<0 then max (v+(n:Int)) 0 else min v (n:Int))=(((if v<0 then (v+(n:Int)).toNat else min v.toNat n):Nat):Int)
 by_cases hv:v<0
 ·simp only[if_pos hv]; omega
 ·simp only[if_neg hv]; omega
theorem qjA (lo hi:Option Int) (n:Nat):Builtin.Slice.sliceAdjust lo hi 1 (n:Int)=(((sIx n 0 lo:Nat):Int),((sIx n n hi:Nat):Int)):=by
 have h1: ¬((1:Int)<0):=by omega
 unfold Builtin.Slice.sliceAdjust
 simp only[h1,if_false]
 refine Prod.ext ?_ ?_
 ·cases lo with
  | none=>rfl
  | some v=>exact qlF v n 0
 ·cases hi with
  | none=>rfl
  | some v=>exact qlF v n n
theorem qi5 (i j:Nat):Builtin.Slice.slicePlaces (i:Int) (j:Int) 1=j - i:=by
 unfold Builtin.Slice.slicePlaces
 have h1:(1:Int)>0:=by omega
 simp only[h1,if_true,Int.ediv_one]
 split<;>omega
theorem qfg {v:Value} {o:Option Int} {Q:Option Int->Shared->Prop} (p:IsPart v o) (h:Q o s):wpAny (model prog w) A (Builtin.Slice.slicePartIndex v) Q E s:=by
 cases p with
 | none=>exact slicePart_none h
 | int i t=>exact slicePart_int h
theorem qd9 {sl:Addr} {vl vu:Value} {lo hi:Option Int} {n:Nat} {Q:Int×Int×Nat->Shared->Prop} (hs:s.heap.IsSliceOf sl vl vu .none) (pl:IsPart vl lo) (pu:IsPart vu hi)
  (h:Q (((sIx n 0 lo:Nat):Int),1,sIx n n hi - sIx n 0 lo) s):wpAny (model prog w) A (Builtin.Slice.sliceApplied (.ref sl) (pure (n:Int))) Q E s:=by
 obtain ⟨os,hos,hcs,hds⟩:=id hs
 unfold Builtin.Slice.sliceApplied Builtin.Slice.sliceFields
 refine wpAny_bind (wpAny_bind (wpAny_field hos hds (x:=vl) rfl (wpAny_bind (wpAny_field hos hds (x:=vu) rfl (wpAny_bind (wpAny_field hos hds (x:=.none) rfl (wpAny_pure ?_)))))))
 refine wpAny_bind (slicePart_none ?_)
 show wpAny _ _ (if ((1:Int)==0)=true then _ else _) _ _ s
 rw[if_neg (by decide)]
 refine wpAny_bind (qfg pl (wpAny_bind (qfg pu (wpAny_bind (wpAny_pure ?_)))))
 show wpAny _ _ (match Builtin.Slice.sliceAdjust lo hi 1 (n:Int) with | (lo,hi)=>pure (lo,(1:Int),Builtin.Slice.slicePlaces lo hi 1)) _ _ s
 rw[qjA lo hi n]
 show wpAny _ _ (pure (((sIx n 0 lo:Nat):Int),(1:Int),Builtin.Slice.slicePlaces ((sIx n 0 lo:Nat):Int) ((sIx n n hi:Nat):Int) 1)) _ _ s
 rw[qi5]
 exact wpAny_pure h
theorem qms (xs:Array Value) (i k:Nat):((List.range k).filterMap λ(m:Nat)=>xs[((i:Int)+(m:Int)*1).toNat]?).toArray=((xs.toList.drop i).take k).toArray:=by
 have e:(λ(m:Nat)=>xs[((i:Int)+(m:Int)*1).toNat]?)=λm=>xs[i+m]? :=by
  funext m
  have:((i:Int)+(m:Int)*1).toNat=i+m:=by omega
  rw[this]
 rw[e]
 have:=pick_run xs i k
 rw[List.filterMap_map] at this
 have e2:((λx=>xs[x]?)∘λx=>i+x)=λm=>xs[i+m]? :=rfl
 rw[e2] at this
 rw[this]
theorem getItem_tuple_cut {t sl:Addr} {items:Array Value} {vl vu:Value} {lo hi:Option Int} {Q:Value->Shared->Prop} (ht:IsTup s.heap t items) (hs:s.heap.IsSliceOf sl vl vu .none) (pl:IsPart vl lo) (pu:IsPart vu hi)
  (hw: ¬(sIx items.size 0 lo=0/\sIx items.size items.size hi=items.size))
  (h:Q (.ref s.heap.objs.size) { s with heap:=s.heap.push { cls:=.type "tuple",data:=.seq ((items.toList.drop (sIx items.size 0 lo)).take (sIx items.size items.size hi - sIx items.size 0 lo)).toArray } })
  (hsz:items.size<=sizeLine):wpAny (model prog w) A (getItem (.ref t) (.ref sl)) Q E s:=by
 have htake:sizeOk (.seq ((items.toList.drop (sIx items.size 0 lo)).take (sIx items.size items.size hi - sIx items.size 0 lo)).toArray):=by
  show ((items.toList.drop (sIx items.size 0 lo)).take (sIx items.size items.size hi - sIx items.size 0 lo)).toArray.size<=sizeLine
  rw[List.size_toArray,List.length_take,List.length_drop,Array.length_toList]
  omega
 have hj:sIx items.size items.size hi<=items.size:=qpY _ _ (Nat.le_refl _) hi
 obtain ⟨os,hos,hcs,hds⟩:=id hs
 have hTs:s.TypeIs (.ref sl) "slice" :=⟨os,hos,hcs⟩
 unfold getItem
 try with_reducible refine wpAny_holding ?_
 first | refine wpAny_bind (wpAny_pure ?_) | skip
 refine wpAny_bind (wpAny_sequenceKey ht.typeIs (by decide) ?_)
 refine wpAny_bind (wpAny_callSpecial?_slot (name:=Str.ofString "__getitem__") ht.typeIs PyProof.Rows.slot_tuple_getitem
  (wpAny_call_entry PyProof.Rows.slot_tuple_getitem ht.typeIs entry_tuple_getitem ?_ (args_tuple_getitem _ _)))
 show wpAny _ _ (Builtin.Tuple.tupleItemsOf (.ref t)>>=_) _ _ s
 refine wpAny_bind (tupleItemsOf_ ht ?_)
 refine wpAny_bind (wpAny_typeOf hTs ?_)
 rw[if_pos (by decide)]
 refine wpAny_bind (qd9 hs pl pu ?_)
 have hno: ¬((((sIx items.size 0 lo:Nat):Int)==0&&(1:Int)==1&&(sIx items.size items.size hi - sIx items.size 0 lo)==items.size)=true):=by
  intro q
  rw[Bool.and_eq_true,Bool.and_eq_true] at q
  have q1:((sIx items.size 0 lo:Nat):Int)=0:=eq_of_beq q.1.1
  have q2:sIx items.size items.size hi - sIx items.size 0 lo=items.size:=eq_of_beq q.2
  exact hw ⟨by omega,by omega⟩
 show wpAny _ _ (if (((sIx items.size 0 lo:Nat):Int)==0&&(1:Int)==1&&(sIx items.size items.size hi - sIx items.size 0 lo)==items.size)=true then _ else _) _ _ s
 rw[if_neg hno,qms]
 first
  | exact wpAny_bind (m:=Builtin.Tuple.tupleExact _) (wpAny_newObj_type (wpAny_pure ⟨_,rfl,wpAny_pure h⟩) htake)
  | exact wpAny_bind (m:=Builtin.Tuple.tupleExact _) (wpAny_newObj_type (wpAny_bind (wpAny_pure (wpAny_pure ⟨_,rfl,wpAny_pure h⟩))) htake)
  | exact wpAny_bind (wpAny_bind (m:=Builtin.Tuple.tupleExact _) (wpAny_newObj_type (wpAny_pure (wpAny_pure ⟨_,rfl,wpAny_pure h⟩)) htake))
  | exact wpAny_bind (wpAny_bind (m:=Builtin.Tuple.tupleExact _) (wpAny_newObj_type (wpAny_pure ⟨_,rfl,wpAny_pure h⟩) htake))
end
end HT
namespace L2
open PySem PySem.Spec PyProof.Rows
abbrev TO:=St->Hp->(Option Int->Hp->Prop)->Prop
def PO (X:Cx) (e:Option Expr) (t:TO):Prop:=
 ∀(pins:List (Addr×Obj)) (s:Shared) (σ:St) (H:Hp) (Q:Option Int->Hp->Prop),Inv X pins σ H s->t σ H Q->
  wpAny (model X.prog X.w) X.A (evalPart e X.env) (λu s'=> ∃o H',Inv X pins σ H' s'/\IsPart u o/\Q o H') X.xe s
def qod:TO:=λ_ H Q=>Q none H
def qrB (t:TE):TO:=λσ H Q=>t σ H λx H1=> ∃i,x= .int i/\Q (some i) H1
section
variable {X:Cx} {e:Expr} {te:TE} {lo hi:Option Expr} {tl th:TO} {pos p2:Pos}
theorem qot:PO X none qod:=by
 intro pins s σ H Q I h
 rw[evalPart_none]
 exact wpAny_pure ⟨none,H,I,.none,h⟩
theorem qos (h:PE X e te):PO X (some e) (qrB te):=by
 intro pins s σ H Q I hw
 rw[evalPart_some]
 refine thn (h pins s σ H _ I hw) λu s1 ⟨x,H1,I1,r1,q1⟩=> ?_
 obtain ⟨i,rfl,q⟩:=q1
 obtain ⟨t,rfl⟩:=r1
 exact ⟨some i,H1,I1,.int i t,q⟩
def SlR (X:Cx) (r:V->Option Int->Option Int->Hp->VK->Prop):Prop:=
 ∀(pins:List (Addr×Obj)) (s:Shared) (σ:St) (H:Hp) (x:V) (v vl vu:Value) (lo hi:Option Int) (sl:Addr) (Q:VK),Inv X pins σ H s->RelV x v->s.heap.IsSliceOf sl vl vu .none->IsPart vl lo->IsPart vu hi->r x lo hi H Q->
  ∃T id,typeLookup (.type T) "__getitem__" =pure (some (.builtin id))/\s.TypeIs v T/\wpAny (model X.prog X.w) X.A (getItem v (.ref sl)) (EP X pins σ Q) X.xe s
def tSl (r:V->Option Int->Option Int->Hp->VK->Prop) (te:TE) (tl th:TO):TE:=λσ H Q=>te σ H λx H1=>tl σ H1 λl H2=>th σ H2 λu H3=>r x l u H3 Q
theorem qh6 {r:V->Option Int->Option Int->Hp->VK->Prop} (hr:SlR X r) (he:PE X e te) (hl:PO X lo tl) (hu:PO X hi th):PE X (.Subscript e (.Slice lo hi none p2) pos) (tSl r te tl th):=by
 intro pins s σ H Q I h
 refine Subscript_ (thn (he pins s σ H _ I h) λv s1 ⟨x,H1,I1,r1,q1⟩=> ?_)
 refine wpAny_Slice (thn (hl pins s1 σ H1 _ I1 q1) λvl s2 ⟨l,H2,I2,pl,q2⟩=>thn (hu pins s2 σ H2 _ I2 q2) λvu s3 ⟨u,H3,I3,pu,q3⟩=> ?_)
 rw[evalPart_none]
 refine wpAny_pure ?_
 have I4:Inv X pins σ H3 { s3 with heap:=s3.heap.push { cls:=.type "slice",data:=.fields #[vl,vu,.none] } }:=I3.kept (t':=s3.toks) λb ob q=>Heap.get?_push_of_some _ q
 obtain ⟨T,id,hT,ht,hg⟩:=hr pins { s3 with heap:=s3.heap.push { cls:=.type "slice",data:=.fields #[vl,vu,.none] } } σ H3 x v vl vu l u s3.heap.objs.size Q I4 r1 (Heap.IsSliceOf.new ..) pl pu q3
 show wpAny (model X.prog X.w) X.A (subscriptTail e (.Slice lo hi none p2) v (.ref s3.heap.objs.size)) (EP X pins σ Q) X.xe { s3 with heap:=s3.heap.push { cls:=.type "slice",data:=.fields #[vl,vu,.none] } }
 exact tail_any (ops:=[.ref s3.heap.objs.size,v]) ht hT hg (by with_unfolding_all rfl)
def qlD (xs:List V) (lo hi:Option Int):List V:=(xs.drop (HT.sIx xs.length 0 lo)).take (HT.sIx xs.length xs.length hi - HT.sIx xs.length 0 lo)
theorem qeS (xs:List V) (lo hi:Option Int):(qlD xs lo hi).length<=xs.length:=by
 unfold qlD
 rw[List.length_take,List.length_drop]
 omega
def quz (K:PySem.W.Frag):V->Option Int->Option Int->Hp->VK->Prop:=λx lo hi H Q=> ∃a xs,x= .ref a/\SqT K H a xs/\
 ¬(HT.sIx xs.length 0 lo=0/\HT.sIx xs.length xs.length hi=xs.length)/\∀p,H p=none->Q (.ref p) (upd H p (.tup (qlD xs lo hi)))
theorem qpR:SlR X (quz X.K):=by
 intro pins s σ H x v vl vu lo hi sl Q I rx hs pl pu h
 obtain ⟨a,xs,rfl,hx,hw,q⟩:=h
 cases rx
 obtain ⟨its,r,ht,hz⟩:=I.tuple hx
 have hlen:its.toArray.size=xs.length:=by rw[List.size_toArray]; exact r.length.symm
 refine ⟨"tuple",_,PyProof.Rows.slot_tuple_getitem.lookup,ht.typeIs,?_⟩
 refine HT.getItem_tuple_cut ht hs pl pu (by rw[hlen]; exact hw) ?_ (by rw[hlen]; exact hz)
 rw[hlen]
 refine ⟨.ref s.heap.objs.size,_,I.laid (t':=s.toks) (o:=.tup (qlD xs lo hi)) (λb ob q=>Heap.get?_push_of_some _ q) (Nat.le_refl _) ?_,rfl,q _ (I.hok.fresh (Nat.le_refl _))⟩
 exact ⟨Nat.le_trans (qeS xs lo hi) hz,_,(r.drop (HT.sIx xs.length 0 lo)).take (HT.sIx xs.length xs.length hi - HT.sIx xs.length 0 lo),IsTup.new _ _⟩
def qp6 (K:PySem.W.Frag):R2:=λx y H Q=> ∃a b xs ys,x= .ref a/\y= .ref b/\SqT K H a xs/\SqT K H b ys/\xs≠[]/\xs.length+ys.length<=sizeLine/\
 (ys=[]->Q (.ref a) H)/\(ys≠[]->∀p,H p=none->Q (.ref p) (upd H p (.tup (xs++ys))))
theorem Vals.nil_iff {xs:List V} {us:List Value} (r:Vals xs us):us=[]↔xs=[]:=by
 cases r with
 | nil=>simp
 | cons _ _=>simp
theorem qoB:OpR X (binaryOp .Add) (qp6 X.K):=by
 intro pins s σ H x y v u Q I rx ry h
 obtain ⟨a,b,xs,ys,rfl,rfl,ha,hb,hx,hz,q1,q2⟩:=h
 cases rx
 cases ry
 obtain ⟨its,r1,p1,_⟩:=I.tuple ha
 obtain ⟨its2,r2,p2,_⟩:=I.tuple hb
 refine HT.cat_tup p1 p2 (λz=>hx (r1.nil_iff.mp z)) (λz=>⟨.ref a,H,I,rfl,q1 (r2.nil_iff.mp z)⟩) (λz=> ?_) (by rw[<-r1.length,<-r2.length]; exact hz)
 refine ⟨.ref s.heap.objs.size,_,I.laid (t':=s.toks) (o:=.tup (xs++ys)) (λb ob q=>Heap.get?_push_of_some _ q) (Nat.le_refl _) ?_,rfl,q2 (λw=>z (r2.nil_iff.mpr w)) _ (I.hok.fresh (Nat.le_refl _))⟩
 exact ⟨by rw[List.length_append]; exact hz,_,r1.append r2,IsTup.new _ _⟩
end
end L2
namespace L2
open PySem PySem.Spec PyProof.Rows
def ixN (n:Nat) (i:Int):Option Nat:=if 0<=i then (if i<n then some i.toNat else none) else if -(n:Int)<=i then some (i+n).toNat else none
def atI {α:Type} (xs:List α) (i:Int):Option α:=(ixN xs.length i).bind λj=>xs[j]?
theorem qkX {n:Nat} {i:Int} {j:Nat} (h:ixN n i=some j):seqIndex? i n=some j/\j<n/\ -(n:Int)<=i/\i<n:=by
 unfold ixN at h
 by_cases h0:0<=i
 ·rw[if_pos h0] at h
  by_cases h1:i<n
  ·rw[if_pos h1] at h
   have e:i.toNat=j:=Option.some.inj h
   exact ⟨by rw[seqIndex_of h0 h1,e],by omega,by omega,h1⟩
  ·rw[if_neg h1] at h; cases h
 ·rw[if_neg h0] at h
  by_cases h1: -(n:Int)<=i
  ·rw[if_pos h1] at h
   have e:(i+n).toNat=j:=Option.some.inj h
   exact ⟨by rw[seqIndex_neg (by omega) h1,e],by omega,h1,by omega⟩
  ·rw[if_neg h1] at h; cases h
theorem qhB {α:Type} {xs:List α} {i:Int} {v:α} (h:atI xs i=some v): ∃j,seqIndex? i xs.length=some j/\xs[j]? =some v/\j<xs.length/\ -(xs.length:Int)<=i/\i<xs.length:=by
 unfold atI at h
 cases e:ixN xs.length i with
 | none=>rw[e] at h; cases h
 | some j=>
  rw[e] at h
  obtain ⟨h1,h2,h3,h4⟩:=qkX e
  exact ⟨j,h1,h,h2,h3,h4⟩
theorem qlO {α:Type} {xs:List α} {j:Nat} {v:α} (h:xs[j]? =some v):atI xs (j:Int)=some v:=by
 have hj:j<xs.length:=(List.getElem?_eq_some_iff.mp h).1
 have e:ixN xs.length (j:Int)=some j:=by
  unfold ixN
  rw[if_pos (by omega),if_pos (by omega)]; simp
 unfold atI; rw[e]; exact h
def qhD (b:Expr):Prop:= ∀o i,subscripted b false o i=operate [o,i] (getItem o i)
def IxR (X:Cx) (r:R2):Prop:=
 ∀(value slice:Expr) (pins:List (Addr×Obj)) (s:Shared) (σ:St) (H:Hp) (x y:V) (v u:Value) (Q:VK),Inv X pins σ H s->RelV x v->RelV y u->r x y H Q->
  subscripted slice false v u=operate [v,u] (getItem v u)->wpAny (model X.prog X.w) X.A (subscriptTail value slice v u) (EP X pins σ Q) X.xe s
def MtR (X:Cx) (id:String) (r:V->List V->Hp->VK->Prop):Prop:=
 ∀(pins:List (Addr×Obj)) (s:Shared) (σ:St) (H:Hp) (x:V) (xs:List V) (v:Value) (us:List Value) (Q:VK),Inv X pins σ H s->RelV x v->Vals xs us->r x xs H Q->
  wpAny (model X.prog X.w) X.A (call (.builtin id) (v::us)) (EP X pins σ Q) X.xe s
section
variable {X:Cx} {a b:Expr} {ta tb:TE} {pos:Pos}
theorem IxR.or {r r':R2} (h:IxR X r) (h':IxR X r'):IxR X (λx y H Q=>r x y H Q\/r' x y H Q):=by
 intro value slice pins s σ H x y v u Q I rx ry q hs
 rcases q with q | q
 ·exact h value slice pins s σ H x y v u Q I rx ry q hs
 ·exact h' value slice pins s σ H x y v u Q I rx ry q hs
theorem qmw {r:R2} (hr:IxR X r) (ha:PE X a ta) (hb:PE X b tb) (hs:qhD b):PE X (.Subscript a b pos) (tOp r ta tb):=by
 intro pins s σ H Q I h
 exact Subscript_ (qtr ha hb I h λv u s2 x y H2 I2 rx ry q=>hr a b pins s2 σ H2 x y v u Q I2 rx ry q (hs _ _))
def qss (K:PySem.W.Frag):R2:=λx y H Q=> ∃p xs i v,x= .ref p/\y= .int i/\SqL K H p xs/\atI xs i=some v/\Q v H
def qtD (K:PySem.W.Frag):R2:=λx y H Q=> ∃p xs i v,x= .ref p/\y= .int i/\SqT K H p xs/\atI xs i=some v/\Q v H
def qtE:R2:=λx y H Q=> ∃z i c,x= .str z/\y= .int i/\z.length<=sizeLine/\atI z.cps.toList i=some c/\Q (.str ⟨#[c]⟩) H
theorem qkW:IxR X (qss X.K):=by
 intro value slice pins s σ H x y v u Q I rx ry h hs
 obtain ⟨p,xs,i,z,rfl,rfl,hq,he,q⟩:=h
 cases rx
 obtain ⟨t,rfl⟩:=ry
 obtain ⟨its,r,pl,hz⟩:=I.list hq
 obtain ⟨j,h1,h2,h3,h4,h5⟩:=qhB he
 obtain ⟨w,ew,rw'⟩:=r.get h2
 have hl:=r.length
 have hn:=qdv
 have fin:EP X pins σ Q w s:=⟨z,H,I,rw',q⟩
 by_cases h0:0<=i
 ·have hj:i.toNat=j:=by
   rw[seqIndex_of h0 h5] at h1
   exact Option.some.inj h1
  exact item_listR pl.isList h0 (by omega) (by rw[hj]; simpa using ew) fin hs
 ·have hj:(i+(its.toArray.size:Int)).toNat=j:=by
   rw[seqIndex_neg (by omega) h4] at h1
   rw[List.size_toArray,<-hl]
   exact Option.some.inj h1
  exact subscriptTail_builtinR (x:=w) pl.isList.typeIs slot_list_getitem.lookup
   (wpAny_getItem_list_neg (Q:=λr s'=>r=w/\EP X pins σ Q r s') pl.isList (by omega) (by rw[List.size_toArray]<;>omega) (by omega) (by rw[hj]; simpa using ew) ⟨rfl,fin⟩) hs
theorem qqJ:IxR X (qtD X.K):=by
 intro value slice pins s σ H x y v u Q I rx ry h hs
 obtain ⟨p,xs,i,z,rfl,rfl,hq,he,q⟩:=h
 cases rx
 obtain ⟨t,rfl⟩:=ry
 obtain ⟨its,r,pl,hz⟩:=I.tuple hq
 obtain ⟨j,h1,h2,h3,h4,h5⟩:=qhB he
 obtain ⟨w,ew,rw'⟩:=r.get h2
 have hl:=r.length
 have hn:=qdv
 have fin:EP X pins σ Q w s:=⟨z,H,I,rw',q⟩
 exact subscriptTail_builtinR (x:=w) pl.typeIs slot_tuple_getitem.lookup
  (getItem_tuple (j:=j) (Q:=λr s'=>r=w/\EP X pins σ Q r s') pl (by omega) (by omega) (by rw[List.size_toArray,<-hl]; exact h1) (by simpa using ew) ⟨rfl,fin⟩) hs
theorem qqK:IxR X qtE:=by
 intro value slice pins s σ H x y v u Q I rx ry h hs
 obtain ⟨z,i,c,rfl,rfl,hz,he,q⟩:=h
 obtain ⟨t,rfl⟩:=rx
 obtain ⟨t',rfl⟩:=ry
 obtain ⟨j,h1,h2,h3,h4,h5⟩:=qhB he
 have hl:z.cps.toList.length=z.length:=by simp[Str.length]
 rw[hl] at h1 h4 h5
 have hn:=qdv
 exact tail_any (typeIs_str s z t) slot_str_getitem.lookup (getItem_str (c:=c) (by
  have e1:decide (i< -(2 ^ 63:Int))=false:=decide_eq_false (by omega)
  have e2:decide (i≥2 ^ 63)=false:=decide_eq_false (by omega)
  rw[e1,e2,Bool.or_false]) (by rw[h1]; simpa using h2) ⟨.str ⟨#[c]⟩,H,I.tok _,⟨_,rfl⟩,q⟩) hs
def rIx (K:PySem.W.Frag):R2:=λx y H Q=>qss K x y H Q\/qtD K x y H Q\/qtE x y H Q
theorem qaw:IxR X (rIx X.K):=qkW.or (qqJ.or qqK)
theorem qjb (its:List Value) (n j:Nat) (u:Value):Obj.mapSeq (·.setIfInBounds j u) { cls:=.type "list",data:=.seq its.toArray n }={ cls:=.type "list",data:=.seq (its.set j u).toArray n }:=by
 simp[Obj.mapSeq]
theorem Inv.lst {pins:List (Addr×Obj)} {σ:St} {H:Hp} {s:Shared} {p:Addr} {xs:List V} (I:Inv X pins σ H s) (h:H p=some (.lst xs)):
  ∃(its:List Value) (n:Nat),Vals xs its/\s.heap.get? p=some { cls:=.type "list",data:=.seq its.toArray n }/\xs.length<=sizeLine:=by
 obtain ⟨z,its,n,r,e⟩:=I.hok p _ h
 exact ⟨its,n,r,e,z⟩
theorem Inv.lstUpd {pins:List (Addr×Obj)} {σ:St} {H:Hp} {s:Shared} {p:Addr} {xs ys:List V} {its its':List Value} {n n':Nat} {f:Obj->Obj} (I:Inv X pins σ H s) (h:H p=some (.lst xs))
  (ho:s.heap.get? p=some { cls:=.type "list",data:=.seq its.toArray n }) (hf:f { cls:=.type "list",data:=.seq its.toArray n }={ cls:=.type "list",data:=.seq its'.toArray n' }) (r:Vals ys its') (hz:ys.length<=sizeLine) (t:Nat):
  Inv X pins σ (upd H p (.lst ys)) { s with heap:=s.heap.update p f,toks:=t }:=by
 have e:(s.heap.update p f).get? p=some { cls:=.type "list",data:=.seq its'.toArray n' }:=by
  rw[Heap.get?_update_self f ho (by rw[hf]<;>rfl),hf]
 refine I.write (x:=p) (e:=p) (by rw[h]; trivial) (.inl rfl) (λb u hb q=>(Heap.get?_update_other _ _ (Ne.symm hb)).trans q) ⟨_,e⟩ ?_
 exact ⟨hz,its',n',r,e⟩
def qp5:V->V->V->Hp->(Hp->Prop)->Prop:=λo i v H Q=> ∃p xs k j,o= .ref p/\i= .int k/\H p=some (.lst xs)/\ixN xs.length k=some j/\Q (upd H p (.lst (xs.set j v)))
theorem qma:qtW X qp5:=by
 intro pins s σ H o i v ov iv u Q I ro ri rv h
 obtain ⟨p,xs,k,j,rfl,rfl,hp,hj,q⟩:=h
 cases ro
 obtain ⟨t,rfl⟩:=ri
 obtain ⟨its,n,r,ho,hz⟩:=I.lst hp
 obtain ⟨h1,h2,h3,h4⟩:=qkX hj
 have hl:=r.length
 have hn:=qdv
 have I':Inv X pins σ (upd H p (.lst (xs.set j v))) { s with heap:=s.heap.update p (Obj.mapSeq (·.setIfInBounds j u)) }:=
  I.lstUpd hp ho (qjb its n j u) (r.set rv j) (by rw[List.length_set]; exact hz) s.toks
 by_cases h0:0<=k
 ·have hk:k.toNat=j:=by
   rw[seqIndex_of h0 h4] at h1
   exact Option.some.inj h1
  exact PySem.W.ki_setAt ho h0 (by omega) (by rw[List.size_toArray,<-hl]; exact h4) (by rw[hk]; exact ⟨_,I',q⟩)
 ·have hk:(k+(its.toArray.size:Int)).toNat=j:=by
   rw[seqIndex_neg (by omega) h3] at h1
   rw[List.size_toArray,<-hl]
   exact Option.some.inj h1
  exact PySem.W.ki_setBack ho (by omega) (by rw[List.size_toArray,<-hl]; exact h3) (by omega) (by rw[hk]; exact ⟨_,I',q⟩)
theorem qf7 (lo hi:Option Int) (n:Nat):(sliceBounds lo hi none n).1=((HT.sIx n 0 lo:Nat):Int)/\(sliceBounds lo hi none n).2.1=((HT.sIx n n hi:Nat):Int)/\(sliceBounds lo hi none n).2.2=1:=by
 refine ⟨?_,?_,rfl⟩
 ·cases lo with
  | none=>simp[sliceBounds,HT.sIx]
  | some i=>
   simp only[sliceBounds,HT.sIx,Option.getD_none,show (1:Int)>0 by decide,if_true]
   by_cases h:i<0
   ·simp only[h,if_true]<;>omega
   ·simp only[h,if_false]<;>omega
 ·cases hi with
  | none=>simp[sliceBounds,HT.sIx]
  | some i=>
   simp only[sliceBounds,HT.sIx,Option.getD_none,show (1:Int)>0 by decide,if_true]
   by_cases h:i<0
   ·simp only[h,if_true]<;>omega
   ·simp only[h,if_false]<;>omega
theorem qfz (its:List Value) (lo hi:Option Int):slicePick its.toArray lo hi none=((its.drop (HT.sIx its.length 0 lo)).take (HT.sIx its.length its.length hi - HT.sIx its.length 0 lo)).toArray:=by
 obtain ⟨h1,h2,h3⟩:=qf7 lo hi its.toArray.size
 unfold slicePick
 rw[h1,h2,h3]
 simp only[sliceRange_one,pick_run,List.size_toArray]<;>rfl
def quA (K:PySem.W.Frag):V->Option Int->Option Int->Hp->VK->Prop:=λx lo hi H Q=> ∃a xs,x= .ref a/\SqL K H a xs/\∀p,H p=none->Q (.ref p) (upd H p (.lst (qlD xs lo hi)))
theorem qoj:SlR X (quA X.K):=by
 intro pins s σ H x v vl vu lo hi sl Q I rx hs pl pu h
 obtain ⟨a,xs,rfl,hx,q⟩:=h
 cases rx
 obtain ⟨its,r,ht,hz⟩:=I.list hx
 have hlen:=r.length
 refine ⟨"list",_,slot_list_getitem.lookup,ht.isList.typeIs,?_⟩
 refine wpAny_getItem_list_slice ht.isList hs pl pu .none (by simp) ?_ (by rw[List.size_toArray]<;>omega)
 rw[qfz,<-hlen]
 refine ⟨.ref s.heap.objs.size,_,I.laid (t':=s.toks) (o:=.lst (qlD xs lo hi)) (λb ob q=>Heap.get?_push_of_some _ q) (Nat.le_refl _) ?_,rfl,q _ (I.hok.fresh (Nat.le_refl _))⟩
 exact ⟨Nat.le_trans (qeS xs lo hi) hz,_,0,(r.drop (HT.sIx xs.length 0 lo)).take (HT.sIx xs.length xs.length hi - HT.sIx xs.length 0 lo),Heap.get?_push_size _ rfl⟩
def qhq:V->Bool
 | .non=>true
 | .bl _=>true
 | .int _=>true
 | .str _=>true
 | _=>false
def eqV:V->V->Bool
 | .non,.non=>true
 | .bl a,.bl b=>a==b
 | .bl a,.int b=>(if a then 1 else 0)==b
 | .int a,.bl b=>a==(if b then 1 else 0)
 | .int a,.int b=>a==b
 | .str a,.str b=>a==b
 | _,_=>false
theorem qnP {A:Around} {s:Shared} {y x:V} {u v:Value} (ry:RelV y u) (rx:RelV x v) (fy:qhq y=true) (fx:qhq x=true):SeqAt.EqAt A s u v (eqV y x):=by
 cases y with
 | non=>
  cases ry
  cases x with
  | non=>cases rx; exact SeqAt.EqAt.same _
  | bl b=>cases rx; exact SeqAt.EqAt.none_bool b
  | int b=>obtain ⟨t,rfl⟩:=rx; exact SeqAt.EqAt.none_int b t
  | str b=>obtain ⟨t,rfl⟩:=rx; exact SeqAt.EqAt.none_str b t
  | _=>exact absurd (show false=true from fx) Bool.false_ne_true
 | bl a=>
  cases ry
  cases x with
  | non=>cases rx; exact SeqAt.EqAt.bool_none a
  | bl b=>cases rx; exact SeqAt.EqAt.bool_bool a b
  | int b=>obtain ⟨t,rfl⟩:=rx; exact SeqAt.EqAt.bool_int a b t
  | str b=>obtain ⟨t,rfl⟩:=rx; exact SeqAt.EqAt.bool_str a b t
  | _=>exact absurd (show false=true from fx) Bool.false_ne_true
 | int a=>
  obtain ⟨t',rfl⟩:=ry
  cases x with
  | non=>cases rx; exact SeqAt.EqAt.int_none a t'
  | bl b=>cases rx; exact SeqAt.EqAt.int_bool a t' b
  | int b=>obtain ⟨t,rfl⟩:=rx; exact SeqAt.EqAt.int_int a t' b t
  | str b=>obtain ⟨t,rfl⟩:=rx; exact SeqAt.EqAt.int_str a t' b t
  | _=>exact absurd (show false=true from fx) Bool.false_ne_true
 | str a=>
  obtain ⟨t',rfl⟩:=ry
  cases x with
  | non=>cases rx; exact SeqAt.EqAt.str_none a t'
  | bl b=>cases rx; exact SeqAt.EqAt.str_bool a t' b
  | int b=>obtain ⟨t,rfl⟩:=rx; exact SeqAt.EqAt.str_int a t' b t
  | str b=>obtain ⟨t,rfl⟩:=rx; exact SeqAt.EqAt.str_str a t' b t
  | _=>exact absurd (show false=true from fx) Bool.false_ne_true
 | _=>exact absurd (show false=true from fy) Bool.false_ne_true
theorem qcI:qdf X (.builtin "len") (λxs H Q=> ∃p ys,xs=[.ref p]/\(SqL X.K H p ys\/SqT X.K H p ys)/\Q (.int ys.length) H):=by
 intro pins s σ H xs us Q I r h
 obtain ⟨p,ys,rfl,hq,q⟩:=h
 obtain ⟨u,rfl,rx⟩:=qeW r
 cases rx
 have hn:=qdv
 rcases hq with hq | hq
 ·obtain ⟨its,r',pl,hz⟩:=I.list hq
  have hlen:=r'.length
  exact Calls.call_len_list pl.isList (by simp only[List.size_toArray]<;>omega) ⟨.int ys.length,H,I.tok _,⟨s.toks+1,by rw[List.size_toArray,hlen]⟩,q⟩
 ·obtain ⟨its,r',pl,hz⟩:=I.tuple hq
  have hlen:=r'.length
  exact len_tuple pl (by simp only[List.size_toArray]<;>omega) ⟨.int ys.length,H,I.tok _,⟨s.toks+1,by rw[List.size_toArray,hlen]⟩,q⟩
theorem qgO:qdf X (.builtin "len") (λxs H Q=> ∃z,xs=[.str z]/\z.length<=sizeLine/\Q (.int z.length) H):=by
 intro pins s σ H xs us Q I r h
 obtain ⟨z,rfl,hz,q⟩:=h
 obtain ⟨u,rfl,t,rfl⟩:=qeW r
 have hn:=qdv
 exact len_str (by omega) ⟨.int z.length,H,I.tok _,⟨_,rfl⟩,q⟩
theorem qgN:qdf X (.type "list") (λxs H Q=> ∃p ys,xs=[.ref p]/\(SqL X.K H p ys\/SqT X.K H p ys)/\∀l,H l=none->Q (.ref l) (upd H l (.lst ys))):=by
 intro pins s σ H xs us Q I r h
 obtain ⟨p,ys,rfl,hq,q⟩:=h
 obtain ⟨u,rfl,rx⟩:=qeW r
 cases rx
 have fin: ∀(its:List Value),Vals ys its->ys.length<=sizeLine->∀(h':Heap) (c':Nat),(∀b o',s.heap.get? b=some o'->h'.get? b=some o')->
   h'.get? s.heap.objs.size=some { cls:=.type "list",dict:=none,data:=.seq its.toArray c',slots:= #[] }->EP X pins σ Q (.ref s.heap.objs.size) { s with heap:=h' }:=λits r' hz h' c' kp e=>
  ⟨.ref s.heap.objs.size,_,I.laid (t':=s.toks) kp (Nat.le_refl _) (show qbe X.prog X.w _ h' _ (.lst ys) from ⟨hz,its,c',r',e⟩),rfl,q _ (I.hok.fresh (Nat.le_refl _))⟩
 rcases hq with hq | hq
 ·obtain ⟨its,r',pl,hz⟩:=I.list hq
  have hlen:=r'.length
  obtain ⟨o,ho,hc,n,hd⟩:=pl.isList
  exact call_list_seq p (.inl rfl) ho hc hd (λh' c' kp e=>fin its r' hz h' c' kp e) (by simp only[List.size_toArray]<;>omega)
 ·obtain ⟨its,r',pl,hz⟩:=I.tuple hq
  have hlen:=r'.length
  obtain ⟨o,ho,hc,n,hd⟩:=pl
  exact call_list_seq p (.inr rfl) ho hc hd (λh' c' kp e=>fin its r' hz h' c' kp e) (by simp only[List.size_toArray]<;>omega)
theorem qfV:qdf X (.type "tuple") (λxs H Q=> ∃p ys,xs=[.ref p]/\((SqL X.K H p ys/\∀l,H l=none->Q (.ref l) (upd H l (.tup ys)))\/(SqT X.K H p ys/\Q (.ref p) H))):=by
 intro pins s σ H xs us Q I r h
 obtain ⟨p,ys,rfl,h⟩:=h
 obtain ⟨u,rfl,rx⟩:=qeW r
 cases rx
 rcases h with ⟨hq,q⟩ | ⟨hq,q⟩
 ·obtain ⟨its,r',pl,hz⟩:=I.list hq
  have hlen:=r'.length
  refine call_tuple_list pl.isList (λh' kp=> ?_) (by simp only[List.size_toArray]<;>omega)
  have I1:Inv X pins σ H { s with heap:=h' }:=I.kept (t':=s.toks) kp
  have I2:Inv X pins σ (upd H h'.objs.size (.tup ys)) { s with heap:=h'.push { cls:=.type "tuple",data:=.seq its.toArray } }:=
   I1.laid (t':=s.toks) (λb o e=>Heap.get?_push_of_some _ e) (Nat.le_refl _) (show qbe X.prog X.w _ _ _ (.tup ys) from ⟨hz,its,r',IsTup.new _ _⟩)
  exact ⟨.ref h'.objs.size,_,I2,rfl,q _ (I1.hok.fresh (Nat.le_refl _))⟩
 ·obtain ⟨its,r',pl,hz⟩:=I.tuple hq
  exact call_tuple_same pl ⟨.ref p,H,I,rfl,q⟩
def tyV (K:PySem.W.Frag) (T:String) (x:V) (H:Hp):Prop:=match x with
 | .str _=>T= "str"
 | .int _=>T= "int"
 | .ref p=>(T= "list" /\∃xs,SqL K H p xs)\/(T= "tuple" /\∃o,K.lookup p=some o/\o.cls= .type "tuple" /\o.dict=none)\/
   (T= "dict" /\((∃kvs,H p=some (.dK kvs))\/∃kvs,H p=some (.dT kvs)))\/(T= "set" /\∃S n,H p=some (.set S n))
 | _=>False
theorem qpE {pins:List (Addr×Obj)} {σ:St} {H:Hp} {s:Shared} {T:String} {x:V} {v:Value} (I:Inv X pins σ H s) (r:RelV x v) (ty:tyV X.K T x H):
  s.TypeIs v T/\∀a,v= .ref a->∃ob,s.heap.get? a=some ob/\ob.dict=none:=by
 cases x with
 | str z=>
  obtain ⟨t,rfl⟩:=r
  cases (show T= "str" from ty)
  exact ⟨typeIs_str s z t,λ_ e=>nomatch e⟩
 | int i=>
  obtain ⟨t,rfl⟩:=r
  cases (show T= "int" from ty)
  exact ⟨typeIs_int s i t,λ_ e=>nomatch e⟩
 | ref p=>
  cases r
  rcases ty with ⟨rfl,xs,hq⟩ | ⟨rfl,o,hk,hc,hd⟩ | ⟨rfl,hk⟩ | ⟨rfl,S,n,hk⟩
  ·obtain ⟨its,_,pl,_⟩:=I.list hq
   refine ⟨pl.isList.typeIs,λa e=> ?_⟩
   cases e
   obtain ⟨o,n,e,c,hd,_⟩:=pl
   exact ⟨o,e,hd⟩
  ·refine ⟨⟨o,I.kIn p o hk,hc⟩,λa e=> ?_⟩
   cases e
   exact ⟨o,I.kIn _ o hk,hd⟩
  ·have z: ∃o,s.heap.get? p=some o/\o.ExactDict:=by
    rcases hk with ⟨kvs,hk⟩ | ⟨kvs,hk⟩
    ·obtain ⟨_,_,_,_,o,_,_,e,ex,_⟩:=I.hok p _ hk
     exact ⟨o,e,ex⟩
    ·obtain ⟨_,_,_,_,o,_,_,e,ex,_⟩:=I.hok p _ hk
     exact ⟨o,e,ex⟩
   obtain ⟨o,e,ex⟩:=z
   refine ⟨⟨o,e,ex.1⟩,λa e2=> ?_⟩
   cases e2
   exact ⟨o,e,ex.2.1⟩
  ·obtain ⟨o,_,_,_,e,ex,_⟩:=I.hok p _ hk
   refine ⟨⟨o,e,ex.1⟩,λa e2=> ?_⟩
   cases e2
   exact ⟨o,e,ex.2.1⟩
 | _=>exact False.elim ty
def tBM (K:PySem.W.Frag) (T:String) (r:V->List V->Hp->VK->Prop) (to:TE) (t:TA):TE:=λσ H Q=>to σ H λx H1=>tyV K T x H1/\t σ H1 λxs H2=>r x xs H2 Q
variable {o e:Expr} {es:List Expr} {to:TE} {t:TA} {name:Str} {apos cpos:Pos} {T id:String} {r:V->List V->Hp->VK->Prop}
theorem qmE (pa:PlainAttrs T) (slot:Slot T name id) (hty:typeOf (.builtin id)=pure (.type "method_descriptor")) (hm:MtR X id r) (ho:PE X o to) (ha:PA X (e::es) t)
  (hbase:attributeBase o name X.env (eval o X.env)=eval o X.env:=by rfl)
  (hfew:((backTo cpos (starEach (e::es) X.env)).all (λx=> !x.1)&&(backToKw cpos (keywordEach [] X.env)).all (λx=>x.1.isSome)
   &&decide ((e::es).length+([]:List Keyword).length+(if ([]:List Keyword).isEmpty then 0 else 1)<30))=true:=by rfl)
  (hline:(apos.endLine==cpos.line)=true:=by rfl) (hs:starEach (e::es) X.env=(false,eval e X.env)::starEach es X.env:=by rfl) (hplain:(backTo cpos (starEach es X.env)).any (·.1)=false:=by rfl):
  PE X (.Call (.Attribute o name apos) (e::es) [] cpos) (tBM X.K T r to t):=by
 intro pins s σ H Q I h
 refine wpAny_Call_method_late hbase hfew hline rfl (thn (ho pins s σ H _ I h) λv s1 ⟨x,H1,I1,r1,ty,q1⟩=> ?_)
 obtain ⟨h1,h2⟩:=qpE I1 r1 ty
 refine ⟨T,id,pa,slot,hty,h1,h2,?_⟩
 have hA:=ha cpos pins s1 σ H1 _ I1 q1
 rw[hs] at hA⊢
 refine Calls.callWith_builtin (by show (false||(backTo cpos (starEach es X.env)).any (·.1))=false; rw[hplain]<;>rfl) (Calls.evalArgs_plain ?_)
 exact thn hA λus s2 ⟨vs,H2,I2,r2,q2⟩=>hm pins s2 σ H2 x vs v us Q I2 r1 r2 q2
end
end L2
namespace L2
open PySem PySem.Spec PyProof.Rows
def MtM (X:Cx) (id:String) (r:V->List V->Hp->VK->Prop):Prop:=
 ∀(pins:List (Addr×Obj)) (s:Shared) (σ:St) (H:Hp) (x:V) (xs:List V) (v:Value) (us:List Value) (Q:VK),Inv X pins σ H s->RelV x v->Vals xs us->r x xs H Q->
  wpAny (model X.prog X.w) X.A (call (.builtin id) (v::us)) (EP X pins σ Q) X.xe s
theorem Vals.one: ∀{x:V} {us:List Value},Vals [x] us->∃u,us=[u]/\RelV x u
 | _,_,.cons r .nil=>⟨_,rfl,r⟩
section
variable {X:Cx} {pins:List (Addr×Obj)} {σ:St} {H:Hp} {s:Shared} {l b:Addr} {xs ys zs:List V}
theorem Inv.lset {its its':List Value} {n:Nat} {f:Array Value->Array Value} {t':Nat} (I:Inv X pins σ H s) (hH:H l=some (.lst xs))
  (e:s.heap.get? l=some { cls:=.type "list",data:=.seq its.toArray n }) (hf:f its.toArray=its'.toArray) (hv:Vals ys its') (hz:ys.length<=sizeLine):
  Inv X pins σ (upd H l (.lst ys)) { s with heap:=s.heap.update l (Obj.mapSeq f),toks:=t' }:=by
 have q:=PySem.IsL.update e f
 rw[hf] at q
 refine I.write (x:=l) (e:=l) (by rw[hH]; exact trivial) (.inl rfl) (λb' u hb hu=>(Heap.get?_update_other s.heap (Obj.mapSeq f) (Ne.symm hb)).trans hu) ⟨_,q⟩ ?_
 exact ⟨hz,its',_,hv,q⟩
theorem Inv.lnew {its:List Value} {t':Nat} (I:Inv X pins σ H s) (hv:Vals ys its) (hz:ys.length<=sizeLine):
  Inv X pins σ (upd H s.heap.objs.size (.lst ys)) { s with heap:=s.heap.push { cls:=.type "list",data:=.seq its.toArray },toks:=t' }:=
 I.laid (λ_ _ q=>Heap.get?_push_of_some _ q) (Nat.le_refl _) ⟨hz,its,0,hv,Heap.get?_push_size _ rfl⟩
theorem Inv.fresh (I:Inv X pins σ H s):H s.heap.objs.size=none:=I.hok.fresh (Nat.le_refl _)
theorem Inv.lstM (I:Inv X pins σ H s) (hH:H l=some (.lst xs)):xs.length<=sizeLine/\∃(its:List Value) (n:Nat),Vals xs its/\xs.length=its.length/\s.heap.get? l=some { cls:=.type "list",data:=.seq its.toArray n }:=by
 obtain ⟨z,its,n,r,e⟩:=I.hok l _ hH
 exact ⟨z,its,n,r,r.length,e⟩
theorem qmI {n:Nat} (h:n<=sizeLine):Builtin.List.listTooLong n=false:=by
 unfold Builtin.List.listTooLong
 exact decide_eq_false (by omega)
end
section
variable {X:Cx}
def qkl:V->List V->Hp->VK->Prop:=λx vs H Q=> ∃l xs y,x= .ref l/\vs=[y]/\H l=some (.lst xs)/\xs.length<sizeLine/\Q .non (upd H l (.lst (xs++[y])))
theorem qdu:MtM X "list.append" qkl:=by
 intro pins s σ H x vs v us Q I rx rv h
 obtain ⟨l,xs,y,rfl,rfl,hH,hz,q⟩:=h
 cases rx
 obtain ⟨u,rfl,ru⟩:=rv.one
 obtain ⟨z,its,n,r,hl,e⟩:=I.lstM hH
 refine call_meets F.slot_list_append ⟨_,e,rfl⟩ F.entry_list_append (F.args_list_append_2 _ _) (PySem.list_append l its.toArray n u (by rw[List.size_toArray]; omega)) ⟨e,?_⟩
 refine ⟨.non,_,I.lset (its':=its++[u]) hH e (by simp) (r.append (.cons ru .nil)) ?_,rfl,q⟩
 rw[List.length_append,List.length_singleton]
 omega
def qkk:V->List V->Hp->VK->Prop:=λx vs H Q=> ∃l b xs zs,x= .ref l/\vs=[.ref b]/\H l=some (.lst xs)/\H b=some (.lst zs)/\xs.length+zs.length<=sizeLine/\Q .non (upd H l (.lst (xs++zs)))
theorem qkC:MtM X "list.extend" qkk:=by
 intro pins s σ H x vs v us Q I rx rv h
 obtain ⟨l,b,xs,zs,rfl,rfl,hH,hB,hz,q⟩:=h
 cases rx
 obtain ⟨u,rfl,ru⟩:=rv.one
 cases ru
 obtain ⟨z,its,n,r,hl,e⟩:=I.lstM hH
 obtain ⟨z2,its2,n2,r2,hl2,e2⟩:=I.lstM hB
 have hsz:its.toArray.size+its2.toArray.size<=sizeLine:=by rw[List.size_toArray,List.size_toArray]; omega
 have hlong: ¬(!its.toArray.isEmpty&&Builtin.List.listTooLong (its.toArray.size+its2.toArray.size))=true:=by
  rw[qmI hsz,Bool.and_false]
  exact Bool.false_ne_true
 refine call_meets F.slot_list_extend ⟨_,e,rfl⟩ F.entry_list_extend (F.args_list_extend_2 _ _)
  (AutoSeq1.list_extend_list_list_0 l its.toArray n b its2.toArray n2 hlong (by rw[List.size_toArray]; omega) (by omega)) ⟨e,e2,?_⟩
 refine ⟨.non,_,I.lset (its':=its++its2) hH e (by simp) (r.append r2) ?_,rfl,q⟩
 rw[List.length_append]
 omega
def qtG:R2:=λx y H Q=> ∃l b xs zs,x= .ref l/\y= .ref b/\H l=some (.lst xs)/\H b=some (.lst zs)/\xs.length+zs.length<=sizeLine/\∀p,H p=none->Q (.ref p) (upd H p (.lst (xs++zs)))
theorem qqu:OpR X (binaryOp .Add) qtG:=by
 intro pins s σ H x y v u Q I rx ry h
 obtain ⟨l,b,xs,zs,rfl,rfl,hH,hB,hz,q⟩:=h
 cases rx
 cases ry
 obtain ⟨z,its,n,r,hl,e⟩:=I.lstM hH
 obtain ⟨z2,its2,n2,r2,hl2,e2⟩:=I.lstM hB
 refine PySem.P.add_list e e2 ?_ (by rw[List.size_toArray,List.size_toArray]; omega)
 have ea:its.toArray++its2.toArray=(its++its2).toArray:=by simp
 rw[ea]
 exact ⟨.ref _,_,I.lnew (t':=s.toks) (r.append r2) (by rw[List.length_append]; omega),rfl,q _ I.fresh⟩
end
end L2
namespace Att
open PySem PySem.W PySem.Calls PyProof.Rows
theorem qeD {P:Params} {h:Heap}: ∀(ns:List Int) (vs:List Value),WellAll P h vs (ns.map WData.int)->IntsAre vs ns:=by
 intro ns
 induction ns with
 | nil=>
  intro vs w
  rw[List.map_nil] at w
  cases w
  exact .nil
 | cons n ns ih=>
  intro vs w
  rw[List.map_cons] at w
  cases w with
  | cons a b=>
   cases a
   exact .cons _ _ (ih _ b)
theorem qka {l:OpenLaw} {n:Nat} (hn:l.most=some n) {P:Params} {h:Heap} {args:List WData} {vals:List Value}
  (hpre:l.row.toRowW.claim.pre args=true) (hwl:WellAll P h vals args):
  ∃a vs ns,vals=[Value.ref a]/\args=[WData.list (ns.map WData.int)]/\h.get? a=some { cls:=.type "list",data:=.seq vs.toArray }/\IntsAre vs ns/\ns.length<=n:=by
 have hsh:WShape.hasAll [] args [.list .int]=true:=(pre_splitW hpre).1
 have hc:l.pre.holds [] { args:=args }=true:=(pre_splitW hpre).2
 obtain ⟨d,r,rfl,h1,h2⟩:=hasAllW_cons hsh
 obtain rfl:=hasAllW_nil h2
 obtain ⟨xs,rfl,h3⟩:=hasW_list h1
 obtain ⟨ns,rfl⟩:=items_int h3
 have hlen:ns.length<=n:=by
  unfold OpenLaw.pre at hc
  have h4:(WTm.not (.lt (.lit (.int (n:Int))) (.len (.arg 0)))).holds [] { args:=[.list (ns.map .int)] }=true:=by
   have h4:=(holds_andW hc).1
   rw[hn] at h4
   exact h4
  have h5:=condW_of h4 (w_not (w_lt w_lit (w_len_list (w_arg rfl))))
  rw[List.length_map] at h5
  refine Nat.le_of_not_lt λq=> ?_
  have q':(n:Int)<((ns.length:Nat):Int):=by omega
  first
   | (rw[decide_eq_true q'] at h5; exact absurd h5 (by decide))
   | (simp at h5; omega)
 cases hwl with
 | cons w1 w2=>
  cases w2
  cases w1 with
  | list ho hall=>exact ⟨_,_,ns,rfl,rfl,ho,qeD ns _ hall,hlen⟩
theorem qkp (l:OpenLaw) (args:List WData):l.row.toRowW.claim.post args (.bool true) args=true:=
 postW_of (r:=l.row.toRowW) (X:=(true==true))
  (show WShape.has [] (.bool true) .bool=true by first | rfl | decide | simp[WShape.has,WShape.arms,WShape.armsAll])
  (show (WTm.eq .res (.lit (.bool true))).value [] { args:=args,res:=some (.bool true),after:=args }=some (.bool (true==true)) from w_eq_bool (w_res rfl) w_lit) rfl
theorem attach_call {l:OpenLaw} {n:Nat} {q:Program} {loose:List Str} {XP:(Str->Option Value)->Heap->Prop} {YP:World->Heap->Prop} {d:DefRec}
  (hn:l.most=some n) (hdf:d.params.defaults=[])
  (call: ∀(w:World) (s₀ s₁:Shared) (mg mb:Str->Option Value) (fa:Addr) (o:Obj) (pm cd doc:Value) (a:Addr) (vs:List Value) (ns:List Int),
   Ground q loose [] XP w s₀ mg mb s₁.heap->YP w s₁.heap->
   s₁.heap.get? fa=some o->o.data= .func (docDef d.name d.params d.body d.scope pm cd doc)->s₁.heap.CodeRec cd d.name->mg d.name=some (.ref fa)->
   s₁.heap.get? a=some { cls:=.type "list",data:=.seq vs.toArray }->IntsAre vs ns->ns.length<=n->s₁.gens= #[]->
   codeAny (model l.prog w) callerA (.call (.ref fa) ⟨[.ref a],[]⟩) (λr s'=>r= .ok (.ret (.bool true))/\OldK s₁.heap s'.heap/\s'.os=s₁.os/\AllBare s'.gens) s₁):
  WalkO q loose XP YP l.row.toRowW d [] (λf vs=>PySem.call f vs):=by
 intro w s₀ s₁ mg mb G Y fa o pm cd doc dV kV ho hd hcd hD hmg hg args vals as hpre hlay hrd hwl hlo
 obtain rfl:dV= .none:=Dflts.none hD hdf
 obtain rfl:kV= .none:=Dflts.noKw hD
 obtain ⟨a,vs,ns,rfl,rfl,hobj,hints,hlen⟩:=qka hn hpre hwl
 refine enter_call (codeAny_mono (call w s₀ s₁ mg mb fa o pm cd doc a vs ns G Y ho (fd_plain hd) hcd hmg hobj hints hlen hg) λr s' hq=> ?_)
 obtain ⟨rfl,h2,h3,h4⟩:=hq
 exact ⟨.inl ⟨.bool true,.bool true,[],rfl,λ_=>rfl,.bool true,qkp l _,λ_=>⟨List.Pairwise.nil,λ_ hm=>(nomatch hm)⟩⟩,h2,h3,h4⟩
section
variable {prog:Program} {w:World} {A:Around} {E:Value->Shared->Prop} {s:Shared} {K:Frag}
def qtJ (h:Heap) (L d:Addr):List (Addr×Obj):=(List.range h.objs.size).filterMap λa=>if a=L\/a=d then none else (h.get? a).map λo=>(a,o)
end
end Att
namespace L2
open PySem PySem.Spec PyProof.Rows
theorem qf0: ∀{vs:List Value} {ns:List Int},IntsAre vs ns->Vals (ns.map V.int) vs
 | _,_,.nil=>.nil
 | _,_,.cons n t h=>.cons ⟨t,rfl⟩ (qf0 h)
end L2
namespace L2
open PySem PySem.Spec PyProof.Rows
abbrev KOf {K:PySem.W.Frag} {h:Heap} (_:K.In h):PySem.W.Frag:=K
end L2
namespace L2
open PySem PySem.Spec PyProof.Rows
def qbh (s:Stmt):Arguments:=match s with
 | .FunctionDef _ a _ _ _ _ _ _ _ _=>a
 | _=>{ posonlyargs:=[],args:=[],vararg:=none,kwonlyargs:=[],kw_defaults:=[],kwarg:=none,defaults:=[] }
def qaZ (s:Stmt):List Stmt:=match s with
 | .FunctionDef _ _ b _ _ _ _ _ _ _=>b
 | _=>[]
def qae (s:Stmt):Scope:=match s with
 | .FunctionDef _ _ _ _ _ _ sc _ _ _=>sc
 | _=>{ kind:=.function,names:=[],isGenerator:=false,isCoroutine:=false }
abbrev CX0:CXT:=λ_ _ _ _ _ _=>False
abbrev E0:XK:=λ_ _ _=>False
theorem qsw {X:Cx}:qgV CX0 X E0:=λ_ _ _ _ _ _ _ h=>h.elim
structure Fun (K:PySem.W.Frag) (x qual:Str) (st:Stmt) (f:Addr) (fd:FuncData):Prop where
 ex: ∃(oc:Value) (od:Option Addr) (kV doc pm:Value) (an:Option Addr) (cdv ct:Value) (osl:Array (Option Value)),
  fd=PySem.W.fnOf x qual (qbh st) (qaZ st) (qae st) .none kV doc pm an cdv ct/\K.lookup f=some ⟨oc,od,.func fd,osl⟩/\PySem.W.codeIn K cdv qual=true
 kp:PySem.W.keepIn K (.ref f)=true
section
variable {P:Program} {w:World} {K:PySem.W.Frag} {mg:Str->Option Value} {base:Heap}
theorem Fun.ok {x qual:Str} {st:Stmt} {f:Addr} {fd:FuncData} {N ps:List Str} {k:Nat} {sp:Sp} (F:Fun K x qual st f fd) (S:qau N ps (qae st)) (len: ∀vs H Q E,sp vs H Q E->vs.length=ps.length)
  (hbody: ∀(cdv:Value) (A:Around) (outer:List Env) (s:Shared) (H:Hp) (vs:List V) (Q:VK) (E:XK),qcu k (A.deeper (envOfC qual (qae st) s.heap.objs.size f cdv))->sp vs H Q E->
   ∃t,PSs (qnl CX0 P w K mg base N qual (qae st) f cdv A outer s H E).nox (qaZ st) t/\t { nx:=λ_ H'=>Q .non H',rt:=Q } (start N vs) H):qbo P w K mg base CX0 (k+1) f fd ps sp:=by
 obtain ⟨oc,od,kV,doc,pm,an,cdv,ct,osl,rfl,lk,hcd⟩:=F.ex
 refine qqU lk hcd S len λA outer s H vs Q E hr hsp=> ?_
 obtain ⟨t,h,q⟩:=hbody cdv A outer s H vs Q E hr hsp
 exact ⟨t,h.nox,q⟩
theorem Fun.binds {x qual:Str} {st:Stmt} {f:Addr} {fd:FuncData} {ps:List Str} (F:Fun K x qual st f fd)
  (h: ∀(kV doc pm:Value) (an:Option Addr) (cdv ct:Value) (us:List Value),us.length=ps.length->bindArgs (PySem.W.fnOf x qual (qbh st) (qaZ st) (qae st) .none kV doc pm an cdv ct) ⟨us,[]⟩=pure (ps.zip us)):qdZ K fd ps []:=by
 obtain ⟨oc,od,kV,doc,pm,an,cdv,ct,osl,rfl,lk,hcd⟩:=F.ex
 exact .all (h kV doc pm an cdv ct)
theorem qfo {x qual:Str} {st:Stmt} {f:Addr} {oc:Value} {od an:Option Addr} {osl:Array (Option Value)} {kV doc pm cdv ct:Value} (l:K.lookup f=some ⟨oc,od,.func (PySem.W.fnOf x qual (qbh st) (qaZ st) (qae st) .none kV doc pm an cdv ct),osl⟩)
  (c:PySem.W.codeIn K cdv qual=true) (k:PySem.W.keepIn K (.ref f)=true):Fun K x qual st f (PySem.W.fnOf x qual (qbh st) (qaZ st) (qae st) .none kV doc pm an cdv ct):=⟨⟨oc,od,kV,doc,pm,an,cdv,ct,osl,rfl,l,c⟩,k⟩
end
theorem qbj {n:Nat} (h:n<=1000):n<sizeLine:=Nat.lt_of_le_of_lt h (by decide)
section
variable {X:Cx}
theorem pv (i:Nat) {x:Str} {pos:Pos} (hN:X.N[i]? =some x:=by rfl) (hv:Vis X.env.scope x:=by first | exact Or.inl rfl | exact Or.inr (Or.inl rfl) | exact Or.inr (Or.inr rfl)) (hd:(x==("__debug__" :Str))=false:=by decide)
  (hcd:(x==("__classdict__" :Str))=false:=by decide):PE X (.Name x pos) (qhK i):=qql hN hv hd hcd
end
theorem qpv {A B:Prop} (h:B):if false=true then A else B:=by
 rw[if_neg Bool.false_ne_true]
 exact h
theorem qpu {A B:Prop} (h:A):if true=true then A else B:=by
 rw[if_pos rfl]
 exact h
def qnt (H H':Hp):Prop:= ∀b o,H b=some o->H' b=some o
theorem qnt.refl (H:Hp):qnt H H:=λ_ _ h=>h
theorem qnt.seq {K:PySem.W.Frag} {H H':Hp} {a:Addr} {xs:List V} (e:qnt H H') (h:SqL K H a xs):SqL K H' a xs:=by
 rcases h with (h | ⟨o,h⟩) | h
 ·exact .inl (.inl (e _ _ h))
 ·exact .inl (.inr ⟨o,e _ _ h⟩)
 ·exact .inr h
end L2
end
section
namespace L2
open PySem PySem.Spec PyProof.Rows
def qlG (env:Env):List (Str×NameKind)->List (Str×Addr)->List (Str×Addr)
 | [],acc=>acc
 | x::r,acc=>qlG env r (if x.2== .free then (match env.cells.lookup x.1 with | some a=>(x.1,a)::acc | none=>acc) else acc)
theorem qfs {env:Env}: ∀(names:List (Str×NameKind)) (acc:List (Str×Addr)),(∀x∈names,x.2= .free->∃c,env.cells.lookup x.1=some c)->
  (forIn names acc λx r=>(match x with | (name,kind)=>if (kind==NameKind.free)=true then do let a <-cellOf env name; pure (ForInStep.yield ((name,a)::r)) else pure (ForInStep.yield r):Sem (ForInStep (List (Str×Addr)))))=pure (qlG env names acc)
 | [],acc,_=>by rw[List.forIn_nil]; rfl
 | (n,k)::r,acc,h=>by
  rw[List.forIn_cons]
  have ih:=λacc'=>qfs (env:=env) r acc' λx hx=>h x (List.mem_cons_of_mem _ hx)
  by_cases hk:(k==NameKind.free)=true
  ·have hk':k= .free:=by simpa using hk
   obtain ⟨c,hc⟩:=h (n,k) List.mem_cons_self hk'
   simp only[hk,if_true,cellOf,hc,qlG]
   exact ih _
  ·simp only[hk,if_false,qlG]
   exact ih _
theorem qjt {scope:Scope} {env:Env} (h: ∀x∈scope.names,x.2= .free->∃c,env.cells.lookup x.1=some c):closureFor scope env=pure (qlG env scope.names []):=by
 have e:=qfs (env:=env) scope.names [] h
 unfold closureFor
 exact (congrArg (λm=>m>>=λr=>pure r) e)
theorem qiJ {env:Env} {x:Str} {c:Addr}: ∀(names:List (Str×NameKind)) (acc:List (Str×Addr)),(∀y d,acc.lookup y=some d->env.cells.lookup y=some d)->
  (qlG env names acc).lookup x=some c->env.cells.lookup x=some c
 | [],acc,ha,h=>ha x c h
 | (n,k)::r,acc,ha,h=>by
  refine qiJ r _ (λy d hy=> ?_) h
  dsimp only at hy
  by_cases hk:(k==NameKind.free)=true
  ·rw[if_pos hk] at hy
   cases e:env.cells.lookup n with
   | none=>rw[e] at hy; exact ha y d hy
   | some a=>
    rw[e] at hy
    dsimp only at hy
    rw[List.lookup_cons] at hy
    cases hb:y==n with
    | true=>
     rw[hb] at hy
     have e1:y=n:=eq_of_beq hb
     subst e1
     rw[e]; exact hy
    | false=>rw[hb] at hy; exact ha y d hy
  ·rw[if_neg hk] at hy
   exact ha y d hy
theorem qeT {env:Env} {x:Str} {c:Addr}: ∀(names:List (Str×NameKind)) (acc:List (Str×Addr)),env.cells.lookup x=some c->(acc.lookup x=some c\/(x,NameKind.free)∈names)->
  (qlG env names acc).lookup x=some c
 | [],acc,hc,h=>by
  rcases h with h | h
  ·exact h
  ·cases h
 | (n,k)::r,acc,hc,h=>by
  refine qeT r _ hc ?_
  dsimp only
  by_cases hk:(k==NameKind.free)=true
  ·rw[if_pos hk]
   by_cases hn:x=n
   ·subst hn
    rw[hc]
    exact .inl (by simp[List.lookup_cons])
   ·have hb:(x==n)=false:=by simpa using hn
    cases e:env.cells.lookup n with
    | none=>
     rcases h with h | h
     ·exact .inl h
     ·rcases List.mem_cons.mp h with h | h
      ·cases h; exact absurd rfl hn
      ·exact .inr h
    | some a=>
     dsimp only
     rcases h with h | h
     ·exact .inl (by rw[List.lookup_cons,hb]; exact h)
     ·rcases List.mem_cons.mp h with h | h
      ·cases h; exact absurd rfl hn
      ·exact .inr h
  ·rw[if_neg hk]
   rcases h with h | h
   ·exact .inl h
   ·rcases List.mem_cons.mp h with h | h
    ·cases h; exact absurd rfl hk
    ·exact .inr h
theorem qcw {env:Env} {x:Str} {k:NameKind}: ∀{names:List (Str×NameKind)},(∀y∈names,y.2≠.cell)->k= .cell\/k= .free->
  (names.map λ(n,k)=>if (k==NameKind.free&&env.scope.kind== .function&&env.kindOf n==some .cell) then (n,NameKind.cell) else (n,k)).lookup x=some k->names.lookup x=some .free
 | [],_,_,h=>by simp at h
 | (n,k')::r,hc,hk,h=>by
  have ih:=@qcw env x k r (λy hy=>hc y (List.mem_cons_of_mem _ hy)) hk
  rw[List.map_cons] at h
  dsimp only at h
  by_cases hf:(k'==NameKind.free&&env.scope.kind== .function&&env.kindOf n==some .cell)=true
  ·rw[if_pos hf] at h
   have hk':k'= .free:=by
    have:=hf; simp only[Bool.and_eq_true,beq_iff_eq] at this; exact this.1.1
   subst hk'
   cases hx:x==n with
   | true=>simp[List.lookup_cons,hx]
   | false=>
    simp only[List.lookup_cons,hx] at h⊢
    exact ih h
  ·rw[if_neg hf] at h
   cases hx:x==n with
   | true=>
    simp only[List.lookup_cons,hx] at h⊢
    cases h
    have hne:=hc (n,k) List.mem_cons_self
    rcases hk with e | e
    ·exact absurd e hne
    ·rw[e]
   | false=>
    simp only[List.lookup_cons,hx] at h⊢
    exact ih h
theorem qd2 {env:Env} {x:Str}: ∀{names:List (Str×NameKind)},names.lookup x=some .free->
  let m:=(names.map λ(n,k)=>if (k==NameKind.free&&env.scope.kind== .function&&env.kindOf n==some .cell) then (n,NameKind.cell) else (n,k)).lookup x
  m=some .cell\/m=some .free
 | [],h=>by simp at h
 | (n,k)::r,h=>by
  have ih:=@qd2 env x r
  dsimp only at ih⊢
  rw[List.map_cons]
  dsimp only
  cases hx:x==n with
  | true=>
   simp only[List.lookup_cons,hx] at h
   cases h
   by_cases hf:(NameKind.free==NameKind.free&&env.scope.kind== .function&&env.kindOf n==some .cell)=true
   ·rw[if_pos hf]; exact .inl (by simp[List.lookup_cons,hx])
   ·rw[if_neg hf]; exact .inr (by simp[List.lookup_cons,hx])
  | false=>
   simp only[List.lookup_cons,hx] at h
   by_cases hf:(k==NameKind.free&&env.scope.kind== .function&&env.kindOf n==some .cell)=true
   ·rw[if_pos hf]; simp only[List.lookup_cons,hx]; exact ih h
   ·rw[if_neg hf]; simp only[List.lookup_cons,hx]; exact ih h
def qbc (X:Cx) (scope:Scope) (own:List Str) (fr:List (Str×Nat)) (fp:List Addr) (s3:Shared) (H3:Hp):Cx where
 prog:=X.prog
 w:=X.w
 K:=X.K
 mg:=X.mg
 base:=X.base
 A:=X.A
 N:=own++fr.map (·.1)
 s₀:=s3
 H₀:=H3
 env:=compEnvC scope (qlG X.env scope.names []) s3.heap.objs.size X.env
 outer:=X.stack
 stack:=X.stack
 ex:=fp
 calm:=X.calm
 fn:=λ_=>false
 pn:=[]
 xe:=λ_ _=>False
def qer (own:List Str) (fr:List (Str×Nat)) (σ:St):St:=own.map (λ_=>none)++fr.map λp=>(σ[p.2]?).join
def qnu (Y:Cx) (ifs:List Expr) (tt:TT):Prop:=
 ∀(pins:List (Addr×Obj)) (s:Shared) (σ:St) (H:Hp) (Q:Bool->Hp->Prop),Inv Y pins σ H s->tt σ H Q->
  wpAny (model Y.prog Y.w) Y.A (forIn ifs true λc r=>if r=true then do let ok <-isTrue c Y.env (eval c Y.env); pure (ForInStep.yield ok) else pure (ForInStep.yield r)) (TP Y pins σ Q) Y.xe s
def qoe:TT:=λ_ H Q=>Q true H
theorem qmr {Y:Cx}:qnu Y [] qoe:=λ_ _ _ H _ I h=>wpAny_tests_nil ⟨H,I,h⟩
theorem qmq {Y:Cx} {c:Expr} {t:TT} (h:PT Y c t):qnu Y [c] t:=λpins s σ H Q I q=>wpAny_tests_one (h pins s σ H Q I q)
theorem fls {α:Type} {t:Sem α} {Q Q':α->Shared->Prop} {M:Model} {A:Around} {E:Value->Shared->Prop} {s:Shared} (h:wpAny M A t Q (λ_ _=>False) s) (hQ: ∀a s,Q a s->Q' a s):wpAny M A t Q' E s:=
 wpAny_mono h hQ λ_ _ x=>x.elim
section
variable {prog:Program} {w:World} {A:Around} {R:Result->Shared->Prop} {s:Shared}
theorem qjx {elt tg iter:Expr} {ifs:List Expr} {scope:Scope} {pos:Pos} {it acc:Value} {env:Env} (J:Nat->Shared->Prop)
  (qjH: ∀n s,J n s->wpAny (model prog w) A (pyNext it) (λr s1=>match r with
   | none=>R (.ok .next) s1
   | some v=>wpAny (model prog w) A (letOwnedTupleGo tg it v) (λ_ s2=>wpAny (model prog w) A (assign tg env v) (λ_ s3=>
     wpAny (model prog w) A (forIn ifs true λc r=>if r=true then do let ok <-isTrue c env (eval c env); pure (ForInStep.yield ok) else pure (ForInStep.yield r)) (λok s4=>
      if ok=true then wpAny (model prog w) A (eval elt env) (λx s5=>wpAny (model prog w) A (call (.builtin "list.append") [acc,x]) (λ_ s6=> ∃m,m<n/\J m s6) (λ_ _=>False) s5) (λ_ _=>False) s4
      else ∃m,m<n/\J m s4) (λ_ _=>False) s3) (λ_ _=>False) s2) (λ_ _=>False) s1) (λ_ _=>False) s)
  (n:Nat) (h:J n s):codeAny (model prog w) A (.compLoop (.ListComp elt [⟨tg,iter,ifs,0⟩] scope pos) 0 it acc env) R s:=by
 refine codeAny_loop rfl J (λn s hJ=> ?_) n h
 show wpAny _ A ((compTurn (.ListComp elt [⟨tg,iter,ifs,0⟩] scope pos) 0 it acc env).onRaise (λx=>do noteFrame x env; theTreesLotGoes x)) _ _ s
 refine wpAny_noted ?_
 rw[compTurn_list]
 refine wpAny_bind (wpAny_standAt (wpAny_bind (fls (qjH n s hJ) λr s1 h1=> ?_)))
 cases r with
 | none=>exact wpAny_pure h1
 | some v=>
  refine wpAny_bind (fls h1 λ_ s2 h2=>wpAny_bind (fls h2 λ_ s3 h3=>wpAny_bind (fls h3 λok s4 h4=> ?_)))
  cases ok with
  | false=>exact wpAny_pure ⟨rfl,h4⟩
  | true=>exact wpAny_bind (wpAny_bind (fls h4 λx s5 h5=>wpAny_bind (fls h5 λ_ s6 h6=>wpAny_pure (wpAny_pure ⟨rfl,h6⟩))))
end
end L2
end
section
namespace L2
open PySem PySem.Spec PyProof.Rows
def qrc (J:It) (D:Addr) (g:TG) (tt:TT) (te:TE) (σ0:St) (H0:Hp) (Q:Addr->Hp->Prop):Prop:=
 ∃W:Nat->Nat->St->Hp->Prop,(∃m,W 0 m σ0 H0)/\∀i m σ1 H2,W i m σ1 H2->
  (J.stop i H2/\Q D H2)\/(J.go i H2/\∃(Ny:St->V->Hp->Prop) (Nn:St->Hp->Prop),
   (∀σ2 y H6,Ny σ2 y H6->∃ys,H6 D=some (.lst ys)/\ys.length<sizeLine/\∃m',m'<m/\W (i+1) m' σ2 (upd H6 D (.lst (ys++[y]))))/\
   (∀σ2 H5,Nn σ2 H5->∃m',m'<m/\W (i+1) m' σ2 H5)/\
   ∀x H3,J.yld i H2 x H3->g x σ1 H3 λσ2 H4=>tt σ2 H4 λb H5=>if b=true then te σ2 H5 (Ny σ2) else Nn σ2 H5)
def qhM (wi:TI) (g:TG) (tt:TT) (te:TE) (own:List Str) (fr:List (Str×Nat)) (σ:St) (H:Hp) (Q:Addr->Hp->Prop):Prop:=
 wi σ H λJ H1=> ∀D,H1 D=none->qrc J D g tt te (qer own fr σ) (upd H1 D (.lst [])) Q
section
variable {X:Cx} {elt tg iter:Expr} {ifs:List Expr} {scope:Scope} {pos ppos:Pos} {own:List Str} {fr:List (Str×Nat)} {wi:TI} {g:TG} {tt:TT} {te:TE}
theorem qgJ {use:Option (Value->Sem Unit)} {Qf:Value->Shared->Prop} {pins:List (Addr×Obj)} {σ:St} {H:Hp} {s:Shared} {Q:Addr->Hp->Prop}
  (hc:X.calm=true) (hi:PI X tg iter wi) (hk:scope.kind= .function) (hcell: ∀y∈scope.names,y.2≠.cell) (hnames: ∀y∈scope.names,y.2= .local->scope.names.lookup y.1=some .local)
  (hfree: ∀y∈scope.names,y.2= .free->X.env.kindOf y.1=some .cell\/X.env.kindOf y.1=some .free) (hfr: ∀p∈fr,X.N[p.2]? =some p.1/\scope.names.lookup p.1=some .free)
  (hb: ∀(fp:List Addr) (s3:Shared) (H3:Hp),PG (qbc X scope own fr fp s3 H3) tg g/\qnu (qbc X scope own fr fp s3 H3) ifs tt/\PE (qbc X scope own fr fp s3 H3) elt te)
  (hs: ∀x,foldedSetIterable iter X.env x=pure x) (I:Inv X pins σ H s) (h:qhM wi g tt te own fr σ H Q)
  (fin: ∀(D C:Addr) (H':Hp) (s':Shared) (m:Str->Option Value),Inv X pins σ H' s'->qjF X pins H' C->s'.heap.Ns C m->Q D H'->compPost (model X.prog X.w) X.A X.xe use Qf (.ref D) C (.ok .next) s'):
  wpAny (model X.prog X.w) X.A (comprehension (.ListComp elt [⟨tg,iter,ifs,0⟩] scope pos) scope X.env ppos (newList []) false (eval iter X.env) use) Qf X.xe s:=by
 have hcel: ∀x∈scope.names,x.2= .free->∃c,X.env.cells.lookup x.1=some c:=λx hx e=>I.ok.has x.1 (hfree x hx e)
 refine wpAny_comprehension_free (cl:=qlG X.env scope.names []) rfl hs (qjt hcel) hk hnames ?_
 refine thn (hi pins s σ H _ I h) λxv s1 h1=>thn h1 λitv s2 h2=> ?_
 obtain ⟨it,fp,tn,J,H2,rfl,I2,T,st2,f2,h2⟩:=h2
 refine wpAny_newObj_type (hd:=by size_fits) ?_
 generalize hD:s2.heap.objs.size=D
 have I3:Inv X pins σ (upd H2 D (.lst [])) { s2 with heap:=s2.heap.push { cls:=.type "list",dict:=none,data:=.seq ([]:List Value).toArray } }:=by
  rw[<-hD]
  exact I2.lnew (its:=[]) (ys:=[]) (t':=s2.toks) .nil (Nat.zero_le _)
 have nD:H2 D=none:=I2.hok.fresh (Nat.le_of_eq hD)
 obtain ⟨W,⟨m0,w0⟩,qjH⟩:=h2 D nD
 have f3: ∀b∈fp,b<s2.heap.objs.size/\qjF X pins (upd H2 D (.lst [])) b:=λb hb=>by
  obtain ⟨o,e,_⟩:=T.obj _ _ st2 b hb
  have lt:=Heap.lt_size e
  exact ⟨lt,by rw[qad (by rw[<-hD]; exact Nat.ne_of_lt lt)]; exact (f2 b hb).1,(f2 b hb).2⟩
 have st3:tn 0 (s2.heap.push { cls:=.type "list",dict:=none,data:=.seq ([]:List Value).toArray }):=T.keep _ _ _ st2 λb _ o e=>Heap.get?_push_of_some _ e
 generalize hs3:({ s2 with heap:=s2.heap.push { cls:=.type "list",dict:=none,data:=.seq ([]:List Value).toArray } }:Shared)=s3 at I3⊢
 have hh3:s3.heap=s2.heap.push { cls:=.type "list",dict:=none,data:=.seq ([]:List Value).toArray }:=by rw[<-hs3]
 rw[<-hh3] at st3
 have sz3:s3.heap.objs.size=s2.heap.objs.size+1:=by rw[hh3,Heap.size_push]
 generalize hH3:upd H2 D (.lst [])=H3 at I3 w0 f3
 refine wpAny_newFunctionEnv hcell (by intro y hy; simp at hy) (λh4 hn4 hs4=> ?_) hk
 have old4: ∀b o,s3.heap.get? b=some o->h4.get? b=some o:=λb o e=>
  (hs4.2 b (Nat.ne_of_lt (Heap.lt_size e))).trans (Heap.get?_push_of_some _ e)
 generalize hs4':({ s3 with heap:=h4,toks:=s3.toks+([]:List (Str×Value)).length }:Shared)=s4
 have hh4:s4.heap=h4:=by rw[<-hs4']
 have cl_sub: ∀x c,(qlG X.env scope.names []).lookup x=some c->X.env.cells.lookup x=some c:=λx c=>qiJ _ _ (λ_ _ z=>by cases z)
 have Y0:Inv (qbc X scope own fr fp s3 H3) [] (qer own fr σ) H3 s4:=by
  refine ⟨⟨I3.ok.mod,hk,I3.ok.glob,I3.ok.blt,Nat.le_refl _,λx y c h1 h2=>I3.ok.inj x y c (cl_sub x c h1) (cl_sub y c h2),λx hx=> ?_,λx c z=>absurd (show false=true from z) Bool.false_ne_true,I3.ok.hd,I3.ok.frames,.inl rfl,λb hb=>⟨?_,λx c e=>(f3 b hb).2.2.2.2.2.1 x c (cl_sub x c e)⟩,
   I3.bs,Nat.le_trans I3.ok.bsz I3.sz,λb o e hb=> ?_,λb hb z=> ?_,I3.stack,I3.stkFree⟩,by rw[<-hs4']; rfl,by rw[<-hs4']; exact I3.bare,?_,⟨_,by rw[hh4]; exact hn4,λi x v e1 e2 e3=> ?_⟩,λx c e=> ?_,I3.hok.fresh (Nat.le_refl _),λx c e=>I3.freeC x c (cl_sub x c e),λp hp=>absurd (show p∈([]:List (Addr×Obj)) from hp) (by simp),?_,?_⟩
  ·have hx':(relabel scope X.env).names.lookup x=some .cell\/(relabel scope X.env).names.lookup x=some .free:=hx
   have hf:scope.names.lookup x=some .free:=by
    rcases hx' with z | z
    ·exact qcw hcell (.inl rfl) z
    ·exact qcw hcell (.inr rfl) z
   obtain ⟨c,hc⟩:=hcel (x,.free) (PySem.mem_of_lookup hf) rfl
   exact ⟨c,qeT _ _ hc (.inr (PySem.mem_of_lookup hf))⟩
  ·have:=(f3 b hb).1
   exact Nat.ne_of_lt (Nat.lt_of_lt_of_le this (show s2.heap.objs.size<=s3.heap.objs.size by rw[sz3]; exact Nat.le_succ _))
  ·rcases (f3 b hb).2.2.2.2.1 with z | z
   ·exact I3.ok.noex b o e z
   ·exact absurd (Nat.lt_of_lt_of_le (Heap.lt_size (I3.ok.bs b o e).1) z) (Nat.lt_irrefl _)
  ·rcases List.mem_cons.mp (I3.stkSub b z) with q | q
   ·exact (f3 b hb).2.2.1 q
   ·exact (f3 b hb).2.2.2.1 q
  ·exact Un.kept (by rw[hh4]; exact old4)
  ·
   have hi':own.length<=i:=by
    by_cases q:own.length<=i
    ·exact q
    ·exfalso
     have e2':(own.map (λ_=>(none:Option V))++fr.map λp=>(σ[p.2]?).join)[i]? =some (some v):=e2
     rw[List.getElem?_append_left (by simpa using q),List.getElem?_map] at e2'
     cases q2:own[i]? with
     | none=>rw[q2] at e2'; cases e2'
     | some z=>rw[q2] at e2'; cases e2'
   have e2':(own.map (λ_=>(none:Option V))++fr.map λp=>(σ[p.2]?).join)[i]? =some (some v):=e2
   rw[List.getElem?_append_right (by simpa using hi'),List.getElem?_map,List.length_map] at e2'
   have e1':(own++fr.map (·.1))[i]? =some x:=e1
   rw[List.getElem?_append_right hi',List.getElem?_map] at e1'
   cases q2:fr[i - own.length]? with
   | none=>rw[q2] at e2'; cases e2'
   | some p=>
    rw[q2] at e1' e2'
    obtain rfl:p.1=x:=Option.some.inj e1'
    have e4:(σ[p.2]?).join=some v:=Option.some.inj e2'
    have e5:σ[p.2]? =some (some v):=by
     cases q3:σ[p.2]? with
     | none=>rw[q3] at e4; cases e4
     | some z=>rw[q3] at e4; exact congrArg some e4
    obtain ⟨g1,g2⟩:=hfr p (List.mem_of_getElem? q2)
    have kx:=hfree (p.1,.free) (PySem.mem_of_lookup g2) rfl
    obtain ⟨mX,hnX,hlX⟩:=I3.loc
    obtain ⟨u,ru,lu⟩:=hlX p.2 p.1 v g1 e5 (kx.elim (λz=>.inr (.inl z)) λz=>.inr (.inr z))
    refine ⟨u,ru,.inr ⟨qd2 g2,?_⟩⟩
    rcases lu with ⟨z,_⟩ | ⟨_,c,e6,e7⟩
    ·rcases kx with kx | kx
     ·rw[kx] at z; cases z
     ·rw[kx] at z; cases z
    ·obtain ⟨oc,hoc,hd⟩:=e7
     exact ⟨c,qeT _ _ e6 (.inr (PySem.mem_of_lookup g2)),oc,by rw[hh4]; exact old4 _ _ hoc,hd⟩
  ·obtain ⟨v,oc,hoc,hd⟩:=I3.cell x c (cl_sub x c e)
   exact ⟨v,oc,by rw[hh4]; exact old4 _ _ hoc,hd⟩
  ·exact I3.hok.kept (by rw[hh4]; exact old4)
  ·show (own.map (λ_=>(none:Option V))++fr.map λp=>(σ[p.2]?).join).length=(own++fr.map (·.1)).length
   simp
 have fY: ∀{H':Hp},(∀b∈fp,H' b=none)->∀b∈fp,qjF (qbc X scope own fr fp s3 H3) [] H' b:=λ{H'} hn b hb=>
  ⟨hn b hb,(Y0.ok.exf b hb).1,Y0.ok.exfs b hb,.inl hb,(Y0.ok.exf b hb).2,λp hp=>absurd (show p∈([]:List (Addr×Obj)) from hp) (by simp)⟩
 have st4:tn 0 s4.heap:=T.keep _ _ _ st3 (by rw[hh4]; exact λb _ o e=>old4 b o e)
 have hcY:(qbc X scope own fr fp s3 H3).calm=true:=hc
 obtain ⟨hg,ht,he⟩:=hb fp s3 H3
 have loop:codeAny (model X.prog X.w) X.A (.compLoop (.ListComp elt [⟨tg,iter,ifs,0⟩] scope pos) 0 (.ref it) (.ref D) (compEnvC scope (qlG X.env scope.names []) s3.heap.objs.size X.env)) (compPost (model X.prog X.w) X.A X.xe use Qf (.ref D) s3.heap.objs.size) s4:=by
  refine qjx (λn s'=> ∃i σ' H',Inv (qbc X scope own fr fp s3 H3) [] σ' H' s'/\tn i s'.heap/\(∀b∈fp,H' b=none)/\W i n σ' H') ?_ m0 ⟨0,_,_,Y0,st4,λb hb=>(f3 b hb).2.1,w0⟩
  rintro n s5 ⟨i,σ5,H5,I5,st5,fr5,w5⟩
  rcases qjH i n σ5 H5 w5 with ⟨stop,q⟩ | ⟨go,Ny,Nn,hNy,hNn,step⟩
  ·refine thn (T.done (qbc X scope own fr fp s3 H3) rfl rfl rfl hcY i [] s5 σ5 H5 _ I5 (fY fr5) st5 stop) λr s6 hq127=> ?_
   obtain ⟨hr,I6⟩:=hq127
   subst hr
   have IX:Inv X pins σ H5 s6:=I3.call' (ch:=fp) I6.os I6.base I6.hok I6.bare λb hb=>⟨(f3 b hb).2.2.2.2.1,(f3 b hb).2.2.1,(f3 b hb).2.2.2.2.2.1,(f3 b hb).2.2.2.2.2.2⟩
   obtain ⟨m6,hn6,_⟩:=I6.loc
   exact fin D _ H5 s6 m6 IX (I3.fpOk (Nat.le_refl _) I6.free) hn6 q
  ·refine thn (T.item (qbc X scope own fr fp s3 H3) rfl rfl rfl hcY i [] s5 σ5 H5 _ I5 (fY fr5) st5 go) λr s6 hq132=> ?_
   obtain ⟨u,hr,h6⟩:=hq132
   subst hr
   refine thn h6 λ_ s7 hq134=> ?_
   obtain ⟨x,H7,I7,r7,y7,st7,fr7⟩:=hq134
   have I7':=I7.pinned (fY fr7) (T.obj _ _ st7)
   refine thn (hg _ s7 σ5 H7 x u _ I7' r7 (step x H7 y7)) λ_ s8 hq136=> ?_
   obtain ⟨σ8,H8,I8,q8⟩:=hq136
   refine thn (ht _ s8 σ8 H8 _ I8 q8) λb s9 hq137=> ?_
   obtain ⟨H9,I9,q9⟩:=hq137
   have again: ∀{s':Shared} {H':Hp} {m':Nat},Inv (qbc X scope own fr fp s3 H3) ([]++qgg fp s7.heap) σ8 H' s'->m'<n->W (i+1) m' σ8 H'->∃m,m<n/\∃i σ' H',Inv (qbc X scope own fr fp s3 H3) [] σ' H' s'/\tn i s'.heap/\(∀b∈fp,H' b=none)/\W i m σ' H':=λ{s' H' m'} I' hm w'=>by
    refine ⟨m',hm,i+1,σ8,H',I'.unpinned,T.keep _ _ _ st7 λb hb o e=>(I'.pin (b,o) (List.mem_append_right _ (List.mem_append_right _ (qcN hb e)))).1,λb hb=> ?_,w'⟩
    obtain ⟨o,e,d⟩:=T.obj _ _ st7 b hb
    exact (I'.pin (b,o) (List.mem_append_right _ (List.mem_append_right _ (qcN hb e)))).2.1
   cases b with
   | false=>
    obtain ⟨m',hm,w'⟩: ∃m',m'<n/\W (i+1) m' σ8 H9:=hNn σ8 H9 (by simpa using q9)
    show ∃m,_
    exact again I9 hm w'
   | true=>
    have q9':te σ8 H9 (Ny σ8):=by simpa using q9
    show wpAny _ _ _ _ _ _
    refine thn (he _ s9 σ8 H9 _ I9 q9') λxv s10 hq150=> ?_
    obtain ⟨y,H10,I10,r10,q10⟩:=hq150
    obtain ⟨ys,hys,hlen,m',hm,w'⟩:=hNy σ8 y H10 q10
    refine thn (qdu _ s10 σ8 H10 (.ref D) [y] (.ref D) [xv] (λ_ H'=> ∃m',m'<n/\W (i+1) m' σ8 H') I10 rfl (.cons r10 .nil) ⟨D,ys,y,rfl,rfl,hys,hlen,m',hm,w'⟩) λ_ s11 hq152=> ?_
    obtain ⟨_,H11,I11,_,m2,hm2,w2⟩:=hq152
    exact again I11 hm2 w2
 refine codeAny_compStart_list ?_ ?_
 ·exact loop
 ·exact T.self X.A 0 s4 _ _ st4 loop
theorem qox (hc:X.calm=true) (hi:PI X tg iter wi) (hk:scope.kind= .function) (hcell: ∀y∈scope.names,y.2≠.cell) (hnames: ∀y∈scope.names,y.2= .local->scope.names.lookup y.1=some .local)
  (hfree: ∀y∈scope.names,y.2= .free->X.env.kindOf y.1=some .cell\/X.env.kindOf y.1=some .free) (hfr: ∀p∈fr,X.N[p.2]? =some p.1/\scope.names.lookup p.1=some .free)
  (hb: ∀(fp:List Addr) (s3:Shared) (H3:Hp),PG (qbc X scope own fr fp s3 H3) tg g/\qnu (qbc X scope own fr fp s3 H3) ifs tt/\PE (qbc X scope own fr fp s3 H3) elt te)
  (hs: ∀x,foldedSetIterable iter X.env x=pure x:=by intro _; rfl):
  PE X (.ListComp elt [⟨tg,iter,ifs,0⟩] scope pos) (λσ H Q=>qhM wi g tt te own fr σ H λD H'=>Q (.ref D) H'):=by
 intro pins s σ H Q I h
 rw[eval_ListComp]
 refine qgJ (use:=none) hc hi hk hcell hnames hfree hfr hb hs I h λD C H' s' m I' f' hn q=> ?_
 obtain ⟨f0,f1,f2,f3,f4,f5⟩:=f'
 exact ⟨m,hn,λh' hs'=>⟨.ref D,H',I'.turned (t':=s'.toks) (λb o hb e=>(hs'.2 b hb).trans e) f0 f1 f3 f4 f5,rfl,q⟩⟩
theorem ps_setcomp {i:Nat} {y:Str} {py spos:Pos} (hc:X.calm=true) (hi:PI X tg iter wi) (hk:scope.kind= .function) (hcell: ∀y∈scope.names,y.2≠.cell) (hnames: ∀y∈scope.names,y.2= .local->scope.names.lookup y.1=some .local)
  (hfree: ∀y∈scope.names,y.2= .free->X.env.kindOf y.1=some .cell\/X.env.kindOf y.1=some .free) (hfr: ∀p∈fr,X.N[p.2]? =some p.1/\scope.names.lookup p.1=some .free)
  (hb: ∀(fp:List Addr) (s3:Shared) (H3:Hp),PG (qbc X scope own fr fp s3 H3) tg g/\qnu (qbc X scope own fr fp s3 H3) ifs tt/\PE (qbc X scope own fr fp s3 H3) elt te)
  (hN:X.N.Nodup) (hiN:X.N[i]? =some y) (hy:X.env.scope.names.lookup y=some .local)
  (hsw:swapsWith (.ListComp elt [⟨tg,iter,ifs,0⟩] scope pos) (some (.Name y py)) spos.line X.env=pure true) (hs: ∀x,foldedSetIterable iter X.env x=pure x:=by intro _; rfl):
  PS X (.Assign [.Name y py] (.ListComp elt [⟨tg,iter,ifs,0⟩] scope pos) spos) (λD σ H=>qhM wi g tt te own fr σ H λd H'=>D.nx (σ.set i (some (.ref d))) H'):=by
 intro pins s σ H D I h
 rw[exec_Assign_Name_used _ _ _ _ hsw]
 refine wpAny_bind (wpAny_standAt (wpAny_bind ?_))
 show wpAny _ _ (do let _ <-comprehension (.ListComp elt [⟨tg,iter,ifs,0⟩] scope pos) scope X.env _ (newList []) false (eval iter X.env) (some (assign (.Name y py) X.env))) _ _ s
 refine wpAny_bind (thn (qgJ (use:=some (assign (.Name y py) X.env)) (Qf:=λ_ s'=>SP X pins D .next s') hc hi hk hcell hnames hfree hfr hb hs I h λd C H' s' m I' f' hn q=> ?_) λ_ s' hq=>wpAny_pure (wpAny_pure hq))
 obtain ⟨f0,f1,f2,f3,f4,f5⟩:=id f'
 show wpAny _ _ (assign (.Name y py) X.env (.ref d)) _ _ s'
 refine wpAny_assign_Name (qf4 I' hN hiN (.inl hy) (v:=.ref d) rfl (λs'' I'' ⟨a,sb,ha⟩=> ?_) (.inr hy))
 have hne:C≠a:=by
  rcases ha with rfl | ha
  ·exact f1
  ·exact λz=>f4 y a ha z.symm
 refine ⟨m,hn.sameBut sb hne,λh' hs'=>⟨_,H',I''.turned (t':=s''.toks) (λb o hb e=>(hs'.2 b hb).trans e) f0 f1 f3 f4 f5,q⟩⟩
end
theorem qnp {J:It} {n:Nat} {D:Addr} {g:TG} {tt:TT} {te:TE} {σ0:St} {H0:Hp} {Q:Addr->Hp->Prop} (Pv:Nat->List V->St->Hp->Prop) (h0:Pv 0 [] σ0 H0) (hn:n<=sizeLine) (hD: ∀i ys σ H,Pv i ys σ H->H D=some (.lst ys)) (hl: ∀i ys σ H,Pv i ys σ H->ys.length<=i)
  (hgo: ∀i ys σ H,i<n->Pv i ys σ H->J.go i H) (hstop: ∀ys σ H,Pv n ys σ H->J.stop n H/\Q D H)
  (hs: ∀i ys σ H x H',i<n->Pv i ys σ H->J.yld i H x H'->g x σ H' λσ2 H4=>tt σ2 H4 λb H5=>if b=true then te σ2 H5 λy H6=>H6 D=some (.lst ys)/\Pv (i+1) (ys++[y]) σ2 (upd H6 D (.lst (ys++[y]))) else Pv (i+1) ys σ2 H5):
  qrc J D g tt te σ0 H0 Q:=by
 refine ⟨λi m σ H=>m=n - i/\i<=n/\∃ys,Pv i ys σ H,⟨n,by simp,Nat.zero_le _,[],h0⟩,?_⟩
 rintro i m σ H ⟨rfl,hi,ys,p⟩
 by_cases hlt:i<n
 ·refine .inr ⟨hgo i ys σ H hlt p,λσ2 y H6=>H6 D=some (.lst ys)/\Pv (i+1) (ys++[y]) σ2 (upd H6 D (.lst (ys++[y]))),λσ2 H5=>Pv (i+1) ys σ2 H5,λσ2 y H6 q=>⟨ys,q.1,?_,n - (i+1),by lia,rfl,hlt,_,q.2⟩,λσ2 H5 q=>⟨n - (i+1),by lia,rfl,hlt,ys,q⟩,λx H3 y=>hs i ys σ H x H3 hlt p y⟩
  have:=hl i ys σ H p
  lia
 ·have e:i=n:=by lia
  subst e
  exact .inl (hstop ys σ H p)
end L2
end
section
namespace St
open PySem.W PyProof.Rows
def qe5 {α:Type} (N:Nat) (ask:Nat->Nat->Bool):KasT α->(α->Prop)->Prop
 | .ret a,Q=>Q a
 | .ask i j k,Q=>i<N/\j<N/\qe5 N ask (k (ask i j)) Q
theorem qcf {α β:Type} {N:Nat} {ask:Nat->Nat->Bool} {f:α->KasT β} {Q:β->Prop}: ∀{t:KasT α},qe5 N ask t (λa=>qe5 N ask (f a) Q)->qe5 N ask (t.bind f) Q
 | .ret _,h=>h
 | .ask _ _ _,⟨h1,h2,h⟩=>⟨h1,h2,qcf h⟩
theorem qbw {α:Type} {N:Nat} {ask:Nat->Nat->Bool} {Q Q':α->Prop} (hq: ∀a,Q a->Q' a): ∀{t:KasT α},qe5 N ask t Q->qe5 N ask t Q'
 | .ret _,h=>hq _ h
 | .ask _ _ _,⟨h1,h2,h⟩=>⟨h1,h2,qbw hq h⟩
def g (p:Array Nat) (i:Nat):Nat:=p.getD i 0
theorem qqR {p q:Array Nat} {i j:Nat} (h:p[i]? =q[j]?):g p i=g q j:=by
 unfold g
 rw[Array.getD_eq_getD_getElem?,Array.getD_eq_getD_getElem?,h]
theorem qm1 {p:Array Nat} {i j:Nat} (hj:j<=p.size) (t:Nat):g (kas_rev p i j) t=if i<=t/\t<j then g p (i+j - 1 - t) else g p t:=by
 have e:=getElem?_mirror_all (i:=i) hj t
 by_cases h1:i<=t/\t<j
 ·rw[if_pos h1] at e⊢; exact qqR e
 ·rw[if_neg h1] at e⊢; exact qqR e
theorem qs9 {p:Array Nat} {k l:Nat} (hk:k<p.size) (hl:l<=k) (t:Nat):g (bubble p k (k - l)) t=if t=l then g p k else if l<t/\t<=k then g p (t - 1) else g p t:=by
 have e:=getElem?_bubble hk (k - l) (Nat.sub_le _ _) t
 rw[show k - (k - l)=l by lia] at e
 by_cases h1:t=l
 ·rw[if_pos h1] at e⊢; exact qqR e
 ·rw[if_neg h1] at e⊢
  by_cases h2:l<t/\t<=k
  ·rw[if_pos h2] at e⊢; exact qqR e
  ·rw[if_neg h2] at e⊢; exact qqR e
theorem qfA (p:Array Nat) (i j:Nat):(kas_rev p i j).size=p.size:=mirror_size _ _ _ _
section
variable (N:Nat) (k:Nat->Int)
def L (a b:Nat):Prop:=k a<k b\/(k a=k b/\a<b)
structure Pre (n:Nat) (p:Array Nat):Prop where
 sz:p.size=N
 lo: ∀i,i<n->g p i<n
 hi: ∀i,n<=i->i<N->g p i=i
def Srt (p:Array Nat) (n:Nat):Prop:= ∀i j,i<j->j<n->L k (g p i) (g p j)
def Dsc (p:Array Nat) (n:Nat):Prop:= ∀i j,i<j->j<n->L k (g p j) (g p i)
structure qpr (p:Array Nat) (n q:Nat):Prop where
 pre:Pre N n p
 q1:q+1<=n
 a: ∀i j,i<j->j<n - (q+1)->L k (g p j) (g p i)
 b: ∀i j,i<n - (q+1)->n - (q+1)<=j->j<n->k (g p j)<k (g p i)
 c: ∀i j,n - (q+1)<=i->i<j->j<n->k (g p i)=k (g p j)/\g p i<g p j
def qde:Nat->Nat->Bool:=λi j=>decide (k i<k j)
end
section
variable {N:Nat} {k:Nat->Int}
theorem Pre.lt {n:Nat} {p:Array Nat} (h:Pre N n p) (hn:n<=N) {i:Nat} (hi:i<N):g p i<N:=by
 by_cases q:i<n
 ·exact Nat.lt_of_lt_of_le (h.lo i q) hn
 ·rw[h.hi i (by lia) hi]; exact hi
theorem L.le {a b:Nat} (h:L k a b):k a<=k b:=by
 rcases h with h | h
 ·lia
 ·lia
theorem Pre.more {n:Nat} {p:Array Nat} (h:Pre N n p) (hn:n<N):Pre N (n+1) p:=
 ⟨h.sz,λi hi=>by
  by_cases q:i<n
  ·exact Nat.lt_succ_of_lt (h.lo i q)
  ·have e:i=n:=by lia
   subst e
   rw[h.hi i (Nat.le_refl _) hn]; lia,λi h1 h2=>h.hi i (by lia) h2⟩
theorem qlQ {p:Array Nat}: ∀(f n:Nat),1<=n->n+f<=N->Pre N n p->Srt k p n->
  qe5 N (qde k) (kas_asc p f n) λm=>n<=m/\m<=n+f/\Pre N m p/\Srt k p m/\(m=n+f\/k (g p m)<k (g p (m - 1)))
 | 0,n,h1,hf,hp,hs=>⟨Nat.le_refl _,Nat.le_refl _,hp,hs,.inl rfl⟩
 | f+1,n,h1,hf,hp,hs=>by
  refine ⟨hp.lt (by lia) (by lia),hp.lt (by lia) (by lia),?_⟩
  show qe5 N (qde k) (if qde k (g p n) (g p (n - 1))=true then .ret n else kas_asc p f (n+1)) _
  by_cases hc:k (g p n)<k (g p (n - 1))
  ·rw[if_pos (by simpa [qde] using hc)]
   exact ⟨Nat.le_refl _,by lia,hp,hs,.inr hc⟩
  ·rw[if_neg (by simpa [qde] using hc)]
   have hs':Srt k p (n+1):=λi j hij hj=>by
    by_cases q:j<n
    ·exact hs i j hij q
    ·have e:j=n:=by lia
     subst e
     have en:=hp.hi j (Nat.le_refl _) (by lia)
     have lt:=hp.lo i hij
     have le:k (g p i)<=k (g p (j - 1)):=by
      by_cases q2:i=j - 1
      ·rw[q2]; exact Int.le_refl _
      ·exact (hs i (j - 1) (by lia) (by lia)).le
     unfold L
     rw[en] at hc⊢
     lia
   refine qbw (λm h=> ?_) (qlQ f (n+1) (by lia) (by lia) (hp.more (by lia)) hs')
   obtain ⟨a,b,c,d,e⟩:=h
   exact ⟨by lia,by lia,c,d,e.elim (λz=>.inl (by lia)) .inr⟩
def fin (p:Array Nat) (n q:Nat):Array Nat:=if q>0 then kas_rev p (n - (q+1)) n else p
theorem qpr.fin {p:Array Nat} {n q:Nat} (h:qpr N k p n q) (hn:n<=N):Pre N n (fin p n q)/\Dsc k (fin p n q) n:=by
 unfold St.fin
 by_cases hq:q>0
 ·rw[if_pos hq]
  have gr:=qm1 (p:=p) (i:=n - (q+1)) (j:=n) (by rw[h.pre.sz]; exact hn)
  refine ⟨⟨by rw[qfA]; exact h.pre.sz,λi hi=> ?_,λi h1 h2=> ?_⟩,λi j hij hj=> ?_⟩
  ·rw[gr]
   split
   ·exact h.pre.lo _ (by lia)
   ·exact h.pre.lo _ hi
  ·rw[gr,if_neg (by lia)]; exact h.pre.hi i h1 h2
  ·rw[gr,gr]
   have hq1:=h.q1
   by_cases q1:n - (q+1)<=j
   ·rw[if_pos (show n - (q+1)<=j/\j<n from ⟨q1,hj⟩)]
    by_cases q2:n - (q+1)<=i
    ·rw[if_pos (show n - (q+1)<=i/\i<n from ⟨q2,by lia⟩)]
     have e:=h.c (n - (q+1)+n - 1 - j) (n - (q+1)+n - 1 - i) (by lia) (by lia) (by lia)
     exact .inr e
    ·rw[if_neg (by lia)]
     exact .inl (h.b i _ (by lia) (by lia) (by lia))
   ·rw[if_neg (by lia),if_neg (by lia)]
    exact h.a i j hij (by lia)
 ·rw[if_neg hq]
  have e:q=0:=by lia
  subst e
  refine ⟨h.pre,λi j hij hj=> ?_⟩
  have hq1:=h.q1
  by_cases q1:j<n - (0+1)
  ·exact h.a i j hij q1
  ·exact .inl (h.b i j (by lia) (by lia) hj)
theorem qhv: ∀(f:Nat) (p:Array Nat) (n q:Nat),n+f<=N->qpr N k p n q->
  qe5 N (qde k) (kas_desc f p n q) λr=>n<=r.2.1/\r.2.1<=n+f/\qpr N k r.1 r.2.1 r.2.2
 | 0,p,n,q,hf,h=>⟨Nat.le_refl _,Nat.le_refl _,h⟩
 | f+1,p,n,q,hf,h=>by
  have hq1:=h.q1
  have lt: ∀{i},i<N->g p i<N:=λhi=>h.pre.lt (by lia) hi
  refine ⟨lt (by lia),lt (by lia),?_⟩
  have en:=h.pre.hi n (Nat.le_refl _) (by lia)
  show qe5 N (qde k) (if qde k (g p n) (g p (n - 1))=true then (if q>0 then kas_desc f (kas_rev p (n - (q+1)) n) (n+1) 0 else kas_desc f p (n+1) 0)
   else .ask (g p (n - 1)) (g p n) λd=>if d=true then .ret (p,n,q) else kas_desc f p (n+1) (q+1)) _
  have kle: ∀i,i<n->k (g p (n - 1))<=k (g p i):=λi hi=>by
   by_cases q1:i<n - (q+1)
   ·exact Int.le_of_lt (h.b i (n - 1) q1 (by lia) (by lia))
   ·by_cases q2:i=n - 1
    ·rw[q2]; exact Int.le_refl _
    ·exact Int.le_of_eq (h.c i (n - 1) (by lia) (by lia) (by lia)).1.symm
  by_cases hc:k (g p n)<k (g p (n - 1))
  ·rw[if_pos (by simpa [qde] using hc)]
   have key:qpr N k (fin p n q) (n+1) 0:=by
    obtain ⟨fp,fd⟩:=h.fin (by lia)
    have e2:=fp.hi n (Nat.le_refl _) (by lia)
    refine ⟨fp.more (by lia),by lia,λi j hij hj=>fd i j hij (by lia),λi j hi h1 h2=> ?_,λi j h1 h2 h3=>by lia⟩
    have ej:j=n:=by lia
    subst ej
    rw[e2]
    rw[en] at hc
    refine Int.lt_of_lt_of_le hc ?_
    have: ∃i',i'<j/\g (fin p j q) i=g p i':=by
     unfold St.fin
     by_cases hq:q>0
     ·rw[if_pos hq,qm1 (by rw[h.pre.sz]; lia)]
      split
      ·exact ⟨_,by lia,rfl⟩
      ·exact ⟨i,by lia,rfl⟩
     ·rw[if_neg hq]
      exact ⟨i,by lia,rfl⟩
    obtain ⟨i',hi',e3⟩:=this
    rw[e3]
    exact kle i' hi'
   have e:(if q>0 then kas_desc f (kas_rev p (n - (q+1)) n) (n+1) 0 else kas_desc f p (n+1) 0)=kas_desc f (fin p n q) (n+1) 0:=by
    unfold St.fin
    split<;>rfl
   rw[e]
   refine qbw (λr hr=>⟨by lia,by lia,hr.2.2⟩) (qhv f (fin p n q) (n+1) 0 (by lia) key)
  ·rw[if_neg (by simpa [qde] using hc)]
   refine ⟨lt (by lia),lt (by lia),?_⟩
   show qe5 N (qde k) (if qde k (g p (n - 1)) (g p n)=true then .ret (p,n,q) else kas_desc f p (n+1) (q+1)) _
   by_cases hd:k (g p (n - 1))<k (g p n)
   ·rw[if_pos (by simpa [qde] using hd)]
    exact ⟨Nat.le_refl _,Nat.le_add_right _ _,h⟩
   ·rw[if_neg (by simpa [qde] using hd)]
    have ek:k (g p n)=k (g p (n - 1)):=by lia
    have key:qpr N k p (n+1) (q+1):=by
     refine ⟨h.pre.more (by lia),by lia,λi j hij hj=>h.a i j hij (by lia),λi j hi h1 h2=> ?_,λi j h1 h2 h3=> ?_⟩
     ·by_cases e:j=n
      ·subst e
       rw[ek]
       exact h.b i (j - 1) (by lia) (by lia) (by lia)
      ·exact h.b i j (by lia) (by lia) (by lia)
     ·by_cases e:j=n
      ·subst e
       refine ⟨?_,?_⟩
       ·rw[ek]
        by_cases e2:i=j - 1
        ·rw[e2]
        ·exact (h.c i (j - 1) (by lia) (by lia) (by lia)).1
       ·rw[en]; exact h.pre.lo i h2
      ·exact h.c i j (by lia) h2 (by lia)
    exact qbw (λr hr=>⟨by lia,by lia,hr.2.2⟩) (qhv f p (n+1) (q+1) (by lia) key)
def Out (N:Nat) (k:Nat->Int) (r:Nat×Array Nat):Prop:=1<=r.1/\r.1<=N/\Pre N r.1 r.2/\Srt k r.2 r.1
theorem qob {p:Array Nat} {n:Nat} (h1:1<=n) (hn:n<=N) (hp:Pre N n p) (hd:Dsc k p n):qe5 N (qde k) (kas_tail3 n N p) (Out N k):=by
 have gr:=qm1 (p:=p) (i:=0) (j:=n) (by rw[hp.sz]; exact hn)
 refine qcf (qbw (λm h=> ?_) (qlQ (p:=kas_rev p 0 n) (N - n) n h1 (by lia) ⟨by rw[qfA]; exact hp.sz,λi hi=> ?_,λi h2 h3=> ?_⟩ λi j hij hj=> ?_))
 ·exact ⟨by lia,by lia,h.2.2.1,h.2.2.2.1⟩
 ·rw[gr,if_pos ⟨Nat.zero_le _,hi⟩]; exact hp.lo _ (by lia)
 ·rw[gr,if_neg (by lia)]; exact hp.hi i h2 h3
 ·rw[gr,gr,if_pos ⟨Nat.zero_le _,by lia⟩,if_pos ⟨Nat.zero_le _,hj⟩]
  exact hd _ _ (by lia) (by lia)
theorem qeM {p:Array Nat} {n:Nat} (hn:n+1<=N) (h:qpr N k p (n+1) 0):qe5 N (qde k) (kas_descPart n N p) (Out N k):=by
 refine qcf (qbw (λr hr=> ?_) (qhv (N - (n+1)) p (n+1) 0 (by lia) h))
 obtain ⟨h1,h2,h3⟩:=hr
 obtain ⟨f1,f2⟩:=h3.fin (by lia)
 have e:(if r.2.2>0 then kas_tail3 r.2.1 N (kas_rev r.1 (r.2.1 - (r.2.2+1)) r.2.1) else kas_tail3 r.2.1 N r.1)=kas_tail3 r.2.1 N (fin r.1 r.2.1 r.2.2):=by
  unfold St.fin
  split<;>rfl
 show qe5 N (qde k) (if r.2.2>0 then kas_tail3 r.2.1 N (kas_rev r.1 (r.2.1 - (r.2.2+1)) r.2.1) else kas_tail3 r.2.1 N r.1) _
 rw[e]
 exact qob (by lia) (by lia) f1 f2
theorem qno {p:Array Nat} (hN:1<=N) (hp:Pre N 1 p):qe5 N (qde k) (kas_count N p) (Out N k):=by
 refine qcf (qbw (λn h=> ?_) (qlQ (p:=p) (N - 1) 1 (Nat.le_refl _) (by lia) hp λi j h1 h2=>by lia))
 obtain ⟨h1,h2,h3,h4,h5⟩:=h
 by_cases e:n=N
 ·rw[if_pos (by simpa using e)]
  exact ⟨h1,by lia,h3,h4⟩
 ·rw[if_neg (by simpa using e)]
  have hlt:k (g p n)<k (g p (n - 1)):=h5.resolve_left (by lia)
  by_cases hg:n>1
  ·rw[if_pos hg]
   refine ⟨h3.lt (by lia) (by lia),h3.lt (by lia) (by lia),?_⟩
   show qe5 N (qde k) (if qde k (g p 0) (g p (n - 1))=true then .ret (n,p) else kas_descPart n N (kas_rev p 0 n)) _
   by_cases hc:k (g p 0)<k (g p (n - 1))
   ·rw[if_pos (by simpa [qde] using hc)]
    exact ⟨h1,by lia,h3,h4⟩
   ·rw[if_neg (by simpa [qde] using hc)]
    have gr:=qm1 (p:=p) (i:=0) (j:=n) (by rw[h3.sz]; lia)
    have like: ∀i,i<n->k (g p i)=k (g p (n - 1)):=λi hi=>by
     have a1:k (g p 0)<=k (g p i):=by
      by_cases q:i=0
      ·rw[q]; exact Int.le_refl _
      ·exact (h4 0 i (by lia) hi).le
     have a2:k (g p i)<=k (g p (n - 1)):=by
      by_cases q:i=n - 1
      ·rw[q]; exact Int.le_refl _
      ·exact (h4 i (n - 1) (by lia) (by lia)).le
     lia
    refine qeM (by lia) ⟨Pre.more ⟨by rw[qfA]; exact h3.sz,λi hi=> ?_,λi q1 q2=> ?_⟩ (by lia),by lia,λi j hij hj=> ?_,λi j hi q1 q2=> ?_,λi j q1 q2 q3=>by lia⟩
    ·rw[gr,if_pos ⟨Nat.zero_le _,hi⟩]; exact h3.lo _ (by lia)
    ·rw[gr,if_neg (by lia)]; exact h3.hi i q1 q2
    ·rw[gr,gr,if_pos ⟨Nat.zero_le _,by lia⟩,if_pos ⟨Nat.zero_le _,by lia⟩]
     exact h4 _ _ (by lia) (by lia)
    ·have ej:j=n:=by lia
     subst ej
     have hi':i<j:=by simpa using hi
     have e1:g (kas_rev p 0 j) j=g p j:=by rw[gr,if_neg (by lia)]
     have e2:g (kas_rev p 0 j) i=g p (0+j - 1 - i):=by rw[gr,if_pos ⟨Nat.zero_le _,hi'⟩]
     rw[e1,e2,like (0+j - 1 - i) (by lia)]
     exact hlt
  ·rw[if_neg hg]
   have e1:n=1:=by lia
   subst e1
   refine qeM (by lia) ⟨h3.more (by lia),by lia,λi j hij hj=>by lia,λi j hi q1 q2=> ?_,λi j q1 q2 q3=>by lia⟩
   have ei:i=0:=by lia
   have ej:j=1:=by lia
   subst ei ej
   exact hlt
theorem qfG {p:Array Nat} {n:Nat} (hn:n<N) (hp:Pre N n p) (hs:Srt k p n): ∀(f l r:Nat),l<=r->r<=n->r - l<=f->(∀i,i<l->k (g p i)<=k (g p n))->(∀i,r<=i->i<n->k (g p n)<k (g p i))->
  qe5 N (qde k) (kas_place p n f l r) λm=>m<=n/\(∀i,i<m->k (g p i)<=k (g p n))/\∀i,m<=i->i<n->k (g p n)<k (g p i)
 | 0,l,r,h1,h2,h3,hl,hr=>⟨by lia,hl,λi q1 q2=>hr i (by lia) q2⟩
 | f+1,l,r,h1,h2,h3,hl,hr=>by
  unfold kas_place
  by_cases hge:l≥r
  ·rw[if_pos hge]
   exact ⟨by lia,hl,λi q1 q2=>hr i (by lia) q2⟩
  ·rw[if_neg hge]
   refine ⟨hp.lt (by lia) hn,hp.lt (by lia) (by lia),?_⟩
   show qe5 N (qde k) (if qde k (g p n) (g p ((l+r) / 2))=true then kas_place p n f l ((l+r) / 2) else kas_place p n f ((l+r) / 2+1) r) _
   have srt: ∀i j,i<=j->j<n->k (g p i)<=k (g p j):=λi j hij hj=>by
    by_cases q:i=j
    ·rw[q]; exact Int.le_refl _
    ·exact (hs i j (by lia) hj).le
   by_cases hc:k (g p n)<k (g p ((l+r) / 2))
   ·rw[if_pos (by simpa [qde] using hc)]
    exact qfG hn hp hs f l _ (by lia) (by lia) (by lia) hl λi q1 q2=>Int.lt_of_lt_of_le hc (srt _ _ q1 q2)
   ·rw[if_neg (by simpa [qde] using hc)]
    refine qfG hn hp hs f _ r (by lia) (by lia) (by lia) (λi q1=> ?_) hr
    have:=srt i ((l+r) / 2) (by lia) (by lia)
    lia
theorem qn2: ∀(f:Nat) (p:Array Nat) (n:Nat),n+f=N->Pre N n p->Srt k p n->qe5 N (qde k) (kas_bin f p n) λp'=>Pre N N p'/\Srt k p' N
 | 0,p,n,hf,hp,hs=>by
  have e:n=N:=by lia
  subst e
  exact ⟨hp,hs⟩
 | f+1,p,n,hf,hp,hs=>by
  refine qcf (qbw (λl h=> ?_) (qfG (by lia) hp hs n 0 n (by lia) (Nat.le_refl _) (by lia) (λi q=>by lia) λi q1 q2=>by lia))
  obtain ⟨h1,h2,h3⟩:=h
  have gb:=qs9 (p:=p) (k:=n) (l:=l) (by rw[hp.sz]; lia) h1
  have en:=hp.hi n (Nat.le_refl _) (by lia)
  refine qn2 f _ (n+1) (by lia) ⟨by rw[bubble_size]; exact hp.sz,λi hi=> ?_,λi q1 q2=> ?_⟩ λi j hij hj=> ?_
  ·rw[gb]
   split
   ·rw[en]; lia
   ·split
    ·exact Nat.lt_succ_of_lt (hp.lo _ (by lia))
    ·exact Nat.lt_succ_of_lt (hp.lo _ (by lia))
  ·rw[gb,if_neg (by lia),if_neg (by lia)]; exact hp.hi i (by lia) q2
  ·rw[gb,gb]
   by_cases c1:j=l
   ·rw[if_pos c1,if_neg (by lia),if_neg (by lia)]
    have a1:=h2 i (by lia)
    have a2:=hp.lo i (by lia)
    unfold L
    rw[en] at a1⊢
    lia
   ·rw[if_neg c1]
    by_cases c2:l<j/\j<=n
    ·rw[if_pos c2]
     by_cases c3:i=l
     ·rw[if_pos c3]
      exact .inl (h3 _ (by lia) (by lia))
     ·rw[if_neg c3]
      by_cases c4:l<i/\i<=n
      ·rw[if_pos c4]; exact hs _ _ (by lia) (by lia)
      ·rw[if_neg c4]; exact hs _ _ (by lia) (by lia)
    ·rw[if_neg c2,if_neg (by lia),if_neg (by lia)]
     exact hs _ _ hij (by lia)
theorem qj0 (hN:1<=N):qe5 N (qde k) (kas_sort N) λp=>Pre N N p/\Srt k p N:=by
 have gr: ∀i,i<N->g (List.toArray (List.range N)) i=i:=λi hi=>by
  unfold g
  rw[Array.getD_eq_getD_getElem?]
  simp[hi]
 refine qcf (qbw (λr h=> ?_) (qno hN ⟨by simp,λi hi=> ?_,λi h1 h2=>gr i h2⟩))
 ·obtain ⟨h1,h2,h3,h4⟩:=h
  by_cases c:r.1<N
  ·rw[if_pos c,show max r.1 1=r.1 by lia]
   exact qn2 _ _ _ (by lia) h3 h4
  ·rw[if_neg c]
   have e:r.1=N:=by lia
   rw[e] at h3 h4
   exact ⟨h3,h4⟩
 ·rw[gr i (by lia)]; exact hi
end
end St
end
section
namespace St
open PySem PySem.W PySem.Calls PyProof.Rows
theorem qho {α:Type} {N:Nat} {ask:Nat->Nat->Bool} {cmp:Nat->Nat->(Bool->Shared->Prop)->Shared->Prop} {Q:α->Shared->Prop} {Q':α->Prop} {s:Shared}
  (hc: ∀i j (C:Bool->Shared->Prop),i<N->j<N->C (ask i j) s->cmp i j C s) (hq: ∀a,Q' a->Q a s): ∀{t:KasT α},qe5 N ask t Q'->t.kasWp cmp Q s
 | .ret a,h=>hq a h
 | .ask i j k,⟨h1,h2,h⟩=>hc i j _ h1 h2 (qho hc hq h)
def qcs (kz:List Int) (n:Nat) (p:Array Nat):Prop:=Pre n n p/\Srt (λi=>kz.getD i 0) p n
abbrev Kp (h h':Heap):Prop:= ∀b o,h.get? b=some o->h'.get? b=some o
section
variable {prog:Program} {w:World} {A:Around} {E:Value->Shared->Prop} {s:Shared} {D kS:Addr} {vs:List Value} {kz:List Int} {P:PySem.Fin->Shared->Prop} {h0:Heap}
theorem qnx {st:SortSt} {keys:Array Value} {e e1:Nat} {p:Array Nat} (hk:s.heap.get? kS=some (seqObj "list" keys e)) (hD:s.heap.get? D=some (seqObj "list" #[] e1)) (hkD:kS≠D) (h64:vs.length<64) (hks:keys.size<=64)
  (kp:Kp h0 s.heap) (hD0:h0.get? D=none) (hk0:h0.get? kS=none) (ho:qcs kz vs.length p) (har:(arrOf st).map (·.2)=List.toArray (p.toList.map λi=>vs.getD i Value.none)) (hfl:failedOf st=none)
  (h: ∀h' tk c,Kp h0 h'->h'.get? D=some (seqObj "list" (List.toArray (p.toList.map λi=>vs.getD i Value.none)) c)->P (.done (.ret .none)) { s with heap:=h',toks:=tk }):
  wpAny (model prog w) A (ksk_tail D false e1 (.ref kS) st) P E s:=by
 unfold ksk_tail
 have s1:=Heap.SameBut.update s.heap kS (Obj.mapSeq λ_=>(#[]:Array Value))
 have hD1:(s.heap.update kS (Obj.mapSeq λ_=>(#[]:Array Value))).get? D=some (seqObj "list" #[] e1):=(s1.2 D hkD.symm).trans hD
 have hsz:(p.toList.map λi=>vs.getD i Value.none).length=vs.length:=by rw[List.length_map,Array.length_toList,ho.1.sz]
 refine wpAny_bind (listUpdate_at hk rfl ?_ (Nat.le_trans hks (by rw[sizeLine_eq]; decide)) (Nat.zero_le _))
 refine wpAny_bind (wpAny_letGo ?_)
 refine wpAny_bind (seqEpoch_at hD1 rfl ?_)
 rw[har]
 refine wpAny_bind (listUpdate_at hD1 rfl ?_ (Nat.zero_le _) (by show (List.toArray _).size<=_; rw[List.size_toArray,hsz,sizeLine_eq]; lia))
 rw[hfl]
 simp only[bne_self_eq_false,Bool.false_eq_true,if_false]
 have hfin: ∃c,((s.heap.update kS (Obj.mapSeq λ_=>(#[]:Array Value))).update D (Obj.mapSeq λ_=>List.toArray (p.toList.map λi=>vs.getD i Value.none))).get? D=some (seqObj "list" (List.toArray (p.toList.map λi=>vs.getD i Value.none)) c):=⟨_,get?_update_seq hD1 λ_=>List.toArray (p.toList.map λi=>vs.getD i Value.none)⟩
 obtain ⟨c,hc⟩:=hfin
 refine wpAny_pure (h _ _ c (λb o q=> ?_) hc)
 have nk:b≠kS:=λz=>by rw[z,hk0] at q; cases q
 have nD:b≠D:=λz=>by rw[z,hD0] at q; cases q
 exact ((Heap.SameBut.update (s.heap.update kS (Obj.mapSeq λ_=>(#[]:Array Value))) D _).2 b nD).trans ((s1.2 b nk).trans (kp b o q))
end
section
variable {prog:Program} {w:World} {A:Around} {E:Value->Shared->Prop} {s:Shared} {l:Addr} {vs:List Value} {kz:List Int} {Q:Value->Shared->Prop}
theorem get_none {h:Heap} {a:Addr} (x:h.objs.size<=a):h.get? a=none:=Heap.get?_none_of_le x
end
end St
end
section
namespace L2
open PySem PySem.Spec PyProof.Rows
theorem Inv.grow {X:Cx} {pins:List (Addr×Obj)} {σ:St} {H:Hp} {s:Shared} {P c':Addr} {ps more:Array Value} {h':Heap} {φ:Heap->Prop} {t':Nat} (I:Inv X pins σ H s) (hP:H P=some (.tbl ps)) (hx:Heap.ExtBut P s.heap h')
  (hP':h'.get? P=some (PySem.W.tabObj (ps++more))) (hc:s.heap.objs.size<=c') (hφ:qbe X.prog X.w (upd (upd H P (.tbl (ps++more))) c' (.ext φ)) h' c' (.ext φ)):
  Inv X pins σ (upd (upd H P (.tbl (ps++more))) c' (.ext φ)) { s with heap:=h',toks:=t' }:=by
 have nc: ∀b o,s.heap.get? b=some o->b≠c':=λb o e=>Nat.ne_of_lt (Nat.lt_of_lt_of_le (Heap.lt_size e) hc)
 have nct: ∀b u,H b=some u->b≠c':=λb u e z=>by rw[z,I.hok.fresh hc] at e; cases e
 have nP: ∀b,H b=none->b≠P:=λb e z=>by rw[z,hP] at e; cases e
 have hPl:=(I.hok P _ hP).lt
 have cP:P≠c':=nct P _ hP
 refine I.step (g':=s.gens) (d':=s.drawn) (ch:=[]) (λ_ z=>nomatch z) (λb o _ _ _ e n=>hx b o (nP b n) e) (λb o _ _ _ e n=>⟨o.slots,hx b o (nP b n) e⟩) (λb o _ e n=>by rw[qad (nc b o e),qad (nP b n)]; exact n)
  (λb o _ e=> ?_) (λb xs e=> ?_) (λb o u e=> ?_) (λb qs e=> ?_) (λm hm=> ?_) (λb u e=> ?_) I.bare
 ·by_cases z:b=P
  ·exact ⟨_,by rw[z]; exact hP'⟩
  ·exact ⟨o,hx b o z e⟩
 ·rw[qad (nct b _ e),qad (λz=>by rw[z,hP] at e; cases e)]; exact e
 ·rw[qad (nct b _ e),qad (λz=>by rw[z,hP] at e; cases e)]; exact e
 ·by_cases z:b=P
  ·subst z
   rw[hP] at e; cases e
   exact ⟨more,by rw[qad cP,qak]⟩
  ·exact ⟨#[],by rw[qad (nct b _ e),qad z,e]; simp⟩
 ·exact hm.extBut hx (nP _ I.free)
 ·by_cases z:b=c'
  ·subst z
   rw[qak] at e; cases e
   exact hφ
  ·rw[qad z] at e
   by_cases z2:b=P
   ·subst z2
    rw[qak] at e; cases e
    exact hP'
   ·rw[qad z2] at e
    refine (I.hok b u e).stay (λc v hc2 q=>hx c v ?_ q) (λc q=> ?_) λc xs q=> ?_
    ·rcases hc2 with rfl | hc2
     ·exact z2
     ·intro z3; rw[z3,hP] at hc2; cases hc2
    ·rw[qad (nct c _ q),qad (λz3=>by rw[z3,hP] at q; cases q)]; exact q
    ·rw[qad (nct c _ q),qad (λz3=>by rw[z3,hP] at q; cases q)]; exact q
def qq7 (c:Addr) (qual:Str):HO:=.ext λh=>h.CodeRec (.ref c) qual
def Tab (P:Addr) (pos:Pos) (qual:Str) (H:Hp):Prop:=
 ∃ps,H P=some (.tbl ps)/\PySem.TriplesOk ps.toList/\(PySem.codeAmong pos ps.toList=none\/∃c,PySem.codeAmong pos ps.toList=some (.ref c)/\H c=some (qq7 c qual))
theorem qd0 {a b:Value} {c:Value} {la lb:Int} {ta tb:Tok} (ha:a= .int la ta) (hb:b= .int lb tb): ∀(l:List Value),PySem.TriplesOk l->PySem.TriplesOk (l++[a,b,c])
 | [],_=>by subst ha hb; exact trivial
 | [_],h=>by cases ‹Value› <;>exact h.elim
 | [x,y],h=>by cases x<;>first | exact h.elim | (cases y<;>exact h.elim)
 | x::y::z::r,h=>by
  cases x<;>first | exact h.elim | skip
  cases y<;>first | exact h.elim | skip
  exact qd0 ha hb r h
theorem qhA {c:Addr} {qual:Str} {h h':Heap} (x:h.CodeRec (.ref c) qual) (k: ∀o,h.get? c=some o->h'.get? c=some o):h'.CodeRec (.ref c) qual:=by
 obtain ⟨c2,oc,vs,tq,e,ho,hd,hq⟩:=x
 cases e
 exact ⟨c,oc,vs,tq,rfl,k _ ho,hd,hq⟩
def qlT (P:Addr) (H H':Hp):Prop:= ∀b o,H b=some o->b≠P->H' b=some o
theorem qmS {X:Cx} {pins:List (Addr×Obj)} {σ:St} {H:Hp} {s:Shared} {P c:Addr} {params:Arguments} {body:Expr} {scope:Scope} {pos:Pos} {qual:Str} {E:Value->Shared->Prop} {Q:Value->Shared->Prop} (I:Inv X pins σ H s)
  (hcode:X.env.code= .ref c) (C:PySem.W.CodeHd X.base c P) (hb: ∃bm ob,X.mg "__builtins__" =some (.ref bm)/\bm≠builtinsNs/\X.base.get? bm=some ob/\ob.cls= .type "module" /\ob.dict=some builtinsNs/\ob.data= .plain)
  (hfree: ∀x∈scope.names,x.2≠.free) (hd:defaultsOf params X.env=([],[])) (hq:X.env.qual++("<lambda>" :Str)=qual) (hT:Tab P pos qual H)
  (h: ∀(f c':Addr) (ctv:Value) (H':Hp) (s':Shared),Inv X pins σ H' s'->Tab P pos qual H'->qlT P H H'->(∀b,H b≠none->H' b≠none)->(∀b o,s.heap.get? b=some o->b≠P->s'.heap.get? b=some o)->s.heap.objs.size<=f->H' f=none->
   s'.heap.get? f=some (PySem.W.kla_obj "<lambda>" qual params body scope [] ((X.mg "__name__").getD .none) c' ctv)->s'.heap.CodeRec (.ref c') qual->Q (.ref f) s'):
  wpAny (model X.prog X.w) X.A (eval (.Lambda params body scope pos) X.env) Q E s:=by
 obtain ⟨ps,hP,htr,hor⟩:=hT
 have hgP:mainGlobals≠P:=λz=>by
  obtain ⟨o,es,ep,e,hdd,_⟩:=I.mod.glob
  have:=(I.bs _ _ e).2
  rw[z,hP] at this; cases this
 have hPo:s.heap.get? P=some (PySem.W.tabObj ps):=I.hok P _ hP
 have CS:PySem.W.CodeHd s.heap c P:=C.keeps I.bk
 have hbS:s.heap.BuiltinsAt X.mg P:=by
  obtain ⟨bm,ob,b1,b2,b3,b4,b5,b6⟩:=hb
  refine ⟨bm,ob,b1,b2,λz=> ?_,λz=> ?_,I.bk _ _ b3,b4,b5,b6⟩
  ·obtain ⟨o,es,ep,e,hdd,_⟩:=I.mod.glob
   rw[z,e] at b3; cases b3; rw[hdd] at b6; cases b6
  ·have:=(I.bs _ _ b3).2
   rw[z,hP] at this; cases this
 have hg:s.heap.Ns mainGlobals X.mg:=I.mod.glob.keeps I.bk
 refine PySem.W.kla_eval hd ?_
 rw[hq]
 rcases hor with hn | ⟨c2,hs,hH⟩
 ·refine PySem.W.kla_makeFunction (closureFor_none hfree) I.ok.glob hg hcode CS hPo htr hn hgP hbS λc' ctv h' tk hx hge hlt hrec htb=> ?_
  have I1:Inv X pins σ (upd (upd H P (.tbl (ps++ #[rawInt pos.line,rawInt pos.col,.ref c']))) c' (qq7 c' qual)) { s with heap:=h',toks:=tk }:=I.grow hP hx htb hge ⟨hrec,by
    obtain ⟨c2,oc,vs,tq,e,ho,_⟩:=hrec
    cases e
    exact ⟨oc,ho⟩,λh1 h2 p k=>qhA p k⟩
  have nP:P≠c':=Nat.ne_of_lt (Nat.lt_of_lt_of_le (I.hok P _ hP).lt hge)
  have sz:s.heap.objs.size<=h'.objs.size:=Nat.le_trans hge (Nat.le_of_lt hlt)
  refine h _ c' ctv _ _ (I1.kept (t':=tk) λb u e=>Heap.get?_push_of_some _ e) ⟨_,by rw[qad nP,qak],?_,.inr ⟨c',?_,qak⟩⟩ (λb o e hb=> ?_) (λb e=> ?_) (λb o e hb=>Heap.get?_push_of_some _ (hx b o hb e)) sz ?_ (Heap.get?_push_size _ rfl) (hrec.keeps λb o e=>Heap.get?_push_of_some _ e)
  ·rw[Array.toList_append]
   exact qd0 rfl rfl _ htr
  ·rw[Array.toList_append]
   exact PySem.codeAmong_snoc _ htr hn
  ·rw[qad (Nat.ne_of_lt (Nat.lt_of_lt_of_le (I.hok b _ e).lt hge)),qad hb]; exact e
  ·by_cases z:b=c'
   ·rw[z,qak]; simp
   ·rw[qad z]
    by_cases z2:b=P
    ·rw[z2,qak]; simp
    ·rw[qad z2]; exact e
  ·exact I1.hok.fresh (Nat.le_refl _)
 ·refine PySem.W.kla_makeFunctionHit (cv:=.ref c2) (closureFor_none hfree) I.ok.glob hg hcode CS hPo htr hs hbS λctv h' tk kp sz=> ?_
  have I1:Inv X pins σ H { s with heap:=h',toks:=tk }:=I.kept (t':=tk) kp
  have hrec:h'.CodeRec (.ref c2) qual:=(I1.hok c2 _ hH).1
  exact h _ c2 ctv H _ (I1.kept (t':=tk) λb u e=>Heap.get?_push_of_some _ e) ⟨ps,hP,htr,.inr ⟨c2,hs,hH⟩⟩ (λb o e _=>e) (λb e=>e) (λb o e _=>Heap.get?_push_of_some _ (kp b o e)) sz (I1.hok.fresh (Nat.le_refl _)) (Heap.get?_push_size _ rfl)
   (hrec.keeps λb o e=>Heap.get?_push_of_some _ e)
end L2
end
section
namespace L2
open PySem PySem.Spec PyProof.Rows
theorem qlT.seqL {K:PySem.W.Frag} {P:Addr} {H H':Hp} {a:Addr} {xs:List V} {ps:Array Value} (e:qlT P H H') (hP:H P=some (.tbl ps)) (h:SqL K H a xs):SqL K H' a xs:=by
 rcases h with (h | ⟨o,h⟩) | h
 ·exact .inl (.inl (e _ _ h λz=>by rw[z,hP] at h; cases h))
 ·exact .inl (.inr ⟨o,e _ _ h λz=>by rw[z,hP] at h; cases h⟩)
 ·exact .inr h
theorem qeo {xs:List V} {us:List Value} (r:Vals xs us) (j:Nat):RelV (xs.getD j .non) (us.getD j .none):=by
 induction r generalizing j with
 | nil=>exact rfl
 | cons a t ih=>
  cases j with
  | zero=>exact a
  | succ j=>simpa using ih j
theorem vals_pick {xs:List V} {us:List Value} (r:Vals xs us): ∀l:List Nat,Vals (l.map λj=>xs.getD j .non) (l.map λj=>us.getD j .none)
 | []=>.nil
 | j::l=>.cons (qeo r j) (vals_pick r l)
end L2
end
section
namespace L2
open PySem PySem.Spec PyProof.Rows
section
variable {X:Cx}
theorem qkw:OpR X (compareOp .LtE) (λx y H Q=> ∃i j,x= .str i/\y= .str j/\Q (.bl (!decide (j.cps.toList<i.cps.toList))) H):=by
 intro pins s σ H x y v u Q I rx ry h
 obtain ⟨i,j,rfl,rfl,q⟩:=h
 obtain ⟨t,rfl⟩:=rx
 obtain ⟨t',rfl⟩:=ry
 exact PySem.P.le_str ⟨.bl _,H,I,rfl,q⟩
theorem qhG: ∀{bs:List Bool} {us:List Value},Vals (bs.map V.bl) us->us=bs.map Value.bool
 | [],_,.nil=>rfl
 | b::bs,_,.cons r t=>by
  have e:_=Value.bool b:=r
  rw[e,qhG t]
  rfl
theorem qki (bs:List Bool):(List.range bs.length).all (λi=>bs.getD i false)=bs.all id:=by
 rw[Bool.eq_iff_iff,List.all_eq_true,List.all_eq_true]
 constructor
 ·intro h b hb
  obtain ⟨i,hi,rfl⟩:=List.mem_iff_getElem.mp hb
  have:=h i (List.mem_range.mpr hi)
  simpa [List.getD_eq_getElem?_getD,hi] using this
 ·intro h i hi
  have hi':=List.mem_range.mp hi
  have:=h bs[i] (List.getElem_mem hi')
  simpa [List.getD_eq_getElem?_getD,hi'] using this
theorem qem (hc:X.calm=true):qdf X (.builtin "all") (λxs H Q=> ∃(a:Addr) (bs:List Bool),xs=[.ref a]/\SqL X.K H a (bs.map V.bl)/\Q (.bl (bs.all id)) H):=by
 intro pins s σ H xs us Q I r h
 obtain ⟨a,bs,rfl,hS,q⟩:=h
 obtain ⟨u,rfl,ru⟩:=qeW r
 cases ru
 obtain ⟨its,rv,pl,hz⟩:=I.list hS
 have e:=qhG rv
 have hlt:a<s.heap.objs.size:=Heap.lt_size pl.isList.choose_spec.1
 have hh:X.A.in1.handled=none:=I.ok.hd hc
 refine call_all_walk (wpAny_pyIter_list pl.isList ?_)
 refine ⟨s.heap.objs.size,_,_,its.toArray.size,_,_,λi=>bs.getD i false,rfl,Walks.list hh s.heap.objs.size a (Nat.ne_of_lt hlt) its.toArray,⟨⟨_,Heap.get?_push_size _ rfl,rfl,rfl⟩,pl.isList.at λo e=>Heap.get?_push_of_some _ e⟩,λi v s' Q' E' hv hq=> ?_,λh' tk k=> ?_⟩
 ·rw[e] at hv
  have hv':(bs.map Value.bool)[i]? =some v:=by simpa using hv
  rw[List.getElem?_map] at hv'
  cases z:bs[i]? with
  | none=>rw[z] at hv'; cases hv'
  | some b=>
   rw[z] at hv'
   cases hv'
   have eb:bs.getD i false=b:=by simp[List.getD_eq_getElem?_getD,z]
   have hq':Q' (bs.getD i false) s':=hq
   rw[eb] at hq'
   exact wpAny_truthy_bool hq'
 ·have en:its.toArray.size=bs.length:=by rw[e]; simp
  rw[en,qki]
  refine ⟨.bl (bs.all id),H,?_,rfl,q⟩
  refine I.kept (t':=tk) λb o eo=>k b o ?_ (Heap.get?_push_of_some _ eo)
  intro z
  have:b=s.heap.objs.size:=by simpa using z
  exact Nat.ne_of_lt (Heap.lt_size eo) this
def VEq (X:Cx) (H:Hp) (x y:V) (b:Bool):Prop:= ∀(pins:List (Addr×Obj)) (σ:St) (s:Shared) (u v:Value),Inv X pins σ H s->RelV x u->RelV y v->SeqAt.EqAt X.A.in1 s u v b
theorem qhf (hu:X.A.units<cLine):OpR X (compareOp .Eq) (λx y H Q=> ∃a b xs ys,x= .ref a/\y= .ref b/\SqL X.K H a xs/\SqL X.K H b ys/\
  ((xs.length≠ys.length/\Q (.bl false) H)\/(xs.length=ys.length/\∃e:Nat->Bool,(∀i x y,xs[i]? =some x->ys[i]? =some y->VEq X H x y (e i))/\Q (.bl ((List.range xs.length).all e)) H))):=by
 intro pins s σ H x y v u Q I rx ry h
 obtain ⟨a,b,xs,ys,rfl,rfl,ha,hb,h⟩:=h
 cases rx; cases ry
 obtain ⟨i1,r1,p1,z1⟩:=I.list ha
 obtain ⟨i2,r2,p2,z2⟩:=I.list hb
 have l1:=r1.length
 have l2:=r2.length
 rcases h with ⟨hne,q⟩ | ⟨heq,e,he,q⟩
 ·exact SeqAt.eq_list_lengthsAt p1.isList p2.isList (by simp; lia) hu ⟨.bl false,H,I,rfl,q⟩
 ·refine SeqAt.eq_listAt (e:=e) p1.isList p2.isList (by simp; lia) hu (λj h1 h2=> ?_) ⟨.bl _,H,I,rfl,?_⟩
  ·have h1':j<i1.length:=by simpa using h1
   have h2':j<i2.length:=by simpa using h2
   have hx:xs[j]? =some xs[j]:=List.getElem?_eq_getElem (by lia)
   have hy:ys[j]? =some ys[j]:=List.getElem?_eq_getElem (by lia)
   obtain ⟨u1,e1,q1⟩:=r1.get hx
   obtain ⟨u2,e2,q2⟩:=r2.get hy
   have e3:i1.toArray[j]=u1:=by
    rw[List.getElem?_eq_getElem h1'] at e1
    simpa using Option.some.inj e1
   have e4:i2.toArray[j]=u2:=by
    rw[List.getElem?_eq_getElem h2'] at e2
    simpa using Option.some.inj e2
   rw[e3,e4]
   exact he j _ _ hx hy pins σ s u1 u2 I q1 q2
  ·rw[List.size_toArray,<-l1]; exact q
end
end L2
end
section
namespace L2
open PySem PySem.Spec PyProof.Rows
def Its (z:Str):It:=⟨λi _=>i<z.cps.size,λi H x H'=>H'=H/\∃c,z.cps[i]? =some c/\x= .str ⟨#[c]⟩,λi _=>z.cps.size<=i⟩
theorem ql5 {P:Program} {w:World} {K:PySem.W.Frag} {tg:Expr} {z:Str} {it:Addr} {ty:String} {t:Tok} (hty:ty= "str_ascii_iterator" \/ty= "str_iterator"):qpC P w K tg (Its z) [it] it (λi h=>h.IsStrIter it ty z t i) where
 mem:=by simp
 obj:=λi h st b hb=>by
  have e:b=it:=by simpa using hb
  subst e
  obtain ⟨o,e,c,d⟩:=st
  exact ⟨o,e,λv q=>by rw[d] at q; cases q⟩
 keep:=λi h h' st k=>by
  obtain ⟨o,e,r⟩:=st
  exact ⟨o,k it (by simp) _ e,r⟩
 item:=by
  intro X hP hw hK hc i pins s σ H E I hf st hg
  subst hP hw hK
  obtain ⟨f0,f1,f2,f3,f4,f5⟩:=hf it (by simp)
  have hcx:z.cps[i]? =some z.cps[i]:=Array.getElem?_eq_getElem hg
  have fin: ∀h',h'.IsStrIter it ty z t (i+1)->Heap.SameBut it s.heap h'->∃u,some (Value.str ⟨#[z.cps[i]]⟩ s.toks)=some u/\wpAny (model X.prog X.w) X.A (letOwnedTupleGo tg (.ref it) u) (λ_ s2=> ∃x H',Inv X pins σ H' s2/\RelV x u/\(Its z).yld i H x H'/\s2.heap.IsStrIter it ty z t (i+1)/\∀b∈[it],H' b=none) E { s with heap:=h',toks:=s.toks+1 }:=λh' st' sb=>by
   have I1:Inv X pins σ H { s with heap:=h',toks:=s.toks+1 }:=I.turned (λb o hb e=>(sb.2 b hb).trans e) f0 f1 f3 f4 f5
   obtain ⟨o,e,c,d⟩:=id st'
   refine ⟨_,rfl,qm0 (s:={ s with heap:=h',toks:=s.toks+1 }) e c d ?_ ⟨.str ⟨#[z.cps[i]]⟩,H,I1,⟨_,rfl⟩,⟨rfl,_,hcx,rfl⟩,st',λb hb=>(hf b hb).1⟩⟩
   rcases hty with rfl | rfl<;>decide
  rcases hty with rfl | rfl
  ·exact wpAny_pyNext_ascii_item st hcx λh' st' sb=>fin h' st' sb
  ·exact wpAny_pyNext_wide_item st hcx λh' st' sb=>fin h' st' sb
 done:=by
  intro X hP hw hK hc i pins s σ H E I hf st hg
  subst hP hw hK
  obtain ⟨f0,f1,f2,f3,f4,f5⟩:=hf it (by simp)
  have hcx:z.cps[i]? =none:=Array.getElem?_eq_none hg
  rcases hty with rfl | rfl
  ·exact wpAny_pyNext_ascii_end (I.ok.hd hc) st hcx λh' eb=>⟨rfl,I.turned (t':=s.toks) (λb o hb e=>eb b o hb e) f0 f1 f3 f4 f5⟩
  ·exact wpAny_pyNext_wide_end (I.ok.hd hc) st hcx λh' eb=>⟨rfl,I.turned (t':=s.toks) (λb o hb e=>eb b o hb e) f0 f1 f3 f4 f5⟩
 self:=λA i s Q E st h=>by
  rcases hty with rfl | rfl
  ·exact wpAny_pyIter_striter_ascii st h
  ·exact wpAny_pyIter_striter_wide st h
def quW (te:TE):TI:=λσ H R=>te σ H λx H1=> ∃z,x= .str z/\R (Its z) H1
theorem qqh {X:Cx} {tg e:Expr} {te:TE} (he:PE X e te):PI X tg e (quW te):=by
 intro pins s σ H R I h
 refine thn (he pins s σ H _ I h) λv s1 hq48=> ?_
 obtain ⟨x,H1,I1,r1,z,hz,q⟩:=hq48
 subst hz
 obtain ⟨t,rfl⟩:=r1
 have fin: ∀ty:String,(ty= "str_ascii_iterator" \/ty= "str_iterator")->PIE X pins σ tg R (.ref s1.heap.objs.size) { s1 with heap:=s1.heap.push { cls:=.type ty,data:=.fields #[.str z t,.int 0 0] } }:=λty hty=>
  ⟨_,_,_,Its z,H1,rfl,I1.kept (t':=s1.toks) λb o e=>Heap.get?_push_of_some _ e,ql5 (t:=t) hty,⟨_,Heap.get?_push_size _ rfl,rfl,rfl⟩,λb hb=>by
   have e:b=s1.heap.objs.size:=by simpa using hb
   subst e
   exact I1.fpOk (Nat.le_refl _) (I1.hok.fresh (Nat.le_refl _)),q⟩
 cases ha:z.cps.all (· <128)
 ·exact wpAny_pyIter_wide ha (fin _ (.inr rfl))
 ·exact wpAny_pyIter_ascii ha (fin _ (.inl rfl))
theorem Inv.turnT {X:Cx} {pins:List (Addr×Obj)} {σ:St} {H:Hp} {s:Shared} {h':Heap} {t':Nat} {ch:List Addr} {T:Addr} {xs:List V} (I:Inv X pins σ H s) (hch: ∀b∈ch,qjF X pins H b) (k: ∀b o,b∉ch->s.heap.get? b=some o->h'.get? b=some o)
  (hT:s.heap.objs.size<=T) (new:qbe X.prog X.w (upd H T (.tup xs)) h' T (.tup xs)):Inv X pins σ (upd H T (.tup xs)) { s with heap:=h',toks:=t' }:=by
 have nT: ∀b o,s.heap.get? b=some o->b≠T:=λb o e=>Nat.ne_of_lt (Nat.lt_of_lt_of_le (Heap.lt_size e) hT)
 have nTt: ∀b u,H b=some u->b≠T:=λb u e z=>by rw[z,I.hok.fresh hT] at e; cases e
 have nch: ∀b u,H b=some u->b∉ch:=λb u e z=>by rw[(hch b z).1] at e; cases e
 refine I.step (g':=s.gens) (d':=s.drawn) (ch:=ch) (λb hb=> ?_) (λb o _ _ hc e _=>k b o hc e) (λb o _ _ hc e _=>⟨o.slots,k b o hc e⟩) (λb o _ e n=>by rw[qad (nT b o e)]; exact n) (λb o hc e=>⟨o,k b o hc e⟩)
  (λb ys e=>by rw[qad (nTt b _ e)]; exact e) (λb o u e=>by rw[qad (nTt b _ e)]; exact e) (λb ps e=>⟨#[],by rw[qad (nTt b _ e),e]; simp⟩) (λm hm=> ?_) (λb u e=> ?_) I.bare
 ·obtain ⟨_,f1,_,f3,f4,f5⟩:=hch b hb
  exact ⟨f3,f1,f4,f5⟩
 ·obtain ⟨o,es,ep,ho,r⟩:=hm
  exact ⟨o,es,ep,k _ o (λz=>(hch _ z).2.1 rfl) ho,r⟩
 ·by_cases z:b=T
  ·subst z
   rw[qak] at e; cases e
   exact new
  ·rw[qad z] at e
   refine (I.hok b u e).stay (λc v hc q=>k c v ?_ q) (λc q=>by rw[qad (nTt c _ q)]; exact q) λc ys q=>by rw[qad (nTt c _ q)]; exact q
   rcases hc with rfl | hc
   ·exact nch _ _ e
   ·exact nch _ _ hc
theorem Inv.turnL {X:Cx} {pins:List (Addr×Obj)} {σ:St} {H:Hp} {s:Shared} {h':Heap} {t':Nat} {ch:List Addr} (I:Inv X pins σ H s) (hch: ∀b∈ch,qjF X pins H b) (k: ∀b o,b∉ch->s.heap.get? b=some o->h'.get? b=some o):
  Inv X pins σ H { s with heap:=h',toks:=t' }:=by
 have nch: ∀b u,H b=some u->b∉ch:=λb u e z=>by rw[(hch b z).1] at e; cases e
 refine I.step (g':=s.gens) (d':=s.drawn) (ch:=ch) (λb hb=> ?_) (λb o _ _ hc e _=>k b o hc e) (λb o _ _ hc e _=>⟨o.slots,k b o hc e⟩) (λb o _ e n=>n) (λb o hc e=>⟨o,k b o hc e⟩)
  (λb ys e=>e) (λb o u e=>e) (λb ps e=>⟨#[],by rw[e]; simp⟩) (λm hm=> ?_) (λb u e=> ?_) I.bare
 ·obtain ⟨_,f1,_,f3,f4,f5⟩:=hch b hb
  exact ⟨f3,f1,f4,f5⟩
 ·obtain ⟨o,es,ep,ho,r⟩:=hm
  exact ⟨o,es,ep,k _ o (λz=>(hch _ z).2.1 rfl) ho,r⟩
 ·refine (I.hok b u e).stay (λc v hc q=>k c v ?_ q) (λc q=>q) λc ys q=>q
  rcases hc with rfl | hc
  ·exact nch _ _ e
  ·exact nch _ _ hc
def Itz (K:PySem.W.Frag) (l1 l2:Addr):It:=
 ⟨λi H=> ∃xs ys,SqL K H l1 xs/\SqL K H l2 ys/\i<xs.length/\i<ys.length,
   λi H v H'=> ∃T x y,v= .ref T/\H T=none/\H'=upd H T (.tup [x,y])/\(∀xs,SqL K H l1 xs->xs[i]? =some x)/\∀ys,SqL K H l2 ys->ys[i]? =some y,
   λi H=> ∃xs ys,SqL K H l1 xs/\SqL K H l2 ys/\i=min xs.length ys.length⟩
def qtv (z TI TO i1 i2 l1 l2:Addr) (i:Nat) (h:Heap):Prop:=
 IsZip h z TI TO .none/\IsPair h TI (.ref i1) (.ref i2)/\(∃a b,IsPair h TO a b)/\h.IsListIter i1 l1 i/\h.IsListIter i2 l2 i
theorem ql4 {P:Program} {w:World} {K:PySem.W.Frag} {elts:List Expr} {k:Nat} {pos:Pos} {z TI TO i1 i2 l1 l2:Addr} (D:ZipApart z TI TO i1 i2 l1 l2):qpC P w K (.Tuple elts k pos) (Itz K l1 l2) [z,TI,TO,i1,i2] z (qtv z TI TO i1 i2 l1 l2) where
 mem:=by simp
 obj:=λi h st b hb=>by
  obtain ⟨a1,a2,⟨x,y,a3⟩,⟨o4,a4,c4,d4⟩,⟨o5,a5,c5,d5⟩⟩:=st
  have hb':b=z\/b=TI\/b=TO\/b=i1\/b=i2:=by simpa using hb
  rcases hb' with rfl | rfl | rfl | rfl | rfl
  ·exact ⟨_,a1,λv q=>by have q':Data.fields _=Data.cell v:=q; cases q'⟩
  ·exact ⟨_,a2,λv q=>by have q':Data.seq _ _=Data.cell v:=q; cases q'⟩
  ·exact ⟨_,a3,λv q=>by have q':Data.seq _ _=Data.cell v:=q; cases q'⟩
  ·exact ⟨o4,a4,λv q=>by rw[d4] at q; cases q⟩
  ·exact ⟨o5,a5,λv q=>by rw[d5] at q; cases q⟩
 keep:=λi h h' st kk=>by
  obtain ⟨a1,a2,⟨x,y,a3⟩,a4,a5⟩:=st
  exact ⟨kk z (by simp) _ a1,kk TI (by simp) _ a2,⟨x,y,kk TO (by simp) _ a3⟩,a4.at λo e=>kk i1 (by simp) o e,a5.at λo e=>kk i2 (by simp) o e⟩
 item:=by
  intro X hP hw hK hc i pins s σ H E I hf st hg
  subst hP hw hK
  obtain ⟨xs,ys,h1,h2,g1,g2⟩:=hg
  obtain ⟨its1,r1,p1,z1⟩:=I.list h1
  obtain ⟨its2,r2,p2,z2⟩:=I.list h2
  have e1:=r1.length
  have e2:=r2.length
  have W:=WalksT.zip2 (prog:=X.prog) (w:=X.w) (I.ok.hd hc) z TI TO i1 i2 l1 l2 D its1.toArray its2.toArray
  obtain ⟨a1,a2,a3,a4,a5⟩:=st
  have hch: ∀b∈[z,TO,i1,i2],qjF X pins H b:=λb hb=>hf b (by
   have hb':b=z\/b=TO\/b=i1\/b=i2:=by simpa using hb
   rcases hb' with rfl | rfl | rfl | rfl<;>simp)
  refine W.item i s _ E (by simp; lia) ⟨a1,a2,a3,a4,a5,p1.isList,p2.isList⟩ λT vals h' tk hv hT hti hmid kp=> ?_
  obtain ⟨u1,u2,q1,q2,rfl⟩:=hv
  refine ⟨_,rfl,W.go elts k pos i T _ _ E hmid λh2' st' kp2=> ?_⟩
  obtain ⟨b1,b2,b3,b4,b5,_,_⟩:=st'
  have nT:T∉[z,TO,i1,i2]:=W.apart i T h' hmid
  obtain ⟨ox,hox,rox⟩:=hti
  have hx1:xs[i]? =some xs[i]:=List.getElem?_eq_getElem g1
  have hy1:ys[i]? =some ys[i]:=List.getElem?_eq_getElem g2
  obtain ⟨w1,ew1,rw1⟩:=r1.get hx1
  obtain ⟨w2,ew2,rw2⟩:=r2.get hy1
  have eu1:its1[i]? =some u1:=by simpa using q1
  have eu2:its2[i]? =some u2:=by simpa using q2
  rw[eu1] at ew1; cases ew1
  rw[eu2] at ew2; cases ew2
  have I1:Inv X pins σ (upd H T (.tup [xs[i],ys[i]])) { s with heap:=h2',toks:=tk }:=by
   refine I.turnT hch (λb o hb e=>kp2 b o hb (kp b o hb e)) hT ⟨by show 2<=sizeLine; decide,[u1,u2],.cons rw1 (.cons rw2 .nil),ox,kp2 T ox nT hox,rox⟩
  refine ⟨.ref T,_,I1,rfl,⟨T,_,_,rfl,I.hok.fresh hT,rfl,λxs' hx'=>by rw[I.list_inj hx' h1]; exact hx1,λys' hy'=>by rw[I.list_inj hy' h2]; exact hy1⟩,⟨b1,b2,b3,b4,b5⟩,λb hb=> ?_⟩
  obtain ⟨o,eo,_⟩: ∃o,s.heap.get? b=some o/\True:=by
   have hb':b=z\/b=TI\/b=TO\/b=i1\/b=i2:=by simpa using hb
   obtain ⟨x,y,a3'⟩:=a3
   obtain ⟨o4,a4',_⟩:=a4
   obtain ⟨o5,a5',_⟩:=a5
   rcases hb' with rfl | rfl | rfl | rfl | rfl
   ·exact ⟨_,a1,trivial⟩
   ·exact ⟨_,a2,trivial⟩
   ·exact ⟨_,a3',trivial⟩
   ·exact ⟨_,a4',trivial⟩
   ·exact ⟨_,a5',trivial⟩
  rw[qad (Nat.ne_of_lt (Nat.lt_of_lt_of_le (Heap.lt_size eo) hT))]
  exact (hf b hb).1
 done:=by
  intro X hP hw hK hc i pins s σ H E I hf st hg
  subst hP hw hK
  obtain ⟨xs,ys,h1,h2,g1⟩:=hg
  obtain ⟨its1,r1,p1,z1⟩:=I.list h1
  obtain ⟨its2,r2,p2,z2⟩:=I.list h2
  have e1:=r1.length
  have e2:=r2.length
  have W:=WalksT.zip2 (prog:=X.prog) (w:=X.w) (I.ok.hd hc) z TI TO i1 i2 l1 l2 D its1.toArray its2.toArray
  have hch: ∀b∈[z,TO,i1,i2],qjF X pins H b:=λb hb=>hf b (by
   have hb':b=z\/b=TO\/b=i1\/b=i2:=by simpa using hb
   rcases hb' with rfl | rfl | rfl | rfl<;>simp)
  obtain ⟨a1,a2,a3,a4,a5⟩:=st
  have en:min its1.toArray.size its2.toArray.size=i:=by simp; lia
  rw[en] at W
  exact W.done s _ E ⟨a1,a2,a3,a4,a5,p1.isList,p2.isList⟩ λh' tk kp=>⟨rfl,I.turnL hch kp⟩
 self:=λA i s Q E st h=>wpAny_pyIter_zip st.1 h
end L2
end
section
namespace L2
open PySem PySem.Spec PyProof.Rows
def qhF (mg:Str->Option Value) (base:Heap):Prop:= ∃bm ob,mg "__builtins__" =some (.ref bm)/\bm≠builtinsNs/\base.get? bm=some ob/\ob.cls= .type "module" /\ob.dict=some builtinsNs/\ob.data= .plain
end L2
end
section
namespace L2
open PySem PySem.Spec PySem.Calls PyProof.Rows
theorem qbe.obj {P:Program} {w:World} {H:Hp} {h:Heap} {a:Addr} {o:HO} (x:qbe P w H h a o): ∃u,h.get? a=some u:=by
 cases o with
 | lst xs=>obtain ⟨_,_,_,_,e⟩:=x; exact ⟨_,e⟩
 | tup xs=>obtain ⟨_,_,_,p⟩:=x; exact p.imp λ_ q=>q.1
 | dK kvs=>obtain ⟨_,_,_,_,o,_,_,e,_⟩:=x; exact ⟨_,e⟩
 | dT kvs=>obtain ⟨_,_,_,_,o,_,_,e,_⟩:=x; exact ⟨_,e⟩
 | set S n=>obtain ⟨o,_,_,_,e,_⟩:=x; exact ⟨_,e⟩
 | ins C dx fs=>obtain ⟨_,_,_,e,_⟩:=x; exact ⟨_,e⟩
 | own y=>obtain ⟨_,e⟩:=x; exact ⟨_,e⟩
 | xd fs=>obtain ⟨_,⟨_,_,_,e,_⟩,_⟩:=x; exact ⟨_,e⟩
 | rng lo hi=>obtain ⟨_,_,_,e⟩:=x; exact ⟨_,e⟩
 | frz ob u=>obtain ⟨e,_⟩:=x; exact ⟨_,e⟩
 | tbl ps=>exact ⟨_,(show h.get? a=some _ from x)⟩
 | met f y=>exact ⟨_,(show h.get? a=some _ from x)⟩
 | ext φ=>obtain ⟨_,⟨_,e⟩,_⟩:=x; exact ⟨_,e⟩
structure qtX (P:Program) (w:World) (outer:List Env) (H:Hp) (s:Shared) (H':Hp) (B h':Heap):Prop where
 hok:HOk P w H' B
 st:B.StaysIn h'
 bk: ∀b o,s.heap.get? b=some o->H b=none->b∉frs outer->B.get? b=some o
 th: ∀b o,s.heap.get? b=some o->b∉frs outer->∃o',B.get? b=some o'
 sl: ∀b o,s.heap.get? b=some o->b∈frs outer->(∀vs,o.data≠.fields vs)/\∃sl,h'.get? b=some { o with slots:=sl }
 free: ∀b o,s.heap.get? b=some o->H b=none->H' b=none
 tups: ∀b xs,H b=some (.tup xs)->H' b=some (.tup xs)
 frzs: ∀b o u,H b=some (.frz o u)->H' b=some (.frz o u)
 tbls: ∀b ps,H b=some (.tbl ps)->∃more,H' b=some (.tbl (ps++more))
structure Fly (P:Program) (w:World) (outer:List Env) (H:Hp) (s:Shared) (C:Addr) (H':Hp) (a t:Addr) (B:Heap) (s':Shared):Prop where
 os:s'.os=s.os
 bare:AllBare s'.gens
 fly:Heap.FlyingW B outer a (.ref C) (.ref t) s'.heap
 lies:qtX P w outer H s H' B s'.heap
 new:H' a=none
structure Held (P:Program) (w:World) (outer:List Env) (H:Hp) (s:Shared) (C:Addr) (H':Hp) (a t L:Addr) (B:Heap) (s':Shared):Prop where
 os:s'.os=s.os
 bare:AllBare s'.gens
 held:Heap.HeldW B outer a (.ref C) (.ref t) L s'.heap
 lies:qtX P w outer H s H' B s'.heap
 new:H' a=none
end L2
end
section
namespace L2
open PySem PySem.Spec PySem.Calls PyProof.Rows
abbrev Cx.within (X:Cx) (a:Addr):Cx:={ X with A:=X.A.mark (some (.ref a)),calm:=false,xe:=λ_ _=>False }
end L2
end
section
namespace L2
open PySem PySem.Spec PySem.Calls PyProof.Rows
section
variable {prog:Program} {w:World} {A:Around} {E:Value->Shared->Prop} {h:Heap} {g:Array GenState} {d:Drawn} {t:Nat} {os:OsState} {a:Addr} {o:Obj}
 {nm q:Str} {C N:Addr} {bs bm:List Value} {hdct:Bool} {sn:List Str} {sub:List Value} {ab:Bool} {col:Option Bool} {dd:Option Addr} {k0 k1 k2 k3 k5:Option Value} {newId:String} {mN:Str->Option Value}
end
end L2
end
section
namespace L2
open PySem PySem.Spec PySem.Calls PyProof.Rows
end L2
end
section
namespace L2
open PySem PySem.Spec PyProof.Rows
section
variable {κ:Type} [DecidableEq κ]
def qfv (kvs:List (κ×V)) (k:κ):Option V:=(kvs.find? λkv=>decide (kv.1=k)).map (·.2)
def qgY (kvs:List (κ×V)) (k:κ) (v:V):List (κ×V):=
 if (kvs.any λkv=>decide (kv.1=k))=true then kvs.map (λkv=>if kv.1=k then (kv.1,v) else kv) else kvs++[(k,v)]
theorem qec {p:κ×V} {r:List (κ×V)} {k:κ} (e:p.1=k):qfv (p::r) k=some p.2:=by simp[qfv,List.find?_cons,e]
theorem qed {p:κ×V} {r:List (κ×V)} {k:κ} (e: ¬p.1=k):qfv (p::r) k=qfv r k:=by simp[qfv,List.find?_cons,e]
theorem qhI (k:κ): ∀kvs:List (κ×V),(kvs.any λkv=>decide (kv.1=k))=(qfv kvs k).isSome
 | []=>rfl
 | p::r=>by
  rw[List.any_cons]
  by_cases e:p.1=k
  ·simp only[qec e,decide_eq_true e,Bool.true_or,Option.isSome_some]
  ·rw[qed e,decide_eq_false e,Bool.false_or]; exact qhI k r
theorem qez (kvs:List (κ×V)) (k:κ) (v:V):(qgY kvs k v).length<=kvs.length+1:=by
 unfold qgY
 split
 ·rw[List.length_map]; omega
 ·rw[List.length_append,List.length_cons,List.length_nil]; omega
theorem qjD.isSome_eq {o:Option V} {u:Option Value} (r:qjD o u):o.isSome=u.isSome:=by
 cases o with
 | none=>cases u with
  | none=>rfl
  | some _=>exact (show False from r).elim
 | some _=>cases u with
  | none=>exact (show False from r).elim
  | some _=>rfl
theorem qjD.getD {o:Option V} {u:Option Value} {d:V} {d':Value} (r:qjD o u) (rd:RelV d d'):RelV (o.getD d) (u.getD d'):=by
 cases o with
 | none=>cases u with
  | none=>exact rd
  | some _=>exact (show False from r).elim
 | some _=>cases u with
  | none=>exact (show False from r).elim
  | some _=>exact r
theorem KV.val {kvs:List (κ×V)} {vs:List (κ×Value)} (r:KV kvs vs) (k:κ):qjD (qfv kvs k) (valueAt vs k):=by
 unfold KV at r
 induction r with
 | nil=>exact True.intro
 | @cons p q ps qs h t ih=>
  obtain ⟨h1,h2⟩:=h
  by_cases e:p.1=k
  ·have e':q.1=k:=h1.symm.trans e
   have b:valueAt (q::qs) k=some q.2:=by simp[valueAt,List.find?_cons,e']
   rw[qec e,b]; exact h2
  ·have e': ¬q.1=k:=λz=>e (h1.trans z)
   have b:valueAt (q::qs) k=valueAt qs k:=by simp[valueAt,List.find?_cons,e']
   rw[qed e,b]; exact ih
theorem KV.any {kvs:List (κ×V)} {vs:List (κ×Value)} (r:KV kvs vs) (k:κ):(kvs.any λkv=>decide (kv.1=k))=vs.any λkv=>decide (kv.1=k):=by
 unfold KV at r
 induction r with
 | nil=>rfl
 | cons h t ih=>rw[List.any_cons,List.any_cons,ih,h.1]
theorem KV.repl {kvs:List (κ×V)} {vs:List (κ×Value)} (r:KV kvs vs) (k:κ) {y:V} {u:Value} (ry:RelV y u):
  KV (kvs.map λkv=>if kv.1=k then (kv.1,y) else kv) (vs.map λkv=>if kv.1=k then (kv.1,u) else kv):=by
 unfold KV at r⊢
 induction r with
 | nil=>exact .nil
 | @cons p q ps qs h t ih=>
  rw[List.map_cons,List.map_cons]
  refine .cons ?_ ih
  obtain ⟨h1,h2⟩:=h
  by_cases e:p.1=k
  ·rw[if_pos e,if_pos (h1.symm.trans e)]; exact ⟨h1,ry⟩
  ·rw[if_neg e,if_neg (λz=>e (h1.trans z))]; exact ⟨h1,h2⟩
theorem KV.put {kvs:List (κ×V)} {vs:List (κ×Value)} (r:KV kvs vs) (k:κ) {y:V} {u:Value} (ry:RelV y u):KV (qgY kvs k y) (stored vs k u):=by
 unfold qgY stored
 rw[r.any k]
 by_cases e:(vs.any λkv=>decide (kv.1=k))=true
 ·rw[if_pos e,if_pos e]; exact r.repl k ry
 ·rw[if_neg e,if_neg e]; exact Paired.snoc r ⟨rfl,ry⟩
theorem KV.length {kvs:List (κ×V)} {vs:List (κ×Value)} (r:KV kvs vs):kvs.length=vs.length:=Paired.length r
end
theorem qkV {P:Program} {w:World} {k:Key} {u:Value} (r:RelV (kV k) u):(qbg P w).is k u=true:=by
 cases k with
 | inl i=>obtain ⟨t,e⟩:=(show ∃t,u=Value.int i t from r); subst e; exact qhi P w i t
 | inr x=>obtain ⟨t,e⟩:=(show ∃t,u=Value.str x t from r); subst e; exact qhh P w x t
theorem qgt {P:Program} {w:World}: ∀{ks:List Key} {us:List Value},Vals (ks.map kV) us->ItemsAre (qbg P w) ks us
 | [],_,r=>by rw[List.map_nil] at r; cases r; exact .nil
 | k::ks,_,r=>by
  rw[List.map_cons] at r
  cases r with
  | cons h t=>exact .cons (qkV h) (qgt t)
abbrev KT (H:Hp):List (List Key×V)->List (List Key×Addr×Value)->Prop:=Paired λp q=>p.1=q.1/\H q.2.1=some (.tup (p.1.map kV))/\RelV p.2 q.2.2
theorem KT.val {H:Hp} {kvs:List (List Key×V)} {xs:List (List Key×Addr×Value)} (r:KT H kvs xs) (k:List Key):qjD (qfv kvs k) ((atKey xs k).map (·.2)):=by
 induction r with
 | nil=>exact True.intro
 | @cons p q ps qs h t ih=>
  obtain ⟨h1,_,h2⟩:=h
  by_cases e:p.1=k
  ·have e':q.1=k:=h1.symm.trans e
   have b:atKey (q::qs) k=some q.2:=by simp[atKey,List.find?_cons,e']
   rw[qec e,b]; exact h2
  ·have e': ¬q.1=k:=λz=>e (h1.trans z)
   have b:atKey (q::qs) k=atKey qs k:=by simp[atKey,List.find?_cons,e']
   rw[qed e,b]; exact ih
theorem KT.repl {H:Hp} {kvs:List (List Key×V)} {xs:List (List Key×Addr×Value)} (r:KT H kvs xs) (k:List Key) {y:V} {u:Value} (ry:RelV y u):
  KT H (kvs.map λkv=>if kv.1=k then (kv.1,y) else kv) (xs.map (putAt k u)):=by
 induction r with
 | nil=>exact .nil
 | @cons p q ps qs h t ih=>
  rw[List.map_cons,List.map_cons]
  refine .cons ?_ ih
  obtain ⟨h1,h2,h3⟩:=h
  unfold putAt
  by_cases e:p.1=k
  ·rw[if_pos e,if_pos (h1.symm.trans e)]; exact ⟨h1,h2,ry⟩
  ·rw[if_neg e,if_neg (λz=>e (h1.trans z))]; exact ⟨h1,h2,h3⟩
theorem KT.put {H:Hp} {kvs:List (List Key×V)} {xs:List (List Key×Addr×Value)} (r:KT H kvs xs) (k:List Key) {b:Addr} {y:V} {u:Value} (hb:H b=some (.tup (k.map kV))) (ry:RelV y u):
  KT H (qgY kvs k y) (storedH xs k b u):=by
 have e:(kvs.any λkv=>decide (kv.1=k))=(atKey xs k).isSome:=by
  rw[qhI,(r.val k).isSome_eq,Option.isSome_map]
 unfold qgY storedH
 rw[e]
 by_cases q:(atKey xs k).isSome=true
 ·rw[if_pos q,if_pos q]; exact r.repl k ry
 ·rw[if_neg q,if_neg q]; exact Paired.snoc r ⟨rfl,hb,ry⟩
theorem KT.keeps {H H':Hp} {kvs:List (List Key×V)} {xs:List (List Key×Addr×Value)} (r:KT H kvs xs) (ht: ∀b ys,H b=some (.tup ys)->H' b=some (.tup ys)):KT H' kvs xs:=
 Paired.mapP r λ_ _ z=>⟨z.1,ht _ _ z.2.1,z.2.2⟩
section
variable {P:Program} {w:World} {H:Hp} {h:Heap} {a:Addr}
theorem qp2 {u:HO} (ok:HOk P w H h) (e:Rd H a u):qbe P w H h a u:=e.ok ok
theorem qjq {kvs:List (Key×V)} (ok:HOk P w H h) (e:Rd H a (.dK kvs)):kvs.length<=sizeLine/\(a==sysModules)=false/\∃vs,KV kvs vs/\h.DictOf (qbg P w) a vs:=
 show qbe P w H h a (.dK kvs) from qp2 ok e
theorem qtg {kvs:List (Key×V)} (ok:HOk P w H h) (e:H a=some (.dK kvs)):kvs.length<=sizeLine/\(a==sysModules)=false/\∃vs,KV kvs vs/\h.DictOf (qbg P w) a vs:=qjq ok (.inl e)
theorem qgs {ks:List Key} (ok:HOk P w H h) (e:H a=some (.tup (ks.map kV))):(tupleKind (qbg P w)).is h ks a:=by
 obtain ⟨_,its,r,o,h1,h2,n,h3⟩:=(show qbe P w H h a (.tup (ks.map kV)) from ok a _ e)
 exact ⟨o,its.toArray,n,h1,h2,h3,by simpa using qgt r⟩
theorem qjp {kvs:List (List Key×V)} (ok:HOk P w H h) (e:Rd H a (.dT kvs)):kvs.length<=sizeLine/\(a==sysModules)=false/\
  ∃xs,KT H kvs xs/\h.DictOfH (tupleKind (qbg P w)) a xs:=by
 obtain ⟨z,y,xs,r,o,es,ep,h1,h2,h3,h4,h5⟩:=(show qbe P w H h a (.dT kvs) from qp2 ok e)
 refine ⟨z,y,xs,r,o,es,ep,h1,h2,h3,h4,λx hx=> ?_,h5⟩
 have all: ∀{l:List (List Key×V)} {m:List (List Key×Addr×Value)},KT H l m->∀x∈m,(tupleKind (qbg P w)).is h x.1 x.2.1:=by
  intro l m q
  induction q with
  | nil=>intro x hx; exact nomatch hx
  | @cons p q ps qs hq t ih=>
   intro x hx
   rcases List.mem_cons.mp hx with e | hx
   ·subst e
    exact qgs ok (by rw[<-hq.1]; exact hq.2.1)
   ·exact ih x hx
 exact all r x hx
theorem qqY {kvs:List (List Key×V)} (ok:HOk P w H h) (e:H a=some (.dT kvs)):kvs.length<=sizeLine/\(a==sysModules)=false/\
  ∃xs,KT H kvs xs/\h.DictOfH (tupleKind (qbg P w)) a xs:=qjp ok (.inl e)
end
def qgX (H:Hp) (a:Addr) (y:V) (r:Option V):Prop:=
 (∃kvs k,Rd H a (.dK kvs)/\y=kV k/\r=qfv kvs k)\/∃kvs k b,Rd H a (.dT kvs)/\y= .ref b/\H b=some (.tup (k.map kV))/\r=qfv kvs k
def qlU (H:Hp) (a:Addr) (y v:V) (H':Hp):Prop:=
 (∃kvs k,H a=some (.dK kvs)/\y=kV k/\kvs.length<sizeLine/\H'=upd H a (.dK (qgY kvs k v)))\/
 ∃kvs k b,H a=some (.dT kvs)/\y= .ref b/\H b=some (.tup (k.map kV))/\kvs.length<sizeLine/\H'=upd H a (.dT (qgY kvs k v))
theorem qgX.k {H:Hp} {a:Addr} {kvs:List (Key×V)} {k:Key} (e:H a=some (.dK kvs)):qgX H a (kV k) (qfv kvs k):=.inl ⟨kvs,k,.inl e,rfl,rfl⟩
theorem qgX.t {H:Hp} {a b:Addr} {kvs:List (List Key×V)} {k:List Key} (e:H a=some (.dT kvs)) (eb:H b=some (.tup (k.map kV))):qgX H a (.ref b) (qfv kvs k):=.inr ⟨kvs,k,b,.inl e,rfl,eb,rfl⟩
theorem qlU.k {H:Hp} {a:Addr} {kvs:List (Key×V)} {k:Key} {v:V} (e:H a=some (.dK kvs)) (hl:kvs.length<sizeLine):qlU H a (kV k) v (upd H a (.dK (qgY kvs k v))):=.inl ⟨kvs,k,e,rfl,hl,rfl⟩
theorem qlU.t {H:Hp} {a b:Addr} {kvs:List (List Key×V)} {k:List Key} {v:V} (e:H a=some (.dT kvs)) (eb:H b=some (.tup (k.map kV))) (hl:kvs.length<sizeLine):
  qlU H a (.ref b) v (upd H a (.dT (qgY kvs k v))):=.inr ⟨kvs,k,b,e,rfl,eb,hl,rfl⟩
section
variable {X:Cx} {pins:List (Addr×Obj)} {σ:St} {H:Hp} {s:Shared} {a:Addr} {y v:V} {u r:Value} {o:Option V} {A:Around} {E:Value->Shared->Prop}
theorem Inv.big (I:Inv X pins σ H s):sysModules<s.heap.objs.size:=by
 have h:mainGlobals<s.heap.objs.size:=(I.mod.glob.keeps I.bk).lt
 exact Nat.lt_trans (by decide) h
theorem qlz {Q:Value->Shared->Prop} (hu:A.units+1<cLine) (I:Inv X pins σ H s) (g:qgX H a y (some v)) (ry:RelV y u) (h: ∀w' s',Inv X pins σ H s'->RelV v w'->Q w' s'):
  wpAny (model X.prog X.w) A (getItem (.ref a) u) Q E s:=by
 rcases g with ⟨kvs,k,e,ey,l⟩ | ⟨kvs,k,b,e,ey,eb,l⟩
 ·subst ey
  obtain ⟨z,hd,vs,rel,dd⟩:=qjq I.hok e
  obtain ⟨w',hw,rw'⟩:=qjD.some_of (v:=v) (o:=valueAt vs k) (by rw[l]; exact rel.val k)
  exact wpAny_getItem_of (qkV ry) dd.mapOf hw (h w' _ (I.tok _) rw')
 ·subst ey
  cases (show u=Value.ref b from ry)
  obtain ⟨z,hd,xs,rel,dd⟩:=qjp I.hok e
  obtain ⟨w',hw,rw'⟩:=qjD.some_of (v:=v) (o:=(atKey xs k).map (·.2)) (by rw[l]; exact rel.val k)
  obtain ⟨p,hp,hp2⟩:=Option.map_eq_some_iff.mp hw
  refine wpAny_getItem_heap (tupleKind_room_in1 hu) (qgs I.hok eb) dd hp ?_
  rw[hp2]
  exact h w' _ (I.tok _) rw'
theorem qu3 {Q:Value->Shared->Prop} (hu:A.units+1<cLine) (I:Inv X pins σ H s) (g:qgX H a y o) (ry:RelV y u) (h: ∀s',Inv X pins σ H s'->Q (.bool o.isSome) s'):
  wpAny (model X.prog X.w) A (compareOp .In u (.ref a)) Q E s:=by
 rcases g with ⟨kvs,k,e,ey,l⟩ | ⟨kvs,k,b,e,ey,eb,l⟩
 ·subst ey
  obtain ⟨z,hd,vs,rel,dd⟩:=qjq I.hok e
  refine wpAny_in_of (qkV ry) hd dd.mapOf ?_
  rw[<-(rel.val k).isSome_eq,<-l]
  exact h _ (I.tok _)
 ·subst ey
  cases (show u=Value.ref b from ry)
  obtain ⟨z,hd,xs,rel,dd⟩:=qjp I.hok e
  refine wpAny_in_heap (tupleKind_room_in1 hu) (qgs I.hok eb) hd dd ?_
  have q:=(rel.val k).isSome_eq
  rw[Option.isSome_map] at q
  rw[<-q,<-l]
  exact h _ (I.tok _)
theorem qlx {h':Heap} {t':Nat} {ob:HO} (I:Inv X pins σ H s) (mu:Mut (H a)) (hs:Heap.SameBut a s.heap h') (he: ∃q,h'.get? a=some q) (new:qbe X.prog X.w (upd H a ob) h' a ob):
  Inv X pins σ (upd H a ob) { s with heap:=h',toks:=t' }:=
 I.write (x:=a) (e:=a) mu (.inl rfl) (λb q hb z=>(hs.2 b hb).trans z) he new
theorem qq0 {P:Program} {w:World} {H':Hp} {h':Heap} {kvs:List (Key×V)} {vs:List (Key×Value)} (z:kvs.length<=sizeLine) (hd:(a==sysModules)=false) (rel:KV kvs vs) (dd:h'.DictOf (qbg P w) a vs):
  qbe P w H' h' a (.dK kvs):=⟨z,hd,vs,rel,dd⟩
theorem qly {H':Hp} {Q:Unit->Shared->Prop} (hu:A.units+1<cLine) (I:Inv X pins σ H s) (g:qlU H a y v H') (ry:RelV y u) (rv:RelV v r) (h: ∀s',Inv X pins σ H' s'->Q () s'):
  wpAny (model X.prog X.w) A (setItem (.ref a) u r) Q E s:=by
 rcases g with ⟨kvs,k,e,ey,l,eH⟩ | ⟨kvs,k,b,e,ey,eb,l,eH⟩
 ·subst ey eH
  obtain ⟨z,hd,vs,rel,dd⟩:=qtg I.hok e
  have hz:vs.length<=sizeLine:=by rw[<-rel.length]; exact z
  have hl:(qgY kvs k v).length<=sizeLine:=by have:=qez kvs k v; omega
  refine wpAny_setItem_pairs (hsz:=hz) (qkV ry) dd λh' dd' hs=>h _ ?_
  have he: ∃q,h'.get? a=some q:=let ⟨q,_,_,hq,_⟩:=dd'; ⟨q,hq⟩
  exact qlx I (by rw[e]; exact True.intro) hs he (qq0 hl hd (rel.put k rv) dd')
 ·subst ey eH
  cases (show u=Value.ref b from ry)
  obtain ⟨z,hd,xs,rel,dd⟩:=qqY I.hok e
  have hz:xs.length<=sizeLine:=by rw[<-Paired.length rel]; exact z
  have hl:(qgY kvs k v).length<=sizeLine:=by have:=qez kvs k v; omega
  refine wpAny_setItem_heap (hsz:=hz) (tupleKind_room_in1 hu) (qgs I.hok eb) dd λh' dd' hs=>h _ ?_
  obtain ⟨q,es,ep,hq,h2,h3,h4,_,h5⟩:=dd'
  refine qlx I (by rw[e]; exact True.intro) hs ⟨q,hq⟩ ⟨hl,hd,_,(rel.put k eb rv).keeps λc ys ec=> ?_,q,es,ep,hq,h2,h3,h4,h5⟩
  rw[qad (qoK ec e (λz=>nomatch z))]
  exact ec
end
def qrs (i:Expr):Prop:= ∀ov iv,subscripted i false ov iv=operate [ov,iv] (getItem ov iv)
theorem qjS {prog:Program} {w:World} {A:Around} {E:Value->Shared->Prop} {s:Shared} {env:Env} {value slice:Expr} {pos:Pos} {T id:String} {Q:Value->Shared->Prop}
  (hl:typeLookup (.type T) "__getitem__" =pure (some (.builtin id))) (hs:qrs slice)
  (h:wpAny (model prog w) A (eval value env) (λo s₁=>wpAny (model prog w) A (eval slice env) (λi s₂=>s₂.TypeIs o T/\wpAny (model prog w) A (getItem o i) Q E s₂) E s₁) E s):
  wpAny (model prog w) A (eval (.Subscript value slice pos) env) Q E s:=by
 refine Subscript_ (wpAny_mono h (λo s₁ h₁=>wpAny_mono h₁ (λi s₂ h₂=> ?_) λ_ _ x=>x) λ_ _ x=>x)
 obtain ⟨hT,h₂⟩:=h₂
 unfold subscriptTail
 refine wpAny_bind ?_
 rw[getitemInPython_of_ne hT.not_modules]
 refine wpAny_bind (wpAny_specialOf hT hl ?_)
 have fin:wpAny (model prog w) A (subscripted slice false o i) (λr s₃=>wpAny (model prog w) A (letTemporaryGo value o r>>=λ_=>pure r) Q E s₃) E s₂:=by
  rw[hs o i]
  exact wpAny_operating (wpAny_mono h₂ (λr s₃ h₃=>wpAny_bind (wpAny_letTemporaryGo (wpAny_pure h₃))) λ_ _ x=>x)
 first
  | exact wpAny_pure (wpAny_bind fin)
  | exact wpAny_bind (wpAny_pure (wpAny_bind fin))
  | exact wpAny_bind fin
theorem qhu {X:Cx} {pins:List (Addr×Obj)} {σ:St} {H:Hp} {s:Shared} {a:Addr} {y:V} {o:Option V} (I:Inv X pins σ H s) (g:qgX H a y o):s.TypeIs (.ref a) "dict" :=by
 rcases g with ⟨kvs,k,e,_,_⟩ | ⟨kvs,k,b,e,_,_,_⟩
 ·obtain ⟨_,_,vs,_,dd⟩:=qjq I.hok e
  exact dd.typeIs
 ·obtain ⟨_,_,xs,_,dd⟩:=qjp I.hok e
  exact dd.typeIs
def qrF (td ty:TE):TE:=λσ H Q=>td σ H λx H1=>ty σ H1 λy H2=> ∃a v,x= .ref a/\qgX H2 a y (some v)/\Q v H2
def qud (ty td:TE):TE:=λσ H Q=>ty σ H λy H1=>td σ H1 λx H2=> ∃a o,x= .ref a/\qgX H2 a y o/\Q (.bl o.isSome) H2
def qsm (td ty tv:TE):TS:=λD σ H=>tv σ H λv H1=>td σ H1 λx H2=>ty σ H2 λy H3=> ∃a H4,x= .ref a/\qlU H3 a y v H4/\D.nx σ H4
section
variable {X:Cx} {o i e value:Expr} {pos pos' tpos:Pos} {td ty tv:TE}
theorem qow (hu:X.A.units+1<cLine) (ho:PE X o td) (hi:PE X i ty) (hs:qrs i):PE X (.Subscript o i pos) (qrF td ty):=by
 intro pins s σ H Q I h
 refine qjS PySem.F.slot_dict_getitem.lookup hs (thn (ho pins s σ H _ I h) λu s1 ⟨x,H1,I1,rx,q1⟩=>thn (hi pins s1 σ H1 _ I1 q1) λiv s2 ⟨y,H2,I2,ry,a,v,ex,g,q2⟩=> ?_)
 subst ex
 obtain rfl:u=Value.ref a:=rx
 exact ⟨qhu I2 g,qlz hu I2 g ry λw' s3 I3 rw'=>⟨v,H2,I3,rw',q2⟩⟩
theorem qqr (hu:X.A.units+1<cLine) (hi:PE X i ty) (ho:PE X o td):PC X .In i o (qud ty td):=by
 intro pins s σ H Q I h
 refine thn (hi pins s σ H _ I h) λiv s1 ⟨y,H1,I1,ry,q1⟩=>thn (ho pins s1 σ H1 _ I1 q1) λu s2 ⟨x,H2,I2,rx,a,ov,ex,g,q2⟩=> ?_
 subst ex
 obtain rfl:u=Value.ref a:=rx
 exact qu3 hu I2 g ry λs3 I3=>⟨.bl ov.isSome,H2,I3,rfl,q2⟩
theorem qor (hu:X.A.units+1<cLine) (ho:PE X o td) (hi:PE X i ty) (hv:PE X value tv) (hs:swapsWith value (some (.Subscript o i pos')) pos.line X.env=pure false):
  PS X (.Assign [.Subscript o i pos'] value pos) (qsm td ty tv):=by
 intro pins s σ H D I h
 refine wpAny_Assign_Subscript (thn (hv pins s σ H _ I h) λr s1 ⟨v,H1,I1,rv,q1⟩=>thn (ho pins s1 σ H1 _ I1 q1) λu s2 ⟨x,H2,I2,rx,q2⟩=>thn (hi pins s2 σ H2 _ I2 q2) λiv s3 ⟨y,H3,I3,ry,a,H4,ex,g,q3⟩=> ?_) hs
 subst ex
 obtain rfl:u=Value.ref a:=rx
 exact qly hu I3 g ry rv λs4 I4=>⟨σ,H4,I4,q3⟩
end
theorem qnf {P:Program} {w:World} {H:Hp} (h:Heap) (hb:sysModules<h.objs.size):qbe P w H (h.push { cls:=.type "dict",data:=.dict #[] }) h.objs.size (.dK []):=
 ⟨Nat.zero_le _,beq_eq_false_iff_ne.mpr (Ne.symm (Nat.ne_of_lt hb)),[],.nil,Heap.DictOf.new h⟩
def qpM:TE:=λ_ H Q=> ∀p,H p=none->Q (.ref p) (upd H p (.dK []))
section
variable {X:Cx} {pos:Pos}
theorem qh7:PE X (.Dict [] [] pos) qpM:=λpins s σ H Q I h=>
 wpAny_Dict_empty ⟨.ref s.heap.objs.size,_,I.laid (a:=s.heap.objs.size) (o:=.dK []) (t':=s.toks) (λ_ _ q=>Heap.get?_push_of_some _ q) (Nat.le_refl _) (qnf s.heap I.big),rfl,h _ (I.hok.fresh (Nat.le_refl _))⟩
end
structure M1 (X:Cx) (o:Expr) (m:Str) (apos:Pos) (e:Expr) (cpos:Pos):Prop where
 base:attributeBase o m X.env (eval o X.env)=eval o X.env
 few:((backTo cpos (starEach [e] X.env)).all (λx=> !x.1)&&(backToKw cpos (keywordEach [] X.env)).all (λx=>x.1.isSome)
  &&decide (([e]:List Expr).length+([]:List Keyword).length+(if ([]:List Keyword).isEmpty then 0 else 1)<30))=true
 line:(apos.endLine==cpos.line)=true
 trees:backTo cpos (starEach [e] X.env)=[(false,eval e X.env)]
structure M2 (X:Cx) (o:Expr) (m:Str) (apos:Pos) (e f:Expr) (cpos:Pos):Prop where
 base:attributeBase o m X.env (eval o X.env)=eval o X.env
 few:((backTo cpos (starEach [e,f] X.env)).all (λx=> !x.1)&&(backToKw cpos (keywordEach [] X.env)).all (λx=>x.1.isSome)
  &&decide (([e,f]:List Expr).length+([]:List Keyword).length+(if ([]:List Keyword).isEmpty then 0 else 1)<30))=true
 line:(apos.endLine==cpos.line)=true
 trees:backTo cpos (starEach [e,f] X.env)=[(false,eval e X.env),(false,eval f X.env)]
def IsD (H:Hp) (a:Addr):Prop:=(∃kvs,Rd H a (.dK kvs))\/∃kvs,Rd H a (.dT kvs)
theorem qqP {X:Cx} {pins:List (Addr×Obj)} {σ:St} {H:Hp} {s:Shared} {a:Addr} (I:Inv X pins σ H s) (d:IsD H a):
  s.TypeIs (.ref a) "dict" /\(∀b,Value.ref a= .ref b->∃ob,s.heap.get? b=some ob/\ob.dict=none)/\(a==sysModules)=false:=by
 rcases d with ⟨kvs,e⟩ | ⟨kvs,e⟩
 ·obtain ⟨_,hd,vs,_,dd⟩:=qjq I.hok e
  refine ⟨dd.typeIs,λb q=> ?_,hd⟩
  cases q
  obtain ⟨ob,_,_,h1,h2,_⟩:=dd
  exact ⟨ob,h1,h2.2.1⟩
 ·obtain ⟨_,hd,xs,_,dd⟩:=qjp I.hok e
  refine ⟨dd.typeIs,λb q=> ?_,hd⟩
  cases q
  obtain ⟨ob,_,_,h1,h2,_⟩:=dd
  exact ⟨ob,h1,h2.2.1⟩
section
variable {X:Cx} {pins:List (Addr×Obj)} {σ:St} {H:Hp} {s:Shared} {a:Addr} {y d:V} {u r:Value} {o:Option V} {A:Around} {E:Value->Shared->Prop}
theorem qq4 {Q:Value->Shared->Prop} (hu:A.units+1<cLine) (I:Inv X pins σ H s) (g:qgX H a y o) (ry:RelV y u) (rd:RelV d r) (h: ∀w' s',Inv X pins σ H s'->RelV (o.getD d) w'->Q w' s'):
  wpAny (model X.prog X.w) A (call (.builtin "dict.get") [.ref a,u,r]) Q E s:=by
 rcases g with ⟨kvs,k,e,ey,l⟩ | ⟨kvs,k,b,e,ey,eb,l⟩
 ·subst ey
  obtain ⟨z,hd,vs,rel,dd⟩:=qjq I.hok e
  refine call_meetsIn PySem.F.slot_dict_get dd.typeIs PySem.F.entry_dict_get (PySem.F.args_dict_get_3 _ _ _) (meets_dict_get_default (qbg X.prog X.w) a (qkV ry) hd r) ⟨_,dd.mapOf,h _ _ (I.tok _) ?_⟩
  rw[l]
  exact (rel.val k).getD rd
 ·subst ey
  cases (show u=Value.ref b from ry)
  obtain ⟨z,hd,xs,rel,dd⟩:=qjp I.hok e
  refine call_meetsIn PySem.F.slot_dict_get dd.typeIs PySem.F.entry_dict_get (PySem.F.args_dict_get_3 _ _ _) (meetsH_dict_get_default (tupleKind (qbg X.prog X.w)) a b hd r) ⟨tupleKind_room_in1 hu,k,xs,qgs I.hok eb,dd,h _ _ (I.tok _) ?_⟩
  rw[l]
  exact (rel.val k).getD rd
end
def qpN (td ty tx:TE):TE:=λσ H Q=>td σ H λx H1=> ∃a,x= .ref a/\IsD H1 a/\ty σ H1 λy H2=>tx σ H2 λz H3=> ∃o,qgX H3 a y o/\Q (o.getD z) H3
section
variable {X:Cx} {o e f:Expr} {apos cpos:Pos} {td ty tx:TE}
theorem qmy (hu:X.A.units+1<cLine) (ho:PE X o td) (he:PE X e ty) (hf:PE X f tx) (m:M2 X o "get" apos e f cpos):PE X (.Call (.Attribute o "get" apos) [e,f] [] cpos) (qpN td ty tx):=by
 intro pins s σ H Q I h
 refine wpAny_Call_method m.base m.few m.line PySem.F.plainAttrs_dict PySem.F.slot_dict_get PySem.F.type_dict_get (thn (ho pins s σ H _ I h) λu s1 ⟨x,H1,I1,rx,a,ex,d,q1⟩=> ?_)
 subst ex
 obtain rfl:u=Value.ref a:=rx
 obtain ⟨t1,t2,_⟩:=qqP I1 d
 refine ⟨t1,t2,?_⟩
 rw[m.trees]
 refine Calls.callWith_builtin rfl (Calls.evalArgs_plain (Calls.spliced_cons (thn (he pins s1 σ H1 _ I1 q1) λiv s2 ⟨y,H2,I2,ry,q2⟩=>
  Calls.spliced_cons (thn (hf pins s2 σ H2 _ I2 q2) λfv s3 ⟨z,H3,I3,rz,ov,g,q3⟩=>Calls.spliced_nil ?_))))
 exact qq4 hu I3 g ry rz λw' s4 I4 rw'=>⟨_,H3,I4,rw',q3⟩
end
end L2
namespace L2
open PySem PySem.Spec PyProof.Rows
end L2
end
section
namespace RH
open PySem L2
theorem qqM {b:Bool} {A B:Prop} (h:b=true) (hA:A):if b=true then A else B:=by rw[if_pos h]; exact hA
theorem qqN {b:Bool} {A B:Prop} (h:b=false) (hB:B):if b=true then A else B:=by rw[if_neg (by rw[h]; decide)]; exact hB
theorem qmh {H:Hp} {D:Addr} {o:HO} (h:H D=none):qnt H (upd H D o):=λb u e=>by
 rw[qad (qap e h)]
 exact e
theorem qin {X:Cx} (K:PySem.W.Frag) (h:X.K=K):IxR X (qss K):=by rw[<-h]; exact qkW
theorem fr_ok {X:Cx} {sc sd:Scope} (hX:X.env.scope=sd) (h:(sc.names.all λy=>y.2 != .free||(sd.names.lookup y.1==some .cell))=true): ∀y∈sc.names,y.2= .free->X.env.kindOf y.1=some .cell\/X.env.kindOf y.1=some .free:=by
 intro y hy e
 have h1:=List.all_eq_true.mp h y hy
 rw[e] at h1
 have h2:sd.names.lookup y.1=some .cell:=by simpa using h1
 refine .inl ?_
 show X.env.scope.names.lookup y.1=some .cell
 rw[hX]
 exact h2
abbrev Rw:=Int×Str×Int
end RH
end
section
namespace RH
open PySem L2
def qvk (rs:List Rw) (k:Str):List Int:=(rs.filter λr=>decide (r.2.1=k)).map (·.2.2)
def outT (g:List Int->Rw->Option Rw) (rs:List Rw) (i:Nat):List Rw:=(List.range i).filterMap λj=>(rs[j]?).bind λr=>g (qvk (rs.take j) r.2.1) r
end RH
end
section
namespace RH
open PySem PySem.Spec PyProof.Rows L2
def pickL {α:Type} (xs:List α) (lo hi st:Option Int):List α:=(sliceRange (sliceBounds lo hi st xs.length).1 (sliceBounds lo hi st xs.length).2.1 (sliceBounds lo hi st xs.length).2.2).filterMap (xs[·]?)
end RH
end
section
namespace L2
open PySem PySem.Spec PyProof.Rows
end L2
namespace RH
open PySem L2
end RH
end
section
namespace RH
open PySem PySem.Spec PyProof.Rows L2
end RH
end
section
namespace St
open PySem PySem.W PySem.Calls PyProof.Rows
section
variable {prog:Program} {w:World} {A:Around} {E:Value->Shared->Prop} {s:Shared} {D:Addr} {vs:List Value} {kz:List Int} {P:PySem.Fin->Shared->Prop} {h0:Heap}
theorem qg9 {n:Nat} (h:n<2):qcs kz n (List.toArray (List.range n)):=by
 refine ⟨⟨by simp,λi hi=> ?_,λi q1 q2=>by lia⟩,λi j hij hj=>by lia⟩
 unfold g
 rw[Array.getD_eq_getD_getElem?]
 simp[hi]
theorem lsort_p {n:Nat} {κ:SortKind} (ho:s.heap.get? D=some (seqObj "list" vs.toArray n)) (hlen:kz.length=vs.length) (h64:vs.length<64) (kp:Kp h0 s.heap) (hD0:h0.get? D=none)
  (kind: ∀s':Shared,Kp h0 s'.heap->2<=vs.length->∀Q:SortKind->Shared->Prop,Q κ s'->wpAny (model prog w) A (keyKind' vs.toArray) Q E s')
  (cmp: ∀s':Shared,Kp h0 s'.heap->∀i j,i<vs.length->j<vs.length->∀C:Bool->Shared->Prop,C (decide (kz.getD i 0<kz.getD j 0)) s'->wpAny (model prog w) A (keyLt' κ (vs.getD i Value.none) (vs.getD j Value.none)) C (λ_ _=>False) s')
  (h: ∀h' tk c (p:Array Nat),Kp h0 h'->qcs kz vs.length p->h'.get? D=some (seqObj "list" (List.toArray (p.toList.map λi=>vs.getD i Value.none)) c)->P (.done (.ret .none)) { s with heap:=h',toks:=tk }):
  wpAny (model prog w) A (Builtin.«list.sort» ⟨[.ref D],[]⟩) P E s:=by
 rw[list_sort_plain]
 have s1:=Heap.SameBut.update s.heap D (Obj.mapSeq λ_=>(#[]:Array Value))
 obtain ⟨e1,ho1⟩: ∃e1,(s.heap.update D (Obj.mapSeq λ_=>(#[]:Array Value))).get? D=some (seqObj "list" #[] e1):=⟨_,get?_update_seq ho λ_=> #[]⟩
 refine wpAny_bind (listItems_at ho rfl ?_)
 refine wpAny_bind (listUpdate_at ho rfl ?_ (by rw[List.size_toArray,sizeLine_eq]; lia) (Nat.zero_le _))
 refine wpAny_bind (seqEpoch_at ho1 rfl ?_)
 generalize hH2:s.heap.update D (Obj.mapSeq λ_=>(#[]:Array Value))=H2 at ho1 s1⊢
 have kp3:Kp h0 H2:=λb o z=>(s1.2 b (λq=>by rw[q,hD0] at z; cases z)).trans (kp b o z)
 refine wpAny_bind (wpAny_newTuple ?_ (by show vs.length<=_; rw[sizeLine_eq]; lia))
 refine wpAny_bind (wpAny_newList ?_ (Nat.zero_le _))
 refine wpAny_holding ?_
 generalize hH3:(H2.push (seqObj "tuple" vs.toArray 0)).push (seqObj "list" #[] 0)=H3
 have hD3:H3.get? D=some (seqObj "list" #[] e1):=by rw[<-hH3]; exact Heap.get?_push_of_some _ (Heap.get?_push_of_some _ ho1)
 have kp4:Kp h0 H3:=λb o z=>by rw[<-hH3]; exact Heap.get?_push_of_some _ (Heap.get?_push_of_some _ (kp3 b o z))
 have fin: ∀(st:SortSt) (p:Array Nat),qcs kz vs.length p->(arrOf st).map (·.2)=List.toArray (p.toList.map λi=>vs.getD i Value.none)->failedOf st=none->
   wpAny (model prog w) A (do
    let touched:=(<-seqEpoch D) != e1
    Builtin.List.listUpdate (.ref D) λ_=>(arrOf st).map (·.2)
    if let some e:=failedOf st then rule "list.sort.comparison-raised"; throw e
    if touched then rule "list.sort.modified"; raiseError "ValueError" "list modified during sort"
    ret .none) P E { s with heap:=H3 }:=λst p ho' har hfl=>by
  have hsz:(p.toList.map λi=>vs.getD i Value.none).length=vs.length:=by rw[List.length_map,Array.length_toList,ho'.1.sz]
  refine wpAny_bind (seqEpoch_at hD3 rfl ?_)
  rw[har]
  refine wpAny_bind (listUpdate_at hD3 rfl ?_ (Nat.zero_le _) (by show (List.toArray _).size<=_; rw[List.size_toArray,hsz,sizeLine_eq]; lia))
  rw[hfl]
  simp only[bne_self_eq_false,Bool.false_eq_true,if_false]
  have hfin: ∃c,(H3.update D (Obj.mapSeq λ_=>List.toArray (p.toList.map λi=>vs.getD i Value.none))).get? D=some (seqObj "list" (List.toArray (p.toList.map λi=>vs.getD i Value.none)) c):=⟨_,get?_update_seq hD3 λ_=>List.toArray (p.toList.map λi=>vs.getD i Value.none)⟩
  obtain ⟨c,hc⟩:=hfin
  refine wpAny_pure (h _ _ c p (λb o q=> ?_) ho' hc)
  have nD:b≠D:=λz=>by rw[z,hD0] at q; cases q
  exact ((Heap.SameBut.update H3 D _).2 b nD).trans (kp4 b o q)
 by_cases h2:vs.toArray.size<2
 ·rw[if_pos h2,if_pos h2]
  refine wpAny_bind (wpAny_pure ?_)
  dsimp only
  rw[StateT.run_pure]
  refine wpAny_bind (wpAny_pure ?_)
  rw[List.size_toArray] at h2
  refine fin _ _ (qg9 h2) ?_ rfl
  show (vs.toArray.zip vs.toArray).map (·.2)=_
  apply Array.toList_inj.mp
  rw[Array.toList_map,ksk_zip,List.toList_toArray,List.toList_toArray]
  rw[show (vs.zip vs).map (λx:Value×Value=>x.2)=vs from List.map_snd_zip (by lia)]
  apply List.ext_getElem
  ·simp
  ·intro i h3 h4
   simp[List.getElem?_eq_getElem h3]
 ·rw[if_neg h2,if_neg h2]
  rw[List.size_toArray] at h2
  refine wpAny_bind (kind { s with heap:=H3 } kp4 (by lia) _ ?_)
  have run:=kat_run (prog:=prog) (w:=w) (A:=A) (E:=E) (s:={ s with heap:=H3 }) (κ:=κ) (ks:=vs) (vs:=vs) (Q:=λst s'=>s'={ s with heap:=H3 }/\∃p,qcs kz vs.length p/\(arrOf st).map (·.2)=List.toArray (p.toList.map λi=>vs.getD i Value.none)/\failedOf st=none)
   (G:=λp s'=>s'={ s with heap:=H3 }/\qcs kz vs.length p) rfl (by lia) h64 (λp st' s' a1 a2 a3 a4=>⟨a4.1,p,a4.2,kat_snds rfl a2,a3⟩)
   (qho (ask:=qde λi=>kz.getD i 0) (N:=vs.length) (λi j C hi hj hc=>cmp { s with heap:=H3 } kp4 i j hi hj C hc) (λp hp=>⟨rfl,hp⟩) (qj0 (by lia)))
  refine wpAny_bind (wpAny_mono run (λr s' hr=> ?_) λ_ _ x=>x)
  obtain ⟨rfl,p,ho',har,hf⟩:=hr
  exact fin _ p ho' har hf
end
end St
namespace St
open PySem PySem.W PySem.Calls PyProof.Rows
section
variable {prog:Program} {w:World} {A:Around} {E:Value->Shared->Prop} {s:Shared} {l:Addr} {vs:List Value} {kz:List Int} {Q:Value->Shared->Prop}
theorem sorted_p {κ:SortKind} (hl:s.heap.IsList l vs.toArray) (hlen:kz.length=vs.length) (h64:vs.length<64)
  (kind: ∀s':Shared,Kp s.heap s'.heap->2<=vs.length->∀(Q:SortKind->Shared->Prop) (E:Value->Shared->Prop),Q κ s'->wpAny (model prog w) A.in1.in1 (keyKind' vs.toArray) Q E s')
  (cmp: ∀s':Shared,Kp s.heap s'.heap->∀i j,i<vs.length->j<vs.length->∀C:Bool->Shared->Prop,C (decide (kz.getD i 0<kz.getD j 0)) s'->wpAny (model prog w) A.in1.in1 (keyLt' κ (vs.getD i Value.none) (vs.getD j Value.none)) C (λ_ _=>False) s')
  (h: ∀D h' tk c (p:Array Nat),s.heap.objs.size<=D->Kp s.heap h'->qcs kz vs.length p->h'.get? D=some (seqObj "list" (List.toArray (p.toList.map λi=>vs.getD i Value.none)) c)->Q (.ref D) { s with heap:=h',toks:=tk }):
  wpAny (model prog w) A (call (.builtin "sorted") [.ref l]) Q E s:=by
 refine Calls.call_function_entry kind_sorted plain_sorted entry_sorted (args_sorted1 _) ?_
 unfold Builtin.«sorted»
 refine wpAny_bind (m:=checkCount "sorted" 1 1 _) (wpAny_pure ?_)
 refine wpAny_bind (collect_list hl ?_ (by rw[sizeLine_eq]; lia))
 refine wpAny_bind (wpAny_newList ?_ (by rw[sizeLine_eq]; lia))
 have hsz:((s.heap.push (seqObj "list" #[] 0)).update s.heap.objs.size (Obj.mapSeq (· ++vs.toArray))).objs.size=s.heap.objs.size+1:=by
  rw[Heap.size_update,size_push']
 generalize hH1:(s.heap.push (seqObj "list" #[] 0)).update s.heap.objs.size (Obj.mapSeq (· ++vs.toArray))=H1 at hsz⊢
 have kp1:Kp s.heap H1:=λb o q=>by
  have hlt:b<s.heap.objs.size:=Heap.lt_size q
  rw[<-hH1,Heap.get?_update_ne _ _ _ _ (Nat.ne_of_lt hlt),Heap.get?_push_ne _ _ _ (Nat.ne_of_lt hlt)]
  exact q
 have kp2:Kp s.heap (H1.push (seqObj "list" vs.toArray 0)):=λb o q=>Heap.get?_push_of_some _ (kp1 b o q)
 have hoD:(H1.push (seqObj "list" vs.toArray 0)).get? H1.objs.size=some (seqObj "list" vs.toArray 0):=Heap.get?_push_size _ rfl
 refine wpAny_bind (wpAny_holding (wpAny_call_entry slot_list_sort ⟨_,hoD,rfl⟩ entry_list_sort ?body (args_list_sort _)))
 case body=>
  refine lsort_p (h0:=s.heap) (kz:=kz) (κ:=κ) (s:={ s with heap:=H1.push (seqObj "list" vs.toArray 0) }) hoD hlen h64 kp2 (get_none (by rw[hsz]; exact Nat.le_succ _)) (λs' k h2 Q hq=>kind s' k h2 Q _ hq) cmp λh' tk c p a1 a2 a3=>⟨_,rfl,?_⟩
  exact wpAny_pure ⟨_,rfl,h _ h' tk c p (by rw[hsz]; exact Nat.le_succ _) a1 a2 a3⟩
end
end St
end
section
namespace SR
section
variable {α β:Type}
def ins (k:α->Int) (r:α):List α->List α
 | []=>[r]
 | x::l=>if k x<=k r then x::ins k r l else r::x::l
def srt (k:α->Int) (l:List α):List α:=l.foldl (λa r=>ins k r a) []
theorem qdi {k:α->Int} {l:List α} {r:α}:srt k (l++[r])=ins k r (srt k l):=by
 unfold srt
 rw[List.foldl_append]
 rfl
theorem qk4 {k:α->Int} {k':β->Int} {f:β->α} (h: ∀b,k' b=k (f b)) (r:β): ∀l:List β,(ins k' r l).map f=ins k (f r) (l.map f)
 | []=>rfl
 | x::l=>by
  show List.map f (if k' x<=k' r then x::ins k' r l else r::x::l)=(if k (f x)<=k (f r) then f x::ins k (f r) (l.map f) else f r::f x::l.map f)
  rw[h x,h r]
  by_cases c:k (f x)<=k (f r)
  ·rw[if_pos c,if_pos c,List.map_cons,qk4 h r l]
  ·rw[if_neg c,if_neg c,List.map_cons,List.map_cons]
theorem qbY {k:α->Int} {k':β->Int} {f:β->α} (h: ∀b,k' b=k (f b)) (l:List β):(srt k' l).map f=srt k (l.map f):=by
 have go: ∀(l a:List β),(l.foldl (λa r=>ins k' r a) a).map f=(l.map f).foldl (λa r=>ins k r a) (a.map f):=by
  intro l
  induction l with
  | nil=>intro a; rfl
  | cons x l ih=>
   intro a
   rw[List.foldl_cons,ih,List.map_cons,List.foldl_cons,qk4 h]
 exact go l []
theorem qfK {k:α->Int} {r x:α}: ∀{l:List α},x∈ins k r l↔x=r\/x∈l
 | []=>by simp[ins]
 | y::l=>by
  unfold ins
  by_cases c:k y<=k r
  ·rw[if_pos c,List.mem_cons,qfK,List.mem_cons]
   constructor
   ·rintro (h | h | h)
    ·exact .inr (.inl h)
    ·exact .inl h
    ·exact .inr (.inr h)
   ·rintro (h | h | h)
    ·exact .inr (.inl h)
    ·exact .inl h
    ·exact .inr (.inr h)
  ·rw[if_neg c,List.mem_cons]
theorem qcl {k:α->Int} {x:α} (l:List α):x∈srt k l↔x∈l:=by
 have go: ∀(l a:List α),x∈l.foldl (λa r=>ins k r a) a↔x∈a\/x∈l:=by
  intro l
  induction l with
  | nil=>intro a; simp
  | cons y l ih=>
   intro a
   rw[List.foldl_cons,ih,qfK,List.mem_cons]
   constructor
   ·rintro ((h | h) | h)
    ·exact .inr (.inl h)
    ·exact .inl h
    ·exact .inr (.inr h)
   ·rintro (h | h | h)
    ·exact .inl (.inr h)
    ·exact .inl (.inl h)
    ·exact .inr h
 rw[show srt k l=l.foldl (λa r=>ins k r a) [] from rfl,go]
 simp
def Ris (k:α->Int) (l:List α):Prop:=l.Pairwise λa b=>k a<=k b
theorem qkf {k:α->Int} {r:α}: ∀{l:List α},Ris k l->Ris k (ins k r l)
 | [],_=>by simp[ins,Ris]
 | y::l,h=>by
  have h':=List.pairwise_cons.mp h
  unfold ins
  by_cases c:k y<=k r
  ·rw[if_pos c]
   refine List.pairwise_cons.mpr ⟨λz hz=> ?_,qkf h'.2⟩
   rcases qfK.mp hz with q | q
   ·rw[q]; exact c
   ·exact h'.1 z q
  ·rw[if_neg c]
   refine List.pairwise_cons.mpr ⟨λz hz=> ?_,h⟩
   rcases List.mem_cons.mp hz with q | q
   ·rw[q]; lia
   ·have:=h'.1 z q; lia
theorem qc2 {k:α->Int} (l:List α):Ris k (srt k l):=by
 have go: ∀(l a:List α),Ris k a->Ris k (l.foldl (λa r=>ins k r a) a):=by
  intro l
  induction l with
  | nil=>intro a h; exact h
  | cons y l ih=>intro a h; exact ih _ (qkf h)
 exact go l [] List.Pairwise.nil
theorem qk5 {k:α->Int} {r:α}: ∀{l:List α},(∀x∈l,k x<=k r)->ins k r l=l++[r]
 | [],_=>rfl
 | y::l,h=>by
  unfold ins
  rw[if_pos (h y (List.mem_cons_self)),qk5 λx hx=>h x (List.mem_cons_of_mem _ hx)]
  rfl
theorem qg3 {k:α->Int}: ∀{l:List α},Ris k l->srt k l=l:=by
 intro l
 have go: ∀(l a:List α),Ris k (a++l)->l.foldl (λa r=>ins k r a) a=a++l:=by
  intro l
  induction l with
  | nil=>intro a _; simp
  | cons y l ih=>
   intro a h
   have h2:=List.pairwise_append.mp h
   rw[List.foldl_cons,qk5 (λx hx=>h2.2.2 x hx y List.mem_cons_self),ih (a++[y]) (by rw[List.append_assoc]; exact h),List.append_assoc]
   rfl
 intro h
 exact go l [] h
end
end SR
end
section
namespace SR
section
variable {α:Type}
structure Ord (lt:α->α->Bool):Prop where
 irr: ∀a,lt a a=false
 tr: ∀a b c,lt a b=true->lt b c=true->lt a c=true
 tot: ∀a b,lt a b=false->lt b a=false->a=b
def qbJ (lt:α->α->Bool) (as:List α) (a:α):Int:=(as.countP λx=>lt x a:Nat)
theorem qgH {p q:α->Bool} (h: ∀x,p x=true->q x=true): ∀l:List α,l.countP p<=l.countP q
 | []=>Nat.le_refl _
 | x::l=>by
  have ih:=qgH h l
  rw[List.countP_cons,List.countP_cons]
  cases e:p x with
  | true=>rw[h x e]; simp; exact ih
  | false=>
   simp
   lia
theorem qgG {p q:α->Bool} (h: ∀x,p x=true->q x=true) {a:α} (ha:p a=false) (hb:q a=true): ∀{l:List α},a∈l->l.countP p<l.countP q
 | x::l,hm=>by
  rw[List.countP_cons,List.countP_cons]
  have le:=qgH h l
  rcases List.mem_cons.mp hm with rfl | hm
  ·rw[ha,hb]; simp; lia
  ·have ih:=qgG h ha hb hm
   cases e:p x with
   | true=>rw[h x e]; simp; exact ih
   | false=>simp; lia
theorem qb0 {lt:α->α->Bool} (o:Ord lt) {as:List α} {a b:α} (ha:a∈as) (hb:b∈as):decide (qbJ lt as a<qbJ lt as b)=lt a b:=by
 have up: ∀{a b:α},a∈as->lt a b=true->qbJ lt as a<qbJ lt as b:=λ{a b} ha h=>by
  unfold qbJ
  have:=qgG (p:=λx=>lt x a) (q:=λx=>lt x b) (λx hx=>o.tr x a b hx h) (o.irr a) h ha
  lia
 cases h:lt a b with
 | true=>exact decide_eq_true (up ha h)
 | false=>
  refine decide_eq_false ?_
  cases h2:lt b a with
  | true=>have:=up hb h2; lia
  | false=>
   have:=o.tot a b h h2
   subst this
   lia
theorem qfF {lt:α->α->Bool} (o:Ord lt) {as:List α} {a b:α} (ha:a∈as) (hb:b∈as) (h:qbJ lt as a=qbJ lt as b):a=b:=by
 refine o.tot a b ?_ ?_
 ·rw[<-qb0 o ha hb]; exact decide_eq_false (by lia)
 ·rw[<-qb0 o hb ha]; exact decide_eq_false (by lia)
def qa9 (lt:α->α->Bool) (as:List α):List α:=srt (qbJ lt as) as
theorem qh5 {k:α->Int} {r:α}: ∀l:List α,List.Perm (ins k r l) (r::l)
 | []=>List.Perm.refl _
 | x::l=>by
  show List.Perm (if k x<=k r then x::ins k r l else r::x::l) _
  by_cases c:k x<=k r
  ·rw[if_pos c]
   exact ((qh5 l).cons x).trans (List.Perm.swap r x l)
  ·rw[if_neg c]
theorem qbt {k:α->Int} (l:List α):List.Perm (srt k l) l:=by
 have go: ∀(l a:List α),List.Perm (l.foldl (λa r=>ins k r a) a) (a++l):=by
  intro l
  induction l with
  | nil=>intro a; simp
  | cons x l ih=>
   intro a
   rw[List.foldl_cons]
   refine (ih _).trans ?_
   refine ((qh5 a).append_right l).trans ?_
   exact List.perm_middle.symm
 exact go l []
theorem qdF {k:α->Int}: ∀{l l':List α},(∀a∈l,∀b∈l,k a=k b->a=b)->Ris k l->Ris k l'->List.Perm l l'->l=l'
 | [],l',_,_,_,p=>(List.Perm.eq_nil p.symm).symm
 | x::l,[],_,_,_,p=>absurd (List.Perm.eq_nil p) (by simp)
 | x::l,y::l',hi,h1,h2,p=>by
  have a1:=List.pairwise_cons.mp h1
  have a2:=List.pairwise_cons.mp h2
  have hy:y∈x::l:=p.symm.subset List.mem_cons_self
  have hx:x∈y::l':=p.subset List.mem_cons_self
  have e:x=y:=by
   rcases List.mem_cons.mp hy with q | q
   ·exact q.symm
   ·rcases List.mem_cons.mp hx with r | r
    ·exact r
    ·have b1:=a1.1 y q
     have b2:=a2.1 x r
     exact hi x List.mem_cons_self y hy (by lia)
  subst e
  rw[qdF (λa ha b hb=>hi a (List.mem_cons_of_mem _ ha) b (List.mem_cons_of_mem _ hb)) a1.2 a2.2 (p.cons_inv)]
theorem qcK {lt:α->α->Bool} (o:Ord lt) {as bs:List α} (p:List.Perm as bs):qa9 lt as=qa9 lt bs:=by
 have e:qbJ lt as=qbJ lt bs:=funext λa=>by
  unfold qbJ
  rw[p.countP_eq]
 unfold qa9
 rw[<-e]
 refine qdF (k:=qbJ lt as) (λa ha b hb h=>qfF o ((qcl _).mp ha) ((qcl _).mp hb) h) (qc2 _) (qc2 _) ?_
 exact (qbt as).trans (p.trans (qbt bs).symm)
end
end SR
end
section
namespace L2
open PySem PySem.Spec PySem.Calls PyProof.Rows PySem.W
end L2
end
section
namespace PL
open PySem L2
inductive T where
 | non | bl (b:Bool) | int (i:Int) | str (s:Str) | tup (ts:List T) | lst (ts:List T) | dct (kvs:List (Key×T)) | dcf (kvs:List (Key×T)) | dtu (kvs:List (List Key×T)) | fn (x:Str) | scr (ns:List Int)
inductive Rs (α:Type) where
 | no | ok (a:α) | ex (c:Str)
@[inline] def Rs.bind {α β:Type}:Rs α->(α->Rs β)->Rs β
 | .no,_=>.no
 | .ok a,f=>f a
 | .ex c,_=>.ex c
instance:Monad Rs where
 pure:=Rs.ok
 bind:=Rs.bind
@[simp] theorem qaj {α β:Type} (a:α) (f:α->Rs β):(Rs.ok a>>=f)=f a:=rfl
@[simp] theorem qbv {α β:Type} (f:α->Rs β):((Rs.no:Rs α)>>=f)= .no:=rfl
@[simp] theorem qbs {α:Type} (a:α):(pure a:Rs α)= .ok a:=rfl
mutual
def Rep (K:PySem.W.Frag) (B:Hp):T->V->Prop
 | .non,v=>v= .non
 | .bl b,v=>v= .bl b
 | .int i,v=>v= .int i
 | .str s,v=>v= .str s
 | .tup ts,v=> ∃p vs,v= .ref p/\B p=some (.tup vs)/\qaK K B ts vs
 | .lst ts,v=> ∃p vs,v= .ref p/\B p=some (.lst vs)/\qaK K B ts vs
 | .dct kvs,v=> ∃p us,v= .ref p/\B p=some (.dK us)/\qbG K B kvs us
 | .dcf kvs,v=> ∃p o us,v= .ref p/\B p=some (.frz o (.dK us))/\qbG K B kvs us
 | .dtu kvs,v=> ∃p us,v= .ref p/\B p=some (.dT us)/\qbE K B kvs us
 | .fn x,v=> ∃f,v= .ref f/\PySem.W.nsIn K mainGlobals x=some (some (.ref f))
 | .scr ns,v=> ∃p,v= .ref p/\SqL K B p (ns.map V.int)
def qaK (K:PySem.W.Frag) (B:Hp):List T->List V->Prop
 | [],vs=>vs=[]
 | t::ts,vs=> ∃v r,vs=v::r/\Rep K B t v/\qaK K B ts r
def qbG (K:PySem.W.Frag) (B:Hp):List (Key×T)->List (Key×V)->Prop
 | [],vs=>vs=[]
 | (k,t)::ts,vs=> ∃v r,vs=(k,v)::r/\Rep K B t v/\qbG K B ts r
def qbE (K:PySem.W.Frag) (B:Hp):List (List Key×T)->List (List Key×V)->Prop
 | [],vs=>vs=[]
 | (k,t)::ts,vs=> ∃v r,vs=(k,v)::r/\Rep K B t v/\qbE K B ts r
end
def Le (B B':Hp):Prop:= ∀a o,B a=some o->B' a=some o
theorem Le.refl (B:Hp):Le B B:=λ_ _ h=>h
theorem Le.trans {A B C:Hp} (h:Le A B) (h':Le B C):Le A C:=λa o e=>h' a o (h a o e)
theorem Le.sqT {K:PySem.W.Frag} {B B':Hp} {p:Addr} {vs:List V} (h:Le B B') (q:SqT K B p vs):SqT K B' p vs:=by
 rcases q with (q | ⟨o,q⟩) | q
 ·exact .inl (.inl (h _ _ q))
 ·exact .inl (.inr ⟨o,h _ _ q⟩)
 ·exact .inr q
theorem Le.sqL {K:PySem.W.Frag} {B B':Hp} {p:Addr} {vs:List V} (h:Le B B') (q:SqL K B p vs):SqL K B' p vs:=by
 rcases q with (q | ⟨o,q⟩) | q
 ·exact .inl (.inl (h _ _ q))
 ·exact .inl (.inr ⟨o,h _ _ q⟩)
 ·exact .inr q
mutual
theorem Rep.mono {K:PySem.W.Frag} {B B':Hp} (h:Le B B'): ∀{t:T} {v:V},Rep K B t v->Rep K B' t v
 | .non,_,r=>r
 | .bl _,_,r=>r
 | .int _,_,r=>r
 | .str _,_,r=>r
 | .tup _,_,r=>by
  unfold Rep at r⊢
  obtain ⟨p,vs,e,q,rs⟩:=r
  exact ⟨p,vs,e,h _ _ q,qaK.mono h rs⟩
 | .lst _,_,r=>by
  unfold Rep at r⊢
  obtain ⟨p,vs,e,q,rs⟩:=r
  exact ⟨p,vs,e,h _ _ q,qaK.mono h rs⟩
 | .dct _,_,r=>by
  unfold Rep at r⊢
  obtain ⟨p,vs,e,q,rs⟩:=r
  exact ⟨p,vs,e,h _ _ q,qbG.mono h rs⟩
 | .dcf _,_,r=>by
  unfold Rep at r⊢
  obtain ⟨p,o,vs,e,q,rs⟩:=r
  exact ⟨p,o,vs,e,h _ _ q,qbG.mono h rs⟩
 | .dtu _,_,r=>by
  unfold Rep at r⊢
  obtain ⟨p,vs,e,q,rs⟩:=r
  exact ⟨p,vs,e,h _ _ q,qbE.mono h rs⟩
 | .fn _,_,r=>by unfold Rep at r⊢; exact r
 | .scr _,_,r=>by
  unfold Rep at r⊢
  obtain ⟨p,e,q⟩:=r
  exact ⟨p,e,h.sqL q⟩
theorem qaK.mono {K:PySem.W.Frag} {B B':Hp} (h:Le B B'): ∀{ts:List T} {vs:List V},qaK K B ts vs->qaK K B' ts vs
 | [],_,r=>r
 | _::_,_,r=>by
  unfold qaK at r⊢
  obtain ⟨v,r',e,a,b⟩:=r
  exact ⟨v,r',e,Rep.mono h a,qaK.mono h b⟩
theorem qbG.mono {K:PySem.W.Frag} {B B':Hp} (h:Le B B'): ∀{ts:List (Key×T)} {vs:List (Key×V)},qbG K B ts vs->qbG K B' ts vs
 | [],_,r=>r
 | (_,_)::_,_,r=>by
  unfold qbG at r⊢
  obtain ⟨v,r',e,a,b⟩:=r
  exact ⟨v,r',e,Rep.mono h a,qbG.mono h b⟩
theorem qbE.mono {K:PySem.W.Frag} {B B':Hp} (h:Le B B'): ∀{ts:List (List Key×T)} {vs:List (List Key×V)},qbE K B ts vs->qbE K B' ts vs
 | [],_,r=>r
 | (_,_)::_,_,r=>by
  unfold qbE at r⊢
  obtain ⟨v,r',e,a,b⟩:=r
  exact ⟨v,r',e,Rep.mono h a,qbE.mono h b⟩
end
section
variable {K:PySem.W.Frag} {B:Hp}
theorem qaK.nil:qaK K B [] []:=by unfold qaK; rfl
theorem qaK.cons {t:T} {v:V} {ts:List T} {vs:List V} (h:Rep K B t v) (r:qaK K B ts vs):qaK K B (t::ts) (v::vs):=by unfold qaK; exact ⟨v,vs,rfl,h,r⟩
theorem qaK.inv {t:T} {ts:List T} {vs:List V} (h:qaK K B (t::ts) vs): ∃v r,vs=v::r/\Rep K B t v/\qaK K B ts r:=by unfold qaK at h; exact h
theorem qaK.inv0 {vs:List V} (h:qaK K B [] vs):vs=[]:=by unfold qaK at h; exact h
theorem qaK.length: ∀{ts:List T} {vs:List V},qaK K B ts vs->vs.length=ts.length
 | [],_,h=>by rw[h.inv0]; rfl
 | _::_,_,h=>by
  obtain ⟨v,r,rfl,_,h'⟩:=h.inv
  simp[qaK.length h']
theorem qaK.get: ∀{ts:List T} {vs:List V} {i:Nat} {t:T},qaK K B ts vs->ts[i]? =some t->∃v,vs[i]? =some v/\Rep K B t v
 | [],_,_,_,_,e=>by simp at e
 | _::_,_,0,_,h,e=>by
  obtain ⟨v,r,rfl,a,_⟩:=h.inv
  simp at e; subst e
  exact ⟨v,rfl,a⟩
 | _::_,_,i+1,t,h,e=>by
  obtain ⟨v,r,rfl,_,h'⟩:=h.inv
  obtain ⟨u,e1,e2⟩:=qaK.get (i:=i) h' (by simpa using e)
  exact ⟨u,by simpa using e1,e2⟩
theorem qaK.of_get {ts:List T} {vs:List V} (hl:vs.length=ts.length) (h: ∀(i:Nat) (t:T) (v:V),ts[i]? =some t->vs[i]? =some v->Rep K B t v):qaK K B ts vs:=by
 induction ts generalizing vs with
 | nil=>cases vs with
  | nil=>exact .nil
  | cons _ _=>cases hl
 | cons t ts ih=>cases vs with
  | nil=>cases hl
  | cons v vs=>exact .cons (h 0 t v rfl rfl) (ih (by simpa using hl) λi t' v' a b=>h (i+1) t' v' (by simpa using a) (by simpa using b))
theorem qaK.append: ∀{ts us:List T} {vs ws:List V},qaK K B ts vs->qaK K B us ws->qaK K B (ts++us) (vs++ws)
 | [],_,_,_,h,h'=>by rw[h.inv0]; exact h'
 | _::_,_,_,_,h,h'=>by
  obtain ⟨v,r,rfl,a,b⟩:=h.inv
  exact .cons a (qaK.append b h')
theorem qaK.snoc {ts:List T} {vs:List V} {t:T} {v:V} (h:qaK K B ts vs) (r:Rep K B t v):qaK K B (ts++[t]) (vs++[v]):=h.append (.cons r .nil)
theorem qaK.take {ts:List T} {vs:List V} (n:Nat) (h:qaK K B ts vs):qaK K B (ts.take n) (vs.take n):=by
 refine .of_get (by simp[h.length]) λi t v a b=> ?_
 rw[List.getElem?_take] at a b
 split at a
 ·rename_i hi
  rw[if_pos hi] at b
  obtain ⟨u,e1,e2⟩:=h.get a
  rw[b] at e1; cases e1; exact e2
 ·cases a
theorem qaK.drop {ts:List T} {vs:List V} (n:Nat) (h:qaK K B ts vs):qaK K B (ts.drop n) (vs.drop n):=by
 refine .of_get (by simp[h.length]) λi t v a b=> ?_
 rw[List.getElem?_drop] at a b
 obtain ⟨u,e1,e2⟩:=h.get a
 rw[b] at e1; cases e1; exact e2
theorem qaK.set {ts:List T} {vs:List V} {t:T} {v:V} (n:Nat) (h:qaK K B ts vs) (r:Rep K B t v):qaK K B (ts.set n t) (vs.set n v):=by
 refine .of_get (by simp[h.length]) λi t' v' a b=> ?_
 have hl:=h.length
 rw[List.getElem?_set] at a b
 by_cases hi:n=i
 ·subst hi
  rw[if_pos rfl] at a b
  split at a
  ·split at b
   ·cases a; cases b; exact r
   ·cases b
  ·cases a
 ·rw[if_neg hi] at a b
  obtain ⟨u,e1,e2⟩:=h.get a
  rw[b] at e1; cases e1; exact e2
theorem qaK.getD {ts:List T} {vs:List V} (h:qaK K B ts vs) (j:Nat) (hj:j<ts.length):Rep K B (ts.getD j .non) (vs.getD j .non):=by
 obtain ⟨u,e1,e2⟩:=h.get (List.getElem?_eq_getElem hj)
 rw[List.getD_eq_getElem?_getD,List.getD_eq_getElem?_getD,e1,List.getElem?_eq_getElem hj]
 exact e2
end
structure Gam where
 P:Hp->Prop
 st: ∀H H':Hp,(∀a o,H a=some o->(∀xs,o≠.lst xs)->(∀xs,o≠.dK xs)->(∀xs,o≠.dT xs)->(∀C dx fs,o≠.ins C dx fs)->H' a=some o)->P H->P H'
structure GX (H H':Hp):Prop where
 hh: ∀a o,H a=some o->(∀ps,o≠.tbl ps)->H' a=some o
 dm: ∀a,H a≠none->H' a≠none
theorem GX.refl (H:Hp):GX H H:=⟨λ_ _ h _=>h,λ_ h=>h⟩
theorem GX.trans {H H1 H2:Hp} (a:GX H H1) (b:GX H1 H2):GX H H2:=⟨λx o h n=>b.hh x o (a.hh x o h n) n,λx h=>b.dm x (a.dm x h)⟩
structure qa5 (H B H' B':Hp):Prop where
 gx:GX H H'
 bb:Le B B'
 bh:Le B' H'
 bt: ∀a ps,B' a≠some (.tbl ps)
 nw: ∀a o,H a=some o->(∀vs,o≠.tup vs)->(∀ps,o≠.tbl ps)->B' a=B a
theorem nwo {H B B':Hp} (h: ∀a,H a≠none->B' a=B a): ∀a o,H a=some o->(∀vs,o≠HO.tup vs)->(∀ps,o≠HO.tbl ps)->B' a=B a:=λa o z _ _=>h a (by rw[z]; simp)
theorem qa5.refl {H B:Hp} (h:Le B H) (t: ∀a ps,B a≠some (.tbl ps)):qa5 H B H B:=⟨.refl _,.refl _,h,t,λ_ _ _ _ _=>rfl⟩
theorem qa5.trans {H B H1 B1 H2 B2:Hp} (a:qa5 H B H1 B1) (b:qa5 H1 B1 H2 B2):qa5 H B H2 B2:=
 ⟨a.gx.trans b.gx,a.bb.trans b.bb,b.bh,b.bt,λx o h n1 n2=>(b.nw x o (a.gx.hh x o h n2) n1 n2).trans (a.nw x o h n1 n2)⟩
theorem qa5.new {H B:Hp} {p:Addr} {o:HO} (h:Le B H) (t: ∀a ps,B a≠some (.tbl ps)) (hp:H p=none) (ho: ∀ps,o≠.tbl ps):qa5 H B (upd H p o) (upd B p o):=by
 have bp:B p=none:=by
  cases e:B p with
  | none=>rfl
  | some u=>rw[h _ _ e] at hp; cases hp
 refine ⟨⟨λa u e _=>by rw[qad (qap e hp)]; exact e,λa e z=> ?_⟩,λa u e=>by rw[qad (qap e bp)]; exact e,λa u e=> ?_,λa ps e=> ?_,nwo λa e=> ?_⟩
 ·by_cases q:a=p
  ·subst q; exact e hp
  ·rw[qad q] at z; exact e z
 ·by_cases q:a=p
  ·subst q; rw[qak] at e⊢; exact e
  ·rw[qad q] at e⊢; exact h _ _ e
 ·by_cases q:a=p
  ·subst q; rw[qak] at e; exact ho ps (Option.some.inj e)
  ·rw[qad q] at e; exact t a ps e
 ·rw[qad (λz=>e (by rw[z]; exact hp))]
theorem qa5.own {H B:Hp} {p:Addr} {o:HO} (h:Le B H) (t: ∀a ps,B a≠some (.tbl ps)) (hp:H p=none):qa5 H B (upd H p o) B:=by
 refine ⟨⟨λa u e _=>by rw[qad (qap e hp)]; exact e,λa e z=> ?_⟩,.refl _,λa u e=> ?_,t,nwo λa e=>rfl⟩
 ·by_cases q:a=p
  ·subst q; exact e hp
  ·rw[qad q] at z; exact e z
 ·rw[qad (qap (h _ _ e) hp)]; exact h _ _ e
inductive Sl where
 | no | fz (t:T) | ow (ts:List T) | od (kvs:List (Key×T)) | ou (kvs:List (List Key×T)) | pd (kvs:List (Key×T)) | pu (kvs:List (List Key×T))
def qgU (K:PySem.W.Frag) (H0 H B:Hp) (pa:Addr):Sl->Option V->Prop
 | .no,_=>True
 | .fz t,o=> ∃v,o=some v/\Rep K B t v
 | .ow ts,o=> ∃p vs,o=some (.ref p)/\H0 p=none/\B p=none/\H p=some (.lst vs)/\qaK K B ts vs
 | .od kvs,o=> ∃p us,o=some (.ref p)/\H0 p=none/\B p=none/\H p=some (.dK us)/\qbG K B kvs us
 | .ou kvs,o=> ∃p us,o=some (.ref p)/\H0 p=none/\B p=none/\H p=some (.dT us)/\qbE K B kvs us
 | .pd kvs,o=> ∃p us,p=pa/\o=some (.ref p)/\H0 p=none/\B p=none/\H p=some (.dK us)/\qbG K B kvs us
 | .pu kvs,o=> ∃p us,p=pa/\o=some (.ref p)/\H0 p=none/\B p=none/\H p=some (.dT us)/\qbE K B kvs us
def Sl.own:Sl->Bool
 | .ow _=>true
 | .od _=>true
 | .ou _=>true
 | .pd _=>true
 | .pu _=>true
 | _=>false
structure Md where
 K:PySem.W.Frag
 G:Gam
 E:XK
 C:Str->Addr
 pa:Addr
abbrev Ro:=List Sl
structure Ev (M:Md) (H0 B0:Hp) (ρ:Ro) (σ:St) (H B:Hp):Prop where
 gr:qa5 H0 B0 H B
 gm:M.G.P H
 len:ρ.length=σ.length
 sl: ∀(i:Nat) (s:Sl),ρ[i]? =some s->qgU M.K H0 H B M.pa s (σ[i]?.join)
 ap: ∀(i j:Nat) (si sj:Sl) (p:Addr),i≠j->ρ[i]? =some si->ρ[j]? =some sj->si.own=true->sj.own=true->σ[i]?.join=some (.ref p)->σ[j]?.join≠some (.ref p)
section
variable {M:Md} {H0 B0 H B H' B':Hp} {ρ:Ro} {σ:St}
theorem qgU.grow {K:PySem.W.Frag} {pa:Addr} {s:Sl} {o:Option V} (h:qgU K H0 H B pa s o) (g:qa5 H B H' B'):qgU K H0 H' B' pa s o:=by
 cases s with
 | no=>trivial
 | fz t=>obtain ⟨v,e,r⟩:=h; exact ⟨v,e,r.mono g.bb⟩
 | ow ts=>
  obtain ⟨p,vs,e,h0,hb,hp,r⟩:=h
  exact ⟨p,vs,e,h0,by rw[g.nw p _ hp (by simp) (by simp)]; exact hb,g.gx.hh _ _ hp (by intro ps z; cases z),r.mono g.bb⟩
 | od ts=>
  obtain ⟨p,vs,e,h0,hb,hp,r⟩:=h
  exact ⟨p,vs,e,h0,by rw[g.nw p _ hp (by simp) (by simp)]; exact hb,g.gx.hh _ _ hp (by intro ps z; cases z),r.mono g.bb⟩
 | ou ts=>
  obtain ⟨p,vs,e,h0,hb,hp,r⟩:=h
  exact ⟨p,vs,e,h0,by rw[g.nw p _ hp (by simp) (by simp)]; exact hb,g.gx.hh _ _ hp (by intro ps z; cases z),r.mono g.bb⟩
 | pd ts=>
  obtain ⟨p,vs,e0,e,h0,hb,hp,r⟩:=h
  exact ⟨p,vs,e0,e,h0,by rw[g.nw p _ hp (by simp) (by simp)]; exact hb,g.gx.hh _ _ hp (by intro ps z; cases z),r.mono g.bb⟩
 | pu ts=>
  obtain ⟨p,vs,e0,e,h0,hb,hp,r⟩:=h
  exact ⟨p,vs,e0,e,h0,by rw[g.nw p _ hp (by simp) (by simp)]; exact hb,g.gx.hh _ _ hp (by intro ps z; cases z),r.mono g.bb⟩
theorem Ev.grow (v:Ev M H0 B0 ρ σ H B) (g:qa5 H B H' B') (m:M.G.P H'):Ev M H0 B0 ρ σ H' B':=
 ⟨v.gr.trans g,m,v.len,λi s e=>(v.sl i s e).grow g,v.ap⟩
theorem Ev.bh (v:Ev M H0 B0 ρ σ H B):Le B H:=v.gr.bh
theorem Ev.bt (v:Ev M H0 B0 ρ σ H B): ∀a ps,B a≠some (.tbl ps):=v.gr.bt
theorem Ev.new (v:Ev M H0 B0 ρ σ H B) {p:Addr} {o:HO} (hp:H p=none) (ho: ∀ps,o≠.tbl ps):qa5 H B (upd H p o) (upd B p o)/\M.G.P (upd H p o):=
 ⟨.new v.bh v.bt hp ho,M.G.st H _ (λa u e _ _ _ _=>by rw[qad (qap e hp)]; exact e) v.gm⟩
theorem Ev.nown (v:Ev M H0 B0 ρ σ H B) {p:Addr} {o:HO} (hp:H p=none):qa5 H B (upd H p o) B/\M.G.P (upd H p o):=
 ⟨.own v.bh v.bt hp,M.G.st H _ (λa u e _ _ _ _=>by rw[qad (qap e hp)]; exact e) v.gm⟩
theorem Ev.get (v:Ev M H0 B0 ρ σ H B) {i:Nat} {t:T} (e:ρ[i]? =some (.fz t)): ∃x,σ[i]? =some (some x)/\Rep M.K B t x:=by
 obtain ⟨x,e1,r⟩:=v.sl i _ e
 refine ⟨x,?_,r⟩
 cases q:σ[i]? with
 | none=>rw[q] at e1; cases e1
 | some o=>rw[q] at e1; cases o with
  | none=>cases e1
  | some y=>cases e1; rfl
theorem Ev.getOw (v:Ev M H0 B0 ρ σ H B) {i:Nat} {ts:List T} (e:ρ[i]? =some (.ow ts)): ∃p vs,σ[i]? =some (some (.ref p))/\H0 p=none/\B p=none/\H p=some (.lst vs)/\qaK M.K B ts vs:=by
 obtain ⟨p,vs,e1,r⟩:=v.sl i _ e
 refine ⟨p,vs,?_,r⟩
 cases q:σ[i]? with
 | none=>rw[q] at e1; cases e1
 | some o=>rw[q] at e1; cases o with
  | none=>cases e1
  | some y=>cases e1; rfl
theorem qcn {σ:St} {i j:Nat} {x:V} (hi:i<σ.length):(σ.set i (some x))[j]?.join=if i=j then some x else σ[j]?.join:=by
 rw[List.getElem?_set]
 by_cases q:i=j
 ·subst q; rw[if_pos rfl,if_pos rfl,if_pos hi]; rfl
 ·rw[if_neg q,if_neg q]
theorem Ev.set (v:Ev M H0 B0 ρ σ H B) {i:Nat} {t:T} {x:V} (r:Rep M.K B t x):Ev M H0 B0 (ρ.set i (.fz t)) (σ.set i (some x)) H B:=by
 by_cases hi:i<ρ.length
 case neg=>
  rw[List.set_eq_of_length_le (by lia),List.set_eq_of_length_le (by rw[<-v.len]; lia)]
  exact v
 have hi':i<σ.length:=by rw[<-v.len]; exact hi
 refine ⟨v.gr,v.gm,by simp[v.len],λj s e=> ?_,λj k sj sk p hjk ej ek oj ok a=> ?_⟩
 ·rw[qcn hi']
  rw[List.getElem?_set] at e
  by_cases q:i=j
  ·subst q
   rw[if_pos rfl,if_pos hi] at e
   cases e
   rw[if_pos rfl]
   exact ⟨x,rfl,r⟩
  ·rw[if_neg q] at e⊢
   exact v.sl j s e
 ·rw[List.getElem?_set] at ej ek
  by_cases q:i=j
  ·subst q; rw[if_pos rfl,if_pos hi] at ej; cases ej; cases oj
  ·by_cases q2:i=k
   ·subst q2; rw[if_pos rfl,if_pos hi] at ek; cases ek; cases ok
   ·rw[if_neg q] at ej
    rw[if_neg q2] at ek
    rw[qcn hi',if_neg q] at a
    rw[qcn hi',if_neg q2]
    exact v.ap j k sj sk p hjk ej ek oj ok a
theorem Ev.setOw (v:Ev M H0 B0 ρ σ H B) {i:Nat} {ts:List T} {p:Addr} {vs:List V} (h0:H0 p=none) (hb:B p=none) (hp:H p=some (.lst vs)) (r:qaK M.K B ts vs)
  (ap: ∀(j:Nat) (s:Sl),j≠i->ρ[j]? =some s->s.own=true->σ[j]?.join≠some (.ref p)):Ev M H0 B0 (ρ.set i (.ow ts)) (σ.set i (some (.ref p))) H B:=by
 by_cases hi:i<ρ.length
 case neg=>
  rw[List.set_eq_of_length_le (by lia),List.set_eq_of_length_le (by rw[<-v.len]; lia)]
  exact v
 have hi':i<σ.length:=by rw[<-v.len]; exact hi
 refine ⟨v.gr,v.gm,by simp[v.len],λj s e=> ?_,λj k sj sk p' hjk ej ek oj ok a=> ?_⟩
 ·rw[qcn hi']
  rw[List.getElem?_set] at e
  by_cases q:i=j
  ·subst q
   rw[if_pos rfl,if_pos hi] at e
   cases e
   rw[if_pos rfl]
   exact ⟨p,vs,rfl,h0,hb,hp,r⟩
  ·rw[if_neg q] at e⊢
   exact v.sl j s e
 ·rw[List.getElem?_set] at ej ek
  rw[qcn hi'] at a⊢
  by_cases q:i=j
  ·subst q
   rw[if_neg hjk] at ek
   rw[if_pos rfl] at a
   rw[if_neg hjk]
   cases a
   exact ap k sk (λz=>hjk z.symm) ek ok
  ·rw[if_neg q] at ej a
   by_cases q2:i=k
   ·subst q2
    rw[if_pos rfl]
    intro z
    cases z
    exact ap j sj hjk ej oj a
   ·rw[if_neg q2] at ek⊢
    exact v.ap j k sj sk p' hjk ej ek oj ok a
theorem Ev.putOw (v:Ev M H0 B0 ρ σ H B) {i:Nat} {ts us:List T} {p:Addr} {ws:List V} (e:ρ[i]? =some (.ow ts)) (es:σ[i]? =some (some (.ref p))) (r:qaK M.K B us ws):Ev M H0 B0 (ρ.set i (.ow us)) σ (upd H p (.lst ws)) B:=by
 obtain ⟨q,vs,e1,h0,hb,hp,_⟩:=v.getOw e
 rw[es] at e1; cases e1
 have hi:i<ρ.length:=(List.getElem?_eq_some_iff.mp e).1
 have neB: ∀a o,B a=some o->a≠p:=λa o z w=>by rw[w,hb] at z; cases z
 refine ⟨⟨⟨λa o z n=> ?_,λa z w=> ?_⟩,v.gr.bb,λa o z=> ?_,v.gr.bt,v.gr.nw⟩,M.G.st H _ (λa o z n1 n2 n3 n4=> ?_) v.gm,by simp[v.len],λj s ej=> ?_,λj k sj sk p' hjk ej ek oj ok a=> ?_⟩
 ·rw[qad (qap z h0)]; exact v.gr.gx.hh a o z n
 ·by_cases q:a=p
  ·subst q; exact z h0
  ·rw[qad q] at w; exact v.gr.gx.dm a z w
 ·rw[qad (neB a o z)]; exact v.gr.bh a o z
 ·rw[qad (qoK z hp (n1 _))]; exact z
 ·rw[List.getElem?_set] at ej
  by_cases q:i=j
  ·subst q
   rw[if_pos rfl,if_pos hi] at ej
   cases ej
   exact ⟨p,ws,by rw[es]; rfl,h0,hb,qak,r⟩
  ·rw[if_neg q] at ej
   have o:=v.sl j s ej
   cases s with
   | no=>trivial
   | fz t=>exact o
   | ow ts'=>
    obtain ⟨p',vs',a1,a2,a3,a4,a5⟩:=o
    have ne:p'≠p:=λz=>by
     subst z
     exact v.ap i j _ _ p' q e ej rfl rfl (by rw[es]; rfl) a1
    exact ⟨p',vs',a1,a2,a3,by rw[qad ne]; exact a4,a5⟩
   | od ts'=>
    obtain ⟨p',vs',a1,a2,a3,a4,a5⟩:=o
    have ne:p'≠p:=λz=>by
     subst z
     exact v.ap i j _ _ p' q e ej rfl rfl (by rw[es]; rfl) a1
    exact ⟨p',vs',a1,a2,a3,by rw[qad ne]; exact a4,a5⟩
   | ou ts'=>
    obtain ⟨p',vs',a1,a2,a3,a4,a5⟩:=o
    have ne:p'≠p:=λz=>by
     subst z
     exact v.ap i j _ _ p' q e ej rfl rfl (by rw[es]; rfl) a1
    exact ⟨p',vs',a1,a2,a3,by rw[qad ne]; exact a4,a5⟩
   | pd ts'=>
    obtain ⟨p',vs',a0,a1,a2,a3,a4,a5⟩:=o
    have ne:p'≠p:=λz=>by
     subst z
     exact v.ap i j _ _ p' q e ej rfl rfl (by rw[es]; rfl) a1
    exact ⟨p',vs',a0,a1,a2,a3,by rw[qad ne]; exact a4,a5⟩
   | pu ts'=>
    obtain ⟨p',vs',a0,a1,a2,a3,a4,a5⟩:=o
    have ne:p'≠p:=λz=>by
     subst z
     exact v.ap i j _ _ p' q e ej rfl rfl (by rw[es]; rfl) a1
    exact ⟨p',vs',a0,a1,a2,a3,by rw[qad ne]; exact a4,a5⟩
 ·have own_at: ∀(l:Nat) (sl:Sl),(ρ.set i (.ow us))[l]? =some sl->sl.own=true->∃sl',ρ[l]? =some sl'/\sl'.own=true:=λl sl el ol=>by
   rw[List.getElem?_set] at el
   by_cases q:i=l
   ·subst q; exact ⟨_,e,rfl⟩
   ·rw[if_neg q] at el; exact ⟨sl,el,ol⟩
  obtain ⟨sj',ej',oj'⟩:=own_at j sj ej oj
  obtain ⟨sk',ek',ok'⟩:=own_at k sk ek ok
  exact v.ap j k sj' sk' p' hjk ej' ek' oj' ok' a
theorem Ev.freeze (v:Ev M H0 B0 ρ σ H B) {i:Nat} {ts:List T} (e:ρ[i]? =some (.ow ts)): ∃B',Le B B'/\Ev M H0 B0 (ρ.set i (.fz (.lst ts))) σ H B':=by
 obtain ⟨p,vs,es,h0,hb,hp,r⟩:=v.getOw e
 have hi:i<ρ.length:=(List.getElem?_eq_some_iff.mp e).1
 have le:Le B (upd B p (.lst vs)):=λa o z=>by rw[qad (qap z hb)]; exact z
 refine ⟨upd B p (.lst vs),le,⟨v.gr.gx,v.gr.bb.trans le,λa o z=> ?_,λa ps z=> ?_,λa o z n1 n2=> ?_⟩,v.gm,by simp[v.len],λj s ej=> ?_,λj k sj sk p' hjk ej ek oj ok a=> ?_⟩
 ·by_cases q:a=p
  ·subst q; rw[qak] at z; cases z; exact hp
  ·rw[qad q] at z; exact v.gr.bh a o z
 ·by_cases q:a=p
  ·subst q; rw[qak] at z; cases z
  ·rw[qad q] at z; exact v.gr.bt a ps z
 ·rw[qad (λq=>by rw[q,h0] at z; cases z)]; exact v.gr.nw a o z n1 n2
 ·rw[List.getElem?_set] at ej
  by_cases q:i=j
  ·subst q
   rw[if_pos rfl,if_pos hi] at ej
   cases ej
   refine ⟨.ref p,by rw[es]; rfl,?_⟩
   unfold Rep
   exact ⟨p,vs,rfl,qak,r.mono le⟩
  ·rw[if_neg q] at ej
   have o:=v.sl j s ej
   cases s with
   | no=>trivial
   | fz t=>obtain ⟨x,a1,a2⟩:=o; exact ⟨x,a1,a2.mono le⟩
   | ow ts'=>
    obtain ⟨p',vs',a1,a2,a3,a4,a5⟩:=o
    have ne:p'≠p:=λz=>by
     subst z
     exact v.ap i j _ _ p' q e ej rfl rfl (by rw[es]; rfl) a1
    exact ⟨p',vs',a1,a2,by rw[qad ne]; exact a3,a4,a5.mono le⟩
   | od ts'=>
    obtain ⟨p',vs',a1,a2,a3,a4,a5⟩:=o
    have ne:p'≠p:=λz=>by
     subst z
     exact v.ap i j _ _ p' q e ej rfl rfl (by rw[es]; rfl) a1
    exact ⟨p',vs',a1,a2,by rw[qad ne]; exact a3,a4,a5.mono le⟩
   | ou ts'=>
    obtain ⟨p',vs',a1,a2,a3,a4,a5⟩:=o
    have ne:p'≠p:=λz=>by
     subst z
     exact v.ap i j _ _ p' q e ej rfl rfl (by rw[es]; rfl) a1
    exact ⟨p',vs',a1,a2,by rw[qad ne]; exact a3,a4,a5.mono le⟩
   | pd ts'=>
    obtain ⟨p',vs',a0,a1,a2,a3,a4,a5⟩:=o
    have ne:p'≠p:=λz=>by
     subst z
     exact v.ap i j _ _ p' q e ej rfl rfl (by rw[es]; rfl) a1
    exact ⟨p',vs',a0,a1,a2,by rw[qad ne]; exact a3,a4,a5.mono le⟩
   | pu ts'=>
    obtain ⟨p',vs',a0,a1,a2,a3,a4,a5⟩:=o
    have ne:p'≠p:=λz=>by
     subst z
     exact v.ap i j _ _ p' q e ej rfl rfl (by rw[es]; rfl) a1
    exact ⟨p',vs',a0,a1,a2,by rw[qad ne]; exact a3,a4,a5.mono le⟩
 ·rw[List.getElem?_set] at ej ek
  by_cases q:i=j
  ·subst q; rw[if_pos rfl,if_pos hi] at ej; cases ej; cases oj
  ·by_cases q2:i=k
   ·subst q2; rw[if_pos rfl,if_pos hi] at ek; cases ek; cases ok
   ·rw[if_neg q] at ej
    rw[if_neg q2] at ek
    exact v.ap j k sj sk p' hjk ej ek oj ok a
end
end PL
end
section
namespace PL
open PySem L2
def qty (M:Md) (H0 H B:Hp) (Q:VK):Rs T->Prop
 | .no=>False
 | .ok r=> ∀v H' B',qa5 H B H' B'->M.G.P H'->Rep M.K B' r v->Q v H'
 | .ex c=> ∀H',GX H0 H'->M.G.P H'->M.E (.ref (M.C c)) none H'
def qt2 (M:Md) (H0 H B:Hp) (Q:List V->Hp->Prop):Rs (List T)->Prop
 | .no=>False
 | .ok r=> ∀v H' B',qa5 H B H' B'->M.G.P H'->qaK M.K B' r v->Q v H'
 | .ex c=> ∀H',GX H0 H'->M.G.P H'->M.E (.ref (M.C c)) none H'
def qt1 (M:Md) (H0 H B:Hp) (Q:VK):Rs (List T)->Prop
 | .no=>False
 | .ok r=> ∀p vs H' B',qa5 H B H' B'->M.G.P H'->H p=none->B' p=none->H' p=some (.lst vs)->qaK M.K B' r vs->Q (.ref p) H'
 | .ex c=> ∀H',GX H0 H'->M.G.P H'->M.E (.ref (M.C c)) none H'
def qt0 (M:Md) (H0 H B:Hp) (Q:VK):Rs (Bool×List T)->Prop
 | .no=>False
 | .ok r=> ∀p vs H' B',qa5 H B H' B'->M.G.P H'->(if r.1=true then H' p=some (.lst vs) else SqT M.K B' p vs)->qaK M.K B' r.2 vs->Q (.ref p) H'
 | .ex c=> ∀H',GX H0 H'->M.G.P H'->M.E (.ref (M.C c)) none H'
def qtZ (M:Md) (H0 H B:Hp) (Q:Bool->Hp->Prop):Rs Bool->Prop
 | .no=>False
 | .ok r=> ∀H' B',qa5 H B H' B'->M.G.P H'->Q r H'
 | .ex c=> ∀H',GX H0 H'->M.G.P H'->M.E (.ref (M.C c)) none H'
def tP (M:Md) (d:Ro->Rs T):TE:=λσ H Q=> ∃H0 B0 ρ B,Ev M H0 B0 ρ σ H B/\qty M H0 H B Q (d ρ)
def tPA (M:Md) (d:Ro->Rs (List T)):TA:=λσ H Q=> ∃H0 B0 ρ B,Ev M H0 B0 ρ σ H B/\qt2 M H0 H B Q (d ρ)
def tF (M:Md) (d:Ro->Rs (List T)):TE:=λσ H Q=> ∃H0 B0 ρ B,Ev M H0 B0 ρ σ H B/\qt1 M H0 H B Q (d ρ)
def tQ (M:Md) (d:Ro->Rs (Bool×List T)):TE:=λσ H Q=> ∃H0 B0 ρ B,Ev M H0 B0 ρ σ H B/\qt0 M H0 H B Q (d ρ)
def tPT (M:Md) (d:Ro->Rs Bool):TT:=λσ H Q=> ∃H0 B0 ρ B,Ev M H0 B0 ρ σ H B/\qtZ M H0 H B Q (d ρ)
abbrev DE (M:Md) (X:Cx) (e:Expr) (d:Ro->Rs T):Prop:=PE X e (tP M d)
abbrev DA (M:Md) (X:Cx) (es:List Expr) (d:Ro->Rs (List T)):Prop:=PA X es (tPA M d)
abbrev DF (M:Md) (X:Cx) (e:Expr) (d:Ro->Rs (List T)):Prop:=PE X e (tF M d)
abbrev DQ (M:Md) (X:Cx) (e:Expr) (d:Ro->Rs (Bool×List T)):Prop:=PE X e (tQ M d)
abbrev DT (M:Md) (X:Cx) (e:Expr) (d:Ro->Rs Bool):Prop:=PT X e (tPT M d)
theorem PE.weak {X:Cx} {e:Expr} {t t':TE} (h:PE X e t) (w: ∀σ H Q,t' σ H Q->t σ H Q):PE X e t':=λpins s σ H Q I q=>h pins s σ H Q I (w σ H Q q)
theorem PT.weak {X:Cx} {e:Expr} {t t':TT} (h:PT X e t) (w: ∀σ H Q,t' σ H Q->t σ H Q):PT X e t':=λpins s σ H Q I q=>h pins s σ H Q I (w σ H Q q)
theorem PA.weak {X:Cx} {e:List Expr} {t t':TA} (h:PA X e t) (w: ∀σ H Q,t' σ H Q->t σ H Q):PA X e t':=λpos pins s σ H Q I q=>h pos pins s σ H Q I (w σ H Q q)
theorem PS.weak {X:Cx} {e:Stmt} {t t':TS} (h:PS X e t) (w: ∀D σ H,t' D σ H->t D σ H):PS X e t':=λpins s σ H D I q=>h pins s σ H D I (w D σ H q)
theorem PSs.weak {X:Cx} {e:List Stmt} {t t':TS} (h:PSs X e t) (w: ∀D σ H,t' D σ H->t D σ H):PSs X e t':=λpins s σ H D I q=>h pins s σ H D I (w D σ H q)
section
variable {M:Md} {H0 B0 H B H1 B1:Hp} {ρ:Ro} {σ:St}
theorem qb2 {p:Addr} (g:GX H H1) (h:H1 p=none):H p=none:=by
 cases e:H p with
 | none=>rfl
 | some o=>exact absurd h (g.dm p (by rw[e]; simp))
end
section
variable {M:Md} {H0 B0 H B:Hp} {ρ:Ro} {σ:St} {α:Type}
def Wnt (M:Md) (H0:Hp) (k:α->Prop):Rs α->Prop
 | .no=>False
 | .ok a=>k a
 | .ex c=> ∀H',GX H0 H'->M.G.P H'->M.E (.ref (M.C c)) none H'
theorem Wnt.bind {β:Type} {k:β->Prop} {r:Rs α} {f:α->Rs β} (h:Wnt M H0 k (r>>=f)):Wnt M H0 (λa=>Wnt M H0 k (f a)) r:=by
 cases r with
 | no=>exact h
 | ok a=>exact h
 | ex c=>exact h
theorem Wnt.mono {k k':α->Prop} {r:Rs α} (h:Wnt M H0 k r) (f: ∀a,k a->k' a):Wnt M H0 k' r:=by
 cases r with
 | no=>exact h
 | ok a=>exact f a h
 | ex c=>exact h
theorem qay {Q:VK} {r:Rs T}:qty M H0 H B Q r↔Wnt M H0 (λa=> ∀v H' B',qa5 H B H' B'->M.G.P H'->Rep M.K B' a v->Q v H') r:=by cases r<;>exact Iff.rfl
theorem qiw {Q:List V->Hp->Prop} {r:Rs (List T)}:qt2 M H0 H B Q r↔Wnt M H0 (λa=> ∀v H' B',qa5 H B H' B'->M.G.P H'->qaK M.K B' a v->Q v H') r:=by cases r<;>exact Iff.rfl
theorem qcc {Q:VK} {r:Rs (List T)}:qt1 M H0 H B Q r↔Wnt M H0 (λa=> ∀p vs H' B',qa5 H B H' B'->M.G.P H'->H p=none->B' p=none->H' p=some (.lst vs)->qaK M.K B' a vs->Q (.ref p) H') r:=by cases r<;>exact Iff.rfl
theorem qdJ {Q:VK} {r:Rs (Bool×List T)}:qt0 M H0 H B Q r↔Wnt M H0 (λa=> ∀p vs H' B',qa5 H B H' B'->M.G.P H'->(if a.1=true then H' p=some (.lst vs) else SqT M.K B' p vs)->qaK M.K B' a.2 vs->Q (.ref p) H') r:=by cases r<;>exact Iff.rfl
theorem qdI {Q:Bool->Hp->Prop} {r:Rs Bool}:qtZ M H0 H B Q r↔Wnt M H0 (λa=> ∀H' B',qa5 H B H' B'->M.G.P H'->Q a H') r:=by cases r<;>exact Iff.rfl
theorem tP.of {Q:VK} {d:Ro->Rs T} (ev:Ev M H0 B0 ρ σ H B) (h:Wnt M H0 (λa=> ∀v H' B',qa5 H B H' B'->M.G.P H'->Rep M.K B' a v->Q v H') (d ρ)):tP M d σ H Q:=⟨H0,B0,ρ,B,ev,qay.mpr h⟩
theorem tPA.of {Q:List V->Hp->Prop} {d:Ro->Rs (List T)} (ev:Ev M H0 B0 ρ σ H B) (h:Wnt M H0 (λa=> ∀v H' B',qa5 H B H' B'->M.G.P H'->qaK M.K B' a v->Q v H') (d ρ)):tPA M d σ H Q:=⟨H0,B0,ρ,B,ev,qiw.mpr h⟩
theorem tF.of {Q:VK} {d:Ro->Rs (List T)} (ev:Ev M H0 B0 ρ σ H B) (h:Wnt M H0 (λa=> ∀p vs H' B',qa5 H B H' B'->M.G.P H'->H p=none->B' p=none->H' p=some (.lst vs)->qaK M.K B' a vs->Q (.ref p) H') (d ρ)):tF M d σ H Q:=⟨H0,B0,ρ,B,ev,qcc.mpr h⟩
theorem tQ.of {Q:VK} {d:Ro->Rs (Bool×List T)} (ev:Ev M H0 B0 ρ σ H B) (h:Wnt M H0 (λa=> ∀p vs H' B',qa5 H B H' B'->M.G.P H'->(if a.1=true then H' p=some (.lst vs) else SqT M.K B' p vs)->qaK M.K B' a.2 vs->Q (.ref p) H') (d ρ)):tQ M d σ H Q:=⟨H0,B0,ρ,B,ev,qdJ.mpr h⟩
theorem tPT.of {Q:Bool->Hp->Prop} {d:Ro->Rs Bool} (ev:Ev M H0 B0 ρ σ H B) (h:Wnt M H0 (λa=> ∀H' B',qa5 H B H' B'->M.G.P H'->Q a H') (d ρ)):tPT M d σ H Q:=⟨H0,B0,ρ,B,ev,qdI.mpr h⟩
end
def dV (i:Nat):Ro->Rs T:=λρ=>match ρ[i]? with | some (.fz t)=>.ok t | _=>.no
def dC (t:T):Ro->Rs T:=λ_=>.ok t
section
variable {M:Md} {X:Cx} {e a b c:Expr} {es:List Expr} {pos:Pos} {da db dc:Ro->Rs T} {ds:Ro->Rs (List T)}
theorem qaa {i:Nat} (h:PE X e (qhK i)):DE M X e (dV i):=by
 refine PE.weak h λσ H Q hq112=> ?_
 obtain ⟨H0,B0,ρ,B,ev,w⟩:=hq112
 have w:=qay.mp w
 unfold dV at w
 split at w
 ·rename_i t e1
  obtain ⟨x,e2,r⟩:=ev.get e1
  exact ⟨x,e2,w x H B (.refl ev.bh ev.bt) ev.gm r⟩
 ·exact w.elim
theorem qco {v:V} {t:T} (h:PE X e (tC v)) (r: ∀B,Rep M.K B t v):DE M X e (dC t):=
 PE.weak h λσ H Q ⟨H0,B0,ρ,B,ev,w⟩=>w v H B (.refl ev.bh ev.bt) ev.gm (r B)
theorem qaf {i j pos}:DE M X (.Constant (.int i) j pos) (dC (.int i)):=qco qdp λB=>by unfold Rep; rfl
theorem qeb {i j pos}:DE M X (.Constant (.bool i) j pos) (dC (.bl i)):=qco qsv λB=>by unfold Rep; rfl
theorem qcF {i j pos}:DE M X (.Constant (.str i) j pos) (dC (.str i)):=qco qqn λB=>by unfold Rep; rfl
def RS (M:Md) (r:R2) (g:T->T->Rs T):Prop:=
 ∀(H B:Hp) (x y:V) (a b c:T) (Q:VK),Le B H->(∀p ps,B p≠some (.tbl ps))->M.G.P H->Rep M.K B a x->Rep M.K B b y->g a b= .ok c->
  (∀v H' B',qa5 H B H' B'->M.G.P H'->Rep M.K B' c v->Q v H')->r x y H Q
def Pl (g:T->T->Rs T):Prop:= ∀a b c,g a b≠.ex c
def dB (g:T->T->Rs T) (da db:Ro->Rs T):Ro->Rs T:=λρ=>da ρ>>=λx=>db ρ>>=λy=>g x y
theorem qfI {r:R2} {g:T->T->Rs T} (hr:RS M r g) (hp:Pl g) {σ:St} {H:Hp} {Q:VK} (h:tP M (dB g da db) σ H Q):tOp r (tP M da) (tP M db) σ H Q:=by
 obtain ⟨H0,B0,ρ,B,ev,w⟩:=h
 refine tP.of ev (Wnt.mono (Wnt.bind (qay.mp w)) λx w1 v H1 B1 g1 m1 r1=> ?_)
 refine tP.of (ev.grow g1 m1) (Wnt.mono (Wnt.bind w1) λy w2 u H2 B2 g2 m2 r2=> ?_)
 cases e:g x y with
 | no=>rw[e] at w2; exact w2.elim
 | ex c=>exact absurd e (hp x y c)
 | ok z=>
  rw[e] at w2
  have ev2:=(ev.grow g1 m1).grow g2 m2
  exact hr H2 B2 v u x y z Q ev2.bh ev2.bt m2 (r1.mono g2.bb) r2 e λv' H' B' g' m' r'=>w2 v' H' B' ((g1.trans g2).trans g') m' r'
theorem qaJ {op:Operator} {r:R2} {g:T->T->Rs T} (ho:OpR X (binaryOp op) r) (hr:RS M r g) (hp:Pl g) (ha:DE M X a da) (hb:DE M X b db):DE M X (.BinOp a op b pos) (dB g da db):=
 PE.weak (qdo ho ha hb) λ_ _ _ h=>qfI hr hp h
theorem qlv {op:CmpOp} {r:R2} {g:T->T->Rs T} (ho:OpR X (compareOp op) r) (hr:RS M r g) (hp:Pl g) (ha:DE M X a da) (hb:DE M X b db) (hm:behindInMarks op b=false:=by first | exact qfJ _ (by decide) (by decide) | rfl):DE M X (.Compare a [op] [b] pos) (dB g da db):=
 PE.weak (qoy ho ha hb hm) λ_ _ _ h=>qfI hr hp h
theorem qaU {r:R2} {g:T->T->Rs T} (ho:IxR X r) (hr:RS M r g) (hp:Pl g) (ha:DE M X a da) (hb:DE M X b db) (hs:qhD b):DE M X (.Subscript a b pos) (dB g da db):=
 PE.weak (qmw ho ha hb hs) λ_ _ _ h=>qfI hr hp h
def qan:Ro->Rs (List T):=λ_=>.ok []
def qab (da:Ro->Rs T) (ds:Ro->Rs (List T)):Ro->Rs (List T):=λρ=>da ρ>>=λx=>ds ρ>>=λxs=>.ok (x::xs)
theorem qam:DA M X [] qan:=PA.weak qaF λσ H Q ⟨H0,B0,ρ,B,ev,w⟩=>w [] H B (.refl ev.bh ev.bt) ev.gm .nil
theorem qac (ha:DE M X e da) (hs:DA M X es ds) (hst:starEach (e::es) X.env=(false,eval e X.env)::starEach es X.env:=by rfl):DA M X (e::es) (qab da ds):=by
 refine PA.weak (qao ha hs hst) λσ H Q hq159=> ?_
 obtain ⟨H0,B0,ρ,B,ev,w⟩:=hq159
 refine tP.of ev (Wnt.mono (Wnt.bind (qiw.mp w)) λx w1 v H1 B1 g1 m1 r1=> ?_)
 refine tPA.of (ev.grow g1 m1) (Wnt.mono (Wnt.bind w1) λy w2 u H2 B2 g2 m2 r2=> ?_)
 exact w2 (v::u) H2 B2 (g1.trans g2) m2 (.cons (r1.mono g2.bb) r2)
def qbq (ds:Ro->Rs (List T)):Ro->Rs T:=λρ=>ds ρ>>=λxs=>if xs.length<=1000 then .ok (.tup xs) else .no
theorem qcj {x1} (hs:DA M X es ds):DE M X (.Tuple es x1 pos) (qbq ds):=by
 refine PE.weak (qqm hs) λσ H Q hq165=> ?_
 obtain ⟨H0,B0,ρ,B,ev,w⟩:=hq165
 refine tPA.of ev (Wnt.mono (Wnt.bind (qay.mp w)) λxs w1 vs H1 B1 g1 m1 r1=> ?_)
 have ev1:=ev.grow g1 m1
 split at w1
 ·rename_i hl
  refine ⟨Nat.le_of_lt (qbj (by rw[r1.length]; exact hl)),λp hp=> ?_⟩
  obtain ⟨g2,m2⟩:=ev1.new (o:=.tup vs) hp (by intro ps z; cases z)
  refine w1 (.ref p) _ _ (g1.trans g2) m2 ?_
  unfold Rep
  exact ⟨p,vs,rfl,qak,r1.mono g2.bb⟩
 ·exact w1.elim
def qdg (ds:Ro->Rs (List T)):Ro->Rs (List T):=λρ=>ds ρ>>=λxs=>if xs.length<=1000 then .ok xs else .no
theorem qeL (hs:DA M X es ds):DF M X (.List es pos) (qdg ds):=by
 refine PE.weak (qnI hs) λσ H Q hq178=> ?_
 obtain ⟨H0,B0,ρ,B,ev,w⟩:=hq178
 refine tPA.of ev (Wnt.mono (Wnt.bind (qcc.mp w)) λxs w1 vs H1 B1 g1 m1 r1=> ?_)
 have ev1:=ev.grow g1 m1
 split at w1
 ·rename_i hl
  refine ⟨Nat.le_of_lt (qbj (by rw[r1.length]; exact hl)),λp hp=> ?_⟩
  obtain ⟨g2,m2⟩:=ev1.nown (o:=.lst vs) hp
  have bp:B1 p=none:=by
   cases q:B1 p with
   | none=>rfl
   | some u=>rw[ev1.bh _ _ q] at hp; cases hp
  exact w1 p vs _ _ (g1.trans g2) m2 (qb2 g1.gx hp) bp qak r1
 ·exact w1.elim
def dFz (ds:Ro->Rs (List T)):Ro->Rs T:=λρ=>ds ρ>>=λxs=>.ok (.lst xs)
theorem qa5.freeze {H B H' B':Hp} {p:Addr} {vs:List V} (g:qa5 H B H' B') (h:H p=none) (hb:B' p=none) (hp:H' p=some (.lst vs)):qa5 H B H' (upd B' p (.lst vs))/\Le B' (upd B' p (.lst vs)):=by
 have le:Le B' (upd B' p (.lst vs)):=λa o z=>by rw[qad (qap z hb)]; exact z
 refine ⟨⟨g.gx,g.bb.trans le,λa o z=> ?_,λa ps z=> ?_,λa o z n1 n2=> ?_⟩,le⟩
 ·by_cases q:a=p
  ·subst q; rw[qak] at z; cases z; exact hp
  ·rw[qad q] at z; exact g.bh a o z
 ·by_cases q:a=p
  ·subst q; rw[qak] at z; cases z
  ·rw[qad q] at z; exact g.bt a ps z
 ·rw[qad (λq=>by rw[q,h] at z; cases z)]; exact g.nw a o z n1 n2
theorem qa8 {e:Expr} (h:DF M X e ds):DE M X e (dFz ds):=by
 refine PE.weak h λσ H Q hq204=> ?_
 obtain ⟨H0,B0,ρ,B,ev,w⟩:=hq204
 refine tF.of ev (Wnt.mono (Wnt.bind (qay.mp w)) λxs w1 p vs H1 B1 g1 m1 hp hb hl r1=> ?_)
 obtain ⟨g2,le⟩:=g1.freeze hp hb hl
 refine w1 (.ref p) H1 _ g2 m1 ?_
 unfold Rep
 exact ⟨p,vs,rfl,qak,r1.mono le⟩
def qg6:T->Rs (Bool×List T)
 | .lst ts=>.ok (true,ts)
 | .tup ts=>.ok (false,ts)
 | _=>.no
def dQ (da:Ro->Rs T):Ro->Rs (Bool×List T):=λρ=>da ρ>>=qg6
theorem qne (ha:DE M X e da):DQ M X e (dQ da):=by
 refine PE.weak ha λσ H Q hq217=> ?_
 obtain ⟨H0,B0,ρ,B,ev,w⟩:=hq217
 refine tP.of ev (Wnt.mono (Wnt.bind (qdJ.mp w)) λx w1 v H1 B1 g1 m1 r1=> ?_)
 cases x with
 | lst ts=>
  unfold Rep at r1
  obtain ⟨p,vs,rfl,hp,r⟩:=r1
  exact w1 p vs H1 B1 g1 m1 (by rw[if_pos rfl]; exact g1.bh _ _ hp) r
 | tup ts=>
  unfold Rep at r1
  obtain ⟨p,vs,rfl,hp,r⟩:=r1
  exact w1 p vs H1 B1 g1 m1 (by rw[if_neg (by intro z; cases z)]; exact (SqT.of hp)) r
 | _=>exact w1.elim
def dQF (ds:Ro->Rs (List T)):Ro->Rs (Bool×List T):=λρ=>ds ρ>>=λts=>.ok (true,ts)
theorem qbl (h:DF M X e ds):DQ M X e (dQF ds):=by
 refine PE.weak h λσ H Q hq231=> ?_
 obtain ⟨H0,B0,ρ,B,ev,w⟩:=hq231
 exact tF.of ev (Wnt.mono (Wnt.bind (qdJ.mp w)) λxs w1 p vs H1 B1 g1 m1 hp hb hl r1=>w1 p vs H1 B1 g1 m1 (by rw[if_pos rfl]; exact hl) r1)
def dQV (i:Nat):Ro->Rs (Bool×List T):=λρ=>match ρ[i]? with | some (.fz t)=>qg6 t | some (.ow ts)=>.ok (true,ts) | _=>.no
theorem qb8 {i:Nat} (h:PE X e (qhK i)):DQ M X e (dQV i):=by
 refine PE.weak h λσ H Q hq236=> ?_
 obtain ⟨H0,B0,ρ,B,ev,w⟩:=hq236
 have w:=qdJ.mp w
 unfold dQV at w
 split at w
 ·rename_i t e1
  obtain ⟨x,e2,r⟩:=ev.get e1
  refine ⟨x,e2,?_⟩
  cases t with
  | lst ts=>
   unfold Rep at r
   obtain ⟨p,vs,rfl,hp,r⟩:=r
   exact w p vs H B (.refl ev.bh ev.bt) ev.gm (by rw[if_pos rfl]; exact ev.bh _ _ hp) r
  | tup ts=>
   unfold Rep at r
   obtain ⟨p,vs,rfl,hp,r⟩:=r
   exact w p vs H B (.refl ev.bh ev.bt) ev.gm (by rw[if_neg (by intro z; cases z)]; exact (SqT.of hp)) r
  | _=>exact w.elim
 ·rename_i ts e1
  obtain ⟨p,vs,e2,h0,hb,hp,r⟩:=ev.getOw e1
  exact ⟨.ref p,e2,w p vs H B (.refl ev.bh ev.bt) ev.gm (by rw[if_pos rfl]; exact hp) r⟩
 ·exact w.elim
end
end PL
end
section
namespace PL
open PySem L2
inductive Out where
 | nx (ρ:Ro) | rt (t:T) | bk (ρ:Ro) | ct (ρ:Ro) | rs (s:Sl) (ρ:Ro)
def qn7 (M:Md) (H0 B0 B:Hp) (D:qn6):Out->Prop
 | .nx ρ=> ∀σ' H' B',Ev M H0 B0 ρ σ' H' B'->Le B B'->D.nx σ' H'
 | .bk ρ=> ∀σ' H' B',Ev M H0 B0 ρ σ' H' B'->Le B B'->D.bk σ' H'
 | .ct ρ=> ∀σ' H' B',Ev M H0 B0 ρ σ' H' B'->Le B B'->D.ct σ' H'
 | .rt t=> ∀v H' B',qa5 H0 B0 H' B'->M.G.P H'->Rep M.K B' t v->D.rt v H'
 | .rs s ρ=> ∀v σ' H' B',Ev M H0 B0 (s::ρ) (some v::σ') H' B'->Le B B'->D.rt v H'
theorem qn7.mono {M:Md} {H0 B0 B B1:Hp} {D:qn6} {o:Out} (h:qn7 M H0 B0 B D o) (le:Le B B1):qn7 M H0 B0 B1 D o:=by
 cases o with
 | nx ρ=>exact λσ' H' B' e l=>h σ' H' B' e (le.trans l)
 | bk ρ=>exact λσ' H' B' e l=>h σ' H' B' e (le.trans l)
 | ct ρ=>exact λσ' H' B' e l=>h σ' H' B' e (le.trans l)
 | rt t=>exact h
 | rs t ρ=>exact λv σ' H' B' e l=>h v σ' H' B' e (le.trans l)
def tS (M:Md) (d:Ro->Rs Out):TS:=λD σ H=> ∃H0 B0 ρ B,Ev M H0 B0 ρ σ H B/\Wnt M H0 (qn7 M H0 B0 B D) (d ρ)
abbrev DS (M:Md) (X:Cx) (st:Stmt) (d:Ro->Rs Out):Prop:=PS X st (tS M d)
abbrev DSs (M:Md) (X:Cx) (st:List Stmt) (d:Ro->Rs Out):Prop:=PSs X st (tS M d)
def qav:Ro->Rs Out:=λρ=>.ok (.nx ρ)
def qbH (o:Out) (e:Ro->Rs Out):Rs Out:=match o with | .nx ρ=>e ρ | o=>.ok o
def qax (d e:Ro->Rs Out):Ro->Rs Out:=λρ=>d ρ>>=λo=>qbH o e
def qaW (da:Ro->Rs T):Ro->Rs Out:=λρ=>da ρ>>=λt=>.ok (.rt t)
def qby (i:Nat) (da:Ro->Rs T):Ro->Rs Out:=λρ=>da ρ>>=λt=>.ok (.nx (ρ.set i (.fz t)))
def qbU (i:Nat) (ds:Ro->Rs (List T)):Ro->Rs Out:=λρ=>ds ρ>>=λts=>.ok (.nx (ρ.set i (.ow ts)))
def qbQ (da:Ro->Rs T):Ro->Rs Out:=λρ=>da ρ>>=λ_=>.ok (.nx ρ)
def dIf (dt:Ro->Rs Bool) (d e:Ro->Rs Out):Ro->Rs Out:=λρ=>dt ρ>>=λc=>if c=true then d ρ else e ρ
def dNo:Ro->Rs Out:=λ_=>.no
def qbn (ρ:Ro) (i:Nat) (us:List T):Rs Out:=match ρ[i]? with
 | some (.ow ts)=>if ts.length+us.length<=1000 then .ok (.nx (ρ.set i (.ow (ts++us)))) else .no
 | _=>.no
def qe3 (ρ:Ro) (i:Nat):Rs Unit:=match ρ[i]? with | some (.ow _)=>.ok () | _=>.no
def qdY (i:Nat) (da:Ro->Rs T):Ro->Rs Out:=λρ=>qe3 ρ i>>=λ_=>da ρ>>=λt=>qbn ρ i [t]
def qfY (i:Nat) (dq:Ro->Rs (Bool×List T)):Ro->Rs Out:=λρ=>qe3 ρ i>>=λ_=>dq ρ>>=λq=>if q.1=true then qbn ρ i q.2 else .no
def putAt (ρ:Ro) (i:Nat) (k:T) (t:T):Rs Out:=match ρ[i]?,k with
 | some (.ow ts),.int k=>(match ixN ts.length k with | some j=>.ok (.nx (ρ.set i (.ow (ts.set j t)))) | none=>.no)
 | _,_=>.no
def qrr (i:Nat) (dk da:Ro->Rs T):Ro->Rs Out:=λρ=>qe3 ρ i>>=λ_=>da ρ>>=λt=>dk ρ>>=λk=>putAt ρ i k t
def frz (i:Nat) (ρ:Ro):Ro:=match ρ[i]? with | some (.ow ts)=>ρ.set i (.fz (.lst ts)) | _=>ρ
section
variable {M:Md} {X:Cx} {e a b c:Expr} {st:Stmt} {qc3 sts sts':List Stmt} {pos:Pos} {da db dk:Ro->Rs T} {ds:Ro->Rs (List T)} {d d':Ro->Rs Out} {dt:Ro->Rs Bool} {dq:Ro->Rs (Bool×List T)} {x:Str} {pos':Pos} {i:Nat}
theorem qaR:DSs M X [] qav:=PSs.weak qha λD σ H ⟨H0,B0,ρ,B,ev,w⟩=>w σ H B ev (.refl _)
theorem qag (h:DS M X st d) (h':DSs M X qc3 d'):DSs M X (st::qc3) (qax d d'):=by
 refine PSs.weak (qef h h') λD σ H hq48=> ?_
 obtain ⟨H0,B0,ρ,B,ev,w⟩:=hq48
 refine ⟨H0,B0,ρ,B,ev,Wnt.mono (Wnt.bind w) λo w1=> ?_⟩
 cases o with
 | nx ρ'=>exact λσ' H' B' ev' le=>⟨H0,B0,ρ',B',ev',Wnt.mono w1 λo q=>q.mono le⟩
 | bk ρ'=>exact w1
 | ct ρ'=>exact w1
 | rs t ρ'=>exact w1
 | rt t=>exact w1
theorem qal (h:DS M X st d):DSs M X [st] d:=qew h
theorem qbO:DSs M X sts dNo:=PSs.weak qko λD σ H ⟨H0,B0,ρ,B,ev,w⟩=>w
theorem qaH (h:DE M X e da):DS M X (.Return (some e) pos) (qaW da):=by
 refine PS.weak (qdm h) λD σ H hq59=> ?_
 obtain ⟨H0,B0,ρ,B,ev,w⟩:=hq59
 exact tP.of ev (Wnt.mono (Wnt.bind w) λt w1 v H' B' g m r=>w1 v H' B' (ev.gr.trans g) m r)
theorem qcD (h:DE M X e da) (hs:swapsWith e none pos.line X.env=pure false:=by rfl):DS M X (.Expr e pos) (qbQ da):=by
 refine PS.weak (qhb h hs) λD σ H hq68=> ?_
 obtain ⟨H0,B0,ρ,B,ev,w⟩:=hq68
 exact tP.of ev (Wnt.mono (Wnt.bind w) λt w1 v H' B' g m r=>w1 σ H' B' (ev.grow g m) g.bb)
theorem qbP (hc:DT M X c dt) (h:DSs M X sts d) (h':DSs M X sts' d'):DS M X (.If c sts sts' pos) (dIf dt d d'):=by
 refine PS.weak (qoq hc h h') λD σ H hq71=> ?_
 obtain ⟨H0,B0,ρ,B,ev,w⟩:=hq71
 refine tPT.of ev (Wnt.mono (Wnt.bind w) λt w1 H' B' g m=> ?_)
 cases t with
 | true=>exact ⟨H0,B0,ρ,B',ev.grow g m,Wnt.mono w1 λo q=>q.mono g.bb⟩
 | false=>exact ⟨H0,B0,ρ,B',ev.grow g m,Wnt.mono w1 λo q=>q.mono g.bb⟩
theorem qci (hN:X.N.Nodup) (hi:X.N[i]? =some x) (hx:Loc X.env.scope x) (h:DE M X e da) (hs:swapsWith e (some (.Name x pos')) pos.line X.env=pure false:=by rfl) (hf:X.fn x=true\/X.env.scope.names.lookup x=some .local:=by first | exact .inl rfl | exact .inr rfl | assumption):
  DS M X (.Assign [.Name x pos'] e pos) (qby i da):=by
 refine PS.weak (qfi hN hi hx h hs hf) λD σ H hq78=> ?_
 obtain ⟨H0,B0,ρ,B,ev,w⟩:=hq78
 exact tP.of ev (Wnt.mono (Wnt.bind w) λt w1 v H' B' g m r=>w1 _ H' B' ((ev.grow g m).set r) g.bb)
theorem Ev.newOwn {M:Md} {H0 B0 H B H' B':Hp} {ρ:Ro} {σ:St} {p:Addr} {vs:List V} {ts:List T} (i:Nat) (ev:Ev M H0 B0 ρ σ H B) (g:qa5 H B H' B') (m:M.G.P H') (hp:H p=none) (hb:B' p=none) (hl:H' p=some (.lst vs)) (r:qaK M.K B' ts vs):
  Ev M H0 B0 (ρ.set i (.ow ts)) (σ.set i (some (.ref p))) H' B':=by
 refine (ev.grow g m).setOw (qb2 ev.gr.gx hp) hb hl r λj s hj e o z=> ?_
 have q:=ev.sl j s e
 cases s with
 | no=>cases o
 | fz t=>cases o
 | ow ts'=>
  obtain ⟨p',vs',a1,a2,a3,a4,a5⟩:=q
  rw[a1] at z; cases z
  rw[a4] at hp; cases hp
 | od ts'=>
  obtain ⟨p',vs',a1,a2,a3,a4,a5⟩:=q
  rw[a1] at z; cases z
  rw[a4] at hp; cases hp
 | ou ts'=>
  obtain ⟨p',vs',a1,a2,a3,a4,a5⟩:=q
  rw[a1] at z; cases z
  rw[a4] at hp; cases hp
 | pd ts'=>
  obtain ⟨p',vs',a0,a1,a2,a3,a4,a5⟩:=q
  rw[a1] at z; cases z
  rw[a4] at hp; cases hp
 | pu ts'=>
  obtain ⟨p',vs',a0,a1,a2,a3,a4,a5⟩:=q
  rw[a1] at z; cases z
  rw[a4] at hp; cases hp
theorem qeJ (hN:X.N.Nodup) (hi:X.N[i]? =some x) (hx:Loc X.env.scope x) (h:DF M X e ds) (hs:swapsWith e (some (.Name x pos')) pos.line X.env=pure false:=by rfl) (hf:X.fn x=true\/X.env.scope.names.lookup x=some .local:=by first | exact .inl rfl | exact .inr rfl | assumption):
  DS M X (.Assign [.Name x pos'] e pos) (qbU i ds):=by
 refine PS.weak (qfi hN hi hx h hs hf) λD σ H hq97=> ?_
 obtain ⟨H0,B0,ρ,B,ev,w⟩:=hq97
 exact tF.of ev (Wnt.mono (Wnt.bind w) λt w1 p vs H' B' g m hp hb hl r=>w1 _ H' B' (ev.newOwn i g m hp hb hl r) g.bb)
theorem qkm {M:Md} {H0 B0 H B:Hp} {ρ:Ro} {σ:St} {us:List T} {ws:List V} {Bs:Hp} {D:qn6} (ev:Ev M H0 B0 ρ σ H B) (r:qaK M.K B us ws) (w:Wnt M H0 (qn7 M H0 B0 Bs D) (qbn ρ i us)) (le:Le Bs B):
  ∃p vs,σ[i]? =some (some (.ref p))/\H p=some (.lst vs)/\B p=none/\vs.length+ws.length<sizeLine/\D.nx σ (upd H p (.lst (vs++ws))):=by
 unfold qbn at w
 split at w
 ·rename_i ts e1
  split at w
  ·rename_i hl
   obtain ⟨p,vs,e2,h0,hb,hp,rv⟩:=ev.getOw e1
   refine ⟨p,vs,e2,hp,hb,qbj (by rw[rv.length,r.length]; exact hl),w σ _ B (ev.putOw e1 e2 (rv.append r)) le⟩
  ·exact w.elim
 ·exact w.elim
theorem own_of {M:Md} {H0:Hp} {ρ:Ro} {α:Type} {k:α->Prop} {f:Unit->Rs α} (w:Wnt M H0 k (qe3 ρ i>>=f)): ∃ts,ρ[i]? =some (.ow ts)/\Wnt M H0 k (f ()):=by
 unfold qe3 at w
 split at w
 ·rename_i ts e1; exact ⟨ts,e1,w⟩
 ·exact w.elim
theorem qeK {m:Expr} (h:PE X m (tBM X.K "list" qkl (qhK i) (qcv (tP M da) qhL))) (hs:swapsWith m none pos.line X.env=pure false:=by rfl):DS M X (.Expr m pos) (qdY i da):=by
 refine PS.weak (qhb h hs) λD σ H hq116=> ?_
 obtain ⟨H0,B0,ρ,B,ev,w⟩:=hq116
 obtain ⟨ts,e1,w⟩:=own_of w
 obtain ⟨p,vs,e2,h0,hb,hp,rv⟩:=ev.getOw e1
 refine ⟨.ref p,e2,.inl ⟨rfl,_,SqL.of hp⟩,?_⟩
 refine tP.of ev (Wnt.mono (Wnt.bind w) λt w1 v H' B' g m r=> ?_)
 obtain ⟨p',vs',q1,q2,q3,q4,q5⟩:=qkm (Bs:=B) (ev.grow g m) (.cons r .nil) w1 g.bb
 rw[e2] at q1; cases q1
 exact ⟨p,vs',v,rfl,rfl,q2,by simpa using Nat.lt_of_succ_lt q4,q5⟩
theorem qlp {m:Expr} (h:PE X m (tBM X.K "list" qkk (qhK i) (qcv (tQ M dq) qhL))) (hs:swapsWith m none pos.line X.env=pure false:=by rfl):DS M X (.Expr m pos) (qfY i dq):=by
 refine PS.weak (qhb h hs) λD σ H hq125=> ?_
 obtain ⟨H0,B0,ρ,B,ev,w⟩:=hq125
 obtain ⟨ts,e1,w⟩:=own_of w
 obtain ⟨p,vs,e2,h0,hb,hp,rv⟩:=ev.getOw e1
 refine ⟨.ref p,e2,.inl ⟨rfl,_,SqL.of hp⟩,?_⟩
 refine tQ.of ev (Wnt.mono (Wnt.bind w) λt w1 b us H' B' g m hq r=> ?_)
 split at w1
 ·rename_i hc
  rw[if_pos hc] at hq
  obtain ⟨p',vs',q1,q2,q3,q4,q5⟩:=qkm (Bs:=B) (ev.grow g m) r w1 g.bb
  rw[e2] at q1; cases q1
  exact ⟨p,b,vs',us,rfl,rfl,q2,hq,Nat.le_of_lt q4,q5⟩
 ·exact w1.elim
theorem qqZ {o k:Expr} {ppos tpos:Pos} (ho:PE X o (qhK i)) (hk:DE M X k dk) (h:DE M X e da) (hg:PG X (.Subscript o k tpos) (gSub (qhK i) (tP M dk) qp5))
  (hs:swapsWithSole [.Subscript o k tpos] e pos.line X.env=pure false:=by rfl) (hw:swappedStores [.Subscript o k tpos] e X.env=pure none:=by rfl)
  (h1:(assignEach [.Subscript o k tpos] X.env).map (·.2)=[assign (.Subscript o k tpos) X.env]:=by rfl):DS M X (.Assign [.Subscript o k tpos] e pos) (qrr i dk da):=by
 refine PS.weak (qnG h hg hs hw h1) λD σ H hq140=> ?_
 obtain ⟨H0,B0,ρ,B,ev,w⟩:=hq140
 obtain ⟨ts,e1,w⟩:=own_of w
 refine tP.of ev (Wnt.mono (Wnt.bind w) λt w1 v H1 B1 g1 m1 r1=> ?_)
 have ev1:=ev.grow g1 m1
 obtain ⟨p,vs,e2,h0,hb,hp,rv⟩:=ev1.getOw e1
 refine ⟨.ref p,e2,?_⟩
 refine tP.of ev1 (Wnt.mono (Wnt.bind w1) λkt w2 u H2 B2 g2 m2 r2=> ?_)
 have ev2:=ev1.grow g2 m2
 unfold putAt at w2
 split at w2
 ·rename_i ts' k' e3
  rw[e1] at e3; cases e3
  split at w2
  ·rename_i j hj
   obtain ⟨p',vs',e2',h0',hb',hp',rv'⟩:=ev2.getOw e1
   rw[e2] at e2'; cases e2'
   have hu:u= .int k':=by unfold Rep at r2; exact r2
   subst hu
   exact ⟨p,vs',k',j,rfl,rfl,hp',by rw[rv'.length]; exact hj,w2 σ _ B2 (ev2.putOw e1 e2 (rv'.set j (r1.mono g2.bb))) (g1.bb.trans g2.bb)⟩
  ·exact w2.elim
 ·exact w2.elim
theorem Ev.frz {M:Md} {H0 B0 H B:Hp} {ρ:Ro} {σ:St} (i:Nat) (ev:Ev M H0 B0 ρ σ H B): ∃B',Le B B'/\Ev M H0 B0 (frz i ρ) σ H B':=by
 unfold PL.frz
 split
 ·rename_i ts e1; exact ev.freeze e1
 ·exact ⟨B,.refl _,ev⟩
theorem qlo (i:Nat) (h:DS M X st d):DS M X st (λρ=>d (frz i ρ)):=by
 refine PS.weak h λD σ H hq167=> ?_
 obtain ⟨H0,B0,ρ,B,ev,w⟩:=hq167
 obtain ⟨B',le,ev'⟩:=ev.frz i
 exact ⟨H0,B0,_,B',ev',Wnt.mono w λo q=>q.mono le⟩
end
def tG (M:Md) (dg:T->Ro->Rs Ro):TG:=λv σ H Q=> ∃H0 B0 ρ B t,Ev M H0 B0 ρ σ H B/\Rep M.K B t v/\Wnt M H0 (λρ'=> ∀σ',Ev M H0 B0 ρ' σ' H B->Q σ' H) (dg t ρ)
def tGs (M:Md) (dg:List T->Ro->Rs Ro):TGs:=λv σ H Q=> ∃H0 B0 ρ B t,Ev M H0 B0 ρ σ H B/\qaK M.K B t v/\Wnt M H0 (λρ'=> ∀σ',Ev M H0 B0 ρ' σ' H B->Q σ' H) (dg t ρ)
abbrev DG (M:Md) (X:Cx) (e:Expr) (dg:T->Ro->Rs Ro):Prop:=PG X e (tG M dg)
abbrev DGs (M:Md) (X:Cx) (e:List Expr) (dg:List T->Ro->Rs Ro):Prop:=PGs X e (tGs M dg)
theorem PG.weak {X:Cx} {e:Expr} {t t':TG} (h:PG X e t) (w: ∀v σ H Q,t' v σ H Q->t v σ H Q):PG X e t':=λpins s σ H v u Q I r q=>h pins s σ H v u Q I r (w v σ H Q q)
theorem PGs.weak {X:Cx} {e:List Expr} {t t':TGs} (h:PGs X e t) (w: ∀v σ H Q,t' v σ H Q->t v σ H Q):PGs X e t':=λpins s σ H v u Q I r q=>h pins s σ H v u Q I r (w v σ H Q q)
def gN (i:Nat):T->Ro->Rs Ro:=λt ρ=>.ok (ρ.set i (.fz t))
def gsN:List T->Ro->Rs Ro:=λts ρ=>match ts with | []=>.ok ρ | _=>.no
def gsC (dg:T->Ro->Rs Ro) (dr:List T->Ro->Rs Ro):List T->Ro->Rs Ro:=λts ρ=>match ts with | t::r=>dg t ρ>>=dr r | []=>.no
def gT (n:Nat) (dr:List T->Ro->Rs Ro):T->Ro->Rs Ro:=λt ρ=>match t with | .tup ts=>if ts.length=n then dr ts ρ else .no | _=>.no
section
variable {M:Md} {X:Cx} {e:Expr} {es:List Expr} {pos:Pos} {i:Nat} {x:Str} {dg:T->Ro->Rs Ro} {dr:List T->Ro->Rs Ro}
theorem qaV {i:Nat} (h:PG X e (qoV i)):DG M X e (gN i):=PG.weak h λv σ H Q ⟨H0,B0,ρ,B,t,ev,r,w⟩=>w _ (ev.set r)
theorem qcE:DGs M X [] gsN:=PGs.weak qov λv σ H Q ⟨H0,B0,ρ,B,t,ev,r,w⟩=>by
 cases t with
 | nil=>exact ⟨r.inv0,w σ ev⟩
 | cons _ _=>exact w.elim
theorem qaA (h1:DG M X e dg) (h2:DGs M X es dr) (hs:(assignEach (e::es) X.env).map (·.2)=assign e X.env::(assignEach es X.env).map (·.2):=by rfl):DGs M X (e::es) (gsC dg dr):=by
 refine PGs.weak (qmv h1 h2 hs) λv σ H Q hq194=> ?_
 obtain ⟨H0,B0,ρ,B,t,ev,r,w⟩:=hq194
 cases t with
 | nil=>exact w.elim
 | cons t ts=>
  obtain ⟨u,vs,rfl,ra,rb⟩:=r.inv
  exact ⟨u,vs,rfl,H0,B0,ρ,B,t,ev,ra,Wnt.mono (Wnt.bind w) λρ' w1 σ' ev'=>⟨H0,B0,ρ',B,ts,ev',rb,w1⟩⟩
theorem qd7 {k n:Nat} (hc:X.calm=true) (h:DGs M X es dr) (hK:X.K=M.K:=by rfl) (hn:(assignEach es X.env).length=n:=by rfl) (hst:(assignEach es X.env).findIdx? (·.1)=none:=by rfl):DG M X (.Tuple es k pos) (gT n dr):=by
 refine PG.weak (qqj hc h hn hst) λv σ H Q hq201=> ?_
 obtain ⟨H0,B0,ρ,B,t,ev,r,w⟩:=hq201
 cases t with
 | tup ts=>
  unfold gT at w
  dsimp only at w
  split at w
  ·rename_i hl
   unfold Rep at r
   obtain ⟨p,vs,rfl,hp,rs⟩:=r
   exact ⟨p,vs,rfl,by rw[hK]; exact ev.bh.sqT (SqT.of hp),by rw[rs.length]; exact hl,H0,B0,ρ,B,ts,ev,rs,w⟩
  ·exact w.elim
 | _=>exact w.elim
end
def qtV (M:Md) (J:It) (B1:Hp) (ts:List T):Prop:= ∀H' B',Le B1 B'->Le B' H'->(∀a ps,B' a≠some (.tbl ps))->M.G.P H'->∀i:Nat,
 (∀t,ts[i]? =some t->J.go i H'/\∀x H'',J.yld i H' x H''->∃B'',qa5 H' B' H'' B''/\M.G.P H''/\Rep M.K B'' t x)/\(i=ts.length->J.stop i H')
def tI (M:Md) (d:Ro->Rs (List T)):TI:=λσ H R=> ∃H0 B0 ρ B,Ev M H0 B0 ρ σ H B/\Wnt M H0 (λts=> ∀J H1 B1,qa5 H B H1 B1->M.G.P H1->ts.length<=sizeLine->qtV M J B1 ts->R J H1) (d ρ)
abbrev DI (M:Md) (X:Cx) (tg e:Expr) (d:Ro->Rs (List T)):Prop:=PI X tg e (tI M d)
theorem PI.weak {X:Cx} {tg e:Expr} {t t':TI} (h:PI X tg e t) (w: ∀σ H Q,t' σ H Q->t σ H Q):PI X tg e t':=λpins s σ H Q I q=>h pins s σ H Q I (w σ H Q q)
section
variable {M:Md} {X:Cx} {tg e:Expr} {da:Ro->Rs T} {ds:Ro->Rs (List T)}
def quX (K:PySem.W.Frag) (tl:TE):TI:=λσ H R=>tl σ H λx H1=> ∃a,x= .ref a/\(((∃xs,SqL K H1 a xs/\(xs.length<=sizeLine->R (Itl K a) H1)))\/(∃xs,SqT K H1 a xs/\(xs.length<=sizeLine->R (Itt K a) H1)))
theorem qqi {l:Expr} {tl:TE} (hl:PE X l tl):PI X tg l (quX X.K tl):=by
 intro pins s σ H R I h
 refine thn (hl pins s σ H _ I h) λv s1 hq232=> ?_
 obtain ⟨x,H1,I1,r1,q1⟩:=hq232
 obtain ⟨a,e,q⟩:=q1
 subst e
 cases r1
 rcases q with ⟨xs,hq,q⟩ | ⟨xs,hq,q⟩
 ·obtain ⟨its,rv,p,hz⟩:=I1.list hq
  have q:=q hz
  refine wpAny_pyIter_list p.isList ?_
  refine ⟨s1.heap.objs.size,[s1.heap.objs.size],_,_,H1,rfl,I1.kept (t':=s1.toks) λb o e=>Heap.get?_push_of_some _ e,qjN a _,⟨_,Heap.get?_push_size _ rfl,rfl,rfl⟩,λb hb=> ?_,q⟩
  have e:b=s1.heap.objs.size:=by simpa using hb
  subst e
  exact I1.fpOk (Nat.le_refl _) (I1.hok.fresh (Nat.le_refl _))
 ·obtain ⟨its,rv,p,hz⟩:=I1.tuple hq
  have q:=q hz
  refine wpAny_pyIter_tuple p ?_
  refine ⟨s1.heap.objs.size,[s1.heap.objs.size],_,_,H1,rfl,I1.kept (t':=s1.toks) λb o e=>Heap.get?_push_of_some _ e,qiS a _,⟨_,Heap.get?_push_size _ rfl,rfl,rfl⟩,λb hb=> ?_,q⟩
  have e:b=s1.heap.objs.size:=by simpa using hb
  subst e
  exact I1.fpOk (Nat.le_refl _) (I1.hok.fresh (Nat.le_refl _))
end
end PL
end
section
namespace PL
open PySem L2
def qc6:T->Rs (List T)
 | .lst ts=>.ok ts
 | .tup ts=>.ok ts
 | _=>.no
def dI (da:Ro->Rs T):Ro->Rs (List T):=λρ=>da ρ>>=qc6
def qj6:T->Rs (List T)
 | .str z=>if z.length<=1000 then .ok (z.cps.toList.map λc=>.str ⟨#[c]⟩) else .no
 | _=>.no
def dIS (da:Ro->Rs T):Ro->Rs (List T):=λρ=>da ρ>>=qj6
def qt5 (lo hi:Int):List T:=(List.range (hi - lo).toNat).map λk=>.int (lo+(k:Nat))
def qkj:List T->Rs (List T)
 | [.int n]=>if n<=1000000/\ -1000000<=n then .ok ((List.range n.toNat).map λk=>.int (k:Nat)) else .no
 | _=>.no
def qp3:List T->Rs (List T)
 | [.int m,.int n]=>if (n<=1000000/\ -1000000<=n)/\m<=1000000/\ -1000000<=m then .ok (qt5 m n) else .no
 | _=>.no
def qgF (ds:Ro->Rs (List T)):Ro->Rs (List T):=λρ=>ds ρ>>=qkj
def qiI (ds:Ro->Rs (List T)):Ro->Rs (List T):=λρ=>ds ρ>>=qp3
def qnv (xs ys:List T):List T:=(xs.zip ys).map λp=>.tup [p.1,p.2]
def ql0:List T->Rs (List T)
 | [.lst xs,.lst ys]=>.ok (qnv xs ys)
 | _=>.no
def dIZ (ds:Ro->Rs (List T)):Ro->Rs (List T):=λρ=>ds ρ>>=ql0
theorem qqB:(1000000:Nat)<=sizeLine:=by decide
open PySem.Spec PyProof.Rows in
theorem qou {X:Cx} {elts:List Expr} {kk:Nat} {tpos:Pos} {a b:Expr} {ta:TA} {p pos:Pos} (hg:Gl X "zip") (hm:X.mg "zip" =none) (ha:PA X [a,b] ta) (hs:starEach [a,b] X.env=(false,eval a X.env)::starEach [b] X.env:=by rfl) (hpl:(backTo pos (starEach [b] X.env)).any (·.1)=false:=by rfl):
  PI X (.Tuple elts kk tpos) (.Call (.Name "zip" p) [a,b] [] pos) (λσ H R=>ta σ H λvs H1=> ∃l1 l2 xs ys,vs=[.ref l1,.ref l2]/\SqL X.K H1 l1 xs/\SqL X.K H1 l2 ys/\(xs.length<=sizeLine->ys.length<=sizeLine->R (Itz X.K l1 l2) H1)):=by
 intro pins s σ H R I h
 refine wpAny_Call_Name_kw (qd4 I hg hm PyProof.Rows.boot_zip ?_)
 refine PyProof.Rows.callWith_type1 (thn (ha pos pins s σ H _ I h) λus s1 ⟨vs,H1,I1,r1,l1,l2,xs,ys,e,h1,h2,q⟩=> ?_) hs hpl
 subst e
 obtain ⟨u1,u2,rfl,ru1,ru2⟩:=ql2 r1
 cases ru1; cases ru2
 obtain ⟨its1,rr1,p1,z1⟩:=I1.list h1
 obtain ⟨its2,rr2,p2,z2⟩:=I1.list h2
 have q:=q z1 z2
 obtain ⟨o1,ho1,_⟩:=p1.isList
 obtain ⟨o2,ho2,_⟩:=p2.isList
 have lt1:l1<s1.heap.objs.size:=Heap.lt_size ho1
 have lt2:l2<s1.heap.objs.size:=Heap.lt_size ho2
 refine call_zip_2 p1.isList p2.isList λh' hz hTI hTO hi1 hi2 hsz kp=>wpAny_pyIter_zip hz ?_
 have D:ZipApart (s1.heap.objs.size+4) (s1.heap.objs.size+2) (s1.heap.objs.size+3) s1.heap.objs.size (s1.heap.objs.size+1) l1 l2:=PySem.W.ktu_apart _ _ _ lt1 lt2
 refine ⟨_,_,_,Itz X.K l1 l2,H1,rfl,I1.kept (t':=s1.toks) kp,ql4 D,⟨hz,hTI,⟨_,_,hTO⟩,hi1,hi2⟩,λb hb=> ?_,q⟩
 have hle:s1.heap.objs.size<=b:=by
  have hb':b=s1.heap.objs.size+4\/b=s1.heap.objs.size+2\/b=s1.heap.objs.size+3\/b=s1.heap.objs.size\/b=s1.heap.objs.size+1:=by simpa using hb
  rcases hb' with rfl | rfl | rfl | rfl | rfl
  ·exact Nat.le_add_right _ _
  ·exact Nat.le_add_right _ _
  ·exact Nat.le_add_right _ _
  ·exact Nat.le_refl _
  ·exact Nat.le_add_right _ _
 exact I1.fpOk hle (I1.hok.fresh hle)
section
variable {M:Md} {X:Cx} {tg e a b:Expr} {da:Ro->Rs T} {ds:Ro->Rs (List T)}
theorem qa4 (h:DE M X e da) (hK:X.K=M.K:=by rfl):DI M X tg e (dI da):=by
 refine PI.weak (qqi h) λσ H R hq63=> ?_
 obtain ⟨H0,B0,ρ,B,ev,w⟩:=hq63
 refine tP.of ev (Wnt.mono (Wnt.bind w) λt w1 v H1 B1 g1 m1 r1=> ?_)
 rw[hK]
 cases t with
 | lst ts=>
  unfold Rep at r1
  obtain ⟨p,vs,rfl,hp,r⟩:=r1
  refine ⟨p,rfl,.inl ⟨vs,SqL.of (g1.bh _ _ hp),λhz=>w1 _ H1 B1 g1 m1 (by rw[<-r.length]; exact hz) λH' B' le bh bt m i=>⟨λt et=> ?_,λhi=> ?_⟩⟩⟩
  ·have q:SqL M.K H' p vs:=SqL.of (bh _ _ (le _ _ hp))
   obtain ⟨x,ex,rx⟩:=r.get et
   refine ⟨⟨vs,x,q,ex⟩,λy H'' ⟨e1,e2⟩=> ?_⟩
   subst e1
   have:=e2 vs q
   rw[ex] at this; cases this
   exact ⟨B',.refl bh bt,m,rx.mono le⟩
  ·exact ⟨vs,SqL.of (bh _ _ (le _ _ hp)),by rw[r.length,hi]; exact Nat.le_refl _⟩
 | tup ts=>
  unfold Rep at r1
  obtain ⟨p,vs,rfl,hp,r⟩:=r1
  have hp:SqT M.K B1 p vs:=SqT.of hp
  refine ⟨p,rfl,.inr ⟨vs,g1.bh.sqT hp,λhz=>w1 _ H1 B1 g1 m1 (by rw[<-r.length]; exact hz) λH' B' le bh bt m i=>⟨λt et=> ?_,λhi=> ?_⟩⟩⟩
  ·have q:SqT M.K H' p vs:=bh.sqT (le.sqT hp)
   obtain ⟨x,ex,rx⟩:=r.get et
   refine ⟨⟨vs,x,q,ex⟩,λy H'' ⟨e1,e2⟩=> ?_⟩
   subst e1
   have:=e2 vs q
   rw[ex] at this; cases this
   exact ⟨B',.refl bh bt,m,rx.mono le⟩
  ·exact ⟨vs,bh.sqT (le.sqT hp),by rw[r.length,hi]; exact Nat.le_refl _⟩
 | _=>exact w1.elim
theorem qq1 (h:DE M X e da):DI M X tg e (dIS da):=by
 refine PI.weak (qqh h) λσ H R hq93=> ?_
 obtain ⟨H0,B0,ρ,B,ev,w⟩:=hq93
 refine tP.of ev (Wnt.mono (Wnt.bind w) λt w1 v H1 B1 g1 m1 r1=> ?_)
 cases t with
 | str z=>
  have e1:v= .str z:=by unfold Rep at r1; exact r1
  subst e1
  unfold qj6 at w1
  dsimp only at w1
  split at w1
  ·rename_i hz
   refine ⟨z,rfl,w1 _ H1 B1 g1 m1 ?_ λH' B' le bh bt m i=>⟨λt et=> ?_,λhi=> ?_⟩⟩
   ·rw[List.length_map,Array.length_toList]
    exact Nat.le_of_lt (qbj hz)
   ·rw[List.getElem?_map] at et
    cases q:z.cps.toList[i]? with
    | none=>rw[q] at et; cases et
    | some c=>
     rw[q] at et
     cases et
     have hi:=(List.getElem?_eq_some_iff.mp q).1
     refine ⟨show i<z.cps.size by simpa using hi,λy H'' ⟨e1,c',e2,e3⟩=> ?_⟩
     subst e1 e3
     rw[Array.getElem?_toList] at q
     rw[q] at e2; cases e2
     exact ⟨B',.refl bh bt,m,by unfold Rep; rfl⟩
   ·show z.cps.size<=i
    rw[hi,List.length_map,Array.length_toList]
    exact Nat.le_refl _
  ·exact w1.elim
 | _=>exact w1.elim
theorem qiR {lo:Int} {n:Nat} {B1:Hp}:qtV M (Itr lo n) B1 ((List.range n).map λk=>.int (lo+(k:Nat))):=λH' B' le bh bt m i=>by
 refine ⟨λt et=> ?_,λhi=> ?_⟩
 ·rw[List.getElem?_map] at et
  cases q:(List.range n)[i]? with
  | none=>rw[q] at et; cases et
  | some c=>
   rw[q] at et
   cases et
   have hi:=(List.getElem?_eq_some_iff.mp q).1
   rw[List.length_range] at hi
   rw[List.getElem?_range hi] at q; cases q
   refine ⟨hi,λy H'' ⟨e1,e2⟩=> ?_⟩
   subst e1 e2
   exact ⟨B',.refl bh bt,m,by unfold Rep; rfl⟩
 ·show n<=i
  rw[hi,List.length_map,List.length_range]
  exact Nat.le_refl _
theorem qlr {p pos:Pos} (hg:Gl X "range") (hm:X.mg "range" =none) (ha:DA M X [a] ds) (hs:starEach [a] X.env=[(false,eval a X.env)]:=by rfl):DI M X tg (.Call (.Name "range" p) [a] [] pos) (qgF ds):=by
 refine PI.weak (qkr hg hm ha hs) λσ H R hq141=> ?_
 obtain ⟨H0,B0,ρ,B,ev,w⟩:=hq141
 refine tPA.of ev (Wnt.mono (Wnt.bind w) λts w1 vs H1 B1 g1 m1 r1=> ?_)
 unfold qkj at w1
 split at w1
 ·rename_i n
  obtain ⟨v,r,rfl,a1,b1⟩:=r1.inv
  have e1:v= .int n:=by unfold Rep at a1; exact a1
  have e2:=b1.inv0
  subst e1 e2
  split at w1
  ·rename_i hb
   refine ⟨n,rfl,by lia,by lia,w1 _ H1 B1 g1 m1 ?_ ?_⟩
   ·rw[List.length_map,List.length_range]
    have:=qqB
    lia
   ·have:=qiR (M:=M) (lo:=0) (n:=n.toNat) (B1:=B1)
    simpa using this
  ·exact w1.elim
 ·exact w1.elim
theorem qnR {elts:List Expr} {kk:Nat} {tpos p pos:Pos} (hg:Gl X "zip") (hm:X.mg "zip" =none) (ha:DA M X [a,b] ds) (hK:X.K=M.K:=by rfl) (hs:starEach [a,b] X.env=(false,eval a X.env)::starEach [b] X.env:=by rfl) (hpl:(backTo pos (starEach [b] X.env)).any (·.1)=false:=by rfl):
  DI M X (.Tuple elts kk tpos) (.Call (.Name "zip" p) [a,b] [] pos) (dIZ ds):=by
 refine PI.weak (qou hg hm ha hs hpl) λσ H R hq184=> ?_
 obtain ⟨H0,B0,ρ,B,ev,w⟩:=hq184
 refine tPA.of ev (Wnt.mono (Wnt.bind w) λts w1 vs H1 B1 g1 m1 r1=> ?_)
 unfold ql0 at w1
 split at w1
 ·rename_i xs ys
  obtain ⟨v,r,rfl,a1,b1⟩:=r1.inv
  obtain ⟨v',r',rfl,a2,b2⟩:=b1.inv
  have e2:=b2.inv0
  subst e2
  unfold Rep at a1 a2
  obtain ⟨p1,us,rfl,h1,ra⟩:=a1
  obtain ⟨p2,ws,rfl,h2,rb⟩:=a2
  have l1:=ra.length
  have l2:=rb.length
  refine ⟨p1,p2,us,ws,rfl,SqL.of (g1.bh _ _ h1),SqL.of (g1.bh _ _ h2),λz1 z2=> ?_⟩
  rw[hK]
  refine w1 _ H1 B1 g1 m1 ?_ λH' B' le bh bt m i=>⟨λt et=> ?_,λhi=> ?_⟩
  ·unfold qnv
   rw[List.length_map,List.length_zip]
   lia
  ·have q1:SqL M.K H' p1 us:=SqL.of (bh _ _ (le _ _ h1))
   have q2:SqL M.K H' p2 ws:=SqL.of (bh _ _ (le _ _ h2))
   unfold qnv at et
   rw[List.getElem?_map] at et
   cases q:(xs.zip ys)[i]? with
   | none=>rw[q] at et; cases et
   | some c=>
    rw[q] at et
    cases et
    have hi:=(List.getElem?_eq_some_iff.mp q).1
    rw[List.length_zip] at hi
    obtain ⟨c1,c2⟩:=c
    obtain ⟨qa,qb⟩:=List.getElem?_zip_eq_some.mp q
    obtain ⟨u,eu,ru⟩:=ra.get qa
    obtain ⟨w',ew,rw'⟩:=rb.get qb
    refine ⟨⟨us,ws,q1,q2,by lia,by lia⟩,λy H'' ⟨T',x,y',e1,e2,e3,e4,e5⟩=> ?_⟩
    have z1:=e4 us q1
    have z2:=e5 ws q2
    rw[eu] at z1; cases z1
    rw[ew] at z2; cases z2
    subst e1 e3
    refine ⟨_,qa5.new bh bt e2 (by intro ps z; cases z),M.G.st H' _ (λa o e _ _ _ _=>by rw[qad (qap e e2)]; exact e) m,?_⟩
    have bp:B' T'=none:=by
     cases q:B' T' with
     | none=>rfl
     | some u=>rw[bh _ _ q] at e2; cases e2
    have le2:Le B1 (upd B' T' (.tup [u,w'])):=λa o z=>by rw[qad (qap (le _ _ z) bp)]; exact le _ _ z
    unfold Rep
    exact ⟨T',[u,w'],rfl,qak,.cons (ru.mono le2) (.cons (rw'.mono le2) .nil)⟩
  ·refine ⟨us,ws,SqL.of (bh _ _ (le _ _ h1)),SqL.of (bh _ _ (le _ _ h2)),?_⟩
   rw[hi]
   unfold qnv
   rw[List.length_map,List.length_zip,l1,l2]
 ·exact w1.elim
end
end PL
end
section
namespace PL
open PySem L2
def qjO (o:Out) (k:Ro->Rs Out):Rs Out:=match o with
 | .nx ρ=>k ρ
 | .ct ρ=>k ρ
 | .bk ρ=>.ok (.nx ρ)
 | .rt t=>.ok (.rt t)
 | .rs s ρ=>.ok (.rs s ρ)
def qg0 (dg:T->Ro->Rs Ro) (db:Ro->Rs Out):List T->Ro->Rs Out
 | [],ρ=>.ok (.nx ρ)
 | t::ts,ρ=>dg t ρ>>=λρ1=>db ρ1>>=λo=>qjO o (qg0 dg db ts)
def qfb (di:Ro->Rs (List T)) (dg:T->Ro->Rs Ro) (db:Ro->Rs Out):Ro->Rs Out:=λρ=>di ρ>>=λts=>qg0 dg db ts ρ
section
variable {M:Md} {X:Cx} {tg e elt iter:Expr} {ifs:List Expr} {body:List Stmt} {pos:Pos} {di:Ro->Rs (List T)} {dg:T->Ro->Rs Ro} {db:Ro->Rs Out}
theorem qd6 (hp:PassesOwn (model X.prog X.w) X.A X.env X.xe) (hc:X.calm=true) (hi:DI M X tg iter di) (hg:DG M X tg dg) (hb:DSs M X body db)
  (hs: ∀x,foldedSetIterable iter X.env x=pure x:=by intro _; rfl):DS M X (.For tg iter body [] pos) (qfb di dg db):=by
 refine PS.weak (qqe hp hc hi hg hb hs) λD σ H hq21=> ?_
 obtain ⟨H0,B0,ρ,B,ev,w⟩:=hq21
 refine ⟨H0,B0,ρ,B,ev,Wnt.mono (Wnt.bind w) λts w1 J H1 B1 g1 m1 hz wk=> ?_⟩
 refine ⟨λi m σ H=>i<=ts.length/\m=ts.length - i/\∃ρ' B',Ev M H0 B0 ρ' σ H B'/\Le B1 B'/\Wnt M H0 (qn7 M H0 B0 B D) (qg0 dg db (ts.drop i) ρ'),⟨ts.length,Nat.zero_le _,by simp,ρ,B1,ev.grow g1 m1,.refl _,by simpa using w1⟩,?_⟩
 rintro i m σ' H' ⟨hi',rfl,ρ',B',ev',le,w2⟩
 by_cases hlt:i<ts.length
 ·obtain ⟨go,yl⟩:=(wk H' B' le ev'.bh ev'.bt ev'.gm i).1 ts[i] (List.getElem?_eq_getElem hlt)
  refine .inr ⟨go,λσ'' H''=> ∃ρ2 B2,Ev M H0 B0 ρ2 σ'' H'' B2/\Le B1 B2/\Wnt M H0 (qn7 M H0 B0 B D) (qg0 dg db (ts.drop (i+1)) ρ2),λσ'' H'' ⟨ρ2,B2,q1,q2,q3⟩=>⟨ts.length - (i+1),by lia,by lia,rfl,ρ2,B2,q1,q2,q3⟩,λx H3 y=> ?_⟩
  obtain ⟨B3,g3,m3,r3⟩:=yl x H3 y
  rw[List.drop_eq_getElem_cons hlt] at w2
  have ev3:=ev'.grow g3 m3
  have le3:Le B1 B3:=le.trans g3.bb
  refine ⟨H0,B0,ρ',B3,ts[i],ev3,r3,Wnt.mono (Wnt.bind w2) λρ1 w3 σ1 ev1=> ?_⟩
  have leB:Le B B3:=g1.bb.trans le3
  refine ⟨H0,B0,ρ1,B3,ev1,Wnt.mono (Wnt.bind w3) λo w4=> ?_⟩
  cases o with
  | nx ρ2=>exact λσ4 H4 B4 ev4 le4=>⟨ρ2,B4,ev4,le3.trans le4,w4⟩
  | ct ρ2=>exact λσ4 H4 B4 ev4 le4=>⟨ρ2,B4,ev4,le3.trans le4,w4⟩
  | bk ρ2=>exact λσ4 H4 B4 ev4 le4=>w4 σ4 H4 B4 ev4 (leB.trans le4)
  | rt t=>exact w4
  | rs t ρ2=>exact λv σ4 H4 B4 ev4 le4=>w4 v σ4 H4 B4 ev4 (leB.trans le4)
 ·have e1:i=ts.length:=by lia
  subst e1
  refine .inl ⟨(wk H' B' le ev'.bh ev'.bt ev'.gm ts.length).2 rfl,?_⟩
  rw[List.drop_length] at w2
  exact w2 σ' H' B' ev' (g1.bb.trans le)
end
def Md.nox (M:Md):Md:={ M with E:=λ_ _ _=>False }
theorem Ev.nox {M:Md} {H0 B0 H B:Hp} {ρ:Ro} {σ:St} (ev:Ev M H0 B0 ρ σ H B):Ev M.nox H0 B0 ρ σ H B:=⟨ev.gr,ev.gm,ev.len,ev.sl,ev.ap⟩
def noX {α:Type}:Rs α->Rs α
 | .ex _=>.no
 | r=>r
def qju:Option Sl->Sl
 | some (.fz t)=>.fz t
 | _=>.no
def qet (n:Nat) (fr:List Nat) (ρ:Ro):Ro:=List.replicate n .no++fr.map λi=>qju ρ[i]?
def qjE (ρ:Ro):Prop:= ∀(i:Nat) (s:Sl),ρ[i]? =some s->s.own=false
def qjs (dg:T->Ro->Rs Ro) (dt:Ro->Rs Bool) (de:Ro->Rs T):List T->Ro->Rs (List T)
 | [],_=>.ok []
 | t::ts,ρ=>dg t ρ>>=λρ1=>dt ρ1>>=λc=>if c=true then de ρ1>>=λy=>qjs dg dt de ts ρ1>>=λys=>.ok (y::ys) else qjs dg dt de ts ρ1
def qat (n:Nat) (fr:List Nat) (di:Ro->Rs (List T)) (dg:T->Ro->Rs Ro) (dt:Ro->Rs Bool) (de:Ro->Rs T):Ro->Rs (List T):=λρ=>di ρ>>=λts=>noX (qjs dg dt de ts (qet n fr ρ))
def qbS:Ro->Rs Bool:=λ_=>.ok true
theorem qce {α β:Type} {r:Rs α} {f:α->Rs β} {b:β} (h:(r>>=f)= .ok b): ∃a,r= .ok a/\f a= .ok b:=by
 cases r with
 | no=>cases h
 | ok a=>exact ⟨a,rfl,h⟩
 | ex c=>cases h
theorem qga {n:Nat} {fr:List Nat} {ρ:Ro}:qjE (qet n fr ρ):=λi s e=>by
 unfold qet at e
 have h:=List.mem_of_getElem? e
 rcases List.mem_append.mp h with h | h
 ·rw[(List.mem_replicate.mp h).2]; rfl
 ·obtain ⟨j,_,rfl⟩:=List.mem_map.mp h
  unfold qju
  split<;>rfl
theorem qoZ {M:Md} {H0 B0 H B:Hp} {ρ:Ro} {σ:St} {own:List Str} {fr:List (Str×Nat)} (ev:Ev M H0 B0 ρ σ H B):Ev M H0 B0 (qet own.length (fr.map (·.2)) ρ) (qer own fr σ) H B:=by
 refine ⟨ev.gr,ev.gm,by simp[qet,qer],λi s e=> ?_,λi j si sj p hij ei ej oi oj a z=>by rw[qga i si ei] at oi; cases oi⟩
 unfold qet at e
 by_cases hi:i<own.length
 ·rw[List.getElem?_append_left (by simpa using hi),List.getElem?_replicate,if_pos hi] at e
  cases e; trivial
 ·rw[List.getElem?_append_right (by simpa using hi),List.length_replicate,List.map_map,List.getElem?_map] at e
  cases q:fr[i - own.length]? with
  | none=>rw[q] at e; cases e
  | some p=>
   rw[q] at e
   have e':qju ρ[p.2]? =s:=Option.some.inj e
   subst e'
   have eσ:(qer own fr σ)[i]?.join=σ[p.2]?.join:=by
    unfold qer
    rw[List.getElem?_append_right (by simpa using hi),List.length_map,List.getElem?_map,q]
    rfl
   rw[eσ]
   cases q2:ρ[p.2]? with
   | none=>trivial
   | some s'=>
    cases s' with
    | fz t=>exact ev.sl p.2 _ q2
    | _=>trivial
theorem Ev.updD {M:Md} {H0 B0 H B:Hp} {ρ:Ro} {σ:St} {D:Addr} {ys zs:List V} (ev:Ev M H0 B0 ρ σ H B) (hD:H D=some (.lst ys)) (h0:H0 D=none) (hb:B D=none) (ap: ∀(i:Nat) (s:Sl),ρ[i]? =some s->s.own=true->σ[i]?.join≠some (.ref D)):Ev M H0 B0 ρ σ (upd H D (.lst zs)) B:=by
 have neB: ∀a o,B a=some o->a≠D:=λa o z w=>by rw[w,hb] at z; cases z
 refine ⟨⟨⟨λa o z n=> ?_,λa z w=> ?_⟩,ev.gr.bb,λa o z=> ?_,ev.gr.bt,ev.gr.nw⟩,M.G.st H _ (λa o z n1 n2 n3 n4=> ?_) ev.gm,ev.len,λj s ej=> ?_,ev.ap⟩
 ·rw[qad (qap z h0)]; exact ev.gr.gx.hh a o z n
 ·by_cases q:a=D
  ·subst q; exact z h0
  ·rw[qad q] at w; exact ev.gr.gx.dm a z w
 ·rw[qad (neB a o z)]; exact ev.gr.bh a o z
 ·rw[qad (qoK z hD (n1 _))]; exact z
 ·have o:=ev.sl j s ej
  have np:=ap j s ej
  cases s with
  | no=>trivial
  | fz t=>exact o
  | ow ts'=>
   obtain ⟨p',vs',a1,a2,a3,a4,a5⟩:=o
   exact ⟨p',vs',a1,a2,a3,by rw[qad (λz=>np rfl (by rw[a1,z]))]; exact a4,a5⟩
  | od ts'=>
   obtain ⟨p',vs',a1,a2,a3,a4,a5⟩:=o
   exact ⟨p',vs',a1,a2,a3,by rw[qad (λz=>np rfl (by rw[a1,z]))]; exact a4,a5⟩
  | ou ts'=>
   obtain ⟨p',vs',a1,a2,a3,a4,a5⟩:=o
   exact ⟨p',vs',a1,a2,a3,by rw[qad (λz=>np rfl (by rw[a1,z]))]; exact a4,a5⟩
  | pd ts'=>
   obtain ⟨p',vs',a0,a1,a2,a3,a4,a5⟩:=o
   exact ⟨p',vs',a0,a1,a2,a3,by rw[qad (λz=>np rfl (by rw[a1,z]))]; exact a4,a5⟩
  | pu ts'=>
   obtain ⟨p',vs',a0,a1,a2,a3,a4,a5⟩:=o
   exact ⟨p',vs',a0,a1,a2,a3,by rw[qad (λz=>np rfl (by rw[a1,z]))]; exact a4,a5⟩
theorem qkB {α:Type} {M:Md} {H0:Hp} {r:Rs α} {k:α->Prop} (h:Wnt M H0 k (noX r)): ∃a,r= .ok a/\k a:=by
 cases r with
 | no=>exact h.elim
 | ok a=>exact ⟨a,rfl,h⟩
 | ex c=>exact h.elim
section
variable {M:Md} {X:Cx} {tg elt iter:Expr} {ifs:List Expr} {scope:Scope} {pos:Pos} {own:List Str} {fr:List (Str×Nat)} {di:Ro->Rs (List T)} {dg:T->Ro->Rs Ro} {dt:Ro->Rs Bool} {de:Ro->Rs T}
def GNo (dg:T->Ro->Rs Ro):Prop:= ∀t ρ ρ',qjE ρ->dg t ρ= .ok ρ'->qjE ρ'
def qrt (dg:List T->Ro->Rs Ro):Prop:= ∀t ρ ρ',qjE ρ->dg t ρ= .ok ρ'->qjE ρ'
theorem qbT {i:Nat}:GNo (gN i):=λt ρ ρ' h e j s ej=>by
 cases e
 rw[List.getElem?_set] at ej
 split at ej
 ·split at ej
  ·cases ej; rfl
  ·cases ej
 ·exact h j s ej
theorem qk9:qrt gsN:=λt ρ ρ' h e=>by
 cases t with
 | nil=>cases e; exact h
 | cons _ _=>cases e
theorem qeE {dg:T->Ro->Rs Ro} {dr:List T->Ro->Rs Ro} (h1:GNo dg) (h2:qrt dr):qrt (gsC dg dr):=λt ρ ρ' h e=>by
 cases t with
 | nil=>cases e
 | cons t ts=>
  obtain ⟨ρ1,e1,e2⟩:=qce e
  exact h2 ts ρ1 ρ' (h1 t ρ ρ1 h e1) e2
theorem qoU {n:Nat} {dr:List T->Ro->Rs Ro} (h2:qrt dr):GNo (gT n dr):=λt ρ ρ' h e=>by
 cases t with
 | tup ts=>
  unfold gT at e
  dsimp only at e
  split at e
  ·exact h2 ts ρ ρ' h e
  ·cases e
 | _=>cases e
theorem qgI (gn:GNo dg) {σ:St} {H:Hp} {H0 B0 B:Hp} {ρ:Ro} {Q:Addr->Hp->Prop} (ev:Ev M H0 B0 ρ σ H B)
  (w:Wnt M H0 (λa=> ∀p vs H' B',qa5 H B H' B'->M.G.P H'->H p=none->B' p=none->H' p=some (.lst vs)->qaK M.K B' a vs->Q p H') (qat own.length (fr.map (·.2)) di dg dt de ρ)):
  qhM (tI M di) (tG M.nox dg) (tPT M.nox dt) (tP M.nox de) own fr σ H Q:=by
 refine ⟨H0,B0,ρ,B,ev,Wnt.mono (Wnt.bind w) λts w1 J H1 B1 g1 m1 hz wk D hD=> ?_⟩
 obtain ⟨res,eR,kR⟩:=qkB w1
 have ev1:=ev.grow g1 m1
 have h0D:H0 D=none:=qb2 ev1.gr.gx hD
 have bD:B1 D=none:=by
  cases q:B1 D with
  | none=>rfl
  | some u=>rw[ev1.bh _ _ q] at hD; cases hD
 obtain ⟨gD,mD⟩:=ev1.nown (o:=HO.lst []) hD
 have evD:Ev M.nox H0 B0 (qet own.length (fr.map (·.2)) ρ) (qer own fr σ) (upd H1 D (.lst [])) B1:=(qoZ (ev1.grow gD mD)).nox
 refine qnp (n:=ts.length) (λi ys σ' H'=> ∃ρ' B' dn rs,(Ev M.nox H0 B0 ρ' σ' H' B'/\qjE ρ')/\qa5 H1 B1 H' B'/\H' D=some (.lst ys)/\B' D=none/\ys.length<=i/\qaK M.K B' dn ys/\dn++rs=res/\qjs dg dt de (ts.drop i) ρ'= .ok rs) ?_ hz ?_ ?_ ?_ ?_ ?_
 ·exact ⟨_,B1,[],res,⟨evD,qga⟩,gD,qak,bD,Nat.le_refl _,.nil,rfl,by simpa using eR⟩
 ·rintro i ys σ' H' ⟨ρ',B',dn,rs,_,_,h,_⟩; exact h
 ·rintro i ys σ' H' ⟨ρ',B',dn,rs,_,_,_,_,h,_⟩; exact h
 ·rintro i ys σ' H' hi ⟨ρ',B',dn,rs,⟨e1,_⟩,e2,_⟩
  exact ((wk H' B' e2.bb e2.bh e2.bt e1.gm i).1 ts[i] (List.getElem?_eq_getElem hi)).1
 ·rintro ys σ' H' ⟨ρ',B',dn,rs,⟨e1,_⟩,e2,e3,e4,e5,e6,e7,e8⟩
  refine ⟨(wk H' B' e2.bb e2.bh e2.bt e1.gm ts.length).2 rfl,?_⟩
  rw[List.drop_length] at e8
  cases e8
  rw[List.append_nil] at e7
  subst e7
  exact kR D ys H' B' (g1.trans e2) e1.gm (qb2 g1.gx hD) e4 e3 e6
 ·rintro i ys σ' H' x H3 hi ⟨ρ',B',dn,rs,⟨e1,no1⟩,e2,e3,e4,e5,e6,e7,e8⟩ hy
  obtain ⟨B3,g3,m3,r3⟩:=((wk H' B' e2.bb e2.bh e2.bt e1.gm i).1 ts[i] (List.getElem?_eq_getElem hi)).2 x H3 hy
  rw[List.drop_eq_getElem_cons hi] at e8
  obtain ⟨ρ1,d1,e8⟩:=qce e8
  obtain ⟨c,d2,e8⟩:=qce e8
  have ev3:=e1.grow g3 m3
  have no2:=gn _ _ _ no1 d1
  have wo: ∀{α:Type} {r:Rs α} {a:α} {k:α->Prop},r= .ok a->k a->Wnt M.nox H0 k r:=λe k=>by rw[e]; exact k
  refine ⟨H0,B0,ρ',B3,ts[i],ev3,r3,wo d1 λσ2 ev2=> ?_⟩
  refine tPT.of ev2 (wo d2 λH5 B5 g5 m5=> ?_)
  have ev5:=ev2.grow g5 m5
  have gg:qa5 H1 B1 H5 B5:=(e2.trans g3).trans g5
  have hD5:H5 D=some (.lst ys):=g5.gx.hh _ _ (g3.gx.hh _ _ e3 (by intro ps z; cases z)) (by intro ps z; cases z)
  have bD5:B5 D=none:=by
   rw[g5.nw D _ (g3.gx.hh _ _ e3 (by intro ps z; cases z)) (by simp) (by simp),g3.nw D _ e3 (by simp) (by simp)]; exact e4
  cases c with
  | false=>
   rw[if_neg (by intro z; cases z)] at e8
   refine qpv ?_
   exact ⟨ρ1,B5,dn,rs,⟨ev5,no2⟩,gg,hD5,bD5,Nat.le_succ_of_le e5,(e6.mono g3.bb).mono g5.bb,e7,e8⟩
  | true=>
   rw[if_pos rfl] at e8
   obtain ⟨y,d3,e8⟩:=qce e8
   obtain ⟨ys',d4,e8⟩:=qce e8
   cases e8
   refine qpu ?_
   refine tP.of ev5 (wo d3 λv H6 B6 g6 m6 r6=> ?_)
   have ev6:=ev5.grow g6 m6
   have hD6:H6 D=some (.lst ys):=g6.gx.hh _ _ hD5 (by intro ps z; cases z)
   have bD6:B6 D=none:=by rw[g6.nw D _ hD5 (by simp) (by simp)]; exact bD5
   have g16:qa5 H1 B1 H6 B6:=gg.trans g6
   refine ⟨hD6,ρ1,B6,dn++[y],ys',⟨ev6.updD hD6 h0D bD6 (λj s ej oj z=>by rw[no2 j s ej] at oj; cases oj),no2⟩,?_,qak,bD6,by rw[List.length_append,List.length_singleton]; lia,(((e6.mono g3.bb).mono g5.bb).mono g6.bb).snoc r6,by rw[List.append_assoc]; exact e7,d4⟩
   ·refine ⟨⟨λa o z n=> ?_,λa z w=> ?_⟩,g16.bb,λa o z=> ?_,g16.bt,g16.nw⟩
    ·rw[qad (qap z hD)]; exact g16.gx.hh a o z n
    ·by_cases q:a=D
     ·subst q; exact z hD
     ·rw[qad q] at w; exact g16.gx.dm a z w
    ·rw[qad (λq=>by rw[q,bD6] at z; cases z)]; exact g16.bh a o z
theorem qa6 (hc:X.calm=true) (hi:DI M X tg iter di) (gn:GNo dg) (hk:scope.kind= .function) (hcell: ∀y∈scope.names,y.2≠.cell) (hnames: ∀y∈scope.names,y.2= .local->scope.names.lookup y.1=some .local)
  (hfree: ∀y∈scope.names,y.2= .free->X.env.kindOf y.1=some .cell\/X.env.kindOf y.1=some .free) (hfr: ∀p∈fr,X.N[p.2]? =some p.1/\scope.names.lookup p.1=some .free)
  (hb: ∀(fp:List Addr) (s3:Shared) (H3:Hp),DG M.nox (qbc X scope own fr fp s3 H3) tg dg/\qnu (qbc X scope own fr fp s3 H3) ifs (tPT M.nox dt)/\DE M.nox (qbc X scope own fr fp s3 H3) elt de)
  (hs: ∀x,foldedSetIterable iter X.env x=pure x:=by intro _; rfl):
  DF M X (.ListComp elt [⟨tg,iter,ifs,0⟩] scope pos) (qat own.length (fr.map (·.2)) di dg dt de):=
 PE.weak (qox hc hi hk hcell hnames hfree hfr hb hs) λσ H Q ⟨H0,B0,ρ,B,ev,w⟩=>qgI gn ev (Wnt.mono (qcc.mp w) λa q p vs H' B' g m h1 h2 h3 r=>q p vs H' B' g m h1 h2 h3 r)
theorem qa2 {Y:Cx}:qnu Y [] (tPT M qbS):=λpins s σ H Q I ⟨H0,B0,ρ,B,ev,w⟩=>qmr pins s σ H Q I (w H B (.refl ev.bh ev.bt) ev.gm)
theorem qfj {Y:Cx} {c:Expr} (h:DT M Y c dt):qnu Y [c] (tPT M dt):=qmq h
theorem qda {i:Nat} {y:Str} {py spos:Pos} (hc:X.calm=true) (hi:DI M X tg iter di) (gn:GNo dg) (hk:scope.kind= .function) (hcell: ∀y∈scope.names,y.2≠.cell) (hnames: ∀y∈scope.names,y.2= .local->scope.names.lookup y.1=some .local)
  (hfree: ∀y∈scope.names,y.2= .free->X.env.kindOf y.1=some .cell\/X.env.kindOf y.1=some .free) (hfr: ∀p∈fr,X.N[p.2]? =some p.1/\scope.names.lookup p.1=some .free)
  (hb: ∀(fp:List Addr) (s3:Shared) (H3:Hp),DG M.nox (qbc X scope own fr fp s3 H3) tg dg/\qnu (qbc X scope own fr fp s3 H3) ifs (tPT M.nox dt)/\DE M.nox (qbc X scope own fr fp s3 H3) elt de)
  (hN:X.N.Nodup) (hiN:X.N[i]? =some y) (hy:X.env.scope.names.lookup y=some .local)
  (hsw:swapsWith (.ListComp elt [⟨tg,iter,ifs,0⟩] scope pos) (some (.Name y py)) spos.line X.env=pure true:=by rfl) (hs: ∀x,foldedSetIterable iter X.env x=pure x:=by intro _; rfl):
  DS M X (.Assign [.Name y py] (.ListComp elt [⟨tg,iter,ifs,0⟩] scope pos) spos) (qby i (dFz (qat own.length (fr.map (·.2)) di dg dt de))):=
 PS.weak (L2.ps_setcomp hc hi hk hcell hnames hfree hfr hb hN hiN hy hsw hs) λD σ H ⟨H0,B0,ρ,B,ev,w⟩=>qgI gn ev (Wnt.mono (Wnt.bind (Wnt.bind w)) λa q p vs H' B' g m h1 h2 h3 r=>by
  obtain ⟨g2,le⟩:=g.freeze h1 h2 h3
  refine q _ H' _ ((ev.grow g2 m).set ?_) g2.bb
  unfold Rep
  exact ⟨p,vs,rfl,qak,r.mono le⟩)
end
end PL
end
section
namespace PL
open PySem L2
def spP (K:PySem.W.Frag) (G:Gam) (C:Str->Addr) (f:List T->Rs T):Sp:=λvs H Q E=> ∃B ts,Le B H/\(∀a ps,B a≠some (.tbl ps))/\G.P H/\qaK K B ts vs/\qty ⟨K,G,E,C,0⟩ H H B Q (f ts)
def outT:Out->Rs T
 | .rt t=>.ok t
 | .nx _=>.ok .non
 | _=>.no
def fnT (n N:Nat) (d:Ro->Rs Out):List T->Rs T:=λts=>if ts.length=n then d (ts.map .fz++List.replicate (N - n) .no)>>=outT else .no
section
variable {K:PySem.W.Frag} {G:Gam} {C:Str->Addr} {E:XK}
theorem qiu {H B:Hp} {ts:List T} {vs:List V} {N:List Str} (le:Le B H) (bt: ∀a ps,B a≠some (.tbl ps)) (m:G.P H) (r:qaK K B ts vs) (hN:ts.length<=N.length):
  Ev ⟨K,G,E,C,0⟩ H B (ts.map .fz++List.replicate (N.length - ts.length) .no) (start N vs) H B:=by
 have hl:=r.length
 refine ⟨.refl le bt,m,by simp[L2.start,hl],λi s e=> ?_,λi j si sj p hij ei ej oi=> ?_⟩
 ·by_cases hi:i<ts.length
  ·rw[List.getElem?_append_left (by simpa using hi),List.getElem?_map] at e
   cases q:ts[i]? with
   | none=>rw[q] at e; cases e
   | some t=>
    rw[q] at e; cases e
    obtain ⟨v,ev,rv⟩:=r.get q
    refine ⟨v,?_,rv⟩
    unfold L2.start
    rw[List.getElem?_append_left (by simp; lia),List.getElem?_map,ev]
    rfl
  ·rw[List.getElem?_append_right (by simpa using hi),List.getElem?_replicate] at e
   split at e
   ·cases e; trivial
   ·cases e
 ·have h:=List.mem_of_getElem? ei
  rcases List.mem_append.mp h with h | h
  ·obtain ⟨t,_,rfl⟩:=List.mem_map.mp h
   cases oi
  ·rw[(List.mem_replicate.mp h).2] at oi; cases oi
theorem qis {d:Ro->Rs Out} {n:Nat} {N:List Str} {vs:List V} {H:Hp} {Q:VK} (hn:n<=N.length) (h:spP K G C (fnT n N.length d) vs H Q E):tS ⟨K,G,E,C,0⟩ d { nx:=λ_ H'=>Q .non H',rt:=Q } (start N vs) H:=by
 obtain ⟨B,ts,le,bt,m,r,w⟩:=h
 unfold fnT at w
 split at w
 ·rename_i hl
  refine ⟨H,B,_,B,qiu le bt m r (by lia),?_⟩
  rw[hl]
  refine Wnt.mono (Wnt.bind (qay.mp w)) λo w1=> ?_
  cases o with
  | rt t=>exact w1
  | nx ρ=>exact λσ' H' B' ev _=>w1 .non H' B' ev.gr ev.gm (by unfold Rep; rfl)
  | bk ρ=>exact w1.elim
  | ct ρ=>exact w1.elim
  | rs t ρ=>exact w1.elim
 ·exact w.elim
theorem qjZ {d:Ro->Rs Out} {n N:Nat} {vs:List V} {H:Hp} {Q:VK} (h:spP K G C (fnT n N d) vs H Q E):vs.length=n:=by
 obtain ⟨B,ts,le,bt,m,r,w⟩:=h
 unfold fnT at w
 split at w
 ·rename_i hl
  rw[r.length]; exact hl
 ·exact w.elim
end
section
variable {P:Program} {w:World} {K:PySem.W.Frag} {mg:Str->Option Value} {base:Heap} {G:Gam} {C:Str->Addr}
theorem qbN {x qual:Str} {st:Stmt} {f:Addr} {fd:FuncData} {N ps:List Str} {k:Nat} {d:Ro->Rs Out} (F:Fun K x qual st f fd) (S:qau N ps (qae st))
  (hbody: ∀(cdv:Value) (A:Around) (outer:List Env) (s:Shared) (H:Hp) (E:XK),qcu k (A.deeper (PyProof.Rows.envOfC qual (qae st) s.heap.objs.size f cdv))->
   DSs ⟨K,G,E,C,0⟩ (qnl CX0 P w K mg base N qual (qae st) f cdv A outer s H E).nox (qaZ st) d):qbo P w K mg base CX0 (k+1) f fd ps (spP K G C (fnT ps.length N.length d)):=by
 have hpl:ps.length<=N.length:=by have:=congrArg List.length S.pre; rw[List.length_take] at this; lia
 exact F.ok S (λvs H Q E h=>qjZ h) λcdv A outer s H vs Q E hr h=>⟨_,hbody cdv A outer s H E hr,qis hpl h⟩
end
def qah (f:List T->Rs T) (ds:Ro->Rs (List T)):Ro->Rs T:=λρ=>ds ρ>>=f
section
variable {M:Md} {X:Cx} {CX:CXT} {k:Nat} {f:Addr} {fd:FuncData} {ps:List Str} {fT:List T->Rs T} {x:Str} {p pos:Pos} {e:Expr} {es:List Expr} {ds:Ro->Rs (List T)}
theorem qlI {σ:St} {H:Hp} {Q:VK} (h:tP M (qah fT ds) σ H Q):qiV (spP M.K M.G M.C fT) [] M.E (tPA M ds) σ H Q:=by
 obtain ⟨H0,B0,ρ,B,ev,w⟩:=h
 refine tPA.of ev (Wnt.mono (Wnt.bind (qay.mp w)) λts w1 vs H1 B1 g1 m1 r1=> ?_)
 have ev1:=ev.grow g1 m1
 refine ⟨B1,ts,ev1.bh,ev1.bt,m1,by rw[List.append_nil]; exact r1,?_⟩
 cases q:fT ts with
 | no=>rw[q] at w1; exact w1
 | ok r=>rw[q] at w1; exact λv H' B' g m rr=>w1 v H' B' (g1.trans g) m rr
 | ex c=>rw[q] at w1; exact λH' g m=>w1 H' (ev1.gr.gx.trans g) m
theorem qpd (F:qbo X.prog X.w X.K X.mg X.base CX k f fd ps (spP M.K M.G M.C fT)) (hr:qcu k X.A) (hg:Gl X x) (hm:X.mg x=some (.ref f)) (hk:PySem.W.keepIn X.K (.ref f)=true) (hb:qdZ X.K fd ps []) (hx:qgV CX X M.E)
  (ha:DA M X (e::es) ds) (hdb:(x==("__debug__" :Str))=false:=by decide) (he:starEach (e::es) X.env=(false,eval e X.env)::starEach es X.env:=by rfl) (hpl:(backTo pos (starEach es X.env)).any (·.1)=false:=by rfl):
  DE M X (.Call (.Name x p) (e::es) [] pos) (qah fT ds):=PE.weak (qey F hr hg hm hk hb .nil hx ha hdb he hpl) λσ H Q h=>qlI h
end
theorem qks {M:Md} {X:Cx}:qgV CX0 X M.E:=λ_ _ _ _ _ _ _ h=>h.elim
def dTB (da:Ro->Rs T):Ro->Rs Bool:=λρ=>da ρ>>=λt=>match t with | .bl b=>.ok b | _=>.no
def qfZ (d e:Ro->Rs Bool):Ro->Rs Bool:=λρ=>d ρ>>=λc=>if c=true then e ρ else .ok false
def dOr (d e:Ro->Rs Bool):Ro->Rs Bool:=λρ=>d ρ>>=λc=>if c=true then .ok true else e ρ
def qck (d:Ro->Rs Bool):Ro->Rs Bool:=λρ=>d ρ>>=λc=>.ok (!c)
def qcp (d e:Ro->Rs T):Ro->Rs T:=λρ=>dTB d ρ>>=λc=>if c=true then e ρ else .ok (.bl false)
def qiH (d e:Ro->Rs T):Ro->Rs T:=λρ=>dTB d ρ>>=λc=>if c=true then .ok (.bl true) else e ρ
def qcS (d:Ro->Rs T):Ro->Rs T:=λρ=>dTB d ρ>>=λc=>.ok (.bl (!c))
def qfa (dt:Ro->Rs Bool) (d e:Ro->Rs T):Ro->Rs T:=λρ=>dt ρ>>=λc=>if c=true then d ρ else e ρ
abbrev DW (M:Md) (X:Cx) (e:Expr) (d:Ro->Rs Bool):Prop:=PW X e (tPT M d)
theorem PW.weak {X:Cx} {e:Expr} {t t':TT} (h:PW X e t) (w: ∀σ H Q,t' σ H Q->t σ H Q):PW X e t':=λwh pins s σ H Q I q=>h wh pins s σ H Q I (w σ H Q q)
theorem qbm {K:PySem.W.Frag} {B:Hp} {b:Bool} {v:V} (r:Rep K B (.bl b) v):v= .bl b:=by unfold Rep at r; exact r
theorem qas {K:PySem.W.Frag} {B:Hp} {b:Int} {v:V} (r:Rep K B (.int b) v):v= .int b:=by unfold Rep at r; exact r
theorem qaM {K:PySem.W.Frag} {B:Hp} {b:Str} {v:V} (r:Rep K B (.str b) v):v= .str b:=by unfold Rep at r; exact r
theorem qbB {K:PySem.W.Frag} {B:Hp} {v:V} (r:Rep K B .non v):v= .non:=by unfold Rep at r; exact r
theorem qh0 {K:PySem.W.Frag} {B:Hp} {ts:List T} {v:V} (r:Rep K B (.tup ts) v): ∃p vs,v= .ref p/\B p=some (.tup vs)/\qaK K B ts vs:=by unfold Rep at r; exact r
theorem qbf {K:PySem.W.Frag} {B:Hp} {ts:List T} {v:V} (r:Rep K B (.tup ts) v): ∃p vs,v= .ref p/\SqT K B p vs/\qaK K B ts vs:=by obtain ⟨p,vs,a,b,c⟩:=qh0 r; exact ⟨p,vs,a,SqT.of b,c⟩
theorem qbC {K:PySem.W.Frag} {B:Hp} {ts:List T} {v:V} (r:Rep K B (.lst ts) v): ∃p vs,v= .ref p/\B p=some (.lst vs)/\qaK K B ts vs:=by unfold Rep at r; exact r
theorem qds {K:PySem.W.Frag} {B:Hp} {b:Bool}:Rep K B (.bl b) (.bl b):=by unfold Rep; rfl
theorem qbk {K:PySem.W.Frag} {B:Hp} {b:Int}:Rep K B (.int b) (.int b):=by unfold Rep; rfl
theorem qia {K:PySem.W.Frag} {B:Hp} {b:Str}:Rep K B (.str b) (.str b):=by unfold Rep; rfl
theorem qkz {K:PySem.W.Frag} {B:Hp} {ts:List T} {p:Addr} {vs:List V} (h:B p=some (.tup vs)) (r:qaK K B ts vs):Rep K B (.tup ts) (.ref p):=by unfold Rep; exact ⟨p,vs,rfl,h,r⟩
theorem qnJ {K:PySem.W.Frag} {B:Hp} {ts:List T} {p:Addr} {vs:List V} (h:B p=some (.lst vs)) (r:qaK K B ts vs):Rep K B (.lst ts) (.ref p):=by unfold Rep; exact ⟨p,vs,rfl,h,r⟩
section
variable {M:Md} {X:Cx} {e a b c:Expr} {qc3:List Expr} {pos:Pos} {da db dc:Ro->Rs T} {dt du:Ro->Rs Bool}
theorem qdP {σ:St} {H:Hp} {Q:Bool->Hp->Prop} (h:tPT M (dTB da) σ H Q):tP M da σ H λx H1=> ∃c,x= .bl c/\Q c H1:=by
 obtain ⟨H0,B0,ρ,B,ev,w⟩:=h
 refine tP.of ev (Wnt.mono (Wnt.bind (qdI.mp w)) λt w1 v H1 B1 g1 m1 r1=> ?_)
 cases t with
 | bl b=>exact ⟨b,qbm r1,w1 H1 B1 g1 m1⟩
 | _=>exact w1.elim
theorem qcC (h:DE M X e da) (he: ∀whole,isTrue e X.env whole=(do let v <-whole; standAt e.pos; holding [v] (truthy v)):=by intro _; rfl):DT M X e (dTB da):=PT.weak (qqb h he) λσ H Q h=>qdP h
theorem qbb {op:CmpOp} {r:R2} {g:T->T->Rs T} (ho:OpR X (compareOp op) r) (hr:RS M r g) (hp:Pl g) (ha:DE M X a da) (hb:DE M X b db) (hm:behindInMarks op b=false:=by first | exact qfJ _ (by decide) (by decide) | rfl):DT M X (.Compare a [op] [b] pos) (dTB (dB g da db)):=
 PT.weak (qev ho ha hb hm) λ_ _ _ h=>qfI hr hp (qdP h)
def qaI (g g':T->T->Rs T) (da db dc:Ro->Rs T):Ro->Rs T:=λρ=>da ρ>>=λx=>db ρ>>=λy=>g x y>>=λz=>match z with | .bl k=>if k=true then dc ρ>>=λu=>g' y u else .ok (.bl false) | _=>.no
theorem qft {r r':R2} {g g':T->T->Rs T} (hr:RS M r g) (hp:Pl g) (hr':RS M r' g') (hp':Pl g') {σ:St} {H:Hp} {Q:VK} (h:tP M (qaI g g' da db dc) σ H Q):qjQ r r' (tP M da) (tP M db) (tP M dc) σ H Q:=by
 obtain ⟨H0,B0,ρ,B,ev,w⟩:=h
 refine tP.of ev (Wnt.mono (Wnt.bind (qay.mp w)) λx w1 v H1 B1 g1 m1 r1=> ?_)
 refine tP.of (ev.grow g1 m1) (Wnt.mono (Wnt.bind w1) λy w2 u H2 B2 g2 m2 r2=> ?_)
 have ev2:=(ev.grow g1 m1).grow g2 m2
 cases q:g x y with
 | no=>rw[q] at w2; exact w2.elim
 | ex c=>exact absurd q (hp x y c)
 | ok z=>
  rw[q] at w2
  refine hr H2 B2 v u x y z _ ev2.bh ev2.bt m2 (r1.mono g2.bb) r2 q λv' H3 B3 g3 m3 r3=> ?_
  cases z with
  | bl k=>
   refine ⟨k,qbm r3,?_⟩
   have ev3:=ev2.grow g3 m3
   cases k with
   | false=>exact qpv (w2 (.bl false) H3 B3 ((g1.trans g2).trans g3) m3 qds)
   | true=>
    refine qpu (tP.of ev3 (Wnt.mono (Wnt.bind w2) λu' w3 v4 H4 B4 g4 m4 r4=> ?_))
    have ev4:=ev3.grow g4 m4
    cases q':g' y u' with
    | no=>rw[q'] at w3; exact w3.elim
    | ex c=>exact absurd q' (hp' y u' c)
    | ok z'=>
     rw[q'] at w3
     exact hr' H4 B4 u v4 y u' z' _ ev4.bh ev4.bt m4 ((r2.mono g3.bb).mono g4.bb) r4 q' λv5 H5 B5 g5 m5 r5=>w3 v5 H5 B5 ((((g1.trans g2).trans g3).trans g4).trans g5) m5 r5
  | _=>exact w2.elim
theorem qiC {op op':CmpOp} {r r':R2} {g g':T->T->Rs T} (ho:OpR X (compareOp op) r) (ho':OpR X (compareOp op') r') (hr:RS M r g) (hp:Pl g) (hr':RS M r' g') (hp':Pl g') (ha:DE M X a da) (hb:DE M X b db) (hc:DE M X c dc)
  (hm:lastMarks [op,op'] [b,c]=false:=by with_unfolding_all rfl):DE M X (.Compare a [op,op'] [b,c] pos) (qaI g g' da db dc):=PE.weak (qmz ho ho' ha hb hc hm) λ_ _ _ h=>qft hr hp hr' hp' h
theorem qej {op op':CmpOp} {r r':R2} {g g':T->T->Rs T} (ho:OpR X (compareOp op) r) (ho':OpR X (compareOp op') r') (hr:RS M r g) (hp:Pl g) (hr':RS M r' g') (hp':Pl g') (ha:DE M X a da) (hb:DE M X b db) (hc:DE M X c dc)
  (hm:lastMarks [op,op'] [b,c]=false:=by with_unfolding_all rfl):DT M X (.Compare a [op,op'] [b,c] pos) (dTB (qaI g g' da db dc)):=PT.weak (qmo ho ho' ha hb hc hm) λ_ _ _ h=>qft hr hp hr' hp' (qdP h)
theorem qch (h:DT M X a dt):DT M X (.UnaryOp .Not a pos) (qck dt):=PT.weak (qqc h) λσ H Q ⟨H0,B0,ρ,B,ev,w⟩=>tPT.of ev (Wnt.mono (Wnt.bind (qdI.mp w)) λc w1 H1 B1 g m=>w1 H1 B1 g m)
theorem qo0 (h:DT M X a dt):DW M X (.BoolOp .And [a] pos) dt:=qon h
theorem qdK (h:DT M X a dt):DW M X (.BoolOp .Or [a] pos) dt:=qp8 h
theorem qqW (h:DT M X a dt) (h':DW M X (.BoolOp .And (b::qc3) pos) du):DW M X (.BoolOp .And (a::b::qc3) pos) (qfZ dt du):=PW.weak (qp9 h h') λσ H Q ⟨H0,B0,ρ,B,ev,w⟩=>tPT.of ev (Wnt.mono (Wnt.bind (qdI.mp w)) λc w1 H1 B1 g m=>by
 cases c with
 | true=>exact qpu (tPT.of (ev.grow g m) (Wnt.mono w1 λc w2 H2 B2 g2 m2=>w2 H2 B2 (g.trans g2) m2))
 | false=>exact qpv (w1 H1 B1 g m))
theorem qeI (h:DT M X a dt) (h':DW M X (.BoolOp .Or (b::qc3) pos) du):DW M X (.BoolOp .Or (a::b::qc3) pos) (dOr dt du):=PW.weak (qst h h') λσ H Q ⟨H0,B0,ρ,B,ev,w⟩=>tPT.of ev (Wnt.mono (Wnt.bind (qdI.mp w)) λc w1 H1 B1 g m=>by
 cases c with
 | true=>exact qpu (w1 H1 B1 g m)
 | false=>exact qpv (tPT.of (ev.grow g m) (Wnt.mono w1 λc w2 H2 B2 g2 m2=>w2 H2 B2 (g.trans g2) m2)))
theorem qlX {e:Expr} (h:DW M X e dt):DT M X e dt:=PW.pt h
theorem qhJ {P':T->Prop} {H0:Hp} {ρ:Ro} {f:Bool->Rs T} (w:Wnt M H0 P' (dTB da ρ>>=f)):Wnt M H0 (λt=> ∃c,t= .bl c/\Wnt M H0 P' (f c)) (da ρ):=by
 refine Wnt.mono (Wnt.bind (Wnt.bind w)) λt w1=> ?_
 cases t with
 | bl b=>exact ⟨b,rfl,w1⟩
 | _=>exact w1.elim
theorem qnT {op} (h:DE M X a da):DE M X (.BoolOp op [a] pos) da:=qqo h
theorem qnX (h:DE M X a da) (h':DE M X (.BoolOp .And (b::qc3) pos) db):DE M X (.BoolOp .And (a::b::qc3) pos) (qcp da db):=PE.weak (qqq h h') λσ H Q ⟨H0,B0,ρ,B,ev,w⟩=>tP.of ev (Wnt.mono (qhJ (qay.mp w)) λt ⟨c,et,w1⟩ v H1 B1 g m r=>by
 subst et
 refine ⟨c,qbm r,?_⟩
 cases c with
 | true=>exact qpu (tP.of (ev.grow g m) (Wnt.mono w1 λc w2 v2 H2 B2 g2 m2 r2=>w2 v2 H2 B2 (g.trans g2) m2 r2))
 | false=>exact qpv (w1 _ H1 B1 g m qds))
theorem qq3 (h:DE M X a da):DE M X (.UnaryOp .Not a pos) (qcS da):=PE.weak (qqp h) λσ H Q ⟨H0,B0,ρ,B,ev,w⟩=>tP.of ev (Wnt.mono (qhJ (qay.mp w)) λt ⟨c,et,w1⟩ v H1 B1 g m r=>by
 subst et
 exact ⟨c,qbm r,w1 _ H1 B1 g m qds⟩)
theorem qti (hc:DT M X c dt) (ha:DE M X a da) (hb:DE M X b db):DE M X (.IfExp c a b pos) (qfa dt da db):=PE.weak (qmx hc ha hb) λσ H Q ⟨H0,B0,ρ,B,ev,w⟩=>tPT.of ev (Wnt.mono (Wnt.bind (qay.mp w)) λc w1 H1 B1 g m=>by
 cases c with
 | true=>exact qpu (tP.of (ev.grow g m) (Wnt.mono w1 λc w2 v2 H2 B2 g2 m2 r2=>w2 v2 H2 B2 (g.trans g2) m2 r2))
 | false=>exact qpv (tP.of (ev.grow g m) (Wnt.mono w1 λc w2 v2 H2 B2 g2 m2 r2=>w2 v2 H2 B2 (g.trans g2) m2 r2)))
end
end PL
end
section
namespace Mir
open St
theorem qdx: ∀{l:List Nat} {x:Nat},x∈l->(l.erase x).length+1=l.length
 | [],_,h=>by cases h
 | y::l,x,h=>by
  by_cases e:y=x
  ·subst e; simp
  ·have hb:(y==x)=false:=by simpa using e
   rw[List.erase_cons,hb]
   simp only[Bool.false_eq_true,if_false,List.length_cons]
   have:=qdx (l:=l) (x:=x) ((List.mem_cons.mp h).resolve_left λz=>e z.symm)
   lia
theorem qgo {l:List Nat} {x y:Nat} (h:y∈l) (hne:y≠x):y∈l.erase x:=by
 induction l with
 | nil=>cases h
 | cons z l ih=>
  rw[List.erase_cons]
  by_cases e:z=x
  ·have hb:(z==x)=true:=by simpa using e
   rw[hb,if_pos rfl]
   exact (List.mem_cons.mp h).resolve_left λq=>hne (q.trans e)
  ·have hb:(z==x)=false:=by simpa using e
   rw[hb]
   simp only[Bool.false_eq_true,if_false]
   rcases List.mem_cons.mp h with q | q
   ·rw[q]; exact List.mem_cons_self
   ·exact List.mem_cons_of_mem _ (ih q)
theorem qib: ∀{l l':List Nat},l.Nodup->(∀x∈l,x∈l')->l.length<=l'.length
 | [],_,_,_=>Nat.zero_le _
 | x::l,l',nd,h=>by
  have hx:x∈l':=h x List.mem_cons_self
  have hn:=List.nodup_cons.mp nd
  have:=qib (l:=l) (l':=l'.erase x) hn.2 λy hy=>qgo (h y (List.mem_cons_of_mem _ hy)) λz=>hn.1 (z▸hy)
  have e:=qdx hx
  rw[List.length_cons]
  lia
theorem qu1 {l:List Nat} {n:Nat} (nd:l.Nodup) (lt: ∀x∈l,x<n) (hl:l.length=n): ∀j,j<n->j∈l:=by
 intro j hj
 by_cases q:j∈l
 ·exact q
 ·have h1:=qib (l:=j::l) (l':=List.range n) (List.nodup_cons.mpr ⟨q,nd⟩) λx hx=>by
   rcases List.mem_cons.mp hx with e | e
   ·rw[e]; exact List.mem_range.mpr hj
   ·exact List.mem_range.mpr (lt x e)
  rw[List.length_cons,List.length_range] at h1
  lia
theorem qcZ {R:Nat->Nat->Prop} (asym: ∀a b,R a b->¬R b a): ∀{l l':List Nat},l.Pairwise R->l'.Pairwise R->(∀x,x∈l↔x∈l')->l=l'
 | [],[],_,_,_=>rfl
 | [],y::l',_,_,h=>by have:=(h y).mpr List.mem_cons_self; cases this
 | x::l,[],_,_,h=>by have:=(h x).mp List.mem_cons_self; cases this
 | x::l,y::l',h1,h2,h=>by
  obtain ⟨a1,b1⟩:=List.pairwise_cons.mp h1
  obtain ⟨a2,b2⟩:=List.pairwise_cons.mp h2
  have exy:x=y:=by
   rcases List.mem_cons.mp ((h x).mp List.mem_cons_self) with e | e
   ·exact e
   ·rcases List.mem_cons.mp ((h y).mpr List.mem_cons_self) with e' | e'
    ·exact e'.symm
    ·exact absurd (a2 x e) (asym x y (a1 y e'))
  subst exy
  have n1:x∉l:=λq=>asym x x (a1 x q) (a1 x q)
  have n2:x∉l':=λq=>asym x x (a2 x q) (a2 x q)
  rw[qcZ asym b1 b2 λz=>⟨λq=>((List.mem_cons.mp ((h z).mp (List.mem_cons_of_mem _ q))).resolve_left λe=>n1 (e▸q)),λq=>((List.mem_cons.mp ((h z).mpr (List.mem_cons_of_mem _ q))).resolve_left λe=>n2 (e▸q))⟩]
variable {ms:List Int} {n:Nat} {p:Array Nat}
theorem qn5 {k:Nat->Int} (a b:Nat) (h:L k a b): ¬L k b a:=by
 intro h'
 rcases h with h | h<;>rcases h' with h' | h'<;>lia
theorem qcU (h:qcs ms n p):p.toList.Pairwise (L λi=>ms.getD i 0):=by
 rw[List.pairwise_iff_getElem]
 intro i j hi hj hij
 have hi':i<p.size:=by simpa using hi
 have hj':j<p.size:=by simpa using hj
 have e:=h.2 i j hij (by rw[h.1.sz] at hj'; exact hj')
 have e1:g p i=p.toList[i]:=by unfold g; rw[Array.getD_eq_getD_getElem?]; simp[hi']
 have e2:g p j=p.toList[j]:=by unfold g; rw[Array.getD_eq_getD_getElem?]; simp[hj']
 rw[e1,e2] at e
 exact e
theorem qh9 (h:qcs ms n p): ∀x∈p.toList,x<n:=by
 intro x hx
 obtain ⟨i,hi,rfl⟩:=List.mem_iff_getElem.mp hx
 have hi':i<p.size:=by simpa using hi
 have e:=h.1.lo i (by rw[h.1.sz] at hi'; exact hi')
 have e1:g p i=p.toList[i]:=by unfold g; rw[Array.getD_eq_getD_getElem?]; simp[hi']
 rw[e1] at e
 exact e
theorem qhd (h:qcs ms n p):p.toList.Nodup:=by
 refine List.Pairwise.imp ?_ (qcU h)
 intro a b hab e
 subst e
 exact qn5 a a hab hab
theorem order_mem (h:qcs ms n p) (x:Nat):x∈p.toList↔x<n:=
 ⟨qh9 h x,qu1 (qhd h) (qh9 h) (by rw[Array.length_toList]; exact h.1.sz) x⟩
def qrK (ms:List Int) (n:Nat) (m:Int):List Nat:=(List.range n).filter λj=>decide (ms.getD j 0=m)
def due (ms:List Int) (n t:Nat):List Nat:=(List.range t).flatMap λm=>qrK ms n (m:Nat)
theorem map_range_getD {α:Type} (xs:List α) (d:α):(List.range xs.length).map (λj=>xs.getD j d)=xs:=by
 apply List.ext_getElem
 ·simp
 ·intro i h1 h2
  simp[h2]
end Mir
end
section
namespace SR
open PySem L2 RH St Mir
theorem qqQ {k:Nat->Int} {n:Nat}: ∀{l:List Nat},(∀x∈l,x<n)->l.Pairwise (L k)->(ins k n l).Pairwise (L k)
 | [],_,_=>by simp[ins]
 | y::l,hl,h=>by
  have h':=List.pairwise_cons.mp h
  have hy:y<n:=hl y List.mem_cons_self
  show (if k y<=k n then y::ins k n l else n::y::l).Pairwise (L k)
  by_cases c:k y<=k n
  ·rw[if_pos c]
   refine List.pairwise_cons.mpr ⟨λz hz=> ?_,qqQ (λx hx=>hl x (List.mem_cons_of_mem _ hx)) h'.2⟩
   rcases qfK.mp hz with q | q
   ·subst q
    unfold L
    lia
   ·exact h'.1 z q
  ·rw[if_neg c]
   refine List.pairwise_cons.mpr ⟨λz hz=> ?_,h⟩
   rcases List.mem_cons.mp hz with q | q
   ·subst q
    exact .inl (by lia)
   ·have:=h'.1 z q
    unfold L at this⊢
    lia
theorem qge (k:Nat->Int): ∀n,(srt k (List.range n)).Pairwise (L k)
 | 0=>List.Pairwise.nil
 | n+1=>by
  rw[List.range_succ,qdi]
  exact qqQ (λx hx=>List.mem_range.mp ((qcl _).mp hx)) (qge k n)
theorem qdq {ms:List Int} {n:Nat} {p:Array Nat} (h:qcs ms n p):p.toList=srt (λi=>ms.getD i 0) (List.range n):=
 qcZ qn5 (qcU h) (qge _ _) λx=>by rw[order_mem h,qcl,List.mem_range]
end SR
end
section
namespace RH
open PySem PySem.Spec PyProof.Rows L2 SR
section
variable {X:Cx} {α:Type}
def eqT (us vs:List V):Bool:=(List.range us.length).all λj=>eqV (us.getD j .non) (vs.getD j .non)
theorem valsArr {us:List V} {is:List Value} (r:Vals us is) {j:Nat} (h:j<is.toArray.size):RelV (us.getD j .non) is.toArray[j]:=by
 have hj:j<us.length:=by rw[r.length]; simpa using h
 obtain ⟨u,e,q⟩:=r.get (List.getElem?_eq_getElem hj)
 rw[List.getD_eq_getElem?_getD,List.getElem?_eq_getElem hj]
 have:is.toArray[j]=u:=by
  rw[List.getElem?_eq_getElem (by simpa using h)] at e
  simpa using Option.some.inj e
 rw[this]
 exact q
end
end RH
end
section
namespace PL
open PySem L2
mutual
def eqT:T->T->Bool
 | .non,.non=>true
 | .bl a,.bl b=>a==b
 | .bl a,.int b=>(if a then 1 else 0)==b
 | .int a,.bl b=>a==(if b then 1 else 0)
 | .int a,.int b=>a==b
 | .str a,.str b=>a==b
 | .tup xs,.tup ys=>qfX xs ys
 | .lst xs,.lst ys=>qfX xs ys
 | _,_=>false
def qfX:List T->List T->Bool
 | [],[]=>true
 | x::xs,y::ys=>eqT x y&&qfX xs ys
 | _,_=>false
end
def okT:Nat->T->Bool
 | _,.non=>true
 | _,.bl _=>true
 | _,.int _=>true
 | _,.str _=>true
 | n+1,.tup ts=>ts.all (okT n)
 | n+1,.lst ts=>ts.all (okT n)
 | _,_=>false
def qm4:T->Bool
 | .non=>true
 | .bl _=>true
 | .int _=>true
 | .str _=>true
 | _=>false
abbrev qh3 (xs ys:List T) (j:Nat):Bool:=eqT (xs.getD j .non) (ys.getD j .non)
theorem qdG: ∀xs ys:List T,qfX xs ys=((List.range (min xs.length ys.length)).all (qh3 xs ys)&&xs.length==ys.length)
 | [],[]=>by simp[qfX]
 | [],_::_=>by simp[qfX]
 | _::_,[]=>by simp[qfX]
 | x::xs,y::ys=>by
  rw[qfX,qdG xs ys]
  have m:min (x::xs).length (y::ys).length=(min xs.length ys.length).succ:=by simp only[List.length_cons]; lia
  rw[m,List.range_succ_eq_map,List.all_cons,List.all_map,<-Bool.and_assoc]
  have e:(qh3 (x::xs) (y::ys)∘Nat.succ)=qh3 xs ys:=by funext j; simp[qh3]
  rw[e,show qh3 (x::xs) (y::ys) 0=eqT x y from rfl]
  simp
theorem qiv {xs ys:List T} (h:xs.length=ys.length):qfX xs ys=(List.range xs.length).all (qh3 xs ys):=by
 rw[qdG,h,Nat.min_self,beq_self_eq_true,Bool.and_true]
theorem qli {xs ys:List T} (h:xs.length≠ys.length):qfX xs ys=false:=by
 rw[qdG]; simp[h]
section kinds
open SeqAt
variable {A:Around} {s:Shared} {x:V} {u:Value} {l b:Addr} {is js:Array Value}
theorem qhs (r:RelV x u) (f:qhq x=true) (h:s.heap.IsList l is) (c:A.units<cLine):EqAt A s u (.ref l) false/\EqAt A s (.ref l) u false/\RcAt A s u (.ref l) false/\RcAt A s (.ref l) u false/\RcNeAt A s u (.ref l) true/\RcNeAt A s (.ref l) u true:=by
 cases x with
 | non=>cases r; exact ⟨.none_list h c,.list_none h c,.none_list h c,.list_none h c,.none_list h c,.list_none h c⟩
 | bl k=>cases r; exact ⟨.bool_list k h c,.list_bool k h c,.bool_list k h c,.list_bool k h c,.bool_list k h c,.list_bool k h c⟩
 | int k=>obtain ⟨t,rfl⟩:=r; exact ⟨.int_list k t h c,.list_int k t h c,.int_list k t h c,.list_int k t h c,.int_list k t h c,.list_int k t h c⟩
 | str k=>obtain ⟨t,rfl⟩:=r; exact ⟨.str_list k t h c,.list_str k t h c,.str_list k t h c,.list_str k t h c,.str_list k t h c,.list_str k t h c⟩
 | _=>cases f
theorem qhr (r:RelV x u) (f:qhq x=true) (h:s.heap.IsTuple l is) (c:A.units<cLine):EqAt A s u (.ref l) false/\EqAt A s (.ref l) u false/\RcAt A s u (.ref l) false/\RcAt A s (.ref l) u false/\RcNeAt A s u (.ref l) true/\RcNeAt A s (.ref l) u true:=by
 cases x with
 | non=>cases r; exact ⟨.none_tuple h c,.tuple_none h c,.none_tuple h c,.tuple_none h c,.none_tuple h c,.tuple_none h c⟩
 | bl k=>cases r; exact ⟨.bool_tuple k h c,.tuple_bool k h c,.bool_tuple k h c,.tuple_bool k h c,.bool_tuple k h c,.tuple_bool k h c⟩
 | int k=>obtain ⟨t,rfl⟩:=r; exact ⟨.int_tuple k t h c,.tuple_int k t h c,.int_tuple k t h c,.tuple_int k t h c,.int_tuple k t h c,.tuple_int k t h c⟩
 | str k=>obtain ⟨t,rfl⟩:=r; exact ⟨.str_tuple k t h c,.tuple_str k t h c,.str_tuple k t h c,.tuple_str k t h c,.str_tuple k t h c,.tuple_str k t h c⟩
 | _=>cases f
theorem qsp {y:V} {v:Value} (r:RelV x u) (f:qhq x=true) (r':RelV y v) (f':qhq y=true):RcAt A s u v (eqV x y)/\RcNeAt A s u v (!eqV x y):=by
 cases x with
 | non=>
  cases r
  cases y with
  | non=>cases r'; exact ⟨.none_none,.none_none⟩
  | bl k=>cases r'; exact ⟨.none_bool k,.none_bool k⟩
  | int k=>obtain ⟨t,rfl⟩:=r'; exact ⟨.none_int k t,.none_int k t⟩
  | str k=>obtain ⟨t,rfl⟩:=r'; exact ⟨.none_str k t,.none_str k t⟩
  | _=>cases f'
 | bl i=>
  cases r
  cases y with
  | non=>cases r'; exact ⟨.bool_none i,.bool_none i⟩
  | bl k=>cases r'; exact ⟨.bool_bool i k,.bool_bool i k⟩
  | int k=>obtain ⟨t,rfl⟩:=r'; exact ⟨.bool_int i k t,.bool_int i k t⟩
  | str k=>obtain ⟨t,rfl⟩:=r'; exact ⟨.bool_str i k t,.bool_str i k t⟩
  | _=>cases f'
 | int i=>
  obtain ⟨t0,rfl⟩:=r
  cases y with
  | non=>cases r'; exact ⟨.int_none i t0,.int_none i t0⟩
  | bl k=>cases r'; exact ⟨.int_bool i t0 k,.int_bool i t0 k⟩
  | int k=>obtain ⟨t,rfl⟩:=r'; exact ⟨.int_int i t0 k t,.int_int i t0 k t⟩
  | str k=>obtain ⟨t,rfl⟩:=r'; exact ⟨.int_str i t0 k t,.int_str i t0 k t⟩
  | _=>cases f'
 | str i=>
  obtain ⟨t0,rfl⟩:=r
  cases y with
  | non=>cases r'; exact ⟨.str_none i t0,.str_none i t0⟩
  | bl k=>cases r'; exact ⟨.str_bool i t0 k,.str_bool i t0 k⟩
  | int k=>obtain ⟨t,rfl⟩:=r'; exact ⟨.str_int i t0 k t,.str_int i t0 k t⟩
  | str k=>obtain ⟨t,rfl⟩:=r'; exact ⟨.str_str i t0 k t,.str_str i t0 k t⟩
  | _=>cases f'
 | _=>cases f
end kinds
inductive St3 (K:PySem.W.Frag) (B:Hp) (s:Shared):T->V->Value->Prop
 | flat {t x u}:qm4 t=true->qhq x=true->RelV x u->Rep K B t x->St3 K B s t x u
 | lst {ts p is vs}:s.heap.IsList p (List.toArray is)->Vals vs is->qaK K B ts vs->St3 K B s (.lst ts) (.ref p) (.ref p)
 | tup {ts p is vs}:s.heap.IsTuple p (List.toArray is)->Vals vs is->qaK K B ts vs->St3 K B s (.tup ts) (.ref p) (.ref p)
section
variable {X:Cx} {pins:List (Addr×Obj)} {σ:St} {H B:Hp} {s:Shared}
theorem st3 {n:Nat} {t:T} {x:V} {u:Value} (I:Inv X pins σ H s) (le:Le B H) (ok:okT n t=true) (r:Rep X.K B t x) (ru:RelV x u):St3 X.K B s t x u:=by
 cases t with
 | non=>have:=qbB r; subst this; exact .flat rfl rfl ru r
 | bl b=>have:=qbm r; subst this; exact .flat rfl rfl ru r
 | int b=>have:=qas r; subst this; exact .flat rfl rfl ru r
 | str b=>have:=qaM r; subst this; exact .flat rfl rfl ru r
 | tup ts=>
  obtain ⟨p,vs,rfl,hp,rs⟩:=qbf r
  cases ru
  obtain ⟨is,rv,pl,_⟩:=I.tuple (le.sqT hp)
  exact .tup pl rv rs
 | lst ts=>
  obtain ⟨p,vs,rfl,hp,rs⟩:=qbC r
  cases ru
  obtain ⟨is,rv,pl,_⟩:=I.list (SqL.of (le _ _ hp))
  exact .lst pl.isList rv rs
 | dct _=>cases n<;>cases ok
 | dtu _=>cases n<;>cases ok
 | dcf _=>cases n<;>cases ok
 | fn _=>cases n<;>cases ok
 | scr _=>cases n<;>cases ok
theorem qfO {K:PySem.W.Frag} {t u:T} {x y:V} (ft:qm4 t=true) (fu:qm4 u=true) (r:Rep K B t x) (r':Rep K B u y):eqT t u=eqV x y:=by
 cases t<;>first | cases ft | skip
 ·have:=qbB r; subst this; cases u<;>first | cases fu | skip
  ·have:=qbB r'; subst this; rfl
  ·have:=qbm r'; subst this; rfl
  ·have:=qas r'; subst this; rfl
  ·have:=qaM r'; subst this; rfl
 ·have:=qbm r; subst this; cases u<;>first | cases fu | skip
  ·have:=qbB r'; subst this; rfl
  ·have:=qbm r'; subst this; rfl
  ·have:=qas r'; subst this; rfl
  ·have:=qaM r'; subst this; rfl
 ·have:=qas r; subst this; cases u<;>first | cases fu | skip
  ·have:=qbB r'; subst this; rfl
  ·have:=qbm r'; subst this; rfl
  ·have:=qas r'; subst this; rfl
  ·have:=qaM r'; subst this; rfl
 ·have:=qaM r; subst this; cases u<;>first | cases fu | skip
  ·have:=qbB r'; subst this; rfl
  ·have:=qbm r'; subst this; rfl
  ·have:=qas r'; subst this; rfl
  ·have:=qaM r'; subst this; rfl
theorem qbF {t:T} {ts:List T} (f:qm4 t=true):eqT t (.lst ts)=false/\eqT (.lst ts) t=false/\eqT t (.tup ts)=false/\eqT (.tup ts) t=false:=by
 cases t<;>first | exact ⟨rfl,rfl,rfl,rfl⟩ | cases f
theorem qb1 {n:Nat} {ts:List T} (h:ts.all (okT n)=true) {j:Nat} (hj:j<ts.length):okT n (ts.getD j .non)=true:=by
 rw[List.getD_eq_getElem?_getD,List.getElem?_eq_getElem hj]
 exact List.all_eq_true.mp h _ (List.getElem_mem hj)
theorem qdT {n:Nat} {ts:List T} (h:okT n (.lst ts)=true): ∃m,n=m+1/\ts.all (okT m)=true:=by
 cases n with
 | zero=>cases h
 | succ m=>exact ⟨m,rfl,h⟩
theorem qdS {n:Nat} {ts:List T} (h:okT n (.tup ts)=true): ∃m,n=m+1/\ts.all (okT m)=true:=by
 cases n with
 | zero=>cases h
 | succ m=>exact ⟨m,rfl,h⟩
mutual
theorem qdH: ∀(n:Nat) (t:T),okT n t=true->eqT t t=true
 | _,.non,_=>rfl
 | _,.bl b,_=>by simp[eqT]
 | _,.int b,_=>by simp[eqT]
 | _,.str b,_=>by simp[eqT]
 | _,.tup ts,h=>by
  obtain ⟨m,_,h'⟩:=qdS h
  rw[eqT]; exact qeH m ts h'
 | _,.lst ts,h=>by
  obtain ⟨m,_,h'⟩:=qdT h
  rw[eqT]; exact qeH m ts h'
 | n,.dct _,h=>by cases n<;>cases h
 | n,.dtu _,h=>by cases n<;>cases h
 | n,.dcf _,h=>by cases n<;>cases h
 | n,.fn _,h=>by cases n<;>cases h
 | n,.scr _,h=>by cases n<;>cases h
theorem qeH: ∀(n:Nat) (ts:List T),ts.all (okT n)=true->qfX ts ts=true
 | _,[],_=>rfl
 | n,t::ts,h=>by
  rw[List.all_cons,Bool.and_eq_true] at h
  rw[qfX,qdH n t h.1,qeH n ts h.2]; rfl
end
mutual
theorem qfD (I:Inv X pins σ H s) (le:Le B H): ∀(n m:Nat) (t u:T) (x:V),okT n t=true->okT m u=true->Rep X.K B t x->Rep X.K B u x->t=u
 | n,m,.non,u,x,_,hu,r,r'=>by
  have:=qbB r; subst this
  cases u with
  | non=>rfl
  | bl _=>cases qbm r'
  | int _=>cases qas r'
  | str _=>cases qaM r'
  | tup _=>obtain ⟨_,_,e,_⟩:=qbf r'; cases e
  | lst _=>obtain ⟨_,_,e,_⟩:=qbC r'; cases e
  | dct _=>cases m<;>cases hu
  | dtu _=>cases m<;>cases hu
  | dcf _=>cases m<;>cases hu
  | fn _=>cases m<;>cases hu
  | scr _=>cases m<;>cases hu
 | n,m,.bl _,u,x,_,hu,r,r'=>by
  have:=qbm r; subst this
  cases u with
  | non=>cases qbB r'
  | bl _=>cases qbm r'; rfl
  | int _=>cases qas r'
  | str _=>cases qaM r'
  | tup _=>obtain ⟨_,_,e,_⟩:=qbf r'; cases e
  | lst _=>obtain ⟨_,_,e,_⟩:=qbC r'; cases e
  | dct _=>cases m<;>cases hu
  | dtu _=>cases m<;>cases hu
  | dcf _=>cases m<;>cases hu
  | fn _=>cases m<;>cases hu
  | scr _=>cases m<;>cases hu
 | n,m,.int _,u,x,_,hu,r,r'=>by
  have:=qas r; subst this
  cases u with
  | non=>cases qbB r'
  | bl _=>cases qbm r'
  | int _=>cases qas r'; rfl
  | str _=>cases qaM r'
  | tup _=>obtain ⟨_,_,e,_⟩:=qbf r'; cases e
  | lst _=>obtain ⟨_,_,e,_⟩:=qbC r'; cases e
  | dct _=>cases m<;>cases hu
  | dtu _=>cases m<;>cases hu
  | dcf _=>cases m<;>cases hu
  | fn _=>cases m<;>cases hu
  | scr _=>cases m<;>cases hu
 | n,m,.str _,u,x,_,hu,r,r'=>by
  have:=qaM r; subst this
  cases u with
  | non=>cases qbB r'
  | bl _=>cases qbm r'
  | int _=>cases qas r'
  | str _=>cases qaM r'; rfl
  | tup _=>obtain ⟨_,_,e,_⟩:=qbf r'; cases e
  | lst _=>obtain ⟨_,_,e,_⟩:=qbC r'; cases e
  | dct _=>cases m<;>cases hu
  | dtu _=>cases m<;>cases hu
  | dcf _=>cases m<;>cases hu
  | fn _=>cases m<;>cases hu
  | scr _=>cases m<;>cases hu
 | n,m,.tup ts,u,x,ht,hu,r,r'=>by
  obtain ⟨p,vs,rfl,hp,rs⟩:=qbf r
  cases u with
  | non=>cases qbB r'
  | bl _=>cases qbm r'
  | int _=>cases qas r'
  | str _=>cases qaM r'
  | tup us=>
   obtain ⟨p',vs',e,hp',rs'⟩:=qbf r'
   cases e
   have:=I.tuple_inj (le.sqT hp) (le.sqT hp')
   subst this
   obtain ⟨n',_,ht'⟩:=qdS ht
   obtain ⟨m',_,hu'⟩:=qdS hu
   rw[qfB I le n' m' ts us vs ht' hu' rs rs']
  | lst us=>
   obtain ⟨p',vs',e,hp',rs'⟩:=qbC r'
   cases e
   obtain ⟨is,_,pl,_⟩:=I.tuple (le.sqT hp)
   obtain ⟨is',_,pl',_⟩:=I.list (SqL.of (le _ _ hp'))
   obtain ⟨o,e1,c1,_⟩:=pl
   obtain ⟨o',e2,c2,_⟩:=pl'.isList
   rw[e1] at e2; cases e2; rw[c1] at c2; injection c2 with c2; exact absurd c2 (by decide)
  | dct _=>cases m<;>cases hu
  | dtu _=>cases m<;>cases hu
  | dcf _=>cases m<;>cases hu
  | fn _=>cases m<;>cases hu
  | scr _=>cases m<;>cases hu
 | n,m,.lst ts,u,x,ht,hu,r,r'=>by
  obtain ⟨p,vs,rfl,hp,rs⟩:=qbC r
  cases u with
  | non=>cases qbB r'
  | bl _=>cases qbm r'
  | int _=>cases qas r'
  | str _=>cases qaM r'
  | lst us=>
   obtain ⟨p',vs',e,hp',rs'⟩:=qbC r'
   cases e
   rw[hp] at hp'; cases hp'
   obtain ⟨n',_,ht'⟩:=qdT ht
   obtain ⟨m',_,hu'⟩:=qdT hu
   rw[qfB I le n' m' ts us vs ht' hu' rs rs']
  | tup us=>
   obtain ⟨p',vs',e,hp',rs'⟩:=qbf r'
   cases e
   obtain ⟨is,_,pl,_⟩:=I.tuple (le.sqT hp')
   obtain ⟨is',_,pl',_⟩:=I.list (SqL.of (le _ _ hp))
   obtain ⟨o,e1,c1,_⟩:=pl
   obtain ⟨o',e2,c2,_⟩:=pl'.isList
   rw[e1] at e2; cases e2; rw[c1] at c2; injection c2 with c2; exact absurd c2 (by decide)
  | dct _=>cases m<;>cases hu
  | dtu _=>cases m<;>cases hu
  | dcf _=>cases m<;>cases hu
  | fn _=>cases m<;>cases hu
  | scr _=>cases m<;>cases hu
 | n,m,.dct _,u,x,ht,_,_,_=>by cases n<;>cases ht
 | n,m,.dtu _,u,x,ht,_,_,_=>by cases n<;>cases ht
 | n,m,.dcf _,u,x,ht,_,_,_=>by cases n<;>cases ht
 | n,m,.fn _,u,x,ht,_,_,_=>by cases n<;>cases ht
 | n,m,.scr _,u,x,ht,_,_,_=>by cases n<;>cases ht
theorem qfB (I:Inv X pins σ H s) (le:Le B H): ∀(n m:Nat) (ts us:List T) (vs:List V),ts.all (okT n)=true->us.all (okT m)=true->qaK X.K B ts vs->qaK X.K B us vs->ts=us
 | _,_,[],us,vs,_,_,r,r'=>by
  have:=r.inv0; subst this
  cases us with
  | nil=>rfl
  | cons _ _=>obtain ⟨_,_,e,_⟩:=r'.inv; cases e
 | n,m,t::ts,us,vs,ht,hu,r,r'=>by
  obtain ⟨v,vs',rfl,a,b⟩:=r.inv
  cases us with
  | nil=>cases r'.inv0
  | cons u us=>
   obtain ⟨v',vs'',e,a',b'⟩:=r'.inv
   cases e
   rw[List.all_cons,Bool.and_eq_true] at ht hu
   rw[qfD I le n m t u v ht.1 hu.1 a a',qfB I le n m ts us vs' ht.2 hu.2 b b']
end
open SeqAt in
theorem qlj (I:Inv X pins σ H s) (le:Le B H): ∀(n m:Nat) (A:Around) (t u:T) (x y:V) (v w:Value),okT n t=true->okT m u=true->A.units+n<cLine->Rep X.K B t x->Rep X.K B u y->RelV x v->RelV y w->EqAt A s v w (eqT t u):=by
 intro n
 induction n with
 | zero=>
  intro m A t u x y v w ht hu hc r r' rv rw'
  rcases st3 I le ht r rv with ⟨f,fx,_,_⟩ | _ | _
  ·rcases st3 I le hu r' rw' with ⟨g,gx,_,_⟩ | ⟨pl,_,_⟩ | ⟨pl,_,_⟩
   ·rw[qfO f g r r']; exact qnP rv rw' fx gx
   ·rw[(qbF f).1]; exact (qhs rv fx pl (by lia)).1
   ·rw[(qbF f).2.2.1]; exact (qhr rv fx pl (by lia)).1
  ·cases ht
  ·cases ht
 | succ n ih=>
  intro m A t u x y v w ht hu hc r r' rv rw'
  have hA:A.units<cLine:=by lia
  rcases st3 I le ht r rv with ⟨f,fx,_,_⟩ | ⟨pl,vs,rs⟩ | ⟨pl,vs,rs⟩
  ·rcases st3 I le hu r' rw' with ⟨g,gx,_,_⟩ | ⟨pl,_,_⟩ | ⟨pl,_,_⟩
   ·rw[qfO f g r r']; exact qnP rv rw' fx gx
   ·rw[(qbF f).1]; exact (qhs rv fx pl hA).1
   ·rw[(qbF f).2.2.1]; exact (qhr rv fx pl hA).1
  ·rename_i ts p is xs
   rcases st3 I le hu r' rw' with ⟨g,gx,_,_⟩ | ⟨pl',vs',rs'⟩ | ⟨pl',_,_⟩
   ·rw[(qbF g).2.1]; exact (qhs rw' gx pl hA).2.1
   ·rename_i us p' is' ys
    by_cases z:p=p'
    ·subst z
     have e:=qfD I le (n+1) m _ _ _ ht hu r r'
     rw[<-e,qdH _ _ ht]
     exact EqAt.same _
    ·have l1:=vs.length
     have l2:=vs'.length
     have l3:=rs.length
     have l4:=rs'.length
     refine EqAt.of_refs z ?_
     show RcAt A s _ _ (qfX ts us)
     by_cases hl:ts.length=us.length
     ·rw[qiv hl]
      have q:=RcAt.lists (A:=A) (s:=s) (e:=qh3 ts us) pl pl' (by simp; lia) hA λj a1 a2=> ?_
      ·have:(List.toArray is).size=ts.length:=by simp; lia
       rw[this] at q; exact q
      ·have b1:j<ts.length:=by simp at a1; lia
       have b2:j<us.length:=by lia
       obtain ⟨m',rfl,hu'⟩:=qdT hu
       exact ih m' A.in1 _ _ _ _ _ _ (qb1 ht b1) (qb1 hu' b2) (by show A.units+1+n<cLine; lia) (rs.getD j b1) (rs'.getD j b2) (RH.valsArr vs a1) (RH.valsArr vs' a2)
     ·rw[qli hl]
      exact RcAt.lists_lengths pl pl' (by simp; lia) hA
   ·exact EqAt.list_tuple pl pl' hA
  ·rename_i ts p is xs
   rcases st3 I le hu r' rw' with ⟨g,gx,_,_⟩ | ⟨pl',vs',rs'⟩ | ⟨pl',vs',rs'⟩
   ·rw[(qbF g).2.2.2]; exact (qhr rw' gx pl hA).2.1
   ·exact EqAt.tuple_list pl pl' hA
   ·rename_i us p' is' ys
    by_cases z:p=p'
    ·subst z
     have e:=qfD I le (n+1) m _ _ _ ht hu r r'
     rw[<-e,qdH _ _ ht]
     exact EqAt.same _
    ·have l1:=vs.length
     have l2:=vs'.length
     have l3:=rs.length
     have l4:=rs'.length
     refine EqAt.of_refs z ?_
     show RcAt A s _ _ (qfX ts us)
     rw[qdG]
     have q:=RcAt.tuples (A:=A) (s:=s) (e:=qh3 ts us) pl pl' hA λj a1 a2=> ?_
     ·have e1:(List.toArray is).size=ts.length:=by simp; lia
      have e2:(List.toArray is').size=us.length:=by simp; lia
      rw[e1,e2] at q; exact q
     ·have b1:j<ts.length:=by simp at a1; lia
      have b2:j<us.length:=by simp at a2; lia
      obtain ⟨m',rfl,hu'⟩:=qdS hu
      exact ih m' A.in1 _ _ _ _ _ _ (qb1 ht b1) (qb1 hu' b2) (by show A.units+1+n<cLine; lia) (rs.getD j b1) (rs'.getD j b2) (RH.valsArr vs a1) (RH.valsArr vs' a2)
open SeqAt in
theorem qnE (I:Inv X pins σ H s) (le:Le B H) (n:Nat) (A:Around) (t u:T) (x y:V) (v w:Value) (ht:okT n t=true) (hu:okT n u=true) (hc:A.units+n<cLine) (r:Rep X.K B t x) (r':Rep X.K B u y) (rv:RelV x v) (rw':RelV y w):RcAt A s v w (eqT t u)/\RcNeAt A s v w (!eqT t u):=by
 have hA:A.units<cLine:=by lia
 rcases st3 I le ht r rv with ⟨f,fx,_,_⟩ | ⟨pl,vs,rs⟩ | ⟨pl,vs,rs⟩
 ·rcases st3 I le hu r' rw' with ⟨g,gx,_,_⟩ | ⟨pl,_,_⟩ | ⟨pl,_,_⟩
  ·rw[qfO f g r r']; exact qsp rv fx rw' gx
  ·rw[(qbF f).1]; exact ⟨(qhs rv fx pl hA).2.2.1,(qhs rv fx pl hA).2.2.2.2.1⟩
  ·rw[(qbF f).2.2.1]; exact ⟨(qhr rv fx pl hA).2.2.1,(qhr rv fx pl hA).2.2.2.2.1⟩
 ·rename_i ts p is xs
  rcases st3 I le hu r' rw' with ⟨g,gx,_,_⟩ | ⟨pl',vs',rs'⟩ | ⟨pl',_,_⟩
  ·rw[(qbF g).2.1]; exact ⟨(qhs rw' gx pl hA).2.2.2.1,(qhs rw' gx pl hA).2.2.2.2.2⟩
  ·rename_i us p' is' ys
   have l1:=vs.length
   have l2:=vs'.length
   have l3:=rs.length
   have l4:=rs'.length
   obtain ⟨n',rfl,ht'⟩:=qdT ht
   obtain ⟨m',e,hu'⟩:=qdT hu
   cases e
   show RcAt A s _ _ (qfX ts us)/\RcNeAt A s _ _ (!qfX ts us)
   by_cases hl:ts.length=us.length
   ·rw[qiv hl]
    have it: ∀j (a1:j<(List.toArray is).size) (a2:j<(List.toArray is').size),EqAt A.in1 s (List.toArray is)[j] (List.toArray is')[j] (qh3 ts us j):=λj a1 a2=>by
     have b1:j<ts.length:=by simp at a1; lia
     have b2:j<us.length:=by lia
     exact qlj I le n' n' A.in1 _ _ _ _ _ _ (qb1 ht' b1) (qb1 hu' b2) (by show A.units+1+n'<cLine; lia) (rs.getD j b1) (rs'.getD j b2) (RH.valsArr vs a1) (RH.valsArr vs' a2)
    have ez:(List.toArray is).size=ts.length:=by simp; lia
    have q1:=RcAt.lists (A:=A) (s:=s) (e:=qh3 ts us) pl pl' (by simp; lia) hA it
    have q2:=RcNeAt.lists (A:=A) (s:=s) (e:=qh3 ts us) pl pl' (by simp; lia) hA it
    rw[ez] at q1 q2
    exact ⟨q1,q2⟩
   ·rw[qli hl]
    exact ⟨RcAt.lists_lengths pl pl' (by simp; lia) hA,RcNeAt.lists_lengths pl pl' (by simp; lia) hA⟩
  ·exact ⟨RcAt.list_tuple pl pl' hA,RcNeAt.list_tuple pl pl' hA⟩
 ·rename_i ts p is xs
  rcases st3 I le hu r' rw' with ⟨g,gx,_,_⟩ | ⟨pl',vs',rs'⟩ | ⟨pl',vs',rs'⟩
  ·rw[(qbF g).2.2.2]; exact ⟨(qhr rw' gx pl hA).2.2.2.1,(qhr rw' gx pl hA).2.2.2.2.2⟩
  ·exact ⟨RcAt.tuple_list pl pl' hA,RcNeAt.tuple_list pl pl' hA⟩
  ·rename_i us p' is' ys
   have l1:=vs.length
   have l2:=vs'.length
   have l3:=rs.length
   have l4:=rs'.length
   obtain ⟨n',rfl,ht'⟩:=qdS ht
   obtain ⟨m',e,hu'⟩:=qdS hu
   cases e
   show RcAt A s _ _ (qfX ts us)/\RcNeAt A s _ _ (!qfX ts us)
   rw[qdG]
   have it: ∀j (a1:j<(List.toArray is).size) (a2:j<(List.toArray is').size),EqAt A.in1 s (List.toArray is)[j] (List.toArray is')[j] (qh3 ts us j):=λj a1 a2=>by
    have b1:j<ts.length:=by simp at a1; lia
    have b2:j<us.length:=by simp at a2; lia
    exact qlj I le n' n' A.in1 _ _ _ _ _ _ (qb1 ht' b1) (qb1 hu' b2) (by show A.units+1+n'<cLine; lia) (rs.getD j b1) (rs'.getD j b2) (RH.valsArr vs a1) (RH.valsArr vs' a2)
   have e1:(List.toArray is).size=ts.length:=by simp; lia
   have e2:(List.toArray is').size=us.length:=by simp; lia
   have q1:=RcAt.tuples (A:=A) (s:=s) (e:=qh3 ts us) pl pl' hA it
   have q2:=RcNeAt.tuples (A:=A) (s:=s) (e:=qh3 ts us) pl pl' hA it
   rw[e1,e2] at q1 q2
   exact ⟨q1,q2⟩
end
end PL
end
section
namespace PL
open PySem L2
def qbx:T->T->Rs T
 | .int i,.int j=>.ok (.int (i+j))
 | .str x,.str y=>if x.length+y.length<=1000 then .ok (.str (x++y)) else .no
 | .lst xs,.lst ys=>if xs.length+ys.length<=1000 then .ok (.lst (xs++ys)) else .no
 | .tup (x::xs),.tup (y::ys)=>if (x::xs).length+(y::ys).length<=1000 then .ok (.tup ((x::xs)++(y::ys))) else .no
 | _,_=>.no
def gSub:T->T->Rs T
 | .int i,.int j=>.ok (.int (i - j))
 | _,_=>.no
def qe7:T->T->Rs T
 | .int i,.int j=>if (-1000000<=i/\i<=1000000)\/(-1000000<=j/\j<=1000000) then .ok (.int (i*j)) else .no
 | _,_=>.no
def qjL:T->T->Rs T
 | .int i,.int j=>if 0<j/\j<1073741824 then .ok (.int (i / j)) else .no
 | _,_=>.no
def qoW:T->T->Rs T
 | .int i,.int j=>if 0<j then .ok (.int (i % j)) else .no
 | _,_=>.no
def qtM:T->Rs T
 | .int i=>.ok (.int (-i))
 | _=>.no
def qpP (x y:Str):Bool:=decide (x.cps.toList<y.cps.toList)
def gLt:T->T->Rs T
 | .int i,.int j=>.ok (.bl (decide (i<j)))
 | .str x,.str y=>.ok (.bl (qpP x y))
 | _,_=>.no
def gLe:T->T->Rs T
 | .int i,.int j=>.ok (.bl (decide (i<=j)))
 | .str x,.str y=>.ok (.bl (!qpP y x))
 | _,_=>.no
def gGt:T->T->Rs T
 | .int i,.int j=>.ok (.bl (decide (j<i)))
 | _,_=>.no
def gGe:T->T->Rs T
 | .int i,.int j=>.ok (.bl (decide (j<=i)))
 | _,_=>.no
def gEq (a b:T):Rs T:=if okT 8 a=true/\okT 8 b=true then .ok (.bl (eqT a b)) else .no
def gNe (a b:T):Rs T:=if okT 8 a=true/\okT 8 b=true then .ok (.bl (!eqT a b)) else .no
def gIx:T->T->Rs T
 | .lst ts,.int k=>(match atI ts k with | some t=>.ok t | none=>.no)
 | .tup ts,.int k=>(match atI ts k with | some t=>.ok t | none=>.no)
 | .str z,.int k=>if z.length<=1000 then (match atI z.cps.toList k with | some c=>.ok (.str ⟨#[c]⟩) | none=>.no) else .no
 | _,_=>.no
def gIs:T->T->Rs T
 | x,.non=>(match x with | .non=>.ok (.bl true) | .dct _=>.no | .scr _=>.no | _=>.ok (.bl false))
 | .bl a,.bl b=>.ok (.bl (a==b))
 | _,_=>.no
def qqT:T->T->Rs T
 | x,.non=>(match x with | .non=>.ok (.bl false) | .dct _=>.no | .scr _=>.no | _=>.ok (.bl true))
 | .bl a,.bl b=>.ok (.bl (a != b))
 | _,_=>.no
section
variable {M:Md} {X:Cx}
def qp7 (K:PySem.W.Frag):R2:=λx y H Q=>(rI0 (λi j=>.int (i+j)) x y H Q\/(∃i j,x= .str i/\y= .str j/\i.length+j.length<=sizeLine/\Q (.str (i++j)) H))\/(qtG x y H Q\/qp6 K x y H Q)
theorem qaN:OpR X (binaryOp .Add) (qp7 X.K):=(qgl.or qi7).or (qqu.or qoB)
theorem qa1:Pl qbx:=λa b c e=>by unfold qbx at e; split at e<;>first | cases e | (split at e<;>cases e)
theorem qa0 (hK:X.K=M.K:=by rfl):RS M (qp7 X.K) qbx:=by
 intro H B x y a b c Q le bt m ra rb e k
 have same: ∀{t:T} {v:V},(∀B,Rep M.K B t v)->c=t->Q v H:=λr ec=>by subst ec; exact k _ H B (.refl le bt) m (r B)
 unfold qbx at e
 split at e
 ·cases e
  rw[qas ra,qas rb]
  exact .inl (.inl ⟨_,_,rfl,rfl,same (λB=>qbk) rfl⟩)
 ·split at e
  ·rename_i hz
   cases e
   rw[qaM ra,qaM rb]
   exact .inl (.inr ⟨_,_,rfl,rfl,Nat.le_of_lt (qbj hz),same (λB=>qia) rfl⟩)
  ·cases e
 ·split at e
  ·rename_i xs ys hz
   cases e
   obtain ⟨p,us,rfl,hp,r1⟩:=qbC ra
   obtain ⟨q,ws,rfl,hq,r2⟩:=qbC rb
   refine .inr (.inl ⟨p,q,us,ws,rfl,rfl,le _ _ hp,le _ _ hq,Nat.le_of_lt (qbj (by rw[r1.length,r2.length]; exact hz)),λd hd=> ?_⟩)
   have g:=qa5.new (o:=HO.lst (us++ws)) le bt hd (by intro ps z; cases z)
   exact k _ _ _ g (M.G.st H _ (λa o e _ _ _ _=>by rw[qad (qap e hd)]; exact e) m) (qnJ qak ((r1.append r2).mono g.bb))
  ·cases e
 ·split at e
  ·rename_i x xs y ys hz
   cases e
   obtain ⟨p,us,rfl,hp,r1⟩:=qbf ra
   obtain ⟨q,ws,rfl,hq,r2⟩:=qbf rb
   have l1:=r1.length
   have l2:=r2.length
   refine .inr (.inr ⟨p,q,us,ws,rfl,rfl,by rw[hK]; exact le.sqT hp,by rw[hK]; exact le.sqT hq,(λz=>by rw[z] at l1; cases l1),Nat.le_of_lt (qbj (by lia)),(λz=>by rw[z] at l2; cases l2),λ_ d hd=> ?_⟩)
   have g:=qa5.new (o:=HO.tup (us++ws)) le bt hd (by intro ps z; cases z)
   exact k _ _ _ g (M.G.st H _ (λa o e _ _ _ _=>by rw[qad (qap e hd)]; exact e) m) (qkz qak ((r1.append r2).mono g.bb))
  ·cases e
 ·cases e
theorem qf9:RS M (rI0 λi j=>.int (i - j)) gSub:=by
 intro H B x y a b c Q le bt m ra rb e k
 unfold gSub at e
 split at e
 ·cases e
  exact ⟨_,_,qas ra,qas rb,k _ H B (.refl le bt) m qbk⟩
 ·cases e
theorem qgf:Pl gSub:=λa b c e=>by unfold gSub at e; split at e<;>cases e
theorem qhX:RS M (rI qrv λi j=>.int (i*j)) qe7:=by
 intro H B x y a b c Q le bt m ra rb e k
 unfold qe7 at e
 split at e
 ·split at e
  ·rename_i h
   cases e
   refine ⟨_,_,qas ra,qas rb,?_,k _ H B (.refl le bt) m qbk⟩
   rcases h with h | h
   ·exact .inl ⟨by lia,by lia⟩
   ·exact .inr ⟨by lia,by lia⟩
  ·cases e
 ·cases e
theorem qh4:Pl qe7:=λa b c e=>by unfold qe7 at e; split at e<;>first | cases e | (split at e<;>cases e)
theorem qp0:RS M (rI qt3 λi j=>.int (i / j)) qjL:=by
 intro H B x y a b c Q le bt m ra rb e k
 unfold qjL at e
 split at e
 ·split at e
  ·rename_i h
   cases e
   exact ⟨_,_,qas ra,qas rb,h,k _ H B (.refl le bt) m qbk⟩
  ·cases e
 ·cases e
theorem qqg:Pl qjL:=λa b c e=>by unfold qjL at e; split at e<;>first | cases e | (split at e<;>cases e)
theorem qpZ:RS M (rI (λ_ j=>0<j) λi j=>.int (i % j)) qoW:=by
 intro H B x y a b c Q le bt m ra rb e k
 unfold qoW at e
 split at e
 ·split at e
  ·rename_i h
   cases e
   exact ⟨_,_,qas ra,qas rb,h,k _ H B (.refl le bt) m qbk⟩
  ·cases e
 ·cases e
theorem qqf:Pl qoW:=λa b c e=>by unfold qoW at e; split at e<;>first | cases e | (split at e<;>cases e)
theorem qbu:OpR X (compareOp .LtE) (λx y H Q=>rI0 (λi j=>.bl (decide (i<=j))) x y H Q\/∃i j,x= .str i/\y= .str j/\Q (.bl (!decide (j.cps.toList<i.cps.toList))) H):=qsz.or qkw
theorem qdl:RS M (λx y H Q=>rI0 (λi j=>.bl (decide (i<=j))) x y H Q\/∃i j,x= .str i/\y= .str j/\Q (.bl (!decide (j.cps.toList<i.cps.toList))) H) gLe:=by
 intro H B x y a b c Q le bt m ra rb e k
 unfold gLe at e
 split at e
 ·cases e; exact .inl ⟨_,_,qas ra,qas rb,k _ H B (.refl le bt) m qds⟩
 ·cases e; exact .inr ⟨_,_,qaM ra,qaM rb,k _ H B (.refl le bt) m qds⟩
 ·cases e
theorem qdn:Pl gLe:=λa b c e=>by unfold gLe at e; split at e<;>cases e
theorem qmj:RS M (rI0 λi j=>.bl (decide (j<i))) gGt:=by
 intro H B x y a b c Q le bt m ra rb e k
 unfold gGt at e
 split at e
 ·cases e; exact ⟨_,_,qas ra,qas rb,k _ H B (.refl le bt) m qds⟩
 ·cases e
theorem qmp:Pl gGt:=λa b c e=>by unfold gGt at e; split at e<;>cases e
def qri (K:PySem.W.Frag) (neg:Bool):R2:=λx y H Q=> ∃B t u,Le B H/\Rep K B t x/\Rep K B u y/\okT 8 t=true/\okT 8 u=true/\Q (.bl (if neg then !eqT t u else eqT t u)) H
theorem qcW (hu:X.A.units+8<cLine):OpR X (compareOp .Eq) (qri X.K false):=by
 intro pins s σ H x y v u Q I rx ry hq181
 obtain ⟨B,t,u',le,ra,rb,o1,o2,q⟩:=hq181
 exact (qnE I le 8 X.A t u' x y v u o1 o2 hu ra rb rx ry).1 _ _ _ _ ⟨.bl _,H,I,rfl,q⟩
theorem qcV (hu:X.A.units+8<cLine):OpR X (compareOp .NotEq) (qri X.K true):=by
 intro pins s σ H x y v u Q I rx ry hq184
 obtain ⟨B,t,u',le,ra,rb,o1,o2,q⟩:=hq184
 exact (qnE I le 8 X.A t u' x y v u o1 o2 hu ra rb rx ry).2 _ _ _ _ ⟨.bl _,H,I,rfl,q⟩
theorem qeZ (hK:X.K=M.K:=by rfl):RS M (qri X.K false) gEq:=by
 intro H B x y a b c Q le bt m ra rb e k
 unfold gEq at e
 split at e
 ·rename_i h
  cases e
  exact ⟨B,a,b,le,by rw[hK]; exact ra,by rw[hK]; exact rb,h.1,h.2,k _ H B (.refl le bt) m qds⟩
 ·cases e
theorem qe1:Pl gEq:=λa b c e=>by unfold gEq at e; split at e<;>cases e
theorem qeY (hK:X.K=M.K:=by rfl):RS M (qri X.K true) gNe:=by
 intro H B x y a b c Q le bt m ra rb e k
 unfold gNe at e
 split at e
 ·rename_i h
  cases e
  exact ⟨B,a,b,le,by rw[hK]; exact ra,by rw[hK]; exact rb,h.1,h.2,k _ H B (.refl le bt) m qds⟩
 ·cases e
theorem qe0:Pl gNe:=λa b c e=>by unfold gNe at e; split at e<;>cases e
theorem qfC {K:PySem.W.Frag} {B:Hp} {ts:List T} {vs:List V} {k:Int} {t:T} (r:qaK K B ts vs) (e:atI ts k=some t): ∃v,atI vs k=some v/\Rep K B t v:=by
 unfold atI at e⊢
 rw[r.length]
 cases q:ixN ts.length k with
 | none=>rw[q] at e; cases e
 | some j=>rw[q] at e; exact r.get e
theorem qaS (hK:X.K=M.K:=by rfl):RS M (rIx X.K) gIx:=by
 intro H B x y a b c Q le bt m ra rb e k
 unfold gIx at e
 split at e
 ·split at e
  ·rename_i ts i t et
   cases e
   obtain ⟨p,vs,rfl,hp,r⟩:=qbC ra
   obtain ⟨v,ev,rv⟩:=qfC r et
   exact .inl ⟨p,vs,_,v,rfl,qas rb,SqL.of (le _ _ hp),ev,k _ H B (.refl le bt) m rv⟩
  ·cases e
 ·split at e
  ·rename_i ts i t et
   cases e
   obtain ⟨p,vs,rfl,hp,r⟩:=qbf ra
   obtain ⟨v,ev,rv⟩:=qfC r et
   exact .inr (.inl ⟨p,vs,_,v,rfl,qas rb,by rw[hK]; exact le.sqT hp,ev,k _ H B (.refl le bt) m rv⟩)
  ·cases e
 ·split at e
  ·rename_i hz
   split at e
   ·rename_i ch ec
    cases e
    exact .inr (.inr ⟨_,_,ch,qaM ra,qas rb,Nat.le_of_lt (qbj hz),ec,k _ H B (.refl le bt) m qia⟩)
   ·cases e
  ·cases e
 ·cases e
theorem qaT:Pl gIx:=λa b c e=>by
 unfold gIx at e
 split at e
 ·split at e<;>cases e
 ·split at e<;>cases e
 ·split at e
  ·split at e<;>cases e
  ·cases e
 ·cases e
end
end PL
end
section
namespace PL
open PySem L2
theorem PO.weak {X:Cx} {e:Option Expr} {t t':TO} (h:PO X e t) (w: ∀σ H Q,t' σ H Q->t σ H Q):PO X e t':=λpins s σ H Q I q=>h pins s σ H Q I (w σ H Q q)
def qiQ (M:Md) (H B:Hp) (q:Bool×List T) (p:Addr) (vs:List V):Prop:=if q.1=true then H p=some (.lst vs) else SqT M.K B p vs
theorem qiQ.grow {M:Md} {H B H' B':Hp} {q:Bool×List T} {p:Addr} {vs:List V} (h:qiQ M H B q p vs) (g:qa5 H B H' B'):qiQ M H' B' q p vs:=by
 unfold qiQ at h⊢
 by_cases c:q.1=true
 ·rw[if_pos c] at h⊢
  exact g.gx.hh _ _ h (by intro ps z; cases z)
 ·rw[if_neg c] at h⊢
  exact g.bb.sqT h
theorem qiQ.seq {M:Md} {X:Cx} {H B:Hp} {q:Bool×List T} {p:Addr} {vs:List V} (h:qiQ M H B q p vs) (le:Le B H) (hK:X.K=M.K):SqL X.K H p vs\/SqT X.K H p vs:=by
 unfold qiQ at h
 split at h
 ·exact .inl (SqL.of h)
 ·exact .inr (by rw[hK]; exact le.sqT h)
section
variable {M:Md} {X:Cx} {e a b:Expr} {pos p2:Pos} {da db:Ro->Rs T} {dq:Ro->Rs (Bool×List T)} {lo hi:Option Expr} {dl dh:Ro->Rs (Option Int)}
def dCQ (g:Bool×List T->Rs T) (dq:Ro->Rs (Bool×List T)):Ro->Rs T:=λρ=>dq ρ>>=g
def qek (g:Bool×List T->Rs (List T)) (dq:Ro->Rs (Bool×List T)):Ro->Rs (List T):=λρ=>dq ρ>>=g
theorem qiD {r:List V->Hp->VK->Prop} {g:Bool×List T->Rs T} (h:PE X e (tCB r (qcv (tQ M dq) qhL)))
  (hs: ∀(H B:Hp) (p:Addr) (vs:List V) (q:Bool×List T) (c:T) (Q:VK),Le B H->(∀a ps,B a≠some (.tbl ps))->M.G.P H->qiQ M H B q p vs->qaK M.K B q.2 vs->g q= .ok c->(∀v H' B',qa5 H B H' B'->M.G.P H'->Rep M.K B' c v->Q v H')->r [.ref p] H Q)
  (hp: ∀q c,g q≠.ex c):DE M X e (dCQ g dq):=by
 refine PE.weak h λσ H Q hq30=> ?_
 obtain ⟨H0,B0,ρ,B,ev,w⟩:=hq30
 refine tQ.of ev (Wnt.mono (Wnt.bind (qay.mp w)) λq w1 p vs H1 B1 g1 m1 hq r1=> ?_)
 have ev1:=ev.grow g1 m1
 cases z:g q with
 | no=>rw[z] at w1; exact w1.elim
 | ex c=>exact absurd z (hp q c)
 | ok c=>
  rw[z] at w1
  exact hs H1 B1 p vs q c Q ev1.bh ev1.bt m1 hq r1 z λv H' B' g' m' r'=>w1 v H' B' (g1.trans g') m' r'
theorem qnS {r:List V->Hp->VK->Prop} {g:Bool×List T->Rs (List T)} (h:PE X e (tCB r (qcv (tQ M dq) qhL)))
  (hs: ∀(H B:Hp) (p:Addr) (vs:List V) (q:Bool×List T) (c:List T) (Q:VK),Le B H->(∀a ps,B a≠some (.tbl ps))->M.G.P H->qiQ M H B q p vs->qaK M.K B q.2 vs->g q= .ok c->(∀p' ws H' B',qa5 H B H' B'->M.G.P H'->H p'=none->B' p'=none->H' p'=some (.lst ws)->qaK M.K B' c ws->Q (.ref p') H')->r [.ref p] H Q)
  (hp: ∀q c,g q≠.ex c):DF M X e (qek g dq):=by
 refine PE.weak h λσ H Q hq42=> ?_
 obtain ⟨H0,B0,ρ,B,ev,w⟩:=hq42
 refine tQ.of ev (Wnt.mono (Wnt.bind (qcc.mp w)) λq w1 p vs H1 B1 g1 m1 hq r1=> ?_)
 have ev1:=ev.grow g1 m1
 cases z:g q with
 | no=>rw[z] at w1; exact w1.elim
 | ex c=>exact absurd z (hp q c)
 | ok c=>
  rw[z] at w1
  exact hs H1 B1 p vs q c Q ev1.bh ev1.bt m1 hq r1 z λp' ws H' B' g' m' n1 n2 n3 r'=>w1 p' ws H' B' (g1.trans g') m' (qb2 g1.gx n1) n2 n3 r'
theorem qcL {H B:Hp} {p:Addr} {ws:List V} (le:Le B H) (bt: ∀a ps,B a≠some (.tbl ps)) (m:M.G.P H) (hp:H p=none):qa5 H B (upd H p (.lst ws)) B/\M.G.P (upd H p (.lst ws))/\B p=none:=
 ⟨.own le bt hp,M.G.st H _ (λa o e _ _ _ _=>by rw[qad (qap e hp)]; exact e) m,by
  cases q:B p with
  | none=>rfl
  | some u=>rw[le _ _ q] at hp; cases hp⟩
def qfl:Bool×List T->Rs T:=λq=>.ok (.int q.2.length)
theorem qnV (h:PE X e (tCB (λxs H Q=> ∃p ys,xs=[.ref p]/\(SqL X.K H p ys\/SqT X.K H p ys)/\Q (.int ys.length) H) (qcv (tQ M dq) qhL))) (hK:X.K=M.K:=by rfl):DE M X e (dCQ qfl dq):=
 qiD h (λH B p vs q c Q le bt m hq r e k=>by
  cases e
  exact ⟨p,vs,rfl,hq.seq le hK,by rw[r.length]; exact k _ H B (.refl le bt) m qbk⟩) (λq c e=>by cases e)
def qbK:Bool×List T->Rs (List T):=λq=>.ok q.2
theorem qpa (h:PE X e (tCB (λxs H Q=> ∃p ys,xs=[.ref p]/\(SqL X.K H p ys\/SqT X.K H p ys)/\∀l,H l=none->Q (.ref l) (upd H l (.lst ys))) (qcv (tQ M dq) qhL))) (hK:X.K=M.K:=by rfl):DF M X e (qek qbK dq):=
 qnS h (λH B p vs q c Q le bt m hq r e k=>by
  cases e
  refine ⟨p,vs,rfl,hq.seq le hK,λl hl=> ?_⟩
  obtain ⟨g,m',bp⟩:=qcL (M:=M) le bt m hl
  exact k l vs _ B g m' hl bp qak r) (λq c e=>by cases e)
def qbr:Bool×List T->Rs T:=λq=>if q.1=true then .ok (.tup q.2) else .no
theorem qnh (h:PE X e (tCB (λxs H Q=> ∃p ys,xs=[.ref p]/\((SqL X.K H p ys/\∀l,H l=none->Q (.ref l) (upd H l (.tup ys)))\/(SqT X.K H p ys/\Q (.ref p) H))) (qcv (tQ M dq) qhL))) (hK:X.K=M.K:=by rfl):DE M X e (dCQ qbr dq):=
 qiD h (λH B p vs q c Q le bt m hq r e k=>by
  unfold qbr at e
  split at e
  ·rename_i q1
   cases e
   unfold qiQ at hq
   rw[if_pos q1] at hq
   refine ⟨p,vs,rfl,.inl ⟨SqL.of hq,λl hl=> ?_⟩⟩
   have g:=qa5.new (o:=HO.tup vs) le bt hl (by intro ps z; cases z)
   exact k _ _ _ g (M.G.st H _ (λa o e _ _ _ _=>by rw[qad (qap e hl)]; exact e) m) (qkz qak (r.mono g.bb))
  ·cases e) (λq c e=>by unfold qbr at e; split at e<;>cases e)
def qvi (dp dq:Ro->Rs (Bool×List T)):Ro->Rs (List T):=λρ=>dp ρ>>=λx=>dq ρ>>=λy=>if (x.1=true/\y.1=true)/\x.2.length+y.2.length<=1000 then .ok (x.2++y.2) else .no
def ixQ (q:Bool×List T):T->Rs T
 | .int k=>(match atI q.2 k with | some t=>.ok t | none=>.no)
 | _=>.no
def qfU (dq:Ro->Rs (Bool×List T)) (db:Ro->Rs T):Ro->Rs T:=λρ=>dq ρ>>=λq=>db ρ>>=λk=>ixQ q k
theorem qnW (ha:DQ M X a dq) (hb:DE M X b db) (hs:qhD b) (hK:X.K=M.K:=by rfl):DE M X (.Subscript a b pos) (qfU dq db):=by
 refine PE.weak (qmw qaw ha hb hs) λσ H Q hq100=> ?_
 obtain ⟨H0,B0,ρ,B,ev,w⟩:=hq100
 refine tQ.of ev (Wnt.mono (Wnt.bind (qay.mp w)) λq w1 p vs H1 B1 g1 m1 hx r1=> ?_)
 have ev1:=ev.grow g1 m1
 refine tP.of ev1 (Wnt.mono (Wnt.bind w1) λy w2 v H2 B2 g2 m2 r2=> ?_)
 cases y with
 | int k=>
  have e1:=qas r2
  subst e1
  unfold ixQ at w2
  dsimp only at w2
  split at w2
  ·rename_i t et
   obtain ⟨u,eu,ru⟩:=qfC (r1.mono g2.bb) et
   have w3:=w2 u H2 B2 (g1.trans g2) m2 ru
   rcases (qiQ.grow (M:=M) hx g2).seq (ev1.grow g2 m2).bh hK with h | h
   ·exact .inl ⟨p,vs,k,u,rfl,rfl,h,eu,w3⟩
   ·exact .inr (.inl ⟨p,vs,k,u,rfl,rfl,h,eu,w3⟩)
  ·exact w2.elim
 | _=>exact w2.elim
def tPO (M:Md) (d:Ro->Rs (Option Int)):TO:=λσ H Q=> ∃H0 B0 ρ B,Ev M H0 B0 ρ σ H B/\Wnt M H0 (λo=> ∀H' B',qa5 H B H' B'->M.G.P H'->Q o H') (d ρ)
abbrev DO (M:Md) (X:Cx) (e:Option Expr) (d:Ro->Rs (Option Int)):Prop:=PO X e (tPO M d)
def dON:Ro->Rs (Option Int):=λ_=>.ok none
def dOS (da:Ro->Rs T):Ro->Rs (Option Int):=λρ=>da ρ>>=λt=>match t with | .int i=>.ok (some i) | _=>.no
theorem qdc:DO M X none dON:=PO.weak qot λσ H Q ⟨H0,B0,ρ,B,ev,w⟩=>w H B (.refl ev.bh ev.bt) ev.gm
theorem qdb (h:DE M X e da):DO M X (some e) (dOS da):=PO.weak (qos h) λσ H Q ⟨H0,B0,ρ,B,ev,w⟩=>tP.of ev (Wnt.mono (Wnt.bind w) λt w1 v H1 B1 g1 m1 r1=>by
 cases t with
 | int i=>exact ⟨i,qas r1,w1 H1 B1 g1 m1⟩
 | _=>exact w1.elim)
def qpB (ts:List T) (lo hi:Option Int):List T:=(ts.drop (HT.sIx ts.length 0 lo)).take (HT.sIx ts.length ts.length hi - HT.sIx ts.length 0 lo)
theorem qhY {K:PySem.W.Frag} {B:Hp} {ts:List T} {vs:List V} (r:qaK K B ts vs) (lo hi:Option Int):qaK K B (qpB ts lo hi) (qlD vs lo hi):=by
 unfold qpB qlD
 rw[r.length]
 exact (r.drop _).take _
def qeV (dq:Ro->Rs (Bool×List T)) (dl dh:Ro->Rs (Option Int)):Ro->Rs (List T):=λρ=>dq ρ>>=λq=>dl ρ>>=λl=>dh ρ>>=λh=>if q.1=true then .ok (qpB q.2 l h) else .no
theorem qiA (ha:DQ M X a dq) (hl:DO M X lo dl) (hh:DO M X hi dh):DF M X (.Subscript a (.Slice lo hi none p2) pos) (qeV dq dl dh):=by
 refine PE.weak (qh6 qoj ha hl hh) λσ H Q hq136=> ?_
 obtain ⟨H0,B0,ρ,B,ev,w⟩:=hq136
 refine tQ.of ev (Wnt.mono (Wnt.bind (qcc.mp w)) λq w1 p vs H1 B1 g1 m1 hx r1=> ?_)
 have ev1:=ev.grow g1 m1
 refine ⟨H0,B0,ρ,B1,ev1,Wnt.mono (Wnt.bind w1) λl w2 H2 B2 g2 m2=> ?_⟩
 have ev2:=ev1.grow g2 m2
 refine ⟨H0,B0,ρ,B2,ev2,Wnt.mono (Wnt.bind w2) λh w3 H3 B3 g3 m3=> ?_⟩
 have ev3:=ev2.grow g3 m3
 split at w3
 ·rename_i hc
  rw[if_pos hc] at hx
  refine ⟨p,vs,rfl,SqL.of (g3.gx.hh _ _ (g2.gx.hh _ _ hx (by intro ps z; cases z)) (by intro ps z; cases z)),λd hd=> ?_⟩
  obtain ⟨g,m',bp⟩:=qcL (M:=M) (ws:=qlD vs l h) ev3.bh ev3.bt m3 hd
  have gg:=(g1.trans g2).trans g3
  exact w3 d _ _ B3 (gg.trans g) m' (qb2 gg.gx hd) bp qak (qhY ((r1.mono g2.bb).mono g3.bb) l h)
 ·exact w3.elim
def qtF (M:Md) (K:PySem.W.Frag) (neg:Bool):R2:=λx y H Q=> ∃B t p vs ts,Le B H/\Rep K B t x/\y= .ref p/\(H p=some (.lst vs)\/SqT K H p vs)/\qaK K B ts vs/\okT 7 t=true/\ts.all (okT 7)=true/\Q (.bl (if neg then !ts.any (λu=>eqT u t) else ts.any (λu=>eqT u t))) H
open SeqAt in
theorem qir {pins:List (Addr×Obj)} {σ:St} {H B:Hp} {s:Shared} (hu:X.A.units+8<cLine) (I:Inv X pins σ H s) (le:Le B H) {t:T} {x:V} {v:Value} {ts:List T} {vs:List V} {is:List Value} (ra:Rep X.K B t x) (rx:RelV x v) (ot:okT 7 t=true) (ots:ts.all (okT 7)=true) (rs:qaK X.K B ts vs) (rv:Vals vs is):
  ∃e:Value->Bool,(∀y,y∈is.toArray->EqAt X.A.in1 s y v (e y))/\is.toArray.any e=ts.any (λu=>eqT u t):=by
 have l1:=rv.length
 have l2:=rs.length
 have at_: ∀(j:Nat) (h:j<is.toArray.size),EqAt X.A.in1 s is.toArray[j] v (eqT (ts.getD j .non) t):=λj h=>by
  have hj:j<ts.length:=by simp at h; lia
  exact qlj I le 7 7 X.A.in1 _ _ _ _ _ _ (qb1 ots hj) ot (by show X.A.units+1+7<cLine; lia) (rs.getD j hj) ra (RH.valsArr rv h) rx
 have one: ∀(j k:Nat) (h:j<is.toArray.size) (h':k<is.toArray.size),is.toArray[j]=is.toArray[k]->ts.getD j .non=ts.getD k .non:=λj k h h' e=>by
  have hj:j<ts.length:=by simp at h; lia
  have hk:k<ts.length:=by simp at h'; lia
  have r1:=RH.valsArr rv h
  have r2:=RH.valsArr rv h'
  rw[<-e] at r2
  have:=r1.inj r2
  refine qfD I le 7 7 _ _ _ (qb1 ots hj) (qb1 ots hk) (rs.getD j hj) ?_
  rw[this]
  exact rs.getD k hk
 classical
 refine ⟨λy=>decide (∃(j:Nat) (h:j<is.toArray.size),is.toArray[j]=y/\eqT (ts.getD j .non) t=true),λy hy=> ?_,?_⟩
 ·obtain ⟨j,hj,rfl⟩:=Array.mem_iff_getElem.mp hy
  have q:=at_ j hj
  cases z:eqT (ts.getD j .non) t with
  | true=>
   rw[z] at q
   show EqAt X.A.in1 s is.toArray[j] v (decide (∃(j':Nat) (h:j'<is.toArray.size),is.toArray[j']=is.toArray[j]/\eqT (ts.getD j' .non) t=true))
   rw[decide_eq_true ⟨j,hj,rfl,z⟩]
   exact q
  | false=>
   rw[z] at q
   show EqAt X.A.in1 s is.toArray[j] v (decide (∃(j':Nat) (h:j'<is.toArray.size),is.toArray[j']=is.toArray[j]/\eqT (ts.getD j' .non) t=true))
   rw[decide_eq_false (λ⟨k,hk,e,ek⟩=>by rw[one k j hk hj e,z] at ek; cases ek)]
   exact q
 ·rw[Bool.eq_iff_iff,Array.any_eq_true,List.any_eq_true]
  constructor
  ·rintro ⟨j,hj,e⟩
   obtain ⟨k,hk,ek,et⟩:=of_decide_eq_true e
   have hk':k<ts.length:=by simp at hk; lia
   refine ⟨ts.getD k .non,?_,et⟩
   rw[List.getD_eq_getElem?_getD,List.getElem?_eq_getElem hk']
   exact List.getElem_mem hk'
  ·rintro ⟨u,hm,eu⟩
   obtain ⟨j,hj,rfl⟩:=List.mem_iff_getElem.mp hm
   have hj':j<is.toArray.size:=by simp; lia
   refine ⟨j,hj',decide_eq_true ⟨j,hj',rfl,?_⟩⟩
   rw[List.getD_eq_getElem?_getD,List.getElem?_eq_getElem hj]
   exact eu
theorem qkv (hu:X.A.units+8<cLine):OpR X (compareOp .NotIn) (qtF M X.K true):=by
 intro pins s σ H x y v u Q I rx ry hq212
 obtain ⟨B,t,p,vs,ts,le,ra,ey,hp,rs,o1,o2,q⟩:=hq212
 subst ey
 cases ry
 rcases hp with hp | hp
 ·obtain ⟨is,rv,pl,_⟩:=I.list (SqL.of hp)
  obtain ⟨e,h1,h2⟩:=qir hu I le ra rx o1 o2 rs rv
  exact SeqAt.notIn_listAt e pl.isList h1 (by rw[h2]; exact ⟨.bl _,H,I,rfl,q⟩)
 ·obtain ⟨is,rv,pl,_⟩:=I.tuple hp
  obtain ⟨e,h1,h2⟩:=qir hu I le ra rx o1 o2 rs rv
  exact SeqAt.notIn_tupleAt e pl h1 (by rw[h2]; exact ⟨.bl _,H,I,rfl,q⟩)
def qfN (neg:Bool) (t:T) (q:Bool×List T):Rs T:=if okT 7 t=true/\q.2.all (okT 7)=true then .ok (.bl (if neg then !q.2.any (λu=>eqT u t) else q.2.any (λu=>eqT u t))) else .no
def dIn (neg:Bool) (da:Ro->Rs T) (dq:Ro->Rs (Bool×List T)):Ro->Rs T:=λρ=>da ρ>>=λt=>dq ρ>>=λq=>qfN neg t q
theorem qoS {neg:Bool} (hK:X.K=M.K) {σ:St} {H:Hp} {Q:VK} (h:tP M (dIn neg da dq) σ H Q):tOp (qtF M X.K neg) (tP M da) (tQ M dq) σ H Q:=by
 obtain ⟨H0,B0,ρ,B,ev,w⟩:=h
 refine tP.of ev (Wnt.mono (Wnt.bind (qay.mp w)) λt w1 v H1 B1 g1 m1 r1=> ?_)
 have ev1:=ev.grow g1 m1
 refine tQ.of ev1 (Wnt.mono (Wnt.bind w1) λq w2 p vs H2 B2 g2 m2 hq r2=> ?_)
 have ev2:=ev1.grow g2 m2
 unfold qfN at w2
 split at w2
 ·rename_i hc
  refine ⟨B2,t,p,vs,q.2,ev2.bh,by rw[hK]; exact r1.mono g2.bb,rfl,?_,by rw[hK]; exact r2,hc.1,hc.2,w2 _ H2 B2 (g1.trans g2) m2 qds⟩
  split at hq
  ·exact .inl hq
  ·exact .inr (by rw[hK]; exact ev2.bh.sqT hq)
 ·exact w2.elim
theorem qfR (hu:X.A.units+8<cLine) (ha:DE M X a da) (hb:DQ M X b dq) (hm:behindInMarks .NotIn b=false:=by rfl) (hK:X.K=M.K:=by rfl):DT M X (.Compare a [.NotIn] [b] pos) (dTB (dIn true da dq)):=
 PT.weak (qev (qkv (M:=M) hu) ha hb hm) λ_ _ _ h=>qoS hK (qdP h)
end
end PL
end
section
namespace SetL
open PySem
def Ri (xs:Array Nat):Prop:=xs.toList.Pairwise (· < ·)
theorem Ri.lt {xs:Array Nat} (h:Ri xs) {i j:Nat} (hij:i<j) (hj:j<xs.size):xs.getD i 0<xs.getD j 0:=by
 have:=List.pairwise_iff_getElem.mp h i j (by rw[Array.length_toList]; lia) (by rw[Array.length_toList]; lia) hij
 simpa [Array.getD,hj,show i<xs.size by lia] using this
theorem qoT {xs:Array Nat} {j:Nat} (h:Ri xs): ∀(fuel lo hi:Nat),lo<=hi->hi<=xs.size->hi - lo<=fuel->(∀i,i<lo->xs.getD i 0<j)->(∀i,hi<=i->i<xs.size->j<=xs.getD i 0)->
  SetTable.below.go xs j fuel lo hi<=xs.size/\(∀i,i<SetTable.below.go xs j fuel lo hi->xs.getD i 0<j)/\∀i,SetTable.below.go xs j fuel lo hi<=i->i<xs.size->j<=xs.getD i 0
 | 0,lo,hi,h1,h2,h3,a,b=>by
  unfold SetTable.below.go
  exact ⟨by lia,a,λi hi'=>b i (by lia)⟩
 | fuel+1,lo,hi,h1,h2,h3,a,b=>by
  unfold SetTable.below.go
  by_cases c:lo<hi
  ·rw[if_pos c]
   dsimp only
   have hm:(lo+hi) / 2<xs.size:=by lia
   have em:xs.getD ((lo+hi) / 2) j=xs.getD ((lo+hi) / 2) 0:=by simp[Array.getD,hm]
   rw[em]
   by_cases d:xs.getD ((lo+hi) / 2) 0<j
   ·rw[if_pos d]
    refine qoT h fuel _ _ (by lia) h2 (by lia) (λi hi'=> ?_) b
    by_cases e:i=(lo+hi) / 2
    ·rw[e]; exact d
    ·have:=h.lt (i:=i) (j:=(lo+hi) / 2) (by lia) hm
     lia
   ·rw[if_neg d]
    refine qoT h fuel _ _ (by lia) (by lia) (by lia) a λi hi' hs=> ?_
    by_cases e:i=(lo+hi) / 2
    ·rw[e]; lia
    ·have:=h.lt (i:=(lo+hi) / 2) (j:=i) (by lia) hs
     lia
  ·rw[if_neg c]
   exact ⟨by lia,a,λi hi'=>b i (by lia)⟩
theorem qfW {xs:Array Nat} (h:Ri xs) (j:Nat):SetTable.below xs j<=xs.size/\(∀i,i<SetTable.below xs j->xs.getD i 0<j)/\∀i,SetTable.below xs j<=i->i<xs.size->j<=xs.getD i 0:=
 qoT h _ _ _ (Nat.zero_le _) (Nat.le_refl _) (by lia) (λi hi=>absurd hi (Nat.not_lt_zero _)) λi hi hs=>absurd hs (by lia)
theorem qjz {xs:Array Nat} (h:Ri xs) {i:Nat} (hi:i<xs.size):SetTable.below xs (xs.getD i 0+1)=i+1:=by
 obtain ⟨b1,b2,b3⟩:=qfW h (xs.getD i 0+1)
 rcases Nat.lt_trichotomy (SetTable.below xs (xs.getD i 0+1)) (i+1) with c | c | c
 ·have:=b3 i (by lia) hi; lia
 ·exact c
 ·have:=b2 (i+1) c
  have:=h.lt (i:=i) (j:=i+1) (by lia) (by lia)
  lia
theorem qjy {xs:Array Nat} (h:Ri xs):SetTable.below xs 0=0:=by
 obtain ⟨b1,b2,b3⟩:=qfW h 0
 by_cases c:SetTable.below xs 0=0
 ·exact c
 ·have:=b2 0 (by lia); lia
theorem qhn {α:Type} (xs:Array α) (p:Nat) (x:α) (hp:p<=xs.size):(SetTable.insertAt xs p x).toList=xs.toList.take p++x::xs.toList.drop p:=by
 unfold SetTable.insertAt
 rw[Array.toList_append,Array.toList_push,Array.toList_extract,Array.toList_extract]
 simp[List.extract_eq_drop_take]
 exact List.take_of_length_le (by rw[List.length_drop,Array.length_toList]; exact Nat.le_refl _)
theorem qk3 {xs:Array Nat} (h:Ri xs) {j:Nat} (hn:xs[SetTable.below xs j]? ≠some j):Ri (SetTable.insertAt xs (SetTable.below xs j) j):=by
 obtain ⟨b1,b2,b3⟩:=qfW h j
 unfold Ri
 rw[qhn _ _ _ b1]
 have g: ∀{i:Nat} (hi:i<xs.toList.length),xs.toList[i]=xs.getD i 0:=λ{i} hi=>by
  have:i<xs.size:=by rw[Array.length_toList] at hi; exact hi
  simp[Array.getD,this]
 have gt: ∀i,SetTable.below xs j<=i->i<xs.size->j<xs.getD i 0:=λi h1 h2=>by
  have e0:=b3 i h1 h2
  by_cases c:i=SetTable.below xs j
  ·have:xs[SetTable.below xs j]? =some (xs.getD (SetTable.below xs j) 0):=by
    have hs:SetTable.below xs j<xs.size:=by lia
    simp[Array.getD,hs]
   rw[this] at hn
   subst c
   have:xs.getD (SetTable.below xs j) 0≠j:=λz=>hn (by rw[z])
   lia
  ·have e1:=b3 (SetTable.below xs j) (Nat.le_refl _) (by lia)
   have:=h.lt (i:=SetTable.below xs j) (j:=i) (by lia) h2
   lia
 refine List.pairwise_append.mpr ⟨List.Pairwise.sublist (List.take_sublist _ _) h,List.pairwise_cons.mpr ⟨λy hy=> ?_,List.Pairwise.sublist (List.drop_sublist _ _) h⟩,λx hx y hy=> ?_⟩
 ·obtain ⟨k,hk,rfl⟩:=List.mem_iff_getElem.mp hy
  rw[List.getElem_drop,g]
  rw[List.length_drop,Array.length_toList] at hk
  exact gt _ (by lia) (by lia)
 ·obtain ⟨k,hk,rfl⟩:=List.mem_iff_getElem.mp hx
  rw[List.getElem_take,g]
  rw[List.length_take] at hk
  have a:=b2 k (by lia)
  rcases List.mem_cons.mp hy with z | z
  ·rw[z]; exact a
  ·obtain ⟨m,hm,rfl⟩:=List.mem_iff_getElem.mp z
   rw[List.getElem_drop,g]
   rw[List.length_drop,Array.length_toList] at hm
   have:=gt (SetTable.below xs j+m) (by lia) (by lia)
   lia
theorem qmk (n:Nat):Ri (Array.range n):=by
 unfold Ri
 rw[Array.toList_range]
 exact List.pairwise_lt_range
def qfc (t:SetTable):Prop:=Ri t.place/\t.dummies= #[]
theorem qja (a b:Nat) (l:Bool):qfc (.fresh a b l):=⟨List.Pairwise.nil,rfl⟩
theorem qcM (t:SetTable) (n:Nat):qfc (t.standIn n):=⟨qmk n,rfl⟩
theorem qi9 {t:SetTable} (h:qfc t) (b:Bool):qfc { t with plain:=b }:=h
theorem qk8 (j:Nat):SetTable.has #[] j=false:=rfl
theorem qj3 {t:SetTable} (h:qfc t) (j:Nat):t.slot j≠.dummy:=by
 unfold SetTable.slot
 dsimp only
 rw[h.2,qk8]
 split
 ·intro z; cases z
 ·rw[if_neg (by decide)]; intro z; cases z
theorem qh2 {t:SetTable} (h:qfc t) (ha:Nat->Int) (x:Int): ∀(fuel:Nat) (p:SetTable.Probe) (j:Nat) (d:Option Nat),p.dummy=none->SetTable.probe.go t ha x fuel p=some (.empty j d)->d=none/\t.slot j= .empty
 | 0,p,j,d,hp,e=>by unfold SetTable.probe.go at e; cases e
 | fuel+1,p,j,d,hp,e=>by
  have adv:(t.advance p).dummy=none:=by
   unfold SetTable.advance
   split
   ·exact hp
   ·exact hp
  unfold SetTable.probe.go at e
  split at e
  ·rename_i es
   cases e
   exact ⟨hp,es⟩
  ·rename_i es
   exact absurd es (qj3 h _)
  ·split at e
   ·cases e
   ·exact qh2 h ha x fuel _ j d adv e
theorem qi1 {t:SetTable} {j:Nat} (h:t.slot j= .empty):t.place[SetTable.below t.place j]? ≠some j:=by
 intro z
 unfold SetTable.slot at h
 dsimp only at h
 rw[z,if_pos (by simp)] at h
 cases h
theorem qmJ {t:SetTable} (h:qfc t) {j:Nat} (hj:t.slot j= .empty):qfc (t.put j).1:=by
 unfold SetTable.put
 refine ⟨qk3 h.1 (qi1 hj),?_⟩
 show (if SetTable.has t.dummies j=true then _ else t.dummies)= #[]
 rw[h.2,qk8,if_neg (by decide)]
theorem qgn {t:SetTable} (h:qfc t) (n:Nat):qfc (t.orStandIn n):=by
 unfold SetTable.orStandIn
 split
 ·exact h
 ·exact qcM _ _
theorem qmQ {t:SetTable} (h:qfc t) (es:Array (Int×Value)) (x:Int) (v:Value):qfc (layNew t es x v).2.1:=by
 unfold layNew
 split
 ·rename_i slot wd e
  unfold SetTable.freeSlot at e
  split at e
  ·rename_i j d e2
   obtain ⟨rfl,e3⟩:=qh2 h _ _ _ _ j d rfl e2
   cases e
   exact qgn (qmJ h e3) _
  ·cases e
 ·exact qcM _ _
theorem qik (ow:Array (Option Nat)): ∀l:List Nat,l.Pairwise (· < ·)->((l.filterMap λj=>(ow.getD j none).map (j, ·)).map (·.1)).Pairwise (· < ·)/\∀x∈((l.filterMap λj=>(ow.getD j none).map (j, ·)).map (·.1)),x∈l
 | [],_=>⟨List.Pairwise.nil,λ_ h=>by cases h⟩
 | y::l,h=>by
  have h':=List.pairwise_cons.mp h
  obtain ⟨i1,i2⟩:=qik ow l h'.2
  cases e:ow.getD y none with
  | none=>
   rw[List.filterMap_cons,e]
   exact ⟨i1,λx hx=>List.mem_cons_of_mem _ (i2 x hx)⟩
  | some k=>
   rw[List.filterMap_cons,e]
   dsimp only[Option.map]
   rw[List.map_cons]
   refine ⟨List.pairwise_cons.mpr ⟨λx hx=>h'.1 x (i2 x hx),i1⟩,λx hx=> ?_⟩
   rcases List.mem_cons.mp hx with z | z
   ·rw[z]; exact List.mem_cons_self
   ·exact List.mem_cons_of_mem _ (i2 x z)
theorem qg8 {t t':SetTable} {hs:Array Int} {n:Nat} {o:Array Nat} (e:t.relaid hs n=some (t',o)):qfc t':=by
 unfold SetTable.relaid SetTable.laid at e
 cases q:SetTable.layClean (SetTable.sizeAbove n - 1) hs with
 | none=>rw[q] at e; cases e
 | some ow=>
  rw[q] at e
  have e':=Option.some.inj e
  have e1:=(Prod.mk.inj e').1
  subst e1
  exact ⟨(qik ow _ List.pairwise_lt_range).1,rfl⟩
theorem qi3 (t:SetTable) (es:Array (Int×Value)) (n:Nat):qfc (relayAll t es n).2.1:=by
 unfold relayAll
 split
 ·rename_i t' o e
  dsimp only
  split
  ·exact qg8 e
  ·exact qcM _ _
 ·exact qcM _ _
end SetL
end
section
namespace SetL
open PySem
theorem qhe {t:SetTable} {n:Nat}:(t.orStandIn n).led=t.led:=by
 unfold SetTable.orStandIn
 split<;>rfl
theorem qoN {t:SetTable} {es:Array (Int×Value)} {h:Int} {x:Value}:(layNew t es h x).2.1.led=t.led:=by
 unfold layNew
 split
 ·exact qhe
 ·rfl
theorem qi4 {t t':SetTable} {hs:Array Int} {n:Nat} {o:Array Nat} (e:t.relaid hs n=some (t',o)):t'.led=t.led:=by
 unfold SetTable.relaid SetTable.laid at e
 cases q:SetTable.layClean (SetTable.sizeAbove n - 1) hs with
 | none=>rw[q] at e; cases e
 | some ow=>
  rw[q] at e
  have e':=Option.some.inj e
  exact (congrArg (λp:SetTable×Array Nat=>p.1.led) e').symm
theorem qkg {t:SetTable} {es:Array (Int×Value)} {n:Nat}:(relayAll t es n).2.1.led=t.led:=by
 unfold relayAll
 split
 ·rename_i t' o e
  dsimp only
  split
  ·exact qi4 e
  ·rfl
 ·rfl
section
variable {prog:Program} {w:World} {K:Type} [DecidableEq K] (knd:KeyKind prog w K)
def qjC (h:Heap) (a:Addr) (S:K->Bool) (n:Nat):Prop:=
 ∃o es ep t,h.get? a=some o/\o.ExactSet/\o.data= .set es ep t/\ElemsOf knd es.toList/\(∀k,S k=true↔∃e∈es.toList,knd.is k e.2=true)/\es.size<scanBound/\t.fits es.size=true/\es.size=n/\qfc t/\t.led= !w.params.followText "set-order"
variable {knd} {A:Around} {E:Value->Shared->Prop} {s:Shared}
theorem qjC.keep {h h':Heap} {a:Addr} {S:K->Bool} {n:Nat} (x:qjC knd h a S n) (k: ∀o,h.get? a=some o->h'.get? a=some o):qjC knd h' a S n:=
 let ⟨o,es,ep,t,ho,r⟩:=x
 ⟨o,es,ep,t,k _ ho,r⟩
theorem qlc (b:Bool) {s₁:Shared} {Q':Unit->Shared->Prop} (hq:Q' () s₁):wpAny (model prog w) A (match b with | true=>rule "set.scan.the-table-gave-way" | false=>pure ()) Q' E s₁:=by
 cases b with
 | true=>exact wpAny_rule hq
 | false=>exact wpAny_pure hq
theorem qjW {a:Addr} {o:Obj} {es es':Array (Int×Value)} {ep:Nat} {t t':SetTable} {S':K->Bool} {Q:Unit->Shared->Prop} (ho:s.heap.get? a=some o) (hx:o.ExactSet) (hd:o.data= .set es ep t) (el:ElemsOf knd es'.toList)
  (me: ∀k,S' k=true↔∃e∈es'.toList,knd.is k e.2=true) (hb:es'.size<scanBound) (hf:t'.fits es'.size=true) (hp:qfc t') (hl:t'.led= !w.params.followText "set-order")
  (h: ∀h',Heap.SameBut a s.heap h'->h'.get? a=some { o with data:=.set es' (ep+1) t' }->qjC knd h' a S' es'.size->Q () { s with heap:=h' }):wpAny (model prog w) A (storeSet a es' t') Q E s:=by
 refine wpAny_storeSet_of ho hd ?_ (fits_of_scanBound hb)
 obtain ⟨g,_⟩:=SetOf_store (knd:=knd) ho hx hd el me hb hf
 exact h _ (Heap.SameBut.update s.heap a _) g ⟨_,es',ep+1,t',g,hx,rfl,el,me,hb,hf,rfl,hp,hl⟩
theorem qtu {a:Addr} {S:K->Bool} {n:Nat} {k:K} {x:Value} {Q:Bool->Shared->Prop} (hk:knd.is k x=true) (hsc:x.scannable=true) (hS:qjC knd s.heap a S n) (room:n+1<scanBound)
  (h: ∀h',Heap.SameBut a s.heap h'->qjC knd h' a (λk'=>S k'||decide (k'=k)) (if S k then n else n+1)->Q (!S k) { s with heap:=h' }):wpAny (model prog w) A (setAddHashed a x (knd.hash k)) Q E s:=by
 obtain ⟨o,es,ep,t,ho,hx,hd,el,me,hb,hf,hn,pl,ld⟩:=hS
 unfold setAddHashed setAddHashedIn
 refine wpAny_holding (wpAny_bind (wpAny_setState_of ho hd hf ?_))
 dsimp only
 rw[byScan_of hsc hb el,if_pos rfl]
 unfold setAddByScan
 refine wpAny_bind (wpAny_bind (wpAny_rule (wpAny_bind (wpAny_setScan_of hk ho hd hf el ?_))))
 cases fr:List.findIdx? (λe=>knd.is k e.2) es.toList with
 | some j=>
  obtain ⟨hj,pj,_⟩:=List.findIdx?_eq_some_iff_getElem.mp fr
  have Sk:S k=true:=(me k).mpr ⟨_,List.getElem_mem hj,pj⟩
  refine wpAny_pure (wpAny_pure ?_)
  have z:=h s.heap (Heap.SameBut.refl a s.heap) ⟨o,es,ep,t,ho,hx,hd,el,λk'=> ?_,hb,hf,by rw[if_pos Sk]; exact hn,pl,ld⟩
  ·rw[Sk] at z
   exact z
  ·rw[Bool.or_eq_true,decide_eq_true_eq,<-me k']
   exact ⟨λq=>q.elim id λe=>by rw[e]; exact Sk,.inl⟩
 | none=>
  have Sk:S k=false:=by
   cases q:S k with
   | false=>rfl
   | true=>
    obtain ⟨e,he,p⟩:=(me k).mp q
    rw[List.findIdx?_eq_none_iff.mp fr e he] at p
    cases p
  have pm:=layNew_perm t es (knd.hash k) x
  have ft:=layNew_fits t es (knd.hash k) x
  have lp:=qmQ pl es (knd.hash k) x
  have ll:=qoN (es:=es) (h:=knd.hash k) (x:=x) (t:=t)
  generalize layNew t es (knd.hash k) x=L at pm ft lp ll⊢
  obtain ⟨es1,t1,wd,gv⟩:=L
  dsimp only at pm ft lp ll⊢
  rw[Array.toList_push] at pm
  have el1:ElemsOf knd es1.toList:=(el.push hk hsc).perm pm
  have me1:=mem_push_iff (S:=S) hk me pm
  have sz:es1.size=n+1:=by rw[<-Array.length_toList,pm.length_eq,List.length_append,Array.length_toList,hn]; rfl
  refine wpAny_bind (qlc _ ?_)
  have go: ∀t2:SetTable,t2.fits es1.size=true->qfc t2->t2.led=(!w.params.followText "set-order")->wpAny (model prog w) A (do
    storeSet a es1 t2
    if (!wd&&t2.tooFull)=true then do
     (match (relayAll t2 es1 (SetTable.grown es1.size)).2.2 with | true=>rule "set.scan.the-table-gave-way" | false=>pure ())
     storeSet a (relayAll t2 es1 (SetTable.grown es1.size)).1 (relayAll t2 es1 (SetTable.grown es1.size)).2.1
     pure (some true)
    else pure (some true):Sem (Option Bool)) (λr s'=> ∃h',s'={ s with heap:=h' }/\r=some true/\Q true { s with heap:=h' }) E s:=λt2 f2 p2 l2=>by
   refine wpAny_bind (qjW (knd:=knd) (S':=λk'=>S k'||decide (k'=k)) ho hx hd el1 me1 (by lia) f2 p2 l2 λh1 sb g1 S1=> ?_)
   split
   ·have pm2:=relayAll_perm t2 es1 (SetTable.grown es1.size)
    have ft2:=relayAll_fits t2 es1 (SetTable.grown es1.size)
    have rp:=qi3 t2 es1 (SetTable.grown es1.size)
    have rl:=qkg (es:=es1) (n:=SetTable.grown es1.size) (t:=t2)
    generalize relayAll t2 es1 (SetTable.grown es1.size)=R at pm2 ft2 rp rl⊢
    obtain ⟨es2,t3,g2⟩:=R
    dsimp only at pm2 ft2 rp rl⊢
    have sz2:es2.size=es1.size:=by rw[<-Array.length_toList,pm2.length_eq,Array.length_toList]
    refine wpAny_bind (qlc _ (wpAny_bind (qjW (knd:=knd) (S':=λk'=>S k'||decide (k'=k)) (s:={ s with heap:=h1 }) g1 hx rfl (el1.perm pm2) (λk'=>(me1 k').trans ⟨λ⟨e,he,q⟩=>⟨e,pm2.mem_iff.mpr he,q⟩,λ⟨e,he,q⟩=>⟨e,pm2.mem_iff.mp he,q⟩⟩) (by lia) ft2 rp (rl.trans l2) λh2 sb2 _ S2=> ?_)))
    have z:=h h2 (sb.trans sb2) (by rw[Sk,if_neg (by decide)]; rw[sz2,sz] at S2; exact S2)
    rw[Sk] at z
    exact wpAny_pure ⟨h2,rfl,rfl,z⟩
   ·have z:=h h1 sb (by rw[Sk,if_neg (by decide)]; rw[sz] at S1; exact S1)
    rw[Sk] at z
    exact wpAny_pure ⟨h1,rfl,rfl,z⟩
  have both: ∀c:Bool,wpAny (model prog w) A (do
    let t2:SetTable:=if c=true then t1 else { t1 with plain:=false }
    storeSet a es1 t2
    if (!wd&&t2.tooFull)=true then do
     (match (relayAll t2 es1 (SetTable.grown es1.size)).2.2 with | true=>rule "set.scan.the-table-gave-way" | false=>pure ())
     storeSet a (relayAll t2 es1 (SetTable.grown es1.size)).1 (relayAll t2 es1 (SetTable.grown es1.size)).2.1
     pure (some true)
    else pure (some true):Sem (Option Bool)) (λr s'=> ∃h',s'={ s with heap:=h' }/\r=some true/\Q true { s with heap:=h' }) E s:=λc=>by
   cases c with
   | true=>exact go t1 ft lp (ll.trans ld)
   | false=>exact go { t1 with plain:=false } (SetTable.fits_plain_off ft) (qi9 lp false) (ll.trans ld)
  by_cases tp:t1.plain=true
  ·rw[if_pos tp,hashByValue_scannable 8 hsc]
   refine wpAny_bind (wpAny_pure ?_)
   refine wpAny_mono (both (plainKind x)) (λr s' ⟨h',e1,e2,q⟩=> ?_) λ_ _ z=>z
   subst e1 e2
   exact wpAny_pure q
  ·rw[if_neg tp]
   refine wpAny_bind (wpAny_pure ?_)
   refine wpAny_mono (both true) (λr s' ⟨h',e1,e2,q⟩=> ?_) λ_ _ z=>z
   subst e1 e2
   exact wpAny_pure q
end
end SetL
end
section
namespace SetL
open PySem
theorem qlH {M:Model} {A:Around} {E:Value->Shared->Prop} {s:Shared} {src:Source} {n:Nat} {Q:Nat->Shared->Prop} (hn:n≠0) (h: ∀i d,i<n->Q i { s with drawn:=d }):wpAny M A (choose src n) Q E s:=
 λΓ p hΓ=>⟨hn,h _ _ (Nat.mod_lt _ (Nat.pos_of_ne_zero hn))⟩
theorem qdR {α:Type}: ∀{xs:List α} {i:Nat} {x:α},xs[i]? =some x->List.Perm (x::xs.eraseIdx i) xs
 | [],i,x,h=>by simp at h
 | y::ys,0,x,h=>by
  simp at h; subst h
  exact List.Perm.refl _
 | y::ys,i+1,x,h=>by
  have:=qdR (xs:=ys) (i:=i) (x:=x) (by simpa using h)
  exact (List.Perm.swap y x _).trans (this.cons y)
theorem qlq {M:Model} {A:Around} {E:Value->Shared->Prop} {α:Type}: ∀(n:Nat) (xs:List α) (s:Shared) (Q:List α->Shared->Prop),xs.length=n->(∀ys d,List.Perm ys xs->Q ys { s with drawn:=d })->wpAny M A (drawOrder n xs) Q E s
 | 0,xs,s,Q,hl,h=>by
  have e:xs=[]:=List.length_eq_zero_iff.mp hl
  subst e
  exact wpAny_pure (h [] s.drawn (List.Perm.refl _))
 | n+1,[],s,Q,hl,h=>by cases hl
 | n+1,x::xs,s,Q,hl,h=>by
  unfold drawOrder
  refine wpAny_bind (qlH (by simp) λi d hi=> ?_)
  obtain ⟨y,hy⟩: ∃y,(x::xs)[i]? =some y:=⟨_,List.getElem?_eq_getElem hi⟩
  rw[hy]
  have hp:=qdR hy
  refine wpAny_bind (qlq n _ _ _ ?_ λys d' pm=>wpAny_pure (h (y::ys) d' ((pm.cons y).trans hp)))
  have:=hp.length_eq
  simp only[List.length_cons] at this hl⊢
  lia
theorem qgh {α:Type} (next:Nat->Nat): ∀(fuel k:Nat) (left:List α) (out:Array α),left.length=fuel->List.Perm (pickOrder.go next fuel k left out).toList (out.toList++left)
 | 0,k,left,out,h=>by
  have e:left=[]:=List.length_eq_zero_iff.mp h
  subst e
  simp[pickOrder.go]
 | n+1,k,left,out,h=>by
  unfold pickOrder.go
  have hlt:next k % left.length<left.length:=Nat.mod_lt _ (by lia)
  rw[List.getElem?_eq_getElem hlt]
  dsimp only
  have hp:=qdR (List.getElem?_eq_getElem hlt)
  have hl:=hp.length_eq
  simp only[List.length_cons] at hl
  refine (qgh next n (k+1) _ _ (by lia)).trans ?_
  rw[Array.toList_push,List.append_assoc]
  exact List.Perm.append_left _ hp
theorem qe2 {α:Type} (next:Nat->Nat) (xs:Array α):List.Perm (pickOrder next xs).toList xs.toList:=by
 unfold pickOrder
 have:=qgh next xs.size 0 xs.toList #[] (by simp)
 simpa using this
def qhm (first:Value) (i:Nat) (a:Addr) (n ep:Nat):Obj:={ cls:=.type "set_iterator",data:=.fields #[first,rawInt i,.ref a,rawInt n,rawInt ep] }
inductive Way (w:World) (h:Heap) (a:Addr) (es:Array (Int×Value)) (ep:Nat) (t:SetTable):List Addr->(Nat->Value)->List Value->Prop
 | drawn {tp:Addr} {ot:Obj} {pl:List Nat} {k:Nat}:h.get? tp=some ot->ot.data= .seq (List.toArray (pl.map λ(i:Nat)=>rawInt i)) k->(∀i∈pl,i<es.size)->Way w h a es ep t [tp] (λ_=>.ref tp) (pl.map λi=>(es.toList.map (·.2)).getD i .none)
 | text:w.params.followText "set-order" =true->Way w h a es ep t [] (λ_=>rawInt 0) ((pickOrder (w.params.setOrder a ep) es).toList.map (·.2))
 | small:w.params.followText "set-order" =false->(!t.plain&&decide (es.size>1))=false->t.led=true->qfc t->Way w h a es ep t [] (λi=>if i=0 then rawInt 0 else rawInt (t.place.getD (i - 1) 0+1:Nat)) (es.toList.map (·.2))
theorem Way.keep {w:World} {h h':Heap} {a:Addr} {es:Array (Int×Value)} {ep:Nat} {t:SetTable} {tl:List Addr} {f:Nat->Value} {vs:List Value} (x:Way w h a es ep t tl f vs) (k: ∀b∈tl,∀o,h.get? b=some o->h'.get? b=some o):Way w h' a es ep t tl f vs:=by
 cases x with
 | drawn e d b=>exact .drawn (k _ (List.mem_singleton.mpr rfl) _ e) d b
 | text e=>exact .text e
 | small e1 e2 e3 e4=>exact .small e1 e2 e3 e4
theorem qdk:Slot "set_iterator" "__next__" "set_iterator.__next__" :=
 .of (owner:= "set_iterator") (n:= "__next__") (by rw[typeLookup_type,builtinLookup_eq_fast]; kernel_rfl) (by decide+kernel) (by decide+kernel)
  (by decide+kernel) (by first | exact .inl (by decide+kernel) | exact .inr (by decide+kernel)) (by rw[isSubtype_type]; kernel_rfl)
theorem qf5:Slot "set_iterator" "__iter__" "set_iterator.__iter__" :=
 .of (owner:= "set_iterator") (n:= "__iter__") (by rw[typeLookup_type,builtinLookup_eq_fast]; kernel_rfl) (by decide+kernel) (by decide+kernel)
  (by decide+kernel) (by first | exact .inl (by decide+kernel) | exact .inr (by decide+kernel)) (by rw[isSubtype_type]; kernel_rfl)
theorem qjk:entryFor table "set_iterator.__next__" =some Builtin.«set_iterator.__next__» :=entryFor_of_fast (by kernel_rfl)
theorem qfP:entryFor table "set.__iter__" =some Builtin.«frozenset.__iter__» :=
 entryFor_alias (id':= "frozenset.__iter__") (by kernel_rfl) rfl (by decide+kernel) (by kernel_rfl)
theorem qlR (a:Value):argsOk "set_iterator.__next__" ⟨[a],[]⟩:=by
 unfold argsOk; kernel_rfl
section
variable {prog:Program} {w:World} {A:Around} {E:Value->Shared->Prop} {s:Shared}
theorem qg2 {Q:Bool->Shared->Prop} (h:Q (w.params.followText "set-order") s):wpAny (model prog w) A setsByText Q E s:=by
 unfold setsByText
 exact wpAny_bind (wpAny_askSetting (wpAny_pure h))
theorem qjl {a:Addr} {o:Obj} {es:Array (Int×Value)} {ep:Nat} {t:SetTable} {Q:Nat->Shared->Prop} (ho:s.heap.get? a=some o) (hd:o.data= .set es ep t) (hf:t.fits es.size=true) (h:Q es.size s):wpAny (model prog w) A (Builtin.Frozenset.sizeOf a) Q E s:=by
 unfold Builtin.Frozenset.sizeOf
 exact wpAny_bind (wpAny_setEntries_of ho hd hf (wpAny_pure h))
theorem qnd {a:Addr} {o:Obj} {es:Array (Int×Value)} {ep:Nat} {t:SetTable} {Q:Bool->Shared->Prop} (ho:s.heap.get? a=some o) (hd:o.data= .set es ep t) (hf:t.fits es.size=true) (h:Q (!w.params.followText "set-order" &&(!t.plain&&decide (es.size>1))) s):wpAny (model prog w) A (setDrawn a) Q E s:=by
 unfold setDrawn
 exact wpAny_bind (wpAny_setState_of ho hd hf (wpAny_bind (qg2 (wpAny_pure h))))
theorem qmV {a:Addr} {o:Obj} {es:Array (Int×Value)} {ep:Nat} {t:SetTable} {Q:Value->Shared->Prop} (ho:s.heap.get? a=some o) (hx:o.ExactSet) (hd:o.data= .set es ep t) (hf:t.fits es.size=true) (hb:es.size<scanBound) (pl:qfc t) (ld:t.led= !w.params.followText "set-order")
  (h: ∀(it:Addr) (h':Heap) (d:Drawn) (tl:List Addr) (f:Nat->Value) (vs:List Value),s.heap.objs.size<=it->(∀b∈tl,s.heap.objs.size<=b/\b≠it)->(∀b u,s.heap.get? b=some u->h'.get? b=some u)->h'.get? it=some (qhm (f 0) 0 a es.size ep)->Way w h' a es ep t tl f vs->List.Perm vs (es.toList.map (·.2))->
   Q (.ref it) { s with heap:=h',drawn:=d }):wpAny (model prog w) A (pyIter (.ref a)) Q E s:=by
 have ty:s.TypeIs (.ref a) "set" :=⟨o,ho,hx.1⟩
 refine wpAny_pyIter_slot ty PySem.F.slot_set_iter (wpAny_call_entry PySem.F.slot_set_iter ty qfP ?_ (PySem.F.args_set_iter_1 _))
 unfold Builtin.«frozenset.__iter__» Builtin.Frozenset.slot0 slotArgs
 refine wpAny_bind (wpAny_pure (wpAny_bind (qjl ho hd hf ?_)))
 refine wpAny_bind (qnd ho hd hf ?_)
 have fin: ∀(s1:Shared) (first:Value) (tl:List Addr) (f:Nat->Value) (vs:List Value),s1.gens=s.gens->s1.os=s.os->s1.toks=s.toks->s.heap.objs.size<=s1.heap.objs.size->(∀b u,s.heap.get? b=some u->s1.heap.get? b=some u)->(∀b∈tl,s.heap.objs.size<=b/\b<s1.heap.objs.size)->f 0=first->(∀h',(∀b u,s1.heap.get? b=some u->h'.get? b=some u)->Way w h' a es ep t tl f vs)->List.Perm vs (es.toList.map (·.2))->
   wpAny (model prog w) A.in1 (do ret (<-newFields "set_iterator" [first,rawInt 0,.ref a,rawInt (es.size:Nat),rawInt (<-setEpoch a)])) (λr s'=> ∃v,r= .done (.ret v)/\∃(T':String) (r':Value),s'.TypeIs v T'/\typeLookup (.type T') "__next__" =pure (some r')/\Q v s') E s1:=λs1 first tl f vs e1 e2 e3 sz kp tb ef wy pm=>by
  refine wpAny_bind (wpAny_setEpoch_of (kp _ _ ho) hd hf ?_)
  refine wpAny_bind (wpAny_newObj_type ?_ (by size_fits))
  refine wpAny_pure ⟨_,rfl, "set_iterator",_,⟨_,Heap.get?_push_size _ rfl,rfl⟩,qdk.lookup,?_⟩
  have kp2: ∀b u,s1.heap.get? b=some u->(s1.heap.push (qhm first 0 a es.size ep)).get? b=some u:=λb u q=>Heap.get?_push_of_some _ q
  have:=h s1.heap.objs.size (s1.heap.push (qhm first 0 a es.size ep)) s1.drawn tl f vs sz (λb hb=>⟨(tb b hb).1,Nat.ne_of_lt (tb b hb).2⟩) (λb u q=>kp2 b u (kp b u q)) (by rw[ef]; exact Heap.get?_push_size _ rfl) (wy _ kp2) pm
  obtain ⟨hh,g,d,tk,os⟩:=s1
  dsimp only at e1 e2 e3 this⊢
  subst e1 e2 e3
  exact this
 have hall: ∀{α:Type} (d:α) (l:List α),(List.range l.length).map (λi=>l.getD i d)=l:=λd l=>by
  apply List.ext_getElem
  ·simp
  ·intro i h1 h2
   simp[List.getElem?_eq_getElem h2]
 cases bt:w.params.followText "set-order" with
 | true=>
  rw[if_neg (by simp)]
  refine wpAny_bind (wpAny_pure ?_)
  refine fin s (rawInt 0) [] (λ_=>rawInt 0) _ rfl rfl rfl (Nat.le_refl _) (λ_ _ q=>q) (λb hb=>nomatch hb) rfl (λh' _=>.text bt) ?_
  exact (qe2 _ _).map _
 | false=>
  by_cases h1:(!t.plain&&decide (es.size>1))=true
  ·rw[if_pos (by rw[h1]; rfl)]
   refine wpAny_bind (qlq es.size (List.range es.size) s _ (by simp) λys d pm=> ?_)
   refine wpAny_bind (wpAny_newObj_type ?_ (by
    have:=pm.length_eq
    have h2:scanBound=4096:=rfl
    show (List.toArray (ys.map λ(i:Nat)=>rawInt i)).size<=sizeLine
    rw[List.size_toArray,List.length_map,this,List.length_range,sizeLine_eq]
    lia))
   refine fin _ (.ref s.heap.objs.size) [s.heap.objs.size] (λ_=>.ref s.heap.objs.size) (ys.map λi=>(es.toList.map (·.2)).getD i .none) rfl rfl rfl (by show _<=(s.heap.push _).objs.size; rw[Heap.size_push]; exact Nat.le_succ _) (λb u q=>Heap.get?_push_of_some _ q) (λb hb=> ?_) rfl (λh' kp=> ?_) ?_
   ·rw[List.mem_singleton.mp hb]
    refine ⟨Nat.le_refl _,?_⟩
    show _<(s.heap.push _).objs.size
    rw[Heap.size_push]; exact Nat.lt_succ_self _
   ·refine .drawn (kp _ _ (Heap.get?_push_size _ rfl)) rfl λi hi=> ?_
    have:=pm.mem_iff.mp hi
    simpa using this
   ·have q:=pm.map λi=>(es.toList.map (·.2)).getD i Value.none
    have e:es.size=(es.toList.map (·.2)).length:=by simp
    rw[e,hall] at q
    exact q
  ·have h1':(!t.plain&&decide (es.size>1))=false:=by simpa using h1
   rw[if_neg (by rw[h1']; decide)]
   refine wpAny_bind (wpAny_pure ?_)
   exact fin s (rawInt 0) [] _ _ rfl rfl rfl (Nat.le_refl _) (λ_ _ q=>q) (λb hb=>nomatch hb) (if_pos rfl) (λh' _=>.small bt h1' (by rw[ld,bt]; rfl) pl) (List.Perm.refl _)
end
end SetL
end
section
namespace SetL
open PySem
section
variable {prog:Program} {w:World} {A:Around} {E:Value->Shared->Prop} {s:Shared} {it a:Addr} {o:Obj} {es:Array (Int×Value)} {ep:Nat} {t:SetTable} {tl:List Addr} {f:Nat->Value} {vs:List Value}
theorem qoG {i:Nat} {slot:Nat} {Q:Option (Value×Nat)->Shared->Prop} (ho:s.heap.get? a=some o) (hd:o.data= .set es ep t) (hf:t.fits es.size=true) (W:Way w s.heap a es ep t tl f vs) (hs:f i=rawInt (slot:Nat)) (hi:i<=vs.length)
  (h:Q (vs[i]?.map λv=>(v,if w.params.followText "set-order" =true then slot else t.place.getD i 0+1)) s):wpAny (model prog w) A (setNext a slot i ep) Q E s:=by
 unfold setNext
 refine wpAny_bind (wpAny_setState_of ho hd hf ?_)
 dsimp only
 refine wpAny_bind (qg2 ?_)
 cases W with
 | drawn _ _ _=>cases hs
 | text e=>
  rw[if_pos e,if_neg (by simp)]
  refine wpAny_bind ?_
  unfold setWalk
  refine wpAny_bind (wpAny_setState_of ho hd hf ?_)
  dsimp only
  refine wpAny_bind (qg2 ?_)
  rw[if_pos e]
  refine wpAny_bind (wpAny_askSetting (wpAny_pure (wpAny_pure ?_)))
  have e2:(if w.params.followText "set-order" =true then slot else t.place.getD i 0+1)=slot:=if_pos e
  rw[e2] at h
  have e3:((pickOrder (w.params.setOrder a ep) es).toList.map (·.2))[i]?.map (λv=>(v,slot))=((pickOrder (w.params.setOrder a ep) es)[i]?).map λe=>(e.2,slot):=by
   rw[List.getElem?_map,Array.getElem?_toList,Option.map_map]
   rfl
  rw[e3] at h
  exact h
 | small e ndr hl hft=>
  rw[e,if_neg (by decide)]
  split
  ·rename_i z
   have z':(!t.plain&&decide (es.size>1))=true:=z
   rw[ndr] at z'; cases z'
  have led:(!t.led&& !es.isEmpty)=false:=by rw[hl]; rfl
  refine wpAny_bind ?_
  show wpAny _ _ (if (!t.led&& !es.isEmpty)=true then _ else _) _ _ _
  rw[if_neg (by rw[led]; decide)]
  refine wpAny_pure (wpAny_pure ?_)
  have e2:(if w.params.followText "set-order" =true then slot else t.place.getD i 0+1)=t.place.getD i 0+1:=if_neg (by rw[e]; decide)
  rw[e2] at h
  have psz:t.place.size=es.size:=by
   have:=hf
   simp only[SetTable.fits,Bool.and_eq_true,beq_iff_eq] at this
   exact this.1
  have hi':i<=es.size:=by simpa using hi
  have eb:SetTable.below t.place slot=i:=by
   cases i with
   | zero=>
    have:slot=0:=by
     have hs':rawInt 0=rawInt (slot:Nat):=by simpa using hs
     unfold rawInt at hs'
     injection hs' with q _
     lia
    rw[this]; exact qjy hft.1
   | succ i=>
    have:slot=t.place.getD i 0+1:=by
     have hs':rawInt ((t.place.getD i 0+1:Nat):Int)=rawInt (slot:Nat):=by simpa using hs
     unfold rawInt at hs'
     injection hs' with q _
     lia
    rw[this]; exact qjz hft.1 (by lia)
  have e3:((es.toList.map (·.2))[i]?.map λv=>(v,t.place.getD i 0+1))=(es[i]?).map λe=>(e.2,t.place.getD i 0+1):=by
   rw[List.getElem?_map,Array.getElem?_toList,Option.map_map]
   rfl
  rw[e3] at h
  rw[eb]
  by_cases c:i<es.size
  ·have c1:es[i]? =some es[i]:=by simp[c]
   have c2:t.place[i]? =some (t.place.getD i 0):=by simp[Array.getD,psz,c]
   rw[c1] at h⊢
   rw[c2]
   exact h
  ·have c1:es[i]? =none:=by simp; lia
   rw[c1] at h⊢
   exact h
theorem qog {Q:Option Value->Shared->Prop} (hh:A.handled=none) {s:Shared} (h: ∀h',(∀b u,s.heap.get? b=some u->h'.get? b=some u)->Q none { s with heap:=h' }):
  wpAny (model prog w) A.in1 (do raiseNew (<-newExc (.type "StopIteration") []):Sem Fin) (λr s'=> ∃v,r=Fin.done (.ret v)/\Q (some v) s') (λe s'=>wpAny (model prog w) A (do if <-isInstance e (.type "StopIteration") then pure none else throw e) Q E s') s:=by
 refine wpAny_bind ?_
 simp only[newExc,newTuple]
 refine wpAny_bind (wpAny_newObj_type ?_ (by size_fits))
 refine wpAny_bind (m:=firstArgMember _ _) (wpAny_of_eq (a:=Value.none) (by first | rfl | (simp only[firstArgMember]; rfl)) ?_)
 refine wpAny_newObj_type ?_ (by size_fits)
 simp only[raiseNew]
 refine wpAny_bind (wpAny_handled ?_)
 rw[show A.in1.handled=none from hh]
 refine wpAny_bind (wpAny_pure (wpAny_throw ?_))
 refine wpAny_bind (wpAny_isInstance (T:= "StopIteration") (b:=true) ⟨_,Heap.get?_push_size _ rfl,rfl⟩ isSubtype_stop ?_)
 exact wpAny_pure (h _ λb u q=>Heap.get?_push_of_some _ (Heap.get?_push_of_some _ q))
theorem qit {first:Value} {i n:Nat} {j:Nat} {x:Value} {h:Heap} (ho:h.get? it=some (qhm first i a n ep)):(h.update it (Obj.mapFields (·.setIfInBounds j x))).get? it=some { cls:=.type "set_iterator",data:=.fields (#[first,rawInt i,.ref a,rawInt n,rawInt ep].setIfInBounds j x) }:=
 Heap.get?_update_self _ ho rfl
theorem qjH {i:Nat} {Q:Option Value->Shared->Prop} (hh:A.handled=none) (hne:a≠it) (htl:it∉tl) (hit:s.heap.get? it=some (qhm (f i) i a es.size ep)) (ho:s.heap.get? a=some o) (hd:o.data= .set es ep t) (hf:t.fits es.size=true) (W:Way w s.heap a es ep t tl f vs) (hv:vs.length=es.size) (hi:i<=vs.length)
  (h1: ∀v h',vs[i]? =some v->Heap.SameBut it s.heap h'->h'.get? it=some (qhm (f (i+1)) (i+1) a es.size ep)->Q (some v) { s with heap:=h' })
  (h0: ∀h',vs[i]? =none->(∀b u,b≠it->s.heap.get? b=some u->h'.get? b=some u)->Q none { s with heap:=h' }):wpAny (model prog w) A (pyNext (.ref it)) Q E s:=by
 have ty:s.TypeIs (.ref it) "set_iterator" :=⟨_,hit,rfl⟩
 unfold pyNext
 refine wpAny_bind (wpAny_attempt (wpAny_callSpecial?_slot (name:=Str.ofString "__next__") ty qdk (wpAny_call_entry qdk ty qjk ?_ (qlR _))))
 unfold Builtin.«set_iterator.__next__» slotArgs
 refine wpAny_bind (wpAny_pure (wpAny_bind (wpAny_fieldsOf hit rfl ?_)))
 refine wpAny_bind (wpAny_setEntries_of ho hd hf ?_)
 dsimp only
 rw[if_neg (by simp)]
 have one: ∀(v:Value) (s2:Shared),Q (some v) s2->∃v',Fin.done (Flow.ret v)=Fin.done (Flow.ret v')/\wpAny (model prog w) A (match (Except.ok (some v'):Except Value (Option Value)) with
      | Except.ok (some v)=>pure (some v)
      | Except.ok none=>unsupported "iter:the-iterator's-class-has-lost-its-__next__-amid-the-walk"
      | Except.error e=>do
       let b <-isInstance e (Value.type "StopIteration")
       if b=true then pure none else throw e) Q E s2:=λv s2 q=>⟨v,rfl,wpAny_pure q⟩
 have stop: ∀s2:Shared,(∀h',(∀b u,s2.heap.get? b=some u->h'.get? b=some u)->Q none { s2 with heap:=h' })->wpAny (model prog w) A.in1 (do raiseNew (<-newExc (.type "StopIteration") []):Sem Fin) (λfin s'=> ∃v,fin=Fin.done (Flow.ret v)/\wpAny (model prog w) A (match (Except.ok (some v):Except Value (Option Value)) with
      | Except.ok (some v)=>pure (some v)
      | Except.ok none=>unsupported "iter:the-iterator's-class-has-lost-its-__next__-amid-the-walk"
      | Except.error e=>do
       let b <-isInstance e (Value.type "StopIteration")
       if b=true then pure none else throw e) Q E s') (λe s'=>wpAny (model prog w) A (do
       let b <-isInstance e (Value.type "StopIteration")
       if b=true then pure none else throw e) Q E s') s2:=λs2 q=>wpAny_mono (qog (Q:=Q) (E:=E) hh q) (λr s' ⟨v,e,q'⟩=>⟨v,e,wpAny_pure q'⟩) λ_ _ z=>z
 have byInt: ∀slot:Nat,f i=rawInt (slot:Nat)->(∀v,vs[i]? =some v->f (i+1)=rawInt ((if w.params.followText "set-order" =true then slot else t.place.getD i 0+1:Nat):Int))->
   wpAny (model prog w) A.in1 (do
    let r <-setNext a ((slot:Nat):Int).toNat ((i:Nat):Int).toNat ((ep:Nat):Int).toNat
    match r with
     | some (x,next)=>do
      setField (Value.ref it) 0 (rawInt (next:Nat))
      setField (Value.ref it) 1 (rawInt ((i:Nat)+1))
      ret x
     | none=>do
      setField (Value.ref it) 2 Value.none
      let e <-newExc (Value.type "StopIteration") []
      raiseNew e) (λfin s'=> ∃v,fin=Fin.done (Flow.ret v)/\wpAny (model prog w) A (match (Except.ok (some v):Except Value (Option Value)) with
      | Except.ok (some v)=>pure (some v)
      | Except.ok none=>unsupported "iter:the-iterator's-class-has-lost-its-__next__-amid-the-walk"
      | Except.error e=>do
       let b <-isInstance e (Value.type "StopIteration")
       if b=true then pure none else throw e) Q E s') (λe s'=>wpAny (model prog w) A (do
       let b <-isInstance e (Value.type "StopIteration")
       if b=true then pure none else throw e) Q E s') s:=λslot hs hnx=>by
  rw[Int.toNat_natCast,Int.toNat_natCast,Int.toNat_natCast]
  refine wpAny_bind (qoG (slot:=slot) ho hd hf W hs hi ?_)
  cases q:vs[i]? with
  | some v=>
   dsimp only[Option.map]
   refine wpAny_bind (wpAny_setField (i:=0) hit rfl (by simp) ?_)
   refine wpAny_bind (wpAny_setField (i:=1) (qit hit) rfl (by simp) (wpAny_pure (one v _ (h1 v _ q ((Heap.SameBut.update ..).trans (Heap.SameBut.update ..)) ?_))))
   rw[hnx v q]
   exact Heap.get?_update_self _ (qit hit) rfl
  | none=>
   dsimp only[Option.map]
   refine wpAny_bind (wpAny_setField (i:=2) hit rfl (by simp) (stop _ λh' kp=>h0 h' q λb u hb e=>kp b u ?_))
   exact (Heap.get?_update_other _ _ (Ne.symm hb)).trans e
 cases id W with
 | drawn et dt bd=>
  rename_i tp ot pl k
  show wpAny _ _ (seqItems? (.ref tp)>>=_) _ _ _
  refine wpAny_bind (wpAny_seqItems et dt ?_)
  dsimp only
  rw[Int.toNat_natCast]
  cases q:pl[i]? with
  | some j=>
   have e1:(List.toArray (pl.map λ(i:Nat)=>rawInt i))[i]? =some (rawInt (j:Nat)):=by simp[q]
   rw[e1]
   have hj:=bd j (List.mem_of_getElem? q)
   show wpAny _ _ (setNextDrawn a ((j:Nat):Int).toNat ((ep:Nat):Int).toNat>>=_) _ _ _
   rw[Int.toNat_natCast,Int.toNat_natCast]
   have ej:es[j]? =some es[j]:=by simp[hj]
   refine wpAny_bind ?_
   unfold setNextDrawn
   refine wpAny_bind (wpAny_setState_of ho hd hf ?_)
   dsimp only
   rw[if_neg (by simp),ej]
   refine wpAny_pure ?_
   have ev:(pl.map λi=>(es.toList.map (·.2)).getD i Value.none)[i]? =some es[j].2:=by
    rw[List.getElem?_map,q]
    simp[hj]
   exact wpAny_bind (wpAny_setField hit rfl (by simp) (wpAny_pure (one _ _ (h1 _ _ ev (Heap.SameBut.update ..) (qit hit)))))
  | none=>
   have e1:(List.toArray (pl.map λ(i:Nat)=>rawInt i))[i]? =none:=by simp[List.getElem?_eq_none_iff.mp q]
   rw[e1]
   have ev:(pl.map λi=>(es.toList.map (·.2)).getD i Value.none)[i]? =none:=by rw[List.getElem?_map,q]; rfl
   refine wpAny_bind (wpAny_setField hit rfl (by simp) ?_)
   refine wpAny_bind (wpAny_setField (qit hit) rfl (by simp) (stop _ λh' kp=>h0 h' ev λb u hb e=>kp b u ?_))
   exact (Heap.get?_update_other _ _ (Ne.symm hb)).trans ((Heap.get?_update_other _ _ (Ne.symm hb)).trans e)
 | text e=>
  exact byInt 0 rfl λv _=>by rw[if_pos e]; rfl
 | small e hn hl hft=>
  cases i with
  | zero=>exact byInt 0 rfl λv _=>by rw[if_neg (by rw[e]; decide)]; rfl
  | succ i=>
   have:=byInt (t.place.getD i 0+1) rfl λv _=>by rw[if_neg (by rw[e]; decide)]; rfl
   exact this
end
end SetL
end
section
namespace SetL
open PySem
theorem qgy:entryFor table "set_iterator.__iter__" =some Builtin.«dict_keyiterator.__iter__» :=
 entryFor_alias (id':= "dict_keyiterator.__iter__") (by kernel_rfl) rfl (by decide+kernel) (by kernel_rfl)
theorem qhC (a:Value):argsOk "set_iterator.__iter__" ⟨[a],[]⟩:=by
 unfold argsOk; kernel_rfl
section
variable {prog:Program} {w:World} {A:Around} {it a:Addr} {o:Obj} {es:Array (Int×Value)} {ep:Nat} {t:SetTable} {tl:List Addr} {f:Nat->Value} {vs:List Value}
def qvq (w:World) (it a:Addr) (o:Obj) (es:Array (Int×Value)) (ep:Nat) (t:SetTable) (tl:List Addr) (f:Nat->Value) (vs:List Value) (i:Nat) (h:Heap):Prop:=h.get? it=some (qhm (f i) i a es.size ep)/\h.get? a=some o/\Way w h a es ep t tl f vs/\i<=vs.length
theorem qrw (hh:A.handled=none) (hne:a≠it) (htl:it∉tl) (hd:o.data= .set es ep t) (hf:t.fits es.size=true) (hv:vs.length=es.size):Walks prog w A it (it::a::tl) [it] vs.length (λi v=>vs[i]? =some v) (qvq w it a o es ep t tl f vs) where
 sub:=λb hb=>by rw[List.mem_singleton.mp hb]; exact List.mem_cons_self
 frame:=λi h h' st k=>⟨k it List.mem_cons_self _ st.1,k a (List.mem_cons_of_mem _ List.mem_cons_self) _ st.2.1,st.2.2.1.keep λb hb u e=>k b (List.mem_cons_of_mem _ (List.mem_cons_of_mem _ hb)) u e,st.2.2.2⟩
 item:=λi s Q E hi st hQ=>by
  refine qjH hh hne htl st.1 st.2.1 hd hf st.2.2.1 hv st.2.2.2 (λv h' ev sb g=> ?_) λh' ev _=> ?_
  ·have e:s={ s with toks:=s.toks }:=rfl
   refine hQ v h' s.toks ev ⟨g,(sb.2 a hne).trans st.2.1,st.2.2.1.keep λb hb u q=>(sb.2 b (λz=>htl (by rw[<-z]; exact hb))).trans q,hi⟩ λb u hb q=>(sb.2 b (λz=>hb (by rw[z]; exact List.mem_singleton.mpr rfl))).trans q
  ·rw[List.getElem?_eq_getElem hi] at ev; cases ev
 done:=λs Q E st hQ=>by
  refine qjH hh hne htl st.1 st.2.1 hd hf st.2.2.1 hv st.2.2.2 (λv h' ev sb g=> ?_) λh' ev kp=> ?_
  ·rw[List.getElem?_eq_none_iff.mpr (Nat.le_refl _)] at ev; cases ev
  ·exact hQ h' s.toks λb u hb q=>kp b u (λz=>hb (by rw[z]; exact List.mem_singleton.mpr rfl)) q
 self:=λi s Q E st hQ=>by
  have ty:s.TypeIs (.ref it) "set_iterator" :=⟨_,st.1,rfl⟩
  refine wpAny_pyIter_slot ty qf5 (wpAny_call_entry qf5 ty qgy ?_ (qhC _))
  show wpAny _ _ (ret (.ref it)) _ _ s
  exact wpAny_pure ⟨_,rfl, "set_iterator",_,ty,qdk.lookup,hQ⟩
end
section
variable {prog:Program} {w:World} {A:Around} {E:Value->Shared->Prop} {s:Shared}
theorem qjY:splitId "set.__len__" =some ("set", "__len__"):=by decide+kernel
theorem qqL {α:Type} {M:Model} {c:Bool} {x y:Sem α} {Q:α->Shared->Prop} (hc:c=true) (h:wpAny M A x Q E s):wpAny M A (if c=true then x else y) Q E s:=by rw[if_pos hc]; exact h
theorem qs6 {α:Type} {M:Model} {c:Bool} {x y:Sem α} {Q:α->Shared->Prop} (hc:c=false) (h:wpAny M A y Q E s):wpAny M A (if c=true then x else y) Q E s:=by rw[if_neg (by rw[hc]; decide)]; exact h
theorem qhz {a:Addr} {o:Obj} {es:Array (Int×Value)} {ep:Nat} {t:SetTable} {Q:List Value->Shared->Prop} (hh:A.handled=none) (ho:s.heap.get? a=some o) (hx:o.ExactSet) (hd:o.data= .set es ep t) (hf:t.fits es.size=true) (hb:es.size<scanBound) (pl:qfc t) (ld:t.led= !w.params.followText "set-order")
  (h: ∀(vs:List Value) (h':Heap) (d:Drawn) (tk:Nat),List.Perm vs (es.toList.map (·.2))->(∀b u,s.heap.get? b=some u->h'.get? b=some u)->Q vs { s with heap:=h',drawn:=d,toks:=tk }):wpAny (model prog w) A (collect (.ref a)) Q E s:=by
 have ha:=Heap.lt_size ho
 unfold collect
 refine wpAny_bind (wpAny_runValue (codeAny_builtin PySem.F.entry_proto_collect ?_))
 rw[Around.under_plainId PySem.F.plain_proto_collect _]
 refine wpAny_bind (wpAny_newObj_type ?_ (by size_fits))
 refine wpAny_pure ⟨plainId_quiet PySem.F.plain_list_iadd _,codeAny_builtin PySem.F.entry_list_iadd ?_⟩
 rw[Around.under_plainId PySem.F.plain_list_iadd _]
 have hL:(s.heap.push { cls:=.type "list",data:=.seq ([]:List Value).toArray }).get? s.heap.objs.size=some { cls:=.type "list",data:=.seq ([]:List Value).toArray }:=Heap.get?_push_size _ rfl
 have ho1:(s.heap.push { cls:=.type "list",data:=.seq ([]:List Value).toArray }).get? a=some o:=Heap.get?_push_of_some _ ho
 have ty:({ s with heap:=s.heap.push { cls:=.type "list",data:=.seq ([]:List Value).toArray } }:Shared).TypeIs (.ref a) "set" :=⟨o,ho1,hx.1⟩
 show wpAny _ A.in1 (Builtin.List.listExtendWith (.ref s.heap.objs.size) (.ref a) (.ref s.heap.objs.size)) _ _ _
 unfold Builtin.List.listExtendWith
 refine wpAny_bind (wpAny_typeOf ty ?_)
 have ns:Builtin.List.listSameRef (.ref s.heap.objs.size) (.ref a)=false:=by
  simp[Builtin.List.listSameRef]
  exact (Nat.ne_of_lt ha).symm
 rw[if_neg (by rw[ns]; decide)]
 refine wpAny_bind (qmV (s:={ s with heap:=s.heap.push { cls:=.type "list",data:=.seq ([]:List Value).toArray } }) ho1 hx hd hf hb pl ld λit h1 d tl f vs hit htl kp g W pm=> ?_)
 have ty1:({ s with heap:=h1,drawn:=d }:Shared).TypeIs (.ref a) "set" :=⟨o,kp _ _ ho1,hx.1⟩
 refine wpAny_bind (wpAny_holding ?_)
 unfold Builtin.List.listLengthHint
 refine wpAny_bind (wpAny_specialOf ty1 PySem.F.slot_set_len.lookup ?_)
 dsimp only
 rw[qjY]
 dsimp only
 refine wpAny_bind (wpAny_isInstance (b:=true) ty1 (by rw[isSubtype_type]; kernel_rfl) ?_)
 refine qs6 rfl (qqL (by decide+kernel) ?_)
 refine wpAny_bind (wpAny_typeOf ty1 (wpAny_pure ?_))
 refine qqL (by decide+kernel) ?_
 refine wpAny_bind (wpAny_rule ?_)
 have g1:h1.get? s.heap.objs.size=some { cls:=.type "list",data:=.seq ([]:List Value).toArray }:=kp _ _ hL
 refine wpAny_bind ?_
 show wpAny _ A.in1 (updateSeq s.heap.objs.size (·.push .none)>>=λ_=>updateSeq s.heap.objs.size (·.pop)) _ _ _
 refine wpAny_bind (wpAny_updateSeq g1 rfl ?_)
 have g2:=Heap.get?_update_self (Obj.mapSeq (·.push Value.none)) g1 rfl
 refine wpAny_updateSeq g2 rfl ?_
 have g3:=Heap.get?_update_self (Obj.mapSeq (·.pop)) g2 rfl
 have oth: ∀b u,b≠s.heap.objs.size->h1.get? b=some u->((h1.update s.heap.objs.size (Obj.mapSeq (·.push Value.none))).update s.heap.objs.size (Obj.mapSeq (·.pop))).get? b=some u:=
  λb u hb e=>(Heap.get?_update_other _ _ (Ne.symm hb)).trans ((Heap.get?_update_other _ _ (Ne.symm hb)).trans e)
 have szp:s.heap.objs.size<({ s with heap:=s.heap.push { cls:=.type "list",data:=.seq ([]:List Value).toArray } }:Shared).heap.objs.size:=by
  show _<(s.heap.push _).objs.size
  rw[Heap.size_push]; exact Nat.lt_succ_self _
 have nit:it≠s.heap.objs.size:=λz=>by rw[z] at hit; exact absurd (Nat.lt_of_lt_of_le szp hit) (Nat.lt_irrefl _)
 have nia:a≠it:=λz=>by
  rw[<-z] at hit
  exact absurd (Nat.lt_of_lt_of_le (Nat.lt_trans ha szp) hit) (Nat.lt_irrefl _)
 have ntl:it∉tl:=λz=>(htl it z).2 rfl
 have lt:s.heap.objs.size∉(it::a::tl):=λz=>by
  rcases List.mem_cons.mp z with z | z
  ·exact nit z.symm
  ·rcases List.mem_cons.mp z with z | z
   ·exact absurd ha (by rw[<-z]; exact Nat.lt_irrefl _)
   ·exact absurd (Nat.lt_of_lt_of_le szp (htl _ z).1) (Nat.lt_irrefl _)
 have lv:vs.length=es.size:=by rw[pm.length_eq]; simp
 have hh2:A.in1.handled=none:=hh
 have Wk:=qrw (prog:=prog) (w:=w) (A:=A.in1) (f:=f) hh2 nia ntl hd hf lv
 refine wpAny_pure ⟨plainId_quiet PySem.F.plain_extend_loop _,codeAny_extend_loopS Wk.toS (by rw[lv]; exact fits_of_scanBound hb) _ lt _ vs.length 0 _ _ _ rfl (Nat.zero_le _) ?_ g3 (ItemsOf.nil _) λs' acc' c' hm hS' hacc=> ?_⟩
 ·exact ⟨oth _ _ nit g,oth _ _ (Nat.ne_of_lt ha) (kp _ _ ho1),W.keep λb hb' u e=>oth b u (λz=>lt (by rw[<-z]; exact List.mem_cons_of_mem _ (List.mem_cons_of_mem _ hb'))) e,Nat.zero_le _⟩
 ·show wpAny _ A (load s.heap.objs.size>>=_) _ _ s'
  refine wpAny_bind (wpAny_load hS' (wpAny_pure ?_))
  have ev:acc'.toList=vs:=by
   apply List.ext_getElem?
   intro j
   by_cases hj:j<vs.length
   ·have h2:j<acc'.size:=by rw[hacc.1]; exact hj
    have:=hacc.2 j acc'[j] (by simp[h2])
    rw[this]
    simp[h2]
   ·have q1:acc'.toList[j]? =none:=List.getElem?_eq_none_iff.mpr (by rw[Array.length_toList,hacc.1]; lia)
    have q2:vs[j]? =none:=List.getElem?_eq_none_iff.mpr (by lia)
    rw[q1,q2]
  rw[ev]
  obtain ⟨hh',gg,dd,tk,os⟩:=s'
  have e1:gg=s.gens:=hm.gens
  have e2:dd=d:=hm.drawn
  have e3:os=s.os:=hm.os
  subst e1 e2 e3
  refine h vs hh' dd tk pm λb u e=> ?_
  have nb:b<s.heap.objs.size:=Heap.lt_size e
  refine hm.heap b u (λz=> ?_) (oth b u (Nat.ne_of_lt nb) (kp b u (Heap.get?_push_of_some _ e)))
  rcases List.mem_cons.mp z with z | z
  ·exact absurd nb (by rw[z]; exact Nat.lt_irrefl _)
  ·rw[List.mem_singleton.mp z] at nb
   exact absurd (Nat.lt_of_lt_of_le (Nat.lt_trans nb szp) hit) (Nat.lt_irrefl _)
end
end SetL
end
section
namespace SetL
open PySem
section
variable {K:Type} [DecidableEq K]
def mem (key:Nat->K) (i:Nat) (k:K):Bool:=(List.range i).any λj=>decide (k=key j)
def cnt (key:Nat->K):Nat->Nat
 | 0=>0
 | i+1=>if mem key i (key i)=true then cnt key i else cnt key i+1
theorem qie (key:Nat->K) (i:Nat) (k:K):mem key (i+1) k=(mem key i k||decide (k=key i)):=by
 unfold mem
 rw[List.range_succ,List.any_append]
 simp
theorem qn0 (key:Nat->K): ∀i,cnt key i<=i
 | 0=>Nat.le_refl _
 | i+1=>by
  have:=qn0 key i
  unfold cnt
  split<;>lia
end
section
variable {prog:Program} {w:World} {K:Type} [DecidableEq K] {knd:KeyKind prog w K} {A:Around} {R:Result->Shared->Prop} {I:Addr} {fp wr:List Addr} {G:Array GenState->Array GenState->Prop} {n:Nat} {P:Nat->Value->Prop} {Sx:Nat->Shared->Prop}
theorem qqA (W:WalksS prog w A.in1 I fp wr G n P Sx) (S:Addr) (hSf:S∉fp) (key:Nat->K) (hval: ∀i v,P i v->knd.is (key i) v=true/\v.scannable=true) (hb:n+1<scanBound):
  ∀(k i:Nat) (s:Shared),n - i=k->i<=n->Sx i s->qjC knd s.heap S (mem key i) (cnt key i)->(∀s',Moved (S::wr) G s s'->qjC knd s'.heap S (mem key n) (cnt key n)->R (.ok (.ret .none)) s')->
   codeAny (model prog w) A (.builtin "set.update.loop" ⟨[.ref S,.ref I],[]⟩) R s:=by
 have nw:S∉wr:=λz=>hSf (W.sub _ z)
 have sub: ∀b∈wr,b∈S::wr:=λb z=>List.mem_cons_of_mem _ z
 intro k
 induction k with
 | zero=>
  intro i s hk hi st hS fin
  obtain rfl:i=n:=by lia
  refine codeAny_builtin PyProof.Rows.F.entry_set_update_loop ?_
  rw[Around.under_plainId PyProof.Rows.F.plain_set_update_loop _]
  refine wpAny_bind (W.done s _ _ st λs' mv=>wpAny_pure (fin s' (mv.mono sub) (hS.keep λo e=>mv.heap S o nw e)))
 | succ k ih=>
  intro i s hk hi st hS fin
  have lt:i<n:=by lia
  refine codeAny_builtin PyProof.Rows.F.entry_set_update_loop ?_
  rw[Around.under_plainId PyProof.Rows.F.plain_set_update_loop _]
  refine wpAny_bind (W.item i s _ _ lt st λv s' hP st' mv=> ?_)
  obtain ⟨v1,v2⟩:=hval i v hP
  refine wpAny_bind (wpAny_holding ?_)
  unfold setAdd
  refine wpAny_holding (wpAny_bind (knd.pyHash (k:=key i) v1 ?_))
  have cl:=qn0 key i
  refine qtu (knd:=knd) (s:={ s' with toks:=s'.toks+1 }) v1 v2 (hS.keep λo e=>mv.heap S o nw e) (by lia) λh' sb S2=> ?_
  refine wpAny_pure ⟨plainId_quiet PyProof.Rows.F.plain_set_update_loop _,ih (i+1) _ (by lia) lt (W.frame _ s' _ _ st' (Nat.le_succ _) λb hb' o e=> ?_) ?_ λs'' mv2 S3=> ?_⟩
  ·rw[sb.2 b λz=>hSf (by rw[<-z]; exact hb')]; exact e
  ·obtain ⟨o,es,ep,t,a1,a2,a3,a4,a5,a6,a7,a8,a9,a10⟩:=S2
   exact ⟨o,es,ep,t,a1,a2,a3,a4,λk'=>by rw[qie]; exact a5 k',a6,a7,a8,a9,a10⟩
  ·refine fin s'' (Moved.trans W.gtrans ((mv.mono sub).then_heap (Nat.le_succ _) λb o hb' e=> ?_) mv2) S3
   rw[sb.2 b λz=>hb' (by rw[z]; exact List.mem_cons_self)]; exact e
end
section
variable {prog:Program} {w:World} {K:Type} [DecidableEq K] {knd:KeyKind prog w K} {A:Around} {E:Value->Shared->Prop} {s:Shared}
theorem qoH (x:Value) {Q₁:Value->Shared->Prop} (h:Q₁ (.ref s.heap.objs.size) { s with heap:=s.heap.push { cls:=.type "set",dict:=none,data:=.set #[] 0 (.fresh 0 0 (!w.params.followText "set-order")) } }):
  codeAny (model prog w) A (.call (.builtin "set.__new__") ⟨[.type "set",x],[]⟩) (PySem.wants Q₁ E) s:=by
 refine codeAny_of_tree ?_
 show wpAny _ A.in1 (do checkBuiltinCall "set.__new__" ⟨[.type "set",x],[]⟩; again (.builtin "set.__new__" ⟨[.type "set",x],[]⟩)) _ _ s
 refine wpAny_bind (wpAny_of_eq (PySem.F.newCall_set_1 x) (wpAny_pure ⟨plainId_quiet PySem.F.plain_set_new _,codeAny_builtin PySem.F.entry_set_new ?_⟩))
 rw[Around.under_plainId PySem.F.plain_set_new _]
 unfold Builtin.«set.__new__»
 unfold Builtin.Frozenset.newClass
 have sb:=PySem.sub_set_self
 obtain ⟨hp,g,d,tk,os⟩:=s
 dsimp only
 wp_walk
 exact wpAny_askSetting (wpAny_pure (by
  dsimp only
  simp only[newObj]
  exact wpAny_bind (wpAny_alloc (wpAny_pure (wpAny_pure h)))))
set_option maxHeartbeats 8000000 in
theorem qq9 {l:Addr} {items:Array Value} {key:Nat->K} {Q:Value->Shared->Prop} (hh:A.handled=none) (hl:s.heap.IsList l items) (hval: ∀i v,items[i]? =some v->knd.is (key i) v=true/\v.scannable=true) (hb:items.size+1<scanBound)
  (h: ∀(h':Heap) (tk:Nat),qjC knd h' s.heap.objs.size (mem key items.size) (cnt key items.size)->(∀b o,s.heap.get? b=some o->h'.get? b=some o)->Q (.ref s.heap.objs.size) { s with heap:=h',toks:=tk }):
  wpAny (model prog w) A (call (.type "set") [.ref l]) Q E s:=by
 obtain ⟨c,tl,mro⟩:=PySem.F.called_set.mro
 have md:=PySem.F.called_set.made
 have sb:=PySem.F.called_set.sub
 refine wpAny_call (codeAny_of_tree ?_)
 show wpAny _ _ (callAny (.type "set") _) _ _ _
 refine wpAny_pure ⟨Code.quiet_builtin _ (by decide+kernel),codeAny_builtin PySem.F.entry_type_call ?_⟩
 rw[Around.under_plain (weight_type_call_type "set" [.ref l] []) rfl]
 have q1:=PySem.F.called_set.notType
 have q2:=PySem.F.called_set.canCreate
 have q3:=PySem.F.typeCall_set_1 (.ref l)
 repeat (any_goals (first | assumption | wp_step))
 refine codeAny_mono (qoH (.ref l) (E:=E) (Q₁:=λv s1=>v= .ref s.heap.objs.size/\s1={ s with heap:=s.heap.push { cls:=.type "set",dict:=none,data:=.set #[] 0 (.fresh 0 0 (!w.params.followText "set-order")) } }) ⟨rfl,rfl⟩) λr s1 hr=> ?_
 cases r with
 | error e=>exact hr
 | ok fl=>cases fl with
  | ret obj=>
   obtain ⟨rfl,rfl⟩:=hr
   have gS:(s.heap.push { cls:=.type "set",dict:=none,data:=.set #[] 0 (.fresh 0 0 (!w.params.followText "set-order")) }).get? s.heap.objs.size=some { cls:=.type "set",dict:=none,data:=.set #[] 0 (.fresh 0 0 (!w.params.followText "set-order")) }:=Heap.get?_push_size _ rfl
   have tS:Shared.TypeIs { s with heap:=s.heap.push { cls:=.type "set",dict:=none,data:=.set #[] 0 (.fresh 0 0 (!w.params.followText "set-order")) } } (.ref s.heap.objs.size) "set" :=⟨_,gS,rfl⟩
   have li:=PySem.F.called_set.init.lookup
   have bi:=PySem.F.called_set.init.bind (.ref s.heap.objs.size)
   repeat (any_goals (first | assumption | wp_step))
   refine codeAny_mono (codeAny_call_builtin (R:=PySem.wants (λr s2=>r= .none/\∃h' tk,s2={ s with heap:=h',toks:=tk }/\qjC knd h' s.heap.objs.size (mem key items.size) (cnt key items.size)/\∀b o,s.heap.get? b=some o->h'.get? b=some o) E) PySem.F.called_set.init.plain PySem.F.entry_set_init (PySem.check_set_init_1 tS ?_)) λr2 s2 hr2=> ?_
   ·obtain ⟨⟨oc,od,odt,osl⟩,gl,cl,nl,dl⟩:=hl
    simp only at cl dl
    subst cl dl
    have gl':(s.heap.push { cls:=.type "set",dict:=none,data:=.set #[] 0 (.fresh 0 0 (!w.params.followText "set-order")) }).get? l=some { cls:=.type "list",dict:=od,data:=.seq items nl,slots:=osl }:=Heap.get?_push_of_some _ gl
    have u1:=PySem.F.sub_list_set
    have u2:=PySem.F.sub_list_frozenset
    have u3:(Value.type "list" ==Value.type "dict")=false:=by decide
    have l1:(s.heap.push { cls:=.type "set",dict:=none,data:=.set #[] 0 (.fresh 0 0 (!w.params.followText "set-order")) }).IsList l items:=⟨_,gl',rfl,nl,rfl⟩
    unfold Builtin.«set.__init__» noKeywords
    unfold Builtin.Frozenset.updateFrom
    generalize pie:pyIter=PI
    wp_walk
    subst pie
    refine wpAny_pyIter_list l1 (wpAny_bind (wpAny_runValue ?_))
    have lS:l<s.heap.objs.size:=Heap.lt_size gl
    have sz:(s.heap.push { cls:=.type "set",dict:=none,data:=.set #[] 0 (.fresh 0 0 (!w.params.followText "set-order")) }).objs.size=s.heap.objs.size+1:=Heap.size_push ..
    have n1:l≠(s.heap.push { cls:=.type "set",dict:=none,data:=.set #[] 0 (.fresh 0 0 (!w.params.followText "set-order")) }).objs.size:=by rw[sz]; exact Nat.ne_of_lt (Nat.lt_succ_of_lt lS)
    have n2:s.heap.objs.size∉[(s.heap.push { cls:=.type "set",dict:=none,data:=.set #[] 0 (.fresh 0 0 (!w.params.followText "set-order")) }).objs.size,l]:=λz=>by
     rw[sz] at z
     rcases List.mem_cons.mp z with z | z
     ·exact absurd z (Nat.ne_of_lt (Nat.lt_succ_self _))
     ·exact absurd (List.mem_singleton.mp z) (Nat.ne_of_gt lS)
    have hh3:A.in1.in1.in1.handled=none:=hh
    refine qqA (knd:=knd) ((Walks.list hh3 _ l n1 items).toS) s.heap.objs.size n2 key (λi v hv=>hval i v hv) hb (items.size - 0) 0 _ (by lia) (Nat.zero_le _) ⟨⟨_,Heap.get?_push_size _ rfl,rfl,rfl⟩,l1.push _⟩ ?_ λs' mv S'=> ?_
    ·exact ⟨_, #[],0,_,Heap.get?_push_of_some _ gS,⟨rfl,rfl,rfl⟩,rfl,λe he=>by simp at he,λk=>by simp[mem],by decide,by rfl,rfl,qja _ _ _,rfl⟩
    ·obtain ⟨h',g',d',tk',os'⟩:=s'
     have e1:g'=s.gens:=mv.gens
     have e2:d'=s.drawn:=mv.drawn
     have e3:os'=s.os:=mv.os
     subst e1 e2 e3
     refine wpAny_pure (wpAny_pure ⟨rfl,h',tk',rfl,S',λb o e=> ?_⟩)
     have lb:=Heap.lt_size e
     refine mv.heap b o (λz=> ?_) (Heap.get?_push_of_some _ (Heap.get?_push_of_some _ e))
     rcases List.mem_cons.mp z with z | z
     ·exact absurd z (Nat.ne_of_lt lb)
     ·have z':=List.mem_singleton.mp z
      rw[sz] at z'
      exact absurd z' (Nat.ne_of_lt (Nat.lt_succ_of_lt lb))
   ·cases r2 with
    | error e=>exact hr2
    | ok f2=>cases f2 with
     | ret r=>
      obtain ⟨rfl,h',tk,rfl,S',kp⟩:=hr2
      repeat (any_goals (first | assumption | wp_step))
      exact h _ _ S' kp
     | _=>exact hr2.elim
  | _=>exact hr.elim
end
end SetL
end
section
namespace SR
theorem qfy {α:Type} {P:List α->Prop} (h0:P []) (hs: ∀l a,P l->P (l++[a])): ∀l,P l:=by
 intro l
 have: ∀r:List α,P r.reverse:=by
  intro r
  induction r with
  | nil=>exact h0
  | cons a r ih=>rw[List.reverse_cons]; exact hs _ _ ih
 rw[<-List.reverse_reverse l]
 exact this _
section
variable {α:Type}
theorem qcd {k:α->Int} {r:α} {p:α->Bool} (h:p r=true): ∀{l:List α},Ris k l->(ins k r l).filter p=ins k r (l.filter p)
 | [],_=>by simp[ins,h]
 | y::l,hl=>by
  have hl':=List.pairwise_cons.mp hl
  show (if k y<=k r then y::ins k r l else r::y::l).filter p=_
  by_cases c:k y<=k r
  ·rw[if_pos c]
   by_cases d:p y=true
   ·rw[List.filter_cons_of_pos d,List.filter_cons_of_pos d,qcd h hl'.2]
    show _=(if k y<=k r then y::ins k r (l.filter p) else r::y::l.filter p)
    rw[if_pos c]
   ·rw[List.filter_cons_of_neg d,List.filter_cons_of_neg d,qcd h hl'.2]
  ·rw[if_neg c,List.filter_cons_of_pos h]
   have all: ∀x∈(y::l).filter p,¬k x<=k r:=λx hx=>by
    have hx':=(List.mem_filter.mp hx).1
    rcases List.mem_cons.mp hx' with q | q
    ·rw[q]; exact c
    ·have:=hl'.1 x q; lia
   cases e:(y::l).filter p with
   | nil=>rfl
   | cons z t=>
    have:=all z (by rw[e]; exact List.mem_cons_self)
    show _=(if k z<=k r then z::ins k r t else r::z::t)
    rw[if_neg this]
theorem qdE {k:α->Int} {r:α} {p:α->Bool} (h:p r=false): ∀{l:List α},(ins k r l).filter p=l.filter p
 | []=>by simp[ins,h]
 | y::l=>by
  show (if k y<=k r then y::ins k r l else r::y::l).filter p=_
  by_cases c:k y<=k r
  ·rw[if_pos c,List.filter_cons,List.filter_cons,qdE h]
  ·rw[if_neg c,List.filter_cons_of_neg (by rw[h]; decide)]
theorem srt_filter {k:α->Int} {p:α->Bool} (l:List α):srt k (l.filter p)=(srt k l).filter p:=by
 refine qfy (P:=λl=>srt k (l.filter p)=(srt k l).filter p) rfl (λl a ih=> ?_) l
 rw[List.filter_append,qdi]
 cases h:p a with
 | true=>
  rw[show [a].filter p=[a] by simp[h],qdi,ih,qcd h (qc2 l)]
 | false=>
  rw[show [a].filter p=[] by simp[h],List.append_nil,ih,qdE h]
end
section
variable {κ:Type} [DecidableEq κ]
abbrev T4 (κ:Type):=Int×κ×Int×Int
end
end SR
end
section
namespace SR
section
variable {κ:Type} [DecidableEq κ]
abbrev R3 (κ:Type):=Int×κ×Int
def un (t:T4 κ):R3 κ:=(t.1,t.2.1,t.2.2.1)
abbrev mo:R3 κ->Int:=λr=>r.1
end
end SR
end
section
namespace SR
theorem qgv {α:Type} {k k':α->Int} {r:α} (hr:k r=k' r): ∀l:List α,(∀x∈l,k x=k' x)->ins k r l=ins k' r l
 | [],_=>rfl
 | x::l,h=>by
  show (if k x<=k r then x::ins k r l else r::x::l)=(if k' x<=k' r then x::ins k' r l else r::x::l)
  rw[hr,h x List.mem_cons_self,qgv hr l λy hy=>h y (List.mem_cons_of_mem _ hy)]
theorem srt_congr {α:Type} {k k':α->Int} (l:List α):(∀x∈l,k x=k' x)->srt k l=srt k' l:=by
 refine qfy (P:=λl=>(∀x∈l,k x=k' x)->srt k l=srt k' l) (λ_=>rfl) (λl a ih h=> ?_) l
 rw[qdi,qdi,ih λx hx=>h x (List.mem_append_left _ hx)]
 exact qgv (h a (List.mem_append_right _ List.mem_cons_self)) _ λx hx=>h x (List.mem_append_left _ ((qcl _).mp hx))
end SR
namespace RH
open PySem PySem.Spec PyProof.Rows L2 SR
def ltS (x y:Str):Bool:=decide (x.cps.toList<y.cps.toList)
theorem qpO {x y:Str} (h:x.cps.toList=y.cps.toList):x=y:=by
 cases x; cases y
 congr 1
 exact Array.toList_inj.mp h
theorem ordS:Ord ltS where
 irr:=λa=>decide_eq_false (List.lt_irrefl _)
 tr:=λa b c h1 h2=>decide_eq_true (List.lt_trans (of_decide_eq_true h1) (of_decide_eq_true h2))
 tot:=λa b h1 h2=>qpO (List.le_antisymm (List.not_lt.mp (of_decide_eq_false h2)) (List.not_lt.mp (of_decide_eq_false h1)))
end RH
end
section
namespace SetL
section
variable {α:Type} [DecidableEq α]
def dd:List α->List α
 | []=>[]
 | x::xs=>if x∈dd xs then dd xs else x::dd xs
theorem qig {x:α}: ∀{l:List α},x∈dd l↔x∈l
 | []=>Iff.rfl
 | y::l=>by
  have ih:=qig (x:=x) (l:=l)
  show x∈(if y∈dd l then dd l else y::dd l)↔_
  by_cases c:y∈dd l
  ·rw[if_pos c,ih,List.mem_cons]
   refine ⟨.inr,λh=> ?_⟩
   rcases h with rfl | h
   ·exact ih.mp c
   ·exact h
  ·rw[if_neg c,List.mem_cons,List.mem_cons,ih]
theorem qdt: ∀l:List α,(dd l).Nodup
 | []=>List.nodup_nil
 | y::l=>by
  show (if y∈dd l then dd l else y::dd l).Nodup
  by_cases c:y∈dd l
  ·rw[if_pos c]; exact qdt l
  ·rw[if_neg c]; exact List.nodup_cons.mpr ⟨c,qdt l⟩
theorem qpe: ∀l:List α,(dd l).length<=l.length
 | []=>Nat.le_refl _
 | y::l=>by
  have ih:=qpe l
  show (if y∈dd l then dd l else y::dd l).length<=_
  split
  ·exact Nat.le_succ_of_le ih
  ·exact Nat.succ_le_succ ih
theorem qex: ∀{D L:List α},D.Nodup->(∀x∈D,x∈L)->L.length=D.length->List.Perm L D
 | [],L,_,_,hl=>by rw[List.length_eq_zero_iff.mp hl]
 | d::D,L,hn,hm,hl=>by
  have hd:=hm d List.mem_cons_self
  have hn':=List.nodup_cons.mp hn
  refine (List.perm_cons_erase hd).trans (List.Perm.cons d (qex hn'.2 (λx hx=> ?_) ?_))
  ·have ne:x≠d:=λz=>by subst z; exact hn'.1 hx
   refine (List.mem_erase_of_ne ne).mpr (hm x (List.mem_cons_of_mem _ hx))
  ·rw[List.length_erase_of_mem hd,hl]; rfl
def dl (key:Nat->α):Nat->List α
 | 0=>[]
 | i+1=>if mem key i (key i)=true then dl key i else dl key i++[key i]
theorem qnQ (key:Nat->α): ∀i,(dl key i).length=cnt key i
 | 0=>rfl
 | i+1=>by
  have ih:=qnQ key i
  show (if mem key i (key i)=true then dl key i else dl key i++[key i]).length=if mem key i (key i)=true then cnt key i else cnt key i+1
  split
  ·exact ih
  ·rw[List.length_append,ih]; rfl
theorem qkE (key:Nat->α) (x:α): ∀i,x∈dl key i↔mem key i x=true
 | 0=>by simp[dl,mem]
 | i+1=>by
  have ih:=qkE key x i
  rw[qie]
  show x∈(if mem key i (key i)=true then dl key i else dl key i++[key i])↔_
  by_cases c:mem key i (key i)=true
  ·rw[if_pos c,ih]
   simp only[Bool.or_eq_true,decide_eq_true_eq]
   refine ⟨.inl,λh=> ?_⟩
   rcases h with h | rfl
   ·exact h
   ·exact c
  ·rw[if_neg c,List.mem_append,ih]
   simp
theorem qid (key:Nat->α): ∀i,(dl key i).Nodup
 | 0=>List.nodup_nil
 | i+1=>by
  have ih:=qid key i
  show (if mem key i (key i)=true then dl key i else dl key i++[key i]).Nodup
  by_cases c:mem key i (key i)=true
  ·rw[if_pos c]; exact ih
  ·rw[if_neg c,List.nodup_append]
   refine ⟨ih,by simp,λa ha b hb=> ?_⟩
   rw[List.mem_singleton] at hb
   subst hb
   intro z
   subst z
   exact c ((qkE key _ i).mp ha)
theorem qif {l:List α} {d:α} {x:α}:mem (λi=>l.getD i d) l.length x=true↔x∈l:=by
 unfold mem
 rw[List.any_eq_true]
 constructor
 ·rintro ⟨j,hj,e⟩
  have hj':=List.mem_range.mp hj
  have e':=of_decide_eq_true e
  rw[e']
  show l.getD j d∈l
  rw[List.getD_eq_getElem?_getD,List.getElem?_eq_getElem hj']
  exact List.getElem_mem hj'
 ·intro h
  obtain ⟨j,hj,e⟩:=List.mem_iff_getElem.mp h
  refine ⟨j,List.mem_range.mpr hj,decide_eq_true ?_⟩
  show x=l.getD j d
  rw[List.getD_eq_getElem?_getD,List.getElem?_eq_getElem hj]
  exact e.symm
theorem qtf {l:List α} {d:α}:List.Perm (dl (λi=>l.getD i d) l.length) (dd l):=
 (List.perm_ext_iff_of_nodup (qid _ _) (qdt _)).mpr λx=>by rw[qkE,qif,qig]
theorem qn1 {l:List α} {d:α}:cnt (λi=>l.getD i d) l.length=(dd l).length:=by rw[<-qnQ,qtf.length_eq]
end
end SetL
namespace SetL
open PySem PySem.W PySem.Calls PyProof.Rows SR
structure Kd (prog:Program) (w:World) (α:Type) [DecidableEq α] where
 knd:PySem.KeyKind prog w α
 up:α->L2.V
 d:α
 of:Value->α
 lt:α->α->Bool
 ord:Ord lt
 isv: ∀x u,L2.RelV (up x) u->knd.is x u=true/\u.scannable=true
 vis: ∀x u,knd.is x u=true->L2.RelV (up x) u
 ofv: ∀x u,L2.RelV (up x) u->of u=x
 kind: ∀v1 v2 vs,(∀v∈v1::v2::vs,∃x,L2.RelV (up x) v)->keyKind' (v1::v2::vs).toArray=pure oneType'
 lts: ∀{A:Around} {E:Value->Shared->Prop} {s:Shared} {Q:Bool->Shared->Prop} (x y:α) (u v:Value),L2.RelV (up x) u->L2.RelV (up y) v->Q (lt x y) s->wpAny (model prog w) A (keyLt' oneType' u v) Q E s
section
variable {prog:Program} {w:World} {A:Around} {E:Value->Shared->Prop} {s:Shared} {α:Type} [DecidableEq α] (k:Kd prog w α)
theorem qm5 {h:Heap} {a:Addr} {ss:List α} (S:qjC k.knd h a (mem (λi=>ss.getD i k.d) ss.length) (cnt (λi=>ss.getD i k.d) ss.length)):
  ∃o es ep t,h.get? a=some o/\o.ExactSet/\o.data= .set es ep t/\es.size<scanBound/\t.fits es.size=true/\qfc t/\t.led=(!w.params.followText "set-order")/\es.size=(dd ss).length/\
   (∀v∈es.toList.map (·.2),∃x,L2.RelV (k.up x) v)/\List.Perm ((es.toList.map (·.2)).map k.of) (dd ss):=by
 obtain ⟨o,es,ep,t,ho,hx,hd,hel,hme,hb,hf,hn,hp,hl⟩:=S
 have hv: ∀v∈es.toList.map (·.2),∃x,L2.RelV (k.up x) v:=λv hv=>by
  obtain ⟨e,he,rfl⟩:=List.mem_map.mp hv
  obtain ⟨⟨x,hk,_⟩,_⟩:=hel e he
  exact ⟨x,k.vis x _ hk⟩
 refine ⟨o,es,ep,t,ho,hx,hd,hb,hf,hp,hl,by rw[hn,qn1],hv,?_⟩
 refine qex (qdt ss) (λx hx=> ?_) (by rw[List.length_map,List.length_map,Array.length_toList,hn,qn1])
 have hx':=qig.mp hx
 obtain ⟨e,he,ek⟩:=(hme x).mp (qif.mpr hx')
 exact List.mem_map.mpr ⟨e.2,List.mem_map.mpr ⟨e,he,rfl⟩,k.ofv x _ (k.vis x _ ek)⟩
theorem qiX {a:Addr} {ss:List α} {Q:Value->Shared->Prop} (hh:A.handled=none) (S:qjC k.knd s.heap a (mem (λi=>ss.getD i k.d) ss.length) (cnt (λi=>ss.getD i k.d) ss.length)) (h64:ss.length<64)
  (h: ∀h1 D h' d tk c vs,St.Kp s.heap h1->h1.objs.size<=D->St.Kp h1 h'->h'.get? D=some (seqObj "list" (List.toArray vs) c)->L2.Vals ((qa9 k.lt (dd ss)).map k.up) vs->Q (.ref D) { s with heap:=h',drawn:=d,toks:=tk }):
  wpAny (model prog w) A (call (.builtin "sorted") [.ref a]) Q E s:=by
 obtain ⟨o,es,ep,t,ho,hx,hd,hb,hf,hp,hl,hn,hv,pm⟩:=qm5 k S
 refine Calls.call_function_entry kind_sorted plain_sorted entry_sorted (args_sorted1 _) ?_
 unfold Builtin.«sorted»
 refine wpAny_bind (m:=checkCount "sorted" 1 1 _) (wpAny_pure ?_)
 refine wpAny_bind (qhz (by exact hh) ho hx hd hf hb hp hl λvs H1 d1 tk1 pv kp1=> ?_)
 have le:vs.length=(dd ss).length:=by rw[pv.length_eq,List.length_map,Array.length_toList,hn]
 have l64:vs.length<64:=by have:=qpe ss; lia
 have hv': ∀v∈vs,∃x,L2.RelV (k.up x) v:=λv z=>hv v (pv.mem_iff.mp z)
 have pm':List.Perm (vs.map k.of) (dd ss):=(pv.map k.of).trans pm
 refine wpAny_bind (wpAny_newList ?_ (by rw[sizeLine_eq]; show vs.length<=_; lia))
 have kp2:St.Kp H1 (H1.push (seqObj "list" vs.toArray 0)):=λb o q=>Heap.get?_push_of_some _ q
 have hoD:(H1.push (seqObj "list" vs.toArray 0)).get? H1.objs.size=some (seqObj "list" vs.toArray 0):=Heap.get?_push_size _ rfl
 refine wpAny_bind (wpAny_holding (wpAny_call_entry slot_list_sort ⟨_,hoD,rfl⟩ entry_list_sort ?body (args_list_sort _)))
 case body=>
  have at_: ∀{m:Nat},m<vs.length->L2.RelV (k.up ((vs.map k.of).getD m k.d)) (vs.getD m Value.none)/\(vs.map k.of).getD m k.d∈vs.map k.of:=λ{m} hm=>by
   obtain ⟨x,e⟩:=hv' vs[m] (List.getElem_mem hm)
   have e1:(vs.map k.of).getD m k.d=x:=by
    rw[List.getD_eq_getElem?_getD,List.getElem?_map,List.getElem?_eq_getElem hm]
    exact k.ofv x _ e
   refine ⟨?_,?_⟩
   ·rw[e1,List.getD_eq_getElem?_getD,List.getElem?_eq_getElem hm]; exact e
   ·rw[e1]; exact List.mem_map.mpr ⟨_,List.getElem_mem hm,k.ofv x _ e⟩
  refine St.lsort_p (h0:=H1) (kz:=(vs.map k.of).map (qbJ k.lt (vs.map k.of))) (κ:=oneType') (s:={ s with heap:=H1.push (seqObj "list" vs.toArray 0),drawn:=d1,toks:=tk1 }) hoD (by simp) l64 kp2 (St.get_none (Nat.le_refl _)) (λs' kk h2 Q' hq=> ?_) (λs' kk i j hi hj C hc=> ?_) λh' tk c p a1 a2 a3=>⟨_,rfl,?_⟩
  ·match vs,h2,hv' with
   | v1::v2::vs,_,hv'=>
    rw[k.kind v1 v2 vs hv']
    exact wpAny_pure hq
  ·have e1: ∀{m:Nat},m<vs.length->((vs.map k.of).map (qbJ k.lt (vs.map k.of))).getD m 0=qbJ k.lt (vs.map k.of) ((vs.map k.of).getD m k.d):=λ{m} hm=>by
    have hm':m<(vs.map k.of).length:=by rw[List.length_map]; exact hm
    rw[List.getD_eq_getElem?_getD,List.getD_eq_getElem?_getD,List.getElem?_map,List.getElem?_eq_getElem hm']
    rfl
   obtain ⟨f1,m1⟩:=at_ hi
   obtain ⟨f2,m2⟩:=at_ hj
   rw[e1 hi,e1 hj,qb0 k.ord m1 m2] at hc
   exact k.lts _ _ _ _ f1 f2 hc
  ·refine wpAny_pure ⟨_,rfl,h _ _ h' d1 tk c _ kp1 (Nat.le_refl _) a1 a3 ?_⟩
   have ep:=qdq a2
   have e:qa9 k.lt (dd ss)=p.toList.map λj=>(vs.map k.of).getD j k.d:=by
    rw[<-qcK k.ord pm',ep,SR.srt_congr (k':=λj=>qbJ k.lt (vs.map k.of) ((vs.map k.of).getD j k.d)),qbY (k:=qbJ k.lt (vs.map k.of)) (f:=λj=>(vs.map k.of).getD j k.d) (λb=>rfl),show vs.length=(vs.map k.of).length by simp,Mir.map_range_getD]
    ·rfl
    ·intro b hb'
     have hb2:b<(vs.map k.of).length:=by rw[List.length_map]; exact List.mem_range.mp hb'
     rw[List.getD_eq_getElem?_getD,List.getElem?_map,List.getElem?_eq_getElem hb2,List.getD_eq_getElem?_getD,List.getElem?_eq_getElem hb2]
     rfl
   rw[e,List.map_map]
   have go: ∀l:List Nat,(∀j∈l,j<vs.length)->L2.Vals (l.map (k.up∘λj=>(vs.map k.of).getD j k.d)) (l.map λi=>vs.getD i Value.none):=λl=>by
    induction l with
    | nil=>exact λ_=>.nil
    | cons j l ih=>
     intro hl
     exact .cons (at_ (hl j List.mem_cons_self)).1 (ih λi hi=>hl i (List.mem_cons_of_mem _ hi))
   exact go _ λj hj=>(Mir.order_mem a2 j).mp hj
end
def qrI:Value->Str
 | .str x _=>x
 | _=> ""
def qrJ (prog:Program) (w:World):Kd prog w Str where
 knd:=PySem.strKind prog w
 up:=L2.V.str
 d:= ""
 of:=qrI
 lt:=RH.ltS
 ord:=RH.ordS
 isv:=λx u ⟨t,e⟩=>by subst e; exact ⟨by show Value.isStrOf x (Value.str x t)=true; simp[Value.isStrOf],rfl⟩
 vis:=λx u h=>Value.isStrOf_shape h
 ofv:=λx u ⟨t,e⟩=>by subst e; rfl
 kind:=λv1 v2 vs h=>keyKind_strs (strsAre_map _ λv hv=>by obtain ⟨x,t,e⟩:=h v hv; exact ⟨x,t,e⟩)
 lts:=λx y u v ⟨t,e⟩ ⟨t',e'⟩ h=>by subst e e'; exact PySem.W.kas_lt_str h
end SetL
end
section
namespace SetL
open PySem L2 SR
theorem boot_sorted:bootBuiltins "sorted" =some (.builtin "sorted"):=by decide+kernel
theorem qns:bootBuiltins "set" =some (.type "set"):=by decide+kernel
section
variable {X:Cx} {a:Expr} {t:TE} {p1 p2 p3 pos:Pos} {α:Type} [DecidableEq α] (k:Kd X.prog X.w α)
theorem qs3 {pins:List (Addr×Obj)} {σ:St} {H:Hp} {s:Shared} {h':Heap} {d:Drawn} {tk:Nat} (I:Inv X pins σ H s) (k: ∀b u,s.heap.get? b=some u->h'.get? b=some u):Inv X pins σ H { s with heap:=h',drawn:=d,toks:=tk }:=by
 have J:=I.kept (t':=tk) k
 exact ⟨J.ok,J.os,J.bare,J.base,J.loc,J.cell,J.free,J.freeC,J.pin,J.hok,J.len⟩
theorem qn9 (ss:List α) {is:List Value} (r:Vals (ss.map k.up) is) (i:Nat) (v:Value) (h:is[i]? =some v):RelV (k.up (ss.getD i k.d)) v:=by
 have hl:=r.length
 rw[List.length_map] at hl
 obtain ⟨hi,_⟩:=List.getElem?_eq_some_iff.mp h
 have hi':i<ss.length:=by lia
 obtain ⟨u,e,ru⟩:=r.get (i:=i) (x:=k.up ss[i]) (by rw[List.getElem?_map,List.getElem?_eq_getElem hi']; rfl)
 rw[h] at e
 cases e
 rw[List.getD_eq_getElem?_getD,List.getElem?_eq_getElem hi']
 exact ru
theorem qmc {pins:List (Addr×Obj)} {σ:St} {H:Hp} {s:Shared} {Q:Addr->List α->Hp->Prop} (hc:X.calm=true) (gt:Gl X "set") (mt:X.mg "set" =none) (ha:PE X a t) (hmono: ∀σ H (Q Q':VK),(∀v H1,Q v H1->Q' v H1)->t σ H Q->t σ H Q')
  (he:starEach [a] X.env=(false,eval a X.env)::starEach [] X.env) (I:Inv X pins σ H s)
  (h:t σ H λv H1=> ∃l ss,v= .ref l/\SqL X.K H1 l (ss.map k.up)/\ss.length<64/\Q l ss H1):
  wpAny (model X.prog X.w) X.A (eval (.Call (.Name "set" p2) [a] [] p3) X.env) (λu s'=> ∃S l ss H1,u= .ref S/\Inv X pins σ H1 s'/\ss.length<64/\qjC k.knd s'.heap S (mem (λi=>ss.getD i k.d) ss.length) (cnt (λi=>ss.getD i k.d) ss.length)/\Q l ss H1) X.xe s:=by
 refine wpAny_Call_Name_kw (qd4 I gt mt qns ?_)
 refine PyProof.Rows.callWith_type1 ?_ he rfl
 refine thn (qao ha qaF he p3 pins s σ H (λvs H1=> ∃l ss,vs=[.ref l]/\SqL X.K H1 l (ss.map k.up)/\ss.length<64/\Q l ss H1) I (hmono σ H _ _ (λv H1 ⟨l,ss,e,r⟩=>⟨l,ss,by rw[e],r⟩) h)) λus s1 hq32=> ?_
 obtain ⟨vs,H1,I1,r1,q1⟩:=hq32
 obtain ⟨l,ss,rfl,hS,h64,q⟩:=q1
 cases r1 with
 | cons r rr=>
  cases rr
  cases r
  obtain ⟨its,rv,pl,hz⟩:=I1.list hS
  have hl:=rv.length
  rw[List.length_map] at hl
  have hh:X.A.handled=none:=I1.ok.hd hc
  refine qq9 (knd:=k.knd) (key:=λi=>ss.getD i k.d) hh pl.isList (λi v hv=> ?_) ?_ λh' tk S' kp=> ?_
  ·exact k.isv _ _ (qn9 k ss rv i v (by simpa using hv))
  ·rw[List.size_toArray]
   have:scanBound=2 ^ 24\/100<scanBound:=.inr (by decide)
   rcases this with z | z<;>lia
  ·refine ⟨_,l,ss,H1,rfl,I1.kept kp,h64,?_,q⟩
   have e:its.toArray.size=ss.length:=by rw[List.size_toArray]; lia
   rw[e] at S'
   exact S'
def tSS (k:Kd X.prog X.w α) (t:TE):TE:=λσ H Q=>t σ H λv H1=> ∃l ss,v= .ref l/\SqL X.K H1 l (ss.map k.up)/\ss.length<64/\∀D,H1 D=none->Q (.ref D) (upd H1 D (.lst ((qa9 k.lt (dd ss)).map k.up)))
theorem qfH (hc:X.calm=true) (gs:Gl X "sorted") (ms:X.mg "sorted" =none) (gt:Gl X "set") (mt:X.mg "set" =none) (ha:PE X a t) (hmono: ∀σ H (Q Q':VK),(∀v H1,Q v H1->Q' v H1)->t σ H Q->t σ H Q') (he:starEach [a] X.env=(false,eval a X.env)::starEach [] X.env:=by rfl):
  PE X (.Call (.Name "sorted" p1) [.Call (.Name "set" p2) [a] [] p3] [] pos) (tSS k t):=by
 intro pins s σ H Q I h
 refine wpAny_Call_Name_kw (qd4 I gs ms boot_sorted ?_)
 refine PyProof.Rows.callWith_builtin1 (Calls.spliced_cons (thn (qmc k (Q:=λl ss H1=> ∀D,H1 D=none->Q (.ref D) (upd H1 D (.lst ((qa9 k.lt (dd ss)).map k.up)))) hc gt mt ha hmono he I h) λu s1 ⟨S,l,ss,H1,eu,I1,h64,hS,q⟩=> ?_)) rfl rfl
 subst eu
 refine Calls.spliced_nil ?_
 have hh:X.A.handled=none:=I1.ok.hd hc
 refine qiX k (ss:=ss) hh hS h64 λh1 D h' d tk c vs k1 hD k2 hg rv=> ?_
 have I2:=qs3 (d:=d) (tk:=tk) I1 k1
 have fD:H1 D=none:=I2.hok.fresh hD
 have I3:Inv X pins σ (upd H1 D (.lst ((qa9 k.lt (dd ss)).map k.up))) { s1 with heap:=h',drawn:=d,toks:=tk }:=by
  refine I2.laid (h':=h') (t':=tk) k2 hD ⟨?_,_,c,rv,hg⟩
  rw[List.length_map,sizeLine_eq]
  have:=(qbt (k:=qbJ k.lt (dd ss)) (dd ss)).length_eq
  have e:(qa9 k.lt (dd ss)).length=(dd ss).length:=this
  have:=qpe ss
  lia
 exact ⟨.ref D,_,I3,rfl,q D fD⟩
end
end SetL
end
section
namespace PL
open PySem L2 SR SetL
inductive Ky where
 | i (n:Int) | s (x:Str)
 deriving DecidableEq
def qmL:Ky->Ky->Bool
 | .i a,.i b=>decide (a<b)
 | .i _,.s _=>true
 | .s _,.i _=>false
 | .s a,.s b=>RH.ltS a b
theorem qoA:Ord qmL where
 irr:=λa=>by
  cases a with
  | i n=>exact decide_eq_false (Int.lt_irrefl n)
  | s x=>exact RH.ordS.irr x
 tr:=λa b c h1 h2=>match a,b,c,h1,h2 with
  | .i _,.i _,.i _,h1,h2=>decide_eq_true (Int.lt_trans (of_decide_eq_true h1) (of_decide_eq_true h2))
  | .i _,.i _,.s _,_,_=>rfl
  | .i _,.s _,.i _,_,h2=>nomatch h2
  | .i _,.s _,.s _,_,_=>rfl
  | .s _,.i _,_,h1,_=>nomatch h1
  | .s _,.s _,.i _,_,h2=>nomatch h2
  | .s _,.s _,.s _,h1,h2=>RH.ordS.tr _ _ _ h1 h2
 tot:=λa b h1 h2=>match a,b,h1,h2 with
  | .i x,.i y,h1,h2=>by
   have e1: ¬x<y:=of_decide_eq_false h1
   have e2: ¬y<x:=of_decide_eq_false h2
   congr 1; lia
  | .i _,.s _,h1,_=>nomatch h1
  | .s _,.i _,_,h2=>nomatch h2
  | .s x,.s y,h1,h2=>congrArg Ky.s (RH.ordS.tot x y h1 h2)
def qbW:List Ky->List Ky->Bool
 | [],[]=>false
 | [],_::_=>true
 | _::_,[]=>false
 | a::as,b::bs=>if a=b then qbW as bs else qmL a b
theorem qii: ∀a,qbW a a=false
 | []=>rfl
 | a::as=>by
  show (if a=a then qbW as as else qmL a a)=false
  rw[if_pos rfl]; exact qii as
theorem qkG: ∀a b c,qbW a b=true->qbW b c=true->qbW a c=true
 | [],[],_,h,_=>by cases h
 | [],_::_,[],_,h=>by cases h
 | [],_::_,_::_,_,_=>rfl
 | _::_,[],_,h,_=>by cases h
 | _::_,_::_,[],_,h=>by cases h
 | a::as,b::bs,c::cs,h1,h2=>by
  have h1':(if a=b then qbW as bs else qmL a b)=true:=h1
  have h2':(if b=c then qbW bs cs else qmL b c)=true:=h2
  show (if a=c then qbW as cs else qmL a c)=true
  by_cases e1:a=b
  ·subst e1
   rw[if_pos rfl] at h1'
   by_cases e2:a=c
   ·rw[if_pos e2] at h2'⊢; exact qkG as bs cs h1' h2'
   ·rw[if_neg e2] at h2'⊢; exact h2'
  ·rw[if_neg e1] at h1'
   by_cases e2:b=c
   ·subst e2
    rw[if_neg e1]; exact h1'
   ·rw[if_neg e2] at h2'
    have t:=qoA.tr _ _ _ h1' h2'
    by_cases e3:a=c
    ·subst e3; rw[qoA.irr] at t; cases t
    ·rw[if_neg e3]; exact t
theorem qih: ∀a b,qbW a b=false->qbW b a=false->a=b
 | [],[],_,_=>rfl
 | [],_::_,h,_=>by cases h
 | _::_,[],_,h=>by cases h
 | a::as,b::bs,h1,h2=>by
  have h1':(if a=b then qbW as bs else qmL a b)=false:=h1
  have h2':(if b=a then qbW bs as else qmL b a)=false:=h2
  by_cases e:a=b
  ·subst e
   rw[if_pos rfl] at h1' h2'
   rw[qih as bs h1' h2']
  ·rw[if_neg e] at h1'
   rw[if_neg (Ne.symm e)] at h2'
   exact absurd (qoA.tot _ _ h1' h2') e
theorem qmF:Ord qbW:=⟨qii,qkG,qih⟩
def kyT:T->Ky
 | .int i=>.i i
 | .str x=>.s x
 | _=>.i 0
def qcP:T->List Ky
 | .int i=>[.i i]
 | .str x=>[.s x]
 | .tup ts=>ts.map kyT
 | _=>[]
def shT:T->Nat
 | .int _=>0
 | .str _=>1
 | _=>9
def qbZ:T->List Nat
 | .int _=>[0]
 | .str _=>[1]
 | .tup ts=>2::ts.map shT
 | _=>[9]
def qc5:List Nat->Bool
 | [0]=>true
 | [1]=>true
 | 2::x::r=>(x::r).all λn=>n==0||n==1
 | _=>false
def qb9:List T->Bool
 | []=>true
 | t::ts=>qc5 (qbZ t)&&ts.all λu=>qbZ u==qbZ t
def qdj {α:Type} (f:α->List Ky) (ts:List α):List α:=srt (λt=>qbJ qbW (ts.map f) (f t)) ts
def qdQ (ts:List T):List T:=qdj qcP ts
section
variable {prog:Program} {w:World} {A:Around} {s:Shared}
open PySem.W PyProof.Rows
def kyV:Ky->V
 | .i n=>.int n
 | .s x=>.str x
def shK:Ky->Nat
 | .i _=>0
 | .s _=>1
theorem qrk {C:Bool->Shared->Prop}: ∀(as bs:List Ky) (us vs:List Value) (i:Nat),Vals (as.map kyV) us->Vals (bs.map kyV) vs->as.map shK=bs.map shK->C (qbW as bs) s->KatLex prog w A true false C (us.zip vs) i s
 | [],[],_,_,i,.nil,.nil,_,h=>kat_nil h
 | [],_::_,_,_,_,_,_,hs,_=>by cases hs
 | _::_,[],_,_,_,_,_,hs,_=>by cases hs
 | a::as,b::bs,_,_,i,.cons (l₂:=us) ra rs,.cons (l₂:=vs) rb rt,hs,h=>by
  have hs1:shK a=shK b:=(List.cons.inj hs).1
  have hs2:as.map shK=bs.map shK:=(List.cons.inj hs).2
  have h':C (if a=b then qbW as bs else qmL a b) s:=h
  have go: ∀{p q:Value} {rr:List (Value×Value)} {e:Bool},MeetsSeq.EqGives p q e->(e=true->KatLex prog w A true false C rr (i+1) s)->(e=false->wpAny (model prog w) A (oneLt' (true&&i==0) p q) C (λ_ _=>False) s)->KatLex prog w A true false C ((p,q)::rr) i s:=λ{p q rr e} he h1 h2=>by
   refine kat_cons (he prog w A _ s _ ?_)
   cases e with
   | true=>exact kat_yes (h1 rfl)
   | false=>exact kat_no (h2 rfl)
  cases a with
  | i x=>
   cases b with
   | i y=>
    obtain ⟨t1,rfl⟩:=ra
    obtain ⟨t2,rfl⟩:=rb
    refine go (MeetsSeq.EqGives.int _ _ _ _) (λe=> ?_) (λe=> ?_)
    ·have e':=eq_of_beq e
     rw[if_pos (by rw[e'])] at h'
     exact qrk as bs us vs (i+1) rs rt hs2 h'
    ·have e': ¬Ky.i x=Ky.i y:=λz=>by cases z; rw[beq_self_eq_true] at e; cases e
     rw[if_neg e'] at h'
     cases z:(i==0) with
     | true=>exact oneLt_int h'
     | false=>exact kat_one _ _ (lt_int (show PySem.W.BoolBack C (.bool _) s from h'))
   | s y=>cases hs1
  | s x=>
   cases b with
   | i y=>cases hs1
   | s y=>
    obtain ⟨t1,rfl⟩:=ra
    obtain ⟨t2,rfl⟩:=rb
    have es:MeetsSeq.EqGives (.str x t1) (.str y t2) (decide (x=y)):=λ_ _ _ _ _ _ hq=>wpAny_eqBool_str hq
    refine go es (λe=> ?_) (λe=> ?_)
    ·have e':=of_decide_eq_true e
     rw[if_pos (by rw[e'])] at h'
     exact qrk as bs us vs (i+1) rs rt hs2 h'
    ·have e': ¬Ky.s x=Ky.s y:=λz=>by cases z; simp at e
     rw[if_neg e'] at h'
     cases z:(i==0) with
     | true=>exact oneLt_str h'
     | false=>exact kat_one _ _ (PySem.P.lt_str (show PySem.W.BoolBack C (.bool _) s from h'))
end
end PL
end
section
namespace PL
open PySem L2 SR SetL
section
variable {K:PySem.W.Frag} {B:Hp}
def qea (t:T):Bool:=shT t==0||shT t==1
theorem qfE {t:T} {v:V} (h:qea t=true) (r:Rep K B t v):v=kyV (kyT t)/\shT t=shK (kyT t):=by
 cases t with
 | int i=>exact ⟨qas r,rfl⟩
 | str x=>exact ⟨qaM r,rfl⟩
 | non=>cases (show false=true from h)
 | bl b=>cases (show false=true from h)
 | tup b=>cases (show false=true from h)
 | lst b=>cases (show false=true from h)
 | dct b=>cases (show false=true from h)
 | dtu b=>cases (show false=true from h)
 | dcf b=>cases (show false=true from h)
 | fn b=>cases (show false=true from h)
 | scr b=>cases (show false=true from h)
theorem qgd: ∀{us:List T} {ws:List V},us.all qea=true->qaK K B us ws->ws=(us.map kyT).map kyV/\us.map shT=(us.map kyT).map shK
 | [],_,_,r=>⟨r.inv0,rfl⟩
 | u::us,_,h,r=>by
  obtain ⟨v,rr,rfl,a,b⟩:=r.inv
  rw[List.all_cons,Bool.and_eq_true] at h
  obtain ⟨e1,e2⟩:=qfE h.1 a
  obtain ⟨e3,e4⟩:=qgd h.2 b
  refine ⟨by rw[List.map_cons,List.map_cons,<-e1,<-e3],?_⟩
  rw[List.map_cons,List.map_cons,List.map_cons,e2,e4]
end
theorem qcT {ts:List T} (h:qb9 ts=true) {t:T} (ht:t∈ts): ∃s0,qc5 s0=true/\∀u∈ts,qbZ u=s0:=by
 cases ts with
 | nil=>cases ht
 | cons t0 ts=>
  have h':(qc5 (qbZ t0)&&ts.all λu=>qbZ u==qbZ t0)=true:=h
  rw[Bool.and_eq_true] at h'
  refine ⟨qbZ t0,h'.1,λu hu=> ?_⟩
  rcases List.mem_cons.mp hu with rfl | hu
  ·rfl
  ·exact eq_of_beq (List.all_eq_true.mp h'.2 u hu)
theorem qj9 {t:T} (h:qbZ t=[0]): ∃i,t= .int i:=by
 cases t with
 | int i=>exact ⟨i,rfl⟩
 | _=>cases h
theorem qj8 {t:T} (h:qbZ t=[1]): ∃x,t= .str x:=by
 cases t with
 | str i=>exact ⟨i,rfl⟩
 | _=>cases h
theorem qj7 {t:T} {x:Nat} {r:List Nat} (h:qbZ t=2::x::r): ∃us,t= .tup us/\us.map shT=x::r:=by
 cases t with
 | tup us=>exact ⟨us,rfl,(List.cons.inj h).2⟩
 | _=>cases h
theorem qlg {us:List T} {l:List Nat} (h:us.map shT=l) (ho:l.all (λn=>n==0||n==1)=true):us.all qea=true:=by
 subst h
 rw[List.all_map] at ho
 refine List.all_eq_true.mpr λu hu=> ?_
 exact List.all_eq_true.mp ho u hu
theorem qdr {s0:List Nat} (h:qc5 s0=true):s0=[0]\/s0=[1]\/∃x r,s0=2::x::r/\(x::r).all (λn=>n==0||n==1)=true:=by
 unfold qc5 at h
 split at h
 ·exact .inl rfl
 ·exact .inr (.inl rfl)
 ·exact .inr (.inr ⟨_,_,rfl,h⟩)
 ·cases h
open PySem.W PyProof.Rows in
theorem qkN {prog:Program} {w:World} {A:Around} {E:Value->Shared->Prop} {s:Shared} {Q:SortKind->Shared->Prop} (its:List Value) (h2:2<=its.length) (hv: ∀v∈its,∃x t,v= .str x t) (hq:Q oneType' s):wpAny (model prog w) A (keyKind' its.toArray) Q E s:=
 match its,h2,hv with
 | v1::v2::vs',_,hv=>by
  rw[keyKind_strs (strsAre_map _ hv)]
  exact wpAny_pure hq
theorem qdV {h:Heap} {P:Value->Prop}: ∀(l:List Value),(∀v∈l,∃f,(∃a o xs n,v= .ref a/\h.get? a=some o/\o.cls= .type "tuple" /\o.data= .seq xs n/\xs[0]? =some f)/\P f)->∃fs,PySem.W.KatTups h l fs/\fs.length=l.length/\∀f∈fs,P f
 | [],_=>⟨[],trivial,rfl,λ_ hf=>nomatch hf⟩
 | v::l,hl=>by
  obtain ⟨f,h1,h2⟩:=hl v List.mem_cons_self
  obtain ⟨fs,h3,h4,h5⟩:=qdV l λu hu=>hl u (List.mem_cons_of_mem _ hu)
  refine ⟨f::fs,⟨h1,h3⟩,by simp[h4],λg hg=> ?_⟩
  rcases List.mem_cons.mp hg with rfl | hg
  ·exact h2
  ·exact h5 g hg
section
variable {X:Cx}
open PySem.W PyProof.Rows in
theorem qgL:qdf X (.builtin "sorted") (λxs H Q=> ∃(B:Hp) (a:Addr) (vs:List V) (ts:List T),xs=[.ref a]/\Le B H/\SqL X.K H a vs/\qaK X.K B ts vs/\ts.length<64/\qb9 ts=true/\
  ∀(D:Addr) (ys:List V),H D=none->qaK X.K B (qdQ ts) ys->Q (.ref D) (L2.upd H D (.lst ys))):=by
 intro pins s σ H xs us Q I r h
 obtain ⟨B,a,vs,ts,rfl,le,hS,hR,h64,hok,q⟩:=h
 obtain ⟨u,rfl,ru⟩:=qeW r
 cases ru
 obtain ⟨its,rv,pl,hz⟩:=I.list hS
 have l1:=rv.length
 have l2:=hR.length
 have elem: ∀{m:Nat},m<ts.length->Rep X.K B (ts.getD m .non) (vs.getD m .non)/\RelV (vs.getD m .non) (its.getD m Value.none)/\ts.getD m .non∈ts:=λ{m} hm=>⟨hR.getD m hm,qeo rv m,by
  rw[List.getD_eq_getElem?_getD,List.getElem?_eq_getElem hm]; exact List.getElem_mem hm⟩
 have key1: ∀{m:Nat},m<ts.length->((ts.map qcP).map (qbJ qbW (ts.map qcP))).getD m 0=qbJ qbW (ts.map qcP) (qcP (ts.getD m .non)):=λ{m} hm=>by
  rw[List.getD_eq_getElem?_getD,List.getElem?_map,List.getElem?_map,List.getElem?_eq_getElem hm,List.getD_eq_getElem?_getD,List.getElem?_eq_getElem hm]
  rfl
 have main: ∀κ:SortKind,(∀s':Shared,St.Kp s.heap s'.heap->2<=its.length->∀(Q:SortKind->Shared->Prop) (E:Value->Shared->Prop),Q κ s'->wpAny (model X.prog X.w) X.A.in1.in1 (keyKind' its.toArray) Q E s')->
   (∀s':Shared,St.Kp s.heap s'.heap->∀i j,i<ts.length->j<ts.length->∀C:Bool->Shared->Prop,C (qbW (qcP (ts.getD i .non)) (qcP (ts.getD j .non))) s'->wpAny (model X.prog X.w) X.A.in1.in1 (keyLt' κ (its.getD i Value.none) (its.getD j Value.none)) C (λ_ _=>False) s')->
   wpAny (model X.prog X.w) X.A (call (.builtin "sorted") [.ref a]) (EP X pins σ Q) X.xe s:=λκ kind cmp=>by
  refine St.sorted_p (kz:=(ts.map qcP).map (qbJ qbW (ts.map qcP))) (κ:=κ) pl.isList (by simp; lia) (by lia) kind (λs' k i j hi hj C hc=> ?_) λD h' tk c p hD kp ho hget=> ?_
  ·have hi':i<ts.length:=by lia
   have hj':j<ts.length:=by lia
   rw[key1 hi',key1 hj',qb0 qmF (List.mem_map.mpr ⟨_,(elem hi').2.2,rfl⟩) (List.mem_map.mpr ⟨_,(elem hj').2.2,rfl⟩)] at hc
   exact cmp s' k i j hi' hj' C hc
  ·have fD:H D=none:=I.hok.fresh hD
   have I3:Inv X pins σ (L2.upd H D (.lst (p.toList.map λj=>vs.getD j .non))) { s with heap:=h',toks:=tk }:=by
    refine I.laid kp hD ⟨?_,_,c,L2.vals_pick rv p.toList,hget⟩
    rw[List.length_map,Array.length_toList,ho.1.sz,sizeLine_eq]
    lia
   refine ⟨.ref D,_,I3,rfl,q D _ fD ?_⟩
   have ep:=qdq ho
   have e:qdQ ts=p.toList.map λj=>ts.getD j .non:=by
    unfold qdQ qdj
    rw[ep,srt_congr (k':=λj=>qbJ qbW (ts.map qcP) (qcP (ts.getD j .non))),qbY (k:=λt=>qbJ qbW (ts.map qcP) (qcP t)) (f:=λj=>ts.getD j .non) (λb=>rfl),show its.length=ts.length by lia,Mir.map_range_getD]
    intro b hb
    have hb':b<ts.length:=by have:=List.mem_range.mp hb; lia
    exact key1 hb'
   rw[e]
   have go: ∀l:List Nat,(∀j∈l,j<ts.length)->qaK X.K B (l.map λj=>ts.getD j .non) (l.map λj=>vs.getD j .non):=λl=>by
    induction l with
    | nil=>exact λ_=>.nil
    | cons j l ih=>exact λhl=>.cons (elem (hl j List.mem_cons_self)).1 (ih λi hi=>hl i (List.mem_cons_of_mem _ hi))
   exact go _ λj hj=>by have:=(Mir.order_mem ho j).mp hj; lia
 rcases Nat.eq_zero_or_pos ts.length with z | z
 ·exact main oneType' (λs' k h2=>by lia) (λs' k i j hi=>by lia)
 ·obtain ⟨s0,ok0,sh⟩:=qcT hok (elem z).2.2
  have hInts:s0=[0]->wpAny (model X.prog X.w) X.A (call (.builtin "sorted") [.ref a]) (EP X pins σ Q) X.xe s:=λe0=>by
   have at_: ∀{m:Nat},m<ts.length->∃n t,ts.getD m .non= .int n/\its.getD m Value.none= .int n t:=λ{m} hm=>by
    obtain ⟨a1,a2,a3⟩:=elem hm
    obtain ⟨n,en⟩:=qj9 (e0▸sh _ a3)
    rw[en] at a1
    rw[qas a1] at a2
    obtain ⟨t,et⟩:=a2
    exact ⟨n,t,en,et⟩
   refine main oneType' (λs' k h2 Q' E' hq=> ?_) (λs' k i j hi hj C hc=> ?_)
   ·have hI: ∀l:List Value,(∀v∈l,∃n t,v= .int n t)->∃ns,IntsAre l ns:=λl=>by
     induction l with
     | nil=>exact λ_=>⟨[],.nil⟩
     | cons v l ih=>
      intro hl
      obtain ⟨n,t,rfl⟩:=hl v List.mem_cons_self
      obtain ⟨ns,hn⟩:=ih λu hu=>hl u (List.mem_cons_of_mem _ hu)
      exact ⟨n::ns,.cons n t hn⟩
    obtain ⟨ns,hns⟩:=hI its λv hv=>by
     obtain ⟨m,hm,rfl⟩:=List.mem_iff_getElem.mp hv
     obtain ⟨n,t,_,e⟩:=at_ (m:=m) (by lia)
     rw[List.getD_eq_getElem?_getD,List.getElem?_eq_getElem hm] at e
     exact ⟨n,t,e⟩
    rw[ksk_kind (keys:=its.toArray) (by simpa using hns) (by simpa using h2)]
    exact wpAny_pure hq
   ·obtain ⟨n1,t1,f1,g1⟩:=at_ hi
    obtain ⟨n2,t2,f2,g2⟩:=at_ hj
    rw[g1,g2]
    rw[f1,f2] at hc
    refine kat_lt_int ?_
    have e:qbW (qcP (.int n1)) (qcP (.int n2))=decide (n1<n2):=by
     show (if Ky.i n1=Ky.i n2 then false else decide (n1<n2))=_
     by_cases c:n1=n2
     ·subst c; rw[if_pos rfl]; exact (decide_eq_false (Int.lt_irrefl _)).symm
     ·rw[if_neg (λz=>c (by cases z; rfl))]
    rw[<-e]; exact hc
  have hStrs:s0=[1]->wpAny (model X.prog X.w) X.A (call (.builtin "sorted") [.ref a]) (EP X pins σ Q) X.xe s:=λe0=>by
   have at_: ∀{m:Nat},m<ts.length->∃n t,ts.getD m .non= .str n/\its.getD m Value.none= .str n t:=λ{m} hm=>by
    obtain ⟨a1,a2,a3⟩:=elem hm
    obtain ⟨n,en⟩:=qj8 (e0▸sh _ a3)
    rw[en] at a1
    rw[qaM a1] at a2
    obtain ⟨t,et⟩:=a2
    exact ⟨n,t,en,et⟩
   refine main oneType' (λs' k h2 Q' E' hq=> ?_) (λs' k i j hi hj C hc=> ?_)
   ·have hv': ∀v∈its,∃x t,v= .str x t:=λv hv=>by
     obtain ⟨m,hm,rfl⟩:=List.mem_iff_getElem.mp hv
     obtain ⟨n,t,_,e⟩:=at_ (m:=m) (by lia)
     rw[List.getD_eq_getElem?_getD,List.getElem?_eq_getElem hm] at e
     exact ⟨n,t,e⟩
    exact qkN its h2 hv' hq
   ·obtain ⟨n1,t1,f1,g1⟩:=at_ hi
    obtain ⟨n2,t2,f2,g2⟩:=at_ hj
    rw[g1,g2]
    rw[f1,f2] at hc
    refine kas_lt_str ?_
    have e:qbW (qcP (.str n1)) (qcP (.str n2))=decide (n1.cps.toList<n2.cps.toList):=by
     show (if Ky.s n1=Ky.s n2 then false else RH.ltS n1 n2)=_
     by_cases c:n1=n2
     ·subst c; rw[if_pos rfl]; exact (RH.ordS.irr n1).symm
     ·rw[if_neg (λz=>c (by cases z; rfl))]; rfl
    rw[<-e]; exact hc
  have hTups: ∀x r,s0=2::x::r->(x::r).all (λn=>n==0||n==1)=true->wpAny (model X.prog X.w) X.A (call (.builtin "sorted") [.ref a]) (EP X pins σ Q) X.xe s:=λx r e0 ho=>by
   have at_: ∀{m:Nat},m<ts.length->∃us p its2,ts.getD m .non= .tup us/\us.map shT=x::r/\its.getD m Value.none= .ref p/\IsTup s.heap p (List.toArray its2)/\Vals ((us.map kyT).map kyV) its2/\(us.map kyT).map shK=x::r:=λ{m} hm=>by
    obtain ⟨a1,a2,a3⟩:=elem hm
    obtain ⟨us,en,es⟩:=qj7 (e0▸sh _ a3)
    rw[en] at a1
    obtain ⟨p,ws,ep,sq,rs⟩:=qbf a1
    rw[ep] at a2
    have g:its.getD m Value.none= .ref p:=a2
    obtain ⟨its2,rv2,pl2,_⟩:=I.tuple (le.sqT sq)
    obtain ⟨f1,f2⟩:=qgd (qlg es ho) rs
    exact ⟨us,p,its2,en,es,g,pl2,f1▸rv2,f2▸es⟩
   refine main (tuples' true) (λs' k h2 Q' E' hq=> ?_) (λs' k i j hi hj C hc=> ?_)
   ·have hx:x=0\/x=1:=by
     rw[List.all_cons,Bool.and_eq_true] at ho
     have:=ho.1
     simpa using this
    have fst: ∀v∈its,∃f,(∃a o xs n,v= .ref a/\s'.heap.get? a=some o/\o.cls= .type "tuple" /\o.data= .seq xs n/\xs[0]? =some f)/\((x=0/\∃i t,f=Value.int i t)\/(x=1/\∃i t,f=Value.str i t)):=λv hv=>by
     obtain ⟨m,hm,rfl⟩:=List.mem_iff_getElem.mp hv
     obtain ⟨us,p,w1,f1,_,g1,i1,v1,k1⟩:=at_ (m:=m) (by lia)
     rw[List.getD_eq_getElem?_getD,List.getElem?_eq_getElem hm] at g1
     obtain ⟨o1,e1,c1,n1,d1⟩:=i1
     cases hk:us.map kyT with
     | nil=>rw[hk] at k1; cases k1
     | cons ky kr=>
      rw[hk] at v1 k1
      cases v1 with
      | cons r0 rr=>
       have ks:shK ky=x:=(List.cons.inj k1).1
       cases ky with
       | i n=>
        obtain ⟨tk,rfl⟩:=r0
        exact ⟨_,⟨p,o1,_,n1,g1,k _ _ e1,c1,d1,rfl⟩,.inl ⟨ks.symm,n,tk,rfl⟩⟩
       | s n=>
        obtain ⟨tk,rfl⟩:=r0
        exact ⟨_,⟨p,o1,_,n1,g1,k _ _ e1,c1,d1,rfl⟩,.inr ⟨ks.symm,n,tk,rfl⟩⟩
    obtain ⟨fs,k1,k2,k3⟩:=qdV its fst
    rcases hx with rfl | rfl
    ·refine PySem.W.kat_kind k1 (by lia) (T:=.type "int") (λv hv=> ?_) (by decide) ?_
     ·rcases k3 v hv with ⟨_,i,t,rfl⟩ | ⟨z,_⟩
      ·exact PySem.W.Looks.of_pure rfl
      ·cases z
     ·exact hq
    ·refine PySem.W.kat_kind k1 (by lia) (T:=.type "str") (λv hv=> ?_) (by decide) ?_
     ·rcases k3 v hv with ⟨z,_⟩ | ⟨_,i,t,rfl⟩
      ·cases z
      ·exact PySem.W.Looks.of_pure rfl
     ·exact hq
   ·obtain ⟨u1,p1,w1,f1,_,g1,i1,v1,k1⟩:=at_ hi
    obtain ⟨u2,p2,w2,f2,_,g2,i2,v2,k2⟩:=at_ hj
    rw[g1,g2]
    rw[f1,f2] at hc
    obtain ⟨o1,e1,_,n1,d1⟩:=i1
    obtain ⟨o2,e2,_,n2,d2⟩:=i2
    refine kat_lt (k _ _ e1) d1 (k _ _ e2) d2 ?_
    have hl:w1.length=w2.length:=by
     have h1:=v1.length
     have h2:=v2.length
     have h3:=congrArg List.length (k1.trans k2.symm)
     simp only[List.length_map] at h1 h2 h3
     lia
    rw[show decide ((List.toArray w1).size<(List.toArray w2).size)=false by simp[hl]]
    exact qrk _ _ _ _ 0 v1 v2 (k1.trans k2.symm) hc
  rcases qdr ok0 with e | e | ⟨x,r,e,ho⟩
  ·exact hInts e
  ·exact hStrs e
  ·exact hTups x r e ho
end
end PL
end
section
namespace PL
open PySem L2 SR SetL
section
variable {M:Md} {X:Cx} {e a b:Expr} {pos p1 p2 p3:Pos} {da db:Ro->Rs T} {dq:Ro->Rs (Bool×List T)}
theorem tQ.mono {σ:St} {H:Hp} {Q Q':VK} (f: ∀v H1,Q v H1->Q' v H1) (h:tQ M dq σ H Q):tQ M dq σ H Q':=by
 obtain ⟨H0,B0,ρ,B,ev,w⟩:=h
 exact tQ.of ev (Wnt.mono (qdJ.mp w) λq k p vs H' B' g m hq r=>f _ _ (k p vs H' B' g m hq r))
def qff:T->Str
 | .str x=>x
 | _=> ""
def qkZ:T->Bool
 | .str _=>true
 | _=>false
theorem qgb {K:PySem.W.Frag} {B:Hp}: ∀{ts:List T} {vs:List V},ts.all qkZ=true->qaK K B ts vs->vs=(ts.map qff).map V.str
 | [],_,_,r=>r.inv0
 | t::ts,_,h,r=>by
  obtain ⟨v,rr,rfl,a,b⟩:=r.inv
  rw[List.all_cons,Bool.and_eq_true] at h
  cases t with
  | str x=>rw[qaM a,qgb h.2 b]; rfl
  | _=>exact absurd h.1 Bool.false_ne_true
theorem qd1 {K:PySem.W.Frag} {B:Hp}: ∀(ss:List Str),qaK K B (ss.map T.str) (ss.map V.str)
 | []=>.nil
 | s::ss=>.cons qia (qd1 ss)
def qmU (ss:List Str):List Str:=qa9 RH.ltS (dd ss)
def qkO (q:Bool×List T):Rs (List T):=if (q.1=true/\q.2.length<64)/\q.2.all qkZ=true then .ok ((qmU (q.2.map qff)).map T.str) else .no
theorem qpb (hc:X.calm=true) (gs:Gl X "sorted") (ms:X.mg "sorted" =none) (gt:Gl X "set") (mt:X.mg "set" =none) (ha:DQ M X a dq) (he:starEach [a] X.env=(false,eval a X.env)::starEach [] X.env:=by rfl):
  DF M X (.Call (.Name "sorted" p1) [.Call (.Name "set" p2) [a] [] p3] [] pos) (qek qkO dq):=by
 refine PE.weak (qfH (qrJ X.prog X.w) hc gs ms gt mt ha (λσ H Q Q' f h=>tQ.mono f h) he) λσ H Q hq35=> ?_
 obtain ⟨H0,B0,ρ,B,ev,w⟩:=hq35
 refine tQ.of ev (Wnt.mono (Wnt.bind (qcc.mp w)) λq w1 p vs H1 B1 g1 m1 hq r1=> ?_)
 have ev1:=ev.grow g1 m1
 unfold qkO at w1
 split at w1
 ·rename_i hcc
  rw[if_pos hcc.1.1] at hq
  refine ⟨p,q.2.map qff,rfl,SqL.of (by rw[qgb hcc.2 r1] at hq; exact hq),by rw[List.length_map]; exact hcc.1.2,λD hD=> ?_⟩
  obtain ⟨g,m',bp⟩:=qcL (M:=M) (ws:=(qmU (q.2.map qff)).map V.str) ev1.bh ev1.bt m1 hD
  exact w1 D _ _ B1 (g1.trans g) m' (qb2 g1.gx hD) bp qak (qd1 _)
 ·exact w1.elim
def qk1:T->Bool
 | .int _=>true
 | _=>false
def qgu:T->Int
 | .int b=>b
 | _=>0
theorem qgc {K:PySem.W.Frag} {B:Hp}: ∀{ts:List T} {vs:List V},ts.all qk1=true->qaK K B ts vs->vs=(ts.map qgu).map V.int
 | [],_,_,r=>r.inv0
 | t::ts,_,h,r=>by
  obtain ⟨v,rr,rfl,a,b⟩:=r.inv
  rw[List.all_cons,Bool.and_eq_true] at h
  cases t with
  | int x=>rw[qas a,qgc h.2 b]; rfl
  | _=>exact absurd h.1 Bool.false_ne_true
def qi0 (q:Bool×List T):Rs (List T):=if (q.1=true/\q.2.length<64)/\qb9 q.2=true then .ok (qdQ q.2) else .no
theorem qls (h:PE X e (tCB (λxs H Q=> ∃(B:Hp) (a:Addr) (vs:List V) (ts:List T),xs=[.ref a]/\Le B H/\SqL X.K H a vs/\qaK X.K B ts vs/\ts.length<64/\qb9 ts=true/\
  ∀(D:Addr) (ys:List V),H D=none->qaK X.K B (qdQ ts) ys->Q (.ref D) (L2.upd H D (.lst ys))) (qcv (tQ M dq) qhL))) (hK:X.K=M.K:=by rfl):DF M X e (qek qi0 dq):=
 qnS h (λH B p vs q c Q le bt m hq r ec k=>by
  unfold qi0 at ec
  split at ec
  ·rename_i hcc
   cases ec
   unfold qiQ at hq
   rw[if_pos hcc.1.1] at hq
   refine ⟨B,p,vs,q.2,rfl,le,SqL.of hq,by rw[hK]; exact r,hcc.1.2,hcc.2,λD ys hD ry=> ?_⟩
   obtain ⟨g,m',bp⟩:=qcL (M:=M) (ws:=ys) le bt m hD
   exact k D ys _ B g m' hD bp qak (by rw[<-hK]; exact ry)
  ·cases ec) (λq c z=>by unfold qi0 at z; split at z<;>cases z)
def qmX:T->Bool
 | .bl _=>true
 | _=>false
def qlN:T->Bool
 | .bl b=>b
 | _=>false
theorem qhZ {K:PySem.W.Frag} {B:Hp}: ∀{ts:List T} {vs:List V},ts.all qmX=true->qaK K B ts vs->vs=(ts.map qlN).map V.bl
 | [],_,_,r=>r.inv0
 | t::ts,_,h,r=>by
  obtain ⟨v,rr,rfl,a,b⟩:=r.inv
  rw[List.all_cons,Bool.and_eq_true] at h
  cases t with
  | bl x=>rw[qbm a,qhZ h.2 b]; rfl
  | _=>exact absurd h.1 Bool.false_ne_true
def qjM (q:Bool×List T):Rs T:=if q.1=true/\q.2.all qmX=true then .ok (.bl (q.2.all qlN)) else .no
theorem qiE (h:PE X e (tCB (λxs H Q=> ∃(a:Addr) (bs:List Bool),xs=[.ref a]/\SqL X.K H a (bs.map V.bl)/\Q (.bl (bs.all id)) H) (qcv (tQ M dq) qhL))):DE M X e (dCQ qjM dq):=
 qiD h (λH B p vs q c Q le bt m hq r ec k=>by
  unfold qjM at ec
  split at ec
  ·rename_i hcc
   cases ec
   unfold qiQ at hq
   rw[if_pos hcc.1] at hq
   refine ⟨p,q.2.map qlN,rfl,SqL.of (by rw[<-qhZ hcc.2 r]; exact hq),?_⟩
   rw[List.all_map]
   exact k _ H B (.refl le bt) m qds
  ·cases ec) (λq c z=>by unfold qjM at z; split at z<;>cases z)
def qqS:T->T->Rs T
 | .int i,.int j=>.ok (.int (if j<i then j else i))
 | _,_=>.no
def dB2 (g:T->T->Rs T) (da db:Ro->Rs T):Ro->Rs T:=λρ=>da ρ>>=λx=>db ρ>>=λy=>g x y
theorem qnU (h:PE X e (tCB (λxs H Q=> ∃i j,xs=[.int i,.int j]/\Q (.int (if j<i then j else i)) H) (qcv (tP M da) (qcv (tP M db) qhL)))):DE M X e (dB2 qqS da db):=by
 refine PE.weak h λσ H Q hq128=> ?_
 obtain ⟨H0,B0,ρ,B,ev,w⟩:=hq128
 refine tP.of ev (Wnt.mono (Wnt.bind (qay.mp w)) λx w1 v H1 B1 g1 m1 r1=> ?_)
 have ev1:=ev.grow g1 m1
 refine tP.of ev1 (Wnt.mono (Wnt.bind w1) λy w2 v2 H2 B2 g2 m2 r2=> ?_)
 cases x with
 | int i=>
  cases y with
  | int j=>
   rw[qas r1,qas r2]
   exact ⟨i,j,rfl,w2 _ H2 B2 (g1.trans g2) m2 qbk⟩
  | _=>exact w2.elim
 | _=>exact w2.elim
def tyT:T->String
 | .non=> "NoneType" | .bl _=> "bool" | .int _=> "int" | .str _=> "str" | .tup _=> "tuple" | .lst _=> "list" | _=> ""
def qiq (N:String) (t:T):Bool:=tyT t==N||(N== "int" &&tyT t== "bool")
def qhp (N:String):T->Rs T
 | .dct _=>.no
 | .dtu _=>.no
 | .dcf _=>.no
 | .fn _=>.no
 | .scr _=>.no
 | t=>.ok (.bl (qiq N t))
def qhE (K:PySem.W.Frag) (N:String):Prop:= ∀m∈["NoneType", "bool", "int", "str", "tuple", "list"],PySem.W.kitOne K (.type m) (.type N)=some (m==N||(N== "int" &&m== "bool"))
theorem qbd {N:String} (hk:qhE X.K N):qdf X (.builtin "isinstance") (λxs H Q=> ∃B x t c,xs=[x,.ty N]/\Le B H/\Rep X.K B t x/\qhp N t= .ok c/\∀v,Rep X.K B c v->Q v H):=by
 intro pins s σ H xs us Q I r h
 obtain ⟨B,x,t,c,rfl,le,rx,ec,q⟩:=h
 obtain ⟨u,w',rfl,ru,rw'⟩:=ql2 r
 cases rw'
 have fin: ∀{m:String},tyT t=m->m∈["NoneType", "bool", "int", "str", "tuple", "list"]->qjB X.K H x (.type m)->qhp N t= .ok (.bl (qiq N t))->wpAny (model X.prog X.w) X.A (call (.builtin "isinstance") [u,.type N]) (EP X pins σ Q) X.xe s:=λ{m} e1 e2 ty e3=>by
  rw[e3] at ec
  cases ec
  refine qkY I ru ty (hk m e2) λtk=>⟨.bl _,H,I.tok tk,rfl,q _ ?_⟩
  have:(m==N||(N== "int" &&m== "bool"))=qiq N t:=by unfold qiq; rw[e1]
  rw[this]
  exact qds
 cases t with
 | non=>cases qbB rx; exact fin (m:= "NoneType") rfl (by simp) .non rfl
 | bl y=>cases qbm rx; exact fin (m:= "bool") rfl (by simp) (.bl y) rfl
 | int y=>cases qas rx; exact fin (m:= "int") rfl (by simp) (.int y) rfl
 | str y=>cases qaM rx; exact fin (m:= "str") rfl (by simp) (.str y) rfl
 | lst ts=>
  obtain ⟨p,vs,rfl,hp,_⟩:=qbC rx
  exact fin (m:= "list") rfl (by simp) (.lst (le _ _ hp)) rfl
 | tup ts=>
  obtain ⟨p,vs,rfl,hp,_⟩:=qbf rx
  cases ru
  cases ec
  obtain ⟨its,rv,⟨o,h1,h2,_⟩,_⟩:=I.tuple (le.sqT hp)
  refine PySem.W.kia_one PySem.W.kitx_tuple I.kIn ⟨o,h1,h2⟩ (hk "tuple" (by simp)) (λz=>nomatch z) λtk=>⟨.bl _,H,I.tok tk,rfl,q _ ?_⟩
  exact qds
 | dct _=>cases ec
 | dtu _=>cases ec
 | dcf _=>cases ec
 | fn _=>cases ec
 | scr _=>cases ec
def qbD (N:String) (da:Ro->Rs T):Ro->Rs T:=λρ=>da ρ>>=qhp N
theorem qdd {N:String} (h:PE X e (tCB (λxs H Q=> ∃B x t c,xs=[x,.ty N]/\Le B H/\Rep X.K B t x/\qhp N t= .ok c/\∀v,Rep X.K B c v->Q v H) (qcv (tP M da) (qcv (tC (.ty N)) qhL)))) (hK:X.K=M.K:=by rfl):DE M X e (qbD N da):=by
 refine PE.weak h λσ H Q hq180=> ?_
 obtain ⟨H0,B0,ρ,B,ev,w⟩:=hq180
 refine tP.of ev (Wnt.mono (Wnt.bind (qay.mp w)) λx w1 v H1 B1 g1 m1 r1=> ?_)
 have ev1:=ev.grow g1 m1
 cases z:qhp N x with
 | no=>rw[z] at w1; exact w1.elim
 | ex c=>exfalso; cases x<;>cases z
 | ok c=>
  rw[z] at w1
  exact ⟨B1,v,x,c,rfl,ev1.bh,by rw[hK]; exact r1,z,λv' rv'=>w1 v' H1 B1 g1 m1 (by rw[<-hK]; exact rv')⟩
end
end PL
end
section
namespace PL
open PySem L2 SR SetL
end PL
end
section
namespace PL
open PySem L2 SR SetL
def Kn (P:Program) (w:World) (K:PySem.W.Frag) (mg:Str->Option Value) (base:Heap) (G:Gam) (C:Str->Addr) (x:Str) (ps:List Str) (k:Nat) (fT:List T->Rs T):Prop:=
 ∃f fd,qbo P w K mg base CX0 k f fd ps (spP K G C fT)/\mg x=some (.ref f)/\PySem.W.keepIn K (.ref f)=true/\qdZ K fd ps []
section
variable {M:Md} {X:Cx} {e a b:Expr} {es:List Expr} {pos p p1 p2 p3:Pos} {da db:Ro->Rs T} {ds:Ro->Rs (List T)} {dq:Ro->Rs (Bool×List T)} {x:Str} {k:Nat} {ps:List Str} {fT:List T->Rs T}
theorem qai (F:Kn X.prog X.w X.K X.mg X.base M.G M.C x ps k fT) (hK:X.K=M.K) (hr:qcu k X.A) (hg:Gl X x) (ha:DA M X (e::es) ds) (hdb:(x==("__debug__" :Str))=false:=by decide)
  (he:starEach (e::es) X.env=(false,eval e X.env)::starEach es X.env:=by rfl) (hpl:(backTo pos (starEach es X.env)).any (·.1)=false:=by rfl):DE M X (.Call (.Name x p) (e::es) [] pos) (qah fT ds):=by
 obtain ⟨f,fd,G,m,kk,bb⟩:=F
 rw[hK] at G
 exact qpd (by rw[hK]; exact G) hr hg m kk bb qks ha hdb he hpl
def qiG (i j:Nat) (da db:Ro->Rs T):Ro->Rs Out:=λρ=>da ρ>>=λt=>db ρ>>=λu=>.ok (.nx ((ρ.set i (.fz t)).set j (.fz u)))
def qdM (i j:Nat) (da:Ro->Rs T) (ds:Ro->Rs (List T)):Ro->Rs Out:=λρ=>da ρ>>=λt=>ds ρ>>=λu=>.ok (.nx ((ρ.set i (.fz t)).set j (.ow u)))
def qcH (dg:T->Ro->Rs Ro) (da:Ro->Rs T):Ro->Rs Out:=λρ=>da ρ>>=λt=>dg t ρ>>=λρ'=>.ok (.nx ρ')
theorem qo4 {tg:Expr} {dg:T->Ro->Rs Ro} (h:DE M X e da) (hg:DG M X tg dg) (hs:swapsWithSole [tg] e pos.line X.env=pure false:=by rfl) (hw:swappedStores [tg] e X.env=pure none:=by rfl)
  (h1:(assignEach [tg] X.env).map (·.2)=[assign tg X.env]:=by rfl):DS M X (.Assign [tg] e pos) (qcH dg da):=by
 refine PS.weak (qnG h hg hs hw h1) λD σ H hq38=> ?_
 obtain ⟨H0,B0,ρ,B,ev,w⟩:=hq38
 refine tP.of ev (Wnt.mono (Wnt.bind w) λt w1 v H1 B1 g1 m1 r1=> ?_)
 have ev1:=ev.grow g1 m1
 exact ⟨H0,B0,ρ,B1,t,ev1,r1,Wnt.mono (Wnt.bind w1) λρ' w2 σ' ev'=>w2 σ' H1 B1 ev' g1.bb⟩
def qpy:T->Rs T
 | .str z=>if z.length<=1000 then .ok (.int z.length) else .no
 | .tup ts=>.ok (.int ts.length)
 | .lst ts=>.ok (.int ts.length)
 | _=>.no
def qct (da:Ro->Rs T):Ro->Rs T:=λρ=>da ρ>>=qpy
theorem qcG (hg:Gl X "len") (hm:X.mg "len" =none) (h:DE M X a da) (hK:X.K=M.K:=by rfl) (he:starEach [a] X.env=(false,eval a X.env)::starEach [] X.env:=by rfl):DE M X (.Call (.Name "len" p) [a] [] pos) (qct da):=by
 have hc:qdf X (.builtin "len") (λxs H Q=>(∃p ys,xs=[.ref p]/\(SqL X.K H p ys\/SqT X.K H p ys)/\Q (.int ys.length) H)\/∃z,xs=[.str z]/\z.length<=sizeLine/\Q (.int z.length) H):=λpins s σ H xs us Q I r h=>h.elim (qcI pins s σ H xs us Q I r) (qgO pins s σ H xs us Q I r)
 refine PE.weak (qaz hc hg hm PySem.boot_len (qao h qaF he) (by decide) (by decide) he rfl) λσ H Q hq51=> ?_
 obtain ⟨H0,B0,ρ,B,ev,w⟩:=hq51
 refine tP.of ev (Wnt.mono (Wnt.bind (qay.mp w)) λt w1 v H1 B1 g1 m1 r1=> ?_)
 have ev1:=ev.grow g1 m1
 cases t with
 | str z=>
  rw[qaM r1]
  unfold qpy at w1
  dsimp only at w1
  split at w1
  ·rename_i hz
   exact .inr ⟨z,rfl,Nat.le_trans hz (by decide),w1 _ H1 B1 g1 m1 qbk⟩
  ·exact w1.elim
 | tup ts=>
  obtain ⟨q,vs,rfl,sq,rs⟩:=qbf r1
  exact .inl ⟨q,vs,rfl,.inr (by rw[hK]; exact ev1.bh.sqT sq),by rw[rs.length]; exact w1 _ H1 B1 g1 m1 qbk⟩
 | lst ts=>
  obtain ⟨q,vs,rfl,sq,rs⟩:=qbC r1
  exact .inl ⟨q,vs,rfl,.inl (SqL.of (ev1.bh _ _ sq)),by rw[rs.length]; exact w1 _ H1 B1 g1 m1 qbk⟩
 | _=>exact w1.elim
end
end PL
end
section
namespace PL
open PySem L2 SR SetL
def names:List Str:=["len", "isinstance", "all", "min", "sorted", "set", "tuple", "list", "int", "bool", "str", "range", "zip", "sum", "any", "max"]
theorem hu8 {k:Nat} {A:Around} (r:qcu k A):A.units+8<cLine:=by have:=r.units; lia
def qbp (da:Ro->Rs T):Ro->Rs T:=λρ=>da ρ>>=qtM
theorem qen:bootBuiltins "all" =some (.builtin "all"):=by decide+kernel
theorem qiM:bootBuiltins "min" =some (.builtin "min"):=by decide+kernel
theorem qcR:bootBuiltins "tuple" =some (.type "tuple"):=by decide+kernel
theorem qlM:bootBuiltins "list" =some (.type "list"):=by decide+kernel
section
variable {M:Md} {X:Cx} {a:Expr} {pos:Pos} {da:Ro->Rs T}
theorem qeN (h:DE M X a da):DE M X (.UnaryOp .USub a pos) (qbp da):=by
 refine PE.weak (qsu qpD h) λσ H Q hq15=> ?_
 obtain ⟨H0,B0,ρ,B,ev,w⟩:=hq15
 refine tP.of ev (Wnt.mono (Wnt.bind (qay.mp w)) λt w1 v H1 B1 g1 m1 r1=> ?_)
 cases t with
 | int i=>rw[qas r1]; exact ⟨i,rfl,w1 _ H1 B1 g1 m1 qbk⟩
 | _=>exact w1.elim
end
end PL
namespace PL
open PySem L2 SR SetL
end PL
end
section
namespace PL
open PySem L2 SR SetL
theorem qaE (ts:List T):qc6 (.lst ts)= .ok ts:=rfl
theorem qaD (ts:List T):qc6 (.tup ts)= .ok ts:=rfl
theorem qaY (ts:List T):qg6 (.lst ts)= .ok (true,ts):=rfl
theorem qaX (ts:List T):qg6 (.tup ts)= .ok (false,ts):=rfl
theorem qba (i j:Int):qbx (.int i) (.int j)= .ok (.int (i+j)):=rfl
theorem qb4 (i:Int):qtM (.int i)= .ok (.int (-i)):=rfl
theorem qbL (i j:Int):gSub (.int i) (.int j)= .ok (.int (i - j)):=rfl
theorem qbA (i j:Int):qe7 (.int i) (.int j)=if (-1000000<=i/\i<=1000000)\/(-1000000<=j/\j<=1000000) then .ok (.int (i*j)) else .no:=rfl
theorem qb7 (i j:Int):qjL (.int i) (.int j)=if 0<j/\j<1073741824 then .ok (.int (i / j)) else .no:=rfl
theorem qbM (i j:Int):qoW (.int i) (.int j)=if 0<j then .ok (.int (i % j)) else .no:=rfl
theorem qdA (i j:Int):gLt (.int i) (.int j)= .ok (.bl (decide (i<j))):=rfl
theorem qcA (i j:Int):gLe (.int i) (.int j)= .ok (.bl (decide (i<=j))):=rfl
theorem qcB (i j:Int):gGt (.int i) (.int j)= .ok (.bl (decide (j<i))):=rfl
theorem qdC (i j:Int):gGe (.int i) (.int j)= .ok (.bl (decide (j<=i))):=rfl
theorem qdB (i j:Bool):gIs (.bl i) (.bl j)= .ok (.bl (i==j)):=rfl
theorem qa7 (i j:Bool):qqT (.bl i) (.bl j)= .ok (.bl (i != j)):=rfl
theorem qb5 (i j:Int):qqS (.int i) (.int j)= .ok (.int (if j<i then j else i)):=rfl
theorem qcq (i j:Int):gEq (.int i) (.int j)= .ok (.bl (i==j)):=rfl
theorem qc8 (i j:Int):gNe (.int i) (.int j)= .ok (.bl (!(i==j))):=rfl
theorem qdD (i j:Str):gEq (.str i) (.str j)= .ok (.bl (i==j)):=rfl
theorem qb6 (z:Str):qpy (.str z)=if z.length<=1000 then .ok (.int z.length) else .no:=rfl
theorem qca (ts:List T):qpy (.tup ts)= .ok (.int ts.length):=rfl
theorem qcb (ts:List T):qpy (.lst ts)= .ok (.int ts.length):=rfl
section
variable {α:Type} {dg:T->Ro->Rs Ro} {dt:Ro->Rs Bool} {de:Ro->Rs T} {di:Ro->Rs (List T)} {f h:α->T} {p:α->Bool} {ρ:Ro}
theorem qel (I:Ro->Prop): ∀(xs:List α) (ρ:Ro),(∀x∈xs,∀ρ,I ρ->∃ρ',dg (f x) ρ= .ok ρ'/\I ρ'/\dt ρ'= .ok (p x)/\(p x=true->de ρ'= .ok (h x)))->I ρ->qjs dg dt de (xs.map f) ρ= .ok ((xs.filter p).map h)
 | [],_,_,_=>rfl
 | x::xs,ρ,st,hI=>by
  obtain ⟨ρ',e1,i1,e2,e3⟩:=st x List.mem_cons_self ρ hI
  have ih:=qel I xs ρ' (λy hy=>st y (List.mem_cons_of_mem _ hy)) i1
  rw[List.map_cons,qjs]
  rw[e1,qaj,e2,qaj,List.filter_cons]
  by_cases c:p x=true
  ·rw[if_pos c,if_pos c,e3 c,qaj,ih,qaj]; rfl
  ·rw[if_neg c,if_neg c,ih]
theorem qbR {fr:List Nat} {xs:List α} (hi:di ρ= .ok (xs.map f)) (hs: ∀x∈xs,dt (.fz (f x)::fr.map λi=>qju ρ[i]?)= .ok (p x)/\(p x=true->de (.fz (f x)::fr.map λi=>qju ρ[i]?)= .ok (h x))):
  qat 1 fr di (gN 0) dt de ρ= .ok ((xs.filter p).map h):=by
 unfold qat
 rw[hi,qaj]
 refine congrArg noX (qel (λρ'=> ∃s,ρ'=s::fr.map λi=>qju ρ[i]?) xs _ (λx hx ρ' ⟨s,e⟩=> ?_) ⟨.no,rfl⟩)
 subst e
 exact ⟨_,rfl,⟨_,rfl⟩,(hs x hx).1,(hs x hx).2⟩
variable {a b c:α->T}
theorem qnY {fr:List Nat} {xs:List α} (hi:di ρ= .ok (xs.map λx=>.tup [a x,b x])) (hs: ∀x∈xs,dt (.fz (a x)::.fz (b x)::fr.map λi=>qju ρ[i]?)= .ok (p x)/\(p x=true->de (.fz (a x)::.fz (b x)::fr.map λi=>qju ρ[i]?)= .ok (h x))):
  qat 2 fr di (gT 2 (gsC (gN 0) (gsC (gN 1) gsN))) dt de ρ= .ok ((xs.filter p).map h):=by
 unfold qat
 rw[hi,qaj]
 refine congrArg noX (qel (f:=λx=>.tup [a x,b x]) (λρ'=> ∃s s',ρ'=s::s'::fr.map λi=>qju ρ[i]?) xs _ (λx hx ρ' ⟨s,s',e⟩=> ?_) ⟨.no,.no,rfl⟩)
 subst e
 exact ⟨_,rfl,⟨_,_,rfl⟩,(hs x hx).1,(hs x hx).2⟩
theorem qq6 {fr:List Nat} {xs:List α} (hi:di ρ= .ok (xs.map λx=>.tup [a x,b x,c x])) (hs: ∀x∈xs,dt (.fz (a x)::.fz (b x)::.fz (c x)::fr.map λi=>qju ρ[i]?)= .ok (p x)/\(p x=true->de (.fz (a x)::.fz (b x)::.fz (c x)::fr.map λi=>qju ρ[i]?)= .ok (h x))):
  qat 3 fr di (gT 3 (gsC (gN 0) (gsC (gN 1) (gsC (gN 2) gsN)))) dt de ρ= .ok ((xs.filter p).map h):=by
 unfold qat
 rw[hi,qaj]
 refine congrArg noX (qel (f:=λx=>.tup [a x,b x,c x]) (λρ'=> ∃s s' s'',ρ'=s::s'::s''::fr.map λi=>qju ρ[i]?) xs _ (λx hx ρ' ⟨s,s',s'',e⟩=> ?_) ⟨.no,.no,.no,rfl⟩)
 subst e
 exact ⟨_,rfl,⟨_,_,_,rfl⟩,(hs x hx).1,(hs x hx).2⟩
theorem qbX {xs:List α}:xs.filter (λ_=>true)=xs:=by simp
theorem qei {db:Ro->Rs Out} (I:List α->Ro->Prop) (whole:List α): ∀(xs done:List α) (ρ:Ro),done++xs=whole->(∀(dn:List α) (x:α) (qc3:List α) ρ,dn++x::qc3=whole->I dn ρ->∃ρ1 ρ2,dg (f x) ρ= .ok ρ1/\(db ρ1= .ok (.nx ρ2)\/db ρ1= .ok (.ct ρ2))/\I (dn++[x]) ρ2)->I done ρ->∃ρ',qg0 dg db (xs.map f) ρ= .ok (.nx ρ')/\I whole ρ'
 | [],done,ρ,hw,_,hI=>⟨ρ,rfl,by rw[List.append_nil] at hw; rw[<-hw]; exact hI⟩
 | x::xs,done,ρ,hw,st,hI=>by
  obtain ⟨ρ1,ρ2,e1,e2,i2⟩:=st done x xs ρ hw hI
  obtain ⟨ρ',e3,i3⟩:=qei I whole xs (done++[x]) ρ2 (by rw[<-hw]; simp) st i2
  refine ⟨ρ',?_,i3⟩
  rw[List.map_cons,qg0,e1,qaj]
  rcases e2 with e2 | e2<;>(rw[e2,qaj]; exact e3)
end
abbrev Row:=Int×Str×Int
def qbz (r:Row):T:=.tup [.int r.1,.str r.2.1,.int r.2.2]
def qaC (rs:List Row):T:=.lst (rs.map qbz)
def qdy (x:Str):Prop:=(1<=x.length/\x.length<=2)/\∀c∈x.cps.toList,97<=c/\c<=122
def qke (r:Row):Prop:=(0<=r.1/\r.1<=99)/\qdy r.2.1/\ -99<=r.2.2/\r.2.2<=99
end PL
end
section
namespace PL
open PySem L2
section
variable {M:Md} {X:Cx} {es:List Expr} {pos:Pos} {dr:List T->Ro->Rs Ro}
def gL (n:Nat) (dr:List T->Ro->Rs Ro):T->Ro->Rs Ro:=λt ρ=>match t with | .lst ts=>if ts.length=n then dr ts ρ else .no | _=>.no
end
end PL
namespace PL
open PySem L2
theorem qeA (K:PySem.W.Frag): ∀N∈["int", "bool", "str", "tuple"],qhE K N:=by
 intro N hN m hm
 simp only[List.mem_cons,List.not_mem_nil,or_false] at hN hm
 rcases hN with rfl | rfl | rfl | rfl<;>rcases hm with rfl | rfl | rfl | rfl | rfl | rfl<;>rfl
end PL
end
section
namespace St
open PySem PySem.W PySem.Calls PyProof.Rows
def qcJ (KV:Heap->Nat->Value->Prop) (h:Heap) (ks:List Value) (n:Nat):Prop:=ks.length=n/\∀i v,ks[i]? =some v->KV h i v
section
variable {prog:Program} {w:World} {A:Around} {E:Value->Shared->Prop} {s:Shared} {D kS:Addr} {vs:List Value} {kz:List Int} {P:PySem.Fin->Shared->Prop} {h0:Heap} {KV:Heap->Nat->Value->Prop}
theorem qtd {κ:SortKind} {keys:Array Value} {e e1:Nat} (hk:s.heap.get? kS=some (seqObj "list" keys e)) (hD:s.heap.get? D=some (seqObj "list" #[] e1)) (hkD:kS≠D) (hki:qcJ KV s.heap keys.toList vs.length) (hlen:kz.length=vs.length) (h64:vs.length<64)
  (kp:Kp h0 s.heap) (hD0:h0.get? D=none) (hk0:h0.get? kS=none)
  (kind: ∀(s':Shared) (ks:List Value),Kp h0 s'.heap->qcJ KV s'.heap ks vs.length->2<=vs.length->∀(Q:SortKind->Shared->Prop) (E:Value->Shared->Prop),Q κ s'->wpAny (model prog w) A (keyKind' ks.toArray) Q E s')
  (cmp: ∀(s':Shared) (ks:List Value),Kp h0 s'.heap->qcJ KV s'.heap ks vs.length->∀i j,i<vs.length->j<vs.length->∀C:Bool->Shared->Prop,C (decide (kz.getD i 0<kz.getD j 0)) s'->wpAny (model prog w) A (keyLt' κ (ks.getD i Value.none) (ks.getD j Value.none)) C (λ_ _=>False) s')
  (h: ∀h' tk c (p:Array Nat),Kp h0 h'->qcs kz vs.length p->h'.get? D=some (seqObj "list" (List.toArray (p.toList.map λi=>vs.getD i Value.none)) c)->P (.done (.ret .none)) { s with heap:=h',toks:=tk }):
  wpAny (model prog w) A (ksk_end D false vs.toArray e1 (.ref kS) keys) P E s:=by
 have hsz:keys.size=vs.length:=by
  have h1:=hki.1
  rw[Array.length_toList] at h1
  exact h1
 unfold ksk_end
 simp only[Bool.false_eq_true,if_false]
 by_cases h2:vs.toArray.size<2
 ·rw[if_pos h2,if_pos h2]
  refine wpAny_bind (wpAny_pure ?_)
  rw[StateT.run_pure]
  refine wpAny_bind (wpAny_pure ?_)
  rw[List.size_toArray] at h2
  refine qnx (kz:=kz) (p:=List.toArray (List.range vs.length)) hk hD hkD h64 (by lia) kp hD0 hk0 ⟨⟨by simp,λi hi=> ?_,λi q1 q2=>by lia⟩,λi j hij hj=>by lia⟩ ?_ rfl λh' tk c k hh=>h h' tk c _ k ⟨⟨by simp,λi hi=> ?_,λi q1 q2=>by lia⟩,λi j hij hj=>by lia⟩ hh
  ·unfold g
   rw[Array.getD_eq_getD_getElem?]
   simp[hi]
  ·show (keys.zip vs.toArray).map (·.2)=_
   apply Array.toList_inj.mp
   rw[Array.toList_map,ksk_zip,List.toList_toArray,List.toList_toArray]
   have:keys.toList.length=vs.length:=by rw[Array.length_toList]; exact hsz
   rw[show (keys.toList.zip vs).map (λx:Value×Value=>x.2)=vs from List.map_snd_zip (by lia)]
   apply List.ext_getElem
   ·simp
   ·intro i h3 h4
    simp[List.getElem?_eq_getElem h3]
  ·unfold g
   rw[Array.getD_eq_getD_getElem?]
   simp[hi]
 ·rw[if_neg h2,if_neg h2]
  rw[List.size_toArray] at h2
  have hk2:(List.toArray keys.toList)=keys:=by simp
  have kk:=kind s keys.toList kp hki (by lia)
  rw[hk2] at kk
  refine wpAny_bind (kk _ _ ?_)
  have run:=kat_run (prog:=prog) (w:=w) (A:=A) (E:=E) (s:=s) (κ:=κ) (ks:=keys.toList) (vs:=vs) (Q:=λst s'=>s'=s/\∃p,qcs kz vs.length p/\(arrOf st).map (·.2)=List.toArray (p.toList.map λi=>vs.getD i Value.none)/\failedOf st=none)
   (G:=λp s'=>s'=s/\qcs kz vs.length p) (by rw[Array.length_toList]; exact hsz) (by lia) h64 (λp st' s' a1 a2 a3 a4=>⟨a4.1,p,a4.2,kat_snds (by rw[Array.length_toList]; exact hsz) a2,a3⟩)
   (qho (ask:=qde λi=>kz.getD i 0) (N:=vs.length) (λi j C hi hj hc=>by
    exact cmp s keys.toList kp hki i j hi hj C hc) (λp hp=>⟨rfl,hp⟩) (qj0 (by lia)))
  rw[hk2] at run
  refine wpAny_bind (wpAny_mono run (λr s' hr=> ?_) λ_ _ x=>x)
  obtain ⟨rfl,p,ho,har,hf⟩:=hr
  exact qnx (p:=p) hk hD hkD h64 (by lia) kp hD0 hk0 ho har hf λh' tk c k hh=>h h' tk c p k ho hh
theorem qp1 {κ:SortKind} {f:Value} {e1:Nat} (hk:s.heap.get? kS=some (seqObj "list" #[] 0)) (hD:s.heap.get? D=some (seqObj "list" #[] e1)) (hkD:kS≠D) (hlen:kz.length=vs.length) (h64:vs.length<64)
  (kp:Kp h0 s.heap) (hD0:h0.get? D=none) (hk0:h0.get? kS=none)
  (qjH: ∀(i:Nat) (v:Value),vs[i]? =some v->∀s':Shared,Kp h0 s'.heap->s'.gens=s.gens->s'.os=s.os->
   wpAny (model prog w) A (call f [v]) (λr s''=> ∃h' tk,KV h' i r/\s''={ s' with heap:=h',toks:=tk }/\Kp s'.heap h') (λ_ _=>False) s')
  (stb: ∀(h h':Heap) i v,(∀b o,h.get? b=some o->o.cls≠.type "list" ->h'.get? b=some o)->KV h i v->KV h' i v)
  (kind: ∀(s':Shared) (ks:List Value),Kp h0 s'.heap->qcJ KV s'.heap ks vs.length->2<=vs.length->∀(Q:SortKind->Shared->Prop) (E:Value->Shared->Prop),Q κ s'->wpAny (model prog w) A (keyKind' ks.toArray) Q E s')
  (cmp: ∀(s':Shared) (ks:List Value),Kp h0 s'.heap->qcJ KV s'.heap ks vs.length->∀i j,i<vs.length->j<vs.length->∀C:Bool->Shared->Prop,C (decide (kz.getD i 0<kz.getD j 0)) s'->wpAny (model prog w) A (keyLt' κ (ks.getD i Value.none) (ks.getD j Value.none)) C (λ_ _=>False) s')
  (h: ∀h' tk c (p:Array Nat),Kp h0 h'->qcs kz vs.length p->h'.get? D=some (seqObj "list" (List.toArray (p.toList.map λi=>vs.getD i Value.none)) c)->P (.done (.ret .none)) { s with heap:=h',toks:=tk }):
  wpAny (model prog w) A (ksk_rest D f false vs.toArray e1 (.ref kS)) P E s:=by
 unfold ksk_rest
 refine wpAny_bind (wpAny_rule ?_)
 first
  | rw[List.forIn_toArray]
  | (rw[<-Array.forIn_toList]; simp only[List.toList_toArray])
 refine wpAny_bind (ksk_fold (λi s'=> ∃h' tk kA e,s'={ s with heap:=h',toks:=tk }/\Kp h0 h'/\h'.get? kS=some (seqObj "list" kA e)/\h'.get? D=some (seqObj "list" #[] e1)/\qcJ KV h' kA.toList i) vs 0 s
  ⟨s.heap,s.toks, #[],0,rfl,kp,hk,hD,rfl,λi v z=>by simp at z⟩ ?step ?done)
 case step=>
  rintro j x s' hx ⟨h',tk,kA,e,rfl,kp',hk',hD',hki⟩
  simp only[Nat.zero_add] at hki⊢
  have hj:j<vs.length:=(List.getElem?_eq_some_iff.mp hx).1
  have hz:kA.size<=vs.length:=by
   have h1:=hki.1
   rw[Array.length_toList] at h1
   lia
  refine wpAny_bind (wpAny_attempt (wpAny_mono (qjH j x hx { s with heap:=h',toks:=tk } kp' rfl rfl) (λv s'' he=> ?_) λ_ _ hF=>hF.elim))
  obtain ⟨h2,tk2,hv2,rfl,kp2⟩:=he
  have hk2:=kp2 _ _ hk'
  have hD2:=kp2 _ _ hD'
  have s1:=Heap.SameBut.update h2 kS (Obj.mapSeq (·.push v))
  have ea:(kA.push v).toList=kA.toList++[v]:=by simp
  refine wpAny_bind (listUpdate_at hk2 rfl ?_ (by rw[sizeLine_eq]; lia) (Nat.le_trans (Nat.le_of_eq (Array.size_push ..)) (by rw[sizeLine_eq]; lia)))
  refine wpAny_pure ⟨rfl,_,_,kA.push v,_,rfl,λb o q=> ?_,get?_update_seq hk2 (·.push v),(s1.2 D hkD.symm).trans hD2,?_⟩
  rotate_left
  ·rw[ea]
   refine ⟨by simp[hki.1],λi u hu=> ?_⟩
   have st2: ∀b o,h2.get? b=some o->o.cls≠.type "list" ->(h2.update kS (Obj.mapSeq (·.push v))).get? b=some o:=λb o q nl=>(s1.2 b (λz=>by rw[z,hk2] at q; cases q; exact nl rfl)).trans q
   by_cases hi:i<kA.toList.length
   ·rw[List.getElem?_append_left hi] at hu
    exact stb _ _ i u st2 (stb _ _ i u (λb o q _=>kp2 b o q) (hki.2 i u hu))
   ·rw[List.getElem?_append_right (by lia)] at hu
    have hi2:i=j:=by
     have:=(List.getElem?_eq_some_iff.mp hu).1
     have h1:=hki.1
     rw[List.length_singleton] at this
     lia
    subst hi2
    rw[hki.1,Nat.sub_self] at hu
    cases hu
    exact stb _ _ i v st2 hv2
  have nk:b≠kS:=λz=>by rw[z,hk0] at q; cases q
  exact (s1.2 b nk).trans (kp2 _ _ (kp' b o q))
 case done=>
  rintro s' ⟨h',tk,kA,e,rfl,kp',hk',hD',hki⟩
  rw[Nat.zero_add] at hki
  refine wpAny_bind (listItems_at hk' rfl ?_)
  exact qtd hk' hD' hkD hki hlen h64 kp' hD0 hk0 kind cmp λh3 tk3 c p a1 a2 a3=>h h3 tk3 c p a1 a2 a3
end
section
variable {prog:Program} {w:World} {A:Around} {E:Value->Shared->Prop} {s:Shared} {l:Addr} {vs:List Value} {kz:List Int} {Q:Value->Shared->Prop} {KV:Heap->Nat->Value->Prop}
theorem sorted_g {κ:SortKind} {f:Value} {q:Addr} (hf:f= .ref q) (hl:s.heap.IsList l vs.toArray) (hlen:kz.length=vs.length) (h64:vs.length<64)
  (qjH: ∀(i:Nat) (v:Value),vs[i]? =some v->∀s':Shared,Kp s.heap s'.heap->s'.gens=s.gens->s'.os=s.os->
   wpAny (model prog w) A.in1.in1 (call f [v]) (λr s''=> ∃h' tk,KV h' i r/\s''={ s' with heap:=h',toks:=tk }/\Kp s'.heap h') (λ_ _=>False) s')
  (stb: ∀(h h':Heap) i v,(∀b o,h.get? b=some o->o.cls≠.type "list" ->h'.get? b=some o)->KV h i v->KV h' i v)
  (kind: ∀(s':Shared) (ks:List Value),Kp s.heap s'.heap->qcJ KV s'.heap ks vs.length->2<=vs.length->∀(Q:SortKind->Shared->Prop) (E:Value->Shared->Prop),Q κ s'->wpAny (model prog w) A.in1.in1 (keyKind' ks.toArray) Q E s')
  (cmp: ∀(s':Shared) (ks:List Value),Kp s.heap s'.heap->qcJ KV s'.heap ks vs.length->∀i j,i<vs.length->j<vs.length->∀C:Bool->Shared->Prop,C (decide (kz.getD i 0<kz.getD j 0)) s'->wpAny (model prog w) A.in1.in1 (keyLt' κ (ks.getD i Value.none) (ks.getD j Value.none)) C (λ_ _=>False) s')
  (h: ∀D h' tk c (p:Array Nat),s.heap.objs.size<=D->Kp s.heap h'->qcs kz vs.length p->h'.get? D=some (seqObj "list" (List.toArray (p.toList.map λi=>vs.getD i Value.none)) c)->Q (.ref D) { s with heap:=h',toks:=tk }):
  wpAny (model prog w) A (call (.builtin "sorted") [.ref l] [(Str.ofString "key",f)]) Q E s:=by
 subst hf
 refine call_function_entry_kw kind_sorted plain_sorted entry_sorted (ksk_s1 _ _) ?_
 unfold Builtin.«sorted»
 refine wpAny_bind (m:=checkCount "sorted" 1 1 _) (wpAny_pure ?_)
 refine wpAny_bind (collect_list hl ?_ (by rw[sizeLine_eq]; lia))
 refine wpAny_bind (wpAny_newList ?_ (by rw[sizeLine_eq]; lia))
 have hsz:((s.heap.push (seqObj "list" #[] 0)).update s.heap.objs.size (Obj.mapSeq (· ++vs.toArray))).objs.size=s.heap.objs.size+1:=by
  rw[Heap.size_update,size_push']
 generalize hH1:(s.heap.push (seqObj "list" #[] 0)).update s.heap.objs.size (Obj.mapSeq (· ++vs.toArray))=H1 at hsz⊢
 have kp1:Kp s.heap H1:=λb o q=>by
  have hlt:b<s.heap.objs.size:=Heap.lt_size q
  rw[<-hH1,Heap.get?_update_ne _ _ _ _ (Nat.ne_of_lt hlt),Heap.get?_push_ne _ _ _ (Nat.ne_of_lt hlt)]
  exact q
 have kp2:Kp s.heap (H1.push (seqObj "list" vs.toArray 0)):=λb o q=>Heap.get?_push_of_some _ (kp1 b o q)
 have hoD:(H1.push (seqObj "list" vs.toArray 0)).get? H1.objs.size=some (seqObj "list" vs.toArray 0):=Heap.get?_push_size _ rfl
 refine wpAny_bind (wpAny_holding (wpAny_call_entry_kw slot_list_sort ⟨_,hoD,rfl⟩ entry_list_sort ?body (ksk_l1 _ _)))
 case body=>
  show wpAny (model prog w) A.in1.in1 (Builtin.«list.sort» ⟨[.ref H1.objs.size],[(Str.ofString "key",.ref q)]⟩) _ _ _
  rw[ksk_t1]
  unfold ksk_tree
  have s1:=Heap.SameBut.update (H1.push (seqObj "list" vs.toArray 0)) H1.objs.size (Obj.mapSeq λ_=>(#[]:Array Value))
  obtain ⟨e1,ho1⟩: ∃e1,((H1.push (seqObj "list" vs.toArray 0)).update H1.objs.size (Obj.mapSeq λ_=>(#[]:Array Value))).get? H1.objs.size=some (seqObj "list" #[] e1):=⟨_,get?_update_seq hoD λ_=> #[]⟩
  refine wpAny_bind (listItems_at hoD rfl ?_)
  refine wpAny_bind (listUpdate_at hoD rfl ?_ (by rw[List.size_toArray,sizeLine_eq]; lia) (Nat.zero_le _))
  refine wpAny_bind (seqEpoch_at ho1 rfl ?_)
  generalize hH2:(H1.push (seqObj "list" vs.toArray 0)).update H1.objs.size (Obj.mapSeq λ_=>(#[]:Array Value))=H2 at ho1 s1⊢
  have sz2:H2.objs.size=H1.objs.size+1:=by rw[<-hH2,Heap.size_update,size_push']
  have kp3:Kp s.heap H2:=λb o z=>(s1.2 b (by rw[hsz]; exact Nat.ne_of_lt (Nat.lt_succ_of_lt (Heap.lt_size z)))).trans (kp2 b o z)
  refine wpAny_bind (wpAny_newTuple ?_ (by show vs.length<=_; rw[sizeLine_eq]; lia))
  refine wpAny_bind (wpAny_newList ?_ (Nat.zero_le _))
  refine wpAny_holding ?_
  have sz3:(H2.push (seqObj "tuple" vs.toArray 0)).objs.size=H2.objs.size+1:=size_push' _ _
  refine qp1 (h0:=s.heap) (kz:=kz) (kS:=(H2.push (seqObj "tuple" vs.toArray 0)).objs.size) (s:={ s with heap:=(H2.push (seqObj "tuple" vs.toArray 0)).push (seqObj "list" #[] 0) }) (Heap.get?_push_size _ rfl)
   (Heap.get?_push_of_some _ (Heap.get?_push_of_some _ ho1)) (by rw[sz3,sz2]; exact Nat.ne_of_gt (Nat.lt_succ_of_lt (Nat.lt_succ_self _))) hlen h64 (λb o z=>Heap.get?_push_of_some _ (Heap.get?_push_of_some _ (kp3 b o z)))
   (get_none (by rw[hsz]; exact Nat.le_succ _)) (get_none (by rw[sz3,sz2,hsz]; exact Nat.le_succ_of_le (Nat.le_succ_of_le (Nat.le_succ _)))) qjH stb kind cmp λh' tk c p a1 a2 a3=>⟨_,rfl,?_⟩
  exact wpAny_pure ⟨_,rfl,h _ h' tk c p (by rw[hsz]; exact Nat.le_succ _) a1 a2 a3⟩
end
end St
end
section
namespace L2
open PySem PySem.Spec PyProof.Rows
structure qiP (x:Str) (v:Value) (env:Env) (h:Heap):Prop where
 kind:env.scope.kind= .function
 loc:env.kindOf x=some .local
 ns: ∃m,h.Ns env.locals m/\m x=some v
theorem qiP.load {M:Model} {A:Around} {E:Value->Shared->Prop} {s:Shared} {env:Env} {x:Str} {v:Value} {p:Pos} {Q:Value->Shared->Prop} (L:qiP x v env s.heap) (hdb:(x==("__debug__" :Str))=false) (h:Q v s):wpAny M A (eval (.Name x p) env) Q E s:=by
 obtain ⟨m,h1,h2⟩:=L.ns
 exact wpAny_Name (wpAny_loadName_local L.kind L.loc h1 h2 h) hdb
theorem qnq {prog:Program} {w:World} {A:Around} {E:Value->Shared->Prop} {s:Shared} {f c':Addr} {qual x:Str} {params:Arguments} {scope:Scope} {pm ctv v:Value} {body:Expr} {R:Heap->Value->Prop}
  (hf:s.heap.get? f=some (PySem.W.kla_obj "<lambda>" qual params body scope [] pm c' ctv)) (hcd:s.heap.CodeRec (.ref c') qual) (hlim:s.heap.NoLimit) (hroom:A.depth<recursionLimit)
  (hk:scope.kind= .function) (hco:scope.isCoroutine=false) (hgen:scope.isGenerator=false) (hx:scope.names.lookup x=some .local) (hcell: ∀y∈scope.names,y.2≠.cell)
  (hb: ∀v,bindArgs (PySem.W.kla_fn "<lambda>" qual params body scope [] pm (.ref c') ctv) ⟨[v],[]⟩=pure [(x,v)])
  (hbody: ∀(A':Around) (env:Env) (s1:Shared),qiP x v env s1.heap->St.Kp s.heap s1.heap->wpAny (model prog w) A' (eval body env) (λr s''=> ∃h' tk',R h' r/\s''={ s1 with heap:=h',toks:=tk' }/\St.Kp s1.heap h') (λ_ _=>False) s1):
  wpAny (model prog w) A (call (.ref f) [v]) (λr s''=> ∃h' tk',R h' r/\s''={ s with heap:=h',toks:=tk' }/\St.Kp s.heap h') E s:=by
 refine wpAny_call (PySem.W.kla_callFunE hroom hf rfl hco hgen rfl hcd ?_)
 rw[hb]
 refine wpAny_pure (wpAny_newFunctionEnv hcell (by intro y hy; obtain rfl:y=(x,v):=List.mem_singleton.mp hy; exact hx) (λh1 hn1 hs1=> ?_) hk)
 have kp:St.Kp s.heap h1:=λb o e=>(hs1.2 b (Nat.ne_of_lt (Heap.lt_size e))).trans (Heap.get?_push_of_some _ e)
 refine ⟨hlim.keeps kp,PySem.W.kla_codeExpr (wpAny_mono (hbody _ _ _ ⟨hk,hx,_,hn1,by simp[List.lookup_cons]⟩ kp) (λr s'' h=> ?_) λ_ _ hF=>hF.elim)⟩
 obtain ⟨h',tk',hr,rfl,kp'⟩:=h
 exact ⟨h',tk',hr,rfl,λb o e=>kp' b o (kp b o e)⟩
section
variable {prog:Program} {w:World} {A:Around} {E:Value->Shared->Prop} {s:Shared} {env:Env} {x:Str} {t:Addr} {its:List Value} {v:Value} {i j:Nat} {p1 p2 p3:Pos} {Q:Value->Shared->Prop}
theorem qkM (L:qiP x (.ref t) env s.heap) (hdb:(x==("__debug__" :Str))=false) (ht:IsTup s.heap t its.toArray) (hi:its[i]? =some v) (hz:its.length<=sizeLine) (h: ∀tk,Q v { s with toks:=tk }):
  wpAny (model prog w) A (eval (.Subscript (.Name x p1) (.Constant (.int (i:Int)) j p2) p3) env) Q E s:=by
 refine Subscript_ (L.load hdb ?_)
 refine wpAny_Constant_int ?_
 have hl:i<its.length:=(List.getElem?_eq_some_iff.mp hi).1
 have hn:=qdv
 refine subscriptTail_builtinR (x:=v) (T:= "tuple") ht.typeIs slot_tuple_getitem.lookup ?_ (by with_unfolding_all rfl)
 exact getItem_tuple (j:=i) ht (by lia) (by lia) (by rw[List.size_toArray]; exact seqIndex_of (by lia) (by lia)) (by simpa using hi) ⟨rfl,h _⟩
theorem qmR {a b:Expr} {k:Nat} {pos:Pos} (ha:wpAny (model prog w) A (eval a env) (λv1 s1=>wpAny (model prog w) A (eval b env) (λv2 s2=>Q (.ref s2.heap.objs.size) { s2 with heap:=s2.heap.push { cls:=Value.type "tuple",data:=Data.seq #[v1,v2] } }) E s1) E s)
  (hs:starEach [a,b] env=[(false,eval a env),(false,eval b env)]):wpAny (model prog w) A (eval (.Tuple [a,b] k pos) env) Q E s:=by
 refine wpAny_Tuple_spliced ?_
 rw[hs]
 refine Calls.spliced_cons (wpAny_mono ha (λv1 s1 h1=> ?_) λ_ _ h=>h)
 refine Calls.spliced_cons (wpAny_mono h1 (λv2 s2 h2=> ?_) λ_ _ h=>h)
 exact Calls.spliced_nil ⟨by show 2<=_; rw[sizeLine_eq]; decide,h2⟩
end
end L2
end
section
namespace PL
open PySem L2 SR SetL
section
open PySem.W PyProof.Rows
variable {prog:Program} {w:World} {A:Around} {E:Value->Shared->Prop} {s:Shared}
def qeU (h:Heap) (kl:List Ky) (v:Value):Prop:= ∃p its,v= .ref p/\IsTup h p (List.toArray its)/\Vals (kl.map kyV) its
theorem qgq {Q:SortKind->Shared->Prop} (its:List Value) {x:Nat} {r:List Nat} (hx:x=0\/x=1) (h2:2<=its.length) (hk: ∀v∈its,∃kl,qeU s.heap kl v/\kl.map shK=x::r) (hq:Q (tuples' true) s):wpAny (model prog w) A (keyKind' its.toArray) Q E s:=by
 have fst: ∀v∈its,∃f,(∃a o xs n,v= .ref a/\s.heap.get? a=some o/\o.cls= .type "tuple" /\o.data= .seq xs n/\xs[0]? =some f)/\((x=0/\∃i t,f=Value.int i t)\/(x=1/\∃i t,f=Value.str i t)):=λv hv=>by
  obtain ⟨kl,⟨p,w1,g1,i1,v1⟩,k1⟩:=hk v hv
  obtain ⟨o1,e1,c1,n1,d1⟩:=i1
  cases kl with
  | nil=>cases k1
  | cons ky kr=>
   cases v1 with
   | cons r0 rr=>
    have ks:shK ky=x:=(List.cons.inj k1).1
    cases ky with
    | i n=>
     obtain ⟨tk,rfl⟩:=r0
     exact ⟨_,⟨p,o1,_,n1,g1,e1,c1,d1,rfl⟩,.inl ⟨ks.symm,n,tk,rfl⟩⟩
    | s n=>
     obtain ⟨tk,rfl⟩:=r0
     exact ⟨_,⟨p,o1,_,n1,g1,e1,c1,d1,rfl⟩,.inr ⟨ks.symm,n,tk,rfl⟩⟩
 obtain ⟨fs,k1,k2,k3⟩:=qdV its fst
 rcases hx with rfl | rfl
 ·refine PySem.W.kat_kind k1 (by lia) (T:=.type "int") (λv hv=> ?_) (by decide) ?_
  ·rcases k3 v hv with ⟨_,i,t,rfl⟩ | ⟨z,_⟩
   ·exact PySem.W.Looks.of_pure rfl
   ·cases z
  ·exact hq
 ·refine PySem.W.kat_kind k1 (by lia) (T:=.type "str") (λv hv=> ?_) (by decide) ?_
  ·rcases k3 v hv with ⟨z,_⟩ | ⟨_,i,t,rfl⟩
   ·cases z
   ·exact PySem.W.Looks.of_pure rfl
  ·exact hq
theorem qkF {C:Bool->Shared->Prop} {a b:List Ky} {u v:Value} (h1:qeU s.heap a u) (h2:qeU s.heap b v) (hs:a.map shK=b.map shK) (hc:C (qbW a b) s):wpAny (model prog w) A (keyLt' (tuples' true) u v) C (λ_ _=>False) s:=by
 obtain ⟨p1,w1,rfl,i1,v1⟩:=h1
 obtain ⟨p2,w2,rfl,i2,v2⟩:=h2
 obtain ⟨o1,e1,_,n1,d1⟩:=i1
 obtain ⟨o2,e2,_,n2,d2⟩:=i2
 refine kat_lt e1 d1 e2 d2 ?_
 have hl:w1.length=w2.length:=by
  have h1:=v1.length
  have h2:=v2.length
  have h3:=congrArg List.length hs
  simp only[List.length_map] at h1 h2 h3
  lia
 rw[show decide ((List.toArray w1).size<(List.toArray w2).size)=false by simp[hl]]
 exact qrk _ _ _ _ 0 v1 v2 hs hc
end
def qcx (i j:Nat):T->List T
 | .tup us=>(match us[i]?,us[j]? with | some a,some b=>[a,b] | _,_=>[])
 | _=>[]
def qeg (i j:Nat) (t:T):List Ky:=(qcx i j t).map kyT
def qc1 (i j:Nat) (q:Bool×List T):Rs (List T):=if (q.1=true/\q.2.length<64)/\qb9 (q.2.map λt=>.tup (qcx i j t))=true then .ok (qdj (qeg i j) q.2) else .no
theorem qkq {i j:Nat} {t:T} (h:qcx i j t≠[]): ∃us a b,t= .tup us/\us[i]? =some a/\us[j]? =some b/\qcx i j t=[a,b]:=by
 cases t with
 | tup us=>
  have h':(match us[i]?,us[j]? with | some a,some b=>[a,b] | _,_=>([]:List T))≠[]:=h
  cases e1:us[i]? with
  | none=>rw[e1] at h'; exact absurd rfl h'
  | some a=>
   cases e2:us[j]? with
   | none=>rw[e1,e2] at h'; exact absurd rfl h'
   | some b=>
    refine ⟨us,a,b,rfl,e1,e2,?_⟩
    show (match us[i]?,us[j]? with | some a,some b=>[a,b] | _,_=>([]:List T))=_
    rw[e1,e2]
 | _=>exact absurd rfl h
theorem qj2 {i j:Nat} {ts:List T} (h:qb9 (ts.map λt=>.tup (qcx i j t))=true) (hn:ts≠[]): ∃x y,(x=0\/x=1)/\∀t∈ts,∃us a b,t= .tup us/\us[i]? =some a/\us[j]? =some b/\qcx i j t=[a,b]/\qea a=true/\qea b=true/\(qeg i j t).map shK=[x,y]:=by
 cases ts with
 | nil=>exact absurd rfl hn
 | cons t0 tr=>
  obtain ⟨s0,ok0,sh⟩:=qcT h (t:=.tup (qcx i j t0)) (by simp)
  have sh': ∀t∈t0::tr,2::(qcx i j t).map shT=s0:=λt ht=>sh (.tup (qcx i j t)) (List.mem_map.mpr ⟨t,ht,rfl⟩)
  have e0:=sh' t0 List.mem_cons_self
  rcases qdr ok0 with e | e | ⟨x,r,e,ho⟩
  ·rw[e] at e0; cases e0
  ·rw[e] at e0; cases e0
  ·have hne: ∀t∈t0::tr,(qcx i j t).map shT=x::r:=λt ht=>by
    have:=sh' t ht
    rw[e] at this
    exact (List.cons.inj this).2
   have all: ∀t∈t0::tr,∃us a b,t= .tup us/\us[i]? =some a/\us[j]? =some b/\qcx i j t=[a,b]/\qea a=true/\qea b=true/\(qeg i j t).map shK=x::r:=λt ht=>by
    obtain ⟨us,a,b,f1,f2,f3,f4⟩:=qkq (i:=i) (j:=j) (t:=t) (λz=>by have:=hne t ht; rw[z] at this; cases this)
    have fl:=qlg (hne t ht) ho
    rw[f4,List.all_cons,List.all_cons,Bool.and_eq_true,Bool.and_eq_true] at fl
    refine ⟨us,a,b,f1,f2,f3,f4,fl.1,fl.2.1,?_⟩
    rw[<-hne t ht]
    unfold qeg
    rw[f4]
    have g: ∀c:T,qea c=true->shK (kyT c)=shT c:=λc hc=>by
     cases c with
     | int _=>rfl
     | str _=>rfl
     | non=>cases (show false=true from hc)
     | bl _=>cases (show false=true from hc)
     | tup _=>cases (show false=true from hc)
     | lst _=>cases (show false=true from hc)
     | dct _=>cases (show false=true from hc)
     | dtu _=>cases (show false=true from hc)
     | dcf _=>cases (show false=true from hc)
     | fn _=>cases (show false=true from hc)
     | scr _=>cases (show false=true from hc)
    show [shK (kyT a),shK (kyT b)]=[shT a,shT b]
    rw[g a fl.1,g b fl.2.1]
   obtain ⟨us,a,b,_,_,_,f4,_,_,f7⟩:=all t0 List.mem_cons_self
   have er: ∃y,r=[y]:=by
    unfold qeg at f7
    rw[f4] at f7
    exact ⟨_,(List.cons.inj f7).2.symm⟩
   obtain ⟨y,rfl⟩:=er
   refine ⟨x,y,?_,all⟩
   rw[List.all_cons,Bool.and_eq_true] at ho
   simpa using ho.1
section
variable {M:Md} {X:Cx} {e:Expr} {dq:Ro->Rs (Bool×List T)} {x:Str} {P c:Addr} {params:Arguments} {scope:Scope} {p1 p2 p3 p4 p5 p6 tp lpos kpos p pos:Pos} {i j j1 j2 kk:Nat} {qual:Str}
open PySem.Spec PyProof.Rows in
theorem qlt (he:DQ M X e dq) (hg:Gl X "sorted") (hm:X.mg "sorted" =none) (hv:bootBuiltins "sorted" =some (.builtin "sorted"))
  (hcode:X.env.code= .ref c) (C:PySem.W.CodeHd X.base c P) (hb: ∃bm ob,X.mg "__builtins__" =some (.ref bm)/\bm≠builtinsNs/\X.base.get? bm=some ob/\ob.cls= .type "module" /\ob.dict=some builtinsNs/\ob.data= .plain)
  (hfree: ∀x∈scope.names,x.2≠.free) (hd:defaultsOf params X.env=([],[])) (hq:X.env.qual++("<lambda>" :Str)=qual)
  (hk:scope.kind= .function) (hco:scope.isCoroutine=false) (hgen:scope.isGenerator=false) (hx:scope.names.lookup x=some .local) (hcell: ∀y∈scope.names,y.2≠.cell) (hdb:(x==("__debug__" :Str))=false)
  (hbd: ∀(pm cv ctv v:Value),bindArgs (PySem.W.kla_fn "<lambda>" qual params (.Tuple [.Subscript (.Name x p1) (.Constant (.int (i:Int)) j1 p2) p3,.Subscript (.Name x p4) (.Constant (.int (j:Int)) j2 p5) p6] kk tp) scope [] pm cv ctv) ⟨[v],[]⟩=pure [(x,v)]) (hr:qcu 4 X.A)
  (hT: ∀H,M.G.P H->Tab P lpos qual H) (hT': ∀H H2,M.G.P H->qlT P H H2->Tab P lpos qual H2->M.G.P H2) (hK:X.K=M.K:=by rfl)
  (hs0:starEach [e] X.env=(false,eval e X.env)::starEach [] X.env:=by rfl) (hs1:backTo pos (starEach [e] X.env)=(false,eval e X.env)::backTo pos (starEach [] X.env):=by rfl) (hs2:(backTo pos (starEach [e] X.env)).any (·.1)=false:=by rfl):
  DF M X (.Call (.Name "sorted" p) [e] [⟨some "key",.Lambda params (.Tuple [.Subscript (.Name x p1) (.Constant (.int (i:Int)) j1 p2) p3,.Subscript (.Name x p4) (.Constant (.int (j:Int)) j2 p5) p6] kk tp) scope lpos,kpos⟩] pos) (qek (qc1 i j) dq):=by
 intro pins s σ H Q I ⟨H0,B0,ρ,B,ev,w⟩
 refine wpAny_Call_Name_kw (qd4 I hg hm hv ?_)
 refine PyProof.Rows.callWith_kw ?_ hs1 hs2 rfl rfl
 have hpa:PA X [e] (λσ H Q=>tQ M dq σ H λx H1=>Q [x] H1):=λpos pins s σ H Q I h=>(qao he qaF hs0) pos pins s σ H Q I h
 have hR:tQ M dq σ H λx H1=> ∃a vs q B1,x= .ref a/\qa5 H B H1 B1/\M.G.P H1/\(if q.1=true then H1 a=some (.lst vs) else SqT M.K B1 a vs)/\qaK M.K B1 q.2 vs/\
   Wnt M H0 (λa=> ∀p vs H' B',qa5 H B H' B'->M.G.P H'->H p=none->B' p=none->H' p=some (.lst vs)->qaK M.K B' a vs->Q (.ref p) H') (qc1 i j q):=
  tQ.of ev (Wnt.mono (Wnt.bind (qcc.mp w)) λq w1 p vs H1 B1 g1 m1 hq r1=>⟨p,vs,q,B1,rfl,g1,m1,hq,r1,w1⟩)
 refine thn (hpa pos pins s σ H (λvs H1=>match vs with
  | [x]=> ∃a vs q B1,x= .ref a/\qa5 H B H1 B1/\M.G.P H1/\(if q.1=true then H1 a=some (.lst vs) else SqT M.K B1 a vs)/\qaK M.K B1 q.2 vs/\
   Wnt M H0 (λa=> ∀p vs H' B',qa5 H B H' B'->M.G.P H'->H p=none->B' p=none->H' p=some (.lst vs)->qaK M.K B' a vs->Q (.ref p) H') (qc1 i j q)
  | _=>False) I hR) λus s1 ⟨vs,H1,I1,r1,q1⟩=> ?_
 match vs,r1,q1 with
 | [_],r1,q1=>
  obtain ⟨a,vs,q,B1,rfl,g1,m1,hql,rq,w1⟩:=q1
  obtain ⟨u,rfl,ru⟩:=qeW r1
  cases ru
  have ev1:=ev.grow g1 m1
  unfold qc1 at w1
  split at w1
  case isFalse=>exact w1.elim
  rename_i hcc
  rw[if_pos hcc.1.1] at hql
  have hS:SqL X.K H1 a vs:=SqL.of hql
  have hT1:=hT _ m1
  show wpAny _ _ (evalAll [(do let v <-eval (.Lambda params (.Tuple [.Subscript (.Name x p1) (.Constant (.int (i:Int)) j1 p2) p3,.Subscript (.Name x p4) (.Constant (.int (j:Int)) j2 p5) p6] kk tp) scope lpos) X.env; standAt pos; pure v)]) _ _ s1
  obtain ⟨ps,hP,_⟩:=id hT1
  refine wpAny_evalAll_cons (wpAny_bind (qmS I1 hcode C hb hfree hd hq hT1 λf c' ctv H2 s2 I2 hT2 same _ kp hf0 hfn hfo hrec=>wpAny_bind (wpAny_standAt (wpAny_pure (wpAny_evalAll_nil ?_)))))
  show wpAny _ _ (call (.builtin "sorted") [.ref a] [(Str.ofString "key",.ref f)]) _ _ s2
  have hS2:=same.seqL hP hS
  obtain ⟨its,rv,pl,hz⟩:=I2.list hS2
  have hlen:=rv.length
  have l2:=rq.length
  have notP: ∀b o,B1 b=some o->b≠P:=λb o eb z=>by
   subst z
   have:=ev1.bh _ _ eb
   rw[hP] at this; cases this
   exact ev1.bt _ _ eb
  have le2:Le B1 H2:=λb o eb=>same b o (ev1.bh _ _ eb) (notP b o eb)
  have elem: ∀{m:Nat},m<q.2.length->Rep X.K B1 (q.2.getD m .non) (vs.getD m .non)/\RelV (vs.getD m .non) (its.getD m Value.none)/\q.2.getD m .non∈q.2:=λ{m} hm=>⟨by rw[hK]; exact rq.getD m hm,qeo rv m,by
   rw[List.getD_eq_getElem?_getD,List.getElem?_eq_getElem hm]; exact List.getElem_mem hm⟩
  have key1: ∀{m:Nat},m<q.2.length->((q.2.map (qeg i j)).map (qbJ qbW (q.2.map (qeg i j)))).getD m 0=qbJ qbW (q.2.map (qeg i j)) (qeg i j (q.2.getD m .non)):=λ{m} hm=>by
   rw[List.getD_eq_getElem?_getD,List.getElem?_map,List.getElem?_map,List.getElem?_eq_getElem hm,List.getD_eq_getElem?_getD,List.getElem?_eq_getElem hm]
   rfl
  have kxy: ∃x y,q.2=[]\/(x=0\/x=1)/\∀t∈q.2,∃us a b,t= .tup us/\us[i]? =some a/\us[j]? =some b/\qcx i j t=[a,b]/\qea a=true/\qea b=true/\(qeg i j t).map shK=[x,y]:=by
   by_cases z:q.2=[]
   ·exact ⟨0,0,.inl z⟩
   ·obtain ⟨x,y,h⟩:=qj2 hcc.2 z
    exact ⟨x,y,.inr h⟩
  obtain ⟨x0,y0,hxy⟩:=kxy
  have ne_of_lt: ∀{m:Nat},m<q.2.length->(x0=0\/x0=1)/\∃us a b,q.2.getD m .non= .tup us/\us[i]? =some a/\us[j]? =some b/\qcx i j (q.2.getD m .non)=[a,b]/\qea a=true/\qea b=true/\(qeg i j (q.2.getD m .non)).map shK=[x0,y0]:=λ{m} hm=>by
   rcases hxy with z | ⟨h1,h2⟩
   ·rw[z] at hm; cases hm
   ·exact ⟨h1,h2 _ (elem hm).2.2⟩
  refine St.sorted_g (κ:=tuples' true) (KV:=λh m v=>qeU h (qeg i j (q.2.getD m .non)) v) (kz:=(q.2.map (qeg i j)).map (qbJ qbW (q.2.map (qeg i j)))) (q:=f) rfl pl.isList (by simp; lia) (by lia) (λm v hv s' kp' hg' ho'=> ?_) (λh h' m v st hv=> ?_) (λs' ks kp' hks h2 Q' E' hq'=> ?_) (λs' ks kp' hks m1 m2 hm1 hm2 C' hc'=> ?_) λD h' tk cc pp hD0 kp' ho hD=> ?_
  ·have hm:m<q.2.length:=by
    have:=(List.getElem?_eq_some_iff.mp hv).1
    lia
   obtain ⟨_,us,ka,kb,e1,e2,e3,e4,e5,e6,_⟩:=ne_of_lt hm
   obtain ⟨rp,rl,_⟩:=elem hm
   have ev':its.getD m Value.none=v:=by rw[List.getD_eq_getElem?_getD,hv]; rfl
   rw[ev'] at rl
   rw[e1] at rp
   obtain ⟨t,ws,et,sq,rs⟩:=qbf rp
   rw[et] at rl
   cases rl
   obtain ⟨its2,rv2,pl2,hz2⟩:=I2.tuple (le2.sqT sq)
   obtain ⟨va,fa1,fa2⟩:=rs.get e2
   obtain ⟨vb,fb1,fb2⟩:=rs.get e3
   obtain ⟨ua,ga1,ga2⟩:=rv2.get fa1
   obtain ⟨ub,gb1,gb2⟩:=rv2.get fb1
   have pl3:IsTup s'.heap t its2.toArray:=by
    obtain ⟨o,e,r⟩:=pl2
    exact ⟨o,kp' _ _ e,r⟩
   have zz:its2.length<=sizeLine:=by rw[<-rv2.length]; exact hz2
   refine qnq (R:=λh v=>qeU h (qeg i j (q.2.getD m .non)) v) (kp' _ _ hfo) (hrec.keeps kp') (I2.nolimit.keeps kp') hr.in1.in1.depth hk hco hgen hx hcell (λv=>hbd _ _ _ v) λA' env s3 L kp3=> ?_
   have pl4:IsTup s3.heap t its2.toArray:=by
    obtain ⟨o,e,r⟩:=pl3
    exact ⟨o,kp3 _ _ e,r⟩
   refine qmR (qkM L hdb pl4 ga1 zz λtk1=>qkM (s:={ s3 with toks:=tk1 }) L hdb pl4 gb1 zz λtk2=> ?_) rfl
   refine ⟨_,tk2,⟨_,[ua,ub],rfl,⟨_,Heap.get?_push_size _ rfl,rfl,_,rfl⟩,?_⟩,rfl,λb o e=>Heap.get?_push_of_some _ e⟩
   have ek:(qeg i j (q.2.getD m .non)).map kyV=[va,vb]:=by
    unfold qeg
    rw[e4]
    show [kyV (kyT ka),kyV (kyT kb)]=_
    rw[<-(qfE e5 fa2).1,<-(qfE e6 fb2).1]
   rw[ek]
   exact .cons ga2 (.cons gb2 .nil)
  ·obtain ⟨p,its3,e1,⟨o,e2,e3,e4⟩,e5⟩:=hv
   exact ⟨p,its3,e1,⟨o,st _ _ e2 (by rw[e3]; decide),e3,e4⟩,e5⟩
  ·have hz:0<q.2.length:=by lia
   refine qgq ks (ne_of_lt hz).1 (by rw[hks.1]; exact h2) (r:=[y0]) (λv hv=> ?_) hq'
   obtain ⟨m,hm,rfl⟩:=List.mem_iff_getElem.mp hv
   have hm':m<q.2.length:=by have:=hks.1; lia
   exact ⟨_,hks.2 m _ (List.getElem?_eq_getElem hm),(ne_of_lt hm').2.choose_spec.choose_spec.choose_spec.2.2.2.2.2.2⟩
  ·have h1:m1<q.2.length:=by lia
   have h2:m2<q.2.length:=by lia
   have g1:=(ne_of_lt h1).2.choose_spec.choose_spec.choose_spec.2.2.2.2.2.2
   have g2:=(ne_of_lt h2).2.choose_spec.choose_spec.choose_spec.2.2.2.2.2.2
   rw[key1 h1,key1 h2,qb0 qmF (List.mem_map.mpr ⟨_,(elem h1).2.2,rfl⟩) (List.mem_map.mpr ⟨_,(elem h2).2.2,rfl⟩)] at hc'
   have l1:=hks.1
   have a1:=hks.2 m1 _ (List.getElem?_eq_getElem (by lia))
   have a2:=hks.2 m2 _ (List.getElem?_eq_getElem (by lia))
   rw[List.getD_eq_getElem?_getD,List.getD_eq_getElem?_getD,List.getElem?_eq_getElem (by lia:m1<ks.length),List.getElem?_eq_getElem (by lia:m2<ks.length)]
   exact qkF a1 a2 (g1.trans g2.symm) hc'
  ·have fD:H2 D=none:=I2.hok.fresh hD0
   have I3:Inv X pins σ (L2.upd H2 D (.lst (pp.toList.map λj=>vs.getD j .non))) { s2 with heap:=h',toks:=tk }:=by
    refine I2.laid kp' hD0 ⟨?_,_,cc,vals_pick rv pp.toList,hD⟩
    rw[List.length_map,Array.length_toList,ho.1.sz,sizeLine_eq]
    lia
   obtain ⟨ps2,hP2,_⟩:=id hT2
   have nD:H1 D=none:=by
    cases z:H1 D with
    | none=>rfl
    | some o=>
     by_cases zP:D=P
     ·rw[zP,hP2] at fD; cases fD
     ·rw[same D o z zP] at fD; cases fD
   have g2:qa5 H1 B1 H2 B1:=⟨⟨λb o eb ne=>same b o eb (λz=>by subst z; rw[hP] at eb; cases eb; exact ne ps rfl),λb nb=>by
     by_cases z:b=P
     ·subst z; rw[hP2]; intro w; cases w
     ·cases eb:H1 b with
      | none=>exact absurd eb nb
      | some o=>rw[same b o eb z]; intro w; cases w⟩,.refl _,le2,ev1.bt,λ_ _ _ _ _=>rfl⟩
   have m2:=hT' _ _ m1 same hT2
   obtain ⟨g,m',bp⟩:=qcL (M:=M) (ws:=pp.toList.map λj=>vs.getD j .non) g2.bh ev1.bt m2 fD
   refine ⟨.ref D,_,I3,rfl,w1 D _ _ B1 ((g1.trans g2).trans g) m' (qb2 g1.gx nD) bp qak ?_⟩
   have ep:=qdq ho
   have ee:qdj (qeg i j) q.2=pp.toList.map λj=>q.2.getD j .non:=by
    unfold qdj
    rw[ep,srt_congr (k':=λm=>qbJ qbW (q.2.map (qeg i j)) (qeg i j (q.2.getD m .non))),qbY (k:=λt=>qbJ qbW (q.2.map (qeg i j)) (qeg i j t)) (f:=λj=>q.2.getD j .non) (λb=>rfl),show its.length=q.2.length by lia,Mir.map_range_getD]
    intro b hb
    have hb':b<q.2.length:=by have:=List.mem_range.mp hb; lia
    exact key1 hb'
   rw[ee]
   have go: ∀l:List Nat,(∀j∈l,j<q.2.length)->qaK M.K B1 (l.map λj=>q.2.getD j .non) (l.map λj=>vs.getD j .non):=λl=>by
    induction l with
    | nil=>exact λ_=>.nil
    | cons j l ih=>exact λhl=>.cons (rq.getD j (hl j List.mem_cons_self)) (ih λi hi=>hl i (List.mem_cons_of_mem _ hi))
   exact go _ λj hj=>by have:=(Mir.order_mem ho j).mp hj; lia
end
end PL
end
section
namespace PL
open PySem L2 SR SetL
theorem qdO:bootBuiltins "sum" =some (.builtin "sum"):=by decide+kernel
theorem qgx (ns:List Int): ∀a:Int,PySem.W.Num.foldFrom PySem.W.Num.add (.int a) (ns.map PySem.W.WData.int)=some (.int (a+ns.sum)):=by
 induction ns with
 | nil=>intro a; simp[PySem.W.Num.foldFrom]
 | cons n ns ih=>
  intro a
  simp only[List.map_cons,PySem.W.Num.foldFrom,List.sum_cons]
  have e:PySem.W.Num.add (.int a) (.int n)=some (.int (a+n)):=rfl
  rw[e]
  show PySem.W.Num.foldFrom _ _ _=_
  rw[ih,Int.add_assoc]
theorem qf3 (ns:List Int): ∀a:Int,PySem.W.Num.sumInts a (ns.map PySem.W.WData.int)=some (.int (a+ns.sum)):=by
 induction ns with
 | nil=>intro a; simp[PySem.W.Num.sumInts]
 | cons n ns ih=>
  intro a
  simp only[List.map_cons,PySem.W.Num.sumInts,List.sum_cons]
  rw[ih,qgx,Int.add_assoc]
  split<;>rfl
section
variable {X:Cx}
open PySem.Spec PyProof.Rows in
theorem qdN (hc:X.calm=true):qdf X (.builtin "sum") (λxs H Q=> ∃(a:Addr) (ns:List Int),xs=[.ref a]/\SqL X.K H a (ns.map V.int)/\Q (.int ns.sum) H):=by
 intro pins s σ H xs us Q I r h
 obtain ⟨a,ns,rfl,hS,q⟩:=h
 obtain ⟨u,rfl,ru⟩:=qeW r
 cases ru
 obtain ⟨its,rv,pl,hz⟩:=I.list hS
 have hl:=rv.length
 rw[List.length_map] at hl
 have hlt:a<s.heap.objs.size:=Heap.lt_size pl.isList.choose_spec.1
 have hh:X.A.in1.handled=none:=I.ok.hd hc
 refine PySem.Flt.call_sum_walkF (xs:=ns.map PySem.W.WData.int) (qf3 ns 0) (wpAny_pyIter_list pl.isList ?_)
 have W:=(Walks.list (prog:=X.prog) (w:=X.w) hh s.heap.objs.size a (Nat.ne_of_lt hlt) its.toArray).toS
 have en:its.toArray.size=(ns.map PySem.W.WData.int).length:=by rw[List.size_toArray,List.length_map]; lia
 rw[en] at W
 refine ⟨s.heap.objs.size,_,_,_,_,_,rfl,W,⟨⟨_,Heap.get?_push_size _ rfl,rfl,rfl⟩,pl.isList.at λo e=>Heap.get?_push_of_some _ e⟩,λb hb=> ?_,λi v hv=> ?_,λs' v hv mv=> ?_⟩
 ·have hb':b=s.heap.objs.size\/b=a:=by simpa using hb
  rcases hb' with rfl | rfl
  ·show s.heap.objs.size<(Heap.push _ _).objs.size
   rw[size_push']; exact Nat.lt_succ_self _
  ·show b<(Heap.push _ _).objs.size
   rw[size_push']; exact Nat.lt_succ_of_lt hlt
 ·have hv':its[i]? =some v:=by simpa using hv
  have hi:=(List.getElem?_eq_some_iff.mp hv').1
  have hi':i<ns.length:=by lia
  obtain ⟨u,e1,e2⟩:=rv.get (i:=i) (x:=V.int ns[i]) (by rw[List.getElem?_map,List.getElem?_eq_getElem hi']; rfl)
  rw[hv'] at e1; cases e1
  obtain ⟨tk,rfl⟩:=e2
  exact ⟨.int ns[i],by rw[List.getElem?_map,List.getElem?_eq_getElem hi']; rfl,.int _ _⟩
 ·rw[Int.zero_add] at hv
  cases hv with
  | int n t=>
   obtain ⟨m1,m2,m3,m4,m5⟩:=mv
   have es:s'={ s with heap:=s'.heap,toks:=s'.toks }:=by
    cases s'
    simp only at m2 m3 m4
    subst m2 m3 m4
    rfl
   rw[es]
   refine ⟨.int ns.sum,H,?_,⟨t,rfl⟩,q⟩
   refine I.kept (t':=s'.toks) λb o eo=>m1 b o ?_ (Heap.get?_push_of_some _ eo)
   intro z
   have:b=s.heap.objs.size:=by simpa using z
   exact Nat.ne_of_lt (Heap.lt_size eo) this
end
def qfe (q:Bool×List T):Rs T:=if q.1=true/\q.2.all qk1=true then .ok (.int (q.2.map qgu).sum) else .no
section
variable {M:Md} {X:Cx} {e a:Expr} {pos p1 p2 p3:Pos} {dq:Ro->Rs (Bool×List T)}
theorem qiB (h:PE X e (tCB (λxs H Q=> ∃(a:Addr) (ns:List Int),xs=[.ref a]/\SqL X.K H a (ns.map V.int)/\Q (.int ns.sum) H) (qcv (tQ M dq) qhL))):DE M X e (dCQ qfe dq):=
 qiD h (λH B p vs q c Q le bt m hq r ec k=>by
  unfold qfe at ec
  split at ec
  ·rename_i hcc
   cases ec
   unfold qiQ at hq
   rw[if_pos hcc.1] at hq
   exact ⟨p,q.2.map qgu,rfl,SqL.of (by rw[<-qgc hcc.2 r]; exact hq),k _ H B (.refl le bt) m qbk⟩
  ·cases ec) (λq c z=>by unfold qfe at z; split at z<;>cases z)
end
end PL
end
section
namespace St
open PySem PySem.W PySem.Calls PyProof.Rows
end St
end
section
namespace St
open PySem PySem.W PySem.Calls PyProof.Rows
end St
end
section
namespace PL
open PySem L2 SR SetL
end PL
end
section
namespace L2
open PySem PySem.Spec PyProof.Rows
def qgW (Ts:List Addr) (H:Hp):Prop:=(∀T∈Ts,H T=some (.tbl #[]))/\∀b,b∉Ts->H b=none\/∃o xs,H b=some (.frz o (.lst xs))
theorem qjd {P:Program} {w:World} {K:PySem.W.Frag} {mg mb:Str->Option Value} {CX:CXT} {k:Nat} {fa a:Addr} {cts:List (Addr×Addr)} {fd:FuncData} {x:Str} {sp:Sp} {s₁:Shared} {vs:List Value} {ns:List Int}
  (KX:K.In s₁.heap) (hns:s₁.heap.Ns mainGlobals mg) (hb:s₁.heap.Ns builtinsNs mb) (hbb: ∀x:Str,x≠ "__name__" ->mb x=bootBuiltins x) (hlim:s₁.heap.NoLimit) (hg:s₁.gens= #[])
  (ha:s₁.heap.get? a=some { cls:=.type "list",data:=.seq vs.toArray }) (hi:IntsAre vs ns) (hl:ns.length<=sizeLine) (hr:qcu k callerA)
  (hC: ∀p∈cts,PySem.W.CodeHd s₁.heap p.1 p.2) (hT: ∀T∈cts.map (·.2),s₁.heap.get? T=some (PySem.W.tabObj #[])) (hKT: ∀T∈cts.map (·.2),K.lookup T=none) (hbm:qhF mg s₁.heap)
  (F: ∀base:Heap,K.In base->base.Ns mainGlobals mg->(∀p∈cts,PySem.W.CodeHd base p.1 p.2)->qhF mg base->qbo P w K mg base CX k fa fd [x] sp) (hbind: ∀(s:Shared) (u:Value),BindsTo s fd ⟨[u],[]⟩ [(x,u)])
  (hsp: ∀H:Hp,qgW (cts.map (·.2)) H->SqL K H a (ns.map V.int)->sp [.ref a] H (λv _=>v= .bl true) λ_ _ _=>False)
  (hCX: ∀H e s',CX [] H s₁ (λ_ _ _=>False) e s'->False):
  codeAny (model P w) callerA (.call (.ref fa) ⟨[.ref a],[]⟩) (λr s'=>r= .ok (.ret (.bool true))/\OldK s₁.heap s'.heap/\s'.os=s₁.os/\AllBare s'.gens) s₁:=by
 have rv:=qf0 hi
 have lenV:=hi.length
 have core: ∀H:Hp,qgW (cts.map (·.2)) H->SqL K H a (ns.map V.int)->HOk P w H s₁.heap->(∀b,H b≠none->b=a\/b∈cts.map (·.2))->(H a≠none->K.lookup a=none)->
   codeAny (model P w) callerA (.call (.ref fa) ⟨[.ref a],[]⟩) (λr s'=>r= .ok (.ret (.bool true))/\OldK s₁.heap s'.heap/\s'.os=s₁.os/\AllBare s'.gens) s₁:=by
  intro H hO hS hok hA hK
  have base_of: ∀{b:Addr} {o:Obj},s₁.heap.get? b=some o->H b=none->(qk7 s₁.heap H).get? b=some o:=λe n=>qmY e n
  have other: ∀{b:Addr} {o:Obj},s₁.heap.get? b=some o->(∀xs n,o.data≠.seq xs n)->(o.cls≠.none)->H b=none:=λ{b o} e d d2=>by
   cases q:H b with
   | none=>rfl
   | some u=>
    rcases hA b (by rw[q]; simp) with z | z
    ·subst z
     rw[ha] at e; cases e
     exact absurd rfl (d _ _)
    ·rw[hT b z] at e; cases e
     exact absurd rfl d2
  have noA: ∀{b:Addr} {o:Obj} {es:Array DictEntry} {ep:Nat},s₁.heap.get? b=some o->o.data= .dict es ep->H b=none:=λ{b o es ep} e d=>by
   cases q:H b with
   | none=>rfl
   | some u=>
    rcases hA b (by rw[q]; simp) with z | z
    ·subst z
     rw[ha] at e; cases e
     have d':Data.seq vs.toArray _=Data.dict es ep:=d
     cases d'
    ·rw[hT b z] at e; cases e
     have d':Data.fields _=Data.dict es ep:=d
     cases d'
  have nsK: ∀{b:Addr} {m:Str->Option Value},s₁.heap.Ns b m->(qk7 s₁.heap H).Ns b m:=λ{b m} ⟨o,es,ep,e,d,r⟩=>⟨o,es,ep,base_of e (noA e d),d,r⟩
  have hKb:K.In (qk7 s₁.heap H):=λb o e=>base_of (KX b o e) (by
   cases q:H b with
   | none=>rfl
   | some u=>
    rcases hA b (by rw[q]; simp) with z | z
    ·subst z
     rw[hK (by rw[q]; simp)] at e; cases e
    ·rw[hKT b z] at e; cases e)
  have hM:Mod K mg (qk7 s₁.heap H):=⟨hKb,nsK hns,⟨mb,nsK hb,hbb⟩,let ⟨mc,h1,h2⟩:=hlim; ⟨mc,nsK h1,h2⟩⟩
  have hCb: ∀p∈cts,PySem.W.CodeHd (qk7 s₁.heap H) p.1 p.2:=λp hp=>by
   obtain ⟨o,vs',file,tf,flags,tg,inF,text,tt,e1,e2,e3,r⟩:=hC p hp
   exact ⟨o,vs',file,tf,flags,tg,inF,text,tt,base_of e1 (other e1 (λxs n z=>by rw[e3] at z; cases z) (λz=>by rw[e2] at z; cases z)),e2,e3,r⟩
  have hBb:qhF mg (qk7 s₁.heap H):=by
   obtain ⟨bm,ob,b1,b2,b3,b4,b5,b6⟩:=hbm
   exact ⟨bm,ob,b1,b2,base_of b3 (other b3 (λxs n z=>by rw[b6] at z; cases z) (λz=>by rw[b4] at z; cases z)),b4,b5,b6⟩
  have e0:qru P w K mg (qk7 s₁.heap H) callerA [] s₁ H:=⟨rfl,hM,λb o e=>qoE e,Nat.le_of_eq (qk6 _ _),trivial,λb hb=>absurd (show b∈([]:List Addr) from hb) (by simp),hok,.of_eq hg⟩
  refine codeAny_mono ((F _ hKb (nsK hns) hCb hBb).run callerA [] s₁ H ⟨[.ref a],[]⟩ [.ref a] [.ref a] _ _ hr e0 (hbind s₁ (.ref a)) (.cons rfl .nil) (hsp H hO hS)) λr s' h=> ?_
  cases r with
  | error e=>exact (hCX H e s' h).elim
  | ok fl=>
   cases fl with
   | next=>exact False.elim h
   | brk=>exact False.elim h
   | cont=>exact False.elim h
   | ret u=>
    obtain ⟨v,H',os,bare,un,hok',r',q⟩:=h
    have q':v= .bl true:=q
    subst q'
    obtain rfl:u=Value.bool true:=r'
    have old: ∀b o,b∉cts.map (·.2)->s₁.heap.get? b=some o->s'.heap.get? b=some o:=λb o hbT e=>by
     cases q:H b with
     | none=>exact un.keep b o e q (by intro z; exact absurd (show b∈([]:List Addr) from z) (by simp)) (by simp)
     | some u=>
      rcases hO.2 b hbT with z | ⟨ob,xs,z⟩
      ·rw[q] at z; cases z
      ·have z2:=un.frzs b ob _ z
       obtain ⟨e1,_⟩:=hok b _ z
       obtain ⟨e2,_⟩:=hok' b _ z2
       rw[e] at e1; cases e1
       exact e2
    have tb: ∀T∈cts.map (·.2),∃more,s'.heap.get? T=some (PySem.W.tabObj (#[]++more)):=λT hTm=>by
     obtain ⟨more,hT'⟩:=un.tbls T _ (hO.1 T hTm)
     exact ⟨more,hok' T _ hT'⟩
    refine ⟨rfl,⟨λb o e=> ?_,λb o e=> ?_⟩,os,bare⟩
    ·by_cases z:b∈cts.map (·.2)
     ·obtain ⟨more,hT2⟩:=tb b z
      rw[hT b z] at e; cases e
      obtain ⟨p,hp,rfl⟩:=List.mem_map.mp z
      exact .inr (.inl ⟨((hC p hp).tab (hT _ z)).isCodeTable,rfl, #[],more,rfl,hT2⟩)
     ·exact .inl (old b o z e)
    ·by_cases z:b∈cts.map (·.2)
     ·obtain ⟨more,hT2⟩:=tb b z
      exact ⟨_,hT2⟩
     ·exact ⟨o,old b o z e⟩
 have aT:a∉cts.map (·.2):=λz=>by rw[hT a z] at ha; cases ha
 cases hk:K.lookup a with
 | some o=>
  have e:=KX a o hk
  rw[ha] at e
  cases e
  refine core (λb=>if b∈cts.map (·.2) then some (.tbl #[]) else none) ⟨λT hTm=>if_pos hTm,λb hb=>.inl (if_neg hb)⟩ (.inr ⟨_,vs.toArray,_,hk,rfl,rfl,rfl,by rw[List.size_toArray,lenV]; exact hl,by simpa using rv⟩) (λb u z=> ?_) (λb z=> ?_) λz=>absurd (if_neg aT) z
  ·by_cases hb:b∈cts.map (·.2)
   ·have z':=(if_pos hb).symm.trans z
    cases z'
    exact hT b hb
   ·have z':=(if_neg hb).symm.trans z
    cases z'
  ·by_cases hb:b∈cts.map (·.2)
   ·exact .inr hb
   ·exact absurd (if_neg hb) z
 | none=>
  refine core (λb=>if b∈cts.map (·.2) then some (.tbl #[]) else if b=a then some (.frz { cls:=.type "list",data:=.seq vs.toArray } (.lst (ns.map V.int))) else none) ⟨λT hTm=>if_pos hTm,λb hbT=> ?_⟩ (.inl (.inr ⟨{ cls:=.type "list",data:=.seq vs.toArray },(if_neg aT).trans (if_pos rfl)⟩)) (λb u z=> ?_) (λb z=> ?_) λ_=>hk
  ·by_cases hb:b=a
   ·exact .inr ⟨_,_,(if_neg hbT).trans (if_pos hb)⟩
   ·exact .inl ((if_neg hbT).trans (if_neg hb))
  ·by_cases hbT:b∈cts.map (·.2)
   ·have z':=(if_pos hbT).symm.trans z
    cases z'
    exact hT b hbT
   ·by_cases hb:b=a
    ·have z':=((if_neg hbT).trans (if_pos hb)).symm.trans z
     cases z'
     subst hb
     exact ⟨ha,by rw[List.length_map]; exact hl,vs,_,rv,ha⟩
    ·have z':=((if_neg hbT).trans (if_neg hb)).symm.trans z
     cases z'
  ·by_cases hbT:b∈cts.map (·.2)
   ·exact .inr hbT
   ·by_cases hb:b=a
    ·exact .inl hb
    ·exact absurd ((if_neg hbT).trans (if_neg hb)) z
theorem walk_ofTs {l:PySem.W.OpenLaw} {n k:Nat} {q:Program} {loose:List Str} {XP:(Str->Option Value)->Heap->Prop} {YP:World->Heap->Prop} {d:DefRec} {K:Params->PySem.W.Frag} {CX:World->CXT} {sp:World->List (Addr×Addr)->Sp} {x:Str} {ys:List Str}
  (hn:l.most=some n) (hn2:n<=sizeLine) (hdf:d.params.defaults=[]) (hr:qcu k callerA)
  (hY: ∀(w:World) (h:Heap),YP w h->(K w.params).In h) (hrec: ∀y∈ys,∃dx,(recsOf q).find? (λe=>e.name==y)=some dx)
  (F: ∀(w:World) (mg:Str->Option Value) (fa:Addr) (h:Heap),(K w.params).In h->h.Ns mainGlobals mg->mg d.name=some (.ref fa)->
   ∃(fd:FuncData) (cts:List (Addr×Addr)),ys.map (PySem.W.tabIn (K w.params))=cts.map some/\(∀T∈cts.map (·.2),(K w.params).lookup T=none)/\(∀(s:Shared) (u:Value),BindsTo s fd ⟨[u],[]⟩ [(x,u)])/\
    (∀base:Heap,(K w.params).In base->base.Ns mainGlobals mg->(∀p∈cts,PySem.W.CodeHd base p.1 p.2)->qhF mg base->qbo l.prog w (K w.params) mg base (CX w) k fa fd [x] (sp w cts)))
  (hsp: ∀(w:World) (cts:List (Addr×Addr)) (H:Hp) (a:Addr) (ns:List Int),ns.length<=n->qgW (cts.map (·.2)) H->SqL (K w.params) H a (ns.map V.int)->sp w cts [.ref a] H (λv _=>v= .bl true) λ_ _ _=>False)
  (hCX: ∀(w:World) (H:Hp) (s:Shared) (e:Value) (s':Shared),CX w [] H s (λ_ _ _=>False) e s'->False):
  PySem.W.WalkO q loose XP YP l.row.toRowW d [] (λf vs=>PySem.call f vs):=by
 refine Att.attach_call hn hdf λw s₀ s₁ mg mb fa o pm cd doc a vs ns G Y ho hd hcd hmg hobj hints hlen hg=> ?_
 have KX:=hY w _ Y
 obtain ⟨fd,cts,ht,hkt,hb,hF⟩:=F w mg fa _ KX G.T.g hmg
 have each: ∀p∈cts,PySem.W.CodeHd s₁.heap p.1 p.2/\s₁.heap.get? p.2=some (PySem.W.tabObj #[]):=λp hp=>by
  have hm:some p∈ys.map (PySem.W.tabIn (K w.params)):=by rw[ht]; exact List.mem_map.mpr ⟨p,hp,rfl⟩
  obtain ⟨y,hy,ey⟩:=List.mem_map.mp hm
  obtain ⟨dx,hdx⟩:=hrec y hy
  exact PySem.W.tab_of G.T KX hdx ey
 have hC:=λp hp=>(each p hp).1
 have hT: ∀T∈cts.map (·.2),s₁.heap.get? T=some (PySem.W.tabObj #[]):=λT hTm=>by
  obtain ⟨p,hp,rfl⟩:=List.mem_map.mp hTm
  exact (each p hp).2
 exact qjd KX G.T.g G.T.b G.T.builtins G.T.nolimit hg hobj hints (Nat.le_trans hlen hn2) hr hC hT hkt G.T.bmain hF hb (λH hO hS=>hsp w cts H a ns hlen hO hS) λH e s'=>hCX w H s₁ e s'
end L2
end
section
namespace PL
open PySem L2 SR SetL
theorem qs2 {α:Type}: ∀{us:List α},us.length=1->∃a,us=[a]
 | [a],_=>⟨a,rfl⟩
theorem qrn {α:Type}: ∀{us:List α},us.length=2->∃a b,us=[a,b]
 | [a,b],_=>⟨a,b,rfl⟩
theorem qrm {α:Type}: ∀{us:List α},us.length=3->∃a b c,us=[a,b,c]
 | [a,b,c],_=>⟨a,b,c,rfl⟩
theorem hu1 {k:Nat} {A:Around} (r:qcu k A):A.units+1<cLine:=by have:=r.units; lia
theorem qlL:bootBuiltins "max" =some (.builtin "max"):=by decide+kernel
def qe6 (l:List (Addr×Pos×Str)):Gam where
 P:=λH=> ∀p∈l,Tab p.1 p.2.1 p.2.2 H
 st:=λH H' k h p hp=>by
  obtain ⟨ps,h1,h2,h3⟩:=h p hp
  refine ⟨ps,k _ _ h1 (λ_ z=>by cases z) (λ_ z=>by cases z) (λ_ z=>by cases z) (λ_ _ _ z=>by cases z),h2,h3.imp_right λ⟨c,a,b⟩=>⟨c,a,k _ _ b (λ_ z=>by cases z) (λ_ z=>by cases z) (λ_ z=>by cases z) (λ_ _ _ z=>by cases z)⟩⟩
theorem qm2 {l:List (Addr×Pos×Str)} {P:Addr} {lpos:Pos} {qual:Str} (h:(P,lpos,qual)∈l): ∀H,(qe6 l).P H->Tab P lpos qual H:=λH g=>g _ h
theorem qgm {β:Type}: ∀{l:List (Addr×β)},(l.map (·.1)).Nodup->∀{a b:Addr×β},a∈l->b∈l->a.1=b.1->a=b
 | [],_,_,_,h,_,_=>by cases h
 | x::l,nd,a,b,ha,hb,e=>by
  rw[List.map_cons,List.nodup_cons] at nd
  rcases List.mem_cons.mp ha with rfl | ha'
  ·rcases List.mem_cons.mp hb with rfl | hb'
   ·rfl
   ·exact absurd (by rw[e]; exact List.mem_map.mpr ⟨b,hb',rfl⟩) nd.1
  ·rcases List.mem_cons.mp hb with rfl | hb'
   ·exact absurd (by rw[<-e]; exact List.mem_map.mpr ⟨a,ha',rfl⟩) nd.1
   ·exact qgm nd.2 ha' hb' e
theorem qjj {l:List (Addr×Pos×Str)} {P:Addr} {lpos:Pos} {qual:Str} (h:(P,lpos,qual)∈l) (nd:(l.map (·.1)).Nodup): ∀H H2,(qe6 l).P H->qlT P H H2->Tab P lpos qual H2->(qe6 l).P H2:=λH H2 g same t p hp=>by
 by_cases e:p.1=P
 ·have:=qgm nd hp h e
  subst this
  exact t
 ·obtain ⟨ps,h1,h2,h3⟩:=g p hp
  obtain ⟨qs,k1,_⟩:=g _ h
  refine ⟨ps,same _ _ h1 e,h2,h3.imp_right λ⟨c,a,b⟩=>⟨c,a,same _ _ b λz=> ?_⟩⟩
  subst z
  rw[k1] at b
  cases b
theorem qrA {Ts:List Addr} {lq:List (Pos×Str)} {H:Hp} (h:qgW Ts H):(qe6 (Ts.zip lq)).P H:=λp hp=>⟨#[],h.1 _ (List.of_mem_zip hp).1,trivial,.inl rfl⟩
end PL
end
section
namespace PL
open PySem L2
section
variable {M:Md} {H0 B0 H B H' B':Hp} {ρ:Ro} {σ:St}
theorem Ev.setOd (v:Ev M H0 B0 ρ σ H B) {i:Nat} {ts:List (Key×T)} {p:Addr} {vs:List (Key×V)} (h0:H0 p=none) (hb:B p=none) (hp:H p=some (.dK vs)) (r:qbG M.K B ts vs)
  (ap: ∀(j:Nat) (s:Sl),j≠i->ρ[j]? =some s->s.own=true->σ[j]?.join≠some (.ref p)):Ev M H0 B0 (ρ.set i (.od ts)) (σ.set i (some (.ref p))) H B:=by
 by_cases hi:i<ρ.length
 case neg=>
  rw[List.set_eq_of_length_le (by lia),List.set_eq_of_length_le (by rw[<-v.len]; lia)]
  exact v
 have hi':i<σ.length:=by rw[<-v.len]; exact hi
 refine ⟨v.gr,v.gm,by simp[v.len],λj s e=> ?_,λj k sj sk p' hjk ej ek oj ok a=> ?_⟩
 ·rw[qcn hi']
  rw[List.getElem?_set] at e
  by_cases q:i=j
  ·subst q
   rw[if_pos rfl,if_pos hi] at e
   cases e
   rw[if_pos rfl]
   exact ⟨p,vs,rfl,h0,hb,hp,r⟩
  ·rw[if_neg q] at e⊢
   exact v.sl j s e
 ·rw[List.getElem?_set] at ej ek
  rw[qcn hi'] at a⊢
  by_cases q:i=j
  ·subst q
   rw[if_neg hjk] at ek
   rw[if_pos rfl] at a
   rw[if_neg hjk]
   cases a
   exact ap k sk (λz=>hjk z.symm) ek ok
  ·rw[if_neg q] at ej a
   by_cases q2:i=k
   ·subst q2
    rw[if_pos rfl]
    intro z
    cases z
    exact ap j sj hjk ej oj a
   ·rw[if_neg q2] at ek⊢
    exact v.ap j k sj sk p' hjk ej ek oj ok a
theorem Ev.newOd {p:Addr} {vs:List (Key×V)} {ts:List (Key×T)} (i:Nat) (ev:Ev M H0 B0 ρ σ H B) (g:qa5 H B H' B') (m:M.G.P H') (hp:H p=none) (hb:B' p=none) (hl:H' p=some (.dK vs)) (r:qbG M.K B' ts vs):
  Ev M H0 B0 (ρ.set i (.od ts)) (σ.set i (some (.ref p))) H' B':=by
 refine (ev.grow g m).setOd (qb2 ev.gr.gx hp) hb hl r λj s hj e o z=> ?_
 have q:=ev.sl j s e
 cases s with
 | no=>cases o
 | fz t=>cases o
 | ow ts'=>
  obtain ⟨p',vs',a1,a2,a3,a4,a5⟩:=q
  rw[a1] at z; cases z
  rw[a4] at hp; cases hp
 | od ts'=>
  obtain ⟨p',vs',a1,a2,a3,a4,a5⟩:=q
  rw[a1] at z; cases z
  rw[a4] at hp; cases hp
 | ou ts'=>
  obtain ⟨p',vs',a1,a2,a3,a4,a5⟩:=q
  rw[a1] at z; cases z
  rw[a4] at hp; cases hp
 | pd ts'=>
  obtain ⟨p',vs',a0,a1,a2,a3,a4,a5⟩:=q
  rw[a1] at z; cases z
  rw[a4] at hp; cases hp
 | pu ts'=>
  obtain ⟨p',vs',a0,a1,a2,a3,a4,a5⟩:=q
  rw[a1] at z; cases z
  rw[a4] at hp; cases hp
end
def qcX:T->Option Key
 | .int i=>some (.inl i)
 | .str x=>some (.inr x)
 | _=>none
def qgZ (kvs:List (Key×T)) (k:Key) (t:T):List (Key×T):=if (kvs.any λkv=>decide (kv.1=k))=true then kvs.map (λkv=>if kv.1=k then (kv.1,t) else kv) else kvs++[(k,t)]
def qjG (kvs:List (Key×T)) (k:Key):Option T:=(kvs.find? λkv=>decide (kv.1=k)).map (·.2)
section
variable {K:PySem.W.Frag} {B:Hp}
theorem qbG.nil:qbG K B [] []:=by unfold qbG; rfl
theorem qbG.cons {k:Key} {t:T} {v:V} {ts:List (Key×T)} {vs:List (Key×V)} (h:Rep K B t v) (r:qbG K B ts vs):qbG K B ((k,t)::ts) ((k,v)::vs):=by unfold qbG; exact ⟨v,vs,rfl,h,r⟩
theorem qbG.inv {k:Key} {t:T} {ts:List (Key×T)} {vs:List (Key×V)} (h:qbG K B ((k,t)::ts) vs): ∃v r,vs=(k,v)::r/\Rep K B t v/\qbG K B ts r:=by unfold qbG at h; exact h
theorem qbG.inv0 {vs:List (Key×V)} (h:qbG K B [] vs):vs=[]:=by unfold qbG at h; exact h
theorem qbG.length: ∀{ts:List (Key×T)} {vs:List (Key×V)},qbG K B ts vs->vs.length=ts.length
 | [],_,h=>by rw[h.inv0]; rfl
 | (_,_)::_,_,h=>by
  obtain ⟨v,r,rfl,_,h'⟩:=h.inv
  simp[qbG.length h']
theorem qbG.any (k:Key): ∀{ts:List (Key×T)} {vs:List (Key×V)},qbG K B ts vs->(vs.any λkv=>decide (kv.1=k))=ts.any λkv=>decide (kv.1=k)
 | [],_,h=>by rw[h.inv0]; rfl
 | (_,_)::_,_,h=>by
  obtain ⟨v,r,rfl,_,h'⟩:=h.inv
  rw[List.any_cons,List.any_cons,qbG.any k h']
theorem qbG.repl (k:Key) {t:T} {v:V} (h:Rep K B t v): ∀{ts:List (Key×T)} {vs:List (Key×V)},qbG K B ts vs->qbG K B (ts.map λkv=>if kv.1=k then (kv.1,t) else kv) (vs.map λkv=>if kv.1=k then (kv.1,v) else kv)
 | [],_,r=>by rw[r.inv0]; exact .nil
 | (j,u)::_,_,r=>by
  obtain ⟨x,rr,rfl,a,b⟩:=r.inv
  rw[List.map_cons,List.map_cons]
  by_cases c:j=k
  ·rw[if_pos c,if_pos c]; exact .cons h (qbG.repl k h b)
  ·rw[if_neg c,if_neg c]; exact .cons a (qbG.repl k h b)
theorem qbG.snoc {k:Key} {t:T} {v:V} (h:Rep K B t v): ∀{ts:List (Key×T)} {vs:List (Key×V)},qbG K B ts vs->qbG K B (ts++[(k,t)]) (vs++[(k,v)])
 | [],_,r=>by rw[r.inv0]; exact .cons h .nil
 | (_,_)::_,_,r=>by
  obtain ⟨x,rr,rfl,a,b⟩:=r.inv
  exact .cons a (qbG.snoc h b)
theorem qbG.put {k:Key} {t:T} {v:V} {ts:List (Key×T)} {vs:List (Key×V)} (r:qbG K B ts vs) (h:Rep K B t v):qbG K B (qgZ ts k t) (qgY vs k v):=by
 unfold qgZ qgY
 rw[r.any k]
 split
 ·exact r.repl k h
 ·exact r.snoc h
theorem qbG.val (k:Key): ∀{ts:List (Key×T)} {vs:List (Key×V)},qbG K B ts vs->(∀t,qjG ts k=some t->∃v,qfv vs k=some v/\Rep K B t v)/\(qjG ts k=none->qfv vs k=none)
 | [],_,r=>by rw[r.inv0]; exact ⟨(λt z=>by cases z),(λ_=>rfl)⟩
 | (j,u)::_,_,r=>by
  obtain ⟨x,rr,rfl,a,b⟩:=r.inv
  obtain ⟨h1,h2⟩:=qbG.val k b
  unfold qjG qfv at*
  rw[List.find?_cons,List.find?_cons]
  by_cases c:j=k
  ·simp[c]
   exact a
  ·simp only[c,decide_false]
   exact ⟨h1,h2⟩
end
end PL
end
section
namespace St
open PySem PySem.W PySem.Calls PyProof.Rows
section
variable {prog:Program} {w:World} {A:Around} {E:Value->Shared->Prop} {s:Shared} {v:Value} {Q:Value->Shared->Prop}
theorem sorted_c (hcol:wpAny (model prog w) A.in1 (collect v) (λvs s1=> ∃(h1:Heap) (t1:Nat) (κ:SortKind) (kz:List Int),s1={ s with heap:=h1,toks:=t1 }/\Kp s.heap h1/\kz.length=vs.length/\vs.length<64/\
   (∀s':Shared,Kp h1 s'.heap->2<=vs.length->∀(Q:SortKind->Shared->Prop) (E:Value->Shared->Prop),Q κ s'->wpAny (model prog w) A.in1.in1 (keyKind' vs.toArray) Q E s')/\
   (∀s':Shared,Kp h1 s'.heap->∀i j,i<vs.length->j<vs.length->∀C:Bool->Shared->Prop,C (decide (kz.getD i 0<kz.getD j 0)) s'->wpAny (model prog w) A.in1.in1 (keyLt' κ (vs.getD i Value.none) (vs.getD j Value.none)) C (λ_ _=>False) s')/\
   ∀D h' tk c (p:Array Nat),h1.objs.size<=D->Kp h1 h'->qcs kz vs.length p->h'.get? D=some (seqObj "list" (List.toArray (p.toList.map λi=>vs.getD i Value.none)) c)->Q (.ref D) { s with heap:=h',toks:=tk }) E s):
  wpAny (model prog w) A (call (.builtin "sorted") [v]) Q E s:=by
 refine Calls.call_function_entry kind_sorted plain_sorted entry_sorted (args_sorted1 _) ?_
 unfold Builtin.«sorted»
 refine wpAny_bind (m:=checkCount "sorted" 1 1 _) (wpAny_pure ?_)
 refine wpAny_bind (wpAny_mono hcol (λvs s1 h=> ?_) λ_ _ x=>x)
 obtain ⟨H1,t1,κ,kz,rfl,kp1,hlen,h64,kind,cmp,h⟩:=h
 refine wpAny_bind (wpAny_newList ?_ (by rw[sizeLine_eq]; lia))
 have kp2:Kp H1 (H1.push (seqObj "list" vs.toArray 0)):=λb o q=>Heap.get?_push_of_some _ q
 have hoD:(H1.push (seqObj "list" vs.toArray 0)).get? H1.objs.size=some (seqObj "list" vs.toArray 0):=Heap.get?_push_size _ rfl
 refine wpAny_bind (wpAny_holding (wpAny_call_entry slot_list_sort ⟨_,hoD,rfl⟩ entry_list_sort ?body (args_list_sort _)))
 case body=>
  refine lsort_p (h0:=H1) (kz:=kz) (κ:=κ) (s:={ s with heap:=H1.push (seqObj "list" vs.toArray 0),toks:=t1 }) hoD hlen h64 kp2 (get_none (Nat.le_refl _)) (λs' k h2 Q hq=>kind s' k h2 Q _ hq) cmp λh' tk c p a1 a2 a3=>⟨_,rfl,?_⟩
  exact wpAny_pure ⟨_,rfl,h _ h' tk c p (Nat.le_refl _) a1 a2 a3⟩
end
end St
end
section
namespace L2
open PySem PySem.Spec PyProof.Rows
end L2
end
section
namespace PL
open PySem L2 SR SetL
theorem qhl {K:PySem.W.Frag} {B:Hp} {t:T} {k:Key} {v:V} (h:qcX t=some k) (r:Rep K B t v):v=kV k:=by
 cases t with
 | int i=>cases h; exact qas r
 | str x=>cases h; exact qaM r
 | _=>cases h
section
variable {M:Md} {X:Cx} {e o k value:Expr} {pos pos' p1 apos cpos:Pos} {da dk:Ro->Rs T} {dd:Ro->Rs (List (Key×T))} {i:Nat} {x:Str} {st:Stmt} {sts:List Stmt} {d:Ro->Rs Out}
def qq5 (i:Nat):Ro->Rs Out:=λρ=>.ok (.nx (ρ.set i (.od [])))
theorem qo8 (hN:X.N.Nodup) (hi:X.N[i]? =some x) (hx:Loc X.env.scope x) (hs:swapsWith (.Dict [] [] p1) (some (.Name x pos')) pos.line X.env=pure false:=by rfl) (hf:X.fn x=true\/X.env.scope.names.lookup x=some .local:=by first | exact .inl rfl | exact .inr rfl | assumption):
  DS M X (.Assign [.Name x pos'] (.Dict [] [] p1) pos) (qq5 i):=by
 refine PS.weak (qfi hN hi hx qh7 hs hf) λD σ H ⟨H0,B0,ρ,B,ev,w⟩ p hp=> ?_
 obtain ⟨g2,m2⟩:=ev.nown (o:=.dK []) hp
 have bp:B p=none:=by
  cases q:B p with
  | none=>rfl
  | some u=>rw[ev.bh _ _ q] at hp; cases hp
 exact w _ _ B (ev.newOd i g2 m2 hp bp qak .nil) (.refl _)
end
end PL
end
section
namespace PL
open PySem L2 SR SetL
end PL
end
section
namespace SetL
open PySem
def its (mask:Nat):Nat->Nat×Nat->Nat×Nat
 | 0,x=>x
 | t+1,x=>its mask t (SetTable.leap mask x.1 x.2)
end SetL
end
section
namespace SetL
open PySem
end SetL
end
section
namespace SetL
open PySem
end SetL
end
section
namespace SetL
open PySem
end SetL
end
section
namespace PL
open PySem L2 SR SetL
def qvr:Key->Str
 | .inr x=>x
 | .inl _=> ""
def qqO:Key->Bool
 | .inr _=>true
 | .inl _=>false
def okD (a:List (Key×T)):Bool:=decide (a.length<=15)&&a.all λp=>qqO p.1
end PL
end
section
namespace PL
open PySem L2 SR SetL
section
variable {M:Md} {X:Cx} {e a:Expr} {pos p2:Pos} {da:Ro->Rs T} {dq:Ro->Rs (Bool×List T)} {lo hi:Option Expr} {dl dh:Ro->Rs (Option Int)}
def slT (ts:List T) (l h:Option Int):Rs T:=if HT.sIx ts.length 0 l=0/\HT.sIx ts.length ts.length h=ts.length then .no else .ok (.tup (qpB ts l h))
def qeQ (da:Ro->Rs T) (dl dh:Ro->Rs (Option Int)):Ro->Rs T:=λρ=>da ρ>>=λt=>dl ρ>>=λl=>dh ρ>>=λh=>match t with | .tup ts=>slT ts l h | _=>.no
theorem qgD (ha:DE M X a da) (hl:DO M X lo dl) (hh:DO M X hi dh) (hK:X.K=M.K:=by rfl):DE M X (.Subscript a (.Slice lo hi none p2) pos) (qeQ da dl dh):=by
 refine PE.weak (qh6 qpR ha hl hh) λσ H Q hq146=> ?_
 obtain ⟨H0,B0,ρ,B,ev,w⟩:=hq146
 refine tP.of ev (Wnt.mono (Wnt.bind (qay.mp w)) λt w1 v H1 B1 g1 m1 r1=> ?_)
 have ev1:=ev.grow g1 m1
 refine ⟨H0,B0,ρ,B1,ev1,Wnt.mono (Wnt.bind w1) λl w2 H2 B2 g2 m2=> ?_⟩
 have ev2:=ev1.grow g2 m2
 refine ⟨H0,B0,ρ,B2,ev2,Wnt.mono (Wnt.bind w2) λh w3 H3 B3 g3 m3=> ?_⟩
 have ev3:=ev2.grow g3 m3
 cases t with
 | tup ts=>
  obtain ⟨p,vs,rfl,sq,rs⟩:=qbf r1
  have w3:Wnt M H0 _ (slT ts l h):=w3
  unfold slT at w3
  split at w3
  ·exact w3.elim
  ·rename_i hcc
   have ln:=rs.length
   have sq3:SqT X.K H3 p vs:=by rw[hK]; exact ev3.bh.sqT ((g3.bb).sqT ((g2.bb).sqT sq))
   refine ⟨p,vs,rfl,sq3,by rw[ln]; exact hcc,λd hd=> ?_⟩
   have g:=qa5.new (o:=HO.tup (qlD vs l h)) ev3.bh ev3.bt hd (by intro ps z; cases z)
   have gg:=(g1.trans g2).trans g3
   refine w3 _ _ _ (gg.trans g) (M.G.st H3 _ (λa o e _ _ _ _=>by rw[qad (qap e hd)]; exact e) m3) ?_
   unfold Rep
   exact ⟨d,qlD vs l h,rfl,qak,(qhY ((rs.mono g2.bb).mono g3.bb) l h).mono g.bb⟩
 | _=>exact w3.elim
end
end PL
end
section
namespace PySem
end PySem
end
section
namespace PySem
end PySem
end
section
namespace PL
open PySem L2 SR SetL
def qqz:List Str:= "dict" ::names
end PL
end
section
namespace PL
open PySem L2
def hid (H:Hp) (p:Addr):Hp:=λa=>if a=p then none else H a
theorem qfM {H:Hp} {p:Addr}:hid H p p=none:=by simp[hid]
theorem qcY {H:Hp} {p a:Addr} (h:a≠p):hid H p a=H a:=by simp[hid,h]
theorem qeh {H:Hp} {p a:Addr} {o:HO} (h:hid H p a=some o):H a=some o/\a≠p:=by
 unfold hid at h
 split at h
 ·cases h
 ·rename_i n; exact ⟨h,n⟩
def Sl.inn:Sl->Sl
 | .od k=>.pd k
 | .ou k=>.pu k
 | s=>s
def Sl.out:Sl->Sl
 | .pd k=>.od k
 | .pu k=>.ou k
 | s=>s
def Sl.isP:Sl->Bool
 | .pd _=>true
 | .pu _=>true
 | _=>false
def Sl.isD:Sl->Bool
 | .pd _=>true
 | .pu _=>true
 | .od _=>true
 | .ou _=>true
 | _=>false
def DAt (K:PySem.W.Frag) (H B:Hp) (p:Addr):Sl->Prop
 | .od k=> ∃us,H p=some (.dK us)/\qbG K B k us
 | .pd k=> ∃us,H p=some (.dK us)/\qbG K B k us
 | .ou k=> ∃us,H p=some (.dT us)/\qbE K B k us
 | .pu k=> ∃us,H p=some (.dT us)/\qbE K B k us
 | _=>False
theorem DAt.isD {K:PySem.W.Frag} {H B:Hp} {p:Addr} {s:Sl} (h:DAt K H B p s):s.isD=true:=by cases s<;>first | rfl | exact h.elim
theorem DAt.inn {K:PySem.W.Frag} {H B:Hp} {p:Addr} {s:Sl} (h:DAt K H B p s):DAt K H B p s.inn:=by cases s<;>exact h
theorem DAt.out {K:PySem.W.Frag} {H B:Hp} {p:Addr} {s:Sl} (h:DAt K H B p s):DAt K H B p s.out:=by cases s<;>exact h
theorem qj5 {K:PySem.W.Frag} {H0 H B:Hp} {pa:Addr} {s:Sl} {o:Option V} (h:qgU K H0 H B pa s o) (hd:s.isD=true): ∃p,o=some (.ref p)/\H0 p=none/\B p=none/\DAt K H B p s/\(s.isP=true->p=pa):=by
 cases s with
 | od k=>obtain ⟨p,us,a,b,c,d,e⟩:=h; exact ⟨p,a,b,c,⟨us,d,e⟩,λz=>by cases z⟩
 | ou k=>obtain ⟨p,us,a,b,c,d,e⟩:=h; exact ⟨p,a,b,c,⟨us,d,e⟩,λz=>by cases z⟩
 | pd k=>obtain ⟨p,us,z,a,b,c,d,e⟩:=h; exact ⟨p,a,b,c,⟨us,d,e⟩,λ_=>z⟩
 | pu k=>obtain ⟨p,us,z,a,b,c,d,e⟩:=h; exact ⟨p,a,b,c,⟨us,d,e⟩,λ_=>z⟩
 | _=>cases hd
theorem qj4 {K:PySem.W.Frag} {H0 H B:Hp} {pa p:Addr} {s:Sl} (h0:H0 p=none) (hb:B p=none) (h:DAt K H B p s) (hp:s.isP=true->p=pa):qgU K H0 H B pa s (some (.ref p)):=by
 cases s with
 | od k=>obtain ⟨us,d,e⟩:=h; exact ⟨p,us,rfl,h0,hb,d,e⟩
 | ou k=>obtain ⟨us,d,e⟩:=h; exact ⟨p,us,rfl,h0,hb,d,e⟩
 | pd k=>obtain ⟨us,d,e⟩:=h; exact ⟨p,us,hp rfl,rfl,h0,hb,d,e⟩
 | pu k=>obtain ⟨us,d,e⟩:=h; exact ⟨p,us,hp rfl,rfl,h0,hb,d,e⟩
 | _=>exact h.elim
def Sl.ret:Sl->Bool
 | .fz _=>true
 | .ow _=>true
 | _=>false
theorem qhT {K:PySem.W.Frag} {H0 H B:Hp} {pa pa':Addr} {s:Sl} {o:Option V} (r:s.ret=true) (h:qgU K H0 H B pa s o):qgU K H0 H B pa' s o:=by
 cases s<;>first | exact h | cases r
def qrb (M:Md) (H0 B:Hp) (p:Addr) (Q:VK) (r:Rs (Sl×Sl)):Prop:=Wnt M H0 (λr=> ∀v H' B',qa5 H0 B H' B'->M.G.P H'->r.1.ret=true->qgU M.K H0 H' B' 0 r.1 (some v)->B' p=none->DAt M.K H' B' p r.2->Q v H') r
def spQ (K:PySem.W.Frag) (G:Gam) (C:Str->Addr) (f:List T->Sl->Rs (Sl×Sl)):Sp:=λvs H Q E=> ∃B ts s p vs0,vs=vs0++[.ref p]/\Le B H/\(∀a ps,B a≠some (.tbl ps))/\G.P H/\qaK K B ts vs0/\B p=none/\DAt K H B p s/\
 qrb ⟨K,G,E,C,0⟩ (hid H p) B p Q (f ts s)
def qrj (ρ:Ro) (n:Nat) (r:Sl):Rs (Sl×Sl):=match ρ[n]? with | some s=>if r.ret=true/\s.isP=true then .ok (r,s.out) else .no | none=>.no
def qqs (n:Nat):Out->Rs (Sl×Sl)
 | .rs r ρ=>qrj ρ n r
 | .nx ρ=>qrj ρ n (.fz .non)
 | _=>.no
def fnQ (n N:Nat) (d:Ro->Rs Out):List T->Sl->Rs (Sl×Sl):=λts s=>if ts.length=n/\n<N then d (ts.map .fz++s.inn::List.replicate (N - n - 1) .no)>>=qqs n else .no
section
variable {K:PySem.W.Frag} {G:Gam} {C:Str->Addr} {E:XK}
theorem qlh {H B:Hp} {ts:List T} {vs:List V} {N:List Str} {p:Addr} {s:Sl} (le:Le B H) (bt: ∀a ps,B a≠some (.tbl ps)) (m:G.P H) (r:qaK K B ts vs) (hN:ts.length<N.length) (hb:B p=none) (hs:DAt K H B p s):
  Ev ⟨K,G,E,C,p⟩ (hid H p) B (ts.map .fz++s.inn::List.replicate (N.length - ts.length - 1) .no) (start N (vs++[.ref p])) H B:=by
 have hl:=r.length
 refine ⟨⟨⟨λa o h _=>(qeh h).1,λa h z=>h (by unfold hid; split<;>first | rfl | exact z)⟩,.refl _,le,bt,λ_ _ _ _ _=>rfl⟩,m,by simp[L2.start,hl]; lia,λi u e=> ?_,λi j si sj q hij ei ej oi oj=> ?_⟩
 ·by_cases hi:i<ts.length
  ·rw[List.getElem?_append_left (by simpa using hi),List.getElem?_map] at e
   cases q:ts[i]? with
   | none=>rw[q] at e; cases e
   | some t=>
    rw[q] at e; cases e
    obtain ⟨v,ev,rv⟩:=r.get q
    refine ⟨v,?_,rv⟩
    unfold L2.start
    rw[List.getElem?_append_left (by simp; lia),List.getElem?_map,List.getElem?_append_left (by lia),ev]
    rfl
  ·rw[List.getElem?_append_right (by simpa using hi)] at e
   simp only[List.length_map] at e
   by_cases h0:i=ts.length
   ·subst h0
    rw[Nat.sub_self] at e
    cases e
    unfold L2.start
    rw[List.getElem?_append_left (by simp; lia),List.getElem?_map,List.getElem?_append_right (by lia),hl,Nat.sub_self]
    exact qj4 qfM hb hs.inn λ_=>rfl
   ·obtain ⟨k,hk⟩: ∃k,i - ts.length=k+1:=⟨i - ts.length - 1,by lia⟩
    rw[hk,List.getElem?_cons_succ,List.getElem?_replicate] at e
    split at e
    ·cases e; trivial
    ·cases e
 ·have one: ∀(l:Nat) (u:Sl),(ts.map Sl.fz++s.inn::List.replicate (N.length - ts.length - 1) Sl.no)[l]? =some u->u.own=true->l=ts.length:=λl u el ol=>by
   by_cases hi:l<ts.length
   ·rw[List.getElem?_append_left (by simpa using hi),List.getElem?_map] at el
    cases q:ts[l]? with
    | none=>rw[q] at el; cases el
    | some t=>rw[q] at el; cases el; cases ol
   ·rw[List.getElem?_append_right (by simpa using hi)] at el
    simp only[List.length_map] at el
    by_cases h0:l=ts.length
    ·exact h0
    ·obtain ⟨k,hk⟩: ∃k,l - ts.length=k+1:=⟨l - ts.length - 1,by lia⟩
     rw[hk,List.getElem?_cons_succ,List.getElem?_replicate] at el
     split at el
     ·cases el; cases ol
     ·cases el
  exact absurd ((one i si ei oi).trans (one j sj ej oj).symm) hij
theorem qh8 {n:Nat} {r:Sl} {ρ:Ro} {k:Sl×Sl->Prop} {M:Md} {H0:Hp} (w:Wnt M H0 k (qrj ρ n r)): ∃s,ρ[n]? =some s/\r.ret=true/\s.isP=true/\k (r,s.out):=by
 unfold qrj at w
 split at w
 ·rename_i s e
  split at w
  ·rename_i c; exact ⟨s,e,c.1,c.2,w⟩
  ·exact w.elim
 ·exact w.elim
theorem qk0 {s:Sl} (h:s.isP=true):s.isD=true:=by cases s<;>first | rfl | cases h
theorem qle {d:Ro->Rs Out} {n:Nat} {N:List Str} {vs:List V} {H:Hp} {Q:VK} (h:spQ K G C (fnQ n N.length d) vs H Q E): ∃p,tS ⟨K,G,E,C,p⟩ d { nx:=λ_ H'=>Q .non H',rt:=Q } (start N vs) H:=by
 obtain ⟨B,ts,s,p,vs0,rfl,le,bt,m,r,hb,hs,w⟩:=h
 refine ⟨p,?_⟩
 unfold qrb fnQ at w
 split at w
 ·rename_i hl
  obtain ⟨hl,hn⟩:=hl
  subst hl
  refine ⟨_,B,_,B,qlh le bt m r hn hb hs,?_⟩
  have w:=Wnt.bind w
  cases q:d (ts.map .fz++s.inn::List.replicate (N.length - ts.length - 1) .no) with
  | no=>rw[q] at w; exact w
  | ex c=>rw[q] at w; exact w
  | ok o=>
   rw[q] at w
   have w1:Wnt ⟨K,G,E,C,0⟩ (hid H p) _ (qqs ts.length o):=w
   cases o with
   | rt t=>exact w1.elim
   | bk ρ=>exact w1.elim
   | ct ρ=>exact w1.elim
   | nx ρ=>
    obtain ⟨s',e1,_,e2,k⟩:=qh8 w1
    intro σ' H' B' ev _
    obtain ⟨p',a1,a2,a3,a4,a5⟩:=qj5 (ev.sl _ _ e1) (qk0 e2)
    have:=a5 e2; subst this
    exact k .non H' B' ev.gr ev.gm rfl ⟨_,rfl,by unfold Rep; rfl⟩ a3 a4.out
   | rs r ρ=>
    obtain ⟨s',e1,er,e2,k⟩:=qh8 w1
    intro v σ' H' B' ev _
    have e1':(r::ρ)[ts.length+1]? =some s':=by simpa using e1
    obtain ⟨p',a1,a2,a3,a4,a5⟩:=qj5 (ev.sl _ _ e1') (qk0 e2)
    have:=a5 e2; subst this
    exact k v H' B' ev.gr ev.gm er (qhT er (ev.sl 0 r rfl)) a3 a4.out
 ·exact w.elim
theorem qoi {d:Ro->Rs Out} {n N:Nat} {vs:List V} {H:Hp} {Q:VK} (h:spQ K G C (fnQ n N d) vs H Q E):vs.length=n+1:=by
 obtain ⟨B,ts,s,p,vs0,rfl,le,bt,m,r,hb,hs,w⟩:=h
 unfold qrb fnQ at w
 split at w
 ·rename_i hl
  rw[List.length_append,r.length,hl.1]; rfl
 ·exact w.elim
end
section
variable {P:Program} {w:World} {K:PySem.W.Frag} {mg:Str->Option Value} {base:Heap} {G:Gam} {C:Str->Addr}
theorem qlf {x qual:Str} {st:Stmt} {f:Addr} {fd:FuncData} {N ps:List Str} {n k:Nat} {d:Ro->Rs Out} (F:Fun K x qual st f fd) (S:qau N ps (qae st)) (hn:ps.length=n+1)
  (hbody: ∀(cdv:Value) (A:Around) (outer:List Env) (s:Shared) (H:Hp) (E:XK) (p:Addr),qcu k (A.deeper (PyProof.Rows.envOfC qual (qae st) s.heap.objs.size f cdv))->
   DSs ⟨K,G,E,C,p⟩ (qnl CX0 P w K mg base N qual (qae st) f cdv A outer s H E).nox (qaZ st) d):qbo P w K mg base CX0 (k+1) f fd ps (spQ K G C (fnQ n N.length d)):=by
 exact F.ok S (λvs H Q E h=>by rw[hn]; exact qoi h) λcdv A outer s H vs Q E hr h=>by
  obtain ⟨p,q⟩:=qle h
  exact ⟨_,hbody cdv A outer s H E p hr,q⟩
def KnQ (P:Program) (w:World) (K:PySem.W.Frag) (mg:Str->Option Value) (base:Heap) (G:Gam) (C:Str->Addr) (x:Str) (ps:List Str) (k:Nat) (fQ:List T->Sl->Rs (Sl×Sl)):Prop:=
 ∃f fd,qbo P w K mg base CX0 k f fd ps (spQ K G C fQ)/\mg x=some (.ref f)/\PySem.W.keepIn K (.ref f)=true/\qdZ K fd ps []
end
section
variable {M:Md} {H0 B0 H B H' B':Hp} {ρ:Ro} {σ:St}
theorem Ev.getD' (v:Ev M H0 B0 ρ σ H B) {i:Nat} {s:Sl} (e:ρ[i]? =some s) (hd:s.isD=true): ∃p,σ[i]? =some (some (.ref p))/\H0 p=none/\B p=none/\DAt M.K H B p s/\(s.isP=true->p=M.pa):=by
 obtain ⟨p,e1,r⟩:=qj5 (v.sl i _ e) hd
 refine ⟨p,?_,r⟩
 cases q:σ[i]? with
 | none=>rw[q] at e1; cases e1
 | some o=>rw[q] at e1; cases o with
  | none=>cases e1
  | some y=>cases e1; rfl
theorem qfL {s:Sl} (h:s.isD=true):s.own=true:=by cases s<;>first | rfl | cases h
theorem qhU {K:PySem.W.Frag} {pa p:Addr} {s:Sl} {o:Option V} (h:qgU K H0 H B pa s o) (g:qa5 (hid H p) B H' B') (ne:s.own=true->o≠some (.ref p)):qgU K H0 H' B' pa s o:=by
 have key: ∀{q:Addr} {u:HO},o=some (.ref q)->s.own=true->H q=some u->(∀ps,u≠.tbl ps)->(∀vs,u≠.tup vs)->B q=none->H' q=some u/\B' q=none:=λ{q u} eo so hq nt nt2 hb=>by
  have nq:q≠p:=λz=>ne so (by rw[eo,z])
  have hh:hid H p q=some u:=by rw[qcY nq]; exact hq
  exact ⟨g.gx.hh _ _ hh nt,by rw[g.nw q u hh nt2 nt]; exact hb⟩
 cases s with
 | no=>trivial
 | fz t=>obtain ⟨v,e,r⟩:=h; exact ⟨v,e,r.mono g.bb⟩
 | ow ts=>
  obtain ⟨q,vs,e,h0,hb,hp,r⟩:=h
  obtain ⟨a,b⟩:=key e rfl hp (λps z=>by cases z) (λps z=>by cases z) hb
  exact ⟨q,vs,e,h0,b,a,r.mono g.bb⟩
 | od ts=>
  obtain ⟨q,vs,e,h0,hb,hp,r⟩:=h
  obtain ⟨a,b⟩:=key e rfl hp (λps z=>by cases z) (λps z=>by cases z) hb
  exact ⟨q,vs,e,h0,b,a,r.mono g.bb⟩
 | ou ts=>
  obtain ⟨q,vs,e,h0,hb,hp,r⟩:=h
  obtain ⟨a,b⟩:=key e rfl hp (λps z=>by cases z) (λps z=>by cases z) hb
  exact ⟨q,vs,e,h0,b,a,r.mono g.bb⟩
 | pd ts=>
  obtain ⟨q,vs,e0,e,h0,hb,hp,r⟩:=h
  obtain ⟨a,b⟩:=key e rfl hp (λps z=>by cases z) (λps z=>by cases z) hb
  exact ⟨q,vs,e0,e,h0,b,a,r.mono g.bb⟩
 | pu ts=>
  obtain ⟨q,vs,e0,e,h0,hb,hp,r⟩:=h
  obtain ⟨a,b⟩:=key e rfl hp (λps z=>by cases z) (λps z=>by cases z) hb
  exact ⟨q,vs,e0,e,h0,b,a,r.mono g.bb⟩
theorem qa5.unhid {p:Addr} (g0:qa5 H0 B0 H B) (h0:H0 p=none) (g:qa5 (hid H p) B H' B'):qa5 H0 B0 H' B':=by
 have nz: ∀a,H0 a≠none->a≠p:=λa z e=>z (by rw[e]; exact h0)
 refine ⟨⟨λa o h n=> ?_,λa h=> ?_⟩,g0.bb.trans g.bb,g.bh,g.bt,λa o h n1 n2=> ?_⟩
 ·have:=g0.gx.hh a o h n
  exact g.gx.hh a o (by rw[qcY (nz a (by rw[h]; simp))]; exact this) n
 ·exact g.gx.dm a (by rw[qcY (nz a h)]; exact g0.gx.dm a h)
 ·rw[g.nw a o (by rw[qcY (nz a (by rw[h]; simp))]; exact g0.gx.hh a o h n2) n1 n2]; exact g0.nw a o h n1 n2
def Sl.like (s s':Sl):Sl:=if s.isP=true then s'.inn else s'.out
theorem qmN {s s':Sl} (h:s.isD=true) (h':s'.isD=true):(s.like s').isP=s.isP/\(s.like s').isD=true:=by
 cases s<;>cases s'<;>first | exact ⟨rfl,rfl⟩ | exact absurd h (by decide) | exact absurd h' (by decide) | exact absurd h Bool.false_ne_true | exact absurd h' Bool.false_ne_true
theorem qoM {K:PySem.W.Frag} {p:Addr} {s s':Sl} (h:DAt K H B p s'):DAt K H B p (s.like s'):=by
 unfold Sl.like
 split
 ·exact h.inn
 ·exact h.out
theorem Ev.behindQ {i:Nat} {p:Addr} {s s':Sl} (v:Ev M H0 B0 ρ σ H B) (e:ρ[i]? =some s) (hd:s.isD=true) (es:σ[i]? =some (some (.ref p))) (g:qa5 (hid H p) B H' B') (m:M.G.P H') (hb:B' p=none) (hs:DAt M.K H' B' p s'):
  Ev M H0 B0 (ρ.set i (s.like s')) σ H' B':=by
 obtain ⟨p',es',h0,hb0,hs0,hp⟩:=v.getD' e hd
 rw[es] at es'; cases es'
 have hi:i<ρ.length:=(List.getElem?_eq_some_iff.mp e).1
 obtain ⟨lp,ld⟩:=qmN hd hs.isD
 have own_at: ∀(l:Nat) (sl:Sl),(ρ.set i (s.like s'))[l]? =some sl->sl.own=true->∃sl',ρ[l]? =some sl'/\sl'.own=true:=λl sl el ol=>by
  rw[List.getElem?_set] at el
  by_cases q:i=l
  ·subst q; exact ⟨s,e,qfL hd⟩
  ·rw[if_neg q] at el; exact ⟨sl,el,ol⟩
 refine ⟨v.gr.unhid h0 g,m,by simp[v.len],λj u ej=> ?_,λj k sj sk q hjk ej ek oj ok a=> ?_⟩
 ·rw[List.getElem?_set] at ej
  by_cases q:i=j
  ·subst q
   rw[if_pos rfl,if_pos hi] at ej
   cases ej
   rw[es]
   exact qj4 h0 hb (qoM hs) λz=>hp (by rw[<-lp]; exact z)
  ·rw[if_neg q] at ej
   exact qhU (v.sl j u ej) g λou z=>v.ap i j s u p q e ej (qfL hd) ou (by rw[es]; rfl) z
 ·obtain ⟨sj',e1,o1⟩:=own_at j sj ej oj
  obtain ⟨sk',e2,o2⟩:=own_at k sk ek ok
  exact v.ap j k sj' sk' q hjk e1 e2 o1 o2 a
end
section
variable {M:Md} {H0 B0 H B H' B':Hp} {ρ:Ro} {σ:St}
theorem Ev.cons (ev:Ev M H0 B0 ρ σ H B) {s:Sl} {v:V} (hs:qgU M.K H0 H B M.pa s (some v)) (ap:s.own=true->∀(j:Nat) (u:Sl) (p:Addr),ρ[j]? =some u->u.own=true->v= .ref p->σ[j]?.join≠some (.ref p)):Ev M H0 B0 (s::ρ) (some v::σ) H B:=by
 refine ⟨ev.gr,ev.gm,by simp[ev.len],λi u e=> ?_,λi j si sj p hij ei ej oi oj a=> ?_⟩
 ·cases i with
  | zero=>cases e; exact hs
  | succ i=>simpa using ev.sl i u (by simpa using e)
 ·cases i with
  | zero=>
   cases j with
   | zero=>exact absurd rfl hij
   | succ j=>
    cases ei
    have a:v= .ref p:=by simpa using a
    simpa using ap oi j sj p (by simpa using ej) oj a
  | succ i=>
   cases j with
   | zero=>
    cases ej
    intro z
    have z:v= .ref p:=by simpa using z
    exact ap oj i si p (by simpa using ei) oi z (by simpa using a)
   | succ j=>simpa using ev.ap i j si sj p (λz=>hij (by rw[z])) (by simpa using ei) (by simpa using ej) oi oj (by simpa using a)
theorem Ev.store (ev:Ev M H0 B0 (s::ρ) (some v::σ) H B) (j:Nat):Ev M H0 B0 (ρ.set j s) (σ.set j (some v)) H B:=by
 have hl:ρ.length=σ.length:=by simpa using ev.len
 have look: ∀(i:Nat) (u:Sl),(ρ.set j s)[i]? =some u->∃k,(s::ρ)[k]? =some u/\(some v::σ)[k]?.join=(σ.set j (some v))[i]?.join/\(i=j↔k=0)/\(i≠j->k=i+1):=λi u e=>by
  rw[List.getElem?_set] at e
  by_cases q:j=i
  ·subst q
   rw[if_pos rfl] at e
   split at e
   ·rename_i h
    cases e
    exact ⟨0,rfl,by rw[List.getElem?_set_self (by omega)]; rfl,⟨λ_=>rfl,λ_=>rfl⟩,λz=>absurd rfl z⟩
   ·cases e
  ·rw[if_neg q] at e
   exact ⟨i+1,by simpa using e,by rw[List.getElem?_set_ne q]; simp,⟨λz=>absurd z.symm q,λz=>by omega⟩,λ_=>rfl⟩
 refine ⟨ev.gr,ev.gm,by simp[hl],λi u e=> ?_,λi k si sk p hik ei ek oi ok a=> ?_⟩
 ·obtain ⟨m,e1,e2,_⟩:=look i u e
  rw[<-e2]
  exact ev.sl m u e1
 ·obtain ⟨m,e1,e2,e3,e4⟩:=look i si ei
  obtain ⟨n,f1,f2,f3,f4⟩:=look k sk ek
  rw[<-e2] at a
  rw[<-f2]
  refine ev.ap m n si sk p (λz=>hik ?_) e1 f1 oi ok a
  by_cases c1:i=j
  ·by_cases c2:k=j
   ·rw[c1,c2]
   ·have:=e3.mp c1; have:=f4 c2; omega
  ·by_cases c2:k=j
   ·have:=f3.mp c2; have:=e4 c1; omega
   ·have:=e4 c1; have:=f4 c2; omega
theorem Ev.consNew {Hc Bc:Hp} {s:Sl} {v:V} (evc:Ev M H0 B0 ρ σ Hc Bc) (ev:Ev M H0 B0 ρ' σ H' B') (same: ∀(j:Nat) (u:Sl),ρ'[j]? =some u->u.own=true->∃u',ρ[j]? =some u'/\u'.own=true) (r:s.ret=true) (hs:qgU M.K Hc H' B' 0 s (some v)):Ev M H0 B0 (s::ρ') (some v::σ) H' B':=by
 cases s with
 | fz t=>exact ev.cons hs (λz=>by cases z)
 | ow ts=>
  obtain ⟨q,vs,e,h0,hb,hp,rr⟩:=hs
  cases e
  refine ev.cons ⟨q,vs,rfl,qb2 evc.gr.gx h0,hb,hp,rr⟩ λ_ j u p ej ou ep z=> ?_
  cases ep
  obtain ⟨u',ej',ou'⟩:=same j u ej ou
  obtain ⟨o,ho⟩: ∃o,Hc q=some o:=by
   have:=evc.sl j u' ej'
   cases u' with
   | no=>cases ou'
   | fz t=>cases ou'
   | ow _=>obtain ⟨p',vs',a1,_,_,a4,_⟩:=this; rw[z] at a1; cases a1; exact ⟨_,a4⟩
   | od _=>obtain ⟨p',vs',a1,_,_,a4,_⟩:=this; rw[z] at a1; cases a1; exact ⟨_,a4⟩
   | ou _=>obtain ⟨p',vs',a1,_,_,a4,_⟩:=this; rw[z] at a1; cases a1; exact ⟨_,a4⟩
   | pd _=>obtain ⟨p',vs',_,a1,_,_,a4,_⟩:=this; rw[z] at a1; cases a1; exact ⟨_,a4⟩
   | pu _=>obtain ⟨p',vs',_,a1,_,_,a4,_⟩:=this; rw[z] at a1; cases a1; exact ⟨_,a4⟩
  rw[h0] at ho; cases ho
 | _=>cases r
end
end PL
end
section
namespace PL
open PySem L2
def qeX (ρ:Ro) (i:Nat):Rs Sl:=match ρ[i]? with | some s=>if s.isD=true then .ok s else .no | none=>.no
theorem qf6 {ρ:Ro} {i:Nat} {α:Type} {M:Md} {H0:Hp} {k:α->Prop} {f:Sl->Rs α} (w:Wnt M H0 k (qeX ρ i>>=f)): ∃s,ρ[i]? =some s/\s.isD=true/\Wnt M H0 k (f s):=by
 unfold qeX at w
 cases e:ρ[i]? with
 | none=>rw[e] at w; exact w.elim
 | some s=>
  rw[e] at w
  dsimp only at w
  split at w
  ·exact ⟨s,rfl,by assumption,w⟩
  ·exact w.elim
def tPV (M:Md) (ds:Ro->Rs (List T)) (i:Nat):TA:=λσ H Q=> ∃H0 B0 ρ B,Ev M H0 B0 ρ σ H B/\(∃s,ρ[i]? =some s/\s.isD=true)/\
 Wnt M H0 (λts=> ∀vs p H' B',qa5 H B H' B'->M.G.P H'->qaK M.K B' ts vs->σ[i]? =some (some (.ref p))->Q (vs++[.ref p]) H') (ds ρ)
section
variable {M:Md} {X:Cx} {e a b c:Expr} {es:List Expr} {pos p pos':Pos} {i j k:Nat} {x y:Str} {da db dc:Ro->Rs T} {ds:Ro->Rs (List T)} {ps:List Str} {fQ:List T->Sl->Rs (Sl×Sl)} {fS:List T->Rs Sl} {fT:List T->Rs T} {dl:Ro->Rs (List T)}
theorem qlw (h:PE X e (qhK i)) (hst:starEach [e] X.env=(false,eval e X.env)::starEach [] X.env:=by rfl):PA X [e] (tPV M qan i):=by
 refine PA.weak (qao h qaF hst) λσ H Q hq=> ?_
 obtain ⟨H0,B0,ρ,B,ev,⟨s,es,hd⟩,w⟩:=hq
 obtain ⟨p,e1,_⟩:=ev.getD' es hd
 exact ⟨.ref p,e1,w [] p H B (.refl ev.bh ev.bt) ev.gm .nil e1⟩
theorem qfS (ha:DE M X e da) (hs:PA X es (tPV M ds i)) (hst:starEach (e::es) X.env=(false,eval e X.env)::starEach es X.env:=by rfl):PA X (e::es) (tPV M (qab da ds) i):=by
 refine PA.weak (qao ha hs hst) λσ H Q hq=> ?_
 obtain ⟨H0,B0,ρ,B,ev,hd,w⟩:=hq
 refine tP.of ev (Wnt.mono (Wnt.bind w) λx w1 v H1 B1 g1 m1 r1=> ?_)
 refine ⟨H0,B0,ρ,B1,ev.grow g1 m1,hd,Wnt.mono (Wnt.bind w1) λxs w2 u p H2 B2 g2 m2 r2 e2=> ?_⟩
 exact w2 (v::u) p H2 B2 (g1.trans g2) m2 (.cons (r1.mono g2.bb) r2) e2
def tU (M:Md) (i:Nat) (ds:Ro->Rs (List T)) (fQ:List T->Sl->Rs (Sl×Sl)):TE:=λσ H Q=> ∃H0 B0 ρ B,Ev M H0 B0 ρ σ H B/\
 Wnt M H0 (λr:Sl×Ro=> ∀v H' B',Ev M H0 B0 (r.1::r.2) (some v::σ) H' B'->Le B B'->Q v H') (qeX ρ i>>=λs=>ds ρ>>=λts=>fQ ts s>>=λr=>.ok (r.1,ρ.set i (s.like r.2)))
theorem qi2 {K:PySem.W.Frag} {H H' B':Hp} {p:Addr} {s u:Sl} {v:V} (r:s.ret=true) (h:qgU K (hid H p) H' B' 0 s (some v)) (d:DAt K H' B' p u):qgU K H H' B' 0 s (some v):=by
 cases s with
 | fz t=>exact h
 | ow ts=>
  obtain ⟨q,vs,e,h0,hb,hp,rr⟩:=h
  refine ⟨q,vs,e,?_,hb,hp,rr⟩
  rw[qcY (λz=> ?_)] at h0
  ·exact h0
  ·subst z
   cases u with
   | od k=>obtain ⟨us,a,_⟩:=d; rw[hp] at a; cases a
   | pd k=>obtain ⟨us,a,_⟩:=d; rw[hp] at a; cases a
   | ou k=>obtain ⟨us,a,_⟩:=d; rw[hp] at a; cases a
   | pu k=>obtain ⟨us,a,_⟩:=d; rw[hp] at a; cases a
   | _=>exact d.elim
 | _=>cases r
theorem qfu {σ:St} {H:Hp} {Q:VK} (h:tU M i ds fQ σ H Q):qiV (spQ M.K M.G M.C fQ) [] M.E (tPV M ds i) σ H Q:=by
 obtain ⟨H0,B0,ρ,B,ev,w⟩:=h
 obtain ⟨s,e1,hd,w⟩:=qf6 w
 refine ⟨H0,B0,ρ,B,ev,⟨s,e1,hd⟩,Wnt.mono (Wnt.bind w) λts w1 vs p H1 B1 g1 m1 r1 es=> ?_⟩
 have ev1:=ev.grow g1 m1
 obtain ⟨p',es',h0,hb,hs,_⟩:=ev1.getD' e1 hd
 rw[es] at es'; cases es'
 refine ⟨B1,ts,s,p,vs,by rw[List.append_nil],ev1.bh,ev1.bt,m1,r1,hb,hs,?_⟩
 have w1:=Wnt.bind w1
 unfold qrb
 cases q:fQ ts s with
 | no=>rw[q] at w1; exact w1
 | ok r=>
  rw[q] at w1
  intro v H' B' g m er hr hb' hs'
  refine w1 v H' B' (ev1.consNew (ev1.behindQ e1 hd es g m hb' hs') (λj u ej ou=> ?_) er (qi2 er hr hs')) (g1.bb.trans g.bb)
  rw[List.getElem?_set] at ej
  by_cases c:i=j
  ·subst c; exact ⟨s,e1,qfL hd⟩
  ·rw[if_neg c] at ej; exact ⟨u,ej,ou⟩
 | ex c=>
  rw[q] at w1
  refine λH' g m=>w1 H' ⟨λa o h n=> ?_,λa h=> ?_⟩ m
  ·have:=ev1.gr.gx.hh a o h n
   exact g.hh a o (by rw[qcY (λz=>by subst z; rw[h0] at h; cases h)]; exact this) n
  ·exact g.dm a (by rw[qcY (λz=>h (by rw[z]; exact h0))]; exact ev1.gr.gx.dm a h)
theorem qmB (F:KnQ X.prog X.w X.K X.mg X.base M.G M.C x ps k fQ) (hK:X.K=M.K) (hr:qcu k X.A) (hg:Gl X x) (ha:PA X (e::es) (tPV M ds i)) (hdb:(x==("__debug__" :Str))=false:=by decide)
  (he:starEach (e::es) X.env=(false,eval e X.env)::starEach es X.env:=by rfl) (hpl:(backTo pos (starEach es X.env)).any (·.1)=false:=by rfl):PE X (.Call (.Name x p) (e::es) [] pos) (tU M i ds fQ):=by
 obtain ⟨f,fd,G,m,kk,bb⟩:=F
 rw[hK] at G
 exact PE.weak (qey (by rw[hK]; exact G) hr hg m kk bb .nil qks ha hdb he hpl) λσ H Q h=>qfu h
def qlA (j i:Nat) (ds:Ro->Rs (List T)) (fQ:List T->Sl->Rs (Sl×Sl)):Ro->Rs Out:=λρ=>qeX ρ i>>=λs=>ds ρ>>=λts=>fQ ts s>>=λr=>.ok (.nx ((ρ.set i (s.like r.2)).set j r.1))
theorem qo2 (hN:X.N.Nodup) (hi:X.N[j]? =some x) (hx:Loc X.env.scope x) (h:PE X e (tU M i ds fQ)) (hs:swapsWith e (some (.Name x pos')) pos.line X.env=pure false:=by rfl) (hf:X.fn x=true\/X.env.scope.names.lookup x=some .local:=by first | exact .inl rfl | exact .inr rfl | assumption):
  DS M X (.Assign [.Name x pos'] e pos) (qlA j i ds fQ):=by
 refine PS.weak (qfi hN hi hx h hs hf) λD σ H hq=> ?_
 obtain ⟨H0,B0,ρ,B,ev,w⟩:=hq
 refine ⟨H0,B0,ρ,B,ev,?_⟩
 unfold qlA at w
 cases q1:qeX ρ i with
 | no=>rw[q1] at w; exact w
 | ex c=>rw[q1] at w; exact w
 | ok s=>
  rw[q1] at w
  rw[qaj] at w⊢
  cases q2:ds ρ with
  | no=>rw[q2] at w; exact w
  | ex c=>rw[q2] at w; exact w
  | ok ts=>
   rw[q2] at w
   rw[qaj] at w⊢
   cases q3:fQ ts s with
   | no=>rw[q3] at w; exact w
   | ex c=>rw[q3] at w; exact w
   | ok r=>
    rw[q3] at w
    exact λv H' B' ev' le=>w _ H' B' (ev'.store j) le
def qpj (i:Nat) (ds:Ro->Rs (List T)) (fQ:List T->Sl->Rs (Sl×Sl)):Ro->Rs Out:=λρ=>qeX ρ i>>=λs=>ds ρ>>=λts=>fQ ts s>>=λr=>.ok (.rs r.1 (ρ.set i (s.like r.2)))
def qeR (dl:Ro->Rs (List T)):Ro->Rs Out:=λρ=>dl ρ>>=λts=>.ok (.rs (.ow ts) ρ)
theorem qo6 (h:DF M X e dl):DS M X (.Return (some e) pos) (qeR dl):=by
 refine PS.weak (qdm h) λD σ H hq=> ?_
 obtain ⟨H0,B0,ρ,B,ev,w⟩:=hq
 exact tF.of ev (Wnt.mono (Wnt.bind w) λts w1 p vs H1 B1 g1 m1 hp hb hl r1=>w1 (.ref p) σ H1 B1 (ev.consNew (ev.grow g1 m1) (λj u ej ou=>⟨u,ej,ou⟩) rfl ⟨p,vs,rfl,hp,hb,hl,r1⟩) g1.bb)
def qe9 (i:Nat):Ro->Rs Out:=λρ=>match ρ[i]? with | some (.ow ts)=>.ok (.rs (.ow ts) (ρ.set i .no)) | _=>.no
theorem Ev.drop {H0 B0 H B:Hp} {ρ:Ro} {σ:St} (ev:Ev M H0 B0 ρ σ H B) (i:Nat):Ev M H0 B0 (ρ.set i .no) σ H B:=by
 have look: ∀(j:Nat) (u:Sl),(ρ.set i .no)[j]? =some u->u= .no\/ρ[j]? =some u:=λj u e=>by
  rw[List.getElem?_set] at e
  split at e
  ·split at e
   ·exact .inl (Option.some.inj e).symm
   ·cases e
  ·exact .inr e
 refine ⟨ev.gr,ev.gm,by simp[ev.len],λj u e=> ?_,λj k sj sk p hjk ej ek oj ok a=> ?_⟩
 ·rcases look j u e with rfl | e
  ·trivial
  ·exact ev.sl j u e
 ·rcases look j sj ej with rfl | ej
  ·cases oj
  ·rcases look k sk ek with rfl | ek
   ·cases ok
   ·exact ev.ap j k sj sk p hjk ej ek oj ok a
theorem qht (h:PE X e (qhK i)):DS M X (.Return (some e) pos) (qe9 i):=by
 refine PS.weak (qdm h) λD σ H hq=> ?_
 obtain ⟨H0,B0,ρ,B,ev,w⟩:=hq
 unfold qe9 at w
 split at w
 ·rename_i ts e1
  obtain ⟨p,vs,es,h0,hb,hp,rr⟩:=ev.getOw e1
  refine ⟨.ref p,es,w (.ref p) σ H B ((ev.drop i).cons ⟨p,vs,rfl,h0,hb,hp,rr⟩ λ_ j u q ej ou ep z=> ?_) (.refl _)⟩
  cases ep
  rw[List.getElem?_set] at ej
  split at ej
  ·split at ej
   ·cases ej; cases ou
   ·cases ej
  ·rename_i c
   exact ev.ap i j (.ow ts) u p c e1 ej rfl ou (by rw[es]; rfl) z
 ·exact w.elim
def spS (K:PySem.W.Frag) (G:Gam) (C:Str->Addr) (f:List T->Rs Sl):Sp:=λvs H Q E=> ∃B ts,Le B H/\(∀a ps,B a≠some (.tbl ps))/\G.P H/\qaK K B ts vs/\
 Wnt ⟨K,G,E,C,0⟩ H (λs=> ∀v H' B',qa5 H B H' B'->G.P H'->s.ret=true->qgU K H H' B' 0 s (some v)->Q v H') (f ts)
def qsx:Out->Rs Sl
 | .rs s _=>if s.ret=true then .ok s else .no
 | .rt t=>.ok (.fz t)
 | .nx _=>.ok (.fz .non)
 | _=>.no
def fnS (n N:Nat) (d:Ro->Rs Out):List T->Rs Sl:=λts=>if ts.length=n then d (ts.map .fz++List.replicate (N - n) .no)>>=qsx else .no
theorem qld {K:PySem.W.Frag} {G:Gam} {C:Str->Addr} {E:XK} {d:Ro->Rs Out} {n:Nat} {N:List Str} {vs:List V} {H:Hp} {Q:VK} (hn:n<=N.length) (h:spS K G C (fnS n N.length d) vs H Q E):tS ⟨K,G,E,C,0⟩ d { nx:=λ_ H'=>Q .non H',rt:=Q } (start N vs) H:=by
 obtain ⟨B,ts,le,bt,m,r,w⟩:=h
 unfold fnS at w
 split at w
 ·rename_i hl
  refine ⟨H,B,_,B,qiu le bt m r (by omega),?_⟩
  rw[hl]
  refine Wnt.mono (Wnt.bind w) λo w1=> ?_
  cases o with
  | rt t=>exact λv H' B' g m r=>w1 v H' B' g m rfl ⟨v,rfl,r⟩
  | nx ρ=>exact λσ' H' B' ev _=>w1 .non H' B' ev.gr ev.gm rfl ⟨_,rfl,by unfold Rep; rfl⟩
  | bk ρ=>exact w1.elim
  | ct ρ=>exact w1.elim
  | rs s ρ=>
   have w1:Wnt ⟨K,G,E,C,0⟩ H _ (if s.ret=true then .ok s else .no):=w1
   split at w1
   ·rename_i er
    exact λv σ' H' B' ev _=>w1 v H' B' ev.gr ev.gm er (qhT er (ev.sl 0 s rfl))
   ·exact w1.elim
 ·exact w.elim
theorem qoh {K:PySem.W.Frag} {G:Gam} {C:Str->Addr} {E:XK} {d:Ro->Rs Out} {n N:Nat} {vs:List V} {H:Hp} {Q:VK} (h:spS K G C (fnS n N d) vs H Q E):vs.length=n:=by
 obtain ⟨B,ts,le,bt,m,r,w⟩:=h
 unfold fnS at w
 split at w
 ·rename_i hl
  rw[r.length]; exact hl
 ·exact w.elim
theorem qnO {P:Program} {w:World} {K:PySem.W.Frag} {mg:Str->Option Value} {base:Heap} {G:Gam} {C:Str->Addr} {x qual:Str} {st:Stmt} {f:Addr} {fd:FuncData} {N ps:List Str} {k:Nat} {d:Ro->Rs Out} (F:Fun K x qual st f fd) (S:qau N ps (qae st))
  (hbody: ∀(cdv:Value) (A:Around) (outer:List Env) (s:Shared) (H:Hp) (E:XK),qcu k (A.deeper (PyProof.Rows.envOfC qual (qae st) s.heap.objs.size f cdv))->
   DSs ⟨K,G,E,C,0⟩ (qnl CX0 P w K mg base N qual (qae st) f cdv A outer s H E).nox (qaZ st) d):qbo P w K mg base CX0 (k+1) f fd ps (spS K G C (fnS ps.length N.length d)):=by
 have hpl:ps.length<=N.length:=by have:=congrArg List.length S.pre; rw[List.length_take] at this; omega
 exact F.ok S (λvs H Q E h=>qoh h) λcdv A outer s H vs Q E hr h=>⟨_,hbody cdv A outer s H E hr,qld hpl h⟩
def KnS (P:Program) (w:World) (K:PySem.W.Frag) (mg:Str->Option Value) (base:Heap) (G:Gam) (C:Str->Addr) (x:Str) (ps:List Str) (k:Nat) (fS:List T->Rs Sl):Prop:=
 ∃f fd,qbo P w K mg base CX0 k f fd ps (spS K G C fS)/\mg x=some (.ref f)/\PySem.W.keepIn K (.ref f)=true/\qdZ K fd ps []
def qtc:Sl->Rs T
 | .fz t=>.ok t
 | .ow ts=>.ok (.lst ts)
 | _=>.no
def qnw (fS:List T->Rs Sl):List T->Rs T:=λts=>fS ts>>=qtc
theorem ql9 {K:PySem.W.Frag} {H B H' B':Hp} {s:Sl} {v:V} (g:qa5 H B H' B') (r:s.ret=true) (h:qgU K H H' B' 0 s (some v)): ∃t B2,qtc s= .ok t/\qa5 H B H' B2/\Rep K B2 t v:=by
 cases s with
 | fz t=>obtain ⟨x,e,r⟩:=h; cases e; exact ⟨t,B',rfl,g,r⟩
 | ow ts=>
  obtain ⟨q,vs,e,h0,hb,hp,rr⟩:=h
  cases e
  obtain ⟨g2,le⟩:=g.freeze h0 hb hp
  exact ⟨.lst ts,_,rfl,g2,qnJ qak (rr.mono le)⟩
 | _=>cases r
theorem qrL {K:PySem.W.Frag} {G:Gam} {C:Str->Addr} {vs:List V} {H:Hp} {Q:VK} {E:XK} (h:spP K G C (qnw fS) vs H Q E):spS K G C fS vs H Q E:=by
 obtain ⟨B,ts,le,bt,m,r,w⟩:=h
 refine ⟨B,ts,le,bt,m,r,?_⟩
 unfold qnw at w
 have w:=Wnt.bind (qay.mp w)
 refine Wnt.mono w λs w1 v H' B' g m' er hs=> ?_
 obtain ⟨t,B2,e1,g2,r2⟩:=ql9 g er hs
 rw[e1] at w1
 exact w1 v H' B2 g2 m' r2
theorem KnS.kn {P:Program} {w:World} {K:PySem.W.Frag} {mg:Str->Option Value} {base:Heap} {G:Gam} {C:Str->Addr} (h:KnS P w K mg base G C x ps k fS):Kn P w K mg base G C x ps k (qnw fS):=by
 obtain ⟨f,fd,F,r⟩:=h
 exact ⟨f,fd,F.imp λvs H Q E h=>qrL h,r⟩
def tS' (M:Md) (ds:Ro->Rs (List T)) (fS:List T->Rs Sl):TE:=λσ H Q=> ∃H0 B0 ρ B,Ev M H0 B0 ρ σ H B/\
 Wnt M H0 (λs:Sl=> ∀v H' B',Ev M H0 B0 (s::ρ) (some v::σ) H' B'->Le B B'->Q v H') (ds ρ>>=fS)
theorem qjv {σ:St} {H:Hp} {Q:VK} (h:tS' M ds fS σ H Q):qiV (spS M.K M.G M.C fS) [] M.E (tPA M ds) σ H Q:=by
 obtain ⟨H0,B0,ρ,B,ev,w⟩:=h
 refine tPA.of ev (Wnt.mono (Wnt.bind w) λts w1 vs H1 B1 g1 m1 r1=> ?_)
 have ev1:=ev.grow g1 m1
 refine ⟨B1,ts,ev1.bh,ev1.bt,m1,by rw[List.append_nil]; exact r1,?_⟩
 cases q:fS ts with
 | no=>rw[q] at w1; exact w1
 | ok s=>rw[q] at w1; exact λv H' B' g m er hs=>w1 v H' B' (ev1.consNew (ev1.grow g m) (λj u ej ou=>⟨u,ej,ou⟩) er hs) (g1.bb.trans g.bb)
 | ex c=>rw[q] at w1; exact λH' g m=>w1 H' (ev1.gr.gx.trans g) m
theorem qmC (F:KnS X.prog X.w X.K X.mg X.base M.G M.C x ps k fS) (hK:X.K=M.K) (hr:qcu k X.A) (hg:Gl X x) (ha:DA M X (e::es) ds) (hdb:(x==("__debug__" :Str))=false:=by decide)
  (he:starEach (e::es) X.env=(false,eval e X.env)::starEach es X.env:=by rfl) (hpl:(backTo pos (starEach es X.env)).any (·.1)=false:=by rfl):PE X (.Call (.Name x p) (e::es) [] pos) (tS' M ds fS):=by
 obtain ⟨f,fd,G,m,kk,bb⟩:=F
 rw[hK] at G
 exact PE.weak (qey (by rw[hK]; exact G) hr hg m kk bb .nil qks ha hdb he hpl) λσ H Q h=>qjv h
def qnk (j:Nat) (ds:Ro->Rs (List T)) (fS:List T->Rs Sl):Ro->Rs Out:=λρ=>ds ρ>>=λts=>fS ts>>=λs=>.ok (.nx (ρ.set j s))
theorem qo3 (hN:X.N.Nodup) (hi:X.N[j]? =some y) (hx:Loc X.env.scope y) (h:PE X e (tS' M ds fS)) (hs:swapsWith e (some (.Name y pos')) pos.line X.env=pure false:=by rfl) (hf:X.fn y=true\/X.env.scope.names.lookup y=some .local:=by first | exact .inl rfl | exact .inr rfl | assumption):
  DS M X (.Assign [.Name y pos'] e pos) (qnk j ds fS):=by
 refine PS.weak (qfi hN hi hx h hs hf) λD σ H hq=> ?_
 obtain ⟨H0,B0,ρ,B,ev,w⟩:=hq
 refine ⟨H0,B0,ρ,B,ev,?_⟩
 unfold qnk at w
 cases q2:ds ρ with
 | no=>rw[q2] at w; exact w
 | ex c=>rw[q2] at w; exact w
 | ok ts=>
  rw[q2] at w
  rw[qaj] at w⊢
  cases q3:fS ts with
  | no=>rw[q3] at w; exact w
  | ex c=>rw[q3] at w; exact w
  | ok r=>rw[q3] at w; exact λv H' B' ev' le=>w _ H' B' (ev'.store j) le
def qlB (ds:Ro->Rs (List T)) (fS:List T->Rs Sl):Ro->Rs Out:=λρ=>ds ρ>>=λts=>fS ts>>=λs=>.ok (.rs s ρ)
theorem qo5 (h:PE X e (tS' M ds fS)):DS M X (.Return (some e) pos) (qlB ds fS):=by
 refine PS.weak (qdm h) λD σ H hq=> ?_
 obtain ⟨H0,B0,ρ,B,ev,w⟩:=hq
 refine ⟨H0,B0,ρ,B,ev,?_⟩
 unfold qlB at w
 cases q2:ds ρ with
 | no=>rw[q2] at w; exact w
 | ex c=>rw[q2] at w; exact w
 | ok ts=>
  rw[q2] at w
  rw[qaj] at w⊢
  cases q3:fS ts with
  | no=>rw[q3] at w; exact w
  | ex c=>rw[q3] at w; exact w
  | ok r=>rw[q3] at w; exact λv H' B' ev' le=>w v σ H' B' ev' le
def tPN (M:Md) (ds:Ro->Rs (List T)):TA:=λσ H Q=> ∃H0 B0 ρ B,Ev M H0 B0 ρ σ H B/\
 Wnt M H0 (λts=> ∀vs p H' B',qa5 H B H' B'->M.G.P H'->qaK M.K B' ts vs->H' p=none->Q (vs++[.ref p]) (upd H' p (.dK []))) (ds ρ)
theorem qpi (hst:starEach [.Dict [] [] p] X.env=(false,eval (.Dict [] [] p) X.env)::starEach [] X.env:=by rfl):PA X [.Dict [] [] p] (tPN M qan):=by
 refine PA.weak (qao qh7 qaF hst) λσ H Q hq=> ?_
 obtain ⟨H0,B0,ρ,B,ev,w⟩:=hq
 exact λp hp=>w [] p H B (.refl ev.bh ev.bt) ev.gm .nil hp
theorem qiF (ha:DE M X e da) (hs:PA X es (tPN M ds)) (hst:starEach (e::es) X.env=(false,eval e X.env)::starEach es X.env:=by rfl):PA X (e::es) (tPN M (qab da ds)):=by
 refine PA.weak (qao ha hs hst) λσ H Q hq=> ?_
 obtain ⟨H0,B0,ρ,B,ev,w⟩:=hq
 refine tP.of ev (Wnt.mono (Wnt.bind w) λx w1 v H1 B1 g1 m1 r1=> ?_)
 refine ⟨H0,B0,ρ,B1,ev.grow g1 m1,Wnt.mono (Wnt.bind w1) λxs w2 u p H2 B2 g2 m2 r2 e2=> ?_⟩
 exact w2 (v::u) p H2 B2 (g1.trans g2) m2 (.cons (r1.mono g2.bb) r2) e2
def tSN (M:Md) (ds:Ro->Rs (List T)) (fQ:List T->Sl->Rs (Sl×Sl)):TE:=tS' M ds λts=>fQ ts (.od [])>>=λr=>.ok r.1
theorem qjw {σ:St} {H:Hp} {Q:VK} (h:tSN M ds fQ σ H Q):qiV (spQ M.K M.G M.C fQ) [] M.E (tPN M ds) σ H Q:=by
 obtain ⟨H0,B0,ρ,B,ev,w⟩:=h
 refine ⟨H0,B0,ρ,B,ev,Wnt.mono (Wnt.bind w) λts w1 vs p H1 B1 g1 m1 r1 hp=> ?_⟩
 have ev1:=ev.grow g1 m1
 have bp:B1 p=none:=by
  cases q:B1 p with
  | none=>rfl
  | some u=>rw[ev1.bh _ _ q] at hp; cases hp
 obtain ⟨g2,m2⟩:=ev1.nown (o:=.dK []) hp
 have eh:hid (upd H1 p (.dK [])) p=H1:=by
  funext a
  by_cases q:a=p
  ·subst q; rw[qfM,hp]
  ·rw[qcY q,qad q]
 refine ⟨B1,ts,.od [],p,vs,by rw[List.append_nil],g2.bh,g2.bt,m2,r1,bp,⟨[],qak,.nil⟩,?_⟩
 rw[eh]
 have w1:=Wnt.bind w1
 unfold qrb
 cases q:fQ ts (.od []) with
 | no=>rw[q] at w1; exact w1
 | ok r=>rw[q] at w1; exact λv H' B' g m er hs _ _=>w1 v H' B' (ev1.consNew (ev1.grow g m) (λj u ej ou=>⟨u,ej,ou⟩) er hs) (g1.bb.trans g.bb)
 | ex c=>rw[q] at w1; exact λH' g m=>w1 H' (ev1.gr.gx.trans g) m
theorem qmD (F:KnQ X.prog X.w X.K X.mg X.base M.G M.C x ps k fQ) (hK:X.K=M.K) (hr:qcu k X.A) (hg:Gl X x) (ha:PA X (e::es) (tPN M ds)) (hdb:(x==("__debug__" :Str))=false:=by decide)
  (he:starEach (e::es) X.env=(false,eval e X.env)::starEach es X.env:=by rfl) (hpl:(backTo pos (starEach es X.env)).any (·.1)=false:=by rfl):PE X (.Call (.Name x p) (e::es) [] pos) (tSN M ds fQ):=by
 obtain ⟨f,fd,G,m,kk,bb⟩:=F
 rw[hK] at G
 exact PE.weak (qey (by rw[hK]; exact G) hr hg m kk bb .nil qks ha hdb he hpl) λσ H Q h=>qjw h
end
mutual
def qnH:T->Bool
 | .tup ts=>qhc ts
 | .lst ts=>qhc ts
 | .dct _=>false
 | .dtu _=>false
 | .dcf _=>false
 | .fn _=>false
 | .scr _=>false
 | _=>true
def qhc:List T->Bool
 | []=>true
 | t::ts=>qnH t&&qhc ts
end
def qtj:Sl->T
 | .od k=>.dct k
 | .pd k=>.dct k
 | .ou k=>.dtu k
 | .pu k=>.dtu k
 | _=>.non
def qs1 (r:T):Rs T:=if qnH r=true then .ok r else .no
def qnZ (i:Nat) (fT:List T->Rs T) (ds:Ro->Rs (List T)):Ro->Rs T:=λρ=>qeX ρ i>>=λs=>ds ρ>>=λts=>fT (ts++[qtj s])>>=qs1
theorem qpf {K:PySem.W.Frag} {H B:Hp} {p:Addr} {s:Sl} (h:DAt K H B p s) (hb:B p=none): ∃o,H p=some o/\(∀ps,o≠.tbl ps)/\(∀vs,o≠.tup vs)/\(∀vs,o≠.lst vs)/\Rep K (upd B p o) (qtj s) (.ref p):=by
 have le: ∀o,Le B (upd B p o):=λo a u z=>by rw[qad (qap z hb)]; exact z
 cases s with
 | od k=>obtain ⟨us,a,b⟩:=h; exact ⟨_,a,nofun,nofun,nofun,by show Rep K _ (.dct k) _; unfold Rep; exact ⟨p,us,rfl,qak,b.mono (le _)⟩⟩
 | pd k=>obtain ⟨us,a,b⟩:=h; exact ⟨_,a,nofun,nofun,nofun,by show Rep K _ (.dct k) _; unfold Rep; exact ⟨p,us,rfl,qak,b.mono (le _)⟩⟩
 | ou k=>obtain ⟨us,a,b⟩:=h; exact ⟨_,a,nofun,nofun,nofun,by show Rep K _ (.dtu k) _; unfold Rep; exact ⟨p,us,rfl,qak,b.mono (le _)⟩⟩
 | pu k=>obtain ⟨us,a,b⟩:=h; exact ⟨_,a,nofun,nofun,nofun,by show Rep K _ (.dtu k) _; unfold Rep; exact ⟨p,us,rfl,qak,b.mono (le _)⟩⟩
 | _=>exact h.elim
def qlE (i:Nat) (ρ:Ro):Ro:=match ρ[i]? with
 | some (.pd [])=>ρ.set i (.pu [])
 | some (.od [])=>ρ.set i (.ou [])
 | _=>ρ
theorem qoF {P:Program} {w:World} {H:Hp} {h:Heap} {p:Addr} (hp:H p=some (.dK [])): ∀(o:HO) (a:Addr),qbe P w H h a o->qbe P w (upd H p (.dT [])) h a o:=by
 intro o
 induction o with
 | lst xs=>exact λa h=>h
 | tup xs=>exact λa h=>h
 | dK kvs=>exact λa h=>h
 | dT kvs=>
  intro a h
  obtain ⟨z,y,xs,r,qc3⟩:=h
  refine ⟨z,y,xs,?_,qc3⟩
  clear qc3 z y
  induction r with
  | nil=>exact .nil
  | cons c _ ih=>
   refine .cons ⟨c.1,?_,c.2.2⟩ ih
   rw[qad (λz=>by rw[z,hp] at c; cases c.2.1)]
   exact c.2.1
 | set S n=>exact λa h=>h
 | ins C dx fs=>
  intro a h
  obtain ⟨h1,r⟩:=h
  exact ⟨by rw[qad (λz=>by rw[z,hp] at h1; cases h1)]; exact h1,r⟩
 | own x=>exact λa h=>h
 | xd fs=>exact λa h=>h
 | rng lo hi=>exact λa h=>h
 | frz o u ih=>exact λa h=>⟨h.1,ih a h.2⟩
 | _=>exact λa h=>h
theorem Inv.asT {X:Cx} {pins:List (Addr×Obj)} {σ:St} {H:Hp} {s:Shared} {p:Addr} (I:L2.Inv X pins σ H s) (hp:H p=some (.dK [])):L2.Inv X pins σ (upd H p (.dT [])) s:=by
 have no: ∀{b:Addr},H b=none->upd H p (.dT []) b=none:=λ{b} h=>by rw[qad (λz=>by rw[z,hp] at h; cases h)]; exact h
 have same: ∀{b:Addr} {o:HO},H b=some o->o≠.dK []->upd H p (.dT []) b=some o:=λ{b o} h n=>by rw[qad (λz=>n (by rw[z,hp] at h; exact (Option.some.inj h).symm))]; exact h
 refine ⟨I.ok,I.os,I.bare,⟨I.base.keep,I.base.slot,λb o a h e=>no (I.base.free b o a h e),I.base.there,λb xs h=>same (I.base.tups b xs h) (by simp),λb o u h=>same (I.base.frzs b o u h) (by simp),λb ps h=> ?_⟩,I.loc,I.cell,no I.free,λx c h=>no (I.freeC x c h),λq hq=> ?_,λa o h=> ?_,I.len⟩
 ·obtain ⟨more,e⟩:=I.base.tbls b ps h
  exact ⟨more,same e (by simp)⟩
 ·obtain ⟨a,b,c⟩:=I.pin q hq
  exact ⟨a,no b,c⟩
 ·by_cases z:a=p
  ·subst z
   rw[qak] at h; cases h
   obtain ⟨z1,z2,vs,kv,d⟩:=(show qbe X.prog X.w H s.heap a (.dK []) from I.hok a _ hp)
   cases kv
   obtain ⟨o,es,ep,h1,h2,h3,h4,h5,h6⟩:=d
   exact ⟨z1,z2,[],.nil,o,es,ep,h1,h2,h3,by generalize es.toList=l at h5⊢; cases h5; rfl,List.nodup_nil⟩
  ·rw[qad z] at h
   exact qoF hp o a (I.hok a o h)
section
variable {M:Md} {X:Cx} {st:Stmt} {sts:List Stmt} {d:Ro->Rs Out}
theorem Ev.conv {H0 B0 H B:Hp} {ρ:Ro} {σ:St} {pins:List (Addr×Obj)} {s:Shared} (i:Nat) (ev:Ev M H0 B0 ρ σ H B) (I:L2.Inv X pins σ H s): ∃H',L2.Inv X pins σ H' s/\Ev M H0 B0 (qlE i ρ) σ H' B:=by
 have go: ∀(u u':Sl),ρ[i]? =some u->u.isD=true->(∀K p,DAt K H B p u->H p=some (.dK []))->(∀K H p,H p=some (.dT [])->DAt K H B p u')->u.like u'=u'->∃H',L2.Inv X pins σ H' s/\Ev M H0 B0 (ρ.set i u') σ H' B:=λu u' e hd k1 k2 k3=>by
  obtain ⟨p,es,h0,hb,hs,_⟩:=ev.getD' e hd
  have hp:=k1 _ _ hs
  refine ⟨upd H p (.dT []),Inv.asT I hp,?_⟩
  have:=ev.behindQ (H':=upd H p (.dT [])) (B':=B) (s':=u') e hd es ⟨⟨λa o z n=> ?_,λa z=> ?_⟩,.refl _,λa o z=> ?_,ev.bt,λ_ _ _ _ _=>rfl⟩ (M.G.st H _ (λa o z n1 n2 n3 n4=> ?_) ev.gm) hb (k2 _ _ _ qak)
  ·rw[k3] at this; exact this
  ·have:=qeh z; rw[qad this.2]; exact this.1
  ·by_cases q:a=p
   ·subst q; rw[qak]; simp
   ·rw[qad q]; rw[qcY q] at z; exact z
  ·rw[qad (qap z hb)]; exact ev.bh _ _ z
  ·rw[qad (λq=>by rw[q,hp] at z; exact n2 _ (Option.some.inj z).symm)]; exact z
 unfold qlE
 split
 ·rename_i e
  exact go _ _ e rfl (λK p h=>by obtain ⟨us,a,b⟩:=h; rw[b.inv0] at a; exact a) (λK H p h=>⟨[],h,by unfold qbE; rfl⟩) rfl
 ·rename_i e
  exact go _ _ e rfl (λK p h=>by obtain ⟨us,a,b⟩:=h; rw[b.inv0] at a; exact a) (λK H p h=>⟨[],h,by unfold qbE; rfl⟩) rfl
 ·exact ⟨H,I,ev⟩
theorem qnc (i:Nat) (h:DSs M X sts d):DSs M X sts (λρ=>d (qlE i ρ)):=λpins s σ H D I hq=>by
 obtain ⟨H0,B0,ρ,B,ev,w⟩:=hq
 obtain ⟨H',I',ev'⟩:=ev.conv i I
 exact h pins s σ H' D I' ⟨H0,B0,_,B,ev',w⟩
end
end PL
end
section
namespace PL
open PySem L2
def qmT:List T->Option (List Key)
 | []=>some []
 | t::ts=>(match qcX t,qmT ts with | some k,some ks=>some (k::ks) | _,_=>none)
def qlW:T->Option (List Key)
 | .tup ts=>qmT ts
 | _=>none
def qf1 (kvs:List (List Key×T)) (k:List Key):Option T:=(kvs.find? λkv=>decide (kv.1=k)).map (·.2)
def qkn (kvs:List (List Key×T)) (k:List Key) (t:T):List (List Key×T):=if (kvs.any λkv=>decide (kv.1=k))=true then kvs.map (λkv=>if kv.1=k then (kv.1,t) else kv) else kvs++[(k,t)]
def lookS:Sl->T->Option (Option T)
 | .od kvs,k=>(qcX k).map (qjG kvs)
 | .pd kvs,k=>(qcX k).map (qjG kvs)
 | .ou kvs,k=>(qlW k).map (qf1 kvs)
 | .pu kvs,k=>(qlW k).map (qf1 kvs)
 | _,_=>none
def qrl:Sl->Nat
 | .od kvs=>kvs.length
 | .pd kvs=>kvs.length
 | .ou kvs=>kvs.length
 | .pu kvs=>kvs.length
 | _=>0
def qtH:Sl->T->T->Option Sl
 | .od kvs,k,t=>(qcX k).map λk=>.od (qgZ kvs k t)
 | .pd kvs,k,t=>(qcX k).map λk=>.pd (qgZ kvs k t)
 | .ou kvs,k,t=>(qlW k).map λk=>.ou (qkn kvs k t)
 | .pu kvs,k,t=>(qlW k).map λk=>.pu (qkn kvs k t)
 | _,_,_=>none
section
variable {K:PySem.W.Frag} {B H:Hp}
theorem qbE.nil:qbE K B [] []:=by unfold qbE; rfl
theorem qbE.cons {k:List Key} {t:T} {v:V} {ts:List (List Key×T)} {vs:List (List Key×V)} (h:Rep K B t v) (r:qbE K B ts vs):qbE K B ((k,t)::ts) ((k,v)::vs):=by unfold qbE; exact ⟨v,vs,rfl,h,r⟩
theorem qbE.inv {k:List Key} {t:T} {ts:List (List Key×T)} {vs:List (List Key×V)} (h:qbE K B ((k,t)::ts) vs): ∃v r,vs=(k,v)::r/\Rep K B t v/\qbE K B ts r:=by unfold qbE at h; exact h
theorem qbE.inv0 {vs:List (List Key×V)} (h:qbE K B [] vs):vs=[]:=by unfold qbE at h; exact h
theorem qbE.length: ∀{ts:List (List Key×T)} {vs:List (List Key×V)},qbE K B ts vs->vs.length=ts.length
 | [],_,h=>by rw[h.inv0]; rfl
 | (_,_)::_,_,h=>by obtain ⟨v,r,rfl,_,h'⟩:=h.inv; simp[qbE.length h']
theorem qbE.any (k:List Key): ∀{ts:List (List Key×T)} {vs:List (List Key×V)},qbE K B ts vs->(vs.any λkv=>decide (kv.1=k))=ts.any λkv=>decide (kv.1=k)
 | [],_,h=>by rw[h.inv0]; rfl
 | (_,_)::_,_,h=>by obtain ⟨v,r,rfl,_,h'⟩:=h.inv; simp[qbE.any k h']
theorem qbE.repl (k:List Key) {t:T} {v:V} (h:Rep K B t v): ∀{ts:List (List Key×T)} {vs:List (List Key×V)},qbE K B ts vs->qbE K B (ts.map λkv=>if kv.1=k then (kv.1,t) else kv) (vs.map λkv=>if kv.1=k then (kv.1,v) else kv)
 | [],_,r=>by rw[r.inv0]; exact .nil
 | (j,u)::_,_,r=>by
  obtain ⟨x,r',rfl,a,b⟩:=r.inv
  simp only[List.map_cons]
  by_cases q:j=k
  ·rw[if_pos q,if_pos q]; exact .cons h (qbE.repl k h b)
  ·rw[if_neg q,if_neg q]; exact .cons a (qbE.repl k h b)
theorem qbE.snoc {k:List Key} {t:T} {v:V} (h:Rep K B t v): ∀{ts:List (List Key×T)} {vs:List (List Key×V)},qbE K B ts vs->qbE K B (ts++[(k,t)]) (vs++[(k,v)])
 | [],_,r=>by rw[r.inv0]; exact .cons h .nil
 | (_,_)::_,_,r=>by obtain ⟨x,r',rfl,a,b⟩:=r.inv; exact .cons a (qbE.snoc h b)
theorem qbE.put {k:List Key} {t:T} {v:V} {ts:List (List Key×T)} {vs:List (List Key×V)} (r:qbE K B ts vs) (h:Rep K B t v):qbE K B (qkn ts k t) (qgY vs k v):=by
 unfold qkn qgY
 rw[r.any k]
 split
 ·exact r.repl k h
 ·exact r.snoc h
theorem qbE.val (k:List Key): ∀{ts:List (List Key×T)} {vs:List (List Key×V)},qbE K B ts vs->(∀t,qf1 ts k=some t->∃v,qfv vs k=some v/\Rep K B t v)/\(qf1 ts k=none->qfv vs k=none)
 | [],_,r=>by rw[r.inv0]; exact ⟨λt e=>by simp[qf1] at e,λ_=>rfl⟩
 | (j,u)::ts,_,r=>by
  obtain ⟨x,r',rfl,a,b⟩:=r.inv
  by_cases q:j=k
  ·rw[qec q]
   have:qf1 ((j,u)::ts) k=some u:=by simp[qf1,List.find?_cons,q]
   rw[this]
   exact ⟨λt e=>by cases e; exact ⟨x,rfl,a⟩,λe=>by cases e⟩
  ·rw[qed q]
   have:qf1 ((j,u)::ts) k=qf1 ts k:=by simp[qf1,List.find?_cons,q]
   rw[this]
   exact qbE.val k b
theorem qgr: ∀{ts:List T} {ks:List Key} {vs:List V},qmT ts=some ks->qaK K B ts vs->vs=ks.map kV
 | [],ks,_,e,r=>by cases e; exact r.inv0
 | t::ts,ks,_,e,r=>by
  obtain ⟨v,r',rfl,a,b⟩:=r.inv
  unfold qmT at e
  split at e
  ·rename_i k ks' e1 e2
   cases e
   rw[qgr e2 b,qhl e1 a]; rfl
  ·cases e
theorem qim {t:T} {ks:List Key} {v:V} (e:qlW t=some ks) (r:Rep K B t v): ∃b,v= .ref b/\B b=some (.tup (ks.map kV)):=by
 unfold qlW at e
 split at e
 ·obtain ⟨b,vs,e1,e2,e3⟩:=qh0 r
  exact ⟨b,e1,by rw[e2,qgr e e3]⟩
 ·cases e
theorem qhx {p:Addr} {s:Sl} {k:T} {y:V} {o:Option T} (h:DAt K H B p s) (le:Le B H) (r:Rep K B k y) (e:lookS s k=some o): ∃ov,qgX H p y ov/\(∀t,o=some t->∃v,ov=some v/\Rep K B t v)/\(o=none->ov=none):=by
 have go1: ∀{kvs:List (Key×T)} {us:List (Key×V)},H p=some (.dK us)->qbG K B kvs us->(qcX k).map (qjG kvs)=some o->∃ov,qgX H p y ov/\(∀t,o=some t->∃v,ov=some v/\Rep K B t v)/\(o=none->ov=none):=λ{kvs us} hp rd e=>by
  cases q:qcX k with
  | none=>rw[q] at e; cases e
  | some k'=>
   rw[q] at e
   have e:=Option.some.inj e
   subst e
   obtain ⟨a,b⟩:=rd.val k'
   exact ⟨qfv us k',by rw[qhl q r]; exact qgX.k hp,a,b⟩
 have go2: ∀{kvs:List (List Key×T)} {us:List (List Key×V)},H p=some (.dT us)->qbE K B kvs us->(qlW k).map (qf1 kvs)=some o->∃ov,qgX H p y ov/\(∀t,o=some t->∃v,ov=some v/\Rep K B t v)/\(o=none->ov=none):=λ{kvs us} hp rd e=>by
  cases q:qlW k with
  | none=>rw[q] at e; cases e
  | some k'=>
   rw[q] at e
   have e:=Option.some.inj e
   subst e
   obtain ⟨a,b⟩:=rd.val k'
   obtain ⟨c,e1,e2⟩:=qim q r
   exact ⟨qfv us k',by rw[e1]; exact qgX.t hp (le _ _ e2),a,b⟩
 cases s with
 | od _=>obtain ⟨us,a,b⟩:=h; exact go1 a b e
 | pd _=>obtain ⟨us,a,b⟩:=h; exact go1 a b e
 | ou _=>obtain ⟨us,a,b⟩:=h; exact go2 a b e
 | pu _=>obtain ⟨us,a,b⟩:=h; exact go2 a b e
 | _=>exact h.elim
theorem qpg {p:Addr} {s s':Sl} {k t:T} {y v:V} (h:DAt K H B p s) (le:Le B H) (hb:B p=none) (r:Rep K B k y) (rt:Rep K B t v) (hl:qrl s<=1000) (e:qtH s k t=some s'):
  ∃o,qlU H p y v (upd H p o)/\(∀ps,o≠.tbl ps)/\DAt K (upd H p o) B p s'/\s.like s'=s':=by
 have go1: ∀{kvs:List (Key×T)} {us:List (Key×V)} {f:List (Key×T)->Sl},H p=some (.dK us)->qbG K B kvs us->kvs.length<=1000->(qcX k).map (λk=>f (qgZ kvs k t))=some s'->(∀H k us,H p=some (.dK us)->qbG K B k us->DAt K H B p (f k))->(∀k,s.like (f k)=f k)->
   ∃o,qlU H p y v (upd H p o)/\(∀ps,o≠.tbl ps)/\DAt K (upd H p o) B p s'/\s.like s'=s':=λ{kvs us f} hp rd hl e k1 k2=>by
  cases q:qcX k with
  | none=>rw[q] at e; cases e
  | some k'=>
   rw[q] at e
   have e:=Option.some.inj e
   subst e
   exact ⟨_,by rw[qhl q r]; exact qlU.k hp (by rw[rd.length]; exact qbj hl),(λ_ z=>by cases z),k1 _ _ _ qak (rd.put rt),k2 _⟩
 have go2: ∀{kvs:List (List Key×T)} {us:List (List Key×V)} {f:List (List Key×T)->Sl},H p=some (.dT us)->qbE K B kvs us->kvs.length<=1000->(qlW k).map (λk=>f (qkn kvs k t))=some s'->(∀H k us,H p=some (.dT us)->qbE K B k us->DAt K H B p (f k))->(∀k,s.like (f k)=f k)->
   ∃o,qlU H p y v (upd H p o)/\(∀ps,o≠.tbl ps)/\DAt K (upd H p o) B p s'/\s.like s'=s':=λ{kvs us f} hp rd hl e k1 k2=>by
  cases q:qlW k with
  | none=>rw[q] at e; cases e
  | some k'=>
   rw[q] at e
   have e:=Option.some.inj e
   subst e
   obtain ⟨c,e1,e2⟩:=qim q r
   exact ⟨_,by rw[e1]; exact qlU.t hp (le _ _ e2) (by rw[rd.length]; exact qbj hl),(λ_ z=>by cases z),k1 _ _ _ qak (rd.put rt),k2 _⟩
 cases s with
 | od _=>obtain ⟨us,a,b⟩:=h; exact go1 (f:=.od) a b hl e (λH k us x y=>⟨us,x,y⟩) λ_=>rfl
 | pd _=>obtain ⟨us,a,b⟩:=h; exact go1 (f:=.pd) a b hl e (λH k us x y=>⟨us,x,y⟩) λ_=>rfl
 | ou _=>obtain ⟨us,a,b⟩:=h; exact go2 (f:=.ou) a b hl e (λH k us x y=>⟨us,x,y⟩) λ_=>rfl
 | pu _=>obtain ⟨us,a,b⟩:=h; exact go2 (f:=.pu) a b hl e (λH k us x y=>⟨us,x,y⟩) λ_=>rfl
 | _=>exact h.elim
end
def tX (M:Md) (d:Ro->Rs Sl):TE:=λσ H Q=> ∃H0 B0 ρ B,Ev M H0 B0 ρ σ H B/\Wnt M H0 (λs=> ∀p H' B',qa5 H B H' B'->M.G.P H'->DAt M.K H' B' p s->Q (.ref p) H') (d ρ)
abbrev DX (M:Md) (X:Cx) (e:Expr) (d:Ro->Rs Sl):Prop:=PE X e (tX M d)
def slX:T->Rs Sl
 | .dct k=>.ok (.od k)
 | .dtu k=>.ok (.ou k)
 | _=>.no
def dXV (i:Nat):Ro->Rs Sl:=λρ=>match ρ[i]? with
 | some (.fz t)=>slX t
 | some s=>if s.isD=true then .ok s else .no
 | none=>.no
theorem qso {K:PySem.W.Frag} {B H:Hp} {t:T} {v:V} {s:Sl} (le:Le B H) (r:Rep K B t v) (e:slX t= .ok s): ∃p,v= .ref p/\DAt K H B p s:=by
 cases t with
 | dct k=>cases e; unfold Rep at r; obtain ⟨p,us,a,b,c⟩:=r; exact ⟨p,a,us,le _ _ b,c⟩
 | dtu k=>cases e; unfold Rep at r; obtain ⟨p,us,a,b,c⟩:=r; exact ⟨p,a,us,le _ _ b,c⟩
 | _=>cases e
theorem qpS {α:Type} {M:Md} {H0:Hp} {k:Sl->Prop} {t:T} (w:Wnt M H0 k (slX t)): ∃s,slX t= .ok s/\k s:=by
 cases t with
 | dct z=>exact ⟨_,rfl,w⟩
 | dtu z=>exact ⟨_,rfl,w⟩
 | _=>exact w.elim
section
variable {M:Md} {X:Cx} {o e k a b c value:Expr} {es:List Expr} {pos p pos' apos cpos:Pos} {i j:Nat} {x y:Str} {da db dc dk:Ro->Rs T} {dx:Ro->Rs Sl} {ds:Ro->Rs (List T)}
theorem qfq (h:PE X e (qhK i)):DX M X e (dXV i):=by
 refine PE.weak h λσ H Q hq=> ?_
 obtain ⟨H0,B0,ρ,B,ev,w⟩:=hq
 unfold dXV at w
 split at w
 ·rename_i t e1
  obtain ⟨s,es,ks⟩:=qpS (α:=Unit) w
  obtain ⟨x,e2,r⟩:=ev.get e1
  obtain ⟨p,rfl,d⟩:=qso ev.bh r es
  exact ⟨_,e2,ks p H B (.refl ev.bh ev.bt) ev.gm d⟩
 ·rename_i s nf e1
  split at w
  ·rename_i hd
   obtain ⟨p,es,h0,hb,hs,_⟩:=ev.getD' e1 hd
   exact ⟨_,es,w p H B (.refl ev.bh ev.bt) ev.gm hs⟩
  ·exact w.elim
 ·exact w.elim
theorem qfT {K:PySem.W.Frag} {H B H' B':Hp} {p:Addr} {s:Sl} (h:DAt K H B p s) (g:qa5 H B H' B'):DAt K H' B' p s:=by
 cases s with
 | od k=>obtain ⟨us,a,b⟩:=h; exact ⟨us,g.gx.hh _ _ a nofun,b.mono g.bb⟩
 | pd k=>obtain ⟨us,a,b⟩:=h; exact ⟨us,g.gx.hh _ _ a nofun,b.mono g.bb⟩
 | ou k=>obtain ⟨us,a,b⟩:=h; exact ⟨us,g.gx.hh _ _ a nofun,b.mono g.bb⟩
 | pu k=>obtain ⟨us,a,b⟩:=h; exact ⟨us,g.gx.hh _ _ a nofun,b.mono g.bb⟩
 | _=>exact h
theorem qph {K:PySem.W.Frag} {H B:Hp} {p:Addr} {s:Sl} (h:DAt K H B p s):IsD H p:=by
 cases s with
 | od k=>obtain ⟨us,a,b⟩:=h; exact .inl ⟨us,.inl a⟩
 | pd k=>obtain ⟨us,a,b⟩:=h; exact .inl ⟨us,.inl a⟩
 | ou k=>obtain ⟨us,a,b⟩:=h; exact .inr ⟨us,.inl a⟩
 | pu k=>obtain ⟨us,a,b⟩:=h; exact .inr ⟨us,.inl a⟩
 | _=>exact h.elim
def qmM (s:Sl) (k:T):Rs T:=match lookS s k with | some (some t)=>.ok t | _=>.no
def qcr (dx:Ro->Rs Sl) (dk:Ro->Rs T):Ro->Rs T:=λρ=>dx ρ>>=λs=>dk ρ>>=λk=>qmM s k
theorem qhw (hu:X.A.units+1<cLine) (ho:DX M X o dx) (hk:DE M X k dk) (hs:qrs k:=by intro _ _; rfl):DE M X (.Subscript o k pos) (qcr dx dk):=by
 refine PE.weak (qow hu ho hk hs) λσ H Q hq=> ?_
 obtain ⟨H0,B0,ρ,B,ev,w⟩:=hq
 refine ⟨H0,B0,ρ,B,ev,Wnt.mono (Wnt.bind (qay.mp w)) λs w1 p H1 B1 g1 m1 hs=> ?_⟩
 have ev1:=ev.grow g1 m1
 refine tP.of ev1 (Wnt.mono (Wnt.bind w1) λkt w2 y H2 B2 g2 m2 r2=> ?_)
 have ev2:=ev1.grow g2 m2
 unfold qmM at w2
 split at w2
 ·rename_i t el
  obtain ⟨ov,g,a1,_⟩:=qhx (qfT hs g2) ev2.bh r2 el
  obtain ⟨v,rfl,rv⟩:=a1 t rfl
  exact ⟨p,v,rfl,g,w2 v H2 B2 (g1.trans g2) m2 rv⟩
 ·exact w2.elim
def qij (s:Sl) (k t:T):Rs T:=match lookS s k with | some o=>.ok (o.getD t) | none=>.no
def qeO (dx:Ro->Rs Sl) (dk da:Ro->Rs T):Ro->Rs T:=λρ=>dx ρ>>=λs=>dk ρ>>=λk=>da ρ>>=λt=>qij s k t
theorem qng (hu:X.A.units+1<cLine) (ho:DX M X o dx) (hk:DE M X k dk) (ha:DE M X a da) (m:M2 X o "get" apos k a cpos):DE M X (.Call (.Attribute o "get" apos) [k,a] [] cpos) (qeO dx dk da):=by
 refine PE.weak (qmy hu ho hk ha m) λσ H Q hq=> ?_
 obtain ⟨H0,B0,ρ,B,ev,w⟩:=hq
 refine ⟨H0,B0,ρ,B,ev,Wnt.mono (Wnt.bind (qay.mp w)) λs w1 p H1 B1 g1 m1 hs=> ?_⟩
 have ev1:=ev.grow g1 m1
 refine ⟨p,rfl,qph hs,?_⟩
 refine tP.of ev1 (Wnt.mono (Wnt.bind w1) λkt w2 y H2 B2 g2 m2 r2=> ?_)
 have ev2:=ev1.grow g2 m2
 refine tP.of ev2 (Wnt.mono (Wnt.bind w2) λt w3 z H3 B3 g3 m3 r3=> ?_)
 have ev3:=ev2.grow g3 m3
 unfold qij at w3
 split at w3
 ·rename_i oo el
  obtain ⟨ov,g,a1,a2⟩:=qhx (qfT (qfT hs g2) g3) ev3.bh (r2.mono g3.bb) el
  refine ⟨ov,g,?_⟩
  cases oo with
  | none=>rw[a2 rfl]; exact w3 z H3 B3 ((g1.trans g2).trans g3) m3 r3
  | some t'=>obtain ⟨v,rfl,rv⟩:=a1 t' rfl; exact w3 v H3 B3 ((g1.trans g2).trans g3) m3 rv
 ·exact w3.elim
def inX (neg:Bool) (s:Sl) (k:T):Rs T:=match lookS s k with | some o=>.ok (.bl (if neg then !o.isSome else o.isSome)) | none=>.no
def qnj (neg:Bool) (dk:Ro->Rs T) (dx:Ro->Rs Sl):Ro->Rs T:=λρ=>dk ρ>>=λk=>dx ρ>>=λs=>inX neg s k
theorem ql1 {neg:Bool} {σ:St} {H:Hp} {Q:VK} (h:tP M (qnj neg dk dx) σ H Q):tP M dk σ H λy H1=>tX M dx σ H1 λx H2=> ∃a o,x= .ref a/\qgX H2 a y o/\Q (.bl (if neg then !o.isSome else o.isSome)) H2:=by
 obtain ⟨H0,B0,ρ,B,ev,w⟩:=h
 refine tP.of ev (Wnt.mono (Wnt.bind (qay.mp w)) λkt w1 y H1 B1 g1 m1 r1=> ?_)
 have ev1:=ev.grow g1 m1
 refine ⟨H0,B0,ρ,B1,ev1,Wnt.mono (Wnt.bind w1) λs w2 p H2 B2 g2 m2 hs=> ?_⟩
 have ev2:=ev1.grow g2 m2
 unfold inX at w2
 split at w2
 ·rename_i oo el
  obtain ⟨ov,g,a1,a2⟩:=qhx hs ev2.bh (r1.mono g2.bb) el
  have:ov.isSome=oo.isSome:=by
   cases oo with
   | none=>rw[a2 rfl]; rfl
   | some t'=>obtain ⟨v,rfl,_⟩:=a1 t' rfl; rfl
  exact ⟨p,ov,rfl,g,by rw[this]; exact w2 _ H2 B2 (g1.trans g2) m2 qds⟩
 ·exact w2.elim
theorem qqX (hu:X.A.units+1<cLine) (hk:DE M X k dk) (ho:DX M X o dx) (hm:behindInMarks .In o=false:=by rfl):DT M X (.Compare k [.In] [o] pos) (dTB (qnj false dk dx)):=
 PT.weak (qqd (qqr hu hk ho) hm) λ_ _ _ h=>ql1 (neg:=false) (qdP h)
def qqa (ρ:Ro) (i:Nat) (s:Sl) (k t:T):Rs Out:=if qrl s<=1000 then (match qtH s k t with | some s'=>.ok (.nx (ρ.set i s')) | none=>.no) else .no
def qdX (i:Nat) (dk da:Ro->Rs T):Ro->Rs Out:=λρ=>qeX ρ i>>=λs=>da ρ>>=λt=>dk ρ>>=λk=>qqa ρ i s k t
theorem qln (hu:X.A.units+1<cLine) (ho:PE X o (qhK i)) (hk:DE M X k dk) (hv:DE M X value da) (hs:swapsWith value (some (.Subscript o k pos')) pos.line X.env=pure false:=by rfl):
  DS M X (.Assign [.Subscript o k pos'] value pos) (qdX i dk da):=by
 refine PS.weak (qor hu ho hk hv hs) λD σ H hq=> ?_
 obtain ⟨H0,B0,ρ,B,ev,w⟩:=hq
 obtain ⟨s,e0,hd,w⟩:=qf6 w
 refine tP.of ev (Wnt.mono (Wnt.bind w) λt w1 v H1 B1 g1 m1 r1=> ?_)
 have ev1:=ev.grow g1 m1
 obtain ⟨p,es,h0,hb,hs0,_⟩:=ev1.getD' e0 hd
 refine ⟨.ref p,es,?_⟩
 refine tP.of ev1 (Wnt.mono (Wnt.bind w1) λkt w2 y H2 B2 g2 m2 r2=> ?_)
 have ev2:=ev1.grow g2 m2
 obtain ⟨p',es',h0',hb',hs',_⟩:=ev2.getD' e0 hd
 rw[es] at es'; cases es'
 unfold qqa at w2
 split at w2
 ·rename_i hl
  split at w2
  ·rename_i s' ep
   obtain ⟨ob,g,nt,ha,lk⟩:=qpg hs' ev2.bh hb' r2 (r1.mono g2.bb) hl ep
   refine ⟨p,_,rfl,g,w2 σ _ B2 ?_ (g1.bb.trans g2.bb)⟩
   have:=ev2.behindQ (H':=upd H2 p ob) (B':=B2) (s':=s') e0 hd es ⟨⟨λa o z n=> ?_,λa z=> ?_⟩,.refl _,λa o z=> ?_,ev2.bt,λ_ _ _ _ _=>rfl⟩ (M.G.st H2 _ (λa o z n1 n2 n3 n4=> ?_) m2) hb' ha
   ·rw[lk] at this; exact this
   ·have:=qeh z; rw[qad this.2]; exact this.1
   ·by_cases q:a=p
    ·subst q; rw[qak]; simp
    ·rw[qad q]; rw[qcY q] at z; exact z
   ·rw[qad (qap z hb')]; exact ev2.bh _ _ z
   ·rw[qad (λq=> ?_)]; exact z
    subst q
    cases s with
    | od k=>obtain ⟨us,a,b⟩:=hs'; rw[a] at z; exact n2 _ (Option.some.inj z).symm
    | pd k=>obtain ⟨us,a,b⟩:=hs'; rw[a] at z; exact n2 _ (Option.some.inj z).symm
    | ou k=>obtain ⟨us,a,b⟩:=hs'; rw[a] at z; exact n3 _ (Option.some.inj z).symm
    | pu k=>obtain ⟨us,a,b⟩:=hs'; rw[a] at z; exact n3 _ (Option.some.inj z).symm
    | _=>exact hs'.elim
  ·exact w2.elim
 ·exact w2.elim
def frzX (i:Nat) (ρ:Ro):Ro:=match ρ[i]? with
 | some (.od k)=>ρ.set i (.fz (.dct k))
 | some (.ou k)=>ρ.set i (.fz (.dtu k))
 | _=>ρ
theorem Ev.frzX {H0 B0 H B:Hp} {ρ:Ro} {σ:St} (i:Nat) (ev:Ev M H0 B0 ρ σ H B): ∃B',Le B B'/\Ev M H0 B0 (frzX i ρ) σ H B':=by
 have go: ∀(s:Sl),ρ[i]? =some s->s.isD=true->∃B',Le B B'/\Ev M H0 B0 (ρ.set i (.fz (qtj s))) σ H B':=λs e hd=>by
  obtain ⟨p,es,h0,hb,hs,_⟩:=ev.getD' e hd
  obtain ⟨o,ho,n1,n2,n3,rd⟩:=qpf hs hb
  have le:Le B (upd B p o):=λa u z=>by rw[qad (qap z hb)]; exact z
  have hi:i<ρ.length:=(List.getElem?_eq_some_iff.mp e).1
  refine ⟨upd B p o,le,⟨⟨ev.gr.gx,ev.gr.bb.trans le,λa u z=> ?_,λa ps z=> ?_,λa u z n4 n5=> ?_⟩,ev.gm,by simp[ev.len],λj u ej=> ?_,λj k sj sk q hjk ej ek oj ok a=> ?_⟩⟩
  ·by_cases q:a=p
   ·subst q; rw[qak] at z; cases z; exact ho
   ·rw[qad q] at z; exact ev.bh _ _ z
  ·by_cases q:a=p
   ·subst q; rw[qak] at z; exact n1 ps (Option.some.inj z)
   ·rw[qad q] at z; exact ev.bt a ps z
  ·rw[qad (λq=>by rw[q,h0] at z; cases z)]; exact ev.gr.nw a u z n4 n5
  ·rw[List.getElem?_set] at ej
   by_cases q:i=j
   ·subst q
    rw[if_pos rfl,if_pos hi] at ej
    cases ej
    exact ⟨.ref p,by rw[es]; rfl,rd⟩
   ·rw[if_neg q] at ej
    refine qhU (p:=p) (ev.sl j u ej) ⟨⟨λa o z n=>(qeh z).1,λa z=>λy=>z (by unfold hid; split<;>first | rfl | exact y)⟩,le,λa u z=> ?_,λa ps z=> ?_,nwo λa z=> ?_⟩ λou z=>ev.ap i j s u p q e ej (qfL hd) ou (by rw[es]; rfl) z
    ·by_cases q:a=p
     ·subst q; rw[qak] at z; cases z; exact ho
     ·rw[qad q] at z; exact ev.bh _ _ z
    ·by_cases q:a=p
     ·subst q; rw[qak] at z; exact n1 ps (Option.some.inj z)
     ·rw[qad q] at z; exact ev.bt a ps z
    ·rw[qad (λq=>z (by rw[q]; exact qfM))]
  ·rw[List.getElem?_set] at ej ek
   by_cases q1:i=j
   ·subst q1; rw[if_pos rfl,if_pos hi] at ej; cases ej; cases oj
   ·by_cases q2:i=k
    ·subst q2; rw[if_pos rfl,if_pos hi] at ek; cases ek; cases ok
    ·rw[if_neg q1] at ej
     rw[if_neg q2] at ek
     exact ev.ap j k sj sk q hjk ej ek oj ok a
 unfold PL.frzX
 split
 ·rename_i e; exact go _ e rfl
 ·rename_i e; exact go _ e rfl
 ·exact ⟨B,.refl _,ev⟩
end
end PL
end
section
namespace PL
open PySem PySem.Spec PyProof.Rows L2 SR SetL
end PL
end
section
namespace PL
open PySem PySem.Spec L2
end PL
end
section
namespace DH
open PySem PySem.Spec PyProof.Rows PySem.W
variable {prog:Program} {w:World} {A:Around} {E:Value->Shared->Prop} {s:Shared}
def RawD (h:Heap) (d:Addr) (es:Array DictEntry) (ep:Nat):Prop:= ∃o,h.get? d=some o/\o.ExactDict/\o.data= .dict es ep
theorem RawD.at {h h':Heap} {d:Addr} {es:Array DictEntry} {ep:Nat} (x:RawD h d es ep) (k: ∀o,h.get? d=some o->h'.get? d=some o):RawD h' d es ep:=let ⟨o,a,b⟩:=x; ⟨o,k o a,b⟩
theorem RawD.lt {h:Heap} {d:Addr} {es:Array DictEntry} {ep:Nat} (x:RawD h d es ep):d<h.objs.size:=let ⟨_,a,_⟩:=x; Heap.lt_size a
theorem RawD.ty {d:Addr} {es:Array DictEntry} {ep:Nat} (x:RawD s.heap d es ep):s.TypeIs (.ref d) "dict" :=let ⟨o,a,b,_⟩:=x; ⟨o,a,b.1⟩
theorem qs5 {d:Addr} {es:Array DictEntry} {ep:Nat} {Q:Value->Shared->Prop} (lo:(d==sysModules)=false) (x:RawD s.heap d es ep)
  (q:Q (.ref s.heap.objs.size) { s with heap:=s.heap.push { cls:=.type "dict_keyiterator",data:=.fields #[.ref d,.int 0 0,.int es.size 0,.int ep 0] } }):wpAny (model prog w) A (pyIter (.ref d)) Q E s:=by
 obtain ⟨o,ho,hx,hd⟩:=id x
 have ty:=x.ty
 refine wpAny_pyIter_slot ty F.slot_dict_iter (wpAny_call_entry F.slot_dict_iter ty F.entry_dict_iter ?_ (F.args_dict_iter_1 _))
 unfold Builtin.«dict.__iter__»; refine wpAny_bind ?_; unfold Builtin.Dict.dictSlotNone; refine wpAny_bind (wpAny_notOrdered_dict ty ?_)
 refine wpAny_pure (a:=Value.ref d) ?_
 show wpAny _ _ (Builtin.Dict.showsAll d>>=_) _ _ s; unfold Builtin.Dict.showsAll; rw[if_neg (by rw[lo]; exact Bool.false_ne_true)]; refine wpAny_bind (wpAny_pure ?_)
 refine wpAny_bind (wpAny_dictEntries ho hd (wpAny_bind (wpAny_dictEpoch ho hd ?_)))
 exact wpAny_bind (wpAny_newObj_type (wpAny_pure ⟨_,rfl, "dict_keyiterator",_,⟨_,Heap.get?_push_size _ rfl,rfl⟩,F.slot_dict_keyiterator_next.lookup,by simpa [rawInt] using q⟩))
theorem qs0 {it d:Addr} {i ep:Nat} {es:Array DictEntry} {Q:Option Value->Shared->Prop} (hi:s.heap.IsKeyIter it d i es.size ep) (x:RawD s.heap d es ep) (lt:i<es.size)
  (q: ∀h',h'.IsKeyIter it d (i+1) es.size ep->Heap.SameBut it s.heap h'->Q (some es[i].key) { s with heap:=h' }):wpAny (model prog w) A (pyNext (.ref it)) Q E s:=by
 obtain ⟨o,ho,hc,hd⟩:=id hi
 obtain ⟨od,ho2,hx2,hd2⟩:=id x
 have ty:=hi.typeIs
 unfold pyNext; refine wpAny_bind (wpAny_attempt (wpAny_callSpecial?_slot (name:=Str.ofString "__next__") ty F.slot_dict_keyiterator_next (wpAny_call_entry F.slot_dict_keyiterator_next ty F.entry_dict_keyiterator_next ?_ (F.args_dict_keyiterator_next_1 _))))
 refine wpAny_bind (wpAny_pure ?_); refine wpAny_bind ?_; refine wpAny_bind ?_
 first | refine wpAny_bind (wpAny_typeNameOfWhole_keyiter ty (wpAny_pure ?_)) | refine wpAny_bind (wpAny_typeNameOf_keyiter ty (wpAny_pure ?_))
 refine wpAny_bind (wpAny_fieldsOf ho hd ?_)
 have ow:Builtin.Dict_items.ownsTuple "dict_keyiterator" =false:=by decide
 simp only[ow,Bool.false_eq_true,if_false]; show wpAny _ _ (if (Value.ref d==Value.none)=true then _ else _) _ _ s; rw[if_neg (show ¬((Value.ref d==Value.none)=true) from Bool.false_ne_true)]
 refine wpAny_bind (wpAny_pure ?_); refine wpAny_bind (wpAny_dictEntries ho2 hd2 ?_); rw[if_neg (by simp)]
 refine wpAny_bind (wpAny_pure ?_); refine wpAny_bind (wpAny_dictEpoch ho2 hd2 ?_); rw[if_neg (by simp)]; refine wpAny_pure ?_
 simp only[show ¬((i:Int)<0) from by omega,if_false,Int.toNat_natCast,Array.getElem?_eq_getElem lt]; refine wpAny_bind ?_
 first | refine wpAny_bind (wpAny_typeNameOfWhole_keyiter ty (wpAny_pure ?_)) | refine wpAny_bind (wpAny_typeNameOf_keyiter ty (wpAny_pure ?_))
 refine wpAny_bind (wpAny_isOneOf_keyiter ty ?_); show wpAny _ _ (setField (.ref it) 1 (rawInt ((i:Int)+1))>>=_) _ _ s; refine wpAny_bind (wpAny_setField ho hd (by simp) ?_)
 have hi2:(s.heap.update it (Obj.mapFields (·.setIfInBounds 1 (rawInt ((i:Int)+1))))).IsKeyIter it d (i+1) es.size ep:=⟨_,Heap.get?_update_self _ ho (Obj.isFreed_of_fields (Obj.data_mapFields hd _)),(Obj.cls_mapFields ..).trans hc,by rw[Obj.data_mapFields hd]; simp[rawInt]⟩
 refine wpAny_bind (wpAny_holding ?_); refine wpAny_bind (wpAny_isOneOf_keyiter (s:={ s with heap:=s.heap.update it (Obj.mapFields (·.setIfInBounds 1 (rawInt ((i:Int)+1)))) }) hi2.typeIs ?_)
 show wpAny _ _ (pure es[i].key) _ _ _; exact wpAny_pure (wpAny_pure ⟨_,rfl,wpAny_pure (q _ hi2 (Heap.SameBut.update ..))⟩)
theorem qu2 {it d:Addr} {i ep:Nat} {es:Array DictEntry} {Q:Option Value->Shared->Prop} (hh:A.handled=none) (hi:s.heap.IsKeyIter it d i es.size ep) (x:RawD s.heap d es ep) (ge:es.size<=i)
  (q: ∀h',Heap.ExtBut it s.heap h'->Q none { s with heap:=h' }):wpAny (model prog w) A (pyNext (.ref it)) Q E s:=by
 obtain ⟨o,ho,hc,hd⟩:=id hi
 obtain ⟨od,ho2,hx2,hd2⟩:=id x
 have ty:=hi.typeIs
 unfold pyNext; refine wpAny_bind (wpAny_attempt (wpAny_callSpecial?_slot (name:=Str.ofString "__next__") ty F.slot_dict_keyiterator_next (wpAny_call_entry F.slot_dict_keyiterator_next ty F.entry_dict_keyiterator_next ?_ (F.args_dict_keyiterator_next_1 _))))
 refine wpAny_bind (wpAny_pure ?_); refine wpAny_bind ?_; refine wpAny_bind ?_
 first | refine wpAny_bind (wpAny_typeNameOfWhole_keyiter ty (wpAny_pure ?_)) | refine wpAny_bind (wpAny_typeNameOf_keyiter ty (wpAny_pure ?_))
 refine wpAny_bind (wpAny_fieldsOf ho hd ?_)
 have ow:Builtin.Dict_items.ownsTuple "dict_keyiterator" =false:=by decide
 simp only[ow,Bool.false_eq_true,if_false]; show wpAny _ _ (if (Value.ref d==Value.none)=true then _ else _) _ _ s; rw[if_neg (show ¬((Value.ref d==Value.none)=true) from Bool.false_ne_true)]
 refine wpAny_bind (wpAny_pure ?_); refine wpAny_bind (wpAny_dictEntries ho2 hd2 ?_); rw[if_neg (by simp)]
 refine wpAny_bind (wpAny_pure ?_); refine wpAny_bind (wpAny_dictEpoch ho2 hd2 ?_); rw[if_neg (by simp)]; refine wpAny_pure ?_
 simp only[show ¬((i:Int)<0) from by omega,if_false,Int.toNat_natCast,Array.getElem?_eq_none ge]; refine wpAny_bind ?_
 first | refine wpAny_bind (wpAny_typeNameOfWhole_keyiter ty (wpAny_pure ?_)) | refine wpAny_bind (wpAny_typeNameOf_keyiter ty (wpAny_pure ?_))
 show wpAny _ _ (setField (.ref it) 0 .none>>=_) _ _ s; refine wpAny_bind (wpAny_setField ho hd (by simp) ?_); show wpAny _ _ (newExc (.type "StopIteration") []>>=_) _ _ _
 refine wpAny_bind ?_; simp only[newExc,newTuple]; refine wpAny_bind (wpAny_newObj_type ?_ (by size_fits))
 refine wpAny_bind (m:=firstArgMember _ _) (wpAny_of_eq (a:=Value.none) (by first | rfl | (simp only[firstArgMember]; rfl)) ?_); refine wpAny_newObj_type ?_ (by size_fits)
 simp only[raiseNew]; refine wpAny_bind (wpAny_handled ?_); rw[show A.in1.handled=none from hh]; refine wpAny_bind (wpAny_pure (wpAny_throw ?_))
 refine wpAny_bind (wpAny_isInstance (T:= "StopIteration") (b:=true) ⟨_,Heap.get?_push_size _ rfl,rfl⟩ isSubtype_stop ?_); exact wpAny_pure (q _ (((Heap.SameBut.update ..).extBut.push _).push _))
theorem qrx (hh:A.handled=none) (I d:Addr) (ne:d≠I) (es:Array DictEntry) (ep:Nat):
  Walks prog w A I [I,d] [I] es.size (λi v=> ∃e,es[i]? =some e/\v=e.key) (λi h=>h.IsKeyIter I d i es.size ep/\RawD h d es ep) where
 sub:=λb hb=>by simp at hb; simp[hb]
 frame:=λ_ _ _ st hk=>⟨st.1.at λo e=>hk I (by simp) o e,st.2.at λo e=>hk d (by simp) o e⟩
 item:=λi s Q E hi st hQ=>qs0 st.1 st.2 hi λh' a b=>hQ _ h' s.toks ⟨es[i],by simp[hi],rfl⟩ ⟨a,st.2.at λo e=>b.extBut d o ne e⟩ λc o hc e=>b.extBut c o (λz=>hc (by simp[z])) e
 done:=λs Q E st hQ=>qu2 hh st.1 st.2 (Nat.le_refl _) λh' b=>hQ h' s.toks λc o hc e=>b c o (λz=>hc (by simp[z])) e
 self:=λ_ _ _ _ st hQ=>wpAny_pyIter_keyiter st.1 hQ
theorem quf {d:Addr} {es:Array DictEntry} {ep:Nat} (lo:(d==sysModules)=false):KdlSrc prog w "dict" d d es.size (λi v=> ∃e,es[i]? =some e/\v=e.key) (λh=>RawD h d es ep) where
 type:=λ_ m=>m.ty
 there:=λ_ m=>⟨m.lt,m.lt⟩
 keep:=λ_ _ m k=>m.at λo e=>k d (.inl rfl) o e
 notList:=by decide
 notTuple:=by decide
 hint:=λ_ _ _ _ m q=>kdl_hint_dict m.ty q
 iter:=λ_ _ hh m=>⟨_,_,λ_ _ q=>qs5 lo m q,qrx hh _ d (Nat.ne_of_lt m.lt) es ep,⟨⟨_,Heap.get?_push_size _ rfl,rfl,rfl⟩,m.at λo e=>Heap.get?_push_of_some _ e⟩⟩
theorem collectD {d:Addr} {es:Array DictEntry} {ep:Nat} {R:List Value->Shared->Prop} (hh:A.handled=none) (lo:(d==sysModules)=false) (m:RawD s.heap d es ep) (hn:es.size<=sizeLine)
  (h: ∀(h':Heap) (tk:Nat),(∀b o,s.heap.get? b=some o->h'.get? b=some o)->R (es.toList.map (·.key)) { s with heap:=h',toks:=tk }):wpAny (model prog w) A (collect (.ref d)) R E s:=by
 refine kdu_collect (quf lo) hh m hn λh' tk acc k hI=> ?_
 have:acc.toList=es.toList.map (·.key):=by
  refine List.ext_getElem? λj=> ?_
  rw[List.getElem?_map,Array.getElem?_toList,Array.getElem?_toList]
  by_cases c:j<acc.size
  ·obtain ⟨e,h1,h2⟩:=hI.2 j acc[j] (by simp[c])
   rw[h1,Array.getElem?_eq_getElem c,h2]; rfl
  ·have: ¬j<es.size:=by rw[<-hI.1]; exact c
   rw[Array.getElem?_eq_none (by omega),Array.getElem?_eq_none (by omega)]; rfl
 rw[this]
 exact h h' tk k
end DH
end
section
namespace DH
open PySem PySem.Spec PyProof.Rows PySem.W L2
variable {prog:Program} {w:World} {A:Around} {E:Value->Shared->Prop} {s:Shared}
abbrev IS:=Int×Str
def quY (x y:IS):Bool:=if x.1=y.1 then (if x.2=y.2 then false else decide (y.2.cps.toList<x.2.cps.toList)) else decide (y.1<x.1)
def ISAt (h:Heap) (x:IS) (p:Addr):Prop:= ∃t u,IsTup h p #[.int x.1 t,.str x.2 u]
theorem ISAt.keep {h h':Heap} {x:IS} {p:Addr} (a:ISAt h x p) (k: ∀o,h.get? p=some o->h'.get? p=some o):ISAt h' x p:=by
 obtain ⟨t,u,o,e,r⟩:=a
 exact ⟨t,u,o,k o e,r⟩
end DH
end
section
namespace DH
open PySem PySem.Spec PyProof.Rows PySem.W L2
variable {prog:Program} {w:World} {A:Around} {E:Value->Shared->Prop} {s:Shared}
def bestIS (xs:List IS):Nat:=argBest (λi j=>quY (xs.getD i (0, "")) (xs.getD j (0, ""))) (xs.length - 1)
end DH
end
section
namespace PL
open PySem L2
def qlS (H B:Hp) (qs:List Addr):Hp:=λa=>if a∈qs then H a else B a
theorem qa5.absorb {H B:Hp} {qs:List Addr} (le:Le B H) (bt: ∀a ps,B a≠some (.tbl ps)) (h: ∀q∈qs,∃vs,H q=some (.tup vs)):qa5 H B H (qlS H B qs):=by
 refine ⟨.refl _,λa o e=> ?_,λa o e=> ?_,λa ps e=> ?_,λa o e n1 _=> ?_⟩
 ·unfold qlS; split
  ·exact le _ _ e
  ·exact e
 ·unfold qlS at e; split at e
  ·exact e
  ·exact le _ _ e
 ·unfold qlS at e; split at e
  ·rename_i m; obtain ⟨vs,z⟩:=h a m; rw[z] at e; cases e
  ·exact bt a ps e
 ·unfold qlS; rw[if_neg (λm=>by obtain ⟨vs,z⟩:=h a m; rw[z] at e; exact n1 vs (Option.some.inj e).symm)]
theorem qpq {H B:Hp} {qs:List Addr} {q:Addr} (h:q∈qs):qlS H B qs q=H q:=by unfold qlS; rw[if_pos h]
section
variable {X:Cx} {pins:List (Addr×Obj)} {σ:St} {H:Hp} {s:Shared}
theorem qo1 {p:Addr} {us:List (List Key×V)} (I:L2.Inv X pins σ H s) (hp:H p=some (.dT us)): ∃(qs:List Addr) (es:Array DictEntry) (ep:Nat),DH.RawD s.heap p es ep/\(p==sysModules)=false/\us.length<=sizeLine/\es.toList.map (·.key)=qs.map Value.ref/\es.size=us.length/\qs.length=us.length/\
  ∀(j:Nat) (q:Addr),qs[j]? =some q->∃k v,us[j]? =some (k,v)/\H q=some (.tup (k.map kV)):=by
 obtain ⟨hz,lo,xs,kt,o,es,ep,ho,hx,hd,he,hk,nd⟩:=qqY I.hok hp
 have lx:us.length=xs.length:=Paired.length kt
 refine ⟨xs.map (·.2.1),es,ep,⟨o,ho,hx,hd⟩,lo,hz,by rw[he,List.map_map,List.map_map]; rfl,?_,by rw[List.length_map,lx],λj q e=> ?_⟩
 ·have:=congrArg List.length he
  rw[List.length_map] at this
  rw[lx,<-this]; simp
 ·have go: ∀{us:List (List Key×V)} {xs:List (List Key×Addr×Value)} {j:Nat} {q:Addr},KT H us xs->(xs.map (·.2.1))[j]? =some q->∃k v,us[j]? =some (k,v)/\H q=some (.tup (k.map kV)):=λ{us xs j q} kt=>by
   induction kt generalizing j with
   | nil=>intro e; cases j<;>cases e
   | cons c _ ih=>
    intro e
    cases j with
    | zero=>
     rw[List.map_cons,List.getElem?_cons_zero] at e
     have e:=Option.some.inj e
     refine ⟨_,_,List.getElem?_cons_zero,?_⟩
     rw[<-e]
     exact c.2.1
    | succ j=>obtain ⟨k,v,e1,e2⟩:=ih (j:=j) (by simpa using e); exact ⟨k,v,by simpa using e1,e2⟩
  exact go kt e
end
def qtn (dx:Ro->Rs Sl):Ro->Rs T:=λρ=>dx ρ>>=λs=>.ok (.int (qrl s))
section
variable {M:Md} {X:Cx} {o e a:Expr} {pos p p1 apos cpos:Pos} {i:Nat} {dx:Ro->Rs Sl}
def qvj:Sl->Sl
 | .od _=>.od []
 | .pd _=>.pd []
 | .ou _=>.ou []
 | .pu _=>.pu []
 | s=>s
def qto (i:Nat):Ro->Rs Out:=λρ=>qeX ρ i>>=λs=>.ok (.nx (ρ.set i (qvj s)))
end
def qpw:List Key->Bool
 | [.inl _,.inr _]=>true
 | _=>false
def qjg:List Key->DH.IS
 | [.inl i,.inr s]=>(i,s)
 | _=>(0, "")
def isT (x:DH.IS):T:=.tup [.int x.1,.str x.2]
def kvU:Sl->Option (List (List Key×T))
 | .ou k=>some k
 | .pu k=>some k
 | _=>none
def quS (s:Sl):Rs T:=match kvU s with
 | some kvs=>if kvs≠[]/\(kvs.all λkv=>qpw kv.1)=true then .ok (isT ((kvs.map λkv=>qjg kv.1).getD (DH.bestIS (kvs.map λkv=>qjg kv.1)) (0, ""))) else .no
 | none=>.no
def qtm (dx:Ro->Rs Sl):Ro->Rs T:=λρ=>dx ρ>>=quS
theorem qmW {k:List Key} (h:qpw k=true):k.map kV=[.int (qjg k).1,.str (qjg k).2]:=by
 unfold qpw at h
 split at h
 ·rfl
 ·cases h
section
variable {M:Md} {X:Cx} {o e a:Expr} {pos p p1 apos cpos:Pos} {i:Nat} {dx:Ro->Rs Sl}
theorem qtk {K:PySem.W.Frag} {H B:Hp} {p:Addr} {s:Sl} {kvs:List (List Key×T)} (h:DAt K H B p s) (e:kvU s=some kvs): ∃us,H p=some (.dT us)/\qbE K B kvs us:=by
 cases s with
 | ou k=>cases e; exact h
 | pu k=>cases e; exact h
 | _=>cases e
theorem qh1 {K:PySem.W.Frag} {B:Hp}: ∀{kvs:List (List Key×T)} {us:List (List Key×V)} {j:Nat} {k:List Key} {v:V},qbE K B kvs us->us[j]? =some (k,v)->∃t,kvs[j]? =some (k,t)
 | [],_,_,_,_,r,e=>by rw[r.inv0] at e; simp at e
 | (k0,t0)::kvs,_,0,k,v,r,e=>by
  obtain ⟨x,r',rfl,a,b⟩:=r.inv
  have e:(k0,x)=(k,v):=by simpa using e
  cases e
  exact ⟨t0,rfl⟩
 | (k0,t0)::kvs,_,j+1,k,v,r,e=>by
  obtain ⟨x,r',rfl,a,b⟩:=r.inv
  obtain ⟨t,h⟩:=qh1 (j:=j) b (by simpa using e)
  exact ⟨t,by simpa using h⟩
theorem qoP {pins:List (Addr×Obj)} {σ:St} {H B:Hp} {s:Shared} {p:Addr} {kvs:List (List Key×T)} {us:List (List Key×V)} (I:L2.Inv X pins σ H s) (le:Le B H) (bt: ∀a ps,B a≠some (.tbl ps)) (hp:H p=some (.dT us)) (r:qbE M.K B kvs us) (hi:(kvs.all λkv=>qpw kv.1)=true):
  ∃(qs:List Addr) (es:Array DictEntry) (ep:Nat),DH.RawD s.heap p es ep/\(p==sysModules)=false/\es.size<=sizeLine/\es.toList.map (·.key)=qs.map Value.ref/\qs.length=kvs.length/\qa5 H B H (qlS H B qs)/\
   (∀(j:Nat) (q:Addr),qs[j]? =some q->DH.ISAt s.heap ((kvs.map λkv=>qjg kv.1).getD j (0, "")) q/\qlS H B qs q=some (.tup [.int ((kvs.map λkv=>qjg kv.1).getD j (0, "")).1,.str ((kvs.map λkv=>qjg kv.1).getD j (0, "")).2])):=by
 obtain ⟨qs,es,ep,r1,lo,hz,hk,h1,h2,h3⟩:=qo1 I hp
 have hl:us.length=kvs.length:=r.length
 have at_: ∀(j:Nat) (q:Addr),qs[j]? =some q->H q=some (.tup [.int ((kvs.map λkv=>qjg kv.1).getD j (0, "")).1,.str ((kvs.map λkv=>qjg kv.1).getD j (0, "")).2]):=λj q e=>by
  obtain ⟨k,v,e1,e2⟩:=h3 j q e
  obtain ⟨t,e3⟩:=qh1 r e1
  have:=List.all_eq_true.mp hi _ (List.mem_of_getElem? e3)
  rw[qmW this] at e2
  rw[List.getD_eq_getElem?_getD,List.getElem?_map,e3]
  exact e2
 refine ⟨qs,es,ep,r1,lo,by rw[h1]; exact hz,hk,by rw[h2,hl],.absorb le bt λq hq=> ?_,λj q e=>⟨?_,?_⟩⟩
 ·obtain ⟨j,hj⟩:=List.mem_iff_getElem?.mp hq
  exact ⟨_,at_ j q hj⟩
 ·obtain ⟨its,rv,pl,_⟩:=I.tuple (SqT.of (at_ j q e))
  cases rv with
  | cons a r=>
   obtain ⟨t,rfl⟩:=a
   cases r with
   | cons a r=>
    obtain ⟨u,rfl⟩:=a
    cases r
    exact ⟨t,u,pl⟩
 ·rw[qpq (List.mem_of_getElem? e)]; exact at_ j q e
end
end PL
end
section
namespace PL
open PySem L2 SR SetL
def qkU (x:DH.IS):List Ky:=[.i x.1,.s x.2]
theorem qkQ (x:DH.IS):qcP (isT x)=qkU x:=rfl
theorem qkP {h:Heap} {x:DH.IS} {q:Addr} (a:DH.ISAt h x q):qeU h (qkU x) (.ref q):=by
 obtain ⟨t,u,pl⟩:=a
 exact ⟨q,[.int x.1 t,.str x.2 u],rfl,pl,.cons ⟨t,rfl⟩ (.cons ⟨u,rfl⟩ .nil)⟩
def qg5 (s:Sl):Rs (List T):=match kvU s with
 | some kvs=>if kvs.length<64/\(kvs.all λkv=>qpw kv.1)=true then .ok (qdQ ((kvs.map λkv=>qjg kv.1).map isT)) else .no
 | none=>.no
def qgE (dx:Ro->Rs Sl):Ro->Rs (List T):=λρ=>dx ρ>>=qg5
section
variable {M:Md} {X:Cx} {o e a:Expr} {pos p p1 apos cpos:Pos} {i:Nat} {dx:Ro->Rs Sl}
open PySem.W PyProof.Rows in
theorem qjr (hc:X.calm=true) (gl:Gl X "sorted") (ml:X.mg "sorted" =none) (ho:DX M X o dx) (hK:X.K=M.K:=by rfl) (he:starEach [o] X.env=(false,eval o X.env)::starEach [] X.env:=by rfl):DF M X (.Call (.Name "sorted" p) [o] [] pos) (qgE dx):=by
 have cr:qdf X (.builtin "sorted") (λxs H Q=> ∃a B u ts,xs=[V.ref a]/\Le B H/\(∀a ps,B a≠some (.tbl ps))/\M.G.P H/\DAt M.K H B a u/\qg5 u= .ok ts/\∀D vs H' B',qa5 H B H' B'->M.G.P H'->H D=none->B' D=none->H' D=some (.lst vs)->qaK M.K B' ts vs->Q (.ref D) H'):=by
  intro pins s σ H xs us Q I r h
  obtain ⟨a,B,u,ts,rfl,le,bt,m,d,e,q⟩:=h
  obtain ⟨v,rfl,rv⟩:=qeW r
  cases rv
  unfold qg5 at e
  split at e
  case h_2=>cases e
  rename_i kvs ek
  split at e
  case isFalse=>cases e
  rename_i hc2
  cases e
  obtain ⟨us,hp,ru⟩:=qtk d ek
  obtain ⟨qs,es,ep,r1,lo,hz,hk,hl,g,at_⟩:=qoP (M:=M) I le bt hp ru hc2.2
  have hh:X.A.in1.handled=none:=I.ok.hd hc
  generalize exs:(kvs.map λkv=>qjg kv.1)=xs at at_ q
  have lx:xs.length=qs.length:=by rw[<-exs,List.length_map,hl]
  have l64:qs.length<64:=by rw[hl]; exact hc2.1
  have lj: ∀{j:Nat},j<qs.length->qs[j]? =some (qs.getD j 0):=λ{j} hj=>by rw[List.getD_eq_getElem?_getD,List.getElem?_eq_getElem hj]; rfl
  have vat: ∀{j:Nat},j<qs.length->(qs.map Value.ref).getD j Value.none= .ref (qs.getD j 0):=λ{j} hj=>by rw[List.getD_eq_getElem?_getD,List.getElem?_map,lj hj]; rfl
  have tat: ∀{j:Nat},j<qs.length->(xs.map isT).getD j .non=isT (xs.getD j (0, "")):=λ{j} hj=>by rw[List.getD_eq_getElem?_getD,List.getElem?_map,List.getD_eq_getElem?_getD,List.getElem?_eq_getElem (by omega)]; rfl
  have hR:qaK M.K (qlS H B qs) (xs.map isT) (qs.map V.ref):=by
   refine .of_get (by simp; omega) λj t' v' h1 h2=> ?_
   rw[List.getElem?_map] at h1 h2
   cases z:qs[j]? with
   | none=>rw[z] at h2; cases h2
   | some b=>
    rw[z] at h2; cases h2
    have hj:j<xs.length:=by have:=(List.getElem?_eq_some_iff.mp z).1; omega
    have e1:xs.getD j (0, "")=xs[j]:=by rw[List.getD_eq_getElem?_getD,List.getElem?_eq_getElem hj]; rfl
    rw[List.getElem?_eq_getElem hj,<-e1] at h1; cases h1
    exact qkz (at_ j b z).2 (.cons qbk (.cons qia .nil))
  have key1: ∀{j:Nat},j<qs.length->(((xs.map isT).map qcP).map (qbJ qbW ((xs.map isT).map qcP))).getD j 0=qbJ qbW ((xs.map isT).map qcP) (qcP ((xs.map isT).getD j .non)):=λ{j} hj=>by
   have hj':j<(xs.map isT).length:=by rw[List.length_map]; omega
   rw[List.getD_eq_getElem?_getD,List.getElem?_map,List.getElem?_map,List.getElem?_eq_getElem hj',List.getD_eq_getElem?_getD,List.getElem?_eq_getElem hj']
   rfl
  have memt: ∀{j:Nat},j<qs.length->(xs.map isT).getD j .non∈xs.map isT:=λ{j} hj=>by
   have hj':j<(xs.map isT).length:=by rw[List.length_map]; omega
   rw[List.getD_eq_getElem?_getD,List.getElem?_eq_getElem hj']; exact List.getElem_mem hj'
  refine St.sorted_c (DH.collectD hh lo r1 hz λh' tk kp=> ?_)
  rw[hk]
  have kt: ∀{j:Nat},j<qs.length->∀{h2:Heap},St.Kp h' h2->qeU h2 (qkU (xs.getD j (0, ""))) (.ref (qs.getD j 0)):=λ{j} hj {h2} k2=>qkP ((at_ j _ (lj hj)).1.keep λo e=>k2 _ _ (kp _ _ e))
  refine ⟨h',tk,tuples' true,((xs.map isT).map qcP).map (qbJ qbW ((xs.map isT).map qcP)),rfl,kp,by simp; omega,by simp; omega,λs' k2 h2 Q' E' hq'=> ?_,λs' k2 i j hi hj C hC=> ?_,λD h'' tk'' c p hD k2 ho' hget=> ?_⟩
  ·refine qgq (x:=0) (r:=[1]) (qs.map Value.ref) (.inl rfl) h2 (λv hv=> ?_) hq'
   obtain ⟨j,hj,rfl⟩:=List.mem_iff_getElem.mp hv
   have hj':j<qs.length:=by simpa using hj
   have e1:(qs.map Value.ref)[j]= .ref (qs.getD j 0):=by
    have:=vat hj'
    rw[List.getD_eq_getElem?_getD,List.getElem?_eq_getElem hj] at this
    exact this
   rw[e1]
   exact ⟨_,kt hj' k2,rfl⟩
  ·have hi':i<qs.length:=by simpa using hi
   have hj':j<qs.length:=by simpa using hj
   rw[key1 hi',key1 hj',qb0 qmF (List.mem_map.mpr ⟨_,memt hi',rfl⟩) (List.mem_map.mpr ⟨_,memt hj',rfl⟩),tat hi',tat hj',qkQ,qkQ] at hC
   rw[vat hi',vat hj']
   exact qkF (kt hi' k2) (kt hj' k2) rfl hC
  ·have I2:L2.Inv X pins σ H { s with heap:=h',toks:=tk }:=I.kept (t':=tk) kp
   have fD:H D=none:=I2.hok.fresh hD
   have rv:Vals (qs.map V.ref) (qs.map Value.ref):=by
    have go: ∀l:List Addr,Vals (l.map V.ref) (l.map Value.ref):=λl=>by
     induction l with
     | nil=>exact .nil
     | cons b l ih=>exact .cons rfl ih
    exact go qs
   have I4:L2.Inv X pins σ (L2.upd H D (.lst (p.toList.map λj=>(qs.map V.ref).getD j .non))) { s with heap:=h'',toks:=tk'' }:=by
    refine I2.laid k2 hD ⟨?_,_,c,L2.vals_pick rv p.toList,hget⟩
    rw[List.length_map,Array.length_toList,ho'.1.sz,sizeLine_eq]
    simp
    omega
   obtain ⟨g2,m2,bp⟩:=qcL (M:=M) (ws:=p.toList.map λj=>(qs.map V.ref).getD j .non) g.bh g.bt m fD
   refine ⟨.ref D,_,I4,rfl,q D _ _ _ (g.trans g2) m2 fD bp qak ?_⟩
   have ep':=qdq ho'
   have e:qdQ (xs.map isT)=p.toList.map λj=>(xs.map isT).getD j .non:=by
    unfold qdQ qdj
    rw[ep',srt_congr (k':=λj=>qbJ qbW ((xs.map isT).map qcP) (qcP ((xs.map isT).getD j .non))),qbY (k:=λt=>qbJ qbW ((xs.map isT).map qcP) (qcP t)) (f:=λj=>(xs.map isT).getD j .non) (λb=>rfl),show (qs.map Value.ref).length=(xs.map isT).length by simp; omega,Mir.map_range_getD]
    intro b hb
    have hb':b<qs.length:=by have:=List.mem_range.mp hb; simpa using this
    exact key1 hb'
   rw[e]
   have go: ∀l:List Nat,(∀j∈l,j<qs.length)->qaK M.K (qlS H B qs) (l.map λj=>(xs.map isT).getD j .non) (l.map λj=>(qs.map V.ref).getD j .non):=λl=>by
    induction l with
    | nil=>exact λ_=>.nil
    | cons j l ih=>exact λhl=>.cons (hR.getD j (by rw[List.length_map]; have:=hl j List.mem_cons_self; omega)) (ih λi hi=>hl i (List.mem_cons_of_mem _ hi))
   exact go _ λj hj=>by have:=(Mir.order_mem ho' j).mp hj; simpa using this
 refine PE.weak (qaz cr gl ml SetL.boot_sorted (qao ho qaF he) (he:=he)) λσ H Q hq=> ?_
 obtain ⟨H0,B0,ρ,B,ev,w⟩:=hq
 refine ⟨H0,B0,ρ,B,ev,Wnt.mono (Wnt.bind (qcc.mp w)) λs w1 p H1 B1 g1 m1 hs=> ?_⟩
 have ev1:=ev.grow g1 m1
 cases q:qg5 s with
 | no=>rw[q] at w1; exact w1.elim
 | ex c=>unfold qg5 at q; split at q<;>first | (split at q<;>cases q) | cases q
 | ok t=>
  rw[q] at w1
  exact ⟨p,B1,s,t,rfl,ev1.bh,ev1.bt,m1,hs,q,λD vs H' B' g m2 fD bD hD rs=>w1 D vs H' B' (g1.trans g) m2 (qb2 g1.gx fD) bD hD rs⟩
end
end PL
end
section
namespace PL
open PySem L2
def luS {α:Type} (tbl:List (Str×α)) (z:Str):Option α:=(tbl.find? λp=>decide (p.1=z)).map (·.2)
def qlY (K:PySem.W.Frag) (mg:Str->Option Value) (w:World) (D:Str) (tbl:List (Str×Str)):Prop:=
 ∃(a:Addr) (es:Array DictEntry) (n:Nat),mg D=some (.ref a)/\K.lookup a=some ⟨.type "dict",none,.dict es n, #[]⟩/\PySem.W.KeysLit w.params es.toList/\(a==sysModules)=false/\
  ∀z,match luS tbl z with | none=>findBy Value.isStrOf es z=none | some g=> ∃f,findBy Value.isStrOf es z=some (.ref f)/\PySem.W.nsIn K mainGlobals g=some (some (.ref f))
def qpz (K:PySem.W.Frag) (D:Str):Option (List DictEntry):=match PySem.W.nsIn K mainGlobals D with
 | some (some (.ref a))=>(match K.lookup a with | some ⟨.type "dict",none,.dict es _,sl⟩=>if (a==sysModules)=false/\sl.size=0 then some es.toList else none | _=>none)
 | _=>none
def qpA (K:PySem.W.Frag):List DictEntry->List (Str×Str)->Bool
 | [],[]=>true
 | e::es,(k,g)::tb=>(match e.key,e.val,PySem.W.nsIn K mainGlobals g with | .str x _,.ref f,some (some (.ref f'))=>x==k&&f==f' | _,_,_=>false)&&qpA K es tb
 | _,_=>false
def qpG (K:PySem.W.Frag) (D:Str) (tbl:List (Str×Str)):Bool:=match qpz K D with
 | some es=>qpA K es tbl
 | none=>false
theorem qgz {K:PySem.W.Frag} {P:Params}: ∀{es:List DictEntry} {tbl:List (Str×Str)},qpA K es tbl=true->es.map (·.hash)=tbl.map (λp=>PyData.keyHash P p.1)->PySem.W.KeysLit P es
 | [],[],_,_=>True.intro
 | e::es,(k,g)::tb,h,hh=>by
  unfold qpA at h
  have h:=Bool.and_eq_true_iff.mp h
  have h1:=h.1
  split at h1
  ·rename_i x t f f' e1 e2 e3
   have h1:=Bool.and_eq_true_iff.mp h1
   have:x=k:=by simpa using h1.1
   subst this
   exact ⟨⟨x,t,e1,(List.cons.inj hh).1⟩,qgz h.2 (List.cons.inj hh).2⟩
  ·cases h1
 | [],_::_,h,_=>by cases h
 | _::_,[],h,_=>by cases h
theorem qgA {K:PySem.W.Frag} (z:Str): ∀{es:List DictEntry} {tbl:List (Str×Str)},qpA K es tbl=true->
  match luS tbl z with | none=>(es.find? λe=>Value.isStrOf z e.key).map (·.val)=none | some g=> ∃f,(es.find? λe=>Value.isStrOf z e.key).map (·.val)=some (.ref f)/\PySem.W.nsIn K mainGlobals g=some (some (.ref f))
 | [],[],_=>rfl
 | e::es,(k,g)::tb,h=>by
  unfold qpA at h
  have h:=Bool.and_eq_true_iff.mp h
  have h1:=h.1
  split at h1
  ·rename_i x t f f' e1 e2 e3
   have h1:=Bool.and_eq_true_iff.mp h1
   have:x=k:=by simpa using h1.1
   subst this
   have:f=f':=by simpa using h1.2
   subst this
   by_cases c:x=z
   ·subst c
    have l:luS ((x,g)::tb) x=some g:=by simp[luS,List.find?_cons]
    rw[l]
    refine ⟨f,?_,e3⟩
    have:Value.isStrOf x e.key=true:=by rw[e1]; show (x==x)=true; simp
    rw[List.find?_cons,this]
    exact congrArg some e2
   ·have l:luS ((x,g)::tb) z=luS tb z:=by simp[luS,List.find?_cons,c]
    have n:Value.isStrOf z e.key=false:=by
     rw[e1]
     show (x==z)=false
     exact beq_eq_false_iff_ne.mpr c
    rw[l,List.find?_cons,n]
    exact qgA z h.2
  ·cases h1
 | [],_::_,h=>by cases h
 | _::_,[],h=>by cases h
theorem qg1 {K:PySem.W.Frag} {h:Heap} {mg:Str->Option Value} {w:World} {D:Str} {tbl:List (Str×Str)} (X:K.In h) (G:h.Ns mainGlobals mg) (b:qpG K D tbl=true) (hh:(qpz K D).map (λes=>es.map (·.hash))=some (tbl.map λp=>PyData.keyHash w.params p.1)):qlY K mg w D tbl:=by
 unfold qpG at b
 split at b
 ·rename_i es e
  rw[e] at hh
  have hh:=Option.some.inj hh
  unfold qpz at e
  split at e
  ·rename_i a n
   split at e
   ·rename_i es' m sl l
    split at e
    ·rename_i c
     cases e
     have:sl= #[]:=by simpa using c.2
     subst this
     refine ⟨a,es',m,PySem.W.mg_of X G n,l,qgz b hh,c.1,λz=> ?_⟩
     have:=qgA z b
     unfold findBy
     rw[<-Array.find?_toList]
     exact this
    ·cases e
   ·cases e
  ·cases e
 ·cases b
section
variable {M:Md} {X:Cx} {e a k value:Expr} {es:List Expr} {pos p dp pos':Pos} {i j n:Nat} {x D:Str} {da dk:Ro->Rs T} {ds:Ro->Rs (List T)} {tbl:List (Str×Str)}
def qrz (tbl:List (Str×Str)):T->Rs T
 | .str z=>.ok (.bl (luS tbl z).isSome)
 | _=>.no
def qdL (tbl:List (Str×Str)) (da:Ro->Rs T):Ro->Rs T:=λρ=>da ρ>>=qrz tbl
def qpF (tbl:List (Str×Str)):T->Rs T
 | .str z=>(match luS tbl z with | some g=>.ok (.fn g) | none=>.no)
 | _=>.no
def qeP (tbl:List (Str×Str)) (da:Ro->Rs T):Ro->Rs T:=λρ=>da ρ>>=qpF tbl
theorem qmG {a:Addr} {es:Array DictEntry} {n:Nat} (hl:X.K.lookup a=some ⟨.type "dict",none,.dict es n, #[]⟩) (hk:PySem.W.KeysLit X.w.params es.toList) (lo:(a==sysModules)=false)
  (hz: ∀z,match luS tbl z with | none=>findBy Value.isStrOf es z=none | some g=> ∃f,findBy Value.isStrOf es z=some (.ref f)/\PySem.W.nsIn X.K mainGlobals g=some (some (.ref f))):
  OpR X (compareOp .In) (λx y H Q=> ∃z,x= .str z/\y= .ref a/\Q (.bl (luS tbl z).isSome) H):=by
 intro pins s σ H x y v u Q I rx ry q
 obtain ⟨z,rfl,rfl,q⟩:=q
 obtain ⟨t,rfl⟩:=rx
 cases ry
 refine PySem.wpAny_in_of (PySem.strKind_is X.prog X.w z t) lo (PySem.W.mapOf_K (prog:=X.prog) I.kIn hl hk) ?_
 have:(findBy Value.isStrOf es z).isSome=(luS tbl z).isSome:=by
  have:=hz z
  split at this
  ·rename_i e; rw[this,e]; rfl
  ·rename_i g e; obtain ⟨f,h1,_⟩:=this; rw[h1,e]; rfl
 rw[this]
 exact ⟨.bl _,H,I.tok _,rfl,q⟩
theorem qfQ (T0:qlY X.K X.mg X.w D tbl) (hg:Gl X D) (ha:DE M X e da) (hm:behindInMarks .In (.Name D dp)=false:=by rfl) (hd:(D==("__debug__" :Str))=false:=by decide):DT M X (.Compare e [.In] [.Name D dp] pos) (dTB (qdL tbl da)):=by
 obtain ⟨a,es,n,mD,hl,hk,lo,hz⟩:=T0
 refine PT.weak (qev (qmG hl hk lo hz) ha (qcy hg mD (v:=.ref a) rfl hd) hm) λσ H Q hq=> ?_
 obtain ⟨H0,B0,ρ,B,ev,w⟩:=qdP hq
 refine tP.of ev (Wnt.mono (Wnt.bind (qay.mp w)) λt w1 v H1 B1 g1 m1 r1=> ?_)
 cases t with
 | str z=>exact ⟨z,qaM r1,rfl,w1 _ H1 B1 g1 m1 qds⟩
 | _=>exact w1.elim
theorem qlu (T0:qlY X.K X.mg X.w D tbl) (hg:Gl X D) (ha:DE M X k da) (hK:X.K=M.K:=by rfl) (hs:qrs k:=by intro _ _; rfl) (hd:(D==("__debug__" :Str))=false:=by decide):DE M X (.Subscript (.Name D dp) k pos) (qeP tbl da):=by
 obtain ⟨a,es,n,mD,hl,hk,lo,hz⟩:=T0
 intro pins s σ H Q I hq
 obtain ⟨H0,B0,ρ,B,ev,w⟩:=hq
 have pa:tP M da σ H λy H1=> ∃z g f,y=V.str z/\luS tbl z=some g/\findBy Value.isStrOf es z=some (.ref f)/\Q (.ref f) H1:=by
  refine tP.of ev (Wnt.mono (Wnt.bind (qay.mp w)) λt w1 v H1 B1 g1 m1 r1=> ?_)
  cases t with
  | str z=>
   have w1:Wnt M H0 (λa=> ∀v H' B',qa5 H B H' B'->M.G.P H'->Rep M.K B' a v->Q v H') (match luS tbl z with | some g=>.ok (.fn g) | none=>.no):=w1
   cases q:luS tbl z with
   | none=>rw[q] at w1; exact w1.elim
   | some g=>
    rw[q] at w1
    have:=hz z
    rw[q] at this
    obtain ⟨f,h1,h2⟩:=this
    exact ⟨z,g,f,qaM r1,q,h1,w1 _ H1 B1 g1 m1 (by unfold Rep; exact ⟨f,rfl,by rw[<-hK]; exact h2⟩)⟩
  | _=>exact w1.elim
 refine qjS PySem.F.slot_dict_getitem.lookup hs (thn (qcy hg mD (v:=.ref a) rfl hd pins s σ H (λx H1=>x= .ref a/\H1=H) I ⟨rfl,rfl⟩) λu s1 hu=> ?_)
 obtain ⟨x,H1,I1,rx,rfl,rfl⟩:=hu
 obtain rfl:u=Value.ref a:=rx
 refine thn (ha pins s1 σ H1 _ I1 pa) λiv s2 hv=> ?_
 obtain ⟨y,H2,I2,ry,z,g,f,rfl,_,hf,q⟩:=hv
 obtain ⟨t,rfl⟩:=ry
 have hm:=PySem.W.mapOf_K (prog:=X.prog) (w:=X.w) I2.kIn hl hk
 exact ⟨hm.typeIs,PySem.wpAny_getItem_of (PySem.strKind_is X.prog X.w z t) hm hf ⟨.ref f,H2,I2.tok _,rfl,q⟩⟩
end
section
variable {M:Md} {X:Cx} {e a k value:Expr} {es:List Expr} {pos p dp pos':Pos} {i j n:Nat} {x D:Str} {da dk:Ro->Rs T} {ds:Ro->Rs (List T)}
def fnAt (ρ:Ro) (i:Nat):Rs Str:=match ρ[i]? with | some (.fz (.fn g))=>.ok g | _=>.no
theorem qm3 {α:Type} {M:Md} {H0:Hp} {k:α->Prop} {ρ:Ro} {f:Str->Rs α} (w:Wnt M H0 k (fnAt ρ i>>=f)): ∃g,ρ[i]? =some (.fz (.fn g))/\Wnt M H0 k (f g):=by
 unfold fnAt at w
 split at w
 ·rename_i g e; exact ⟨g,e,w⟩
 ·exact w.elim
theorem qmA {f:Addr} {fd:FuncData} {ps:List Str} {sp:Sp} {t:TA} {k:Nat} {pins:List (Addr×Obj)} {s:Shared} {σ:St} {H:Hp} {Q:VK} (I:L2.Inv X pins σ H s) (hv:PE X (.Name x p) (qhK i)) (ei:σ[i]? =some (some (.ref f))) (F:qbo X.prog X.w X.K X.mg X.base CX0 k f fd ps sp) (hr:qcu k X.A)
  (hk:PySem.W.keepIn X.K (.ref f)=true) (hb:qdZ X.K fd ps []) (ha:PA X (e::es) t) (h:qiV sp [] M.E t σ H Q)
  (he:starEach (e::es) X.env=(false,eval e X.env)::starEach es X.env) (hpl:(backTo pos (starEach es X.env)).any (·.1)=false):
  wpAny (model X.prog X.w) X.A (eval (.Call (.Name x p) (e::es) [] pos) X.env) (EP X pins σ Q) X.xe s:=by
 refine wpAny_Call_Name_kw (thn (hv pins s σ H (λv H1=>v= .ref f/\H1=H) I ⟨.ref f,ei,rfl,rfl⟩) λu s1 hu=> ?_)
 obtain ⟨v,H1,I1,rv,rfl,rfl⟩:=hu
 obtain rfl:u=Value.ref f:=rv
 refine PySem.W.callWith_K (h₀:=X.base) I1.ok.mod.kin hk (thn (ha pos pins s1 σ H1 _ I1 h) λus s2 hq=> ?_) he hpl
 obtain ⟨vs,H2,I2,r,q⟩:=hq
 exact ⟨I2.kIn,qnD F hr hb .nil (qks (M:=M)) I2 r q⟩
theorem qoX {f f':Addr} {g:Str} {pins:List (Addr×Obj)} {s:Shared} {σ:St} {H:Hp} (I:L2.Inv X pins σ H s) (h:PySem.W.nsIn X.K mainGlobals g=some (some (.ref f))) (m:X.mg g=some (.ref f')):f=f':=by
 have:=PySem.W.mg_of I.ok.mod.kin I.ok.mod.glob h
 rw[m] at this
 cases this
 rfl
def qtp (j:Nat) (tbl:List (Str×(List T->Rs Sl))) (ds:Ro->Rs (List T)):Ro->Rs Out:=λρ=>fnAt ρ j>>=λg=>match luS tbl g with | some t=>qlB ds t ρ | none=>.no
def qlC (j i:Nat) (tbl:List (Str×(List T->Sl->Rs (Sl×Sl)))) (ds:Ro->Rs (List T)):Ro->Rs Out:=λρ=>fnAt ρ j>>=λg=>match luS tbl g with | some t=>qpj i ds t ρ | none=>.no
theorem qo7 {tbl:List (Str×(List T->Sl->Rs (Sl×Sl)))} {k:Nat} (F: ∀g t,luS tbl g=some t->∃ps,KnQ X.prog X.w X.K X.mg X.base M.G M.C g ps k t) (hK:X.K=M.K) (hr:qcu k X.A) (hv:PE X (.Name x p) (qhK j)) (ha:PA X (e::es) (tPV M ds i))
  (he:starEach (e::es) X.env=(false,eval e X.env)::starEach es X.env:=by rfl) (hpl:(backTo pos (starEach es X.env)).any (·.1)=false:=by rfl):DS M X (.Return (some (.Call (.Name x p) (e::es) [] pos)) pos') (qlC j i tbl ds):=by
 have pe:PE X (.Call (.Name x p) (e::es) [] pos) (λσ H Q=> ∃H0 B0 ρ B g t,Ev M H0 B0 ρ σ H B/\ρ[j]? =some (.fz (.fn g))/\luS tbl g=some t/\tU M i ds t σ H Q):=by
  intro pins s σ H Q I hq
  obtain ⟨H0,B0,ρ,B,g,t,ev,e1,q,h⟩:=hq
  obtain ⟨ps,f,fd,G,m,kk,bb⟩:=F g t q
  obtain ⟨v,e2,r⟩:=ev.get e1
  unfold Rep at r
  obtain ⟨f',rfl,hn⟩:=r
  have:f'=f:=qoX I (by rw[hK]; exact hn) m
  subst this
  rw[hK] at G
  exact qmA (M:=M) I hv e2 (by rw[hK]; exact G) hr kk bb ha (qfu h) he hpl
 refine PS.weak (qdm pe) λD σ H hq=> ?_
 obtain ⟨H0,B0,ρ,B,ev,w⟩:=hq
 obtain ⟨g,e1,w⟩:=qm3 w
 cases q:luS tbl g with
 | none=>rw[q] at w; exact w.elim
 | some t=>
  rw[q] at w
  refine ⟨H0,B0,ρ,B,g,t,ev,e1,q,H0,B0,ρ,B,ev,?_⟩
  have w:Wnt M H0 (qn7 M H0 B0 B D) (qpj i ds t ρ):=w
  unfold qpj at w
  cases q1:qeX ρ i with
  | no=>rw[q1] at w; exact w
  | ex c=>rw[q1] at w; exact w
  | ok s=>
   rw[q1] at w
   rw[qaj] at w⊢
   cases q2:ds ρ with
   | no=>rw[q2] at w; exact w
   | ex c=>rw[q2] at w; exact w
   | ok ts=>
    rw[q2] at w
    rw[qaj] at w⊢
    cases q3:t ts s with
    | no=>rw[q3] at w; exact w
    | ex c=>rw[q3] at w; exact w
    | ok r=>
     rw[q3] at w
     exact λv H' B' ev' le=>w v σ H' B' ev' le
end
end PL
end
section
namespace L2
open PySem PySem.Spec PyProof.Rows
end L2
namespace PL
open PySem L2
end PL
end
section
namespace PL
open PySem L2
def namesX:List Str:= "enumerate" ::qqz
section
variable {M:Md} {X:Cx} {a b e ste:Expr} {lo hi:Option Expr} {p2 pos p:Pos} {dq:Ro->Rs (Bool×List T)} {dl dh dst:Ro->Rs (Option Int)} {da db:Ro->Rs T}
def qvh (dq:Ro->Rs (Bool×List T)) (dl dh dst:Ro->Rs (Option Int)):Ro->Rs (List T):=λρ=>dq ρ>>=λq=>dl ρ>>=λl=>dh ρ>>=λh=>dst ρ>>=λst=>if q.1=true/\st≠some 0 then .ok (RH.pickL q.2 l h st) else .no
def qta:T->T->Rs T
 | .int i,.int j=>.ok (.int (if j>i then j else i))
 | _,_=>.no
theorem qpc (h:PE X e (tCB (λxs H Q=> ∃i j,xs=[.int i,.int j]/\Q (.int (if j>i then j else i)) H) (qcv (tP M da) (qcv (tP M db) qhL)))):DE M X e (dB2 qta da db):=by
 refine PE.weak h λσ H Q hq=> ?_
 obtain ⟨H0,B0,ρ,B,ev,w⟩:=hq
 refine tP.of ev (Wnt.mono (Wnt.bind (qay.mp w)) λx w1 v H1 B1 g1 m1 r1=> ?_)
 have ev1:=ev.grow g1 m1
 refine tP.of ev1 (Wnt.mono (Wnt.bind w1) λy w2 v2 H2 B2 g2 m2 r2=> ?_)
 cases x with
 | int i=>
  cases y with
  | int j=>
   rw[qas r1,qas r2]
   exact ⟨i,j,rfl,w2 _ H2 B2 (g1.trans g2) m2 qbk⟩
  | _=>exact w2.elim
 | _=>exact w2.elim
end
section
variable {M:Md} {X:Cx} {st:Stmt} {sts:List Stmt} {d:Ro->Rs Out}
theorem qo9 (i:Nat) (h:DS M X st d):DS M X st (λρ=>d (frzX i ρ)):=by
 refine PS.weak h λD σ H hq=> ?_
 obtain ⟨H0,B0,ρ,B,ev,w⟩:=hq
 obtain ⟨B',le,ev'⟩:=ev.frzX i
 exact ⟨H0,B0,_,B',ev',Wnt.mono w λo h=>h.mono le⟩
end
end PL
end
section
namespace HT
open PySem PySem.Spec PyProof.Rows L2
variable {prog:Program} {w:World} {A:Around} {E:Value->Shared->Prop} {s:Shared}
end HT
namespace L2
open PySem PySem.Spec PyProof.Rows
end L2
namespace PL
open PySem L2
def qt4 {α:Type} (P:Str->α->Prop):List (Str×α)->Prop
 | []=>True
 | (g,t)::r=>P g t/\qt4 P r
theorem qnM {α:Type} {P:Str->α->Prop}: ∀{tbl:List (Str×α)},qt4 P tbl->∀g t,luS tbl g=some t->P g t
 | [],_,g,t,e=>by simp[luS] at e
 | (k,u)::r,h,g,t,e=>by
  by_cases c:k=g
  ·have:luS ((k,u)::r) g=some u:=by simp[luS,List.find?_cons,c]
   rw[this] at e; cases e
   rw[<-c]; exact h.1
  ·have:luS ((k,u)::r) g=luS r g:=by simp[luS,List.find?_cons,c]
   rw[this] at e
   exact qnM h.2 g t e
section
variable {P:Program} {w:World} {K:PySem.W.Frag} {mg:Str->Option Value} {base:Heap} {G:Gam} {C:Str->Addr} {x:Str} {ps:List Str} {j k:Nat} {fS:List T->Rs Sl} {fQ:List T->Sl->Rs (Sl×Sl)}
theorem KnQ.up (h:KnQ P w K mg base G C x ps j fQ) (l:j<=k): ∃ps,KnQ P w K mg base G C x ps k fQ:=by
 obtain ⟨f,fd,F,r⟩:=h
 exact ⟨ps,f,fd,F.mono l,r⟩
end
end PL
end
section
namespace K94
open PySem L2
def top (i:Nat):Stmt:=PySem.Challenge.pw_rowasks_k94_whole_stretches_and_asks.main.body.getD i (.Pass ⟨0,0,0,0⟩)
abbrev qsf:Stmt:=top 10
abbrev qsl:Stmt:=top 11
abbrev qsd:Stmt:=top 12
abbrev qr9:Stmt:=top 13
abbrev qr8:Stmt:=top 14
abbrev qr7:Stmt:=top 15
abbrev qsc:Stmt:=top 16
abbrev s_0:Stmt:=top 17
abbrev s_6:Stmt:=top 18
abbrev s_1:Stmt:=top 19
abbrev s_3:Stmt:=top 20
abbrev qrd:Stmt:=top 24
abbrev quo:Stmt:=top 25
abbrev qur:Stmt:=top 26
abbrev qun:Stmt:=top 27
abbrev quq:Stmt:=top 28
abbrev qup:Stmt:=top 29
abbrev qum:Stmt:=top 30
abbrev quv:Stmt:=top 32
abbrev quu:Stmt:=top 31
abbrev qsb:Stmt:=top 33
abbrev qut:Stmt:=top 34
abbrev qus:Stmt:=top 35
abbrev qsa:Stmt:=top 39
abbrev qr6:Stmt:=top 40
abbrev s_2:Stmt:=top 41
abbrev qsk:Stmt:=top 42
abbrev s_7:Stmt:=top 43
abbrev qr2:Stmt:=top 44
abbrev qr5:Stmt:=top 49
abbrev s_5:Stmt:=top 48
abbrev qnC:Stmt:=top 47
abbrev qrf:Stmt:=top 50
abbrev qr4:Stmt:=top 51
abbrev s_8:Stmt:=top 54
abbrev qrg:Stmt:=top 53
abbrev qre:Stmt:=top 55
abbrev qr3:Stmt:=top 56
abbrev qsi:Stmt:=top 58
abbrev qsh:Stmt:=top 59
abbrev qse:Stmt:=top 60
abbrev qsj:Stmt:=top 61
abbrev qsg:Stmt:=top 62
abbrev qf8:Stmt:=top 63
end K94
end
section
namespace K94
open PySem L2 RH PL
def qgK (ns:List Int) (k:Int):Int:=if k<(ns.length:Int) then ns.getD k.toNat 0 else if ns=[] then 0 else ns.getD (k % (ns.length:Int)).toNat 0*31+k
def qgB (ns:List Int) (k:Int):Int:=(qgK ns k+6151*(k+1))*40692 % 2147483399
def qi6 (ns:List Int) (k many:Int):Int:=(qgB ns k*qgB ns k+qgB ns k / 31) % 2147483629 % many
theorem qmt {ns:List Int} {k many:Int} (h:0<many):0<=qi6 ns k many:=Int.emod_nonneg _ (by omega)
theorem qmu {ns:List Int} {k many:Int} (h:0<many):qi6 ns k many<many:=Int.emod_lt_of_pos _ h
def qn4 (K:PySem.W.Frag) (H:Hp) (a:Addr) (ns:List Int):Prop:=SqL K H a (ns.map V.int)/\ns.length<=63
def qnA (K:PySem.W.Frag):Sp:=λvs H Q _=> ∃a ns k,vs=[.ref a,.int k]/\qn4 K H a ns/\0<=k/\k<1000000/\∀H',qnt H H'->Q (.int (qgK ns k)) H'
def qnz (K:PySem.W.Frag):Sp:=λvs H Q _=> ∃a ns k many,vs=[.ref a,.int k,.int many]/\qn4 K H a ns/\0<=k/\k<1000000/\0<many/\∀H',qnt H H'->Q (.int (qi6 ns k many)) H'
theorem qlP {ns:List Int} {k:Int} (h0:0<=k) (h1:k<(ns.length:Int)):atI (ns.map V.int) k=some (.int (ns.getD k.toNat 0)):=by
 obtain ⟨j,rfl⟩: ∃j:Nat,k=j:=⟨k.toNat,by omega⟩
 refine qlO ?_
 rw[List.getElem?_map,Int.toNat_natCast,List.getD_eq_getElem?_getD,List.getElem?_eq_getElem (by omega)]
 rfl
section
variable {P:Program} {w:World} {K:PySem.W.Frag} {mg:Str->Option Value} {base:Heap}
theorem qpX:qau ["_law_script", "_law_k"] ["_law_script", "_law_k"] (qae qsi):=by trivial
theorem qoD {f:Addr} {fd:FuncData} (F:Fun K "_law_cell" "_law_cell" qsi f fd) (n1:mg "len" =none):qbo P w K mg base CX0 1 f fd ["_law_script", "_law_k"] (qnA K):=by
 refine F.ok qpX (λvs H Q E h=> ?_) (λcdv A outer s H vs Q E hr h=> ?_)
 ·obtain ⟨a,ns,k,rfl,_⟩:=h
  rfl
 ·obtain ⟨a,ns,k,rfl,hS,h0,hb,q⟩:=h
  refine ⟨_,qef (qoq (qev qsy (pv 1) (qaz qiL rfl n1 PySem.boot_len (qao (pv 0) qaF)) (qnL _)) (qew (qdm (qmw (qin K rfl) (pv 0) (pv 1) (λ_ _=>rfl)))) qha)
   (qef (qoq (qev (qhf hr.units0) (pv 0) (qnI qaF) (qnL _)) (qew (qdm qdp)) qha)
   (qew (qdm (qdo qgl (qdo qd3 (qmw (qin K rfl) (pv 0) (qdo qgk (pv 1) (qaz qiL rfl n1 PySem.boot_len (qao (pv 0) qaF))) (λ_ _=>rfl)) qdp) (pv 1))))),?_⟩
  refine ⟨_,rfl,_,rfl,_,_,rfl,.inl ⟨_,hS.1,rfl⟩,_,_,rfl,rfl,_,rfl,?_⟩
  have len:((ns.map V.int).length:Int)=(ns.length:Int):=by rw[List.length_map]
  by_cases c1:k<(ns.length:Int)
  ·refine qqM (by rw[len]; exact decide_eq_true c1) ?_
   refine ⟨_,rfl,_,rfl,a,_,k,_,rfl,rfl,hS.1,qlP h0 c1,?_⟩
   have e:qgK ns k=ns.getD k.toNat 0:=by unfold qgK; rw[if_pos c1]
   rw[<-e]
   exact q H (qnt.refl H)
  ·refine qqN (by rw[len]; exact decide_eq_false c1) ?_
   refine ⟨_,rfl,Nat.zero_le _,λp hp=> ?_⟩
   have s1:qnt H (upd H p (.lst [])):=qmh hp
   refine ⟨a,p,_,_,rfl,rfl,s1.seq hS.1,SqL.of qak,?_⟩
   by_cases c2:ns=[]
   ·subst c2
    refine .inr ⟨rfl,λ_=>true,λi x y hx=>by simp at hx,_,rfl,?_⟩
    refine qqM rfl ?_
    have e:qgK [] k=0:=by unfold qgK; rw[if_neg c1,if_pos rfl]
    have q':=q _ s1
    rw[e] at q'
    exact q'
   ·have hpos:0<ns.length:=List.length_pos_iff.mpr c2
    refine .inl ⟨by simpa using c2,_,rfl,?_⟩
    refine qqN rfl ?_
    have hm0:0<=k % (ns.length:Int):=Int.emod_nonneg _ (by omega)
    have hm1:k % (ns.length:Int)<(ns.length:Int):=Int.emod_lt_of_pos _ (by omega)
    refine ⟨_,rfl,_,rfl,_,rfl,_,_,rfl,.inl ⟨_,s1.seq hS.1,rfl⟩,_,_,rfl,rfl,by rw[len]; omega,a,_,_,_,rfl,rfl,s1.seq hS.1,by rw[len]; exact qlP hm0 hm1,_,_,rfl,rfl,.inr ⟨by decide,by decide⟩,_,rfl,_,_,rfl,rfl,?_⟩
    have e:qgK ns k=ns.getD (k % (ns.length:Int)).toNat 0*31+k:=by unfold qgK; rw[if_neg c1,if_neg c2]
    have q':=q _ s1
    rw[e] at q'
    exact q'
theorem qnB:qau ["_law_script", "_law_k", "_law_many", "_law_drawn"] ["_law_script", "_law_k", "_law_many"] (qae qsh):=by trivial
theorem qoC {f fC:Addr} {fd fdC:FuncData} (F:Fun K "_law_pick" "_law_pick" qsh f fd) (GC:qbo P w K mg base CX0 1 fC fdC ["_law_script", "_law_k"] (qnA K)) (mC:mg "_law_cell" =some (.ref fC)) (kC:PySem.W.keepIn K (.ref fC)=true) (bC:qdZ K fdC ["_law_script", "_law_k"] []):
  qbo P w K mg base CX0 2 f fd ["_law_script", "_law_k", "_law_many"] (qnz K):=by
 refine F.ok qnB (λvs H Q E h=> ?_) (λcdv A outer s H vs Q E hr h=> ?_)
 ·obtain ⟨a,ns,k,many,rfl,_⟩:=h
  rfl
 ·obtain ⟨a,ns,k,many,rfl,hS,h0,hb,hm,q⟩:=h
  refine ⟨_,qef (qfi (i:=3) qnB.nd rfl (Or.inl rfl) (qdo qgk (qdo qd3 (qdo qgl (qey GC hr rfl mC kC bC .nil qsw (qao (pv 0) (qao (pv 1) qaF))) (qdo qd3 qdp (qdo qgl (pv 1) qdp))) qdp) qdp))
   (qew (qdm (qdo qgk (qdo qgk (qdo qgl (qdo qd3 (pv 3) (pv 3)) (qdo qkx (pv 3) qdp)) qdp) (pv 2)))),?_⟩
  refine ⟨_,rfl,_,rfl,a,ns,k,rfl,hS,h0,hb,λH1 s1=> ?_⟩
  refine ⟨_,rfl,_,_,rfl,rfl,_,_,rfl,rfl,.inl ⟨by decide,by decide⟩,_,_,rfl,rfl,_,_,rfl,rfl,.inr ⟨by decide,by decide⟩,_,_,rfl,rfl,(show (0:Int)<2147483399 by decide),?_⟩
  have d0:0<=qgB ns k:=Int.emod_nonneg _ (by decide)
  have d1:qgB ns k<2147483399:=Int.emod_lt_of_pos _ (by decide)
  refine ⟨_,rfl,_,rfl,_,_,rfl,rfl,.inl ⟨?_,?_⟩,_,rfl,_,_,rfl,rfl,⟨by decide,by decide⟩,_,_,rfl,rfl,_,_,rfl,rfl,(show (0:Int)<2147483629 by decide),_,rfl,_,_,rfl,rfl,hm,q H1 s1⟩
  ·exact Int.lt_of_lt_of_le (by decide) d0
  ·exact Int.lt_trans d1 (by decide)
end
def qep:List T->Rs T
 | [.scr ns,.int k,.int many]=>if (0<=k/\k<1000000)/\0<many/\ns.length<=63 then .ok (.int (qi6 ns k many)) else .no
 | _=>.no
theorem qoO {P:Program} {w:World} {K:PySem.W.Frag} {mg:Str->Option Value} {base:Heap} {G:Gam} {C:Str->Addr} {f:Addr} {fd:FuncData} (F:qbo P w K mg base CX0 2 f fd ["_law_script", "_law_k", "_law_many"] (qnz K)) (m:mg "_law_pick" =some (.ref f))
  (k:PySem.W.keepIn K (.ref f)=true) (b:qdZ K fd ["_law_script", "_law_k", "_law_many"] []):Kn P w K mg base G C "_law_pick" ["_law_script", "_law_k", "_law_many"] 2 qep:=by
 refine ⟨f,fd,F.imp λvs H Q E h=> ?_,m,k,b⟩
 obtain ⟨B,ts,le,bt,gm,r,w⟩:=h
 unfold qep at w
 split at w
 ·rename_i ns k many
  split at w
  ·rename_i hc
   obtain ⟨v1,r1,rfl,a1,b1⟩:=r.inv
   obtain ⟨v2,r2,rfl,a2,b2⟩:=b1.inv
   obtain ⟨v3,r3,rfl,a3,b3⟩:=b2.inv
   cases b3.inv0
   unfold Rep at a1
   obtain ⟨p,rfl,sq⟩:=a1
   cases qas a2
   cases qas a3
   refine ⟨p,ns,k,many,rfl,⟨le.sqL sq,hc.2.2⟩,hc.1.1,hc.1.2,hc.2.1,λH' sm=> ?_⟩
   exact w _ H' B ⟨⟨λa o e _=>sm a o e,λa e z=>by
    cases q:H a with
    | none=>exact e q
    | some o=>rw[sm a o q] at z; cases z⟩,.refl _,λa o e=>sm a o (le a o e),bt,λ_ _ _ _ _=>rfl⟩ (G.st H H' (λa o e _ _ _ _=>sm a o e) gm) qbk
  ·exact w.elim
 ·exact w.elim
end K94
end
section
namespace PL
open SR
section
variable {α:Type} {k:α->Int}
theorem qfh {p:α->Bool} {l:List α} (h:Ris k l):Ris k (l.filter p):=List.Pairwise.filter p h
end
end PL
end
section
namespace PL
open PySem L2 SetL SR
theorem qok {c:Nat} (h:97<=c/\c<=122):gLe (.str "a") (.str ⟨#[c]⟩)= .ok (.bl true)/\gLe (.str ⟨#[c]⟩) (.str "z")= .ok (.bl true):=by
 have e1:("a" :Str).cps.toList=[97]:=by decide
 have e2:("z" :Str).cps.toList=[122]:=by decide
 have n1: ¬([c]:List Nat)<[97]:=by
  rw[List.cons_lt_cons_iff]
  rintro (h1 | ⟨_,h2⟩)
  ·lia
  ·exact absurd h2 (List.not_lt_nil _)
 have n2: ¬([122]:List Nat)<[c]:=by
  rw[List.cons_lt_cons_iff]
  rintro (h1 | ⟨_,h2⟩)
  ·lia
  ·exact absurd h2 (List.not_lt_nil _)
 constructor
 ·show Rs.ok (T.bl (!decide (([c]:List Nat)<("a" :Str).cps.toList)))=_
  rw[e1,decide_eq_false n1]
  rfl
 ·show Rs.ok (T.bl (!decide (("z" :Str).cps.toList<([c]:List Nat))))=_
  rw[e2,decide_eq_false n2]
  rfl
theorem row0 (r:Row):gIx (qbz r) (.int 0)= .ok (.int r.1):=rfl
theorem qux (r:Row):gIx (qbz r) (.int 1)= .ok (.str r.2.1):=rfl
theorem quw (r:Row):gIx (qbz r) (.int 2)= .ok (.int r.2.2):=rfl
theorem qiO {α:Type} (g:α->Bool) (xs:List α):qjM (true,xs.map λx=>T.bl (g x))= .ok (.bl (xs.all g)):=by
 have y:(xs.map λx=>T.bl (g x)).all qmX=true:=by rw[List.all_map,List.all_eq_true]; intro _ _; rfl
 have z:(xs.map λx=>T.bl (g x)).all qlN=xs.all g:=by rw[List.all_map]; rfl
 unfold qjM
 rw[if_pos ⟨rfl,y⟩,z]
def qe4 (rs:List Row):Bool:=(rs.zip (rs.drop 1)).all λp=>decide (p.1.1<=p.2.1)
theorem qtU (ts:List T):qpB ts (some 1) none=ts.drop 1:=by
 unfold qpB
 have e:HT.sIx ts.length 0 (some 1)=min 1 ts.length:=HT.sIx_nat ts.length 0 1
 rw[e,HT.sIx_none]
 cases ts with
 | nil=>rfl
 | cons a l=>
  rw[show min 1 (a::l).length=1 by simp]
  rw[List.take_of_length_le (by simp)]
theorem qlZ (as bs:List Row):qnv (as.map qbz) (bs.map qbz)=(as.zip bs).map λp=>T.tup [qbz p.1,qbz p.2]:=by
 unfold qnv
 rw[List.zip_map,List.map_map]
 rfl
structure Log (rs:List Row):Prop where
 ok: ∀r∈rs,qke r
 log:qe4 rs=true
theorem qje {ss:List Str} (h:ss.length<64):qkO (true,ss.map T.str)= .ok ((qmU ss).map T.str):=by
 have y:(ss.map T.str).all qkZ=true:=by rw[List.all_map,List.all_eq_true]; intro _ _; rfl
 have z:(ss.map T.str).map qff=ss:=by rw[List.map_map]; simp[Function.comp_def,qff]
 unfold qkO
 rw[if_pos ⟨⟨rfl,by rw[List.length_map]; exact h⟩,y⟩,z]
def qcm (rs:List Row):List Str:=qmU (rs.map λr=>r.2.1)
def qar (rs:List Row) (k:Str):List Row:=rs.filter λr=>r.2.1==k
def qdw:Str:= "abcdefghijklmnopqrstuvwxyz"
theorem qjc: ∀i:Nat,i<26->qdw.cps.toList[i]? =some (97+i):=by decide+kernel
theorem qhk:qdw.length=26:=by decide+kernel
theorem qgp {i:Int} (h0:0<=i) (h1:i<26):gIx (.str qdw) (.int i)= .ok (.str ⟨#[97+i.toNat]⟩):=by
 obtain ⟨j,rfl⟩: ∃j:Nat,i=j:=⟨i.toNat,by lia⟩
 show (if qdw.length<=1000 then (match atI qdw.cps.toList (j:Int) with | some c=>Rs.ok (T.str ⟨#[c]⟩) | none=>.no) else .no)=_
 rw[qhk,if_pos (by decide),qlO (qjc j (by lia))]
 rfl
theorem qqI {i:Int} (h0:0<=i) (h1:i<26):qdy ⟨#[97+i.toNat]⟩:=by
 refine ⟨⟨Nat.le_refl 1,by show 1<=2; decide⟩,λc hc=> ?_⟩
 have:c=97+i.toNat:=by simpa using hc
 lia
theorem qqH {i j:Int} (h0:0<=i) (h1:i<26) (h2:0<=j) (h3:j<26):qdy ((⟨#[97+i.toNat]⟩:Str)++⟨#[97+j.toNat]⟩):=by
 have e:((⟨#[97+i.toNat]⟩:Str)++⟨#[97+j.toNat]⟩)=⟨#[97+i.toNat,97+j.toNat]⟩:=rfl
 rw[e]
 refine ⟨⟨by show 1<=2; decide,Nat.le_refl 2⟩,λc hc=> ?_⟩
 have:c=97+i.toNat\/c=97+j.toNat:=by simpa using hc
 lia
theorem qkR:qdy "a" /\qdy "b" /\qdy "ab" :=by
 refine ⟨⟨by decide,λc hc=> ?_⟩,⟨by decide,λc hc=> ?_⟩,⟨by decide,λc hc=> ?_⟩⟩<;>(revert c; decide)
theorem qjh {rs:List Row} {r:Row} (h:qe4 rs=true) (hr: ∀q∈rs,q.1<=r.1):qe4 (rs++[r])=true:=by
 unfold qe4 at h⊢
 rw[List.all_eq_true] at h⊢
 intro p hp
 obtain ⟨i,hi,e⟩:=List.mem_iff_getElem.mp hp
 rw[List.getElem_zip] at e
 have hi':i+1<(rs++[r]).length:=by simp at hi⊢; lia
 rw[List.getElem_drop] at e
 subst e
 refine decide_eq_true ?_
 simp at hi'
 by_cases c:i+1<rs.length
 ·have hm:(rs[i],rs[i+1])∈rs.zip (rs.drop 1):=by
   refine List.mem_iff_getElem.mpr ⟨i,by simp; lia,?_⟩
   rw[List.getElem_zip,List.getElem_drop]
   simp[Nat.add_comm]
  have:=of_decide_eq_true (h _ hm)
  simp only[Nat.add_comm 1 i]
  rw[List.getElem_append_left (by lia),List.getElem_append_left c]
  exact this
 ·have e1:i+1=rs.length:=by lia
  simp only[Nat.add_comm 1 i]
  rw[List.getElem_append_left (by lia),List.getElem_append_right (by lia)]
  simp[e1]
  exact hr _ (List.getElem_mem _)
abbrev mo:Row->Int:=λr=>r.1
theorem qeC: ∀rs:List Row,qe4 rs=true↔Ris mo rs
 | []=>⟨λ_=>List.Pairwise.nil,λ_=>rfl⟩
 | [a]=>⟨λ_=>List.pairwise_singleton _ _,λ_=>rfl⟩
 | a::b::l=>by
  have ih:=qeC (b::l)
  have e:qe4 (a::b::l)=(decide (a.1<=b.1)&&qe4 (b::l)):=rfl
  rw[e,Bool.and_eq_true,ih,decide_eq_true_iff]
  constructor
  ·rintro ⟨h1,h2⟩
   refine List.pairwise_cons.mpr ⟨λy hy=> ?_,h2⟩
   rcases List.mem_cons.mp hy with rfl | hy
   ·exact h1
   ·exact Int.le_trans h1 ((List.pairwise_cons.mp h2).1 y hy)
  ·intro h
   have h':=List.pairwise_cons.mp h
   exact ⟨h'.1 b List.mem_cons_self,h'.2⟩
theorem Log.ris {rs:List Row} (h:Log rs):Ris mo rs:=(qeC rs).mp h.log
theorem Log.filter {rs:List Row} (h:Log rs) (p:Row->Bool):Log (rs.filter p):=⟨λr hr=>h.ok r (List.mem_filter.mp hr).1,(qeC _).mpr (qfh h.ris)⟩
theorem qoJ {t:T} (h:okT 8 t=true):gNe t t= .ok (.bl false):=by unfold gNe; rw[if_pos ⟨h,h⟩,qdH 8 t h]; rfl
theorem qfm (rs:List Row):(qcm rs).Nodup:=by
 have:List.Perm (qcm rs) (dd (rs.map λr=>r.2.1)):=qbt _
 exact this.nodup_iff.mpr (qdt _)
theorem qcO {rs:List Row} {k:Str}:k∈qcm rs↔∃r∈rs,r.2.1=k:=by
 have:List.Perm (qcm rs) (dd (rs.map λr=>r.2.1)):=qbt _
 rw[this.mem_iff,qig,List.mem_map]
theorem qfk: ∀(ks:List Str) (rs:List Row),ks.Nodup->(∀r∈rs,r.2.1∈ks)->List.Perm (ks.flatMap λk=>qar rs k) rs
 | [],rs,_,h=>by
  cases rs with
  | nil=>exact List.Perm.refl _
  | cons r rs=>exact absurd (h r List.mem_cons_self) (by simp)
 | k::ks,rs,nd,h=>by
  have nd':=List.nodup_cons.mp nd
  have ih:=qfk ks (rs.filter λr=> !(r.2.1==k)) nd'.2 (λr hr=>by
   have hr':=List.mem_filter.mp hr
   rcases List.mem_cons.mp (h r hr'.1) with z | z
   ·have:=hr'.2; rw[z] at this; simp at this
   ·exact z)
  have e:(ks.flatMap λk'=>qar (rs.filter λr=> !(r.2.1==k)) k')=ks.flatMap λk'=>qar rs k':=by
   rw[List.flatMap_def,List.flatMap_def]
   refine congrArg List.flatten (List.map_congr_left λk' hk'=> ?_)
   unfold qar
   rw[List.filter_filter]
   refine List.filter_congr λr _=> ?_
   by_cases c:r.2.1=k'
   ·have:r.2.1≠k:=λz=>nd'.1 (by rw[<-z,c]; exact hk')
    simp[c] at this⊢
    exact this
   ·simp[c]
  rw[List.flatMap_cons,<-e]
  exact (List.Perm.append_left _ ih).trans (List.filter_append_perm (λr:Row=>r.2.1==k) rs)
theorem qkd (rs:List Row):List.Perm ((qcm rs).map (qar rs)).flatten rs:=by
 rw[<-List.flatMap_def]
 exact qfk (qcm rs) rs (qfm rs) λr hr=>qcO.mpr ⟨r,hr,rfl⟩
end PL
end
section
namespace AS
open PySem L2 PL SetL
def qvf:Ro->Rs Out:=qaW (qcp (qbD "int" (dV 0)) (qcS (qbD "bool" (dV 0))))
def t_26:List T->Rs T:=fnT 1 1 qvf
def d_11:Ro->Rs Out:=qaW (qcp (qah t_26 (qab (dV 0) (qan))) (qaI gLe gLe (dV 1) (dV 0) (dV 2)))
def t_11:List T->Rs T:=fnT 3 3 d_11
def d_30:Ro->Rs Out:=qax (dIf (dOr (qck (dTB (qbD "str" (dV 0)))) (qck (dTB (qaI gLe gLe (dC (.int 1)) (qct (dV 0)) (dV 1))))) (qaW (dC (.bl false))) (qav)) (qaW (dCQ qjM (dQF (qat 1 [] (dIS (dV 0)) (gN 0) (qbS) (qaI gLe gLe (dC (.str "a")) (dV 0) (dC (.str "z")))))))
def t_30:List T->Rs T:=fnT 2 2 d_30
def d_34:Ro->Rs Out:=qaW (qah t_30 (qab (dV 0) (qab (dC (.int 2)) (qan))))
def t_34:List T->Rs T:=fnT 1 1 d_34
def d_35:Ro->Rs Out:=qax (dIf (dOr (qck (dTB (qbD "tuple" (dV 0)))) (dTB (dB gNe (qct (dV 0)) (dC (.int 3))))) (qaW (dC (.bl false))) (qav)) (qax (dIf (dOr (qck (dTB (qah t_11 (qab (dB gIx (dV 0) (dC (.int 0))) (qab (dC (.int 0)) (qab (dC (.int 99)) (qan))))))) (qck (dTB (qah t_34 (qab (dB gIx (dV 0) (dC (.int 1))) (qan)))))) (qaW (dC (.bl false))) (qav)) (qaW (qah t_11 (qab (dB gIx (dV 0) (dC (.int 2))) (qab (qbp (dC (.int 99))) (qab (dC (.int 99)) (qan)))))))
def t_35:List T->Rs T:=fnT 1 1 d_35
def d_36:Ro->Rs Out:=qaW (dCQ qjM (dQF (qat 2 [] (dIZ (qab (dV 0) (qab (dFz (qeV (dQV 0) (dOS (dC (.int 1))) (dON))) (qan)))) (gT 2 (gsC (gN 0) (gsC (gN 1) (gsN)))) (qbS) (dB gLe (dB gIx (dV 0) (dC (.int 0))) (dB gIx (dV 1) (dC (.int 0)))))))
def t_36:List T->Rs T:=fnT 1 1 d_36
def d_0:Ro->Rs Out:=dIf (qck (dTB (dCQ qjM (dQF (qat 1 [] (dI (dV 0)) (gN 0) (qbS) (qah t_35 (qab (dV 0) (qan)))))))) (dNo) (qav)
def t_0:List T->Rs T:=fnT 1 1 d_0
def d_6:Ro->Rs Out:=dIf (qck (dTB (qah t_36 (qab (dV 0) (qan))))) (dNo) (qav)
def t_6:List T->Rs T:=fnT 1 1 d_6
def d_1:Ro->Rs Out:=qax (qbQ (qah t_0 (qab (dV 0) (qan)))) (qbQ (qah t_6 (qab (dV 0) (qan))))
def t_1:List T->Rs T:=fnT 1 1 d_1
def qve:Ro->Rs Out:=qeR (qat 1 [1] (dI (dV 0)) (gN 0) (dTB (dB gEq (dB gIx (dV 0) (dC (.int 1))) (dV 1))) (dV 0))
def o_37:List T->Rs Sl:=fnS 2 2 qve
def t_37:List T->Rs T:=qnw o_37
def qu6:Ro->Rs Out:=qeR (qat 1 [1] (dI (dV 0)) (gN 0) (dTB (dB gGt (dB gIx (dV 0) (dC (.int 2))) (dV 1))) (dV 0))
def quP:List T->Rs Sl:=fnS 2 2 qu6
def qu9:Ro->Rs Out:=qeR (qat 1 [1] (dI (dV 0)) (gN 0) (dTB (dB gLt (dB gIx (dV 0) (dC (.int 2))) (dV 1))) (dV 0))
def quR:List T->Rs Sl:=fnS 2 2 qu9
def qu5:Ro->Rs Out:=qeR (qat 3 [1] (dI (dV 0)) (gT 3 (gsC (gN 0) (gsC (gN 1) (gsC (gN 2) (gsN))))) (qbS) (qbq (qab (dV 0) (qab (dV 1) (qab (dB qbx (dV 2) (dV 3)) (qan))))))
def quO:List T->Rs Sl:=fnS 2 2 qu5
def qu8:Ro->Rs Out:=qeR (qat 3 [1] (dI (dV 0)) (gT 3 (gsC (gN 0) (gsC (gN 1) (gsC (gN 2) (gsN))))) (qbS) (qbq (qab (dV 0) (qab (dV 1) (qab (dB qe7 (dV 2) (dV 3)) (qan))))))
def quQ:List T->Rs Sl:=fnS 2 2 qu8
def qu7:Ro->Rs Out:=qax (qby 3 (qeO (dXV 2) (dC (.str "came")) (dC (.int 0)))) (qax (qdX 2 (dC (.str "came")) (dB qbx (dV 3) (qct (dV 0)))) (qeR (qeV (dQV 0) (dON) (dOS (dB2 qta (dB gSub (dV 1) (dV 3)) (dC (.int 0)))))))
def quC:List T->Sl->Rs (Sl×Sl):=fnQ 2 4 qu7
def qu4:Ro->Rs Out:=qax (qby 3 (qeO (dXV 2) (dC (.str "came")) (dC (.int 0)))) (qax (qdX 2 (dC (.str "came")) (dB qoW (dB qbx (dV 3) (qct (dV 0))) (dV 1))) (qeR (qvh (dQV 0) (dOS (dB gSub (dB gSub (dV 1) (dC (.int 1))) (dV 3))) (dON) (dOS (dV 1)))))
def quB:List T->Sl->Rs (Sl×Sl):=fnQ 2 4 qu4
def qvg:Ro->Rs Out:=qaW (dFz (qat 1 [0,1] (dI (dFz (qgE (dXV 1)))) (gN 0) (qbS) (qbq (qab (dB gSub (dB qe7 (dB qbx (dB gIx (dV 0) (dC (.int 0))) (dC (.int 1))) (dV 1)) (dC (.int 1))) (qab (dB gIx (dV 0) (dC (.int 1))) (qab (qcr (dXV 2) (dV 0)) (qan)))))))
def qtA:List T->Rs T:=fnT 2 2 qvg
def qvd:Ro->Rs Out:=λρ=>(qax (qbU 3 (qdg (qan))) (qax (qfb (dI (dV 0)) (gT 3 (gsC (gN 4) (gsC (gN 5) (gsC (gN 6) (gsN))))) (qax (qby 7 (qbq (qab (dB qjL (dV 4) (dV 1)) (qab (dV 5) (qan))))) (qax (dIf (qfZ (dTB (dB gGt (qtn (dXV 2)) (dC (.int 0)))) (dTB (dB gLt (dB gIx (qtm (dXV 2)) (dC (.int 0))) (dB gIx (dV 7) (dC (.int 0)))))) (qax (qfY 3 (dQ (qnZ 2 qtA (qab (dV 1) (qan))))) (qto 2)) (qav)) (qdX 2 (dV 7) (dB qbx (qeO (dXV 2) (dV 7) (dC (.int 0))) (dV 6)))))) (qe9 3))) (qlE 2 ρ)
def quF:List T->Sl->Rs (Sl×Sl):=fnQ 2 8 qvd
def d_32:Ro->Rs Out:=qax (qbU 2 (qdg (qan))) (qax (qfb (dI (dV 0)) (gT 3 (gsC (gN 3) (gsC (gN 4) (gsC (gN 5) (gsN))))) (qax (qdX 1 (dV 4) (dB qbx (qeO (dXV 1) (dV 4) (dC (.int 0))) (dV 5))) (qdY 2 (qbq (qab (dV 3) (qab (dV 4) (qab (qcr (dXV 1) (dV 4)) (qan)))))))) (qe9 2))
def q_32:List T->Sl->Rs (Sl×Sl):=fnQ 1 6 d_32
def qvc:Ro->Rs Out:=qax (qbU 2 (qdg (qan))) (qax (qfb (dI (dV 0)) (gT 3 (gsC (gN 3) (gsC (gN 4) (gsC (gN 5) (gsN))))) (qax (dIf (dTB (qnj false (dV 4) (dXV 1))) (qdY 2 (qbq (qab (dV 3) (qab (dV 4) (qab (dB gSub (dV 5) (qcr (dXV 1) (dV 4))) (qan)))))) (qav)) (qdX 1 (dV 4) (dV 5)))) (qe9 2))
def quE:List T->Sl->Rs (Sl×Sl):=fnQ 1 6 qvc
def qvb:Ro->Rs Out:=qax (qbU 2 (qdg (qan))) (qax (qfb (dI (dV 0)) (gT 3 (gsC (gN 3) (gsC (gN 4) (gsC (gN 5) (gsN))))) (qax (dIf (dOr (dTB (qnj true (dV 4) (dXV 1))) (dTB (dB gNe (qcr (dXV 1) (dV 4)) (dV 5)))) (qdY 2 (qbq (qab (dV 3) (qab (dV 4) (qab (dV 5) (qan)))))) (qav)) (qdX 1 (dV 4) (dV 5)))) (qe9 2))
def quD:List T->Sl->Rs (Sl×Sl):=fnQ 1 6 qvb
def d_33:Ro->Rs Out:=qax (dIf (dOr (qck (dTB (qbD "tuple" (dV 0)))) (dOr (dTB (dB gEq (qct (dV 0)) (dC (.int 0)))) (qck (dTB (qbD "str" (dB gIx (dV 0) (dC (.int 0)))))))) (qaW (dC (.bl false))) (qav)) (qax (qby 1 (dB gIx (dV 0) (dC (.int 0)))) (qax (dIf (dTB (qdL [(("running" :Str),("running" :Str)),(("change" :Str),("change" :Str)),(("unlike" :Str),("unlike" :Str))] (dV 1))) (qaW (dB gEq (qct (dV 0)) (dC (.int 1)))) (qav)) (qax (dIf (dTB (dB gNe (qct (dV 0)) (dC (.int 2)))) (qaW (dC (.bl false))) (qav)) (qax (dIf (dTB (dB gEq (dV 1) (dC (.str "key")))) (qaW (qah t_34 (qab (dB gIx (dV 0) (dC (.int 1))) (qan)))) (qav)) (qax (dIf (dTB (qdL [(("over" :Str),("over" :Str)),(("under" :Str),("under" :Str)),(("plus" :Str),("plus" :Str)),(("times" :Str),("times" :Str))] (dV 1))) (qaW (qah t_11 (qab (dB gIx (dV 0) (dC (.int 1))) (qab (qbp (dC (.int 20))) (qab (dC (.int 20)) (qan)))))) (qav)) (qaW (qcp (qdL [(("first" :Str),("first" :Str)),(("each" :Str),("each" :Str)),(("window" :Str),("window" :Str))] (dV 1)) (qah t_11 (qab (dB gIx (dV 0) (dC (.int 1))) (qab (dC (.int 1)) (qab (dC (.int 20)) (qan))))))))))))
def t_33:List T->Rs T:=fnT 1 2 d_33
def d_41:Ro->Rs Out:=qax (dIf (dOr (qck (dTB (qbD "tuple" (dV 0)))) (dTB (dB gGt (qct (dV 0)) (dC (.int 5))))) (qaW (dC (.bl false))) (qav)) (qaW (dCQ qjM (dQF (qat 1 [] (dI (dV 0)) (gN 0) (qbS) (qah t_33 (qab (dV 0) (qan)))))))
def t_41:List T->Rs T:=fnT 1 1 d_41
def d_2:Ro->Rs Out:=dIf (qck (dTB (qah t_41 (qab (dV 0) (qan))))) (dNo) (qav)
def t_2:List T->Rs T:=fnT 1 1 d_2
def d_18:Ro->Rs Out:=qax (qby 3 (dB gIx (dV 0) (dC (.int 0)))) (qax (dIf (dTB (dB gEq (dV 3) (dC (.str "key")))) (qlB (qab (dV 1) (qab (dB gIx (dV 0) (dC (.int 1))) (qan))) o_37) (qav)) (qax (dIf (dTB (qdL [(("over" :Str),("over" :Str)),(("under" :Str),("under" :Str)),(("plus" :Str),("plus" :Str)),(("times" :Str),("times" :Str))] (dV 3))) (qax (qby 4 (qeP [(("over" :Str),("over" :Str)),(("under" :Str),("under" :Str)),(("plus" :Str),("plus" :Str)),(("times" :Str),("times" :Str))] (dV 3))) (qtp 4 [(("over" :Str),quP),(("under" :Str),quR),(("plus" :Str),quO),(("times" :Str),quQ)] (qab (dV 1) (qab (dB gIx (dV 0) (dC (.int 1))) (qan))))) (qav)) (qax (dIf (dTB (qdL [(("first" :Str),("first" :Str)),(("each" :Str),("each" :Str)),(("window" :Str),("window" :Str))] (dV 3))) (qax (qby 4 (qeP [(("first" :Str),("first" :Str)),(("each" :Str),("each" :Str)),(("window" :Str),("window" :Str))] (dV 3))) (qlC 4 2 [(("first" :Str),quC),(("each" :Str),quB),(("window" :Str),quF)] (qab (dV 1) (qab (dB gIx (dV 0) (dC (.int 1))) (qan))))) (qav)) (qax (qby 4 (qeP [(("running" :Str),("running" :Str)),(("change" :Str),("change" :Str)),(("unlike" :Str),("unlike" :Str))] (dV 3))) (qlC 4 2 [(("running" :Str),q_32),(("change" :Str),quE),(("unlike" :Str),quD)] (qab (dV 1) (qan)))))))
def q_18:List T->Sl->Rs (Sl×Sl):=fnQ 2 5 d_18
def d_7:Ro->Rs Out:=qax (qlA 3 2 (qab (dV 0) (qab (dV 1) (qan))) q_18) (qax (dIf (dTB (dB gEq (dB gIx (dV 0) (dC (.int 0))) (dC (.str "window")))) (qeR (qvi (dQV 3) (dQ (qnZ 2 qtA (qab (dB gIx (dV 0) (dC (.int 1))) (qan)))))) (qav)) (qe9 3))
def q_7:List T->Sl->Rs (Sl×Sl):=fnQ 2 4 d_7
def d_48:Ro->Rs Out:=qax (qbQ (qah t_2 (qab (dV 0) (qan)))) (qax (qbQ (qah t_1 (qab (dV 1) (qan)))) (qax (qbU 2 (qek qbK (dQV 1))) (qax (qfb (dI (dV 0)) (gN 3) ((λρ=>(qnk 2 (qab (dV 3) (qab (dV 2) (qan))) (λts=>q_7 ts (.od [])>>=λr=>.ok r.1)) (frz 2 ρ)))) (qe9 2))))
def o_48:List T->Rs Sl:=fnS 2 4 d_48
def t_48:List T->Rs T:=qnw o_48
end AS
end
section
namespace K94
open PySem L2 PL SetL
section
variable {P:Program} {w:World} {K:PySem.W.Frag} {mg:Str->Option Value} {base:Heap} {G:Gam} {C:Str->Addr}
abbrev qhj:Pos:=⟨155,28,155,68⟩
abbrev qeu:Str:= "stretches.<locals>.<lambda>"
abbrev lq:List (Pos×Str):=[(qhj,qeu)]
abbrev gL (T_22:Addr):Gam:=qe6 [(T_22,qhj,qeu)]
theorem qrX:qau ["thing"] ["thing"] (qae qsf):=by trivial
def t_26:List T->Rs T:=AS.t_26
theorem qrZ:qau ["thing", "least", "greatest"] ["thing", "least", "greatest"] (qae qsl):=by trivial
def d_11:Ro->Rs Out:=AS.d_11
def t_11:List T->Rs T:=AS.t_11
theorem qrU:qau ["thing", "longest"] ["thing", "longest"] (qae qsd):=by trivial
def d_30:Ro->Rs Out:=AS.d_30
def t_30:List T->Rs T:=AS.t_30
theorem qrS:qau ["thing"] ["thing"] (qae qr9):=by trivial
def d_34:Ro->Rs Out:=AS.d_34
def t_34:List T->Rs T:=AS.t_34
theorem qrR:qau ["thing"] ["thing"] (qae qr8):=by trivial
def d_35:Ro->Rs Out:=AS.d_35
def t_35:List T->Rs T:=AS.t_35
theorem qrQ:qau ["rows"] ["rows"] (qae qr7):=by trivial
def d_36:Ro->Rs Out:=AS.d_36
def t_36:List T->Rs T:=AS.t_36
theorem qrT:qau ["rows"] ["rows"] (qae qsc):=by trivial
def qtQ:Ro->Rs Out:=qaW (dFz (qek qkO (dQF (qat 1 [] (dI (dV 0)) (gN 0) (qbS) (dB gIx (dV 0) (dC (.int 1)))))))
def qpI:List T->Rs T:=fnT 1 1 qtQ
theorem qul:qau ["rows"] ["rows"] (qae s_0):=by trivial
def d_0:Ro->Rs Out:=AS.d_0
def t_0:List T->Rs T:=AS.t_0
theorem quh:qau ["rows"] ["rows"] (qae s_6):=by trivial
def d_6:Ro->Rs Out:=AS.d_6
def t_6:List T->Rs T:=AS.t_6
theorem quk:qau ["rows"] ["rows"] (qae s_1):=by trivial
def d_1:Ro->Rs Out:=AS.d_1
def t_1:List T->Rs T:=AS.t_1
theorem qui:qau ["thing", "greatest"] ["thing", "greatest"] (qae s_3):=by trivial
def d_3:Ro->Rs Out:=dIf (qck (dTB (qah t_11 (qab (dV 0) (qab (dC (.int 0)) (qab (dV 1) (qan))))))) (dNo) (qav)
def t_3:List T->Rs T:=fnT 2 2 d_3
theorem qrP:qau ["rows", "key"] ["rows", "key"] (qae qrd):=by trivial
def o_37:List T->Rs Sl:=AS.o_37
def t_37:List T->Rs T:=AS.t_37
theorem qkb:qau ["rows", "sums", "made", "moment", "key", "number"] ["rows", "sums"] (qae qsb):=by trivial
def d_32:Ro->Rs Out:=AS.d_32
def q_32:List T->Sl->Rs (Sl×Sl):=AS.q_32
theorem qpW:qau ["thing", "word"] ["thing"] (qae qsa):=by trivial
def d_33:Ro->Rs Out:=qax (dIf (dOr (qck (dTB (qbD "tuple" (dV 0)))) (dOr (dTB (dB gEq (qct (dV 0)) (dC (.int 0)))) (qck (dTB (qbD "str" (dB gIx (dV 0) (dC (.int 0)))))))) (qaW (dC (.bl false))) (qav)) (qax (qby 1 (dB gIx (dV 0) (dC (.int 0)))) (qax (dIf (dTB (qdL [(("running" :Str),("running" :Str)),(("change" :Str),("change" :Str)),(("unlike" :Str),("unlike" :Str))] (dV 1))) (qaW (dB gEq (qct (dV 0)) (dC (.int 1)))) (qav)) (qax (dIf (dTB (dB gNe (qct (dV 0)) (dC (.int 2)))) (qaW (dC (.bl false))) (qav)) (qax (dIf (dTB (dB gEq (dV 1) (dC (.str "key")))) (qaW (qah t_34 (qab (dB gIx (dV 0) (dC (.int 1))) (qan)))) (qav)) dNo))))
def t_33:List T->Rs T:=fnT 1 2 d_33
theorem qrO:qau ["thing"] ["thing"] (qae qr6):=by trivial
def d_41:Ro->Rs Out:=qax (dIf (dOr (qck (dTB (qbD "tuple" (dV 0)))) (dTB (dB gGt (qct (dV 0)) (dC (.int 5))))) (qaW (dC (.bl false))) (qav)) (qaW (dCQ qjM (dQF (qat 1 [] (dI (dV 0)) (gN 0) (qbS) (qah t_33 (qab (dV 0) (qan)))))))
def t_41:List T->Rs T:=fnT 1 1 d_41
theorem quj:qau ["ask"] ["ask"] (qae s_2):=by trivial
def d_2:Ro->Rs Out:=dIf (qck (dTB (qah t_41 (qab (dV 0) (qan))))) (dNo) (qav)
def t_2:List T->Rs T:=fnT 1 1 d_2
theorem qom:qau ["step", "rows", "kept", "word", "make"] ["step", "rows", "kept"] (qae qsk):=by trivial
def d_18:Ro->Rs Out:=qax (qby 3 (dB gIx (dV 0) (dC (.int 0)))) (qax (dIf (dTB (dB gEq (dV 3) (dC (.str "key")))) (qlB (qab (dV 1) (qab (dB gIx (dV 0) (dC (.int 1))) (qan))) o_37) (qav)) (qax (dIf (dTB (qdL [(("over" :Str),("over" :Str)),(("under" :Str),("under" :Str)),(("plus" :Str),("plus" :Str)),(("times" :Str),("times" :Str))] (dV 3))) (dNo) (qav)) (qax (dIf (dTB (qdL [(("first" :Str),("first" :Str)),(("each" :Str),("each" :Str)),(("window" :Str),("window" :Str))] (dV 3))) (dNo) (qav)) (qax (qby 4 (qeP [(("running" :Str),("running" :Str)),(("change" :Str),("change" :Str)),(("unlike" :Str),("unlike" :Str))] (dV 3))) (qlC 4 2 [(("running" :Str),q_32)] (qab (dV 1) (qan)))))))
def q_18:List T->Sl->Rs (Sl×Sl):=fnQ 2 5 d_18
theorem qtC:qau ["step", "rows", "kept", "made"] ["step", "rows", "kept"] (qae s_7):=by trivial
def d_7:Ro->Rs Out:=qax (qlA 3 2 (qab (dV 0) (qab (dV 1) (qan))) q_18) (qax (dIf (dTB (dB gEq (dB gIx (dV 0) (dC (.int 0))) (dC (.str "window")))) (dNo) (qav)) (qe9 3))
def q_7:List T->Sl->Rs (Sl×Sl):=fnQ 2 4 d_7
theorem qme:qau ["ask", "rows", "told", "step"] ["ask", "rows"] (qae qr2):=by trivial
def d_48:Ro->Rs Out:=qax (qbQ (qah t_2 (qab (dV 0) (qan)))) (qax (qbQ (qah t_1 (qab (dV 1) (qan)))) (qax (qbU 2 (qek qbK (dQV 1))) (qax (qfb (dI (dV 0)) (gN 3) ((λρ=>(qnk 2 (qab (dV 3) (qab (dV 2) (qan))) (λts=>q_7 ts (.od [])>>=λr=>.ok r.1)) (frz 2 ρ)))) (qe9 2))))
def o_48:List T->Rs Sl:=fnS 2 4 d_48
def t_48:List T->Rs T:=qnw o_48
theorem qrN:qau ["stretch", "moment", "number"] ["stretch", "moment", "number"] (qae qr5):=by trivial
def qtP:Ro->Rs Out:=qaW (qbq (qab (dB gIx (dV 0) (dC (.int 0))) (qab (dB gIx (dV 0) (dC (.int 1))) (qab (dV 1) (qab (dB qbx (dB gIx (dV 0) (dC (.int 3))) (dC (.int 1))) (qab (dB qbx (dB gIx (dV 0) (dC (.int 4))) (dV 2)) (qan)))))))
def qps:List T->Rs T:=fnT 3 3 qtP
theorem qpU:qau ["rows", "gap", "told", "moment", "key", "number"] ["rows", "gap"] (qae s_5):=by trivial
def d_5:Ro->Rs Out:=qax (qbU 2 (qdg (qan))) (qax (qfb (dI (dV 0)) (gT 3 (gsC (gN 3) (gsC (gN 4) (gsC (gN 5) (gsN))))) (dIf (qfZ (dTB (dB gGt (dCQ qfl (dQV 2)) (dC (.int 0)))) (dTB (dB gLe (dB gSub (dV 3) (dB gIx (qfU (dQV 2) (qbp (dC (.int 1)))) (dC (.int 2)))) (dV 1)))) (qrr 2 (qbp (dC (.int 1))) (qah qps (qab (qfU (dQV 2) (qbp (dC (.int 1)))) (qab (dV 3) (qab (dV 5) (qan)))))) (qdY 2 (qbq (qab (dV 4) (qab (dV 3) (qab (dV 3) (qab (dC (.int 1)) (qab (dV 5) (qan)))))))))) ((λρ=>(qaW (dV 2)) (frz 2 ρ))))
def t_5:List T->Rs T:=fnT 2 6 d_5
theorem qol:qau ["rows", "gap", "told", "key"] ["rows", "gap"] (qae qnC):=by trivial
def qtT:Ro->Rs Out:=qax (qbQ (qah t_1 (qab (dV 0) (qan)))) (qax (qbQ (qah t_3 (qab (dV 1) (qab (dC (.int 99)) (qan))))) (qax (qbU 2 (qdg (qan))) (qax (qfb (dI (qah qpI (qab (dV 0) (qan)))) (gN 3) (qfY 2 (dQ (qah t_5 (qab (qah t_37 (qab (dV 0) (qab (dV 3) (qan)))) (qab (dV 1) (qan))))))) (qaW (dFz (qek (qc1 1 0) (dQV 2)))))))
def qjP:List T->Rs T:=fnT 2 4 qtT
theorem qrW:qau ["rows", "gap", "moment"] ["rows", "gap", "moment"] (qae qrf):=by trivial
def qtR:Ro->Rs Out:=qaW (dFz (qek qi0 (dQF (qat 1 [2,1] (dI (qah qjP (qab (dV 0) (qab (dV 1) (qan))))) (gN 0) (dTB (qaI gLe gLe (dB gIx (dV 0) (dC (.int 1))) (dV 1) (dB qbx (dB gIx (dV 0) (dC (.int 2))) (dV 2)))) (dB gIx (dV 0) (dC (.int 0)))))))
def qjI:List T->Rs T:=fnT 3 3 qtR
theorem qpV:qau ["rows", "key", "moments"] ["rows", "key"] (qae qr4):=by trivial
def qtO:Ro->Rs Out:=qax (qbQ (qah t_1 (qab (dV 0) (qan)))) (qax (qby 2 (dFz (qat 1 [] (dI (qah t_37 (qab (dV 0) (qab (dV 1) (qan))))) (gN 0) (qbS) (dB gIx (dV 0) (dC (.int 0)))))) (qaW (dFz (qat 2 [] (dIZ (qab (dV 2) (qab (dFz (qeV (dQV 2) (dOS (dC (.int 1))) (dON))) (qan)))) (gT 2 (gsC (gN 0) (gsC (gN 1) (gsN)))) (qbS) (dB gSub (dV 1) (dV 0))))))
def qiU:List T->Rs T:=fnT 2 3 qtO
theorem qug:qau ["one", "other"] ["one", "other"] (qae s_8):=by trivial
def d_8:Ro->Rs Out:=qaW (qbq (qab (dB qbx (dB gIx (dV 0) (dC (.int 0))) (dB gIx (dV 1) (dC (.int 0)))) (qab (dB qbx (dB gIx (dV 0) (dC (.int 1))) (dB gIx (dV 1) (dC (.int 1)))) (qab (dB2 qqS (dB gIx (dV 0) (dC (.int 2))) (dB gIx (dV 1) (dC (.int 2)))) (qab (dB2 qta (dB gIx (dV 0) (dC (.int 3))) (dB gIx (dV 1) (dC (.int 3)))) (qan))))))
def t_8:List T->Rs T:=fnT 2 2 d_8
theorem qmg:qau ["lines", "parts", "line", "place"] ["lines"] (qae qrg):=by trivial
def qrq:Ro->Rs Out:=qax (qq5 1) ((λρ=>(qax (qfb (dI (dV 0)) (gN 2) (qax (qby 3 (qeQ (dV 2) (dON) (dOS (dC (.int 2))))) (qdX 1 (dV 3) (qfa (dTB (qnj false (dV 3) (dXV 1))) (qah t_8 (qab (qcr (dXV 1) (dV 3)) (qab (qeQ (dV 2) (dOS (dC (.int 2))) (dON)) (qan)))) (qeQ (dV 2) (dOS (dC (.int 2))) (dON)))))) ((λρ=>(qaW (dCQ qbr (dQF (qat 1 [1] (dI (dFz (qgE (dXV 1)))) (gN 0) (qbS) (dB qbx (dV 0) (qcr (dXV 1) (dV 0))))))) (frzX 1 ρ)))) (qlE 1 ρ)))
def qlV:List T->Rs T:=fnT 1 4 qrq
theorem qrV:qau ["size", "rows"] ["size", "rows"] (qae qre):=by trivial
def qrp:Ro->Rs Out:=qax (qbQ (qah t_0 (qab (dV 1) (qan)))) (qaW (qbq (qab (dV 0) (qab (qah qlV (qab (dFz (qat 3 [0] (dI (dV 1)) (gT 3 (gsC (gN 0) (gsC (gN 1) (gsC (gN 2) (gsN))))) (qbS) (qbq (qab (dB qjL (dV 0) (dV 3)) (qab (dV 1) (qab (dC (.int 1)) (qab (dV 2) (qab (dV 2) (qab (dV 2) (qan)))))))))) (qan))) (qan)))))
def qpJ:List T->Rs T:=fnT 2 2 qrp
theorem qrM:qau ["table"] ["table"] (qae qr3):=by trivial
def qva:Ro->Rs Out:=qaW (dFz (qat 1 [] (dI (qah qlV (qab (dFz (qat 1 [] (dI (dB gIx (dV 0) (dC (.int 1)))) (gN 0) (qbS) (dB qbx (qbq (qab (dC (.int 0)) (qan))) (qeQ (dV 0) (dOS (dC (.int 1))) (dON))))) (qan)))) (gN 0) (qbS) (qeQ (dV 0) (dOS (dC (.int 1))) (dON))))
def qpH:List T->Rs T:=fnT 1 1 qva
theorem qmf:qau ["_law_script", "_law_at", "_law_letters", "_law_way", "_law_key_here"] ["_law_script", "_law_at"] (qae qse):=by trivial
def qro:Ro->Rs Out:=qax (qby 2 (dC (.str "abcdefghijklmnopqrstuvwxyz"))) (qax (qby 3 (qah qep (qab (dV 0) (qab (dV 1) (qab (dC (.int 16)) (qan)))))) (qax (dIf (dTB (dB gGt (dV 3) (dC (.int 0)))) (qaW (dB gIx (dFz (qdg (qab (dC (.str "a")) (qab (dC (.str "b")) (qab (dC (.str "ab")) (qan)))))) (dB qoW (dV 3) (dC (.int 3))))) (qav)) (qax (qby 4 (dB gIx (dV 2) (qah qep (qab (dV 0) (qab (dB qbx (dV 1) (dC (.int 1))) (qab (dC (.int 26)) (qan))))))) (qax (dIf (dTB (dB gEq (qah qep (qab (dV 0) (qab (dB qbx (dV 1) (dC (.int 2))) (qab (dC (.int 2)) (qan))))) (dC (.int 0)))) (qaW (dV 4)) (qav)) (qaW (dB qbx (dV 4) (dB gIx (dV 2) (qah qep (qab (dV 0) (qab (dB qbx (dV 1) (dC (.int 3))) (qab (dC (.int 26)) (qan))))))))))))
def qny:List T->Rs T:=fnT 2 5 qro
theorem qrY:qau ["_law_script", "_law_at", "_law_most"] ["_law_script", "_law_at", "_law_most"] (qae qsj):=by trivial
def qtl:Ro->Rs Out:=qax (dIf (dTB (dB gEq (qah qep (qab (dV 0) (qab (dV 1) (qab (dC (.int 8)) (qan))))) (dC (.int 0)))) (qaW (dB gSub (qah qep (qab (dV 0) (qab (dB qbx (dV 1) (dC (.int 1))) (qab (dB qbx (dB qe7 (dC (.int 2)) (dV 2)) (dC (.int 1))) (qan))))) (dV 2))) (qav)) (qaW (dB gSub (qah qep (qab (dV 0) (qab (dB qbx (dV 1) (dC (.int 1))) (qab (dC (.int 9)) (qan))))) (dC (.int 4))))
def qoc:List T->Rs T:=fnT 3 3 qtl
theorem qg7:qau ["_law_script", "_law_at", "_law_most", "_law_made", "_law_moment", "_law_far", "_law_k", "_law_base"] ["_law_script", "_law_at", "_law_most"] (qae qsg):=by trivial
def qtS:Ro->Rs Out:=qax (qbU 3 (qdg (qan))) (qax (qby 4 (qah qep (qab (dV 0) (qab (dV 1) (qab (dC (.int 9)) (qan)))))) (qax (qby 5 (dB gIx (dFz (qdg (qab (dC (.int 1)) (qab (dC (.int 3)) (qab (dC (.int 6)) (qab (dC (.int 14)) (qan))))))) (qah qep (qab (dV 0) (qab (dB qbx (dV 1) (dC (.int 1))) (qab (dC (.int 4)) (qan))))))) (qax (qfb (qgF (qab (qah qep (qab (dV 0) (qab (dB qbx (dV 1) (dC (.int 2))) (qab (dB qbx (dV 2) (dC (.int 1))) (qan))))) (qan))) (gN 6) (qax (qby 7 (dB qbx (dB qbx (dV 1) (dC (.int 10))) (dB qe7 (dC (.int 8)) (dV 6)))) (qax (qby 4 (dB2 qqS (dC (.int 99)) (dB qbx (dV 4) (qah qep (qab (dV 0) (qab (dV 7) (qab (dV 5) (qan)))))))) (qdY 3 (qbq (qab (dV 4) (qab (qah qny (qab (dV 0) (qab (dB qbx (dV 7) (dC (.int 1))) (qan)))) (qab (qah qoc (qab (dV 0) (qab (dB qbx (dV 7) (dC (.int 5))) (qab (dC (.int 99)) (qan))))) (qan))))))))) ((λρ=>(qaW (dV 3)) (frz 3 ρ))))))
def qpt:List T->Rs T:=fnT 3 8 qtS
theorem qbI:qau ["_law_script", "_law_rows_here", "_law_gap", "_law_some", "_law_key_here", "_law_many", "_law_total", "_law_least", "_law_most", "_law_own", "_law_mine", "_law_name", "_law_first", "_law_last", "_law_count", "_law_here", "_law_part"] ["_law_script"] (qae qf8):=by trivial
def qni:Ro->Rs Out:=qax (qcH (gT 2 (gsC (gN 1) (gsC (gN 2) (gsN)))) (qbq (qab (qah qpt (qab (dV 0) (qab (dC (.int 100)) (qab (dC (.int 12)) (qan))))) (qab (qah qep (qab (dV 0) (qab (dC (.int 0)) (qab (dC (.int 9)) (qan))))) (qan))))) (qax (qby 3 (qah qjP (qab (dV 1) (qab (dV 2) (qan))))) (qax (qfb (dI (qah qpH (qab (qah qpJ (qab (dB qbx (dC (.int 1)) (qah qep (qab (dV 0) (qab (dC (.int 1)) (qab (dC (.int 20)) (qan)))))) (qab (dV 1) (qan)))) (qan)))) (gT 5 (gsC (gN 4) (gsC (gN 5) (gsC (gN 6) (gsC (gN 7) (gsC (gN 8) (gsN))))))) (qax (qby 9 (qah t_48 (qab (qbq (qab (qbq (qab (dC (.str "key")) (qab (dV 4) (qan)))) (qan))) (qab (dV 1) (qan))))) (qax (qby 10 (dFz (qat 1 [4] (dI (dV 3)) (gN 0) (dTB (dB gEq (dB gIx (dV 0) (dC (.int 0))) (dV 1))) (dV 0)))) (qax (dIf (dOr (dTB (dB gNe (qah qjP (qab (dV 9) (qab (dV 2) (qan)))) (dV 10))) (dTB (dB gNe (dCQ qfe (dQF (qat 1 [] (dI (dV 10)) (gN 0) (qbS) (dB gIx (dV 0) (dC (.int 3)))))) (dV 5)))) (qaW (dC (.bl false))) (qav)) (qax (dIf (dOr (dTB (dB gNe (dCQ qfe (dQF (qat 1 [] (dI (dV 10)) (gN 0) (qbS) (dB gIx (dV 0) (dC (.int 4)))))) (dV 6))) (dTB (dB gNe (dB gIx (dB gIx (qah t_48 (qab (qbq (qab (qbq (qab (dC (.str "running")) (qan))) (qan))) (qab (dV 9) (qan)))) (qbp (dC (.int 1)))) (dC (.int 2))) (dV 6)))) (qaW (dC (.bl false))) (qav)) (qax (dIf (dTB (dB gNe (qct (dV 10)) (dB qbx (dC (.int 1)) (dCQ qfl (dQF (qat 1 [2] (dI (qah qiU (qab (dV 1) (qab (dV 4) (qan))))) (gN 0) (dTB (dB gGt (dV 0) (dV 1))) (dC (.int 1)))))))) (qaW (dC (.bl false))) (qav)) (qax (dIf (dTB (dB gNe (dCQ qfe (dQ (qah qiU (qab (dV 1) (qab (dV 4) (qan)))))) (dB gSub (dB gIx (dB gIx (dV 10) (qbp (dC (.int 1)))) (dC (.int 2))) (dB gIx (dB gIx (dV 10) (dC (.int 0))) (dC (.int 1)))))) (qaW (dC (.bl false))) (qav)) (qfb (dI (dV 10)) (gT 5 (gsC (gN 11) (gsC (gN 12) (gsC (gN 13) (gsC (gN 14) (gsC (gN 15) (gsN))))))) (qax (qby 16 (dFz (qat 1 [12,13] (dI (dV 9)) (gN 0) (dTB (qaI gLe gLe (dV 1) (dB gIx (dV 0) (dC (.int 0))) (dV 2))) (dV 0)))) (qax (dIf (dOr (dTB (dB gNe (qct (dV 16)) (dV 14))) (dOr (dTB (dB gNe (dCQ qfe (dQF (qat 1 [] (dI (dV 16)) (gN 0) (qbS) (dB gIx (dV 0) (dC (.int 2)))))) (dV 15))) (qck (dTB (qaI gLe gLe (dB qe7 (dV 7) (dV 14)) (dV 15) (dB qe7 (dV 8) (dV 14))))))) (qaW (dC (.bl false))) (qav)) (dIf (dOr (dTB (dIn true (dV 4) (dQ (qah qjI (qab (dV 1) (qab (dV 2) (qab (dB qbx (dV 13) (dV 2)) (qan)))))))) (dTB (dIn true (dV 4) (dQ (qah qjI (qab (dV 1) (qab (dV 2) (qab (dV 12) (qan))))))))) (qaW (dC (.bl false))) (qav)))))))))))) (qaW (dB gEq (dFz (qat 1 [1] (dI (dV 3)) (gN 0) (dTB (dIn true (dB gIx (dV 0) (dC (.int 0))) (dQF (qat 1 [] (dI (dV 1)) (gN 0) (qbS) (dB gIx (dV 0) (dC (.int 1))))))) (dB gIx (dV 0) (dC (.int 0))))) (dFz (qdg (qan)))))))
def t_law:List T->Rs T:=fnT 1 17 qni
end
end K94
end
section
namespace AS
open PySem L2 PL SetL SR
theorem qaB {d e:Ro->Rs Out} {ρ ρ':Ro} {r:Rs Out} (h:d ρ= .ok (.nx ρ')) (h2:e ρ'=r):qax d e ρ=r:=by
 unfold qax; rw[h]; exact h2
theorem qjo (i:Int):t_26 [.int i]= .ok (.bl true):=rfl
theorem e_within (i a b:Int):t_11 [.int i,.int a,.int b]= .ok (.bl (decide (a<=i)&&decide (i<=b))):=by
 unfold t_11 d_11
 simp only[fnT,List.length_cons,List.length_nil,Nat.reduceAdd,qaW,qcp,dTB,qah,qab,dV,List.map_cons,List.map_nil,Nat.reduceSub,List.replicate,List.append_nil,List.getElem?_cons_zero,qan,qaj,qjo,qaI,List.getElem?_cons_succ,qcA,if_true]
 by_cases h:a<=i
 ·simp[h]; rfl
 ·simp[h]; rfl
theorem qlm {x:Str} (h:qdy x):t_30 [.str x,.int 2]= .ok (.bl true):=by
 have l1:(1:Int)<=(x.length:Int):=by have:=h.1.1; lia
 have l2:(x.length:Int)<=2:=by have:=h.1.2; lia
 have l3:x.length<=1000:=by have:=h.1.2; lia
 have cm:qat 1 [] (dIS (dV 0)) (gN 0) qbS (qaI gLe gLe (dC (T.str "a")) (dV 0) (dC (T.str "z"))) [.fz (.str x),.fz (.int 2)]= .ok ((x.cps.toList.filter λ_=>true).map λ_=>T.bl true):=by
  refine qbR (f:=λc=>T.str ⟨#[c]⟩) ?_ λc hc=>⟨rfl,λ_=> ?_⟩
  ·show (if x.length<=1000 then _ else _)=_
   rw[if_pos l3]
  ·have:=qok (h.2 c hc)
   unfold qaI
   simp only[dC,dV,qaj,List.getElem?_cons_zero,this.1,this.2,if_true]
 unfold t_30 d_30
 have i1:qhp "str" (.str x)= .ok (.bl true):=rfl
 simp only[fnT,List.length_cons,List.length_nil,Nat.reduceAdd,qax,dIf,dOr,qck,dTB,qbD,dV,List.map_cons,List.map_nil,Nat.reduceSub,List.replicate,List.append_nil,List.getElem?_cons_zero,qaj,i1,Bool.not_true,qaI,dC,qct,qb6,l3,if_true,List.getElem?_cons_succ,qcA,l2,decide_true,l1,Bool.false_eq_true,if_false,qaW,qav,qbH,dCQ,dQF,cm,qjM]
 have y: ∀l:List Nat,(l.map λ_=>T.bl true).all qmX=true/\(l.map λ_=>T.bl true).all qlN=true:=λl=>by constructor<;>(rw[List.all_map,List.all_eq_true]; intro _ _; rfl)
 rw[qbX,(y _).1,(y _).2]
 simp only[true_and,if_true,qaj]
 rfl
theorem e_is_key {x:Str} (h:qdy x):t_34 [.str x]= .ok (.bl true):=by
 unfold t_34 d_34
 simp only[fnT,List.length_cons,List.length_nil,Nat.reduceAdd,qaW,qah,qab,dV,List.map_cons,List.map_nil,Nat.reduceSub,List.replicate,List.append_nil,List.getElem?_cons_zero,dC,qan,qaj,qlm h,outT,if_true]
theorem qm8 {r:Row} (h:qke r):t_35 [qbz r]= .ok (.bl true):=by
 obtain ⟨⟨h1,h2⟩,hk,h3,h4⟩:=h
 have i1:qhp "tuple" (qbz r)= .ok (.bl true):=rfl
 have i2:qpy (qbz r)= .ok (.int 3):=rfl
 have i3:gNe (.int 3) (.int 3)= .ok (.bl false):=rfl
 have w1:=e_within r.1 0 99
 have w2:=e_within r.2.2 (-99) 99
 rw[decide_eq_true h1,decide_eq_true h2] at w1
 rw[decide_eq_true h3,decide_eq_true h4] at w2
 unfold t_35 d_35
 simp only[fnT,List.length_cons,List.length_nil,Nat.reduceAdd,qax,dIf,dOr,qck,dTB,qbD,dV,List.map_cons,List.map_nil,Nat.reduceSub,List.replicate,List.append_nil,List.getElem?_cons_zero,qaj,i1,Bool.not_true,dB,qct,i2,dC,i3,Bool.false_eq_true,if_false,qaW,qav,qbH,qah,qab,qan,qbp,qb4,row0,w1,Bool.and_self,qux,e_is_key hk,quw,w2,outT,if_true]
theorem qm9 (rs:List Row):t_36 [qaC rs]= .ok (.bl (qe4 rs)):=by
 have cm:qat 2 [] (dIZ (qab (dV 0) (qab (dFz (qeV (dQV 0) (dOS (dC (T.int 1))) dON)) qan))) (gT 2 (gsC (gN 0) (gsC (gN 1) gsN))) qbS (dB gLe (dB gIx (dV 0) (dC (T.int 0))) (dB gIx (dV 1) (dC (T.int 0)))) [.fz (qaC rs)]= .ok (((rs.zip (rs.drop 1)).filter λ_=>true).map λp=>T.bl (decide (p.1.1<=p.2.1))):=by
  refine qnY (a:=λp:Row×Row=>qbz p.1) (b:=λp=>qbz p.2) ?_ λp hp=>⟨rfl,λ_=>rfl⟩
  unfold qaC
  simp only[dIZ,qab,dV,dFz,qeV,dQV,dOS,dC,dON,qan,qg6,qaj,List.getElem?_cons_zero,if_true,qtU,ql0]
  rw[<-List.map_drop,qlZ]
 unfold t_36 d_36
 simp only[fnT,List.length_cons,List.length_nil,Nat.reduceAdd,qaW,dCQ,dQF,List.map_cons,List.map_nil,Nat.reduceSub,List.replicate,List.append_nil,cm,qbX,qaj,qiO,outT,if_true]
 rfl
theorem e_refuse_row {rs:List Row} (h: ∀r∈rs,qke r):t_0 [qaC rs]= .ok .non:=by
 have cm:qat 1 [] (dI (dV 0)) (gN 0) qbS (qah t_35 (qab (dV 0) qan)) [.fz (qaC rs)]= .ok ((rs.filter λ_=>true).map λ_=>T.bl true):=by
  refine qbR (f:=qbz) rfl λr hr=>⟨rfl,λ_=> ?_⟩
  simp only[qah,qab,dV,List.map_nil,List.getElem?_cons_zero,qan,qaj,qm8 (h r hr)]
 unfold t_0 d_0
 simp only[fnT,List.length_cons,List.length_nil,Nat.reduceAdd,dIf,qck,dTB,dCQ,dQF,List.map_cons,List.map_nil,Nat.reduceSub,List.replicate,List.append_nil,cm,qbX,qaj,qiO,qav,if_true]
 have y:(rs.all λ_=>true)=true:=by rw[List.all_eq_true]; intro _ _; rfl
 rw[y]; rfl
theorem qe8 {rs:List Row} (h:qe4 rs=true):t_6 [qaC rs]= .ok .non:=by
 unfold t_6 d_6
 simp only[fnT,List.length_cons,List.length_nil,Nat.reduceAdd,dIf,qck,dTB,qah,qab,dV,List.map_cons,List.map_nil,Nat.reduceSub,List.replicate,List.append_nil,List.getElem?_cons_zero,qan,qaj,qm9,h,Bool.not_true,qav,Bool.false_eq_true,if_false,outT,if_true]
theorem e_refuse_log {rs:List Row} (h:Log rs):t_1 [qaC rs]= .ok .non:=by
 unfold t_1 d_1
 simp only[fnT,List.length_cons,List.length_nil,Nat.reduceAdd,qax,qbQ,qah,qab,dV,List.map_cons,List.map_nil,Nat.reduceSub,List.replicate,List.append_nil,List.getElem?_cons_zero,qan,qaj,e_refuse_row h.ok,qbH,qe8 h.log,outT,if_true]
theorem qd5 {κ:Type} [DecidableEq κ] (k k':κ) (t:T): ∀kvs:List (κ×T),((kvs.map λkv=>if kv.1=k then (kv.1,t) else kv).find? λkv=>decide (kv.1=k')).map (·.2)=
  if k=k' then (if (kvs.any λkv=>decide (kv.1=k))=true then some t else none) else (kvs.find? λkv=>decide (kv.1=k')).map (·.2)
 | []=>by simp
 | p::kvs=>by
  have ih:=qd5 k k' t kvs
  rw[List.map_cons,List.find?_cons,List.find?_cons,List.any_cons]
  by_cases c:p.1=k
  ·rw[if_pos c]
   by_cases d:k=k'
   ·have:p.1=k':=c.trans d
    simp[this,d]
   ·have: ¬p.1=k':=λz=>d (c.symm.trans z)
    rw[decide_eq_false this]
    simp only[d,if_false] at ih⊢
    exact ih
  ·rw[if_neg c,decide_eq_false c,Bool.false_or]
   by_cases e:p.1=k'
   ·have: ¬k=k':=λz=>c (e.trans z.symm)
    rw[decide_eq_true e]
    simp[this]
   ·rw[decide_eq_false e]
    exact ih
theorem ql3 (kvs:List (Key×T)) (k k':Key) (t:T):qjG (qgZ kvs k t) k'=if k=k' then some t else qjG kvs k':=by
 unfold qjG qgZ
 by_cases c:(kvs.any λkv=>decide (kv.1=k))=true
 ·rw[if_pos c,qd5,if_pos c]
 ·rw[if_neg c,List.find?_append]
  by_cases d:k=k'
  ·subst d
   have:(kvs.find? λkv=>decide (kv.1=k))=none:=by
    rw[List.find?_eq_none]
    intro p hp z
    exact c (List.any_eq_true.mpr ⟨p,hp,z⟩)
   rw[this]; simp
  ·rw[if_neg d]
   cases e:kvs.find? λkv=>decide (kv.1=k') with
   | some p=>rfl
   | none=>simp[d]
theorem qmO (kvs:List (Key×T)) (k:Key) (t:T):(qgZ kvs k t).length<=kvs.length+1:=by
 unfold qgZ
 split
 ·rw[List.length_map]; omega
 ·simp
theorem q_37 (rs:List Row) (k:Str):o_37 [qaC rs,.str k]= .ok (.ow ((qar rs k).map qbz)):=by
 have cm:qat 1 [1] (dI (dV 0)) (gN 0) (dTB (dB gEq (dB gIx (dV 0) (dC (.int 1))) (dV 1))) (dV 0) [.fz (qaC rs),.fz (.str k)]= .ok ((rs.filter λr=>r.2.1==k).map qbz):=
  qbR (f:=qbz) rfl λr hr=>⟨rfl,λ_=>rfl⟩
 show (qeR _ [.fz (qaC rs),.fz (.str k)]>>=qsx)=_
 unfold qeR
 rw[cm]
 rfl
end AS
end
section
namespace AS
open PySem L2 PL SetL SR
def qmd {β:Type} (f:Str->β) (k:Str) (x:β):Str->β:=λj=>if j=k then x else f j
def qes:(Str->Option Int)->List Row->List Row
 | _,[]=>[]
 | f,r::rs=>(r.1,r.2.1,(f r.2.1).getD 0+r.2.2)::qes (qmd f r.2.1 (some ((f r.2.1).getD 0+r.2.2))) rs
def Agr (D:List (Key×T)) (f:Str->Option Int):Prop:= ∀k,qjG D (.inr k)=(f k).map T.int
theorem Agr.nil:Agr [] (λ_=>none):=λ_=>rfl
theorem Agr.put {D:List (Key×T)} {f:Str->Option Int} (h:Agr D f) (k:Str) (x:Int):Agr (qgZ D (.inr k) (.int x)) (qmd f k (some x)):=λj=>by
 rw[ql3]
 unfold qmd
 by_cases c:j=k
 ·subst c; rw[if_pos rfl,if_pos rfl]; rfl
 ·rw[if_neg (λz=>c (by simpa using z.symm)),if_neg c]
  exact h j
theorem Agr.get2 {D:List (Key×T)} {f:Str->Option Int} (h:Agr D f) (k:Str):qij (.pd D) (.str k) (.int 0)= .ok (.int ((f k).getD 0)):=by
 show Rs.ok ((qjG D (.inr k)).getD (.int 0))=_
 rw[h k]
 cases f k<;>rfl
theorem Agr.get {D:List (Key×T)} {f:Str->Option Int} (h:Agr D f) {k:Str} {x:Int} (e:f k=some x):qmM (.pd D) (.str k)= .ok (.int x):=by
 show (match some (qjG D (.inr k)) with | some (some t)=>Rs.ok t | _=>.no)=_
 rw[h k,e]
 rfl
theorem qoo {ρ:Ro} {i:Nat} {D:List (Key×T)} {k:Str} {t:T} (h:D.length<=1000):qqa ρ i (.pd D) (.str k) t= .ok (.nx (ρ.set i (.pd (qgZ D (.inr k) t)))):=by
 unfold qqa
 rw[if_pos (show qrl (.pd D)<=1000 from h)]
 rfl
abbrev qtL (i j k:Nat):T->Ro->Rs Ro:=gT 3 (gsC (gN i) (gsC (gN j) (gsC (gN k) (gsN))))
theorem qpo {ρ:Ro} {i:Nat} {acc:List Row} {x:Row} {da:Ro->Rs T} (h:ρ[i]? =some (.ow (acc.map qbz))) (hx:da ρ= .ok (qbz x)) (hl:acc.length<=900):qdY i da ρ= .ok (.nx (ρ.set i (.ow ((acc++[x]).map qbz)))):=by
 unfold qdY qe3
 rw[h]
 simp only[qaj,hx]
 unfold qbn
 rw[h]
 have:(acc.map qbz).length+[qbz x].length<=1000:=by rw[List.length_map,List.length_singleton]; omega
 simp only[this,if_true,List.map_append,List.map_cons,List.map_nil]
theorem qhV (x0:Sl): ∀(rs:List Row) (D:List (Key×T)) (f:Str->Option Int) (acc:List Row) (s3 s4 s5:Sl),Agr D f->D.length+rs.length<=900->acc.length+rs.length<=900->∃D' s3' s4' s5',
  qg0 (qtL 3 4 5) (qax (qdX 1 (dV 4) (dB qbx (qeO (dXV 1) (dV 4) (dC (.int 0))) (dV 5))) (qdY 2 (qbq (qab (dV 3) (qab (dV 4) (qab (qcr (dXV 1) (dV 4)) (qan))))))) (rs.map qbz) [x0,.pd D,.ow (acc.map qbz),s3,s4,s5]= .ok (.nx [x0,.pd D',.ow ((acc++qes f rs).map qbz),s3',s4',s5'])
 | [],D,f,acc,s3,s4,s5,_,_,_=>⟨D,s3,s4,s5,by rw[show acc++qes f []=acc by simp[qes]]; rfl⟩
 | r::rs,D,f,acc,s3,s4,s5,h,hd,ha=>by
  rw[List.length_cons] at hd ha
  have l3:(3:Nat)<=1000:=by decide
  have h':=h.put r.2.1 ((f r.2.1).getD 0+r.2.2)
  have lp:=qmO D (.inr r.2.1) (.int ((f r.2.1).getD 0+r.2.2))
  obtain ⟨D',t3,t4,t5,ih⟩:=qhV x0 rs (qgZ D (.inr r.2.1) (.int ((f r.2.1).getD 0+r.2.2))) _ (acc++[(r.1,r.2.1,(f r.2.1).getD 0+r.2.2)]) (.fz (.int r.1)) (.fz (.str r.2.1)) (.fz (.int r.2.2)) h' (by omega) (by rw[List.length_append,List.length_singleton]; omega)
  refine ⟨D',t3,t4,t5,?_⟩
  rw[List.map_cons]
  unfold qg0
  have e0:qtL 3 4 5 (qbz r) [x0,.pd D,.ow (acc.map qbz),s3,s4,s5]= .ok [x0,.pd D,.ow (acc.map qbz),.fz (.int r.1),.fz (.str r.2.1),.fz (.int r.2.2)]:=rfl
  have e1:qdX 1 (dV 4) (dB qbx (qeO (dXV 1) (dV 4) (dC (.int 0))) (dV 5)) [x0,.pd D,.ow (acc.map qbz),.fz (.int r.1),.fz (.str r.2.1),.fz (.int r.2.2)]= .ok (.nx [x0,.pd (qgZ D (.inr r.2.1) (.int ((f r.2.1).getD 0+r.2.2))),.ow (acc.map qbz),.fz (.int r.1),.fz (.str r.2.1),.fz (.int r.2.2)]):=by
   show ((qij (.pd D) (.str r.2.1) (.int 0)>>=λy=>qbx y (.int r.2.2))>>=λt=>qqa [x0,.pd D,.ow (acc.map qbz),.fz (.int r.1),.fz (.str r.2.1),.fz (.int r.2.2)] 1 (.pd D) (.str r.2.1) t)=_
   rw[h.get2,qaj,qba,qaj,qoo (by omega)]
   rfl
  have e2:qdY 2 (qbq (qab (dV 3) (qab (dV 4) (qab (qcr (dXV 1) (dV 4)) (qan))))) [x0,.pd (qgZ D (.inr r.2.1) (.int ((f r.2.1).getD 0+r.2.2))),.ow (acc.map qbz),.fz (.int r.1),.fz (.str r.2.1),.fz (.int r.2.2)]= .ok (.nx [x0,.pd (qgZ D (.inr r.2.1) (.int ((f r.2.1).getD 0+r.2.2))),.ow ((acc++[(r.1,r.2.1,(f r.2.1).getD 0+r.2.2)]).map qbz),.fz (.int r.1),.fz (.str r.2.1),.fz (.int r.2.2)]):=by
   have g:=h'.get (k:=r.2.1) (x:=(f r.2.1).getD 0+r.2.2) (by unfold qmd; rw[if_pos rfl])
   refine qpo (x:=(r.1,r.2.1,(f r.2.1).getD 0+r.2.2)) rfl ?_ (by omega)
   show (((qmM (.pd (qgZ D (.inr r.2.1) (.int ((f r.2.1).getD 0+r.2.2)))) (.str r.2.1)>>=λy=>(Rs.ok []>>=λz=>Rs.ok (y::z)))>>=λz=>Rs.ok (T.str r.2.1::z))>>=λz=>Rs.ok (T.int r.1::z))>>=(λxs=>if xs.length<=1000 then Rs.ok (T.tup xs) else .no)=_
   rw[g]
   rfl
  rw[e0,qaj,qaB e1 e2,qaj]
  show qg0 _ _ _ _=_
  rw[ih,List.append_assoc]
  rfl
end AS
end
section
namespace AS
open PySem L2 PL SetL SR
abbrev no:Str->Option Int:=λ_=>none
theorem q_running' {rs:List Row} (h:rs.length<=900): ∃D:List (Key×T),q_32 [qaC rs] (.od [])= .ok (.ow ((qes no rs).map qbz),.od D):=by
 obtain ⟨D',t3,t4,t5,e⟩:=qhV (.fz (qaC rs)) rs [] no [] .no .no .no .nil (by simpa using h) (by simpa using h)
 refine ⟨D',?_⟩
 have e':d_32 [.fz (qaC rs),.pd [],.no,.no,.no,.no]= .ok (.rs (.ow ((qes no rs).map qbz)) [.fz (qaC rs),.pd D',.no,t3,t4,t5]):=by
  unfold d_32
  refine qaB (ρ':=[.fz (qaC rs),.pd [],.ow [],.no,.no,.no]) rfl ?_
  refine qaB (ρ':=[.fz (qaC rs),.pd D',.ow ((qes no rs).map qbz),t3,t4,t5]) ?_ rfl
  exact e
 show (d_32 [.fz (qaC rs),.pd [],.no,.no,.no,.no]>>=qqs 1)=_
 rw[e']
 rfl
end AS
end
section
namespace AS
open PySem L2 PL SetL
open SR (Ris srt qbY qbt qbJ qc2 qcl qa9 qcK qb0 qfF qdF)
abbrev IS:=DH.IS
def qjJ (x y:IS):Bool:=qbW (qkU x) (qkU y)
theorem qee (ks:List IS):qdQ (ks.map isT)=(qa9 qjJ ks).map isT:=by
 unfold qdQ qdj qa9
 rw[qbY (k:=λt=>qbJ qbW ((ks.map isT).map qcP) (qcP t)) (f:=isT) (k':=qbJ qjJ ks)]
 intro b
 unfold qbJ
 rw[List.map_map,List.countP_map]
 rfl
theorem perm_sortA {α:Type} (lt:α->α->Bool) (as:List α):List.Perm (qa9 lt as) as:=qbt _
def plc (s:Int) (r:Row):IS:=(r.1 / s,r.2.1)
def qrH (s:Int) (rs:List Row) (p:IS):Int:=((rs.filter λr=>decide (plc s r=p)).map λr=>r.2.2).sum
end AS
end
section
namespace AS
open PySem L2 PL SetL
open SR (Ris srt qbY qbt qbJ qc2 qcl qa9 qcK qb0 qfF qdF)
def kIS (p:IS):List Key:=[.inl p.1,.inr p.2]
theorem qeB {p q:IS} (h:kIS p=kIS q):p=q:=by
 have h':([.inl p.1,.inr p.2]:List Key)=[.inl q.1,.inr q.2]:=h
 simp at h'
 exact Prod.ext h'.1 h'.2
structure Held (s:Int) (D:List (List Key×T)) (B:List Row):Prop where
 nd:(D.map (·.1)).Nodup
 ks: ∀k,k∈D.map (·.1)↔∃r∈B,k=kIS (plc s r)
 vl: ∀p,qf1 D (kIS p)=if p∈B.map (plc s) then some (.int (qrH s B p)) else none
end AS
end
section
namespace K94
open PySem L2 PL SetL SR
theorem qcg {ns:List Int} (hn:ns.length<=63) {k many:Int} (h0:0<=k) (h1:k<1000000) (hm:0<many): ∃v,0<=v/\v<many/\qep [.scr ns,.int k,.int many]= .ok (.int v):=
 ⟨qi6 ns k many,qmt hm,qmu hm,by
  show (if (0<=k/\k<1000000)/\0<many/\ns.length<=63 then Rs.ok (T.int (qi6 ns k many)) else Rs.no)=_
  rw[if_pos ⟨⟨h0,h1⟩,hm,hn⟩]⟩
theorem qte {ns:List Int} (hn:ns.length<=63) {k:Int} (h0:0<=k) (h1:k<900000): ∃x,qdy x/\qny [.scr ns,.int k]= .ok (.str x):=by
 obtain ⟨v,a1,a2,e1⟩:=qcg hn (k:=k) (many:=16) h0 (by lia) (by decide)
 obtain ⟨i,b1,b2,e2⟩:=qcg hn (k:=k+1) (many:=26) (by lia) (by lia) (by decide)
 obtain ⟨u,c1,c2,e3⟩:=qcg hn (k:=k+2) (many:=2) (by lia) (by lia) (by decide)
 obtain ⟨j,d1,d2,e4⟩:=qcg hn (k:=k+3) (many:=26) (by lia) (by lia) (by decide)
 have g1:=qgp b1 b2
 have g2:=qgp d1 d2
 by_cases c:0<v
 ·have m0:0<=v % 3:=Int.emod_nonneg _ (by decide)
  have m1:v % 3<3:=Int.emod_lt_of_pos _ (by decide)
  have g: ∃x,qdy x/\gIx (.lst [.str "a",.str "b",.str "ab"]) (.int (v % 3))= .ok (.str x):=by
   generalize v % 3=m at m0 m1
   have:m=0\/m=1\/m=2:=by lia
   rcases this with rfl | rfl | rfl
   ·exact ⟨_,qkR.1,rfl⟩
   ·exact ⟨_,qkR.2.1,rfl⟩
   ·exact ⟨_,qkR.2.2,rfl⟩
  obtain ⟨x,hx,ex⟩:=g
  refine ⟨x,hx,?_⟩
  have p3:(0:Int)<3:=by decide
  have l3:(3:Nat)<=1000:=by decide
  unfold qny qro
  simp only[fnT,List.length_cons,List.length_nil,Nat.reduceAdd,qax,qby,dC,List.map_cons,List.map_nil,Nat.reduceSub,List.replicate,List.cons_append,List.nil_append,List.set_cons_succ,List.set_cons_zero,qaj,qbH,qah,qab,dV,qan,dIf,dTB,dB,qaW,dFz,qdg,l3,if_true,qav,List.getElem?_cons_zero,List.getElem?_cons_succ,e1,qcB,decide_eq_true c,qbM,p3,ex,outT]
 ·have g1':gIx (.str "abcdefghijklmnopqrstuvwxyz") (.int i)=_:=g1
  have g2':gIx (.str "abcdefghijklmnopqrstuvwxyz") (.int j)=_:=g2
  by_cases c':u=0
  ·refine ⟨_,qqI b1 b2,?_⟩
   subst c'
   unfold qny qro
   simp only[fnT,List.length_cons,List.length_nil,Nat.reduceAdd,qax,qby,dC,List.map_cons,List.map_nil,Nat.reduceSub,List.replicate,List.cons_append,List.nil_append,List.set_cons_succ,List.set_cons_zero,qaj,qbH,qah,qab,dV,qan,dIf,dTB,dB,qaW,dFz,qdg,Nat.reduceLeDiff,if_true,qav,List.getElem?_cons_zero,List.getElem?_cons_succ,e1,qcB,decide_eq_false c,qbM,Bool.false_eq_true,if_false,qba,e2,g1',e3,qcq,beq_self_eq_true,outT]
  ·refine ⟨_,qqH b1 b2 d1 d2,?_⟩
   have n:(u==0)=false:=by simpa using c'
   have ga:qbx (.str ⟨#[97+i.toNat]⟩) (.str ⟨#[97+j.toNat]⟩)= .ok (.str ((⟨#[97+i.toNat]⟩:Str)++⟨#[97+j.toNat]⟩)):=rfl
   unfold qny qro
   simp only[fnT,List.length_cons,List.length_nil,Nat.reduceAdd,qax,qby,dC,List.map_cons,List.map_nil,Nat.reduceSub,List.replicate,List.cons_append,List.nil_append,List.set_cons_succ,List.set_cons_zero,qaj,qbH,qah,qab,dV,qan,dIf,dTB,dB,qaW,dFz,qdg,Nat.reduceLeDiff,if_true,qav,List.getElem?_cons_zero,List.getElem?_cons_succ,e1,qcB,decide_eq_false c,qbM,Bool.false_eq_true,if_false,qba,e2,g1',e3,qcq,n,e4,g2',ga,outT]
theorem qm6 {ns:List Int} (hn:ns.length<=63) {k M:Int} (h0:0<=k) (h1:k<900000) (hM:4<=M/\M<=99): ∃v, -M<=v/\v<=M/\qoc [.scr ns,.int k,.int M]= .ok (.int v):=by
 obtain ⟨v,a1,a2,e1⟩:=qcg hn (k:=k) (many:=8) h0 (by lia) (by decide)
 obtain ⟨i,b1,b2,e2⟩:=qcg hn (k:=k+1) (many:=2*M+1) (by lia) (by lia) (by lia)
 obtain ⟨u,c1,c2,e3⟩:=qcg hn (k:=k+1) (many:=9) (by lia) (by lia) (by decide)
 by_cases c:v=0
 ·subst c
  refine ⟨i - M,by lia,by lia,?_⟩
  have m:((-1000000:Int)<=2/\(2:Int)<=1000000)\/((-1000000:Int)<=M/\(M:Int)<=1000000):=.inl (by decide)
  unfold qoc qtl
  simp only[fnT,List.length_cons,List.length_nil,Nat.reduceAdd,qax,dIf,dTB,dB,qah,qab,dV,List.map_cons,List.map_nil,Nat.reduceSub,List.replicate,List.append_nil,List.getElem?_cons_zero,List.getElem?_cons_succ,dC,qan,qaj,e1,qcq,beq_self_eq_true,qaW,qba,qbA,m,if_true,e2,qbL,qav,qbH,outT]
 ·have n:(v==0)=false:=by simpa using c
  refine ⟨u - 4,by lia,by lia,?_⟩
  unfold qoc qtl
  simp only[fnT,List.length_cons,List.length_nil,Nat.reduceAdd,qax,dIf,dTB,dB,qah,qab,dV,List.map_cons,List.map_nil,Nat.reduceSub,List.replicate,List.append_nil,List.getElem?_cons_zero,List.getElem?_cons_succ,dC,qan,qaj,e1,qcq,n,qaW,qba,qbA,qav,Bool.false_eq_true,if_false,qbH,e3,qbL,outT,if_true]
theorem qqV {ns:List Int} (hn:ns.length<=63) {k most:Int} (h0:0<=k) (h1:k<10000) (hm:0<=most) (hm2:most<=20): ∃rs:List Row,Log rs/\(rs.length:Int)<=most/\qpt [.scr ns,.int k,.int most]= .ok (qaC rs):=by
 obtain ⟨v,a1,a2,e1⟩:=qcg hn (k:=k) (many:=9) h0 (by lia) (by decide)
 obtain ⟨i,b1,b2,e2⟩:=qcg hn (k:=k+1) (many:=4) (by lia) (by lia) (by decide)
 obtain ⟨n,c1,c2,e3⟩:=qcg hn (k:=k+2) (many:=most+1) (by lia) (by lia) (by lia)
 have g: ∃far,0<far/\far<=14/\gIx (.lst [.int 1,.int 3,.int 6,.int 14]) (.int i)= .ok (.int far):=by
  have:i=0\/i=1\/i=2\/i=3:=by lia
  rcases this with rfl | rfl | rfl | rfl
  ·exact ⟨1,by decide,by decide,rfl⟩
  ·exact ⟨3,by decide,by decide,rfl⟩
  ·exact ⟨6,by decide,by decide,rfl⟩
  ·exact ⟨14,by decide,by decide,rfl⟩
 obtain ⟨far,f1,f2,e4⟩:=g
 have l4:(4:Nat)<=1000:=by decide
 have l0:(0:Nat)<=1000:=by decide
 have hr:qkj [.int n]= .ok ((List.range n.toNat).map λj=>T.int (j:Nat)):=by
  show (if n<=1000000/\ -1000000<=n then _ else _)=_
  rw[if_pos ⟨by lia,by lia⟩]
 obtain ⟨ρ',e5,rs,m,s6,s7,er,ok,lg,ln,le,m0,m1⟩:=qei (dg:=gN 6) (f:=λj:Nat=>T.int (j:Nat))
  (db:=qax (qby 7 (dB qbx (dB qbx (dV 1) (dC (T.int 10))) (dB qe7 (dC (T.int 8)) (dV 6)))) (qax (qby 4 (dB2 qqS (dC (T.int 99)) (dB qbx (dV 4) (qah qep (qab (dV 0) (qab (dV 7) (qab (dV 5) qan)))))))
   (qdY 3 (qbq (qab (dV 4) (qab (qah qny (qab (dV 0) (qab (dB qbx (dV 7) (dC (T.int 1))) qan))) (qab (qah qoc (qab (dV 0) (qab (dB qbx (dV 7) (dC (T.int 5))) (qab (dC (T.int 99)) qan)))) qan)))))))
  (λdn ρ=> ∃(rs:List Row) (m:Int) (s6 s7:Sl),ρ=[.fz (.scr ns),.fz (.int k),.fz (.int most),.ow (rs.map qbz),.fz (.int m),.fz (.int far),s6,s7]/\(∀r∈rs,qke r)/\qe4 rs=true/\rs.length=dn.length/\(∀r∈rs,r.1<=m)/\0<=m/\m<=99)
  (List.range n.toNat) (List.range n.toNat) [] [.fz (.scr ns),.fz (.int k),.fz (.int most),.ow [],.fz (.int v),.fz (.int far),.no,.no] rfl
  (λdn j qc3 ρ hw ⟨rs,m,s6,s7,e,ok,lg,ln,le,m0,m1⟩=>by
   subst e
   have hl:dn.length+(qc3.length+1)=n.toNat:=by
    have:=congrArg List.length hw
    simpa using this
   have hj:j<n.toNat:=by
    have:j∈List.range n.toNat:=by rw[<-hw]; simp
    exact List.mem_range.mp this
   obtain ⟨w,w1,w2,ew⟩:=qcg hn (k:=k+10+8*(j:Nat)) (many:=far) (by lia) (by lia) f1
   obtain ⟨x,hx,ex⟩:=qte hn (k:=k+10+8*(j:Nat)+1) (by lia) (by lia)
   obtain ⟨u,u1,u2,eu⟩:=qm6 hn (k:=k+10+8*(j:Nat)+5) (M:=99) (by lia) (by lia) (by decide)
   have hm':((-1000000:Int)<=8/\(8:Int)<=1000000)\/((-1000000:Int)<=(j:Nat)/\((j:Nat):Int)<=1000000):=.inl (by decide)
   have mm: ∃m',(if m+w<99 then m+w else 99)=m'/\m<=m'/\m'<=99:=by
    by_cases c:m+w<99
    ·exact ⟨m+w,by rw[if_pos c],by lia,by lia⟩
    ·exact ⟨99,by rw[if_neg c],by lia,by lia⟩
   obtain ⟨m',em,le1,le2⟩:=mm
   have l3:(3:Nat)<=1000:=by decide
   have lb:rs.length<=999:=by lia
   refine ⟨_,[.fz (.scr ns),.fz (.int k),.fz (.int most),.ow ((rs++[(m',x,u)]).map qbz),.fz (.int m'),.fz (.int far),.fz (.int (j:Nat)),.fz (.int (k+10+8*(j:Nat)))],rfl,.inl ?_,rs++[(m',x,u)],m',_,_,rfl,?_,?_,by simp[ln],?_,by lia,le2⟩
   ·have er:(rs++[(m',x,u)]).map qbz=rs.map qbz++[.tup [.int m',.str x,.int u]]:=by rw[List.map_append]; rfl
    rw[er]
    simp only[qax,qby,dB,dV,List.set_cons_succ,List.set_cons_zero,List.getElem?_cons_succ,List.getElem?_cons_zero,dC,qaj,qba,qbA,hm',if_true,qbH,dB2,qah,qab,qan,qdY,qe3,qbq,qbn,List.length_cons,List.length_nil,Nat.reduceAdd,Nat.reduceLeDiff,ew,qb5,em,ex,eu,l3,List.length_map,lb]
   ·intro r hr'
    rcases List.mem_append.mp hr' with hr' | hr'
    ·exact ok r hr'
    ·rw[List.mem_singleton.mp hr']
     exact ⟨⟨by show 0<=m'; lia,le2⟩,hx,u1,u2⟩
   ·refine qjh lg λq hq=> ?_
    have:=le q hq
    show q.1<=m'
    lia
   ·intro r hr'
    rcases List.mem_append.mp hr' with hr' | hr'
    ·have:=le r hr'; lia
    ·rw[List.mem_singleton.mp hr']; exact Int.le_refl _) ⟨[],v,.no,.no,rfl,(λ_ h=>by cases h),rfl,rfl,(λ_ h=>by cases h),a1,by lia⟩
 subst er
 refine ⟨rs,⟨ok,lg⟩,by rw[ln]; simp; lia,?_⟩
 unfold qpt qtS
 simp only[fnT,List.length_cons,List.length_nil,Nat.reduceAdd,qax,qbU,qdg,qan,qaj,l0,if_true,List.map_cons,List.map_nil,Nat.reduceSub,List.replicate,List.cons_append,List.nil_append,List.set_cons_succ,List.set_cons_zero,qbH,qby,qah,qab,dV,dC,dB,dFz,l4,qfb,qgF,qaW,frz,List.getElem?_cons_zero,List.getElem?_cons_succ,e1,qba,e2,e4,e3,hr,e5,outT]
 rfl
end K94
end
section
namespace PL
open PySem L2 SetL SR
def qaO (p:List Row):Int:=(p.getLast?.map λr=>r.1).getD 0
def qaQ (p:List Row):Int:=(p.head?.map λr=>r.1).getD 0
theorem qb3 (q:List Row) (r:Row):qaO (q++[r])=r.1:=by simp[qaO]
theorem qeG {p:List Row} (h:p≠[]) (q:List Row):qaQ (p++q)=qaQ p:=by
 cases p with
 | nil=>exact absurd rfl h
 | cons r p=>rfl
def qjX (g:Int) (acc:List (List Row)) (r:Row):List (List Row):=match acc.getLast? with
 | none=>acc++[[r]]
 | some p=>if r.1 - qaO p<=g then acc.dropLast++[p++[r]] else acc++[[r]]
theorem qhS (g:Int) (r:Row):qjX g [] r=[[r]]:=rfl
theorem qeq (g:Int) (a:List (List Row)) (p:List Row) (r:Row):qjX g (a++[p]) r=if r.1 - qaO p<=g then a++[p++[r]] else a++[p]++[[r]]:=by simp[qjX]
def qaG (g:Int) (rs:List Row):List (List Row):=rs.foldl (qjX g) []
theorem qc7 (g:Int) (rs:List Row) (r:Row):qaG g (rs++[r])=qjX g (qaG g rs) r:=by simp[qaG,List.foldl_append]
structure Grp (rs:List Row) (acc:List (List Row)):Prop where
 fl:acc.flatten=rs
 ne: ∀p∈acc,p≠[]
 inc:acc.Pairwise λp p'=> ∀r∈p,∀r'∈p',r.1<r'.1
theorem Grp.last {rs:List Row} {a:List (List Row)} {p:List Row} (h:Grp rs (a++[p])):qaO p=qaO rs/\rs≠[]:=by
 have hp:=h.ne p (by simp)
 have e:=h.fl
 rw[List.flatten_append] at e
 rcases List.eq_nil_or_concat p with z | ⟨q,r,z⟩
 ·exact absurd z hp
 ·rw[List.concat_eq_append] at z
  subst z
  rw[<-e]
  refine ⟨?_,by simp⟩
  have:(a.flatten++[q++[r]].flatten)=(a.flatten++q)++[r]:=by simp
  rw[this,qb3,qb3]
theorem Grp.nil_iff {rs:List Row} {acc:List (List Row)} (h:Grp rs acc):acc=[]↔rs=[]:=by
 constructor
 ·intro z; rw[<-h.fl,z]; rfl
 ·intro z
  rcases List.eq_nil_or_concat acc with w | ⟨a,p,w⟩
  ·exact w
  ·rw[List.concat_eq_append] at w
   subst w
   exact absurd z h.last.2
theorem qdU {rs:List Row} (h:Ris mo rs): ∀r∈rs,r.1<=qaO rs:=by
 intro r hr
 rcases List.eq_nil_or_concat rs with z | ⟨q,x,z⟩
 ·rw[z] at hr; cases hr
 ·rw[List.concat_eq_append] at z
  subst z
  rw[qb3]
  rcases List.mem_append.mp hr with hr | hr
  ·exact (List.pairwise_append.mp h).2.2 r hr x (by simp)
  ·rw[List.mem_singleton.mp hr]; exact Int.le_refl _
theorem qcz {g:Int} (hg:0<=g) (rs:List Row):Ris mo rs->Grp rs (qaG g rs):=by
 refine qfy (P:=λrs=>Ris mo rs->Grp rs (qaG g rs)) (λ_=>⟨rfl,(λp hp=>by cases hp),List.Pairwise.nil⟩) (λl r ih h=> ?_) rs
 have hl:Ris mo l:=(List.pairwise_append.mp h).1
 have hr: ∀q∈l,q.1<=r.1:=λq hq=>(List.pairwise_append.mp h).2.2 q hq r (by simp)
 have G:=ih hl
 rw[qc7]
 rcases List.eq_nil_or_concat (qaG g l) with z | ⟨a,p,z⟩
 ·have:=G.nil_iff.mp z
  subst this
  rw[z,qhS]
  exact ⟨rfl,(λp hp=>by rw[List.mem_singleton.mp hp]; simp),List.pairwise_singleton _ _⟩
 ·rw[List.concat_eq_append] at z
  rw[z] at G⊢
  obtain ⟨e1,e2⟩:=G.last
  rw[qeq]
  have pw:=List.pairwise_append.mp G.inc
  by_cases c:r.1 - qaO p<=g
  ·rw[if_pos c]
   refine ⟨?_,λq hq=> ?_,?_⟩
   ·rw[<-G.fl]; simp
   ·rcases List.mem_append.mp hq with hq | hq
    ·exact G.ne q (List.mem_append_left _ hq)
    ·rw[List.mem_singleton.mp hq]; simp
   ·refine List.pairwise_append.mpr ⟨pw.1,List.pairwise_singleton _ _,λq hq q' hq' x hx y hy=> ?_⟩
    rw[List.mem_singleton.mp hq'] at hy
    rcases List.mem_append.mp hy with hy | hy
    ·exact pw.2.2 q hq p (by simp) x hx y hy
    ·rw[List.mem_singleton.mp hy]
     cases hp:p with
     | nil=>exact absurd hp (G.ne p (by simp))
     | cons x0 p0=>
      have h1:=pw.2.2 q hq p (by simp) x hx x0 (by rw[hp]; simp)
      have h2:=hr x0 (by rw[<-G.fl,hp]; simp)
      lia
  ·rw[if_neg c]
   refine ⟨?_,λq hq=> ?_,?_⟩
   ·rw[<-G.fl]; simp
   ·rcases List.mem_append.mp hq with hq | hq
    ·exact G.ne q hq
    ·rw[List.mem_singleton.mp hq]; simp
   ·refine List.pairwise_append.mpr ⟨G.inc,List.pairwise_singleton _ _,λq hq q' hq' x hx y hy=> ?_⟩
    rw[List.mem_singleton.mp hq'] at hy
    rw[List.mem_singleton.mp hy]
    have hx':x∈l:=by rw[<-G.fl]; exact List.mem_flatten.mpr ⟨q,hq,hx⟩
    have:=qdU hl x hx'
    lia
theorem qla {rs:List Row} {acc:List (List Row)} (h:Grp rs acc):acc.length<=rs.length:=by
 rw[<-h.fl]
 have hn:=h.ne
 clear h
 induction acc with
 | nil=>exact Nat.le_refl _
 | cons p acc ih=>
  have h1:=ih λq hq=>hn q (List.mem_cons_of_mem _ hq)
  have h2:0<p.length:=List.length_pos_iff.mpr (hn p List.mem_cons_self)
  rw[List.flatten_cons,List.length_append,List.length_cons]
  lia
abbrev S5:=Str×Int×Int×Int×Int
def stT (s:S5):T:=.tup [.str s.1,.int s.2.1,.int s.2.2.1,.int s.2.2.2.1,.int s.2.2.2.2]
def qaL (p:List Row):Int:=(p.map λr=>r.2.2).sum
def sOf (k:Str) (p:List Row):S5:=(k,qaQ p,qaO p,(p.length:Int),qaL p)
theorem qhg (p:List Row) (r:Row):qaL (p++[r])=qaL p+r.2.2:=by simp[qaL]
theorem qi8 (p q:List Row):qaL (p++q)=qaL p+qaL q:=by simp[qaL]
theorem qkc (k:Str) (r:Row):sOf k [r]=(k,r.1,r.1,1,r.2.2):=by simp[sOf,qaQ,qaO,qaL]
theorem qmi (k:Str) {p:List Row} (h:p≠[]) (r:Row):sOf k (p++[r])=(k,qaQ p,r.1,(p.length:Int)+1,qaL p+r.2.2):=by
 unfold sOf
 rw[qb3,qeG h,qhg]
 simp
def parts (g:Int) (ks:List Str) (rs:List Row):List (Str×List Row):=ks.flatMap λk=>(qaG g (qar rs k)).map λp=>(k,p)
def qd8 (g:Int) (ks:List Str) (rs:List Row):List S5:=ks.flatMap λk=>(qaG g (qar rs k)).map (sOf k)
theorem qjT (g:Int) (ks:List Str) (k:Str) (rs:List Row):qd8 g (ks++[k]) rs=qd8 g ks rs++(qaG g (qar rs k)).map (sOf k):=by
 unfold qd8; rw[List.flatMap_append]; simp
def qjK (s:S5):List Ky:=[.i s.2.1,.s s.1]
def ql8 (D:List S5):List S5:=srt (λs=>qbJ qbW (D.map qjK) (qjK s)) D
def qbi (g:Int) (rs:List Row):List S5:=ql8 (qd8 g (qcm rs) rs)
theorem qaP {rs:List Row} (h:Ris mo rs) (k:Str):Ris mo (qar rs k):=qfh h
theorem qfw {f:List Row->Int} (h0:f []=0) (ha: ∀p q,f (p++q)=f p+f q): ∀l:List (List Row),(l.map f).sum=f l.flatten
 | []=>by simp[h0]
 | p::l=>by
  rw[List.map_cons,List.sum_cons,qfw h0 ha l,List.flatten_cons,ha]
theorem ql6 {α:Type} {f:α->Int} {l l':List α} (h:List.Perm l l'):(l.map f).sum=(l'.map f).sum:=by
 induction h with
 | nil=>rfl
 | cons x _ ih=>simp[ih]
 | swap x y l=>simp; lia
 | trans _ _ a b=>exact a.trans b
theorem ql7 {g:Int} (hg:0<=g) {rs:List Row} (h:Ris mo rs) (ks:List Str):(qd8 g ks rs).length<=(ks.flatMap λk=>qar rs k).length:=by
 induction ks with
 | nil=>exact Nat.le_refl _
 | cons k ks ih=>
  have e:qd8 g (k::ks) rs=(qaG g (qar rs k)).map (sOf k)++qd8 g ks rs:=by unfold qd8; rw[List.flatMap_cons]
  rw[e,List.flatMap_cons,List.length_append,List.length_append,List.length_map]
  have:=qla (qcz hg _ (qaP h k))
  lia
theorem qjU {g:Int} (hg:0<=g) {rs:List Row} (h:Ris mo rs):(qd8 g (qcm rs) rs).length<=rs.length:=by
 have:=ql7 hg h (qcm rs)
 rw[List.flatMap_def,(qkd rs).length_eq] at this
 exact this
theorem qc0 (g:Int) (rs:List Row):List.Perm (qbi g rs) (qd8 g (qcm rs) rs):=qbt _
end PL
end
section
namespace PL
open PySem L2 SetL
open SR (Ris srt qbY qbt qbJ qc2 qcl qa9 qcK)
theorem qkh (ss:List Str) (x:Str):qbJ qbW ((ss.map T.str).map qcP) (qcP (.str x))=qbJ RH.ltS ss x:=by
 unfold qbJ
 rw[List.map_map,List.countP_map]
 congr 1
 refine List.countP_congr λy _=> ?_
 show qbW [Ky.s y] [Ky.s x]=true↔RH.ltS y x=true
 have:qbW [Ky.s y] [Ky.s x]=RH.ltS y x:=by
  show (if Ky.s y=Ky.s x then false else RH.ltS y x)=_
  by_cases c:y=x
  ·subst c; rw[if_pos rfl]; exact (RH.ordS.irr y).symm
  ·rw[if_neg (λz=>c (by cases z; rfl))]
 rw[this]
theorem qiY (ss:List Str):qdQ (ss.map T.str)=(qa9 RH.ltS ss).map T.str:=by
 unfold qdQ qdj qa9
 rw[qbY (k:=λt=>qbJ qbW ((ss.map T.str).map qcP) (qcP t)) (f:=T.str) (k':=qbJ RH.ltS ss)]
 exact λb=>(qkh ss b).symm
theorem qfx (ss:List Str):qb9 (ss.map T.str)=true:=by
 cases ss with
 | nil=>rfl
 | cons s ss=>
  show (qc5 [1]&&(ss.map T.str).all λu=>qbZ u==[1])=true
  rw[Bool.and_eq_true]
  refine ⟨rfl,?_⟩
  rw[List.all_map,List.all_eq_true]
  intro _ _; rfl
theorem qiZ {ss:List Str} (h:ss.length<64):qi0 (true,ss.map T.str)= .ok ((qa9 RH.ltS ss).map T.str):=by
 unfold qi0
 rw[if_pos ⟨⟨rfl,by rw[List.length_map]; exact h⟩,qfx ss⟩,qiY]
theorem qeF {p:List Row} (h:Ris mo p): ∀r∈p,qaQ p<=r.1:=by
 intro r hr
 cases p with
 | nil=>cases hr
 | cons x p=>
  rcases List.mem_cons.mp hr with z | z
  ·rw[z]; exact Int.le_refl _
  ·exact (List.pairwise_cons.mp h).1 r z
def on (g m:Int) (s:S5):Bool:=decide (s.2.1<=m)&&decide (m - s.2.2.1<=g)
theorem qjV (g:Int) (k:Str) (ks:List Str) (rs:List Row):qd8 g (k::ks) rs=(qaG g (qar rs k)).map (sOf k)++qd8 g ks rs:=by unfold qd8; rw[List.flatMap_cons]
theorem qhP {g:Int} {ks:List Str} {rs:List Row} {s:S5} (h:s∈qd8 g ks rs):s.1∈ks/\∃p∈qaG g (qar rs s.1),s=sOf s.1 p:=by
 obtain ⟨k,hk,h⟩:=List.mem_flatMap.mp h
 obtain ⟨p,hp,rfl⟩:=List.mem_map.mp h
 exact ⟨hk,p,hp,rfl⟩
def onK (g m:Int) (rs:List Row):List Str:=((qbi g rs).filter (on g m)).map λs=>s.1
theorem qky (g m:Int) (rs:List Row):List.Perm (onK g m rs) (((qd8 g (qcm rs) rs).filter (on g m)).map λs=>s.1):=((qc0 g rs).filter _).map _
theorem qqv {g m:Int} (hg:0<=g) {rs:List Row} (h:Ris mo rs):(onK g m rs).length<=rs.length:=by
 rw[(qky g m rs).length_eq,List.length_map]
 exact Nat.le_trans (List.length_filter_le _ _) (qjU hg h)
theorem qoI {g m:Int} (hg:0<=g) {rs:List Row} (h:Ris mo rs) {r:Row} (hr:r∈rs) (h1:r.1<=m) (h2:m<=r.1+g):r.2.1∈onK g m rs:=by
 refine (qky g m rs).mem_iff.mpr ?_
 have ro:Ris mo (qar rs r.2.1):=qaP h _
 have G:=qcz hg _ ro
 have mr:r∈qar rs r.2.1:=List.mem_filter.mpr ⟨hr,by simp⟩
 rw[<-G.fl] at mr
 obtain ⟨p,hp,hrp⟩:=List.mem_flatten.mp mr
 have rp:Ris mo p:=by
  have:=ro
  rw[<-G.fl] at this
  exact (List.pairwise_flatten.mp this).1 p hp
 refine List.mem_map.mpr ⟨sOf r.2.1 p,List.mem_filter.mpr ⟨List.mem_flatMap.mpr ⟨r.2.1,qcO.mpr ⟨r,hr,rfl⟩,List.mem_map.mpr ⟨p,hp,rfl⟩⟩,?_⟩,rfl⟩
 have a:=qeF rp r hrp
 have b:=qdU rp r hrp
 unfold on sOf
 simp only[Bool.and_eq_true,decide_eq_true_eq]
 lia
end PL
end
section
namespace K94
open PySem L2 PL SetL
open SR (Ris srt qbY qbt qbJ qc2 qcl qa9)
theorem e_within (i a b:Int):t_11 [.int i,.int a,.int b]= .ok (.bl (decide (a<=i)&&decide (i<=b))):=AS.e_within i a b
theorem e_refuse_log {rs:List Row} (h:Log rs):t_1 [qaC rs]= .ok .non:=AS.e_refuse_log h
theorem qiz (rs:List Row) (k:Str):t_37 [qaC rs,.str k]= .ok (qaC (qar rs k)):=by
 show qnw AS.o_37 [qaC rs,.str k]=_
 unfold qnw
 rw[AS.q_37]
 rfl
theorem qnb {n m:Int} (h:0<=n/\n<=m):t_3 [.int n,.int m]= .ok .non:=by
 unfold t_3 d_3
 simp only[fnT,qax,qbH,qaW,qby,qbU,qbQ,dIf,qav,dV,dC,dB,dB2,qah,qab,qan,qbq,qdg,dFz,dQ,dQF,dQV,qaY,qaX,dCQ,qek,dTB,qfZ,dOr,qck,qcp,qiH,qcS,qfa,qaI,dI,qaE,qaD,dIS,qgF,qiI,dIZ,qiG,qdM,qcH,qct,qbD,qbp,qb4,qdY,qfY,qe3,qbn,frz,qfU,ixQ,qeV,dOS,dON,gN,gT,gsC,gsN,qba,qbL,qbA,qb7,qbM,qdA,qcA,qcB,qdC,qdB,qa7,qb5,qcq,qc8,qdD,qb6,qca,qcb,qfl,PL.outT,dIn,qfN,qbr,qbK,qaj,qbv,qbs,List.map_cons,List.map_nil,List.length_cons,List.length_nil,List.length_map,List.replicate,List.cons_append,List.nil_append,List.append_nil,List.getElem?_cons_zero,List.getElem?_cons_succ,List.set_cons_zero,List.set_cons_succ,Nat.reduceSub,Nat.reduceAdd,Nat.reduceLeDiff,Nat.reduceEqDiff,if_true,if_false,Bool.false_eq_true,reduceIte,Bool.not_true,Bool.not_false,Bool.and_true,Bool.true_and,Bool.and_self,Bool.or_self,e_within,decide_eq_true h.1,decide_eq_true h.2]
theorem qll {rs:List Row} (h:rs.length<64):qpI [qaC rs]= .ok (.lst ((qcm rs).map T.str)):=by
 have cm:qat 1 [] (dI (dV 0)) (gN 0) qbS (dB gIx (dV 0) (dC (T.int 1))) [.fz (qaC rs)]= .ok ((rs.filter λ_=>true).map λr=>T.str r.2.1):=
  qbR (f:=qbz) rfl λr hr=>⟨rfl,λ_=>rfl⟩
 unfold qpI qtQ
 have e:(rs.map λr=>T.str r.2.1)=(rs.map λr=>r.2.1).map T.str:=by rw[List.map_map]; rfl
 simp only[fnT,qax,qbH,qaW,qby,qbU,qbQ,dIf,qav,dV,dC,dB,dB2,qah,qab,qan,qbq,qdg,dFz,dQ,dQF,dQV,qaY,qaX,dCQ,qek,dTB,qfZ,dOr,qck,qcp,qiH,qcS,qfa,qaI,dI,qaE,qaD,dIS,qgF,qiI,dIZ,qiG,qdM,qcH,qct,qbD,qbp,qb4,qdY,qfY,qe3,qbn,frz,qfU,ixQ,qeV,dOS,dON,gN,gT,gsC,gsN,qba,qbL,qbA,qb7,qbM,qdA,qcA,qcB,qdC,qdB,qa7,qb5,qcq,qc8,qdD,qb6,qca,qcb,qfl,PL.outT,dIn,qfN,qbr,qbK,qaj,qbv,qbs,List.map_cons,List.map_nil,List.length_cons,List.length_nil,List.length_map,List.replicate,List.cons_append,List.nil_append,List.append_nil,List.getElem?_cons_zero,List.getElem?_cons_succ,List.set_cons_zero,List.set_cons_succ,Nat.reduceSub,Nat.reduceAdd,Nat.reduceLeDiff,Nat.reduceEqDiff,if_true,if_false,Bool.false_eq_true,reduceIte,Bool.not_true,Bool.not_false,Bool.and_true,Bool.true_and,Bool.and_self,Bool.or_self,cm,qbX,e,qje (ss:=rs.map λr=>r.2.1) (by rw[List.length_map]; exact h)]
 rfl
theorem qip (n:Nat):ixN (n+1) (-1)=some n:=by
 unfold ixN
 rw[if_neg (by decide),if_pos (by omega)]
 congr 1
 omega
theorem qiN {α:Type} (xs:List α) (x:α):atI (xs++[x]) (-1)=some x:=by
 unfold atI
 rw[show (xs++[x]).length=xs.length+1 by simp,qip]
 simp
theorem qmb {α:Type} (xs:List α) (x y:α):(xs++[x]).set xs.length y=xs++[y]:=by simp
theorem qm7 (s:S5) (m n:Int):qps [stT s,.int m,.int n]= .ok (stT (s.1,s.2.1,m,s.2.2.2.1+1,s.2.2.2.2+n)):=by
 have l5:(5:Nat)<=1000:=by decide
 have a0:gIx (stT s) (.int 0)= .ok (.str s.1):=rfl
 have a1:gIx (stT s) (.int 1)= .ok (.int s.2.1):=rfl
 have a3:gIx (stT s) (.int 3)= .ok (.int s.2.2.2.1):=rfl
 have a4:gIx (stT s) (.int 4)= .ok (.int s.2.2.2.2):=rfl
 unfold qps qtP
 simp only[fnT,qax,qbH,qaW,qby,qbU,qbQ,dIf,qav,dV,dC,dB,dB2,qah,qab,qan,qbq,qdg,dFz,dQ,dQF,dQV,qaY,qaX,dCQ,qek,dTB,qfZ,dOr,qck,qcp,qiH,qcS,qfa,qaI,dI,qaE,qaD,dIS,qgF,qiI,dIZ,qiG,qdM,qcH,qct,qbD,qbp,qb4,qdY,qfY,qe3,qbn,frz,qfU,ixQ,qeV,dOS,dON,gN,gT,gsC,gsN,qba,qbL,qbA,qb7,qbM,qdA,qcA,qcB,qdC,qdB,qa7,qb5,qcq,qc8,qdD,qb6,qca,qcb,qfl,PL.outT,dIn,qfN,qbr,qbK,qaj,qbv,qbs,List.map_cons,List.map_nil,List.length_cons,List.length_nil,List.length_map,List.replicate,List.cons_append,List.nil_append,List.append_nil,List.getElem?_cons_zero,List.getElem?_cons_succ,List.set_cons_zero,List.set_cons_succ,Nat.reduceSub,Nat.reduceAdd,Nat.reduceLeDiff,Nat.reduceEqDiff,if_true,if_false,Bool.false_eq_true,reduceIte,Bool.not_true,Bool.not_false,Bool.and_true,Bool.true_and,Bool.and_self,Bool.or_self,l5,a0,a1,a3,a4]
 rfl
abbrev bS:Ro->Rs Out:=dIf (qfZ (dTB (dB gGt (dCQ qfl (dQV 2)) (dC (.int 0)))) (dTB (dB gLe (dB gSub (dV 3) (dB gIx (qfU (dQV 2) (qbp (dC (.int 1)))) (dC (.int 2)))) (dV 1)))) (qrr 2 (qbp (dC (.int 1))) (qah qps (qab (qfU (dQV 2) (qbp (dC (.int 1)))) (qab (dV 3) (qab (dV 5) (qan)))))) (qdY 2 (qbq (qab (dV 4) (qab (dV 3) (qab (dV 3) (qab (dC (.int 1)) (qab (dV 5) (qan))))))))
theorem qlk {rs:List Row} {k:Str} {g:Int} (hg:0<=g) (h:Ris PL.mo rs) (hk: ∀r∈rs,r.2.1=k) (hl:rs.length<=100):t_5 [qaC rs,.int g]= .ok (.lst (((qaG g rs).map (sOf k)).map stT)):=by
 obtain ⟨ρ',e1,s3,s4,s5,e2⟩:=qei (dg:=gT 3 (gsC (gN 3) (gsC (gN 4) (gsC (gN 5) gsN)))) (f:=qbz) (db:=bS) (λdn ρ=> ∃s3 s4 s5,ρ=[.fz (qaC rs),.fz (.int g),.ow (((qaG g dn).map (sOf k)).map stT),s3,s4,s5]) rs rs [] [.fz (qaC rs),.fz (.int g),.ow [],.no,.no,.no] rfl
  (λdn x qc3 ρ hw ⟨s3,s4,s5,e⟩=>by
   subst e
   have hx:x∈rs:=by rw[<-hw]; simp
   have kx:=hk x hx
   have hd:Ris PL.mo dn:=by rw[<-hw] at h; exact (List.pairwise_append.mp h).1
   have G:=qcz hg dn hd
   have gl:=qla G
   have dl:dn.length<100:=by
    have:rs.length=dn.length+(qc3.length+1):=by rw[<-hw]; simp
    omega
   obtain ⟨m,ky,nu⟩:=x
   have kx:ky=k:=kx
   subst kx
   refine ⟨[.fz (qaC rs),.fz (.int g),.ow (((qaG g dn).map (sOf ky)).map stT),.fz (.int m),.fz (.str ky),.fz (.int nu)],[.fz (qaC rs),.fz (.int g),.ow (((qaG g (dn++[(m,ky,nu)])).map (sOf ky)).map stT),.fz (.int m),.fz (.str ky),.fz (.int nu)],rfl,.inl ?_,_,_,_,rfl⟩
   rw[qc7]
   have l5:(5:Nat)<=1000:=by decide
   rcases List.eq_nil_or_concat (qaG g dn) with z | ⟨a,p,z⟩
   ·rw[z,qhS]
    have g0:gGt (.int ((0:Nat):Int)) (.int 0)= .ok (.bl false):=rfl
    have l1:(1:Nat)<=1000:=by decide
    simp only[fnT,qax,qbH,qaW,qby,qbU,qbQ,dIf,qav,dV,dC,dB,dB2,qah,qab,qan,qbq,qdg,dFz,dQ,dQF,dQV,qaY,qaX,dCQ,qek,dTB,qfZ,dOr,qck,qcp,qiH,qcS,qfa,qaI,dI,qaE,qaD,dIS,qgF,qiI,dIZ,qiG,qdM,qcH,qct,qbD,qbp,qb4,qdY,qfY,qe3,qbn,frz,qfU,ixQ,qeV,dOS,dON,gN,gT,gsC,gsN,qba,qbL,qbA,qb7,qbM,qdA,qcA,qcB,qdC,qdB,qa7,qb5,qcq,qc8,qdD,qb6,qca,qcb,qfl,PL.outT,dIn,qfN,qbr,qbK,qaj,qbv,qbs,List.map_cons,List.map_nil,List.length_cons,List.length_nil,List.length_map,List.replicate,List.cons_append,List.nil_append,List.append_nil,List.getElem?_cons_zero,List.getElem?_cons_succ,List.set_cons_zero,List.set_cons_succ,Nat.reduceSub,Nat.reduceAdd,Nat.reduceLeDiff,Nat.reduceEqDiff,if_true,if_false,Bool.false_eq_true,reduceIte,Bool.not_true,Bool.not_false,Bool.and_true,Bool.true_and,Bool.and_self,Bool.or_self,g0,l5,l1,qkc,stT]
   ·rw[List.concat_eq_append] at z
    rw[z] at G gl⊢
    have pn:p≠[]:=G.ne p (by simp)
    have em:((a++[p]).map (sOf ky)).map stT=(a.map (sOf ky)).map stT++[stT (sOf ky p)]:=by simp
    have ln:((a.map (sOf ky)).map stT++[stT (sOf ky p)]).length=a.length+1:=by simp
    have g0:gGt (.int ((a.length+1:Nat):Int)) (.int 0)= .ok (.bl true):=by
     show Rs.ok (T.bl (decide ((0:Int)<((a.length+1:Nat):Int))))=_
     rw[decide_eq_true (by omega)]
    have at1:=qiN ((a.map (sOf ky)).map stT) (stT (sOf ky p))
    have i2:gIx (stT (sOf ky p)) (.int 2)= .ok (.int (qaO p)):=rfl
    have le:gLe (.int (m - qaO p)) (.int g)= .ok (.bl (decide (m - qaO p<=g))):=rfl
    have lg:=qm7 (sOf ky p) m nu
    have ix:ixN (a.length+1) (-1)=some a.length:=qip _
    have st:=qmb ((a.map (sOf ky)).map stT) (stT (sOf ky p)) (stT (ky,qaQ p,m,(p.length:Int)+1,qaL p+nu))
    rw[show ((a.map (sOf ky)).map stT).length=a.length by simp] at st
    have ls:(a.length+1)+1<=1000:=by
     have:=gl
     simp at this
     omega
    rw[em,qeq]
    by_cases c:m - qaO p<=g
    ·have er:((a++[p++[(m,ky,nu)]]).map (sOf ky)).map stT=(a.map (sOf ky)).map stT++[stT (ky,qaQ p,m,(p.length:Int)+1,qaL p+nu)]:=by simp[qmi ky pn]
     rw[if_pos c,er]
     simp only[fnT,qax,qbH,qaW,qby,qbU,qbQ,dIf,qav,dV,dC,dB,dB2,qah,qab,qan,qbq,qdg,dFz,dQ,dQF,dQV,qaY,qaX,dCQ,qek,dTB,qfZ,dOr,qck,qcp,qiH,qcS,qfa,qaI,dI,qaE,qaD,dIS,qgF,qiI,dIZ,qiG,qdM,qcH,qct,qbD,qbp,qb4,qdY,qfY,qe3,qbn,frz,qfU,ixQ,qeV,dOS,dON,gN,gT,gsC,gsN,qba,qbL,qbA,qb7,qbM,qdA,qcA,qcB,qdC,qdB,qa7,qb5,qcq,qc8,qdD,qb6,qca,qcb,qfl,PL.outT,dIn,qfN,qbr,qbK,qaj,qbv,qbs,List.map_cons,List.map_nil,List.length_cons,List.length_nil,List.length_map,List.replicate,List.cons_append,List.nil_append,List.append_nil,List.getElem?_cons_zero,List.getElem?_cons_succ,List.set_cons_zero,List.set_cons_succ,Nat.reduceSub,Nat.reduceAdd,Nat.reduceLeDiff,Nat.reduceEqDiff,if_true,if_false,Bool.false_eq_true,reduceIte,Bool.not_true,Bool.not_false,Bool.and_true,Bool.true_and,Bool.and_self,Bool.or_self,qrr,PL.putAt,ln,g0,at1,i2,le,decide_eq_true c,lg,ix]
     rw[show stT ((sOf ky p).1,(sOf ky p).2.1,m,(sOf ky p).2.2.2.1+1,(sOf ky p).2.2.2.2+nu)=stT (ky,qaQ p,m,(p.length:Int)+1,qaL p+nu) from rfl,st]
    ·have er:((a++[p]++[[(m,ky,nu)]]).map (sOf ky)).map stT=((a.map (sOf ky)).map stT++[stT (sOf ky p)])++[stT (ky,m,m,1,nu)]:=by simp[qkc]
     rw[if_neg c,er]
     simp only[fnT,qax,qbH,qaW,qby,qbU,qbQ,dIf,qav,dV,dC,dB,dB2,qah,qab,qan,qbq,qdg,dFz,dQ,dQF,dQV,qaY,qaX,dCQ,qek,dTB,qfZ,dOr,qck,qcp,qiH,qcS,qfa,qaI,dI,qaE,qaD,dIS,qgF,qiI,dIZ,qiG,qdM,qcH,qct,qbD,qbp,qb4,qdY,qfY,qe3,qbn,frz,qfU,ixQ,qeV,dOS,dON,gN,gT,gsC,gsN,qba,qbL,qbA,qb7,qbM,qdA,qcA,qcB,qdC,qdB,qa7,qb5,qcq,qc8,qdD,qb6,qca,qcb,qfl,PL.outT,dIn,qfN,qbr,qbK,qaj,qbv,qbs,List.map_cons,List.map_nil,List.length_cons,List.length_nil,List.length_map,List.replicate,List.cons_append,List.nil_append,List.append_nil,List.getElem?_cons_zero,List.getElem?_cons_succ,List.set_cons_zero,List.set_cons_succ,Nat.reduceSub,Nat.reduceAdd,Nat.reduceLeDiff,Nat.reduceEqDiff,if_true,if_false,Bool.false_eq_true,reduceIte,Bool.not_true,Bool.not_false,Bool.and_true,Bool.true_and,Bool.and_self,Bool.or_self,ln,g0,at1,i2,le,decide_eq_false c,l5,ls]
     rfl) ⟨.no,.no,.no,rfl⟩
 subst e2
 unfold t_5 d_5
 have l0:(0:Nat)<=1000:=by decide
 have dl:qc6 (qaC rs)= .ok (rs.map qbz):=rfl
 simp only[fnT,qax,qbH,qaW,qby,qbU,qbQ,dIf,qav,dV,dC,dB,dB2,qah,qab,qan,qbq,qdg,dFz,dQ,dQF,dQV,qaY,qaX,dCQ,qek,dTB,qfZ,dOr,qck,qcp,qiH,qcS,qfa,qaI,dI,qaE,qaD,dIS,qgF,qiI,dIZ,qiG,qdM,qcH,qct,qbD,qbp,qb4,qdY,qfY,qe3,qbn,frz,qfU,ixQ,qeV,dOS,dON,gN,gT,gsC,gsN,qba,qbL,qbA,qb7,qbM,qdA,qcA,qcB,qdC,qdB,qa7,qb5,qcq,qc8,qdD,qb6,qca,qcb,qfl,PL.outT,dIn,qfN,qbr,qbK,qaj,qbv,qbs,List.map_cons,List.map_nil,List.length_cons,List.length_nil,List.length_map,List.replicate,List.cons_append,List.nil_append,List.append_nil,List.getElem?_cons_zero,List.getElem?_cons_succ,List.set_cons_zero,List.set_cons_succ,Nat.reduceSub,Nat.reduceAdd,Nat.reduceLeDiff,Nat.reduceEqDiff,if_true,if_false,Bool.false_eq_true,reduceIte,Bool.not_true,Bool.not_false,Bool.and_true,Bool.true_and,Bool.and_self,Bool.or_self,qfb,dl,e1,l0]
theorem qg4 (D:List S5):qb9 ((D.map stT).map λt=>.tup (qcx 1 0 t))=true:=by
 cases D with
 | nil=>rfl
 | cons s D=>
  show (qc5 (qbZ (.tup (qcx 1 0 (stT s))))&&((D.map stT).map λt=>T.tup (qcx 1 0 t)).all λu=>qbZ u==qbZ (.tup (qcx 1 0 (stT s))))=true
  rw[Bool.and_eq_true]
  refine ⟨rfl,?_⟩
  rw[List.map_map,List.all_map,List.all_eq_true]
  intro _ _; rfl
theorem qj1 {D:List S5} (h:D.length<64):qc1 1 0 (true,D.map stT)= .ok ((ql8 D).map stT):=by
 unfold qc1
 rw[if_pos ⟨⟨rfl,by rw[List.length_map]; exact h⟩,qg4 D⟩]
 congr 1
 unfold qdj ql8
 have e:(D.map stT).map (qeg 1 0)=D.map qjK:=by rw[List.map_map]; rfl
 rw[e]
 exact (qbY (k:=λt=>qbJ qbW (D.map qjK) (qeg 1 0 t)) (f:=stT) (k':=λs:S5=>qbJ qbW (D.map qjK) (qjK s)) (λb=>rfl) D).symm
theorem qiW (g:Int) (a:List Str) (k:Str) (b:List Str) (rs:List Row):(qd8 g (a++k::b) rs).length=(qd8 g a rs).length+(((qaG g (qar rs k)).length)+(qd8 g b rs).length):=by
 unfold qd8
 rw[List.flatMap_append,List.flatMap_cons]
 simp
theorem qc9 {rs:List Row} {g:Int} (hg:0<=g) (hg2:g<=99) (h:Log rs) (hl:rs.length<64):qjP [qaC rs,.int g]= .ok (.lst ((qbi g rs).map stT)):=by
 have hw:=qjU hg h.ris
 obtain ⟨ρ',e1,s3,e2⟩:=qei (dg:=gN 3) (f:=T.str) (db:=qfY 2 (dQ (qah t_5 (qab (qah t_37 (qab (dV 0) (qab (dV 3) (qan)))) (qab (dV 1) (qan)))))) (λdn ρ=> ∃s3,ρ=[.fz (qaC rs),.fz (.int g),.ow ((qd8 g dn rs).map stT),s3]) (qcm rs) (qcm rs) [] [.fz (qaC rs),.fz (.int g),.ow [],.no] rfl
  (λdn k qc3 ρ hk ⟨s3,e⟩=>by
   subst e
   refine ⟨_,[.fz (qaC rs),.fz (.int g),.ow ((qd8 g (dn++[k]) rs).map stT),.fz (.str k)],rfl,.inl ?_,_,rfl⟩
   have o:=qlk (k:=k) hg (qaP h.ris k) (λr hr=>by simpa using (List.mem_filter.mp hr).2) (by have:=List.length_filter_le (λr:Row=>r.2.1==k) rs; unfold qar; omega)
   have sp:=qiW g dn k qc3 rs
   rw[hk] at sp
   have lb:(qd8 g dn rs).length+(qaG g (qar rs k)).length<=1000:=by omega
   rw[qjT,List.map_append]
   simp only[fnT,qax,qbH,qaW,qby,qbU,qbQ,dIf,qav,dV,dC,dB,dB2,qah,qab,qan,qbq,qdg,dFz,dQ,dQF,dQV,qaY,qaX,dCQ,qek,dTB,qfZ,dOr,qck,qcp,qiH,qcS,qfa,qaI,dI,qaE,qaD,dIS,qgF,qiI,dIZ,qiG,qdM,qcH,qct,qbD,qbp,qb4,qdY,qfY,qe3,qbn,frz,qfU,ixQ,qeV,dOS,dON,gN,gT,gsC,gsN,qba,qbL,qbA,qb7,qbM,qdA,qcA,qcB,qdC,qdB,qa7,qb5,qcq,qc8,qdD,qb6,qca,qcb,qfl,PL.outT,dIn,qfN,qbr,qbK,qaj,qbv,qbs,List.map_cons,List.map_nil,List.length_cons,List.length_nil,List.length_map,List.replicate,List.cons_append,List.nil_append,List.append_nil,List.getElem?_cons_zero,List.getElem?_cons_succ,List.set_cons_zero,List.set_cons_succ,Nat.reduceSub,Nat.reduceAdd,Nat.reduceLeDiff,Nat.reduceEqDiff,if_true,if_false,Bool.false_eq_true,reduceIte,Bool.not_true,Bool.not_false,Bool.and_true,Bool.true_and,Bool.and_self,Bool.or_self,qiz,o,lb]) ⟨.no,rfl⟩
 subst e2
 unfold qjP qtT
 have l0:(0:Nat)<=1000:=by decide
 have lk:=qll hl
 have so:=qj1 (D:=qd8 g (qcm rs) rs) (by omega)
 simp only[fnT,qax,qbH,qaW,qby,qbU,qbQ,dIf,qav,dV,dC,dB,dB2,qah,qab,qan,qbq,qdg,dFz,dQ,dQF,dQV,qaY,qaX,dCQ,qek,dTB,qfZ,dOr,qck,qcp,qiH,qcS,qfa,qaI,dI,qaE,qaD,dIS,qgF,qiI,dIZ,qiG,qdM,qcH,qct,qbD,qbp,qb4,qdY,qfY,qe3,qbn,frz,qfU,ixQ,qeV,dOS,dON,gN,gT,gsC,gsN,qba,qbL,qbA,qb7,qbM,qdA,qcA,qcB,qdC,qdB,qa7,qb5,qcq,qc8,qdD,qb6,qca,qcb,qfl,PL.outT,dIn,qfN,qbr,qbK,qaj,qbv,qbs,List.map_cons,List.map_nil,List.length_cons,List.length_nil,List.length_map,List.replicate,List.cons_append,List.nil_append,List.append_nil,List.getElem?_cons_zero,List.getElem?_cons_succ,List.set_cons_zero,List.set_cons_succ,Nat.reduceSub,Nat.reduceAdd,Nat.reduceLeDiff,Nat.reduceEqDiff,if_true,if_false,Bool.false_eq_true,reduceIte,Bool.not_true,Bool.not_false,Bool.and_true,Bool.true_and,Bool.and_self,Bool.or_self,qfb,e_refuse_log h,qnb ⟨hg,hg2⟩,lk,e1,l0,so]
 rfl
def qdW (p:List Row):List Int:=(p.zip (p.drop 1)).map λx=>x.2.1 - x.1.1
theorem qn8 (as bs:List Row):qnv (as.map λr=>T.int r.1) (bs.map λr=>T.int r.1)=(as.zip bs).map λp=>T.tup [T.int p.1.1,T.int p.2.1]:=by
 unfold qnv
 rw[List.zip_map,List.map_map]
 rfl
theorem qiy {rs:List Row} (h:Log rs) (k:Str):qiU [qaC rs,.str k]= .ok (.lst ((qdW (qar rs k)).map T.int)):=by
 have c1:qat 1 [] (dI (qah t_37 (qab (dV 0) (qab (dV 1) (qan))))) (gN 0) (qbS) (dB gIx (dV 0) (dC (.int 0))) [.fz (qaC rs),.fz (.str k),.no]= .ok (((qar rs k).filter λ_=>true).map λr=>T.int r.1):=by
  refine qbR (f:=qbz) ?_ λr hr=>⟨rfl,λ_=>rfl⟩
  simp only[fnT,qax,qbH,qaW,qby,qbU,qbQ,dIf,qav,dV,dC,dB,dB2,qah,qab,qan,qbq,qdg,dFz,dQ,dQF,dQV,qaY,qaX,dCQ,qek,dTB,qfZ,dOr,qck,qcp,qiH,qcS,qfa,qaI,dI,qaE,qaD,dIS,qgF,qiI,dIZ,qiG,qdM,qcH,qct,qbD,qbp,qb4,qdY,qfY,qe3,qbn,frz,qfU,ixQ,qeV,dOS,dON,gN,gT,gsC,gsN,qba,qbL,qbA,qb7,qbM,qdA,qcA,qcB,qdC,qdB,qa7,qb5,qcq,qc8,qdD,qb6,qca,qcb,qfl,PL.outT,dIn,qfN,qbr,qbK,qaj,qbv,qbs,List.map_cons,List.map_nil,List.length_cons,List.length_nil,List.length_map,List.replicate,List.cons_append,List.nil_append,List.append_nil,List.getElem?_cons_zero,List.getElem?_cons_succ,List.set_cons_zero,List.set_cons_succ,Nat.reduceSub,Nat.reduceAdd,Nat.reduceLeDiff,Nat.reduceEqDiff,if_true,if_false,Bool.false_eq_true,reduceIte,Bool.not_true,Bool.not_false,Bool.and_true,Bool.true_and,Bool.and_self,Bool.or_self,qiz]
  rfl
 rw[qbX] at c1
 have c2:qat 2 [] (dIZ (qab (dV 2) (qab (dFz (qeV (dQV 2) (dOS (dC (.int 1))) (dON))) (qan)))) (gT 2 (gsC (gN 0) (gsC (gN 1) (gsN)))) (qbS) (dB gSub (dV 1) (dV 0)) [.fz (qaC rs),.fz (.str k),.fz (.lst ((qar rs k).map λr=>T.int r.1))]= .ok ((((qar rs k).zip ((qar rs k).drop 1)).filter λ_=>true).map λx=>T.int (x.2.1 - x.1.1)):=by
  refine qnY (a:=λp:Row×Row=>T.int p.1.1) (b:=λp=>T.int p.2.1) ?_ λp hp=>⟨rfl,λ_=>rfl⟩
  simp only[dIZ,qab,dV,dFz,qeV,dQV,dOS,dC,dON,qan,qg6,qaj,List.getElem?_cons_zero,List.getElem?_cons_succ,if_true,qtU,ql0]
  rw[<-List.map_drop,qn8]
 rw[qbX] at c2
 unfold qiU qtO
 simp only[fnT,qax,qbH,qaW,qby,qbU,qbQ,dIf,qav,dV,dC,dB,dB2,qah,qab,qan,qbq,qdg,dFz,dQ,dQF,dQV,qaY,qaX,dCQ,qek,dTB,qfZ,dOr,qck,qcp,qiH,qcS,qfa,qaI,dI,qaE,qaD,dIS,qgF,qiI,dIZ,qiG,qdM,qcH,qct,qbD,qbp,qb4,qdY,qfY,qe3,qbn,frz,qfU,ixQ,qeV,dOS,dON,gN,gT,gsC,gsN,qba,qbL,qbA,qb7,qbM,qdA,qcA,qcB,qdC,qdB,qa7,qb5,qcq,qc8,qdD,qb6,qca,qcb,qfl,PL.outT,dIn,qfN,qbr,qbK,qaj,qbv,qbs,List.map_cons,List.map_nil,List.length_cons,List.length_nil,List.length_map,List.replicate,List.cons_append,List.nil_append,List.append_nil,List.getElem?_cons_zero,List.getElem?_cons_succ,List.set_cons_zero,List.set_cons_succ,Nat.reduceSub,Nat.reduceAdd,Nat.reduceLeDiff,Nat.reduceEqDiff,if_true,if_false,Bool.false_eq_true,reduceIte,Bool.not_true,Bool.not_false,Bool.and_true,Bool.true_and,Bool.and_self,Bool.or_self,e_refuse_log h,c1,c2]
 unfold qdW
 rw[List.map_map]
 rfl
theorem st1 (s:S5):gIx (stT s) (.int 1)= .ok (.int s.2.1):=rfl
theorem st2 (s:S5):gIx (stT s) (.int 2)= .ok (.int s.2.2.1):=rfl
theorem qqx (D:List S5):okT 8 (.lst (D.map stT))=true:=by show (D.map stT).all (okT 7)=true; rw[List.all_map,List.all_eq_true]; intro _ _; rfl
theorem qfp {rs:List Row} {g m:Int} (hg:0<=g) (hg2:g<=99) (h:Log rs) (hl:rs.length<64):qjI [qaC rs,.int g,.int m]= .ok (.lst ((qa9 RH.ltS (onK g m rs)).map T.str)):=by
 have st:=qc9 hg hg2 h hl
 have c:qat 1 [2,1] (dI (qah qjP (qab (dV 0) (qab (dV 1) (qan))))) (gN 0) (dTB (qaI gLe gLe (dB gIx (dV 0) (dC (.int 1))) (dV 1) (dB qbx (dB gIx (dV 0) (dC (.int 2))) (dV 2)))) (dB gIx (dV 0) (dC (.int 0))) [.fz (qaC rs),.fz (.int g),.fz (.int m)]= .ok (((qbi g rs).filter (on g m)).map λs=>T.str s.1):=by
  refine qbR (f:=stT) ?_ λs hs=>⟨?_,λ_=>rfl⟩
  ·simp only[fnT,qax,qbH,qaW,qby,qbU,qbQ,dIf,qav,dV,dC,dB,dB2,qah,qab,qan,qbq,qdg,dFz,dQ,dQF,dQV,qaY,qaX,dCQ,qek,dTB,qfZ,dOr,qck,qcp,qiH,qcS,qfa,qaI,dI,qaE,qaD,dIS,qgF,qiI,dIZ,qiG,qdM,qcH,qct,qbD,qbp,qb4,qdY,qfY,qe3,qbn,frz,qfU,ixQ,qeV,dOS,dON,gN,gT,gsC,gsN,qba,qbL,qbA,qb7,qbM,qdA,qcA,qcB,qdC,qdB,qa7,qb5,qcq,qc8,qdD,qb6,qca,qcb,qfl,PL.outT,dIn,qfN,qbr,qbK,qaj,qbv,qbs,List.map_cons,List.map_nil,List.length_cons,List.length_nil,List.length_map,List.replicate,List.cons_append,List.nil_append,List.append_nil,List.getElem?_cons_zero,List.getElem?_cons_succ,List.set_cons_zero,List.set_cons_succ,Nat.reduceSub,Nat.reduceAdd,Nat.reduceLeDiff,Nat.reduceEqDiff,if_true,if_false,Bool.false_eq_true,reduceIte,Bool.not_true,Bool.not_false,Bool.and_true,Bool.true_and,Bool.and_self,Bool.or_self,st]
  ·simp only[fnT,qax,qbH,qaW,qby,qbU,qbQ,dIf,qav,dV,dC,dB,dB2,qah,qab,qan,qbq,qdg,dFz,dQ,dQF,dQV,qaY,qaX,dCQ,qek,dTB,qfZ,dOr,qck,qcp,qiH,qcS,qfa,qaI,dI,qaE,qaD,dIS,qgF,qiI,dIZ,qiG,qdM,qcH,qct,qbD,qbp,qb4,qdY,qfY,qe3,qbn,frz,qfU,ixQ,qeV,dOS,dON,gN,gT,gsC,gsN,qba,qbL,qbA,qb7,qbM,qdA,qcA,qcB,qdC,qdB,qa7,qb5,qcq,qc8,qdD,qb6,qca,qcb,qfl,PL.outT,dIn,qfN,qbr,qbK,qaj,qbv,qbs,List.map_cons,List.map_nil,List.length_cons,List.length_nil,List.length_map,List.replicate,List.cons_append,List.nil_append,List.append_nil,List.getElem?_cons_zero,List.getElem?_cons_succ,List.set_cons_zero,List.set_cons_succ,Nat.reduceSub,Nat.reduceAdd,Nat.reduceLeDiff,Nat.reduceEqDiff,if_true,if_false,Bool.false_eq_true,reduceIte,Bool.not_true,Bool.not_false,Bool.and_true,Bool.true_and,Bool.and_self,Bool.or_self,qju,PL.row0,st1,st2]
   unfold on
   by_cases c:s.2.1<=m
   ·have:decide (m<=s.2.2.1+g)=decide (m - s.2.2.1<=g):=decide_eq_decide.mpr (by omega)
    simp[c,this]
   ·simp[c]
 have e:(((qbi g rs).filter (on g m)).map λs=>T.str s.1)=(onK g m rs).map T.str:=by unfold onK; rw[List.map_map]; rfl
 rw[e] at c
 have sq:=qiZ (ss:=onK g m rs) (by have:=qqv (m:=m) hg h.ris; omega)
 unfold qjI qtR
 simp only[fnT,qax,qbH,qaW,qby,qbU,qbQ,dIf,qav,dV,dC,dB,dB2,qah,qab,qan,qbq,qdg,dFz,dQ,dQF,dQV,qaY,qaX,dCQ,qek,dTB,qfZ,dOr,qck,qcp,qiH,qcS,qfa,qaI,dI,qaE,qaD,dIS,qgF,qiI,dIZ,qiG,qdM,qcH,qct,qbD,qbp,qb4,qdY,qfY,qe3,qbn,frz,qfU,ixQ,qeV,dOS,dON,gN,gT,gsC,gsN,qba,qbL,qbA,qb7,qbM,qdA,qcA,qcB,qdC,qdB,qa7,qb5,qcq,qc8,qdD,qb6,qca,qcb,qfl,PL.outT,dIn,qfN,qbr,qbK,qaj,qbv,qbs,List.map_cons,List.map_nil,List.length_cons,List.length_nil,List.length_map,List.replicate,List.cons_append,List.nil_append,List.append_nil,List.getElem?_cons_zero,List.getElem?_cons_succ,List.set_cons_zero,List.set_cons_succ,Nat.reduceSub,Nat.reduceAdd,Nat.reduceLeDiff,Nat.reduceEqDiff,if_true,if_false,Bool.false_eq_true,reduceIte,Bool.not_true,Bool.not_false,Bool.and_true,Bool.true_and,Bool.and_self,Bool.or_self,c,sq]
end K94
end
section
set_option maxHeartbeats 400000
namespace K94
open PySem L2 PL SetL
open AS (IS kIS qeB qjJ qee perm_sortA qaB)
open SR (Ris qa9)
abbrev V4:=Int×Int×Int×Int
abbrev Ln:=IS×V4
def vT (v:V4):T:=.tup [.int v.1,.int v.2.1,.int v.2.2.1,.int v.2.2.2]
def lnT (x:Ln):T:=.tup [.int x.1.1,.str x.1.2,.int x.2.1,.int x.2.2.1,.int x.2.2.2.1,.int x.2.2.2.2]
def jn (u v:V4):V4:=(u.1+v.1,u.2.1+v.2.1,(if v.2.2.1<u.2.2.1 then v.2.2.1 else u.2.2.1),(if v.2.2.2>u.2.2.2 then v.2.2.2 else u.2.2.2))
def dk (E:List Ln):List (List Key×T):=E.map λx=>(kIS x.1,vT x.2)
def qgw (E:List Ln) (p:IS):Option V4:=(E.find? λx=>decide (x.1=p)).map (·.2)
def qop (E:List Ln) (x:Ln):List Ln:=match qgw E x.1 with | some u=>E.map (λy=>if y.1=x.1 then (y.1,jn u x.2) else y) | none=>E++[x]
theorem kd (a p:IS):decide (kIS a=kIS p)=decide (a=p):=decide_eq_decide.mpr ⟨qeB,λh=>by rw[h]⟩
theorem qhH (E:List Ln) (p:IS):qf1 (dk E) (kIS p)=(qgw E p).map vT:=by
 unfold qf1 dk qgw
 rw[List.find?_map,Option.map_map,Option.map_map]
 have:((λkv:List Key×T=>decide (kv.1=kIS p))∘λx:Ln=>(kIS x.1,vT x.2))=λx=>decide (x.1=p):=funext λx=>kd x.1 p
 rw[this]
 rfl
theorem qn3 (E:List Ln) (p:IS):((dk E).any λkv=>decide (kv.1=kIS p))=E.any λx=>decide (x.1=p):=by
 unfold dk
 rw[List.any_map]
 congr 1
 exact funext λx=>kd x.1 p
theorem qmm {E:List Ln} {p:IS} {u v:V4} (h:qgw E p=some u):qkn (dk E) (kIS p) (vT v)=dk (E.map λy=>if y.1=p then (y.1,v) else y):=by
 unfold qkn
 rw[qn3,if_pos]
 ·unfold dk
  rw[List.map_map,List.map_map]
  refine List.map_congr_left λy _=> ?_
  show (if kIS y.1=kIS p then (kIS y.1,vT v) else (kIS y.1,vT y.2))=(kIS (if y.1=p then (y.1,v) else y).1,vT (if y.1=p then (y.1,v) else y).2)
  by_cases c:y.1=p
  ·rw[if_pos (by rw[c]),if_pos c]
  ·rw[if_neg (λz=>c (qeB z)),if_neg c]
 ·unfold qgw at h
  cases q:E.find? (λx=>decide (x.1=p)) with
  | none=>rw[q] at h; cases h
  | some y=>have e:=List.find?_some q; exact List.any_eq_true.mpr ⟨y,List.mem_of_find?_eq_some q,e⟩
theorem qmn {E:List Ln} {p:IS} {v:V4} (h:qgw E p=none):qkn (dk E) (kIS p) (vT v)=dk (E++[(p,v)]):=by
 unfold qkn
 rw[qn3,if_neg]
 ·unfold dk
  rw[List.map_append]
  rfl
 ·intro c
  obtain ⟨y,hy,e⟩:=List.any_eq_true.mp c
  unfold qgw at h
  rw[Option.map_eq_none_iff] at h
  exact List.find?_eq_none.mp h y hy e
def qhO (f:V4->Int) (L:List Ln) (k:Str):Int:=(L.map λx=>if x.1.2=k then f x.2 else 0).sum
theorem qbV (f:V4->Int) (a b:List Ln) (k:Str):qhO f (a++b) k=qhO f a k+qhO f b k:=by
 unfold qhO; rw[List.map_append,List.sum_append]
theorem qdh (f:V4->Int) (x:Ln) (k:Str):qhO f [x] k=if x.1.2=k then f x.2 else 0:=by
 unfold qhO; simp
structure IE (E dn:List Ln):Prop where
 nd:(E.map (·.1)).Nodup
 sub: ∀y∈E,∃x∈dn,x.1=y.1
 sm: ∀f:V4->Int,(∀u v,f (jn u v)=f u+f v)->∀k,qhO f E k=qhO f dn k
 lo: ∀x∈dn,∃y∈E,y.1=x.1/\y.2.2.2.1<=x.2.2.2.1/\x.2.2.2.2<=y.2.2.2.2
 len:E.length<=dn.length
theorem IE.nil:IE [] []:=⟨List.nodup_nil,(λ_ h=>by cases h),(λ_ _ _=>rfl),(λ_ h=>by cases h),Nat.le_refl _⟩
theorem qnm {E:List Ln} {p:IS} {u:V4} (h:qgw E p=some u) (nd:(E.map (·.1)).Nodup): ∃a b,E=a++(p,u)::b/\∀v,(E.map λy=>if y.1=p then (y.1,v) else y)=a++(p,v)::b:=by
 unfold qgw at h
 cases q:E.find? (λx=>decide (x.1=p)) with
 | none=>rw[q] at h; cases h
 | some y=>
  rw[q] at h
  obtain ⟨e,a,b,rfl,ha⟩:=List.find?_eq_some_iff_append.mp q
  have e:y.1=p:=of_decide_eq_true e
  have hu:y.2=u:=by injection h
  have hy:y=(p,u):=Prod.ext e hu
  subst hy
  refine ⟨a,b,rfl,λv=> ?_⟩
  rw[List.map_append,List.map_cons] at nd
  have nd':=List.nodup_append.mp nd
  have nb:=(List.nodup_cons.mp nd'.2.1).1
  rw[List.map_append,List.map_cons,if_pos rfl]
  congr 1
  ·refine (List.map_congr_left (g:=id) λx hx=> ?_).trans (List.map_id _)
   have:=ha x hx
   simp at this
   show (if x.1=p then (x.1,v) else x)=x
   rw[if_neg this]
  ·congr 1
   refine (List.map_congr_left (g:=id) λx hx=> ?_).trans (List.map_id _)
   show (if x.1=p then (x.1,v) else x)=x
   rw[if_neg (λz=>nb (List.mem_map.mpr ⟨x,hx,z⟩))]
theorem qs4 (u v:V4):(jn u v).2.2.1<=u.2.2.1/\(jn u v).2.2.1<=v.2.2.1/\u.2.2.2<=(jn u v).2.2.2/\v.2.2.2<=(jn u v).2.2.2:=by
 unfold jn
 refine ⟨?_,?_,?_,?_⟩<;>dsimp only<;>split<;>omega
theorem IE.put {E dn:List Ln} (h:IE E dn) (x:Ln):IE (qop E x) (dn++[x]):=by
 unfold qop
 cases q:qgw E x.1 with
 | none=>
  have nx: ∀y∈E,y.1≠x.1:=λy hy e=>by
   unfold qgw at q
   rw[Option.map_eq_none_iff] at q
   exact List.find?_eq_none.mp q y hy (decide_eq_true e)
  refine ⟨?_,?_,λf hf k=>by rw[qbV,qbV,h.sm f hf],?_,by rw[List.length_append,List.length_append]; have:=h.len; simpa using this⟩
  ·rw[List.map_append,List.nodup_append]
   refine ⟨h.nd,by simp,λa ha b hb e=> ?_⟩
   obtain ⟨y,hy,rfl⟩:=List.mem_map.mp ha
   rw[List.map_singleton,List.mem_singleton] at hb
   exact nx y hy (e.trans hb)
  ·intro y hy
   rcases List.mem_append.mp hy with hy | hy
   ·obtain ⟨z,hz,e⟩:=h.sub y hy
    exact ⟨z,List.mem_append_left _ hz,e⟩
   ·exact ⟨x,by simp,by rw[List.mem_singleton.mp hy]⟩
  ·intro z hz
   rcases List.mem_append.mp hz with hz | hz
   ·obtain ⟨y,hy,e⟩:=h.lo z hz
    exact ⟨y,List.mem_append_left _ hy,e⟩
   ·rw[List.mem_singleton.mp hz]
    exact ⟨x,by simp,rfl,Int.le_refl _,Int.le_refl _⟩
 | some u=>
  obtain ⟨a,b,eE,eM⟩:=qnm q h.nd
  show IE (E.map λy=>if y.1=x.1 then (y.1,jn u x.2) else y) (dn++[x])
  rw[eM]
  have J:=qs4 u x.2
  refine ⟨?_,?_,?_,?_,?_⟩
  ·have:=h.nd
   rw[eE,List.map_append,List.map_cons] at this
   rw[List.map_append,List.map_cons]
   exact this
  ·intro y hy
   have: ∃y'∈E,y'.1=y.1:=by
    rcases List.mem_append.mp hy with hy | hy
    ·exact ⟨y,by rw[eE]; exact List.mem_append_left _ hy,rfl⟩
    ·rcases List.mem_cons.mp hy with rfl | hy
     ·exact ⟨(x.1,u),by rw[eE]; simp,rfl⟩
     ·exact ⟨y,by rw[eE]; exact List.mem_append_right _ (List.mem_cons_of_mem _ hy),rfl⟩
   obtain ⟨y',hy',e'⟩:=this
   obtain ⟨z,hz,e⟩:=h.sub y' hy'
   exact ⟨z,List.mem_append_left _ hz,e.trans e'⟩
  ·intro f hf k
   have s:=h.sm f hf k
   rw[eE,qbV,show (x.1,u)::b=[(x.1,u)]++b from rfl,qbV,qdh] at s
   rw[qbV,show (x.1,jn u x.2)::b=[(x.1,jn u x.2)]++b from rfl,qbV,qdh,qbV,qdh,<-s]
   show _+((if x.1.2=k then f (jn u x.2) else 0)+_)=_+((if x.1.2=k then f u else 0)+_)+_
   rw[hf]
   split<;>omega
  ·intro z hz
   rcases List.mem_append.mp hz with hz | hz
   ·obtain ⟨y,hy,e,l1,l2⟩:=h.lo z hz
    rw[eE] at hy
    rcases List.mem_append.mp hy with hy | hy
    ·exact ⟨y,List.mem_append_left _ hy,e,l1,l2⟩
    ·rcases List.mem_cons.mp hy with rfl | hy
     ·exact ⟨(x.1,jn u x.2),by simp,e,Int.le_trans J.1 l1,Int.le_trans l2 J.2.2.1⟩
     ·exact ⟨y,List.mem_append_right _ (List.mem_cons_of_mem _ hy),e,l1,l2⟩
   ·rw[List.mem_singleton.mp hz]
    exact ⟨(x.1,jn u x.2),by simp,rfl,J.2.1,J.2.2.2⟩
  ·have l:=h.len
   rw[eE] at l
   simp at l⊢
   omega
end K94
end
section
set_option maxHeartbeats 400000
namespace K94
open PySem L2 PL SetL
open AS (IS kIS qeB qjJ qee perm_sortA qaB)
open SR (Ris qa9)
theorem qjm (u v:V4):t_8 [vT u,vT v]= .ok (vT (jn u v)):=by kernel_rfl
section
variable {x0 s3:Sl} {E:List Ln} {x:Ln}
abbrev bR:Ro->Rs Out:=qax (qby 3 (qeQ (dV 2) (dON) (dOS (dC (.int 2))))) (qdX 1 (dV 3) (qfa (dTB (qnj false (dV 3) (dXV 1))) (qah t_8 (qab (qcr (dXV 1) (dV 3)) (qab (qeQ (dV 2) (dOS (dC (.int 2))) (dON)) (qan)))) (qeQ (dV 2) (dOS (dC (.int 2))) (dON))))
theorem qsq:qby 3 (qeQ (dV 2) (dON) (dOS (dC (.int 2)))) [x0,.ou (dk E),.fz (lnT x),s3]= .ok (.nx [x0,.ou (dk E),.fz (lnT x),.fz (isT x.1)]):=by kernel_rfl
theorem qp4 (ρ:Ro) (h:ρ[2]? =some (.fz (lnT x))):qeQ (dV 2) (dOS (dC (.int 2))) (dON) ρ= .ok (vT x.2):=by
 unfold qeQ dV
 rw[h]
 rfl
theorem qsr (hl:E.length<=900):bR [x0,.ou (dk E),.fz (lnT x),s3]= .ok (.nx [x0,.ou (dk (qop E x)),.fz (lnT x),.fz (isT x.1)]):=by
 refine qaB qsq ?_
 have hl':(dk E).length<=1000:=by unfold dk; rw[List.length_map]; omega
 have tl:=qp4 (x:=x) [x0,.ou (dk E),.fz (lnT x),.fz (isT x.1)] rfl
 have hin:dTB (qnj false (dV 3) (dXV 1)) [x0,.ou (dk E),.fz (lnT x),.fz (isT x.1)]= .ok (qf1 (dk E) (kIS x.1)).isSome:=rfl
 have val: ∀v:V4,(qfa (dTB (qnj false (dV 3) (dXV 1))) (qah t_8 (qab (qcr (dXV 1) (dV 3)) (qab (qeQ (dV 2) (dOS (dC (.int 2))) (dON)) (qan)))) (qeQ (dV 2) (dOS (dC (.int 2))) (dON))) [x0,.ou (dk E),.fz (lnT x),.fz (isT x.1)]= .ok (vT v)->qdX 1 (dV 3) (qfa (dTB (qnj false (dV 3) (dXV 1))) (qah t_8 (qab (qcr (dXV 1) (dV 3)) (qab (qeQ (dV 2) (dOS (dC (.int 2))) (dON)) (qan)))) (qeQ (dV 2) (dOS (dC (.int 2))) (dON))) [x0,.ou (dk E),.fz (lnT x),.fz (isT x.1)]= .ok (.nx [x0,.ou (qkn (dk E) (kIS x.1) (vT v)),.fz (lnT x),.fz (isT x.1)]):=λv h=>by
  unfold qdX
  rw[h]
  show (if (dk E).length<=1000 then Rs.ok (Out.nx [x0,.ou (qkn (dk E) (kIS x.1) (vT v)),.fz (lnT x),.fz (isT x.1)]) else .no)=_
  rw[if_pos hl']
 unfold qop
 cases q:qgw E x.1 with
 | none=>
  rw[qhH,q] at hin
  rw[val x.2 (by unfold qfa; rw[hin]; exact tl),qmn q]
 | some u=>
  rw[qhH,q] at hin
  have g:qcr (dXV 1) (dV 3) [x0,.ou (dk E),.fz (lnT x),.fz (isT x.1)]= .ok (vT u):=by
   show (match some (qf1 (dk E) (kIS x.1)) with | some (some t)=>Rs.ok t | _=>.no)=_
   rw[qhH,q]
   rfl
  rw[val (jn u x.2) (by
   unfold qfa
   rw[hin]
   show (qah t_8 (qab (qcr (dXV 1) (dV 3)) (qab (qeQ (dV 2) (dOS (dC (.int 2))) (dON)) (qan)))) _=_
   unfold qah qab
   rw[g,tl]
   exact qjm u x.2),qmm q]
theorem qnF: ∀(L E dn:List Ln) (s2 s3:Sl),IE E dn->E.length+L.length<=900->∃E' s2' s3',qg0 (gN 2) bR (L.map lnT) [x0,.ou (dk E),s2,s3]= .ok (.nx [x0,.ou (dk E'),s2',s3'])/\IE E' (dn++L)
 | [],E,dn,s2,s3,h,_=>⟨E,s2,s3,rfl,by rw[List.append_nil]; exact h⟩
 | x::L,E,dn,s2,s3,h,hl=>by
  rw[List.length_cons] at hl
  have b:=qsr (x0:=x0) (s3:=s3) (E:=E) (x:=x) (by omega)
  have i2:=h.put x
  have l2:(qop E x).length<=E.length+1:=by
   unfold qop
   split
   ·rw[List.length_map]; omega
   ·rw[List.length_append]; exact Nat.le_refl _
  obtain ⟨E',s2',s3',e,i⟩:=qnF L (qop E x) (dn++[x]) (.fz (lnT x)) (.fz (isT x.1)) i2 (by omega)
  refine ⟨E',s2',s3',?_,by rw[List.append_assoc] at i; exact i⟩
  rw[List.map_cons]
  unfold qg0
  show (bR [x0,.ou (dk E),.fz (lnT x),s3]>>=λo=>qjO o _)=_
  rw[b]
  exact e
end
theorem qdz {E:List Ln} (nd:(E.map (·.1)).Nodup) {x:Ln} (hx:x∈E):qgw E x.1=some x.2:=by
 unfold qgw
 cases q:E.find? (λy=>decide (y.1=x.1)) with
 | none=>exact absurd (decide_eq_true rfl) (List.find?_eq_none.mp q x hx)
 | some y=>
  have e:y.1=x.1:=of_decide_eq_true (List.find?_some (p:=λy:Ln=>decide (y.1=x.1)) q)
  have hy:=List.mem_of_find?_eq_some q
  have:y=x:=by
   obtain ⟨_,a,b,rfl,ha⟩:=List.find?_eq_some_iff_append.mp q
   rw[List.map_append,List.map_cons] at nd
   have nb:=(List.nodup_cons.mp (List.nodup_append.mp nd).2.1).1
   rcases List.mem_append.mp hx with h | h
   ·have:=ha x h
    simp at this
   ·rcases List.mem_cons.mp h with h | h
    ·exact h.symm
    ·exact absurd (List.mem_map.mpr ⟨x,h,e.symm⟩) nb
  rw[this]
  rfl
theorem qix {L:List Ln} (hl:L.length<64): ∃R:List Ln,qlV [.lst (L.map lnT)]= .ok (.tup (R.map lnT))/\IE R L:=by
 obtain ⟨E,s2,s3,e,i⟩:=qnF (x0:=.fz (.lst (L.map lnT))) L [] [] .no .no .nil (by simp; omega)
 rw[List.nil_append] at i
 have lE:(dk E).length<64:=by unfold dk; rw[List.length_map]; have:=i.len; omega
 let f:IS->Ln:=λp=>(p,(qgw E p).getD (0,0,0,0))
 have hE:(E.map (·.1)).map f=E:=by
  rw[List.map_map]
  refine (List.map_congr_left (g:=id) λx hx=> ?_).trans (List.map_id _)
  show (x.1,(qgw E x.1).getD (0,0,0,0))=x
  rw[qdz i.nd hx]
  rfl
 have pm:List.Perm ((qa9 qjJ (E.map (·.1))).map f) E:=by
  have:=(perm_sortA qjJ (E.map (·.1))).map f
  rwa [hE] at this
 refine ⟨(qa9 qjJ (E.map (·.1))).map f,?_,?_,?_,?_,?_,?_⟩
 ·have hs:qg5 (.ou (dk E))= .ok ((qa9 qjJ (E.map (·.1))).map isT):=by
   show (if (dk E).length<64/\((dk E).all λkv=>qpw kv.1)=true then Rs.ok (qdQ (((dk E).map λkv=>qjg kv.1).map isT)) else .no)=_
   have e2:((dk E).map λkv=>qjg kv.1)=E.map (·.1):=by unfold dk; rw[List.map_map]; rfl
   rw[if_pos ⟨lE,by unfold dk; rw[List.all_map,List.all_eq_true]; intro _ _; rfl⟩,e2,qee]
  have c:qat 1 [1] (dI (dFz (qgE (dXV 1)))) (gN 0) (qbS) (dB qbx (dV 0) (qcr (dXV 1) (dV 0))) [.fz (.lst (L.map lnT)),.fz (.dtu (dk E)),s2,s3]= .ok (((qa9 qjJ (E.map (·.1))).filter λ_=>true).map λp=>lnT (f p)):=by
   refine qbR (f:=isT) ?_ λp hp=>⟨rfl,λ_=> ?_⟩
   ·show ((qg5 (.ou (dk E))>>=λxs=>Rs.ok (T.lst xs))>>=qc6)=_
    rw[hs]
    rfl
   ·obtain ⟨x,hx,rfl⟩:=List.mem_map.mp ((perm_sortA qjJ _).mem_iff.mp hp)
    have g:qcr (dXV 1) (dV 0) [.fz (isT x.1),.fz (.dtu (dk E))]= .ok (vT x.2):=by
     show (match some (qf1 (dk E) (kIS x.1)) with | some (some t)=>Rs.ok t | _=>.no)=_
     rw[qhH,qdz i.nd hx]
     rfl
    show ((qcr (dXV 1) (dV 0) [.fz (isT x.1),.fz (.dtu (dk E))])>>=λy=>qbx (isT x.1) y)=Rs.ok (lnT (x.1,(qgw E x.1).getD (0,0,0,0)))
    rw[g,qdz i.nd hx]
    rfl
  rw[List.filter_eq_self.mpr λ_ _=>rfl] at c
  have f1:qfb (dI (dV 0)) (gN 2) bR [.fz (.lst (L.map lnT)),.ou [],.no,.no]= .ok (.nx [.fz (.lst (L.map lnT)),.ou (dk E),s2,s3]):=by
   unfold qfb
   exact e
  have f2:qrq [.fz (.lst (L.map lnT)),.no,.no,.no]= .ok (.rt (.tup ((qa9 qjJ (E.map (·.1))).map λp=>lnT (f p)))):=by
   unfold qrq
   refine qaB (ρ':=[.fz (.lst (L.map lnT)),.od [],.no,.no]) rfl ?_
   refine qaB f1 ?_
   show ((qat 1 [1] (dI (dFz (qgE (dXV 1)))) (gN 0) (qbS) (dB qbx (dV 0) (qcr (dXV 1) (dV 0))) [.fz (.lst (L.map lnT)),.fz (.dtu (dk E)),s2,s3]>>=λts=>Rs.ok (true,ts))>>=qbr)>>=(λt=>Rs.ok (Out.rt t))=_
   rw[c]
   rfl
  show (qrq [.fz (.lst (L.map lnT)),.no,.no,.no]>>=outT)=_
  rw[f2,List.map_map]
  rfl
 ·exact (pm.map _).nodup_iff.mpr i.nd
 ·exact λy hy=>i.sub y (pm.mem_iff.mp hy)
 ·intro g hg k
  rw[<-i.sm g hg k]
  unfold qhO
  exact ql6 pm
 ·intro x hx
  obtain ⟨y,hy,q⟩:=i.lo x hx
  exact ⟨y,pm.mem_iff.mpr hy,q⟩
 ·rw[pm.length_eq]; exact i.len
end K94
end
section
set_option maxHeartbeats 400000
namespace K94
open PySem L2 PL SetL
open AS (IS kIS qeB qjJ qee perm_sortA qaB)
open SR (Ris qa9)
def kT (x:Ln):T:=.tup [.str x.1.2,.int x.2.1,.int x.2.2.1,.int x.2.2.2.1,.int x.2.2.2.2]
abbrev lin (s:Int) (r:Row):Ln:=((r.1 / s,r.2.1),(1,r.2.2,r.2.2,r.2.2))
abbrev zr (x:Ln):Ln:=((0,x.1.2),x.2)
theorem qra {t:List T->Rs T} {d:Ro->Rs T} {ρ:Ro} {a:T} {r:Rs T} (h:d ρ= .ok a) (h2:t [a]=r):qah t (qab d qan) ρ=r:=by
 unfold qah qab; rw[h]; exact h2
theorem qnr {t:List T->Rs T} {d e:Ro->Rs T} {ρ:Ro} {a b:T} {r:Rs T} (h:d ρ= .ok a) (h1:e ρ= .ok b) (h2:t [a,b]=r):qah t (qab d (qab e qan)) ρ=r:=by
 unfold qah qab; rw[h,h1]; exact h2
theorem qlK {t:List T->Rs T} {d e f:Ro->Rs T} {ρ:Ro} {a b c:T} {r:Rs T} (h:d ρ= .ok a) (h1:e ρ= .ok b) (h3:f ρ= .ok c) (h2:t [a,b,c]=r):qah t (qab d (qab e (qab f qan))) ρ=r:=by
 unfold qah qab; rw[h,h1,h3]; exact h2
theorem qtN {d:Ro->Rs (List T)} {ρ:Ro} {ts:List T} (h:d ρ= .ok ts):dFz d ρ= .ok (.lst ts):=by
 unfold dFz; rw[h]; rfl
theorem quy {a b:T} {d e:Ro->Rs T} {ρ:Ro} (h:d ρ= .ok a) (h2:e ρ= .ok b):qaW (qbq (qab d (qab e qan))) ρ= .ok (.rt (.tup [a,b])):=by
 have l2:(2:Nat)<=1000:=by decide
 simp only[qaW,qbq,qab,qan,h,h2,qaj,List.length_cons,List.length_nil,Nat.reduceAdd,l2,if_true]
theorem qjn {rs:List Row} {s:Int} (hr: ∀r∈rs,qke r) (hl:rs.length<64) (hs:0<s/\s<=1000): ∃R:List Ln,qpJ [.int s,qaC rs]= .ok (.tup [.int s,.tup (R.map lnT)])/\IE R (rs.map (lin s)):=by
 obtain ⟨R,e,i⟩:=qix (L:=rs.map (lin s)) (by rw[List.length_map]; exact hl)
 refine ⟨R,?_,i⟩
 have c:qat 3 [0] (dI (dV 1)) (gT 3 (gsC (gN 0) (gsC (gN 1) (gsC (gN 2) (gsN))))) (qbS) (qbq (qab (dB qjL (dV 0) (dV 3)) (qab (dV 1) (qab (dC (.int 1)) (qab (dV 2) (qab (dV 2) (qab (dV 2) (qan)))))))) [.fz (.int s),.fz (qaC rs)]= .ok ((rs.filter λ_=>true).map λr=>lnT (lin s r)):=by
  refine qq6 (a:=λr:Row=>T.int r.1) (b:=λr=>T.str r.2.1) (c:=λr=>T.int r.2.2) rfl λr hr=>⟨rfl,λ_=> ?_⟩
  have g:dB qjL (dV 0) (dV 3) [.fz (.int r.1),.fz (.str r.2.1),.fz (.int r.2.2),.fz (.int s)]= .ok (.int (r.1 / s)):=by
   show qjL (.int r.1) (.int s)=_
   rw[qb7,if_pos ⟨hs.1,by omega⟩]
  show qbq (qab (dB qjL (dV 0) (dV 3)) _) [.fz (.int r.1),.fz (.str r.2.1),.fz (.int r.2.2),.fz (.int s)]=_
  unfold qbq qab
  rw[g]
  rfl
 rw[List.filter_eq_self.mpr λ_ _=>rfl,show (rs.map λr=>lnT (lin s r))=(rs.map (lin s)).map lnT by rw[List.map_map]; rfl] at c
 have f1:qrp [.fz (.int s),.fz (qaC rs)]= .ok (.rt (.tup [.int s,.tup (R.map lnT)])):=by
  unfold qrp
  refine qaB (ρ':=[.fz (.int s),.fz (qaC rs)]) ?_ ?_
  ·show (t_0 [qaC rs]>>=λ_=>Rs.ok (Out.nx [.fz (.int s),.fz (qaC rs)]))=_
   rw[show t_0 [qaC rs]=_ from AS.e_refuse_row hr]
   rfl
  ·have g:qah qlV (qab (dFz (qat 3 [0] (dI (dV 1)) (gT 3 (gsC (gN 0) (gsC (gN 1) (gsC (gN 2) (gsN))))) (qbS) (qbq (qab (dB qjL (dV 0) (dV 3)) (qab (dV 1) (qab (dC (.int 1)) (qab (dV 2) (qab (dV 2) (qab (dV 2) (qan)))))))))) (qan)) [.fz (.int s),.fz (qaC rs)]= .ok (.tup (R.map lnT)):=by
    exact qra (qtN c) e
   exact quy rfl g
 show (qrp [.fz (.int s),.fz (qaC rs)]>>=outT)=_
 rw[f1]
 rfl
theorem qna {R:List Ln} {s:Int} (hl:R.length<64): ∃Q:List Ln,qpH [.tup [.int s,.tup (R.map lnT)]]= .ok (.lst (Q.map kT))/\IE Q (R.map zr):=by
 obtain ⟨Q,e,i⟩:=qix (L:=R.map zr) (by rw[List.length_map]; exact hl)
 refine ⟨Q,?_,i⟩
 have c1:qat 1 [] (dI (dB gIx (dV 0) (dC (.int 1)))) (gN 0) (qbS) (dB qbx (qbq (qab (dC (.int 0)) (qan))) (qeQ (dV 0) (dOS (dC (.int 1))) (dON))) [.fz (.tup [.int s,.tup (R.map lnT)])]= .ok ((R.filter λ_=>true).map λx=>lnT (zr x)):=
  qbR (f:=lnT) rfl λx hx=>⟨rfl,λ_=>rfl⟩
 rw[List.filter_eq_self.mpr λ_ _=>rfl,show (R.map λx=>lnT (zr x))=(R.map zr).map lnT by rw[List.map_map]; rfl] at c1
 have c2:qat 1 [] (dI (qah qlV (qab (dFz (qat 1 [] (dI (dB gIx (dV 0) (dC (.int 1)))) (gN 0) (qbS) (dB qbx (qbq (qab (dC (.int 0)) (qan))) (qeQ (dV 0) (dOS (dC (.int 1))) (dON))))) (qan)))) (gN 0) (qbS) (qeQ (dV 0) (dOS (dC (.int 1))) (dON)) [.fz (.tup [.int s,.tup (R.map lnT)])]= .ok ((Q.filter λ_=>true).map kT):=by
  refine qbR (f:=lnT) ?_ λx hx=>⟨rfl,λ_=>rfl⟩
  show ((((qat 1 [] (dI (dB gIx (dV 0) (dC (.int 1)))) (gN 0) (qbS) (dB qbx (qbq (qab (dC (.int 0)) (qan))) (qeQ (dV 0) (dOS (dC (.int 1))) (dON))) [.fz (.tup [.int s,.tup (R.map lnT)])]>>=λts=>Rs.ok (T.lst ts))>>=λa=>Rs.ok [a])>>=qlV)>>=qc6)=_
  rw[c1,qaj,qaj,qaj,e]
  rfl
 rw[List.filter_eq_self.mpr λ_ _=>rfl] at c2
 show (((qat 1 [] (dI (qah qlV (qab (dFz (qat 1 [] (dI (dB gIx (dV 0) (dC (.int 1)))) (gN 0) (qbS) (dB qbx (qbq (qab (dC (.int 0)) (qan))) (qeQ (dV 0) (dOS (dC (.int 1))) (dON))))) (qan)))) (gN 0) (qbS) (qeQ (dV 0) (dOS (dC (.int 1))) (dON)) [.fz (.tup [.int s,.tup (R.map lnT)])]>>=λts=>Rs.ok (T.lst ts))>>=λt=>Rs.ok (Out.rt t))>>=outT)=_
 rw[c2]
 rfl
structure Own (rs:List Row) (k:Str) (v:V4):Prop where
 ex: ∃r∈rs,r.2.1=k
 many:v.1=((qar rs k).length:Int)
 total:v.2.1=qaL (qar rs k)
 lo: ∀r∈qar rs k,v.2.2.1<=r.2.2/\r.2.2<=v.2.2.2
theorem qjR {f:V4->Int}: ∀{Q:List Ln} {y:Ln},(Q.map (·.1)).Nodup->(∀x∈Q,x.1.1=0)->y∈Q->qhO f Q y.1.2=f y.2
 | [],_,_,_,h=>by cases h
 | q::Q,y,nd,h0,hy=>by
  rw[List.map_cons] at nd
  have nd':=List.nodup_cons.mp nd
  have hne: ∀x∈Q,x.1.2=q.1.2->False:=λx hx e=>nd'.1 (List.mem_map.mpr ⟨x,hx,Prod.ext ((h0 x (List.mem_cons_of_mem _ hx)).trans (h0 q List.mem_cons_self).symm) e⟩)
  rw[show q::Q=[q]++Q from rfl,qbV,qdh]
  rcases List.mem_cons.mp hy with rfl | hy
  ·rw[if_pos rfl]
   have:qhO f Q y.1.2=0:=by
    unfold qhO
    rw[show (Q.map λx=>if x.1.2=y.1.2 then f x.2 else 0)=Q.map λ_=>(0:Int) from List.map_congr_left λx hx=>if_neg λe=>hne x hx e]
    rw[List.map_const',List.sum_replicate_int]
    simp
   rw[this,Int.add_zero]
  ·rw[if_neg (λe=>hne y hy e.symm),qjR nd'.2 (λx hx=>h0 x (List.mem_cons_of_mem _ hx)) hy,Int.zero_add]
theorem qhN (f:V4->Int) (s:Int) (k:Str): ∀rs:List Row,qhO f (rs.map (lin s)) k=((qar rs k).map λr=>f (1,r.2.2,r.2.2,r.2.2)).sum
 | []=>rfl
 | r::rs=>by
  rw[List.map_cons,show lin s r::rs.map (lin s)=[lin s r]++rs.map (lin s) from rfl,qbV,qdh,qhN f s k rs]
  unfold qar
  rw[List.filter_cons]
  by_cases c:r.2.1=k
  ·rw[if_pos c,if_pos (by simpa using c)]; rfl
  ·rw[if_neg c,if_neg (by simpa using c),Int.zero_add]
theorem own_of {rs:List Row} {s:Int} {R Q:List Ln} (i1:IE R (rs.map (lin s))) (i2:IE Q (R.map zr)) {y:Ln} (hy:y∈Q):Own rs y.1.2 y.2:=by
 have h0: ∀x∈Q,x.1.1=0:=λx hx=>by
  obtain ⟨z,hz,e⟩:=i2.sub x hx
  obtain ⟨w,_,rfl⟩:=List.mem_map.mp hz
  rw[<-e]
 have sm: ∀f:V4->Int,(∀u v,f (jn u v)=f u+f v)->f y.2=((qar rs y.1.2).map λr=>f (1,r.2.2,r.2.2,r.2.2)).sum:=λf hf=>by
  rw[<-qjR (f:=f) i2.nd h0 hy,i2.sm f hf,<-qhN f s,<-i1.sm f hf]
  unfold qhO
  rw[List.map_map]
  rfl
 refine ⟨?_,?_,?_,λr hr=> ?_⟩
 ·obtain ⟨z,hz,e⟩:=i2.sub y hy
  obtain ⟨w,hw,rfl⟩:=List.mem_map.mp hz
  obtain ⟨v,hv,e'⟩:=i1.sub w hw
  obtain ⟨r,hr,rfl⟩:=List.mem_map.mp hv
  exact ⟨r,hr,by rw[<-e]; exact congrArg Prod.snd e'⟩
 ·have:=sm (λv=>v.1) λ_ _=>rfl
  rw[this,List.map_const',List.sum_replicate_int]
  simp
 ·exact sm (λv=>v.2.1) λ_ _=>rfl
 ·have hr':=List.mem_filter.mp hr
  have hk:r.2.1=y.1.2:=by simpa using hr'.2
  obtain ⟨y1,h1,e1,l1,l2⟩:=i1.lo (lin s r) (List.mem_map.mpr ⟨r,hr'.1,rfl⟩)
  obtain ⟨y2,h2,e2,m1,m2⟩:=i2.lo (zr y1) (List.mem_map.mpr ⟨y1,h1,rfl⟩)
  have ey:y2.1=y.1:=by
   rw[e2]
   refine Prod.ext (h0 y hy).symm ?_
   show y1.1.2=y.1.2
   rw[e1,<-hk]
  have g1:=qdz i2.nd h2
  have g2:=qdz i2.nd hy
  rw[ey,g2] at g1
  have g1:y.2=y2.2:=by injection g1
  rw[g1]
  exact ⟨Int.le_trans m1 l1,Int.le_trans l2 m2⟩
end K94
end
section
set_option maxHeartbeats 400000
namespace K94
open PySem L2 PL SetL
open AS (IS qes qaB qmd)
open SR (Ris qa9 srt qbJ qb0 qg3)
theorem qhQ (g:Int) (rs:List Row) (k:Str): ∀{ks:List Str},ks.Nodup->(qd8 g ks rs).filter (λs=>s.1==k)=if k∈ks then (qaG g (qar rs k)).map (sOf k) else []
 | [],_=>rfl
 | j::ks,nd=>by
  have nd':=List.nodup_cons.mp nd
  rw[qjV,List.filter_append,qhQ g rs k nd'.2]
  by_cases c:j=k
  ·subst c
   rw[if_pos List.mem_cons_self,if_neg nd'.1,List.append_nil,List.filter_eq_self.mpr]
   intro s hs
   obtain ⟨p,_,rfl⟩:=List.mem_map.mp hs
   show (j==j)=true
   simp
  ·rw[List.filter_eq_nil_iff.mpr]
   ·rw[List.nil_append]
    by_cases d:k∈ks
    ·rw[if_pos d,if_pos (List.mem_cons_of_mem _ d)]
    ·rw[if_neg d,if_neg (λz=>(List.mem_cons.mp z).elim (λz=>c z.symm) d)]
   ·intro s hs
    obtain ⟨p,_,rfl⟩:=List.mem_map.mp hs
    show ¬(j==k)=true
    simpa using c
theorem qcQ {p:List Row} (h:p≠[]): ∃r∈p,r.1=qaQ p:=by
 cases p with
 | nil=>exact absurd rfl h
 | cons r p=>exact ⟨r,List.mem_cons_self,rfl⟩
theorem qil {p:List Row} (h:p≠[]): ∃r∈p,r.1=qaO p:=by
 rcases List.eq_nil_or_concat p with z | ⟨q,r,z⟩
 ·exact absurd z h
 ·rw[List.concat_eq_append] at z
  subst z
  exact ⟨r,by simp,(qb3 q r).symm⟩
theorem qkD {g:Int} (hg:0<=g) {rs:List Row} (h:Ris PL.mo rs) {k:Str} (hk:k∈qcm rs):(qbi g rs).filter (λs=>s.1==k)=(qaG g (qar rs k)).map (sOf k):=by
 unfold qbi ql8
 rw[<-SR.srt_filter,qhQ g rs k (qfm rs),if_pos hk]
 refine qg3 ?_
 have G:=qcz hg (qar rs k) (qaP h k)
 refine List.pairwise_map.mpr (List.Pairwise.imp_of_mem (λ{p p'} hp hp' q=> ?_) G.inc)
 obtain ⟨r,hr,er⟩:=qcQ (G.ne p hp)
 obtain ⟨r',hr',er'⟩:=qcQ (G.ne p' hp')
 have lt:qaQ p<qaQ p':=by have:=q r hr r' hr'; omega
 have kl:qbW (qjK (sOf k p)) (qjK (sOf k p'))=true:=by
  show (if Ky.i (qaQ p)=Ky.i (qaQ p') then _ else decide (qaQ p<qaQ p'))=true
  rw[if_neg (λz=>by injection z with z; omega),decide_eq_true lt]
 have mem: ∀q∈qaG g (qar rs k),qjK (sOf k q)∈(qd8 g (qcm rs) rs).map qjK:=λq hq=>List.mem_map.mpr ⟨sOf k q,List.mem_flatMap.mpr ⟨k,hk,List.mem_map.mpr ⟨q,hq,rfl⟩⟩,rfl⟩
 have:=qb0 qmF (mem p hp) (mem p' hp')
 rw[kl] at this
 have:=of_decide_eq_true this
 show qbJ qbW _ (qjK (sOf k p))<=qbJ qbW _ (qjK (sOf k p'))
 omega
theorem qoz (rs:List Row) (k:Str):qar (qar rs k) k=qar rs k:=by
 unfold qar
 rw[List.filter_filter]
 refine List.filter_congr λr _=> ?_
 simp
theorem qoQ {rs:List Row} {k:Str} (h: ∃r∈rs,r.2.1=k):k∈qcm rs:=qcO.mpr h
theorem qmK {g:Int} (hg:0<=g) {rs:List Row} (h:Ris PL.mo rs) {k:Str} (hk: ∃r∈rs,r.2.1=k):qbi g (qar rs k)=(qaG g (qar rs k)).map (sOf k):=by
 have hk':k∈qcm (qar rs k):=by
  obtain ⟨r,hr,e⟩:=hk
  exact qcO.mpr ⟨r,List.mem_filter.mpr ⟨hr,by simpa using e⟩,e⟩
 have m:=qkD hg (qaP h k) hk'
 rw[qoz,List.filter_eq_self.mpr] at m
 ·exact m
 ·intro s hs
  have:=(qc0 g (qar rs k)).mem_iff.mp hs
  obtain ⟨z,_⟩:=qhP this
  obtain ⟨r,hr,e⟩:=qcO.mp z
  have:=(List.mem_filter.mp hr).2
  have:r.2.1=k:=by simpa using this
  rw[<-e,this]
  simp
theorem qpl {rs:List Row} {P:List (List Row)} (G:Grp rs P) (k:Str):((P.map (sOf k)).map λs=>s.2.2.2.1).sum=(rs.length:Int):=by
 rw[List.map_map,<-G.fl]
 exact qfw (f:=λp=>(p.length:Int)) rfl (λp q=>by simp) P
theorem qoa {rs:List Row} {P:List (List Row)} (G:Grp rs P) (k:Str):((P.map (sOf k)).map λs=>s.2.2.2.2).sum=qaL rs:=by
 rw[List.map_map,<-G.fl]
 exact qfw (f:=qaL) rfl qi8 P
theorem qhW {k:Str}: ∀{rs:List Row} (f:Str->Option Int),rs≠[]->(∀r∈rs,r.2.1=k)->∃m,(qes f rs).getLast? =some (m,k,(f k).getD 0+qaL rs)
 | [],_,h,_=>absurd rfl h
 | [r],f,_,hk=>by
  have e:=hk r List.mem_cons_self
  refine ⟨r.1,?_⟩
  unfold qes qes
  rw[e]
  simp[qaL]
 | r::r'::rs,f,_,hk=>by
  have e:=hk r List.mem_cons_self
  obtain ⟨m,h⟩:=qhW (rs:=r'::rs) (qmd f r.2.1 (some ((f r.2.1).getD 0+r.2.2))) (by simp) λx hx=>hk x (List.mem_cons_of_mem _ hx)
  refine ⟨m,?_⟩
  rw[qes]
  have ne:qes (qmd f r.2.1 (some ((f r.2.1).getD 0+r.2.2))) (r'::rs)≠[]:=by rw[qes]; simp
  rw[List.getLast?_cons_of_ne_nil ne,h]
  unfold qmd
  rw[if_pos e.symm,e]
  show some (m,k,(f k).getD 0+r.2.2+qaL (r'::rs))=some (m,k,(f k).getD 0+qaL (r::r'::rs))
  rw[show qaL (r::r'::rs)=r.2.2+qaL (r'::rs) by simp[qaL],Int.add_assoc]
theorem qkt {g:Int} {rs:List Row} {P:List (List Row)} (G:Grp rs P) (h:Ris PL.mo rs) {p:List Row} (hp:p∈P):(rs.filter λr=>decide (qaQ p<=r.1)&&decide (r.1<=qaO p))=p:=by
 obtain ⟨a,b,rfl⟩:=List.append_of_mem hp
 have fl:=G.fl
 rw[List.flatten_append,List.flatten_cons] at fl
 have inc:=List.pairwise_append.mp G.inc
 have inb:=(List.pairwise_cons.mp inc.2.1).1
 have pn:=G.ne p hp
 obtain ⟨r1,h1,e1⟩:=qcQ pn
 obtain ⟨r2,h2,e2⟩:=qil pn
 have rp:Ris PL.mo p:=by
  have h':=h
  rw[<-fl] at h'
  exact (List.pairwise_append.mp (List.pairwise_append.mp h').2.1).1
 rw[<-fl,List.filter_append,List.filter_append,List.filter_eq_nil_iff.mpr,List.filter_eq_self.mpr,List.filter_eq_nil_iff.mpr,List.append_nil,List.nil_append]
 ·intro r hr
  obtain ⟨q,hq,hr⟩:=List.mem_flatten.mp hr
  have:=inb q hq r2 h2 r hr
  simp
  omega
 ·intro r hr
  have a1:=qeF rp r hr
  have a2:=qdU rp r hr
  simp[a1,a2]
 ·intro r hr
  obtain ⟨q,hq,hr⟩:=List.mem_flatten.mp hr
  have:=inc.2.2 q hq p List.mem_cons_self r hr r1 h1
  simp
  omega
theorem qfd {lo hi:Int}: ∀{p:List Row},(∀r∈p,lo<=r.2.2/\r.2.2<=hi)->lo*(p.length:Int)<=qaL p/\qaL p<=hi*(p.length:Int)
 | [],_=>by simp[qaL]
 | r::p,h=>by
  have a:=h r List.mem_cons_self
  have b:=qfd (p:=p) λx hx=>h x (List.mem_cons_of_mem _ hx)
  rw[show qaL (r::p)=r.2.2+qaL p by simp[qaL],List.length_cons,show ((p.length+1:Nat):Int)=(p.length:Int)+1 by omega,Int.mul_add,Int.mul_add,Int.mul_one,Int.mul_one]
  omega
end K94
end
section
set_option maxHeartbeats 400000
namespace K94
open PySem L2 PL SetL
open AS (IS qes qaB qmd)
open SR (Ris qa9 srt qbJ qb0 qg3)
theorem qfr (r:Row): ∀{rs:List Row},rs≠[]->qdW (rs++[r])=qdW rs++[r.1 - qaO rs]
 | [],h=>absurd rfl h
 | [a],_=>rfl
 | a::b::l,_=>by
  have ih:=qfr r (rs:=b::l) (by simp)
  show (b.1 - a.1)::qdW ((b::l)++[r])=(b.1 - a.1)::qdW (b::l)++[r.1 - qaO (a::b::l)]
  rw[ih]
  have:qaO (a::b::l)=qaO (b::l):=by unfold qaO; rw[List.getLast?_cons_cons]
  rw[this]
  rfl
theorem qgC: ∀{rs:List Row},rs≠[]->(qdW rs).sum=qaO rs - qaQ rs
 | [],h=>absurd rfl h
 | [a],_=>by show (0:Int)=a.1 - a.1; omega
 | a::b::l,_=>by
  have ih:=qgC (rs:=b::l) (by simp)
  show ((b.1 - a.1)::qdW (b::l)).sum=_
  have:qaO (a::b::l)=qaO (b::l):=by unfold qaO; rw[List.getLast?_cons_cons]
  rw[List.sum_cons,ih,this]
  show b.1 - a.1+(qaO (b::l) - b.1)=qaO (b::l) - a.1
  omega
theorem qlb {g:Int} (hg:0<=g): ∀(n:Nat) (rs:List Row),rs.length=n+1->Ris PL.mo rs->(qaG g rs).length=1+((qdW rs).filter λd=>decide (g<d)).length
 | 0,rs,e,_=>by
  obtain ⟨a,rfl⟩:=List.length_eq_one_iff.mp e
  rfl
 | n+1,rs,e,h=>by
  rcases List.eq_nil_or_concat rs with z | ⟨q,r,z⟩
  ·rw[z] at e; cases e
  rw[List.concat_eq_append] at z
  subst z
  have eq:q.length=n+1:=by rw[List.length_append] at e; simpa using e
  have qn:q≠[]:=by intro z; rw[z] at eq; cases eq
  have hq:Ris PL.mo q:=(List.pairwise_append.mp h).1
  have ih:=qlb hg n q eq hq
  have G:=qcz hg q hq
  rw[qc7,qfr r qn,List.filter_append,List.length_append]
  rcases List.eq_nil_or_concat (qaG g q) with z | ⟨a,p,z⟩
  ·rw[z] at ih; simp at ih; omega
  ·rw[List.concat_eq_append] at z
   rw[z] at G ih⊢
   have lm:=(G.last).1
   rw[qeq,lm]
   by_cases c:r.1 - qaO q<=g
   ·rw[if_pos c,List.filter_cons,if_neg (by simp; omega)]
    simp at ih⊢
    omega
   ·rw[if_neg c,List.filter_cons,if_pos (by simp; omega)]
    simp at ih⊢
    omega
theorem qmZ {rs:List Row} {P:List (List Row)} (G:Grp rs P) (hn:rs≠[]): ∃p q a b,P=p::a/\P=b++[q]/\qaQ p=qaQ rs/\qaO q=qaO rs:=by
 have pn:P≠[]:=λz=>hn (G.nil_iff.mp z)
 obtain ⟨p,a,e1⟩:=List.exists_cons_of_ne_nil pn
 rcases List.eq_nil_or_concat P with z | ⟨b,q,z⟩
 ·exact absurd z pn
 rw[List.concat_eq_append] at z
 refine ⟨p,q,a,b,e1,z,?_,?_⟩
 ·have:=G.fl
  rw[e1,List.flatten_cons] at this
  rw[<-this,qeG (G.ne p (by rw[e1]; simp))]
 ·rw[z] at G
  exact G.last.1
end K94
end
section
namespace K94
open PySem L2 PL SetL
open AS (qes no qaB)
open SR (Ris)
section
variable {rs o:List Row} {st:T} {k:Str}
theorem qpT {d e:Ro->Rs Out} {ρ ρ':Ro} {s:Sl} (h:d ρ= .ok (.rs s ρ')):qax d e ρ= .ok (.rs s ρ'):=by
 unfold qax; rw[h]; rfl
abbrev r1 (s X:T) (z:Str):Ro:=[.fz s,.fz X,.pd [],.fz (.str z),.no]
theorem qkL {X:T} {ts:List T} {ρ':Ro} {u:Sl} (h:d_18 [.fz st,.fz X,.pd [],.no,.no]= .ok (.rs (.ow ts) ρ')) (hu:ρ'[2]? =some u) (hp:u.isP=true) (hw:(dTB (dB gEq (dB gIx (dV 0) (dC (.int 0))) (dC (.str "window"))) [.fz st,.fz X,(Sl.pd []).like u.out,.ow ts])= .ok false) (hd:((Sl.pd []).like u.out).isP=true):
  ∃s,q_7 [st,X] (.od [])= .ok (.ow ts,s):=by
 have e1:q_18 [st,X] (.pd [])= .ok (.ow ts,u.out):=by
  show (d_18 [.fz st,.fz X,.pd [],.no,.no]>>=qqs 2)=_
  rw[h]
  show (match ρ'[2]? with | some s=>if (Sl.ow ts).ret=true/\s.isP=true then Rs.ok (Sl.ow ts,s.out) else .no | none=>.no)=_
  rw[hu]
  show (if (Sl.ow ts).ret=true/\u.isP=true then Rs.ok (Sl.ow ts,u.out) else .no)=_
  rw[if_pos ⟨rfl,hp⟩]
 have e2:qlA 3 2 (qab (dV 0) (qab (dV 1) (qan))) q_18 [.fz st,.fz X,.pd [],.no]= .ok (.nx [.fz st,.fz X,(Sl.pd []).like u.out,.ow ts]):=by
  show (q_18 [st,X] (.pd [])>>=λr=>Rs.ok (Out.nx [.fz st,.fz X,(Sl.pd []).like r.2,r.1]))=_
  rw[e1]
  rfl
 refine ⟨((Sl.pd []).like u.out).out,?_⟩
 have e3:d_7 [.fz st,.fz X,.pd [],.no]= .ok (.rs (.ow ts) [.fz st,.fz X,(Sl.pd []).like u.out,.no]):=by
  unfold d_7
  refine qaB e2 (qaB (ρ':=[.fz st,.fz X,(Sl.pd []).like u.out,.ow ts]) ?_ rfl)
  unfold dIf
  rw[hw]
  rfl
 show (d_7 [.fz st,.fz X,.pd [],.no]>>=qqs 2)=_
 rw[e3]
 show (if (Sl.ow ts).ret=true/\((Sl.pd []).like u.out).isP=true then Rs.ok (Sl.ow ts,((Sl.pd []).like u.out).out) else .no)=_
 rw[if_pos ⟨rfl,hd⟩]
theorem qtt: ∃s,q_7 [.tup [.str "key",.str k],qaC rs] (.od [])= .ok (.ow ((qar rs k).map qbz),s):=by
 refine qkL (ρ':=r1 (.tup [.str "key",.str k]) (qaC rs) "key") (u:=.pd []) ?_ rfl rfl (by kernel_rfl) rfl
 unfold d_18
 refine qaB (ρ':=r1 (.tup [.str "key",.str k]) (qaC rs) "key") (by kernel_rfl) (qpT ?_)
 have t:dTB (dB gEq (dV 3) (dC (.str "key"))) (r1 (.tup [.str "key",.str k]) (qaC rs) "key")= .ok true:=by kernel_rfl
 unfold dIf
 rw[t,qaj,if_pos rfl]
 show (AS.o_37 [qaC rs,.str k]>>=λs=>Rs.ok (Out.rs s (r1 (.tup [.str "key",.str k]) (qaC rs) "key")))=_
 rw[AS.q_37]
 rfl
theorem qts (hl:rs.length<=900): ∃s,q_7 [.tup [.str "running"],qaC rs] (.od [])= .ok (.ow ((qes no rs).map qbz),s):=by
 obtain ⟨D,e⟩:=AS.q_running' hl
 have e:q_32 [qaC rs] (.pd [])= .ok (.ow ((qes no rs).map qbz),.od D):=e
 refine qkL (ρ':=[.fz (.tup [.str "running"]),.fz (qaC rs),(Sl.pd []).like (.od D),.fz (.str "running"),.fz (.fn "running")]) (u:=(Sl.pd []).like (.od D)) ?_ rfl rfl (by kernel_rfl) rfl
 unfold d_18
 refine qaB (ρ':=r1 (.tup [.str "running"]) (qaC rs) "running") (by kernel_rfl) ?_
 refine qaB (ρ':=r1 (.tup [.str "running"]) (qaC rs) "running") (by kernel_rfl) ?_
 refine qaB (ρ':=r1 (.tup [.str "running"]) (qaC rs) "running") (by kernel_rfl) ?_
 refine qaB (ρ':=r1 (.tup [.str "running"]) (qaC rs) "running") (by kernel_rfl) ?_
 refine qaB (ρ':=[.fz (.tup [.str "running"]),.fz (qaC rs),.pd [],.fz (.str "running"),.fz (.fn "running")]) (by kernel_rfl) ?_
 have q:qlC 4 2 [(("running" :Str),q_32)] (qab (dV 1) (qan)) [.fz (.tup [.str "running"]),.fz (qaC rs),.pd [],.fz (.str "running"),.fz (.fn "running")]=(q_32 [qaC rs] (.pd [])>>=λr=>.ok (.rs r.1 [.fz (.tup [.str "running"]),.fz (qaC rs),(Sl.pd []).like r.2,.fz (.str "running"),.fz (.fn "running")])):=by kernel_rfl
 rw[q,e]
 rfl
theorem qr0:t_33 [.tup [.str "running"]]= .ok (.bl true):=by kernel_rfl
theorem qr1 (h:qdy k):t_33 [.tup [.str "key",.str k]]= .ok (.bl true):=by
 have e:t_33 [.tup [.str "key",.str k]]=(((t_34 [.str k]>>=λt=>Rs.ok (Out.rt t))>>=λo=>qbH o dNo)>>=outT):=by kernel_rfl
 rw[e,show t_34 [.str k]=_ from AS.e_is_key h]
 rfl
theorem qgT (hs:t_33 [st]= .ok (.bl true)) (hb: ∃s,q_7 [st,qaC rs] (.od [])= .ok (.ow (o.map qbz),s)) (hL:Log rs):t_48 [.tup [st],qaC rs]= .ok (qaC o):=by
 obtain ⟨s,hb⟩:=hb
 have c1:qat 1 [] (dI (dV 0)) (gN 0) (qbS) (qah t_33 (qab (dV 0) (qan))) [.fz (.tup [st])]= .ok (([()].filter λ_=>true).map λ_=>T.bl true):=by
  refine qbR (f:=λ_:Unit=>st) rfl λx _=>⟨rfl,λ_=> ?_⟩
  exact hs
 have e1:t_41 [.tup [st]]= .ok (.bl true):=by
  have:d_41 [.fz (.tup [st])]= .ok (.rt (.bl true)):=by
   unfold d_41
   refine qaB (ρ':=[.fz (.tup [st])]) rfl ?_
   show (((qat 1 [] (dI (dV 0)) (gN 0) (qbS) (qah t_33 (qab (dV 0) (qan))) [.fz (.tup [st])]>>=λts=>Rs.ok (true,ts))>>=qjM)>>=λt=>Rs.ok (Out.rt t))=_
   rw[c1]
   rfl
  show (d_41 [.fz (.tup [st])]>>=outT)=_
  rw[this]
  rfl
 have e2:t_2 [.tup [st]]= .ok .non:=by
  show (((t_41 [.tup [st]]>>=λt=>match t with | .bl b=>Rs.ok b | _=>.no)>>=λc=>Rs.ok (!c))>>=λc=>if c=true then dNo [.fz (.tup [st])] else qav [.fz (.tup [st])])>>=outT=_
  rw[e1]
  rfl
 have e':d_48 [.fz (.tup [st]),.fz (qaC rs),.no,.no]= .ok (.rs (.ow (o.map qbz)) [.fz (.tup [st]),.fz (qaC rs),.no,.fz st]):=by
  unfold d_48
  refine qaB (ρ':=[.fz (.tup [st]),.fz (qaC rs),.no,.no]) ?_ (qaB (ρ':=[.fz (.tup [st]),.fz (qaC rs),.no,.no]) ?_ (qaB (ρ':=[.fz (.tup [st]),.fz (qaC rs),.ow (rs.map qbz),.no]) ?_ (qaB (ρ':=[.fz (.tup [st]),.fz (qaC rs),.ow (o.map qbz),.fz st]) ?_ rfl)))
  ·show (t_2 [.tup [st]]>>=λ_=>Rs.ok (Out.nx [.fz (.tup [st]),.fz (qaC rs),.no,.no]))=_
   rw[e2]
   rfl
  ·show (t_1 [qaC rs]>>=λ_=>Rs.ok (Out.nx [.fz (.tup [st]),.fz (qaC rs),.no,.no]))=_
   rw[e_refuse_log hL]
   rfl
  ·rfl
  ·show (((q_7 [st,qaC rs] (.od [])>>=λr=>Rs.ok r.1)>>=λs=>Rs.ok (Out.nx [.fz (.tup [st]),.fz (qaC rs),s,.fz st]))>>=λo=>qjO o _)=_
   rw[hb]
   rfl
 show ((d_48 [.fz (.tup [st]),.fz (qaC rs),.no,.no]>>=qsx)>>=qtc)=_
 rw[e']
 rfl
theorem qpn (h:qdy k) (hL:Log rs):t_48 [.tup [.tup [.str "key",.str k]],qaC rs]= .ok (qaC (qar rs k)):=qgT (qr1 h) qtt hL
theorem qpm (hL:Log rs) (hl:rs.length<64):t_48 [.tup [.tup [.str "running"]],qaC rs]= .ok (qaC (qes no rs)):=qgT qr0 (qts (by omega)) hL
end
end K94
end
section
set_option maxHeartbeats 400000
namespace K94
open PySem L2 PL SetL
open AS (qes no qaB)
open SR (Ris qa9)
abbrev R (a b c d e f g h i j k l m n o p q:Sl):Ro:=[a,b,c,d,e,f,g,h,i,j,k,l,m,n,o,p,q]
theorem qpx {c:Ro->Rs Bool} {d e:Ro->Rs Out} {ρ:Ro} {r:Rs Out} (h:c ρ= .ok false) (h2:e ρ=r):dIf c d e ρ=r:=by
 unfold dIf; rw[h,qaj,if_neg Bool.false_ne_true]; exact h2
theorem qqt {c d:Ro->Rs Bool} {ρ:Ro} {r:Rs Bool} (h:c ρ= .ok false) (h2:d ρ=r):dOr c d ρ=r:=by
 unfold dOr; rw[h,qaj,if_neg Bool.false_ne_true]; exact h2
theorem tbb {d:Ro->Rs T} {ρ:Ro} {b:Bool} (h:d ρ= .ok (.bl b)):dTB d ρ= .ok b:=by
 unfold dTB; rw[h]; rfl
theorem bin {g:T->T->Rs T} {d e:Ro->Rs T} {ρ:Ro} {a b:T} {r:Rs T} (h:d ρ= .ok a) (h1:e ρ= .ok b) (h2:g a b=r):dB g d e ρ=r:=by
 unfold dB; rw[h,h1]; exact h2
theorem qq8 {d e f:Ro->Rs T} {ρ:Ro} {a b c:Int} (h:d ρ= .ok (.int a)) (h1:e ρ= .ok (.int b)) (h2:f ρ= .ok (.int c)):qaI gLe gLe d e f ρ= .ok (.bl (decide (a<=b)&&decide (b<=c))):=by
 unfold qaI
 rw[h,h1,qaj,qaj,qcA,qaj]
 show (if decide (a<=b)=true then f ρ>>=λu=>gLe (.int b) u else Rs.ok (.bl false))=_
 rw[h2]
 by_cases q:a<=b
 ·rw[if_pos (decide_eq_true q),decide_eq_true q]; rfl
 ·rw[if_neg (by simpa using q),decide_eq_false q]; rfl
theorem qoL (i:Int):gNe (.int i) (.int i)= .ok (.bl false):=by rw[qc8]; simp
theorem qf2 (xs:List Int):qfe (true,xs.map T.int)= .ok (.int xs.sum):=by
 have y:(xs.map T.int).all qk1=true:=by rw[List.all_map,List.all_eq_true]; intro _ _; rfl
 have z:(xs.map T.int).map qgu=xs:=by rw[List.map_map]; simp[Function.comp_def,qgu]
 unfold qfe
 rw[if_pos ⟨rfl,y⟩,z]
theorem qof {d:Ro->Rs (List T)} {ρ:Ro} {xs:List Int} (h:d ρ= .ok (xs.map T.int)):dCQ qfe (dQF d) ρ= .ok (.int xs.sum):=by
 unfold dCQ dQF; rw[h,qaj,qaj,qf2]
theorem fy {α:Type} (l:List α):(l.filter λ_=>true)=l:=List.filter_eq_self.mpr λ_ _=>rfl
theorem inK (k:Str) {ks:List Str} (h:k∈ks):qfN true (.str k) (true,ks.map T.str)= .ok (.bl false):=by
 unfold qfN
 have hok:(ks.map T.str).all (okT 7)=true:=by rw[List.all_map,List.all_eq_true]; intro _ _; rfl
 rw[if_pos ⟨rfl,hok⟩]
 have e:((ks.map T.str).any λu=>PL.eqT u (.str k))=true:=List.any_eq_true.mpr ⟨.str k,List.mem_map_of_mem h,qdH 7 _ rfl⟩
 rw[e]
 rfl
theorem qtK {d:Ro->Rs T} {e:Ro->Rs T} {ρ:Ro} {k:Str} {ks:List Str} (h:d ρ= .ok (.str k)) (h1:e ρ= .ok (.lst (ks.map T.str))) (hk:k∈ks):dTB (dIn true d (dQ e)) ρ= .ok false:=by
 refine tbb ?_
 unfold dIn dQ
 rw[h,h1]
 exact inK k hk
section
variable {x0 x3 x10 x16:Sl} {rs:List Row} {g:Int} {k:Str} {v:V4} {p:List Row}
abbrev rI (x0 x3 x10:Sl) (rs:List Row) (g:Int) (k:Str) (v:V4) (p:List Row) (x16:Sl):Ro:=R x0 (.fz (qaC rs)) (.fz (.int g)) x3 (.fz (.str k)) (.fz (.int v.1)) (.fz (.int v.2.1)) (.fz (.int v.2.2.1)) (.fz (.int v.2.2.2)) (.fz (qaC (qar rs k))) x10 (.fz (.str k)) (.fz (.int (qaQ p))) (.fz (.int (qaO p))) (.fz (.int (p.length:Int))) (.fz (.int (qaL p))) x16
theorem i0 (hg:0<=g) (h:Ris PL.mo rs) (hp:p∈qaG g (qar rs k)):(qby 16 (dFz (qat 1 [12,13] (dI (dV 9)) (gN 0) (dTB (qaI gLe gLe (dV 1) (dB gIx (dV 0) (dC (.int 0))) (dV 2))) (dV 0)))) (rI x0 x3 x10 rs g k v p x16)= .ok (.nx (rI x0 x3 x10 rs g k v p (.fz (qaC p)))):=by
 have G:=qcz hg (qar rs k) (qaP h k)
 have c:qat 1 [12,13] (dI (dV 9)) (gN 0) (dTB (qaI gLe gLe (dV 1) (dB gIx (dV 0) (dC (.int 0))) (dV 2))) (dV 0) (rI x0 x3 x10 rs g k v p x16)= .ok (((qar rs k).filter λr=>decide (qaQ p<=r.1)&&decide (r.1<=qaO p)).map qbz):=
  qbR (f:=qbz) rfl λr hr=>⟨tbb (qq8 rfl rfl rfl),λ_=>rfl⟩
 rw[qkt (g:=g) G (qaP h k) hp] at c
 unfold qby dFz
 rw[c]
 rfl
theorem i1 (hl:p.length<=1000) (hb: ∀r∈p,v.2.2.1<=r.2.2/\r.2.2<=v.2.2.2):(dIf (dOr (dTB (dB gNe (qct (dV 16)) (dV 14))) (dOr (dTB (dB gNe (dCQ qfe (dQF (qat 1 [] (dI (dV 16)) (gN 0) (qbS) (dB gIx (dV 0) (dC (.int 2)))))) (dV 15))) (qck (dTB (qaI gLe gLe (dB qe7 (dV 7) (dV 14)) (dV 15) (dB qe7 (dV 8) (dV 14))))))) (qaW (dC (.bl false))) (qav)) (rI x0 x3 x10 rs g k v p (.fz (qaC p)))= .ok (.nx (rI x0 x3 x10 rs g k v p (.fz (qaC p)))):=by
 refine qpx (qqt (tbb (bin (a:=.int (p.length:Int)) ?_ rfl (qoL _))) (qqt (tbb (bin (a:=.int (qaL p)) ?_ rfl (qoL _))) ?_)) rfl
 ·show Rs.ok (T.int ((p.map qbz).length:Int))=_
  rw[List.length_map]
 ·refine qof (xs:=p.map λr=>r.2.2) ?_
  have c:qat 1 [] (dI (dV 16)) (gN 0) (qbS) (dB gIx (dV 0) (dC (.int 2))) (rI x0 x3 x10 rs g k v p (.fz (qaC p)))= .ok ((p.filter λ_=>true).map λr=>T.int r.2.2):=qbR (f:=qbz) rfl λr hr=>⟨rfl,λ_=>rfl⟩
  rw[fy] at c
  rw[c,List.map_map]
  rfl
 ·have b:=qfd hb
  have m: ∀a:Int,qe7 (.int a) (.int (p.length:Int))= .ok (.int (a*(p.length:Int))):=λa=>by
   rw[qbA,if_pos (.inr ⟨by omega,by omega⟩)]
  have c:dTB (qaI gLe gLe (dB qe7 (dV 7) (dV 14)) (dV 15) (dB qe7 (dV 8) (dV 14))) (rI x0 x3 x10 rs g k v p (.fz (qaC p)))= .ok true:=by
   refine (tbb (qq8 (a:=v.2.2.1*(p.length:Int)) (b:=qaL p) (c:=v.2.2.2*(p.length:Int)) (m _) rfl (m _))).trans ?_
   rw[decide_eq_true b.1,decide_eq_true b.2]
   rfl
  unfold qck
  rw[c]
  rfl
theorem qqw {m:Int} {q:List Row} (hg:0<=g) (h:Ris PL.mo rs) {r:Row} (hr:r∈qar rs k) (h1:r.1<=m) (h2:m<=r.1+g):k∈qa9 RH.ltS (onK g m rs):=by
 have a:=List.mem_filter.mp hr
 have e:r.2.1=k:=by simpa using a.2
 have:=qoI hg h a.1 h1 h2
 rw[e] at this
 exact (AS.perm_sortA _ _).mem_iff.mpr this
theorem i2 (hg:0<=g) (hg2:g<=99) (hL:Log rs) (hl:rs.length<64) (hp:p∈qaG g (qar rs k)):(dIf (dOr (dTB (dIn true (dV 4) (dQ (qah qjI (qab (dV 1) (qab (dV 2) (qab (dB qbx (dV 13) (dV 2)) (qan)))))))) (dTB (dIn true (dV 4) (dQ (qah qjI (qab (dV 1) (qab (dV 2) (qab (dV 12) (qan))))))))) (qaW (dC (.bl false))) (qav)) (rI x0 x3 x10 rs g k v p x16)= .ok (.nx (rI x0 x3 x10 rs g k v p x16)):=by
 have G:=qcz hg (qar rs k) (qaP hL.ris k)
 have pn:=G.ne p hp
 have sub: ∀r∈p,r∈qar rs k:=λr hr=>by rw[<-G.fl]; exact List.mem_flatten.mpr ⟨p,hp,hr⟩
 obtain ⟨r1,h1,e1⟩:=qcQ pn
 obtain ⟨r2,h2,e2⟩:=qil pn
 refine qpx (qqt (qtK rfl (qlK rfl rfl rfl (qfp hg hg2 hL hl)) (qqw (q:=p) hg hL.ris (sub r2 h2) (by omega) (by omega))) (qtK rfl (qlK rfl rfl rfl (qfp hg hg2 hL hl)) (qqw (q:=p) hg hL.ris (sub r1 h1) (by omega) (by omega)))) rfl
abbrev bI:Ro->Rs Out:=qax (qby 16 (dFz (qat 1 [12,13] (dI (dV 9)) (gN 0) (dTB (qaI gLe gLe (dV 1) (dB gIx (dV 0) (dC (.int 0))) (dV 2))) (dV 0)))) (qax (dIf (dOr (dTB (dB gNe (qct (dV 16)) (dV 14))) (dOr (dTB (dB gNe (dCQ qfe (dQF (qat 1 [] (dI (dV 16)) (gN 0) (qbS) (dB gIx (dV 0) (dC (.int 2)))))) (dV 15))) (qck (dTB (qaI gLe gLe (dB qe7 (dV 7) (dV 14)) (dV 15) (dB qe7 (dV 8) (dV 14))))))) (qaW (dC (.bl false))) (qav)) (dIf (dOr (dTB (dIn true (dV 4) (dQ (qah qjI (qab (dV 1) (qab (dV 2) (qab (dB qbx (dV 13) (dV 2)) (qan)))))))) (dTB (dIn true (dV 4) (dQ (qah qjI (qab (dV 1) (qab (dV 2) (qab (dV 12) (qan))))))))) (qaW (dC (.bl false))) (qav)))
theorem qs7 (hg:0<=g) (hg2:g<=99) (hL:Log rs) (hl:rs.length<64) (ow:Own rs k v) (hp:p∈qaG g (qar rs k)):bI (rI x0 x3 x10 rs g k v p x16)= .ok (.nx (rI x0 x3 x10 rs g k v p (.fz (qaC p)))):=by
 have G:=qcz hg (qar rs k) (qaP hL.ris k)
 have sub: ∀r∈p,r∈qar rs k:=λr hr=>by rw[<-G.fl]; exact List.mem_flatten.mpr ⟨p,hp,hr⟩
 have lp:p.length<=1000:=by
  have a:=List.length_filter_le (λr:Row=>r.2.1==k) rs
  have b:p.length<=(qar rs k).length:=by
   rw[<-qkt (g:=g) G (qaP hL.ris k) hp]
   exact List.length_filter_le _ _
  unfold qar at b
  omega
 exact qaB (i0 hg hL.ris hp) (qaB (i1 lp λr hr=>ow.lo r (sub r hr)) (i2 hg hg2 hL hl hp))
end
theorem qnN {rs:List Row} {g:Int} {k:Str} {v:V4} (hg:0<=g) (hg2:g<=99) (hL:Log rs) (hl:rs.length<64) (ow:Own rs k v) (x0 x3 x10:Sl): ∀(P:List (List Row)) (x11 x12 x13 x14 x15 x16:Sl),(∀p∈P,p∈qaG g (qar rs k))->∃y11 y12 y13 y14 y15 y16,qg0 (gT 5 (gsC (gN 11) (gsC (gN 12) (gsC (gN 13) (gsC (gN 14) (gsC (gN 15) (gsN))))))) bI (P.map λp=>stT (sOf k p)) (R x0 (.fz (qaC rs)) (.fz (.int g)) x3 (.fz (.str k)) (.fz (.int v.1)) (.fz (.int v.2.1)) (.fz (.int v.2.2.1)) (.fz (.int v.2.2.2)) (.fz (qaC (qar rs k))) x10 x11 x12 x13 x14 x15 x16)= .ok (.nx (R x0 (.fz (qaC rs)) (.fz (.int g)) x3 (.fz (.str k)) (.fz (.int v.1)) (.fz (.int v.2.1)) (.fz (.int v.2.2.1)) (.fz (.int v.2.2.2)) (.fz (qaC (qar rs k))) x10 y11 y12 y13 y14 y15 y16))
 | [],x11,x12,x13,x14,x15,x16,_=>⟨x11,x12,x13,x14,x15,x16,rfl⟩
 | p::P,x11,x12,x13,x14,x15,x16,hP=>by
  have hp:=hP p List.mem_cons_self
  obtain ⟨y11,y12,y13,y14,y15,y16,ih⟩:=qnN hg hg2 hL hl ow x0 x3 x10 P (.fz (.str k)) (.fz (.int (qaQ p))) (.fz (.int (qaO p))) (.fz (.int (p.length:Int))) (.fz (.int (qaL p))) (.fz (qaC p)) λq hq=>hP q (List.mem_cons_of_mem _ hq)
  refine ⟨y11,y12,y13,y14,y15,y16,?_⟩
  rw[List.map_cons]
  unfold qg0
  show (bI (rI x0 x3 x10 rs g k v p x16)>>=λo=>qjO o _)=_
  rw[qs7 hg hg2 hL hl ow hp]
  exact ih
end K94
end
section
set_option maxHeartbeats 400000
namespace K94
open PySem L2 PL SetL
open AS (qes no qaB)
open SR (Ris qa9)
theorem qio {ts:List T} {x:T}:gIx (.lst (ts++[x])) (.int (-1))= .ok x:=by
 show (match atI (ts++[x]) (-1) with | some t=>Rs.ok t | none=>.no)=_
 rw[qiN]
theorem quU {ts:List T} {x:T}:gIx (.lst (x::ts)) (.int 0)= .ok x:=by
 have e:atI (x::ts) 0=some x:=by
  unfold atI ixN
  rw[if_pos (by decide),if_pos (by rw[List.length_cons]; omega)]
  rfl
 show (match atI (x::ts) 0 with | some t=>Rs.ok t | none=>.no)=_
 rw[e]
section
variable {x0 x9 x10 x11 x12 x13 x14 x15 x16:Sl} {rs:List Row} {g:Int} {k:Str} {v:V4}
abbrev rO (x0:Sl) (rs:List Row) (g:Int) (k:Str) (v:V4) (x9 x10 x11 x12 x13 x14 x15 x16:Sl):Ro:=R x0 (.fz (qaC rs)) (.fz (.int g)) (.fz (.lst ((qbi g rs).map stT))) (.fz (.str k)) (.fz (.int v.1)) (.fz (.int v.2.1)) (.fz (.int v.2.2.1)) (.fz (.int v.2.2.2)) x9 x10 x11 x12 x13 x14 x15 x16
abbrev mT (rs:List Row) (g:Int) (k:Str):T:=.lst (((qaG g (qar rs k)).map (sOf k)).map stT)
theorem o0 (hL:Log rs) (hl:rs.length<64) (hk:qdy k):(qby 9 (qah t_48 (qab (qbq (qab (qbq (qab (dC (.str "key")) (qab (dV 4) (qan)))) (qan))) (qab (dV 1) (qan))))) (rO x0 rs g k v x9 x10 x11 x12 x13 x14 x15 x16)= .ok (.nx (rO x0 rs g k v (.fz (qaC (qar rs k))) x10 x11 x12 x13 x14 x15 x16)):=by
 show (t_48 [.tup [.tup [.str "key",.str k]],qaC rs]>>=λt=>Rs.ok (Out.nx (rO x0 rs g k v (.fz t) x10 x11 x12 x13 x14 x15 x16)))=_
 rw[qpn hk hL]
 rfl
theorem o1 (hg:0<=g) (h:Ris PL.mo rs) (hk: ∃r∈rs,r.2.1=k):(qby 10 (dFz (qat 1 [4] (dI (dV 3)) (gN 0) (dTB (dB gEq (dB gIx (dV 0) (dC (.int 0))) (dV 1))) (dV 0)))) (rO x0 rs g k v x9 x10 x11 x12 x13 x14 x15 x16)= .ok (.nx (rO x0 rs g k v x9 (.fz (mT rs g k)) x11 x12 x13 x14 x15 x16)):=by
 have c:qat 1 [4] (dI (dV 3)) (gN 0) (dTB (dB gEq (dB gIx (dV 0) (dC (.int 0))) (dV 1))) (dV 0) (rO x0 rs g k v x9 x10 x11 x12 x13 x14 x15 x16)= .ok (((qbi g rs).filter λs=>s.1==k).map stT):=qbR (f:=stT) rfl λs hs=>⟨rfl,λ_=>rfl⟩
 rw[qkD hg h (qoQ hk)] at c
 unfold qby dFz
 rw[c]
 rfl
theorem qkI (hL:Log rs):Log (qar rs k):=hL.filter _
theorem qkJ (hl:rs.length<64):(qar rs k).length<64:=Nat.lt_of_le_of_lt (List.length_filter_le _ _) hl
theorem qku (hk: ∃r∈rs,r.2.1=k):qar rs k≠[]:=by
 obtain ⟨r,hr,e⟩:=hk
 exact List.ne_nil_of_mem (List.mem_filter.mpr ⟨hr,by simpa using e⟩)
theorem col (i:Int) (f:S5->Int) (hi: ∀s,gIx (stT s) (.int i)= .ok (.int (f s))):qat 1 [] (dI (dV 10)) (gN 0) (qbS) (dB gIx (dV 0) (dC (.int i))) (rO x0 rs g k v x9 (.fz (mT rs g k)) x11 x12 x13 x14 x15 x16)= .ok ((((qaG g (qar rs k)).map (sOf k)).map f).map T.int):=by
 have c:qat 1 [] (dI (dV 10)) (gN 0) (qbS) (dB gIx (dV 0) (dC (.int i))) (rO x0 rs g k v x9 (.fz (mT rs g k)) x11 x12 x13 x14 x15 x16)= .ok ((((qaG g (qar rs k)).map (sOf k)).filter λ_=>true).map λs=>T.int (f s)):=qbR (f:=stT) rfl λs hs=>⟨rfl,λ_=>hi s⟩
 rw[fy] at c
 rw[c,List.map_map (l:=(qaG g (qar rs k)).map (sOf k))]
 rfl
theorem o2 (hg:0<=g) (hg2:g<=99) (hL:Log rs) (hl:rs.length<64) (ow:Own rs k v):(dIf (dOr (dTB (dB gNe (qah qjP (qab (dV 9) (qab (dV 2) (qan)))) (dV 10))) (dTB (dB gNe (dCQ qfe (dQF (qat 1 [] (dI (dV 10)) (gN 0) (qbS) (dB gIx (dV 0) (dC (.int 3)))))) (dV 5)))) (qaW (dC (.bl false))) (qav)) (rO x0 rs g k v (.fz (qaC (qar rs k))) (.fz (mT rs g k)) x11 x12 x13 x14 x15 x16)= .ok (.nx (rO x0 rs g k v (.fz (qaC (qar rs k))) (.fz (mT rs g k)) x11 x12 x13 x14 x15 x16)):=by
 have G:=qcz hg (qar rs k) (qaP hL.ris k)
 refine qpx (qqt (tbb (bin (a:=mT rs g k) (qnr rfl rfl ((qc9 hg hg2 (qkI hL) (qkJ hl)).trans ?_)) rfl (qoJ (qqx _)))) (tbb (bin (qof (col 3 (λs=>s.2.2.2.1) λ_=>rfl)) rfl ?_))) rfl
 ·rw[qmK hg hL.ris ow.ex]
 ·rw[qpl G k,ow.many]
  exact qoL _
theorem o3 (hg:0<=g) (hL:Log rs) (hl:rs.length<64) (ow:Own rs k v):(dIf (dOr (dTB (dB gNe (dCQ qfe (dQF (qat 1 [] (dI (dV 10)) (gN 0) (qbS) (dB gIx (dV 0) (dC (.int 4)))))) (dV 6))) (dTB (dB gNe (dB gIx (dB gIx (qah t_48 (qab (qbq (qab (qbq (qab (dC (.str "running")) (qan))) (qan))) (qab (dV 9) (qan)))) (qbp (dC (.int 1)))) (dC (.int 2))) (dV 6)))) (qaW (dC (.bl false))) (qav)) (rO x0 rs g k v (.fz (qaC (qar rs k))) (.fz (mT rs g k)) x11 x12 x13 x14 x15 x16)= .ok (.nx (rO x0 rs g k v (.fz (qaC (qar rs k))) (.fz (mT rs g k)) x11 x12 x13 x14 x15 x16)):=by
 have G:=qcz hg (qar rs k) (qaP hL.ris k)
 obtain ⟨m,e⟩:=qhW (k:=k) no (qku ow.ex) λr hr=>by simpa using (List.mem_filter.mp hr).2
 obtain ⟨ys,ey⟩:=List.getLast?_eq_some_iff.mp e
 refine qpx (qqt (tbb (bin (qof (col 4 (λs=>s.2.2.2.2) λ_=>rfl)) rfl ?_)) (tbb (bin (a:=.int v.2.1) (bin (a:=qbz (m,k,(no k).getD 0+qaL (qar rs k))) (b:=.int 2) (bin (a:=qaC (qes no (qar rs k))) (b:=.int (-1)) (qnr rfl rfl (qpm (qkI hL) (qkJ hl))) rfl ?_) rfl ?_) rfl (qoL _)))) rfl
 ·rw[qoa G k,ow.total]
  exact qoL _
 ·rw[ey]
  show gIx (.lst ((ys++[(m,k,(no k).getD 0+qaL (qar rs k))]).map qbz)) _=_
  rw[List.map_append]
  exact qio
 ·show Rs.ok (T.int (0+qaL (qar rs k)))=_
  rw[Int.zero_add,ow.total]
theorem o4 (hg:0<=g) (hL:Log rs) (ow:Own rs k v):(dIf (dTB (dB gNe (qct (dV 10)) (dB qbx (dC (.int 1)) (dCQ qfl (dQF (qat 1 [2] (dI (qah qiU (qab (dV 1) (qab (dV 4) (qan))))) (gN 0) (dTB (dB gGt (dV 0) (dV 1))) (dC (.int 1)))))))) (qaW (dC (.bl false))) (qav)) (rO x0 rs g k v x9 (.fz (mT rs g k)) x11 x12 x13 x14 x15 x16)= .ok (.nx (rO x0 rs g k v x9 (.fz (mT rs g k)) x11 x12 x13 x14 x15 x16)):=by
 have on:=qku ow.ex
 have c:qat 1 [2] (dI (qah qiU (qab (dV 1) (qab (dV 4) (qan))))) (gN 0) (dTB (dB gGt (dV 0) (dV 1))) (dC (.int 1)) (rO x0 rs g k v x9 (.fz (mT rs g k)) x11 x12 x13 x14 x15 x16)= .ok (((qdW (qar rs k)).filter λd=>decide (g<d)).map λ_=>T.int 1):=by
  refine qbR (f:=T.int) ?_ λd hd=>⟨rfl,λ_=>rfl⟩
  show (qiU [qaC rs,.str k]>>=qc6)=_
  rw[qiy hL]
  rfl
 have n:=qlb hg ((qar rs k).length - 1) (qar rs k) (by have:=List.length_pos_iff.mpr on; omega) (qaP hL.ris k)
 refine qpx (tbb (bin (a:=.int ((qaG g (qar rs k)).length:Int)) (b:=.int ((qaG g (qar rs k)).length:Int)) ?_ (bin rfl (b:=.int (((qdW (qar rs k)).filter λd=>decide (g<d)).length:Int)) ?_ ?_) (qoL _))) rfl
 ·show Rs.ok (T.int ((((qaG g (qar rs k)).map (sOf k)).map stT).length:Int))=_
  rw[List.length_map,List.length_map]
 ·unfold dCQ dQF
  rw[c]
  show Rs.ok (T.int ((((qdW (qar rs k)).filter λd=>decide (g<d)).map λ_=>T.int 1).length:Int))=_
  rw[List.length_map]
 ·rw[qba,n]
  congr 2
theorem o5 (hg:0<=g) (hL:Log rs) (ow:Own rs k v):(dIf (dTB (dB gNe (dCQ qfe (dQ (qah qiU (qab (dV 1) (qab (dV 4) (qan)))))) (dB gSub (dB gIx (dB gIx (dV 10) (qbp (dC (.int 1)))) (dC (.int 2))) (dB gIx (dB gIx (dV 10) (dC (.int 0))) (dC (.int 1)))))) (qaW (dC (.bl false))) (qav)) (rO x0 rs g k v x9 (.fz (mT rs g k)) x11 x12 x13 x14 x15 x16)= .ok (.nx (rO x0 rs g k v x9 (.fz (mT rs g k)) x11 x12 x13 x14 x15 x16)):=by
 have on:=qku ow.ex
 have G:=qcz hg (qar rs k) (qaP hL.ris k)
 obtain ⟨p,q,a,b,ep,eq,fp,lq⟩:=qmZ G on
 have h1:gIx (mT rs g k) (.int (-1))= .ok (stT (sOf k q)):=by
  unfold mT
  rw[eq,List.map_append,List.map_append]
  exact qio
 have h0:gIx (mT rs g k) (.int 0)= .ok (stT (sOf k p)):=by
  unfold mT
  rw[ep]
  exact quU
 refine qpx (tbb (bin (a:=.int ((qdW (qar rs k)).sum)) (b:=.int (qaO q - qaQ p)) ?_ (bin (a:=.int (qaO q)) (b:=.int (qaQ p)) (bin (bin rfl rfl h1) rfl rfl) (bin (bin rfl rfl h0) rfl rfl) (qbL _ _)) ?_)) rfl
 ·show ((qiU [qaC rs,.str k]>>=qg6)>>=qfe)=_
  rw[qiy hL]
  exact qf2 _
 ·rw[qgC on,fp,lq]
  exact qoL _
abbrev bO:Ro->Rs Out:=qax (qby 9 (qah t_48 (qab (qbq (qab (qbq (qab (dC (.str "key")) (qab (dV 4) (qan)))) (qan))) (qab (dV 1) (qan))))) (qax (qby 10 (dFz (qat 1 [4] (dI (dV 3)) (gN 0) (dTB (dB gEq (dB gIx (dV 0) (dC (.int 0))) (dV 1))) (dV 0)))) (qax (dIf (dOr (dTB (dB gNe (qah qjP (qab (dV 9) (qab (dV 2) (qan)))) (dV 10))) (dTB (dB gNe (dCQ qfe (dQF (qat 1 [] (dI (dV 10)) (gN 0) (qbS) (dB gIx (dV 0) (dC (.int 3)))))) (dV 5)))) (qaW (dC (.bl false))) (qav)) (qax (dIf (dOr (dTB (dB gNe (dCQ qfe (dQF (qat 1 [] (dI (dV 10)) (gN 0) (qbS) (dB gIx (dV 0) (dC (.int 4)))))) (dV 6))) (dTB (dB gNe (dB gIx (dB gIx (qah t_48 (qab (qbq (qab (qbq (qab (dC (.str "running")) (qan))) (qan))) (qab (dV 9) (qan)))) (qbp (dC (.int 1)))) (dC (.int 2))) (dV 6)))) (qaW (dC (.bl false))) (qav)) (qax (dIf (dTB (dB gNe (qct (dV 10)) (dB qbx (dC (.int 1)) (dCQ qfl (dQF (qat 1 [2] (dI (qah qiU (qab (dV 1) (qab (dV 4) (qan))))) (gN 0) (dTB (dB gGt (dV 0) (dV 1))) (dC (.int 1)))))))) (qaW (dC (.bl false))) (qav)) (qax (dIf (dTB (dB gNe (dCQ qfe (dQ (qah qiU (qab (dV 1) (qab (dV 4) (qan)))))) (dB gSub (dB gIx (dB gIx (dV 10) (qbp (dC (.int 1)))) (dC (.int 2))) (dB gIx (dB gIx (dV 10) (dC (.int 0))) (dC (.int 1)))))) (qaW (dC (.bl false))) (qav)) (qfb (dI (dV 10)) (gT 5 (gsC (gN 11) (gsC (gN 12) (gsC (gN 13) (gsC (gN 14) (gsC (gN 15) (gsN))))))) (qax (qby 16 (dFz (qat 1 [12,13] (dI (dV 9)) (gN 0) (dTB (qaI gLe gLe (dV 1) (dB gIx (dV 0) (dC (.int 0))) (dV 2))) (dV 0)))) (qax (dIf (dOr (dTB (dB gNe (qct (dV 16)) (dV 14))) (dOr (dTB (dB gNe (dCQ qfe (dQF (qat 1 [] (dI (dV 16)) (gN 0) (qbS) (dB gIx (dV 0) (dC (.int 2)))))) (dV 15))) (qck (dTB (qaI gLe gLe (dB qe7 (dV 7) (dV 14)) (dV 15) (dB qe7 (dV 8) (dV 14))))))) (qaW (dC (.bl false))) (qav)) (dIf (dOr (dTB (dIn true (dV 4) (dQ (qah qjI (qab (dV 1) (qab (dV 2) (qab (dB qbx (dV 13) (dV 2)) (qan)))))))) (dTB (dIn true (dV 4) (dQ (qah qjI (qab (dV 1) (qab (dV 2) (qab (dV 12) (qan))))))))) (qaW (dC (.bl false))) (qav))))))))))
theorem qsY (hg:0<=g) (hg2:g<=99) (hL:Log rs) (hl:rs.length<64) (ow:Own rs k v): ∃y9 y10 y11 y12 y13 y14 y15 y16,bO (rO x0 rs g k v x9 x10 x11 x12 x13 x14 x15 x16)= .ok (.nx (rO x0 rs g k v y9 y10 y11 y12 y13 y14 y15 y16)):=by
 have hk:qdy k:=by
  obtain ⟨r,hr,e⟩:=ow.ex
  rw[<-e]
  exact (hL.ok r hr).2.1
 obtain ⟨y11,y12,y13,y14,y15,y16,e⟩:=qnN hg hg2 hL hl ow x0 (.fz (.lst ((qbi g rs).map stT))) (.fz (mT rs g k)) (qaG g (qar rs k)) x11 x12 x13 x14 x15 x16 λp hp=>hp
 refine ⟨.fz (qaC (qar rs k)),.fz (mT rs g k),y11,y12,y13,y14,y15,y16,qaB (o0 hL hl hk) (qaB (o1 hg hL.ris ow.ex) (qaB (o2 hg hg2 hL hl ow) (qaB (o3 hg hL hl ow) (qaB (o4 hg hL ow) (qaB (o5 hg hL ow) ?_)))))⟩
 unfold qfb
 show qg0 _ bI (((qaG g (qar rs k)).map (sOf k)).map stT) _=_
 rw[List.map_map]
 exact e
end
theorem qnK {rs:List Row} {g:Int} (hg:0<=g) (hg2:g<=99) (hL:Log rs) (hl:rs.length<64) (x0:Sl): ∀(Q:List Ln) (x4 x5 x6 x7 x8 x9 x10 x11 x12 x13 x14 x15 x16:Sl),(∀y∈Q,Own rs y.1.2 y.2)->∃y4 y5 y6 y7 y8 y9 y10 y11 y12 y13 y14 y15 y16,qg0 (gT 5 (gsC (gN 4) (gsC (gN 5) (gsC (gN 6) (gsC (gN 7) (gsC (gN 8) (gsN))))))) bO (Q.map kT) (R x0 (.fz (qaC rs)) (.fz (.int g)) (.fz (.lst ((qbi g rs).map stT))) x4 x5 x6 x7 x8 x9 x10 x11 x12 x13 x14 x15 x16)= .ok (.nx (R x0 (.fz (qaC rs)) (.fz (.int g)) (.fz (.lst ((qbi g rs).map stT))) y4 y5 y6 y7 y8 y9 y10 y11 y12 y13 y14 y15 y16))
 | [],x4,x5,x6,x7,x8,x9,x10,x11,x12,x13,x14,x15,x16,_=>⟨x4,x5,x6,x7,x8,x9,x10,x11,x12,x13,x14,x15,x16,rfl⟩
 | y::Q,x4,x5,x6,x7,x8,x9,x10,x11,x12,x13,x14,x15,x16,hQ=>by
  obtain ⟨z9,z10,z11,z12,z13,z14,z15,z16,b⟩:=qsY (x0:=x0) (x9:=x9) (x10:=x10) (x11:=x11) (x12:=x12) (x13:=x13) (x14:=x14) (x15:=x15) (x16:=x16) hg hg2 hL hl (hQ y List.mem_cons_self)
  obtain ⟨y4,y5,y6,y7,y8,y9,y10,y11,y12,y13,y14,y15,y16,ih⟩:=qnK hg hg2 hL hl x0 Q (.fz (.str y.1.2)) (.fz (.int y.2.1)) (.fz (.int y.2.2.1)) (.fz (.int y.2.2.2.1)) (.fz (.int y.2.2.2.2)) z9 z10 z11 z12 z13 z14 z15 z16 λq hq=>hQ q (List.mem_cons_of_mem _ hq)
  refine ⟨y4,y5,y6,y7,y8,y9,y10,y11,y12,y13,y14,y15,y16,?_⟩
  rw[List.map_cons]
  unfold qg0
  show (bO (rO x0 rs g y.1.2 y.2 x9 x10 x11 x12 x13 x14 x15 x16)>>=λo=>qjO o _)=_
  rw[b]
  exact ih
end K94
end
section
set_option maxHeartbeats 400000
namespace K94
open PySem L2 PL SetL
open AS (qes no qaB)
open SR (Ris qa9)
theorem qqG {g:Int} {rs:List Row} {s:S5} (h:s∈qbi g rs):s.1∈rs.map λr=>r.2.1:=by
 have:=(qc0 g rs).mem_iff.mp h
 obtain ⟨z,_⟩:=qhP this
 obtain ⟨r,hr,e⟩:=qcO.mp z
 exact List.mem_map.mpr ⟨r,hr,e⟩
theorem qry {a b:T} {d e:Ro->Rs T} {ρ:Ro} (h:d ρ= .ok a) (h2:e ρ= .ok b):qbq (qab d (qab e qan)) ρ= .ok (.tup [a,b]):=by
 have l2:(2:Nat)<=1000:=by decide
 simp only[qbq,qab,qan,h,h2,qaj,List.length_cons,List.length_nil,Nat.reduceAdd,l2,if_true]
theorem qsn {d:Ro->Rs T} {ρ:Ro} {t:T} (h:d ρ= .ok t):qaW d ρ= .ok (.rt t):=by
 unfold qaW; rw[h]; rfl
theorem fin {rs:List Row} {g:Int} {x0 x4 x5 x6 x7 x8 x9 x10 x11 x12 x13 x14 x15 x16:Sl}:(qaW (dB gEq (dFz (qat 1 [1] (dI (dV 3)) (gN 0) (dTB (dIn true (dB gIx (dV 0) (dC (.int 0))) (dQF (qat 1 [] (dI (dV 1)) (gN 0) (qbS) (dB gIx (dV 0) (dC (.int 1))))))) (dB gIx (dV 0) (dC (.int 0))))) (dFz (qdg (qan))))) (R x0 (.fz (qaC rs)) (.fz (.int g)) (.fz (.lst ((qbi g rs).map stT))) x4 x5 x6 x7 x8 x9 x10 x11 x12 x13 x14 x15 x16)= .ok (.rt (.bl true)):=by
 have c:qat 1 [1] (dI (dV 3)) (gN 0) (dTB (dIn true (dB gIx (dV 0) (dC (.int 0))) (dQF (qat 1 [] (dI (dV 1)) (gN 0) (qbS) (dB gIx (dV 0) (dC (.int 1))))))) (dB gIx (dV 0) (dC (.int 0))) (R x0 (.fz (qaC rs)) (.fz (.int g)) (.fz (.lst ((qbi g rs).map stT))) x4 x5 x6 x7 x8 x9 x10 x11 x12 x13 x14 x15 x16)= .ok (((qbi g rs).filter λ_=>false).map λs=>T.str s.1):=by
  refine qbR (f:=stT) rfl λs hs=>⟨?_,λ_=>rfl⟩
  have c1:qat 1 [] (dI (dV 1)) (gN 0) (qbS) (dB gIx (dV 0) (dC (.int 1))) [.fz (stT s),.fz (qaC rs)]= .ok ((rs.filter λ_=>true).map λr=>T.str r.2.1):=qbR (f:=qbz) rfl λr hr=>⟨rfl,λ_=>rfl⟩
  rw[fy,show (rs.map λr=>T.str r.2.1)=(rs.map λr=>r.2.1).map T.str by rw[List.map_map]; rfl] at c1
  refine tbb ?_
  show (qat 1 [] (dI (dV 1)) (gN 0) (qbS) (dB gIx (dV 0) (dC (.int 1))) [.fz (stT s),.fz (qaC rs)]>>=λts=>Rs.ok (true,ts))>>=(λq=>qfN true (.str s.1) q)=_
  rw[c1]
  exact inK _ (qqG hs)
 rw[show ((qbi g rs).filter λ_=>false)=[] from List.filter_eq_nil_iff.mpr λ_ _=>by simp] at c
 exact qsn (bin (qtN c) rfl rfl)
theorem law_true {ns:List Int} (hn:ns.length<=63):t_law [.scr ns]= .ok (.bl true):=by
 obtain ⟨rs,hL,n12,er⟩:=qqV hn (k:=100) (most:=12) (by decide) (by decide) (by decide) (by decide)
 have hl:rs.length<64:=by omega
 obtain ⟨g,g0,g9,eg⟩:=qcg hn (k:=0) (many:=9) (by decide) (by decide) (by decide)
 obtain ⟨s,s0,s1,es⟩:=qcg hn (k:=1) (many:=20) (by decide) (by decide) (by decide)
 obtain ⟨T1,e1,i1⟩:=qjn hL.ok hl (s:=1+s) ⟨by omega,by omega⟩
 have l1:=i1.len
 rw[List.length_map] at l1
 obtain ⟨Q,e2,i2⟩:=qna (R:=T1) (s:=1+s) (by omega)
 obtain ⟨y4,y5,y6,y7,y8,y9,y10,y11,y12,y13,y14,y15,y16,el⟩:=qnK (g:=g) g0 (by omega) hL hl (.fz (.scr ns)) Q .no .no .no .no .no .no .no .no .no .no .no .no .no λy hy=>own_of i1 i2 hy
 have h:qni (R (.fz (.scr ns)) .no .no .no .no .no .no .no .no .no .no .no .no .no .no .no .no)= .ok (.rt (.bl true)):=by
  unfold qni
  refine qaB (ρ':=R (.fz (.scr ns)) (.fz (qaC rs)) (.fz (.int g)) .no .no .no .no .no .no .no .no .no .no .no .no .no .no) ?_ ?_
  ·have a:qbq (qab (qah qpt (qab (dV 0) (qab (dC (.int 100)) (qab (dC (.int 12)) (qan))))) (qab (qah qep (qab (dV 0) (qab (dC (.int 0)) (qab (dC (.int 9)) (qan))))) (qan))) (R (.fz (.scr ns)) .no .no .no .no .no .no .no .no .no .no .no .no .no .no .no .no)= .ok (.tup [qaC rs,.int g]):=by
    exact qry (qlK rfl rfl rfl er) (qlK rfl rfl rfl eg)
   unfold qcH
   rw[a]
   rfl
  refine qaB (ρ':=R (.fz (.scr ns)) (.fz (qaC rs)) (.fz (.int g)) (.fz (.lst ((qbi g rs).map stT))) .no .no .no .no .no .no .no .no .no .no .no .no .no) ?_ ?_
  ·unfold qby
   rw[qnr rfl rfl (qc9 g0 (by omega) hL hl)]
   rfl
  refine qaB (ρ':=R (.fz (.scr ns)) (.fz (qaC rs)) (.fz (.int g)) (.fz (.lst ((qbi g rs).map stT))) y4 y5 y6 y7 y8 y9 y10 y11 y12 y13 y14 y15 y16) ?_ fin
  unfold qfb
  rw[show (dI (qah qpH (qab (qah qpJ (qab (dB qbx (dC (.int 1)) (qah qep (qab (dV 0) (qab (dC (.int 1)) (qab (dC (.int 20)) (qan)))))) (qab (dV 1) (qan)))) (qan)))) (R (.fz (.scr ns)) (.fz (qaC rs)) (.fz (.int g)) (.fz (.lst ((qbi g rs).map stT))) .no .no .no .no .no .no .no .no .no .no .no .no .no)= .ok (Q.map kT) from by
   unfold dI
   rw[qra (qnr (bin rfl (qlK rfl rfl rfl es) (qba _ _)) rfl e1) e2]
   rfl]
  exact el
 show (qni (R (.fz (.scr ns)) .no .no .no .no .no .no .no .no .no .no .no .no .no .no .no .no)>>=outT)=_
 rw[h]
 rfl
end K94
end
section
namespace K94
open PySem L2 PL SetL
section
variable {P:Program} {w:World} {K:PySem.W.Frag} {mg:Str->Option Value} {base:Heap} {G:Gam} {C:Str->Addr}
theorem qqy {f:Addr} {fd:FuncData} (F:Fun K "law" "law" qf8 f fd) (nb: ∀x∈namesX,mg x=none) (F_24:Kn P w K mg base G C "_law_pick" ["_law_script", "_law_k", "_law_many"] 2 qep) (F_25:Kn P w K mg base G C "_law_rows" ["_law_script", "_law_at", "_law_most"] 4 qpt) (F_48:KnS P w K mg base G C "asked" ["ask", "rows"] 6 o_48) (F_44:Kn P w K mg base G C "by_key" ["table"] 3 qpH) (F_27:Kn P w K mg base G C "going_on" ["rows", "gap", "moment"] 7 qjI) (F_43:Kn P w K mg base G C "pauses" ["rows", "key"] 6 qiU) (F_22:Kn P w K mg base G C "stretches" ["rows", "gap"] 6 qjP) (F_28:Kn P w K mg base G C "table_of" ["size", "rows"] 5 qpJ):qbo P w K mg base CX0 8 f fd ["_law_script"] (spP K G C t_law):=
 qbN F qbI λcdv A outer s H E hr=>qag (qo4 (qcj (qac (qai F_25 rfl (hr.mono (by decide)) rfl (qac (qaa (pv 0)) (qac (qaf) (qac (qaf) (qam))))) (qac (qai F_24 rfl (hr.mono (by decide)) rfl (qac (qaa (pv 0)) (qac (qaf) (qac (qaf) (qam))))) (qam)))) (qd7 rfl (qaA (qaV (qaq (i:=1) qbI.nd rfl (by trivial))) (qaA (qaV (qaq (i:=2) qbI.nd rfl (by trivial))) (qcE))))) (qag (qci (i:=3) qbI.nd rfl (by trivial) (qai F_22 rfl (hr.mono (by decide)) rfl (qac (qaa (pv 1)) (qac (qaa (pv 2)) (qam))))) (qag (qd6 PassesOwn.never rfl (qa4 (qai F_44 rfl (hr.mono (by decide)) rfl (qac (qai F_28 rfl (hr.mono (by decide)) rfl (qac (qaJ qaN qa0 qa1 (qaf) (qai F_24 rfl (hr.mono (by decide)) rfl (qac (qaa (pv 0)) (qac (qaf) (qac (qaf) (qam)))))) (qac (qaa (pv 1)) (qam)))) (qam)))) (qd7 rfl (qaA (qaV (qaq (i:=4) qbI.nd rfl (by trivial))) (qaA (qaV (qaq (i:=5) qbI.nd rfl (by trivial))) (qaA (qaV (qaq (i:=6) qbI.nd rfl (by trivial))) (qaA (qaV (qaq (i:=7) qbI.nd rfl (by trivial))) (qaA (qaV (qaq (i:=8) qbI.nd rfl (by trivial))) (qcE))))))) (qag (qci (i:=9) qbI.nd rfl (by trivial) (qai F_48.kn rfl (hr.mono (by decide)) rfl (qac (qcj (qac (qcj (qac (qcF) (qac (qaa (pv 4)) (qam)))) (qam))) (qac (qaa (pv 1)) (qam))))) (qag (qda (i:=10) (own:=["_law_one"]) (fr:=[("_law_key_here",4)]) rfl (qa4 (qaa (pv 3))) (qbT) rfl (by decide+kernel) (by decide+kernel) (RH.fr_ok (sd:=qae qf8) rfl (by decide+kernel)) (by trivial) (λfp s3 H3=>⟨qaV (qaq (i:=0) (show (["_law_one", "_law_key_here"]:List Str).Nodup by decide+kernel) rfl (by trivial)),qfj (qbb (qcW (hu8 hr)) qeZ qe1 (qaU qaw qaS qaT (qaa (pv 0)) (qaf) (λ_ _=>rfl)) (qaa (pv 1))),qaa (pv 0)⟩) qbI.nd rfl rfl) (qag (qbP (qlX (qeI (qbb (qcV (hu8 hr)) qeY qe0 (qai F_22 rfl (hr.mono (by decide)) rfl (qac (qaa (pv 9)) (qac (qaa (pv 2)) (qam)))) (qaa (pv 10))) (qdK (qbb (qcV (hu8 hr)) qeY qe0 (qiB (qaz (qdN rfl) rfl (nb "sum" (by decide)) qdO (qao (qbl (qa6 (own:=["_law_one"]) (fr:=[]) rfl (qa4 (qaa (pv 10))) (qbT) rfl (by decide+kernel) (by decide+kernel) (λy hy e=>absurd e ((by decide+kernel: ∀y∈_,y.2≠NameKind.free) y hy)) (λp hp=>nomatch hp) (λfp s3 H3=>⟨qaV (qaq (i:=0) (show (["_law_one"]:List Str).Nodup by decide+kernel) rfl (by trivial)),qa2,qaU qaw qaS qaT (qaa (pv 0)) (qaf) (λ_ _=>rfl)⟩))) qaF))) (qaa (pv 5)))))) (qal (qaH (qeb))) (qaR)) (qag (qbP (qlX (qeI (qbb (qcV (hu8 hr)) qeY qe0 (qiB (qaz (qdN rfl) rfl (nb "sum" (by decide)) qdO (qao (qbl (qa6 (own:=["_law_one"]) (fr:=[]) rfl (qa4 (qaa (pv 10))) (qbT) rfl (by decide+kernel) (by decide+kernel) (λy hy e=>absurd e ((by decide+kernel: ∀y∈_,y.2≠NameKind.free) y hy)) (λp hp=>nomatch hp) (λfp s3 H3=>⟨qaV (qaq (i:=0) (show (["_law_one"]:List Str).Nodup by decide+kernel) rfl (by trivial)),qa2,qaU qaw qaS qaT (qaa (pv 0)) (qaf) (λ_ _=>rfl)⟩))) qaF))) (qaa (pv 6))) (qdK (qbb (qcV (hu8 hr)) qeY qe0 (qaU qaw qaS qaT (qaU qaw qaS qaT (qai F_48.kn rfl (hr.mono (by decide)) rfl (qac (qcj (qac (qcj (qac (qcF) (qam))) (qam))) (qac (qaa (pv 9)) (qam)))) (qeN (qaf)) (λ_ _=>rfl)) (qaf) (λ_ _=>rfl)) (qaa (pv 6)))))) (qal (qaH (qeb))) (qaR)) (qag (qbP (qbb (qcV (hu8 hr)) qeY qe0 (qcG rfl (nb "len" (by decide)) (qaa (pv 10))) (qaJ qaN qa0 qa1 (qaf) (qnV (qaz qcI rfl (nb "len" (by decide)) PySem.boot_len (qao (qbl (qa6 (own:=["_law_pause"]) (fr:=[("_law_gap",2)]) rfl (qa4 (qai F_43 rfl (hr.mono (by decide)) rfl (qac (qaa (pv 1)) (qac (qaa (pv 4)) (qam))))) (qbT) rfl (by decide+kernel) (by decide+kernel) (RH.fr_ok (sd:=qae qf8) rfl (by decide+kernel)) (by trivial) (λfp s3 H3=>⟨qaV (qaq (i:=0) (show (["_law_pause", "_law_gap"]:List Str).Nodup by decide+kernel) rfl (by trivial)),qfj (qbb qmH qmj qmp (qaa (pv 0)) (qaa (pv 1))),qaf⟩))) qaF))))) (qal (qaH (qeb))) (qaR)) (qag (qbP (qbb (qcV (hu8 hr)) qeY qe0 (qiB (qaz (qdN rfl) rfl (nb "sum" (by decide)) qdO (qao (qne (qai F_43 rfl (hr.mono (by decide)) rfl (qac (qaa (pv 1)) (qac (qaa (pv 4)) (qam))))) qaF))) (qaJ qgj qf9 qgf (qaU qaw qaS qaT (qaU qaw qaS qaT (qaa (pv 10)) (qeN (qaf)) (λ_ _=>rfl)) (qaf) (λ_ _=>rfl)) (qaU qaw qaS qaT (qaU qaw qaS qaT (qaa (pv 10)) (qaf) (λ_ _=>rfl)) (qaf) (λ_ _=>rfl)))) (qal (qaH (qeb))) (qaR)) (qal (qd6 PassesOwn.never rfl (qa4 (qaa (pv 10))) (qd7 rfl (qaA (qaV (qaq (i:=11) qbI.nd rfl (by trivial))) (qaA (qaV (qaq (i:=12) qbI.nd rfl (by trivial))) (qaA (qaV (qaq (i:=13) qbI.nd rfl (by trivial))) (qaA (qaV (qaq (i:=14) qbI.nd rfl (by trivial))) (qaA (qaV (qaq (i:=15) qbI.nd rfl (by trivial))) (qcE))))))) (qag (qda (i:=16) (own:=["_law_row"]) (fr:=[("_law_first",12),("_law_last",13)]) rfl (qa4 (qaa (pv 9))) (qbT) rfl (by decide+kernel) (by decide+kernel) (RH.fr_ok (sd:=qae qf8) rfl (by decide+kernel)) (λp hp=>by simp only[List.mem_cons,List.not_mem_nil,or_false] at hp; rcases hp with rfl | rfl<;>exact ⟨rfl,rfl⟩) (λfp s3 H3=>⟨qaV (qaq (i:=0) (show (["_law_row", "_law_first", "_law_last"]:List Str).Nodup by decide+kernel) rfl (by trivial)),qfj (qej qbu qbu qdl qdn qdl qdn (qaa (pv 1)) (qaU qaw qaS qaT (qaa (pv 0)) (qaf) (λ_ _=>rfl)) (qaa (pv 2))),qaa (pv 0)⟩) qbI.nd rfl rfl) (qag (qbP (qlX (qeI (qbb (qcV (hu8 hr)) qeY qe0 (qcG rfl (nb "len" (by decide)) (qaa (pv 16))) (qaa (pv 14))) (qeI (qbb (qcV (hu8 hr)) qeY qe0 (qiB (qaz (qdN rfl) rfl (nb "sum" (by decide)) qdO (qao (qbl (qa6 (own:=["_law_row"]) (fr:=[]) rfl (qa4 (qaa (pv 16))) (qbT) rfl (by decide+kernel) (by decide+kernel) (λy hy e=>absurd e ((by decide+kernel: ∀y∈_,y.2≠NameKind.free) y hy)) (λp hp=>nomatch hp) (λfp s3 H3=>⟨qaV (qaq (i:=0) (show (["_law_row"]:List Str).Nodup by decide+kernel) rfl (by trivial)),qa2,qaU qaw qaS qaT (qaa (pv 0)) (qaf) (λ_ _=>rfl)⟩))) qaF))) (qaa (pv 15))) (qdK (qch (qej qbu qbu qdl qdn qdl qdn (qaJ qd3 qhX qh4 (qaa (pv 7)) (qaa (pv 14))) (qaa (pv 15)) (qaJ qd3 qhX qh4 (qaa (pv 8)) (qaa (pv 14))))))))) (qal (qaH (qeb))) (qaR)) (qal (qbP (qlX (qeI (qfR (hu8 hr) (qaa (pv 4)) (qne (qai F_27 rfl (hr.mono (by decide)) rfl (qac (qaa (pv 1)) (qac (qaa (pv 2)) (qac (qaJ qaN qa0 qa1 (qaa (pv 13)) (qaa (pv 2))) (qam))))))) (qdK (qfR (hu8 hr) (qaa (pv 4)) (qne (qai F_27 rfl (hr.mono (by decide)) rfl (qac (qaa (pv 1)) (qac (qaa (pv 2)) (qac (qaa (pv 12)) (qam)))))))))) (qal (qaH (qeb))) (qaR)))))))))))))) (qal (qaH (qlv (qcW (hu8 hr)) qeZ qe1 (qa8 (qa6 (own:=["_law_one"]) (fr:=[("_law_rows_here",1)]) rfl (qa4 (qaa (pv 3))) (qbT) rfl (by decide+kernel) (by decide+kernel) (RH.fr_ok (sd:=qae qf8) rfl (by decide+kernel)) (by trivial) (λfp s3 H3=>⟨qaV (qaq (i:=0) (show (["_law_one", "_law_rows_here"]:List Str).Nodup by decide+kernel) rfl (by trivial)),qfj (qfR (hu8 hr) (qaU qaw qaS qaT (qaa (pv 0)) (qaf) (λ_ _=>rfl)) (qbl (qa6 (own:=["_law_row"]) (fr:=[]) rfl (qa4 (qaa (pv 1))) (qbT) rfl (by decide+kernel) (by decide+kernel) (λy hy e=>absurd e ((by decide+kernel: ∀y∈_,y.2≠NameKind.free) y hy)) (λp hp=>nomatch hp) (λfp s3 H3=>⟨qaV (qaq (i:=0) (show (["_law_row"]:List Str).Nodup by decide+kernel) rfl (by trivial)),qa2,qaU qaw qaS qaT (qaa (pv 0)) (qaf) (λ_ _=>rfl)⟩)))),qaU qaw qaS qaT (qaa (pv 0)) (qaf) (λ_ _=>rfl)⟩))) (qa8 (qeL (qam))))))))
end
end K94
end
section
namespace K94
open PySem L2 PL SetL
section
variable {P:Program} {w:World} {K:PySem.W.Frag} {mg:Str->Option Value} {base:Heap} {G:Gam} {C:Str->Addr}
theorem qsK {f:Addr} {fd:FuncData} (F:Fun K "is_step" "is_step" qsa f fd) (nb: ∀x∈namesX,mg x=none) (kt: ∀N∈["int", "bool", "str", "tuple"],qhE K N) (F_34:Kn P w K mg base G C "is_key" ["thing"] 2 t_34) (T_21:qlY K mg w "BARE_STEPS" [(("running" :Str),("running" :Str)),(("change" :Str),("change" :Str)),(("unlike" :Str),("unlike" :Str))]):qbo P w K mg base CX0 3 f fd ["thing"] (spP K G C t_33):=
 qbN F qpW λcdv A outer s H E hr=>qag (qbP (qlX (qeI (qch (qcC (qdd (qaz (qbd (kt "tuple" (by decide))) rfl (nb "isinstance" (by decide)) PyProof.Rows.boot_isinstance (qao (qaa (pv 0)) (qao (qc4 (v:=.ty "tuple") rfl (nb "tuple" (by decide)) qcR rfl) qaF)))))) (qeI (qbb (qcW (hu8 hr)) qeZ qe1 (qcG rfl (nb "len" (by decide)) (qaa (pv 0))) (qaf)) (qdK (qch (qcC (qdd (qaz (qbd (kt "str" (by decide))) rfl (nb "isinstance" (by decide)) PyProof.Rows.boot_isinstance (qao (qaU qaw qaS qaT (qaa (pv 0)) (qaf) (λ_ _=>rfl)) (qao (qc4 (v:=.ty "str") rfl (nb "str" (by decide)) PyProof.Rows.boot_str rfl) qaF)))))))))) (qal (qaH (qeb))) (qaR)) (qag (qci (i:=1) qpW.nd rfl (by trivial) (qaU qaw qaS qaT (qaa (pv 0)) (qaf) (λ_ _=>rfl))) (qag (qbP (qfQ T_21 rfl (qaa (pv 1))) (qal (qaH (qlv (qcW (hu8 hr)) qeZ qe1 (qcG rfl (nb "len" (by decide)) (qaa (pv 0))) (qaf)))) (qaR)) (qag (qbP (qbb (qcV (hu8 hr)) qeY qe0 (qcG rfl (nb "len" (by decide)) (qaa (pv 0))) (qaf)) (qal (qaH (qeb))) (qaR)) (qag (qbP (qbb (qcW (hu8 hr)) qeZ qe1 (qaa (pv 1)) (qcF)) (qal (qaH (qai F_34 rfl (hr.mono (by decide)) rfl (qac (qaU qaw qaS qaT (qaa (pv 0)) (qaf) (λ_ _=>rfl)) (qam))))) (qaR)) qbO))))
theorem qsF {f:Addr} {fd:FuncData} (F:Fun K "is_ask" "is_ask" qr6 f fd) (nb: ∀x∈namesX,mg x=none) (kt: ∀N∈["int", "bool", "str", "tuple"],qhE K N) {u_20:Value} (cm_20:mg "MOST_STEPS" =some u_20) (cr_20:RelV (.int 5) u_20) (F_33:Kn P w K mg base G C "is_step" ["thing"] 3 t_33):qbo P w K mg base CX0 4 f fd ["thing"] (spP K G C t_41):=
 qbN F qrO λcdv A outer s H E hr=>qag (qbP (qlX (qeI (qch (qcC (qdd (qaz (qbd (kt "tuple" (by decide))) rfl (nb "isinstance" (by decide)) PyProof.Rows.boot_isinstance (qao (qaa (pv 0)) (qao (qc4 (v:=.ty "tuple") rfl (nb "tuple" (by decide)) qcR rfl) qaF)))))) (qdK (qbb qmH qmj qmp (qcG rfl (nb "len" (by decide)) (qaa (pv 0))) (qco (qcy rfl cm_20 cr_20) (λ_=>qbk)))))) (qal (qaH (qeb))) (qaR)) (qal (qaH (qiE (qaz (qem rfl) rfl (nb "all" (by decide)) qen (qao (qbl (qa6 (own:=["step"]) (fr:=[]) rfl (qa4 (qaa (pv 0))) (qbT) rfl (by decide+kernel) (by decide+kernel) (λy hy e=>absurd e ((by decide+kernel: ∀y∈_,y.2≠NameKind.free) y hy)) (λp hp=>nomatch hp) (λfp s3 H3=>⟨qaV (qaq (i:=0) (show (["step"]:List Str).Nodup by decide+kernel) rfl (by trivial)),qa2,qai F_33 rfl (hr.mono (by decide)) rfl (qac (qaa (pv 0)) (qam))⟩))) qaF)))))
theorem qsN {f:Addr} {fd:FuncData} (F:Fun K "is_word" "is_word" qsd f fd) (nb: ∀x∈namesX,mg x=none) (kt: ∀N∈["int", "bool", "str", "tuple"],qhE K N):qbo P w K mg base CX0 1 f fd ["thing", "longest"] (spP K G C t_30):=
 qbN F qrU λcdv A outer s H E hr=>qag (qbP (qlX (qeI (qch (qcC (qdd (qaz (qbd (kt "str" (by decide))) rfl (nb "isinstance" (by decide)) PyProof.Rows.boot_isinstance (qao (qaa (pv 0)) (qao (qc4 (v:=.ty "str") rfl (nb "str" (by decide)) PyProof.Rows.boot_str rfl) qaF)))))) (qdK (qch (qej qbu qbu qdl qdn qdl qdn (qaf) (qcG rfl (nb "len" (by decide)) (qaa (pv 0))) (qaa (pv 1))))))) (qal (qaH (qeb))) (qaR)) (qal (qaH (qiE (qaz (qem rfl) rfl (nb "all" (by decide)) qen (qao (qbl (qa6 (own:=["sign"]) (fr:=[]) rfl (qq1 (qaa (pv 0))) (qbT) rfl (by decide+kernel) (by decide+kernel) (λy hy e=>absurd e ((by decide+kernel: ∀y∈_,y.2≠NameKind.free) y hy)) (λp hp=>nomatch hp) (λfp s3 H3=>⟨qaV (qaq (i:=0) (show (["sign"]:List Str).Nodup by decide+kernel) rfl (by trivial)),qa2,qiC qbu qbu qdl qdn qdl qdn (qcF) (qaa (pv 0)) (qcF)⟩))) qaF)))))
theorem qsG {f:Addr} {fd:FuncData} (F:Fun K "of_key" "of_key" qrd f fd) (nb: ∀x∈namesX,mg x=none):qbo P w K mg base CX0 1 f fd ["rows", "key"] (spS K G C o_37):=
 qnO F qrP λcdv A outer s H E hr=>qal (qo6 (qa6 (own:=["row"]) (fr:=[("key",1)]) rfl (qa4 (qaa (pv 0))) (qbT) rfl (by decide+kernel) (by decide+kernel) (RH.fr_ok (sd:=qae qrd) rfl (by decide+kernel)) (by trivial) (λfp s3 H3=>⟨qaV (qaq (i:=0) (show (["row", "key"]:List Str).Nodup by decide+kernel) rfl (by trivial)),qfj (qbb (qcW (hu8 hr)) qeZ qe1 (qaU qaw qaS qaT (qaa (pv 0)) (qaf) (λ_ _=>rfl)) (qaa (pv 1))),qaa (pv 0)⟩)))
theorem quI {f:Addr} {fd:FuncData} (F:Fun K "refuse_out_of_order" "refuse_out_of_order" s_6 f fd) (nb: ∀x∈namesX,mg x=none) (F_36:Kn P w K mg base G C "is_log" ["rows"] 1 t_36):qbo P w K mg base CX0 2 f fd ["rows"] (spP K G C t_6):=
 qbN F quh λcdv A outer s H E hr=>qal (qbP (qch (qcC (qai F_36 rfl (hr.mono (by decide)) rfl (qac (qaa (pv 0)) (qam))))) (qbO) (qaR))
end
end K94
end
section
namespace K94
open PySem L2 PL SetL
section
variable {P:Program} {w:World} {K:PySem.W.Frag} {mg:Str->Option Value} {base:Heap} {G:Gam} {C:Str->Addr}
theorem qsV {f:Addr} {fd:FuncData} (F:Fun K "behind_step" "behind_step" qsk f fd) (nb: ∀x∈namesX,mg x=none) (F_37:KnS P w K mg base G C "of_key" ["rows", "key"] 1 o_37) (F_32:KnQ P w K mg base G C "running" ["rows", "sums"] 1 q_32) (T_21:qlY K mg w "BARE_STEPS" [(("running" :Str),("running" :Str)),(("change" :Str),("change" :Str)),(("unlike" :Str),("unlike" :Str))]) (T_17:qlY K mg w "COUNT_STEPS" [(("first" :Str),("first" :Str)),(("each" :Str),("each" :Str)),(("window" :Str),("window" :Str))]) (T_12:qlY K mg w "NUMBER_STEPS" [(("over" :Str),("over" :Str)),(("under" :Str),("under" :Str)),(("plus" :Str),("plus" :Str)),(("times" :Str),("times" :Str))]):qbo P w K mg base CX0 3 f fd ["step", "rows", "kept"] (spQ K G C q_18):=
 qlf F qom rfl λcdv A outer s H E pq hr=>qag (qci (i:=3) qom.nd rfl (by trivial) (qaU qaw qaS qaT (qaa (pv 0)) (qaf) (λ_ _=>rfl))) (qag (qbP (qbb (qcW (hu8 hr)) qeZ qe1 (qaa (pv 3)) (qcF)) (qal (qo5 (qmC F_37 rfl (hr.mono (by decide)) rfl (qac (qaa (pv 1)) (qac (qaU qaw qaS qaT (qaa (pv 0)) (qaf) (λ_ _=>rfl)) (qam)))))) (qaR)) (qag (qbP (qfQ T_12 rfl (qaa (pv 3))) qbO (qaR)) (qag (qbP (qfQ T_17 rfl (qaa (pv 3))) qbO (qaR)) (qag (qci (i:=4) qom.nd rfl (by trivial) (qlu T_21 rfl (qaa (pv 3)))) (qal (qo7 (k:=1) (qnM ⟨F_32.up (by decide),trivial⟩) rfl (hr.mono (by decide)) (pv 4) (qfS (qaa (pv 1)) (qlw (pv 2)))))))))
theorem qsP {f:Addr} {fd:FuncData} (F:Fun K "table_of" "table_of" qre f fd) (nb: ∀x∈namesX,mg x=none) (F_0:Kn P w K mg base G C "refuse_what_is_no_row" ["rows"] 4 t_0) (F_14:Kn P w K mg base G C "rising_lines" ["lines"] 2 qlV):qbo P w K mg base CX0 5 f fd ["size", "rows"] (spP K G C qpJ):=
 qbN F qrV λcdv A outer s H E hr=>qag (qcD (qai F_0 rfl (hr.mono (by decide)) rfl (qac (qaa (pv 1)) (qam)))) (qal (qaH (qcj (qac (qaa (pv 0)) (qac (qai F_14 rfl (hr.mono (by decide)) rfl (qac (qa8 (qa6 (own:=["moment", "key", "number"]) (fr:=[("size",0)]) rfl (qa4 (qaa (pv 1))) (qoU (qeE (qbT) (qeE (qbT) (qeE (qbT) (qk9))))) rfl (by decide+kernel) (by decide+kernel) (RH.fr_ok (sd:=qae qre) rfl (by decide+kernel)) (by trivial) (λfp s3 H3=>⟨qd7 rfl (qaA (qaV (qaq (i:=0) (show (["moment", "key", "number", "size"]:List Str).Nodup by decide+kernel) rfl (by trivial))) (qaA (qaV (qaq (i:=1) (show (["moment", "key", "number", "size"]:List Str).Nodup by decide+kernel) rfl (by trivial))) (qaA (qaV (qaq (i:=2) (show (["moment", "key", "number", "size"]:List Str).Nodup by decide+kernel) rfl (by trivial))) (qcE)))),qa2,qcj (qac (qaJ qkx qp0 qqg (qaa (pv 0)) (qaa (pv 3))) (qac (qaa (pv 1)) (qac (qaf) (qac (qaa (pv 2)) (qac (qaa (pv 2)) (qac (qaa (pv 2)) (qam)))))))⟩))) (qam))) (qam))))))
theorem quG {f:Addr} {fd:FuncData} (F:Fun K "numbers_together" "numbers_together" s_8 f fd) (nb: ∀x∈namesX,mg x=none):qbo P w K mg base CX0 1 f fd ["one", "other"] (spP K G C t_8):=
 qbN F qug λcdv A outer s H E hr=>qal (qaH (qcj (qac (qaJ qaN qa0 qa1 (qaU qaw qaS qaT (qaa (pv 0)) (qaf) (λ_ _=>rfl)) (qaU qaw qaS qaT (qaa (pv 1)) (qaf) (λ_ _=>rfl))) (qac (qaJ qaN qa0 qa1 (qaU qaw qaS qaT (qaa (pv 0)) (qaf) (λ_ _=>rfl)) (qaU qaw qaS qaT (qaa (pv 1)) (qaf) (λ_ _=>rfl))) (qac (qnU (qaz (qgM rfl) rfl (nb "min" (by decide)) qiM (qao (qaU qaw qaS qaT (qaa (pv 0)) (qaf) (λ_ _=>rfl)) (qao (qaU qaw qaS qaT (qaa (pv 1)) (qaf) (λ_ _=>rfl)) qaF)))) (qac (qpc (qaz (qlJ rfl) rfl (nb "max" (by decide)) qlL (qao (qaU qaw qaS qaT (qaa (pv 0)) (qaf) (λ_ _=>rfl)) (qao (qaU qaw qaS qaT (qaa (pv 1)) (qaf) (λ_ _=>rfl)) qaF)))) (qam)))))))
theorem qsE {f:Addr} {fd:FuncData} (F:Fun K "longer" "longer" qr5 f fd) (nb: ∀x∈namesX,mg x=none):qbo P w K mg base CX0 1 f fd ["stretch", "moment", "number"] (spP K G C qps):=
 qbN F qrN λcdv A outer s H E hr=>qal (qaH (qcj (qac (qaU qaw qaS qaT (qaa (pv 0)) (qaf) (λ_ _=>rfl)) (qac (qaU qaw qaS qaT (qaa (pv 0)) (qaf) (λ_ _=>rfl)) (qac (qaa (pv 1)) (qac (qaJ qaN qa0 qa1 (qaU qaw qaS qaT (qaa (pv 0)) (qaf) (λ_ _=>rfl)) (qaf)) (qac (qaJ qaN qa0 qa1 (qaU qaw qaS qaT (qaa (pv 0)) (qaf) (λ_ _=>rfl)) (qaa (pv 2))) (qam))))))))
end
end K94
end
section
namespace K94
open PySem L2 PL SetL
section
variable {P:Program} {w:World} {K:PySem.W.Frag} {mg:Str->Option Value} {base:Heap} {G:Gam} {C:Str->Addr}
theorem qsT {f c T_22:Addr} {oc kV doc pm cdv ct:Value} {od an:Option Addr} {osl:Array (Option Value)}
  (lk:K.lookup f=some ⟨oc,od,.func (PySem.W.fnOf "stretches" "stretches" (qbh qnC) (qaZ qnC) (qae qnC) .none kV doc pm an cdv ct),osl⟩) (hcd:PySem.W.codeIn K cdv "stretches" =true) (hc:cdv= .ref c)
  (nb: ∀x∈namesX,mg x=none) (C0:PySem.W.CodeHd base c T_22) (hb:qhF mg base) (nd:([T_22]:List Addr).Nodup) {u_13:Value} (cm_13:mg "GREATEST_GAP" =some u_13) (cr_13:RelV (.int 99) u_13) (F_31:Kn P w K mg base (gL T_22) C "keys_of" ["rows"] 1 qpI) (F_37:KnS P w K mg base (gL T_22) C "of_key" ["rows", "key"] 1 o_37) (F_3:Kn P w K mg base (gL T_22) C "refuse_number_beyond" ["thing", "greatest"] 3 t_3) (F_1:Kn P w K mg base (gL T_22) C "refuse_what_is_no_log" ["rows"] 5 t_1) (F_5:Kn P w K mg base (gL T_22) C "stretches_of_one_key" ["rows", "gap"] 2 t_5):
  qbo P w K mg base CX0 6 f (PySem.W.fnOf "stretches" "stretches" (qbh qnC) (qaZ qnC) (qae qnC) .none kV doc pm an cdv ct) ["rows", "gap"] (spP K (gL T_22) C qjP):=by
 refine qqU lk hcd qol (λvs H Q E h=>qjZ h) (λA outer s H vs Q E hr h=> ?_)
 refine ⟨_,PSs.nox (qag (M:=⟨K,(gL T_22),E,C,0⟩) (qcD (qai F_1 rfl (hr.mono (by decide)) rfl (qac (qaa (pv 0)) (qam)))) (qag (qcD (qai F_3 rfl (hr.mono (by decide)) rfl (qac (qaa (pv 1)) (qac (qco (qcy rfl cm_13 cr_13) (λ_=>qbk)) (qam))))) (qag (qeJ (i:=2) qol.nd rfl (by trivial) (qeL (qam))) (qag (qd6 PassesOwn.never rfl (qa4 (qai F_31 rfl (hr.mono (by decide)) rfl (qac (qaa (pv 0)) (qam)))) (qaV (qaq (i:=3) qol.nd rfl (by trivial))) (qal (qlp (qmE PySem.F.plainAttrs_list PySem.F.slot_list_extend PySem.F.type_list_extend qkC (pv 2) (qao (qne (qai F_5 rfl (hr.mono (by decide)) rfl (qac (qai F_37.kn rfl (hr.mono (by decide)) rfl (qac (qaa (pv 0)) (qac (qaa (pv 3)) (qam)))) (qac (qaa (pv 1)) (qam))))) qaF))))) (qal (qaH (qa8 (qlt (P:=T_22) (qual:=qeu) (i:=1) (j:=0) (qb8 (pv 2)) rfl (nb "sorted" (by decide)) PyProof.Rows.boot_sorted hc C0 hb (by decide+kernel) rfl (show ("stretches" :Str)++ ".<locals>." ++ "<lambda>" =qeu by decide+kernel) rfl rfl rfl rfl (by decide+kernel) (by decide) (λpm cv ctv v=>rfl) (hr.mono (by decide)) (qm2 (by simp)) (qjj (by simp) nd))))))))),?_⟩
 exact qis (n:=2) (N:=["rows", "gap", "told", "key"]) (by decide) h
theorem qsO {f:Addr} {fd:FuncData} (F:Fun K "_law_key" "_law_key" qse f fd) (nb: ∀x∈namesX,mg x=none) (F_24:Kn P w K mg base G C "_law_pick" ["_law_script", "_law_k", "_law_many"] 2 qep):qbo P w K mg base CX0 3 f fd ["_law_script", "_law_at"] (spP K G C qny):=
 qbN F qmf λcdv A outer s H E hr=>qag (qci (i:=2) qmf.nd rfl (by trivial) (qcF)) (qag (qci (i:=3) qmf.nd rfl (by trivial) (qai F_24 rfl (hr.mono (by decide)) rfl (qac (qaa (pv 0)) (qac (qaa (pv 1)) (qac (qaf) (qam)))))) (qag (qbP (qbb qmH qmj qmp (qaa (pv 3)) (qaf)) (qal (qaH (qaU qaw qaS qaT (qa8 (qeL (qac (qcF) (qac (qcF) (qac (qcF) (qam)))))) (qaJ qgk qpZ qqf (qaa (pv 3)) (qaf)) (λ_ _=>rfl)))) (qaR)) (qag (qci (i:=4) qmf.nd rfl (by trivial) (qaU qaw qaS qaT (qaa (pv 2)) (qai F_24 rfl (hr.mono (by decide)) rfl (qac (qaa (pv 0)) (qac (qaJ qaN qa0 qa1 (qaa (pv 1)) (qaf)) (qac (qaf) (qam))))) (λ_ _=>rfl))) (qag (qbP (qbb (qcW (hu8 hr)) qeZ qe1 (qai F_24 rfl (hr.mono (by decide)) rfl (qac (qaa (pv 0)) (qac (qaJ qaN qa0 qa1 (qaa (pv 1)) (qaf)) (qac (qaf) (qam))))) (qaf)) (qal (qaH (qaa (pv 4)))) (qaR)) (qal (qaH (qaJ qaN qa0 qa1 (qaa (pv 4)) (qaU qaw qaS qaT (qaa (pv 2)) (qai F_24 rfl (hr.mono (by decide)) rfl (qac (qaa (pv 0)) (qac (qaJ qaN qa0 qa1 (qaa (pv 1)) (qaf)) (qac (qaf) (qam))))) (λ_ _=>rfl)))))))))
theorem qsL {f:Addr} {fd:FuncData} (F:Fun K "running" "running" qsb f fd) (nb: ∀x∈namesX,mg x=none):qbo P w K mg base CX0 1 f fd ["rows", "sums"] (spQ K G C q_32):=
 qlf F qkb rfl λcdv A outer s H E pq hr=>qag (qeJ (i:=2) qkb.nd rfl (by trivial) (qeL (qam))) (qag (qd6 PassesOwn.never rfl (qa4 (qaa (pv 0))) (qd7 rfl (qaA (qaV (qaq (i:=3) qkb.nd rfl (by trivial))) (qaA (qaV (qaq (i:=4) qkb.nd rfl (by trivial))) (qaA (qaV (qaq (i:=5) qkb.nd rfl (by trivial))) (qcE))))) (qag (qln (hu1 hr) (pv 1) (qaa (pv 4)) (qaJ qaN qa0 qa1 (qng (hu1 hr) (qfq (pv 1)) (qaa (pv 4)) (qaf) ⟨rfl,rfl,rfl,rfl⟩) (qaa (pv 5)))) (qal (qeK (qmE PySem.F.plainAttrs_list PySem.F.slot_list_append PySem.F.type_list_append qdu (pv 2) (qao (qcj (qac (qaa (pv 3)) (qac (qaa (pv 4)) (qac (qhw (hu1 hr) (qfq (pv 1)) (qaa (pv 4))) (qam))))) qaF)))))) (qal (qht (pv 2))))
theorem qsM {f:Addr} {fd:FuncData} (F:Fun K "keys_of" "keys_of" qsc f fd) (nb: ∀x∈namesX,mg x=none):qbo P w K mg base CX0 1 f fd ["rows"] (spP K G C qpI):=
 qbN F qrT λcdv A outer s H E hr=>qal (qaH (qa8 (qpb rfl rfl (nb "sorted" (by decide)) rfl (nb "set" (by decide)) (qbl (qa6 (own:=["row"]) (fr:=[]) rfl (qa4 (qaa (pv 0))) (qbT) rfl (by decide+kernel) (by decide+kernel) (λy hy e=>absurd e ((by decide+kernel: ∀y∈_,y.2≠NameKind.free) y hy)) (λp hp=>nomatch hp) (λfp s3 H3=>⟨qaV (qaq (i:=0) (show (["row"]:List Str).Nodup by decide+kernel) rfl (by trivial)),qa2,qaU qaw qaS qaT (qaa (pv 0)) (qaf) (λ_ _=>rfl)⟩))))))
end
end K94
end
section
namespace K94
open PySem L2 PL SetL
section
variable {P:Program} {w:World} {K:PySem.W.Frag} {mg:Str->Option Value} {base:Heap} {G:Gam} {C:Str->Addr}
theorem qsS {f:Addr} {fd:FuncData} (F:Fun K "_law_rows" "_law_rows" qsg f fd) (nb: ∀x∈namesX,mg x=none) (F_29:Kn P w K mg base G C "_law_key" ["_law_script", "_law_at"] 3 qny) (F_19:Kn P w K mg base G C "_law_number" ["_law_script", "_law_at", "_law_most"] 3 qoc) (F_24:Kn P w K mg base G C "_law_pick" ["_law_script", "_law_k", "_law_many"] 2 qep):qbo P w K mg base CX0 4 f fd ["_law_script", "_law_at", "_law_most"] (spP K G C qpt):=
 qbN F qg7 λcdv A outer s H E hr=>qag (qeJ (i:=3) qg7.nd rfl (by trivial) (qeL (qam))) (qag (qci (i:=4) qg7.nd rfl (by trivial) (qai F_24 rfl (hr.mono (by decide)) rfl (qac (qaa (pv 0)) (qac (qaa (pv 1)) (qac (qaf) (qam)))))) (qag (qci (i:=5) qg7.nd rfl (by trivial) (qaU qaw qaS qaT (qa8 (qeL (qac (qaf) (qac (qaf) (qac (qaf) (qac (qaf) (qam))))))) (qai F_24 rfl (hr.mono (by decide)) rfl (qac (qaa (pv 0)) (qac (qaJ qaN qa0 qa1 (qaa (pv 1)) (qaf)) (qac (qaf) (qam))))) (λ_ _=>rfl))) (qag (qd6 PassesOwn.never rfl (qlr rfl (nb "range" (by decide)) (qac (qai F_24 rfl (hr.mono (by decide)) rfl (qac (qaa (pv 0)) (qac (qaJ qaN qa0 qa1 (qaa (pv 1)) (qaf)) (qac (qaJ qaN qa0 qa1 (qaa (pv 2)) (qaf)) (qam))))) (qam))) (qaV (qaq (i:=6) qg7.nd rfl (by trivial))) (qag (qci (i:=7) qg7.nd rfl (by trivial) (qaJ qaN qa0 qa1 (qaJ qaN qa0 qa1 (qaa (pv 1)) (qaf)) (qaJ qd3 qhX qh4 (qaf) (qaa (pv 6))))) (qag (qci (i:=4) qg7.nd rfl (by trivial) (qnU (qaz (qgM rfl) rfl (nb "min" (by decide)) qiM (qao (qaf) (qao (qaJ qaN qa0 qa1 (qaa (pv 4)) (qai F_24 rfl (hr.mono (by decide)) rfl (qac (qaa (pv 0)) (qac (qaa (pv 7)) (qac (qaa (pv 5)) (qam)))))) qaF))))) (qal (qeK (qmE PySem.F.plainAttrs_list PySem.F.slot_list_append PySem.F.type_list_append qdu (pv 3) (qao (qcj (qac (qaa (pv 4)) (qac (qai F_29 rfl (hr.mono (by decide)) rfl (qac (qaa (pv 0)) (qac (qaJ qaN qa0 qa1 (qaa (pv 7)) (qaf)) (qam)))) (qac (qai F_19 rfl (hr.mono (by decide)) rfl (qac (qaa (pv 0)) (qac (qaJ qaN qa0 qa1 (qaa (pv 7)) (qaf)) (qac (qaf) (qam))))) (qam))))) qaF))))))) (qal (qlo 3 (qaH (qaa (pv 3))))))))
theorem qsC {f:Addr} {fd:FuncData} (F:Fun K "by_key" "by_key" qr3 f fd) (nb: ∀x∈namesX,mg x=none) (F_14:Kn P w K mg base G C "rising_lines" ["lines"] 2 qlV):qbo P w K mg base CX0 3 f fd ["table"] (spP K G C qpH):=
 qbN F qrM λcdv A outer s H E hr=>qal (qaH (qa8 (qa6 (own:=["line"]) (fr:=[]) rfl (qa4 (qai F_14 rfl (hr.mono (by decide)) rfl (qac (qa8 (qa6 (own:=["line"]) (fr:=[]) rfl (qa4 (qaU qaw qaS qaT (qaa (pv 0)) (qaf) (λ_ _=>rfl))) (qbT) rfl (by decide+kernel) (by decide+kernel) (λy hy e=>absurd e ((by decide+kernel: ∀y∈_,y.2≠NameKind.free) y hy)) (λp hp=>nomatch hp) (λfp s3 H3=>⟨qaV (qaq (i:=0) (show (["line"]:List Str).Nodup by decide+kernel) rfl (by trivial)),qa2,qaJ qaN qa0 qa1 (qcj (qac (qaf) (qam))) (qgD (qaa (pv 0)) (qdb (qaf)) (qdc))⟩))) (qam)))) (qbT) rfl (by decide+kernel) (by decide+kernel) (λy hy e=>absurd e ((by decide+kernel: ∀y∈_,y.2≠NameKind.free) y hy)) (λp hp=>nomatch hp) (λfp s3 H3=>⟨qaV (qaq (i:=0) (show (["line"]:List Str).Nodup by decide+kernel) rfl (by trivial)),qa2,qgD (qaa (pv 0)) (qdb (qaf)) (qdc)⟩))))
theorem quN {f:Addr} {fd:FuncData} (F:Fun K "refuse_what_is_no_row" "refuse_what_is_no_row" s_0 f fd) (nb: ∀x∈namesX,mg x=none) (F_35:Kn P w K mg base G C "is_row" ["thing"] 3 t_35):qbo P w K mg base CX0 4 f fd ["rows"] (spP K G C t_0):=
 qbN F qul λcdv A outer s H E hr=>qal (qbP (qch (qcC (qiE (qaz (qem rfl) rfl (nb "all" (by decide)) qen (qao (qbl (qa6 (own:=["row"]) (fr:=[]) rfl (qa4 (qaa (pv 0))) (qbT) rfl (by decide+kernel) (by decide+kernel) (λy hy e=>absurd e ((by decide+kernel: ∀y∈_,y.2≠NameKind.free) y hy)) (λp hp=>nomatch hp) (λfp s3 H3=>⟨qaV (qaq (i:=0) (show (["row"]:List Str).Nodup by decide+kernel) rfl (by trivial)),qa2,qai F_35 rfl (hr.mono (by decide)) rfl (qac (qaa (pv 0)) (qam))⟩))) qaF))))) (qbO) (qaR))
theorem quM {f:Addr} {fd:FuncData} (F:Fun K "refuse_what_is_no_log" "refuse_what_is_no_log" s_1 f fd) (nb: ∀x∈namesX,mg x=none) (F_6:Kn P w K mg base G C "refuse_out_of_order" ["rows"] 2 t_6) (F_0:Kn P w K mg base G C "refuse_what_is_no_row" ["rows"] 4 t_0):qbo P w K mg base CX0 5 f fd ["rows"] (spP K G C t_1):=
 qbN F quk λcdv A outer s H E hr=>qag (qcD (qai F_0 rfl (hr.mono (by decide)) rfl (qac (qaa (pv 0)) (qam)))) (qal (qcD (qai F_6 rfl (hr.mono (by decide)) rfl (qac (qaa (pv 0)) (qam)))))
end
end K94
end
section
namespace K94
open PySem L2 PL SetL
section
variable {P:Program} {w:World} {K:PySem.W.Frag} {mg:Str->Option Value} {base:Heap} {G:Gam} {C:Str->Addr}
theorem qsI {f:Addr} {fd:FuncData} (F:Fun K "is_row" "is_row" qr8 f fd) (nb: ∀x∈namesX,mg x=none) (kt: ∀N∈["int", "bool", "str", "tuple"],qhE K N) {u_9:Value} (cm_9:mg "GREATEST_MOMENT" =some u_9) (cr_9:RelV (.int 99) u_9) {u_10:Value} (cm_10:mg "GREATEST_NUMBER" =some u_10) (cr_10:RelV (.int 99) u_10) (F_34:Kn P w K mg base G C "is_key" ["thing"] 2 t_34) (F_11:Kn P w K mg base G C "is_whole_within" ["thing", "least", "greatest"] 2 t_11):qbo P w K mg base CX0 3 f fd ["thing"] (spP K G C t_35):=
 qbN F qrR λcdv A outer s H E hr=>qag (qbP (qlX (qeI (qch (qcC (qdd (qaz (qbd (kt "tuple" (by decide))) rfl (nb "isinstance" (by decide)) PyProof.Rows.boot_isinstance (qao (qaa (pv 0)) (qao (qc4 (v:=.ty "tuple") rfl (nb "tuple" (by decide)) qcR rfl) qaF)))))) (qdK (qbb (qcV (hu8 hr)) qeY qe0 (qcG rfl (nb "len" (by decide)) (qaa (pv 0))) (qaf))))) (qal (qaH (qeb))) (qaR)) (qag (qbP (qlX (qeI (qch (qcC (qai F_11 rfl (hr.mono (by decide)) rfl (qac (qaU qaw qaS qaT (qaa (pv 0)) (qaf) (λ_ _=>rfl)) (qac (qaf) (qac (qco (qcy rfl cm_9 cr_9) (λ_=>qbk)) (qam))))))) (qdK (qch (qcC (qai F_34 rfl (hr.mono (by decide)) rfl (qac (qaU qaw qaS qaT (qaa (pv 0)) (qaf) (λ_ _=>rfl)) (qam)))))))) (qal (qaH (qeb))) (qaR)) (qal (qaH (qai F_11 rfl (hr.mono (by decide)) rfl (qac (qaU qaw qaS qaT (qaa (pv 0)) (qaf) (λ_ _=>rfl)) (qac (qeN (qco (qcy rfl cm_10 cr_10) (λ_=>qbk))) (qac (qco (qcy rfl cm_10 cr_10) (λ_=>qbk)) (qam))))))))
theorem qsW {f:Addr} {fd:FuncData} (F:Fun K "rising_lines" "rising_lines" qrg f fd) (nb: ∀x∈namesX,mg x=none) (F_8:Kn P w K mg base G C "numbers_together" ["one", "other"] 1 t_8):qbo P w K mg base CX0 2 f fd ["lines"] (spP K G C qlV):=
 qbN F qmg λcdv A outer s H E hr=>qag (qo8 (i:=1) qmg.nd rfl (by trivial)) (qnc 1 (qag (qd6 PassesOwn.never rfl (qa4 (qaa (pv 0))) (qaV (qaq (i:=2) qmg.nd rfl (by trivial))) (qag (qci (i:=3) qmg.nd rfl (by trivial) (qgD (qaa (pv 2)) (qdc) (qdb (qaf)))) (qal (qln (hu1 hr) (pv 1) (qaa (pv 3)) (qti (qqX (hu1 hr) (qaa (pv 3)) (qfq (pv 1))) (qai F_8 rfl (hr.mono (by decide)) rfl (qac (qhw (hu1 hr) (qfq (pv 1)) (qaa (pv 3))) (qac (qgD (qaa (pv 2)) (qdb (qaf)) (qdc)) (qam)))) (qgD (qaa (pv 2)) (qdb (qaf)) (qdc))))))) (qal (qo9 1 (qaH (qnh (qgi qfV rfl (nb "tuple" (by decide)) qcR (qao (qbl (qa6 (own:=["place"]) (fr:=[("parts",1)]) rfl (qa4 (qa8 (qjr rfl rfl (nb "sorted" (by decide)) (qfq (pv 1))))) (qbT) rfl (by decide+kernel) (by decide+kernel) (RH.fr_ok (sd:=qae qrg) rfl (by decide+kernel)) (by trivial) (λfp s3 H3=>⟨qaV (qaq (i:=0) (show (["place", "parts"]:List Str).Nodup by decide+kernel) rfl (by trivial)),qa2,qaJ qaN qa0 qa1 (qaa (pv 0)) (qhw (hu1 hr) (qfq (pv 1)) (qaa (pv 0)))⟩))) qaF))))))))
theorem qsB {f:Addr} {fd:FuncData} (F:Fun K "asked" "asked" qr2 f fd) (nb: ∀x∈namesX,mg x=none) (F_7:KnQ P w K mg base G C "behind_last_rows" ["step", "rows", "kept"] 4 q_7) (F_2:Kn P w K mg base G C "refuse_what_is_no_ask" ["ask"] 5 t_2) (F_1:Kn P w K mg base G C "refuse_what_is_no_log" ["rows"] 5 t_1):qbo P w K mg base CX0 6 f fd ["ask", "rows"] (spS K G C o_48):=
 qnO F qme λcdv A outer s H E hr=>qag (qcD (qai F_2 rfl (hr.mono (by decide)) rfl (qac (qaa (pv 0)) (qam)))) (qag (qcD (qai F_1 rfl (hr.mono (by decide)) rfl (qac (qaa (pv 1)) (qam)))) (qag (qeJ (i:=2) qme.nd rfl (by trivial) (qpa (qgi qgN rfl (nb "list" (by decide)) qlM (qao (qb8 (pv 1)) qaF)))) (qag (qd6 PassesOwn.never rfl (qa4 (qaa (pv 0))) (qaV (qaq (i:=3) qme.nd rfl (by trivial))) (qal (qlo 2 (qo3 (j:=2) qme.nd rfl (by trivial) (qmD F_7 rfl (hr.mono (by decide)) rfl (qiF (qaa (pv 3)) (qiF (qaa (pv 2)) (qpi)))))))) (qal (qht (pv 2))))))
theorem qsH {f:Addr} {fd:FuncData} (F:Fun K "is_log" "is_log" qr7 f fd) (nb: ∀x∈namesX,mg x=none):qbo P w K mg base CX0 1 f fd ["rows"] (spP K G C t_36):=
 qbN F qrQ λcdv A outer s H E hr=>qal (qaH (qiE (qaz (qem rfl) rfl (nb "all" (by decide)) qen (qao (qbl (qa6 (own:=["ahead", "row"]) (fr:=[]) rfl (qnR rfl (nb "zip" (by decide)) (qac (qaa (pv 0)) (qac (qa8 (qiA (qb8 (pv 0)) (qdb (qaf)) (qdc))) (qam)))) (qoU (qeE (qbT) (qeE (qbT) (qk9)))) rfl (by decide+kernel) (by decide+kernel) (λy hy e=>absurd e ((by decide+kernel: ∀y∈_,y.2≠NameKind.free) y hy)) (λp hp=>nomatch hp) (λfp s3 H3=>⟨qd7 rfl (qaA (qaV (qaq (i:=0) (show (["ahead", "row"]:List Str).Nodup by decide+kernel) rfl (by trivial))) (qaA (qaV (qaq (i:=1) (show (["ahead", "row"]:List Str).Nodup by decide+kernel) rfl (by trivial))) (qcE))),qa2,qlv qbu qdl qdn (qaU qaw qaS qaT (qaa (pv 0)) (qaf) (λ_ _=>rfl)) (qaU qaw qaS qaT (qaa (pv 1)) (qaf) (λ_ _=>rfl))⟩))) qaF))))
theorem qsU {f:Addr} {fd:FuncData} (F:Fun K "_law_number" "_law_number" qsj f fd) (nb: ∀x∈namesX,mg x=none) (F_24:Kn P w K mg base G C "_law_pick" ["_law_script", "_law_k", "_law_many"] 2 qep):qbo P w K mg base CX0 3 f fd ["_law_script", "_law_at", "_law_most"] (spP K G C qoc):=
 qbN F qrY λcdv A outer s H E hr=>qag (qbP (qbb (qcW (hu8 hr)) qeZ qe1 (qai F_24 rfl (hr.mono (by decide)) rfl (qac (qaa (pv 0)) (qac (qaa (pv 1)) (qac (qaf) (qam))))) (qaf)) (qal (qaH (qaJ qgj qf9 qgf (qai F_24 rfl (hr.mono (by decide)) rfl (qac (qaa (pv 0)) (qac (qaJ qaN qa0 qa1 (qaa (pv 1)) (qaf)) (qac (qaJ qaN qa0 qa1 (qaJ qd3 qhX qh4 (qaf) (qaa (pv 2))) (qaf)) (qam))))) (qaa (pv 2))))) (qaR)) (qal (qaH (qaJ qgj qf9 qgf (qai F_24 rfl (hr.mono (by decide)) rfl (qac (qaa (pv 0)) (qac (qaJ qaN qa0 qa1 (qaa (pv 1)) (qaf)) (qac (qaf) (qam))))) (qaf))))
theorem quK {f:Addr} {fd:FuncData} (F:Fun K "refuse_number_beyond" "refuse_number_beyond" s_3 f fd) (nb: ∀x∈namesX,mg x=none) (F_11:Kn P w K mg base G C "is_whole_within" ["thing", "least", "greatest"] 2 t_11):qbo P w K mg base CX0 3 f fd ["thing", "greatest"] (spP K G C t_3):=
 qbN F qui λcdv A outer s H E hr=>qal (qbP (qch (qcC (qai F_11 rfl (hr.mono (by decide)) rfl (qac (qaa (pv 0)) (qac (qaf) (qac (qaa (pv 1)) (qam))))))) (qbO) (qaR))
theorem quL {f:Addr} {fd:FuncData} (F:Fun K "refuse_what_is_no_ask" "refuse_what_is_no_ask" s_2 f fd) (nb: ∀x∈namesX,mg x=none) (F_41:Kn P w K mg base G C "is_ask" ["thing"] 4 t_41):qbo P w K mg base CX0 5 f fd ["ask"] (spP K G C t_2):=
 qbN F quj λcdv A outer s H E hr=>qal (qbP (qch (qcC (qai F_41 rfl (hr.mono (by decide)) rfl (qac (qaa (pv 0)) (qam))))) (qbO) (qaR))
end
end K94
end
section
namespace K94
open PySem L2 PL SetL
section
variable {P:Program} {w:World} {K:PySem.W.Frag} {mg:Str->Option Value} {base:Heap} {G:Gam} {C:Str->Addr}
theorem quJ {f:Addr} {fd:FuncData} (F:Fun K "stretches_of_one_key" "stretches_of_one_key" s_5 f fd) (nb: ∀x∈namesX,mg x=none) (F_42:Kn P w K mg base G C "longer" ["stretch", "moment", "number"] 1 qps):qbo P w K mg base CX0 2 f fd ["rows", "gap"] (spP K G C t_5):=
 qbN F qpU λcdv A outer s H E hr=>qag (qeJ (i:=2) qpU.nd rfl (by trivial) (qeL (qam))) (qag (qd6 PassesOwn.never rfl (qa4 (qaa (pv 0))) (qd7 rfl (qaA (qaV (qaq (i:=3) qpU.nd rfl (by trivial))) (qaA (qaV (qaq (i:=4) qpU.nd rfl (by trivial))) (qaA (qaV (qaq (i:=5) qpU.nd rfl (by trivial))) (qcE))))) (qal (qbP (qlX (qqW (qbb qmH qmj qmp (qnV (qaz qcI rfl (nb "len" (by decide)) PySem.boot_len (qao (qb8 (pv 2)) qaF))) (qaf)) (qo0 (qbb qbu qdl qdn (qaJ qgj qf9 qgf (qaa (pv 3)) (qaU qaw qaS qaT (qnW (qb8 (pv 2)) (qeN (qaf)) (λ_ _=>rfl)) (qaf) (λ_ _=>rfl))) (qaa (pv 1)))))) (qal (qqZ (ppos:=⟨0,0,0,0⟩) (pv 2) (qeN (qaf)) (qai F_42 rfl (hr.mono (by decide)) rfl (qac (qnW (qb8 (pv 2)) (qeN (qaf)) (λ_ _=>rfl)) (qac (qaa (pv 3)) (qac (qaa (pv 5)) (qam))))) (qqk (pv 2) (qeN (qaf)) qma))) (qal (qeK (qmE PySem.F.plainAttrs_list PySem.F.slot_list_append PySem.F.type_list_append qdu (pv 2) (qao (qcj (qac (qaa (pv 4)) (qac (qaa (pv 3)) (qac (qaa (pv 3)) (qac (qaf) (qac (qaa (pv 5)) (qam))))))) qaF))))))) (qal (qlo 2 (qaH (qaa (pv 2))))))
theorem qsD {f:Addr} {fd:FuncData} (F:Fun K "pauses" "pauses" qr4 f fd) (nb: ∀x∈namesX,mg x=none) (F_37:KnS P w K mg base G C "of_key" ["rows", "key"] 1 o_37) (F_1:Kn P w K mg base G C "refuse_what_is_no_log" ["rows"] 5 t_1):qbo P w K mg base CX0 6 f fd ["rows", "key"] (spP K G C qiU):=
 qbN F qpV λcdv A outer s H E hr=>qag (qcD (qai F_1 rfl (hr.mono (by decide)) rfl (qac (qaa (pv 0)) (qam)))) (qag (qda (i:=2) (own:=["row"]) (fr:=[]) rfl (qa4 (qai F_37.kn rfl (hr.mono (by decide)) rfl (qac (qaa (pv 0)) (qac (qaa (pv 1)) (qam))))) (qbT) rfl (by decide+kernel) (by decide+kernel) (λy hy e=>absurd e ((by decide+kernel: ∀y∈_,y.2≠NameKind.free) y hy)) (λp hp=>nomatch hp) (λfp s3 H3=>⟨qaV (qaq (i:=0) (show (["row"]:List Str).Nodup by decide+kernel) rfl (by trivial)),qa2,qaU qaw qaS qaT (qaa (pv 0)) (qaf) (λ_ _=>rfl)⟩) qpV.nd rfl rfl) (qal (qaH (qa8 (qa6 (own:=["earlier", "later"]) (fr:=[]) rfl (qnR rfl (nb "zip" (by decide)) (qac (qaa (pv 2)) (qac (qa8 (qiA (qb8 (pv 2)) (qdb (qaf)) (qdc))) (qam)))) (qoU (qeE (qbT) (qeE (qbT) (qk9)))) rfl (by decide+kernel) (by decide+kernel) (λy hy e=>absurd e ((by decide+kernel: ∀y∈_,y.2≠NameKind.free) y hy)) (λp hp=>nomatch hp) (λfp s3 H3=>⟨qd7 rfl (qaA (qaV (qaq (i:=0) (show (["earlier", "later"]:List Str).Nodup by decide+kernel) rfl (by trivial))) (qaA (qaV (qaq (i:=1) (show (["earlier", "later"]:List Str).Nodup by decide+kernel) rfl (by trivial))) (qcE))),qa2,qaJ qgj qf9 qgf (qaa (pv 1)) (qaa (pv 0))⟩))))))
theorem qsQ {f:Addr} {fd:FuncData} (F:Fun K "going_on" "going_on" qrf f fd) (nb: ∀x∈namesX,mg x=none) (F_22:Kn P w K mg base G C "stretches" ["rows", "gap"] 6 qjP):qbo P w K mg base CX0 7 f fd ["rows", "gap", "moment"] (spP K G C qjI):=
 qbN F qrW λcdv A outer s H E hr=>qal (qaH (qa8 (qls (qaz qgL rfl (nb "sorted" (by decide)) boot_sorted (qao (qbl (qa6 (own:=["stretch"]) (fr:=[("moment",2),("gap",1)]) rfl (qa4 (qai F_22 rfl (hr.mono (by decide)) rfl (qac (qaa (pv 0)) (qac (qaa (pv 1)) (qam))))) (qbT) rfl (by decide+kernel) (by decide+kernel) (RH.fr_ok (sd:=qae qrf) rfl (by decide+kernel)) (λp hp=>by simp only[List.mem_cons,List.not_mem_nil,or_false] at hp; rcases hp with rfl | rfl<;>exact ⟨rfl,rfl⟩) (λfp s3 H3=>⟨qaV (qaq (i:=0) (show (["stretch", "moment", "gap"]:List Str).Nodup by decide+kernel) rfl (by trivial)),qfj (qej qbu qbu qdl qdn qdl qdn (qaU qaw qaS qaT (qaa (pv 0)) (qaf) (λ_ _=>rfl)) (qaa (pv 1)) (qaJ qaN qa0 qa1 (qaU qaw qaS qaT (qaa (pv 0)) (qaf) (λ_ _=>rfl)) (qaa (pv 2)))),qaU qaw qaS qaT (qaa (pv 0)) (qaf) (λ_ _=>rfl)⟩))) qaF)))))
theorem quH {f:Addr} {fd:FuncData} (F:Fun K "behind_last_rows" "behind_last_rows" s_7 f fd) (nb: ∀x∈namesX,mg x=none) (F_18:KnQ P w K mg base G C "behind_step" ["step", "rows", "kept"] 3 q_18):qbo P w K mg base CX0 4 f fd ["step", "rows", "kept"] (spQ K G C q_7):=
 qlf F qtC rfl λcdv A outer s H E pq hr=>qag (qo2 (j:=3) qtC.nd rfl (by trivial) (qmB F_18 rfl (hr.mono (by decide)) rfl (qfS (qaa (pv 0)) (qfS (qaa (pv 1)) (qlw (pv 2)))))) (qag (qbP (qbb (qcW (hu8 hr)) qeZ qe1 (qaU qaw qaS qaT (qaa (pv 0)) (qaf) (λ_ _=>rfl)) (qcF)) qbO (qaR)) (qal (qht (pv 3))))
theorem qsR {f:Addr} {fd:FuncData} (F:Fun K "is_whole" "is_whole" qsf f fd) (nb: ∀x∈namesX,mg x=none) (kt: ∀N∈["int", "bool", "str", "tuple"],qhE K N):qbo P w K mg base CX0 1 f fd ["thing"] (spP K G C t_26):=
 qbN F qrX λcdv A outer s H E hr=>qal (qaH (qnX (qdd (qaz (qbd (kt "int" (by decide))) rfl (nb "isinstance" (by decide)) PyProof.Rows.boot_isinstance (qao (qaa (pv 0)) (qao (qc4 (v:=.ty "int") rfl (nb "int" (by decide)) PyProof.Rows.boot_int rfl) qaF)))) (qnT (qq3 (qdd (qaz (qbd (kt "bool" (by decide))) rfl (nb "isinstance" (by decide)) PyProof.Rows.boot_isinstance (qao (qaa (pv 0)) (qao (qc4 (v:=.ty "bool") rfl (nb "bool" (by decide)) PyProof.Rows.boot_bool rfl) qaF))))))))
theorem qsJ {f:Addr} {fd:FuncData} (F:Fun K "is_key" "is_key" qr9 f fd) (nb: ∀x∈namesX,mg x=none) {u_15:Value} (cm_15:mg "LONGEST_KEY" =some u_15) (cr_15:RelV (.int 2) u_15) (F_30:Kn P w K mg base G C "is_word" ["thing", "longest"] 1 t_30):qbo P w K mg base CX0 2 f fd ["thing"] (spP K G C t_34):=
 qbN F qrS λcdv A outer s H E hr=>qal (qaH (qai F_30 rfl (hr.mono (by decide)) rfl (qac (qaa (pv 0)) (qac (qco (qcy rfl cm_15 cr_15) (λ_=>qbk)) (qam)))))
theorem qsX {f:Addr} {fd:FuncData} (F:Fun K "is_whole_within" "is_whole_within" qsl f fd) (nb: ∀x∈namesX,mg x=none) (F_26:Kn P w K mg base G C "is_whole" ["thing"] 1 t_26):qbo P w K mg base CX0 2 f fd ["thing", "least", "greatest"] (spP K G C t_11):=
 qbN F qrZ λcdv A outer s H E hr=>qal (qaH (qnX (qai F_26 rfl (hr.mono (by decide)) rfl (qac (qaa (pv 0)) (qam))) (qnT (qiC qbu qbu qdl qdn qdl qdn (qaa (pv 1)) (qaa (pv 0)) (qaa (pv 2))))))
end
end K94
end
section
namespace HD
open PySem L2 PL
abbrev e2 (x:Str) (s:Stmt):Str×Stmt:=(x,s)
abbrev c2 (x:Str) (n:Int):Str×Int:=(x,n)
def fnAt (K:PySem.W.Frag) (x:Str):Option (Addr×Obj):=match PySem.W.nsIn K mainGlobals x with
 | some (some (.ref f))=>(match K.lookup f with | some o=>some (f,o) | none=>none)
 | _=>none
def qoY (K:PySem.W.Frag) (x:Str):Option FuncData:=match fnAt K x with
 | some (_,⟨_,_,.func fd,_⟩)=>some fd
 | _=>none
def okD (K:PySem.W.Frag) (x:Str):Bool:=match fnAt K x with
 | some (f,⟨_,_,.func fd,_⟩)=>PySem.W.codeIn K fd.code x&&PySem.W.keepIn K (.ref f)
 | _=>false
def due (x:Str) (st:Stmt) (fd:FuncData):FuncData:=PySem.W.fnOf x x (qbh st) (qaZ st) (qae st) .none fd.kwdefaults fd.doc fd.pyModule fd.annotations fd.code fd.closureTuple
def okN (K:PySem.W.Frag) (x:Str):Bool:=match PySem.W.nsIn K mainGlobals x with
 | some none=>true
 | _=>false
def okC (K:PySem.W.Frag) (c:Str×Int):Bool:=match PySem.W.nsIn K mainGlobals c.1 with
 | some (some (.int n _))=>n==c.2
 | _=>false
def Df (K:PySem.W.Frag) (mg:Str->Option Value) (x:Str) (st:Stmt):Prop:=
 ∃(f:Addr) (oc:Value) (od:Option Addr) (osl:Array (Option Value)) (kV doc pm:Value) (an:Option Addr) (cdv ct:Value),
  K.lookup f=some ⟨oc,od,.func (PySem.W.fnOf x x (qbh st) (qaZ st) (qae st) .none kV doc pm an cdv ct),osl⟩/\PySem.W.codeIn K cdv x=true/\PySem.W.keepIn K (.ref f)=true/\mg x=some (.ref f)/\
   PySem.W.nsIn K mainGlobals x=some (some (.ref f))
section
variable {K:PySem.W.Frag} {h:Heap} {mg:Str->Option Value} {x:Str} {st:Stmt} {tb:List (Str×Stmt)}
theorem qth (X:K.In h) (G:h.Ns mainGlobals mg) (a:okD K x=true) (e:qoY K x=(qoY K x).map (due x st)):Df K mg x st:=by
 unfold okD at a
 unfold qoY at e
 split at a
 ·rename_i f oc od fd osl q
  rw[q] at e
  have e:fd=due x st fd:=Option.some.inj e
  unfold fnAt at q
  split at q
  ·rename_i f' n
   split at q
   ·rename_i o lk
    cases q
    have a:=Bool.and_eq_true_iff.mp a
    exact ⟨_,_,_,_,fd.kwdefaults,fd.doc,fd.pyModule,fd.annotations,fd.code,fd.closureTuple,by rw[lk,show PySem.W.fnOf x x (qbh st) (qaZ st) (qae st) .none fd.kwdefaults fd.doc fd.pyModule fd.annotations fd.code fd.closureTuple=fd from e.symm],a.1,a.2,PySem.W.mg_of X G n,n⟩
   ·cases q
  ·cases q
 ·cases a
theorem qq2 (X:K.In h) (G:h.Ns mainGlobals mg) (a:(tb.all λp=>okD K p.1)=true) (e:tb.map (λp=>qoY K p.1)=tb.map λp=>(qoY K p.1).map (due p.1 p.2)): ∀(i:Nat) (x:Str) (st:Stmt),tb[i]? =some (x,st)->Df K mg x st:=λi x st hi=>by
 have a:=List.all_eq_true.mp a _ (List.mem_of_getElem? hi)
 have e:=congrArg (λl=>l[i]?) e
 simp only[List.getElem?_map,hi,Option.map_some] at e
 exact qth X G a (Option.some.inj e)
theorem qsZ (X:K.In h) (G:h.Ns mainGlobals mg) {l:List Str} (a:l.all (okN K)=true): ∀x∈l,mg x=none:=λx hx=>by
 have a:=List.all_eq_true.mp a x hx
 unfold okN at a
 split at a
 ·rename_i q; exact PySem.W.mg_none_of X G q
 ·cases a
theorem qtq (X:K.In h) (G:h.Ns mainGlobals mg) {l:List (Str×Int)} (a:l.all (okC K)=true): ∀(i:Nat) (x:Str) (n:Int),l[i]? =some (x,n)->∃u,mg x=some u/\RelV (.int n) u:=λi x n hi=>by
 have a:=List.all_eq_true.mp a _ (List.mem_of_getElem? hi)
 unfold okC at a
 split at a
 ·rename_i m tk q
  have:m=n:=by simpa using a
  subst this
  exact ⟨_,PySem.W.mg_of X G q,_,rfl⟩
 ·cases a
end
section
variable {P:Program} {w:World} {K:PySem.W.Frag} {mg:Str->Option Value} {base:Heap} {G:Gam} {C:Str->Addr} {x:Str} {st:Stmt} {ps:List Str} {k:Nat} {t:List T->Rs T}
theorem kn (D:Df K mg x st) (ok: ∀{f:Addr} {fd:FuncData},Fun K x x st f fd->qbo P w K mg base CX0 k f fd ps (spP K G C t))
  (hb: ∀(kV doc pm:Value) (an:Option Addr) (cdv ct:Value) (us:List Value),us.length=ps.length->bindArgs (PySem.W.fnOf x x (qbh st) (qaZ st) (qae st) .none kV doc pm an cdv ct) ⟨us,[]⟩=pure (ps.zip us):=by
   exact λ_ _ _ _ _ _ us hl=>by first | (obtain ⟨a,e⟩:=qs2 hl; subst e; rfl) | (obtain ⟨a,b,e⟩:=qrn hl; subst e; rfl) | (obtain ⟨a,b,c,e⟩:=qrm hl; subst e; rfl) | (obtain ⟨a,b,c,d,e⟩:=len4 hl; subst e; rfl)):Kn P w K mg base G C x ps k t:=by
 obtain ⟨f,oc,od,osl,kV,doc,pm,an,cdv,ct,lk,hcd,kp,m, -⟩:=D
 have F:=qfo lk hcd kp
 exact ⟨_,_,ok F,m,kp,F.binds hb⟩
theorem qpk (D:Df K mg x st) {c T:Addr} (ht:PySem.W.tabIn K x=some (c,T)): ∃(f:Addr) (oc:Value) (od:Option Addr) (osl:Array (Option Value)) (kV doc pm:Value) (an:Option Addr) (cdv ct:Value),
  K.lookup f=some ⟨oc,od,.func (PySem.W.fnOf x x (qbh st) (qaZ st) (qae st) .none kV doc pm an cdv ct),osl⟩/\PySem.W.codeIn K cdv x=true/\PySem.W.keepIn K (.ref f)=true/\mg x=some (.ref f)/\cdv= .ref c:=by
 obtain ⟨f,oc,od,osl,kV,doc,pm,an,cdv,ct,lk,hcd,kp,m,n⟩:=D
 refine ⟨f,oc,od,osl,kV,doc,pm,an,cdv,ct,lk,hcd,kp,m,?_⟩
 unfold PySem.W.tabIn at ht
 rw[n] at ht
 simp only[lk] at ht
 cases cdv with
 | ref c'=>
  dsimp only at ht
  split at ht
  ·split at ht
   ·cases ht; rfl
   ·cases ht
  ·cases ht
 | _=>cases ht
theorem knL (D:Df K mg x st) {c T:Addr} (ht:PySem.W.tabIn K x=some (c,T)) (hC:PySem.W.CodeHd base c T)
  (ok: ∀{f:Addr} {oc kV doc pm cdv ct:Value} {od an:Option Addr} {osl:Array (Option Value)},K.lookup f=some ⟨oc,od,.func (PySem.W.fnOf x x (qbh st) (qaZ st) (qae st) .none kV doc pm an cdv ct),osl⟩->PySem.W.codeIn K cdv x=true->cdv= .ref c->PySem.W.CodeHd base c T->
   qbo P w K mg base CX0 k f (PySem.W.fnOf x x (qbh st) (qaZ st) (qae st) .none kV doc pm an cdv ct) ps (spP K G C t))
  (hb: ∀(kV doc pm:Value) (an:Option Addr) (cdv ct:Value) (us:List Value),us.length=ps.length->bindArgs (PySem.W.fnOf x x (qbh st) (qaZ st) (qae st) .none kV doc pm an cdv ct) ⟨us,[]⟩=pure (ps.zip us):=by
   exact λ_ _ _ _ _ _ us hl=>by first | (obtain ⟨a,e⟩:=qs2 hl; subst e; rfl) | (obtain ⟨a,b,e⟩:=qrn hl; subst e; rfl) | (obtain ⟨a,b,c,e⟩:=qrm hl; subst e; rfl) | (obtain ⟨a,b,c,d,e⟩:=len4 hl; subst e; rfl)):Kn P w K mg base G C x ps k t:=by
 obtain ⟨f,oc,od,osl,kV,doc,pm,an,cdv,ct,lk,hcd,kp,m,hc⟩:=qpk D ht
 have F:=qfo lk hcd kp
 exact ⟨_,_,ok lk hcd hc hC,m,kp,F.binds hb⟩
end
theorem qpQ {K:PySem.W.Frag} {lq:List (Pos×Str)} {Ts:List Addr} {H:Hp} {a:Addr} {ns:List Int} {C:Str->Addr} {t:List T->Rs T} (ht:t [.scr ns]= .ok (.bl true)) (hO:qgW Ts H) (hS:SqL K H a (ns.map V.int)):spP K (qe6 (Ts.zip lq)) C t [.ref a] H (λv _=>v= .bl true) λ_ _ _=>False:=by
 have fin: ∀B:Hp,Le B H->(∀a ps,B a≠some (.tbl ps))->SqL K B a (ns.map V.int)->spP K (qe6 (Ts.zip lq)) C t [.ref a] H (λv _=>v= .bl true) λ_ _ _=>False:=λB le bt sq=>by
  refine ⟨B,[.scr ns],le,bt,qrA hO,.cons (by unfold Rep; exact ⟨a,rfl,sq⟩) .nil,?_⟩
  rw[ht]
  exact λv H' B' _ _ r=>qbm r
 have cut: ∀{o:HO},H a=some o->(∀ps,o≠.tbl ps)->SqL K (λb=>if b=a then H a else none) a (ns.map V.int)->spP K (qe6 (Ts.zip lq)) C t [.ref a] H (λv _=>v= .bl true) λ_ _ _=>False:=λ{o} ho n sq=>
  fin _ (λb o z=>by
   by_cases c:b=a
   ·subst c; simpa using z
   ·simp[c] at z) (λb ps z=>by
   by_cases c:b=a
   ·subst c; simp[ho] at z; exact n ps z
   ·simp[c] at z) sq
 rcases hS with (hS | ⟨o,hS⟩) | hS
 ·exact cut hS (λps z=>by cases z) (.inl (.inl (by simp[hS])))
 ·exact cut hS (λps z=>by cases z) (.inl (.inr ⟨o,by simp[hS]⟩))
 ·exact fin (λ_=>none) (λ_ _ z=>by cases z) (λ_ _ z=>by cases z) (.inr hS)
def tOf (K:PySem.W.Frag) (y:Str):Addr:=((PySem.W.tabIn K y).getD (0,0)).2
def qhy (K:PySem.W.Frag) (ys:List Str):List (Addr×Addr):=ys.map λy=>(PySem.W.tabIn K y).getD (0,0)
def okT (K:PySem.W.Frag) (ys:List Str):Bool:=decide (ys.map (tOf K)).Nodup&&ys.all λy=>match PySem.W.tabIn K y with
 | some (_,T)=>(match K.lookup T with | none=>true | some _=>false)
 | none=>false
theorem qnn {K:PySem.W.Frag} {ys:List Str} (h:okT K ys=true):ys.map (PySem.W.tabIn K)=(qhy K ys).map some/\(∀T∈(qhy K ys).map (·.2),K.lookup T=none)/\(ys.map (tOf K)).Nodup:=by
 have h:=Bool.and_eq_true_iff.mp h
 have nd:=of_decide_eq_true h.1
 have h:=List.all_eq_true.mp h.2
 refine ⟨?_,?_,nd⟩
 ·unfold qhy
  rw[List.map_map]
  refine List.map_congr_left λy hy=> ?_
  have:=h y hy
  show PySem.W.tabIn K y=some ((PySem.W.tabIn K y).getD (0,0))
  cases q:PySem.W.tabIn K y with
  | none=>rw[q] at this; cases this
  | some p=>rfl
 ·intro T hT
  obtain ⟨p,hp,rfl⟩:=List.mem_map.mp hT
  obtain ⟨y,hy,rfl⟩:=List.mem_map.mp hp
  have:=h y hy
  cases q:PySem.W.tabIn K y with
  | none=>rw[q] at this; cases this
  | some p=>
   rw[q] at this
   dsimp only at this
   show K.lookup p.2=none
   split at this
   ·assumption
   ·cases this
end HD
end
section
namespace HD
open PySem L2 PL
def KnX (P:Program) (w:World) (K:PySem.W.Frag) (mg:Str->Option Value) (base:Heap) (CX:CXT) (x:Str) (ps:List Str) (k:Nat) (sp:Sp):Prop:=
 ∃(f:Addr) (fd:FuncData),qbo P w K mg base CX k f fd ps sp/\mg x=some (.ref f)/\PySem.W.keepIn K (.ref f)=true/\qdZ K fd ps []
section
variable {P:Program} {w:World} {K:PySem.W.Frag} {mg:Str->Option Value} {base:Heap} {CX:CXT} {x:Str} {st:Stmt} {ps:List Str} {k:Nat} {sp:Sp}
theorem knx (D:Df K mg x st) (ok: ∀{f:Addr} {fd:FuncData},Fun K x x st f fd->qbo P w K mg base CX k f fd ps sp)
  (hb: ∀(kV doc pm:Value) (an:Option Addr) (cdv ct:Value) (us:List Value),us.length=ps.length->bindArgs (PySem.W.fnOf x x (qbh st) (qaZ st) (qae st) .none kV doc pm an cdv ct) ⟨us,[]⟩=pure (ps.zip us):=by
   exact λ_ _ _ _ _ _ us hl=>by first | (obtain ⟨a,e⟩:=qs2 hl; subst e; rfl) | (obtain ⟨a,b,e⟩:=qrn hl; subst e; rfl) | (obtain ⟨a,b,c,e⟩:=qrm hl; subst e; rfl) | (obtain ⟨a,b,c,d,e⟩:=len4 hl; subst e; rfl)):KnX P w K mg base CX x ps k sp:=by
 obtain ⟨f,oc,od,osl,kV,doc,pm,an,cdv,ct,lk,hcd,kp,m, -⟩:=D
 have F:=qfo lk hcd kp
 exact ⟨_,_,ok F,m,kp,F.binds hb⟩
end
end HD
end
section
namespace HD
open PySem L2 PL
end HD
end
section
namespace HD
open PySem L2 PL
theorem walkW {Ex:World->PySem.W.Frag->(Str->Option Value)->Prop} {l:PySem.W.OpenLaw} {q:Program} {loose:List Str} {XP:(Str->Option Value)->Heap->Prop} {YP:World->Heap->Prop} {d:DefRec} {K:Params->PySem.W.Frag} {tb:List (Str×Stmt)} {cs:List (Str×Int)} {nms:List Str} {ys:List Str} {lq:List (Pos×Str)} {LV:Nat} {sl:Stmt} {t:List T->Rs T}
  (hn:l.most=some 63) (hdf:d.params.defaults=[]) (hd:d.name= "law") (hY: ∀(w:World) (h:Heap),YP w h->(K w.params).In h) (hrec: ∀y∈ys,∃dx,(PyProof.Rows.recsOf q).find? (λe=>e.name==y)=some dx) (hR:qcu LV callerA)
  (h1: ∀w:World,(tb.all λp=>okD (K w.params) p.1)=true) (h2: ∀w:World,tb.map (λp=>qoY (K w.params) p.1)=tb.map λp=>(qoY (K w.params) p.1).map (due p.1 p.2)) (h3: ∀w:World,cs.all (okC (K w.params))=true) (h4: ∀w:World,nms.all (okN (K w.params))=true)
  (h5: ∀w:World,okT (K w.params) ys=true) {i:Nat} (hi:tb[i]? =some (Str.ofString "law",sl)) (hT: ∀ns:List Int,ns.length<=63->t [.scr ns]= .ok (.bl true))
  (hbl: ∀(kV doc pm:Value) (an:Option Addr) (cdv ct u:Value),bindArgs (PySem.W.fnOf "law" "law" (qbh sl) (qaZ sl) (qae sl) .none kV doc pm an cdv ct) ⟨[u],[]⟩=pure [(Str.ofString "_law_script",u)])
  (hE: ∀(w:World) (mg:Str->Option Value) (h:Heap),(K w.params).In h->h.Ns mainGlobals mg->Ex w (K w.params) mg)
  (F: ∀{w:World} {K:PySem.W.Frag} {mg:Str->Option Value} {base:Heap} {fa:Addr} {fd:FuncData},(∀(i:Nat) (x:Str) (st:Stmt),tb[i]? =some (x,st)->Df K mg x st)->(∀x∈nms,mg x=none)->(∀(i:Nat) (x:Str) (n:Int),cs[i]? =some (x,n)->∃u,mg x=some u/\RelV (.int n) u)->
   (∀y∈ys,∃c,PySem.W.tabIn K y=some (c,tOf K y)/\PySem.W.CodeHd base c (tOf K y))->(ys.map (tOf K)).Nodup->qhF mg base->K.In base->Ex w K mg->Fun K "law" "law" sl fa fd->qbo l.prog w K mg base CX0 LV fa fd ["_law_script"] (spP K (qe6 ((ys.map (tOf K)).zip lq)) (λ_=>0) t)):
  PySem.W.WalkO q loose XP YP l.row.toRowW d [] (λf vs=>PySem.call f vs):=by
 refine L2.walk_ofTs (n:=63) (k:=LV) (x:= "_law_script") (ys:=ys) (CX:=λ_=>CX0) (sp:=λw cts=>spP (K w.params) (qe6 ((cts.map (·.2)).zip lq)) (λ_=>0) t) hn (by decide) hdf hR hY hrec ?_ (λ_ _ _ a ns hl hO hS=>qpQ (hT ns hl) hO hS) λ_ _ _ _ _ z=>z
 intro w mg fa h X G hm
 have D:=qq2 X G (h1 w) (h2 w)
 obtain ⟨f,oc,od,osl,kV,doc,pm,an,cdv,ct,lk,hcd,kp,m, -⟩:=D i _ _ hi
 rw[hd] at hm
 have e:=hm.symm.trans m
 cases e
 obtain ⟨t1,t2,nd⟩:=qnn (h5 w)
 have em:(qhy (K w.params) ys).map (·.2)=ys.map (tOf (K w.params)):=by unfold qhy; rw[List.map_map]; rfl
 refine ⟨_,qhy (K w.params) ys,t1,t2,λs u=>.of_eq (hbl kV doc pm an cdv ct u),λbase KI _ hC hb=> ?_⟩
 rw[em]
 refine F D (qsZ X G (h4 w)) (qtq X G (h3 w)) (λy hy=> ?_) nd hb KI (hE w mg h X G) (qfo lk hcd kp)
 have e1:some ((PySem.W.tabIn (K w.params) y).getD (0,0))=PySem.W.tabIn (K w.params) y:=by
  obtain ⟨j,hj,ej⟩:=List.mem_iff_getElem.mp hy
  have:=congrArg (λl=>l[j]?) t1
  unfold qhy at this
  simp only[List.getElem?_map,List.getElem?_eq_getElem hj,ej,Option.map_some] at this
  exact (Option.some.inj this).symm
 exact ⟨((PySem.W.tabIn (K w.params) y).getD (0,0)).1,e1.symm,hC _ (List.mem_map.mpr ⟨y,hy,rfl⟩)⟩
end HD
end
section
namespace K94
open PySem L2 PL SetL RH HD
abbrev lqs:List (Pos×Str):=[(qhj,qeu)]
abbrev tb:List (Str×Stmt):=[e2 "is_whole" qsf,e2 "is_whole_within" qsl,e2 "is_word" qsd,e2 "is_key" qr9,e2 "is_row" qr8,e2 "is_log" qr7,e2 "keys_of" qsc,e2 "refuse_what_is_no_row" s_0,e2 "refuse_out_of_order" s_6,e2 "refuse_what_is_no_log" s_1,e2 "refuse_number_beyond" s_3,e2 "of_key" qrd,e2 "over" quo,e2 "under" qur,e2 "plus" qun,e2 "times" quq,e2 "first" qup,e2 "each" qum,e2 "window" quu,e2 "window_rows" quv,e2 "running" qsb,e2 "change" qut,e2 "unlike" qus,e2 "is_step" qsa,e2 "is_ask" qr6,e2 "refuse_what_is_no_ask" s_2,e2 "behind_step" qsk,e2 "behind_last_rows" s_7,e2 "asked" qr2,e2 "stretches" qnC,e2 "stretches_of_one_key" s_5,e2 "longer" qr5,e2 "going_on" qrf,e2 "pauses" qr4,e2 "rising_lines" qrg,e2 "numbers_together" s_8,e2 "table_of" qre,e2 "by_key" qr3,e2 "_law_cell" qsi,e2 "_law_pick" qsh,e2 "_law_key" qse,e2 "_law_number" qsj,e2 "_law_rows" qsg,e2 "law" qf8]
abbrev cs:List (Str×Int):=[c2 "GREATEST_GAP" (99),c2 "GREATEST_MOMENT" (99),c2 "GREATEST_NUMBER" (99),c2 "GREATEST_STEP_NUMBER" (20),c2 "LONGEST_KEY" (2),c2 "MOST_STEPS" (5)]
def Ex (w:World) (K:PySem.W.Frag) (mg:Str->Option Value):Prop:=qlY K mg w "NUMBER_STEPS" [(("over" :Str),("over" :Str)),(("under" :Str),("under" :Str)),(("plus" :Str),("plus" :Str)),(("times" :Str),("times" :Str))]/\qlY K mg w "COUNT_STEPS" [(("first" :Str),("first" :Str)),(("each" :Str),("each" :Str)),(("window" :Str),("window" :Str))]/\qlY K mg w "BARE_STEPS" [(("running" :Str),("running" :Str)),(("change" :Str),("change" :Str)),(("unlike" :Str),("unlike" :Str))]
theorem ex_of {K:Params->PySem.W.Frag} (b0: ∀w:World,qpG (K w.params) "NUMBER_STEPS" [(("over" :Str),("over" :Str)),(("under" :Str),("under" :Str)),(("plus" :Str),("plus" :Str)),(("times" :Str),("times" :Str))]=true) (h0: ∀w:World,(qpz (K w.params) "NUMBER_STEPS").map (λes=>es.map (·.hash))=some (([(("over" :Str),("over" :Str)),(("under" :Str),("under" :Str)),(("plus" :Str),("plus" :Str)),(("times" :Str),("times" :Str))]:List (Str×Str)).map λp=>PyData.keyHash w.params p.1)) (b1: ∀w:World,qpG (K w.params) "COUNT_STEPS" [(("first" :Str),("first" :Str)),(("each" :Str),("each" :Str)),(("window" :Str),("window" :Str))]=true) (h1: ∀w:World,(qpz (K w.params) "COUNT_STEPS").map (λes=>es.map (·.hash))=some (([(("first" :Str),("first" :Str)),(("each" :Str),("each" :Str)),(("window" :Str),("window" :Str))]:List (Str×Str)).map λp=>PyData.keyHash w.params p.1)) (b2: ∀w:World,qpG (K w.params) "BARE_STEPS" [(("running" :Str),("running" :Str)),(("change" :Str),("change" :Str)),(("unlike" :Str),("unlike" :Str))]=true) (h2: ∀w:World,(qpz (K w.params) "BARE_STEPS").map (λes=>es.map (·.hash))=some (([(("running" :Str),("running" :Str)),(("change" :Str),("change" :Str)),(("unlike" :Str),("unlike" :Str))]:List (Str×Str)).map λp=>PyData.keyHash w.params p.1))
  (w:World) (mg:Str->Option Value) (h:Heap) (X:(K w.params).In h) (G:h.Ns mainGlobals mg):Ex w (K w.params) mg:=
 ⟨qg1 X G (b0 w) (h0 w),qg1 X G (b1 w) (h1 w),qg1 X G (b2 w) (h2 w)⟩
theorem mk {P:Program} {w:World} {K:PySem.W.Frag} {mg:Str->Option Value} {base:Heap} {fa:Addr} {fd:FuncData} (D: ∀(i:Nat) (x:Str) (st:Stmt),tb[i]? =some (x,st)->Df K mg x st) (nb: ∀x∈namesX,mg x=none) (cm: ∀(i:Nat) (x:Str) (n:Int),cs[i]? =some (x,n)->∃u,mg x=some u/\RelV (.int n) u)
  (tc: ∀y∈(["stretches"]:List Str),∃c,PySem.W.tabIn K y=some (c,tOf K y)/\PySem.W.CodeHd base c (tOf K y)) (nd:((["stretches"]:List Str).map (tOf K)).Nodup) (hb:qhF mg base) (KI:K.In base) (EX:Ex w K mg) (F:Fun K "law" "law" qf8 fa fd):
  qbo P w K mg base CX0 8 fa fd ["_law_script"] (spP K (gL (HD.tOf K "stretches")) (λ_=>0) t_law):=by
 obtain ⟨T_12,T_17,T_21⟩:=EX
 obtain ⟨_,cm_13,cr_13⟩:=cm 0 _ _ rfl
 obtain ⟨_,cm_9,cr_9⟩:=cm 1 _ _ rfl
 obtain ⟨_,cm_10,cr_10⟩:=cm 2 _ _ rfl
 obtain ⟨_,cm_4,cr_4⟩:=cm 3 _ _ rfl
 obtain ⟨_,cm_15,cr_15⟩:=cm 4 _ _ rfl
 obtain ⟨_,cm_20,cr_20⟩:=cm 5 _ _ rfl
 obtain ⟨_,ht_22,hC_22⟩:=tc "stretches" (by simp)
 have N_26:=kn (w:=w) (G:=(gL (HD.tOf K "stretches"))) (C:=λ_=>0) (D 0 _ _ rfl) λF=>qsR (P:=P) (w:=w) (mg:=mg) (base:=base) F nb (qeA K)
 have N_11:=kn (w:=w) (G:=(gL (HD.tOf K "stretches"))) (C:=λ_=>0) (D 1 _ _ rfl) λF=>qsX (P:=P) (w:=w) (mg:=mg) (base:=base) F nb N_26
 have N_30:=kn (w:=w) (G:=(gL (HD.tOf K "stretches"))) (C:=λ_=>0) (D 2 _ _ rfl) λF=>qsN (P:=P) (w:=w) (mg:=mg) (base:=base) F nb (qeA K)
 have N_34:=kn (w:=w) (G:=(gL (HD.tOf K "stretches"))) (C:=λ_=>0) (D 3 _ _ rfl) λF=>qsJ (P:=P) (w:=w) (mg:=mg) (base:=base) F nb cm_15 cr_15 N_30
 have N_35:=kn (w:=w) (G:=(gL (HD.tOf K "stretches"))) (C:=λ_=>0) (D 4 _ _ rfl) λF=>qsI (P:=P) (w:=w) (mg:=mg) (base:=base) F nb (qeA K) cm_9 cr_9 cm_10 cr_10 N_34 N_11
 have N_36:=kn (w:=w) (G:=(gL (HD.tOf K "stretches"))) (C:=λ_=>0) (D 5 _ _ rfl) λF=>qsH (P:=P) (w:=w) (mg:=mg) (base:=base) F nb
 have N_31:=kn (w:=w) (G:=(gL (HD.tOf K "stretches"))) (C:=λ_=>0) (D 6 _ _ rfl) λF=>qsM (P:=P) (w:=w) (mg:=mg) (base:=base) F nb
 have N_0:=kn (w:=w) (G:=(gL (HD.tOf K "stretches"))) (C:=λ_=>0) (D 7 _ _ rfl) λF=>quN (P:=P) (w:=w) (mg:=mg) (base:=base) F nb N_35
 have N_6:=kn (w:=w) (G:=(gL (HD.tOf K "stretches"))) (C:=λ_=>0) (D 8 _ _ rfl) λF=>quI (P:=P) (w:=w) (mg:=mg) (base:=base) F nb N_36
 have N_1:=kn (w:=w) (G:=(gL (HD.tOf K "stretches"))) (C:=λ_=>0) (D 9 _ _ rfl) λF=>quM (P:=P) (w:=w) (mg:=mg) (base:=base) F nb N_6 N_0
 have N_3:=kn (w:=w) (G:=(gL (HD.tOf K "stretches"))) (C:=λ_=>0) (D 10 _ _ rfl) λF=>quK (P:=P) (w:=w) (mg:=mg) (base:=base) F nb N_11
 have N_37:KnS P w K mg base (gL (HD.tOf K "stretches")) (λ_=>0) "of_key" ["rows", "key"] 1 o_37:=knx (P:=P) (w:=w) (base:=base) (D 11 _ _ rfl) λF=>qsG (G:=(gL (HD.tOf K "stretches"))) (C:=λ_=>0) (P:=P) (w:=w) (mg:=mg) (base:=base) F nb
 have N_32:KnQ P w K mg base (gL (HD.tOf K "stretches")) (λ_=>0) "running" ["rows", "sums"] 1 q_32:=knx (P:=P) (w:=w) (base:=base) (D 20 _ _ rfl) λF=>qsL (G:=(gL (HD.tOf K "stretches"))) (C:=λ_=>0) (P:=P) (w:=w) (mg:=mg) (base:=base) F nb
 have N_33:=kn (w:=w) (G:=(gL (HD.tOf K "stretches"))) (C:=λ_=>0) (D 23 _ _ rfl) λF=>qsK (P:=P) (w:=w) (mg:=mg) (base:=base) F nb (qeA K) N_34 T_21
 have N_41:=kn (w:=w) (G:=(gL (HD.tOf K "stretches"))) (C:=λ_=>0) (D 24 _ _ rfl) λF=>qsF (P:=P) (w:=w) (mg:=mg) (base:=base) F nb (qeA K) cm_20 cr_20 N_33
 have N_2:=kn (w:=w) (G:=(gL (HD.tOf K "stretches"))) (C:=λ_=>0) (D 25 _ _ rfl) λF=>quL (P:=P) (w:=w) (mg:=mg) (base:=base) F nb N_41
 have N_18:KnQ P w K mg base (gL (HD.tOf K "stretches")) (λ_=>0) "behind_step" ["step", "rows", "kept"] 3 q_18:=knx (P:=P) (w:=w) (base:=base) (D 26 _ _ rfl) λF=>qsV (G:=(gL (HD.tOf K "stretches"))) (C:=λ_=>0) (P:=P) (w:=w) (mg:=mg) (base:=base) F nb N_37 N_32 T_21 T_17 T_12
 have N_7:KnQ P w K mg base (gL (HD.tOf K "stretches")) (λ_=>0) "behind_last_rows" ["step", "rows", "kept"] 4 q_7:=knx (P:=P) (w:=w) (base:=base) (D 27 _ _ rfl) λF=>quH (G:=(gL (HD.tOf K "stretches"))) (C:=λ_=>0) (P:=P) (w:=w) (mg:=mg) (base:=base) F nb N_18
 have N_48:KnS P w K mg base (gL (HD.tOf K "stretches")) (λ_=>0) "asked" ["ask", "rows"] 6 o_48:=knx (P:=P) (w:=w) (base:=base) (D 28 _ _ rfl) λF=>qsB (G:=(gL (HD.tOf K "stretches"))) (C:=λ_=>0) (P:=P) (w:=w) (mg:=mg) (base:=base) F nb N_7 N_2 N_1
 have N_42:=kn (w:=w) (G:=(gL (HD.tOf K "stretches"))) (C:=λ_=>0) (D 31 _ _ rfl) λF=>qsE (P:=P) (w:=w) (mg:=mg) (base:=base) F nb
 have N_5:=kn (w:=w) (G:=(gL (HD.tOf K "stretches"))) (C:=λ_=>0) (D 30 _ _ rfl) λF=>quJ (P:=P) (w:=w) (mg:=mg) (base:=base) F nb N_42
 have N_22:=knL (w:=w) (G:=(gL (HD.tOf K "stretches"))) (C:=λ_=>0) (D 29 _ _ rfl) ht_22 hC_22 λlk hcd hc C0=>qsT (C:=λ_=>0) (P:=P) (w:=w) (mg:=mg) (base:=base) lk hcd hc nb C0 hb nd cm_13 cr_13 N_31 N_37 N_3 N_1 N_5
 have N_27:=kn (w:=w) (G:=(gL (HD.tOf K "stretches"))) (C:=λ_=>0) (D 32 _ _ rfl) λF=>qsQ (P:=P) (w:=w) (mg:=mg) (base:=base) F nb N_22
 have N_43:=kn (w:=w) (G:=(gL (HD.tOf K "stretches"))) (C:=λ_=>0) (D 33 _ _ rfl) λF=>qsD (P:=P) (w:=w) (mg:=mg) (base:=base) F nb N_37 N_1
 have N_8:=kn (w:=w) (G:=(gL (HD.tOf K "stretches"))) (C:=λ_=>0) (D 35 _ _ rfl) λF=>quG (P:=P) (w:=w) (mg:=mg) (base:=base) F nb
 have N_14:=kn (w:=w) (G:=(gL (HD.tOf K "stretches"))) (C:=λ_=>0) (D 34 _ _ rfl) λF=>qsW (P:=P) (w:=w) (mg:=mg) (base:=base) F nb N_8
 have N_28:=kn (w:=w) (G:=(gL (HD.tOf K "stretches"))) (C:=λ_=>0) (D 36 _ _ rfl) λF=>qsP (P:=P) (w:=w) (mg:=mg) (base:=base) F nb N_0 N_14
 have N_44:=kn (w:=w) (G:=(gL (HD.tOf K "stretches"))) (C:=λ_=>0) (D 37 _ _ rfl) λF=>qsC (P:=P) (w:=w) (mg:=mg) (base:=base) F nb N_14
 obtain ⟨f1,oc1,od1,osl1,kV1,doc1,pm1,an1,cdv1,ct1,lk1,hcd1,kp1,m1, -⟩:=D 38 _ _ rfl
 have F1:=qfo lk1 hcd1 kp1
 have G1:=qoD (P:=P) (w:=w) (mg:=mg) (base:=base) F1 (nb "len" (by decide))
 have b1:=F1.binds (ps:=["_law_script", "_law_k"]) λ_ _ _ _ _ _ us hl=>by obtain ⟨a,b,e⟩:=qrn hl; subst e; rfl
 obtain ⟨f2,oc2,od2,osl2,kV2,doc2,pm2,an2,cdv2,ct2,lk2,hcd2,kp2,m2, -⟩:=D 39 _ _ rfl
 have F2:=qfo lk2 hcd2 kp2
 have G2:=qoC (P:=P) (w:=w) (mg:=mg) (base:=base) F2 G1 m1 kp1 b1
 have N_24:=qoO (G:=(gL (HD.tOf K "stretches"))) (C:=λ_=>0) G2 m2 kp2 (F2.binds (ps:=["_law_script", "_law_k", "_law_many"]) λ_ _ _ _ _ _ us hl=>by obtain ⟨a,b,c,e⟩:=qrm hl; subst e; rfl)
 have N_29:=kn (w:=w) (G:=(gL (HD.tOf K "stretches"))) (C:=λ_=>0) (D 40 _ _ rfl) λF=>qsO (P:=P) (w:=w) (mg:=mg) (base:=base) F nb N_24
 have N_19:=kn (w:=w) (G:=(gL (HD.tOf K "stretches"))) (C:=λ_=>0) (D 41 _ _ rfl) λF=>qsU (P:=P) (w:=w) (mg:=mg) (base:=base) F nb N_24
 have N_25:=kn (w:=w) (G:=(gL (HD.tOf K "stretches"))) (C:=λ_=>0) (D 42 _ _ rfl) λF=>qsS (P:=P) (w:=w) (mg:=mg) (base:=base) F nb N_29 N_19 N_24
 exact qqy (G:=(gL (HD.tOf K "stretches"))) (C:=λ_=>0) (P:=P) (w:=w) (mg:=mg) (base:=base) F nb N_24 N_25 N_48 N_44 N_27 N_43 N_22 N_28
end K94
end
section
open PySem PySem.W PyProof.Rows
set_option maxRecDepth 100000 in
set_option maxHeartbeats 0 in
theorem PySem.Challenge.cw_rowasks_k94_whole_stretches_and_asks_holds : PySem.Challenge.rw_rowasks_k94_whole_stretches_and_asks.Holds := by
 w_on; o_law
 refine holds_open (q:=K94.vq) (loose:=K94.lo) (Xt:=K94.xt) (XP:=XL K94.vq []) (Yf:=Hook.obs K94.hk) (Ya:=Hook.val K94.hk) (YP:=Hook.says K94.hk) (N:=20000) (HD.left_parts "special-get-raises" K94.rXF K94.rYF K94.rXT K94.rYT) (Hook.of K94.hk) (Hook.keeps K94.hk) (λs e=>xl_of s (Bool.and_eq_true_iff.mp e).1) XL.keeps (by rfl) (by rfl) (by rfl) (λs e=>recFacts_of (Bool.and_eq_true_iff.mp e).2) (by rfl) (by first | assumption | decide+kernel) (by decide+kernel) ⟨rfl,rfl,rfl,rfl,rfl,by decide+kernel⟩ ?hw ?hc
 (case hw=>w_witness2)
 k_fill
 refine' HD.walkW (l:=PySem.Challenge.rw_rowasks_k94_whole_stretches_and_asks) (tb:=K94.tb) (cs:=K94.cs) (nms:=PL.namesX) (ys:=["stretches"]) (lq:=K94.lqs) (LV:=8) (i:=43) (t:=K94.t_law) rfl rfl rfl (λw h Y=>Y.1) ?_ ⟨rfl,by decide,by decide⟩ (λw=>by kernel_rfl) (λw=>by kernel_rfl) (λw=>by kernel_rfl) (λw=>by kernel_rfl) (λw=>by kernel_rfl) rfl (λns hl=>K94.law_true hl) (λ_ _ _ _ _ _ _=>rfl) (K94.ex_of (λw=>by kernel_rfl) (λw=>by kernel_rfl) (λw=>by kernel_rfl) (λw=>by kernel_rfl) (λw=>by kernel_rfl) (λw=>by kernel_rfl)) K94.mk
 intro y hy
 simp only[List.mem_cons,List.not_mem_nil,or_false] at hy
 subst hy
 exact ⟨_,rfl⟩
end
