import PyProof.Rows.All
import Wide.All
import OpenK.AllK
import Wide.FinOn
import Lean
import PyProof.EqAt
import PyProof.EqKinds
import PyProof.TupleCall
import KE.KSortTup
import KE.KSortKey
import PyProof.ExcBaseAll.ValueError
import PyProof.ExcAttrAll.ValueError
import KE.KTryOn
import OpenK.KOwn
import PyProof.NeData
import PyProof.SetKind
import PyProof.Rows.SetFrom
import PyProof.CollectWalk
import KE.KNest
import PyProof.FString5
import KE.KDictList
import KE.KDictSum
import PySem.Challenge.RW_rowasks_k85_standing_refused
set_option Elab.async false
set_option linter.all false
set_option maxRecDepth 100000
set_option maxHeartbeats 8000000
local macro_rules | `(tactic| trivial)=> `(tactic| first | exact Or.inl rfl | exact Or.inr rfl | exact ⟨rfl,rfl,rfl,by decide+kernel,rfl,by decide+kernel,by decide+kernel⟩ | (intro p hp; simp only[List.mem_cons,List.not_mem_nil,or_false] at hp; subst hp; exact ⟨rfl,rfl⟩))
section
namespace HD
open PySem PySem.W
def qsO:Stmt->Bool
 | .Assign (targets:=[.Name x _]) .. =>x== "__name__"
 | _=>false
def vw (p:Program):Program:={ p with main:={ p.main with body:=p.main.body.filter λs=> !qsO s } }
def qoT (p q:Program) (loose:List Str) (Xt:Shared->Bool) (s:Shared):=openSeen q loose (importedModules p.main.body) Xt true s
end HD
end
section
namespace HD
open PySem PySem.W
def qpN (p:Program) (N:Nat) (w:World):Option Shared:=(fencedOpening treeTable p w N).bind (topFrom treeTable p w N)
def OneX (p q:Program) (loose:List Str) (Xt:Shared->Bool) (N:Nat):Prop:= ∀w:World,(qpN p N w).map (λs=>(qoT p q loose Xt s).2)=some (openGood q loose).2
def OneY (p q:Program) (loose:List Str) (Xt:Shared->Bool) (H:Hook) (N:Nat):Prop:= ∀w:World,(qpN p N w).map (λs=>((qoT p q loose Xt s).1,H.obs s))=some ((openGood q loose).1,H.val w)
theorem left_one {p q:Program} {loose:List Str} {Xt:Shared->Bool} {H:Hook} {N:Nat} (hx:OneX p q loose Xt N) (hy:OneY p q loose Xt H N):LeftO p q loose Xt (Hook.obs H) (Hook.val H) N:=λw=>by
 have hx:=hx w
 have hy:=hy w
 unfold openEnds
 have e:((fencedOpening treeTable p w N).bind (topFrom treeTable p w N))=qpN p N w:=rfl
 rw[e]
 cases r:qpN p N w with
 | none=>rw[r] at hx; cases hx
 | some s=>
  rw[r] at hx hy
  have y:=Prod.mk.inj (Option.some.inj hy)
  exact congrArg some (Prod.ext (Prod.ext y.1 (Option.some.inj hx)) y.2)
end HD
end
section
open PySem PySem.W PyProof.Rows
namespace K85
abbrev vq:Program:=HD.vw PySem.Challenge.pw_rowasks_k85_standing_refused
abbrev lo:List Str:=[]
abbrev xt:Shared->Bool:=λs=>xlAt vq [] s&&recOk (RowW.records PySem.Challenge.rw_rowasks_k85_standing_refused.row.toRowW) s
set_option maxRecDepth 100000 in
set_option maxHeartbeats 0 in
theorem rX:HD.OneX PySem.Challenge.pw_rowasks_k85_standing_refused vq lo xt 20000:=λw=>by kernel_rfl
section
local macro_rules
 | `(tactic| o_head $H)=> `(tactic| (exact False.elim (by assumption); exact $H))
set_option maxRecDepth 100000 in
set_option maxHeartbeats 0 in
noncomputable def hk:Hook:=by
 refine (λ(_:False->PySem.Challenge.rw_rowasks_k85_standing_refused.Holds)=> ?H) ?pf
 rotate_left
 intro hp
 w_on; o_law; k_head
end
set_option maxRecDepth 100000 in
set_option maxHeartbeats 0 in
theorem rY:HD.OneY PySem.Challenge.pw_rowasks_k85_standing_refused vq lo xt hk 20000:=λw=>by kernel_rfl
end K85
end
section
namespace L2
open PySem PySem.Spec PyProof.Rows
abbrev Key:=Sum Int Str
def keyIs:Key->Value->Bool
 | .inl k,v=>Value.isInt k v
 | .inr x,v=>Value.isStrOf x v
def qsN (w:World):Key->Int
 | .inl k=>hashInt k
 | .inr x=>hashStr w x
theorem qaZ: ∀{k:Key} {v:Value},keyIs k v=true->(∃i t,k=Sum.inl i/\v=Value.int i t)\/(∃x t,k=Sum.inr x/\v=Value.str x t)
 | .inl i,v,h=>by
  obtain ⟨t,e⟩:=Value.isInt_shape (k:=i) (v:=v) h
  exact .inl ⟨i,t,rfl,e⟩
 | .inr x,v,h=>by
  obtain ⟨t,e⟩:=Value.isStrOf_shape (x:=x) (v:=v) h
  exact .inr ⟨x,t,rfl,e⟩
theorem qjK (i:Int) (t:Tok):keyIs (.inl i) (.int i t)=true:=by simp[keyIs,Value.isInt]
theorem qjJ (x:Str) (t:Tok):keyIs (.inr x) (.str x t)=true:=by simp[keyIs,Value.isStrOf]
theorem qo4 (a b:Int):decide ((Sum.inl a:Key)=Sum.inl b)=(a==b):=by
 by_cases e:a=b
 ·subst e; simp
 ·have h: ¬(Sum.inl a:Key)=Sum.inl b:=λq=>e (Sum.inl.inj q)
  rw[decide_eq_false h]
  exact (beq_eq_false_iff_ne.mpr e).symm
theorem qo1 (a b:Str):decide ((Sum.inr a:Key)=Sum.inr b)=decide (a=b):=by
 by_cases e:a=b
 ·subst e; simp
 ·have h: ¬(Sum.inr a:Key)=Sum.inr b:=λq=>e (Sum.inr.inj q)
  rw[decide_eq_false h,decide_eq_false e]
theorem qo3 (a:Int) (b:Str):decide ((Sum.inl a:Key)=Sum.inr b)=false:=decide_eq_false (λq=>nomatch q)
theorem qo2 (a:Str) (b:Int):decide ((Sum.inr a:Key)=Sum.inl b)=false:=decide_eq_false (λq=>nomatch q)
def qaI (prog:Program) (w:World):PySem.KeyKind prog w Key where
 is:=keyIs
 hash:=qsN w
 inj:=λv a b ha hb=>by
  rcases qaZ ha with ⟨i,t,rfl,rfl⟩ | ⟨x,t,rfl,rfl⟩
  ·rcases qaZ hb with ⟨j,u,rfl,e⟩ | ⟨y,u,rfl,e⟩
   ·injection e with e1 _; rw[e1]
   ·exact nomatch e
  ·rcases qaZ hb with ⟨j,u,rfl,e⟩ | ⟨y,u,rfl,e⟩
   ·exact nomatch e
   ·injection e with e1 _; rw[e1]
 byValue:=λk v h=>by
  rcases qaZ h with ⟨i,t,rfl,rfl⟩ | ⟨x,t,rfl,rfl⟩<;>rfl
 pyHash:=λhv h=>by
  rcases qaZ hv with ⟨i,t,rfl,rfl⟩ | ⟨x,t,rfl,rfl⟩
  ·exact wpAny_pyHash_int h
  ·exact wpAny_pyHash_str h
 eqBool:=λhu hv h=>by
  rcases qaZ hu with ⟨i,t,rfl,rfl⟩ | ⟨x,t,rfl,rfl⟩
  ·rcases qaZ hv with ⟨j,u,rfl,rfl⟩ | ⟨y,u,rfl,rfl⟩
   ·rw[qo4] at h; exact wpAny_eqBool_int h
   ·rw[qo3] at h; exact SeqAt.EqAt.int_str i t y u _ _ _ _ h
  ·rcases qaZ hv with ⟨j,u,rfl,rfl⟩ | ⟨y,u,rfl,rfl⟩
   ·rw[qo2] at h; exact SeqAt.EqAt.str_int x t j u _ _ _ _ h
   ·rw[qo1] at h; exact wpAny_eqBool_str h
 «strs» :=λk x t v h=>by
  rcases qaZ h with ⟨i,u,rfl,e⟩ | ⟨y,u,rfl,e⟩
  ·exact nomatch e
  ·injection e with e1 _
   subst e1
   cases v<;>rfl
theorem qgS (prog:Program) (w:World) (i:Int) (t:Tok):(qaI prog w).is (.inl i) (.int i t)=true:=qjK i t
theorem qgR (prog:Program) (w:World) (x:Str) (t:Tok):(qaI prog w).is (.inr x) (.str x t)=true:=qjJ x t
end L2
namespace L2
open PySem PySem.Spec PyProof.Rows
inductive V where
 | non | bl (b:Bool) | int (i:Int) | str (x:Str) | byt (b:Array UInt8) | flt (b:UInt64) | ref (a:Addr) | ty (n:String)
 deriving DecidableEq
def RelV:V->Value->Prop
 | .non,u=>u=Value.none
 | .bl b,u=>u=Value.bool b
 | .int i,u=> ∃t,u=Value.int i t
 | .str x,u=> ∃t,u=Value.str x t
 | .byt b,u=> ∃t,u=Value.bytes b t
 | .flt b,u=> ∃t,u=Value.float b t
 | .ref a,u=>u=Value.ref a
 | .ty n,u=>u=Value.type n
abbrev Vals:List V->List Value->Prop:=Paired RelV
theorem Vals.length {xs:List V} {us:List Value} (r:Vals xs us):xs.length=us.length:=Paired.length r
theorem Vals.get: ∀{xs:List V} {us:List Value} {i:Nat} {x:V},Vals xs us->xs[i]? =some x->∃u,us[i]? =some u/\RelV x u
 | _,_,_,_,.nil,e=>by simp at e
 | _,_,0,_,.cons r _,e=>by simp at e; subst e; exact ⟨_,rfl,r⟩
 | _,_,i+1,x,.cons _ t,e=>by
  obtain ⟨u,h1,h2⟩:=Vals.get (i:=i) (x:=x) t (by simpa using e)
  exact ⟨u,by simpa using h1,h2⟩
theorem Vals.set {x:V} {u:Value} (r:RelV x u): ∀{xs:List V} {us:List Value} (i:Nat),Vals xs us->Vals (xs.set i x) (us.set i u)
 | _,_,_,.nil=>.nil
 | _,_,0,.cons _ t=>.cons r t
 | _,_,i+1,.cons q t=>.cons q (Vals.set r i t)
theorem Vals.append: ∀{xs ys:List V} {us ws:List Value},Vals xs us->Vals ys ws->Vals (xs++ys) (us++ws)
 | _,_,_,_,.nil,s=>s
 | _,_,_,_,.cons r t,s=>.cons r (Vals.append t s)
theorem Vals.take: ∀{xs:List V} {us:List Value} (n:Nat),Vals xs us->Vals (xs.take n) (us.take n)
 | _,_,0,_=>.nil
 | _,_,_+1,.nil=>.nil
 | _,_,n+1,.cons r t=>.cons r (Vals.take n t)
theorem Vals.drop: ∀{xs:List V} {us:List Value} (n:Nat),Vals xs us->Vals (xs.drop n) (us.drop n)
 | _,_,0,r=>r
 | _,_,_+1,.nil=>.nil
 | _,_,n+1,.cons _ t=>Vals.drop n t
def qlN:Option V->Option Value->Prop
 | some v,some u=>RelV v u
 | none,none=>True
 | _,_=>False
def KV {κ:Type}:List (κ×V)->List (κ×Value)->Prop:=Paired λ(p:κ×V) (q:κ×Value)=>p.1=q.1/\RelV p.2 q.2
def kV:Key->V
 | .inl i=>.int i
 | .inr x=>.str x
inductive HO where
 | lst (xs:List V)
 | tup (xs:List V)
 | dK (kvs:List (Key×V)) | dT (kvs:List (List Key×V))
 | set (S:Int->Bool) (n:Nat)
 | ins (C dx:Addr) (fs:List (Str×V))
 | own (x:Addr)
 | xd (fs:List (Str×V))
 | met (f x:Addr)
 | rng (lo hi:Int)
 | frz (o:Obj) (u:HO)
 | tbl (ps:Array Value)
 | ext (φ:Heap->Prop)
abbrev Hp:=Addr->Option HO
def upd (H:Hp) (a:Addr) (o:HO):Hp:=λb=>if b=a then some o else H b
theorem qak {H:Hp} {a:Addr} {o:HO}:upd H a o a=some o:=by unfold upd; rw[if_pos rfl]
theorem qae {H:Hp} {a b:Addr} {o:HO} (h:b≠a):upd H a o b=H b:=by unfold upd; rw[if_neg h]
theorem qlg {H:Hp} {a b:Addr} {o u:HO} (h:H a=some o) (h':H b=some u) (d:o≠u):a≠b:=by
 intro e; subst e; rw[h] at h'; exact d (Option.some.inj h')
theorem qao {H:Hp} {a b:Addr} {o:HO} (h:H a=some o) (h':H b=none):a≠b:=by
 intro e; subst e; rw[h] at h'; cases h'
section
variable (P:Program) (w:World)
def qbu (H:Hp) (h:Heap) (a:Addr):HO->Prop
 | .lst xs=>xs.length<=sizeLine/\∃(its:List Value) (n:Nat),Vals xs its/\h.get? a=some { cls:=.type "list",data:=.seq its.toArray n }
 | .tup xs=>xs.length<=sizeLine/\∃its:List Value,Vals xs its/\IsTup h a its.toArray
 | .dK kvs=>kvs.length<=sizeLine/\(a==sysModules)=false/\∃vs,KV kvs vs/\h.DictOf (qaI P w) a vs
 | .dT kvs=>kvs.length<=sizeLine/\(a==sysModules)=false/\∃xs:List (List Key×Addr×Value),
   Paired (λ(p:List Key×V) (q:List Key×Addr×Value)=>p.1=q.1/\H q.2.1=some (.tup (p.1.map kV))/\RelV p.2 q.2.2) kvs xs/\
   ∃o es ep,h.get? a=some o/\o.ExactDict/\o.data= .dict es ep/\es.toList=xs.map (entryOfKey (tupleKind (qaI P w)))/\(xs.map (·.1)).Nodup
 | .set S n=>h.SetOf (intKind P w) a S n
 | .ins C dx fs=>H dx=some (.own a)/\fs.length<=1000/\dx≠a/\h.get? a=some (PySem.W.instObj C dx)/\
   ∃mA,h.Ns1 dx mA/\(∀f,qlN (fs.lookup f) (mA f))/\PySem.Within mA (fs.map (·.1))
 | .own _=> ∃o,h.get? a=some o
 | .xd fs=> ∃mA,h.Ns1 a mA/\∀f,qlN (fs.lookup f) (mA f)
 | .rng lo hi=> ∃t u v,h.get? a=some { cls:=.type "range",data:=.fields #[.int lo t,.int hi u,.int 1 v] }
 | .frz o u=>h.get? a=some o/\qbu H h a u
 | .tbl ps=>h.get? a=some { cls:=.none,data:=.fields ps }
 | .met f x=>h.get? a=some (PySem.W.methodObj (.ref f) (.ref x))
 | .ext φ=>φ h/\(∃o,h.get? a=some o)/\∀h1 h2:Heap,φ h1->(∀o,h1.get? a=some o->h2.get? a=some o)->φ h2
def HOk (H:Hp) (h:Heap):Prop:= ∀a o,H a=some o->qbu P w H h a o
end
section
variable {P:Program} {w:World} {H H':Hp} {h h':Heap} {a:Addr} {o:HO}
theorem qbu.lt (x:qbu P w H h a o):a<h.objs.size:=by
 cases o with
 | lst xs=>obtain ⟨_,_,_,_,e⟩:=x; exact Heap.lt_size e
 | tup xs=>obtain ⟨_,_,_,p⟩:=x; exact p.lt
 | dK kvs=>obtain ⟨_,_,_,_,o,_,_,e,_⟩:=x; exact Heap.lt_size e
 | dT kvs=>obtain ⟨_,_,_,_,o,_,_,e,_⟩:=x; exact Heap.lt_size e
 | set S n=>obtain ⟨o,_,_,_,e,_⟩:=x; exact Heap.lt_size e
 | ins C dx fs=>obtain ⟨_,_,_,e,_⟩:=x; exact Heap.lt_size e
 | own y=>obtain ⟨_,e⟩:=x; exact Heap.lt_size e
 | xd fs=>obtain ⟨_,⟨_,_,_,e,_⟩,_⟩:=x; exact Heap.lt_size e
 | rng lo hi=>obtain ⟨_,_,_,e⟩:=x; exact Heap.lt_size e
 | frz ob u=>obtain ⟨e,_⟩:=x; exact Heap.lt_size e
 | tbl ps=>exact Heap.lt_size (show h.get? a=some _ from x)
 | met f y=>exact Heap.lt_size (show h.get? a=some _ from x)
 | ext φ=>obtain ⟨_,⟨_,e⟩,_⟩:=x; exact Heap.lt_size e
theorem Paired.mapP {α β:Type} {F G:α->β->Prop}: ∀{l₁:List α} {l₂:List β},Paired F l₁ l₂->(∀a b,F a b->G a b)->Paired G l₁ l₂
 | _,_,.nil,_=>.nil
 | _,_,.cons r t,f=>.cons (f _ _ r) (Paired.mapP t f)
theorem qbu.stay (x:qbu P w H h a o) (k: ∀b u,(b=a\/H b=some (.own a))->h.get? b=some u->h'.get? b=some u)
  (ho: ∀b,H b=some (.own a)->H' b=some (.own a)) (ht: ∀b xs,H b=some (.tup xs)->H' b=some (.tup xs)):qbu P w H' h' a o:=by
 induction o with
 | lst xs=>obtain ⟨z,its,n,r,e⟩:=x; exact ⟨z,its,n,r,k _ _ (.inl rfl) e⟩
 | tup xs=>obtain ⟨z,its,r,ob,e,c⟩:=x; exact ⟨z,its,r,ob,k _ _ (.inl rfl) e,c⟩
 | dK kvs=>obtain ⟨z,y,vs,r,ob,es,ep,e,c⟩:=x; exact ⟨z,y,vs,r,ob,es,ep,k _ _ (.inl rfl) e,c⟩
 | dT kvs=>
  obtain ⟨z,y,xs,r,ob,es,ep,e,c⟩:=x
  exact ⟨z,y,xs,Paired.mapP r λp q z=>⟨z.1,ht _ _ z.2.1,z.2.2⟩,ob,es,ep,k _ _ (.inl rfl) e,c⟩
 | set S n=>obtain ⟨ob,es,ep,t,e,c⟩:=x; exact ⟨ob,es,ep,t,k _ _ (.inl rfl) e,c⟩
 | ins C dx fs=>
  obtain ⟨d,z,ne,e,mA,⟨od,es,ep,e2,c⟩,r⟩:=x
  exact ⟨ho _ d,z,ne,k _ _ (.inl rfl) e,mA,⟨od,es,ep,k _ _ (.inr d) e2,c⟩,r⟩
 | own y=>obtain ⟨ob,e⟩:=x; exact ⟨ob,k _ _ (.inl rfl) e⟩
 | xd fs=>obtain ⟨mA,⟨od,es,ep,e,c⟩,r⟩:=x; exact ⟨mA,⟨od,es,ep,k _ _ (.inl rfl) e,c⟩,r⟩
 | rng lo hi=>obtain ⟨t,u,v,e⟩:=x; exact ⟨t,u,v,k _ _ (.inl rfl) e⟩
 | frz ob u ih=>obtain ⟨e,q⟩:=x; exact ⟨k _ _ (.inl rfl) e,ih q⟩
 | tbl ps=>
  have e:h.get? a=some { cls:=.none,data:=.fields ps }:=x
  show h'.get? a=some { cls:=.none,data:=.fields ps }
  exact k a _ (.inl rfl) e
 | met f y=>
  have e:h.get? a=some (PySem.W.methodObj (.ref f) (.ref y)):=x
  show h'.get? a=some (PySem.W.methodObj (.ref f) (.ref y))
  exact k a _ (.inl rfl) e
 | ext φ=>obtain ⟨p,⟨o,e⟩,st⟩:=x; exact ⟨st _ _ p λo q=>k _ _ (.inl rfl) q,⟨o,k _ _ (.inl rfl) e⟩,st⟩
theorem HOk.lt (x:HOk P w H h) (e:H a=some o):a<h.objs.size:=(x a o e).lt
theorem HOk.fresh (x:HOk P w H h) (e:h.objs.size<=a):H a=none:=by
 cases q:H a with
 | none=>rfl
 | some u=>exact absurd (Nat.lt_of_lt_of_le (x.lt q) e) (Nat.lt_irrefl _)
theorem HOk.kept (x:HOk P w H h) (k: ∀b u,h.get? b=some u->h'.get? b=some u):HOk P w H h':=λa o e=>
 (x a o e).stay (λb u _ q=>k b u q) (λ_ q=>q) λ_ _ q=>q
theorem HOk.laid (x:HOk P w H h) (k: ∀b u,h.get? b=some u->h'.get? b=some u) (hp:h.objs.size<=a) (new:qbu P w (upd H a o) h' a o):HOk P w (upd H a o) h':=λb u e=>by
 have hn:=x.fresh hp
 by_cases hb:b=a
 ·subst hb; rw[qak] at e; cases e; exact new
 ·rw[qae hb] at e
  exact (x b u e).stay (λc v _ q=>k c v q) (λc q=>by rw[qae (qao q hn)]; exact q) λc xs q=>by rw[qae (qao q hn)]; exact q
end
def Rd (H:Hp) (a:Addr) (u:HO):Prop:=H a=some u\/∃o,H a=some (.frz o u)
theorem Rd.ok {P:Program} {w:World} {H:Hp} {h:Heap} {a:Addr} {u:HO} (r:Rd H a u) (x:HOk P w H h):qbu P w H h a u:=by
 rcases r with r | ⟨o,r⟩
 ·exact x a u r
 ·obtain ⟨_,q⟩:=x a _ r
  exact q
def Mut:Option HO->Prop
 | some (.lst _)=>True
 | some (.dK _)=>True
 | some (.dT _)=>True
 | some (.set _ _)=>True
 | some (.ins _ _ _)=>True
 | some (.ext _)=>True
 | _=>False
section
variable {P:Program} {w:World} {H:Hp} {h h':Heap} {x e:Addr} {o':HO}
theorem HOk.write (ok:HOk P w H h) (mu:Mut (H x)) (he:e=x\/H e=some (.own x)) (k: ∀b u,b≠e->h.get? b=some u->h'.get? b=some u) (heo: ∃u,h'.get? e=some u)
  (new:qbu P w (upd H x o') h' x o'):HOk P w (upd H x o') h':=λb u q=>by
 have nown: ∀c y,H c=some (.own y)->c≠x:=λc y r z=>by subst z; rw[r] at mu; exact mu
 have ntup: ∀c xs,H c=some (.tup xs)->c≠x:=λc xs r z=>by subst z; rw[r] at mu; exact mu
 by_cases hb:b=x
 ·subst hb; rw[qak] at q; cases q; exact new
 ·rw[qae hb] at q
  by_cases hbe:b=e
  ·have q':H b=some (.own x):=by
    rcases he with z | z
    ·exact absurd (hbe.trans z) hb
    ·rw[hbe]; exact z
   rw[q] at q'; cases q'
   obtain ⟨v,hv⟩:=heo
   exact ⟨v,by rw[hbe]; exact hv⟩
  ·refine (ok b u q).stay (λc v hc r=>k c v ?_ r) (λc r=>by rw[qae (nown c b r)]; exact r) λc xs r=>by rw[qae (ntup c xs r)]; exact r
   rcases hc with rfl | hc
   ·exact hbe
   ·rintro rfl
    rcases he with z | z
    ·exact nown c b hc z
    ·rw[hc] at z; cases z; exact hb rfl
end
structure Un (fs ex:List Addr) (H H':Hp) (h h':Heap):Prop where
 keep: ∀b o,h.get? b=some o->H b=none->b∉fs->b∉ex->h'.get? b=some o
 slot: ∀b o,h.get? b=some o->H b=none->b∈fs->b∉ex->∃sl,h'.get? b=some { o with slots:=sl }
 free: ∀b o,h.get? b=some o->H b=none->b∉ex->H' b=none
 there: ∀b o,h.get? b=some o->b∉ex->∃o',h'.get? b=some o'
 tups: ∀b xs,H b=some (.tup xs)->H' b=some (.tup xs)
 frzs: ∀b o u,H b=some (.frz o u)->H' b=some (.frz o u)
 tbls: ∀b ps,H b=some (.tbl ps)->∃more,H' b=some (.tbl (ps++more))
section
variable {fs fs' ex ex':List Addr} {H H1 H2:Hp} {h h1 h2 h':Heap} {a x e:Addr} {o:HO}
theorem Un.any (u:Un fs ex H H1 h h1) {b:Addr} {ob:Obj} (q:h.get? b=some ob) (n:H b=none) (hx:b∉ex): ∃sl,h1.get? b=some { ob with slots:=sl }:=by
 by_cases hb:b∈fs
 ·exact u.slot b ob q n hb hx
 ·exact ⟨ob.slots,u.keep b ob q n hb hx⟩
theorem Un.kept (k: ∀b u,h.get? b=some u->h'.get? b=some u):Un fs ex H H h h':=
 ⟨λb ob q _ _ _=>k b ob q,λb ob q _ _ _=>⟨ob.slots,k b ob q⟩,λ_ _ _ n _=>n,λb ob q _=>⟨ob,k b ob q⟩,λ_ _ q=>q,λ_ _ _ q=>q,λ_ ps q=>⟨#[],by rw[q]; simp⟩⟩
theorem Un.refl:Un fs ex H H h h:=Un.kept λ_ _ q=>q
theorem Un.laid (k: ∀b u,h.get? b=some u->h'.get? b=some u) (hp:h.objs.size<=a) (hn:H a=none):Un fs ex H (upd H a o) h h' where
 keep:=λb u q _ _ _=>k b u q
 slot:=λb u q _ _ _=>⟨u.slots,k b u q⟩
 free:=λb u q n _=>by rw[qae (Nat.ne_of_lt (Nat.lt_of_lt_of_le (Heap.lt_size q) hp))]; exact n
 there:=λb u q _=>⟨u,k b u q⟩
 tups:=λb xs q=>by rw[qae (qao q hn)]; exact q
 frzs:=λb u xs q=>by rw[qae (qao q hn)]; exact q
 tbls:=λb ps q=>⟨#[],by rw[qae (qao q hn),q]; simp⟩
theorem Un.write (mu:Mut (H x)) (he:e=x\/H e=some (.own x)) (k: ∀b u,b≠e->h.get? b=some u->h'.get? b=some u) (heo: ∃u,h'.get? e=some u):Un fs ex H (upd H x o) h h':=by
 have hx: ∀b,H b=none->b≠x:=λb n z=>by subst z; rw[n] at mu; exact mu
 have hb: ∀b,H b=none->b≠e:=λb n z=>by
  subst z
  rcases he with r | r
  ·exact hx b n r
  ·rw[n] at r; cases r
 have hm: ∀b u,H b=some u->¬Mut (some u)->b≠x:=λb u q nm z=>by subst z; rw[q] at mu; exact nm mu
 refine ⟨λb u q n _ _=>k b u (hb b n) q,λb u q n _ _=>⟨u.slots,k b u (hb b n) q⟩,λb u q n _=>by rw[qae (hx b n)]; exact n,λb u q _=> ?_,
  λb xs q=>by rw[qae (hm b _ q λz=>z)]; exact q,λb u xs q=>by rw[qae (hm b _ q λz=>z)]; exact q,λb ps q=>⟨#[],by rw[qae (hm b _ q λz=>z),q]; simp⟩⟩
 by_cases hbe:b=e
 ·subst hbe; exact heo
 ·exact ⟨u,k b u hbe q⟩
end
def trk (h:Heap) (H:Hp):List Addr:=(List.range h.objs.size).filter λa=>(H a).isSome
def qjT (h:Heap) (H:Hp):Heap:=PySem.W.hideAll h (trk h H)
theorem qjS (h:Heap) (H:Hp):(qjT h H).objs.size=h.objs.size:=PySem.W.hideAll_size _ _
theorem qlo {h:Heap} {H:Hp} {b:Addr} {o:Obj} (e:h.get? b=some o) (n:H b=none):(qjT h H).get? b=some o:=
 PySem.W.hideAll_get _ e λhm=>by
  have q:(H b).isSome=true:=(List.mem_filter.mp hm).2
  rw[n] at q; simp at q
theorem qm6 {h:Heap} {H:Hp} {b:Addr} {o:Obj} (e:(qjT h H).get? b=some o):h.get? b=some o/\H b=none:=by
 have e':h.get? b=some o:=PySem.W.of_hideAll (trk h H) e
 refine ⟨e',?_⟩
 cases q:H b with
 | none=>rfl
 | some x=>
  have hm:b∈trk h H:=List.mem_filter.mpr ⟨List.mem_range.mpr (Heap.lt_size e'),by simp[q]⟩
  have z:(qjT h H).get? b=none:=PySem.W.hideAll_none (trk h H) hm
  rw[z] at e; cases e
def qnI (g h:Heap) (L:Addr):List (Addr×Obj):=(List.range h.objs.size).filterMap λa=>if a=L\/(g.get? a).isSome=true then none else (h.get? a).map λo=>(a,o)
def qcT (g h:Heap) (L d:Addr):List (Addr×Obj):=(qnI g h L).filter λp=>decide (p.1≠d)
end L2
namespace L2
open PySem PySem.Spec PyProof.Rows
structure Mod (K:PySem.W.Frag) (mg:Str->Option Value) (base:Heap):Prop where
 kin:K.In base
 glob:base.Ns mainGlobals mg
 blt: ∃mb,base.Ns builtinsNs mb/\∀x:Str,x≠ "__name__" ->mb x=bootBuiltins x
 nolimit:base.NoLimit
structure Cx where
 prog:Program
 w:World
 K:PySem.W.Frag
 mg:Str->Option Value
 base:Heap
 A:Around
 N:List Str
 s₀:Shared
 H₀:Hp
 env:Env
 outer:List Env
 stack:List Env
 ex:List Addr
 fn:Str->Bool
 calm:Bool
 pn:List (Addr×Obj)
 xe:Value->Shared->Prop
def frs (l:List Env):List Addr:=l.filterMap (·.frame)
abbrev Cx.fs (X:Cx):List Addr:=frs X.outer
def Vis (sc:Scope) (x:Str):Prop:=sc.names.lookup x=some .local\/sc.names.lookup x=some .cell\/sc.names.lookup x=some .free
def Loc (sc:Scope) (x:Str):Prop:=sc.names.lookup x=some .local\/sc.names.lookup x=some .cell
def qtc (env:Env) (h:Heap) (m:Str->Option Value) (x:Str) (u:Value):Prop:=
 (env.kindOf x=some .local/\m x=some u)\/((env.kindOf x=some .cell\/env.kindOf x=some .free)/\∃c,env.cells.lookup x=some c/\h.IsCell c (some u))
structure Cx.Ok (X:Cx):Prop where
 mod:Mod X.K X.mg X.base
 kind:X.env.scope.kind= .function
 glob:X.env.globals=mainGlobals
 blt:X.env.builtins=builtinsNs
 above:X.s₀.heap.objs.size<=X.env.locals
 inj: ∀x y c,X.env.cells.lookup x=some c->X.env.cells.lookup y=some c->x=y
 has: ∀x,(X.env.kindOf x=some .cell\/X.env.kindOf x=some .free)->∃c,X.env.cells.lookup x=some c
 cab: ∀x c,X.fn x=true->X.env.cells.lookup x=some c->X.s₀.heap.objs.size<=c
 hd:X.calm=true->X.A.handled=none
 frames:X.A.frames=some X.stack
 stk:X.stack=X.outer\/(X.stack=X.env::X.outer/\X.env.frame=some X.env.locals)
 exf: ∀b∈X.ex,b≠X.env.locals/\∀x c,X.env.cells.lookup x=some c->c≠b
 bs: ∀b o,X.base.get? b=some o->X.s₀.heap.get? b=some o/\X.H₀ b=none
 bsz:X.base.objs.size<=X.s₀.heap.objs.size
 noex: ∀b o,X.base.get? b=some o->b∉X.ex
 exfs: ∀b∈X.ex,b∉X.fs
 funs:X.s₀.heap.FunFrames X.base X.outer
 frf: ∀b∈X.fs,X.H₀ b=none
structure Inv (X:Cx) (pins:List (Addr×Obj)) (σ:List (Option V)) (H:Hp) (s:Shared):Prop where
 ok:X.Ok
 os:s.os=X.s₀.os
 bare:AllBare s.gens
 base:Un X.fs X.ex X.H₀ H X.s₀.heap s.heap
 loc: ∃m,s.heap.Ns X.env.locals m/\∀(i:Nat) (x:Str) (v:V),X.N[i]? =some x->σ[i]? =some (some v)->Vis X.env.scope x->∃u,RelV v u/\qtc X.env s.heap m x u
 cell: ∀x c,X.env.cells.lookup x=some c->∃v,s.heap.IsCell c v
 free:H X.env.locals=none
 freeC: ∀x c,X.env.cells.lookup x=some c->H c=none
 pin: ∀p∈X.pn++pins,s.heap.get? p.1=some p.2/\H p.1=none/\p.1≠X.env.locals/\p.1∉X.fs/\∀v,p.2.data≠.cell v
 hok:HOk X.prog X.w H s.heap
 len:σ.length=X.N.length
section
variable {X:Cx} {pins:List (Addr×Obj)} {σ:List (Option V)} {H H':Hp} {s:Shared} {h':Heap}
theorem Cx.Ok.nofr (ok:X.Ok) {b:Addr} {o:Obj} (e:X.base.get? b=some o):b∉X.fs:=λhb=>by
 have:=(ok.funs.mem hb).1
 rw[e] at this; cases this
theorem Inv.bs (I:Inv X pins σ H s): ∀b o,X.base.get? b=some o->s.heap.get? b=some o/\H b=none:=λb o e=>
 ⟨I.base.keep b o (I.ok.bs b o e).1 (I.ok.bs b o e).2 (I.ok.nofr e) (I.ok.noex b o e),I.base.free b o (I.ok.bs b o e).1 (I.ok.bs b o e).2 (I.ok.noex b o e)⟩
theorem Inv.bk (I:Inv X pins σ H s): ∀b o,X.base.get? b=some o->s.heap.get? b=some o:=λb o e=>(I.bs b o e).1
theorem Inv.mod (I:Inv X pins σ H s):Mod X.K X.mg X.base:=I.ok.mod
theorem Inv.kIn (I:Inv X pins σ H s):X.K.In s.heap:=I.ok.mod.kin.keeps I.bk
theorem Inv.nolimit (I:Inv X pins σ H s):s.heap.NoLimit:=I.ok.mod.nolimit.keeps I.bk
theorem Inv.lt (I:Inv X pins σ H s):X.env.locals<s.heap.objs.size:=let ⟨_,hn,_⟩:=I.loc; hn.lt
theorem Inv.sz (I:Inv X pins σ H s):X.s₀.heap.objs.size<=s.heap.objs.size:=Nat.le_trans I.ok.above (Nat.le_of_lt I.lt)
theorem Inv.nofs (I:Inv X pins σ H s) {a:Addr} (h:s.heap.objs.size<=a):a∉X.fs:=λhb=>by
 obtain ⟨_,o,ho,_⟩:=I.ok.funs.mem hb
 exact absurd (Nat.lt_of_lt_of_le (Heap.lt_size ho) (Nat.le_trans I.sz h)) (Nat.lt_irrefl _)
theorem Inv.cne (I:Inv X pins σ H s): ∀x c,X.env.cells.lookup x=some c->c≠X.env.locals:=λx c e z=>by
 obtain ⟨v,o,ho,hd⟩:=I.cell x c e
 obtain ⟨m,⟨o',es,ep,ho',hd',_⟩,_⟩:=I.loc
 rw[z,ho'] at ho; cases ho; rw[hd'] at hd; cases hd
theorem Inv.funs (I:Inv X pins σ H s):s.heap.FunFrames X.base X.outer:=by
 have all: ∀(l:List Env),(∀b∈frs l,b∈X.fs)->X.s₀.heap.FunFrames X.base l->s.heap.FunFrames X.base l:=by
  intro l
  induction l with
  | nil=>intro _ _; trivial
  | cons env r ih=>
   intro hs hl
   obtain ⟨hk,⟨L,o,hf,hn,ho,hd⟩,hr⟩:=hl
   have hL:L∈X.fs:=hs L (by unfold frs; rw[List.filterMap_cons,hf]; exact List.mem_cons_self)
   obtain ⟨sl,e⟩:=I.base.slot L o ho (I.ok.frf L hL) hL λz=>I.ok.exfs L z hL
   exact ⟨hk,⟨L,_,hf,hn,e,hd⟩,ih (λb hb=>hs b (by unfold frs; rw[List.filterMap_cons,hf]; exact List.mem_cons_of_mem _ hb)) hr⟩
 exact all X.outer (λ_ hb=>hb) I.ok.funs
theorem Inv.stack (I:Inv X pins σ H s):s.heap.FunFrames X.base X.stack:=by
 rcases I.ok.stk with e | ⟨e,hf⟩
 ·rw[e]; exact I.funs
 ·rw[e]
  obtain ⟨m,hn,_⟩:=I.loc
  refine .cons (by rw[I.ok.kind]; decide) hf hn ?_ I.funs
  exact Heap.get?_none_of_le (Nat.le_trans I.ok.bsz I.ok.above)
theorem Inv.stkSub (I:Inv X pins σ H s): ∀b∈frs X.stack,b∈X.env.locals::X.fs:=λb hb=>by
 rcases I.ok.stk with e | ⟨e,hf⟩
 ·rw[e] at hb; exact List.mem_cons_of_mem _ hb
 ·rw[e] at hb
  unfold frs at hb
  rw[List.filterMap_cons,hf] at hb
  exact hb
theorem Inv.stkFree (I:Inv X pins σ H s): ∀b∈frs X.stack,H b=none:=λb hb=>by
 rcases List.mem_cons.mp (I.stkSub b hb) with e | hb
 ·rw[e]; exact I.free
 ·obtain ⟨_,o,ho,_⟩:=I.ok.funs.mem hb
  exact I.base.free b o ho (I.ok.frf b hb) λz=>I.ok.exfs b z hb
theorem Inv.step {g':Array GenState} {t':Nat} {d':Drawn} {ch:List Addr} (I:Inv X pins σ H s)
  (hch: ∀b∈ch,(b∈X.ex\/X.s₀.heap.objs.size<=b)/\b≠X.env.locals/\(∀x c,X.env.cells.lookup x=some c->c≠b)/\∀p∈X.pn++pins,p.1≠b)
  (keep: ∀b o,b≠X.env.locals->b∉X.fs->b∉ch->s.heap.get? b=some o->H b=none->h'.get? b=some o)
  (slot: ∀b o,b≠X.env.locals->b∈X.fs->b∉ch->s.heap.get? b=some o->H b=none->∃sl,h'.get? b=some { o with slots:=sl }) (free: ∀b o,b∉ch->s.heap.get? b=some o->H b=none->H' b=none)
  (there: ∀b o,b∉ch->s.heap.get? b=some o->∃o',h'.get? b=some o')
  (tups: ∀b xs,H b=some (.tup xs)->H' b=some (.tup xs)) (frzs: ∀b o u,H b=some (.frz o u)->H' b=some (.frz o u)) (tbls: ∀b ps,H b=some (.tbl ps)->∃more,H' b=some (.tbl (ps++more)))
  (ns: ∀m,s.heap.Ns X.env.locals m->h'.Ns X.env.locals m) (hok:HOk X.prog X.w H' h') (hg:AllBare g'):
  Inv X pins σ H' { s with heap:=h',gens:=g',drawn:=d',toks:=t' }:=by
 have neL: ∀b o,X.s₀.heap.get? b=some o->b≠X.env.locals:=λb o e=>Nat.ne_of_lt (Nat.lt_of_lt_of_le (Heap.lt_size e) I.ok.above)
 have neC: ∀b o,X.s₀.heap.get? b=some o->b∉X.ex->b∉ch:=λb o e hx hb=>by
  rcases (hch b hb).1 with z | z
  ·exact hx z
  ·exact absurd (Nat.lt_of_lt_of_le (Heap.lt_size e) z) (Nat.lt_irrefl _)
 have cellK: ∀x c,X.env.cells.lookup x=some c->∀v,s.heap.IsCell c v->h'.IsCell c v:=λx c e v ⟨o,ho,hd⟩=>by
  have nch:c∉ch:=λz=>(hch c z).2.2.1 x c e rfl
  by_cases hc:c∈X.fs
  ·obtain ⟨sl,q⟩:=slot c o (I.cne x c e) hc nch ho (I.freeC x c e)
   exact ⟨_,q,hd⟩
  ·exact ⟨o,keep c o (I.cne x c e) hc nch ho (I.freeC x c e),hd⟩
 refine ⟨I.ok,I.os,hg,⟨λb o e n hb hx=> ?_,λb o e n hb hx=> ?_,λb o e n hx=> ?_,λb o e hx=> ?_,λb xs e=>tups b xs (I.base.tups b xs e),λb o xs e=>frzs b o xs (I.base.frzs b o xs e),λb ps e=> ?_⟩,?_,λx c e=> ?_,?_,λx c e=> ?_,λp hp=> ?_,hok,I.len⟩
 ·exact keep b o (neL b o e) hb (neC b o e hx) (I.base.keep b o e n hb hx) (I.base.free b o e n hx)
 ·obtain ⟨sl,e1⟩:=I.base.slot b o e n hb hx
  obtain ⟨sl',e2⟩:=slot b _ (neL b o e) hb (neC b o e hx) e1 (I.base.free b o e n hx)
  exact ⟨sl',e2⟩
 ·obtain ⟨o',e1⟩:=I.base.there b o e hx
  exact free b o' (neC b o e hx) e1 (I.base.free b o e n hx)
 ·obtain ⟨o',e1⟩:=I.base.there b o e hx
  exact there b o' (neC b o e hx) e1
 ·obtain ⟨m1,e1⟩:=I.base.tbls b ps e
  obtain ⟨m2,e2⟩:=tbls b _ e1
  exact ⟨m1++m2,by rw[e2,Array.append_assoc]⟩
 ·obtain ⟨m,hn,hl⟩:=I.loc
  refine ⟨m,ns m hn,λi x v e1 e2 e3=> ?_⟩
  obtain ⟨u,r,l⟩:=hl i x v e1 e2 e3
  refine ⟨u,r,?_⟩
  rcases l with l | ⟨k,c,e,z⟩
  ·exact .inl l
  ·exact .inr ⟨k,c,e,cellK x c e _ z⟩
 ·obtain ⟨v,z⟩:=I.cell x c e
  exact ⟨v,cellK x c e v z⟩
 ·obtain ⟨m,⟨o,_,_,ho,_⟩,_⟩:=I.loc
  exact free _ o (λz=>(hch _ z).2.1 rfl) ho I.free
 ·obtain ⟨v,o,ho,hd⟩:=I.cell x c e
  exact free c o (λz=>(hch c z).2.2.1 x c e rfl) ho (I.freeC x c e)
 ·obtain ⟨e,n,ne,nf,d⟩:=I.pin p hp
  have nch:p.1∉ch:=λz=>(hch p.1 z).2.2.2 p hp rfl
  exact ⟨keep p.1 p.2 ne nf nch e n,free p.1 p.2 nch e n,ne,nf,d⟩
theorem Inv.un {t':Nat} (I:Inv X pins σ H s) (u:Un X.fs [] H H' s.heap h') (hok:HOk X.prog X.w H' h'):Inv X pins σ H' { s with heap:=h',toks:=t' }:=by
 obtain ⟨m,⟨o,es,ep,ho,r⟩,_⟩:=id I.loc
 obtain ⟨sl,hL⟩:=u.any ho I.free (by simp)
 exact I.step (g':=s.gens) (d':=s.drawn) (ch:=[]) (λ_ z=>nomatch z) (λb o _ hb _ e n=>u.keep b o e n hb (by simp)) (λb o _ hb _ e n=>u.slot b o e n hb (by simp)) (λb o _ e n=>u.free b o e n (by simp)) (λb o _ e=>u.there b o e (by simp)) u.tups u.frzs u.tbls (λm' hm=>by
  obtain ⟨o',es',ep',ho',r'⟩:=hm
  rw[ho] at ho'; cases ho'
  exact ⟨_,es',ep',hL,r'⟩) hok I.bare
theorem Inv.call {g':Array GenState} {t':Nat} {d':Drawn} {ch:List Addr} (I:Inv X pins σ H s) (u:Un (frs X.stack) ch H H' s.heap h') (hok:HOk X.prog X.w H' h') (hg:AllBare g')
  (hch: ∀b∈ch,(b∈X.ex\/X.s₀.heap.objs.size<=b)/\b≠X.env.locals/\(∀x c,X.env.cells.lookup x=some c->c≠b)/\∀p∈X.pn++pins,p.1≠b):
  Inv X pins σ H' { s with heap:=h',gens:=g',drawn:=d',toks:=t' }:=by
 obtain ⟨m,⟨o,es,ep,ho,r⟩,_⟩:=id I.loc
 obtain ⟨sl,hL⟩:=u.any ho I.free λz=>(hch _ z).2.1 rfl
 exact I.step (ch:=ch) hch (λb o hL hb hc e n=>u.keep b o e n (λz=>(List.mem_cons.mp (I.stkSub b z)).elim hL hb) hc) (λb o _ _ hc e n=>u.any e n hc) (λb o hc e n=>u.free b o e n hc) (λb o hc e=>u.there b o e hc) u.tups u.frzs u.tbls (λm' hm=>by
  obtain ⟨o',es',ep',ho',r'⟩:=hm
  rw[ho] at ho'; cases ho'
  exact ⟨_,es',ep',hL,r'⟩) hok hg
theorem Inv.turned {t':Nat} {it:Addr} (I:Inv X pins σ H s) (k: ∀b o,b≠it->s.heap.get? b=some o->h'.get? b=some o) (hn:H it=none) (hL:it≠X.env.locals)
  (h1:it∈X.ex\/X.s₀.heap.objs.size<=it) (h2: ∀x c,X.env.cells.lookup x=some c->c≠it) (h3: ∀p∈X.pn++pins,p.1≠it):Inv X pins σ H { s with heap:=h',toks:=t' }:=by
 have nit: ∀b u,H b=some u->b≠it:=λb u e z=>by rw[z,hn] at e; cases e
 refine I.step (g':=s.gens) (d':=s.drawn) (ch:=[it]) (λb hb=> ?_) (λb o _ _ hc e _=>k b o (λz=>hc (by simp[z])) e) (λb o _ _ hc e _=>⟨o.slots,k b o (λz=>hc (by simp[z])) e⟩) (λ_ _ _ _ n=>n)
  (λb o hc e=>⟨o,k b o (λz=>hc (by simp[z])) e⟩) (λ_ _ e=>e) (λ_ _ _ e=>e) (λb ps e=>⟨#[],by rw[e]; simp⟩) (λm hm=> ?_) (λb u e=> ?_) I.bare
 ·have e:b=it:=by simpa using hb
  subst e
  exact ⟨h1,hL,h2,h3⟩
 ·obtain ⟨o,es,ep,ho,r⟩:=hm
  exact ⟨o,es,ep,k _ o (Ne.symm hL) ho,r⟩
 ·refine (I.hok b u e).stay (λc v hc q=>k c v ?_ q) (λ_ q=>q) λ_ _ q=>q
  rcases hc with z | z
  ·rw[z]; exact nit b u e
  ·exact nit c _ z
theorem Inv.tok (I:Inv X pins σ H s) (t:Nat):Inv X pins σ H { s with toks:=t }:=I.un (h':=s.heap) (t':=t) Un.refl I.hok
theorem Inv.kept {t':Nat} (I:Inv X pins σ H s) (k: ∀b u,s.heap.get? b=some u->h'.get? b=some u):Inv X pins σ H { s with heap:=h',toks:=t' }:=I.un (Un.kept k) (I.hok.kept k)
theorem Inv.laid {a:Addr} {o:HO} {t':Nat} (I:Inv X pins σ H s) (k: ∀b u,s.heap.get? b=some u->h'.get? b=some u) (hp:s.heap.objs.size<=a) (new:qbu X.prog X.w (upd H a o) h' a o):
  Inv X pins σ (upd H a o) { s with heap:=h',toks:=t' }:=I.un (Un.laid k hp (I.hok.fresh hp)) (I.hok.laid k hp new)
theorem Inv.write {x e:Addr} {o:HO} {t':Nat} (I:Inv X pins σ H s) (mu:Mut (H x)) (he:e=x\/H e=some (.own x)) (k: ∀b u,b≠e->s.heap.get? b=some u->h'.get? b=some u) (heo: ∃u,h'.get? e=some u)
  (new:qbu X.prog X.w (upd H x o) h' x o):Inv X pins σ (upd H x o) { s with heap:=h',toks:=t' }:=I.un (Un.write mu he k heo) (I.hok.write mu he k heo new)
theorem Inv.pins_of {pins':List (Addr×Obj)} (I:Inv X pins σ H s) (h: ∀p∈pins',s.heap.get? p.1=some p.2/\H p.1=none/\p.1≠X.env.locals/\p.1∉X.fs/\∀v,p.2.data≠.cell v):Inv X pins' σ H s:=
 ⟨I.ok,I.os,I.bare,I.base,I.loc,I.cell,I.free,I.freeC,λp hp=>(List.mem_append.mp hp).elim (λz=>I.pin p (List.mem_append_left _ z)) (h p),I.hok,I.len⟩
theorem qfp {N:List Str} (hN:N.Nodup) {i j:Nat} {x:Str} (a:N[i]? =some x) (b:N[j]? =some x):i=j:=by
 obtain ⟨h1,e1⟩:=List.getElem?_eq_some_iff.mp a
 obtain ⟨h2,e2⟩:=List.getElem?_eq_some_iff.mp b
 exact (List.getElem_inj hN).mp (e1.trans e2.symm)
theorem qfS {M:Model} {A:Around} {E:Value->Shared->Prop} {i:Nat} {x:Str} {v:V} {u:Value} {Q:Unit->Shared->Prop} (I:Inv X pins σ H s) (hN:X.N.Nodup) (hi:X.N[i]? =some x) (hx:Loc X.env.scope x) (r:RelV v u)
  (h: ∀s',Inv X pins (σ.set i (some v)) H s'->(∃a,Heap.SameBut a s.heap s'.heap/\(a=X.env.locals\/X.env.cells.lookup x=some a))->Q () s') (hf:X.fn x=true\/X.env.scope.names.lookup x=some .local:=by first | exact .inl rfl | exact .inr rfl | assumption):wpAny M A (storeName X.env x u) Q E s:=by
 obtain ⟨m,hn,hl⟩:=id I.loc
 have hcls:(X.env.scope.kind== .class||(X.env.scope.kind== .module&&X.env.locals != X.env.globals))=false:=by rw[I.ok.kind]; rfl
 have hiσ:i<σ.length:=by rw[I.len]; exact (List.getElem?_eq_some_iff.mp hi).1
 have cne:=I.cne
 have tracked: ∀{a:Addr} {h':Heap},(∃o,s.heap.get? a=some o/\H a=none)->Heap.SameBut a s.heap h'->HOk X.prog X.w H h':=λ{a h'} ha hs b ob e=>by
  obtain ⟨_,_,hfree⟩:=ha
  refine (I.hok b ob e).stay (λc w' hc q=>(hs.2 c ?_).trans q) (λ_ q=>q) λ_ _ q=>q
  rintro rfl
  rcases hc with rfl | hc
  ·rw[hfree] at e; cases e
  ·rw[hfree] at hc; cases hc
 rcases hx with hk | hk
 ·refine wpAny_storeName_local hk hn (λh' hn' hs=> ?_) hcls
  obtain ⟨oL,_,_,hoL,_⟩:=id hn
  refine h _ ⟨I.ok,I.os,I.bare,⟨λb o e n hb hx=> ?_,λb o e n hb hx=> ?_,I.base.free,λb o e hx=> ?_,I.base.tups,I.base.frzs,I.base.tbls⟩,⟨_,hn',λj y v' e1 e2 e3=> ?_⟩,λy c e=> ?_,I.free,I.freeC,λp hp=> ?_,tracked ⟨oL,hoL,I.free⟩ hs,by simpa using I.len⟩ ⟨_,hs,.inl rfl⟩
  ·exact (hs.2 b (Nat.ne_of_lt (Nat.lt_of_lt_of_le (Heap.lt_size e) I.ok.above))).trans (I.base.keep b o e n hb hx)
  ·obtain ⟨sl,e1⟩:=I.base.slot b o e n hb hx
   exact ⟨sl,(hs.2 b (Nat.ne_of_lt (Nat.lt_of_lt_of_le (Heap.lt_size e) I.ok.above))).trans e1⟩
  ·obtain ⟨o',e1⟩:=I.base.there b o e hx
   exact ⟨o',(hs.2 b (Nat.ne_of_lt (Nat.lt_of_lt_of_le (Heap.lt_size e) I.ok.above))).trans e1⟩
  ·by_cases hj:j=i
   ·subst hj
    rw[hi] at e1; cases e1
    rw[List.getElem?_set_self hiσ] at e2
    cases e2
    exact ⟨u,r,.inl ⟨hk,by simp⟩⟩
   ·rw[List.getElem?_set_ne (Ne.symm hj)] at e2
    obtain ⟨u',r',q⟩:=hl j y v' e1 e2 e3
    refine ⟨u',r',?_⟩
    rcases q with ⟨k,e⟩ | ⟨k,c,e,z⟩
    ·refine .inl ⟨k,?_⟩
     have:y≠x:=λe=>hj (qfp hN e1 (e▸hi))
     simp[this,e]
    ·exact .inr ⟨k,c,e,z.sameBut hs (cne y c e)⟩
  ·obtain ⟨w',z⟩:=I.cell y c e
   exact ⟨w',z.sameBut hs (cne y c e)⟩
  ·obtain ⟨e,n,ne,nf,d⟩:=I.pin p hp
   exact ⟨(hs.2 p.1 ne).trans e,n,ne,nf,d⟩
 ·have hfn:X.fn x=true:=by
   rcases hf with z | z
   ·exact z
   ·rw[z] at hk; cases hk
  obtain ⟨c,hc⟩:=I.ok.has x (.inl hk)
  obtain ⟨w',z⟩:=I.cell x c hc
  refine wpAny_storeName_cell I.ok.kind hk hc z (λh' hc' hs=> ?_)
  obtain ⟨oc,hoc,hocd⟩:=id z
  refine h { s with heap:=h' } ⟨I.ok,I.os,I.bare,⟨λb o e n hb hx=> ?_,λb o e n hb hx=> ?_,I.base.free,λb o e hx=> ?_,I.base.tups,I.base.frzs,I.base.tbls⟩,⟨m,hn.sameBut hs (Ne.symm (cne x c hc)),λj y v' e1 e2 e3=> ?_⟩,λy c' e=> ?_,I.free,I.freeC,λp hp=> ?_,tracked ⟨oc,hoc,I.freeC x c hc⟩ hs,by simpa using I.len⟩ ⟨c,hs,.inr hc⟩
  ·exact (hs.2 b (Nat.ne_of_lt (Nat.lt_of_lt_of_le (Heap.lt_size e) (I.ok.cab x c hfn hc)))).trans (I.base.keep b o e n hb hx)
  ·obtain ⟨sl,e1⟩:=I.base.slot b o e n hb hx
   exact ⟨sl,(hs.2 b (Nat.ne_of_lt (Nat.lt_of_lt_of_le (Heap.lt_size e) (I.ok.cab x c hfn hc)))).trans e1⟩
  ·obtain ⟨o',e1⟩:=I.base.there b o e hx
   exact ⟨o',(hs.2 b (Nat.ne_of_lt (Nat.lt_of_lt_of_le (Heap.lt_size e) (I.ok.cab x c hfn hc)))).trans e1⟩
  ·by_cases hj:j=i
   ·subst hj
    rw[hi] at e1; cases e1
    rw[List.getElem?_set_self hiσ] at e2
    cases e2
    exact ⟨u,r,.inr ⟨.inl hk,c,hc,hc'⟩⟩
   ·rw[List.getElem?_set_ne (Ne.symm hj)] at e2
    obtain ⟨u',r',q⟩:=hl j y v' e1 e2 e3
    refine ⟨u',r',?_⟩
    rcases q with q | ⟨k,c',e,z'⟩
    ·exact .inl q
    ·refine .inr ⟨k,c',e,z'.sameBut hs ?_⟩
     rintro rfl
     exact hj (qfp hN e1 (I.ok.inj _ _ _ e hc▸hi))
  ·by_cases hcc:c'=c
   ·subst hcc; exact ⟨_,hc'⟩
   ·obtain ⟨w2,z2⟩:=I.cell y c' e
    exact ⟨w2,z2.sameBut hs hcc⟩
  ·obtain ⟨e,n,ne,nf,d⟩:=I.pin p hp
   refine ⟨(hs.2 p.1 ?_).trans e,n,ne,nf,d⟩
   intro q
   rw[q,hoc] at e
   have q':oc=p.2:=Option.some.inj e
   exact d w' (by rw[<-q']; exact hocd)
theorem qe9 {M:Model} {A:Around} {E:Value->Shared->Prop} {i:Nat} {x:Str} {v:V} {u:Value} {Q:Unit->Shared->Prop} (I:Inv X pins σ H s) (hN:X.N.Nodup) (hi:X.N[i]? =some x) (hx:Loc X.env.scope x) (r:RelV v u)
  (h: ∀s',Inv X pins (σ.set i (some v)) H s'->Q () s') (hf:X.fn x=true\/X.env.scope.names.lookup x=some .local:=by first | exact .inl rfl | exact .inr rfl | assumption):wpAny M A (storeName X.env x u) Q E s:=
 qfS I hN hi hx r (λs' I' _=>h s' I') hf
theorem Inv.call' {s':Shared} {ch:List Addr} (I:Inv X pins σ H s) (ho:s'.os=s.os) (u:Un (frs X.stack) ch H H' s.heap s'.heap) (hok:HOk X.prog X.w H' s'.heap) (hg:AllBare s'.gens)
  (hch: ∀b∈ch,(b∈X.ex\/X.s₀.heap.objs.size<=b)/\b≠X.env.locals/\(∀x c,X.env.cells.lookup x=some c->c≠b)/\∀p∈X.pn++pins,p.1≠b):Inv X pins σ H' s':=by
 obtain ⟨h',g',d',t',o'⟩:=s'
 have e:o'=s.os:=ho
 subst e
 exact I.call (g':=g') (t':=t') (d':=d') u hok hg hch
end
abbrev XK:=Value->Option Addr->Hp->Prop
abbrev St:=List (Option V)
abbrev VK:=V->Hp->Prop
abbrev TE:=St->Hp->VK->Prop
abbrev TT:=St->Hp->(Bool->Hp->Prop)->Prop
abbrev TA:=St->Hp->(List V->Hp->Prop)->Prop
structure qkJ where
 nx:St->Hp->Prop
 rt:VK
 bk:St->Hp->Prop:=λ_ _=>False
 ct:St->Hp->Prop:=λ_ _=>False
abbrev TS:=qkJ->St->Hp->Prop
def EP (X:Cx) (pins:List (Addr×Obj)) (σ:St) (Q:VK) (u:Value) (s':Shared):Prop:= ∃v H',Inv X pins σ H' s'/\RelV v u/\Q v H'
def TP (X:Cx) (pins:List (Addr×Obj)) (σ:St) (Q:Bool->Hp->Prop) (b:Bool) (s':Shared):Prop:= ∃H',Inv X pins σ H' s'/\Q b H'
def AP (X:Cx) (pins:List (Addr×Obj)) (σ:St) (Q:List V->Hp->Prop) (us:List Value) (s':Shared):Prop:= ∃vs H',Inv X pins σ H' s'/\Vals vs us/\Q vs H'
def SP (X:Cx) (pins:List (Addr×Obj)) (D:qkJ) (f:Flow) (s':Shared):Prop:=
 match f with
 | .next=> ∃σ' H',Inv X pins σ' H' s'/\D.nx σ' H'
 | .brk=> ∃σ' H',Inv X pins σ' H' s'/\D.bk σ' H'
 | .cont=> ∃σ' H',Inv X pins σ' H' s'/\D.ct σ' H'
 | .ret u=> ∃v σ' H',Inv X pins σ' H' s'/\RelV v u/\D.rt v H'
def PE (X:Cx) (e:Expr) (t:TE):Prop:=
 ∀(pins:List (Addr×Obj)) (s:Shared) (σ:St) (H:Hp) (Q:VK),Inv X pins σ H s->t σ H Q->wpAny (model X.prog X.w) X.A (eval e X.env) (EP X pins σ Q) X.xe s
def PT (X:Cx) (e:Expr) (t:TT):Prop:=
 ∀(pins:List (Addr×Obj)) (s:Shared) (σ:St) (H:Hp) (Q:Bool->Hp->Prop),Inv X pins σ H s->t σ H Q->wpAny (model X.prog X.w) X.A (isTrue e X.env (eval e X.env)) (TP X pins σ Q) X.xe s
def PW (X:Cx) (e:Expr) (t:TT):Prop:=
 ∀(whole:Sem Value) (pins:List (Addr×Obj)) (s:Shared) (σ:St) (H:Hp) (Q:Bool->Hp->Prop),Inv X pins σ H s->t σ H Q->wpAny (model X.prog X.w) X.A (isTrue e X.env whole) (TP X pins σ Q) X.xe s
theorem PW.pt {X:Cx} {e:Expr} {t:TT} (h:PW X e t):PT X e t:=h _
def PA (X:Cx) (es:List Expr) (t:TA):Prop:=
 ∀(pos:Pos) (pins:List (Addr×Obj)) (s:Shared) (σ:St) (H:Hp) (Q:List V->Hp->Prop),Inv X pins σ H s->t σ H Q->wpAny (model X.prog X.w) X.A (spliced (backTo pos (starEach es X.env))) (AP X pins σ Q) X.xe s
def PS (X:Cx) (st:Stmt) (t:TS):Prop:=
 ∀(pins:List (Addr×Obj)) (s:Shared) (σ:St) (H:Hp) (D:qkJ),Inv X pins σ H s->t D σ H->wpAny (model X.prog X.w) X.A (exec st X.env) (SP X pins D) X.xe s
def PSs (X:Cx) (st:List Stmt) (t:TS):Prop:=
 ∀(pins:List (Addr×Obj)) (s:Shared) (σ:St) (H:Hp) (D:qkJ),Inv X pins σ H s->t D σ H->wpAny (model X.prog X.w) X.A (execs st X.env) (SP X pins D) X.xe s
theorem thn {α:Type} {t:Sem α} {Q Q':α->Shared->Prop} {M:Model} {A:Around} {E:Value->Shared->Prop} {s:Shared} (h:wpAny M A t Q E s) (hQ: ∀a s,Q a s->Q' a s):wpAny M A t Q' E s:=wpAny_mono h hQ λ_ _ x=>x
end L2
namespace L2
open PySem PySem.Spec PyProof.Rows
section
variable {X:Cx}
theorem bin {a b:Expr} {ta tb:TE} (ha:PE X a ta) (hb:PE X b tb) {pins:List (Addr×Obj)} {s:Shared} {σ:St} {H:Hp} {R:V->V->Hp->Prop} (I:Inv X pins σ H s) (h:ta σ H λx H1=>tb σ H1 λy H2=>R x y H2)
  {α:Type} {Q:α->Shared->Prop} {f:Value->Value->Sem α}
  (hf: ∀v u s2 x y H2,Inv X pins σ H2 s2->RelV x v->RelV y u->R x y H2->wpAny (model X.prog X.w) X.A (f v u) Q X.xe s2):
  wpAny (model X.prog X.w) X.A (eval a X.env) (λv s₁=>wpAny (model X.prog X.w) X.A (eval b X.env) (λu s₂=>wpAny (model X.prog X.w) X.A (f v u) Q X.xe s₂) X.xe s₁) X.xe s:=by
 refine thn (ha pins s σ H _ I h) λv s1 ⟨x,H1,I1,r1,q1⟩=> ?_
 refine thn (hb pins s1 σ H1 _ I1 q1) λu s2 ⟨y,H2,I2,r2,q2⟩=> ?_
 exact hf v u s2 x y H2 I2 r1 r2 q2
def qiN (i:Nat):TE:=λσ H Q=> ∃v,σ[i]? =some (some v)/\Q v H
def tC (v:V):TE:=λ_ H Q=>Q v H
theorem qjk {i:Nat} {x:Str} {pos:Pos} (hN:X.N[i]? =some x) (hv:Vis X.env.scope x) (hd:(x==("__debug__" :Str))=false:=by decide) (hcd:(x==("__classdict__" :Str))=false:=by decide):PE X (.Name x pos) (qiN i):=by
 intro pins s σ H Q I h
 obtain ⟨v,e,h⟩:=h
 obtain ⟨m,hn,hl⟩:=I.loc
 obtain ⟨u,r,l⟩:=hl i x v hN e hv
 have fin:EP X pins σ Q u s:=⟨v,H,I,r,h⟩
 rcases l with ⟨hk,hm⟩ | ⟨hk,c,hc,hcell⟩
 ·exact wpAny_Name (wpAny_loadName_local I.ok.kind hk hn hm fin) hd
 ·rcases hk with hk | hk
  ·exact wpAny_Name (wpAny_loadName_cell I.ok.kind hk hc hcell fin) hd
  ·exact wpAny_Name (wpAny_loadName_free I.ok.kind hk hc hcell fin hcd) hd
theorem qc2 {i j pos}:PE X (.Constant (.int i) j pos) (tC (.int i)):=λ_ _ _ H _ I h=>wpAny_Constant_int ⟨.int i,H,I.tok _,⟨_,rfl⟩,h⟩
theorem qmY {b j pos}:PE X (.Constant (.bool b) j pos) (tC (.bl b)):=λ_ _ _ H _ I h=>Constant_bool ⟨.bl b,H,I,rfl,h⟩
theorem qoJ {j pos}:PE X (.Constant .none j pos) (tC .non):=λ_ _ _ H _ I h=>Constant_none ⟨.non,H,I,rfl,h⟩
theorem qcm {x j pos}:PE X (.Constant (.str x) j pos) (tC (.str x)):=λ_ _ _ H _ I h=>Calls.Constant_str ⟨.str x,H,I.tok _,⟨_,rfl⟩,h⟩
def Gl (X:Cx) (x:Str):Prop:=X.env.kindOf x=some .globalImplicit
theorem qda {E:Value->Shared->Prop} {pins:List (Addr×Obj)} {s:Shared} {σ:St} {H:Hp} {x:Str} {u:Value} {pos:Pos} {Q:Value->Shared->Prop} (I:Inv X pins σ H s) (hg:Gl X x) (hm:X.mg x=some u) (h:Q u s)
  (hd:(x==("__debug__" :Str))=false:=by decide):wpAny (model X.prog X.w) X.A (eval (.Name x pos) X.env) Q E s:=
 Calls.Name_function_global I.ok.kind hg (Calls.loadGlobal_global (by rw[I.ok.glob]; exact I.mod.glob.keeps I.bk) hm h) hd
theorem qcK {E:Value->Shared->Prop} {pins:List (Addr×Obj)} {s:Shared} {σ:St} {H:Hp} {x:Str} {u:Value} {pos:Pos} {Q:Value->Shared->Prop} (I:Inv X pins σ H s) (hg:Gl X x) (hm:X.mg x=none) (hv:bootBuiltins x=some u) (h:Q u s)
  (hn:x≠ "__name__" :=by decide) (hd:(x==("__debug__" :Str))=false:=by decide):wpAny (model X.prog X.w) X.A (eval (.Name x pos) X.env) Q E s:=by
 obtain ⟨mb,h1,h2⟩:=I.mod.blt
 exact Calls.Name_function_global I.ok.kind hg (Calls.loadGlobal_builtin (by rw[I.ok.glob]; exact I.mod.glob.keeps I.bk) hm (by rw[I.ok.blt]; exact h1.keeps I.bk) ((h2 x hn).trans hv) h) hd
theorem qbr {x:Str} {v:V} {u:Value} {pos:Pos} (hg:Gl X x) (hm:X.mg x=some u) (r:RelV v u) (hd:(x==("__debug__" :Str))=false:=by decide):PE X (.Name x pos) (tC v):=
 λ_ _ _ H _ I h=>qda I hg hm ⟨v,H,I,r,h⟩ hd
theorem qee {x:Str} {v:V} {u:Value} {pos:Pos} (hg:Gl X x) (hm:X.mg x=none) (hv:bootBuiltins x=some u) (r:RelV v u) (hn:x≠ "__name__" :=by decide) (hd:(x==("__debug__" :Str))=false:=by decide):PE X (.Name x pos) (tC v):=
 λ_ _ _ H _ I h=>qcK I hg hm hv ⟨v,H,I,r,h⟩ hn hd
variable {a b:Expr} {ta tb:TE} {pos:Pos}
def PC (X:Cx) (op:CmpOp) (a b:Expr) (t:TE):Prop:=
 ∀(pins:List (Addr×Obj)) (s:Shared) (σ:St) (H:Hp) (Q:VK),Inv X pins σ H s->t σ H Q->
  wpAny (model X.prog X.w) X.A (eval a X.env) (λv s₁=>wpAny (model X.prog X.w) X.A (eval b X.env) (λu s₂=>wpAny (model X.prog X.w) X.A (compareOp op v u) (EP X pins σ Q) X.xe s₂) X.xe s₁) X.xe s
theorem qdZ (b:Expr) {op:CmpOp} (h:op≠.In) (h2:op≠.NotIn):behindInMarks op b=false:=by
 have e1:(op==CmpOp.In)=false:=by cases op<;>first | rfl | exact absurd rfl h
 have e2:(op==CmpOp.NotIn)=false:=by cases op<;>first | rfl | exact absurd rfl h2
 cases b<;>simp[behindInMarks,e1,e2]
def tB (t:TE):TT:=λσ H Q=>t σ H λx H1=> ∃c,x= .bl c/\Q c H1
theorem qrU {op:CmpOp} {t:TE} (h:PC X op a b t) (h1:behindInMarks op b=false:=by first | exact qdZ _ (by decide) (by decide) | rfl):PT X (.Compare a [op] [b] pos) (tB t):=by
 intro pins s σ H Q I hw
 refine wpAny_isTrue_Compare1 (thn (h pins s σ H _ I hw) λv s1 h1=>thn h1 λu s2 h2=>thn h2 λc s3 ⟨x,H1,I1,r1,q1⟩=> ?_) h1
 obtain ⟨d,rfl,q⟩:=q1
 cases r1
 exact wpAny_truthy_bool ⟨H1,I1,q⟩
theorem ql5 {e:Expr} {t:TE} (h:PE X e t) (he: ∀whole,isTrue e X.env whole=(do let v <-whole; standAt e.pos; holding [v] (truthy v)):=by intro _; rfl):PT X e (tB t):=by
 intro pins s σ H Q I hw
 refine isTrue_plain (thn (h pins s σ H _ I hw) λv s1 ⟨x,H1,I1,r1,q1⟩=> ?_) (he _)
 obtain ⟨d,rfl,q⟩:=q1
 cases r1
 exact wpAny_truthy_bool ⟨H1,I1,q⟩
variable {tA tB':TT} {qcT:List Expr}
def qsr (t u:TT):TT:=λσ H Q=>t σ H λc H1=>if c=true then u σ H1 Q else Q false H1
def tOr (t u:TT):TT:=λσ H Q=>t σ H λc H1=>if c=true then Q true H1 else u σ H1 Q
def qsn (t:TT):TT:=λσ H Q=>t σ H λc H1=>Q (!c) H1
theorem qmN (ha:PT X a tA):PW X (.BoolOp .And [a] pos) tA:=by
 intro wh pins s σ H Q I h
 refine isTrue_and (thn (ha pins s σ H Q I h) λc s1 e=> ?_)
 cases c with
 | true=>exact isTrue_and_nil e
 | false=>exact e
theorem ql4 (ha:PT X a tA):PW X (.BoolOp .Or [a] pos) tA:=by
 intro wh pins s σ H Q I h
 refine isTrue_or (thn (ha pins s σ H Q I h) λc s1 e=> ?_)
 cases c with
 | false=>exact isTrue_or_nil e
 | true=>exact e
theorem qox (ha:PT X a tA) (hb:PW X (.BoolOp .And (b::qcT) pos) tB'):PW X (.BoolOp .And (a::b::qcT) pos) (qsr tA tB'):=by
 intro wh pins s σ H Q I h
 refine isTrue_and (thn (ha pins s σ H _ I h) λc s1 ⟨H1,I1,q1⟩=> ?_)
 cases c with
 | true=>exact hb wh pins s1 σ H1 Q I1 q1
 | false=>exact ⟨H1,I1,q1⟩
theorem qow (ha:PT X a tA) (hb:PW X (.BoolOp .Or (b::qcT) pos) tB'):PW X (.BoolOp .Or (a::b::qcT) pos) (tOr tA tB'):=by
 intro wh pins s σ H Q I h
 refine isTrue_or (thn (ha pins s σ H _ I h) λc s1 ⟨H1,I1,q1⟩=> ?_)
 cases c with
 | true=>exact ⟨H1,I1,q1⟩
 | false=>exact hb wh pins s1 σ H1 Q I1 q1
theorem ql6 (ha:PT X a tA):PT X (.UnaryOp .Not a pos) (qsn tA):=by
 intro pins s σ H Q I h
 exact isTrue_not (ha pins s σ H (λc H1=>Q (!c) H1) I h)
def qqc (ta tb:TE):TE:=λσ H Q=>ta σ H λx H1=> ∃c,x= .bl c/\if c=true then tb σ H1 Q else Q (.bl false) H1
def qp9 (ta:TE):TE:=λσ H Q=>ta σ H λx H1=> ∃c,x= .bl c/\Q (.bl (!c)) H1
theorem qoH {op} {t:TE} (h:PE X a t):PE X (.BoolOp op [a] pos) t:=λpins s σ H Q I hw=>BoolOp_one (h pins s σ H Q I hw)
theorem qoL (ha:PE X a ta) (hb:PE X (.BoolOp .And (b::qcT) pos) tb):PE X (.BoolOp .And (a::b::qcT) pos) (qqc ta tb):=by
 intro pins s σ H Q I h
 refine BoolOp_and (thn (ha pins s σ H _ I h) λv s1 ⟨x,H1,I1,r1,q1⟩=> ?_)
 obtain ⟨c,rfl,q1⟩:=q1
 cases r1
 refine wpAny_truthy_bool ?_
 cases c with
 | true=>exact hb pins s1 σ H1 Q I1 q1
 | false=>exact ⟨.bl false,H1,I1,rfl,q1⟩
theorem qoI (ha:PE X a ta):PE X (.UnaryOp .Not a pos) (qp9 ta):=by
 intro pins s σ H Q I h
 refine UnaryOp_ (thn (ha pins s σ H _ I h) λv s1 ⟨x,H1,I1,r1,q1⟩=> ?_)
 obtain ⟨c,rfl,q1⟩:=q1
 cases r1
 exact not_of (wpAny_truthy_bool ⟨.bl (!c),H1,I1,rfl,q1⟩)
end
end L2
namespace L2
open PySem PySem.Spec PyProof.Rows
def SqL (K:PySem.W.Frag) (H:Hp) (a:Addr) (xs:List V):Prop:=
 Rd H a (.lst xs)\/
  ∃(o:Obj) (its:Array Value) (n:Nat),K.lookup a=some o/\o.cls= .type "list" /\o.dict=none/\o.data= .seq its n/\its.size<=sizeLine/\Vals xs its.toList
def SqT (K:PySem.W.Frag) (H:Hp) (a:Addr) (xs:List V):Prop:=
 Rd H a (.tup xs)\/
  ∃(o:Obj) (its:Array Value) (n:Nat),K.lookup a=some o/\o.cls= .type "tuple" /\o.data= .seq its n/\its.size<=sizeLine/\Vals xs its.toList
def qs9:Value->Option V
 | .none=>some .non
 | .bool b=>some (.bl b)
 | .int i _=>some (.int i)
 | .str x _=>some (.str x)
 | .bytes b _=>some (.byt b)
 | .float b _=>some (.flt b)
 | .ref a=>some (.ref a)
 | .type n=>some (.ty n)
 | _=>none
theorem RelV.abs {x:V} {u:Value} (r:RelV x u):qs9 u=some x:=by
 cases x with
 | non=>cases r; rfl
 | bl _=>cases r; rfl
 | int _=>obtain ⟨t,rfl⟩:=r; rfl
 | str _=>obtain ⟨t,rfl⟩:=r; rfl
 | byt _=>obtain ⟨t,rfl⟩:=r; rfl
 | flt _=>obtain ⟨t,rfl⟩:=r; rfl
 | ref _=>cases r; rfl
 | ty _=>cases r; rfl
theorem RelV.inj {x y:V} {u:Value} (r:RelV x u) (q:RelV y u):x=y:=Option.some.inj (r.abs.symm.trans q.abs)
theorem Vals.inj: ∀{xs ys:List V} {us:List Value},Vals xs us->Vals ys us->xs=ys
 | _,_,_,.nil,.nil=>rfl
 | _,_,_,.cons r t,.cons r' t'=>by rw[r.inj r',Vals.inj t t']
section
variable {X:Cx} {pins:List (Addr×Obj)} {σ:St} {H:Hp} {s:Shared} {a:Addr} {xs ys:List V}
theorem SqL.of {K:PySem.W.Frag} (h:H a=some (.lst xs)):SqL K H a xs:=.inl (.inl h)
theorem SqT.of {K:PySem.W.Frag} (h:H a=some (.tup xs)):SqT K H a xs:=.inl (.inl h)
theorem Inv.list (I:Inv X pins σ H s) (h:SqL X.K H a xs): ∃its:List Value,Vals xs its/\PlainL s.heap a its.toArray/\xs.length<=sizeLine:=by
 rcases h with h | ⟨o,its,n,hk,hc,hd,hs,hz,r⟩
 ·obtain ⟨z,its,n,r,e⟩:=h.ok I.hok
  exact ⟨its,r,⟨_,n,e,rfl,rfl,rfl⟩,z⟩
 ·refine ⟨its.toList,r,⟨o,n,I.kIn a o hk,hc,hd,by simpa using hs⟩,?_⟩
  have e:=r.length
  simp only[Array.length_toList] at e
  omega
theorem Inv.tuple (I:Inv X pins σ H s) (h:SqT X.K H a xs): ∃its:List Value,Vals xs its/\IsTup s.heap a its.toArray/\xs.length<=sizeLine:=by
 rcases h with h | ⟨o,its,n,hk,hc,hs,hz,r⟩
 ·obtain ⟨z,its,r,p⟩:=h.ok I.hok
  exact ⟨its,r,p,z⟩
 ·refine ⟨its.toList,r,⟨o,I.kIn a o hk,hc,n,by simpa using hs⟩,?_⟩
  have e:=r.length
  simp only[Array.length_toList] at e
  omega
theorem Inv.list_inj (I:Inv X pins σ H s) (h:SqL X.K H a xs) (h':SqL X.K H a ys):xs=ys:=by
 obtain ⟨its,r,⟨o,n,e,_,_,d⟩,_⟩:=I.list h
 obtain ⟨its',r',⟨o',n',e',_,_,d'⟩,_⟩:=I.list h'
 rw[e] at e'; cases e'
 rw[d] at d'
 injection d' with d1 _
 have:its=its':=by simpa using congrArg Array.toList d1
 subst this
 exact r.inj r'
theorem Inv.tuple_inj (I:Inv X pins σ H s) (h:SqT X.K H a xs) (h':SqT X.K H a ys):xs=ys:=by
 obtain ⟨its,r,⟨o,e,_,n,d⟩,_⟩:=I.tuple h
 obtain ⟨its',r',⟨o',e',_,n',d'⟩,_⟩:=I.tuple h'
 rw[e] at e'; cases e'
 rw[d] at d'
 injection d' with d1 _
 have:its=its':=by simpa using congrArg Array.toList d1
 subst this
 exact r.inj r'
end
abbrev Cx.wish (X:Cx) (E:Value->Shared->Prop):Cx:={ X with xe:=E }
abbrev Cx.nox (X:Cx):Cx:=X.wish λ_ _=>False
theorem Cx.Ok.wish {X:Cx} (ok:X.Ok) (E:Value->Shared->Prop):(X.wish E).Ok:=
 ⟨ok.mod,ok.kind,ok.glob,ok.blt,ok.above,ok.inj,ok.has,ok.cab,ok.hd,ok.frames,ok.stk,ok.exf,ok.bs,ok.bsz,ok.noex,ok.exfs,ok.funs,ok.frf⟩
theorem Cx.Ok.unwish {X:Cx} {E:Value->Shared->Prop} (ok:(X.wish E).Ok):X.Ok:=
 ⟨ok.mod,ok.kind,ok.glob,ok.blt,ok.above,ok.inj,ok.has,ok.cab,ok.hd,ok.frames,ok.stk,ok.exf,ok.bs,ok.bsz,ok.noex,ok.exfs,ok.funs,ok.frf⟩
section
variable {X:Cx} {pins:List (Addr×Obj)} {σ:St} {H:Hp} {s:Shared} {E:Value->Shared->Prop}
theorem Inv.wish (I:Inv X pins σ H s) (E:Value->Shared->Prop):Inv (X.wish E) pins σ H s:=⟨I.ok.wish E,I.os,I.bare,I.base,I.loc,I.cell,I.free,I.freeC,I.pin,I.hok,I.len⟩
theorem Inv.unwish (I:Inv (X.wish E) pins σ H s):Inv X pins σ H s:=⟨I.ok.unwish,I.os,I.bare,I.base,I.loc,I.cell,I.free,I.freeC,I.pin,I.hok,I.len⟩
theorem SP.unwish {D:qkJ} {f:Flow} {s':Shared} (h:SP (X.wish E) pins D f s'):SP X pins D f s':=by
 cases f with
 | next=>obtain ⟨σ',H',I,q⟩:=h; exact ⟨σ',H',I.unwish,q⟩
 | brk=>obtain ⟨σ',H',I,q⟩:=h; exact ⟨σ',H',I.unwish,q⟩
 | cont=>obtain ⟨σ',H',I,q⟩:=h; exact ⟨σ',H',I.unwish,q⟩
 | ret u=>obtain ⟨v,σ',H',I,r,q⟩:=h; exact ⟨v,σ',H',I.unwish,r,q⟩
theorem PSs.nox {st:List Stmt} {t:TS} (h:PSs X.nox st t):PSs X st t:=λpins s σ H D I hw=>
 wpAny_mono (h pins s σ H D (I.wish _) hw) (λ_ _ q=>q.unwish) λ_ _ z=>False.elim z
end
section
variable {X:Cx} {st:Stmt} {qcT:List Stmt} {t u:TS} {e:Expr} {te:TE} {pos:Pos}
def qqa:TS:=λD σ H=>D.nx σ H
def qsl (t u:TS):TS:=λD σ H=>t { D with nx:=u D } σ H
theorem qfk:PSs X [] qqa:=λ_ _ σ H _ I h=>wpAny_execs_nil ⟨σ,H,I,h⟩
theorem qbY (h1:PS X st t) (h2:PSs X qcT u):PSs X (st::qcT) (qsl t u):=by
 intro pins s σ H D I h
 refine wpAny_execs_cons (thn (h1 pins s σ H { D with nx:=u D } I h) λf s1 q=> ?_)
 cases f with
 | next=>
  obtain ⟨σ',H',I',q⟩:=q
  exact h2 pins s1 σ' H' D I' q
 | ret v=>exact q
 | brk=>exact q
 | cont=>exact q
theorem qci (h1:PS X st t):PSs X [st] t:=by
 intro pins s σ H D I h
 refine wpAny_execs_cons (thn (h1 pins s σ H D I h) λf s1 q=> ?_)
 cases f with
 | next=>exact wpAny_execs_nil q
 | ret v=>exact q
 | brk=>exact q
 | cont=>exact q
theorem Inv.quiet {pins:List (Addr×Obj)} {σ:St} {H:Hp} {s:Shared} (I:Inv X pins σ H s):interactive X.env=false:=by simp[interactive,I.ok.kind]
def qqb (te:TE):TS:=λD σ H=>te σ H λ_ H1=>D.nx σ H1
theorem qgL (he:PE X e te) (hs:swapsWith e none pos.line X.env=pure false:=by rfl):PS X (.Expr e pos) (qqb te):=by
 intro pins s σ H D I h
 exact wpAny_Expr_any (thn (he pins s σ H _ I h) λv s1 ⟨x,H1,I1,r1,q1⟩=>⟨σ,H1,I1,q1⟩) I.quiet hs
def qsm (te:TE):TS:=λD σ H=>te σ H D.rt
theorem qdi (he:PE X e te):PS X (.Return (some e) pos) (qsm te):=by
 intro pins s σ H D I h
 exact wpAny_Return_some (thn (he pins s σ H _ I h) λv s1 ⟨x,H1,I1,r1,q1⟩=>⟨x,σ,H1,I1,r1,q1⟩)
def qsp (c:TT) (t u:TS):TS:=λD σ H=>c σ H λb H1=>if b=true then t D σ H1 else u D σ H1
theorem qk3 {c:Expr} {a b:List Stmt} {tc:TT} (hc:PT X c tc) (ha:PSs X a t) (hb:PSs X b u):PS X (.If c a b pos) (qsp tc t u):=by
 intro pins s σ H D I h
 refine wpAny_If (thn (hc pins s σ H _ I h) λd s1 ⟨H1,I1,q1⟩=> ?_)
 cases d with
 | true=>exact ha pins s1 σ H1 D I1 q1
 | false=>exact hb pins s1 σ H1 D I1 q1
end
abbrev TG:=V->St->Hp->(St->Hp->Prop)->Prop
abbrev TGs:=List V->St->Hp->(St->Hp->Prop)->Prop
def PG (X:Cx) (target:Expr) (t:TG):Prop:=
 ∀(pins:List (Addr×Obj)) (s:Shared) (σ:St) (H:Hp) (v:V) (u:Value) (Q:St->Hp->Prop),Inv X pins σ H s->RelV v u->t v σ H Q->
  wpAny (model X.prog X.w) X.A (assign target X.env u) (λ_ s'=> ∃σ' H',Inv X pins σ' H' s'/\Q σ' H') X.xe s
def PGs (X:Cx) (ts:List Expr) (t:TGs):Prop:=
 ∀(pins:List (Addr×Obj)) (s:Shared) (σ:St) (H:Hp) (vs:List V) (us:List Value) (Q:St->Hp->Prop),Inv X pins σ H s->Vals vs us->t vs σ H Q->
  wpAny (model X.prog X.w) X.A (assignInOrder ((assignEach ts X.env).map (·.2)) us) (λ_ s'=> ∃σ' H',Inv X pins σ' H' s'/\Q σ' H') X.xe s
abbrev qrJ:=V->V->V->Hp->(Hp->Prop)->Prop
def qsb (X:Cx) (t:qrJ):Prop:=
 ∀(pins:List (Addr×Obj)) (s:Shared) (σ:St) (H:Hp) (o i v:V) (ov iv u:Value) (Q:Hp->Prop),Inv X pins σ H s->RelV o ov->RelV i iv->RelV v u->t o i v H Q->
  wpAny (model X.prog X.w) X.A (setItem ov iv u) (λ_ s'=> ∃H',Inv X pins σ H' s'/\Q H') X.xe s
section
variable {X:Cx} {pos:Pos}
def qnn (i:Nat):TG:=λv σ H Q=>Q (σ.set i (some v)) H
theorem qaD {i:Nat} {x:Str} (hN:X.N.Nodup) (hi:X.N[i]? =some x) (hx:Loc X.env.scope x) (hf:X.fn x=true\/X.env.scope.names.lookup x=some .local:=by first | exact .inl rfl | exact .inr rfl | assumption):PG X (.Name x pos) (qnn i):=by
 intro pins s σ H v u Q I r h
 exact wpAny_assign_Name (qe9 I hN hi hx r (λs' I'=>⟨_,H,I',h⟩) hf)
def qsS:TGs:=λvs σ H Q=>vs=[]/\Q σ H
def qrq (t:TG) (u:TGs):TGs:=λvs σ H Q=> ∃v r,vs=v::r/\t v σ H λσ' H'=>u r σ' H' Q
theorem qmT:PGs X [] qsS:=by
 intro pins s σ H vs us Q I r h
 obtain ⟨e,h⟩:=h
 subst e
 cases r
 exact assignInOrder_nil ⟨σ,H,I,h⟩
theorem qk6 {e:Expr} {es:List Expr} {t:TG} {u:TGs} (h1:PG X e t) (h2:PGs X es u)
  (hs:(assignEach (e::es) X.env).map (·.2)=assign e X.env::(assignEach es X.env).map (·.2):=by rfl):PGs X (e::es) (qrq t u):=by
 intro pins s σ H vs us Q I r h
 obtain ⟨v,vr,e1,h⟩:=h
 subst e1
 cases r with
 | cons r rr=>
  rw[hs]
  refine assignInOrder_cons (thn (h1 pins s σ H _ _ _ I r h) λ_ s1 ⟨σ1,H1,I1,q1⟩=> ?_)
  exact h2 pins s1 σ1 H1 _ _ Q I1 rr q1
def qsR (K:PySem.W.Frag) (n:Nat) (t:TGs):TG:=λv σ H Q=> ∃a xs,v= .ref a/\SqT K H a xs/\xs.length=n/\t xs σ H Q
theorem qoF {es:List Expr} {k:Nat} {t:TGs} {n:Nat} (hc:X.calm=true) (h:PGs X es t)
  (hn:(assignEach es X.env).length=n:=by rfl) (hst:(assignEach es X.env).findIdx? (·.1)=none:=by rfl):PG X (.Tuple es k pos) (qsR X.K n t):=by
 intro pins s σ H v u Q I r hw
 obtain ⟨a,xs,e1,hq,hl,hw⟩:=hw
 subst e1
 cases r
 obtain ⟨its,rv,ht,hz⟩:=I.tuple hq
 refine assign_Tuple_tuple (I.ok.hd hc) ht (by simp[hn,<-hl,rv.length]) hst λh' hx=> ?_
 have I1:Inv X pins σ H { s with heap:=h' }:=I.kept (t':=s.toks) λb o e=>hx b o (Nat.ne_of_lt (Heap.lt_size e)) e
 exact h pins _ σ H xs _ Q I1 (by simpa using rv) hw
def gSub (to ti:TE) (t:qrJ):TG:=λv σ H Q=>to σ H λo H1=>ti σ H1 λi H2=>t o i v H2 λH3=>Q σ H3
theorem qjj {o i:Expr} {to ti:TE} {t:qrJ} (ho:PE X o to) (hi:PE X i ti) (hs:qsb X t)
  (ha: ∀v,assign (.Subscript o i pos) X.env v=(do
   let ov <-holding [v] (eval o X.env)
   let iv <-holding [v,ov] (eval i X.env)
   standAt pos
   holding [v,ov,iv] (setItem ov iv v)
   release [v,ov,iv] []):=by intro _; rfl):PG X (.Subscript o i pos) (gSub to ti t):=by
 intro pins s σ H v u Q I r h
 rw[ha]
 refine wpAny_bind (wpAny_holding (thn (ho pins s σ H _ I h) λov s1 ⟨x,H1,I1,r1,q1⟩=> ?_))
 refine wpAny_bind (wpAny_holding (thn (hi pins s1 σ H1 _ I1 q1) λiv s2 ⟨y,H2,I2,r2,q2⟩=> ?_))
 refine wpAny_bind (wpAny_standAt (wpAny_bind (wpAny_holding (thn (hs pins s2 σ H2 x y v ov iv u _ I2 r1 r2 r q2) λ_ s3 ⟨H3,I3,q3⟩=> ?_))))
 exact wpAny_release ⟨σ,H3,I3,q3⟩
def qrP (te:TE) (g:TG):TS:=λD σ H=>te σ H λx H1=>g x σ H1 D.nx
theorem ql7 {tg e:Expr} {te:TE} {g:TG} (he:PE X e te) (hg:PG X tg g) (hs:swapsWithSole [tg] e pos.line X.env=pure false:=by rfl) (hw:swappedStores [tg] e X.env=pure none:=by rfl)
  (h1:(assignEach [tg] X.env).map (·.2)=[assign tg X.env]:=by rfl):PS X (.Assign [tg] e pos) (qrP te g):=by
 intro pins s σ H D I h
 refine wpAny_Assign_stores (thn (he pins s σ H _ I h) λv s1 ⟨x,H1,I1,r1,q1⟩=> ?_) hs hw
 rw[h1]
 exact thn (hg pins s1 σ H1 x v _ I1 r1 q1) λ_ s2 q=>q
theorem qdH {i:Nat} {x:Str} {e:Expr} {te:TE} {pos':Pos} (hN:X.N.Nodup) (hi:X.N[i]? =some x) (hx:Loc X.env.scope x) (he:PE X e te) (hs:swapsWith e (some (.Name x pos')) pos.line X.env=pure false:=by rfl) (hf:X.fn x=true\/X.env.scope.names.lookup x=some .local:=by first | exact .inl rfl | exact .inr rfl | assumption):
  PS X (.Assign [.Name x pos'] e pos) (qrP te (qnn i)):=by
 intro pins s σ H D I h
 refine wpAny_Assign_Name (thn (he pins s σ H _ I h) λv s1 ⟨y,H1,I1,r1,q1⟩=> ?_) hs
 exact qe9 I1 hN hi hx r1 (λs2 I2=>⟨_,H1,I2,q1⟩) hf
end
structure It where
 go:Nat->Hp->Prop
 yld:Nat->Hp->V->Hp->Prop
 stop:Nat->Hp->Prop
def qiH (X:Cx) (pins:List (Addr×Obj)) (H:Hp) (b:Addr):Prop:=
 H b=none/\b≠X.env.locals/\b∉X.fs/\(b∈X.ex\/X.s₀.heap.objs.size<=b)/\(∀x c,X.env.cells.lookup x=some c->c≠b)/\∀p∈X.pn++pins,p.1≠b
theorem Inv.fpOk {X:Cx} {pins:List (Addr×Obj)} {σ:St} {H H':Hp} {s:Shared} {b:Addr} (I:Inv X pins σ H s) (hb:s.heap.objs.size<=b) (hn:H' b=none):qiH X pins H' b:=by
 refine ⟨hn,Nat.ne_of_gt (Nat.lt_of_lt_of_le I.lt hb),I.nofs hb,.inr (Nat.le_trans I.sz hb),λx c e z=> ?_,λp hp z=> ?_⟩
 ·obtain ⟨v,q⟩:=I.cell x c e
  exact absurd (Nat.lt_of_lt_of_le q.lt (by rw[z]; exact hb)) (Nat.lt_irrefl _)
 ·exact absurd (Nat.lt_of_lt_of_le (Heap.lt_size (I.pin p hp).1) (by rw[z]; exact hb)) (Nat.lt_irrefl _)
structure qnT (P:Program) (w:World) (K:PySem.W.Frag) (tg:Expr) (J:It) (fp:List Addr) (it:Addr) (tn:Nat->Heap->Prop):Prop where
 mem:it∈fp
 obj: ∀i h,tn i h->∀b∈fp,∃o,h.get? b=some o/\∀v,o.data≠.cell v
 keep: ∀i h h',tn i h->(∀b∈fp,∀o,h.get? b=some o->h'.get? b=some o)->tn i h'
 item: ∀(X:Cx),X.prog=P->X.w=w->X.K=K->X.calm=true->∀(i:Nat) (pins:List (Addr×Obj)) (s:Shared) (σ:St) (H:Hp) (E:Value->Shared->Prop),Inv X pins σ H s->(∀b∈fp,qiH X pins H b)->tn i s.heap->J.go i H->
  wpAny (model P w) X.A (pyNext (.ref it)) (λr s1=> ∃u,r=some u/\
   wpAny (model P w) X.A (letOwnedTupleGo tg (.ref it) u) (λ_ s2=> ∃x H',Inv X pins σ H' s2/\RelV x u/\J.yld i H x H'/\tn (i+1) s2.heap/\∀b∈fp,H' b=none) E s1) E s
 done: ∀(X:Cx),X.prog=P->X.w=w->X.K=K->X.calm=true->∀(i:Nat) (pins:List (Addr×Obj)) (s:Shared) (σ:St) (H:Hp) (E:Value->Shared->Prop),Inv X pins σ H s->(∀b∈fp,qiH X pins H b)->tn i s.heap->J.stop i H->
  wpAny (model P w) X.A (pyNext (.ref it)) (λr s1=>r=none/\Inv X pins σ H s1) E s
 self: ∀(A:Around) (i:Nat) (s:Shared) (Q:Value->Shared->Prop) (E:Value->Shared->Prop),tn i s.heap->Q (.ref it) s->wpAny (model P w) A (pyIter (.ref it)) Q E s
abbrev TI:=St->Hp->(It->Hp->Prop)->Prop
def PIE (X:Cx) (pins:List (Addr×Obj)) (σ:St) (tg:Expr) (R:It->Hp->Prop) (itv:Value) (s2:Shared):Prop:=
 ∃(it:Addr) (fp:List Addr) (tn:Nat->Heap->Prop) (J:It) (H':Hp),itv= .ref it/\Inv X pins σ H' s2/\qnT X.prog X.w X.K tg J fp it tn/\tn 0 s2.heap/\(∀b∈fp,qiH X pins H' b)/\R J H'
def PI (X:Cx) (tg iter:Expr) (wi:TI):Prop:=
 ∀(pins:List (Addr×Obj)) (s:Shared) (σ:St) (H:Hp) (R:It->Hp->Prop),Inv X pins σ H s->wi σ H R->
  wpAny (model X.prog X.w) X.A (eval iter X.env) (λv s1=>wpAny (model X.prog X.w) X.A (pyIter v) (PIE X pins σ tg R) X.xe s1) X.xe s
theorem qlp {M:Model} {A:Around} {E:Value->Shared->Prop} {s:Shared} {tg:Expr} {it:Addr} {u:Value} {o:Obj} {n:String} {vs:Array Value} {Q:Unit->Shared->Prop} (ho:s.heap.get? it=some o) (hc:o.cls= .type n) (hd:o.data= .fields vs)
  (hn:["enumerate", "zip", "dict_itemiterator", "dict_reverseitemiterator", "odict_iterator", "itertools.zip_longest", "itertools.pairwise"].contains n=false) (hQ:Q () s):wpAny M A (letOwnedTupleGo tg (.ref it) u) Q E s:=by
 unfold letOwnedTupleGo
 cases tg<;>first
  | exact wpAny_pure hQ
  | (cases u<;>first
    | exact wpAny_pure hQ
    | (refine wpAny_bind (wpAny_load ho ?_)
       rw[hc,hd]
       show wpAny M A (if (["enumerate", "zip", "dict_itemiterator", "dict_reverseitemiterator", "odict_iterator", "itertools.zip_longest", "itertools.pairwise"].contains n&&vs[0]? ==some (rawInt _))=true then _ else _) Q E s
       rw[if_neg (by intro h; rw[hn,Bool.false_and] at h; cases h)]
       exact wpAny_pure hQ))
def Itl (K:PySem.W.Frag) (a:Addr):It:=
 ⟨λi H=> ∃xs x,SqL K H a xs/\xs[i]? =some x,λi H x H'=>H'=H/\∀xs,SqL K H a xs->xs[i]? =some x,λi H=> ∃xs,SqL K H a xs/\xs.length<=i⟩
def Itt (K:PySem.W.Frag) (a:Addr):It:=
 ⟨λi H=> ∃xs x,SqT K H a xs/\xs[i]? =some x,λi H x H'=>H'=H/\∀xs,SqT K H a xs->xs[i]? =some x,λi H=> ∃xs,SqT K H a xs/\xs.length<=i⟩
def Itr (lo:Int) (n:Nat):It:=⟨λi _=>i<n,λi H x H'=>H'=H/\x= .int (lo+i),λi _=>n<=i⟩
theorem qiK {P:Program} {w:World} {K:PySem.W.Frag} {tg:Expr} (a it:Addr):qnT P w K tg (Itl K a) [it] it (λi h=>h.IsListIter it a i) where
 mem:=by simp
 obj:=λi h st b hb=>by
  have e:b=it:=by simpa using hb
  subst e
  obtain ⟨o,e,c,d⟩:=st
  exact ⟨o,e,λv z=>by rw[d] at z; cases z⟩
 keep:=λi h h' st k=>st.at λo e=>k it (by simp) o e
 item:=by
  intro X hP hw hK hc i pins s σ H E I hf st hg
  subst hP hw hK
  obtain ⟨xs,x,hq,hx⟩:=hg
  obtain ⟨its,rv,p,hz⟩:=I.list hq
  obtain ⟨u,hu,ru⟩:=rv.get hx
  obtain ⟨f0,f1,f2,f3,f4,f5⟩:=hf it (by simp)
  refine wpAny_pyNext_list_item st p.isList (x:=u) (by simpa using hu) λh' st' sb=> ?_
  have I1:Inv X pins σ H { s with heap:=h' }:=I.turned (t':=s.toks) (λb o hb e=>(sb.2 b hb).trans e) f0 f1 f3 f4 f5
  obtain ⟨o,e,c,d⟩:=id st'
  exact ⟨u,rfl,qlp (s:={ s with heap:=h' }) e c d (by decide) ⟨x,H,I1,ru,⟨rfl,λys hy=>by rw[I.list_inj hy hq]; exact hx⟩,st',λb hb=>(hf b hb).1⟩⟩
 done:=by
  intro X hP hw hK hc i pins s σ H E I hf st hg
  subst hP hw hK
  obtain ⟨xs,hq,hx⟩:=hg
  obtain ⟨its,rv,p,hz⟩:=I.list hq
  obtain ⟨f0,f1,f2,f3,f4,f5⟩:=hf it (by simp)
  have hl:=rv.length
  exact wpAny_pyNext_list_end (I.ok.hd hc) st p.isList (by simp; omega) λh' eb=>⟨rfl,I.turned (t':=s.toks) (λb o hb e=>eb b o hb e) f0 f1 f3 f4 f5⟩
 self:=λ_ _ _ _ _ st h=>wpAny_pyIter_listiter st h
theorem qia {P:Program} {w:World} {K:PySem.W.Frag} {tg:Expr} (a it:Addr):qnT P w K tg (Itt K a) [it] it (λi h=>h.IsTupleIter it a i) where
 mem:=by simp
 obj:=λi h st b hb=>by
  have e:b=it:=by simpa using hb
  subst e
  obtain ⟨o,e,c,d⟩:=st
  exact ⟨o,e,λv z=>by rw[d] at z; cases z⟩
 keep:=λi h h' st k=>st.at λo e=>k it (by simp) o e
 item:=by
  intro X hP hw hK hc i pins s σ H E I hf st hg
  subst hP hw hK
  obtain ⟨xs,x,hq,hx⟩:=hg
  obtain ⟨its,rv,p,hz⟩:=I.tuple hq
  obtain ⟨u,hu,ru⟩:=rv.get hx
  obtain ⟨f0,f1,f2,f3,f4,f5⟩:=hf it (by simp)
  refine wpAny_pyNext_tuple_item st (show s.heap.IsTuple a its.toArray from p) (x:=u) (by simpa using hu) λh' st' sb=> ?_
  have I1:Inv X pins σ H { s with heap:=h' }:=I.turned (t':=s.toks) (λb o hb e=>(sb.2 b hb).trans e) f0 f1 f3 f4 f5
  obtain ⟨o,e,c,d⟩:=id st'
  exact ⟨u,rfl,qlp (s:={ s with heap:=h' }) e c d (by decide) ⟨x,H,I1,ru,⟨rfl,λys hy=>by rw[I.tuple_inj hy hq]; exact hx⟩,st',λb hb=>(hf b hb).1⟩⟩
 done:=by
  intro X hP hw hK hc i pins s σ H E I hf st hg
  subst hP hw hK
  obtain ⟨xs,hq,hx⟩:=hg
  obtain ⟨its,rv,p,hz⟩:=I.tuple hq
  obtain ⟨f0,f1,f2,f3,f4,f5⟩:=hf it (by simp)
  have hl:=rv.length
  exact wpAny_pyNext_tuple_end (I.ok.hd hc) st (show s.heap.IsTuple a its.toArray from p) (by simp; omega) λh' eb=>⟨rfl,I.turned (t':=s.toks) (λb o hb e=>eb b o hb e) f0 f1 f3 f4 f5⟩
 self:=λ_ _ _ _ _ st h=>wpAny_pyIter_tupleiter st h
theorem qib {P:Program} {w:World} {K:PySem.W.Frag} {tg:Expr} (it:Addr) (lo:Int) (n:Nat):qnT P w K tg (Itr lo n) [it] it (λi h=>IsRangeIter h it (lo+(i:Nat)*1) ((n:Int) - (i:Nat)) 1) where
 mem:=by simp
 obj:=λi h st b hb=>by
  have e:b=it:=by simpa using hb
  subst e
  exact ⟨_,st,λv z=>by
   have z':Data.fields _=Data.cell v:=z
   cases z'⟩
 keep:=λi h h' st k=>k it (by simp) _ st
 item:=by
  intro X hP hw hK hc i pins s σ H E I hf st hg
  subst hP hw hK
  obtain ⟨f0,f1,f2,f3,f4,f5⟩:=hf it (by simp)
  have W:=Walks.range (prog:=X.prog) (w:=X.w) (I.ok.hd hc) it lo 1 n
  refine W.item i s _ _ hg st λv h' tk hv st' kk=> ?_
  obtain ⟨t,rfl⟩:=hv
  have I1:Inv X pins σ H { s with heap:=h',toks:=tk }:=I.turned (λb o hb e=>kk b o (by simpa using hb) e) f0 f1 f3 f4 f5
  refine ⟨_,rfl,qlp (s:={ s with heap:=h',toks:=tk }) (n:= "range_iterator") st' rfl rfl (by decide) ⟨.int (lo+i),H,I1,⟨t,?_⟩,⟨rfl,rfl⟩,st',λb hb=>(hf b hb).1⟩⟩
  rw[Int.mul_one]
 done:=by
  intro X hP hw hK hc i pins s σ H E I hf st hg
  subst hP hw hK
  obtain ⟨f0,f1,f2,f3,f4,f5⟩:=hf it (by simp)
  exact wpAny_pyNext_range_end (I.ok.hd hc) st (by have:n<=i:=hg; omega) λh' eb=>⟨rfl,I.turned (t':=s.toks) (λb o hb e=>eb b o hb e) f0 f1 f3 f4 f5⟩
 self:=λ_ _ _ _ _ st h=>wpAny_pyIter_rangeiter st h
end L2
namespace L2
open PySem PySem.Spec PyProof.Rows
section
variable {X:Cx} {tg:Expr}
theorem qk0 {pins:List (Addr×Obj)} {σ:St} {H:Hp} {s:Shared} {R:It->Hp->Prop} {E:Value->Shared->Prop} {lo hi:Int} {t u v:Tok} {tk:Nat} (I:Inv X pins σ H s) (h1: -(2 ^ 62)<=lo) (h2:lo<2 ^ 62) (h3: -(2 ^ 62)<=hi) (h4:hi<2 ^ 62)
  (q:R (Itr lo (hi - lo).toNat) H):wpAny (model X.prog X.w) X.A (pyIter (.ref s.heap.objs.size)) (PIE X pins σ tg R) E { s with heap:=s.heap.push { cls:=.type "range",data:=.fields #[.int lo t,.int hi u,.int 1 v] },toks:=tk }:=by
 refine wpAny_pyIter_range (IsRange.new ..) (small_one h1 h2 h3 h4) ?_
 have I1:Inv X pins σ H { s with heap:=s.heap.push { cls:=.type "range",data:=.fields #[.int lo t,.int hi u,.int 1 v] },toks:=tk }:=I.kept λb o e=>Heap.get?_push_of_some _ e
 refine ⟨(s.heap.push { cls:=.type "range",data:=.fields #[.int lo t,.int hi u,.int 1 v] }).objs.size,[(s.heap.push { cls:=.type "range",data:=.fields #[.int lo t,.int hi u,.int 1 v] }).objs.size],_,_,H,rfl,
  I1.kept (t':=tk) λb o e=>Heap.get?_push_of_some _ e,qib _ lo (hi - lo).toNat,?_,λb hb=> ?_,q⟩
 ·have e1:lo+((0:Nat):Int)*1=lo:=by simp
  have e2:(((hi - lo).toNat:Nat):Int) - ((0:Nat):Int)=Builtin.Range.rangeSize lo hi 1:=by rw[rangeSize_one]; split<;>omega
  show IsRangeIter _ _ (lo+((0:Nat):Int)*1) ((((hi - lo).toNat:Nat):Int) - ((0:Nat):Int)) 1
  rw[e1,e2]
  exact Heap.get?_push_size _ rfl
 ·have e:b=(s.heap.push { cls:=.type "range",data:=.fields #[.int lo t,.int hi u,.int 1 v] }).objs.size:=by simpa using hb
  subst e
  exact I1.fpOk (Nat.le_refl _) (I1.hok.fresh (Nat.le_refl _))
def qrn (ta:TA):TI:=λσ H R=>ta σ H λvs H1=> ∃j:Int,vs=[.int j]/\ -(2 ^ 62)<=j/\j<2 ^ 62/\R (Itr 0 j.toNat) H1
theorem qji {a:Expr} {ta:TA} {p pos:Pos} (hg:Gl X "range") (hm:X.mg "range" =none) (ha:PA X [a] ta) (hs:starEach [a] X.env=[(false,eval a X.env)]:=by rfl):PI X tg (.Call (.Name "range" p) [a] [] pos) (qrn ta):=by
 intro pins s σ H R I h
 refine Call_ (qcK I hg hm boot_range (PyProof.Rows.callWith_type1 (thn (ha pos pins s σ H _ I h) λus s1 ⟨vs,H1,I1,r1,q1⟩=> ?_) hs rfl))
 obtain ⟨j,e,q1,q2,q⟩:=q1
 subst e
 cases r1 with
 | cons r rr=>
  cases rr
  obtain ⟨t,rfl⟩:=r
  exact call_range_1 (qk0 I1 (by omega) (by omega) q1 q2 (by simpa using q))
def qsq (wi:TI) (g:TG) (tb:TS):TS:=λD σ H=>wi σ H λJ H1=> ∃W:Nat->Nat->St->Hp->Prop,(∃m,W 0 m σ H1)/\∀i m σ H,W i m σ H->
 (J.stop i H/\D.nx σ H)\/(J.go i H/\∃N:St->Hp->Prop,(∀σ' H',N σ' H'->∃m',m'<m/\W (i+1) m' σ' H')/\∀x H',J.yld i H x H'->g x σ H' λσ2 H2=>tb { D with nx:=N,ct:=N,bk:=D.nx } σ2 H2)
def qf1 (fp:List Addr) (h:Heap):List (Addr×Obj):=fp.filterMap λb=>(h.get? b).map λo=>(b,o)
theorem qcX {fp:List Addr} {h:Heap} {b:Addr} {o:Obj} (hb:b∈fp) (e:h.get? b=some o):(b,o)∈qf1 fp h:=List.mem_filterMap.mpr ⟨b,hb,by rw[e]; rfl⟩
theorem qjq {fp:List Addr} {h:Heap} {p:Addr×Obj} (hp:p∈qf1 fp h):p.1∈fp/\h.get? p.1=some p.2:=by
 obtain ⟨b,hb,e⟩:=List.mem_filterMap.mp hp
 cases q:h.get? b with
 | none=>rw[q] at e; cases e
 | some o=>
  rw[q] at e
  have e':(b,o)=p:=Option.some.inj e
  subst e'
  exact ⟨hb,q⟩
theorem Inv.pinned {pins:List (Addr×Obj)} {σ:St} {H:Hp} {s:Shared} {fp:List Addr} (I:Inv X pins σ H s) (hf: ∀b∈fp,qiH X pins H b) (ho: ∀b∈fp,∃o,s.heap.get? b=some o/\∀v,o.data≠.cell v):Inv X (pins++qf1 fp s.heap) σ H s:=
 I.pins_of λp hp=>(List.mem_append.mp hp).elim (λz=>I.pin p (List.mem_append_right _ z)) λz=>by
  obtain ⟨hb,e⟩:=qjq z
  obtain ⟨f0,f1,f2,_⟩:=hf p.1 hb
  obtain ⟨o,e',d⟩:=ho p.1 hb
  rw[e] at e'; cases e'
  exact ⟨e,f0,f1,f2,d⟩
theorem Inv.unpinned {pins pl:List (Addr×Obj)} {σ:St} {H:Hp} {s:Shared} (I:Inv X (pins++pl) σ H s):Inv X pins σ H s:=I.pins_of λp hp=>I.pin p (List.mem_append_right _ (List.mem_append_left _ hp))
theorem qoz {iter:Expr} {body:List Stmt} {wi:TI} {g:TG} {tb:TS} {pos:Pos} (hp:PassesOwn (model X.prog X.w) X.A X.env X.xe) (hc:X.calm=true) (hi:PI X tg iter wi) (hg:PG X tg g) (hb:PSs X body tb)
  (hs: ∀x,foldedSetIterable iter X.env x=pure x:=by intro _; rfl):PS X (.For tg iter body [] pos) (qsq wi g tb):=by
 intro pins s σ H D I h
 refine wpAny_For (thn (hi pins s σ H _ I h) λv s1 h1=>thn h1 λitv s2 h2=> ?_) hs
 obtain ⟨it,fp,tn,J,H2,e,I2,T,st2,f2,W,⟨m0,w0⟩,qex⟩:=h2
 subst e
 have stat: ∀{H':Hp},(∀b∈fp,H' b=none)->∀b∈fp,qiH X pins H' b:=λhn b hb=>⟨hn b hb,(f2 b hb).2⟩
 refine codeAny_forLoop_any (λn s'=> ∃i σ' H',Inv X pins σ' H' s'/\tn i s'.heap/\(∀b∈fp,H' b=none)/\W i n σ' H') ?_ m0 ⟨0,σ,H2,I2,st2,λb hb=>(f2 b hb).1,w0⟩
 rintro n s3 ⟨i,σ3,H3,I3,st3,fr3,w3⟩
 rcases qex i n σ3 H3 w3 with ⟨stop,qn⟩ | ⟨go,N,hN,step⟩
 ·refine wpAny_passesOwn hp (thn (T.done X rfl rfl rfl hc i pins s3 σ3 H3 X.xe I3 (stat fr3) st3 stop) λr s4 ⟨hr,I4⟩=> ?_)
  subst hr
  exact wpAny_execs_nil ⟨σ3,H3,I4,qn⟩
 ·refine wpAny_passesOwn hp (thn (T.item X rfl rfl rfl hc i pins s3 σ3 H3 X.xe I3 (stat fr3) st3 go) λr s4 ⟨u,hr,h4⟩=> ?_)
  subst hr
  refine wpAny_passesOwn hp (thn h4 λ_ s5 ⟨x,H5,I5,r5,y5,st5,fr5⟩=> ?_)
  have I5':=I5.pinned (stat fr5) (T.obj _ _ st5)
  refine wpAny_passesOwn hp (thn (hg _ s5 σ3 H5 x u _ I5' r5 (step x H5 y5)) λ_ s6 ⟨σ6,H6,I6,q6⟩=> ?_)
  refine wpAny_passesOwn hp (thn (hb _ s6 σ6 H6 _ I6 q6) λf s7 q7=> ?_)
  have again: ∀{σ7:St} {H7:Hp},Inv X (pins++qf1 fp s5.heap) σ7 H7 s7->N σ7 H7->∃m,m<n/\∃i σ' H',Inv X pins σ' H' s7/\tn i s7.heap/\(∀b∈fp,H' b=none)/\W i m σ' H':=λ{σ7 H7} I7 n7=>by
   obtain ⟨m',hm,w7⟩:=hN σ7 H7 n7
   refine ⟨m',hm,i+1,σ7,H7,I7.unpinned,T.keep _ _ _ st5 λb hb o e=>(I7.pin (b,o) (List.mem_append_right _ (List.mem_append_right _ (qcX hb e)))).1,λb hb=> ?_,w7⟩
   obtain ⟨o,e,d⟩:=T.obj _ _ st5 b hb
   exact (I7.pin (b,o) (List.mem_append_right _ (List.mem_append_right _ (qcX hb e)))).2.1
  cases f with
  | next=>obtain ⟨σ7,H7,I7,n7⟩:=q7; exact again I7 n7
  | cont=>obtain ⟨σ7,H7,I7,n7⟩:=q7; exact again I7 n7
  | brk=>obtain ⟨σ7,H7,I7,q7⟩:=q7; exact ⟨σ7,H7,I7.unpinned,q7⟩
  | ret v=>obtain ⟨x7,σ7,H7,I7,r7,q7⟩:=q7; exact ⟨x7,σ7,H7,I7.unpinned,r7,q7⟩
end
end L2
namespace L2
open PySem PySem.Spec PyProof.Rows
abbrev R2:=V->V->Hp->VK->Prop
def OpR (X:Cx) (f:Value->Value->Sem Value) (r:R2):Prop:=
 ∀(pins:List (Addr×Obj)) (s:Shared) (σ:St) (H:Hp) (x y:V) (v u:Value) (Q:VK),Inv X pins σ H s->RelV x v->RelV y u->r x y H Q->
  wpAny (model X.prog X.w) X.A (f v u) (EP X pins σ Q) X.xe s
def UnR (X:Cx) (f:Value->Sem Value) (r:V->Hp->VK->Prop):Prop:=
 ∀(pins:List (Addr×Obj)) (s:Shared) (σ:St) (H:Hp) (x:V) (v:Value) (Q:VK),Inv X pins σ H s->RelV x v->r x H Q->
  wpAny (model X.prog X.w) X.A (f v) (EP X pins σ Q) X.xe s
def qev (X:Cx) (f:Value) (r:List V->Hp->VK->Prop):Prop:=
 ∀(pins:List (Addr×Obj)) (s:Shared) (σ:St) (H:Hp) (xs:List V) (us:List Value) (Q:VK),Inv X pins σ H s->Vals xs us->r xs H Q->
  wpAny (model X.prog X.w) X.A (call f us) (EP X pins σ Q) X.xe s
def qtb (X:Cx) (r:V->Hp->(Bool->Hp->Prop)->Prop):Prop:=
 ∀(pins:List (Addr×Obj)) (s:Shared) (σ:St) (H:Hp) (x:V) (v:Value) (Q:Bool->Hp->Prop),Inv X pins σ H s->RelV x v->r x H Q->
  wpAny (model X.prog X.w) X.A (truthy v) (TP X pins σ Q) X.xe s
def tOp (r:R2) (ta tb:TE):TE:=λσ H Q=>ta σ H λx H1=>tb σ H1 λy H2=>r x y H2 Q
def tUn (r:V->Hp->VK->Prop) (ta:TE):TE:=λσ H Q=>ta σ H λx H1=>r x H1 Q
def rI (C:Int->Int->Prop) (g:Int->Int->V):R2:=λx y H Q=> ∃i j,x= .int i/\y= .int j/\C i j/\Q (g i j) H
def rI0 (g:Int->Int->V):R2:=λx y H Q=> ∃i j,x= .int i/\y= .int j/\Q (g i j) H
def rU (g:Int->V):V->Hp->VK->Prop:=λx H Q=> ∃i,x= .int i/\Q (g i) H
section
variable {X:Cx} {a b c:Expr} {ta tb tc:TE} {pos:Pos}
theorem qrG (ha:PE X a ta) (hb:PE X b tb) {pins:List (Addr×Obj)} {s:Shared} {σ:St} {H:Hp} {R:V->V->Hp->Prop} (I:Inv X pins σ H s)
  (h:ta σ H λx H1=>tb σ H1 λy H2=>R x y H2) {Q:Value->Shared->Prop} {f:Value->Value->Sem Value}
  (hf: ∀v u s2 x y H2,Inv X pins σ H2 s2->RelV x v->RelV y u->R x y H2->wpAny (model X.prog X.w) X.A (f v u) Q X.xe s2):
  wpAny (model X.prog X.w) X.A (eval a X.env) (λv s₁=>wpAny (model X.prog X.w) X.A (eval b X.env) (λu s₂=>wpAny (model X.prog X.w) X.A (f v u) Q X.xe s₂) X.xe s₁) X.xe s:=by
 refine thn (ha pins s σ H _ I h) λv s1 ⟨x,H1,I1,r1,q1⟩=> ?_
 refine thn (hb pins s1 σ H1 _ I1 q1) λu s2 ⟨y,H2,I2,r2,q2⟩=> ?_
 exact hf v u s2 x y H2 I2 r1 r2 q2
theorem qcx {op:Operator} {r:R2} (ho:OpR X (binaryOp op) r) (ha:PE X a ta) (hb:PE X b tb):PE X (.BinOp a op b pos) (tOp r ta tb):=by
 intro pins s σ H Q I h
 exact wpAny_BinOp (qrG ha hb I h λv u s2 x y H2 I2 rx ry q=>ho pins s2 σ H2 x y v u Q I2 rx ry q)
theorem qqP {op:UnaryOp} {r:V->Hp->VK->Prop} (ho:UnR X (unaryOp op) r) (ha:PE X a ta):PE X (.UnaryOp op a pos) (tUn r ta):=by
 intro pins s σ H Q I h
 exact UnaryOp_ (thn (ha pins s σ H _ I h) λv s1 ⟨x,H1,I1,r1,q1⟩=>ho pins s1 σ H1 x v Q I1 r1 q1)
theorem opI {f:Value->Value->Sem Value} {C:Int->Int->Prop} {g:Int->Int->Int}
  (rule: ∀(i j:Int) (t u:Tok) (s:Shared) (Q:Value->Shared->Prop) (E:Value->Shared->Prop),C i j->Q (.int (g i j) s.toks) { s with toks:=s.toks+1 }->wpAny (model X.prog X.w) X.A (f (.int i t) (.int j u)) Q E s):
  OpR X f (rI C λi j=>.int (g i j)):=by
 intro pins s σ H x y v u Q I rx ry h
 obtain ⟨i,j,rfl,rfl,hc,q⟩:=h
 obtain ⟨t,rfl⟩:=rx
 obtain ⟨t',rfl⟩:=ry
 exact rule i j t t' s _ _ hc ⟨.int (g i j),H,I.tok _,⟨_,rfl⟩,q⟩
theorem qrX {f:Value->Value->Sem Value} {g:Int->Int->Int}
  (rule: ∀(i j:Int) (t u:Tok) (s:Shared) (Q:Value->Shared->Prop) (E:Value->Shared->Prop),Q (.int (g i j) s.toks) { s with toks:=s.toks+1 }->wpAny (model X.prog X.w) X.A (f (.int i t) (.int j u)) Q E s):
  OpR X f (rI0 λi j=>.int (g i j)):=by
 intro pins s σ H x y v u Q I rx ry h
 obtain ⟨i,j,rfl,rfl,q⟩:=h
 obtain ⟨t,rfl⟩:=rx
 obtain ⟨t',rfl⟩:=ry
 exact rule i j t t' s _ _ ⟨.int (g i j),H,I.tok _,⟨_,rfl⟩,q⟩
theorem qqX {f:Value->Value->Sem Value} {g:Int->Int->Bool}
  (rule: ∀(i j:Int) (t u:Tok) (s:Shared) (Q:Value->Shared->Prop) (E:Value->Shared->Prop),Q (.bool (g i j)) s->wpAny (model X.prog X.w) X.A (f (.int i t) (.int j u)) Q E s):
  OpR X f (rI0 λi j=>.bl (g i j)):=by
 intro pins s σ H x y v u Q I rx ry h
 obtain ⟨i,j,rfl,rfl,q⟩:=h
 obtain ⟨t,rfl⟩:=rx
 obtain ⟨t',rfl⟩:=ry
 exact rule i j t t' s _ _ ⟨.bl (g i j),H,I,rfl,q⟩
def qtf (i j:Int):Prop:=0<j/\j<1073741824
def qpV (i j:Int):Prop:=(-(2 ^ 64)<i/\i<2 ^ 64)\/(-(2 ^ 64)<j/\j<2 ^ 64)
theorem qpV.ok {i j:Int} (h:qpV i j):IntMulOk i j:=by
 rcases h with ⟨h1,h2⟩ | ⟨h1,h2⟩
 ·exact .of_left (intBits_le_64 h1 h2)
 ·exact .of_right (intBits_le_64 h1 h2)
theorem qf4:OpR X (binaryOp .Add) (rI0 λi j=>.int (i+j)):=qrX λ_ _ _ _ _ _ _ q=>add_int q
theorem qjo:OpR X (binaryOp .Sub) (rI0 λi j=>.int (i - j)):=qrX λ_ _ _ _ _ _ _ q=>sub_int q
theorem qeR:OpR X (binaryOp .Mult) (rI qpV λi j=>.int (i*j)):=opI λ_ _ _ _ _ _ _ hc q=>mul_int q hc.ok
theorem qm2:OpR X (binaryOp .FloorDiv) (rI qtf λi j=>.int (i / j)):=opI λi j _ _ _ _ _ hc q=>by
 have h1:(0:Int)<j:=hc.1
 have h2:j<1073741824:=hc.2
 exact floordiv_int (by omega) (by rw[Int.fdiv_eq_ediv_of_nonneg i (by omega)]; exact q) (.inl (PyProof.noPylong_small (by omega)))
theorem qef:OpR X (binaryOp .Mod) (rI (λ_ j=>0<j) λi j=>.int (i % j)):=opI λi j _ _ _ _ _ hc q=>by
 have h1:(0:Int)<j:=hc
 exact mod_int' (by omega) (by rw[Int.fmod_eq_emod_of_nonneg i (by omega)]; exact q)
theorem unI {f:Value->Sem Value} {g:Int->Int}
  (rule: ∀(i:Int) (t:Tok) (s:Shared) (Q:Value->Shared->Prop) (E:Value->Shared->Prop),Q (.int (g i) s.toks) { s with toks:=s.toks+1 }->wpAny (model X.prog X.w) X.A (f (.int i t)) Q E s):
  UnR X f (rU λi=>.int (g i)):=by
 intro pins s σ H x v Q I rx h
 obtain ⟨i,rfl,q⟩:=h
 obtain ⟨t,rfl⟩:=rx
 exact rule i t s _ _ ⟨.int (g i),H,I.tok _,⟨_,rfl⟩,q⟩
theorem qnY:UnR X (unaryOp .USub) (rU λi=>.int (-i)):=unI λ_ _ _ _ _ q=>neg_int q
end
def qss:V->V->Bool
 | .non,.non=>true | .non,.int _=>true | .int _,.non=>true | .non,.bl _=>true | .bl _,.non=>true | .non,.str _=>true | .str _,.non=>true
 | .int _,.int _=>true | .bl _,.bl _=>true | .str _,.str _=>true | .byt _,.byt _=>true
 | .int _,.str _=>true | .str _,.int _=>true | .bl _,.str _=>true | .str _,.bl _=>true
 | _,_=>false
def rNe:R2:=λx y H Q=>qss x y=true/\Q (.bl (!decide (x=y))) H
theorem qnx {i j:Int}:decide (V.int i=V.int j)=(i==j):=by
 rw[Bool.eq_iff_iff]
 simp
theorem qpq {i j:Bool}:decide (V.bl i=V.bl j)=(i==j):=by
 rw[Bool.eq_iff_iff]
 simp
theorem qnw {i j:Str}:decide (V.str i=V.str j)=(i==j):=by
 rw[Bool.eq_iff_iff]
 simp
theorem qny {i j:Array UInt8}:decide (V.byt i=V.byt j)=(i.toList==j.toList):=by
 rw[Bool.eq_iff_iff]
 cases i
 cases j
 simp
section
variable {X:Cx} {a b c:Expr} {ta tb tc:TE} {pos:Pos}
theorem qb2 {pins:List (Addr×Obj)} {σ:St} {H:Hp} {s:Shared} {Q:VK} {k k':Bool} (I:Inv X pins σ H s) (q:Q (.bl k) H) (e:k=k'):EP X pins σ Q (.bool k') s:=by
 subst e
 exact ⟨.bl k,H,I,rfl,q⟩
theorem qqU:OpR X (compareOp .NotEq) rNe:=by
 intro pins s σ H x y v u Q I rx ry h
 obtain ⟨hs,q⟩:=h
 cases x with
 | non=>
  cases rx
  cases y with
  | non=>cases ry; exact PySem.EqNone.ne_none_none (qb2 I q (by simp))
  | bl j=>cases ry; exact PySem.EqNone.ne_none_bool (qb2 I q (by simp))
  | int j=>obtain ⟨t',rfl⟩:=ry; exact PySem.EqNone.ne_none_int (qb2 I q (by simp))
  | str j=>obtain ⟨t',rfl⟩:=ry; exact PySem.EqNone.ne_none_str (qb2 I q (by simp))
  | _=>exact absurd (show false=true from hs) Bool.false_ne_true
 | bl i=>
  cases rx
  cases y with
  | non=>cases ry; exact PySem.EqNone.ne_bool_none (qb2 I q (by simp))
  | bl j=>cases ry; exact ne_bool (qb2 I q (congrArg not qpq))
  | str j=>obtain ⟨t',rfl⟩:=ry; exact PySem.EqMixed.ne_bool_str (qb2 I q (by simp))
  | _=>exact absurd (show false=true from hs) Bool.false_ne_true
 | int i=>
  obtain ⟨t,rfl⟩:=rx
  cases y with
  | non=>cases ry; exact PySem.EqNone.ne_int_none (qb2 I q (by simp))
  | int j=>obtain ⟨t',rfl⟩:=ry; exact ne_int (qb2 I q (congrArg not qnx))
  | str j=>obtain ⟨t',rfl⟩:=ry; exact PySem.EqMixed.ne_int_str (qb2 I q (by simp))
  | _=>exact absurd (show false=true from hs) Bool.false_ne_true
 | str i=>
  obtain ⟨t,rfl⟩:=rx
  cases y with
  | non=>cases ry; exact PySem.EqNone.ne_str_none (qb2 I q (by simp))
  | bl j=>cases ry; exact PySem.EqMixed.ne_str_bool (qb2 I q (by simp))
  | int j=>obtain ⟨t',rfl⟩:=ry; exact PySem.EqMixed.ne_str_int (qb2 I q (by simp))
  | str j=>obtain ⟨t',rfl⟩:=ry; exact ne_str (qb2 I q (congrArg not qnw))
  | _=>exact absurd (show false=true from hs) Bool.false_ne_true
 | byt i=>
  obtain ⟨t,rfl⟩:=rx
  cases y with
  | byt j=>obtain ⟨t',rfl⟩:=ry; exact PySem.W.ne_bytes (qb2 I q (congrArg not qny))
  | _=>exact absurd (show false=true from hs) Bool.false_ne_true
 | _=>cases y<;>exact absurd (show false=true from hs) Bool.false_ne_true
theorem qqV:OpR X (compareOp .Lt) (rI0 λi j=>.bl (decide (i<j))):=qqX λ_ _ _ _ _ _ _ q=>lt_int q
theorem qqW:OpR X (compareOp .LtE) (rI0 λi j=>.bl (decide (i<=j))):=qqX λ_ _ _ _ _ _ _ q=>le_int q
theorem qoN:OpR X (compareOp .Gt) (rI0 λi j=>.bl (decide (j<i))):=qqX λ_ _ _ _ _ _ _ q=>gt_int q
theorem OpR.or {f:Value->Value->Sem Value} {r r':R2} (h:OpR X f r) (h':OpR X f r'):OpR X f (λx y H Q=>r x y H Q\/r' x y H Q):=by
 intro pins s σ H x y v u Q I rx ry q
 rcases q with q | q
 ·exact h pins s σ H x y v u Q I rx ry q
 ·exact h' pins s σ H x y v u Q I rx ry q
theorem qjr (b:Expr) {op:CmpOp} (h:op≠.In:=by decide) (h2:op≠.NotIn:=by decide):behindInMarks op b=false:=by
 have e1:(op==CmpOp.In)=false:=by cases op<;>first | rfl | exact absurd rfl h
 have e2:(op==CmpOp.NotIn)=false:=by cases op<;>first | rfl | exact absurd rfl h2
 cases b<;>simp[behindInMarks,e1,e2]
theorem qmX {op:CmpOp} {r:R2} (ho:OpR X (compareOp op) r) (ha:PE X a ta) (hb:PE X b tb) (hm:behindInMarks op b=false):PE X (.Compare a [op] [b] pos) (tOp r ta tb):=by
 intro pins s σ H Q I h
 exact wpAny_Compare1 (qrG ha hb I h λv u s2 x y H2 I2 rx ry q=>ho pins s2 σ H2 x y v u Q I2 rx ry q) hm
def qn7 (t:TE):TT:=λσ H Q=>t σ H λx H'=> ∃k,x= .bl k/\Q k H'
theorem qea {op:CmpOp} {r:R2} (ho:OpR X (compareOp op) r) (ha:PE X a ta) (hb:PE X b tb) (hm:behindInMarks op b=false):PT X (.Compare a [op] [b] pos) (qn7 (tOp r ta tb)):=by
 intro pins s σ H Q I h
 refine wpAny_isTrue_Compare1 (thn (ha pins s σ H _ I h) λv s1 ⟨x,H1,I1,r1,q1⟩=>thn (hb pins s1 σ H1 _ I1 q1) λu s2 ⟨y,H2,I2,r2,q2⟩=>
  thn (ho pins s2 σ H2 x y v u _ I2 r1 r2 q2) λc s3 ⟨z,H3,I3,r3,k,e,q3⟩=> ?_) hm
 subst e
 cases r3
 exact wpAny_truthy_bool ⟨H3,I3,q3⟩
def qiO (r r':R2) (ta tb tc:TE):TE:=λσ H Q=>ta σ H λx H1=>tb σ H1 λy H2=>r x y H2 λz H3=> ∃k,z= .bl k/\
 (if k=true then tc σ H3 λw' H4=>r' y w' H4 Q else Q (.bl false) H3)
theorem qla {op op':CmpOp} {r r':R2} (ho:OpR X (compareOp op) r) (ho':OpR X (compareOp op') r') (ha:PE X a ta) (hb:PE X b tb) (hc:PE X c tc)
  (hm:lastMarks [op,op'] [b,c]=false:=by with_unfolding_all rfl):PE X (.Compare a [op,op'] [b,c] pos) (qiO r r' ta tb tc):=by
 intro pins s σ H Q I h
 refine Compare_chain (thn (ha pins s σ H _ I h) λv s1 ⟨x,H1,I1,r1,q1⟩=>chain_link (thn (hb pins s1 σ H1 _ I1 q1) λu s2 ⟨y,H2,I2,r2,q2⟩=>
  thn (ho pins s2 σ H2 x y v u _ I2 r1 r2 q2) λd s3 ⟨z,H3,I3,r3,k,e,q3⟩=> ?_)) hm
 subst e
 cases r3
 refine wpAny_truthy_bool ?_
 cases k with
 | false=>exact ite_ff ⟨.bl false,H3,I3,rfl,q3⟩
 | true=>exact ite_tt (chain_last (thn (hc pins s3 σ H3 _ I3 q3) λw' s4 ⟨z',H4,I4,r4,q4⟩=>ho' pins s4 σ H4 y z' u w' Q I4 r2 r4 q4))
theorem qk1 {op op':CmpOp} {r r':R2} (ho:OpR X (compareOp op) r) (ho':OpR X (compareOp op') r') (ha:PE X a ta) (hb:PE X b tb) (hc:PE X c tc)
  (hm:lastMarks [op,op'] [b,c]=false:=by with_unfolding_all rfl):PT X (.Compare a [op,op'] [b,c] pos) (qn7 (qiO r r' ta tb tc)):=by
 intro pins s σ H Q I h
 refine isTrue_chain (thn (ha pins s σ H _ I h) λv s1 ⟨x,H1,I1,r1,q1⟩=>test_link (thn (hb pins s1 σ H1 _ I1 q1) λu s2 ⟨y,H2,I2,r2,q2⟩=>
  thn (ho pins s2 σ H2 x y v u _ I2 r1 r2 q2) λd s3 ⟨z,H3,I3,r3,k,e,q3⟩=> ?_)) hm
 subst e
 cases r3
 refine wpAny_truthy_bool ?_
 cases k with
 | false=>
  obtain ⟨k',e',q'⟩:=q3
  cases e'
  exact ite_ff ⟨H3,I3,q'⟩
 | true=>
  refine ite_tt (test_last (thn (hc pins s3 σ H3 _ I3 q3) λw' s4 ⟨z',H4,I4,r4,q4⟩=>thn (ho' pins s4 σ H4 y z' u w' _ I4 r2 r4 q4) λd' s5 ⟨z2,H5,I5,r5,k2,e2,q5⟩=> ?_))
  subst e2
  cases r5
  exact wpAny_truthy_bool ⟨H5,I5,q5⟩
def qta (K:PySem.W.Frag) (x:V) (H:Hp) (k:Bool):Prop:=
 match x with
 | .non=>k=false
 | .bl b=>k=b
 | .int i=>k=(i != 0)
 | .str y=>y.length<=sizeLine/\k=((y.length:Int) != 0)
 | .byt y=>y.size<=sizeLine/\k=((y.size:Int) != 0)
 | .ref p=>(∃xs,SqL K H p xs/\k= !xs.isEmpty)\/(∃xs,SqT K H p xs/\k= !xs.isEmpty)\/∃kvs,H p=some (.dK kvs)/\k= !kvs.isEmpty
 | _=>False
theorem qis {κ:Type} {kvs:List (κ×V)} {vs:List (κ×Value)} (r:KV kvs vs):(!vs.isEmpty)= !kvs.isEmpty:=by
 cases r<;>rfl
theorem qeU {xs:List V} {its:List Value} (r:Vals xs its):(!its.toArray.isEmpty)= !xs.isEmpty:=by
 cases r<;>simp
theorem qdm:(sizeLine:Nat)<2 ^ 63:=by rw[sizeLine_eq]; decide
theorem qrN:qtb X (λx H Q=> ∃k,qta X.K x H k/\Q k H):=by
 intro pins s σ H x v Q I rx h
 obtain ⟨k,e,q⟩:=h
 have hl:=qdm
 have hs:sizeLine=16777216:=sizeLine_eq
 cases x with
 | non=>
  cases rx
  have e':k=false:=e
  subst e'
  exact truthy_none ⟨H,I,q⟩
 | bl b=>
  cases rx
  have e':k=b:=e
  subst e'
  exact wpAny_truthy_bool ⟨H,I,q⟩
 | int i=>
  obtain ⟨t,rfl⟩:=rx
  have e':k=(i != 0):=e
  subst e'
  exact PySem.P.truthy_int ⟨H,I,q⟩
 | str y=>
  obtain ⟨t,rfl⟩:=rx
  obtain ⟨hy,e'⟩:y.length<=sizeLine/\k=((y.length:Int) != 0):=e
  subst e'
  exact PySem.P.truthy_str (by omega) ⟨H,I.tok _,q⟩
 | byt y=>
  obtain ⟨t,rfl⟩:=rx
  obtain ⟨hy,e'⟩:y.size<=sizeLine/\k=((y.size:Int) != 0):=e
  subst e'
  exact PySem.W.truthy_bytes (by omega) ⟨H,I.tok _,q⟩
 | ref p=>
  cases rx
  have e':(∃xs,SqL X.K H p xs/\k= !xs.isEmpty)\/(∃xs,SqT X.K H p xs/\k= !xs.isEmpty)\/∃kvs,H p=some (.dK kvs)/\k= !kvs.isEmpty:=e
  rcases e' with ⟨xs,hx,e'⟩ | ⟨xs,hx,e'⟩ | ⟨kvs,hx,e'⟩
  ·subst e'
   obtain ⟨its,r,pl,hz⟩:=I.list hx
   have hlen:=r.length
   exact wpAny_truthy_list pl.isList (by simp only[List.size_toArray]; omega) ⟨H,I.tok _,by rw[qeU r]; exact q⟩
  ·subst e'
   obtain ⟨its,r,pl,hz⟩:=I.tuple hx
   have hlen:=r.length
   exact truthy_tuple pl (by simp only[List.size_toArray]; omega) ⟨H,I.tok _,by rw[qeU r]; exact q⟩
  ·subst e'
   obtain ⟨hz,hS,vs,r,m⟩:kvs.length<=sizeLine/\(p==sysModules)=false/\∃vs,KV kvs vs/\s.heap.DictOf (qaI X.prog X.w) p vs:=I.hok p _ hx
   have hlen:kvs.length=vs.length:=Paired.length r
   exact wpAny_truthy_dict hS m (by omega) ⟨H,I.tok _,by rw[qis r]; exact q⟩
 | _=>exact (show False from e).elim
theorem qim:OpR X (binaryOp .Add) (λx y H Q=> ∃i j,x= .str i/\y= .str j/\i.length+j.length<=sizeLine/\Q (.str (i++j)) H):=by
 intro pins s σ H x y v u Q I rx ry h
 obtain ⟨i,j,rfl,rfl,hz,q⟩:=h
 obtain ⟨t,rfl⟩:=rx
 obtain ⟨t',rfl⟩:=ry
 exact add_str (λt' tk=>⟨.str (i++j),H,I.tok _,⟨_,rfl⟩,q⟩) hz
theorem qdP {x:V} {us:List Value} (r:Vals [x] us): ∃u,us=[u]/\RelV x u:=by
 cases r with
 | cons r1 r2=>cases r2; exact ⟨_,rfl,r1⟩
theorem qmx {x y:V} {us:List Value} (r:Vals [x,y] us): ∃u w',us=[u,w']/\RelV x u/\RelV y w':=by
 cases r with
 | cons r1 r2=>
  cases r2 with
  | cons r3 r4=>cases r4; exact ⟨_,_,rfl,r1,r3⟩
def qtd (K:PySem.W.Frag) (x:V) (H:Hp) (n:Nat):Prop:=
 match x with
 | .str y=>y.length<=sizeLine/\n=y.length
 | .byt y=>y.size<=sizeLine/\n=y.size
 | .ref p=>(∃xs,SqL K H p xs/\n=xs.length)\/∃xs,SqT K H p xs/\n=xs.length
 | _=>False
theorem qh4:qev X (.builtin "len") (λxs H Q=> ∃x n,xs=[x]/\qtd X.K x H n/\Q (.int n) H):=by
 intro pins s σ H xs us Q I r h
 obtain ⟨x,n,rfl,e,q⟩:=h
 obtain ⟨u,rfl,rx⟩:=qdP r
 have hl:=qdm
 have hs:sizeLine=16777216:=sizeLine_eq
 cases x with
 | str y=>
  obtain ⟨t,rfl⟩:=rx
  obtain ⟨hy,e'⟩:y.length<=sizeLine/\n=y.length:=e
  subst e'
  exact len_str (by omega) ⟨.int _,H,I.tok _,⟨_,rfl⟩,q⟩
 | byt y=>
  obtain ⟨t,rfl⟩:=rx
  obtain ⟨hy,e'⟩:y.size<=sizeLine/\n=y.size:=e
  subst e'
  exact PySem.W.len_bytes (by omega) ⟨.int _,H,I.tok _,⟨_,rfl⟩,q⟩
 | ref p=>
  cases rx
  have e':(∃xs,SqL X.K H p xs/\n=xs.length)\/∃xs,SqT X.K H p xs/\n=xs.length:=e
  rcases e' with ⟨xs,hx,e'⟩ | ⟨xs,hx,e'⟩
  ·subst e'
   obtain ⟨its,r',pl,hz⟩:=I.list hx
   have hlen:=r'.length
   exact Calls.call_len_list pl.isList (by simp only[List.size_toArray]; omega) ⟨.int xs.length,H,I.tok _,⟨_,by simp only[List.size_toArray]; rw[hlen]⟩,q⟩
  ·subst e'
   obtain ⟨its,r',pl,hz⟩:=I.tuple hx
   have hlen:=r'.length
   exact len_tuple pl (by simp only[List.size_toArray]; omega) ⟨.int xs.length,H,I.tok _,⟨_,by simp only[List.size_toArray]; rw[hlen]⟩,q⟩
 | _=>exact (show False from e).elim
end
end L2
namespace L2
open PySem PySem.Spec PyProof.Rows
structure qrK (h:Heap) (x dx C:Addr) (mA:Str->Option Value):Prop where
 obj:h.get? x=some (PySem.W.instObj C dx)
 ns:h.Ns1 dx mA
 ne:dx≠x
theorem qjB {h:Heap} {dx:Addr} {mA:Str->Option Value} (n:h.Ns1 dx mA): ∃od,h.get? dx=some od/\∀name,PySem.W.lookIn name od=some (mA name):=by
 obtain ⟨o,es,ep,ho,hd,hk,_,hm⟩:=n
 refine ⟨o,ho,λname=> ?_⟩
 have e:=hm name
 unfold nsFind findBy at e
 rw[<-Array.find?_toList] at e
 unfold PySem.W.lookIn
 rw[hd]
 dsimp only
 split
 ·rename_i y q
  rw[q] at e
  exact congrArg some e
 ·rename_i q
  rw[q] at e
  have a:es.toList.any (·.refKey)=false:=by
   rw[List.any_eq_false]
   intro y hy
   obtain ⟨z,t,hkey⟩:=hk y (Array.mem_toList_iff.mp hy)
   simp[DictEntry.refKey,hkey]
  have a': ¬es.toList.any (·.refKey)=true:=by rw[a]; exact Bool.false_ne_true
  rw[if_neg a']
  exact congrArg some e
theorem qrK.look {h:Heap} {x dx C:Addr} {mA:Str->Option Value} (I:qrK h x dx C mA): ∃od,PySem.W.InstAt h x (PySem.W.instObj C dx) C (some od)/\∀name,PySem.W.lookIn name od=some (mA name):=
 let ⟨od,ho,hl⟩:=qjB I.ns
 ⟨od,⟨I.obj,rfl,rfl,ho⟩,hl⟩
section
variable {P:Program} {w:World} {H H':Hp} {h h':Heap} {a C dx:Addr} {fs fs':List (Str×V)}
theorem qni (hok:HOk P w H h) (e:H a=some (.ins C dx fs)): ∃mA,qrK h a dx C mA/\(∀f,qlN (fs.lookup f) (mA f))/\PySem.Within mA (fs.map (·.1))/\fs.length<=1000/\H dx=some (.own a):=by
 obtain ⟨d,z,ne,ob,mA,n,r,q⟩:=(show qbu P w H h a (.ins C dx fs) from hok a _ e)
 exact ⟨mA,⟨ob,n,ne⟩,r,q,z,d⟩
end
structure Cls (K:PySem.W.Frag) (C:Addr):Prop where
 pg:PySem.W.plainGet K C Str.empty=true
 hd:PySem.W.hasDictIn K C=true
 po:PySem.W.plainOver K C=true
 sa:PySem.W.findIn K (.ref C) "__setattr__" =some (some (.builtin "object.__setattr__"))
theorem Cls.get {K:PySem.W.Frag} {C:Addr} (c:Cls K C) (f:Str):PySem.W.plainGet K C f=true:=c.pg
structure Con (K:PySem.W.Frag) (C:Addr) (f:Str) (v:V) (u:Value):Prop where
 at_:PySem.W.findIn K (.ref C) f=some (some u)
 rel:RelV v u
 get:PySem.W.specialIn K u "__get__" =some none
 cp:PySem.W.copiedNames.contains f=false
structure qtg (K:PySem.W.Frag) (C:Addr) (m:Str) (f:Addr):Prop where
 at_:PySem.W.findIn K (.ref C) m=some (some (.ref f))
 fn:PySem.W.isFn K (.ref f)=true
 kp:PySem.W.keepIn K (.ref f)=true
section
variable {X:Cx} {pins:List (Addr×Obj)} {σ:St} {H:Hp} {s:Shared} {A:Around} {E:Value->Shared->Prop} {Q:Value->Shared->Prop} {c:Value} {b:Bool}
inductive qiE (K:PySem.W.Frag) (H:Hp):V->Value->Prop where
 | non:qiE K H .non (.type "NoneType")
 | bl (x:Bool):qiE K H (.bl x) (.type "bool")
 | int (i:Int):qiE K H (.int i) (.type "int")
 | str (x:Str):qiE K H (.str x) (.type "str")
 | flt (x:UInt64):qiE K H (.flt x) (.type "float")
 | lst {a:Addr} {xs:List V} (e:H a=some (.lst xs)):qiE K H (.ref a) (.type "list")
 | frz {a:Addr} {o:Obj} {xs:List V} (e:H a=some (.frz o (.lst xs))):qiE K H (.ref a) (.type "list")
 | tup {a:Addr} {xs:List V} (e:H a=some (.tup xs)):qiE K H (.ref a) (.type "tuple")
 | dK {a:Addr} {kvs:List (Key×V)} (e:H a=some (.dK kvs)):qiE K H (.ref a) (.type "dict")
 | dT {a:Addr} {kvs:List (List Key×V)} (e:H a=some (.dT kvs)):qiE K H (.ref a) (.type "dict")
 | ins {a C dx:Addr} {fs:List (Str×V)} (e:H a=some (.ins C dx fs)) (cl:Cls K C) (ha:PySem.W.findIn K (.ref C) "__class__" =some (some (.builtin "object.__class__")))
   (hn:PySem.W.specialIn K (.builtin "object.__class__") "__get__" =some (some (.builtin "getset_descriptor.__get__"))) (htk:PySem.W.takesIn K (.builtin "object.__class__")=some true)
   (hm:PySem.W.mroIn K C (.type "object")=some true):qiE K H (.ref a) (.ref C)
theorem qjO {x:V} {u t:Value} (I:Inv X pins σ H s) (rx:RelV x u) (ty:qiE X.K H x t) (e:PySem.W.kitOne X.K t c=some b) (h: ∀tk,Q (.bool b) { s with toks:=tk }):
  wpAny (model X.prog X.w) A (call (.builtin "isinstance") [u,c]) Q E s:=by
 cases ty with
 | non=>cases (show u=Value.none from rx); exact PySem.W.kia_one PySem.W.kitx_none I.kIn True.intro e (λz=>nomatch z) h
 | bl y=>cases (show u=Value.bool y from rx); exact PySem.W.kia_one PySem.W.kitx_bool I.kIn True.intro e (λz=>nomatch z) h
 | int i=>obtain ⟨t,q⟩:=(show ∃t,u=Value.int i t from rx); cases q; exact PySem.W.kia_one PySem.W.kitx_int I.kIn True.intro e (λz=>nomatch z) h
 | str y=>obtain ⟨t,q⟩:=(show ∃t,u=Value.str y t from rx); cases q; exact PySem.W.kia_one PySem.W.kitx_str I.kIn True.intro e (λz=>nomatch z) h
 | flt y=>obtain ⟨t,q⟩:=(show ∃t,u=Value.float y t from rx); cases q; exact PySem.W.kia_one PySem.W.kitx_float I.kIn True.intro e (λz=>nomatch z) h
 | @lst a xs ea=>
  cases (show u=Value.ref a from rx)
  obtain ⟨_,_,n,_,h1⟩:=(show qbu X.prog X.w H s.heap a (.lst xs) from I.hok a _ ea)
  exact PySem.W.kia_one PySem.W.kitx_list I.kIn ⟨_,h1,rfl⟩ e (λz=>nomatch z) h
 | @frz a ob xs ea=>
  cases (show u=Value.ref a from rx)
  obtain ⟨_,_,_,n,_,h1⟩:=(show qbu X.prog X.w H s.heap a (.frz ob (.lst xs)) from I.hok a _ ea)
  exact PySem.W.kia_one PySem.W.kitx_list I.kIn ⟨_,h1,rfl⟩ e (λz=>nomatch z) h
 | @tup a xs ea=>
  cases (show u=Value.ref a from rx)
  obtain ⟨_,_,_,p⟩:=(show qbu X.prog X.w H s.heap a (.tup xs) from I.hok a _ ea)
  obtain ⟨o,h1,h2,_⟩:=p
  exact PySem.W.kia_one PySem.W.kitx_tuple I.kIn ⟨o,h1,h2⟩ e (λz=>nomatch z) h
 | @dK a kvs ea=>
  cases (show u=Value.ref a from rx)
  obtain ⟨_,_,vs,_,p⟩:=(show qbu X.prog X.w H s.heap a (.dK kvs) from I.hok a _ ea)
  obtain ⟨o,es,ep,h1,h2,_⟩:=p
  exact PySem.W.kia_one PySem.W.kitx_dict I.kIn ⟨o,h1,h2.1⟩ e (λz=>nomatch z) h
 | @dT a kvs ea=>
  cases (show u=Value.ref a from rx)
  obtain ⟨_,_,xs,_,o,es,ep,h1,h2,_⟩:=(show qbu X.prog X.w H s.heap a (.dT kvs) from I.hok a _ ea)
  exact PySem.W.kia_one PySem.W.kitx_dict I.kIn ⟨o,h1,h2.1⟩ e (λz=>nomatch z) h
 | @ins a C dx fs ea cl ha hn htk hm=>
  cases (show u=Value.ref a from rx)
  obtain ⟨mA,O,_⟩:=qni I.hok ea
  obtain ⟨od,J,_⟩:=O.look
  exact PySem.W.kia_one (PySem.W.kitx_own (cl.get _) cl.hd ha hn htk hm) I.kIn J e (λz=>nomatch z) h
end
end L2
namespace L2
open PySem PySem.Spec PyProof.Rows
structure qcu (k:Nat) (A:Around):Prop where
 hd:A.handled=none
 dp:A.depth+3*k+5<recursionLimit
 un:A.units+16*k+200<cLine
theorem qcu.mono {j k:Nat} {A:Around} (r:qcu k A) (h:j<=k):qcu j A:=⟨r.hd,by have:=r.dp; omega,by have:=r.un; omega⟩
theorem qcu.deeper {k:Nat} {A:Around} (r:qcu (k+1) A) (env:Env):qcu k (A.deeper env):=
 ⟨r.hd,by have:=r.dp; show A.depth+1+3*k+5<_; omega,by have:=r.un; show A.units+3+16*k+200<_; omega⟩
theorem qcu.in1 {k:Nat} {A:Around} (r:qcu (k+1) A):qcu k A.in1:=
 ⟨r.hd,by have:=r.dp; show A.depth+3*k+5<_; omega,by have:=r.un; show A.units+1+16*k+200<_; omega⟩
theorem qcu.depth {k:Nat} {A:Around} (r:qcu k A):A.depth<recursionLimit:=by have:=r.dp; omega
theorem qcu.units {k:Nat} {A:Around} (r:qcu k A):A.units+64<cLine:=by have:=r.un; omega
theorem qcu.units0 {k:Nat} {A:Around} (r:qcu k A):A.units<cLine:=by have:=r.un; omega
def qhq:TA:=λ_ H Q=>Q [] H
def qc8 (ta:TE) (tr:TA):TA:=λσ H Q=>ta σ H λx H1=>tr σ H1 λxs H2=>Q (x::xs) H2
section
variable {X:Cx} {e:Expr} {es:List Expr} {te:TE} {t:TA} {pos:Pos}
theorem qar:PA X [] qhq:=λ_ _ _ _ H Q I h=>Calls.spliced_nil ⟨[],H,I,.nil,h⟩
theorem qag (ha:PE X e te) (hr:PA X es t) (hs:starEach (e::es) X.env=(false,eval e X.env)::starEach es X.env:=by rfl):PA X (e::es) (qc8 te t):=by
 intro pos pins s σ H Q I h
 rw[hs]
 show wpAny _ _ (spliced ((false,eval e X.env)::backTo pos (starEach es X.env))) _ _ s
 refine Calls.spliced_cons (thn (ha pins s σ H _ I h) λu s1 ⟨x,H1,I1,r1,q1⟩=> ?_)
 exact thn (hr pos pins s1 σ H1 _ I1 q1) λus s2 ⟨xs,H2,I2,r2,q2⟩=>⟨x::xs,H2,I2,.cons r1 r2,q2⟩
def qsk (t:TA):TE:=λσ H Q=>t σ H λxs H1=>xs.length<=sizeLine/\∀p,H1 p=none->Q (.ref p) (upd H1 p (.tup xs))
def qso (t:TA):TE:=λσ H Q=>t σ H λxs H1=>xs.length<=sizeLine/\∀p,H1 p=none->Q (.ref p) (upd H1 p (.lst xs))
theorem qoG {x1} (h:PA X es t):PE X (.Tuple es x1 pos) (qsk t):=by
 intro pins s σ H Q I hq
 refine wpAny_Tuple_spliced (thn (h pos pins s σ H _ I hq) λus s1 ⟨xs,H1,I1,r,z,q⟩=>⟨by rw[<-r.length]; exact z,?_⟩)
 have hf:H1 s1.heap.objs.size=none:=I1.hok.fresh (Nat.le_refl _)
 refine ⟨.ref s1.heap.objs.size,upd H1 s1.heap.objs.size (.tup xs),I1.laid (t':=s1.toks) (λb u e=>Heap.get?_push_of_some _ e) (Nat.le_refl _) ?_,rfl,q _ hf⟩
 exact ⟨z,us,r,⟨_,Heap.get?_push_size _ rfl,rfl,_,rfl⟩⟩
theorem qeP (h:PA X es t):PE X (.List es pos) (qso t):=by
 intro pins s σ H Q I hq
 refine wpAny_List_spliced (thn (h pos pins s σ H _ I hq) λus s1 ⟨xs,H1,I1,r,z,q⟩=>⟨by rw[<-r.length]; exact z,?_⟩)
 have hf:H1 s1.heap.objs.size=none:=I1.hok.fresh (Nat.le_refl _)
 refine ⟨.ref s1.heap.objs.size,upd H1 s1.heap.objs.size (.lst xs),I1.laid (t':=s1.toks) (λb u e=>Heap.get?_push_of_some _ e) (Nat.le_refl _) ?_,rfl,q _ hf⟩
 exact ⟨z,us,0,r,Heap.get?_push_size _ rfl⟩
end
abbrev Sp:=List V->Hp->VK->XK->Prop
abbrev CXT:=List Env->Hp->Shared->XK->Value->Shared->Prop
structure qmu (P:Program) (w:World) (K:PySem.W.Frag) (mg:Str->Option Value) (base:Heap) (A:Around) (outer:List Env) (s:Shared) (H:Hp):Prop where
 frames:A.frames=some outer
 mod:Mod K mg base
 bs: ∀b o,base.get? b=some o->s.heap.get? b=some o/\H b=none
 bsz:base.objs.size<=s.heap.objs.size
 funs:s.heap.FunFrames base outer
 frf: ∀b∈frs outer,H b=none
 hok:HOk P w H s.heap
 bare:AllBare s.gens
def CE (outer:List Env) (P:Program) (w:World) (H:Hp) (s:Shared) (Q:VK) (u:Value) (s':Shared):Prop:=
 ∃v H',s'.os=s.os/\AllBare s'.gens/\Un (frs outer) [] H H' s.heap s'.heap/\HOk P w H' s'.heap/\RelV v u/\Q v H'
def CR (CX:CXT) (outer:List Env) (P:Program) (w:World) (H:Hp) (s:Shared) (Q:VK) (E:XK) (r:Result) (s':Shared):Prop:=
 match r with
 | .ok (.ret u)=>CE outer P w H s Q u s'
 | .ok _=>False
 | .error e=>CX outer H s E e s'
structure qbI (P:Program) (w:World) (K:PySem.W.Frag) (mg:Str->Option Value) (base:Heap) (CX:CXT) (k:Nat) (f:Addr) (fd:FuncData) (ps:List Str) (sp:Sp):Prop where
 len: ∀vs H Q E,sp vs H Q E->vs.length=ps.length
 run: ∀(A:Around) (outer:List Env) (s:Shared) (H:Hp) (args:Args) (us:List Value) (vs:List V) (Q:VK) (E:XK),qcu k A->qmu P w K mg base A outer s H->BindsTo s fd args (ps.zip us)->Vals vs us->sp vs H Q E->
  codeAny (model P w) A (.call (.ref f) args) (CR CX outer P w H s Q E) s
theorem qbI.imp {P:Program} {w:World} {K:PySem.W.Frag} {mg:Str->Option Value} {base:Heap} {CX:CXT} {k:Nat} {f:Addr} {fd:FuncData} {ps:List Str} {sp sp':Sp} (F:qbI P w K mg base CX k f fd ps sp)
  (h: ∀vs H Q E,sp' vs H Q E->sp vs H Q E):qbI P w K mg base CX k f fd ps sp':=
 ⟨λvs H Q E q=>F.len vs H Q E (h _ _ _ _ q),λA outer s H args us vs Q E hr he hb hv hs=>F.run A outer s H args us vs Q E hr he hb hv (h _ _ _ _ hs)⟩
section
variable {X:Cx} {pins:List (Addr×Obj)} {σ:St} {H:Hp} {s s':Shared}
theorem Inv.env0 (I:Inv X pins σ H s):qmu X.prog X.w X.K X.mg X.base X.A X.stack s H:=
 ⟨I.ok.frames,I.ok.mod,I.bs,Nat.le_trans I.ok.bsz I.sz,I.stack,I.stkFree,I.hok,I.bare⟩
theorem Inv.after {Q:VK} {u:Value} (I:Inv X pins σ H s) (h:CE X.stack X.prog X.w H s Q u s'):EP X pins σ Q u s':=by
 obtain ⟨v,H',os,bare,un,hok,r,q⟩:=h
 obtain ⟨hh,g,d,t,os'⟩:=s'
 obtain rfl:os'=s.os:=os
 exact ⟨v,H',I.call (h':=hh) (g':=g) (d':=d) (t':=t) (ch:=[]) un hok bare (λb z=>absurd z (by simp)),r,q⟩
end
def qob (sp:Sp) (dvs:List V) (E:XK) (t:TA):TE:=λσ H Q=>t σ H λvs H1=>sp (vs++dvs) H1 Q E
def qc0 (K:PySem.W.Frag) (fd:FuncData) (ps:List Str) (ds:List Value):Prop:=
 ∀(s:Shared) (us:List Value),K.In s.heap->(us++ds).length=ps.length->BindsTo s fd ⟨us,[]⟩ (ps.zip (us++ds))
theorem qc0.all {K:PySem.W.Frag} {fd:FuncData} {ps:List Str} (h: ∀us:List Value,us.length=ps.length->bindArgs fd ⟨us,[]⟩=pure (ps.zip us)):qc0 K fd ps []:=λs us _ hl=>by
 rw[List.append_nil] at hl⊢
 exact .of_eq (h us hl)
def qc7 (CX:CXT) (X:Cx) (E:XK):Prop:= ∀(pins:List (Addr×Obj)) (σ:St) (H:Hp) (s:Shared) (e:Value) (s':Shared),Inv X pins σ H s->CX X.stack H s E e s'->X.xe e s'
section
variable {X:Cx} {CX:CXT} {k:Nat} {f C:Addr} {fd:FuncData} {ps:List Str} {sp:Sp} {dvs:List V} {ds:List Value} {E:XK} {x m:Str} {p pos apos:Pos} {e o:Expr} {es:List Expr} {ta:TE} {t:TA}
theorem qom {pins:List (Addr×Obj)} {σ:St} {H:Hp} {s:Shared} {Q:VK} {us:List Value} {vs:List V} (F:qbI X.prog X.w X.K X.mg X.base CX k f fd ps sp) (hr:qcu k X.A) (hb:qc0 X.K fd ps ds) (hd:Vals dvs ds) (hx:qc7 CX X E)
  (I:Inv X pins σ H s) (r:Vals vs us) (h:sp (vs++dvs) H Q E):wpAny (model X.prog X.w) X.A (call (.ref f) us) (EP X pins σ Q) X.xe s:=by
 have r2:Vals (vs++dvs) (us++ds):=r.append hd
 have hl:(us++ds).length=ps.length:=by rw[<-r2.length]; exact F.len _ _ _ _ h
 refine wpAny_call (codeAny_mono (F.run X.A X.stack s H ⟨us,[]⟩ (us++ds) (vs++dvs) Q E hr I.env0 (hb s us I.kIn hl) r2 h) λr s' hq=> ?_)
 cases r with
 | error e=>exact hx pins σ H s e s' I hq
 | ok fl=>
  cases fl with
  | ret u=>exact I.after hq
  | next=>exact False.elim hq
  | brk=>exact False.elim hq
  | cont=>exact False.elim hq
theorem qjm (F:qbI X.prog X.w X.K X.mg X.base CX k f fd ps sp) (hr:qcu k X.A) (hg:Gl X x) (hm:X.mg x=some (.ref f)) (hk:PySem.W.keepIn X.K (.ref f)=true) (hb:qc0 X.K fd ps ds) (hd:Vals dvs ds) (hx:qc7 CX X E)
  (ha:PA X (e::es) t) (hdb:(x==("__debug__" :Str))=false:=by decide) (he:starEach (e::es) X.env=(false,eval e X.env)::starEach es X.env:=by rfl) (hpl:(backTo pos (starEach es X.env)).any (·.1)=false:=by rfl):
  PE X (.Call (.Name x p) (e::es) [] pos) (qob sp dvs E t):=by
 intro pins s σ H Q I h
 refine wpAny_Call_Name_kw (qda I hg hm ?_ hdb)
 refine PySem.W.callWith_K (h₀:=X.base) I.ok.mod.kin hk (thn (ha pos pins s σ H _ I h) λus s1 ⟨vs,H1,I1,r,q⟩=>⟨I1.kIn,?_⟩) he hpl
 exact qom F hr hb hd hx I1 r q
structure Mk (K:PySem.W.Frag) (C f:Addr):Prop where
 makes:PySem.W.makesIn K C=true
 init:PySem.W.findIn K (.ref C) "__init__" =some (some (.ref f))
 fn:PySem.W.isFn K (.ref f)=true
 kp:PySem.W.keepIn K (.ref C)=true
end
section
variable {X:Cx} {CX:CXT} {k:Nat} {f C:Addr} {fd:FuncData} {ps ks:List Str} {sp:Sp} {E:XK} {x m:Str} {p pos apos kpos:Pos} {e o:Expr} {es:List Expr} {kws:List Keyword} {te ta:TE} {t tk:TA} {nm:Option Str}
structure qsc (K:PySem.W.Frag) (fd:FuncData) (ps ks:List Str) (g:List Value->List Value->List Value) (gV:List V->List V->List V):Prop where
 to: ∀(s:Shared) (us ws:List Value),K.In s.heap->(g us ws).length=ps.length->BindsTo s fd ⟨us,ks.zip ws⟩ (ps.zip (g us ws))
 rel: ∀{vs:List V} {us:List Value} {zs:List V} {ws:List Value},Vals vs us->Vals zs ws->Vals (gV vs zs) (g us ws)
variable {g:List Value->List Value->List Value} {gV:List V->List V->List V}
end
structure qas (N P:List Str) (sc:Scope):Prop where
 kind:sc.kind= .function
 co:sc.isCoroutine=false
 gen:sc.isGenerator=false
 nd:N.Nodup
 pre:N.take P.length=P
 par: ∀x∈P,sc.names.lookup x=some .local\/sc.names.lookup x=some .cell
 nofree: ∀y∈sc.names,y.2≠.free
theorem qgw {kindOf:Str->Option NameKind} {x:Str}: ∀{binds:List (Str×Value)} {m:Str->Option Value},(∀v,(x,v)∉binds)->bindL kindOf binds m x=m x
 | [],_,_=>rfl
 | (n,v)::r,m,h=>by
  unfold bindL
  rw[qgw λw hw=>h w (List.mem_cons_of_mem _ hw)]
  split
  ·have:x≠n:=by rintro rfl; exact h v List.mem_cons_self
   simp[this]
  ·rfl
theorem qgy {kindOf:Str->Option NameKind} {x:Str}: ∀{binds:List (Str×Value)} {m:Str->Option Value},(∀v,(x,v)∉binds)->bindC kindOf binds m x=m x
 | [],_,_=>rfl
 | (n,v)::r,m,h=>by
  unfold bindC
  rw[qgy λw hw=>h w (List.mem_cons_of_mem _ hw)]
  split
  ·rfl
  ·have:x≠n:=by rintro rfl; exact h v List.mem_cons_self
   simp[this]
theorem qgx {kindOf:Str->Option NameKind} {x:Str} {v:Value}: ∀{P:List Str} {vs:List Value} {i:Nat} {m:Str->Option Value},P.Nodup->P[i]? =some x->vs[i]? =some v->kindOf x=some .local->
  bindL kindOf (P.zip vs) m x=some v
 | [],_,_,_,_,h,_,_=>by simp at h
 | _::_,[],_,_,_,_,h,_=>by simp at h
 | p::P,w::vs,0,m,nd,h1,h2,hk=>by
  simp at h1 h2; subst h1; subst h2
  show bindL kindOf ((p,w)::P.zip vs) m p=_
  unfold bindL
  rw[qgw λv hv=>(List.nodup_cons.mp nd).1 (List.of_mem_zip hv).1,if_pos hk]
  simp
 | p::P,w::vs,i+1,m,nd,h1,h2,hk=>by
  show bindL kindOf ((p,w)::P.zip vs) m x=_
  unfold bindL
  exact qgx (i:=i) (List.nodup_cons.mp nd).2 (by simpa using h1) (by simpa using h2) hk
theorem qgz {kindOf:Str->Option NameKind} {x:Str} {v:Value}: ∀{P:List Str} {vs:List Value} {i:Nat} {m:Str->Option Value},P.Nodup->P[i]? =some x->vs[i]? =some v->kindOf x≠some .local->
  bindC kindOf (P.zip vs) m x=some v
 | [],_,_,_,_,h,_,_=>by simp at h
 | _::_,[],_,_,_,_,h,_=>by simp at h
 | p::P,w::vs,0,m,nd,h1,h2,hk=>by
  simp at h1 h2; subst h1; subst h2
  show bindC kindOf ((p,w)::P.zip vs) m p=_
  unfold bindC
  rw[qgy λv hv=>(List.nodup_cons.mp nd).1 (List.of_mem_zip hv).1,if_neg hk]
  simp
 | p::P,w::vs,i+1,m,nd,h1,h2,hk=>by
  show bindC kindOf ((p,w)::P.zip vs) m x=_
  unfold bindC
  exact qgz (i:=i) (List.nodup_cons.mp nd).2 (by simpa using h1) (by simpa using h2) hk
def start (N:List Str) (vs:List V):St:=vs.map some++List.replicate (N.length - vs.length) none
def qcZ (CX:CXT) (P:Program) (w:World) (K:PySem.W.Frag) (mg:Str->Option Value) (base:Heap) (N:List Str) (qual:Str) (scope:Scope) (f:Addr) (cd:Value) (A:Around) (outer:List Env) (s:Shared) (H:Hp) (E:XK):Cx where
 prog:=P
 w:=w
 K:=K
 mg:=mg
 base:=base
 A:=A.deeper (envOfC qual scope s.heap.objs.size f cd)
 N:=N
 s₀:=s
 H₀:=H
 env:=envOfC qual scope s.heap.objs.size f cd
 outer:=outer
 stack:=envOfC qual scope s.heap.objs.size f cd::outer
 ex:=[]
 calm:=true
 fn:=λ_=>true
 pn:=[]
 xe:=λe s'=>wpAny (model P w) (A.deeper (envOfC qual scope s.heap.objs.size f cd)) (leaving (envOfC qual scope s.heap.objs.size f cd) e) (λ_ s''=>CX outer H s E e s'') (λe' s''=>CX outer H s E e' s'') s'
theorem qh3 {sc:Scope} {n:Nat} {x:Str} (h:sc.names.lookup x=some .cell): ∃c,(cellsFrom n sc.names []).lookup x=some c:=by
 have q:=PySem.W.cellsFrom_some sc.names n [] (.inl h)
 exact Option.isSome_iff_exists.mp q
theorem qek {CX:CXT} {P:Program} {w:World} {K:PySem.W.Frag} {mg:Str->Option Value} {base:Heap} {N ps:List Str} {qual:Str} {scope:Scope} {f:Addr} {cd:Value} {A:Around} {outer:List Env} {s s1:Shared} {H:Hp} {E:XK} {us:List Value} {vs:List V}
  (S:qas N ps scope) (hd:A.handled=none) (e0:qmu P w K mg base A outer s H) (hl:vs.length=ps.length) (r:Vals vs us)
  (x:InCallC s s.heap.objs.size (bindL (envOfC qual scope s.heap.objs.size f cd).kindOf (ps.zip us) λ_=>none) (cellsFrom (s.heap.objs.size+1) scope.names []) (bindC (envOfC qual scope s.heap.objs.size f cd).kindOf (ps.zip us) λ_=>none) s1):
  Inv (qcZ CX P w K mg base N qual scope f cd A outer s H E) [] (start N vs) H s1:=by
 have hpl:ps.length<=N.length:=by have:=congrArg List.length S.pre; rw[List.length_take] at this; omega
 obtain ⟨h1,tk,rfl,hk⟩:=x.done
 have noA: ∀b:Addr,b∉(qcZ CX P w K mg base N qual scope f cd A outer s H E).ex:=λb z=>absurd (show b∈([]:List Addr) from z) (by simp)
 refine ⟨⟨e0.mod,S.kind,rfl,rfl,Nat.le_refl _,λy z c h1 h2=> ?_,λy hy=> ?_,λy c _ h=> ?_,λ_=>hd,Around.frames_deeper e0.frames,.inr ⟨rfl,rfl⟩,λb z=>absurd z (noA b),e0.bs,e0.bsz,λb _ _=>noA b,λb z=>absurd z (noA b),e0.funs,e0.frf⟩,
  rfl,e0.bare,Un.kept hk,⟨_,x.toInCall.ns,λi y v h1 h2 h3=> ?_⟩,λy c h=>⟨_,x.cell y c h⟩,e0.hok.fresh (Nat.le_refl _),λy c h=> ?_,λp hp=>absurd (show p∈([]:List (Addr×Obj)) from hp) (by simp),e0.hok.kept hk,?_⟩
 ·exact name_of_addr x.apart (PySem.mem_of_lookup h1) (PySem.mem_of_lookup h2)
 ·have hy:scope.names.lookup y=some .cell\/scope.names.lookup y=some .free:=hy
  rcases hy with hy | hy
  ·exact qh3 hy
  ·exact absurd rfl (S.nofree _ (PySem.mem_of_lookup hy))
 ·exact Nat.le_of_lt (x.above y c (PySem.mem_of_lookup h))
 ·have hi:i<vs.length:=by
   unfold start at h2
   by_cases hi:i<vs.length
   ·exact hi
   ·rw[List.getElem?_append_right (by simpa using hi)] at h2
    rw[List.getElem?_replicate] at h2
    split at h2<;>cases h2
  have ha:vs[i]? =some v:=by
   unfold start at h2
   rw[List.getElem?_append_left (by simpa using hi),List.getElem?_map] at h2
   cases e:vs[i]? with
   | none=>rw[e] at h2; cases h2
   | some a=>rw[e] at h2; cases h2; rfl
  obtain ⟨u,hu,rv⟩:=r.get ha
  have hp:ps[i]? =some y:=by
   rw[<-S.pre,List.getElem?_take_of_lt (by omega)]; exact h1
  have ndP:ps.Nodup:=by rw[<-S.pre]; exact S.nd.sublist (List.take_sublist _ _)
  refine ⟨u,rv,?_⟩
  rcases S.par y (List.mem_of_getElem? hp) with k | k
  ·exact .inl ⟨k,qgx ndP hp hu k⟩
  ·obtain ⟨c,e⟩:=qh3 (n:=s.heap.objs.size+1) k
   refine .inr ⟨.inl k,c,e,?_⟩
   have q:=x.cell y c e
   rw[qgz ndP hp hu (by show scope.names.lookup y≠_; rw[k]; decide)] at q
   exact q
 ·exact e0.hok.fresh (Nat.le_of_lt (x.above y c (PySem.mem_of_lookup h)))
 ·unfold start
  show _=N.length
  rw[List.length_append,List.length_map,List.length_replicate]
  omega
theorem qiv {CX:CXT} {P:Program} {w:World} {K:PySem.W.Frag} {mg:Str->Option Value} {base:Heap} {k:Nat} {f:Addr} {name qual:Str} {params:Arguments} {body:List Stmt} {scope:Scope} {dV kV doc pm cdv ct oc:Value} {an od:Option Addr}
  {osl:Array (Option Value)} {N ps:List Str} {sp:Sp} (lk:K.lookup f=some ⟨oc,od,.func (PySem.W.fnOf name qual params body scope dV kV doc pm an cdv ct),osl⟩) (hcd:PySem.W.codeIn K cdv qual=true) (S:qas N ps scope)
  (len: ∀vs H Q E,sp vs H Q E->vs.length=ps.length)
  (hbody: ∀(A:Around) (outer:List Env) (s:Shared) (H:Hp) (vs:List V) (Q:VK) (E:XK),qcu k (A.deeper (envOfC qual scope s.heap.objs.size f cdv))->sp vs H Q E->
   ∃t,PSs (qcZ CX P w K mg base N qual scope f cdv A outer s H E) body t/\t { nx:=λ_ H'=>Q .non H',rt:=Q } (start N vs) H):
  qbI P w K mg base CX (k+1) f (PySem.W.fnOf name qual params body scope dV kV doc pm an cdv ct) ps sp:=by
 refine ⟨len,λA outer s H args us vs Q E hr e0 hb r hsp=> ?_⟩
 have hl:=len _ _ _ _ hsp
 have KX:K.In s.heap:=e0.mod.kin.keeps λb o e=>(e0.bs b o e).1
 have lim:s.heap.NoLimit:=e0.mod.nolimit.keeps λb o e=>(e0.bs b o e).1
 have hkind: ∀y∈ps.zip us,scope.names.lookup y.1=some .local\/(scope.names.lookup y.1=some .cell/\((cellsFrom (s.heap.objs.size+1) scope.names []).lookup y.1).isSome=true):=λ⟨n,v⟩ hy=>by
  rcases S.par n (List.of_mem_zip hy).1 with q | q
  ·exact .inl q
  ·exact .inr ⟨q,PySem.W.cellsFrom_some _ _ _ (.inl q)⟩
 refine codeAny_call_function hr.depth (KX _ _ lk) rfl S.co S.gen rfl (PySem.W.codeRec_of KX hcd) (hb _ _ _ _ ?_)
 refine wpAny_newFunctionEnv_cells S.kind hkind λenv he s1 x=> ?_
 subst he
 refine ⟨lim.keeps x.toInCall.keep,codeAny_func ?_⟩
 obtain ⟨t,ht,hq⟩:=hbody A outer s H vs Q E (hr.deeper _) hsp
 have I:Inv (qcZ CX P w K mg base N qual scope f cdv A outer s H E) [] (start N vs) H s1:=qek S hr.hd e0 hl r x
 refine wpAny_mono (ht [] s1 (start N vs) H _ I hq) (λfl s' hs=> ?_) λe s' hs=>hs
 have fin: ∀{σ':St} {H':Hp} {v:V} {u:Value},Inv (qcZ CX P w K mg base N qual scope f cdv A outer s H E) [] σ' H' s'->RelV v u->Q v H'->CE outer P w H s Q u s':=
  λ{σ' H' v u} J rv q=>⟨v,H',J.os,J.bare,J.base,J.hok,rv,q⟩
 cases fl with
 | ret u=>
  obtain ⟨v,σ',H',J,rv,q⟩:=hs
  exact fin J rv q
 | next=>
  obtain ⟨σ',H',J,q⟩:=hs
  exact fin (v:=V.non) (u:=Value.none) J rfl q
 | brk=>
  obtain ⟨_,_,_,q⟩:=hs
  exact False.elim q
 | cont=>
  obtain ⟨_,_,_,q⟩:=hs
  exact False.elim q
end L2
namespace L2
open PySem PySem.Spec PyProof.Rows
section
variable {X:Cx} {x:Str} {p pos:Pos} {e:Expr} {es:List Expr} {t:TA} {id T:String} {r:List V->Hp->VK->Prop}
def tCB (r:List V->Hp->VK->Prop) (t:TA):TE:=λσ H Q=>t σ H λvs H1=>r vs H1 Q
theorem qay (hc:qev X (.builtin id) r) (hg:Gl X x) (hm:X.mg x=none) (hv:bootBuiltins x=some (.builtin id)) (ha:PA X (e::es) t) (hn:x≠ "__name__" :=by decide) (hdb:(x==("__debug__" :Str))=false:=by decide)
  (he:starEach (e::es) X.env=(false,eval e X.env)::starEach es X.env:=by rfl) (hpl:(backTo pos (starEach es X.env)).any (·.1)=false:=by rfl):PE X (.Call (.Name x p) (e::es) [] pos) (tCB r t):=by
 intro pins s σ H Q I h
 refine wpAny_Call_Name_kw (qcK I hg hm hv ?_ hn hdb)
 exact PyProof.Rows.callWith_builtin1 (thn (ha pos pins s σ H _ I h) λus s1 ⟨vs,H1,I1,r1,q1⟩=>hc pins s1 σ H1 vs us Q I1 r1 q1) he hpl
end
end L2
namespace HT
open PySem PyProof.Rows
section
variable {prog:Program} {w:World} {A:Around} {E:Value->Shared->Prop} {s:Shared}
theorem cat_tup {t b:Addr} {vs ws:List Value} {Q:Value->Shared->Prop} (ht:IsTup s.heap t vs.toArray) (hb:IsTup s.heap b ws.toArray) (hv:vs≠[])
  (h1:ws=[]->Q (.ref t) s) (h2:ws≠[]->Q (.ref s.heap.objs.size) { s with heap:=s.heap.push { cls:=.type "tuple",data:=.seq (vs++ws).toArray } })
  (hsz:vs.length+ws.length<=sizeLine):wpAny (model prog w) A (binaryOp .Add (.ref t) (.ref b)) Q E s:=by
 obtain ⟨⟨cls,dd,data,sl⟩,ho,hc,n,hd⟩:=id ht
 obtain ⟨⟨cls2,dd2,data2,sl2⟩,ho2,hc2,n2,hd2⟩:=id hb
 simp only at hc hd hc2 hd2
 subst hc hd hc2 hd2
 have e:vs.toArray++ws.toArray=(vs++ws).toArray:=by simp
 by_cases hw:ws=[]
 ·exact concat_meets ⟨_,ho,rfl⟩ ⟨_,ho2,rfl⟩ noFill_tuple_add seq_tuple_add PySem.F.slot_tuple_add PySem.F.entry_tuple_add (PySem.F.args_tuple_add_2 _ _)
   (tuple_addW1 t b vs.toArray ws.toArray n n2 dd dd2 sl sl2 (by simpa using hv) (by simp[hw])) ⟨ho,ho2,h1 hw⟩
 ·refine concat_meets ⟨_,ho,rfl⟩ ⟨_,ho2,rfl⟩ noFill_tuple_add seq_tuple_add PySem.F.slot_tuple_add PySem.F.entry_tuple_add (PySem.F.args_tuple_add_2 _ _)
   (tuple_addW2 t b vs.toArray ws.toArray n n2 dd dd2 sl sl2 (by simpa using hv) (by simpa using hw) (by rw[List.size_toArray,List.size_toArray]; exact hsz)) ⟨ho,ho2,?_⟩
  rw[e]
  exact h2 hw
def sIx (n d:Nat):Option Int->Nat
 | none=>d
 | some v=>if v<0 then (v+(n:Int)).toNat else min v.toNat n
end
end HT
namespace L2
open PySem PySem.Spec PyProof.Rows
abbrev TO:=St->Hp->(Option Int->Hp->Prop)->Prop
def PO (X:Cx) (e:Option Expr) (t:TO):Prop:=
 ∀(pins:List (Addr×Obj)) (s:Shared) (σ:St) (H:Hp) (Q:Option Int->Hp->Prop),Inv X pins σ H s->t σ H Q->
  wpAny (model X.prog X.w) X.A (evalPart e X.env) (λu s'=> ∃o H',Inv X pins σ H' s'/\IsPart u o/\Q o H') X.xe s
def qmC:TO:=λ_ H Q=>Q none H
def qp8 (t:TE):TO:=λσ H Q=>t σ H λx H1=> ∃i,x= .int i/\Q (some i) H1
section
variable {X:Cx} {e:Expr} {te:TE} {lo hi:Option Expr} {tl th:TO} {pos p2:Pos}
theorem qmR:PO X none qmC:=by
 intro pins s σ H Q I h
 rw[evalPart_none]
 exact wpAny_pure ⟨none,H,I,.none,h⟩
theorem qmQ (h:PE X e te):PO X (some e) (qp8 te):=by
 intro pins s σ H Q I hw
 rw[evalPart_some]
 refine thn (h pins s σ H _ I hw) λu s1 ⟨x,H1,I1,r1,q1⟩=> ?_
 obtain ⟨i,rfl,q⟩:=q1
 obtain ⟨t,rfl⟩:=r1
 exact ⟨some i,H1,I1,.int i t,q⟩
def SlR (X:Cx) (r:V->Option Int->Option Int->Hp->VK->Prop):Prop:=
 ∀(pins:List (Addr×Obj)) (s:Shared) (σ:St) (H:Hp) (x:V) (v vl vu:Value) (lo hi:Option Int) (sl:Addr) (Q:VK),Inv X pins σ H s->RelV x v->s.heap.IsSliceOf sl vl vu .none->IsPart vl lo->IsPart vu hi->r x lo hi H Q->
  ∃T id,typeLookup (.type T) "__getitem__" =pure (some (.builtin id))/\s.TypeIs v T/\wpAny (model X.prog X.w) X.A (getItem v (.ref sl)) (EP X pins σ Q) X.xe s
def tSl (r:V->Option Int->Option Int->Hp->VK->Prop) (te:TE) (tl th:TO):TE:=λσ H Q=>te σ H λx H1=>tl σ H1 λl H2=>th σ H2 λu H3=>r x l u H3 Q
theorem qk7 {r:V->Option Int->Option Int->Hp->VK->Prop} (hr:SlR X r) (he:PE X e te) (hl:PO X lo tl) (hu:PO X hi th):PE X (.Subscript e (.Slice lo hi none p2) pos) (tSl r te tl th):=by
 intro pins s σ H Q I h
 refine Subscript_ (thn (he pins s σ H _ I h) λv s1 ⟨x,H1,I1,r1,q1⟩=> ?_)
 refine wpAny_Slice (thn (hl pins s1 σ H1 _ I1 q1) λvl s2 ⟨l,H2,I2,pl,q2⟩=>thn (hu pins s2 σ H2 _ I2 q2) λvu s3 ⟨u,H3,I3,pu,q3⟩=> ?_)
 rw[evalPart_none]
 refine wpAny_pure ?_
 have I4:Inv X pins σ H3 { s3 with heap:=s3.heap.push { cls:=.type "slice",data:=.fields #[vl,vu,.none] } }:=I3.kept (t':=s3.toks) λb ob q=>Heap.get?_push_of_some _ q
 obtain ⟨T,id,hT,ht,hg⟩:=hr pins { s3 with heap:=s3.heap.push { cls:=.type "slice",data:=.fields #[vl,vu,.none] } } σ H3 x v vl vu l u s3.heap.objs.size Q I4 r1 (Heap.IsSliceOf.new ..) pl pu q3
 show wpAny (model X.prog X.w) X.A (subscriptTail e (.Slice lo hi none p2) v (.ref s3.heap.objs.size)) (EP X pins σ Q) X.xe { s3 with heap:=s3.heap.push { cls:=.type "slice",data:=.fields #[vl,vu,.none] } }
 exact tail_any (ops:=[.ref s3.heap.objs.size,v]) ht hT hg (by with_unfolding_all rfl)
def qnD (xs:List V) (lo hi:Option Int):List V:=(xs.drop (HT.sIx xs.length 0 lo)).take (HT.sIx xs.length xs.length hi - HT.sIx xs.length 0 lo)
theorem qhf (xs:List V) (lo hi:Option Int):(qnD xs lo hi).length<=xs.length:=by
 unfold qnD
 rw[List.length_take,List.length_drop]
 omega
def qou (K:PySem.W.Frag):R2:=λx y H Q=> ∃a b xs ys,x= .ref a/\y= .ref b/\SqT K H a xs/\SqT K H b ys/\xs≠[]/\xs.length+ys.length<=sizeLine/\
 (ys=[]->Q (.ref a) H)/\(ys≠[]->∀p,H p=none->Q (.ref p) (upd H p (.tup (xs++ys))))
theorem Vals.nil_iff {xs:List V} {us:List Value} (r:Vals xs us):us=[]↔xs=[]:=by
 cases r with
 | nil=>simp
 | cons _ _=>simp
theorem qm3:OpR X (binaryOp .Add) (qou X.K):=by
 intro pins s σ H x y v u Q I rx ry h
 obtain ⟨a,b,xs,ys,rfl,rfl,ha,hb,hx,hz,q1,q2⟩:=h
 cases rx
 cases ry
 obtain ⟨its,r1,p1,_⟩:=I.tuple ha
 obtain ⟨its2,r2,p2,_⟩:=I.tuple hb
 refine HT.cat_tup p1 p2 (λz=>hx (r1.nil_iff.mp z)) (λz=>⟨.ref a,H,I,rfl,q1 (r2.nil_iff.mp z)⟩) (λz=> ?_) (by rw[<-r1.length,<-r2.length]; exact hz)
 refine ⟨.ref s.heap.objs.size,_,I.laid (t':=s.toks) (o:=.tup (xs++ys)) (λb ob q=>Heap.get?_push_of_some _ q) (Nat.le_refl _) ?_,rfl,q2 (λw=>z (r2.nil_iff.mpr w)) _ (I.hok.fresh (Nat.le_refl _))⟩
 exact ⟨by rw[List.length_append]; exact hz,_,r1.append r2,IsTup.new _ _⟩
end
end L2
namespace L2
open PySem PySem.Spec PyProof.Rows
def ixN (n:Nat) (i:Int):Option Nat:=if 0<=i then (if i<n then some i.toNat else none) else if -(n:Int)<=i then some (i+n).toNat else none
def atI {α:Type} (xs:List α) (i:Int):Option α:=(ixN xs.length i).bind λj=>xs[j]?
theorem qjL {n:Nat} {i:Int} {j:Nat} (h:ixN n i=some j):seqIndex? i n=some j/\j<n/\ -(n:Int)<=i/\i<n:=by
 unfold ixN at h
 by_cases h0:0<=i
 ·rw[if_pos h0] at h
  by_cases h1:i<n
  ·rw[if_pos h1] at h
   have e:i.toNat=j:=Option.some.inj h
   exact ⟨by rw[seqIndex_of h0 h1,e],by omega,by omega,h1⟩
  ·rw[if_neg h1] at h; cases h
 ·rw[if_neg h0] at h
  by_cases h1: -(n:Int)<=i
  ·rw[if_pos h1] at h
   have e:(i+n).toNat=j:=Option.some.inj h
   exact ⟨by rw[seqIndex_neg (by omega) h1,e],by omega,h1,by omega⟩
  ·rw[if_neg h1] at h; cases h
theorem qhi {α:Type} {xs:List α} {i:Int} {v:α} (h:atI xs i=some v): ∃j,seqIndex? i xs.length=some j/\xs[j]? =some v/\j<xs.length/\ -(xs.length:Int)<=i/\i<xs.length:=by
 unfold atI at h
 cases e:ixN xs.length i with
 | none=>rw[e] at h; cases h
 | some j=>
  rw[e] at h
  obtain ⟨h1,h2,h3,h4⟩:=qjL e
  exact ⟨j,h1,h,h2,h3,h4⟩
theorem qky {α:Type} {xs:List α} {j:Nat} {v:α} (h:xs[j]? =some v):atI xs (j:Int)=some v:=by
 have hj:j<xs.length:=(List.getElem?_eq_some_iff.mp h).1
 have e:ixN xs.length (j:Int)=some j:=by
  unfold ixN
  rw[if_pos (by omega),if_pos (by omega)]; simp
 unfold atI; rw[e]; exact h
def qhl (b:Expr):Prop:= ∀o i,subscripted b false o i=operate [o,i] (getItem o i)
def IxR (X:Cx) (r:R2):Prop:=
 ∀(value slice:Expr) (pins:List (Addr×Obj)) (s:Shared) (σ:St) (H:Hp) (x y:V) (v u:Value) (Q:VK),Inv X pins σ H s->RelV x v->RelV y u->r x y H Q->
  subscripted slice false v u=operate [v,u] (getItem v u)->wpAny (model X.prog X.w) X.A (subscriptTail value slice v u) (EP X pins σ Q) X.xe s
def MtR (X:Cx) (id:String) (r:V->List V->Hp->VK->Prop):Prop:=
 ∀(pins:List (Addr×Obj)) (s:Shared) (σ:St) (H:Hp) (x:V) (xs:List V) (v:Value) (us:List Value) (Q:VK),Inv X pins σ H s->RelV x v->Vals xs us->r x xs H Q->
  wpAny (model X.prog X.w) X.A (call (.builtin id) (v::us)) (EP X pins σ Q) X.xe s
section
variable {X:Cx} {a b:Expr} {ta tb:TE} {pos:Pos}
theorem IxR.or {r r':R2} (h:IxR X r) (h':IxR X r'):IxR X (λx y H Q=>r x y H Q\/r' x y H Q):=by
 intro value slice pins s σ H x y v u Q I rx ry q hs
 rcases q with q | q
 ·exact h value slice pins s σ H x y v u Q I rx ry q hs
 ·exact h' value slice pins s σ H x y v u Q I rx ry q hs
theorem qjl {r:R2} (hr:IxR X r) (ha:PE X a ta) (hb:PE X b tb) (hs:qhl b):PE X (.Subscript a b pos) (tOp r ta tb):=by
 intro pins s σ H Q I h
 exact Subscript_ (qrG ha hb I h λv u s2 x y H2 I2 rx ry q=>hr a b pins s2 σ H2 x y v u Q I2 rx ry q (hs _ _))
def qqN (K:PySem.W.Frag):R2:=λx y H Q=> ∃p xs i v,x= .ref p/\y= .int i/\SqL K H p xs/\atI xs i=some v/\Q v H
def qrQ (K:PySem.W.Frag):R2:=λx y H Q=> ∃p xs i v,x= .ref p/\y= .int i/\SqT K H p xs/\atI xs i=some v/\Q v H
def qrR:R2:=λx y H Q=> ∃z i c,x= .str z/\y= .int i/\z.length<=sizeLine/\atI z.cps.toList i=some c/\Q (.str ⟨#[c]⟩) H
theorem qgX:IxR X (qqN X.K):=by
 intro value slice pins s σ H x y v u Q I rx ry h hs
 obtain ⟨p,xs,i,z,rfl,rfl,hq,he,q⟩:=h
 cases rx
 obtain ⟨t,rfl⟩:=ry
 obtain ⟨its,r,pl,hz⟩:=I.list hq
 obtain ⟨j,h1,h2,h3,h4,h5⟩:=qhi he
 obtain ⟨w,ew,rw'⟩:=r.get h2
 have hl:=r.length
 have hn:=qdm
 have fin:EP X pins σ Q w s:=⟨z,H,I,rw',q⟩
 by_cases h0:0<=i
 ·have hj:i.toNat=j:=by
   rw[seqIndex_of h0 h5] at h1
   exact Option.some.inj h1
  exact item_listR pl.isList h0 (by omega) (by rw[hj]; simpa using ew) fin hs
 ·have hj:(i+(its.toArray.size:Int)).toNat=j:=by
   rw[seqIndex_neg (by omega) h4] at h1
   rw[List.size_toArray,<-hl]
   exact Option.some.inj h1
  exact subscriptTail_builtinR (x:=w) pl.isList.typeIs slot_list_getitem.lookup
   (wpAny_getItem_list_neg (Q:=λr s'=>r=w/\EP X pins σ Q r s') pl.isList (by omega) (by rw[List.size_toArray]<;>omega) (by omega) (by rw[hj]; simpa using ew) ⟨rfl,fin⟩) hs
theorem qo5:IxR X (qrQ X.K):=by
 intro value slice pins s σ H x y v u Q I rx ry h hs
 obtain ⟨p,xs,i,z,rfl,rfl,hq,he,q⟩:=h
 cases rx
 obtain ⟨t,rfl⟩:=ry
 obtain ⟨its,r,pl,hz⟩:=I.tuple hq
 obtain ⟨j,h1,h2,h3,h4,h5⟩:=qhi he
 obtain ⟨w,ew,rw'⟩:=r.get h2
 have hl:=r.length
 have hn:=qdm
 have fin:EP X pins σ Q w s:=⟨z,H,I,rw',q⟩
 exact subscriptTail_builtinR (x:=w) pl.typeIs slot_tuple_getitem.lookup
  (getItem_tuple (j:=j) (Q:=λr s'=>r=w/\EP X pins σ Q r s') pl (by omega) (by omega) (by rw[List.size_toArray,<-hl]; exact h1) (by simpa using ew) ⟨rfl,fin⟩) hs
theorem qo6:IxR X qrR:=by
 intro value slice pins s σ H x y v u Q I rx ry h hs
 obtain ⟨z,i,c,rfl,rfl,hz,he,q⟩:=h
 obtain ⟨t,rfl⟩:=rx
 obtain ⟨t',rfl⟩:=ry
 obtain ⟨j,h1,h2,h3,h4,h5⟩:=qhi he
 have hl:z.cps.toList.length=z.length:=by simp[Str.length]
 rw[hl] at h1 h4 h5
 have hn:=qdm
 exact tail_any (typeIs_str s z t) slot_str_getitem.lookup (getItem_str (c:=c) (by
  have e1:decide (i< -(2 ^ 63:Int))=false:=decide_eq_false (by omega)
  have e2:decide (i≥2 ^ 63)=false:=decide_eq_false (by omega)
  rw[e1,e2,Bool.or_false]) (by rw[h1]; simpa using h2) ⟨.str ⟨#[c]⟩,H,I.tok _,⟨_,rfl⟩,q⟩) hs
def rIx (K:PySem.W.Frag):R2:=λx y H Q=>qqN K x y H Q\/qrQ K x y H Q\/qrR x y H Q
theorem qaP:IxR X (rIx X.K):=qgX.or (qo5.or qo6)
theorem qio (its:List Value) (n j:Nat) (u:Value):Obj.mapSeq (·.setIfInBounds j u) { cls:=.type "list",data:=.seq its.toArray n }={ cls:=.type "list",data:=.seq (its.set j u).toArray n }:=by
 simp[Obj.mapSeq]
theorem Inv.lst {pins:List (Addr×Obj)} {σ:St} {H:Hp} {s:Shared} {p:Addr} {xs:List V} (I:Inv X pins σ H s) (h:H p=some (.lst xs)):
  ∃(its:List Value) (n:Nat),Vals xs its/\s.heap.get? p=some { cls:=.type "list",data:=.seq its.toArray n }/\xs.length<=sizeLine:=by
 obtain ⟨z,its,n,r,e⟩:=I.hok p _ h
 exact ⟨its,n,r,e,z⟩
theorem Inv.lstUpd {pins:List (Addr×Obj)} {σ:St} {H:Hp} {s:Shared} {p:Addr} {xs ys:List V} {its its':List Value} {n n':Nat} {f:Obj->Obj} (I:Inv X pins σ H s) (h:H p=some (.lst xs))
  (ho:s.heap.get? p=some { cls:=.type "list",data:=.seq its.toArray n }) (hf:f { cls:=.type "list",data:=.seq its.toArray n }={ cls:=.type "list",data:=.seq its'.toArray n' }) (r:Vals ys its') (hz:ys.length<=sizeLine) (t:Nat):
  Inv X pins σ (upd H p (.lst ys)) { s with heap:=s.heap.update p f,toks:=t }:=by
 have e:(s.heap.update p f).get? p=some { cls:=.type "list",data:=.seq its'.toArray n' }:=by
  rw[Heap.get?_update_self f ho (by rw[hf]<;>rfl),hf]
 refine I.write (x:=p) (e:=p) (by rw[h]; trivial) (.inl rfl) (λb u hb q=>(Heap.get?_update_other _ _ (Ne.symm hb)).trans q) ⟨_,e⟩ ?_
 exact ⟨hz,its',n',r,e⟩
def qos:V->V->V->Hp->(Hp->Prop)->Prop:=λo i v H Q=> ∃p xs k j,o= .ref p/\i= .int k/\H p=some (.lst xs)/\ixN xs.length k=some j/\Q (upd H p (.lst (xs.set j v)))
theorem qfd:qsb X qos:=by
 intro pins s σ H o i v ov iv u Q I ro ri rv h
 obtain ⟨p,xs,k,j,rfl,rfl,hp,hj,q⟩:=h
 cases ro
 obtain ⟨t,rfl⟩:=ri
 obtain ⟨its,n,r,ho,hz⟩:=I.lst hp
 obtain ⟨h1,h2,h3,h4⟩:=qjL hj
 have hl:=r.length
 have hn:=qdm
 have I':Inv X pins σ (upd H p (.lst (xs.set j v))) { s with heap:=s.heap.update p (Obj.mapSeq (·.setIfInBounds j u)) }:=
  I.lstUpd hp ho (qio its n j u) (r.set rv j) (by rw[List.length_set]; exact hz) s.toks
 by_cases h0:0<=k
 ·have hk:k.toNat=j:=by
   rw[seqIndex_of h0 h4] at h1
   exact Option.some.inj h1
  exact PySem.W.ki_setAt ho h0 (by omega) (by rw[List.size_toArray,<-hl]; exact h4) (by rw[hk]; exact ⟨_,I',q⟩)
 ·have hk:(k+(its.toArray.size:Int)).toNat=j:=by
   rw[seqIndex_neg (by omega) h3] at h1
   rw[List.size_toArray,<-hl]
   exact Option.some.inj h1
  exact PySem.W.ki_setBack ho (by omega) (by rw[List.size_toArray,<-hl]; exact h3) (by omega) (by rw[hk]; exact ⟨_,I',q⟩)
theorem qfV (lo hi:Option Int) (n:Nat):(sliceBounds lo hi none n).1=((HT.sIx n 0 lo:Nat):Int)/\(sliceBounds lo hi none n).2.1=((HT.sIx n n hi:Nat):Int)/\(sliceBounds lo hi none n).2.2=1:=by
 refine ⟨?_,?_,rfl⟩
 ·cases lo with
  | none=>simp[sliceBounds,HT.sIx]
  | some i=>
   simp only[sliceBounds,HT.sIx,Option.getD_none,show (1:Int)>0 by decide,if_true]
   by_cases h:i<0
   ·simp only[h,if_true]<;>omega
   ·simp only[h,if_false]<;>omega
 ·cases hi with
  | none=>simp[sliceBounds,HT.sIx]
  | some i=>
   simp only[sliceBounds,HT.sIx,Option.getD_none,show (1:Int)>0 by decide,if_true]
   by_cases h:i<0
   ·simp only[h,if_true]<;>omega
   ·simp only[h,if_false]<;>omega
theorem qfc (its:List Value) (lo hi:Option Int):slicePick its.toArray lo hi none=((its.drop (HT.sIx its.length 0 lo)).take (HT.sIx its.length its.length hi - HT.sIx its.length 0 lo)).toArray:=by
 obtain ⟨h1,h2,h3⟩:=qfV lo hi its.toArray.size
 unfold slicePick
 rw[h1,h2,h3]
 simp only[sliceRange_one,pick_run,List.size_toArray]<;>rfl
def qsA (K:PySem.W.Frag):V->Option Int->Option Int->Hp->VK->Prop:=λx lo hi H Q=> ∃a xs,x= .ref a/\SqL K H a xs/\∀p,H p=none->Q (.ref p) (upd H p (.lst (qnD xs lo hi)))
theorem qmG:SlR X (qsA X.K):=by
 intro pins s σ H x v vl vu lo hi sl Q I rx hs pl pu h
 obtain ⟨a,xs,rfl,hx,q⟩:=h
 cases rx
 obtain ⟨its,r,ht,hz⟩:=I.list hx
 have hlen:=r.length
 refine ⟨"list",_,slot_list_getitem.lookup,ht.isList.typeIs,?_⟩
 refine wpAny_getItem_list_slice ht.isList hs pl pu .none (by simp) ?_ (by rw[List.size_toArray]<;>omega)
 rw[qfc,<-hlen]
 refine ⟨.ref s.heap.objs.size,_,I.laid (t':=s.toks) (o:=.lst (qnD xs lo hi)) (λb ob q=>Heap.get?_push_of_some _ q) (Nat.le_refl _) ?_,rfl,q _ (I.hok.fresh (Nat.le_refl _))⟩
 exact ⟨Nat.le_trans (qhf xs lo hi) hz,_,0,(r.drop (HT.sIx xs.length 0 lo)).take (HT.sIx xs.length xs.length hi - HT.sIx xs.length 0 lo),Heap.get?_push_size _ rfl⟩
def qg2:V->Bool
 | .non=>true
 | .bl _=>true
 | .int _=>true
 | .str _=>true
 | _=>false
def eqV:V->V->Bool
 | .non,.non=>true
 | .bl a,.bl b=>a==b
 | .bl a,.int b=>(if a then 1 else 0)==b
 | .int a,.bl b=>a==(if b then 1 else 0)
 | .int a,.int b=>a==b
 | .str a,.str b=>a==b
 | _,_=>false
theorem qmg {A:Around} {s:Shared} {y x:V} {u v:Value} (ry:RelV y u) (rx:RelV x v) (fy:qg2 y=true) (fx:qg2 x=true):SeqAt.EqAt A s u v (eqV y x):=by
 cases y with
 | non=>
  cases ry
  cases x with
  | non=>cases rx; exact SeqAt.EqAt.same _
  | bl b=>cases rx; exact SeqAt.EqAt.none_bool b
  | int b=>obtain ⟨t,rfl⟩:=rx; exact SeqAt.EqAt.none_int b t
  | str b=>obtain ⟨t,rfl⟩:=rx; exact SeqAt.EqAt.none_str b t
  | _=>exact absurd (show false=true from fx) Bool.false_ne_true
 | bl a=>
  cases ry
  cases x with
  | non=>cases rx; exact SeqAt.EqAt.bool_none a
  | bl b=>cases rx; exact SeqAt.EqAt.bool_bool a b
  | int b=>obtain ⟨t,rfl⟩:=rx; exact SeqAt.EqAt.bool_int a b t
  | str b=>obtain ⟨t,rfl⟩:=rx; exact SeqAt.EqAt.bool_str a b t
  | _=>exact absurd (show false=true from fx) Bool.false_ne_true
 | int a=>
  obtain ⟨t',rfl⟩:=ry
  cases x with
  | non=>cases rx; exact SeqAt.EqAt.int_none a t'
  | bl b=>cases rx; exact SeqAt.EqAt.int_bool a t' b
  | int b=>obtain ⟨t,rfl⟩:=rx; exact SeqAt.EqAt.int_int a t' b t
  | str b=>obtain ⟨t,rfl⟩:=rx; exact SeqAt.EqAt.int_str a t' b t
  | _=>exact absurd (show false=true from fx) Bool.false_ne_true
 | str a=>
  obtain ⟨t',rfl⟩:=ry
  cases x with
  | non=>cases rx; exact SeqAt.EqAt.str_none a t'
  | bl b=>cases rx; exact SeqAt.EqAt.str_bool a t' b
  | int b=>obtain ⟨t,rfl⟩:=rx; exact SeqAt.EqAt.str_int a t' b t
  | str b=>obtain ⟨t,rfl⟩:=rx; exact SeqAt.EqAt.str_str a t' b t
  | _=>exact absurd (show false=true from fx) Bool.false_ne_true
 | _=>exact absurd (show false=true from fy) Bool.false_ne_true
theorem qdN:qev X (.builtin "len") (λxs H Q=> ∃p ys,xs=[.ref p]/\(SqL X.K H p ys\/SqT X.K H p ys)/\Q (.int ys.length) H):=by
 intro pins s σ H xs us Q I r h
 obtain ⟨p,ys,rfl,hq,q⟩:=h
 obtain ⟨u,rfl,rx⟩:=qdP r
 cases rx
 have hn:=qdm
 rcases hq with hq | hq
 ·obtain ⟨its,r',pl,hz⟩:=I.list hq
  have hlen:=r'.length
  exact Calls.call_len_list pl.isList (by simp only[List.size_toArray]<;>omega) ⟨.int ys.length,H,I.tok _,⟨s.toks+1,by rw[List.size_toArray,hlen]⟩,q⟩
 ·obtain ⟨its,r',pl,hz⟩:=I.tuple hq
  have hlen:=r'.length
  exact len_tuple pl (by simp only[List.size_toArray]<;>omega) ⟨.int ys.length,H,I.tok _,⟨s.toks+1,by rw[List.size_toArray,hlen]⟩,q⟩
theorem qgv:qev X (.builtin "len") (λxs H Q=> ∃z,xs=[.str z]/\z.length<=sizeLine/\Q (.int z.length) H):=by
 intro pins s σ H xs us Q I r h
 obtain ⟨z,rfl,hz,q⟩:=h
 obtain ⟨u,rfl,t,rfl⟩:=qdP r
 have hn:=qdm
 exact len_str (by omega) ⟨.int z.length,H,I.tok _,⟨_,rfl⟩,q⟩
def tyV (K:PySem.W.Frag) (T:String) (x:V) (H:Hp):Prop:=match x with
 | .str _=>T= "str"
 | .int _=>T= "int"
 | .ref p=>(T= "list" /\∃xs,SqL K H p xs)\/(T= "tuple" /\∃o,K.lookup p=some o/\o.cls= .type "tuple" /\o.dict=none)\/
   (T= "dict" /\((∃kvs,H p=some (.dK kvs))\/∃kvs,H p=some (.dT kvs)))\/(T= "set" /\∃S n,H p=some (.set S n))
 | _=>False
theorem qlP {pins:List (Addr×Obj)} {σ:St} {H:Hp} {s:Shared} {T:String} {x:V} {v:Value} (I:Inv X pins σ H s) (r:RelV x v) (ty:tyV X.K T x H):
  s.TypeIs v T/\∀a,v= .ref a->∃ob,s.heap.get? a=some ob/\ob.dict=none:=by
 cases x with
 | str z=>
  obtain ⟨t,rfl⟩:=r
  cases (show T= "str" from ty)
  exact ⟨typeIs_str s z t,λ_ e=>nomatch e⟩
 | int i=>
  obtain ⟨t,rfl⟩:=r
  cases (show T= "int" from ty)
  exact ⟨typeIs_int s i t,λ_ e=>nomatch e⟩
 | ref p=>
  cases r
  rcases ty with ⟨rfl,xs,hq⟩ | ⟨rfl,o,hk,hc,hd⟩ | ⟨rfl,hk⟩ | ⟨rfl,S,n,hk⟩
  ·obtain ⟨its,_,pl,_⟩:=I.list hq
   refine ⟨pl.isList.typeIs,λa e=> ?_⟩
   cases e
   obtain ⟨o,n,e,c,hd,_⟩:=pl
   exact ⟨o,e,hd⟩
  ·refine ⟨⟨o,I.kIn p o hk,hc⟩,λa e=> ?_⟩
   cases e
   exact ⟨o,I.kIn _ o hk,hd⟩
  ·have z: ∃o,s.heap.get? p=some o/\o.ExactDict:=by
    rcases hk with ⟨kvs,hk⟩ | ⟨kvs,hk⟩
    ·obtain ⟨_,_,_,_,o,_,_,e,ex,_⟩:=I.hok p _ hk
     exact ⟨o,e,ex⟩
    ·obtain ⟨_,_,_,_,o,_,_,e,ex,_⟩:=I.hok p _ hk
     exact ⟨o,e,ex⟩
   obtain ⟨o,e,ex⟩:=z
   refine ⟨⟨o,e,ex.1⟩,λa e2=> ?_⟩
   cases e2
   exact ⟨o,e,ex.2.1⟩
  ·obtain ⟨o,_,_,_,e,ex,_⟩:=I.hok p _ hk
   refine ⟨⟨o,e,ex.1⟩,λa e2=> ?_⟩
   cases e2
   exact ⟨o,e,ex.2.1⟩
 | _=>exact False.elim ty
def tBM (K:PySem.W.Frag) (T:String) (r:V->List V->Hp->VK->Prop) (to:TE) (t:TA):TE:=λσ H Q=>to σ H λx H1=>tyV K T x H1/\t σ H1 λxs H2=>r x xs H2 Q
variable {o e:Expr} {es:List Expr} {to:TE} {t:TA} {name:Str} {apos cpos:Pos} {T id:String} {r:V->List V->Hp->VK->Prop}
theorem qcY (pa:PlainAttrs T) (slot:Slot T name id) (hty:typeOf (.builtin id)=pure (.type "method_descriptor")) (hm:MtR X id r) (ho:PE X o to) (ha:PA X (e::es) t)
  (hbase:attributeBase o name X.env (eval o X.env)=eval o X.env:=by rfl)
  (hfew:((backTo cpos (starEach (e::es) X.env)).all (λx=> !x.1)&&(backToKw cpos (keywordEach [] X.env)).all (λx=>x.1.isSome)
   &&decide ((e::es).length+([]:List Keyword).length+(if ([]:List Keyword).isEmpty then 0 else 1)<30))=true:=by rfl)
  (hline:(apos.endLine==cpos.line)=true:=by rfl) (hs:starEach (e::es) X.env=(false,eval e X.env)::starEach es X.env:=by rfl) (hplain:(backTo cpos (starEach es X.env)).any (·.1)=false:=by rfl):
  PE X (.Call (.Attribute o name apos) (e::es) [] cpos) (tBM X.K T r to t):=by
 intro pins s σ H Q I h
 refine wpAny_Call_method_late hbase hfew hline rfl (thn (ho pins s σ H _ I h) λv s1 ⟨x,H1,I1,r1,ty,q1⟩=> ?_)
 obtain ⟨h1,h2⟩:=qlP I1 r1 ty
 refine ⟨T,id,pa,slot,hty,h1,h2,?_⟩
 have hA:=ha cpos pins s1 σ H1 _ I1 q1
 rw[hs] at hA⊢
 refine Calls.callWith_builtin (by show (false||(backTo cpos (starEach es X.env)).any (·.1))=false; rw[hplain]<;>rfl) (Calls.evalArgs_plain ?_)
 exact thn hA λus s2 ⟨vs,H2,I2,r2,q2⟩=>hm pins s2 σ H2 x vs v us Q I2 r1 r2 q2
end
end L2
namespace L2
open PySem PySem.Spec PyProof.Rows
def MtM (X:Cx) (id:String) (r:V->List V->Hp->VK->Prop):Prop:=
 ∀(pins:List (Addr×Obj)) (s:Shared) (σ:St) (H:Hp) (x:V) (xs:List V) (v:Value) (us:List Value) (Q:VK),Inv X pins σ H s->RelV x v->Vals xs us->r x xs H Q->
  wpAny (model X.prog X.w) X.A (call (.builtin id) (v::us)) (EP X pins σ Q) X.xe s
theorem Vals.one: ∀{x:V} {us:List Value},Vals [x] us->∃u,us=[u]/\RelV x u
 | _,_,.cons r .nil=>⟨_,rfl,r⟩
theorem Vals.rep {xs:List V} {us:List Value} (h:Vals xs us): ∀k:Nat,Vals (List.replicate k xs).flatten (List.replicate k us).flatten
 | 0=>.nil
 | k+1=>by
  rw[List.replicate_succ,List.replicate_succ,List.flatten_cons,List.flatten_cons]
  exact Vals.append h (Vals.rep h k)
theorem qgd (its:List Value): ∀(k:Nat) (acc:List Value),
  List.foldl (λx1 x2=>x1++x2) acc.toArray (List.replicate k its.toArray)=(acc++(List.replicate k its).flatten).toArray
 | 0,acc=>by simp
 | k+1,acc=>by
  have e:acc.toArray++its.toArray=(acc++its).toArray:=by simp
  have e2:(acc++its)++(List.replicate k its).flatten=acc++(List.replicate (k+1) its).flatten:=by
   rw[List.replicate_succ,List.flatten_cons,List.append_assoc]
  rw[<-e2,<-qgd its k (acc++its),<-e,List.replicate_succ,List.foldl_cons]
section
variable {X:Cx} {pins:List (Addr×Obj)} {σ:St} {H:Hp} {s:Shared} {l b:Addr} {xs ys zs:List V}
theorem Inv.lset {its its':List Value} {n:Nat} {f:Array Value->Array Value} {t':Nat} (I:Inv X pins σ H s) (hH:H l=some (.lst xs))
  (e:s.heap.get? l=some { cls:=.type "list",data:=.seq its.toArray n }) (hf:f its.toArray=its'.toArray) (hv:Vals ys its') (hz:ys.length<=sizeLine):
  Inv X pins σ (upd H l (.lst ys)) { s with heap:=s.heap.update l (Obj.mapSeq f),toks:=t' }:=by
 have q:=PySem.IsL.update e f
 rw[hf] at q
 refine I.write (x:=l) (e:=l) (by rw[hH]; exact trivial) (.inl rfl) (λb' u hb hu=>(Heap.get?_update_other s.heap (Obj.mapSeq f) (Ne.symm hb)).trans hu) ⟨_,q⟩ ?_
 exact ⟨hz,its',_,hv,q⟩
theorem Inv.lnew {its:List Value} {t':Nat} (I:Inv X pins σ H s) (hv:Vals ys its) (hz:ys.length<=sizeLine):
  Inv X pins σ (upd H s.heap.objs.size (.lst ys)) { s with heap:=s.heap.push { cls:=.type "list",data:=.seq its.toArray },toks:=t' }:=
 I.laid (λ_ _ q=>Heap.get?_push_of_some _ q) (Nat.le_refl _) ⟨hz,its,0,hv,Heap.get?_push_size _ rfl⟩
theorem Inv.fresh (I:Inv X pins σ H s):H s.heap.objs.size=none:=I.hok.fresh (Nat.le_refl _)
theorem Inv.lstM (I:Inv X pins σ H s) (hH:H l=some (.lst xs)):xs.length<=sizeLine/\∃(its:List Value) (n:Nat),Vals xs its/\xs.length=its.length/\s.heap.get? l=some { cls:=.type "list",data:=.seq its.toArray n }:=by
 obtain ⟨z,its,n,r,e⟩:=I.hok l _ hH
 exact ⟨z,its,n,r,r.length,e⟩
theorem qhE {n:Nat} (h:n<=sizeLine):Builtin.List.listTooLong n=false:=by
 unfold Builtin.List.listTooLong
 exact decide_eq_false (by omega)
end
section
variable {X:Cx}
def qja:V->List V->Hp->VK->Prop:=λx vs H Q=> ∃l xs y,x= .ref l/\vs=[y]/\H l=some (.lst xs)/\xs.length<sizeLine/\Q .non (upd H l (.lst (xs++[y])))
theorem qaU:MtM X "list.append" qja:=by
 intro pins s σ H x vs v us Q I rx rv h
 obtain ⟨l,xs,y,rfl,rfl,hH,hz,q⟩:=h
 cases rx
 obtain ⟨u,rfl,ru⟩:=rv.one
 obtain ⟨z,its,n,r,hl,e⟩:=I.lstM hH
 refine call_meets F.slot_list_append ⟨_,e,rfl⟩ F.entry_list_append (F.args_list_append_2 _ _) (PySem.list_append l its.toArray n u (by rw[List.size_toArray]; omega)) ⟨e,?_⟩
 refine ⟨.non,_,I.lset (its':=its++[u]) hH e (by simp) (r.append (.cons ru .nil)) ?_,rfl,q⟩
 rw[List.length_append,List.length_singleton]
 omega
def qi9:V->List V->Hp->VK->Prop:=λx vs H Q=> ∃l b xs zs,x= .ref l/\vs=[.ref b]/\H l=some (.lst xs)/\H b=some (.lst zs)/\xs.length+zs.length<=sizeLine/\Q .non (upd H l (.lst (xs++zs)))
theorem qf6:MtM X "list.extend" qi9:=by
 intro pins s σ H x vs v us Q I rx rv h
 obtain ⟨l,b,xs,zs,rfl,rfl,hH,hB,hz,q⟩:=h
 cases rx
 obtain ⟨u,rfl,ru⟩:=rv.one
 cases ru
 obtain ⟨z,its,n,r,hl,e⟩:=I.lstM hH
 obtain ⟨z2,its2,n2,r2,hl2,e2⟩:=I.lstM hB
 have hsz:its.toArray.size+its2.toArray.size<=sizeLine:=by rw[List.size_toArray,List.size_toArray]; omega
 have hlong: ¬(!its.toArray.isEmpty&&Builtin.List.listTooLong (its.toArray.size+its2.toArray.size))=true:=by
  rw[qhE hsz,Bool.and_false]
  exact Bool.false_ne_true
 refine call_meets F.slot_list_extend ⟨_,e,rfl⟩ F.entry_list_extend (F.args_list_extend_2 _ _)
  (AutoSeq1.list_extend_list_list_0 l its.toArray n b its2.toArray n2 hlong (by rw[List.size_toArray]; omega) (by omega)) ⟨e,e2,?_⟩
 refine ⟨.non,_,I.lset (its':=its++its2) hH e (by simp) (r.append r2) ?_,rfl,q⟩
 rw[List.length_append]
 omega
def qrS:R2:=λx y H Q=> ∃l b xs zs,x= .ref l/\y= .ref b/\H l=some (.lst xs)/\H b=some (.lst zs)/\xs.length+zs.length<=sizeLine/\∀p,H p=none->Q (.ref p) (upd H p (.lst (xs++zs)))
theorem qhC:OpR X (binaryOp .Add) qrS:=by
 intro pins s σ H x y v u Q I rx ry h
 obtain ⟨l,b,xs,zs,rfl,rfl,hH,hB,hz,q⟩:=h
 cases rx
 cases ry
 obtain ⟨z,its,n,r,hl,e⟩:=I.lstM hH
 obtain ⟨z2,its2,n2,r2,hl2,e2⟩:=I.lstM hB
 refine PySem.P.add_list e e2 ?_ (by rw[List.size_toArray,List.size_toArray]; omega)
 have ea:its.toArray++its2.toArray=(its++its2).toArray:=by simp
 rw[ea]
 exact ⟨.ref _,_,I.lnew (t':=s.toks) (r.append r2) (by rw[List.length_append]; omega),rfl,q _ I.fresh⟩
def qsB:R2:=λx y H Q=> ∃l k xs,x= .ref l/\y= .int k/\H l=some (.lst xs)/\ -(2 ^ 63)<=k/\k<2 ^ 63/\xs.length*k.toNat<=sizeLine/\
 ∀p,H p=none->Q (.ref p) (upd H p (.lst (List.replicate k.toNat xs).flatten))
theorem qm9 {α:Type} (xs:List α) (k:Nat):(List.replicate k xs).flatten.length=k*xs.length:=by
 induction k with
 | zero=>simp
 | succ k ih=>rw[List.replicate_succ,List.flatten_cons,List.length_append,ih,Nat.succ_mul,Nat.add_comm]
theorem qoM:OpR X (binaryOp .Mult) qsB:=by
 intro pins s σ H x y v u Q I rx ry h
 obtain ⟨l,k,xs,rfl,rfl,hH,h1,h2,hz,q⟩:=h
 cases rx
 obtain ⟨t,rfl⟩:=ry
 obtain ⟨z,its,n,r,hl,e⟩:=I.lstM hH
 have hlen:its.toArray.size*k.toNat<=sizeLine:=by rw[List.size_toArray,<-hl]; exact hz
 have hcap: ¬its.toArray.size*k.toNat>(2 ^ 63 - 1) / 8:=by
  have:(sizeLine:Nat)<=(2 ^ 63 - 1) / 8:=by decide
  omega
 have hfit: ¬(!Builtin.List.listFitsIndex k)=true:=by
  rw[fitsIndex_both h1 h2]
  exact Bool.false_ne_true
 have hlong: ¬Builtin.List.listTooLong (its.toArray.size*k.toNat)=true:=by
  rw[qhE hlen]
  exact Bool.false_ne_true
 have hnew:List.foldl (λx1 x2=>x1++x2) #[] (List.replicate (if its.toArray.isEmpty=true then 0 else k.toNat) its.toArray)=(List.replicate k.toNat its).flatten.toArray:=by
  have f0: ∀m:Nat,List.foldl (λx1 x2=>x1++x2) #[] (List.replicate m its.toArray)=(List.replicate m its).flatten.toArray:=λm=>by
   have:=qgd its m []
   rw[List.nil_append] at this
   exact this
  rw[f0]
  cases its with
  | nil=>simp
  | cons a r'=>rw[if_neg (by simp)]
 refine wpAny_binaryOp_repeat_ref (T:= "list") (U:= "int") (by decide) ⟨_,e,rfl⟩ (λs'=>typeIs_int s' k t) noFill_list_mul F.fills_int_mul F.slot_int_rmul repeat_list F.slot_int_index.lookup
  (call_meets F.slot_int_rmul (typeIs_int s k t) F.entry_int_rmul (F.args_int_rmul_2 _ _) (int___rmul___int_list k t l its.toArray n)
   ⟨e,rfl,⟨_,e,rfl⟩,call_meets F.slot_list_mul ⟨_,e,rfl⟩ F.entry_list_mul (F.args_list_mul_2 _ _) (AutoListH.list___mul___list_int_3 l its.toArray n k t hfit hcap hlong) ⟨e,?_⟩⟩)
 rw[hnew]
 exact ⟨.ref _,_,I.lnew (t':=s.toks) (r.rep k.toNat) (by rw[qm9,Nat.mul_comm]; exact hz),rfl,q _ I.fresh⟩
end
end L2
namespace Att
open PySem PySem.W PySem.Calls PyProof.Rows
theorem qel {P:Params} {h:Heap}: ∀(ns:List Int) (vs:List Value),WellAll P h vs (ns.map WData.int)->IntsAre vs ns:=by
 intro ns
 induction ns with
 | nil=>
  intro vs w
  rw[List.map_nil] at w
  cases w
  exact .nil
 | cons n ns ih=>
  intro vs w
  rw[List.map_cons] at w
  cases w with
  | cons a b=>
   cases a
   exact .cons _ _ (ih _ b)
theorem qiY {l:OpenLaw} {n:Nat} (hn:l.most=some n) {P:Params} {h:Heap} {args:List WData} {vals:List Value}
  (hpre:l.row.toRowW.claim.pre args=true) (hwl:WellAll P h vals args):
  ∃a vs ns,vals=[Value.ref a]/\args=[WData.list (ns.map WData.int)]/\h.get? a=some { cls:=.type "list",data:=.seq vs.toArray }/\IntsAre vs ns/\ns.length<=n:=by
 have hsh:WShape.hasAll [] args [.list .int]=true:=(pre_splitW hpre).1
 have hc:l.pre.holds [] { args:=args }=true:=(pre_splitW hpre).2
 obtain ⟨d,r,rfl,h1,h2⟩:=hasAllW_cons hsh
 obtain rfl:=hasAllW_nil h2
 obtain ⟨xs,rfl,h3⟩:=hasW_list h1
 obtain ⟨ns,rfl⟩:=items_int h3
 have hlen:ns.length<=n:=by
  unfold OpenLaw.pre at hc
  have h4:(WTm.not (.lt (.lit (.int (n:Int))) (.len (.arg 0)))).holds [] { args:=[.list (ns.map .int)] }=true:=by
   have h4:=(holds_andW hc).1
   rw[hn] at h4
   exact h4
  have h5:=condW_of h4 (w_not (w_lt w_lit (w_len_list (w_arg rfl))))
  rw[List.length_map] at h5
  refine Nat.le_of_not_lt λq=> ?_
  have q':(n:Int)<((ns.length:Nat):Int):=by omega
  first
   | (rw[decide_eq_true q'] at h5; exact absurd h5 (by decide))
   | (simp at h5; omega)
 cases hwl with
 | cons w1 w2=>
  cases w2
  cases w1 with
  | list ho hall=>exact ⟨_,_,ns,rfl,rfl,ho,qel ns _ hall,hlen⟩
theorem qjd (l:OpenLaw) (args:List WData):l.row.toRowW.claim.post args (.bool true) args=true:=
 postW_of (r:=l.row.toRowW) (X:=(true==true))
  (show WShape.has [] (.bool true) .bool=true by first | rfl | decide | simp[WShape.has,WShape.arms,WShape.armsAll])
  (show (WTm.eq .res (.lit (.bool true))).value [] { args:=args,res:=some (.bool true),after:=args }=some (.bool (true==true)) from w_eq_bool (w_res rfl) w_lit) rfl
theorem attach_call {l:OpenLaw} {n:Nat} {q:Program} {loose:List Str} {XP:(Str->Option Value)->Heap->Prop} {YP:World->Heap->Prop} {d:DefRec}
  (hn:l.most=some n) (hdf:d.params.defaults=[])
  (call: ∀(w:World) (s₀ s₁:Shared) (mg mb:Str->Option Value) (fa:Addr) (o:Obj) (pm cd doc:Value) (a:Addr) (vs:List Value) (ns:List Int),
   Ground q loose [] XP w s₀ mg mb s₁.heap->YP w s₁.heap->
   s₁.heap.get? fa=some o->o.data= .func (docDef d.name d.params d.body d.scope pm cd doc)->s₁.heap.CodeRec cd d.name->mg d.name=some (.ref fa)->
   s₁.heap.get? a=some { cls:=.type "list",data:=.seq vs.toArray }->IntsAre vs ns->ns.length<=n->s₁.gens= #[]->
   codeAny (model l.prog w) callerA (.call (.ref fa) ⟨[.ref a],[]⟩) (λr s'=>r= .ok (.ret (.bool true))/\OldK s₁.heap s'.heap/\s'.os=s₁.os/\AllBare s'.gens) s₁):
  WalkO q loose XP YP l.row.toRowW d [] (λf vs=>PySem.call f vs):=by
 intro w s₀ s₁ mg mb G Y fa o pm cd doc dV kV ho hd hcd hD hmg hg args vals as hpre hlay hrd hwl hlo
 obtain rfl:dV= .none:=Dflts.none hD hdf
 obtain rfl:kV= .none:=Dflts.noKw hD
 obtain ⟨a,vs,ns,rfl,rfl,hobj,hints,hlen⟩:=qiY hn hpre hwl
 refine enter_call (codeAny_mono (call w s₀ s₁ mg mb fa o pm cd doc a vs ns G Y ho (fd_plain hd) hcd hmg hobj hints hlen hg) λr s' hq=> ?_)
 obtain ⟨rfl,h2,h3,h4⟩:=hq
 exact ⟨.inl ⟨.bool true,.bool true,[],rfl,λ_=>rfl,.bool true,qjd l _,λ_=>⟨List.Pairwise.nil,λ_ hm=>(nomatch hm)⟩⟩,h2,h3,h4⟩
section
variable {prog:Program} {w:World} {A:Around} {E:Value->Shared->Prop} {s:Shared} {K:Frag}
def qrZ (h:Heap) (L d:Addr):List (Addr×Obj):=(List.range h.objs.size).filterMap λa=>if a=L\/a=d then none else (h.get? a).map λo=>(a,o)
end
end Att
namespace L2
open PySem PySem.Spec PyProof.Rows
theorem qfO: ∀{vs:List Value} {ns:List Int},IntsAre vs ns->Vals (ns.map V.int) vs
 | _,_,.nil=>.nil
 | _,_,.cons n t h=>.cons ⟨t,rfl⟩ (qfO h)
end L2
namespace L2
open PySem PySem.Spec PyProof.Rows
abbrev KOf {K:PySem.W.Frag} {h:Heap} (_:K.In h):PySem.W.Frag:=K
end L2
namespace L2
open PySem PySem.Spec PyProof.Rows
def qaz (s:Stmt):Arguments:=match s with
 | .FunctionDef _ a _ _ _ _ _ _ _ _=>a
 | _=>{ posonlyargs:=[],args:=[],vararg:=none,kwonlyargs:=[],kw_defaults:=[],kwarg:=none,defaults:=[] }
def qav (s:Stmt):List Stmt:=match s with
 | .FunctionDef _ _ b _ _ _ _ _ _ _=>b
 | _=>[]
def qad (s:Stmt):Scope:=match s with
 | .FunctionDef _ _ _ _ _ _ sc _ _ _=>sc
 | _=>{ kind:=.function,names:=[],isGenerator:=false,isCoroutine:=false }
abbrev CX0:CXT:=λ_ _ _ _ _ _=>False
abbrev E0:XK:=λ_ _ _=>False
theorem qqS {X:Cx}:qc7 CX0 X E0:=λ_ _ _ _ _ _ _ h=>h.elim
structure Fun (K:PySem.W.Frag) (x qual:Str) (st:Stmt) (f:Addr) (fd:FuncData):Prop where
 ex: ∃(oc:Value) (od:Option Addr) (kV doc pm:Value) (an:Option Addr) (cdv ct:Value) (osl:Array (Option Value)),
  fd=PySem.W.fnOf x qual (qaz st) (qav st) (qad st) .none kV doc pm an cdv ct/\K.lookup f=some ⟨oc,od,.func fd,osl⟩/\PySem.W.codeIn K cdv qual=true
 kp:PySem.W.keepIn K (.ref f)=true
section
variable {P:Program} {w:World} {K:PySem.W.Frag} {mg:Str->Option Value} {base:Heap}
theorem Fun.ok {x qual:Str} {st:Stmt} {f:Addr} {fd:FuncData} {N ps:List Str} {k:Nat} {sp:Sp} (F:Fun K x qual st f fd) (S:qas N ps (qad st)) (len: ∀vs H Q E,sp vs H Q E->vs.length=ps.length)
  (hbody: ∀(cdv:Value) (A:Around) (outer:List Env) (s:Shared) (H:Hp) (vs:List V) (Q:VK) (E:XK),qcu k (A.deeper (envOfC qual (qad st) s.heap.objs.size f cdv))->sp vs H Q E->
   ∃t,PSs (qcZ CX0 P w K mg base N qual (qad st) f cdv A outer s H E).nox (qav st) t/\t { nx:=λ_ H'=>Q .non H',rt:=Q } (start N vs) H):qbI P w K mg base CX0 (k+1) f fd ps sp:=by
 obtain ⟨oc,od,kV,doc,pm,an,cdv,ct,osl,rfl,lk,hcd⟩:=F.ex
 refine qiv lk hcd S len λA outer s H vs Q E hr hsp=> ?_
 obtain ⟨t,h,q⟩:=hbody cdv A outer s H vs Q E hr hsp
 exact ⟨t,h.nox,q⟩
theorem Fun.binds {x qual:Str} {st:Stmt} {f:Addr} {fd:FuncData} {ps:List Str} (F:Fun K x qual st f fd)
  (h: ∀(kV doc pm:Value) (an:Option Addr) (cdv ct:Value) (us:List Value),us.length=ps.length->bindArgs (PySem.W.fnOf x qual (qaz st) (qav st) (qad st) .none kV doc pm an cdv ct) ⟨us,[]⟩=pure (ps.zip us)):qc0 K fd ps []:=by
 obtain ⟨oc,od,kV,doc,pm,an,cdv,ct,osl,rfl,lk,hcd⟩:=F.ex
 exact .all (h kV doc pm an cdv ct)
theorem qeW {x qual:Str} {st:Stmt} {f:Addr} {oc:Value} {od an:Option Addr} {osl:Array (Option Value)} {kV doc pm cdv ct:Value} (l:K.lookup f=some ⟨oc,od,.func (PySem.W.fnOf x qual (qaz st) (qav st) (qad st) .none kV doc pm an cdv ct),osl⟩)
  (c:PySem.W.codeIn K cdv qual=true) (k:PySem.W.keepIn K (.ref f)=true):Fun K x qual st f (PySem.W.fnOf x qual (qaz st) (qav st) (qad st) .none kV doc pm an cdv ct):=⟨⟨oc,od,kV,doc,pm,an,cdv,ct,osl,rfl,l,c⟩,k⟩
end
theorem qbs {n:Nat} (h:n<=1000):n<sizeLine:=Nat.lt_of_le_of_lt h (by decide)
section
variable {X:Cx}
theorem pv (i:Nat) {x:Str} {pos:Pos} (hN:X.N[i]? =some x:=by rfl) (hv:Vis X.env.scope x:=by first | exact Or.inl rfl | exact Or.inr (Or.inl rfl) | exact Or.inr (Or.inr rfl)) (hd:(x==("__debug__" :Str))=false:=by decide)
  (hcd:(x==("__classdict__" :Str))=false:=by decide):PE X (.Name x pos) (qiN i):=qjk hN hv hd hcd
end
theorem qng {A B:Prop} (h:B):if false=true then A else B:=by
 rw[if_neg Bool.false_ne_true]
 exact h
theorem qo9 {A B:Prop} (h:A):if true=true then A else B:=by
 rw[if_pos rfl]
 exact h
def qlL (H H':Hp):Prop:= ∀b o,H b=some o->H' b=some o
theorem qlL.refl (H:Hp):qlL H H:=λ_ _ h=>h
theorem qlL.seq {K:PySem.W.Frag} {H H':Hp} {a:Addr} {xs:List V} (e:qlL H H') (h:SqL K H a xs):SqL K H' a xs:=by
 rcases h with (h | ⟨o,h⟩) | h
 ·exact .inl (.inl (e _ _ h))
 ·exact .inl (.inr ⟨o,e _ _ h⟩)
 ·exact .inr h
end L2
end
section
namespace L2
open PySem PySem.Spec PyProof.Rows
def clOf (env:Env):List (Str×NameKind)->List (Str×Addr)->List (Str×Addr)
 | [],acc=>acc
 | x::r,acc=>clOf env r (if x.2== .free then (match env.cells.lookup x.1 with | some a=>(x.1,a)::acc | none=>acc) else acc)
theorem qe0 {env:Env}: ∀(names:List (Str×NameKind)) (acc:List (Str×Addr)),(∀x∈names,x.2= .free->∃c,env.cells.lookup x.1=some c)->
  (forIn names acc λx r=>(match x with | (name,kind)=>if (kind==NameKind.free)=true then do let a <-cellOf env name; pure (ForInStep.yield ((name,a)::r)) else pure (ForInStep.yield r):Sem (ForInStep (List (Str×Addr)))))=pure (clOf env names acc)
 | [],acc,_=>by rw[List.forIn_nil]; rfl
 | (n,k)::r,acc,h=>by
  rw[List.forIn_cons]
  have ih:=λacc'=>qe0 (env:=env) r acc' λx hx=>h x (List.mem_cons_of_mem _ hx)
  by_cases hk:(k==NameKind.free)=true
  ·have hk':k= .free:=by simpa using hk
   obtain ⟨c,hc⟩:=h (n,k) List.mem_cons_self hk'
   simp only[hk,if_true,cellOf,hc,clOf]
   exact ih _
  ·simp only[hk,if_false,clOf]
   exact ih _
theorem qe1 {scope:Scope} {env:Env} (h: ∀x∈scope.names,x.2= .free->∃c,env.cells.lookup x.1=some c):closureFor scope env=pure (clOf env scope.names []):=by
 have e:=qe0 (env:=env) scope.names [] h
 unfold closureFor
 exact (congrArg (λm=>m>>=λr=>pure r) e)
theorem qfG {env:Env} {x:Str} {c:Addr}: ∀(names:List (Str×NameKind)) (acc:List (Str×Addr)),(∀y d,acc.lookup y=some d->env.cells.lookup y=some d)->
  (clOf env names acc).lookup x=some c->env.cells.lookup x=some c
 | [],acc,ha,h=>ha x c h
 | (n,k)::r,acc,ha,h=>by
  refine qfG r _ (λy d hy=> ?_) h
  dsimp only at hy
  by_cases hk:(k==NameKind.free)=true
  ·rw[if_pos hk] at hy
   cases e:env.cells.lookup n with
   | none=>rw[e] at hy; exact ha y d hy
   | some a=>
    rw[e] at hy
    dsimp only at hy
    rw[List.lookup_cons] at hy
    cases hb:y==n with
    | true=>
     rw[hb] at hy
     have e1:y=n:=eq_of_beq hb
     subst e1
     rw[e]; exact hy
    | false=>rw[hb] at hy; exact ha y d hy
  ·rw[if_neg hk] at hy
   exact ha y d hy
theorem qcO {env:Env} {x:Str} {c:Addr}: ∀(names:List (Str×NameKind)) (acc:List (Str×Addr)),env.cells.lookup x=some c->(acc.lookup x=some c\/(x,NameKind.free)∈names)->
  (clOf env names acc).lookup x=some c
 | [],acc,hc,h=>by
  rcases h with h | h
  ·exact h
  ·cases h
 | (n,k)::r,acc,hc,h=>by
  refine qcO r _ hc ?_
  dsimp only
  by_cases hk:(k==NameKind.free)=true
  ·rw[if_pos hk]
   by_cases hn:x=n
   ·subst hn
    rw[hc]
    exact .inl (by simp[List.lookup_cons])
   ·have hb:(x==n)=false:=by simpa using hn
    cases e:env.cells.lookup n with
    | none=>
     rcases h with h | h
     ·exact .inl h
     ·rcases List.mem_cons.mp h with h | h
      ·cases h; exact absurd rfl hn
      ·exact .inr h
    | some a=>
     dsimp only
     rcases h with h | h
     ·exact .inl (by rw[List.lookup_cons,hb]; exact h)
     ·rcases List.mem_cons.mp h with h | h
      ·cases h; exact absurd rfl hn
      ·exact .inr h
  ·rw[if_neg hk]
   rcases h with h | h
   ·exact .inl h
   ·rcases List.mem_cons.mp h with h | h
    ·cases h; exact absurd rfl hk
    ·exact .inr h
theorem qcH {env:Env} {x:Str} {k:NameKind}: ∀{names:List (Str×NameKind)},(∀y∈names,y.2≠.cell)->k= .cell\/k= .free->
  (names.map λ(n,k)=>if (k==NameKind.free&&env.scope.kind== .function&&env.kindOf n==some .cell) then (n,NameKind.cell) else (n,k)).lookup x=some k->names.lookup x=some .free
 | [],_,_,h=>by simp at h
 | (n,k')::r,hc,hk,h=>by
  have ih:=@qcH env x k r (λy hy=>hc y (List.mem_cons_of_mem _ hy)) hk
  rw[List.map_cons] at h
  dsimp only at h
  by_cases hf:(k'==NameKind.free&&env.scope.kind== .function&&env.kindOf n==some .cell)=true
  ·rw[if_pos hf] at h
   have hk':k'= .free:=by
    have:=hf; simp only[Bool.and_eq_true,beq_iff_eq] at this; exact this.1.1
   subst hk'
   cases hx:x==n with
   | true=>simp[List.lookup_cons,hx]
   | false=>
    simp only[List.lookup_cons,hx] at h⊢
    exact ih h
  ·rw[if_neg hf] at h
   cases hx:x==n with
   | true=>
    simp only[List.lookup_cons,hx] at h⊢
    cases h
    have hne:=hc (n,k) List.mem_cons_self
    rcases hk with e | e
    ·exact absurd e hne
    ·rw[e]
   | false=>
    simp only[List.lookup_cons,hx] at h⊢
    exact ih h
theorem qdG {env:Env} {x:Str}: ∀{names:List (Str×NameKind)},names.lookup x=some .free->
  let m:=(names.map λ(n,k)=>if (k==NameKind.free&&env.scope.kind== .function&&env.kindOf n==some .cell) then (n,NameKind.cell) else (n,k)).lookup x
  m=some .cell\/m=some .free
 | [],h=>by simp at h
 | (n,k)::r,h=>by
  have ih:=@qdG env x r
  dsimp only at ih⊢
  rw[List.map_cons]
  dsimp only
  cases hx:x==n with
  | true=>
   simp only[List.lookup_cons,hx] at h
   cases h
   by_cases hf:(NameKind.free==NameKind.free&&env.scope.kind== .function&&env.kindOf n==some .cell)=true
   ·rw[if_pos hf]; exact .inl (by simp[List.lookup_cons,hx])
   ·rw[if_neg hf]; exact .inr (by simp[List.lookup_cons,hx])
  | false=>
   simp only[List.lookup_cons,hx] at h
   by_cases hf:(k==NameKind.free&&env.scope.kind== .function&&env.kindOf n==some .cell)=true
   ·rw[if_pos hf]; simp only[List.lookup_cons,hx]; exact ih h
   ·rw[if_neg hf]; simp only[List.lookup_cons,hx]; exact ih h
def qbb (X:Cx) (scope:Scope) (own:List Str) (fr:List (Str×Nat)) (fp:List Addr) (s3:Shared) (H3:Hp):Cx where
 prog:=X.prog
 w:=X.w
 K:=X.K
 mg:=X.mg
 base:=X.base
 A:=X.A
 N:=own++fr.map (·.1)
 s₀:=s3
 H₀:=H3
 env:=compEnvC scope (clOf X.env scope.names []) s3.heap.objs.size X.env
 outer:=X.stack
 stack:=X.stack
 ex:=fp
 calm:=X.calm
 fn:=λ_=>false
 pn:=[]
 xe:=λ_ _=>False
def qcl (own:List Str) (fr:List (Str×Nat)) (σ:St):St:=own.map (λ_=>none)++fr.map λp=>(σ[p.2]?).join
def qlO (Y:Cx) (ifs:List Expr) (tt:TT):Prop:=
 ∀(pins:List (Addr×Obj)) (s:Shared) (σ:St) (H:Hp) (Q:Bool->Hp->Prop),Inv Y pins σ H s->tt σ H Q->
  wpAny (model Y.prog Y.w) Y.A (forIn ifs true λc r=>if r=true then do let ok <-isTrue c Y.env (eval c Y.env); pure (ForInStep.yield ok) else pure (ForInStep.yield r)) (TP Y pins σ Q) Y.xe s
def qmD:TT:=λ_ H Q=>Q true H
theorem qk5 {Y:Cx}:qlO Y [] qmD:=λ_ _ _ H _ I h=>wpAny_tests_nil ⟨H,I,h⟩
theorem qk4 {Y:Cx} {c:Expr} {t:TT} (h:PT Y c t):qlO Y [c] t:=λpins s σ H Q I q=>wpAny_tests_one (h pins s σ H Q I q)
theorem fls {α:Type} {t:Sem α} {Q Q':α->Shared->Prop} {M:Model} {A:Around} {E:Value->Shared->Prop} {s:Shared} (h:wpAny M A t Q (λ_ _=>False) s) (hQ: ∀a s,Q a s->Q' a s):wpAny M A t Q' E s:=
 wpAny_mono h hQ λ_ _ x=>x.elim
section
variable {prog:Program} {w:World} {A:Around} {R:Result->Shared->Prop} {s:Shared}
theorem qiA {elt tg iter:Expr} {ifs:List Expr} {scope:Scope} {pos:Pos} {it acc:Value} {env:Env} (J:Nat->Shared->Prop)
  (qex: ∀n s,J n s->wpAny (model prog w) A (pyNext it) (λr s1=>match r with
   | none=>R (.ok .next) s1
   | some v=>wpAny (model prog w) A (letOwnedTupleGo tg it v) (λ_ s2=>wpAny (model prog w) A (assign tg env v) (λ_ s3=>
     wpAny (model prog w) A (forIn ifs true λc r=>if r=true then do let ok <-isTrue c env (eval c env); pure (ForInStep.yield ok) else pure (ForInStep.yield r)) (λok s4=>
      if ok=true then wpAny (model prog w) A (eval elt env) (λx s5=>wpAny (model prog w) A (call (.builtin "list.append") [acc,x]) (λ_ s6=> ∃m,m<n/\J m s6) (λ_ _=>False) s5) (λ_ _=>False) s4
      else ∃m,m<n/\J m s4) (λ_ _=>False) s3) (λ_ _=>False) s2) (λ_ _=>False) s1) (λ_ _=>False) s)
  (n:Nat) (h:J n s):codeAny (model prog w) A (.compLoop (.ListComp elt [⟨tg,iter,ifs,0⟩] scope pos) 0 it acc env) R s:=by
 refine codeAny_loop rfl J (λn s hJ=> ?_) n h
 show wpAny _ A ((compTurn (.ListComp elt [⟨tg,iter,ifs,0⟩] scope pos) 0 it acc env).onRaise (λx=>do noteFrame x env; theTreesLotGoes x)) _ _ s
 refine wpAny_noted ?_
 rw[compTurn_list]
 refine wpAny_bind (wpAny_standAt (wpAny_bind (fls (qex n s hJ) λr s1 h1=> ?_)))
 cases r with
 | none=>exact wpAny_pure h1
 | some v=>
  refine wpAny_bind (fls h1 λ_ s2 h2=>wpAny_bind (fls h2 λ_ s3 h3=>wpAny_bind (fls h3 λok s4 h4=> ?_)))
  cases ok with
  | false=>exact wpAny_pure ⟨rfl,h4⟩
  | true=>exact wpAny_bind (wpAny_bind (fls h4 λx s5 h5=>wpAny_bind (fls h5 λ_ s6 h6=>wpAny_pure (wpAny_pure ⟨rfl,h6⟩))))
end
end L2
end
section
namespace L2
open PySem PySem.Spec PyProof.Rows
def qpF (J:It) (D:Addr) (g:TG) (tt:TT) (te:TE) (σ0:St) (H0:Hp) (Q:Addr->Hp->Prop):Prop:=
 ∃W:Nat->Nat->St->Hp->Prop,(∃m,W 0 m σ0 H0)/\∀i m σ1 H2,W i m σ1 H2->
  (J.stop i H2/\Q D H2)\/(J.go i H2/\∃(Ny:St->V->Hp->Prop) (Nn:St->Hp->Prop),
   (∀σ2 y H6,Ny σ2 y H6->∃ys,H6 D=some (.lst ys)/\ys.length<sizeLine/\∃m',m'<m/\W (i+1) m' σ2 (upd H6 D (.lst (ys++[y]))))/\
   (∀σ2 H5,Nn σ2 H5->∃m',m'<m/\W (i+1) m' σ2 H5)/\
   ∀x H3,J.yld i H2 x H3->g x σ1 H3 λσ2 H4=>tt σ2 H4 λb H5=>if b=true then te σ2 H5 (Ny σ2) else Nn σ2 H5)
def qhr (wi:TI) (g:TG) (tt:TT) (te:TE) (own:List Str) (fr:List (Str×Nat)) (σ:St) (H:Hp) (Q:Addr->Hp->Prop):Prop:=
 wi σ H λJ H1=> ∀D,H1 D=none->qpF J D g tt te (qcl own fr σ) (upd H1 D (.lst [])) Q
section
variable {X:Cx} {elt tg iter:Expr} {ifs:List Expr} {scope:Scope} {pos ppos:Pos} {own:List Str} {fr:List (Str×Nat)} {wi:TI} {g:TG} {tt:TT} {te:TE}
theorem qgq {use:Option (Value->Sem Unit)} {Qf:Value->Shared->Prop} {pins:List (Addr×Obj)} {σ:St} {H:Hp} {s:Shared} {Q:Addr->Hp->Prop}
  (hc:X.calm=true) (hi:PI X tg iter wi) (hk:scope.kind= .function) (hcell: ∀y∈scope.names,y.2≠.cell) (hnames: ∀y∈scope.names,y.2= .local->scope.names.lookup y.1=some .local)
  (hfree: ∀y∈scope.names,y.2= .free->X.env.kindOf y.1=some .cell\/X.env.kindOf y.1=some .free) (hfr: ∀p∈fr,X.N[p.2]? =some p.1/\scope.names.lookup p.1=some .free)
  (hb: ∀(fp:List Addr) (s3:Shared) (H3:Hp),PG (qbb X scope own fr fp s3 H3) tg g/\qlO (qbb X scope own fr fp s3 H3) ifs tt/\PE (qbb X scope own fr fp s3 H3) elt te)
  (hs: ∀x,foldedSetIterable iter X.env x=pure x) (I:Inv X pins σ H s) (h:qhr wi g tt te own fr σ H Q)
  (fin: ∀(D C:Addr) (H':Hp) (s':Shared) (m:Str->Option Value),Inv X pins σ H' s'->qiH X pins H' C->s'.heap.Ns C m->Q D H'->compPost (model X.prog X.w) X.A X.xe use Qf (.ref D) C (.ok .next) s'):
  wpAny (model X.prog X.w) X.A (comprehension (.ListComp elt [⟨tg,iter,ifs,0⟩] scope pos) scope X.env ppos (newList []) false (eval iter X.env) use) Qf X.xe s:=by
 have hcel: ∀x∈scope.names,x.2= .free->∃c,X.env.cells.lookup x.1=some c:=λx hx e=>I.ok.has x.1 (hfree x hx e)
 refine wpAny_comprehension_free (cl:=clOf X.env scope.names []) rfl hs (qe1 hcel) hk hnames ?_
 refine thn (hi pins s σ H _ I h) λxv s1 h1=>thn h1 λitv s2 h2=> ?_
 obtain ⟨it,fp,tn,J,H2,rfl,I2,T,st2,f2,h2⟩:=h2
 refine wpAny_newObj_type (hd:=by size_fits) ?_
 generalize hD:s2.heap.objs.size=D
 have I3:Inv X pins σ (upd H2 D (.lst [])) { s2 with heap:=s2.heap.push { cls:=.type "list",dict:=none,data:=.seq ([]:List Value).toArray } }:=by
  rw[<-hD]
  exact I2.lnew (its:=[]) (ys:=[]) (t':=s2.toks) .nil (Nat.zero_le _)
 have nD:H2 D=none:=I2.hok.fresh (Nat.le_of_eq hD)
 obtain ⟨W,⟨m0,w0⟩,qex⟩:=h2 D nD
 have f3: ∀b∈fp,b<s2.heap.objs.size/\qiH X pins (upd H2 D (.lst [])) b:=λb hb=>by
  obtain ⟨o,e,_⟩:=T.obj _ _ st2 b hb
  have lt:=Heap.lt_size e
  exact ⟨lt,by rw[qae (by rw[<-hD]; exact Nat.ne_of_lt lt)]; exact (f2 b hb).1,(f2 b hb).2⟩
 have st3:tn 0 (s2.heap.push { cls:=.type "list",dict:=none,data:=.seq ([]:List Value).toArray }):=T.keep _ _ _ st2 λb _ o e=>Heap.get?_push_of_some _ e
 generalize hs3:({ s2 with heap:=s2.heap.push { cls:=.type "list",dict:=none,data:=.seq ([]:List Value).toArray } }:Shared)=s3 at I3⊢
 have hh3:s3.heap=s2.heap.push { cls:=.type "list",dict:=none,data:=.seq ([]:List Value).toArray }:=by rw[<-hs3]
 rw[<-hh3] at st3
 have sz3:s3.heap.objs.size=s2.heap.objs.size+1:=by rw[hh3,Heap.size_push]
 generalize hH3:upd H2 D (.lst [])=H3 at I3 w0 f3
 refine wpAny_newFunctionEnv hcell (by intro y hy; simp at hy) (λh4 hn4 hs4=> ?_) hk
 have old4: ∀b o,s3.heap.get? b=some o->h4.get? b=some o:=λb o e=>
  (hs4.2 b (Nat.ne_of_lt (Heap.lt_size e))).trans (Heap.get?_push_of_some _ e)
 generalize hs4':({ s3 with heap:=h4,toks:=s3.toks+([]:List (Str×Value)).length }:Shared)=s4
 have hh4:s4.heap=h4:=by rw[<-hs4']
 have cl_sub: ∀x c,(clOf X.env scope.names []).lookup x=some c->X.env.cells.lookup x=some c:=λx c=>qfG _ _ (λ_ _ z=>by cases z)
 have Y0:Inv (qbb X scope own fr fp s3 H3) [] (qcl own fr σ) H3 s4:=by
  refine ⟨⟨I3.ok.mod,hk,I3.ok.glob,I3.ok.blt,Nat.le_refl _,λx y c h1 h2=>I3.ok.inj x y c (cl_sub x c h1) (cl_sub y c h2),λx hx=> ?_,λx c z=>absurd (show false=true from z) Bool.false_ne_true,I3.ok.hd,I3.ok.frames,.inl rfl,λb hb=>⟨?_,λx c e=>(f3 b hb).2.2.2.2.2.1 x c (cl_sub x c e)⟩,
   I3.bs,Nat.le_trans I3.ok.bsz I3.sz,λb o e hb=> ?_,λb hb z=> ?_,I3.stack,I3.stkFree⟩,by rw[<-hs4']; rfl,by rw[<-hs4']; exact I3.bare,?_,⟨_,by rw[hh4]; exact hn4,λi x v e1 e2 e3=> ?_⟩,λx c e=> ?_,I3.hok.fresh (Nat.le_refl _),λx c e=>I3.freeC x c (cl_sub x c e),λp hp=>absurd (show p∈([]:List (Addr×Obj)) from hp) (by simp),?_,?_⟩
  ·have hx':(relabel scope X.env).names.lookup x=some .cell\/(relabel scope X.env).names.lookup x=some .free:=hx
   have hf:scope.names.lookup x=some .free:=by
    rcases hx' with z | z
    ·exact qcH hcell (.inl rfl) z
    ·exact qcH hcell (.inr rfl) z
   obtain ⟨c,hc⟩:=hcel (x,.free) (PySem.mem_of_lookup hf) rfl
   exact ⟨c,qcO _ _ hc (.inr (PySem.mem_of_lookup hf))⟩
  ·have:=(f3 b hb).1
   exact Nat.ne_of_lt (Nat.lt_of_lt_of_le this (show s2.heap.objs.size<=s3.heap.objs.size by rw[sz3]; exact Nat.le_succ _))
  ·rcases (f3 b hb).2.2.2.2.1 with z | z
   ·exact I3.ok.noex b o e z
   ·exact absurd (Nat.lt_of_lt_of_le (Heap.lt_size (I3.ok.bs b o e).1) z) (Nat.lt_irrefl _)
  ·rcases List.mem_cons.mp (I3.stkSub b z) with q | q
   ·exact (f3 b hb).2.2.1 q
   ·exact (f3 b hb).2.2.2.1 q
  ·exact Un.kept (by rw[hh4]; exact old4)
  ·
   have hi':own.length<=i:=by
    by_cases q:own.length<=i
    ·exact q
    ·exfalso
     have e2':(own.map (λ_=>(none:Option V))++fr.map λp=>(σ[p.2]?).join)[i]? =some (some v):=e2
     rw[List.getElem?_append_left (by simpa using q),List.getElem?_map] at e2'
     cases q2:own[i]? with
     | none=>rw[q2] at e2'; cases e2'
     | some z=>rw[q2] at e2'; cases e2'
   have e2':(own.map (λ_=>(none:Option V))++fr.map λp=>(σ[p.2]?).join)[i]? =some (some v):=e2
   rw[List.getElem?_append_right (by simpa using hi'),List.getElem?_map,List.length_map] at e2'
   have e1':(own++fr.map (·.1))[i]? =some x:=e1
   rw[List.getElem?_append_right hi',List.getElem?_map] at e1'
   cases q2:fr[i - own.length]? with
   | none=>rw[q2] at e2'; cases e2'
   | some p=>
    rw[q2] at e1' e2'
    obtain rfl:p.1=x:=Option.some.inj e1'
    have e4:(σ[p.2]?).join=some v:=Option.some.inj e2'
    have e5:σ[p.2]? =some (some v):=by
     cases q3:σ[p.2]? with
     | none=>rw[q3] at e4; cases e4
     | some z=>rw[q3] at e4; exact congrArg some e4
    obtain ⟨g1,g2⟩:=hfr p (List.mem_of_getElem? q2)
    have kx:=hfree (p.1,.free) (PySem.mem_of_lookup g2) rfl
    obtain ⟨mX,hnX,hlX⟩:=I3.loc
    obtain ⟨u,ru,lu⟩:=hlX p.2 p.1 v g1 e5 (kx.elim (λz=>.inr (.inl z)) λz=>.inr (.inr z))
    refine ⟨u,ru,.inr ⟨qdG g2,?_⟩⟩
    rcases lu with ⟨z,_⟩ | ⟨_,c,e6,e7⟩
    ·rcases kx with kx | kx
     ·rw[kx] at z; cases z
     ·rw[kx] at z; cases z
    ·obtain ⟨oc,hoc,hd⟩:=e7
     exact ⟨c,qcO _ _ e6 (.inr (PySem.mem_of_lookup g2)),oc,by rw[hh4]; exact old4 _ _ hoc,hd⟩
  ·obtain ⟨v,oc,hoc,hd⟩:=I3.cell x c (cl_sub x c e)
   exact ⟨v,oc,by rw[hh4]; exact old4 _ _ hoc,hd⟩
  ·exact I3.hok.kept (by rw[hh4]; exact old4)
  ·show (own.map (λ_=>(none:Option V))++fr.map λp=>(σ[p.2]?).join).length=(own++fr.map (·.1)).length
   simp
 have fY: ∀{H':Hp},(∀b∈fp,H' b=none)->∀b∈fp,qiH (qbb X scope own fr fp s3 H3) [] H' b:=λ{H'} hn b hb=>
  ⟨hn b hb,(Y0.ok.exf b hb).1,Y0.ok.exfs b hb,.inl hb,(Y0.ok.exf b hb).2,λp hp=>absurd (show p∈([]:List (Addr×Obj)) from hp) (by simp)⟩
 have st4:tn 0 s4.heap:=T.keep _ _ _ st3 (by rw[hh4]; exact λb _ o e=>old4 b o e)
 have hcY:(qbb X scope own fr fp s3 H3).calm=true:=hc
 obtain ⟨hg,ht,he⟩:=hb fp s3 H3
 have loop:codeAny (model X.prog X.w) X.A (.compLoop (.ListComp elt [⟨tg,iter,ifs,0⟩] scope pos) 0 (.ref it) (.ref D) (compEnvC scope (clOf X.env scope.names []) s3.heap.objs.size X.env)) (compPost (model X.prog X.w) X.A X.xe use Qf (.ref D) s3.heap.objs.size) s4:=by
  refine qiA (λn s'=> ∃i σ' H',Inv (qbb X scope own fr fp s3 H3) [] σ' H' s'/\tn i s'.heap/\(∀b∈fp,H' b=none)/\W i n σ' H') ?_ m0 ⟨0,_,_,Y0,st4,λb hb=>(f3 b hb).2.1,w0⟩
  rintro n s5 ⟨i,σ5,H5,I5,st5,fr5,w5⟩
  rcases qex i n σ5 H5 w5 with ⟨stop,q⟩ | ⟨go,Ny,Nn,hNy,hNn,step⟩
  ·refine thn (T.done (qbb X scope own fr fp s3 H3) rfl rfl rfl hcY i [] s5 σ5 H5 _ I5 (fY fr5) st5 stop) λr s6 hq127=> ?_
   obtain ⟨hr,I6⟩:=hq127
   subst hr
   have IX:Inv X pins σ H5 s6:=I3.call' (ch:=fp) I6.os I6.base I6.hok I6.bare λb hb=>⟨(f3 b hb).2.2.2.2.1,(f3 b hb).2.2.1,(f3 b hb).2.2.2.2.2.1,(f3 b hb).2.2.2.2.2.2⟩
   obtain ⟨m6,hn6,_⟩:=I6.loc
   exact fin D _ H5 s6 m6 IX (I3.fpOk (Nat.le_refl _) I6.free) hn6 q
  ·refine thn (T.item (qbb X scope own fr fp s3 H3) rfl rfl rfl hcY i [] s5 σ5 H5 _ I5 (fY fr5) st5 go) λr s6 hq132=> ?_
   obtain ⟨u,hr,h6⟩:=hq132
   subst hr
   refine thn h6 λ_ s7 hq134=> ?_
   obtain ⟨x,H7,I7,r7,y7,st7,fr7⟩:=hq134
   have I7':=I7.pinned (fY fr7) (T.obj _ _ st7)
   refine thn (hg _ s7 σ5 H7 x u _ I7' r7 (step x H7 y7)) λ_ s8 hq136=> ?_
   obtain ⟨σ8,H8,I8,q8⟩:=hq136
   refine thn (ht _ s8 σ8 H8 _ I8 q8) λb s9 hq137=> ?_
   obtain ⟨H9,I9,q9⟩:=hq137
   have again: ∀{s':Shared} {H':Hp} {m':Nat},Inv (qbb X scope own fr fp s3 H3) ([]++qf1 fp s7.heap) σ8 H' s'->m'<n->W (i+1) m' σ8 H'->∃m,m<n/\∃i σ' H',Inv (qbb X scope own fr fp s3 H3) [] σ' H' s'/\tn i s'.heap/\(∀b∈fp,H' b=none)/\W i m σ' H':=λ{s' H' m'} I' hm w'=>by
    refine ⟨m',hm,i+1,σ8,H',I'.unpinned,T.keep _ _ _ st7 λb hb o e=>(I'.pin (b,o) (List.mem_append_right _ (List.mem_append_right _ (qcX hb e)))).1,λb hb=> ?_,w'⟩
    obtain ⟨o,e,d⟩:=T.obj _ _ st7 b hb
    exact (I'.pin (b,o) (List.mem_append_right _ (List.mem_append_right _ (qcX hb e)))).2.1
   cases b with
   | false=>
    obtain ⟨m',hm,w'⟩: ∃m',m'<n/\W (i+1) m' σ8 H9:=hNn σ8 H9 (by simpa using q9)
    show ∃m,_
    exact again I9 hm w'
   | true=>
    have q9':te σ8 H9 (Ny σ8):=by simpa using q9
    show wpAny _ _ _ _ _ _
    refine thn (he _ s9 σ8 H9 _ I9 q9') λxv s10 hq150=> ?_
    obtain ⟨y,H10,I10,r10,q10⟩:=hq150
    obtain ⟨ys,hys,hlen,m',hm,w'⟩:=hNy σ8 y H10 q10
    refine thn (qaU _ s10 σ8 H10 (.ref D) [y] (.ref D) [xv] (λ_ H'=> ∃m',m'<n/\W (i+1) m' σ8 H') I10 rfl (.cons r10 .nil) ⟨D,ys,y,rfl,rfl,hys,hlen,m',hm,w'⟩) λ_ s11 hq152=> ?_
    obtain ⟨_,H11,I11,_,m2,hm2,w2⟩:=hq152
    exact again I11 hm2 w2
 refine codeAny_compStart_list ?_ ?_
 ·exact loop
 ·exact T.self X.A 0 s4 _ _ st4 loop
theorem qmW (hc:X.calm=true) (hi:PI X tg iter wi) (hk:scope.kind= .function) (hcell: ∀y∈scope.names,y.2≠.cell) (hnames: ∀y∈scope.names,y.2= .local->scope.names.lookup y.1=some .local)
  (hfree: ∀y∈scope.names,y.2= .free->X.env.kindOf y.1=some .cell\/X.env.kindOf y.1=some .free) (hfr: ∀p∈fr,X.N[p.2]? =some p.1/\scope.names.lookup p.1=some .free)
  (hb: ∀(fp:List Addr) (s3:Shared) (H3:Hp),PG (qbb X scope own fr fp s3 H3) tg g/\qlO (qbb X scope own fr fp s3 H3) ifs tt/\PE (qbb X scope own fr fp s3 H3) elt te)
  (hs: ∀x,foldedSetIterable iter X.env x=pure x:=by intro _; rfl):
  PE X (.ListComp elt [⟨tg,iter,ifs,0⟩] scope pos) (λσ H Q=>qhr wi g tt te own fr σ H λD H'=>Q (.ref D) H'):=by
 intro pins s σ H Q I h
 rw[eval_ListComp]
 refine qgq (use:=none) hc hi hk hcell hnames hfree hfr hb hs I h λD C H' s' m I' f' hn q=> ?_
 obtain ⟨f0,f1,f2,f3,f4,f5⟩:=f'
 exact ⟨m,hn,λh' hs'=>⟨.ref D,H',I'.turned (t':=s'.toks) (λb o hb e=>(hs'.2 b hb).trans e) f0 f1 f3 f4 f5,rfl,q⟩⟩
theorem ps_setcomp {i:Nat} {y:Str} {py spos:Pos} (hc:X.calm=true) (hi:PI X tg iter wi) (hk:scope.kind= .function) (hcell: ∀y∈scope.names,y.2≠.cell) (hnames: ∀y∈scope.names,y.2= .local->scope.names.lookup y.1=some .local)
  (hfree: ∀y∈scope.names,y.2= .free->X.env.kindOf y.1=some .cell\/X.env.kindOf y.1=some .free) (hfr: ∀p∈fr,X.N[p.2]? =some p.1/\scope.names.lookup p.1=some .free)
  (hb: ∀(fp:List Addr) (s3:Shared) (H3:Hp),PG (qbb X scope own fr fp s3 H3) tg g/\qlO (qbb X scope own fr fp s3 H3) ifs tt/\PE (qbb X scope own fr fp s3 H3) elt te)
  (hN:X.N.Nodup) (hiN:X.N[i]? =some y) (hy:X.env.scope.names.lookup y=some .local)
  (hsw:swapsWith (.ListComp elt [⟨tg,iter,ifs,0⟩] scope pos) (some (.Name y py)) spos.line X.env=pure true) (hs: ∀x,foldedSetIterable iter X.env x=pure x:=by intro _; rfl):
  PS X (.Assign [.Name y py] (.ListComp elt [⟨tg,iter,ifs,0⟩] scope pos) spos) (λD σ H=>qhr wi g tt te own fr σ H λd H'=>D.nx (σ.set i (some (.ref d))) H'):=by
 intro pins s σ H D I h
 rw[exec_Assign_Name_used _ _ _ _ hsw]
 refine wpAny_bind (wpAny_standAt (wpAny_bind ?_))
 show wpAny _ _ (do let _ <-comprehension (.ListComp elt [⟨tg,iter,ifs,0⟩] scope pos) scope X.env _ (newList []) false (eval iter X.env) (some (assign (.Name y py) X.env))) _ _ s
 refine wpAny_bind (thn (qgq (use:=some (assign (.Name y py) X.env)) (Qf:=λ_ s'=>SP X pins D .next s') hc hi hk hcell hnames hfree hfr hb hs I h λd C H' s' m I' f' hn q=> ?_) λ_ s' hq=>wpAny_pure (wpAny_pure hq))
 obtain ⟨f0,f1,f2,f3,f4,f5⟩:=id f'
 show wpAny _ _ (assign (.Name y py) X.env (.ref d)) _ _ s'
 refine wpAny_assign_Name (qfS I' hN hiN (.inl hy) (v:=.ref d) rfl (λs'' I'' ⟨a,sb,ha⟩=> ?_) (.inr hy))
 have hne:C≠a:=by
  rcases ha with rfl | ha
  ·exact f1
  ·exact λz=>f4 y a ha z.symm
 refine ⟨m,hn.sameBut sb hne,λh' hs'=>⟨_,H',I''.turned (t':=s''.toks) (λb o hb e=>(hs'.2 b hb).trans e) f0 f1 f3 f4 f5,q⟩⟩
end
theorem qlD {J:It} {n:Nat} {D:Addr} {g:TG} {tt:TT} {te:TE} {σ0:St} {H0:Hp} {Q:Addr->Hp->Prop} (Pv:Nat->List V->St->Hp->Prop) (h0:Pv 0 [] σ0 H0) (hn:n<=sizeLine) (hD: ∀i ys σ H,Pv i ys σ H->H D=some (.lst ys)) (hl: ∀i ys σ H,Pv i ys σ H->ys.length<=i)
  (hgo: ∀i ys σ H,i<n->Pv i ys σ H->J.go i H) (hstop: ∀ys σ H,Pv n ys σ H->J.stop n H/\Q D H)
  (hs: ∀i ys σ H x H',i<n->Pv i ys σ H->J.yld i H x H'->g x σ H' λσ2 H4=>tt σ2 H4 λb H5=>if b=true then te σ2 H5 λy H6=>H6 D=some (.lst ys)/\Pv (i+1) (ys++[y]) σ2 (upd H6 D (.lst (ys++[y]))) else Pv (i+1) ys σ2 H5):
  qpF J D g tt te σ0 H0 Q:=by
 refine ⟨λi m σ H=>m=n - i/\i<=n/\∃ys,Pv i ys σ H,⟨n,by simp,Nat.zero_le _,[],h0⟩,?_⟩
 rintro i m σ H ⟨rfl,hi,ys,p⟩
 by_cases hlt:i<n
 ·refine .inr ⟨hgo i ys σ H hlt p,λσ2 y H6=>H6 D=some (.lst ys)/\Pv (i+1) (ys++[y]) σ2 (upd H6 D (.lst (ys++[y]))),λσ2 H5=>Pv (i+1) ys σ2 H5,λσ2 y H6 q=>⟨ys,q.1,?_,n - (i+1),by lia,rfl,hlt,_,q.2⟩,λσ2 H5 q=>⟨n - (i+1),by lia,rfl,hlt,ys,q⟩,λx H3 y=>hs i ys σ H x H3 hlt p y⟩
  have:=hl i ys σ H p
  lia
 ·have e:i=n:=by lia
  subst e
  exact .inl (hstop ys σ H p)
end L2
end
section
namespace St
open PySem.W PyProof.Rows
def good {α:Type} (N:Nat) (ask:Nat->Nat->Bool):KasT α->(α->Prop)->Prop
 | .ret a,Q=>Q a
 | .ask i j k,Q=>i<N/\j<N/\good N ask (k (ask i j)) Q
theorem qco {α β:Type} {N:Nat} {ask:Nat->Nat->Bool} {f:α->KasT β} {Q:β->Prop}: ∀{t:KasT α},good N ask t (λa=>good N ask (f a) Q)->good N ask (t.bind f) Q
 | .ret _,h=>h
 | .ask _ _ _,⟨h1,h2,h⟩=>⟨h1,h2,qco h⟩
theorem qbE {α:Type} {N:Nat} {ask:Nat->Nat->Bool} {Q Q':α->Prop} (hq: ∀a,Q a->Q' a): ∀{t:KasT α},good N ask t Q->good N ask t Q'
 | .ret _,h=>hq _ h
 | .ask _ _ _,⟨h1,h2,h⟩=>⟨h1,h2,qbE hq h⟩
def g (p:Array Nat) (i:Nat):Nat:=p.getD i 0
theorem qpe {p q:Array Nat} {i j:Nat} (h:p[i]? =q[j]?):g p i=g q j:=by
 unfold g
 rw[Array.getD_eq_getD_getElem?,Array.getD_eq_getD_getElem?,h]
theorem qlq {p:Array Nat} {i j:Nat} (hj:j<=p.size) (t:Nat):g (kas_rev p i j) t=if i<=t/\t<j then g p (i+j - 1 - t) else g p t:=by
 have e:=getElem?_mirror_all (i:=i) hj t
 by_cases h1:i<=t/\t<j
 ·rw[if_pos h1] at e⊢; exact qpe e
 ·rw[if_neg h1] at e⊢; exact qpe e
theorem qrp {p:Array Nat} {k l:Nat} (hk:k<p.size) (hl:l<=k) (t:Nat):g (bubble p k (k - l)) t=if t=l then g p k else if l<t/\t<=k then g p (t - 1) else g p t:=by
 have e:=getElem?_bubble hk (k - l) (Nat.sub_le _ _) t
 rw[show k - (k - l)=l by lia] at e
 by_cases h1:t=l
 ·rw[if_pos h1] at e⊢; exact qpe e
 ·rw[if_neg h1] at e⊢
  by_cases h2:l<t/\t<=k
  ·rw[if_pos h2] at e⊢; exact qpe e
  ·rw[if_neg h2] at e⊢; exact qpe e
theorem qff (p:Array Nat) (i j:Nat):(kas_rev p i j).size=p.size:=mirror_size _ _ _ _
section
variable (N:Nat) (k:Nat->Int)
def L (a b:Nat):Prop:=k a<k b\/(k a=k b/\a<b)
structure Pre (n:Nat) (p:Array Nat):Prop where
 sz:p.size=N
 lo: ∀i,i<n->g p i<n
 hi: ∀i,n<=i->i<N->g p i=i
def Srt (p:Array Nat) (n:Nat):Prop:= ∀i j,i<j->j<n->L k (g p i) (g p j)
def Dsc (p:Array Nat) (n:Nat):Prop:= ∀i j,i<j->j<n->L k (g p j) (g p i)
structure qnK (p:Array Nat) (n q:Nat):Prop where
 pre:Pre N n p
 q1:q+1<=n
 a: ∀i j,i<j->j<n - (q+1)->L k (g p j) (g p i)
 b: ∀i j,i<n - (q+1)->n - (q+1)<=j->j<n->k (g p j)<k (g p i)
 c: ∀i j,n - (q+1)<=i->i<j->j<n->k (g p i)=k (g p j)/\g p i<g p j
def qdc:Nat->Nat->Bool:=λi j=>decide (k i<k j)
end
section
variable {N:Nat} {k:Nat->Int}
theorem Pre.lt {n:Nat} {p:Array Nat} (h:Pre N n p) (hn:n<=N) {i:Nat} (hi:i<N):g p i<N:=by
 by_cases q:i<n
 ·exact Nat.lt_of_lt_of_le (h.lo i q) hn
 ·rw[h.hi i (by lia) hi]; exact hi
theorem L.le {a b:Nat} (h:L k a b):k a<=k b:=by
 rcases h with h | h
 ·lia
 ·lia
theorem Pre.more {n:Nat} {p:Array Nat} (h:Pre N n p) (hn:n<N):Pre N (n+1) p:=
 ⟨h.sz,λi hi=>by
  by_cases q:i<n
  ·exact Nat.lt_succ_of_lt (h.lo i q)
  ·have e:i=n:=by lia
   subst e
   rw[h.hi i (Nat.le_refl _) hn]; lia,λi h1 h2=>h.hi i (by lia) h2⟩
theorem qkB {p:Array Nat}: ∀(f n:Nat),1<=n->n+f<=N->Pre N n p->Srt k p n->
  good N (qdc k) (kas_asc p f n) λm=>n<=m/\m<=n+f/\Pre N m p/\Srt k p m/\(m=n+f\/k (g p m)<k (g p (m - 1)))
 | 0,n,h1,hf,hp,hs=>⟨Nat.le_refl _,Nat.le_refl _,hp,hs,.inl rfl⟩
 | f+1,n,h1,hf,hp,hs=>by
  refine ⟨hp.lt (by lia) (by lia),hp.lt (by lia) (by lia),?_⟩
  show good N (qdc k) (if qdc k (g p n) (g p (n - 1))=true then .ret n else kas_asc p f (n+1)) _
  by_cases hc:k (g p n)<k (g p (n - 1))
  ·rw[if_pos (by simpa [qdc] using hc)]
   exact ⟨Nat.le_refl _,by lia,hp,hs,.inr hc⟩
  ·rw[if_neg (by simpa [qdc] using hc)]
   have hs':Srt k p (n+1):=λi j hij hj=>by
    by_cases q:j<n
    ·exact hs i j hij q
    ·have e:j=n:=by lia
     subst e
     have en:=hp.hi j (Nat.le_refl _) (by lia)
     have lt:=hp.lo i hij
     have le:k (g p i)<=k (g p (j - 1)):=by
      by_cases q2:i=j - 1
      ·rw[q2]; exact Int.le_refl _
      ·exact (hs i (j - 1) (by lia) (by lia)).le
     unfold L
     rw[en] at hc⊢
     lia
   refine qbE (λm h=> ?_) (qkB f (n+1) (by lia) (by lia) (hp.more (by lia)) hs')
   obtain ⟨a,b,c,d,e⟩:=h
   exact ⟨by lia,by lia,c,d,e.elim (λz=>.inl (by lia)) .inr⟩
def fin (p:Array Nat) (n q:Nat):Array Nat:=if q>0 then kas_rev p (n - (q+1)) n else p
theorem qnK.fin {p:Array Nat} {n q:Nat} (h:qnK N k p n q) (hn:n<=N):Pre N n (fin p n q)/\Dsc k (fin p n q) n:=by
 unfold St.fin
 by_cases hq:q>0
 ·rw[if_pos hq]
  have gr:=qlq (p:=p) (i:=n - (q+1)) (j:=n) (by rw[h.pre.sz]; exact hn)
  refine ⟨⟨by rw[qff]; exact h.pre.sz,λi hi=> ?_,λi h1 h2=> ?_⟩,λi j hij hj=> ?_⟩
  ·rw[gr]
   split
   ·exact h.pre.lo _ (by lia)
   ·exact h.pre.lo _ hi
  ·rw[gr,if_neg (by lia)]; exact h.pre.hi i h1 h2
  ·rw[gr,gr]
   have hq1:=h.q1
   by_cases q1:n - (q+1)<=j
   ·rw[if_pos (show n - (q+1)<=j/\j<n from ⟨q1,hj⟩)]
    by_cases q2:n - (q+1)<=i
    ·rw[if_pos (show n - (q+1)<=i/\i<n from ⟨q2,by lia⟩)]
     have e:=h.c (n - (q+1)+n - 1 - j) (n - (q+1)+n - 1 - i) (by lia) (by lia) (by lia)
     exact .inr e
    ·rw[if_neg (by lia)]
     exact .inl (h.b i _ (by lia) (by lia) (by lia))
   ·rw[if_neg (by lia),if_neg (by lia)]
    exact h.a i j hij (by lia)
 ·rw[if_neg hq]
  have e:q=0:=by lia
  subst e
  refine ⟨h.pre,λi j hij hj=> ?_⟩
  have hq1:=h.q1
  by_cases q1:j<n - (0+1)
  ·exact h.a i j hij q1
  ·exact .inl (h.b i j (by lia) (by lia) hj)
theorem qhb: ∀(f:Nat) (p:Array Nat) (n q:Nat),n+f<=N->qnK N k p n q->
  good N (qdc k) (kas_desc f p n q) λr=>n<=r.2.1/\r.2.1<=n+f/\qnK N k r.1 r.2.1 r.2.2
 | 0,p,n,q,hf,h=>⟨Nat.le_refl _,Nat.le_refl _,h⟩
 | f+1,p,n,q,hf,h=>by
  have hq1:=h.q1
  have lt: ∀{i},i<N->g p i<N:=λhi=>h.pre.lt (by lia) hi
  refine ⟨lt (by lia),lt (by lia),?_⟩
  have en:=h.pre.hi n (Nat.le_refl _) (by lia)
  show good N (qdc k) (if qdc k (g p n) (g p (n - 1))=true then (if q>0 then kas_desc f (kas_rev p (n - (q+1)) n) (n+1) 0 else kas_desc f p (n+1) 0)
   else .ask (g p (n - 1)) (g p n) λd=>if d=true then .ret (p,n,q) else kas_desc f p (n+1) (q+1)) _
  have kle: ∀i,i<n->k (g p (n - 1))<=k (g p i):=λi hi=>by
   by_cases q1:i<n - (q+1)
   ·exact Int.le_of_lt (h.b i (n - 1) q1 (by lia) (by lia))
   ·by_cases q2:i=n - 1
    ·rw[q2]; exact Int.le_refl _
    ·exact Int.le_of_eq (h.c i (n - 1) (by lia) (by lia) (by lia)).1.symm
  by_cases hc:k (g p n)<k (g p (n - 1))
  ·rw[if_pos (by simpa [qdc] using hc)]
   have key:qnK N k (fin p n q) (n+1) 0:=by
    obtain ⟨fp,fd⟩:=h.fin (by lia)
    have e2:=fp.hi n (Nat.le_refl _) (by lia)
    refine ⟨fp.more (by lia),by lia,λi j hij hj=>fd i j hij (by lia),λi j hi h1 h2=> ?_,λi j h1 h2 h3=>by lia⟩
    have ej:j=n:=by lia
    subst ej
    rw[e2]
    rw[en] at hc
    refine Int.lt_of_lt_of_le hc ?_
    have: ∃i',i'<j/\g (fin p j q) i=g p i':=by
     unfold St.fin
     by_cases hq:q>0
     ·rw[if_pos hq,qlq (by rw[h.pre.sz]; lia)]
      split
      ·exact ⟨_,by lia,rfl⟩
      ·exact ⟨i,by lia,rfl⟩
     ·rw[if_neg hq]
      exact ⟨i,by lia,rfl⟩
    obtain ⟨i',hi',e3⟩:=this
    rw[e3]
    exact kle i' hi'
   have e:(if q>0 then kas_desc f (kas_rev p (n - (q+1)) n) (n+1) 0 else kas_desc f p (n+1) 0)=kas_desc f (fin p n q) (n+1) 0:=by
    unfold St.fin
    split<;>rfl
   rw[e]
   refine qbE (λr hr=>⟨by lia,by lia,hr.2.2⟩) (qhb f (fin p n q) (n+1) 0 (by lia) key)
  ·rw[if_neg (by simpa [qdc] using hc)]
   refine ⟨lt (by lia),lt (by lia),?_⟩
   show good N (qdc k) (if qdc k (g p (n - 1)) (g p n)=true then .ret (p,n,q) else kas_desc f p (n+1) (q+1)) _
   by_cases hd:k (g p (n - 1))<k (g p n)
   ·rw[if_pos (by simpa [qdc] using hd)]
    exact ⟨Nat.le_refl _,Nat.le_add_right _ _,h⟩
   ·rw[if_neg (by simpa [qdc] using hd)]
    have ek:k (g p n)=k (g p (n - 1)):=by lia
    have key:qnK N k p (n+1) (q+1):=by
     refine ⟨h.pre.more (by lia),by lia,λi j hij hj=>h.a i j hij (by lia),λi j hi h1 h2=> ?_,λi j h1 h2 h3=> ?_⟩
     ·by_cases e:j=n
      ·subst e
       rw[ek]
       exact h.b i (j - 1) (by lia) (by lia) (by lia)
      ·exact h.b i j (by lia) (by lia) (by lia)
     ·by_cases e:j=n
      ·subst e
       refine ⟨?_,?_⟩
       ·rw[ek]
        by_cases e2:i=j - 1
        ·rw[e2]
        ·exact (h.c i (j - 1) (by lia) (by lia) (by lia)).1
       ·rw[en]; exact h.pre.lo i h2
      ·exact h.c i j (by lia) h2 (by lia)
    exact qbE (λr hr=>⟨by lia,by lia,hr.2.2⟩) (qhb f p (n+1) (q+1) (by lia) key)
def Out (N:Nat) (k:Nat->Int) (r:Nat×Array Nat):Prop:=1<=r.1/\r.1<=N/\Pre N r.1 r.2/\Srt k r.2 r.1
theorem qmz {p:Array Nat} {n:Nat} (h1:1<=n) (hn:n<=N) (hp:Pre N n p) (hd:Dsc k p n):good N (qdc k) (kas_tail3 n N p) (Out N k):=by
 have gr:=qlq (p:=p) (i:=0) (j:=n) (by rw[hp.sz]; exact hn)
 refine qco (qbE (λm h=> ?_) (qkB (p:=kas_rev p 0 n) (N - n) n h1 (by lia) ⟨by rw[qff]; exact hp.sz,λi hi=> ?_,λi h2 h3=> ?_⟩ λi j hij hj=> ?_))
 ·exact ⟨by lia,by lia,h.2.2.1,h.2.2.2.1⟩
 ·rw[gr,if_pos ⟨Nat.zero_le _,hi⟩]; exact hp.lo _ (by lia)
 ·rw[gr,if_neg (by lia)]; exact hp.hi i h2 h3
 ·rw[gr,gr,if_pos ⟨Nat.zero_le _,by lia⟩,if_pos ⟨Nat.zero_le _,hj⟩]
  exact hd _ _ (by lia) (by lia)
theorem qer {p:Array Nat} {n:Nat} (hn:n+1<=N) (h:qnK N k p (n+1) 0):good N (qdc k) (kas_descPart n N p) (Out N k):=by
 refine qco (qbE (λr hr=> ?_) (qhb (N - (n+1)) p (n+1) 0 (by lia) h))
 obtain ⟨h1,h2,h3⟩:=hr
 obtain ⟨f1,f2⟩:=h3.fin (by lia)
 have e:(if r.2.2>0 then kas_tail3 r.2.1 N (kas_rev r.1 (r.2.1 - (r.2.2+1)) r.2.1) else kas_tail3 r.2.1 N r.1)=kas_tail3 r.2.1 N (fin r.1 r.2.1 r.2.2):=by
  unfold St.fin
  split<;>rfl
 show good N (qdc k) (if r.2.2>0 then kas_tail3 r.2.1 N (kas_rev r.1 (r.2.1 - (r.2.2+1)) r.2.1) else kas_tail3 r.2.1 N r.1) _
 rw[e]
 exact qmz (by lia) (by lia) f1 f2
theorem qlC {p:Array Nat} (hN:1<=N) (hp:Pre N 1 p):good N (qdc k) (kas_count N p) (Out N k):=by
 refine qco (qbE (λn h=> ?_) (qkB (p:=p) (N - 1) 1 (Nat.le_refl _) (by lia) hp λi j h1 h2=>by lia))
 obtain ⟨h1,h2,h3,h4,h5⟩:=h
 by_cases e:n=N
 ·rw[if_pos (by simpa using e)]
  exact ⟨h1,by lia,h3,h4⟩
 ·rw[if_neg (by simpa using e)]
  have hlt:k (g p n)<k (g p (n - 1)):=h5.resolve_left (by lia)
  by_cases hg:n>1
  ·rw[if_pos hg]
   refine ⟨h3.lt (by lia) (by lia),h3.lt (by lia) (by lia),?_⟩
   show good N (qdc k) (if qdc k (g p 0) (g p (n - 1))=true then .ret (n,p) else kas_descPart n N (kas_rev p 0 n)) _
   by_cases hc:k (g p 0)<k (g p (n - 1))
   ·rw[if_pos (by simpa [qdc] using hc)]
    exact ⟨h1,by lia,h3,h4⟩
   ·rw[if_neg (by simpa [qdc] using hc)]
    have gr:=qlq (p:=p) (i:=0) (j:=n) (by rw[h3.sz]; lia)
    have like: ∀i,i<n->k (g p i)=k (g p (n - 1)):=λi hi=>by
     have a1:k (g p 0)<=k (g p i):=by
      by_cases q:i=0
      ·rw[q]; exact Int.le_refl _
      ·exact (h4 0 i (by lia) hi).le
     have a2:k (g p i)<=k (g p (n - 1)):=by
      by_cases q:i=n - 1
      ·rw[q]; exact Int.le_refl _
      ·exact (h4 i (n - 1) (by lia) (by lia)).le
     lia
    refine qer (by lia) ⟨Pre.more ⟨by rw[qff]; exact h3.sz,λi hi=> ?_,λi q1 q2=> ?_⟩ (by lia),by lia,λi j hij hj=> ?_,λi j hi q1 q2=> ?_,λi j q1 q2 q3=>by lia⟩
    ·rw[gr,if_pos ⟨Nat.zero_le _,hi⟩]; exact h3.lo _ (by lia)
    ·rw[gr,if_neg (by lia)]; exact h3.hi i q1 q2
    ·rw[gr,gr,if_pos ⟨Nat.zero_le _,by lia⟩,if_pos ⟨Nat.zero_le _,by lia⟩]
     exact h4 _ _ (by lia) (by lia)
    ·have ej:j=n:=by lia
     subst ej
     have hi':i<j:=by simpa using hi
     have e1:g (kas_rev p 0 j) j=g p j:=by rw[gr,if_neg (by lia)]
     have e2:g (kas_rev p 0 j) i=g p (0+j - 1 - i):=by rw[gr,if_pos ⟨Nat.zero_le _,hi'⟩]
     rw[e1,e2,like (0+j - 1 - i) (by lia)]
     exact hlt
  ·rw[if_neg hg]
   have e1:n=1:=by lia
   subst e1
   refine qer (by lia) ⟨h3.more (by lia),by lia,λi j hij hj=>by lia,λi j hi q1 q2=> ?_,λi j q1 q2 q3=>by lia⟩
   have ei:i=0:=by lia
   have ej:j=1:=by lia
   subst ei ej
   exact hlt
theorem qfl {p:Array Nat} {n:Nat} (hn:n<N) (hp:Pre N n p) (hs:Srt k p n): ∀(f l r:Nat),l<=r->r<=n->r - l<=f->(∀i,i<l->k (g p i)<=k (g p n))->(∀i,r<=i->i<n->k (g p n)<k (g p i))->
  good N (qdc k) (kas_place p n f l r) λm=>m<=n/\(∀i,i<m->k (g p i)<=k (g p n))/\∀i,m<=i->i<n->k (g p n)<k (g p i)
 | 0,l,r,h1,h2,h3,hl,hr=>⟨by lia,hl,λi q1 q2=>hr i (by lia) q2⟩
 | f+1,l,r,h1,h2,h3,hl,hr=>by
  unfold kas_place
  by_cases hge:l≥r
  ·rw[if_pos hge]
   exact ⟨by lia,hl,λi q1 q2=>hr i (by lia) q2⟩
  ·rw[if_neg hge]
   refine ⟨hp.lt (by lia) hn,hp.lt (by lia) (by lia),?_⟩
   show good N (qdc k) (if qdc k (g p n) (g p ((l+r) / 2))=true then kas_place p n f l ((l+r) / 2) else kas_place p n f ((l+r) / 2+1) r) _
   have srt: ∀i j,i<=j->j<n->k (g p i)<=k (g p j):=λi j hij hj=>by
    by_cases q:i=j
    ·rw[q]; exact Int.le_refl _
    ·exact (hs i j (by lia) hj).le
   by_cases hc:k (g p n)<k (g p ((l+r) / 2))
   ·rw[if_pos (by simpa [qdc] using hc)]
    exact qfl hn hp hs f l _ (by lia) (by lia) (by lia) hl λi q1 q2=>Int.lt_of_lt_of_le hc (srt _ _ q1 q2)
   ·rw[if_neg (by simpa [qdc] using hc)]
    refine qfl hn hp hs f _ r (by lia) (by lia) (by lia) (λi q1=> ?_) hr
    have:=srt i ((l+r) / 2) (by lia) (by lia)
    lia
theorem qmr: ∀(f:Nat) (p:Array Nat) (n:Nat),n+f=N->Pre N n p->Srt k p n->good N (qdc k) (kas_bin f p n) λp'=>Pre N N p'/\Srt k p' N
 | 0,p,n,hf,hp,hs=>by
  have e:n=N:=by lia
  subst e
  exact ⟨hp,hs⟩
 | f+1,p,n,hf,hp,hs=>by
  refine qco (qbE (λl h=> ?_) (qfl (by lia) hp hs n 0 n (by lia) (Nat.le_refl _) (by lia) (λi q=>by lia) λi q1 q2=>by lia))
  obtain ⟨h1,h2,h3⟩:=h
  have gb:=qrp (p:=p) (k:=n) (l:=l) (by rw[hp.sz]; lia) h1
  have en:=hp.hi n (Nat.le_refl _) (by lia)
  refine qmr f _ (n+1) (by lia) ⟨by rw[bubble_size]; exact hp.sz,λi hi=> ?_,λi q1 q2=> ?_⟩ λi j hij hj=> ?_
  ·rw[gb]
   split
   ·rw[en]; lia
   ·split
    ·exact Nat.lt_succ_of_lt (hp.lo _ (by lia))
    ·exact Nat.lt_succ_of_lt (hp.lo _ (by lia))
  ·rw[gb,if_neg (by lia),if_neg (by lia)]; exact hp.hi i (by lia) q2
  ·rw[gb,gb]
   by_cases c1:j=l
   ·rw[if_pos c1,if_neg (by lia),if_neg (by lia)]
    have a1:=h2 i (by lia)
    have a2:=hp.lo i (by lia)
    unfold L
    rw[en] at a1⊢
    lia
   ·rw[if_neg c1]
    by_cases c2:l<j/\j<=n
    ·rw[if_pos c2]
     by_cases c3:i=l
     ·rw[if_pos c3]
      exact .inl (h3 _ (by lia) (by lia))
     ·rw[if_neg c3]
      by_cases c4:l<i/\i<=n
      ·rw[if_pos c4]; exact hs _ _ (by lia) (by lia)
      ·rw[if_neg c4]; exact hs _ _ (by lia) (by lia)
    ·rw[if_neg c2,if_neg (by lia),if_neg (by lia)]
     exact hs _ _ hij (by lia)
theorem qiR (hN:1<=N):good N (qdc k) (kas_sort N) λp=>Pre N N p/\Srt k p N:=by
 have gr: ∀i,i<N->g (List.toArray (List.range N)) i=i:=λi hi=>by
  unfold g
  rw[Array.getD_eq_getD_getElem?]
  simp[hi]
 refine qco (qbE (λr h=> ?_) (qlC hN ⟨by simp,λi hi=> ?_,λi h1 h2=>gr i h2⟩))
 ·obtain ⟨h1,h2,h3,h4⟩:=h
  by_cases c:r.1<N
  ·rw[if_pos c,show max r.1 1=r.1 by lia]
   exact qmr _ _ _ (by lia) h3 h4
  ·rw[if_neg c]
   have e:r.1=N:=by lia
   rw[e] at h3 h4
   exact ⟨h3,h4⟩
 ·rw[gr i (by lia)]; exact hi
end
end St
end
section
namespace St
open PySem PySem.W PySem.Calls PyProof.Rows
theorem qg1 {α:Type} {N:Nat} {ask:Nat->Nat->Bool} {cmp:Nat->Nat->(Bool->Shared->Prop)->Shared->Prop} {Q:α->Shared->Prop} {Q':α->Prop} {s:Shared}
  (hc: ∀i j (C:Bool->Shared->Prop),i<N->j<N->C (ask i j) s->cmp i j C s) (hq: ∀a,Q' a->Q a s): ∀{t:KasT α},good N ask t Q'->t.kasWp cmp Q s
 | .ret a,h=>hq a h
 | .ask i j k,⟨h1,h2,h⟩=>hc i j _ h1 h2 (qg1 hc hq h)
def qcz (kz:List Int) (n:Nat) (p:Array Nat):Prop:=Pre n n p/\Srt (λi=>kz.getD i 0) p n
abbrev Kp (h h':Heap):Prop:= ∀b o,h.get? b=some o->h'.get? b=some o
section
variable {prog:Program} {w:World} {A:Around} {E:Value->Shared->Prop} {s:Shared} {D kS:Addr} {vs:List Value} {kz:List Int} {P:PySem.Fin->Shared->Prop} {h0:Heap}
theorem qlQ {st:SortSt} {keys:Array Value} {e e1:Nat} {p:Array Nat} (hk:s.heap.get? kS=some (seqObj "list" keys e)) (hD:s.heap.get? D=some (seqObj "list" #[] e1)) (hkD:kS≠D) (h64:vs.length<64) (hks:keys.size<=64)
  (kp:Kp h0 s.heap) (hD0:h0.get? D=none) (hk0:h0.get? kS=none) (ho:qcz kz vs.length p) (har:(arrOf st).map (·.2)=List.toArray (p.toList.map λi=>vs.getD i Value.none)) (hfl:failedOf st=none)
  (h: ∀h' tk c,Kp h0 h'->h'.get? D=some (seqObj "list" (List.toArray (p.toList.map λi=>vs.getD i Value.none)) c)->P (.done (.ret .none)) { s with heap:=h',toks:=tk }):
  wpAny (model prog w) A (ksk_tail D false e1 (.ref kS) st) P E s:=by
 unfold ksk_tail
 have s1:=Heap.SameBut.update s.heap kS (Obj.mapSeq λ_=>(#[]:Array Value))
 have hD1:(s.heap.update kS (Obj.mapSeq λ_=>(#[]:Array Value))).get? D=some (seqObj "list" #[] e1):=(s1.2 D hkD.symm).trans hD
 have hsz:(p.toList.map λi=>vs.getD i Value.none).length=vs.length:=by rw[List.length_map,Array.length_toList,ho.1.sz]
 refine wpAny_bind (listUpdate_at hk rfl ?_ (Nat.le_trans hks (by rw[sizeLine_eq]; decide)) (Nat.zero_le _))
 refine wpAny_bind (wpAny_letGo ?_)
 refine wpAny_bind (seqEpoch_at hD1 rfl ?_)
 rw[har]
 refine wpAny_bind (listUpdate_at hD1 rfl ?_ (Nat.zero_le _) (by show (List.toArray _).size<=_; rw[List.size_toArray,hsz,sizeLine_eq]; lia))
 rw[hfl]
 simp only[bne_self_eq_false,Bool.false_eq_true,if_false]
 have hfin: ∃c,((s.heap.update kS (Obj.mapSeq λ_=>(#[]:Array Value))).update D (Obj.mapSeq λ_=>List.toArray (p.toList.map λi=>vs.getD i Value.none))).get? D=some (seqObj "list" (List.toArray (p.toList.map λi=>vs.getD i Value.none)) c):=⟨_,get?_update_seq hD1 λ_=>List.toArray (p.toList.map λi=>vs.getD i Value.none)⟩
 obtain ⟨c,hc⟩:=hfin
 refine wpAny_pure (h _ _ c (λb o q=> ?_) hc)
 have nk:b≠kS:=λz=>by rw[z,hk0] at q; cases q
 have nD:b≠D:=λz=>by rw[z,hD0] at q; cases q
 exact ((Heap.SameBut.update (s.heap.update kS (Obj.mapSeq λ_=>(#[]:Array Value))) D _).2 b nD).trans ((s1.2 b nk).trans (kp b o q))
end
section
variable {prog:Program} {w:World} {A:Around} {E:Value->Shared->Prop} {s:Shared} {l:Addr} {vs:List Value} {kz:List Int} {Q:Value->Shared->Prop}
theorem get_none {h:Heap} {a:Addr} (x:h.objs.size<=a):h.get? a=none:=Heap.get?_none_of_le x
end
end St
end
section
namespace L2
open PySem PySem.Spec PyProof.Rows
theorem Inv.grow {X:Cx} {pins:List (Addr×Obj)} {σ:St} {H:Hp} {s:Shared} {P c':Addr} {ps more:Array Value} {h':Heap} {φ:Heap->Prop} {t':Nat} (I:Inv X pins σ H s) (hP:H P=some (.tbl ps)) (hx:Heap.ExtBut P s.heap h')
  (hP':h'.get? P=some (PySem.W.tabObj (ps++more))) (hc:s.heap.objs.size<=c') (hφ:qbu X.prog X.w (upd (upd H P (.tbl (ps++more))) c' (.ext φ)) h' c' (.ext φ)):
  Inv X pins σ (upd (upd H P (.tbl (ps++more))) c' (.ext φ)) { s with heap:=h',toks:=t' }:=by
 have nc: ∀b o,s.heap.get? b=some o->b≠c':=λb o e=>Nat.ne_of_lt (Nat.lt_of_lt_of_le (Heap.lt_size e) hc)
 have nct: ∀b u,H b=some u->b≠c':=λb u e z=>by rw[z,I.hok.fresh hc] at e; cases e
 have nP: ∀b,H b=none->b≠P:=λb e z=>by rw[z,hP] at e; cases e
 have hPl:=(I.hok P _ hP).lt
 have cP:P≠c':=nct P _ hP
 refine I.step (g':=s.gens) (d':=s.drawn) (ch:=[]) (λ_ z=>nomatch z) (λb o _ _ _ e n=>hx b o (nP b n) e) (λb o _ _ _ e n=>⟨o.slots,hx b o (nP b n) e⟩) (λb o _ e n=>by rw[qae (nc b o e),qae (nP b n)]; exact n)
  (λb o _ e=> ?_) (λb xs e=> ?_) (λb o u e=> ?_) (λb qs e=> ?_) (λm hm=> ?_) (λb u e=> ?_) I.bare
 ·by_cases z:b=P
  ·exact ⟨_,by rw[z]; exact hP'⟩
  ·exact ⟨o,hx b o z e⟩
 ·rw[qae (nct b _ e),qae (λz=>by rw[z,hP] at e; cases e)]; exact e
 ·rw[qae (nct b _ e),qae (λz=>by rw[z,hP] at e; cases e)]; exact e
 ·by_cases z:b=P
  ·subst z
   rw[hP] at e; cases e
   exact ⟨more,by rw[qae cP,qak]⟩
  ·exact ⟨#[],by rw[qae (nct b _ e),qae z,e]; simp⟩
 ·exact hm.extBut hx (nP _ I.free)
 ·by_cases z:b=c'
  ·subst z
   rw[qak] at e; cases e
   exact hφ
  ·rw[qae z] at e
   by_cases z2:b=P
   ·subst z2
    rw[qak] at e; cases e
    exact hP'
   ·rw[qae z2] at e
    refine (I.hok b u e).stay (λc v hc2 q=>hx c v ?_ q) (λc q=> ?_) λc xs q=> ?_
    ·rcases hc2 with rfl | hc2
     ·exact z2
     ·intro z3; rw[z3,hP] at hc2; cases hc2
    ·rw[qae (nct c _ q),qae (λz3=>by rw[z3,hP] at q; cases q)]; exact q
    ·rw[qae (nct c _ q),qae (λz3=>by rw[z3,hP] at q; cases q)]; exact q
def qdS (c:Addr) (qual:Str):HO:=.ext λh=>h.CodeRec (.ref c) qual
def Tab (P:Addr) (pos:Pos) (qual:Str) (H:Hp):Prop:=
 ∃ps,H P=some (.tbl ps)/\PySem.TriplesOk ps.toList/\(PySem.codeAmong pos ps.toList=none\/∃c,PySem.codeAmong pos ps.toList=some (.ref c)/\H c=some (qdS c qual))
theorem qcC {a b:Value} {c:Value} {la lb:Int} {ta tb:Tok} (ha:a= .int la ta) (hb:b= .int lb tb): ∀(l:List Value),PySem.TriplesOk l->PySem.TriplesOk (l++[a,b,c])
 | [],_=>by subst ha hb; exact trivial
 | [_],h=>by cases ‹Value› <;>exact h.elim
 | [x,y],h=>by cases x<;>first | exact h.elim | (cases y<;>exact h.elim)
 | x::y::z::r,h=>by
  cases x<;>first | exact h.elim | skip
  cases y<;>first | exact h.elim | skip
  exact qcC ha hb r h
theorem qet {c:Addr} {qual:Str} {h h':Heap} (x:h.CodeRec (.ref c) qual) (k: ∀o,h.get? c=some o->h'.get? c=some o):h'.CodeRec (.ref c) qual:=by
 obtain ⟨c2,oc,vs,tq,e,ho,hd,hq⟩:=x
 cases e
 exact ⟨c,oc,vs,tq,rfl,k _ ho,hd,hq⟩
def qdT (P:Addr) (H H':Hp):Prop:= ∀b o,H b=some o->b≠P->H' b=some o
theorem qhL {X:Cx} {pins:List (Addr×Obj)} {σ:St} {H:Hp} {s:Shared} {P c:Addr} {params:Arguments} {body:Expr} {scope:Scope} {pos:Pos} {qual:Str} {E:Value->Shared->Prop} {Q:Value->Shared->Prop} (I:Inv X pins σ H s)
  (hcode:X.env.code= .ref c) (C:PySem.W.CodeHd X.base c P) (hb: ∃bm ob,X.mg "__builtins__" =some (.ref bm)/\bm≠builtinsNs/\X.base.get? bm=some ob/\ob.cls= .type "module" /\ob.dict=some builtinsNs/\ob.data= .plain)
  (hfree: ∀x∈scope.names,x.2≠.free) (hd:defaultsOf params X.env=([],[])) (hq:X.env.qual++("<lambda>" :Str)=qual) (hT:Tab P pos qual H)
  (h: ∀(f c':Addr) (ctv:Value) (H':Hp) (s':Shared),Inv X pins σ H' s'->Tab P pos qual H'->qdT P H H'->(∀b,H b≠none->H' b≠none)->(∀b o,s.heap.get? b=some o->b≠P->s'.heap.get? b=some o)->s.heap.objs.size<=f->H' f=none->
   s'.heap.get? f=some (PySem.W.kla_obj "<lambda>" qual params body scope [] ((X.mg "__name__").getD .none) c' ctv)->s'.heap.CodeRec (.ref c') qual->Q (.ref f) s'):
  wpAny (model X.prog X.w) X.A (eval (.Lambda params body scope pos) X.env) Q E s:=by
 obtain ⟨ps,hP,htr,hor⟩:=hT
 have hgP:mainGlobals≠P:=λz=>by
  obtain ⟨o,es,ep,e,hdd,_⟩:=I.mod.glob
  have:=(I.bs _ _ e).2
  rw[z,hP] at this; cases this
 have hPo:s.heap.get? P=some (PySem.W.tabObj ps):=I.hok P _ hP
 have CS:PySem.W.CodeHd s.heap c P:=C.keeps I.bk
 have hbS:s.heap.BuiltinsAt X.mg P:=by
  obtain ⟨bm,ob,b1,b2,b3,b4,b5,b6⟩:=hb
  refine ⟨bm,ob,b1,b2,λz=> ?_,λz=> ?_,I.bk _ _ b3,b4,b5,b6⟩
  ·obtain ⟨o,es,ep,e,hdd,_⟩:=I.mod.glob
   rw[z,e] at b3; cases b3; rw[hdd] at b6; cases b6
  ·have:=(I.bs _ _ b3).2
   rw[z,hP] at this; cases this
 have hg:s.heap.Ns mainGlobals X.mg:=I.mod.glob.keeps I.bk
 refine PySem.W.kla_eval hd ?_
 rw[hq]
 rcases hor with hn | ⟨c2,hs,hH⟩
 ·refine PySem.W.kla_makeFunction (closureFor_none hfree) I.ok.glob hg hcode CS hPo htr hn hgP hbS λc' ctv h' tk hx hge hlt hrec htb=> ?_
  have I1:Inv X pins σ (upd (upd H P (.tbl (ps++ #[rawInt pos.line,rawInt pos.col,.ref c']))) c' (qdS c' qual)) { s with heap:=h',toks:=tk }:=I.grow hP hx htb hge ⟨hrec,by
    obtain ⟨c2,oc,vs,tq,e,ho,_⟩:=hrec
    cases e
    exact ⟨oc,ho⟩,λh1 h2 p k=>qet p k⟩
  have nP:P≠c':=Nat.ne_of_lt (Nat.lt_of_lt_of_le (I.hok P _ hP).lt hge)
  have sz:s.heap.objs.size<=h'.objs.size:=Nat.le_trans hge (Nat.le_of_lt hlt)
  refine h _ c' ctv _ _ (I1.kept (t':=tk) λb u e=>Heap.get?_push_of_some _ e) ⟨_,by rw[qae nP,qak],?_,.inr ⟨c',?_,qak⟩⟩ (λb o e hb=> ?_) (λb e=> ?_) (λb o e hb=>Heap.get?_push_of_some _ (hx b o hb e)) sz ?_ (Heap.get?_push_size _ rfl) (hrec.keeps λb o e=>Heap.get?_push_of_some _ e)
  ·rw[Array.toList_append]
   exact qcC rfl rfl _ htr
  ·rw[Array.toList_append]
   exact PySem.codeAmong_snoc _ htr hn
  ·rw[qae (Nat.ne_of_lt (Nat.lt_of_lt_of_le (I.hok b _ e).lt hge)),qae hb]; exact e
  ·by_cases z:b=c'
   ·rw[z,qak]; simp
   ·rw[qae z]
    by_cases z2:b=P
    ·rw[z2,qak]; simp
    ·rw[qae z2]; exact e
  ·exact I1.hok.fresh (Nat.le_refl _)
 ·refine PySem.W.kla_makeFunctionHit (cv:=.ref c2) (closureFor_none hfree) I.ok.glob hg hcode CS hPo htr hs hbS λctv h' tk kp sz=> ?_
  have I1:Inv X pins σ H { s with heap:=h',toks:=tk }:=I.kept (t':=tk) kp
  have hrec:h'.CodeRec (.ref c2) qual:=(I1.hok c2 _ hH).1
  exact h _ c2 ctv H _ (I1.kept (t':=tk) λb u e=>Heap.get?_push_of_some _ e) ⟨ps,hP,htr,.inr ⟨c2,hs,hH⟩⟩ (λb o e _=>e) (λb e=>e) (λb o e _=>Heap.get?_push_of_some _ (kp b o e)) sz (I1.hok.fresh (Nat.le_refl _)) (Heap.get?_push_size _ rfl)
   (hrec.keeps λb o e=>Heap.get?_push_of_some _ e)
end L2
end
section
namespace L2
open PySem PySem.Spec PyProof.Rows
theorem qdT.seqL {K:PySem.W.Frag} {P:Addr} {H H':Hp} {a:Addr} {xs:List V} {ps:Array Value} (e:qdT P H H') (hP:H P=some (.tbl ps)) (h:SqL K H a xs):SqL K H' a xs:=by
 rcases h with (h | ⟨o,h⟩) | h
 ·exact .inl (.inl (e _ _ h λz=>by rw[z,hP] at h; cases h))
 ·exact .inl (.inr ⟨o,e _ _ h λz=>by rw[z,hP] at h; cases h⟩)
 ·exact .inr h
theorem qde {xs:List V} {us:List Value} (r:Vals xs us) (j:Nat):RelV (xs.getD j .non) (us.getD j .none):=by
 induction r generalizing j with
 | nil=>exact rfl
 | cons a t ih=>
  cases j with
  | zero=>exact a
  | succ j=>simpa using ih j
theorem vals_pick {xs:List V} {us:List Value} (r:Vals xs us): ∀l:List Nat,Vals (l.map λj=>xs.getD j .non) (l.map λj=>us.getD j .none)
 | []=>.nil
 | j::l=>.cons (qde r j) (vals_pick r l)
end L2
end
section
namespace L2
open PySem PySem.Spec PyProof.Rows
section
variable {X:Cx}
theorem qjp:OpR X (compareOp .LtE) (λx y H Q=> ∃i j,x= .str i/\y= .str j/\Q (.bl (!decide (j.cps.toList<i.cps.toList))) H):=by
 intro pins s σ H x y v u Q I rx ry h
 obtain ⟨i,j,rfl,rfl,q⟩:=h
 obtain ⟨t,rfl⟩:=rx
 obtain ⟨t',rfl⟩:=ry
 exact PySem.P.le_str ⟨.bl _,H,I,rfl,q⟩
theorem qdf: ∀{bs:List Bool} {us:List Value},Vals (bs.map V.bl) us->us=bs.map Value.bool
 | [],_,.nil=>rfl
 | b::bs,_,.cons r t=>by
  have e:_=Value.bool b:=r
  rw[e,qdf t]
  rfl
theorem qi8 (bs:List Bool):(List.range bs.length).all (λi=>bs.getD i false)=bs.all id:=by
 rw[Bool.eq_iff_iff,List.all_eq_true,List.all_eq_true]
 constructor
 ·intro h b hb
  obtain ⟨i,hi,rfl⟩:=List.mem_iff_getElem.mp hb
  have:=h i (List.mem_range.mpr hi)
  simpa [List.getD_eq_getElem?_getD,hi] using this
 ·intro h i hi
  have hi':=List.mem_range.mp hi
  have:=h bs[i] (List.getElem_mem hi')
  simpa [List.getD_eq_getElem?_getD,hi'] using this
theorem qfH (hc:X.calm=true):qev X (.builtin "all") (λxs H Q=> ∃(a:Addr) (bs:List Bool),xs=[.ref a]/\SqL X.K H a (bs.map V.bl)/\Q (.bl (bs.all id)) H):=by
 intro pins s σ H xs us Q I r h
 obtain ⟨a,bs,rfl,hS,q⟩:=h
 obtain ⟨u,rfl,ru⟩:=qdP r
 cases ru
 obtain ⟨its,rv,pl,hz⟩:=I.list hS
 have e:=qdf rv
 have hlt:a<s.heap.objs.size:=Heap.lt_size pl.isList.choose_spec.1
 have hh:X.A.in1.handled=none:=I.ok.hd hc
 refine call_all_walk (wpAny_pyIter_list pl.isList ?_)
 refine ⟨s.heap.objs.size,_,_,its.toArray.size,_,_,λi=>bs.getD i false,rfl,Walks.list hh s.heap.objs.size a (Nat.ne_of_lt hlt) its.toArray,⟨⟨_,Heap.get?_push_size _ rfl,rfl,rfl⟩,pl.isList.at λo e=>Heap.get?_push_of_some _ e⟩,λi v s' Q' E' hv hq=> ?_,λh' tk k=> ?_⟩
 ·rw[e] at hv
  have hv':(bs.map Value.bool)[i]? =some v:=by simpa using hv
  rw[List.getElem?_map] at hv'
  cases z:bs[i]? with
  | none=>rw[z] at hv'; cases hv'
  | some b=>
   rw[z] at hv'
   cases hv'
   have eb:bs.getD i false=b:=by simp[List.getD_eq_getElem?_getD,z]
   have hq':Q' (bs.getD i false) s':=hq
   rw[eb] at hq'
   exact wpAny_truthy_bool hq'
 ·have en:its.toArray.size=bs.length:=by rw[e]; simp
  rw[en,qi8]
  refine ⟨.bl (bs.all id),H,?_,rfl,q⟩
  refine I.kept (t':=tk) λb o eo=>k b o ?_ (Heap.get?_push_of_some _ eo)
  intro z
  have:b=s.heap.objs.size:=by simpa using z
  exact Nat.ne_of_lt (Heap.lt_size eo) this
def VEq (X:Cx) (H:Hp) (x y:V) (b:Bool):Prop:= ∀(pins:List (Addr×Obj)) (σ:St) (s:Shared) (u v:Value),Inv X pins σ H s->RelV x u->RelV y v->SeqAt.EqAt X.A.in1 s u v b
theorem qgP (hu:X.A.units<cLine):OpR X (compareOp .Eq) (λx y H Q=> ∃a b xs ys,x= .ref a/\y= .ref b/\SqL X.K H a xs/\SqL X.K H b ys/\
  ((xs.length≠ys.length/\Q (.bl false) H)\/(xs.length=ys.length/\∃e:Nat->Bool,(∀i x y,xs[i]? =some x->ys[i]? =some y->VEq X H x y (e i))/\Q (.bl ((List.range xs.length).all e)) H))):=by
 intro pins s σ H x y v u Q I rx ry h
 obtain ⟨a,b,xs,ys,rfl,rfl,ha,hb,h⟩:=h
 cases rx; cases ry
 obtain ⟨i1,r1,p1,z1⟩:=I.list ha
 obtain ⟨i2,r2,p2,z2⟩:=I.list hb
 have l1:=r1.length
 have l2:=r2.length
 rcases h with ⟨hne,q⟩ | ⟨heq,e,he,q⟩
 ·exact SeqAt.eq_list_lengthsAt p1.isList p2.isList (by simp; lia) hu ⟨.bl false,H,I,rfl,q⟩
 ·refine SeqAt.eq_listAt (e:=e) p1.isList p2.isList (by simp; lia) hu (λj h1 h2=> ?_) ⟨.bl _,H,I,rfl,?_⟩
  ·have h1':j<i1.length:=by simpa using h1
   have h2':j<i2.length:=by simpa using h2
   have hx:xs[j]? =some xs[j]:=List.getElem?_eq_getElem (by lia)
   have hy:ys[j]? =some ys[j]:=List.getElem?_eq_getElem (by lia)
   obtain ⟨u1,e1,q1⟩:=r1.get hx
   obtain ⟨u2,e2,q2⟩:=r2.get hy
   have e3:i1.toArray[j]=u1:=by
    rw[List.getElem?_eq_getElem h1'] at e1
    simpa using Option.some.inj e1
   have e4:i2.toArray[j]=u2:=by
    rw[List.getElem?_eq_getElem h2'] at e2
    simpa using Option.some.inj e2
   rw[e3,e4]
   exact he j _ _ hx hy pins σ s u1 u2 I q1 q2
  ·rw[List.size_toArray,<-l1]; exact q
end
end L2
end
section
namespace L2
open PySem PySem.Spec PyProof.Rows
def Its (z:Str):It:=⟨λi _=>i<z.cps.size,λi H x H'=>H'=H/\∃c,z.cps[i]? =some c/\x= .str ⟨#[c]⟩,λi _=>z.cps.size<=i⟩
theorem qkO {P:Program} {w:World} {K:PySem.W.Frag} {tg:Expr} {z:Str} {it:Addr} {ty:String} {t:Tok} (hty:ty= "str_ascii_iterator" \/ty= "str_iterator"):qnT P w K tg (Its z) [it] it (λi h=>h.IsStrIter it ty z t i) where
 mem:=by simp
 obj:=λi h st b hb=>by
  have e:b=it:=by simpa using hb
  subst e
  obtain ⟨o,e,c,d⟩:=st
  exact ⟨o,e,λv q=>by rw[d] at q; cases q⟩
 keep:=λi h h' st k=>by
  obtain ⟨o,e,r⟩:=st
  exact ⟨o,k it (by simp) _ e,r⟩
 item:=by
  intro X hP hw hK hc i pins s σ H E I hf st hg
  subst hP hw hK
  obtain ⟨f0,f1,f2,f3,f4,f5⟩:=hf it (by simp)
  have hcx:z.cps[i]? =some z.cps[i]:=Array.getElem?_eq_getElem hg
  have fin: ∀h',h'.IsStrIter it ty z t (i+1)->Heap.SameBut it s.heap h'->∃u,some (Value.str ⟨#[z.cps[i]]⟩ s.toks)=some u/\wpAny (model X.prog X.w) X.A (letOwnedTupleGo tg (.ref it) u) (λ_ s2=> ∃x H',Inv X pins σ H' s2/\RelV x u/\(Its z).yld i H x H'/\s2.heap.IsStrIter it ty z t (i+1)/\∀b∈[it],H' b=none) E { s with heap:=h',toks:=s.toks+1 }:=λh' st' sb=>by
   have I1:Inv X pins σ H { s with heap:=h',toks:=s.toks+1 }:=I.turned (λb o hb e=>(sb.2 b hb).trans e) f0 f1 f3 f4 f5
   obtain ⟨o,e,c,d⟩:=id st'
   refine ⟨_,rfl,qlp (s:={ s with heap:=h',toks:=s.toks+1 }) e c d ?_ ⟨.str ⟨#[z.cps[i]]⟩,H,I1,⟨_,rfl⟩,⟨rfl,_,hcx,rfl⟩,st',λb hb=>(hf b hb).1⟩⟩
   rcases hty with rfl | rfl<;>decide
  rcases hty with rfl | rfl
  ·exact wpAny_pyNext_ascii_item st hcx λh' st' sb=>fin h' st' sb
  ·exact wpAny_pyNext_wide_item st hcx λh' st' sb=>fin h' st' sb
 done:=by
  intro X hP hw hK hc i pins s σ H E I hf st hg
  subst hP hw hK
  obtain ⟨f0,f1,f2,f3,f4,f5⟩:=hf it (by simp)
  have hcx:z.cps[i]? =none:=Array.getElem?_eq_none hg
  rcases hty with rfl | rfl
  ·exact wpAny_pyNext_ascii_end (I.ok.hd hc) st hcx λh' eb=>⟨rfl,I.turned (t':=s.toks) (λb o hb e=>eb b o hb e) f0 f1 f3 f4 f5⟩
  ·exact wpAny_pyNext_wide_end (I.ok.hd hc) st hcx λh' eb=>⟨rfl,I.turned (t':=s.toks) (λb o hb e=>eb b o hb e) f0 f1 f3 f4 f5⟩
 self:=λA i s Q E st h=>by
  rcases hty with rfl | rfl
  ·exact wpAny_pyIter_striter_ascii st h
  ·exact wpAny_pyIter_striter_wide st h
def qsP (te:TE):TI:=λσ H R=>te σ H λx H1=> ∃z,x= .str z/\R (Its z) H1
theorem qoD {X:Cx} {tg e:Expr} {te:TE} (he:PE X e te):PI X tg e (qsP te):=by
 intro pins s σ H R I h
 refine thn (he pins s σ H _ I h) λv s1 hq48=> ?_
 obtain ⟨x,H1,I1,r1,z,hz,q⟩:=hq48
 subst hz
 obtain ⟨t,rfl⟩:=r1
 have fin: ∀ty:String,(ty= "str_ascii_iterator" \/ty= "str_iterator")->PIE X pins σ tg R (.ref s1.heap.objs.size) { s1 with heap:=s1.heap.push { cls:=.type ty,data:=.fields #[.str z t,.int 0 0] } }:=λty hty=>
  ⟨_,_,_,Its z,H1,rfl,I1.kept (t':=s1.toks) λb o e=>Heap.get?_push_of_some _ e,qkO (t:=t) hty,⟨_,Heap.get?_push_size _ rfl,rfl,rfl⟩,λb hb=>by
   have e:b=s1.heap.objs.size:=by simpa using hb
   subst e
   exact I1.fpOk (Nat.le_refl _) (I1.hok.fresh (Nat.le_refl _)),q⟩
 cases ha:z.cps.all (· <128)
 ·exact wpAny_pyIter_wide ha (fin _ (.inr rfl))
 ·exact wpAny_pyIter_ascii ha (fin _ (.inl rfl))
theorem Inv.turnT {X:Cx} {pins:List (Addr×Obj)} {σ:St} {H:Hp} {s:Shared} {h':Heap} {t':Nat} {ch:List Addr} {T:Addr} {xs:List V} (I:Inv X pins σ H s) (hch: ∀b∈ch,qiH X pins H b) (k: ∀b o,b∉ch->s.heap.get? b=some o->h'.get? b=some o)
  (hT:s.heap.objs.size<=T) (new:qbu X.prog X.w (upd H T (.tup xs)) h' T (.tup xs)):Inv X pins σ (upd H T (.tup xs)) { s with heap:=h',toks:=t' }:=by
 have nT: ∀b o,s.heap.get? b=some o->b≠T:=λb o e=>Nat.ne_of_lt (Nat.lt_of_lt_of_le (Heap.lt_size e) hT)
 have nTt: ∀b u,H b=some u->b≠T:=λb u e z=>by rw[z,I.hok.fresh hT] at e; cases e
 have nch: ∀b u,H b=some u->b∉ch:=λb u e z=>by rw[(hch b z).1] at e; cases e
 refine I.step (g':=s.gens) (d':=s.drawn) (ch:=ch) (λb hb=> ?_) (λb o _ _ hc e _=>k b o hc e) (λb o _ _ hc e _=>⟨o.slots,k b o hc e⟩) (λb o _ e n=>by rw[qae (nT b o e)]; exact n) (λb o hc e=>⟨o,k b o hc e⟩)
  (λb ys e=>by rw[qae (nTt b _ e)]; exact e) (λb o u e=>by rw[qae (nTt b _ e)]; exact e) (λb ps e=>⟨#[],by rw[qae (nTt b _ e),e]; simp⟩) (λm hm=> ?_) (λb u e=> ?_) I.bare
 ·obtain ⟨_,f1,_,f3,f4,f5⟩:=hch b hb
  exact ⟨f3,f1,f4,f5⟩
 ·obtain ⟨o,es,ep,ho,r⟩:=hm
  exact ⟨o,es,ep,k _ o (λz=>(hch _ z).2.1 rfl) ho,r⟩
 ·by_cases z:b=T
  ·subst z
   rw[qak] at e; cases e
   exact new
  ·rw[qae z] at e
   refine (I.hok b u e).stay (λc v hc q=>k c v ?_ q) (λc q=>by rw[qae (nTt c _ q)]; exact q) λc ys q=>by rw[qae (nTt c _ q)]; exact q
   rcases hc with rfl | hc
   ·exact nch _ _ e
   ·exact nch _ _ hc
theorem Inv.turnL {X:Cx} {pins:List (Addr×Obj)} {σ:St} {H:Hp} {s:Shared} {h':Heap} {t':Nat} {ch:List Addr} (I:Inv X pins σ H s) (hch: ∀b∈ch,qiH X pins H b) (k: ∀b o,b∉ch->s.heap.get? b=some o->h'.get? b=some o):
  Inv X pins σ H { s with heap:=h',toks:=t' }:=by
 have nch: ∀b u,H b=some u->b∉ch:=λb u e z=>by rw[(hch b z).1] at e; cases e
 refine I.step (g':=s.gens) (d':=s.drawn) (ch:=ch) (λb hb=> ?_) (λb o _ _ hc e _=>k b o hc e) (λb o _ _ hc e _=>⟨o.slots,k b o hc e⟩) (λb o _ e n=>n) (λb o hc e=>⟨o,k b o hc e⟩)
  (λb ys e=>e) (λb o u e=>e) (λb ps e=>⟨#[],by rw[e]; simp⟩) (λm hm=> ?_) (λb u e=> ?_) I.bare
 ·obtain ⟨_,f1,_,f3,f4,f5⟩:=hch b hb
  exact ⟨f3,f1,f4,f5⟩
 ·obtain ⟨o,es,ep,ho,r⟩:=hm
  exact ⟨o,es,ep,k _ o (λz=>(hch _ z).2.1 rfl) ho,r⟩
 ·refine (I.hok b u e).stay (λc v hc q=>k c v ?_ q) (λc q=>q) λc ys q=>q
  rcases hc with rfl | hc
  ·exact nch _ _ e
  ·exact nch _ _ hc
def Itz (K:PySem.W.Frag) (l1 l2:Addr):It:=
 ⟨λi H=> ∃xs ys,SqL K H l1 xs/\SqL K H l2 ys/\i<xs.length/\i<ys.length,
   λi H v H'=> ∃T x y,v= .ref T/\H T=none/\H'=upd H T (.tup [x,y])/\(∀xs,SqL K H l1 xs->xs[i]? =some x)/\∀ys,SqL K H l2 ys->ys[i]? =some y,
   λi H=> ∃xs ys,SqL K H l1 xs/\SqL K H l2 ys/\i=min xs.length ys.length⟩
def qrI (z TI TO i1 i2 l1 l2:Addr) (i:Nat) (h:Heap):Prop:=
 IsZip h z TI TO .none/\IsPair h TI (.ref i1) (.ref i2)/\(∃a b,IsPair h TO a b)/\h.IsListIter i1 l1 i/\h.IsListIter i2 l2 i
theorem qkN {P:Program} {w:World} {K:PySem.W.Frag} {elts:List Expr} {k:Nat} {pos:Pos} {z TI TO i1 i2 l1 l2:Addr} (D:ZipApart z TI TO i1 i2 l1 l2):qnT P w K (.Tuple elts k pos) (Itz K l1 l2) [z,TI,TO,i1,i2] z (qrI z TI TO i1 i2 l1 l2) where
 mem:=by simp
 obj:=λi h st b hb=>by
  obtain ⟨a1,a2,⟨x,y,a3⟩,⟨o4,a4,c4,d4⟩,⟨o5,a5,c5,d5⟩⟩:=st
  have hb':b=z\/b=TI\/b=TO\/b=i1\/b=i2:=by simpa using hb
  rcases hb' with rfl | rfl | rfl | rfl | rfl
  ·exact ⟨_,a1,λv q=>by have q':Data.fields _=Data.cell v:=q; cases q'⟩
  ·exact ⟨_,a2,λv q=>by have q':Data.seq _ _=Data.cell v:=q; cases q'⟩
  ·exact ⟨_,a3,λv q=>by have q':Data.seq _ _=Data.cell v:=q; cases q'⟩
  ·exact ⟨o4,a4,λv q=>by rw[d4] at q; cases q⟩
  ·exact ⟨o5,a5,λv q=>by rw[d5] at q; cases q⟩
 keep:=λi h h' st kk=>by
  obtain ⟨a1,a2,⟨x,y,a3⟩,a4,a5⟩:=st
  exact ⟨kk z (by simp) _ a1,kk TI (by simp) _ a2,⟨x,y,kk TO (by simp) _ a3⟩,a4.at λo e=>kk i1 (by simp) o e,a5.at λo e=>kk i2 (by simp) o e⟩
 item:=by
  intro X hP hw hK hc i pins s σ H E I hf st hg
  subst hP hw hK
  obtain ⟨xs,ys,h1,h2,g1,g2⟩:=hg
  obtain ⟨its1,r1,p1,z1⟩:=I.list h1
  obtain ⟨its2,r2,p2,z2⟩:=I.list h2
  have e1:=r1.length
  have e2:=r2.length
  have W:=WalksT.zip2 (prog:=X.prog) (w:=X.w) (I.ok.hd hc) z TI TO i1 i2 l1 l2 D its1.toArray its2.toArray
  obtain ⟨a1,a2,a3,a4,a5⟩:=st
  have hch: ∀b∈[z,TO,i1,i2],qiH X pins H b:=λb hb=>hf b (by
   have hb':b=z\/b=TO\/b=i1\/b=i2:=by simpa using hb
   rcases hb' with rfl | rfl | rfl | rfl<;>simp)
  refine W.item i s _ E (by simp; lia) ⟨a1,a2,a3,a4,a5,p1.isList,p2.isList⟩ λT vals h' tk hv hT hti hmid kp=> ?_
  obtain ⟨u1,u2,q1,q2,rfl⟩:=hv
  refine ⟨_,rfl,W.go elts k pos i T _ _ E hmid λh2' st' kp2=> ?_⟩
  obtain ⟨b1,b2,b3,b4,b5,_,_⟩:=st'
  have nT:T∉[z,TO,i1,i2]:=W.apart i T h' hmid
  obtain ⟨ox,hox,rox⟩:=hti
  have hx1:xs[i]? =some xs[i]:=List.getElem?_eq_getElem g1
  have hy1:ys[i]? =some ys[i]:=List.getElem?_eq_getElem g2
  obtain ⟨w1,ew1,rw1⟩:=r1.get hx1
  obtain ⟨w2,ew2,rw2⟩:=r2.get hy1
  have eu1:its1[i]? =some u1:=by simpa using q1
  have eu2:its2[i]? =some u2:=by simpa using q2
  rw[eu1] at ew1; cases ew1
  rw[eu2] at ew2; cases ew2
  have I1:Inv X pins σ (upd H T (.tup [xs[i],ys[i]])) { s with heap:=h2',toks:=tk }:=by
   refine I.turnT hch (λb o hb e=>kp2 b o hb (kp b o hb e)) hT ⟨by show 2<=sizeLine; decide,[u1,u2],.cons rw1 (.cons rw2 .nil),ox,kp2 T ox nT hox,rox⟩
  refine ⟨.ref T,_,I1,rfl,⟨T,_,_,rfl,I.hok.fresh hT,rfl,λxs' hx'=>by rw[I.list_inj hx' h1]; exact hx1,λys' hy'=>by rw[I.list_inj hy' h2]; exact hy1⟩,⟨b1,b2,b3,b4,b5⟩,λb hb=> ?_⟩
  obtain ⟨o,eo,_⟩: ∃o,s.heap.get? b=some o/\True:=by
   have hb':b=z\/b=TI\/b=TO\/b=i1\/b=i2:=by simpa using hb
   obtain ⟨x,y,a3'⟩:=a3
   obtain ⟨o4,a4',_⟩:=a4
   obtain ⟨o5,a5',_⟩:=a5
   rcases hb' with rfl | rfl | rfl | rfl | rfl
   ·exact ⟨_,a1,trivial⟩
   ·exact ⟨_,a2,trivial⟩
   ·exact ⟨_,a3',trivial⟩
   ·exact ⟨_,a4',trivial⟩
   ·exact ⟨_,a5',trivial⟩
  rw[qae (Nat.ne_of_lt (Nat.lt_of_lt_of_le (Heap.lt_size eo) hT))]
  exact (hf b hb).1
 done:=by
  intro X hP hw hK hc i pins s σ H E I hf st hg
  subst hP hw hK
  obtain ⟨xs,ys,h1,h2,g1⟩:=hg
  obtain ⟨its1,r1,p1,z1⟩:=I.list h1
  obtain ⟨its2,r2,p2,z2⟩:=I.list h2
  have e1:=r1.length
  have e2:=r2.length
  have W:=WalksT.zip2 (prog:=X.prog) (w:=X.w) (I.ok.hd hc) z TI TO i1 i2 l1 l2 D its1.toArray its2.toArray
  have hch: ∀b∈[z,TO,i1,i2],qiH X pins H b:=λb hb=>hf b (by
   have hb':b=z\/b=TO\/b=i1\/b=i2:=by simpa using hb
   rcases hb' with rfl | rfl | rfl | rfl<;>simp)
  obtain ⟨a1,a2,a3,a4,a5⟩:=st
  have en:min its1.toArray.size its2.toArray.size=i:=by simp; lia
  rw[en] at W
  exact W.done s _ E ⟨a1,a2,a3,a4,a5,p1.isList,p2.isList⟩ λh' tk kp=>⟨rfl,I.turnL hch kp⟩
 self:=λA i s Q E st h=>wpAny_pyIter_zip st.1 h
end L2
end
section
namespace L2
open PySem PySem.Spec PyProof.Rows
def qew (mg:Str->Option Value) (base:Heap):Prop:= ∃bm ob,mg "__builtins__" =some (.ref bm)/\bm≠builtinsNs/\base.get? bm=some ob/\ob.cls= .type "module" /\ob.dict=some builtinsNs/\ob.data= .plain
end L2
end
section
namespace L2
open PySem PySem.Spec PySem.Calls PyProof.Rows
theorem qbu.obj {P:Program} {w:World} {H:Hp} {h:Heap} {a:Addr} {o:HO} (x:qbu P w H h a o): ∃u,h.get? a=some u:=by
 cases o with
 | lst xs=>obtain ⟨_,_,_,_,e⟩:=x; exact ⟨_,e⟩
 | tup xs=>obtain ⟨_,_,_,p⟩:=x; exact p.imp λ_ q=>q.1
 | dK kvs=>obtain ⟨_,_,_,_,o,_,_,e,_⟩:=x; exact ⟨_,e⟩
 | dT kvs=>obtain ⟨_,_,_,_,o,_,_,e,_⟩:=x; exact ⟨_,e⟩
 | set S n=>obtain ⟨o,_,_,_,e,_⟩:=x; exact ⟨_,e⟩
 | ins C dx fs=>obtain ⟨_,_,_,e,_⟩:=x; exact ⟨_,e⟩
 | own y=>obtain ⟨_,e⟩:=x; exact ⟨_,e⟩
 | xd fs=>obtain ⟨_,⟨_,_,_,e,_⟩,_⟩:=x; exact ⟨_,e⟩
 | rng lo hi=>obtain ⟨_,_,_,e⟩:=x; exact ⟨_,e⟩
 | frz ob u=>obtain ⟨e,_⟩:=x; exact ⟨_,e⟩
 | tbl ps=>exact ⟨_,(show h.get? a=some _ from x)⟩
 | met f y=>exact ⟨_,(show h.get? a=some _ from x)⟩
 | ext φ=>obtain ⟨_,⟨_,e⟩,_⟩:=x; exact ⟨_,e⟩
structure qiG (P:Program) (w:World) (outer:List Env) (H:Hp) (s:Shared) (H':Hp) (B h':Heap):Prop where
 hok:HOk P w H' B
 st:B.StaysIn h'
 bk: ∀b o,s.heap.get? b=some o->H b=none->b∉frs outer->B.get? b=some o
 th: ∀b o,s.heap.get? b=some o->b∉frs outer->∃o',B.get? b=some o'
 sl: ∀b o,s.heap.get? b=some o->b∈frs outer->(∀vs,o.data≠.fields vs)/\∃sl,h'.get? b=some { o with slots:=sl }
 free: ∀b o,s.heap.get? b=some o->H b=none->H' b=none
 tups: ∀b xs,H b=some (.tup xs)->H' b=some (.tup xs)
 frzs: ∀b o u,H b=some (.frz o u)->H' b=some (.frz o u)
 tbls: ∀b ps,H b=some (.tbl ps)->∃more,H' b=some (.tbl (ps++more))
section
variable {P:Program} {w:World} {outer:List Env} {H H':Hp} {s s':Shared} {B h' h'':Heap}
theorem qiG.un (L:qiG P w outer H s H' B h'):Un (frs outer) [] H H' s.heap h' where
 keep:=λb o e n nb _=>L.st b o (L.bk b o e n nb)
 slot:=λb o e _ hb _=>(L.sl b o e hb).2
 free:=λb o e n _=>L.free b o e n
 there:=λb o e _=>by
  by_cases hb:b∈frs outer
  ·obtain ⟨sl,q⟩:=(L.sl b o e hb).2
   exact ⟨_,q⟩
  ·obtain ⟨o',q⟩:=L.th b o e hb
   exact ⟨o',L.st b o' q⟩
 tups:=L.tups
 frzs:=L.frzs
 tbls:=L.tbls
theorem qiG.on (L:qiG P w outer H s H' B h') (st:B.StaysIn h'') (up:h'.UpToSlots h''):qiG P w outer H s H' B h'':=
 { L with
  st:=st
  sl:=λb o e hb=>by
   obtain ⟨nf,sl,q⟩:=L.sl b o e hb
   obtain ⟨sl',q'⟩:=up b _ q nf
   exact ⟨nf,sl',q'⟩ }
end
section
variable {X:Cx} {pins:List (Addr×Obj)} {σ:St} {H H':Hp} {s s':Shared} {B h' h'':Heap} {C a t:Addr}
theorem qgc (hst:X.stack=X.env::X.outer) (hf:X.env.frame=some X.env.locals):frs X.stack=X.env.locals::frs X.outer:=by
 rw[hst]
 show ((X.env::X.outer).filterMap (·.frame))=_
 rw[List.filterMap_cons,hf]
 rfl
theorem qiG.leave (hst:X.stack=X.env::X.outer) (hf:X.env.frame=some X.env.locals) (hex:X.ex=[]) (I:Inv X pins σ H s) (L:qiG X.prog X.w X.stack H s H' B h'):qiG X.prog X.w X.outer X.H₀ X.s₀ H' B h':=by
 have nx: ∀b:Addr,b∉X.ex:=λb z=>by rw[hex] at z; cases z
 have neL: ∀b o,X.s₀.heap.get? b=some o->b≠X.env.locals:=λb o e=>Nat.ne_of_lt (Nat.lt_of_lt_of_le (Heap.lt_size e) I.ok.above)
 have out: ∀b o,X.s₀.heap.get? b=some o->b∉frs X.outer->b∉frs X.stack:=λb o e nb z=>by
  rw[qgc hst hf] at z
  rcases List.mem_cons.mp z with q | q
  ·exact neL b o e q
  ·exact nb q
 refine ⟨L.hok,L.st,λb o e n nb=> ?_,λb o e nb=> ?_,λb o e hb=> ?_,λb o e n=> ?_,λb xs q=>L.tups b xs (I.base.tups b xs q),λb o u q=>L.frzs b o u (I.base.frzs b o u q),λb ps q=> ?_⟩
 ·exact L.bk b o (I.base.keep b o e n nb (nx b)) (I.base.free b o e n (nx b)) (out b o e nb)
 ·obtain ⟨o',e'⟩:=I.base.there b o e (nx b)
  exact L.th b o' e' (out b o e nb)
 ·obtain ⟨sl,e1⟩:=I.base.slot b o e (I.ok.frf b hb) hb (nx b)
  obtain ⟨nf,sl',e2⟩:=L.sl b _ e1 (by rw[qgc hst hf]; exact List.mem_cons_of_mem _ hb)
  exact ⟨nf,sl',e2⟩
 ·obtain ⟨sl,e1⟩:=I.base.any e n (nx b)
  exact L.free b _ e1 (I.base.free b o e n (nx b))
 ·obtain ⟨m1,e1⟩:=I.base.tbls b ps q
  obtain ⟨m2,e2⟩:=L.tbls b _ e1
  exact ⟨m1++m2,by rw[e2,Array.append_assoc]⟩
theorem qiG.made (I:Inv X pins σ H s) (k: ∀b o,s.heap.get? b=some o->h'.get? b=some o):qiG X.prog X.w X.stack H s H (PySem.W.hideAll s.heap (frs X.stack)) h' where
 hok:=λa o e=>(I.hok a o e).stay (λb u hb r=>PySem.W.hideAll_get _ r λz=>by
   have n:=I.stkFree b z
   rcases hb with q | q
   ·rw[q,e] at n; cases n
   ·rw[q] at n; cases n) (λ_ r=>r) λ_ _ r=>r
 st:=λb o e=>k b o (PySem.W.of_hideAll _ e)
 bk:=λb o e n nb=>PySem.W.hideAll_get _ e nb
 th:=λb o e nb=>⟨o,PySem.W.hideAll_get _ e nb⟩
 sl:=λb o e hb=>by
  obtain ⟨_,o',e',nf⟩:=I.stack.mem hb
  rw[e] at e'; cases e'
  exact ⟨nf,o.slots,k b o e⟩
 free:=λ_ _ _ n=>n
 tups:=λ_ _ q=>q
 frzs:=λ_ _ _ q=>q
 tbls:=λ_ ps q=>⟨#[],by rw[q]; simp⟩
end
structure Fly (P:Program) (w:World) (outer:List Env) (H:Hp) (s:Shared) (C:Addr) (H':Hp) (a t:Addr) (B:Heap) (s':Shared):Prop where
 os:s'.os=s.os
 bare:AllBare s'.gens
 fly:Heap.FlyingW B outer a (.ref C) (.ref t) s'.heap
 lies:qiG P w outer H s H' B s'.heap
 new:H' a=none
structure qth (P:Program) (w:World) (outer:List Env) (H:Hp) (s:Shared) (C:Addr) (H':Hp) (a t L:Addr) (B:Heap) (s':Shared):Prop where
 os:s'.os=s.os
 bare:AllBare s'.gens
 held:Heap.HeldW B outer a (.ref C) (.ref t) L s'.heap
 lies:qiG P w outer H s H' B s'.heap
 new:H' a=none
section
variable {X:Cx} {M:Model} {E:Value->Shared->Prop} {pins:List (Addr×Obj)} {σ:St} {H H':Hp} {s s':Shared} {B h' h'':Heap} {C a t:Addr}
theorem Fly.leave (hst:X.stack=X.env::X.outer) (hf:X.env.frame=some X.env.locals) (hex:X.ex=[]) (I:Inv X pins σ H s) (F:Fly X.prog X.w X.stack H s C H' a t B s'):
  wpAny M X.A (leaving X.env (.ref a)) (λ_ s''=>Fly X.prog X.w X.outer X.H₀ X.s₀ C H' a t B s'') E s':=by
 refine wpAny_leaves_onW (I.ok.frames.trans (congrArg _ hst)) hf (hst▸F.fly) λh'' fl up=> ?_
 exact ⟨F.os.trans I.os,F.bare,fl,(F.lies.on fl.1 up).leave hst hf hex I,F.new⟩
theorem Fly.made {args:List Value} (hst:X.stack=X.env::X.outer) (hf:X.env.frame=some X.env.locals) (hex:X.ex=[]) (I:Inv X pins σ H s) (hm:Heap.MadeExcOf s.heap h' a (.ref C) args):
  wpAny M X.A (leaving X.env (.ref a)) (λ_ s''=> ∃t B,Fly X.prog X.w X.outer X.H₀ X.s₀ C H a t B s'') E { s with heap:=h' }:=by
 have hin: ∀env∈X.stack,∀b,env.frame=some b->b∈frs X.stack:=λenv he b hb=>List.mem_filterMap.mpr ⟨env,he,hb⟩
 have L:=qiG.made (h':=h') I hm.keeps
 refine wpAny_leaves_madeW (base:=PySem.W.hideAll s.heap (frs X.stack)) (h:=s.heap) (s:={ s with heap:=h' }) (I.ok.frames.trans (congrArg _ hst)) hf (λb o q=>PySem.W.of_hideAll _ q) (hst▸PySem.W.funFrames_hide I.stack hin) hm λh'' t fl _ _ up=> ?_
 refine ⟨t,_,I.os,I.bare,fl,(L.on fl.1 up).leave hst hf hex I,?_⟩
 cases q:H a with
 | none=>rfl
 | some o=>
  obtain ⟨u,hu⟩:=(I.hok a o q).obj
  rw[hm.new] at hu; cases hu
theorem Fly.look {Q:Unit->Shared->Prop} (hst:X.stack=X.env::X.outer) (hf:X.env.frame=some X.env.locals) (I:Inv X pins σ H s) (F:Fly X.prog X.w X.stack H s C H' a t B s')
  (h: ∀s'',Fly X.prog X.w X.stack H s C H' a t B s''->Q () s''):
  wpAny M X.A (noteFrame (.ref a) X.env) (λ_ s₂=>wpAny M X.A (setFlight (.ref a) none) Q E s₂) E s':=by
 refine wpAny_looks_onW (I.ok.frames.trans (congrArg _ hst)) hf (hst▸F.fly) λh4 hh up=> ?_
 refine wpAny_landsW (s:={ s' with heap:=h4 }) hh λh5 fl up5=> ?_
 exact h _ ⟨F.os,F.bare,hst▸fl,(F.lies.on (hh.1) up).on fl.1 up5,F.new⟩
theorem Fly.land {A:Around} {Q:Unit->Shared->Prop} {outer:List Env} {P:Program} {w:World} (F:Fly P w outer H s C H' a t B s') (h: ∀s'',Fly P w outer H s C H' a t B s''->Q () s''):wpAny M A (setFlight (.ref a) none) Q E s':=
 lands_againW F.fly λh5 fl up=>h _ ⟨F.os,F.bare,fl,F.lies.on fl.1 up,F.new⟩
end
def CXE (P:Program) (w:World):CXT:=λouter H s E e s'=> ∃C H' a t B,e= .ref a/\Fly P w outer H s C H' a t B s'/\E (.ref C) none H'
theorem qbI.lift {P:Program} {w:World} {K:PySem.W.Frag} {mg:Str->Option Value} {base:Heap} {CX:CXT} {k:Nat} {f:Addr} {fd:FuncData} {ps:List Str} {sp:Sp} (F:qbI P w K mg base CX0 k f fd ps sp):qbI P w K mg base CX k f fd ps sp:=
 ⟨F.len,λA outer s H args us vs Q E hr he hb hv hs=>codeAny_mono (F.run A outer s H args us vs Q E hr he hb hv hs) λr s' q=>by
  cases r with
  | error e=>exact False.elim q
  | ok fl=>cases fl<;>exact q⟩
theorem qqR {P:Program} {w:World} {K:PySem.W.Frag} {mg:Str->Option Value} {base:Heap} {N:List Str} {qual:Str} {scope:Scope} {f:Addr} {cd:Value} {A:Around} {outer:List Env} {s:Shared} {H:Hp} {E E1:XK}
  (h: ∀C H',E1 (.ref C) none H'->E (.ref C) none H'):qc7 (CXE P w) (qcZ (CXE P w) P w K mg base N qual scope f cd A outer s H E) E1:=
 λpins σ H1 s1 e s' I ⟨C,H',a,t,B,he,F,q⟩=>by
  subst he
  exact wpAny_mono (Fly.leave (X:=qcZ (CXE P w) P w K mg base N qual scope f cd A outer s H E) rfl rfl rfl I F) (λ_ s'' F'=>⟨C,H',a,t,B,rfl,F',h C H' q⟩) λ_ _ x=>x
def bmV:List Value:=[.type "ValueError",.type "Exception",.type "BaseException",.type "object"]
def qil:List Str:=["__init__", "__getattribute__", "__getattr__", "__class__"]
inductive qcP (h:Heap) (bmB:List Value):List Value->Prop
 | base:qcP h bmB bmB
 | own {A:Addr} {c0:Value} {dd:Option Addr} {cd:ClassData} {sl:Array (Option Value)} {mA:Str->Option Value} {tl:List Value}:
   h.get? A=some { cls:=c0,dict:=dd,data:=.cls cd,slots:=sl }->h.Ns cd.ns mA->(∀n∈qil,mA n=none)->qcP h bmB tl->qcP h bmB (.ref A::tl)
theorem qcP.tail {h:Heap} {bmB tl:List Value} (T:qcP h bmB tl):OwnTail h bmB tl:=by
 induction T with
 | base=>exact .base
 | own hA hN hq _ ih=>exact .own hA hN (hq _ (.head _)) ih
theorem qcP.keeps {h h':Heap} {bmB tl:List Value} (T:qcP h bmB tl) (hk: ∀b o,h.get? b=some o->h'.get? b=some o):qcP h' bmB tl:=by
 induction T with
 | base=>exact .base
 | own hA hN hq _ ih=>exact .own (hk _ _ hA) (hN.keeps hk) hq ih
def qeE (h:Heap) (C:Addr) (bm:List Value):Prop:=
 ∃N nm q bs hdct sn sub ab col dd k0 k1 k2 k3 k5 mN,h.get? C=some (excClassObj nm q C N bs bm hdct sn sub ab col dd k0 k1 k2 k3 k5 "ValueError.__new__")/\h.Ns N mN/\(∀n∈qil,mN n=none)/\qcP h bmV bm
theorem qeE.keeps {h h':Heap} {C:Addr} {bm:List Value} (x:qeE h C bm) (k: ∀b o,h.get? b=some o->h'.get? b=some o):qeE h' C bm:=
 let ⟨N,nm,q,bs,hdct,sn,sub,ab,col,dd,k0,k1,k2,k3,k5,mN,e,n,i,T⟩:=x
 ⟨N,nm,q,bs,hdct,sn,sub,ab,col,dd,k0,k1,k2,k3,k5,mN,k _ _ e,n.keeps k,i,T.keeps k⟩
theorem qeE.base {h:Heap} {C:Addr} {bm:List Value} (x:qeE h C bm):bm.contains (.type "BaseException")=true:=
 let ⟨_,_,_,_,_,_,_,_,_,_,_,_,_,_,_,_,_,_,_,T⟩:=x
 T.tail.hasType (by decide)
def qn8 (C:Addr) (E:XK):TS:=λ_ _ H=>E (.ref C) none H
theorem qk2 {P:Program} {w:World} {K:PySem.W.Frag} {mg:Str->Option Value} {base:Heap} {N:List Str} {qual:Str} {scope:Scope} {f:Addr} {cd:Value} {A:Around} {outer:List Env} {s:Shared} {H:Hp} {E:XK}
  {x msg:Str} {C:Addr} {bm:List Value} {j np p1 cpos pos} (hC:qeE base C bm) (hm:mg x=some (.ref C)) (hg:Gl (qcZ (CXE P w) P w K mg base N qual scope f cd A outer s H E) x)
  (hdb:(x==("__debug__" :Str))=false:=by decide):
  PS (qcZ (CXE P w) P w K mg base N qual scope f cd A outer s H E) (.Raise (some (.Call (.Name x np) [.Constant (.str msg) j p1] [] cpos)) none pos) (qn8 C E):=by
 intro pins s1 σ H1 D I h
 have hCs:=hC.keeps I.bk
 obtain ⟨Nn,nm,q,bs,hdct,sn,sub,ab,col,dd,k0,k1,k2,k3,k5,mN,e,n,i,T⟩:=id hC
 refine wpAny_Raise_call_subT (C:=C) (nm:=nm) (q:=q) (N:=Nn) (bs:=bs) (bm:=bm) (hdct:=hdct) (sn:=sn) (sub:=sub) (ab:=ab) (col:=col) (dd:=dd) (k0:=k0) (k1:=k1) (k2:=k2) (k3:=k3) (k5:=k5) PySem.F.excBase_ValueError hC.base (I.ok.hd rfl) (by rfl) (i _ (.head _)) ?_
 refine qda I hg hm ⟨rfl,?_⟩ hdb
 refine Calls.evalArgs_plain ?_
 have hp:PA (qcZ (CXE P w) P w K mg base N qual scope f cd A outer s H E) [.Constant (.str msg) j p1] (qc8 (tC (.str msg)) qhq):=qag qcm qar
 refine thn (hp cpos pins s1 σ H1 (λvs H2=>H2=H1/\vs.length=1) I ⟨rfl,rfl⟩) λus s2 hq226=> ?_
 obtain ⟨vs,H2,I2,r,eH,el⟩:=hq226
 subst eH
 have ul:us.length=1:=by rw[<-r.length]; exact el
 refine ⟨rfl,by show us.length<=sizeLine; rw[ul]; decide,I2.bk _ _ e,n.keeps I2.bk,T.tail.keeps I2.bk,λh' a hx=> ?_⟩
 exact wpAny_mono (Fly.made (X:=qcZ (CXE P w) P w K mg base N qual scope f cd A outer s H E) rfl rfl rfl I2 hx) (λ_ s'' ⟨t,B,F'⟩=>⟨C,H2,a,t,B,rfl,F',h⟩) λ_ _ x=>x
end L2
end
section
namespace L2
open PySem PySem.Spec PySem.Calls PyProof.Rows
abbrev Cx.hold (X:Cx) (pins:List (Addr×Obj)) (E:Value->Shared->Prop):Cx:={ X with pn:=X.pn++pins,xe:=E }
abbrev Cx.within (X:Cx) (a:Addr):Cx:={ X with A:=X.A.mark (some (.ref a)),calm:=false,xe:=λ_ _=>False }
section
variable {X:Cx} {pins pins':List (Addr×Obj)} {E:Value->Shared->Prop} {σ:St} {H H':Hp} {s s':Shared} {a C t:Addr} {B:Heap}
theorem Cx.Ok.hold (ok:X.Ok):(X.hold pins E).Ok:=⟨ok.mod,ok.kind,ok.glob,ok.blt,ok.above,ok.inj,ok.has,ok.cab,ok.hd,ok.frames,ok.stk,ok.exf,ok.bs,ok.bsz,ok.noex,ok.exfs,ok.funs,ok.frf⟩
theorem Cx.Ok.unhold (ok:(X.hold pins E).Ok):X.Ok:=⟨ok.mod,ok.kind,ok.glob,ok.blt,ok.above,ok.inj,ok.has,ok.cab,ok.hd,ok.frames,ok.stk,ok.exf,ok.bs,ok.bsz,ok.noex,ok.exfs,ok.funs,ok.frf⟩
theorem Inv.hold (I:Inv X pins σ H s):Inv (X.hold pins E) [] σ H s:=⟨I.ok.hold,I.os,I.bare,I.base,I.loc,I.cell,I.free,I.freeC,λp hp=>I.pin p (by rw[List.append_nil] at hp; exact hp),I.hok,I.len⟩
theorem Inv.unhold (I:Inv (X.hold pins E) pins' σ H s):Inv X pins σ H s:=⟨I.ok.unhold,I.os,I.bare,I.base,I.loc,I.cell,I.free,I.freeC,λp hp=>I.pin p (List.mem_append_left _ hp),I.hok,I.len⟩
theorem SP.unhold {D:qkJ} {f:Flow} (h:SP (X.hold pins E) pins' D f s'):SP X pins D f s':=by
 cases f with
 | next=>obtain ⟨σ',H',I,q⟩:=h; exact ⟨σ',H',I.unhold,q⟩
 | brk=>obtain ⟨σ',H',I,q⟩:=h; exact ⟨σ',H',I.unhold,q⟩
 | cont=>obtain ⟨σ',H',I,q⟩:=h; exact ⟨σ',H',I.unhold,q⟩
 | ret u=>obtain ⟨v,σ',H',I,r,q⟩:=h; exact ⟨v,σ',H',I.unhold,r,q⟩
theorem Cx.Ok.within (ok:X.Ok):(X.within a).Ok:=⟨ok.mod,ok.kind,ok.glob,ok.blt,ok.above,ok.inj,ok.has,ok.cab,(λz=>by cases z),ok.frames,ok.stk,ok.exf,ok.bs,ok.bsz,ok.noex,ok.exfs,ok.funs,ok.frf⟩
theorem Inv.within (I:Inv X pins σ H s):Inv (X.within a) pins σ H s:=⟨I.ok.within,I.os,I.bare,I.base,I.loc,I.cell,I.free,I.freeC,I.pin,I.hok,I.len⟩
theorem Inv.unwithin (ok:X.Ok) (I:Inv (X.within a) pins σ H s):Inv X pins σ H s:=⟨ok,I.os,I.bare,I.base,I.loc,I.cell,I.free,I.freeC,I.pin,I.hok,I.len⟩
theorem Fly.inv (I:Inv X pins σ H s) (F:Fly X.prog X.w X.stack H s C H' a t B s'):Inv X pins σ H' s':=
 I.call' F.os F.lies.un (F.lies.hok.kept F.lies.st) F.bare λb z=>absurd z (by simp)
def ExO (a C:Addr):HO:=.ext λh=> ∃o,h.get? a=some o/\o.cls= .ref C
theorem Fly.gone (F:Fly X.prog X.w X.stack H s C H' a t B s'):s.heap.get? a=none:=by
 cases q:s.heap.get? a with
 | none=>rfl
 | some o=>
  by_cases hb:a∈frs X.stack
  ·obtain ⟨nf,sl,e⟩:=F.lies.sl a o q hb
   obtain ⟨oe,ws,he,hc,hd,h0⟩:=F.fly.first
   rw[he] at e; cases e
   exact absurd hd (nf ws)
  ·obtain ⟨o',e⟩:=F.lies.th a o q hb
   rw[F.fly.2.1] at e; cases e
theorem Fly.invX (I:Inv X pins σ H s) (F:Fly X.prog X.w X.stack H s C H' a t B s'):Inv X pins σ (upd H' a (ExO a C)) s':=by
 have u:=F.lies.un
 have g:=F.gone
 have hok:=F.lies.hok.kept F.lies.st
 have ne: ∀b o,H' b=some o->b≠a:=λb o e z=>by rw[z,F.new] at e; cases e
 refine I.call' F.os (ch:=[]) ⟨u.keep,u.slot,λb o e n hx=> ?_,u.there,λb xs q=> ?_,λb o w q=> ?_,λb ps q=> ?_⟩ (λb o e=> ?_) F.bare λb z=>absurd z (by simp)
 ·rw[qae (λz=>by rw[z,g] at e; cases e)]
  exact u.free b o e n hx
 ·have q':=u.tups b xs q
  rw[qae (ne _ _ q')]; exact q'
 ·have q':=u.frzs b o w q
  rw[qae (ne _ _ q')]; exact q'
 ·obtain ⟨m,q'⟩:=u.tbls b ps q
  exact ⟨m,by rw[qae (ne _ _ q')]; exact q'⟩
 ·by_cases z:b=a
  ·subst z
   rw[qak] at e; cases e
   obtain ⟨oe,ws,he,hc,hd,h0⟩:=F.fly.first
   exact ⟨⟨oe,he,hc⟩,⟨oe,he⟩,λh1 h2 ⟨o,e1,e2⟩ k=>⟨o,k o e1,e2⟩⟩
  ·rw[qae z] at e
   exact (hok b o e).stay (λ_ _ _ r=>r) (λc r=>by rw[qae (ne _ _ r)]; exact r) λc xs r=>by rw[qae (ne _ _ r)]; exact r
end
section
variable {M:Model} {A:Around} {E:Value->Shared->Prop} {s:Shared}
theorem qeI {e C D:Addr} {bm bmD:List Value} {oe:Obj} {Q:Bool->Shared->Prop} (hC:qeE s.heap C bm) (hD:qeE s.heap D bmD) (he:s.heap.get? e=some oe) (hcls:oe.cls= .ref C)
  (hq:Q ((Value.ref C::bm).contains (.ref D)) s):wpAny M A (excMatches (.ref e) (.ref D)) Q E s:=by
 have hcB:(Value.ref D::bmD).contains (.type "BaseException")=true:=by rw[List.contains_cons,hD.base,Bool.or_true]
 obtain ⟨N,nm,q,bs,hdct,sn,sub,ab,col,dd,k0,k1,k2,k3,k5,mN,hC,_⟩:=hC
 obtain ⟨N',nm',q',bs',hdct',sn',sub',ab',col',dd',k0',k1',k2',k3',k5',mN',hD,_⟩:=hD
 have f:=tc_notTuple
 obtain ⟨h,g,d,t,os⟩:=s
 unfold excMatches
 repeat (first | (with_reducible refine wpAny_loadPart_at he ?_; rw[hcls]) | with_reducible refine wpAny_loadPart_at hD ?_ | (with_reducible refine wpAny_isSubtype_exc hD ?_; rw[hcB]) | with_reducible refine wpAny_isSubtype_exc hC ?_ | wp_step)
 cases hb:(Value.ref C::bm).contains (.ref D)<;>(rw[hb] at hq; first | exact hq | (wp_walk; exact hq))
end
def XE (X:Cx) (pins:List (Addr×Obj)) (W:St->Addr->Hp->Prop):Value->Shared->Prop:=λe s'=>
 ∃σ H s C H' a t B,e= .ref a/\Inv X pins σ H s/\Fly X.prog X.w X.stack H s C H' a t B s'/\W σ C H'
def eW (W:St->Addr->Hp->Prop) (σ:St):XK:=λv _ H'=> ∃C,v= .ref C/\W σ C H'
def qpX (base:Heap) (CH:Addr) (i:Nat) (ts:TS) (D:qkJ):St->Addr->Hp->Prop:=λσ C H=> ∃bm,qeE base C bm/\(Value.ref C::bm).contains (.ref CH)=true/\
 ∀a,H a=none->ts { nx:=λσ' H'=>D.nx (σ'.set i none) H',rt:=D.rt,bk:=λσ' H'=>D.bk (σ'.set i none) H',ct:=λσ' H'=>D.ct (σ'.set i none) H' } (σ.set i (some (.ref a))) (upd H a (ExO a C))
def qp6 (base:Heap) (CH:Addr) (i:Nat) (tb:(St->Addr->Hp->Prop)->TS) (ts:TS):TS:=λD σ H=>tb (qpX base CH i ts D) D σ H
section
variable {X:Cx} {body suite:List Stmt} {b₀:Stmt} {x n:Str} {np hpos pos:Pos} {CH:Addr} {bmH:List Value} {tb:(St->Addr->Hp->Prop)->TS} {ts:TS} {E:XK}
theorem qdU {M:Model} {A:Around} {Ex:Value->Shared->Prop} {i:Nat} {Q:Unit->Shared->Prop} {pins:List (Addr×Obj)} {σ:St} {H:Hp} {s:Shared} (I:Inv X pins σ H s) (hN:X.N.Nodup) (hi:X.N[i]? =some n) (hk:X.env.kindOf n=some .local)
  (h: ∀s',Inv X pins (σ.set i none) H s'->Q () s'):wpAny M A (do bindName X.env n .none; unbindBehindTheSuite X.env n pos) Q Ex s:=by
 obtain ⟨m,hn,hl⟩:=id I.loc
 refine wpAny_nameGoes_keeps hk hn (by rw[I.ok.kind]; rfl) λh' v hn' hs=> ?_
 have cne:=I.cne
 have neL: ∀b o,X.s₀.heap.get? b=some o->b≠X.env.locals:=λb o e=>Nat.ne_of_lt (Nat.lt_of_lt_of_le (Heap.lt_size e) I.ok.above)
 refine h _ ⟨I.ok,I.os,I.bare,⟨λb o e n hb hx=> ?_,λb o e n hb hx=> ?_,I.base.free,λb o e hx=> ?_,I.base.tups,I.base.frzs,I.base.tbls⟩,⟨_,hn',λj y v' e1 e2 e3=> ?_⟩,λy c e=> ?_,I.free,I.freeC,λp hp=> ?_,λb ob e=> ?_,?_⟩
 ·exact (hs.2 b (neL b o e)).trans (I.base.keep b o e n hb hx)
 ·obtain ⟨sl,e1⟩:=I.base.slot b o e n hb hx
  exact ⟨sl,(hs.2 b (neL b o e)).trans e1⟩
 ·obtain ⟨o',e1⟩:=I.base.there b o e hx
  exact ⟨o',(hs.2 b (neL b o e)).trans e1⟩
 ·by_cases hj:j=i
  ·subst hj
   have hiσ:j<σ.length:=by rw[I.len]; exact (List.getElem?_eq_some_iff.mp hi).1
   rw[List.getElem?_set_self hiσ] at e2
   cases e2
  ·rw[List.getElem?_set_ne (Ne.symm hj)] at e2
   obtain ⟨u',r',q⟩:=hl j y v' e1 e2 e3
   refine ⟨u',r',?_⟩
   rcases q with ⟨k,e⟩ | ⟨k,c,e,z⟩
   ·refine .inl ⟨k,?_⟩
    have:y≠n:=λe=>hj (qfp hN e1 (e▸hi))
    simp[this,e]
   ·exact .inr ⟨k,c,e,z.sameBut hs (cne y c e)⟩
 ·obtain ⟨w',z⟩:=I.cell y c e
  exact ⟨w',z.sameBut hs (cne y c e)⟩
 ·obtain ⟨e,n,ne,nf,d⟩:=I.pin p hp
  exact ⟨(hs.2 p.1 ne).trans e,n,ne,nf,d⟩
 ·refine (I.hok b ob e).stay (λc w' hc q=>(hs.2 c ?_).trans q) (λ_ q=>q) λ_ _ q=>q
  intro z
  rcases hc with hc | hc
  ·rw[<-hc,z,I.free] at e; cases e
  ·rw[z,I.free] at hc; cases hc
 ·rw[List.length_set]
  exact I.len
theorem qmO {i:Nat} (hst:X.stack=X.env::X.outer) (hf:X.env.frame=some X.env.locals) (hN:X.N.Nodup) (hi:X.N[i]? =some n) (hk:X.env.kindOf n=some .local)
  (hg:Gl X x) (hm:X.mg x=some (.ref CH)) (hH:qeE X.base CH bmH) (hb: ∀pins W,PSs (X.hold pins (XE X pins W)) body (tb W)) (hs: ∀a,PSs (X.within a) (b₀::suite) ts) (hdb:(x==("__debug__" :Str))=false:=by decide):
  PS X (.Try body [.ExceptHandler (some (.Name x np)) (some n) (b₀::suite) hpos] [] [] pos) (qp6 X.base CH i tb ts):=by
 intro pins s σ H D I h
 refine wpAny_Try_except ?_
 refine wpAny_mono (hb pins _ [] s σ H D I.hold h) (λf s1 hq=> ?_) (λe s1 hq=> ?_)
 ·have hq':=hq.unhold
  cases f with
  | next=>exact wpAny_execs_nil hq'
  | brk=>exact hq'
  | cont=>exact hq'
  | ret u=>exact hq'
 ·obtain ⟨σ1,H1,s0,C,H',a,t,B,rfl,I1,F,bm,hC,hb2,w⟩:=hq
  refine F.look hst hf I1 λs2 F2=> ?_
  have I2:=F2.inv I1
  obtain ⟨oe,ws,he,hc,hd,h0⟩:=F2.fly.first
  refine wpAny_handleBy_cons (codeAny_handlers_test ?_) (by intro q; cases q)
  refine qda (X:=X.within a) I2.within hg hm ?_ hdb
  refine qeI (hC.keeps I2.bk) (hH.keeps I2.bk) he hc ?_
  rw[hb2]
  refine codeAny_handlers_suite_as ?_
  refine F2.land λs3 F3=> ?_
  refine qe9 (X:=X.within a) (v:=.ref a) (F3.invX I1).within hN hi (Or.inl hk) rfl (λs4 I4=> ?_) (.inr hk)
  refine wpAny_mono (hs a pins s4 _ _ _ I4 (w a F3.new)) (λf s5 q=> ?_) (λ_ _ z=>z.elim)
  cases f with
  | next=>obtain ⟨σ',H5,J,z⟩:=q; exact qdU (J.unwithin I.ok) hN hi hk λs6 J6=>⟨_,_,J6,z⟩
  | brk=>obtain ⟨σ',H5,J,z⟩:=q; exact qdU (J.unwithin I.ok) hN hi hk λs6 J6=>⟨_,_,J6,z⟩
  | cont=>obtain ⟨σ',H5,J,z⟩:=q; exact qdU (J.unwithin I.ok) hN hi hk λs6 J6=>⟨_,_,J6,z⟩
  | ret u=>obtain ⟨v,σ',H5,J,r,z⟩:=q; exact qdU (J.unwithin I.ok) hN hi hk λs6 J6=>⟨v,_,_,J6,r,z⟩
end
end L2
end
section
namespace L2
open PySem PySem.Spec PySem.Calls PyProof.Rows
section
variable {M:Model} {A:Around} {E:Value->Shared->Prop} {h:Heap} {g:Array GenState} {d:Drawn} {t:Nat} {os:OsState}
theorem qfs {tl:List Value} {n:Str} {y:Option Value} {Q:Option Value->Shared->Prop} (hn:n∈qil) (T:qcP h bmV tl) (hrest:lookupAlong bmV n=pure y) (hq:Q y ⟨h,g,d,t,os⟩):
  wpAny M A (lookupAlong tl n) Q E ⟨h,g,d,t,os⟩:=by
 induction T with
 | base=>rw[hrest]; exact wpAny_pure hq
 | own hA hN hni _ ih=>
  rw[lookupAlong_cons]
  refine wpAny_bind (wpAny_classOwn_cls hA hN ?_)
  rw[hni n hn]
  exact ih
variable {nm q:Str} {C N:Addr} {bs bm:List Value} {hdct:Bool} {sn:List Str} {sub:List Value} {ab:Bool} {col:Option Bool} {dd:Option Addr} {k0 k1 k2 k3 k5:Option Value} {newId:String}
theorem qcB {mN:Str->Option Value} {n:Str} {y:Option Value} {Q:Option Value->Shared->Prop} (hn:n∈qil)
  (hC:h.get? C=some (excClassObj nm q C N bs bm hdct sn sub ab col dd k0 k1 k2 k3 k5 newId)) (hN:h.Ns N mN) (hmN: ∀n∈qil,mN n=none) (T:qcP h bmV bm)
  (hB:typeLookup (.type "ValueError") n=pure y) (hq:Q y ⟨h,g,d,t,os⟩):wpAny M A (typeLookup (.ref C) n) Q E ⟨h,g,d,t,os⟩:=by
 have hrest:lookupAlong bmV n=pure y:=by
  have e:=PySem.F.attrBase_ValueError.mro
  rw[typeLookup_eq,e] at hB
  exact hB
 rw[typeLookup_eq]
 refine wpAny_bind (wpAny_mroOf_exc hC ?_)
 rw[lookupAlong_cons]
 refine wpAny_bind (wpAny_classOwn_exc hC hN ?_)
 rw[hmN n hn]
 exact qfs hn T hrest hq
end
theorem qgV:typeLookup (.type "ValueError") "__class__" =pure (some (.builtin "object.__class__")):=by rw[typeLookup_type,builtinLookup_eq_fast]; kernel_rfl
section
variable {prog:Program} {w:World} {A:Around} {E:Value->Shared->Prop} {h:Heap} {g:Array GenState} {d:Drawn} {t:Nat} {os:OsState} {a:Addr} {o:Obj}
 {nm q:Str} {C N:Addr} {bs bm:List Value} {hdct:Bool} {sn:List Str} {sub:List Value} {ab:Bool} {col:Option Bool} {dd:Option Addr} {k0 k1 k2 k3 k5:Option Value} {newId:String} {mN:Str->Option Value}
theorem qfF {R:Result->Shared->Prop} (hC:h.get? C=some (excClassObj nm q C N bs bm hdct sn sub ab col dd k0 k1 k2 k3 k5 newId)) (T:qcP h bmV bm)
  (hx:h.get? a=some o) (hc:o.cls= .ref C) (hq:R (.ok (.ret (.ref C))) ⟨h,g,d,t,os⟩):
  codeAny (model prog w) A (.call (.builtin "getset_descriptor.__get__") ⟨[.builtin "object.__class__",.ref a,.ref C],[]⟩) R ⟨h,g,d,t,os⟩:=by
 have hT5:(⟨h,g,d,t,os⟩:Shared).TypeIs (.builtin "object.__class__") "getset_descriptor" :=F.typeOf_object_class
 have hcB:(Value.ref C::bm).contains (.type (".".intercalate ("object.__class__".cutAt '.').dropLast))=true:=by
  rw[F.owner_object_class,List.contains_cons,T.tail.hasType (b:=true) (by decide)]; rfl
 refine codeAny_call_builtin F.slot_gs_get.plain F.entry_gs_get (F.slot_gs_get.check _ _ _ _ _ _ _ _ hT5 (F.args_gs_get _ _ _) ?_)
 repeat (any_goals (first | assumption | (with_reducible refine wpAny_loadPart_at hx ?_; rw[hc]) | (with_reducible refine wpAny_isSubtype_exc hC ?_; rw[hcB]) | wp_step))
 refine ⟨Code.quiet_builtin _ (by decide+kernel),codeAny_builtin F.entry_object_class ?_⟩
 repeat (any_goals (first | assumption | (with_reducible refine wpAny_loadPart_at hx ?_; rw[hc]) | wp_step))
theorem qeu {tk:Tok} {Q:Fin->Shared->Prop} (hC:h.get? C=some (excClassObj nm q C N bs bm hdct sn sub ab col dd k0 k1 k2 k3 k5 newId)) (hN:h.Ns N mN)
  (hmN: ∀n∈qil,mN n=none) (T:qcP h bmV bm) (hx:h.get? a=some o) (hc:o.cls= .ref C) (hq:Q (.done (.ret (.ref C))) ⟨h,g,d,t,os⟩):
  wpAny (model prog w) A (Builtin.«object.__getattribute__» ⟨[.ref a,.str "__class__" tk],[]⟩) Q E ⟨h,g,d,t,os⟩:=by
 have hT5:(⟨h,g,d,t,os⟩:Shared).TypeIs (.builtin "object.__class__") "getset_descriptor" :=F.typeOf_object_class
 have f5:=F.typeOf_object_class
 have f6:=F.slot_gs_get.lookup
 have f7:=F.slot_gs_set.lookup
 have hmA:("__class__" :Str)∈qil:=.tail _ (.tail _ (.tail _ (.head _)))
 repeat (any_goals (first | assumption | (with_reducible refine wpAny_loadPart_at hx ?_; rw[hc]) | with_reducible refine qcB hmA hC hN hmN T qgV ?_ | wp_step))
 refine qfF hC T hx hc ?_
 repeat (any_goals (first | assumption | wp_step))
theorem qgs {M:Model} {nameV:Value} {Q:Unit->Shared->Prop} (hC:h.get? C=some (excClassObj nm q C N bs bm hdct sn sub ab col dd k0 k1 k2 k3 k5 newId)) (T:qcP h bmV bm)
  (hx:h.get? a=some o) (hc:o.cls= .ref C) (hq:Q () ⟨h,g,d,t,os⟩):wpAny M A (checkBuiltinCall "BaseException.__getattribute__" ⟨[.ref a,nameV],[]⟩) Q E ⟨h,g,d,t,os⟩:=by
 have hk:builtinKind "BaseException.__getattribute__" =some .slot:=by decide+kernel
 have hsplit:splitId "BaseException.__getattribute__" =some ("BaseException", "__getattribute__"):=by decide+kernel
 have hcB:(Value.ref C::bm).contains (.type "BaseException")=true:=by rw[List.contains_cons,T.tail.hasType (b:=true) (by decide)]; rfl
 have ha:=F.args_bexc_ga (.ref a) nameV
 simp only[checkBuiltinCall,hk,hsplit]
 refine wpAny_bind ?_
 ·unfold isInstance
  repeat (first | (with_reducible refine wpAny_loadPart_at hx ?_; rw[hc]) | (with_reducible refine wpAny_isSubtype_exc hC ?_; rw[hcB]) | wp_step)
  exact hq
theorem qeJ {tk:Tok} {R:Result->Shared->Prop} (hC:h.get? C=some (excClassObj nm q C N bs bm hdct sn sub ab col dd k0 k1 k2 k3 k5 newId)) (hN:h.Ns N mN)
  (hmN: ∀n∈qil,mN n=none) (T:qcP h bmV bm) (hx:h.get? a=some o) (hc:o.cls= .ref C) (hq:R (.ok (.ret (.ref C))) ⟨h,g,d,t,os⟩):
  codeAny (model prog w) A (.call (.builtin "BaseException.__getattribute__") ⟨[.ref a,.str "__class__" tk],[]⟩) R ⟨h,g,d,t,os⟩:=
 codeAny_call_builtin PySem.F.attrBase_ValueError.ga.plain F.entry_bexc_ga (qgs hC T hx hc (qeu hC hN hmN T hx hc hq))
theorem qgr {tk:Tok} {Q:Value->Shared->Prop} (hC:h.get? C=some (excClassObj nm q C N bs bm hdct sn sub ab col dd k0 k1 k2 k3 k5 newId)) (hN:h.Ns N mN)
  (hmN: ∀n∈qil,mN n=none) (T:qcP h bmV bm) (hx:h.get? a=some o) (hc:o.cls= .ref C) (hq:Q (.ref C) ⟨h,g,d,t,os⟩):
  wpAny (model prog w) A (getAttrBy (.ref a) (.str "__class__" tk) false) Q E ⟨h,g,d,t,os⟩:=by
 have f3:=PySem.F.attrBase_ValueError.ga.bind (.ref a)
 have hx2:(Value.builtin "BaseException.__getattribute__" ==Value.builtin "object.__getattribute__")=false:=by decide+kernel
 have hx1:(onTheHeap (Value.ref C)&&Value.builtin "BaseException.__getattribute__" ==Value.builtin "object.__getattribute__")=false:=by rw[hx2]; rfl
 have hm1:("__getattribute__" :Str)∈qil:=.tail _ (.head _)
 have hm2:("__getattr__" :Str)∈qil:=.tail _ (.tail _ (.head _))
 repeat (any_goals (first | assumption | (with_reducible refine wpAny_loadPart_at hx ?_; rw[hc]) | with_reducible refine qcB hm1 hC hN hmN T PySem.F.attrBase_ValueError.ga.lookup ?_ | with_reducible refine qcB hm2 hC hN hmN T PySem.F.attrBase_ValueError.noGetattr ?_ | wp_step))
 refine qeJ hC hN hmN T hx hc ?_
 repeat (any_goals (first | assumption | wp_step))
theorem qeK {Q:Option Value->Shared->Prop} (hX:qeE h C bm) (hx:h.get? a=some o) (hc:o.cls= .ref C) (hq:Q (some (.ref C)) ⟨h,g,d,t+1,os⟩):
  wpAny (model prog w) A (getAttr? (.ref a) "__class__") Q E ⟨h,g,d,t,os⟩:=by
 obtain ⟨N,nm,q,bs,hdct,sn,sub,ab,col,dd,k0,k1,k2,k3,k5,mN,hC,hN,hmN,T⟩:=hX
 unfold getAttr? getAttrBy?
 repeat (any_goals (first | assumption | with_reducible apply qgr hC hN hmN T hx hc | wp_step))
end
theorem qlm {K:PySem.W.Frag} {a C:Addr} {bm:List Value} (hK:(PySem.W.clsIn K C).isSome=true):PySem.W.KitX K (.ref a) (.ref C) (λh=>qeE h C bm/\∃o,h.get? a=some o/\o.cls= .ref C) where
 ty:=λM h _ p=>by
  obtain ⟨_,o,h1,h2⟩:=p
  exact h2▸(PySem.W.Looks.ld h1).andThen .now
 it:=λM h _ p=>by
  obtain ⟨⟨N,nm,q,bs,hdct,sn,sub,ab,col,dd,k0,k1,k2,k3,k5,mN,hC,_⟩,_⟩:=p
  intro A' Q' E' s' k q
  unfold isType loadHead
  exact wpAny_bind (wpAny_loadPart (k _ _ hC) (wpAny_pure q))
 ne:=λh tp dd its n sl X htp=>by
  refine Bool.eq_false_iff.mpr λq=> ?_
  have e:C=tp:=Value.ref.inj (beq_iff_eq.mp q)
  subst e
  unfold PySem.W.clsIn at hK
  split at hK
  ·rename_i c' d' cd' sl' ho
   have z:=(X _ _ ho).symm.trans htp
   cases z
  ·cases hK
 ca:=λ{_ _ _ _ _ s} X p k=>by
  obtain ⟨h,g,d,t,os⟩:=s
  obtain ⟨hX,o,h1,h2⟩:=p
  exact qeK hX h1 h2 k
section
variable {X:Cx}
theorem qaF:qev X (.builtin "isinstance") (λxs H Q=> ∃a C bm y c b,xs=[.ref a,y]/\H a=some (ExO a C)/\qeE X.base C bm/\(PySem.W.clsIn X.K C).isSome=true/\(∀u,RelV y u->u=c)/\PySem.W.kitOne X.K (.ref C) c=some b/\Q (.bl b) H):=by
 intro pins s σ H xs us Q I r h
 obtain ⟨a,C,bm,y,c,b,rfl,ha,hX,hK,hc,e,q⟩:=h
 obtain ⟨u,w',rfl,ru,rw'⟩:=qmx r
 obtain rfl:=hc _ rw'
 cases (show u=Value.ref a from ru)
 obtain ⟨⟨o,e1,e2⟩,_⟩:=(show qbu X.prog X.w H s.heap a (ExO a C) from I.hok a _ ha)
 exact PySem.W.kia_one (qlm hK) I.kIn ⟨hX.keeps I.bk,o,e1,e2⟩ e (λz=>nomatch z) λtk=>⟨.bl b,H,I.tok tk,rfl,q⟩
end
end L2
end
section
namespace L2
open PySem PySem.Spec PySem.Calls PyProof.Rows
section
variable {X:Cx}
theorem qeZ (k:Bool): ∀bs:List Bool,(bs.map Value.bool).countP (PyProof.Rows.isBoolOf k)=bs.countP (· ==k)
 | []=>rfl
 | b::bs=>by
  rw[List.map_cons,List.countP_cons,List.countP_cons,qeZ k bs]
  rfl
theorem qjv:MtR X "list.count" (λx vs H Q=> ∃(l:Addr) (bs:List Bool) (k:Bool),x= .ref l/\vs=[.bl k]/\H l=some (.lst (bs.map V.bl))/\Q (.int (bs.countP (· ==k):Nat)) H):=by
 intro pins s σ H x vs v us Q I rx rv h
 obtain ⟨l,bs,k,rfl,rfl,hH,q⟩:=h
 cases rx
 obtain ⟨u,rfl,ru⟩:=qdP rv
 cases ru
 obtain ⟨z,its,n,r,hl,e⟩:=I.lstM hH
 have ei:=qdf r
 subst ei
 refine call_meets F.slot_list_count ⟨_,e,rfl⟩ F.entry_list_count (F.args_list_count_2 _ _) (SeqAt.list_countAt l _ n _ _ (.bool k) (PyProof.Rows.isBoolOf k)) ⟨e,λy hy=> ?_,?_⟩
 ·have hy':y∈bs.map Value.bool:=by simpa using hy
  obtain ⟨b,_,rfl⟩:=List.mem_map.mp hy'
  exact SeqAt.EqAt.bool_bool b k
 ·refine ⟨.int _,H,I.tok _,⟨_,rfl⟩,?_⟩
  rw[show (bs.map Value.bool).toArray.toList=bs.map Value.bool from rfl,qeZ]
  exact q
theorem qju:MtR X "list.index" (λx vs H Q=> ∃(l:Addr) (bs:List Bool) (k:Bool) (j:Nat),x= .ref l/\vs=[.bl k]/\H l=some (.lst (bs.map V.bl))/\bs.length<=1000/\bs[j]? =some k/\(∀i,i<j->bs[i]? =some (!k))/\Q (.int (j:Nat)) H):=by
 intro pins s σ H x vs v us Q I rx rv h
 obtain ⟨l,bs,k,j,rfl,rfl,hH,hz,hj,hn,q⟩:=h
 cases rx
 obtain ⟨u,rfl,ru⟩:=qdP rv
 cases ru
 obtain ⟨z,its,n,r,hl,e⟩:=I.lstM hH
 have ei:=qdf r
 subst ei
 have hj':j<bs.length:=(List.getElem?_eq_some_iff.mp hj).1
 have at_: ∀i (hi:i<(bs.map Value.bool).toArray.size),(bs.map Value.bool).toArray[i]=Value.bool (bs.getD i false):=λi hi=>by
  have hi':i<bs.length:=by simpa using hi
  simp[List.getD_eq_getElem?_getD,hi']
 refine call_meets F.slot_list_index ⟨_,e,rfl⟩ F.entry_list_index (F.args_list_index_2 _ _) (SeqAt.list_indexAt l _ n _ _ (.bool k) (PyProof.Rows.isBoolOf k) j (by simpa using hj') (by lia) ?_ ?_) ⟨e,λy hy=> ?_,?_⟩
 ·rw[at_ j (by simpa using hj')]
  simp[PyProof.Rows.isBoolOf,List.getD_eq_getElem?_getD,hj]
 ·intro m hm hlt
  rw[at_ m hm]
  simp[PyProof.Rows.isBoolOf,List.getD_eq_getElem?_getD,hn m hlt]
 ·have hy':y∈bs.map Value.bool:=by simpa using hy
  obtain ⟨b,_,rfl⟩:=List.mem_map.mp hy'
  exact SeqAt.EqAt.bool_bool b k
 ·exact ⟨.int _,H,I.tok _,⟨_,rfl⟩,q⟩
end
section
variable {P:Program} {w:World} {K:PySem.W.Frag} {mg:Str->Option Value} {base:Heap}
theorem okE {x qual:Str} {st:Stmt} {f:Addr} {fd:FuncData} {N ps:List Str} {k:Nat} {sp:Sp} (F:Fun K x qual st f fd) (S:qas N ps (qad st)) (len: ∀vs H Q E,sp vs H Q E->vs.length=ps.length)
  (hbody: ∀(cdv:Value) (A:Around) (outer:List Env) (s:Shared) (H:Hp) (vs:List V) (Q:VK) (E:XK),qcu k (A.deeper (envOfC qual (qad st) s.heap.objs.size f cdv))->sp vs H Q E->
   ∃t,PSs (qcZ (CXE P w) P w K mg base N qual (qad st) f cdv A outer s H E) (qav st) t/\t { nx:=λ_ H'=>Q .non H',rt:=Q } (start N vs) H):qbI P w K mg base (CXE P w) (k+1) f fd ps sp:=by
 obtain ⟨oc,od,kV,doc,pm,an,cdv,ct,osl,rfl,lk,hcd⟩:=F.ex
 exact qiv lk hcd S len λA outer s H vs Q E hr hsp=>hbody cdv A outer s H vs Q E hr hsp
end
end L2
end
section
namespace L2
open PySem PySem.Spec PyProof.Rows
section
variable {κ:Type} [DecidableEq κ]
def qgD (kvs:List (κ×V)) (k:κ):Option V:=(kvs.find? λkv=>decide (kv.1=k)).map (·.2)
def qik (kvs:List (κ×V)) (k:κ) (v:V):List (κ×V):=
 if (kvs.any λkv=>decide (kv.1=k))=true then kvs.map (λkv=>if kv.1=k then (kv.1,v) else kv) else kvs++[(k,v)]
theorem qe4 {p:κ×V} {r:List (κ×V)} {k:κ} (e:p.1=k):qgD (p::r) k=some p.2:=by simp[qgD,List.find?_cons,e]
theorem qe5 {p:κ×V} {r:List (κ×V)} {k:κ} (e: ¬p.1=k):qgD (p::r) k=qgD r k:=by simp[qgD,List.find?_cons,e]
theorem qhn (k:κ): ∀kvs:List (κ×V),(kvs.any λkv=>decide (kv.1=k))=(qgD kvs k).isSome
 | []=>rfl
 | p::r=>by
  rw[List.any_cons]
  by_cases e:p.1=k
  ·simp only[qe4 e,decide_eq_true e,Bool.true_or,Option.isSome_some]
  ·rw[qe5 e,decide_eq_false e,Bool.false_or]; exact qhn k r
theorem qej (kvs:List (κ×V)) (k:κ) (v:V):(qik kvs k v).length<=kvs.length+1:=by
 unfold qik
 split
 ·rw[List.length_map]; omega
 ·rw[List.length_append,List.length_cons,List.length_nil]; omega
theorem qlN.isSome_eq {o:Option V} {u:Option Value} (r:qlN o u):o.isSome=u.isSome:=by
 cases o with
 | none=>cases u with
  | none=>rfl
  | some _=>exact (show False from r).elim
 | some _=>cases u with
  | none=>exact (show False from r).elim
  | some _=>rfl
theorem qlN.getD {o:Option V} {u:Option Value} {d:V} {d':Value} (r:qlN o u) (rd:RelV d d'):RelV (o.getD d) (u.getD d'):=by
 cases o with
 | none=>cases u with
  | none=>exact rd
  | some _=>exact (show False from r).elim
 | some _=>cases u with
  | none=>exact (show False from r).elim
  | some _=>exact r
theorem KV.val {kvs:List (κ×V)} {vs:List (κ×Value)} (r:KV kvs vs) (k:κ):qlN (qgD kvs k) (valueAt vs k):=by
 unfold KV at r
 induction r with
 | nil=>exact True.intro
 | @cons p q ps qs h t ih=>
  obtain ⟨h1,h2⟩:=h
  by_cases e:p.1=k
  ·have e':q.1=k:=h1.symm.trans e
   have b:valueAt (q::qs) k=some q.2:=by simp[valueAt,List.find?_cons,e']
   rw[qe4 e,b]; exact h2
  ·have e': ¬q.1=k:=λz=>e (h1.trans z)
   have b:valueAt (q::qs) k=valueAt qs k:=by simp[valueAt,List.find?_cons,e']
   rw[qe5 e,b]; exact ih
theorem KV.any {kvs:List (κ×V)} {vs:List (κ×Value)} (r:KV kvs vs) (k:κ):(kvs.any λkv=>decide (kv.1=k))=vs.any λkv=>decide (kv.1=k):=by
 unfold KV at r
 induction r with
 | nil=>rfl
 | cons h t ih=>rw[List.any_cons,List.any_cons,ih,h.1]
theorem KV.repl {kvs:List (κ×V)} {vs:List (κ×Value)} (r:KV kvs vs) (k:κ) {y:V} {u:Value} (ry:RelV y u):
  KV (kvs.map λkv=>if kv.1=k then (kv.1,y) else kv) (vs.map λkv=>if kv.1=k then (kv.1,u) else kv):=by
 unfold KV at r⊢
 induction r with
 | nil=>exact .nil
 | @cons p q ps qs h t ih=>
  rw[List.map_cons,List.map_cons]
  refine .cons ?_ ih
  obtain ⟨h1,h2⟩:=h
  by_cases e:p.1=k
  ·rw[if_pos e,if_pos (h1.symm.trans e)]; exact ⟨h1,ry⟩
  ·rw[if_neg e,if_neg (λz=>e (h1.trans z))]; exact ⟨h1,h2⟩
theorem KV.put {kvs:List (κ×V)} {vs:List (κ×Value)} (r:KV kvs vs) (k:κ) {y:V} {u:Value} (ry:RelV y u):KV (qik kvs k y) (stored vs k u):=by
 unfold qik stored
 rw[r.any k]
 by_cases e:(vs.any λkv=>decide (kv.1=k))=true
 ·rw[if_pos e,if_pos e]; exact r.repl k ry
 ·rw[if_neg e,if_neg e]; exact Paired.snoc r ⟨rfl,ry⟩
theorem KV.length {kvs:List (κ×V)} {vs:List (κ×Value)} (r:KV kvs vs):kvs.length=vs.length:=Paired.length r
end
theorem qnf {P:Program} {w:World} {k:Key} {u:Value} (r:RelV (kV k) u):(qaI P w).is k u=true:=by
 cases k with
 | inl i=>obtain ⟨t,e⟩:=(show ∃t,u=Value.int i t from r); subst e; exact qgS P w i t
 | inr x=>obtain ⟨t,e⟩:=(show ∃t,u=Value.str x t from r); subst e; exact qgR P w x t
theorem qf9 {P:Program} {w:World}: ∀{ks:List Key} {us:List Value},Vals (ks.map kV) us->ItemsAre (qaI P w) ks us
 | [],_,r=>by rw[List.map_nil] at r; cases r; exact .nil
 | k::ks,_,r=>by
  rw[List.map_cons] at r
  cases r with
  | cons h t=>exact .cons (qnf h) (qf9 t)
abbrev KT (H:Hp):List (List Key×V)->List (List Key×Addr×Value)->Prop:=Paired λp q=>p.1=q.1/\H q.2.1=some (.tup (p.1.map kV))/\RelV p.2 q.2.2
theorem KT.val {H:Hp} {kvs:List (List Key×V)} {xs:List (List Key×Addr×Value)} (r:KT H kvs xs) (k:List Key):qlN (qgD kvs k) ((atKey xs k).map (·.2)):=by
 induction r with
 | nil=>exact True.intro
 | @cons p q ps qs h t ih=>
  obtain ⟨h1,_,h2⟩:=h
  by_cases e:p.1=k
  ·have e':q.1=k:=h1.symm.trans e
   have b:atKey (q::qs) k=some q.2:=by simp[atKey,List.find?_cons,e']
   rw[qe4 e,b]; exact h2
  ·have e': ¬q.1=k:=λz=>e (h1.trans z)
   have b:atKey (q::qs) k=atKey qs k:=by simp[atKey,List.find?_cons,e']
   rw[qe5 e,b]; exact ih
theorem KT.repl {H:Hp} {kvs:List (List Key×V)} {xs:List (List Key×Addr×Value)} (r:KT H kvs xs) (k:List Key) {y:V} {u:Value} (ry:RelV y u):
  KT H (kvs.map λkv=>if kv.1=k then (kv.1,y) else kv) (xs.map (putAt k u)):=by
 induction r with
 | nil=>exact .nil
 | @cons p q ps qs h t ih=>
  rw[List.map_cons,List.map_cons]
  refine .cons ?_ ih
  obtain ⟨h1,h2,h3⟩:=h
  unfold putAt
  by_cases e:p.1=k
  ·rw[if_pos e,if_pos (h1.symm.trans e)]; exact ⟨h1,h2,ry⟩
  ·rw[if_neg e,if_neg (λz=>e (h1.trans z))]; exact ⟨h1,h2,h3⟩
theorem KT.put {H:Hp} {kvs:List (List Key×V)} {xs:List (List Key×Addr×Value)} (r:KT H kvs xs) (k:List Key) {b:Addr} {y:V} {u:Value} (hb:H b=some (.tup (k.map kV))) (ry:RelV y u):
  KT H (qik kvs k y) (storedH xs k b u):=by
 have e:(kvs.any λkv=>decide (kv.1=k))=(atKey xs k).isSome:=by
  rw[qhn,(r.val k).isSome_eq,Option.isSome_map]
 unfold qik storedH
 rw[e]
 by_cases q:(atKey xs k).isSome=true
 ·rw[if_pos q,if_pos q]; exact r.repl k ry
 ·rw[if_neg q,if_neg q]; exact Paired.snoc r ⟨rfl,hb,ry⟩
theorem KT.keeps {H H':Hp} {kvs:List (List Key×V)} {xs:List (List Key×Addr×Value)} (r:KT H kvs xs) (ht: ∀b ys,H b=some (.tup ys)->H' b=some (.tup ys)):KT H' kvs xs:=
 Paired.mapP r λ_ _ z=>⟨z.1,ht _ _ z.2.1,z.2.2⟩
section
variable {P:Program} {w:World} {H:Hp} {h:Heap} {a:Addr}
theorem qoq {u:HO} (ok:HOk P w H h) (e:Rd H a u):qbu P w H h a u:=e.ok ok
theorem qnu {kvs:List (Key×V)} (ok:HOk P w H h) (e:Rd H a (.dK kvs)):kvs.length<=sizeLine/\(a==sysModules)=false/\∃vs,KV kvs vs/\h.DictOf (qaI P w) a vs:=
 show qbu P w H h a (.dK kvs) from qoq ok e
theorem qlw {kvs:List (Key×V)} (ok:HOk P w H h) (e:H a=some (.dK kvs)):kvs.length<=sizeLine/\(a==sysModules)=false/\∃vs,KV kvs vs/\h.DictOf (qaI P w) a vs:=qnu ok (.inl e)
theorem qjI {ks:List Key} (ok:HOk P w H h) (e:H a=some (.tup (ks.map kV))):(tupleKind (qaI P w)).is h ks a:=by
 obtain ⟨_,its,r,o,h1,h2,n,h3⟩:=(show qbu P w H h a (.tup (ks.map kV)) from ok a _ e)
 exact ⟨o,its.toArray,n,h1,h2,h3,by simpa using qf9 r⟩
theorem qnr {kvs:List (List Key×V)} (ok:HOk P w H h) (e:Rd H a (.dT kvs)):kvs.length<=sizeLine/\(a==sysModules)=false/\
  ∃xs,KT H kvs xs/\h.DictOfH (tupleKind (qaI P w)) a xs:=by
 obtain ⟨z,y,xs,r,o,es,ep,h1,h2,h3,h4,h5⟩:=(show qbu P w H h a (.dT kvs) from qoq ok e)
 refine ⟨z,y,xs,r,o,es,ep,h1,h2,h3,h4,λx hx=> ?_,h5⟩
 have all: ∀{l:List (List Key×V)} {m:List (List Key×Addr×Value)},KT H l m->∀x∈m,(tupleKind (qaI P w)).is h x.1 x.2.1:=by
  intro l m q
  induction q with
  | nil=>intro x hx; exact nomatch hx
  | @cons p q ps qs hq t ih=>
   intro x hx
   rcases List.mem_cons.mp hx with e | hx
   ·subst e
    exact qjI ok (by rw[<-hq.1]; exact hq.2.1)
   ·exact ih x hx
 exact all r x hx
theorem qru {kvs:List (List Key×V)} (ok:HOk P w H h) (e:H a=some (.dT kvs)):kvs.length<=sizeLine/\(a==sysModules)=false/\
  ∃xs,KT H kvs xs/\h.DictOfH (tupleKind (qaI P w)) a xs:=qnr ok (.inl e)
end
def qpE (H:Hp) (a:Addr) (y:V) (r:Option V):Prop:=
 (∃kvs k,Rd H a (.dK kvs)/\y=kV k/\r=qgD kvs k)\/∃kvs k b,Rd H a (.dT kvs)/\y= .ref b/\H b=some (.tup (k.map kV))/\r=qgD kvs k
def qpD (H:Hp) (a:Addr) (y v:V) (H':Hp):Prop:=
 (∃kvs k,H a=some (.dK kvs)/\y=kV k/\kvs.length<sizeLine/\H'=upd H a (.dK (qik kvs k v)))\/
 ∃kvs k b,H a=some (.dT kvs)/\y= .ref b/\H b=some (.tup (k.map kV))/\kvs.length<sizeLine/\H'=upd H a (.dT (qik kvs k v))
theorem qpE.k {H:Hp} {a:Addr} {kvs:List (Key×V)} {k:Key} (e:H a=some (.dK kvs)):qpE H a (kV k) (qgD kvs k):=.inl ⟨kvs,k,.inl e,rfl,rfl⟩
theorem qpD.k {H:Hp} {a:Addr} {kvs:List (Key×V)} {k:Key} {v:V} (e:H a=some (.dK kvs)) (hl:kvs.length<sizeLine):qpD H a (kV k) v (upd H a (.dK (qik kvs k v))):=.inl ⟨kvs,k,e,rfl,hl,rfl⟩
section
variable {X:Cx} {pins:List (Addr×Obj)} {σ:St} {H:Hp} {s:Shared} {a:Addr} {y v:V} {u r:Value} {o:Option V} {A:Around} {E:Value->Shared->Prop}
theorem Inv.big (I:Inv X pins σ H s):sysModules<s.heap.objs.size:=by
 have h:mainGlobals<s.heap.objs.size:=(I.mod.glob.keeps I.bk).lt
 exact Nat.lt_trans (by decide) h
theorem qkj {h':Heap} {t':Nat} {ob:HO} (I:Inv X pins σ H s) (mu:Mut (H a)) (hs:Heap.SameBut a s.heap h') (he: ∃q,h'.get? a=some q) (new:qbu X.prog X.w (upd H a ob) h' a ob):
  Inv X pins σ (upd H a ob) { s with heap:=h',toks:=t' }:=
 I.write (x:=a) (e:=a) mu (.inl rfl) (λb q hb z=>(hs.2 b hb).trans z) he new
theorem qpl {P:Program} {w:World} {H':Hp} {h':Heap} {kvs:List (Key×V)} {vs:List (Key×Value)} (z:kvs.length<=sizeLine) (hd:(a==sysModules)=false) (rel:KV kvs vs) (dd:h'.DictOf (qaI P w) a vs):
  qbu P w H' h' a (.dK kvs):=⟨z,hd,vs,rel,dd⟩
theorem qkk {H':Hp} {Q:Unit->Shared->Prop} (hu:A.units+1<cLine) (I:Inv X pins σ H s) (g:qpD H a y v H') (ry:RelV y u) (rv:RelV v r) (h: ∀s',Inv X pins σ H' s'->Q () s'):
  wpAny (model X.prog X.w) A (setItem (.ref a) u r) Q E s:=by
 rcases g with ⟨kvs,k,e,ey,l,eH⟩ | ⟨kvs,k,b,e,ey,eb,l,eH⟩
 ·subst ey eH
  obtain ⟨z,hd,vs,rel,dd⟩:=qlw I.hok e
  have hz:vs.length<=sizeLine:=by rw[<-rel.length]; exact z
  have hl:(qik kvs k v).length<=sizeLine:=by have:=qej kvs k v; omega
  refine wpAny_setItem_pairs (hsz:=hz) (qnf ry) dd λh' dd' hs=>h _ ?_
  have he: ∃q,h'.get? a=some q:=let ⟨q,_,_,hq,_⟩:=dd'; ⟨q,hq⟩
  exact qkj I (by rw[e]; exact True.intro) hs he (qpl hl hd (rel.put k rv) dd')
 ·subst ey eH
  cases (show u=Value.ref b from ry)
  obtain ⟨z,hd,xs,rel,dd⟩:=qru I.hok e
  have hz:xs.length<=sizeLine:=by rw[<-Paired.length rel]; exact z
  have hl:(qik kvs k v).length<=sizeLine:=by have:=qej kvs k v; omega
  refine wpAny_setItem_heap (hsz:=hz) (tupleKind_room_in1 hu) (qjI I.hok eb) dd λh' dd' hs=>h _ ?_
  obtain ⟨q,es,ep,hq,h2,h3,h4,_,h5⟩:=dd'
  refine qkj I (by rw[e]; exact True.intro) hs ⟨q,hq⟩ ⟨hl,hd,_,(rel.put k eb rv).keeps λc ys ec=> ?_,q,es,ep,hq,h2,h3,h4,h5⟩
  rw[qae (qlg ec e (λz=>nomatch z))]
  exact ec
end
def qqK (td ty tv:TE):TS:=λD σ H=>tv σ H λv H1=>td σ H1 λx H2=>ty σ H2 λy H3=> ∃a H4,x= .ref a/\qpD H3 a y v H4/\D.nx σ H4
section
variable {X:Cx} {o i e value:Expr} {pos pos' tpos:Pos} {td ty tv:TE}
theorem qmP (hu:X.A.units+1<cLine) (ho:PE X o td) (hi:PE X i ty) (hv:PE X value tv) (hs:swapsWith value (some (.Subscript o i pos')) pos.line X.env=pure false):
  PS X (.Assign [.Subscript o i pos'] value pos) (qqK td ty tv):=by
 intro pins s σ H D I h
 refine wpAny_Assign_Subscript (thn (hv pins s σ H _ I h) λr s1 ⟨v,H1,I1,rv,q1⟩=>thn (ho pins s1 σ H1 _ I1 q1) λu s2 ⟨x,H2,I2,rx,q2⟩=>thn (hi pins s2 σ H2 _ I2 q2) λiv s3 ⟨y,H3,I3,ry,a,H4,ex,g,q3⟩=> ?_) hs
 subst ex
 obtain rfl:u=Value.ref a:=rx
 exact qkk hu I3 g ry rv λs4 I4=>⟨σ,H4,I4,q3⟩
end
theorem qlx {P:Program} {w:World} {H:Hp} (h:Heap) (hb:sysModules<h.objs.size):qbu P w H (h.push { cls:=.type "dict",data:=.dict #[] }) h.objs.size (.dK []):=
 ⟨Nat.zero_le _,beq_eq_false_iff_ne.mpr (Ne.symm (Nat.ne_of_lt hb)),[],.nil,Heap.DictOf.new h⟩
def qn9:TE:=λ_ H Q=> ∀p,H p=none->Q (.ref p) (upd H p (.dK []))
section
variable {X:Cx} {pos:Pos}
theorem qk8:PE X (.Dict [] [] pos) qn9:=λpins s σ H Q I h=>
 wpAny_Dict_empty ⟨.ref s.heap.objs.size,_,I.laid (a:=s.heap.objs.size) (o:=.dK []) (t':=s.toks) (λ_ _ q=>Heap.get?_push_of_some _ q) (Nat.le_refl _) (qlx s.heap I.big),rfl,h _ (I.hok.fresh (Nat.le_refl _))⟩
end
structure M1 (X:Cx) (o:Expr) (m:Str) (apos:Pos) (e:Expr) (cpos:Pos):Prop where
 base:attributeBase o m X.env (eval o X.env)=eval o X.env
 few:((backTo cpos (starEach [e] X.env)).all (λx=> !x.1)&&(backToKw cpos (keywordEach [] X.env)).all (λx=>x.1.isSome)
  &&decide (([e]:List Expr).length+([]:List Keyword).length+(if ([]:List Keyword).isEmpty then 0 else 1)<30))=true
 line:(apos.endLine==cpos.line)=true
 trees:backTo cpos (starEach [e] X.env)=[(false,eval e X.env)]
structure M2 (X:Cx) (o:Expr) (m:Str) (apos:Pos) (e f:Expr) (cpos:Pos):Prop where
 base:attributeBase o m X.env (eval o X.env)=eval o X.env
 few:((backTo cpos (starEach [e,f] X.env)).all (λx=> !x.1)&&(backToKw cpos (keywordEach [] X.env)).all (λx=>x.1.isSome)
  &&decide (([e,f]:List Expr).length+([]:List Keyword).length+(if ([]:List Keyword).isEmpty then 0 else 1)<30))=true
 line:(apos.endLine==cpos.line)=true
 trees:backTo cpos (starEach [e,f] X.env)=[(false,eval e X.env),(false,eval f X.env)]
def IsD (H:Hp) (a:Addr):Prop:=(∃kvs,Rd H a (.dK kvs))\/∃kvs,Rd H a (.dT kvs)
theorem qpb {X:Cx} {pins:List (Addr×Obj)} {σ:St} {H:Hp} {s:Shared} {a:Addr} (I:Inv X pins σ H s) (d:IsD H a):
  s.TypeIs (.ref a) "dict" /\(∀b,Value.ref a= .ref b->∃ob,s.heap.get? b=some ob/\ob.dict=none)/\(a==sysModules)=false:=by
 rcases d with ⟨kvs,e⟩ | ⟨kvs,e⟩
 ·obtain ⟨_,hd,vs,_,dd⟩:=qnu I.hok e
  refine ⟨dd.typeIs,λb q=> ?_,hd⟩
  cases q
  obtain ⟨ob,_,_,h1,h2,_⟩:=dd
  exact ⟨ob,h1,h2.2.1⟩
 ·obtain ⟨_,hd,xs,_,dd⟩:=qnr I.hok e
  refine ⟨dd.typeIs,λb q=> ?_,hd⟩
  cases q
  obtain ⟨ob,_,_,h1,h2,_⟩:=dd
  exact ⟨ob,h1,h2.2.1⟩
section
variable {X:Cx} {pins:List (Addr×Obj)} {σ:St} {H:Hp} {s:Shared} {a:Addr} {y d:V} {u r:Value} {o:Option V} {A:Around} {E:Value->Shared->Prop}
theorem qpw {Q:Value->Shared->Prop} (hu:A.units+1<cLine) (I:Inv X pins σ H s) (g:qpE H a y o) (ry:RelV y u) (h: ∀w' s',Inv X pins σ H s'->RelV (o.getD .non) w'->Q w' s'):
  wpAny (model X.prog X.w) A (call (.builtin "dict.get") [.ref a,u]) Q E s:=by
 rcases g with ⟨kvs,k,e,ey,l⟩ | ⟨kvs,k,b,e,ey,eb,l⟩
 ·subst ey
  obtain ⟨z,hd,vs,rel,dd⟩:=qnu I.hok e
  refine call_meetsIn PySem.F.slot_dict_get dd.typeIs PySem.F.entry_dict_get (PySem.F.args_dict_get_2 _ _) (meets_dict_get (qaI X.prog X.w) a (qnf ry) hd) ⟨_,dd.mapOf,h _ _ (I.tok _) ?_⟩
  rw[l]
  exact (rel.val k).getD rfl
 ·subst ey
  cases (show u=Value.ref b from ry)
  obtain ⟨z,hd,xs,rel,dd⟩:=qnr I.hok e
  refine call_meetsIn PySem.F.slot_dict_get dd.typeIs PySem.F.entry_dict_get (PySem.F.args_dict_get_2 _ _) (meetsH_dict_get (tupleKind (qaI X.prog X.w)) a b hd) ⟨tupleKind_room_in1 hu,k,xs,qjI I.hok eb,dd,h _ _ (I.tok _) ?_⟩
  rw[l]
  exact (rel.val k).getD rfl
end
def qoa (td ty:TE):TE:=λσ H Q=>td σ H λx H1=> ∃a,x= .ref a/\IsD H1 a/\ty σ H1 λy H2=> ∃o,qpE H2 a y o/\Q (o.getD .non) H2
section
variable {X:Cx} {o e f:Expr} {apos cpos:Pos} {td ty tx:TE}
theorem qk9 (hu:X.A.units+1<cLine) (ho:PE X o td) (he:PE X e ty) (m:M1 X o "get" apos e cpos):PE X (.Call (.Attribute o "get" apos) [e] [] cpos) (qoa td ty):=by
 intro pins s σ H Q I h
 refine wpAny_Call_method m.base m.few m.line PySem.F.plainAttrs_dict PySem.F.slot_dict_get PySem.F.type_dict_get (thn (ho pins s σ H _ I h) λu s1 ⟨x,H1,I1,rx,a,ex,d,q1⟩=> ?_)
 subst ex
 obtain rfl:u=Value.ref a:=rx
 obtain ⟨t1,t2,_⟩:=qpb I1 d
 refine ⟨t1,t2,?_⟩
 rw[m.trees]
 refine Calls.callWith_builtin rfl (Calls.evalArgs_plain (Calls.spliced_cons (thn (he pins s1 σ H1 _ I1 q1) λiv s2 ⟨y,H2,I2,ry,ov,g,q2⟩=>Calls.spliced_nil ?_)))
 exact qpw hu I2 g ry λw' s3 I3 rw'=>⟨_,H2,I3,rw',q2⟩
end
end L2
namespace L2
open PySem PySem.Spec PyProof.Rows
end L2
end
section
namespace RH
open PySem L2
theorem qo8 {b:Bool} {A B:Prop} (h:b=true) (hA:A):if b=true then A else B:=by rw[if_pos h]; exact hA
theorem qpa {b:Bool} {A B:Prop} (h:b=false) (hB:B):if b=true then A else B:=by rw[if_neg (by rw[h]; decide)]; exact hB
theorem qkV {H:Hp} {D:Addr} {o:HO} (h:H D=none):qlL H (upd H D o):=λb u e=>by
 rw[qae (qao e h)]
 exact e
theorem qhO {X:Cx} (K:PySem.W.Frag) (h:X.K=K):IxR X (qqN K):=by rw[<-h]; exact qgX
theorem fr_ok {X:Cx} {sc sd:Scope} (hX:X.env.scope=sd) (h:(sc.names.all λy=>y.2 != .free||(sd.names.lookup y.1==some .cell))=true): ∀y∈sc.names,y.2= .free->X.env.kindOf y.1=some .cell\/X.env.kindOf y.1=some .free:=by
 intro y hy e
 have h1:=List.all_eq_true.mp h y hy
 rw[e] at h1
 have h2:sd.names.lookup y.1=some .cell:=by simpa using h1
 refine .inl ?_
 show X.env.scope.names.lookup y.1=some .cell
 rw[hX]
 exact h2
abbrev Rw:=Int×Str×Int
end RH
end
section
namespace RH
open PySem L2
def qs6 (rs:List Rw) (k:Str):List Int:=(rs.filter λr=>decide (r.2.1=k)).map (·.2.2)
def outT (g:List Int->Rw->Option Rw) (rs:List Rw) (i:Nat):List Rw:=(List.range i).filterMap λj=>(rs[j]?).bind λr=>g (qs6 (rs.take j) r.2.1) r
end RH
end
section
namespace RH
open PySem PySem.Spec PyProof.Rows L2
end RH
end
section
namespace L2
open PySem PySem.Spec PyProof.Rows
end L2
namespace RH
open PySem L2
end RH
end
section
namespace RH
open PySem PySem.Spec PyProof.Rows L2
end RH
end
section
namespace St
open PySem PySem.W PySem.Calls PyProof.Rows
section
variable {prog:Program} {w:World} {A:Around} {E:Value->Shared->Prop} {s:Shared} {D:Addr} {vs:List Value} {kz:List Int} {P:PySem.Fin->Shared->Prop} {h0:Heap}
theorem qgJ {n:Nat} (h:n<2):qcz kz n (List.toArray (List.range n)):=by
 refine ⟨⟨by simp,λi hi=> ?_,λi q1 q2=>by lia⟩,λi j hij hj=>by lia⟩
 unfold g
 rw[Array.getD_eq_getD_getElem?]
 simp[hi]
theorem lsort_p {n:Nat} {κ:SortKind} (ho:s.heap.get? D=some (seqObj "list" vs.toArray n)) (hlen:kz.length=vs.length) (h64:vs.length<64) (kp:Kp h0 s.heap) (hD0:h0.get? D=none)
  (kind: ∀s':Shared,Kp h0 s'.heap->2<=vs.length->∀Q:SortKind->Shared->Prop,Q κ s'->wpAny (model prog w) A (keyKind' vs.toArray) Q E s')
  (cmp: ∀s':Shared,Kp h0 s'.heap->∀i j,i<vs.length->j<vs.length->∀C:Bool->Shared->Prop,C (decide (kz.getD i 0<kz.getD j 0)) s'->wpAny (model prog w) A (keyLt' κ (vs.getD i Value.none) (vs.getD j Value.none)) C (λ_ _=>False) s')
  (h: ∀h' tk c (p:Array Nat),Kp h0 h'->qcz kz vs.length p->h'.get? D=some (seqObj "list" (List.toArray (p.toList.map λi=>vs.getD i Value.none)) c)->P (.done (.ret .none)) { s with heap:=h',toks:=tk }):
  wpAny (model prog w) A (Builtin.«list.sort» ⟨[.ref D],[]⟩) P E s:=by
 rw[list_sort_plain]
 have s1:=Heap.SameBut.update s.heap D (Obj.mapSeq λ_=>(#[]:Array Value))
 obtain ⟨e1,ho1⟩: ∃e1,(s.heap.update D (Obj.mapSeq λ_=>(#[]:Array Value))).get? D=some (seqObj "list" #[] e1):=⟨_,get?_update_seq ho λ_=> #[]⟩
 refine wpAny_bind (listItems_at ho rfl ?_)
 refine wpAny_bind (listUpdate_at ho rfl ?_ (by rw[List.size_toArray,sizeLine_eq]; lia) (Nat.zero_le _))
 refine wpAny_bind (seqEpoch_at ho1 rfl ?_)
 generalize hH2:s.heap.update D (Obj.mapSeq λ_=>(#[]:Array Value))=H2 at ho1 s1⊢
 have kp3:Kp h0 H2:=λb o z=>(s1.2 b (λq=>by rw[q,hD0] at z; cases z)).trans (kp b o z)
 refine wpAny_bind (wpAny_newTuple ?_ (by show vs.length<=_; rw[sizeLine_eq]; lia))
 refine wpAny_bind (wpAny_newList ?_ (Nat.zero_le _))
 refine wpAny_holding ?_
 generalize hH3:(H2.push (seqObj "tuple" vs.toArray 0)).push (seqObj "list" #[] 0)=H3
 have hD3:H3.get? D=some (seqObj "list" #[] e1):=by rw[<-hH3]; exact Heap.get?_push_of_some _ (Heap.get?_push_of_some _ ho1)
 have kp4:Kp h0 H3:=λb o z=>by rw[<-hH3]; exact Heap.get?_push_of_some _ (Heap.get?_push_of_some _ (kp3 b o z))
 have fin: ∀(st:SortSt) (p:Array Nat),qcz kz vs.length p->(arrOf st).map (·.2)=List.toArray (p.toList.map λi=>vs.getD i Value.none)->failedOf st=none->
   wpAny (model prog w) A (do
    let touched:=(<-seqEpoch D) != e1
    Builtin.List.listUpdate (.ref D) λ_=>(arrOf st).map (·.2)
    if let some e:=failedOf st then rule "list.sort.comparison-raised"; throw e
    if touched then rule "list.sort.modified"; raiseError "ValueError" "list modified during sort"
    ret .none) P E { s with heap:=H3 }:=λst p ho' har hfl=>by
  have hsz:(p.toList.map λi=>vs.getD i Value.none).length=vs.length:=by rw[List.length_map,Array.length_toList,ho'.1.sz]
  refine wpAny_bind (seqEpoch_at hD3 rfl ?_)
  rw[har]
  refine wpAny_bind (listUpdate_at hD3 rfl ?_ (Nat.zero_le _) (by show (List.toArray _).size<=_; rw[List.size_toArray,hsz,sizeLine_eq]; lia))
  rw[hfl]
  simp only[bne_self_eq_false,Bool.false_eq_true,if_false]
  have hfin: ∃c,(H3.update D (Obj.mapSeq λ_=>List.toArray (p.toList.map λi=>vs.getD i Value.none))).get? D=some (seqObj "list" (List.toArray (p.toList.map λi=>vs.getD i Value.none)) c):=⟨_,get?_update_seq hD3 λ_=>List.toArray (p.toList.map λi=>vs.getD i Value.none)⟩
  obtain ⟨c,hc⟩:=hfin
  refine wpAny_pure (h _ _ c p (λb o q=> ?_) ho' hc)
  have nD:b≠D:=λz=>by rw[z,hD0] at q; cases q
  exact ((Heap.SameBut.update H3 D _).2 b nD).trans (kp4 b o q)
 by_cases h2:vs.toArray.size<2
 ·rw[if_pos h2,if_pos h2]
  refine wpAny_bind (wpAny_pure ?_)
  dsimp only
  rw[StateT.run_pure]
  refine wpAny_bind (wpAny_pure ?_)
  rw[List.size_toArray] at h2
  refine fin _ _ (qgJ h2) ?_ rfl
  show (vs.toArray.zip vs.toArray).map (·.2)=_
  apply Array.toList_inj.mp
  rw[Array.toList_map,ksk_zip,List.toList_toArray,List.toList_toArray]
  rw[show (vs.zip vs).map (λx:Value×Value=>x.2)=vs from List.map_snd_zip (by lia)]
  apply List.ext_getElem
  ·simp
  ·intro i h3 h4
   simp[List.getElem?_eq_getElem h3]
 ·rw[if_neg h2,if_neg h2]
  rw[List.size_toArray] at h2
  refine wpAny_bind (kind { s with heap:=H3 } kp4 (by lia) _ ?_)
  have run:=kat_run (prog:=prog) (w:=w) (A:=A) (E:=E) (s:={ s with heap:=H3 }) (κ:=κ) (ks:=vs) (vs:=vs) (Q:=λst s'=>s'={ s with heap:=H3 }/\∃p,qcz kz vs.length p/\(arrOf st).map (·.2)=List.toArray (p.toList.map λi=>vs.getD i Value.none)/\failedOf st=none)
   (G:=λp s'=>s'={ s with heap:=H3 }/\qcz kz vs.length p) rfl (by lia) h64 (λp st' s' a1 a2 a3 a4=>⟨a4.1,p,a4.2,kat_snds rfl a2,a3⟩)
   (qg1 (ask:=qdc λi=>kz.getD i 0) (N:=vs.length) (λi j C hi hj hc=>cmp { s with heap:=H3 } kp4 i j hi hj C hc) (λp hp=>⟨rfl,hp⟩) (qiR (by lia)))
  refine wpAny_bind (wpAny_mono run (λr s' hr=> ?_) λ_ _ x=>x)
  obtain ⟨rfl,p,ho',har,hf⟩:=hr
  exact fin _ p ho' har hf
end
end St
namespace St
open PySem PySem.W PySem.Calls PyProof.Rows
section
variable {prog:Program} {w:World} {A:Around} {E:Value->Shared->Prop} {s:Shared} {l:Addr} {vs:List Value} {kz:List Int} {Q:Value->Shared->Prop}
theorem sorted_p {κ:SortKind} (hl:s.heap.IsList l vs.toArray) (hlen:kz.length=vs.length) (h64:vs.length<64)
  (kind: ∀s':Shared,Kp s.heap s'.heap->2<=vs.length->∀(Q:SortKind->Shared->Prop) (E:Value->Shared->Prop),Q κ s'->wpAny (model prog w) A.in1.in1 (keyKind' vs.toArray) Q E s')
  (cmp: ∀s':Shared,Kp s.heap s'.heap->∀i j,i<vs.length->j<vs.length->∀C:Bool->Shared->Prop,C (decide (kz.getD i 0<kz.getD j 0)) s'->wpAny (model prog w) A.in1.in1 (keyLt' κ (vs.getD i Value.none) (vs.getD j Value.none)) C (λ_ _=>False) s')
  (h: ∀D h' tk c (p:Array Nat),s.heap.objs.size<=D->Kp s.heap h'->qcz kz vs.length p->h'.get? D=some (seqObj "list" (List.toArray (p.toList.map λi=>vs.getD i Value.none)) c)->Q (.ref D) { s with heap:=h',toks:=tk }):
  wpAny (model prog w) A (call (.builtin "sorted") [.ref l]) Q E s:=by
 refine Calls.call_function_entry kind_sorted plain_sorted entry_sorted (args_sorted1 _) ?_
 unfold Builtin.«sorted»
 refine wpAny_bind (m:=checkCount "sorted" 1 1 _) (wpAny_pure ?_)
 refine wpAny_bind (collect_list hl ?_ (by rw[sizeLine_eq]; lia))
 refine wpAny_bind (wpAny_newList ?_ (by rw[sizeLine_eq]; lia))
 have hsz:((s.heap.push (seqObj "list" #[] 0)).update s.heap.objs.size (Obj.mapSeq (· ++vs.toArray))).objs.size=s.heap.objs.size+1:=by
  rw[Heap.size_update,size_push']
 generalize hH1:(s.heap.push (seqObj "list" #[] 0)).update s.heap.objs.size (Obj.mapSeq (· ++vs.toArray))=H1 at hsz⊢
 have kp1:Kp s.heap H1:=λb o q=>by
  have hlt:b<s.heap.objs.size:=Heap.lt_size q
  rw[<-hH1,Heap.get?_update_ne _ _ _ _ (Nat.ne_of_lt hlt),Heap.get?_push_ne _ _ _ (Nat.ne_of_lt hlt)]
  exact q
 have kp2:Kp s.heap (H1.push (seqObj "list" vs.toArray 0)):=λb o q=>Heap.get?_push_of_some _ (kp1 b o q)
 have hoD:(H1.push (seqObj "list" vs.toArray 0)).get? H1.objs.size=some (seqObj "list" vs.toArray 0):=Heap.get?_push_size _ rfl
 refine wpAny_bind (wpAny_holding (wpAny_call_entry slot_list_sort ⟨_,hoD,rfl⟩ entry_list_sort ?body (args_list_sort _)))
 case body=>
  refine lsort_p (h0:=s.heap) (kz:=kz) (κ:=κ) (s:={ s with heap:=H1.push (seqObj "list" vs.toArray 0) }) hoD hlen h64 kp2 (get_none (by rw[hsz]; exact Nat.le_succ _)) (λs' k h2 Q hq=>kind s' k h2 Q _ hq) cmp λh' tk c p a1 a2 a3=>⟨_,rfl,?_⟩
  exact wpAny_pure ⟨_,rfl,h _ h' tk c p (by rw[hsz]; exact Nat.le_succ _) a1 a2 a3⟩
end
end St
end
section
namespace SR
section
variable {α β:Type}
def ins (k:α->Int) (r:α):List α->List α
 | []=>[r]
 | x::l=>if k x<=k r then x::ins k r l else r::x::l
def srt (k:α->Int) (l:List α):List α:=l.foldl (λa r=>ins k r a) []
theorem qfa {k:α->Int} {l:List α} {r:α}:srt k (l++[r])=ins k r (srt k l):=by
 unfold srt
 rw[List.foldl_append]
 rfl
theorem qjR {k:α->Int} {k':β->Int} {f:β->α} (h: ∀b,k' b=k (f b)) (r:β): ∀l:List β,(ins k' r l).map f=ins k (f r) (l.map f)
 | []=>rfl
 | x::l=>by
  show List.map f (if k' x<=k' r then x::ins k' r l else r::x::l)=(if k (f x)<=k (f r) then f x::ins k (f r) (l.map f) else f r::f x::l.map f)
  rw[h x,h r]
  by_cases c:k (f x)<=k (f r)
  ·rw[if_pos c,if_pos c,List.map_cons,qjR h r l]
  ·rw[if_neg c,if_neg c,List.map_cons,List.map_cons]
theorem qfb {k:α->Int} {k':β->Int} {f:β->α} (h: ∀b,k' b=k (f b)) (l:List β):(srt k' l).map f=srt k (l.map f):=by
 have go: ∀(l a:List β),(l.foldl (λa r=>ins k' r a) a).map f=(l.map f).foldl (λa r=>ins k r a) (a.map f):=by
  intro l
  induction l with
  | nil=>intro a; rfl
  | cons x l ih=>
   intro a
   rw[List.foldl_cons,ih,List.map_cons,List.foldl_cons,qjR h]
 exact go l []
theorem qfr {k:α->Int} {r x:α}: ∀{l:List α},x∈ins k r l↔x=r\/x∈l
 | []=>by simp[ins]
 | y::l=>by
  unfold ins
  by_cases c:k y<=k r
  ·rw[if_pos c,List.mem_cons,qfr,List.mem_cons]
   constructor
   ·rintro (h | h | h)
    ·exact .inr (.inl h)
    ·exact .inl h
    ·exact .inr (.inr h)
   ·rintro (h | h | h)
    ·exact .inr (.inl h)
    ·exact .inl h
    ·exact .inr (.inr h)
  ·rw[if_neg c,List.mem_cons]
theorem qei {k:α->Int} {x:α} (l:List α):x∈srt k l↔x∈l:=by
 have go: ∀(l a:List α),x∈l.foldl (λa r=>ins k r a) a↔x∈a\/x∈l:=by
  intro l
  induction l with
  | nil=>intro a; simp
  | cons y l ih=>
   intro a
   rw[List.foldl_cons,ih,qfr,List.mem_cons]
   constructor
   ·rintro ((h | h) | h)
    ·exact .inr (.inl h)
    ·exact .inl h
    ·exact .inr (.inr h)
   ·rintro (h | h | h)
    ·exact .inl (.inr h)
    ·exact .inl (.inl h)
    ·exact .inr h
 rw[show srt k l=l.foldl (λa r=>ins k r a) [] from rfl,go]
 simp
def Ris (k:α->Int) (l:List α):Prop:=l.Pairwise λa b=>k a<=k b
theorem qi4 {k:α->Int} {r:α}: ∀{l:List α},Ris k l->Ris k (ins k r l)
 | [],_=>by simp[ins,Ris]
 | y::l,h=>by
  have h':=List.pairwise_cons.mp h
  unfold ins
  by_cases c:k y<=k r
  ·rw[if_pos c]
   refine List.pairwise_cons.mpr ⟨λz hz=> ?_,qi4 h'.2⟩
   rcases qfr.mp hz with q | q
   ·rw[q]; exact c
   ·exact h'.1 z q
  ·rw[if_neg c]
   refine List.pairwise_cons.mpr ⟨λz hz=> ?_,h⟩
   rcases List.mem_cons.mp hz with q | q
   ·rw[q]; lia
   ·have:=h'.1 z q; lia
theorem qi3 {k:α->Int} (l:List α):Ris k (srt k l):=by
 have go: ∀(l a:List α),Ris k a->Ris k (l.foldl (λa r=>ins k r a) a):=by
  intro l
  induction l with
  | nil=>intro a h; exact h
  | cons y l ih=>intro a h; exact ih _ (qi4 h)
 exact go l [] List.Pairwise.nil
end
end SR
end
section
namespace SR
section
variable {α:Type}
structure Ord (lt:α->α->Bool):Prop where
 irr: ∀a,lt a a=false
 tr: ∀a b c,lt a b=true->lt b c=true->lt a c=true
 tot: ∀a b,lt a b=false->lt b a=false->a=b
def qcU (lt:α->α->Bool) (as:List α) (a:α):Int:=(as.countP λx=>lt x a:Nat)
theorem qgo {p q:α->Bool} (h: ∀x,p x=true->q x=true): ∀l:List α,l.countP p<=l.countP q
 | []=>Nat.le_refl _
 | x::l=>by
  have ih:=qgo h l
  rw[List.countP_cons,List.countP_cons]
  cases e:p x with
  | true=>rw[h x e]; simp; exact ih
  | false=>
   simp
   lia
theorem qgn {p q:α->Bool} (h: ∀x,p x=true->q x=true) {a:α} (ha:p a=false) (hb:q a=true): ∀{l:List α},a∈l->l.countP p<l.countP q
 | x::l,hm=>by
  rw[List.countP_cons,List.countP_cons]
  have le:=qgo h l
  rcases List.mem_cons.mp hm with rfl | hm
  ·rw[ha,hb]; simp; lia
  ·have ih:=qgn h ha hb hm
   cases e:p x with
   | true=>rw[h x e]; simp; exact ih
   | false=>simp; lia
theorem qdw {lt:α->α->Bool} (o:Ord lt) {as:List α} {a b:α} (ha:a∈as) (hb:b∈as):decide (qcU lt as a<qcU lt as b)=lt a b:=by
 have up: ∀{a b:α},a∈as->lt a b=true->qcU lt as a<qcU lt as b:=λ{a b} ha h=>by
  unfold qcU
  have:=qgn (p:=λx=>lt x a) (q:=λx=>lt x b) (λx hx=>o.tr x a b hx h) (o.irr a) h ha
  lia
 cases h:lt a b with
 | true=>exact decide_eq_true (up ha h)
 | false=>
  refine decide_eq_false ?_
  cases h2:lt b a with
  | true=>have:=up hb h2; lia
  | false=>
   have:=o.tot a b h h2
   subst this
   lia
theorem qkY {lt:α->α->Bool} (o:Ord lt) {as:List α} {a b:α} (ha:a∈as) (hb:b∈as) (h:qcU lt as a=qcU lt as b):a=b:=by
 refine o.tot a b ?_ ?_
 ·rw[<-qdw o ha hb]; exact decide_eq_false (by lia)
 ·rw[<-qdw o hb ha]; exact decide_eq_false (by lia)
def qeG (lt:α->α->Bool) (as:List α):List α:=srt (qcU lt as) as
theorem qhz {k:α->Int} {r:α}: ∀l:List α,List.Perm (ins k r l) (r::l)
 | []=>List.Perm.refl _
 | x::l=>by
  show List.Perm (if k x<=k r then x::ins k r l else r::x::l) _
  by_cases c:k x<=k r
  ·rw[if_pos c]
   exact ((qhz l).cons x).trans (List.Perm.swap r x l)
  ·rw[if_neg c]
theorem qdW {k:α->Int} (l:List α):List.Perm (srt k l) l:=by
 have go: ∀(l a:List α),List.Perm (l.foldl (λa r=>ins k r a) a) (a++l):=by
  intro l
  induction l with
  | nil=>intro a; simp
  | cons x l ih=>
   intro a
   rw[List.foldl_cons]
   refine (ih _).trans ?_
   refine ((qhz a).append_right l).trans ?_
   exact List.perm_middle.symm
 exact go l []
theorem qgf {k:α->Int}: ∀{l l':List α},(∀a∈l,∀b∈l,k a=k b->a=b)->Ris k l->Ris k l'->List.Perm l l'->l=l'
 | [],l',_,_,_,p=>(List.Perm.eq_nil p.symm).symm
 | x::l,[],_,_,_,p=>absurd (List.Perm.eq_nil p) (by simp)
 | x::l,y::l',hi,h1,h2,p=>by
  have a1:=List.pairwise_cons.mp h1
  have a2:=List.pairwise_cons.mp h2
  have hy:y∈x::l:=p.symm.subset List.mem_cons_self
  have hx:x∈y::l':=p.subset List.mem_cons_self
  have e:x=y:=by
   rcases List.mem_cons.mp hy with q | q
   ·exact q.symm
   ·rcases List.mem_cons.mp hx with r | r
    ·exact r
    ·have b1:=a1.1 y q
     have b2:=a2.1 x r
     exact hi x List.mem_cons_self y hy (by lia)
  subst e
  rw[qgf (λa ha b hb=>hi a (List.mem_cons_of_mem _ ha) b (List.mem_cons_of_mem _ hb)) a1.2 a2.2 (p.cons_inv)]
theorem qif {lt:α->α->Bool} (o:Ord lt) {as bs:List α} (p:List.Perm as bs):qeG lt as=qeG lt bs:=by
 have e:qcU lt as=qcU lt bs:=funext λa=>by
  unfold qcU
  rw[p.countP_eq]
 unfold qeG
 rw[<-e]
 refine qgf (k:=qcU lt as) (λa ha b hb h=>qkY o ((qei _).mp ha) ((qei _).mp hb) h) (qi3 _) (qi3 _) ?_
 exact (qdW as).trans (p.trans (qdW bs).symm)
end
end SR
end
section
namespace L2
open PySem PySem.Spec PySem.Calls PyProof.Rows PySem.W
def qfj (K:Frag) (N:Addr):Bool:=nsOkIn K N&&qil.all λn=>nsIn K N n==some none
theorem qcs {K:Frag} {h:Heap} {N:Addr} (X:K.In h) (e:qfj K N=true):h.Ns N (h.nsMap N)/\∀n∈qil,h.nsMap N n=none:=by
 unfold qfj at e
 rw[Bool.and_eq_true] at e
 exact ⟨.of_isNs (isNs_of_in X e.1),λn hn=>nsMap_none_of_in X e.1 (beq_iff_eq.mp (List.all_eq_true.mp e.2 n hn))⟩
def qe7 (K:Frag) (bmB:List Value):List Value->Bool
 | []=>bmB==[]
 | v::r=>(v::r)==bmB||match v with
  | .ref A=>(match K.lookup A with
   | some ⟨_,_,.cls cd,_⟩=>qfj K cd.ns&&qe7 K bmB r
   | _=>false)
  | _=>false
theorem qd3 {K:Frag} {h:Heap} {bmB:List Value} (X:K.In h): ∀{l:List Value},qe7 K bmB l=true->qcP h bmB l
 | [],e=>by rw[<-beq_iff_eq.mp e]; exact .base
 | v::r,e=>by
  unfold qe7 at e
  rcases Bool.or_eq_true_iff.mp e with q | q
  ·rw[beq_iff_eq.mp q]; exact .base
  ·split at q
   ·split at q
    ·rename_i ho
     rw[Bool.and_eq_true] at q
     exact .own (X _ _ ho) (qcs X q.1).1 (qcs X q.1).2 (qd3 X q.2)
    ·cases q
   ·cases q
def qeX (K:Frag) (C:Addr) (bm:List Value):Bool:=match K.lookup C with
 | some ⟨.type "type",_,.cls cd,sl⟩=>(match cd.mro,sl.toList with
  | .ref C'::bm',[_,_,_,_,some (.builtin n),_]=>C'==C&&bm'==bm&&n== "ValueError.__new__" && !cd.hasDel&&qe7 K bmV bm&&qfj K cd.ns
  | _,_=>false)
 | _=>false
theorem qdD {K:Frag} {h:Heap} {C:Addr} {bm:List Value} (X:K.In h) (q:qeX K C bm=true):qeE h C bm:=by
 unfold qeX at q
 split at q
 ·rename_i dd cd sl ho
  split at q
  ·rename_i C' bm' k0 k1 k2 k3 n k5 hm hs
   simp only[Bool.and_eq_true,beq_iff_eq,Bool.not_eq_true'] at q
   obtain ⟨⟨⟨⟨⟨rfl,rfl⟩,rfl⟩,hdel⟩,ht⟩,hok⟩:=q
   obtain ⟨nm,bs,mro,ns,qn,hd,sn,sub,ab,col,del⟩:=cd
   dsimp only at hm hdel hok
   subst hm hdel
   have hsl:sl= #[k0,k1,k2,k3,some (.builtin "ValueError.__new__"),k5]:=by
    obtain ⟨l⟩:=sl
    simp only at hs
    rw[hs]
   subst hsl
   exact ⟨ns,nm,qn,bs,hd,sn,sub,ab,col,dd,k0,k1,k2,k3,k5,_,X _ _ ho,(qcs X hok).1,(qcs X hok).2,qd3 X ht⟩
  ·cases q
 ·cases q
end L2
end
section
namespace PL
open PySem L2
inductive T where
 | non | bl (b:Bool) | int (i:Int) | str (s:Str) | tup (ts:List T) | lst (ts:List T) | dct (kvs:List (Key×T)) | dcf (kvs:List (Key×T)) | dtu (kvs:List (List Key×T)) | fn (x:Str) | scr (ns:List Int)
inductive Rs (α:Type) where
 | no | ok (a:α) | ex (c:Str)
@[inline] def Rs.bind {α β:Type}:Rs α->(α->Rs β)->Rs β
 | .no,_=>.no
 | .ok a,f=>f a
 | .ex c,_=>.ex c
instance:Monad Rs where
 pure:=Rs.ok
 bind:=Rs.bind
@[simp] theorem qaH {α β:Type} (a:α) (f:α->Rs β):(Rs.ok a>>=f)=f a:=rfl
@[simp] theorem qaR {α β:Type} (f:α->Rs β):((Rs.no:Rs α)>>=f)= .no:=rfl
@[simp] theorem qa0 {α β:Type} (c:Str) (f:α->Rs β):((Rs.ex c:Rs α)>>=f)= .ex c:=rfl
@[simp] theorem qaQ {α:Type} (a:α):(pure a:Rs α)= .ok a:=rfl
mutual
def Rep (K:PySem.W.Frag) (B:Hp):T->V->Prop
 | .non,v=>v= .non
 | .bl b,v=>v= .bl b
 | .int i,v=>v= .int i
 | .str s,v=>v= .str s
 | .tup ts,v=> ∃p vs,v= .ref p/\B p=some (.tup vs)/\qaC K B ts vs
 | .lst ts,v=> ∃p vs,v= .ref p/\B p=some (.lst vs)/\qaC K B ts vs
 | .dct kvs,v=> ∃p us,v= .ref p/\B p=some (.dK us)/\qbx K B kvs us
 | .dcf kvs,v=> ∃p o us,v= .ref p/\B p=some (.frz o (.dK us))/\qbx K B kvs us
 | .dtu kvs,v=> ∃p us,v= .ref p/\B p=some (.dT us)/\qkI K B kvs us
 | .fn x,v=> ∃f,v= .ref f/\PySem.W.nsIn K mainGlobals x=some (some (.ref f))
 | .scr ns,v=> ∃p,v= .ref p/\SqL K B p (ns.map V.int)
def qaC (K:PySem.W.Frag) (B:Hp):List T->List V->Prop
 | [],vs=>vs=[]
 | t::ts,vs=> ∃v r,vs=v::r/\Rep K B t v/\qaC K B ts r
def qbx (K:PySem.W.Frag) (B:Hp):List (Key×T)->List (Key×V)->Prop
 | [],vs=>vs=[]
 | (k,t)::ts,vs=> ∃v r,vs=(k,v)::r/\Rep K B t v/\qbx K B ts r
def qkI (K:PySem.W.Frag) (B:Hp):List (List Key×T)->List (List Key×V)->Prop
 | [],vs=>vs=[]
 | (k,t)::ts,vs=> ∃v r,vs=(k,v)::r/\Rep K B t v/\qkI K B ts r
end
def Le (B B':Hp):Prop:= ∀a o,B a=some o->B' a=some o
theorem Le.refl (B:Hp):Le B B:=λ_ _ h=>h
theorem Le.trans {A B C:Hp} (h:Le A B) (h':Le B C):Le A C:=λa o e=>h' a o (h a o e)
theorem Le.sqT {K:PySem.W.Frag} {B B':Hp} {p:Addr} {vs:List V} (h:Le B B') (q:SqT K B p vs):SqT K B' p vs:=by
 rcases q with (q | ⟨o,q⟩) | q
 ·exact .inl (.inl (h _ _ q))
 ·exact .inl (.inr ⟨o,h _ _ q⟩)
 ·exact .inr q
theorem Le.sqL {K:PySem.W.Frag} {B B':Hp} {p:Addr} {vs:List V} (h:Le B B') (q:SqL K B p vs):SqL K B' p vs:=by
 rcases q with (q | ⟨o,q⟩) | q
 ·exact .inl (.inl (h _ _ q))
 ·exact .inl (.inr ⟨o,h _ _ q⟩)
 ·exact .inr q
mutual
theorem Rep.mono {K:PySem.W.Frag} {B B':Hp} (h:Le B B'): ∀{t:T} {v:V},Rep K B t v->Rep K B' t v
 | .non,_,r=>r
 | .bl _,_,r=>r
 | .int _,_,r=>r
 | .str _,_,r=>r
 | .tup _,_,r=>by
  unfold Rep at r⊢
  obtain ⟨p,vs,e,q,rs⟩:=r
  exact ⟨p,vs,e,h _ _ q,qaC.mono h rs⟩
 | .lst _,_,r=>by
  unfold Rep at r⊢
  obtain ⟨p,vs,e,q,rs⟩:=r
  exact ⟨p,vs,e,h _ _ q,qaC.mono h rs⟩
 | .dct _,_,r=>by
  unfold Rep at r⊢
  obtain ⟨p,vs,e,q,rs⟩:=r
  exact ⟨p,vs,e,h _ _ q,qbx.mono h rs⟩
 | .dcf _,_,r=>by
  unfold Rep at r⊢
  obtain ⟨p,o,vs,e,q,rs⟩:=r
  exact ⟨p,o,vs,e,h _ _ q,qbx.mono h rs⟩
 | .dtu _,_,r=>by
  unfold Rep at r⊢
  obtain ⟨p,vs,e,q,rs⟩:=r
  exact ⟨p,vs,e,h _ _ q,qkI.mono h rs⟩
 | .fn _,_,r=>by unfold Rep at r⊢; exact r
 | .scr _,_,r=>by
  unfold Rep at r⊢
  obtain ⟨p,e,q⟩:=r
  exact ⟨p,e,h.sqL q⟩
theorem qaC.mono {K:PySem.W.Frag} {B B':Hp} (h:Le B B'): ∀{ts:List T} {vs:List V},qaC K B ts vs->qaC K B' ts vs
 | [],_,r=>r
 | _::_,_,r=>by
  unfold qaC at r⊢
  obtain ⟨v,r',e,a,b⟩:=r
  exact ⟨v,r',e,Rep.mono h a,qaC.mono h b⟩
theorem qbx.mono {K:PySem.W.Frag} {B B':Hp} (h:Le B B'): ∀{ts:List (Key×T)} {vs:List (Key×V)},qbx K B ts vs->qbx K B' ts vs
 | [],_,r=>r
 | (_,_)::_,_,r=>by
  unfold qbx at r⊢
  obtain ⟨v,r',e,a,b⟩:=r
  exact ⟨v,r',e,Rep.mono h a,qbx.mono h b⟩
theorem qkI.mono {K:PySem.W.Frag} {B B':Hp} (h:Le B B'): ∀{ts:List (List Key×T)} {vs:List (List Key×V)},qkI K B ts vs->qkI K B' ts vs
 | [],_,r=>r
 | (_,_)::_,_,r=>by
  unfold qkI at r⊢
  obtain ⟨v,r',e,a,b⟩:=r
  exact ⟨v,r',e,Rep.mono h a,qkI.mono h b⟩
end
section
variable {K:PySem.W.Frag} {B:Hp}
theorem qaC.nil:qaC K B [] []:=by unfold qaC; rfl
theorem qaC.cons {t:T} {v:V} {ts:List T} {vs:List V} (h:Rep K B t v) (r:qaC K B ts vs):qaC K B (t::ts) (v::vs):=by unfold qaC; exact ⟨v,vs,rfl,h,r⟩
theorem qaC.inv {t:T} {ts:List T} {vs:List V} (h:qaC K B (t::ts) vs): ∃v r,vs=v::r/\Rep K B t v/\qaC K B ts r:=by unfold qaC at h; exact h
theorem qaC.inv0 {vs:List V} (h:qaC K B [] vs):vs=[]:=by unfold qaC at h; exact h
theorem qaC.length: ∀{ts:List T} {vs:List V},qaC K B ts vs->vs.length=ts.length
 | [],_,h=>by rw[h.inv0]; rfl
 | _::_,_,h=>by
  obtain ⟨v,r,rfl,_,h'⟩:=h.inv
  simp[qaC.length h']
theorem qaC.get: ∀{ts:List T} {vs:List V} {i:Nat} {t:T},qaC K B ts vs->ts[i]? =some t->∃v,vs[i]? =some v/\Rep K B t v
 | [],_,_,_,_,e=>by simp at e
 | _::_,_,0,_,h,e=>by
  obtain ⟨v,r,rfl,a,_⟩:=h.inv
  simp at e; subst e
  exact ⟨v,rfl,a⟩
 | _::_,_,i+1,t,h,e=>by
  obtain ⟨v,r,rfl,_,h'⟩:=h.inv
  obtain ⟨u,e1,e2⟩:=qaC.get (i:=i) h' (by simpa using e)
  exact ⟨u,by simpa using e1,e2⟩
theorem qaC.of_get {ts:List T} {vs:List V} (hl:vs.length=ts.length) (h: ∀(i:Nat) (t:T) (v:V),ts[i]? =some t->vs[i]? =some v->Rep K B t v):qaC K B ts vs:=by
 induction ts generalizing vs with
 | nil=>cases vs with
  | nil=>exact .nil
  | cons _ _=>cases hl
 | cons t ts ih=>cases vs with
  | nil=>cases hl
  | cons v vs=>exact .cons (h 0 t v rfl rfl) (ih (by simpa using hl) λi t' v' a b=>h (i+1) t' v' (by simpa using a) (by simpa using b))
theorem qaC.append: ∀{ts us:List T} {vs ws:List V},qaC K B ts vs->qaC K B us ws->qaC K B (ts++us) (vs++ws)
 | [],_,_,_,h,h'=>by rw[h.inv0]; exact h'
 | _::_,_,_,_,h,h'=>by
  obtain ⟨v,r,rfl,a,b⟩:=h.inv
  exact .cons a (qaC.append b h')
theorem qaC.snoc {ts:List T} {vs:List V} {t:T} {v:V} (h:qaC K B ts vs) (r:Rep K B t v):qaC K B (ts++[t]) (vs++[v]):=h.append (.cons r .nil)
theorem qaC.take {ts:List T} {vs:List V} (n:Nat) (h:qaC K B ts vs):qaC K B (ts.take n) (vs.take n):=by
 refine .of_get (by simp[h.length]) λi t v a b=> ?_
 rw[List.getElem?_take] at a b
 split at a
 ·rename_i hi
  rw[if_pos hi] at b
  obtain ⟨u,e1,e2⟩:=h.get a
  rw[b] at e1; cases e1; exact e2
 ·cases a
theorem qaC.drop {ts:List T} {vs:List V} (n:Nat) (h:qaC K B ts vs):qaC K B (ts.drop n) (vs.drop n):=by
 refine .of_get (by simp[h.length]) λi t v a b=> ?_
 rw[List.getElem?_drop] at a b
 obtain ⟨u,e1,e2⟩:=h.get a
 rw[b] at e1; cases e1; exact e2
theorem qaC.set {ts:List T} {vs:List V} {t:T} {v:V} (n:Nat) (h:qaC K B ts vs) (r:Rep K B t v):qaC K B (ts.set n t) (vs.set n v):=by
 refine .of_get (by simp[h.length]) λi t' v' a b=> ?_
 have hl:=h.length
 rw[List.getElem?_set] at a b
 by_cases hi:n=i
 ·subst hi
  rw[if_pos rfl] at a b
  split at a
  ·split at b
   ·cases a; cases b; exact r
   ·cases b
  ·cases a
 ·rw[if_neg hi] at a b
  obtain ⟨u,e1,e2⟩:=h.get a
  rw[b] at e1; cases e1; exact e2
theorem qaC.getD {ts:List T} {vs:List V} (h:qaC K B ts vs) (j:Nat) (hj:j<ts.length):Rep K B (ts.getD j .non) (vs.getD j .non):=by
 obtain ⟨u,e1,e2⟩:=h.get (List.getElem?_eq_getElem hj)
 rw[List.getD_eq_getElem?_getD,List.getD_eq_getElem?_getD,e1,List.getElem?_eq_getElem hj]
 exact e2
end
structure Gam where
 P:Hp->Prop
 st: ∀H H':Hp,(∀a o,H a=some o->(∀xs,o≠.lst xs)->(∀xs,o≠.dK xs)->(∀xs,o≠.dT xs)->(∀C dx fs,o≠.ins C dx fs)->H' a=some o)->P H->P H'
structure GX (H H':Hp):Prop where
 hh: ∀a o,H a=some o->(∀ps,o≠.tbl ps)->H' a=some o
 dm: ∀a,H a≠none->H' a≠none
theorem GX.refl (H:Hp):GX H H:=⟨λ_ _ h _=>h,λ_ h=>h⟩
theorem GX.trans {H H1 H2:Hp} (a:GX H H1) (b:GX H1 H2):GX H H2:=⟨λx o h n=>b.hh x o (a.hh x o h n) n,λx h=>b.dm x (a.dm x h)⟩
structure qa2 (H B H' B':Hp):Prop where
 gx:GX H H'
 bb:Le B B'
 bh:Le B' H'
 bt: ∀a ps,B' a≠some (.tbl ps)
 nw: ∀a o,H a=some o->(∀vs,o≠.tup vs)->(∀ps,o≠.tbl ps)->B' a=B a
theorem nwo {H B B':Hp} (h: ∀a,H a≠none->B' a=B a): ∀a o,H a=some o->(∀vs,o≠HO.tup vs)->(∀ps,o≠HO.tbl ps)->B' a=B a:=λa o z _ _=>h a (by rw[z]; simp)
theorem qa2.refl {H B:Hp} (h:Le B H) (t: ∀a ps,B a≠some (.tbl ps)):qa2 H B H B:=⟨.refl _,.refl _,h,t,λ_ _ _ _ _=>rfl⟩
theorem qa2.trans {H B H1 B1 H2 B2:Hp} (a:qa2 H B H1 B1) (b:qa2 H1 B1 H2 B2):qa2 H B H2 B2:=
 ⟨a.gx.trans b.gx,a.bb.trans b.bb,b.bh,b.bt,λx o h n1 n2=>(b.nw x o (a.gx.hh x o h n2) n1 n2).trans (a.nw x o h n1 n2)⟩
theorem qa2.new {H B:Hp} {p:Addr} {o:HO} (h:Le B H) (t: ∀a ps,B a≠some (.tbl ps)) (hp:H p=none) (ho: ∀ps,o≠.tbl ps):qa2 H B (upd H p o) (upd B p o):=by
 have bp:B p=none:=by
  cases e:B p with
  | none=>rfl
  | some u=>rw[h _ _ e] at hp; cases hp
 refine ⟨⟨λa u e _=>by rw[qae (qao e hp)]; exact e,λa e z=> ?_⟩,λa u e=>by rw[qae (qao e bp)]; exact e,λa u e=> ?_,λa ps e=> ?_,nwo λa e=> ?_⟩
 ·by_cases q:a=p
  ·subst q; exact e hp
  ·rw[qae q] at z; exact e z
 ·by_cases q:a=p
  ·subst q; rw[qak] at e⊢; exact e
  ·rw[qae q] at e⊢; exact h _ _ e
 ·by_cases q:a=p
  ·subst q; rw[qak] at e; exact ho ps (Option.some.inj e)
  ·rw[qae q] at e; exact t a ps e
 ·rw[qae (λz=>e (by rw[z]; exact hp))]
theorem qa2.own {H B:Hp} {p:Addr} {o:HO} (h:Le B H) (t: ∀a ps,B a≠some (.tbl ps)) (hp:H p=none):qa2 H B (upd H p o) B:=by
 refine ⟨⟨λa u e _=>by rw[qae (qao e hp)]; exact e,λa e z=> ?_⟩,.refl _,λa u e=> ?_,t,nwo λa e=>rfl⟩
 ·by_cases q:a=p
  ·subst q; exact e hp
  ·rw[qae q] at z; exact e z
 ·rw[qae (qao (h _ _ e) hp)]; exact h _ _ e
inductive Sl where
 | no | fz (t:T) | ow (ts:List T) | od (kvs:List (Key×T)) | ou (kvs:List (List Key×T)) | pd (kvs:List (Key×T)) | pu (kvs:List (List Key×T))
def qpT (K:PySem.W.Frag) (H0 H B:Hp) (pa:Addr):Sl->Option V->Prop
 | .no,_=>True
 | .fz t,o=> ∃v,o=some v/\Rep K B t v
 | .ow ts,o=> ∃p vs,o=some (.ref p)/\H0 p=none/\B p=none/\H p=some (.lst vs)/\qaC K B ts vs
 | .od kvs,o=> ∃p us,o=some (.ref p)/\H0 p=none/\B p=none/\H p=some (.dK us)/\qbx K B kvs us
 | .ou kvs,o=> ∃p us,o=some (.ref p)/\H0 p=none/\B p=none/\H p=some (.dT us)/\qkI K B kvs us
 | .pd kvs,o=> ∃p us,p=pa/\o=some (.ref p)/\H0 p=none/\B p=none/\H p=some (.dK us)/\qbx K B kvs us
 | .pu kvs,o=> ∃p us,p=pa/\o=some (.ref p)/\H0 p=none/\B p=none/\H p=some (.dT us)/\qkI K B kvs us
def Sl.own:Sl->Bool
 | .ow _=>true
 | .od _=>true
 | .ou _=>true
 | .pd _=>true
 | .pu _=>true
 | _=>false
structure Md where
 K:PySem.W.Frag
 G:Gam
 E:XK
 C:Str->Addr
 pa:Addr
abbrev Ro:=List Sl
structure Ev (M:Md) (H0 B0:Hp) (ρ:Ro) (σ:St) (H B:Hp):Prop where
 gr:qa2 H0 B0 H B
 gm:M.G.P H
 len:ρ.length=σ.length
 sl: ∀(i:Nat) (s:Sl),ρ[i]? =some s->qpT M.K H0 H B M.pa s (σ[i]?.join)
 ap: ∀(i j:Nat) (si sj:Sl) (p:Addr),i≠j->ρ[i]? =some si->ρ[j]? =some sj->si.own=true->sj.own=true->σ[i]?.join=some (.ref p)->σ[j]?.join≠some (.ref p)
section
variable {M:Md} {H0 B0 H B H' B':Hp} {ρ:Ro} {σ:St}
theorem qpT.grow {K:PySem.W.Frag} {pa:Addr} {s:Sl} {o:Option V} (h:qpT K H0 H B pa s o) (g:qa2 H B H' B'):qpT K H0 H' B' pa s o:=by
 cases s with
 | no=>trivial
 | fz t=>obtain ⟨v,e,r⟩:=h; exact ⟨v,e,r.mono g.bb⟩
 | ow ts=>
  obtain ⟨p,vs,e,h0,hb,hp,r⟩:=h
  exact ⟨p,vs,e,h0,by rw[g.nw p _ hp (by simp) (by simp)]; exact hb,g.gx.hh _ _ hp (by intro ps z; cases z),r.mono g.bb⟩
 | od ts=>
  obtain ⟨p,vs,e,h0,hb,hp,r⟩:=h
  exact ⟨p,vs,e,h0,by rw[g.nw p _ hp (by simp) (by simp)]; exact hb,g.gx.hh _ _ hp (by intro ps z; cases z),r.mono g.bb⟩
 | ou ts=>
  obtain ⟨p,vs,e,h0,hb,hp,r⟩:=h
  exact ⟨p,vs,e,h0,by rw[g.nw p _ hp (by simp) (by simp)]; exact hb,g.gx.hh _ _ hp (by intro ps z; cases z),r.mono g.bb⟩
 | pd ts=>
  obtain ⟨p,vs,e0,e,h0,hb,hp,r⟩:=h
  exact ⟨p,vs,e0,e,h0,by rw[g.nw p _ hp (by simp) (by simp)]; exact hb,g.gx.hh _ _ hp (by intro ps z; cases z),r.mono g.bb⟩
 | pu ts=>
  obtain ⟨p,vs,e0,e,h0,hb,hp,r⟩:=h
  exact ⟨p,vs,e0,e,h0,by rw[g.nw p _ hp (by simp) (by simp)]; exact hb,g.gx.hh _ _ hp (by intro ps z; cases z),r.mono g.bb⟩
theorem Ev.grow (v:Ev M H0 B0 ρ σ H B) (g:qa2 H B H' B') (m:M.G.P H'):Ev M H0 B0 ρ σ H' B':=
 ⟨v.gr.trans g,m,v.len,λi s e=>(v.sl i s e).grow g,v.ap⟩
theorem Ev.bh (v:Ev M H0 B0 ρ σ H B):Le B H:=v.gr.bh
theorem Ev.bt (v:Ev M H0 B0 ρ σ H B): ∀a ps,B a≠some (.tbl ps):=v.gr.bt
theorem Ev.new (v:Ev M H0 B0 ρ σ H B) {p:Addr} {o:HO} (hp:H p=none) (ho: ∀ps,o≠.tbl ps):qa2 H B (upd H p o) (upd B p o)/\M.G.P (upd H p o):=
 ⟨.new v.bh v.bt hp ho,M.G.st H _ (λa u e _ _ _ _=>by rw[qae (qao e hp)]; exact e) v.gm⟩
theorem Ev.nown (v:Ev M H0 B0 ρ σ H B) {p:Addr} {o:HO} (hp:H p=none):qa2 H B (upd H p o) B/\M.G.P (upd H p o):=
 ⟨.own v.bh v.bt hp,M.G.st H _ (λa u e _ _ _ _=>by rw[qae (qao e hp)]; exact e) v.gm⟩
theorem Ev.get (v:Ev M H0 B0 ρ σ H B) {i:Nat} {t:T} (e:ρ[i]? =some (.fz t)): ∃x,σ[i]? =some (some x)/\Rep M.K B t x:=by
 obtain ⟨x,e1,r⟩:=v.sl i _ e
 refine ⟨x,?_,r⟩
 cases q:σ[i]? with
 | none=>rw[q] at e1; cases e1
 | some o=>rw[q] at e1; cases o with
  | none=>cases e1
  | some y=>cases e1; rfl
theorem Ev.getOw (v:Ev M H0 B0 ρ σ H B) {i:Nat} {ts:List T} (e:ρ[i]? =some (.ow ts)): ∃p vs,σ[i]? =some (some (.ref p))/\H0 p=none/\B p=none/\H p=some (.lst vs)/\qaC M.K B ts vs:=by
 obtain ⟨p,vs,e1,r⟩:=v.sl i _ e
 refine ⟨p,vs,?_,r⟩
 cases q:σ[i]? with
 | none=>rw[q] at e1; cases e1
 | some o=>rw[q] at e1; cases o with
  | none=>cases e1
  | some y=>cases e1; rfl
theorem qct {σ:St} {i j:Nat} {x:V} (hi:i<σ.length):(σ.set i (some x))[j]?.join=if i=j then some x else σ[j]?.join:=by
 rw[List.getElem?_set]
 by_cases q:i=j
 ·subst q; rw[if_pos rfl,if_pos rfl,if_pos hi]; rfl
 ·rw[if_neg q,if_neg q]
theorem Ev.set (v:Ev M H0 B0 ρ σ H B) {i:Nat} {t:T} {x:V} (r:Rep M.K B t x):Ev M H0 B0 (ρ.set i (.fz t)) (σ.set i (some x)) H B:=by
 by_cases hi:i<ρ.length
 case neg=>
  rw[List.set_eq_of_length_le (by lia),List.set_eq_of_length_le (by rw[<-v.len]; lia)]
  exact v
 have hi':i<σ.length:=by rw[<-v.len]; exact hi
 refine ⟨v.gr,v.gm,by simp[v.len],λj s e=> ?_,λj k sj sk p hjk ej ek oj ok a=> ?_⟩
 ·rw[qct hi']
  rw[List.getElem?_set] at e
  by_cases q:i=j
  ·subst q
   rw[if_pos rfl,if_pos hi] at e
   cases e
   rw[if_pos rfl]
   exact ⟨x,rfl,r⟩
  ·rw[if_neg q] at e⊢
   exact v.sl j s e
 ·rw[List.getElem?_set] at ej ek
  by_cases q:i=j
  ·subst q; rw[if_pos rfl,if_pos hi] at ej; cases ej; cases oj
  ·by_cases q2:i=k
   ·subst q2; rw[if_pos rfl,if_pos hi] at ek; cases ek; cases ok
   ·rw[if_neg q] at ej
    rw[if_neg q2] at ek
    rw[qct hi',if_neg q] at a
    rw[qct hi',if_neg q2]
    exact v.ap j k sj sk p hjk ej ek oj ok a
theorem Ev.setOw (v:Ev M H0 B0 ρ σ H B) {i:Nat} {ts:List T} {p:Addr} {vs:List V} (h0:H0 p=none) (hb:B p=none) (hp:H p=some (.lst vs)) (r:qaC M.K B ts vs)
  (ap: ∀(j:Nat) (s:Sl),j≠i->ρ[j]? =some s->s.own=true->σ[j]?.join≠some (.ref p)):Ev M H0 B0 (ρ.set i (.ow ts)) (σ.set i (some (.ref p))) H B:=by
 by_cases hi:i<ρ.length
 case neg=>
  rw[List.set_eq_of_length_le (by lia),List.set_eq_of_length_le (by rw[<-v.len]; lia)]
  exact v
 have hi':i<σ.length:=by rw[<-v.len]; exact hi
 refine ⟨v.gr,v.gm,by simp[v.len],λj s e=> ?_,λj k sj sk p' hjk ej ek oj ok a=> ?_⟩
 ·rw[qct hi']
  rw[List.getElem?_set] at e
  by_cases q:i=j
  ·subst q
   rw[if_pos rfl,if_pos hi] at e
   cases e
   rw[if_pos rfl]
   exact ⟨p,vs,rfl,h0,hb,hp,r⟩
  ·rw[if_neg q] at e⊢
   exact v.sl j s e
 ·rw[List.getElem?_set] at ej ek
  rw[qct hi'] at a⊢
  by_cases q:i=j
  ·subst q
   rw[if_neg hjk] at ek
   rw[if_pos rfl] at a
   rw[if_neg hjk]
   cases a
   exact ap k sk (λz=>hjk z.symm) ek ok
  ·rw[if_neg q] at ej a
   by_cases q2:i=k
   ·subst q2
    rw[if_pos rfl]
    intro z
    cases z
    exact ap j sj hjk ej oj a
   ·rw[if_neg q2] at ek⊢
    exact v.ap j k sj sk p' hjk ej ek oj ok a
theorem Ev.putOw (v:Ev M H0 B0 ρ σ H B) {i:Nat} {ts us:List T} {p:Addr} {ws:List V} (e:ρ[i]? =some (.ow ts)) (es:σ[i]? =some (some (.ref p))) (r:qaC M.K B us ws):Ev M H0 B0 (ρ.set i (.ow us)) σ (upd H p (.lst ws)) B:=by
 obtain ⟨q,vs,e1,h0,hb,hp,_⟩:=v.getOw e
 rw[es] at e1; cases e1
 have hi:i<ρ.length:=(List.getElem?_eq_some_iff.mp e).1
 have neB: ∀a o,B a=some o->a≠p:=λa o z w=>by rw[w,hb] at z; cases z
 refine ⟨⟨⟨λa o z n=> ?_,λa z w=> ?_⟩,v.gr.bb,λa o z=> ?_,v.gr.bt,v.gr.nw⟩,M.G.st H _ (λa o z n1 n2 n3 n4=> ?_) v.gm,by simp[v.len],λj s ej=> ?_,λj k sj sk p' hjk ej ek oj ok a=> ?_⟩
 ·rw[qae (qao z h0)]; exact v.gr.gx.hh a o z n
 ·by_cases q:a=p
  ·subst q; exact z h0
  ·rw[qae q] at w; exact v.gr.gx.dm a z w
 ·rw[qae (neB a o z)]; exact v.gr.bh a o z
 ·rw[qae (qlg z hp (n1 _))]; exact z
 ·rw[List.getElem?_set] at ej
  by_cases q:i=j
  ·subst q
   rw[if_pos rfl,if_pos hi] at ej
   cases ej
   exact ⟨p,ws,by rw[es]; rfl,h0,hb,qak,r⟩
  ·rw[if_neg q] at ej
   have o:=v.sl j s ej
   cases s with
   | no=>trivial
   | fz t=>exact o
   | ow ts'=>
    obtain ⟨p',vs',a1,a2,a3,a4,a5⟩:=o
    have ne:p'≠p:=λz=>by
     subst z
     exact v.ap i j _ _ p' q e ej rfl rfl (by rw[es]; rfl) a1
    exact ⟨p',vs',a1,a2,a3,by rw[qae ne]; exact a4,a5⟩
   | od ts'=>
    obtain ⟨p',vs',a1,a2,a3,a4,a5⟩:=o
    have ne:p'≠p:=λz=>by
     subst z
     exact v.ap i j _ _ p' q e ej rfl rfl (by rw[es]; rfl) a1
    exact ⟨p',vs',a1,a2,a3,by rw[qae ne]; exact a4,a5⟩
   | ou ts'=>
    obtain ⟨p',vs',a1,a2,a3,a4,a5⟩:=o
    have ne:p'≠p:=λz=>by
     subst z
     exact v.ap i j _ _ p' q e ej rfl rfl (by rw[es]; rfl) a1
    exact ⟨p',vs',a1,a2,a3,by rw[qae ne]; exact a4,a5⟩
   | pd ts'=>
    obtain ⟨p',vs',a0,a1,a2,a3,a4,a5⟩:=o
    have ne:p'≠p:=λz=>by
     subst z
     exact v.ap i j _ _ p' q e ej rfl rfl (by rw[es]; rfl) a1
    exact ⟨p',vs',a0,a1,a2,a3,by rw[qae ne]; exact a4,a5⟩
   | pu ts'=>
    obtain ⟨p',vs',a0,a1,a2,a3,a4,a5⟩:=o
    have ne:p'≠p:=λz=>by
     subst z
     exact v.ap i j _ _ p' q e ej rfl rfl (by rw[es]; rfl) a1
    exact ⟨p',vs',a0,a1,a2,a3,by rw[qae ne]; exact a4,a5⟩
 ·have own_at: ∀(l:Nat) (sl:Sl),(ρ.set i (.ow us))[l]? =some sl->sl.own=true->∃sl',ρ[l]? =some sl'/\sl'.own=true:=λl sl el ol=>by
   rw[List.getElem?_set] at el
   by_cases q:i=l
   ·subst q; exact ⟨_,e,rfl⟩
   ·rw[if_neg q] at el; exact ⟨sl,el,ol⟩
  obtain ⟨sj',ej',oj'⟩:=own_at j sj ej oj
  obtain ⟨sk',ek',ok'⟩:=own_at k sk ek ok
  exact v.ap j k sj' sk' p' hjk ej' ek' oj' ok' a
theorem Ev.freeze (v:Ev M H0 B0 ρ σ H B) {i:Nat} {ts:List T} (e:ρ[i]? =some (.ow ts)): ∃B',Le B B'/\Ev M H0 B0 (ρ.set i (.fz (.lst ts))) σ H B':=by
 obtain ⟨p,vs,es,h0,hb,hp,r⟩:=v.getOw e
 have hi:i<ρ.length:=(List.getElem?_eq_some_iff.mp e).1
 have le:Le B (upd B p (.lst vs)):=λa o z=>by rw[qae (qao z hb)]; exact z
 refine ⟨upd B p (.lst vs),le,⟨v.gr.gx,v.gr.bb.trans le,λa o z=> ?_,λa ps z=> ?_,λa o z n1 n2=> ?_⟩,v.gm,by simp[v.len],λj s ej=> ?_,λj k sj sk p' hjk ej ek oj ok a=> ?_⟩
 ·by_cases q:a=p
  ·subst q; rw[qak] at z; cases z; exact hp
  ·rw[qae q] at z; exact v.gr.bh a o z
 ·by_cases q:a=p
  ·subst q; rw[qak] at z; cases z
  ·rw[qae q] at z; exact v.gr.bt a ps z
 ·rw[qae (λq=>by rw[q,h0] at z; cases z)]; exact v.gr.nw a o z n1 n2
 ·rw[List.getElem?_set] at ej
  by_cases q:i=j
  ·subst q
   rw[if_pos rfl,if_pos hi] at ej
   cases ej
   refine ⟨.ref p,by rw[es]; rfl,?_⟩
   unfold Rep
   exact ⟨p,vs,rfl,qak,r.mono le⟩
  ·rw[if_neg q] at ej
   have o:=v.sl j s ej
   cases s with
   | no=>trivial
   | fz t=>obtain ⟨x,a1,a2⟩:=o; exact ⟨x,a1,a2.mono le⟩
   | ow ts'=>
    obtain ⟨p',vs',a1,a2,a3,a4,a5⟩:=o
    have ne:p'≠p:=λz=>by
     subst z
     exact v.ap i j _ _ p' q e ej rfl rfl (by rw[es]; rfl) a1
    exact ⟨p',vs',a1,a2,by rw[qae ne]; exact a3,a4,a5.mono le⟩
   | od ts'=>
    obtain ⟨p',vs',a1,a2,a3,a4,a5⟩:=o
    have ne:p'≠p:=λz=>by
     subst z
     exact v.ap i j _ _ p' q e ej rfl rfl (by rw[es]; rfl) a1
    exact ⟨p',vs',a1,a2,by rw[qae ne]; exact a3,a4,a5.mono le⟩
   | ou ts'=>
    obtain ⟨p',vs',a1,a2,a3,a4,a5⟩:=o
    have ne:p'≠p:=λz=>by
     subst z
     exact v.ap i j _ _ p' q e ej rfl rfl (by rw[es]; rfl) a1
    exact ⟨p',vs',a1,a2,by rw[qae ne]; exact a3,a4,a5.mono le⟩
   | pd ts'=>
    obtain ⟨p',vs',a0,a1,a2,a3,a4,a5⟩:=o
    have ne:p'≠p:=λz=>by
     subst z
     exact v.ap i j _ _ p' q e ej rfl rfl (by rw[es]; rfl) a1
    exact ⟨p',vs',a0,a1,a2,by rw[qae ne]; exact a3,a4,a5.mono le⟩
   | pu ts'=>
    obtain ⟨p',vs',a0,a1,a2,a3,a4,a5⟩:=o
    have ne:p'≠p:=λz=>by
     subst z
     exact v.ap i j _ _ p' q e ej rfl rfl (by rw[es]; rfl) a1
    exact ⟨p',vs',a0,a1,a2,by rw[qae ne]; exact a3,a4,a5.mono le⟩
 ·rw[List.getElem?_set] at ej ek
  by_cases q:i=j
  ·subst q; rw[if_pos rfl,if_pos hi] at ej; cases ej; cases oj
  ·by_cases q2:i=k
   ·subst q2; rw[if_pos rfl,if_pos hi] at ek; cases ek; cases ok
   ·rw[if_neg q] at ej
    rw[if_neg q2] at ek
    exact v.ap j k sj sk p' hjk ej ek oj ok a
end
end PL
end
section
namespace PL
open PySem L2
def qrL (M:Md) (H0 H B:Hp) (Q:VK):Rs T->Prop
 | .no=>False
 | .ok r=> ∀v H' B',qa2 H B H' B'->M.G.P H'->Rep M.K B' r v->Q v H'
 | .ex c=> ∀H',GX H0 H'->M.G.P H'->M.E (.ref (M.C c)) none H'
def qsg (M:Md) (H0 H B:Hp) (Q:List V->Hp->Prop):Rs (List T)->Prop
 | .no=>False
 | .ok r=> ∀v H' B',qa2 H B H' B'->M.G.P H'->qaC M.K B' r v->Q v H'
 | .ex c=> ∀H',GX H0 H'->M.G.P H'->M.E (.ref (M.C c)) none H'
def qsf (M:Md) (H0 H B:Hp) (Q:VK):Rs (List T)->Prop
 | .no=>False
 | .ok r=> ∀p vs H' B',qa2 H B H' B'->M.G.P H'->H p=none->B' p=none->H' p=some (.lst vs)->qaC M.K B' r vs->Q (.ref p) H'
 | .ex c=> ∀H',GX H0 H'->M.G.P H'->M.E (.ref (M.C c)) none H'
def qse (M:Md) (H0 H B:Hp) (Q:VK):Rs (Bool×List T)->Prop
 | .no=>False
 | .ok r=> ∀p vs H' B',qa2 H B H' B'->M.G.P H'->(if r.1=true then H' p=some (.lst vs) else SqT M.K B' p vs)->qaC M.K B' r.2 vs->Q (.ref p) H'
 | .ex c=> ∀H',GX H0 H'->M.G.P H'->M.E (.ref (M.C c)) none H'
def qsd (M:Md) (H0 H B:Hp) (Q:Bool->Hp->Prop):Rs Bool->Prop
 | .no=>False
 | .ok r=> ∀H' B',qa2 H B H' B'->M.G.P H'->Q r H'
 | .ex c=> ∀H',GX H0 H'->M.G.P H'->M.E (.ref (M.C c)) none H'
def tP (M:Md) (d:Ro->Rs T):TE:=λσ H Q=> ∃H0 B0 ρ B,Ev M H0 B0 ρ σ H B/\qrL M H0 H B Q (d ρ)
def tPA (M:Md) (d:Ro->Rs (List T)):TA:=λσ H Q=> ∃H0 B0 ρ B,Ev M H0 B0 ρ σ H B/\qsg M H0 H B Q (d ρ)
def tF (M:Md) (d:Ro->Rs (List T)):TE:=λσ H Q=> ∃H0 B0 ρ B,Ev M H0 B0 ρ σ H B/\qsf M H0 H B Q (d ρ)
def tQ (M:Md) (d:Ro->Rs (Bool×List T)):TE:=λσ H Q=> ∃H0 B0 ρ B,Ev M H0 B0 ρ σ H B/\qse M H0 H B Q (d ρ)
def tPT (M:Md) (d:Ro->Rs Bool):TT:=λσ H Q=> ∃H0 B0 ρ B,Ev M H0 B0 ρ σ H B/\qsd M H0 H B Q (d ρ)
abbrev DE (M:Md) (X:Cx) (e:Expr) (d:Ro->Rs T):Prop:=PE X e (tP M d)
abbrev DA (M:Md) (X:Cx) (es:List Expr) (d:Ro->Rs (List T)):Prop:=PA X es (tPA M d)
abbrev DF (M:Md) (X:Cx) (e:Expr) (d:Ro->Rs (List T)):Prop:=PE X e (tF M d)
abbrev DQ (M:Md) (X:Cx) (e:Expr) (d:Ro->Rs (Bool×List T)):Prop:=PE X e (tQ M d)
abbrev DT (M:Md) (X:Cx) (e:Expr) (d:Ro->Rs Bool):Prop:=PT X e (tPT M d)
theorem PE.weak {X:Cx} {e:Expr} {t t':TE} (h:PE X e t) (w: ∀σ H Q,t' σ H Q->t σ H Q):PE X e t':=λpins s σ H Q I q=>h pins s σ H Q I (w σ H Q q)
theorem PT.weak {X:Cx} {e:Expr} {t t':TT} (h:PT X e t) (w: ∀σ H Q,t' σ H Q->t σ H Q):PT X e t':=λpins s σ H Q I q=>h pins s σ H Q I (w σ H Q q)
theorem PA.weak {X:Cx} {e:List Expr} {t t':TA} (h:PA X e t) (w: ∀σ H Q,t' σ H Q->t σ H Q):PA X e t':=λpos pins s σ H Q I q=>h pos pins s σ H Q I (w σ H Q q)
theorem PS.weak {X:Cx} {e:Stmt} {t t':TS} (h:PS X e t) (w: ∀D σ H,t' D σ H->t D σ H):PS X e t':=λpins s σ H D I q=>h pins s σ H D I (w D σ H q)
theorem PSs.weak {X:Cx} {e:List Stmt} {t t':TS} (h:PSs X e t) (w: ∀D σ H,t' D σ H->t D σ H):PSs X e t':=λpins s σ H D I q=>h pins s σ H D I (w D σ H q)
section
variable {M:Md} {H0 B0 H B H1 B1:Hp} {ρ:Ro} {σ:St}
theorem qbD {p:Addr} (g:GX H H1) (h:H1 p=none):H p=none:=by
 cases e:H p with
 | none=>rfl
 | some o=>exact absurd h (g.dm p (by rw[e]; simp))
end
section
variable {M:Md} {H0 B0 H B:Hp} {ρ:Ro} {σ:St} {α:Type}
def Wnt (M:Md) (H0:Hp) (k:α->Prop):Rs α->Prop
 | .no=>False
 | .ok a=>k a
 | .ex c=> ∀H',GX H0 H'->M.G.P H'->M.E (.ref (M.C c)) none H'
theorem Wnt.bind {β:Type} {k:β->Prop} {r:Rs α} {f:α->Rs β} (h:Wnt M H0 k (r>>=f)):Wnt M H0 (λa=>Wnt M H0 k (f a)) r:=by
 cases r with
 | no=>exact h
 | ok a=>exact h
 | ex c=>exact h
theorem Wnt.mono {k k':α->Prop} {r:Rs α} (h:Wnt M H0 k r) (f: ∀a,k a->k' a):Wnt M H0 k' r:=by
 cases r with
 | no=>exact h
 | ok a=>exact f a h
 | ex c=>exact h
theorem qaM {Q:VK} {r:Rs T}:qrL M H0 H B Q r↔Wnt M H0 (λa=> ∀v H' B',qa2 H B H' B'->M.G.P H'->Rep M.K B' a v->Q v H') r:=by cases r<;>exact Iff.rfl
theorem qhW {Q:List V->Hp->Prop} {r:Rs (List T)}:qsg M H0 H B Q r↔Wnt M H0 (λa=> ∀v H' B',qa2 H B H' B'->M.G.P H'->qaC M.K B' a v->Q v H') r:=by cases r<;>exact Iff.rfl
theorem qbF {Q:VK} {r:Rs (List T)}:qsf M H0 H B Q r↔Wnt M H0 (λa=> ∀p vs H' B',qa2 H B H' B'->M.G.P H'->H p=none->B' p=none->H' p=some (.lst vs)->qaC M.K B' a vs->Q (.ref p) H') r:=by cases r<;>exact Iff.rfl
theorem qds {Q:VK} {r:Rs (Bool×List T)}:qse M H0 H B Q r↔Wnt M H0 (λa=> ∀p vs H' B',qa2 H B H' B'->M.G.P H'->(if a.1=true then H' p=some (.lst vs) else SqT M.K B' p vs)->qaC M.K B' a.2 vs->Q (.ref p) H') r:=by cases r<;>exact Iff.rfl
theorem qdr {Q:Bool->Hp->Prop} {r:Rs Bool}:qsd M H0 H B Q r↔Wnt M H0 (λa=> ∀H' B',qa2 H B H' B'->M.G.P H'->Q a H') r:=by cases r<;>exact Iff.rfl
theorem tP.of {Q:VK} {d:Ro->Rs T} (ev:Ev M H0 B0 ρ σ H B) (h:Wnt M H0 (λa=> ∀v H' B',qa2 H B H' B'->M.G.P H'->Rep M.K B' a v->Q v H') (d ρ)):tP M d σ H Q:=⟨H0,B0,ρ,B,ev,qaM.mpr h⟩
theorem tPA.of {Q:List V->Hp->Prop} {d:Ro->Rs (List T)} (ev:Ev M H0 B0 ρ σ H B) (h:Wnt M H0 (λa=> ∀v H' B',qa2 H B H' B'->M.G.P H'->qaC M.K B' a v->Q v H') (d ρ)):tPA M d σ H Q:=⟨H0,B0,ρ,B,ev,qhW.mpr h⟩
theorem tF.of {Q:VK} {d:Ro->Rs (List T)} (ev:Ev M H0 B0 ρ σ H B) (h:Wnt M H0 (λa=> ∀p vs H' B',qa2 H B H' B'->M.G.P H'->H p=none->B' p=none->H' p=some (.lst vs)->qaC M.K B' a vs->Q (.ref p) H') (d ρ)):tF M d σ H Q:=⟨H0,B0,ρ,B,ev,qbF.mpr h⟩
theorem tQ.of {Q:VK} {d:Ro->Rs (Bool×List T)} (ev:Ev M H0 B0 ρ σ H B) (h:Wnt M H0 (λa=> ∀p vs H' B',qa2 H B H' B'->M.G.P H'->(if a.1=true then H' p=some (.lst vs) else SqT M.K B' p vs)->qaC M.K B' a.2 vs->Q (.ref p) H') (d ρ)):tQ M d σ H Q:=⟨H0,B0,ρ,B,ev,qds.mpr h⟩
theorem tPT.of {Q:Bool->Hp->Prop} {d:Ro->Rs Bool} (ev:Ev M H0 B0 ρ σ H B) (h:Wnt M H0 (λa=> ∀H' B',qa2 H B H' B'->M.G.P H'->Q a H') (d ρ)):tPT M d σ H Q:=⟨H0,B0,ρ,B,ev,qdr.mpr h⟩
end
def dV (i:Nat):Ro->Rs T:=λρ=>match ρ[i]? with | some (.fz t)=>.ok t | _=>.no
def dC (t:T):Ro->Rs T:=λ_=>.ok t
section
variable {M:Md} {X:Cx} {e a b c:Expr} {es:List Expr} {pos:Pos} {da db dc:Ro->Rs T} {ds:Ro->Rs (List T)}
theorem qaa {i:Nat} (h:PE X e (qiN i)):DE M X e (dV i):=by
 refine PE.weak h λσ H Q hq112=> ?_
 obtain ⟨H0,B0,ρ,B,ev,w⟩:=hq112
 have w:=qaM.mp w
 unfold dV at w
 split at w
 ·rename_i t e1
  obtain ⟨x,e2,r⟩:=ev.get e1
  exact ⟨x,e2,w x H B (.refl ev.bh ev.bt) ev.gm r⟩
 ·exact w.elim
theorem qcj {v:V} {t:T} (h:PE X e (tC v)) (r: ∀B,Rep M.K B t v):DE M X e (dC t):=
 PE.weak h λσ H Q ⟨H0,B0,ρ,B,ev,w⟩=>w v H B (.refl ev.bh ev.bt) ev.gm (r B)
theorem qah {i j pos}:DE M X (.Constant (.int i) j pos) (dC (.int i)):=qcj qc2 λB=>by unfold Rep; rfl
theorem qes {i j pos}:DE M X (.Constant (.bool i) j pos) (dC (.bl i)):=qcj qmY λB=>by unfold Rep; rfl
theorem qhY {j pos}:DE M X (.Constant .none j pos) (dC .non):=qcj qoJ λB=>by unfold Rep; rfl
theorem qaE {i j pos}:DE M X (.Constant (.str i) j pos) (dC (.str i)):=qcj qcm λB=>by unfold Rep; rfl
def RS (M:Md) (r:R2) (g:T->T->Rs T):Prop:=
 ∀(H B:Hp) (x y:V) (a b c:T) (Q:VK),Le B H->(∀p ps,B p≠some (.tbl ps))->M.G.P H->Rep M.K B a x->Rep M.K B b y->g a b= .ok c->
  (∀v H' B',qa2 H B H' B'->M.G.P H'->Rep M.K B' c v->Q v H')->r x y H Q
def Pl (g:T->T->Rs T):Prop:= ∀a b c,g a b≠.ex c
def dB (g:T->T->Rs T) (da db:Ro->Rs T):Ro->Rs T:=λρ=>da ρ>>=λx=>db ρ>>=λy=>g x y
theorem qfo {r:R2} {g:T->T->Rs T} (hr:RS M r g) (hp:Pl g) {σ:St} {H:Hp} {Q:VK} (h:tP M (dB g da db) σ H Q):tOp r (tP M da) (tP M db) σ H Q:=by
 obtain ⟨H0,B0,ρ,B,ev,w⟩:=h
 refine tP.of ev (Wnt.mono (Wnt.bind (qaM.mp w)) λx w1 v H1 B1 g1 m1 r1=> ?_)
 refine tP.of (ev.grow g1 m1) (Wnt.mono (Wnt.bind w1) λy w2 u H2 B2 g2 m2 r2=> ?_)
 cases e:g x y with
 | no=>rw[e] at w2; exact w2.elim
 | ex c=>exact absurd e (hp x y c)
 | ok z=>
  rw[e] at w2
  have ev2:=(ev.grow g1 m1).grow g2 m2
  exact hr H2 B2 v u x y z Q ev2.bh ev2.bt m2 (r1.mono g2.bb) r2 e λv' H' B' g' m' r'=>w2 v' H' B' ((g1.trans g2).trans g') m' r'
theorem qb3 {op:Operator} {r:R2} {g:T->T->Rs T} (ho:OpR X (binaryOp op) r) (hr:RS M r g) (hp:Pl g) (ha:DE M X a da) (hb:DE M X b db):DE M X (.BinOp a op b pos) (dB g da db):=
 PE.weak (qcx ho ha hb) λ_ _ _ h=>qfo hr hp h
theorem qkg {op:CmpOp} {r:R2} {g:T->T->Rs T} (ho:OpR X (compareOp op) r) (hr:RS M r g) (hp:Pl g) (ha:DE M X a da) (hb:DE M X b db) (hm:behindInMarks op b=false:=by first | exact qdZ _ (by decide) (by decide) | rfl):DE M X (.Compare a [op] [b] pos) (dB g da db):=
 PE.weak (qmX ho ha hb hm) λ_ _ _ h=>qfo hr hp h
theorem qbH {r:R2} {g:T->T->Rs T} (ho:IxR X r) (hr:RS M r g) (hp:Pl g) (ha:DE M X a da) (hb:DE M X b db) (hs:qhl b):DE M X (.Subscript a b pos) (dB g da db):=
 PE.weak (qjl ho ha hb hs) λ_ _ _ h=>qfo hr hp h
def qam:Ro->Rs (List T):=λ_=>.ok []
def qac (da:Ro->Rs T) (ds:Ro->Rs (List T)):Ro->Rs (List T):=λρ=>da ρ>>=λx=>ds ρ>>=λxs=>.ok (x::xs)
theorem qaf:DA M X [] qam:=PA.weak qar λσ H Q ⟨H0,B0,ρ,B,ev,w⟩=>w [] H B (.refl ev.bh ev.bt) ev.gm .nil
theorem qab (ha:DE M X e da) (hs:DA M X es ds) (hst:starEach (e::es) X.env=(false,eval e X.env)::starEach es X.env:=by rfl):DA M X (e::es) (qac da ds):=by
 refine PA.weak (qag ha hs hst) λσ H Q hq159=> ?_
 obtain ⟨H0,B0,ρ,B,ev,w⟩:=hq159
 refine tP.of ev (Wnt.mono (Wnt.bind (qhW.mp w)) λx w1 v H1 B1 g1 m1 r1=> ?_)
 refine tPA.of (ev.grow g1 m1) (Wnt.mono (Wnt.bind w1) λy w2 u H2 B2 g2 m2 r2=> ?_)
 exact w2 (v::u) H2 B2 (g1.trans g2) m2 (.cons (r1.mono g2.bb) r2)
def qa9 (ds:Ro->Rs (List T)):Ro->Rs T:=λρ=>ds ρ>>=λxs=>if xs.length<=1000 then .ok (.tup xs) else .no
theorem qaV {x1} (hs:DA M X es ds):DE M X (.Tuple es x1 pos) (qa9 ds):=by
 refine PE.weak (qoG hs) λσ H Q hq165=> ?_
 obtain ⟨H0,B0,ρ,B,ev,w⟩:=hq165
 refine tPA.of ev (Wnt.mono (Wnt.bind (qaM.mp w)) λxs w1 vs H1 B1 g1 m1 r1=> ?_)
 have ev1:=ev.grow g1 m1
 split at w1
 ·rename_i hl
  refine ⟨Nat.le_of_lt (qbs (by rw[r1.length]; exact hl)),λp hp=> ?_⟩
  obtain ⟨g2,m2⟩:=ev1.new (o:=.tup vs) hp (by intro ps z; cases z)
  refine w1 (.ref p) _ _ (g1.trans g2) m2 ?_
  unfold Rep
  exact ⟨p,vs,rfl,qak,r1.mono g2.bb⟩
 ·exact w1.elim
def qbc (ds:Ro->Rs (List T)):Ro->Rs (List T):=λρ=>ds ρ>>=λxs=>if xs.length<=1000 then .ok xs else .no
theorem qa8 (hs:DA M X es ds):DF M X (.List es pos) (qbc ds):=by
 refine PE.weak (qeP hs) λσ H Q hq178=> ?_
 obtain ⟨H0,B0,ρ,B,ev,w⟩:=hq178
 refine tPA.of ev (Wnt.mono (Wnt.bind (qbF.mp w)) λxs w1 vs H1 B1 g1 m1 r1=> ?_)
 have ev1:=ev.grow g1 m1
 split at w1
 ·rename_i hl
  refine ⟨Nat.le_of_lt (qbs (by rw[r1.length]; exact hl)),λp hp=> ?_⟩
  obtain ⟨g2,m2⟩:=ev1.nown (o:=.lst vs) hp
  have bp:B1 p=none:=by
   cases q:B1 p with
   | none=>rfl
   | some u=>rw[ev1.bh _ _ q] at hp; cases hp
  exact w1 p vs _ _ (g1.trans g2) m2 (qbD g1.gx hp) bp qak r1
 ·exact w1.elim
def dFz (ds:Ro->Rs (List T)):Ro->Rs T:=λρ=>ds ρ>>=λxs=>.ok (.lst xs)
theorem qa2.freeze {H B H' B':Hp} {p:Addr} {vs:List V} (g:qa2 H B H' B') (h:H p=none) (hb:B' p=none) (hp:H' p=some (.lst vs)):qa2 H B H' (upd B' p (.lst vs))/\Le B' (upd B' p (.lst vs)):=by
 have le:Le B' (upd B' p (.lst vs)):=λa o z=>by rw[qae (qao z hb)]; exact z
 refine ⟨⟨g.gx,g.bb.trans le,λa o z=> ?_,λa ps z=> ?_,λa o z n1 n2=> ?_⟩,le⟩
 ·by_cases q:a=p
  ·subst q; rw[qak] at z; cases z; exact hp
  ·rw[qae q] at z; exact g.bh a o z
 ·by_cases q:a=p
  ·subst q; rw[qak] at z; cases z
  ·rw[qae q] at z; exact g.bt a ps z
 ·rw[qae (λq=>by rw[q,h] at z; cases z)]; exact g.nw a o z n1 n2
theorem qat {e:Expr} (h:DF M X e ds):DE M X e (dFz ds):=by
 refine PE.weak h λσ H Q hq204=> ?_
 obtain ⟨H0,B0,ρ,B,ev,w⟩:=hq204
 refine tF.of ev (Wnt.mono (Wnt.bind (qaM.mp w)) λxs w1 p vs H1 B1 g1 m1 hp hb hl r1=> ?_)
 obtain ⟨g2,le⟩:=g1.freeze hp hb hl
 refine w1 (.ref p) H1 _ g2 m1 ?_
 unfold Rep
 exact ⟨p,vs,rfl,qak,r1.mono le⟩
def qkU:T->Rs (Bool×List T)
 | .lst ts=>.ok (true,ts)
 | .tup ts=>.ok (false,ts)
 | _=>.no
def dQ (da:Ro->Rs T):Ro->Rs (Bool×List T):=λρ=>da ρ>>=qkU
theorem qpk (ha:DE M X e da):DQ M X e (dQ da):=by
 refine PE.weak ha λσ H Q hq217=> ?_
 obtain ⟨H0,B0,ρ,B,ev,w⟩:=hq217
 refine tP.of ev (Wnt.mono (Wnt.bind (qds.mp w)) λx w1 v H1 B1 g1 m1 r1=> ?_)
 cases x with
 | lst ts=>
  unfold Rep at r1
  obtain ⟨p,vs,rfl,hp,r⟩:=r1
  exact w1 p vs H1 B1 g1 m1 (by rw[if_pos rfl]; exact g1.bh _ _ hp) r
 | tup ts=>
  unfold Rep at r1
  obtain ⟨p,vs,rfl,hp,r⟩:=r1
  exact w1 p vs H1 B1 g1 m1 (by rw[if_neg (by intro z; cases z)]; exact (SqT.of hp)) r
 | _=>exact w1.elim
def dQF (ds:Ro->Rs (List T)):Ro->Rs (Bool×List T):=λρ=>ds ρ>>=λts=>.ok (true,ts)
theorem qa1 (h:DF M X e ds):DQ M X e (dQF ds):=by
 refine PE.weak h λσ H Q hq231=> ?_
 obtain ⟨H0,B0,ρ,B,ev,w⟩:=hq231
 exact tF.of ev (Wnt.mono (Wnt.bind (qds.mp w)) λxs w1 p vs H1 B1 g1 m1 hp hb hl r1=>w1 p vs H1 B1 g1 m1 (by rw[if_pos rfl]; exact hl) r1)
def dQV (i:Nat):Ro->Rs (Bool×List T):=λρ=>match ρ[i]? with | some (.fz t)=>qkU t | some (.ow ts)=>.ok (true,ts) | _=>.no
theorem qbt {i:Nat} (h:PE X e (qiN i)):DQ M X e (dQV i):=by
 refine PE.weak h λσ H Q hq236=> ?_
 obtain ⟨H0,B0,ρ,B,ev,w⟩:=hq236
 have w:=qds.mp w
 unfold dQV at w
 split at w
 ·rename_i t e1
  obtain ⟨x,e2,r⟩:=ev.get e1
  refine ⟨x,e2,?_⟩
  cases t with
  | lst ts=>
   unfold Rep at r
   obtain ⟨p,vs,rfl,hp,r⟩:=r
   exact w p vs H B (.refl ev.bh ev.bt) ev.gm (by rw[if_pos rfl]; exact ev.bh _ _ hp) r
  | tup ts=>
   unfold Rep at r
   obtain ⟨p,vs,rfl,hp,r⟩:=r
   exact w p vs H B (.refl ev.bh ev.bt) ev.gm (by rw[if_neg (by intro z; cases z)]; exact (SqT.of hp)) r
  | _=>exact w.elim
 ·rename_i ts e1
  obtain ⟨p,vs,e2,h0,hb,hp,r⟩:=ev.getOw e1
  exact ⟨.ref p,e2,w p vs H B (.refl ev.bh ev.bt) ev.gm (by rw[if_pos rfl]; exact hp) r⟩
 ·exact w.elim
end
end PL
end
section
namespace PL
open PySem L2
inductive Out where
 | nx (ρ:Ro) | rt (t:T) | bk (ρ:Ro) | ct (ρ:Ro) | rs (s:Sl) (ρ:Ro)
def qnJ (M:Md) (H0 B0 B:Hp) (D:qkJ):Out->Prop
 | .nx ρ=> ∀σ' H' B',Ev M H0 B0 ρ σ' H' B'->Le B B'->D.nx σ' H'
 | .bk ρ=> ∀σ' H' B',Ev M H0 B0 ρ σ' H' B'->Le B B'->D.bk σ' H'
 | .ct ρ=> ∀σ' H' B',Ev M H0 B0 ρ σ' H' B'->Le B B'->D.ct σ' H'
 | .rt t=> ∀v H' B',qa2 H0 B0 H' B'->M.G.P H'->Rep M.K B' t v->D.rt v H'
 | .rs s ρ=> ∀v σ' H' B',Ev M H0 B0 (s::ρ) (some v::σ') H' B'->Le B B'->D.rt v H'
theorem qnJ.mono {M:Md} {H0 B0 B B1:Hp} {D:qkJ} {o:Out} (h:qnJ M H0 B0 B D o) (le:Le B B1):qnJ M H0 B0 B1 D o:=by
 cases o with
 | nx ρ=>exact λσ' H' B' e l=>h σ' H' B' e (le.trans l)
 | bk ρ=>exact λσ' H' B' e l=>h σ' H' B' e (le.trans l)
 | ct ρ=>exact λσ' H' B' e l=>h σ' H' B' e (le.trans l)
 | rt t=>exact h
 | rs t ρ=>exact λv σ' H' B' e l=>h v σ' H' B' e (le.trans l)
def tS (M:Md) (d:Ro->Rs Out):TS:=λD σ H=> ∃H0 B0 ρ B,Ev M H0 B0 ρ σ H B/\Wnt M H0 (qnJ M H0 B0 B D) (d ρ)
abbrev DS (M:Md) (X:Cx) (st:Stmt) (d:Ro->Rs Out):Prop:=PS X st (tS M d)
abbrev DSs (M:Md) (X:Cx) (st:List Stmt) (d:Ro->Rs Out):Prop:=PSs X st (tS M d)
def qaW:Ro->Rs Out:=λρ=>.ok (.nx ρ)
def qb0 (o:Out) (e:Ro->Rs Out):Rs Out:=match o with | .nx ρ=>e ρ | o=>.ok o
def qaA (d e:Ro->Rs Out):Ro->Rs Out:=λρ=>d ρ>>=λo=>qb0 o e
def qby (da:Ro->Rs T):Ro->Rs Out:=λρ=>da ρ>>=λt=>.ok (.rt t)
def qcw (i:Nat) (da:Ro->Rs T):Ro->Rs Out:=λρ=>da ρ>>=λt=>.ok (.nx (ρ.set i (.fz t)))
def qbd (i:Nat) (ds:Ro->Rs (List T)):Ro->Rs Out:=λρ=>ds ρ>>=λts=>.ok (.nx (ρ.set i (.ow ts)))
def qaY (da:Ro->Rs T):Ro->Rs Out:=λρ=>da ρ>>=λ_=>.ok (.nx ρ)
def dIf (dt:Ro->Rs Bool) (d e:Ro->Rs Out):Ro->Rs Out:=λρ=>dt ρ>>=λc=>if c=true then d ρ else e ρ
def qaT (ρ:Ro) (i:Nat) (us:List T):Rs Out:=match ρ[i]? with
 | some (.ow ts)=>if ts.length+us.length<=1000 then .ok (.nx (ρ.set i (.ow (ts++us)))) else .no
 | _=>.no
def qdj (ρ:Ro) (i:Nat):Rs Unit:=match ρ[i]? with | some (.ow _)=>.ok () | _=>.no
def qck (i:Nat) (da:Ro->Rs T):Ro->Rs Out:=λρ=>qdj ρ i>>=λ_=>da ρ>>=λt=>qaT ρ i [t]
def qdM (i:Nat) (dq:Ro->Rs (Bool×List T)):Ro->Rs Out:=λρ=>qdj ρ i>>=λ_=>dq ρ>>=λq=>if q.1=true then qaT ρ i q.2 else .no
def putAt (ρ:Ro) (i:Nat) (k:T) (t:T):Rs Out:=match ρ[i]?,k with
 | some (.ow ts),.int k=>(match ixN ts.length k with | some j=>.ok (.nx (ρ.set i (.ow (ts.set j t)))) | none=>.no)
 | _,_=>.no
def qmo (i:Nat) (dk da:Ro->Rs T):Ro->Rs Out:=λρ=>qdj ρ i>>=λ_=>da ρ>>=λt=>dk ρ>>=λk=>putAt ρ i k t
def frz (i:Nat) (ρ:Ro):Ro:=match ρ[i]? with | some (.ow ts)=>ρ.set i (.fz (.lst ts)) | _=>ρ
section
variable {M:Md} {X:Cx} {e a b c:Expr} {st:Stmt} {qcT sts sts':List Stmt} {pos:Pos} {da db dk:Ro->Rs T} {ds:Ro->Rs (List T)} {d d':Ro->Rs Out} {dt:Ro->Rs Bool} {dq:Ro->Rs (Bool×List T)} {x:Str} {pos':Pos} {i:Nat}
theorem qbO:DSs M X [] qaW:=PSs.weak qfk λD σ H ⟨H0,B0,ρ,B,ev,w⟩=>w σ H B ev (.refl _)
theorem qaj (h:DS M X st d) (h':DSs M X qcT d'):DSs M X (st::qcT) (qaA d d'):=by
 refine PSs.weak (qbY h h') λD σ H hq48=> ?_
 obtain ⟨H0,B0,ρ,B,ev,w⟩:=hq48
 refine ⟨H0,B0,ρ,B,ev,Wnt.mono (Wnt.bind w) λo w1=> ?_⟩
 cases o with
 | nx ρ'=>exact λσ' H' B' ev' le=>⟨H0,B0,ρ',B',ev',Wnt.mono w1 λo q=>q.mono le⟩
 | bk ρ'=>exact w1
 | ct ρ'=>exact w1
 | rs t ρ'=>exact w1
 | rt t=>exact w1
theorem qan (h:DS M X st d):DSs M X [st] d:=qci h
theorem qaJ (h:DE M X e da):DS M X (.Return (some e) pos) (qby da):=by
 refine PS.weak (qdi h) λD σ H hq59=> ?_
 obtain ⟨H0,B0,ρ,B,ev,w⟩:=hq59
 exact tP.of ev (Wnt.mono (Wnt.bind w) λt w1 v H' B' g m r=>w1 v H' B' (ev.gr.trans g) m r)
theorem qa5 (h:DE M X e da) (hs:swapsWith e none pos.line X.env=pure false:=by rfl):DS M X (.Expr e pos) (qaY da):=by
 refine PS.weak (qgL h hs) λD σ H hq68=> ?_
 obtain ⟨H0,B0,ρ,B,ev,w⟩:=hq68
 exact tP.of ev (Wnt.mono (Wnt.bind w) λt w1 v H' B' g m r=>w1 σ H' B' (ev.grow g m) g.bb)
theorem qdt (hc:DT M X c dt) (h:DSs M X sts d) (h':DSs M X sts' d'):DS M X (.If c sts sts' pos) (dIf dt d d'):=by
 refine PS.weak (qk3 hc h h') λD σ H hq71=> ?_
 obtain ⟨H0,B0,ρ,B,ev,w⟩:=hq71
 refine tPT.of ev (Wnt.mono (Wnt.bind w) λt w1 H' B' g m=> ?_)
 cases t with
 | true=>exact ⟨H0,B0,ρ,B',ev.grow g m,Wnt.mono w1 λo q=>q.mono g.bb⟩
 | false=>exact ⟨H0,B0,ρ,B',ev.grow g m,Wnt.mono w1 λo q=>q.mono g.bb⟩
theorem qep (hN:X.N.Nodup) (hi:X.N[i]? =some x) (hx:Loc X.env.scope x) (h:DE M X e da) (hs:swapsWith e (some (.Name x pos')) pos.line X.env=pure false:=by rfl) (hf:X.fn x=true\/X.env.scope.names.lookup x=some .local:=by first | exact .inl rfl | exact .inr rfl | assumption):
  DS M X (.Assign [.Name x pos'] e pos) (qcw i da):=by
 refine PS.weak (qdH hN hi hx h hs hf) λD σ H hq78=> ?_
 obtain ⟨H0,B0,ρ,B,ev,w⟩:=hq78
 exact tP.of ev (Wnt.mono (Wnt.bind w) λt w1 v H' B' g m r=>w1 _ H' B' ((ev.grow g m).set r) g.bb)
theorem Ev.newOwn {M:Md} {H0 B0 H B H' B':Hp} {ρ:Ro} {σ:St} {p:Addr} {vs:List V} {ts:List T} (i:Nat) (ev:Ev M H0 B0 ρ σ H B) (g:qa2 H B H' B') (m:M.G.P H') (hp:H p=none) (hb:B' p=none) (hl:H' p=some (.lst vs)) (r:qaC M.K B' ts vs):
  Ev M H0 B0 (ρ.set i (.ow ts)) (σ.set i (some (.ref p))) H' B':=by
 refine (ev.grow g m).setOw (qbD ev.gr.gx hp) hb hl r λj s hj e o z=> ?_
 have q:=ev.sl j s e
 cases s with
 | no=>cases o
 | fz t=>cases o
 | ow ts'=>
  obtain ⟨p',vs',a1,a2,a3,a4,a5⟩:=q
  rw[a1] at z; cases z
  rw[a4] at hp; cases hp
 | od ts'=>
  obtain ⟨p',vs',a1,a2,a3,a4,a5⟩:=q
  rw[a1] at z; cases z
  rw[a4] at hp; cases hp
 | ou ts'=>
  obtain ⟨p',vs',a1,a2,a3,a4,a5⟩:=q
  rw[a1] at z; cases z
  rw[a4] at hp; cases hp
 | pd ts'=>
  obtain ⟨p',vs',a0,a1,a2,a3,a4,a5⟩:=q
  rw[a1] at z; cases z
  rw[a4] at hp; cases hp
 | pu ts'=>
  obtain ⟨p',vs',a0,a1,a2,a3,a4,a5⟩:=q
  rw[a1] at z; cases z
  rw[a4] at hp; cases hp
theorem qdE (hN:X.N.Nodup) (hi:X.N[i]? =some x) (hx:Loc X.env.scope x) (h:DF M X e ds) (hs:swapsWith e (some (.Name x pos')) pos.line X.env=pure false:=by rfl) (hf:X.fn x=true\/X.env.scope.names.lookup x=some .local:=by first | exact .inl rfl | exact .inr rfl | assumption):
  DS M X (.Assign [.Name x pos'] e pos) (qbd i ds):=by
 refine PS.weak (qdH hN hi hx h hs hf) λD σ H hq97=> ?_
 obtain ⟨H0,B0,ρ,B,ev,w⟩:=hq97
 exact tF.of ev (Wnt.mono (Wnt.bind w) λt w1 p vs H' B' g m hp hb hl r=>w1 _ H' B' (ev.newOwn i g m hp hb hl r) g.bb)
theorem qjb {M:Md} {H0 B0 H B:Hp} {ρ:Ro} {σ:St} {us:List T} {ws:List V} {Bs:Hp} {D:qkJ} (ev:Ev M H0 B0 ρ σ H B) (r:qaC M.K B us ws) (w:Wnt M H0 (qnJ M H0 B0 Bs D) (qaT ρ i us)) (le:Le Bs B):
  ∃p vs,σ[i]? =some (some (.ref p))/\H p=some (.lst vs)/\B p=none/\vs.length+ws.length<sizeLine/\D.nx σ (upd H p (.lst (vs++ws))):=by
 unfold qaT at w
 split at w
 ·rename_i ts e1
  split at w
  ·rename_i hl
   obtain ⟨p,vs,e2,h0,hb,hp,rv⟩:=ev.getOw e1
   refine ⟨p,vs,e2,hp,hb,qbs (by rw[rv.length,r.length]; exact hl),w σ _ B (ev.putOw e1 e2 (rv.append r)) le⟩
  ·exact w.elim
 ·exact w.elim
theorem qjn {M:Md} {H0:Hp} {ρ:Ro} {α:Type} {k:α->Prop} {f:Unit->Rs α} (w:Wnt M H0 k (qdj ρ i>>=f)): ∃ts,ρ[i]? =some (.ow ts)/\Wnt M H0 k (f ()):=by
 unfold qdj at w
 split at w
 ·rename_i ts e1; exact ⟨ts,e1,w⟩
 ·exact w.elim
theorem qa4 {m:Expr} (h:PE X m (tBM X.K "list" qja (qiN i) (qc8 (tP M da) qhq))) (hs:swapsWith m none pos.line X.env=pure false:=by rfl):DS M X (.Expr m pos) (qck i da):=by
 refine PS.weak (qgL h hs) λD σ H hq116=> ?_
 obtain ⟨H0,B0,ρ,B,ev,w⟩:=hq116
 obtain ⟨ts,e1,w⟩:=qjn w
 obtain ⟨p,vs,e2,h0,hb,hp,rv⟩:=ev.getOw e1
 refine ⟨.ref p,e2,.inl ⟨rfl,_,SqL.of hp⟩,?_⟩
 refine tP.of ev (Wnt.mono (Wnt.bind w) λt w1 v H' B' g m r=> ?_)
 obtain ⟨p',vs',q1,q2,q3,q4,q5⟩:=qjb (Bs:=B) (ev.grow g m) (.cons r .nil) w1 g.bb
 rw[e2] at q1; cases q1
 exact ⟨p,vs',v,rfl,rfl,q2,by simpa using Nat.lt_of_succ_lt q4,q5⟩
theorem qgi {m:Expr} (h:PE X m (tBM X.K "list" qi9 (qiN i) (qc8 (tQ M dq) qhq))) (hs:swapsWith m none pos.line X.env=pure false:=by rfl):DS M X (.Expr m pos) (qdM i dq):=by
 refine PS.weak (qgL h hs) λD σ H hq125=> ?_
 obtain ⟨H0,B0,ρ,B,ev,w⟩:=hq125
 obtain ⟨ts,e1,w⟩:=qjn w
 obtain ⟨p,vs,e2,h0,hb,hp,rv⟩:=ev.getOw e1
 refine ⟨.ref p,e2,.inl ⟨rfl,_,SqL.of hp⟩,?_⟩
 refine tQ.of ev (Wnt.mono (Wnt.bind w) λt w1 b us H' B' g m hq r=> ?_)
 split at w1
 ·rename_i hc
  rw[if_pos hc] at hq
  obtain ⟨p',vs',q1,q2,q3,q4,q5⟩:=qjb (Bs:=B) (ev.grow g m) r w1 g.bb
  rw[e2] at q1; cases q1
  exact ⟨p,b,vs',us,rfl,rfl,q2,hq,Nat.le_of_lt q4,q5⟩
 ·exact w1.elim
theorem qj6 {o k:Expr} {ppos tpos:Pos} (ho:PE X o (qiN i)) (hk:DE M X k dk) (h:DE M X e da) (hg:PG X (.Subscript o k tpos) (gSub (qiN i) (tP M dk) qos))
  (hs:swapsWithSole [.Subscript o k tpos] e pos.line X.env=pure false:=by rfl) (hw:swappedStores [.Subscript o k tpos] e X.env=pure none:=by rfl)
  (h1:(assignEach [.Subscript o k tpos] X.env).map (·.2)=[assign (.Subscript o k tpos) X.env]:=by rfl):DS M X (.Assign [.Subscript o k tpos] e pos) (qmo i dk da):=by
 refine PS.weak (ql7 h hg hs hw h1) λD σ H hq140=> ?_
 obtain ⟨H0,B0,ρ,B,ev,w⟩:=hq140
 obtain ⟨ts,e1,w⟩:=qjn w
 refine tP.of ev (Wnt.mono (Wnt.bind w) λt w1 v H1 B1 g1 m1 r1=> ?_)
 have ev1:=ev.grow g1 m1
 obtain ⟨p,vs,e2,h0,hb,hp,rv⟩:=ev1.getOw e1
 refine ⟨.ref p,e2,?_⟩
 refine tP.of ev1 (Wnt.mono (Wnt.bind w1) λkt w2 u H2 B2 g2 m2 r2=> ?_)
 have ev2:=ev1.grow g2 m2
 unfold putAt at w2
 split at w2
 ·rename_i ts' k' e3
  rw[e1] at e3; cases e3
  split at w2
  ·rename_i j hj
   obtain ⟨p',vs',e2',h0',hb',hp',rv'⟩:=ev2.getOw e1
   rw[e2] at e2'; cases e2'
   have hu:u= .int k':=by unfold Rep at r2; exact r2
   subst hu
   exact ⟨p,vs',k',j,rfl,rfl,hp',by rw[rv'.length]; exact hj,w2 σ _ B2 (ev2.putOw e1 e2 (rv'.set j (r1.mono g2.bb))) (g1.bb.trans g2.bb)⟩
  ·exact w2.elim
 ·exact w2.elim
theorem Ev.frz {M:Md} {H0 B0 H B:Hp} {ρ:Ro} {σ:St} (i:Nat) (ev:Ev M H0 B0 ρ σ H B): ∃B',Le B B'/\Ev M H0 B0 (frz i ρ) σ H B':=by
 unfold PL.frz
 split
 ·rename_i ts e1; exact ev.freeze e1
 ·exact ⟨B,.refl _,ev⟩
theorem qmk (i:Nat) (h:DS M X st d):DS M X st (λρ=>d (frz i ρ)):=by
 refine PS.weak h λD σ H hq167=> ?_
 obtain ⟨H0,B0,ρ,B,ev,w⟩:=hq167
 obtain ⟨B',le,ev'⟩:=ev.frz i
 exact ⟨H0,B0,_,B',ev',Wnt.mono w λo q=>q.mono le⟩
end
def tG (M:Md) (dg:T->Ro->Rs Ro):TG:=λv σ H Q=> ∃H0 B0 ρ B t,Ev M H0 B0 ρ σ H B/\Rep M.K B t v/\Wnt M H0 (λρ'=> ∀σ',Ev M H0 B0 ρ' σ' H B->Q σ' H) (dg t ρ)
def tGs (M:Md) (dg:List T->Ro->Rs Ro):TGs:=λv σ H Q=> ∃H0 B0 ρ B t,Ev M H0 B0 ρ σ H B/\qaC M.K B t v/\Wnt M H0 (λρ'=> ∀σ',Ev M H0 B0 ρ' σ' H B->Q σ' H) (dg t ρ)
abbrev DG (M:Md) (X:Cx) (e:Expr) (dg:T->Ro->Rs Ro):Prop:=PG X e (tG M dg)
abbrev DGs (M:Md) (X:Cx) (e:List Expr) (dg:List T->Ro->Rs Ro):Prop:=PGs X e (tGs M dg)
theorem PG.weak {X:Cx} {e:Expr} {t t':TG} (h:PG X e t) (w: ∀v σ H Q,t' v σ H Q->t v σ H Q):PG X e t':=λpins s σ H v u Q I r q=>h pins s σ H v u Q I r (w v σ H Q q)
theorem PGs.weak {X:Cx} {e:List Expr} {t t':TGs} (h:PGs X e t) (w: ∀v σ H Q,t' v σ H Q->t v σ H Q):PGs X e t':=λpins s σ H v u Q I r q=>h pins s σ H v u Q I r (w v σ H Q q)
def gN (i:Nat):T->Ro->Rs Ro:=λt ρ=>.ok (ρ.set i (.fz t))
def gsN:List T->Ro->Rs Ro:=λts ρ=>match ts with | []=>.ok ρ | _=>.no
def gsC (dg:T->Ro->Rs Ro) (dr:List T->Ro->Rs Ro):List T->Ro->Rs Ro:=λts ρ=>match ts with | t::r=>dg t ρ>>=dr r | []=>.no
def gT (n:Nat) (dr:List T->Ro->Rs Ro):T->Ro->Rs Ro:=λt ρ=>match t with | .tup ts=>if ts.length=n then dr ts ρ else .no | _=>.no
section
variable {M:Md} {X:Cx} {e:Expr} {es:List Expr} {pos:Pos} {i:Nat} {x:Str} {dg:T->Ro->Rs Ro} {dr:List T->Ro->Rs Ro}
theorem qbV {i:Nat} (h:PG X e (qnn i)):DG M X e (gN i):=PG.weak h λv σ H Q ⟨H0,B0,ρ,B,t,ev,r,w⟩=>w _ (ev.set r)
theorem qeq:DGs M X [] gsN:=PGs.weak qmT λv σ H Q ⟨H0,B0,ρ,B,t,ev,r,w⟩=>by
 cases t with
 | nil=>exact ⟨r.inv0,w σ ev⟩
 | cons _ _=>exact w.elim
theorem qbG (h1:DG M X e dg) (h2:DGs M X es dr) (hs:(assignEach (e::es) X.env).map (·.2)=assign e X.env::(assignEach es X.env).map (·.2):=by rfl):DGs M X (e::es) (gsC dg dr):=by
 refine PGs.weak (qk6 h1 h2 hs) λv σ H Q hq194=> ?_
 obtain ⟨H0,B0,ρ,B,t,ev,r,w⟩:=hq194
 cases t with
 | nil=>exact w.elim
 | cons t ts=>
  obtain ⟨u,vs,rfl,ra,rb⟩:=r.inv
  exact ⟨u,vs,rfl,H0,B0,ρ,B,t,ev,ra,Wnt.mono (Wnt.bind w) λρ' w1 σ' ev'=>⟨H0,B0,ρ',B,ts,ev',rb,w1⟩⟩
theorem qgk {k n:Nat} (hc:X.calm=true) (h:DGs M X es dr) (hK:X.K=M.K:=by rfl) (hn:(assignEach es X.env).length=n:=by rfl) (hst:(assignEach es X.env).findIdx? (·.1)=none:=by rfl):DG M X (.Tuple es k pos) (gT n dr):=by
 refine PG.weak (qoF hc h hn hst) λv σ H Q hq201=> ?_
 obtain ⟨H0,B0,ρ,B,t,ev,r,w⟩:=hq201
 cases t with
 | tup ts=>
  unfold gT at w
  dsimp only at w
  split at w
  ·rename_i hl
   unfold Rep at r
   obtain ⟨p,vs,rfl,hp,rs⟩:=r
   exact ⟨p,vs,rfl,by rw[hK]; exact ev.bh.sqT (SqT.of hp),by rw[rs.length]; exact hl,H0,B0,ρ,B,ts,ev,rs,w⟩
  ·exact w.elim
 | _=>exact w.elim
end
def qsa (M:Md) (J:It) (B1:Hp) (ts:List T):Prop:= ∀H' B',Le B1 B'->Le B' H'->(∀a ps,B' a≠some (.tbl ps))->M.G.P H'->∀i:Nat,
 (∀t,ts[i]? =some t->J.go i H'/\∀x H'',J.yld i H' x H''->∃B'',qa2 H' B' H'' B''/\M.G.P H''/\Rep M.K B'' t x)/\(i=ts.length->J.stop i H')
def tI (M:Md) (d:Ro->Rs (List T)):TI:=λσ H R=> ∃H0 B0 ρ B,Ev M H0 B0 ρ σ H B/\Wnt M H0 (λts=> ∀J H1 B1,qa2 H B H1 B1->M.G.P H1->ts.length<=sizeLine->qsa M J B1 ts->R J H1) (d ρ)
abbrev DI (M:Md) (X:Cx) (tg e:Expr) (d:Ro->Rs (List T)):Prop:=PI X tg e (tI M d)
theorem PI.weak {X:Cx} {tg e:Expr} {t t':TI} (h:PI X tg e t) (w: ∀σ H Q,t' σ H Q->t σ H Q):PI X tg e t':=λpins s σ H Q I q=>h pins s σ H Q I (w σ H Q q)
section
variable {M:Md} {X:Cx} {tg e:Expr} {da:Ro->Rs T} {ds:Ro->Rs (List T)}
def qsQ (K:PySem.W.Frag) (tl:TE):TI:=λσ H R=>tl σ H λx H1=> ∃a,x= .ref a/\(((∃xs,SqL K H1 a xs/\(xs.length<=sizeLine->R (Itl K a) H1)))\/(∃xs,SqT K H1 a xs/\(xs.length<=sizeLine->R (Itt K a) H1)))
theorem qoE {l:Expr} {tl:TE} (hl:PE X l tl):PI X tg l (qsQ X.K tl):=by
 intro pins s σ H R I h
 refine thn (hl pins s σ H _ I h) λv s1 hq232=> ?_
 obtain ⟨x,H1,I1,r1,q1⟩:=hq232
 obtain ⟨a,e,q⟩:=q1
 subst e
 cases r1
 rcases q with ⟨xs,hq,q⟩ | ⟨xs,hq,q⟩
 ·obtain ⟨its,rv,p,hz⟩:=I1.list hq
  have q:=q hz
  refine wpAny_pyIter_list p.isList ?_
  refine ⟨s1.heap.objs.size,[s1.heap.objs.size],_,_,H1,rfl,I1.kept (t':=s1.toks) λb o e=>Heap.get?_push_of_some _ e,qiK a _,⟨_,Heap.get?_push_size _ rfl,rfl,rfl⟩,λb hb=> ?_,q⟩
  have e:b=s1.heap.objs.size:=by simpa using hb
  subst e
  exact I1.fpOk (Nat.le_refl _) (I1.hok.fresh (Nat.le_refl _))
 ·obtain ⟨its,rv,p,hz⟩:=I1.tuple hq
  have q:=q hz
  refine wpAny_pyIter_tuple p ?_
  refine ⟨s1.heap.objs.size,[s1.heap.objs.size],_,_,H1,rfl,I1.kept (t':=s1.toks) λb o e=>Heap.get?_push_of_some _ e,qia a _,⟨_,Heap.get?_push_size _ rfl,rfl,rfl⟩,λb hb=> ?_,q⟩
  have e:b=s1.heap.objs.size:=by simpa using hb
  subst e
  exact I1.fpOk (Nat.le_refl _) (I1.hok.fresh (Nat.le_refl _))
end
end PL
end
section
namespace PL
open PySem L2
def qgY:T->Rs (List T)
 | .lst ts=>.ok ts
 | .tup ts=>.ok ts
 | _=>.no
def dI (da:Ro->Rs T):Ro->Rs (List T):=λρ=>da ρ>>=qgY
def qiU:T->Rs (List T)
 | .str z=>if z.length<=1000 then .ok (z.cps.toList.map λc=>.str ⟨#[c]⟩) else .no
 | _=>.no
def dIS (da:Ro->Rs T):Ro->Rs (List T):=λρ=>da ρ>>=qiU
def qsi (lo hi:Int):List T:=(List.range (hi - lo).toNat).map λk=>.int (lo+(k:Nat))
def ql3:List T->Rs (List T)
 | [.int n]=>if n<=1000000/\ -1000000<=n then .ok ((List.range n.toNat).map λk=>.int (k:Nat)) else .no
 | _=>.no
def qor:List T->Rs (List T)
 | [.int m,.int n]=>if (n<=1000000/\ -1000000<=n)/\m<=1000000/\ -1000000<=m then .ok (qsi m n) else .no
 | _=>.no
def qdR (ds:Ro->Rs (List T)):Ro->Rs (List T):=λρ=>ds ρ>>=ql3
def qeC (ds:Ro->Rs (List T)):Ro->Rs (List T):=λρ=>ds ρ>>=qor
def qpG (xs ys:List T):List T:=(xs.zip ys).map λp=>.tup [p.1,p.2]
def qnU:List T->Rs (List T)
 | [.lst xs,.lst ys]=>.ok (qpG xs ys)
 | _=>.no
def dIZ (ds:Ro->Rs (List T)):Ro->Rs (List T):=λρ=>ds ρ>>=qnU
theorem qoW:(1000000:Nat)<=sizeLine:=by decide
open PySem.Spec PyProof.Rows in
theorem qmS {X:Cx} {elts:List Expr} {kk:Nat} {tpos:Pos} {a b:Expr} {ta:TA} {p pos:Pos} (hg:Gl X "zip") (hm:X.mg "zip" =none) (ha:PA X [a,b] ta) (hs:starEach [a,b] X.env=(false,eval a X.env)::starEach [b] X.env:=by rfl) (hpl:(backTo pos (starEach [b] X.env)).any (·.1)=false:=by rfl):
  PI X (.Tuple elts kk tpos) (.Call (.Name "zip" p) [a,b] [] pos) (λσ H R=>ta σ H λvs H1=> ∃l1 l2 xs ys,vs=[.ref l1,.ref l2]/\SqL X.K H1 l1 xs/\SqL X.K H1 l2 ys/\(xs.length<=sizeLine->ys.length<=sizeLine->R (Itz X.K l1 l2) H1)):=by
 intro pins s σ H R I h
 refine wpAny_Call_Name_kw (qcK I hg hm PyProof.Rows.boot_zip ?_)
 refine PyProof.Rows.callWith_type1 (thn (ha pos pins s σ H _ I h) λus s1 ⟨vs,H1,I1,r1,l1,l2,xs,ys,e,h1,h2,q⟩=> ?_) hs hpl
 subst e
 obtain ⟨u1,u2,rfl,ru1,ru2⟩:=qmx r1
 cases ru1; cases ru2
 obtain ⟨its1,rr1,p1,z1⟩:=I1.list h1
 obtain ⟨its2,rr2,p2,z2⟩:=I1.list h2
 have q:=q z1 z2
 obtain ⟨o1,ho1,_⟩:=p1.isList
 obtain ⟨o2,ho2,_⟩:=p2.isList
 have lt1:l1<s1.heap.objs.size:=Heap.lt_size ho1
 have lt2:l2<s1.heap.objs.size:=Heap.lt_size ho2
 refine call_zip_2 p1.isList p2.isList λh' hz hTI hTO hi1 hi2 hsz kp=>wpAny_pyIter_zip hz ?_
 have D:ZipApart (s1.heap.objs.size+4) (s1.heap.objs.size+2) (s1.heap.objs.size+3) s1.heap.objs.size (s1.heap.objs.size+1) l1 l2:=PySem.W.ktu_apart _ _ _ lt1 lt2
 refine ⟨_,_,_,Itz X.K l1 l2,H1,rfl,I1.kept (t':=s1.toks) kp,qkN D,⟨hz,hTI,⟨_,_,hTO⟩,hi1,hi2⟩,λb hb=> ?_,q⟩
 have hle:s1.heap.objs.size<=b:=by
  have hb':b=s1.heap.objs.size+4\/b=s1.heap.objs.size+2\/b=s1.heap.objs.size+3\/b=s1.heap.objs.size\/b=s1.heap.objs.size+1:=by simpa using hb
  rcases hb' with rfl | rfl | rfl | rfl | rfl
  ·exact Nat.le_add_right _ _
  ·exact Nat.le_add_right _ _
  ·exact Nat.le_add_right _ _
  ·exact Nat.le_refl _
  ·exact Nat.le_add_right _ _
 exact I1.fpOk hle (I1.hok.fresh hle)
section
variable {M:Md} {X:Cx} {tg e a b:Expr} {da:Ro->Rs T} {ds:Ro->Rs (List T)}
theorem qcf (h:DE M X e da) (hK:X.K=M.K:=by rfl):DI M X tg e (dI da):=by
 refine PI.weak (qoE h) λσ H R hq63=> ?_
 obtain ⟨H0,B0,ρ,B,ev,w⟩:=hq63
 refine tP.of ev (Wnt.mono (Wnt.bind w) λt w1 v H1 B1 g1 m1 r1=> ?_)
 rw[hK]
 cases t with
 | lst ts=>
  unfold Rep at r1
  obtain ⟨p,vs,rfl,hp,r⟩:=r1
  refine ⟨p,rfl,.inl ⟨vs,SqL.of (g1.bh _ _ hp),λhz=>w1 _ H1 B1 g1 m1 (by rw[<-r.length]; exact hz) λH' B' le bh bt m i=>⟨λt et=> ?_,λhi=> ?_⟩⟩⟩
  ·have q:SqL M.K H' p vs:=SqL.of (bh _ _ (le _ _ hp))
   obtain ⟨x,ex,rx⟩:=r.get et
   refine ⟨⟨vs,x,q,ex⟩,λy H'' ⟨e1,e2⟩=> ?_⟩
   subst e1
   have:=e2 vs q
   rw[ex] at this; cases this
   exact ⟨B',.refl bh bt,m,rx.mono le⟩
  ·exact ⟨vs,SqL.of (bh _ _ (le _ _ hp)),by rw[r.length,hi]; exact Nat.le_refl _⟩
 | tup ts=>
  unfold Rep at r1
  obtain ⟨p,vs,rfl,hp,r⟩:=r1
  have hp:SqT M.K B1 p vs:=SqT.of hp
  refine ⟨p,rfl,.inr ⟨vs,g1.bh.sqT hp,λhz=>w1 _ H1 B1 g1 m1 (by rw[<-r.length]; exact hz) λH' B' le bh bt m i=>⟨λt et=> ?_,λhi=> ?_⟩⟩⟩
  ·have q:SqT M.K H' p vs:=bh.sqT (le.sqT hp)
   obtain ⟨x,ex,rx⟩:=r.get et
   refine ⟨⟨vs,x,q,ex⟩,λy H'' ⟨e1,e2⟩=> ?_⟩
   subst e1
   have:=e2 vs q
   rw[ex] at this; cases this
   exact ⟨B',.refl bh bt,m,rx.mono le⟩
  ·exact ⟨vs,bh.sqT (le.sqT hp),by rw[r.length,hi]; exact Nat.le_refl _⟩
 | _=>exact w1.elim
theorem qpm (h:DE M X e da):DI M X tg e (dIS da):=by
 refine PI.weak (qoD h) λσ H R hq93=> ?_
 obtain ⟨H0,B0,ρ,B,ev,w⟩:=hq93
 refine tP.of ev (Wnt.mono (Wnt.bind w) λt w1 v H1 B1 g1 m1 r1=> ?_)
 cases t with
 | str z=>
  have e1:v= .str z:=by unfold Rep at r1; exact r1
  subst e1
  unfold qiU at w1
  dsimp only at w1
  split at w1
  ·rename_i hz
   refine ⟨z,rfl,w1 _ H1 B1 g1 m1 ?_ λH' B' le bh bt m i=>⟨λt et=> ?_,λhi=> ?_⟩⟩
   ·rw[List.length_map,Array.length_toList]
    exact Nat.le_of_lt (qbs hz)
   ·rw[List.getElem?_map] at et
    cases q:z.cps.toList[i]? with
    | none=>rw[q] at et; cases et
    | some c=>
     rw[q] at et
     cases et
     have hi:=(List.getElem?_eq_some_iff.mp q).1
     refine ⟨show i<z.cps.size by simpa using hi,λy H'' ⟨e1,c',e2,e3⟩=> ?_⟩
     subst e1 e3
     rw[Array.getElem?_toList] at q
     rw[q] at e2; cases e2
     exact ⟨B',.refl bh bt,m,by unfold Rep; rfl⟩
   ·show z.cps.size<=i
    rw[hi,List.length_map,Array.length_toList]
    exact Nat.le_refl _
  ·exact w1.elim
 | _=>exact w1.elim
theorem qh9 {lo:Int} {n:Nat} {B1:Hp}:qsa M (Itr lo n) B1 ((List.range n).map λk=>.int (lo+(k:Nat))):=λH' B' le bh bt m i=>by
 refine ⟨λt et=> ?_,λhi=> ?_⟩
 ·rw[List.getElem?_map] at et
  cases q:(List.range n)[i]? with
  | none=>rw[q] at et; cases et
  | some c=>
   rw[q] at et
   cases et
   have hi:=(List.getElem?_eq_some_iff.mp q).1
   rw[List.length_range] at hi
   rw[List.getElem?_range hi] at q; cases q
   refine ⟨hi,λy H'' ⟨e1,e2⟩=> ?_⟩
   subst e1 e2
   exact ⟨B',.refl bh bt,m,by unfold Rep; rfl⟩
 ·show n<=i
  rw[hi,List.length_map,List.length_range]
  exact Nat.le_refl _
theorem qkb {p pos:Pos} (hg:Gl X "range") (hm:X.mg "range" =none) (ha:DA M X [a] ds) (hs:starEach [a] X.env=[(false,eval a X.env)]:=by rfl):DI M X tg (.Call (.Name "range" p) [a] [] pos) (qdR ds):=by
 refine PI.weak (qji hg hm ha hs) λσ H R hq141=> ?_
 obtain ⟨H0,B0,ρ,B,ev,w⟩:=hq141
 refine tPA.of ev (Wnt.mono (Wnt.bind w) λts w1 vs H1 B1 g1 m1 r1=> ?_)
 unfold ql3 at w1
 split at w1
 ·rename_i n
  obtain ⟨v,r,rfl,a1,b1⟩:=r1.inv
  have e1:v= .int n:=by unfold Rep at a1; exact a1
  have e2:=b1.inv0
  subst e1 e2
  split at w1
  ·rename_i hb
   refine ⟨n,rfl,by lia,by lia,w1 _ H1 B1 g1 m1 ?_ ?_⟩
   ·rw[List.length_map,List.length_range]
    have:=qoW
    lia
   ·have:=qh9 (M:=M) (lo:=0) (n:=n.toNat) (B1:=B1)
    simpa using this
  ·exact w1.elim
 ·exact w1.elim
theorem qka {elts:List Expr} {kk:Nat} {tpos p pos:Pos} (hg:Gl X "zip") (hm:X.mg "zip" =none) (ha:DA M X [a,b] ds) (hK:X.K=M.K:=by rfl) (hs:starEach [a,b] X.env=(false,eval a X.env)::starEach [b] X.env:=by rfl) (hpl:(backTo pos (starEach [b] X.env)).any (·.1)=false:=by rfl):
  DI M X (.Tuple elts kk tpos) (.Call (.Name "zip" p) [a,b] [] pos) (dIZ ds):=by
 refine PI.weak (qmS hg hm ha hs hpl) λσ H R hq184=> ?_
 obtain ⟨H0,B0,ρ,B,ev,w⟩:=hq184
 refine tPA.of ev (Wnt.mono (Wnt.bind w) λts w1 vs H1 B1 g1 m1 r1=> ?_)
 unfold qnU at w1
 split at w1
 ·rename_i xs ys
  obtain ⟨v,r,rfl,a1,b1⟩:=r1.inv
  obtain ⟨v',r',rfl,a2,b2⟩:=b1.inv
  have e2:=b2.inv0
  subst e2
  unfold Rep at a1 a2
  obtain ⟨p1,us,rfl,h1,ra⟩:=a1
  obtain ⟨p2,ws,rfl,h2,rb⟩:=a2
  have l1:=ra.length
  have l2:=rb.length
  refine ⟨p1,p2,us,ws,rfl,SqL.of (g1.bh _ _ h1),SqL.of (g1.bh _ _ h2),λz1 z2=> ?_⟩
  rw[hK]
  refine w1 _ H1 B1 g1 m1 ?_ λH' B' le bh bt m i=>⟨λt et=> ?_,λhi=> ?_⟩
  ·unfold qpG
   rw[List.length_map,List.length_zip]
   lia
  ·have q1:SqL M.K H' p1 us:=SqL.of (bh _ _ (le _ _ h1))
   have q2:SqL M.K H' p2 ws:=SqL.of (bh _ _ (le _ _ h2))
   unfold qpG at et
   rw[List.getElem?_map] at et
   cases q:(xs.zip ys)[i]? with
   | none=>rw[q] at et; cases et
   | some c=>
    rw[q] at et
    cases et
    have hi:=(List.getElem?_eq_some_iff.mp q).1
    rw[List.length_zip] at hi
    obtain ⟨c1,c2⟩:=c
    obtain ⟨qa,qb⟩:=List.getElem?_zip_eq_some.mp q
    obtain ⟨u,eu,ru⟩:=ra.get qa
    obtain ⟨w',ew,rw'⟩:=rb.get qb
    refine ⟨⟨us,ws,q1,q2,by lia,by lia⟩,λy H'' ⟨T',x,y',e1,e2,e3,e4,e5⟩=> ?_⟩
    have z1:=e4 us q1
    have z2:=e5 ws q2
    rw[eu] at z1; cases z1
    rw[ew] at z2; cases z2
    subst e1 e3
    refine ⟨_,qa2.new bh bt e2 (by intro ps z; cases z),M.G.st H' _ (λa o e _ _ _ _=>by rw[qae (qao e e2)]; exact e) m,?_⟩
    have bp:B' T'=none:=by
     cases q:B' T' with
     | none=>rfl
     | some u=>rw[bh _ _ q] at e2; cases e2
    have le2:Le B1 (upd B' T' (.tup [u,w'])):=λa o z=>by rw[qae (qao (le _ _ z) bp)]; exact le _ _ z
    unfold Rep
    exact ⟨T',[u,w'],rfl,qak,.cons (ru.mono le2) (.cons (rw'.mono le2) .nil)⟩
  ·refine ⟨us,ws,SqL.of (bh _ _ (le _ _ h1)),SqL.of (bh _ _ (le _ _ h2)),?_⟩
   rw[hi]
   unfold qpG
   rw[List.length_map,List.length_zip,l1,l2]
 ·exact w1.elim
end
end PL
end
section
namespace PL
open PySem L2
def qn4 (o:Out) (k:Ro->Rs Out):Rs Out:=match o with
 | .nx ρ=>k ρ
 | .ct ρ=>k ρ
 | .bk ρ=>.ok (.nx ρ)
 | .rt t=>.ok (.rt t)
 | .rs s ρ=>.ok (.rs s ρ)
def qno (dg:T->Ro->Rs Ro) (db:Ro->Rs Out):List T->Ro->Rs Out
 | [],ρ=>.ok (.nx ρ)
 | t::ts,ρ=>dg t ρ>>=λρ1=>db ρ1>>=λo=>qn4 o (qno dg db ts)
def qnC (di:Ro->Rs (List T)) (dg:T->Ro->Rs Ro) (db:Ro->Rs Out):Ro->Rs Out:=λρ=>di ρ>>=λts=>qno dg db ts ρ
section
variable {M:Md} {X:Cx} {tg e elt iter:Expr} {ifs:List Expr} {body:List Stmt} {pos:Pos} {di:Ro->Rs (List T)} {dg:T->Ro->Rs Ro} {db:Ro->Rs Out}
theorem qgh (hp:PassesOwn (model X.prog X.w) X.A X.env X.xe) (hc:X.calm=true) (hi:DI M X tg iter di) (hg:DG M X tg dg) (hb:DSs M X body db)
  (hs: ∀x,foldedSetIterable iter X.env x=pure x:=by intro _; rfl):DS M X (.For tg iter body [] pos) (qnC di dg db):=by
 refine PS.weak (qoz hp hc hi hg hb hs) λD σ H hq21=> ?_
 obtain ⟨H0,B0,ρ,B,ev,w⟩:=hq21
 refine ⟨H0,B0,ρ,B,ev,Wnt.mono (Wnt.bind w) λts w1 J H1 B1 g1 m1 hz wk=> ?_⟩
 refine ⟨λi m σ H=>i<=ts.length/\m=ts.length - i/\∃ρ' B',Ev M H0 B0 ρ' σ H B'/\Le B1 B'/\Wnt M H0 (qnJ M H0 B0 B D) (qno dg db (ts.drop i) ρ'),⟨ts.length,Nat.zero_le _,by simp,ρ,B1,ev.grow g1 m1,.refl _,by simpa using w1⟩,?_⟩
 rintro i m σ' H' ⟨hi',rfl,ρ',B',ev',le,w2⟩
 by_cases hlt:i<ts.length
 ·obtain ⟨go,yl⟩:=(wk H' B' le ev'.bh ev'.bt ev'.gm i).1 ts[i] (List.getElem?_eq_getElem hlt)
  refine .inr ⟨go,λσ'' H''=> ∃ρ2 B2,Ev M H0 B0 ρ2 σ'' H'' B2/\Le B1 B2/\Wnt M H0 (qnJ M H0 B0 B D) (qno dg db (ts.drop (i+1)) ρ2),λσ'' H'' ⟨ρ2,B2,q1,q2,q3⟩=>⟨ts.length - (i+1),by lia,by lia,rfl,ρ2,B2,q1,q2,q3⟩,λx H3 y=> ?_⟩
  obtain ⟨B3,g3,m3,r3⟩:=yl x H3 y
  rw[List.drop_eq_getElem_cons hlt] at w2
  have ev3:=ev'.grow g3 m3
  have le3:Le B1 B3:=le.trans g3.bb
  refine ⟨H0,B0,ρ',B3,ts[i],ev3,r3,Wnt.mono (Wnt.bind w2) λρ1 w3 σ1 ev1=> ?_⟩
  have leB:Le B B3:=g1.bb.trans le3
  refine ⟨H0,B0,ρ1,B3,ev1,Wnt.mono (Wnt.bind w3) λo w4=> ?_⟩
  cases o with
  | nx ρ2=>exact λσ4 H4 B4 ev4 le4=>⟨ρ2,B4,ev4,le3.trans le4,w4⟩
  | ct ρ2=>exact λσ4 H4 B4 ev4 le4=>⟨ρ2,B4,ev4,le3.trans le4,w4⟩
  | bk ρ2=>exact λσ4 H4 B4 ev4 le4=>w4 σ4 H4 B4 ev4 (leB.trans le4)
  | rt t=>exact w4
  | rs t ρ2=>exact λv σ4 H4 B4 ev4 le4=>w4 v σ4 H4 B4 ev4 (leB.trans le4)
 ·have e1:i=ts.length:=by lia
  subst e1
  refine .inl ⟨(wk H' B' le ev'.bh ev'.bt ev'.gm ts.length).2 rfl,?_⟩
  rw[List.drop_length] at w2
  exact w2 σ' H' B' ev' (g1.bb.trans le)
end
def Md.nox (M:Md):Md:={ M with E:=λ_ _ _=>False }
theorem Ev.nox {M:Md} {H0 B0 H B:Hp} {ρ:Ro} {σ:St} (ev:Ev M H0 B0 ρ σ H B):Ev M.nox H0 B0 ρ σ H B:=⟨ev.gr,ev.gm,ev.len,ev.sl,ev.ap⟩
def noX {α:Type}:Rs α->Rs α
 | .ex _=>.no
 | r=>r
def qrF:Option Sl->Sl
 | some (.fz t)=>.fz t
 | _=>.no
def qcF (n:Nat) (fr:List Nat) (ρ:Ro):Ro:=List.replicate n .no++fr.map λi=>qrF ρ[i]?
def qiF (ρ:Ro):Prop:= ∀(i:Nat) (s:Sl),ρ[i]? =some s->s.own=false
def qlE (dg:T->Ro->Rs Ro) (dt:Ro->Rs Bool) (de:Ro->Rs T):List T->Ro->Rs (List T)
 | [],_=>.ok []
 | t::ts,ρ=>dg t ρ>>=λρ1=>dt ρ1>>=λc=>if c=true then de ρ1>>=λy=>qlE dg dt de ts ρ1>>=λys=>.ok (y::ys) else qlE dg dt de ts ρ1
def qcy (n:Nat) (fr:List Nat) (di:Ro->Rs (List T)) (dg:T->Ro->Rs Ro) (dt:Ro->Rs Bool) (de:Ro->Rs T):Ro->Rs (List T):=λρ=>di ρ>>=λts=>noX (qlE dg dt de ts (qcF n fr ρ))
def qiI:Ro->Rs Bool:=λ_=>.ok true
theorem qcn {α β:Type} {r:Rs α} {f:α->Rs β} {b:β} (h:(r>>=f)= .ok b): ∃a,r= .ok a/\f a= .ok b:=by
 cases r with
 | no=>cases h
 | ok a=>exact ⟨a,rfl,h⟩
 | ex c=>cases h
theorem qdh {n:Nat} {fr:List Nat} {ρ:Ro}:qiF (qcF n fr ρ):=λi s e=>by
 unfold qcF at e
 have h:=List.mem_of_getElem? e
 rcases List.mem_append.mp h with h | h
 ·rw[(List.mem_replicate.mp h).2]; rfl
 ·obtain ⟨j,_,rfl⟩:=List.mem_map.mp h
  unfold qrF
  split<;>rfl
theorem qj3 {M:Md} {H0 B0 H B:Hp} {ρ:Ro} {σ:St} {own:List Str} {fr:List (Str×Nat)} (ev:Ev M H0 B0 ρ σ H B):Ev M H0 B0 (qcF own.length (fr.map (·.2)) ρ) (qcl own fr σ) H B:=by
 refine ⟨ev.gr,ev.gm,by simp[qcF,qcl],λi s e=> ?_,λi j si sj p hij ei ej oi oj a z=>by rw[qdh i si ei] at oi; cases oi⟩
 unfold qcF at e
 by_cases hi:i<own.length
 ·rw[List.getElem?_append_left (by simpa using hi),List.getElem?_replicate,if_pos hi] at e
  cases e; trivial
 ·rw[List.getElem?_append_right (by simpa using hi),List.length_replicate,List.map_map,List.getElem?_map] at e
  cases q:fr[i - own.length]? with
  | none=>rw[q] at e; cases e
  | some p=>
   rw[q] at e
   have e':qrF ρ[p.2]? =s:=Option.some.inj e
   subst e'
   have eσ:(qcl own fr σ)[i]?.join=σ[p.2]?.join:=by
    unfold qcl
    rw[List.getElem?_append_right (by simpa using hi),List.length_map,List.getElem?_map,q]
    rfl
   rw[eσ]
   cases q2:ρ[p.2]? with
   | none=>trivial
   | some s'=>
    cases s' with
    | fz t=>exact ev.sl p.2 _ q2
    | _=>trivial
theorem Ev.updD {M:Md} {H0 B0 H B:Hp} {ρ:Ro} {σ:St} {D:Addr} {ys zs:List V} (ev:Ev M H0 B0 ρ σ H B) (hD:H D=some (.lst ys)) (h0:H0 D=none) (hb:B D=none) (ap: ∀(i:Nat) (s:Sl),ρ[i]? =some s->s.own=true->σ[i]?.join≠some (.ref D)):Ev M H0 B0 ρ σ (upd H D (.lst zs)) B:=by
 have neB: ∀a o,B a=some o->a≠D:=λa o z w=>by rw[w,hb] at z; cases z
 refine ⟨⟨⟨λa o z n=> ?_,λa z w=> ?_⟩,ev.gr.bb,λa o z=> ?_,ev.gr.bt,ev.gr.nw⟩,M.G.st H _ (λa o z n1 n2 n3 n4=> ?_) ev.gm,ev.len,λj s ej=> ?_,ev.ap⟩
 ·rw[qae (qao z h0)]; exact ev.gr.gx.hh a o z n
 ·by_cases q:a=D
  ·subst q; exact z h0
  ·rw[qae q] at w; exact ev.gr.gx.dm a z w
 ·rw[qae (neB a o z)]; exact ev.gr.bh a o z
 ·rw[qae (qlg z hD (n1 _))]; exact z
 ·have o:=ev.sl j s ej
  have np:=ap j s ej
  cases s with
  | no=>trivial
  | fz t=>exact o
  | ow ts'=>
   obtain ⟨p',vs',a1,a2,a3,a4,a5⟩:=o
   exact ⟨p',vs',a1,a2,a3,by rw[qae (λz=>np rfl (by rw[a1,z]))]; exact a4,a5⟩
  | od ts'=>
   obtain ⟨p',vs',a1,a2,a3,a4,a5⟩:=o
   exact ⟨p',vs',a1,a2,a3,by rw[qae (λz=>np rfl (by rw[a1,z]))]; exact a4,a5⟩
  | ou ts'=>
   obtain ⟨p',vs',a1,a2,a3,a4,a5⟩:=o
   exact ⟨p',vs',a1,a2,a3,by rw[qae (λz=>np rfl (by rw[a1,z]))]; exact a4,a5⟩
  | pd ts'=>
   obtain ⟨p',vs',a0,a1,a2,a3,a4,a5⟩:=o
   exact ⟨p',vs',a0,a1,a2,a3,by rw[qae (λz=>np rfl (by rw[a1,z]))]; exact a4,a5⟩
  | pu ts'=>
   obtain ⟨p',vs',a0,a1,a2,a3,a4,a5⟩:=o
   exact ⟨p',vs',a0,a1,a2,a3,by rw[qae (λz=>np rfl (by rw[a1,z]))]; exact a4,a5⟩
theorem qjs {α:Type} {M:Md} {H0:Hp} {r:Rs α} {k:α->Prop} (h:Wnt M H0 k (noX r)): ∃a,r= .ok a/\k a:=by
 cases r with
 | no=>exact h.elim
 | ok a=>exact ⟨a,rfl,h⟩
 | ex c=>exact h.elim
section
variable {M:Md} {X:Cx} {tg elt iter:Expr} {ifs:List Expr} {scope:Scope} {pos:Pos} {own:List Str} {fr:List (Str×Nat)} {di:Ro->Rs (List T)} {dg:T->Ro->Rs Ro} {dt:Ro->Rs Bool} {de:Ro->Rs T}
def GNo (dg:T->Ro->Rs Ro):Prop:= ∀t ρ ρ',qiF ρ->dg t ρ= .ok ρ'->qiF ρ'
def qpU (dg:List T->Ro->Rs Ro):Prop:= ∀t ρ ρ',qiF ρ->dg t ρ= .ok ρ'->qiF ρ'
theorem qcL {i:Nat}:GNo (gN i):=λt ρ ρ' h e j s ej=>by
 cases e
 rw[List.getElem?_set] at ej
 split at ej
 ·split at ej
  ·cases ej; rfl
  ·cases ej
 ·exact h j s ej
theorem qjV:qpU gsN:=λt ρ ρ' h e=>by
 cases t with
 | nil=>cases e; exact h
 | cons _ _=>cases e
theorem qeV {dg:T->Ro->Rs Ro} {dr:List T->Ro->Rs Ro} (h1:GNo dg) (h2:qpU dr):qpU (gsC dg dr):=λt ρ ρ' h e=>by
 cases t with
 | nil=>cases e
 | cons t ts=>
  obtain ⟨ρ1,e1,e2⟩:=qcn e
  exact h2 ts ρ1 ρ' (h1 t ρ ρ1 h e1) e2
theorem qnk {n:Nat} {dr:List T->Ro->Rs Ro} (h2:qpU dr):GNo (gT n dr):=λt ρ ρ' h e=>by
 cases t with
 | tup ts=>
  unfold gT at e
  dsimp only at e
  split at e
  ·exact h2 ts ρ ρ' h e
  ·cases e
 | _=>cases e
theorem qgp (gn:GNo dg) {σ:St} {H:Hp} {H0 B0 B:Hp} {ρ:Ro} {Q:Addr->Hp->Prop} (ev:Ev M H0 B0 ρ σ H B)
  (w:Wnt M H0 (λa=> ∀p vs H' B',qa2 H B H' B'->M.G.P H'->H p=none->B' p=none->H' p=some (.lst vs)->qaC M.K B' a vs->Q p H') (qcy own.length (fr.map (·.2)) di dg dt de ρ)):
  qhr (tI M di) (tG M.nox dg) (tPT M.nox dt) (tP M.nox de) own fr σ H Q:=by
 refine ⟨H0,B0,ρ,B,ev,Wnt.mono (Wnt.bind w) λts w1 J H1 B1 g1 m1 hz wk D hD=> ?_⟩
 obtain ⟨res,eR,kR⟩:=qjs w1
 have ev1:=ev.grow g1 m1
 have h0D:H0 D=none:=qbD ev1.gr.gx hD
 have bD:B1 D=none:=by
  cases q:B1 D with
  | none=>rfl
  | some u=>rw[ev1.bh _ _ q] at hD; cases hD
 obtain ⟨gD,mD⟩:=ev1.nown (o:=HO.lst []) hD
 have evD:Ev M.nox H0 B0 (qcF own.length (fr.map (·.2)) ρ) (qcl own fr σ) (upd H1 D (.lst [])) B1:=(qj3 (ev1.grow gD mD)).nox
 refine qlD (n:=ts.length) (λi ys σ' H'=> ∃ρ' B' dn rs,(Ev M.nox H0 B0 ρ' σ' H' B'/\qiF ρ')/\qa2 H1 B1 H' B'/\H' D=some (.lst ys)/\B' D=none/\ys.length<=i/\qaC M.K B' dn ys/\dn++rs=res/\qlE dg dt de (ts.drop i) ρ'= .ok rs) ?_ hz ?_ ?_ ?_ ?_ ?_
 ·exact ⟨_,B1,[],res,⟨evD,qdh⟩,gD,qak,bD,Nat.le_refl _,.nil,rfl,by simpa using eR⟩
 ·rintro i ys σ' H' ⟨ρ',B',dn,rs,_,_,h,_⟩; exact h
 ·rintro i ys σ' H' ⟨ρ',B',dn,rs,_,_,_,_,h,_⟩; exact h
 ·rintro i ys σ' H' hi ⟨ρ',B',dn,rs,⟨e1,_⟩,e2,_⟩
  exact ((wk H' B' e2.bb e2.bh e2.bt e1.gm i).1 ts[i] (List.getElem?_eq_getElem hi)).1
 ·rintro ys σ' H' ⟨ρ',B',dn,rs,⟨e1,_⟩,e2,e3,e4,e5,e6,e7,e8⟩
  refine ⟨(wk H' B' e2.bb e2.bh e2.bt e1.gm ts.length).2 rfl,?_⟩
  rw[List.drop_length] at e8
  cases e8
  rw[List.append_nil] at e7
  subst e7
  exact kR D ys H' B' (g1.trans e2) e1.gm (qbD g1.gx hD) e4 e3 e6
 ·rintro i ys σ' H' x H3 hi ⟨ρ',B',dn,rs,⟨e1,no1⟩,e2,e3,e4,e5,e6,e7,e8⟩ hy
  obtain ⟨B3,g3,m3,r3⟩:=((wk H' B' e2.bb e2.bh e2.bt e1.gm i).1 ts[i] (List.getElem?_eq_getElem hi)).2 x H3 hy
  rw[List.drop_eq_getElem_cons hi] at e8
  obtain ⟨ρ1,d1,e8⟩:=qcn e8
  obtain ⟨c,d2,e8⟩:=qcn e8
  have ev3:=e1.grow g3 m3
  have no2:=gn _ _ _ no1 d1
  have wo: ∀{α:Type} {r:Rs α} {a:α} {k:α->Prop},r= .ok a->k a->Wnt M.nox H0 k r:=λe k=>by rw[e]; exact k
  refine ⟨H0,B0,ρ',B3,ts[i],ev3,r3,wo d1 λσ2 ev2=> ?_⟩
  refine tPT.of ev2 (wo d2 λH5 B5 g5 m5=> ?_)
  have ev5:=ev2.grow g5 m5
  have gg:qa2 H1 B1 H5 B5:=(e2.trans g3).trans g5
  have hD5:H5 D=some (.lst ys):=g5.gx.hh _ _ (g3.gx.hh _ _ e3 (by intro ps z; cases z)) (by intro ps z; cases z)
  have bD5:B5 D=none:=by
   rw[g5.nw D _ (g3.gx.hh _ _ e3 (by intro ps z; cases z)) (by simp) (by simp),g3.nw D _ e3 (by simp) (by simp)]; exact e4
  cases c with
  | false=>
   rw[if_neg (by intro z; cases z)] at e8
   refine qng ?_
   exact ⟨ρ1,B5,dn,rs,⟨ev5,no2⟩,gg,hD5,bD5,Nat.le_succ_of_le e5,(e6.mono g3.bb).mono g5.bb,e7,e8⟩
  | true=>
   rw[if_pos rfl] at e8
   obtain ⟨y,d3,e8⟩:=qcn e8
   obtain ⟨ys',d4,e8⟩:=qcn e8
   cases e8
   refine qo9 ?_
   refine tP.of ev5 (wo d3 λv H6 B6 g6 m6 r6=> ?_)
   have ev6:=ev5.grow g6 m6
   have hD6:H6 D=some (.lst ys):=g6.gx.hh _ _ hD5 (by intro ps z; cases z)
   have bD6:B6 D=none:=by rw[g6.nw D _ hD5 (by simp) (by simp)]; exact bD5
   have g16:qa2 H1 B1 H6 B6:=gg.trans g6
   refine ⟨hD6,ρ1,B6,dn++[y],ys',⟨ev6.updD hD6 h0D bD6 (λj s ej oj z=>by rw[no2 j s ej] at oj; cases oj),no2⟩,?_,qak,bD6,by rw[List.length_append,List.length_singleton]; lia,(((e6.mono g3.bb).mono g5.bb).mono g6.bb).snoc r6,by rw[List.append_assoc]; exact e7,d4⟩
   ·refine ⟨⟨λa o z n=> ?_,λa z w=> ?_⟩,g16.bb,λa o z=> ?_,g16.bt,g16.nw⟩
    ·rw[qae (qao z hD)]; exact g16.gx.hh a o z n
    ·by_cases q:a=D
     ·subst q; exact z hD
     ·rw[qae q] at w; exact g16.gx.dm a z w
    ·rw[qae (λq=>by rw[q,bD6] at z; cases z)]; exact g16.bh a o z
theorem qbP (hc:X.calm=true) (hi:DI M X tg iter di) (gn:GNo dg) (hk:scope.kind= .function) (hcell: ∀y∈scope.names,y.2≠.cell) (hnames: ∀y∈scope.names,y.2= .local->scope.names.lookup y.1=some .local)
  (hfree: ∀y∈scope.names,y.2= .free->X.env.kindOf y.1=some .cell\/X.env.kindOf y.1=some .free) (hfr: ∀p∈fr,X.N[p.2]? =some p.1/\scope.names.lookup p.1=some .free)
  (hb: ∀(fp:List Addr) (s3:Shared) (H3:Hp),DG M.nox (qbb X scope own fr fp s3 H3) tg dg/\qlO (qbb X scope own fr fp s3 H3) ifs (tPT M.nox dt)/\DE M.nox (qbb X scope own fr fp s3 H3) elt de)
  (hs: ∀x,foldedSetIterable iter X.env x=pure x:=by intro _; rfl):
  DF M X (.ListComp elt [⟨tg,iter,ifs,0⟩] scope pos) (qcy own.length (fr.map (·.2)) di dg dt de):=
 PE.weak (qmW hc hi hk hcell hnames hfree hfr hb hs) λσ H Q ⟨H0,B0,ρ,B,ev,w⟩=>qgp gn ev (Wnt.mono (qbF.mp w) λa q p vs H' B' g m h1 h2 h3 r=>q p vs H' B' g m h1 h2 h3 r)
theorem qbB {Y:Cx}:qlO Y [] (tPT M qiI):=λpins s σ H Q I ⟨H0,B0,ρ,B,ev,w⟩=>qk5 pins s σ H Q I (w H B (.refl ev.bh ev.bt) ev.gm)
theorem qjg {Y:Cx} {c:Expr} (h:DT M Y c dt):qlO Y [c] (tPT M dt):=qk4 h
theorem qg7 {i:Nat} {y:Str} {py spos:Pos} (hc:X.calm=true) (hi:DI M X tg iter di) (gn:GNo dg) (hk:scope.kind= .function) (hcell: ∀y∈scope.names,y.2≠.cell) (hnames: ∀y∈scope.names,y.2= .local->scope.names.lookup y.1=some .local)
  (hfree: ∀y∈scope.names,y.2= .free->X.env.kindOf y.1=some .cell\/X.env.kindOf y.1=some .free) (hfr: ∀p∈fr,X.N[p.2]? =some p.1/\scope.names.lookup p.1=some .free)
  (hb: ∀(fp:List Addr) (s3:Shared) (H3:Hp),DG M.nox (qbb X scope own fr fp s3 H3) tg dg/\qlO (qbb X scope own fr fp s3 H3) ifs (tPT M.nox dt)/\DE M.nox (qbb X scope own fr fp s3 H3) elt de)
  (hN:X.N.Nodup) (hiN:X.N[i]? =some y) (hy:X.env.scope.names.lookup y=some .local)
  (hsw:swapsWith (.ListComp elt [⟨tg,iter,ifs,0⟩] scope pos) (some (.Name y py)) spos.line X.env=pure true:=by rfl) (hs: ∀x,foldedSetIterable iter X.env x=pure x:=by intro _; rfl):
  DS M X (.Assign [.Name y py] (.ListComp elt [⟨tg,iter,ifs,0⟩] scope pos) spos) (qcw i (dFz (qcy own.length (fr.map (·.2)) di dg dt de))):=
 PS.weak (L2.ps_setcomp hc hi hk hcell hnames hfree hfr hb hN hiN hy hsw hs) λD σ H ⟨H0,B0,ρ,B,ev,w⟩=>qgp gn ev (Wnt.mono (Wnt.bind (Wnt.bind w)) λa q p vs H' B' g m h1 h2 h3 r=>by
  obtain ⟨g2,le⟩:=g.freeze h1 h2 h3
  refine q _ H' _ ((ev.grow g2 m).set ?_) g2.bb
  unfold Rep
  exact ⟨p,vs,rfl,qak,r.mono le⟩)
end
end PL
end
section
namespace PL
open PySem L2
def spP (K:PySem.W.Frag) (G:Gam) (C:Str->Addr) (f:List T->Rs T):Sp:=λvs H Q E=> ∃B ts,Le B H/\(∀a ps,B a≠some (.tbl ps))/\G.P H/\qaC K B ts vs/\qrL ⟨K,G,E,C,0⟩ H H B Q (f ts)
def outT:Out->Rs T
 | .rt t=>.ok t
 | .nx _=>.ok .non
 | _=>.no
def fnT (n N:Nat) (d:Ro->Rs Out):List T->Rs T:=λts=>if ts.length=n then d (ts.map .fz++List.replicate (N - n) .no)>>=outT else .no
section
variable {K:PySem.W.Frag} {G:Gam} {C:Str->Addr} {E:XK}
theorem qls {H B:Hp} {ts:List T} {vs:List V} {N:List Str} (le:Le B H) (bt: ∀a ps,B a≠some (.tbl ps)) (m:G.P H) (r:qaC K B ts vs) (hN:ts.length<=N.length):
  Ev ⟨K,G,E,C,0⟩ H B (ts.map .fz++List.replicate (N.length - ts.length) .no) (start N vs) H B:=by
 have hl:=r.length
 refine ⟨.refl le bt,m,by simp[L2.start,hl],λi s e=> ?_,λi j si sj p hij ei ej oi=> ?_⟩
 ·by_cases hi:i<ts.length
  ·rw[List.getElem?_append_left (by simpa using hi),List.getElem?_map] at e
   cases q:ts[i]? with
   | none=>rw[q] at e; cases e
   | some t=>
    rw[q] at e; cases e
    obtain ⟨v,ev,rv⟩:=r.get q
    refine ⟨v,?_,rv⟩
    unfold L2.start
    rw[List.getElem?_append_left (by simp; lia),List.getElem?_map,ev]
    rfl
  ·rw[List.getElem?_append_right (by simpa using hi),List.getElem?_replicate] at e
   split at e
   ·cases e; trivial
   ·cases e
 ·have h:=List.mem_of_getElem? ei
  rcases List.mem_append.mp h with h | h
  ·obtain ⟨t,_,rfl⟩:=List.mem_map.mp h
   cases oi
  ·rw[(List.mem_replicate.mp h).2] at oi; cases oi
theorem qdp {d:Ro->Rs Out} {n:Nat} {N:List Str} {vs:List V} {H:Hp} {Q:VK} (hn:n<=N.length) (h:spP K G C (fnT n N.length d) vs H Q E):tS ⟨K,G,E,C,0⟩ d { nx:=λ_ H'=>Q .non H',rt:=Q } (start N vs) H:=by
 obtain ⟨B,ts,le,bt,m,r,w⟩:=h
 unfold fnT at w
 split at w
 ·rename_i hl
  refine ⟨H,B,_,B,qls le bt m r (by lia),?_⟩
  rw[hl]
  refine Wnt.mono (Wnt.bind (qaM.mp w)) λo w1=> ?_
  cases o with
  | rt t=>exact w1
  | nx ρ=>exact λσ' H' B' ev _=>w1 .non H' B' ev.gr ev.gm (by unfold Rep; rfl)
  | bk ρ=>exact w1.elim
  | ct ρ=>exact w1.elim
  | rs t ρ=>exact w1.elim
 ·exact w.elim
theorem qd4 {d:Ro->Rs Out} {n N:Nat} {vs:List V} {H:Hp} {Q:VK} (h:spP K G C (fnT n N d) vs H Q E):vs.length=n:=by
 obtain ⟨B,ts,le,bt,m,r,w⟩:=h
 unfold fnT at w
 split at w
 ·rename_i hl
  rw[r.length]; exact hl
 ·exact w.elim
end
def qal (f:List T->Rs T) (ds:Ro->Rs (List T)):Ro->Rs T:=λρ=>ds ρ>>=f
section
variable {M:Md} {X:Cx} {CX:CXT} {k:Nat} {f:Addr} {fd:FuncData} {ps:List Str} {fT:List T->Rs T} {x:Str} {p pos:Pos} {e:Expr} {es:List Expr} {ds:Ro->Rs (List T)}
theorem qkr {σ:St} {H:Hp} {Q:VK} (h:tP M (qal fT ds) σ H Q):qob (spP M.K M.G M.C fT) [] M.E (tPA M ds) σ H Q:=by
 obtain ⟨H0,B0,ρ,B,ev,w⟩:=h
 refine tPA.of ev (Wnt.mono (Wnt.bind (qaM.mp w)) λts w1 vs H1 B1 g1 m1 r1=> ?_)
 have ev1:=ev.grow g1 m1
 refine ⟨B1,ts,ev1.bh,ev1.bt,m1,by rw[List.append_nil]; exact r1,?_⟩
 cases q:fT ts with
 | no=>rw[q] at w1; exact w1
 | ok r=>rw[q] at w1; exact λv H' B' g m rr=>w1 v H' B' (g1.trans g) m rr
 | ex c=>rw[q] at w1; exact λH' g m=>w1 H' (ev1.gr.gx.trans g) m
theorem qnA (F:qbI X.prog X.w X.K X.mg X.base CX k f fd ps (spP M.K M.G M.C fT)) (hr:qcu k X.A) (hg:Gl X x) (hm:X.mg x=some (.ref f)) (hk:PySem.W.keepIn X.K (.ref f)=true) (hb:qc0 X.K fd ps []) (hx:qc7 CX X M.E)
  (ha:DA M X (e::es) ds) (hdb:(x==("__debug__" :Str))=false:=by decide) (he:starEach (e::es) X.env=(false,eval e X.env)::starEach es X.env:=by rfl) (hpl:(backTo pos (starEach es X.env)).any (·.1)=false:=by rfl):
  DE M X (.Call (.Name x p) (e::es) [] pos) (qal fT ds):=PE.weak (qjm F hr hg hm hk hb .nil hx ha hdb he hpl) λσ H Q h=>qkr h
end
def dTB (da:Ro->Rs T):Ro->Rs Bool:=λρ=>da ρ>>=λt=>match t with | .bl b=>.ok b | _=>.no
def qd1 (d e:Ro->Rs Bool):Ro->Rs Bool:=λρ=>d ρ>>=λc=>if c=true then e ρ else .ok false
def dOr (d e:Ro->Rs Bool):Ro->Rs Bool:=λρ=>d ρ>>=λc=>if c=true then .ok true else e ρ
def qdb (d:Ro->Rs Bool):Ro->Rs Bool:=λρ=>d ρ>>=λc=>.ok (!c)
def qbX (d e:Ro->Rs T):Ro->Rs T:=λρ=>dTB d ρ>>=λc=>if c=true then e ρ else .ok (.bl false)
def qeA (d e:Ro->Rs T):Ro->Rs T:=λρ=>dTB d ρ>>=λc=>if c=true then .ok (.bl true) else e ρ
def qbZ (d:Ro->Rs T):Ro->Rs T:=λρ=>dTB d ρ>>=λc=>.ok (.bl (!c))
def qeB (dt:Ro->Rs Bool) (d e:Ro->Rs T):Ro->Rs T:=λρ=>dt ρ>>=λc=>if c=true then d ρ else e ρ
abbrev DW (M:Md) (X:Cx) (e:Expr) (d:Ro->Rs Bool):Prop:=PW X e (tPT M d)
theorem PW.weak {X:Cx} {e:Expr} {t t':TT} (h:PW X e t) (w: ∀σ H Q,t' σ H Q->t σ H Q):PW X e t':=λwh pins s σ H Q I q=>h wh pins s σ H Q I (w σ H Q q)
theorem qbw {K:PySem.W.Frag} {B:Hp} {b:Bool} {v:V} (r:Rep K B (.bl b) v):v= .bl b:=by unfold Rep at r; exact r
theorem qau {K:PySem.W.Frag} {B:Hp} {b:Int} {v:V} (r:Rep K B (.int b) v):v= .int b:=by unfold Rep at r; exact r
theorem qaG {K:PySem.W.Frag} {B:Hp} {b:Str} {v:V} (r:Rep K B (.str b) v):v= .str b:=by unfold Rep at r; exact r
theorem qbM {K:PySem.W.Frag} {B:Hp} {v:V} (r:Rep K B .non v):v= .non:=by unfold Rep at r; exact r
theorem qkX {K:PySem.W.Frag} {B:Hp} {ts:List T} {v:V} (r:Rep K B (.tup ts) v): ∃p vs,v= .ref p/\B p=some (.tup vs)/\qaC K B ts vs:=by unfold Rep at r; exact r
theorem qbq {K:PySem.W.Frag} {B:Hp} {ts:List T} {v:V} (r:Rep K B (.tup ts) v): ∃p vs,v= .ref p/\SqT K B p vs/\qaC K B ts vs:=by obtain ⟨p,vs,a,b,c⟩:=qkX r; exact ⟨p,vs,a,SqT.of b,c⟩
theorem qbN {K:PySem.W.Frag} {B:Hp} {ts:List T} {v:V} (r:Rep K B (.lst ts) v): ∃p vs,v= .ref p/\B p=some (.lst vs)/\qaC K B ts vs:=by unfold Rep at r; exact r
theorem qdB {K:PySem.W.Frag} {B:Hp} {b:Bool}:Rep K B (.bl b) (.bl b):=by unfold Rep; rfl
theorem qbL {K:PySem.W.Frag} {B:Hp} {b:Int}:Rep K B (.int b) (.int b):=by unfold Rep; rfl
theorem qhD {K:PySem.W.Frag} {B:Hp} {b:Str}:Rep K B (.str b) (.str b):=by unfold Rep; rfl
theorem qoP {K:PySem.W.Frag} {B:Hp}:Rep K B .non .non:=by unfold Rep; rfl
theorem qma {K:PySem.W.Frag} {B:Hp} {ts:List T} {p:Addr} {vs:List V} (h:B p=some (.tup vs)) (r:qaC K B ts vs):Rep K B (.tup ts) (.ref p):=by unfold Rep; exact ⟨p,vs,rfl,h,r⟩
theorem qmb {K:PySem.W.Frag} {B:Hp} {ts:List T} {p:Addr} {vs:List V} (h:B p=some (.lst vs)) (r:qaC K B ts vs):Rep K B (.lst ts) (.ref p):=by unfold Rep; exact ⟨p,vs,rfl,h,r⟩
section
variable {M:Md} {X:Cx} {e a b c:Expr} {qcT:List Expr} {pos:Pos} {da db dc:Ro->Rs T} {dt du:Ro->Rs Bool}
theorem qe6 {σ:St} {H:Hp} {Q:Bool->Hp->Prop} (h:tPT M (dTB da) σ H Q):tP M da σ H λx H1=> ∃c,x= .bl c/\Q c H1:=by
 obtain ⟨H0,B0,ρ,B,ev,w⟩:=h
 refine tP.of ev (Wnt.mono (Wnt.bind (qdr.mp w)) λt w1 v H1 B1 g1 m1 r1=> ?_)
 cases t with
 | bl b=>exact ⟨b,qbw r1,w1 H1 B1 g1 m1⟩
 | _=>exact w1.elim
theorem qdJ (h:DE M X e da) (he: ∀whole,isTrue e X.env whole=(do let v <-whole; standAt e.pos; holding [v] (truthy v)):=by intro _; rfl):DT M X e (dTB da):=PT.weak (ql5 h he) λσ H Q h=>qe6 h
theorem qcp {op:CmpOp} {r:R2} {g:T->T->Rs T} (ho:OpR X (compareOp op) r) (hr:RS M r g) (hp:Pl g) (ha:DE M X a da) (hb:DE M X b db) (hm:behindInMarks op b=false:=by first | exact qdZ _ (by decide) (by decide) | rfl):DT M X (.Compare a [op] [b] pos) (dTB (dB g da db)):=
 PT.weak (qea ho ha hb hm) λ_ _ _ h=>qfo hr hp (qe6 h)
def qaS (g g':T->T->Rs T) (da db dc:Ro->Rs T):Ro->Rs T:=λρ=>da ρ>>=λx=>db ρ>>=λy=>g x y>>=λz=>match z with | .bl k=>if k=true then dc ρ>>=λu=>g' y u else .ok (.bl false) | _=>.no
theorem qe2 {r r':R2} {g g':T->T->Rs T} (hr:RS M r g) (hp:Pl g) (hr':RS M r' g') (hp':Pl g') {σ:St} {H:Hp} {Q:VK} (h:tP M (qaS g g' da db dc) σ H Q):qiO r r' (tP M da) (tP M db) (tP M dc) σ H Q:=by
 obtain ⟨H0,B0,ρ,B,ev,w⟩:=h
 refine tP.of ev (Wnt.mono (Wnt.bind (qaM.mp w)) λx w1 v H1 B1 g1 m1 r1=> ?_)
 refine tP.of (ev.grow g1 m1) (Wnt.mono (Wnt.bind w1) λy w2 u H2 B2 g2 m2 r2=> ?_)
 have ev2:=(ev.grow g1 m1).grow g2 m2
 cases q:g x y with
 | no=>rw[q] at w2; exact w2.elim
 | ex c=>exact absurd q (hp x y c)
 | ok z=>
  rw[q] at w2
  refine hr H2 B2 v u x y z _ ev2.bh ev2.bt m2 (r1.mono g2.bb) r2 q λv' H3 B3 g3 m3 r3=> ?_
  cases z with
  | bl k=>
   refine ⟨k,qbw r3,?_⟩
   have ev3:=ev2.grow g3 m3
   cases k with
   | false=>exact qng (w2 (.bl false) H3 B3 ((g1.trans g2).trans g3) m3 qdB)
   | true=>
    refine qo9 (tP.of ev3 (Wnt.mono (Wnt.bind w2) λu' w3 v4 H4 B4 g4 m4 r4=> ?_))
    have ev4:=ev3.grow g4 m4
    cases q':g' y u' with
    | no=>rw[q'] at w3; exact w3.elim
    | ex c=>exact absurd q' (hp' y u' c)
    | ok z'=>
     rw[q'] at w3
     exact hr' H4 B4 u v4 y u' z' _ ev4.bh ev4.bt m4 ((r2.mono g3.bb).mono g4.bb) r4 q' λv5 H5 B5 g5 m5 r5=>w3 v5 H5 B5 ((((g1.trans g2).trans g3).trans g4).trans g5) m5 r5
  | _=>exact w2.elim
theorem qhZ {op op':CmpOp} {r r':R2} {g g':T->T->Rs T} (ho:OpR X (compareOp op) r) (ho':OpR X (compareOp op') r') (hr:RS M r g) (hp:Pl g) (hr':RS M r' g') (hp':Pl g') (ha:DE M X a da) (hb:DE M X b db) (hc:DE M X c dc)
  (hm:lastMarks [op,op'] [b,c]=false:=by with_unfolding_all rfl):DE M X (.Compare a [op,op'] [b,c] pos) (qaS g g' da db dc):=PE.weak (qla ho ho' ha hb hc hm) λ_ _ _ h=>qe2 hr hp hr' hp' h
theorem qhX {op op':CmpOp} {r r':R2} {g g':T->T->Rs T} (ho:OpR X (compareOp op) r) (ho':OpR X (compareOp op') r') (hr:RS M r g) (hp:Pl g) (hr':RS M r' g') (hp':Pl g') (ha:DE M X a da) (hb:DE M X b db) (hc:DE M X c dc)
  (hm:lastMarks [op,op'] [b,c]=false:=by with_unfolding_all rfl):DT M X (.Compare a [op,op'] [b,c] pos) (dTB (qaS g g' da db dc)):=PT.weak (qk1 ho ho' ha hb hc hm) λ_ _ _ h=>qe2 hr hp hr' hp' (qe6 h)
theorem qdK (h:DT M X a dt):DT M X (.UnaryOp .Not a pos) (qdb dt):=PT.weak (ql6 h) λσ H Q ⟨H0,B0,ρ,B,ev,w⟩=>tPT.of ev (Wnt.mono (Wnt.bind (qdr.mp w)) λc w1 H1 B1 g m=>w1 H1 B1 g m)
theorem qnq (h:DT M X a dt):DW M X (.BoolOp .And [a] pos) dt:=qmN h
theorem qeo (h:DT M X a dt):DW M X (.BoolOp .Or [a] pos) dt:=ql4 h
theorem qpj (h:DT M X a dt) (h':DW M X (.BoolOp .And (b::qcT) pos) du):DW M X (.BoolOp .And (a::b::qcT) pos) (qd1 dt du):=PW.weak (qox h h') λσ H Q ⟨H0,B0,ρ,B,ev,w⟩=>tPT.of ev (Wnt.mono (Wnt.bind (qdr.mp w)) λc w1 H1 B1 g m=>by
 cases c with
 | true=>exact qo9 (tPT.of (ev.grow g m) (Wnt.mono w1 λc w2 H2 B2 g2 m2=>w2 H2 B2 (g.trans g2) m2))
 | false=>exact qng (w1 H1 B1 g m))
theorem qg6 (h:DT M X a dt) (h':DW M X (.BoolOp .Or (b::qcT) pos) du):DW M X (.BoolOp .Or (a::b::qcT) pos) (dOr dt du):=PW.weak (qow h h') λσ H Q ⟨H0,B0,ρ,B,ev,w⟩=>tPT.of ev (Wnt.mono (Wnt.bind (qdr.mp w)) λc w1 H1 B1 g m=>by
 cases c with
 | true=>exact qo9 (w1 H1 B1 g m)
 | false=>exact qng (tPT.of (ev.grow g m) (Wnt.mono w1 λc w2 H2 B2 g2 m2=>w2 H2 B2 (g.trans g2) m2)))
theorem qmi {e:Expr} (h:DW M X e dt):DT M X e dt:=PW.pt h
theorem qho {P':T->Prop} {H0:Hp} {ρ:Ro} {f:Bool->Rs T} (w:Wnt M H0 P' (dTB da ρ>>=f)):Wnt M H0 (λt=> ∃c,t= .bl c/\Wnt M H0 P' (f c)) (da ρ):=by
 refine Wnt.mono (Wnt.bind (Wnt.bind w)) λt w1=> ?_
 cases t with
 | bl b=>exact ⟨b,rfl,w1⟩
 | _=>exact w1.elim
theorem qmm {op} (h:DE M X a da):DE M X (.BoolOp op [a] pos) da:=qoH h
theorem qmn (h:DE M X a da) (h':DE M X (.BoolOp .And (b::qcT) pos) db):DE M X (.BoolOp .And (a::b::qcT) pos) (qbX da db):=PE.weak (qoL h h') λσ H Q ⟨H0,B0,ρ,B,ev,w⟩=>tP.of ev (Wnt.mono (qho (qaM.mp w)) λt ⟨c,et,w1⟩ v H1 B1 g m r=>by
 subst et
 refine ⟨c,qbw r,?_⟩
 cases c with
 | true=>exact qo9 (tP.of (ev.grow g m) (Wnt.mono w1 λc w2 v2 H2 B2 g2 m2 r2=>w2 v2 H2 B2 (g.trans g2) m2 r2))
 | false=>exact qng (w1 _ H1 B1 g m qdB))
theorem qps (h:DE M X a da):DE M X (.UnaryOp .Not a pos) (qbZ da):=PE.weak (qoI h) λσ H Q ⟨H0,B0,ρ,B,ev,w⟩=>tP.of ev (Wnt.mono (qho (qaM.mp w)) λt ⟨c,et,w1⟩ v H1 B1 g m r=>by
 subst et
 exact ⟨c,qbw r,w1 _ H1 B1 g m qdB⟩)
end
end PL
end
section
namespace Mir
open St
theorem qdn: ∀{l:List Nat} {x:Nat},x∈l->(l.erase x).length+1=l.length
 | [],_,h=>by cases h
 | y::l,x,h=>by
  by_cases e:y=x
  ·subst e; simp
  ·have hb:(y==x)=false:=by simpa using e
   rw[List.erase_cons,hb]
   simp only[Bool.false_eq_true,if_false,List.length_cons]
   have:=qdn (l:=l) (x:=x) ((List.mem_cons.mp h).resolve_left λz=>e z.symm)
   lia
theorem qf7 {l:List Nat} {x y:Nat} (h:y∈l) (hne:y≠x):y∈l.erase x:=by
 induction l with
 | nil=>cases h
 | cons z l ih=>
  rw[List.erase_cons]
  by_cases e:z=x
  ·have hb:(z==x)=true:=by simpa using e
   rw[hb,if_pos rfl]
   exact (List.mem_cons.mp h).resolve_left λq=>hne (q.trans e)
  ·have hb:(z==x)=false:=by simpa using e
   rw[hb]
   simp only[Bool.false_eq_true,if_false]
   rcases List.mem_cons.mp h with q | q
   ·rw[q]; exact List.mem_cons_self
   ·exact List.mem_cons_of_mem _ (ih q)
theorem qhF: ∀{l l':List Nat},l.Nodup->(∀x∈l,x∈l')->l.length<=l'.length
 | [],_,_,_=>Nat.zero_le _
 | x::l,l',nd,h=>by
  have hx:x∈l':=h x List.mem_cons_self
  have hn:=List.nodup_cons.mp nd
  have:=qhF (l:=l) (l':=l'.erase x) hn.2 λy hy=>qf7 (h y (List.mem_cons_of_mem _ hy)) λz=>hn.1 (z▸hy)
  have e:=qdn hx
  rw[List.length_cons]
  lia
theorem qsV {l:List Nat} {n:Nat} (nd:l.Nodup) (lt: ∀x∈l,x<n) (hl:l.length=n): ∀j,j<n->j∈l:=by
 intro j hj
 by_cases q:j∈l
 ·exact q
 ·have h1:=qhF (l:=j::l) (l':=List.range n) (List.nodup_cons.mpr ⟨q,nd⟩) λx hx=>by
   rcases List.mem_cons.mp hx with e | e
   ·rw[e]; exact List.mem_range.mpr hj
   ·exact List.mem_range.mpr (lt x e)
  rw[List.length_cons,List.length_range] at h1
  lia
theorem qc6 {R:Nat->Nat->Prop} (asym: ∀a b,R a b->¬R b a): ∀{l l':List Nat},l.Pairwise R->l'.Pairwise R->(∀x,x∈l↔x∈l')->l=l'
 | [],[],_,_,_=>rfl
 | [],y::l',_,_,h=>by have:=(h y).mpr List.mem_cons_self; cases this
 | x::l,[],_,_,h=>by have:=(h x).mp List.mem_cons_self; cases this
 | x::l,y::l',h1,h2,h=>by
  obtain ⟨a1,b1⟩:=List.pairwise_cons.mp h1
  obtain ⟨a2,b2⟩:=List.pairwise_cons.mp h2
  have exy:x=y:=by
   rcases List.mem_cons.mp ((h x).mp List.mem_cons_self) with e | e
   ·exact e
   ·rcases List.mem_cons.mp ((h y).mpr List.mem_cons_self) with e' | e'
    ·exact e'.symm
    ·exact absurd (a2 x e) (asym x y (a1 y e'))
  subst exy
  have n1:x∉l:=λq=>asym x x (a1 x q) (a1 x q)
  have n2:x∉l':=λq=>asym x x (a2 x q) (a2 x q)
  rw[qc6 asym b1 b2 λz=>⟨λq=>((List.mem_cons.mp ((h z).mp (List.mem_cons_of_mem _ q))).resolve_left λe=>n1 (e▸q)),λq=>((List.mem_cons.mp ((h z).mpr (List.mem_cons_of_mem _ q))).resolve_left λe=>n2 (e▸q))⟩]
variable {ms:List Int} {n:Nat} {p:Array Nat}
theorem qmt {k:Nat->Int} (a b:Nat) (h:L k a b): ¬L k b a:=by
 intro h'
 rcases h with h | h<;>rcases h' with h' | h'<;>lia
theorem qc3 (h:qcz ms n p):p.toList.Pairwise (L λi=>ms.getD i 0):=by
 rw[List.pairwise_iff_getElem]
 intro i j hi hj hij
 have hi':i<p.size:=by simpa using hi
 have hj':j<p.size:=by simpa using hj
 have e:=h.2 i j hij (by rw[h.1.sz] at hj'; exact hj')
 have e1:g p i=p.toList[i]:=by unfold g; rw[Array.getD_eq_getD_getElem?]; simp[hi']
 have e2:g p j=p.toList[j]:=by unfold g; rw[Array.getD_eq_getD_getElem?]; simp[hj']
 rw[e1,e2] at e
 exact e
theorem qhA (h:qcz ms n p): ∀x∈p.toList,x<n:=by
 intro x hx
 obtain ⟨i,hi,rfl⟩:=List.mem_iff_getElem.mp hx
 have hi':i<p.size:=by simpa using hi
 have e:=h.1.lo i (by rw[h.1.sz] at hi'; exact hi')
 have e1:g p i=p.toList[i]:=by unfold g; rw[Array.getD_eq_getD_getElem?]; simp[hi']
 rw[e1] at e
 exact e
theorem qgN (h:qcz ms n p):p.toList.Nodup:=by
 refine List.Pairwise.imp ?_ (qc3 h)
 intro a b hab e
 subst e
 exact qmt a a hab hab
theorem order_mem (h:qcz ms n p) (x:Nat):x∈p.toList↔x<n:=
 ⟨qhA h x,qsV (qgN h) (qhA h) (by rw[Array.length_toList]; exact h.1.sz) x⟩
def qqf (ms:List Int) (n:Nat) (m:Int):List Nat:=(List.range n).filter λj=>decide (ms.getD j 0=m)
def due (ms:List Int) (n t:Nat):List Nat:=(List.range t).flatMap λm=>qqf ms n (m:Nat)
theorem map_range_getD {α:Type} (xs:List α) (d:α):(List.range xs.length).map (λj=>xs.getD j d)=xs:=by
 apply List.ext_getElem
 ·simp
 ·intro i h1 h2
  simp[h2]
end Mir
end
section
namespace SR
open PySem L2 RH St Mir
theorem qpc {k:Nat->Int} {n:Nat}: ∀{l:List Nat},(∀x∈l,x<n)->l.Pairwise (L k)->(ins k n l).Pairwise (L k)
 | [],_,_=>by simp[ins]
 | y::l,hl,h=>by
  have h':=List.pairwise_cons.mp h
  have hy:y<n:=hl y List.mem_cons_self
  show (if k y<=k n then y::ins k n l else n::y::l).Pairwise (L k)
  by_cases c:k y<=k n
  ·rw[if_pos c]
   refine List.pairwise_cons.mpr ⟨λz hz=> ?_,qpc (λx hx=>hl x (List.mem_cons_of_mem _ hx)) h'.2⟩
   rcases qfr.mp hz with q | q
   ·subst q
    unfold L
    lia
   ·exact h'.1 z q
  ·rw[if_neg c]
   refine List.pairwise_cons.mpr ⟨λz hz=> ?_,h⟩
   rcases List.mem_cons.mp hz with q | q
   ·subst q
    exact .inl (by lia)
   ·have:=h'.1 z q
    unfold L at this⊢
    lia
theorem qf0 (k:Nat->Int): ∀n,(srt k (List.range n)).Pairwise (L k)
 | 0=>List.Pairwise.nil
 | n+1=>by
  rw[List.range_succ,qfa]
  exact qpc (λx hx=>List.mem_range.mp ((qei _).mp hx)) (qf0 k n)
theorem qdk {ms:List Int} {n:Nat} {p:Array Nat} (h:qcz ms n p):p.toList=srt (λi=>ms.getD i 0) (List.range n):=
 qc6 qmt (qc3 h) (qf0 _ _) λx=>by rw[order_mem h,qei,List.mem_range]
end SR
end
section
namespace RH
open PySem PySem.Spec PyProof.Rows L2 SR
section
variable {X:Cx} {α:Type}
def eqT (us vs:List V):Bool:=(List.range us.length).all λj=>eqV (us.getD j .non) (vs.getD j .non)
theorem valsArr {us:List V} {is:List Value} (r:Vals us is) {j:Nat} (h:j<is.toArray.size):RelV (us.getD j .non) is.toArray[j]:=by
 have hj:j<us.length:=by rw[r.length]; simpa using h
 obtain ⟨u,e,q⟩:=r.get (List.getElem?_eq_getElem hj)
 rw[List.getD_eq_getElem?_getD,List.getElem?_eq_getElem hj]
 have:is.toArray[j]=u:=by
  rw[List.getElem?_eq_getElem (by simpa using h)] at e
  simpa using Option.some.inj e
 rw[this]
 exact q
end
end RH
end
section
namespace PL
open PySem L2
mutual
def eqT:T->T->Bool
 | .non,.non=>true
 | .bl a,.bl b=>a==b
 | .bl a,.int b=>(if a then 1 else 0)==b
 | .int a,.bl b=>a==(if b then 1 else 0)
 | .int a,.int b=>a==b
 | .str a,.str b=>a==b
 | .tup xs,.tup ys=>qfN xs ys
 | .lst xs,.lst ys=>qfN xs ys
 | _,_=>false
def qfN:List T->List T->Bool
 | [],[]=>true
 | x::xs,y::ys=>eqT x y&&qfN xs ys
 | _,_=>false
end
def okT:Nat->T->Bool
 | _,.non=>true
 | _,.bl _=>true
 | _,.int _=>true
 | _,.str _=>true
 | n+1,.tup ts=>ts.all (okT n)
 | n+1,.lst ts=>ts.all (okT n)
 | _,_=>false
def qlr:T->Bool
 | .non=>true
 | .bl _=>true
 | .int _=>true
 | .str _=>true
 | _=>false
abbrev qhy (xs ys:List T) (j:Nat):Bool:=eqT (xs.getD j .non) (ys.getD j .non)
theorem qdq: ∀xs ys:List T,qfN xs ys=((List.range (min xs.length ys.length)).all (qhy xs ys)&&xs.length==ys.length)
 | [],[]=>by simp[qfN]
 | [],_::_=>by simp[qfN]
 | _::_,[]=>by simp[qfN]
 | x::xs,y::ys=>by
  rw[qfN,qdq xs ys]
  have m:min (x::xs).length (y::ys).length=(min xs.length ys.length).succ:=by simp only[List.length_cons]; lia
  rw[m,List.range_succ_eq_map,List.all_cons,List.all_map,<-Bool.and_assoc]
  have e:(qhy (x::xs) (y::ys)∘Nat.succ)=qhy xs ys:=by funext j; simp[qhy]
  rw[e,show qhy (x::xs) (y::ys) 0=eqT x y from rfl]
  simp
theorem qhV {xs ys:List T} (h:xs.length=ys.length):qfN xs ys=(List.range xs.length).all (qhy xs ys):=by
 rw[qdq,h,Nat.min_self,beq_self_eq_true,Bool.and_true]
theorem qj4 {xs ys:List T} (h:xs.length≠ys.length):qfN xs ys=false:=by
 rw[qdq]; simp[h]
section kinds
open SeqAt
variable {A:Around} {s:Shared} {x:V} {u:Value} {l b:Addr} {is js:Array Value}
theorem qg4 (r:RelV x u) (f:qg2 x=true) (h:s.heap.IsList l is) (c:A.units<cLine):EqAt A s u (.ref l) false/\EqAt A s (.ref l) u false/\RcAt A s u (.ref l) false/\RcAt A s (.ref l) u false/\RcNeAt A s u (.ref l) true/\RcNeAt A s (.ref l) u true:=by
 cases x with
 | non=>cases r; exact ⟨.none_list h c,.list_none h c,.none_list h c,.list_none h c,.none_list h c,.list_none h c⟩
 | bl k=>cases r; exact ⟨.bool_list k h c,.list_bool k h c,.bool_list k h c,.list_bool k h c,.bool_list k h c,.list_bool k h c⟩
 | int k=>obtain ⟨t,rfl⟩:=r; exact ⟨.int_list k t h c,.list_int k t h c,.int_list k t h c,.list_int k t h c,.int_list k t h c,.list_int k t h c⟩
 | str k=>obtain ⟨t,rfl⟩:=r; exact ⟨.str_list k t h c,.list_str k t h c,.str_list k t h c,.list_str k t h c,.str_list k t h c,.list_str k t h c⟩
 | _=>cases f
theorem qg3 (r:RelV x u) (f:qg2 x=true) (h:s.heap.IsTuple l is) (c:A.units<cLine):EqAt A s u (.ref l) false/\EqAt A s (.ref l) u false/\RcAt A s u (.ref l) false/\RcAt A s (.ref l) u false/\RcNeAt A s u (.ref l) true/\RcNeAt A s (.ref l) u true:=by
 cases x with
 | non=>cases r; exact ⟨.none_tuple h c,.tuple_none h c,.none_tuple h c,.tuple_none h c,.none_tuple h c,.tuple_none h c⟩
 | bl k=>cases r; exact ⟨.bool_tuple k h c,.tuple_bool k h c,.bool_tuple k h c,.tuple_bool k h c,.bool_tuple k h c,.tuple_bool k h c⟩
 | int k=>obtain ⟨t,rfl⟩:=r; exact ⟨.int_tuple k t h c,.tuple_int k t h c,.int_tuple k t h c,.tuple_int k t h c,.int_tuple k t h c,.tuple_int k t h c⟩
 | str k=>obtain ⟨t,rfl⟩:=r; exact ⟨.str_tuple k t h c,.tuple_str k t h c,.str_tuple k t h c,.tuple_str k t h c,.str_tuple k t h c,.tuple_str k t h c⟩
 | _=>cases f
theorem qqM {y:V} {v:Value} (r:RelV x u) (f:qg2 x=true) (r':RelV y v) (f':qg2 y=true):RcAt A s u v (eqV x y)/\RcNeAt A s u v (!eqV x y):=by
 cases x with
 | non=>
  cases r
  cases y with
  | non=>cases r'; exact ⟨.none_none,.none_none⟩
  | bl k=>cases r'; exact ⟨.none_bool k,.none_bool k⟩
  | int k=>obtain ⟨t,rfl⟩:=r'; exact ⟨.none_int k t,.none_int k t⟩
  | str k=>obtain ⟨t,rfl⟩:=r'; exact ⟨.none_str k t,.none_str k t⟩
  | _=>cases f'
 | bl i=>
  cases r
  cases y with
  | non=>cases r'; exact ⟨.bool_none i,.bool_none i⟩
  | bl k=>cases r'; exact ⟨.bool_bool i k,.bool_bool i k⟩
  | int k=>obtain ⟨t,rfl⟩:=r'; exact ⟨.bool_int i k t,.bool_int i k t⟩
  | str k=>obtain ⟨t,rfl⟩:=r'; exact ⟨.bool_str i k t,.bool_str i k t⟩
  | _=>cases f'
 | int i=>
  obtain ⟨t0,rfl⟩:=r
  cases y with
  | non=>cases r'; exact ⟨.int_none i t0,.int_none i t0⟩
  | bl k=>cases r'; exact ⟨.int_bool i t0 k,.int_bool i t0 k⟩
  | int k=>obtain ⟨t,rfl⟩:=r'; exact ⟨.int_int i t0 k t,.int_int i t0 k t⟩
  | str k=>obtain ⟨t,rfl⟩:=r'; exact ⟨.int_str i t0 k t,.int_str i t0 k t⟩
  | _=>cases f'
 | str i=>
  obtain ⟨t0,rfl⟩:=r
  cases y with
  | non=>cases r'; exact ⟨.str_none i t0,.str_none i t0⟩
  | bl k=>cases r'; exact ⟨.str_bool i t0 k,.str_bool i t0 k⟩
  | int k=>obtain ⟨t,rfl⟩:=r'; exact ⟨.str_int i t0 k t,.str_int i t0 k t⟩
  | str k=>obtain ⟨t,rfl⟩:=r'; exact ⟨.str_str i t0 k t,.str_str i t0 k t⟩
  | _=>cases f'
 | _=>cases f
end kinds
inductive St3 (K:PySem.W.Frag) (B:Hp) (s:Shared):T->V->Value->Prop
 | flat {t x u}:qlr t=true->qg2 x=true->RelV x u->Rep K B t x->St3 K B s t x u
 | lst {ts p is vs}:s.heap.IsList p (List.toArray is)->Vals vs is->qaC K B ts vs->St3 K B s (.lst ts) (.ref p) (.ref p)
 | tup {ts p is vs}:s.heap.IsTuple p (List.toArray is)->Vals vs is->qaC K B ts vs->St3 K B s (.tup ts) (.ref p) (.ref p)
section
variable {X:Cx} {pins:List (Addr×Obj)} {σ:St} {H B:Hp} {s:Shared}
theorem st3 {n:Nat} {t:T} {x:V} {u:Value} (I:Inv X pins σ H s) (le:Le B H) (ok:okT n t=true) (r:Rep X.K B t x) (ru:RelV x u):St3 X.K B s t x u:=by
 cases t with
 | non=>have:=qbM r; subst this; exact .flat rfl rfl ru r
 | bl b=>have:=qbw r; subst this; exact .flat rfl rfl ru r
 | int b=>have:=qau r; subst this; exact .flat rfl rfl ru r
 | str b=>have:=qaG r; subst this; exact .flat rfl rfl ru r
 | tup ts=>
  obtain ⟨p,vs,rfl,hp,rs⟩:=qbq r
  cases ru
  obtain ⟨is,rv,pl,_⟩:=I.tuple (le.sqT hp)
  exact .tup pl rv rs
 | lst ts=>
  obtain ⟨p,vs,rfl,hp,rs⟩:=qbN r
  cases ru
  obtain ⟨is,rv,pl,_⟩:=I.list (SqL.of (le _ _ hp))
  exact .lst pl.isList rv rs
 | dct _=>cases n<;>cases ok
 | dtu _=>cases n<;>cases ok
 | dcf _=>cases n<;>cases ok
 | fn _=>cases n<;>cases ok
 | scr _=>cases n<;>cases ok
theorem qfz {K:PySem.W.Frag} {t u:T} {x y:V} (ft:qlr t=true) (fu:qlr u=true) (r:Rep K B t x) (r':Rep K B u y):eqT t u=eqV x y:=by
 cases t<;>first | cases ft | skip
 ·have:=qbM r; subst this; cases u<;>first | cases fu | skip
  ·have:=qbM r'; subst this; rfl
  ·have:=qbw r'; subst this; rfl
  ·have:=qau r'; subst this; rfl
  ·have:=qaG r'; subst this; rfl
 ·have:=qbw r; subst this; cases u<;>first | cases fu | skip
  ·have:=qbM r'; subst this; rfl
  ·have:=qbw r'; subst this; rfl
  ·have:=qau r'; subst this; rfl
  ·have:=qaG r'; subst this; rfl
 ·have:=qau r; subst this; cases u<;>first | cases fu | skip
  ·have:=qbM r'; subst this; rfl
  ·have:=qbw r'; subst this; rfl
  ·have:=qau r'; subst this; rfl
  ·have:=qaG r'; subst this; rfl
 ·have:=qaG r; subst this; cases u<;>first | cases fu | skip
  ·have:=qbM r'; subst this; rfl
  ·have:=qbw r'; subst this; rfl
  ·have:=qau r'; subst this; rfl
  ·have:=qaG r'; subst this; rfl
theorem qbS {t:T} {ts:List T} (f:qlr t=true):eqT t (.lst ts)=false/\eqT (.lst ts) t=false/\eqT t (.tup ts)=false/\eqT (.tup ts) t=false:=by
 cases t<;>first | exact ⟨rfl,rfl,rfl,rfl⟩ | cases f
theorem qcJ {n:Nat} {ts:List T} (h:ts.all (okT n)=true) {j:Nat} (hj:j<ts.length):okT n (ts.getD j .non)=true:=by
 rw[List.getD_eq_getElem?_getD,List.getElem?_eq_getElem hj]
 exact List.all_eq_true.mp h _ (List.getElem_mem hj)
theorem qdA {n:Nat} {ts:List T} (h:okT n (.lst ts)=true): ∃m,n=m+1/\ts.all (okT m)=true:=by
 cases n with
 | zero=>cases h
 | succ m=>exact ⟨m,rfl,h⟩
theorem qdz {n:Nat} {ts:List T} (h:okT n (.tup ts)=true): ∃m,n=m+1/\ts.all (okT m)=true:=by
 cases n with
 | zero=>cases h
 | succ m=>exact ⟨m,rfl,h⟩
mutual
theorem qfy: ∀(n:Nat) (t:T),okT n t=true->eqT t t=true
 | _,.non,_=>rfl
 | _,.bl b,_=>by simp[eqT]
 | _,.int b,_=>by simp[eqT]
 | _,.str b,_=>by simp[eqT]
 | _,.tup ts,h=>by
  obtain ⟨m,_,h'⟩:=qdz h
  rw[eqT]; exact qen m ts h'
 | _,.lst ts,h=>by
  obtain ⟨m,_,h'⟩:=qdA h
  rw[eqT]; exact qen m ts h'
 | n,.dct _,h=>by cases n<;>cases h
 | n,.dtu _,h=>by cases n<;>cases h
 | n,.dcf _,h=>by cases n<;>cases h
 | n,.fn _,h=>by cases n<;>cases h
 | n,.scr _,h=>by cases n<;>cases h
theorem qen: ∀(n:Nat) (ts:List T),ts.all (okT n)=true->qfN ts ts=true
 | _,[],_=>rfl
 | n,t::ts,h=>by
  rw[List.all_cons,Bool.and_eq_true] at h
  rw[qfN,qfy n t h.1,qen n ts h.2]; rfl
end
mutual
theorem qgH (I:Inv X pins σ H s) (le:Le B H): ∀(n m:Nat) (t u:T) (x:V),okT n t=true->okT m u=true->Rep X.K B t x->Rep X.K B u x->t=u
 | n,m,.non,u,x,_,hu,r,r'=>by
  have:=qbM r; subst this
  cases u with
  | non=>rfl
  | bl _=>cases qbw r'
  | int _=>cases qau r'
  | str _=>cases qaG r'
  | tup _=>obtain ⟨_,_,e,_⟩:=qbq r'; cases e
  | lst _=>obtain ⟨_,_,e,_⟩:=qbN r'; cases e
  | dct _=>cases m<;>cases hu
  | dtu _=>cases m<;>cases hu
  | dcf _=>cases m<;>cases hu
  | fn _=>cases m<;>cases hu
  | scr _=>cases m<;>cases hu
 | n,m,.bl _,u,x,_,hu,r,r'=>by
  have:=qbw r; subst this
  cases u with
  | non=>cases qbM r'
  | bl _=>cases qbw r'; rfl
  | int _=>cases qau r'
  | str _=>cases qaG r'
  | tup _=>obtain ⟨_,_,e,_⟩:=qbq r'; cases e
  | lst _=>obtain ⟨_,_,e,_⟩:=qbN r'; cases e
  | dct _=>cases m<;>cases hu
  | dtu _=>cases m<;>cases hu
  | dcf _=>cases m<;>cases hu
  | fn _=>cases m<;>cases hu
  | scr _=>cases m<;>cases hu
 | n,m,.int _,u,x,_,hu,r,r'=>by
  have:=qau r; subst this
  cases u with
  | non=>cases qbM r'
  | bl _=>cases qbw r'
  | int _=>cases qau r'; rfl
  | str _=>cases qaG r'
  | tup _=>obtain ⟨_,_,e,_⟩:=qbq r'; cases e
  | lst _=>obtain ⟨_,_,e,_⟩:=qbN r'; cases e
  | dct _=>cases m<;>cases hu
  | dtu _=>cases m<;>cases hu
  | dcf _=>cases m<;>cases hu
  | fn _=>cases m<;>cases hu
  | scr _=>cases m<;>cases hu
 | n,m,.str _,u,x,_,hu,r,r'=>by
  have:=qaG r; subst this
  cases u with
  | non=>cases qbM r'
  | bl _=>cases qbw r'
  | int _=>cases qau r'
  | str _=>cases qaG r'; rfl
  | tup _=>obtain ⟨_,_,e,_⟩:=qbq r'; cases e
  | lst _=>obtain ⟨_,_,e,_⟩:=qbN r'; cases e
  | dct _=>cases m<;>cases hu
  | dtu _=>cases m<;>cases hu
  | dcf _=>cases m<;>cases hu
  | fn _=>cases m<;>cases hu
  | scr _=>cases m<;>cases hu
 | n,m,.tup ts,u,x,ht,hu,r,r'=>by
  obtain ⟨p,vs,rfl,hp,rs⟩:=qbq r
  cases u with
  | non=>cases qbM r'
  | bl _=>cases qbw r'
  | int _=>cases qau r'
  | str _=>cases qaG r'
  | tup us=>
   obtain ⟨p',vs',e,hp',rs'⟩:=qbq r'
   cases e
   have:=I.tuple_inj (le.sqT hp) (le.sqT hp')
   subst this
   obtain ⟨n',_,ht'⟩:=qdz ht
   obtain ⟨m',_,hu'⟩:=qdz hu
   rw[qfg I le n' m' ts us vs ht' hu' rs rs']
  | lst us=>
   obtain ⟨p',vs',e,hp',rs'⟩:=qbN r'
   cases e
   obtain ⟨is,_,pl,_⟩:=I.tuple (le.sqT hp)
   obtain ⟨is',_,pl',_⟩:=I.list (SqL.of (le _ _ hp'))
   obtain ⟨o,e1,c1,_⟩:=pl
   obtain ⟨o',e2,c2,_⟩:=pl'.isList
   rw[e1] at e2; cases e2; rw[c1] at c2; injection c2 with c2; exact absurd c2 (by decide)
  | dct _=>cases m<;>cases hu
  | dtu _=>cases m<;>cases hu
  | dcf _=>cases m<;>cases hu
  | fn _=>cases m<;>cases hu
  | scr _=>cases m<;>cases hu
 | n,m,.lst ts,u,x,ht,hu,r,r'=>by
  obtain ⟨p,vs,rfl,hp,rs⟩:=qbN r
  cases u with
  | non=>cases qbM r'
  | bl _=>cases qbw r'
  | int _=>cases qau r'
  | str _=>cases qaG r'
  | lst us=>
   obtain ⟨p',vs',e,hp',rs'⟩:=qbN r'
   cases e
   rw[hp] at hp'; cases hp'
   obtain ⟨n',_,ht'⟩:=qdA ht
   obtain ⟨m',_,hu'⟩:=qdA hu
   rw[qfg I le n' m' ts us vs ht' hu' rs rs']
  | tup us=>
   obtain ⟨p',vs',e,hp',rs'⟩:=qbq r'
   cases e
   obtain ⟨is,_,pl,_⟩:=I.tuple (le.sqT hp')
   obtain ⟨is',_,pl',_⟩:=I.list (SqL.of (le _ _ hp))
   obtain ⟨o,e1,c1,_⟩:=pl
   obtain ⟨o',e2,c2,_⟩:=pl'.isList
   rw[e1] at e2; cases e2; rw[c1] at c2; injection c2 with c2; exact absurd c2 (by decide)
  | dct _=>cases m<;>cases hu
  | dtu _=>cases m<;>cases hu
  | dcf _=>cases m<;>cases hu
  | fn _=>cases m<;>cases hu
  | scr _=>cases m<;>cases hu
 | n,m,.dct _,u,x,ht,_,_,_=>by cases n<;>cases ht
 | n,m,.dtu _,u,x,ht,_,_,_=>by cases n<;>cases ht
 | n,m,.dcf _,u,x,ht,_,_,_=>by cases n<;>cases ht
 | n,m,.fn _,u,x,ht,_,_,_=>by cases n<;>cases ht
 | n,m,.scr _,u,x,ht,_,_,_=>by cases n<;>cases ht
theorem qfg (I:Inv X pins σ H s) (le:Le B H): ∀(n m:Nat) (ts us:List T) (vs:List V),ts.all (okT n)=true->us.all (okT m)=true->qaC X.K B ts vs->qaC X.K B us vs->ts=us
 | _,_,[],us,vs,_,_,r,r'=>by
  have:=r.inv0; subst this
  cases us with
  | nil=>rfl
  | cons _ _=>obtain ⟨_,_,e,_⟩:=r'.inv; cases e
 | n,m,t::ts,us,vs,ht,hu,r,r'=>by
  obtain ⟨v,vs',rfl,a,b⟩:=r.inv
  cases us with
  | nil=>cases r'.inv0
  | cons u us=>
   obtain ⟨v',vs'',e,a',b'⟩:=r'.inv
   cases e
   rw[List.all_cons,Bool.and_eq_true] at ht hu
   rw[qgH I le n m t u v ht.1 hu.1 a a',qfg I le n m ts us vs' ht.2 hu.2 b b']
end
open SeqAt in
theorem qmh (I:Inv X pins σ H s) (le:Le B H): ∀(n m:Nat) (A:Around) (t u:T) (x y:V) (v w:Value),okT n t=true->okT m u=true->A.units+n<cLine->Rep X.K B t x->Rep X.K B u y->RelV x v->RelV y w->EqAt A s v w (eqT t u):=by
 intro n
 induction n with
 | zero=>
  intro m A t u x y v w ht hu hc r r' rv rw'
  rcases st3 I le ht r rv with ⟨f,fx,_,_⟩ | _ | _
  ·rcases st3 I le hu r' rw' with ⟨g,gx,_,_⟩ | ⟨pl,_,_⟩ | ⟨pl,_,_⟩
   ·rw[qfz f g r r']; exact qmg rv rw' fx gx
   ·rw[(qbS f).1]; exact (qg4 rv fx pl (by lia)).1
   ·rw[(qbS f).2.2.1]; exact (qg3 rv fx pl (by lia)).1
  ·cases ht
  ·cases ht
 | succ n ih=>
  intro m A t u x y v w ht hu hc r r' rv rw'
  have hA:A.units<cLine:=by lia
  rcases st3 I le ht r rv with ⟨f,fx,_,_⟩ | ⟨pl,vs,rs⟩ | ⟨pl,vs,rs⟩
  ·rcases st3 I le hu r' rw' with ⟨g,gx,_,_⟩ | ⟨pl,_,_⟩ | ⟨pl,_,_⟩
   ·rw[qfz f g r r']; exact qmg rv rw' fx gx
   ·rw[(qbS f).1]; exact (qg4 rv fx pl hA).1
   ·rw[(qbS f).2.2.1]; exact (qg3 rv fx pl hA).1
  ·rename_i ts p is xs
   rcases st3 I le hu r' rw' with ⟨g,gx,_,_⟩ | ⟨pl',vs',rs'⟩ | ⟨pl',_,_⟩
   ·rw[(qbS g).2.1]; exact (qg4 rw' gx pl hA).2.1
   ·rename_i us p' is' ys
    by_cases z:p=p'
    ·subst z
     have e:=qgH I le (n+1) m _ _ _ ht hu r r'
     rw[<-e,qfy _ _ ht]
     exact EqAt.same _
    ·have l1:=vs.length
     have l2:=vs'.length
     have l3:=rs.length
     have l4:=rs'.length
     refine EqAt.of_refs z ?_
     show RcAt A s _ _ (qfN ts us)
     by_cases hl:ts.length=us.length
     ·rw[qhV hl]
      have q:=RcAt.lists (A:=A) (s:=s) (e:=qhy ts us) pl pl' (by simp; lia) hA λj a1 a2=> ?_
      ·have:(List.toArray is).size=ts.length:=by simp; lia
       rw[this] at q; exact q
      ·have b1:j<ts.length:=by simp at a1; lia
       have b2:j<us.length:=by lia
       obtain ⟨m',rfl,hu'⟩:=qdA hu
       exact ih m' A.in1 _ _ _ _ _ _ (qcJ ht b1) (qcJ hu' b2) (by show A.units+1+n<cLine; lia) (rs.getD j b1) (rs'.getD j b2) (RH.valsArr vs a1) (RH.valsArr vs' a2)
     ·rw[qj4 hl]
      exact RcAt.lists_lengths pl pl' (by simp; lia) hA
   ·exact EqAt.list_tuple pl pl' hA
  ·rename_i ts p is xs
   rcases st3 I le hu r' rw' with ⟨g,gx,_,_⟩ | ⟨pl',vs',rs'⟩ | ⟨pl',vs',rs'⟩
   ·rw[(qbS g).2.2.2]; exact (qg3 rw' gx pl hA).2.1
   ·exact EqAt.tuple_list pl pl' hA
   ·rename_i us p' is' ys
    by_cases z:p=p'
    ·subst z
     have e:=qgH I le (n+1) m _ _ _ ht hu r r'
     rw[<-e,qfy _ _ ht]
     exact EqAt.same _
    ·have l1:=vs.length
     have l2:=vs'.length
     have l3:=rs.length
     have l4:=rs'.length
     refine EqAt.of_refs z ?_
     show RcAt A s _ _ (qfN ts us)
     rw[qdq]
     have q:=RcAt.tuples (A:=A) (s:=s) (e:=qhy ts us) pl pl' hA λj a1 a2=> ?_
     ·have e1:(List.toArray is).size=ts.length:=by simp; lia
      have e2:(List.toArray is').size=us.length:=by simp; lia
      rw[e1,e2] at q; exact q
     ·have b1:j<ts.length:=by simp at a1; lia
      have b2:j<us.length:=by simp at a2; lia
      obtain ⟨m',rfl,hu'⟩:=qdz hu
      exact ih m' A.in1 _ _ _ _ _ _ (qcJ ht b1) (qcJ hu' b2) (by show A.units+1+n<cLine; lia) (rs.getD j b1) (rs'.getD j b2) (RH.valsArr vs a1) (RH.valsArr vs' a2)
open SeqAt in
theorem ql2 (I:Inv X pins σ H s) (le:Le B H) (n:Nat) (A:Around) (t u:T) (x y:V) (v w:Value) (ht:okT n t=true) (hu:okT n u=true) (hc:A.units+n<cLine) (r:Rep X.K B t x) (r':Rep X.K B u y) (rv:RelV x v) (rw':RelV y w):RcAt A s v w (eqT t u)/\RcNeAt A s v w (!eqT t u):=by
 have hA:A.units<cLine:=by lia
 rcases st3 I le ht r rv with ⟨f,fx,_,_⟩ | ⟨pl,vs,rs⟩ | ⟨pl,vs,rs⟩
 ·rcases st3 I le hu r' rw' with ⟨g,gx,_,_⟩ | ⟨pl,_,_⟩ | ⟨pl,_,_⟩
  ·rw[qfz f g r r']; exact qqM rv fx rw' gx
  ·rw[(qbS f).1]; exact ⟨(qg4 rv fx pl hA).2.2.1,(qg4 rv fx pl hA).2.2.2.2.1⟩
  ·rw[(qbS f).2.2.1]; exact ⟨(qg3 rv fx pl hA).2.2.1,(qg3 rv fx pl hA).2.2.2.2.1⟩
 ·rename_i ts p is xs
  rcases st3 I le hu r' rw' with ⟨g,gx,_,_⟩ | ⟨pl',vs',rs'⟩ | ⟨pl',_,_⟩
  ·rw[(qbS g).2.1]; exact ⟨(qg4 rw' gx pl hA).2.2.2.1,(qg4 rw' gx pl hA).2.2.2.2.2⟩
  ·rename_i us p' is' ys
   have l1:=vs.length
   have l2:=vs'.length
   have l3:=rs.length
   have l4:=rs'.length
   obtain ⟨n',rfl,ht'⟩:=qdA ht
   obtain ⟨m',e,hu'⟩:=qdA hu
   cases e
   show RcAt A s _ _ (qfN ts us)/\RcNeAt A s _ _ (!qfN ts us)
   by_cases hl:ts.length=us.length
   ·rw[qhV hl]
    have it: ∀j (a1:j<(List.toArray is).size) (a2:j<(List.toArray is').size),EqAt A.in1 s (List.toArray is)[j] (List.toArray is')[j] (qhy ts us j):=λj a1 a2=>by
     have b1:j<ts.length:=by simp at a1; lia
     have b2:j<us.length:=by lia
     exact qmh I le n' n' A.in1 _ _ _ _ _ _ (qcJ ht' b1) (qcJ hu' b2) (by show A.units+1+n'<cLine; lia) (rs.getD j b1) (rs'.getD j b2) (RH.valsArr vs a1) (RH.valsArr vs' a2)
    have ez:(List.toArray is).size=ts.length:=by simp; lia
    have q1:=RcAt.lists (A:=A) (s:=s) (e:=qhy ts us) pl pl' (by simp; lia) hA it
    have q2:=RcNeAt.lists (A:=A) (s:=s) (e:=qhy ts us) pl pl' (by simp; lia) hA it
    rw[ez] at q1 q2
    exact ⟨q1,q2⟩
   ·rw[qj4 hl]
    exact ⟨RcAt.lists_lengths pl pl' (by simp; lia) hA,RcNeAt.lists_lengths pl pl' (by simp; lia) hA⟩
  ·exact ⟨RcAt.list_tuple pl pl' hA,RcNeAt.list_tuple pl pl' hA⟩
 ·rename_i ts p is xs
  rcases st3 I le hu r' rw' with ⟨g,gx,_,_⟩ | ⟨pl',vs',rs'⟩ | ⟨pl',vs',rs'⟩
  ·rw[(qbS g).2.2.2]; exact ⟨(qg3 rw' gx pl hA).2.2.2.1,(qg3 rw' gx pl hA).2.2.2.2.2⟩
  ·exact ⟨RcAt.tuple_list pl pl' hA,RcNeAt.tuple_list pl pl' hA⟩
  ·rename_i us p' is' ys
   have l1:=vs.length
   have l2:=vs'.length
   have l3:=rs.length
   have l4:=rs'.length
   obtain ⟨n',rfl,ht'⟩:=qdz ht
   obtain ⟨m',e,hu'⟩:=qdz hu
   cases e
   show RcAt A s _ _ (qfN ts us)/\RcNeAt A s _ _ (!qfN ts us)
   rw[qdq]
   have it: ∀j (a1:j<(List.toArray is).size) (a2:j<(List.toArray is').size),EqAt A.in1 s (List.toArray is)[j] (List.toArray is')[j] (qhy ts us j):=λj a1 a2=>by
    have b1:j<ts.length:=by simp at a1; lia
    have b2:j<us.length:=by simp at a2; lia
    exact qmh I le n' n' A.in1 _ _ _ _ _ _ (qcJ ht' b1) (qcJ hu' b2) (by show A.units+1+n'<cLine; lia) (rs.getD j b1) (rs'.getD j b2) (RH.valsArr vs a1) (RH.valsArr vs' a2)
   have e1:(List.toArray is).size=ts.length:=by simp; lia
   have e2:(List.toArray is').size=us.length:=by simp; lia
   have q1:=RcAt.tuples (A:=A) (s:=s) (e:=qhy ts us) pl pl' hA it
   have q2:=RcNeAt.tuples (A:=A) (s:=s) (e:=qhy ts us) pl pl' hA it
   rw[e1,e2] at q1 q2
   exact ⟨q1,q2⟩
end
end PL
end
section
namespace PL
open PySem L2
def qfM:T->T->Rs T
 | .int i,.int j=>.ok (.int (i+j))
 | .str x,.str y=>if x.length+y.length<=1000 then .ok (.str (x++y)) else .no
 | .lst xs,.lst ys=>if xs.length+ys.length<=1000 then .ok (.lst (xs++ys)) else .no
 | .tup (x::xs),.tup (y::ys)=>if (x::xs).length+(y::ys).length<=1000 then .ok (.tup ((x::xs)++(y::ys))) else .no
 | _,_=>.no
def gSub:T->T->Rs T
 | .int i,.int j=>.ok (.int (i - j))
 | _,_=>.no
def qkH:T->T->Rs T
 | .int i,.int j=>if (-1000000<=i/\i<=1000000)\/(-1000000<=j/\j<=1000000) then .ok (.int (i*j)) else .no
 | _,_=>.no
def qsU:T->T->Rs T
 | .int i,.int j=>if 0<j/\j<1073741824 then .ok (.int (i / j)) else .no
 | _,_=>.no
def qhS:T->T->Rs T
 | .int i,.int j=>if 0<j then .ok (.int (i % j)) else .no
 | _,_=>.no
def qr1:T->Rs T
 | .int i=>.ok (.int (-i))
 | _=>.no
def qod (x y:Str):Bool:=decide (x.cps.toList<y.cps.toList)
def gLt:T->T->Rs T
 | .int i,.int j=>.ok (.bl (decide (i<j)))
 | .str x,.str y=>.ok (.bl (qod x y))
 | _,_=>.no
def gLe:T->T->Rs T
 | .int i,.int j=>.ok (.bl (decide (i<=j)))
 | .str x,.str y=>.ok (.bl (!qod y x))
 | _,_=>.no
def gGt:T->T->Rs T
 | .int i,.int j=>.ok (.bl (decide (j<i)))
 | _,_=>.no
def gGe:T->T->Rs T
 | .int i,.int j=>.ok (.bl (decide (j<=i)))
 | _,_=>.no
def gEq (a b:T):Rs T:=if okT 8 a=true/\okT 8 b=true then .ok (.bl (eqT a b)) else .no
def gNe (a b:T):Rs T:=if okT 8 a=true/\okT 8 b=true then .ok (.bl (!eqT a b)) else .no
def gIx:T->T->Rs T
 | .lst ts,.int k=>(match atI ts k with | some t=>.ok t | none=>.no)
 | .tup ts,.int k=>(match atI ts k with | some t=>.ok t | none=>.no)
 | .str z,.int k=>if z.length<=1000 then (match atI z.cps.toList k with | some c=>.ok (.str ⟨#[c]⟩) | none=>.no) else .no
 | _,_=>.no
def gIs:T->T->Rs T
 | x,.non=>(match x with | .non=>.ok (.bl true) | .dct _=>.no | .scr _=>.no | _=>.ok (.bl false))
 | .bl a,.bl b=>.ok (.bl (a==b))
 | _,_=>.no
def qpg:T->T->Rs T
 | x,.non=>(match x with | .non=>.ok (.bl false) | .dct _=>.no | .scr _=>.no | _=>.ok (.bl true))
 | .bl a,.bl b=>.ok (.bl (a != b))
 | _,_=>.no
section
variable {M:Md} {X:Cx}
def qov (K:PySem.W.Frag):R2:=λx y H Q=>(rI0 (λi j=>.int (i+j)) x y H Q\/(∃i j,x= .str i/\y= .str j/\i.length+j.length<=sizeLine/\Q (.str (i++j)) H))\/(qrS x y H Q\/qou K x y H Q)
theorem qc9:OpR X (binaryOp .Add) (qov X.K):=(qf4.or qim).or (qhC.or qm3)
theorem qec:Pl qfM:=λa b c e=>by unfold qfM at e; split at e<;>first | cases e | (split at e<;>cases e)
theorem qd7 (hK:X.K=M.K:=by rfl):RS M (qov X.K) qfM:=by
 intro H B x y a b c Q le bt m ra rb e k
 have same: ∀{t:T} {v:V},(∀B,Rep M.K B t v)->c=t->Q v H:=λr ec=>by subst ec; exact k _ H B (.refl le bt) m (r B)
 unfold qfM at e
 split at e
 ·cases e
  rw[qau ra,qau rb]
  exact .inl (.inl ⟨_,_,rfl,rfl,same (λB=>qbL) rfl⟩)
 ·split at e
  ·rename_i hz
   cases e
   rw[qaG ra,qaG rb]
   exact .inl (.inr ⟨_,_,rfl,rfl,Nat.le_of_lt (qbs hz),same (λB=>qhD) rfl⟩)
  ·cases e
 ·split at e
  ·rename_i xs ys hz
   cases e
   obtain ⟨p,us,rfl,hp,r1⟩:=qbN ra
   obtain ⟨q,ws,rfl,hq,r2⟩:=qbN rb
   refine .inr (.inl ⟨p,q,us,ws,rfl,rfl,le _ _ hp,le _ _ hq,Nat.le_of_lt (qbs (by rw[r1.length,r2.length]; exact hz)),λd hd=> ?_⟩)
   have g:=qa2.new (o:=HO.lst (us++ws)) le bt hd (by intro ps z; cases z)
   exact k _ _ _ g (M.G.st H _ (λa o e _ _ _ _=>by rw[qae (qao e hd)]; exact e) m) (qmb qak ((r1.append r2).mono g.bb))
  ·cases e
 ·split at e
  ·rename_i x xs y ys hz
   cases e
   obtain ⟨p,us,rfl,hp,r1⟩:=qbq ra
   obtain ⟨q,ws,rfl,hq,r2⟩:=qbq rb
   have l1:=r1.length
   have l2:=r2.length
   refine .inr (.inr ⟨p,q,us,ws,rfl,rfl,by rw[hK]; exact le.sqT hp,by rw[hK]; exact le.sqT hq,(λz=>by rw[z] at l1; cases l1),Nat.le_of_lt (qbs (by lia)),(λz=>by rw[z] at l2; cases l2),λ_ d hd=> ?_⟩)
   have g:=qa2.new (o:=HO.tup (us++ws)) le bt hd (by intro ps z; cases z)
   exact k _ _ _ g (M.G.st H _ (λa o e _ _ _ _=>by rw[qae (qao e hd)]; exact e) m) (qma qak ((r1.append r2).mono g.bb))
  ·cases e
 ·cases e
theorem qiZ:RS M (rI0 λi j=>.int (i - j)) gSub:=by
 intro H B x y a b c Q le bt m ra rb e k
 unfold gSub at e
 split at e
 ·cases e
  exact ⟨_,_,qau ra,qau rb,k _ H B (.refl le bt) m qbL⟩
 ·cases e
theorem qje:Pl gSub:=λa b c e=>by unfold gSub at e; split at e<;>cases e
theorem ql0:RS M (rI qpV λi j=>.int (i*j)) qkH:=by
 intro H B x y a b c Q le bt m ra rb e k
 unfold qkH at e
 split at e
 ·split at e
  ·rename_i h
   cases e
   refine ⟨_,_,qau ra,qau rb,?_,k _ H B (.refl le bt) m qbL⟩
   rcases h with h | h
   ·exact .inl ⟨by lia,by lia⟩
   ·exact .inr ⟨by lia,by lia⟩
  ·cases e
 ·cases e
theorem ql8:Pl qkH:=λa b c e=>by unfold qkH at e; split at e<;>first | cases e | (split at e<;>cases e)
theorem qi0:RS M (rI (λ_ j=>0<j) λi j=>.int (i % j)) qhS:=by
 intro H B x y a b c Q le bt m ra rb e k
 unfold qhS at e
 split at e
 ·split at e
  ·rename_i h
   cases e
   exact ⟨_,_,qau ra,qau rb,h,k _ H B (.refl le bt) m qbL⟩
  ·cases e
 ·cases e
theorem qjf:Pl qhS:=λa b c e=>by unfold qhS at e; split at e<;>first | cases e | (split at e<;>cases e)
theorem qb1:OpR X (compareOp .LtE) (λx y H Q=>rI0 (λi j=>.bl (decide (i<=j))) x y H Q\/∃i j,x= .str i/\y= .str j/\Q (.bl (!decide (j.cps.toList<i.cps.toList))) H):=qqW.or qjp
theorem qd6:RS M (λx y H Q=>rI0 (λi j=>.bl (decide (i<=j))) x y H Q\/∃i j,x= .str i/\y= .str j/\Q (.bl (!decide (j.cps.toList<i.cps.toList))) H) gLe:=by
 intro H B x y a b c Q le bt m ra rb e k
 unfold gLe at e
 split at e
 ·cases e; exact .inl ⟨_,_,qau ra,qau rb,k _ H B (.refl le bt) m qdB⟩
 ·cases e; exact .inr ⟨_,_,qaG ra,qaG rb,k _ H B (.refl le bt) m qdB⟩
 ·cases e
theorem qeb:Pl gLe:=λa b c e=>by unfold gLe at e; split at e<;>cases e
theorem qon:RS M (rI0 λi j=>.bl (decide (j<i))) gGt:=by
 intro H B x y a b c Q le bt m ra rb e k
 unfold gGt at e
 split at e
 ·cases e; exact ⟨_,_,qau ra,qau rb,k _ H B (.refl le bt) m qdB⟩
 ·cases e
theorem qoA:Pl gGt:=λa b c e=>by unfold gGt at e; split at e<;>cases e
def qot (K:PySem.W.Frag) (neg:Bool):R2:=λx y H Q=> ∃B t u,Le B H/\Rep K B t x/\Rep K B u y/\okT 8 t=true/\okT 8 u=true/\Q (.bl (if neg then !eqT t u else eqT t u)) H
theorem ql9 (hu:X.A.units+8<cLine):OpR X (compareOp .Eq) (qot X.K false):=by
 intro pins s σ H x y v u Q I rx ry hq181
 obtain ⟨B,t,u',le,ra,rb,o1,o2,q⟩:=hq181
 exact (ql2 I le 8 X.A t u' x y v u o1 o2 hu ra rb rx ry).1 _ _ _ _ ⟨.bl _,H,I,rfl,q⟩
theorem qc4 (hu:X.A.units+8<cLine):OpR X (compareOp .NotEq) (qot X.K true):=by
 intro pins s σ H x y v u Q I rx ry hq184
 obtain ⟨B,t,u',le,ra,rb,o1,o2,q⟩:=hq184
 exact (ql2 I le 8 X.A t u' x y v u o1 o2 hu ra rb rx ry).2 _ _ _ _ ⟨.bl _,H,I,rfl,q⟩
theorem qoo (hK:X.K=M.K:=by rfl):RS M (qot X.K false) gEq:=by
 intro H B x y a b c Q le bt m ra rb e k
 unfold gEq at e
 split at e
 ·rename_i h
  cases e
  exact ⟨B,a,b,le,by rw[hK]; exact ra,by rw[hK]; exact rb,h.1,h.2,k _ H B (.refl le bt) m qdB⟩
 ·cases e
theorem qoB:Pl gEq:=λa b c e=>by unfold gEq at e; split at e<;>cases e
theorem qfe (hK:X.K=M.K:=by rfl):RS M (qot X.K true) gNe:=by
 intro H B x y a b c Q le bt m ra rb e k
 unfold gNe at e
 split at e
 ·rename_i h
  cases e
  exact ⟨B,a,b,le,by rw[hK]; exact ra,by rw[hK]; exact rb,h.1,h.2,k _ H B (.refl le bt) m qdB⟩
 ·cases e
theorem qfm:Pl gNe:=λa b c e=>by unfold gNe at e; split at e<;>cases e
theorem qfi {K:PySem.W.Frag} {B:Hp} {ts:List T} {vs:List V} {k:Int} {t:T} (r:qaC K B ts vs) (e:atI ts k=some t): ∃v,atI vs k=some v/\Rep K B t v:=by
 unfold atI at e⊢
 rw[r.length]
 cases q:ixN ts.length k with
 | none=>rw[q] at e; cases e
 | some j=>rw[q] at e; exact r.get e
theorem qbz (hK:X.K=M.K:=by rfl):RS M (rIx X.K) gIx:=by
 intro H B x y a b c Q le bt m ra rb e k
 unfold gIx at e
 split at e
 ·split at e
  ·rename_i ts i t et
   cases e
   obtain ⟨p,vs,rfl,hp,r⟩:=qbN ra
   obtain ⟨v,ev,rv⟩:=qfi r et
   exact .inl ⟨p,vs,_,v,rfl,qau rb,SqL.of (le _ _ hp),ev,k _ H B (.refl le bt) m rv⟩
  ·cases e
 ·split at e
  ·rename_i ts i t et
   cases e
   obtain ⟨p,vs,rfl,hp,r⟩:=qbq ra
   obtain ⟨v,ev,rv⟩:=qfi r et
   exact .inr (.inl ⟨p,vs,_,v,rfl,qau rb,by rw[hK]; exact le.sqT hp,ev,k _ H B (.refl le bt) m rv⟩)
  ·cases e
 ·split at e
  ·rename_i hz
   split at e
   ·rename_i ch ec
    cases e
    exact .inr (.inr ⟨_,_,ch,qaG ra,qau rb,Nat.le_of_lt (qbs hz),ec,k _ H B (.refl le bt) m qhD⟩)
   ·cases e
  ·cases e
 ·cases e
theorem qbA:Pl gIx:=λa b c e=>by
 unfold gIx at e
 split at e
 ·split at e<;>cases e
 ·split at e<;>cases e
 ·split at e
  ·split at e<;>cases e
  ·cases e
 ·cases e
end
end PL
end
section
namespace PL
open PySem L2
theorem PO.weak {X:Cx} {e:Option Expr} {t t':TO} (h:PO X e t) (w: ∀σ H Q,t' σ H Q->t σ H Q):PO X e t':=λpins s σ H Q I q=>h pins s σ H Q I (w σ H Q q)
def qgA (M:Md) (H B:Hp) (q:Bool×List T) (p:Addr) (vs:List V):Prop:=if q.1=true then H p=some (.lst vs) else SqT M.K B p vs
theorem qgA.grow {M:Md} {H B H' B':Hp} {q:Bool×List T} {p:Addr} {vs:List V} (h:qgA M H B q p vs) (g:qa2 H B H' B'):qgA M H' B' q p vs:=by
 unfold qgA at h⊢
 by_cases c:q.1=true
 ·rw[if_pos c] at h⊢
  exact g.gx.hh _ _ h (by intro ps z; cases z)
 ·rw[if_neg c] at h⊢
  exact g.bb.sqT h
theorem qgA.seq {M:Md} {X:Cx} {H B:Hp} {q:Bool×List T} {p:Addr} {vs:List V} (h:qgA M H B q p vs) (le:Le B H) (hK:X.K=M.K):SqL X.K H p vs\/SqT X.K H p vs:=by
 unfold qgA at h
 split at h
 ·exact .inl (SqL.of h)
 ·exact .inr (by rw[hK]; exact le.sqT h)
section
variable {M:Md} {X:Cx} {e a b:Expr} {pos p2:Pos} {da db:Ro->Rs T} {dq:Ro->Rs (Bool×List T)} {lo hi:Option Expr} {dl dh:Ro->Rs (Option Int)}
def dCQ (g:Bool×List T->Rs T) (dq:Ro->Rs (Bool×List T)):Ro->Rs T:=λρ=>dq ρ>>=g
def qdu (g:Bool×List T->Rs (List T)) (dq:Ro->Rs (Bool×List T)):Ro->Rs (List T):=λρ=>dq ρ>>=g
theorem qh0 {r:List V->Hp->VK->Prop} {g:Bool×List T->Rs T} (h:PE X e (tCB r (qc8 (tQ M dq) qhq)))
  (hs: ∀(H B:Hp) (p:Addr) (vs:List V) (q:Bool×List T) (c:T) (Q:VK),Le B H->(∀a ps,B a≠some (.tbl ps))->M.G.P H->qgA M H B q p vs->qaC M.K B q.2 vs->g q= .ok c->(∀v H' B',qa2 H B H' B'->M.G.P H'->Rep M.K B' c v->Q v H')->r [.ref p] H Q)
  (hp: ∀q c,g q≠.ex c):DE M X e (dCQ g dq):=by
 refine PE.weak h λσ H Q hq30=> ?_
 obtain ⟨H0,B0,ρ,B,ev,w⟩:=hq30
 refine tQ.of ev (Wnt.mono (Wnt.bind (qaM.mp w)) λq w1 p vs H1 B1 g1 m1 hq r1=> ?_)
 have ev1:=ev.grow g1 m1
 cases z:g q with
 | no=>rw[z] at w1; exact w1.elim
 | ex c=>exact absurd z (hp q c)
 | ok c=>
  rw[z] at w1
  exact hs H1 B1 p vs q c Q ev1.bh ev1.bt m1 hq r1 z λv H' B' g' m' r'=>w1 v H' B' (g1.trans g') m' r'
theorem qpp {r:List V->Hp->VK->Prop} {g:Bool×List T->Rs (List T)} (h:PE X e (tCB r (qc8 (tQ M dq) qhq)))
  (hs: ∀(H B:Hp) (p:Addr) (vs:List V) (q:Bool×List T) (c:List T) (Q:VK),Le B H->(∀a ps,B a≠some (.tbl ps))->M.G.P H->qgA M H B q p vs->qaC M.K B q.2 vs->g q= .ok c->(∀p' ws H' B',qa2 H B H' B'->M.G.P H'->H p'=none->B' p'=none->H' p'=some (.lst ws)->qaC M.K B' c ws->Q (.ref p') H')->r [.ref p] H Q)
  (hp: ∀q c,g q≠.ex c):DF M X e (qdu g dq):=by
 refine PE.weak h λσ H Q hq42=> ?_
 obtain ⟨H0,B0,ρ,B,ev,w⟩:=hq42
 refine tQ.of ev (Wnt.mono (Wnt.bind (qbF.mp w)) λq w1 p vs H1 B1 g1 m1 hq r1=> ?_)
 have ev1:=ev.grow g1 m1
 cases z:g q with
 | no=>rw[z] at w1; exact w1.elim
 | ex c=>exact absurd z (hp q c)
 | ok c=>
  rw[z] at w1
  exact hs H1 B1 p vs q c Q ev1.bh ev1.bt m1 hq r1 z λp' ws H' B' g' m' n1 n2 n3 r'=>w1 p' ws H' B' (g1.trans g') m' (qbD g1.gx n1) n2 n3 r'
theorem qce {H B:Hp} {p:Addr} {ws:List V} (le:Le B H) (bt: ∀a ps,B a≠some (.tbl ps)) (m:M.G.P H) (hp:H p=none):qa2 H B (upd H p (.lst ws)) B/\M.G.P (upd H p (.lst ws))/\B p=none:=
 ⟨.own le bt hp,M.G.st H _ (λa o e _ _ _ _=>by rw[qae (qao e hp)]; exact e) m,by
  cases q:B p with
  | none=>rfl
  | some u=>rw[le _ _ q] at hp; cases hp⟩
def qd0:Bool×List T->Rs T:=λq=>.ok (.int q.2.length)
theorem qpt (h:PE X e (tCB (λxs H Q=> ∃p ys,xs=[.ref p]/\(SqL X.K H p ys\/SqT X.K H p ys)/\Q (.int ys.length) H) (qc8 (tQ M dq) qhq))) (hK:X.K=M.K:=by rfl):DE M X e (dCQ qd0 dq):=
 qh0 h (λH B p vs q c Q le bt m hq r e k=>by
  cases e
  exact ⟨p,vs,rfl,hq.seq le hK,by rw[r.length]; exact k _ H B (.refl le bt) m qbL⟩) (λq c e=>by cases e)
def qbg:Bool×List T->Rs (List T):=λq=>.ok q.2
def qbe:Bool×List T->Rs T:=λq=>if q.1=true then .ok (.tup q.2) else .no
def qr8 (dp dq:Ro->Rs (Bool×List T)):Ro->Rs (List T):=λρ=>dp ρ>>=λx=>dq ρ>>=λy=>if (x.1=true/\y.1=true)/\x.2.length+y.2.length<=1000 then .ok (x.2++y.2) else .no
theorem qpo {dp:Ro->Rs (Bool×List T)} (ha:DQ M X a dp) (hb:DQ M X b dq):DF M X (.BinOp a .Add b pos) (qr8 dp dq):=by
 refine PE.weak (qcx qhC ha hb) λσ H Q hq81=> ?_
 obtain ⟨H0,B0,ρ,B,ev,w⟩:=hq81
 refine tQ.of ev (Wnt.mono (Wnt.bind (qbF.mp w)) λx w1 p vs H1 B1 g1 m1 hx r1=> ?_)
 have ev1:=ev.grow g1 m1
 refine tQ.of ev1 (Wnt.mono (Wnt.bind w1) λy w2 p' vs' H2 B2 g2 m2 hy r2=> ?_)
 have ev2:=ev1.grow g2 m2
 split at w2
 ·rename_i hc
  rw[if_pos hc.1.1] at hx
  rw[if_pos hc.1.2] at hy
  refine ⟨p,p',vs,vs',rfl,rfl,g2.gx.hh _ _ hx (by intro ps z; cases z),hy,Nat.le_of_lt (qbs (by rw[r1.length,r2.length]; exact hc.2)),λl hl=> ?_⟩
  obtain ⟨g,m',bp⟩:=qce (M:=M) (ws:=vs++vs') ev2.bh ev2.bt m2 hl
  exact w2 l _ _ B2 ((g1.trans g2).trans g) m' (qbD (g1.trans g2).gx hl) bp qak ((r1.mono g2.bb).append r2)
 ·exact w2.elim
def ixQ (q:Bool×List T):T->Rs T
 | .int k=>(match atI q.2 k with | some t=>.ok t | none=>.no)
 | _=>.no
def qdF (dq:Ro->Rs (Bool×List T)) (db:Ro->Rs T):Ro->Rs T:=λρ=>dq ρ>>=λq=>db ρ>>=λk=>ixQ q k
theorem qkf (ha:DQ M X a dq) (hb:DE M X b db) (hs:qhl b) (hK:X.K=M.K:=by rfl):DE M X (.Subscript a b pos) (qdF dq db):=by
 refine PE.weak (qjl qaP ha hb hs) λσ H Q hq100=> ?_
 obtain ⟨H0,B0,ρ,B,ev,w⟩:=hq100
 refine tQ.of ev (Wnt.mono (Wnt.bind (qaM.mp w)) λq w1 p vs H1 B1 g1 m1 hx r1=> ?_)
 have ev1:=ev.grow g1 m1
 refine tP.of ev1 (Wnt.mono (Wnt.bind w1) λy w2 v H2 B2 g2 m2 r2=> ?_)
 cases y with
 | int k=>
  have e1:=qau r2
  subst e1
  unfold ixQ at w2
  dsimp only at w2
  split at w2
  ·rename_i t et
   obtain ⟨u,eu,ru⟩:=qfi (r1.mono g2.bb) et
   have w3:=w2 u H2 B2 (g1.trans g2) m2 ru
   rcases (qgA.grow (M:=M) hx g2).seq (ev1.grow g2 m2).bh hK with h | h
   ·exact .inl ⟨p,vs,k,u,rfl,rfl,h,eu,w3⟩
   ·exact .inr (.inl ⟨p,vs,k,u,rfl,rfl,h,eu,w3⟩)
  ·exact w2.elim
 | _=>exact w2.elim
def tPO (M:Md) (d:Ro->Rs (Option Int)):TO:=λσ H Q=> ∃H0 B0 ρ B,Ev M H0 B0 ρ σ H B/\Wnt M H0 (λo=> ∀H' B',qa2 H B H' B'->M.G.P H'->Q o H') (d ρ)
abbrev DO (M:Md) (X:Cx) (e:Option Expr) (d:Ro->Rs (Option Int)):Prop:=PO X e (tPO M d)
def dON:Ro->Rs (Option Int):=λ_=>.ok none
def dOS (da:Ro->Rs T):Ro->Rs (Option Int):=λρ=>da ρ>>=λt=>match t with | .int i=>.ok (some i) | _=>.no
theorem qha:DO M X none dON:=PO.weak qmR λσ H Q ⟨H0,B0,ρ,B,ev,w⟩=>w H B (.refl ev.bh ev.bt) ev.gm
theorem qg9 (h:DE M X e da):DO M X (some e) (dOS da):=PO.weak (qmQ h) λσ H Q ⟨H0,B0,ρ,B,ev,w⟩=>tP.of ev (Wnt.mono (Wnt.bind w) λt w1 v H1 B1 g1 m1 r1=>by
 cases t with
 | int i=>exact ⟨i,qau r1,w1 H1 B1 g1 m1⟩
 | _=>exact w1.elim)
def qrC (ts:List T) (lo hi:Option Int):List T:=(ts.drop (HT.sIx ts.length 0 lo)).take (HT.sIx ts.length ts.length hi - HT.sIx ts.length 0 lo)
theorem qkW {K:PySem.W.Frag} {B:Hp} {ts:List T} {vs:List V} (r:qaC K B ts vs) (lo hi:Option Int):qaC K B (qrC ts lo hi) (qnD vs lo hi):=by
 unfold qrC qnD
 rw[r.length]
 exact (r.drop _).take _
def qdL (dq:Ro->Rs (Bool×List T)) (dl dh:Ro->Rs (Option Int)):Ro->Rs (List T):=λρ=>dq ρ>>=λq=>dl ρ>>=λl=>dh ρ>>=λh=>if q.1=true then .ok (qrC q.2 l h) else .no
theorem qfC (ha:DQ M X a dq) (hl:DO M X lo dl) (hh:DO M X hi dh):DF M X (.Subscript a (.Slice lo hi none p2) pos) (qdL dq dl dh):=by
 refine PE.weak (qk7 qmG ha hl hh) λσ H Q hq136=> ?_
 obtain ⟨H0,B0,ρ,B,ev,w⟩:=hq136
 refine tQ.of ev (Wnt.mono (Wnt.bind (qbF.mp w)) λq w1 p vs H1 B1 g1 m1 hx r1=> ?_)
 have ev1:=ev.grow g1 m1
 refine ⟨H0,B0,ρ,B1,ev1,Wnt.mono (Wnt.bind w1) λl w2 H2 B2 g2 m2=> ?_⟩
 have ev2:=ev1.grow g2 m2
 refine ⟨H0,B0,ρ,B2,ev2,Wnt.mono (Wnt.bind w2) λh w3 H3 B3 g3 m3=> ?_⟩
 have ev3:=ev2.grow g3 m3
 split at w3
 ·rename_i hc
  rw[if_pos hc] at hx
  refine ⟨p,vs,rfl,SqL.of (g3.gx.hh _ _ (g2.gx.hh _ _ hx (by intro ps z; cases z)) (by intro ps z; cases z)),λd hd=> ?_⟩
  obtain ⟨g,m',bp⟩:=qce (M:=M) (ws:=qnD vs l h) ev3.bh ev3.bt m3 hd
  have gg:=(g1.trans g2).trans g3
  exact w3 d _ _ B3 (gg.trans g) m' (qbD gg.gx hd) bp qak (qkW ((r1.mono g2.bb).mono g3.bb) l h)
 ·exact w3.elim
def qem (neg:Bool) (t:T) (q:Bool×List T):Rs T:=if okT 7 t=true/\q.2.all (okT 7)=true then .ok (.bl (if neg then !q.2.any (λu=>eqT u t) else q.2.any (λu=>eqT u t))) else .no
def dIn (neg:Bool) (da:Ro->Rs T) (dq:Ro->Rs (Bool×List T)):Ro->Rs T:=λρ=>da ρ>>=λt=>dq ρ>>=λq=>qem neg t q
def dQQ (g:T->T->Rs T) (dq:Ro->Rs (Bool×List T)) (db:Ro->Rs T):Ro->Rs T:=λρ=>dq ρ>>=λq=>db ρ>>=λy=>if q.1=true then g (.lst q.2) y else .no
theorem qlt {neg:Bool} {g:T->T->Rs T} (hg: ∀a b,g a b=if okT 8 a=true/\okT 8 b=true then .ok (.bl (if neg then !eqT a b else eqT a b)) else .no) (hK:X.K=M.K) {σ:St} {H:Hp} {Q:VK} (h:tP M (dQQ g dq db) σ H Q):tOp (qot X.K neg) (tQ M dq) (tP M db) σ H Q:=by
 obtain ⟨H0,B0,ρ,B,ev,w⟩:=h
 refine tQ.of ev (Wnt.mono (Wnt.bind (qaM.mp w)) λq w1 p vs H1 B1 g1 m1 hq r1=> ?_)
 have ev1:=ev.grow g1 m1
 refine tP.of ev1 (Wnt.mono (Wnt.bind w1) λy w2 v H2 B2 g2 m2 r2=> ?_)
 have ev2:=ev1.grow g2 m2
 have hh:qgA M H2 B2 q p vs:=qgA.grow (M:=M) hq g2
 unfold qgA at hh
 by_cases c:q.1=true
 ·rw[if_pos c] at hh w2
  rw[hg] at w2
  split at w2
  ·rename_i hc
   have le2:Le B2 (upd B2 p (.lst vs)):=λa o z=>by
    by_cases e:a=p
    ·subst e
     have:=ev2.bh _ _ z
     rw[hh] at this; cases this
     exact qak
    ·rw[qae e]; exact z
   refine ⟨upd B2 p (.lst vs),.lst q.2,y,λa o z=> ?_,by rw[hK]; exact qmb qak ((r1.mono g2.bb).mono le2),by rw[hK]; exact r2.mono le2,hc.1,hc.2,w2 _ H2 B2 (g1.trans g2) m2 qdB⟩
   by_cases e:a=p
   ·subst e; rw[qak] at z; cases z; exact hh
   ·rw[qae e] at z; exact ev2.bh _ _ z
  ·exact w2.elim
 ·rw[if_neg c] at hh w2
  exact w2.elim
theorem qmj (hu:X.A.units+8<cLine) (ha:DQ M X a dq) (hb:DE M X b db) (hm:behindInMarks .NotEq b=false:=by exact qdZ _ (by decide) (by decide)) (hK:X.K=M.K:=by rfl):DT M X (.Compare a [.NotEq] [b] pos) (dTB (dQQ gNe dq db)):=
 PT.weak (qea (qc4 hu) ha hb hm) λ_ _ _ h=>qlt (neg:=true) (λ_ _=>rfl) hK (qe6 h)
end
end PL
end
section
namespace SetL
open PySem
def Ri (xs:Array Nat):Prop:=xs.toList.Pairwise (· < ·)
theorem Ri.lt {xs:Array Nat} (h:Ri xs) {i j:Nat} (hij:i<j) (hj:j<xs.size):xs.getD i 0<xs.getD j 0:=by
 have:=List.pairwise_iff_getElem.mp h i j (by rw[Array.length_toList]; lia) (by rw[Array.length_toList]; lia) hij
 simpa [Array.getD,hj,show i<xs.size by lia] using this
theorem qnj {xs:Array Nat} {j:Nat} (h:Ri xs): ∀(fuel lo hi:Nat),lo<=hi->hi<=xs.size->hi - lo<=fuel->(∀i,i<lo->xs.getD i 0<j)->(∀i,hi<=i->i<xs.size->j<=xs.getD i 0)->
  SetTable.below.go xs j fuel lo hi<=xs.size/\(∀i,i<SetTable.below.go xs j fuel lo hi->xs.getD i 0<j)/\∀i,SetTable.below.go xs j fuel lo hi<=i->i<xs.size->j<=xs.getD i 0
 | 0,lo,hi,h1,h2,h3,a,b=>by
  unfold SetTable.below.go
  exact ⟨by lia,a,λi hi'=>b i (by lia)⟩
 | fuel+1,lo,hi,h1,h2,h3,a,b=>by
  unfold SetTable.below.go
  by_cases c:lo<hi
  ·rw[if_pos c]
   dsimp only
   have hm:(lo+hi) / 2<xs.size:=by lia
   have em:xs.getD ((lo+hi) / 2) j=xs.getD ((lo+hi) / 2) 0:=by simp[Array.getD,hm]
   rw[em]
   by_cases d:xs.getD ((lo+hi) / 2) 0<j
   ·rw[if_pos d]
    refine qnj h fuel _ _ (by lia) h2 (by lia) (λi hi'=> ?_) b
    by_cases e:i=(lo+hi) / 2
    ·rw[e]; exact d
    ·have:=h.lt (i:=i) (j:=(lo+hi) / 2) (by lia) hm
     lia
   ·rw[if_neg d]
    refine qnj h fuel _ _ (by lia) (by lia) (by lia) a λi hi' hs=> ?_
    by_cases e:i=(lo+hi) / 2
    ·rw[e]; lia
    ·have:=h.lt (i:=(lo+hi) / 2) (j:=i) (by lia) hs
     lia
  ·rw[if_neg c]
   exact ⟨by lia,a,λi hi'=>b i (by lia)⟩
theorem qfK {xs:Array Nat} (h:Ri xs) (j:Nat):SetTable.below xs j<=xs.size/\(∀i,i<SetTable.below xs j->xs.getD i 0<j)/\∀i,SetTable.below xs j<=i->i<xs.size->j<=xs.getD i 0:=
 qnj h _ _ _ (Nat.zero_le _) (Nat.le_refl _) (by lia) (λi hi=>absurd hi (Nat.not_lt_zero _)) λi hi hs=>absurd hs (by lia)
theorem qiC {xs:Array Nat} (h:Ri xs) {i:Nat} (hi:i<xs.size):SetTable.below xs (xs.getD i 0+1)=i+1:=by
 obtain ⟨b1,b2,b3⟩:=qfK h (xs.getD i 0+1)
 rcases Nat.lt_trichotomy (SetTable.below xs (xs.getD i 0+1)) (i+1) with c | c | c
 ·have:=b3 i (by lia) hi; lia
 ·exact c
 ·have:=b2 (i+1) c
  have:=h.lt (i:=i) (j:=i+1) (by lia) (by lia)
  lia
theorem qiB {xs:Array Nat} (h:Ri xs):SetTable.below xs 0=0:=by
 obtain ⟨b1,b2,b3⟩:=qfK h 0
 by_cases c:SetTable.below xs 0=0
 ·exact c
 ·have:=b2 0 (by lia); lia
theorem qg0 {α:Type} (xs:Array α) (p:Nat) (x:α) (hp:p<=xs.size):(SetTable.insertAt xs p x).toList=xs.toList.take p++x::xs.toList.drop p:=by
 unfold SetTable.insertAt
 rw[Array.toList_append,Array.toList_push,Array.toList_extract,Array.toList_extract]
 simp[List.extract_eq_drop_take]
 exact List.take_of_length_le (by rw[List.length_drop,Array.length_toList]; exact Nat.le_refl _)
theorem qjQ {xs:Array Nat} (h:Ri xs) {j:Nat} (hn:xs[SetTable.below xs j]? ≠some j):Ri (SetTable.insertAt xs (SetTable.below xs j) j):=by
 obtain ⟨b1,b2,b3⟩:=qfK h j
 unfold Ri
 rw[qg0 _ _ _ b1]
 have g: ∀{i:Nat} (hi:i<xs.toList.length),xs.toList[i]=xs.getD i 0:=λ{i} hi=>by
  have:i<xs.size:=by rw[Array.length_toList] at hi; exact hi
  simp[Array.getD,this]
 have gt: ∀i,SetTable.below xs j<=i->i<xs.size->j<xs.getD i 0:=λi h1 h2=>by
  have e0:=b3 i h1 h2
  by_cases c:i=SetTable.below xs j
  ·have:xs[SetTable.below xs j]? =some (xs.getD (SetTable.below xs j) 0):=by
    have hs:SetTable.below xs j<xs.size:=by lia
    simp[Array.getD,hs]
   rw[this] at hn
   subst c
   have:xs.getD (SetTable.below xs j) 0≠j:=λz=>hn (by rw[z])
   lia
  ·have e1:=b3 (SetTable.below xs j) (Nat.le_refl _) (by lia)
   have:=h.lt (i:=SetTable.below xs j) (j:=i) (by lia) h2
   lia
 refine List.pairwise_append.mpr ⟨List.Pairwise.sublist (List.take_sublist _ _) h,List.pairwise_cons.mpr ⟨λy hy=> ?_,List.Pairwise.sublist (List.drop_sublist _ _) h⟩,λx hx y hy=> ?_⟩
 ·obtain ⟨k,hk,rfl⟩:=List.mem_iff_getElem.mp hy
  rw[List.getElem_drop,g]
  rw[List.length_drop,Array.length_toList] at hk
  exact gt _ (by lia) (by lia)
 ·obtain ⟨k,hk,rfl⟩:=List.mem_iff_getElem.mp hx
  rw[List.getElem_take,g]
  rw[List.length_take] at hk
  have a:=b2 k (by lia)
  rcases List.mem_cons.mp hy with z | z
  ·rw[z]; exact a
  ·obtain ⟨m,hm,rfl⟩:=List.mem_iff_getElem.mp z
   rw[List.getElem_drop,g]
   rw[List.length_drop,Array.length_toList] at hm
   have:=gt (SetTable.below xs j+m) (by lia) (by lia)
   lia
theorem qkZ (n:Nat):Ri (Array.range n):=by
 unfold Ri
 rw[Array.toList_range]
 exact List.pairwise_lt_range
def qd2 (t:SetTable):Prop:=Ri t.place/\t.dummies= #[]
theorem qeS (a b:Nat) (l:Bool):qd2 (.fresh a b l):=⟨List.Pairwise.nil,rfl⟩
theorem qcW (t:SetTable) (n:Nat):qd2 (t.standIn n):=⟨qkZ n,rfl⟩
theorem qin {t:SetTable} (h:qd2 t) (b:Bool):qd2 { t with plain:=b }:=h
theorem qjU (j:Nat):SetTable.has #[] j=false:=rfl
theorem qiT {t:SetTable} (h:qd2 t) (j:Nat):t.slot j≠.dummy:=by
 unfold SetTable.slot
 dsimp only
 rw[h.2,qjU]
 split
 ·intro z; cases z
 ·rw[if_neg (by decide)]; intro z; cases z
theorem qhx {t:SetTable} (h:qd2 t) (ha:Nat->Int) (x:Int): ∀(fuel:Nat) (p:SetTable.Probe) (j:Nat) (d:Option Nat),p.dummy=none->SetTable.probe.go t ha x fuel p=some (.empty j d)->d=none/\t.slot j= .empty
 | 0,p,j,d,hp,e=>by unfold SetTable.probe.go at e; cases e
 | fuel+1,p,j,d,hp,e=>by
  have adv:(t.advance p).dummy=none:=by
   unfold SetTable.advance
   split
   ·exact hp
   ·exact hp
  unfold SetTable.probe.go at e
  split at e
  ·rename_i es
   cases e
   exact ⟨hp,es⟩
  ·rename_i es
   exact absurd es (qiT h _)
  ·split at e
   ·cases e
   ·exact qhx h ha x fuel _ j d adv e
theorem qih {t:SetTable} {j:Nat} (h:t.slot j= .empty):t.place[SetTable.below t.place j]? ≠some j:=by
 intro z
 unfold SetTable.slot at h
 dsimp only at h
 rw[z,if_pos (by simp)] at h
 cases h
theorem qlf {t:SetTable} (h:qd2 t) {j:Nat} (hj:t.slot j= .empty):qd2 (t.put j).1:=by
 unfold SetTable.put
 refine ⟨qjQ h.1 (qih hj),?_⟩
 show (if SetTable.has t.dummies j=true then _ else t.dummies)= #[]
 rw[h.2,qjU,if_neg (by decide)]
theorem qf5 {t:SetTable} (h:qd2 t) (n:Nat):qd2 (t.orStandIn n):=by
 unfold SetTable.orStandIn
 split
 ·exact h
 ·exact qcW _ _
theorem qlk {t:SetTable} (h:qd2 t) (es:Array (Int×Value)) (x:Int) (v:Value):qd2 (layNew t es x v).2.1:=by
 unfold layNew
 split
 ·rename_i slot wd e
  unfold SetTable.freeSlot at e
  split at e
  ·rename_i j d e2
   obtain ⟨rfl,e3⟩:=qhx h _ _ _ _ j d rfl e2
   cases e
   exact qf5 (qlf h e3) _
  ·cases e
 ·exact qcW _ _
theorem qfu (ow:Array (Option Nat)): ∀l:List Nat,l.Pairwise (· < ·)->((l.filterMap λj=>(ow.getD j none).map (j, ·)).map (·.1)).Pairwise (· < ·)/\∀x∈((l.filterMap λj=>(ow.getD j none).map (j, ·)).map (·.1)),x∈l
 | [],_=>⟨List.Pairwise.nil,λ_ h=>by cases h⟩
 | y::l,h=>by
  have h':=List.pairwise_cons.mp h
  obtain ⟨i1,i2⟩:=qfu ow l h'.2
  cases e:ow.getD y none with
  | none=>
   rw[List.filterMap_cons,e]
   exact ⟨i1,λx hx=>List.mem_cons_of_mem _ (i2 x hx)⟩
  | some k=>
   rw[List.filterMap_cons,e]
   dsimp only[Option.map]
   rw[List.map_cons]
   refine ⟨List.pairwise_cons.mpr ⟨λx hx=>h'.1 x (i2 x hx),i1⟩,λx hx=> ?_⟩
   rcases List.mem_cons.mp hx with z | z
   ·rw[z]; exact List.mem_cons_self
   ·exact List.mem_cons_of_mem _ (i2 x z)
theorem qgI {t t':SetTable} {hs:Array Int} {n:Nat} {o:Array Nat} (e:t.relaid hs n=some (t',o)):qd2 t':=by
 unfold SetTable.relaid SetTable.laid at e
 cases q:SetTable.layClean (SetTable.sizeAbove n - 1) hs with
 | none=>rw[q] at e; cases e
 | some ow=>
  rw[q] at e
  have e':=Option.some.inj e
  have e1:=(Prod.mk.inj e').1
  subst e1
  exact ⟨(qfu ow _ List.pairwise_lt_range).1,rfl⟩
theorem qii (t:SetTable) (es:Array (Int×Value)) (n:Nat):qd2 (relayAll t es n).2.1:=by
 unfold relayAll
 split
 ·rename_i t' o e
  dsimp only
  split
  ·exact qgI e
  ·exact qcW _ _
 ·exact qcW _ _
end SetL
end
section
namespace SetL
open PySem
theorem qgO {t:SetTable} {n:Nat}:(t.orStandIn n).led=t.led:=by
 unfold SetTable.orStandIn
 split<;>rfl
theorem qna {t:SetTable} {es:Array (Int×Value)} {h:Int} {x:Value}:(layNew t es h x).2.1.led=t.led:=by
 unfold layNew
 split
 ·exact qgO
 ·rfl
theorem qij {t t':SetTable} {hs:Array Int} {n:Nat} {o:Array Nat} (e:t.relaid hs n=some (t',o)):t'.led=t.led:=by
 unfold SetTable.relaid SetTable.laid at e
 cases q:SetTable.layClean (SetTable.sizeAbove n - 1) hs with
 | none=>rw[q] at e; cases e
 | some ow=>
  rw[q] at e
  have e':=Option.some.inj e
  exact (congrArg (λp:SetTable×Array Nat=>p.1.led) e').symm
theorem qi6 {t:SetTable} {es:Array (Int×Value)} {n:Nat}:(relayAll t es n).2.1.led=t.led:=by
 unfold relayAll
 split
 ·rename_i t' o e
  dsimp only
  split
  ·exact qij e
  ·rfl
 ·rfl
section
variable {prog:Program} {w:World} {K:Type} [DecidableEq K] (knd:KeyKind prog w K)
def qgB (h:Heap) (a:Addr) (S:K->Bool) (n:Nat):Prop:=
 ∃o es ep t,h.get? a=some o/\o.ExactSet/\o.data= .set es ep t/\ElemsOf knd es.toList/\(∀k,S k=true↔∃e∈es.toList,knd.is k e.2=true)/\es.size<scanBound/\t.fits es.size=true/\es.size=n/\qd2 t/\t.led= !w.params.followText "set-order"
variable {knd} {A:Around} {E:Value->Shared->Prop} {s:Shared}
theorem qgB.keep {h h':Heap} {a:Addr} {S:K->Bool} {n:Nat} (x:qgB knd h a S n) (k: ∀o,h.get? a=some o->h'.get? a=some o):qgB knd h' a S n:=
 let ⟨o,es,ep,t,ho,r⟩:=x
 ⟨o,es,ep,t,k _ ho,r⟩
theorem qjW (b:Bool) {s₁:Shared} {Q':Unit->Shared->Prop} (hq:Q' () s₁):wpAny (model prog w) A (match b with | true=>rule "set.scan.the-table-gave-way" | false=>pure ()) Q' E s₁:=by
 cases b with
 | true=>exact wpAny_rule hq
 | false=>exact wpAny_pure hq
theorem qgG {a:Addr} {o:Obj} {es es':Array (Int×Value)} {ep:Nat} {t t':SetTable} {S':K->Bool} {Q:Unit->Shared->Prop} (ho:s.heap.get? a=some o) (hx:o.ExactSet) (hd:o.data= .set es ep t) (el:ElemsOf knd es'.toList)
  (me: ∀k,S' k=true↔∃e∈es'.toList,knd.is k e.2=true) (hb:es'.size<scanBound) (hf:t'.fits es'.size=true) (hp:qd2 t') (hl:t'.led= !w.params.followText "set-order")
  (h: ∀h',Heap.SameBut a s.heap h'->h'.get? a=some { o with data:=.set es' (ep+1) t' }->qgB knd h' a S' es'.size->Q () { s with heap:=h' }):wpAny (model prog w) A (storeSet a es' t') Q E s:=by
 refine wpAny_storeSet_of ho hd ?_ (fits_of_scanBound hb)
 obtain ⟨g,_⟩:=SetOf_store (knd:=knd) ho hx hd el me hb hf
 exact h _ (Heap.SameBut.update s.heap a _) g ⟨_,es',ep+1,t',g,hx,rfl,el,me,hb,hf,rfl,hp,hl⟩
theorem qpC {a:Addr} {S:K->Bool} {n:Nat} {k:K} {x:Value} {Q:Bool->Shared->Prop} (hk:knd.is k x=true) (hsc:x.scannable=true) (hS:qgB knd s.heap a S n) (room:n+1<scanBound)
  (h: ∀h',Heap.SameBut a s.heap h'->qgB knd h' a (λk'=>S k'||decide (k'=k)) (if S k then n else n+1)->Q (!S k) { s with heap:=h' }):wpAny (model prog w) A (setAddHashed a x (knd.hash k)) Q E s:=by
 obtain ⟨o,es,ep,t,ho,hx,hd,el,me,hb,hf,hn,pl,ld⟩:=hS
 unfold setAddHashed setAddHashedIn
 refine wpAny_holding (wpAny_bind (wpAny_setState_of ho hd hf ?_))
 dsimp only
 rw[byScan_of hsc hb el,if_pos rfl]
 unfold setAddByScan
 refine wpAny_bind (wpAny_bind (wpAny_rule (wpAny_bind (wpAny_setScan_of hk ho hd hf el ?_))))
 cases fr:List.findIdx? (λe=>knd.is k e.2) es.toList with
 | some j=>
  obtain ⟨hj,pj,_⟩:=List.findIdx?_eq_some_iff_getElem.mp fr
  have Sk:S k=true:=(me k).mpr ⟨_,List.getElem_mem hj,pj⟩
  refine wpAny_pure (wpAny_pure ?_)
  have z:=h s.heap (Heap.SameBut.refl a s.heap) ⟨o,es,ep,t,ho,hx,hd,el,λk'=> ?_,hb,hf,by rw[if_pos Sk]; exact hn,pl,ld⟩
  ·rw[Sk] at z
   exact z
  ·rw[Bool.or_eq_true,decide_eq_true_eq,<-me k']
   exact ⟨λq=>q.elim id λe=>by rw[e]; exact Sk,.inl⟩
 | none=>
  have Sk:S k=false:=by
   cases q:S k with
   | false=>rfl
   | true=>
    obtain ⟨e,he,p⟩:=(me k).mp q
    rw[List.findIdx?_eq_none_iff.mp fr e he] at p
    cases p
  have pm:=layNew_perm t es (knd.hash k) x
  have ft:=layNew_fits t es (knd.hash k) x
  have lp:=qlk pl es (knd.hash k) x
  have ll:=qna (es:=es) (h:=knd.hash k) (x:=x) (t:=t)
  generalize layNew t es (knd.hash k) x=L at pm ft lp ll⊢
  obtain ⟨es1,t1,wd,gv⟩:=L
  dsimp only at pm ft lp ll⊢
  rw[Array.toList_push] at pm
  have el1:ElemsOf knd es1.toList:=(el.push hk hsc).perm pm
  have me1:=mem_push_iff (S:=S) hk me pm
  have sz:es1.size=n+1:=by rw[<-Array.length_toList,pm.length_eq,List.length_append,Array.length_toList,hn]; rfl
  refine wpAny_bind (qjW _ ?_)
  have go: ∀t2:SetTable,t2.fits es1.size=true->qd2 t2->t2.led=(!w.params.followText "set-order")->wpAny (model prog w) A (do
    storeSet a es1 t2
    if (!wd&&t2.tooFull)=true then do
     (match (relayAll t2 es1 (SetTable.grown es1.size)).2.2 with | true=>rule "set.scan.the-table-gave-way" | false=>pure ())
     storeSet a (relayAll t2 es1 (SetTable.grown es1.size)).1 (relayAll t2 es1 (SetTable.grown es1.size)).2.1
     pure (some true)
    else pure (some true):Sem (Option Bool)) (λr s'=> ∃h',s'={ s with heap:=h' }/\r=some true/\Q true { s with heap:=h' }) E s:=λt2 f2 p2 l2=>by
   refine wpAny_bind (qgG (knd:=knd) (S':=λk'=>S k'||decide (k'=k)) ho hx hd el1 me1 (by lia) f2 p2 l2 λh1 sb g1 S1=> ?_)
   split
   ·have pm2:=relayAll_perm t2 es1 (SetTable.grown es1.size)
    have ft2:=relayAll_fits t2 es1 (SetTable.grown es1.size)
    have rp:=qii t2 es1 (SetTable.grown es1.size)
    have rl:=qi6 (es:=es1) (n:=SetTable.grown es1.size) (t:=t2)
    generalize relayAll t2 es1 (SetTable.grown es1.size)=R at pm2 ft2 rp rl⊢
    obtain ⟨es2,t3,g2⟩:=R
    dsimp only at pm2 ft2 rp rl⊢
    have sz2:es2.size=es1.size:=by rw[<-Array.length_toList,pm2.length_eq,Array.length_toList]
    refine wpAny_bind (qjW _ (wpAny_bind (qgG (knd:=knd) (S':=λk'=>S k'||decide (k'=k)) (s:={ s with heap:=h1 }) g1 hx rfl (el1.perm pm2) (λk'=>(me1 k').trans ⟨λ⟨e,he,q⟩=>⟨e,pm2.mem_iff.mpr he,q⟩,λ⟨e,he,q⟩=>⟨e,pm2.mem_iff.mp he,q⟩⟩) (by lia) ft2 rp (rl.trans l2) λh2 sb2 _ S2=> ?_)))
    have z:=h h2 (sb.trans sb2) (by rw[Sk,if_neg (by decide)]; rw[sz2,sz] at S2; exact S2)
    rw[Sk] at z
    exact wpAny_pure ⟨h2,rfl,rfl,z⟩
   ·have z:=h h1 sb (by rw[Sk,if_neg (by decide)]; rw[sz] at S1; exact S1)
    rw[Sk] at z
    exact wpAny_pure ⟨h1,rfl,rfl,z⟩
  have both: ∀c:Bool,wpAny (model prog w) A (do
    let t2:SetTable:=if c=true then t1 else { t1 with plain:=false }
    storeSet a es1 t2
    if (!wd&&t2.tooFull)=true then do
     (match (relayAll t2 es1 (SetTable.grown es1.size)).2.2 with | true=>rule "set.scan.the-table-gave-way" | false=>pure ())
     storeSet a (relayAll t2 es1 (SetTable.grown es1.size)).1 (relayAll t2 es1 (SetTable.grown es1.size)).2.1
     pure (some true)
    else pure (some true):Sem (Option Bool)) (λr s'=> ∃h',s'={ s with heap:=h' }/\r=some true/\Q true { s with heap:=h' }) E s:=λc=>by
   cases c with
   | true=>exact go t1 ft lp (ll.trans ld)
   | false=>exact go { t1 with plain:=false } (SetTable.fits_plain_off ft) (qin lp false) (ll.trans ld)
  by_cases tp:t1.plain=true
  ·rw[if_pos tp,hashByValue_scannable 8 hsc]
   refine wpAny_bind (wpAny_pure ?_)
   refine wpAny_mono (both (plainKind x)) (λr s' ⟨h',e1,e2,q⟩=> ?_) λ_ _ z=>z
   subst e1 e2
   exact wpAny_pure q
  ·rw[if_neg tp]
   refine wpAny_bind (wpAny_pure ?_)
   refine wpAny_mono (both true) (λr s' ⟨h',e1,e2,q⟩=> ?_) λ_ _ z=>z
   subst e1 e2
   exact wpAny_pure q
end
end SetL
end
section
namespace SetL
open PySem
theorem qkp {M:Model} {A:Around} {E:Value->Shared->Prop} {s:Shared} {src:Source} {n:Nat} {Q:Nat->Shared->Prop} (hn:n≠0) (h: ∀i d,i<n->Q i { s with drawn:=d }):wpAny M A (choose src n) Q E s:=
 λΓ p hΓ=>⟨hn,h _ _ (Nat.mod_lt _ (Nat.pos_of_ne_zero hn))⟩
theorem qdy {α:Type}: ∀{xs:List α} {i:Nat} {x:α},xs[i]? =some x->List.Perm (x::xs.eraseIdx i) xs
 | [],i,x,h=>by simp at h
 | y::ys,0,x,h=>by
  simp at h; subst h
  exact List.Perm.refl _
 | y::ys,i+1,x,h=>by
  have:=qdy (xs:=ys) (i:=i) (x:=x) (by simpa using h)
  exact (List.Perm.swap y x _).trans (this.cons y)
theorem qg8 {M:Model} {A:Around} {E:Value->Shared->Prop} {α:Type}: ∀(n:Nat) (xs:List α) (s:Shared) (Q:List α->Shared->Prop),xs.length=n->(∀ys d,List.Perm ys xs->Q ys { s with drawn:=d })->wpAny M A (drawOrder n xs) Q E s
 | 0,xs,s,Q,hl,h=>by
  have e:xs=[]:=List.length_eq_zero_iff.mp hl
  subst e
  exact wpAny_pure (h [] s.drawn (List.Perm.refl _))
 | n+1,[],s,Q,hl,h=>by cases hl
 | n+1,x::xs,s,Q,hl,h=>by
  unfold drawOrder
  refine wpAny_bind (qkp (by simp) λi d hi=> ?_)
  obtain ⟨y,hy⟩: ∃y,(x::xs)[i]? =some y:=⟨_,List.getElem?_eq_getElem hi⟩
  rw[hy]
  have hp:=qdy hy
  refine wpAny_bind (qg8 n _ _ _ ?_ λys d' pm=>wpAny_pure (h (y::ys) d' ((pm.cons y).trans hp)))
  have:=hp.length_eq
  simp only[List.length_cons] at this hl⊢
  lia
theorem qf2 {α:Type} (next:Nat->Nat): ∀(fuel k:Nat) (left:List α) (out:Array α),left.length=fuel->List.Perm (pickOrder.go next fuel k left out).toList (out.toList++left)
 | 0,k,left,out,h=>by
  have e:left=[]:=List.length_eq_zero_iff.mp h
  subst e
  simp[pickOrder.go]
 | n+1,k,left,out,h=>by
  unfold pickOrder.go
  have hlt:next k % left.length<left.length:=Nat.mod_lt _ (by lia)
  rw[List.getElem?_eq_getElem hlt]
  dsimp only
  have hp:=qdy (List.getElem?_eq_getElem hlt)
  have hl:=hp.length_eq
  simp only[List.length_cons] at hl
  refine (qf2 next n (k+1) _ _ (by lia)).trans ?_
  rw[Array.toList_push,List.append_assoc]
  exact List.Perm.append_left _ hp
theorem qc1 {α:Type} (next:Nat->Nat) (xs:Array α):List.Perm (pickOrder next xs).toList xs.toList:=by
 unfold pickOrder
 have:=qf2 next xs.size 0 xs.toList #[] (by simp)
 simpa using this
def qgZ (first:Value) (i:Nat) (a:Addr) (n ep:Nat):Obj:={ cls:=.type "set_iterator",data:=.fields #[first,rawInt i,.ref a,rawInt n,rawInt ep] }
inductive Way (w:World) (h:Heap) (a:Addr) (es:Array (Int×Value)) (ep:Nat) (t:SetTable):List Addr->(Nat->Value)->List Value->Prop
 | drawn {tp:Addr} {ot:Obj} {pl:List Nat} {k:Nat}:h.get? tp=some ot->ot.data= .seq (List.toArray (pl.map λ(i:Nat)=>rawInt i)) k->(∀i∈pl,i<es.size)->Way w h a es ep t [tp] (λ_=>.ref tp) (pl.map λi=>(es.toList.map (·.2)).getD i .none)
 | text:w.params.followText "set-order" =true->Way w h a es ep t [] (λ_=>rawInt 0) ((pickOrder (w.params.setOrder a ep) es).toList.map (·.2))
 | small:w.params.followText "set-order" =false->(!t.plain&&decide (es.size>1))=false->t.led=true->qd2 t->Way w h a es ep t [] (λi=>if i=0 then rawInt 0 else rawInt (t.place.getD (i - 1) 0+1:Nat)) (es.toList.map (·.2))
theorem Way.keep {w:World} {h h':Heap} {a:Addr} {es:Array (Int×Value)} {ep:Nat} {t:SetTable} {tl:List Addr} {f:Nat->Value} {vs:List Value} (x:Way w h a es ep t tl f vs) (k: ∀b∈tl,∀o,h.get? b=some o->h'.get? b=some o):Way w h' a es ep t tl f vs:=by
 cases x with
 | drawn e d b=>exact .drawn (k _ (List.mem_singleton.mpr rfl) _ e) d b
 | text e=>exact .text e
 | small e1 e2 e3 e4=>exact .small e1 e2 e3 e4
theorem qdg:Slot "set_iterator" "__next__" "set_iterator.__next__" :=
 .of (owner:= "set_iterator") (n:= "__next__") (by rw[typeLookup_type,builtinLookup_eq_fast]; kernel_rfl) (by decide+kernel) (by decide+kernel)
  (by decide+kernel) (by first | exact .inl (by decide+kernel) | exact .inr (by decide+kernel)) (by rw[isSubtype_type]; kernel_rfl)
theorem qfU:Slot "set_iterator" "__iter__" "set_iterator.__iter__" :=
 .of (owner:= "set_iterator") (n:= "__iter__") (by rw[typeLookup_type,builtinLookup_eq_fast]; kernel_rfl) (by decide+kernel) (by decide+kernel)
  (by decide+kernel) (by first | exact .inl (by decide+kernel) | exact .inr (by decide+kernel)) (by rw[isSubtype_type]; kernel_rfl)
theorem qiw:entryFor table "set_iterator.__next__" =some Builtin.«set_iterator.__next__» :=entryFor_of_fast (by kernel_rfl)
theorem qfA:entryFor table "set.__iter__" =some Builtin.«frozenset.__iter__» :=
 entryFor_alias (id':= "frozenset.__iter__") (by kernel_rfl) rfl (by decide+kernel) (by kernel_rfl)
theorem qkC (a:Value):argsOk "set_iterator.__next__" ⟨[a],[]⟩:=by
 unfold argsOk; kernel_rfl
section
variable {prog:Program} {w:World} {A:Around} {E:Value->Shared->Prop} {s:Shared}
theorem qdv {Q:Bool->Shared->Prop} (h:Q (w.params.followText "set-order") s):wpAny (model prog w) A setsByText Q E s:=by
 unfold setsByText
 exact wpAny_bind (wpAny_askSetting (wpAny_pure h))
theorem qix {a:Addr} {o:Obj} {es:Array (Int×Value)} {ep:Nat} {t:SetTable} {Q:Nat->Shared->Prop} (ho:s.heap.get? a=some o) (hd:o.data= .set es ep t) (hf:t.fits es.size=true) (h:Q es.size s):wpAny (model prog w) A (Builtin.Frozenset.sizeOf a) Q E s:=by
 unfold Builtin.Frozenset.sizeOf
 exact wpAny_bind (wpAny_setEntries_of ho hd hf (wpAny_pure h))
theorem qlv {a:Addr} {o:Obj} {es:Array (Int×Value)} {ep:Nat} {t:SetTable} {Q:Bool->Shared->Prop} (ho:s.heap.get? a=some o) (hd:o.data= .set es ep t) (hf:t.fits es.size=true) (h:Q (!w.params.followText "set-order" &&(!t.plain&&decide (es.size>1))) s):wpAny (model prog w) A (setDrawn a) Q E s:=by
 unfold setDrawn
 exact wpAny_bind (wpAny_setState_of ho hd hf (wpAny_bind (qdv (wpAny_pure h))))
theorem qln {a:Addr} {o:Obj} {es:Array (Int×Value)} {ep:Nat} {t:SetTable} {Q:Value->Shared->Prop} (ho:s.heap.get? a=some o) (hx:o.ExactSet) (hd:o.data= .set es ep t) (hf:t.fits es.size=true) (hb:es.size<scanBound) (pl:qd2 t) (ld:t.led= !w.params.followText "set-order")
  (h: ∀(it:Addr) (h':Heap) (d:Drawn) (tl:List Addr) (f:Nat->Value) (vs:List Value),s.heap.objs.size<=it->(∀b∈tl,s.heap.objs.size<=b/\b≠it)->(∀b u,s.heap.get? b=some u->h'.get? b=some u)->h'.get? it=some (qgZ (f 0) 0 a es.size ep)->Way w h' a es ep t tl f vs->List.Perm vs (es.toList.map (·.2))->
   Q (.ref it) { s with heap:=h',drawn:=d }):wpAny (model prog w) A (pyIter (.ref a)) Q E s:=by
 have ty:s.TypeIs (.ref a) "set" :=⟨o,ho,hx.1⟩
 refine wpAny_pyIter_slot ty PySem.F.slot_set_iter (wpAny_call_entry PySem.F.slot_set_iter ty qfA ?_ (PySem.F.args_set_iter_1 _))
 unfold Builtin.«frozenset.__iter__» Builtin.Frozenset.slot0 slotArgs
 refine wpAny_bind (wpAny_pure (wpAny_bind (qix ho hd hf ?_)))
 refine wpAny_bind (qlv ho hd hf ?_)
 have fin: ∀(s1:Shared) (first:Value) (tl:List Addr) (f:Nat->Value) (vs:List Value),s1.gens=s.gens->s1.os=s.os->s1.toks=s.toks->s.heap.objs.size<=s1.heap.objs.size->(∀b u,s.heap.get? b=some u->s1.heap.get? b=some u)->(∀b∈tl,s.heap.objs.size<=b/\b<s1.heap.objs.size)->f 0=first->(∀h',(∀b u,s1.heap.get? b=some u->h'.get? b=some u)->Way w h' a es ep t tl f vs)->List.Perm vs (es.toList.map (·.2))->
   wpAny (model prog w) A.in1 (do ret (<-newFields "set_iterator" [first,rawInt 0,.ref a,rawInt (es.size:Nat),rawInt (<-setEpoch a)])) (λr s'=> ∃v,r= .done (.ret v)/\∃(T':String) (r':Value),s'.TypeIs v T'/\typeLookup (.type T') "__next__" =pure (some r')/\Q v s') E s1:=λs1 first tl f vs e1 e2 e3 sz kp tb ef wy pm=>by
  refine wpAny_bind (wpAny_setEpoch_of (kp _ _ ho) hd hf ?_)
  refine wpAny_bind (wpAny_newObj_type ?_ (by size_fits))
  refine wpAny_pure ⟨_,rfl, "set_iterator",_,⟨_,Heap.get?_push_size _ rfl,rfl⟩,qdg.lookup,?_⟩
  have kp2: ∀b u,s1.heap.get? b=some u->(s1.heap.push (qgZ first 0 a es.size ep)).get? b=some u:=λb u q=>Heap.get?_push_of_some _ q
  have:=h s1.heap.objs.size (s1.heap.push (qgZ first 0 a es.size ep)) s1.drawn tl f vs sz (λb hb=>⟨(tb b hb).1,Nat.ne_of_lt (tb b hb).2⟩) (λb u q=>kp2 b u (kp b u q)) (by rw[ef]; exact Heap.get?_push_size _ rfl) (wy _ kp2) pm
  obtain ⟨hh,g,d,tk,os⟩:=s1
  dsimp only at e1 e2 e3 this⊢
  subst e1 e2 e3
  exact this
 have hall: ∀{α:Type} (d:α) (l:List α),(List.range l.length).map (λi=>l.getD i d)=l:=λd l=>by
  apply List.ext_getElem
  ·simp
  ·intro i h1 h2
   simp[List.getElem?_eq_getElem h2]
 cases bt:w.params.followText "set-order" with
 | true=>
  rw[if_neg (by simp)]
  refine wpAny_bind (wpAny_pure ?_)
  refine fin s (rawInt 0) [] (λ_=>rawInt 0) _ rfl rfl rfl (Nat.le_refl _) (λ_ _ q=>q) (λb hb=>nomatch hb) rfl (λh' _=>.text bt) ?_
  exact (qc1 _ _).map _
 | false=>
  by_cases h1:(!t.plain&&decide (es.size>1))=true
  ·rw[if_pos (by rw[h1]; rfl)]
   refine wpAny_bind (qg8 es.size (List.range es.size) s _ (by simp) λys d pm=> ?_)
   refine wpAny_bind (wpAny_newObj_type ?_ (by
    have:=pm.length_eq
    have h2:scanBound=4096:=rfl
    show (List.toArray (ys.map λ(i:Nat)=>rawInt i)).size<=sizeLine
    rw[List.size_toArray,List.length_map,this,List.length_range,sizeLine_eq]
    lia))
   refine fin _ (.ref s.heap.objs.size) [s.heap.objs.size] (λ_=>.ref s.heap.objs.size) (ys.map λi=>(es.toList.map (·.2)).getD i .none) rfl rfl rfl (by show _<=(s.heap.push _).objs.size; rw[Heap.size_push]; exact Nat.le_succ _) (λb u q=>Heap.get?_push_of_some _ q) (λb hb=> ?_) rfl (λh' kp=> ?_) ?_
   ·rw[List.mem_singleton.mp hb]
    refine ⟨Nat.le_refl _,?_⟩
    show _<(s.heap.push _).objs.size
    rw[Heap.size_push]; exact Nat.lt_succ_self _
   ·refine .drawn (kp _ _ (Heap.get?_push_size _ rfl)) rfl λi hi=> ?_
    have:=pm.mem_iff.mp hi
    simpa using this
   ·have q:=pm.map λi=>(es.toList.map (·.2)).getD i Value.none
    have e:es.size=(es.toList.map (·.2)).length:=by simp
    rw[e,hall] at q
    exact q
  ·have h1':(!t.plain&&decide (es.size>1))=false:=by simpa using h1
   rw[if_neg (by rw[h1']; decide)]
   refine wpAny_bind (wpAny_pure ?_)
   exact fin s (rawInt 0) [] _ _ rfl rfl rfl (Nat.le_refl _) (λ_ _ q=>q) (λb hb=>nomatch hb) (if_pos rfl) (λh' _=>.small bt h1' (by rw[ld,bt]; rfl) pl) (List.Perm.refl _)
end
end SetL
end
section
namespace SetL
open PySem
section
variable {prog:Program} {w:World} {A:Around} {E:Value->Shared->Prop} {s:Shared} {it a:Addr} {o:Obj} {es:Array (Int×Value)} {ep:Nat} {t:SetTable} {tl:List Addr} {f:Nat->Value} {vs:List Value}
theorem qm7 {i:Nat} {slot:Nat} {Q:Option (Value×Nat)->Shared->Prop} (ho:s.heap.get? a=some o) (hd:o.data= .set es ep t) (hf:t.fits es.size=true) (W:Way w s.heap a es ep t tl f vs) (hs:f i=rawInt (slot:Nat)) (hi:i<=vs.length)
  (h:Q (vs[i]?.map λv=>(v,if w.params.followText "set-order" =true then slot else t.place.getD i 0+1)) s):wpAny (model prog w) A (setNext a slot i ep) Q E s:=by
 unfold setNext
 refine wpAny_bind (wpAny_setState_of ho hd hf ?_)
 dsimp only
 refine wpAny_bind (qdv ?_)
 cases W with
 | drawn _ _ _=>cases hs
 | text e=>
  rw[if_pos e,if_neg (by simp)]
  refine wpAny_bind ?_
  unfold setWalk
  refine wpAny_bind (wpAny_setState_of ho hd hf ?_)
  dsimp only
  refine wpAny_bind (qdv ?_)
  rw[if_pos e]
  refine wpAny_bind (wpAny_askSetting (wpAny_pure (wpAny_pure ?_)))
  have e2:(if w.params.followText "set-order" =true then slot else t.place.getD i 0+1)=slot:=if_pos e
  rw[e2] at h
  have e3:((pickOrder (w.params.setOrder a ep) es).toList.map (·.2))[i]?.map (λv=>(v,slot))=((pickOrder (w.params.setOrder a ep) es)[i]?).map λe=>(e.2,slot):=by
   rw[List.getElem?_map,Array.getElem?_toList,Option.map_map]
   rfl
  rw[e3] at h
  exact h
 | small e ndr hl hft=>
  rw[e,if_neg (by decide)]
  split
  ·rename_i z
   have z':(!t.plain&&decide (es.size>1))=true:=z
   rw[ndr] at z'; cases z'
  have led:(!t.led&& !es.isEmpty)=false:=by rw[hl]; rfl
  refine wpAny_bind ?_
  show wpAny _ _ (if (!t.led&& !es.isEmpty)=true then _ else _) _ _ _
  rw[if_neg (by rw[led]; decide)]
  refine wpAny_pure (wpAny_pure ?_)
  have e2:(if w.params.followText "set-order" =true then slot else t.place.getD i 0+1)=t.place.getD i 0+1:=if_neg (by rw[e]; decide)
  rw[e2] at h
  have psz:t.place.size=es.size:=by
   have:=hf
   simp only[SetTable.fits,Bool.and_eq_true,beq_iff_eq] at this
   exact this.1
  have hi':i<=es.size:=by simpa using hi
  have eb:SetTable.below t.place slot=i:=by
   cases i with
   | zero=>
    have:slot=0:=by
     have hs':rawInt 0=rawInt (slot:Nat):=by simpa using hs
     unfold rawInt at hs'
     injection hs' with q _
     lia
    rw[this]; exact qiB hft.1
   | succ i=>
    have:slot=t.place.getD i 0+1:=by
     have hs':rawInt ((t.place.getD i 0+1:Nat):Int)=rawInt (slot:Nat):=by simpa using hs
     unfold rawInt at hs'
     injection hs' with q _
     lia
    rw[this]; exact qiC hft.1 (by lia)
  have e3:((es.toList.map (·.2))[i]?.map λv=>(v,t.place.getD i 0+1))=(es[i]?).map λe=>(e.2,t.place.getD i 0+1):=by
   rw[List.getElem?_map,Array.getElem?_toList,Option.map_map]
   rfl
  rw[e3] at h
  rw[eb]
  by_cases c:i<es.size
  ·have c1:es[i]? =some es[i]:=by simp[c]
   have c2:t.place[i]? =some (t.place.getD i 0):=by simp[Array.getD,psz,c]
   rw[c1] at h⊢
   rw[c2]
   exact h
  ·have c1:es[i]? =none:=by simp; lia
   rw[c1] at h⊢
   exact h
theorem qmE {Q:Option Value->Shared->Prop} (hh:A.handled=none) {s:Shared} (h: ∀h',(∀b u,s.heap.get? b=some u->h'.get? b=some u)->Q none { s with heap:=h' }):
  wpAny (model prog w) A.in1 (do raiseNew (<-newExc (.type "StopIteration") []):Sem Fin) (λr s'=> ∃v,r=Fin.done (.ret v)/\Q (some v) s') (λe s'=>wpAny (model prog w) A (do if <-isInstance e (.type "StopIteration") then pure none else throw e) Q E s') s:=by
 refine wpAny_bind ?_
 simp only[newExc,newTuple]
 refine wpAny_bind (wpAny_newObj_type ?_ (by size_fits))
 refine wpAny_bind (m:=firstArgMember _ _) (wpAny_of_eq (a:=Value.none) (by first | rfl | (simp only[firstArgMember]; rfl)) ?_)
 refine wpAny_newObj_type ?_ (by size_fits)
 simp only[raiseNew]
 refine wpAny_bind (wpAny_handled ?_)
 rw[show A.in1.handled=none from hh]
 refine wpAny_bind (wpAny_pure (wpAny_throw ?_))
 refine wpAny_bind (wpAny_isInstance (T:= "StopIteration") (b:=true) ⟨_,Heap.get?_push_size _ rfl,rfl⟩ isSubtype_stop ?_)
 exact wpAny_pure (h _ λb u q=>Heap.get?_push_of_some _ (Heap.get?_push_of_some _ q))
theorem qhT {first:Value} {i n:Nat} {j:Nat} {x:Value} {h:Heap} (ho:h.get? it=some (qgZ first i a n ep)):(h.update it (Obj.mapFields (·.setIfInBounds j x))).get? it=some { cls:=.type "set_iterator",data:=.fields (#[first,rawInt i,.ref a,rawInt n,rawInt ep].setIfInBounds j x) }:=
 Heap.get?_update_self _ ho rfl
theorem qex {i:Nat} {Q:Option Value->Shared->Prop} (hh:A.handled=none) (hne:a≠it) (htl:it∉tl) (hit:s.heap.get? it=some (qgZ (f i) i a es.size ep)) (ho:s.heap.get? a=some o) (hd:o.data= .set es ep t) (hf:t.fits es.size=true) (W:Way w s.heap a es ep t tl f vs) (hv:vs.length=es.size) (hi:i<=vs.length)
  (h1: ∀v h',vs[i]? =some v->Heap.SameBut it s.heap h'->h'.get? it=some (qgZ (f (i+1)) (i+1) a es.size ep)->Q (some v) { s with heap:=h' })
  (h0: ∀h',vs[i]? =none->(∀b u,b≠it->s.heap.get? b=some u->h'.get? b=some u)->Q none { s with heap:=h' }):wpAny (model prog w) A (pyNext (.ref it)) Q E s:=by
 have ty:s.TypeIs (.ref it) "set_iterator" :=⟨_,hit,rfl⟩
 unfold pyNext
 refine wpAny_bind (wpAny_attempt (wpAny_callSpecial?_slot (name:=Str.ofString "__next__") ty qdg (wpAny_call_entry qdg ty qiw ?_ (qkC _))))
 unfold Builtin.«set_iterator.__next__» slotArgs
 refine wpAny_bind (wpAny_pure (wpAny_bind (wpAny_fieldsOf hit rfl ?_)))
 refine wpAny_bind (wpAny_setEntries_of ho hd hf ?_)
 dsimp only
 rw[if_neg (by simp)]
 have one: ∀(v:Value) (s2:Shared),Q (some v) s2->∃v',Fin.done (Flow.ret v)=Fin.done (Flow.ret v')/\wpAny (model prog w) A (match (Except.ok (some v'):Except Value (Option Value)) with
      | Except.ok (some v)=>pure (some v)
      | Except.ok none=>unsupported "iter:the-iterator's-class-has-lost-its-__next__-amid-the-walk"
      | Except.error e=>do
       let b <-isInstance e (Value.type "StopIteration")
       if b=true then pure none else throw e) Q E s2:=λv s2 q=>⟨v,rfl,wpAny_pure q⟩
 have stop: ∀s2:Shared,(∀h',(∀b u,s2.heap.get? b=some u->h'.get? b=some u)->Q none { s2 with heap:=h' })->wpAny (model prog w) A.in1 (do raiseNew (<-newExc (.type "StopIteration") []):Sem Fin) (λfin s'=> ∃v,fin=Fin.done (Flow.ret v)/\wpAny (model prog w) A (match (Except.ok (some v):Except Value (Option Value)) with
      | Except.ok (some v)=>pure (some v)
      | Except.ok none=>unsupported "iter:the-iterator's-class-has-lost-its-__next__-amid-the-walk"
      | Except.error e=>do
       let b <-isInstance e (Value.type "StopIteration")
       if b=true then pure none else throw e) Q E s') (λe s'=>wpAny (model prog w) A (do
       let b <-isInstance e (Value.type "StopIteration")
       if b=true then pure none else throw e) Q E s') s2:=λs2 q=>wpAny_mono (qmE (Q:=Q) (E:=E) hh q) (λr s' ⟨v,e,q'⟩=>⟨v,e,wpAny_pure q'⟩) λ_ _ z=>z
 have byInt: ∀slot:Nat,f i=rawInt (slot:Nat)->(∀v,vs[i]? =some v->f (i+1)=rawInt ((if w.params.followText "set-order" =true then slot else t.place.getD i 0+1:Nat):Int))->
   wpAny (model prog w) A.in1 (do
    let r <-setNext a ((slot:Nat):Int).toNat ((i:Nat):Int).toNat ((ep:Nat):Int).toNat
    match r with
     | some (x,next)=>do
      setField (Value.ref it) 0 (rawInt (next:Nat))
      setField (Value.ref it) 1 (rawInt ((i:Nat)+1))
      ret x
     | none=>do
      setField (Value.ref it) 2 Value.none
      let e <-newExc (Value.type "StopIteration") []
      raiseNew e) (λfin s'=> ∃v,fin=Fin.done (Flow.ret v)/\wpAny (model prog w) A (match (Except.ok (some v):Except Value (Option Value)) with
      | Except.ok (some v)=>pure (some v)
      | Except.ok none=>unsupported "iter:the-iterator's-class-has-lost-its-__next__-amid-the-walk"
      | Except.error e=>do
       let b <-isInstance e (Value.type "StopIteration")
       if b=true then pure none else throw e) Q E s') (λe s'=>wpAny (model prog w) A (do
       let b <-isInstance e (Value.type "StopIteration")
       if b=true then pure none else throw e) Q E s') s:=λslot hs hnx=>by
  rw[Int.toNat_natCast,Int.toNat_natCast,Int.toNat_natCast]
  refine wpAny_bind (qm7 (slot:=slot) ho hd hf W hs hi ?_)
  cases q:vs[i]? with
  | some v=>
   dsimp only[Option.map]
   refine wpAny_bind (wpAny_setField (i:=0) hit rfl (by simp) ?_)
   refine wpAny_bind (wpAny_setField (i:=1) (qhT hit) rfl (by simp) (wpAny_pure (one v _ (h1 v _ q ((Heap.SameBut.update ..).trans (Heap.SameBut.update ..)) ?_))))
   rw[hnx v q]
   exact Heap.get?_update_self _ (qhT hit) rfl
  | none=>
   dsimp only[Option.map]
   refine wpAny_bind (wpAny_setField (i:=2) hit rfl (by simp) (stop _ λh' kp=>h0 h' q λb u hb e=>kp b u ?_))
   exact (Heap.get?_update_other _ _ (Ne.symm hb)).trans e
 cases id W with
 | drawn et dt bd=>
  rename_i tp ot pl k
  show wpAny _ _ (seqItems? (.ref tp)>>=_) _ _ _
  refine wpAny_bind (wpAny_seqItems et dt ?_)
  dsimp only
  rw[Int.toNat_natCast]
  cases q:pl[i]? with
  | some j=>
   have e1:(List.toArray (pl.map λ(i:Nat)=>rawInt i))[i]? =some (rawInt (j:Nat)):=by simp[q]
   rw[e1]
   have hj:=bd j (List.mem_of_getElem? q)
   show wpAny _ _ (setNextDrawn a ((j:Nat):Int).toNat ((ep:Nat):Int).toNat>>=_) _ _ _
   rw[Int.toNat_natCast,Int.toNat_natCast]
   have ej:es[j]? =some es[j]:=by simp[hj]
   refine wpAny_bind ?_
   unfold setNextDrawn
   refine wpAny_bind (wpAny_setState_of ho hd hf ?_)
   dsimp only
   rw[if_neg (by simp),ej]
   refine wpAny_pure ?_
   have ev:(pl.map λi=>(es.toList.map (·.2)).getD i Value.none)[i]? =some es[j].2:=by
    rw[List.getElem?_map,q]
    simp[hj]
   exact wpAny_bind (wpAny_setField hit rfl (by simp) (wpAny_pure (one _ _ (h1 _ _ ev (Heap.SameBut.update ..) (qhT hit)))))
  | none=>
   have e1:(List.toArray (pl.map λ(i:Nat)=>rawInt i))[i]? =none:=by simp[List.getElem?_eq_none_iff.mp q]
   rw[e1]
   have ev:(pl.map λi=>(es.toList.map (·.2)).getD i Value.none)[i]? =none:=by rw[List.getElem?_map,q]; rfl
   refine wpAny_bind (wpAny_setField hit rfl (by simp) ?_)
   refine wpAny_bind (wpAny_setField (qhT hit) rfl (by simp) (stop _ λh' kp=>h0 h' ev λb u hb e=>kp b u ?_))
   exact (Heap.get?_update_other _ _ (Ne.symm hb)).trans ((Heap.get?_update_other _ _ (Ne.symm hb)).trans e)
 | text e=>
  exact byInt 0 rfl λv _=>by rw[if_pos e]; rfl
 | small e hn hl hft=>
  cases i with
  | zero=>exact byInt 0 rfl λv _=>by rw[if_neg (by rw[e]; decide)]; rfl
  | succ i=>
   have:=byInt (t.place.getD i 0+1) rfl λv _=>by rw[if_neg (by rw[e]; decide)]; rfl
   exact this
end
end SetL
end
section
namespace SetL
open PySem
theorem qgg:entryFor table "set_iterator.__iter__" =some Builtin.«dict_keyiterator.__iter__» :=
 entryFor_alias (id':= "dict_keyiterator.__iter__") (by kernel_rfl) rfl (by decide+kernel) (by kernel_rfl)
theorem qhj (a:Value):argsOk "set_iterator.__iter__" ⟨[a],[]⟩:=by
 unfold argsOk; kernel_rfl
section
variable {prog:Program} {w:World} {A:Around} {it a:Addr} {o:Obj} {es:Array (Int×Value)} {ep:Nat} {t:SetTable} {tl:List Addr} {f:Nat->Value} {vs:List Value}
def qte (w:World) (it a:Addr) (o:Obj) (es:Array (Int×Value)) (ep:Nat) (t:SetTable) (tl:List Addr) (f:Nat->Value) (vs:List Value) (i:Nat) (h:Heap):Prop:=h.get? it=some (qgZ (f i) i a es.size ep)/\h.get? a=some o/\Way w h a es ep t tl f vs/\i<=vs.length
theorem qpW (hh:A.handled=none) (hne:a≠it) (htl:it∉tl) (hd:o.data= .set es ep t) (hf:t.fits es.size=true) (hv:vs.length=es.size):Walks prog w A it (it::a::tl) [it] vs.length (λi v=>vs[i]? =some v) (qte w it a o es ep t tl f vs) where
 sub:=λb hb=>by rw[List.mem_singleton.mp hb]; exact List.mem_cons_self
 frame:=λi h h' st k=>⟨k it List.mem_cons_self _ st.1,k a (List.mem_cons_of_mem _ List.mem_cons_self) _ st.2.1,st.2.2.1.keep λb hb u e=>k b (List.mem_cons_of_mem _ (List.mem_cons_of_mem _ hb)) u e,st.2.2.2⟩
 item:=λi s Q E hi st hQ=>by
  refine qex hh hne htl st.1 st.2.1 hd hf st.2.2.1 hv st.2.2.2 (λv h' ev sb g=> ?_) λh' ev _=> ?_
  ·have e:s={ s with toks:=s.toks }:=rfl
   refine hQ v h' s.toks ev ⟨g,(sb.2 a hne).trans st.2.1,st.2.2.1.keep λb hb u q=>(sb.2 b (λz=>htl (by rw[<-z]; exact hb))).trans q,hi⟩ λb u hb q=>(sb.2 b (λz=>hb (by rw[z]; exact List.mem_singleton.mpr rfl))).trans q
  ·rw[List.getElem?_eq_getElem hi] at ev; cases ev
 done:=λs Q E st hQ=>by
  refine qex hh hne htl st.1 st.2.1 hd hf st.2.2.1 hv st.2.2.2 (λv h' ev sb g=> ?_) λh' ev kp=> ?_
  ·rw[List.getElem?_eq_none_iff.mpr (Nat.le_refl _)] at ev; cases ev
  ·exact hQ h' s.toks λb u hb q=>kp b u (λz=>hb (by rw[z]; exact List.mem_singleton.mpr rfl)) q
 self:=λi s Q E st hQ=>by
  have ty:s.TypeIs (.ref it) "set_iterator" :=⟨_,st.1,rfl⟩
  refine wpAny_pyIter_slot ty qfU (wpAny_call_entry qfU ty qgg ?_ (qhj _))
  show wpAny _ _ (ret (.ref it)) _ _ s
  exact wpAny_pure ⟨_,rfl, "set_iterator",_,ty,qdg.lookup,hQ⟩
end
section
variable {prog:Program} {w:World} {A:Around} {E:Value->Shared->Prop} {s:Shared}
theorem qiP:splitId "set.__len__" =some ("set", "__len__"):=by decide+kernel
theorem qo7 {α:Type} {M:Model} {c:Bool} {x y:Sem α} {Q:α->Shared->Prop} (hc:c=true) (h:wpAny M A x Q E s):wpAny M A (if c=true then x else y) Q E s:=by rw[if_pos hc]; exact h
theorem qrl {α:Type} {M:Model} {c:Bool} {x y:Sem α} {Q:α->Shared->Prop} (hc:c=false) (h:wpAny M A y Q E s):wpAny M A (if c=true then x else y) Q E s:=by rw[if_neg (by rw[hc]; decide)]; exact h
theorem qhh {a:Addr} {o:Obj} {es:Array (Int×Value)} {ep:Nat} {t:SetTable} {Q:List Value->Shared->Prop} (hh:A.handled=none) (ho:s.heap.get? a=some o) (hx:o.ExactSet) (hd:o.data= .set es ep t) (hf:t.fits es.size=true) (hb:es.size<scanBound) (pl:qd2 t) (ld:t.led= !w.params.followText "set-order")
  (h: ∀(vs:List Value) (h':Heap) (d:Drawn) (tk:Nat),List.Perm vs (es.toList.map (·.2))->(∀b u,s.heap.get? b=some u->h'.get? b=some u)->Q vs { s with heap:=h',drawn:=d,toks:=tk }):wpAny (model prog w) A (collect (.ref a)) Q E s:=by
 have ha:=Heap.lt_size ho
 unfold collect
 refine wpAny_bind (wpAny_runValue (codeAny_builtin PySem.F.entry_proto_collect ?_))
 rw[Around.under_plainId PySem.F.plain_proto_collect _]
 refine wpAny_bind (wpAny_newObj_type ?_ (by size_fits))
 refine wpAny_pure ⟨plainId_quiet PySem.F.plain_list_iadd _,codeAny_builtin PySem.F.entry_list_iadd ?_⟩
 rw[Around.under_plainId PySem.F.plain_list_iadd _]
 have hL:(s.heap.push { cls:=.type "list",data:=.seq ([]:List Value).toArray }).get? s.heap.objs.size=some { cls:=.type "list",data:=.seq ([]:List Value).toArray }:=Heap.get?_push_size _ rfl
 have ho1:(s.heap.push { cls:=.type "list",data:=.seq ([]:List Value).toArray }).get? a=some o:=Heap.get?_push_of_some _ ho
 have ty:({ s with heap:=s.heap.push { cls:=.type "list",data:=.seq ([]:List Value).toArray } }:Shared).TypeIs (.ref a) "set" :=⟨o,ho1,hx.1⟩
 show wpAny _ A.in1 (Builtin.List.listExtendWith (.ref s.heap.objs.size) (.ref a) (.ref s.heap.objs.size)) _ _ _
 unfold Builtin.List.listExtendWith
 refine wpAny_bind (wpAny_typeOf ty ?_)
 have ns:Builtin.List.listSameRef (.ref s.heap.objs.size) (.ref a)=false:=by
  simp[Builtin.List.listSameRef]
  exact (Nat.ne_of_lt ha).symm
 rw[if_neg (by rw[ns]; decide)]
 refine wpAny_bind (qln (s:={ s with heap:=s.heap.push { cls:=.type "list",data:=.seq ([]:List Value).toArray } }) ho1 hx hd hf hb pl ld λit h1 d tl f vs hit htl kp g W pm=> ?_)
 have ty1:({ s with heap:=h1,drawn:=d }:Shared).TypeIs (.ref a) "set" :=⟨o,kp _ _ ho1,hx.1⟩
 refine wpAny_bind (wpAny_holding ?_)
 unfold Builtin.List.listLengthHint
 refine wpAny_bind (wpAny_specialOf ty1 PySem.F.slot_set_len.lookup ?_)
 dsimp only
 rw[qiP]
 dsimp only
 refine wpAny_bind (wpAny_isInstance (b:=true) ty1 (by rw[isSubtype_type]; kernel_rfl) ?_)
 refine qrl rfl (qo7 (by decide+kernel) ?_)
 refine wpAny_bind (wpAny_typeOf ty1 (wpAny_pure ?_))
 refine qo7 (by decide+kernel) ?_
 refine wpAny_bind (wpAny_rule ?_)
 have g1:h1.get? s.heap.objs.size=some { cls:=.type "list",data:=.seq ([]:List Value).toArray }:=kp _ _ hL
 refine wpAny_bind ?_
 show wpAny _ A.in1 (updateSeq s.heap.objs.size (·.push .none)>>=λ_=>updateSeq s.heap.objs.size (·.pop)) _ _ _
 refine wpAny_bind (wpAny_updateSeq g1 rfl ?_)
 have g2:=Heap.get?_update_self (Obj.mapSeq (·.push Value.none)) g1 rfl
 refine wpAny_updateSeq g2 rfl ?_
 have g3:=Heap.get?_update_self (Obj.mapSeq (·.pop)) g2 rfl
 have oth: ∀b u,b≠s.heap.objs.size->h1.get? b=some u->((h1.update s.heap.objs.size (Obj.mapSeq (·.push Value.none))).update s.heap.objs.size (Obj.mapSeq (·.pop))).get? b=some u:=
  λb u hb e=>(Heap.get?_update_other _ _ (Ne.symm hb)).trans ((Heap.get?_update_other _ _ (Ne.symm hb)).trans e)
 have szp:s.heap.objs.size<({ s with heap:=s.heap.push { cls:=.type "list",data:=.seq ([]:List Value).toArray } }:Shared).heap.objs.size:=by
  show _<(s.heap.push _).objs.size
  rw[Heap.size_push]; exact Nat.lt_succ_self _
 have nit:it≠s.heap.objs.size:=λz=>by rw[z] at hit; exact absurd (Nat.lt_of_lt_of_le szp hit) (Nat.lt_irrefl _)
 have nia:a≠it:=λz=>by
  rw[<-z] at hit
  exact absurd (Nat.lt_of_lt_of_le (Nat.lt_trans ha szp) hit) (Nat.lt_irrefl _)
 have ntl:it∉tl:=λz=>(htl it z).2 rfl
 have lt:s.heap.objs.size∉(it::a::tl):=λz=>by
  rcases List.mem_cons.mp z with z | z
  ·exact nit z.symm
  ·rcases List.mem_cons.mp z with z | z
   ·exact absurd ha (by rw[<-z]; exact Nat.lt_irrefl _)
   ·exact absurd (Nat.lt_of_lt_of_le szp (htl _ z).1) (Nat.lt_irrefl _)
 have lv:vs.length=es.size:=by rw[pm.length_eq]; simp
 have hh2:A.in1.handled=none:=hh
 have Wk:=qpW (prog:=prog) (w:=w) (A:=A.in1) (f:=f) hh2 nia ntl hd hf lv
 refine wpAny_pure ⟨plainId_quiet PySem.F.plain_extend_loop _,codeAny_extend_loopS Wk.toS (by rw[lv]; exact fits_of_scanBound hb) _ lt _ vs.length 0 _ _ _ rfl (Nat.zero_le _) ?_ g3 (ItemsOf.nil _) λs' acc' c' hm hS' hacc=> ?_⟩
 ·exact ⟨oth _ _ nit g,oth _ _ (Nat.ne_of_lt ha) (kp _ _ ho1),W.keep λb hb' u e=>oth b u (λz=>lt (by rw[<-z]; exact List.mem_cons_of_mem _ (List.mem_cons_of_mem _ hb'))) e,Nat.zero_le _⟩
 ·show wpAny _ A (load s.heap.objs.size>>=_) _ _ s'
  refine wpAny_bind (wpAny_load hS' (wpAny_pure ?_))
  have ev:acc'.toList=vs:=by
   apply List.ext_getElem?
   intro j
   by_cases hj:j<vs.length
   ·have h2:j<acc'.size:=by rw[hacc.1]; exact hj
    have:=hacc.2 j acc'[j] (by simp[h2])
    rw[this]
    simp[h2]
   ·have q1:acc'.toList[j]? =none:=List.getElem?_eq_none_iff.mpr (by rw[Array.length_toList,hacc.1]; lia)
    have q2:vs[j]? =none:=List.getElem?_eq_none_iff.mpr (by lia)
    rw[q1,q2]
  rw[ev]
  obtain ⟨hh',gg,dd,tk,os⟩:=s'
  have e1:gg=s.gens:=hm.gens
  have e2:dd=d:=hm.drawn
  have e3:os=s.os:=hm.os
  subst e1 e2 e3
  refine h vs hh' dd tk pm λb u e=> ?_
  have nb:b<s.heap.objs.size:=Heap.lt_size e
  refine hm.heap b u (λz=> ?_) (oth b u (Nat.ne_of_lt nb) (kp b u (Heap.get?_push_of_some _ e)))
  rcases List.mem_cons.mp z with z | z
  ·exact absurd nb (by rw[z]; exact Nat.lt_irrefl _)
  ·rw[List.mem_singleton.mp z] at nb
   exact absurd (Nat.lt_of_lt_of_le (Nat.lt_trans nb szp) hit) (Nat.lt_irrefl _)
end
end SetL
end
section
namespace SetL
open PySem
section
variable {K:Type} [DecidableEq K]
def mem (key:Nat->K) (i:Nat) (k:K):Bool:=(List.range i).any λj=>decide (k=key j)
def cnt (key:Nat->K):Nat->Nat
 | 0=>0
 | i+1=>if mem key i (key i)=true then cnt key i else cnt key i+1
theorem qhH (key:Nat->K) (i:Nat) (k:K):mem key (i+1) k=(mem key i k||decide (k=key i)):=by
 unfold mem
 rw[List.range_succ,List.any_append]
 simp
theorem qmq (key:Nat->K): ∀i,cnt key i<=i
 | 0=>Nat.le_refl _
 | i+1=>by
  have:=qmq key i
  unfold cnt
  split<;>lia
end
section
variable {prog:Program} {w:World} {K:Type} [DecidableEq K] {knd:KeyKind prog w K} {A:Around} {R:Result->Shared->Prop} {I:Addr} {fp wr:List Addr} {G:Array GenState->Array GenState->Prop} {n:Nat} {P:Nat->Value->Prop} {Sx:Nat->Shared->Prop}
theorem qoS (W:WalksS prog w A.in1 I fp wr G n P Sx) (S:Addr) (hSf:S∉fp) (key:Nat->K) (hval: ∀i v,P i v->knd.is (key i) v=true/\v.scannable=true) (hb:n+1<scanBound):
  ∀(k i:Nat) (s:Shared),n - i=k->i<=n->Sx i s->qgB knd s.heap S (mem key i) (cnt key i)->(∀s',Moved (S::wr) G s s'->qgB knd s'.heap S (mem key n) (cnt key n)->R (.ok (.ret .none)) s')->
   codeAny (model prog w) A (.builtin "set.update.loop" ⟨[.ref S,.ref I],[]⟩) R s:=by
 have nw:S∉wr:=λz=>hSf (W.sub _ z)
 have sub: ∀b∈wr,b∈S::wr:=λb z=>List.mem_cons_of_mem _ z
 intro k
 induction k with
 | zero=>
  intro i s hk hi st hS fin
  obtain rfl:i=n:=by lia
  refine codeAny_builtin PyProof.Rows.F.entry_set_update_loop ?_
  rw[Around.under_plainId PyProof.Rows.F.plain_set_update_loop _]
  refine wpAny_bind (W.done s _ _ st λs' mv=>wpAny_pure (fin s' (mv.mono sub) (hS.keep λo e=>mv.heap S o nw e)))
 | succ k ih=>
  intro i s hk hi st hS fin
  have lt:i<n:=by lia
  refine codeAny_builtin PyProof.Rows.F.entry_set_update_loop ?_
  rw[Around.under_plainId PyProof.Rows.F.plain_set_update_loop _]
  refine wpAny_bind (W.item i s _ _ lt st λv s' hP st' mv=> ?_)
  obtain ⟨v1,v2⟩:=hval i v hP
  refine wpAny_bind (wpAny_holding ?_)
  unfold setAdd
  refine wpAny_holding (wpAny_bind (knd.pyHash (k:=key i) v1 ?_))
  have cl:=qmq key i
  refine qpC (knd:=knd) (s:={ s' with toks:=s'.toks+1 }) v1 v2 (hS.keep λo e=>mv.heap S o nw e) (by lia) λh' sb S2=> ?_
  refine wpAny_pure ⟨plainId_quiet PyProof.Rows.F.plain_set_update_loop _,ih (i+1) _ (by lia) lt (W.frame _ s' _ _ st' (Nat.le_succ _) λb hb' o e=> ?_) ?_ λs'' mv2 S3=> ?_⟩
  ·rw[sb.2 b λz=>hSf (by rw[<-z]; exact hb')]; exact e
  ·obtain ⟨o,es,ep,t,a1,a2,a3,a4,a5,a6,a7,a8,a9,a10⟩:=S2
   exact ⟨o,es,ep,t,a1,a2,a3,a4,λk'=>by rw[qhH]; exact a5 k',a6,a7,a8,a9,a10⟩
  ·refine fin s'' (Moved.trans W.gtrans ((mv.mono sub).then_heap (Nat.le_succ _) λb o hb' e=> ?_) mv2) S3
   rw[sb.2 b λz=>hb' (by rw[z]; exact List.mem_cons_self)]; exact e
end
section
variable {prog:Program} {w:World} {K:Type} [DecidableEq K] {knd:KeyKind prog w K} {A:Around} {E:Value->Shared->Prop} {s:Shared}
theorem qjt (x:Value) {Q₁:Value->Shared->Prop} (h:Q₁ (.ref s.heap.objs.size) { s with heap:=s.heap.push { cls:=.type "set",dict:=none,data:=.set #[] 0 (.fresh 0 0 (!w.params.followText "set-order")) } }):
  codeAny (model prog w) A (.call (.builtin "set.__new__") ⟨[.type "set",x],[]⟩) (PySem.wants Q₁ E) s:=by
 refine codeAny_of_tree ?_
 show wpAny _ A.in1 (do checkBuiltinCall "set.__new__" ⟨[.type "set",x],[]⟩; again (.builtin "set.__new__" ⟨[.type "set",x],[]⟩)) _ _ s
 refine wpAny_bind (wpAny_of_eq (PySem.F.newCall_set_1 x) (wpAny_pure ⟨plainId_quiet PySem.F.plain_set_new _,codeAny_builtin PySem.F.entry_set_new ?_⟩))
 rw[Around.under_plainId PySem.F.plain_set_new _]
 unfold Builtin.«set.__new__»
 unfold Builtin.Frozenset.newClass
 have sb:=PySem.sub_set_self
 obtain ⟨hp,g,d,tk,os⟩:=s
 dsimp only
 wp_walk
 exact wpAny_askSetting (wpAny_pure (by
  dsimp only
  simp only[newObj]
  exact wpAny_bind (wpAny_alloc (wpAny_pure (wpAny_pure h)))))
set_option maxHeartbeats 8000000 in
theorem qpy {l:Addr} {items:Array Value} {key:Nat->K} {Q:Value->Shared->Prop} (hh:A.handled=none) (hl:s.heap.IsList l items) (hval: ∀i v,items[i]? =some v->knd.is (key i) v=true/\v.scannable=true) (hb:items.size+1<scanBound)
  (h: ∀(h':Heap) (tk:Nat),qgB knd h' s.heap.objs.size (mem key items.size) (cnt key items.size)->(∀b o,s.heap.get? b=some o->h'.get? b=some o)->Q (.ref s.heap.objs.size) { s with heap:=h',toks:=tk }):
  wpAny (model prog w) A (call (.type "set") [.ref l]) Q E s:=by
 obtain ⟨c,tl,mro⟩:=PySem.F.called_set.mro
 have md:=PySem.F.called_set.made
 have sb:=PySem.F.called_set.sub
 refine wpAny_call (codeAny_of_tree ?_)
 show wpAny _ _ (callAny (.type "set") _) _ _ _
 refine wpAny_pure ⟨Code.quiet_builtin _ (by decide+kernel),codeAny_builtin PySem.F.entry_type_call ?_⟩
 rw[Around.under_plain (weight_type_call_type "set" [.ref l] []) rfl]
 have q1:=PySem.F.called_set.notType
 have q2:=PySem.F.called_set.canCreate
 have q3:=PySem.F.typeCall_set_1 (.ref l)
 repeat (any_goals (first | assumption | wp_step))
 refine codeAny_mono (qjt (.ref l) (E:=E) (Q₁:=λv s1=>v= .ref s.heap.objs.size/\s1={ s with heap:=s.heap.push { cls:=.type "set",dict:=none,data:=.set #[] 0 (.fresh 0 0 (!w.params.followText "set-order")) } }) ⟨rfl,rfl⟩) λr s1 hr=> ?_
 cases r with
 | error e=>exact hr
 | ok fl=>cases fl with
  | ret obj=>
   obtain ⟨rfl,rfl⟩:=hr
   have gS:(s.heap.push { cls:=.type "set",dict:=none,data:=.set #[] 0 (.fresh 0 0 (!w.params.followText "set-order")) }).get? s.heap.objs.size=some { cls:=.type "set",dict:=none,data:=.set #[] 0 (.fresh 0 0 (!w.params.followText "set-order")) }:=Heap.get?_push_size _ rfl
   have tS:Shared.TypeIs { s with heap:=s.heap.push { cls:=.type "set",dict:=none,data:=.set #[] 0 (.fresh 0 0 (!w.params.followText "set-order")) } } (.ref s.heap.objs.size) "set" :=⟨_,gS,rfl⟩
   have li:=PySem.F.called_set.init.lookup
   have bi:=PySem.F.called_set.init.bind (.ref s.heap.objs.size)
   repeat (any_goals (first | assumption | wp_step))
   refine codeAny_mono (codeAny_call_builtin (R:=PySem.wants (λr s2=>r= .none/\∃h' tk,s2={ s with heap:=h',toks:=tk }/\qgB knd h' s.heap.objs.size (mem key items.size) (cnt key items.size)/\∀b o,s.heap.get? b=some o->h'.get? b=some o) E) PySem.F.called_set.init.plain PySem.F.entry_set_init (PySem.check_set_init_1 tS ?_)) λr2 s2 hr2=> ?_
   ·obtain ⟨⟨oc,od,odt,osl⟩,gl,cl,nl,dl⟩:=hl
    simp only at cl dl
    subst cl dl
    have gl':(s.heap.push { cls:=.type "set",dict:=none,data:=.set #[] 0 (.fresh 0 0 (!w.params.followText "set-order")) }).get? l=some { cls:=.type "list",dict:=od,data:=.seq items nl,slots:=osl }:=Heap.get?_push_of_some _ gl
    have u1:=PySem.F.sub_list_set
    have u2:=PySem.F.sub_list_frozenset
    have u3:(Value.type "list" ==Value.type "dict")=false:=by decide
    have l1:(s.heap.push { cls:=.type "set",dict:=none,data:=.set #[] 0 (.fresh 0 0 (!w.params.followText "set-order")) }).IsList l items:=⟨_,gl',rfl,nl,rfl⟩
    unfold Builtin.«set.__init__» noKeywords
    unfold Builtin.Frozenset.updateFrom
    generalize pie:pyIter=PI
    wp_walk
    subst pie
    refine wpAny_pyIter_list l1 (wpAny_bind (wpAny_runValue ?_))
    have lS:l<s.heap.objs.size:=Heap.lt_size gl
    have sz:(s.heap.push { cls:=.type "set",dict:=none,data:=.set #[] 0 (.fresh 0 0 (!w.params.followText "set-order")) }).objs.size=s.heap.objs.size+1:=Heap.size_push ..
    have n1:l≠(s.heap.push { cls:=.type "set",dict:=none,data:=.set #[] 0 (.fresh 0 0 (!w.params.followText "set-order")) }).objs.size:=by rw[sz]; exact Nat.ne_of_lt (Nat.lt_succ_of_lt lS)
    have n2:s.heap.objs.size∉[(s.heap.push { cls:=.type "set",dict:=none,data:=.set #[] 0 (.fresh 0 0 (!w.params.followText "set-order")) }).objs.size,l]:=λz=>by
     rw[sz] at z
     rcases List.mem_cons.mp z with z | z
     ·exact absurd z (Nat.ne_of_lt (Nat.lt_succ_self _))
     ·exact absurd (List.mem_singleton.mp z) (Nat.ne_of_gt lS)
    have hh3:A.in1.in1.in1.handled=none:=hh
    refine qoS (knd:=knd) ((Walks.list hh3 _ l n1 items).toS) s.heap.objs.size n2 key (λi v hv=>hval i v hv) hb (items.size - 0) 0 _ (by lia) (Nat.zero_le _) ⟨⟨_,Heap.get?_push_size _ rfl,rfl,rfl⟩,l1.push _⟩ ?_ λs' mv S'=> ?_
    ·exact ⟨_, #[],0,_,Heap.get?_push_of_some _ gS,⟨rfl,rfl,rfl⟩,rfl,λe he=>by simp at he,λk=>by simp[mem],by decide,by rfl,rfl,qeS _ _ _,rfl⟩
    ·obtain ⟨h',g',d',tk',os'⟩:=s'
     have e1:g'=s.gens:=mv.gens
     have e2:d'=s.drawn:=mv.drawn
     have e3:os'=s.os:=mv.os
     subst e1 e2 e3
     refine wpAny_pure (wpAny_pure ⟨rfl,h',tk',rfl,S',λb o e=> ?_⟩)
     have lb:=Heap.lt_size e
     refine mv.heap b o (λz=> ?_) (Heap.get?_push_of_some _ (Heap.get?_push_of_some _ e))
     rcases List.mem_cons.mp z with z | z
     ·exact absurd z (Nat.ne_of_lt lb)
     ·have z':=List.mem_singleton.mp z
      rw[sz] at z'
      exact absurd z' (Nat.ne_of_lt (Nat.lt_succ_of_lt lb))
   ·cases r2 with
    | error e=>exact hr2
    | ok f2=>cases f2 with
     | ret r=>
      obtain ⟨rfl,h',tk,rfl,S',kp⟩:=hr2
      repeat (any_goals (first | assumption | wp_step))
      exact h _ _ S' kp
     | _=>exact hr2.elim
  | _=>exact hr.elim
end
end SetL
end
section
namespace SR
theorem qkS {α:Type} {P:List α->Prop} (h0:P []) (hs: ∀l a,P l->P (l++[a])): ∀l,P l:=by
 intro l
 have: ∀r:List α,P r.reverse:=by
  intro r
  induction r with
  | nil=>exact h0
  | cons a r ih=>rw[List.reverse_cons]; exact hs _ _ ih
 rw[<-List.reverse_reverse l]
 exact this _
section
variable {κ:Type} [DecidableEq κ]
abbrev T4 (κ:Type):=Int×κ×Int×Int
end
end SR
end
section
namespace SR
section
variable {κ:Type} [DecidableEq κ]
abbrev R3 (κ:Type):=Int×κ×Int
def un (t:T4 κ):R3 κ:=(t.1,t.2.1,t.2.2.1)
def mat (w:Int) (a b:R3 κ):Bool:=decide (a.2.1=b.2.1)&&(decide (a.1 - b.1<=w)&&decide (b.1 - a.1<=w))
def cp (a b:R3 κ):T4 κ:=(max a.1 b.1,a.2.1,a.2.2,b.2.2)
def pr (w:Int) (A B:List (R3 κ)):List (T4 κ):=A.flatMap λa=>(B.filter (mat w a)).map (cp a)
def keyIs (k:κ):R3 κ->Bool:=λr=>decide (r.2.1=k)
end
end SR
end
section
namespace SR
theorem qga {α:Type} {k k':α->Int} {r:α} (hr:k r=k' r): ∀l:List α,(∀x∈l,k x=k' x)->ins k r l=ins k' r l
 | [],_=>rfl
 | x::l,h=>by
  show (if k x<=k r then x::ins k r l else r::x::l)=(if k' x<=k' r then x::ins k' r l else r::x::l)
  rw[hr,h x List.mem_cons_self,qga hr l λy hy=>h y (List.mem_cons_of_mem _ hy)]
theorem srt_congr {α:Type} {k k':α->Int} (l:List α):(∀x∈l,k x=k' x)->srt k l=srt k' l:=by
 refine qkS (P:=λl=>(∀x∈l,k x=k' x)->srt k l=srt k' l) (λ_=>rfl) (λl a ih h=> ?_) l
 rw[qfa,qfa,ih λx hx=>h x (List.mem_append_left _ hx)]
 exact qga (h a (List.mem_append_right _ List.mem_cons_self)) _ λx hx=>h x (List.mem_append_left _ ((qei _).mp hx))
end SR
namespace RH
open PySem PySem.Spec PyProof.Rows L2 SR
def ltS (x y:Str):Bool:=decide (x.cps.toList<y.cps.toList)
theorem qoc {x y:Str} (h:x.cps.toList=y.cps.toList):x=y:=by
 cases x; cases y
 congr 1
 exact Array.toList_inj.mp h
theorem ordS:Ord ltS where
 irr:=λa=>decide_eq_false (List.lt_irrefl _)
 tr:=λa b c h1 h2=>decide_eq_true (List.lt_trans (of_decide_eq_true h1) (of_decide_eq_true h2))
 tot:=λa b h1 h2=>qoc (List.le_antisymm (List.not_lt.mp (of_decide_eq_false h2)) (List.not_lt.mp (of_decide_eq_false h1)))
end RH
end
section
namespace SetL
section
variable {α:Type} [DecidableEq α]
def dd:List α->List α
 | []=>[]
 | x::xs=>if x∈dd xs then dd xs else x::dd xs
theorem qc5 {x:α}: ∀{l:List α},x∈dd l↔x∈l
 | []=>Iff.rfl
 | y::l=>by
  have ih:=qc5 (x:=x) (l:=l)
  show x∈(if y∈dd l then dd l else y::dd l)↔_
  by_cases c:y∈dd l
  ·rw[if_pos c,ih,List.mem_cons]
   refine ⟨.inr,λh=> ?_⟩
   rcases h with rfl | h
   ·exact ih.mp c
   ·exact h
  ·rw[if_neg c,List.mem_cons,List.mem_cons,ih]
theorem qcd: ∀l:List α,(dd l).Nodup
 | []=>List.nodup_nil
 | y::l=>by
  show (if y∈dd l then dd l else y::dd l).Nodup
  by_cases c:y∈dd l
  ·rw[if_pos c]; exact qcd l
  ·rw[if_neg c]; exact List.nodup_cons.mpr ⟨c,qcd l⟩
theorem qiy: ∀l:List α,(dd l).length<=l.length
 | []=>Nat.le_refl _
 | y::l=>by
  have ih:=qiy l
  show (if y∈dd l then dd l else y::dd l).length<=_
  split
  ·exact Nat.le_succ_of_le ih
  ·exact Nat.succ_le_succ ih
theorem qed: ∀{D L:List α},D.Nodup->(∀x∈D,x∈L)->L.length=D.length->List.Perm L D
 | [],L,_,_,hl=>by rw[List.length_eq_zero_iff.mp hl]
 | d::D,L,hn,hm,hl=>by
  have hd:=hm d List.mem_cons_self
  have hn':=List.nodup_cons.mp hn
  refine (List.perm_cons_erase hd).trans (List.Perm.cons d (qed hn'.2 (λx hx=> ?_) ?_))
  ·have ne:x≠d:=λz=>by subst z; exact hn'.1 hx
   refine (List.mem_erase_of_ne ne).mpr (hm x (List.mem_cons_of_mem _ hx))
  ·rw[List.length_erase_of_mem hd,hl]; rfl
def dl (key:Nat->α):Nat->List α
 | 0=>[]
 | i+1=>if mem key i (key i)=true then dl key i else dl key i++[key i]
theorem qml (key:Nat->α): ∀i,(dl key i).length=cnt key i
 | 0=>rfl
 | i+1=>by
  have ih:=qml key i
  show (if mem key i (key i)=true then dl key i else dl key i++[key i]).length=if mem key i (key i)=true then cnt key i else cnt key i+1
  split
  ·exact ih
  ·rw[List.length_append,ih]; rfl
theorem qjx (key:Nat->α) (x:α): ∀i,x∈dl key i↔mem key i x=true
 | 0=>by simp[dl,mem]
 | i+1=>by
  have ih:=qjx key x i
  rw[qhH]
  show x∈(if mem key i (key i)=true then dl key i else dl key i++[key i])↔_
  by_cases c:mem key i (key i)=true
  ·rw[if_pos c,ih]
   simp only[Bool.or_eq_true,decide_eq_true_eq]
   refine ⟨.inl,λh=> ?_⟩
   rcases h with h | rfl
   ·exact h
   ·exact c
  ·rw[if_neg c,List.mem_append,ih]
   simp
theorem qhG (key:Nat->α): ∀i,(dl key i).Nodup
 | 0=>List.nodup_nil
 | i+1=>by
  have ih:=qhG key i
  show (if mem key i (key i)=true then dl key i else dl key i++[key i]).Nodup
  by_cases c:mem key i (key i)=true
  ·rw[if_pos c]; exact ih
  ·rw[if_neg c,List.nodup_append]
   refine ⟨ih,by simp,λa ha b hb=> ?_⟩
   rw[List.mem_singleton] at hb
   subst hb
   intro z
   subst z
   exact c ((qjx key _ i).mp ha)
theorem qfq {l:List α} {d:α} {x:α}:mem (λi=>l.getD i d) l.length x=true↔x∈l:=by
 unfold mem
 rw[List.any_eq_true]
 constructor
 ·rintro ⟨j,hj,e⟩
  have hj':=List.mem_range.mp hj
  have e':=of_decide_eq_true e
  rw[e']
  show l.getD j d∈l
  rw[List.getD_eq_getElem?_getD,List.getElem?_eq_getElem hj']
  exact List.getElem_mem hj'
 ·intro h
  obtain ⟨j,hj,e⟩:=List.mem_iff_getElem.mp h
  refine ⟨j,List.mem_range.mpr hj,decide_eq_true ?_⟩
  show x=l.getD j d
  rw[List.getD_eq_getElem?_getD,List.getElem?_eq_getElem hj]
  exact e.symm
theorem qrv {l:List α} {d:α}:List.Perm (dl (λi=>l.getD i d) l.length) (dd l):=
 (List.perm_ext_iff_of_nodup (qhG _ _) (qcd _)).mpr λx=>by rw[qjx,qfq,qc5]
theorem qko {l:List α} {d:α}:cnt (λi=>l.getD i d) l.length=(dd l).length:=by rw[<-qml,qrv.length_eq]
end
end SetL
namespace SetL
open PySem PySem.W PySem.Calls PyProof.Rows SR
structure Kd (prog:Program) (w:World) (α:Type) [DecidableEq α] where
 knd:PySem.KeyKind prog w α
 up:α->L2.V
 d:α
 of:Value->α
 lt:α->α->Bool
 ord:Ord lt
 isv: ∀x u,L2.RelV (up x) u->knd.is x u=true/\u.scannable=true
 vis: ∀x u,knd.is x u=true->L2.RelV (up x) u
 ofv: ∀x u,L2.RelV (up x) u->of u=x
 kind: ∀v1 v2 vs,(∀v∈v1::v2::vs,∃x,L2.RelV (up x) v)->keyKind' (v1::v2::vs).toArray=pure oneType'
 lts: ∀{A:Around} {E:Value->Shared->Prop} {s:Shared} {Q:Bool->Shared->Prop} (x y:α) (u v:Value),L2.RelV (up x) u->L2.RelV (up y) v->Q (lt x y) s->wpAny (model prog w) A (keyLt' oneType' u v) Q E s
section
variable {prog:Program} {w:World} {A:Around} {E:Value->Shared->Prop} {s:Shared} {α:Type} [DecidableEq α] (k:Kd prog w α)
theorem qlu {h:Heap} {a:Addr} {ss:List α} (S:qgB k.knd h a (mem (λi=>ss.getD i k.d) ss.length) (cnt (λi=>ss.getD i k.d) ss.length)):
  ∃o es ep t,h.get? a=some o/\o.ExactSet/\o.data= .set es ep t/\es.size<scanBound/\t.fits es.size=true/\qd2 t/\t.led=(!w.params.followText "set-order")/\es.size=(dd ss).length/\
   (∀v∈es.toList.map (·.2),∃x,L2.RelV (k.up x) v)/\List.Perm ((es.toList.map (·.2)).map k.of) (dd ss):=by
 obtain ⟨o,es,ep,t,ho,hx,hd,hel,hme,hb,hf,hn,hp,hl⟩:=S
 have hv: ∀v∈es.toList.map (·.2),∃x,L2.RelV (k.up x) v:=λv hv=>by
  obtain ⟨e,he,rfl⟩:=List.mem_map.mp hv
  obtain ⟨⟨x,hk,_⟩,_⟩:=hel e he
  exact ⟨x,k.vis x _ hk⟩
 refine ⟨o,es,ep,t,ho,hx,hd,hb,hf,hp,hl,by rw[hn,qko],hv,?_⟩
 refine qed (qcd ss) (λx hx=> ?_) (by rw[List.length_map,List.length_map,Array.length_toList,hn,qko])
 have hx':=qc5.mp hx
 obtain ⟨e,he,ek⟩:=(hme x).mp (qfq.mpr hx')
 exact List.mem_map.mpr ⟨e.2,List.mem_map.mpr ⟨e,he,rfl⟩,k.ofv x _ (k.vis x _ ek)⟩
theorem qeM {a:Addr} {ss:List α} {Q:Value->Shared->Prop} (hh:A.handled=none) (S:qgB k.knd s.heap a (mem (λi=>ss.getD i k.d) ss.length) (cnt (λi=>ss.getD i k.d) ss.length)) (h64:ss.length<64)
  (h: ∀h1 D h' d tk c vs,St.Kp s.heap h1->h1.objs.size<=D->St.Kp h1 h'->h'.get? D=some (seqObj "list" (List.toArray vs) c)->L2.Vals ((qeG k.lt (dd ss)).map k.up) vs->Q (.ref D) { s with heap:=h',drawn:=d,toks:=tk }):
  wpAny (model prog w) A (call (.builtin "sorted") [.ref a]) Q E s:=by
 obtain ⟨o,es,ep,t,ho,hx,hd,hb,hf,hp,hl,hn,hv,pm⟩:=qlu k S
 refine Calls.call_function_entry kind_sorted plain_sorted entry_sorted (args_sorted1 _) ?_
 unfold Builtin.«sorted»
 refine wpAny_bind (m:=checkCount "sorted" 1 1 _) (wpAny_pure ?_)
 refine wpAny_bind (qhh (by exact hh) ho hx hd hf hb hp hl λvs H1 d1 tk1 pv kp1=> ?_)
 have le:vs.length=(dd ss).length:=by rw[pv.length_eq,List.length_map,Array.length_toList,hn]
 have l64:vs.length<64:=by have:=qiy ss; lia
 have hv': ∀v∈vs,∃x,L2.RelV (k.up x) v:=λv z=>hv v (pv.mem_iff.mp z)
 have pm':List.Perm (vs.map k.of) (dd ss):=(pv.map k.of).trans pm
 refine wpAny_bind (wpAny_newList ?_ (by rw[sizeLine_eq]; show vs.length<=_; lia))
 have kp2:St.Kp H1 (H1.push (seqObj "list" vs.toArray 0)):=λb o q=>Heap.get?_push_of_some _ q
 have hoD:(H1.push (seqObj "list" vs.toArray 0)).get? H1.objs.size=some (seqObj "list" vs.toArray 0):=Heap.get?_push_size _ rfl
 refine wpAny_bind (wpAny_holding (wpAny_call_entry slot_list_sort ⟨_,hoD,rfl⟩ entry_list_sort ?body (args_list_sort _)))
 case body=>
  have at_: ∀{m:Nat},m<vs.length->L2.RelV (k.up ((vs.map k.of).getD m k.d)) (vs.getD m Value.none)/\(vs.map k.of).getD m k.d∈vs.map k.of:=λ{m} hm=>by
   obtain ⟨x,e⟩:=hv' vs[m] (List.getElem_mem hm)
   have e1:(vs.map k.of).getD m k.d=x:=by
    rw[List.getD_eq_getElem?_getD,List.getElem?_map,List.getElem?_eq_getElem hm]
    exact k.ofv x _ e
   refine ⟨?_,?_⟩
   ·rw[e1,List.getD_eq_getElem?_getD,List.getElem?_eq_getElem hm]; exact e
   ·rw[e1]; exact List.mem_map.mpr ⟨_,List.getElem_mem hm,k.ofv x _ e⟩
  refine St.lsort_p (h0:=H1) (kz:=(vs.map k.of).map (qcU k.lt (vs.map k.of))) (κ:=oneType') (s:={ s with heap:=H1.push (seqObj "list" vs.toArray 0),drawn:=d1,toks:=tk1 }) hoD (by simp) l64 kp2 (St.get_none (Nat.le_refl _)) (λs' kk h2 Q' hq=> ?_) (λs' kk i j hi hj C hc=> ?_) λh' tk c p a1 a2 a3=>⟨_,rfl,?_⟩
  ·match vs,h2,hv' with
   | v1::v2::vs,_,hv'=>
    rw[k.kind v1 v2 vs hv']
    exact wpAny_pure hq
  ·have e1: ∀{m:Nat},m<vs.length->((vs.map k.of).map (qcU k.lt (vs.map k.of))).getD m 0=qcU k.lt (vs.map k.of) ((vs.map k.of).getD m k.d):=λ{m} hm=>by
    have hm':m<(vs.map k.of).length:=by rw[List.length_map]; exact hm
    rw[List.getD_eq_getElem?_getD,List.getD_eq_getElem?_getD,List.getElem?_map,List.getElem?_eq_getElem hm']
    rfl
   obtain ⟨f1,m1⟩:=at_ hi
   obtain ⟨f2,m2⟩:=at_ hj
   rw[e1 hi,e1 hj,qdw k.ord m1 m2] at hc
   exact k.lts _ _ _ _ f1 f2 hc
  ·refine wpAny_pure ⟨_,rfl,h _ _ h' d1 tk c _ kp1 (Nat.le_refl _) a1 a3 ?_⟩
   have ep:=qdk a2
   have e:qeG k.lt (dd ss)=p.toList.map λj=>(vs.map k.of).getD j k.d:=by
    rw[<-qif k.ord pm',ep,SR.srt_congr (k':=λj=>qcU k.lt (vs.map k.of) ((vs.map k.of).getD j k.d)),qfb (k:=qcU k.lt (vs.map k.of)) (f:=λj=>(vs.map k.of).getD j k.d) (λb=>rfl),show vs.length=(vs.map k.of).length by simp,Mir.map_range_getD]
    ·rfl
    ·intro b hb'
     have hb2:b<(vs.map k.of).length:=by rw[List.length_map]; exact List.mem_range.mp hb'
     rw[List.getD_eq_getElem?_getD,List.getElem?_map,List.getElem?_eq_getElem hb2,List.getD_eq_getElem?_getD,List.getElem?_eq_getElem hb2]
     rfl
   rw[e,List.map_map]
   have go: ∀l:List Nat,(∀j∈l,j<vs.length)->L2.Vals (l.map (k.up∘λj=>(vs.map k.of).getD j k.d)) (l.map λi=>vs.getD i Value.none):=λl=>by
    induction l with
    | nil=>exact λ_=>.nil
    | cons j l ih=>
     intro hl
     exact .cons (at_ (hl j List.mem_cons_self)).1 (ih λi hi=>hl i (List.mem_cons_of_mem _ hi))
   exact go _ λj hj=>(Mir.order_mem a2 j).mp hj
end
def qqe:Value->Str
 | .str x _=>x
 | _=> ""
def qoe (prog:Program) (w:World):Kd prog w Str where
 knd:=PySem.strKind prog w
 up:=L2.V.str
 d:= ""
 of:=qqe
 lt:=RH.ltS
 ord:=RH.ordS
 isv:=λx u ⟨t,e⟩=>by subst e; exact ⟨by show Value.isStrOf x (Value.str x t)=true; simp[Value.isStrOf],rfl⟩
 vis:=λx u h=>Value.isStrOf_shape h
 ofv:=λx u ⟨t,e⟩=>by subst e; rfl
 kind:=λv1 v2 vs h=>keyKind_strs (strsAre_map _ λv hv=>by obtain ⟨x,t,e⟩:=h v hv; exact ⟨x,t,e⟩)
 lts:=λx y u v ⟨t,e⟩ ⟨t',e'⟩ h=>by subst e e'; exact PySem.W.kas_lt_str h
end SetL
end
section
namespace SetL
open PySem L2 SR
theorem boot_sorted:bootBuiltins "sorted" =some (.builtin "sorted"):=by decide+kernel
theorem boot_set:bootBuiltins "set" =some (.type "set"):=by decide+kernel
section
variable {X:Cx} {a:Expr} {t:TE} {p1 p2 p3 pos:Pos} {α:Type} [DecidableEq α] (k:Kd X.prog X.w α)
theorem qne {pins:List (Addr×Obj)} {σ:St} {H:Hp} {s:Shared} {h':Heap} {d:Drawn} {tk:Nat} (I:Inv X pins σ H s) (k: ∀b u,s.heap.get? b=some u->h'.get? b=some u):Inv X pins σ H { s with heap:=h',drawn:=d,toks:=tk }:=by
 have J:=I.kept (t':=tk) k
 exact ⟨J.ok,J.os,J.bare,J.base,J.loc,J.cell,J.free,J.freeC,J.pin,J.hok,J.len⟩
theorem qmw (ss:List α) {is:List Value} (r:Vals (ss.map k.up) is) (i:Nat) (v:Value) (h:is[i]? =some v):RelV (k.up (ss.getD i k.d)) v:=by
 have hl:=r.length
 rw[List.length_map] at hl
 obtain ⟨hi,_⟩:=List.getElem?_eq_some_iff.mp h
 have hi':i<ss.length:=by lia
 obtain ⟨u,e,ru⟩:=r.get (i:=i) (x:=k.up ss[i]) (by rw[List.getElem?_map,List.getElem?_eq_getElem hi']; rfl)
 rw[h] at e
 cases e
 rw[List.getD_eq_getElem?_getD,List.getElem?_eq_getElem hi']
 exact ru
theorem qkT {pins:List (Addr×Obj)} {σ:St} {H:Hp} {s:Shared} {Q:Addr->List α->Hp->Prop} (hc:X.calm=true) (gt:Gl X "set") (mt:X.mg "set" =none) (ha:PE X a t) (hmono: ∀σ H (Q Q':VK),(∀v H1,Q v H1->Q' v H1)->t σ H Q->t σ H Q')
  (he:starEach [a] X.env=(false,eval a X.env)::starEach [] X.env) (I:Inv X pins σ H s)
  (h:t σ H λv H1=> ∃l ss,v= .ref l/\SqL X.K H1 l (ss.map k.up)/\ss.length<64/\Q l ss H1):
  wpAny (model X.prog X.w) X.A (eval (.Call (.Name "set" p2) [a] [] p3) X.env) (λu s'=> ∃S l ss H1,u= .ref S/\Inv X pins σ H1 s'/\ss.length<64/\qgB k.knd s'.heap S (mem (λi=>ss.getD i k.d) ss.length) (cnt (λi=>ss.getD i k.d) ss.length)/\Q l ss H1) X.xe s:=by
 refine wpAny_Call_Name_kw (qcK I gt mt boot_set ?_)
 refine PyProof.Rows.callWith_type1 ?_ he rfl
 refine thn (qag ha qar he p3 pins s σ H (λvs H1=> ∃l ss,vs=[.ref l]/\SqL X.K H1 l (ss.map k.up)/\ss.length<64/\Q l ss H1) I (hmono σ H _ _ (λv H1 ⟨l,ss,e,r⟩=>⟨l,ss,by rw[e],r⟩) h)) λus s1 hq32=> ?_
 obtain ⟨vs,H1,I1,r1,q1⟩:=hq32
 obtain ⟨l,ss,rfl,hS,h64,q⟩:=q1
 cases r1 with
 | cons r rr=>
  cases rr
  cases r
  obtain ⟨its,rv,pl,hz⟩:=I1.list hS
  have hl:=rv.length
  rw[List.length_map] at hl
  have hh:X.A.handled=none:=I1.ok.hd hc
  refine qpy (knd:=k.knd) (key:=λi=>ss.getD i k.d) hh pl.isList (λi v hv=> ?_) ?_ λh' tk S' kp=> ?_
  ·exact k.isv _ _ (qmw k ss rv i v (by simpa using hv))
  ·rw[List.size_toArray]
   have:scanBound=2 ^ 24\/100<scanBound:=.inr (by decide)
   rcases this with z | z<;>lia
  ·refine ⟨_,l,ss,H1,rfl,I1.kept kp,h64,?_,q⟩
   have e:its.toArray.size=ss.length:=by rw[List.size_toArray]; lia
   rw[e] at S'
   exact S'
def tSS (k:Kd X.prog X.w α) (t:TE):TE:=λσ H Q=>t σ H λv H1=> ∃l ss,v= .ref l/\SqL X.K H1 l (ss.map k.up)/\ss.length<64/\∀D,H1 D=none->Q (.ref D) (upd H1 D (.lst ((qeG k.lt (dd ss)).map k.up)))
theorem qfn (hc:X.calm=true) (gs:Gl X "sorted") (ms:X.mg "sorted" =none) (gt:Gl X "set") (mt:X.mg "set" =none) (ha:PE X a t) (hmono: ∀σ H (Q Q':VK),(∀v H1,Q v H1->Q' v H1)->t σ H Q->t σ H Q') (he:starEach [a] X.env=(false,eval a X.env)::starEach [] X.env:=by rfl):
  PE X (.Call (.Name "sorted" p1) [.Call (.Name "set" p2) [a] [] p3] [] pos) (tSS k t):=by
 intro pins s σ H Q I h
 refine wpAny_Call_Name_kw (qcK I gs ms boot_sorted ?_)
 refine PyProof.Rows.callWith_builtin1 (Calls.spliced_cons (thn (qkT k (Q:=λl ss H1=> ∀D,H1 D=none->Q (.ref D) (upd H1 D (.lst ((qeG k.lt (dd ss)).map k.up)))) hc gt mt ha hmono he I h) λu s1 ⟨S,l,ss,H1,eu,I1,h64,hS,q⟩=> ?_)) rfl rfl
 subst eu
 refine Calls.spliced_nil ?_
 have hh:X.A.handled=none:=I1.ok.hd hc
 refine qeM k (ss:=ss) hh hS h64 λh1 D h' d tk c vs k1 hD k2 hg rv=> ?_
 have I2:=qne (d:=d) (tk:=tk) I1 k1
 have fD:H1 D=none:=I2.hok.fresh hD
 have I3:Inv X pins σ (upd H1 D (.lst ((qeG k.lt (dd ss)).map k.up))) { s1 with heap:=h',drawn:=d,toks:=tk }:=by
  refine I2.laid (h':=h') (t':=tk) k2 hD ⟨?_,_,c,rv,hg⟩
  rw[List.length_map,sizeLine_eq]
  have:=(qdW (k:=qcU k.lt (dd ss)) (dd ss)).length_eq
  have e:(qeG k.lt (dd ss)).length=(dd ss).length:=this
  have:=qiy ss
  lia
 exact ⟨.ref D,_,I3,rfl,q D fD⟩
end
end SetL
end
section
namespace PL
open PySem L2 SR SetL
inductive Ky where
 | i (n:Int) | s (x:Str)
 deriving DecidableEq
def qli:Ky->Ky->Bool
 | .i a,.i b=>decide (a<b)
 | .i _,.s _=>true
 | .s _,.i _=>false
 | .s a,.s b=>RH.ltS a b
theorem qm0:Ord qli where
 irr:=λa=>by
  cases a with
  | i n=>exact decide_eq_false (Int.lt_irrefl n)
  | s x=>exact RH.ordS.irr x
 tr:=λa b c h1 h2=>match a,b,c,h1,h2 with
  | .i _,.i _,.i _,h1,h2=>decide_eq_true (Int.lt_trans (of_decide_eq_true h1) (of_decide_eq_true h2))
  | .i _,.i _,.s _,_,_=>rfl
  | .i _,.s _,.i _,_,h2=>nomatch h2
  | .i _,.s _,.s _,_,_=>rfl
  | .s _,.i _,_,h1,_=>nomatch h1
  | .s _,.s _,.i _,_,h2=>nomatch h2
  | .s _,.s _,.s _,h1,h2=>RH.ordS.tr _ _ _ h1 h2
 tot:=λa b h1 h2=>match a,b,h1,h2 with
  | .i x,.i y,h1,h2=>by
   have e1: ¬x<y:=of_decide_eq_false h1
   have e2: ¬y<x:=of_decide_eq_false h2
   congr 1; lia
  | .i _,.s _,h1,_=>nomatch h1
  | .s _,.i _,_,h2=>nomatch h2
  | .s x,.s y,h1,h2=>congrArg Ky.s (RH.ordS.tot x y h1 h2)
def qcA:List Ky->List Ky->Bool
 | [],[]=>false
 | [],_::_=>true
 | _::_,[]=>false
 | a::as,b::bs=>if a=b then qcA as bs else qli a b
theorem qhJ: ∀a,qcA a a=false
 | []=>rfl
 | a::as=>by
  show (if a=a then qcA as as else qli a a)=false
  rw[if_pos rfl]; exact qhJ as
theorem qjz: ∀a b c,qcA a b=true->qcA b c=true->qcA a c=true
 | [],[],_,h,_=>by cases h
 | [],_::_,[],_,h=>by cases h
 | [],_::_,_::_,_,_=>rfl
 | _::_,[],_,h,_=>by cases h
 | _::_,_::_,[],_,h=>by cases h
 | a::as,b::bs,c::cs,h1,h2=>by
  have h1':(if a=b then qcA as bs else qli a b)=true:=h1
  have h2':(if b=c then qcA bs cs else qli b c)=true:=h2
  show (if a=c then qcA as cs else qli a c)=true
  by_cases e1:a=b
  ·subst e1
   rw[if_pos rfl] at h1'
   by_cases e2:a=c
   ·rw[if_pos e2] at h2'⊢; exact qjz as bs cs h1' h2'
   ·rw[if_neg e2] at h2'⊢; exact h2'
  ·rw[if_neg e1] at h1'
   by_cases e2:b=c
   ·subst e2
    rw[if_neg e1]; exact h1'
   ·rw[if_neg e2] at h2'
    have t:=qm0.tr _ _ _ h1' h2'
    by_cases e3:a=c
    ·subst e3; rw[qm0.irr] at t; cases t
    ·rw[if_neg e3]; exact t
theorem qhI: ∀a b,qcA a b=false->qcA b a=false->a=b
 | [],[],_,_=>rfl
 | [],_::_,h,_=>by cases h
 | _::_,[],_,h=>by cases h
 | a::as,b::bs,h1,h2=>by
  have h1':(if a=b then qcA as bs else qli a b)=false:=h1
  have h2':(if b=a then qcA bs as else qli b a)=false:=h2
  by_cases e:a=b
  ·subst e
   rw[if_pos rfl] at h1' h2'
   rw[qhI as bs h1' h2']
  ·rw[if_neg e] at h1'
   rw[if_neg (Ne.symm e)] at h2'
   exact absurd (qm0.tot _ _ h1' h2') e
theorem qm1:Ord qcA:=⟨qhJ,qjz,qhI⟩
def kyT:T->Ky
 | .int i=>.i i
 | .str x=>.s x
 | _=>.i 0
def qdd:T->List Ky
 | .int i=>[.i i]
 | .str x=>[.s x]
 | .tup ts=>ts.map kyT
 | _=>[]
def shT:T->Nat
 | .int _=>0
 | .str _=>1
 | _=>9
def qcD:T->List Nat
 | .int _=>[0]
 | .str _=>[1]
 | .tup ts=>2::ts.map shT
 | _=>[9]
def qeg:List Nat->Bool
 | [0]=>true
 | [1]=>true
 | 2::x::r=>(x::r).all λn=>n==0||n==1
 | _=>false
def qcq:List T->Bool
 | []=>true
 | t::ts=>qeg (qcD t)&&ts.all λu=>qcD u==qcD t
def qeN {α:Type} (f:α->List Ky) (ts:List α):List α:=srt (λt=>qcU qcA (ts.map f) (f t)) ts
def qfT (ts:List T):List T:=qeN qdd ts
section
variable {prog:Program} {w:World} {A:Around} {s:Shared}
open PySem.W PyProof.Rows
def kyV:Ky->V
 | .i n=>.int n
 | .s x=>.str x
def shK:Ky->Nat
 | .i _=>0
 | .s _=>1
theorem qpP {C:Bool->Shared->Prop}: ∀(as bs:List Ky) (us vs:List Value) (i:Nat),Vals (as.map kyV) us->Vals (bs.map kyV) vs->as.map shK=bs.map shK->C (qcA as bs) s->KatLex prog w A true false C (us.zip vs) i s
 | [],[],_,_,i,.nil,.nil,_,h=>kat_nil h
 | [],_::_,_,_,_,_,_,hs,_=>by cases hs
 | _::_,[],_,_,_,_,_,hs,_=>by cases hs
 | a::as,b::bs,_,_,i,.cons (l₂:=us) ra rs,.cons (l₂:=vs) rb rt,hs,h=>by
  have hs1:shK a=shK b:=(List.cons.inj hs).1
  have hs2:as.map shK=bs.map shK:=(List.cons.inj hs).2
  have h':C (if a=b then qcA as bs else qli a b) s:=h
  have go: ∀{p q:Value} {rr:List (Value×Value)} {e:Bool},MeetsSeq.EqGives p q e->(e=true->KatLex prog w A true false C rr (i+1) s)->(e=false->wpAny (model prog w) A (oneLt' (true&&i==0) p q) C (λ_ _=>False) s)->KatLex prog w A true false C ((p,q)::rr) i s:=λ{p q rr e} he h1 h2=>by
   refine kat_cons (he prog w A _ s _ ?_)
   cases e with
   | true=>exact kat_yes (h1 rfl)
   | false=>exact kat_no (h2 rfl)
  cases a with
  | i x=>
   cases b with
   | i y=>
    obtain ⟨t1,rfl⟩:=ra
    obtain ⟨t2,rfl⟩:=rb
    refine go (MeetsSeq.EqGives.int _ _ _ _) (λe=> ?_) (λe=> ?_)
    ·have e':=eq_of_beq e
     rw[if_pos (by rw[e'])] at h'
     exact qpP as bs us vs (i+1) rs rt hs2 h'
    ·have e': ¬Ky.i x=Ky.i y:=λz=>by cases z; rw[beq_self_eq_true] at e; cases e
     rw[if_neg e'] at h'
     cases z:(i==0) with
     | true=>exact oneLt_int h'
     | false=>exact kat_one _ _ (lt_int (show PySem.W.BoolBack C (.bool _) s from h'))
   | s y=>cases hs1
  | s x=>
   cases b with
   | i y=>cases hs1
   | s y=>
    obtain ⟨t1,rfl⟩:=ra
    obtain ⟨t2,rfl⟩:=rb
    have es:MeetsSeq.EqGives (.str x t1) (.str y t2) (decide (x=y)):=λ_ _ _ _ _ _ hq=>wpAny_eqBool_str hq
    refine go es (λe=> ?_) (λe=> ?_)
    ·have e':=of_decide_eq_true e
     rw[if_pos (by rw[e'])] at h'
     exact qpP as bs us vs (i+1) rs rt hs2 h'
    ·have e': ¬Ky.s x=Ky.s y:=λz=>by cases z; simp at e
     rw[if_neg e'] at h'
     cases z:(i==0) with
     | true=>exact oneLt_str h'
     | false=>exact kat_one _ _ (PySem.P.lt_str (show PySem.W.BoolBack C (.bool _) s from h'))
end
end PL
end
section
namespace PL
open PySem L2 SR SetL
section
variable {K:PySem.W.Frag} {B:Hp}
def qcM (t:T):Bool:=shT t==0||shT t==1
theorem qdV {t:T} {v:V} (h:qcM t=true) (r:Rep K B t v):v=kyV (kyT t)/\shT t=shK (kyT t):=by
 cases t with
 | int i=>exact ⟨qau r,rfl⟩
 | str x=>exact ⟨qaG r,rfl⟩
 | non=>cases (show false=true from h)
 | bl b=>cases (show false=true from h)
 | tup b=>cases (show false=true from h)
 | lst b=>cases (show false=true from h)
 | dct b=>cases (show false=true from h)
 | dtu b=>cases (show false=true from h)
 | dcf b=>cases (show false=true from h)
 | fn b=>cases (show false=true from h)
 | scr b=>cases (show false=true from h)
theorem qfZ: ∀{us:List T} {ws:List V},us.all qcM=true->qaC K B us ws->ws=(us.map kyT).map kyV/\us.map shT=(us.map kyT).map shK
 | [],_,_,r=>⟨r.inv0,rfl⟩
 | u::us,_,h,r=>by
  obtain ⟨v,rr,rfl,a,b⟩:=r.inv
  rw[List.all_cons,Bool.and_eq_true] at h
  obtain ⟨e1,e2⟩:=qdV h.1 a
  obtain ⟨e3,e4⟩:=qfZ h.2 b
  refine ⟨by rw[List.map_cons,List.map_cons,<-e1,<-e3],?_⟩
  rw[List.map_cons,List.map_cons,List.map_cons,e2,e4]
end
theorem qch {ts:List T} (h:qcq ts=true) {t:T} (ht:t∈ts): ∃s0,qeg s0=true/\∀u∈ts,qcD u=s0:=by
 cases ts with
 | nil=>cases ht
 | cons t0 ts=>
  have h':(qeg (qcD t0)&&ts.all λu=>qcD u==qcD t0)=true:=h
  rw[Bool.and_eq_true] at h'
  refine ⟨qcD t0,h'.1,λu hu=> ?_⟩
  rcases List.mem_cons.mp hu with rfl | hu
  ·rfl
  ·exact eq_of_beq (List.all_eq_true.mp h'.2 u hu)
theorem qiX {t:T} (h:qcD t=[0]): ∃i,t= .int i:=by
 cases t with
 | int i=>exact ⟨i,rfl⟩
 | _=>cases h
theorem qiW {t:T} (h:qcD t=[1]): ∃x,t= .str x:=by
 cases t with
 | str i=>exact ⟨i,rfl⟩
 | _=>cases h
theorem qiV {t:T} {x:Nat} {r:List Nat} (h:qcD t=2::x::r): ∃us,t= .tup us/\us.map shT=x::r:=by
 cases t with
 | tup us=>exact ⟨us,rfl,(List.cons.inj h).2⟩
 | _=>cases h
theorem qj2 {us:List T} {l:List Nat} (h:us.map shT=l) (ho:l.all (λn=>n==0||n==1)=true):us.all qcM=true:=by
 subst h
 rw[List.all_map] at ho
 refine List.all_eq_true.mpr λu hu=> ?_
 exact List.all_eq_true.mp ho u hu
theorem qdl {s0:List Nat} (h:qeg s0=true):s0=[0]\/s0=[1]\/∃x r,s0=2::x::r/\(x::r).all (λn=>n==0||n==1)=true:=by
 unfold qeg at h
 split at h
 ·exact .inl rfl
 ·exact .inr (.inl rfl)
 ·exact .inr (.inr ⟨_,_,rfl,h⟩)
 ·cases h
open PySem.W PyProof.Rows in
theorem qjG {prog:Program} {w:World} {A:Around} {E:Value->Shared->Prop} {s:Shared} {Q:SortKind->Shared->Prop} (its:List Value) (h2:2<=its.length) (hv: ∀v∈its,∃x t,v= .str x t) (hq:Q oneType' s):wpAny (model prog w) A (keyKind' its.toArray) Q E s:=
 match its,h2,hv with
 | v1::v2::vs',_,hv=>by
  rw[keyKind_strs (strsAre_map _ hv)]
  exact wpAny_pure hq
theorem qdC {h:Heap} {P:Value->Prop}: ∀(l:List Value),(∀v∈l,∃f,(∃a o xs n,v= .ref a/\h.get? a=some o/\o.cls= .type "tuple" /\o.data= .seq xs n/\xs[0]? =some f)/\P f)->∃fs,PySem.W.KatTups h l fs/\fs.length=l.length/\∀f∈fs,P f
 | [],_=>⟨[],trivial,rfl,λ_ hf=>nomatch hf⟩
 | v::l,hl=>by
  obtain ⟨f,h1,h2⟩:=hl v List.mem_cons_self
  obtain ⟨fs,h3,h4,h5⟩:=qdC l λu hu=>hl u (List.mem_cons_of_mem _ hu)
  refine ⟨f::fs,⟨h1,h3⟩,by simp[h4],λg hg=> ?_⟩
  rcases List.mem_cons.mp hg with rfl | hg
  ·exact h2
  ·exact h5 g hg
section
variable {X:Cx}
open PySem.W PyProof.Rows in
theorem qgu:qev X (.builtin "sorted") (λxs H Q=> ∃(B:Hp) (a:Addr) (vs:List V) (ts:List T),xs=[.ref a]/\Le B H/\SqL X.K H a vs/\qaC X.K B ts vs/\ts.length<64/\qcq ts=true/\
  ∀(D:Addr) (ys:List V),H D=none->qaC X.K B (qfT ts) ys->Q (.ref D) (L2.upd H D (.lst ys))):=by
 intro pins s σ H xs us Q I r h
 obtain ⟨B,a,vs,ts,rfl,le,hS,hR,h64,hok,q⟩:=h
 obtain ⟨u,rfl,ru⟩:=qdP r
 cases ru
 obtain ⟨its,rv,pl,hz⟩:=I.list hS
 have l1:=rv.length
 have l2:=hR.length
 have elem: ∀{m:Nat},m<ts.length->Rep X.K B (ts.getD m .non) (vs.getD m .non)/\RelV (vs.getD m .non) (its.getD m Value.none)/\ts.getD m .non∈ts:=λ{m} hm=>⟨hR.getD m hm,qde rv m,by
  rw[List.getD_eq_getElem?_getD,List.getElem?_eq_getElem hm]; exact List.getElem_mem hm⟩
 have key1: ∀{m:Nat},m<ts.length->((ts.map qdd).map (qcU qcA (ts.map qdd))).getD m 0=qcU qcA (ts.map qdd) (qdd (ts.getD m .non)):=λ{m} hm=>by
  rw[List.getD_eq_getElem?_getD,List.getElem?_map,List.getElem?_map,List.getElem?_eq_getElem hm,List.getD_eq_getElem?_getD,List.getElem?_eq_getElem hm]
  rfl
 have main: ∀κ:SortKind,(∀s':Shared,St.Kp s.heap s'.heap->2<=its.length->∀(Q:SortKind->Shared->Prop) (E:Value->Shared->Prop),Q κ s'->wpAny (model X.prog X.w) X.A.in1.in1 (keyKind' its.toArray) Q E s')->
   (∀s':Shared,St.Kp s.heap s'.heap->∀i j,i<ts.length->j<ts.length->∀C:Bool->Shared->Prop,C (qcA (qdd (ts.getD i .non)) (qdd (ts.getD j .non))) s'->wpAny (model X.prog X.w) X.A.in1.in1 (keyLt' κ (its.getD i Value.none) (its.getD j Value.none)) C (λ_ _=>False) s')->
   wpAny (model X.prog X.w) X.A (call (.builtin "sorted") [.ref a]) (EP X pins σ Q) X.xe s:=λκ kind cmp=>by
  refine St.sorted_p (kz:=(ts.map qdd).map (qcU qcA (ts.map qdd))) (κ:=κ) pl.isList (by simp; lia) (by lia) kind (λs' k i j hi hj C hc=> ?_) λD h' tk c p hD kp ho hget=> ?_
  ·have hi':i<ts.length:=by lia
   have hj':j<ts.length:=by lia
   rw[key1 hi',key1 hj',qdw qm1 (List.mem_map.mpr ⟨_,(elem hi').2.2,rfl⟩) (List.mem_map.mpr ⟨_,(elem hj').2.2,rfl⟩)] at hc
   exact cmp s' k i j hi' hj' C hc
  ·have fD:H D=none:=I.hok.fresh hD
   have I3:Inv X pins σ (L2.upd H D (.lst (p.toList.map λj=>vs.getD j .non))) { s with heap:=h',toks:=tk }:=by
    refine I.laid kp hD ⟨?_,_,c,L2.vals_pick rv p.toList,hget⟩
    rw[List.length_map,Array.length_toList,ho.1.sz,sizeLine_eq]
    lia
   refine ⟨.ref D,_,I3,rfl,q D _ fD ?_⟩
   have ep:=qdk ho
   have e:qfT ts=p.toList.map λj=>ts.getD j .non:=by
    unfold qfT qeN
    rw[ep,srt_congr (k':=λj=>qcU qcA (ts.map qdd) (qdd (ts.getD j .non))),qfb (k:=λt=>qcU qcA (ts.map qdd) (qdd t)) (f:=λj=>ts.getD j .non) (λb=>rfl),show its.length=ts.length by lia,Mir.map_range_getD]
    intro b hb
    have hb':b<ts.length:=by have:=List.mem_range.mp hb; lia
    exact key1 hb'
   rw[e]
   have go: ∀l:List Nat,(∀j∈l,j<ts.length)->qaC X.K B (l.map λj=>ts.getD j .non) (l.map λj=>vs.getD j .non):=λl=>by
    induction l with
    | nil=>exact λ_=>.nil
    | cons j l ih=>exact λhl=>.cons (elem (hl j List.mem_cons_self)).1 (ih λi hi=>hl i (List.mem_cons_of_mem _ hi))
   exact go _ λj hj=>by have:=(Mir.order_mem ho j).mp hj; lia
 rcases Nat.eq_zero_or_pos ts.length with z | z
 ·exact main oneType' (λs' k h2=>by lia) (λs' k i j hi=>by lia)
 ·obtain ⟨s0,ok0,sh⟩:=qch hok (elem z).2.2
  have hInts:s0=[0]->wpAny (model X.prog X.w) X.A (call (.builtin "sorted") [.ref a]) (EP X pins σ Q) X.xe s:=λe0=>by
   have at_: ∀{m:Nat},m<ts.length->∃n t,ts.getD m .non= .int n/\its.getD m Value.none= .int n t:=λ{m} hm=>by
    obtain ⟨a1,a2,a3⟩:=elem hm
    obtain ⟨n,en⟩:=qiX (e0▸sh _ a3)
    rw[en] at a1
    rw[qau a1] at a2
    obtain ⟨t,et⟩:=a2
    exact ⟨n,t,en,et⟩
   refine main oneType' (λs' k h2 Q' E' hq=> ?_) (λs' k i j hi hj C hc=> ?_)
   ·have hI: ∀l:List Value,(∀v∈l,∃n t,v= .int n t)->∃ns,IntsAre l ns:=λl=>by
     induction l with
     | nil=>exact λ_=>⟨[],.nil⟩
     | cons v l ih=>
      intro hl
      obtain ⟨n,t,rfl⟩:=hl v List.mem_cons_self
      obtain ⟨ns,hn⟩:=ih λu hu=>hl u (List.mem_cons_of_mem _ hu)
      exact ⟨n::ns,.cons n t hn⟩
    obtain ⟨ns,hns⟩:=hI its λv hv=>by
     obtain ⟨m,hm,rfl⟩:=List.mem_iff_getElem.mp hv
     obtain ⟨n,t,_,e⟩:=at_ (m:=m) (by lia)
     rw[List.getD_eq_getElem?_getD,List.getElem?_eq_getElem hm] at e
     exact ⟨n,t,e⟩
    rw[ksk_kind (keys:=its.toArray) (by simpa using hns) (by simpa using h2)]
    exact wpAny_pure hq
   ·obtain ⟨n1,t1,f1,g1⟩:=at_ hi
    obtain ⟨n2,t2,f2,g2⟩:=at_ hj
    rw[g1,g2]
    rw[f1,f2] at hc
    refine kat_lt_int ?_
    have e:qcA (qdd (.int n1)) (qdd (.int n2))=decide (n1<n2):=by
     show (if Ky.i n1=Ky.i n2 then false else decide (n1<n2))=_
     by_cases c:n1=n2
     ·subst c; rw[if_pos rfl]; exact (decide_eq_false (Int.lt_irrefl _)).symm
     ·rw[if_neg (λz=>c (by cases z; rfl))]
    rw[<-e]; exact hc
  have hStrs:s0=[1]->wpAny (model X.prog X.w) X.A (call (.builtin "sorted") [.ref a]) (EP X pins σ Q) X.xe s:=λe0=>by
   have at_: ∀{m:Nat},m<ts.length->∃n t,ts.getD m .non= .str n/\its.getD m Value.none= .str n t:=λ{m} hm=>by
    obtain ⟨a1,a2,a3⟩:=elem hm
    obtain ⟨n,en⟩:=qiW (e0▸sh _ a3)
    rw[en] at a1
    rw[qaG a1] at a2
    obtain ⟨t,et⟩:=a2
    exact ⟨n,t,en,et⟩
   refine main oneType' (λs' k h2 Q' E' hq=> ?_) (λs' k i j hi hj C hc=> ?_)
   ·have hv': ∀v∈its,∃x t,v= .str x t:=λv hv=>by
     obtain ⟨m,hm,rfl⟩:=List.mem_iff_getElem.mp hv
     obtain ⟨n,t,_,e⟩:=at_ (m:=m) (by lia)
     rw[List.getD_eq_getElem?_getD,List.getElem?_eq_getElem hm] at e
     exact ⟨n,t,e⟩
    exact qjG its h2 hv' hq
   ·obtain ⟨n1,t1,f1,g1⟩:=at_ hi
    obtain ⟨n2,t2,f2,g2⟩:=at_ hj
    rw[g1,g2]
    rw[f1,f2] at hc
    refine kas_lt_str ?_
    have e:qcA (qdd (.str n1)) (qdd (.str n2))=decide (n1.cps.toList<n2.cps.toList):=by
     show (if Ky.s n1=Ky.s n2 then false else RH.ltS n1 n2)=_
     by_cases c:n1=n2
     ·subst c; rw[if_pos rfl]; exact (RH.ordS.irr n1).symm
     ·rw[if_neg (λz=>c (by cases z; rfl))]; rfl
    rw[<-e]; exact hc
  have hTups: ∀x r,s0=2::x::r->(x::r).all (λn=>n==0||n==1)=true->wpAny (model X.prog X.w) X.A (call (.builtin "sorted") [.ref a]) (EP X pins σ Q) X.xe s:=λx r e0 ho=>by
   have at_: ∀{m:Nat},m<ts.length->∃us p its2,ts.getD m .non= .tup us/\us.map shT=x::r/\its.getD m Value.none= .ref p/\IsTup s.heap p (List.toArray its2)/\Vals ((us.map kyT).map kyV) its2/\(us.map kyT).map shK=x::r:=λ{m} hm=>by
    obtain ⟨a1,a2,a3⟩:=elem hm
    obtain ⟨us,en,es⟩:=qiV (e0▸sh _ a3)
    rw[en] at a1
    obtain ⟨p,ws,ep,sq,rs⟩:=qbq a1
    rw[ep] at a2
    have g:its.getD m Value.none= .ref p:=a2
    obtain ⟨its2,rv2,pl2,_⟩:=I.tuple (le.sqT sq)
    obtain ⟨f1,f2⟩:=qfZ (qj2 es ho) rs
    exact ⟨us,p,its2,en,es,g,pl2,f1▸rv2,f2▸es⟩
   refine main (tuples' true) (λs' k h2 Q' E' hq=> ?_) (λs' k i j hi hj C hc=> ?_)
   ·have hx:x=0\/x=1:=by
     rw[List.all_cons,Bool.and_eq_true] at ho
     have:=ho.1
     simpa using this
    have fst: ∀v∈its,∃f,(∃a o xs n,v= .ref a/\s'.heap.get? a=some o/\o.cls= .type "tuple" /\o.data= .seq xs n/\xs[0]? =some f)/\((x=0/\∃i t,f=Value.int i t)\/(x=1/\∃i t,f=Value.str i t)):=λv hv=>by
     obtain ⟨m,hm,rfl⟩:=List.mem_iff_getElem.mp hv
     obtain ⟨us,p,w1,f1,_,g1,i1,v1,k1⟩:=at_ (m:=m) (by lia)
     rw[List.getD_eq_getElem?_getD,List.getElem?_eq_getElem hm] at g1
     obtain ⟨o1,e1,c1,n1,d1⟩:=i1
     cases hk:us.map kyT with
     | nil=>rw[hk] at k1; cases k1
     | cons ky kr=>
      rw[hk] at v1 k1
      cases v1 with
      | cons r0 rr=>
       have ks:shK ky=x:=(List.cons.inj k1).1
       cases ky with
       | i n=>
        obtain ⟨tk,rfl⟩:=r0
        exact ⟨_,⟨p,o1,_,n1,g1,k _ _ e1,c1,d1,rfl⟩,.inl ⟨ks.symm,n,tk,rfl⟩⟩
       | s n=>
        obtain ⟨tk,rfl⟩:=r0
        exact ⟨_,⟨p,o1,_,n1,g1,k _ _ e1,c1,d1,rfl⟩,.inr ⟨ks.symm,n,tk,rfl⟩⟩
    obtain ⟨fs,k1,k2,k3⟩:=qdC its fst
    rcases hx with rfl | rfl
    ·refine PySem.W.kat_kind k1 (by lia) (T:=.type "int") (λv hv=> ?_) (by decide) ?_
     ·rcases k3 v hv with ⟨_,i,t,rfl⟩ | ⟨z,_⟩
      ·exact PySem.W.Looks.of_pure rfl
      ·cases z
     ·exact hq
    ·refine PySem.W.kat_kind k1 (by lia) (T:=.type "str") (λv hv=> ?_) (by decide) ?_
     ·rcases k3 v hv with ⟨z,_⟩ | ⟨_,i,t,rfl⟩
      ·cases z
      ·exact PySem.W.Looks.of_pure rfl
     ·exact hq
   ·obtain ⟨u1,p1,w1,f1,_,g1,i1,v1,k1⟩:=at_ hi
    obtain ⟨u2,p2,w2,f2,_,g2,i2,v2,k2⟩:=at_ hj
    rw[g1,g2]
    rw[f1,f2] at hc
    obtain ⟨o1,e1,_,n1,d1⟩:=i1
    obtain ⟨o2,e2,_,n2,d2⟩:=i2
    refine kat_lt (k _ _ e1) d1 (k _ _ e2) d2 ?_
    have hl:w1.length=w2.length:=by
     have h1:=v1.length
     have h2:=v2.length
     have h3:=congrArg List.length (k1.trans k2.symm)
     simp only[List.length_map] at h1 h2 h3
     lia
    rw[show decide ((List.toArray w1).size<(List.toArray w2).size)=false by simp[hl]]
    exact qpP _ _ _ _ 0 v1 v2 (k1.trans k2.symm) hc
  rcases qdl ok0 with e | e | ⟨x,r,e,ho⟩
  ·exact hInts e
  ·exact hStrs e
  ·exact hTups x r e ho
end
end PL
end
section
namespace PL
open PySem L2 SR SetL
section
variable {M:Md} {X:Cx} {e a b:Expr} {pos p1 p2 p3:Pos} {da db:Ro->Rs T} {dq:Ro->Rs (Bool×List T)}
theorem tQ.mono {σ:St} {H:Hp} {Q Q':VK} (f: ∀v H1,Q v H1->Q' v H1) (h:tQ M dq σ H Q):tQ M dq σ H Q':=by
 obtain ⟨H0,B0,ρ,B,ev,w⟩:=h
 exact tQ.of ev (Wnt.mono (qds.mp w) λq k p vs H' B' g m hq r=>f _ _ (k p vs H' B' g m hq r))
def qhs:T->Str
 | .str x=>x
 | _=> ""
def qme:T->Bool
 | .str _=>true
 | _=>false
theorem qfX {K:PySem.W.Frag} {B:Hp}: ∀{ts:List T} {vs:List V},ts.all qme=true->qaC K B ts vs->vs=(ts.map qhs).map V.str
 | [],_,_,r=>r.inv0
 | t::ts,_,h,r=>by
  obtain ⟨v,rr,rfl,a,b⟩:=r.inv
  rw[List.all_cons,Bool.and_eq_true] at h
  cases t with
  | str x=>rw[qaG a,qfX h.2 b]; rfl
  | _=>exact absurd h.1 Bool.false_ne_true
theorem qcG {K:PySem.W.Frag} {B:Hp}: ∀(ss:List Str),qaC K B (ss.map T.str) (ss.map V.str)
 | []=>.nil
 | s::ss=>.cons qhD (qcG ss)
def qiq (ss:List Str):List Str:=qeG RH.ltS (dd ss)
def qnd (q:Bool×List T):Rs (List T):=if (q.1=true/\q.2.length<64)/\q.2.all qme=true then .ok ((qiq (q.2.map qhs)).map T.str) else .no
theorem qnv (hc:X.calm=true) (gs:Gl X "sorted") (ms:X.mg "sorted" =none) (gt:Gl X "set") (mt:X.mg "set" =none) (ha:DQ M X a dq) (he:starEach [a] X.env=(false,eval a X.env)::starEach [] X.env:=by rfl):
  DF M X (.Call (.Name "sorted" p1) [.Call (.Name "set" p2) [a] [] p3] [] pos) (qdu qnd dq):=by
 refine PE.weak (qfn (qoe X.prog X.w) hc gs ms gt mt ha (λσ H Q Q' f h=>tQ.mono f h) he) λσ H Q hq35=> ?_
 obtain ⟨H0,B0,ρ,B,ev,w⟩:=hq35
 refine tQ.of ev (Wnt.mono (Wnt.bind (qbF.mp w)) λq w1 p vs H1 B1 g1 m1 hq r1=> ?_)
 have ev1:=ev.grow g1 m1
 unfold qnd at w1
 split at w1
 ·rename_i hcc
  rw[if_pos hcc.1.1] at hq
  refine ⟨p,q.2.map qhs,rfl,SqL.of (by rw[qfX hcc.2 r1] at hq; exact hq),by rw[List.length_map]; exact hcc.1.2,λD hD=> ?_⟩
  obtain ⟨g,m',bp⟩:=qce (M:=M) (ws:=(qiq (q.2.map qhs)).map V.str) ev1.bh ev1.bt m1 hD
  exact w1 D _ _ B1 (g1.trans g) m' (qbD g1.gx hD) bp qak (qcG _)
 ·exact w1.elim
def qmf:T->Bool
 | .int _=>true
 | _=>false
def qjP:T->Int
 | .int b=>b
 | _=>0
theorem qfY {K:PySem.W.Frag} {B:Hp}: ∀{ts:List T} {vs:List V},ts.all qmf=true->qaC K B ts vs->vs=(ts.map qjP).map V.int
 | [],_,_,r=>r.inv0
 | t::ts,_,h,r=>by
  obtain ⟨v,rr,rfl,a,b⟩:=r.inv
  rw[List.all_cons,Bool.and_eq_true] at h
  cases t with
  | int x=>rw[qau a,qfY h.2 b]; rfl
  | _=>exact absurd h.1 Bool.false_ne_true
def qkR (q:Bool×List T):Rs (List T):=if (q.1=true/\q.2.length<64)/\qcq q.2=true then .ok (qfT q.2) else .no
theorem qkc (h:PE X e (tCB (λxs H Q=> ∃(B:Hp) (a:Addr) (vs:List V) (ts:List T),xs=[.ref a]/\Le B H/\SqL X.K H a vs/\qaC X.K B ts vs/\ts.length<64/\qcq ts=true/\
  ∀(D:Addr) (ys:List V),H D=none->qaC X.K B (qfT ts) ys->Q (.ref D) (L2.upd H D (.lst ys))) (qc8 (tQ M dq) qhq))) (hK:X.K=M.K:=by rfl):DF M X e (qdu qkR dq):=
 qpp h (λH B p vs q c Q le bt m hq r ec k=>by
  unfold qkR at ec
  split at ec
  ·rename_i hcc
   cases ec
   unfold qgA at hq
   rw[if_pos hcc.1.1] at hq
   refine ⟨B,p,vs,q.2,rfl,le,SqL.of hq,by rw[hK]; exact r,hcc.1.2,hcc.2,λD ys hD ry=> ?_⟩
   obtain ⟨g,m',bp⟩:=qce (M:=M) (ws:=ys) le bt m hD
   exact k D ys _ B g m' hD bp qak (by rw[<-hK]; exact ry)
  ·cases ec) (λq c z=>by unfold qkR at z; split at z<;>cases z)
def qnh:T->Bool
 | .bl _=>true
 | _=>false
def qkw:T->Bool
 | .bl b=>b
 | _=>false
theorem qfh {K:PySem.W.Frag} {B:Hp}: ∀{ts:List T} {vs:List V},ts.all qnh=true->qaC K B ts vs->vs=(ts.map qkw).map V.bl
 | [],_,_,r=>r.inv0
 | t::ts,_,h,r=>by
  obtain ⟨v,rr,rfl,a,b⟩:=r.inv
  rw[List.all_cons,Bool.and_eq_true] at h
  cases t with
  | bl x=>rw[qbw a,qfh h.2 b]; rfl
  | _=>exact absurd h.1 Bool.false_ne_true
def qnS (q:Bool×List T):Rs T:=if q.1=true/\q.2.all qnh=true then .ok (.bl (q.2.all qkw)) else .no
theorem qkh (h:PE X e (tCB (λxs H Q=> ∃(a:Addr) (bs:List Bool),xs=[.ref a]/\SqL X.K H a (bs.map V.bl)/\Q (.bl (bs.all id)) H) (qc8 (tQ M dq) qhq))):DE M X e (dCQ qnS dq):=
 qh0 h (λH B p vs q c Q le bt m hq r ec k=>by
  unfold qnS at ec
  split at ec
  ·rename_i hcc
   cases ec
   unfold qgA at hq
   rw[if_pos hcc.1] at hq
   refine ⟨p,q.2.map qkw,rfl,SqL.of (by rw[<-qfh hcc.2 r]; exact hq),?_⟩
   rw[List.all_map]
   exact k _ H B (.refl le bt) m qdB
  ·cases ec) (λq c z=>by unfold qnS at z; split at z<;>cases z)
def qsT:T->T->Rs T
 | .int i,.int j=>.ok (.int (if j<i then j else i))
 | _,_=>.no
def dB2 (g:T->T->Rs T) (da db:Ro->Rs T):Ro->Rs T:=λρ=>da ρ>>=λx=>db ρ>>=λy=>g x y
def tyT:T->String
 | .non=> "NoneType" | .bl _=> "bool" | .int _=> "int" | .str _=> "str" | .tup _=> "tuple" | .lst _=> "list" | _=> ""
def qhQ (N:String) (t:T):Bool:=tyT t==N||(N== "int" &&tyT t== "bool")
def qjZ (N:String):T->Rs T
 | .dct _=>.no
 | .dtu _=>.no
 | .dcf _=>.no
 | .fn _=>.no
 | .scr _=>.no
 | t=>.ok (.bl (qhQ N t))
def qkE (K:PySem.W.Frag) (N:String):Prop:= ∀m∈["NoneType", "bool", "int", "str", "tuple", "list"],PySem.W.kitOne K (.type m) (.type N)=some (m==N||(N== "int" &&m== "bool"))
theorem qcg {N:String} (hk:qkE X.K N):qev X (.builtin "isinstance") (λxs H Q=> ∃B x t c,xs=[x,.ty N]/\Le B H/\Rep X.K B t x/\qjZ N t= .ok c/\∀v,Rep X.K B c v->Q v H):=by
 intro pins s σ H xs us Q I r h
 obtain ⟨B,x,t,c,rfl,le,rx,ec,q⟩:=h
 obtain ⟨u,w',rfl,ru,rw'⟩:=qmx r
 cases rw'
 have fin: ∀{m:String},tyT t=m->m∈["NoneType", "bool", "int", "str", "tuple", "list"]->qiE X.K H x (.type m)->qjZ N t= .ok (.bl (qhQ N t))->wpAny (model X.prog X.w) X.A (call (.builtin "isinstance") [u,.type N]) (EP X pins σ Q) X.xe s:=λ{m} e1 e2 ty e3=>by
  rw[e3] at ec
  cases ec
  refine qjO I ru ty (hk m e2) λtk=>⟨.bl _,H,I.tok tk,rfl,q _ ?_⟩
  have:(m==N||(N== "int" &&m== "bool"))=qhQ N t:=by unfold qhQ; rw[e1]
  rw[this]
  exact qdB
 cases t with
 | non=>cases qbM rx; exact fin (m:= "NoneType") rfl (by simp) .non rfl
 | bl y=>cases qbw rx; exact fin (m:= "bool") rfl (by simp) (.bl y) rfl
 | int y=>cases qau rx; exact fin (m:= "int") rfl (by simp) (.int y) rfl
 | str y=>cases qaG rx; exact fin (m:= "str") rfl (by simp) (.str y) rfl
 | lst ts=>
  obtain ⟨p,vs,rfl,hp,_⟩:=qbN rx
  exact fin (m:= "list") rfl (by simp) (.lst (le _ _ hp)) rfl
 | tup ts=>
  obtain ⟨p,vs,rfl,hp,_⟩:=qbq rx
  cases ru
  cases ec
  obtain ⟨its,rv,⟨o,h1,h2,_⟩,_⟩:=I.tuple (le.sqT hp)
  refine PySem.W.kia_one PySem.W.kitx_tuple I.kIn ⟨o,h1,h2⟩ (hk "tuple" (by simp)) (λz=>nomatch z) λtk=>⟨.bl _,H,I.tok tk,rfl,q _ ?_⟩
  exact qdB
 | dct _=>cases ec
 | dtu _=>cases ec
 | dcf _=>cases ec
 | fn _=>cases ec
 | scr _=>cases ec
def qbQ (N:String) (da:Ro->Rs T):Ro->Rs T:=λρ=>da ρ>>=qjZ N
theorem qfD {N:String} (h:PE X e (tCB (λxs H Q=> ∃B x t c,xs=[x,.ty N]/\Le B H/\Rep X.K B t x/\qjZ N t= .ok c/\∀v,Rep X.K B c v->Q v H) (qc8 (tP M da) (qc8 (tC (.ty N)) qhq)))) (hK:X.K=M.K:=by rfl):DE M X e (qbQ N da):=by
 refine PE.weak h λσ H Q hq180=> ?_
 obtain ⟨H0,B0,ρ,B,ev,w⟩:=hq180
 refine tP.of ev (Wnt.mono (Wnt.bind (qaM.mp w)) λx w1 v H1 B1 g1 m1 r1=> ?_)
 have ev1:=ev.grow g1 m1
 cases z:qjZ N x with
 | no=>rw[z] at w1; exact w1.elim
 | ex c=>exfalso; cases x<;>cases z
 | ok c=>
  rw[z] at w1
  exact ⟨B1,v,x,c,rfl,ev1.bh,by rw[hK]; exact r1,z,λv' rv'=>w1 v' H1 B1 g1 m1 (by rw[<-hK]; exact rv')⟩
end
end PL
end
section
namespace PL
open PySem L2 SR SetL
end PL
end
section
namespace PL
open PySem L2 SR SetL
def Kn (P:Program) (w:World) (K:PySem.W.Frag) (mg:Str->Option Value) (base:Heap) (G:Gam) (C:Str->Addr) (x:Str) (ps:List Str) (k:Nat) (fT:List T->Rs T):Prop:=
 ∃f fd,qbI P w K mg base CX0 k f fd ps (spP K G C fT)/\mg x=some (.ref f)/\PySem.W.keepIn K (.ref f)=true/\qc0 K fd ps []
section
variable {M:Md} {X:Cx} {e a b:Expr} {es:List Expr} {pos p p1 p2 p3:Pos} {da db:Ro->Rs T} {ds:Ro->Rs (List T)} {dq:Ro->Rs (Bool×List T)} {x:Str} {k:Nat} {ps:List Str} {fT:List T->Rs T}
def qez (i j:Nat) (da db:Ro->Rs T):Ro->Rs Out:=λρ=>da ρ>>=λt=>db ρ>>=λu=>.ok (.nx ((ρ.set i (.fz t)).set j (.fz u)))
def qcc (i j:Nat) (da:Ro->Rs T) (ds:Ro->Rs (List T)):Ro->Rs Out:=λρ=>da ρ>>=λt=>ds ρ>>=λu=>.ok (.nx ((ρ.set i (.fz t)).set j (.ow u)))
def qbW (dg:T->Ro->Rs Ro) (da:Ro->Rs T):Ro->Rs Out:=λρ=>da ρ>>=λt=>dg t ρ>>=λρ'=>.ok (.nx ρ')
theorem qns {tg:Expr} {dg:T->Ro->Rs Ro} (h:DE M X e da) (hg:DG M X tg dg) (hs:swapsWithSole [tg] e pos.line X.env=pure false:=by rfl) (hw:swappedStores [tg] e X.env=pure none:=by rfl)
  (h1:(assignEach [tg] X.env).map (·.2)=[assign tg X.env]:=by rfl):DS M X (.Assign [tg] e pos) (qbW dg da):=by
 refine PS.weak (ql7 h hg hs hw h1) λD σ H hq38=> ?_
 obtain ⟨H0,B0,ρ,B,ev,w⟩:=hq38
 refine tP.of ev (Wnt.mono (Wnt.bind w) λt w1 v H1 B1 g1 m1 r1=> ?_)
 have ev1:=ev.grow g1 m1
 exact ⟨H0,B0,ρ,B1,t,ev1,r1,Wnt.mono (Wnt.bind w1) λρ' w2 σ' ev'=>w2 σ' H1 B1 ev' g1.bb⟩
def qpf:T->Rs T
 | .str z=>if z.length<=1000 then .ok (.int z.length) else .no
 | .tup ts=>.ok (.int ts.length)
 | .lst ts=>.ok (.int ts.length)
 | _=>.no
def qdQ (da:Ro->Rs T):Ro->Rs T:=λρ=>da ρ>>=qpf
theorem qke (hg:Gl X "len") (hm:X.mg "len" =none) (h:DE M X a da) (hK:X.K=M.K:=by rfl) (he:starEach [a] X.env=(false,eval a X.env)::starEach [] X.env:=by rfl):DE M X (.Call (.Name "len" p) [a] [] pos) (qdQ da):=by
 have hc:qev X (.builtin "len") (λxs H Q=>(∃p ys,xs=[.ref p]/\(SqL X.K H p ys\/SqT X.K H p ys)/\Q (.int ys.length) H)\/∃z,xs=[.str z]/\z.length<=sizeLine/\Q (.int z.length) H):=λpins s σ H xs us Q I r h=>h.elim (qdN pins s σ H xs us Q I r) (qgv pins s σ H xs us Q I r)
 refine PE.weak (qay hc hg hm PySem.boot_len (qag h qar he) (by decide) (by decide) he rfl) λσ H Q hq51=> ?_
 obtain ⟨H0,B0,ρ,B,ev,w⟩:=hq51
 refine tP.of ev (Wnt.mono (Wnt.bind (qaM.mp w)) λt w1 v H1 B1 g1 m1 r1=> ?_)
 have ev1:=ev.grow g1 m1
 cases t with
 | str z=>
  rw[qaG r1]
  unfold qpf at w1
  dsimp only at w1
  split at w1
  ·rename_i hz
   exact .inr ⟨z,rfl,Nat.le_trans hz (by decide),w1 _ H1 B1 g1 m1 qbL⟩
  ·exact w1.elim
 | tup ts=>
  obtain ⟨q,vs,rfl,sq,rs⟩:=qbq r1
  exact .inl ⟨q,vs,rfl,.inr (by rw[hK]; exact ev1.bh.sqT sq),by rw[rs.length]; exact w1 _ H1 B1 g1 m1 qbL⟩
 | lst ts=>
  obtain ⟨q,vs,rfl,sq,rs⟩:=qbN r1
  exact .inl ⟨q,vs,rfl,.inl (SqL.of (ev1.bh _ _ sq)),by rw[rs.length]; exact w1 _ H1 B1 g1 m1 qbL⟩
 | _=>exact w1.elim
end
end PL
end
section
namespace PL
open PySem L2 SR SetL
def names:List Str:=["len", "isinstance", "all", "min", "sorted", "set", "tuple", "list", "int", "bool", "str", "range", "zip", "sum", "any", "max"]
theorem hu8 {k:Nat} {A:Around} (r:qcu k A):A.units+8<cLine:=by have:=r.units; lia
def qaX (da:Ro->Rs T):Ro->Rs T:=λρ=>da ρ>>=qr1
theorem qfI:bootBuiltins "all" =some (.builtin "all"):=by decide+kernel
theorem qiz:bootBuiltins "tuple" =some (.type "tuple"):=by decide+kernel
section
variable {M:Md} {X:Cx} {a:Expr} {pos:Pos} {da:Ro->Rs T}
theorem qcv (h:DE M X a da):DE M X (.UnaryOp .USub a pos) (qaX da):=by
 refine PE.weak (qqP qnY h) λσ H Q hq15=> ?_
 obtain ⟨H0,B0,ρ,B,ev,w⟩:=hq15
 refine tP.of ev (Wnt.mono (Wnt.bind (qaM.mp w)) λt w1 v H1 B1 g1 m1 r1=> ?_)
 cases t with
 | int i=>rw[qau r1]; exact ⟨i,rfl,w1 _ H1 B1 g1 m1 qbL⟩
 | _=>exact w1.elim
end
end PL
namespace PL
open PySem L2 SR SetL
end PL
end
section
namespace PL
open PySem L2 SR SetL
theorem qaq (ts:List T):qgY (.lst ts)= .ok ts:=rfl
theorem qap (ts:List T):qgY (.tup ts)= .ok ts:=rfl
theorem qax (ts:List T):qkU (.lst ts)= .ok (true,ts):=rfl
theorem qaw (ts:List T):qkU (.tup ts)= .ok (false,ts):=rfl
theorem qbp (i j:Int):qfM (.int i) (.int j)= .ok (.int (i+j)):=rfl
theorem qbi (i:Int):qr1 (.int i)= .ok (.int (-i)):=rfl
theorem qbh (i j:Int):gSub (.int i) (.int j)= .ok (.int (i - j)):=rfl
theorem qba (i j:Int):qkH (.int i) (.int j)=if (-1000000<=i/\i<=1000000)\/(-1000000<=j/\j<=1000000) then .ok (.int (i*j)) else .no:=rfl
theorem qbo (i j:Int):qsU (.int i) (.int j)=if 0<j/\j<1073741824 then .ok (.int (i / j)) else .no:=rfl
theorem qbj (i j:Int):qhS (.int i) (.int j)=if 0<j then .ok (.int (i % j)) else .no:=rfl
theorem qb5 (i j:Int):gLt (.int i) (.int j)= .ok (.bl (decide (i<j))):=rfl
theorem qb6 (i j:Int):gLe (.int i) (.int j)= .ok (.bl (decide (i<=j))):=rfl
theorem qb8 (i j:Int):gGt (.int i) (.int j)= .ok (.bl (decide (j<i))):=rfl
theorem qb9 (i j:Int):gGe (.int i) (.int j)= .ok (.bl (decide (j<=i))):=rfl
theorem qb7 (i j:Bool):gIs (.bl i) (.bl j)= .ok (.bl (i==j)):=rfl
theorem qaB (i j:Bool):qpg (.bl i) (.bl j)= .ok (.bl (i != j)):=rfl
theorem qbk (i j:Int):qsT (.int i) (.int j)= .ok (.int (if j<i then j else i)):=rfl
theorem qcb (i j:Int):gEq (.int i) (.int j)= .ok (.bl (i==j)):=rfl
theorem qb4 (i j:Int):gNe (.int i) (.int j)= .ok (.bl (!(i==j))):=rfl
theorem qca (i j:Str):gEq (.str i) (.str j)= .ok (.bl (i==j)):=rfl
theorem qbm (z:Str):qpf (.str z)=if z.length<=1000 then .ok (.int z.length) else .no:=rfl
theorem qbl (ts:List T):qpf (.tup ts)= .ok (.int ts.length):=rfl
theorem qbn (ts:List T):qpf (.lst ts)= .ok (.int ts.length):=rfl
end PL
end
section
namespace PL
open PySem L2
section
variable {M:Md} {X:Cx} {es:List Expr} {pos:Pos} {dr:List T->Ro->Rs Ro}
def gL (n:Nat) (dr:List T->Ro->Rs Ro):T->Ro->Rs Ro:=λt ρ=>match t with | .lst ts=>if ts.length=n then dr ts ρ else .no | _=>.no
end
end PL
namespace PL
open PySem L2
theorem qgW (K:PySem.W.Frag): ∀N∈["int", "bool", "str", "tuple"],qkE K N:=by
 intro N hN m hm
 simp only[List.mem_cons,List.not_mem_nil,or_false] at hN hm
 rcases hN with rfl | rfl | rfl | rfl<;>rcases hm with rfl | rfl | rfl | rfl | rfl | rfl<;>rfl
end PL
end
section
namespace St
open PySem PySem.W PySem.Calls PyProof.Rows
def qcQ (KV:Heap->Nat->Value->Prop) (h:Heap) (ks:List Value) (n:Nat):Prop:=ks.length=n/\∀i v,ks[i]? =some v->KV h i v
section
variable {prog:Program} {w:World} {A:Around} {E:Value->Shared->Prop} {s:Shared} {D kS:Addr} {vs:List Value} {kz:List Int} {P:PySem.Fin->Shared->Prop} {h0:Heap} {KV:Heap->Nat->Value->Prop}
theorem qrt {κ:SortKind} {keys:Array Value} {e e1:Nat} (hk:s.heap.get? kS=some (seqObj "list" keys e)) (hD:s.heap.get? D=some (seqObj "list" #[] e1)) (hkD:kS≠D) (hki:qcQ KV s.heap keys.toList vs.length) (hlen:kz.length=vs.length) (h64:vs.length<64)
  (kp:Kp h0 s.heap) (hD0:h0.get? D=none) (hk0:h0.get? kS=none)
  (kind: ∀(s':Shared) (ks:List Value),Kp h0 s'.heap->qcQ KV s'.heap ks vs.length->2<=vs.length->∀(Q:SortKind->Shared->Prop) (E:Value->Shared->Prop),Q κ s'->wpAny (model prog w) A (keyKind' ks.toArray) Q E s')
  (cmp: ∀(s':Shared) (ks:List Value),Kp h0 s'.heap->qcQ KV s'.heap ks vs.length->∀i j,i<vs.length->j<vs.length->∀C:Bool->Shared->Prop,C (decide (kz.getD i 0<kz.getD j 0)) s'->wpAny (model prog w) A (keyLt' κ (ks.getD i Value.none) (ks.getD j Value.none)) C (λ_ _=>False) s')
  (h: ∀h' tk c (p:Array Nat),Kp h0 h'->qcz kz vs.length p->h'.get? D=some (seqObj "list" (List.toArray (p.toList.map λi=>vs.getD i Value.none)) c)->P (.done (.ret .none)) { s with heap:=h',toks:=tk }):
  wpAny (model prog w) A (ksk_end D false vs.toArray e1 (.ref kS) keys) P E s:=by
 have hsz:keys.size=vs.length:=by
  have h1:=hki.1
  rw[Array.length_toList] at h1
  exact h1
 unfold ksk_end
 simp only[Bool.false_eq_true,if_false]
 by_cases h2:vs.toArray.size<2
 ·rw[if_pos h2,if_pos h2]
  refine wpAny_bind (wpAny_pure ?_)
  rw[StateT.run_pure]
  refine wpAny_bind (wpAny_pure ?_)
  rw[List.size_toArray] at h2
  refine qlQ (kz:=kz) (p:=List.toArray (List.range vs.length)) hk hD hkD h64 (by lia) kp hD0 hk0 ⟨⟨by simp,λi hi=> ?_,λi q1 q2=>by lia⟩,λi j hij hj=>by lia⟩ ?_ rfl λh' tk c k hh=>h h' tk c _ k ⟨⟨by simp,λi hi=> ?_,λi q1 q2=>by lia⟩,λi j hij hj=>by lia⟩ hh
  ·unfold g
   rw[Array.getD_eq_getD_getElem?]
   simp[hi]
  ·show (keys.zip vs.toArray).map (·.2)=_
   apply Array.toList_inj.mp
   rw[Array.toList_map,ksk_zip,List.toList_toArray,List.toList_toArray]
   have:keys.toList.length=vs.length:=by rw[Array.length_toList]; exact hsz
   rw[show (keys.toList.zip vs).map (λx:Value×Value=>x.2)=vs from List.map_snd_zip (by lia)]
   apply List.ext_getElem
   ·simp
   ·intro i h3 h4
    simp[List.getElem?_eq_getElem h3]
  ·unfold g
   rw[Array.getD_eq_getD_getElem?]
   simp[hi]
 ·rw[if_neg h2,if_neg h2]
  rw[List.size_toArray] at h2
  have hk2:(List.toArray keys.toList)=keys:=by simp
  have kk:=kind s keys.toList kp hki (by lia)
  rw[hk2] at kk
  refine wpAny_bind (kk _ _ ?_)
  have run:=kat_run (prog:=prog) (w:=w) (A:=A) (E:=E) (s:=s) (κ:=κ) (ks:=keys.toList) (vs:=vs) (Q:=λst s'=>s'=s/\∃p,qcz kz vs.length p/\(arrOf st).map (·.2)=List.toArray (p.toList.map λi=>vs.getD i Value.none)/\failedOf st=none)
   (G:=λp s'=>s'=s/\qcz kz vs.length p) (by rw[Array.length_toList]; exact hsz) (by lia) h64 (λp st' s' a1 a2 a3 a4=>⟨a4.1,p,a4.2,kat_snds (by rw[Array.length_toList]; exact hsz) a2,a3⟩)
   (qg1 (ask:=qdc λi=>kz.getD i 0) (N:=vs.length) (λi j C hi hj hc=>by
    exact cmp s keys.toList kp hki i j hi hj C hc) (λp hp=>⟨rfl,hp⟩) (qiR (by lia)))
  rw[hk2] at run
  refine wpAny_bind (wpAny_mono run (λr s' hr=> ?_) λ_ _ x=>x)
  obtain ⟨rfl,p,ho,har,hf⟩:=hr
  exact qlQ (p:=p) hk hD hkD h64 (by lia) kp hD0 hk0 ho har hf λh' tk c k hh=>h h' tk c p k ho hh
theorem qop {κ:SortKind} {f:Value} {e1:Nat} (hk:s.heap.get? kS=some (seqObj "list" #[] 0)) (hD:s.heap.get? D=some (seqObj "list" #[] e1)) (hkD:kS≠D) (hlen:kz.length=vs.length) (h64:vs.length<64)
  (kp:Kp h0 s.heap) (hD0:h0.get? D=none) (hk0:h0.get? kS=none)
  (qex: ∀(i:Nat) (v:Value),vs[i]? =some v->∀s':Shared,Kp h0 s'.heap->s'.gens=s.gens->s'.os=s.os->
   wpAny (model prog w) A (call f [v]) (λr s''=> ∃h' tk,KV h' i r/\s''={ s' with heap:=h',toks:=tk }/\Kp s'.heap h') (λ_ _=>False) s')
  (stb: ∀(h h':Heap) i v,(∀b o,h.get? b=some o->o.cls≠.type "list" ->h'.get? b=some o)->KV h i v->KV h' i v)
  (kind: ∀(s':Shared) (ks:List Value),Kp h0 s'.heap->qcQ KV s'.heap ks vs.length->2<=vs.length->∀(Q:SortKind->Shared->Prop) (E:Value->Shared->Prop),Q κ s'->wpAny (model prog w) A (keyKind' ks.toArray) Q E s')
  (cmp: ∀(s':Shared) (ks:List Value),Kp h0 s'.heap->qcQ KV s'.heap ks vs.length->∀i j,i<vs.length->j<vs.length->∀C:Bool->Shared->Prop,C (decide (kz.getD i 0<kz.getD j 0)) s'->wpAny (model prog w) A (keyLt' κ (ks.getD i Value.none) (ks.getD j Value.none)) C (λ_ _=>False) s')
  (h: ∀h' tk c (p:Array Nat),Kp h0 h'->qcz kz vs.length p->h'.get? D=some (seqObj "list" (List.toArray (p.toList.map λi=>vs.getD i Value.none)) c)->P (.done (.ret .none)) { s with heap:=h',toks:=tk }):
  wpAny (model prog w) A (ksk_rest D f false vs.toArray e1 (.ref kS)) P E s:=by
 unfold ksk_rest
 refine wpAny_bind (wpAny_rule ?_)
 first
  | rw[List.forIn_toArray]
  | (rw[<-Array.forIn_toList]; simp only[List.toList_toArray])
 refine wpAny_bind (ksk_fold (λi s'=> ∃h' tk kA e,s'={ s with heap:=h',toks:=tk }/\Kp h0 h'/\h'.get? kS=some (seqObj "list" kA e)/\h'.get? D=some (seqObj "list" #[] e1)/\qcQ KV h' kA.toList i) vs 0 s
  ⟨s.heap,s.toks, #[],0,rfl,kp,hk,hD,rfl,λi v z=>by simp at z⟩ ?step ?done)
 case step=>
  rintro j x s' hx ⟨h',tk,kA,e,rfl,kp',hk',hD',hki⟩
  simp only[Nat.zero_add] at hki⊢
  have hj:j<vs.length:=(List.getElem?_eq_some_iff.mp hx).1
  have hz:kA.size<=vs.length:=by
   have h1:=hki.1
   rw[Array.length_toList] at h1
   lia
  refine wpAny_bind (wpAny_attempt (wpAny_mono (qex j x hx { s with heap:=h',toks:=tk } kp' rfl rfl) (λv s'' he=> ?_) λ_ _ hF=>hF.elim))
  obtain ⟨h2,tk2,hv2,rfl,kp2⟩:=he
  have hk2:=kp2 _ _ hk'
  have hD2:=kp2 _ _ hD'
  have s1:=Heap.SameBut.update h2 kS (Obj.mapSeq (·.push v))
  have ea:(kA.push v).toList=kA.toList++[v]:=by simp
  refine wpAny_bind (listUpdate_at hk2 rfl ?_ (by rw[sizeLine_eq]; lia) (Nat.le_trans (Nat.le_of_eq (Array.size_push ..)) (by rw[sizeLine_eq]; lia)))
  refine wpAny_pure ⟨rfl,_,_,kA.push v,_,rfl,λb o q=> ?_,get?_update_seq hk2 (·.push v),(s1.2 D hkD.symm).trans hD2,?_⟩
  rotate_left
  ·rw[ea]
   refine ⟨by simp[hki.1],λi u hu=> ?_⟩
   have st2: ∀b o,h2.get? b=some o->o.cls≠.type "list" ->(h2.update kS (Obj.mapSeq (·.push v))).get? b=some o:=λb o q nl=>(s1.2 b (λz=>by rw[z,hk2] at q; cases q; exact nl rfl)).trans q
   by_cases hi:i<kA.toList.length
   ·rw[List.getElem?_append_left hi] at hu
    exact stb _ _ i u st2 (stb _ _ i u (λb o q _=>kp2 b o q) (hki.2 i u hu))
   ·rw[List.getElem?_append_right (by lia)] at hu
    have hi2:i=j:=by
     have:=(List.getElem?_eq_some_iff.mp hu).1
     have h1:=hki.1
     rw[List.length_singleton] at this
     lia
    subst hi2
    rw[hki.1,Nat.sub_self] at hu
    cases hu
    exact stb _ _ i v st2 hv2
  have nk:b≠kS:=λz=>by rw[z,hk0] at q; cases q
  exact (s1.2 b nk).trans (kp2 _ _ (kp' b o q))
 case done=>
  rintro s' ⟨h',tk,kA,e,rfl,kp',hk',hD',hki⟩
  rw[Nat.zero_add] at hki
  refine wpAny_bind (listItems_at hk' rfl ?_)
  exact qrt hk' hD' hkD hki hlen h64 kp' hD0 hk0 kind cmp λh3 tk3 c p a1 a2 a3=>h h3 tk3 c p a1 a2 a3
end
section
variable {prog:Program} {w:World} {A:Around} {E:Value->Shared->Prop} {s:Shared} {l:Addr} {vs:List Value} {kz:List Int} {Q:Value->Shared->Prop} {KV:Heap->Nat->Value->Prop}
theorem sorted_g {κ:SortKind} {f:Value} {q:Addr} (hf:f= .ref q) (hl:s.heap.IsList l vs.toArray) (hlen:kz.length=vs.length) (h64:vs.length<64)
  (qex: ∀(i:Nat) (v:Value),vs[i]? =some v->∀s':Shared,Kp s.heap s'.heap->s'.gens=s.gens->s'.os=s.os->
   wpAny (model prog w) A.in1.in1 (call f [v]) (λr s''=> ∃h' tk,KV h' i r/\s''={ s' with heap:=h',toks:=tk }/\Kp s'.heap h') (λ_ _=>False) s')
  (stb: ∀(h h':Heap) i v,(∀b o,h.get? b=some o->o.cls≠.type "list" ->h'.get? b=some o)->KV h i v->KV h' i v)
  (kind: ∀(s':Shared) (ks:List Value),Kp s.heap s'.heap->qcQ KV s'.heap ks vs.length->2<=vs.length->∀(Q:SortKind->Shared->Prop) (E:Value->Shared->Prop),Q κ s'->wpAny (model prog w) A.in1.in1 (keyKind' ks.toArray) Q E s')
  (cmp: ∀(s':Shared) (ks:List Value),Kp s.heap s'.heap->qcQ KV s'.heap ks vs.length->∀i j,i<vs.length->j<vs.length->∀C:Bool->Shared->Prop,C (decide (kz.getD i 0<kz.getD j 0)) s'->wpAny (model prog w) A.in1.in1 (keyLt' κ (ks.getD i Value.none) (ks.getD j Value.none)) C (λ_ _=>False) s')
  (h: ∀D h' tk c (p:Array Nat),s.heap.objs.size<=D->Kp s.heap h'->qcz kz vs.length p->h'.get? D=some (seqObj "list" (List.toArray (p.toList.map λi=>vs.getD i Value.none)) c)->Q (.ref D) { s with heap:=h',toks:=tk }):
  wpAny (model prog w) A (call (.builtin "sorted") [.ref l] [(Str.ofString "key",f)]) Q E s:=by
 subst hf
 refine call_function_entry_kw kind_sorted plain_sorted entry_sorted (ksk_s1 _ _) ?_
 unfold Builtin.«sorted»
 refine wpAny_bind (m:=checkCount "sorted" 1 1 _) (wpAny_pure ?_)
 refine wpAny_bind (collect_list hl ?_ (by rw[sizeLine_eq]; lia))
 refine wpAny_bind (wpAny_newList ?_ (by rw[sizeLine_eq]; lia))
 have hsz:((s.heap.push (seqObj "list" #[] 0)).update s.heap.objs.size (Obj.mapSeq (· ++vs.toArray))).objs.size=s.heap.objs.size+1:=by
  rw[Heap.size_update,size_push']
 generalize hH1:(s.heap.push (seqObj "list" #[] 0)).update s.heap.objs.size (Obj.mapSeq (· ++vs.toArray))=H1 at hsz⊢
 have kp1:Kp s.heap H1:=λb o q=>by
  have hlt:b<s.heap.objs.size:=Heap.lt_size q
  rw[<-hH1,Heap.get?_update_ne _ _ _ _ (Nat.ne_of_lt hlt),Heap.get?_push_ne _ _ _ (Nat.ne_of_lt hlt)]
  exact q
 have kp2:Kp s.heap (H1.push (seqObj "list" vs.toArray 0)):=λb o q=>Heap.get?_push_of_some _ (kp1 b o q)
 have hoD:(H1.push (seqObj "list" vs.toArray 0)).get? H1.objs.size=some (seqObj "list" vs.toArray 0):=Heap.get?_push_size _ rfl
 refine wpAny_bind (wpAny_holding (wpAny_call_entry_kw slot_list_sort ⟨_,hoD,rfl⟩ entry_list_sort ?body (ksk_l1 _ _)))
 case body=>
  show wpAny (model prog w) A.in1.in1 (Builtin.«list.sort» ⟨[.ref H1.objs.size],[(Str.ofString "key",.ref q)]⟩) _ _ _
  rw[ksk_t1]
  unfold ksk_tree
  have s1:=Heap.SameBut.update (H1.push (seqObj "list" vs.toArray 0)) H1.objs.size (Obj.mapSeq λ_=>(#[]:Array Value))
  obtain ⟨e1,ho1⟩: ∃e1,((H1.push (seqObj "list" vs.toArray 0)).update H1.objs.size (Obj.mapSeq λ_=>(#[]:Array Value))).get? H1.objs.size=some (seqObj "list" #[] e1):=⟨_,get?_update_seq hoD λ_=> #[]⟩
  refine wpAny_bind (listItems_at hoD rfl ?_)
  refine wpAny_bind (listUpdate_at hoD rfl ?_ (by rw[List.size_toArray,sizeLine_eq]; lia) (Nat.zero_le _))
  refine wpAny_bind (seqEpoch_at ho1 rfl ?_)
  generalize hH2:(H1.push (seqObj "list" vs.toArray 0)).update H1.objs.size (Obj.mapSeq λ_=>(#[]:Array Value))=H2 at ho1 s1⊢
  have sz2:H2.objs.size=H1.objs.size+1:=by rw[<-hH2,Heap.size_update,size_push']
  have kp3:Kp s.heap H2:=λb o z=>(s1.2 b (by rw[hsz]; exact Nat.ne_of_lt (Nat.lt_succ_of_lt (Heap.lt_size z)))).trans (kp2 b o z)
  refine wpAny_bind (wpAny_newTuple ?_ (by show vs.length<=_; rw[sizeLine_eq]; lia))
  refine wpAny_bind (wpAny_newList ?_ (Nat.zero_le _))
  refine wpAny_holding ?_
  have sz3:(H2.push (seqObj "tuple" vs.toArray 0)).objs.size=H2.objs.size+1:=size_push' _ _
  refine qop (h0:=s.heap) (kz:=kz) (kS:=(H2.push (seqObj "tuple" vs.toArray 0)).objs.size) (s:={ s with heap:=(H2.push (seqObj "tuple" vs.toArray 0)).push (seqObj "list" #[] 0) }) (Heap.get?_push_size _ rfl)
   (Heap.get?_push_of_some _ (Heap.get?_push_of_some _ ho1)) (by rw[sz3,sz2]; exact Nat.ne_of_gt (Nat.lt_succ_of_lt (Nat.lt_succ_self _))) hlen h64 (λb o z=>Heap.get?_push_of_some _ (Heap.get?_push_of_some _ (kp3 b o z)))
   (get_none (by rw[hsz]; exact Nat.le_succ _)) (get_none (by rw[sz3,sz2,hsz]; exact Nat.le_succ_of_le (Nat.le_succ_of_le (Nat.le_succ _)))) qex stb kind cmp λh' tk c p a1 a2 a3=>⟨_,rfl,?_⟩
  exact wpAny_pure ⟨_,rfl,h _ h' tk c p (by rw[hsz]; exact Nat.le_succ _) a1 a2 a3⟩
end
end St
end
section
namespace L2
open PySem PySem.Spec PyProof.Rows
structure qh8 (x:Str) (v:Value) (env:Env) (h:Heap):Prop where
 kind:env.scope.kind= .function
 loc:env.kindOf x=some .local
 ns: ∃m,h.Ns env.locals m/\m x=some v
theorem qh8.load {M:Model} {A:Around} {E:Value->Shared->Prop} {s:Shared} {env:Env} {x:Str} {v:Value} {p:Pos} {Q:Value->Shared->Prop} (L:qh8 x v env s.heap) (hdb:(x==("__debug__" :Str))=false) (h:Q v s):wpAny M A (eval (.Name x p) env) Q E s:=by
 obtain ⟨m,h1,h2⟩:=L.ns
 exact wpAny_Name (wpAny_loadName_local L.kind L.loc h1 h2 h) hdb
theorem qh5 {prog:Program} {w:World} {A:Around} {E:Value->Shared->Prop} {s:Shared} {f c':Addr} {qual x:Str} {params:Arguments} {scope:Scope} {pm ctv v:Value} {body:Expr} {R:Heap->Value->Prop}
  (hf:s.heap.get? f=some (PySem.W.kla_obj "<lambda>" qual params body scope [] pm c' ctv)) (hcd:s.heap.CodeRec (.ref c') qual) (hlim:s.heap.NoLimit) (hroom:A.depth<recursionLimit)
  (hk:scope.kind= .function) (hco:scope.isCoroutine=false) (hgen:scope.isGenerator=false) (hx:scope.names.lookup x=some .local) (hcell: ∀y∈scope.names,y.2≠.cell)
  (hb: ∀v,bindArgs (PySem.W.kla_fn "<lambda>" qual params body scope [] pm (.ref c') ctv) ⟨[v],[]⟩=pure [(x,v)])
  (hbody: ∀(A':Around) (env:Env) (s1:Shared),qh8 x v env s1.heap->St.Kp s.heap s1.heap->wpAny (model prog w) A' (eval body env) (λr s''=> ∃h' tk',R h' r/\s''={ s1 with heap:=h',toks:=tk' }/\St.Kp s1.heap h') (λ_ _=>False) s1):
  wpAny (model prog w) A (call (.ref f) [v]) (λr s''=> ∃h' tk',R h' r/\s''={ s with heap:=h',toks:=tk' }/\St.Kp s.heap h') E s:=by
 refine wpAny_call (PySem.W.kla_callFunE hroom hf rfl hco hgen rfl hcd ?_)
 rw[hb]
 refine wpAny_pure (wpAny_newFunctionEnv hcell (by intro y hy; obtain rfl:y=(x,v):=List.mem_singleton.mp hy; exact hx) (λh1 hn1 hs1=> ?_) hk)
 have kp:St.Kp s.heap h1:=λb o e=>(hs1.2 b (Nat.ne_of_lt (Heap.lt_size e))).trans (Heap.get?_push_of_some _ e)
 refine ⟨hlim.keeps kp,PySem.W.kla_codeExpr (wpAny_mono (hbody _ _ _ ⟨hk,hx,_,hn1,by simp[List.lookup_cons]⟩ kp) (λr s'' h=> ?_) λ_ _ hF=>hF.elim)⟩
 obtain ⟨h',tk',hr,rfl,kp'⟩:=h
 exact ⟨h',tk',hr,rfl,λb o e=>kp' b o (kp b o e)⟩
section
variable {prog:Program} {w:World} {A:Around} {E:Value->Shared->Prop} {s:Shared} {env:Env} {x:Str} {t:Addr} {its:List Value} {v:Value} {i j:Nat} {p1 p2 p3:Pos} {Q:Value->Shared->Prop}
theorem qfv (L:qh8 x (.ref t) env s.heap) (hdb:(x==("__debug__" :Str))=false) (ht:IsTup s.heap t its.toArray) (hi:its[i]? =some v) (hz:its.length<=sizeLine) (h: ∀tk,Q v { s with toks:=tk }):
  wpAny (model prog w) A (eval (.Subscript (.Name x p1) (.Constant (.int (i:Int)) j p2) p3) env) Q E s:=by
 refine Subscript_ (L.load hdb ?_)
 refine wpAny_Constant_int ?_
 have hl:i<its.length:=(List.getElem?_eq_some_iff.mp hi).1
 have hn:=qdm
 refine subscriptTail_builtinR (x:=v) (T:= "tuple") ht.typeIs slot_tuple_getitem.lookup ?_ (by with_unfolding_all rfl)
 exact getItem_tuple (j:=i) ht (by lia) (by lia) (by rw[List.size_toArray]; exact seqIndex_of (by lia) (by lia)) (by simpa using hi) ⟨rfl,h _⟩
theorem qll {a b:Expr} {k:Nat} {pos:Pos} (ha:wpAny (model prog w) A (eval a env) (λv1 s1=>wpAny (model prog w) A (eval b env) (λv2 s2=>Q (.ref s2.heap.objs.size) { s2 with heap:=s2.heap.push { cls:=Value.type "tuple",data:=Data.seq #[v1,v2] } }) E s1) E s)
  (hs:starEach [a,b] env=[(false,eval a env),(false,eval b env)]):wpAny (model prog w) A (eval (.Tuple [a,b] k pos) env) Q E s:=by
 refine wpAny_Tuple_spliced ?_
 rw[hs]
 refine Calls.spliced_cons (wpAny_mono ha (λv1 s1 h1=> ?_) λ_ _ h=>h)
 refine Calls.spliced_cons (wpAny_mono h1 (λv2 s2 h2=> ?_) λ_ _ h=>h)
 exact Calls.spliced_nil ⟨by show 2<=_; rw[sizeLine_eq]; decide,h2⟩
end
end L2
end
section
namespace PL
open PySem L2 SR SetL
section
open PySem.W PyProof.Rows
variable {prog:Program} {w:World} {A:Around} {E:Value->Shared->Prop} {s:Shared}
def qe3 (h:Heap) (kl:List Ky) (v:Value):Prop:= ∃p its,v= .ref p/\IsTup h p (List.toArray its)/\Vals (kl.map kyV) its
theorem qf8 {Q:SortKind->Shared->Prop} (its:List Value) {x:Nat} {r:List Nat} (hx:x=0\/x=1) (h2:2<=its.length) (hk: ∀v∈its,∃kl,qe3 s.heap kl v/\kl.map shK=x::r) (hq:Q (tuples' true) s):wpAny (model prog w) A (keyKind' its.toArray) Q E s:=by
 have fst: ∀v∈its,∃f,(∃a o xs n,v= .ref a/\s.heap.get? a=some o/\o.cls= .type "tuple" /\o.data= .seq xs n/\xs[0]? =some f)/\((x=0/\∃i t,f=Value.int i t)\/(x=1/\∃i t,f=Value.str i t)):=λv hv=>by
  obtain ⟨kl,⟨p,w1,g1,i1,v1⟩,k1⟩:=hk v hv
  obtain ⟨o1,e1,c1,n1,d1⟩:=i1
  cases kl with
  | nil=>cases k1
  | cons ky kr=>
   cases v1 with
   | cons r0 rr=>
    have ks:shK ky=x:=(List.cons.inj k1).1
    cases ky with
    | i n=>
     obtain ⟨tk,rfl⟩:=r0
     exact ⟨_,⟨p,o1,_,n1,g1,e1,c1,d1,rfl⟩,.inl ⟨ks.symm,n,tk,rfl⟩⟩
    | s n=>
     obtain ⟨tk,rfl⟩:=r0
     exact ⟨_,⟨p,o1,_,n1,g1,e1,c1,d1,rfl⟩,.inr ⟨ks.symm,n,tk,rfl⟩⟩
 obtain ⟨fs,k1,k2,k3⟩:=qdC its fst
 rcases hx with rfl | rfl
 ·refine PySem.W.kat_kind k1 (by lia) (T:=.type "int") (λv hv=> ?_) (by decide) ?_
  ·rcases k3 v hv with ⟨_,i,t,rfl⟩ | ⟨z,_⟩
   ·exact PySem.W.Looks.of_pure rfl
   ·cases z
  ·exact hq
 ·refine PySem.W.kat_kind k1 (by lia) (T:=.type "str") (λv hv=> ?_) (by decide) ?_
  ·rcases k3 v hv with ⟨z,_⟩ | ⟨_,i,t,rfl⟩
   ·cases z
   ·exact PySem.W.Looks.of_pure rfl
  ·exact hq
theorem qjy {C:Bool->Shared->Prop} {a b:List Ky} {u v:Value} (h1:qe3 s.heap a u) (h2:qe3 s.heap b v) (hs:a.map shK=b.map shK) (hc:C (qcA a b) s):wpAny (model prog w) A (keyLt' (tuples' true) u v) C (λ_ _=>False) s:=by
 obtain ⟨p1,w1,rfl,i1,v1⟩:=h1
 obtain ⟨p2,w2,rfl,i2,v2⟩:=h2
 obtain ⟨o1,e1,_,n1,d1⟩:=i1
 obtain ⟨o2,e2,_,n2,d2⟩:=i2
 refine kat_lt e1 d1 e2 d2 ?_
 have hl:w1.length=w2.length:=by
  have h1:=v1.length
  have h2:=v2.length
  have h3:=congrArg List.length hs
  simp only[List.length_map] at h1 h2 h3
  lia
 rw[show decide ((List.toArray w1).size<(List.toArray w2).size)=false by simp[hl]]
 exact qpP _ _ _ _ 0 v1 v2 hs hc
end
def qdx (i j:Nat):T->List T
 | .tup us=>(match us[i]?,us[j]? with | some a,some b=>[a,b] | _,_=>[])
 | _=>[]
def qey (i j:Nat) (t:T):List Ky:=(qdx i j t).map kyT
def qd5 (i j:Nat) (q:Bool×List T):Rs (List T):=if (q.1=true/\q.2.length<64)/\qcq (q.2.map λt=>.tup (qdx i j t))=true then .ok (qeN (qey i j) q.2) else .no
theorem qjh {i j:Nat} {t:T} (h:qdx i j t≠[]): ∃us a b,t= .tup us/\us[i]? =some a/\us[j]? =some b/\qdx i j t=[a,b]:=by
 cases t with
 | tup us=>
  have h':(match us[i]?,us[j]? with | some a,some b=>[a,b] | _,_=>([]:List T))≠[]:=h
  cases e1:us[i]? with
  | none=>rw[e1] at h'; exact absurd rfl h'
  | some a=>
   cases e2:us[j]? with
   | none=>rw[e1,e2] at h'; exact absurd rfl h'
   | some b=>
    refine ⟨us,a,b,rfl,e1,e2,?_⟩
    show (match us[i]?,us[j]? with | some a,some b=>[a,b] | _,_=>([]:List T))=_
    rw[e1,e2]
 | _=>exact absurd rfl h
theorem qiS {i j:Nat} {ts:List T} (h:qcq (ts.map λt=>.tup (qdx i j t))=true) (hn:ts≠[]): ∃x y,(x=0\/x=1)/\∀t∈ts,∃us a b,t= .tup us/\us[i]? =some a/\us[j]? =some b/\qdx i j t=[a,b]/\qcM a=true/\qcM b=true/\(qey i j t).map shK=[x,y]:=by
 cases ts with
 | nil=>exact absurd rfl hn
 | cons t0 tr=>
  obtain ⟨s0,ok0,sh⟩:=qch h (t:=.tup (qdx i j t0)) (by simp)
  have sh': ∀t∈t0::tr,2::(qdx i j t).map shT=s0:=λt ht=>sh (.tup (qdx i j t)) (List.mem_map.mpr ⟨t,ht,rfl⟩)
  have e0:=sh' t0 List.mem_cons_self
  rcases qdl ok0 with e | e | ⟨x,r,e,ho⟩
  ·rw[e] at e0; cases e0
  ·rw[e] at e0; cases e0
  ·have hne: ∀t∈t0::tr,(qdx i j t).map shT=x::r:=λt ht=>by
    have:=sh' t ht
    rw[e] at this
    exact (List.cons.inj this).2
   have all: ∀t∈t0::tr,∃us a b,t= .tup us/\us[i]? =some a/\us[j]? =some b/\qdx i j t=[a,b]/\qcM a=true/\qcM b=true/\(qey i j t).map shK=x::r:=λt ht=>by
    obtain ⟨us,a,b,f1,f2,f3,f4⟩:=qjh (i:=i) (j:=j) (t:=t) (λz=>by have:=hne t ht; rw[z] at this; cases this)
    have fl:=qj2 (hne t ht) ho
    rw[f4,List.all_cons,List.all_cons,Bool.and_eq_true,Bool.and_eq_true] at fl
    refine ⟨us,a,b,f1,f2,f3,f4,fl.1,fl.2.1,?_⟩
    rw[<-hne t ht]
    unfold qey
    rw[f4]
    have g: ∀c:T,qcM c=true->shK (kyT c)=shT c:=λc hc=>by
     cases c with
     | int _=>rfl
     | str _=>rfl
     | non=>cases (show false=true from hc)
     | bl _=>cases (show false=true from hc)
     | tup _=>cases (show false=true from hc)
     | lst _=>cases (show false=true from hc)
     | dct _=>cases (show false=true from hc)
     | dtu _=>cases (show false=true from hc)
     | dcf _=>cases (show false=true from hc)
     | fn _=>cases (show false=true from hc)
     | scr _=>cases (show false=true from hc)
    show [shK (kyT a),shK (kyT b)]=[shT a,shT b]
    rw[g a fl.1,g b fl.2.1]
   obtain ⟨us,a,b,_,_,_,f4,_,_,f7⟩:=all t0 List.mem_cons_self
   have er: ∃y,r=[y]:=by
    unfold qey at f7
    rw[f4] at f7
    exact ⟨_,(List.cons.inj f7).2.symm⟩
   obtain ⟨y,rfl⟩:=er
   refine ⟨x,y,?_,all⟩
   rw[List.all_cons,Bool.and_eq_true] at ho
   simpa using ho.1
section
variable {M:Md} {X:Cx} {e:Expr} {dq:Ro->Rs (Bool×List T)} {x:Str} {P c:Addr} {params:Arguments} {scope:Scope} {p1 p2 p3 p4 p5 p6 tp lpos kpos p pos:Pos} {i j j1 j2 kk:Nat} {qual:Str}
open PySem.Spec PyProof.Rows in
theorem qkd (he:DQ M X e dq) (hg:Gl X "sorted") (hm:X.mg "sorted" =none) (hv:bootBuiltins "sorted" =some (.builtin "sorted"))
  (hcode:X.env.code= .ref c) (C:PySem.W.CodeHd X.base c P) (hb: ∃bm ob,X.mg "__builtins__" =some (.ref bm)/\bm≠builtinsNs/\X.base.get? bm=some ob/\ob.cls= .type "module" /\ob.dict=some builtinsNs/\ob.data= .plain)
  (hfree: ∀x∈scope.names,x.2≠.free) (hd:defaultsOf params X.env=([],[])) (hq:X.env.qual++("<lambda>" :Str)=qual)
  (hk:scope.kind= .function) (hco:scope.isCoroutine=false) (hgen:scope.isGenerator=false) (hx:scope.names.lookup x=some .local) (hcell: ∀y∈scope.names,y.2≠.cell) (hdb:(x==("__debug__" :Str))=false)
  (hbd: ∀(pm cv ctv v:Value),bindArgs (PySem.W.kla_fn "<lambda>" qual params (.Tuple [.Subscript (.Name x p1) (.Constant (.int (i:Int)) j1 p2) p3,.Subscript (.Name x p4) (.Constant (.int (j:Int)) j2 p5) p6] kk tp) scope [] pm cv ctv) ⟨[v],[]⟩=pure [(x,v)]) (hr:qcu 4 X.A)
  (hT: ∀H,M.G.P H->Tab P lpos qual H) (hT': ∀H H2,M.G.P H->qdT P H H2->Tab P lpos qual H2->M.G.P H2) (hK:X.K=M.K:=by rfl)
  (hs0:starEach [e] X.env=(false,eval e X.env)::starEach [] X.env:=by rfl) (hs1:backTo pos (starEach [e] X.env)=(false,eval e X.env)::backTo pos (starEach [] X.env):=by rfl) (hs2:(backTo pos (starEach [e] X.env)).any (·.1)=false:=by rfl):
  DF M X (.Call (.Name "sorted" p) [e] [⟨some "key",.Lambda params (.Tuple [.Subscript (.Name x p1) (.Constant (.int (i:Int)) j1 p2) p3,.Subscript (.Name x p4) (.Constant (.int (j:Int)) j2 p5) p6] kk tp) scope lpos,kpos⟩] pos) (qdu (qd5 i j) dq):=by
 intro pins s σ H Q I ⟨H0,B0,ρ,B,ev,w⟩
 refine wpAny_Call_Name_kw (qcK I hg hm hv ?_)
 refine PyProof.Rows.callWith_kw ?_ hs1 hs2 rfl rfl
 have hpa:PA X [e] (λσ H Q=>tQ M dq σ H λx H1=>Q [x] H1):=λpos pins s σ H Q I h=>(qag he qar hs0) pos pins s σ H Q I h
 have hR:tQ M dq σ H λx H1=> ∃a vs q B1,x= .ref a/\qa2 H B H1 B1/\M.G.P H1/\(if q.1=true then H1 a=some (.lst vs) else SqT M.K B1 a vs)/\qaC M.K B1 q.2 vs/\
   Wnt M H0 (λa=> ∀p vs H' B',qa2 H B H' B'->M.G.P H'->H p=none->B' p=none->H' p=some (.lst vs)->qaC M.K B' a vs->Q (.ref p) H') (qd5 i j q):=
  tQ.of ev (Wnt.mono (Wnt.bind (qbF.mp w)) λq w1 p vs H1 B1 g1 m1 hq r1=>⟨p,vs,q,B1,rfl,g1,m1,hq,r1,w1⟩)
 refine thn (hpa pos pins s σ H (λvs H1=>match vs with
  | [x]=> ∃a vs q B1,x= .ref a/\qa2 H B H1 B1/\M.G.P H1/\(if q.1=true then H1 a=some (.lst vs) else SqT M.K B1 a vs)/\qaC M.K B1 q.2 vs/\
   Wnt M H0 (λa=> ∀p vs H' B',qa2 H B H' B'->M.G.P H'->H p=none->B' p=none->H' p=some (.lst vs)->qaC M.K B' a vs->Q (.ref p) H') (qd5 i j q)
  | _=>False) I hR) λus s1 ⟨vs,H1,I1,r1,q1⟩=> ?_
 match vs,r1,q1 with
 | [_],r1,q1=>
  obtain ⟨a,vs,q,B1,rfl,g1,m1,hql,rq,w1⟩:=q1
  obtain ⟨u,rfl,ru⟩:=qdP r1
  cases ru
  have ev1:=ev.grow g1 m1
  unfold qd5 at w1
  split at w1
  case isFalse=>exact w1.elim
  rename_i hcc
  rw[if_pos hcc.1.1] at hql
  have hS:SqL X.K H1 a vs:=SqL.of hql
  have hT1:=hT _ m1
  show wpAny _ _ (evalAll [(do let v <-eval (.Lambda params (.Tuple [.Subscript (.Name x p1) (.Constant (.int (i:Int)) j1 p2) p3,.Subscript (.Name x p4) (.Constant (.int (j:Int)) j2 p5) p6] kk tp) scope lpos) X.env; standAt pos; pure v)]) _ _ s1
  obtain ⟨ps,hP,_⟩:=id hT1
  refine wpAny_evalAll_cons (wpAny_bind (qhL I1 hcode C hb hfree hd hq hT1 λf c' ctv H2 s2 I2 hT2 same _ kp hf0 hfn hfo hrec=>wpAny_bind (wpAny_standAt (wpAny_pure (wpAny_evalAll_nil ?_)))))
  show wpAny _ _ (call (.builtin "sorted") [.ref a] [(Str.ofString "key",.ref f)]) _ _ s2
  have hS2:=same.seqL hP hS
  obtain ⟨its,rv,pl,hz⟩:=I2.list hS2
  have hlen:=rv.length
  have l2:=rq.length
  have notP: ∀b o,B1 b=some o->b≠P:=λb o eb z=>by
   subst z
   have:=ev1.bh _ _ eb
   rw[hP] at this; cases this
   exact ev1.bt _ _ eb
  have le2:Le B1 H2:=λb o eb=>same b o (ev1.bh _ _ eb) (notP b o eb)
  have elem: ∀{m:Nat},m<q.2.length->Rep X.K B1 (q.2.getD m .non) (vs.getD m .non)/\RelV (vs.getD m .non) (its.getD m Value.none)/\q.2.getD m .non∈q.2:=λ{m} hm=>⟨by rw[hK]; exact rq.getD m hm,qde rv m,by
   rw[List.getD_eq_getElem?_getD,List.getElem?_eq_getElem hm]; exact List.getElem_mem hm⟩
  have key1: ∀{m:Nat},m<q.2.length->((q.2.map (qey i j)).map (qcU qcA (q.2.map (qey i j)))).getD m 0=qcU qcA (q.2.map (qey i j)) (qey i j (q.2.getD m .non)):=λ{m} hm=>by
   rw[List.getD_eq_getElem?_getD,List.getElem?_map,List.getElem?_map,List.getElem?_eq_getElem hm,List.getD_eq_getElem?_getD,List.getElem?_eq_getElem hm]
   rfl
  have kxy: ∃x y,q.2=[]\/(x=0\/x=1)/\∀t∈q.2,∃us a b,t= .tup us/\us[i]? =some a/\us[j]? =some b/\qdx i j t=[a,b]/\qcM a=true/\qcM b=true/\(qey i j t).map shK=[x,y]:=by
   by_cases z:q.2=[]
   ·exact ⟨0,0,.inl z⟩
   ·obtain ⟨x,y,h⟩:=qiS hcc.2 z
    exact ⟨x,y,.inr h⟩
  obtain ⟨x0,y0,hxy⟩:=kxy
  have ne_of_lt: ∀{m:Nat},m<q.2.length->(x0=0\/x0=1)/\∃us a b,q.2.getD m .non= .tup us/\us[i]? =some a/\us[j]? =some b/\qdx i j (q.2.getD m .non)=[a,b]/\qcM a=true/\qcM b=true/\(qey i j (q.2.getD m .non)).map shK=[x0,y0]:=λ{m} hm=>by
   rcases hxy with z | ⟨h1,h2⟩
   ·rw[z] at hm; cases hm
   ·exact ⟨h1,h2 _ (elem hm).2.2⟩
  refine St.sorted_g (κ:=tuples' true) (KV:=λh m v=>qe3 h (qey i j (q.2.getD m .non)) v) (kz:=(q.2.map (qey i j)).map (qcU qcA (q.2.map (qey i j)))) (q:=f) rfl pl.isList (by simp; lia) (by lia) (λm v hv s' kp' hg' ho'=> ?_) (λh h' m v st hv=> ?_) (λs' ks kp' hks h2 Q' E' hq'=> ?_) (λs' ks kp' hks m1 m2 hm1 hm2 C' hc'=> ?_) λD h' tk cc pp hD0 kp' ho hD=> ?_
  ·have hm:m<q.2.length:=by
    have:=(List.getElem?_eq_some_iff.mp hv).1
    lia
   obtain ⟨_,us,ka,kb,e1,e2,e3,e4,e5,e6,_⟩:=ne_of_lt hm
   obtain ⟨rp,rl,_⟩:=elem hm
   have ev':its.getD m Value.none=v:=by rw[List.getD_eq_getElem?_getD,hv]; rfl
   rw[ev'] at rl
   rw[e1] at rp
   obtain ⟨t,ws,et,sq,rs⟩:=qbq rp
   rw[et] at rl
   cases rl
   obtain ⟨its2,rv2,pl2,hz2⟩:=I2.tuple (le2.sqT sq)
   obtain ⟨va,fa1,fa2⟩:=rs.get e2
   obtain ⟨vb,fb1,fb2⟩:=rs.get e3
   obtain ⟨ua,ga1,ga2⟩:=rv2.get fa1
   obtain ⟨ub,gb1,gb2⟩:=rv2.get fb1
   have pl3:IsTup s'.heap t its2.toArray:=by
    obtain ⟨o,e,r⟩:=pl2
    exact ⟨o,kp' _ _ e,r⟩
   have zz:its2.length<=sizeLine:=by rw[<-rv2.length]; exact hz2
   refine qh5 (R:=λh v=>qe3 h (qey i j (q.2.getD m .non)) v) (kp' _ _ hfo) (hrec.keeps kp') (I2.nolimit.keeps kp') hr.in1.in1.depth hk hco hgen hx hcell (λv=>hbd _ _ _ v) λA' env s3 L kp3=> ?_
   have pl4:IsTup s3.heap t its2.toArray:=by
    obtain ⟨o,e,r⟩:=pl3
    exact ⟨o,kp3 _ _ e,r⟩
   refine qll (qfv L hdb pl4 ga1 zz λtk1=>qfv (s:={ s3 with toks:=tk1 }) L hdb pl4 gb1 zz λtk2=> ?_) rfl
   refine ⟨_,tk2,⟨_,[ua,ub],rfl,⟨_,Heap.get?_push_size _ rfl,rfl,_,rfl⟩,?_⟩,rfl,λb o e=>Heap.get?_push_of_some _ e⟩
   have ek:(qey i j (q.2.getD m .non)).map kyV=[va,vb]:=by
    unfold qey
    rw[e4]
    show [kyV (kyT ka),kyV (kyT kb)]=_
    rw[<-(qdV e5 fa2).1,<-(qdV e6 fb2).1]
   rw[ek]
   exact .cons ga2 (.cons gb2 .nil)
  ·obtain ⟨p,its3,e1,⟨o,e2,e3,e4⟩,e5⟩:=hv
   exact ⟨p,its3,e1,⟨o,st _ _ e2 (by rw[e3]; decide),e3,e4⟩,e5⟩
  ·have hz:0<q.2.length:=by lia
   refine qf8 ks (ne_of_lt hz).1 (by rw[hks.1]; exact h2) (r:=[y0]) (λv hv=> ?_) hq'
   obtain ⟨m,hm,rfl⟩:=List.mem_iff_getElem.mp hv
   have hm':m<q.2.length:=by have:=hks.1; lia
   exact ⟨_,hks.2 m _ (List.getElem?_eq_getElem hm),(ne_of_lt hm').2.choose_spec.choose_spec.choose_spec.2.2.2.2.2.2⟩
  ·have h1:m1<q.2.length:=by lia
   have h2:m2<q.2.length:=by lia
   have g1:=(ne_of_lt h1).2.choose_spec.choose_spec.choose_spec.2.2.2.2.2.2
   have g2:=(ne_of_lt h2).2.choose_spec.choose_spec.choose_spec.2.2.2.2.2.2
   rw[key1 h1,key1 h2,qdw qm1 (List.mem_map.mpr ⟨_,(elem h1).2.2,rfl⟩) (List.mem_map.mpr ⟨_,(elem h2).2.2,rfl⟩)] at hc'
   have l1:=hks.1
   have a1:=hks.2 m1 _ (List.getElem?_eq_getElem (by lia))
   have a2:=hks.2 m2 _ (List.getElem?_eq_getElem (by lia))
   rw[List.getD_eq_getElem?_getD,List.getD_eq_getElem?_getD,List.getElem?_eq_getElem (by lia:m1<ks.length),List.getElem?_eq_getElem (by lia:m2<ks.length)]
   exact qjy a1 a2 (g1.trans g2.symm) hc'
  ·have fD:H2 D=none:=I2.hok.fresh hD0
   have I3:Inv X pins σ (L2.upd H2 D (.lst (pp.toList.map λj=>vs.getD j .non))) { s2 with heap:=h',toks:=tk }:=by
    refine I2.laid kp' hD0 ⟨?_,_,cc,vals_pick rv pp.toList,hD⟩
    rw[List.length_map,Array.length_toList,ho.1.sz,sizeLine_eq]
    lia
   obtain ⟨ps2,hP2,_⟩:=id hT2
   have nD:H1 D=none:=by
    cases z:H1 D with
    | none=>rfl
    | some o=>
     by_cases zP:D=P
     ·rw[zP,hP2] at fD; cases fD
     ·rw[same D o z zP] at fD; cases fD
   have g2:qa2 H1 B1 H2 B1:=⟨⟨λb o eb ne=>same b o eb (λz=>by subst z; rw[hP] at eb; cases eb; exact ne ps rfl),λb nb=>by
     by_cases z:b=P
     ·subst z; rw[hP2]; intro w; cases w
     ·cases eb:H1 b with
      | none=>exact absurd eb nb
      | some o=>rw[same b o eb z]; intro w; cases w⟩,.refl _,le2,ev1.bt,λ_ _ _ _ _=>rfl⟩
   have m2:=hT' _ _ m1 same hT2
   obtain ⟨g,m',bp⟩:=qce (M:=M) (ws:=pp.toList.map λj=>vs.getD j .non) g2.bh ev1.bt m2 fD
   refine ⟨.ref D,_,I3,rfl,w1 D _ _ B1 ((g1.trans g2).trans g) m' (qbD g1.gx nD) bp qak ?_⟩
   have ep:=qdk ho
   have ee:qeN (qey i j) q.2=pp.toList.map λj=>q.2.getD j .non:=by
    unfold qeN
    rw[ep,srt_congr (k':=λm=>qcU qcA (q.2.map (qey i j)) (qey i j (q.2.getD m .non))),qfb (k:=λt=>qcU qcA (q.2.map (qey i j)) (qey i j t)) (f:=λj=>q.2.getD j .non) (λb=>rfl),show its.length=q.2.length by lia,Mir.map_range_getD]
    intro b hb
    have hb':b<q.2.length:=by have:=List.mem_range.mp hb; lia
    exact key1 hb'
   rw[ee]
   have go: ∀l:List Nat,(∀j∈l,j<q.2.length)->qaC M.K B1 (l.map λj=>q.2.getD j .non) (l.map λj=>vs.getD j .non):=λl=>by
    induction l with
    | nil=>exact λ_=>.nil
    | cons j l ih=>exact λhl=>.cons (rq.getD j (hl j List.mem_cons_self)) (ih λi hi=>hl i (List.mem_cons_of_mem _ hi))
   exact go _ λj hj=>by have:=(Mir.order_mem ho j).mp hj; lia
end
end PL
end
section
namespace PL
open PySem L2 SR SetL
theorem qkt:bootBuiltins "sum" =some (.builtin "sum"):=by decide+kernel
theorem qge (ns:List Int): ∀a:Int,PySem.W.Num.foldFrom PySem.W.Num.add (.int a) (ns.map PySem.W.WData.int)=some (.int (a+ns.sum)):=by
 induction ns with
 | nil=>intro a; simp[PySem.W.Num.foldFrom]
 | cons n ns ih=>
  intro a
  simp only[List.map_cons,PySem.W.Num.foldFrom,List.sum_cons]
  have e:PySem.W.Num.add (.int a) (.int n)=some (.int (a+n)):=rfl
  rw[e]
  show PySem.W.Num.foldFrom _ _ _=_
  rw[ih,Int.add_assoc]
theorem qfR (ns:List Int): ∀a:Int,PySem.W.Num.sumInts a (ns.map PySem.W.WData.int)=some (.int (a+ns.sum)):=by
 induction ns with
 | nil=>intro a; simp[PySem.W.Num.sumInts]
 | cons n ns ih=>
  intro a
  simp only[List.map_cons,PySem.W.Num.sumInts,List.sum_cons]
  rw[ih,qge,Int.add_assoc]
  split<;>rfl
section
variable {X:Cx}
open PySem.Spec PyProof.Rows in
theorem qks (hc:X.calm=true):qev X (.builtin "sum") (λxs H Q=> ∃(a:Addr) (ns:List Int),xs=[.ref a]/\SqL X.K H a (ns.map V.int)/\Q (.int ns.sum) H):=by
 intro pins s σ H xs us Q I r h
 obtain ⟨a,ns,rfl,hS,q⟩:=h
 obtain ⟨u,rfl,ru⟩:=qdP r
 cases ru
 obtain ⟨its,rv,pl,hz⟩:=I.list hS
 have hl:=rv.length
 rw[List.length_map] at hl
 have hlt:a<s.heap.objs.size:=Heap.lt_size pl.isList.choose_spec.1
 have hh:X.A.in1.handled=none:=I.ok.hd hc
 refine PySem.Flt.call_sum_walkF (xs:=ns.map PySem.W.WData.int) (qfR ns 0) (wpAny_pyIter_list pl.isList ?_)
 have W:=(Walks.list (prog:=X.prog) (w:=X.w) hh s.heap.objs.size a (Nat.ne_of_lt hlt) its.toArray).toS
 have en:its.toArray.size=(ns.map PySem.W.WData.int).length:=by rw[List.size_toArray,List.length_map]; lia
 rw[en] at W
 refine ⟨s.heap.objs.size,_,_,_,_,_,rfl,W,⟨⟨_,Heap.get?_push_size _ rfl,rfl,rfl⟩,pl.isList.at λo e=>Heap.get?_push_of_some _ e⟩,λb hb=> ?_,λi v hv=> ?_,λs' v hv mv=> ?_⟩
 ·have hb':b=s.heap.objs.size\/b=a:=by simpa using hb
  rcases hb' with rfl | rfl
  ·show s.heap.objs.size<(Heap.push _ _).objs.size
   rw[size_push']; exact Nat.lt_succ_self _
  ·show b<(Heap.push _ _).objs.size
   rw[size_push']; exact Nat.lt_succ_of_lt hlt
 ·have hv':its[i]? =some v:=by simpa using hv
  have hi:=(List.getElem?_eq_some_iff.mp hv').1
  have hi':i<ns.length:=by lia
  obtain ⟨u,e1,e2⟩:=rv.get (i:=i) (x:=V.int ns[i]) (by rw[List.getElem?_map,List.getElem?_eq_getElem hi']; rfl)
  rw[hv'] at e1; cases e1
  obtain ⟨tk,rfl⟩:=e2
  exact ⟨.int ns[i],by rw[List.getElem?_map,List.getElem?_eq_getElem hi']; rfl,.int _ _⟩
 ·rw[Int.zero_add] at hv
  cases hv with
  | int n t=>
   obtain ⟨m1,m2,m3,m4,m5⟩:=mv
   have es:s'={ s with heap:=s'.heap,toks:=s'.toks }:=by
    cases s'
    simp only at m2 m3 m4
    subst m2 m3 m4
    rfl
   rw[es]
   refine ⟨.int ns.sum,H,?_,⟨t,rfl⟩,q⟩
   refine I.kept (t':=s'.toks) λb o eo=>m1 b o ?_ (Heap.get?_push_of_some _ eo)
   intro z
   have:b=s.heap.objs.size:=by simpa using z
   exact Nat.ne_of_lt (Heap.lt_size eo) this
end
def qpI (q:Bool×List T):Rs T:=if q.1=true/\q.2.all qmf=true then .ok (.int (q.2.map qjP).sum) else .no
section
variable {M:Md} {X:Cx} {e a:Expr} {pos p1 p2 p3:Pos} {dq:Ro->Rs (Bool×List T)}
theorem qpr (h:PE X e (tCB (λxs H Q=> ∃(a:Addr) (ns:List Int),xs=[.ref a]/\SqL X.K H a (ns.map V.int)/\Q (.int ns.sum) H) (qc8 (tQ M dq) qhq))):DE M X e (dCQ qpI dq):=
 qh0 h (λH B p vs q c Q le bt m hq r ec k=>by
  unfold qpI at ec
  split at ec
  ·rename_i hcc
   cases ec
   unfold qgA at hq
   rw[if_pos hcc.1] at hq
   exact ⟨p,q.2.map qjP,rfl,SqL.of (by rw[<-qfY hcc.2 r]; exact hq),k _ H B (.refl le bt) m qbL⟩
  ·cases ec) (λq c z=>by unfold qpI at z; split at z<;>cases z)
end
end PL
end
section
namespace St
open PySem PySem.W PySem.Calls PyProof.Rows
section
variable {prog:Program} {w:World} {A:Around} {s:Shared} {h0:Heap} {l q I S:Addr} {vs:List Value} {kf:Nat->Int} {d:Value} {R:Result->Shared->Prop}
def BestAt (kf:Nat->Int) (n i:Nat):Prop:=i<n/\∀j,j<n->kf j<=kf i/\(j<i->kf j<kf i)
theorem qlh (hh:A.in1.handled=none) (hl:h0.IsList l vs.toArray) (hz:vs.length<=1000) (hI0:h0.get? I=none) (hS0:h0.get? S=none) (hIS:S≠I)
  (qex: ∀(i:Nat) (v:Value),vs[i]? =some v->∀s':Shared,Kp h0 s'.heap->wpAny (model prog w) A.in1 (call (.ref q) [v]) (λr s''=> ∃h' tk t,r= .int (kf i) t/\s''={ s' with heap:=h',toks:=tk }/\Kp s'.heap h') (λ_ _=>False) s')
  (fin: ∀h' tk v,Kp h0 h'->(vs=[]->v=d)->(vs≠[]->∃i,vs[i]? =some v/\BestAt kf vs.length i)->R (.ok (.ret v)) { s with heap:=h',toks:=tk }):
  ∀(r j:Nat) (h:Heap) (tk:Nat) (bs:Array Value) (c:Nat),vs.length - j=r->j<=vs.length->Kp h0 h->h.IsListIter I l j->h.get? S=some (seqObj "list" bs c)->(j=0->bs= #[])->(0<j->∃i vb tb,bs= #[vb,.int (kf i) tb]/\vs[i]? =some vb/\BestAt kf j i)->
   codeAny (model prog w) A (.builtin "max.loop" ⟨[.ref I,.ref q,.ref S],[("default",d)]⟩) R { s with heap:=h,toks:=tk }:=by
 have nlI:l≠I:=λz=>by
  obtain ⟨o,e,_⟩:=hl
  rw[z,hI0] at e; cases e
 have W:=Walks.list (prog:=prog) (w:=w) (A:=A.in1) hh I l nlI vs.toArray
 have lat: ∀h:Heap,Kp h0 h->h.IsList l vs.toArray:=λh k=>hl.at λo e=>k _ _ e
 intro r
 induction r with
 | zero=>
  intro j h tk bs c hr hj kp hI hS h1 h2
  have hj':j=vs.toArray.size:=by rw[List.size_toArray]; lia
  refine codeAny_builtin PySem.F.entry_max_loop ?_
  rw[Around.under_plainId PySem.F.plain_max_loop _]
  unfold Builtin.«max.loop»
  change wpAny (model prog w) A.in1 (do
   let __do_lift <-seqItems? (Value.ref S)
   _) _ _ _
  refine wpAny_bind (wpAny_seqItems hS rfl ?_)
  dsimp only
  refine wpAny_bind (wpAny_tryCatch (W.done _ _ _ (by rw[<-hj']; exact ⟨hI,lat h kp⟩) λh' tk' k2=> ?_))
  have nS:S∉[I]:=by simpa using hIS
  have hS':=k2 S _ nS hS
  have kp':Kp h0 h':=λb o e=>k2 b o (λz=>by rw[List.mem_singleton.mp z,hI0] at e; cases e) (kp b o e)
  by_cases c0:vs=[]
  ·have j0:j=0:=by rw[c0] at hj; simpa using hj
   have b0:=h1 j0
   subst b0
   show wpAny _ _ (do rule _; ret d) _ _ _
   refine wpAny_bind (wpAny_rule (wpAny_pure ?_))
   exact fin h' tk' d kp' (λ_=>rfl) λz=>absurd c0 z
  ·have j1:0<j:=by
    have:=List.length_pos_iff.mpr c0
    lia
   obtain ⟨i,vb,tb,e1,e2,e3⟩:=h2 j1
   subst e1
   show wpAny _ _ (do updateSeq S λ_=> #[]; letGo [Value.int (kf i) tb] [vb]; ret vb) _ _ _
   refine wpAny_bind (wpAny_updateSeq hS' rfl ?_ (by show 2<=_; rw[sizeLine_eq]; decide) (Nat.zero_le _))
   refine wpAny_bind (wpAny_letGo (wpAny_pure ?_))
   refine fin _ tk' vb (λb o e=> ?_) (λz=>absurd z c0) λ_=>⟨i,e2,by rw[show vs.length=j by lia]; exact e3⟩
   rw[Heap.get?_update_other _ _ (λz=>by rw[<-z,hS0] at e; cases e)]
   exact kp' b o e
 | succ r ih=>
  intro j h tk bs c hr hj kp hI hS h1 h2
  have hlt:j<vs.length:=by lia
  have hj':j<vs.toArray.size:=by rw[List.size_toArray]; exact hlt
  refine codeAny_builtin PySem.F.entry_max_loop ?_
  rw[Around.under_plainId PySem.F.plain_max_loop _]
  unfold Builtin.«max.loop»
  change wpAny (model prog w) A.in1 (do
   let __do_lift <-seqItems? (Value.ref S)
   _) _ _ _
  refine wpAny_bind (wpAny_seqItems hS rfl ?_)
  dsimp only
  refine wpAny_bind (wpAny_tryCatch (W.item j _ _ _ hj' ⟨hI,lat h kp⟩ λv h' tk' hv st k2=> ?_))
  have nS:S∉[I]:=by simpa using hIS
  have hS':=k2 S _ nS hS
  have kp':Kp h0 h':=λb o e=>k2 b o (λz=>by rw[List.mem_singleton.mp z,hI0] at e; cases e) (kp b o e)
  have hv':vs[j]? =some v:=by simpa using hv
  dsimp only
  refine wpAny_bind (wpAny_tryCatch (wpAny_holding (wpAny_mono (qex j v hv' { s with heap:=h',toks:=tk' } kp') (λval s2 hs2=> ?_) λ_ _ hF=>hF.elim)))
  obtain ⟨h3,tk3,t3,rfl,rfl,k3⟩:=hs2
  have kp3:Kp h0 h3:=λb o e=>k3 b o (kp' b o e)
  have hS3:=k3 _ _ hS'
  have hI3:h3.IsListIter I l (j+1):=by
   obtain ⟨o,e,x⟩:=st.1
   exact ⟨o,k3 _ _ e,x⟩
  have go: ∀(bs':Array Value) (c':Nat) (h4:Heap) (tk4:Nat),Kp h0 h4->h4.IsListIter I l (j+1)->h4.get? S=some (seqObj "list" bs' c')->(∃i vb tb,bs'= #[vb,.int (kf i) tb]/\vs[i]? =some vb/\BestAt kf (j+1) i)->
    codeAny (model prog w) A (.builtin "max.loop" ⟨[.ref I,.ref q,.ref S],[("default",d)]⟩) R { s with heap:=h4,toks:=tk4 }:=λbs' c' h4 tk4 a1 a2 a3 a4=>
   ih (j+1) h4 tk4 bs' c' (by lia) hlt a1 a2 a3 (λz=>by lia) λ_=>a4
  have upd: ∀bs0 c0,h3.get? S=some (seqObj "list" bs0 c0)->Kp h0 (h3.update S (Obj.mapSeq λ_=> #[v,Value.int (kf j) t3]))/\(h3.update S (Obj.mapSeq λ_=> #[v,Value.int (kf j) t3])).IsListIter I l (j+1)/\∃c1,(h3.update S (Obj.mapSeq λ_=> #[v,Value.int (kf j) t3])).get? S=some (seqObj "list" #[v,Value.int (kf j) t3] c1):=λbs0 c0 e0=>by
   refine ⟨λb o e=> ?_,?_,⟨_,get?_update_seq e0 λ_=> #[v,Value.int (kf j) t3]⟩⟩
   ·rw[Heap.get?_update_other _ _ (λz=>by rw[<-z,hS0] at e; cases e)]
    exact kp3 b o e
   ·obtain ⟨o,e,x⟩:=hI3
    exact ⟨o,by rw[Heap.get?_update_other _ _ hIS]; exact e,x⟩
  have ss: ∀bs0:Array Value,(bs0= #[]\/∃a b,bs0= #[a,b])->bs0.size<=sizeLine:=λbs0 hb=>by
   rcases hb with rfl | ⟨a,b,rfl⟩
   ·exact Nat.zero_le _
   ·show 2<=_; rw[sizeLine_eq]; decide
  by_cases j0:j=0
  ·have b0:=h1 j0
   subst b0
   show wpAny _ _ (do updateSeq S λ_=> #[v,Value.int (kf j) t3]; again _) _ _ _
   obtain ⟨u1,u2,c1,u3⟩:=upd _ _ hS3
   refine wpAny_bind (wpAny_updateSeq hS3 rfl ?_ (Nat.zero_le _) (by show 2<=_; rw[sizeLine_eq]; decide))
   refine wpAny_pure ⟨plainId_quiet PySem.F.plain_max_loop _,go _ _ _ _ u1 u2 u3 ⟨j,v,t3,rfl,hv',by lia,λj' hj'=> ?_⟩⟩
   have:j'=j:=by lia
   subst this
   exact ⟨Int.le_refl _,λz=>absurd z (Nat.lt_irrefl _)⟩
  ·obtain ⟨i,vb,tb,e1,e2,e3⟩:=h2 (by lia)
   subst e1
   show wpAny _ _ (do
    let better <-tryCatch (holding [v,Value.int (kf j) t3] do
     let answer <-compareOp CmpOp.Gt (Value.int (kf j) t3) (Value.int (kf i) tb)
     let yes <-holding [answer] (truthy answer)
     letGo [answer]
     pure yes) _
    if better=true then do
      updateSeq S λx=> #[v,Value.int (kf j) t3]
      letGo _ _
      again _
     else do
      letGo _ _
      again _) _ _ _
   refine wpAny_bind (wpAny_tryCatch (wpAny_holding (wpAny_bind (gt_int (wpAny_bind (wpAny_holding (wpAny_truthy_bool (wpAny_bind (wpAny_letGo (wpAny_pure ?_))))))))))
   by_cases cg:kf i<kf j
   ·rw[decide_eq_true cg,if_pos rfl]
    obtain ⟨u1,u2,c1,u3⟩:=upd _ _ hS3
    refine wpAny_bind (wpAny_updateSeq hS3 rfl ?_ (by show 2<=_; rw[sizeLine_eq]; decide) (by show 2<=_; rw[sizeLine_eq]; decide))
    refine wpAny_bind (wpAny_letGo ?_)
    refine wpAny_pure ⟨plainId_quiet PySem.F.plain_max_loop _,go _ _ _ _ u1 u2 u3 ⟨j,v,t3,rfl,hv',by lia,λj' hj'=> ?_⟩⟩
    by_cases z:j'=j
    ·subst z; exact ⟨Int.le_refl _,λz=>absurd z (Nat.lt_irrefl _)⟩
    ·have:=(e3.2 j' (by lia)).1
     exact ⟨by lia,λ_=>by lia⟩
   ·rw[decide_eq_false cg,if_neg (by decide)]
    refine wpAny_bind (wpAny_letGo ?_)
    refine wpAny_pure ⟨plainId_quiet PySem.F.plain_max_loop _,go _ _ _ _ kp3 hI3 hS3 ⟨i,vb,tb,rfl,e2,by have:=e3.1; lia,λj' hj'=> ?_⟩⟩
    by_cases z:j'=j
    ·subst z; exact ⟨by lia,λq=>by have:=e3.1; lia⟩
    ·exact e3.2 j' (by lia)
end
end St
end
section
namespace St
open PySem PySem.W PySem.Calls PyProof.Rows
theorem qlJ (a v u:Value):argsOk "max" { pos:=[a],kw:=[(Str.ofString "key",v),(Str.ofString "default",u)] }:=by
 unfold argsOk; kernel_rfl
theorem qlH (v u:Value):Builtin.Builtins.bindParams "max" ["key", "default"] 0 { pos:=[],kw:=[(Str.ofString "key",v),(Str.ofString "default",u)] }=pure [some v,some u]:=rfl
theorem qkq (a v u:Value):checkBuiltinCall "max" { pos:=[a],kw:=[(Str.ofString "key",v),(Str.ofString "default",u)] }=pure ():=by
 unfold checkBuiltinCall
 rw[PySem.F.kind_max]
 exact qlJ a v u
section
variable {prog:Program} {w:World} {A:Around} {E:Value->Shared->Prop} {s:Shared} {l q:Addr} {vs:List Value} {kf:Nat->Int} {d:Value} {Q:Value->Shared->Prop}
theorem max_s (hh:A.in1.handled=none) (hl:s.heap.IsList l vs.toArray) (hz:vs.length<=1000)
  (qex: ∀(i:Nat) (v:Value),vs[i]? =some v->∀s':Shared,Kp s.heap s'.heap->wpAny (model prog w) A.in1 (call (.ref q) [v]) (λr s''=> ∃h' tk t,r= .int (kf i) t/\s''={ s' with heap:=h',toks:=tk }/\Kp s'.heap h') (λ_ _=>False) s')
  (fin: ∀h' tk v,Kp s.heap h'->(vs=[]->v=d)->(vs≠[]->∃i,vs[i]? =some v/\BestAt kf vs.length i)->Q v { s with heap:=h',toks:=tk }):
  wpAny (model prog w) A (call (.builtin "max") [.ref l] [(Str.ofString "key",.ref q),(Str.ofString "default",d)]) Q E s:=by
 refine wpAny_call (codeAny_call_builtin PySem.F.plain_max PySem.F.entry_max ?_)
 rw[qkq]
 refine wpAny_pure ?_
 unfold Builtin.max
 change wpAny (model prog w) A.in1 (do
  let x <-Builtin.Builtins.bindParams "max" ["key", "default"] 0 { pos:=[],kw:=[(Str.ofString "key",Value.ref q),(Str.ofString "default",d)] }
  _) _ _ _
 rw[qlH]
 refine wpAny_bind (wpAny_pure ?_)
 show wpAny _ _ (do
  let items <-pure (Value.ref l)
  let it <-pyIter items
  let L <-newList []
  again (Code.builtin "max.loop" { pos:=[it,Value.ref q,L],kw:=[(Str.ofString "default",d)] })) _ _ _
 refine wpAny_bind (wpAny_pure ?_)
 refine wpAny_bind (wpAny_pyIter_list hl ?_)
 refine wpAny_bind (wpAny_newList ?_ (Nat.zero_le _))
 have kp1:Kp s.heap (s.heap.push { cls:=.type "list_iterator",data:=.fields #[.ref l,.int ((0:Nat):Int) 0] }):=λb o e=>Heap.get?_push_of_some _ e
 have sz:=size_push' s.heap { cls:=.type "list_iterator",data:=.fields #[.ref l,.int ((0:Nat):Int) 0] }
 refine wpAny_pure ⟨plainId_quiet PySem.F.plain_max_loop _,?_⟩
 refine qlh (h0:=s.heap) (kf:=kf) (vs:=vs) hh hl hz (get_none (Nat.le_refl _)) (get_none ?_) ?_ qex (λh' tk v a b c=>fin h' tk v a b c) (vs.length) 0 _ _ #[] 0 (by lia) (Nat.zero_le _) ?_ ?_ ?_ (λ_=>rfl) (λz=>absurd z (Nat.lt_irrefl _))
 ·show s.heap.objs.size<=(Heap.push _ _).objs.size
  rw[size_push']; exact Nat.le_succ _
 ·show (Heap.push _ _).objs.size≠_
  rw[size_push']; exact Nat.succ_ne_self _
 ·exact λb o e=>Heap.get?_push_of_some _ (Heap.get?_push_of_some _ e)
 ·exact ⟨_,Heap.get?_push_of_some _ (Heap.get?_push_size _ rfl),rfl,rfl⟩
 ·exact Heap.get?_push_size _ rfl
end
end St
end
section
namespace PL
open PySem L2 SR SetL
def qly (i j:Nat):T->Option (Int×Int)
 | .tup us=>(match us[i]?,us[j]? with | some (.int a),some (.int b)=>some (a,b) | _,_=>none)
 | _=>none
def qeY (i j:Nat) (t:T):Int:=match qly i j t with | some (a,b)=>a - b | none=>0
def qfJ (k:T->Int):T->List T->T
 | b,[]=>b
 | b,x::xs=>qfJ k (if k b<k x then x else b) xs
def qpA (k:T->Int):List T->T
 | []=>.non
 | t::ts=>qfJ k t ts
def qoR (i j:Nat) (q:Bool×List T):Rs T:=if (q.1=true/\q.2.length<=1000)/\q.2.all (λt=>(qly i j t).isSome)=true then .ok (qpA (qeY i j) q.2) else .no
theorem qj9 {i j:Nat} {t:T} (h:(qly i j t).isSome=true): ∃us a b,t= .tup us/\us[i]? =some (.int a)/\us[j]? =some (.int b)/\qeY i j t=a - b:=by
 cases t with
 | tup us=>
  have h':(match us[i]?,us[j]? with | some (T.int a),some (T.int b)=>some (a,b) | _,_=>none).isSome=true:=h
  split at h'
  ·rename_i a b e1 e2
   refine ⟨us,a,b,rfl,e1,e2,?_⟩
   unfold qeY qly
   simp only[e1,e2]
  ·cases h'
 | _=>cases (show false=true from h)
theorem qkx (k:T->Int) (ts:List T): ∀(pre:List T) (b:T) (m:Nat),St.BestAt (λi=>k (pre.getD i .non)) pre.length m->pre.getD m .non=b->∃m',St.BestAt (λi=>k ((pre++ts).getD i .non)) (pre++ts).length m'/\(pre++ts).getD m' .non=qfJ k b ts:=by
 induction ts with
 | nil=>intro pre b m h e; rw[List.append_nil]; exact ⟨m,h,e⟩
 | cons x xs ih=>
  intro pre b m h e
  have e1:pre++x::xs=(pre++[x])++xs:=by simp
  rw[e1]
  have old: ∀i,i<pre.length->(pre++[x]).getD i .non=pre.getD i .non:=λi hi=>by
   rw[List.getD_eq_getElem?_getD,List.getD_eq_getElem?_getD,List.getElem?_append_left hi]
  have new:(pre++[x]).getD pre.length .non=x:=by
   rw[List.getD_eq_getElem?_getD,List.getElem?_append_right (Nat.le_refl _)]; simp
  by_cases c:k b<k x
  ·refine ih (pre++[x]) _ pre.length ⟨by simp,λj hj=> ?_⟩ (by rw[new,if_pos c])
   show k _<=k _/\(_->k _<k _)
   rw[new]
   by_cases z:j=pre.length
   ·subst z; rw[new]; exact ⟨Int.le_refl _,λq=>absurd q (Nat.lt_irrefl _)⟩
   ·have hj':j<pre.length:=by rw[List.length_append] at hj; simp at hj; lia
    rw[old j hj']
    have:k (pre.getD j .non)<=k (pre.getD m .non):=(h.2 j hj').1
    rw[e] at this
    exact ⟨by lia,λ_=>by lia⟩
  ·refine ih (pre++[x]) _ m ⟨by have:=h.1; simp; lia,λj hj=> ?_⟩ (by rw[old m h.1,e,if_neg c])
   show k _<=k _/\(_->k _<k _)
   rw[old m h.1]
   by_cases z:j=pre.length
   ·subst z; rw[new,e]; exact ⟨by lia,λq=>by have:=h.1; lia⟩
   ·have hj':j<pre.length:=by rw[List.length_append] at hj; simp at hj; lia
    rw[old j hj']
    exact h.2 j hj'
theorem qlI {kf:Nat->Int} {n a b:Nat} (h1:St.BestAt kf n a) (h2:St.BestAt kf n b):a=b:=by
 rcases Nat.lt_trichotomy a b with h | h | h
 ·have x:=(h2.2 a h1.1).2 h
  have y:=(h1.2 b h2.1).1
  lia
 ·exact h
 ·have x:=(h1.2 b h2.1).2 h
  have y:=(h2.2 a h1.1).1
  lia
theorem qnH {k:T->Int} {ts:List T} {m:Nat} (h:St.BestAt (λi=>k (ts.getD i .non)) ts.length m):qpA k ts=ts.getD m .non:=by
 cases ts with
 | nil=>exact absurd h.1 (Nat.not_lt_zero _)
 | cons t ts=>
  obtain ⟨m',b1,b2⟩:=qkx k ts [t] t 0 ⟨by simp,λj hj=>by
   have:j=0:=by simpa using hj
   subst this; exact ⟨Int.le_refl _,λq=>absurd q (Nat.lt_irrefl _)⟩⟩ rfl
  have e:=qlI h b1
  subst e
  exact b2.symm
section
variable {M:Md} {X:Cx} {e:Expr} {dq:Ro->Rs (Bool×List T)} {x:Str} {P c:Addr} {params:Arguments} {scope:Scope} {p1 p2 p3 p4 p5 p6 bp dp lpos kpos kpos2 p pos:Pos} {i j j1 j2 j3:Nat} {qual:Str}
open PySem.Spec PyProof.Rows in
theorem qnz (he:DQ M X e dq) (hg:Gl X "max") (hm:X.mg "max" =none) (hv:bootBuiltins "max" =some (.builtin "max")) (hcalm:X.calm=true)
  (hcode:X.env.code= .ref c) (C:PySem.W.CodeHd X.base c P) (hb: ∃bm ob,X.mg "__builtins__" =some (.ref bm)/\bm≠builtinsNs/\X.base.get? bm=some ob/\ob.cls= .type "module" /\ob.dict=some builtinsNs/\ob.data= .plain)
  (hfree: ∀x∈scope.names,x.2≠.free) (hd:defaultsOf params X.env=([],[])) (hq:X.env.qual++("<lambda>" :Str)=qual)
  (hk:scope.kind= .function) (hco:scope.isCoroutine=false) (hgen:scope.isGenerator=false) (hx:scope.names.lookup x=some .local) (hcell: ∀y∈scope.names,y.2≠.cell) (hdb:(x==("__debug__" :Str))=false)
  (hbd: ∀(pm cv ctv v:Value),bindArgs (PySem.W.kla_fn "<lambda>" qual params (.BinOp (.Subscript (.Name x p1) (.Constant (.int (i:Int)) j1 p2) p3) .Sub (.Subscript (.Name x p4) (.Constant (.int (j:Int)) j2 p5) p6) bp) scope [] pm cv ctv) ⟨[v],[]⟩=pure [(x,v)]) (hr:qcu 4 X.A)
  (hT: ∀H,M.G.P H->Tab P lpos qual H) (hT': ∀H H2,M.G.P H->qdT P H H2->Tab P lpos qual H2->M.G.P H2) (hK:X.K=M.K:=by rfl)
  (hs0:starEach [e] X.env=(false,eval e X.env)::starEach [] X.env:=by rfl) (hs1:backTo pos (starEach [e] X.env)=(false,eval e X.env)::backTo pos (starEach [] X.env):=by rfl) (hs2:(backTo pos (starEach [e] X.env)).any (·.1)=false:=by rfl):
  DE M X (.Call (.Name "max" p) [e] [⟨some "key",.Lambda params (.BinOp (.Subscript (.Name x p1) (.Constant (.int (i:Int)) j1 p2) p3) .Sub (.Subscript (.Name x p4) (.Constant (.int (j:Int)) j2 p5) p6) bp) scope lpos,kpos⟩,⟨some "default",.Constant .none j3 dp,kpos2⟩] pos) (dCQ (qoR i j) dq):=by
 intro pins s σ H Q I ⟨H0,B0,ρ,B,ev,w⟩
 refine wpAny_Call_Name_kw (qcK I hg hm hv ?_)
 refine PyProof.Rows.callWith_kw ?_ hs1 hs2 rfl rfl
 have hpa:PA X [e] (λσ H Q=>tQ M dq σ H λx H1=>Q [x] H1):=λpos pins s σ H Q I h=>(qag he qar hs0) pos pins s σ H Q I h
 have hR:tQ M dq σ H λx H1=> ∃a vs q B1,x= .ref a/\qa2 H B H1 B1/\M.G.P H1/\(if q.1=true then H1 a=some (.lst vs) else SqT M.K B1 a vs)/\qaC M.K B1 q.2 vs/\
   Wnt M H0 (λa=> ∀v H' B',qa2 H B H' B'->M.G.P H'->Rep M.K B' a v->Q v H') (qoR i j q):=
  tQ.of ev (Wnt.mono (Wnt.bind (qaM.mp w)) λq w1 p vs H1 B1 g1 m1 hq r1=>⟨p,vs,q,B1,rfl,g1,m1,hq,r1,w1⟩)
 refine thn (hpa pos pins s σ H (λvs H1=>match vs with
  | [x]=> ∃a vs q B1,x= .ref a/\qa2 H B H1 B1/\M.G.P H1/\(if q.1=true then H1 a=some (.lst vs) else SqT M.K B1 a vs)/\qaC M.K B1 q.2 vs/\
   Wnt M H0 (λa=> ∀v H' B',qa2 H B H' B'->M.G.P H'->Rep M.K B' a v->Q v H') (qoR i j q)
  | _=>False) I hR) λus s1 ⟨vs,H1,I1,r1,q1⟩=> ?_
 match vs,r1,q1 with
 | [_],r1,q1=>
  obtain ⟨a,vs,q,B1,rfl,g1,m1,hql,rq,w1⟩:=q1
  obtain ⟨u,rfl,ru⟩:=qdP r1
  cases ru
  have ev1:=ev.grow g1 m1
  unfold qoR at w1
  split at w1
  case isFalse=>exact w1.elim
  rename_i hcc
  rw[if_pos hcc.1.1] at hql
  have hS:SqL X.K H1 a vs:=SqL.of hql
  have hT1:=hT _ m1
  show wpAny _ _ (evalAll [(do let v <-eval (.Lambda params (.BinOp (.Subscript (.Name x p1) (.Constant (.int (i:Int)) j1 p2) p3) .Sub (.Subscript (.Name x p4) (.Constant (.int (j:Int)) j2 p5) p6) bp) scope lpos) X.env; standAt pos; pure v),(do let v <-eval (.Constant .none j3 dp) X.env; standAt pos; pure v)]) _ _ s1
  obtain ⟨ps,hP,_⟩:=id hT1
  refine wpAny_evalAll_cons (wpAny_bind (qhL I1 hcode C hb hfree hd hq hT1 λf c' ctv H2 s2 I2 hT2 same _ kp hf0 hfn hfo hrec=>wpAny_bind (wpAny_standAt (wpAny_pure (wpAny_evalAll_cons (wpAny_bind (wpAny_Constant_none (wpAny_bind (wpAny_standAt (wpAny_pure (wpAny_evalAll_nil ?_)))))))))))
  show wpAny _ _ (call (.builtin "max") [.ref a] [(Str.ofString "key",.ref f),(Str.ofString "default",Value.none)]) _ _ s2
  have hS2:=same.seqL hP hS
  obtain ⟨its,rv,pl,hz⟩:=I2.list hS2
  have hlen:=rv.length
  have l2:=rq.length
  have notP: ∀b o,B1 b=some o->b≠P:=λb o eb z=>by
   subst z
   have:=ev1.bh _ _ eb
   rw[hP] at this; cases this
   exact ev1.bt _ _ eb
  have le2:Le B1 H2:=λb o eb=>same b o (ev1.bh _ _ eb) (notP b o eb)
  have elem: ∀{m:Nat},m<q.2.length->Rep X.K B1 (q.2.getD m .non) (vs.getD m .non)/\RelV (vs.getD m .non) (its.getD m Value.none)/\q.2.getD m .non∈q.2:=λ{m} hm=>⟨by rw[hK]; exact rq.getD m hm,qde rv m,by
   rw[List.getD_eq_getElem?_getD,List.getElem?_eq_getElem hm]; exact List.getElem_mem hm⟩
  have hh:X.A.in1.handled=none:=I2.ok.hd hcalm
  refine St.max_s (kf:=λm=>qeY i j (q.2.getD m .non)) hh pl.isList (by lia) (λm v hv s' kp'=> ?_) λh' tk v kp' e0 e1=> ?_
  ·have hm:m<q.2.length:=by
    have:=(List.getElem?_eq_some_iff.mp hv).1
    lia
   obtain ⟨rp,rl,hmem⟩:=elem hm
   obtain ⟨us,ka,kb,e1,e2,e3,e4⟩:=qj9 (List.all_eq_true.mp hcc.2 _ hmem)
   have ev':its.getD m Value.none=v:=by rw[List.getD_eq_getElem?_getD,hv]; rfl
   rw[ev'] at rl
   rw[e1] at rp
   obtain ⟨t,ws,et,sq,rs⟩:=qbq rp
   rw[et] at rl
   cases rl
   obtain ⟨its2,rv2,pl2,hz2⟩:=I2.tuple (le2.sqT sq)
   obtain ⟨va,fa1,fa2⟩:=rs.get e2
   obtain ⟨vb,fb1,fb2⟩:=rs.get e3
   obtain ⟨ua,ga1,ga2⟩:=rv2.get fa1
   obtain ⟨ub,gb1,gb2⟩:=rv2.get fb1
   have pl3:IsTup s'.heap t its2.toArray:=by
    obtain ⟨o,e,r⟩:=pl2
    exact ⟨o,kp' _ _ e,r⟩
   have zz:its2.length<=sizeLine:=by rw[<-rv2.length]; exact hz2
   unfold Rep at fa2 fb2
   subst fa2 fb2
   obtain ⟨ta,rfl⟩:=ga2
   obtain ⟨tb,rfl⟩:=gb2
   refine wpAny_mono (qh5 (R:=λh v=> ∃t,v=Value.int (qeY i j (q.2.getD m .non)) t) (kp' _ _ hfo) (hrec.keeps kp') (I2.nolimit.keeps kp') hr.in1.in1.depth hk hco hgen hx hcell (λv=>hbd _ _ _ v) λA' env s3 L kp3=> ?_) (λr s'' ⟨h',tk',⟨t,hr1⟩,hs,hk'⟩=>⟨h',tk',t,hr1,hs,hk'⟩) λ_ _ hF=>hF
   have pl4:IsTup s3.heap t its2.toArray:=by
    obtain ⟨o,e,r⟩:=pl3
    exact ⟨o,kp3 _ _ e,r⟩
   refine wpAny_BinOp (qfv L hdb pl4 ga1 zz λtk1=>qfv (s:={ s3 with toks:=tk1 }) L hdb pl4 gb1 zz λtk2=>sub_int ?_)
   rw[e4]
   exact ⟨_,_,⟨_,rfl⟩,rfl,λb o e=>e⟩
  ·have g2:qa2 H1 B1 H2 B1:=by
    obtain ⟨ps2,hP2,_⟩:=id hT2
    exact ⟨⟨λb o eb ne=>same b o eb (λz=>by subst z; rw[hP] at eb; cases eb; exact ne ps rfl),λb nb=>by
     by_cases z:b=P
     ·subst z; rw[hP2]; intro w; cases w
     ·cases eb:H1 b with
      | none=>exact absurd eb nb
      | some o=>rw[same b o eb z]; intro w; cases w⟩,.refl _,le2,ev1.bt,λ_ _ _ _ _=>rfl⟩
   have m2:=hT' _ _ m1 same hT2
   have I3:Inv X pins σ H2 { s2 with heap:=h',toks:=tk }:=I2.kept (t':=tk) λb o eo=>kp' b o eo
   by_cases z:q.2=[]
   ·have q0:q.2.length=0:=by rw[z]; rfl
    have iz:its=[]:=List.eq_nil_of_length_eq_zero (by lia)
    rw[e0 iz]
    refine ⟨.non,H2,I3,rfl,w1 .non _ B1 (g1.trans g2) m2 ?_⟩
    rw[z]
    show Rep _ _ T.non _
    unfold Rep
    rfl
   ·have iz:its≠[]:=λy=>by
     rw[y] at hlen
     have hlen:vs.length=0:=hlen
     exact z (List.eq_nil_of_length_eq_zero (by lia))
    obtain ⟨m,f1,f2⟩:=e1 iz
    have hm:m<q.2.length:=by have:=f2.1; lia
    have f3:St.BestAt (λm=>qeY i j (q.2.getD m .non)) q.2.length m:=by
     rw[show q.2.length=its.length by lia]; exact f2
    rw[qnH f3] at w1
    obtain ⟨rp,rl,hmem⟩:=elem hm
    have ev':its.getD m Value.none=v:=by rw[List.getD_eq_getElem?_getD,f1]; rfl
    rw[ev'] at rl
    exact ⟨vs.getD m .non,H2,I3,rl,w1 _ _ B1 (g1.trans g2) m2 (by rw[<-hK]; exact rp)⟩
end
end PL
end
section
namespace L2
open PySem PySem.Spec PyProof.Rows
def qh7 (Ts:List Addr) (H:Hp):Prop:=(∀T∈Ts,H T=some (.tbl #[]))/\∀b,b∉Ts->H b=none\/∃o xs,H b=some (.frz o (.lst xs))
theorem qip {P:Program} {w:World} {K:PySem.W.Frag} {mg mb:Str->Option Value} {CX:CXT} {k:Nat} {fa a:Addr} {cts:List (Addr×Addr)} {fd:FuncData} {x:Str} {sp:Sp} {s₁:Shared} {vs:List Value} {ns:List Int}
  (KX:K.In s₁.heap) (hns:s₁.heap.Ns mainGlobals mg) (hb:s₁.heap.Ns builtinsNs mb) (hbb: ∀x:Str,x≠ "__name__" ->mb x=bootBuiltins x) (hlim:s₁.heap.NoLimit) (hg:s₁.gens= #[])
  (ha:s₁.heap.get? a=some { cls:=.type "list",data:=.seq vs.toArray }) (hi:IntsAre vs ns) (hl:ns.length<=sizeLine) (hr:qcu k callerA)
  (hC: ∀p∈cts,PySem.W.CodeHd s₁.heap p.1 p.2) (hT: ∀T∈cts.map (·.2),s₁.heap.get? T=some (PySem.W.tabObj #[])) (hKT: ∀T∈cts.map (·.2),K.lookup T=none) (hbm:qew mg s₁.heap)
  (F: ∀base:Heap,K.In base->base.Ns mainGlobals mg->(∀p∈cts,PySem.W.CodeHd base p.1 p.2)->qew mg base->qbI P w K mg base CX k fa fd [x] sp) (hbind: ∀(s:Shared) (u:Value),BindsTo s fd ⟨[u],[]⟩ [(x,u)])
  (hsp: ∀H:Hp,qh7 (cts.map (·.2)) H->SqL K H a (ns.map V.int)->sp [.ref a] H (λv _=>v= .bl true) λ_ _ _=>False)
  (hCX: ∀H e s',CX [] H s₁ (λ_ _ _=>False) e s'->False):
  codeAny (model P w) callerA (.call (.ref fa) ⟨[.ref a],[]⟩) (λr s'=>r= .ok (.ret (.bool true))/\OldK s₁.heap s'.heap/\s'.os=s₁.os/\AllBare s'.gens) s₁:=by
 have rv:=qfO hi
 have lenV:=hi.length
 have core: ∀H:Hp,qh7 (cts.map (·.2)) H->SqL K H a (ns.map V.int)->HOk P w H s₁.heap->(∀b,H b≠none->b=a\/b∈cts.map (·.2))->(H a≠none->K.lookup a=none)->
   codeAny (model P w) callerA (.call (.ref fa) ⟨[.ref a],[]⟩) (λr s'=>r= .ok (.ret (.bool true))/\OldK s₁.heap s'.heap/\s'.os=s₁.os/\AllBare s'.gens) s₁:=by
  intro H hO hS hok hA hK
  have base_of: ∀{b:Addr} {o:Obj},s₁.heap.get? b=some o->H b=none->(qjT s₁.heap H).get? b=some o:=λe n=>qlo e n
  have other: ∀{b:Addr} {o:Obj},s₁.heap.get? b=some o->(∀xs n,o.data≠.seq xs n)->(o.cls≠.none)->H b=none:=λ{b o} e d d2=>by
   cases q:H b with
   | none=>rfl
   | some u=>
    rcases hA b (by rw[q]; simp) with z | z
    ·subst z
     rw[ha] at e; cases e
     exact absurd rfl (d _ _)
    ·rw[hT b z] at e; cases e
     exact absurd rfl d2
  have noA: ∀{b:Addr} {o:Obj} {es:Array DictEntry} {ep:Nat},s₁.heap.get? b=some o->o.data= .dict es ep->H b=none:=λ{b o es ep} e d=>by
   cases q:H b with
   | none=>rfl
   | some u=>
    rcases hA b (by rw[q]; simp) with z | z
    ·subst z
     rw[ha] at e; cases e
     have d':Data.seq vs.toArray _=Data.dict es ep:=d
     cases d'
    ·rw[hT b z] at e; cases e
     have d':Data.fields _=Data.dict es ep:=d
     cases d'
  have nsK: ∀{b:Addr} {m:Str->Option Value},s₁.heap.Ns b m->(qjT s₁.heap H).Ns b m:=λ{b m} ⟨o,es,ep,e,d,r⟩=>⟨o,es,ep,base_of e (noA e d),d,r⟩
  have hKb:K.In (qjT s₁.heap H):=λb o e=>base_of (KX b o e) (by
   cases q:H b with
   | none=>rfl
   | some u=>
    rcases hA b (by rw[q]; simp) with z | z
    ·subst z
     rw[hK (by rw[q]; simp)] at e; cases e
    ·rw[hKT b z] at e; cases e)
  have hM:Mod K mg (qjT s₁.heap H):=⟨hKb,nsK hns,⟨mb,nsK hb,hbb⟩,let ⟨mc,h1,h2⟩:=hlim; ⟨mc,nsK h1,h2⟩⟩
  have hCb: ∀p∈cts,PySem.W.CodeHd (qjT s₁.heap H) p.1 p.2:=λp hp=>by
   obtain ⟨o,vs',file,tf,flags,tg,inF,text,tt,e1,e2,e3,r⟩:=hC p hp
   exact ⟨o,vs',file,tf,flags,tg,inF,text,tt,base_of e1 (other e1 (λxs n z=>by rw[e3] at z; cases z) (λz=>by rw[e2] at z; cases z)),e2,e3,r⟩
  have hBb:qew mg (qjT s₁.heap H):=by
   obtain ⟨bm,ob,b1,b2,b3,b4,b5,b6⟩:=hbm
   exact ⟨bm,ob,b1,b2,base_of b3 (other b3 (λxs n z=>by rw[b6] at z; cases z) (λz=>by rw[b4] at z; cases z)),b4,b5,b6⟩
  have e0:qmu P w K mg (qjT s₁.heap H) callerA [] s₁ H:=⟨rfl,hM,λb o e=>qm6 e,Nat.le_of_eq (qjS _ _),trivial,λb hb=>absurd (show b∈([]:List Addr) from hb) (by simp),hok,.of_eq hg⟩
  refine codeAny_mono ((F _ hKb (nsK hns) hCb hBb).run callerA [] s₁ H ⟨[.ref a],[]⟩ [.ref a] [.ref a] _ _ hr e0 (hbind s₁ (.ref a)) (.cons rfl .nil) (hsp H hO hS)) λr s' h=> ?_
  cases r with
  | error e=>exact (hCX H e s' h).elim
  | ok fl=>
   cases fl with
   | next=>exact False.elim h
   | brk=>exact False.elim h
   | cont=>exact False.elim h
   | ret u=>
    obtain ⟨v,H',os,bare,un,hok',r',q⟩:=h
    have q':v= .bl true:=q
    subst q'
    obtain rfl:u=Value.bool true:=r'
    have old: ∀b o,b∉cts.map (·.2)->s₁.heap.get? b=some o->s'.heap.get? b=some o:=λb o hbT e=>by
     cases q:H b with
     | none=>exact un.keep b o e q (by intro z; exact absurd (show b∈([]:List Addr) from z) (by simp)) (by simp)
     | some u=>
      rcases hO.2 b hbT with z | ⟨ob,xs,z⟩
      ·rw[q] at z; cases z
      ·have z2:=un.frzs b ob _ z
       obtain ⟨e1,_⟩:=hok b _ z
       obtain ⟨e2,_⟩:=hok' b _ z2
       rw[e] at e1; cases e1
       exact e2
    have tb: ∀T∈cts.map (·.2),∃more,s'.heap.get? T=some (PySem.W.tabObj (#[]++more)):=λT hTm=>by
     obtain ⟨more,hT'⟩:=un.tbls T _ (hO.1 T hTm)
     exact ⟨more,hok' T _ hT'⟩
    refine ⟨rfl,⟨λb o e=> ?_,λb o e=> ?_⟩,os,bare⟩
    ·by_cases z:b∈cts.map (·.2)
     ·obtain ⟨more,hT2⟩:=tb b z
      rw[hT b z] at e; cases e
      obtain ⟨p,hp,rfl⟩:=List.mem_map.mp z
      exact .inr (.inl ⟨((hC p hp).tab (hT _ z)).isCodeTable,rfl, #[],more,rfl,hT2⟩)
     ·exact .inl (old b o z e)
    ·by_cases z:b∈cts.map (·.2)
     ·obtain ⟨more,hT2⟩:=tb b z
      exact ⟨_,hT2⟩
     ·exact ⟨o,old b o z e⟩
 have aT:a∉cts.map (·.2):=λz=>by rw[hT a z] at ha; cases ha
 cases hk:K.lookup a with
 | some o=>
  have e:=KX a o hk
  rw[ha] at e
  cases e
  refine core (λb=>if b∈cts.map (·.2) then some (.tbl #[]) else none) ⟨λT hTm=>if_pos hTm,λb hb=>.inl (if_neg hb)⟩ (.inr ⟨_,vs.toArray,_,hk,rfl,rfl,rfl,by rw[List.size_toArray,lenV]; exact hl,by simpa using rv⟩) (λb u z=> ?_) (λb z=> ?_) λz=>absurd (if_neg aT) z
  ·by_cases hb:b∈cts.map (·.2)
   ·have z':=(if_pos hb).symm.trans z
    cases z'
    exact hT b hb
   ·have z':=(if_neg hb).symm.trans z
    cases z'
  ·by_cases hb:b∈cts.map (·.2)
   ·exact .inr hb
   ·exact absurd (if_neg hb) z
 | none=>
  refine core (λb=>if b∈cts.map (·.2) then some (.tbl #[]) else if b=a then some (.frz { cls:=.type "list",data:=.seq vs.toArray } (.lst (ns.map V.int))) else none) ⟨λT hTm=>if_pos hTm,λb hbT=> ?_⟩ (.inl (.inr ⟨{ cls:=.type "list",data:=.seq vs.toArray },(if_neg aT).trans (if_pos rfl)⟩)) (λb u z=> ?_) (λb z=> ?_) λ_=>hk
  ·by_cases hb:b=a
   ·exact .inr ⟨_,_,(if_neg hbT).trans (if_pos hb)⟩
   ·exact .inl ((if_neg hbT).trans (if_neg hb))
  ·by_cases hbT:b∈cts.map (·.2)
   ·have z':=(if_pos hbT).symm.trans z
    cases z'
    exact hT b hbT
   ·by_cases hb:b=a
    ·have z':=((if_neg hbT).trans (if_pos hb)).symm.trans z
     cases z'
     subst hb
     exact ⟨ha,by rw[List.length_map]; exact hl,vs,_,rv,ha⟩
    ·have z':=((if_neg hbT).trans (if_neg hb)).symm.trans z
     cases z'
  ·by_cases hbT:b∈cts.map (·.2)
   ·exact .inr hbT
   ·by_cases hb:b=a
    ·exact .inl hb
    ·exact absurd ((if_neg hbT).trans (if_neg hb)) z
theorem walk_ofTs {l:PySem.W.OpenLaw} {n k:Nat} {q:Program} {loose:List Str} {XP:(Str->Option Value)->Heap->Prop} {YP:World->Heap->Prop} {d:DefRec} {K:Params->PySem.W.Frag} {CX:World->CXT} {sp:World->List (Addr×Addr)->Sp} {x:Str} {ys:List Str}
  (hn:l.most=some n) (hn2:n<=sizeLine) (hdf:d.params.defaults=[]) (hr:qcu k callerA)
  (hY: ∀(w:World) (h:Heap),YP w h->(K w.params).In h) (hrec: ∀y∈ys,∃dx,(recsOf q).find? (λe=>e.name==y)=some dx)
  (F: ∀(w:World) (mg:Str->Option Value) (fa:Addr) (h:Heap),(K w.params).In h->h.Ns mainGlobals mg->mg d.name=some (.ref fa)->
   ∃(fd:FuncData) (cts:List (Addr×Addr)),ys.map (PySem.W.tabIn (K w.params))=cts.map some/\(∀T∈cts.map (·.2),(K w.params).lookup T=none)/\(∀(s:Shared) (u:Value),BindsTo s fd ⟨[u],[]⟩ [(x,u)])/\
    (∀base:Heap,(K w.params).In base->base.Ns mainGlobals mg->(∀p∈cts,PySem.W.CodeHd base p.1 p.2)->qew mg base->qbI l.prog w (K w.params) mg base (CX w) k fa fd [x] (sp w cts)))
  (hsp: ∀(w:World) (cts:List (Addr×Addr)) (H:Hp) (a:Addr) (ns:List Int),ns.length<=n->qh7 (cts.map (·.2)) H->SqL (K w.params) H a (ns.map V.int)->sp w cts [.ref a] H (λv _=>v= .bl true) λ_ _ _=>False)
  (hCX: ∀(w:World) (H:Hp) (s:Shared) (e:Value) (s':Shared),CX w [] H s (λ_ _ _=>False) e s'->False):
  PySem.W.WalkO q loose XP YP l.row.toRowW d [] (λf vs=>PySem.call f vs):=by
 refine Att.attach_call hn hdf λw s₀ s₁ mg mb fa o pm cd doc a vs ns G Y ho hd hcd hmg hobj hints hlen hg=> ?_
 have KX:=hY w _ Y
 obtain ⟨fd,cts,ht,hkt,hb,hF⟩:=F w mg fa _ KX G.T.g hmg
 have each: ∀p∈cts,PySem.W.CodeHd s₁.heap p.1 p.2/\s₁.heap.get? p.2=some (PySem.W.tabObj #[]):=λp hp=>by
  have hm:some p∈ys.map (PySem.W.tabIn (K w.params)):=by rw[ht]; exact List.mem_map.mpr ⟨p,hp,rfl⟩
  obtain ⟨y,hy,ey⟩:=List.mem_map.mp hm
  obtain ⟨dx,hdx⟩:=hrec y hy
  exact PySem.W.tab_of G.T KX hdx ey
 have hC:=λp hp=>(each p hp).1
 have hT: ∀T∈cts.map (·.2),s₁.heap.get? T=some (PySem.W.tabObj #[]):=λT hTm=>by
  obtain ⟨p,hp,rfl⟩:=List.mem_map.mp hTm
  exact (each p hp).2
 exact qip KX G.T.g G.T.b G.T.builtins G.T.nolimit hg hobj hints (Nat.le_trans hlen hn2) hr hC hT hkt G.T.bmain hF hb (λH hO hS=>hsp w cts H a ns hlen hO hS) λH e s'=>hCX w H s₁ e s'
end L2
end
section
namespace PL
open PySem L2 SR SetL
theorem qnP {α:Type}: ∀{us:List α},us.length=1->∃a,us=[a]
 | [a],_=>⟨a,rfl⟩
theorem qoY {α:Type}: ∀{us:List α},us.length=2->∃a b,us=[a,b]
 | [a,b],_=>⟨a,b,rfl⟩
theorem qoX {α:Type}: ∀{us:List α},us.length=3->∃a b c,us=[a,b,c]
 | [a,b,c],_=>⟨a,b,c,rfl⟩
theorem hu1 {k:Nat} {A:Around} (r:qcu k A):A.units+1<cLine:=by have:=r.units; lia
theorem qku:bootBuiltins "max" =some (.builtin "max"):=by decide+kernel
def qjX (l:List (Addr×Pos×Str)):Gam where
 P:=λH=> ∀p∈l,Tab p.1 p.2.1 p.2.2 H
 st:=λH H' k h p hp=>by
  obtain ⟨ps,h1,h2,h3⟩:=h p hp
  refine ⟨ps,k _ _ h1 (λ_ z=>by cases z) (λ_ z=>by cases z) (λ_ z=>by cases z) (λ_ _ _ z=>by cases z),h2,h3.imp_right λ⟨c,a,b⟩=>⟨c,a,k _ _ b (λ_ z=>by cases z) (λ_ z=>by cases z) (λ_ z=>by cases z) (λ_ _ _ z=>by cases z)⟩⟩
theorem qhR {l:List (Addr×Pos×Str)} {P:Addr} {lpos:Pos} {qual:Str} (h:(P,lpos,qual)∈l): ∀H,(qjX l).P H->Tab P lpos qual H:=λH g=>g _ h
theorem qeh {β:Type}: ∀{l:List (Addr×β)},(l.map (·.1)).Nodup->∀{a b:Addr×β},a∈l->b∈l->a.1=b.1->a=b
 | [],_,_,_,h,_,_=>by cases h
 | x::l,nd,a,b,ha,hb,e=>by
  rw[List.map_cons,List.nodup_cons] at nd
  rcases List.mem_cons.mp ha with rfl | ha'
  ·rcases List.mem_cons.mp hb with rfl | hb'
   ·rfl
   ·exact absurd (by rw[e]; exact List.mem_map.mpr ⟨b,hb',rfl⟩) nd.1
  ·rcases List.mem_cons.mp hb with rfl | hb'
   ·exact absurd (by rw[<-e]; exact List.mem_map.mpr ⟨a,ha',rfl⟩) nd.1
   ·exact qeh nd.2 ha' hb' e
theorem qit {l:List (Addr×Pos×Str)} {P:Addr} {lpos:Pos} {qual:Str} (h:(P,lpos,qual)∈l) (nd:(l.map (·.1)).Nodup): ∀H H2,(qjX l).P H->qdT P H H2->Tab P lpos qual H2->(qjX l).P H2:=λH H2 g same t p hp=>by
 by_cases e:p.1=P
 ·have:=qeh nd hp h e
  subst this
  exact t
 ·obtain ⟨ps,h1,h2,h3⟩:=g p hp
  obtain ⟨qs,k1,_⟩:=g _ h
  refine ⟨ps,same _ _ h1 e,h2,h3.imp_right λ⟨c,a,b⟩=>⟨c,a,same _ _ b λz=> ?_⟩⟩
  subst z
  rw[k1] at b
  cases b
end PL
end
section
namespace L2
open PySem PySem.Spec PySem.Calls PyProof.Rows
def qiJ (P:Addr) (qual:Str) (H:Hp):Prop:=
 ∃ps,H P=some (.tbl ps)/\PySem.TriplesOk ps.toList/\∀pos v,PySem.codeAmong pos ps.toList=some v->∃c,v= .ref c/\H c=some (qdS c qual)
theorem qiD {pos:Pos} {a b:Int} {t u:Tok} {x v:Value} (l:List Value) (h:PySem.TriplesOk l) (e:PySem.codeAmong pos (l++[.int a t,.int b u,x])=some v):PySem.codeAmong pos l=some v\/v=x:=by
 fun_induction PySem.TriplesOk l with
 | case1=>
  simp only[List.nil_append,PySem.codeAmong] at e
  split at e
  ·exact .inr (Option.some.inj e).symm
  ·cases e
 | case2 a t b u x qcT ih=>
  simp only[List.cons_append,PySem.codeAmong] at e⊢
  split at e
  ·rename_i hc; rw[if_pos hc]; exact .inl e
  ·rename_i hc; rw[if_neg hc]; exact ih h e
 | case3 l h1 h2=>exact h.elim
def qnQ (f:Addr) (o:Obj):HO:=.ext λh=>h.get? f=some o
theorem qjE {P:Program} {w:World} {H:Hp} {h:Heap} {f:Addr} {o:Obj} (e:h.get? f=some o):qbu P w H h f (qnQ f o):=⟨e,⟨_,e⟩,λ_ _ p k=>k _ p⟩
def qrO (P:Addr) (qual:Str) (ob:Addr->Value->Obj):TE:=λ_ H Q=>qiJ P qual H/\∀(f c':Addr) (ctv:Value) (H':Hp),qiJ P qual H'->qdT P H H'->(∀b,H b≠none->H' b≠none)->H f=none->H' f=some (qnQ f (ob c' ctv))->H' c'=some (qdS c' qual)->Q (.ref f) H'
theorem qmV {X:Cx} {P c:Addr} {params:Arguments} {body:Expr} {scope:Scope} {pos:Pos} {qual:Str}
  (hcode:X.env.code= .ref c) (C:PySem.W.CodeHd X.base c P) (hb: ∃bm ob,X.mg "__builtins__" =some (.ref bm)/\bm≠builtinsNs/\X.base.get? bm=some ob/\ob.cls= .type "module" /\ob.dict=some builtinsNs/\ob.data= .plain)
  (hfree: ∀y∈scope.names,y.2= .free->X.env.kindOf y.1=some .cell\/X.env.kindOf y.1=some .free) (hd:defaultsOf params X.env=([],[])) (hq:X.env.qual++("<lambda>" :Str)=qual):
  PE X (.Lambda params body scope pos) (qrO P qual λc' ctv=>PySem.W.kla_obj "<lambda>" qual params body scope (clOf X.env scope.names []) ((X.mg "__name__").getD .none) c' ctv):=by
 intro pins s σ H Q I hQ
 obtain ⟨⟨ps,hP,htr,hor⟩,h⟩:=hQ
 have hgP:mainGlobals≠P:=λz=>by
  obtain ⟨o,es,ep,e,hdd,_⟩:=I.mod.glob
  have:=(I.bs _ _ e).2
  rw[z,hP] at this; cases this
 have hPo:s.heap.get? P=some (PySem.W.tabObj ps):=I.hok P _ hP
 have CS:PySem.W.CodeHd s.heap c P:=C.keeps I.bk
 have hbS:s.heap.BuiltinsAt X.mg P:=by
  obtain ⟨bm,ob,b1,b2,b3,b4,b5,b6⟩:=hb
  refine ⟨bm,ob,b1,b2,λz=> ?_,λz=> ?_,I.bk _ _ b3,b4,b5,b6⟩
  ·obtain ⟨o,es,ep,e,hdd,_⟩:=I.mod.glob
   rw[z,e] at b3; cases b3; rw[hdd] at b6; cases b6
  ·have:=(I.bs _ _ b3).2
   rw[z,hP] at this; cases this
 have hg:s.heap.Ns mainGlobals X.mg:=I.mod.glob.keeps I.bk
 have hcl:closureFor scope X.env=pure (clOf X.env scope.names []):=qe1 λy hy e=>I.ok.has y.1 (hfree y hy e)
 refine PySem.W.kla_eval hd ?_
 rw[hq]
 cases hn:PySem.codeAmong pos ps.toList with
 | none=>
  refine PySem.W.kla_makeFunction hcl I.ok.glob hg hcode CS hPo htr hn hgP hbS λc' ctv h' tk hx hge hlt hrec htb=> ?_
  have I1:Inv X pins σ (upd (upd H P (.tbl (ps++ #[rawInt pos.line,rawInt pos.col,.ref c']))) c' (qdS c' qual)) { s with heap:=h',toks:=tk }:=I.grow hP hx htb hge ⟨hrec,by
    obtain ⟨c2,oc,vs,tq,e,ho,_⟩:=hrec
    cases e
    exact ⟨oc,ho⟩,λh1 h2 p k=>qet p k⟩
  have nP:P≠c':=Nat.ne_of_lt (Nat.lt_of_lt_of_le (I.hok P _ hP).lt hge)
  have I2:=I1.laid (t':=tk) (o:=qnQ h'.objs.size (PySem.W.kla_obj "<lambda>" qual params body scope (clOf X.env scope.names []) ((X.mg "__name__").getD .none) c' ctv)) (λb u e=>Heap.get?_push_of_some _ e) (Nat.le_refl _) (qjE (Heap.get?_push_size _ rfl))
  have nf: ∀b o,(upd (upd H P (.tbl (ps++ #[rawInt pos.line,rawInt pos.col,.ref c']))) c' (qdS c' qual)) b=some o->b≠h'.objs.size:=λb o e=>Nat.ne_of_lt (I1.hok b _ e).lt
  have hc':(upd (upd H P (.tbl (ps++ #[rawInt pos.line,rawInt pos.col,.ref c']))) c' (qdS c' qual)) c'=some (qdS c' qual):=qak
  have hP1:(upd (upd H P (.tbl (ps++ #[rawInt pos.line,rawInt pos.col,.ref c']))) c' (qdS c' qual)) P=some (.tbl (ps++ #[rawInt pos.line,rawInt pos.col,.ref c'])):=by rw[qae nP,qak]
  have old: ∀b o,H b=some o->b≠P->(upd (upd H P (.tbl (ps++ #[rawInt pos.line,rawInt pos.col,.ref c']))) c' (qdS c' qual)) b=some o:=λb o e hb=>by
   rw[qae (Nat.ne_of_lt (Nat.lt_of_lt_of_le (I.hok b _ e).lt hge)),qae hb]; exact e
  refine ⟨.ref h'.objs.size,_,I2,rfl,h h'.objs.size c' ctv _ ⟨_,by rw[qae (nf _ _ hP1)]; exact hP1,?_,λp v e=> ?_⟩ (λb o e hb=> ?_) (λb e z=> ?_) ?_ qak (by rw[qae (nf _ _ hc')]; exact hc')⟩
  ·rw[Array.toList_append]
   exact qcC rfl rfl _ htr
  ·rw[Array.toList_append] at e
   rcases qiD _ htr e with e | e
   ·obtain ⟨c2,rfl,e2⟩:=hor p v e
    have e3:=old c2 _ e2 (λz=>by rw[z,hP] at e2; cases e2)
    exact ⟨c2,rfl,by rw[qae (nf _ _ e3)]; exact e3⟩
   ·exact ⟨c',e,by rw[qae (nf _ _ hc')]; exact hc'⟩
  ·have e3:=old b o e hb
   rw[qae (nf _ _ e3)]; exact e3
  ·cases q:H b with
   | none=>exact e q
   | some o=>
    by_cases zb:b=P
    ·subst zb
     rw[qae (nf _ _ hP1),hP1] at z; cases z
    ·have e3:=old b o q zb
     rw[qae (nf _ _ e3),e3] at z; cases z
  ·cases q:H h'.objs.size with
   | none=>rfl
   | some o=>exact absurd (Nat.lt_of_lt_of_le (I.hok _ _ q).lt (Nat.le_trans hge (Nat.le_of_lt hlt))) (Nat.lt_irrefl _)
 | some cv=>
  obtain ⟨c2,rfl,hH⟩:=hor pos cv hn
  refine PySem.W.kla_makeFunctionHit (cv:=.ref c2) hcl I.ok.glob hg hcode CS hPo htr hn hbS λctv h' tk kp sz=> ?_
  have I1:Inv X pins σ H { s with heap:=h',toks:=tk }:=I.kept (t':=tk) kp
  have I2:=I1.laid (t':=tk) (o:=qnQ h'.objs.size (PySem.W.kla_obj "<lambda>" qual params body scope (clOf X.env scope.names []) ((X.mg "__name__").getD .none) c2 ctv)) (λb u e=>Heap.get?_push_of_some _ e) (Nat.le_refl _) (qjE (Heap.get?_push_size _ rfl))
  have nf: ∀b o,H b=some o->b≠h'.objs.size:=λb o e=>Nat.ne_of_lt (I1.hok b _ e).lt
  refine ⟨.ref h'.objs.size,_,I2,rfl,h h'.objs.size c2 ctv _ ⟨ps,by rw[qae (nf _ _ hP)]; exact hP,htr,λp v e=> ?_⟩ (λb o e hb=>by rw[qae (nf _ _ e)]; exact e) (λb e z=> ?_) (I1.hok.fresh (Nat.le_refl _)) qak (by rw[qae (nf _ _ hH)]; exact hH)⟩
  ·obtain ⟨c3,rfl,e3⟩:=hor p v e
   exact ⟨c3,rfl,by rw[qae (nf _ _ e3)]; exact e3⟩
  ·cases q:H b with
   | none=>exact e q
   | some o=>rw[qae (nf _ _ q),q] at z; cases z
def qhe (P:Program) (w:World) (K:PySem.W.Frag) (mg:Str->Option Value) (base:Heap) (N:List Str) (env:Env) (A:Around) (outer:List Env) (s:Shared) (H:Hp) (E:XK):Cx where
 prog:=P
 w:=w
 K:=K
 mg:=mg
 base:=base
 A:=A.deeper env
 N:=N
 s₀:=s
 H₀:=H
 env:=env
 outer:=outer
 stack:=env::outer
 ex:=[]
 calm:=true
 fn:=λ_=>false
 pn:=[]
 xe:=λe s'=>wpAny (model P w) (A.deeper env) (leaving env e) (λ_ s''=>CXE P w outer H s E e s'') (λe' s''=>CXE P w outer H s E e' s'') s'
abbrev qdo (scope:Scope) (L:Addr) (clos:List (Str×Addr)) (qual:Str) (f c':Addr):Env:=newEnv scope L mainGlobals clos (qual++ ".<locals>.") (some f) (.ref c') none builtinsNs
theorem qqQ {P:Program} {w:World} {K:PySem.W.Frag} {mg:Str->Option Value} {base:Heap} {N:List Str} {scope:Scope} {L:Addr} {clos:List (Str×Addr)} {qual:Str} {f c':Addr} {A:Around} {outer:List Env} {s:Shared} {H:Hp} {E E1:XK}
  (h: ∀C H',E1 (.ref C) none H'->E (.ref C) none H'):qc7 (CXE P w) (qhe P w K mg base N (qdo scope L clos qual f c') A outer s H E) E1:=
 λpins σ H1 s1 e s' I ⟨C,H',a,t,B,he,F,q⟩=>by
  subst he
  exact wpAny_mono (Fly.leave (X:=qhe P w K mg base N (qdo scope L clos qual f c') A outer s H E) rfl rfl rfl I F) (λ_ s'' F'=>⟨C,H',a,t,B,rfl,F',h C H' q⟩) λ_ _ x=>x
theorem qnb {P:Program} {w:World} {K:PySem.W.Frag} {mg:Str->Option Value} {base:Heap} {k:Nat} {A:Around} {outer:List Env} {s:Shared} {H:Hp} {Q:VK} {E:XK} {f c':Addr} {qual:Str} {params:Arguments} {body:Expr} {scope:Scope} {clos:List (Str×Addr)} {pm ctv:Value} {N:List Str} {σ:St} {t:TE}
  (hr:qcu k A) (e0:qmu P w K mg base A outer s H) (hf:s.heap.get? f=some (PySem.W.kla_obj "<lambda>" qual params body scope clos pm c' ctv)) (hcd:s.heap.CodeRec (.ref c') qual)
  (hk:scope.kind= .function) (hco:scope.isCoroutine=false) (hgen:scope.isGenerator=false) (hcell: ∀y∈scope.names,y.2≠.cell)
  (hb:bindArgs (PySem.W.kla_fn "<lambda>" qual params body scope clos pm (.ref c') ctv) ⟨[],[]⟩=pure [])
  (inj: ∀x y c,clos.lookup x=some c->clos.lookup y=some c->x=y) (has: ∀x,scope.names.lookup x=some .free->∃c,clos.lookup x=some c)
  (cl: ∀x c,clos.lookup x=some c->(∃v,s.heap.IsCell c v)/\H c=none)
  (val: ∀(i:Nat) (x:Str) (v:V),N[i]? =some x->σ[i]? =some (some v)->scope.names.lookup x=some .free/\∃c u,clos.lookup x=some c/\s.heap.IsCell c (some u)/\RelV v u) (len:σ.length=N.length)
  (hbody:PE (qhe P w K mg base N (qdo scope s.heap.objs.size clos qual f c') A outer s H E) body t) (ht:t σ H Q):
  codeAny (model P w) A (.call (.ref f) ⟨[],[]⟩) (CR (CXE P w) outer P w H s Q E) s:=by
 have lim:s.heap.NoLimit:=e0.mod.nolimit.keeps λb o e=>(e0.bs b o e).1
 refine PySem.W.kla_callFunE hr.depth hf rfl hco hgen rfl hcd ?_
 rw[hb]
 refine wpAny_pure (wpAny_newFunctionEnv hcell (λy hy=>nomatch hy) (λh1 hn hs=> ?_) hk)
 have kp: ∀b o,s.heap.get? b=some o->h1.get? b=some o:=λb o e=>(hs.2 b (Nat.ne_of_lt (Heap.lt_size e))).trans (Heap.get?_push_of_some _ e)
 refine ⟨lim.keeps kp,PySem.W.kla_codeExpr ?_⟩
 have noA: ∀b:Addr,b∉([]:List Addr):=λb z=>nomatch z
 have I:Inv (qhe P w K mg base N (qdo scope s.heap.objs.size clos qual f c') A outer s H E) [] σ H { s with heap:=h1,toks:=s.toks+([]:List (Str×Value)).length }:=by
  refine ⟨⟨e0.mod,hk,rfl,rfl,Nat.le_refl _,inj,λy hy=> ?_,λy c z=>(by cases z),λ_=>hr.hd,Around.frames_deeper e0.frames,.inr ⟨rfl,rfl⟩,λb z=>absurd z (noA b),e0.bs,e0.bsz,λb _ _=>noA b,λb z=>absurd z (noA b),e0.funs,e0.frf⟩,
   rfl,e0.bare,Un.kept kp,⟨_,hn,λi y v h1' h2 h3=> ?_⟩,λy c h=> ?_,e0.hok.fresh (Nat.le_refl _),λy c h=>(cl y c h).2,λp hp=>absurd (show p∈([]:List (Addr×Obj)) from hp) (by simp),e0.hok.kept kp,len⟩
  ·have hy:scope.names.lookup y=some .cell\/scope.names.lookup y=some .free:=hy
   rcases hy with hy | hy
   ·exact absurd rfl (hcell _ (PySem.mem_of_lookup hy))
   ·exact has y hy
  ·obtain ⟨k1,c,u,k2,k3,k4⟩:=val i y v h1' h2
   exact ⟨u,k4,.inr ⟨.inr k1,c,k2,k3.keeps kp⟩⟩
  ·obtain ⟨v,q⟩:=(cl y c h).1
   exact ⟨v,q.keeps kp⟩
 exact wpAny_mono (hbody [] _ σ H Q I ht) (λu s' ⟨v,H',J,r,q⟩=>⟨v,H',J.os,J.bare,J.base,J.hok,r,q⟩) λe s' z=>z
end L2
end
section
namespace L2
open PySem PySem.Spec PySem.Calls PyProof.Rows
theorem qph {CX:CXT} {P:Program} {w:World} {K:PySem.W.Frag} {mg:Str->Option Value} {base:Heap} {k:Nat} {f:Addr} {name qual:Str} {params:Arguments} {body:List Stmt} {scope:Scope} {dV kV doc pm cdv ct oc:Value} {an od:Option Addr}
  {osl:Array (Option Value)} {N ps:List Str} (lk:K.lookup f=some ⟨oc,od,.func (PySem.W.fnOf name qual params body scope dV kV doc pm an cdv ct),osl⟩) (hcd:PySem.W.codeIn K cdv qual=true) (S:qas N ps scope)
  {A:Around} {outer:List Env} {s:Shared} {H:Hp} {args:Args} {us:List Value} {vs:List V} {Q:VK} {E:XK} (hr:qcu (k+1) A) (e0:qmu P w K mg base A outer s H) (hb:BindsTo s (PySem.W.fnOf name qual params body scope dV kV doc pm an cdv ct) args (ps.zip us)) (r:Vals vs us) (hl:vs.length=ps.length)
  (hbody:qcu k (A.deeper (envOfC qual scope s.heap.objs.size f cdv))->∃t,PSs (qcZ CX P w K mg base N qual scope f cdv A outer s H E) body t/\t { nx:=λ_ H'=>Q .non H',rt:=Q } (start N vs) H):
  codeAny (model P w) A (.call (.ref f) args) (CR CX outer P w H s Q E) s:=by
 have KX:K.In s.heap:=e0.mod.kin.keeps λb o e=>(e0.bs b o e).1
 have lim:s.heap.NoLimit:=e0.mod.nolimit.keeps λb o e=>(e0.bs b o e).1
 have hkind: ∀y∈ps.zip us,scope.names.lookup y.1=some .local\/(scope.names.lookup y.1=some .cell/\((cellsFrom (s.heap.objs.size+1) scope.names []).lookup y.1).isSome=true):=λ⟨n,v⟩ hy=>by
  rcases S.par n (List.of_mem_zip hy).1 with q | q
  ·exact .inl q
  ·exact .inr ⟨q,PySem.W.cellsFrom_some _ _ _ (.inl q)⟩
 refine codeAny_call_function hr.depth (KX _ _ lk) rfl S.co S.gen rfl (PySem.W.codeRec_of KX hcd) (hb _ _ _ _ ?_)
 refine wpAny_newFunctionEnv_cells S.kind hkind λenv he s1 x=> ?_
 subst he
 refine ⟨lim.keeps x.toInCall.keep,codeAny_func ?_⟩
 obtain ⟨t,ht,hq⟩:=hbody (hr.deeper _)
 have I:Inv (qcZ CX P w K mg base N qual scope f cdv A outer s H E) [] (start N vs) H s1:=qek S hr.hd e0 hl r x
 refine wpAny_mono (ht [] s1 (start N vs) H _ I hq) (λfl s' hs=> ?_) λe s' hs=>hs
 cases fl with
 | ret u=>
  obtain ⟨v,σ',H',J,rv,q⟩:=hs
  exact ⟨v,H',J.os,J.bare,J.base,J.hok,rv,q⟩
 | next=>
  obtain ⟨σ',H',J,q⟩:=hs
  exact ⟨V.non,H',J.os,J.bare,J.base,J.hok,rfl,q⟩
 | brk=>
  obtain ⟨_,_,_,q⟩:=hs
  exact False.elim q
 | cont=>
  obtain ⟨_,_,_,q⟩:=hs
  exact False.elim q
structure qlM (k:Nat) (A:Around):Prop where
 dp:A.depth+3*k+5<recursionLimit
 un:A.units+16*k+200<cLine
def cxN (P:Program) (w:World) (K:PySem.W.Frag) (mg:Str->Option Value) (base:Heap) (N:List Str) (qual:Str) (scope:Scope) (f:Addr) (cd:Value) (A:Around) (outer:List Env) (s:Shared) (H:Hp):Cx:=
 { qcZ CX0 P w K mg base N qual scope f cd A outer s H (λ_ _ _=>False) with calm:=false,xe:=λ_ _=>False }
structure FnN (P:Program) (w:World) (K:PySem.W.Frag) (mg:Str->Option Value) (base:Heap) (k:Nat) (f:Addr) (fd:FuncData) (ps:List Str) (sp:List V->Hp->VK->Prop):Prop where
 len: ∀vs H Q,sp vs H Q->vs.length=ps.length
 run: ∀(A:Around) (outer:List Env) (s:Shared) (H:Hp) (args:Args) (us:List Value) (vs:List V) (Q:VK),qlM k A->qmu P w K mg base A outer s H->BindsTo s fd args (ps.zip us)->Vals vs us->sp vs H Q->
  codeAny (model P w) A (.call (.ref f) args) (CR CX0 outer P w H s Q (λ_ _ _=>False)) s
theorem qpi {P:Program} {w:World} {K:PySem.W.Frag} {mg:Str->Option Value} {base:Heap} {k:Nat} {x qual:Str} {st:Stmt} {f:Addr} {fd:FuncData} {N ps:List Str} {sp:List V->Hp->VK->Prop} (F:Fun K x qual st f fd) (S:qas N ps (qad st))
  (len: ∀vs H Q,sp vs H Q->vs.length=ps.length)
  (hbody: ∀(cdv:Value) (A:Around) (outer:List Env) (s:Shared) (H:Hp) (vs:List V) (Q:VK),qlM k (A.deeper (envOfC qual (qad st) s.heap.objs.size f cdv))->sp vs H Q->
   ∃t,PSs (cxN P w K mg base N qual (qad st) f cdv A outer s H) (qav st) t/\t { nx:=λ_ H'=>Q .non H',rt:=Q } (start N vs) H):FnN P w K mg base (k+1) f fd ps sp:=by
 obtain ⟨oc,od,kV,doc,pm,an,cdv,ct,osl,rfl,lk,hcd⟩:=F.ex
 refine ⟨len,λA outer s H args us vs Q hr e0 hb r hsp=> ?_⟩
 have hl:=len _ _ _ hsp
 have KX:K.In s.heap:=e0.mod.kin.keeps λb o e=>(e0.bs b o e).1
 have lim:s.heap.NoLimit:=e0.mod.nolimit.keeps λb o e=>(e0.bs b o e).1
 have hkind: ∀y∈ps.zip us,(qad st).names.lookup y.1=some .local\/((qad st).names.lookup y.1=some .cell/\((cellsFrom (s.heap.objs.size+1) (qad st).names []).lookup y.1).isSome=true):=λ⟨n,v⟩ hy=>by
  rcases S.par n (List.of_mem_zip hy).1 with q | q
  ·exact .inl q
  ·exact .inr ⟨q,PySem.W.cellsFrom_some _ _ _ (.inl q)⟩
 refine codeAny_call_function (by have:=hr.dp; omega) (KX _ _ lk) rfl S.co S.gen rfl (PySem.W.codeRec_of KX hcd) (hb _ _ _ _ ?_)
 refine wpAny_newFunctionEnv_cells S.kind hkind λenv he s1 x=> ?_
 subst he
 refine ⟨lim.keeps x.toInCall.keep,codeAny_func ?_⟩
 obtain ⟨t,ht,hq⟩:=hbody cdv A outer s H vs Q ⟨by have:=hr.dp; show A.depth+1+3*k+5<_; omega,by have:=hr.un; show A.units+3+16*k+200<_; omega⟩ hsp
 have I0:Inv (qcZ CX0 P w K mg base N qual (qad st) f cdv { A with handled:=none } outer s H (λ_ _ _=>False)) [] (start N vs) H s1:=qek S rfl ⟨e0.frames,e0.mod,e0.bs,e0.bsz,e0.funs,e0.frf,e0.hok,e0.bare⟩ hl r x
 have ok:=I0.ok
 have I:Inv (cxN P w K mg base N qual (qad st) f cdv A outer s H) [] (start N vs) H s1:=⟨⟨ok.mod,ok.kind,ok.glob,ok.blt,ok.above,ok.inj,ok.has,ok.cab,(λz=>by cases z),Around.frames_deeper e0.frames,ok.stk,ok.exf,ok.bs,ok.bsz,ok.noex,ok.exfs,ok.funs,ok.frf⟩,I0.os,I0.bare,I0.base,I0.loc,I0.cell,I0.free,I0.freeC,I0.pin,I0.hok,I0.len⟩
 refine wpAny_mono (ht [] s1 (start N vs) H _ I hq) (λfl s' hs=> ?_) λe s' hs=>hs.elim
 cases fl with
 | ret u=>
  obtain ⟨v,σ',H',J,rv,q⟩:=hs
  exact ⟨v,H',J.os,J.bare,J.base,J.hok,rv,q⟩
 | next=>
  obtain ⟨σ',H',J,q⟩:=hs
  exact ⟨V.non,H',J.os,J.bare,J.base,J.hok,rfl,q⟩
 | brk=>
  obtain ⟨_,_,_,q⟩:=hs
  exact False.elim q
 | cont=>
  obtain ⟨_,_,_,q⟩:=hs
  exact False.elim q
theorem qlb {X:Cx} {k:Nat} {f:Addr} {fd:FuncData} {ps:List Str} {sp:List V->Hp->VK->Prop} {x:Str} {p pos:Pos} {e:Expr} {es:List Expr} {t:TA} (F:FnN X.prog X.w X.K X.mg X.base k f fd ps sp) (hr:qlM k X.A) (hg:Gl X x) (hm:X.mg x=some (.ref f)) (hk:PySem.W.keepIn X.K (.ref f)=true) (hb:qc0 X.K fd ps [])
  (ha:PA X (e::es) t) (hdb:(x==("__debug__" :Str))=false:=by decide) (he:starEach (e::es) X.env=(false,eval e X.env)::starEach es X.env:=by rfl) (hpl:(backTo pos (starEach es X.env)).any (·.1)=false:=by rfl):
  PE X (.Call (.Name x p) (e::es) [] pos) (λσ H Q=>t σ H λvs H1=>sp vs H1 Q):=by
 intro pins s σ H Q I h
 refine wpAny_Call_Name_kw (qda I hg hm ?_ hdb)
 refine PySem.W.callWith_K (h₀:=X.base) I.ok.mod.kin hk (thn (ha pos pins s σ H _ I h) λus s1 ⟨vs,H1,I1,r,q⟩=>⟨I1.kIn,?_⟩) he hpl
 have hl:us.length=ps.length:=by rw[<-r.length]; exact F.len _ _ _ q
 have hb':=hb s1 us I1.kIn (by rw[List.append_nil]; exact hl)
 rw[List.append_nil] at hb'
 refine wpAny_call (codeAny_mono (F.run X.A X.stack s1 H1 ⟨us,[]⟩ us vs Q hr I1.env0 hb' r q) λr s' hq=> ?_)
 cases r with
 | error e=>exact False.elim hq
 | ok fl=>
  cases fl with
  | ret u=>exact I1.after hq
  | next=>exact False.elim hq
  | brk=>exact False.elim hq
  | cont=>exact False.elim hq
end L2
end
section
namespace L2
open PySem PySem.Spec PySem.Calls PyProof.Rows
def qnV (base:Heap) (CA:Addr) (wd:Addr->Option Str) (Q:VK):XK:=λv _ H'=> ∃C bm x,v= .ref C/\qeE base C bm/\(Value.ref C::bm).contains (.ref CA)=true/\wd C=some x/\∀H'':Hp,(∀b o,H' b=some o->H'' b=some o)->Q (.str x) H''
def qiQ (base:Heap) (wd:Addr->Option Str):List V->Hp->VK->Prop:=λvs H Q=> ∃a C bm x,vs=[.ref a]/\H a=some (ExO a C)/\qeE base C bm/\wd C=some x/\∀H':Hp,(∀b o,H b=some o->H' b=some o)->Q (.str x) H'
def qp7 (P:Addr) (qual:Str) (ob:Addr->Value->Obj) (base:Heap) (CA:Addr) (wd:Addr->Option Str) (fr:List (Str×Nat)) (t:XK->TE):TE:=λσ H Q=>qiJ P qual H/\
 ∀(f c':Addr) (ctv:Value) (H':Hp),qiJ P qual H'->qdT P H H'->(∀b,H b≠none->H' b≠none)->H f=none->H' f=some (qnQ f (ob c' ctv))->H' c'=some (qdS c' qual)->t (qnV base CA wd Q) (qcl [] fr σ) H' Q
structure qh6 (st:Stmt):Prop where
 sc:qas ["_law_deed", "e"] ["_law_deed"] (qad st)
 bd: ∃p1 p2 p3 p4 p5 p6 p7 p8 p9 p10,qav st=[.Try [.Return (some (.Call (.Name "_law_deed" p1) [] [] p2)) p3] [.ExceptHandler (some (.Name "AskError" p4)) (some "e") [.Return (some (.Call (.Name "_law_class" p5) [.Name "e" p6] [] p7)) p8] p9] [] [] p10]
 d:(qad st).names.lookup ("_law_deed" :Str)=some .local
 e:(qad st).names.lookup ("e" :Str)=some .local
 a:(qad st).names.lookup ("AskError" :Str)=some .globalImplicit
 c:(qad st).names.lookup ("_law_class" :Str)=some .globalImplicit
section
variable {X:Cx} {st:Stmt} {fT fC CA P:Addr} {fdT fdC:FuncData} {bmA:List Value} {wd:Addr->Option Str} {params:Arguments} {body:Expr} {scope:Scope} {lpos p pos:Pos} {qual:Str} {fr:List (Str×Nat)} {t:XK->TE} {k:Nat}
theorem qmU (T:qh6 st) (F:Fun X.K "_law_told" "_law_told" st fT fdT) (hmT:X.mg "_law_told" =some (.ref fT)) (hbT:qc0 X.K fdT ["_law_deed"] []) (hgT:Gl X "_law_told") (hA:X.mg "AskError" =some (.ref CA)) (hEA:qeE X.base CA bmA)
  (GC:FnN X.prog X.w X.K X.mg X.base 1 fC fdC ["_law_kept"] (qiQ X.base wd)) (mC:X.mg "_law_class" =some (.ref fC)) (kC:PySem.W.keepIn X.K (.ref fC)=true) (bC:qc0 X.K fdC ["_law_kept"] [])
  (hlam:PE X (.Lambda params body scope lpos) (qrO P qual λc' ctv=>PySem.W.kla_obj "<lambda>" qual params body scope (clOf X.env scope.names []) ((X.mg "__name__").getD .none) c' ctv))
  (hfn: ∀x,X.fn x=true) (hk:scope.kind= .function) (hco:scope.isCoroutine=false) (hgen:scope.isGenerator=false) (hcell: ∀y∈scope.names,y.2≠.cell)
  (hfree: ∀y∈scope.names,y.2= .free->X.env.kindOf y.1=some .cell\/X.env.kindOf y.1=some .free) (hfr: ∀p∈fr,X.N[p.2]? =some p.1/\scope.names.lookup p.1=some .free)
  (hb: ∀(clos:List (Str×Addr)) (pm cv ctv:Value),bindArgs (PySem.W.kla_fn "<lambda>" qual params body scope clos pm cv ctv) ⟨[],[]⟩=pure []) (hr:qcu (k+3) X.A)
  (hbody: ∀(A:Around) (outer:List Env) (s:Shared) (H:Hp) (f c':Addr) (E:XK),qcu k (A.deeper (qdo scope s.heap.objs.size (clOf X.env scope.names []) qual f c'))->
   PE (qhe X.prog X.w X.K X.mg X.base (fr.map (·.1)) (qdo scope s.heap.objs.size (clOf X.env scope.names []) qual f c') A outer s H E) body (t E))
  (tm: ∀E E' σ H Q,(∀v o H',E v o H'->E' v o H')->t E σ H Q->t E' σ H Q)
  (hst:starEach [.Lambda params body scope lpos] X.env=(false,eval (.Lambda params body scope lpos) X.env)::starEach [] X.env:=by rfl):
  PE X (.Call (.Name "_law_told" p) [.Lambda params body scope lpos] [] pos) (qp7 P qual (λc' ctv=>PySem.W.kla_obj "<lambda>" qual params body scope (clOf X.env scope.names []) ((X.mg "__name__").getD .none) c' ctv) X.base CA wd fr t):=by
 intro pins s σ H Q I h
 obtain ⟨tab,h⟩:=h
 refine wpAny_Call_Name_kw (qda I hgT hmT ?_ (by decide))
 refine PySem.W.callWith_K (h₀:=X.base) I.ok.mod.kin F.kp (thn ((qag hlam qar hst) pos pins s σ H (λvs H1=> ∃f c' ctv,vs=[.ref f]/\H1 f=some (qnQ f (PySem.W.kla_obj "<lambda>" qual params body scope (clOf X.env scope.names []) ((X.mg "__name__").getD .none) c' ctv))/\H1 c'=some (qdS c' qual)/\t (qnV X.base CA wd Q) (qcl [] fr σ) H1 Q) I
  ⟨tab,λf c' ctv H' a1 a2 a3 a4 a5 a6=>⟨f,c',ctv,rfl,a5,a6,h f c' ctv H' a1 a2 a3 a4 a5 a6⟩⟩) λus s1 ⟨vs,H1,I1,r,q⟩=>⟨I1.kIn,?_⟩) hst rfl
 obtain ⟨f,c',ctv,rfl,hf,hc,q⟩:=q
 obtain ⟨u,rfl,ru⟩:=qdP r
 cases ru
 obtain ⟨oc,od,kV,doc,pm,an,cdv,ct,osl,rfl,lk,hcd⟩:=F.ex
 have hb':=hbT s1 [.ref f] I1.kIn rfl
 rw[List.append_nil] at hb'
 obtain ⟨p1,p2,p3,p4,p5,p6,p7,p8,p9,p10,hbd⟩:=T.bd
 refine wpAny_call (codeAny_mono (qph (CX:=CX0) (E:=λ_ _ _=>False) (Q:=Q) lk hcd T.sc hr I1.env0 hb' r rfl λhr1=> ?_) λr s' hq=> ?_)
 rotate_left
 ·cases r with
  | error e=>exact False.elim hq
  | ok fl=>
   cases fl with
   | ret u=>exact I1.after hq
   | next=>exact False.elim hq
   | brk=>exact False.elim hq
   | cont=>exact False.elim hq
 rw[hbd]
 generalize hY:(qcZ CX0 X.prog X.w X.K X.mg X.base ["_law_deed", "e"] "_law_told" (qad st) fT cdv X.A X.stack s1 H1 (λ_ _ _=>False)).nox=Y
 have deed: ∀(pins0:List (Addr×Obj)) (W:St->Addr->Hp->Prop),PE (Y.hold pins0 (XE Y pins0 W)) (.Call (.Name "_law_deed" p1) [] [] p2) (λσ' H' Q'=>σ'[0]? =some (some (.ref f))/\H'=H1/\t (eW W σ') (qcl [] fr σ) H1 Q'):=by
  subst hY
  intro pins0 W pins' s2 σ' H2 Q' I2 hq
  obtain ⟨e0,rfl,ht⟩:=hq
  refine wpAny_Call_Name_kw (thn (qjk (i:=0) rfl (.inl T.d) (by decide) (by decide) pins' s2 σ' H2 (λv H3=>v= .ref f/\H3=H2) I2 ⟨_,e0,rfl,rfl⟩) λu s3 ⟨v,H3,I3,rv,ev,eH⟩=> ?_)
  subst ev eH
  cases rv
  have ho:s3.heap.get? f=some (PySem.W.kla_obj "<lambda>" qual params body scope (clOf X.env scope.names []) ((X.mg "__name__").getD .none) c' ctv):=(I3.hok f _ hf).1
  have hcr:s3.heap.CodeRec (.ref c') qual:=(I3.hok c' _ hc).1
  refine PySem.W.callWith_F0 ⟨_,_,_,_,ho⟩ ?_
  have I0:=I3.unhold
  have cs: ∀x c,X.env.cells.lookup x=some c->∀v,s1.heap.IsCell c v->s3.heap.IsCell c v:=λx c e v ⟨o,h1,h2⟩=>by
   refine ⟨o,I0.base.keep c o h1 (I1.freeC x c e) (λhb=> ?_) (λz=>nomatch z),h2⟩
   rcases List.mem_cons.mp (I1.stkSub c hb) with z | z
   ·exact I1.cne x c e z
   ·obtain ⟨_,o',e',_⟩:=I1.ok.funs.mem z
    have:=I1.ok.cab x c (hfn x) e
    exact absurd (Heap.lt_size e') (Nat.not_lt.mpr this)
  have cl_sub: ∀x c,(clOf X.env scope.names []).lookup x=some c->X.env.cells.lookup x=some c:=λx c=>qfG _ _ (λ_ _ z=>by cases z)
  have hB:=hbody (X.A.deeper (envOfC "_law_told" (qad st) s1.heap.objs.size fT cdv)) (envOfC "_law_told" (qad st) s1.heap.objs.size fT cdv::X.stack) s3 H3 f c' (eW W σ') ((qcu.deeper hr1 _).mono (by omega))
  have e0:qmu X.prog X.w X.K X.mg X.base (X.A.deeper (envOfC "_law_told" (qad st) s1.heap.objs.size fT cdv)) (envOfC "_law_told" (qad st) s1.heap.objs.size fT cdv::X.stack) s3 H3:=I3.env0
  refine wpAny_call (codeAny_mono (qnb (k:=k) (σ:=qcl [] fr σ) (Q:=Q') (hr1.mono (by omega)) e0 ho hcr hk hco hgen hcell (hb _ _ _ _) (λx y c h1 h2=>I1.ok.inj x y c (cl_sub _ _ h1) (cl_sub _ _ h2)) (λx hx=> ?_) (λx c h1=> ?_) (λi x v h1 h2=> ?_) ?_ hB ht) λr s' hq=> ?_)
  ·obtain ⟨c,hc⟩:=I1.ok.has x (hfree _ (PySem.mem_of_lookup hx) rfl)
   exact ⟨c,qcO _ _ hc (.inr (PySem.mem_of_lookup hx))⟩
  ·have e:=cl_sub _ _ h1
   obtain ⟨v,hv⟩:=I1.cell x c e
   exact ⟨⟨v,cs x c e v hv⟩,I1.freeC x c e⟩
  ·rw[List.getElem?_map] at h1
   cases q1:fr[i]? with
   | none=>rw[q1] at h1; cases h1
   | some pr=>
    rw[q1] at h1; cases h1
    obtain ⟨g1,g2⟩:=hfr pr (List.mem_of_getElem? q1)
    unfold qcl at h2
    rw[List.map_nil,List.nil_append,List.getElem?_map,q1] at h2
    have e2:σ[pr.2]? =some (some v):=by
     have h2:(σ[pr.2]?).join=some v:=Option.some.inj h2
     cases q2:σ[pr.2]? with
     | none=>rw[q2] at h2; cases h2
     | some o=>rw[q2] at h2; cases o with
      | none=>cases h2
      | some y=>cases h2; rfl
    have hkd:=hfree _ (PySem.mem_of_lookup g2) rfl
    obtain ⟨m,hn,hl⟩:=I1.loc
    obtain ⟨u,ru,l⟩:=hl pr.2 pr.1 v g1 e2 (.inr hkd)
    rcases l with ⟨z,_⟩ | ⟨_,c,e6,hv⟩
    ·rcases hkd with y | y<;>(rw[y] at z; cases z)
    ·exact ⟨g2,c,u,qcO _ _ e6 (.inr (PySem.mem_of_lookup g2)),cs _ c e6 _ hv,ru⟩
  ·unfold qcl; simp
  ·cases r with
   | error e=>
    obtain ⟨C,H',a,t',B,he,F',C',hC',w⟩:=hq
    cases hC'
    exact ⟨σ',_,s3,C,H',a,t',B,he,I0,F',w⟩
   | ok fl=>
    cases fl with
    | ret u=>exact I3.after hq
    | next=>exact False.elim hq
    | brk=>exact False.elim hq
    | cont=>exact False.elim hq
 have cls: ∀a,PE (Y.within a) (.Call (.Name "_law_class" p5) [.Name "e" p6] [] p7) (λσ' H' Q'=>qc8 (qiN 1) qhq σ' H' λvs H2=>qiQ X.base wd vs H2 Q'):=λa=>by
  subst hY
  have e1:((X.A.deeper (envOfC "_law_told" (qad st) s1.heap.objs.size fT cdv)).mark (some (.ref a))).depth=(X.A.deeper (envOfC "_law_told" (qad st) s1.heap.objs.size fT cdv)).depth:=rfl
  have e2:((X.A.deeper (envOfC "_law_told" (qad st) s1.heap.objs.size fT cdv)).mark (some (.ref a))).units=(X.A.deeper (envOfC "_law_told" (qad st) s1.heap.objs.size fT cdv)).units:=rfl
  have d1:=hr1.dp
  have d2:=hr1.un
  have rn:qlM 1 ((X.A.deeper (envOfC "_law_told" (qad st) s1.heap.objs.size fT cdv)).mark (some (.ref a))):=⟨by rw[e1]; omega,by rw[e2]; omega⟩
  exact qlb GC rn T.c mC kC bC (qag (qjk (i:=1) rfl (.inl T.e)) qar)
 have stk:Y.stack=Y.env::Y.outer:=by subst hY; rfl
 have frm:Y.env.frame=some Y.env.locals:=by subst hY; rfl
 have nd:Y.N.Nodup:=by subst hY; exact T.sc.nd
 have n1:Y.N[1]? =some ("e" :Str):=by subst hY; rfl
 have kd:Y.env.kindOf "e" =some .local:=by subst hY; exact T.e
 have ga:Gl Y "AskError" :=by subst hY; exact T.a
 have ma:Y.mg "AskError" =some (.ref CA):=by subst hY; exact hA
 have ea:qeE Y.base CA bmA:=by subst hY; exact hEA
 have bs:Y.base=X.base:=by subst hY; rfl
 refine ⟨_,PSs.nox (by rw[hY]; exact qci (qmO (X:=Y) (i:=1) stk frm nd n1 kd ga ma ea (λpins0 W=>qci (qdi (deed pins0 W))) (λa=>qci (qdi (cls a))))),?_⟩
 refine ⟨rfl,rfl,?_⟩
 refine tm _ _ _ _ _ (λv o H' hx=> ?_) q
 obtain ⟨C,bm,x,rfl,h1,h2,h3,h4⟩:=hx
 refine ⟨C,rfl,bm,bs▸h1,h2,λa ha=>⟨.ref a,rfl,a,C,bm,x,rfl,qak,h1,h3,λH'' s'=>h4 H'' λb u e=>s' b u ?_⟩⟩
 rw[qae (qao e ha)]; exact e
end
end L2
end
section
namespace L2
open PySem PySem.Spec PySem.Calls PyProof.Rows
theorem qjc {P:Program} {w:World} {K:PySem.W.Frag} {mg:Str->Option Value} {base:Heap} {N:List Str} {qual:Str} {scope:Scope} {f:Addr} {cd:Value} {A:Around} {outer:List Env} {s:Shared} {H:Hp} {E:XK} {te:TE}
  {x:Str} {C:Addr} {bm:List Value} {arg:Expr} {np cpos pos} (hC:qeE base C bm) (hm:mg x=some (.ref C)) (hg:Gl (qcZ (CXE P w) P w K mg base N qual scope f cd A outer s H E) x)
  (ha:PE (qcZ (CXE P w) P w K mg base N qual scope f cd A outer s H E) arg te)
  (hst:starEach [arg] (qcZ (CXE P w) P w K mg base N qual scope f cd A outer s H E).env=(false,eval arg (qcZ (CXE P w) P w K mg base N qual scope f cd A outer s H E).env)::starEach [] (qcZ (CXE P w) P w K mg base N qual scope f cd A outer s H E).env:=by rfl)
  (hdb:(x==("__debug__" :Str))=false:=by decide):
  PS (qcZ (CXE P w) P w K mg base N qual scope f cd A outer s H E) (.Raise (some (.Call (.Name x np) [arg] [] cpos)) none pos) (λ_ σ H1=>te σ H1 λ_ H2=>E (.ref C) none H2):=by
 intro pins s1 σ H1 D I h
 obtain ⟨Nn,nm,q,bs,hdct,sn,sub,ab,col,dd,k0,k1,k2,k3,k5,mN,e,n,i,T⟩:=id hC
 refine wpAny_Raise_call_subT (C:=C) (nm:=nm) (q:=q) (N:=Nn) (bs:=bs) (bm:=bm) (hdct:=hdct) (sn:=sn) (sub:=sub) (ab:=ab) (col:=col) (dd:=dd) (k0:=k0) (k1:=k1) (k2:=k2) (k3:=k3) (k5:=k5) PySem.F.excBase_ValueError hC.base (I.ok.hd rfl) (by rw[hst]; rfl) (i _ (.head _)) ?_
 refine qda I hg hm ⟨rfl,?_⟩ hdb
 have hp:PA (qcZ (CXE P w) P w K mg base N qual scope f cd A outer s H E) [arg] (qc8 te qhq):=qag ha qar hst
 have hq:=hp cpos pins s1 σ H1 (λvs H2=>match vs with | [_]=>E (.ref C) none H2 | _=>False) I h
 rw[hst] at hq⊢
 refine Calls.evalArgs_plain (thn hq λus s2 hq226=> ?_)
 obtain ⟨vs,H2,I2,r,hE⟩:=hq226
 obtain ⟨el,hE⟩:vs.length=1/\E (.ref C) none H2:=by
  match vs,hE with
  | [_],hE=>exact ⟨rfl,hE⟩
 have ul:us.length=1:=by rw[<-r.length]; exact el
 refine ⟨rfl,by show us.length<=sizeLine; rw[ul]; decide,I2.bk _ _ e,n.keeps I2.bk,T.tail.keeps I2.bk,λh' a hx=> ?_⟩
 exact wpAny_mono (Fly.made (X:=qcZ (CXE P w) P w K mg base N qual scope f cd A outer s H E) rfl rfl rfl I2 hx) (λ_ s'' ⟨t,B,F'⟩=>⟨C,H2,a,t,B,rfl,F',hE⟩) λ_ _ x=>x
theorem qig: ∀n:Nat,n<1000->(Str.ofString (toString (n:Int))).length<=10:=by decide+kernel
theorem qoK {X:Cx} {e:Expr} {te:TE} {msg:Str} {j:Nat} {p1 p2 pos:Pos} (he:PE X e te) (hz:msg.length<=1000:=by decide+kernel):
  PE X (.JoinedStr [.Constant (.str msg) j p1,.FormattedValue e (-1) none p2] pos) (λσ H Q=>te σ H λv H1=> ∃n:Nat,v= .int n/\n<1000/\∀x,Q (.str x) H1):=by
 intro pins s σ H Q I h
 have l1:2000<sizeLine:=by decide
 have l0:(Str.empty++msg).length=msg.length:=by rw[strLen_append]; show 0+_=_; omega
 refine wpAny_JoinedStr ?_
 show wpAny _ _ (eval (.Constant (.str msg) j p1) X.env) _ _ s
 refine wpAny_Constant_str ?_
 refine ⟨_,_,rfl,by rw[l0]; omega,?_⟩
 show wpAny _ _ (eval (.FormattedValue e (-1) none p2) X.env) _ _ _
 refine wpAny_FormattedValue_plain (thn (he pins _ σ H _ (I.tok _) h) λu s1 hq=> ?_)
 obtain ⟨v,H1,I1,r,n,rfl,hn,q⟩:=hq
 obtain ⟨t,rfl⟩:=r
 have hl:=qig n hn
 have hd:((n:Int)).natAbs.log2<1920:=by
  have:((n:Int)).natAbs=n:=Int.natAbs_natCast n
  rw[this]
  exact Nat.lt_of_le_of_lt (Nat.log2_le_self n) (by omega)
 refine wpAny_formatField_int hd ?_
 have l2:(Str.empty++msg++(toString (n:Int):String)).length<=sizeLine:=by
  rw[strLen_append,l0]
  have:(Str.ofString (toString (n:Int))).length<=10:=hl
  show msg.length+(Str.ofString (toString (n:Int))).length<=_
  omega
 refine ⟨_,_,rfl,l2,l2,?_⟩
 exact ⟨.str _,H1,(I1.tok _),⟨_,rfl⟩,q _⟩
end L2
end
section
namespace PL
open PySem L2 SR SetL
def KnE (P:Program) (w:World) (K:PySem.W.Frag) (mg:Str->Option Value) (base:Heap) (G:Gam) (C:Str->Addr) (x:Str) (ps:List Str) (k:Nat) (fT:List T->Rs T):Prop:=
 ∃f fd,qbI P w K mg base (CXE P w) k f fd ps (spP K G C fT)/\mg x=some (.ref f)/\PySem.W.keepIn K (.ref f)=true/\qc0 K fd ps []
theorem Kn.e {P:Program} {w:World} {K:PySem.W.Frag} {mg:Str->Option Value} {base:Heap} {G:Gam} {C:Str->Addr} {x:Str} {ps:List Str} {k:Nat} {fT:List T->Rs T} (h:Kn P w K mg base G C x ps k fT):KnE P w K mg base G C x ps k fT:=by
 obtain ⟨f,fd,F,r⟩:=h
 exact ⟨f,fd,F.lift,r⟩
theorem qlc {P:Program} {w:World} {X:Cx}:qc7 (CXE P w) X (λ_ _ _=>False):=λ_ _ _ _ _ _ _ ⟨_,_,_,_,_,_,_,z⟩=>z.elim
theorem qaN {P:Program} {w:World} {K:PySem.W.Frag} {mg:Str->Option Value} {base:Heap} {N:List Str} {qual:Str} {scope:Scope} {f:Addr} {cd:Value} {A:Around} {outer:List Env} {s:Shared} {H:Hp} {E:XK}:qc7 (CXE P w) (qcZ (CXE P w) P w K mg base N qual scope f cd A outer s H E) E:=qqR λ_ _ h=>h
theorem qbK {P:Program} {w:World} {K:PySem.W.Frag} {mg:Str->Option Value} {base:Heap} {N:List Str} {scope:Scope} {L:Addr} {clos:List (Str×Addr)} {qual:Str} {f c':Addr} {A:Around} {outer:List Env} {s:Shared} {H:Hp} {E:XK}:qc7 (CXE P w) (qhe P w K mg base N (qdo scope L clos qual f c') A outer s H E) E:=qqQ λ_ _ h=>h
section
variable {M:Md} {X:Cx} {e:Expr} {es:List Expr} {pos p:Pos} {ds:Ro->Rs (List T)} {x:Str} {k:Nat} {ps:List Str} {fT:List T->Rs T}
theorem qai (hx:qc7 (CXE X.prog X.w) X M.E) (F:KnE X.prog X.w X.K X.mg X.base M.G M.C x ps k fT) (hK:X.K=M.K) (hr:qcu k X.A) (hg:Gl X x) (ha:DA M X (e::es) ds) (hdb:(x==("__debug__" :Str))=false:=by decide)
  (he:starEach (e::es) X.env=(false,eval e X.env)::starEach es X.env:=by rfl) (hpl:(backTo pos (starEach es X.env)).any (·.1)=false:=by rfl):DE M X (.Call (.Name x p) (e::es) [] pos) (qal fT ds):=by
 obtain ⟨f,fd,G,m,kk,bb⟩:=F
 rw[hK] at G
 exact qnA (by rw[hK]; exact G) hr hg m kk bb hx ha hdb he hpl
end
section
variable {P:Program} {w:World} {K:PySem.W.Frag} {mg:Str->Option Value} {base:Heap} {G:Gam} {C:Str->Addr}
theorem qa3 {x qual:Str} {st:Stmt} {f:Addr} {fd:FuncData} {N ps:List Str} {k:Nat} {d:Ro->Rs Out} (F:Fun K x qual st f fd) (S:qas N ps (qad st))
  (hbody: ∀(cdv:Value) (A:Around) (outer:List Env) (s:Shared) (H:Hp) (E:XK),qcu k (A.deeper (PyProof.Rows.envOfC qual (qad st) s.heap.objs.size f cdv))->
   DSs ⟨K,G,E,C,0⟩ (qcZ (CXE P w) P w K mg base N qual (qad st) f cdv A outer s H E) (qav st) d):qbI P w K mg base (CXE P w) (k+1) f fd ps (spP K G C (fnT ps.length N.length d)):=by
 have hpl:ps.length<=N.length:=by have:=congrArg List.length S.pre; rw[List.length_take] at this; lia
 exact okE F S (λvs H Q E h=>qd4 h) λcdv A outer s H vs Q E hr h=>⟨_,hbody cdv A outer s H E hr,qdp hpl h⟩
def qh1 (x:Str):Ro->Rs Out:=λ_=>.ex x
def qkn (x:Str) (da:Ro->Rs T):Ro->Rs Out:=λρ=>da ρ>>=λt=>match t with
 | .int i=>if 0<=i/\i<1000 then .ex x else .no
 | _=>.no
def ExN (mg:Str->Option Value) (base:Heap) (C:Str->Addr) (x:Str):Prop:=mg x=some (.ref (C x))/\∃bm,qeE base (C x) bm
section
variable {N:List Str} {qual:Str} {scope:Scope} {f:Addr} {cd:Value} {A:Around} {outer:List Env} {s:Shared} {H:Hp} {E:XK} {x msg:Str} {j:Nat} {np p1 p2 p3 cpos pos:Pos}
theorem qfB (hC:ExN mg base C x) (hg:Gl (qcZ (CXE P w) P w K mg base N qual scope f cd A outer s H E) x) (hdb:(x==("__debug__" :Str))=false:=by decide):
  DS ⟨K,G,E,C,0⟩ (qcZ (CXE P w) P w K mg base N qual scope f cd A outer s H E) (.Raise (some (.Call (.Name x np) [.Constant (.str msg) j p1] [] cpos)) none pos) (qh1 x):=by
 obtain ⟨hm,bm,hC⟩:=hC
 exact PS.weak (qk2 hC hm hg hdb) λD σ H ⟨H0,B0,ρ,B,ev,w⟩=>w H ev.gr.gx ev.gm
theorem qj5 {e:Expr} {da:Ro->Rs T} (hC:ExN mg base C x) (hg:Gl (qcZ (CXE P w) P w K mg base N qual scope f cd A outer s H E) x) (ha:DE ⟨K,G,E,C,0⟩ (qcZ (CXE P w) P w K mg base N qual scope f cd A outer s H E) e da)
  (hz:msg.length<=1000:=by decide+kernel) (hdb:(x==("__debug__" :Str))=false:=by decide):
  DS ⟨K,G,E,C,0⟩ (qcZ (CXE P w) P w K mg base N qual scope f cd A outer s H E) (.Raise (some (.Call (.Name x np) [.JoinedStr [.Constant (.str msg) j p1,.FormattedValue e (-1) none p2] p3] [] cpos)) none pos) (qkn x da):=by
 obtain ⟨hm,bm,hC⟩:=hC
 refine PS.weak (qjc hC hm hg (qoK ha hz) (by rfl) hdb) λD σ H ⟨H0,B0,ρ,B,ev,w⟩=> ?_
 refine tP.of ev (Wnt.mono (Wnt.bind w) λt w1 v H1 B1 g1 m1 r1=> ?_)
 have ev1:=ev.grow g1 m1
 cases t with
 | int i=>
  have e1:v= .int i:=by unfold Rep at r1; exact r1
  dsimp only at w1
  split at w1
  ·rename_i hb
   obtain ⟨n,rfl⟩:=Int.eq_ofNat_of_zero_le hb.1
   exact ⟨n,e1,by omega,λ_=>w1 H1 ev1.gr.gx ev1.gm⟩
  ·exact w1.elim
 | _=>exact w1.elim
end
end
def qaO (wd:Str->Option Str) (fr:List Nat) (dE:Ro->Rs T):Ro->Rs T:=λρ=>match dE (qcF 0 fr ρ) with
 | .ok t=>.ok t
 | .ex c=>(match wd c with | some x=>.ok (.str x) | none=>.no)
 | .no=>.no
theorem qa2.ofGX {H B H':Hp} (le:Le B H) (bt: ∀a ps,B a≠some (.tbl ps)) (g:GX H H'):qa2 H B H' B:=⟨g,.refl _,λa o e=>g.hh a o (le a o e) λps z=>bt a ps (by rw[e,z]),bt,λ_ _ _ _ _=>rfl⟩
theorem GX.same {H H':Hp} (h: ∀b o,H b=some o->H' b=some o):GX H H':=⟨λa o e _=>h a o e,λa e z=>by
 cases q:H a with
 | none=>exact e q
 | some o=>rw[h a o q] at z; cases z⟩
structure qkD (P:Program) (w:World) (K:PySem.W.Frag) (mg:Str->Option Value) (base:Heap) (C:Str->Addr) (st:Stmt) (wd:Str->Option Str):Prop where
 tx:qh6 st
 fn: ∃fT fdT,Fun K "_law_told" "_law_told" st fT fdT/\mg "_law_told" =some (.ref fT)/\qc0 K fdT ["_law_deed"] []
 ask: ∃CA bmA fC fdC wa,mg "AskError" =some (.ref CA)/\qeE base CA bmA/\FnN P w K mg base 1 fC fdC ["_law_kept"] (qiQ base wa)/\mg "_law_class" =some (.ref fC)/\PySem.W.keepIn K (.ref fC)=true/\qc0 K fdC ["_law_kept"] []/\
  ∀c x,wd c=some x->∃bm,qeE base (C c) bm/\(Value.ref (C c)::bm).contains (.ref CA)=true/\wa (C c)=some x
section
variable {M:Md} {X:Cx} {st:Stmt} {wd:Str->Option Str} {T c:Addr} {params:Arguments} {body:Expr} {scope:Scope} {lpos p pos:Pos} {qual:Str} {fr:List (Str×Nat)} {k:Nat}
theorem qmB {K:PySem.W.Frag} {G:Gam} {C:Str->Addr} {d:Ro->Rs PL.T} (E E':XK) (σ:St) (H:Hp) (Q:VK) (h: ∀v o H',E v o H'->E' v o H') (t:tP ⟨K,G,E,C,0⟩ d σ H Q):tP ⟨K,G,E',C,0⟩ d σ H Q:=by
 obtain ⟨H0,B0,ρ,B,ev,w⟩:=t
 refine ⟨H0,B0,ρ,B,⟨ev.gr,ev.gm,ev.len,ev.sl,ev.ap⟩,?_⟩
 cases q:d ρ with
 | no=>rw[q] at w; exact w
 | ok t=>rw[q] at w; exact w
 | ex c=>rw[q] at w; exact λH' g m=>h _ _ _ (w H' g m)
theorem qa6 {dE:Ro->Rs PL.T} (F:qkD X.prog X.w X.K X.mg X.base M.C st wd) (hK:X.K=M.K) (hgT:Gl X "_law_told") (hcode:X.env.code= .ref c) (C0:PySem.W.CodeHd X.base c T) (hb:qew X.mg X.base) (hq:X.env.qual++("<lambda>" :Str)=qual)
  (hfn: ∀x,X.fn x=true) (hk:scope.kind= .function) (hco:scope.isCoroutine=false) (hgen:scope.isGenerator=false) (hcell: ∀y∈scope.names,y.2≠.cell)
  (hfree: ∀y∈scope.names,y.2= .free->X.env.kindOf y.1=some .cell\/X.env.kindOf y.1=some .free) (hfr: ∀p∈fr,X.N[p.2]? =some p.1/\scope.names.lookup p.1=some .free) (hd:defaultsOf params X.env=([],[]))
  (hbd: ∀(clos:List (Str×Addr)) (pm cv ctv:Value),bindArgs (PySem.W.kla_fn "<lambda>" qual params body scope clos pm cv ctv) ⟨[],[]⟩=pure []) (hr:qcu (k+3) X.A)
  (tab: ∀H,M.G.P H->qiJ T qual H) (keep: ∀H H2,M.G.P H->qdT T H H2->qiJ T qual H2->M.G.P H2)
  (hbody: ∀(A:Around) (outer:List Env) (s:Shared) (H:Hp) (f c':Addr) (E:XK),qcu k (A.deeper (qdo scope s.heap.objs.size (clOf X.env scope.names []) qual f c'))->
   DE ⟨M.K,M.G,E,M.C,0⟩ (qhe X.prog X.w X.K X.mg X.base (fr.map (·.1)) (qdo scope s.heap.objs.size (clOf X.env scope.names []) qual f c') A outer s H E) body dE)
  (hst:starEach [.Lambda params body scope lpos] X.env=(false,eval (.Lambda params body scope lpos) X.env)::starEach [] X.env:=by rfl):
  DE M X (.Call (.Name "_law_told" p) [.Lambda params body scope lpos] [] pos) (qaO wd (fr.map (·.2)) dE):=by
 obtain ⟨tx,⟨fT,fdT,F1,F2,F3⟩,CA,bmA,fC,fdC,wa,a1,a2,a3,a4,a5,a6,a7⟩:=F
 refine PE.weak (qmU tx F1 F2 F3 hgT a1 a2 a3 a4 a5 a6 (qmV hcode C0 hb hfree hd hq) hfn hk hco hgen hcell hfree hfr hbd hr (t:=λE=>tP ⟨M.K,M.G,E,M.C,0⟩ dE) hbody (λE E' σ H Q h t=>qmB E E' σ H Q h t) hst) λσ H Q hq=> ?_
 obtain ⟨H0,B0,ρ,B,ev,w⟩:=hq
 refine ⟨tab H ev.gm,λf c' ctv H' tq same dm hf0 hf hc=> ?_⟩
 obtain ⟨ps,hP,_⟩:=tab H ev.gm
 have g1:GX H H':=⟨λa o e n=>same a o e λz=>by rw[z,hP] at e; cases e; exact n _ rfl,dm⟩
 have gr:=qa2.ofGX ev.bh ev.bt g1
 have m1:=keep H H' ev.gm same tq
 have evc:=qj3 (own:=[]) (fr:=fr) ev
 refine ⟨H',B,qcF 0 (fr.map (·.2)) ρ,B,⟨.refl gr.bh ev.bt,m1,evc.len,λi s e=> ?_,λi j si sj p hij ei ej oi=> ?_⟩,?_⟩
 ·have o:=evc.sl i s e
  have no:=qdh i s e
  cases s with
  | no=>trivial
  | fz t=>exact o
  | _=>cases no
 ·rw[qdh i si ei] at oi; cases oi
 ·have w:=w
  unfold qaO at w
  cases q:dE (qcF 0 (fr.map (·.2)) ρ) with
  | no=>rw[q] at w; exact w
  | ok t=>rw[q] at w; exact λv H2 B2 g2 m2 r2=>w v H2 B2 (gr.trans g2) m2 r2
  | ex c=>
   rw[q] at w
   intro H2 g2 m2
   dsimp only at w
   cases q2:wd c with
   | none=>rw[q2] at w; exact w.elim
   | some x=>
    rw[q2] at w
    obtain ⟨bm,b1,b2,b3⟩:=a7 c x q2
    exact ⟨M.C c,bm,x,rfl,b1,b2,b3,λH3 s3=>w (.str x) H3 B (qa2.ofGX ev.bh ev.bt ((g1.trans g2).trans (.same s3))) (M.G.st H2 H3 (λa o e _ _ _ _=>s3 a o e) m2) (by unfold Rep; rfl)⟩
end
def qiu (l:List (Addr×Pos×Str)) (m:List (Addr×Str)):Gam where
 P:=λH=>(qjX l).P H/\∀p∈m,qiJ p.1 p.2 H
 st:=λH H' k h=>⟨(qjX l).st H H' k h.1,λp hp=>by
  obtain ⟨ps,h1,h2,h3⟩:=h.2 p hp
  refine ⟨ps,k _ _ h1 (λ_ z=>by cases z) (λ_ z=>by cases z) (λ_ z=>by cases z) (λ_ _ _ z=>by cases z),h2,λpos v e=> ?_⟩
  obtain ⟨c,e1,e2⟩:=h3 pos v e
  exact ⟨c,e1,k _ _ e2 (λ_ z=>by cases z) (λ_ z=>by cases z) (λ_ z=>by cases z) (λ_ _ _ z=>by cases z)⟩⟩
section
variable {l:List (Addr×Pos×Str)} {m:List (Addr×Str)} {P:Addr} {lpos:Pos} {qual:Str}
theorem qfP {H H2:Hp} {Q:Addr} {ps:Array Value} (h:qiJ Q qual H) (hP:H P=some (.tbl ps)) (ne:Q≠P) (s:qdT P H H2):qiJ Q qual H2:=by
 obtain ⟨qs,h1,h2,h3⟩:=h
 refine ⟨qs,s _ _ h1 ne,h2,λpos v e=> ?_⟩
 obtain ⟨c,e1,e2⟩:=h3 pos v e
 exact ⟨c,e1,s _ _ e2 λz=>by rw[z,hP] at e2; cases e2⟩
theorem qjY (h:(P,lpos,qual)∈l): ∀H,(qiu l m).P H->Tab P lpos qual H:=λH g=>qhR h H g.1
theorem qgb (h:(P,lpos,qual)∈l) (nd:(l.map (·.1)++m.map (·.1)).Nodup): ∀H H2,(qiu l m).P H->qdT P H H2->Tab P lpos qual H2->(qiu l m).P H2:=λH H2 g same t=>by
 have nd:=List.nodup_append.mp nd
 have ne: ∀p∈m,p.1≠P:=λp hp z=>nd.2.2 _ (List.mem_map.mpr ⟨_,h,rfl⟩) _ (List.mem_map.mpr ⟨p,hp,rfl⟩) z.symm
 have nd:=nd.1
 obtain ⟨ps,hP,_⟩:=qhR h H g.1
 exact ⟨qit h nd H H2 g.1 same t,λp hp=>qfP (g.2 p hp) hP (ne p hp) same⟩
theorem qaK (h:(P,qual)∈m): ∀H,(qiu l m).P H->qiJ P qual H:=λH g=>g.2 _ h
theorem qaL (h:(P,qual)∈m) (nd:(l.map (·.1)++m.map (·.1)).Nodup): ∀H H2,(qiu l m).P H->qdT P H H2->qiJ P qual H2->(qiu l m).P H2:=λH H2 g same t=>by
 have nd:=List.nodup_append.mp nd
 have ne: ∀p∈l,p.1≠P:=λp hp=>nd.2.2 _ (List.mem_map.mpr ⟨p,hp,rfl⟩) _ (List.mem_map.mpr ⟨_,h,rfl⟩)
 have nd:=nd.2.1
 obtain ⟨ps,hP,_⟩:=g.2 _ h
 refine ⟨λp hp=> ?_,λp hp=> ?_⟩
 ·obtain ⟨qs,h1,h2,h3⟩:=g.1 p hp
  exact ⟨qs,same _ _ h1 (ne p hp),h2,h3.imp_right λ⟨c,a,b⟩=>⟨c,a,same _ _ b λz=>by rw[z,hP] at b; cases b⟩⟩
 ·by_cases e:p.1=P
  ·have:=qeh nd hp h e
   subst this
   exact t
  ·exact qfP (g.2 p hp) hP e same
end
end PL
end
section
namespace HD
open PySem L2 PL
abbrev e2 (x:Str) (s:Stmt):Str×Stmt:=(x,s)
abbrev c2 (x:Str) (n:Int):Str×Int:=(x,n)
def qrs (K:PySem.W.Frag) (x:Str):Option (Addr×Obj):=match PySem.W.nsIn K mainGlobals x with
 | some (some (.ref f))=>(match K.lookup f with | some o=>some (f,o) | none=>none)
 | _=>none
def qnp (K:PySem.W.Frag) (x:Str):Option FuncData:=match qrs K x with
 | some (_,⟨_,_,.func fd,_⟩)=>some fd
 | _=>none
def okD (K:PySem.W.Frag) (x:Str):Bool:=match qrs K x with
 | some (f,⟨_,_,.func fd,_⟩)=>PySem.W.codeIn K fd.code x&&PySem.W.keepIn K (.ref f)
 | _=>false
def due (x:Str) (st:Stmt) (fd:FuncData):FuncData:=PySem.W.fnOf x x (qaz st) (qav st) (qad st) .none fd.kwdefaults fd.doc fd.pyModule fd.annotations fd.code fd.closureTuple
def okN (K:PySem.W.Frag) (x:Str):Bool:=match PySem.W.nsIn K mainGlobals x with
 | some none=>true
 | _=>false
def okC (K:PySem.W.Frag) (c:Str×Int):Bool:=match PySem.W.nsIn K mainGlobals c.1 with
 | some (some (.int n _))=>n==c.2
 | _=>false
def Df (K:PySem.W.Frag) (mg:Str->Option Value) (x:Str) (st:Stmt):Prop:=
 ∃(f:Addr) (oc:Value) (od:Option Addr) (osl:Array (Option Value)) (kV doc pm:Value) (an:Option Addr) (cdv ct:Value),
  K.lookup f=some ⟨oc,od,.func (PySem.W.fnOf x x (qaz st) (qav st) (qad st) .none kV doc pm an cdv ct),osl⟩/\PySem.W.codeIn K cdv x=true/\PySem.W.keepIn K (.ref f)=true/\mg x=some (.ref f)/\
   PySem.W.nsIn K mainGlobals x=some (some (.ref f))
section
variable {K:PySem.W.Frag} {h:Heap} {mg:Str->Option Value} {x:Str} {st:Stmt} {tb:List (Str×Stmt)}
theorem qrw (X:K.In h) (G:h.Ns mainGlobals mg) (a:okD K x=true) (e:qnp K x=(qnp K x).map (due x st)):Df K mg x st:=by
 unfold okD at a
 unfold qnp at e
 split at a
 ·rename_i f oc od fd osl q
  rw[q] at e
  have e:fd=due x st fd:=Option.some.inj e
  unfold qrs at q
  split at q
  ·rename_i f' n
   split at q
   ·rename_i o lk
    cases q
    have a:=Bool.and_eq_true_iff.mp a
    exact ⟨_,_,_,_,fd.kwdefaults,fd.doc,fd.pyModule,fd.annotations,fd.code,fd.closureTuple,by rw[lk,show PySem.W.fnOf x x (qaz st) (qav st) (qad st) .none fd.kwdefaults fd.doc fd.pyModule fd.annotations fd.code fd.closureTuple=fd from e.symm],a.1,a.2,PySem.W.mg_of X G n,n⟩
   ·cases q
  ·cases q
 ·cases a
theorem qpn (X:K.In h) (G:h.Ns mainGlobals mg) (a:(tb.all λp=>okD K p.1)=true) (e:tb.map (λp=>qnp K p.1)=tb.map λp=>(qnp K p.1).map (due p.1 p.2)): ∀(i:Nat) (x:Str) (st:Stmt),tb[i]? =some (x,st)->Df K mg x st:=λi x st hi=>by
 have a:=List.all_eq_true.mp a _ (List.mem_of_getElem? hi)
 have e:=congrArg (λl=>l[i]?) e
 simp only[List.getElem?_map,hi,Option.map_some] at e
 exact qrw X G a (Option.some.inj e)
theorem qri (X:K.In h) (G:h.Ns mainGlobals mg) {l:List Str} (a:l.all (okN K)=true): ∀x∈l,mg x=none:=λx hx=>by
 have a:=List.all_eq_true.mp a x hx
 unfold okN at a
 split at a
 ·rename_i q; exact PySem.W.mg_none_of X G q
 ·cases a
theorem qrD (X:K.In h) (G:h.Ns mainGlobals mg) {l:List (Str×Int)} (a:l.all (okC K)=true): ∀(i:Nat) (x:Str) (n:Int),l[i]? =some (x,n)->∃u,mg x=some u/\RelV (.int n) u:=λi x n hi=>by
 have a:=List.all_eq_true.mp a _ (List.mem_of_getElem? hi)
 unfold okC at a
 split at a
 ·rename_i m tk q
  have:m=n:=by simpa using a
  subst this
  exact ⟨_,PySem.W.mg_of X G q,_,rfl⟩
 ·cases a
end
section
variable {P:Program} {w:World} {K:PySem.W.Frag} {mg:Str->Option Value} {base:Heap} {G:Gam} {C:Str->Addr} {x:Str} {st:Stmt} {ps:List Str} {k:Nat} {t:List T->Rs T}
theorem qnE (D:Df K mg x st) {c T:Addr} (ht:PySem.W.tabIn K x=some (c,T)): ∃(f:Addr) (oc:Value) (od:Option Addr) (osl:Array (Option Value)) (kV doc pm:Value) (an:Option Addr) (cdv ct:Value),
  K.lookup f=some ⟨oc,od,.func (PySem.W.fnOf x x (qaz st) (qav st) (qad st) .none kV doc pm an cdv ct),osl⟩/\PySem.W.codeIn K cdv x=true/\PySem.W.keepIn K (.ref f)=true/\mg x=some (.ref f)/\cdv= .ref c:=by
 obtain ⟨f,oc,od,osl,kV,doc,pm,an,cdv,ct,lk,hcd,kp,m,n⟩:=D
 refine ⟨f,oc,od,osl,kV,doc,pm,an,cdv,ct,lk,hcd,kp,m,?_⟩
 unfold PySem.W.tabIn at ht
 rw[n] at ht
 simp only[lk] at ht
 cases cdv with
 | ref c'=>
  dsimp only at ht
  split at ht
  ·split at ht
   ·cases ht; rfl
   ·cases ht
  ·cases ht
 | _=>cases ht
end
def tOf (K:PySem.W.Frag) (y:Str):Addr:=((PySem.W.tabIn K y).getD (0,0)).2
def qhg (K:PySem.W.Frag) (ys:List Str):List (Addr×Addr):=ys.map λy=>(PySem.W.tabIn K y).getD (0,0)
def okT (K:PySem.W.Frag) (ys:List Str):Bool:=decide (ys.map (tOf K)).Nodup&&ys.all λy=>match PySem.W.tabIn K y with
 | some (_,T)=>(match K.lookup T with | none=>true | some _=>false)
 | none=>false
theorem qlB {K:PySem.W.Frag} {ys:List Str} (h:okT K ys=true):ys.map (PySem.W.tabIn K)=(qhg K ys).map some/\(∀T∈(qhg K ys).map (·.2),K.lookup T=none)/\(ys.map (tOf K)).Nodup:=by
 have h:=Bool.and_eq_true_iff.mp h
 have nd:=of_decide_eq_true h.1
 have h:=List.all_eq_true.mp h.2
 refine ⟨?_,?_,nd⟩
 ·unfold qhg
  rw[List.map_map]
  refine List.map_congr_left λy hy=> ?_
  have:=h y hy
  show PySem.W.tabIn K y=some ((PySem.W.tabIn K y).getD (0,0))
  cases q:PySem.W.tabIn K y with
  | none=>rw[q] at this; cases this
  | some p=>rfl
 ·intro T hT
  obtain ⟨p,hp,rfl⟩:=List.mem_map.mp hT
  obtain ⟨y,hy,rfl⟩:=List.mem_map.mp hp
  have:=h y hy
  cases q:PySem.W.tabIn K y with
  | none=>rw[q] at this; cases this
  | some p=>
   rw[q] at this
   dsimp only at this
   show K.lookup p.2=none
   split at this
   ·assumption
   ·cases this
end HD
end
section
namespace PL
open PySem L2
section
variable {M:Md} {H0 B0 H B H' B':Hp} {ρ:Ro} {σ:St}
theorem Ev.getOd (v:Ev M H0 B0 ρ σ H B) {i:Nat} {kvs:List (Key×T)} (e:ρ[i]? =some (.od kvs)): ∃p us,σ[i]? =some (some (.ref p))/\H0 p=none/\B p=none/\H p=some (.dK us)/\qbx M.K B kvs us:=by
 obtain ⟨p,vs,e1,r⟩:=v.sl i _ e
 refine ⟨p,vs,?_,r⟩
 cases q:σ[i]? with
 | none=>rw[q] at e1; cases e1
 | some o=>rw[q] at e1; cases o with
  | none=>cases e1
  | some y=>cases e1; rfl
theorem Ev.setOd (v:Ev M H0 B0 ρ σ H B) {i:Nat} {ts:List (Key×T)} {p:Addr} {vs:List (Key×V)} (h0:H0 p=none) (hb:B p=none) (hp:H p=some (.dK vs)) (r:qbx M.K B ts vs)
  (ap: ∀(j:Nat) (s:Sl),j≠i->ρ[j]? =some s->s.own=true->σ[j]?.join≠some (.ref p)):Ev M H0 B0 (ρ.set i (.od ts)) (σ.set i (some (.ref p))) H B:=by
 by_cases hi:i<ρ.length
 case neg=>
  rw[List.set_eq_of_length_le (by lia),List.set_eq_of_length_le (by rw[<-v.len]; lia)]
  exact v
 have hi':i<σ.length:=by rw[<-v.len]; exact hi
 refine ⟨v.gr,v.gm,by simp[v.len],λj s e=> ?_,λj k sj sk p' hjk ej ek oj ok a=> ?_⟩
 ·rw[qct hi']
  rw[List.getElem?_set] at e
  by_cases q:i=j
  ·subst q
   rw[if_pos rfl,if_pos hi] at e
   cases e
   rw[if_pos rfl]
   exact ⟨p,vs,rfl,h0,hb,hp,r⟩
  ·rw[if_neg q] at e⊢
   exact v.sl j s e
 ·rw[List.getElem?_set] at ej ek
  rw[qct hi'] at a⊢
  by_cases q:i=j
  ·subst q
   rw[if_neg hjk] at ek
   rw[if_pos rfl] at a
   rw[if_neg hjk]
   cases a
   exact ap k sk (λz=>hjk z.symm) ek ok
  ·rw[if_neg q] at ej a
   by_cases q2:i=k
   ·subst q2
    rw[if_pos rfl]
    intro z
    cases z
    exact ap j sj hjk ej oj a
   ·rw[if_neg q2] at ek⊢
    exact v.ap j k sj sk p' hjk ej ek oj ok a
theorem Ev.newOd {p:Addr} {vs:List (Key×V)} {ts:List (Key×T)} (i:Nat) (ev:Ev M H0 B0 ρ σ H B) (g:qa2 H B H' B') (m:M.G.P H') (hp:H p=none) (hb:B' p=none) (hl:H' p=some (.dK vs)) (r:qbx M.K B' ts vs):
  Ev M H0 B0 (ρ.set i (.od ts)) (σ.set i (some (.ref p))) H' B':=by
 refine (ev.grow g m).setOd (qbD ev.gr.gx hp) hb hl r λj s hj e o z=> ?_
 have q:=ev.sl j s e
 cases s with
 | no=>cases o
 | fz t=>cases o
 | ow ts'=>
  obtain ⟨p',vs',a1,a2,a3,a4,a5⟩:=q
  rw[a1] at z; cases z
  rw[a4] at hp; cases hp
 | od ts'=>
  obtain ⟨p',vs',a1,a2,a3,a4,a5⟩:=q
  rw[a1] at z; cases z
  rw[a4] at hp; cases hp
 | ou ts'=>
  obtain ⟨p',vs',a1,a2,a3,a4,a5⟩:=q
  rw[a1] at z; cases z
  rw[a4] at hp; cases hp
 | pd ts'=>
  obtain ⟨p',vs',a0,a1,a2,a3,a4,a5⟩:=q
  rw[a1] at z; cases z
  rw[a4] at hp; cases hp
 | pu ts'=>
  obtain ⟨p',vs',a0,a1,a2,a3,a4,a5⟩:=q
  rw[a1] at z; cases z
  rw[a4] at hp; cases hp
theorem Ev.putOd (v:Ev M H0 B0 ρ σ H B) {i:Nat} {ts us:List (Key×T)} {p:Addr} {ws:List (Key×V)} (e:ρ[i]? =some (.od ts)) (es:σ[i]? =some (some (.ref p))) (r:qbx M.K B us ws):Ev M H0 B0 (ρ.set i (.od us)) σ (upd H p (.dK ws)) B:=by
 obtain ⟨q,vs,e1,h0,hb,hp,_⟩:=v.getOd e
 rw[es] at e1; cases e1
 have hi:i<ρ.length:=(List.getElem?_eq_some_iff.mp e).1
 have neB: ∀a o,B a=some o->a≠p:=λa o z w=>by rw[w,hb] at z; cases z
 refine ⟨⟨⟨λa o z n=> ?_,λa z w=> ?_⟩,v.gr.bb,λa o z=> ?_,v.gr.bt,v.gr.nw⟩,M.G.st H _ (λa o z n1 n2 n3 n4=> ?_) v.gm,by simp[v.len],λj s ej=> ?_,λj k sj sk p' hjk ej ek oj ok a=> ?_⟩
 ·rw[qae (qao z h0)]; exact v.gr.gx.hh a o z n
 ·by_cases q:a=p
  ·subst q; exact z h0
  ·rw[qae q] at w; exact v.gr.gx.dm a z w
 ·rw[qae (neB a o z)]; exact v.gr.bh a o z
 ·rw[qae (qlg z hp (n2 _))]; exact z
 ·rw[List.getElem?_set] at ej
  by_cases q:i=j
  ·subst q
   rw[if_pos rfl,if_pos hi] at ej
   cases ej
   exact ⟨p,ws,by rw[es]; rfl,h0,hb,qak,r⟩
  ·rw[if_neg q] at ej
   have o:=v.sl j s ej
   cases s with
   | no=>trivial
   | fz t=>exact o
   | ow ts'=>
    obtain ⟨p',vs',a1,a2,a3,a4,a5⟩:=o
    have ne:p'≠p:=λz=>by
     subst z
     exact v.ap i j _ _ p' q e ej rfl rfl (by rw[es]; rfl) a1
    exact ⟨p',vs',a1,a2,a3,by rw[qae ne]; exact a4,a5⟩
   | od ts'=>
    obtain ⟨p',vs',a1,a2,a3,a4,a5⟩:=o
    have ne:p'≠p:=λz=>by
     subst z
     exact v.ap i j _ _ p' q e ej rfl rfl (by rw[es]; rfl) a1
    exact ⟨p',vs',a1,a2,a3,by rw[qae ne]; exact a4,a5⟩
   | ou ts'=>
    obtain ⟨p',vs',a1,a2,a3,a4,a5⟩:=o
    have ne:p'≠p:=λz=>by
     subst z
     exact v.ap i j _ _ p' q e ej rfl rfl (by rw[es]; rfl) a1
    exact ⟨p',vs',a1,a2,a3,by rw[qae ne]; exact a4,a5⟩
   | pd ts'=>
    obtain ⟨p',vs',a0,a1,a2,a3,a4,a5⟩:=o
    have ne:p'≠p:=λz=>by
     subst z
     exact v.ap i j _ _ p' q e ej rfl rfl (by rw[es]; rfl) a1
    exact ⟨p',vs',a0,a1,a2,a3,by rw[qae ne]; exact a4,a5⟩
   | pu ts'=>
    obtain ⟨p',vs',a0,a1,a2,a3,a4,a5⟩:=o
    have ne:p'≠p:=λz=>by
     subst z
     exact v.ap i j _ _ p' q e ej rfl rfl (by rw[es]; rfl) a1
    exact ⟨p',vs',a0,a1,a2,a3,by rw[qae ne]; exact a4,a5⟩
 ·have own_at: ∀(l:Nat) (sl:Sl),(ρ.set i (.od us))[l]? =some sl->sl.own=true->∃sl',ρ[l]? =some sl'/\sl'.own=true:=λl sl el ol=>by
   rw[List.getElem?_set] at el
   by_cases q:i=l
   ·subst q; exact ⟨_,e,rfl⟩
   ·rw[if_neg q] at el; exact ⟨sl,el,ol⟩
  obtain ⟨sj',ej',oj'⟩:=own_at j sj ej oj
  obtain ⟨sk',ek',ok'⟩:=own_at k sk ek ok
  exact v.ap j k sj' sk' p' hjk ej' ek' oj' ok' a
theorem Ev.freezeD (v:Ev M H0 B0 ρ σ H B) {i:Nat} {ts:List (Key×T)} (e:ρ[i]? =some (.od ts)): ∃B',Le B B'/\Ev M H0 B0 (ρ.set i (.fz (.dct ts))) σ H B':=by
 obtain ⟨p,vs,es,h0,hb,hp,r⟩:=v.getOd e
 have hi:i<ρ.length:=(List.getElem?_eq_some_iff.mp e).1
 have le:Le B (upd B p (.dK vs)):=λa o z=>by rw[qae (qao z hb)]; exact z
 refine ⟨upd B p (.dK vs),le,⟨v.gr.gx,v.gr.bb.trans le,λa o z=> ?_,λa ps z=> ?_,λa o z n1 n2=> ?_⟩,v.gm,by simp[v.len],λj s ej=> ?_,λj k sj sk p' hjk ej ek oj ok a=> ?_⟩
 ·by_cases q:a=p
  ·subst q; rw[qak] at z; cases z; exact hp
  ·rw[qae q] at z; exact v.gr.bh a o z
 ·by_cases q:a=p
  ·subst q; rw[qak] at z; cases z
  ·rw[qae q] at z; exact v.gr.bt a ps z
 ·rw[qae (λq=>by rw[q,h0] at z; cases z)]; exact v.gr.nw a o z n1 n2
 ·rw[List.getElem?_set] at ej
  by_cases q:i=j
  ·subst q
   rw[if_pos rfl,if_pos hi] at ej
   cases ej
   refine ⟨.ref p,by rw[es]; rfl,?_⟩
   unfold Rep
   exact ⟨p,vs,rfl,qak,r.mono le⟩
  ·rw[if_neg q] at ej
   have o:=v.sl j s ej
   cases s with
   | no=>trivial
   | fz t=>obtain ⟨x,a1,a2⟩:=o; exact ⟨x,a1,a2.mono le⟩
   | ow ts'=>
    obtain ⟨p',vs',a1,a2,a3,a4,a5⟩:=o
    have ne:p'≠p:=λz=>by
     subst z
     exact v.ap i j _ _ p' q e ej rfl rfl (by rw[es]; rfl) a1
    exact ⟨p',vs',a1,a2,by rw[qae ne]; exact a3,a4,a5.mono le⟩
   | od ts'=>
    obtain ⟨p',vs',a1,a2,a3,a4,a5⟩:=o
    have ne:p'≠p:=λz=>by
     subst z
     exact v.ap i j _ _ p' q e ej rfl rfl (by rw[es]; rfl) a1
    exact ⟨p',vs',a1,a2,by rw[qae ne]; exact a3,a4,a5.mono le⟩
   | ou ts'=>
    obtain ⟨p',vs',a1,a2,a3,a4,a5⟩:=o
    have ne:p'≠p:=λz=>by
     subst z
     exact v.ap i j _ _ p' q e ej rfl rfl (by rw[es]; rfl) a1
    exact ⟨p',vs',a1,a2,by rw[qae ne]; exact a3,a4,a5.mono le⟩
   | pd ts'=>
    obtain ⟨p',vs',a0,a1,a2,a3,a4,a5⟩:=o
    have ne:p'≠p:=λz=>by
     subst z
     exact v.ap i j _ _ p' q e ej rfl rfl (by rw[es]; rfl) a1
    exact ⟨p',vs',a0,a1,a2,by rw[qae ne]; exact a3,a4,a5.mono le⟩
   | pu ts'=>
    obtain ⟨p',vs',a0,a1,a2,a3,a4,a5⟩:=o
    have ne:p'≠p:=λz=>by
     subst z
     exact v.ap i j _ _ p' q e ej rfl rfl (by rw[es]; rfl) a1
    exact ⟨p',vs',a0,a1,a2,by rw[qae ne]; exact a3,a4,a5.mono le⟩
 ·rw[List.getElem?_set] at ej ek
  by_cases q:i=j
  ·subst q; rw[if_pos rfl,if_pos hi] at ej; cases ej; cases oj
  ·by_cases q2:i=k
   ·subst q2; rw[if_pos rfl,if_pos hi] at ek; cases ek; cases ok
   ·rw[if_neg q] at ej
    rw[if_neg q2] at ek
    exact v.ap j k sj sk p' hjk ej ek oj ok a
end
def qhN:T->Option Key
 | .int i=>some (.inl i)
 | .str x=>some (.inr x)
 | _=>none
def qbv:Key->T
 | .inl i=>.int i
 | .inr x=>.str x
def qqO (kvs:List (Key×T)) (k:Key) (t:T):List (Key×T):=if (kvs.any λkv=>decide (kv.1=k))=true then kvs.map (λkv=>if kv.1=k then (kv.1,t) else kv) else kvs++[(k,t)]
def qnN (kvs:List (Key×T)) (k:Key):Option T:=(kvs.find? λkv=>decide (kv.1=k)).map (·.2)
section
variable {K:PySem.W.Frag} {B:Hp}
theorem qbx.nil:qbx K B [] []:=by unfold qbx; rfl
theorem qbx.cons {k:Key} {t:T} {v:V} {ts:List (Key×T)} {vs:List (Key×V)} (h:Rep K B t v) (r:qbx K B ts vs):qbx K B ((k,t)::ts) ((k,v)::vs):=by unfold qbx; exact ⟨v,vs,rfl,h,r⟩
theorem qbx.inv {k:Key} {t:T} {ts:List (Key×T)} {vs:List (Key×V)} (h:qbx K B ((k,t)::ts) vs): ∃v r,vs=(k,v)::r/\Rep K B t v/\qbx K B ts r:=by unfold qbx at h; exact h
theorem qbx.inv0 {vs:List (Key×V)} (h:qbx K B [] vs):vs=[]:=by unfold qbx at h; exact h
theorem qbx.length: ∀{ts:List (Key×T)} {vs:List (Key×V)},qbx K B ts vs->vs.length=ts.length
 | [],_,h=>by rw[h.inv0]; rfl
 | (_,_)::_,_,h=>by
  obtain ⟨v,r,rfl,_,h'⟩:=h.inv
  simp[qbx.length h']
theorem qbx.any (k:Key): ∀{ts:List (Key×T)} {vs:List (Key×V)},qbx K B ts vs->(vs.any λkv=>decide (kv.1=k))=ts.any λkv=>decide (kv.1=k)
 | [],_,h=>by rw[h.inv0]; rfl
 | (_,_)::_,_,h=>by
  obtain ⟨v,r,rfl,_,h'⟩:=h.inv
  rw[List.any_cons,List.any_cons,qbx.any k h']
theorem qbx.repl (k:Key) {t:T} {v:V} (h:Rep K B t v): ∀{ts:List (Key×T)} {vs:List (Key×V)},qbx K B ts vs->qbx K B (ts.map λkv=>if kv.1=k then (kv.1,t) else kv) (vs.map λkv=>if kv.1=k then (kv.1,v) else kv)
 | [],_,r=>by rw[r.inv0]; exact .nil
 | (j,u)::_,_,r=>by
  obtain ⟨x,rr,rfl,a,b⟩:=r.inv
  rw[List.map_cons,List.map_cons]
  by_cases c:j=k
  ·rw[if_pos c,if_pos c]; exact .cons h (qbx.repl k h b)
  ·rw[if_neg c,if_neg c]; exact .cons a (qbx.repl k h b)
theorem qbx.snoc {k:Key} {t:T} {v:V} (h:Rep K B t v): ∀{ts:List (Key×T)} {vs:List (Key×V)},qbx K B ts vs->qbx K B (ts++[(k,t)]) (vs++[(k,v)])
 | [],_,r=>by rw[r.inv0]; exact .cons h .nil
 | (_,_)::_,_,r=>by
  obtain ⟨x,rr,rfl,a,b⟩:=r.inv
  exact .cons a (qbx.snoc h b)
theorem qbx.put {k:Key} {t:T} {v:V} {ts:List (Key×T)} {vs:List (Key×V)} (r:qbx K B ts vs) (h:Rep K B t v):qbx K B (qqO ts k t) (qik vs k v):=by
 unfold qqO qik
 rw[r.any k]
 split
 ·exact r.repl k h
 ·exact r.snoc h
theorem qbx.val (k:Key): ∀{ts:List (Key×T)} {vs:List (Key×V)},qbx K B ts vs->(∀t,qnN ts k=some t->∃v,qgD vs k=some v/\Rep K B t v)/\(qnN ts k=none->qgD vs k=none)
 | [],_,r=>by rw[r.inv0]; exact ⟨(λt z=>by cases z),(λ_=>rfl)⟩
 | (j,u)::_,_,r=>by
  obtain ⟨x,rr,rfl,a,b⟩:=r.inv
  obtain ⟨h1,h2⟩:=qbx.val k b
  unfold qnN qgD at*
  rw[List.find?_cons,List.find?_cons]
  by_cases c:j=k
  ·simp[c]
   exact a
  ·simp only[c,decide_false]
   exact ⟨h1,h2⟩
end
end PL
end
section
namespace St
open PySem PySem.W PySem.Calls PyProof.Rows
section
variable {prog:Program} {w:World} {A:Around} {E:Value->Shared->Prop} {s:Shared} {v:Value} {Q:Value->Shared->Prop}
theorem sorted_c (hcol:wpAny (model prog w) A.in1 (collect v) (λvs s1=> ∃(h1:Heap) (t1:Nat) (κ:SortKind) (kz:List Int),s1={ s with heap:=h1,toks:=t1 }/\Kp s.heap h1/\kz.length=vs.length/\vs.length<64/\
   (∀s':Shared,Kp h1 s'.heap->2<=vs.length->∀(Q:SortKind->Shared->Prop) (E:Value->Shared->Prop),Q κ s'->wpAny (model prog w) A.in1.in1 (keyKind' vs.toArray) Q E s')/\
   (∀s':Shared,Kp h1 s'.heap->∀i j,i<vs.length->j<vs.length->∀C:Bool->Shared->Prop,C (decide (kz.getD i 0<kz.getD j 0)) s'->wpAny (model prog w) A.in1.in1 (keyLt' κ (vs.getD i Value.none) (vs.getD j Value.none)) C (λ_ _=>False) s')/\
   ∀D h' tk c (p:Array Nat),h1.objs.size<=D->Kp h1 h'->qcz kz vs.length p->h'.get? D=some (seqObj "list" (List.toArray (p.toList.map λi=>vs.getD i Value.none)) c)->Q (.ref D) { s with heap:=h',toks:=tk }) E s):
  wpAny (model prog w) A (call (.builtin "sorted") [v]) Q E s:=by
 refine Calls.call_function_entry kind_sorted plain_sorted entry_sorted (args_sorted1 _) ?_
 unfold Builtin.«sorted»
 refine wpAny_bind (m:=checkCount "sorted" 1 1 _) (wpAny_pure ?_)
 refine wpAny_bind (wpAny_mono hcol (λvs s1 h=> ?_) λ_ _ x=>x)
 obtain ⟨H1,t1,κ,kz,rfl,kp1,hlen,h64,kind,cmp,h⟩:=h
 refine wpAny_bind (wpAny_newList ?_ (by rw[sizeLine_eq]; lia))
 have kp2:Kp H1 (H1.push (seqObj "list" vs.toArray 0)):=λb o q=>Heap.get?_push_of_some _ q
 have hoD:(H1.push (seqObj "list" vs.toArray 0)).get? H1.objs.size=some (seqObj "list" vs.toArray 0):=Heap.get?_push_size _ rfl
 refine wpAny_bind (wpAny_holding (wpAny_call_entry slot_list_sort ⟨_,hoD,rfl⟩ entry_list_sort ?body (args_list_sort _)))
 case body=>
  refine lsort_p (h0:=H1) (kz:=kz) (κ:=κ) (s:={ s with heap:=H1.push (seqObj "list" vs.toArray 0),toks:=t1 }) hoD hlen h64 kp2 (get_none (Nat.le_refl _)) (λs' k h2 Q hq=>kind s' k h2 Q _ hq) cmp λh' tk c p a1 a2 a3=>⟨_,rfl,?_⟩
  exact wpAny_pure ⟨_,rfl,h _ h' tk c p (Nat.le_refl _) a1 a2 a3⟩
end
end St
end
section
namespace L2
open PySem PySem.Spec PyProof.Rows
def ovl (F ex:Hp):Hp:=λb=>match ex b with | some o=>some o | none=>F b
theorem qdX {F ex:Hp} {b:Addr} {o:HO} (h:ex b=some o):ovl F ex b=some o:=by unfold ovl; rw[h]
theorem qbR {F ex:Hp} {b:Addr} (h:ex b=none):ovl F ex b=F b:=by unfold ovl; rw[h]
theorem Inv.laidF {X:Cx} {pins:List (Addr×Obj)} {σ:St} {H ex:Hp} {s:Shared} {h':Heap} {t':Nat} (I:Inv X pins σ H s) (k: ∀b u,s.heap.get? b=some u->h'.get? b=some u) (hp: ∀b o,ex b=some o->s.heap.objs.size<=b) (new: ∀b o,ex b=some o->qbu X.prog X.w (ovl H ex) h' b o):
  Inv X pins σ (ovl H ex) { s with heap:=h',toks:=t' }:=by
 have old: ∀b,b<s.heap.objs.size->ex b=none:=λb hb=>by
  cases e:ex b with
  | none=>rfl
  | some o=>exact absurd (hp b o e) (by exact Nat.not_le_of_lt hb)
 have oldH: ∀b o,H b=some o->ovl H ex b=some o:=λb o e=>by rw[qbR (old b (I.hok b o e).lt)]; exact e
 refine I.step (g':=s.gens) (d':=s.drawn) (ch:=[]) (λ_ z=>nomatch z) (λb o _ _ _ e n=>k b o e) (λb o _ _ _ e n=>⟨o.slots,k b o e⟩) (λb o _ e n=>by rw[qbR (old b (Heap.lt_size e))]; exact n)
  (λb o _ e=>⟨o,k b o e⟩) (λb xs e=>oldH b _ e) (λb o u e=>oldH b _ e) (λb qs e=>⟨#[],by rw[oldH b _ e]; simp⟩) (λm hm=>hm.keeps k) (λb u e=> ?_) I.bare
 cases z:ex b with
 | some o=>
  rw[qdX z] at e; cases e
  exact new b _ z
 | none=>
  rw[qbR z] at e
  exact (I.hok b u e).stay (λc v _ q=>k c v q) (λc q=>oldH c _ q) λc xs q=>oldH c _ q
theorem qrm {P:Program} {w:World} {k:Key} {u:Value} (h:(qaI P w).is k u=true):RelV (kV k) u:=by
 cases k with
 | inl i=>
  cases u with
  | int j t=>
   have:j=i:=by simpa [qaI,keyIs,Value.isInt,Value.isStrOf] using h
   subst this; exact ⟨t,rfl⟩
  | _=>simp[qaI,keyIs,Value.isInt,Value.isStrOf] at h
 | inr x=>
  cases u with
  | str j t=>
   have:j=x:=by simpa [qaI,keyIs,Value.isInt,Value.isStrOf] using h
   subst this; exact ⟨t,rfl⟩
  | _=>simp[qaI,keyIs,Value.isInt,Value.isStrOf] at h
theorem qir {prog:Program} {w:World} {A:Around} {E:Value->Shared->Prop} {s:Shared} {a:Addr} {o:Obj} {Q:Value->Shared->Prop} (ho:s.heap.get? a=some o) (hx:o.ExactDict) (hs:(a==sysModules)=false)
  (h:Q (.ref s.heap.objs.size) { s with heap:=s.heap.push { cls:=.type "dict_items",data:=.fields #[.ref a] } }):wpAny (model prog w) A (call (.builtin "dict.items") [.ref a]) Q E s:=by
 refine wpAny_call_entry PySem.F.slot_dict_items ⟨o,ho,hx.1⟩ PySem.F.entry_dict_items ?_ (PySem.F.args_dict_items_1 _)
 unfold Builtin.«dict.items» Builtin.Dict.noArgs
 have ty:s.TypeIs (.ref a) "dict" :=⟨o,ho,hx.1⟩
 repeat (any_goals (first | assumption | wp_step))
 rw[hx.1,if_neg (by decide)]
 refine wpAny_pure ?_
 show wpAny _ _ (Builtin.Dict.nameIsSure "items" _ false>>=λ_=>(selfOnly _ _>>=λx=>Builtin.Dict.addrOf x)) _ _ _
 have e1:Builtin.Dict.nameIsSure "items" { pos:=[Value.ref a] } false=pure ():=rfl
 rw[e1]
 refine wpAny_bind (wpAny_pure ?_)
 refine wpAny_bind (m:=selfOnly _ _) (wpAny_pure ?_)
 refine wpAny_pure (?_)
 have e2:Builtin.Dict.showsAll a=pure ():=by unfold Builtin.Dict.showsAll; rw[if_neg (by rw[hs]; decide)]
 rw[e2]
 refine wpAny_bind (wpAny_pure ?_)
 refine wpAny_bind (wpAny_newObj_type ?_)
 exact wpAny_pure ⟨_,rfl,h⟩
theorem KV.get {us:List (Key×V)} {vs:List (Key×Value)} (r:KV us vs): ∀{j:Nat} {k:Key} {x:Value},vs[j]? =some (k,x)->∃v,us[j]? =some (k,v)/\RelV v x:=by
 induction r with
 | nil=>intro j k x e; simp at e
 | cons h t ih=>
  intro j k x e
  cases j with
  | zero=>
   rename_i p q _ _
   simp at e
   subst e
   obtain ⟨p1,p2⟩:=p
   have h1:p1=k:=h.1
   exact ⟨p2,by rw[<-h1]; rfl,h.2⟩
  | succ j=>
   obtain ⟨v,e1,e2⟩:=ih (j:=j) (by simpa using e)
   exact ⟨v,by simpa using e1,e2⟩
theorem qhU {α:Type}: ∀{as:List Addr} {us:List α} {j:Nat} {a:Addr} {u:α},as.Pairwise (λx y=>x<y)->as[j]? =some a->us[j]? =some u->(as.zip us).find? (λq=>q.1==a)=some (a,u)
 | [],_,_,_,_,_,e,_=>by simp at e
 | _::_,[],_,_,_,_,_,e=>by simp at e
 | b::as,w::us,0,a,u,_,e1,e2=>by
  simp at e1 e2
  subst e1 e2
  simp
 | b::as,w::us,j+1,a,u,pw,e1,e2=>by
  have pw:=List.pairwise_cons.mp pw
  have e1:as[j]? =some a:=by simpa using e1
  have e2:us[j]? =some u:=by simpa using e2
  have hlt:b<a:=pw.1 a (List.mem_of_getElem? e1)
  rw[List.zip_cons_cons,List.find?_cons]
  have:(b==a)=false:=by simp; exact Nat.ne_of_lt hlt
  simp only[this]
  exact qhU pw.2 e1 e2
end L2
end
section
namespace PL
open PySem L2 SR SetL
def tD (M:Md) (d:Ro->Rs (List (Key×T))):TE:=λσ H Q=> ∃H0 B0 ρ B,Ev M H0 B0 ρ σ H B/\Wnt M H0 (λa=> ∀p us H' B',qa2 H B H' B'->M.G.P H'->H' p=some (.dK us)->qbx M.K B' a us->Q (.ref p) H') (d ρ)
abbrev DD (M:Md) (X:Cx) (e:Expr) (d:Ro->Rs (List (Key×T))):Prop:=PE X e (tD M d)
def dDV (i:Nat):Ro->Rs (List (Key×T)):=λρ=>match ρ[i]? with | some (.od kvs)=>.ok kvs | some (.fz (.dct kvs))=>.ok kvs | _=>.no
def qrx:T->Rs (List (Key×T))
 | .dct kvs=>.ok kvs
 | _=>.no
def dDE (da:Ro->Rs T):Ro->Rs (List (Key×T)):=λρ=>da ρ>>=qrx
theorem qi5 {K:PySem.W.Frag} {B:Hp} {kvs:List (Key×T)} {v:V} (r:Rep K B (.dct kvs) v): ∃p us,v= .ref p/\B p=some (.dK us)/\qbx K B kvs us:=by unfold Rep at r; exact r
theorem qjH {K:PySem.W.Frag} {B:Hp} {t:T} {k:Key} {v:V} (h:qhN t=some k) (r:Rep K B t v):v=kV k:=by
 cases t with
 | int i=>cases h; exact qau r
 | str x=>cases h; exact qaG r
 | _=>cases h
theorem qkP {K:PySem.W.Frag} {B:Hp} (k:Key):Rep K B (qbv k) (kV k):=by
 cases k with
 | inl i=>exact qbL
 | inr x=>exact qhD
section
variable {M:Md} {X:Cx} {e o k value:Expr} {pos pos' p1 apos cpos:Pos} {da dk:Ro->Rs T} {dd:Ro->Rs (List (Key×T))} {i:Nat} {x:Str} {st:Stmt} {sts:List Stmt} {d:Ro->Rs Out}
theorem qcN (h:PE X e (qiN i)):DD M X e (dDV i):=by
 refine PE.weak h λσ H Q hq28=> ?_
 obtain ⟨H0,B0,ρ,B,ev,w⟩:=hq28
 unfold dDV at w
 split at w
 ·rename_i kvs e1
  obtain ⟨p,us,e2,h0,hb,hp,r⟩:=ev.getOd e1
  exact ⟨.ref p,e2,w p us H B (.refl ev.bh ev.bt) ev.gm hp r⟩
 ·rename_i kvs e1
  obtain ⟨v,e2,r⟩:=ev.get e1
  obtain ⟨p,us,rfl,hp,rd⟩:=qi5 r
  exact ⟨.ref p,e2,w p us H B (.refl ev.bh ev.bt) ev.gm (ev.bh _ _ hp) rd⟩
 ·exact w.elim
theorem qpv (h:DE M X e da):DD M X e (dDE da):=by
 refine PE.weak h λσ H Q hq40=> ?_
 obtain ⟨H0,B0,ρ,B,ev,w⟩:=hq40
 refine tP.of ev (Wnt.mono (Wnt.bind w) λt w1 v H1 B1 g1 m1 r1=> ?_)
 cases t with
 | dct kvs=>
  obtain ⟨p,us,rfl,hp,rd⟩:=qi5 r1
  exact w1 p us H1 B1 g1 m1 (g1.bh _ _ hp) rd
 | _=>exact w1.elim
def qnB (i:Nat):Ro->Rs Out:=λρ=>.ok (.nx (ρ.set i (.od [])))
theorem qj7 (hN:X.N.Nodup) (hi:X.N[i]? =some x) (hx:Loc X.env.scope x) (hs:swapsWith (.Dict [] [] p1) (some (.Name x pos')) pos.line X.env=pure false:=by rfl) (hf:X.fn x=true\/X.env.scope.names.lookup x=some .local:=by first | exact .inl rfl | exact .inr rfl | assumption):
  DS M X (.Assign [.Name x pos'] (.Dict [] [] p1) pos) (qnB i):=by
 refine PS.weak (qdH hN hi hx qk8 hs hf) λD σ H ⟨H0,B0,ρ,B,ev,w⟩ p hp=> ?_
 obtain ⟨g2,m2⟩:=ev.nown (o:=.dK []) hp
 have bp:B p=none:=by
  cases q:B p with
  | none=>rfl
  | some u=>rw[ev.bh _ _ q] at hp; cases hp
 exact w _ _ B (ev.newOd i g2 m2 hp bp qak .nil) (.refl _)
def qrW (ρ:Ro) (i:Nat):Rs Unit:=match ρ[i]? with | some (.od _)=>.ok () | _=>.no
def qoy (ρ:Ro) (i:Nat) (k:T) (t:T):Rs Out:=match ρ[i]?,qhN k with
 | some (.od kvs),some k=>if kvs.length<=1000 then .ok (.nx (ρ.set i (.od (qqO kvs k t)))) else .no
 | _,_=>.no
def qlA (i:Nat) (dk da:Ro->Rs T):Ro->Rs Out:=λρ=>qrW ρ i>>=λ_=>da ρ>>=λt=>dk ρ>>=λk=>qoy ρ i k t
theorem qj8 (hu:X.A.units+1<cLine) (ho:PE X o (qiN i)) (hk:DE M X k dk) (hv:DE M X value da) (hs:swapsWith value (some (.Subscript o k pos')) pos.line X.env=pure false:=by rfl):
  DS M X (.Assign [.Subscript o k pos'] value pos) (qlA i dk da):=by
 refine PS.weak (qmP hu ho hk hv hs) λD σ H hq66=> ?_
 obtain ⟨H0,B0,ρ,B,ev,w⟩:=hq66
 unfold qlA qrW at w
 split at w
 ·rename_i kvs0 e0
  refine tP.of ev (Wnt.mono (Wnt.bind w) λt w1 v H1 B1 g1 m1 r1=> ?_)
  have ev1:=ev.grow g1 m1
  obtain ⟨p,us,e2,h0,hb,hp,rd⟩:=ev1.getOd e0
  refine ⟨.ref p,e2,?_⟩
  refine tP.of ev1 (Wnt.mono (Wnt.bind w1) λkt w2 y H2 B2 g2 m2 r2=> ?_)
  have ev2:=ev1.grow g2 m2
  unfold qoy at w2
  split at w2
  ·rename_i kvs k' e3 e4
   rw[e0] at e3; cases e3
   split at w2
   ·rename_i hl
    obtain ⟨p',us',e2',h0',hb',hp',rd'⟩:=ev2.getOd e0
    rw[e2] at e2'; cases e2'
    refine ⟨p,_,rfl,by rw[qjH e4 r2]; exact qpD.k hp' (by rw[rd'.length]; exact qbs hl),w2 σ _ B2 (ev2.putOd e0 e2 (rd'.put (r1.mono g2.bb))) (g1.bb.trans g2.bb)⟩
   ·exact w2.elim
  ·exact w2.elim
 ·exact w.elim
def frzD (i:Nat) (ρ:Ro):Ro:=match ρ[i]? with | some (.od kvs)=>ρ.set i (.fz (.dct kvs)) | _=>ρ
theorem Ev.frzD {H0 B0 H B:Hp} {ρ:Ro} {σ:St} (i:Nat) (ev:Ev M H0 B0 ρ σ H B): ∃B',Le B B'/\Ev M H0 B0 (frzD i ρ) σ H B':=by
 unfold PL.frzD
 split
 ·rename_i ts e1; exact ev.freezeD e1
 ·exact ⟨B,.refl _,ev⟩
theorem qnt (i:Nat) (h:DS M X st d):DS M X st (λρ=>d (frzD i ρ)):=by
 refine PS.weak h λD σ H hq96=> ?_
 obtain ⟨H0,B0,ρ,B,ev,w⟩:=hq96
 obtain ⟨B',le,ev'⟩:=ev.frzD i
 exact ⟨H0,B0,_,B',ev',Wnt.mono w λo q=>q.mono le⟩
def qsL (kvs:List (Key×T)) (k:T):Rs T:=match qhN k with
 | some k=>(match qnN kvs k with | some t=>.ok t | none=>.no)
 | none=>.no
def qmd (kvs:List (Key×T)) (k:T):Rs T:=match qhN k with
 | some k=>.ok ((qnN kvs k).getD .non)
 | none=>.no
def qh2 (dd:Ro->Rs (List (Key×T))) (dk:Ro->Rs T):Ro->Rs T:=λρ=>dd ρ>>=λkvs=>dk ρ>>=λk=>qmd kvs k
theorem qfE (hu:X.A.units+1<cLine) (ho:DD M X o dd) (hk:DE M X k dk) (m:M1 X o "get" apos k cpos):DE M X (.Call (.Attribute o "get" apos) [k] [] cpos) (qh2 dd dk):=by
 refine PE.weak (qk9 hu ho hk m) λσ H Q hq127=> ?_
 obtain ⟨H0,B0,ρ,B,ev,w⟩:=hq127
 refine ⟨H0,B0,ρ,B,ev,Wnt.mono (Wnt.bind (qaM.mp w)) λkvs w1 p us H1 B1 g1 m1 hp rd=> ?_⟩
 have ev1:=ev.grow g1 m1
 refine ⟨p,rfl,.inl ⟨us,.inl hp⟩,?_⟩
 refine tP.of ev1 (Wnt.mono (Wnt.bind w1) λkt w2 y H2 B2 g2 m2 r2=> ?_)
 unfold qmd at w2
 split at w2
 ·rename_i k' ek
  have hp2:H2 p=some (.dK us):=g2.gx.hh _ _ hp (by intro ps z; cases z)
  refine ⟨qgD us k',by rw[qjH ek r2]; exact qpE.k hp2,?_⟩
  cases et:qnN kvs k' with
  | some t=>
   obtain ⟨v,ev',rv⟩:=(rd.val k').1 t et
   rw[ev']
   rw[et] at w2
   exact w2 v H2 B2 (g1.trans g2) m2 (rv.mono g2.bb)
  | none=>
   rw[(rd.val k').2 et]
   rw[et] at w2
   exact w2 .non H2 B2 (g1.trans g2) m2 qoP
 ·exact w2.elim
end
end PL
end
section
namespace PL
open PySem L2
def Sl.out:Sl->Sl
 | .pd k=>.od k
 | .pu k=>.ou k
 | s=>s
def Sl.ret:Sl->Bool
 | .fz _=>true
 | .ow _=>true
 | _=>false
end PL
end
section
namespace PL
open PySem L2
end PL
end
section
namespace PL
open PySem L2
end PL
end
section
namespace PL
open PySem L2 SR SetL
def qbC (kv:Key×T):T:=.tup [qbv kv.1,kv.2]
def qhv (kvs:List (Key×T)):Rs (List T):=if kvs.length<64/\qcq (kvs.map qbC)=true then .ok (qfT (kvs.map qbC)) else .no
def qhd (dd:Ro->Rs (List (Key×T))):Ro->Rs (List T):=λρ=>dd ρ>>=qhv
theorem qa2.ovl {H B ex:Hp} (h:Le B H) (t: ∀a ps,B a≠some (.tbl ps)) (hn: ∀b o,ex b=some o->H b=none) (ht: ∀b ps,ex b≠some (.tbl ps)):qa2 H B (L2.ovl H ex) (L2.ovl B ex):=by
 have old: ∀b o,H b=some o->ex b=none:=λb o e=>by
  cases z:ex b with
  | none=>rfl
  | some u=>rw[hn b u z] at e; cases e
 refine ⟨⟨λa o e _=>by rw[qbR (old a o e)]; exact e,λa e z=> ?_⟩,λa o e=>by rw[qbR (old a o (h _ _ e))]; exact e,λa o e=> ?_,λa ps e=> ?_,nwo λa e=> ?_⟩
 ·cases q:H a with
  | none=>exact e q
  | some o=>rw[qbR (old a o q),q] at z; cases z
 ·cases z:ex a with
  | some u=>rw[qdX z] at e⊢; exact e
  | none=>rw[qbR z] at e⊢; exact h _ _ e
 ·cases z:ex a with
  | some u=>rw[qdX z] at e; exact ht a ps (by rw[z]; exact e)
  | none=>rw[qbR z] at e; exact t a ps e
 ·cases q:H a with
  | none=>exact absurd q e
  | some o=>rw[qbR (old a o q)]
theorem qbx.get {K:PySem.W.Frag} {B:Hp}: ∀{ts:List (Key×T)} {us:List (Key×V)} {j:Nat} {k:Key} {v:V},qbx K B ts us->us[j]? =some (k,v)->∃t,ts[j]? =some (k,t)/\Rep K B t v
 | [],_,j,_,_,r,e=>by rw[r.inv0] at e; simp at e
 | (k0,t0)::ts,_,0,k,v,r,e=>by
  obtain ⟨x,rr,rfl,a,b⟩:=r.inv
  simp at e
  obtain ⟨rfl,rfl⟩:=e
  exact ⟨t0,rfl,a⟩
 | (k0,t0)::ts,_,j+1,k,v,r,e=>by
  obtain ⟨x,rr,rfl,a,b⟩:=r.inv
  obtain ⟨t,e1,e2⟩:=qbx.get (j:=j) b (by simpa using e)
  exact ⟨t,by simpa using e1,e2⟩
section
variable {M:Md} {X:Cx} {o:Expr} {pos p1 apos cpos:Pos} {dd:Ro->Rs (List (Key×T))}
open PySem.W PyProof.Rows in
theorem qgl (hc:X.calm=true) (gs:Gl X "sorted") (ms:X.mg "sorted" =none) (ho:DD M X o dd) (hbase:attributeBase o "items" X.env (eval o X.env)=eval o X.env:=by rfl) (hline:(apos.endLine==cpos.line)=true:=by rfl) (hK:X.K=M.K:=by rfl):
  DF M X (.Call (.Name "sorted" p1) [.Call (.Attribute o "items" apos) [] [] cpos] [] pos) (qhd dd):=by
 intro pins s σ H Q I hq45
 obtain ⟨H0,B0,ρ,B,ev,w⟩:=hq45
 refine wpAny_Call_Name_kw (qcK I gs ms SetL.boot_sorted ?_)
 have hD:tD M dd σ H λx H1=> ∃a us kvs B1,x= .ref a/\qa2 H B H1 B1/\M.G.P H1/\H1 a=some (.dK us)/\qbx M.K B1 kvs us/\
   Wnt M H0 (λa=> ∀p vs H' B',qa2 H B H' B'->M.G.P H'->H p=none->B' p=none->H' p=some (.lst vs)->qaC M.K B' a vs->Q (.ref p) H') (qhv kvs):=
  ⟨H0,B0,ρ,B,ev,Wnt.mono (Wnt.bind (qbF.mp w)) λkvs w1 p us H1 B1 g1 m1 hp rd=>⟨p,us,kvs,B1,rfl,g1,m1,hp,rd,w1⟩⟩
 have inner:wpAny (model X.prog X.w) X.A (eval (.Call (.Attribute o "items" apos) [] [] cpos) X.env) (λv s2=> ∃VA s1 a us kvs H1 B1,v= .ref VA/\s2.heap.IsItemsView VA a/\Inv X pins σ H1 s2/\qa2 H B H1 B1/\M.G.P H1/\H1 a=some (.dK us)/\qbx M.K B1 kvs us/\s1=s2/\
   Wnt M H0 (λa=> ∀p vs H' B',qa2 H B H' B'->M.G.P H'->H p=none->B' p=none->H' p=some (.lst vs)->qaC M.K B' a vs->Q (.ref p) H') (qhv kvs)) X.xe s:=by
  refine wpAny_Call_method0_late hbase hline (thn (ho pins s σ H _ I hD) λv s1 ⟨x,H1,I1,r1,a,us,kvs,B1,ex,g1,m1,hp,rd,w1⟩=> ?_)
  subst ex
  obtain rfl:v=Value.ref a:=r1
  obtain ⟨z,hsys,vs,rel,od,es,ep,d1,d2,d3⟩:=qlw I1.hok hp
  obtain ⟨h1,h2⟩:=qlP (T:= "dict") (v:=.ref a) I1 (show RelV (.ref a) (.ref a) from rfl) (.inr (.inr (.inl ⟨rfl,.inl ⟨us,hp⟩⟩)))
  refine ⟨"dict", "dict.items",PySem.F.plainAttrs_dict,PySem.F.slot_dict_items,PySem.F.type_dict_items,h1,h2,Calls.callWith_builtin rfl (PySem.evalArgs_none (qir d1 d2 hsys ?_))⟩
  exact ⟨_,_,a,us,kvs,H1,B1,rfl,⟨_,Heap.get?_push_size _ rfl,rfl,rfl⟩,I1.kept (t':=s1.toks) λb o e=>Heap.get?_push_of_some _ e,g1,m1,hp,rd,rfl,w1⟩
 refine PyProof.Rows.callWith_builtin1 (Calls.spliced_cons (thn inner λu s2 ⟨VA,s1,a,us,kvs,H1,B1,eu,vw,I2,g1,m1,hp,rd,es1,w1⟩=> ?_)) rfl rfl
 subst eu
 subst es1
 refine Calls.spliced_nil ?_
 have ev1:=ev.grow g1 m1
 unfold qhv at w1
 split at w1
 case isFalse=>exact w1.elim
 rename_i hcc
 obtain ⟨z,hsys,vs,rel,od,es,ep,d1,d2,d3,d4,d5,d6⟩:=qlw I2.hok hp
 have hh:X.A.in1.handled=none:=I2.ok.hd hc
 have lu:us.length=kvs.length:=rd.length
 have lv:us.length=vs.length:=rel.length
 refine St.sorted_c (kdx_collect (knd:=qaI X.prog X.w) (kvs:=vs) (ep:=ep) hh vw ⟨od,es,d1,d2,d3,d4,d5,d6⟩ (by rw[<-lv]; exact z) λh' tk as kp la G=> ?_)
 have pr: ∀{j:Nat} {b:Addr},as[j]? =some b->∃k v t key x,us[j]? =some (k,v)/\kvs[j]? =some (k,t)/\Rep M.K B1 t v/\RelV (kV k) key/\RelV v x/\h'.get? b=some { cls:=Value.type "tuple",data:=Data.seq #[key,x] }:=λ{j b} hb=>by
  obtain ⟨key,k,x,e1,e2,e3⟩:=G.pairs j b hb
  obtain ⟨v,e4,e5⟩:=rel.get e1
  obtain ⟨t,e6,e7⟩:=rd.get e4
  exact ⟨k,v,t,key,x,e4,e6,e7,qrm e2,e5,e3⟩
 have prt: ∀{j:Nat} {b:Addr},as[j]? =some b->∀{k:Key} {t:T},kvs[j]? =some (k,t)->(kvs.map qbC).getD j .non=qbC (k,t):=λ{j b} hb {k t} hk=>by
  rw[List.getD_eq_getElem?_getD,List.getElem?_map,hk]; rfl
 have lj: ∀{j:Nat},j<kvs.length->as[j]? =some (as.getD j 0):=λ{j} hj=>by
  rw[List.getD_eq_getElem?_getD,List.getElem?_eq_getElem (by lia)]; rfl
 let exf:Hp:=λb=>((as.zip us).find? λq=>q.1==b).map λq=>HO.tup [kV q.2.1,q.2.2]
 have exat: ∀{j:Nat} {b:Addr} {k:Key} {v:V},as[j]? =some b->us[j]? =some (k,v)->exf b=some (.tup [kV k,v]):=λ{j b k v} h1 h2=>by
  show ((as.zip us).find? λq=>q.1==b).map _=_
  rw[qhU G.rise h1 h2]; rfl
 have exof: ∀b o,exf b=some o->∃(j:Nat) (k:Key) (v:V),as[j]? =some b/\us[j]? =some (k,v)/\o= .tup [kV k,v]:=λb o e=>by
  cases hf:(as.zip us).find? λq=>q.1==b with
  | none=>
   have e':((as.zip us).find? λq=>q.1==b).map (λq=>HO.tup [kV q.2.1,q.2.2])=some o:=e
   rw[hf] at e'; cases e'
  | some q=>
   have e':((as.zip us).find? λq=>q.1==b).map (λq=>HO.tup [kV q.2.1,q.2.2])=some o:=e
   rw[hf] at e'
   have e'':HO.tup [kV q.2.1,q.2.2]=o:=Option.some.inj e'
   have qb:q.1=b:=by simpa using List.find?_some hf
   have qm:=List.mem_of_find?_eq_some hf
   obtain ⟨j,hj,eq⟩:=List.mem_iff_getElem.mp qm
   rw[List.getElem_zip] at eq
   have hj1:j<as.length:=by rw[List.length_zip] at hj; lia
   have hj2:j<us.length:=by rw[List.length_zip] at hj; lia
   refine ⟨j,q.2.1,q.2.2,?_,?_,e''.symm⟩
   ·rw[List.getElem?_eq_getElem hj1,<-qb,<-eq]
   ·rw[List.getElem?_eq_getElem hj2,<-eq]
 have exhi: ∀b o,exf b=some o->s1.heap.objs.size<=b:=λb o e=>by
  obtain ⟨j,k,v,h1,_,_⟩:=exof b o e
  exact Nat.le_of_lt (G.above b (List.mem_of_getElem? h1))
 have I3:Inv X pins σ (L2.ovl H1 exf) { s1 with heap:=h',toks:=tk }:=I2.laidF (t':=tk) kp exhi λb o e=>by
  obtain ⟨j,k,v,h1,h2,rfl⟩:=exof b o e
  obtain ⟨k',v',t,key,x,f1,f2,f3,f4,f5,f6⟩:=pr h1
  rw[h2] at f1; cases f1
  exact ⟨by show 2<=sizeLine; decide,[key,x],.cons f4 (.cons f5 .nil),⟨_,f6,rfl,_,rfl⟩⟩
 have exn: ∀b o,exf b=some o->H1 b=none:=λb o e=>I2.hok.fresh (exhi b o e)
 have ext: ∀b ps,exf b≠some (.tbl ps):=λb ps e=>by
  obtain ⟨j,k,v,_,_,z⟩:=exof b _ e
  cases z
 have g2:qa2 H1 B1 (L2.ovl H1 exf) (L2.ovl B1 exf):=qa2.ovl ev1.bh ev1.bt exn ext
 have m2:M.G.P (L2.ovl H1 exf):=M.G.st H1 _ (λb o e _ _ _ _=>by
  cases z:exf b with
  | none=>rw[qbR z]; exact e
  | some u=>rw[exn b u z] at e; cases e) m1
 have hR:qaC M.K (L2.ovl B1 exf) (kvs.map qbC) (as.map V.ref):=by
  refine .of_get (by simp; lia) λj t' v' h1 h2=> ?_
  rw[List.getElem?_map] at h1 h2
  cases q:as[j]? with
  | none=>rw[q] at h2; cases h2
  | some b=>
   rw[q] at h2
   cases h2
   obtain ⟨k,v,t,key,x,f1,f2,f3,f4,f5,f6⟩:=pr q
   rw[f2] at h1
   cases h1
   exact qma (qdX (exat q f1)) (.cons (qkP k) (.cons (f3.mono g2.bb) .nil))
 have shp: ∃x0 y0,kvs=[]\/(x0=0\/x0=1)/\∀{k:Key} {t:T},(k,t)∈kvs->qcM t=true/\(qdd (qbC (k,t))).map shK=[x0,y0]:=by
  cases hkv:kvs with
  | nil=>exact ⟨0,0,.inl rfl⟩
  | cons kv0 kr=>
   have hs2:=hcc.2
   rw[hkv] at hs2
   obtain ⟨s0,ok0,sh⟩:=qch hs2 (t:=qbC kv0) (by simp)
   have e0:=sh (qbC kv0) (by simp)
   have e0':[2,shT (qbv kv0.1),shT kv0.2]=s0:=e0
   have fl: ∀{k:Key} {t:T},(k,t)∈kv0::kr->[2,shT (qbv k),shT t]=s0:=λ{k t} hm=>sh (qbC (k,t)) (List.mem_map.mpr ⟨(k,t),hm,rfl⟩)
   have kf: ∀k:Key,(shT (qbv k)=0\/shT (qbv k)=1)/\shK (kyT (qbv k))=shT (qbv k):=λk=>by
    cases k with
    | inl i=>exact ⟨.inl rfl,rfl⟩
    | inr i=>exact ⟨.inr rfl,rfl⟩
   refine ⟨shT (qbv kv0.1),shT kv0.2,.inr ⟨(kf kv0.1).1,λ{k t} hm=> ?_⟩⟩
   have f:=fl hm
   rw[<-e0'] at f
   have f1:shT (qbv k)=shT (qbv kv0.1):=by injection f with _ f; injection f
   have f2:shT t=shT kv0.2:=by injection f with _ f; injection f with _ f; injection f
   have okt:qcM kv0.2=true:=by
    rw[<-e0'] at ok0
    have:([shT (qbv kv0.1),shT kv0.2].all λn=>n==0||n==1)=true:=ok0
    simp at this
    unfold qcM
    simpa using this.2
   have okt':qcM t=true:=by unfold qcM at okt⊢; rw[f2]; exact okt
   refine ⟨okt',?_⟩
   have g:shK (kyT t)=shT t:=by
    cases t with
    | int _=>rfl
    | str _=>rfl
    | non=>cases (show false=true from okt')
    | bl _=>cases (show false=true from okt')
    | tup _=>cases (show false=true from okt')
    | lst _=>cases (show false=true from okt')
    | dct _=>cases (show false=true from okt')
    | dtu _=>cases (show false=true from okt')
    | dcf _=>cases (show false=true from okt')
    | fn _=>cases (show false=true from okt')
    | scr _=>cases (show false=true from okt')
   show [shK (kyT (qbv k)),shK (kyT t)]=_
   rw[(kf k).2,g,f1,f2]
 obtain ⟨x0,y0,hxy⟩:=shp
 have kt: ∀{j:Nat},j<kvs.length->∀{h2:Heap},St.Kp h' h2->(x0=0\/x0=1)/\qe3 h2 (qdd ((kvs.map qbC).getD j .non)) (.ref (as.getD j 0))/\(qdd ((kvs.map qbC).getD j .non)).map shK=[x0,y0]:=λ{j} hj {h2} k2=>by
  obtain ⟨k,v,t,key,x,f1,f2,f3,f4,f5,f6⟩:=pr (lj hj)
  rcases hxy with e | ⟨hx,hall⟩
  ·rw[e] at hj; cases hj
  ·obtain ⟨a1,a2⟩:=hall (List.mem_of_getElem? f2)
   rw[prt (lj hj) f2]
   refine ⟨hx,⟨_,[key,x],rfl,⟨_,k2 _ _ f6,rfl,_,rfl⟩,?_⟩,a2⟩
   have e1:kyV (kyT (qbv k))=kV k:=by cases k<;>rfl
   show Vals [kyV (kyT (qbv k)),kyV (kyT t)] [key,x]
   rw[e1,<-(qdV a1 f3).1]
   exact .cons f4 (.cons f5 .nil)
 have key1: ∀{m:Nat},m<kvs.length->(((kvs.map qbC).map qdd).map (qcU qcA ((kvs.map qbC).map qdd))).getD m 0=qcU qcA ((kvs.map qbC).map qdd) (qdd ((kvs.map qbC).getD m .non)):=λ{m} hm=>by
  have hm':m<(kvs.map qbC).length:=by rw[List.length_map]; exact hm
  rw[List.getD_eq_getElem?_getD,List.getElem?_map,List.getElem?_map,List.getElem?_eq_getElem hm',List.getD_eq_getElem?_getD,List.getElem?_eq_getElem hm']
  rfl
 have memt: ∀{m:Nat},m<kvs.length->(kvs.map qbC).getD m .non∈kvs.map qbC:=λ{m} hm=>by
  have hm':m<(kvs.map qbC).length:=by rw[List.length_map]; exact hm
  rw[List.getD_eq_getElem?_getD,List.getElem?_eq_getElem hm']; exact List.getElem_mem hm'
 have vat: ∀{j:Nat},j<kvs.length->(as.map Value.ref).getD j Value.none= .ref (as.getD j 0):=λ{j} hj=>by
  rw[List.getD_eq_getElem?_getD,List.getElem?_map,lj hj]; rfl
 refine ⟨h',tk,tuples' true,((kvs.map qbC).map qdd).map (qcU qcA ((kvs.map qbC).map qdd)),rfl,kp,by simp; lia,by simp; lia,λs' k2 h2 Q' E' hq'=> ?_,λs' k2 i j hi hj C hC=> ?_,λD h'' tk'' c p hD k2 ho' hget=> ?_⟩
 ·have hz:0<kvs.length:=by simp at h2; lia
  refine qf8 (x:=x0) (r:=[y0]) (as.map Value.ref) (kt hz k2).1 h2 (λv hv=> ?_) hq'
  obtain ⟨m,hm,rfl⟩:=List.mem_iff_getElem.mp hv
  have hm':m<kvs.length:=by simp at hm; lia
  have e:(as.map Value.ref)[m]= .ref (as.getD m 0):=by
   have:=vat hm'
   rw[List.getD_eq_getElem?_getD,List.getElem?_eq_getElem hm] at this
   exact this
  rw[e]
  exact ⟨_,(kt hm' k2).2.1,(kt hm' k2).2.2⟩
 ·have hi':i<kvs.length:=by simp at hi; lia
  have hj':j<kvs.length:=by simp at hj; lia
  rw[key1 hi',key1 hj',qdw qm1 (List.mem_map.mpr ⟨_,memt hi',rfl⟩) (List.mem_map.mpr ⟨_,memt hj',rfl⟩)] at hC
  rw[vat hi',vat hj']
  exact qjy (kt hi' k2).2.1 (kt hj' k2).2.1 ((kt hi' k2).2.2.trans (kt hj' k2).2.2.symm) hC
 ·have fD:L2.ovl H1 exf D=none:=I3.hok.fresh hD
  have rv:Vals (as.map V.ref) (as.map Value.ref):=by
   have go: ∀l:List Addr,Vals (l.map V.ref) (l.map Value.ref):=λl=>by
    induction l with
    | nil=>exact .nil
    | cons b l ih=>exact .cons rfl ih
   exact go as
  have I4:Inv X pins σ (L2.upd (L2.ovl H1 exf) D (.lst (p.toList.map λj=>(as.map V.ref).getD j .non))) { s1 with heap:=h'',toks:=tk'' }:=by
   refine I3.laid k2 hD ⟨?_,_,c,L2.vals_pick rv p.toList,hget⟩
   rw[List.length_map,Array.length_toList,ho'.1.sz,sizeLine_eq]
   simp
   lia
  have nD:H1 D=none:=qbD g2.gx fD
  obtain ⟨g,m',bp⟩:=qce (M:=M) (ws:=p.toList.map λj=>(as.map V.ref).getD j .non) g2.bh g2.bt m2 fD
  refine ⟨.ref D,_,I4,rfl,w1 D _ _ _ ((g1.trans g2).trans g) m' (qbD g1.gx nD) bp qak ?_⟩
  have ep':=qdk ho'
  have e:qfT (kvs.map qbC)=p.toList.map λj=>(kvs.map qbC).getD j .non:=by
   unfold qfT qeN
   rw[ep',srt_congr (k':=λj=>qcU qcA ((kvs.map qbC).map qdd) (qdd ((kvs.map qbC).getD j .non))),qfb (k:=λt=>qcU qcA ((kvs.map qbC).map qdd) (qdd t)) (f:=λj=>(kvs.map qbC).getD j .non) (λb=>rfl),show (as.map Value.ref).length=(kvs.map qbC).length by simp; lia,Mir.map_range_getD]
   intro b hb
   have hb':b<kvs.length:=by have:=List.mem_range.mp hb; simp at this; lia
   exact key1 hb'
  rw[e]
  have go: ∀l:List Nat,(∀j∈l,j<kvs.length)->qaC M.K (L2.ovl B1 exf) (l.map λj=>(kvs.map qbC).getD j .non) (l.map λj=>(as.map V.ref).getD j .non):=λl=>by
   induction l with
   | nil=>exact λ_=>.nil
   | cons j l ih=>exact λhl=>.cons (hR.getD j (by rw[List.length_map]; exact hl j List.mem_cons_self)) (ih λi hi=>hl i (List.mem_cons_of_mem _ hi))
  exact go _ λj hj=>by have:=(Mir.order_mem ho' j).mp hj; simp at this; lia
end
end PL
end
section
namespace DH
open PySem PySem.Spec PyProof.Rows PySem.W
variable {prog:Program} {w:World} {A:Around} {E:Value->Shared->Prop} {s:Shared}
end DH
end
section
namespace DH
open PySem PySem.Spec PyProof.Rows PySem.W L2
variable {prog:Program} {w:World} {A:Around} {E:Value->Shared->Prop} {s:Shared}
end DH
end
section
namespace DH
open PySem PySem.Spec PyProof.Rows PySem.W L2
variable {prog:Program} {w:World} {A:Around} {E:Value->Shared->Prop} {s:Shared}
end DH
end
section
namespace PL
open PySem L2
end PL
end
section
namespace PL
open PySem L2 SR SetL
end PL
end
section
namespace PL
open PySem L2
end PL
end
section
namespace HD
open PySem L2 PL
def KnX (P:Program) (w:World) (K:PySem.W.Frag) (mg:Str->Option Value) (base:Heap) (CX:CXT) (x:Str) (ps:List Str) (k:Nat) (sp:Sp):Prop:=
 ∃(f:Addr) (fd:FuncData),qbI P w K mg base CX k f fd ps sp/\mg x=some (.ref f)/\PySem.W.keepIn K (.ref f)=true/\qc0 K fd ps []
section
variable {P:Program} {w:World} {K:PySem.W.Frag} {mg:Str->Option Value} {base:Heap} {CX:CXT} {x:Str} {st:Stmt} {ps:List Str} {k:Nat} {sp:Sp}
theorem knx (D:Df K mg x st) (ok: ∀{f:Addr} {fd:FuncData},Fun K x x st f fd->qbI P w K mg base CX k f fd ps sp)
  (hb: ∀(kV doc pm:Value) (an:Option Addr) (cdv ct:Value) (us:List Value),us.length=ps.length->bindArgs (PySem.W.fnOf x x (qaz st) (qav st) (qad st) .none kV doc pm an cdv ct) ⟨us,[]⟩=pure (ps.zip us):=by
   exact λ_ _ _ _ _ _ us hl=>by first | (obtain ⟨a,e⟩:=qnP hl; subst e; rfl) | (obtain ⟨a,b,e⟩:=qoY hl; subst e; rfl) | (obtain ⟨a,b,c,e⟩:=qoX hl; subst e; rfl) | (obtain ⟨a,b,c,d,e⟩:=len4 hl; subst e; rfl)):KnX P w K mg base CX x ps k sp:=by
 obtain ⟨f,oc,od,osl,kV,doc,pm,an,cdv,ct,lk,hcd,kp,m, -⟩:=D
 have F:=qeW lk hcd kp
 exact ⟨_,_,ok F,m,kp,F.binds hb⟩
theorem qsM (D:Df K mg x st) {c T:Addr} (ht:PySem.W.tabIn K x=some (c,T)) (hC:PySem.W.CodeHd base c T)
  (ok: ∀{f:Addr} {oc kV doc pm cdv ct:Value} {od an:Option Addr} {osl:Array (Option Value)},K.lookup f=some ⟨oc,od,.func (PySem.W.fnOf x x (qaz st) (qav st) (qad st) .none kV doc pm an cdv ct),osl⟩->PySem.W.codeIn K cdv x=true->cdv= .ref c->PySem.W.CodeHd base c T->
   qbI P w K mg base CX k f (PySem.W.fnOf x x (qaz st) (qav st) (qad st) .none kV doc pm an cdv ct) ps sp)
  (hb: ∀(kV doc pm:Value) (an:Option Addr) (cdv ct:Value) (us:List Value),us.length=ps.length->bindArgs (PySem.W.fnOf x x (qaz st) (qav st) (qad st) .none kV doc pm an cdv ct) ⟨us,[]⟩=pure (ps.zip us):=by
   exact λ_ _ _ _ _ _ us hl=>by first | (obtain ⟨a,e⟩:=qnP hl; subst e; rfl) | (obtain ⟨a,b,e⟩:=qoY hl; subst e; rfl) | (obtain ⟨a,b,c,e⟩:=qoX hl; subst e; rfl) | (obtain ⟨a,b,c,d,e⟩:=len4 hl; subst e; rfl)):KnX P w K mg base CX x ps k sp:=by
 obtain ⟨f,oc,od,osl,kV,doc,pm,an,cdv,ct,lk,hcd,kp,m,hc⟩:=qnE D ht
 have F:=qeW lk hcd kp
 exact ⟨_,_,ok lk hcd hc hC,m,kp,F.binds hb⟩
end
def clOf (K:PySem.W.Frag) (x:Str):Addr:=match PySem.W.nsIn K mainGlobals x with
 | some (some (.ref C))=>C
 | _=>0
end HD
end
section
namespace HD
open PySem L2 PL
end HD
end
section
namespace HD
open PySem L2 PL
end HD
end
section
namespace PL
open PySem L2 SR SetL
section
variable {M:Md} {X:Cx} {a b:Expr} {pos:Pos}
def qkm (dp:Ro->Rs (Bool×List T)) (dk:Ro->Rs T):Ro->Rs (List T):=λρ=>dp ρ>>=λx=>dk ρ>>=λy=>match y with
 | .int k=>if x.1=true/\0<=k/\k<=100/\x.2.length<=10 then .ok (List.replicate k.toNat x.2).flatten else .no
 | _=>.no
theorem qhw {K:PySem.W.Frag} {B:Hp} {ts:List T} {vs:List V} (h:qaC K B ts vs): ∀n:Nat,qaC K B (List.replicate n ts).flatten (List.replicate n vs).flatten
 | 0=>.nil
 | n+1=>by rw[List.replicate_succ,List.replicate_succ,List.flatten_cons,List.flatten_cons]; exact h.append (qhw h n)
theorem qgm {dp:Ro->Rs (Bool×List T)} {dk:Ro->Rs T} (ha:DQ M X a dp) (hb:DE M X b dk):DF M X (.BinOp a .Mult b pos) (qkm dp dk):=by
 refine PE.weak (qcx qoM ha hb) λσ H Q hq=> ?_
 obtain ⟨H0,B0,ρ,B,ev,w⟩:=hq
 refine tQ.of ev (Wnt.mono (Wnt.bind (qbF.mp w)) λx w1 p vs H1 B1 g1 m1 hx r1=> ?_)
 have ev1:=ev.grow g1 m1
 refine tP.of ev1 (Wnt.mono (Wnt.bind w1) λy w2 v H2 B2 g2 m2 r2=> ?_)
 have ev2:=ev1.grow g2 m2
 cases y with
 | int k=>
  have e1:v= .int k:=by unfold Rep at r2; exact r2
  dsimp only at w2
  split at w2
  ·rename_i hc
   rw[if_pos hc.1] at hx
   have l0:1000<sizeLine:=by decide
   have l1:vs.length*k.toNat<=10*100:=Nat.mul_le_mul (by rw[r1.length]; exact hc.2.2.2) (by omega)
   refine ⟨p,k,vs,rfl,e1,g2.gx.hh _ _ hx (by intro ps z; cases z),by omega,by omega,by omega,λl hl=> ?_⟩
   obtain ⟨g,m',bp⟩:=qce (M:=M) (ws:=(List.replicate k.toNat vs).flatten) ev2.bh ev2.bt m2 hl
   exact w2 l _ _ B2 ((g1.trans g2).trans g) m' (qbD (g1.trans g2).gx hl) bp qak (qhw (r1.mono g2.bb) _)
  ·exact w2.elim
 | _=>exact w2.elim
end
end PL
namespace HD
open PySem L2 PL
def qeD:List Str:=["Ended", "Full", "NoAsk", "NoBack", "NoName", "NoNumber", "NoRow", "NoText", "TooLate", "Unlike"]
def qnL:List Str:=["ended", "full", "no ask", "no back", "no name", "no number", "no row", "no text", "too late", "unlike"]
def nsC (K:PySem.W.Frag) (x:Str):Bool:=match PySem.W.nsIn K mainGlobals x with
 | some (some (.ref _))=>true
 | _=>false
theorem qmc {K:PySem.W.Frag} {h:Heap} {mg:Str->Option Value} {x:Str} (X:K.In h) (G:h.Ns mainGlobals mg) (a:nsC K x=true):mg x=some (.ref (clOf K x)):=by
 unfold nsC at a
 split at a
 ·rename_i C n
  have e:clOf K x=C:=by unfold clOf; rw[n]
  rw[e]; exact PySem.W.mg_of X G n
 ·cases a
def isB (K:PySem.W.Frag) (x:Str) (c:Value) (b:Bool):Bool:=PySem.W.kitOne K (.ref (clOf K x)) c==some b
def exB (K:PySem.W.Frag):Bool:=nsC K "AskError" &&qeX K (clOf K "AskError") bmV&&(List.range 10).all λj=>
 nsC K (qeD.getD j "")&&qeX K (clOf K (qeD.getD j "")) (.ref (clOf K "AskError")::bmV)&&(PySem.W.clsIn K (clOf K (qeD.getD j ""))).isSome&&isB K (qeD.getD j "") (.type "ValueError") true&&
  (List.range 10).all λi=>isB K (qeD.getD j "") (.ref (clOf K (qeD.getD i ""))) (i==j)
structure Ex10 (K:PySem.W.Frag) (mg:Str->Option Value):Prop where
 a:mg "AskError" =some (.ref (clOf K "AskError"))
 ea:qeX K (clOf K "AskError") bmV=true
 m: ∀j<10,mg (qeD.getD j "")=some (.ref (clOf K (qeD.getD j "")))
 e: ∀j<10,qeX K (clOf K (qeD.getD j "")) (.ref (clOf K "AskError")::bmV)=true
 c: ∀j<10,(PySem.W.clsIn K (clOf K (qeD.getD j ""))).isSome=true
 v: ∀j<10,PySem.W.kitOne K (.ref (clOf K (qeD.getD j ""))) (.type "ValueError")=some true
 k: ∀j<10,∀i<10,PySem.W.kitOne K (.ref (clOf K (qeD.getD j ""))) (.ref (clOf K (qeD.getD i "")))=some (i==j)
theorem ex10_of {K:PySem.W.Frag} {h:Heap} {mg:Str->Option Value} (X:K.In h) (G:h.Ns mainGlobals mg) (a:exB K=true):Ex10 K mg:=by
 unfold exB at a
 simp only[Bool.and_eq_true,List.all_eq_true,List.mem_range] at a
 obtain ⟨⟨a1,a2⟩,a3⟩:=a
 refine ⟨qmc X G a1,a2,λj hj=>qmc X G (a3 j hj).1.1.1.1,λj hj=>(a3 j hj).1.1.1.2,λj hj=>(a3 j hj).1.1.2,λj hj=> ?_,λj hj i hi=> ?_⟩
 ·have:=(a3 j hj).1.2
  unfold isB at this
  exact eq_of_beq this
 ·have:=(a3 j hj).2 i hi
  unfold isB at this
  exact eq_of_beq this
theorem Ex10.exN {K:PySem.W.Frag} {mg:Str->Option Value} {base:Heap} (Z:Ex10 K mg) (KI:K.In base) (j:Nat) (hj:j<10):ExN mg base (clOf K) (qeD.getD j ""):=⟨Z.m j hj,_,qdD KI (Z.e j hj)⟩
def qnM (K:PySem.W.Frag) (a:Addr):Option Str:=(List.range 10).findSome? λj=>if a=clOf K (qeD.getD j "") then some (qnL.getD j "") else none
def qbT (c:Str):Option Str:=(List.range 10).findSome? λj=>if c=qeD.getD j "" then some (qnL.getD j "") else none
theorem qhm {K:PySem.W.Frag} {a:Addr} {x:Str} (h:qnM K a=some x): ∃j<10,a=clOf K (qeD.getD j "")/\x=qnL.getD j "" :=by
 obtain ⟨j,hj,e⟩:=List.exists_of_findSome?_eq_some h
 rw[List.mem_range] at hj
 split at e
 ·rename_i q; cases e; exact ⟨j,hj,q,rfl⟩
 ·cases e
theorem qlF {K:PySem.W.Frag} {mg:Str->Option Value} (Z:Ex10 K mg) {i j:Nat} (hi:i<10) (hj:j<10) (e:clOf K (qeD.getD i "")=clOf K (qeD.getD j "")):i=j:=by
 have h1:=Z.k j hj i hi
 have h2:=Z.k j hj j hj
 rw[e,h2] at h1
 have:=Option.some.inj h1
 simp at this
 exact this
theorem qmv {K:PySem.W.Frag} {mg:Str->Option Value} (Z:Ex10 K mg) {j:Nat} (hj:j<10):qnM K (clOf K (qeD.getD j ""))=some (qnL.getD j ""):=by
 cases h:qnM K (clOf K (qeD.getD j "")) with
 | none=>
  have:=List.findSome?_eq_none_iff.mp h j (List.mem_range.mpr hj)
  rw[if_pos rfl] at this; cases this
 | some x=>
  obtain ⟨i,hi,e1,e2⟩:=qhm h
  rw[e2,qlF Z hj hi e1]
theorem qkK {c x:Str} (h:qbT c=some x): ∃j<10,c=qeD.getD j "" /\x=qnL.getD j "" :=by
 obtain ⟨j,hj,e⟩:=List.exists_of_findSome?_eq_some h
 rw[List.mem_range] at hj
 split at e
 ·rename_i q; cases e; exact ⟨j,hj,q,rfl⟩
 ·cases e
theorem qn5 {P:Program} {w:World} {K:PySem.W.Frag} {mg:Str->Option Value} {base:Heap} {st st2:Stmt} (Z:Ex10 K mg) (KI:K.In base) (T:qh6 st) (D:Df K mg "_law_told" st) (D2:Df K mg "_law_class" st2)
  (hb: ∀(kV doc pm:Value) (an:Option Addr) (cdv ct:Value) (us:List Value),us.length=1->bindArgs (PySem.W.fnOf "_law_told" "_law_told" (qaz st) (qav st) (qad st) .none kV doc pm an cdv ct) ⟨us,[]⟩=pure ((["_law_deed"]:List Str).zip us))
  (hb2: ∀(kV doc pm:Value) (an:Option Addr) (cdv ct:Value) (us:List Value),us.length=1->bindArgs (PySem.W.fnOf "_law_class" "_law_class" (qaz st2) (qav st2) (qad st2) .none kV doc pm an cdv ct) ⟨us,[]⟩=pure ((["_law_kept"]:List Str).zip us))
  (ok: ∀{f:Addr} {fd:FuncData},Fun K "_law_class" "_law_class" st2 f fd->FnN P w K mg base 1 f fd ["_law_kept"] (qiQ base (qnM K))):qkD P w K mg base (clOf K) st qbT:=by
 obtain ⟨f,oc,od,osl,kV,doc,pm,an,cdv,ct,lk,hcd,kp,m, -⟩:=D
 have F:=qeW lk hcd kp
 obtain ⟨f2,oc2,od2,osl2,kV2,doc2,pm2,an2,cdv2,ct2,lk2,hcd2,kp2,m2, -⟩:=D2
 have F2:=qeW lk2 hcd2 kp2
 refine ⟨T,⟨_,_,F,m,F.binds hb⟩,_,_,_,_,qnM K,Z.a,qdD KI Z.ea,ok F2,m2,kp2,F2.binds hb2,λc x h=> ?_⟩
 obtain ⟨j,hj,rfl,rfl⟩:=qkK h
 exact ⟨_,qdD KI (Z.e j hj),by simp,qmv Z hj⟩
theorem qpY {Ts:List Addr} {qz:List Str} {H:Hp} {p:Addr×Str} (h: ∀T∈Ts,H T=some (.tbl #[])) (hp:p∈Ts.zip qz):qiJ p.1 p.2 H:=⟨#[],h _ (List.of_mem_zip hp).1,trivial,λpos v e=>by cases e⟩
theorem qmF {K:PySem.W.Frag} {lq:List (Pos×Str)} {qz:List Str} {Ts Us:List Addr} {H:Hp} {a:Addr} {ns:List Int} {C:Str->Addr} {t:List T->Rs T} (ht:t [.scr ns]= .ok (.bl true)) (hO:qh7 (Ts++Us) H) (hS:SqL K H a (ns.map V.int)):spP K (qiu (Ts.zip lq) (Us.zip qz)) C t [.ref a] H (λv _=>v= .bl true) λ_ _ _=>False:=by
 have tb:(qiu (Ts.zip lq) (Us.zip qz)).P H:=⟨λp hp=>⟨#[],hO.1 _ (List.mem_append_left _ (List.of_mem_zip hp).1),trivial,.inl rfl⟩,λp hp=>qpY (λT h=>hO.1 T (List.mem_append_right _ h)) hp⟩
 have fin: ∀B:Hp,Le B H->(∀a ps,B a≠some (.tbl ps))->SqL K B a (ns.map V.int)->spP K (qiu (Ts.zip lq) (Us.zip qz)) C t [.ref a] H (λv _=>v= .bl true) λ_ _ _=>False:=λB le bt sq=>by
  refine ⟨B,[.scr ns],le,bt,tb,.cons (by unfold Rep; exact ⟨a,rfl,sq⟩) .nil,?_⟩
  rw[ht]
  exact λv H' B' _ _ r=>qbw r
 have cut: ∀{o:HO},H a=some o->(∀ps,o≠.tbl ps)->SqL K (λb=>if b=a then H a else none) a (ns.map V.int)->spP K (qiu (Ts.zip lq) (Us.zip qz)) C t [.ref a] H (λv _=>v= .bl true) λ_ _ _=>False:=λ{o} ho n sq=>
  fin _ (λb o z=>by
   by_cases c:b=a
   ·subst c; simpa using z
   ·simp[c] at z) (λb ps z=>by
   by_cases c:b=a
   ·subst c; simp[ho] at z; exact n ps z
   ·simp[c] at z) sq
 rcases hS with (hS | ⟨o,hS⟩) | hS
 ·exact cut hS (λps z=>by cases z) (.inl (.inl (by simp[hS])))
 ·exact cut hS (λps z=>by cases z) (.inl (.inr ⟨o,by simp[hS]⟩))
 ·exact fin (λ_=>none) (λ_ _ z=>by cases z) (λ_ _ z=>by cases z) (.inr hS)
theorem walkE {Ex:World->PySem.W.Frag->(Str->Option Value)->Prop} {l:PySem.W.OpenLaw} {q:Program} {loose:List Str} {XP:(Str->Option Value)->Heap->Prop} {YP:World->Heap->Prop} {d:DefRec} {K:Params->PySem.W.Frag} {tb:List (Str×Stmt)} {cs:List (Str×Int)} {nms:List Str} {ys zs:List Str} {lq:List (Pos×Str)} {qz:List Str} {LV:Nat} {sl:Stmt} {t:List T->Rs T}
  (hn:l.most=some 63) (hdf:d.params.defaults=[]) (hd:d.name= "law") (hY: ∀(w:World) (h:Heap),YP w h->(K w.params).In h) (hrec: ∀y∈ys++zs,∃dx,(PyProof.Rows.recsOf q).find? (λe=>e.name==y)=some dx) (hR:qcu LV callerA)
  (h1: ∀w:World,(tb.all λp=>okD (K w.params) p.1)=true) (h2: ∀w:World,tb.map (λp=>qnp (K w.params) p.1)=tb.map λp=>(qnp (K w.params) p.1).map (due p.1 p.2)) (h3: ∀w:World,cs.all (okC (K w.params))=true) (h4: ∀w:World,nms.all (okN (K w.params))=true)
  (h5: ∀w:World,okT (K w.params) (ys++zs)=true) {i:Nat} (hi:tb[i]? =some (Str.ofString "law",sl)) (hT: ∀ns:List Int,ns.length<=63->t [.scr ns]= .ok (.bl true))
  (hbl: ∀(kV doc pm:Value) (an:Option Addr) (cdv ct u:Value),bindArgs (PySem.W.fnOf "law" "law" (qaz sl) (qav sl) (qad sl) .none kV doc pm an cdv ct) ⟨[u],[]⟩=pure [(Str.ofString "_law_script",u)])
  (hE: ∀(w:World) (mg:Str->Option Value) (h:Heap),(K w.params).In h->h.Ns mainGlobals mg->Ex w (K w.params) mg)
  (F: ∀{w:World} {K:PySem.W.Frag} {mg:Str->Option Value} {base:Heap} {fa:Addr} {oc kV doc pm cdv ct:Value} {od an:Option Addr} {osl:Array (Option Value)},(∀(i:Nat) (x:Str) (st:Stmt),tb[i]? =some (x,st)->Df K mg x st)->(∀x∈nms,mg x=none)->(∀(i:Nat) (x:Str) (n:Int),cs[i]? =some (x,n)->∃u,mg x=some u/\RelV (.int n) u)->
   (∀y∈ys++zs,∃c,PySem.W.tabIn K y=some (c,tOf K y)/\PySem.W.CodeHd base c (tOf K y))->((ys++zs).map (tOf K)).Nodup->qew mg base->K.In base->Ex w K mg->K.lookup fa=some ⟨oc,od,.func (PySem.W.fnOf "law" "law" (qaz sl) (qav sl) (qad sl) .none kV doc pm an cdv ct),osl⟩->PySem.W.codeIn K cdv "law" =true->PySem.W.keepIn K (.ref fa)=true->
   (∀c T,PySem.W.tabIn K "law" =some (c,T)->cdv= .ref c)->qbI l.prog w K mg base (CXE l.prog w) LV fa (PySem.W.fnOf "law" "law" (qaz sl) (qav sl) (qad sl) .none kV doc pm an cdv ct) ["_law_script"] (spP K (qiu ((ys.map (tOf K)).zip lq) ((zs.map (tOf K)).zip qz)) (clOf K) t)):
  PySem.W.WalkO q loose XP YP l.row.toRowW d [] (λf vs=>PySem.call f vs):=by
 refine L2.walk_ofTs (n:=63) (k:=LV) (x:= "_law_script") (ys:=ys++zs) (CX:=λw=>CXE l.prog w) (sp:=λw cts=>spP (K w.params) (qiu (((cts.map (·.2)).take ys.length).zip lq) (((cts.map (·.2)).drop ys.length).zip qz)) (clOf (K w.params)) t) hn (by decide) hdf hR hY hrec ?_ (λ_ _ _ a ns hl hO hS=>qmF (hT ns hl) (by rw[List.take_append_drop]; exact hO) hS) λ_ _ _ _ _ ⟨_,_,_,_,_,_,_,z⟩=>z
 intro w mg fa h X G hm
 have D:=qpn X G (h1 w) (h2 w)
 obtain ⟨f,oc,od,osl,kV,doc,pm,an,cdv,ct,lk,hcd,kp,m,n0⟩:=D i _ _ hi
 rw[hd] at hm
 have e:=hm.symm.trans m
 cases e
 obtain ⟨t1,t2,nd⟩:=qlB (h5 w)
 have em:(qhg (K w.params) (ys++zs)).map (·.2)=(ys++zs).map (tOf (K w.params)):=by unfold qhg; rw[List.map_map]; rfl
 refine ⟨_,qhg (K w.params) (ys++zs),t1,t2,λs u=>.of_eq (hbl kV doc pm an cdv ct u),λbase KI _ hC hb=> ?_⟩
 rw[em,List.map_append,List.take_left' (by simp),List.drop_left' (by simp)]
 refine F D (qri X G (h4 w)) (qrD X G (h3 w)) (λy hy=> ?_) nd hb KI (hE w mg h X G) lk hcd kp λc T hT=> ?_
 ·have e1:some ((PySem.W.tabIn (K w.params) y).getD (0,0))=PySem.W.tabIn (K w.params) y:=by
   obtain ⟨j,hj,ej⟩:=List.mem_iff_getElem.mp hy
   have:=congrArg (λl=>l[j]?) t1
   unfold qhg at this
   simp only[List.getElem?_map,List.getElem?_eq_getElem hj,ej,Option.map_some] at this
   exact (Option.some.inj this).symm
  exact ⟨((PySem.W.tabIn (K w.params) y).getD (0,0)).1,e1.symm,hC _ (List.mem_map.mpr ⟨y,hy,rfl⟩)⟩
 ·unfold PySem.W.tabIn at hT
  rw[n0] at hT
  simp only[lk] at hT
  cases cdv with
  | ref c'=>
   dsimp only at hT
   split at hT
   ·split at hT
    ·cases hT; rfl
    ·cases hT
   ·cases hT
  | _=>cases hT
section
variable {P:Program} {w:World} {K:PySem.W.Frag} {mg:Str->Option Value} {base:Heap} {G:Gam} {C:Str->Addr} {x:Str} {st:Stmt} {ps:List Str} {k:Nat} {t:List T->Rs T}
theorem knE (D:Df K mg x st) (ok: ∀{f:Addr} {fd:FuncData},Fun K x x st f fd->qbI P w K mg base (CXE P w) k f fd ps (spP K G C t))
  (hb: ∀(kV doc pm:Value) (an:Option Addr) (cdv ct:Value) (us:List Value),us.length=ps.length->bindArgs (PySem.W.fnOf x x (qaz st) (qav st) (qad st) .none kV doc pm an cdv ct) ⟨us,[]⟩=pure (ps.zip us):=by
   exact λ_ _ _ _ _ _ us hl=>by first | (obtain ⟨a,e⟩:=qnP hl; subst e; rfl) | (obtain ⟨a,b,e⟩:=qoY hl; subst e; rfl) | (obtain ⟨a,b,c,e⟩:=qoX hl; subst e; rfl) | (obtain ⟨a,b,c,d,e⟩:=len4 hl; subst e; rfl)):KnE P w K mg base G C x ps k t:=knx D ok hb
theorem qrk (D:Df K mg x st) {c T:Addr} (ht:PySem.W.tabIn K x=some (c,T)) (hC:PySem.W.CodeHd base c T)
  (ok: ∀{f:Addr} {oc kV doc pm cdv ct:Value} {od an:Option Addr} {osl:Array (Option Value)},K.lookup f=some ⟨oc,od,.func (PySem.W.fnOf x x (qaz st) (qav st) (qad st) .none kV doc pm an cdv ct),osl⟩->PySem.W.codeIn K cdv x=true->cdv= .ref c->PySem.W.CodeHd base c T->
   qbI P w K mg base (CXE P w) k f (PySem.W.fnOf x x (qaz st) (qav st) (qad st) .none kV doc pm an cdv ct) ps (spP K G C t))
  (hb: ∀(kV doc pm:Value) (an:Option Addr) (cdv ct:Value) (us:List Value),us.length=ps.length->bindArgs (PySem.W.fnOf x x (qaz st) (qav st) (qad st) .none kV doc pm an cdv ct) ⟨us,[]⟩=pure (ps.zip us):=by
   exact λ_ _ _ _ _ _ us hl=>by first | (obtain ⟨a,e⟩:=qnP hl; subst e; rfl) | (obtain ⟨a,b,e⟩:=qoY hl; subst e; rfl) | (obtain ⟨a,b,c,e⟩:=qoX hl; subst e; rfl) | (obtain ⟨a,b,c,d,e⟩:=len4 hl; subst e; rfl)):KnE P w K mg base G C x ps k t:=qsM D ht hC ok hb
end
end HD
end
section
namespace PL
open PySem L2 SR SetL
theorem qkv:bootBuiltins "any" =some (.builtin "any"):=by decide+kernel
theorem qi7 (bs:List Bool):(List.range bs.length).any (λi=>bs.getD i false)=bs.any id:=by
 rw[Bool.eq_iff_iff,List.any_eq_true,List.any_eq_true]
 constructor
 ·intro hq12
  obtain ⟨i,hi,h⟩:=hq12
  have hi':=List.mem_range.mp hi
  refine ⟨bs[i],List.getElem_mem hi',?_⟩
  simpa [List.getD_eq_getElem?_getD,hi'] using h
 ·intro hq16
  obtain ⟨b,hb,h⟩:=hq16
  obtain ⟨i,hi,rfl⟩:=List.mem_iff_getElem.mp hb
  exact ⟨i,List.mem_range.mpr hi,by simpa [List.getD_eq_getElem?_getD,hi] using h⟩
section
variable {X:Cx}
theorem qlG (hc:X.calm=true):qev X (.builtin "any") (λxs H Q=> ∃(a:Addr) (bs:List Bool),xs=[.ref a]/\SqL X.K H a (bs.map V.bl)/\Q (.bl (bs.any id)) H):=by
 intro pins s σ H xs us Q I r h
 obtain ⟨a,bs,rfl,hS,q⟩:=h
 obtain ⟨u,rfl,ru⟩:=qdP r
 cases ru
 obtain ⟨its,rv,pl,hz⟩:=I.list hS
 have e:=qdf rv
 have hlt:a<s.heap.objs.size:=Heap.lt_size pl.isList.choose_spec.1
 have hh:X.A.in1.handled=none:=I.ok.hd hc
 refine call_any_walk (wpAny_pyIter_list pl.isList ?_)
 refine ⟨s.heap.objs.size,_,_,its.toArray.size,_,_,λi=>bs.getD i false,rfl,Walks.list hh s.heap.objs.size a (Nat.ne_of_lt hlt) its.toArray,⟨⟨_,Heap.get?_push_size _ rfl,rfl,rfl⟩,pl.isList.at λo e=>Heap.get?_push_of_some _ e⟩,λi v s' Q' E' hv hq=> ?_,λh' tk k=> ?_⟩
 ·rw[e] at hv
  have hv':(bs.map Value.bool)[i]? =some v:=by simpa using hv
  rw[List.getElem?_map] at hv'
  cases z:bs[i]? with
  | none=>rw[z] at hv'; cases hv'
  | some b=>
   rw[z] at hv'
   cases hv'
   have eb:bs.getD i false=b:=by simp[List.getD_eq_getElem?_getD,z]
   have hq':Q' (bs.getD i false) s':=hq
   rw[eb] at hq'
   exact wpAny_truthy_bool hq'
 ·have en:its.toArray.size=bs.length:=by rw[e]; simp
  rw[en,qi7]
  refine ⟨.bl (bs.any id),H,?_,rfl,q⟩
  refine I.kept (t':=tk) λb o eo=>k b o ?_ (Heap.get?_push_of_some _ eo)
  intro z
  have:b=s.heap.objs.size:=by simpa using z
  exact Nat.ne_of_lt (Heap.lt_size eo) this
end
section
variable {M:Md} {X:Cx} {e a:Expr} {pos p2:Pos} {da:Ro->Rs T} {dq:Ro->Rs (Bool×List T)} {lo hi:Option Expr} {dl dh:Ro->Rs (Option Int)}
def qpS (q:Bool×List T):Rs T:=if q.1=true/\q.2.all qnh=true then .ok (.bl (q.2.any qkw)) else .no
theorem qpu (h:PE X e (tCB (λxs H Q=> ∃(a:Addr) (bs:List Bool),xs=[.ref a]/\SqL X.K H a (bs.map V.bl)/\Q (.bl (bs.any id)) H) (qc8 (tQ M dq) qhq))):DE M X e (dCQ qpS dq):=
 qh0 h (λH B p vs q c Q le bt m hq r ec k=>by
  unfold qpS at ec
  split at ec
  ·rename_i hcc
   cases ec
   unfold qgA at hq
   rw[if_pos hcc.1] at hq
   refine ⟨p,q.2.map qkw,rfl,SqL.of (by rw[<-qfh hcc.2 r]; exact hq),?_⟩
   rw[List.any_map]
   exact k _ H B (.refl le bt) m qdB
  ·cases ec) (λq c z=>by unfold qpS at z; split at z<;>cases z)
end
end PL
end
section
namespace SetL
open PySem
theorem qfw {α β:Type} {f g:α->Option β}: ∀{l:List α},(∀x∈l,f x=g x)->l.filterMap f=l.filterMap g
 | [],_=>rfl
 | x::l,h=>by
  rw[List.filterMap_cons,List.filterMap_cons,h x List.mem_cons_self,qfw λy hy=>h y (List.mem_cons_of_mem _ hy)]
def qqT (N:Nat):Nat->Nat->List Nat
 | 0,_=>[]
 | f+1,i=>i::qqT N f ((i*5+1) % N)
def orb (N:Nat):Nat->Nat->Nat
 | 0,i=>i
 | t+1,i=>orb N t ((i*5+1) % N)
theorem qhB (N:Nat) {j:Nat}: ∀(f i:Nat),j∈qqT N f i->∃t,t<f/\orb N t i=j
 | 0,_,h=>by cases h
 | f+1,i,h=>by
  rcases List.mem_cons.mp h with z | z
  ·exact ⟨0,by lia,z.symm⟩
  ·obtain ⟨t,h1,h2⟩:=qhB N f _ z
   exact ⟨t+1,by lia,h2⟩
theorem qrE: ∀N∈[8,16,32,64],((List.range N).all λi=>(List.range N).all λj=>(qqT N N i).contains j)=true:=by decide+kernel
def Sz (mask:Nat):Prop:=mask+1∈[8,16,32,64]
theorem qpx {mask:Nat} (h:Sz mask) {i j:Nat} (hi:i<mask+1) (hj:j<mask+1): ∃t,t<mask+1/\orb (mask+1) t i=j:=by
 have:=qrE _ h
 have a:=List.all_eq_true.mp this i (List.mem_range.mpr hi)
 have b:=List.all_eq_true.mp a j (List.mem_range.mpr hj)
 exact qhB _ _ _ (by simpa using b)
def its (mask:Nat):Nat->Nat×Nat->Nat×Nat
 | 0,x=>x
 | t+1,x=>its mask t (SetTable.leap mask x.1 x.2)
theorem qjN (mask:Nat) (t:Nat): ∀(s:Nat) (x:Nat×Nat),its mask (s+t) x=its mask t (its mask s x)
 | 0,x=>by rw[Nat.zero_add]; rfl
 | s+1,x=>by
  rw[show s+1+t=(s+t)+1 by lia]
  exact qjN mask t s _
theorem qjM (mask:Nat): ∀(t:Nat) (x:Nat×Nat),(its mask t x).2=x.2 / 32 ^ t
 | 0,x=>by simp[its]
 | t+1,x=>by
  show (its mask t (SetTable.leap mask x.1 x.2)).2=_
  rw[qjM mask t]
  show x.2 / 32 / 32 ^ t=_
  rw[Nat.div_div_eq_div_mul,Nat.pow_succ,Nat.mul_comm]
theorem qeT (mask:Nat): ∀(t:Nat) (x:Nat×Nat),x.1<mask+1->(its mask t x).1<mask+1
 | 0,x,h=>h
 | t+1,x,h=>qeT mask t _ (Nat.mod_lt _ (Nat.succ_pos _))
theorem qhP (mask:Nat): ∀(t i:Nat),(its mask t (i,0)).1=orb (mask+1) t i
 | 0,i=>rfl
 | t+1,i=>by
  have e:SetTable.leap mask i 0=((i*5+1) % (mask+1),0):=by unfold SetTable.leap; simp
  show (its mask t (SetTable.leap mask i 0)).1=orb (mask+1) t ((i*5+1) % (mask+1))
  rw[e]
  exact qhP mask t _
theorem qqL {mask:Nat} (h:Sz mask) {i p j:Nat} (hi:i<mask+1) (hp:p<2 ^ 64) (hj:j<mask+1): ∃t,t<SetTable.turns mask/\(its mask t (i,p)).1=j:=by
 have h13:(its mask 13 (i,p)).2=0:=by
  rw[qjM]
  exact Nat.div_eq_of_lt (Nat.lt_of_lt_of_le hp (by decide))
 have hl:=qeT mask 13 (i,p) hi
 obtain ⟨t,h1,h2⟩:=qpx h hl hj
 refine ⟨13+t,by unfold SetTable.turns; lia,?_⟩
 rw[qjN]
 have e:its mask 13 (i,p)=((its mask 13 (i,p)).1,0):=Prod.ext rfl h13
 rw[e,qhP,h2]
section
variable {mask:Nat} {ow:Array (Option Nat)}
def Fr (ow:Array (Option Nat)) (j:Nat):Prop:=(ow.getD j (some 0)).isNone=true
theorem qj1: ∀(t fuel i p:Nat),t<fuel->i<mask+1->Fr ow (its mask t (i,p)).1->∃r,SetTable.layClean.free mask ow fuel i p=some r/\Fr ow r
 | t,0,i,p,h,_,_=>absurd h (Nat.not_lt_zero _)
 | t,fuel+1,i,p,h,hi,hf=>by
  unfold SetTable.layClean.free
  cases q:(List.range (SetTable.runEnd mask i+1 - i)).find? λk=>(ow.getD (i+k) (some 0)).isNone with
  | some k=>
   have:=List.find?_some q
   exact ⟨i+k,rfl,this⟩
  | none=>
   cases t with
   | zero=>
    have n:=List.find?_eq_none.mp q 0 (List.mem_range.mpr (by unfold SetTable.runEnd; split<;>lia))
    exact absurd hf n
   | succ t=>exact qj1 t fuel _ _ (by lia) (Nat.mod_lt _ (Nat.succ_pos _)) hf
end
theorem qrr {ow:Array (Option Nat)} {j:Nat} (h:Fr ow j):j<ow.size/\ow[j]? =some none:=by
 unfold Fr at h
 by_cases c:j<ow.size
 ·refine ⟨c,?_⟩
  have e:ow.getD j (some 0)=ow[j]:=by simp[Array.getD,c]
  rw[e] at h
  have:ow[j]=none:=Option.isNone_iff_eq_none.mp h
  simp[c,this]
 ·have e:ow.getD j (some 0)=some 0:=by simp[Array.getD,c]
  rw[e] at h; cases h
theorem qfx {l:List (Option Nat)}: ∀{j k:Nat},l[j]? =some none->List.Perm ((l.set j (some k)).filterMap id) (k::l.filterMap id):=by
 induction l with
 | nil=>intro j k h; cases h
 | cons x l ih=>
  intro j k h
  cases j with
  | zero=>
   have hx:x=none:=by simpa using h
   subst hx
   exact List.Perm.refl _
  | succ j=>
   have h':l[j]? =some none:=by simpa using h
   rw[List.set_cons_succ]
   cases x with
   | none=>exact ih h'
   | some y=>exact ((ih h').cons y).trans (List.Perm.swap k y _)
theorem qdO: ∀l:List (Option Nat),(∀j:Nat,l[j]? ≠some none)->(l.filterMap id).length=l.length
 | [],_=>rfl
 | x::l,h=>by
  cases x with
  | none=>exact absurd rfl (h 0)
  | some y=>
   have:=qdO l λj=>by have:=h (j+1); simpa using this
   simpa using this
theorem qlj {mask:Nat} (hz:Sz mask) {ow:Array (Option Nat)} {k:Nat} (hs:ow.size=mask+1) (hp:List.Perm (ow.toList.filterMap id) (List.range k)) (hk:k<mask+1) (x:Int):
  ∃j,SetTable.layClean.free mask ow (SetTable.turns mask) (SetTable.bits x % (mask+1)) (SetTable.bits x)=some j/\(ow.setIfInBounds j (some k)).size=mask+1/\List.Perm ((ow.setIfInBounds j (some k)).toList.filterMap id) (List.range (k+1)):=by
 have ex: ∃j,j<mask+1/\Fr ow j:=by
  apply Classical.byContradiction
  intro c
  have h1:=qdO ow.toList λj e=>by
   have hj:j<ow.toList.length:=(List.getElem?_eq_some_iff.mp e).1
   rw[Array.length_toList,hs] at hj
   refine c ⟨j,hj,?_⟩
   unfold Fr
   have e':ow[j]? =some none:=by rw[<-Array.getElem?_toList]; exact e
   have hj':j<ow.size:=by lia
   have e2:ow.getD j (some 0)=none:=by
    have:ow[j]? =some ow[j]:=by simp[hj']
    rw[this] at e'
    have:ow[j]=none:=by simpa using e'
    simp[Array.getD,hj',this]
   rw[e2]; rfl
  rw[hp.length_eq,List.length_range,Array.length_toList,hs] at h1
  lia
 obtain ⟨j,hj,hf⟩:=ex
 have hb:SetTable.bits x<2 ^ 64:=by
  unfold SetTable.bits
  have h1:=Int.emod_lt_of_pos x (show (0:Int)<2 ^ 64 by decide)
  have h2:=Int.emod_nonneg x (show (2 ^ 64:Int)≠0 by decide)
  lia
 obtain ⟨t,ht,e⟩:=qqL hz (i:=SetTable.bits x % (mask+1)) (p:=SetTable.bits x) (Nat.mod_lt _ (Nat.succ_pos _)) hb hj
 obtain ⟨r,e1,e2⟩:=qj1 (ow:=ow) t _ _ _ ht (Nat.mod_lt _ (Nat.succ_pos _)) (by rw[e]; exact hf)
 obtain ⟨hr,er⟩:=qrr e2
 refine ⟨r,e1,by rw[Array.size_setIfInBounds]; exact hs,?_⟩
 rw[Array.toList_setIfInBounds]
 refine (qfx (by rw[Array.getElem?_toList]; exact er)).trans ?_
 rw[List.range_succ]
 exact ((hp.cons k).trans (List.perm_append_singleton k (List.range k)).symm)
def qpQ (mask:Nat) (acc:Option (Array (Option Nat)×Nat)) (h:Int):Option (Array (Option Nat)×Nat):=do
 let (owner,k) <-acc
 let j <-SetTable.layClean.free mask owner (SetTable.turns mask) (SetTable.bits h % (mask+1)) (SetTable.bits h)
 pure (owner.setIfInBounds j (some k),k+1)
theorem qhK {mask:Nat} (hz:Sz mask): ∀(hs:List Int) (ow:Array (Option Nat)) (k:Nat),ow.size=mask+1->List.Perm (ow.toList.filterMap id) (List.range k)->k+hs.length<=mask->
  ∃ow',hs.foldl (qpQ mask) (some (ow,k))=some (ow',k+hs.length)/\ow'.size=mask+1/\List.Perm (ow'.toList.filterMap id) (List.range (k+hs.length))
 | [],ow,k,h1,h2,_=>⟨ow,rfl,h1,h2⟩
 | x::hs,ow,k,h1,h2,h3=>by
  rw[List.length_cons] at h3
  obtain ⟨j,e1,e2,e3⟩:=qlj hz h1 h2 (by lia) x
  have e:qpQ mask (some (ow,k)) x=some (ow.setIfInBounds j (some k),k+1):=by
   unfold qpQ
   show (SetTable.layClean.free mask ow (SetTable.turns mask) (SetTable.bits x % (mask+1)) (SetTable.bits x)).bind (λj=>some (ow.setIfInBounds j (some k),k+1))=_
   rw[e1]; rfl
  rw[List.foldl_cons,e,List.length_cons]
  obtain ⟨ow',a,b,c⟩:=qhK hz hs _ (k+1) e2 e3 (by lia)
  exact ⟨ow',by rw[a]; congr 2; lia,b,by rw[show k+(hs.length+1)=k+1+hs.length by lia]; exact c⟩
theorem qjD {mask:Nat} (hz:Sz mask) (hs:Array Int) (hn:hs.size<=mask): ∃ow,SetTable.layClean mask hs=some ow/\ow.size=mask+1/\List.Perm (ow.toList.filterMap id) (List.range hs.size):=by
 obtain ⟨ow,a,b,c⟩:=qhK hz hs.toList (Array.replicate (mask+1) none) 0 (by simp) (by simp) (by rw[Array.length_toList]; lia)
 rw[Array.length_toList,Nat.zero_add] at a c
 refine ⟨ow,?_,b,c⟩
 show (hs.foldl (qpQ mask) (some (Array.replicate (mask+1) none,0))).map (·.1)=some ow
 rw[<-Array.foldl_toList,a]
 rfl
theorem qjF {mask:Nat} (hz:Sz mask) (fg mv:Nat) (led plain:Bool) (hs:Array Int) (hn:hs.size<=mask): ∃t order,SetTable.laid mask fg mv led plain hs=some (t,order)/\qd2 t/\t.fits hs.size=true/\t.led=led/\t.mask=mask/\List.Perm order.toList (List.range hs.size):=by
 obtain ⟨ow,e1,e2,e3⟩:=qjD hz hs hn
 have el:(((List.range (mask+1)).filterMap λj=>(ow.getD j none).map (j, ·)).map (·.2))=ow.toList.filterMap id:=by
  rw[List.map_filterMap]
  have:ow.toList=(List.range (mask+1)).map λj=>ow.getD j none:=by
   apply List.ext_getElem
   ·simp[e2]
   ·intro i h1 h2
    have:i<ow.size:=by rw[<-Array.length_toList]; exact h1
    simp[Array.getD,this]
  rw[this,List.filterMap_map]
  refine qfw λj _=> ?_
  show Option.map (·.2) ((ow.getD j none).map (j, ·))=ow.getD j none
  cases ow.getD j none<;>rfl
 have ln:((List.range (mask+1)).filterMap λj=>(ow.getD j none).map (j, ·)).length=hs.size:=by
  have:=congrArg List.length el
  rw[List.length_map,e3.length_eq,List.length_range] at this
  exact this
 refine ⟨{ mask,place:=(((List.range (mask+1)).filterMap λj=>(ow.getD j none).map (j, ·)).map (·.1)).toArray,dummies:= #[],finger:=fg,led,moves:=mv,plain },(((List.range (mask+1)).filterMap λj=>(ow.getD j none).map (j, ·)).map (·.2)).toArray,by unfold SetTable.laid; rw[e1]; rfl,⟨(qfu ow _ List.pairwise_lt_range).1,rfl⟩,?_,rfl,rfl,?_⟩
 ·unfold SetTable.fits SetTable.fill
  simp only[List.size_toArray,List.length_map,ln,beq_self_eq_true,Bool.true_and,decide_eq_true_eq]
  show hs.size+0<=mask
  lia
 ·show List.Perm (((List.range (mask+1)).filterMap λj=>(ow.getD j none).map (j, ·)).map (·.2)) _
  rw[el]
  exact e3
theorem qeO: ∀n,n<64->Sz (SetTable.sizeAbove n - 1)/\n<=SetTable.sizeAbove n - 1:=by
 have: ∀n,n<64->(SetTable.sizeAbove n - 1+1∈[8,16,32,64])/\n<=SetTable.sizeAbove n - 1:=by decide+kernel
 exact this
theorem qeQ {α:Type} {es:Array α} {order:Array Nat} (h:List.Perm order.toList (List.range es.size)):List.Perm (order.filterMap (es[·]?)).toList es.toList:=by
 rw[Array.toList_filterMap]
 refine (h.filterMap _).trans ?_
 have:(List.range es.size).filterMap (es[·]?)=es.toList:=by
  have e:es.toList=(List.range es.size).filterMap (es.toList[·]?):=by
   apply List.ext_getElem?
   intro i
   have: ∀(l:List α),(List.range l.length).filterMap (l[·]?)=l:=by
    intro l
    induction l with
    | nil=>rfl
    | cons x l ih=>
     rw[List.length_cons,List.range_succ_eq_map,List.filterMap_cons]
     simp only[List.getElem?_cons_zero]
     rw[List.filterMap_map]
     congr 1
   rw[<-Array.length_toList,this]
  rw[e]
  refine qfw λi _=> ?_
  rw[Array.getElem?_toList]
 rw[this]
end SetL
end
section
namespace SetL
open PySem
section
variable {prog:Program} {w:World} {K:Type} [DecidableEq K] (knd:KeyKind prog w K)
def SX (h:Heap) (a:Addr) (l:List K) (es:Array (Int×Value)) (ep:Nat) (t:SetTable):Prop:=
 ∃o,h.get? a=some o/\o.ExactSet/\o.data= .set es ep t/\ElemsOf knd es.toList/\(∀k,k∈l↔∃e∈es.toList,knd.is k e.2=true)/\es.size<scanBound/\t.fits es.size=true/\es.size=(dd l).length/\qd2 t/\t.led= !w.params.followText "set-order"
variable {knd} {A:Around} {E:Value->Shared->Prop} {s:Shared}
theorem qki {l l':List K} (h: ∀k,k∈l↔k∈l'):(dd l).length=(dd l').length:=
 ((List.perm_ext_iff_of_nodup (qcd l) (qcd l')).mpr λk=>qc5.trans ((h k).trans qc5.symm)).length_eq
theorem SX.same {h:Heap} {a:Addr} {l l':List K} {es:Array (Int×Value)} {ep:Nat} {t:SetTable} (x:SX knd h a l es ep t) (e: ∀k,k∈l↔k∈l'):SX knd h a l' es ep t:=by
 obtain ⟨o,a1,a2,a3,a4,a5,a6,a7,a8,a9⟩:=x
 exact ⟨o,a1,a2,a3,a4,λk=>(e k).symm.trans (a5 k),a6,a7,a8.trans (qki e),a9⟩
theorem SX.keep {h h':Heap} {a:Addr} {l:List K} {es:Array (Int×Value)} {ep:Nat} {t:SetTable} (x:SX knd h a l es ep t) (k: ∀o,h.get? a=some o->h'.get? a=some o):SX knd h' a l es ep t:=by
 obtain ⟨o,a1,r⟩:=x
 exact ⟨o,k _ a1,r⟩
theorem SX.p {h:Heap} {a:Addr} {l:List K} {es:Array (Int×Value)} {ep:Nat} {t:SetTable} (x:SX knd h a l es ep t):qgB knd h a (λk=>decide (k∈l)) (dd l).length:=by
 obtain ⟨o,a1,a2,a3,a4,a5,a6,a7,a8,a9,a10⟩:=x
 exact ⟨o,es,ep,t,a1,a2,a3,a4,λk=>by rw[decide_eq_true_eq]; exact a5 k,a6,a7,a8,a9,a10⟩
theorem qgB.x {h:Heap} {a:Addr} {l:List K} {S:K->Bool} {n:Nat} (p:qgB knd h a S n) (hS: ∀k,S k=true↔k∈l) (hn:n=(dd l).length): ∃es ep t,SX knd h a l es ep t:=by
 obtain ⟨o,es,ep,t,a1,a2,a3,a4,a5,a6,a7,a8,a9,a10⟩:=p
 exact ⟨es,ep,t,o,a1,a2,a3,a4,λk=>(hS k).symm.trans (a5 k),a6,a7,a8.trans hn,a9,a10⟩
theorem qe8 {a:Addr} {l l':List K} {es es':Array (Int×Value)} {ep:Nat} {t t':SetTable} {Q:Unit->Shared->Prop} (x:SX knd s.heap a l es ep t) (el:ElemsOf knd es'.toList)
  (me: ∀k,k∈l'↔∃e∈es'.toList,knd.is k e.2=true) (hb:es'.size<scanBound) (hf:t'.fits es'.size=true) (hn:es'.size=(dd l').length) (hp:qd2 t') (hl:t'.led= !w.params.followText "set-order")
  (h: ∀h',Heap.SameBut a s.heap h'->SX knd h' a l' es' (ep+1) t'->Q () { s with heap:=h' }):wpAny (model prog w) A (storeSet a es' t') Q E s:=by
 obtain ⟨o,a1,a2,a3,_⟩:=x
 refine qgG (knd:=knd) (S':=λk=>decide (k∈l')) a1 a2 a3 el (λk=>by rw[decide_eq_true_eq]; exact me k) hb hf hp hl λh' sb g _=>h h' sb ⟨_,g,a2,rfl,el,me,hb,hf,hn,hp,hl⟩
theorem SX.state {a:Addr} {l:List K} {es:Array (Int×Value)} {ep:Nat} {t:SetTable} (x:SX knd s.heap a l es ep t) {Q:Array (Int×Value)×Nat×SetTable->Shared->Prop} (h:Q (es,ep,t) s):wpAny (model prog w) A (setState a) Q E s:=by
 obtain ⟨o,a1,a2,a3,a4,a5,a6,a7,_⟩:=x
 exact wpAny_setState_of a1 a3 a7 h
theorem qmL {a:Addr} {l:List K} {es:Array (Int×Value)} {ep:Nat} {t:SetTable} {wanted:Nat} {Q:Unit->Shared->Prop} (x:SX knd s.heap a l es ep t) (hw:wanted<64) (hn:es.size<=wanted)
  (h: ∀h' es' t',Heap.SameBut a s.heap h'->SX knd h' a l es' (ep+1) t'->t'.mask=SetTable.sizeAbove wanted - 1->es'.size=es.size->Q () { s with heap:=h' }):wpAny (model prog w) A (setRelay a wanted) Q E s:=by
 obtain ⟨z1,z2⟩:=qeO wanted hw
 obtain ⟨t',order,e1,e2,e3,e4,e5,e6⟩:=qjF z1 t.finger (t.movedTo (SetTable.sizeAbove wanted - 1)) t.led t.plain (es.map (·.1)) (by rw[Array.size_map]; lia)
 rw[Array.size_map] at e3 e6
 unfold setRelay
 refine wpAny_bind (x.state ?_)
 dsimp only
 have er:t.relaid (es.map (·.1)) wanted=some (t',order):=e1
 rw[er]
 have sl: ¬SetTable.sizeAbove wanted>sizeLine:=by
  have:SetTable.sizeAbove wanted<=64:=by
   rcases (by simpa [Sz] using z1:_\/_\/_\/_) with z | z | z | z<;>lia
  have:=sizeLine_eq
  lia
 rw[if_neg sl]
 have pm:List.Perm (order.filterMap (es[·]?)).toList es.toList:=qeQ e6
 have sz:(order.filterMap (es[·]?)).size=es.size:=by rw[<-Array.length_toList,pm.length_eq,Array.length_toList]
 obtain ⟨o,a1,a2,a3,a4,a5,a6,a7,a8,a9,a10⟩:=id x
 refine wpAny_bind ?_
 show wpAny _ _ (do
  if (order.filterMap (es[·]?)).size != es.size then unsupported "internal:set-table-lost-an-element"
  pure (order.filterMap (es[·]?),t')) _ _ _
 rw[if_neg (by simp[sz])]
 refine wpAny_bind (wpAny_pure (wpAny_pure ?_))
 dsimp only
 refine qe8 x (l':=l) (λe he=>a4 e (pm.mem_iff.mp he)) (λk=>(a5 k).trans ⟨λ⟨e,he,q⟩=>⟨e,pm.mem_iff.mpr he,q⟩,λ⟨e,he,q⟩=>⟨e,pm.mem_iff.mp he,q⟩⟩) (by lia) (by rw[sz]; exact e3) (by rw[sz]; exact a8) e2 (e4.trans a10) λh' sb y=>h h' _ t' sb y e5 sz
theorem SX.psz {h:Heap} {a:Addr} {l:List K} {es:Array (Int×Value)} {ep:Nat} {t:SetTable} (x:SX knd h a l es ep t):t.place.size=es.size/\t.fill=es.size:=by
 obtain ⟨o,a1,a2,a3,a4,a5,a6,a7,a8,a9,a10⟩:=x
 have e:t.place.size=es.size:=by
  simp only[SetTable.fits,Bool.and_eq_true,beq_iff_eq] at a7
  exact a7.1
 refine ⟨e,?_⟩
 unfold SetTable.fill
 rw[a9.2,e]
 rfl
theorem ql1 {a:Addr} {l:List K} {es:Array (Int×Value)} {ep:Nat} {t:SetTable} {more:Nat} {Q:Unit->Shared->Prop} (x:SX knd s.heap a l es ep t) (hw:(es.size+more)*2<64)
  (h: ∀h' es' ep' t',Heap.SameBut a s.heap h'->SX knd h' a l es' ep' t'->es.size+more<=t'.mask->(Sz t.mask->Sz t'.mask)->es'.size=es.size->Q () { s with heap:=h' }):wpAny (model prog w) A (setRoomFor a more) Q E s:=by
 obtain ⟨p1,p2⟩:=x.psz
 unfold setRoomFor
 refine wpAny_bind (x.state ?_)
 dsimp only
 have er:t.roomFor more=if (es.size+more)*5≥t.mask*3 then some ((es.size+more)*2) else none:=by
  unfold SetTable.roomFor
  rw[p1,p2]
 rw[er]
 by_cases c:(es.size+more)*5≥t.mask*3
 ·rw[if_pos c]
  obtain ⟨z1,z2⟩:=qeO _ hw
  exact qmL x hw (by lia) λh' es' t' sb y e1 e2=>h h' es' _ t' sb y (by rw[e1]; lia) (λ_=>by rw[e1]; exact z1) e2
 ·rw[if_neg c]
  exact wpAny_pure (h s.heap es ep t (Heap.SameBut.refl a s.heap) x (by lia) id rfl)
theorem qhc {l:List K} {k:K}:(dd (l++[k])).length=if k∈l then (dd l).length else (dd l).length+1:=by
 by_cases c:k∈l
 ·rw[if_pos c]
  refine qki λk'=>⟨λh=> ?_,λh=>List.mem_append.mpr (.inl h)⟩
  rcases List.mem_append.mp h with h | h
  ·exact h
  ·rw[List.mem_singleton.mp h]; exact c
 ·rw[if_neg c]
  have nd:(k::dd l).Nodup:=List.nodup_cons.mpr ⟨λh=>c (qc5.mp h),qcd l⟩
  have p:List.Perm (dd (l++[k])) (k::dd l):=(List.perm_ext_iff_of_nodup (qcd _) nd).mpr λk'=>by
   rw[qc5,List.mem_append,List.mem_singleton,List.mem_cons,qc5]
   exact Or.comm
  rw[p.length_eq]
  rfl
theorem qpB {a:Addr} {l:List K} {es:Array (Int×Value)} {ep:Nat} {t:SetTable} {k:K} {v:Value} {Q:Bool->Shared->Prop} (x:SX knd s.heap a l es ep t) (hk:knd.is k v=true) (hsc:v.scannable=true) (room:(dd l).length+1<scanBound)
  (h: ∀h' es' ep' t' b,Heap.SameBut a s.heap h'->SX knd h' a (l++[k]) es' ep' t'->Q b { s with heap:=h' }):wpAny (model prog w) A (setAddHashed a v (knd.hash k)) Q E s:=by
 refine qpC (knd:=knd) hk hsc x.p room λh' sb S'=> ?_
 obtain ⟨es',ep',t',y⟩:=S'.x (l:=l++[k]) (λk'=>by rw[Bool.or_eq_true,decide_eq_true_eq,decide_eq_true_eq,List.mem_append,List.mem_singleton]) (by
  rw[qhc]
  by_cases c:k∈l
  ·rw[if_pos c,if_pos (decide_eq_true c)]
  ·rw[if_neg c,if_neg (by rw[decide_eq_false c]; decide)])
 exact h h' es' ep' t' _ sb y
theorem qrj {v:Value} (h:v.scannable=true) (a:Addr):v≠.ref a:=λz=>by rw[z] at h; cases h
theorem qmM {sets:List Addr} {Q:Bool->Shared->Prop} (hs: ∀a∈sets,∃l es ep t,SX knd s.heap a l es ep t) (h:Q true s):wpAny (model prog w) A (setsQuiet sets) Q E s:=by
 unfold setsQuiet
 refine wpAny_bind (wpAny_mono (wpAny_forIn_list _ (λqcT b s'=>b=(none,())/\s'=s/\∀a∈qcT,∃l es ep t,SX knd s.heap a l es ep t) (λb s'=>b=(none,())/\s'=s) (λa qcT b s' ⟨e1,e2,hr⟩=> ?qex) (λb s' ⟨e1,e2,_⟩=>⟨e1,e2⟩) _ _ ⟨rfl,rfl,hs⟩) (λb s' ⟨e1,e2⟩=> ?fin) λ_ _ z=>z)
 case qex=>
  subst e1 e2
  obtain ⟨l,es,ep,t,x⟩:=hr a List.mem_cons_self
  obtain ⟨o,a1,a2,a3,a4,a5,a6,a7,_⟩:=id x
  refine wpAny_bind (wpAny_setEntries_of a1 a3 a7 ?_)
  refine wpAny_bind (wpAny_mono (wpAny_forIn_array' _ (λqcT b s''=>b=(none,())/\s''=s'/\∀e∈qcT,e∈es.toList) (λb s''=>b=(none,())/\s''=s') (λe qcT b s'' ⟨e1,e2,he⟩=> ?turn2) (λb s'' ⟨e1,e2,_⟩=>⟨e1,e2⟩) _ _ ⟨rfl,rfl,λe he=>he⟩) (λb s'' ⟨e1,e2⟩=> ?fin2) λ_ _ z=>z)
  case turn2=>
   subst e1 e2
   have sc:=(a4 e (he e List.mem_cons_self)).2
   obtain ⟨hh,v⟩:=e
   have hv: ∀a,v≠.ref a:=qrj sc
   cases v with
   | ref a=>exact absurd rfl (hv a)
   | _=>exact wpAny_pure ⟨rfl,rfl,λe' h'=>he e' (List.mem_cons_of_mem _ h')⟩
  case fin2=>
   subst e1 e2
   exact wpAny_pure ⟨rfl,rfl,λb hb=>hr b (List.mem_cons_of_mem _ hb)⟩
 case fin=>
  subst e1 e2
  exact wpAny_pure h
theorem qnW {a:Addr} {l:List K} {es:Array (Int×Value)} {ep:Nat} {t:SetTable} {Q:Array (Int×Value)->Shared->Prop} (x:SX knd s.heap a l es ep t)
  (h: ∀(xs:Array (Int×Value)) (d:Drawn),List.Perm xs.toList es.toList->Q xs { s with drawn:=d }):wpAny (model prog w) A (setWalk a) Q E s:=by
 obtain ⟨o,a1,a2,a3,a4,a5,a6,a7,a8,a9,a10⟩:=id x
 unfold setWalk
 refine wpAny_bind (x.state ?_)
 dsimp only
 refine wpAny_bind (qdv ?_)
 cases bt:w.params.followText "set-order" with
 | true=>
  rw[if_pos rfl]
  refine wpAny_bind (wpAny_askSetting (wpAny_pure ?_))
  exact h _ s.drawn (qc1 _ _)
 | false=>
  rw[if_neg (by decide)]
  show wpAny _ _ (if (!t.plain&&decide (es.size>1))=true then _ else _) _ _ _
  by_cases c:(!t.plain&&decide (es.size>1))=true
  ·rw[if_pos c]
   refine wpAny_bind (qg8 es.size es.toList s _ (by simp) λys d pm=>wpAny_pure ?_)
   exact h _ d (by simpa using pm)
  ·rw[if_neg c]
   have led:(!t.led&&decide (es.size>1))=false:=by rw[a10,bt]; rfl
   refine wpAny_bind ?_
   show wpAny _ _ (if (!t.led&&decide (es.size>1))=true then _ else _) _ _ _
   rw[if_neg (by rw[led]; decide)]
   exact wpAny_pure (wpAny_pure (h es s.drawn (List.Perm.refl _)))
theorem qkM {a b:Addr} {l l2:List K} {es es2:Array (Int×Value)} {ep ep2:Nat} {t t2:SetTable} {Q:Array (Int×Value)->Shared->Prop} (hab:b≠a) (x:SX knd s.heap a l es ep t) (y:SX knd s.heap b l2 es2 ep2 t2)
  (h: ∀(xs:Array (Int×Value)) (h':Heap) (d:Drawn) (ep':Nat) (t':SetTable),List.Perm xs.toList es2.toList->Heap.SameBut a s.heap h'->SX knd h' a l es ep' t'->Q xs { s with heap:=h',drawn:=d }):wpAny (model prog w) A (setWalkUnseen b [a] (some a)) Q E s:=by
 obtain ⟨o,a1,a2,a3,a4,a5,a6,a7,a8,a9,a10⟩:=id x
 obtain ⟨o2,b1,b2,b3,b4,b5,b6,b7,b8,b9,b10⟩:=id y
 have byWalk:wpAny (model prog w) A (setWalk b) Q E s:=qnW y λxs d pm=>h xs s.heap d ep t pm (Heap.SameBut.refl a s.heap) x
 unfold setWalkUnseen
 refine wpAny_bind (y.state ?_)
 dsimp only
 refine wpAny_bind (qdv ?_)
 by_cases c:(w.params.followText "set-order" ||t2.led&&t2.plain||decide (es2.size<=1))=true
 ·rw[if_pos c]; exact byWalk
 ·rw[if_neg c]
  refine wpAny_bind (qmM (knd:=knd) (λz hz=> ?_) ?_)
  ·rcases List.mem_cons.mp hz with e | hz
   ·subst e; exact ⟨_,_,_,_,y⟩
   ·rw[List.mem_singleton.mp hz]; exact ⟨_,_,_,_,x⟩
  ·rw[if_neg (by decide)]
   refine wpAny_bind (wpAny_rule ?_)
   refine wpAny_bind (x.state ?_)
   dsimp only
   by_cases c2:(t.led&& !t2.led||t.plain&& !t2.plain)=true
   ·rw[if_pos c2]
    refine wpAny_bind (qe8 x (l':=l) (t':={ t with led:=t.led&&t2.led,plain:=t.plain&&t2.plain }) a4 a5 a6 a7 a8 a9 (by rw[a10,b10,Bool.and_self]) λh' sb z=>wpAny_pure (h es2 h' s.drawn _ _ (List.Perm.refl _) sb z))
   ·rw[if_neg c2]
    exact wpAny_pure (h es2 s.heap s.drawn ep t (List.Perm.refl _) (Heap.SameBut.refl a s.heap) x)
theorem qjw {a b:Addr} {l l2:List K} {es es2:Array (Int×Value)} {ep ep2:Nat} {t t2:SetTable} {Q:Unit->Shared->Prop} {each:Sem Unit} (hab:a≠b) (x:SX knd s.heap a l es ep t) (y:SX knd s.heap b l2 es2 ep2 t2) (hz:es.size=0->Sz t.mask)
  (hw:(es.size+es2.size)*2<64) (he: ∀(s':Shared) (Q':Unit->Shared->Prop),SX knd s'.heap b l2 es2 ep2 t2->Q' () s'->wpAny (model prog w) A each Q' E s')
  (h: ∀h' d,Heap.SameBut a s.heap h'->(∃es' ep' t',SX knd h' a (l++l2) es' ep' t'/\(es'.size=0->Sz t'.mask))->Q () { s with heap:=h',drawn:=d }):wpAny (model prog w) A (setMerge a b each) Q E s:=by
 obtain ⟨o,a1,a2,a3,a4,a5,a6,a7,a8,a9,a10⟩:=id x
 obtain ⟨o2,b1,b2,b3,b4,b5,b6,b7,b8,b9,b10⟩:=id y
 unfold setMerge
 rw[if_neg (by simpa using hab)]
 refine wpAny_bind (y.state ?_)
 dsimp only
 by_cases c0:es2.isEmpty=true
 ·rw[if_pos c0]
  have z0:es2= #[]:=by simpa using c0
  refine wpAny_pure (h s.heap s.drawn (Heap.SameBut.refl a s.heap) ⟨es,ep,t,x.same λk=> ?_,hz⟩)
  rw[List.mem_append]
  refine ⟨.inl,λq=>q.elim id λq=> ?_⟩
  obtain ⟨e,he,_⟩:=(b5 k).mp q
  rw[z0] at he; cases he
 ·rw[if_neg c0]
  have some2: ∀{h':Heap} {es':Array (Int×Value)} {ep':Nat} {t':SetTable},SX knd h' a (l++l2) es' ep' t'->es'.size=0->Sz t'.mask:=λ{h' es' ep' t'} z q=>by
   obtain ⟨_,_,_,_,_,_,_,_,z8,_⟩:=id z
   have n2:es2.size≠0:=λq2=>c0 (by simpa using Array.eq_empty_of_size_eq_zero q2)
   have: ∃k,k∈dd l2:=by
    cases e:dd l2 with
    | nil=>rw[e] at b8; exact absurd b8 n2
    | cons k r=>exact ⟨k,List.mem_cons_self⟩
   obtain ⟨k,hk⟩:=this
   have hk2:k∈dd (l++l2):=qc5.mpr (List.mem_append.mpr (.inr (qc5.mp hk)))
   have z0:(dd (l++l2)).length=0:=z8.symm.trans q
   rw[List.eq_nil_of_length_eq_zero z0] at hk2
   cases hk2
  refine wpAny_bind (ql1 x hw λh1 es1 ep1 t1 sb1 x1 hm1 hz1 sz1=> ?_)
  have y1:SX knd h1 b l2 es2 ep2 t2:=y.keep λo e=>by rw[sb1.2 b (Ne.symm hab)]; exact e
  obtain ⟨p1,p2⟩:=x1.psz
  refine wpAny_bind (SX.state (s:={ s with heap:=h1 }) x1 ?_)
  dsimp only
  by_cases cf:es.size=0
  ·have cf1:t1.fill=0:=by lia
   have nl: ∀k,k∉l:=λk hk=>by
    obtain ⟨e,he,_⟩:=(a5 k).mp hk
    have:es= #[]:=Array.eq_empty_of_size_eq_zero cf
    rw[this] at he; cases he
   have nl2: ∀k,k∈l2↔k∈l++l2:=λk=>by rw[List.mem_append]; exact ⟨.inr,λq=>q.elim (λq=>absurd q (nl k)) id⟩
   have lw:t1.led= !w.params.followText "set-order" :=by obtain ⟨_,_,_,_,_,_,_,_,_,_,z⟩:=id x1; exact z
   have ll:(t1.led&&t2.led)= !w.params.followText "set-order" :=by rw[lw,b10,Bool.and_self]
   have road:t1.road t2=if (t1.mask==t2.mask&&t2.dummies.isEmpty)=true then .slotForSlot else .clean:=by
    unfold SetTable.road
    rw[cf1]
    rfl
   rw[road]
   by_cases cm:(t1.mask==t2.mask&&t2.dummies.isEmpty)=true
   ·rw[if_pos cm]
    dsimp only
    exact qe8 (s:={ s with heap:=h1 }) x1 (l':=l2) (t':={ t2 with finger:=t1.finger,led:=t1.led&&t2.led,moves:=t1.moves,plain:=t1.plain&&t2.plain }) b4 b5 b6 b7 b8 b9 ll λh' sb z=>h h' s.drawn (sb1.trans sb) ⟨_,_,_,z.same nl2,some2 (z.same nl2)⟩
   ·rw[if_neg cm]
    dsimp only
    obtain ⟨t',order,e1,e2,e3,e4,e5,e6⟩:=qjF (hz1 (hz cf)) t1.finger t1.moves (t1.led&&t2.led) (t1.plain&&t2.plain) (es2.map (·.1)) (by rw[Array.size_map]; lia)
    rw[Array.size_map] at e3 e6
    rw[e1]
    have pm:List.Perm (order.filterMap (es2[·]?)).toList es2.toList:=qeQ e6
    have sz:(order.filterMap (es2[·]?)).size=es2.size:=by rw[<-Array.length_toList,pm.length_eq,Array.length_toList]
    refine wpAny_bind ?_
    show wpAny _ _ (do
     if (order.filterMap (es2[·]?)).size != es2.size then unsupported "internal:set-table-lost-an-element"
     pure (order.filterMap (es2[·]?),t')) _ _ _
    rw[if_neg (by simp[sz])]
    refine wpAny_bind (wpAny_pure (wpAny_pure ?_))
    dsimp only
    exact qe8 (s:={ s with heap:=h1 }) x1 (l':=l2) (λe he=>b4 e (pm.mem_iff.mp he)) (λk=>(b5 k).trans ⟨λ⟨e,he,q⟩=>⟨e,pm.mem_iff.mpr he,q⟩,λ⟨e,he,q⟩=>⟨e,pm.mem_iff.mp he,q⟩⟩) (by lia) (by rw[sz]; exact e3) (by rw[sz]; exact b8) e2 (e4.trans ll) λh' sb z=>h h' s.drawn (sb1.trans sb) ⟨_,_,_,z.same nl2,some2 (z.same nl2)⟩
  ·have road:t1.road t2= .oneByOne:=by
    unfold SetTable.road
    rw[if_pos (by rw[p2,sz1]; simpa using cf)]
   rw[road]
   dsimp only
   refine wpAny_bind (qkM (s:={ s with heap:=h1 }) (Ne.symm hab) x1 y1 λxs h2 d ep' t' pm sb2 x2=> ?_)
   have all: ∀e∈xs.toList,∃k,knd.is k e.2=true/\e.1=knd.hash k/\e.2.scannable=true:=λe he=>by
    obtain ⟨⟨k,q1,q2⟩,q3⟩:=b4 e (pm.mem_iff.mp he)
    exact ⟨k,q1,q2,q3⟩
   have ll:l.length+0<=l.length:=Nat.le_refl _
   refine wpAny_bind (wpAny_mono (wpAny_forIn_array' _ (λqcT _ s'=> ∃(h':Heap) (dn:List (Int×Value)) (m:List K) (es':Array (Int×Value)) (ep':Nat) (t':SetTable),dn++qcT=xs.toList/\s'={ s with heap:=h',drawn:=d }/\Heap.SameBut a s.heap h'/\SX knd h' a m es' ep' t'/\(∀k,k∈m↔k∈l\/∃e∈dn,knd.is k e.2=true)/\(dd m).length<=es.size+dn.length) (λ_ s'=> ∃(h':Heap) (m:List K) (es':Array (Int×Value)) (ep':Nat) (t':SetTable),s'={ s with heap:=h',drawn:=d }/\Heap.SameBut a s.heap h'/\SX knd h' a m es' ep' t'/\(∀k,k∈m↔k∈l\/∃e∈xs.toList,knd.is k e.2=true)) (λe qcT u s' ⟨h',dn,m,es',ep',t',e1,e2,e3,e4,e5,e6⟩=> ?qex) (λu s' ⟨h',dn,m,es',ep',t',e1,e2,e3,e4,e5,e6⟩=> ?ende) xs _ ⟨h2,[],l,_,_,_,rfl,rfl,sb1.trans sb2,x2,λk=>⟨.inl,λq=>q.elim id λ⟨e,he,_⟩=>by cases he⟩,by rw[a8]; exact Nat.le_refl _⟩) (λu s' ⟨h',m,es',ep',t',e2,e3,e4,e5⟩=> ?fin) λ_ _ z=>z)
   case qex=>
    subst e2
    obtain ⟨k,q1,q2,q3⟩:=all e (by rw[<-e1]; simp)
    obtain ⟨hh,v⟩:=e
    have q2:hh=knd.hash k:=q2
    subst q2
    have ldn:dn.length+(qcT.length+1)=es2.size:=by
     have:=congrArg List.length e1
     rw[pm.length_eq,List.length_append,List.length_cons,Array.length_toList] at this
     exact this
    refine wpAny_bind (wpAny_holding (qpB (s:={ s with heap:=h',drawn:=d }) e4 q1 q3 (by have:scanBound=4096:=rfl; lia) λh3 es3 ep3 t3 bb sb3 x3=> ?_))
    have y3:SX knd h3 b l2 es2 ep2 t2:=y.keep λo e=>by rw[(e3.trans sb3).2 b (Ne.symm hab)]; exact e
    refine wpAny_bind (he _ _ y3 ?_)
    refine wpAny_bind (SX.state (s:={ s with heap:=h3,drawn:=d }) y3 ?_)
    rw[if_neg (by simp)]
    refine wpAny_pure ⟨h3,dn++[(knd.hash k,v)],m++[k],es3,ep3,t3,by rw[List.append_assoc]; exact e1,rfl,e3.trans sb3,x3,λk'=> ?_,by
     have:=qhc (l:=m) (k:=k)
     rw[List.length_append]
     show _<=_+(_+1)
     split at this<;>lia⟩
    rw[List.mem_append,e5 k',List.mem_singleton]
    constructor
    ·rintro ((q | ⟨e,he',q⟩) | q)
     ·exact .inl q
     ·exact .inr ⟨e,List.mem_append.mpr (.inl he'),q⟩
     ·subst q; exact .inr ⟨_,List.mem_append.mpr (.inr (List.mem_singleton.mpr rfl)),q1⟩
    ·rintro (q | ⟨e,he',q⟩)
     ·exact .inl (.inl q)
     ·rcases List.mem_append.mp he' with he' | he'
      ·exact .inl (.inr ⟨e,he',q⟩)
      ·rw[List.mem_singleton.mp he'] at q
       exact .inr (knd.inj v k' k q q1)
   case ende=>
    have:dn=xs.toList:=by simpa using e1
    subst this
    exact ⟨h',m,es',ep',t',e2,e3,e4,e5⟩
   case fin=>
    subst e2
    have sm: ∀k,k∈m↔k∈l++l2:=λk=>by
     rw[e5 k,List.mem_append,b5 k]
     exact ⟨λq=>q.imp_right λ⟨e,he',q⟩=>⟨e,pm.mem_iff.mp he',q⟩,λq=>q.imp_right λ⟨e,he',q⟩=>⟨e,pm.mem_iff.mpr he',q⟩⟩
    exact wpAny_pure (h h' d e3 ⟨es',ep',t',e4.same sm,some2 (e4.same sm)⟩)
end
end SetL
end
section
namespace SetL
open PySem
section
variable {prog:Program} {w:World} {K:Type} [DecidableEq K] {knd:KeyKind prog w K} {A:Around} {E:Value->Shared->Prop} {s:Shared}
theorem qgK {β:Type} (n:Nat) (b:β) (f:Nat->β->Sem (ForInStep β)):forIn [:n] b f=forIn (List.range' 0 n 1) b f:=by
 rw[Std.Legacy.Range.forIn_eq_forIn_range']
 have hsz:([:n]:Std.Legacy.Range).size=n:=by simp[Std.Legacy.Range.size]
 show forIn (List.range' 0 ([:n]:Std.Legacy.Range).size 1) b f=_
 rw[hsz]
theorem qlK {d:Addr} {Q:Bool->Shared->Prop} (ty:s.TypeIs (.ref d) "dict") (h:Q false s):wpAny (model prog w) A (Builtin.Frozenset.isAnySet (.ref d)) Q E s:=by
 unfold Builtin.Frozenset.isAnySet
 refine wpAny_bind (wpAny_isInstance ty PySem.F.sub_dict_set ?_)
 exact wpAny_isInstance ty PySem.F.sub_dict_frozenset h
theorem qhk {d:Addr} {Q:Bool->Shared->Prop} (ty:s.TypeIs (.ref d) "set") (h:Q true s):wpAny (model prog w) A (Builtin.Frozenset.isAnySet (.ref d)) Q E s:=by
 unfold Builtin.Frozenset.isAnySet
 refine wpAny_bind (wpAny_isInstance ty PySem.sub_set_self ?_)
 exact wpAny_pure h
theorem qkL {nm:String} {a d:Addr} {l:List K} {es:Array (Int×Value)} {ep:Nat} {t:SetTable} {o:Obj} {ds:Array DictEntry} {dp:Nat} {ks:List K} {Q:Unit->Shared->Prop} (had:a≠d) (x:SX knd s.heap a l es ep t)
  (ho:s.heap.get? d=some o) (hx:o.ExactDict) (hd:o.data= .dict ds dp) (hs:(d==sysModules)=false) (hl:ds.toList.length=ks.length) (hk: ∀(i:Nat) (e:DictEntry) (k:K),ds[i]? =some e->ks[i]? =some k->knd.is k e.key=true/\e.hash=knd.hash k/\e.key.scannable=true) (hw:(es.size+ds.size)*2<64)
  (h: ∀h',Heap.SameBut a s.heap h'->(∃es' ep' t',SX knd h' a (l++ks) es' ep' t')->Q () { s with heap:=h' }):wpAny (model prog w) A (Builtin.Frozenset.updateFrom nm a (.ref d)) Q E s:=by
 have ty:s.TypeIs (.ref d) "dict" :=⟨o,ho,hx.1⟩
 unfold Builtin.Frozenset.updateFrom
 refine wpAny_bind (qlK ty ?_)
 rw[if_neg (by decide)]
 refine wpAny_bind (wpAny_typeOf ty ?_)
 rw[if_pos (by decide)]
 refine wpAny_bind (wpAny_rule ?_)
 refine wpAny_bind (m:=Builtin.Frozenset.addrOf _) (wpAny_pure ?_)
 dsimp only
 rw[if_neg (by rw[hs]; decide)]
 refine wpAny_bind (wpAny_dictEpoch ho hd ?_)
 refine wpAny_bind (wpAny_dictEntries ho hd ?_)
 refine wpAny_bind (ql1 x hw λh1 es1 ep1 t1 sb1 x1 hm1 hz1 sz1=> ?_)
 have ho1:h1.get? d=some o:=by rw[sb1.2 d (Ne.symm had)]; exact ho
 refine wpAny_bind (wpAny_dictEntries (s:={ s with heap:=h1 }) ho1 hd ?_)
 rw[qgK]
 refine wpAny_bind (wpAny_mono (wpAny_forIn_list _ (λqcT _ s'=> ∃(h':Heap) (i:Nat) (es':Array (Int×Value)) (ep':Nat) (t':SetTable),qcT=List.range' i (ds.size - i)/\i<=ds.size/\s'={ s with heap:=h' }/\Heap.SameBut a s.heap h'/\SX knd h' a (l++ks.take i) es' ep' t'/\(dd (l++ks.take i)).length<=es.size+i) (λ_ s'=> ∃(h':Heap) (es':Array (Int×Value)) (ep':Nat) (t':SetTable),s'={ s with heap:=h' }/\Heap.SameBut a s.heap h'/\SX knd h' a (l++ks) es' ep' t') (λj qcT u s' ⟨h',i,es',ep',t',e1,e2,e3,e4,e5,e6⟩=> ?qex) (λu s' ⟨h',i,es',ep',t',e1,e2,e3,e4,e5,e6⟩=> ?nil) (List.range' 0 ds.size 1) PUnit.unit ⟨h1,0,es1,ep1,t1,by simp,Nat.zero_le _,rfl,sb1,by simpa using x1,?init⟩) (λu s' ⟨h',es',ep',t',e3,e4,e5⟩=> ?fin) λ_ _ z=>z)
 case init=>
  obtain ⟨_,_,_,_,_,_,_,_,a8,_⟩:=id x
  simp
  lia
 case fin=>
  subst e3
  exact wpAny_pure (h h' e4 ⟨es',ep',t',e5⟩)
 case nil=>
  have hi:i=ds.size:=by
   have:=congrArg List.length e1
   simp at this
   lia
  subst e3
  refine ⟨h',es',ep',t',rfl,e4,?_⟩
  have:ks.take i=ks:=List.take_of_length_le (by rw[<-hl,Array.length_toList]; lia)
  rw[this] at e5
  exact e5
 case qex=>
  subst e3
  have hi:i<ds.size:=by
   have:=congrArg List.length e1
   simp at this
   lia
  have er:List.range' i (ds.size - i)=i::List.range' (i+1) (ds.size - (i+1)):=by
   rw[show ds.size - i=(ds.size - (i+1))+1 by lia,List.range'_succ]
  rw[er] at e1
  obtain ⟨ej,er2⟩:=List.cons.inj e1
  have ej:=ej.symm
  subst ej er2
  have hd':h'.get? d=some o:=by rw[e4.2 d (Ne.symm had)]; exact ho
  refine wpAny_bind (wpAny_dictEntries (s:={ s with heap:=h' }) hd' hd ?_)
  have g:ds[i]? =some ds[i]:=by simp[hi]
  rw[g]
  dsimp only
  have hi2:i<ks.length:=by rw[<-hl,Array.length_toList]; exact hi
  obtain ⟨q1,q2,q3⟩:=hk i ds[i] ks[i] g (List.getElem?_eq_getElem hi2)
  rw[q2]
  have sb:scanBound=4096:=rfl
  refine wpAny_bind (wpAny_holding (qpB (s:={ s with heap:=h' }) e5 q1 q3 (by lia) λh3 es3 ep3 t3 bb sb3 x3=> ?_))
  have hd3:h3.get? d=some o:=by rw[sb3.2 d (Ne.symm had)]; exact hd'
  refine wpAny_bind (wpAny_dictEpoch (s:={ s with heap:=h3 }) hd3 hd ?_)
  rw[if_neg (by simp)]
  have tk:ks.take (i+1)=ks.take i++[ks[i]]:=by rw[List.take_succ,List.getElem?_eq_getElem hi2]; rfl
  refine wpAny_pure ⟨h3,i+1,es3,ep3,t3,rfl,by lia,rfl,e4.trans sb3,by rw[tk,<-List.append_assoc]; exact x3,?_⟩
  have:=qhc (l:=l++ks.take i) (k:=ks[i])
  rw[tk,<-List.append_assoc]
  split at this<;>lia
end
end SetL
end
section
namespace SetL
open PySem
section
variable {prog:Program} {w:World} {K:Type} [DecidableEq K] {knd:KeyKind prog w K} {A:Around} {E:Value->Shared->Prop} {s:Shared}
theorem qj0 (h:Heap) {a:Addr} {o:Obj} (ho:h.get? a=some o) (hx:o.ExactSet) (hd:o.data= .set #[] 0 (.fresh 0 0 (!w.params.followText "set-order"))):SX knd h a ([]:List K) #[] 0 (.fresh 0 0 (!w.params.followText "set-order")):=
 ⟨o,ho,hx,hd,λe he=>by simp at he,λk=>by simp,by decide,rfl,rfl,qeS _ _ _,rfl⟩
theorem sz7:Sz 7:=by unfold Sz; decide
set_option maxHeartbeats 8000000 in
theorem qpz {d:Addr} {o:Obj} {ds:Array DictEntry} {dp:Nat} {ks:List K} {Q:Value->Shared->Prop} (ho:s.heap.get? d=some o) (hx:o.ExactDict) (hd:o.data= .dict ds dp) (hs:(d==sysModules)=false) (hl:ds.toList.length=ks.length)
  (hk: ∀(i:Nat) (e:DictEntry) (k:K),ds[i]? =some e->ks[i]? =some k->knd.is k e.key=true/\e.hash=knd.hash k/\e.key.scannable=true) (hw:ds.size*2<64)
  (h: ∀(h':Heap),(∃es ep t,SX knd h' s.heap.objs.size ks es ep t)->(∀b o,s.heap.get? b=some o->h'.get? b=some o)->Q (.ref s.heap.objs.size) { s with heap:=h' }):
  wpAny (model prog w) A (call (.type "set") [.ref d]) Q E s:=by
 obtain ⟨c,tl,mro⟩:=PySem.F.called_set.mro
 have md:=PySem.F.called_set.made
 have sb:=PySem.F.called_set.sub
 refine wpAny_call (codeAny_of_tree ?_)
 show wpAny _ _ (callAny (.type "set") _) _ _ _
 refine wpAny_pure ⟨Code.quiet_builtin _ (by decide+kernel),codeAny_builtin PySem.F.entry_type_call ?_⟩
 rw[Around.under_plain (weight_type_call_type "set" [.ref d] []) rfl]
 have q1:=PySem.F.called_set.notType
 have q2:=PySem.F.called_set.canCreate
 have q3:=PySem.F.typeCall_set_1 (.ref d)
 repeat (any_goals (first | assumption | wp_step))
 refine codeAny_mono (qjt (.ref d) (E:=E) (Q₁:=λv s1=>v= .ref s.heap.objs.size/\s1={ s with heap:=s.heap.push { cls:=.type "set",dict:=none,data:=.set #[] 0 (.fresh 0 0 (!w.params.followText "set-order")) } }) ⟨rfl,rfl⟩) λr s1 hr=> ?_
 cases r with
 | error e=>exact hr
 | ok fl=>cases fl with
  | ret obj=>
   obtain ⟨rfl,rfl⟩:=hr
   have gS:(s.heap.push { cls:=.type "set",dict:=none,data:=.set #[] 0 (.fresh 0 0 (!w.params.followText "set-order")) }).get? s.heap.objs.size=some { cls:=.type "set",dict:=none,data:=.set #[] 0 (.fresh 0 0 (!w.params.followText "set-order")) }:=Heap.get?_push_size _ rfl
   have tS:Shared.TypeIs { s with heap:=s.heap.push { cls:=.type "set",dict:=none,data:=.set #[] 0 (.fresh 0 0 (!w.params.followText "set-order")) } } (.ref s.heap.objs.size) "set" :=⟨_,gS,rfl⟩
   have li:=PySem.F.called_set.init.lookup
   have bi:=PySem.F.called_set.init.bind (.ref s.heap.objs.size)
   repeat (any_goals (first | assumption | wp_step))
   refine codeAny_mono (codeAny_call_builtin (R:=PySem.wants (λr s2=>r= .none/\∃h',s2={ s with heap:=h' }/\(∃es ep t,SX knd h' s.heap.objs.size ks es ep t)/\∀b o,s.heap.get? b=some o->h'.get? b=some o) E) PySem.F.called_set.init.plain PySem.F.entry_set_init (PySem.check_set_init_1 tS ?_)) λr2 s2 hr2=> ?_
   ·have gd:(s.heap.push { cls:=.type "set",dict:=none,data:=.set #[] 0 (.fresh 0 0 (!w.params.followText "set-order")) }).get? d=some o:=Heap.get?_push_of_some _ ho
    have ld:d<s.heap.objs.size:=Heap.lt_size ho
    have x0:SX knd (s.heap.push { cls:=.type "set",dict:=none,data:=.set #[] 0 (.fresh 0 0 (!w.params.followText "set-order")) }) s.heap.objs.size ([]:List K) #[] 0 (.fresh 0 0 (!w.params.followText "set-order")):=qj0 _ gS ⟨rfl,rfl,rfl⟩ rfl
    unfold Builtin.«set.__init__» noKeywords
    generalize puf:Builtin.Frozenset.updateFrom=UF
    wp_walk
    subst puf
    refine qkL (s:={ s with heap:=s.heap.push { cls:=.type "set",dict:=none,data:=.set #[] 0 (.fresh 0 0 (!w.params.followText "set-order")) } }) (Nat.ne_of_gt ld) x0 gd hx hd hs hl hk (by simpa using hw) λh' sb' hq48=> ?_
    obtain ⟨es,ep,t,y⟩:=hq48
    refine wpAny_pure ⟨rfl,h',rfl,⟨es,ep,t,by simpa using y⟩,λb o e=> ?_⟩
    rw[sb'.2 b (Nat.ne_of_lt (Heap.lt_size e))]
    exact Heap.get?_push_of_some _ e
   ·cases r2 with
    | error e=>exact hr2
    | ok f2=>cases f2 with
     | ret r=>
      obtain ⟨rfl,h',rfl,S',kp⟩:=hr2
      repeat (any_goals (first | assumption | wp_step))
      exact h _ S' kp
     | _=>exact hr2.elim
  | _=>exact hr.elim
theorem qg5:entryFor table "set.__or__" =some Builtin.«frozenset.__or__» :=
 entryFor_alias (id':= "frozenset.__or__") (by kernel_rfl) rfl (by decide+kernel) (by kernel_rfl)
theorem qle {Q:Value->Shared->Prop} (h:Q (.ref s.heap.objs.size) { s with heap:=s.heap.push { cls:=.type "set",dict:=none,data:=.set #[] 0 (.fresh 0 0 (!w.params.followText "set-order")) } }):wpAny (model prog w) A (newSet (.type "set")) Q E s:=by
 unfold newSet
 refine wpAny_bind (qdv ?_)
 dsimp only
 exact wpAny_newObj_type h (by size_fits)
theorem qsC {a b:Addr} {l l2:List K} {es es2:Array (Int×Value)} {ep ep2:Nat} {t t2:SetTable} {Q:Value->Shared->Prop} (hab:a≠b) (x:SX knd s.heap a l es ep t) (y:SX knd s.heap b l2 es2 ep2 t2) (hw:(es.size+es2.size)*2<64)
  (h: ∀h' d,(∃es ep t,SX knd h' s.heap.objs.size (l++l2) es ep t)->(∀c o,s.heap.get? c=some o->h'.get? c=some o)->Q (.ref s.heap.objs.size) { s with heap:=h',drawn:=d }):wpAny (model prog w) A (binaryOp .BitOr (.ref a) (.ref b)) Q E s:=by
 obtain ⟨o,a1,a2,_⟩:=id x
 obtain ⟨o2,b1,b2,_⟩:=id y
 have ta:s.TypeIs (.ref a) "set" :=⟨o,a1,a2.1⟩
 have tb:s.TypeIs (.ref b) "set" :=⟨o2,b1,b2.1⟩
 refine wpAny_binaryOp_same (op:=.BitOr) ta tb PySem.F.fills_set_or PySem.F.slot_set_or (wpAny_call_entry PySem.F.slot_set_or ta qg5 ?_ (PySem.F.args_set_or_2 _ _))
 unfold Builtin.«frozenset.__or__»
 show wpAny _ _ (do
  let (self,other) <-Builtin.Frozenset.slot1 "__or__" ⟨[.ref a,.ref b],[]⟩
  if !(<-Builtin.Frozenset.isAnySet self <&&> Builtin.Frozenset.isAnySet other) then rule _; return <-ret .notImplemented
  ret (<-(do
   let result <-Builtin.Frozenset.copyOf (<-Builtin.Frozenset.addrOf self)
   if other != .ref (<-Builtin.Frozenset.addrOf self) then holding [result] (Builtin.Frozenset.updateFrom "frozenset.__or__" (<-Builtin.Frozenset.addrOf result) other)
   return result))) _ _ _
 refine wpAny_bind (m:=Builtin.Frozenset.slot1 _ _) (wpAny_pure ?_)
 dsimp only
 refine wpAny_bind (wpAny_bind (qhk ta (qhk tb ?_)))
 rw[if_neg (by decide)]
 refine wpAny_bind (wpAny_bind (m:=Builtin.Frozenset.addrOf _) (wpAny_pure (wpAny_bind ?_)))
 unfold Builtin.Frozenset.copyOf Builtin.Frozenset.baseOf
 refine wpAny_bind (wpAny_bind (wpAny_isInstance ta PySem.sub_set_self (wpAny_pure ?_)))
 show wpAny _ _ (newSet (.type "set")>>=_) _ _ _
 refine wpAny_bind (qle ?_)
 refine wpAny_bind (m:=Builtin.Frozenset.addrOf _) (wpAny_pure ?_)
 have gS:(s.heap.push { cls:=.type "set",dict:=none,data:=.set #[] 0 (.fresh 0 0 (!w.params.followText "set-order")) }).get? s.heap.objs.size=some { cls:=.type "set",dict:=none,data:=.set #[] 0 (.fresh 0 0 (!w.params.followText "set-order")) }:=Heap.get?_push_size _ rfl
 have x0:SX knd (s.heap.push { cls:=.type "set",dict:=none,data:=.set #[] 0 (.fresh 0 0 (!w.params.followText "set-order")) }) s.heap.objs.size ([]:List K) #[] 0 (.fresh 0 0 (!w.params.followText "set-order")):=qj0 _ gS ⟨rfl,rfl,rfl⟩ rfl
 have la:a<s.heap.objs.size:=Heap.lt_size a1
 have lb:b<s.heap.objs.size:=Heap.lt_size b1
 have xa:=x.keep (h':=s.heap.push { cls:=.type "set",dict:=none,data:=.set #[] 0 (.fresh 0 0 (!w.params.followText "set-order")) }) λo e=>Heap.get?_push_of_some _ e
 have yb:=y.keep (h':=s.heap.push { cls:=.type "set",dict:=none,data:=.set #[] 0 (.fresh 0 0 (!w.params.followText "set-order")) }) λo e=>Heap.get?_push_of_some _ e
 refine wpAny_bind (qjw (s:={ s with heap:=s.heap.push { cls:=.type "set",dict:=none,data:=.set #[] 0 (.fresh 0 0 (!w.params.followText "set-order")) } }) (Nat.ne_of_gt la) x0 xa (λ_=>sz7) (by simp; lia) (λs' Q' _ q=>wpAny_pure q) λh1 d1 sb1 ⟨es1,ep1,t1,x1,hz1⟩=> ?_)
 refine wpAny_pure ?_
 refine wpAny_bind (m:=Builtin.Frozenset.addrOf _) (wpAny_pure ?_)
 dsimp only
 rw[if_pos (by simpa using Ne.symm hab)]
 refine wpAny_bind (m:=Builtin.Frozenset.addrOf _) (wpAny_pure ?_)
 refine wpAny_bind (wpAny_holding ?_)
 have y1:SX knd h1 b l2 es2 ep2 t2:=yb.keep λo e=>by rw[sb1.2 b (Nat.ne_of_lt lb)]; exact e
 obtain ⟨ob,c1,c2,c3,_,_,_,c7,_⟩:=id y1
 have tb1:({ s with heap:=h1,drawn:=d1 }:Shared).TypeIs (.ref b) "set" :=⟨ob,c1,c2.1⟩
 unfold Builtin.Frozenset.updateFrom
 refine wpAny_bind (qhk tb1 ?_)
 rw[if_pos rfl]
 refine wpAny_bind (m:=Builtin.Frozenset.addrOf _) (wpAny_pure ?_)
 unfold Builtin.Frozenset.merge
 refine wpAny_bind (wpAny_setEpoch_of (s:={ s with heap:=h1,drawn:=d1 }) c1 c3 c7 ?_)
 have sz1:es1.size=es.size:=by
  obtain ⟨_,_,_,_,_,_,_,_,z1,_⟩:=id x1
  obtain ⟨_,_,_,_,_,_,_,_,z2,_⟩:=id x
  rw[z1,z2]; rfl
 refine qjw (s:={ s with heap:=h1,drawn:=d1 }) (Nat.ne_of_gt lb) x1 y1 (λz=> ?_) (by lia) (λs' Q' z q=> ?_) λh2 d2 sb2 ⟨es3,ep3,t3,x3,_⟩=> ?_
 ·exact hz1 z
 ·unfold Builtin.Frozenset.unchanged
  obtain ⟨oz,z1,z2,z3,_,_,_,z7,_⟩:=id z
  refine wpAny_bind (wpAny_setEpoch_of z1 z3 z7 ?_)
  rw[if_neg (by simp)]
  exact wpAny_pure q
 ·refine wpAny_pure (wpAny_pure ⟨_,rfl,(λz=>by cases z),h h2 d2 ⟨es3,ep3,t3,by simpa using x3⟩ λc o e=> ?_⟩)
  have lc:=Heap.lt_size e
  rw[sb2.2 c (Nat.ne_of_lt lc),sb1.2 c (Nat.ne_of_lt lc)]
  exact Heap.get?_push_of_some _ e
end
end SetL
end
section
namespace PL
open PySem L2 SR SetL
def qcR:Key->Str
 | .inr x=>x
 | .inl _=> ""
def qdI:Key->Bool
 | .inr _=>true
 | .inl _=>false
def okD (a:List (Key×T)):Bool:=decide (a.length<=15)&&a.all λp=>qdI p.1
def qhM (a b:List (Key×T)):List T:=(qiq (a.map (λp=>qcR p.1)++b.map (λp=>qcR p.1))).map T.str
def qmp (da db:Ro->Rs (List (Key×T))):Ro->Rs (List T):=λρ=>da ρ>>=λa=>if okD a=true then (db ρ>>=λb=>if okD b=true then .ok (qhM a b) else .no) else .no
theorem qbx.fst {K:PySem.W.Frag} {B:Hp}: ∀{ts:List (Key×T)} {us:List (Key×V)},qbx K B ts us->us.map (·.1)=ts.map (·.1)
 | [],_,r=>by rw[r.inv0]; rfl
 | (k,t)::ts,_,r=>by
  obtain ⟨v,r',rfl,_,rr⟩:=r.inv
  rw[List.map_cons,List.map_cons,qbx.fst rr]
theorem qf3 {prog:Program} {w:World} {kn:PySem.KeyKind prog w Key}: ∀{es:List DictEntry} {kvs:List (Key×Value)} {i:Nat} {e:DictEntry},PySem.Pairs kn es kvs->es[i]? =some e->∃kv,kvs[i]? =some kv/\kn.is kv.1 e.key=true
 | _,_,_,_,.nil,h=>by simp at h
 | _,_,0,_,.cons a b c,h=>by
  simp at h
  subst h
  exact ⟨_,rfl,a⟩
 | _,_,i+1,_,.cons a b c,h=>by
  obtain ⟨kv,e1,e2⟩:=qf3 (i:=i) c (by simpa using h)
  exact ⟨kv,by simpa using e1,e2⟩
section
variable {X:Cx} {a:Expr} {t:TE} {p2 p3:Pos}
theorem qfW {pins:List (Addr×Obj)} {σ:St} {H:Hp} {s:Shared} {Q:List (Key×V)->Hp->Prop} (hc:X.calm=true) (gt:Gl X "set") (mt:X.mg "set" =none) (ha:PE X a t) (hmono: ∀σ H (Q Q':VK),(∀v H1,Q v H1->Q' v H1)->t σ H Q->t σ H Q')
  (he:starEach [a] X.env=(false,eval a X.env)::starEach [] X.env) (I:Inv X pins σ H s)
  (h:t σ H λv H1=> ∃d us,v= .ref d/\H1 d=some (.dK us)/\us.length<=15/\(us.all λp=>qdI p.1)=true/\Q us H1):
  wpAny (model X.prog X.w) X.A (eval (.Call (.Name "set" p2) [a] [] p3) X.env) (λu s'=> ∃S o us H1,u= .ref S/\s'.heap.get? S=some o/\(∀v,o.data≠.cell v)/\(∀p∈pins,p.1≠S)/\Inv X (pins++[(S,o)]) σ H1 s'/\us.length<=15/\(∃es ep t,SX (PySem.strKind X.prog X.w) s'.heap S (us.map λp=>qcR p.1) es ep t)/\Q us H1) X.xe s:=by
 refine wpAny_Call_Name_kw (qcK I gt mt SetL.boot_set ?_)
 refine PyProof.Rows.callWith_type1 ?_ he rfl
 refine thn (qag ha qar he p3 pins s σ H (λvs H1=> ∃d us,vs=[.ref d]/\H1 d=some (.dK us)/\us.length<=15/\(us.all λp=>qdI p.1)=true/\Q us H1) I (hmono σ H _ _ (λv H1 ⟨l,ss,e,r⟩=>⟨l,ss,by rw[e],r⟩) h)) λus s1 hq40=> ?_
 obtain ⟨vs,H1,I1,r1,q1⟩:=hq40
 obtain ⟨d,us',rfl,hd,h15,hall,q⟩:=q1
 cases r1 with
 | cons r rr=>
  cases rr
  cases r
  obtain ⟨_,hs,vs,kv,o,es,ep,b1,b2,b3,b4,b5,b6⟩:=qlw I1.hok hd
  have lv:us'.length=vs.length:=kv.length
  have le:es.toList.length=vs.length:=b5.length
  refine qpz (knd:=strKind X.prog X.w) (ks:=us'.map λp=>qcR p.1) b1 b2 b3 hs (by rw[List.length_map]; lia) (λi e k ei ki=> ?_) (by rw[<-Array.length_toList]; lia) λh' ⟨es',ep',t',y⟩ kp=> ?_
  ·obtain ⟨kv',f1,f2⟩:=qf3 (i:=i) b5 (by rw[Array.getElem?_toList]; exact ei)
   obtain ⟨kk,vv⟩:=kv'
   obtain ⟨v,g1,g2⟩:=kv.get f1
   have hk:qcR kk=k:=by
    rw[List.getElem?_map,g1] at ki
    simpa using ki
   have hs':qdI kk=true:=List.all_eq_true.mp hall _ (List.mem_of_getElem? g1)
   cases kk with
   | inl n=>cases hs'
   | inr x=>
    have hk:x=k:=hk
    subst hk
    have is:Value.isStrOf x e.key=true:=f2
    obtain ⟨tk,ek⟩:=Value.isStrOf_shape is
    refine ⟨is,?_,by rw[ek]; rfl⟩
    obtain ⟨k',z1,z2⟩:=b4 e (by
     have:=Array.mem_of_getElem? ei
     exact this)
    have:k'= .inr x:=(qaI X.prog X.w).inj e.key k' (.inr x) z1 f2
    rw[z2,this]
    rfl
  ·obtain ⟨oS,y1,y2,y3,y4⟩:=id y
   have nc: ∀v,oS.data≠.cell v:=λv z=>by rw[y3] at z; cases z
   refine ⟨_,oS,us',H1,rfl,y1,nc,λp hp=>Nat.ne_of_lt (Heap.lt_size (I1.pin p (List.mem_append_right _ hp)).1),?_,h15,⟨es',ep',t',y⟩,q⟩
   have I2:Inv X pins σ H1 { s1 with heap:=h' }:=I1.kept (t':=s1.toks) kp
   refine I2.pins_of λp hp=> ?_
   rcases List.mem_append.mp hp with hp | hp
   ·exact I2.pin p (List.mem_append_right _ hp)
   ·rw[List.mem_singleton.mp hp]
    exact ⟨y1,I1.hok.fresh (Nat.le_refl _),Nat.ne_of_gt I1.lt,I1.nofs (Nat.le_refl _),nc⟩
end
theorem tD.mono {M:Md} {dd:Ro->Rs (List (Key×T))} {σ:St} {H:Hp} {Q Q':VK} (f: ∀v H1,Q v H1->Q' v H1) (h:tD M dd σ H Q):tD M dd σ H Q':=by
 obtain ⟨H0,B0,ρ,B,ev,w⟩:=h
 exact ⟨H0,B0,ρ,B,ev,Wnt.mono w λa k p us H' B' g m hp r=>f _ _ (k p us H' B' g m hp r)⟩
section
variable {M:Md} {X:Cx} {a b:Expr} {da db:Ro->Rs (List (Key×T))} {p1 p2 p3 p4 p5 p6 pos:Pos}
theorem qlz (hc:X.calm=true) (gs:Gl X "sorted") (ms:X.mg "sorted" =none) (gt:Gl X "set") (mt:X.mg "set" =none) (ha:DD M X a da) (hb:DD M X b db) (hea:starEach [a] X.env=(false,eval a X.env)::starEach [] X.env:=by rfl) (heb:starEach [b] X.env=(false,eval b X.env)::starEach [] X.env:=by rfl):
  DF M X (.Call (.Name "sorted" p1) [.BinOp (.Call (.Name "set" p2) [a] [] p3) .BitOr (.Call (.Name "set" p4) [b] [] p5) p6] [] pos) (qmp da db):=by
 intro pins s σ H Q I hq88
 obtain ⟨H0,B0,ρ,B,ev,w⟩:=hq88
 refine wpAny_Call_Name_kw (qcK I gs ms SetL.boot_sorted ?_)
 refine PyProof.Rows.callWith_builtin1 (Calls.spliced_cons (wpAny_BinOp ?_)) rfl rfl
 have w:=qbF.mp w
 have okd: ∀{ka:List (Key×T)} {us:List (Key×V)} {B1:Hp},qbx M.K B1 ka us->okD ka=true->us.length<=15/\(us.all λp=>qdI p.1)=true/\us.map (λp=>qcR p.1)=ka.map (λp=>qcR p.1):=λ{ka us B1} r h=>by
  unfold okD at h
  rw[Bool.and_eq_true,decide_eq_true_eq] at h
  have e:=r.fst
  refine ⟨by rw[r.length]; exact h.1,?_,?_⟩
  ·have h2:(ka.map (·.1)).all qdI=true:=by rw[List.all_map]; exact h.2
   rw[<-e,List.all_map] at h2
   exact h2
  ·have:(us.map (·.1)).map qcR=(ka.map (·.1)).map qcR:=by rw[e]
   rw[List.map_map,List.map_map] at this
   exact this
 have ht:tD M da σ H λv H1=> ∃d us,v= .ref d/\H1 d=some (.dK us)/\us.length<=15/\(us.all λp=>qdI p.1)=true/\
   ∃ka B1,qa2 H B H1 B1/\M.G.P H1/\us.map (λp=>qcR p.1)=ka.map (λp=>qcR p.1)/\Wnt M H0 (λa=> ∀p vs H' B',qa2 H B H' B'->M.G.P H'->H p=none->B' p=none->H' p=some (.lst vs)->qaC M.K B' a vs->Q (.ref p) H') (db ρ>>=λb=>if okD b=true then .ok (qhM ka b) else .no):=by
  refine ⟨H0,B0,ρ,B,ev,Wnt.mono (Wnt.bind w) λka w1 p us H1 B1 g1 m1 hp r1=> ?_⟩
  by_cases c:okD ka=true
  ·rw[if_pos c] at w1
   obtain ⟨c1,c2,c3⟩:=okd r1 c
   exact ⟨p,us,rfl,hp,c1,c2,ka,B1,g1,m1,c3,w1⟩
  ·rw[if_neg c] at w1; exact w1.elim
 refine thn (qfW hc gt mt ha (λσ H Q Q' f h=>tD.mono f h) hea I ht) λu s1 hq111=> ?_
 obtain ⟨S,o,us,H1,eu,hS,nc,_,I1,l1,⟨es,ep,t,x⟩,ka,B1,g1,m1,e1,w1⟩:=hq111
 subst eu
 have ev1:=ev.grow g1 m1
 have ht2:tD M db σ H1 λv H2=> ∃d us,v= .ref d/\H2 d=some (.dK us)/\us.length<=15/\(us.all λp=>qdI p.1)=true/\
   ∃kb B2,qa2 H1 B1 H2 B2/\M.G.P H2/\us.map (λp=>qcR p.1)=kb.map (λp=>qcR p.1)/\(∀p vs H' B',qa2 H B H' B'->M.G.P H'->H p=none->B' p=none->H' p=some (.lst vs)->qaC M.K B' (qhM ka kb) vs->Q (.ref p) H'):=by
  refine ⟨H0,B0,ρ,B1,ev1,Wnt.mono (Wnt.bind w1) λkb w2 p us H2 B2 g2 m2 hp r2=> ?_⟩
  by_cases c:okD kb=true
  ·rw[if_pos c] at w2
   obtain ⟨c1,c2,c3⟩:=okd r2 c
   exact ⟨p,us,rfl,hp,c1,c2,kb,B2,g2,m2,c3,w2⟩
  ·rw[if_neg c] at w2; exact w2.elim
 refine thn (qfW hc gt mt hb (λσ H Q Q' f h=>tD.mono f h) heb I1 ht2) λu2 s2 hq122=> ?_
 obtain ⟨S2,o2,us2,H2,eu2,hS2,nc2,ne2,I2,l2,⟨es2,ep2,t2,y⟩,kb,B2,g2,m2,e2,w2⟩:=hq122
 subst eu2
 have pS:=I2.pin (S,o) (by simp)
 have ne:S≠S2:=ne2 (S,o) (by simp)
 have x2:SX (PySem.strKind X.prog X.w) s2.heap S (us.map λp=>qcR p.1) es ep t:=x.keep λo' eo=>by
  rw[hS] at eo; cases eo
  exact pS.1
 have sz1:es.size<=15:=by
  obtain ⟨_,_,_,_,_,_,_,_,z,_⟩:=id x
  have:=qiy (us.map λp=>qcR p.1)
  rw[List.length_map] at this
  lia
 have sz2:es2.size<=15:=by
  obtain ⟨_,_,_,_,_,_,_,_,z,_⟩:=id y
  have:=qiy (us2.map λp=>qcR p.1)
  rw[List.length_map] at this
  lia
 refine qsC ne x2 y (by lia) λh3 d3 ⟨es3,ep3,t3,z⟩ kp3=> ?_
 refine Calls.spliced_nil ?_
 have I3:Inv X pins σ H2 { s2 with heap:=h3,drawn:=d3 }:=qne (tk:=s2.toks) (Inv.unpinned (Inv.unpinned I2)) kp3
 have hh:X.A.handled=none:=I3.ok.hd hc
 have hP:=z.p
 have fS:(λk=>decide (k∈(us.map λp=>qcR p.1)++us2.map λp=>qcR p.1))=mem (λi=>((us.map λp=>qcR p.1)++us2.map λp=>qcR p.1).getD i "") ((us.map λp=>qcR p.1)++us2.map λp=>qcR p.1).length:=by
  funext k
  rw[Bool.eq_iff_iff,decide_eq_true_eq]
  exact qfq.symm
 rw[fS] at hP
 refine qeM (qoe X.prog X.w) (s:={ s2 with heap:=h3,drawn:=d3 }) (ss:=(us.map λp=>qcR p.1)++us2.map λp=>qcR p.1) hh (by rw[qko]; exact hP) (by rw[List.length_append,List.length_map,List.length_map]; lia) λh1 D h' d tk c vs k1 hD k2 hg rv=> ?_
 have I4:=qne (d:=d) (tk:=tk) I3 k1
 have fD:H2 D=none:=I4.hok.fresh hD
 have I5:Inv X pins σ (upd H2 D (.lst ((qiq ((us.map λp=>qcR p.1)++us2.map λp=>qcR p.1)).map V.str))) { s2 with heap:=h',drawn:=d,toks:=tk }:=by
  refine I4.laid (h':=h') (t':=tk) k2 hD ⟨?_,_,c,rv,hg⟩
  rw[List.length_map,sizeLine_eq]
  have q1:(qiq ((us.map λp=>qcR p.1)++us2.map λp=>qcR p.1)).length=(dd ((us.map λp=>qcR p.1)++us2.map λp=>qcR p.1)).length:=(qdW _).length_eq
  have q2:=qiy ((us.map λp=>qcR p.1)++us2.map λp=>qcR p.1)
  rw[List.length_append,List.length_map,List.length_map] at q2
  lia
 have ev2:=ev1.grow g2 m2
 obtain ⟨g,m',bp⟩:=qce (M:=M) (ws:=(qiq ((us.map λp=>qcR p.1)++us2.map λp=>qcR p.1)).map V.str) ev2.bh ev2.bt m2 fD
 refine ⟨.ref D,_,I5,rfl,w2 D _ _ B2 ((g1.trans g2).trans g) m' (qbD (g1.trans g2).gx fD) bp qak ?_⟩
 unfold qhM
 rw[e1,e2]
 exact qcG _
end
end PL
end
section
namespace K85
open PySem L2
def top (i:Nat):Stmt:=PySem.Challenge.pw_rowasks_k85_standing_refused.main.body.getD i (.Pass ⟨0,0,0,0⟩)
abbrev qqE:Stmt:=top 16
abbrev qqJ:Stmt:=top 17
abbrev qqD:Stmt:=top 18
abbrev qqA:Stmt:=top 19
abbrev qqz:Stmt:=top 20
abbrev qqy:Stmt:=top 21
abbrev qqC:Stmt:=top 22
abbrev s_2:Stmt:=top 23
abbrev s_6:Stmt:=top 24
abbrev s_3:Stmt:=top 25
abbrev s_0:Stmt:=top 26
abbrev s_4:Stmt:=top 27
abbrev qpK:Stmt:=top 29
abbrev s_1:Stmt:=top 32
abbrev s_7:Stmt:=top 33
abbrev qqH:Stmt:=top 34
abbrev qqB:Stmt:=top 35
abbrev qqx:Stmt:=top 37
abbrev qok:Stmt:=top 36
abbrev qpJ:Stmt:=top 38
abbrev qpM:Stmt:=top 39
abbrev qqw:Stmt:=top 44
abbrev s_5:Stmt:=top 43
abbrev qlZ:Stmt:=top 42
abbrev qpL:Stmt:=top 45
abbrev qlY:Stmt:=top 46
abbrev qqv:Stmt:=top 47
abbrev qqG:Stmt:=top 49
abbrev qqF:Stmt:=top 50
abbrev qqI:Stmt:=top 51
abbrev qol:Stmt:=top 52
abbrev qhu:Stmt:=top 53
abbrev qbU:Stmt:=top 54
end K85
end
section
namespace K85
open PySem L2 RH PL
def qgt (ns:List Int) (k:Int):Int:=if k<(ns.length:Int) then ns.getD k.toNat 0 else if ns=[] then 0 else ns.getD (k % (ns.length:Int)).toNat 0*31+k
def qgj (ns:List Int) (k:Int):Int:=(qgt ns k+6151*(k+1))*40692 % 2147483399
def qeH (ns:List Int) (k many:Int):Int:=(qgj ns k*qgj ns k+qgj ns k / 31) % 2147483629 % many
def qms (K:PySem.W.Frag) (H:Hp) (a:Addr) (ns:List Int):Prop:=SqL K H a (ns.map V.int)/\ns.length<=63
def qlV (K:PySem.W.Frag):Sp:=λvs H Q _=> ∃a ns k,vs=[.ref a,.int k]/\qms K H a ns/\0<=k/\k<1000000/\∀H',qlL H H'->Q (.int (qgt ns k)) H'
def qlU (K:PySem.W.Frag):Sp:=λvs H Q _=> ∃a ns k many,vs=[.ref a,.int k,.int many]/\qms K H a ns/\0<=k/\k<1000000/\0<many/\∀H',qlL H H'->Q (.int (qeH ns k many)) H'
theorem qkz {ns:List Int} {k:Int} (h0:0<=k) (h1:k<(ns.length:Int)):atI (ns.map V.int) k=some (.int (ns.getD k.toNat 0)):=by
 obtain ⟨j,rfl⟩: ∃j:Nat,k=j:=⟨k.toNat,by omega⟩
 refine qky ?_
 rw[List.getElem?_map,Int.toNat_natCast,List.getD_eq_getElem?_getD,List.getElem?_eq_getElem (by omega)]
 rfl
section
variable {P:Program} {w:World} {K:PySem.W.Frag} {mg:Str->Option Value} {base:Heap}
theorem qoj:qas ["_law_script", "_law_k"] ["_law_script", "_law_k"] (qad qqG):=by trivial
theorem qm5 {f:Addr} {fd:FuncData} (F:Fun K "_law_cell" "_law_cell" qqG f fd) (n1:mg "len" =none):qbI P w K mg base CX0 1 f fd ["_law_script", "_law_k"] (qlV K):=by
 refine F.ok qoj (λvs H Q E h=> ?_) (λcdv A outer s H vs Q E hr h=> ?_)
 ·obtain ⟨a,ns,k,rfl,_⟩:=h
  rfl
 ·obtain ⟨a,ns,k,rfl,hS,h0,hb,q⟩:=h
  refine ⟨_,qbY (qk3 (qea qqV (pv 1) (qay qh4 rfl n1 PySem.boot_len (qag (pv 0) qar)) (qjr _)) (qci (qdi (qjl (qhO K rfl) (pv 0) (pv 1) (λ_ _=>rfl)))) qfk)
   (qbY (qk3 (qea (qgP hr.units0) (pv 0) (qeP qar) (qjr _)) (qci (qdi qc2)) qfk)
   (qci (qdi (qcx qf4 (qcx qeR (qjl (qhO K rfl) (pv 0) (qcx qef (pv 1) (qay qh4 rfl n1 PySem.boot_len (qag (pv 0) qar))) (λ_ _=>rfl)) qc2) (pv 1))))),?_⟩
  refine ⟨_,rfl,_,rfl,_,_,rfl,.inl ⟨_,hS.1,rfl⟩,_,_,rfl,rfl,_,rfl,?_⟩
  have len:((ns.map V.int).length:Int)=(ns.length:Int):=by rw[List.length_map]
  by_cases c1:k<(ns.length:Int)
  ·refine qo8 (by rw[len]; exact decide_eq_true c1) ?_
   refine ⟨_,rfl,_,rfl,a,_,k,_,rfl,rfl,hS.1,qkz h0 c1,?_⟩
   have e:qgt ns k=ns.getD k.toNat 0:=by unfold qgt; rw[if_pos c1]
   rw[<-e]
   exact q H (qlL.refl H)
  ·refine qpa (by rw[len]; exact decide_eq_false c1) ?_
   refine ⟨_,rfl,Nat.zero_le _,λp hp=> ?_⟩
   have s1:qlL H (upd H p (.lst [])):=qkV hp
   refine ⟨a,p,_,_,rfl,rfl,s1.seq hS.1,SqL.of qak,?_⟩
   by_cases c2:ns=[]
   ·subst c2
    refine .inr ⟨rfl,λ_=>true,λi x y hx=>by simp at hx,_,rfl,?_⟩
    refine qo8 rfl ?_
    have e:qgt [] k=0:=by unfold qgt; rw[if_neg c1,if_pos rfl]
    have q':=q _ s1
    rw[e] at q'
    exact q'
   ·have hpos:0<ns.length:=List.length_pos_iff.mpr c2
    refine .inl ⟨by simpa using c2,_,rfl,?_⟩
    refine qpa rfl ?_
    have hm0:0<=k % (ns.length:Int):=Int.emod_nonneg _ (by omega)
    have hm1:k % (ns.length:Int)<(ns.length:Int):=Int.emod_lt_of_pos _ (by omega)
    refine ⟨_,rfl,_,rfl,_,rfl,_,_,rfl,.inl ⟨_,s1.seq hS.1,rfl⟩,_,_,rfl,rfl,by rw[len]; omega,a,_,_,_,rfl,rfl,s1.seq hS.1,by rw[len]; exact qkz hm0 hm1,_,_,rfl,rfl,.inr ⟨by decide,by decide⟩,_,rfl,_,_,rfl,rfl,?_⟩
    have e:qgt ns k=ns.getD (k % (ns.length:Int)).toNat 0*31+k:=by unfold qgt; rw[if_neg c1,if_neg c2]
    have q':=q _ s1
    rw[e] at q'
    exact q'
theorem qlX:qas ["_law_script", "_law_k", "_law_many", "_law_drawn"] ["_law_script", "_law_k", "_law_many"] (qad qqF):=by trivial
theorem qm4 {f fC:Addr} {fd fdC:FuncData} (F:Fun K "_law_pick" "_law_pick" qqF f fd) (GC:qbI P w K mg base CX0 1 fC fdC ["_law_script", "_law_k"] (qlV K)) (mC:mg "_law_cell" =some (.ref fC)) (kC:PySem.W.keepIn K (.ref fC)=true) (bC:qc0 K fdC ["_law_script", "_law_k"] []):
  qbI P w K mg base CX0 2 f fd ["_law_script", "_law_k", "_law_many"] (qlU K):=by
 refine F.ok qlX (λvs H Q E h=> ?_) (λcdv A outer s H vs Q E hr h=> ?_)
 ·obtain ⟨a,ns,k,many,rfl,_⟩:=h
  rfl
 ·obtain ⟨a,ns,k,many,rfl,hS,h0,hb,hm,q⟩:=h
  refine ⟨_,qbY (qdH (i:=3) qlX.nd rfl (Or.inl rfl) (qcx qef (qcx qeR (qcx qf4 (qjm GC hr rfl mC kC bC .nil qqS (qag (pv 0) (qag (pv 1) qar))) (qcx qeR qc2 (qcx qf4 (pv 1) qc2))) qc2) qc2))
   (qci (qdi (qcx qef (qcx qef (qcx qf4 (qcx qeR (pv 3) (pv 3)) (qcx qm2 (pv 3) qc2)) qc2) (pv 2)))),?_⟩
  refine ⟨_,rfl,_,rfl,a,ns,k,rfl,hS,h0,hb,λH1 s1=> ?_⟩
  refine ⟨_,rfl,_,_,rfl,rfl,_,_,rfl,rfl,.inl ⟨by decide,by decide⟩,_,_,rfl,rfl,_,_,rfl,rfl,.inr ⟨by decide,by decide⟩,_,_,rfl,rfl,(show (0:Int)<2147483399 by decide),?_⟩
  have d0:0<=qgj ns k:=Int.emod_nonneg _ (by decide)
  have d1:qgj ns k<2147483399:=Int.emod_lt_of_pos _ (by decide)
  refine ⟨_,rfl,_,rfl,_,_,rfl,rfl,.inl ⟨?_,?_⟩,_,rfl,_,_,rfl,rfl,⟨by decide,by decide⟩,_,_,rfl,rfl,_,_,rfl,rfl,(show (0:Int)<2147483629 by decide),_,rfl,_,_,rfl,rfl,hm,q H1 s1⟩
  ·exact Int.lt_of_lt_of_le (by decide) d0
  ·exact Int.lt_trans d1 (by decide)
end
def qic:List T->Rs T
 | [.scr ns,.int k,.int many]=>if (0<=k/\k<1000000)/\0<many/\ns.length<=63 then .ok (.int (qeH ns k many)) else .no
 | _=>.no
theorem qnc {P:Program} {w:World} {K:PySem.W.Frag} {mg:Str->Option Value} {base:Heap} {G:Gam} {C:Str->Addr} {f:Addr} {fd:FuncData} (F:qbI P w K mg base CX0 2 f fd ["_law_script", "_law_k", "_law_many"] (qlU K)) (m:mg "_law_pick" =some (.ref f))
  (k:PySem.W.keepIn K (.ref f)=true) (b:qc0 K fd ["_law_script", "_law_k", "_law_many"] []):Kn P w K mg base G C "_law_pick" ["_law_script", "_law_k", "_law_many"] 2 qic:=by
 refine ⟨f,fd,F.imp λvs H Q E h=> ?_,m,k,b⟩
 obtain ⟨B,ts,le,bt,gm,r,w⟩:=h
 unfold qic at w
 split at w
 ·rename_i ns k many
  split at w
  ·rename_i hc
   obtain ⟨v1,r1,rfl,a1,b1⟩:=r.inv
   obtain ⟨v2,r2,rfl,a2,b2⟩:=b1.inv
   obtain ⟨v3,r3,rfl,a3,b3⟩:=b2.inv
   cases b3.inv0
   unfold Rep at a1
   obtain ⟨p,rfl,sq⟩:=a1
   cases qau a2
   cases qau a3
   refine ⟨p,ns,k,many,rfl,⟨le.sqL sq,hc.2.2⟩,hc.1.1,hc.1.2,hc.2.1,λH' sm=> ?_⟩
   exact w _ H' B ⟨⟨λa o e _=>sm a o e,λa e z=>by
    cases q:H a with
    | none=>exact e q
    | some o=>rw[sm a o q] at z; cases z⟩,.refl _,λa o e=>sm a o (le a o e),bt,λ_ _ _ _ _=>rfl⟩ (G.st H H' (λa o e _ _ _ _=>sm a o e) gm) qbL
  ·exact w.elim
 ·exact w.elim
end K85
end
section
namespace K85
open PySem L2 PL SetL HD
section
variable {P:Program} {w:World} {K:PySem.W.Frag} {mg:Str->Option Value} {base:Heap} {G:Gam} {C:Str->Addr}
abbrev qa7:Str:= "law.<locals>.<lambda>"
abbrev qcI:Str:= "_law_all_told.<locals>.<lambda>"
abbrev qgT:Pos:=⟨128,41,128,80⟩
abbrev qd8:Str:= "longest.<locals>.<lambda>"
abbrev qgU:Pos:=⟨114,28,114,68⟩
abbrev qd9:Str:= "stretches.<locals>.<lambda>"
abbrev lq:List (Pos×Str):=[(qgU,qd9),(qgT,qd8)]
abbrev gL (T_18 T_28 T_12 T_law:Addr):Gam:=qiu [(T_18,qgU,qd9),(T_28,qgT,qd8)] [(T_12,qcI),(T_law,qa7)]
theorem qqs:qas ["thing"] ["thing"] (qad qqE):=by trivial
def qs4:Ro->Rs Out:=qby (qbX (qbQ "int" (dV 0)) (qbZ (qbQ "bool" (dV 0))))
def qp5:List T->Rs T:=fnT 1 1 qs4
theorem qqu:qas ["thing", "least", "greatest"] ["thing", "least", "greatest"] (qad qqJ):=by trivial
def qs5:Ro->Rs Out:=qby (qbX (qal qp5 (qac (dV 0) (qam))) (qaS gLe gLe (dV 1) (dV 0) (dV 2)))
def qnO:List T->Rs T:=fnT 3 3 qs5
theorem qqq:qas ["thing", "longest"] ["thing", "longest"] (qad qqD):=by trivial
def qs3:Ro->Rs Out:=qaA (dIf (dOr (qdb (dTB (qbQ "str" (dV 0)))) (qdb (dTB (qaS gLe gLe (dC (.int 1)) (qdQ (dV 0)) (dV 1))))) (qby (dC (.bl false))) (qaW)) (qby (dCQ qnS (dQF (qcy 1 [] (dIS (dV 0)) (gN 0) (qiI) (qaS gLe gLe (dC (.str "a")) (dV 0) (dC (.str "z")))))))
def qp4:List T->Rs T:=fnT 2 2 qs3
theorem qqm:qas ["thing"] ["thing"] (qad qqA):=by trivial
def qs1:Ro->Rs Out:=qby (qal qp4 (qac (dV 0) (qac (dC (.int 2)) (qam))))
def qp3:List T->Rs T:=fnT 1 1 qs1
theorem qql:qas ["thing"] ["thing"] (qad qqz):=by trivial
def qs0:Ro->Rs Out:=qaA (dIf (dOr (qdb (dTB (qbQ "tuple" (dV 0)))) (dTB (dB gNe (qdQ (dV 0)) (dC (.int 3))))) (qby (dC (.bl false))) (qaW)) (qaA (dIf (dOr (qdb (dTB (qal qnO (qac (dB gIx (dV 0) (dC (.int 0))) (qac (dC (.int 0)) (qac (dC (.int 99)) (qam))))))) (qdb (dTB (qal qp3 (qac (dB gIx (dV 0) (dC (.int 1))) (qam)))))) (qby (dC (.bl false))) (qaW)) (qby (qal qnO (qac (dB gIx (dV 0) (dC (.int 2))) (qac (qaX (dC (.int 99))) (qac (dC (.int 99)) (qam)))))))
def qp2:List T->Rs T:=fnT 1 1 qs0
theorem qqk:qas ["rows"] ["rows"] (qad qqy):=by trivial
def qsZ:Ro->Rs Out:=qby (dCQ qnS (dQF (qcy 2 [] (dIZ (qac (dV 0) (qac (dFz (qdL (dQV 0) (dOS (dC (.int 1))) (dON))) (qam)))) (gT 2 (gsC (gN 0) (gsC (gN 1) (gsN)))) (qiI) (dB gLe (dB gIx (dV 0) (dC (.int 0))) (dB gIx (dV 1) (dC (.int 0)))))))
def qp1:List T->Rs T:=fnT 1 1 qsZ
theorem qqp:qas ["rows"] ["rows"] (qad qqC):=by trivial
def qs2:Ro->Rs Out:=qby (dFz (qdu qnd (dQF (qcy 1 [] (dI (dV 0)) (gN 0) (qiI) (dB gIx (dV 0) (dC (.int 1)))))))
def qn6:List T->Rs T:=fnT 1 1 qs2
theorem qsw:qas ["rows"] ["rows"] (qad s_2):=by trivial
def d_2:Ro->Rs Out:=dIf (qdb (dTB (dCQ qnS (dQF (qcy 1 [] (dI (dV 0)) (gN 0) (qiI) (qal qp2 (qac (dV 0) (qam)))))))) (qh1 "NoRow") (qaW)
def t_2:List T->Rs T:=fnT 1 1 d_2
theorem qst:qas ["rows"] ["rows"] (qad s_6):=by trivial
def d_6:Ro->Rs Out:=dIf (qdb (dTB (qal qp1 (qac (dV 0) (qam))))) (qh1 "TooLate") (qaW)
def t_6:List T->Rs T:=fnT 1 1 d_6
theorem qsv:qas ["rows"] ["rows"] (qad s_3):=by trivial
def d_3:Ro->Rs Out:=qaA (qaY (qal t_2 (qac (dV 0) (qam)))) (qaY (qal t_6 (qac (dV 0) (qam))))
def t_3:List T->Rs T:=fnT 1 1 d_3
theorem qsy:qas ["one", "other"] ["one", "other"] (qad s_0):=by trivial
def d_0:Ro->Rs Out:=qaA (qaY (qal t_2 (qac (dV 0) (qam)))) (qaA (qaY (qal t_2 (qac (dV 1) (qam)))) (qaA (qaY (qal t_6 (qac (dV 0) (qam)))) (qaY (qal t_6 (qac (dV 1) (qam))))))
def t_0:List T->Rs T:=fnT 2 2 d_0
theorem qsu:qas ["thing", "greatest"] ["thing", "greatest"] (qad s_4):=by trivial
def d_4:Ro->Rs Out:=dIf (qdb (dTB (qal qnO (qac (dV 0) (qac (dC (.int 0)) (qac (dV 1) (qam))))))) (qkn "NoNumber" (dV 1)) (qaW)
def t_4:List T->Rs T:=fnT 2 2 d_4
theorem qqj:qas ["rows", "key"] ["rows", "key"] (qad qpK):=by trivial
def qsY:Ro->Rs Out:=qby (dFz (qcy 1 [1] (dI (dV 0)) (gN 0) (dTB (dB gEq (dB gIx (dV 0) (dC (.int 1))) (dV 1))) (dV 0)))
def qmA:List T->Rs T:=fnT 2 2 qsY
theorem qsx:qas ["thing"] ["thing"] (qad s_1):=by trivial
def d_1:Ro->Rs Out:=qaY (qal t_4 (qac (dV 0) (qac (dC (.int 999)) (qam))))
def t_1:List T->Rs T:=fnT 1 1 d_1
theorem qqg:qas ["rows", "moment", "numbers", "row"] ["rows", "moment"] (qad s_7):=by trivial
def d_7:Ro->Rs Out:=qaA (qnB 2) (qaA (qnC (dI (dV 0)) (gN 3) (dIf (dTB (dB gLe (dB gIx (dV 3) (dC (.int 0))) (dV 1))) (qlA 2 (dB gIx (dV 3) (dC (.int 1))) (dB gIx (dV 3) (dC (.int 2)))) (qaW))) ((λρ=>(qby (dV 2)) (frzD 2 ρ))))
def t_7:List T->Rs T:=fnT 2 4 d_7
theorem qqt:qas ["rows", "moment"] ["rows", "moment"] (qad qqH):=by trivial
def qrB:Ro->Rs Out:=qaA (qaY (qal t_3 (qac (dV 0) (qam)))) (qaA (qaY (qal t_1 (qac (dV 1) (qam)))) (qby (dFz (qhd (dDE (qal t_7 (qac (dV 0) (qac (dV 1) (qam)))))))))
def qhp:List T->Rs T:=fnT 2 2 qrB
theorem qmI:qas ["rows", "key", "numbers", "row"] ["rows", "key"] (qad qqB):=by trivial
def qr5:Ro->Rs Out:=qaA (qaY (qal t_3 (qac (dV 0) (qam)))) (qaA (qnB 2) (qaA (qnC (dI (qal qmA (qac (dV 0) (qac (dV 1) (qam))))) (gN 3) (qlA 2 (dB gIx (dV 3) (dC (.int 0))) (dB gIx (dV 3) (dC (.int 2))))) (qby (dFz (qhd (dDV 2))))))
def qkF:List T->Rs T:=fnT 2 4 qr5
theorem qoh:qas ["numbers", "end", "ends"] ["numbers", "end"] (qad qqx):=by trivial
def qsX:Ro->Rs Out:=qaA (qcw 2 (dFz (qr8 (dQF (qcy 1 [] (dI (dFz (qdL (dQV 0) (dOS (dC (.int 1))) (dON)))) (gN 0) (qiI) (dB gIx (dV 0) (dC (.int 0))))) (dQF (qbc (qac (dV 1) (qam))))))) (qby (dCQ qpI (dQF (qcy 2 [] (dIZ (qac (dV 0) (qac (dV 2) (qam)))) (gT 2 (gsC (gN 0) (gsC (gN 1) (gsN)))) (qiI) (dB qkH (dB gIx (dV 0) (dC (.int 1))) (dB gSub (dV 1) (dB gIx (dV 0) (dC (.int 0)))))))))
def qp0:List T->Rs T:=fnT 2 3 qsX
theorem qqo:qas ["rows", "end"] ["rows", "end"] (qad qok):=by trivial
def qry:Ro->Rs Out:=qaA (qaY (qal t_3 (qac (dV 0) (qam)))) (qaA (qaY (qal t_1 (qac (dV 1) (qam)))) (qaA (dIf (dTB (dCQ qpS (dQF (qcy 1 [1] (dI (dV 0)) (gN 0) (qiI) (dB gGt (dB gIx (dV 0) (dC (.int 0))) (dV 1)))))) (qh1 "NoNumber") (qaW)) (qby (dFz (qcy 1 [0,1] (dI (qal qn6 (qac (dV 0) (qam)))) (gN 0) (qiI) (qa9 (qac (dV 0) (qac (qal qp0 (qac (qal qkF (qac (dV 1) (qac (dV 0) (qam)))) (qac (dV 2) (qam)))) (qam)))))))))
def qfQ:List T->Rs T:=fnT 2 2 qry
theorem qqi:qas ["one", "other"] ["one", "other"] (qad qpJ):=by trivial
def qr3:Ro->Rs Out:=qaA (qaY (qal t_0 (qac (dV 0) (qac (dV 1) (qam))))) (qby (dFz (qcy 1 [1] (dI (dV 0)) (gN 0) (qiI) (dB qfM (dV 0) (qa9 (qac (qh2 (dDE (qal t_7 (qac (dV 1) (qac (dB gIx (dV 0) (dC (.int 0))) (qam))))) (dB gIx (dV 0) (dC (.int 1)))) (qam)))))))
def qgE:List T->Rs T:=fnT 2 2 qr3
theorem qmK:qas ["one", "other", "moment", "here", "there"] ["one", "other", "moment"] (qad qpM):=by trivial
def qrA:Ro->Rs Out:=qaA (qaY (qal t_0 (qac (dV 0) (qac (dV 1) (qam))))) (qaA (qaY (qal t_1 (qac (dV 2) (qam)))) (qaA (qcw 3 (qal t_7 (qac (dV 0) (qac (dV 2) (qam))))) (qaA (qcw 4 (qal t_7 (qac (dV 1) (qac (dV 2) (qam))))) (qby (dFz (qcy 1 [3,4] (dI (dFz (qmp (dDV 3) (dDV 4)))) (gN 0) (dTB (dB gNe (qh2 (dDV 1) (dV 0)) (qh2 (dDV 2) (dV 0)))) (dV 0)))))))
def qgF:List T->Rs T:=fnT 3 5 qrA
theorem qqh:qas ["stretch", "moment", "number"] ["stretch", "moment", "number"] (qad qqw):=by trivial
def qsW:Ro->Rs Out:=qby (qa9 (qac (dB gIx (dV 0) (dC (.int 0))) (qac (dB gIx (dV 0) (dC (.int 1))) (qac (dV 1) (qac (dB qfM (dB gIx (dV 0) (dC (.int 3))) (dC (.int 1))) (qac (dB qfM (dB gIx (dV 0) (dC (.int 4))) (dV 2)) (qam)))))))
def qpZ:List T->Rs T:=fnT 3 3 qsW
theorem qof:qas ["rows", "gap", "told", "moment", "key", "number"] ["rows", "gap"] (qad s_5):=by trivial
def d_5:Ro->Rs Out:=qaA (qbd 2 (qbc (qam))) (qaA (qnC (dI (dV 0)) (gT 3 (gsC (gN 3) (gsC (gN 4) (gsC (gN 5) (gsN))))) (dIf (qd1 (dTB (dB gGt (dCQ qd0 (dQV 2)) (dC (.int 0)))) (dTB (dB gLe (dB gSub (dV 3) (dB gIx (qdF (dQV 2) (qaX (dC (.int 1)))) (dC (.int 2)))) (dV 1)))) (qmo 2 (qaX (dC (.int 1))) (qal qpZ (qac (qdF (dQV 2) (qaX (dC (.int 1)))) (qac (dV 3) (qac (dV 5) (qam)))))) (qck 2 (qa9 (qac (dV 4) (qac (dV 3) (qac (dV 3) (qac (dC (.int 1)) (qac (dV 5) (qam)))))))))) ((λρ=>(qby (dV 2)) (frz 2 ρ))))
def t_5:List T->Rs T:=fnT 2 6 d_5
theorem qmJ:qas ["rows", "gap", "told", "key"] ["rows", "gap"] (qad qlZ):=by trivial
def qrz:Ro->Rs Out:=qaA (qaY (qal t_3 (qac (dV 0) (qam)))) (qaA (qaY (qal t_4 (qac (dV 1) (qac (dC (.int 99)) (qam))))) (qaA (qbd 2 (qbc (qam))) (qaA (qnC (dI (qal qn6 (qac (dV 0) (qam)))) (gN 3) (qdM 2 (dQ (qal t_5 (qac (qal qmA (qac (dV 0) (qac (dV 3) (qam)))) (qac (dV 1) (qam))))))) (qby (dFz (qdu (qd5 1 0) (dQV 2)))))))
def qeF:List T->Rs T:=fnT 2 4 qrz
theorem qqr:qas ["rows", "gap", "moment"] ["rows", "gap", "moment"] (qad qpL):=by trivial
def qr6:Ro->Rs Out:=qby (dFz (qdu qkR (dQF (qcy 1 [2,1] (dI (qal qeF (qac (dV 0) (qac (dV 1) (qam))))) (gN 0) (dTB (qaS gLe gLe (dB gIx (dV 0) (dC (.int 1))) (dV 1) (dB qfM (dB gIx (dV 0) (dC (.int 2))) (dV 2)))) (dB gIx (dV 0) (dC (.int 0)))))))
def qlT:List T->Rs T:=fnT 3 3 qr6
theorem qqn:qas ["rows", "gap"] ["rows", "gap"] (qad qlY):=by trivial
def qr4:Ro->Rs Out:=qby (dCQ (qoR 2 1) (dQ (qal qeF (qac (dV 0) (qac (dV 1) (qam))))))
def qlS:List T->Rs T:=fnT 2 2 qr4
theorem qog:qas ["rows", "key", "moments"] ["rows", "key"] (qad qqv):=by trivial
def qr2:Ro->Rs Out:=qaA (qaY (qal t_3 (qac (dV 0) (qam)))) (qaA (qcw 2 (dFz (qcy 1 [] (dI (qal qmA (qac (dV 0) (qac (dV 1) (qam))))) (gN 0) (qiI) (dB gIx (dV 0) (dC (.int 0)))))) (qby (dFz (qcy 2 [] (dIZ (qac (dV 2) (qac (dFz (qdL (dQV 2) (dOS (dC (.int 1))) (dON))) (qam)))) (gT 2 (gsC (gN 0) (gsC (gN 1) (gsN)))) (qiI) (dB gSub (dV 1) (dV 0))))))
def qlR:List T->Rs T:=fnT 2 3 qr2
theorem qoi:qas ["_law_rows", "_law_gap", "_law_moment", "_law_told_here"] ["_law_rows", "_law_gap", "_law_moment"] (qad qhu):=by trivial
def qr7:Ro->Rs Out:=qaA (qbd 3 (qbc (qac (qaO qbT [0,1] (qal qeF (qac (dV 0) (qac (dV 1) (qam))))) (qam)))) (qaA (qck 3 (qaO qbT [0,1] (qal qlT (qac (dV 0) (qac (dV 1) (qac (dC (.int 5)) (qam))))))) (qaA (qck 3 (qaO qbT [0,1] (qal qlS (qac (dV 0) (qac (dV 1) (qam)))))) (qaA (qck 3 (qaO qbT [0,2] (qal qhp (qac (dV 0) (qac (dV 1) (qam)))))) (qaA (qck 3 (qaO qbT [0,2] (qal qfQ (qac (dV 0) (qac (dV 1) (qam)))))) (qaA (qck 3 (qaO qbT [0,2] (qal qgF (qac (dV 0) (qac (dFz (qbc (qam))) (qac (dV 1) (qam))))))) ((λρ=>(qby (dV 3)) (frz 3 ρ))))))))
def qid:List T->Rs T:=fnT 3 4 qr7
theorem qcE:qas ["_law_script", "_law_odd", "_law_good", "_law_late", "_law_k", "_law_row", "_law_gap", "_law_moment", "_law_bad", "_law_told_here"] ["_law_script"] (qad qbU):=by trivial
def qkl:Ro->Rs Out:=qaA (qbd 1 (qbc (qac (dC .non) (qac (qa9 (qam)) (qac (qa9 (qac (dC (.int 0)) (qac (dC (.str "a")) (qam)))) (qac (qa9 (qac (dC (.int 100)) (qac (dC (.str "a")) (qac (dC (.int 0)) (qam))))) (qac (qa9 (qac (qaX (dC (.int 1))) (qac (dC (.str "a")) (qac (dC (.int 0)) (qam))))) (qac (qa9 (qac (dC (.int 0)) (qac (dC (.str "A")) (qac (dC (.int 0)) (qam))))) (qac (qa9 (qac (dC (.int 0)) (qac (dC (.str "abc")) (qac (dC (.int 0)) (qam))))) (qac (qa9 (qac (dC (.int 0)) (qac (dC (.str "a")) (qac (dC (.int 100)) (qam))))) (qam))))))))))) (qaA (qdM 1 (dQF (qbc (qac (dFz (qbc (qac (dC (.int 0)) (qac (dC (.str "a")) (qac (dC (.int 0)) (qam)))))) (qac (qa9 (qac (dC (.bl true)) (qac (dC (.str "a")) (qac (dC (.int 0)) (qam))))) (qam)))))) (qaA (qbW (gT 2 (gsC (gN 2) (gsC (gN 3) (gsN)))) (qa9 (qac (dFz (qbc (qac (qa9 (qac (dC (.int 3)) (qac (dC (.str "a")) (qac (dC (.int 1)) (qam))))) (qac (qa9 (qac (dC (.int 5)) (qac (dC (.str "b")) (qac (qaX (dC (.int 2))) (qam))))) (qam))))) (qac (dFz (qbc (qac (qa9 (qac (dC (.int 5)) (qac (dC (.str "b")) (qac (qaX (dC (.int 2))) (qam))))) (qac (qa9 (qac (dC (.int 3)) (qac (dC (.str "a")) (qac (dC (.int 1)) (qam))))) (qam))))) (qam))))) (qaA (qnC (qdR (qac (dC (.int 4)) (qam))) (gN 4) (qaA (qcw 5 (qdF (dQV 1) (dB qhS (dB qfM (qal qic (qac (dV 0) (qac (dC (.int 0)) (qac (dC (.int 10)) (qam))))) (dB qkH (dC (.int 3)) (dV 4))) (dC (.int 10))))) (qaA (qcw 6 (dB gIx (dFz (qbc (qac (qaX (dC (.int 1))) (qac (dC (.int 100)) (qac (dC .non) (qac (dC (.bl true)) (qac (dC (.str "1")) (qac (qa9 (qac (dC (.int 0)) (qam))) (qam))))))))) (dB qhS (dB qfM (qal qic (qac (dV 0) (qac (dC (.int 1)) (qac (dC (.int 6)) (qam))))) (dV 4)) (dC (.int 6))))) (qaA (qcw 7 (dB gIx (dFz (qbc (qac (qaX (dC (.int 1))) (qac (dC (.int 1000)) (qac (dC .non) (qac (dC (.bl true)) (qac (dC (.str "1")) (qac (qa9 (qac (dC (.int 0)) (qam))) (qam))))))))) (dB qhS (dB qfM (qal qic (qac (dV 0) (qac (dC (.int 2)) (qac (dC (.int 6)) (qam))))) (dV 4)) (dC (.int 6))))) (qaA (qcw 8 (dFz (qbc (qac (qa9 (qac (dC (.int 0)) (qac (dC (.str "a")) (qac (dC (.int 0)) (qam))))) (qac (dV 5) (qac (qa9 (qac (dC (.int 0)) (qac (dC (.str "a")) (qac (dC (.int 0)) (qam))))) (qam))))))) (qaA (dIf (dOr (dTB (dB gNe (qal qid (qac (dV 8) (qac (dV 6) (qac (dV 7) (qam))))) (dFz (qkm (dQF (qbc (qac (dC (.str "no row")) (qam)))) (dC (.int 6)))))) (dTB (dB gNe (qal qid (qac (dV 3) (qac (dV 6) (qac (dV 7) (qam))))) (dFz (qkm (dQF (qbc (qac (dC (.str "too late")) (qam)))) (dC (.int 6))))))) (qby (dC (.bl false))) (qaW)) (qaA (qbd 9 (qbc (qac (qaO qbT [8] (qal qlR (qac (dV 0) (qac (dC (.str "a")) (qam))))) (qac (dC (.int 0)) (qam))))) (qaA (qmo 9 (dC (.int 1)) (qaO qbT [8] (qal qkF (qac (dV 0) (qac (dC (.str "a")) (qam)))))) (qaA (qck 9 (qaO qbT [8,2] (qal qgE (qac (dV 0) (qac (dV 1) (qam)))))) (qaA (qck 9 (qaO qbT [2,8] (qal qgE (qac (dV 0) (qac (dV 1) (qam)))))) (qaA (qck 9 (qaO qbT [2,8] (qal qgF (qac (dV 0) (qac (dV 1) (qac (dC (.int 5)) (qam))))))) (qaA (dIf (dTB (dQQ gNe (dQV 9) (dFz (qkm (dQF (qbc (qac (dC (.str "no row")) (qam)))) (dC (.int 5)))))) (qby (dC (.bl false))) (qaW)) (qaA (qbd 9 (qbc (qac (qaO qbT [3] (qal qlR (qac (dV 0) (qac (dC (.str "a")) (qam))))) (qac (dC (.int 0)) (qam))))) (qaA (qmo 9 (dC (.int 1)) (qaO qbT [3] (qal qkF (qac (dV 0) (qac (dC (.str "a")) (qam)))))) (qaA (qck 9 (qaO qbT [3,2] (qal qgE (qac (dV 0) (qac (dV 1) (qam)))))) (qaA (qck 9 (qaO qbT [2,3] (qal qgE (qac (dV 0) (qac (dV 1) (qam)))))) (qaA (qck 9 (qaO qbT [2,3] (qal qgF (qac (dV 0) (qac (dV 1) (qac (dC (.int 5)) (qam))))))) (dIf (dOr (dTB (dQQ gNe (dQV 9) (dFz (qkm (dQF (qbc (qac (dC (.str "too late")) (qam)))) (dC (.int 5)))))) (dTB (dB gNe (qal qid (qac (dV 2) (qac (dV 6) (qac (dV 7) (qam))))) (dFz (qkm (dQF (qbc (qac (dC (.str "no number")) (qam)))) (dC (.int 6))))))) (qby (dC (.bl false))) (qaW))))))))))))))))))) (qaA (dIf (dOr (dTB (dB gNe (qaO qbT [2] (qal qfQ (qac (dV 0) (qac (dC (.int 4)) (qam))))) (dC (.str "no number")))) (dTB (dB gNe (qal qfQ (qac (dV 2) (qac (dC (.int 5)) (qam)))) (dFz (qbc (qac (qa9 (qac (dC (.str "a")) (qac (dC (.int 2)) (qam)))) (qac (qa9 (qac (dC (.str "b")) (qac (dC (.int 0)) (qam)))) (qam)))))))) (qby (dC (.bl false))) (qaW)) (qaA (dIf (dOr (dTB (dB gNe (qaO qbT [3] (qal qgE (qac (dV 0) (qac (dFz (qbc (qac (dC .non) (qam)))) (qam))))) (dC (.str "no row")))) (dTB (dB gNe (qal qhp (qac (dV 2) (qac (dC (.int 999)) (qam)))) (dFz (qbc (qac (qa9 (qac (dC (.str "a")) (qac (dC (.int 1)) (qam)))) (qac (qa9 (qac (dC (.str "b")) (qac (qaX (dC (.int 2))) (qam)))) (qam)))))))) (qby (dC (.bl false))) (qaW)) (qby (dB gEq (qal qeF (qac (dV 2) (qac (dC (.int 0)) (qam)))) (dFz (qbc (qac (qa9 (qac (dC (.str "a")) (qac (dC (.int 3)) (qac (dC (.int 3)) (qac (dC (.int 1)) (qac (dC (.int 1)) (qam))))))) (qac (qa9 (qac (dC (.str "b")) (qac (dC (.int 5)) (qac (dC (.int 5)) (qac (dC (.int 1)) (qac (qaX (dC (.int 2))) (qam))))))) (qam))))))))))))
def t_law:List T->Rs T:=fnT 1 10 qkl
end
end K85
end
section
namespace PL
open SR
end PL
end
section
namespace K85
open PySem L2 PL SetL HD
abbrev r0:T:=.tup [.int 0,.str "a",.int 0]
abbrev odd:List T:=[.non,.tup [],.tup [.int 0,.str "a"],.tup [.int 100,.str "a",.int 0],.tup [.int (-1),.str "a",.int 0],.tup [.int 0,.str "A",.int 0],.tup [.int 0,.str "abc",.int 0],.tup [.int 0,.str "a",.int 100],.lst [.int 0,.str "a",.int 0],.tup [.bl true,.str "a",.int 0]]
abbrev qnl:List T:=[.int (-1),.int 100,.non,.bl true,.str "1",.tup [.int 0]]
abbrev qm8:List T:=[.int (-1),.int 1000,.non,.bl true,.str "1",.tup [.int 0]]
abbrev good:T:=.lst [.tup [.int 3,.str "a",.int 1],.tup [.int 5,.str "b",.int (-2)]]
abbrev qo0:T:=.lst [.tup [.int 5,.str "b",.int (-2)],.tup [.int 3,.str "a",.int 1]]
abbrev bad (r:T):T:=.lst [r0,r,r0]
theorem qbJ {dE:Ro->Rs T} {fr:List Nat} {ρ:Ro} {c x:Str} (h:dE (qcF 0 fr ρ)= .ex c) (hw:qbT c=some x):qaO qbT fr dE ρ= .ok (.str x):=by unfold qaO; rw[h]; dsimp only; rw[hw]
theorem qgC:qbT "NoRow" =some "no row" :=by kernel_rfl
theorem qeL:qbT "TooLate" =some "too late" :=by kernel_rfl
theorem qnX:qbT "NoNumber" =some "no number" :=by kernel_rfl
theorem qi2: ∀r∈odd,t_2 [bad r]= .ex "NoRow" :=by
 intro r hr
 simp only[odd,List.mem_cons,List.not_mem_nil,or_false] at hr
 rcases hr with rfl | rfl | rfl | rfl | rfl | rfl | rfl | rfl | rfl | rfl<;>kernel_rfl
theorem qcS:t_2 [qo0]= .ok .non:=by kernel_rfl
theorem qcr:t_2 [good]= .ok .non:=by kernel_rfl
theorem qi1:t_2 [.lst []]= .ok .non:=by kernel_rfl
theorem qcV:t_6 [qo0]= .ex "TooLate" :=by kernel_rfl
theorem qdY:t_6 [good]= .ok .non:=by kernel_rfl
theorem qmZ:t_6 [.lst []]= .ok .non:=by kernel_rfl
theorem qnm: ∀g∈qnl,t_4 [g,.int 99]= .ex "NoNumber" :=by
 intro r hr
 simp only[qnl,List.mem_cons,List.not_mem_nil,or_false] at hr
 rcases hr with rfl | rfl | rfl | rfl | rfl | rfl<;>kernel_rfl
theorem qgQ: ∀g∈qm8,t_1 [g]= .ex "NoNumber" :=by
 intro r hr
 simp only[qm8,List.mem_cons,List.not_mem_nil,or_false] at hr
 rcases hr with rfl | rfl | rfl | rfl | rfl | rfl<;>kernel_rfl
section
variable {r q g m:T} {c:Str}
theorem qoU (h:t_2 [r]= .ex c):t_3 [r]= .ex c:=by
 unfold t_3
 simp only[fnT,qaA,qb0,qby,qcw,qbd,qaY,dIf,qaW,dV,dC,dB,dB2,qal,qac,qam,qa9,qbc,dFz,dQ,dQF,dQV,qax,qaw,dCQ,qdu,dTB,qd1,dOr,qdb,qbX,qeA,qbZ,qeB,qaS,dI,qaq,qap,dIS,qdR,qeC,dIZ,qez,qcc,qbW,qdQ,qbQ,qaX,qbi,qck,qdM,qdj,qaT,frz,qdF,ixQ,qdL,dOS,dON,gN,gT,gsC,gsN,qbp,qbh,qba,qbo,qbj,qb5,qb6,qb8,qb9,qb7,qaB,qbk,qcb,qb4,qca,qbm,qbl,qbn,qd0,PL.outT,dIn,qem,qbe,qbg,qaH,qaR,qaQ,List.map_cons,List.map_nil,List.length_cons,List.length_nil,List.length_map,List.replicate,List.cons_append,List.nil_append,List.append_nil,List.getElem?_cons_zero,List.getElem?_cons_succ,List.set_cons_zero,List.set_cons_succ,Nat.reduceSub,Nat.reduceAdd,Nat.reduceLeDiff,Nat.reduceEqDiff,if_true,if_false,Bool.false_eq_true,reduceIte,Bool.not_true,Bool.not_false,Bool.and_true,Bool.true_and,Bool.and_self,Bool.or_self,d_3,h,qa0]
theorem qoV (h:t_2 [r]= .ok .non) (h2:t_6 [r]= .ex c):t_3 [r]= .ex c:=by
 unfold t_3
 simp only[fnT,qaA,qb0,qby,qcw,qbd,qaY,dIf,qaW,dV,dC,dB,dB2,qal,qac,qam,qa9,qbc,dFz,dQ,dQF,dQV,qax,qaw,dCQ,qdu,dTB,qd1,dOr,qdb,qbX,qeA,qbZ,qeB,qaS,dI,qaq,qap,dIS,qdR,qeC,dIZ,qez,qcc,qbW,qdQ,qbQ,qaX,qbi,qck,qdM,qdj,qaT,frz,qdF,ixQ,qdL,dOS,dON,gN,gT,gsC,gsN,qbp,qbh,qba,qbo,qbj,qb5,qb6,qb8,qb9,qb7,qaB,qbk,qcb,qb4,qca,qbm,qbl,qbn,qd0,PL.outT,dIn,qem,qbe,qbg,qaH,qaR,qaQ,List.map_cons,List.map_nil,List.length_cons,List.length_nil,List.length_map,List.replicate,List.cons_append,List.nil_append,List.append_nil,List.getElem?_cons_zero,List.getElem?_cons_succ,List.set_cons_zero,List.set_cons_succ,Nat.reduceSub,Nat.reduceAdd,Nat.reduceLeDiff,Nat.reduceEqDiff,if_true,if_false,Bool.false_eq_true,reduceIte,Bool.not_true,Bool.not_false,Bool.and_true,Bool.true_and,Bool.and_self,Bool.or_self,d_3,h,h2,qa0]
theorem qft:t_3 [good]= .ok .non:=by
 unfold t_3
 simp only[fnT,qaA,qb0,qby,qcw,qbd,qaY,dIf,qaW,dV,dC,dB,dB2,qal,qac,qam,qa9,qbc,dFz,dQ,dQF,dQV,qax,qaw,dCQ,qdu,dTB,qd1,dOr,qdb,qbX,qeA,qbZ,qeB,qaS,dI,qaq,qap,dIS,qdR,qeC,dIZ,qez,qcc,qbW,qdQ,qbQ,qaX,qbi,qck,qdM,qdj,qaT,frz,qdF,ixQ,qdL,dOS,dON,gN,gT,gsC,gsN,qbp,qbh,qba,qbo,qbj,qb5,qb6,qb8,qb9,qb7,qaB,qbk,qcb,qb4,qca,qbm,qbl,qbn,qd0,PL.outT,dIn,qem,qbe,qbg,qaH,qaR,qaQ,List.map_cons,List.map_nil,List.length_cons,List.length_nil,List.length_map,List.replicate,List.cons_append,List.nil_append,List.append_nil,List.getElem?_cons_zero,List.getElem?_cons_succ,List.set_cons_zero,List.set_cons_succ,Nat.reduceSub,Nat.reduceAdd,Nat.reduceLeDiff,Nat.reduceEqDiff,if_true,if_false,Bool.false_eq_true,reduceIte,Bool.not_true,Bool.not_false,Bool.and_true,Bool.true_and,Bool.and_self,Bool.or_self,d_3,qcr,qdY]
theorem qn3 (h:t_2 [r]= .ex c):t_0 [r,q]= .ex c:=by
 unfold t_0
 simp only[fnT,qaA,qb0,qby,qcw,qbd,qaY,dIf,qaW,dV,dC,dB,dB2,qal,qac,qam,qa9,qbc,dFz,dQ,dQF,dQV,qax,qaw,dCQ,qdu,dTB,qd1,dOr,qdb,qbX,qeA,qbZ,qeB,qaS,dI,qaq,qap,dIS,qdR,qeC,dIZ,qez,qcc,qbW,qdQ,qbQ,qaX,qbi,qck,qdM,qdj,qaT,frz,qdF,ixQ,qdL,dOS,dON,gN,gT,gsC,gsN,qbp,qbh,qba,qbo,qbj,qb5,qb6,qb8,qb9,qb7,qaB,qbk,qcb,qb4,qca,qbm,qbl,qbn,qd0,PL.outT,dIn,qem,qbe,qbg,qaH,qaR,qaQ,List.map_cons,List.map_nil,List.length_cons,List.length_nil,List.length_map,List.replicate,List.cons_append,List.nil_append,List.append_nil,List.getElem?_cons_zero,List.getElem?_cons_succ,List.set_cons_zero,List.set_cons_succ,Nat.reduceSub,Nat.reduceAdd,Nat.reduceLeDiff,Nat.reduceEqDiff,if_true,if_false,Bool.false_eq_true,reduceIte,Bool.not_true,Bool.not_false,Bool.and_true,Bool.true_and,Bool.and_self,Bool.or_self,d_0,h,qa0]
theorem qn2 (h0:t_2 [q]= .ok .non) (h:t_2 [r]= .ex c):t_0 [q,r]= .ex c:=by
 unfold t_0
 simp only[fnT,qaA,qb0,qby,qcw,qbd,qaY,dIf,qaW,dV,dC,dB,dB2,qal,qac,qam,qa9,qbc,dFz,dQ,dQF,dQV,qax,qaw,dCQ,qdu,dTB,qd1,dOr,qdb,qbX,qeA,qbZ,qeB,qaS,dI,qaq,qap,dIS,qdR,qeC,dIZ,qez,qcc,qbW,qdQ,qbQ,qaX,qbi,qck,qdM,qdj,qaT,frz,qdF,ixQ,qdL,dOS,dON,gN,gT,gsC,gsN,qbp,qbh,qba,qbo,qbj,qb5,qb6,qb8,qb9,qb7,qaB,qbk,qcb,qb4,qca,qbm,qbl,qbn,qd0,PL.outT,dIn,qem,qbe,qbg,qaH,qaR,qaQ,List.map_cons,List.map_nil,List.length_cons,List.length_nil,List.length_map,List.replicate,List.cons_append,List.nil_append,List.append_nil,List.getElem?_cons_zero,List.getElem?_cons_succ,List.set_cons_zero,List.set_cons_succ,Nat.reduceSub,Nat.reduceAdd,Nat.reduceLeDiff,Nat.reduceEqDiff,if_true,if_false,Bool.false_eq_true,reduceIte,Bool.not_true,Bool.not_false,Bool.and_true,Bool.true_and,Bool.and_self,Bool.or_self,d_0,h0,h,qa0]
theorem qn1 (h0:t_2 [r]= .ok .non) (h1:t_2 [q]= .ok .non) (h:t_6 [r]= .ex c):t_0 [r,q]= .ex c:=by
 unfold t_0
 simp only[fnT,qaA,qb0,qby,qcw,qbd,qaY,dIf,qaW,dV,dC,dB,dB2,qal,qac,qam,qa9,qbc,dFz,dQ,dQF,dQV,qax,qaw,dCQ,qdu,dTB,qd1,dOr,qdb,qbX,qeA,qbZ,qeB,qaS,dI,qaq,qap,dIS,qdR,qeC,dIZ,qez,qcc,qbW,qdQ,qbQ,qaX,qbi,qck,qdM,qdj,qaT,frz,qdF,ixQ,qdL,dOS,dON,gN,gT,gsC,gsN,qbp,qbh,qba,qbo,qbj,qb5,qb6,qb8,qb9,qb7,qaB,qbk,qcb,qb4,qca,qbm,qbl,qbn,qd0,PL.outT,dIn,qem,qbe,qbg,qaH,qaR,qaQ,List.map_cons,List.map_nil,List.length_cons,List.length_nil,List.length_map,List.replicate,List.cons_append,List.nil_append,List.append_nil,List.getElem?_cons_zero,List.getElem?_cons_succ,List.set_cons_zero,List.set_cons_succ,Nat.reduceSub,Nat.reduceAdd,Nat.reduceLeDiff,Nat.reduceEqDiff,if_true,if_false,Bool.false_eq_true,reduceIte,Bool.not_true,Bool.not_false,Bool.and_true,Bool.true_and,Bool.and_self,Bool.or_self,d_0,h0,h1,h,qa0]
theorem qn0 (h0:t_2 [q]= .ok .non) (h1:t_2 [r]= .ok .non) (h2:t_6 [q]= .ok .non) (h:t_6 [r]= .ex c):t_0 [q,r]= .ex c:=by
 unfold t_0
 simp only[fnT,qaA,qb0,qby,qcw,qbd,qaY,dIf,qaW,dV,dC,dB,dB2,qal,qac,qam,qa9,qbc,dFz,dQ,dQF,dQV,qax,qaw,dCQ,qdu,dTB,qd1,dOr,qdb,qbX,qeA,qbZ,qeB,qaS,dI,qaq,qap,dIS,qdR,qeC,dIZ,qez,qcc,qbW,qdQ,qbQ,qaX,qbi,qck,qdM,qdj,qaT,frz,qdF,ixQ,qdL,dOS,dON,gN,gT,gsC,gsN,qbp,qbh,qba,qbo,qbj,qb5,qb6,qb8,qb9,qb7,qaB,qbk,qcb,qb4,qca,qbm,qbl,qbn,qd0,PL.outT,dIn,qem,qbe,qbg,qaH,qaR,qaQ,List.map_cons,List.map_nil,List.length_cons,List.length_nil,List.length_map,List.replicate,List.cons_append,List.nil_append,List.append_nil,List.getElem?_cons_zero,List.getElem?_cons_succ,List.set_cons_zero,List.set_cons_succ,Nat.reduceSub,Nat.reduceAdd,Nat.reduceLeDiff,Nat.reduceEqDiff,if_true,if_false,Bool.false_eq_true,reduceIte,Bool.not_true,Bool.not_false,Bool.and_true,Bool.true_and,Bool.and_self,Bool.or_self,d_0,h0,h1,h2,h,qa0]
theorem qnZ:t_0 [good,.lst []]= .ok .non:=by
 unfold t_0
 simp only[fnT,qaA,qb0,qby,qcw,qbd,qaY,dIf,qaW,dV,dC,dB,dB2,qal,qac,qam,qa9,qbc,dFz,dQ,dQF,dQV,qax,qaw,dCQ,qdu,dTB,qd1,dOr,qdb,qbX,qeA,qbZ,qeB,qaS,dI,qaq,qap,dIS,qdR,qeC,dIZ,qez,qcc,qbW,qdQ,qbQ,qaX,qbi,qck,qdM,qdj,qaT,frz,qdF,ixQ,qdL,dOS,dON,gN,gT,gsC,gsN,qbp,qbh,qba,qbo,qbj,qb5,qb6,qb8,qb9,qb7,qaB,qbk,qcb,qb4,qca,qbm,qbl,qbn,qd0,PL.outT,dIn,qem,qbe,qbg,qaH,qaR,qaQ,List.map_cons,List.map_nil,List.length_cons,List.length_nil,List.length_map,List.replicate,List.cons_append,List.nil_append,List.append_nil,List.getElem?_cons_zero,List.getElem?_cons_succ,List.set_cons_zero,List.set_cons_succ,Nat.reduceSub,Nat.reduceAdd,Nat.reduceLeDiff,Nat.reduceEqDiff,if_true,if_false,Bool.false_eq_true,reduceIte,Bool.not_true,Bool.not_false,Bool.and_true,Bool.true_and,Bool.and_self,Bool.or_self,d_0,qcr,qi1,qdY,qmZ]
theorem qie (h:t_3 [r]= .ex c):qeF [r,g]= .ex c:=by
 unfold qeF
 simp only[fnT,qaA,qb0,qby,qcw,qbd,qaY,dIf,qaW,dV,dC,dB,dB2,qal,qac,qam,qa9,qbc,dFz,dQ,dQF,dQV,qax,qaw,dCQ,qdu,dTB,qd1,dOr,qdb,qbX,qeA,qbZ,qeB,qaS,dI,qaq,qap,dIS,qdR,qeC,dIZ,qez,qcc,qbW,qdQ,qbQ,qaX,qbi,qck,qdM,qdj,qaT,frz,qdF,ixQ,qdL,dOS,dON,gN,gT,gsC,gsN,qbp,qbh,qba,qbo,qbj,qb5,qb6,qb8,qb9,qb7,qaB,qbk,qcb,qb4,qca,qbm,qbl,qbn,qd0,PL.outT,dIn,qem,qbe,qbg,qaH,qaR,qaQ,List.map_cons,List.map_nil,List.length_cons,List.length_nil,List.length_map,List.replicate,List.cons_append,List.nil_append,List.append_nil,List.getElem?_cons_zero,List.getElem?_cons_succ,List.set_cons_zero,List.set_cons_succ,Nat.reduceSub,Nat.reduceAdd,Nat.reduceLeDiff,Nat.reduceEqDiff,if_true,if_false,Bool.false_eq_true,reduceIte,Bool.not_true,Bool.not_false,Bool.and_true,Bool.true_and,Bool.and_self,Bool.or_self,qrz,h,qa0]
theorem qqd (h:t_3 [r]= .ok .non) (h2:t_4 [g,.int 99]= .ex c):qeF [r,g]= .ex c:=by
 unfold qeF
 simp only[fnT,qaA,qb0,qby,qcw,qbd,qaY,dIf,qaW,dV,dC,dB,dB2,qal,qac,qam,qa9,qbc,dFz,dQ,dQF,dQV,qax,qaw,dCQ,qdu,dTB,qd1,dOr,qdb,qbX,qeA,qbZ,qeB,qaS,dI,qaq,qap,dIS,qdR,qeC,dIZ,qez,qcc,qbW,qdQ,qbQ,qaX,qbi,qck,qdM,qdj,qaT,frz,qdF,ixQ,qdL,dOS,dON,gN,gT,gsC,gsN,qbp,qbh,qba,qbo,qbj,qb5,qb6,qb8,qb9,qb7,qaB,qbk,qcb,qb4,qca,qbm,qbl,qbn,qd0,PL.outT,dIn,qem,qbe,qbg,qaH,qaR,qaQ,List.map_cons,List.map_nil,List.length_cons,List.length_nil,List.length_map,List.replicate,List.cons_append,List.nil_append,List.append_nil,List.getElem?_cons_zero,List.getElem?_cons_succ,List.set_cons_zero,List.set_cons_succ,Nat.reduceSub,Nat.reduceAdd,Nat.reduceLeDiff,Nat.reduceEqDiff,if_true,if_false,Bool.false_eq_true,reduceIte,Bool.not_true,Bool.not_false,Bool.and_true,Bool.true_and,Bool.and_self,Bool.or_self,qrz,h,h2,qa0]
theorem qro (h:qeF [r,g]= .ex c):qlT [r,g,m]= .ex c:=by
 unfold qlT
 simp only[fnT,qaA,qb0,qby,qcw,qbd,qaY,dIf,qaW,dV,dC,dB,dB2,qal,qac,qam,qa9,qbc,dFz,dQ,dQF,dQV,qax,qaw,dCQ,qdu,dTB,qd1,dOr,qdb,qbX,qeA,qbZ,qeB,qaS,dI,qaq,qap,dIS,qdR,qeC,dIZ,qez,qcc,qbW,qdQ,qbQ,qaX,qbi,qck,qdM,qdj,qaT,frz,qdF,ixQ,qdL,dOS,dON,gN,gT,gsC,gsN,qbp,qbh,qba,qbo,qbj,qb5,qb6,qb8,qb9,qb7,qaB,qbk,qcb,qb4,qca,qbm,qbl,qbn,qd0,PL.outT,dIn,qem,qbe,qbg,qaH,qaR,qaQ,List.map_cons,List.map_nil,List.length_cons,List.length_nil,List.length_map,List.replicate,List.cons_append,List.nil_append,List.append_nil,List.getElem?_cons_zero,List.getElem?_cons_succ,List.set_cons_zero,List.set_cons_succ,Nat.reduceSub,Nat.reduceAdd,Nat.reduceLeDiff,Nat.reduceEqDiff,if_true,if_false,Bool.false_eq_true,reduceIte,Bool.not_true,Bool.not_false,Bool.and_true,Bool.true_and,Bool.and_self,Bool.or_self,qr6,qcy,h,qa0]
theorem qjC (h:qeF [r,g]= .ex c):qlS [r,g]= .ex c:=by
 unfold qlS
 simp only[fnT,qaA,qb0,qby,qcw,qbd,qaY,dIf,qaW,dV,dC,dB,dB2,qal,qac,qam,qa9,qbc,dFz,dQ,dQF,dQV,qax,qaw,dCQ,qdu,dTB,qd1,dOr,qdb,qbX,qeA,qbZ,qeB,qaS,dI,qaq,qap,dIS,qdR,qeC,dIZ,qez,qcc,qbW,qdQ,qbQ,qaX,qbi,qck,qdM,qdj,qaT,frz,qdF,ixQ,qdL,dOS,dON,gN,gT,gsC,gsN,qbp,qbh,qba,qbo,qbj,qb5,qb6,qb8,qb9,qb7,qaB,qbk,qcb,qb4,qca,qbm,qbl,qbn,qd0,PL.outT,dIn,qem,qbe,qbg,qaH,qaR,qaQ,List.map_cons,List.map_nil,List.length_cons,List.length_nil,List.length_map,List.replicate,List.cons_append,List.nil_append,List.append_nil,List.getElem?_cons_zero,List.getElem?_cons_succ,List.set_cons_zero,List.set_cons_succ,Nat.reduceSub,Nat.reduceAdd,Nat.reduceLeDiff,Nat.reduceEqDiff,if_true,if_false,Bool.false_eq_true,reduceIte,Bool.not_true,Bool.not_false,Bool.and_true,Bool.true_and,Bool.and_self,Bool.or_self,qr4,h,qa0]
theorem qr9 (h:t_3 [r]= .ex c):qhp [r,m]= .ex c:=by
 unfold qhp
 simp only[fnT,qaA,qb0,qby,qcw,qbd,qaY,dIf,qaW,dV,dC,dB,dB2,qal,qac,qam,qa9,qbc,dFz,dQ,dQF,dQV,qax,qaw,dCQ,qdu,dTB,qd1,dOr,qdb,qbX,qeA,qbZ,qeB,qaS,dI,qaq,qap,dIS,qdR,qeC,dIZ,qez,qcc,qbW,qdQ,qbQ,qaX,qbi,qck,qdM,qdj,qaT,frz,qdF,ixQ,qdL,dOS,dON,gN,gT,gsC,gsN,qbp,qbh,qba,qbo,qbj,qb5,qb6,qb8,qb9,qb7,qaB,qbk,qcb,qb4,qca,qbm,qbl,qbn,qd0,PL.outT,dIn,qem,qbe,qbg,qaH,qaR,qaQ,List.map_cons,List.map_nil,List.length_cons,List.length_nil,List.length_map,List.replicate,List.cons_append,List.nil_append,List.append_nil,List.getElem?_cons_zero,List.getElem?_cons_succ,List.set_cons_zero,List.set_cons_succ,Nat.reduceSub,Nat.reduceAdd,Nat.reduceLeDiff,Nat.reduceEqDiff,if_true,if_false,Bool.false_eq_true,reduceIte,Bool.not_true,Bool.not_false,Bool.and_true,Bool.true_and,Bool.and_self,Bool.or_self,qrB,h,qa0]
theorem qs8 (h:t_3 [r]= .ok .non) (h2:t_1 [m]= .ex c):qhp [r,m]= .ex c:=by
 unfold qhp
 simp only[fnT,qaA,qb0,qby,qcw,qbd,qaY,dIf,qaW,dV,dC,dB,dB2,qal,qac,qam,qa9,qbc,dFz,dQ,dQF,dQV,qax,qaw,dCQ,qdu,dTB,qd1,dOr,qdb,qbX,qeA,qbZ,qeB,qaS,dI,qaq,qap,dIS,qdR,qeC,dIZ,qez,qcc,qbW,qdQ,qbQ,qaX,qbi,qck,qdM,qdj,qaT,frz,qdF,ixQ,qdL,dOS,dON,gN,gT,gsC,gsN,qbp,qbh,qba,qbo,qbj,qb5,qb6,qb8,qb9,qb7,qaB,qbk,qcb,qb4,qca,qbm,qbl,qbn,qd0,PL.outT,dIn,qem,qbe,qbg,qaH,qaR,qaQ,List.map_cons,List.map_nil,List.length_cons,List.length_nil,List.length_map,List.replicate,List.cons_append,List.nil_append,List.append_nil,List.getElem?_cons_zero,List.getElem?_cons_succ,List.set_cons_zero,List.set_cons_succ,Nat.reduceSub,Nat.reduceAdd,Nat.reduceLeDiff,Nat.reduceEqDiff,if_true,if_false,Bool.false_eq_true,reduceIte,Bool.not_true,Bool.not_false,Bool.and_true,Bool.true_and,Bool.and_self,Bool.or_self,qrB,h,h2,qa0]
theorem qrM (h:t_3 [r]= .ex c):qfQ [r,m]= .ex c:=by
 unfold qfQ
 simp only[fnT,qaA,qb0,qby,qcw,qbd,qaY,dIf,qaW,dV,dC,dB,dB2,qal,qac,qam,qa9,qbc,dFz,dQ,dQF,dQV,qax,qaw,dCQ,qdu,dTB,qd1,dOr,qdb,qbX,qeA,qbZ,qeB,qaS,dI,qaq,qap,dIS,qdR,qeC,dIZ,qez,qcc,qbW,qdQ,qbQ,qaX,qbi,qck,qdM,qdj,qaT,frz,qdF,ixQ,qdL,dOS,dON,gN,gT,gsC,gsN,qbp,qbh,qba,qbo,qbj,qb5,qb6,qb8,qb9,qb7,qaB,qbk,qcb,qb4,qca,qbm,qbl,qbn,qd0,PL.outT,dIn,qem,qbe,qbg,qaH,qaR,qaQ,List.map_cons,List.map_nil,List.length_cons,List.length_nil,List.length_map,List.replicate,List.cons_append,List.nil_append,List.append_nil,List.getElem?_cons_zero,List.getElem?_cons_succ,List.set_cons_zero,List.set_cons_succ,Nat.reduceSub,Nat.reduceAdd,Nat.reduceLeDiff,Nat.reduceEqDiff,if_true,if_false,Bool.false_eq_true,reduceIte,Bool.not_true,Bool.not_false,Bool.and_true,Bool.true_and,Bool.and_self,Bool.or_self,qry,h,qa0]
theorem qsh (h:t_3 [r]= .ok .non) (h2:t_1 [m]= .ex c):qfQ [r,m]= .ex c:=by
 unfold qfQ
 simp only[fnT,qaA,qb0,qby,qcw,qbd,qaY,dIf,qaW,dV,dC,dB,dB2,qal,qac,qam,qa9,qbc,dFz,dQ,dQF,dQV,qax,qaw,dCQ,qdu,dTB,qd1,dOr,qdb,qbX,qeA,qbZ,qeB,qaS,dI,qaq,qap,dIS,qdR,qeC,dIZ,qez,qcc,qbW,qdQ,qbQ,qaX,qbi,qck,qdM,qdj,qaT,frz,qdF,ixQ,qdL,dOS,dON,gN,gT,gsC,gsN,qbp,qbh,qba,qbo,qbj,qb5,qb6,qb8,qb9,qb7,qaB,qbk,qcb,qb4,qca,qbm,qbl,qbn,qd0,PL.outT,dIn,qem,qbe,qbg,qaH,qaR,qaQ,List.map_cons,List.map_nil,List.length_cons,List.length_nil,List.length_map,List.replicate,List.cons_append,List.nil_append,List.append_nil,List.getElem?_cons_zero,List.getElem?_cons_succ,List.set_cons_zero,List.set_cons_succ,Nat.reduceSub,Nat.reduceAdd,Nat.reduceLeDiff,Nat.reduceEqDiff,if_true,if_false,Bool.false_eq_true,reduceIte,Bool.not_true,Bool.not_false,Bool.and_true,Bool.true_and,Bool.and_self,Bool.or_self,qry,h,h2,qa0]
theorem qpH (h:t_0 [r,q]= .ex c):qgF [r,q,m]= .ex c:=by
 unfold qgF
 simp only[fnT,qaA,qb0,qby,qcw,qbd,qaY,dIf,qaW,dV,dC,dB,dB2,qal,qac,qam,qa9,qbc,dFz,dQ,dQF,dQV,qax,qaw,dCQ,qdu,dTB,qd1,dOr,qdb,qbX,qeA,qbZ,qeB,qaS,dI,qaq,qap,dIS,qdR,qeC,dIZ,qez,qcc,qbW,qdQ,qbQ,qaX,qbi,qck,qdM,qdj,qaT,frz,qdF,ixQ,qdL,dOS,dON,gN,gT,gsC,gsN,qbp,qbh,qba,qbo,qbj,qb5,qb6,qb8,qb9,qb7,qaB,qbk,qcb,qb4,qca,qbm,qbl,qbn,qd0,PL.outT,dIn,qem,qbe,qbg,qaH,qaR,qaQ,List.map_cons,List.map_nil,List.length_cons,List.length_nil,List.length_map,List.replicate,List.cons_append,List.nil_append,List.append_nil,List.getElem?_cons_zero,List.getElem?_cons_succ,List.set_cons_zero,List.set_cons_succ,Nat.reduceSub,Nat.reduceAdd,Nat.reduceLeDiff,Nat.reduceEqDiff,if_true,if_false,Bool.false_eq_true,reduceIte,Bool.not_true,Bool.not_false,Bool.and_true,Bool.true_and,Bool.and_self,Bool.or_self,qrA,h,qa0]
theorem qsj (h:t_0 [r,q]= .ok .non) (h2:t_1 [m]= .ex c):qgF [r,q,m]= .ex c:=by
 unfold qgF
 simp only[fnT,qaA,qb0,qby,qcw,qbd,qaY,dIf,qaW,dV,dC,dB,dB2,qal,qac,qam,qa9,qbc,dFz,dQ,dQF,dQV,qax,qaw,dCQ,qdu,dTB,qd1,dOr,qdb,qbX,qeA,qbZ,qeB,qaS,dI,qaq,qap,dIS,qdR,qeC,dIZ,qez,qcc,qbW,qdQ,qbQ,qaX,qbi,qck,qdM,qdj,qaT,frz,qdF,ixQ,qdL,dOS,dON,gN,gT,gsC,gsN,qbp,qbh,qba,qbo,qbj,qb5,qb6,qb8,qb9,qb7,qaB,qbk,qcb,qb4,qca,qbm,qbl,qbn,qd0,PL.outT,dIn,qem,qbe,qbg,qaH,qaR,qaQ,List.map_cons,List.map_nil,List.length_cons,List.length_nil,List.length_map,List.replicate,List.cons_append,List.nil_append,List.append_nil,List.getElem?_cons_zero,List.getElem?_cons_succ,List.set_cons_zero,List.set_cons_succ,Nat.reduceSub,Nat.reduceAdd,Nat.reduceLeDiff,Nat.reduceEqDiff,if_true,if_false,Bool.false_eq_true,reduceIte,Bool.not_true,Bool.not_false,Bool.and_true,Bool.true_and,Bool.and_self,Bool.or_self,qrA,h,h2,qa0]
theorem qpR (h:t_0 [r,q]= .ex c):qgE [r,q]= .ex c:=by
 unfold qgE
 simp only[fnT,qaA,qb0,qby,qcw,qbd,qaY,dIf,qaW,dV,dC,dB,dB2,qal,qac,qam,qa9,qbc,dFz,dQ,dQF,dQV,qax,qaw,dCQ,qdu,dTB,qd1,dOr,qdb,qbX,qeA,qbZ,qeB,qaS,dI,qaq,qap,dIS,qdR,qeC,dIZ,qez,qcc,qbW,qdQ,qbQ,qaX,qbi,qck,qdM,qdj,qaT,frz,qdF,ixQ,qdL,dOS,dON,gN,gT,gsC,gsN,qbp,qbh,qba,qbo,qbj,qb5,qb6,qb8,qb9,qb7,qaB,qbk,qcb,qb4,qca,qbm,qbl,qbn,qd0,PL.outT,dIn,qem,qbe,qbg,qaH,qaR,qaQ,List.map_cons,List.map_nil,List.length_cons,List.length_nil,List.length_map,List.replicate,List.cons_append,List.nil_append,List.append_nil,List.getElem?_cons_zero,List.getElem?_cons_succ,List.set_cons_zero,List.set_cons_succ,Nat.reduceSub,Nat.reduceAdd,Nat.reduceLeDiff,Nat.reduceEqDiff,if_true,if_false,Bool.false_eq_true,reduceIte,Bool.not_true,Bool.not_false,Bool.and_true,Bool.true_and,Bool.and_self,Bool.or_self,qr3,h,qa0]
theorem qrV (h:t_3 [r]= .ex c):qlR [r,m]= .ex c:=by
 unfold qlR
 simp only[fnT,qaA,qb0,qby,qcw,qbd,qaY,dIf,qaW,dV,dC,dB,dB2,qal,qac,qam,qa9,qbc,dFz,dQ,dQF,dQV,qax,qaw,dCQ,qdu,dTB,qd1,dOr,qdb,qbX,qeA,qbZ,qeB,qaS,dI,qaq,qap,dIS,qdR,qeC,dIZ,qez,qcc,qbW,qdQ,qbQ,qaX,qbi,qck,qdM,qdj,qaT,frz,qdF,ixQ,qdL,dOS,dON,gN,gT,gsC,gsN,qbp,qbh,qba,qbo,qbj,qb5,qb6,qb8,qb9,qb7,qaB,qbk,qcb,qb4,qca,qbm,qbl,qbn,qd0,PL.outT,dIn,qem,qbe,qbg,qaH,qaR,qaQ,List.map_cons,List.map_nil,List.length_cons,List.length_nil,List.length_map,List.replicate,List.cons_append,List.nil_append,List.append_nil,List.getElem?_cons_zero,List.getElem?_cons_succ,List.set_cons_zero,List.set_cons_succ,Nat.reduceSub,Nat.reduceAdd,Nat.reduceLeDiff,Nat.reduceEqDiff,if_true,if_false,Bool.false_eq_true,reduceIte,Bool.not_true,Bool.not_false,Bool.and_true,Bool.true_and,Bool.and_self,Bool.or_self,qr2,h,qa0]
theorem qr0 (h:t_3 [r]= .ex c):qkF [r,m]= .ex c:=by
 unfold qkF
 simp only[fnT,qaA,qb0,qby,qcw,qbd,qaY,dIf,qaW,dV,dC,dB,dB2,qal,qac,qam,qa9,qbc,dFz,dQ,dQF,dQV,qax,qaw,dCQ,qdu,dTB,qd1,dOr,qdb,qbX,qeA,qbZ,qeB,qaS,dI,qaq,qap,dIS,qdR,qeC,dIZ,qez,qcc,qbW,qdQ,qbQ,qaX,qbi,qck,qdM,qdj,qaT,frz,qdF,ixQ,qdL,dOS,dON,gN,gT,gsC,gsN,qbp,qbh,qba,qbo,qbj,qb5,qb6,qb8,qb9,qb7,qaB,qbk,qcb,qb4,qca,qbm,qbl,qbn,qd0,PL.outT,dIn,qem,qbe,qbg,qaH,qaR,qaQ,List.map_cons,List.map_nil,List.length_cons,List.length_nil,List.length_map,List.replicate,List.cons_append,List.nil_append,List.append_nil,List.getElem?_cons_zero,List.getElem?_cons_succ,List.set_cons_zero,List.set_cons_succ,Nat.reduceSub,Nat.reduceAdd,Nat.reduceLeDiff,Nat.reduceEqDiff,if_true,if_false,Bool.false_eq_true,reduceIte,Bool.not_true,Bool.not_false,Bool.and_true,Bool.true_and,Bool.and_self,Bool.or_self,qr5,h,qa0]
theorem qfL {x:Str} (hw:qbT c=some x) (h1:qeF [r,g]= .ex c) (h2:qlT [r,g,.int 5]= .ex c) (h3:qlS [r,g]= .ex c) (h4:qhp [r,m]= .ex c) (h5:qfQ [r,m]= .ex c) (h6:qgF [r,.lst [],m]= .ex c):
  qid [r,g,m]= .ok (.lst [.str x,.str x,.str x,.str x,.str x,.str x]):=by
 have s1: ∀x3,qaO qbT [0,1] (qal qeF (qac (dV 0) (qac (dV 1) (qam)))) [.fz r,.fz g,.fz m,x3]= .ok (.str x):=λ_=>qbJ (by exact h1) hw
 have s2: ∀x3,qaO qbT [0,1] (qal qlT (qac (dV 0) (qac (dV 1) (qac (dC (.int 5)) (qam))))) [.fz r,.fz g,.fz m,x3]= .ok (.str x):=λ_=>qbJ (by exact h2) hw
 have s3: ∀x3,qaO qbT [0,1] (qal qlS (qac (dV 0) (qac (dV 1) (qam)))) [.fz r,.fz g,.fz m,x3]= .ok (.str x):=λ_=>qbJ (by exact h3) hw
 have s4: ∀x3,qaO qbT [0,2] (qal qhp (qac (dV 0) (qac (dV 1) (qam)))) [.fz r,.fz g,.fz m,x3]= .ok (.str x):=λ_=>qbJ (by exact h4) hw
 have s5: ∀x3,qaO qbT [0,2] (qal qfQ (qac (dV 0) (qac (dV 1) (qam)))) [.fz r,.fz g,.fz m,x3]= .ok (.str x):=λ_=>qbJ (by exact h5) hw
 have s6: ∀x3,qaO qbT [0,2] (qal qgF (qac (dV 0) (qac (dFz (qbc (qam))) (qac (dV 1) (qam))))) [.fz r,.fz g,.fz m,x3]= .ok (.str x):=λ_=>qbJ (by exact h6) hw
 unfold qid qr7
 generalize e1:qaO qbT [0,1] (qal qeF (qac (dV 0) (qac (dV 1) (qam))))=T1 at s1⊢
 generalize e2:qaO qbT [0,1] (qal qlT (qac (dV 0) (qac (dV 1) (qac (dC (.int 5)) (qam)))))=T2 at s2⊢
 generalize e3:qaO qbT [0,1] (qal qlS (qac (dV 0) (qac (dV 1) (qam))))=T3 at s3⊢
 generalize e4:qaO qbT [0,2] (qal qhp (qac (dV 0) (qac (dV 1) (qam))))=T4 at s4⊢
 generalize e5:qaO qbT [0,2] (qal qfQ (qac (dV 0) (qac (dV 1) (qam))))=T5 at s5⊢
 generalize e6:qaO qbT [0,2] (qal qgF (qac (dV 0) (qac (dFz (qbc (qam))) (qac (dV 1) (qam)))))=T6 at s6⊢
 simp only[fnT,qaA,qb0,qby,qcw,qbd,qaY,dIf,qaW,dV,dC,dB,dB2,qal,qac,qam,qa9,qbc,dFz,dQ,dQF,dQV,qax,qaw,dCQ,qdu,dTB,qd1,dOr,qdb,qbX,qeA,qbZ,qeB,qaS,dI,qaq,qap,dIS,qdR,qeC,dIZ,qez,qcc,qbW,qdQ,qbQ,qaX,qbi,qck,qdM,qdj,qaT,frz,qdF,ixQ,qdL,dOS,dON,gN,gT,gsC,gsN,qbp,qbh,qba,qbo,qbj,qb5,qb6,qb8,qb9,qb7,qaB,qbk,qcb,qb4,qca,qbm,qbl,qbn,qd0,PL.outT,dIn,qem,qbe,qbg,qaH,qaR,qaQ,List.map_cons,List.map_nil,List.length_cons,List.length_nil,List.length_map,List.replicate,List.cons_append,List.nil_append,List.append_nil,List.getElem?_cons_zero,List.getElem?_cons_succ,List.set_cons_zero,List.set_cons_succ,Nat.reduceSub,Nat.reduceAdd,Nat.reduceLeDiff,Nat.reduceEqDiff,if_true,if_false,Bool.false_eq_true,reduceIte,Bool.not_true,Bool.not_false,Bool.and_true,Bool.true_and,Bool.and_self,Bool.or_self,s1,s2,s3,s4,s5,s6]
end
theorem qkQ {r g m:T} (hr:r∈odd):qid [bad r,g,m]= .ok (.lst [.str "no row",.str "no row",.str "no row",.str "no row",.str "no row",.str "no row"]):=by
 have h:=qi2 r hr
 have hl:=qoU h
 exact qfL qgC (qie hl) (qro (qie hl)) (qjC (qie hl)) (qr9 hl) (qrM hl) (qpH (qn3 h))
theorem qiL {g m:T}:qid [qo0,g,m]= .ok (.lst [.str "too late",.str "too late",.str "too late",.str "too late",.str "too late",.str "too late"]):=by
 have hl:=qoV qcS qcV
 exact qfL qeL (qie hl) (qro (qie hl)) (qjC (qie hl)) (qr9 hl) (qrM hl) (qpH (qn1 qcS qi1 qcV))
theorem qiM {g m:T} (hg:g∈qnl) (hm:m∈qm8):qid [good,g,m]= .ok (.lst [.str "no number",.str "no number",.str "no number",.str "no number",.str "no number",.str "no number"]):=by
 have s:=qqd qft (qnm g hg)
 exact qfL qnX s (qro s) (qjC s) (qs8 qft (qgQ m hm)) (qsh qft (qgQ m hm)) (qsj qnZ (qgQ m hm))
end K85
end
section
namespace K85
open PySem L2 PL SetL HD
abbrev B0:Ro->Rs Out:=qcw 5 (qdF (dQV 1) (dB qhS (dB qfM (qal qic (qac (dV 0) (qac (dC (.int 0)) (qac (dC (.int 10)) (qam))))) (dB qkH (dC (.int 3)) (dV 4))) (dC (.int 10))))
abbrev B1:Ro->Rs Out:=qcw 6 (dB gIx (dFz (qbc (qac (qaX (dC (.int 1))) (qac (dC (.int 100)) (qac (dC .non) (qac (dC (.bl true)) (qac (dC (.str "1")) (qac (qa9 (qac (dC (.int 0)) (qam))) (qam))))))))) (dB qhS (dB qfM (qal qic (qac (dV 0) (qac (dC (.int 1)) (qac (dC (.int 6)) (qam))))) (dV 4)) (dC (.int 6))))
abbrev B2:Ro->Rs Out:=qcw 7 (dB gIx (dFz (qbc (qac (qaX (dC (.int 1))) (qac (dC (.int 1000)) (qac (dC .non) (qac (dC (.bl true)) (qac (dC (.str "1")) (qac (qa9 (qac (dC (.int 0)) (qam))) (qam))))))))) (dB qhS (dB qfM (qal qic (qac (dV 0) (qac (dC (.int 2)) (qac (dC (.int 6)) (qam))))) (dV 4)) (dC (.int 6))))
abbrev B3:Ro->Rs Out:=qcw 8 (dFz (qbc (qac (qa9 (qac (dC (.int 0)) (qac (dC (.str "a")) (qac (dC (.int 0)) (qam))))) (qac (dV 5) (qac (qa9 (qac (dC (.int 0)) (qac (dC (.str "a")) (qac (dC (.int 0)) (qam))))) (qam))))))
abbrev B4:Ro->Rs Out:=dIf (dOr (dTB (dB gNe (qal qid (qac (dV 8) (qac (dV 6) (qac (dV 7) (qam))))) (dFz (qkm (dQF (qbc (qac (dC (.str "no row")) (qam)))) (dC (.int 6)))))) (dTB (dB gNe (qal qid (qac (dV 3) (qac (dV 6) (qac (dV 7) (qam))))) (dFz (qkm (dQF (qbc (qac (dC (.str "too late")) (qam)))) (dC (.int 6))))))) (qby (dC (.bl false))) (qaW)
abbrev B5:Ro->Rs Out:=qbd 9 (qbc (qac (qaO qbT [8] (qal qlR (qac (dV 0) (qac (dC (.str "a")) (qam))))) (qac (dC (.int 0)) (qam))))
abbrev B6:Ro->Rs Out:=qmo 9 (dC (.int 1)) (qaO qbT [8] (qal qkF (qac (dV 0) (qac (dC (.str "a")) (qam)))))
abbrev B7:Ro->Rs Out:=qck 9 (qaO qbT [8,2] (qal qgE (qac (dV 0) (qac (dV 1) (qam)))))
abbrev B8:Ro->Rs Out:=qck 9 (qaO qbT [2,8] (qal qgE (qac (dV 0) (qac (dV 1) (qam)))))
abbrev B9:Ro->Rs Out:=qck 9 (qaO qbT [2,8] (qal qgF (qac (dV 0) (qac (dV 1) (qac (dC (.int 5)) (qam))))))
abbrev B10:Ro->Rs Out:=dIf (dTB (dQQ gNe (dQV 9) (dFz (qkm (dQF (qbc (qac (dC (.str "no row")) (qam)))) (dC (.int 5)))))) (qby (dC (.bl false))) (qaW)
abbrev B11:Ro->Rs Out:=qbd 9 (qbc (qac (qaO qbT [3] (qal qlR (qac (dV 0) (qac (dC (.str "a")) (qam))))) (qac (dC (.int 0)) (qam))))
abbrev B12:Ro->Rs Out:=qmo 9 (dC (.int 1)) (qaO qbT [3] (qal qkF (qac (dV 0) (qac (dC (.str "a")) (qam)))))
abbrev B13:Ro->Rs Out:=qck 9 (qaO qbT [3,2] (qal qgE (qac (dV 0) (qac (dV 1) (qam)))))
abbrev B14:Ro->Rs Out:=qck 9 (qaO qbT [2,3] (qal qgE (qac (dV 0) (qac (dV 1) (qam)))))
abbrev B15:Ro->Rs Out:=qck 9 (qaO qbT [2,3] (qal qgF (qac (dV 0) (qac (dV 1) (qac (dC (.int 5)) (qam))))))
abbrev B16:Ro->Rs Out:=dIf (dOr (dTB (dQQ gNe (dQV 9) (dFz (qkm (dQF (qbc (qac (dC (.str "too late")) (qam)))) (dC (.int 5)))))) (dTB (dB gNe (qal qid (qac (dV 2) (qac (dV 6) (qac (dV 7) (qam))))) (dFz (qkm (dQF (qbc (qac (dC (.str "no number")) (qam)))) (dC (.int 6))))))) (qby (dC (.bl false))) (qaW)
abbrev BB:Ro->Rs Out:=qaA B0 (qaA B1 (qaA B2 (qaA B3 (qaA B4 (qaA B5 (qaA B6 (qaA B7 (qaA B8 (qaA B9 (qaA B10 (qaA B11 (qaA B12 (qaA B13 (qaA B14 (qaA B15 B16)))))))))))))))
abbrev S0:Ro->Rs Out:=qbd 1 (qbc (qac (dC .non) (qac (qa9 (qam)) (qac (qa9 (qac (dC (.int 0)) (qac (dC (.str "a")) (qam)))) (qac (qa9 (qac (dC (.int 100)) (qac (dC (.str "a")) (qac (dC (.int 0)) (qam))))) (qac (qa9 (qac (qaX (dC (.int 1))) (qac (dC (.str "a")) (qac (dC (.int 0)) (qam))))) (qac (qa9 (qac (dC (.int 0)) (qac (dC (.str "A")) (qac (dC (.int 0)) (qam))))) (qac (qa9 (qac (dC (.int 0)) (qac (dC (.str "abc")) (qac (dC (.int 0)) (qam))))) (qac (qa9 (qac (dC (.int 0)) (qac (dC (.str "a")) (qac (dC (.int 100)) (qam))))) (qam))))))))))
abbrev S1:Ro->Rs Out:=qdM 1 (dQF (qbc (qac (dFz (qbc (qac (dC (.int 0)) (qac (dC (.str "a")) (qac (dC (.int 0)) (qam)))))) (qac (qa9 (qac (dC (.bl true)) (qac (dC (.str "a")) (qac (dC (.int 0)) (qam))))) (qam)))))
abbrev S2:Ro->Rs Out:=qbW (gT 2 (gsC (gN 2) (gsC (gN 3) (gsN)))) (qa9 (qac (dFz (qbc (qac (qa9 (qac (dC (.int 3)) (qac (dC (.str "a")) (qac (dC (.int 1)) (qam))))) (qac (qa9 (qac (dC (.int 5)) (qac (dC (.str "b")) (qac (qaX (dC (.int 2))) (qam))))) (qam))))) (qac (dFz (qbc (qac (qa9 (qac (dC (.int 5)) (qac (dC (.str "b")) (qac (qaX (dC (.int 2))) (qam))))) (qac (qa9 (qac (dC (.int 3)) (qac (dC (.str "a")) (qac (dC (.int 1)) (qam))))) (qam))))) (qam))))
abbrev S4:Ro->Rs Out:=dIf (dOr (dTB (dB gNe (qaO qbT [2] (qal qfQ (qac (dV 0) (qac (dC (.int 4)) (qam))))) (dC (.str "no number")))) (dTB (dB gNe (qal qfQ (qac (dV 2) (qac (dC (.int 5)) (qam)))) (dFz (qbc (qac (qa9 (qac (dC (.str "a")) (qac (dC (.int 2)) (qam)))) (qac (qa9 (qac (dC (.str "b")) (qac (dC (.int 0)) (qam)))) (qam)))))))) (qby (dC (.bl false))) (qaW)
abbrev S5:Ro->Rs Out:=dIf (dOr (dTB (dB gNe (qaO qbT [3] (qal qgE (qac (dV 0) (qac (dFz (qbc (qac (dC .non) (qam)))) (qam))))) (dC (.str "no row")))) (dTB (dB gNe (qal qhp (qac (dV 2) (qac (dC (.int 999)) (qam)))) (dFz (qbc (qac (qa9 (qac (dC (.str "a")) (qac (dC (.int 1)) (qam)))) (qac (qa9 (qac (dC (.str "b")) (qac (qaX (dC (.int 2))) (qam)))) (qam)))))))) (qby (dC (.bl false))) (qaW)
abbrev S6:Ro->Rs Out:=qby (dB gEq (qal qeF (qac (dV 2) (qac (dC (.int 0)) (qam)))) (dFz (qbc (qac (qa9 (qac (dC (.str "a")) (qac (dC (.int 3)) (qac (dC (.int 3)) (qac (dC (.int 1)) (qac (dC (.int 1)) (qam))))))) (qac (qa9 (qac (dC (.str "b")) (qac (dC (.int 5)) (qac (dC (.int 5)) (qac (dC (.int 1)) (qac (qaX (dC (.int 2))) (qam))))))) (qam))))))
abbrev S3:Ro->Rs Out:=qnC (qdR (qac (dC (.int 4)) (qam))) (gN 4) BB
theorem qoZ:qkl=qaA S0 (qaA S1 (qaA S2 (qaA S3 (qaA S4 (qaA S5 S6))))):=rfl
section
variable {d e f:Ro->Rs Out} {c c':Ro->Rs Bool} {da db:Ro->Rs T} {ds:Ro->Rs (List T)} {ρ ρ':Ro} {a b:T} {i:Nat}
theorem qbf {r:Rs Out} (h:d ρ= .ok (.nx ρ')) (h2:e ρ'=r):qaA d e ρ=r:=by unfold qaA; rw[h]; exact h2
theorem qpd {r:Rs Out} (h:c ρ= .ok false) (h2:e ρ=r):dIf c d e ρ=r:=by unfold dIf; rw[h,qaH,if_neg Bool.false_ne_true]; exact h2
theorem qpO {r:Rs Bool} (h:c ρ= .ok false) (h2:c' ρ=r):dOr c c' ρ=r:=by unfold dOr; rw[h,qaH,if_neg Bool.false_ne_true]; exact h2
theorem tbb {b:Bool} (h:da ρ= .ok (.bl b)):dTB da ρ= .ok b:=by unfold dTB; rw[h]; rfl
theorem bin {g:T->T->Rs T} {r:Rs T} (h:da ρ= .ok a) (h1:db ρ= .ok b) (h2:g a b=r):dB g da db ρ=r:=by unfold dB; rw[h,h1]; exact h2
theorem qmH (h:da ρ= .ok a):qcw i da ρ= .ok (.nx (ρ.set i (.fz a))):=by unfold qcw; rw[h]; rfl
theorem qlW {l:List T} (h:ds ρ= .ok l):qbd i ds ρ= .ok (.nx (ρ.set i (.ow l))):=by unfold qbd; rw[h]; rfl
theorem qrY (h:da ρ= .ok a):qbc (qac da (qac (dC b) qam)) ρ= .ok [a,b]:=by unfold qbc qac; rw[h]; rfl
theorem qrT {x y:T} (hρ:ρ[i]? =some (.ow [x,y])) (h:da ρ= .ok a):qmo i (dC (.int 1)) da ρ= .ok (.nx (ρ.set i (.ow [x,a]))):=by unfold qmo qdj; rw[hρ,h]; show PL.putAt ρ i (.int 1) a=_; unfold PL.putAt; rw[hρ]; rfl
theorem qnR {l:List T} (hρ:ρ[i]? =some (.ow l)) (hl:l.length<=100) (h:da ρ= .ok a):qck i da ρ= .ok (.nx (ρ.set i (.ow (l++[a])))):=by
 unfold qck qdj
 rw[hρ,h]
 show qaT ρ i [a]=_
 unfold qaT
 rw[hρ]
 dsimp only
 rw[if_pos (by simp only[List.length_cons,List.length_nil]; omega)]
end
theorem qkA {l:List T} {i:Int} (h0:0<=i) (h1:i<l.length): ∃t∈l,atI l i=some t:=by
 obtain ⟨n,rfl⟩:=Int.eq_ofNat_of_zero_le h0
 have hn:n<l.length:=by omega
 refine ⟨l[n],List.getElem_mem hn,?_⟩
 unfold atI ixN
 rw[if_pos h0,if_pos h1]
 exact List.getElem?_eq_getElem hn
theorem qgM {ns:List Int} (hn:ns.length<=63) {k m:Int} (h0:0<=k) (h1:k<1000) (hm:0<m):qic [.scr ns,.int k,.int m]= .ok (.int (qeH ns k m)):=by
 show (if (0<=k/\k<1000000)/\0<m/\ns.length<=63 then Rs.ok (T.int (qeH ns k m)) else Rs.no)=_
 rw[if_pos ⟨⟨h0,by omega⟩,hm,hn⟩]
section
variable {ns:List Int} {k:Int} {x4 x5 x6 x7 x8 x9:Sl}
abbrev rh (ns:List Int) (x4 x5 x6 x7 x8 x9:Sl):Ro:=[.fz (.scr ns),.ow odd,.fz good,.fz qo0,x4,x5,x6,x7,x8,x9]
theorem qoQ (h0:0<=k) (h1:k<4):qkH (.int 3) (.int k)= .ok (.int (3*k)):=by rw[qba,if_pos (.inl ⟨by decide,by decide⟩)]
theorem b0 (hn:ns.length<=63) (h0:0<=k) (h1:k<4): ∃r∈odd,B0 (rh ns (.fz (.int k)) x5 x6 x7 x8 x9)= .ok (.nx (rh ns (.fz (.int k)) (.fz r) x6 x7 x8 x9)):=by
 obtain ⟨r,hr,e⟩:=qkA (l:=odd) (i:=(qeH ns 0 10+3*k) % 10) (by omega) (by show _<((10:Nat):Int); omega)
 refine ⟨r,hr,qmH (a:=r) ?_⟩
 show (qic [.scr ns,.int 0,.int 10]>>=λx=>qkH (.int 3) (.int k)>>=λy=>qfM x y)>>=(λz=>qhS z (.int 10))>>=(λi=>ixQ (true,odd) i)=_
 rw[qgM hn (by decide) (by decide) (by decide),qoQ h0 h1]
 show (match atI odd ((qeH ns 0 10+3*k) % 10) with | some t=>Rs.ok t | none=>.no)=_
 rw[e]
theorem b1 (hn:ns.length<=63) (h0:0<=k) (h1:k<4): ∃r∈qnl,B1 (rh ns (.fz (.int k)) x5 x6 x7 x8 x9)= .ok (.nx (rh ns (.fz (.int k)) x5 (.fz r) x7 x8 x9)):=by
 obtain ⟨r,hr,e⟩:=qkA (l:=qnl) (i:=(qeH ns 1 6+k) % 6) (by omega) (by show _<((6:Nat):Int); omega)
 refine ⟨r,hr,qmH (a:=r) ?_⟩
 show (qic [.scr ns,.int 1,.int 6]>>=λx=>qfM x (.int k))>>=(λz=>qhS z (.int 6))>>=(λi=>gIx (.lst qnl) i)=_
 rw[qgM hn (by decide) (by decide) (by decide)]
 show (match atI qnl ((qeH ns 1 6+k) % 6) with | some t=>Rs.ok t | none=>.no)=_
 rw[e]
theorem b2 (hn:ns.length<=63) (h0:0<=k) (h1:k<4): ∃r∈qm8,B2 (rh ns (.fz (.int k)) x5 x6 x7 x8 x9)= .ok (.nx (rh ns (.fz (.int k)) x5 x6 (.fz r) x8 x9)):=by
 obtain ⟨r,hr,e⟩:=qkA (l:=qm8) (i:=(qeH ns 2 6+k) % 6) (by omega) (by show _<((6:Nat):Int); omega)
 refine ⟨r,hr,qmH (a:=r) ?_⟩
 show (qic [.scr ns,.int 2,.int 6]>>=λx=>qfM x (.int k))>>=(λz=>qhS z (.int 6))>>=(λi=>gIx (.lst qm8) i)=_
 rw[qgM hn (by decide) (by decide) (by decide)]
 show (match atI qm8 ((qeH ns 2 6+k) % 6) with | some t=>Rs.ok t | none=>.no)=_
 rw[e]
abbrev nr:T:=.str "no row"
abbrev tl:T:=.str "too late"
theorem qnG (hn:ns.length<=63) (h0:0<=k) (h1:k<4): ∃y5 y6 y7 y8 y9,BB (rh ns (.fz (.int k)) x5 x6 x7 x8 x9)= .ok (.nx (rh ns (.fz (.int k)) y5 y6 y7 y8 y9)):=by
 obtain ⟨r,hr,e0⟩:=b0 (x5:=x5) (x6:=x6) (x7:=x7) (x8:=x8) (x9:=x9) hn h0 h1
 obtain ⟨g,hg,e1⟩:=b1 (x5:=.fz r) (x6:=x6) (x7:=x7) (x8:=x8) (x9:=x9) hn h0 h1
 obtain ⟨m,hm,e2⟩:=b2 (x5:=.fz r) (x6:=.fz g) (x7:=x7) (x8:=x8) (x9:=x9) hn h0 h1
 have hb:=qi2 r hr
 have hl:=qoU hb
 have ll:=qoV qcS qcV
 refine ⟨.fz r,.fz g,.fz m,.fz (bad r),.ow [tl,tl,tl,tl,tl],?_⟩
 refine qbf e0 (qbf e1 (qbf e2 (qbf (ρ':=rh ns (.fz (.int k)) (.fz r) (.fz g) (.fz m) (.fz (bad r)) x9) rfl ?_)))
 refine qbf (qpd (qpO (tbb (bin (qkQ (g:=g) (m:=m) hr) rfl rfl)) (tbb (bin (qiL (g:=g) (m:=m)) rfl rfl))) rfl) ?_
 refine qbf (qlW (qrY (qbJ (qrV (m:=.str "a") hl) qgC))) ?_
 refine qbf (qrT rfl (qbJ (qr0 (m:=.str "a") hl) qgC)) ?_
 refine qbf (qnR rfl (by decide) (qbJ (qpR (qn3 hb)) qgC)) ?_
 refine qbf (qnR rfl (by decide) (qbJ (qpR (qn2 qcr hb)) qgC)) ?_
 refine qbf (qnR rfl (by decide) (qbJ (qpH (m:=.int 5) (qn2 qcr hb)) qgC)) ?_
 refine qbf (qpd (tbb rfl) rfl) ?_
 show qaA B11 (qaA B12 (qaA B13 (qaA B14 (qaA B15 B16)))) (rh ns (.fz (.int k)) (.fz r) (.fz g) (.fz m) (.fz (bad r)) (.ow [nr,nr,nr,nr,nr]))=_
 refine qbf (qlW (qrY (qbJ (qrV (m:=.str "a") ll) qeL))) ?_
 refine qbf (qrT rfl (qbJ (qr0 (m:=.str "a") ll) qeL)) ?_
 refine qbf (qnR rfl (by decide) (qbJ (qpR (qn1 qcS qcr qcV)) qeL)) ?_
 refine qbf (qnR rfl (by decide) (qbJ (qpR (qn0 qcr qcS qdY qcV)) qeL)) ?_
 refine qbf (qnR rfl (by decide) (qbJ (qpH (m:=.int 5) (qn0 qcr qcS qdY qcV)) qeL)) ?_
 exact qpd (qpO (tbb rfl) (tbb (bin (qiM hg hm) rfl rfl))) rfl
theorem qjA (hn:ns.length<=63): ∀(ks:List Int) (x4 x5 x6 x7 x8 x9:Sl),(∀k∈ks,0<=k/\k<4)->∃y4 y5 y6 y7 y8 y9,qno (gN 4) BB (ks.map T.int) (rh ns x4 x5 x6 x7 x8 x9)= .ok (.nx (rh ns y4 y5 y6 y7 y8 y9))
 | [],x4,x5,x6,x7,x8,x9,_=>⟨x4,x5,x6,x7,x8,x9,rfl⟩
 | k::ks,x4,x5,x6,x7,x8,x9,h=>by
  obtain ⟨y5,y6,y7,y8,y9,e⟩:=qnG (x5:=x5) (x6:=x6) (x7:=x7) (x8:=x8) (x9:=x9) hn (h k List.mem_cons_self).1 (h k List.mem_cons_self).2
  obtain ⟨z4,z5,z6,z7,z8,z9,e2⟩:=qjA hn ks (.fz (.int k)) y5 y6 y7 y8 y9 λj hj=>h j (List.mem_cons_of_mem _ hj)
  refine ⟨z4,z5,z6,z7,z8,z9,?_⟩
  rw[List.map_cons,qno]
  show (BB (rh ns (.fz (.int k)) x5 x6 x7 x8 x9)>>=λo=>qn4 o (qno (gN 4) BB (ks.map T.int)))=_
  rw[e]
  exact e2
end
theorem we4:qfQ [good,.int 4]= .ex "NoNumber" :=by kernel_rfl
theorem we5:qfQ [good,.int 5]= .ok (.lst [.tup [.str "a",.int 2],.tup [.str "b",.int 0]]):=by kernel_rfl
theorem qs7:qgE [qo0,.lst [.non]]= .ex "NoRow" :=by kernel_rfl
theorem qrH:qhp [good,.int 999]= .ok (.lst [.tup [.str "a",.int 1],.tup [.str "b",.int (-2)]]):=by kernel_rfl
theorem st0:qeF [good,.int 0]= .ok (.lst [.tup [.str "a",.int 3,.int 3,.int 1,.int 1],.tup [.str "b",.int 5,.int 5,.int 1,.int (-2)]]):=by kernel_rfl
theorem law_true {ns:List Int} (hn:ns.length<=63):t_law [.scr ns]= .ok (.bl true):=by
 show (qkl [.fz (.scr ns),.no,.no,.no,.no,.no,.no,.no,.no,.no]>>=outT)=_
 rw[qoZ]
 obtain ⟨y4,y5,y6,y7,y8,y9,e⟩:=qjA hn [0,1,2,3] .no .no .no .no .no .no (by decide)
 have h:qaA S0 (qaA S1 (qaA S2 (qaA S3 (qaA S4 (qaA S5 S6))))) [.fz (.scr ns),.no,.no,.no,.no,.no,.no,.no,.no,.no]= .ok (.rt (.bl true)):=by
  refine qbf rfl (qbf rfl (qbf (ρ':=rh ns .no .no .no .no .no .no) rfl (qbf (ρ':=rh ns y4 y5 y6 y7 y8 y9) ?_ ?_)))
  ·exact e
  ·refine qbf (qpd (qpO (tbb (bin (qbJ (by exact we4) qnX) rfl rfl)) (tbb (bin we5 rfl rfl))) rfl) ?_
   refine qbf (qpd (qpO (tbb (bin (qbJ (by exact qs7) qgC) rfl rfl)) (tbb (bin qrH rfl rfl))) rfl) ?_
   show (qeF [good,.int 0]>>=λx=>_>>=λy=>gEq x y)>>=_=_
   rw[st0]
   rfl
 rw[h]
 rfl
end K85
end
section
namespace K85
open PySem L2 PL SetL HD
end K85
end
section
namespace K85
open PySem L2 PL SetL HD
section
variable {P:Program} {w:World} {K:PySem.W.Frag} {mg:Str->Option Value} {base:Heap} {G:Gam} {C:Str->Addr}
theorem qrg {f c T_18 T_28 T_12 T_law:Addr} {oc kV doc pm cdv ct:Value} {od an:Option Addr} {osl:Array (Option Value)}
  (lk:K.lookup f=some ⟨oc,od,.func (PySem.W.fnOf "_law_all_told" "_law_all_told" (qaz qhu) (qav qhu) (qad qhu) .none kV doc pm an cdv ct),osl⟩) (hcd:PySem.W.codeIn K cdv "_law_all_told" =true) (hc:cdv= .ref c)
  (nb: ∀x∈names,mg x=none) (C0:PySem.W.CodeHd base c T_12) (hb:qew mg base) (nd:([T_18,T_28,T_12,T_law]:List Addr).Nodup) (F_16:KnE P w K mg base (gL T_18 T_28 T_12 T_law) C "at_moment" ["rows", "moment"] 6 qhp) (F_23:KnE P w K mg base (gL T_18 T_28 T_12 T_law) C "going_on" ["rows", "gap", "moment"] 7 qlT) (F_28:KnE P w K mg base (gL T_18 T_28 T_12 T_law) C "longest" ["rows", "gap"] 7 qlS) (F_18:KnE P w K mg base (gL T_18 T_28 T_12 T_law) C "stretches" ["rows", "gap"] 6 qeF) (F_17:KnE P w K mg base (gL T_18 T_28 T_12 T_law) C "unlike_at" ["one", "other", "moment"] 6 qgF) (F_27:KnE P w K mg base (gL T_18 T_28 T_12 T_law) C "weighed" ["rows", "end"] 7 qfQ) (TK:qkD P w K mg base C qol qbT):
  qbI P w K mg base (CXE P w) 11 f (PySem.W.fnOf "_law_all_told" "_law_all_told" (qaz qhu) (qav qhu) (qad qhu) .none kV doc pm an cdv ct) ["_law_rows", "_law_gap", "_law_moment"] (spP K (gL T_18 T_28 T_12 T_law) C qid):=by
 refine qiv lk hcd qoi (λvs H Q E h=>qd4 h) (λA outer s H vs Q E hr h=> ?_)
 refine ⟨_,qaj (M:=⟨K,(gL T_18 T_28 T_12 T_law),E,C,0⟩) (qdE (i:=3) qoi.nd rfl (by trivial) (qa8 (qab (qa6 (k:=6) (fr:=[("_law_rows",0),("_law_gap",1)]) TK rfl rfl hc C0 hb (show ("_law_all_told" :Str)++ ".<locals>." ++ "<lambda>" =qcI by decide+kernel) (λ_=>rfl) rfl rfl rfl (by decide+kernel) (RH.fr_ok (sd:=qad qhu) rfl (by decide+kernel)) (λp hp=>by simp only[List.mem_cons,List.not_mem_nil,or_false] at hp; rcases hp with rfl | rfl<;>exact ⟨rfl,rfl⟩) rfl (λ_ _ _ _=>rfl) (hr.mono (by decide)) (qaK (by simp)) (qaL (by simp) nd) (λA outer s H f c E hr=>qai qbK F_18 rfl (hr.mono (by decide)) rfl (qab (qaa (pv 0)) (qab (qaa (pv 1)) (qaf))))) (qaf)))) (qaj (qa4 (qcY PySem.F.plainAttrs_list PySem.F.slot_list_append PySem.F.type_list_append qaU (pv 3) (qag (qa6 (k:=7) (fr:=[("_law_rows",0),("_law_gap",1)]) TK rfl rfl hc C0 hb (show ("_law_all_told" :Str)++ ".<locals>." ++ "<lambda>" =qcI by decide+kernel) (λ_=>rfl) rfl rfl rfl (by decide+kernel) (RH.fr_ok (sd:=qad qhu) rfl (by decide+kernel)) (λp hp=>by simp only[List.mem_cons,List.not_mem_nil,or_false] at hp; rcases hp with rfl | rfl<;>exact ⟨rfl,rfl⟩) rfl (λ_ _ _ _=>rfl) (hr.mono (by decide)) (qaK (by simp)) (qaL (by simp) nd) (λA outer s H f c E hr=>qai qbK F_23 rfl (hr.mono (by decide)) rfl (qab (qaa (pv 0)) (qab (qaa (pv 1)) (qab (qah) (qaf)))))) qar))) (qaj (qa4 (qcY PySem.F.plainAttrs_list PySem.F.slot_list_append PySem.F.type_list_append qaU (pv 3) (qag (qa6 (k:=7) (fr:=[("_law_rows",0),("_law_gap",1)]) TK rfl rfl hc C0 hb (show ("_law_all_told" :Str)++ ".<locals>." ++ "<lambda>" =qcI by decide+kernel) (λ_=>rfl) rfl rfl rfl (by decide+kernel) (RH.fr_ok (sd:=qad qhu) rfl (by decide+kernel)) (λp hp=>by simp only[List.mem_cons,List.not_mem_nil,or_false] at hp; rcases hp with rfl | rfl<;>exact ⟨rfl,rfl⟩) rfl (λ_ _ _ _=>rfl) (hr.mono (by decide)) (qaK (by simp)) (qaL (by simp) nd) (λA outer s H f c E hr=>qai qbK F_28 rfl (hr.mono (by decide)) rfl (qab (qaa (pv 0)) (qab (qaa (pv 1)) (qaf))))) qar))) (qaj (qa4 (qcY PySem.F.plainAttrs_list PySem.F.slot_list_append PySem.F.type_list_append qaU (pv 3) (qag (qa6 (k:=6) (fr:=[("_law_rows",0),("_law_moment",2)]) TK rfl rfl hc C0 hb (show ("_law_all_told" :Str)++ ".<locals>." ++ "<lambda>" =qcI by decide+kernel) (λ_=>rfl) rfl rfl rfl (by decide+kernel) (RH.fr_ok (sd:=qad qhu) rfl (by decide+kernel)) (λp hp=>by simp only[List.mem_cons,List.not_mem_nil,or_false] at hp; rcases hp with rfl | rfl<;>exact ⟨rfl,rfl⟩) rfl (λ_ _ _ _=>rfl) (hr.mono (by decide)) (qaK (by simp)) (qaL (by simp) nd) (λA outer s H f c E hr=>qai qbK F_16 rfl (hr.mono (by decide)) rfl (qab (qaa (pv 0)) (qab (qaa (pv 1)) (qaf))))) qar))) (qaj (qa4 (qcY PySem.F.plainAttrs_list PySem.F.slot_list_append PySem.F.type_list_append qaU (pv 3) (qag (qa6 (k:=7) (fr:=[("_law_rows",0),("_law_moment",2)]) TK rfl rfl hc C0 hb (show ("_law_all_told" :Str)++ ".<locals>." ++ "<lambda>" =qcI by decide+kernel) (λ_=>rfl) rfl rfl rfl (by decide+kernel) (RH.fr_ok (sd:=qad qhu) rfl (by decide+kernel)) (λp hp=>by simp only[List.mem_cons,List.not_mem_nil,or_false] at hp; rcases hp with rfl | rfl<;>exact ⟨rfl,rfl⟩) rfl (λ_ _ _ _=>rfl) (hr.mono (by decide)) (qaK (by simp)) (qaL (by simp) nd) (λA outer s H f c E hr=>qai qbK F_27 rfl (hr.mono (by decide)) rfl (qab (qaa (pv 0)) (qab (qaa (pv 1)) (qaf))))) qar))) (qaj (qa4 (qcY PySem.F.plainAttrs_list PySem.F.slot_list_append PySem.F.type_list_append qaU (pv 3) (qag (qa6 (k:=6) (fr:=[("_law_rows",0),("_law_moment",2)]) TK rfl rfl hc C0 hb (show ("_law_all_told" :Str)++ ".<locals>." ++ "<lambda>" =qcI by decide+kernel) (λ_=>rfl) rfl rfl rfl (by decide+kernel) (RH.fr_ok (sd:=qad qhu) rfl (by decide+kernel)) (λp hp=>by simp only[List.mem_cons,List.not_mem_nil,or_false] at hp; rcases hp with rfl | rfl<;>exact ⟨rfl,rfl⟩) rfl (λ_ _ _ _=>rfl) (hr.mono (by decide)) (qaK (by simp)) (qaL (by simp) nd) (λA outer s H f c E hr=>qai qbK F_17 rfl (hr.mono (by decide)) rfl (qab (qaa (pv 0)) (qab (qat (qa8 (qaf))) (qab (qaa (pv 1)) (qaf)))))) qar))) (qan (qmk 3 (qaJ (qaa (pv 3)))))))))),?_⟩
 exact qdp (n:=3) (N:=["_law_rows", "_law_gap", "_law_moment", "_law_told_here"]) (by decide) h
theorem qrh {f:Addr} {fd:FuncData} (F:Fun K "is_whole_within" "is_whole_within" qqJ f fd) (nb: ∀x∈names,mg x=none) (F_22:KnE P w K mg base G C "is_whole" ["thing"] 1 qp5):qbI P w K mg base (CXE P w) 2 f fd ["thing", "least", "greatest"] (spP K G C qnO):=
 qa3 F qqu λcdv A outer s H E hr=>qan (qaJ (qmn (qai qaN F_22 rfl (hr.mono (by decide)) rfl (qab (qaa (pv 0)) (qaf))) (qmm (qhZ qb1 qb1 qd6 qeb qd6 qeb (qaa (pv 1)) (qaa (pv 0)) (qaa (pv 2))))))
end
end K85
end
section
namespace K85
open PySem L2 PL SetL HD
section
variable {P:Program} {w:World} {K:PySem.W.Frag} {mg:Str->Option Value} {base:Heap} {G:Gam} {C:Str->Addr}
theorem qrd {f c T_18 T_28 T_12 T_law:Addr} {oc kV doc pm cdv ct:Value} {od an:Option Addr} {osl:Array (Option Value)}
  (lk:K.lookup f=some ⟨oc,od,.func (PySem.W.fnOf "stretches" "stretches" (qaz qlZ) (qav qlZ) (qad qlZ) .none kV doc pm an cdv ct),osl⟩) (hcd:PySem.W.codeIn K cdv "stretches" =true) (hc:cdv= .ref c)
  (nb: ∀x∈names,mg x=none) (C0:PySem.W.CodeHd base c T_18) (hb:qew mg base) (nd:([T_18,T_28,T_12,T_law]:List Addr).Nodup) {u_13:Value} (cm_13:mg "GREATEST_GAP" =some u_13) (cr_13:RelV (.int 99) u_13) (F_25:KnE P w K mg base (gL T_18 T_28 T_12 T_law) C "keys_of" ["rows"] 1 qn6) (F_32:KnE P w K mg base (gL T_18 T_28 T_12 T_law) C "of_key" ["rows", "key"] 1 qmA) (F_4:KnE P w K mg base (gL T_18 T_28 T_12 T_law) C "refuse_number_beyond" ["thing", "greatest"] 3 t_4) (F_3:KnE P w K mg base (gL T_18 T_28 T_12 T_law) C "refuse_what_is_no_log" ["rows"] 5 t_3) (F_5:KnE P w K mg base (gL T_18 T_28 T_12 T_law) C "stretches_of_one_key" ["rows", "gap"] 2 t_5):
  qbI P w K mg base (CXE P w) 6 f (PySem.W.fnOf "stretches" "stretches" (qaz qlZ) (qav qlZ) (qad qlZ) .none kV doc pm an cdv ct) ["rows", "gap"] (spP K (gL T_18 T_28 T_12 T_law) C qeF):=by
 refine qiv lk hcd qmJ (λvs H Q E h=>qd4 h) (λA outer s H vs Q E hr h=> ?_)
 refine ⟨_,qaj (M:=⟨K,(gL T_18 T_28 T_12 T_law),E,C,0⟩) (qa5 (qai qaN F_3 rfl (hr.mono (by decide)) rfl (qab (qaa (pv 0)) (qaf)))) (qaj (qa5 (qai qaN F_4 rfl (hr.mono (by decide)) rfl (qab (qaa (pv 1)) (qab (qcj (qbr rfl cm_13 cr_13) (λ_=>qbL)) (qaf))))) (qaj (qdE (i:=2) qmJ.nd rfl (by trivial) (qa8 (qaf))) (qaj (qgh PassesOwn.leaving rfl (qcf (qai qaN F_25 rfl (hr.mono (by decide)) rfl (qab (qaa (pv 0)) (qaf)))) (qbV (qaD (i:=3) qmJ.nd rfl (by trivial))) (qan (qgi (qcY PySem.F.plainAttrs_list PySem.F.slot_list_extend PySem.F.type_list_extend qf6 (pv 2) (qag (qpk (qai qaN F_5 rfl (hr.mono (by decide)) rfl (qab (qai qaN F_32 rfl (hr.mono (by decide)) rfl (qab (qaa (pv 0)) (qab (qaa (pv 3)) (qaf)))) (qab (qaa (pv 1)) (qaf))))) qar))))) (qan (qaJ (qat (qkd (P:=T_18) (qual:=qd9) (i:=1) (j:=0) (qbt (pv 2)) rfl (nb "sorted" (by decide)) PyProof.Rows.boot_sorted hc C0 hb (by decide+kernel) rfl (show ("stretches" :Str)++ ".<locals>." ++ "<lambda>" =qd9 by decide+kernel) rfl rfl rfl rfl (by decide+kernel) (by decide) (λpm cv ctv v=>rfl) (hr.mono (by decide)) (qjY (by simp)) (qgb (by simp) nd)))))))),?_⟩
 exact qdp (n:=2) (N:=["rows", "gap", "told", "key"]) (by decide) h
theorem qrb {f:Addr} {fd:FuncData} (F:Fun K "going_on" "going_on" qpL f fd) (nb: ∀x∈names,mg x=none) (F_18:KnE P w K mg base G C "stretches" ["rows", "gap"] 6 qeF):qbI P w K mg base (CXE P w) 7 f fd ["rows", "gap", "moment"] (spP K G C qlT):=
 qa3 F qqr λcdv A outer s H E hr=>qan (qaJ (qat (qkc (qay qgu rfl (nb "sorted" (by decide)) boot_sorted (qag (qa1 (qbP (own:=["stretch"]) (fr:=[("moment",2),("gap",1)]) rfl (qcf (qai qaN F_18 rfl (hr.mono (by decide)) rfl (qab (qaa (pv 0)) (qab (qaa (pv 1)) (qaf))))) (qcL) rfl (by decide+kernel) (by decide+kernel) (RH.fr_ok (sd:=qad qpL) rfl (by decide+kernel)) (λp hp=>by simp only[List.mem_cons,List.not_mem_nil,or_false] at hp; rcases hp with rfl | rfl<;>exact ⟨rfl,rfl⟩) (λfp s3 H3=>⟨qbV (qaD (i:=0) (show (["stretch", "moment", "gap"]:List Str).Nodup by decide+kernel) rfl (by trivial)),qjg (qhX qb1 qb1 qd6 qeb qd6 qeb (qbH qaP qbz qbA (qaa (pv 0)) (qah) (λ_ _=>rfl)) (qaa (pv 1)) (qb3 qc9 qd7 qec (qbH qaP qbz qbA (qaa (pv 0)) (qah) (λ_ _=>rfl)) (qaa (pv 2)))),qbH qaP qbz qbA (qaa (pv 0)) (qah) (λ_ _=>rfl)⟩))) qar)))))
theorem qsI {f:Addr} {fd:FuncData} (F:Fun K "refuse_what_is_no_row" "refuse_what_is_no_row" s_2 f fd) (nb: ∀x∈names,mg x=none) (F_30:KnE P w K mg base G C "is_row" ["thing"] 3 qp2) (X_NoRow:ExN mg base C "NoRow"):qbI P w K mg base (CXE P w) 4 f fd ["rows"] (spP K G C t_2):=
 qa3 F qsw λcdv A outer s H E hr=>qan (qdt (qdK (qdJ (qkh (qay (qfH rfl) rfl (nb "all" (by decide)) qfI (qag (qa1 (qbP (own:=["row"]) (fr:=[]) rfl (qcf (qaa (pv 0))) (qcL) rfl (by decide+kernel) (by decide+kernel) (λy hy e=>absurd e ((by decide+kernel: ∀y∈_,y.2≠NameKind.free) y hy)) (λp hp=>nomatch hp) (λfp s3 H3=>⟨qbV (qaD (i:=0) (show (["row"]:List Str).Nodup by decide+kernel) rfl (by trivial)),qbB,qai qlc F_30 rfl (hr.mono (by decide)) rfl (qab (qaa (pv 0)) (qaf))⟩))) qar))))) (qan (qfB X_NoRow rfl)) (qbO))
theorem qsJ {f:Addr} {fd:FuncData} (F:Fun K "refuse_what_is_no_moment" "refuse_what_is_no_moment" s_1 f fd) (nb: ∀x∈names,mg x=none) {u_11:Value} (cm_11:mg "LATEST_MOMENT" =some u_11) (cr_11:RelV (.int 999) u_11) (F_4:KnE P w K mg base G C "refuse_number_beyond" ["thing", "greatest"] 3 t_4):qbI P w K mg base (CXE P w) 4 f fd ["thing"] (spP K G C t_1):=
 qa3 F qsx λcdv A outer s H E hr=>qan (qa5 (qai qaN F_4 rfl (hr.mono (by decide)) rfl (qab (qaa (pv 0)) (qab (qcj (qbr rfl cm_11 cr_11) (λ_=>qbL)) (qaf)))))
theorem qq5 {f:Addr} {fd:FuncData} (F:Fun K "is_key" "is_key" qqA f fd) (nb: ∀x∈names,mg x=none) {u_14:Value} (cm_14:mg "LONGEST_KEY" =some u_14) (cr_14:RelV (.int 2) u_14) (F_24:KnE P w K mg base G C "is_word" ["thing", "longest"] 1 qp4):qbI P w K mg base (CXE P w) 2 f fd ["thing"] (spP K G C qp3):=
 qa3 F qqm λcdv A outer s H E hr=>qan (qaJ (qai qaN F_24 rfl (hr.mono (by decide)) rfl (qab (qaa (pv 0)) (qab (qcj (qbr rfl cm_14 cr_14) (λ_=>qbL)) (qaf)))))
end
end K85
end
section
namespace K85
open PySem L2 PL SetL HD
section
variable {P:Program} {w:World} {K:PySem.W.Frag} {mg:Str->Option Value} {base:Heap} {G:Gam} {C:Str->Addr}
theorem qq7 {f:Addr} {fd:FuncData} (F:Fun K "weighed" "weighed" qok f fd) (nb: ∀x∈names,mg x=none) (F_26:KnE P w K mg base G C "history" ["rows", "key"] 6 qkF) (F_25:KnE P w K mg base G C "keys_of" ["rows"] 1 qn6) (F_3:KnE P w K mg base G C "refuse_what_is_no_log" ["rows"] 5 t_3) (F_1:KnE P w K mg base G C "refuse_what_is_no_moment" ["thing"] 4 t_1) (F_33:KnE P w K mg base G C "weight" ["numbers", "end"] 1 qp0) (X_NoNumber:ExN mg base C "NoNumber"):qbI P w K mg base (CXE P w) 7 f fd ["rows", "end"] (spP K G C qfQ):=
 qa3 F qqo λcdv A outer s H E hr=>qaj (qa5 (qai qaN F_3 rfl (hr.mono (by decide)) rfl (qab (qaa (pv 0)) (qaf)))) (qaj (qa5 (qai qaN F_1 rfl (hr.mono (by decide)) rfl (qab (qaa (pv 1)) (qaf)))) (qaj (qdt (qdJ (qpu (qay (qlG rfl) rfl (nb "any" (by decide)) qkv (qag (qa1 (qbP (own:=["row"]) (fr:=[("end",1)]) rfl (qcf (qaa (pv 0))) (qcL) rfl (by decide+kernel) (by decide+kernel) (RH.fr_ok (sd:=qad qok) rfl (by decide+kernel)) (by trivial) (λfp s3 H3=>⟨qbV (qaD (i:=0) (show (["row", "end"]:List Str).Nodup by decide+kernel) rfl (by trivial)),qbB,qkg qoN qon qoA (qbH qaP qbz qbA (qaa (pv 0)) (qah) (λ_ _=>rfl)) (qaa (pv 1))⟩))) qar)))) (qan (qfB X_NoNumber rfl)) (qbO)) (qan (qaJ (qat (qbP (own:=["key"]) (fr:=[("rows",0),("end",1)]) rfl (qcf (qai qaN F_25 rfl (hr.mono (by decide)) rfl (qab (qaa (pv 0)) (qaf)))) (qcL) rfl (by decide+kernel) (by decide+kernel) (RH.fr_ok (sd:=qad qok) rfl (by decide+kernel)) (λp hp=>by simp only[List.mem_cons,List.not_mem_nil,or_false] at hp; rcases hp with rfl | rfl<;>exact ⟨rfl,rfl⟩) (λfp s3 H3=>⟨qbV (qaD (i:=0) (show (["key", "rows", "end"]:List Str).Nodup by decide+kernel) rfl (by trivial)),qbB,qaV (qab (qaa (pv 0)) (qab (qai qlc F_33 rfl (hr.mono (by decide)) rfl (qab (qai qlc F_26 rfl (hr.mono (by decide)) rfl (qab (qaa (pv 1)) (qab (qaa (pv 0)) (qaf)))) (qab (qaa (pv 2)) (qaf)))) (qaf)))⟩)))))))
theorem qq0 {f:Addr} {fd:FuncData} (F:Fun K "beside" "beside" qpJ f fd) (nb: ∀x∈names,mg x=none) (F_7:KnE P w K mg base G C "numbers_standing" ["rows", "moment"] 1 t_7) (F_0:KnE P w K mg base G C "refuse_what_are_no_two_logs" ["one", "other"] 5 t_0):qbI P w K mg base (CXE P w) 6 f fd ["one", "other"] (spP K G C qgE):=
 qa3 F qqi λcdv A outer s H E hr=>qaj (qa5 (qai qaN F_0 rfl (hr.mono (by decide)) rfl (qab (qaa (pv 0)) (qab (qaa (pv 1)) (qaf))))) (qan (qaJ (qat (qbP (own:=["row"]) (fr:=[("other",1)]) rfl (qcf (qaa (pv 0))) (qcL) rfl (by decide+kernel) (by decide+kernel) (RH.fr_ok (sd:=qad qpJ) rfl (by decide+kernel)) (by trivial) (λfp s3 H3=>⟨qbV (qaD (i:=0) (show (["row", "other"]:List Str).Nodup by decide+kernel) rfl (by trivial)),qbB,qb3 qc9 qd7 qec (qaa (pv 0)) (qaV (qab (qfE (hu1 hr) (qpv (qai qlc F_7 rfl (hr.mono (by decide)) rfl (qab (qaa (pv 1)) (qab (qbH qaP qbz qbA (qaa (pv 0)) (qah) (λ_ _=>rfl)) (qaf))))) (qbH qaP qbz qbA (qaa (pv 0)) (qah) (λ_ _=>rfl)) ⟨rfl,rfl,rfl,rfl⟩) (qaf)))⟩)))))
theorem qsK {f:Addr} {fd:FuncData} (F:Fun K "refuse_what_are_no_two_logs" "refuse_what_are_no_two_logs" s_0 f fd) (nb: ∀x∈names,mg x=none) (F_6:KnE P w K mg base G C "refuse_out_of_order" ["rows"] 2 t_6) (F_2:KnE P w K mg base G C "refuse_what_is_no_row" ["rows"] 4 t_2):qbI P w K mg base (CXE P w) 5 f fd ["one", "other"] (spP K G C t_0):=
 qa3 F qsy λcdv A outer s H E hr=>qaj (qa5 (qai qaN F_2 rfl (hr.mono (by decide)) rfl (qab (qaa (pv 0)) (qaf)))) (qaj (qa5 (qai qaN F_2 rfl (hr.mono (by decide)) rfl (qab (qaa (pv 1)) (qaf)))) (qaj (qa5 (qai qaN F_6 rfl (hr.mono (by decide)) rfl (qab (qaa (pv 0)) (qaf)))) (qan (qa5 (qai qaN F_6 rfl (hr.mono (by decide)) rfl (qab (qaa (pv 1)) (qaf)))))))
theorem qrf {f:Addr} {fd:FuncData} (F:Fun K "at_moment" "at_moment" qqH f fd) (nb: ∀x∈names,mg x=none) (F_7:KnE P w K mg base G C "numbers_standing" ["rows", "moment"] 1 t_7) (F_3:KnE P w K mg base G C "refuse_what_is_no_log" ["rows"] 5 t_3) (F_1:KnE P w K mg base G C "refuse_what_is_no_moment" ["thing"] 4 t_1):qbI P w K mg base (CXE P w) 6 f fd ["rows", "moment"] (spP K G C qhp):=
 qa3 F qqt λcdv A outer s H E hr=>qaj (qa5 (qai qaN F_3 rfl (hr.mono (by decide)) rfl (qab (qaa (pv 0)) (qaf)))) (qaj (qa5 (qai qaN F_1 rfl (hr.mono (by decide)) rfl (qab (qaa (pv 1)) (qaf)))) (qan (qaJ (qat (qgl rfl rfl (nb "sorted" (by decide)) (qpv (qai qaN F_7 rfl (hr.mono (by decide)) rfl (qab (qaa (pv 0)) (qab (qaa (pv 1)) (qaf))))))))))
theorem qsG {f:Addr} {fd:FuncData} (F:Fun K "refuse_number_beyond" "refuse_number_beyond" s_4 f fd) (nb: ∀x∈names,mg x=none) (F_10:KnE P w K mg base G C "is_whole_within" ["thing", "least", "greatest"] 2 qnO) (X_NoNumber:ExN mg base C "NoNumber"):qbI P w K mg base (CXE P w) 3 f fd ["thing", "greatest"] (spP K G C t_4):=
 qa3 F qsu λcdv A outer s H E hr=>qan (qdt (qdK (qdJ (qai qaN F_10 rfl (hr.mono (by decide)) rfl (qab (qaa (pv 0)) (qab (qah) (qab (qaa (pv 1)) (qaf))))))) (qan (qj5 X_NoNumber rfl (qaa (pv 1)))) (qbO))
end
end K85
end
section
namespace K85
open PySem L2 PL SetL HD
section
variable {P:Program} {w:World} {K:PySem.W.Frag} {mg:Str->Option Value} {base:Heap} {G:Gam} {C:Str->Addr}
theorem qre {f:Addr} {fd:FuncData} (F:Fun K "unlike_at" "unlike_at" qpM f fd) (nb: ∀x∈names,mg x=none) (F_7:KnE P w K mg base G C "numbers_standing" ["rows", "moment"] 1 t_7) (F_0:KnE P w K mg base G C "refuse_what_are_no_two_logs" ["one", "other"] 5 t_0) (F_1:KnE P w K mg base G C "refuse_what_is_no_moment" ["thing"] 4 t_1):qbI P w K mg base (CXE P w) 6 f fd ["one", "other", "moment"] (spP K G C qgF):=
 qa3 F qmK λcdv A outer s H E hr=>qaj (qa5 (qai qaN F_0 rfl (hr.mono (by decide)) rfl (qab (qaa (pv 0)) (qab (qaa (pv 1)) (qaf))))) (qaj (qa5 (qai qaN F_1 rfl (hr.mono (by decide)) rfl (qab (qaa (pv 2)) (qaf)))) (qaj (qep (i:=3) qmK.nd rfl (by trivial) (qai qaN F_7 rfl (hr.mono (by decide)) rfl (qab (qaa (pv 0)) (qab (qaa (pv 2)) (qaf))))) (qaj (qep (i:=4) qmK.nd rfl (by trivial) (qai qaN F_7 rfl (hr.mono (by decide)) rfl (qab (qaa (pv 1)) (qab (qaa (pv 2)) (qaf))))) (qan (qaJ (qat (qbP (own:=["key"]) (fr:=[("here",3),("there",4)]) rfl (qcf (qat (qlz rfl rfl (nb "sorted" (by decide)) rfl (nb "set" (by decide)) (qcN (pv 3)) (qcN (pv 4))))) (qcL) rfl (by decide+kernel) (by decide+kernel) (RH.fr_ok (sd:=qad qpM) rfl (by decide+kernel)) (λp hp=>by simp only[List.mem_cons,List.not_mem_nil,or_false] at hp; rcases hp with rfl | rfl<;>exact ⟨rfl,rfl⟩) (λfp s3 H3=>⟨qbV (qaD (i:=0) (show (["key", "here", "there"]:List Str).Nodup by decide+kernel) rfl (by trivial)),qjg (qcp (qc4 (hu8 hr)) qfe qfm (qfE (hu1 hr) (qcN (pv 1)) (qaa (pv 0)) ⟨rfl,rfl,rfl,rfl⟩) (qfE (hu1 hr) (qcN (pv 2)) (qaa (pv 0)) ⟨rfl,rfl,rfl,rfl⟩)),qaa (pv 0)⟩))))))))
theorem qq6 {f c T_18 T_28 T_12 T_law:Addr} {oc kV doc pm cdv ct:Value} {od an:Option Addr} {osl:Array (Option Value)}
  (lk:K.lookup f=some ⟨oc,od,.func (PySem.W.fnOf "longest" "longest" (qaz qlY) (qav qlY) (qad qlY) .none kV doc pm an cdv ct),osl⟩) (hcd:PySem.W.codeIn K cdv "longest" =true) (hc:cdv= .ref c)
  (nb: ∀x∈names,mg x=none) (C0:PySem.W.CodeHd base c T_28) (hb:qew mg base) (nd:([T_18,T_28,T_12,T_law]:List Addr).Nodup) (F_18:KnE P w K mg base (gL T_18 T_28 T_12 T_law) C "stretches" ["rows", "gap"] 6 qeF):
  qbI P w K mg base (CXE P w) 7 f (PySem.W.fnOf "longest" "longest" (qaz qlY) (qav qlY) (qad qlY) .none kV doc pm an cdv ct) ["rows", "gap"] (spP K (gL T_18 T_28 T_12 T_law) C qlS):=by
 refine qiv lk hcd qqn (λvs H Q E h=>qd4 h) (λA outer s H vs Q E hr h=> ?_)
 refine ⟨_,qan (M:=⟨K,(gL T_18 T_28 T_12 T_law),E,C,0⟩) (qaJ (qnz (P:=T_28) (qual:=qd8) (i:=2) (j:=1) (qpk (qai qaN F_18 rfl (hr.mono (by decide)) rfl (qab (qaa (pv 0)) (qab (qaa (pv 1)) (qaf))))) rfl (nb "max" (by decide)) qku rfl hc C0 hb (by decide+kernel) rfl (show ("longest" :Str)++ ".<locals>." ++ "<lambda>" =qd8 by decide+kernel) rfl rfl rfl rfl (by decide+kernel) (by decide) (λpm cv ctv v=>rfl) (hr.mono (by decide)) (qjY (by simp)) (qgb (by simp) nd))),?_⟩
 exact qdp (n:=2) (N:=["rows", "gap"]) (by decide) h
theorem qra {f:Addr} {fd:FuncData} (F:Fun K "is_word" "is_word" qqD f fd) (nb: ∀x∈names,mg x=none) (kt: ∀N∈["int", "bool", "str", "tuple"],qkE K N):qbI P w K mg base (CXE P w) 1 f fd ["thing", "longest"] (spP K G C qp4):=
 qa3 F qqq λcdv A outer s H E hr=>qaj (qdt (qmi (qg6 (qdK (qdJ (qfD (qay (qcg (kt "str" (by decide))) rfl (nb "isinstance" (by decide)) PyProof.Rows.boot_isinstance (qag (qaa (pv 0)) (qag (qee (v:=.ty "str") rfl (nb "str" (by decide)) PyProof.Rows.boot_str rfl) qar)))))) (qeo (qdK (qhX qb1 qb1 qd6 qeb qd6 qeb (qah) (qke rfl (nb "len" (by decide)) (qaa (pv 0))) (qaa (pv 1))))))) (qan (qaJ (qes))) (qbO)) (qan (qaJ (qkh (qay (qfH rfl) rfl (nb "all" (by decide)) qfI (qag (qa1 (qbP (own:=["sign"]) (fr:=[]) rfl (qpm (qaa (pv 0))) (qcL) rfl (by decide+kernel) (by decide+kernel) (λy hy e=>absurd e ((by decide+kernel: ∀y∈_,y.2≠NameKind.free) y hy)) (λp hp=>nomatch hp) (λfp s3 H3=>⟨qbV (qaD (i:=0) (show (["sign"]:List Str).Nodup by decide+kernel) rfl (by trivial)),qbB,qhZ qb1 qb1 qd6 qeb qd6 qeb (qaE) (qaa (pv 0)) (qaE)⟩))) qar)))))
theorem qq2 {f:Addr} {fd:FuncData} (F:Fun K "of_key" "of_key" qpK f fd) (nb: ∀x∈names,mg x=none):qbI P w K mg base (CXE P w) 1 f fd ["rows", "key"] (spP K G C qmA):=
 qa3 F qqj λcdv A outer s H E hr=>qan (qaJ (qat (qbP (own:=["row"]) (fr:=[("key",1)]) rfl (qcf (qaa (pv 0))) (qcL) rfl (by decide+kernel) (by decide+kernel) (RH.fr_ok (sd:=qad qpK) rfl (by decide+kernel)) (by trivial) (λfp s3 H3=>⟨qbV (qaD (i:=0) (show (["row", "key"]:List Str).Nodup by decide+kernel) rfl (by trivial)),qjg (qcp (ql9 (hu8 hr)) qoo qoB (qbH qaP qbz qbA (qaa (pv 0)) (qah) (λ_ _=>rfl)) (qaa (pv 1))),qaa (pv 0)⟩))))
theorem qsH {f:Addr} {fd:FuncData} (F:Fun K "refuse_what_is_no_log" "refuse_what_is_no_log" s_3 f fd) (nb: ∀x∈names,mg x=none) (F_6:KnE P w K mg base G C "refuse_out_of_order" ["rows"] 2 t_6) (F_2:KnE P w K mg base G C "refuse_what_is_no_row" ["rows"] 4 t_2):qbI P w K mg base (CXE P w) 5 f fd ["rows"] (spP K G C t_3):=
 qa3 F qsv λcdv A outer s H E hr=>qaj (qa5 (qai qaN F_2 rfl (hr.mono (by decide)) rfl (qab (qaa (pv 0)) (qaf)))) (qan (qa5 (qai qaN F_6 rfl (hr.mono (by decide)) rfl (qab (qaa (pv 0)) (qaf)))))
end
end K85
end
section
namespace K85
open PySem L2 PL SetL HD
section
variable {P:Program} {w:World} {K:PySem.W.Frag} {mg:Str->Option Value} {base:Heap} {G:Gam} {C:Str->Addr}
theorem qq4 {f:Addr} {fd:FuncData} (F:Fun K "is_row" "is_row" qqz f fd) (nb: ∀x∈names,mg x=none) (kt: ∀N∈["int", "bool", "str", "tuple"],qkE K N) {u_8:Value} (cm_8:mg "GREATEST_MOMENT" =some u_8) (cr_8:RelV (.int 99) u_8) {u_9:Value} (cm_9:mg "GREATEST_NUMBER" =some u_9) (cr_9:RelV (.int 99) u_9) (F_29:KnE P w K mg base G C "is_key" ["thing"] 2 qp3) (F_10:KnE P w K mg base G C "is_whole_within" ["thing", "least", "greatest"] 2 qnO):qbI P w K mg base (CXE P w) 3 f fd ["thing"] (spP K G C qp2):=
 qa3 F qql λcdv A outer s H E hr=>qaj (qdt (qmi (qg6 (qdK (qdJ (qfD (qay (qcg (kt "tuple" (by decide))) rfl (nb "isinstance" (by decide)) PyProof.Rows.boot_isinstance (qag (qaa (pv 0)) (qag (qee (v:=.ty "tuple") rfl (nb "tuple" (by decide)) qiz rfl) qar)))))) (qeo (qcp (qc4 (hu8 hr)) qfe qfm (qke rfl (nb "len" (by decide)) (qaa (pv 0))) (qah))))) (qan (qaJ (qes))) (qbO)) (qaj (qdt (qmi (qg6 (qdK (qdJ (qai qaN F_10 rfl (hr.mono (by decide)) rfl (qab (qbH qaP qbz qbA (qaa (pv 0)) (qah) (λ_ _=>rfl)) (qab (qah) (qab (qcj (qbr rfl cm_8 cr_8) (λ_=>qbL)) (qaf))))))) (qeo (qdK (qdJ (qai qaN F_29 rfl (hr.mono (by decide)) rfl (qab (qbH qaP qbz qbA (qaa (pv 0)) (qah) (λ_ _=>rfl)) (qaf)))))))) (qan (qaJ (qes))) (qbO)) (qan (qaJ (qai qaN F_10 rfl (hr.mono (by decide)) rfl (qab (qbH qaP qbz qbA (qaa (pv 0)) (qah) (λ_ _=>rfl)) (qab (qcv (qcj (qbr rfl cm_9 cr_9) (λ_=>qbL))) (qab (qcj (qbr rfl cm_9 cr_9) (λ_=>qbL)) (qaf))))))))
theorem qq1 {f:Addr} {fd:FuncData} (F:Fun K "weight" "weight" qqx f fd) (nb: ∀x∈names,mg x=none):qbI P w K mg base (CXE P w) 1 f fd ["numbers", "end"] (spP K G C qp0):=
 qa3 F qoh λcdv A outer s H E hr=>qaj (qep (i:=2) qoh.nd rfl (by trivial) (qat (qpo (qa1 (qbP (own:=["later"]) (fr:=[]) rfl (qcf (qat (qfC (qbt (pv 0)) (qg9 (qah)) (qha)))) (qcL) rfl (by decide+kernel) (by decide+kernel) (λy hy e=>absurd e ((by decide+kernel: ∀y∈_,y.2≠NameKind.free) y hy)) (λp hp=>nomatch hp) (λfp s3 H3=>⟨qbV (qaD (i:=0) (show (["later"]:List Str).Nodup by decide+kernel) rfl (by trivial)),qbB,qbH qaP qbz qbA (qaa (pv 0)) (qah) (λ_ _=>rfl)⟩))) (qa1 (qa8 (qab (qaa (pv 1)) (qaf))))))) (qan (qaJ (qpr (qay (qks rfl) rfl (nb "sum" (by decide)) qkt (qag (qa1 (qbP (own:=["stands", "until"]) (fr:=[]) rfl (qka rfl (nb "zip" (by decide)) (qab (qaa (pv 0)) (qab (qaa (pv 2)) (qaf)))) (qnk (qeV (qcL) (qeV (qcL) (qjV)))) rfl (by decide+kernel) (by decide+kernel) (λy hy e=>absurd e ((by decide+kernel: ∀y∈_,y.2≠NameKind.free) y hy)) (λp hp=>nomatch hp) (λfp s3 H3=>⟨qgk rfl (qbG (qbV (qaD (i:=0) (show (["stands", "until"]:List Str).Nodup by decide+kernel) rfl (by trivial))) (qbG (qbV (qaD (i:=1) (show (["stands", "until"]:List Str).Nodup by decide+kernel) rfl (by trivial))) (qeq))),qbB,qb3 qeR ql0 ql8 (qbH qaP qbz qbA (qaa (pv 0)) (qah) (λ_ _=>rfl)) (qb3 qjo qiZ qje (qaa (pv 1)) (qbH qaP qbz qbA (qaa (pv 0)) (qah) (λ_ _=>rfl)))⟩))) qar)))))
theorem qq8 {f:Addr} {fd:FuncData} (F:Fun K "history" "history" qqB f fd) (nb: ∀x∈names,mg x=none) (F_32:KnE P w K mg base G C "of_key" ["rows", "key"] 1 qmA) (F_3:KnE P w K mg base G C "refuse_what_is_no_log" ["rows"] 5 t_3):qbI P w K mg base (CXE P w) 6 f fd ["rows", "key"] (spP K G C qkF):=
 qa3 F qmI λcdv A outer s H E hr=>qaj (qa5 (qai qaN F_3 rfl (hr.mono (by decide)) rfl (qab (qaa (pv 0)) (qaf)))) (qaj (qj7 (i:=2) qmI.nd rfl (by trivial)) (qaj (qgh PassesOwn.leaving rfl (qcf (qai qaN F_32 rfl (hr.mono (by decide)) rfl (qab (qaa (pv 0)) (qab (qaa (pv 1)) (qaf))))) (qbV (qaD (i:=3) qmI.nd rfl (by trivial))) (qan (qj8 (hu1 hr) (pv 2) (qbH qaP qbz qbA (qaa (pv 3)) (qah) (λ_ _=>rfl)) (qbH qaP qbz qbA (qaa (pv 3)) (qah) (λ_ _=>rfl))))) (qan (qaJ (qat (qgl rfl rfl (nb "sorted" (by decide)) (qcN (pv 2))))))))
theorem qsD {f:Addr} {fd:FuncData} (F:Fun K "numbers_standing" "numbers_standing" s_7 f fd) (nb: ∀x∈names,mg x=none):qbI P w K mg base (CXE P w) 1 f fd ["rows", "moment"] (spP K G C t_7):=
 qa3 F qqg λcdv A outer s H E hr=>qaj (qj7 (i:=2) qqg.nd rfl (by trivial)) (qaj (qgh PassesOwn.leaving rfl (qcf (qaa (pv 0))) (qbV (qaD (i:=3) qqg.nd rfl (by trivial))) (qan (qdt (qcp qb1 qd6 qeb (qbH qaP qbz qbA (qaa (pv 3)) (qah) (λ_ _=>rfl)) (qaa (pv 1))) (qan (qj8 (hu1 hr) (pv 2) (qbH qaP qbz qbA (qaa (pv 3)) (qah) (λ_ _=>rfl)) (qbH qaP qbz qbA (qaa (pv 3)) (qah) (λ_ _=>rfl)))) (qbO)))) (qan (qnt 2 (qaJ (qaa (pv 2))))))
theorem qqZ {f:Addr} {fd:FuncData} (F:Fun K "longer" "longer" qqw f fd) (nb: ∀x∈names,mg x=none):qbI P w K mg base (CXE P w) 1 f fd ["stretch", "moment", "number"] (spP K G C qpZ):=
 qa3 F qqh λcdv A outer s H E hr=>qan (qaJ (qaV (qab (qbH qaP qbz qbA (qaa (pv 0)) (qah) (λ_ _=>rfl)) (qab (qbH qaP qbz qbA (qaa (pv 0)) (qah) (λ_ _=>rfl)) (qab (qaa (pv 1)) (qab (qb3 qc9 qd7 qec (qbH qaP qbz qbA (qaa (pv 0)) (qah) (λ_ _=>rfl)) (qah)) (qab (qb3 qc9 qd7 qec (qbH qaP qbz qbA (qaa (pv 0)) (qah) (λ_ _=>rfl)) (qaa (pv 2))) (qaf))))))))
theorem qsE {f:Addr} {fd:FuncData} (F:Fun K "refuse_out_of_order" "refuse_out_of_order" s_6 f fd) (nb: ∀x∈names,mg x=none) (F_31:KnE P w K mg base G C "is_log" ["rows"] 1 qp1) (X_TooLate:ExN mg base C "TooLate"):qbI P w K mg base (CXE P w) 2 f fd ["rows"] (spP K G C t_6):=
 qa3 F qst λcdv A outer s H E hr=>qan (qdt (qdK (qdJ (qai qaN F_31 rfl (hr.mono (by decide)) rfl (qab (qaa (pv 0)) (qaf))))) (qan (qfB X_TooLate rfl)) (qbO))
end
end K85
end
section
namespace K85
open PySem L2 PL SetL HD
section
variable {P:Program} {w:World} {K:PySem.W.Frag} {mg:Str->Option Value} {base:Heap} {G:Gam} {C:Str->Addr}
theorem qsF {f:Addr} {fd:FuncData} (F:Fun K "stretches_of_one_key" "stretches_of_one_key" s_5 f fd) (nb: ∀x∈names,mg x=none) (F_35:KnE P w K mg base G C "longer" ["stretch", "moment", "number"] 1 qpZ):qbI P w K mg base (CXE P w) 2 f fd ["rows", "gap"] (spP K G C t_5):=
 qa3 F qof λcdv A outer s H E hr=>qaj (qdE (i:=2) qof.nd rfl (by trivial) (qa8 (qaf))) (qaj (qgh PassesOwn.leaving rfl (qcf (qaa (pv 0))) (qgk rfl (qbG (qbV (qaD (i:=3) qof.nd rfl (by trivial))) (qbG (qbV (qaD (i:=4) qof.nd rfl (by trivial))) (qbG (qbV (qaD (i:=5) qof.nd rfl (by trivial))) (qeq))))) (qan (qdt (qmi (qpj (qcp qoN qon qoA (qpt (qay qdN rfl (nb "len" (by decide)) PySem.boot_len (qag (qbt (pv 2)) qar))) (qah)) (qnq (qcp qb1 qd6 qeb (qb3 qjo qiZ qje (qaa (pv 3)) (qbH qaP qbz qbA (qkf (qbt (pv 2)) (qcv (qah)) (λ_ _=>rfl)) (qah) (λ_ _=>rfl))) (qaa (pv 1)))))) (qan (qj6 (ppos:=⟨0,0,0,0⟩) (pv 2) (qcv (qah)) (qai qaN F_35 rfl (hr.mono (by decide)) rfl (qab (qkf (qbt (pv 2)) (qcv (qah)) (λ_ _=>rfl)) (qab (qaa (pv 3)) (qab (qaa (pv 5)) (qaf))))) (qjj (pv 2) (qcv (qah)) qfd))) (qan (qa4 (qcY PySem.F.plainAttrs_list PySem.F.slot_list_append PySem.F.type_list_append qaU (pv 2) (qag (qaV (qab (qaa (pv 4)) (qab (qaa (pv 3)) (qab (qaa (pv 3)) (qab (qah) (qab (qaa (pv 5)) (qaf))))))) qar))))))) (qan (qmk 2 (qaJ (qaa (pv 2))))))
theorem qqY {f:Addr} {fd:FuncData} (F:Fun K "pauses" "pauses" qqv f fd) (nb: ∀x∈names,mg x=none) (F_32:KnE P w K mg base G C "of_key" ["rows", "key"] 1 qmA) (F_3:KnE P w K mg base G C "refuse_what_is_no_log" ["rows"] 5 t_3):qbI P w K mg base (CXE P w) 6 f fd ["rows", "key"] (spP K G C qlR):=
 qa3 F qog λcdv A outer s H E hr=>qaj (qa5 (qai qaN F_3 rfl (hr.mono (by decide)) rfl (qab (qaa (pv 0)) (qaf)))) (qaj (qg7 (i:=2) (own:=["row"]) (fr:=[]) rfl (qcf (qai qaN F_32 rfl (hr.mono (by decide)) rfl (qab (qaa (pv 0)) (qab (qaa (pv 1)) (qaf))))) (qcL) rfl (by decide+kernel) (by decide+kernel) (λy hy e=>absurd e ((by decide+kernel: ∀y∈_,y.2≠NameKind.free) y hy)) (λp hp=>nomatch hp) (λfp s3 H3=>⟨qbV (qaD (i:=0) (show (["row"]:List Str).Nodup by decide+kernel) rfl (by trivial)),qbB,qbH qaP qbz qbA (qaa (pv 0)) (qah) (λ_ _=>rfl)⟩) qog.nd rfl rfl) (qan (qaJ (qat (qbP (own:=["earlier", "later"]) (fr:=[]) rfl (qka rfl (nb "zip" (by decide)) (qab (qaa (pv 2)) (qab (qat (qfC (qbt (pv 2)) (qg9 (qah)) (qha))) (qaf)))) (qnk (qeV (qcL) (qeV (qcL) (qjV)))) rfl (by decide+kernel) (by decide+kernel) (λy hy e=>absurd e ((by decide+kernel: ∀y∈_,y.2≠NameKind.free) y hy)) (λp hp=>nomatch hp) (λfp s3 H3=>⟨qgk rfl (qbG (qbV (qaD (i:=0) (show (["earlier", "later"]:List Str).Nodup by decide+kernel) rfl (by trivial))) (qbG (qbV (qaD (i:=1) (show (["earlier", "later"]:List Str).Nodup by decide+kernel) rfl (by trivial))) (qeq))),qbB,qb3 qjo qiZ qje (qaa (pv 1)) (qaa (pv 0))⟩))))))
theorem qq3 {f:Addr} {fd:FuncData} (F:Fun K "is_log" "is_log" qqy f fd) (nb: ∀x∈names,mg x=none):qbI P w K mg base (CXE P w) 1 f fd ["rows"] (spP K G C qp1):=
 qa3 F qqk λcdv A outer s H E hr=>qan (qaJ (qkh (qay (qfH rfl) rfl (nb "all" (by decide)) qfI (qag (qa1 (qbP (own:=["ahead", "row"]) (fr:=[]) rfl (qka rfl (nb "zip" (by decide)) (qab (qaa (pv 0)) (qab (qat (qfC (qbt (pv 0)) (qg9 (qah)) (qha))) (qaf)))) (qnk (qeV (qcL) (qeV (qcL) (qjV)))) rfl (by decide+kernel) (by decide+kernel) (λy hy e=>absurd e ((by decide+kernel: ∀y∈_,y.2≠NameKind.free) y hy)) (λp hp=>nomatch hp) (λfp s3 H3=>⟨qgk rfl (qbG (qbV (qaD (i:=0) (show (["ahead", "row"]:List Str).Nodup by decide+kernel) rfl (by trivial))) (qbG (qbV (qaD (i:=1) (show (["ahead", "row"]:List Str).Nodup by decide+kernel) rfl (by trivial))) (qeq))),qbB,qkg qb1 qd6 qeb (qbH qaP qbz qbA (qaa (pv 0)) (qah) (λ_ _=>rfl)) (qbH qaP qbz qbA (qaa (pv 1)) (qah) (λ_ _=>rfl))⟩))) qar))))
theorem qrc {f:Addr} {fd:FuncData} (F:Fun K "is_whole" "is_whole" qqE f fd) (nb: ∀x∈names,mg x=none) (kt: ∀N∈["int", "bool", "str", "tuple"],qkE K N):qbI P w K mg base (CXE P w) 1 f fd ["thing"] (spP K G C qp5):=
 qa3 F qqs λcdv A outer s H E hr=>qan (qaJ (qmn (qfD (qay (qcg (kt "int" (by decide))) rfl (nb "isinstance" (by decide)) PyProof.Rows.boot_isinstance (qag (qaa (pv 0)) (qag (qee (v:=.ty "int") rfl (nb "int" (by decide)) PyProof.Rows.boot_int rfl) qar)))) (qmm (qps (qfD (qay (qcg (kt "bool" (by decide))) rfl (nb "isinstance" (by decide)) PyProof.Rows.boot_isinstance (qag (qaa (pv 0)) (qag (qee (v:=.ty "bool") rfl (nb "bool" (by decide)) PyProof.Rows.boot_bool rfl) qar))))))))
theorem qq9 {f:Addr} {fd:FuncData} (F:Fun K "keys_of" "keys_of" qqC f fd) (nb: ∀x∈names,mg x=none):qbI P w K mg base (CXE P w) 1 f fd ["rows"] (spP K G C qn6):=
 qa3 F qqp λcdv A outer s H E hr=>qan (qaJ (qat (qnv rfl rfl (nb "sorted" (by decide)) rfl (nb "set" (by decide)) (qa1 (qbP (own:=["row"]) (fr:=[]) rfl (qcf (qaa (pv 0))) (qcL) rfl (by decide+kernel) (by decide+kernel) (λy hy e=>absurd e ((by decide+kernel: ∀y∈_,y.2≠NameKind.free) y hy)) (λp hp=>nomatch hp) (λfp s3 H3=>⟨qbV (qaD (i:=0) (show (["row"]:List Str).Nodup by decide+kernel) rfl (by trivial)),qbB,qbH qaP qbz qbA (qaa (pv 0)) (qah) (λ_ _=>rfl)⟩))))))
end
end K85
end
section
namespace K85
open PySem L2 PL HD
section
variable {P:Program} {w:World} {K:PySem.W.Frag} {mg:Str->Option Value} {base:Heap}
theorem qnF:bootBuiltins "ValueError" =some (.type "ValueError"):=by decide+kernel
theorem qkG {D:Addr}: ∀u,RelV (.ref D) u->u=Value.ref D:=λu r=>r
theorem qsz {n:String}: ∀u,RelV (.ty n) u->u=Value.type n:=λu r=>r
theorem qht:qas ["_law_kept", "_law_kinds", "_law_some"] ["_law_kept"] (qad qqI):=by trivial
theorem qmy:qh6 qol:=⟨⟨rfl,rfl,rfl,by decide+kernel,rfl,by decide+kernel,by decide+kernel⟩,⟨_,_,_,_,_,_,_,_,_,_,rfl⟩,rfl,rfl,rfl,rfl⟩
abbrev wV:List V:=[V.str "ended",V.str "full",V.str "no ask",V.str "no back",V.str "no name",V.str "no number",V.str "no row",V.str "no text",V.str "too late",V.str "unlike"]
theorem qoC: ∀j<10,([0==j,1==j,2==j,3==j,4==j,5==j,6==j,7==j,8==j,9==j]:List Bool)[j]? =some true/\(∀i,i<j->([0==j,1==j,2==j,3==j,4==j,5==j,6==j,7==j,8==j,9==j]:List Bool)[i]? =some (!true))/\([0==j,1==j,2==j,3==j,4==j,5==j,6==j,7==j,8==j,9==j]:List Bool).countP (· ==true)=1/\wV[j]? =some (.str (qnL.getD j "")):=by
 intro j hj
 have:j=0\/j=1\/j=2\/j=3\/j=4\/j=5\/j=6\/j=7\/j=8\/j=9:=by omega
 rcases this with rfl | rfl | rfl | rfl | rfl | rfl | rfl | rfl | rfl | rfl<;>refine ⟨rfl,?_,rfl,rfl⟩<;>decide
theorem qld {f:Addr} {fd:FuncData} (F:Fun K "_law_class" "_law_class" qqI f fd) (Z:Ex10 K mg) (i1:mg "isinstance" =none) (v1:mg "ValueError" =none):FnN P w K mg base 1 f fd ["_law_kept"] (qiQ base (qnM K)):=by
 refine qpi F qht (λvs H Q h=> ?_) (λcdv A outer s H vs Q hr h=> ?_)
 ·obtain ⟨a,C,bm,x,rfl,_⟩:=h
  rfl
 ·obtain ⟨a,C,bm,x,rfl,ha,hX,hw,q⟩:=h
  obtain ⟨j,hj,rfl,rfl⟩:=qhm hw
  have nd:=qht.nd
  have hc:=Z.c j hj
  have k:=Z.k j hj
  refine ⟨_,qbY (qdH (i:=1) nd rfl (Or.inl rfl) (qeP (qag (qay qaF rfl i1 PyProof.Rows.boot_isinstance (qag (pv 0) (qag (qbr (v:=.ref (clOf K "Ended")) rfl (Z.m 0 (by decide)) rfl) qar))) (qag (qay qaF rfl i1 PyProof.Rows.boot_isinstance (qag (pv 0) (qag (qbr (v:=.ref (clOf K "Full")) rfl (Z.m 1 (by decide)) rfl) qar))) (qag (qay qaF rfl i1 PyProof.Rows.boot_isinstance (qag (pv 0) (qag (qbr (v:=.ref (clOf K "NoAsk")) rfl (Z.m 2 (by decide)) rfl) qar))) (qag (qay qaF rfl i1 PyProof.Rows.boot_isinstance (qag (pv 0) (qag (qbr (v:=.ref (clOf K "NoBack")) rfl (Z.m 3 (by decide)) rfl) qar))) qar))))))
   (qbY (qdH (i:=1) nd rfl (Or.inl rfl) (qcx qhC (pv 1) (qeP (qag (qay qaF rfl i1 PyProof.Rows.boot_isinstance (qag (pv 0) (qag (qbr (v:=.ref (clOf K "NoName")) rfl (Z.m 4 (by decide)) rfl) qar))) (qag (qay qaF rfl i1 PyProof.Rows.boot_isinstance (qag (pv 0) (qag (qbr (v:=.ref (clOf K "NoNumber")) rfl (Z.m 5 (by decide)) rfl) qar))) (qag (qay qaF rfl i1 PyProof.Rows.boot_isinstance (qag (pv 0) (qag (qbr (v:=.ref (clOf K "NoRow")) rfl (Z.m 6 (by decide)) rfl) qar))) qar))))))
   (qbY (qdH (i:=1) nd rfl (Or.inl rfl) (qcx qhC (pv 1) (qeP (qag (qay qaF rfl i1 PyProof.Rows.boot_isinstance (qag (pv 0) (qag (qbr (v:=.ref (clOf K "NoText")) rfl (Z.m 7 (by decide)) rfl) qar))) (qag (qay qaF rfl i1 PyProof.Rows.boot_isinstance (qag (pv 0) (qag (qbr (v:=.ref (clOf K "TooLate")) rfl (Z.m 8 (by decide)) rfl) qar))) (qag (qay qaF rfl i1 PyProof.Rows.boot_isinstance (qag (pv 0) (qag (qbr (v:=.ref (clOf K "Unlike")) rfl (Z.m 9 (by decide)) rfl) qar))) qar))))))
   (qbY (qk3 (PW.pt (qow (qea qqU (qcY PySem.F.plainAttrs_list PySem.F.slot_list_count PySem.F.type_list_count qjv (pv 1) (qag qmY qar)) qc2 (qjr _))
    (ql4 (ql6 (ql5 (qay qaF rfl i1 PyProof.Rows.boot_isinstance (qag (pv 0) (qag (qee (v:=.ty "ValueError") rfl v1 qnF rfl) qar)))))))) (qci (qdi qcm)) qfk)
   (qbY (qdH (i:=2) nd rfl (Or.inl rfl) (qeP (qag qcm (qag qcm (qag qcm (qag qcm (qag qcm (qag qcm (qag qcm (qag qcm (qag qcm (qag qcm qar))))))))))))
   (qci (qdi (qjl qgX (pv 2) (qcY PySem.F.plainAttrs_list PySem.F.slot_list_index PySem.F.type_list_index qju (pv 1) (qag qmY qar)) (λ_ _=>rfl)))))))),?_⟩
  have new: ∀{H:Hp} {l:Addr} {o:HO},H l=none->∀b u,H b=some u->upd H l o b=some u:=λh b u e=>by rw[qae (qao e h)]; exact e
  refine ⟨_,rfl,a,_,bm,_,_,_,rfl,ha ,hX,hc,qkG,k 0 (by decide),_,rfl,a,_,bm,_,_,_,rfl,ha ,hX,hc,qkG,k 1 (by decide),_,rfl,a,_,bm,_,_,_,rfl,ha ,hX,hc,qkG,k 2 (by decide),_,rfl,a,_,bm,_,_,_,rfl,ha ,hX,hc,qkG,k 3 (by decide),by show 4<=sizeLine; decide,λl hl=> ?_⟩
  have s1: ∀b u,H b=some u->upd H l (.lst [V.bl (0==j),V.bl (1==j),V.bl (2==j),V.bl (3==j)]) b=some u:=new hl
  generalize hH1:upd H l (.lst [V.bl (0==j),V.bl (1==j),V.bl (2==j),V.bl (3==j)])=H1 at s1⊢
  have l1:H1 l=some (.lst [V.bl (0==j),V.bl (1==j),V.bl (2==j),V.bl (3==j)]):=by rw[<-hH1]; exact qak
  have aH1:=s1 _ _ ha
  refine ⟨_,rfl,_,rfl,a,_,bm,_,_,_,rfl,aH1 ,hX,hc,qkG,k 4 (by decide),_,rfl,a,_,bm,_,_,_,rfl,aH1 ,hX,hc,qkG,k 5 (by decide),_,rfl,a,_,bm,_,_,_,rfl,aH1 ,hX,hc,qkG,k 6 (by decide),by show 3<=sizeLine; decide,λm hm=> ?_⟩
  have s2: ∀b u,H1 b=some u->upd H1 m (.lst [V.bl (4==j),V.bl (5==j),V.bl (6==j)]) b=some u:=new hm
  generalize hH2:upd H1 m (.lst [V.bl (4==j),V.bl (5==j),V.bl (6==j)])=H2 at s2⊢
  have m2:H2 m=some (.lst [V.bl (4==j),V.bl (5==j),V.bl (6==j)]):=by rw[<-hH2]; exact qak
  refine ⟨l,m,_,_,rfl,rfl,s2 _ _ l1,m2,by show 7<=sizeLine; decide,λl' hl'=> ?_⟩
  have s3: ∀b u,H2 b=some u->upd H2 l' (.lst ([V.bl (0==j),V.bl (1==j),V.bl (2==j),V.bl (3==j)]++[V.bl (4==j),V.bl (5==j),V.bl (6==j)])) b=some u:=new hl'
  generalize hH3:upd H2 l' (.lst ([V.bl (0==j),V.bl (1==j),V.bl (2==j),V.bl (3==j)]++[V.bl (4==j),V.bl (5==j),V.bl (6==j)]))=H3 at s3⊢
  have l3:H3 l'=some (.lst ([V.bl (0==j),V.bl (1==j),V.bl (2==j),V.bl (3==j)]++[V.bl (4==j),V.bl (5==j),V.bl (6==j)])):=by rw[<-hH3]; exact qak
  have aH3:=s3 _ _ (s2 _ _ aH1)
  refine ⟨_,rfl,_,rfl,a,_,bm,_,_,_,rfl,aH3 ,hX,hc,qkG,k 7 (by decide),_,rfl,a,_,bm,_,_,_,rfl,aH3 ,hX,hc,qkG,k 8 (by decide),_,rfl,a,_,bm,_,_,_,rfl,aH3 ,hX,hc,qkG,k 9 (by decide),by show 3<=sizeLine; decide,λn hn=> ?_⟩
  have s4: ∀b u,H3 b=some u->upd H3 n (.lst [V.bl (7==j),V.bl (8==j),V.bl (9==j)]) b=some u:=new hn
  generalize hH4:upd H3 n (.lst [V.bl (7==j),V.bl (8==j),V.bl (9==j)])=H4 at s4⊢
  have n4:H4 n=some (.lst [V.bl (7==j),V.bl (8==j),V.bl (9==j)]):=by rw[<-hH4]; exact qak
  refine ⟨l',n,_,_,rfl,rfl,s4 _ _ l3,n4,by show 10<=sizeLine; decide,λp hp=> ?_⟩
  have s5: ∀b u,H4 b=some u->upd H4 p (.lst ([V.bl (0==j),V.bl (1==j),V.bl (2==j),V.bl (3==j)]++[V.bl (4==j),V.bl (5==j),V.bl (6==j)]++[V.bl (7==j),V.bl (8==j),V.bl (9==j)])) b=some u:=new hp
  generalize hH5:upd H4 p (.lst ([V.bl (0==j),V.bl (1==j),V.bl (2==j),V.bl (3==j)]++[V.bl (4==j),V.bl (5==j),V.bl (6==j)]++[V.bl (7==j),V.bl (8==j),V.bl (9==j)]))=H5 at s5⊢
  have p5:H5 p=some (.lst (([0==j,1==j,2==j,3==j,4==j,5==j,6==j,7==j,8==j,9==j]:List Bool).map V.bl)):=by rw[<-hH5]; exact qak
  have aH5:=s5 _ _ (s4 _ _ aH3)
  obtain ⟨c1,c2,c4,c3⟩:=qoC j hj
  refine ⟨_,rfl,.inl ⟨rfl,_,SqL.of p5⟩,p,_,true,rfl,rfl,p5,rfl,_,rfl,?_⟩
  rw[c4]
  refine qng ?_
  refine ⟨_,rfl,a,_,bm,_,_,_,rfl,aH5,hX,hc,qsz,Z.v j hj,_,rfl,?_⟩
  refine qng ?_
  refine ⟨by show 10<=sizeLine; decide,λr hr=> ?_⟩
  have s6: ∀b u,H5 b=some u->upd H5 r (.lst wV) b=some u:=new hr
  refine ⟨_,rfl,_,rfl,.inl ⟨rfl,_,SqL.of (s6 _ _ p5)⟩,p,_,true,j,rfl,rfl,s6 _ _ p5,by show 10<=1000; decide,c1,c2,r,_,_,_,rfl,rfl,SqL.of qak,qky c3,?_⟩
  exact q _ λb u e=>s6 _ _ (s5 _ _ (s4 _ _ (s3 _ _ (s2 _ _ (s1 _ _ e)))))
end
end K85
end
section
namespace K85
open PySem L2 PL SetL HD
section
variable {P:Program} {w:World} {K:PySem.W.Frag} {mg:Str->Option Value} {base:Heap} {G:Gam} {C:Str->Addr}
theorem qoO {f c T_18 T_28 T_12 T_law:Addr} {oc kV doc pm cdv ct:Value} {od an:Option Addr} {osl:Array (Option Value)}
  (lk:K.lookup f=some ⟨oc,od,.func (PySem.W.fnOf "law" "law" (qaz qbU) (qav qbU) (qad qbU) .none kV doc pm an cdv ct),osl⟩) (hcd:PySem.W.codeIn K cdv "law" =true) (hc:cdv= .ref c)
  (nb: ∀x∈names,mg x=none) (C0:PySem.W.CodeHd base c T_law) (hb:qew mg base) (nd:([T_18,T_28,T_12,T_law]:List Addr).Nodup) (F_12:KnE P w K mg base (gL T_18 T_28 T_12 T_law) C "_law_all_told" ["_law_rows", "_law_gap", "_law_moment"] 11 qid) (F_20:KnE P w K mg base (gL T_18 T_28 T_12 T_law) C "_law_pick" ["_law_script", "_law_k", "_law_many"] 2 qic) (F_16:KnE P w K mg base (gL T_18 T_28 T_12 T_law) C "at_moment" ["rows", "moment"] 6 qhp) (F_34:KnE P w K mg base (gL T_18 T_28 T_12 T_law) C "beside" ["one", "other"] 6 qgE) (F_26:KnE P w K mg base (gL T_18 T_28 T_12 T_law) C "history" ["rows", "key"] 6 qkF) (F_36:KnE P w K mg base (gL T_18 T_28 T_12 T_law) C "pauses" ["rows", "key"] 6 qlR) (F_18:KnE P w K mg base (gL T_18 T_28 T_12 T_law) C "stretches" ["rows", "gap"] 6 qeF) (F_17:KnE P w K mg base (gL T_18 T_28 T_12 T_law) C "unlike_at" ["one", "other", "moment"] 6 qgF) (F_27:KnE P w K mg base (gL T_18 T_28 T_12 T_law) C "weighed" ["rows", "end"] 7 qfQ) (TK:qkD P w K mg base C qol qbT):
  qbI P w K mg base (CXE P w) 12 f (PySem.W.fnOf "law" "law" (qaz qbU) (qav qbU) (qad qbU) .none kV doc pm an cdv ct) ["_law_script"] (spP K (gL T_18 T_28 T_12 T_law) C t_law):=by
 refine qiv lk hcd qcE (λvs H Q E h=>qd4 h) (λA outer s H vs Q E hr h=> ?_)
 refine ⟨tS ⟨K,(gL T_18 T_28 T_12 T_law),E,C,0⟩ qkl,?_,qdp (n:=1) (N:=["_law_script", "_law_odd", "_law_good", "_law_late", "_law_k", "_law_row", "_law_gap", "_law_moment", "_law_bad", "_law_told_here"]) (by decide) h⟩
 unfold qkl
 refine qaj ?_ ?_
 ·refine qdE (i:=1) qcE.nd rfl (by trivial) ?_
  refine qa8 ?_
  refine qab (qhY) ?_
  refine qab (qaV (qaf)) ?_
  refine qab (qaV (qab (qah) (qab (qaE) (qaf)))) ?_
  refine qab ?_ ?_
  ·exact qaV (qab (qah) (qab (qaE) (qab (qah) (qaf))))
  refine qab ?_ ?_
  ·exact qaV (qab (qcv (qah)) (qab (qaE) (qab (qah) (qaf))))
  refine qab ?_ ?_
  ·exact qaV (qab (qah) (qab (qaE) (qab (qah) (qaf))))
  exact qab (qaV (qab (qah) (qab (qaE) (qab (qah) (qaf))))) (qab (qaV (qab (qah) (qab (qaE) (qab (qah) (qaf))))) (qaf))
 refine qaj ?_ ?_
 ·exact qgi (qcY PySem.F.plainAttrs_list PySem.F.slot_list_extend PySem.F.type_list_extend qf6 (pv 1) (qag (qa1 (qa8 (qab (qat (qa8 (qab (qah) (qab (qaE) (qab (qah) (qaf)))))) (qab (qaV (qab (qes) (qab (qaE) (qab (qah) (qaf))))) (qaf))))) qar))
 refine qaj ?_ ?_
 ·refine qns ?_ ?_
  ·refine qaV ?_
   refine qab ?_ ?_
   ·exact qat (qa8 (qab (qaV (qab (qah) (qab (qaE) (qab (qah) (qaf))))) (qab (qaV (qab (qah) (qab (qaE) (qab (qcv (qah)) (qaf))))) (qaf))))
   exact qab (qat (qa8 (qab (qaV (qab (qah) (qab (qaE) (qab (qcv (qah)) (qaf))))) (qab (qaV (qab (qah) (qab (qaE) (qab (qah) (qaf))))) (qaf))))) (qaf)
  exact qgk rfl (qbG (qbV (qaD (i:=2) qcE.nd rfl (by trivial))) (qbG (qbV (qaD (i:=3) qcE.nd rfl (by trivial))) (qeq)))
 refine qaj ?_ ?_
 ·refine qgh PassesOwn.leaving rfl ?_ ?_ ?_
  ·exact qkb rfl (nb "range" (by decide)) (qab (qah) (qaf))
  ·exact qbV (qaD (i:=4) qcE.nd rfl (by trivial))
  refine qaj ?_ ?_
  ·refine qep (i:=5) qcE.nd rfl (by trivial) ?_
   refine qkf (qbt (pv 1)) ?_ (λ_ _=>rfl)
   refine qb3 qef qi0 qjf ?_ (qah)
   exact qb3 qc9 qd7 qec (qai qaN F_20 rfl (hr.mono (by decide)) rfl (qab (qaa (pv 0)) (qab (qah) (qab (qah) (qaf))))) (qb3 qeR ql0 ql8 (qah) (qaa (pv 4)))
  refine qaj ?_ ?_
  ·refine qep (i:=6) qcE.nd rfl (by trivial) ?_
   refine qbH qaP qbz qbA ?_ ?_ (λ_ _=>rfl)
   ·exact qat (qa8 (qab (qcv (qah)) (qab (qah) (qab (qhY) (qab (qes) (qab (qaE) (qab (qaV (qab (qah) (qaf))) (qaf))))))))
   exact qb3 qef qi0 qjf (qb3 qc9 qd7 qec (qai qaN F_20 rfl (hr.mono (by decide)) rfl (qab (qaa (pv 0)) (qab (qah) (qab (qah) (qaf))))) (qaa (pv 4))) (qah)
  refine qaj ?_ ?_
  ·refine qep (i:=7) qcE.nd rfl (by trivial) ?_
   refine qbH qaP qbz qbA ?_ ?_ (λ_ _=>rfl)
   ·exact qat (qa8 (qab (qcv (qah)) (qab (qah) (qab (qhY) (qab (qes) (qab (qaE) (qab (qaV (qab (qah) (qaf))) (qaf))))))))
   exact qb3 qef qi0 qjf (qb3 qc9 qd7 qec (qai qaN F_20 rfl (hr.mono (by decide)) rfl (qab (qaa (pv 0)) (qab (qah) (qab (qah) (qaf))))) (qaa (pv 4))) (qah)
  refine qaj ?_ ?_
  ·refine qep (i:=8) qcE.nd rfl (by trivial) ?_
   exact qat (qa8 (qab (qaV (qab (qah) (qab (qaE) (qab (qah) (qaf))))) (qab (qaa (pv 5)) (qab (qaV (qab (qah) (qab (qaE) (qab (qah) (qaf))))) (qaf)))))
  refine qaj ?_ ?_
  ·refine qdt ?_ (qan (qaJ (qes))) (qbO)
   refine qmi ?_
   refine qg6 ?_ ?_
   ·refine qcp (qc4 (hu8 hr)) qfe qfm ?_ ?_
    ·exact qai qaN F_12 rfl (hr.mono (by decide)) rfl (qab (qaa (pv 8)) (qab (qaa (pv 6)) (qab (qaa (pv 7)) (qaf))))
    exact qat (qgm (qa1 (qa8 (qab (qaE) (qaf)))) (qah))
   refine qeo ?_
   refine qcp (qc4 (hu8 hr)) qfe qfm ?_ ?_
   ·exact qai qaN F_12 rfl (hr.mono (by decide)) rfl (qab (qaa (pv 3)) (qab (qaa (pv 6)) (qab (qaa (pv 7)) (qaf))))
   exact qat (qgm (qa1 (qa8 (qab (qaE) (qaf)))) (qah))
  refine qaj ?_ ?_
  ·refine qdE (i:=9) qcE.nd rfl (by trivial) ?_
   refine qa8 ?_
   refine qab ?_ (qab (qah) (qaf))
   refine qa6 (k:=6) (fr:=[("_law_bad",8)]) TK rfl rfl hc C0 hb (show ("law" :Str)++ ".<locals>." ++ "<lambda>" =qa7 by decide+kernel) (λ_=>rfl) rfl rfl rfl (by decide+kernel) (RH.fr_ok (sd:=qad qbU) rfl (by decide+kernel)) (by trivial) rfl (λ_ _ _ _=>rfl) (hr.mono (by decide)) (qaK (by simp)) (qaL (by simp) nd) ?_
   exact λA outer s H f c E hr=>qai qbK F_36 rfl (hr.mono (by decide)) rfl (qab (qaa (pv 0)) (qab (qaE) (qaf)))
  refine qaj ?_ ?_
  ·refine qj6 (ppos:=⟨0,0,0,0⟩) (pv 9) (qah) ?_ (qjj (pv 9) (qah) qfd)
   refine qa6 (k:=6) (fr:=[("_law_bad",8)]) TK rfl rfl hc C0 hb (show ("law" :Str)++ ".<locals>." ++ "<lambda>" =qa7 by decide+kernel) (λ_=>rfl) rfl rfl rfl (by decide+kernel) (RH.fr_ok (sd:=qad qbU) rfl (by decide+kernel)) (by trivial) rfl (λ_ _ _ _=>rfl) (hr.mono (by decide)) (qaK (by simp)) (qaL (by simp) nd) ?_
   exact λA outer s H f c E hr=>qai qbK F_26 rfl (hr.mono (by decide)) rfl (qab (qaa (pv 0)) (qab (qaE) (qaf)))
  refine qaj ?_ ?_
  ·exact qa4 (qcY PySem.F.plainAttrs_list PySem.F.slot_list_append PySem.F.type_list_append qaU (pv 9) (qag (qa6 (k:=6) (fr:=[("_law_bad",8),("_law_good",2)]) TK rfl rfl hc C0 hb (show ("law" :Str)++ ".<locals>." ++ "<lambda>" =qa7 by decide+kernel) (λ_=>rfl) rfl rfl rfl (by decide+kernel) (RH.fr_ok (sd:=qad qbU) rfl (by decide+kernel)) (λp hp=>by simp only[List.mem_cons,List.not_mem_nil,or_false] at hp; rcases hp with rfl | rfl<;>exact ⟨rfl,rfl⟩) rfl (λ_ _ _ _=>rfl) (hr.mono (by decide)) (qaK (by simp)) (qaL (by simp) nd) (λA outer s H f c E hr=>qai qbK F_34 rfl (hr.mono (by decide)) rfl (qab (qaa (pv 0)) (qab (qaa (pv 1)) (qaf))))) qar))
  refine qaj ?_ ?_
  ·exact qa4 (qcY PySem.F.plainAttrs_list PySem.F.slot_list_append PySem.F.type_list_append qaU (pv 9) (qag (qa6 (k:=6) (fr:=[("_law_good",2),("_law_bad",8)]) TK rfl rfl hc C0 hb (show ("law" :Str)++ ".<locals>." ++ "<lambda>" =qa7 by decide+kernel) (λ_=>rfl) rfl rfl rfl (by decide+kernel) (RH.fr_ok (sd:=qad qbU) rfl (by decide+kernel)) (λp hp=>by simp only[List.mem_cons,List.not_mem_nil,or_false] at hp; rcases hp with rfl | rfl<;>exact ⟨rfl,rfl⟩) rfl (λ_ _ _ _=>rfl) (hr.mono (by decide)) (qaK (by simp)) (qaL (by simp) nd) (λA outer s H f c E hr=>qai qbK F_34 rfl (hr.mono (by decide)) rfl (qab (qaa (pv 0)) (qab (qaa (pv 1)) (qaf))))) qar))
  refine qaj ?_ ?_
  ·exact qa4 (qcY PySem.F.plainAttrs_list PySem.F.slot_list_append PySem.F.type_list_append qaU (pv 9) (qag (qa6 (k:=6) (fr:=[("_law_good",2),("_law_bad",8)]) TK rfl rfl hc C0 hb (show ("law" :Str)++ ".<locals>." ++ "<lambda>" =qa7 by decide+kernel) (λ_=>rfl) rfl rfl rfl (by decide+kernel) (RH.fr_ok (sd:=qad qbU) rfl (by decide+kernel)) (λp hp=>by simp only[List.mem_cons,List.not_mem_nil,or_false] at hp; rcases hp with rfl | rfl<;>exact ⟨rfl,rfl⟩) rfl (λ_ _ _ _=>rfl) (hr.mono (by decide)) (qaK (by simp)) (qaL (by simp) nd) (λA outer s H f c E hr=>qai qbK F_17 rfl (hr.mono (by decide)) rfl (qab (qaa (pv 0)) (qab (qaa (pv 1)) (qab (qah) (qaf)))))) qar))
  refine qaj ?_ ?_
  ·exact qdt (qmj (hu8 hr) (qbt (pv 9)) (qat (qgm (qa1 (qa8 (qab (qaE) (qaf)))) (qah)))) (qan (qaJ (qes))) (qbO)
  refine qaj ?_ ?_
  ·refine qdE (i:=9) qcE.nd rfl (by trivial) ?_
   refine qa8 ?_
   refine qab ?_ (qab (qah) (qaf))
   refine qa6 (k:=6) (fr:=[("_law_late",3)]) TK rfl rfl hc C0 hb (show ("law" :Str)++ ".<locals>." ++ "<lambda>" =qa7 by decide+kernel) (λ_=>rfl) rfl rfl rfl (by decide+kernel) (RH.fr_ok (sd:=qad qbU) rfl (by decide+kernel)) (by trivial) rfl (λ_ _ _ _=>rfl) (hr.mono (by decide)) (qaK (by simp)) (qaL (by simp) nd) ?_
   exact λA outer s H f c E hr=>qai qbK F_36 rfl (hr.mono (by decide)) rfl (qab (qaa (pv 0)) (qab (qaE) (qaf)))
  refine qaj ?_ ?_
  ·refine qj6 (ppos:=⟨0,0,0,0⟩) (pv 9) (qah) ?_ (qjj (pv 9) (qah) qfd)
   refine qa6 (k:=6) (fr:=[("_law_late",3)]) TK rfl rfl hc C0 hb (show ("law" :Str)++ ".<locals>." ++ "<lambda>" =qa7 by decide+kernel) (λ_=>rfl) rfl rfl rfl (by decide+kernel) (RH.fr_ok (sd:=qad qbU) rfl (by decide+kernel)) (by trivial) rfl (λ_ _ _ _=>rfl) (hr.mono (by decide)) (qaK (by simp)) (qaL (by simp) nd) ?_
   exact λA outer s H f c E hr=>qai qbK F_26 rfl (hr.mono (by decide)) rfl (qab (qaa (pv 0)) (qab (qaE) (qaf)))
  refine qaj ?_ ?_
  ·exact qa4 (qcY PySem.F.plainAttrs_list PySem.F.slot_list_append PySem.F.type_list_append qaU (pv 9) (qag (qa6 (k:=6) (fr:=[("_law_late",3),("_law_good",2)]) TK rfl rfl hc C0 hb (show ("law" :Str)++ ".<locals>." ++ "<lambda>" =qa7 by decide+kernel) (λ_=>rfl) rfl rfl rfl (by decide+kernel) (RH.fr_ok (sd:=qad qbU) rfl (by decide+kernel)) (λp hp=>by simp only[List.mem_cons,List.not_mem_nil,or_false] at hp; rcases hp with rfl | rfl<;>exact ⟨rfl,rfl⟩) rfl (λ_ _ _ _=>rfl) (hr.mono (by decide)) (qaK (by simp)) (qaL (by simp) nd) (λA outer s H f c E hr=>qai qbK F_34 rfl (hr.mono (by decide)) rfl (qab (qaa (pv 0)) (qab (qaa (pv 1)) (qaf))))) qar))
  refine qaj ?_ ?_
  ·exact qa4 (qcY PySem.F.plainAttrs_list PySem.F.slot_list_append PySem.F.type_list_append qaU (pv 9) (qag (qa6 (k:=6) (fr:=[("_law_good",2),("_law_late",3)]) TK rfl rfl hc C0 hb (show ("law" :Str)++ ".<locals>." ++ "<lambda>" =qa7 by decide+kernel) (λ_=>rfl) rfl rfl rfl (by decide+kernel) (RH.fr_ok (sd:=qad qbU) rfl (by decide+kernel)) (λp hp=>by simp only[List.mem_cons,List.not_mem_nil,or_false] at hp; rcases hp with rfl | rfl<;>exact ⟨rfl,rfl⟩) rfl (λ_ _ _ _=>rfl) (hr.mono (by decide)) (qaK (by simp)) (qaL (by simp) nd) (λA outer s H f c E hr=>qai qbK F_34 rfl (hr.mono (by decide)) rfl (qab (qaa (pv 0)) (qab (qaa (pv 1)) (qaf))))) qar))
  refine qaj ?_ ?_
  ·exact qa4 (qcY PySem.F.plainAttrs_list PySem.F.slot_list_append PySem.F.type_list_append qaU (pv 9) (qag (qa6 (k:=6) (fr:=[("_law_good",2),("_law_late",3)]) TK rfl rfl hc C0 hb (show ("law" :Str)++ ".<locals>." ++ "<lambda>" =qa7 by decide+kernel) (λ_=>rfl) rfl rfl rfl (by decide+kernel) (RH.fr_ok (sd:=qad qbU) rfl (by decide+kernel)) (λp hp=>by simp only[List.mem_cons,List.not_mem_nil,or_false] at hp; rcases hp with rfl | rfl<;>exact ⟨rfl,rfl⟩) rfl (λ_ _ _ _=>rfl) (hr.mono (by decide)) (qaK (by simp)) (qaL (by simp) nd) (λA outer s H f c E hr=>qai qbK F_17 rfl (hr.mono (by decide)) rfl (qab (qaa (pv 0)) (qab (qaa (pv 1)) (qab (qah) (qaf)))))) qar))
  refine qan ?_
  refine qdt ?_ (qan (qaJ (qes))) (qbO)
  refine qmi ?_
  refine qg6 ?_ ?_
  ·exact qmj (hu8 hr) (qbt (pv 9)) (qat (qgm (qa1 (qa8 (qab (qaE) (qaf)))) (qah)))
  refine qeo ?_
  refine qcp (qc4 (hu8 hr)) qfe qfm ?_ ?_
  ·exact qai qaN F_12 rfl (hr.mono (by decide)) rfl (qab (qaa (pv 2)) (qab (qaa (pv 6)) (qab (qaa (pv 7)) (qaf))))
  exact qat (qgm (qa1 (qa8 (qab (qaE) (qaf)))) (qah))
 refine qaj ?_ ?_
 ·refine qdt ?_ (qan (qaJ (qes))) (qbO)
  refine qmi ?_
  refine qg6 ?_ ?_
  ·refine qcp (qc4 (hu8 hr)) qfe qfm ?_ (qaE)
   refine qa6 (k:=7) (fr:=[("_law_good",2)]) TK rfl rfl hc C0 hb (show ("law" :Str)++ ".<locals>." ++ "<lambda>" =qa7 by decide+kernel) (λ_=>rfl) rfl rfl rfl (by decide+kernel) (RH.fr_ok (sd:=qad qbU) rfl (by decide+kernel)) (by trivial) rfl (λ_ _ _ _=>rfl) (hr.mono (by decide)) (qaK (by simp)) (qaL (by simp) nd) ?_
   exact λA outer s H f c E hr=>qai qbK F_27 rfl (hr.mono (by decide)) rfl (qab (qaa (pv 0)) (qab (qah) (qaf)))
  refine qeo ?_
  refine qcp (qc4 (hu8 hr)) qfe qfm ?_ ?_
  ·exact qai qaN F_27 rfl (hr.mono (by decide)) rfl (qab (qaa (pv 2)) (qab (qah) (qaf)))
  exact qat (qa8 (qab (qaV (qab (qaE) (qab (qah) (qaf)))) (qab (qaV (qab (qaE) (qab (qah) (qaf)))) (qaf))))
 refine qaj ?_ ?_
 ·refine qdt ?_ (qan (qaJ (qes))) (qbO)
  refine qmi ?_
  refine qg6 ?_ ?_
  ·refine qcp (qc4 (hu8 hr)) qfe qfm ?_ (qaE)
   refine qa6 (k:=6) (fr:=[("_law_late",3)]) TK rfl rfl hc C0 hb (show ("law" :Str)++ ".<locals>." ++ "<lambda>" =qa7 by decide+kernel) (λ_=>rfl) rfl rfl rfl (by decide+kernel) (RH.fr_ok (sd:=qad qbU) rfl (by decide+kernel)) (by trivial) rfl (λ_ _ _ _=>rfl) (hr.mono (by decide)) (qaK (by simp)) (qaL (by simp) nd) ?_
   exact λA outer s H f c E hr=>qai qbK F_34 rfl (hr.mono (by decide)) rfl (qab (qaa (pv 0)) (qab (qat (qa8 (qab (qhY) (qaf)))) (qaf)))
  refine qeo ?_
  refine qcp (qc4 (hu8 hr)) qfe qfm ?_ ?_
  ·exact qai qaN F_16 rfl (hr.mono (by decide)) rfl (qab (qaa (pv 2)) (qab (qah) (qaf)))
  exact qat (qa8 (qab (qaV (qab (qaE) (qab (qah) (qaf)))) (qab (qaV (qab (qaE) (qab (qcv (qah)) (qaf)))) (qaf))))
 refine qan ?_
 refine qaJ ?_
 refine qkg (ql9 (hu8 hr)) qoo qoB ?_ ?_
 ·exact qai qaN F_18 rfl (hr.mono (by decide)) rfl (qab (qaa (pv 2)) (qab (qah) (qaf)))
 refine qat ?_
 refine qa8 ?_
 refine qab ?_ ?_
 ·exact qaV (qab (qaE) (qab (qah) (qab (qah) (qab (qah) (qab (qah) (qaf))))))
 exact qab (qaV (qab (qaE) (qab (qah) (qab (qah) (qab (qah) (qab (qcv (qah)) (qaf))))))) (qaf)
end
end K85
end
section
namespace K85
open PySem L2 PL SetL RH HD
abbrev lqs:List (Pos×Str):=[(qgU,qd9),(qgT,qd8)]
abbrev qzs:List Str:=[qcI,qa7]
abbrev tb:List (Str×Stmt):=[e2 "is_whole" qqE,e2 "is_whole_within" qqJ,e2 "is_word" qqD,e2 "is_key" qqA,e2 "is_row" qqz,e2 "is_log" qqy,e2 "keys_of" qqC,e2 "refuse_what_is_no_row" s_2,e2 "refuse_out_of_order" s_6,e2 "refuse_what_is_no_log" s_3,e2 "refuse_what_are_no_two_logs" s_0,e2 "refuse_number_beyond" s_4,e2 "of_key" qpK,e2 "refuse_what_is_no_moment" s_1,e2 "numbers_standing" s_7,e2 "at_moment" qqH,e2 "history" qqB,e2 "weighed" qok,e2 "weight" qqx,e2 "beside" qpJ,e2 "unlike_at" qpM,e2 "stretches" qlZ,e2 "stretches_of_one_key" s_5,e2 "longer" qqw,e2 "going_on" qpL,e2 "longest" qlY,e2 "pauses" qqv,e2 "_law_cell" qqG,e2 "_law_pick" qqF,e2 "_law_class" qqI,e2 "_law_told" qol,e2 "_law_all_told" qhu,e2 "law" qbU]
abbrev cs:List (Str×Int):=[c2 "GREATEST_GAP" (99),c2 "GREATEST_MOMENT" (99),c2 "GREATEST_NUMBER" (99),c2 "LATEST_MOMENT" (999),c2 "LONGEST_KEY" (2)]
abbrev nms:List Str:= "ValueError" ::names
theorem mk {P:Program} {w:World} {K:PySem.W.Frag} {mg:Str->Option Value} {base:Heap} {fa:Addr} {oc kV doc pm cdv ct:Value} {od an:Option Addr} {osl:Array (Option Value)} (D: ∀(i:Nat) (x:Str) (st:Stmt),tb[i]? =some (x,st)->Df K mg x st) (nb: ∀x∈nms,mg x=none) (cm: ∀(i:Nat) (x:Str) (n:Int),cs[i]? =some (x,n)->∃u,mg x=some u/\RelV (.int n) u)
  (tc: ∀y∈(["stretches", "longest"]:List Str)++(["_law_all_told", "law"]:List Str),∃c,PySem.W.tabIn K y=some (c,tOf K y)/\PySem.W.CodeHd base c (tOf K y)) (nd:(((["stretches", "longest"]:List Str)++(["_law_all_told", "law"]:List Str)).map (tOf K)).Nodup) (hb:qew mg base) (KI:K.In base) (EX:Ex10 K mg) (lk:K.lookup fa=some ⟨oc,od,.func (PySem.W.fnOf "law" "law" (qaz qbU) (qav qbU) (qad qbU) .none kV doc pm an cdv ct),osl⟩) (hcd:PySem.W.codeIn K cdv "law" =true) (kp:PySem.W.keepIn K (.ref fa)=true) (hcl: ∀c T,PySem.W.tabIn K "law" =some (c,T)->cdv= .ref c):
  qbI P w K mg base (CXE P w) 12 fa (PySem.W.fnOf "law" "law" (qaz qbU) (qav qbU) (qad qbU) .none kV doc pm an cdv ct) ["_law_script"] (spP K (gL (HD.tOf K "stretches") (HD.tOf K "longest") (HD.tOf K "_law_all_told") (HD.tOf K "law")) (clOf K) t_law):=by
 have Z:=EX
 have nb0:=nb
 have nb: ∀x∈names,mg x=none:=λx hx=>nb0 x (List.mem_cons_of_mem _ hx)
 obtain ⟨_,cm_13,cr_13⟩:=cm 0 _ _ rfl
 obtain ⟨_,cm_8,cr_8⟩:=cm 1 _ _ rfl
 obtain ⟨_,cm_9,cr_9⟩:=cm 2 _ _ rfl
 obtain ⟨_,cm_11,cr_11⟩:=cm 3 _ _ rfl
 obtain ⟨_,cm_14,cr_14⟩:=cm 4 _ _ rfl
 obtain ⟨_,ht_18,hC_18⟩:=tc "stretches" (by simp)
 obtain ⟨_,ht_28,hC_28⟩:=tc "longest" (by simp)
 obtain ⟨_,ht_12,hC_12⟩:=tc "_law_all_told" (by simp)
 obtain ⟨_,ht_law,hC_law⟩:=tc "law" (by simp)
 have X_NoNumber:ExN mg base (clOf K) "NoNumber" :=Z.exN KI 5 (by decide)
 have X_NoRow:ExN mg base (clOf K) "NoRow" :=Z.exN KI 6 (by decide)
 have X_TooLate:ExN mg base (clOf K) "TooLate" :=Z.exN KI 8 (by decide)
 have TK:qkD P w K mg base (clOf K) qol qbT:=qn5 Z KI qmy (D 30 _ _ rfl) (D 29 _ _ rfl) (λ_ _ _ _ _ _ us hl=>by obtain ⟨a,e⟩:=qnP hl; subst e; rfl) (λ_ _ _ _ _ _ us hl=>by obtain ⟨a,e⟩:=qnP hl; subst e; rfl) λF=>qld F Z (nb "isinstance" (by decide)) (nb0 "ValueError" (by decide))
 have N_22:=knE (w:=w) (G:=(gL (HD.tOf K "stretches") (HD.tOf K "longest") (HD.tOf K "_law_all_told") (HD.tOf K "law"))) (C:=clOf K) (D 0 _ _ rfl) λF=>qrc (P:=P) (w:=w) (mg:=mg) (base:=base) F nb (qgW K)
 have N_10:=knE (w:=w) (G:=(gL (HD.tOf K "stretches") (HD.tOf K "longest") (HD.tOf K "_law_all_told") (HD.tOf K "law"))) (C:=clOf K) (D 1 _ _ rfl) λF=>qrh (P:=P) (w:=w) (mg:=mg) (base:=base) F nb N_22
 have N_24:=knE (w:=w) (G:=(gL (HD.tOf K "stretches") (HD.tOf K "longest") (HD.tOf K "_law_all_told") (HD.tOf K "law"))) (C:=clOf K) (D 2 _ _ rfl) λF=>qra (P:=P) (w:=w) (mg:=mg) (base:=base) F nb (qgW K)
 have N_29:=knE (w:=w) (G:=(gL (HD.tOf K "stretches") (HD.tOf K "longest") (HD.tOf K "_law_all_told") (HD.tOf K "law"))) (C:=clOf K) (D 3 _ _ rfl) λF=>qq5 (P:=P) (w:=w) (mg:=mg) (base:=base) F nb cm_14 cr_14 N_24
 have N_30:=knE (w:=w) (G:=(gL (HD.tOf K "stretches") (HD.tOf K "longest") (HD.tOf K "_law_all_told") (HD.tOf K "law"))) (C:=clOf K) (D 4 _ _ rfl) λF=>qq4 (P:=P) (w:=w) (mg:=mg) (base:=base) F nb (qgW K) cm_8 cr_8 cm_9 cr_9 N_29 N_10
 have N_31:=knE (w:=w) (G:=(gL (HD.tOf K "stretches") (HD.tOf K "longest") (HD.tOf K "_law_all_told") (HD.tOf K "law"))) (C:=clOf K) (D 5 _ _ rfl) λF=>qq3 (P:=P) (w:=w) (mg:=mg) (base:=base) F nb
 have N_25:=knE (w:=w) (G:=(gL (HD.tOf K "stretches") (HD.tOf K "longest") (HD.tOf K "_law_all_told") (HD.tOf K "law"))) (C:=clOf K) (D 6 _ _ rfl) λF=>qq9 (P:=P) (w:=w) (mg:=mg) (base:=base) F nb
 have N_2:=knE (w:=w) (G:=(gL (HD.tOf K "stretches") (HD.tOf K "longest") (HD.tOf K "_law_all_told") (HD.tOf K "law"))) (C:=clOf K) (D 7 _ _ rfl) λF=>qsI (P:=P) (w:=w) (mg:=mg) (base:=base) F nb N_30 X_NoRow
 have N_6:=knE (w:=w) (G:=(gL (HD.tOf K "stretches") (HD.tOf K "longest") (HD.tOf K "_law_all_told") (HD.tOf K "law"))) (C:=clOf K) (D 8 _ _ rfl) λF=>qsE (P:=P) (w:=w) (mg:=mg) (base:=base) F nb N_31 X_TooLate
 have N_3:=knE (w:=w) (G:=(gL (HD.tOf K "stretches") (HD.tOf K "longest") (HD.tOf K "_law_all_told") (HD.tOf K "law"))) (C:=clOf K) (D 9 _ _ rfl) λF=>qsH (P:=P) (w:=w) (mg:=mg) (base:=base) F nb N_6 N_2
 have N_0:=knE (w:=w) (G:=(gL (HD.tOf K "stretches") (HD.tOf K "longest") (HD.tOf K "_law_all_told") (HD.tOf K "law"))) (C:=clOf K) (D 10 _ _ rfl) λF=>qsK (P:=P) (w:=w) (mg:=mg) (base:=base) F nb N_6 N_2
 have N_4:=knE (w:=w) (G:=(gL (HD.tOf K "stretches") (HD.tOf K "longest") (HD.tOf K "_law_all_told") (HD.tOf K "law"))) (C:=clOf K) (D 11 _ _ rfl) λF=>qsG (P:=P) (w:=w) (mg:=mg) (base:=base) F nb N_10 X_NoNumber
 have N_32:=knE (w:=w) (G:=(gL (HD.tOf K "stretches") (HD.tOf K "longest") (HD.tOf K "_law_all_told") (HD.tOf K "law"))) (C:=clOf K) (D 12 _ _ rfl) λF=>qq2 (P:=P) (w:=w) (mg:=mg) (base:=base) F nb
 have N_1:=knE (w:=w) (G:=(gL (HD.tOf K "stretches") (HD.tOf K "longest") (HD.tOf K "_law_all_told") (HD.tOf K "law"))) (C:=clOf K) (D 13 _ _ rfl) λF=>qsJ (P:=P) (w:=w) (mg:=mg) (base:=base) F nb cm_11 cr_11 N_4
 have N_7:=knE (w:=w) (G:=(gL (HD.tOf K "stretches") (HD.tOf K "longest") (HD.tOf K "_law_all_told") (HD.tOf K "law"))) (C:=clOf K) (D 14 _ _ rfl) λF=>qsD (P:=P) (w:=w) (mg:=mg) (base:=base) F nb
 have N_16:=knE (w:=w) (G:=(gL (HD.tOf K "stretches") (HD.tOf K "longest") (HD.tOf K "_law_all_told") (HD.tOf K "law"))) (C:=clOf K) (D 15 _ _ rfl) λF=>qrf (P:=P) (w:=w) (mg:=mg) (base:=base) F nb N_7 N_3 N_1
 have N_26:=knE (w:=w) (G:=(gL (HD.tOf K "stretches") (HD.tOf K "longest") (HD.tOf K "_law_all_told") (HD.tOf K "law"))) (C:=clOf K) (D 16 _ _ rfl) λF=>qq8 (P:=P) (w:=w) (mg:=mg) (base:=base) F nb N_32 N_3
 have N_33:=knE (w:=w) (G:=(gL (HD.tOf K "stretches") (HD.tOf K "longest") (HD.tOf K "_law_all_told") (HD.tOf K "law"))) (C:=clOf K) (D 18 _ _ rfl) λF=>qq1 (P:=P) (w:=w) (mg:=mg) (base:=base) F nb
 have N_27:=knE (w:=w) (G:=(gL (HD.tOf K "stretches") (HD.tOf K "longest") (HD.tOf K "_law_all_told") (HD.tOf K "law"))) (C:=clOf K) (D 17 _ _ rfl) λF=>qq7 (P:=P) (w:=w) (mg:=mg) (base:=base) F nb N_26 N_25 N_3 N_1 N_33 X_NoNumber
 have N_34:=knE (w:=w) (G:=(gL (HD.tOf K "stretches") (HD.tOf K "longest") (HD.tOf K "_law_all_told") (HD.tOf K "law"))) (C:=clOf K) (D 19 _ _ rfl) λF=>qq0 (P:=P) (w:=w) (mg:=mg) (base:=base) F nb N_7 N_0
 have N_17:=knE (w:=w) (G:=(gL (HD.tOf K "stretches") (HD.tOf K "longest") (HD.tOf K "_law_all_told") (HD.tOf K "law"))) (C:=clOf K) (D 20 _ _ rfl) λF=>qre (P:=P) (w:=w) (mg:=mg) (base:=base) F nb N_7 N_0 N_1
 have N_35:=knE (w:=w) (G:=(gL (HD.tOf K "stretches") (HD.tOf K "longest") (HD.tOf K "_law_all_told") (HD.tOf K "law"))) (C:=clOf K) (D 23 _ _ rfl) λF=>qqZ (P:=P) (w:=w) (mg:=mg) (base:=base) F nb
 have N_5:=knE (w:=w) (G:=(gL (HD.tOf K "stretches") (HD.tOf K "longest") (HD.tOf K "_law_all_told") (HD.tOf K "law"))) (C:=clOf K) (D 22 _ _ rfl) λF=>qsF (P:=P) (w:=w) (mg:=mg) (base:=base) F nb N_35
 have N_18:=qrk (w:=w) (G:=(gL (HD.tOf K "stretches") (HD.tOf K "longest") (HD.tOf K "_law_all_told") (HD.tOf K "law"))) (C:=clOf K) (D 21 _ _ rfl) ht_18 hC_18 λlk hcd hc C0=>qrd (C:=clOf K) (P:=P) (w:=w) (mg:=mg) (base:=base) lk hcd hc nb C0 hb nd cm_13 cr_13 N_25 N_32 N_4 N_3 N_5
 have N_23:=knE (w:=w) (G:=(gL (HD.tOf K "stretches") (HD.tOf K "longest") (HD.tOf K "_law_all_told") (HD.tOf K "law"))) (C:=clOf K) (D 24 _ _ rfl) λF=>qrb (P:=P) (w:=w) (mg:=mg) (base:=base) F nb N_18
 have N_28:=qrk (w:=w) (G:=(gL (HD.tOf K "stretches") (HD.tOf K "longest") (HD.tOf K "_law_all_told") (HD.tOf K "law"))) (C:=clOf K) (D 25 _ _ rfl) ht_28 hC_28 λlk hcd hc C0=>qq6 (C:=clOf K) (P:=P) (w:=w) (mg:=mg) (base:=base) lk hcd hc nb C0 hb nd N_18
 have N_36:=knE (w:=w) (G:=(gL (HD.tOf K "stretches") (HD.tOf K "longest") (HD.tOf K "_law_all_told") (HD.tOf K "law"))) (C:=clOf K) (D 26 _ _ rfl) λF=>qqY (P:=P) (w:=w) (mg:=mg) (base:=base) F nb N_32 N_3
 obtain ⟨f1,oc1,od1,osl1,kV1,doc1,pm1,an1,cdv1,ct1,lk1,hcd1,kp1,m1, -⟩:=D 27 _ _ rfl
 have F1:=qeW lk1 hcd1 kp1
 have G1:=qm5 (P:=P) (w:=w) (mg:=mg) (base:=base) F1 (nb "len" (by decide))
 have b1:=F1.binds (ps:=["_law_script", "_law_k"]) λ_ _ _ _ _ _ us hl=>by obtain ⟨a,b,e⟩:=qoY hl; subst e; rfl
 obtain ⟨f2,oc2,od2,osl2,kV2,doc2,pm2,an2,cdv2,ct2,lk2,hcd2,kp2,m2, -⟩:=D 28 _ _ rfl
 have F2:=qeW lk2 hcd2 kp2
 have G2:=qm4 (P:=P) (w:=w) (mg:=mg) (base:=base) F2 G1 m1 kp1 b1
 have N_20:=(qnc (G:=(gL (HD.tOf K "stretches") (HD.tOf K "longest") (HD.tOf K "_law_all_told") (HD.tOf K "law"))) (C:=clOf K) G2 m2 kp2 (F2.binds (ps:=["_law_script", "_law_k", "_law_many"]) λ_ _ _ _ _ _ us hl=>by obtain ⟨a,b,c,e⟩:=qoX hl; subst e; rfl)).e
 have N_12:=qrk (w:=w) (G:=(gL (HD.tOf K "stretches") (HD.tOf K "longest") (HD.tOf K "_law_all_told") (HD.tOf K "law"))) (C:=clOf K) (D 31 _ _ rfl) ht_12 hC_12 λlk hcd hc C0=>qrg (C:=clOf K) (P:=P) (w:=w) (mg:=mg) (base:=base) lk hcd hc nb C0 hb nd N_16 N_23 N_28 N_18 N_17 N_27 TK
 exact qoO (C:=clOf K) (P:=P) (w:=w) (mg:=mg) (base:=base) lk hcd (hcl _ _ ht_law) nb hC_law hb nd N_12 N_20 N_16 N_34 N_26 N_36 N_18 N_17 N_27 TK
end K85
end
section
open PySem PySem.W PyProof.Rows
set_option maxRecDepth 100000 in
set_option maxHeartbeats 0 in
theorem PySem.Challenge.cw_rowasks_k85_standing_refused_holds : PySem.Challenge.rw_rowasks_k85_standing_refused.Holds := by
 w_on; o_law
 refine holds_open (q:=K85.vq) (loose:=K85.lo) (Xt:=K85.xt) (XP:=XL K85.vq []) (Yf:=Hook.obs K85.hk) (Ya:=Hook.val K85.hk) (YP:=Hook.says K85.hk) (N:=20000) (HD.left_one K85.rX K85.rY) (Hook.of K85.hk) (Hook.keeps K85.hk) (λs e=>xl_of s (Bool.and_eq_true_iff.mp e).1) XL.keeps (by rfl) (by rfl) (by rfl) (λs e=>recFacts_of (Bool.and_eq_true_iff.mp e).2) (by rfl) (by first | assumption | decide+kernel) (by decide+kernel) ⟨rfl,rfl,rfl,rfl,rfl,by decide+kernel⟩ ?hw ?hc
 (case hw=>w_witness2)
 k_fill
 refine' HD.walkE (l:=PySem.Challenge.rw_rowasks_k85_standing_refused) (Ex:=λ_ K mg=>HD.Ex10 K mg) (tb:=K85.tb) (cs:=K85.cs) (nms:=K85.nms) (ys:=["stretches", "longest"]) (zs:=["_law_all_told", "law"]) (lq:=K85.lqs) (qz:=K85.qzs) (LV:=12) (i:=32) (t:=K85.t_law) rfl rfl rfl (λw h Y=>Y.1) ?_ ⟨rfl,by decide,by decide⟩ (λw=>by kernel_rfl) (λw=>by kernel_rfl) (λw=>by kernel_rfl) (λw=>by kernel_rfl) (λw=>by kernel_rfl) rfl (λns hl=>K85.law_true hl) (λ_ _ _ _ _ _ _=>rfl) (λw mg h X G=>HD.ex10_of X G (by kernel_rfl)) K85.mk
 intro y hy
 simp only[List.mem_append,List.mem_cons,List.not_mem_nil,or_false] at hy
 rcases hy with (rfl | rfl) | rfl | rfl
 ·exact ⟨_,rfl⟩
 ·exact ⟨_,rfl⟩
 ·exact ⟨_,rfl⟩
 ·exact ⟨_,rfl⟩
end
