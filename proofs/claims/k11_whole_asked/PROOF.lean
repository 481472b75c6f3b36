import PyProof.Rows.All
import Wide.All
import OpenK.AllK
import Wide.FinOn
import Lean
import PyProof.EqAt
import PyProof.EqKinds
import PyProof.TupleCall
import KE.KSortTup
import KE.KSortKey
import PyProof.ExcBaseAll.ValueError
import PyProof.ExcAttrAll.ValueError
import KE.KTryOn
import OpenK.KOwn
import PyProof.NeData
import PyProof.SetKind
import PyProof.Rows.SetFrom
import PyProof.CollectWalk
import KE.KDictOf
import KE.KDictList
import KE.KDictSum
import PyProof.FString5
import PyProof.WalksEnum
import PyProof.EnumMake
import PySem.Challenge.RW_rowasks_k11_whole_asked
set_option Elab.async false
set_option linter.all false
set_option maxRecDepth 100000
set_option maxHeartbeats 8000000
local macro_rules | `(tactic| trivial)=> `(tactic| first | exact Or.inl rfl | exact Or.inr rfl | exact ⟨rfl,rfl,rfl,by decide+kernel,rfl,by decide+kernel,by decide+kernel⟩ | (intro p hp; simp only[List.mem_cons,List.not_mem_nil,or_false] at hp; subst hp; exact ⟨rfl,rfl⟩))
section
namespace HD
open PySem PySem.W
def qvN:Stmt->Bool
 | .Assign (targets:=[.Name x _]) .. =>x== "__name__"
 | _=>false
def vw (p:Program):Program:={ p with main:={ p.main with body:=p.main.body.filter λs=> !qvN s } }
theorem left_two {p q:Program} {loose:List Str} {Xt:Shared->Bool} {α:Type} {Yf:Shared->α} {Ya:World->α} {N:Nat} (row:String)
  (hf: ∀w:World,((fencedOpening treeTable p w N).bind (topFrom treeTable p (w.withFollow row false) N)).map (λs=>(openSeen q loose (importedModules p.main.body) Xt true s,Yf s))=some (openGood q loose,Ya (w.withFollow row false)))
  (ht: ∀w:World,((fencedOpening treeTable p w N).bind (topFrom treeTable p (w.withFollow row true) N)).map (λs=>(openSeen q loose (importedModules p.main.body) Xt true s,Yf s))=some (openGood q loose,Ya (w.withFollow row true))):
  LeftO p q loose Xt Yf Ya N:=λw=>by
 have e:=World.withFollow_self w row
 unfold openEnds
 cases hb:w.params.followText row<;>rw[hb] at e
 ·have:=hf w; rw[e] at this; exact this
 ·have:=ht w; rw[e] at this; exact this
def lookS (p q:Program) (loose:List Str) (Xt:Shared->Bool) (s:Shared):=openSeen q loose (importedModules p.main.body) Xt true s
end HD
end
section
open PySem PySem.W PyProof.Rows
namespace K11
abbrev vq:Program:=HD.vw PySem.Challenge.pw_rowasks_k11_whole_asked
abbrev lo:List Str:=["NUMBER_STEPS", "COUNT_STEPS", "BARE_STEPS"]
abbrev xt:Shared->Bool:=λs=>xlAt vq [] s&&recOk (RowW.records PySem.Challenge.rw_rowasks_k11_whole_asked.row.toRowW) s
section
local macro_rules
 | `(tactic| o_head $H)=> `(tactic| (exact False.elim (by assumption); exact $H))
set_option maxRecDepth 100000 in
set_option maxHeartbeats 0 in
noncomputable def hk:Hook:=by
 refine (λ(_:False->PySem.Challenge.rw_rowasks_k11_whole_asked.Holds)=> ?H) ?pf
 rotate_left
 intro hp
 w_on; o_law; k_head
end
set_option maxRecDepth 100000 in
set_option maxHeartbeats 0 in
theorem runF: ∀w:World,((fencedOpening treeTable PySem.Challenge.pw_rowasks_k11_whole_asked w 20000).bind (topFrom treeTable PySem.Challenge.pw_rowasks_k11_whole_asked (w.withFollow "special-get-raises" false) 20000)).map (λs=>(openSeen vq lo (importedModules PySem.Challenge.pw_rowasks_k11_whole_asked.main.body) xt true s,Hook.obs hk s))=some (openGood vq lo,Hook.val hk (w.withFollow "special-get-raises" false)):=λw=>by kernel_rfl
set_option maxRecDepth 100000 in
set_option maxHeartbeats 0 in
theorem runT: ∀w:World,((fencedOpening treeTable PySem.Challenge.pw_rowasks_k11_whole_asked w 20000).bind (topFrom treeTable PySem.Challenge.pw_rowasks_k11_whole_asked (w.withFollow "special-get-raises" true) 20000)).map (λs=>(openSeen vq lo (importedModules PySem.Challenge.pw_rowasks_k11_whole_asked.main.body) xt true s,Hook.obs hk s))=some (openGood vq lo,Hook.val hk (w.withFollow "special-get-raises" true)):=λw=>by kernel_rfl
end K11
end
section
namespace L2
open PySem PySem.Spec PyProof.Rows
abbrev Key:=Sum Int Str
def qjc:Key->Value->Bool
 | .inl k,v=>Value.isInt k v
 | .inr x,v=>Value.isStrOf x v
def qvM (w:World):Key->Int
 | .inl k=>hashInt k
 | .inr x=>hashStr w x
theorem qaY: ∀{k:Key} {v:Value},qjc k v=true->(∃i t,k=Sum.inl i/\v=Value.int i t)\/(∃x t,k=Sum.inr x/\v=Value.str x t)
 | .inl i,v,h=>by
  obtain ⟨t,e⟩:=Value.isInt_shape (k:=i) (v:=v) h
  exact .inl ⟨i,t,rfl,e⟩
 | .inr x,v,h=>by
  obtain ⟨t,e⟩:=Value.isStrOf_shape (x:=x) (v:=v) h
  exact .inr ⟨x,t,rfl,e⟩
theorem qkY (i:Int) (t:Tok):qjc (.inl i) (.int i t)=true:=by simp[qjc,Value.isInt]
theorem qkX (x:Str) (t:Tok):qjc (.inr x) (.str x t)=true:=by simp[qjc,Value.isStrOf]
theorem qrq (a b:Int):decide ((Sum.inl a:Key)=Sum.inl b)=(a==b):=by
 by_cases e:a=b
 ·subst e; simp
 ·have h: ¬(Sum.inl a:Key)=Sum.inl b:=λq=>e (Sum.inl.inj q)
  rw[decide_eq_false h]
  exact (beq_eq_false_iff_ne.mpr e).symm
theorem qrn (a b:Str):decide ((Sum.inr a:Key)=Sum.inr b)=decide (a=b):=by
 by_cases e:a=b
 ·subst e; simp
 ·have h: ¬(Sum.inr a:Key)=Sum.inr b:=λq=>e (Sum.inr.inj q)
  rw[decide_eq_false h,decide_eq_false e]
theorem qrp (a:Int) (b:Str):decide ((Sum.inl a:Key)=Sum.inr b)=false:=decide_eq_false (λq=>nomatch q)
theorem qro (a:Str) (b:Int):decide ((Sum.inr a:Key)=Sum.inl b)=false:=decide_eq_false (λq=>nomatch q)
def qa2 (prog:Program) (w:World):PySem.KeyKind prog w Key where
 is:=qjc
 hash:=qvM w
 inj:=λv a b ha hb=>by
  rcases qaY ha with ⟨i,t,rfl,rfl⟩ | ⟨x,t,rfl,rfl⟩
  ·rcases qaY hb with ⟨j,u,rfl,e⟩ | ⟨y,u,rfl,e⟩
   ·injection e with e1 _; rw[e1]
   ·exact nomatch e
  ·rcases qaY hb with ⟨j,u,rfl,e⟩ | ⟨y,u,rfl,e⟩
   ·exact nomatch e
   ·injection e with e1 _; rw[e1]
 byValue:=λk v h=>by
  rcases qaY h with ⟨i,t,rfl,rfl⟩ | ⟨x,t,rfl,rfl⟩<;>rfl
 pyHash:=λhv h=>by
  rcases qaY hv with ⟨i,t,rfl,rfl⟩ | ⟨x,t,rfl,rfl⟩
  ·exact wpAny_pyHash_int h
  ·exact wpAny_pyHash_str h
 eqBool:=λhu hv h=>by
  rcases qaY hu with ⟨i,t,rfl,rfl⟩ | ⟨x,t,rfl,rfl⟩
  ·rcases qaY hv with ⟨j,u,rfl,rfl⟩ | ⟨y,u,rfl,rfl⟩
   ·rw[qrq] at h; exact wpAny_eqBool_int h
   ·rw[qrp] at h; exact SeqAt.EqAt.int_str i t y u _ _ _ _ h
  ·rcases qaY hv with ⟨j,u,rfl,rfl⟩ | ⟨y,u,rfl,rfl⟩
   ·rw[qro] at h; exact SeqAt.EqAt.str_int x t j u _ _ _ _ h
   ·rw[qrn] at h; exact wpAny_eqBool_str h
 «strs» :=λk x t v h=>by
  rcases qaY h with ⟨i,u,rfl,e⟩ | ⟨y,u,rfl,e⟩
  ·exact nomatch e
  ·injection e with e1 _
   subst e1
   cases v<;>rfl
theorem qg5 (prog:Program) (w:World) (i:Int) (t:Tok):(qa2 prog w).is (.inl i) (.int i t)=true:=qkY i t
theorem qg4 (prog:Program) (w:World) (x:Str) (t:Tok):(qa2 prog w).is (.inr x) (.str x t)=true:=qkX x t
end L2
namespace L2
open PySem PySem.Spec PyProof.Rows
inductive V where
 | non | bl (b:Bool) | int (i:Int) | str (x:Str) | byt (b:Array UInt8) | flt (b:UInt64) | ref (a:Addr) | ty (n:String)
 deriving DecidableEq
def RelV:V->Value->Prop
 | .non,u=>u=Value.none
 | .bl b,u=>u=Value.bool b
 | .int i,u=> ∃t,u=Value.int i t
 | .str x,u=> ∃t,u=Value.str x t
 | .byt b,u=> ∃t,u=Value.bytes b t
 | .flt b,u=> ∃t,u=Value.float b t
 | .ref a,u=>u=Value.ref a
 | .ty n,u=>u=Value.type n
abbrev Vals:List V->List Value->Prop:=Paired RelV
theorem Vals.length {xs:List V} {us:List Value} (r:Vals xs us):xs.length=us.length:=Paired.length r
theorem Vals.get: ∀{xs:List V} {us:List Value} {i:Nat} {x:V},Vals xs us->xs[i]? =some x->∃u,us[i]? =some u/\RelV x u
 | _,_,_,_,.nil,e=>by simp at e
 | _,_,0,_,.cons r _,e=>by simp at e; subst e; exact ⟨_,rfl,r⟩
 | _,_,i+1,x,.cons _ t,e=>by
  obtain ⟨u,h1,h2⟩:=Vals.get (i:=i) (x:=x) t (by simpa using e)
  exact ⟨u,by simpa using h1,h2⟩
theorem Vals.append: ∀{xs ys:List V} {us ws:List Value},Vals xs us->Vals ys ws->Vals (xs++ys) (us++ws)
 | _,_,_,_,.nil,s=>s
 | _,_,_,_,.cons r t,s=>.cons r (Vals.append t s)
theorem Vals.take: ∀{xs:List V} {us:List Value} (n:Nat),Vals xs us->Vals (xs.take n) (us.take n)
 | _,_,0,_=>.nil
 | _,_,_+1,.nil=>.nil
 | _,_,n+1,.cons r t=>.cons r (Vals.take n t)
theorem Vals.drop: ∀{xs:List V} {us:List Value} (n:Nat),Vals xs us->Vals (xs.drop n) (us.drop n)
 | _,_,0,r=>r
 | _,_,_+1,.nil=>.nil
 | _,_,n+1,.cons _ t=>Vals.drop n t
def qjC:Option V->Option Value->Prop
 | some v,some u=>RelV v u
 | none,none=>True
 | _,_=>False
def KV {κ:Type}:List (κ×V)->List (κ×Value)->Prop:=Paired λ(p:κ×V) (q:κ×Value)=>p.1=q.1/\RelV p.2 q.2
def kV:Key->V
 | .inl i=>.int i
 | .inr x=>.str x
inductive HO where
 | lst (xs:List V)
 | tup (xs:List V)
 | dK (kvs:List (Key×V)) | dT (kvs:List (List Key×V))
 | set (S:Int->Bool) (n:Nat)
 | ins (C dx:Addr) (fs:List (Str×V))
 | own (x:Addr)
 | xd (fs:List (Str×V))
 | met (f x:Addr)
 | rng (lo hi:Int)
 | frz (o:Obj) (u:HO)
 | tbl (ps:Array Value)
 | ext (φ:Heap->Prop)
abbrev Hp:=Addr->Option HO
def upd (H:Hp) (a:Addr) (o:HO):Hp:=λb=>if b=a then some o else H b
theorem qal {H:Hp} {a:Addr} {o:HO}:upd H a o a=some o:=by unfold upd; rw[if_pos rfl]
theorem qaj {H:Hp} {a b:Addr} {o:HO} (h:b≠a):upd H a o b=H b:=by unfold upd; rw[if_neg h]
theorem qps {H:Hp} {a b:Addr} {o u:HO} (h:H a=some o) (h':H b=some u) (d:o≠u):a≠b:=by
 intro e; subst e; rw[h] at h'; exact d (Option.some.inj h')
theorem qap {H:Hp} {a b:Addr} {o:HO} (h:H a=some o) (h':H b=none):a≠b:=by
 intro e; subst e; rw[h] at h'; cases h'
section
variable (P:Program) (w:World)
def qba (H:Hp) (h:Heap) (a:Addr):HO->Prop
 | .lst xs=>xs.length<=sizeLine/\∃(its:List Value) (n:Nat),Vals xs its/\h.get? a=some { cls:=.type "list",data:=.seq its.toArray n }
 | .tup xs=>xs.length<=sizeLine/\∃its:List Value,Vals xs its/\IsTup h a its.toArray
 | .dK kvs=>kvs.length<=sizeLine/\(a==sysModules)=false/\∃vs,KV kvs vs/\h.DictOf (qa2 P w) a vs
 | .dT kvs=>kvs.length<=sizeLine/\(a==sysModules)=false/\∃xs:List (List Key×Addr×Value),
   Paired (λ(p:List Key×V) (q:List Key×Addr×Value)=>p.1=q.1/\H q.2.1=some (.tup (p.1.map kV))/\RelV p.2 q.2.2) kvs xs/\
   ∃o es ep,h.get? a=some o/\o.ExactDict/\o.data= .dict es ep/\es.toList=xs.map (entryOfKey (tupleKind (qa2 P w)))/\(xs.map (·.1)).Nodup
 | .set S n=>h.SetOf (intKind P w) a S n
 | .ins C dx fs=>H dx=some (.own a)/\fs.length<=1000/\dx≠a/\h.get? a=some (PySem.W.instObj C dx)/\
   ∃mA,h.Ns1 dx mA/\(∀f,qjC (fs.lookup f) (mA f))/\PySem.Within mA (fs.map (·.1))
 | .own _=> ∃o,h.get? a=some o
 | .xd fs=> ∃mA,h.Ns1 a mA/\∀f,qjC (fs.lookup f) (mA f)
 | .rng lo hi=> ∃t u v,h.get? a=some { cls:=.type "range",data:=.fields #[.int lo t,.int hi u,.int 1 v] }
 | .frz o u=>h.get? a=some o/\qba H h a u
 | .tbl ps=>h.get? a=some { cls:=.none,data:=.fields ps }
 | .met f x=>h.get? a=some (PySem.W.methodObj (.ref f) (.ref x))
 | .ext φ=>φ h/\(∃o,h.get? a=some o)/\∀h1 h2:Heap,φ h1->(∀o,h1.get? a=some o->h2.get? a=some o)->φ h2
def HOk (H:Hp) (h:Heap):Prop:= ∀a o,H a=some o->qba P w H h a o
end
section
variable {P:Program} {w:World} {H H':Hp} {h h':Heap} {a:Addr} {o:HO}
theorem qba.lt (x:qba P w H h a o):a<h.objs.size:=by
 cases o with
 | lst xs=>obtain ⟨_,_,_,_,e⟩:=x; exact Heap.lt_size e
 | tup xs=>obtain ⟨_,_,_,p⟩:=x; exact p.lt
 | dK kvs=>obtain ⟨_,_,_,_,o,_,_,e,_⟩:=x; exact Heap.lt_size e
 | dT kvs=>obtain ⟨_,_,_,_,o,_,_,e,_⟩:=x; exact Heap.lt_size e
 | set S n=>obtain ⟨o,_,_,_,e,_⟩:=x; exact Heap.lt_size e
 | ins C dx fs=>obtain ⟨_,_,_,e,_⟩:=x; exact Heap.lt_size e
 | own y=>obtain ⟨_,e⟩:=x; exact Heap.lt_size e
 | xd fs=>obtain ⟨_,⟨_,_,_,e,_⟩,_⟩:=x; exact Heap.lt_size e
 | rng lo hi=>obtain ⟨_,_,_,e⟩:=x; exact Heap.lt_size e
 | frz ob u=>obtain ⟨e,_⟩:=x; exact Heap.lt_size e
 | tbl ps=>exact Heap.lt_size (show h.get? a=some _ from x)
 | met f y=>exact Heap.lt_size (show h.get? a=some _ from x)
 | ext φ=>obtain ⟨_,⟨_,e⟩,_⟩:=x; exact Heap.lt_size e
theorem Paired.mapP {α β:Type} {F G:α->β->Prop}: ∀{l₁:List α} {l₂:List β},Paired F l₁ l₂->(∀a b,F a b->G a b)->Paired G l₁ l₂
 | _,_,.nil,_=>.nil
 | _,_,.cons r t,f=>.cons (f _ _ r) (Paired.mapP t f)
theorem qba.stay (x:qba P w H h a o) (k: ∀b u,(b=a\/H b=some (.own a))->h.get? b=some u->h'.get? b=some u)
  (ho: ∀b,H b=some (.own a)->H' b=some (.own a)) (ht: ∀b xs,H b=some (.tup xs)->H' b=some (.tup xs)):qba P w H' h' a o:=by
 induction o with
 | lst xs=>obtain ⟨z,its,n,r,e⟩:=x; exact ⟨z,its,n,r,k _ _ (.inl rfl) e⟩
 | tup xs=>obtain ⟨z,its,r,ob,e,c⟩:=x; exact ⟨z,its,r,ob,k _ _ (.inl rfl) e,c⟩
 | dK kvs=>obtain ⟨z,y,vs,r,ob,es,ep,e,c⟩:=x; exact ⟨z,y,vs,r,ob,es,ep,k _ _ (.inl rfl) e,c⟩
 | dT kvs=>
  obtain ⟨z,y,xs,r,ob,es,ep,e,c⟩:=x
  exact ⟨z,y,xs,Paired.mapP r λp q z=>⟨z.1,ht _ _ z.2.1,z.2.2⟩,ob,es,ep,k _ _ (.inl rfl) e,c⟩
 | set S n=>obtain ⟨ob,es,ep,t,e,c⟩:=x; exact ⟨ob,es,ep,t,k _ _ (.inl rfl) e,c⟩
 | ins C dx fs=>
  obtain ⟨d,z,ne,e,mA,⟨od,es,ep,e2,c⟩,r⟩:=x
  exact ⟨ho _ d,z,ne,k _ _ (.inl rfl) e,mA,⟨od,es,ep,k _ _ (.inr d) e2,c⟩,r⟩
 | own y=>obtain ⟨ob,e⟩:=x; exact ⟨ob,k _ _ (.inl rfl) e⟩
 | xd fs=>obtain ⟨mA,⟨od,es,ep,e,c⟩,r⟩:=x; exact ⟨mA,⟨od,es,ep,k _ _ (.inl rfl) e,c⟩,r⟩
 | rng lo hi=>obtain ⟨t,u,v,e⟩:=x; exact ⟨t,u,v,k _ _ (.inl rfl) e⟩
 | frz ob u ih=>obtain ⟨e,q⟩:=x; exact ⟨k _ _ (.inl rfl) e,ih q⟩
 | tbl ps=>
  have e:h.get? a=some { cls:=.none,data:=.fields ps }:=x
  show h'.get? a=some { cls:=.none,data:=.fields ps }
  exact k a _ (.inl rfl) e
 | met f y=>
  have e:h.get? a=some (PySem.W.methodObj (.ref f) (.ref y)):=x
  show h'.get? a=some (PySem.W.methodObj (.ref f) (.ref y))
  exact k a _ (.inl rfl) e
 | ext φ=>obtain ⟨p,⟨o,e⟩,st⟩:=x; exact ⟨st _ _ p λo q=>k _ _ (.inl rfl) q,⟨o,k _ _ (.inl rfl) e⟩,st⟩
theorem HOk.lt (x:HOk P w H h) (e:H a=some o):a<h.objs.size:=(x a o e).lt
theorem HOk.fresh (x:HOk P w H h) (e:h.objs.size<=a):H a=none:=by
 cases q:H a with
 | none=>rfl
 | some u=>exact absurd (Nat.lt_of_lt_of_le (x.lt q) e) (Nat.lt_irrefl _)
theorem HOk.kept (x:HOk P w H h) (k: ∀b u,h.get? b=some u->h'.get? b=some u):HOk P w H h':=λa o e=>
 (x a o e).stay (λb u _ q=>k b u q) (λ_ q=>q) λ_ _ q=>q
theorem HOk.laid (x:HOk P w H h) (k: ∀b u,h.get? b=some u->h'.get? b=some u) (hp:h.objs.size<=a) (new:qba P w (upd H a o) h' a o):HOk P w (upd H a o) h':=λb u e=>by
 have hn:=x.fresh hp
 by_cases hb:b=a
 ·subst hb; rw[qal] at e; cases e; exact new
 ·rw[qaj hb] at e
  exact (x b u e).stay (λc v _ q=>k c v q) (λc q=>by rw[qaj (qap q hn)]; exact q) λc xs q=>by rw[qaj (qap q hn)]; exact q
end
def Rd (H:Hp) (a:Addr) (u:HO):Prop:=H a=some u\/∃o,H a=some (.frz o u)
theorem Rd.ok {P:Program} {w:World} {H:Hp} {h:Heap} {a:Addr} {u:HO} (r:Rd H a u) (x:HOk P w H h):qba P w H h a u:=by
 rcases r with r | ⟨o,r⟩
 ·exact x a u r
 ·obtain ⟨_,q⟩:=x a _ r
  exact q
def Mut:Option HO->Prop
 | some (.lst _)=>True
 | some (.dK _)=>True
 | some (.dT _)=>True
 | some (.set _ _)=>True
 | some (.ins _ _ _)=>True
 | some (.ext _)=>True
 | _=>False
section
variable {P:Program} {w:World} {H:Hp} {h h':Heap} {x e:Addr} {o':HO}
theorem HOk.write (ok:HOk P w H h) (mu:Mut (H x)) (he:e=x\/H e=some (.own x)) (k: ∀b u,b≠e->h.get? b=some u->h'.get? b=some u) (heo: ∃u,h'.get? e=some u)
  (new:qba P w (upd H x o') h' x o'):HOk P w (upd H x o') h':=λb u q=>by
 have nown: ∀c y,H c=some (.own y)->c≠x:=λc y r z=>by subst z; rw[r] at mu; exact mu
 have ntup: ∀c xs,H c=some (.tup xs)->c≠x:=λc xs r z=>by subst z; rw[r] at mu; exact mu
 by_cases hb:b=x
 ·subst hb; rw[qal] at q; cases q; exact new
 ·rw[qaj hb] at q
  by_cases hbe:b=e
  ·have q':H b=some (.own x):=by
    rcases he with z | z
    ·exact absurd (hbe.trans z) hb
    ·rw[hbe]; exact z
   rw[q] at q'; cases q'
   obtain ⟨v,hv⟩:=heo
   exact ⟨v,by rw[hbe]; exact hv⟩
  ·refine (ok b u q).stay (λc v hc r=>k c v ?_ r) (λc r=>by rw[qaj (nown c b r)]; exact r) λc xs r=>by rw[qaj (ntup c xs r)]; exact r
   rcases hc with rfl | hc
   ·exact hbe
   ·rintro rfl
    rcases he with z | z
    ·exact nown c b hc z
    ·rw[hc] at z; cases z; exact hb rfl
end
structure Un (fs ex:List Addr) (H H':Hp) (h h':Heap):Prop where
 keep: ∀b o,h.get? b=some o->H b=none->b∉fs->b∉ex->h'.get? b=some o
 slot: ∀b o,h.get? b=some o->H b=none->b∈fs->b∉ex->∃sl,h'.get? b=some { o with slots:=sl }
 free: ∀b o,h.get? b=some o->H b=none->b∉ex->H' b=none
 there: ∀b o,h.get? b=some o->b∉ex->∃o',h'.get? b=some o'
 tups: ∀b xs,H b=some (.tup xs)->H' b=some (.tup xs)
 frzs: ∀b o u,H b=some (.frz o u)->H' b=some (.frz o u)
 tbls: ∀b ps,H b=some (.tbl ps)->∃more,H' b=some (.tbl (ps++more))
section
variable {fs fs' ex ex':List Addr} {H H1 H2:Hp} {h h1 h2 h':Heap} {a x e:Addr} {o:HO}
theorem Un.any (u:Un fs ex H H1 h h1) {b:Addr} {ob:Obj} (q:h.get? b=some ob) (n:H b=none) (hx:b∉ex): ∃sl,h1.get? b=some { ob with slots:=sl }:=by
 by_cases hb:b∈fs
 ·exact u.slot b ob q n hb hx
 ·exact ⟨ob.slots,u.keep b ob q n hb hx⟩
theorem Un.kept (k: ∀b u,h.get? b=some u->h'.get? b=some u):Un fs ex H H h h':=
 ⟨λb ob q _ _ _=>k b ob q,λb ob q _ _ _=>⟨ob.slots,k b ob q⟩,λ_ _ _ n _=>n,λb ob q _=>⟨ob,k b ob q⟩,λ_ _ q=>q,λ_ _ _ q=>q,λ_ ps q=>⟨#[],by rw[q]; simp⟩⟩
theorem Un.refl:Un fs ex H H h h:=Un.kept λ_ _ q=>q
theorem Un.laid (k: ∀b u,h.get? b=some u->h'.get? b=some u) (hp:h.objs.size<=a) (hn:H a=none):Un fs ex H (upd H a o) h h' where
 keep:=λb u q _ _ _=>k b u q
 slot:=λb u q _ _ _=>⟨u.slots,k b u q⟩
 free:=λb u q n _=>by rw[qaj (Nat.ne_of_lt (Nat.lt_of_lt_of_le (Heap.lt_size q) hp))]; exact n
 there:=λb u q _=>⟨u,k b u q⟩
 tups:=λb xs q=>by rw[qaj (qap q hn)]; exact q
 frzs:=λb u xs q=>by rw[qaj (qap q hn)]; exact q
 tbls:=λb ps q=>⟨#[],by rw[qaj (qap q hn),q]; simp⟩
theorem Un.write (mu:Mut (H x)) (he:e=x\/H e=some (.own x)) (k: ∀b u,b≠e->h.get? b=some u->h'.get? b=some u) (heo: ∃u,h'.get? e=some u):Un fs ex H (upd H x o) h h':=by
 have hx: ∀b,H b=none->b≠x:=λb n z=>by subst z; rw[n] at mu; exact mu
 have hb: ∀b,H b=none->b≠e:=λb n z=>by
  subst z
  rcases he with r | r
  ·exact hx b n r
  ·rw[n] at r; cases r
 have hm: ∀b u,H b=some u->¬Mut (some u)->b≠x:=λb u q nm z=>by subst z; rw[q] at mu; exact nm mu
 refine ⟨λb u q n _ _=>k b u (hb b n) q,λb u q n _ _=>⟨u.slots,k b u (hb b n) q⟩,λb u q n _=>by rw[qaj (hx b n)]; exact n,λb u q _=> ?_,
  λb xs q=>by rw[qaj (hm b _ q λz=>z)]; exact q,λb u xs q=>by rw[qaj (hm b _ q λz=>z)]; exact q,λb ps q=>⟨#[],by rw[qaj (hm b _ q λz=>z),q]; simp⟩⟩
 by_cases hbe:b=e
 ·subst hbe; exact heo
 ·exact ⟨u,k b u hbe q⟩
end
def trk (h:Heap) (H:Hp):List Addr:=(List.range h.objs.size).filter λa=>(H a).isSome
def qk9 (h:Heap) (H:Hp):Heap:=PySem.W.hideAll h (trk h H)
theorem qk8 (h:Heap) (H:Hp):(qk9 h H).objs.size=h.objs.size:=PySem.W.hideAll_size _ _
theorem qne {h:Heap} {H:Hp} {b:Addr} {o:Obj} (e:h.get? b=some o) (n:H b=none):(qk9 h H).get? b=some o:=
 PySem.W.hideAll_get _ e λhm=>by
  have q:(H b).isSome=true:=(List.mem_filter.mp hm).2
  rw[n] at q; simp at q
theorem qpl {h:Heap} {H:Hp} {b:Addr} {o:Obj} (e:(qk9 h H).get? b=some o):h.get? b=some o/\H b=none:=by
 have e':h.get? b=some o:=PySem.W.of_hideAll (trk h H) e
 refine ⟨e',?_⟩
 cases q:H b with
 | none=>rfl
 | some x=>
  have hm:b∈trk h H:=List.mem_filter.mpr ⟨List.mem_range.mpr (Heap.lt_size e'),by simp[q]⟩
  have z:(qk9 h H).get? b=none:=PySem.W.hideAll_none (trk h H) hm
  rw[z] at e; cases e
def qqb (g h:Heap) (L:Addr):List (Addr×Obj):=(List.range h.objs.size).filterMap λa=>if a=L\/(g.get? a).isSome=true then none else (h.get? a).map λo=>(a,o)
def qce (g h:Heap) (L d:Addr):List (Addr×Obj):=(qqb g h L).filter λp=>decide (p.1≠d)
end L2
namespace L2
open PySem PySem.Spec PyProof.Rows
structure Mod (K:PySem.W.Frag) (mg:Str->Option Value) (base:Heap):Prop where
 kin:K.In base
 glob:base.Ns mainGlobals mg
 blt: ∃mb,base.Ns builtinsNs mb/\∀x:Str,x≠ "__name__" ->mb x=bootBuiltins x
 nolimit:base.NoLimit
structure Cx where
 prog:Program
 w:World
 K:PySem.W.Frag
 mg:Str->Option Value
 base:Heap
 A:Around
 N:List Str
 s₀:Shared
 H₀:Hp
 env:Env
 outer:List Env
 stack:List Env
 ex:List Addr
 fn:Str->Bool
 calm:Bool
 pn:List (Addr×Obj)
 xe:Value->Shared->Prop
def frs (l:List Env):List Addr:=l.filterMap (·.frame)
abbrev Cx.fs (X:Cx):List Addr:=frs X.outer
def Vis (sc:Scope) (x:Str):Prop:=sc.names.lookup x=some .local\/sc.names.lookup x=some .cell\/sc.names.lookup x=some .free
def Loc (sc:Scope) (x:Str):Prop:=sc.names.lookup x=some .local\/sc.names.lookup x=some .cell
def qwd (env:Env) (h:Heap) (m:Str->Option Value) (x:Str) (u:Value):Prop:=
 (env.kindOf x=some .local/\m x=some u)\/((env.kindOf x=some .cell\/env.kindOf x=some .free)/\∃c,env.cells.lookup x=some c/\h.IsCell c (some u))
structure Cx.Ok (X:Cx):Prop where
 mod:Mod X.K X.mg X.base
 kind:X.env.scope.kind= .function
 glob:X.env.globals=mainGlobals
 blt:X.env.builtins=builtinsNs
 above:X.s₀.heap.objs.size<=X.env.locals
 inj: ∀x y c,X.env.cells.lookup x=some c->X.env.cells.lookup y=some c->x=y
 has: ∀x,(X.env.kindOf x=some .cell\/X.env.kindOf x=some .free)->∃c,X.env.cells.lookup x=some c
 cab: ∀x c,X.fn x=true->X.env.cells.lookup x=some c->X.s₀.heap.objs.size<=c
 hd:X.calm=true->X.A.handled=none
 frames:X.A.frames=some X.stack
 stk:X.stack=X.outer\/(X.stack=X.env::X.outer/\X.env.frame=some X.env.locals)
 exf: ∀b∈X.ex,b≠X.env.locals/\∀x c,X.env.cells.lookup x=some c->c≠b
 bs: ∀b o,X.base.get? b=some o->X.s₀.heap.get? b=some o/\X.H₀ b=none
 bsz:X.base.objs.size<=X.s₀.heap.objs.size
 noex: ∀b o,X.base.get? b=some o->b∉X.ex
 exfs: ∀b∈X.ex,b∉X.fs
 funs:X.s₀.heap.FunFrames X.base X.outer
 frf: ∀b∈X.fs,X.H₀ b=none
structure Inv (X:Cx) (pins:List (Addr×Obj)) (σ:List (Option V)) (H:Hp) (s:Shared):Prop where
 ok:X.Ok
 os:s.os=X.s₀.os
 bare:AllBare s.gens
 base:Un X.fs X.ex X.H₀ H X.s₀.heap s.heap
 loc: ∃m,s.heap.Ns X.env.locals m/\∀(i:Nat) (x:Str) (v:V),X.N[i]? =some x->σ[i]? =some (some v)->Vis X.env.scope x->∃u,RelV v u/\qwd X.env s.heap m x u
 cell: ∀x c,X.env.cells.lookup x=some c->∃v,s.heap.IsCell c v
 free:H X.env.locals=none
 freeC: ∀x c,X.env.cells.lookup x=some c->H c=none
 pin: ∀p∈X.pn++pins,s.heap.get? p.1=some p.2/\H p.1=none/\p.1≠X.env.locals/\p.1∉X.fs/\∀v,p.2.data≠.cell v
 hok:HOk X.prog X.w H s.heap
 len:σ.length=X.N.length
section
variable {X:Cx} {pins:List (Addr×Obj)} {σ:List (Option V)} {H H':Hp} {s:Shared} {h':Heap}
theorem Cx.Ok.nofr (ok:X.Ok) {b:Addr} {o:Obj} (e:X.base.get? b=some o):b∉X.fs:=λhb=>by
 have:=(ok.funs.mem hb).1
 rw[e] at this; cases this
theorem Inv.bs (I:Inv X pins σ H s): ∀b o,X.base.get? b=some o->s.heap.get? b=some o/\H b=none:=λb o e=>
 ⟨I.base.keep b o (I.ok.bs b o e).1 (I.ok.bs b o e).2 (I.ok.nofr e) (I.ok.noex b o e),I.base.free b o (I.ok.bs b o e).1 (I.ok.bs b o e).2 (I.ok.noex b o e)⟩
theorem Inv.bk (I:Inv X pins σ H s): ∀b o,X.base.get? b=some o->s.heap.get? b=some o:=λb o e=>(I.bs b o e).1
theorem Inv.mod (I:Inv X pins σ H s):Mod X.K X.mg X.base:=I.ok.mod
theorem Inv.kIn (I:Inv X pins σ H s):X.K.In s.heap:=I.ok.mod.kin.keeps I.bk
theorem Inv.lt (I:Inv X pins σ H s):X.env.locals<s.heap.objs.size:=let ⟨_,hn,_⟩:=I.loc; hn.lt
theorem Inv.sz (I:Inv X pins σ H s):X.s₀.heap.objs.size<=s.heap.objs.size:=Nat.le_trans I.ok.above (Nat.le_of_lt I.lt)
theorem Inv.nofs (I:Inv X pins σ H s) {a:Addr} (h:s.heap.objs.size<=a):a∉X.fs:=λhb=>by
 obtain ⟨_,o,ho,_⟩:=I.ok.funs.mem hb
 exact absurd (Nat.lt_of_lt_of_le (Heap.lt_size ho) (Nat.le_trans I.sz h)) (Nat.lt_irrefl _)
theorem Inv.cne (I:Inv X pins σ H s): ∀x c,X.env.cells.lookup x=some c->c≠X.env.locals:=λx c e z=>by
 obtain ⟨v,o,ho,hd⟩:=I.cell x c e
 obtain ⟨m,⟨o',es,ep,ho',hd',_⟩,_⟩:=I.loc
 rw[z,ho'] at ho; cases ho; rw[hd'] at hd; cases hd
theorem Inv.funs (I:Inv X pins σ H s):s.heap.FunFrames X.base X.outer:=by
 have all: ∀(l:List Env),(∀b∈frs l,b∈X.fs)->X.s₀.heap.FunFrames X.base l->s.heap.FunFrames X.base l:=by
  intro l
  induction l with
  | nil=>intro _ _; trivial
  | cons env r ih=>
   intro hs hl
   obtain ⟨hk,⟨L,o,hf,hn,ho,hd⟩,hr⟩:=hl
   have hL:L∈X.fs:=hs L (by unfold frs; rw[List.filterMap_cons,hf]; exact List.mem_cons_self)
   obtain ⟨sl,e⟩:=I.base.slot L o ho (I.ok.frf L hL) hL λz=>I.ok.exfs L z hL
   exact ⟨hk,⟨L,_,hf,hn,e,hd⟩,ih (λb hb=>hs b (by unfold frs; rw[List.filterMap_cons,hf]; exact List.mem_cons_of_mem _ hb)) hr⟩
 exact all X.outer (λ_ hb=>hb) I.ok.funs
theorem Inv.stack (I:Inv X pins σ H s):s.heap.FunFrames X.base X.stack:=by
 rcases I.ok.stk with e | ⟨e,hf⟩
 ·rw[e]; exact I.funs
 ·rw[e]
  obtain ⟨m,hn,_⟩:=I.loc
  refine .cons (by rw[I.ok.kind]; decide) hf hn ?_ I.funs
  exact Heap.get?_none_of_le (Nat.le_trans I.ok.bsz I.ok.above)
theorem Inv.stkSub (I:Inv X pins σ H s): ∀b∈frs X.stack,b∈X.env.locals::X.fs:=λb hb=>by
 rcases I.ok.stk with e | ⟨e,hf⟩
 ·rw[e] at hb; exact List.mem_cons_of_mem _ hb
 ·rw[e] at hb
  unfold frs at hb
  rw[List.filterMap_cons,hf] at hb
  exact hb
theorem Inv.stkFree (I:Inv X pins σ H s): ∀b∈frs X.stack,H b=none:=λb hb=>by
 rcases List.mem_cons.mp (I.stkSub b hb) with e | hb
 ·rw[e]; exact I.free
 ·obtain ⟨_,o,ho,_⟩:=I.ok.funs.mem hb
  exact I.base.free b o ho (I.ok.frf b hb) λz=>I.ok.exfs b z hb
theorem Inv.step {g':Array GenState} {t':Nat} {d':Drawn} {ch:List Addr} (I:Inv X pins σ H s)
  (hch: ∀b∈ch,(b∈X.ex\/X.s₀.heap.objs.size<=b)/\b≠X.env.locals/\(∀x c,X.env.cells.lookup x=some c->c≠b)/\∀p∈X.pn++pins,p.1≠b)
  (keep: ∀b o,b≠X.env.locals->b∉X.fs->b∉ch->s.heap.get? b=some o->H b=none->h'.get? b=some o)
  (slot: ∀b o,b≠X.env.locals->b∈X.fs->b∉ch->s.heap.get? b=some o->H b=none->∃sl,h'.get? b=some { o with slots:=sl }) (free: ∀b o,b∉ch->s.heap.get? b=some o->H b=none->H' b=none)
  (there: ∀b o,b∉ch->s.heap.get? b=some o->∃o',h'.get? b=some o')
  (tups: ∀b xs,H b=some (.tup xs)->H' b=some (.tup xs)) (frzs: ∀b o u,H b=some (.frz o u)->H' b=some (.frz o u)) (tbls: ∀b ps,H b=some (.tbl ps)->∃more,H' b=some (.tbl (ps++more)))
  (ns: ∀m,s.heap.Ns X.env.locals m->h'.Ns X.env.locals m) (hok:HOk X.prog X.w H' h') (hg:AllBare g'):
  Inv X pins σ H' { s with heap:=h',gens:=g',drawn:=d',toks:=t' }:=by
 have neL: ∀b o,X.s₀.heap.get? b=some o->b≠X.env.locals:=λb o e=>Nat.ne_of_lt (Nat.lt_of_lt_of_le (Heap.lt_size e) I.ok.above)
 have neC: ∀b o,X.s₀.heap.get? b=some o->b∉X.ex->b∉ch:=λb o e hx hb=>by
  rcases (hch b hb).1 with z | z
  ·exact hx z
  ·exact absurd (Nat.lt_of_lt_of_le (Heap.lt_size e) z) (Nat.lt_irrefl _)
 have cellK: ∀x c,X.env.cells.lookup x=some c->∀v,s.heap.IsCell c v->h'.IsCell c v:=λx c e v ⟨o,ho,hd⟩=>by
  have nch:c∉ch:=λz=>(hch c z).2.2.1 x c e rfl
  by_cases hc:c∈X.fs
  ·obtain ⟨sl,q⟩:=slot c o (I.cne x c e) hc nch ho (I.freeC x c e)
   exact ⟨_,q,hd⟩
  ·exact ⟨o,keep c o (I.cne x c e) hc nch ho (I.freeC x c e),hd⟩
 refine ⟨I.ok,I.os,hg,⟨λb o e n hb hx=> ?_,λb o e n hb hx=> ?_,λb o e n hx=> ?_,λb o e hx=> ?_,λb xs e=>tups b xs (I.base.tups b xs e),λb o xs e=>frzs b o xs (I.base.frzs b o xs e),λb ps e=> ?_⟩,?_,λx c e=> ?_,?_,λx c e=> ?_,λp hp=> ?_,hok,I.len⟩
 ·exact keep b o (neL b o e) hb (neC b o e hx) (I.base.keep b o e n hb hx) (I.base.free b o e n hx)
 ·obtain ⟨sl,e1⟩:=I.base.slot b o e n hb hx
  obtain ⟨sl',e2⟩:=slot b _ (neL b o e) hb (neC b o e hx) e1 (I.base.free b o e n hx)
  exact ⟨sl',e2⟩
 ·obtain ⟨o',e1⟩:=I.base.there b o e hx
  exact free b o' (neC b o e hx) e1 (I.base.free b o e n hx)
 ·obtain ⟨o',e1⟩:=I.base.there b o e hx
  exact there b o' (neC b o e hx) e1
 ·obtain ⟨m1,e1⟩:=I.base.tbls b ps e
  obtain ⟨m2,e2⟩:=tbls b _ e1
  exact ⟨m1++m2,by rw[e2,Array.append_assoc]⟩
 ·obtain ⟨m,hn,hl⟩:=I.loc
  refine ⟨m,ns m hn,λi x v e1 e2 e3=> ?_⟩
  obtain ⟨u,r,l⟩:=hl i x v e1 e2 e3
  refine ⟨u,r,?_⟩
  rcases l with l | ⟨k,c,e,z⟩
  ·exact .inl l
  ·exact .inr ⟨k,c,e,cellK x c e _ z⟩
 ·obtain ⟨v,z⟩:=I.cell x c e
  exact ⟨v,cellK x c e v z⟩
 ·obtain ⟨m,⟨o,_,_,ho,_⟩,_⟩:=I.loc
  exact free _ o (λz=>(hch _ z).2.1 rfl) ho I.free
 ·obtain ⟨v,o,ho,hd⟩:=I.cell x c e
  exact free c o (λz=>(hch c z).2.2.1 x c e rfl) ho (I.freeC x c e)
 ·obtain ⟨e,n,ne,nf,d⟩:=I.pin p hp
  have nch:p.1∉ch:=λz=>(hch p.1 z).2.2.2 p hp rfl
  exact ⟨keep p.1 p.2 ne nf nch e n,free p.1 p.2 nch e n,ne,nf,d⟩
theorem Inv.un {t':Nat} (I:Inv X pins σ H s) (u:Un X.fs [] H H' s.heap h') (hok:HOk X.prog X.w H' h'):Inv X pins σ H' { s with heap:=h',toks:=t' }:=by
 obtain ⟨m,⟨o,es,ep,ho,r⟩,_⟩:=id I.loc
 obtain ⟨sl,hL⟩:=u.any ho I.free (by simp)
 exact I.step (g':=s.gens) (d':=s.drawn) (ch:=[]) (λ_ z=>nomatch z) (λb o _ hb _ e n=>u.keep b o e n hb (by simp)) (λb o _ hb _ e n=>u.slot b o e n hb (by simp)) (λb o _ e n=>u.free b o e n (by simp)) (λb o _ e=>u.there b o e (by simp)) u.tups u.frzs u.tbls (λm' hm=>by
  obtain ⟨o',es',ep',ho',r'⟩:=hm
  rw[ho] at ho'; cases ho'
  exact ⟨_,es',ep',hL,r'⟩) hok I.bare
theorem Inv.call {g':Array GenState} {t':Nat} {d':Drawn} {ch:List Addr} (I:Inv X pins σ H s) (u:Un (frs X.stack) ch H H' s.heap h') (hok:HOk X.prog X.w H' h') (hg:AllBare g')
  (hch: ∀b∈ch,(b∈X.ex\/X.s₀.heap.objs.size<=b)/\b≠X.env.locals/\(∀x c,X.env.cells.lookup x=some c->c≠b)/\∀p∈X.pn++pins,p.1≠b):
  Inv X pins σ H' { s with heap:=h',gens:=g',drawn:=d',toks:=t' }:=by
 obtain ⟨m,⟨o,es,ep,ho,r⟩,_⟩:=id I.loc
 obtain ⟨sl,hL⟩:=u.any ho I.free λz=>(hch _ z).2.1 rfl
 exact I.step (ch:=ch) hch (λb o hL hb hc e n=>u.keep b o e n (λz=>(List.mem_cons.mp (I.stkSub b z)).elim hL hb) hc) (λb o _ _ hc e n=>u.any e n hc) (λb o hc e n=>u.free b o e n hc) (λb o hc e=>u.there b o e hc) u.tups u.frzs u.tbls (λm' hm=>by
  obtain ⟨o',es',ep',ho',r'⟩:=hm
  rw[ho] at ho'; cases ho'
  exact ⟨_,es',ep',hL,r'⟩) hok hg
theorem Inv.turned {t':Nat} {it:Addr} (I:Inv X pins σ H s) (k: ∀b o,b≠it->s.heap.get? b=some o->h'.get? b=some o) (hn:H it=none) (hL:it≠X.env.locals)
  (h1:it∈X.ex\/X.s₀.heap.objs.size<=it) (h2: ∀x c,X.env.cells.lookup x=some c->c≠it) (h3: ∀p∈X.pn++pins,p.1≠it):Inv X pins σ H { s with heap:=h',toks:=t' }:=by
 have nit: ∀b u,H b=some u->b≠it:=λb u e z=>by rw[z,hn] at e; cases e
 refine I.step (g':=s.gens) (d':=s.drawn) (ch:=[it]) (λb hb=> ?_) (λb o _ _ hc e _=>k b o (λz=>hc (by simp[z])) e) (λb o _ _ hc e _=>⟨o.slots,k b o (λz=>hc (by simp[z])) e⟩) (λ_ _ _ _ n=>n)
  (λb o hc e=>⟨o,k b o (λz=>hc (by simp[z])) e⟩) (λ_ _ e=>e) (λ_ _ _ e=>e) (λb ps e=>⟨#[],by rw[e]; simp⟩) (λm hm=> ?_) (λb u e=> ?_) I.bare
 ·have e:b=it:=by simpa using hb
  subst e
  exact ⟨h1,hL,h2,h3⟩
 ·obtain ⟨o,es,ep,ho,r⟩:=hm
  exact ⟨o,es,ep,k _ o (Ne.symm hL) ho,r⟩
 ·refine (I.hok b u e).stay (λc v hc q=>k c v ?_ q) (λ_ q=>q) λ_ _ q=>q
  rcases hc with z | z
  ·rw[z]; exact nit b u e
  ·exact nit c _ z
theorem Inv.tok (I:Inv X pins σ H s) (t:Nat):Inv X pins σ H { s with toks:=t }:=I.un (h':=s.heap) (t':=t) Un.refl I.hok
theorem Inv.kept {t':Nat} (I:Inv X pins σ H s) (k: ∀b u,s.heap.get? b=some u->h'.get? b=some u):Inv X pins σ H { s with heap:=h',toks:=t' }:=I.un (Un.kept k) (I.hok.kept k)
theorem Inv.laid {a:Addr} {o:HO} {t':Nat} (I:Inv X pins σ H s) (k: ∀b u,s.heap.get? b=some u->h'.get? b=some u) (hp:s.heap.objs.size<=a) (new:qba X.prog X.w (upd H a o) h' a o):
  Inv X pins σ (upd H a o) { s with heap:=h',toks:=t' }:=I.un (Un.laid k hp (I.hok.fresh hp)) (I.hok.laid k hp new)
theorem Inv.write {x e:Addr} {o:HO} {t':Nat} (I:Inv X pins σ H s) (mu:Mut (H x)) (he:e=x\/H e=some (.own x)) (k: ∀b u,b≠e->s.heap.get? b=some u->h'.get? b=some u) (heo: ∃u,h'.get? e=some u)
  (new:qba X.prog X.w (upd H x o) h' x o):Inv X pins σ (upd H x o) { s with heap:=h',toks:=t' }:=I.un (Un.write mu he k heo) (I.hok.write mu he k heo new)
theorem Inv.pins_of {pins':List (Addr×Obj)} (I:Inv X pins σ H s) (h: ∀p∈pins',s.heap.get? p.1=some p.2/\H p.1=none/\p.1≠X.env.locals/\p.1∉X.fs/\∀v,p.2.data≠.cell v):Inv X pins' σ H s:=
 ⟨I.ok,I.os,I.bare,I.base,I.loc,I.cell,I.free,I.freeC,λp hp=>(List.mem_append.mp hp).elim (λz=>I.pin p (List.mem_append_left _ z)) (h p),I.hok,I.len⟩
theorem qh7 {N:List Str} (hN:N.Nodup) {i j:Nat} {x:Str} (a:N[i]? =some x) (b:N[j]? =some x):i=j:=by
 obtain ⟨h1,e1⟩:=List.getElem?_eq_some_iff.mp a
 obtain ⟨h2,e2⟩:=List.getElem?_eq_some_iff.mp b
 exact (List.getElem_inj hN).mp (e1.trans e2.symm)
theorem qfN {M:Model} {A:Around} {E:Value->Shared->Prop} {i:Nat} {x:Str} {v:V} {u:Value} {Q:Unit->Shared->Prop} (I:Inv X pins σ H s) (hN:X.N.Nodup) (hi:X.N[i]? =some x) (hx:Loc X.env.scope x) (r:RelV v u)
  (h: ∀s',Inv X pins (σ.set i (some v)) H s'->(∃a,Heap.SameBut a s.heap s'.heap/\(a=X.env.locals\/X.env.cells.lookup x=some a))->Q () s') (hf:X.fn x=true\/X.env.scope.names.lookup x=some .local:=by first | exact .inl rfl | exact .inr rfl | assumption):wpAny M A (storeName X.env x u) Q E s:=by
 obtain ⟨m,hn,hl⟩:=id I.loc
 have hcls:(X.env.scope.kind== .class||(X.env.scope.kind== .module&&X.env.locals != X.env.globals))=false:=by rw[I.ok.kind]; rfl
 have hiσ:i<σ.length:=by rw[I.len]; exact (List.getElem?_eq_some_iff.mp hi).1
 have cne:=I.cne
 have tracked: ∀{a:Addr} {h':Heap},(∃o,s.heap.get? a=some o/\H a=none)->Heap.SameBut a s.heap h'->HOk X.prog X.w H h':=λ{a h'} ha hs b ob e=>by
  obtain ⟨_,_,hfree⟩:=ha
  refine (I.hok b ob e).stay (λc w' hc q=>(hs.2 c ?_).trans q) (λ_ q=>q) λ_ _ q=>q
  rintro rfl
  rcases hc with rfl | hc
  ·rw[hfree] at e; cases e
  ·rw[hfree] at hc; cases hc
 rcases hx with hk | hk
 ·refine wpAny_storeName_local hk hn (λh' hn' hs=> ?_) hcls
  obtain ⟨oL,_,_,hoL,_⟩:=id hn
  refine h _ ⟨I.ok,I.os,I.bare,⟨λb o e n hb hx=> ?_,λb o e n hb hx=> ?_,I.base.free,λb o e hx=> ?_,I.base.tups,I.base.frzs,I.base.tbls⟩,⟨_,hn',λj y v' e1 e2 e3=> ?_⟩,λy c e=> ?_,I.free,I.freeC,λp hp=> ?_,tracked ⟨oL,hoL,I.free⟩ hs,by simpa using I.len⟩ ⟨_,hs,.inl rfl⟩
  ·exact (hs.2 b (Nat.ne_of_lt (Nat.lt_of_lt_of_le (Heap.lt_size e) I.ok.above))).trans (I.base.keep b o e n hb hx)
  ·obtain ⟨sl,e1⟩:=I.base.slot b o e n hb hx
   exact ⟨sl,(hs.2 b (Nat.ne_of_lt (Nat.lt_of_lt_of_le (Heap.lt_size e) I.ok.above))).trans e1⟩
  ·obtain ⟨o',e1⟩:=I.base.there b o e hx
   exact ⟨o',(hs.2 b (Nat.ne_of_lt (Nat.lt_of_lt_of_le (Heap.lt_size e) I.ok.above))).trans e1⟩
  ·by_cases hj:j=i
   ·subst hj
    rw[hi] at e1; cases e1
    rw[List.getElem?_set_self hiσ] at e2
    cases e2
    exact ⟨u,r,.inl ⟨hk,by simp⟩⟩
   ·rw[List.getElem?_set_ne (Ne.symm hj)] at e2
    obtain ⟨u',r',q⟩:=hl j y v' e1 e2 e3
    refine ⟨u',r',?_⟩
    rcases q with ⟨k,e⟩ | ⟨k,c,e,z⟩
    ·refine .inl ⟨k,?_⟩
     have:y≠x:=λe=>hj (qh7 hN e1 (e▸hi))
     simp[this,e]
    ·exact .inr ⟨k,c,e,z.sameBut hs (cne y c e)⟩
  ·obtain ⟨w',z⟩:=I.cell y c e
   exact ⟨w',z.sameBut hs (cne y c e)⟩
  ·obtain ⟨e,n,ne,nf,d⟩:=I.pin p hp
   exact ⟨(hs.2 p.1 ne).trans e,n,ne,nf,d⟩
 ·have hfn:X.fn x=true:=by
   rcases hf with z | z
   ·exact z
   ·rw[z] at hk; cases hk
  obtain ⟨c,hc⟩:=I.ok.has x (.inl hk)
  obtain ⟨w',z⟩:=I.cell x c hc
  refine wpAny_storeName_cell I.ok.kind hk hc z (λh' hc' hs=> ?_)
  obtain ⟨oc,hoc,hocd⟩:=id z
  refine h { s with heap:=h' } ⟨I.ok,I.os,I.bare,⟨λb o e n hb hx=> ?_,λb o e n hb hx=> ?_,I.base.free,λb o e hx=> ?_,I.base.tups,I.base.frzs,I.base.tbls⟩,⟨m,hn.sameBut hs (Ne.symm (cne x c hc)),λj y v' e1 e2 e3=> ?_⟩,λy c' e=> ?_,I.free,I.freeC,λp hp=> ?_,tracked ⟨oc,hoc,I.freeC x c hc⟩ hs,by simpa using I.len⟩ ⟨c,hs,.inr hc⟩
  ·exact (hs.2 b (Nat.ne_of_lt (Nat.lt_of_lt_of_le (Heap.lt_size e) (I.ok.cab x c hfn hc)))).trans (I.base.keep b o e n hb hx)
  ·obtain ⟨sl,e1⟩:=I.base.slot b o e n hb hx
   exact ⟨sl,(hs.2 b (Nat.ne_of_lt (Nat.lt_of_lt_of_le (Heap.lt_size e) (I.ok.cab x c hfn hc)))).trans e1⟩
  ·obtain ⟨o',e1⟩:=I.base.there b o e hx
   exact ⟨o',(hs.2 b (Nat.ne_of_lt (Nat.lt_of_lt_of_le (Heap.lt_size e) (I.ok.cab x c hfn hc)))).trans e1⟩
  ·by_cases hj:j=i
   ·subst hj
    rw[hi] at e1; cases e1
    rw[List.getElem?_set_self hiσ] at e2
    cases e2
    exact ⟨u,r,.inr ⟨.inl hk,c,hc,hc'⟩⟩
   ·rw[List.getElem?_set_ne (Ne.symm hj)] at e2
    obtain ⟨u',r',q⟩:=hl j y v' e1 e2 e3
    refine ⟨u',r',?_⟩
    rcases q with q | ⟨k,c',e,z'⟩
    ·exact .inl q
    ·refine .inr ⟨k,c',e,z'.sameBut hs ?_⟩
     rintro rfl
     exact hj (qh7 hN e1 (I.ok.inj _ _ _ e hc▸hi))
  ·by_cases hcc:c'=c
   ·subst hcc; exact ⟨_,hc'⟩
   ·obtain ⟨w2,z2⟩:=I.cell y c' e
    exact ⟨w2,z2.sameBut hs hcc⟩
  ·obtain ⟨e,n,ne,nf,d⟩:=I.pin p hp
   refine ⟨(hs.2 p.1 ?_).trans e,n,ne,nf,d⟩
   intro q
   rw[q,hoc] at e
   have q':oc=p.2:=Option.some.inj e
   exact d w' (by rw[<-q']; exact hocd)
theorem qhO {M:Model} {A:Around} {E:Value->Shared->Prop} {i:Nat} {x:Str} {v:V} {u:Value} {Q:Unit->Shared->Prop} (I:Inv X pins σ H s) (hN:X.N.Nodup) (hi:X.N[i]? =some x) (hx:Loc X.env.scope x) (r:RelV v u)
  (h: ∀s',Inv X pins (σ.set i (some v)) H s'->Q () s') (hf:X.fn x=true\/X.env.scope.names.lookup x=some .local:=by first | exact .inl rfl | exact .inr rfl | assumption):wpAny M A (storeName X.env x u) Q E s:=
 qfN I hN hi hx r (λs' I' _=>h s' I') hf
theorem Inv.call' {s':Shared} {ch:List Addr} (I:Inv X pins σ H s) (ho:s'.os=s.os) (u:Un (frs X.stack) ch H H' s.heap s'.heap) (hok:HOk X.prog X.w H' s'.heap) (hg:AllBare s'.gens)
  (hch: ∀b∈ch,(b∈X.ex\/X.s₀.heap.objs.size<=b)/\b≠X.env.locals/\(∀x c,X.env.cells.lookup x=some c->c≠b)/\∀p∈X.pn++pins,p.1≠b):Inv X pins σ H' s':=by
 obtain ⟨h',g',d',t',o'⟩:=s'
 have e:o'=s.os:=ho
 subst e
 exact I.call (g':=g') (t':=t') (d':=d') u hok hg hch
end
abbrev XK:=Value->Option Addr->Hp->Prop
abbrev St:=List (Option V)
abbrev VK:=V->Hp->Prop
abbrev TE:=St->Hp->VK->Prop
abbrev TT:=St->Hp->(Bool->Hp->Prop)->Prop
abbrev TA:=St->Hp->(List V->Hp->Prop)->Prop
structure qox where
 nx:St->Hp->Prop
 rt:VK
 bk:St->Hp->Prop:=λ_ _=>False
 ct:St->Hp->Prop:=λ_ _=>False
abbrev TS:=qox->St->Hp->Prop
def EP (X:Cx) (pins:List (Addr×Obj)) (σ:St) (Q:VK) (u:Value) (s':Shared):Prop:= ∃v H',Inv X pins σ H' s'/\RelV v u/\Q v H'
def TP (X:Cx) (pins:List (Addr×Obj)) (σ:St) (Q:Bool->Hp->Prop) (b:Bool) (s':Shared):Prop:= ∃H',Inv X pins σ H' s'/\Q b H'
def AP (X:Cx) (pins:List (Addr×Obj)) (σ:St) (Q:List V->Hp->Prop) (us:List Value) (s':Shared):Prop:= ∃vs H',Inv X pins σ H' s'/\Vals vs us/\Q vs H'
def SP (X:Cx) (pins:List (Addr×Obj)) (D:qox) (f:Flow) (s':Shared):Prop:=
 match f with
 | .next=> ∃σ' H',Inv X pins σ' H' s'/\D.nx σ' H'
 | .brk=> ∃σ' H',Inv X pins σ' H' s'/\D.bk σ' H'
 | .cont=> ∃σ' H',Inv X pins σ' H' s'/\D.ct σ' H'
 | .ret u=> ∃v σ' H',Inv X pins σ' H' s'/\RelV v u/\D.rt v H'
def PE (X:Cx) (e:Expr) (t:TE):Prop:=
 ∀(pins:List (Addr×Obj)) (s:Shared) (σ:St) (H:Hp) (Q:VK),Inv X pins σ H s->t σ H Q->wpAny (model X.prog X.w) X.A (eval e X.env) (EP X pins σ Q) X.xe s
def PT (X:Cx) (e:Expr) (t:TT):Prop:=
 ∀(pins:List (Addr×Obj)) (s:Shared) (σ:St) (H:Hp) (Q:Bool->Hp->Prop),Inv X pins σ H s->t σ H Q->wpAny (model X.prog X.w) X.A (isTrue e X.env (eval e X.env)) (TP X pins σ Q) X.xe s
def PW (X:Cx) (e:Expr) (t:TT):Prop:=
 ∀(whole:Sem Value) (pins:List (Addr×Obj)) (s:Shared) (σ:St) (H:Hp) (Q:Bool->Hp->Prop),Inv X pins σ H s->t σ H Q->wpAny (model X.prog X.w) X.A (isTrue e X.env whole) (TP X pins σ Q) X.xe s
theorem PW.pt {X:Cx} {e:Expr} {t:TT} (h:PW X e t):PT X e t:=h _
def PA (X:Cx) (es:List Expr) (t:TA):Prop:=
 ∀(pos:Pos) (pins:List (Addr×Obj)) (s:Shared) (σ:St) (H:Hp) (Q:List V->Hp->Prop),Inv X pins σ H s->t σ H Q->wpAny (model X.prog X.w) X.A (spliced (backTo pos (starEach es X.env))) (AP X pins σ Q) X.xe s
def PS (X:Cx) (st:Stmt) (t:TS):Prop:=
 ∀(pins:List (Addr×Obj)) (s:Shared) (σ:St) (H:Hp) (D:qox),Inv X pins σ H s->t D σ H->wpAny (model X.prog X.w) X.A (exec st X.env) (SP X pins D) X.xe s
def PSs (X:Cx) (st:List Stmt) (t:TS):Prop:=
 ∀(pins:List (Addr×Obj)) (s:Shared) (σ:St) (H:Hp) (D:qox),Inv X pins σ H s->t D σ H->wpAny (model X.prog X.w) X.A (execs st X.env) (SP X pins D) X.xe s
theorem thn {α:Type} {t:Sem α} {Q Q':α->Shared->Prop} {M:Model} {A:Around} {E:Value->Shared->Prop} {s:Shared} (h:wpAny M A t Q E s) (hQ: ∀a s,Q a s->Q' a s):wpAny M A t Q' E s:=wpAny_mono h hQ λ_ _ x=>x
end L2
namespace L2
open PySem PySem.Spec PyProof.Rows
section
variable {X:Cx}
theorem bin {a b:Expr} {ta tb:TE} (ha:PE X a ta) (hb:PE X b tb) {pins:List (Addr×Obj)} {s:Shared} {σ:St} {H:Hp} {R:V->V->Hp->Prop} (I:Inv X pins σ H s) (h:ta σ H λx H1=>tb σ H1 λy H2=>R x y H2)
  {α:Type} {Q:α->Shared->Prop} {f:Value->Value->Sem α}
  (hf: ∀v u s2 x y H2,Inv X pins σ H2 s2->RelV x v->RelV y u->R x y H2->wpAny (model X.prog X.w) X.A (f v u) Q X.xe s2):
  wpAny (model X.prog X.w) X.A (eval a X.env) (λv s₁=>wpAny (model X.prog X.w) X.A (eval b X.env) (λu s₂=>wpAny (model X.prog X.w) X.A (f v u) Q X.xe s₂) X.xe s₁) X.xe s:=by
 refine thn (ha pins s σ H _ I h) λv s1 ⟨x,H1,I1,r1,q1⟩=> ?_
 refine thn (hb pins s1 σ H1 _ I1 q1) λu s2 ⟨y,H2,I2,r2,q2⟩=> ?_
 exact hf v u s2 x y H2 I2 r1 r2 q2
def qhM (i:Nat):TE:=λσ H Q=> ∃v,σ[i]? =some (some v)/\Q v H
def tC (v:V):TE:=λ_ H Q=>Q v H
theorem qq7 {i:Nat} {x:Str} {pos:Pos} (hN:X.N[i]? =some x) (hv:Vis X.env.scope x) (hd:(x==("__debug__" :Str))=false:=by decide) (hcd:(x==("__classdict__" :Str))=false:=by decide):PE X (.Name x pos) (qhM i):=by
 intro pins s σ H Q I h
 obtain ⟨v,e,h⟩:=h
 obtain ⟨m,hn,hl⟩:=I.loc
 obtain ⟨u,r,l⟩:=hl i x v hN e hv
 have fin:EP X pins σ Q u s:=⟨v,H,I,r,h⟩
 rcases l with ⟨hk,hm⟩ | ⟨hk,c,hc,hcell⟩
 ·exact wpAny_Name (wpAny_loadName_local I.ok.kind hk hn hm fin) hd
 ·rcases hk with hk | hk
  ·exact wpAny_Name (wpAny_loadName_cell I.ok.kind hk hc hcell fin) hd
  ·exact wpAny_Name (wpAny_loadName_free I.ok.kind hk hc hcell fin hcd) hd
theorem qdc {i j pos}:PE X (.Constant (.int i) j pos) (tC (.int i)):=λ_ _ _ H _ I h=>wpAny_Constant_int ⟨.int i,H,I.tok _,⟨_,rfl⟩,h⟩
theorem qtt {b j pos}:PE X (.Constant (.bool b) j pos) (tC (.bl b)):=λ_ _ _ H _ I h=>Constant_bool ⟨.bl b,H,I,rfl,h⟩
theorem qq9 {x j pos}:PE X (.Constant (.str x) j pos) (tC (.str x)):=λ_ _ _ H _ I h=>Calls.Constant_str ⟨.str x,H,I.tok _,⟨_,rfl⟩,h⟩
def Gl (X:Cx) (x:Str):Prop:=X.env.kindOf x=some .globalImplicit
theorem qkQ {E:Value->Shared->Prop} {pins:List (Addr×Obj)} {s:Shared} {σ:St} {H:Hp} {x:Str} {u:Value} {pos:Pos} {Q:Value->Shared->Prop} (I:Inv X pins σ H s) (hg:Gl X x) (hm:X.mg x=some u) (h:Q u s)
  (hd:(x==("__debug__" :Str))=false:=by decide):wpAny (model X.prog X.w) X.A (eval (.Name x pos) X.env) Q E s:=
 Calls.Name_function_global I.ok.kind hg (Calls.loadGlobal_global (by rw[I.ok.glob]; exact I.mod.glob.keeps I.bk) hm h) hd
theorem qdH {E:Value->Shared->Prop} {pins:List (Addr×Obj)} {s:Shared} {σ:St} {H:Hp} {x:Str} {u:Value} {pos:Pos} {Q:Value->Shared->Prop} (I:Inv X pins σ H s) (hg:Gl X x) (hm:X.mg x=none) (hv:bootBuiltins x=some u) (h:Q u s)
  (hn:x≠ "__name__" :=by decide) (hd:(x==("__debug__" :Str))=false:=by decide):wpAny (model X.prog X.w) X.A (eval (.Name x pos) X.env) Q E s:=by
 obtain ⟨mb,h1,h2⟩:=I.mod.blt
 exact Calls.Name_function_global I.ok.kind hg (Calls.loadGlobal_builtin (by rw[I.ok.glob]; exact I.mod.glob.keeps I.bk) hm (by rw[I.ok.blt]; exact h1.keeps I.bk) ((h2 x hn).trans hv) h) hd
theorem qbI {x:Str} {v:V} {u:Value} {pos:Pos} (hg:Gl X x) (hm:X.mg x=some u) (r:RelV v u) (hd:(x==("__debug__" :Str))=false:=by decide):PE X (.Name x pos) (tC v):=
 λ_ _ _ H _ I h=>qkQ I hg hm ⟨v,H,I,r,h⟩ hd
theorem qcZ {x:Str} {v:V} {u:Value} {pos:Pos} (hg:Gl X x) (hm:X.mg x=none) (hv:bootBuiltins x=some u) (r:RelV v u) (hn:x≠ "__name__" :=by decide) (hd:(x==("__debug__" :Str))=false:=by decide):PE X (.Name x pos) (tC v):=
 λ_ _ _ H _ I h=>qdH I hg hm hv ⟨v,H,I,r,h⟩ hn hd
variable {a b:Expr} {ta tb:TE} {pos:Pos}
def PC (X:Cx) (op:CmpOp) (a b:Expr) (t:TE):Prop:=
 ∀(pins:List (Addr×Obj)) (s:Shared) (σ:St) (H:Hp) (Q:VK),Inv X pins σ H s->t σ H Q->
  wpAny (model X.prog X.w) X.A (eval a X.env) (λv s₁=>wpAny (model X.prog X.w) X.A (eval b X.env) (λu s₂=>wpAny (model X.prog X.w) X.A (compareOp op v u) (EP X pins σ Q) X.xe s₂) X.xe s₁) X.xe s
theorem qdR (b:Expr) {op:CmpOp} (h:op≠.In) (h2:op≠.NotIn):behindInMarks op b=false:=by
 have e1:(op==CmpOp.In)=false:=by cases op<;>first | rfl | exact absurd rfl h
 have e2:(op==CmpOp.NotIn)=false:=by cases op<;>first | rfl | exact absurd rfl h2
 cases b<;>simp[behindInMarks,e1,e2]
def tB (t:TE):TT:=λσ H Q=>t σ H λx H1=> ∃c,x= .bl c/\Q c H1
theorem qn3 {op:CmpOp} {t:TE} (h:PC X op a b t) (h1:behindInMarks op b=false:=by first | exact qdR _ (by decide) (by decide) | rfl):PT X (.Compare a [op] [b] pos) (tB t):=by
 intro pins s σ H Q I hw
 refine wpAny_isTrue_Compare1 (thn (h pins s σ H _ I hw) λv s1 h1=>thn h1 λu s2 h2=>thn h2 λc s3 ⟨x,H1,I1,r1,q1⟩=> ?_) h1
 obtain ⟨d,rfl,q⟩:=q1
 cases r1
 exact wpAny_truthy_bool ⟨H1,I1,q⟩
theorem qq1 {e:Expr} {t:TE} (h:PE X e t) (he: ∀whole,isTrue e X.env whole=(do let v <-whole; standAt e.pos; holding [v] (truthy v)):=by intro _; rfl):PT X e (tB t):=by
 intro pins s σ H Q I hw
 refine isTrue_plain (thn (h pins s σ H _ I hw) λv s1 ⟨x,H1,I1,r1,q1⟩=> ?_) (he _)
 obtain ⟨d,rfl,q⟩:=q1
 cases r1
 exact wpAny_truthy_bool ⟨H1,I1,q⟩
variable {tA tB':TT} {qce:List Expr}
def qvl (t u:TT):TT:=λσ H Q=>t σ H λc H1=>if c=true then u σ H1 Q else Q false H1
def tOr (t u:TT):TT:=λσ H Q=>t σ H λc H1=>if c=true then Q true H1 else u σ H1 Q
def qvf (t:TT):TT:=λσ H Q=>t σ H λc H1=>Q (!c) H1
theorem qoZ (ha:PT X a tA):PW X (.BoolOp .And [a] pos) tA:=by
 intro wh pins s σ H Q I h
 refine isTrue_and (thn (ha pins s σ H Q I h) λc s1 e=> ?_)
 cases c with
 | true=>exact isTrue_and_nil e
 | false=>exact e
theorem qqZ (ha:PT X a tA):PW X (.BoolOp .Or [a] pos) tA:=by
 intro wh pins s σ H Q I h
 refine isTrue_or (thn (ha pins s σ H Q I h) λc s1 e=> ?_)
 cases c with
 | false=>exact isTrue_or_nil e
 | true=>exact e
theorem qq0 (ha:PT X a tA) (hb:PW X (.BoolOp .And (b::qce) pos) tB'):PW X (.BoolOp .And (a::b::qce) pos) (qvl tA tB'):=by
 intro wh pins s σ H Q I h
 refine isTrue_and (thn (ha pins s σ H _ I h) λc s1 ⟨H1,I1,q1⟩=> ?_)
 cases c with
 | true=>exact hb wh pins s1 σ H1 Q I1 q1
 | false=>exact ⟨H1,I1,q1⟩
theorem qtr (ha:PT X a tA) (hb:PW X (.BoolOp .Or (b::qce) pos) tB'):PW X (.BoolOp .Or (a::b::qce) pos) (tOr tA tB'):=by
 intro wh pins s σ H Q I h
 refine isTrue_or (thn (ha pins s σ H _ I h) λc s1 ⟨H1,I1,q1⟩=> ?_)
 cases c with
 | true=>exact ⟨H1,I1,q1⟩
 | false=>exact hb wh pins s1 σ H1 Q I1 q1
theorem qq2 (ha:PT X a tA):PT X (.UnaryOp .Not a pos) (qvf tA):=by
 intro pins s σ H Q I h
 exact isTrue_not (ha pins s σ H (λc H1=>Q (!c) H1) I h)
def qsG (ta tb:TE):TE:=λσ H Q=>ta σ H λx H1=> ∃c,x= .bl c/\if c=true then tb σ H1 Q else Q (.bl false) H1
def qsC (ta:TE):TE:=λσ H Q=>ta σ H λx H1=> ∃c,x= .bl c/\Q (.bl (!c)) H1
theorem qra {op} {t:TE} (h:PE X a t):PE X (.BoolOp op [a] pos) t:=λpins s σ H Q I hw=>BoolOp_one (h pins s σ H Q I hw)
theorem qrc (ha:PE X a ta) (hb:PE X (.BoolOp .And (b::qce) pos) tb):PE X (.BoolOp .And (a::b::qce) pos) (qsG ta tb):=by
 intro pins s σ H Q I h
 refine BoolOp_and (thn (ha pins s σ H _ I h) λv s1 ⟨x,H1,I1,r1,q1⟩=> ?_)
 obtain ⟨c,rfl,q1⟩:=q1
 cases r1
 refine wpAny_truthy_bool ?_
 cases c with
 | true=>exact hb pins s1 σ H1 Q I1 q1
 | false=>exact ⟨.bl false,H1,I1,rfl,q1⟩
theorem qrb (ha:PE X a ta):PE X (.UnaryOp .Not a pos) (qsC ta):=by
 intro pins s σ H Q I h
 refine UnaryOp_ (thn (ha pins s σ H _ I h) λv s1 ⟨x,H1,I1,r1,q1⟩=> ?_)
 obtain ⟨c,rfl,q1⟩:=q1
 cases r1
 exact not_of (wpAny_truthy_bool ⟨.bl (!c),H1,I1,rfl,q1⟩)
def tIf (t:TT) (ta tb:TE):TE:=λσ H Q=>t σ H λc H1=>if c=true then ta σ H1 Q else tb σ H1 Q
theorem qmS {c:Expr} (hc:PT X c tA) (ha:PE X a ta) (hb:PE X b tb):PE X (.IfExp c a b pos) (tIf tA ta tb):=by
 intro pins s σ H Q I h
 refine wpAny_IfExp (thn (hc pins s σ H _ I h) λd s1 ⟨H1,I1,q1⟩=> ?_)
 cases d with
 | true=>exact ha pins s1 σ H1 Q I1 q1
 | false=>exact hb pins s1 σ H1 Q I1 q1
end
end L2
namespace L2
open PySem PySem.Spec PyProof.Rows
def SqL (K:PySem.W.Frag) (H:Hp) (a:Addr) (xs:List V):Prop:=
 Rd H a (.lst xs)\/
  ∃(o:Obj) (its:Array Value) (n:Nat),K.lookup a=some o/\o.cls= .type "list" /\o.dict=none/\o.data= .seq its n/\its.size<=sizeLine/\Vals xs its.toList
def SqT (K:PySem.W.Frag) (H:Hp) (a:Addr) (xs:List V):Prop:=
 Rd H a (.tup xs)\/
  ∃(o:Obj) (its:Array Value) (n:Nat),K.lookup a=some o/\o.cls= .type "tuple" /\o.data= .seq its n/\its.size<=sizeLine/\Vals xs its.toList
def qv9:Value->Option V
 | .none=>some .non
 | .bool b=>some (.bl b)
 | .int i _=>some (.int i)
 | .str x _=>some (.str x)
 | .bytes b _=>some (.byt b)
 | .float b _=>some (.flt b)
 | .ref a=>some (.ref a)
 | .type n=>some (.ty n)
 | _=>none
theorem RelV.abs {x:V} {u:Value} (r:RelV x u):qv9 u=some x:=by
 cases x with
 | non=>cases r; rfl
 | bl _=>cases r; rfl
 | int _=>obtain ⟨t,rfl⟩:=r; rfl
 | str _=>obtain ⟨t,rfl⟩:=r; rfl
 | byt _=>obtain ⟨t,rfl⟩:=r; rfl
 | flt _=>obtain ⟨t,rfl⟩:=r; rfl
 | ref _=>cases r; rfl
 | ty _=>cases r; rfl
theorem RelV.inj {x y:V} {u:Value} (r:RelV x u) (q:RelV y u):x=y:=Option.some.inj (r.abs.symm.trans q.abs)
theorem Vals.inj: ∀{xs ys:List V} {us:List Value},Vals xs us->Vals ys us->xs=ys
 | _,_,_,.nil,.nil=>rfl
 | _,_,_,.cons r t,.cons r' t'=>by rw[r.inj r',Vals.inj t t']
section
variable {X:Cx} {pins:List (Addr×Obj)} {σ:St} {H:Hp} {s:Shared} {a:Addr} {xs ys:List V}
theorem SqL.of {K:PySem.W.Frag} (h:H a=some (.lst xs)):SqL K H a xs:=.inl (.inl h)
theorem SqT.of {K:PySem.W.Frag} (h:H a=some (.tup xs)):SqT K H a xs:=.inl (.inl h)
theorem Inv.list (I:Inv X pins σ H s) (h:SqL X.K H a xs): ∃its:List Value,Vals xs its/\PlainL s.heap a its.toArray/\xs.length<=sizeLine:=by
 rcases h with h | ⟨o,its,n,hk,hc,hd,hs,hz,r⟩
 ·obtain ⟨z,its,n,r,e⟩:=h.ok I.hok
  exact ⟨its,r,⟨_,n,e,rfl,rfl,rfl⟩,z⟩
 ·refine ⟨its.toList,r,⟨o,n,I.kIn a o hk,hc,hd,by simpa using hs⟩,?_⟩
  have e:=r.length
  simp only[Array.length_toList] at e
  omega
theorem Inv.tuple (I:Inv X pins σ H s) (h:SqT X.K H a xs): ∃its:List Value,Vals xs its/\IsTup s.heap a its.toArray/\xs.length<=sizeLine:=by
 rcases h with h | ⟨o,its,n,hk,hc,hs,hz,r⟩
 ·obtain ⟨z,its,r,p⟩:=h.ok I.hok
  exact ⟨its,r,p,z⟩
 ·refine ⟨its.toList,r,⟨o,I.kIn a o hk,hc,n,by simpa using hs⟩,?_⟩
  have e:=r.length
  simp only[Array.length_toList] at e
  omega
theorem Inv.list_inj (I:Inv X pins σ H s) (h:SqL X.K H a xs) (h':SqL X.K H a ys):xs=ys:=by
 obtain ⟨its,r,⟨o,n,e,_,_,d⟩,_⟩:=I.list h
 obtain ⟨its',r',⟨o',n',e',_,_,d'⟩,_⟩:=I.list h'
 rw[e] at e'; cases e'
 rw[d] at d'
 injection d' with d1 _
 have:its=its':=by simpa using congrArg Array.toList d1
 subst this
 exact r.inj r'
theorem Inv.tuple_inj (I:Inv X pins σ H s) (h:SqT X.K H a xs) (h':SqT X.K H a ys):xs=ys:=by
 obtain ⟨its,r,⟨o,e,_,n,d⟩,_⟩:=I.tuple h
 obtain ⟨its',r',⟨o',e',_,n',d'⟩,_⟩:=I.tuple h'
 rw[e] at e'; cases e'
 rw[d] at d'
 injection d' with d1 _
 have:its=its':=by simpa using congrArg Array.toList d1
 subst this
 exact r.inj r'
end
abbrev Cx.wish (X:Cx) (E:Value->Shared->Prop):Cx:={ X with xe:=E }
abbrev Cx.nox (X:Cx):Cx:=X.wish λ_ _=>False
theorem Cx.Ok.wish {X:Cx} (ok:X.Ok) (E:Value->Shared->Prop):(X.wish E).Ok:=
 ⟨ok.mod,ok.kind,ok.glob,ok.blt,ok.above,ok.inj,ok.has,ok.cab,ok.hd,ok.frames,ok.stk,ok.exf,ok.bs,ok.bsz,ok.noex,ok.exfs,ok.funs,ok.frf⟩
theorem Cx.Ok.unwish {X:Cx} {E:Value->Shared->Prop} (ok:(X.wish E).Ok):X.Ok:=
 ⟨ok.mod,ok.kind,ok.glob,ok.blt,ok.above,ok.inj,ok.has,ok.cab,ok.hd,ok.frames,ok.stk,ok.exf,ok.bs,ok.bsz,ok.noex,ok.exfs,ok.funs,ok.frf⟩
section
variable {X:Cx} {pins:List (Addr×Obj)} {σ:St} {H:Hp} {s:Shared} {E:Value->Shared->Prop}
theorem Inv.wish (I:Inv X pins σ H s) (E:Value->Shared->Prop):Inv (X.wish E) pins σ H s:=⟨I.ok.wish E,I.os,I.bare,I.base,I.loc,I.cell,I.free,I.freeC,I.pin,I.hok,I.len⟩
theorem Inv.unwish (I:Inv (X.wish E) pins σ H s):Inv X pins σ H s:=⟨I.ok.unwish,I.os,I.bare,I.base,I.loc,I.cell,I.free,I.freeC,I.pin,I.hok,I.len⟩
theorem SP.unwish {D:qox} {f:Flow} {s':Shared} (h:SP (X.wish E) pins D f s'):SP X pins D f s':=by
 cases f with
 | next=>obtain ⟨σ',H',I,q⟩:=h; exact ⟨σ',H',I.unwish,q⟩
 | brk=>obtain ⟨σ',H',I,q⟩:=h; exact ⟨σ',H',I.unwish,q⟩
 | cont=>obtain ⟨σ',H',I,q⟩:=h; exact ⟨σ',H',I.unwish,q⟩
 | ret u=>obtain ⟨v,σ',H',I,r,q⟩:=h; exact ⟨v,σ',H',I.unwish,r,q⟩
theorem PSs.nox {st:List Stmt} {t:TS} (h:PSs X.nox st t):PSs X st t:=λpins s σ H D I hw=>
 wpAny_mono (h pins s σ H D (I.wish _) hw) (λ_ _ q=>q.unwish) λ_ _ z=>False.elim z
end
section
variable {X:Cx} {st:Stmt} {qce:List Stmt} {t u:TS} {e:Expr} {te:TE} {pos:Pos}
def qsD:TS:=λD σ H=>D.nx σ H
def qvd (t u:TS):TS:=λD σ H=>t { D with nx:=u D } σ H
theorem qgX:PSs X [] qsD:=λ_ _ σ H _ I h=>wpAny_execs_nil ⟨σ,H,I,h⟩
theorem qdQ (h1:PS X st t) (h2:PSs X qce u):PSs X (st::qce) (qvd t u):=by
 intro pins s σ H D I h
 refine wpAny_execs_cons (thn (h1 pins s σ H { D with nx:=u D } I h) λf s1 q=> ?_)
 cases f with
 | next=>
  obtain ⟨σ',H',I',q⟩:=q
  exact h2 pins s1 σ' H' D I' q
 | ret v=>exact q
 | brk=>exact q
 | cont=>exact q
theorem qea (h1:PS X st t):PSs X [st] t:=by
 intro pins s σ H D I h
 refine wpAny_execs_cons (thn (h1 pins s σ H D I h) λf s1 q=> ?_)
 cases f with
 | next=>exact wpAny_execs_nil q
 | ret v=>exact q
 | brk=>exact q
 | cont=>exact q
theorem Inv.quiet {pins:List (Addr×Obj)} {σ:St} {H:Hp} {s:Shared} (I:Inv X pins σ H s):interactive X.env=false:=by simp[interactive,I.ok.kind]
def qsE (te:TE):TS:=λD σ H=>te σ H λ_ H1=>D.nx σ H1
theorem qfn (he:PE X e te) (hs:swapsWith e none pos.line X.env=pure false:=by rfl):PS X (.Expr e pos) (qsE te):=by
 intro pins s σ H D I h
 exact wpAny_Expr_any (thn (he pins s σ H _ I h) λv s1 ⟨x,H1,I1,r1,q1⟩=>⟨σ,H1,I1,q1⟩) I.quiet hs
def qve (te:TE):TS:=λD σ H=>te σ H D.rt
theorem qcK (he:PE X e te):PS X (.Return (some e) pos) (qve te):=by
 intro pins s σ H D I h
 exact wpAny_Return_some (thn (he pins s σ H _ I h) λv s1 ⟨x,H1,I1,r1,q1⟩=>⟨x,σ,H1,I1,r1,q1⟩)
def qvh (c:TT) (t u:TS):TS:=λD σ H=>c σ H λb H1=>if b=true then t D σ H1 else u D σ H1
theorem qo2 {c:Expr} {a b:List Stmt} {tc:TT} (hc:PT X c tc) (ha:PSs X a t) (hb:PSs X b u):PS X (.If c a b pos) (qvh tc t u):=by
 intro pins s σ H D I h
 refine wpAny_If (thn (hc pins s σ H _ I h) λd s1 ⟨H1,I1,q1⟩=> ?_)
 cases d with
 | true=>exact ha pins s1 σ H1 D I1 q1
 | false=>exact hb pins s1 σ H1 D I1 q1
def qqB:TS:=λ_ _ _=>False
theorem qkp {sts:List Stmt}:PSs X sts qqB:=λ_ _ _ _ _ _ h=>h.elim
end
abbrev TG:=V->St->Hp->(St->Hp->Prop)->Prop
abbrev TGs:=List V->St->Hp->(St->Hp->Prop)->Prop
def PG (X:Cx) (target:Expr) (t:TG):Prop:=
 ∀(pins:List (Addr×Obj)) (s:Shared) (σ:St) (H:Hp) (v:V) (u:Value) (Q:St->Hp->Prop),Inv X pins σ H s->RelV v u->t v σ H Q->
  wpAny (model X.prog X.w) X.A (assign target X.env u) (λ_ s'=> ∃σ' H',Inv X pins σ' H' s'/\Q σ' H') X.xe s
def PGs (X:Cx) (ts:List Expr) (t:TGs):Prop:=
 ∀(pins:List (Addr×Obj)) (s:Shared) (σ:St) (H:Hp) (vs:List V) (us:List Value) (Q:St->Hp->Prop),Inv X pins σ H s->Vals vs us->t vs σ H Q->
  wpAny (model X.prog X.w) X.A (assignInOrder ((assignEach ts X.env).map (·.2)) us) (λ_ s'=> ∃σ' H',Inv X pins σ' H' s'/\Q σ' H') X.xe s
abbrev qwc:=V->V->V->Hp->(Hp->Prop)->Prop
section
variable {X:Cx} {pos:Pos}
def qpF (i:Nat):TG:=λv σ H Q=>Q (σ.set i (some v)) H
theorem qar {i:Nat} {x:Str} (hN:X.N.Nodup) (hi:X.N[i]? =some x) (hx:Loc X.env.scope x) (hf:X.fn x=true\/X.env.scope.names.lookup x=some .local:=by first | exact .inl rfl | exact .inr rfl | assumption):PG X (.Name x pos) (qpF i):=by
 intro pins s σ H v u Q I r h
 exact wpAny_assign_Name (qhO I hN hi hx r (λs' I'=>⟨_,H,I',h⟩) hf)
def qvR:TGs:=λvs σ H Q=>vs=[]/\Q σ H
def qup (t:TG) (u:TGs):TGs:=λvs σ H Q=> ∃v r,vs=v::r/\t v σ H λσ' H'=>u r σ' H' Q
theorem qpa:PGs X [] qvR:=by
 intro pins s σ H vs us Q I r h
 obtain ⟨e,h⟩:=h
 subst e
 cases r
 exact assignInOrder_nil ⟨σ,H,I,h⟩
theorem qmR {e:Expr} {es:List Expr} {t:TG} {u:TGs} (h1:PG X e t) (h2:PGs X es u)
  (hs:(assignEach (e::es) X.env).map (·.2)=assign e X.env::(assignEach es X.env).map (·.2):=by rfl):PGs X (e::es) (qup t u):=by
 intro pins s σ H vs us Q I r h
 obtain ⟨v,vr,e1,h⟩:=h
 subst e1
 cases r with
 | cons r rr=>
  rw[hs]
  refine assignInOrder_cons (thn (h1 pins s σ H _ _ _ I r h) λ_ s1 ⟨σ1,H1,I1,q1⟩=> ?_)
  exact h2 pins s1 σ1 H1 _ _ Q I1 rr q1
def qvQ (K:PySem.W.Frag) (n:Nat) (t:TGs):TG:=λv σ H Q=> ∃a xs,v= .ref a/\SqT K H a xs/\xs.length=n/\t xs σ H Q
theorem qq6 {es:List Expr} {k:Nat} {t:TGs} {n:Nat} (hc:X.calm=true) (h:PGs X es t)
  (hn:(assignEach es X.env).length=n:=by rfl) (hst:(assignEach es X.env).findIdx? (·.1)=none:=by rfl):PG X (.Tuple es k pos) (qvQ X.K n t):=by
 intro pins s σ H v u Q I r hw
 obtain ⟨a,xs,e1,hq,hl,hw⟩:=hw
 subst e1
 cases r
 obtain ⟨its,rv,ht,hz⟩:=I.tuple hq
 refine assign_Tuple_tuple (I.ok.hd hc) ht (by simp[hn,<-hl,rv.length]) hst λh' hx=> ?_
 have I1:Inv X pins σ H { s with heap:=h' }:=I.kept (t':=s.toks) λb o e=>hx b o (Nat.ne_of_lt (Heap.lt_size e)) e
 exact h pins _ σ H xs _ Q I1 (by simpa using rv) hw
def gSub (to ti:TE) (t:qwc):TG:=λv σ H Q=>to σ H λo H1=>ti σ H1 λi H2=>t o i v H2 λH3=>Q σ H3
def qvk (te:TE) (g:TG):TS:=λD σ H=>te σ H λx H1=>g x σ H1 D.nx
theorem qfV {i:Nat} {x:Str} {e:Expr} {te:TE} {pos':Pos} (hN:X.N.Nodup) (hi:X.N[i]? =some x) (hx:Loc X.env.scope x) (he:PE X e te) (hs:swapsWith e (some (.Name x pos')) pos.line X.env=pure false:=by rfl) (hf:X.fn x=true\/X.env.scope.names.lookup x=some .local:=by first | exact .inl rfl | exact .inr rfl | assumption):
  PS X (.Assign [.Name x pos'] e pos) (qvk te (qpF i)):=by
 intro pins s σ H D I h
 refine wpAny_Assign_Name (thn (he pins s σ H _ I h) λv s1 ⟨y,H1,I1,r1,q1⟩=> ?_) hs
 exact qhO I1 hN hi hx r1 (λs2 I2=>⟨_,H1,I2,q1⟩) hf
end
structure It where
 go:Nat->Hp->Prop
 yld:Nat->Hp->V->Hp->Prop
 stop:Nat->Hp->Prop
def qhD (X:Cx) (pins:List (Addr×Obj)) (H:Hp) (b:Addr):Prop:=
 H b=none/\b≠X.env.locals/\b∉X.fs/\(b∈X.ex\/X.s₀.heap.objs.size<=b)/\(∀x c,X.env.cells.lookup x=some c->c≠b)/\∀p∈X.pn++pins,p.1≠b
theorem Inv.fpOk {X:Cx} {pins:List (Addr×Obj)} {σ:St} {H H':Hp} {s:Shared} {b:Addr} (I:Inv X pins σ H s) (hb:s.heap.objs.size<=b) (hn:H' b=none):qhD X pins H' b:=by
 refine ⟨hn,Nat.ne_of_gt (Nat.lt_of_lt_of_le I.lt hb),I.nofs hb,.inr (Nat.le_trans I.sz hb),λx c e z=> ?_,λp hp z=> ?_⟩
 ·obtain ⟨v,q⟩:=I.cell x c e
  exact absurd (Nat.lt_of_lt_of_le q.lt (by rw[z]; exact hb)) (Nat.lt_irrefl _)
 ·exact absurd (Nat.lt_of_lt_of_le (Heap.lt_size (I.pin p hp).1) (by rw[z]; exact hb)) (Nat.lt_irrefl _)
structure qqd (P:Program) (w:World) (K:PySem.W.Frag) (tg:Expr) (J:It) (fp:List Addr) (it:Addr) (tn:Nat->Heap->Prop):Prop where
 mem:it∈fp
 obj: ∀i h,tn i h->∀b∈fp,∃o,h.get? b=some o/\∀v,o.data≠.cell v
 keep: ∀i h h',tn i h->(∀b∈fp,∀o,h.get? b=some o->h'.get? b=some o)->tn i h'
 item: ∀(X:Cx),X.prog=P->X.w=w->X.K=K->X.calm=true->∀(i:Nat) (pins:List (Addr×Obj)) (s:Shared) (σ:St) (H:Hp) (E:Value->Shared->Prop),Inv X pins σ H s->(∀b∈fp,qhD X pins H b)->tn i s.heap->J.go i H->
  wpAny (model P w) X.A (pyNext (.ref it)) (λr s1=> ∃u,r=some u/\
   wpAny (model P w) X.A (letOwnedTupleGo tg (.ref it) u) (λ_ s2=> ∃x H',Inv X pins σ H' s2/\RelV x u/\J.yld i H x H'/\tn (i+1) s2.heap/\∀b∈fp,H' b=none) E s1) E s
 done: ∀(X:Cx),X.prog=P->X.w=w->X.K=K->X.calm=true->∀(i:Nat) (pins:List (Addr×Obj)) (s:Shared) (σ:St) (H:Hp) (E:Value->Shared->Prop),Inv X pins σ H s->(∀b∈fp,qhD X pins H b)->tn i s.heap->J.stop i H->
  wpAny (model P w) X.A (pyNext (.ref it)) (λr s1=>r=none/\Inv X pins σ H s1) E s
 self: ∀(A:Around) (i:Nat) (s:Shared) (Q:Value->Shared->Prop) (E:Value->Shared->Prop),tn i s.heap->Q (.ref it) s->wpAny (model P w) A (pyIter (.ref it)) Q E s
abbrev TI:=St->Hp->(It->Hp->Prop)->Prop
def PIE (X:Cx) (pins:List (Addr×Obj)) (σ:St) (tg:Expr) (R:It->Hp->Prop) (itv:Value) (s2:Shared):Prop:=
 ∃(it:Addr) (fp:List Addr) (tn:Nat->Heap->Prop) (J:It) (H':Hp),itv= .ref it/\Inv X pins σ H' s2/\qqd X.prog X.w X.K tg J fp it tn/\tn 0 s2.heap/\(∀b∈fp,qhD X pins H' b)/\R J H'
def PI (X:Cx) (tg iter:Expr) (wi:TI):Prop:=
 ∀(pins:List (Addr×Obj)) (s:Shared) (σ:St) (H:Hp) (R:It->Hp->Prop),Inv X pins σ H s->wi σ H R->
  wpAny (model X.prog X.w) X.A (eval iter X.env) (λv s1=>wpAny (model X.prog X.w) X.A (pyIter v) (PIE X pins σ tg R) X.xe s1) X.xe s
theorem qnf {M:Model} {A:Around} {E:Value->Shared->Prop} {s:Shared} {tg:Expr} {it:Addr} {u:Value} {o:Obj} {n:String} {vs:Array Value} {Q:Unit->Shared->Prop} (ho:s.heap.get? it=some o) (hc:o.cls= .type n) (hd:o.data= .fields vs)
  (hn:["enumerate", "zip", "dict_itemiterator", "dict_reverseitemiterator", "odict_iterator", "itertools.zip_longest", "itertools.pairwise"].contains n=false) (hQ:Q () s):wpAny M A (letOwnedTupleGo tg (.ref it) u) Q E s:=by
 unfold letOwnedTupleGo
 cases tg<;>first
  | exact wpAny_pure hQ
  | (cases u<;>first
    | exact wpAny_pure hQ
    | (refine wpAny_bind (wpAny_load ho ?_)
       rw[hc,hd]
       show wpAny M A (if (["enumerate", "zip", "dict_itemiterator", "dict_reverseitemiterator", "odict_iterator", "itertools.zip_longest", "itertools.pairwise"].contains n&&vs[0]? ==some (rawInt _))=true then _ else _) Q E s
       rw[if_neg (by intro h; rw[hn,Bool.false_and] at h; cases h)]
       exact wpAny_pure hQ))
def Itl (K:PySem.W.Frag) (a:Addr):It:=
 ⟨λi H=> ∃xs x,SqL K H a xs/\xs[i]? =some x,λi H x H'=>H'=H/\∀xs,SqL K H a xs->xs[i]? =some x,λi H=> ∃xs,SqL K H a xs/\xs.length<=i⟩
def Itt (K:PySem.W.Frag) (a:Addr):It:=
 ⟨λi H=> ∃xs x,SqT K H a xs/\xs[i]? =some x,λi H x H'=>H'=H/\∀xs,SqT K H a xs->xs[i]? =some x,λi H=> ∃xs,SqT K H a xs/\xs.length<=i⟩
def Itr (lo:Int) (n:Nat):It:=⟨λi _=>i<n,λi H x H'=>H'=H/\x= .int (lo+i),λi _=>n<=i⟩
theorem qjL {P:Program} {w:World} {K:PySem.W.Frag} {tg:Expr} (a it:Addr):qqd P w K tg (Itl K a) [it] it (λi h=>h.IsListIter it a i) where
 mem:=by simp
 obj:=λi h st b hb=>by
  have e:b=it:=by simpa using hb
  subst e
  obtain ⟨o,e,c,d⟩:=st
  exact ⟨o,e,λv z=>by rw[d] at z; cases z⟩
 keep:=λi h h' st k=>st.at λo e=>k it (by simp) o e
 item:=by
  intro X hP hw hK hc i pins s σ H E I hf st hg
  subst hP hw hK
  obtain ⟨xs,x,hq,hx⟩:=hg
  obtain ⟨its,rv,p,hz⟩:=I.list hq
  obtain ⟨u,hu,ru⟩:=rv.get hx
  obtain ⟨f0,f1,f2,f3,f4,f5⟩:=hf it (by simp)
  refine wpAny_pyNext_list_item st p.isList (x:=u) (by simpa using hu) λh' st' sb=> ?_
  have I1:Inv X pins σ H { s with heap:=h' }:=I.turned (t':=s.toks) (λb o hb e=>(sb.2 b hb).trans e) f0 f1 f3 f4 f5
  obtain ⟨o,e,c,d⟩:=id st'
  exact ⟨u,rfl,qnf (s:={ s with heap:=h' }) e c d (by decide) ⟨x,H,I1,ru,⟨rfl,λys hy=>by rw[I.list_inj hy hq]; exact hx⟩,st',λb hb=>(hf b hb).1⟩⟩
 done:=by
  intro X hP hw hK hc i pins s σ H E I hf st hg
  subst hP hw hK
  obtain ⟨xs,hq,hx⟩:=hg
  obtain ⟨its,rv,p,hz⟩:=I.list hq
  obtain ⟨f0,f1,f2,f3,f4,f5⟩:=hf it (by simp)
  have hl:=rv.length
  exact wpAny_pyNext_list_end (I.ok.hd hc) st p.isList (by simp; omega) λh' eb=>⟨rfl,I.turned (t':=s.toks) (λb o hb e=>eb b o hb e) f0 f1 f3 f4 f5⟩
 self:=λ_ _ _ _ _ st h=>wpAny_pyIter_listiter st h
theorem qiM {P:Program} {w:World} {K:PySem.W.Frag} {tg:Expr} (a it:Addr):qqd P w K tg (Itt K a) [it] it (λi h=>h.IsTupleIter it a i) where
 mem:=by simp
 obj:=λi h st b hb=>by
  have e:b=it:=by simpa using hb
  subst e
  obtain ⟨o,e,c,d⟩:=st
  exact ⟨o,e,λv z=>by rw[d] at z; cases z⟩
 keep:=λi h h' st k=>st.at λo e=>k it (by simp) o e
 item:=by
  intro X hP hw hK hc i pins s σ H E I hf st hg
  subst hP hw hK
  obtain ⟨xs,x,hq,hx⟩:=hg
  obtain ⟨its,rv,p,hz⟩:=I.tuple hq
  obtain ⟨u,hu,ru⟩:=rv.get hx
  obtain ⟨f0,f1,f2,f3,f4,f5⟩:=hf it (by simp)
  refine wpAny_pyNext_tuple_item st (show s.heap.IsTuple a its.toArray from p) (x:=u) (by simpa using hu) λh' st' sb=> ?_
  have I1:Inv X pins σ H { s with heap:=h' }:=I.turned (t':=s.toks) (λb o hb e=>(sb.2 b hb).trans e) f0 f1 f3 f4 f5
  obtain ⟨o,e,c,d⟩:=id st'
  exact ⟨u,rfl,qnf (s:={ s with heap:=h' }) e c d (by decide) ⟨x,H,I1,ru,⟨rfl,λys hy=>by rw[I.tuple_inj hy hq]; exact hx⟩,st',λb hb=>(hf b hb).1⟩⟩
 done:=by
  intro X hP hw hK hc i pins s σ H E I hf st hg
  subst hP hw hK
  obtain ⟨xs,hq,hx⟩:=hg
  obtain ⟨its,rv,p,hz⟩:=I.tuple hq
  obtain ⟨f0,f1,f2,f3,f4,f5⟩:=hf it (by simp)
  have hl:=rv.length
  exact wpAny_pyNext_tuple_end (I.ok.hd hc) st (show s.heap.IsTuple a its.toArray from p) (by simp; omega) λh' eb=>⟨rfl,I.turned (t':=s.toks) (λb o hb e=>eb b o hb e) f0 f1 f3 f4 f5⟩
 self:=λ_ _ _ _ _ st h=>wpAny_pyIter_tupleiter st h
theorem qiN {P:Program} {w:World} {K:PySem.W.Frag} {tg:Expr} (it:Addr) (lo:Int) (n:Nat):qqd P w K tg (Itr lo n) [it] it (λi h=>IsRangeIter h it (lo+(i:Nat)*1) ((n:Int) - (i:Nat)) 1) where
 mem:=by simp
 obj:=λi h st b hb=>by
  have e:b=it:=by simpa using hb
  subst e
  exact ⟨_,st,λv z=>by
   have z':Data.fields _=Data.cell v:=z
   cases z'⟩
 keep:=λi h h' st k=>k it (by simp) _ st
 item:=by
  intro X hP hw hK hc i pins s σ H E I hf st hg
  subst hP hw hK
  obtain ⟨f0,f1,f2,f3,f4,f5⟩:=hf it (by simp)
  have W:=Walks.range (prog:=X.prog) (w:=X.w) (I.ok.hd hc) it lo 1 n
  refine W.item i s _ _ hg st λv h' tk hv st' kk=> ?_
  obtain ⟨t,rfl⟩:=hv
  have I1:Inv X pins σ H { s with heap:=h',toks:=tk }:=I.turned (λb o hb e=>kk b o (by simpa using hb) e) f0 f1 f3 f4 f5
  refine ⟨_,rfl,qnf (s:={ s with heap:=h',toks:=tk }) (n:= "range_iterator") st' rfl rfl (by decide) ⟨.int (lo+i),H,I1,⟨t,?_⟩,⟨rfl,rfl⟩,st',λb hb=>(hf b hb).1⟩⟩
  rw[Int.mul_one]
 done:=by
  intro X hP hw hK hc i pins s σ H E I hf st hg
  subst hP hw hK
  obtain ⟨f0,f1,f2,f3,f4,f5⟩:=hf it (by simp)
  exact wpAny_pyNext_range_end (I.ok.hd hc) st (by have:n<=i:=hg; omega) λh' eb=>⟨rfl,I.turned (t':=s.toks) (λb o hb e=>eb b o hb e) f0 f1 f3 f4 f5⟩
 self:=λ_ _ _ _ _ st h=>wpAny_pyIter_rangeiter st h
end L2
namespace L2
open PySem PySem.Spec PyProof.Rows
section
variable {X:Cx} {tg:Expr}
theorem qmI {pins:List (Addr×Obj)} {σ:St} {H:Hp} {s:Shared} {R:It->Hp->Prop} {E:Value->Shared->Prop} {lo hi:Int} {t u v:Tok} {tk:Nat} (I:Inv X pins σ H s) (h1: -(2 ^ 62)<=lo) (h2:lo<2 ^ 62) (h3: -(2 ^ 62)<=hi) (h4:hi<2 ^ 62)
  (q:R (Itr lo (hi - lo).toNat) H):wpAny (model X.prog X.w) X.A (pyIter (.ref s.heap.objs.size)) (PIE X pins σ tg R) E { s with heap:=s.heap.push { cls:=.type "range",data:=.fields #[.int lo t,.int hi u,.int 1 v] },toks:=tk }:=by
 refine wpAny_pyIter_range (IsRange.new ..) (small_one h1 h2 h3 h4) ?_
 have I1:Inv X pins σ H { s with heap:=s.heap.push { cls:=.type "range",data:=.fields #[.int lo t,.int hi u,.int 1 v] },toks:=tk }:=I.kept λb o e=>Heap.get?_push_of_some _ e
 refine ⟨(s.heap.push { cls:=.type "range",data:=.fields #[.int lo t,.int hi u,.int 1 v] }).objs.size,[(s.heap.push { cls:=.type "range",data:=.fields #[.int lo t,.int hi u,.int 1 v] }).objs.size],_,_,H,rfl,
  I1.kept (t':=tk) λb o e=>Heap.get?_push_of_some _ e,qiN _ lo (hi - lo).toNat,?_,λb hb=> ?_,q⟩
 ·have e1:lo+((0:Nat):Int)*1=lo:=by simp
  have e2:(((hi - lo).toNat:Nat):Int) - ((0:Nat):Int)=Builtin.Range.rangeSize lo hi 1:=by rw[rangeSize_one]; split<;>omega
  show IsRangeIter _ _ (lo+((0:Nat):Int)*1) ((((hi - lo).toNat:Nat):Int) - ((0:Nat):Int)) 1
  rw[e1,e2]
  exact Heap.get?_push_size _ rfl
 ·have e:b=(s.heap.push { cls:=.type "range",data:=.fields #[.int lo t,.int hi u,.int 1 v] }).objs.size:=by simpa using hb
  subst e
  exact I1.fpOk (Nat.le_refl _) (I1.hok.fresh (Nat.le_refl _))
def qug (ta:TA):TI:=λσ H R=>ta σ H λvs H1=> ∃j:Int,vs=[.int j]/\ -(2 ^ 62)<=j/\j<2 ^ 62/\R (Itr 0 j.toNat) H1
theorem qkv {a:Expr} {ta:TA} {p pos:Pos} (hg:Gl X "range") (hm:X.mg "range" =none) (ha:PA X [a] ta) (hs:starEach [a] X.env=[(false,eval a X.env)]:=by rfl):PI X tg (.Call (.Name "range" p) [a] [] pos) (qug ta):=by
 intro pins s σ H R I h
 refine Call_ (qdH I hg hm boot_range (PyProof.Rows.callWith_type1 (thn (ha pos pins s σ H _ I h) λus s1 ⟨vs,H1,I1,r1,q1⟩=> ?_) hs rfl))
 obtain ⟨j,e,q1,q2,q⟩:=q1
 subst e
 cases r1 with
 | cons r rr=>
  cases rr
  obtain ⟨t,rfl⟩:=r
  exact call_range_1 (qmI I1 (by omega) (by omega) q1 q2 (by simpa using q))
def qvi (wi:TI) (g:TG) (tb:TS):TS:=λD σ H=>wi σ H λJ H1=> ∃W:Nat->Nat->St->Hp->Prop,(∃m,W 0 m σ H1)/\∀i m σ H,W i m σ H->
 (J.stop i H/\D.nx σ H)\/(J.go i H/\∃N:St->Hp->Prop,(∀σ' H',N σ' H'->∃m',m'<m/\W (i+1) m' σ' H')/\∀x H',J.yld i H x H'->g x σ H' λσ2 H2=>tb { D with nx:=N,ct:=N,bk:=D.nx } σ2 H2)
def qfW (fp:List Addr) (h:Heap):List (Addr×Obj):=fp.filterMap λb=>(h.get? b).map λo=>(b,o)
theorem qcA {fp:List Addr} {h:Heap} {b:Addr} {o:Obj} (hb:b∈fp) (e:h.get? b=some o):(b,o)∈qfW fp h:=List.mem_filterMap.mpr ⟨b,hb,by rw[e]; rfl⟩
theorem qkG {fp:List Addr} {h:Heap} {p:Addr×Obj} (hp:p∈qfW fp h):p.1∈fp/\h.get? p.1=some p.2:=by
 obtain ⟨b,hb,e⟩:=List.mem_filterMap.mp hp
 cases q:h.get? b with
 | none=>rw[q] at e; cases e
 | some o=>
  rw[q] at e
  have e':(b,o)=p:=Option.some.inj e
  subst e'
  exact ⟨hb,q⟩
theorem Inv.pinned {pins:List (Addr×Obj)} {σ:St} {H:Hp} {s:Shared} {fp:List Addr} (I:Inv X pins σ H s) (hf: ∀b∈fp,qhD X pins H b) (ho: ∀b∈fp,∃o,s.heap.get? b=some o/\∀v,o.data≠.cell v):Inv X (pins++qfW fp s.heap) σ H s:=
 I.pins_of λp hp=>(List.mem_append.mp hp).elim (λz=>I.pin p (List.mem_append_right _ z)) λz=>by
  obtain ⟨hb,e⟩:=qkG z
  obtain ⟨f0,f1,f2,_⟩:=hf p.1 hb
  obtain ⟨o,e',d⟩:=ho p.1 hb
  rw[e] at e'; cases e'
  exact ⟨e,f0,f1,f2,d⟩
theorem Inv.unpinned {pins pl:List (Addr×Obj)} {σ:St} {H:Hp} {s:Shared} (I:Inv X (pins++pl) σ H s):Inv X pins σ H s:=I.pins_of λp hp=>I.pin p (List.mem_append_right _ (List.mem_append_left _ hp))
theorem qq3 {iter:Expr} {body:List Stmt} {wi:TI} {g:TG} {tb:TS} {pos:Pos} (hp:PassesOwn (model X.prog X.w) X.A X.env X.xe) (hc:X.calm=true) (hi:PI X tg iter wi) (hg:PG X tg g) (hb:PSs X body tb)
  (hs: ∀x,foldedSetIterable iter X.env x=pure x:=by intro _; rfl):PS X (.For tg iter body [] pos) (qvi wi g tb):=by
 intro pins s σ H D I h
 refine wpAny_For (thn (hi pins s σ H _ I h) λv s1 h1=>thn h1 λitv s2 h2=> ?_) hs
 obtain ⟨it,fp,tn,J,H2,e,I2,T,st2,f2,W,⟨m0,w0⟩,qnX⟩:=h2
 subst e
 have stat: ∀{H':Hp},(∀b∈fp,H' b=none)->∀b∈fp,qhD X pins H' b:=λhn b hb=>⟨hn b hb,(f2 b hb).2⟩
 refine codeAny_forLoop_any (λn s'=> ∃i σ' H',Inv X pins σ' H' s'/\tn i s'.heap/\(∀b∈fp,H' b=none)/\W i n σ' H') ?_ m0 ⟨0,σ,H2,I2,st2,λb hb=>(f2 b hb).1,w0⟩
 rintro n s3 ⟨i,σ3,H3,I3,st3,fr3,w3⟩
 rcases qnX i n σ3 H3 w3 with ⟨stop,qn⟩ | ⟨go,N,hN,step⟩
 ·refine wpAny_passesOwn hp (thn (T.done X rfl rfl rfl hc i pins s3 σ3 H3 X.xe I3 (stat fr3) st3 stop) λr s4 ⟨hr,I4⟩=> ?_)
  subst hr
  exact wpAny_execs_nil ⟨σ3,H3,I4,qn⟩
 ·refine wpAny_passesOwn hp (thn (T.item X rfl rfl rfl hc i pins s3 σ3 H3 X.xe I3 (stat fr3) st3 go) λr s4 ⟨u,hr,h4⟩=> ?_)
  subst hr
  refine wpAny_passesOwn hp (thn h4 λ_ s5 ⟨x,H5,I5,r5,y5,st5,fr5⟩=> ?_)
  have I5':=I5.pinned (stat fr5) (T.obj _ _ st5)
  refine wpAny_passesOwn hp (thn (hg _ s5 σ3 H5 x u _ I5' r5 (step x H5 y5)) λ_ s6 ⟨σ6,H6,I6,q6⟩=> ?_)
  refine wpAny_passesOwn hp (thn (hb _ s6 σ6 H6 _ I6 q6) λf s7 q7=> ?_)
  have again: ∀{σ7:St} {H7:Hp},Inv X (pins++qfW fp s5.heap) σ7 H7 s7->N σ7 H7->∃m,m<n/\∃i σ' H',Inv X pins σ' H' s7/\tn i s7.heap/\(∀b∈fp,H' b=none)/\W i m σ' H':=λ{σ7 H7} I7 n7=>by
   obtain ⟨m',hm,w7⟩:=hN σ7 H7 n7
   refine ⟨m',hm,i+1,σ7,H7,I7.unpinned,T.keep _ _ _ st5 λb hb o e=>(I7.pin (b,o) (List.mem_append_right _ (List.mem_append_right _ (qcA hb e)))).1,λb hb=> ?_,w7⟩
   obtain ⟨o,e,d⟩:=T.obj _ _ st5 b hb
   exact (I7.pin (b,o) (List.mem_append_right _ (List.mem_append_right _ (qcA hb e)))).2.1
  cases f with
  | next=>obtain ⟨σ7,H7,I7,n7⟩:=q7; exact again I7 n7
  | cont=>obtain ⟨σ7,H7,I7,n7⟩:=q7; exact again I7 n7
  | brk=>obtain ⟨σ7,H7,I7,q7⟩:=q7; exact ⟨σ7,H7,I7.unpinned,q7⟩
  | ret v=>obtain ⟨x7,σ7,H7,I7,r7,q7⟩:=q7; exact ⟨x7,σ7,H7,I7.unpinned,r7,q7⟩
end
end L2
namespace L2
open PySem PySem.Spec PyProof.Rows
abbrev R2:=V->V->Hp->VK->Prop
def OpR (X:Cx) (f:Value->Value->Sem Value) (r:R2):Prop:=
 ∀(pins:List (Addr×Obj)) (s:Shared) (σ:St) (H:Hp) (x y:V) (v u:Value) (Q:VK),Inv X pins σ H s->RelV x v->RelV y u->r x y H Q->
  wpAny (model X.prog X.w) X.A (f v u) (EP X pins σ Q) X.xe s
def UnR (X:Cx) (f:Value->Sem Value) (r:V->Hp->VK->Prop):Prop:=
 ∀(pins:List (Addr×Obj)) (s:Shared) (σ:St) (H:Hp) (x:V) (v:Value) (Q:VK),Inv X pins σ H s->RelV x v->r x H Q->
  wpAny (model X.prog X.w) X.A (f v) (EP X pins σ Q) X.xe s
def qcH (X:Cx) (f:Value) (r:List V->Hp->VK->Prop):Prop:=
 ∀(pins:List (Addr×Obj)) (s:Shared) (σ:St) (H:Hp) (xs:List V) (us:List Value) (Q:VK),Inv X pins σ H s->Vals xs us->r xs H Q->
  wpAny (model X.prog X.w) X.A (call f us) (EP X pins σ Q) X.xe s
def qwb (X:Cx) (r:V->Hp->(Bool->Hp->Prop)->Prop):Prop:=
 ∀(pins:List (Addr×Obj)) (s:Shared) (σ:St) (H:Hp) (x:V) (v:Value) (Q:Bool->Hp->Prop),Inv X pins σ H s->RelV x v->r x H Q->
  wpAny (model X.prog X.w) X.A (truthy v) (TP X pins σ Q) X.xe s
def tOp (r:R2) (ta tb:TE):TE:=λσ H Q=>ta σ H λx H1=>tb σ H1 λy H2=>r x y H2 Q
def tUn (r:V->Hp->VK->Prop) (ta:TE):TE:=λσ H Q=>ta σ H λx H1=>r x H1 Q
def rI (C:Int->Int->Prop) (g:Int->Int->V):R2:=λx y H Q=> ∃i j,x= .int i/\y= .int j/\C i j/\Q (g i j) H
def rI0 (g:Int->Int->V):R2:=λx y H Q=> ∃i j,x= .int i/\y= .int j/\Q (g i j) H
def rU (g:Int->V):V->Hp->VK->Prop:=λx H Q=> ∃i,x= .int i/\Q (g i) H
section
variable {X:Cx} {a b c:Expr} {ta tb tc:TE} {pos:Pos}
theorem quE (ha:PE X a ta) (hb:PE X b tb) {pins:List (Addr×Obj)} {s:Shared} {σ:St} {H:Hp} {R:V->V->Hp->Prop} (I:Inv X pins σ H s)
  (h:ta σ H λx H1=>tb σ H1 λy H2=>R x y H2) {Q:Value->Shared->Prop} {f:Value->Value->Sem Value}
  (hf: ∀v u s2 x y H2,Inv X pins σ H2 s2->RelV x v->RelV y u->R x y H2->wpAny (model X.prog X.w) X.A (f v u) Q X.xe s2):
  wpAny (model X.prog X.w) X.A (eval a X.env) (λv s₁=>wpAny (model X.prog X.w) X.A (eval b X.env) (λu s₂=>wpAny (model X.prog X.w) X.A (f v u) Q X.xe s₂) X.xe s₁) X.xe s:=by
 refine thn (ha pins s σ H _ I h) λv s1 ⟨x,H1,I1,r1,q1⟩=> ?_
 refine thn (hb pins s1 σ H1 _ I1 q1) λu s2 ⟨y,H2,I2,r2,q2⟩=> ?_
 exact hf v u s2 x y H2 I2 r1 r2 q2
theorem qcY {op:Operator} {r:R2} (ho:OpR X (binaryOp op) r) (ha:PE X a ta) (hb:PE X b tb):PE X (.BinOp a op b pos) (tOp r ta tb):=by
 intro pins s σ H Q I h
 exact wpAny_BinOp (quE ha hb I h λv u s2 x y H2 I2 rx ry q=>ho pins s2 σ H2 x y v u Q I2 rx ry q)
theorem qts {op:UnaryOp} {r:V->Hp->VK->Prop} (ho:UnR X (unaryOp op) r) (ha:PE X a ta):PE X (.UnaryOp op a pos) (tUn r ta):=by
 intro pins s σ H Q I h
 exact UnaryOp_ (thn (ha pins s σ H _ I h) λv s1 ⟨x,H1,I1,r1,q1⟩=>ho pins s1 σ H1 x v Q I1 r1 q1)
theorem opI {f:Value->Value->Sem Value} {C:Int->Int->Prop} {g:Int->Int->Int}
  (rule: ∀(i j:Int) (t u:Tok) (s:Shared) (Q:Value->Shared->Prop) (E:Value->Shared->Prop),C i j->Q (.int (g i j) s.toks) { s with toks:=s.toks+1 }->wpAny (model X.prog X.w) X.A (f (.int i t) (.int j u)) Q E s):
  OpR X f (rI C λi j=>.int (g i j)):=by
 intro pins s σ H x y v u Q I rx ry h
 obtain ⟨i,j,rfl,rfl,hc,q⟩:=h
 obtain ⟨t,rfl⟩:=rx
 obtain ⟨t',rfl⟩:=ry
 exact rule i j t t' s _ _ hc ⟨.int (g i j),H,I.tok _,⟨_,rfl⟩,q⟩
theorem quU {f:Value->Value->Sem Value} {g:Int->Int->Int}
  (rule: ∀(i j:Int) (t u:Tok) (s:Shared) (Q:Value->Shared->Prop) (E:Value->Shared->Prop),Q (.int (g i j) s.toks) { s with toks:=s.toks+1 }->wpAny (model X.prog X.w) X.A (f (.int i t) (.int j u)) Q E s):
  OpR X f (rI0 λi j=>.int (g i j)):=by
 intro pins s σ H x y v u Q I rx ry h
 obtain ⟨i,j,rfl,rfl,q⟩:=h
 obtain ⟨t,rfl⟩:=rx
 obtain ⟨t',rfl⟩:=ry
 exact rule i j t t' s _ _ ⟨.int (g i j),H,I.tok _,⟨_,rfl⟩,q⟩
theorem qtx {f:Value->Value->Sem Value} {g:Int->Int->Bool}
  (rule: ∀(i j:Int) (t u:Tok) (s:Shared) (Q:Value->Shared->Prop) (E:Value->Shared->Prop),Q (.bool (g i j)) s->wpAny (model X.prog X.w) X.A (f (.int i t) (.int j u)) Q E s):
  OpR X f (rI0 λi j=>.bl (g i j)):=by
 intro pins s σ H x y v u Q I rx ry h
 obtain ⟨i,j,rfl,rfl,q⟩:=h
 obtain ⟨t,rfl⟩:=rx
 obtain ⟨t',rfl⟩:=ry
 exact rule i j t t' s _ _ ⟨.bl (g i j),H,I,rfl,q⟩
def qu8 (i j:Int):Prop:=0<j/\j<1073741824
def qsu (i j:Int):Prop:=(-(2 ^ 64)<i/\i<2 ^ 64)\/(-(2 ^ 64)<j/\j<2 ^ 64)
theorem qsu.ok {i j:Int} (h:qsu i j):IntMulOk i j:=by
 rcases h with ⟨h1,h2⟩ | ⟨h1,h2⟩
 ·exact .of_left (intBits_le_64 h1 h2)
 ·exact .of_right (intBits_le_64 h1 h2)
theorem qfZ:OpR X (binaryOp .Add) (rI0 λi j=>.int (i+j)):=quU λ_ _ _ _ _ _ _ q=>add_int q
theorem qcN:OpR X (binaryOp .Sub) (rI0 λi j=>.int (i - j)):=quU λ_ _ _ _ _ _ _ q=>sub_int q
theorem qcn:OpR X (binaryOp .Mult) (rI qsu λi j=>.int (i*j)):=opI λ_ _ _ _ _ _ _ hc q=>mul_int q hc.ok
theorem qfq:OpR X (binaryOp .FloorDiv) (rI qu8 λi j=>.int (i / j)):=opI λi j _ _ _ _ _ hc q=>by
 have h1:(0:Int)<j:=hc.1
 have h2:j<1073741824:=hc.2
 exact floordiv_int (by omega) (by rw[Int.fdiv_eq_ediv_of_nonneg i (by omega)]; exact q) (.inl (PyProof.noPylong_small (by omega)))
theorem qef:OpR X (binaryOp .Mod) (rI (λ_ j=>0<j) λi j=>.int (i % j)):=opI λi j _ _ _ _ _ hc q=>by
 have h1:(0:Int)<j:=hc
 exact mod_int' (by omega) (by rw[Int.fmod_eq_emod_of_nonneg i (by omega)]; exact q)
theorem unI {f:Value->Sem Value} {g:Int->Int}
  (rule: ∀(i:Int) (t:Tok) (s:Shared) (Q:Value->Shared->Prop) (E:Value->Shared->Prop),Q (.int (g i) s.toks) { s with toks:=s.toks+1 }->wpAny (model X.prog X.w) X.A (f (.int i t)) Q E s):
  UnR X f (rU λi=>.int (g i)):=by
 intro pins s σ H x v Q I rx h
 obtain ⟨i,rfl,q⟩:=h
 obtain ⟨t,rfl⟩:=rx
 exact rule i t s _ _ ⟨.int (g i),H,I.tok _,⟨_,rfl⟩,q⟩
theorem qqu:UnR X (unaryOp .USub) (rU λi=>.int (-i)):=unI λ_ _ _ _ _ q=>neg_int q
end
section
variable {X:Cx} {a b c:Expr} {ta tb tc:TE} {pos:Pos}
theorem qog {pins:List (Addr×Obj)} {σ:St} {H:Hp} {s:Shared} {Q:VK} {k k':Bool} (I:Inv X pins σ H s) (q:Q (.bl k) H) (e:k=k'):EP X pins σ Q (.bool k') s:=by
 subst e
 exact ⟨.bl k,H,I,rfl,q⟩
theorem qre:OpR X (compareOp .Lt) (rI0 λi j=>.bl (decide (i<j))):=qtx λ_ _ _ _ _ _ _ q=>lt_int q
theorem qtw:OpR X (compareOp .LtE) (rI0 λi j=>.bl (decide (i<=j))):=qtx λ_ _ _ _ _ _ _ q=>le_int q
theorem qkE:OpR X (compareOp .Gt) (rI0 λi j=>.bl (decide (j<i))):=qtx λ_ _ _ _ _ _ _ q=>gt_int q
theorem qkB:OpR X (compareOp .Lt) (λx y H Q=> ∃i j,x= .str i/\y= .str j/\Q (.bl (decide (i.cps.toList<j.cps.toList))) H):=by
 intro pins s σ H x y v u Q I rx ry h
 obtain ⟨i,j,rfl,rfl,q⟩:=h
 obtain ⟨t,rfl⟩:=rx
 obtain ⟨t',rfl⟩:=ry
 exact lt_str (qog I q rfl)
theorem qpg:OpR X (compareOp .IsNot) (λx y H Q=>y= .non/\Q (.bl (!decide (x= .non))) H):=by
 intro pins s σ H x y v u Q I rx ry h
 obtain ⟨rfl,q⟩:=h
 cases ry
 refine isnot_none_gen (qog I q ?_)
 cases x<;>first
  | (cases rx; rfl)
  | (obtain ⟨t,rfl⟩:=rx; rfl)
theorem OpR.or {f:Value->Value->Sem Value} {r r':R2} (h:OpR X f r) (h':OpR X f r'):OpR X f (λx y H Q=>r x y H Q\/r' x y H Q):=by
 intro pins s σ H x y v u Q I rx ry q
 rcases q with q | q
 ·exact h pins s σ H x y v u Q I rx ry q
 ·exact h' pins s σ H x y v u Q I rx ry q
theorem qn9 (b:Expr) {op:CmpOp} (h:op≠.In:=by decide) (h2:op≠.NotIn:=by decide):behindInMarks op b=false:=by
 have e1:(op==CmpOp.In)=false:=by cases op<;>first | rfl | exact absurd rfl h
 have e2:(op==CmpOp.NotIn)=false:=by cases op<;>first | rfl | exact absurd rfl h2
 cases b<;>simp[behindInMarks,e1,e2]
theorem qkw {op:CmpOp} {r:R2} (ho:OpR X (compareOp op) r) (ha:PE X a ta) (hb:PE X b tb) (hm:behindInMarks op b=false):PE X (.Compare a [op] [b] pos) (tOp r ta tb):=by
 intro pins s σ H Q I h
 exact wpAny_Compare1 (quE ha hb I h λv u s2 x y H2 I2 rx ry q=>ho pins s2 σ H2 x y v u Q I2 rx ry q) hm
def qqA (t:TE):TT:=λσ H Q=>t σ H λx H'=> ∃k,x= .bl k/\Q k H'
theorem qcW {op:CmpOp} {r:R2} (ho:OpR X (compareOp op) r) (ha:PE X a ta) (hb:PE X b tb) (hm:behindInMarks op b=false):PT X (.Compare a [op] [b] pos) (qqA (tOp r ta tb)):=by
 intro pins s σ H Q I h
 refine wpAny_isTrue_Compare1 (thn (ha pins s σ H _ I h) λv s1 ⟨x,H1,I1,r1,q1⟩=>thn (hb pins s1 σ H1 _ I1 q1) λu s2 ⟨y,H2,I2,r2,q2⟩=>
  thn (ho pins s2 σ H2 x y v u _ I2 r1 r2 q2) λc s3 ⟨z,H3,I3,r3,k,e,q3⟩=> ?_) hm
 subst e
 cases r3
 exact wpAny_truthy_bool ⟨H3,I3,q3⟩
def qjN (r r':R2) (ta tb tc:TE):TE:=λσ H Q=>ta σ H λx H1=>tb σ H1 λy H2=>r x y H2 λz H3=> ∃k,z= .bl k/\
 (if k=true then tc σ H3 λw' H4=>r' y w' H4 Q else Q (.bl false) H3)
theorem qmV {op op':CmpOp} {r r':R2} (ho:OpR X (compareOp op) r) (ho':OpR X (compareOp op') r') (ha:PE X a ta) (hb:PE X b tb) (hc:PE X c tc)
  (hm:lastMarks [op,op'] [b,c]=false:=by with_unfolding_all rfl):PE X (.Compare a [op,op'] [b,c] pos) (qjN r r' ta tb tc):=by
 intro pins s σ H Q I h
 refine Compare_chain (thn (ha pins s σ H _ I h) λv s1 ⟨x,H1,I1,r1,q1⟩=>chain_link (thn (hb pins s1 σ H1 _ I1 q1) λu s2 ⟨y,H2,I2,r2,q2⟩=>
  thn (ho pins s2 σ H2 x y v u _ I2 r1 r2 q2) λd s3 ⟨z,H3,I3,r3,k,e,q3⟩=> ?_)) hm
 subst e
 cases r3
 refine wpAny_truthy_bool ?_
 cases k with
 | false=>exact ite_ff ⟨.bl false,H3,I3,rfl,q3⟩
 | true=>exact ite_tt (chain_last (thn (hc pins s3 σ H3 _ I3 q3) λw' s4 ⟨z',H4,I4,r4,q4⟩=>ho' pins s4 σ H4 y z' u w' Q I4 r2 r4 q4))
theorem qmK {op op':CmpOp} {r r':R2} (ho:OpR X (compareOp op) r) (ho':OpR X (compareOp op') r') (ha:PE X a ta) (hb:PE X b tb) (hc:PE X c tc)
  (hm:lastMarks [op,op'] [b,c]=false:=by with_unfolding_all rfl):PT X (.Compare a [op,op'] [b,c] pos) (qqA (qjN r r' ta tb tc)):=by
 intro pins s σ H Q I h
 refine isTrue_chain (thn (ha pins s σ H _ I h) λv s1 ⟨x,H1,I1,r1,q1⟩=>test_link (thn (hb pins s1 σ H1 _ I1 q1) λu s2 ⟨y,H2,I2,r2,q2⟩=>
  thn (ho pins s2 σ H2 x y v u _ I2 r1 r2 q2) λd s3 ⟨z,H3,I3,r3,k,e,q3⟩=> ?_)) hm
 subst e
 cases r3
 refine wpAny_truthy_bool ?_
 cases k with
 | false=>
  obtain ⟨k',e',q'⟩:=q3
  cases e'
  exact ite_ff ⟨H3,I3,q'⟩
 | true=>
  refine ite_tt (test_last (thn (hc pins s3 σ H3 _ I3 q3) λw' s4 ⟨z',H4,I4,r4,q4⟩=>thn (ho' pins s4 σ H4 y z' u w' _ I4 r2 r4 q4) λd' s5 ⟨z2,H5,I5,r5,k2,e2,q5⟩=> ?_))
  subst e2
  cases r5
  exact wpAny_truthy_bool ⟨H5,I5,q5⟩
def qwa (K:PySem.W.Frag) (x:V) (H:Hp) (k:Bool):Prop:=
 match x with
 | .non=>k=false
 | .bl b=>k=b
 | .int i=>k=(i != 0)
 | .str y=>y.length<=sizeLine/\k=((y.length:Int) != 0)
 | .byt y=>y.size<=sizeLine/\k=((y.size:Int) != 0)
 | .ref p=>(∃xs,SqL K H p xs/\k= !xs.isEmpty)\/(∃xs,SqT K H p xs/\k= !xs.isEmpty)\/∃kvs,H p=some (.dK kvs)/\k= !kvs.isEmpty
 | _=>False
theorem qje {κ:Type} {kvs:List (κ×V)} {vs:List (κ×Value)} (r:KV kvs vs):(!vs.isEmpty)= !kvs.isEmpty:=by
 cases r<;>rfl
theorem qe2 {xs:List V} {its:List Value} (r:Vals xs its):(!its.toArray.isEmpty)= !xs.isEmpty:=by
 cases r<;>simp
theorem qeg:(sizeLine:Nat)<2 ^ 63:=by rw[sizeLine_eq]; decide
theorem quL:qwb X (λx H Q=> ∃k,qwa X.K x H k/\Q k H):=by
 intro pins s σ H x v Q I rx h
 obtain ⟨k,e,q⟩:=h
 have hl:=qeg
 have hs:sizeLine=16777216:=sizeLine_eq
 cases x with
 | non=>
  cases rx
  have e':k=false:=e
  subst e'
  exact truthy_none ⟨H,I,q⟩
 | bl b=>
  cases rx
  have e':k=b:=e
  subst e'
  exact wpAny_truthy_bool ⟨H,I,q⟩
 | int i=>
  obtain ⟨t,rfl⟩:=rx
  have e':k=(i != 0):=e
  subst e'
  exact PySem.P.truthy_int ⟨H,I,q⟩
 | str y=>
  obtain ⟨t,rfl⟩:=rx
  obtain ⟨hy,e'⟩:y.length<=sizeLine/\k=((y.length:Int) != 0):=e
  subst e'
  exact PySem.P.truthy_str (by omega) ⟨H,I.tok _,q⟩
 | byt y=>
  obtain ⟨t,rfl⟩:=rx
  obtain ⟨hy,e'⟩:y.size<=sizeLine/\k=((y.size:Int) != 0):=e
  subst e'
  exact PySem.W.truthy_bytes (by omega) ⟨H,I.tok _,q⟩
 | ref p=>
  cases rx
  have e':(∃xs,SqL X.K H p xs/\k= !xs.isEmpty)\/(∃xs,SqT X.K H p xs/\k= !xs.isEmpty)\/∃kvs,H p=some (.dK kvs)/\k= !kvs.isEmpty:=e
  rcases e' with ⟨xs,hx,e'⟩ | ⟨xs,hx,e'⟩ | ⟨kvs,hx,e'⟩
  ·subst e'
   obtain ⟨its,r,pl,hz⟩:=I.list hx
   have hlen:=r.length
   exact wpAny_truthy_list pl.isList (by simp only[List.size_toArray]; omega) ⟨H,I.tok _,by rw[qe2 r]; exact q⟩
  ·subst e'
   obtain ⟨its,r,pl,hz⟩:=I.tuple hx
   have hlen:=r.length
   exact truthy_tuple pl (by simp only[List.size_toArray]; omega) ⟨H,I.tok _,by rw[qe2 r]; exact q⟩
  ·subst e'
   obtain ⟨hz,hS,vs,r,m⟩:kvs.length<=sizeLine/\(p==sysModules)=false/\∃vs,KV kvs vs/\s.heap.DictOf (qa2 X.prog X.w) p vs:=I.hok p _ hx
   have hlen:kvs.length=vs.length:=Paired.length r
   exact wpAny_truthy_dict hS m (by omega) ⟨H,I.tok _,by rw[qje r]; exact q⟩
 | _=>exact (show False from e).elim
theorem qi4:OpR X (binaryOp .Add) (λx y H Q=> ∃i j,x= .str i/\y= .str j/\i.length+j.length<=sizeLine/\Q (.str (i++j)) H):=by
 intro pins s σ H x y v u Q I rx ry h
 obtain ⟨i,j,rfl,rfl,hz,q⟩:=h
 obtain ⟨t,rfl⟩:=rx
 obtain ⟨t',rfl⟩:=ry
 exact add_str (λt' tk=>⟨.str (i++j),H,I.tok _,⟨_,rfl⟩,q⟩) hz
theorem qd0 {x:V} {us:List Value} (r:Vals [x] us): ∃u,us=[u]/\RelV x u:=by
 cases r with
 | cons r1 r2=>cases r2; exact ⟨_,rfl,r1⟩
theorem qmg {x y:V} {us:List Value} (r:Vals [x,y] us): ∃u w',us=[u,w']/\RelV x u/\RelV y w':=by
 cases r with
 | cons r1 r2=>
  cases r2 with
  | cons r3 r4=>cases r4; exact ⟨_,_,rfl,r1,r3⟩
theorem qlV (hc:X.calm=true):qcH X (.builtin "max") (λxs H Q=> ∃i j,xs=[.int i,.int j]/\Q (.int (if j>i then j else i)) H):=by
 intro pins s σ H xs us Q I r h
 obtain ⟨i,j,rfl,q⟩:=h
 obtain ⟨u,w',rfl,⟨t,rfl⟩,⟨t',rfl⟩⟩:=qmg r
 refine max_two_ints (I.ok.hd hc) λh' tk k=>⟨_,H,I.kept k,?_,q⟩
 by_cases hj:j>i
 ·rw[if_pos hj,if_pos hj]; exact ⟨_,rfl⟩
 ·rw[if_neg hj,if_neg hj]; exact ⟨_,rfl⟩
theorem qlT (hc:X.calm=true):qcH X (.builtin "min") (λxs H Q=> ∃i j,xs=[.int i,.int j]/\Q (.int (if j<i then j else i)) H):=by
 intro pins s σ H xs us Q I r h
 obtain ⟨i,j,rfl,q⟩:=h
 obtain ⟨u,w',rfl,⟨t,rfl⟩,⟨t',rfl⟩⟩:=qmg r
 refine min_two_ints (I.ok.hd hc) λh' tk k=>⟨_,H,I.kept k,?_,q⟩
 by_cases hj:j<i
 ·rw[if_pos hj,if_pos hj]; exact ⟨_,rfl⟩
 ·rw[if_neg hj,if_neg hj]; exact ⟨_,rfl⟩
def qwe (K:PySem.W.Frag) (x:V) (H:Hp) (n:Nat):Prop:=
 match x with
 | .str y=>y.length<=sizeLine/\n=y.length
 | .byt y=>y.size<=sizeLine/\n=y.size
 | .ref p=>(∃xs,SqL K H p xs/\n=xs.length)\/∃xs,SqT K H p xs/\n=xs.length
 | _=>False
theorem qiI:qcH X (.builtin "len") (λxs H Q=> ∃x n,xs=[x]/\qwe X.K x H n/\Q (.int n) H):=by
 intro pins s σ H xs us Q I r h
 obtain ⟨x,n,rfl,e,q⟩:=h
 obtain ⟨u,rfl,rx⟩:=qd0 r
 have hl:=qeg
 have hs:sizeLine=16777216:=sizeLine_eq
 cases x with
 | str y=>
  obtain ⟨t,rfl⟩:=rx
  obtain ⟨hy,e'⟩:y.length<=sizeLine/\n=y.length:=e
  subst e'
  exact len_str (by omega) ⟨.int _,H,I.tok _,⟨_,rfl⟩,q⟩
 | byt y=>
  obtain ⟨t,rfl⟩:=rx
  obtain ⟨hy,e'⟩:y.size<=sizeLine/\n=y.size:=e
  subst e'
  exact PySem.W.len_bytes (by omega) ⟨.int _,H,I.tok _,⟨_,rfl⟩,q⟩
 | ref p=>
  cases rx
  have e':(∃xs,SqL X.K H p xs/\n=xs.length)\/∃xs,SqT X.K H p xs/\n=xs.length:=e
  rcases e' with ⟨xs,hx,e'⟩ | ⟨xs,hx,e'⟩
  ·subst e'
   obtain ⟨its,r',pl,hz⟩:=I.list hx
   have hlen:=r'.length
   exact Calls.call_len_list pl.isList (by simp only[List.size_toArray]; omega) ⟨.int xs.length,H,I.tok _,⟨_,by simp only[List.size_toArray]; rw[hlen]⟩,q⟩
  ·subst e'
   obtain ⟨its,r',pl,hz⟩:=I.tuple hx
   have hlen:=r'.length
   exact len_tuple pl (by simp only[List.size_toArray]; omega) ⟨.int xs.length,H,I.tok _,⟨_,by simp only[List.size_toArray]; rw[hlen]⟩,q⟩
 | _=>exact (show False from e).elim
end
end L2
namespace L2
open PySem PySem.Spec PyProof.Rows
structure quI (h:Heap) (x dx C:Addr) (mA:Str->Option Value):Prop where
 obj:h.get? x=some (PySem.W.instObj C dx)
 ns:h.Ns1 dx mA
 ne:dx≠x
theorem qkP {h:Heap} {dx:Addr} {mA:Str->Option Value} (n:h.Ns1 dx mA): ∃od,h.get? dx=some od/\∀name,PySem.W.lookIn name od=some (mA name):=by
 obtain ⟨o,es,ep,ho,hd,hk,_,hm⟩:=n
 refine ⟨o,ho,λname=> ?_⟩
 have e:=hm name
 unfold nsFind findBy at e
 rw[<-Array.find?_toList] at e
 unfold PySem.W.lookIn
 rw[hd]
 dsimp only
 split
 ·rename_i y q
  rw[q] at e
  exact congrArg some e
 ·rename_i q
  rw[q] at e
  have a:es.toList.any (·.refKey)=false:=by
   rw[List.any_eq_false]
   intro y hy
   obtain ⟨z,t,hkey⟩:=hk y (Array.mem_toList_iff.mp hy)
   simp[DictEntry.refKey,hkey]
  have a': ¬es.toList.any (·.refKey)=true:=by rw[a]; exact Bool.false_ne_true
  rw[if_neg a']
  exact congrArg some e
theorem quI.look {h:Heap} {x dx C:Addr} {mA:Str->Option Value} (I:quI h x dx C mA): ∃od,PySem.W.InstAt h x (PySem.W.instObj C dx) C (some od)/\∀name,PySem.W.lookIn name od=some (mA name):=
 let ⟨od,ho,hl⟩:=qkP I.ns
 ⟨od,⟨I.obj,rfl,rfl,ho⟩,hl⟩
theorem qjC.some_of {v:V} {o:Option Value} (r:qjC (some v) o): ∃u,o=some u/\RelV v u:=by
 cases o with
 | none=>exact (show False from r).elim
 | some u=>exact ⟨u,rfl,r⟩
section
variable {P:Program} {w:World} {H H':Hp} {h h':Heap} {a C dx:Addr} {fs fs':List (Str×V)}
theorem qpD (hok:HOk P w H h) (e:H a=some (.ins C dx fs)): ∃mA,quI h a dx C mA/\(∀f,qjC (fs.lookup f) (mA f))/\PySem.Within mA (fs.map (·.1))/\fs.length<=1000/\H dx=some (.own a):=by
 obtain ⟨d,z,ne,ob,mA,n,r,q⟩:=(show qba P w H h a (.ins C dx fs) from hok a _ e)
 exact ⟨mA,⟨ob,n,ne⟩,r,q,z,d⟩
end
structure Cls (K:PySem.W.Frag) (C:Addr):Prop where
 pg:PySem.W.plainGet K C Str.empty=true
 hd:PySem.W.hasDictIn K C=true
 po:PySem.W.plainOver K C=true
 sa:PySem.W.findIn K (.ref C) "__setattr__" =some (some (.builtin "object.__setattr__"))
theorem Cls.get {K:PySem.W.Frag} {C:Addr} (c:Cls K C) (f:Str):PySem.W.plainGet K C f=true:=c.pg
structure Con (K:PySem.W.Frag) (C:Addr) (f:Str) (v:V) (u:Value):Prop where
 at_:PySem.W.findIn K (.ref C) f=some (some u)
 rel:RelV v u
 get:PySem.W.specialIn K u "__get__" =some none
 cp:PySem.W.copiedNames.contains f=false
structure qwh (K:PySem.W.Frag) (C:Addr) (m:Str) (f:Addr):Prop where
 at_:PySem.W.findIn K (.ref C) m=some (some (.ref f))
 fn:PySem.W.isFn K (.ref f)=true
 kp:PySem.W.keepIn K (.ref f)=true
section
variable {X:Cx} {pins:List (Addr×Obj)} {σ:St} {H:Hp} {s:Shared} {A:Around} {E:Value->Shared->Prop} {Q:Value->Shared->Prop} {c:Value} {b:Bool}
inductive qjz (K:PySem.W.Frag) (H:Hp):V->Value->Prop where
 | non:qjz K H .non (.type "NoneType")
 | bl (x:Bool):qjz K H (.bl x) (.type "bool")
 | int (i:Int):qjz K H (.int i) (.type "int")
 | str (x:Str):qjz K H (.str x) (.type "str")
 | flt (x:UInt64):qjz K H (.flt x) (.type "float")
 | lst {a:Addr} {xs:List V} (e:H a=some (.lst xs)):qjz K H (.ref a) (.type "list")
 | frz {a:Addr} {o:Obj} {xs:List V} (e:H a=some (.frz o (.lst xs))):qjz K H (.ref a) (.type "list")
 | tup {a:Addr} {xs:List V} (e:H a=some (.tup xs)):qjz K H (.ref a) (.type "tuple")
 | dK {a:Addr} {kvs:List (Key×V)} (e:H a=some (.dK kvs)):qjz K H (.ref a) (.type "dict")
 | dT {a:Addr} {kvs:List (List Key×V)} (e:H a=some (.dT kvs)):qjz K H (.ref a) (.type "dict")
 | ins {a C dx:Addr} {fs:List (Str×V)} (e:H a=some (.ins C dx fs)) (cl:Cls K C) (ha:PySem.W.findIn K (.ref C) "__class__" =some (some (.builtin "object.__class__")))
   (hn:PySem.W.specialIn K (.builtin "object.__class__") "__get__" =some (some (.builtin "getset_descriptor.__get__"))) (htk:PySem.W.takesIn K (.builtin "object.__class__")=some true)
   (hm:PySem.W.mroIn K C (.type "object")=some true):qjz K H (.ref a) (.ref C)
theorem qk1 {x:V} {u t:Value} (I:Inv X pins σ H s) (rx:RelV x u) (ty:qjz X.K H x t) (e:PySem.W.kitOne X.K t c=some b) (h: ∀tk,Q (.bool b) { s with toks:=tk }):
  wpAny (model X.prog X.w) A (call (.builtin "isinstance") [u,c]) Q E s:=by
 cases ty with
 | non=>cases (show u=Value.none from rx); exact PySem.W.kia_one PySem.W.kitx_none I.kIn True.intro e (λz=>nomatch z) h
 | bl y=>cases (show u=Value.bool y from rx); exact PySem.W.kia_one PySem.W.kitx_bool I.kIn True.intro e (λz=>nomatch z) h
 | int i=>obtain ⟨t,q⟩:=(show ∃t,u=Value.int i t from rx); cases q; exact PySem.W.kia_one PySem.W.kitx_int I.kIn True.intro e (λz=>nomatch z) h
 | str y=>obtain ⟨t,q⟩:=(show ∃t,u=Value.str y t from rx); cases q; exact PySem.W.kia_one PySem.W.kitx_str I.kIn True.intro e (λz=>nomatch z) h
 | flt y=>obtain ⟨t,q⟩:=(show ∃t,u=Value.float y t from rx); cases q; exact PySem.W.kia_one PySem.W.kitx_float I.kIn True.intro e (λz=>nomatch z) h
 | @lst a xs ea=>
  cases (show u=Value.ref a from rx)
  obtain ⟨_,_,n,_,h1⟩:=(show qba X.prog X.w H s.heap a (.lst xs) from I.hok a _ ea)
  exact PySem.W.kia_one PySem.W.kitx_list I.kIn ⟨_,h1,rfl⟩ e (λz=>nomatch z) h
 | @frz a ob xs ea=>
  cases (show u=Value.ref a from rx)
  obtain ⟨_,_,_,n,_,h1⟩:=(show qba X.prog X.w H s.heap a (.frz ob (.lst xs)) from I.hok a _ ea)
  exact PySem.W.kia_one PySem.W.kitx_list I.kIn ⟨_,h1,rfl⟩ e (λz=>nomatch z) h
 | @tup a xs ea=>
  cases (show u=Value.ref a from rx)
  obtain ⟨_,_,_,p⟩:=(show qba X.prog X.w H s.heap a (.tup xs) from I.hok a _ ea)
  obtain ⟨o,h1,h2,_⟩:=p
  exact PySem.W.kia_one PySem.W.kitx_tuple I.kIn ⟨o,h1,h2⟩ e (λz=>nomatch z) h
 | @dK a kvs ea=>
  cases (show u=Value.ref a from rx)
  obtain ⟨_,_,vs,_,p⟩:=(show qba X.prog X.w H s.heap a (.dK kvs) from I.hok a _ ea)
  obtain ⟨o,es,ep,h1,h2,_⟩:=p
  exact PySem.W.kia_one PySem.W.kitx_dict I.kIn ⟨o,h1,h2.1⟩ e (λz=>nomatch z) h
 | @dT a kvs ea=>
  cases (show u=Value.ref a from rx)
  obtain ⟨_,_,xs,_,o,es,ep,h1,h2,_⟩:=(show qba X.prog X.w H s.heap a (.dT kvs) from I.hok a _ ea)
  exact PySem.W.kia_one PySem.W.kitx_dict I.kIn ⟨o,h1,h2.1⟩ e (λz=>nomatch z) h
 | @ins a C dx fs ea cl ha hn htk hm=>
  cases (show u=Value.ref a from rx)
  obtain ⟨mA,O,_⟩:=qpD I.hok ea
  obtain ⟨od,J,_⟩:=O.look
  exact PySem.W.kia_one (PySem.W.kitx_own (cl.get _) cl.hd ha hn htk hm) I.kIn J e (λz=>nomatch z) h
end
end L2
namespace L2
open PySem PySem.Spec PyProof.Rows
structure qcE (k:Nat) (A:Around):Prop where
 hd:A.handled=none
 dp:A.depth+3*k+5<recursionLimit
 un:A.units+16*k+200<cLine
theorem qcE.mono {j k:Nat} {A:Around} (r:qcE k A) (h:j<=k):qcE j A:=⟨r.hd,by have:=r.dp; omega,by have:=r.un; omega⟩
theorem qcE.deeper {k:Nat} {A:Around} (r:qcE (k+1) A) (env:Env):qcE k (A.deeper env):=
 ⟨r.hd,by have:=r.dp; show A.depth+1+3*k+5<_; omega,by have:=r.un; show A.units+3+16*k+200<_; omega⟩
theorem qcE.depth {k:Nat} {A:Around} (r:qcE k A):A.depth<recursionLimit:=by have:=r.dp; omega
theorem qcE.units {k:Nat} {A:Around} (r:qcE k A):A.units+64<cLine:=by have:=r.un; omega
theorem qcE.units0 {k:Nat} {A:Around} (r:qcE k A):A.units<cLine:=by have:=r.un; omega
def qjG:TA:=λ_ H Q=>Q [] H
def qcV (ta:TE) (tr:TA):TA:=λσ H Q=>ta σ H λx H1=>tr σ H1 λxs H2=>Q (x::xs) H2
section
variable {X:Cx} {e:Expr} {es:List Expr} {te:TE} {t:TA} {pos:Pos}
theorem qaL:PA X [] qjG:=λ_ _ _ _ H Q I h=>Calls.spliced_nil ⟨[],H,I,.nil,h⟩
theorem qas (ha:PE X e te) (hr:PA X es t) (hs:starEach (e::es) X.env=(false,eval e X.env)::starEach es X.env:=by rfl):PA X (e::es) (qcV te t):=by
 intro pos pins s σ H Q I h
 rw[hs]
 show wpAny _ _ (spliced ((false,eval e X.env)::backTo pos (starEach es X.env))) _ _ s
 refine Calls.spliced_cons (thn (ha pins s σ H _ I h) λu s1 ⟨x,H1,I1,r1,q1⟩=> ?_)
 exact thn (hr pos pins s1 σ H1 _ I1 q1) λus s2 ⟨xs,H2,I2,r2,q2⟩=>⟨x::xs,H2,I2,.cons r1 r2,q2⟩
def qvc (t:TA):TE:=λσ H Q=>t σ H λxs H1=>xs.length<=sizeLine/\∀p,H1 p=none->Q (.ref p) (upd H1 p (.tup xs))
def qvg (t:TA):TE:=λσ H Q=>t σ H λxs H1=>xs.length<=sizeLine/\∀p,H1 p=none->Q (.ref p) (upd H1 p (.lst xs))
theorem qq8 {x1} (h:PA X es t):PE X (.Tuple es x1 pos) (qvc t):=by
 intro pins s σ H Q I hq
 refine wpAny_Tuple_spliced (thn (h pos pins s σ H _ I hq) λus s1 ⟨xs,H1,I1,r,z,q⟩=>⟨by rw[<-r.length]; exact z,?_⟩)
 have hf:H1 s1.heap.objs.size=none:=I1.hok.fresh (Nat.le_refl _)
 refine ⟨.ref s1.heap.objs.size,upd H1 s1.heap.objs.size (.tup xs),I1.laid (t':=s1.toks) (λb u e=>Heap.get?_push_of_some _ e) (Nat.le_refl _) ?_,rfl,q _ hf⟩
 exact ⟨z,us,r,⟨_,Heap.get?_push_size _ rfl,rfl,_,rfl⟩⟩
theorem qn4 (h:PA X es t):PE X (.List es pos) (qvg t):=by
 intro pins s σ H Q I hq
 refine wpAny_List_spliced (thn (h pos pins s σ H _ I hq) λus s1 ⟨xs,H1,I1,r,z,q⟩=>⟨by rw[<-r.length]; exact z,?_⟩)
 have hf:H1 s1.heap.objs.size=none:=I1.hok.fresh (Nat.le_refl _)
 refine ⟨.ref s1.heap.objs.size,upd H1 s1.heap.objs.size (.lst xs),I1.laid (t':=s1.toks) (λb u e=>Heap.get?_push_of_some _ e) (Nat.le_refl _) ?_,rfl,q _ hf⟩
 exact ⟨z,us,0,r,Heap.get?_push_size _ rfl⟩
end
abbrev Sp:=List V->Hp->VK->XK->Prop
abbrev CXT:=List Env->Hp->Shared->XK->Value->Shared->Prop
structure qss (P:Program) (w:World) (K:PySem.W.Frag) (mg:Str->Option Value) (base:Heap) (A:Around) (outer:List Env) (s:Shared) (H:Hp):Prop where
 frames:A.frames=some outer
 mod:Mod K mg base
 bs: ∀b o,base.get? b=some o->s.heap.get? b=some o/\H b=none
 bsz:base.objs.size<=s.heap.objs.size
 funs:s.heap.FunFrames base outer
 frf: ∀b∈frs outer,H b=none
 hok:HOk P w H s.heap
 bare:AllBare s.gens
def CE (outer:List Env) (P:Program) (w:World) (H:Hp) (s:Shared) (Q:VK) (u:Value) (s':Shared):Prop:=
 ∃v H',s'.os=s.os/\AllBare s'.gens/\Un (frs outer) [] H H' s.heap s'.heap/\HOk P w H' s'.heap/\RelV v u/\Q v H'
def CR (CX:CXT) (outer:List Env) (P:Program) (w:World) (H:Hp) (s:Shared) (Q:VK) (E:XK) (r:Result) (s':Shared):Prop:=
 match r with
 | .ok (.ret u)=>CE outer P w H s Q u s'
 | .ok _=>False
 | .error e=>CX outer H s E e s'
structure qbf (P:Program) (w:World) (K:PySem.W.Frag) (mg:Str->Option Value) (base:Heap) (CX:CXT) (k:Nat) (f:Addr) (fd:FuncData) (ps:List Str) (sp:Sp):Prop where
 len: ∀vs H Q E,sp vs H Q E->vs.length=ps.length
 run: ∀(A:Around) (outer:List Env) (s:Shared) (H:Hp) (args:Args) (us:List Value) (vs:List V) (Q:VK) (E:XK),qcE k A->qss P w K mg base A outer s H->BindsTo s fd args (ps.zip us)->Vals vs us->sp vs H Q E->
  codeAny (model P w) A (.call (.ref f) args) (CR CX outer P w H s Q E) s
theorem qbf.mono {P:Program} {w:World} {K:PySem.W.Frag} {mg:Str->Option Value} {base:Heap} {CX:CXT} {j k:Nat} {f:Addr} {fd:FuncData} {ps:List Str} {sp:Sp} (F:qbf P w K mg base CX j f fd ps sp) (h:j<=k):
  qbf P w K mg base CX k f fd ps sp:=⟨F.len,λA outer s H args us vs Q E hr=>F.run A outer s H args us vs Q E (hr.mono h)⟩
theorem qbf.imp {P:Program} {w:World} {K:PySem.W.Frag} {mg:Str->Option Value} {base:Heap} {CX:CXT} {k:Nat} {f:Addr} {fd:FuncData} {ps:List Str} {sp sp':Sp} (F:qbf P w K mg base CX k f fd ps sp)
  (h: ∀vs H Q E,sp' vs H Q E->sp vs H Q E):qbf P w K mg base CX k f fd ps sp':=
 ⟨λvs H Q E q=>F.len vs H Q E (h _ _ _ _ q),λA outer s H args us vs Q E hr he hb hv hs=>F.run A outer s H args us vs Q E hr he hb hv (h _ _ _ _ hs)⟩
section
variable {X:Cx} {pins:List (Addr×Obj)} {σ:St} {H:Hp} {s s':Shared}
theorem Inv.env0 (I:Inv X pins σ H s):qss X.prog X.w X.K X.mg X.base X.A X.stack s H:=
 ⟨I.ok.frames,I.ok.mod,I.bs,Nat.le_trans I.ok.bsz I.sz,I.stack,I.stkFree,I.hok,I.bare⟩
theorem Inv.after {Q:VK} {u:Value} (I:Inv X pins σ H s) (h:CE X.stack X.prog X.w H s Q u s'):EP X pins σ Q u s':=by
 obtain ⟨v,H',os,bare,un,hok,r,q⟩:=h
 obtain ⟨hh,g,d,t,os'⟩:=s'
 obtain rfl:os'=s.os:=os
 exact ⟨v,H',I.call (h':=hh) (g':=g) (d':=d) (t':=t) (ch:=[]) un hok bare (λb z=>absurd z (by simp)),r,q⟩
end
def qgP (sp:Sp) (dvs:List V) (E:XK) (t:TA):TE:=λσ H Q=>t σ H λvs H1=>sp (vs++dvs) H1 Q E
def qdB (K:PySem.W.Frag) (fd:FuncData) (ps:List Str) (ds:List Value):Prop:=
 ∀(s:Shared) (us:List Value),K.In s.heap->(us++ds).length=ps.length->BindsTo s fd ⟨us,[]⟩ (ps.zip (us++ds))
theorem qdB.all {K:PySem.W.Frag} {fd:FuncData} {ps:List Str} (h: ∀us:List Value,us.length=ps.length->bindArgs fd ⟨us,[]⟩=pure (ps.zip us)):qdB K fd ps []:=λs us _ hl=>by
 rw[List.append_nil] at hl⊢
 exact .of_eq (h us hl)
def qgH (CX:CXT) (X:Cx) (E:XK):Prop:= ∀(pins:List (Addr×Obj)) (σ:St) (H:Hp) (s:Shared) (e:Value) (s':Shared),Inv X pins σ H s->CX X.stack H s E e s'->X.xe e s'
section
variable {X:Cx} {CX:CXT} {k:Nat} {f C:Addr} {fd:FuncData} {ps:List Str} {sp:Sp} {dvs:List V} {ds:List Value} {E:XK} {x m:Str} {p pos apos:Pos} {e o:Expr} {es:List Expr} {ta:TE} {t:TA}
theorem qn1 {pins:List (Addr×Obj)} {σ:St} {H:Hp} {s:Shared} {Q:VK} {us:List Value} {vs:List V} (F:qbf X.prog X.w X.K X.mg X.base CX k f fd ps sp) (hr:qcE k X.A) (hb:qdB X.K fd ps ds) (hd:Vals dvs ds) (hx:qgH CX X E)
  (I:Inv X pins σ H s) (r:Vals vs us) (h:sp (vs++dvs) H Q E):wpAny (model X.prog X.w) X.A (call (.ref f) us) (EP X pins σ Q) X.xe s:=by
 have r2:Vals (vs++dvs) (us++ds):=r.append hd
 have hl:(us++ds).length=ps.length:=by rw[<-r2.length]; exact F.len _ _ _ _ h
 refine wpAny_call (codeAny_mono (F.run X.A X.stack s H ⟨us,[]⟩ (us++ds) (vs++dvs) Q E hr I.env0 (hb s us I.kIn hl) r2 h) λr s' hq=> ?_)
 cases r with
 | error e=>exact hx pins σ H s e s' I hq
 | ok fl=>
  cases fl with
  | ret u=>exact I.after hq
  | next=>exact False.elim hq
  | brk=>exact False.elim hq
  | cont=>exact False.elim hq
theorem qdt (F:qbf X.prog X.w X.K X.mg X.base CX k f fd ps sp) (hr:qcE k X.A) (hg:Gl X x) (hm:X.mg x=some (.ref f)) (hk:PySem.W.keepIn X.K (.ref f)=true) (hb:qdB X.K fd ps ds) (hd:Vals dvs ds) (hx:qgH CX X E)
  (ha:PA X (e::es) t) (hdb:(x==("__debug__" :Str))=false:=by decide) (he:starEach (e::es) X.env=(false,eval e X.env)::starEach es X.env:=by rfl) (hpl:(backTo pos (starEach es X.env)).any (·.1)=false:=by rfl):
  PE X (.Call (.Name x p) (e::es) [] pos) (qgP sp dvs E t):=by
 intro pins s σ H Q I h
 refine wpAny_Call_Name_kw (qkQ I hg hm ?_ hdb)
 refine PySem.W.callWith_K (h₀:=X.base) I.ok.mod.kin hk (thn (ha pos pins s σ H _ I h) λus s1 ⟨vs,H1,I1,r,q⟩=>⟨I1.kIn,?_⟩) he hpl
 exact qn1 F hr hb hd hx I1 r q
structure Mk (K:PySem.W.Frag) (C f:Addr):Prop where
 makes:PySem.W.makesIn K C=true
 init:PySem.W.findIn K (.ref C) "__init__" =some (some (.ref f))
 fn:PySem.W.isFn K (.ref f)=true
 kp:PySem.W.keepIn K (.ref C)=true
end
section
variable {X:Cx} {CX:CXT} {k:Nat} {f C:Addr} {fd:FuncData} {ps ks:List Str} {sp:Sp} {E:XK} {x m:Str} {p pos apos kpos:Pos} {e o:Expr} {es:List Expr} {kws:List Keyword} {te ta:TE} {t tk:TA} {nm:Option Str}
structure qu4 (K:PySem.W.Frag) (fd:FuncData) (ps ks:List Str) (g:List Value->List Value->List Value) (gV:List V->List V->List V):Prop where
 to: ∀(s:Shared) (us ws:List Value),K.In s.heap->(g us ws).length=ps.length->BindsTo s fd ⟨us,ks.zip ws⟩ (ps.zip (g us ws))
 rel: ∀{vs:List V} {us:List Value} {zs:List V} {ws:List Value},Vals vs us->Vals zs ws->Vals (gV vs zs) (g us ws)
variable {g:List Value->List Value->List Value} {gV:List V->List V->List V}
end
structure qav (N P:List Str) (sc:Scope):Prop where
 kind:sc.kind= .function
 co:sc.isCoroutine=false
 gen:sc.isGenerator=false
 nd:N.Nodup
 pre:N.take P.length=P
 par: ∀x∈P,sc.names.lookup x=some .local\/sc.names.lookup x=some .cell
 nofree: ∀y∈sc.names,y.2≠.free
theorem qgC {kindOf:Str->Option NameKind} {x:Str}: ∀{binds:List (Str×Value)} {m:Str->Option Value},(∀v,(x,v)∉binds)->bindL kindOf binds m x=m x
 | [],_,_=>rfl
 | (n,v)::r,m,h=>by
  unfold bindL
  rw[qgC λw hw=>h w (List.mem_cons_of_mem _ hw)]
  split
  ·have:x≠n:=by rintro rfl; exact h v List.mem_cons_self
   simp[this]
  ·rfl
theorem qgE {kindOf:Str->Option NameKind} {x:Str}: ∀{binds:List (Str×Value)} {m:Str->Option Value},(∀v,(x,v)∉binds)->bindC kindOf binds m x=m x
 | [],_,_=>rfl
 | (n,v)::r,m,h=>by
  unfold bindC
  rw[qgE λw hw=>h w (List.mem_cons_of_mem _ hw)]
  split
  ·rfl
  ·have:x≠n:=by rintro rfl; exact h v List.mem_cons_self
   simp[this]
theorem qgD {kindOf:Str->Option NameKind} {x:Str} {v:Value}: ∀{P:List Str} {vs:List Value} {i:Nat} {m:Str->Option Value},P.Nodup->P[i]? =some x->vs[i]? =some v->kindOf x=some .local->
  bindL kindOf (P.zip vs) m x=some v
 | [],_,_,_,_,h,_,_=>by simp at h
 | _::_,[],_,_,_,_,h,_=>by simp at h
 | p::P,w::vs,0,m,nd,h1,h2,hk=>by
  simp at h1 h2; subst h1; subst h2
  show bindL kindOf ((p,w)::P.zip vs) m p=_
  unfold bindL
  rw[qgC λv hv=>(List.nodup_cons.mp nd).1 (List.of_mem_zip hv).1,if_pos hk]
  simp
 | p::P,w::vs,i+1,m,nd,h1,h2,hk=>by
  show bindL kindOf ((p,w)::P.zip vs) m x=_
  unfold bindL
  exact qgD (i:=i) (List.nodup_cons.mp nd).2 (by simpa using h1) (by simpa using h2) hk
theorem qgF {kindOf:Str->Option NameKind} {x:Str} {v:Value}: ∀{P:List Str} {vs:List Value} {i:Nat} {m:Str->Option Value},P.Nodup->P[i]? =some x->vs[i]? =some v->kindOf x≠some .local->
  bindC kindOf (P.zip vs) m x=some v
 | [],_,_,_,_,h,_,_=>by simp at h
 | _::_,[],_,_,_,_,h,_=>by simp at h
 | p::P,w::vs,0,m,nd,h1,h2,hk=>by
  simp at h1 h2; subst h1; subst h2
  show bindC kindOf ((p,w)::P.zip vs) m p=_
  unfold bindC
  rw[qgE λv hv=>(List.nodup_cons.mp nd).1 (List.of_mem_zip hv).1,if_neg hk]
  simp
 | p::P,w::vs,i+1,m,nd,h1,h2,hk=>by
  show bindC kindOf ((p,w)::P.zip vs) m x=_
  unfold bindC
  exact qgF (i:=i) (List.nodup_cons.mp nd).2 (by simpa using h1) (by simpa using h2) hk
def start (N:List Str) (vs:List V):St:=vs.map some++List.replicate (N.length - vs.length) none
def qnF (CX:CXT) (P:Program) (w:World) (K:PySem.W.Frag) (mg:Str->Option Value) (base:Heap) (N:List Str) (qual:Str) (scope:Scope) (f:Addr) (cd:Value) (A:Around) (outer:List Env) (s:Shared) (H:Hp) (E:XK):Cx where
 prog:=P
 w:=w
 K:=K
 mg:=mg
 base:=base
 A:=A.deeper (envOfC qual scope s.heap.objs.size f cd)
 N:=N
 s₀:=s
 H₀:=H
 env:=envOfC qual scope s.heap.objs.size f cd
 outer:=outer
 stack:=envOfC qual scope s.heap.objs.size f cd::outer
 ex:=[]
 calm:=true
 fn:=λ_=>true
 pn:=[]
 xe:=λe s'=>wpAny (model P w) (A.deeper (envOfC qual scope s.heap.objs.size f cd)) (leaving (envOfC qual scope s.heap.objs.size f cd) e) (λ_ s''=>CX outer H s E e s'') (λe' s''=>CX outer H s E e' s'') s'
theorem qiH {sc:Scope} {n:Nat} {x:Str} (h:sc.names.lookup x=some .cell): ∃c,(cellsFrom n sc.names []).lookup x=some c:=by
 have q:=PySem.W.cellsFrom_some sc.names n [] (.inl h)
 exact Option.isSome_iff_exists.mp q
theorem qk4 {CX:CXT} {P:Program} {w:World} {K:PySem.W.Frag} {mg:Str->Option Value} {base:Heap} {N ps:List Str} {qual:Str} {scope:Scope} {f:Addr} {cd:Value} {A:Around} {outer:List Env} {s s1:Shared} {H:Hp} {E:XK} {us:List Value} {vs:List V}
  (S:qav N ps scope) (hd:A.handled=none) (e0:qss P w K mg base A outer s H) (hl:vs.length=ps.length) (r:Vals vs us)
  (x:InCallC s s.heap.objs.size (bindL (envOfC qual scope s.heap.objs.size f cd).kindOf (ps.zip us) λ_=>none) (cellsFrom (s.heap.objs.size+1) scope.names []) (bindC (envOfC qual scope s.heap.objs.size f cd).kindOf (ps.zip us) λ_=>none) s1):
  Inv (qnF CX P w K mg base N qual scope f cd A outer s H E) [] (start N vs) H s1:=by
 have hpl:ps.length<=N.length:=by have:=congrArg List.length S.pre; rw[List.length_take] at this; omega
 obtain ⟨h1,tk,rfl,hk⟩:=x.done
 have noA: ∀b:Addr,b∉(qnF CX P w K mg base N qual scope f cd A outer s H E).ex:=λb z=>absurd (show b∈([]:List Addr) from z) (by simp)
 refine ⟨⟨e0.mod,S.kind,rfl,rfl,Nat.le_refl _,λy z c h1 h2=> ?_,λy hy=> ?_,λy c _ h=> ?_,λ_=>hd,Around.frames_deeper e0.frames,.inr ⟨rfl,rfl⟩,λb z=>absurd z (noA b),e0.bs,e0.bsz,λb _ _=>noA b,λb z=>absurd z (noA b),e0.funs,e0.frf⟩,
  rfl,e0.bare,Un.kept hk,⟨_,x.toInCall.ns,λi y v h1 h2 h3=> ?_⟩,λy c h=>⟨_,x.cell y c h⟩,e0.hok.fresh (Nat.le_refl _),λy c h=> ?_,λp hp=>absurd (show p∈([]:List (Addr×Obj)) from hp) (by simp),e0.hok.kept hk,?_⟩
 ·exact name_of_addr x.apart (PySem.mem_of_lookup h1) (PySem.mem_of_lookup h2)
 ·have hy:scope.names.lookup y=some .cell\/scope.names.lookup y=some .free:=hy
  rcases hy with hy | hy
  ·exact qiH hy
  ·exact absurd rfl (S.nofree _ (PySem.mem_of_lookup hy))
 ·exact Nat.le_of_lt (x.above y c (PySem.mem_of_lookup h))
 ·have hi:i<vs.length:=by
   unfold start at h2
   by_cases hi:i<vs.length
   ·exact hi
   ·rw[List.getElem?_append_right (by simpa using hi)] at h2
    rw[List.getElem?_replicate] at h2
    split at h2<;>cases h2
  have ha:vs[i]? =some v:=by
   unfold start at h2
   rw[List.getElem?_append_left (by simpa using hi),List.getElem?_map] at h2
   cases e:vs[i]? with
   | none=>rw[e] at h2; cases h2
   | some a=>rw[e] at h2; cases h2; rfl
  obtain ⟨u,hu,rv⟩:=r.get ha
  have hp:ps[i]? =some y:=by
   rw[<-S.pre,List.getElem?_take_of_lt (by omega)]; exact h1
  have ndP:ps.Nodup:=by rw[<-S.pre]; exact S.nd.sublist (List.take_sublist _ _)
  refine ⟨u,rv,?_⟩
  rcases S.par y (List.mem_of_getElem? hp) with k | k
  ·exact .inl ⟨k,qgD ndP hp hu k⟩
  ·obtain ⟨c,e⟩:=qiH (n:=s.heap.objs.size+1) k
   refine .inr ⟨.inl k,c,e,?_⟩
   have q:=x.cell y c e
   rw[qgF ndP hp hu (by show scope.names.lookup y≠_; rw[k]; decide)] at q
   exact q
 ·exact e0.hok.fresh (Nat.le_of_lt (x.above y c (PySem.mem_of_lookup h)))
 ·unfold start
  show _=N.length
  rw[List.length_append,List.length_map,List.length_replicate]
  omega
theorem qur {CX:CXT} {P:Program} {w:World} {K:PySem.W.Frag} {mg:Str->Option Value} {base:Heap} {k:Nat} {f:Addr} {name qual:Str} {params:Arguments} {body:List Stmt} {scope:Scope} {dV kV doc pm cdv ct oc:Value} {an od:Option Addr}
  {osl:Array (Option Value)} {N ps:List Str} {sp:Sp} (lk:K.lookup f=some ⟨oc,od,.func (PySem.W.fnOf name qual params body scope dV kV doc pm an cdv ct),osl⟩) (hcd:PySem.W.codeIn K cdv qual=true) (S:qav N ps scope)
  (len: ∀vs H Q E,sp vs H Q E->vs.length=ps.length)
  (hbody: ∀(A:Around) (outer:List Env) (s:Shared) (H:Hp) (vs:List V) (Q:VK) (E:XK),qcE k (A.deeper (envOfC qual scope s.heap.objs.size f cdv))->sp vs H Q E->
   ∃t,PSs (qnF CX P w K mg base N qual scope f cdv A outer s H E) body t/\t { nx:=λ_ H'=>Q .non H',rt:=Q } (start N vs) H):
  qbf P w K mg base CX (k+1) f (PySem.W.fnOf name qual params body scope dV kV doc pm an cdv ct) ps sp:=by
 refine ⟨len,λA outer s H args us vs Q E hr e0 hb r hsp=> ?_⟩
 have hl:=len _ _ _ _ hsp
 have KX:K.In s.heap:=e0.mod.kin.keeps λb o e=>(e0.bs b o e).1
 have lim:s.heap.NoLimit:=e0.mod.nolimit.keeps λb o e=>(e0.bs b o e).1
 have hkind: ∀y∈ps.zip us,scope.names.lookup y.1=some .local\/(scope.names.lookup y.1=some .cell/\((cellsFrom (s.heap.objs.size+1) scope.names []).lookup y.1).isSome=true):=λ⟨n,v⟩ hy=>by
  rcases S.par n (List.of_mem_zip hy).1 with q | q
  ·exact .inl q
  ·exact .inr ⟨q,PySem.W.cellsFrom_some _ _ _ (.inl q)⟩
 refine codeAny_call_function hr.depth (KX _ _ lk) rfl S.co S.gen rfl (PySem.W.codeRec_of KX hcd) (hb _ _ _ _ ?_)
 refine wpAny_newFunctionEnv_cells S.kind hkind λenv he s1 x=> ?_
 subst he
 refine ⟨lim.keeps x.toInCall.keep,codeAny_func ?_⟩
 obtain ⟨t,ht,hq⟩:=hbody A outer s H vs Q E (hr.deeper _) hsp
 have I:Inv (qnF CX P w K mg base N qual scope f cdv A outer s H E) [] (start N vs) H s1:=qk4 S hr.hd e0 hl r x
 refine wpAny_mono (ht [] s1 (start N vs) H _ I hq) (λfl s' hs=> ?_) λe s' hs=>hs
 have fin: ∀{σ':St} {H':Hp} {v:V} {u:Value},Inv (qnF CX P w K mg base N qual scope f cdv A outer s H E) [] σ' H' s'->RelV v u->Q v H'->CE outer P w H s Q u s':=
  λ{σ' H' v u} J rv q=>⟨v,H',J.os,J.bare,J.base,J.hok,rv,q⟩
 cases fl with
 | ret u=>
  obtain ⟨v,σ',H',J,rv,q⟩:=hs
  exact fin J rv q
 | next=>
  obtain ⟨σ',H',J,q⟩:=hs
  exact fin (v:=V.non) (u:=Value.none) J rfl q
 | brk=>
  obtain ⟨_,_,_,q⟩:=hs
  exact False.elim q
 | cont=>
  obtain ⟨_,_,_,q⟩:=hs
  exact False.elim q
end L2
namespace L2
open PySem PySem.Spec PyProof.Rows
section
variable {X:Cx} {x:Str} {p pos:Pos} {e:Expr} {es:List Expr} {t:TA} {id T:String} {r:List V->Hp->VK->Prop}
def tCB (r:List V->Hp->VK->Prop) (t:TA):TE:=λσ H Q=>t σ H λvs H1=>r vs H1 Q
theorem qaO (hc:qcH X (.builtin id) r) (hg:Gl X x) (hm:X.mg x=none) (hv:bootBuiltins x=some (.builtin id)) (ha:PA X (e::es) t) (hn:x≠ "__name__" :=by decide) (hdb:(x==("__debug__" :Str))=false:=by decide)
  (he:starEach (e::es) X.env=(false,eval e X.env)::starEach es X.env:=by rfl) (hpl:(backTo pos (starEach es X.env)).any (·.1)=false:=by rfl):PE X (.Call (.Name x p) (e::es) [] pos) (tCB r t):=by
 intro pins s σ H Q I h
 refine wpAny_Call_Name_kw (qdH I hg hm hv ?_ hn hdb)
 exact PyProof.Rows.callWith_builtin1 (thn (ha pos pins s σ H _ I h) λus s1 ⟨vs,H1,I1,r1,q1⟩=>hc pins s1 σ H1 vs us Q I1 r1 q1) he hpl
theorem qed (hc:qcH X (.type T) r) (hg:Gl X x) (hm:X.mg x=none) (hv:bootBuiltins x=some (.type T)) (ha:PA X (e::es) t) (hn:x≠ "__name__" :=by decide) (hdb:(x==("__debug__" :Str))=false:=by decide)
  (he:starEach (e::es) X.env=(false,eval e X.env)::starEach es X.env:=by rfl) (hpl:(backTo pos (starEach es X.env)).any (·.1)=false:=by rfl):PE X (.Call (.Name x p) (e::es) [] pos) (tCB r t):=by
 intro pins s σ H Q I h
 refine wpAny_Call_Name_kw (qdH I hg hm hv ?_ hn hdb)
 exact PyProof.Rows.callWith_type1 (thn (ha pos pins s σ H _ I h) λus s1 ⟨vs,H1,I1,r1,q1⟩=>hc pins s1 σ H1 vs us Q I1 r1 q1) he hpl
end
end L2
namespace HT
open PySem PyProof.Rows
section
variable {prog:Program} {w:World} {A:Around} {E:Value->Shared->Prop} {s:Shared}
theorem cat_tup {t b:Addr} {vs ws:List Value} {Q:Value->Shared->Prop} (ht:IsTup s.heap t vs.toArray) (hb:IsTup s.heap b ws.toArray) (hv:vs≠[])
  (h1:ws=[]->Q (.ref t) s) (h2:ws≠[]->Q (.ref s.heap.objs.size) { s with heap:=s.heap.push { cls:=.type "tuple",data:=.seq (vs++ws).toArray } })
  (hsz:vs.length+ws.length<=sizeLine):wpAny (model prog w) A (binaryOp .Add (.ref t) (.ref b)) Q E s:=by
 obtain ⟨⟨cls,dd,data,sl⟩,ho,hc,n,hd⟩:=id ht
 obtain ⟨⟨cls2,dd2,data2,sl2⟩,ho2,hc2,n2,hd2⟩:=id hb
 simp only at hc hd hc2 hd2
 subst hc hd hc2 hd2
 have e:vs.toArray++ws.toArray=(vs++ws).toArray:=by simp
 by_cases hw:ws=[]
 ·exact concat_meets ⟨_,ho,rfl⟩ ⟨_,ho2,rfl⟩ noFill_tuple_add seq_tuple_add PySem.F.slot_tuple_add PySem.F.entry_tuple_add (PySem.F.args_tuple_add_2 _ _)
   (tuple_addW1 t b vs.toArray ws.toArray n n2 dd dd2 sl sl2 (by simpa using hv) (by simp[hw])) ⟨ho,ho2,h1 hw⟩
 ·refine concat_meets ⟨_,ho,rfl⟩ ⟨_,ho2,rfl⟩ noFill_tuple_add seq_tuple_add PySem.F.slot_tuple_add PySem.F.entry_tuple_add (PySem.F.args_tuple_add_2 _ _)
   (tuple_addW2 t b vs.toArray ws.toArray n n2 dd dd2 sl sl2 (by simpa using hv) (by simpa using hw) (by rw[List.size_toArray,List.size_toArray]; exact hsz)) ⟨ho,ho2,?_⟩
  rw[e]
  exact h2 hw
def sIx (n d:Nat):Option Int->Nat
 | none=>d
 | some v=>if v<0 then (v+(n:Int)).toNat else min v.toNat n
theorem sIx_none (n d:Nat):sIx n d none=d:=rfl
theorem sIx_nat (n d k:Nat):sIx n d (some (k:Int))=min k n:=by
 show (if (k:Int)<0 then ((k:Int)+(n:Int)).toNat else min (k:Int).toNat n)=min k n
 rw[if_neg (by omega),Int.toNat_natCast]
theorem qqT (n d:Nat) (hd:d<=n) (o:Option Int):sIx n d o<=n:=by
 cases o with
 | none=>exact hd
 | some v=>
  show (if v<0 then (v+(n:Int)).toNat else min v.toNat n)<=n
  by_cases hv:v<0
  ·rw[if_pos hv]; omega
  ·rw[if_neg hv]; exact Nat.min_le_right _ _
theorem qlO (v:Int) (n d:Nat):(if v<0 then max (v+(n:Int)) 0 else min v (n:Int))=((sIx n d (some v):Nat):Int):=by
 show (if v<0 then max (v+(n:Int)) 0 else min v (n:Int))=(((if v<0 then (v+(n:Int)).toNat else min v.toNat n):Nat):Int)
 by_cases hv:v<0
 ·simp only[if_pos hv]; omega
 ·simp only[if_neg hv]; omega
theorem qjy (lo hi:Option Int) (n:Nat):Builtin.Slice.sliceAdjust lo hi 1 (n:Int)=(((sIx n 0 lo:Nat):Int),((sIx n n hi:Nat):Int)):=by
 have h1: ¬((1:Int)<0):=by omega
 unfold Builtin.Slice.sliceAdjust
 simp only[h1,if_false]
 refine Prod.ext ?_ ?_
 ·cases lo with
  | none=>rfl
  | some v=>exact qlO v n 0
 ·cases hi with
  | none=>rfl
  | some v=>exact qlO v n n
theorem qi0 (i j:Nat):Builtin.Slice.slicePlaces (i:Int) (j:Int) 1=j - i:=by
 unfold Builtin.Slice.slicePlaces
 have h1:(1:Int)>0:=by omega
 simp only[h1,if_true,Int.ediv_one]
 split<;>omega
theorem qeX {v:Value} {o:Option Int} {Q:Option Int->Shared->Prop} (p:IsPart v o) (h:Q o s):wpAny (model prog w) A (Builtin.Slice.slicePartIndex v) Q E s:=by
 cases p with
 | none=>exact slicePart_none h
 | int i t=>exact slicePart_int h
theorem qcc {sl:Addr} {vl vu:Value} {lo hi:Option Int} {n:Nat} {Q:Int×Int×Nat->Shared->Prop} (hs:s.heap.IsSliceOf sl vl vu .none) (pl:IsPart vl lo) (pu:IsPart vu hi)
  (h:Q (((sIx n 0 lo:Nat):Int),1,sIx n n hi - sIx n 0 lo) s):wpAny (model prog w) A (Builtin.Slice.sliceApplied (.ref sl) (pure (n:Int))) Q E s:=by
 obtain ⟨os,hos,hcs,hds⟩:=id hs
 unfold Builtin.Slice.sliceApplied Builtin.Slice.sliceFields
 refine wpAny_bind (wpAny_bind (wpAny_field hos hds (x:=vl) rfl (wpAny_bind (wpAny_field hos hds (x:=vu) rfl (wpAny_bind (wpAny_field hos hds (x:=.none) rfl (wpAny_pure ?_)))))))
 refine wpAny_bind (slicePart_none ?_)
 show wpAny _ _ (if ((1:Int)==0)=true then _ else _) _ _ s
 rw[if_neg (by decide)]
 refine wpAny_bind (qeX pl (wpAny_bind (qeX pu (wpAny_bind (wpAny_pure ?_)))))
 show wpAny _ _ (match Builtin.Slice.sliceAdjust lo hi 1 (n:Int) with | (lo,hi)=>pure (lo,(1:Int),Builtin.Slice.slicePlaces lo hi 1)) _ _ s
 rw[qjy lo hi n]
 show wpAny _ _ (pure (((sIx n 0 lo:Nat):Int),(1:Int),Builtin.Slice.slicePlaces ((sIx n 0 lo:Nat):Int) ((sIx n n hi:Nat):Int) 1)) _ _ s
 rw[qi0]
 exact wpAny_pure h
theorem qmO (xs:Array Value) (i k:Nat):((List.range k).filterMap λ(m:Nat)=>xs[((i:Int)+(m:Int)*1).toNat]?).toArray=((xs.toList.drop i).take k).toArray:=by
 have e:(λ(m:Nat)=>xs[((i:Int)+(m:Int)*1).toNat]?)=λm=>xs[i+m]? :=by
  funext m
  have:((i:Int)+(m:Int)*1).toNat=i+m:=by omega
  rw[this]
 rw[e]
 have:=pick_run xs i k
 rw[List.filterMap_map] at this
 have e2:((λx=>xs[x]?)∘λx=>i+x)=λm=>xs[i+m]? :=rfl
 rw[e2] at this
 rw[this]
theorem getItem_tuple_cut {t sl:Addr} {items:Array Value} {vl vu:Value} {lo hi:Option Int} {Q:Value->Shared->Prop} (ht:IsTup s.heap t items) (hs:s.heap.IsSliceOf sl vl vu .none) (pl:IsPart vl lo) (pu:IsPart vu hi)
  (hw: ¬(sIx items.size 0 lo=0/\sIx items.size items.size hi=items.size))
  (h:Q (.ref s.heap.objs.size) { s with heap:=s.heap.push { cls:=.type "tuple",data:=.seq ((items.toList.drop (sIx items.size 0 lo)).take (sIx items.size items.size hi - sIx items.size 0 lo)).toArray } })
  (hsz:items.size<=sizeLine):wpAny (model prog w) A (getItem (.ref t) (.ref sl)) Q E s:=by
 have htake:sizeOk (.seq ((items.toList.drop (sIx items.size 0 lo)).take (sIx items.size items.size hi - sIx items.size 0 lo)).toArray):=by
  show ((items.toList.drop (sIx items.size 0 lo)).take (sIx items.size items.size hi - sIx items.size 0 lo)).toArray.size<=sizeLine
  rw[List.size_toArray,List.length_take,List.length_drop,Array.length_toList]
  omega
 have hj:sIx items.size items.size hi<=items.size:=qqT _ _ (Nat.le_refl _) hi
 obtain ⟨os,hos,hcs,hds⟩:=id hs
 have hTs:s.TypeIs (.ref sl) "slice" :=⟨os,hos,hcs⟩
 unfold getItem
 try with_reducible refine wpAny_holding ?_
 first | refine wpAny_bind (wpAny_pure ?_) | skip
 refine wpAny_bind (wpAny_sequenceKey ht.typeIs (by decide) ?_)
 refine wpAny_bind (wpAny_callSpecial?_slot (name:=Str.ofString "__getitem__") ht.typeIs PyProof.Rows.slot_tuple_getitem
  (wpAny_call_entry PyProof.Rows.slot_tuple_getitem ht.typeIs entry_tuple_getitem ?_ (args_tuple_getitem _ _)))
 show wpAny _ _ (Builtin.Tuple.tupleItemsOf (.ref t)>>=_) _ _ s
 refine wpAny_bind (tupleItemsOf_ ht ?_)
 refine wpAny_bind (wpAny_typeOf hTs ?_)
 rw[if_pos (by decide)]
 refine wpAny_bind (qcc hs pl pu ?_)
 have hno: ¬((((sIx items.size 0 lo:Nat):Int)==0&&(1:Int)==1&&(sIx items.size items.size hi - sIx items.size 0 lo)==items.size)=true):=by
  intro q
  rw[Bool.and_eq_true,Bool.and_eq_true] at q
  have q1:((sIx items.size 0 lo:Nat):Int)=0:=eq_of_beq q.1.1
  have q2:sIx items.size items.size hi - sIx items.size 0 lo=items.size:=eq_of_beq q.2
  exact hw ⟨by omega,by omega⟩
 show wpAny _ _ (if (((sIx items.size 0 lo:Nat):Int)==0&&(1:Int)==1&&(sIx items.size items.size hi - sIx items.size 0 lo)==items.size)=true then _ else _) _ _ s
 rw[if_neg hno,qmO]
 first
  | exact wpAny_bind (m:=Builtin.Tuple.tupleExact _) (wpAny_newObj_type (wpAny_pure ⟨_,rfl,wpAny_pure h⟩) htake)
  | exact wpAny_bind (m:=Builtin.Tuple.tupleExact _) (wpAny_newObj_type (wpAny_bind (wpAny_pure (wpAny_pure ⟨_,rfl,wpAny_pure h⟩))) htake)
  | exact wpAny_bind (wpAny_bind (m:=Builtin.Tuple.tupleExact _) (wpAny_newObj_type (wpAny_pure (wpAny_pure ⟨_,rfl,wpAny_pure h⟩)) htake))
  | exact wpAny_bind (wpAny_bind (m:=Builtin.Tuple.tupleExact _) (wpAny_newObj_type (wpAny_pure ⟨_,rfl,wpAny_pure h⟩) htake))
end
end HT
namespace L2
open PySem PySem.Spec PyProof.Rows
abbrev TO:=St->Hp->(Option Int->Hp->Prop)->Prop
def PO (X:Cx) (e:Option Expr) (t:TO):Prop:=
 ∀(pins:List (Addr×Obj)) (s:Shared) (σ:St) (H:Hp) (Q:Option Int->Hp->Prop),Inv X pins σ H s->t σ H Q->
  wpAny (model X.prog X.w) X.A (evalPart e X.env) (λu s'=> ∃o H',Inv X pins σ H' s'/\IsPart u o/\Q o H') X.xe s
def qoF:TO:=λ_ H Q=>Q none H
def qsB (t:TE):TO:=λσ H Q=>t σ H λx H1=> ∃i,x= .int i/\Q (some i) H1
section
variable {X:Cx} {e:Expr} {te:TE} {lo hi:Option Expr} {tl th:TO} {pos p2:Pos}
theorem qo5:PO X none qoF:=by
 intro pins s σ H Q I h
 rw[evalPart_none]
 exact wpAny_pure ⟨none,H,I,.none,h⟩
theorem qo4 (h:PE X e te):PO X (some e) (qsB te):=by
 intro pins s σ H Q I hw
 rw[evalPart_some]
 refine thn (h pins s σ H _ I hw) λu s1 ⟨x,H1,I1,r1,q1⟩=> ?_
 obtain ⟨i,rfl,q⟩:=q1
 obtain ⟨t,rfl⟩:=r1
 exact ⟨some i,H1,I1,.int i t,q⟩
def SlR (X:Cx) (r:V->Option Int->Option Int->Hp->VK->Prop):Prop:=
 ∀(pins:List (Addr×Obj)) (s:Shared) (σ:St) (H:Hp) (x:V) (v vl vu:Value) (lo hi:Option Int) (sl:Addr) (Q:VK),Inv X pins σ H s->RelV x v->s.heap.IsSliceOf sl vl vu .none->IsPart vl lo->IsPart vu hi->r x lo hi H Q->
  ∃T id,typeLookup (.type T) "__getitem__" =pure (some (.builtin id))/\s.TypeIs v T/\wpAny (model X.prog X.w) X.A (getItem v (.ref sl)) (EP X pins σ Q) X.xe s
theorem SlR.or {r r':V->Option Int->Option Int->Hp->VK->Prop} (h:SlR X r) (h':SlR X r'):SlR X (λx lo hi H Q=>r x lo hi H Q\/r' x lo hi H Q):=by
 intro pins s σ H x v vl vu lo hi sl Q I rx hs pl pu q
 rcases q with q | q
 ·exact h pins s σ H x v vl vu lo hi sl Q I rx hs pl pu q
 ·exact h' pins s σ H x v vl vu lo hi sl Q I rx hs pl pu q
def tSl (r:V->Option Int->Option Int->Hp->VK->Prop) (te:TE) (tl th:TO):TE:=λσ H Q=>te σ H λx H1=>tl σ H1 λl H2=>th σ H2 λu H3=>r x l u H3 Q
theorem qhZ {r:V->Option Int->Option Int->Hp->VK->Prop} (hr:SlR X r) (he:PE X e te) (hl:PO X lo tl) (hu:PO X hi th):PE X (.Subscript e (.Slice lo hi none p2) pos) (tSl r te tl th):=by
 intro pins s σ H Q I h
 refine Subscript_ (thn (he pins s σ H _ I h) λv s1 ⟨x,H1,I1,r1,q1⟩=> ?_)
 refine wpAny_Slice (thn (hl pins s1 σ H1 _ I1 q1) λvl s2 ⟨l,H2,I2,pl,q2⟩=>thn (hu pins s2 σ H2 _ I2 q2) λvu s3 ⟨u,H3,I3,pu,q3⟩=> ?_)
 rw[evalPart_none]
 refine wpAny_pure ?_
 have I4:Inv X pins σ H3 { s3 with heap:=s3.heap.push { cls:=.type "slice",data:=.fields #[vl,vu,.none] } }:=I3.kept (t':=s3.toks) λb ob q=>Heap.get?_push_of_some _ q
 obtain ⟨T,id,hT,ht,hg⟩:=hr pins { s3 with heap:=s3.heap.push { cls:=.type "slice",data:=.fields #[vl,vu,.none] } } σ H3 x v vl vu l u s3.heap.objs.size Q I4 r1 (Heap.IsSliceOf.new ..) pl pu q3
 show wpAny (model X.prog X.w) X.A (subscriptTail e (.Slice lo hi none p2) v (.ref s3.heap.objs.size)) (EP X pins σ Q) X.xe { s3 with heap:=s3.heap.push { cls:=.type "slice",data:=.fields #[vl,vu,.none] } }
 exact tail_any (ops:=[.ref s3.heap.objs.size,v]) ht hT hg (by with_unfolding_all rfl)
def qlL (xs:List V) (lo hi:Option Int):List V:=(xs.drop (HT.sIx xs.length 0 lo)).take (HT.sIx xs.length xs.length hi - HT.sIx xs.length 0 lo)
theorem qey (xs:List V) (lo hi:Option Int):(qlL xs lo hi).length<=xs.length:=by
 unfold qlL
 rw[List.length_take,List.length_drop]
 omega
def qvv (K:PySem.W.Frag):V->Option Int->Option Int->Hp->VK->Prop:=λx lo hi H Q=> ∃a xs,x= .ref a/\SqT K H a xs/\
 ¬(HT.sIx xs.length 0 lo=0/\HT.sIx xs.length xs.length hi=xs.length)/\∀p,H p=none->Q (.ref p) (upd H p (.tup (qlL xs lo hi)))
theorem qqH:SlR X (qvv X.K):=by
 intro pins s σ H x v vl vu lo hi sl Q I rx hs pl pu h
 obtain ⟨a,xs,rfl,hx,hw,q⟩:=h
 cases rx
 obtain ⟨its,r,ht,hz⟩:=I.tuple hx
 have hlen:its.toArray.size=xs.length:=by rw[List.size_toArray]; exact r.length.symm
 refine ⟨"tuple",_,PyProof.Rows.slot_tuple_getitem.lookup,ht.typeIs,?_⟩
 refine HT.getItem_tuple_cut ht hs pl pu (by rw[hlen]; exact hw) ?_ (by rw[hlen]; exact hz)
 rw[hlen]
 refine ⟨.ref s.heap.objs.size,_,I.laid (t':=s.toks) (o:=.tup (qlL xs lo hi)) (λb ob q=>Heap.get?_push_of_some _ q) (Nat.le_refl _) ?_,rfl,q _ (I.hok.fresh (Nat.le_refl _))⟩
 exact ⟨Nat.le_trans (qey xs lo hi) hz,_,(r.drop (HT.sIx xs.length 0 lo)).take (HT.sIx xs.length xs.length hi - HT.sIx xs.length 0 lo),IsTup.new _ _⟩
def qqX (K:PySem.W.Frag):R2:=λx y H Q=> ∃a b xs ys,x= .ref a/\y= .ref b/\SqT K H a xs/\SqT K H b ys/\xs≠[]/\xs.length+ys.length<=sizeLine/\
 (ys=[]->Q (.ref a) H)/\(ys≠[]->∀p,H p=none->Q (.ref p) (upd H p (.tup (xs++ys))))
theorem Vals.nil_iff {xs:List V} {us:List Value} (r:Vals xs us):us=[]↔xs=[]:=by
 cases r with
 | nil=>simp
 | cons _ _=>simp
theorem qph:OpR X (binaryOp .Add) (qqX X.K):=by
 intro pins s σ H x y v u Q I rx ry h
 obtain ⟨a,b,xs,ys,rfl,rfl,ha,hb,hx,hz,q1,q2⟩:=h
 cases rx
 cases ry
 obtain ⟨its,r1,p1,_⟩:=I.tuple ha
 obtain ⟨its2,r2,p2,_⟩:=I.tuple hb
 refine HT.cat_tup p1 p2 (λz=>hx (r1.nil_iff.mp z)) (λz=>⟨.ref a,H,I,rfl,q1 (r2.nil_iff.mp z)⟩) (λz=> ?_) (by rw[<-r1.length,<-r2.length]; exact hz)
 refine ⟨.ref s.heap.objs.size,_,I.laid (t':=s.toks) (o:=.tup (xs++ys)) (λb ob q=>Heap.get?_push_of_some _ q) (Nat.le_refl _) ?_,rfl,q2 (λw=>z (r2.nil_iff.mpr w)) _ (I.hok.fresh (Nat.le_refl _))⟩
 exact ⟨by rw[List.length_append]; exact hz,_,r1.append r2,IsTup.new _ _⟩
end
end L2
namespace L2
open PySem PySem.Spec PyProof.Rows
def ixN (n:Nat) (i:Int):Option Nat:=if 0<=i then (if i<n then some i.toNat else none) else if -(n:Int)<=i then some (i+n).toNat else none
def atI {α:Type} (xs:List α) (i:Int):Option α:=(ixN xs.length i).bind λj=>xs[j]?
theorem qpC {n:Nat} {i:Int} {j:Nat} (h:ixN n i=some j):seqIndex? i n=some j/\j<n/\ -(n:Int)<=i/\i<n:=by
 unfold ixN at h
 by_cases h0:0<=i
 ·rw[if_pos h0] at h
  by_cases h1:i<n
  ·rw[if_pos h1] at h
   have e:i.toNat=j:=Option.some.inj h
   exact ⟨by rw[seqIndex_of h0 h1,e],by omega,by omega,h1⟩
  ·rw[if_neg h1] at h; cases h
 ·rw[if_neg h0] at h
  by_cases h1: -(n:Int)<=i
  ·rw[if_pos h1] at h
   have e:(i+n).toNat=j:=Option.some.inj h
   exact ⟨by rw[seqIndex_neg (by omega) h1,e],by omega,h1,by omega⟩
  ·rw[if_neg h1] at h; cases h
theorem qhz {α:Type} {xs:List α} {i:Int} {v:α} (h:atI xs i=some v): ∃j,seqIndex? i xs.length=some j/\xs[j]? =some v/\j<xs.length/\ -(xs.length:Int)<=i/\i<xs.length:=by
 unfold atI at h
 cases e:ixN xs.length i with
 | none=>rw[e] at h; cases h
 | some j=>
  rw[e] at h
  obtain ⟨h1,h2,h3,h4⟩:=qpC e
  exact ⟨j,h1,h,h2,h3,h4⟩
theorem ql2 {α:Type} {xs:List α} {j:Nat} {v:α} (h:xs[j]? =some v):atI xs (j:Int)=some v:=by
 have hj:j<xs.length:=(List.getElem?_eq_some_iff.mp h).1
 have e:ixN xs.length (j:Int)=some j:=by
  unfold ixN
  rw[if_pos (by omega),if_pos (by omega)]; simp
 unfold atI; rw[e]; exact h
def ql8 (b:Expr):Prop:= ∀o i,subscripted b false o i=operate [o,i] (getItem o i)
def IxR (X:Cx) (r:R2):Prop:=
 ∀(value slice:Expr) (pins:List (Addr×Obj)) (s:Shared) (σ:St) (H:Hp) (x y:V) (v u:Value) (Q:VK),Inv X pins σ H s->RelV x v->RelV y u->r x y H Q->
  subscripted slice false v u=operate [v,u] (getItem v u)->wpAny (model X.prog X.w) X.A (subscriptTail value slice v u) (EP X pins σ Q) X.xe s
def MtR (X:Cx) (id:String) (r:V->List V->Hp->VK->Prop):Prop:=
 ∀(pins:List (Addr×Obj)) (s:Shared) (σ:St) (H:Hp) (x:V) (xs:List V) (v:Value) (us:List Value) (Q:VK),Inv X pins σ H s->RelV x v->Vals xs us->r x xs H Q->
  wpAny (model X.prog X.w) X.A (call (.builtin id) (v::us)) (EP X pins σ Q) X.xe s
section
variable {X:Cx} {a b:Expr} {ta tb:TE} {pos:Pos}
theorem IxR.or {r r':R2} (h:IxR X r) (h':IxR X r'):IxR X (λx y H Q=>r x y H Q\/r' x y H Q):=by
 intro value slice pins s σ H x y v u Q I rx ry q hs
 rcases q with q | q
 ·exact h value slice pins s σ H x y v u Q I rx ry q hs
 ·exact h' value slice pins s σ H x y v u Q I rx ry q hs
theorem qpb {r:R2} (hr:IxR X r) (ha:PE X a ta) (hb:PE X b tb) (hs:ql8 b):PE X (.Subscript a b pos) (tOp r ta tb):=by
 intro pins s σ H Q I h
 exact Subscript_ (quE ha hb I h λv u s2 x y H2 I2 rx ry q=>hr a b pins s2 σ H2 x y v u Q I2 rx ry q (hs _ _))
def qtp (K:PySem.W.Frag):R2:=λx y H Q=> ∃p xs i v,x= .ref p/\y= .int i/\SqL K H p xs/\atI xs i=some v/\Q v H
def quP (K:PySem.W.Frag):R2:=λx y H Q=> ∃p xs i v,x= .ref p/\y= .int i/\SqT K H p xs/\atI xs i=some v/\Q v H
def quQ:R2:=λx y H Q=> ∃z i c,x= .str z/\y= .int i/\z.length<=sizeLine/\atI z.cps.toList i=some c/\Q (.str ⟨#[c]⟩) H
theorem qk0:IxR X (qtp X.K):=by
 intro value slice pins s σ H x y v u Q I rx ry h hs
 obtain ⟨p,xs,i,z,rfl,rfl,hq,he,q⟩:=h
 cases rx
 obtain ⟨t,rfl⟩:=ry
 obtain ⟨its,r,pl,hz⟩:=I.list hq
 obtain ⟨j,h1,h2,h3,h4,h5⟩:=qhz he
 obtain ⟨w,ew,rw'⟩:=r.get h2
 have hl:=r.length
 have hn:=qeg
 have fin:EP X pins σ Q w s:=⟨z,H,I,rw',q⟩
 by_cases h0:0<=i
 ·have hj:i.toNat=j:=by
   rw[seqIndex_of h0 h5] at h1
   exact Option.some.inj h1
  exact item_listR pl.isList h0 (by omega) (by rw[hj]; simpa using ew) fin hs
 ·have hj:(i+(its.toArray.size:Int)).toNat=j:=by
   rw[seqIndex_neg (by omega) h4] at h1
   rw[List.size_toArray,<-hl]
   exact Option.some.inj h1
  exact subscriptTail_builtinR (x:=w) pl.isList.typeIs slot_list_getitem.lookup
   (wpAny_getItem_list_neg (Q:=λr s'=>r=w/\EP X pins σ Q r s') pl.isList (by omega) (by rw[List.size_toArray]<;>omega) (by omega) (by rw[hj]; simpa using ew) ⟨rfl,fin⟩) hs
theorem qrv:IxR X (quP X.K):=by
 intro value slice pins s σ H x y v u Q I rx ry h hs
 obtain ⟨p,xs,i,z,rfl,rfl,hq,he,q⟩:=h
 cases rx
 obtain ⟨t,rfl⟩:=ry
 obtain ⟨its,r,pl,hz⟩:=I.tuple hq
 obtain ⟨j,h1,h2,h3,h4,h5⟩:=qhz he
 obtain ⟨w,ew,rw'⟩:=r.get h2
 have hl:=r.length
 have hn:=qeg
 have fin:EP X pins σ Q w s:=⟨z,H,I,rw',q⟩
 exact subscriptTail_builtinR (x:=w) pl.typeIs slot_tuple_getitem.lookup
  (getItem_tuple (j:=j) (Q:=λr s'=>r=w/\EP X pins σ Q r s') pl (by omega) (by omega) (by rw[List.size_toArray,<-hl]; exact h1) (by simpa using ew) ⟨rfl,fin⟩) hs
theorem qrw:IxR X quQ:=by
 intro value slice pins s σ H x y v u Q I rx ry h hs
 obtain ⟨z,i,c,rfl,rfl,hz,he,q⟩:=h
 obtain ⟨t,rfl⟩:=rx
 obtain ⟨t',rfl⟩:=ry
 obtain ⟨j,h1,h2,h3,h4,h5⟩:=qhz he
 have hl:z.cps.toList.length=z.length:=by simp[Str.length]
 rw[hl] at h1 h4 h5
 have hn:=qeg
 exact tail_any (typeIs_str s z t) slot_str_getitem.lookup (getItem_str (c:=c) (by
  have e1:decide (i< -(2 ^ 63:Int))=false:=decide_eq_false (by omega)
  have e2:decide (i≥2 ^ 63)=false:=decide_eq_false (by omega)
  rw[e1,e2,Bool.or_false]) (by rw[h1]; simpa using h2) ⟨.str ⟨#[c]⟩,H,I.tok _,⟨_,rfl⟩,q⟩) hs
def rIx (K:PySem.W.Frag):R2:=λx y H Q=>qtp K x y H Q\/quP K x y H Q\/quQ x y H Q
theorem qat:IxR X (rIx X.K):=qk0.or (qrv.or qrw)
theorem qfP (lo hi:Option Int) (n:Nat):(sliceBounds lo hi none n).1=((HT.sIx n 0 lo:Nat):Int)/\(sliceBounds lo hi none n).2.1=((HT.sIx n n hi:Nat):Int)/\(sliceBounds lo hi none n).2.2=1:=by
 refine ⟨?_,?_,rfl⟩
 ·cases lo with
  | none=>simp[sliceBounds,HT.sIx]
  | some i=>
   simp only[sliceBounds,HT.sIx,Option.getD_none,show (1:Int)>0 by decide,if_true]
   by_cases h:i<0
   ·simp only[h,if_true]<;>omega
   ·simp only[h,if_false]<;>omega
 ·cases hi with
  | none=>simp[sliceBounds,HT.sIx]
  | some i=>
   simp only[sliceBounds,HT.sIx,Option.getD_none,show (1:Int)>0 by decide,if_true]
   by_cases h:i<0
   ·simp only[h,if_true]<;>omega
   ·simp only[h,if_false]<;>omega
theorem qfg (its:List Value) (lo hi:Option Int):slicePick its.toArray lo hi none=((its.drop (HT.sIx its.length 0 lo)).take (HT.sIx its.length its.length hi - HT.sIx its.length 0 lo)).toArray:=by
 obtain ⟨h1,h2,h3⟩:=qfP lo hi its.toArray.size
 unfold slicePick
 rw[h1,h2,h3]
 simp only[sliceRange_one,pick_run,List.size_toArray]<;>rfl
def qvw (K:PySem.W.Frag):V->Option Int->Option Int->Hp->VK->Prop:=λx lo hi H Q=> ∃a xs,x= .ref a/\SqL K H a xs/\∀p,H p=none->Q (.ref p) (upd H p (.lst (qlL xs lo hi)))
theorem qoO:SlR X (qvw X.K):=by
 intro pins s σ H x v vl vu lo hi sl Q I rx hs pl pu h
 obtain ⟨a,xs,rfl,hx,q⟩:=h
 cases rx
 obtain ⟨its,r,ht,hz⟩:=I.list hx
 have hlen:=r.length
 refine ⟨"list",_,slot_list_getitem.lookup,ht.isList.typeIs,?_⟩
 refine wpAny_getItem_list_slice ht.isList hs pl pu .none (by simp) ?_ (by rw[List.size_toArray]<;>omega)
 rw[qfg,<-hlen]
 refine ⟨.ref s.heap.objs.size,_,I.laid (t':=s.toks) (o:=.lst (qlL xs lo hi)) (λb ob q=>Heap.get?_push_of_some _ q) (Nat.le_refl _) ?_,rfl,q _ (I.hok.fresh (Nat.le_refl _))⟩
 exact ⟨Nat.le_trans (qey xs lo hi) hz,_,0,(r.drop (HT.sIx xs.length 0 lo)).take (HT.sIx xs.length xs.length hi - HT.sIx xs.length 0 lo),Heap.get?_push_size _ rfl⟩
def qhi:V->Bool
 | .non=>true
 | .bl _=>true
 | .int _=>true
 | .str _=>true
 | _=>false
def eqV:V->V->Bool
 | .non,.non=>true
 | .bl a,.bl b=>a==b
 | .bl a,.int b=>(if a then 1 else 0)==b
 | .int a,.bl b=>a==(if b then 1 else 0)
 | .int a,.int b=>a==b
 | .str a,.str b=>a==b
 | _,_=>false
theorem qoh {A:Around} {s:Shared} {y x:V} {u v:Value} (ry:RelV y u) (rx:RelV x v) (fy:qhi y=true) (fx:qhi x=true):SeqAt.EqAt A s u v (eqV y x):=by
 cases y with
 | non=>
  cases ry
  cases x with
  | non=>cases rx; exact SeqAt.EqAt.same _
  | bl b=>cases rx; exact SeqAt.EqAt.none_bool b
  | int b=>obtain ⟨t,rfl⟩:=rx; exact SeqAt.EqAt.none_int b t
  | str b=>obtain ⟨t,rfl⟩:=rx; exact SeqAt.EqAt.none_str b t
  | _=>exact absurd (show false=true from fx) Bool.false_ne_true
 | bl a=>
  cases ry
  cases x with
  | non=>cases rx; exact SeqAt.EqAt.bool_none a
  | bl b=>cases rx; exact SeqAt.EqAt.bool_bool a b
  | int b=>obtain ⟨t,rfl⟩:=rx; exact SeqAt.EqAt.bool_int a b t
  | str b=>obtain ⟨t,rfl⟩:=rx; exact SeqAt.EqAt.bool_str a b t
  | _=>exact absurd (show false=true from fx) Bool.false_ne_true
 | int a=>
  obtain ⟨t',rfl⟩:=ry
  cases x with
  | non=>cases rx; exact SeqAt.EqAt.int_none a t'
  | bl b=>cases rx; exact SeqAt.EqAt.int_bool a t' b
  | int b=>obtain ⟨t,rfl⟩:=rx; exact SeqAt.EqAt.int_int a t' b t
  | str b=>obtain ⟨t,rfl⟩:=rx; exact SeqAt.EqAt.int_str a t' b t
  | _=>exact absurd (show false=true from fx) Bool.false_ne_true
 | str a=>
  obtain ⟨t',rfl⟩:=ry
  cases x with
  | non=>cases rx; exact SeqAt.EqAt.str_none a t'
  | bl b=>cases rx; exact SeqAt.EqAt.str_bool a t' b
  | int b=>obtain ⟨t,rfl⟩:=rx; exact SeqAt.EqAt.str_int a t' b t
  | str b=>obtain ⟨t,rfl⟩:=rx; exact SeqAt.EqAt.str_str a t' b t
  | _=>exact absurd (show false=true from fx) Bool.false_ne_true
 | _=>exact absurd (show false=true from fy) Bool.false_ne_true
theorem qgy:qcH X (.builtin "len") (λxs H Q=> ∃p ys,xs=[.ref p]/\(SqL X.K H p ys\/SqT X.K H p ys)/\Q (.int ys.length) H):=by
 intro pins s σ H xs us Q I r h
 obtain ⟨p,ys,rfl,hq,q⟩:=h
 obtain ⟨u,rfl,rx⟩:=qd0 r
 cases rx
 have hn:=qeg
 rcases hq with hq | hq
 ·obtain ⟨its,r',pl,hz⟩:=I.list hq
  have hlen:=r'.length
  exact Calls.call_len_list pl.isList (by simp only[List.size_toArray]<;>omega) ⟨.int ys.length,H,I.tok _,⟨s.toks+1,by rw[List.size_toArray,hlen]⟩,q⟩
 ·obtain ⟨its,r',pl,hz⟩:=I.tuple hq
  have hlen:=r'.length
  exact len_tuple pl (by simp only[List.size_toArray]<;>omega) ⟨.int ys.length,H,I.tok _,⟨s.toks+1,by rw[List.size_toArray,hlen]⟩,q⟩
theorem qgx:qcH X (.builtin "len") (λxs H Q=> ∃z,xs=[.str z]/\z.length<=sizeLine/\Q (.int z.length) H):=by
 intro pins s σ H xs us Q I r h
 obtain ⟨z,rfl,hz,q⟩:=h
 obtain ⟨u,rfl,t,rfl⟩:=qd0 r
 have hn:=qeg
 exact len_str (by omega) ⟨.int z.length,H,I.tok _,⟨_,rfl⟩,q⟩
theorem qdK:qcH X (.type "list") (λxs H Q=> ∃p ys,xs=[.ref p]/\(SqL X.K H p ys\/SqT X.K H p ys)/\∀l,H l=none->Q (.ref l) (upd H l (.lst ys))):=by
 intro pins s σ H xs us Q I r h
 obtain ⟨p,ys,rfl,hq,q⟩:=h
 obtain ⟨u,rfl,rx⟩:=qd0 r
 cases rx
 have fin: ∀(its:List Value),Vals ys its->ys.length<=sizeLine->∀(h':Heap) (c':Nat),(∀b o',s.heap.get? b=some o'->h'.get? b=some o')->
   h'.get? s.heap.objs.size=some { cls:=.type "list",dict:=none,data:=.seq its.toArray c',slots:= #[] }->EP X pins σ Q (.ref s.heap.objs.size) { s with heap:=h' }:=λits r' hz h' c' kp e=>
  ⟨.ref s.heap.objs.size,_,I.laid (t':=s.toks) kp (Nat.le_refl _) (show qba X.prog X.w _ h' _ (.lst ys) from ⟨hz,its,c',r',e⟩),rfl,q _ (I.hok.fresh (Nat.le_refl _))⟩
 rcases hq with hq | hq
 ·obtain ⟨its,r',pl,hz⟩:=I.list hq
  have hlen:=r'.length
  obtain ⟨o,ho,hc,n,hd⟩:=pl.isList
  exact call_list_seq p (.inl rfl) ho hc hd (λh' c' kp e=>fin its r' hz h' c' kp e) (by simp only[List.size_toArray]<;>omega)
 ·obtain ⟨its,r',pl,hz⟩:=I.tuple hq
  have hlen:=r'.length
  obtain ⟨o,ho,hc,n,hd⟩:=pl
  exact call_list_seq p (.inr rfl) ho hc hd (λh' c' kp e=>fin its r' hz h' c' kp e) (by simp only[List.size_toArray]<;>omega)
theorem qfC:qcH X (.type "tuple") (λxs H Q=> ∃p ys,xs=[.ref p]/\((SqL X.K H p ys/\∀l,H l=none->Q (.ref l) (upd H l (.tup ys)))\/(SqT X.K H p ys/\Q (.ref p) H))):=by
 intro pins s σ H xs us Q I r h
 obtain ⟨p,ys,rfl,h⟩:=h
 obtain ⟨u,rfl,rx⟩:=qd0 r
 cases rx
 rcases h with ⟨hq,q⟩ | ⟨hq,q⟩
 ·obtain ⟨its,r',pl,hz⟩:=I.list hq
  have hlen:=r'.length
  refine call_tuple_list pl.isList (λh' kp=> ?_) (by simp only[List.size_toArray]<;>omega)
  have I1:Inv X pins σ H { s with heap:=h' }:=I.kept (t':=s.toks) kp
  have I2:Inv X pins σ (upd H h'.objs.size (.tup ys)) { s with heap:=h'.push { cls:=.type "tuple",data:=.seq its.toArray } }:=
   I1.laid (t':=s.toks) (λb o e=>Heap.get?_push_of_some _ e) (Nat.le_refl _) (show qba X.prog X.w _ _ _ (.tup ys) from ⟨hz,its,r',IsTup.new _ _⟩)
  exact ⟨.ref h'.objs.size,_,I2,rfl,q _ (I1.hok.fresh (Nat.le_refl _))⟩
 ·obtain ⟨its,r',pl,hz⟩:=I.tuple hq
  exact call_tuple_same pl ⟨.ref p,H,I,rfl,q⟩
def tyV (K:PySem.W.Frag) (T:String) (x:V) (H:Hp):Prop:=match x with
 | .str _=>T= "str"
 | .int _=>T= "int"
 | .ref p=>(T= "list" /\∃xs,SqL K H p xs)\/(T= "tuple" /\∃o,K.lookup p=some o/\o.cls= .type "tuple" /\o.dict=none)\/
   (T= "dict" /\((∃kvs,H p=some (.dK kvs))\/∃kvs,H p=some (.dT kvs)))\/(T= "set" /\∃S n,H p=some (.set S n))
 | _=>False
theorem qnW {pins:List (Addr×Obj)} {σ:St} {H:Hp} {s:Shared} {T:String} {x:V} {v:Value} (I:Inv X pins σ H s) (r:RelV x v) (ty:tyV X.K T x H):
  s.TypeIs v T/\∀a,v= .ref a->∃ob,s.heap.get? a=some ob/\ob.dict=none:=by
 cases x with
 | str z=>
  obtain ⟨t,rfl⟩:=r
  cases (show T= "str" from ty)
  exact ⟨typeIs_str s z t,λ_ e=>nomatch e⟩
 | int i=>
  obtain ⟨t,rfl⟩:=r
  cases (show T= "int" from ty)
  exact ⟨typeIs_int s i t,λ_ e=>nomatch e⟩
 | ref p=>
  cases r
  rcases ty with ⟨rfl,xs,hq⟩ | ⟨rfl,o,hk,hc,hd⟩ | ⟨rfl,hk⟩ | ⟨rfl,S,n,hk⟩
  ·obtain ⟨its,_,pl,_⟩:=I.list hq
   refine ⟨pl.isList.typeIs,λa e=> ?_⟩
   cases e
   obtain ⟨o,n,e,c,hd,_⟩:=pl
   exact ⟨o,e,hd⟩
  ·refine ⟨⟨o,I.kIn p o hk,hc⟩,λa e=> ?_⟩
   cases e
   exact ⟨o,I.kIn _ o hk,hd⟩
  ·have z: ∃o,s.heap.get? p=some o/\o.ExactDict:=by
    rcases hk with ⟨kvs,hk⟩ | ⟨kvs,hk⟩
    ·obtain ⟨_,_,_,_,o,_,_,e,ex,_⟩:=I.hok p _ hk
     exact ⟨o,e,ex⟩
    ·obtain ⟨_,_,_,_,o,_,_,e,ex,_⟩:=I.hok p _ hk
     exact ⟨o,e,ex⟩
   obtain ⟨o,e,ex⟩:=z
   refine ⟨⟨o,e,ex.1⟩,λa e2=> ?_⟩
   cases e2
   exact ⟨o,e,ex.2.1⟩
  ·obtain ⟨o,_,_,_,e,ex,_⟩:=I.hok p _ hk
   refine ⟨⟨o,e,ex.1⟩,λa e2=> ?_⟩
   cases e2
   exact ⟨o,e,ex.2.1⟩
 | _=>exact False.elim ty
def tBM (K:PySem.W.Frag) (T:String) (r:V->List V->Hp->VK->Prop) (to:TE) (t:TA):TE:=λσ H Q=>to σ H λx H1=>tyV K T x H1/\t σ H1 λxs H2=>r x xs H2 Q
variable {o e:Expr} {es:List Expr} {to:TE} {t:TA} {name:Str} {apos cpos:Pos} {T id:String} {r:V->List V->Hp->VK->Prop}
theorem qeL (pa:PlainAttrs T) (slot:Slot T name id) (hty:typeOf (.builtin id)=pure (.type "method_descriptor")) (hm:MtR X id r) (ho:PE X o to) (ha:PA X (e::es) t)
  (hbase:attributeBase o name X.env (eval o X.env)=eval o X.env:=by rfl)
  (hfew:((backTo cpos (starEach (e::es) X.env)).all (λx=> !x.1)&&(backToKw cpos (keywordEach [] X.env)).all (λx=>x.1.isSome)
   &&decide ((e::es).length+([]:List Keyword).length+(if ([]:List Keyword).isEmpty then 0 else 1)<30))=true:=by rfl)
  (hline:(apos.endLine==cpos.line)=true:=by rfl) (hs:starEach (e::es) X.env=(false,eval e X.env)::starEach es X.env:=by rfl) (hplain:(backTo cpos (starEach es X.env)).any (·.1)=false:=by rfl):
  PE X (.Call (.Attribute o name apos) (e::es) [] cpos) (tBM X.K T r to t):=by
 intro pins s σ H Q I h
 refine wpAny_Call_method_late hbase hfew hline rfl (thn (ho pins s σ H _ I h) λv s1 ⟨x,H1,I1,r1,ty,q1⟩=> ?_)
 obtain ⟨h1,h2⟩:=qnW I1 r1 ty
 refine ⟨T,id,pa,slot,hty,h1,h2,?_⟩
 have hA:=ha cpos pins s1 σ H1 _ I1 q1
 rw[hs] at hA⊢
 refine Calls.callWith_builtin (by show (false||(backTo cpos (starEach es X.env)).any (·.1))=false; rw[hplain]<;>rfl) (Calls.evalArgs_plain ?_)
 exact thn hA λus s2 ⟨vs,H2,I2,r2,q2⟩=>hm pins s2 σ H2 x vs v us Q I2 r1 r2 q2
end
end L2
namespace L2
open PySem PySem.Spec PyProof.Rows
def MtM (X:Cx) (id:String) (r:V->List V->Hp->VK->Prop):Prop:=
 ∀(pins:List (Addr×Obj)) (s:Shared) (σ:St) (H:Hp) (x:V) (xs:List V) (v:Value) (us:List Value) (Q:VK),Inv X pins σ H s->RelV x v->Vals xs us->r x xs H Q->
  wpAny (model X.prog X.w) X.A (call (.builtin id) (v::us)) (EP X pins σ Q) X.xe s
theorem Vals.one: ∀{x:V} {us:List Value},Vals [x] us->∃u,us=[u]/\RelV x u
 | _,_,.cons r .nil=>⟨_,rfl,r⟩
section
variable {X:Cx} {pins:List (Addr×Obj)} {σ:St} {H:Hp} {s:Shared} {l b:Addr} {xs ys zs:List V}
theorem Inv.lset {its its':List Value} {n:Nat} {f:Array Value->Array Value} {t':Nat} (I:Inv X pins σ H s) (hH:H l=some (.lst xs))
  (e:s.heap.get? l=some { cls:=.type "list",data:=.seq its.toArray n }) (hf:f its.toArray=its'.toArray) (hv:Vals ys its') (hz:ys.length<=sizeLine):
  Inv X pins σ (upd H l (.lst ys)) { s with heap:=s.heap.update l (Obj.mapSeq f),toks:=t' }:=by
 have q:=PySem.IsL.update e f
 rw[hf] at q
 refine I.write (x:=l) (e:=l) (by rw[hH]; exact trivial) (.inl rfl) (λb' u hb hu=>(Heap.get?_update_other s.heap (Obj.mapSeq f) (Ne.symm hb)).trans hu) ⟨_,q⟩ ?_
 exact ⟨hz,its',_,hv,q⟩
theorem Inv.lnew {its:List Value} {t':Nat} (I:Inv X pins σ H s) (hv:Vals ys its) (hz:ys.length<=sizeLine):
  Inv X pins σ (upd H s.heap.objs.size (.lst ys)) { s with heap:=s.heap.push { cls:=.type "list",data:=.seq its.toArray },toks:=t' }:=
 I.laid (λ_ _ q=>Heap.get?_push_of_some _ q) (Nat.le_refl _) ⟨hz,its,0,hv,Heap.get?_push_size _ rfl⟩
theorem Inv.fresh (I:Inv X pins σ H s):H s.heap.objs.size=none:=I.hok.fresh (Nat.le_refl _)
theorem Inv.lstM (I:Inv X pins σ H s) (hH:H l=some (.lst xs)):xs.length<=sizeLine/\∃(its:List Value) (n:Nat),Vals xs its/\xs.length=its.length/\s.heap.get? l=some { cls:=.type "list",data:=.seq its.toArray n }:=by
 obtain ⟨z,its,n,r,e⟩:=I.hok l _ hH
 exact ⟨z,its,n,r,r.length,e⟩
theorem qm0 {n:Nat} (h:n<=sizeLine):Builtin.List.listTooLong n=false:=by
 unfold Builtin.List.listTooLong
 exact decide_eq_false (by omega)
end
section
variable {X:Cx}
def qkj:V->List V->Hp->VK->Prop:=λx vs H Q=> ∃l xs y,x= .ref l/\vs=[y]/\H l=some (.lst xs)/\xs.length<sizeLine/\Q .non (upd H l (.lst (xs++[y])))
theorem qbg:MtM X "list.append" qkj:=by
 intro pins s σ H x vs v us Q I rx rv h
 obtain ⟨l,xs,y,rfl,rfl,hH,hz,q⟩:=h
 cases rx
 obtain ⟨u,rfl,ru⟩:=rv.one
 obtain ⟨z,its,n,r,hl,e⟩:=I.lstM hH
 refine call_meets F.slot_list_append ⟨_,e,rfl⟩ F.entry_list_append (F.args_list_append_2 _ _) (PySem.list_append l its.toArray n u (by rw[List.size_toArray]; omega)) ⟨e,?_⟩
 refine ⟨.non,_,I.lset (its':=its++[u]) hH e (by simp) (r.append (.cons ru .nil)) ?_,rfl,q⟩
 rw[List.length_append,List.length_singleton]
 omega
def qki:V->List V->Hp->VK->Prop:=λx vs H Q=> ∃l b xs zs,x= .ref l/\vs=[.ref b]/\H l=some (.lst xs)/\H b=some (.lst zs)/\xs.length+zs.length<=sizeLine/\Q .non (upd H l (.lst (xs++zs)))
theorem qkK:MtM X "list.extend" qki:=by
 intro pins s σ H x vs v us Q I rx rv h
 obtain ⟨l,b,xs,zs,rfl,rfl,hH,hB,hz,q⟩:=h
 cases rx
 obtain ⟨u,rfl,ru⟩:=rv.one
 cases ru
 obtain ⟨z,its,n,r,hl,e⟩:=I.lstM hH
 obtain ⟨z2,its2,n2,r2,hl2,e2⟩:=I.lstM hB
 have hsz:its.toArray.size+its2.toArray.size<=sizeLine:=by rw[List.size_toArray,List.size_toArray]; omega
 have hlong: ¬(!its.toArray.isEmpty&&Builtin.List.listTooLong (its.toArray.size+its2.toArray.size))=true:=by
  rw[qm0 hsz,Bool.and_false]
  exact Bool.false_ne_true
 refine call_meets F.slot_list_extend ⟨_,e,rfl⟩ F.entry_list_extend (F.args_list_extend_2 _ _)
  (AutoSeq1.list_extend_list_list_0 l its.toArray n b its2.toArray n2 hlong (by rw[List.size_toArray]; omega) (by omega)) ⟨e,e2,?_⟩
 refine ⟨.non,_,I.lset (its':=its++its2) hH e (by simp) (r.append r2) ?_,rfl,q⟩
 rw[List.length_append]
 omega
def quR:R2:=λx y H Q=> ∃l b xs zs,x= .ref l/\y= .ref b/\H l=some (.lst xs)/\H b=some (.lst zs)/\xs.length+zs.length<=sizeLine/\∀p,H p=none->Q (.ref p) (upd H p (.lst (xs++zs)))
theorem qn7:OpR X (binaryOp .Add) quR:=by
 intro pins s σ H x y v u Q I rx ry h
 obtain ⟨l,b,xs,zs,rfl,rfl,hH,hB,hz,q⟩:=h
 cases rx
 cases ry
 obtain ⟨z,its,n,r,hl,e⟩:=I.lstM hH
 obtain ⟨z2,its2,n2,r2,hl2,e2⟩:=I.lstM hB
 refine PySem.P.add_list e e2 ?_ (by rw[List.size_toArray,List.size_toArray]; omega)
 have ea:its.toArray++its2.toArray=(its++its2).toArray:=by simp
 rw[ea]
 exact ⟨.ref _,_,I.lnew (t':=s.toks) (r.append r2) (by rw[List.length_append]; omega),rfl,q _ I.fresh⟩
end
end L2
namespace Att
open PySem PySem.W PySem.Calls PyProof.Rows
theorem qem {P:Params} {h:Heap}: ∀(ns:List Int) (vs:List Value),WellAll P h vs (ns.map WData.int)->IntsAre vs ns:=by
 intro ns
 induction ns with
 | nil=>
  intro vs w
  rw[List.map_nil] at w
  cases w
  exact .nil
 | cons n ns ih=>
  intro vs w
  rw[List.map_cons] at w
  cases w with
  | cons a b=>
   cases a
   exact .cons _ _ (ih _ b)
theorem qjZ {l:OpenLaw} {n:Nat} (hn:l.most=some n) {P:Params} {h:Heap} {args:List WData} {vals:List Value}
  (hpre:l.row.toRowW.claim.pre args=true) (hwl:WellAll P h vals args):
  ∃a vs ns,vals=[Value.ref a]/\args=[WData.list (ns.map WData.int)]/\h.get? a=some { cls:=.type "list",data:=.seq vs.toArray }/\IntsAre vs ns/\ns.length<=n:=by
 have hsh:WShape.hasAll [] args [.list .int]=true:=(pre_splitW hpre).1
 have hc:l.pre.holds [] { args:=args }=true:=(pre_splitW hpre).2
 obtain ⟨d,r,rfl,h1,h2⟩:=hasAllW_cons hsh
 obtain rfl:=hasAllW_nil h2
 obtain ⟨xs,rfl,h3⟩:=hasW_list h1
 obtain ⟨ns,rfl⟩:=items_int h3
 have hlen:ns.length<=n:=by
  unfold OpenLaw.pre at hc
  have h4:(WTm.not (.lt (.lit (.int (n:Int))) (.len (.arg 0)))).holds [] { args:=[.list (ns.map .int)] }=true:=by
   have h4:=(holds_andW hc).1
   rw[hn] at h4
   exact h4
  have h5:=condW_of h4 (w_not (w_lt w_lit (w_len_list (w_arg rfl))))
  rw[List.length_map] at h5
  refine Nat.le_of_not_lt λq=> ?_
  have q':(n:Int)<((ns.length:Nat):Int):=by omega
  first
   | (rw[decide_eq_true q'] at h5; exact absurd h5 (by decide))
   | (simp at h5; omega)
 cases hwl with
 | cons w1 w2=>
  cases w2
  cases w1 with
  | list ho hall=>exact ⟨_,_,ns,rfl,rfl,ho,qem ns _ hall,hlen⟩
theorem qkq (l:OpenLaw) (args:List WData):l.row.toRowW.claim.post args (.bool true) args=true:=
 postW_of (r:=l.row.toRowW) (X:=(true==true))
  (show WShape.has [] (.bool true) .bool=true by first | rfl | decide | simp[WShape.has,WShape.arms,WShape.armsAll])
  (show (WTm.eq .res (.lit (.bool true))).value [] { args:=args,res:=some (.bool true),after:=args }=some (.bool (true==true)) from w_eq_bool (w_res rfl) w_lit) rfl
theorem attach_call {l:OpenLaw} {n:Nat} {q:Program} {loose:List Str} {XP:(Str->Option Value)->Heap->Prop} {YP:World->Heap->Prop} {d:DefRec}
  (hn:l.most=some n) (hdf:d.params.defaults=[])
  (call: ∀(w:World) (s₀ s₁:Shared) (mg mb:Str->Option Value) (fa:Addr) (o:Obj) (pm cd doc:Value) (a:Addr) (vs:List Value) (ns:List Int),
   Ground q loose [] XP w s₀ mg mb s₁.heap->YP w s₁.heap->
   s₁.heap.get? fa=some o->o.data= .func (docDef d.name d.params d.body d.scope pm cd doc)->s₁.heap.CodeRec cd d.name->mg d.name=some (.ref fa)->
   s₁.heap.get? a=some { cls:=.type "list",data:=.seq vs.toArray }->IntsAre vs ns->ns.length<=n->s₁.gens= #[]->
   codeAny (model l.prog w) callerA (.call (.ref fa) ⟨[.ref a],[]⟩) (λr s'=>r= .ok (.ret (.bool true))/\OldK s₁.heap s'.heap/\s'.os=s₁.os/\AllBare s'.gens) s₁):
  WalkO q loose XP YP l.row.toRowW d [] (λf vs=>PySem.call f vs):=by
 intro w s₀ s₁ mg mb G Y fa o pm cd doc dV kV ho hd hcd hD hmg hg args vals as hpre hlay hrd hwl hlo
 obtain rfl:dV= .none:=Dflts.none hD hdf
 obtain rfl:kV= .none:=Dflts.noKw hD
 obtain ⟨a,vs,ns,rfl,rfl,hobj,hints,hlen⟩:=qjZ hn hpre hwl
 refine enter_call (codeAny_mono (call w s₀ s₁ mg mb fa o pm cd doc a vs ns G Y ho (fd_plain hd) hcd hmg hobj hints hlen hg) λr s' hq=> ?_)
 obtain ⟨rfl,h2,h3,h4⟩:=hq
 exact ⟨.inl ⟨.bool true,.bool true,[],rfl,λ_=>rfl,.bool true,qkq l _,λ_=>⟨List.Pairwise.nil,λ_ hm=>(nomatch hm)⟩⟩,h2,h3,h4⟩
section
variable {prog:Program} {w:World} {A:Around} {E:Value->Shared->Prop} {s:Shared} {K:Frag}
def quW (h:Heap) (L d:Addr):List (Addr×Obj):=(List.range h.objs.size).filterMap λa=>if a=L\/a=d then none else (h.get? a).map λo=>(a,o)
end
end Att
namespace L2
open PySem PySem.Spec PyProof.Rows
theorem qfJ: ∀{vs:List Value} {ns:List Int},IntsAre vs ns->Vals (ns.map V.int) vs
 | _,_,.nil=>.nil
 | _,_,.cons n t h=>.cons ⟨t,rfl⟩ (qfJ h)
end L2
namespace L2
open PySem PySem.Spec PyProof.Rows
abbrev KOf {K:PySem.W.Frag} {h:Heap} (_:K.In h):PySem.W.Frag:=K
end L2
namespace L2
open PySem PySem.Spec PyProof.Rows
def qbX (s:Stmt):Arguments:=match s with
 | .FunctionDef _ a _ _ _ _ _ _ _ _=>a
 | _=>{ posonlyargs:=[],args:=[],vararg:=none,kwonlyargs:=[],kw_defaults:=[],kwarg:=none,defaults:=[] }
def qbp (s:Stmt):List Stmt:=match s with
 | .FunctionDef _ _ b _ _ _ _ _ _ _=>b
 | _=>[]
def qah (s:Stmt):Scope:=match s with
 | .FunctionDef _ _ _ _ _ _ sc _ _ _=>sc
 | _=>{ kind:=.function,names:=[],isGenerator:=false,isCoroutine:=false }
abbrev CX0:CXT:=λ_ _ _ _ _ _=>False
abbrev E0:XK:=λ_ _ _=>False
theorem qtu {X:Cx}:qgH CX0 X E0:=λ_ _ _ _ _ _ _ h=>h.elim
structure Fun (K:PySem.W.Frag) (x qual:Str) (st:Stmt) (f:Addr) (fd:FuncData):Prop where
 ex: ∃(oc:Value) (od:Option Addr) (kV doc pm:Value) (an:Option Addr) (cdv ct:Value) (osl:Array (Option Value)),
  fd=PySem.W.fnOf x qual (qbX st) (qbp st) (qah st) .none kV doc pm an cdv ct/\K.lookup f=some ⟨oc,od,.func fd,osl⟩/\PySem.W.codeIn K cdv qual=true
 kp:PySem.W.keepIn K (.ref f)=true
section
variable {P:Program} {w:World} {K:PySem.W.Frag} {mg:Str->Option Value} {base:Heap}
theorem Fun.ok {x qual:Str} {st:Stmt} {f:Addr} {fd:FuncData} {N ps:List Str} {k:Nat} {sp:Sp} (F:Fun K x qual st f fd) (S:qav N ps (qah st)) (len: ∀vs H Q E,sp vs H Q E->vs.length=ps.length)
  (hbody: ∀(cdv:Value) (A:Around) (outer:List Env) (s:Shared) (H:Hp) (vs:List V) (Q:VK) (E:XK),qcE k (A.deeper (envOfC qual (qah st) s.heap.objs.size f cdv))->sp vs H Q E->
   ∃t,PSs (qnF CX0 P w K mg base N qual (qah st) f cdv A outer s H E).nox (qbp st) t/\t { nx:=λ_ H'=>Q .non H',rt:=Q } (start N vs) H):qbf P w K mg base CX0 (k+1) f fd ps sp:=by
 obtain ⟨oc,od,kV,doc,pm,an,cdv,ct,osl,rfl,lk,hcd⟩:=F.ex
 refine qur lk hcd S len λA outer s H vs Q E hr hsp=> ?_
 obtain ⟨t,h,q⟩:=hbody cdv A outer s H vs Q E hr hsp
 exact ⟨t,h.nox,q⟩
theorem Fun.binds {x qual:Str} {st:Stmt} {f:Addr} {fd:FuncData} {ps:List Str} (F:Fun K x qual st f fd)
  (h: ∀(kV doc pm:Value) (an:Option Addr) (cdv ct:Value) (us:List Value),us.length=ps.length->bindArgs (PySem.W.fnOf x qual (qbX st) (qbp st) (qah st) .none kV doc pm an cdv ct) ⟨us,[]⟩=pure (ps.zip us)):qdB K fd ps []:=by
 obtain ⟨oc,od,kV,doc,pm,an,cdv,ct,osl,rfl,lk,hcd⟩:=F.ex
 exact .all (h kV doc pm an cdv ct)
theorem qgd {x qual:Str} {st:Stmt} {f:Addr} {oc:Value} {od an:Option Addr} {osl:Array (Option Value)} {kV doc pm cdv ct:Value} (l:K.lookup f=some ⟨oc,od,.func (PySem.W.fnOf x qual (qbX st) (qbp st) (qah st) .none kV doc pm an cdv ct),osl⟩)
  (c:PySem.W.codeIn K cdv qual=true) (k:PySem.W.keepIn K (.ref f)=true):Fun K x qual st f (PySem.W.fnOf x qual (qbX st) (qbp st) (qah st) .none kV doc pm an cdv ct):=⟨⟨oc,od,kV,doc,pm,an,cdv,ct,osl,rfl,l,c⟩,k⟩
end
theorem qa6 {n:Nat} (h:n<=1000):n<sizeLine:=Nat.lt_of_le_of_lt h (by decide)
section
variable {X:Cx}
theorem pv (i:Nat) {x:Str} {pos:Pos} (hN:X.N[i]? =some x:=by rfl) (hv:Vis X.env.scope x:=by first | exact Or.inl rfl | exact Or.inr (Or.inl rfl) | exact Or.inr (Or.inr rfl)) (hd:(x==("__debug__" :Str))=false:=by decide)
  (hcd:(x==("__classdict__" :Str))=false:=by decide):PE X (.Name x pos) (qhM i):=qq7 hN hv hd hcd
end
theorem qqj {A B:Prop} (h:B):if false=true then A else B:=by
 rw[if_neg Bool.false_ne_true]
 exact h
theorem qqi {A B:Prop} (h:A):if true=true then A else B:=by
 rw[if_pos rfl]
 exact h
def qnT (H H':Hp):Prop:= ∀b o,H b=some o->H' b=some o
theorem qnT.refl (H:Hp):qnT H H:=λ_ _ h=>h
theorem qnT.seq {K:PySem.W.Frag} {H H':Hp} {a:Addr} {xs:List V} (e:qnT H H') (h:SqL K H a xs):SqL K H' a xs:=by
 rcases h with (h | ⟨o,h⟩) | h
 ·exact .inl (.inl (e _ _ h))
 ·exact .inl (.inr ⟨o,e _ _ h⟩)
 ·exact .inr h
end L2
end
section
namespace L2
open PySem PySem.Spec PyProof.Rows
def qlP (env:Env):List (Str×NameKind)->List (Str×Addr)->List (Str×Addr)
 | [],acc=>acc
 | x::r,acc=>qlP env r (if x.2== .free then (match env.cells.lookup x.1 with | some a=>(x.1,a)::acc | none=>acc) else acc)
theorem qe7 {env:Env}: ∀(names:List (Str×NameKind)) (acc:List (Str×Addr)),(∀x∈names,x.2= .free->∃c,env.cells.lookup x.1=some c)->
  (forIn names acc λx r=>(match x with | (name,kind)=>if (kind==NameKind.free)=true then do let a <-cellOf env name; pure (ForInStep.yield ((name,a)::r)) else pure (ForInStep.yield r):Sem (ForInStep (List (Str×Addr)))))=pure (qlP env names acc)
 | [],acc,_=>by rw[List.forIn_nil]; rfl
 | (n,k)::r,acc,h=>by
  rw[List.forIn_cons]
  have ih:=λacc'=>qe7 (env:=env) r acc' λx hx=>h x (List.mem_cons_of_mem _ hx)
  by_cases hk:(k==NameKind.free)=true
  ·have hk':k= .free:=by simpa using hk
   obtain ⟨c,hc⟩:=h (n,k) List.mem_cons_self hk'
   simp only[hk,if_true,cellOf,hc,qlP]
   exact ih _
  ·simp only[hk,if_false,qlP]
   exact ih _
theorem qjp {scope:Scope} {env:Env} (h: ∀x∈scope.names,x.2= .free->∃c,env.cells.lookup x.1=some c):closureFor scope env=pure (qlP env scope.names []):=by
 have e:=qe7 (env:=env) scope.names [] h
 unfold closureFor
 exact (congrArg (λm=>m>>=λr=>pure r) e)
theorem qiG {env:Env} {x:Str} {c:Addr}: ∀(names:List (Str×NameKind)) (acc:List (Str×Addr)),(∀y d,acc.lookup y=some d->env.cells.lookup y=some d)->
  (qlP env names acc).lookup x=some c->env.cells.lookup x=some c
 | [],acc,ha,h=>ha x c h
 | (n,k)::r,acc,ha,h=>by
  refine qiG r _ (λy d hy=> ?_) h
  dsimp only at hy
  by_cases hk:(k==NameKind.free)=true
  ·rw[if_pos hk] at hy
   cases e:env.cells.lookup n with
   | none=>rw[e] at hy; exact ha y d hy
   | some a=>
    rw[e] at hy
    dsimp only at hy
    rw[List.lookup_cons] at hy
    cases hb:y==n with
    | true=>
     rw[hb] at hy
     have e1:y=n:=eq_of_beq hb
     subst e1
     rw[e]; exact hy
    | false=>rw[hb] at hy; exact ha y d hy
  ·rw[if_neg hk] at hy
   exact ha y d hy
theorem qeA {env:Env} {x:Str} {c:Addr}: ∀(names:List (Str×NameKind)) (acc:List (Str×Addr)),env.cells.lookup x=some c->(acc.lookup x=some c\/(x,NameKind.free)∈names)->
  (qlP env names acc).lookup x=some c
 | [],acc,hc,h=>by
  rcases h with h | h
  ·exact h
  ·cases h
 | (n,k)::r,acc,hc,h=>by
  refine qeA r _ hc ?_
  dsimp only
  by_cases hk:(k==NameKind.free)=true
  ·rw[if_pos hk]
   by_cases hn:x=n
   ·subst hn
    rw[hc]
    exact .inl (by simp[List.lookup_cons])
   ·have hb:(x==n)=false:=by simpa using hn
    cases e:env.cells.lookup n with
    | none=>
     rcases h with h | h
     ·exact .inl h
     ·rcases List.mem_cons.mp h with h | h
      ·cases h; exact absurd rfl hn
      ·exact .inr h
    | some a=>
     dsimp only
     rcases h with h | h
     ·exact .inl (by rw[List.lookup_cons,hb]; exact h)
     ·rcases List.mem_cons.mp h with h | h
      ·cases h; exact absurd rfl hn
      ·exact .inr h
  ·rw[if_neg hk]
   rcases h with h | h
   ·exact .inl h
   ·rcases List.mem_cons.mp h with h | h
    ·cases h; exact absurd rfl hk
    ·exact .inr h
theorem qck {env:Env} {x:Str} {k:NameKind}: ∀{names:List (Str×NameKind)},(∀y∈names,y.2≠.cell)->k= .cell\/k= .free->
  (names.map λ(n,k)=>if (k==NameKind.free&&env.scope.kind== .function&&env.kindOf n==some .cell) then (n,NameKind.cell) else (n,k)).lookup x=some k->names.lookup x=some .free
 | [],_,_,h=>by simp at h
 | (n,k')::r,hc,hk,h=>by
  have ih:=@qck env x k r (λy hy=>hc y (List.mem_cons_of_mem _ hy)) hk
  rw[List.map_cons] at h
  dsimp only at h
  by_cases hf:(k'==NameKind.free&&env.scope.kind== .function&&env.kindOf n==some .cell)=true
  ·rw[if_pos hf] at h
   have hk':k'= .free:=by
    have:=hf; simp only[Bool.and_eq_true,beq_iff_eq] at this; exact this.1.1
   subst hk'
   cases hx:x==n with
   | true=>simp[List.lookup_cons,hx]
   | false=>
    simp only[List.lookup_cons,hx] at h⊢
    exact ih h
  ·rw[if_neg hf] at h
   cases hx:x==n with
   | true=>
    simp only[List.lookup_cons,hx] at h⊢
    cases h
    have hne:=hc (n,k) List.mem_cons_self
    rcases hk with e | e
    ·exact absurd e hne
    ·rw[e]
   | false=>
    simp only[List.lookup_cons,hx] at h⊢
    exact ih h
theorem qdE {env:Env} {x:Str}: ∀{names:List (Str×NameKind)},names.lookup x=some .free->
  let m:=(names.map λ(n,k)=>if (k==NameKind.free&&env.scope.kind== .function&&env.kindOf n==some .cell) then (n,NameKind.cell) else (n,k)).lookup x
  m=some .cell\/m=some .free
 | [],h=>by simp at h
 | (n,k)::r,h=>by
  have ih:=@qdE env x r
  dsimp only at ih⊢
  rw[List.map_cons]
  dsimp only
  cases hx:x==n with
  | true=>
   simp only[List.lookup_cons,hx] at h
   cases h
   by_cases hf:(NameKind.free==NameKind.free&&env.scope.kind== .function&&env.kindOf n==some .cell)=true
   ·rw[if_pos hf]; exact .inl (by simp[List.lookup_cons,hx])
   ·rw[if_neg hf]; exact .inr (by simp[List.lookup_cons,hx])
  | false=>
   simp only[List.lookup_cons,hx] at h
   by_cases hf:(k==NameKind.free&&env.scope.kind== .function&&env.kindOf n==some .cell)=true
   ·rw[if_pos hf]; simp only[List.lookup_cons,hx]; exact ih h
   ·rw[if_neg hf]; simp only[List.lookup_cons,hx]; exact ih h
def qa8 (X:Cx) (scope:Scope) (own:List Str) (fr:List (Str×Nat)) (fp:List Addr) (s3:Shared) (H3:Hp):Cx where
 prog:=X.prog
 w:=X.w
 K:=X.K
 mg:=X.mg
 base:=X.base
 A:=X.A
 N:=own++fr.map (·.1)
 s₀:=s3
 H₀:=H3
 env:=compEnvC scope (qlP X.env scope.names []) s3.heap.objs.size X.env
 outer:=X.stack
 stack:=X.stack
 ex:=fp
 calm:=X.calm
 fn:=λ_=>false
 pn:=[]
 xe:=λ_ _=>False
def qd4 (own:List Str) (fr:List (Str×Nat)) (σ:St):St:=own.map (λ_=>none)++fr.map λp=>(σ[p.2]?).join
def qnU (Y:Cx) (ifs:List Expr) (tt:TT):Prop:=
 ∀(pins:List (Addr×Obj)) (s:Shared) (σ:St) (H:Hp) (Q:Bool->Hp->Prop),Inv Y pins σ H s->tt σ H Q->
  wpAny (model Y.prog Y.w) Y.A (forIn ifs true λc r=>if r=true then do let ok <-isTrue c Y.env (eval c Y.env); pure (ForInStep.yield ok) else pure (ForInStep.yield r)) (TP Y pins σ Q) Y.xe s
def qoH:TT:=λ_ H Q=>Q true H
theorem qmN {Y:Cx}:qnU Y [] qoH:=λ_ _ _ H _ I h=>wpAny_tests_nil ⟨H,I,h⟩
theorem qmM {Y:Cx} {c:Expr} {t:TT} (h:PT Y c t):qnU Y [c] t:=λpins s σ H Q I q=>wpAny_tests_one (h pins s σ H Q I q)
theorem fls {α:Type} {t:Sem α} {Q Q':α->Shared->Prop} {M:Model} {A:Around} {E:Value->Shared->Prop} {s:Shared} (h:wpAny M A t Q (λ_ _=>False) s) (hQ: ∀a s,Q a s->Q' a s):wpAny M A t Q' E s:=
 wpAny_mono h hQ λ_ _ x=>x.elim
section
variable {prog:Program} {w:World} {A:Around} {R:Result->Shared->Prop} {s:Shared}
theorem qjv {elt tg iter:Expr} {ifs:List Expr} {scope:Scope} {pos:Pos} {it acc:Value} {env:Env} (J:Nat->Shared->Prop)
  (qnX: ∀n s,J n s->wpAny (model prog w) A (pyNext it) (λr s1=>match r with
   | none=>R (.ok .next) s1
   | some v=>wpAny (model prog w) A (letOwnedTupleGo tg it v) (λ_ s2=>wpAny (model prog w) A (assign tg env v) (λ_ s3=>
     wpAny (model prog w) A (forIn ifs true λc r=>if r=true then do let ok <-isTrue c env (eval c env); pure (ForInStep.yield ok) else pure (ForInStep.yield r)) (λok s4=>
      if ok=true then wpAny (model prog w) A (eval elt env) (λx s5=>wpAny (model prog w) A (call (.builtin "list.append") [acc,x]) (λ_ s6=> ∃m,m<n/\J m s6) (λ_ _=>False) s5) (λ_ _=>False) s4
      else ∃m,m<n/\J m s4) (λ_ _=>False) s3) (λ_ _=>False) s2) (λ_ _=>False) s1) (λ_ _=>False) s)
  (n:Nat) (h:J n s):codeAny (model prog w) A (.compLoop (.ListComp elt [⟨tg,iter,ifs,0⟩] scope pos) 0 it acc env) R s:=by
 refine codeAny_loop rfl J (λn s hJ=> ?_) n h
 show wpAny _ A ((compTurn (.ListComp elt [⟨tg,iter,ifs,0⟩] scope pos) 0 it acc env).onRaise (λx=>do noteFrame x env; theTreesLotGoes x)) _ _ s
 refine wpAny_noted ?_
 rw[compTurn_list]
 refine wpAny_bind (wpAny_standAt (wpAny_bind (fls (qnX n s hJ) λr s1 h1=> ?_)))
 cases r with
 | none=>exact wpAny_pure h1
 | some v=>
  refine wpAny_bind (fls h1 λ_ s2 h2=>wpAny_bind (fls h2 λ_ s3 h3=>wpAny_bind (fls h3 λok s4 h4=> ?_)))
  cases ok with
  | false=>exact wpAny_pure ⟨rfl,h4⟩
  | true=>exact wpAny_bind (wpAny_bind (fls h4 λx s5 h5=>wpAny_bind (fls h5 λ_ s6 h6=>wpAny_pure (wpAny_pure ⟨rfl,h6⟩))))
end
end L2
end
section
namespace L2
open PySem PySem.Spec PyProof.Rows
def qr5 (J:It) (D:Addr) (g:TG) (tt:TT) (te:TE) (σ0:St) (H0:Hp) (Q:Addr->Hp->Prop):Prop:=
 ∃W:Nat->Nat->St->Hp->Prop,(∃m,W 0 m σ0 H0)/\∀i m σ1 H2,W i m σ1 H2->
  (J.stop i H2/\Q D H2)\/(J.go i H2/\∃(Ny:St->V->Hp->Prop) (Nn:St->Hp->Prop),
   (∀σ2 y H6,Ny σ2 y H6->∃ys,H6 D=some (.lst ys)/\ys.length<sizeLine/\∃m',m'<m/\W (i+1) m' σ2 (upd H6 D (.lst (ys++[y]))))/\
   (∀σ2 H5,Nn σ2 H5->∃m',m'<m/\W (i+1) m' σ2 H5)/\
   ∀x H3,J.yld i H2 x H3->g x σ1 H3 λσ2 H4=>tt σ2 H4 λb H5=>if b=true then te σ2 H5 (Ny σ2) else Nn σ2 H5)
def qhN (wi:TI) (g:TG) (tt:TT) (te:TE) (own:List Str) (fr:List (Str×Nat)) (σ:St) (H:Hp) (Q:Addr->Hp->Prop):Prop:=
 wi σ H λJ H1=> ∀D,H1 D=none->qr5 J D g tt te (qd4 own fr σ) (upd H1 D (.lst [])) Q
section
variable {X:Cx} {elt tg iter:Expr} {ifs:List Expr} {scope:Scope} {pos ppos:Pos} {own:List Str} {fr:List (Str×Nat)} {wi:TI} {g:TG} {tt:TT} {te:TE}
theorem qgu {use:Option (Value->Sem Unit)} {Qf:Value->Shared->Prop} {pins:List (Addr×Obj)} {σ:St} {H:Hp} {s:Shared} {Q:Addr->Hp->Prop}
  (hc:X.calm=true) (hi:PI X tg iter wi) (hk:scope.kind= .function) (hcell: ∀y∈scope.names,y.2≠.cell) (hnames: ∀y∈scope.names,y.2= .local->scope.names.lookup y.1=some .local)
  (hfree: ∀y∈scope.names,y.2= .free->X.env.kindOf y.1=some .cell\/X.env.kindOf y.1=some .free) (hfr: ∀p∈fr,X.N[p.2]? =some p.1/\scope.names.lookup p.1=some .free)
  (hb: ∀(fp:List Addr) (s3:Shared) (H3:Hp),PG (qa8 X scope own fr fp s3 H3) tg g/\qnU (qa8 X scope own fr fp s3 H3) ifs tt/\PE (qa8 X scope own fr fp s3 H3) elt te)
  (hs: ∀x,foldedSetIterable iter X.env x=pure x) (I:Inv X pins σ H s) (h:qhN wi g tt te own fr σ H Q)
  (fin: ∀(D C:Addr) (H':Hp) (s':Shared) (m:Str->Option Value),Inv X pins σ H' s'->qhD X pins H' C->s'.heap.Ns C m->Q D H'->compPost (model X.prog X.w) X.A X.xe use Qf (.ref D) C (.ok .next) s'):
  wpAny (model X.prog X.w) X.A (comprehension (.ListComp elt [⟨tg,iter,ifs,0⟩] scope pos) scope X.env ppos (newList []) false (eval iter X.env) use) Qf X.xe s:=by
 have hcel: ∀x∈scope.names,x.2= .free->∃c,X.env.cells.lookup x.1=some c:=λx hx e=>I.ok.has x.1 (hfree x hx e)
 refine wpAny_comprehension_free (cl:=qlP X.env scope.names []) rfl hs (qjp hcel) hk hnames ?_
 refine thn (hi pins s σ H _ I h) λxv s1 h1=>thn h1 λitv s2 h2=> ?_
 obtain ⟨it,fp,tn,J,H2,rfl,I2,T,st2,f2,h2⟩:=h2
 refine wpAny_newObj_type (hd:=by size_fits) ?_
 generalize hD:s2.heap.objs.size=D
 have I3:Inv X pins σ (upd H2 D (.lst [])) { s2 with heap:=s2.heap.push { cls:=.type "list",dict:=none,data:=.seq ([]:List Value).toArray } }:=by
  rw[<-hD]
  exact I2.lnew (its:=[]) (ys:=[]) (t':=s2.toks) .nil (Nat.zero_le _)
 have nD:H2 D=none:=I2.hok.fresh (Nat.le_of_eq hD)
 obtain ⟨W,⟨m0,w0⟩,qnX⟩:=h2 D nD
 have f3: ∀b∈fp,b<s2.heap.objs.size/\qhD X pins (upd H2 D (.lst [])) b:=λb hb=>by
  obtain ⟨o,e,_⟩:=T.obj _ _ st2 b hb
  have lt:=Heap.lt_size e
  exact ⟨lt,by rw[qaj (by rw[<-hD]; exact Nat.ne_of_lt lt)]; exact (f2 b hb).1,(f2 b hb).2⟩
 have st3:tn 0 (s2.heap.push { cls:=.type "list",dict:=none,data:=.seq ([]:List Value).toArray }):=T.keep _ _ _ st2 λb _ o e=>Heap.get?_push_of_some _ e
 generalize hs3:({ s2 with heap:=s2.heap.push { cls:=.type "list",dict:=none,data:=.seq ([]:List Value).toArray } }:Shared)=s3 at I3⊢
 have hh3:s3.heap=s2.heap.push { cls:=.type "list",dict:=none,data:=.seq ([]:List Value).toArray }:=by rw[<-hs3]
 rw[<-hh3] at st3
 have sz3:s3.heap.objs.size=s2.heap.objs.size+1:=by rw[hh3,Heap.size_push]
 generalize hH3:upd H2 D (.lst [])=H3 at I3 w0 f3
 refine wpAny_newFunctionEnv hcell (by intro y hy; simp at hy) (λh4 hn4 hs4=> ?_) hk
 have old4: ∀b o,s3.heap.get? b=some o->h4.get? b=some o:=λb o e=>
  (hs4.2 b (Nat.ne_of_lt (Heap.lt_size e))).trans (Heap.get?_push_of_some _ e)
 generalize hs4':({ s3 with heap:=h4,toks:=s3.toks+([]:List (Str×Value)).length }:Shared)=s4
 have hh4:s4.heap=h4:=by rw[<-hs4']
 have cl_sub: ∀x c,(qlP X.env scope.names []).lookup x=some c->X.env.cells.lookup x=some c:=λx c=>qiG _ _ (λ_ _ z=>by cases z)
 have Y0:Inv (qa8 X scope own fr fp s3 H3) [] (qd4 own fr σ) H3 s4:=by
  refine ⟨⟨I3.ok.mod,hk,I3.ok.glob,I3.ok.blt,Nat.le_refl _,λx y c h1 h2=>I3.ok.inj x y c (cl_sub x c h1) (cl_sub y c h2),λx hx=> ?_,λx c z=>absurd (show false=true from z) Bool.false_ne_true,I3.ok.hd,I3.ok.frames,.inl rfl,λb hb=>⟨?_,λx c e=>(f3 b hb).2.2.2.2.2.1 x c (cl_sub x c e)⟩,
   I3.bs,Nat.le_trans I3.ok.bsz I3.sz,λb o e hb=> ?_,λb hb z=> ?_,I3.stack,I3.stkFree⟩,by rw[<-hs4']; rfl,by rw[<-hs4']; exact I3.bare,?_,⟨_,by rw[hh4]; exact hn4,λi x v e1 e2 e3=> ?_⟩,λx c e=> ?_,I3.hok.fresh (Nat.le_refl _),λx c e=>I3.freeC x c (cl_sub x c e),λp hp=>absurd (show p∈([]:List (Addr×Obj)) from hp) (by simp),?_,?_⟩
  ·have hx':(relabel scope X.env).names.lookup x=some .cell\/(relabel scope X.env).names.lookup x=some .free:=hx
   have hf:scope.names.lookup x=some .free:=by
    rcases hx' with z | z
    ·exact qck hcell (.inl rfl) z
    ·exact qck hcell (.inr rfl) z
   obtain ⟨c,hc⟩:=hcel (x,.free) (PySem.mem_of_lookup hf) rfl
   exact ⟨c,qeA _ _ hc (.inr (PySem.mem_of_lookup hf))⟩
  ·have:=(f3 b hb).1
   exact Nat.ne_of_lt (Nat.lt_of_lt_of_le this (show s2.heap.objs.size<=s3.heap.objs.size by rw[sz3]; exact Nat.le_succ _))
  ·rcases (f3 b hb).2.2.2.2.1 with z | z
   ·exact I3.ok.noex b o e z
   ·exact absurd (Nat.lt_of_lt_of_le (Heap.lt_size (I3.ok.bs b o e).1) z) (Nat.lt_irrefl _)
  ·rcases List.mem_cons.mp (I3.stkSub b z) with q | q
   ·exact (f3 b hb).2.2.1 q
   ·exact (f3 b hb).2.2.2.1 q
  ·exact Un.kept (by rw[hh4]; exact old4)
  ·
   have hi':own.length<=i:=by
    by_cases q:own.length<=i
    ·exact q
    ·exfalso
     have e2':(own.map (λ_=>(none:Option V))++fr.map λp=>(σ[p.2]?).join)[i]? =some (some v):=e2
     rw[List.getElem?_append_left (by simpa using q),List.getElem?_map] at e2'
     cases q2:own[i]? with
     | none=>rw[q2] at e2'; cases e2'
     | some z=>rw[q2] at e2'; cases e2'
   have e2':(own.map (λ_=>(none:Option V))++fr.map λp=>(σ[p.2]?).join)[i]? =some (some v):=e2
   rw[List.getElem?_append_right (by simpa using hi'),List.getElem?_map,List.length_map] at e2'
   have e1':(own++fr.map (·.1))[i]? =some x:=e1
   rw[List.getElem?_append_right hi',List.getElem?_map] at e1'
   cases q2:fr[i - own.length]? with
   | none=>rw[q2] at e2'; cases e2'
   | some p=>
    rw[q2] at e1' e2'
    obtain rfl:p.1=x:=Option.some.inj e1'
    have e4:(σ[p.2]?).join=some v:=Option.some.inj e2'
    have e5:σ[p.2]? =some (some v):=by
     cases q3:σ[p.2]? with
     | none=>rw[q3] at e4; cases e4
     | some z=>rw[q3] at e4; exact congrArg some e4
    obtain ⟨g1,g2⟩:=hfr p (List.mem_of_getElem? q2)
    have kx:=hfree (p.1,.free) (PySem.mem_of_lookup g2) rfl
    obtain ⟨mX,hnX,hlX⟩:=I3.loc
    obtain ⟨u,ru,lu⟩:=hlX p.2 p.1 v g1 e5 (kx.elim (λz=>.inr (.inl z)) λz=>.inr (.inr z))
    refine ⟨u,ru,.inr ⟨qdE g2,?_⟩⟩
    rcases lu with ⟨z,_⟩ | ⟨_,c,e6,e7⟩
    ·rcases kx with kx | kx
     ·rw[kx] at z; cases z
     ·rw[kx] at z; cases z
    ·obtain ⟨oc,hoc,hd⟩:=e7
     exact ⟨c,qeA _ _ e6 (.inr (PySem.mem_of_lookup g2)),oc,by rw[hh4]; exact old4 _ _ hoc,hd⟩
  ·obtain ⟨v,oc,hoc,hd⟩:=I3.cell x c (cl_sub x c e)
   exact ⟨v,oc,by rw[hh4]; exact old4 _ _ hoc,hd⟩
  ·exact I3.hok.kept (by rw[hh4]; exact old4)
  ·show (own.map (λ_=>(none:Option V))++fr.map λp=>(σ[p.2]?).join).length=(own++fr.map (·.1)).length
   simp
 have fY: ∀{H':Hp},(∀b∈fp,H' b=none)->∀b∈fp,qhD (qa8 X scope own fr fp s3 H3) [] H' b:=λ{H'} hn b hb=>
  ⟨hn b hb,(Y0.ok.exf b hb).1,Y0.ok.exfs b hb,.inl hb,(Y0.ok.exf b hb).2,λp hp=>absurd (show p∈([]:List (Addr×Obj)) from hp) (by simp)⟩
 have st4:tn 0 s4.heap:=T.keep _ _ _ st3 (by rw[hh4]; exact λb _ o e=>old4 b o e)
 have hcY:(qa8 X scope own fr fp s3 H3).calm=true:=hc
 obtain ⟨hg,ht,he⟩:=hb fp s3 H3
 have loop:codeAny (model X.prog X.w) X.A (.compLoop (.ListComp elt [⟨tg,iter,ifs,0⟩] scope pos) 0 (.ref it) (.ref D) (compEnvC scope (qlP X.env scope.names []) s3.heap.objs.size X.env)) (compPost (model X.prog X.w) X.A X.xe use Qf (.ref D) s3.heap.objs.size) s4:=by
  refine qjv (λn s'=> ∃i σ' H',Inv (qa8 X scope own fr fp s3 H3) [] σ' H' s'/\tn i s'.heap/\(∀b∈fp,H' b=none)/\W i n σ' H') ?_ m0 ⟨0,_,_,Y0,st4,λb hb=>(f3 b hb).2.1,w0⟩
  rintro n s5 ⟨i,σ5,H5,I5,st5,fr5,w5⟩
  rcases qnX i n σ5 H5 w5 with ⟨stop,q⟩ | ⟨go,Ny,Nn,hNy,hNn,step⟩
  ·refine thn (T.done (qa8 X scope own fr fp s3 H3) rfl rfl rfl hcY i [] s5 σ5 H5 _ I5 (fY fr5) st5 stop) λr s6 hq127=> ?_
   obtain ⟨hr,I6⟩:=hq127
   subst hr
   have IX:Inv X pins σ H5 s6:=I3.call' (ch:=fp) I6.os I6.base I6.hok I6.bare λb hb=>⟨(f3 b hb).2.2.2.2.1,(f3 b hb).2.2.1,(f3 b hb).2.2.2.2.2.1,(f3 b hb).2.2.2.2.2.2⟩
   obtain ⟨m6,hn6,_⟩:=I6.loc
   exact fin D _ H5 s6 m6 IX (I3.fpOk (Nat.le_refl _) I6.free) hn6 q
  ·refine thn (T.item (qa8 X scope own fr fp s3 H3) rfl rfl rfl hcY i [] s5 σ5 H5 _ I5 (fY fr5) st5 go) λr s6 hq132=> ?_
   obtain ⟨u,hr,h6⟩:=hq132
   subst hr
   refine thn h6 λ_ s7 hq134=> ?_
   obtain ⟨x,H7,I7,r7,y7,st7,fr7⟩:=hq134
   have I7':=I7.pinned (fY fr7) (T.obj _ _ st7)
   refine thn (hg _ s7 σ5 H7 x u _ I7' r7 (step x H7 y7)) λ_ s8 hq136=> ?_
   obtain ⟨σ8,H8,I8,q8⟩:=hq136
   refine thn (ht _ s8 σ8 H8 _ I8 q8) λb s9 hq137=> ?_
   obtain ⟨H9,I9,q9⟩:=hq137
   have again: ∀{s':Shared} {H':Hp} {m':Nat},Inv (qa8 X scope own fr fp s3 H3) ([]++qfW fp s7.heap) σ8 H' s'->m'<n->W (i+1) m' σ8 H'->∃m,m<n/\∃i σ' H',Inv (qa8 X scope own fr fp s3 H3) [] σ' H' s'/\tn i s'.heap/\(∀b∈fp,H' b=none)/\W i m σ' H':=λ{s' H' m'} I' hm w'=>by
    refine ⟨m',hm,i+1,σ8,H',I'.unpinned,T.keep _ _ _ st7 λb hb o e=>(I'.pin (b,o) (List.mem_append_right _ (List.mem_append_right _ (qcA hb e)))).1,λb hb=> ?_,w'⟩
    obtain ⟨o,e,d⟩:=T.obj _ _ st7 b hb
    exact (I'.pin (b,o) (List.mem_append_right _ (List.mem_append_right _ (qcA hb e)))).2.1
   cases b with
   | false=>
    obtain ⟨m',hm,w'⟩: ∃m',m'<n/\W (i+1) m' σ8 H9:=hNn σ8 H9 (by simpa using q9)
    show ∃m,_
    exact again I9 hm w'
   | true=>
    have q9':te σ8 H9 (Ny σ8):=by simpa using q9
    show wpAny _ _ _ _ _ _
    refine thn (he _ s9 σ8 H9 _ I9 q9') λxv s10 hq150=> ?_
    obtain ⟨y,H10,I10,r10,q10⟩:=hq150
    obtain ⟨ys,hys,hlen,m',hm,w'⟩:=hNy σ8 y H10 q10
    refine thn (qbg _ s10 σ8 H10 (.ref D) [y] (.ref D) [xv] (λ_ H'=> ∃m',m'<n/\W (i+1) m' σ8 H') I10 rfl (.cons r10 .nil) ⟨D,ys,y,rfl,rfl,hys,hlen,m',hm,w'⟩) λ_ s11 hq152=> ?_
    obtain ⟨_,H11,I11,_,m2,hm2,w2⟩:=hq152
    exact again I11 hm2 w2
 refine codeAny_compStart_list ?_ ?_
 ·exact loop
 ·exact T.self X.A 0 s4 _ _ st4 loop
theorem qpd (hc:X.calm=true) (hi:PI X tg iter wi) (hk:scope.kind= .function) (hcell: ∀y∈scope.names,y.2≠.cell) (hnames: ∀y∈scope.names,y.2= .local->scope.names.lookup y.1=some .local)
  (hfree: ∀y∈scope.names,y.2= .free->X.env.kindOf y.1=some .cell\/X.env.kindOf y.1=some .free) (hfr: ∀p∈fr,X.N[p.2]? =some p.1/\scope.names.lookup p.1=some .free)
  (hb: ∀(fp:List Addr) (s3:Shared) (H3:Hp),PG (qa8 X scope own fr fp s3 H3) tg g/\qnU (qa8 X scope own fr fp s3 H3) ifs tt/\PE (qa8 X scope own fr fp s3 H3) elt te)
  (hs: ∀x,foldedSetIterable iter X.env x=pure x:=by intro _; rfl):
  PE X (.ListComp elt [⟨tg,iter,ifs,0⟩] scope pos) (λσ H Q=>qhN wi g tt te own fr σ H λD H'=>Q (.ref D) H'):=by
 intro pins s σ H Q I h
 rw[eval_ListComp]
 refine qgu (use:=none) hc hi hk hcell hnames hfree hfr hb hs I h λD C H' s' m I' f' hn q=> ?_
 obtain ⟨f0,f1,f2,f3,f4,f5⟩:=f'
 exact ⟨m,hn,λh' hs'=>⟨.ref D,H',I'.turned (t':=s'.toks) (λb o hb e=>(hs'.2 b hb).trans e) f0 f1 f3 f4 f5,rfl,q⟩⟩
theorem ps_setcomp {i:Nat} {y:Str} {py spos:Pos} (hc:X.calm=true) (hi:PI X tg iter wi) (hk:scope.kind= .function) (hcell: ∀y∈scope.names,y.2≠.cell) (hnames: ∀y∈scope.names,y.2= .local->scope.names.lookup y.1=some .local)
  (hfree: ∀y∈scope.names,y.2= .free->X.env.kindOf y.1=some .cell\/X.env.kindOf y.1=some .free) (hfr: ∀p∈fr,X.N[p.2]? =some p.1/\scope.names.lookup p.1=some .free)
  (hb: ∀(fp:List Addr) (s3:Shared) (H3:Hp),PG (qa8 X scope own fr fp s3 H3) tg g/\qnU (qa8 X scope own fr fp s3 H3) ifs tt/\PE (qa8 X scope own fr fp s3 H3) elt te)
  (hN:X.N.Nodup) (hiN:X.N[i]? =some y) (hy:X.env.scope.names.lookup y=some .local)
  (hsw:swapsWith (.ListComp elt [⟨tg,iter,ifs,0⟩] scope pos) (some (.Name y py)) spos.line X.env=pure true) (hs: ∀x,foldedSetIterable iter X.env x=pure x:=by intro _; rfl):
  PS X (.Assign [.Name y py] (.ListComp elt [⟨tg,iter,ifs,0⟩] scope pos) spos) (λD σ H=>qhN wi g tt te own fr σ H λd H'=>D.nx (σ.set i (some (.ref d))) H'):=by
 intro pins s σ H D I h
 rw[exec_Assign_Name_used _ _ _ _ hsw]
 refine wpAny_bind (wpAny_standAt (wpAny_bind ?_))
 show wpAny _ _ (do let _ <-comprehension (.ListComp elt [⟨tg,iter,ifs,0⟩] scope pos) scope X.env _ (newList []) false (eval iter X.env) (some (assign (.Name y py) X.env))) _ _ s
 refine wpAny_bind (thn (qgu (use:=some (assign (.Name y py) X.env)) (Qf:=λ_ s'=>SP X pins D .next s') hc hi hk hcell hnames hfree hfr hb hs I h λd C H' s' m I' f' hn q=> ?_) λ_ s' hq=>wpAny_pure (wpAny_pure hq))
 obtain ⟨f0,f1,f2,f3,f4,f5⟩:=id f'
 show wpAny _ _ (assign (.Name y py) X.env (.ref d)) _ _ s'
 refine wpAny_assign_Name (qfN I' hN hiN (.inl hy) (v:=.ref d) rfl (λs'' I'' ⟨a,sb,ha⟩=> ?_) (.inr hy))
 have hne:C≠a:=by
  rcases ha with rfl | ha
  ·exact f1
  ·exact λz=>f4 y a ha z.symm
 refine ⟨m,hn.sameBut sb hne,λh' hs'=>⟨_,H',I''.turned (t':=s''.toks) (λb o hb e=>(hs'.2 b hb).trans e) f0 f1 f3 f4 f5,q⟩⟩
end
theorem qnM {J:It} {n:Nat} {D:Addr} {g:TG} {tt:TT} {te:TE} {σ0:St} {H0:Hp} {Q:Addr->Hp->Prop} (Pv:Nat->List V->St->Hp->Prop) (h0:Pv 0 [] σ0 H0) (hn:n<=sizeLine) (hD: ∀i ys σ H,Pv i ys σ H->H D=some (.lst ys)) (hl: ∀i ys σ H,Pv i ys σ H->ys.length<=i)
  (hgo: ∀i ys σ H,i<n->Pv i ys σ H->J.go i H) (hstop: ∀ys σ H,Pv n ys σ H->J.stop n H/\Q D H)
  (hs: ∀i ys σ H x H',i<n->Pv i ys σ H->J.yld i H x H'->g x σ H' λσ2 H4=>tt σ2 H4 λb H5=>if b=true then te σ2 H5 λy H6=>H6 D=some (.lst ys)/\Pv (i+1) (ys++[y]) σ2 (upd H6 D (.lst (ys++[y]))) else Pv (i+1) ys σ2 H5):
  qr5 J D g tt te σ0 H0 Q:=by
 refine ⟨λi m σ H=>m=n - i/\i<=n/\∃ys,Pv i ys σ H,⟨n,by simp,Nat.zero_le _,[],h0⟩,?_⟩
 rintro i m σ H ⟨rfl,hi,ys,p⟩
 by_cases hlt:i<n
 ·refine .inr ⟨hgo i ys σ H hlt p,λσ2 y H6=>H6 D=some (.lst ys)/\Pv (i+1) (ys++[y]) σ2 (upd H6 D (.lst (ys++[y]))),λσ2 H5=>Pv (i+1) ys σ2 H5,λσ2 y H6 q=>⟨ys,q.1,?_,n - (i+1),by lia,rfl,hlt,_,q.2⟩,λσ2 H5 q=>⟨n - (i+1),by lia,rfl,hlt,ys,q⟩,λx H3 y=>hs i ys σ H x H3 hlt p y⟩
  have:=hl i ys σ H p
  lia
 ·have e:i=n:=by lia
  subst e
  exact .inl (hstop ys σ H p)
end L2
end
section
namespace St
open PySem.W PyProof.Rows
def qeP {α:Type} (N:Nat) (ask:Nat->Nat->Bool):KasT α->(α->Prop)->Prop
 | .ret a,Q=>Q a
 | .ask i j k,Q=>i<N/\j<N/\qeP N ask (k (ask i j)) Q
theorem qb0 {α β:Type} {N:Nat} {ask:Nat->Nat->Bool} {f:α->KasT β} {Q:β->Prop}: ∀{t:KasT α},qeP N ask t (λa=>qeP N ask (f a) Q)->qeP N ask (t.bind f) Q
 | .ret _,h=>h
 | .ask _ _ _,⟨h1,h2,h⟩=>⟨h1,h2,qb0 h⟩
theorem qbn {α:Type} {N:Nat} {ask:Nat->Nat->Bool} {Q Q':α->Prop} (hq: ∀a,Q a->Q' a): ∀{t:KasT α},qeP N ask t Q->qeP N ask t Q'
 | .ret _,h=>hq _ h
 | .ask _ _ _,⟨h1,h2,h⟩=>⟨h1,h2,qbn hq h⟩
def g (p:Array Nat) (i:Nat):Nat:=p.getD i 0
theorem qrG {p q:Array Nat} {i j:Nat} (h:p[i]? =q[j]?):g p i=g q j:=by
 unfold g
 rw[Array.getD_eq_getD_getElem?,Array.getD_eq_getD_getElem?,h]
theorem qng {p:Array Nat} {i j:Nat} (hj:j<=p.size) (t:Nat):g (kas_rev p i j) t=if i<=t/\t<j then g p (i+j - 1 - t) else g p t:=by
 have e:=getElem?_mirror_all (i:=i) hj t
 by_cases h1:i<=t/\t<j
 ·rw[if_pos h1] at e⊢; exact qrG e
 ·rw[if_neg h1] at e⊢; exact qrG e
theorem qui {p:Array Nat} {k l:Nat} (hk:k<p.size) (hl:l<=k) (t:Nat):g (bubble p k (k - l)) t=if t=l then g p k else if l<t/\t<=k then g p (t - 1) else g p t:=by
 have e:=getElem?_bubble hk (k - l) (Nat.sub_le _ _) t
 rw[show k - (k - l)=l by lia] at e
 by_cases h1:t=l
 ·rw[if_pos h1] at e⊢; exact qrG e
 ·rw[if_neg h1] at e⊢
  by_cases h2:l<t/\t<=k
  ·rw[if_pos h2] at e⊢; exact qrG e
  ·rw[if_neg h2] at e⊢; exact qrG e
theorem qfi (p:Array Nat) (i j:Nat):(kas_rev p i j).size=p.size:=mirror_size _ _ _ _
section
variable (N:Nat) (k:Nat->Int)
def L (a b:Nat):Prop:=k a<k b\/(k a=k b/\a<b)
structure Pre (n:Nat) (p:Array Nat):Prop where
 sz:p.size=N
 lo: ∀i,i<n->g p i<n
 hi: ∀i,n<=i->i<N->g p i=i
def Srt (p:Array Nat) (n:Nat):Prop:= ∀i j,i<j->j<n->L k (g p i) (g p j)
def Dsc (p:Array Nat) (n:Nat):Prop:= ∀i j,i<j->j<n->L k (g p j) (g p i)
structure qqe (p:Array Nat) (n q:Nat):Prop where
 pre:Pre N n p
 q1:q+1<=n
 a: ∀i j,i<j->j<n - (q+1)->L k (g p j) (g p i)
 b: ∀i j,i<n - (q+1)->n - (q+1)<=j->j<n->k (g p j)<k (g p i)
 c: ∀i j,n - (q+1)<=i->i<j->j<n->k (g p i)=k (g p j)/\g p i<g p j
def qc6:Nat->Nat->Bool:=λi j=>decide (k i<k j)
end
section
variable {N:Nat} {k:Nat->Int}
theorem Pre.lt {n:Nat} {p:Array Nat} (h:Pre N n p) (hn:n<=N) {i:Nat} (hi:i<N):g p i<N:=by
 by_cases q:i<n
 ·exact Nat.lt_of_lt_of_le (h.lo i q) hn
 ·rw[h.hi i (by lia) hi]; exact hi
theorem L.le {a b:Nat} (h:L k a b):k a<=k b:=by
 rcases h with h | h
 ·lia
 ·lia
theorem Pre.more {n:Nat} {p:Array Nat} (h:Pre N n p) (hn:n<N):Pre N (n+1) p:=
 ⟨h.sz,λi hi=>by
  by_cases q:i<n
  ·exact Nat.lt_succ_of_lt (h.lo i q)
  ·have e:i=n:=by lia
   subst e
   rw[h.hi i (Nat.le_refl _) hn]; lia,λi h1 h2=>h.hi i (by lia) h2⟩
theorem ql4 {p:Array Nat}: ∀(f n:Nat),1<=n->n+f<=N->Pre N n p->Srt k p n->
  qeP N (qc6 k) (kas_asc p f n) λm=>n<=m/\m<=n+f/\Pre N m p/\Srt k p m/\(m=n+f\/k (g p m)<k (g p (m - 1)))
 | 0,n,h1,hf,hp,hs=>⟨Nat.le_refl _,Nat.le_refl _,hp,hs,.inl rfl⟩
 | f+1,n,h1,hf,hp,hs=>by
  refine ⟨hp.lt (by lia) (by lia),hp.lt (by lia) (by lia),?_⟩
  show qeP N (qc6 k) (if qc6 k (g p n) (g p (n - 1))=true then .ret n else kas_asc p f (n+1)) _
  by_cases hc:k (g p n)<k (g p (n - 1))
  ·rw[if_pos (by simpa [qc6] using hc)]
   exact ⟨Nat.le_refl _,by lia,hp,hs,.inr hc⟩
  ·rw[if_neg (by simpa [qc6] using hc)]
   have hs':Srt k p (n+1):=λi j hij hj=>by
    by_cases q:j<n
    ·exact hs i j hij q
    ·have e:j=n:=by lia
     subst e
     have en:=hp.hi j (Nat.le_refl _) (by lia)
     have lt:=hp.lo i hij
     have le:k (g p i)<=k (g p (j - 1)):=by
      by_cases q2:i=j - 1
      ·rw[q2]; exact Int.le_refl _
      ·exact (hs i (j - 1) (by lia) (by lia)).le
     unfold L
     rw[en] at hc⊢
     lia
   refine qbn (λm h=> ?_) (ql4 f (n+1) (by lia) (by lia) (hp.more (by lia)) hs')
   obtain ⟨a,b,c,d,e⟩:=h
   exact ⟨by lia,by lia,c,d,e.elim (λz=>.inl (by lia)) .inr⟩
def fin (p:Array Nat) (n q:Nat):Array Nat:=if q>0 then kas_rev p (n - (q+1)) n else p
theorem qqe.fin {p:Array Nat} {n q:Nat} (h:qqe N k p n q) (hn:n<=N):Pre N n (fin p n q)/\Dsc k (fin p n q) n:=by
 unfold St.fin
 by_cases hq:q>0
 ·rw[if_pos hq]
  have gr:=qng (p:=p) (i:=n - (q+1)) (j:=n) (by rw[h.pre.sz]; exact hn)
  refine ⟨⟨by rw[qfi]; exact h.pre.sz,λi hi=> ?_,λi h1 h2=> ?_⟩,λi j hij hj=> ?_⟩
  ·rw[gr]
   split
   ·exact h.pre.lo _ (by lia)
   ·exact h.pre.lo _ hi
  ·rw[gr,if_neg (by lia)]; exact h.pre.hi i h1 h2
  ·rw[gr,gr]
   have hq1:=h.q1
   by_cases q1:n - (q+1)<=j
   ·rw[if_pos (show n - (q+1)<=j/\j<n from ⟨q1,hj⟩)]
    by_cases q2:n - (q+1)<=i
    ·rw[if_pos (show n - (q+1)<=i/\i<n from ⟨q2,by lia⟩)]
     have e:=h.c (n - (q+1)+n - 1 - j) (n - (q+1)+n - 1 - i) (by lia) (by lia) (by lia)
     exact .inr e
    ·rw[if_neg (by lia)]
     exact .inl (h.b i _ (by lia) (by lia) (by lia))
   ·rw[if_neg (by lia),if_neg (by lia)]
    exact h.a i j hij (by lia)
 ·rw[if_neg hq]
  have e:q=0:=by lia
  subst e
  refine ⟨h.pre,λi j hij hj=> ?_⟩
  have hq1:=h.q1
  by_cases q1:j<n - (0+1)
  ·exact h.a i j hij q1
  ·exact .inl (h.b i j (by lia) (by lia) hj)
theorem qhs: ∀(f:Nat) (p:Array Nat) (n q:Nat),n+f<=N->qqe N k p n q->
  qeP N (qc6 k) (kas_desc f p n q) λr=>n<=r.2.1/\r.2.1<=n+f/\qqe N k r.1 r.2.1 r.2.2
 | 0,p,n,q,hf,h=>⟨Nat.le_refl _,Nat.le_refl _,h⟩
 | f+1,p,n,q,hf,h=>by
  have hq1:=h.q1
  have lt: ∀{i},i<N->g p i<N:=λhi=>h.pre.lt (by lia) hi
  refine ⟨lt (by lia),lt (by lia),?_⟩
  have en:=h.pre.hi n (Nat.le_refl _) (by lia)
  show qeP N (qc6 k) (if qc6 k (g p n) (g p (n - 1))=true then (if q>0 then kas_desc f (kas_rev p (n - (q+1)) n) (n+1) 0 else kas_desc f p (n+1) 0)
   else .ask (g p (n - 1)) (g p n) λd=>if d=true then .ret (p,n,q) else kas_desc f p (n+1) (q+1)) _
  have kle: ∀i,i<n->k (g p (n - 1))<=k (g p i):=λi hi=>by
   by_cases q1:i<n - (q+1)
   ·exact Int.le_of_lt (h.b i (n - 1) q1 (by lia) (by lia))
   ·by_cases q2:i=n - 1
    ·rw[q2]; exact Int.le_refl _
    ·exact Int.le_of_eq (h.c i (n - 1) (by lia) (by lia) (by lia)).1.symm
  by_cases hc:k (g p n)<k (g p (n - 1))
  ·rw[if_pos (by simpa [qc6] using hc)]
   have key:qqe N k (fin p n q) (n+1) 0:=by
    obtain ⟨fp,fd⟩:=h.fin (by lia)
    have e2:=fp.hi n (Nat.le_refl _) (by lia)
    refine ⟨fp.more (by lia),by lia,λi j hij hj=>fd i j hij (by lia),λi j hi h1 h2=> ?_,λi j h1 h2 h3=>by lia⟩
    have ej:j=n:=by lia
    subst ej
    rw[e2]
    rw[en] at hc
    refine Int.lt_of_lt_of_le hc ?_
    have: ∃i',i'<j/\g (fin p j q) i=g p i':=by
     unfold St.fin
     by_cases hq:q>0
     ·rw[if_pos hq,qng (by rw[h.pre.sz]; lia)]
      split
      ·exact ⟨_,by lia,rfl⟩
      ·exact ⟨i,by lia,rfl⟩
     ·rw[if_neg hq]
      exact ⟨i,by lia,rfl⟩
    obtain ⟨i',hi',e3⟩:=this
    rw[e3]
    exact kle i' hi'
   have e:(if q>0 then kas_desc f (kas_rev p (n - (q+1)) n) (n+1) 0 else kas_desc f p (n+1) 0)=kas_desc f (fin p n q) (n+1) 0:=by
    unfold St.fin
    split<;>rfl
   rw[e]
   refine qbn (λr hr=>⟨by lia,by lia,hr.2.2⟩) (qhs f (fin p n q) (n+1) 0 (by lia) key)
  ·rw[if_neg (by simpa [qc6] using hc)]
   refine ⟨lt (by lia),lt (by lia),?_⟩
   show qeP N (qc6 k) (if qc6 k (g p (n - 1)) (g p n)=true then .ret (p,n,q) else kas_desc f p (n+1) (q+1)) _
   by_cases hd:k (g p (n - 1))<k (g p n)
   ·rw[if_pos (by simpa [qc6] using hd)]
    exact ⟨Nat.le_refl _,Nat.le_add_right _ _,h⟩
   ·rw[if_neg (by simpa [qc6] using hd)]
    have ek:k (g p n)=k (g p (n - 1)):=by lia
    have key:qqe N k p (n+1) (q+1):=by
     refine ⟨h.pre.more (by lia),by lia,λi j hij hj=>h.a i j hij (by lia),λi j hi h1 h2=> ?_,λi j h1 h2 h3=> ?_⟩
     ·by_cases e:j=n
      ·subst e
       rw[ek]
       exact h.b i (j - 1) (by lia) (by lia) (by lia)
      ·exact h.b i j (by lia) (by lia) (by lia)
     ·by_cases e:j=n
      ·subst e
       refine ⟨?_,?_⟩
       ·rw[ek]
        by_cases e2:i=j - 1
        ·rw[e2]
        ·exact (h.c i (j - 1) (by lia) (by lia) (by lia)).1
       ·rw[en]; exact h.pre.lo i h2
      ·exact h.c i j (by lia) h2 (by lia)
    exact qbn (λr hr=>⟨by lia,by lia,hr.2.2⟩) (qhs f p (n+1) (q+1) (by lia) key)
def Out (N:Nat) (k:Nat->Int) (r:Nat×Array Nat):Prop:=1<=r.1/\r.1<=N/\Pre N r.1 r.2/\Srt k r.2 r.1
theorem qoE {p:Array Nat} {n:Nat} (h1:1<=n) (hn:n<=N) (hp:Pre N n p) (hd:Dsc k p n):qeP N (qc6 k) (kas_tail3 n N p) (Out N k):=by
 have gr:=qng (p:=p) (i:=0) (j:=n) (by rw[hp.sz]; exact hn)
 refine qb0 (qbn (λm h=> ?_) (ql4 (p:=kas_rev p 0 n) (N - n) n h1 (by lia) ⟨by rw[qfi]; exact hp.sz,λi hi=> ?_,λi h2 h3=> ?_⟩ λi j hij hj=> ?_))
 ·exact ⟨by lia,by lia,h.2.2.1,h.2.2.2.1⟩
 ·rw[gr,if_pos ⟨Nat.zero_le _,hi⟩]; exact hp.lo _ (by lia)
 ·rw[gr,if_neg (by lia)]; exact hp.hi i h2 h3
 ·rw[gr,gr,if_pos ⟨Nat.zero_le _,by lia⟩,if_pos ⟨Nat.zero_le _,hj⟩]
  exact hd _ _ (by lia) (by lia)
theorem qet {p:Array Nat} {n:Nat} (hn:n+1<=N) (h:qqe N k p (n+1) 0):qeP N (qc6 k) (kas_descPart n N p) (Out N k):=by
 refine qb0 (qbn (λr hr=> ?_) (qhs (N - (n+1)) p (n+1) 0 (by lia) h))
 obtain ⟨h1,h2,h3⟩:=hr
 obtain ⟨f1,f2⟩:=h3.fin (by lia)
 have e:(if r.2.2>0 then kas_tail3 r.2.1 N (kas_rev r.1 (r.2.1 - (r.2.2+1)) r.2.1) else kas_tail3 r.2.1 N r.1)=kas_tail3 r.2.1 N (fin r.1 r.2.1 r.2.2):=by
  unfold St.fin
  split<;>rfl
 show qeP N (qc6 k) (if r.2.2>0 then kas_tail3 r.2.1 N (kas_rev r.1 (r.2.1 - (r.2.2+1)) r.2.1) else kas_tail3 r.2.1 N r.1) _
 rw[e]
 exact qoE (by lia) (by lia) f1 f2
theorem qnK {p:Array Nat} (hN:1<=N) (hp:Pre N 1 p):qeP N (qc6 k) (kas_count N p) (Out N k):=by
 refine qb0 (qbn (λn h=> ?_) (ql4 (p:=p) (N - 1) 1 (Nat.le_refl _) (by lia) hp λi j h1 h2=>by lia))
 obtain ⟨h1,h2,h3,h4,h5⟩:=h
 by_cases e:n=N
 ·rw[if_pos (by simpa using e)]
  exact ⟨h1,by lia,h3,h4⟩
 ·rw[if_neg (by simpa using e)]
  have hlt:k (g p n)<k (g p (n - 1)):=h5.resolve_left (by lia)
  by_cases hg:n>1
  ·rw[if_pos hg]
   refine ⟨h3.lt (by lia) (by lia),h3.lt (by lia) (by lia),?_⟩
   show qeP N (qc6 k) (if qc6 k (g p 0) (g p (n - 1))=true then .ret (n,p) else kas_descPart n N (kas_rev p 0 n)) _
   by_cases hc:k (g p 0)<k (g p (n - 1))
   ·rw[if_pos (by simpa [qc6] using hc)]
    exact ⟨h1,by lia,h3,h4⟩
   ·rw[if_neg (by simpa [qc6] using hc)]
    have gr:=qng (p:=p) (i:=0) (j:=n) (by rw[h3.sz]; lia)
    have like: ∀i,i<n->k (g p i)=k (g p (n - 1)):=λi hi=>by
     have a1:k (g p 0)<=k (g p i):=by
      by_cases q:i=0
      ·rw[q]; exact Int.le_refl _
      ·exact (h4 0 i (by lia) hi).le
     have a2:k (g p i)<=k (g p (n - 1)):=by
      by_cases q:i=n - 1
      ·rw[q]; exact Int.le_refl _
      ·exact (h4 i (n - 1) (by lia) (by lia)).le
     lia
    refine qet (by lia) ⟨Pre.more ⟨by rw[qfi]; exact h3.sz,λi hi=> ?_,λi q1 q2=> ?_⟩ (by lia),by lia,λi j hij hj=> ?_,λi j hi q1 q2=> ?_,λi j q1 q2 q3=>by lia⟩
    ·rw[gr,if_pos ⟨Nat.zero_le _,hi⟩]; exact h3.lo _ (by lia)
    ·rw[gr,if_neg (by lia)]; exact h3.hi i q1 q2
    ·rw[gr,gr,if_pos ⟨Nat.zero_le _,by lia⟩,if_pos ⟨Nat.zero_le _,by lia⟩]
     exact h4 _ _ (by lia) (by lia)
    ·have ej:j=n:=by lia
     subst ej
     have hi':i<j:=by simpa using hi
     have e1:g (kas_rev p 0 j) j=g p j:=by rw[gr,if_neg (by lia)]
     have e2:g (kas_rev p 0 j) i=g p (0+j - 1 - i):=by rw[gr,if_pos ⟨Nat.zero_le _,hi'⟩]
     rw[e1,e2,like (0+j - 1 - i) (by lia)]
     exact hlt
  ·rw[if_neg hg]
   have e1:n=1:=by lia
   subst e1
   refine qet (by lia) ⟨h3.more (by lia),by lia,λi j hij hj=>by lia,λi j hi q1 q2=> ?_,λi j q1 q2 q3=>by lia⟩
   have ei:i=0:=by lia
   have ej:j=1:=by lia
   subst ei ej
   exact hlt
theorem qfo {p:Array Nat} {n:Nat} (hn:n<N) (hp:Pre N n p) (hs:Srt k p n): ∀(f l r:Nat),l<=r->r<=n->r - l<=f->(∀i,i<l->k (g p i)<=k (g p n))->(∀i,r<=i->i<n->k (g p n)<k (g p i))->
  qeP N (qc6 k) (kas_place p n f l r) λm=>m<=n/\(∀i,i<m->k (g p i)<=k (g p n))/\∀i,m<=i->i<n->k (g p n)<k (g p i)
 | 0,l,r,h1,h2,h3,hl,hr=>⟨by lia,hl,λi q1 q2=>hr i (by lia) q2⟩
 | f+1,l,r,h1,h2,h3,hl,hr=>by
  unfold kas_place
  by_cases hge:l≥r
  ·rw[if_pos hge]
   exact ⟨by lia,hl,λi q1 q2=>hr i (by lia) q2⟩
  ·rw[if_neg hge]
   refine ⟨hp.lt (by lia) hn,hp.lt (by lia) (by lia),?_⟩
   show qeP N (qc6 k) (if qc6 k (g p n) (g p ((l+r) / 2))=true then kas_place p n f l ((l+r) / 2) else kas_place p n f ((l+r) / 2+1) r) _
   have srt: ∀i j,i<=j->j<n->k (g p i)<=k (g p j):=λi j hij hj=>by
    by_cases q:i=j
    ·rw[q]; exact Int.le_refl _
    ·exact (hs i j (by lia) hj).le
   by_cases hc:k (g p n)<k (g p ((l+r) / 2))
   ·rw[if_pos (by simpa [qc6] using hc)]
    exact qfo hn hp hs f l _ (by lia) (by lia) (by lia) hl λi q1 q2=>Int.lt_of_lt_of_le hc (srt _ _ q1 q2)
   ·rw[if_neg (by simpa [qc6] using hc)]
    refine qfo hn hp hs f _ r (by lia) (by lia) (by lia) (λi q1=> ?_) hr
    have:=srt i ((l+r) / 2) (by lia) (by lia)
    lia
theorem qos: ∀(f:Nat) (p:Array Nat) (n:Nat),n+f=N->Pre N n p->Srt k p n->qeP N (qc6 k) (kas_bin f p n) λp'=>Pre N N p'/\Srt k p' N
 | 0,p,n,hf,hp,hs=>by
  have e:n=N:=by lia
  subst e
  exact ⟨hp,hs⟩
 | f+1,p,n,hf,hp,hs=>by
  refine qb0 (qbn (λl h=> ?_) (qfo (by lia) hp hs n 0 n (by lia) (Nat.le_refl _) (by lia) (λi q=>by lia) λi q1 q2=>by lia))
  obtain ⟨h1,h2,h3⟩:=h
  have gb:=qui (p:=p) (k:=n) (l:=l) (by rw[hp.sz]; lia) h1
  have en:=hp.hi n (Nat.le_refl _) (by lia)
  refine qos f _ (n+1) (by lia) ⟨by rw[bubble_size]; exact hp.sz,λi hi=> ?_,λi q1 q2=> ?_⟩ λi j hij hj=> ?_
  ·rw[gb]
   split
   ·rw[en]; lia
   ·split
    ·exact Nat.lt_succ_of_lt (hp.lo _ (by lia))
    ·exact Nat.lt_succ_of_lt (hp.lo _ (by lia))
  ·rw[gb,if_neg (by lia),if_neg (by lia)]; exact hp.hi i (by lia) q2
  ·rw[gb,gb]
   by_cases c1:j=l
   ·rw[if_pos c1,if_neg (by lia),if_neg (by lia)]
    have a1:=h2 i (by lia)
    have a2:=hp.lo i (by lia)
    unfold L
    rw[en] at a1⊢
    lia
   ·rw[if_neg c1]
    by_cases c2:l<j/\j<=n
    ·rw[if_pos c2]
     by_cases c3:i=l
     ·rw[if_pos c3]
      exact .inl (h3 _ (by lia) (by lia))
     ·rw[if_neg c3]
      by_cases c4:l<i/\i<=n
      ·rw[if_pos c4]; exact hs _ _ (by lia) (by lia)
      ·rw[if_neg c4]; exact hs _ _ (by lia) (by lia)
    ·rw[if_neg c2,if_neg (by lia),if_neg (by lia)]
     exact hs _ _ hij (by lia)
theorem qoM (hN:1<=N):qeP N (qc6 k) (kas_sort N) λp=>Pre N N p/\Srt k p N:=by
 have gr: ∀i,i<N->g (List.toArray (List.range N)) i=i:=λi hi=>by
  unfold g
  rw[Array.getD_eq_getD_getElem?]
  simp[hi]
 refine qb0 (qbn (λr h=> ?_) (qnK hN ⟨by simp,λi hi=> ?_,λi h1 h2=>gr i h2⟩))
 ·obtain ⟨h1,h2,h3,h4⟩:=h
  by_cases c:r.1<N
  ·rw[if_pos c,show max r.1 1=r.1 by lia]
   exact qos _ _ _ (by lia) h3 h4
  ·rw[if_neg c]
   have e:r.1=N:=by lia
   rw[e] at h3 h4
   exact ⟨h3,h4⟩
 ·rw[gr i (by lia)]; exact hi
end
end St
end
section
namespace St
open PySem PySem.W PySem.Calls PyProof.Rows
theorem qlc {α:Type} {N:Nat} {ask:Nat->Nat->Bool} {cmp:Nat->Nat->(Bool->Shared->Prop)->Shared->Prop} {Q:α->Shared->Prop} {Q':α->Prop} {s:Shared}
  (hc: ∀i j (C:Bool->Shared->Prop),i<N->j<N->C (ask i j) s->cmp i j C s) (hq: ∀a,Q' a->Q a s): ∀{t:KasT α},qeP N ask t Q'->t.kasWp cmp Q s
 | .ret a,h=>hq a h
 | .ask i j k,⟨h1,h2,h⟩=>hc i j _ h1 h2 (qlc hc hq h)
def qeC (kz:List Int) (n:Nat) (p:Array Nat):Prop:=Pre n n p/\Srt (λi=>kz.getD i 0) p n
abbrev Kp (h h':Heap):Prop:= ∀b o,h.get? b=some o->h'.get? b=some o
section
variable {prog:Program} {w:World} {A:Around} {E:Value->Shared->Prop} {s:Shared} {l:Addr} {vs:List Value} {kz:List Int} {Q:Value->Shared->Prop}
theorem get_none {h:Heap} {a:Addr} (x:h.objs.size<=a):h.get? a=none:=Heap.get?_none_of_le x
end
end St
end
section
namespace L2
open PySem PySem.Spec PyProof.Rows
def quD (c:Addr) (qual:Str):HO:=.ext λh=>h.CodeRec (.ref c) qual
def Tab (P:Addr) (pos:Pos) (qual:Str) (H:Hp):Prop:=
 ∃ps,H P=some (.tbl ps)/\PySem.TriplesOk ps.toList/\(PySem.codeAmong pos ps.toList=none\/∃c,PySem.codeAmong pos ps.toList=some (.ref c)/\H c=some (quD c qual))
end L2
end
section
namespace L2
open PySem PySem.Spec PyProof.Rows
theorem qjK {xs:List V} {us:List Value} (r:Vals xs us) (j:Nat):RelV (xs.getD j .non) (us.getD j .none):=by
 induction r generalizing j with
 | nil=>exact rfl
 | cons a t ih=>
  cases j with
  | zero=>exact a
  | succ j=>simpa using ih j
theorem vals_pick {xs:List V} {us:List Value} (r:Vals xs us): ∀l:List Nat,Vals (l.map λj=>xs.getD j .non) (l.map λj=>us.getD j .none)
 | []=>.nil
 | j::l=>.cons (qjK r j) (vals_pick r l)
end L2
end
section
namespace L2
open PySem PySem.Spec PyProof.Rows
section
variable {X:Cx}
theorem qg2:OpR X (compareOp .IsNot) (λx y H Q=> ∃c d,x= .bl c/\y= .bl d/\Q (.bl (c != d)) H):=by
 intro pins s σ H x y v u Q I rx ry h
 obtain ⟨c,d,rfl,rfl,q⟩:=h
 cases rx; cases ry
 exact isnot_bool ⟨.bl (c != d),H,I,rfl,q⟩
theorem qkC:OpR X (compareOp .LtE) (λx y H Q=> ∃i j,x= .str i/\y= .str j/\Q (.bl (!decide (j.cps.toList<i.cps.toList))) H):=by
 intro pins s σ H x y v u Q I rx ry h
 obtain ⟨i,j,rfl,rfl,q⟩:=h
 obtain ⟨t,rfl⟩:=rx
 obtain ⟨t',rfl⟩:=ry
 exact PySem.P.le_str ⟨.bl _,H,I,rfl,q⟩
theorem qhH: ∀{bs:List Bool} {us:List Value},Vals (bs.map V.bl) us->us=bs.map Value.bool
 | [],_,.nil=>rfl
 | b::bs,_,.cons r t=>by
  have e:_=Value.bool b:=r
  rw[e,qhH t]
  rfl
theorem qkh (bs:List Bool):(List.range bs.length).all (λi=>bs.getD i false)=bs.all id:=by
 rw[Bool.eq_iff_iff,List.all_eq_true,List.all_eq_true]
 constructor
 ·intro h b hb
  obtain ⟨i,hi,rfl⟩:=List.mem_iff_getElem.mp hb
  have:=h i (List.mem_range.mpr hi)
  simpa [List.getD_eq_getElem?_getD,hi] using this
 ·intro h i hi
  have hi':=List.mem_range.mp hi
  have:=h bs[i] (List.getElem_mem hi')
  simpa [List.getD_eq_getElem?_getD,hi'] using this
theorem qdY (hc:X.calm=true):qcH X (.builtin "all") (λxs H Q=> ∃(a:Addr) (bs:List Bool),xs=[.ref a]/\SqL X.K H a (bs.map V.bl)/\Q (.bl (bs.all id)) H):=by
 intro pins s σ H xs us Q I r h
 obtain ⟨a,bs,rfl,hS,q⟩:=h
 obtain ⟨u,rfl,ru⟩:=qd0 r
 cases ru
 obtain ⟨its,rv,pl,hz⟩:=I.list hS
 have e:=qhH rv
 have hlt:a<s.heap.objs.size:=Heap.lt_size pl.isList.choose_spec.1
 have hh:X.A.in1.handled=none:=I.ok.hd hc
 refine call_all_walk (wpAny_pyIter_list pl.isList ?_)
 refine ⟨s.heap.objs.size,_,_,its.toArray.size,_,_,λi=>bs.getD i false,rfl,Walks.list hh s.heap.objs.size a (Nat.ne_of_lt hlt) its.toArray,⟨⟨_,Heap.get?_push_size _ rfl,rfl,rfl⟩,pl.isList.at λo e=>Heap.get?_push_of_some _ e⟩,λi v s' Q' E' hv hq=> ?_,λh' tk k=> ?_⟩
 ·rw[e] at hv
  have hv':(bs.map Value.bool)[i]? =some v:=by simpa using hv
  rw[List.getElem?_map] at hv'
  cases z:bs[i]? with
  | none=>rw[z] at hv'; cases hv'
  | some b=>
   rw[z] at hv'
   cases hv'
   have eb:bs.getD i false=b:=by simp[List.getD_eq_getElem?_getD,z]
   have hq':Q' (bs.getD i false) s':=hq
   rw[eb] at hq'
   exact wpAny_truthy_bool hq'
 ·have en:its.toArray.size=bs.length:=by rw[e]; simp
  rw[en,qkh]
  refine ⟨.bl (bs.all id),H,?_,rfl,q⟩
  refine I.kept (t':=tk) λb o eo=>k b o ?_ (Heap.get?_push_of_some _ eo)
  intro z
  have:b=s.heap.objs.size:=by simpa using z
  exact Nat.ne_of_lt (Heap.lt_size eo) this
def VEq (X:Cx) (H:Hp) (x y:V) (b:Bool):Prop:= ∀(pins:List (Addr×Obj)) (σ:St) (s:Shared) (u v:Value),Inv X pins σ H s->RelV x u->RelV y v->SeqAt.EqAt X.A.in1 s u v b
theorem qg3 (hu:X.A.units<cLine):OpR X (compareOp .Eq) (λx y H Q=> ∃a b xs ys,x= .ref a/\y= .ref b/\SqL X.K H a xs/\SqL X.K H b ys/\
  ((xs.length≠ys.length/\Q (.bl false) H)\/(xs.length=ys.length/\∃e:Nat->Bool,(∀i x y,xs[i]? =some x->ys[i]? =some y->VEq X H x y (e i))/\Q (.bl ((List.range xs.length).all e)) H))):=by
 intro pins s σ H x y v u Q I rx ry h
 obtain ⟨a,b,xs,ys,rfl,rfl,ha,hb,h⟩:=h
 cases rx; cases ry
 obtain ⟨i1,r1,p1,z1⟩:=I.list ha
 obtain ⟨i2,r2,p2,z2⟩:=I.list hb
 have l1:=r1.length
 have l2:=r2.length
 rcases h with ⟨hne,q⟩ | ⟨heq,e,he,q⟩
 ·exact SeqAt.eq_list_lengthsAt p1.isList p2.isList (by simp; lia) hu ⟨.bl false,H,I,rfl,q⟩
 ·refine SeqAt.eq_listAt (e:=e) p1.isList p2.isList (by simp; lia) hu (λj h1 h2=> ?_) ⟨.bl _,H,I,rfl,?_⟩
  ·have h1':j<i1.length:=by simpa using h1
   have h2':j<i2.length:=by simpa using h2
   have hx:xs[j]? =some xs[j]:=List.getElem?_eq_getElem (by lia)
   have hy:ys[j]? =some ys[j]:=List.getElem?_eq_getElem (by lia)
   obtain ⟨u1,e1,q1⟩:=r1.get hx
   obtain ⟨u2,e2,q2⟩:=r2.get hy
   have e3:i1.toArray[j]=u1:=by
    rw[List.getElem?_eq_getElem h1'] at e1
    simpa using Option.some.inj e1
   have e4:i2.toArray[j]=u2:=by
    rw[List.getElem?_eq_getElem h2'] at e2
    simpa using Option.some.inj e2
   rw[e3,e4]
   exact he j _ _ hx hy pins σ s u1 u2 I q1 q2
  ·rw[List.size_toArray,<-l1]; exact q
end
end L2
end
section
namespace L2
open PySem PySem.Spec PyProof.Rows
def Its (z:Str):It:=⟨λi _=>i<z.cps.size,λi H x H'=>H'=H/\∃c,z.cps[i]? =some c/\x= .str ⟨#[c]⟩,λi _=>z.cps.size<=i⟩
theorem qmk {P:Program} {w:World} {K:PySem.W.Frag} {tg:Expr} {z:Str} {it:Addr} {ty:String} {t:Tok} (hty:ty= "str_ascii_iterator" \/ty= "str_iterator"):qqd P w K tg (Its z) [it] it (λi h=>h.IsStrIter it ty z t i) where
 mem:=by simp
 obj:=λi h st b hb=>by
  have e:b=it:=by simpa using hb
  subst e
  obtain ⟨o,e,c,d⟩:=st
  exact ⟨o,e,λv q=>by rw[d] at q; cases q⟩
 keep:=λi h h' st k=>by
  obtain ⟨o,e,r⟩:=st
  exact ⟨o,k it (by simp) _ e,r⟩
 item:=by
  intro X hP hw hK hc i pins s σ H E I hf st hg
  subst hP hw hK
  obtain ⟨f0,f1,f2,f3,f4,f5⟩:=hf it (by simp)
  have hcx:z.cps[i]? =some z.cps[i]:=Array.getElem?_eq_getElem hg
  have fin: ∀h',h'.IsStrIter it ty z t (i+1)->Heap.SameBut it s.heap h'->∃u,some (Value.str ⟨#[z.cps[i]]⟩ s.toks)=some u/\wpAny (model X.prog X.w) X.A (letOwnedTupleGo tg (.ref it) u) (λ_ s2=> ∃x H',Inv X pins σ H' s2/\RelV x u/\(Its z).yld i H x H'/\s2.heap.IsStrIter it ty z t (i+1)/\∀b∈[it],H' b=none) E { s with heap:=h',toks:=s.toks+1 }:=λh' st' sb=>by
   have I1:Inv X pins σ H { s with heap:=h',toks:=s.toks+1 }:=I.turned (λb o hb e=>(sb.2 b hb).trans e) f0 f1 f3 f4 f5
   obtain ⟨o,e,c,d⟩:=id st'
   refine ⟨_,rfl,qnf (s:={ s with heap:=h',toks:=s.toks+1 }) e c d ?_ ⟨.str ⟨#[z.cps[i]]⟩,H,I1,⟨_,rfl⟩,⟨rfl,_,hcx,rfl⟩,st',λb hb=>(hf b hb).1⟩⟩
   rcases hty with rfl | rfl<;>decide
  rcases hty with rfl | rfl
  ·exact wpAny_pyNext_ascii_item st hcx λh' st' sb=>fin h' st' sb
  ·exact wpAny_pyNext_wide_item st hcx λh' st' sb=>fin h' st' sb
 done:=by
  intro X hP hw hK hc i pins s σ H E I hf st hg
  subst hP hw hK
  obtain ⟨f0,f1,f2,f3,f4,f5⟩:=hf it (by simp)
  have hcx:z.cps[i]? =none:=Array.getElem?_eq_none hg
  rcases hty with rfl | rfl
  ·exact wpAny_pyNext_ascii_end (I.ok.hd hc) st hcx λh' eb=>⟨rfl,I.turned (t':=s.toks) (λb o hb e=>eb b o hb e) f0 f1 f3 f4 f5⟩
  ·exact wpAny_pyNext_wide_end (I.ok.hd hc) st hcx λh' eb=>⟨rfl,I.turned (t':=s.toks) (λb o hb e=>eb b o hb e) f0 f1 f3 f4 f5⟩
 self:=λA i s Q E st h=>by
  rcases hty with rfl | rfl
  ·exact wpAny_pyIter_striter_ascii st h
  ·exact wpAny_pyIter_striter_wide st h
def qvO (te:TE):TI:=λσ H R=>te σ H λx H1=> ∃z,x= .str z/\R (Its z) H1
theorem qq4 {X:Cx} {tg e:Expr} {te:TE} (he:PE X e te):PI X tg e (qvO te):=by
 intro pins s σ H R I h
 refine thn (he pins s σ H _ I h) λv s1 hq48=> ?_
 obtain ⟨x,H1,I1,r1,z,hz,q⟩:=hq48
 subst hz
 obtain ⟨t,rfl⟩:=r1
 have fin: ∀ty:String,(ty= "str_ascii_iterator" \/ty= "str_iterator")->PIE X pins σ tg R (.ref s1.heap.objs.size) { s1 with heap:=s1.heap.push { cls:=.type ty,data:=.fields #[.str z t,.int 0 0] } }:=λty hty=>
  ⟨_,_,_,Its z,H1,rfl,I1.kept (t':=s1.toks) λb o e=>Heap.get?_push_of_some _ e,qmk (t:=t) hty,⟨_,Heap.get?_push_size _ rfl,rfl,rfl⟩,λb hb=>by
   have e:b=s1.heap.objs.size:=by simpa using hb
   subst e
   exact I1.fpOk (Nat.le_refl _) (I1.hok.fresh (Nat.le_refl _)),q⟩
 cases ha:z.cps.all (· <128)
 ·exact wpAny_pyIter_wide ha (fin _ (.inr rfl))
 ·exact wpAny_pyIter_ascii ha (fin _ (.inl rfl))
theorem Inv.turnT {X:Cx} {pins:List (Addr×Obj)} {σ:St} {H:Hp} {s:Shared} {h':Heap} {t':Nat} {ch:List Addr} {T:Addr} {xs:List V} (I:Inv X pins σ H s) (hch: ∀b∈ch,qhD X pins H b) (k: ∀b o,b∉ch->s.heap.get? b=some o->h'.get? b=some o)
  (hT:s.heap.objs.size<=T) (new:qba X.prog X.w (upd H T (.tup xs)) h' T (.tup xs)):Inv X pins σ (upd H T (.tup xs)) { s with heap:=h',toks:=t' }:=by
 have nT: ∀b o,s.heap.get? b=some o->b≠T:=λb o e=>Nat.ne_of_lt (Nat.lt_of_lt_of_le (Heap.lt_size e) hT)
 have nTt: ∀b u,H b=some u->b≠T:=λb u e z=>by rw[z,I.hok.fresh hT] at e; cases e
 have nch: ∀b u,H b=some u->b∉ch:=λb u e z=>by rw[(hch b z).1] at e; cases e
 refine I.step (g':=s.gens) (d':=s.drawn) (ch:=ch) (λb hb=> ?_) (λb o _ _ hc e _=>k b o hc e) (λb o _ _ hc e _=>⟨o.slots,k b o hc e⟩) (λb o _ e n=>by rw[qaj (nT b o e)]; exact n) (λb o hc e=>⟨o,k b o hc e⟩)
  (λb ys e=>by rw[qaj (nTt b _ e)]; exact e) (λb o u e=>by rw[qaj (nTt b _ e)]; exact e) (λb ps e=>⟨#[],by rw[qaj (nTt b _ e),e]; simp⟩) (λm hm=> ?_) (λb u e=> ?_) I.bare
 ·obtain ⟨_,f1,_,f3,f4,f5⟩:=hch b hb
  exact ⟨f3,f1,f4,f5⟩
 ·obtain ⟨o,es,ep,ho,r⟩:=hm
  exact ⟨o,es,ep,k _ o (λz=>(hch _ z).2.1 rfl) ho,r⟩
 ·by_cases z:b=T
  ·subst z
   rw[qal] at e; cases e
   exact new
  ·rw[qaj z] at e
   refine (I.hok b u e).stay (λc v hc q=>k c v ?_ q) (λc q=>by rw[qaj (nTt c _ q)]; exact q) λc ys q=>by rw[qaj (nTt c _ q)]; exact q
   rcases hc with rfl | hc
   ·exact nch _ _ e
   ·exact nch _ _ hc
theorem Inv.turnL {X:Cx} {pins:List (Addr×Obj)} {σ:St} {H:Hp} {s:Shared} {h':Heap} {t':Nat} {ch:List Addr} (I:Inv X pins σ H s) (hch: ∀b∈ch,qhD X pins H b) (k: ∀b o,b∉ch->s.heap.get? b=some o->h'.get? b=some o):
  Inv X pins σ H { s with heap:=h',toks:=t' }:=by
 have nch: ∀b u,H b=some u->b∉ch:=λb u e z=>by rw[(hch b z).1] at e; cases e
 refine I.step (g':=s.gens) (d':=s.drawn) (ch:=ch) (λb hb=> ?_) (λb o _ _ hc e _=>k b o hc e) (λb o _ _ hc e _=>⟨o.slots,k b o hc e⟩) (λb o _ e n=>n) (λb o hc e=>⟨o,k b o hc e⟩)
  (λb ys e=>e) (λb o u e=>e) (λb ps e=>⟨#[],by rw[e]; simp⟩) (λm hm=> ?_) (λb u e=> ?_) I.bare
 ·obtain ⟨_,f1,_,f3,f4,f5⟩:=hch b hb
  exact ⟨f3,f1,f4,f5⟩
 ·obtain ⟨o,es,ep,ho,r⟩:=hm
  exact ⟨o,es,ep,k _ o (λz=>(hch _ z).2.1 rfl) ho,r⟩
 ·refine (I.hok b u e).stay (λc v hc q=>k c v ?_ q) (λc q=>q) λc ys q=>q
  rcases hc with rfl | hc
  ·exact nch _ _ e
  ·exact nch _ _ hc
def Itz (K:PySem.W.Frag) (l1 l2:Addr):It:=
 ⟨λi H=> ∃xs ys,SqL K H l1 xs/\SqL K H l2 ys/\i<xs.length/\i<ys.length,
   λi H v H'=> ∃T x y,v= .ref T/\H T=none/\H'=upd H T (.tup [x,y])/\(∀xs,SqL K H l1 xs->xs[i]? =some x)/\∀ys,SqL K H l2 ys->ys[i]? =some y,
   λi H=> ∃xs ys,SqL K H l1 xs/\SqL K H l2 ys/\i=min xs.length ys.length⟩
def quH (z TI TO i1 i2 l1 l2:Addr) (i:Nat) (h:Heap):Prop:=
 IsZip h z TI TO .none/\IsPair h TI (.ref i1) (.ref i2)/\(∃a b,IsPair h TO a b)/\h.IsListIter i1 l1 i/\h.IsListIter i2 l2 i
theorem qmj {P:Program} {w:World} {K:PySem.W.Frag} {elts:List Expr} {k:Nat} {pos:Pos} {z TI TO i1 i2 l1 l2:Addr} (D:ZipApart z TI TO i1 i2 l1 l2):qqd P w K (.Tuple elts k pos) (Itz K l1 l2) [z,TI,TO,i1,i2] z (quH z TI TO i1 i2 l1 l2) where
 mem:=by simp
 obj:=λi h st b hb=>by
  obtain ⟨a1,a2,⟨x,y,a3⟩,⟨o4,a4,c4,d4⟩,⟨o5,a5,c5,d5⟩⟩:=st
  have hb':b=z\/b=TI\/b=TO\/b=i1\/b=i2:=by simpa using hb
  rcases hb' with rfl | rfl | rfl | rfl | rfl
  ·exact ⟨_,a1,λv q=>by have q':Data.fields _=Data.cell v:=q; cases q'⟩
  ·exact ⟨_,a2,λv q=>by have q':Data.seq _ _=Data.cell v:=q; cases q'⟩
  ·exact ⟨_,a3,λv q=>by have q':Data.seq _ _=Data.cell v:=q; cases q'⟩
  ·exact ⟨o4,a4,λv q=>by rw[d4] at q; cases q⟩
  ·exact ⟨o5,a5,λv q=>by rw[d5] at q; cases q⟩
 keep:=λi h h' st kk=>by
  obtain ⟨a1,a2,⟨x,y,a3⟩,a4,a5⟩:=st
  exact ⟨kk z (by simp) _ a1,kk TI (by simp) _ a2,⟨x,y,kk TO (by simp) _ a3⟩,a4.at λo e=>kk i1 (by simp) o e,a5.at λo e=>kk i2 (by simp) o e⟩
 item:=by
  intro X hP hw hK hc i pins s σ H E I hf st hg
  subst hP hw hK
  obtain ⟨xs,ys,h1,h2,g1,g2⟩:=hg
  obtain ⟨its1,r1,p1,z1⟩:=I.list h1
  obtain ⟨its2,r2,p2,z2⟩:=I.list h2
  have e1:=r1.length
  have e2:=r2.length
  have W:=WalksT.zip2 (prog:=X.prog) (w:=X.w) (I.ok.hd hc) z TI TO i1 i2 l1 l2 D its1.toArray its2.toArray
  obtain ⟨a1,a2,a3,a4,a5⟩:=st
  have hch: ∀b∈[z,TO,i1,i2],qhD X pins H b:=λb hb=>hf b (by
   have hb':b=z\/b=TO\/b=i1\/b=i2:=by simpa using hb
   rcases hb' with rfl | rfl | rfl | rfl<;>simp)
  refine W.item i s _ E (by simp; lia) ⟨a1,a2,a3,a4,a5,p1.isList,p2.isList⟩ λT vals h' tk hv hT hti hmid kp=> ?_
  obtain ⟨u1,u2,q1,q2,rfl⟩:=hv
  refine ⟨_,rfl,W.go elts k pos i T _ _ E hmid λh2' st' kp2=> ?_⟩
  obtain ⟨b1,b2,b3,b4,b5,_,_⟩:=st'
  have nT:T∉[z,TO,i1,i2]:=W.apart i T h' hmid
  obtain ⟨ox,hox,rox⟩:=hti
  have hx1:xs[i]? =some xs[i]:=List.getElem?_eq_getElem g1
  have hy1:ys[i]? =some ys[i]:=List.getElem?_eq_getElem g2
  obtain ⟨w1,ew1,rw1⟩:=r1.get hx1
  obtain ⟨w2,ew2,rw2⟩:=r2.get hy1
  have eu1:its1[i]? =some u1:=by simpa using q1
  have eu2:its2[i]? =some u2:=by simpa using q2
  rw[eu1] at ew1; cases ew1
  rw[eu2] at ew2; cases ew2
  have I1:Inv X pins σ (upd H T (.tup [xs[i],ys[i]])) { s with heap:=h2',toks:=tk }:=by
   refine I.turnT hch (λb o hb e=>kp2 b o hb (kp b o hb e)) hT ⟨by show 2<=sizeLine; decide,[u1,u2],.cons rw1 (.cons rw2 .nil),ox,kp2 T ox nT hox,rox⟩
  refine ⟨.ref T,_,I1,rfl,⟨T,_,_,rfl,I.hok.fresh hT,rfl,λxs' hx'=>by rw[I.list_inj hx' h1]; exact hx1,λys' hy'=>by rw[I.list_inj hy' h2]; exact hy1⟩,⟨b1,b2,b3,b4,b5⟩,λb hb=> ?_⟩
  obtain ⟨o,eo,_⟩: ∃o,s.heap.get? b=some o/\True:=by
   have hb':b=z\/b=TI\/b=TO\/b=i1\/b=i2:=by simpa using hb
   obtain ⟨x,y,a3'⟩:=a3
   obtain ⟨o4,a4',_⟩:=a4
   obtain ⟨o5,a5',_⟩:=a5
   rcases hb' with rfl | rfl | rfl | rfl | rfl
   ·exact ⟨_,a1,trivial⟩
   ·exact ⟨_,a2,trivial⟩
   ·exact ⟨_,a3',trivial⟩
   ·exact ⟨_,a4',trivial⟩
   ·exact ⟨_,a5',trivial⟩
  rw[qaj (Nat.ne_of_lt (Nat.lt_of_lt_of_le (Heap.lt_size eo) hT))]
  exact (hf b hb).1
 done:=by
  intro X hP hw hK hc i pins s σ H E I hf st hg
  subst hP hw hK
  obtain ⟨xs,ys,h1,h2,g1⟩:=hg
  obtain ⟨its1,r1,p1,z1⟩:=I.list h1
  obtain ⟨its2,r2,p2,z2⟩:=I.list h2
  have e1:=r1.length
  have e2:=r2.length
  have W:=WalksT.zip2 (prog:=X.prog) (w:=X.w) (I.ok.hd hc) z TI TO i1 i2 l1 l2 D its1.toArray its2.toArray
  have hch: ∀b∈[z,TO,i1,i2],qhD X pins H b:=λb hb=>hf b (by
   have hb':b=z\/b=TO\/b=i1\/b=i2:=by simpa using hb
   rcases hb' with rfl | rfl | rfl | rfl<;>simp)
  obtain ⟨a1,a2,a3,a4,a5⟩:=st
  have en:min its1.toArray.size its2.toArray.size=i:=by simp; lia
  rw[en] at W
  exact W.done s _ E ⟨a1,a2,a3,a4,a5,p1.isList,p2.isList⟩ λh' tk kp=>⟨rfl,I.turnL hch kp⟩
 self:=λA i s Q E st h=>wpAny_pyIter_zip st.1 h
end L2
end
section
namespace L2
open PySem PySem.Spec PyProof.Rows
def qjE (mg:Str->Option Value) (base:Heap):Prop:= ∃bm ob,mg "__builtins__" =some (.ref bm)/\bm≠builtinsNs/\base.get? bm=some ob/\ob.cls= .type "module" /\ob.dict=some builtinsNs/\ob.data= .plain
end L2
end
section
namespace L2
open PySem PySem.Spec PySem.Calls PyProof.Rows
theorem qba.obj {P:Program} {w:World} {H:Hp} {h:Heap} {a:Addr} {o:HO} (x:qba P w H h a o): ∃u,h.get? a=some u:=by
 cases o with
 | lst xs=>obtain ⟨_,_,_,_,e⟩:=x; exact ⟨_,e⟩
 | tup xs=>obtain ⟨_,_,_,p⟩:=x; exact p.imp λ_ q=>q.1
 | dK kvs=>obtain ⟨_,_,_,_,o,_,_,e,_⟩:=x; exact ⟨_,e⟩
 | dT kvs=>obtain ⟨_,_,_,_,o,_,_,e,_⟩:=x; exact ⟨_,e⟩
 | set S n=>obtain ⟨o,_,_,_,e,_⟩:=x; exact ⟨_,e⟩
 | ins C dx fs=>obtain ⟨_,_,_,e,_⟩:=x; exact ⟨_,e⟩
 | own y=>obtain ⟨_,e⟩:=x; exact ⟨_,e⟩
 | xd fs=>obtain ⟨_,⟨_,_,_,e,_⟩,_⟩:=x; exact ⟨_,e⟩
 | rng lo hi=>obtain ⟨_,_,_,e⟩:=x; exact ⟨_,e⟩
 | frz ob u=>obtain ⟨e,_⟩:=x; exact ⟨_,e⟩
 | tbl ps=>exact ⟨_,(show h.get? a=some _ from x)⟩
 | met f y=>exact ⟨_,(show h.get? a=some _ from x)⟩
 | ext φ=>obtain ⟨_,⟨_,e⟩,_⟩:=x; exact ⟨_,e⟩
structure qu2 (P:Program) (w:World) (outer:List Env) (H:Hp) (s:Shared) (H':Hp) (B h':Heap):Prop where
 hok:HOk P w H' B
 st:B.StaysIn h'
 bk: ∀b o,s.heap.get? b=some o->H b=none->b∉frs outer->B.get? b=some o
 th: ∀b o,s.heap.get? b=some o->b∉frs outer->∃o',B.get? b=some o'
 sl: ∀b o,s.heap.get? b=some o->b∈frs outer->(∀vs,o.data≠.fields vs)/\∃sl,h'.get? b=some { o with slots:=sl }
 free: ∀b o,s.heap.get? b=some o->H b=none->H' b=none
 tups: ∀b xs,H b=some (.tup xs)->H' b=some (.tup xs)
 frzs: ∀b o u,H b=some (.frz o u)->H' b=some (.frz o u)
 tbls: ∀b ps,H b=some (.tbl ps)->∃more,H' b=some (.tbl (ps++more))
structure Fly (P:Program) (w:World) (outer:List Env) (H:Hp) (s:Shared) (C:Addr) (H':Hp) (a t:Addr) (B:Heap) (s':Shared):Prop where
 os:s'.os=s.os
 bare:AllBare s'.gens
 fly:Heap.FlyingW B outer a (.ref C) (.ref t) s'.heap
 lies:qu2 P w outer H s H' B s'.heap
 new:H' a=none
structure Held (P:Program) (w:World) (outer:List Env) (H:Hp) (s:Shared) (C:Addr) (H':Hp) (a t L:Addr) (B:Heap) (s':Shared):Prop where
 os:s'.os=s.os
 bare:AllBare s'.gens
 held:Heap.HeldW B outer a (.ref C) (.ref t) L s'.heap
 lies:qu2 P w outer H s H' B s'.heap
 new:H' a=none
end L2
end
section
namespace L2
open PySem PySem.Spec PySem.Calls PyProof.Rows
abbrev Cx.within (X:Cx) (a:Addr):Cx:={ X with A:=X.A.mark (some (.ref a)),calm:=false,xe:=λ_ _=>False }
end L2
end
section
namespace L2
open PySem PySem.Spec PySem.Calls PyProof.Rows
section
variable {prog:Program} {w:World} {A:Around} {E:Value->Shared->Prop} {h:Heap} {g:Array GenState} {d:Drawn} {t:Nat} {os:OsState} {a:Addr} {o:Obj}
 {nm q:Str} {C N:Addr} {bs bm:List Value} {hdct:Bool} {sn:List Str} {sub:List Value} {ab:Bool} {col:Option Bool} {dd:Option Addr} {k0 k1 k2 k3 k5:Option Value} {newId:String} {mN:Str->Option Value}
end
end L2
end
section
namespace L2
open PySem PySem.Spec PySem.Calls PyProof.Rows
end L2
end
section
namespace L2
open PySem PySem.Spec PyProof.Rows
section
variable {κ:Type} [DecidableEq κ]
def qfd (kvs:List (κ×V)) (k:κ):Option V:=(kvs.find? λkv=>decide (kv.1=k)).map (·.2)
def qgK (kvs:List (κ×V)) (k:κ) (v:V):List (κ×V):=
 if (kvs.any λkv=>decide (kv.1=k))=true then kvs.map (λkv=>if kv.1=k then (kv.1,v) else kv) else kvs++[(k,v)]
theorem qdN {p:κ×V} {r:List (κ×V)} {k:κ} (e:p.1=k):qfd (p::r) k=some p.2:=by simp[qfd,List.find?_cons,e]
theorem qdO {p:κ×V} {r:List (κ×V)} {k:κ} (e: ¬p.1=k):qfd (p::r) k=qfd r k:=by simp[qfd,List.find?_cons,e]
theorem qhI (k:κ): ∀kvs:List (κ×V),(kvs.any λkv=>decide (kv.1=k))=(qfd kvs k).isSome
 | []=>rfl
 | p::r=>by
  rw[List.any_cons]
  by_cases e:p.1=k
  ·simp only[qdN e,decide_eq_true e,Bool.true_or,Option.isSome_some]
  ·rw[qdO e,decide_eq_false e,Bool.false_or]; exact qhI k r
theorem qeh (kvs:List (κ×V)) (k:κ) (v:V):(qgK kvs k v).length<=kvs.length+1:=by
 unfold qgK
 split
 ·rw[List.length_map]; omega
 ·rw[List.length_append,List.length_cons,List.length_nil]; omega
theorem qjC.isSome_eq {o:Option V} {u:Option Value} (r:qjC o u):o.isSome=u.isSome:=by
 cases o with
 | none=>cases u with
  | none=>rfl
  | some _=>exact (show False from r).elim
 | some _=>cases u with
  | none=>exact (show False from r).elim
  | some _=>rfl
theorem qjC.getD {o:Option V} {u:Option Value} {d:V} {d':Value} (r:qjC o u) (rd:RelV d d'):RelV (o.getD d) (u.getD d'):=by
 cases o with
 | none=>cases u with
  | none=>exact rd
  | some _=>exact (show False from r).elim
 | some _=>cases u with
  | none=>exact (show False from r).elim
  | some _=>exact r
theorem KV.val {kvs:List (κ×V)} {vs:List (κ×Value)} (r:KV kvs vs) (k:κ):qjC (qfd kvs k) (valueAt vs k):=by
 unfold KV at r
 induction r with
 | nil=>exact True.intro
 | @cons p q ps qs h t ih=>
  obtain ⟨h1,h2⟩:=h
  by_cases e:p.1=k
  ·have e':q.1=k:=h1.symm.trans e
   have b:valueAt (q::qs) k=some q.2:=by simp[valueAt,List.find?_cons,e']
   rw[qdN e,b]; exact h2
  ·have e': ¬q.1=k:=λz=>e (h1.trans z)
   have b:valueAt (q::qs) k=valueAt qs k:=by simp[valueAt,List.find?_cons,e']
   rw[qdO e,b]; exact ih
theorem KV.any {kvs:List (κ×V)} {vs:List (κ×Value)} (r:KV kvs vs) (k:κ):(kvs.any λkv=>decide (kv.1=k))=vs.any λkv=>decide (kv.1=k):=by
 unfold KV at r
 induction r with
 | nil=>rfl
 | cons h t ih=>rw[List.any_cons,List.any_cons,ih,h.1]
theorem KV.repl {kvs:List (κ×V)} {vs:List (κ×Value)} (r:KV kvs vs) (k:κ) {y:V} {u:Value} (ry:RelV y u):
  KV (kvs.map λkv=>if kv.1=k then (kv.1,y) else kv) (vs.map λkv=>if kv.1=k then (kv.1,u) else kv):=by
 unfold KV at r⊢
 induction r with
 | nil=>exact .nil
 | @cons p q ps qs h t ih=>
  rw[List.map_cons,List.map_cons]
  refine .cons ?_ ih
  obtain ⟨h1,h2⟩:=h
  by_cases e:p.1=k
  ·rw[if_pos e,if_pos (h1.symm.trans e)]; exact ⟨h1,ry⟩
  ·rw[if_neg e,if_neg (λz=>e (h1.trans z))]; exact ⟨h1,h2⟩
theorem KV.put {kvs:List (κ×V)} {vs:List (κ×Value)} (r:KV kvs vs) (k:κ) {y:V} {u:Value} (ry:RelV y u):KV (qgK kvs k y) (stored vs k u):=by
 unfold qgK stored
 rw[r.any k]
 by_cases e:(vs.any λkv=>decide (kv.1=k))=true
 ·rw[if_pos e,if_pos e]; exact r.repl k ry
 ·rw[if_neg e,if_neg e]; exact Paired.snoc r ⟨rfl,ry⟩
theorem KV.length {kvs:List (κ×V)} {vs:List (κ×Value)} (r:KV kvs vs):kvs.length=vs.length:=Paired.length r
end
theorem qeN {P:Program} {w:World} {k:Key} {u:Value} (r:RelV (kV k) u):(qa2 P w).is k u=true:=by
 cases k with
 | inl i=>obtain ⟨t,e⟩:=(show ∃t,u=Value.int i t from r); subst e; exact qg5 P w i t
 | inr x=>obtain ⟨t,e⟩:=(show ∃t,u=Value.str x t from r); subst e; exact qg4 P w x t
theorem qf8 {P:Program} {w:World}: ∀{ks:List Key} {us:List Value},Vals (ks.map kV) us->ItemsAre (qa2 P w) ks us
 | [],_,r=>by rw[List.map_nil] at r; cases r; exact .nil
 | k::ks,_,r=>by
  rw[List.map_cons] at r
  cases r with
  | cons h t=>exact .cons (qeN h) (qf8 t)
abbrev KT (H:Hp):List (List Key×V)->List (List Key×Addr×Value)->Prop:=Paired λp q=>p.1=q.1/\H q.2.1=some (.tup (p.1.map kV))/\RelV p.2 q.2.2
theorem KT.val {H:Hp} {kvs:List (List Key×V)} {xs:List (List Key×Addr×Value)} (r:KT H kvs xs) (k:List Key):qjC (qfd kvs k) ((atKey xs k).map (·.2)):=by
 induction r with
 | nil=>exact True.intro
 | @cons p q ps qs h t ih=>
  obtain ⟨h1,_,h2⟩:=h
  by_cases e:p.1=k
  ·have e':q.1=k:=h1.symm.trans e
   have b:atKey (q::qs) k=some q.2:=by simp[atKey,List.find?_cons,e']
   rw[qdN e,b]; exact h2
  ·have e': ¬q.1=k:=λz=>e (h1.trans z)
   have b:atKey (q::qs) k=atKey qs k:=by simp[atKey,List.find?_cons,e']
   rw[qdO e,b]; exact ih
theorem KT.repl {H:Hp} {kvs:List (List Key×V)} {xs:List (List Key×Addr×Value)} (r:KT H kvs xs) (k:List Key) {y:V} {u:Value} (ry:RelV y u):
  KT H (kvs.map λkv=>if kv.1=k then (kv.1,y) else kv) (xs.map (putAt k u)):=by
 induction r with
 | nil=>exact .nil
 | @cons p q ps qs h t ih=>
  rw[List.map_cons,List.map_cons]
  refine .cons ?_ ih
  obtain ⟨h1,h2,h3⟩:=h
  unfold putAt
  by_cases e:p.1=k
  ·rw[if_pos e,if_pos (h1.symm.trans e)]; exact ⟨h1,h2,ry⟩
  ·rw[if_neg e,if_neg (λz=>e (h1.trans z))]; exact ⟨h1,h2,h3⟩
theorem KT.put {H:Hp} {kvs:List (List Key×V)} {xs:List (List Key×Addr×Value)} (r:KT H kvs xs) (k:List Key) {b:Addr} {y:V} {u:Value} (hb:H b=some (.tup (k.map kV))) (ry:RelV y u):
  KT H (qgK kvs k y) (storedH xs k b u):=by
 have e:(kvs.any λkv=>decide (kv.1=k))=(atKey xs k).isSome:=by
  rw[qhI,(r.val k).isSome_eq,Option.isSome_map]
 unfold qgK storedH
 rw[e]
 by_cases q:(atKey xs k).isSome=true
 ·rw[if_pos q,if_pos q]; exact r.repl k ry
 ·rw[if_neg q,if_neg q]; exact Paired.snoc r ⟨rfl,hb,ry⟩
theorem KT.keeps {H H':Hp} {kvs:List (List Key×V)} {xs:List (List Key×Addr×Value)} (r:KT H kvs xs) (ht: ∀b ys,H b=some (.tup ys)->H' b=some (.tup ys)):KT H' kvs xs:=
 Paired.mapP r λ_ _ z=>⟨z.1,ht _ _ z.2.1,z.2.2⟩
section
variable {P:Program} {w:World} {H:Hp} {h:Heap} {a:Addr}
theorem qqU {u:HO} (ok:HOk P w H h) (e:Rd H a u):qba P w H h a u:=e.ok ok
theorem qhp {kvs:List (Key×V)} (ok:HOk P w H h) (e:Rd H a (.dK kvs)):kvs.length<=sizeLine/\(a==sysModules)=false/\∃vs,KV kvs vs/\h.DictOf (qa2 P w) a vs:=
 show qba P w H h a (.dK kvs) from qqU ok e
theorem qrO {kvs:List (Key×V)} (ok:HOk P w H h) (e:H a=some (.dK kvs)):kvs.length<=sizeLine/\(a==sysModules)=false/\∃vs,KV kvs vs/\h.DictOf (qa2 P w) a vs:=qhp ok (.inl e)
theorem qe0 {ks:List Key} (ok:HOk P w H h) (e:H a=some (.tup (ks.map kV))):(tupleKind (qa2 P w)).is h ks a:=by
 obtain ⟨_,its,r,o,h1,h2,n,h3⟩:=(show qba P w H h a (.tup (ks.map kV)) from ok a _ e)
 exact ⟨o,its.toArray,n,h1,h2,h3,by simpa using qf8 r⟩
theorem qhm {kvs:List (List Key×V)} (ok:HOk P w H h) (e:Rd H a (.dT kvs)):kvs.length<=sizeLine/\(a==sysModules)=false/\
  ∃xs,KT H kvs xs/\h.DictOfH (tupleKind (qa2 P w)) a xs:=by
 obtain ⟨z,y,xs,r,o,es,ep,h1,h2,h3,h4,h5⟩:=(show qba P w H h a (.dT kvs) from qqU ok e)
 refine ⟨z,y,xs,r,o,es,ep,h1,h2,h3,h4,λx hx=> ?_,h5⟩
 have all: ∀{l:List (List Key×V)} {m:List (List Key×Addr×Value)},KT H l m->∀x∈m,(tupleKind (qa2 P w)).is h x.1 x.2.1:=by
  intro l m q
  induction q with
  | nil=>intro x hx; exact nomatch hx
  | @cons p q ps qs hq t ih=>
   intro x hx
   rcases List.mem_cons.mp hx with e | hx
   ·subst e
    exact qe0 ok (by rw[<-hq.1]; exact hq.2.1)
   ·exact ih x hx
 exact all r x hx
theorem qrN {kvs:List (List Key×V)} (ok:HOk P w H h) (e:H a=some (.dT kvs)):kvs.length<=sizeLine/\(a==sysModules)=false/\
  ∃xs,KT H kvs xs/\h.DictOfH (tupleKind (qa2 P w)) a xs:=qhm ok (.inl e)
end
def qfF (H:Hp) (a:Addr) (y:V) (r:Option V):Prop:=
 (∃kvs k,Rd H a (.dK kvs)/\y=kV k/\r=qfd kvs k)\/∃kvs k b,Rd H a (.dT kvs)/\y= .ref b/\H b=some (.tup (k.map kV))/\r=qfd kvs k
def ql9 (H:Hp) (a:Addr) (y v:V) (H':Hp):Prop:=
 (∃kvs k,H a=some (.dK kvs)/\y=kV k/\kvs.length<sizeLine/\H'=upd H a (.dK (qgK kvs k v)))\/
 ∃kvs k b,H a=some (.dT kvs)/\y= .ref b/\H b=some (.tup (k.map kV))/\kvs.length<sizeLine/\H'=upd H a (.dT (qgK kvs k v))
theorem qfF.k {H:Hp} {a:Addr} {kvs:List (Key×V)} {k:Key} (e:H a=some (.dK kvs)):qfF H a (kV k) (qfd kvs k):=.inl ⟨kvs,k,.inl e,rfl,rfl⟩
theorem qfF.t {H:Hp} {a b:Addr} {kvs:List (List Key×V)} {k:List Key} (e:H a=some (.dT kvs)) (eb:H b=some (.tup (k.map kV))):qfF H a (.ref b) (qfd kvs k):=.inr ⟨kvs,k,b,.inl e,rfl,eb,rfl⟩
theorem ql9.k {H:Hp} {a:Addr} {kvs:List (Key×V)} {k:Key} {v:V} (e:H a=some (.dK kvs)) (hl:kvs.length<sizeLine):ql9 H a (kV k) v (upd H a (.dK (qgK kvs k v))):=.inl ⟨kvs,k,e,rfl,hl,rfl⟩
theorem ql9.t {H:Hp} {a b:Addr} {kvs:List (List Key×V)} {k:List Key} {v:V} (e:H a=some (.dT kvs)) (eb:H b=some (.tup (k.map kV))) (hl:kvs.length<sizeLine):
  ql9 H a (.ref b) v (upd H a (.dT (qgK kvs k v))):=.inr ⟨kvs,k,b,e,rfl,eb,hl,rfl⟩
section
variable {X:Cx} {pins:List (Addr×Obj)} {σ:St} {H:Hp} {s:Shared} {a:Addr} {y v:V} {u r:Value} {o:Option V} {A:Around} {E:Value->Shared->Prop}
theorem Inv.big (I:Inv X pins σ H s):sysModules<s.heap.objs.size:=by
 have h:mainGlobals<s.heap.objs.size:=(I.mod.glob.keeps I.bk).lt
 exact Nat.lt_trans (by decide) h
theorem qlH {Q:Value->Shared->Prop} (hu:A.units+1<cLine) (I:Inv X pins σ H s) (g:qfF H a y (some v)) (ry:RelV y u) (h: ∀w' s',Inv X pins σ H s'->RelV v w'->Q w' s'):
  wpAny (model X.prog X.w) A (getItem (.ref a) u) Q E s:=by
 rcases g with ⟨kvs,k,e,ey,l⟩ | ⟨kvs,k,b,e,ey,eb,l⟩
 ·subst ey
  obtain ⟨z,hd,vs,rel,dd⟩:=qhp I.hok e
  obtain ⟨w',hw,rw'⟩:=qjC.some_of (v:=v) (o:=valueAt vs k) (by rw[l]; exact rel.val k)
  exact wpAny_getItem_of (qeN ry) dd.mapOf hw (h w' _ (I.tok _) rw')
 ·subst ey
  cases (show u=Value.ref b from ry)
  obtain ⟨z,hd,xs,rel,dd⟩:=qhm I.hok e
  obtain ⟨w',hw,rw'⟩:=qjC.some_of (v:=v) (o:=(atKey xs k).map (·.2)) (by rw[l]; exact rel.val k)
  obtain ⟨p,hp,hp2⟩:=Option.map_eq_some_iff.mp hw
  refine wpAny_getItem_heap (tupleKind_room_in1 hu) (qe0 I.hok eb) dd hp ?_
  rw[hp2]
  exact h w' _ (I.tok _) rw'
theorem qvU {Q:Value->Shared->Prop} (hu:A.units+1<cLine) (I:Inv X pins σ H s) (g:qfF H a y o) (ry:RelV y u) (h: ∀s',Inv X pins σ H s'->Q (.bool o.isSome) s'):
  wpAny (model X.prog X.w) A (compareOp .In u (.ref a)) Q E s:=by
 rcases g with ⟨kvs,k,e,ey,l⟩ | ⟨kvs,k,b,e,ey,eb,l⟩
 ·subst ey
  obtain ⟨z,hd,vs,rel,dd⟩:=qhp I.hok e
  refine wpAny_in_of (qeN ry) hd dd.mapOf ?_
  rw[<-(rel.val k).isSome_eq,<-l]
  exact h _ (I.tok _)
 ·subst ey
  cases (show u=Value.ref b from ry)
  obtain ⟨z,hd,xs,rel,dd⟩:=qhm I.hok e
  refine wpAny_in_heap (tupleKind_room_in1 hu) (qe0 I.hok eb) hd dd ?_
  have q:=(rel.val k).isSome_eq
  rw[Option.isSome_map] at q
  rw[<-q,<-l]
  exact h _ (I.tok _)
theorem qpZ {Q:Value->Shared->Prop} (hu:A.units+1<cLine) (I:Inv X pins σ H s) (g:qfF H a y o) (ry:RelV y u) (h: ∀s',Inv X pins σ H s'->Q (.bool (!o.isSome)) s'):
  wpAny (model X.prog X.w) A (compareOp .NotIn u (.ref a)) Q E s:=by
 rcases g with ⟨kvs,k,e,ey,l⟩ | ⟨kvs,k,b,e,ey,eb,l⟩
 ·subst ey
  obtain ⟨z,hd,vs,rel,dd⟩:=qhp I.hok e
  refine wpAny_notIn_of (qeN ry) hd dd.mapOf ?_
  rw[<-(rel.val k).isSome_eq,<-l]
  exact h _ (I.tok _)
 ·subst ey
  cases (show u=Value.ref b from ry)
  obtain ⟨z,hd,xs,rel,dd⟩:=qhm I.hok e
  refine wpAny_notIn_heap (tupleKind_room_in1 hu) (qe0 I.hok eb) hd dd ?_
  have q:=(rel.val k).isSome_eq
  rw[Option.isSome_map] at q
  rw[<-q,<-l]
  exact h _ (I.tok _)
theorem qhu {h':Heap} {t':Nat} {ob:HO} (I:Inv X pins σ H s) (mu:Mut (H a)) (hs:Heap.SameBut a s.heap h') (he: ∃q,h'.get? a=some q) (new:qba X.prog X.w (upd H a ob) h' a ob):
  Inv X pins σ (upd H a ob) { s with heap:=h',toks:=t' }:=
 I.write (x:=a) (e:=a) mu (.inl rfl) (λb q hb z=>(hs.2 b hb).trans z) he new
theorem qrP {P:Program} {w:World} {H':Hp} {h':Heap} {kvs:List (Key×V)} {vs:List (Key×Value)} (z:kvs.length<=sizeLine) (hd:(a==sysModules)=false) (rel:KV kvs vs) (dd:h'.DictOf (qa2 P w) a vs):
  qba P w H' h' a (.dK kvs):=⟨z,hd,vs,rel,dd⟩
theorem qlG {H':Hp} {Q:Unit->Shared->Prop} (hu:A.units+1<cLine) (I:Inv X pins σ H s) (g:ql9 H a y v H') (ry:RelV y u) (rv:RelV v r) (h: ∀s',Inv X pins σ H' s'->Q () s'):
  wpAny (model X.prog X.w) A (setItem (.ref a) u r) Q E s:=by
 rcases g with ⟨kvs,k,e,ey,l,eH⟩ | ⟨kvs,k,b,e,ey,eb,l,eH⟩
 ·subst ey eH
  obtain ⟨z,hd,vs,rel,dd⟩:=qrO I.hok e
  have hz:vs.length<=sizeLine:=by rw[<-rel.length]; exact z
  have hl:(qgK kvs k v).length<=sizeLine:=by have:=qeh kvs k v; omega
  refine wpAny_setItem_pairs (hsz:=hz) (qeN ry) dd λh' dd' hs=>h _ ?_
  have he: ∃q,h'.get? a=some q:=let ⟨q,_,_,hq,_⟩:=dd'; ⟨q,hq⟩
  exact qhu I (by rw[e]; exact True.intro) hs he (qrP hl hd (rel.put k rv) dd')
 ·subst ey eH
  cases (show u=Value.ref b from ry)
  obtain ⟨z,hd,xs,rel,dd⟩:=qrN I.hok e
  have hz:xs.length<=sizeLine:=by rw[<-Paired.length rel]; exact z
  have hl:(qgK kvs k v).length<=sizeLine:=by have:=qeh kvs k v; omega
  refine wpAny_setItem_heap (hsz:=hz) (tupleKind_room_in1 hu) (qe0 I.hok eb) dd λh' dd' hs=>h _ ?_
  obtain ⟨q,es,ep,hq,h2,h3,h4,_,h5⟩:=dd'
  refine qhu I (by rw[e]; exact True.intro) hs ⟨q,hq⟩ ⟨hl,hd,_,(rel.put k eb rv).keeps λc ys ec=> ?_,q,es,ep,hq,h2,h3,h4,h5⟩
  rw[qaj (qps ec e (λz=>nomatch z))]
  exact ec
end
def qsq (i:Expr):Prop:= ∀ov iv,subscripted i false ov iv=operate [ov,iv] (getItem ov iv)
theorem qjO {prog:Program} {w:World} {A:Around} {E:Value->Shared->Prop} {s:Shared} {env:Env} {value slice:Expr} {pos:Pos} {T id:String} {Q:Value->Shared->Prop}
  (hl:typeLookup (.type T) "__getitem__" =pure (some (.builtin id))) (hs:qsq slice)
  (h:wpAny (model prog w) A (eval value env) (λo s₁=>wpAny (model prog w) A (eval slice env) (λi s₂=>s₂.TypeIs o T/\wpAny (model prog w) A (getItem o i) Q E s₂) E s₁) E s):
  wpAny (model prog w) A (eval (.Subscript value slice pos) env) Q E s:=by
 refine Subscript_ (wpAny_mono h (λo s₁ h₁=>wpAny_mono h₁ (λi s₂ h₂=> ?_) λ_ _ x=>x) λ_ _ x=>x)
 obtain ⟨hT,h₂⟩:=h₂
 unfold subscriptTail
 refine wpAny_bind ?_
 rw[getitemInPython_of_ne hT.not_modules]
 refine wpAny_bind (wpAny_specialOf hT hl ?_)
 have fin:wpAny (model prog w) A (subscripted slice false o i) (λr s₃=>wpAny (model prog w) A (letTemporaryGo value o r>>=λ_=>pure r) Q E s₃) E s₂:=by
  rw[hs o i]
  exact wpAny_operating (wpAny_mono h₂ (λr s₃ h₃=>wpAny_bind (wpAny_letTemporaryGo (wpAny_pure h₃))) λ_ _ x=>x)
 first
  | exact wpAny_pure (wpAny_bind fin)
  | exact wpAny_bind (wpAny_pure (wpAny_bind fin))
  | exact wpAny_bind fin
theorem qhq {X:Cx} {pins:List (Addr×Obj)} {σ:St} {H:Hp} {s:Shared} {a:Addr} {y:V} {o:Option V} (I:Inv X pins σ H s) (g:qfF H a y o):s.TypeIs (.ref a) "dict" :=by
 rcases g with ⟨kvs,k,e,_,_⟩ | ⟨kvs,k,b,e,_,_,_⟩
 ·obtain ⟨_,_,vs,_,dd⟩:=qhp I.hok e
  exact dd.typeIs
 ·obtain ⟨_,_,xs,_,dd⟩:=qhm I.hok e
  exact dd.typeIs
def qsF (td ty:TE):TE:=λσ H Q=>td σ H λx H1=>ty σ H1 λy H2=> ∃a v,x= .ref a/\qfF H2 a y (some v)/\Q v H2
def qvj (ty td:TE):TE:=λσ H Q=>ty σ H λy H1=>td σ H1 λx H2=> ∃a o,x= .ref a/\qfF H2 a y o/\Q (.bl o.isSome) H2
def qoG (ty td:TE):TE:=λσ H Q=>ty σ H λy H1=>td σ H1 λx H2=> ∃a o,x= .ref a/\qfF H2 a y o/\Q (.bl (!o.isSome)) H2
def qtm (td ty tv:TE):TS:=λD σ H=>tv σ H λv H1=>td σ H1 λx H2=>ty σ H2 λy H3=> ∃a H4,x= .ref a/\ql9 H3 a y v H4/\D.nx σ H4
section
variable {X:Cx} {o i e value:Expr} {pos pos' tpos:Pos} {td ty tv:TE}
theorem qpc (hu:X.A.units+1<cLine) (ho:PE X o td) (hi:PE X i ty) (hs:qsq i):PE X (.Subscript o i pos) (qsF td ty):=by
 intro pins s σ H Q I h
 refine qjO PySem.F.slot_dict_getitem.lookup hs (thn (ho pins s σ H _ I h) λu s1 ⟨x,H1,I1,rx,q1⟩=>thn (hi pins s1 σ H1 _ I1 q1) λiv s2 ⟨y,H2,I2,ry,a,v,ex,g,q2⟩=> ?_)
 subst ex
 obtain rfl:u=Value.ref a:=rx
 exact ⟨qhq I2 g,qlH hu I2 g ry λw' s3 I3 rw'=>⟨v,H2,I3,rw',q2⟩⟩
theorem qrd (hu:X.A.units+1<cLine) (hi:PE X i ty) (ho:PE X o td):PC X .In i o (qvj ty td):=by
 intro pins s σ H Q I h
 refine thn (hi pins s σ H _ I h) λiv s1 ⟨y,H1,I1,ry,q1⟩=>thn (ho pins s1 σ H1 _ I1 q1) λu s2 ⟨x,H2,I2,rx,a,ov,ex,g,q2⟩=> ?_
 subst ex
 obtain rfl:u=Value.ref a:=rx
 exact qvU hu I2 g ry λs3 I3=>⟨.bl ov.isSome,H2,I3,rfl,q2⟩
theorem qkx (hu:X.A.units+1<cLine) (hi:PE X i ty) (ho:PE X o td):PC X .NotIn i o (qoG ty td):=by
 intro pins s σ H Q I h
 refine thn (hi pins s σ H _ I h) λiv s1 ⟨y,H1,I1,ry,q1⟩=>thn (ho pins s1 σ H1 _ I1 q1) λu s2 ⟨x,H2,I2,rx,a,ov,ex,g,q2⟩=> ?_
 subst ex
 obtain rfl:u=Value.ref a:=rx
 exact qpZ hu I2 g ry λs3 I3=>⟨.bl (!ov.isSome),H2,I3,rfl,q2⟩
theorem qo3 (hu:X.A.units+1<cLine) (ho:PE X o td) (hi:PE X i ty) (hv:PE X value tv) (hs:swapsWith value (some (.Subscript o i pos')) pos.line X.env=pure false):
  PS X (.Assign [.Subscript o i pos'] value pos) (qtm td ty tv):=by
 intro pins s σ H D I h
 refine wpAny_Assign_Subscript (thn (hv pins s σ H _ I h) λr s1 ⟨v,H1,I1,rv,q1⟩=>thn (ho pins s1 σ H1 _ I1 q1) λu s2 ⟨x,H2,I2,rx,q2⟩=>thn (hi pins s2 σ H2 _ I2 q2) λiv s3 ⟨y,H3,I3,ry,a,H4,ex,g,q3⟩=> ?_) hs
 subst ex
 obtain rfl:u=Value.ref a:=rx
 exact qlG hu I3 g ry rv λs4 I4=>⟨σ,H4,I4,q3⟩
end
theorem qnA {P:Program} {w:World} {H:Hp} (h:Heap) (hb:sysModules<h.objs.size):qba P w H (h.push { cls:=.type "dict",data:=.dict #[] }) h.objs.size (.dK []):=
 ⟨Nat.zero_le _,beq_eq_false_iff_ne.mpr (Ne.symm (Nat.ne_of_lt hb)),[],.nil,Heap.DictOf.new h⟩
def qqC:TE:=λ_ H Q=> ∀p,H p=none->Q (.ref p) (upd H p (.dK []))
section
variable {X:Cx} {pos:Pos}
theorem qmT:PE X (.Dict [] [] pos) qqC:=λpins s σ H Q I h=>
 wpAny_Dict_empty ⟨.ref s.heap.objs.size,_,I.laid (a:=s.heap.objs.size) (o:=.dK []) (t':=s.toks) (λ_ _ q=>Heap.get?_push_of_some _ q) (Nat.le_refl _) (qnA s.heap I.big),rfl,h _ (I.hok.fresh (Nat.le_refl _))⟩
end
structure M1 (X:Cx) (o:Expr) (m:Str) (apos:Pos) (e:Expr) (cpos:Pos):Prop where
 base:attributeBase o m X.env (eval o X.env)=eval o X.env
 few:((backTo cpos (starEach [e] X.env)).all (λx=> !x.1)&&(backToKw cpos (keywordEach [] X.env)).all (λx=>x.1.isSome)
  &&decide (([e]:List Expr).length+([]:List Keyword).length+(if ([]:List Keyword).isEmpty then 0 else 1)<30))=true
 line:(apos.endLine==cpos.line)=true
 trees:backTo cpos (starEach [e] X.env)=[(false,eval e X.env)]
structure M2 (X:Cx) (o:Expr) (m:Str) (apos:Pos) (e f:Expr) (cpos:Pos):Prop where
 base:attributeBase o m X.env (eval o X.env)=eval o X.env
 few:((backTo cpos (starEach [e,f] X.env)).all (λx=> !x.1)&&(backToKw cpos (keywordEach [] X.env)).all (λx=>x.1.isSome)
  &&decide (([e,f]:List Expr).length+([]:List Keyword).length+(if ([]:List Keyword).isEmpty then 0 else 1)<30))=true
 line:(apos.endLine==cpos.line)=true
 trees:backTo cpos (starEach [e,f] X.env)=[(false,eval e X.env),(false,eval f X.env)]
def IsD (H:Hp) (a:Addr):Prop:=(∃kvs,Rd H a (.dK kvs))\/∃kvs,Rd H a (.dT kvs)
theorem qrC {X:Cx} {pins:List (Addr×Obj)} {σ:St} {H:Hp} {s:Shared} {a:Addr} (I:Inv X pins σ H s) (d:IsD H a):
  s.TypeIs (.ref a) "dict" /\(∀b,Value.ref a= .ref b->∃ob,s.heap.get? b=some ob/\ob.dict=none)/\(a==sysModules)=false:=by
 rcases d with ⟨kvs,e⟩ | ⟨kvs,e⟩
 ·obtain ⟨_,hd,vs,_,dd⟩:=qhp I.hok e
  refine ⟨dd.typeIs,λb q=> ?_,hd⟩
  cases q
  obtain ⟨ob,_,_,h1,h2,_⟩:=dd
  exact ⟨ob,h1,h2.2.1⟩
 ·obtain ⟨_,hd,xs,_,dd⟩:=qhm I.hok e
  refine ⟨dd.typeIs,λb q=> ?_,hd⟩
  cases q
  obtain ⟨ob,_,_,h1,h2,_⟩:=dd
  exact ⟨ob,h1,h2.2.1⟩
section
variable {X:Cx} {pins:List (Addr×Obj)} {σ:St} {H:Hp} {s:Shared} {a:Addr} {y d:V} {u r:Value} {o:Option V} {A:Around} {E:Value->Shared->Prop}
theorem qrY {Q:Value->Shared->Prop} (hu:A.units+1<cLine) (I:Inv X pins σ H s) (g:qfF H a y o) (ry:RelV y u) (rd:RelV d r) (h: ∀w' s',Inv X pins σ H s'->RelV (o.getD d) w'->Q w' s'):
  wpAny (model X.prog X.w) A (call (.builtin "dict.get") [.ref a,u,r]) Q E s:=by
 rcases g with ⟨kvs,k,e,ey,l⟩ | ⟨kvs,k,b,e,ey,eb,l⟩
 ·subst ey
  obtain ⟨z,hd,vs,rel,dd⟩:=qhp I.hok e
  refine call_meetsIn PySem.F.slot_dict_get dd.typeIs PySem.F.entry_dict_get (PySem.F.args_dict_get_3 _ _ _) (meets_dict_get_default (qa2 X.prog X.w) a (qeN ry) hd r) ⟨_,dd.mapOf,h _ _ (I.tok _) ?_⟩
  rw[l]
  exact (rel.val k).getD rd
 ·subst ey
  cases (show u=Value.ref b from ry)
  obtain ⟨z,hd,xs,rel,dd⟩:=qhm I.hok e
  refine call_meetsIn PySem.F.slot_dict_get dd.typeIs PySem.F.entry_dict_get (PySem.F.args_dict_get_3 _ _ _) (meetsH_dict_get_default (tupleKind (qa2 X.prog X.w)) a b hd r) ⟨tupleKind_room_in1 hu,k,xs,qe0 I.hok eb,dd,h _ _ (I.tok _) ?_⟩
  rw[l]
  exact (rel.val k).getD rd
end
def qqD (td ty tx:TE):TE:=λσ H Q=>td σ H λx H1=> ∃a,x= .ref a/\IsD H1 a/\ty σ H1 λy H2=>tx σ H2 λz H3=> ∃o,qfF H3 a y o/\Q (o.getD z) H3
section
variable {X:Cx} {o e f:Expr} {apos cpos:Pos} {td ty tx:TE}
theorem qmU (hu:X.A.units+1<cLine) (ho:PE X o td) (he:PE X e ty) (hf:PE X f tx) (m:M2 X o "get" apos e f cpos):PE X (.Call (.Attribute o "get" apos) [e,f] [] cpos) (qqD td ty tx):=by
 intro pins s σ H Q I h
 refine wpAny_Call_method m.base m.few m.line PySem.F.plainAttrs_dict PySem.F.slot_dict_get PySem.F.type_dict_get (thn (ho pins s σ H _ I h) λu s1 ⟨x,H1,I1,rx,a,ex,d,q1⟩=> ?_)
 subst ex
 obtain rfl:u=Value.ref a:=rx
 obtain ⟨t1,t2,_⟩:=qrC I1 d
 refine ⟨t1,t2,?_⟩
 rw[m.trees]
 refine Calls.callWith_builtin rfl (Calls.evalArgs_plain (Calls.spliced_cons (thn (he pins s1 σ H1 _ I1 q1) λiv s2 ⟨y,H2,I2,ry,q2⟩=>
  Calls.spliced_cons (thn (hf pins s2 σ H2 _ I2 q2) λfv s3 ⟨z,H3,I3,rz,ov,g,q3⟩=>Calls.spliced_nil ?_))))
 exact qrY hu I3 g ry rz λw' s4 I4 rw'=>⟨_,H3,I4,rw',q3⟩
end
end L2
namespace L2
open PySem PySem.Spec PyProof.Rows
end L2
end
section
namespace RH
open PySem L2
theorem qrz {b:Bool} {A B:Prop} (h:b=true) (hA:A):if b=true then A else B:=by rw[if_pos h]; exact hA
theorem qrA {b:Bool} {A B:Prop} (h:b=false) (hB:B):if b=true then A else B:=by rw[if_neg (by rw[h]; decide)]; exact hB
theorem qmz {H:Hp} {D:Addr} {o:HO} (h:H D=none):qnT H (upd H D o):=λb u e=>by
 rw[qaj (qap e h)]
 exact e
theorem qij {X:Cx} (K:PySem.W.Frag) (h:X.K=K):IxR X (qtp K):=by rw[<-h]; exact qk0
theorem fr_ok {X:Cx} {sc sd:Scope} (hX:X.env.scope=sd) (h:(sc.names.all λy=>y.2 != .free||(sd.names.lookup y.1==some .cell))=true): ∀y∈sc.names,y.2= .free->X.env.kindOf y.1=some .cell\/X.env.kindOf y.1=some .free:=by
 intro y hy e
 have h1:=List.all_eq_true.mp h y hy
 rw[e] at h1
 have h2:sd.names.lookup y.1=some .cell:=by simpa using h1
 refine .inl ?_
 show X.env.scope.names.lookup y.1=some .cell
 rw[hX]
 exact h2
abbrev Rw:=Int×Str×Int
end RH
end
section
namespace RH
open PySem L2
def qv8 (rs:List Rw) (k:Str):List Int:=(rs.filter λr=>decide (r.2.1=k)).map (·.2.2)
def outT (g:List Int->Rw->Option Rw) (rs:List Rw) (i:Nat):List Rw:=(List.range i).filterMap λj=>(rs[j]?).bind λr=>g (qv8 (rs.take j) r.2.1) r
end RH
end
section
namespace RH
open PySem PySem.Spec PyProof.Rows L2
def pickL {α:Type} (xs:List α) (lo hi st:Option Int):List α:=(sliceRange (sliceBounds lo hi st xs.length).1 (sliceBounds lo hi st xs.length).2.1 (sliceBounds lo hi st xs.length).2.2).filterMap (xs[·]?)
theorem qoD {xs:List V} {us:List Value} (r:Vals xs us) (i:Nat):(xs[i]? =none/\us[i]? =none)\/∃x u,xs[i]? =some x/\us[i]? =some u/\RelV x u:=by
 induction r generalizing i with
 | nil=>exact .inl ⟨rfl,rfl⟩
 | cons h _ ih=>
  cases i with
  | zero=>exact .inr ⟨_,_,rfl,rfl,h⟩
  | succ i=>exact ih i
theorem vals_pick {xs:List V} {us:List Value} (r:Vals xs us): ∀l:List Nat,Vals (l.filterMap (xs[·]?)) (l.filterMap (us[·]?))
 | []=>.nil
 | i::l=>by
  rcases qoD r i with ⟨e1,e2⟩ | ⟨x,u,e1,e2,h⟩
  ·rw[List.filterMap_cons_none e1,List.filterMap_cons_none e2]
   exact vals_pick r l
  ·rw[List.filterMap_cons_some e1,List.filterMap_cons_some e2]
   exact .cons h (vals_pick r l)
theorem pe_slice3 {X:Cx} {e ste:Expr} {lo hi:Option Expr} {te:TE} {tl th ts:TO} {p2 pos:Pos} (he:PE X e te) (hl:PO X lo tl) (hu:PO X hi th) (hst:PO X (some ste) ts):
  PE X (.Subscript e (.Slice lo hi (some ste) p2) pos) (λσ H Q=>te σ H λx H1=>tl σ H1 λl H2=>th σ H2 λu H3=>ts σ H3 λst H4=>st≠some 0/\∃a xs,x= .ref a/\SqL X.K H4 a xs/\∀p,H4 p=none->Q (.ref p) (upd H4 p (.lst (pickL xs l u st)))):=by
 intro pins s σ H Q I h
 refine Subscript_ (thn (he pins s σ H _ I h) λv s1 ⟨x,H1,I1,r1,q1⟩=> ?_)
 refine wpAny_Slice (thn (hl pins s1 σ H1 _ I1 q1) λvl s2 ⟨l,H2,I2,pl,q2⟩=>thn (hu pins s2 σ H2 _ I2 q2) λvu s3 ⟨u,H3,I3,pu,q3⟩=>thn (hst pins s3 σ H3 _ I3 q3) λvs s4 ⟨st,H4,I4,ps,n0,a,xs,ex,hx,q4⟩=> ?_)
 subst ex
 cases r1
 have I5:Inv X pins σ H4 { s4 with heap:=s4.heap.push { cls:=.type "slice",data:=.fields #[vl,vu,vs] } }:=I4.kept (t':=s4.toks) λb ob q=>Heap.get?_push_of_some _ q
 obtain ⟨its,r,ht,hz⟩:=I5.list hx
 have hlen:=r.length
 refine tail_any (ops:=[.ref a,.ref s4.heap.objs.size]) (T:= "list") ht.isList.typeIs slot_list_getitem.lookup ?_ (by with_unfolding_all rfl)
 refine wpAny_getItem_list_slice ht.isList (Heap.IsSliceOf.new ..) pl pu ps n0 ?_ (by rw[List.size_toArray]<;>lia)
 have ep:slicePick its.toArray l u st=(pickL its l u st).toArray:=by
  unfold slicePick pickL
  simp
 rw[ep]
 refine ⟨.ref _,_,I5.laid (t':=s4.toks) (o:=.lst (pickL xs l u st)) (λb ob q=>Heap.get?_push_of_some _ q) (Nat.le_refl _) ?_,rfl,q4 _ (I5.hok.fresh (Nat.le_refl _))⟩
 have rv:Vals (pickL xs l u st) (pickL its l u st):=by
  unfold pickL
  rw[hlen]
  exact vals_pick r _
 have sz:(pickL its l u st).length<=its.length:=by
  have:=slicePick_size_le its.toArray l u st
  rw[ep] at this
  simpa using this
 exact ⟨by rw[rv.length]; lia,_,0,rv,Heap.get?_push_size _ rfl⟩
end RH
end
section
namespace L2
open PySem PySem.Spec PyProof.Rows
end L2
namespace RH
open PySem L2
end RH
end
section
namespace RH
open PySem PySem.Spec PyProof.Rows L2
end RH
end
section
namespace St
open PySem PySem.W PySem.Calls PyProof.Rows
section
variable {prog:Program} {w:World} {A:Around} {E:Value->Shared->Prop} {s:Shared} {D:Addr} {vs:List Value} {kz:List Int} {P:PySem.Fin->Shared->Prop} {h0:Heap}
theorem qgV {n:Nat} (h:n<2):qeC kz n (List.toArray (List.range n)):=by
 refine ⟨⟨by simp,λi hi=> ?_,λi q1 q2=>by lia⟩,λi j hij hj=>by lia⟩
 unfold g
 rw[Array.getD_eq_getD_getElem?]
 simp[hi]
theorem lsort_p {n:Nat} {κ:SortKind} (ho:s.heap.get? D=some (seqObj "list" vs.toArray n)) (hlen:kz.length=vs.length) (h64:vs.length<64) (kp:Kp h0 s.heap) (hD0:h0.get? D=none)
  (kind: ∀s':Shared,Kp h0 s'.heap->2<=vs.length->∀Q:SortKind->Shared->Prop,Q κ s'->wpAny (model prog w) A (keyKind' vs.toArray) Q E s')
  (cmp: ∀s':Shared,Kp h0 s'.heap->∀i j,i<vs.length->j<vs.length->∀C:Bool->Shared->Prop,C (decide (kz.getD i 0<kz.getD j 0)) s'->wpAny (model prog w) A (keyLt' κ (vs.getD i Value.none) (vs.getD j Value.none)) C (λ_ _=>False) s')
  (h: ∀h' tk c (p:Array Nat),Kp h0 h'->qeC kz vs.length p->h'.get? D=some (seqObj "list" (List.toArray (p.toList.map λi=>vs.getD i Value.none)) c)->P (.done (.ret .none)) { s with heap:=h',toks:=tk }):
  wpAny (model prog w) A (Builtin.«list.sort» ⟨[.ref D],[]⟩) P E s:=by
 rw[list_sort_plain]
 have s1:=Heap.SameBut.update s.heap D (Obj.mapSeq λ_=>(#[]:Array Value))
 obtain ⟨e1,ho1⟩: ∃e1,(s.heap.update D (Obj.mapSeq λ_=>(#[]:Array Value))).get? D=some (seqObj "list" #[] e1):=⟨_,get?_update_seq ho λ_=> #[]⟩
 refine wpAny_bind (listItems_at ho rfl ?_)
 refine wpAny_bind (listUpdate_at ho rfl ?_ (by rw[List.size_toArray,sizeLine_eq]; lia) (Nat.zero_le _))
 refine wpAny_bind (seqEpoch_at ho1 rfl ?_)
 generalize hH2:s.heap.update D (Obj.mapSeq λ_=>(#[]:Array Value))=H2 at ho1 s1⊢
 have kp3:Kp h0 H2:=λb o z=>(s1.2 b (λq=>by rw[q,hD0] at z; cases z)).trans (kp b o z)
 refine wpAny_bind (wpAny_newTuple ?_ (by show vs.length<=_; rw[sizeLine_eq]; lia))
 refine wpAny_bind (wpAny_newList ?_ (Nat.zero_le _))
 refine wpAny_holding ?_
 generalize hH3:(H2.push (seqObj "tuple" vs.toArray 0)).push (seqObj "list" #[] 0)=H3
 have hD3:H3.get? D=some (seqObj "list" #[] e1):=by rw[<-hH3]; exact Heap.get?_push_of_some _ (Heap.get?_push_of_some _ ho1)
 have kp4:Kp h0 H3:=λb o z=>by rw[<-hH3]; exact Heap.get?_push_of_some _ (Heap.get?_push_of_some _ (kp3 b o z))
 have fin: ∀(st:SortSt) (p:Array Nat),qeC kz vs.length p->(arrOf st).map (·.2)=List.toArray (p.toList.map λi=>vs.getD i Value.none)->failedOf st=none->
   wpAny (model prog w) A (do
    let touched:=(<-seqEpoch D) != e1
    Builtin.List.listUpdate (.ref D) λ_=>(arrOf st).map (·.2)
    if let some e:=failedOf st then rule "list.sort.comparison-raised"; throw e
    if touched then rule "list.sort.modified"; raiseError "ValueError" "list modified during sort"
    ret .none) P E { s with heap:=H3 }:=λst p ho' har hfl=>by
  have hsz:(p.toList.map λi=>vs.getD i Value.none).length=vs.length:=by rw[List.length_map,Array.length_toList,ho'.1.sz]
  refine wpAny_bind (seqEpoch_at hD3 rfl ?_)
  rw[har]
  refine wpAny_bind (listUpdate_at hD3 rfl ?_ (Nat.zero_le _) (by show (List.toArray _).size<=_; rw[List.size_toArray,hsz,sizeLine_eq]; lia))
  rw[hfl]
  simp only[bne_self_eq_false,Bool.false_eq_true,if_false]
  have hfin: ∃c,(H3.update D (Obj.mapSeq λ_=>List.toArray (p.toList.map λi=>vs.getD i Value.none))).get? D=some (seqObj "list" (List.toArray (p.toList.map λi=>vs.getD i Value.none)) c):=⟨_,get?_update_seq hD3 λ_=>List.toArray (p.toList.map λi=>vs.getD i Value.none)⟩
  obtain ⟨c,hc⟩:=hfin
  refine wpAny_pure (h _ _ c p (λb o q=> ?_) ho' hc)
  have nD:b≠D:=λz=>by rw[z,hD0] at q; cases q
  exact ((Heap.SameBut.update H3 D _).2 b nD).trans (kp4 b o q)
 by_cases h2:vs.toArray.size<2
 ·rw[if_pos h2,if_pos h2]
  refine wpAny_bind (wpAny_pure ?_)
  dsimp only
  rw[StateT.run_pure]
  refine wpAny_bind (wpAny_pure ?_)
  rw[List.size_toArray] at h2
  refine fin _ _ (qgV h2) ?_ rfl
  show (vs.toArray.zip vs.toArray).map (·.2)=_
  apply Array.toList_inj.mp
  rw[Array.toList_map,ksk_zip,List.toList_toArray,List.toList_toArray]
  rw[show (vs.zip vs).map (λx:Value×Value=>x.2)=vs from List.map_snd_zip (by lia)]
  apply List.ext_getElem
  ·simp
  ·intro i h3 h4
   simp[List.getElem?_eq_getElem h3]
 ·rw[if_neg h2,if_neg h2]
  rw[List.size_toArray] at h2
  refine wpAny_bind (kind { s with heap:=H3 } kp4 (by lia) _ ?_)
  have run:=kat_run (prog:=prog) (w:=w) (A:=A) (E:=E) (s:={ s with heap:=H3 }) (κ:=κ) (ks:=vs) (vs:=vs) (Q:=λst s'=>s'={ s with heap:=H3 }/\∃p,qeC kz vs.length p/\(arrOf st).map (·.2)=List.toArray (p.toList.map λi=>vs.getD i Value.none)/\failedOf st=none)
   (G:=λp s'=>s'={ s with heap:=H3 }/\qeC kz vs.length p) rfl (by lia) h64 (λp st' s' a1 a2 a3 a4=>⟨a4.1,p,a4.2,kat_snds rfl a2,a3⟩)
   (qlc (ask:=qc6 λi=>kz.getD i 0) (N:=vs.length) (λi j C hi hj hc=>cmp { s with heap:=H3 } kp4 i j hi hj C hc) (λp hp=>⟨rfl,hp⟩) (qoM (by lia)))
  refine wpAny_bind (wpAny_mono run (λr s' hr=> ?_) λ_ _ x=>x)
  obtain ⟨rfl,p,ho',har,hf⟩:=hr
  exact fin _ p ho' har hf
end
end St
namespace St
open PySem PySem.W PySem.Calls PyProof.Rows
end St
end
section
namespace SR
section
variable {α β:Type}
def ins (k:α->Int) (r:α):List α->List α
 | []=>[r]
 | x::l=>if k x<=k r then x::ins k r l else r::x::l
def srt (k:α->Int) (l:List α):List α:=l.foldl (λa r=>ins k r a) []
theorem qff {k:α->Int} {l:List α} {r:α}:srt k (l++[r])=ins k r (srt k l):=by
 unfold srt
 rw[List.foldl_append]
 rfl
theorem qk6 {k:α->Int} {k':β->Int} {f:β->α} (h: ∀b,k' b=k (f b)) (r:β): ∀l:List β,(ins k' r l).map f=ins k (f r) (l.map f)
 | []=>rfl
 | x::l=>by
  show List.map f (if k' x<=k' r then x::ins k' r l else r::x::l)=(if k (f x)<=k (f r) then f x::ins k (f r) (l.map f) else f r::f x::l.map f)
  rw[h x,h r]
  by_cases c:k (f x)<=k (f r)
  ·rw[if_pos c,if_pos c,List.map_cons,qk6 h r l]
  ·rw[if_neg c,if_neg c,List.map_cons,List.map_cons]
theorem qdr {k:α->Int} {k':β->Int} {f:β->α} (h: ∀b,k' b=k (f b)) (l:List β):(srt k' l).map f=srt k (l.map f):=by
 have go: ∀(l a:List β),(l.foldl (λa r=>ins k' r a) a).map f=(l.map f).foldl (λa r=>ins k r a) (a.map f):=by
  intro l
  induction l with
  | nil=>intro a; rfl
  | cons x l ih=>
   intro a
   rw[List.foldl_cons,ih,List.map_cons,List.foldl_cons,qk6 h]
 exact go l []
theorem qfr {k:α->Int} {r x:α}: ∀{l:List α},x∈ins k r l↔x=r\/x∈l
 | []=>by simp[ins]
 | y::l=>by
  unfold ins
  by_cases c:k y<=k r
  ·rw[if_pos c,List.mem_cons,qfr,List.mem_cons]
   constructor
   ·rintro (h | h | h)
    ·exact .inr (.inl h)
    ·exact .inl h
    ·exact .inr (.inr h)
   ·rintro (h | h | h)
    ·exact .inr (.inl h)
    ·exact .inl h
    ·exact .inr (.inr h)
  ·rw[if_neg c,List.mem_cons]
theorem qbm {k:α->Int} {x:α} (l:List α):x∈srt k l↔x∈l:=by
 have go: ∀(l a:List α),x∈l.foldl (λa r=>ins k r a) a↔x∈a\/x∈l:=by
  intro l
  induction l with
  | nil=>intro a; simp
  | cons y l ih=>
   intro a
   rw[List.foldl_cons,ih,qfr,List.mem_cons]
   constructor
   ·rintro ((h | h) | h)
    ·exact .inr (.inl h)
    ·exact .inl h
    ·exact .inr (.inr h)
   ·rintro (h | h | h)
    ·exact .inl (.inr h)
    ·exact .inl (.inl h)
    ·exact .inr h
 rw[show srt k l=l.foldl (λa r=>ins k r a) [] from rfl,go]
 simp
def Ris (k:α->Int) (l:List α):Prop:=l.Pairwise λa b=>k a<=k b
theorem qke {k:α->Int} {r:α}: ∀{l:List α},Ris k l->Ris k (ins k r l)
 | [],_=>by simp[ins,Ris]
 | y::l,h=>by
  have h':=List.pairwise_cons.mp h
  unfold ins
  by_cases c:k y<=k r
  ·rw[if_pos c]
   refine List.pairwise_cons.mpr ⟨λz hz=> ?_,qke h'.2⟩
   rcases qfr.mp hz with q | q
   ·rw[q]; exact c
   ·exact h'.1 z q
  ·rw[if_neg c]
   refine List.pairwise_cons.mpr ⟨λz hz=> ?_,h⟩
   rcases List.mem_cons.mp hz with q | q
   ·rw[q]; lia
   ·have:=h'.1 z q; lia
theorem qb3 {k:α->Int} (l:List α):Ris k (srt k l):=by
 have go: ∀(l a:List α),Ris k a->Ris k (l.foldl (λa r=>ins k r a) a):=by
  intro l
  induction l with
  | nil=>intro a h; exact h
  | cons y l ih=>intro a h; exact ih _ (qke h)
 exact go l [] List.Pairwise.nil
end
end SR
end
section
namespace SR
section
variable {α:Type}
structure Ord (lt:α->α->Bool):Prop where
 irr: ∀a,lt a a=false
 tr: ∀a b c,lt a b=true->lt b c=true->lt a c=true
 tot: ∀a b,lt a b=false->lt b a=false->a=b
def qcf (lt:α->α->Bool) (as:List α) (a:α):Int:=(as.countP λx=>lt x a:Nat)
theorem qgs {p q:α->Bool} (h: ∀x,p x=true->q x=true): ∀l:List α,l.countP p<=l.countP q
 | []=>Nat.le_refl _
 | x::l=>by
  have ih:=qgs h l
  rw[List.countP_cons,List.countP_cons]
  cases e:p x with
  | true=>rw[h x e]; simp; exact ih
  | false=>
   simp
   lia
theorem qgr {p q:α->Bool} (h: ∀x,p x=true->q x=true) {a:α} (ha:p a=false) (hb:q a=true): ∀{l:List α},a∈l->l.countP p<l.countP q
 | x::l,hm=>by
  rw[List.countP_cons,List.countP_cons]
  have le:=qgs h l
  rcases List.mem_cons.mp hm with rfl | hm
  ·rw[ha,hb]; simp; lia
  ·have ih:=qgr h ha hb hm
   cases e:p x with
   | true=>rw[h x e]; simp; exact ih
   | false=>simp; lia
theorem qbG {lt:α->α->Bool} (o:Ord lt) {as:List α} {a b:α} (ha:a∈as) (hb:b∈as):decide (qcf lt as a<qcf lt as b)=lt a b:=by
 have up: ∀{a b:α},a∈as->lt a b=true->qcf lt as a<qcf lt as b:=λ{a b} ha h=>by
  unfold qcf
  have:=qgr (p:=λx=>lt x a) (q:=λx=>lt x b) (λx hx=>o.tr x a b hx h) (o.irr a) h ha
  lia
 cases h:lt a b with
 | true=>exact decide_eq_true (up ha h)
 | false=>
  refine decide_eq_false ?_
  cases h2:lt b a with
  | true=>have:=up hb h2; lia
  | false=>
   have:=o.tot a b h h2
   subst this
   lia
theorem qdP {lt:α->α->Bool} (o:Ord lt) {as:List α} {a b:α} (ha:a∈as) (hb:b∈as) (h:qcf lt as a=qcf lt as b):a=b:=by
 refine o.tot a b ?_ ?_
 ·rw[<-qbG o ha hb]; exact decide_eq_false (by lia)
 ·rw[<-qbG o hb ha]; exact decide_eq_false (by lia)
def qbE (lt:α->α->Bool) (as:List α):List α:=srt (qcf lt as) as
theorem qhY {k:α->Int} {r:α}: ∀l:List α,List.Perm (ins k r l) (r::l)
 | []=>List.Perm.refl _
 | x::l=>by
  show List.Perm (if k x<=k r then x::ins k r l else r::x::l) _
  by_cases c:k x<=k r
  ·rw[if_pos c]
   exact ((qhY l).cons x).trans (List.Perm.swap r x l)
  ·rw[if_neg c]
theorem qb4 {k:α->Int} (l:List α):List.Perm (srt k l) l:=by
 have go: ∀(l a:List α),List.Perm (l.foldl (λa r=>ins k r a) a) (a++l):=by
  intro l
  induction l with
  | nil=>intro a; simp
  | cons x l ih=>
   intro a
   rw[List.foldl_cons]
   refine (ih _).trans ?_
   refine ((qhY a).append_right l).trans ?_
   exact List.perm_middle.symm
 exact go l []
theorem qcq {k:α->Int}: ∀{l l':List α},(∀a∈l,∀b∈l,k a=k b->a=b)->Ris k l->Ris k l'->List.Perm l l'->l=l'
 | [],l',_,_,_,p=>(List.Perm.eq_nil p.symm).symm
 | x::l,[],_,_,_,p=>absurd (List.Perm.eq_nil p) (by simp)
 | x::l,y::l',hi,h1,h2,p=>by
  have a1:=List.pairwise_cons.mp h1
  have a2:=List.pairwise_cons.mp h2
  have hy:y∈x::l:=p.symm.subset List.mem_cons_self
  have hx:x∈y::l':=p.subset List.mem_cons_self
  have e:x=y:=by
   rcases List.mem_cons.mp hy with q | q
   ·exact q.symm
   ·rcases List.mem_cons.mp hx with r | r
    ·exact r
    ·have b1:=a1.1 y q
     have b2:=a2.1 x r
     exact hi x List.mem_cons_self y hy (by lia)
  subst e
  rw[qcq (λa ha b hb=>hi a (List.mem_cons_of_mem _ ha) b (List.mem_cons_of_mem _ hb)) a1.2 a2.2 (p.cons_inv)]
theorem qbY {lt:α->α->Bool} (o:Ord lt) {as bs:List α} (p:List.Perm as bs):qbE lt as=qbE lt bs:=by
 have e:qcf lt as=qcf lt bs:=funext λa=>by
  unfold qcf
  rw[p.countP_eq]
 unfold qbE
 rw[<-e]
 refine qcq (k:=qcf lt as) (λa ha b hb h=>qdP o ((qbm _).mp ha) ((qbm _).mp hb) h) (qb3 _) (qb3 _) ?_
 exact (qb4 as).trans (p.trans (qb4 bs).symm)
end
end SR
end
section
namespace L2
open PySem PySem.Spec PySem.Calls PyProof.Rows PySem.W
end L2
end
section
namespace PL
open PySem L2
inductive T where
 | non | bl (b:Bool) | int (i:Int) | str (s:Str) | tup (ts:List T) | lst (ts:List T) | dct (kvs:List (Key×T)) | dcf (kvs:List (Key×T)) | dtu (kvs:List (List Key×T)) | fn (x:Str) | scr (ns:List Int)
inductive Rs (α:Type) where
 | no | ok (a:α) | ex (c:Str)
@[inline] def Rs.bind {α β:Type}:Rs α->(α->Rs β)->Rs β
 | .no,_=>.no
 | .ok a,f=>f a
 | .ex c,_=>.ex c
instance:Monad Rs where
 pure:=Rs.ok
 bind:=Rs.bind
@[simp] theorem qag {α β:Type} (a:α) (f:α->Rs β):(Rs.ok a>>=f)=f a:=rfl
@[simp] theorem qpn {α β:Type} (f:α->Rs β):((Rs.no:Rs α)>>=f)= .no:=rfl
@[simp] theorem qo1 {α:Type} (a:α):(pure a:Rs α)= .ok a:=rfl
mutual
def Rep (K:PySem.W.Frag) (B:Hp):T->V->Prop
 | .non,v=>v= .non
 | .bl b,v=>v= .bl b
 | .int i,v=>v= .int i
 | .str s,v=>v= .str s
 | .tup ts,v=> ∃p vs,v= .ref p/\B p=some (.tup vs)/\qaP K B ts vs
 | .lst ts,v=> ∃p vs,v= .ref p/\B p=some (.lst vs)/\qaP K B ts vs
 | .dct kvs,v=> ∃p us,v= .ref p/\B p=some (.dK us)/\qby K B kvs us
 | .dcf kvs,v=> ∃p o us,v= .ref p/\B p=some (.frz o (.dK us))/\qby K B kvs us
 | .dtu kvs,v=> ∃p us,v= .ref p/\B p=some (.dT us)/\qbv K B kvs us
 | .fn x,v=> ∃f,v= .ref f/\PySem.W.nsIn K mainGlobals x=some (some (.ref f))
 | .scr ns,v=> ∃p,v= .ref p/\SqL K B p (ns.map V.int)
def qaP (K:PySem.W.Frag) (B:Hp):List T->List V->Prop
 | [],vs=>vs=[]
 | t::ts,vs=> ∃v r,vs=v::r/\Rep K B t v/\qaP K B ts r
def qby (K:PySem.W.Frag) (B:Hp):List (Key×T)->List (Key×V)->Prop
 | [],vs=>vs=[]
 | (k,t)::ts,vs=> ∃v r,vs=(k,v)::r/\Rep K B t v/\qby K B ts r
def qbv (K:PySem.W.Frag) (B:Hp):List (List Key×T)->List (List Key×V)->Prop
 | [],vs=>vs=[]
 | (k,t)::ts,vs=> ∃v r,vs=(k,v)::r/\Rep K B t v/\qbv K B ts r
end
def Le (B B':Hp):Prop:= ∀a o,B a=some o->B' a=some o
theorem Le.refl (B:Hp):Le B B:=λ_ _ h=>h
theorem Le.trans {A B C:Hp} (h:Le A B) (h':Le B C):Le A C:=λa o e=>h' a o (h a o e)
theorem Le.sqT {K:PySem.W.Frag} {B B':Hp} {p:Addr} {vs:List V} (h:Le B B') (q:SqT K B p vs):SqT K B' p vs:=by
 rcases q with (q | ⟨o,q⟩) | q
 ·exact .inl (.inl (h _ _ q))
 ·exact .inl (.inr ⟨o,h _ _ q⟩)
 ·exact .inr q
theorem Le.sqL {K:PySem.W.Frag} {B B':Hp} {p:Addr} {vs:List V} (h:Le B B') (q:SqL K B p vs):SqL K B' p vs:=by
 rcases q with (q | ⟨o,q⟩) | q
 ·exact .inl (.inl (h _ _ q))
 ·exact .inl (.inr ⟨o,h _ _ q⟩)
 ·exact .inr q
mutual
theorem Rep.mono {K:PySem.W.Frag} {B B':Hp} (h:Le B B'): ∀{t:T} {v:V},Rep K B t v->Rep K B' t v
 | .non,_,r=>r
 | .bl _,_,r=>r
 | .int _,_,r=>r
 | .str _,_,r=>r
 | .tup _,_,r=>by
  unfold Rep at r⊢
  obtain ⟨p,vs,e,q,rs⟩:=r
  exact ⟨p,vs,e,h _ _ q,qaP.mono h rs⟩
 | .lst _,_,r=>by
  unfold Rep at r⊢
  obtain ⟨p,vs,e,q,rs⟩:=r
  exact ⟨p,vs,e,h _ _ q,qaP.mono h rs⟩
 | .dct _,_,r=>by
  unfold Rep at r⊢
  obtain ⟨p,vs,e,q,rs⟩:=r
  exact ⟨p,vs,e,h _ _ q,qby.mono h rs⟩
 | .dcf _,_,r=>by
  unfold Rep at r⊢
  obtain ⟨p,o,vs,e,q,rs⟩:=r
  exact ⟨p,o,vs,e,h _ _ q,qby.mono h rs⟩
 | .dtu _,_,r=>by
  unfold Rep at r⊢
  obtain ⟨p,vs,e,q,rs⟩:=r
  exact ⟨p,vs,e,h _ _ q,qbv.mono h rs⟩
 | .fn _,_,r=>by unfold Rep at r⊢; exact r
 | .scr _,_,r=>by
  unfold Rep at r⊢
  obtain ⟨p,e,q⟩:=r
  exact ⟨p,e,h.sqL q⟩
theorem qaP.mono {K:PySem.W.Frag} {B B':Hp} (h:Le B B'): ∀{ts:List T} {vs:List V},qaP K B ts vs->qaP K B' ts vs
 | [],_,r=>r
 | _::_,_,r=>by
  unfold qaP at r⊢
  obtain ⟨v,r',e,a,b⟩:=r
  exact ⟨v,r',e,Rep.mono h a,qaP.mono h b⟩
theorem qby.mono {K:PySem.W.Frag} {B B':Hp} (h:Le B B'): ∀{ts:List (Key×T)} {vs:List (Key×V)},qby K B ts vs->qby K B' ts vs
 | [],_,r=>r
 | (_,_)::_,_,r=>by
  unfold qby at r⊢
  obtain ⟨v,r',e,a,b⟩:=r
  exact ⟨v,r',e,Rep.mono h a,qby.mono h b⟩
theorem qbv.mono {K:PySem.W.Frag} {B B':Hp} (h:Le B B'): ∀{ts:List (List Key×T)} {vs:List (List Key×V)},qbv K B ts vs->qbv K B' ts vs
 | [],_,r=>r
 | (_,_)::_,_,r=>by
  unfold qbv at r⊢
  obtain ⟨v,r',e,a,b⟩:=r
  exact ⟨v,r',e,Rep.mono h a,qbv.mono h b⟩
end
section
variable {K:PySem.W.Frag} {B:Hp}
theorem qaP.nil:qaP K B [] []:=by unfold qaP; rfl
theorem qaP.cons {t:T} {v:V} {ts:List T} {vs:List V} (h:Rep K B t v) (r:qaP K B ts vs):qaP K B (t::ts) (v::vs):=by unfold qaP; exact ⟨v,vs,rfl,h,r⟩
theorem qaP.inv {t:T} {ts:List T} {vs:List V} (h:qaP K B (t::ts) vs): ∃v r,vs=v::r/\Rep K B t v/\qaP K B ts r:=by unfold qaP at h; exact h
theorem qaP.inv0 {vs:List V} (h:qaP K B [] vs):vs=[]:=by unfold qaP at h; exact h
theorem qaP.length: ∀{ts:List T} {vs:List V},qaP K B ts vs->vs.length=ts.length
 | [],_,h=>by rw[h.inv0]; rfl
 | _::_,_,h=>by
  obtain ⟨v,r,rfl,_,h'⟩:=h.inv
  simp[qaP.length h']
theorem qaP.get: ∀{ts:List T} {vs:List V} {i:Nat} {t:T},qaP K B ts vs->ts[i]? =some t->∃v,vs[i]? =some v/\Rep K B t v
 | [],_,_,_,_,e=>by simp at e
 | _::_,_,0,_,h,e=>by
  obtain ⟨v,r,rfl,a,_⟩:=h.inv
  simp at e; subst e
  exact ⟨v,rfl,a⟩
 | _::_,_,i+1,t,h,e=>by
  obtain ⟨v,r,rfl,_,h'⟩:=h.inv
  obtain ⟨u,e1,e2⟩:=qaP.get (i:=i) h' (by simpa using e)
  exact ⟨u,by simpa using e1,e2⟩
theorem qaP.of_get {ts:List T} {vs:List V} (hl:vs.length=ts.length) (h: ∀(i:Nat) (t:T) (v:V),ts[i]? =some t->vs[i]? =some v->Rep K B t v):qaP K B ts vs:=by
 induction ts generalizing vs with
 | nil=>cases vs with
  | nil=>exact .nil
  | cons _ _=>cases hl
 | cons t ts ih=>cases vs with
  | nil=>cases hl
  | cons v vs=>exact .cons (h 0 t v rfl rfl) (ih (by simpa using hl) λi t' v' a b=>h (i+1) t' v' (by simpa using a) (by simpa using b))
theorem qaP.append: ∀{ts us:List T} {vs ws:List V},qaP K B ts vs->qaP K B us ws->qaP K B (ts++us) (vs++ws)
 | [],_,_,_,h,h'=>by rw[h.inv0]; exact h'
 | _::_,_,_,_,h,h'=>by
  obtain ⟨v,r,rfl,a,b⟩:=h.inv
  exact .cons a (qaP.append b h')
theorem qaP.snoc {ts:List T} {vs:List V} {t:T} {v:V} (h:qaP K B ts vs) (r:Rep K B t v):qaP K B (ts++[t]) (vs++[v]):=h.append (.cons r .nil)
theorem qaP.take {ts:List T} {vs:List V} (n:Nat) (h:qaP K B ts vs):qaP K B (ts.take n) (vs.take n):=by
 refine .of_get (by simp[h.length]) λi t v a b=> ?_
 rw[List.getElem?_take] at a b
 split at a
 ·rename_i hi
  rw[if_pos hi] at b
  obtain ⟨u,e1,e2⟩:=h.get a
  rw[b] at e1; cases e1; exact e2
 ·cases a
theorem qaP.drop {ts:List T} {vs:List V} (n:Nat) (h:qaP K B ts vs):qaP K B (ts.drop n) (vs.drop n):=by
 refine .of_get (by simp[h.length]) λi t v a b=> ?_
 rw[List.getElem?_drop] at a b
 obtain ⟨u,e1,e2⟩:=h.get a
 rw[b] at e1; cases e1; exact e2
theorem qaP.getD {ts:List T} {vs:List V} (h:qaP K B ts vs) (j:Nat) (hj:j<ts.length):Rep K B (ts.getD j .non) (vs.getD j .non):=by
 obtain ⟨u,e1,e2⟩:=h.get (List.getElem?_eq_getElem hj)
 rw[List.getD_eq_getElem?_getD,List.getD_eq_getElem?_getD,e1,List.getElem?_eq_getElem hj]
 exact e2
end
structure Gam where
 P:Hp->Prop
 st: ∀H H':Hp,(∀a o,H a=some o->(∀xs,o≠.lst xs)->(∀xs,o≠.dK xs)->(∀xs,o≠.dT xs)->(∀C dx fs,o≠.ins C dx fs)->H' a=some o)->P H->P H'
structure GX (H H':Hp):Prop where
 hh: ∀a o,H a=some o->(∀ps,o≠.tbl ps)->H' a=some o
 dm: ∀a,H a≠none->H' a≠none
theorem GX.refl (H:Hp):GX H H:=⟨λ_ _ h _=>h,λ_ h=>h⟩
theorem GX.trans {H H1 H2:Hp} (a:GX H H1) (b:GX H1 H2):GX H H2:=⟨λx o h n=>b.hh x o (a.hh x o h n) n,λx h=>b.dm x (a.dm x h)⟩
structure qa5 (H B H' B':Hp):Prop where
 gx:GX H H'
 bb:Le B B'
 bh:Le B' H'
 bt: ∀a ps,B' a≠some (.tbl ps)
 nw: ∀a o,H a=some o->(∀vs,o≠.tup vs)->(∀ps,o≠.tbl ps)->B' a=B a
theorem nwo {H B B':Hp} (h: ∀a,H a≠none->B' a=B a): ∀a o,H a=some o->(∀vs,o≠HO.tup vs)->(∀ps,o≠HO.tbl ps)->B' a=B a:=λa o z _ _=>h a (by rw[z]; simp)
theorem qa5.refl {H B:Hp} (h:Le B H) (t: ∀a ps,B a≠some (.tbl ps)):qa5 H B H B:=⟨.refl _,.refl _,h,t,λ_ _ _ _ _=>rfl⟩
theorem qa5.trans {H B H1 B1 H2 B2:Hp} (a:qa5 H B H1 B1) (b:qa5 H1 B1 H2 B2):qa5 H B H2 B2:=
 ⟨a.gx.trans b.gx,a.bb.trans b.bb,b.bh,b.bt,λx o h n1 n2=>(b.nw x o (a.gx.hh x o h n2) n1 n2).trans (a.nw x o h n1 n2)⟩
theorem qa5.new {H B:Hp} {p:Addr} {o:HO} (h:Le B H) (t: ∀a ps,B a≠some (.tbl ps)) (hp:H p=none) (ho: ∀ps,o≠.tbl ps):qa5 H B (upd H p o) (upd B p o):=by
 have bp:B p=none:=by
  cases e:B p with
  | none=>rfl
  | some u=>rw[h _ _ e] at hp; cases hp
 refine ⟨⟨λa u e _=>by rw[qaj (qap e hp)]; exact e,λa e z=> ?_⟩,λa u e=>by rw[qaj (qap e bp)]; exact e,λa u e=> ?_,λa ps e=> ?_,nwo λa e=> ?_⟩
 ·by_cases q:a=p
  ·subst q; exact e hp
  ·rw[qaj q] at z; exact e z
 ·by_cases q:a=p
  ·subst q; rw[qal] at e⊢; exact e
  ·rw[qaj q] at e⊢; exact h _ _ e
 ·by_cases q:a=p
  ·subst q; rw[qal] at e; exact ho ps (Option.some.inj e)
  ·rw[qaj q] at e; exact t a ps e
 ·rw[qaj (λz=>e (by rw[z]; exact hp))]
theorem qa5.own {H B:Hp} {p:Addr} {o:HO} (h:Le B H) (t: ∀a ps,B a≠some (.tbl ps)) (hp:H p=none):qa5 H B (upd H p o) B:=by
 refine ⟨⟨λa u e _=>by rw[qaj (qap e hp)]; exact e,λa e z=> ?_⟩,.refl _,λa u e=> ?_,t,nwo λa e=>rfl⟩
 ·by_cases q:a=p
  ·subst q; exact e hp
  ·rw[qaj q] at z; exact e z
 ·rw[qaj (qap (h _ _ e) hp)]; exact h _ _ e
inductive Sl where
 | no | fz (t:T) | ow (ts:List T) | od (kvs:List (Key×T)) | ou (kvs:List (List Key×T)) | pd (kvs:List (Key×T)) | pu (kvs:List (List Key×T))
def qgG (K:PySem.W.Frag) (H0 H B:Hp) (pa:Addr):Sl->Option V->Prop
 | .no,_=>True
 | .fz t,o=> ∃v,o=some v/\Rep K B t v
 | .ow ts,o=> ∃p vs,o=some (.ref p)/\H0 p=none/\B p=none/\H p=some (.lst vs)/\qaP K B ts vs
 | .od kvs,o=> ∃p us,o=some (.ref p)/\H0 p=none/\B p=none/\H p=some (.dK us)/\qby K B kvs us
 | .ou kvs,o=> ∃p us,o=some (.ref p)/\H0 p=none/\B p=none/\H p=some (.dT us)/\qbv K B kvs us
 | .pd kvs,o=> ∃p us,p=pa/\o=some (.ref p)/\H0 p=none/\B p=none/\H p=some (.dK us)/\qby K B kvs us
 | .pu kvs,o=> ∃p us,p=pa/\o=some (.ref p)/\H0 p=none/\B p=none/\H p=some (.dT us)/\qbv K B kvs us
def Sl.own:Sl->Bool
 | .ow _=>true
 | .od _=>true
 | .ou _=>true
 | .pd _=>true
 | .pu _=>true
 | _=>false
structure Md where
 K:PySem.W.Frag
 G:Gam
 E:XK
 C:Str->Addr
 pa:Addr
abbrev Ro:=List Sl
structure Ev (M:Md) (H0 B0:Hp) (ρ:Ro) (σ:St) (H B:Hp):Prop where
 gr:qa5 H0 B0 H B
 gm:M.G.P H
 len:ρ.length=σ.length
 sl: ∀(i:Nat) (s:Sl),ρ[i]? =some s->qgG M.K H0 H B M.pa s (σ[i]?.join)
 ap: ∀(i j:Nat) (si sj:Sl) (p:Addr),i≠j->ρ[i]? =some si->ρ[j]? =some sj->si.own=true->sj.own=true->σ[i]?.join=some (.ref p)->σ[j]?.join≠some (.ref p)
section
variable {M:Md} {H0 B0 H B H' B':Hp} {ρ:Ro} {σ:St}
theorem qgG.grow {K:PySem.W.Frag} {pa:Addr} {s:Sl} {o:Option V} (h:qgG K H0 H B pa s o) (g:qa5 H B H' B'):qgG K H0 H' B' pa s o:=by
 cases s with
 | no=>trivial
 | fz t=>obtain ⟨v,e,r⟩:=h; exact ⟨v,e,r.mono g.bb⟩
 | ow ts=>
  obtain ⟨p,vs,e,h0,hb,hp,r⟩:=h
  exact ⟨p,vs,e,h0,by rw[g.nw p _ hp (by simp) (by simp)]; exact hb,g.gx.hh _ _ hp (by intro ps z; cases z),r.mono g.bb⟩
 | od ts=>
  obtain ⟨p,vs,e,h0,hb,hp,r⟩:=h
  exact ⟨p,vs,e,h0,by rw[g.nw p _ hp (by simp) (by simp)]; exact hb,g.gx.hh _ _ hp (by intro ps z; cases z),r.mono g.bb⟩
 | ou ts=>
  obtain ⟨p,vs,e,h0,hb,hp,r⟩:=h
  exact ⟨p,vs,e,h0,by rw[g.nw p _ hp (by simp) (by simp)]; exact hb,g.gx.hh _ _ hp (by intro ps z; cases z),r.mono g.bb⟩
 | pd ts=>
  obtain ⟨p,vs,e0,e,h0,hb,hp,r⟩:=h
  exact ⟨p,vs,e0,e,h0,by rw[g.nw p _ hp (by simp) (by simp)]; exact hb,g.gx.hh _ _ hp (by intro ps z; cases z),r.mono g.bb⟩
 | pu ts=>
  obtain ⟨p,vs,e0,e,h0,hb,hp,r⟩:=h
  exact ⟨p,vs,e0,e,h0,by rw[g.nw p _ hp (by simp) (by simp)]; exact hb,g.gx.hh _ _ hp (by intro ps z; cases z),r.mono g.bb⟩
theorem Ev.grow (v:Ev M H0 B0 ρ σ H B) (g:qa5 H B H' B') (m:M.G.P H'):Ev M H0 B0 ρ σ H' B':=
 ⟨v.gr.trans g,m,v.len,λi s e=>(v.sl i s e).grow g,v.ap⟩
theorem Ev.bh (v:Ev M H0 B0 ρ σ H B):Le B H:=v.gr.bh
theorem Ev.bt (v:Ev M H0 B0 ρ σ H B): ∀a ps,B a≠some (.tbl ps):=v.gr.bt
theorem Ev.new (v:Ev M H0 B0 ρ σ H B) {p:Addr} {o:HO} (hp:H p=none) (ho: ∀ps,o≠.tbl ps):qa5 H B (upd H p o) (upd B p o)/\M.G.P (upd H p o):=
 ⟨.new v.bh v.bt hp ho,M.G.st H _ (λa u e _ _ _ _=>by rw[qaj (qap e hp)]; exact e) v.gm⟩
theorem Ev.nown (v:Ev M H0 B0 ρ σ H B) {p:Addr} {o:HO} (hp:H p=none):qa5 H B (upd H p o) B/\M.G.P (upd H p o):=
 ⟨.own v.bh v.bt hp,M.G.st H _ (λa u e _ _ _ _=>by rw[qaj (qap e hp)]; exact e) v.gm⟩
theorem Ev.get (v:Ev M H0 B0 ρ σ H B) {i:Nat} {t:T} (e:ρ[i]? =some (.fz t)): ∃x,σ[i]? =some (some x)/\Rep M.K B t x:=by
 obtain ⟨x,e1,r⟩:=v.sl i _ e
 refine ⟨x,?_,r⟩
 cases q:σ[i]? with
 | none=>rw[q] at e1; cases e1
 | some o=>rw[q] at e1; cases o with
  | none=>cases e1
  | some y=>cases e1; rfl
theorem Ev.getOw (v:Ev M H0 B0 ρ σ H B) {i:Nat} {ts:List T} (e:ρ[i]? =some (.ow ts)): ∃p vs,σ[i]? =some (some (.ref p))/\H0 p=none/\B p=none/\H p=some (.lst vs)/\qaP M.K B ts vs:=by
 obtain ⟨p,vs,e1,r⟩:=v.sl i _ e
 refine ⟨p,vs,?_,r⟩
 cases q:σ[i]? with
 | none=>rw[q] at e1; cases e1
 | some o=>rw[q] at e1; cases o with
  | none=>cases e1
  | some y=>cases e1; rfl
theorem qdg {σ:St} {i j:Nat} {x:V} (hi:i<σ.length):(σ.set i (some x))[j]?.join=if i=j then some x else σ[j]?.join:=by
 rw[List.getElem?_set]
 by_cases q:i=j
 ·subst q; rw[if_pos rfl,if_pos rfl,if_pos hi]; rfl
 ·rw[if_neg q,if_neg q]
theorem Ev.set (v:Ev M H0 B0 ρ σ H B) {i:Nat} {t:T} {x:V} (r:Rep M.K B t x):Ev M H0 B0 (ρ.set i (.fz t)) (σ.set i (some x)) H B:=by
 by_cases hi:i<ρ.length
 case neg=>
  rw[List.set_eq_of_length_le (by lia),List.set_eq_of_length_le (by rw[<-v.len]; lia)]
  exact v
 have hi':i<σ.length:=by rw[<-v.len]; exact hi
 refine ⟨v.gr,v.gm,by simp[v.len],λj s e=> ?_,λj k sj sk p hjk ej ek oj ok a=> ?_⟩
 ·rw[qdg hi']
  rw[List.getElem?_set] at e
  by_cases q:i=j
  ·subst q
   rw[if_pos rfl,if_pos hi] at e
   cases e
   rw[if_pos rfl]
   exact ⟨x,rfl,r⟩
  ·rw[if_neg q] at e⊢
   exact v.sl j s e
 ·rw[List.getElem?_set] at ej ek
  by_cases q:i=j
  ·subst q; rw[if_pos rfl,if_pos hi] at ej; cases ej; cases oj
  ·by_cases q2:i=k
   ·subst q2; rw[if_pos rfl,if_pos hi] at ek; cases ek; cases ok
   ·rw[if_neg q] at ej
    rw[if_neg q2] at ek
    rw[qdg hi',if_neg q] at a
    rw[qdg hi',if_neg q2]
    exact v.ap j k sj sk p hjk ej ek oj ok a
theorem Ev.setOw (v:Ev M H0 B0 ρ σ H B) {i:Nat} {ts:List T} {p:Addr} {vs:List V} (h0:H0 p=none) (hb:B p=none) (hp:H p=some (.lst vs)) (r:qaP M.K B ts vs)
  (ap: ∀(j:Nat) (s:Sl),j≠i->ρ[j]? =some s->s.own=true->σ[j]?.join≠some (.ref p)):Ev M H0 B0 (ρ.set i (.ow ts)) (σ.set i (some (.ref p))) H B:=by
 by_cases hi:i<ρ.length
 case neg=>
  rw[List.set_eq_of_length_le (by lia),List.set_eq_of_length_le (by rw[<-v.len]; lia)]
  exact v
 have hi':i<σ.length:=by rw[<-v.len]; exact hi
 refine ⟨v.gr,v.gm,by simp[v.len],λj s e=> ?_,λj k sj sk p' hjk ej ek oj ok a=> ?_⟩
 ·rw[qdg hi']
  rw[List.getElem?_set] at e
  by_cases q:i=j
  ·subst q
   rw[if_pos rfl,if_pos hi] at e
   cases e
   rw[if_pos rfl]
   exact ⟨p,vs,rfl,h0,hb,hp,r⟩
  ·rw[if_neg q] at e⊢
   exact v.sl j s e
 ·rw[List.getElem?_set] at ej ek
  rw[qdg hi'] at a⊢
  by_cases q:i=j
  ·subst q
   rw[if_neg hjk] at ek
   rw[if_pos rfl] at a
   rw[if_neg hjk]
   cases a
   exact ap k sk (λz=>hjk z.symm) ek ok
  ·rw[if_neg q] at ej a
   by_cases q2:i=k
   ·subst q2
    rw[if_pos rfl]
    intro z
    cases z
    exact ap j sj hjk ej oj a
   ·rw[if_neg q2] at ek⊢
    exact v.ap j k sj sk p' hjk ej ek oj ok a
theorem Ev.putOw (v:Ev M H0 B0 ρ σ H B) {i:Nat} {ts us:List T} {p:Addr} {ws:List V} (e:ρ[i]? =some (.ow ts)) (es:σ[i]? =some (some (.ref p))) (r:qaP M.K B us ws):Ev M H0 B0 (ρ.set i (.ow us)) σ (upd H p (.lst ws)) B:=by
 obtain ⟨q,vs,e1,h0,hb,hp,_⟩:=v.getOw e
 rw[es] at e1; cases e1
 have hi:i<ρ.length:=(List.getElem?_eq_some_iff.mp e).1
 have neB: ∀a o,B a=some o->a≠p:=λa o z w=>by rw[w,hb] at z; cases z
 refine ⟨⟨⟨λa o z n=> ?_,λa z w=> ?_⟩,v.gr.bb,λa o z=> ?_,v.gr.bt,v.gr.nw⟩,M.G.st H _ (λa o z n1 n2 n3 n4=> ?_) v.gm,by simp[v.len],λj s ej=> ?_,λj k sj sk p' hjk ej ek oj ok a=> ?_⟩
 ·rw[qaj (qap z h0)]; exact v.gr.gx.hh a o z n
 ·by_cases q:a=p
  ·subst q; exact z h0
  ·rw[qaj q] at w; exact v.gr.gx.dm a z w
 ·rw[qaj (neB a o z)]; exact v.gr.bh a o z
 ·rw[qaj (qps z hp (n1 _))]; exact z
 ·rw[List.getElem?_set] at ej
  by_cases q:i=j
  ·subst q
   rw[if_pos rfl,if_pos hi] at ej
   cases ej
   exact ⟨p,ws,by rw[es]; rfl,h0,hb,qal,r⟩
  ·rw[if_neg q] at ej
   have o:=v.sl j s ej
   cases s with
   | no=>trivial
   | fz t=>exact o
   | ow ts'=>
    obtain ⟨p',vs',a1,a2,a3,a4,a5⟩:=o
    have ne:p'≠p:=λz=>by
     subst z
     exact v.ap i j _ _ p' q e ej rfl rfl (by rw[es]; rfl) a1
    exact ⟨p',vs',a1,a2,a3,by rw[qaj ne]; exact a4,a5⟩
   | od ts'=>
    obtain ⟨p',vs',a1,a2,a3,a4,a5⟩:=o
    have ne:p'≠p:=λz=>by
     subst z
     exact v.ap i j _ _ p' q e ej rfl rfl (by rw[es]; rfl) a1
    exact ⟨p',vs',a1,a2,a3,by rw[qaj ne]; exact a4,a5⟩
   | ou ts'=>
    obtain ⟨p',vs',a1,a2,a3,a4,a5⟩:=o
    have ne:p'≠p:=λz=>by
     subst z
     exact v.ap i j _ _ p' q e ej rfl rfl (by rw[es]; rfl) a1
    exact ⟨p',vs',a1,a2,a3,by rw[qaj ne]; exact a4,a5⟩
   | pd ts'=>
    obtain ⟨p',vs',a0,a1,a2,a3,a4,a5⟩:=o
    have ne:p'≠p:=λz=>by
     subst z
     exact v.ap i j _ _ p' q e ej rfl rfl (by rw[es]; rfl) a1
    exact ⟨p',vs',a0,a1,a2,a3,by rw[qaj ne]; exact a4,a5⟩
   | pu ts'=>
    obtain ⟨p',vs',a0,a1,a2,a3,a4,a5⟩:=o
    have ne:p'≠p:=λz=>by
     subst z
     exact v.ap i j _ _ p' q e ej rfl rfl (by rw[es]; rfl) a1
    exact ⟨p',vs',a0,a1,a2,a3,by rw[qaj ne]; exact a4,a5⟩
 ·have own_at: ∀(l:Nat) (sl:Sl),(ρ.set i (.ow us))[l]? =some sl->sl.own=true->∃sl',ρ[l]? =some sl'/\sl'.own=true:=λl sl el ol=>by
   rw[List.getElem?_set] at el
   by_cases q:i=l
   ·subst q; exact ⟨_,e,rfl⟩
   ·rw[if_neg q] at el; exact ⟨sl,el,ol⟩
  obtain ⟨sj',ej',oj'⟩:=own_at j sj ej oj
  obtain ⟨sk',ek',ok'⟩:=own_at k sk ek ok
  exact v.ap j k sj' sk' p' hjk ej' ek' oj' ok' a
theorem Ev.freeze (v:Ev M H0 B0 ρ σ H B) {i:Nat} {ts:List T} (e:ρ[i]? =some (.ow ts)): ∃B',Le B B'/\Ev M H0 B0 (ρ.set i (.fz (.lst ts))) σ H B':=by
 obtain ⟨p,vs,es,h0,hb,hp,r⟩:=v.getOw e
 have hi:i<ρ.length:=(List.getElem?_eq_some_iff.mp e).1
 have le:Le B (upd B p (.lst vs)):=λa o z=>by rw[qaj (qap z hb)]; exact z
 refine ⟨upd B p (.lst vs),le,⟨v.gr.gx,v.gr.bb.trans le,λa o z=> ?_,λa ps z=> ?_,λa o z n1 n2=> ?_⟩,v.gm,by simp[v.len],λj s ej=> ?_,λj k sj sk p' hjk ej ek oj ok a=> ?_⟩
 ·by_cases q:a=p
  ·subst q; rw[qal] at z; cases z; exact hp
  ·rw[qaj q] at z; exact v.gr.bh a o z
 ·by_cases q:a=p
  ·subst q; rw[qal] at z; cases z
  ·rw[qaj q] at z; exact v.gr.bt a ps z
 ·rw[qaj (λq=>by rw[q,h0] at z; cases z)]; exact v.gr.nw a o z n1 n2
 ·rw[List.getElem?_set] at ej
  by_cases q:i=j
  ·subst q
   rw[if_pos rfl,if_pos hi] at ej
   cases ej
   refine ⟨.ref p,by rw[es]; rfl,?_⟩
   unfold Rep
   exact ⟨p,vs,rfl,qal,r.mono le⟩
  ·rw[if_neg q] at ej
   have o:=v.sl j s ej
   cases s with
   | no=>trivial
   | fz t=>obtain ⟨x,a1,a2⟩:=o; exact ⟨x,a1,a2.mono le⟩
   | ow ts'=>
    obtain ⟨p',vs',a1,a2,a3,a4,a5⟩:=o
    have ne:p'≠p:=λz=>by
     subst z
     exact v.ap i j _ _ p' q e ej rfl rfl (by rw[es]; rfl) a1
    exact ⟨p',vs',a1,a2,by rw[qaj ne]; exact a3,a4,a5.mono le⟩
   | od ts'=>
    obtain ⟨p',vs',a1,a2,a3,a4,a5⟩:=o
    have ne:p'≠p:=λz=>by
     subst z
     exact v.ap i j _ _ p' q e ej rfl rfl (by rw[es]; rfl) a1
    exact ⟨p',vs',a1,a2,by rw[qaj ne]; exact a3,a4,a5.mono le⟩
   | ou ts'=>
    obtain ⟨p',vs',a1,a2,a3,a4,a5⟩:=o
    have ne:p'≠p:=λz=>by
     subst z
     exact v.ap i j _ _ p' q e ej rfl rfl (by rw[es]; rfl) a1
    exact ⟨p',vs',a1,a2,by rw[qaj ne]; exact a3,a4,a5.mono le⟩
   | pd ts'=>
    obtain ⟨p',vs',a0,a1,a2,a3,a4,a5⟩:=o
    have ne:p'≠p:=λz=>by
     subst z
     exact v.ap i j _ _ p' q e ej rfl rfl (by rw[es]; rfl) a1
    exact ⟨p',vs',a0,a1,a2,by rw[qaj ne]; exact a3,a4,a5.mono le⟩
   | pu ts'=>
    obtain ⟨p',vs',a0,a1,a2,a3,a4,a5⟩:=o
    have ne:p'≠p:=λz=>by
     subst z
     exact v.ap i j _ _ p' q e ej rfl rfl (by rw[es]; rfl) a1
    exact ⟨p',vs',a0,a1,a2,by rw[qaj ne]; exact a3,a4,a5.mono le⟩
 ·rw[List.getElem?_set] at ej ek
  by_cases q:i=j
  ·subst q; rw[if_pos rfl,if_pos hi] at ej; cases ej; cases oj
  ·by_cases q2:i=k
   ·subst q2; rw[if_pos rfl,if_pos hi] at ek; cases ek; cases ok
   ·rw[if_neg q] at ej
    rw[if_neg q2] at ek
    exact v.ap j k sj sk p' hjk ej ek oj ok a
end
end PL
end
section
namespace PL
open PySem L2
def quJ (M:Md) (H0 H B:Hp) (Q:VK):Rs T->Prop
 | .no=>False
 | .ok r=> ∀v H' B',qa5 H B H' B'->M.G.P H'->Rep M.K B' r v->Q v H'
 | .ex c=> ∀H',GX H0 H'->M.G.P H'->M.E (.ref (M.C c)) none H'
def qu7 (M:Md) (H0 H B:Hp) (Q:List V->Hp->Prop):Rs (List T)->Prop
 | .no=>False
 | .ok r=> ∀v H' B',qa5 H B H' B'->M.G.P H'->qaP M.K B' r v->Q v H'
 | .ex c=> ∀H',GX H0 H'->M.G.P H'->M.E (.ref (M.C c)) none H'
def qu6 (M:Md) (H0 H B:Hp) (Q:VK):Rs (List T)->Prop
 | .no=>False
 | .ok r=> ∀p vs H' B',qa5 H B H' B'->M.G.P H'->H p=none->B' p=none->H' p=some (.lst vs)->qaP M.K B' r vs->Q (.ref p) H'
 | .ex c=> ∀H',GX H0 H'->M.G.P H'->M.E (.ref (M.C c)) none H'
def qu5 (M:Md) (H0 H B:Hp) (Q:VK):Rs (Bool×List T)->Prop
 | .no=>False
 | .ok r=> ∀p vs H' B',qa5 H B H' B'->M.G.P H'->(if r.1=true then H' p=some (.lst vs) else SqT M.K B' p vs)->qaP M.K B' r.2 vs->Q (.ref p) H'
 | .ex c=> ∀H',GX H0 H'->M.G.P H'->M.E (.ref (M.C c)) none H'
def qst (M:Md) (H0 H B:Hp) (Q:Bool->Hp->Prop):Rs Bool->Prop
 | .no=>False
 | .ok r=> ∀H' B',qa5 H B H' B'->M.G.P H'->Q r H'
 | .ex c=> ∀H',GX H0 H'->M.G.P H'->M.E (.ref (M.C c)) none H'
def tP (M:Md) (d:Ro->Rs T):TE:=λσ H Q=> ∃H0 B0 ρ B,Ev M H0 B0 ρ σ H B/\quJ M H0 H B Q (d ρ)
def tPA (M:Md) (d:Ro->Rs (List T)):TA:=λσ H Q=> ∃H0 B0 ρ B,Ev M H0 B0 ρ σ H B/\qu7 M H0 H B Q (d ρ)
def tF (M:Md) (d:Ro->Rs (List T)):TE:=λσ H Q=> ∃H0 B0 ρ B,Ev M H0 B0 ρ σ H B/\qu6 M H0 H B Q (d ρ)
def tQ (M:Md) (d:Ro->Rs (Bool×List T)):TE:=λσ H Q=> ∃H0 B0 ρ B,Ev M H0 B0 ρ σ H B/\qu5 M H0 H B Q (d ρ)
def tPT (M:Md) (d:Ro->Rs Bool):TT:=λσ H Q=> ∃H0 B0 ρ B,Ev M H0 B0 ρ σ H B/\qst M H0 H B Q (d ρ)
abbrev DE (M:Md) (X:Cx) (e:Expr) (d:Ro->Rs T):Prop:=PE X e (tP M d)
abbrev DA (M:Md) (X:Cx) (es:List Expr) (d:Ro->Rs (List T)):Prop:=PA X es (tPA M d)
abbrev DF (M:Md) (X:Cx) (e:Expr) (d:Ro->Rs (List T)):Prop:=PE X e (tF M d)
abbrev DQ (M:Md) (X:Cx) (e:Expr) (d:Ro->Rs (Bool×List T)):Prop:=PE X e (tQ M d)
abbrev DT (M:Md) (X:Cx) (e:Expr) (d:Ro->Rs Bool):Prop:=PT X e (tPT M d)
theorem PE.weak {X:Cx} {e:Expr} {t t':TE} (h:PE X e t) (w: ∀σ H Q,t' σ H Q->t σ H Q):PE X e t':=λpins s σ H Q I q=>h pins s σ H Q I (w σ H Q q)
theorem PT.weak {X:Cx} {e:Expr} {t t':TT} (h:PT X e t) (w: ∀σ H Q,t' σ H Q->t σ H Q):PT X e t':=λpins s σ H Q I q=>h pins s σ H Q I (w σ H Q q)
theorem PA.weak {X:Cx} {e:List Expr} {t t':TA} (h:PA X e t) (w: ∀σ H Q,t' σ H Q->t σ H Q):PA X e t':=λpos pins s σ H Q I q=>h pos pins s σ H Q I (w σ H Q q)
theorem PS.weak {X:Cx} {e:Stmt} {t t':TS} (h:PS X e t) (w: ∀D σ H,t' D σ H->t D σ H):PS X e t':=λpins s σ H D I q=>h pins s σ H D I (w D σ H q)
theorem PSs.weak {X:Cx} {e:List Stmt} {t t':TS} (h:PSs X e t) (w: ∀D σ H,t' D σ H->t D σ H):PSs X e t':=λpins s σ H D I q=>h pins s σ H D I (w D σ H q)
section
variable {M:Md} {H0 B0 H B H1 B1:Hp} {ρ:Ro} {σ:St}
theorem qbA {p:Addr} (g:GX H H1) (h:H1 p=none):H p=none:=by
 cases e:H p with
 | none=>rfl
 | some o=>exact absurd h (g.dm p (by rw[e]; simp))
end
section
variable {M:Md} {H0 B0 H B:Hp} {ρ:Ro} {σ:St} {α:Type}
def Wnt (M:Md) (H0:Hp) (k:α->Prop):Rs α->Prop
 | .no=>False
 | .ok a=>k a
 | .ex c=> ∀H',GX H0 H'->M.G.P H'->M.E (.ref (M.C c)) none H'
theorem Wnt.bind {β:Type} {k:β->Prop} {r:Rs α} {f:α->Rs β} (h:Wnt M H0 k (r>>=f)):Wnt M H0 (λa=>Wnt M H0 k (f a)) r:=by
 cases r with
 | no=>exact h
 | ok a=>exact h
 | ex c=>exact h
theorem Wnt.mono {k k':α->Prop} {r:Rs α} (h:Wnt M H0 k r) (f: ∀a,k a->k' a):Wnt M H0 k' r:=by
 cases r with
 | no=>exact h
 | ok a=>exact f a h
 | ex c=>exact h
theorem qay {Q:VK} {r:Rs T}:quJ M H0 H B Q r↔Wnt M H0 (λa=> ∀v H' B',qa5 H B H' B'->M.G.P H'->Rep M.K B' a v->Q v H') r:=by cases r<;>exact Iff.rfl
theorem qiv {Q:List V->Hp->Prop} {r:Rs (List T)}:qu7 M H0 H B Q r↔Wnt M H0 (λa=> ∀v H' B',qa5 H B H' B'->M.G.P H'->qaP M.K B' a v->Q v H') r:=by cases r<;>exact Iff.rfl
theorem qbx {Q:VK} {r:Rs (List T)}:qu6 M H0 H B Q r↔Wnt M H0 (λa=> ∀p vs H' B',qa5 H B H' B'->M.G.P H'->H p=none->B' p=none->H' p=some (.lst vs)->qaP M.K B' a vs->Q (.ref p) H') r:=by cases r<;>exact Iff.rfl
theorem qdl {Q:VK} {r:Rs (Bool×List T)}:qu5 M H0 H B Q r↔Wnt M H0 (λa=> ∀p vs H' B',qa5 H B H' B'->M.G.P H'->(if a.1=true then H' p=some (.lst vs) else SqT M.K B' p vs)->qaP M.K B' a.2 vs->Q (.ref p) H') r:=by cases r<;>exact Iff.rfl
theorem qdk {Q:Bool->Hp->Prop} {r:Rs Bool}:qst M H0 H B Q r↔Wnt M H0 (λa=> ∀H' B',qa5 H B H' B'->M.G.P H'->Q a H') r:=by cases r<;>exact Iff.rfl
theorem tP.of {Q:VK} {d:Ro->Rs T} (ev:Ev M H0 B0 ρ σ H B) (h:Wnt M H0 (λa=> ∀v H' B',qa5 H B H' B'->M.G.P H'->Rep M.K B' a v->Q v H') (d ρ)):tP M d σ H Q:=⟨H0,B0,ρ,B,ev,qay.mpr h⟩
theorem tPA.of {Q:List V->Hp->Prop} {d:Ro->Rs (List T)} (ev:Ev M H0 B0 ρ σ H B) (h:Wnt M H0 (λa=> ∀v H' B',qa5 H B H' B'->M.G.P H'->qaP M.K B' a v->Q v H') (d ρ)):tPA M d σ H Q:=⟨H0,B0,ρ,B,ev,qiv.mpr h⟩
theorem tF.of {Q:VK} {d:Ro->Rs (List T)} (ev:Ev M H0 B0 ρ σ H B) (h:Wnt M H0 (λa=> ∀p vs H' B',qa5 H B H' B'->M.G.P H'->H p=none->B' p=none->H' p=some (.lst vs)->qaP M.K B' a vs->Q (.ref p) H') (d ρ)):tF M d σ H Q:=⟨H0,B0,ρ,B,ev,qbx.mpr h⟩
theorem tQ.of {Q:VK} {d:Ro->Rs (Bool×List T)} (ev:Ev M H0 B0 ρ σ H B) (h:Wnt M H0 (λa=> ∀p vs H' B',qa5 H B H' B'->M.G.P H'->(if a.1=true then H' p=some (.lst vs) else SqT M.K B' p vs)->qaP M.K B' a.2 vs->Q (.ref p) H') (d ρ)):tQ M d σ H Q:=⟨H0,B0,ρ,B,ev,qdl.mpr h⟩
theorem tPT.of {Q:Bool->Hp->Prop} {d:Ro->Rs Bool} (ev:Ev M H0 B0 ρ σ H B) (h:Wnt M H0 (λa=> ∀H' B',qa5 H B H' B'->M.G.P H'->Q a H') (d ρ)):tPT M d σ H Q:=⟨H0,B0,ρ,B,ev,qdk.mpr h⟩
end
def dV (i:Nat):Ro->Rs T:=λρ=>match ρ[i]? with | some (.fz t)=>.ok t | _=>.no
def dC (t:T):Ro->Rs T:=λ_=>.ok t
section
variable {M:Md} {X:Cx} {e a b c:Expr} {es:List Expr} {pos:Pos} {da db dc:Ro->Rs T} {ds:Ro->Rs (List T)}
theorem qaa {i:Nat} (h:PE X e (qhM i)):DE M X e (dV i):=by
 refine PE.weak h λσ H Q hq112=> ?_
 obtain ⟨H0,B0,ρ,B,ev,w⟩:=hq112
 have w:=qay.mp w
 unfold dV at w
 split at w
 ·rename_i t e1
  obtain ⟨x,e2,r⟩:=ev.get e1
  exact ⟨x,e2,w x H B (.refl ev.bh ev.bt) ev.gm r⟩
 ·exact w.elim
theorem qbN {v:V} {t:T} (h:PE X e (tC v)) (r: ∀B,Rep M.K B t v):DE M X e (dC t):=
 PE.weak h λσ H Q ⟨H0,B0,ρ,B,ev,w⟩=>w v H B (.refl ev.bh ev.bt) ev.gm (r B)
theorem qaf {i j pos}:DE M X (.Constant (.int i) j pos) (dC (.int i)):=qbN qdc λB=>by unfold Rep; rfl
theorem qev {i j pos}:DE M X (.Constant (.bool i) j pos) (dC (.bl i)):=qbN qtt λB=>by unfold Rep; rfl
theorem qaD {i j pos}:DE M X (.Constant (.str i) j pos) (dC (.str i)):=qbN qq9 λB=>by unfold Rep; rfl
def RS (M:Md) (r:R2) (g:T->T->Rs T):Prop:=
 ∀(H B:Hp) (x y:V) (a b c:T) (Q:VK),Le B H->(∀p ps,B p≠some (.tbl ps))->M.G.P H->Rep M.K B a x->Rep M.K B b y->g a b= .ok c->
  (∀v H' B',qa5 H B H' B'->M.G.P H'->Rep M.K B' c v->Q v H')->r x y H Q
def Pl (g:T->T->Rs T):Prop:= ∀a b c,g a b≠.ex c
def dB (g:T->T->Rs T) (da db:Ro->Rs T):Ro->Rs T:=λρ=>da ρ>>=λx=>db ρ>>=λy=>g x y
theorem qfp {r:R2} {g:T->T->Rs T} (hr:RS M r g) (hp:Pl g) {σ:St} {H:Hp} {Q:VK} (h:tP M (dB g da db) σ H Q):tOp r (tP M da) (tP M db) σ H Q:=by
 obtain ⟨H0,B0,ρ,B,ev,w⟩:=h
 refine tP.of ev (Wnt.mono (Wnt.bind (qay.mp w)) λx w1 v H1 B1 g1 m1 r1=> ?_)
 refine tP.of (ev.grow g1 m1) (Wnt.mono (Wnt.bind w1) λy w2 u H2 B2 g2 m2 r2=> ?_)
 cases e:g x y with
 | no=>rw[e] at w2; exact w2.elim
 | ex c=>exact absurd e (hp x y c)
 | ok z=>
  rw[e] at w2
  have ev2:=(ev.grow g1 m1).grow g2 m2
  exact hr H2 B2 v u x y z Q ev2.bh ev2.bt m2 (r1.mono g2.bb) r2 e λv' H' B' g' m' r'=>w2 v' H' B' ((g1.trans g2).trans g') m' r'
theorem qax {op:Operator} {r:R2} {g:T->T->Rs T} (ho:OpR X (binaryOp op) r) (hr:RS M r g) (hp:Pl g) (ha:DE M X a da) (hb:DE M X b db):DE M X (.BinOp a op b pos) (dB g da db):=
 PE.weak (qcY ho ha hb) λ_ _ _ h=>qfp hr hp h
theorem qgo {op:CmpOp} {r:R2} {g:T->T->Rs T} (ho:OpR X (compareOp op) r) (hr:RS M r g) (hp:Pl g) (ha:DE M X a da) (hb:DE M X b db) (hm:behindInMarks op b=false:=by first | exact qdR _ (by decide) (by decide) | rfl):DE M X (.Compare a [op] [b] pos) (dB g da db):=
 PE.weak (qkw ho ha hb hm) λ_ _ _ h=>qfp hr hp h
theorem qaI {r:R2} {g:T->T->Rs T} (ho:IxR X r) (hr:RS M r g) (hp:Pl g) (ha:DE M X a da) (hb:DE M X b db) (hs:ql8 b):DE M X (.Subscript a b pos) (dB g da db):=
 PE.weak (qpb ho ha hb hs) λ_ _ _ h=>qfp hr hp h
def qaq:Ro->Rs (List T):=λ_=>.ok []
def qab (da:Ro->Rs T) (ds:Ro->Rs (List T)):Ro->Rs (List T):=λρ=>da ρ>>=λx=>ds ρ>>=λxs=>.ok (x::xs)
theorem qak:DA M X [] qaq:=PA.weak qaL λσ H Q ⟨H0,B0,ρ,B,ev,w⟩=>w [] H B (.refl ev.bh ev.bt) ev.gm .nil
theorem qac (ha:DE M X e da) (hs:DA M X es ds) (hst:starEach (e::es) X.env=(false,eval e X.env)::starEach es X.env:=by rfl):DA M X (e::es) (qab da ds):=by
 refine PA.weak (qas ha hs hst) λσ H Q hq159=> ?_
 obtain ⟨H0,B0,ρ,B,ev,w⟩:=hq159
 refine tP.of ev (Wnt.mono (Wnt.bind (qiv.mp w)) λx w1 v H1 B1 g1 m1 r1=> ?_)
 refine tPA.of (ev.grow g1 m1) (Wnt.mono (Wnt.bind w1) λy w2 u H2 B2 g2 m2 r2=> ?_)
 exact w2 (v::u) H2 B2 (g1.trans g2) m2 (.cons (r1.mono g2.bb) r2)
def qbd (ds:Ro->Rs (List T)):Ro->Rs T:=λρ=>ds ρ>>=λxs=>if xs.length<=1000 then .ok (.tup xs) else .no
theorem qa3 {x1} (hs:DA M X es ds):DE M X (.Tuple es x1 pos) (qbd ds):=by
 refine PE.weak (qq8 hs) λσ H Q hq165=> ?_
 obtain ⟨H0,B0,ρ,B,ev,w⟩:=hq165
 refine tPA.of ev (Wnt.mono (Wnt.bind (qay.mp w)) λxs w1 vs H1 B1 g1 m1 r1=> ?_)
 have ev1:=ev.grow g1 m1
 split at w1
 ·rename_i hl
  refine ⟨Nat.le_of_lt (qa6 (by rw[r1.length]; exact hl)),λp hp=> ?_⟩
  obtain ⟨g2,m2⟩:=ev1.new (o:=.tup vs) hp (by intro ps z; cases z)
  refine w1 (.ref p) _ _ (g1.trans g2) m2 ?_
  unfold Rep
  exact ⟨p,vs,rfl,qal,r1.mono g2.bb⟩
 ·exact w1.elim
def qcU (ds:Ro->Rs (List T)):Ro->Rs (List T):=λρ=>ds ρ>>=λxs=>if xs.length<=1000 then .ok xs else .no
theorem qbM (hs:DA M X es ds):DF M X (.List es pos) (qcU ds):=by
 refine PE.weak (qn4 hs) λσ H Q hq178=> ?_
 obtain ⟨H0,B0,ρ,B,ev,w⟩:=hq178
 refine tPA.of ev (Wnt.mono (Wnt.bind (qbx.mp w)) λxs w1 vs H1 B1 g1 m1 r1=> ?_)
 have ev1:=ev.grow g1 m1
 split at w1
 ·rename_i hl
  refine ⟨Nat.le_of_lt (qa6 (by rw[r1.length]; exact hl)),λp hp=> ?_⟩
  obtain ⟨g2,m2⟩:=ev1.nown (o:=.lst vs) hp
  have bp:B1 p=none:=by
   cases q:B1 p with
   | none=>rfl
   | some u=>rw[ev1.bh _ _ q] at hp; cases hp
  exact w1 p vs _ _ (g1.trans g2) m2 (qbA g1.gx hp) bp qal r1
 ·exact w1.elim
def dFz (ds:Ro->Rs (List T)):Ro->Rs T:=λρ=>ds ρ>>=λxs=>.ok (.lst xs)
theorem qa5.freeze {H B H' B':Hp} {p:Addr} {vs:List V} (g:qa5 H B H' B') (h:H p=none) (hb:B' p=none) (hp:H' p=some (.lst vs)):qa5 H B H' (upd B' p (.lst vs))/\Le B' (upd B' p (.lst vs)):=by
 have le:Le B' (upd B' p (.lst vs)):=λa o z=>by rw[qaj (qap z hb)]; exact z
 refine ⟨⟨g.gx,g.bb.trans le,λa o z=> ?_,λa ps z=> ?_,λa o z n1 n2=> ?_⟩,le⟩
 ·by_cases q:a=p
  ·subst q; rw[qal] at z; cases z; exact hp
  ·rw[qaj q] at z; exact g.bh a o z
 ·by_cases q:a=p
  ·subst q; rw[qal] at z; cases z
  ·rw[qaj q] at z; exact g.bt a ps z
 ·rw[qaj (λq=>by rw[q,h] at z; cases z)]; exact g.nw a o z n1 n2
theorem qaM {e:Expr} (h:DF M X e ds):DE M X e (dFz ds):=by
 refine PE.weak h λσ H Q hq204=> ?_
 obtain ⟨H0,B0,ρ,B,ev,w⟩:=hq204
 refine tF.of ev (Wnt.mono (Wnt.bind (qay.mp w)) λxs w1 p vs H1 B1 g1 m1 hp hb hl r1=> ?_)
 obtain ⟨g2,le⟩:=g1.freeze hp hb hl
 refine w1 (.ref p) H1 _ g2 m1 ?_
 unfold Rep
 exact ⟨p,vs,rfl,qal,r1.mono le⟩
def qfh:T->Rs (Bool×List T)
 | .lst ts=>.ok (true,ts)
 | .tup ts=>.ok (false,ts)
 | _=>.no
def dQ (da:Ro->Rs T):Ro->Rs (Bool×List T):=λρ=>da ρ>>=qfh
theorem qho (ha:DE M X e da):DQ M X e (dQ da):=by
 refine PE.weak ha λσ H Q hq217=> ?_
 obtain ⟨H0,B0,ρ,B,ev,w⟩:=hq217
 refine tP.of ev (Wnt.mono (Wnt.bind (qdl.mp w)) λx w1 v H1 B1 g1 m1 r1=> ?_)
 cases x with
 | lst ts=>
  unfold Rep at r1
  obtain ⟨p,vs,rfl,hp,r⟩:=r1
  exact w1 p vs H1 B1 g1 m1 (by rw[if_pos rfl]; exact g1.bh _ _ hp) r
 | tup ts=>
  unfold Rep at r1
  obtain ⟨p,vs,rfl,hp,r⟩:=r1
  exact w1 p vs H1 B1 g1 m1 (by rw[if_neg (by intro z; cases z)]; exact (SqT.of hp)) r
 | _=>exact w1.elim
def dQF (ds:Ro->Rs (List T)):Ro->Rs (Bool×List T):=λρ=>ds ρ>>=λts=>.ok (true,ts)
theorem qbT (h:DF M X e ds):DQ M X e (dQF ds):=by
 refine PE.weak h λσ H Q hq231=> ?_
 obtain ⟨H0,B0,ρ,B,ev,w⟩:=hq231
 exact tF.of ev (Wnt.mono (Wnt.bind (qdl.mp w)) λxs w1 p vs H1 B1 g1 m1 hp hb hl r1=>w1 p vs H1 B1 g1 m1 (by rw[if_pos rfl]; exact hl) r1)
def dQV (i:Nat):Ro->Rs (Bool×List T):=λρ=>match ρ[i]? with | some (.fz t)=>qfh t | some (.ow ts)=>.ok (true,ts) | _=>.no
theorem qaV {i:Nat} (h:PE X e (qhM i)):DQ M X e (dQV i):=by
 refine PE.weak h λσ H Q hq236=> ?_
 obtain ⟨H0,B0,ρ,B,ev,w⟩:=hq236
 have w:=qdl.mp w
 unfold dQV at w
 split at w
 ·rename_i t e1
  obtain ⟨x,e2,r⟩:=ev.get e1
  refine ⟨x,e2,?_⟩
  cases t with
  | lst ts=>
   unfold Rep at r
   obtain ⟨p,vs,rfl,hp,r⟩:=r
   exact w p vs H B (.refl ev.bh ev.bt) ev.gm (by rw[if_pos rfl]; exact ev.bh _ _ hp) r
  | tup ts=>
   unfold Rep at r
   obtain ⟨p,vs,rfl,hp,r⟩:=r
   exact w p vs H B (.refl ev.bh ev.bt) ev.gm (by rw[if_neg (by intro z; cases z)]; exact (SqT.of hp)) r
  | _=>exact w.elim
 ·rename_i ts e1
  obtain ⟨p,vs,e2,h0,hb,hp,r⟩:=ev.getOw e1
  exact ⟨.ref p,e2,w p vs H B (.refl ev.bh ev.bt) ev.gm (by rw[if_pos rfl]; exact hp) r⟩
 ·exact w.elim
end
end PL
end
section
namespace PL
open PySem L2
inductive Out where
 | nx (ρ:Ro) | rt (t:T) | bk (ρ:Ro) | ct (ρ:Ro) | rs (s:Sl) (ρ:Ro)
def qnV (M:Md) (H0 B0 B:Hp) (D:qox):Out->Prop
 | .nx ρ=> ∀σ' H' B',Ev M H0 B0 ρ σ' H' B'->Le B B'->D.nx σ' H'
 | .bk ρ=> ∀σ' H' B',Ev M H0 B0 ρ σ' H' B'->Le B B'->D.bk σ' H'
 | .ct ρ=> ∀σ' H' B',Ev M H0 B0 ρ σ' H' B'->Le B B'->D.ct σ' H'
 | .rt t=> ∀v H' B',qa5 H0 B0 H' B'->M.G.P H'->Rep M.K B' t v->D.rt v H'
 | .rs s ρ=> ∀v σ' H' B',Ev M H0 B0 (s::ρ) (some v::σ') H' B'->Le B B'->D.rt v H'
theorem qnV.mono {M:Md} {H0 B0 B B1:Hp} {D:qox} {o:Out} (h:qnV M H0 B0 B D o) (le:Le B B1):qnV M H0 B0 B1 D o:=by
 cases o with
 | nx ρ=>exact λσ' H' B' e l=>h σ' H' B' e (le.trans l)
 | bk ρ=>exact λσ' H' B' e l=>h σ' H' B' e (le.trans l)
 | ct ρ=>exact λσ' H' B' e l=>h σ' H' B' e (le.trans l)
 | rt t=>exact h
 | rs t ρ=>exact λv σ' H' B' e l=>h v σ' H' B' e (le.trans l)
def tS (M:Md) (d:Ro->Rs Out):TS:=λD σ H=> ∃H0 B0 ρ B,Ev M H0 B0 ρ σ H B/\Wnt M H0 (qnV M H0 B0 B D) (d ρ)
abbrev DS (M:Md) (X:Cx) (st:Stmt) (d:Ro->Rs Out):Prop:=PS X st (tS M d)
abbrev DSs (M:Md) (X:Cx) (st:List Stmt) (d:Ro->Rs Out):Prop:=PSs X st (tS M d)
def qaA:Ro->Rs Out:=λρ=>.ok (.nx ρ)
def qdp (o:Out) (e:Ro->Rs Out):Rs Out:=match o with | .nx ρ=>e ρ | o=>.ok o
def qaJ (d e:Ro->Rs Out):Ro->Rs Out:=λρ=>d ρ>>=λo=>qdp o e
def qa4 (da:Ro->Rs T):Ro->Rs Out:=λρ=>da ρ>>=λt=>.ok (.rt t)
def qbr (i:Nat) (da:Ro->Rs T):Ro->Rs Out:=λρ=>da ρ>>=λt=>.ok (.nx (ρ.set i (.fz t)))
def qdz (i:Nat) (ds:Ro->Rs (List T)):Ro->Rs Out:=λρ=>ds ρ>>=λts=>.ok (.nx (ρ.set i (.ow ts)))
def qhv (da:Ro->Rs T):Ro->Rs Out:=λρ=>da ρ>>=λ_=>.ok (.nx ρ)
def dIf (dt:Ro->Rs Bool) (d e:Ro->Rs Out):Ro->Rs Out:=λρ=>dt ρ>>=λc=>if c=true then d ρ else e ρ
def dNo:Ro->Rs Out:=λ_=>.no
def qdF (ρ:Ro) (i:Nat) (us:List T):Rs Out:=match ρ[i]? with
 | some (.ow ts)=>if ts.length+us.length<=1000 then .ok (.nx (ρ.set i (.ow (ts++us)))) else .no
 | _=>.no
def qn6 (ρ:Ro) (i:Nat):Rs Unit:=match ρ[i]? with | some (.ow _)=>.ok () | _=>.no
def qdo (i:Nat) (da:Ro->Rs T):Ro->Rs Out:=λρ=>qn6 ρ i>>=λ_=>da ρ>>=λt=>qdF ρ i [t]
def qqp (i:Nat) (dq:Ro->Rs (Bool×List T)):Ro->Rs Out:=λρ=>qn6 ρ i>>=λ_=>dq ρ>>=λq=>if q.1=true then qdF ρ i q.2 else .no
def frz (i:Nat) (ρ:Ro):Ro:=match ρ[i]? with | some (.ow ts)=>ρ.set i (.fz (.lst ts)) | _=>ρ
section
variable {M:Md} {X:Cx} {e a b c:Expr} {st:Stmt} {qce sts sts':List Stmt} {pos:Pos} {da db dk:Ro->Rs T} {ds:Ro->Rs (List T)} {d d':Ro->Rs Out} {dt:Ro->Rs Bool} {dq:Ro->Rs (Bool×List T)} {x:Str} {pos':Pos} {i:Nat}
theorem qaz:DSs M X [] qaA:=PSs.weak qgX λD σ H ⟨H0,B0,ρ,B,ev,w⟩=>w σ H B ev (.refl _)
theorem qae (h:DS M X st d) (h':DSs M X qce d'):DSs M X (st::qce) (qaJ d d'):=by
 refine PSs.weak (qdQ h h') λD σ H hq48=> ?_
 obtain ⟨H0,B0,ρ,B,ev,w⟩:=hq48
 refine ⟨H0,B0,ρ,B,ev,Wnt.mono (Wnt.bind w) λo w1=> ?_⟩
 cases o with
 | nx ρ'=>exact λσ' H' B' ev' le=>⟨H0,B0,ρ',B',ev',Wnt.mono w1 λo q=>q.mono le⟩
 | bk ρ'=>exact w1
 | ct ρ'=>exact w1
 | rs t ρ'=>exact w1
 | rt t=>exact w1
theorem qai (h:DS M X st d):DSs M X [st] d:=qea h
theorem qes:DSs M X sts dNo:=PSs.weak qkp λD σ H ⟨H0,B0,ρ,B,ev,w⟩=>w
theorem qaC (h:DE M X e da):DS M X (.Return (some e) pos) (qa4 da):=by
 refine PS.weak (qcK h) λD σ H hq59=> ?_
 obtain ⟨H0,B0,ρ,B,ev,w⟩:=hq59
 exact tP.of ev (Wnt.mono (Wnt.bind w) λt w1 v H' B' g m r=>w1 v H' B' (ev.gr.trans g) m r)
theorem qfw (h:DE M X e da) (hs:swapsWith e none pos.line X.env=pure false:=by rfl):DS M X (.Expr e pos) (qhv da):=by
 refine PS.weak (qfn h hs) λD σ H hq68=> ?_
 obtain ⟨H0,B0,ρ,B,ev,w⟩:=hq68
 exact tP.of ev (Wnt.mono (Wnt.bind w) λt w1 v H' B' g m r=>w1 σ H' B' (ev.grow g m) g.bb)
theorem qaZ (hc:DT M X c dt) (h:DSs M X sts d) (h':DSs M X sts' d'):DS M X (.If c sts sts' pos) (dIf dt d d'):=by
 refine PS.weak (qo2 hc h h') λD σ H hq71=> ?_
 obtain ⟨H0,B0,ρ,B,ev,w⟩:=hq71
 refine tPT.of ev (Wnt.mono (Wnt.bind w) λt w1 H' B' g m=> ?_)
 cases t with
 | true=>exact ⟨H0,B0,ρ,B',ev.grow g m,Wnt.mono w1 λo q=>q.mono g.bb⟩
 | false=>exact ⟨H0,B0,ρ,B',ev.grow g m,Wnt.mono w1 λo q=>q.mono g.bb⟩
theorem qa1 (hN:X.N.Nodup) (hi:X.N[i]? =some x) (hx:Loc X.env.scope x) (h:DE M X e da) (hs:swapsWith e (some (.Name x pos')) pos.line X.env=pure false:=by rfl) (hf:X.fn x=true\/X.env.scope.names.lookup x=some .local:=by first | exact .inl rfl | exact .inr rfl | assumption):
  DS M X (.Assign [.Name x pos'] e pos) (qbr i da):=by
 refine PS.weak (qfV hN hi hx h hs hf) λD σ H hq78=> ?_
 obtain ⟨H0,B0,ρ,B,ev,w⟩:=hq78
 exact tP.of ev (Wnt.mono (Wnt.bind w) λt w1 v H' B' g m r=>w1 _ H' B' ((ev.grow g m).set r) g.bb)
theorem Ev.newOwn {M:Md} {H0 B0 H B H' B':Hp} {ρ:Ro} {σ:St} {p:Addr} {vs:List V} {ts:List T} (i:Nat) (ev:Ev M H0 B0 ρ σ H B) (g:qa5 H B H' B') (m:M.G.P H') (hp:H p=none) (hb:B' p=none) (hl:H' p=some (.lst vs)) (r:qaP M.K B' ts vs):
  Ev M H0 B0 (ρ.set i (.ow ts)) (σ.set i (some (.ref p))) H' B':=by
 refine (ev.grow g m).setOw (qbA ev.gr.gx hp) hb hl r λj s hj e o z=> ?_
 have q:=ev.sl j s e
 cases s with
 | no=>cases o
 | fz t=>cases o
 | ow ts'=>
  obtain ⟨p',vs',a1,a2,a3,a4,a5⟩:=q
  rw[a1] at z; cases z
  rw[a4] at hp; cases hp
 | od ts'=>
  obtain ⟨p',vs',a1,a2,a3,a4,a5⟩:=q
  rw[a1] at z; cases z
  rw[a4] at hp; cases hp
 | ou ts'=>
  obtain ⟨p',vs',a1,a2,a3,a4,a5⟩:=q
  rw[a1] at z; cases z
  rw[a4] at hp; cases hp
 | pd ts'=>
  obtain ⟨p',vs',a0,a1,a2,a3,a4,a5⟩:=q
  rw[a1] at z; cases z
  rw[a4] at hp; cases hp
 | pu ts'=>
  obtain ⟨p',vs',a0,a1,a2,a3,a4,a5⟩:=q
  rw[a1] at z; cases z
  rw[a4] at hp; cases hp
theorem qct (hN:X.N.Nodup) (hi:X.N[i]? =some x) (hx:Loc X.env.scope x) (h:DF M X e ds) (hs:swapsWith e (some (.Name x pos')) pos.line X.env=pure false:=by rfl) (hf:X.fn x=true\/X.env.scope.names.lookup x=some .local:=by first | exact .inl rfl | exact .inr rfl | assumption):
  DS M X (.Assign [.Name x pos'] e pos) (qdz i ds):=by
 refine PS.weak (qfV hN hi hx h hs hf) λD σ H hq97=> ?_
 obtain ⟨H0,B0,ρ,B,ev,w⟩:=hq97
 exact tF.of ev (Wnt.mono (Wnt.bind w) λt w1 p vs H' B' g m hp hb hl r=>w1 _ H' B' (ev.newOwn i g m hp hb hl r) g.bb)
theorem qkn {M:Md} {H0 B0 H B:Hp} {ρ:Ro} {σ:St} {us:List T} {ws:List V} {Bs:Hp} {D:qox} (ev:Ev M H0 B0 ρ σ H B) (r:qaP M.K B us ws) (w:Wnt M H0 (qnV M H0 B0 Bs D) (qdF ρ i us)) (le:Le Bs B):
  ∃p vs,σ[i]? =some (some (.ref p))/\H p=some (.lst vs)/\B p=none/\vs.length+ws.length<sizeLine/\D.nx σ (upd H p (.lst (vs++ws))):=by
 unfold qdF at w
 split at w
 ·rename_i ts e1
  split at w
  ·rename_i hl
   obtain ⟨p,vs,e2,h0,hb,hp,rv⟩:=ev.getOw e1
   refine ⟨p,vs,e2,hp,hb,qa6 (by rw[rv.length,r.length]; exact hl),w σ _ B (ev.putOw e1 e2 (rv.append r)) le⟩
  ·exact w.elim
 ·exact w.elim
theorem qn5 {M:Md} {H0:Hp} {ρ:Ro} {α:Type} {k:α->Prop} {f:Unit->Rs α} (w:Wnt M H0 k (qn6 ρ i>>=f)): ∃ts,ρ[i]? =some (.ow ts)/\Wnt M H0 k (f ()):=by
 unfold qn6 at w
 split at w
 ·rename_i ts e1; exact ⟨ts,e1,w⟩
 ·exact w.elim
theorem qbo {m:Expr} (h:PE X m (tBM X.K "list" qkj (qhM i) (qcV (tP M da) qjG))) (hs:swapsWith m none pos.line X.env=pure false:=by rfl):DS M X (.Expr m pos) (qdo i da):=by
 refine PS.weak (qfn h hs) λD σ H hq116=> ?_
 obtain ⟨H0,B0,ρ,B,ev,w⟩:=hq116
 obtain ⟨ts,e1,w⟩:=qn5 w
 obtain ⟨p,vs,e2,h0,hb,hp,rv⟩:=ev.getOw e1
 refine ⟨.ref p,e2,.inl ⟨rfl,_,SqL.of hp⟩,?_⟩
 refine tP.of ev (Wnt.mono (Wnt.bind w) λt w1 v H' B' g m r=> ?_)
 obtain ⟨p',vs',q1,q2,q3,q4,q5⟩:=qkn (Bs:=B) (ev.grow g m) (.cons r .nil) w1 g.bb
 rw[e2] at q1; cases q1
 exact ⟨p,vs',v,rfl,rfl,q2,by simpa using Nat.lt_of_succ_lt q4,q5⟩
theorem qlx {m:Expr} (h:PE X m (tBM X.K "list" qki (qhM i) (qcV (tQ M dq) qjG))) (hs:swapsWith m none pos.line X.env=pure false:=by rfl):DS M X (.Expr m pos) (qqp i dq):=by
 refine PS.weak (qfn h hs) λD σ H hq125=> ?_
 obtain ⟨H0,B0,ρ,B,ev,w⟩:=hq125
 obtain ⟨ts,e1,w⟩:=qn5 w
 obtain ⟨p,vs,e2,h0,hb,hp,rv⟩:=ev.getOw e1
 refine ⟨.ref p,e2,.inl ⟨rfl,_,SqL.of hp⟩,?_⟩
 refine tQ.of ev (Wnt.mono (Wnt.bind w) λt w1 b us H' B' g m hq r=> ?_)
 split at w1
 ·rename_i hc
  rw[if_pos hc] at hq
  obtain ⟨p',vs',q1,q2,q3,q4,q5⟩:=qkn (Bs:=B) (ev.grow g m) r w1 g.bb
  rw[e2] at q1; cases q1
  exact ⟨p,b,vs',us,rfl,rfl,q2,hq,Nat.le_of_lt q4,q5⟩
 ·exact w1.elim
theorem Ev.frz {M:Md} {H0 B0 H B:Hp} {ρ:Ro} {σ:St} (i:Nat) (ev:Ev M H0 B0 ρ σ H B): ∃B',Le B B'/\Ev M H0 B0 (frz i ρ) σ H B':=by
 unfold PL.frz
 split
 ·rename_i ts e1; exact ev.freeze e1
 ·exact ⟨B,.refl _,ev⟩
theorem qiy (i:Nat) (h:DS M X st d):DS M X st (λρ=>d (frz i ρ)):=by
 refine PS.weak h λD σ H hq167=> ?_
 obtain ⟨H0,B0,ρ,B,ev,w⟩:=hq167
 obtain ⟨B',le,ev'⟩:=ev.frz i
 exact ⟨H0,B0,_,B',ev',Wnt.mono w λo q=>q.mono le⟩
end
def tG (M:Md) (dg:T->Ro->Rs Ro):TG:=λv σ H Q=> ∃H0 B0 ρ B t,Ev M H0 B0 ρ σ H B/\Rep M.K B t v/\Wnt M H0 (λρ'=> ∀σ',Ev M H0 B0 ρ' σ' H B->Q σ' H) (dg t ρ)
def tGs (M:Md) (dg:List T->Ro->Rs Ro):TGs:=λv σ H Q=> ∃H0 B0 ρ B t,Ev M H0 B0 ρ σ H B/\qaP M.K B t v/\Wnt M H0 (λρ'=> ∀σ',Ev M H0 B0 ρ' σ' H B->Q σ' H) (dg t ρ)
abbrev DG (M:Md) (X:Cx) (e:Expr) (dg:T->Ro->Rs Ro):Prop:=PG X e (tG M dg)
abbrev DGs (M:Md) (X:Cx) (e:List Expr) (dg:List T->Ro->Rs Ro):Prop:=PGs X e (tGs M dg)
theorem PG.weak {X:Cx} {e:Expr} {t t':TG} (h:PG X e t) (w: ∀v σ H Q,t' v σ H Q->t v σ H Q):PG X e t':=λpins s σ H v u Q I r q=>h pins s σ H v u Q I r (w v σ H Q q)
theorem PGs.weak {X:Cx} {e:List Expr} {t t':TGs} (h:PGs X e t) (w: ∀v σ H Q,t' v σ H Q->t v σ H Q):PGs X e t':=λpins s σ H v u Q I r q=>h pins s σ H v u Q I r (w v σ H Q q)
def gN (i:Nat):T->Ro->Rs Ro:=λt ρ=>.ok (ρ.set i (.fz t))
def gsN:List T->Ro->Rs Ro:=λts ρ=>match ts with | []=>.ok ρ | _=>.no
def gsC (dg:T->Ro->Rs Ro) (dr:List T->Ro->Rs Ro):List T->Ro->Rs Ro:=λts ρ=>match ts with | t::r=>dg t ρ>>=dr r | []=>.no
def gT (n:Nat) (dr:List T->Ro->Rs Ro):T->Ro->Rs Ro:=λt ρ=>match t with | .tup ts=>if ts.length=n then dr ts ρ else .no | _=>.no
section
variable {M:Md} {X:Cx} {e:Expr} {es:List Expr} {pos:Pos} {i:Nat} {x:Str} {dg:T->Ro->Rs Ro} {dr:List T->Ro->Rs Ro}
theorem qaS {i:Nat} (h:PG X e (qpF i)):DG M X e (gN i):=PG.weak h λv σ H Q ⟨H0,B0,ρ,B,t,ev,r,w⟩=>w _ (ev.set r)
theorem qbW:DGs M X [] gsN:=PGs.weak qpa λv σ H Q ⟨H0,B0,ρ,B,t,ev,r,w⟩=>by
 cases t with
 | nil=>exact ⟨r.inv0,w σ ev⟩
 | cons _ _=>exact w.elim
theorem qaF (h1:DG M X e dg) (h2:DGs M X es dr) (hs:(assignEach (e::es) X.env).map (·.2)=assign e X.env::(assignEach es X.env).map (·.2):=by rfl):DGs M X (e::es) (gsC dg dr):=by
 refine PGs.weak (qmR h1 h2 hs) λv σ H Q hq194=> ?_
 obtain ⟨H0,B0,ρ,B,t,ev,r,w⟩:=hq194
 cases t with
 | nil=>exact w.elim
 | cons t ts=>
  obtain ⟨u,vs,rfl,ra,rb⟩:=r.inv
  exact ⟨u,vs,rfl,H0,B0,ρ,B,t,ev,ra,Wnt.mono (Wnt.bind w) λρ' w1 σ' ev'=>⟨H0,B0,ρ',B,ts,ev',rb,w1⟩⟩
theorem qcS {k n:Nat} (hc:X.calm=true) (h:DGs M X es dr) (hK:X.K=M.K:=by rfl) (hn:(assignEach es X.env).length=n:=by rfl) (hst:(assignEach es X.env).findIdx? (·.1)=none:=by rfl):DG M X (.Tuple es k pos) (gT n dr):=by
 refine PG.weak (qq6 hc h hn hst) λv σ H Q hq201=> ?_
 obtain ⟨H0,B0,ρ,B,t,ev,r,w⟩:=hq201
 cases t with
 | tup ts=>
  unfold gT at w
  dsimp only at w
  split at w
  ·rename_i hl
   unfold Rep at r
   obtain ⟨p,vs,rfl,hp,rs⟩:=r
   exact ⟨p,vs,rfl,by rw[hK]; exact ev.bh.sqT (SqT.of hp),by rw[rs.length]; exact hl,H0,B0,ρ,B,ts,ev,rs,w⟩
  ·exact w.elim
 | _=>exact w.elim
end
def qu1 (M:Md) (J:It) (B1:Hp) (ts:List T):Prop:= ∀H' B',Le B1 B'->Le B' H'->(∀a ps,B' a≠some (.tbl ps))->M.G.P H'->∀i:Nat,
 (∀t,ts[i]? =some t->J.go i H'/\∀x H'',J.yld i H' x H''->∃B'',qa5 H' B' H'' B''/\M.G.P H''/\Rep M.K B'' t x)/\(i=ts.length->J.stop i H')
def tI (M:Md) (d:Ro->Rs (List T)):TI:=λσ H R=> ∃H0 B0 ρ B,Ev M H0 B0 ρ σ H B/\Wnt M H0 (λts=> ∀J H1 B1,qa5 H B H1 B1->M.G.P H1->ts.length<=sizeLine->qu1 M J B1 ts->R J H1) (d ρ)
abbrev DI (M:Md) (X:Cx) (tg e:Expr) (d:Ro->Rs (List T)):Prop:=PI X tg e (tI M d)
theorem PI.weak {X:Cx} {tg e:Expr} {t t':TI} (h:PI X tg e t) (w: ∀σ H Q,t' σ H Q->t σ H Q):PI X tg e t':=λpins s σ H Q I q=>h pins s σ H Q I (w σ H Q q)
section
variable {M:Md} {X:Cx} {tg e:Expr} {da:Ro->Rs T} {ds:Ro->Rs (List T)}
def qvP (K:PySem.W.Frag) (tl:TE):TI:=λσ H R=>tl σ H λx H1=> ∃a,x= .ref a/\(((∃xs,SqL K H1 a xs/\(xs.length<=sizeLine->R (Itl K a) H1)))\/(∃xs,SqT K H1 a xs/\(xs.length<=sizeLine->R (Itt K a) H1)))
theorem qq5 {l:Expr} {tl:TE} (hl:PE X l tl):PI X tg l (qvP X.K tl):=by
 intro pins s σ H R I h
 refine thn (hl pins s σ H _ I h) λv s1 hq232=> ?_
 obtain ⟨x,H1,I1,r1,q1⟩:=hq232
 obtain ⟨a,e,q⟩:=q1
 subst e
 cases r1
 rcases q with ⟨xs,hq,q⟩ | ⟨xs,hq,q⟩
 ·obtain ⟨its,rv,p,hz⟩:=I1.list hq
  have q:=q hz
  refine wpAny_pyIter_list p.isList ?_
  refine ⟨s1.heap.objs.size,[s1.heap.objs.size],_,_,H1,rfl,I1.kept (t':=s1.toks) λb o e=>Heap.get?_push_of_some _ e,qjL a _,⟨_,Heap.get?_push_size _ rfl,rfl,rfl⟩,λb hb=> ?_,q⟩
  have e:b=s1.heap.objs.size:=by simpa using hb
  subst e
  exact I1.fpOk (Nat.le_refl _) (I1.hok.fresh (Nat.le_refl _))
 ·obtain ⟨its,rv,p,hz⟩:=I1.tuple hq
  have q:=q hz
  refine wpAny_pyIter_tuple p ?_
  refine ⟨s1.heap.objs.size,[s1.heap.objs.size],_,_,H1,rfl,I1.kept (t':=s1.toks) λb o e=>Heap.get?_push_of_some _ e,qiM a _,⟨_,Heap.get?_push_size _ rfl,rfl,rfl⟩,λb hb=> ?_,q⟩
  have e:b=s1.heap.objs.size:=by simpa using hb
  subst e
  exact I1.fpOk (Nat.le_refl _) (I1.hok.fresh (Nat.le_refl _))
end
end PL
end
section
namespace PL
open PySem L2
def qc2:T->Rs (List T)
 | .lst ts=>.ok ts
 | .tup ts=>.ok ts
 | _=>.no
def dI (da:Ro->Rs T):Ro->Rs (List T):=λρ=>da ρ>>=qc2
def qjW:T->Rs (List T)
 | .str z=>if z.length<=1000 then .ok (z.cps.toList.map λc=>.str ⟨#[c]⟩) else .no
 | _=>.no
def dIS (da:Ro->Rs T):Ro->Rs (List T):=λρ=>da ρ>>=qjW
def qvb (lo hi:Int):List T:=(List.range (hi - lo).toNat).map λk=>.int (lo+(k:Nat))
def qfU:List T->Rs (List T)
 | [.int n]=>if n<=1000000/\ -1000000<=n then .ok ((List.range n.toNat).map λk=>.int (k:Nat)) else .no
 | _=>.no
def qqV:List T->Rs (List T)
 | [.int m,.int n]=>if (n<=1000000/\ -1000000<=n)/\m<=1000000/\ -1000000<=m then .ok (qvb m n) else .no
 | _=>.no
def qp5 (ds:Ro->Rs (List T)):Ro->Rs (List T):=λρ=>ds ρ>>=qfU
def qv6 (ds:Ro->Rs (List T)):Ro->Rs (List T):=λρ=>ds ρ>>=qqV
def zipT (xs ys:List T):List T:=(xs.zip ys).map λp=>.tup [p.1,p.2]
def qoy:List T->Rs (List T)
 | [.lst xs,.lst ys]=>.ok (zipT xs ys)
 | _=>.no
def dIZ (ds:Ro->Rs (List T)):Ro->Rs (List T):=λρ=>ds ρ>>=qoy
theorem qrl:(1000000:Nat)<=sizeLine:=by decide
open PySem.Spec PyProof.Rows in
theorem qo8 {X:Cx} {elts:List Expr} {kk:Nat} {tpos:Pos} {a b:Expr} {ta:TA} {p pos:Pos} (hg:Gl X "zip") (hm:X.mg "zip" =none) (ha:PA X [a,b] ta) (hs:starEach [a,b] X.env=(false,eval a X.env)::starEach [b] X.env:=by rfl) (hpl:(backTo pos (starEach [b] X.env)).any (·.1)=false:=by rfl):
  PI X (.Tuple elts kk tpos) (.Call (.Name "zip" p) [a,b] [] pos) (λσ H R=>ta σ H λvs H1=> ∃l1 l2 xs ys,vs=[.ref l1,.ref l2]/\SqL X.K H1 l1 xs/\SqL X.K H1 l2 ys/\(xs.length<=sizeLine->ys.length<=sizeLine->R (Itz X.K l1 l2) H1)):=by
 intro pins s σ H R I h
 refine wpAny_Call_Name_kw (qdH I hg hm PyProof.Rows.boot_zip ?_)
 refine PyProof.Rows.callWith_type1 (thn (ha pos pins s σ H _ I h) λus s1 ⟨vs,H1,I1,r1,l1,l2,xs,ys,e,h1,h2,q⟩=> ?_) hs hpl
 subst e
 obtain ⟨u1,u2,rfl,ru1,ru2⟩:=qmg r1
 cases ru1; cases ru2
 obtain ⟨its1,rr1,p1,z1⟩:=I1.list h1
 obtain ⟨its2,rr2,p2,z2⟩:=I1.list h2
 have q:=q z1 z2
 obtain ⟨o1,ho1,_⟩:=p1.isList
 obtain ⟨o2,ho2,_⟩:=p2.isList
 have lt1:l1<s1.heap.objs.size:=Heap.lt_size ho1
 have lt2:l2<s1.heap.objs.size:=Heap.lt_size ho2
 refine call_zip_2 p1.isList p2.isList λh' hz hTI hTO hi1 hi2 hsz kp=>wpAny_pyIter_zip hz ?_
 have D:ZipApart (s1.heap.objs.size+4) (s1.heap.objs.size+2) (s1.heap.objs.size+3) s1.heap.objs.size (s1.heap.objs.size+1) l1 l2:=PySem.W.ktu_apart _ _ _ lt1 lt2
 refine ⟨_,_,_,Itz X.K l1 l2,H1,rfl,I1.kept (t':=s1.toks) kp,qmj D,⟨hz,hTI,⟨_,_,hTO⟩,hi1,hi2⟩,λb hb=> ?_,q⟩
 have hle:s1.heap.objs.size<=b:=by
  have hb':b=s1.heap.objs.size+4\/b=s1.heap.objs.size+2\/b=s1.heap.objs.size+3\/b=s1.heap.objs.size\/b=s1.heap.objs.size+1:=by simpa using hb
  rcases hb' with rfl | rfl | rfl | rfl | rfl
  ·exact Nat.le_add_right _ _
  ·exact Nat.le_add_right _ _
  ·exact Nat.le_add_right _ _
  ·exact Nat.le_refl _
  ·exact Nat.le_add_right _ _
 exact I1.fpOk hle (I1.hok.fresh hle)
section
variable {M:Md} {X:Cx} {tg e a b:Expr} {da:Ro->Rs T} {ds:Ro->Rs (List T)}
theorem qaT (h:DE M X e da) (hK:X.K=M.K:=by rfl):DI M X tg e (dI da):=by
 refine PI.weak (qq5 h) λσ H R hq63=> ?_
 obtain ⟨H0,B0,ρ,B,ev,w⟩:=hq63
 refine tP.of ev (Wnt.mono (Wnt.bind w) λt w1 v H1 B1 g1 m1 r1=> ?_)
 rw[hK]
 cases t with
 | lst ts=>
  unfold Rep at r1
  obtain ⟨p,vs,rfl,hp,r⟩:=r1
  refine ⟨p,rfl,.inl ⟨vs,SqL.of (g1.bh _ _ hp),λhz=>w1 _ H1 B1 g1 m1 (by rw[<-r.length]; exact hz) λH' B' le bh bt m i=>⟨λt et=> ?_,λhi=> ?_⟩⟩⟩
  ·have q:SqL M.K H' p vs:=SqL.of (bh _ _ (le _ _ hp))
   obtain ⟨x,ex,rx⟩:=r.get et
   refine ⟨⟨vs,x,q,ex⟩,λy H'' ⟨e1,e2⟩=> ?_⟩
   subst e1
   have:=e2 vs q
   rw[ex] at this; cases this
   exact ⟨B',.refl bh bt,m,rx.mono le⟩
  ·exact ⟨vs,SqL.of (bh _ _ (le _ _ hp)),by rw[r.length,hi]; exact Nat.le_refl _⟩
 | tup ts=>
  unfold Rep at r1
  obtain ⟨p,vs,rfl,hp,r⟩:=r1
  have hp:SqT M.K B1 p vs:=SqT.of hp
  refine ⟨p,rfl,.inr ⟨vs,g1.bh.sqT hp,λhz=>w1 _ H1 B1 g1 m1 (by rw[<-r.length]; exact hz) λH' B' le bh bt m i=>⟨λt et=> ?_,λhi=> ?_⟩⟩⟩
  ·have q:SqT M.K H' p vs:=bh.sqT (le.sqT hp)
   obtain ⟨x,ex,rx⟩:=r.get et
   refine ⟨⟨vs,x,q,ex⟩,λy H'' ⟨e1,e2⟩=> ?_⟩
   subst e1
   have:=e2 vs q
   rw[ex] at this; cases this
   exact ⟨B',.refl bh bt,m,rx.mono le⟩
  ·exact ⟨vs,bh.sqT (le.sqT hp),by rw[r.length,hi]; exact Nat.le_refl _⟩
 | _=>exact w1.elim
theorem qrR (h:DE M X e da):DI M X tg e (dIS da):=by
 refine PI.weak (qq4 h) λσ H R hq93=> ?_
 obtain ⟨H0,B0,ρ,B,ev,w⟩:=hq93
 refine tP.of ev (Wnt.mono (Wnt.bind w) λt w1 v H1 B1 g1 m1 r1=> ?_)
 cases t with
 | str z=>
  have e1:v= .str z:=by unfold Rep at r1; exact r1
  subst e1
  unfold qjW at w1
  dsimp only at w1
  split at w1
  ·rename_i hz
   refine ⟨z,rfl,w1 _ H1 B1 g1 m1 ?_ λH' B' le bh bt m i=>⟨λt et=> ?_,λhi=> ?_⟩⟩
   ·rw[List.length_map,Array.length_toList]
    exact Nat.le_of_lt (qa6 hz)
   ·rw[List.getElem?_map] at et
    cases q:z.cps.toList[i]? with
    | none=>rw[q] at et; cases et
    | some c=>
     rw[q] at et
     cases et
     have hi:=(List.getElem?_eq_some_iff.mp q).1
     refine ⟨show i<z.cps.size by simpa using hi,λy H'' ⟨e1,c',e2,e3⟩=> ?_⟩
     subst e1 e3
     rw[Array.getElem?_toList] at q
     rw[q] at e2; cases e2
     exact ⟨B',.refl bh bt,m,by unfold Rep; rfl⟩
   ·show z.cps.size<=i
    rw[hi,List.length_map,Array.length_toList]
    exact Nat.le_refl _
  ·exact w1.elim
 | _=>exact w1.elim
theorem qiL {lo:Int} {n:Nat} {B1:Hp}:qu1 M (Itr lo n) B1 ((List.range n).map λk=>.int (lo+(k:Nat))):=λH' B' le bh bt m i=>by
 refine ⟨λt et=> ?_,λhi=> ?_⟩
 ·rw[List.getElem?_map] at et
  cases q:(List.range n)[i]? with
  | none=>rw[q] at et; cases et
  | some c=>
   rw[q] at et
   cases et
   have hi:=(List.getElem?_eq_some_iff.mp q).1
   rw[List.length_range] at hi
   rw[List.getElem?_range hi] at q; cases q
   refine ⟨hi,λy H'' ⟨e1,e2⟩=> ?_⟩
   subst e1 e2
   exact ⟨B',.refl bh bt,m,by unfold Rep; rfl⟩
 ·show n<=i
  rw[hi,List.length_map,List.length_range]
  exact Nat.le_refl _
theorem qgm {p pos:Pos} (hg:Gl X "range") (hm:X.mg "range" =none) (ha:DA M X [a] ds) (hs:starEach [a] X.env=[(false,eval a X.env)]:=by rfl):DI M X tg (.Call (.Name "range" p) [a] [] pos) (qp5 ds):=by
 refine PI.weak (qkv hg hm ha hs) λσ H R hq141=> ?_
 obtain ⟨H0,B0,ρ,B,ev,w⟩:=hq141
 refine tPA.of ev (Wnt.mono (Wnt.bind w) λts w1 vs H1 B1 g1 m1 r1=> ?_)
 unfold qfU at w1
 split at w1
 ·rename_i n
  obtain ⟨v,r,rfl,a1,b1⟩:=r1.inv
  have e1:v= .int n:=by unfold Rep at a1; exact a1
  have e2:=b1.inv0
  subst e1 e2
  split at w1
  ·rename_i hb
   refine ⟨n,rfl,by lia,by lia,w1 _ H1 B1 g1 m1 ?_ ?_⟩
   ·rw[List.length_map,List.length_range]
    have:=qrl
    lia
   ·have:=qiL (M:=M) (lo:=0) (n:=n.toNat) (B1:=B1)
    simpa using this
  ·exact w1.elim
 ·exact w1.elim
theorem qrQ {elts:List Expr} {kk:Nat} {tpos p pos:Pos} (hg:Gl X "zip") (hm:X.mg "zip" =none) (ha:DA M X [a,b] ds) (hK:X.K=M.K:=by rfl) (hs:starEach [a,b] X.env=(false,eval a X.env)::starEach [b] X.env:=by rfl) (hpl:(backTo pos (starEach [b] X.env)).any (·.1)=false:=by rfl):
  DI M X (.Tuple elts kk tpos) (.Call (.Name "zip" p) [a,b] [] pos) (dIZ ds):=by
 refine PI.weak (qo8 hg hm ha hs hpl) λσ H R hq184=> ?_
 obtain ⟨H0,B0,ρ,B,ev,w⟩:=hq184
 refine tPA.of ev (Wnt.mono (Wnt.bind w) λts w1 vs H1 B1 g1 m1 r1=> ?_)
 unfold qoy at w1
 split at w1
 ·rename_i xs ys
  obtain ⟨v,r,rfl,a1,b1⟩:=r1.inv
  obtain ⟨v',r',rfl,a2,b2⟩:=b1.inv
  have e2:=b2.inv0
  subst e2
  unfold Rep at a1 a2
  obtain ⟨p1,us,rfl,h1,ra⟩:=a1
  obtain ⟨p2,ws,rfl,h2,rb⟩:=a2
  have l1:=ra.length
  have l2:=rb.length
  refine ⟨p1,p2,us,ws,rfl,SqL.of (g1.bh _ _ h1),SqL.of (g1.bh _ _ h2),λz1 z2=> ?_⟩
  rw[hK]
  refine w1 _ H1 B1 g1 m1 ?_ λH' B' le bh bt m i=>⟨λt et=> ?_,λhi=> ?_⟩
  ·unfold zipT
   rw[List.length_map,List.length_zip]
   lia
  ·have q1:SqL M.K H' p1 us:=SqL.of (bh _ _ (le _ _ h1))
   have q2:SqL M.K H' p2 ws:=SqL.of (bh _ _ (le _ _ h2))
   unfold zipT at et
   rw[List.getElem?_map] at et
   cases q:(xs.zip ys)[i]? with
   | none=>rw[q] at et; cases et
   | some c=>
    rw[q] at et
    cases et
    have hi:=(List.getElem?_eq_some_iff.mp q).1
    rw[List.length_zip] at hi
    obtain ⟨c1,c2⟩:=c
    obtain ⟨qa,qb⟩:=List.getElem?_zip_eq_some.mp q
    obtain ⟨u,eu,ru⟩:=ra.get qa
    obtain ⟨w',ew,rw'⟩:=rb.get qb
    refine ⟨⟨us,ws,q1,q2,by lia,by lia⟩,λy H'' ⟨T',x,y',e1,e2,e3,e4,e5⟩=> ?_⟩
    have z1:=e4 us q1
    have z2:=e5 ws q2
    rw[eu] at z1; cases z1
    rw[ew] at z2; cases z2
    subst e1 e3
    refine ⟨_,qa5.new bh bt e2 (by intro ps z; cases z),M.G.st H' _ (λa o e _ _ _ _=>by rw[qaj (qap e e2)]; exact e) m,?_⟩
    have bp:B' T'=none:=by
     cases q:B' T' with
     | none=>rfl
     | some u=>rw[bh _ _ q] at e2; cases e2
    have le2:Le B1 (upd B' T' (.tup [u,w'])):=λa o z=>by rw[qaj (qap (le _ _ z) bp)]; exact le _ _ z
    unfold Rep
    exact ⟨T',[u,w'],rfl,qal,.cons (ru.mono le2) (.cons (rw'.mono le2) .nil)⟩
  ·refine ⟨us,ws,SqL.of (bh _ _ (le _ _ h1)),SqL.of (bh _ _ (le _ _ h2)),?_⟩
   rw[hi]
   unfold zipT
   rw[List.length_map,List.length_zip,l1,l2]
 ·exact w1.elim
end
end PL
end
section
namespace PL
open PySem L2
def qml (o:Out) (k:Ro->Rs Out):Rs Out:=match o with
 | .nx ρ=>k ρ
 | .ct ρ=>k ρ
 | .bk ρ=>.ok (.nx ρ)
 | .rt t=>.ok (.rt t)
 | .rs s ρ=>.ok (.rs s ρ)
def qc3 (dg:T->Ro->Rs Ro) (db:Ro->Rs Out):List T->Ro->Rs Out
 | [],ρ=>.ok (.nx ρ)
 | t::ts,ρ=>dg t ρ>>=λρ1=>db ρ1>>=λo=>qml o (qc3 dg db ts)
def qeS (di:Ro->Rs (List T)) (dg:T->Ro->Rs Ro) (db:Ro->Rs Out):Ro->Rs Out:=λρ=>di ρ>>=λts=>qc3 dg db ts ρ
section
variable {M:Md} {X:Cx} {tg e elt iter:Expr} {ifs:List Expr} {body:List Stmt} {pos:Pos} {di:Ro->Rs (List T)} {dg:T->Ro->Rs Ro} {db:Ro->Rs Out}
theorem qcv (hp:PassesOwn (model X.prog X.w) X.A X.env X.xe) (hc:X.calm=true) (hi:DI M X tg iter di) (hg:DG M X tg dg) (hb:DSs M X body db)
  (hs: ∀x,foldedSetIterable iter X.env x=pure x:=by intro _; rfl):DS M X (.For tg iter body [] pos) (qeS di dg db):=by
 refine PS.weak (qq3 hp hc hi hg hb hs) λD σ H hq21=> ?_
 obtain ⟨H0,B0,ρ,B,ev,w⟩:=hq21
 refine ⟨H0,B0,ρ,B,ev,Wnt.mono (Wnt.bind w) λts w1 J H1 B1 g1 m1 hz wk=> ?_⟩
 refine ⟨λi m σ H=>i<=ts.length/\m=ts.length - i/\∃ρ' B',Ev M H0 B0 ρ' σ H B'/\Le B1 B'/\Wnt M H0 (qnV M H0 B0 B D) (qc3 dg db (ts.drop i) ρ'),⟨ts.length,Nat.zero_le _,by simp,ρ,B1,ev.grow g1 m1,.refl _,by simpa using w1⟩,?_⟩
 rintro i m σ' H' ⟨hi',rfl,ρ',B',ev',le,w2⟩
 by_cases hlt:i<ts.length
 ·obtain ⟨go,yl⟩:=(wk H' B' le ev'.bh ev'.bt ev'.gm i).1 ts[i] (List.getElem?_eq_getElem hlt)
  refine .inr ⟨go,λσ'' H''=> ∃ρ2 B2,Ev M H0 B0 ρ2 σ'' H'' B2/\Le B1 B2/\Wnt M H0 (qnV M H0 B0 B D) (qc3 dg db (ts.drop (i+1)) ρ2),λσ'' H'' ⟨ρ2,B2,q1,q2,q3⟩=>⟨ts.length - (i+1),by lia,by lia,rfl,ρ2,B2,q1,q2,q3⟩,λx H3 y=> ?_⟩
  obtain ⟨B3,g3,m3,r3⟩:=yl x H3 y
  rw[List.drop_eq_getElem_cons hlt] at w2
  have ev3:=ev'.grow g3 m3
  have le3:Le B1 B3:=le.trans g3.bb
  refine ⟨H0,B0,ρ',B3,ts[i],ev3,r3,Wnt.mono (Wnt.bind w2) λρ1 w3 σ1 ev1=> ?_⟩
  have leB:Le B B3:=g1.bb.trans le3
  refine ⟨H0,B0,ρ1,B3,ev1,Wnt.mono (Wnt.bind w3) λo w4=> ?_⟩
  cases o with
  | nx ρ2=>exact λσ4 H4 B4 ev4 le4=>⟨ρ2,B4,ev4,le3.trans le4,w4⟩
  | ct ρ2=>exact λσ4 H4 B4 ev4 le4=>⟨ρ2,B4,ev4,le3.trans le4,w4⟩
  | bk ρ2=>exact λσ4 H4 B4 ev4 le4=>w4 σ4 H4 B4 ev4 (leB.trans le4)
  | rt t=>exact w4
  | rs t ρ2=>exact λv σ4 H4 B4 ev4 le4=>w4 v σ4 H4 B4 ev4 (leB.trans le4)
 ·have e1:i=ts.length:=by lia
  subst e1
  refine .inl ⟨(wk H' B' le ev'.bh ev'.bt ev'.gm ts.length).2 rfl,?_⟩
  rw[List.drop_length] at w2
  exact w2 σ' H' B' ev' (g1.bb.trans le)
end
def Md.nox (M:Md):Md:={ M with E:=λ_ _ _=>False }
theorem Ev.nox {M:Md} {H0 B0 H B:Hp} {ρ:Ro} {σ:St} (ev:Ev M H0 B0 ρ σ H B):Ev M.nox H0 B0 ρ σ H B:=⟨ev.gr,ev.gm,ev.len,ev.sl,ev.ap⟩
def noX {α:Type}:Rs α->Rs α
 | .ex _=>.no
 | r=>r
def qjq:Option Sl->Sl
 | some (.fz t)=>.fz t
 | _=>.no
def qd6 (n:Nat) (fr:List Nat) (ρ:Ro):Ro:=List.replicate n .no++fr.map λi=>qjq ρ[i]?
def qjD (ρ:Ro):Prop:= ∀(i:Nat) (s:Sl),ρ[i]? =some s->s.own=false
def qjo (dg:T->Ro->Rs Ro) (dt:Ro->Rs Bool) (de:Ro->Rs T):List T->Ro->Rs (List T)
 | [],_=>.ok []
 | t::ts,ρ=>dg t ρ>>=λρ1=>dt ρ1>>=λc=>if c=true then de ρ1>>=λy=>qjo dg dt de ts ρ1>>=λys=>.ok (y::ys) else qjo dg dt de ts ρ1
def qaE (n:Nat) (fr:List Nat) (di:Ro->Rs (List T)) (dg:T->Ro->Rs Ro) (dt:Ro->Rs Bool) (de:Ro->Rs T):Ro->Rs (List T):=λρ=>di ρ>>=λts=>noX (qjo dg dt de ts (qd6 n fr ρ))
def qcx:Ro->Rs Bool:=λ_=>.ok true
theorem qbZ {α β:Type} {r:Rs α} {f:α->Rs β} {b:β} (h:(r>>=f)= .ok b): ∃a,r= .ok a/\f a= .ok b:=by
 cases r with
 | no=>cases h
 | ok a=>exact ⟨a,rfl,h⟩
 | ex c=>cases h
theorem qfR {n:Nat} {fr:List Nat} {ρ:Ro}:qjD (qd6 n fr ρ):=λi s e=>by
 unfold qd6 at e
 have h:=List.mem_of_getElem? e
 rcases List.mem_append.mp h with h | h
 ·rw[(List.mem_replicate.mp h).2]; rfl
 ·obtain ⟨j,_,rfl⟩:=List.mem_map.mp h
  unfold qjq
  split<;>rfl
theorem qpI {M:Md} {H0 B0 H B:Hp} {ρ:Ro} {σ:St} {own:List Str} {fr:List (Str×Nat)} (ev:Ev M H0 B0 ρ σ H B):Ev M H0 B0 (qd6 own.length (fr.map (·.2)) ρ) (qd4 own fr σ) H B:=by
 refine ⟨ev.gr,ev.gm,by simp[qd6,qd4],λi s e=> ?_,λi j si sj p hij ei ej oi oj a z=>by rw[qfR i si ei] at oi; cases oi⟩
 unfold qd6 at e
 by_cases hi:i<own.length
 ·rw[List.getElem?_append_left (by simpa using hi),List.getElem?_replicate,if_pos hi] at e
  cases e; trivial
 ·rw[List.getElem?_append_right (by simpa using hi),List.length_replicate,List.map_map,List.getElem?_map] at e
  cases q:fr[i - own.length]? with
  | none=>rw[q] at e; cases e
  | some p=>
   rw[q] at e
   have e':qjq ρ[p.2]? =s:=Option.some.inj e
   subst e'
   have eσ:(qd4 own fr σ)[i]?.join=σ[p.2]?.join:=by
    unfold qd4
    rw[List.getElem?_append_right (by simpa using hi),List.length_map,List.getElem?_map,q]
    rfl
   rw[eσ]
   cases q2:ρ[p.2]? with
   | none=>trivial
   | some s'=>
    cases s' with
    | fz t=>exact ev.sl p.2 _ q2
    | _=>trivial
theorem Ev.updD {M:Md} {H0 B0 H B:Hp} {ρ:Ro} {σ:St} {D:Addr} {ys zs:List V} (ev:Ev M H0 B0 ρ σ H B) (hD:H D=some (.lst ys)) (h0:H0 D=none) (hb:B D=none) (ap: ∀(i:Nat) (s:Sl),ρ[i]? =some s->s.own=true->σ[i]?.join≠some (.ref D)):Ev M H0 B0 ρ σ (upd H D (.lst zs)) B:=by
 have neB: ∀a o,B a=some o->a≠D:=λa o z w=>by rw[w,hb] at z; cases z
 refine ⟨⟨⟨λa o z n=> ?_,λa z w=> ?_⟩,ev.gr.bb,λa o z=> ?_,ev.gr.bt,ev.gr.nw⟩,M.G.st H _ (λa o z n1 n2 n3 n4=> ?_) ev.gm,ev.len,λj s ej=> ?_,ev.ap⟩
 ·rw[qaj (qap z h0)]; exact ev.gr.gx.hh a o z n
 ·by_cases q:a=D
  ·subst q; exact z h0
  ·rw[qaj q] at w; exact ev.gr.gx.dm a z w
 ·rw[qaj (neB a o z)]; exact ev.gr.bh a o z
 ·rw[qaj (qps z hD (n1 _))]; exact z
 ·have o:=ev.sl j s ej
  have np:=ap j s ej
  cases s with
  | no=>trivial
  | fz t=>exact o
  | ow ts'=>
   obtain ⟨p',vs',a1,a2,a3,a4,a5⟩:=o
   exact ⟨p',vs',a1,a2,a3,by rw[qaj (λz=>np rfl (by rw[a1,z]))]; exact a4,a5⟩
  | od ts'=>
   obtain ⟨p',vs',a1,a2,a3,a4,a5⟩:=o
   exact ⟨p',vs',a1,a2,a3,by rw[qaj (λz=>np rfl (by rw[a1,z]))]; exact a4,a5⟩
  | ou ts'=>
   obtain ⟨p',vs',a1,a2,a3,a4,a5⟩:=o
   exact ⟨p',vs',a1,a2,a3,by rw[qaj (λz=>np rfl (by rw[a1,z]))]; exact a4,a5⟩
  | pd ts'=>
   obtain ⟨p',vs',a0,a1,a2,a3,a4,a5⟩:=o
   exact ⟨p',vs',a0,a1,a2,a3,by rw[qaj (λz=>np rfl (by rw[a1,z]))]; exact a4,a5⟩
  | pu ts'=>
   obtain ⟨p',vs',a0,a1,a2,a3,a4,a5⟩:=o
   exact ⟨p',vs',a0,a1,a2,a3,by rw[qaj (λz=>np rfl (by rw[a1,z]))]; exact a4,a5⟩
theorem qkI {α:Type} {M:Md} {H0:Hp} {r:Rs α} {k:α->Prop} (h:Wnt M H0 k (noX r)): ∃a,r= .ok a/\k a:=by
 cases r with
 | no=>exact h.elim
 | ok a=>exact ⟨a,rfl,h⟩
 | ex c=>exact h.elim
section
variable {M:Md} {X:Cx} {tg elt iter:Expr} {ifs:List Expr} {scope:Scope} {pos:Pos} {own:List Str} {fr:List (Str×Nat)} {di:Ro->Rs (List T)} {dg:T->Ro->Rs Ro} {dt:Ro->Rs Bool} {de:Ro->Rs T}
def GNo (dg:T->Ro->Rs Ro):Prop:= ∀t ρ ρ',qjD ρ->dg t ρ= .ok ρ'->qjD ρ'
def qsr (dg:List T->Ro->Rs Ro):Prop:= ∀t ρ ρ',qjD ρ->dg t ρ= .ok ρ'->qjD ρ'
theorem qbi {i:Nat}:GNo (gN i):=λt ρ ρ' h e j s ej=>by
 cases e
 rw[List.getElem?_set] at ej
 split at ej
 ·split at ej
  ·cases ej; rfl
  ·cases ej
 ·exact h j s ej
theorem qgb:qsr gsN:=λt ρ ρ' h e=>by
 cases t with
 | nil=>cases e; exact h
 | cons _ _=>cases e
theorem qcg {dg:T->Ro->Rs Ro} {dr:List T->Ro->Rs Ro} (h1:GNo dg) (h2:qsr dr):qsr (gsC dg dr):=λt ρ ρ' h e=>by
 cases t with
 | nil=>cases e
 | cons t ts=>
  obtain ⟨ρ1,e1,e2⟩:=qbZ e
  exact h2 ts ρ1 ρ' (h1 t ρ ρ1 h e1) e2
theorem qld {n:Nat} {dr:List T->Ro->Rs Ro} (h2:qsr dr):GNo (gT n dr):=λt ρ ρ' h e=>by
 cases t with
 | tup ts=>
  unfold gT at e
  dsimp only at e
  split at e
  ·exact h2 ts ρ ρ' h e
  ·cases e
 | _=>cases e
theorem qgt (gn:GNo dg) {σ:St} {H:Hp} {H0 B0 B:Hp} {ρ:Ro} {Q:Addr->Hp->Prop} (ev:Ev M H0 B0 ρ σ H B)
  (w:Wnt M H0 (λa=> ∀p vs H' B',qa5 H B H' B'->M.G.P H'->H p=none->B' p=none->H' p=some (.lst vs)->qaP M.K B' a vs->Q p H') (qaE own.length (fr.map (·.2)) di dg dt de ρ)):
  qhN (tI M di) (tG M.nox dg) (tPT M.nox dt) (tP M.nox de) own fr σ H Q:=by
 refine ⟨H0,B0,ρ,B,ev,Wnt.mono (Wnt.bind w) λts w1 J H1 B1 g1 m1 hz wk D hD=> ?_⟩
 obtain ⟨res,eR,kR⟩:=qkI w1
 have ev1:=ev.grow g1 m1
 have h0D:H0 D=none:=qbA ev1.gr.gx hD
 have bD:B1 D=none:=by
  cases q:B1 D with
  | none=>rfl
  | some u=>rw[ev1.bh _ _ q] at hD; cases hD
 obtain ⟨gD,mD⟩:=ev1.nown (o:=HO.lst []) hD
 have evD:Ev M.nox H0 B0 (qd6 own.length (fr.map (·.2)) ρ) (qd4 own fr σ) (upd H1 D (.lst [])) B1:=(qpI (ev1.grow gD mD)).nox
 refine qnM (n:=ts.length) (λi ys σ' H'=> ∃ρ' B' dn rs,(Ev M.nox H0 B0 ρ' σ' H' B'/\qjD ρ')/\qa5 H1 B1 H' B'/\H' D=some (.lst ys)/\B' D=none/\ys.length<=i/\qaP M.K B' dn ys/\dn++rs=res/\qjo dg dt de (ts.drop i) ρ'= .ok rs) ?_ hz ?_ ?_ ?_ ?_ ?_
 ·exact ⟨_,B1,[],res,⟨evD,qfR⟩,gD,qal,bD,Nat.le_refl _,.nil,rfl,by simpa using eR⟩
 ·rintro i ys σ' H' ⟨ρ',B',dn,rs,_,_,h,_⟩; exact h
 ·rintro i ys σ' H' ⟨ρ',B',dn,rs,_,_,_,_,h,_⟩; exact h
 ·rintro i ys σ' H' hi ⟨ρ',B',dn,rs,⟨e1,_⟩,e2,_⟩
  exact ((wk H' B' e2.bb e2.bh e2.bt e1.gm i).1 ts[i] (List.getElem?_eq_getElem hi)).1
 ·rintro ys σ' H' ⟨ρ',B',dn,rs,⟨e1,_⟩,e2,e3,e4,e5,e6,e7,e8⟩
  refine ⟨(wk H' B' e2.bb e2.bh e2.bt e1.gm ts.length).2 rfl,?_⟩
  rw[List.drop_length] at e8
  cases e8
  rw[List.append_nil] at e7
  subst e7
  exact kR D ys H' B' (g1.trans e2) e1.gm (qbA g1.gx hD) e4 e3 e6
 ·rintro i ys σ' H' x H3 hi ⟨ρ',B',dn,rs,⟨e1,no1⟩,e2,e3,e4,e5,e6,e7,e8⟩ hy
  obtain ⟨B3,g3,m3,r3⟩:=((wk H' B' e2.bb e2.bh e2.bt e1.gm i).1 ts[i] (List.getElem?_eq_getElem hi)).2 x H3 hy
  rw[List.drop_eq_getElem_cons hi] at e8
  obtain ⟨ρ1,d1,e8⟩:=qbZ e8
  obtain ⟨c,d2,e8⟩:=qbZ e8
  have ev3:=e1.grow g3 m3
  have no2:=gn _ _ _ no1 d1
  have wo: ∀{α:Type} {r:Rs α} {a:α} {k:α->Prop},r= .ok a->k a->Wnt M.nox H0 k r:=λe k=>by rw[e]; exact k
  refine ⟨H0,B0,ρ',B3,ts[i],ev3,r3,wo d1 λσ2 ev2=> ?_⟩
  refine tPT.of ev2 (wo d2 λH5 B5 g5 m5=> ?_)
  have ev5:=ev2.grow g5 m5
  have gg:qa5 H1 B1 H5 B5:=(e2.trans g3).trans g5
  have hD5:H5 D=some (.lst ys):=g5.gx.hh _ _ (g3.gx.hh _ _ e3 (by intro ps z; cases z)) (by intro ps z; cases z)
  have bD5:B5 D=none:=by
   rw[g5.nw D _ (g3.gx.hh _ _ e3 (by intro ps z; cases z)) (by simp) (by simp),g3.nw D _ e3 (by simp) (by simp)]; exact e4
  cases c with
  | false=>
   rw[if_neg (by intro z; cases z)] at e8
   refine qqj ?_
   exact ⟨ρ1,B5,dn,rs,⟨ev5,no2⟩,gg,hD5,bD5,Nat.le_succ_of_le e5,(e6.mono g3.bb).mono g5.bb,e7,e8⟩
  | true=>
   rw[if_pos rfl] at e8
   obtain ⟨y,d3,e8⟩:=qbZ e8
   obtain ⟨ys',d4,e8⟩:=qbZ e8
   cases e8
   refine qqi ?_
   refine tP.of ev5 (wo d3 λv H6 B6 g6 m6 r6=> ?_)
   have ev6:=ev5.grow g6 m6
   have hD6:H6 D=some (.lst ys):=g6.gx.hh _ _ hD5 (by intro ps z; cases z)
   have bD6:B6 D=none:=by rw[g6.nw D _ hD5 (by simp) (by simp)]; exact bD5
   have g16:qa5 H1 B1 H6 B6:=gg.trans g6
   refine ⟨hD6,ρ1,B6,dn++[y],ys',⟨ev6.updD hD6 h0D bD6 (λj s ej oj z=>by rw[no2 j s ej] at oj; cases oj),no2⟩,?_,qal,bD6,by rw[List.length_append,List.length_singleton]; lia,(((e6.mono g3.bb).mono g5.bb).mono g6.bb).snoc r6,by rw[List.append_assoc]; exact e7,d4⟩
   ·refine ⟨⟨λa o z n=> ?_,λa z w=> ?_⟩,g16.bb,λa o z=> ?_,g16.bt,g16.nw⟩
    ·rw[qaj (qap z hD)]; exact g16.gx.hh a o z n
    ·by_cases q:a=D
     ·subst q; exact z hD
     ·rw[qaj q] at w; exact g16.gx.dm a z w
    ·rw[qaj (λq=>by rw[q,bD6] at z; cases z)]; exact g16.bh a o z
theorem qaW (hc:X.calm=true) (hi:DI M X tg iter di) (gn:GNo dg) (hk:scope.kind= .function) (hcell: ∀y∈scope.names,y.2≠.cell) (hnames: ∀y∈scope.names,y.2= .local->scope.names.lookup y.1=some .local)
  (hfree: ∀y∈scope.names,y.2= .free->X.env.kindOf y.1=some .cell\/X.env.kindOf y.1=some .free) (hfr: ∀p∈fr,X.N[p.2]? =some p.1/\scope.names.lookup p.1=some .free)
  (hb: ∀(fp:List Addr) (s3:Shared) (H3:Hp),DG M.nox (qa8 X scope own fr fp s3 H3) tg dg/\qnU (qa8 X scope own fr fp s3 H3) ifs (tPT M.nox dt)/\DE M.nox (qa8 X scope own fr fp s3 H3) elt de)
  (hs: ∀x,foldedSetIterable iter X.env x=pure x:=by intro _; rfl):
  DF M X (.ListComp elt [⟨tg,iter,ifs,0⟩] scope pos) (qaE own.length (fr.map (·.2)) di dg dt de):=
 PE.weak (qpd hc hi hk hcell hnames hfree hfr hb hs) λσ H Q ⟨H0,B0,ρ,B,ev,w⟩=>qgt gn ev (Wnt.mono (qbx.mp w) λa q p vs H' B' g m h1 h2 h3 r=>q p vs H' B' g m h1 h2 h3 r)
theorem qbb {Y:Cx}:qnU Y [] (tPT M qcx):=λpins s σ H Q I ⟨H0,B0,ρ,B,ev,w⟩=>qmN pins s σ H Q I (w H B (.refl ev.bh ev.bt) ev.gm)
theorem qcl {Y:Cx} {c:Expr} (h:DT M Y c dt):qnU Y [c] (tPT M dt):=qmM h
theorem qb8 {i:Nat} {y:Str} {py spos:Pos} (hc:X.calm=true) (hi:DI M X tg iter di) (gn:GNo dg) (hk:scope.kind= .function) (hcell: ∀y∈scope.names,y.2≠.cell) (hnames: ∀y∈scope.names,y.2= .local->scope.names.lookup y.1=some .local)
  (hfree: ∀y∈scope.names,y.2= .free->X.env.kindOf y.1=some .cell\/X.env.kindOf y.1=some .free) (hfr: ∀p∈fr,X.N[p.2]? =some p.1/\scope.names.lookup p.1=some .free)
  (hb: ∀(fp:List Addr) (s3:Shared) (H3:Hp),DG M.nox (qa8 X scope own fr fp s3 H3) tg dg/\qnU (qa8 X scope own fr fp s3 H3) ifs (tPT M.nox dt)/\DE M.nox (qa8 X scope own fr fp s3 H3) elt de)
  (hN:X.N.Nodup) (hiN:X.N[i]? =some y) (hy:X.env.scope.names.lookup y=some .local)
  (hsw:swapsWith (.ListComp elt [⟨tg,iter,ifs,0⟩] scope pos) (some (.Name y py)) spos.line X.env=pure true:=by rfl) (hs: ∀x,foldedSetIterable iter X.env x=pure x:=by intro _; rfl):
  DS M X (.Assign [.Name y py] (.ListComp elt [⟨tg,iter,ifs,0⟩] scope pos) spos) (qbr i (dFz (qaE own.length (fr.map (·.2)) di dg dt de))):=
 PS.weak (L2.ps_setcomp hc hi hk hcell hnames hfree hfr hb hN hiN hy hsw hs) λD σ H ⟨H0,B0,ρ,B,ev,w⟩=>qgt gn ev (Wnt.mono (Wnt.bind (Wnt.bind w)) λa q p vs H' B' g m h1 h2 h3 r=>by
  obtain ⟨g2,le⟩:=g.freeze h1 h2 h3
  refine q _ H' _ ((ev.grow g2 m).set ?_) g2.bb
  unfold Rep
  exact ⟨p,vs,rfl,qal,r.mono le⟩)
end
end PL
end
section
namespace PL
open PySem L2
def spP (K:PySem.W.Frag) (G:Gam) (C:Str->Addr) (f:List T->Rs T):Sp:=λvs H Q E=> ∃B ts,Le B H/\(∀a ps,B a≠some (.tbl ps))/\G.P H/\qaP K B ts vs/\quJ ⟨K,G,E,C,0⟩ H H B Q (f ts)
def outT:Out->Rs T
 | .rt t=>.ok t
 | .nx _=>.ok .non
 | _=>.no
def fnT (n N:Nat) (d:Ro->Rs Out):List T->Rs T:=λts=>if ts.length=n then d (ts.map .fz++List.replicate (N - n) .no)>>=outT else .no
section
variable {K:PySem.W.Frag} {G:Gam} {C:Str->Addr} {E:XK}
theorem qit {H B:Hp} {ts:List T} {vs:List V} {N:List Str} (le:Le B H) (bt: ∀a ps,B a≠some (.tbl ps)) (m:G.P H) (r:qaP K B ts vs) (hN:ts.length<=N.length):
  Ev ⟨K,G,E,C,0⟩ H B (ts.map .fz++List.replicate (N.length - ts.length) .no) (start N vs) H B:=by
 have hl:=r.length
 refine ⟨.refl le bt,m,by simp[L2.start,hl],λi s e=> ?_,λi j si sj p hij ei ej oi=> ?_⟩
 ·by_cases hi:i<ts.length
  ·rw[List.getElem?_append_left (by simpa using hi),List.getElem?_map] at e
   cases q:ts[i]? with
   | none=>rw[q] at e; cases e
   | some t=>
    rw[q] at e; cases e
    obtain ⟨v,ev,rv⟩:=r.get q
    refine ⟨v,?_,rv⟩
    unfold L2.start
    rw[List.getElem?_append_left (by simp; lia),List.getElem?_map,ev]
    rfl
  ·rw[List.getElem?_append_right (by simpa using hi),List.getElem?_replicate] at e
   split at e
   ·cases e; trivial
   ·cases e
 ·have h:=List.mem_of_getElem? ei
  rcases List.mem_append.mp h with h | h
  ·obtain ⟨t,_,rfl⟩:=List.mem_map.mp h
   cases oi
  ·rw[(List.mem_replicate.mp h).2] at oi; cases oi
theorem qnj {d:Ro->Rs Out} {n:Nat} {N:List Str} {vs:List V} {H:Hp} {Q:VK} (hn:n<=N.length) (h:spP K G C (fnT n N.length d) vs H Q E):tS ⟨K,G,E,C,0⟩ d { nx:=λ_ H'=>Q .non H',rt:=Q } (start N vs) H:=by
 obtain ⟨B,ts,le,bt,m,r,w⟩:=h
 unfold fnT at w
 split at w
 ·rename_i hl
  refine ⟨H,B,_,B,qit le bt m r (by lia),?_⟩
  rw[hl]
  refine Wnt.mono (Wnt.bind (qay.mp w)) λo w1=> ?_
  cases o with
  | rt t=>exact w1
  | nx ρ=>exact λσ' H' B' ev _=>w1 .non H' B' ev.gr ev.gm (by unfold Rep; rfl)
  | bk ρ=>exact w1.elim
  | ct ρ=>exact w1.elim
  | rs t ρ=>exact w1.elim
 ·exact w.elim
theorem qoL {d:Ro->Rs Out} {n N:Nat} {vs:List V} {H:Hp} {Q:VK} (h:spP K G C (fnT n N d) vs H Q E):vs.length=n:=by
 obtain ⟨B,ts,le,bt,m,r,w⟩:=h
 unfold fnT at w
 split at w
 ·rename_i hl
  rw[r.length]; exact hl
 ·exact w.elim
end
section
variable {P:Program} {w:World} {K:PySem.W.Frag} {mg:Str->Option Value} {base:Heap} {G:Gam} {C:Str->Addr}
theorem qbL {x qual:Str} {st:Stmt} {f:Addr} {fd:FuncData} {N ps:List Str} {k:Nat} {d:Ro->Rs Out} (F:Fun K x qual st f fd) (S:qav N ps (qah st))
  (hbody: ∀(cdv:Value) (A:Around) (outer:List Env) (s:Shared) (H:Hp) (E:XK),qcE k (A.deeper (PyProof.Rows.envOfC qual (qah st) s.heap.objs.size f cdv))->
   DSs ⟨K,G,E,C,0⟩ (qnF CX0 P w K mg base N qual (qah st) f cdv A outer s H E).nox (qbp st) d):qbf P w K mg base CX0 (k+1) f fd ps (spP K G C (fnT ps.length N.length d)):=by
 have hpl:ps.length<=N.length:=by have:=congrArg List.length S.pre; rw[List.length_take] at this; lia
 exact F.ok S (λvs H Q E h=>qoL h) λcdv A outer s H vs Q E hr h=>⟨_,hbody cdv A outer s H E hr,qnj hpl h⟩
end
def qau (f:List T->Rs T) (ds:Ro->Rs (List T)):Ro->Rs T:=λρ=>ds ρ>>=f
section
variable {M:Md} {X:Cx} {CX:CXT} {k:Nat} {f:Addr} {fd:FuncData} {ps:List Str} {fT:List T->Rs T} {x:Str} {p pos:Pos} {e:Expr} {es:List Expr} {ds:Ro->Rs (List T)}
theorem qlS {σ:St} {H:Hp} {Q:VK} (h:tP M (qau fT ds) σ H Q):qgP (spP M.K M.G M.C fT) [] M.E (tPA M ds) σ H Q:=by
 obtain ⟨H0,B0,ρ,B,ev,w⟩:=h
 refine tPA.of ev (Wnt.mono (Wnt.bind (qay.mp w)) λts w1 vs H1 B1 g1 m1 r1=> ?_)
 have ev1:=ev.grow g1 m1
 refine ⟨B1,ts,ev1.bh,ev1.bt,m1,by rw[List.append_nil]; exact r1,?_⟩
 cases q:fT ts with
 | no=>rw[q] at w1; exact w1
 | ok r=>rw[q] at w1; exact λv H' B' g m rr=>w1 v H' B' (g1.trans g) m rr
 | ex c=>rw[q] at w1; exact λH' g m=>w1 H' (ev1.gr.gx.trans g) m
theorem qpU (F:qbf X.prog X.w X.K X.mg X.base CX k f fd ps (spP M.K M.G M.C fT)) (hr:qcE k X.A) (hg:Gl X x) (hm:X.mg x=some (.ref f)) (hk:PySem.W.keepIn X.K (.ref f)=true) (hb:qdB X.K fd ps []) (hx:qgH CX X M.E)
  (ha:DA M X (e::es) ds) (hdb:(x==("__debug__" :Str))=false:=by decide) (he:starEach (e::es) X.env=(false,eval e X.env)::starEach es X.env:=by rfl) (hpl:(backTo pos (starEach es X.env)).any (·.1)=false:=by rfl):
  DE M X (.Call (.Name x p) (e::es) [] pos) (qau fT ds):=PE.weak (qdt F hr hg hm hk hb .nil hx ha hdb he hpl) λσ H Q h=>qlS h
end
theorem qi2 {M:Md} {X:Cx}:qgH CX0 X M.E:=λ_ _ _ _ _ _ _ h=>h.elim
def dTB (da:Ro->Rs T):Ro->Rs Bool:=λρ=>da ρ>>=λt=>match t with | .bl b=>.ok b | _=>.no
def qe6 (d e:Ro->Rs Bool):Ro->Rs Bool:=λρ=>d ρ>>=λc=>if c=true then e ρ else .ok false
def dOr (d e:Ro->Rs Bool):Ro->Rs Bool:=λρ=>d ρ>>=λc=>if c=true then .ok true else e ρ
def qgq (d:Ro->Rs Bool):Ro->Rs Bool:=λρ=>d ρ>>=λc=>.ok (!c)
def qhw (d e:Ro->Rs T):Ro->Rs T:=λρ=>dTB d ρ>>=λc=>if c=true then e ρ else .ok (.bl false)
def qv4 (d e:Ro->Rs T):Ro->Rs T:=λρ=>dTB d ρ>>=λc=>if c=true then .ok (.bl true) else e ρ
def qp4 (d:Ro->Rs T):Ro->Rs T:=λρ=>dTB d ρ>>=λc=>.ok (.bl (!c))
def qso (dt:Ro->Rs Bool) (d e:Ro->Rs T):Ro->Rs T:=λρ=>dt ρ>>=λc=>if c=true then d ρ else e ρ
abbrev DW (M:Md) (X:Cx) (e:Expr) (d:Ro->Rs Bool):Prop:=PW X e (tPT M d)
theorem PW.weak {X:Cx} {e:Expr} {t t':TT} (h:PW X e t) (w: ∀σ H Q,t' σ H Q->t σ H Q):PW X e t':=λwh pins s σ H Q I q=>h wh pins s σ H Q I (w σ H Q q)
theorem qa7 {K:PySem.W.Frag} {B:Hp} {b:Bool} {v:V} (r:Rep K B (.bl b) v):v= .bl b:=by unfold Rep at r; exact r
theorem qaw {K:PySem.W.Frag} {B:Hp} {b:Int} {v:V} (r:Rep K B (.int b) v):v= .int b:=by unfold Rep at r; exact r
theorem qaN {K:PySem.W.Frag} {B:Hp} {b:Str} {v:V} (r:Rep K B (.str b) v):v= .str b:=by unfold Rep at r; exact r
theorem qbh {K:PySem.W.Frag} {B:Hp} {v:V} (r:Rep K B .non v):v= .non:=by unfold Rep at r; exact r
theorem qfl {K:PySem.W.Frag} {B:Hp} {ts:List T} {v:V} (r:Rep K B (.tup ts) v): ∃p vs,v= .ref p/\B p=some (.tup vs)/\qaP K B ts vs:=by unfold Rep at r; exact r
theorem qbk {K:PySem.W.Frag} {B:Hp} {ts:List T} {v:V} (r:Rep K B (.tup ts) v): ∃p vs,v= .ref p/\SqT K B p vs/\qaP K B ts vs:=by obtain ⟨p,vs,a,b,c⟩:=qfl r; exact ⟨p,vs,a,SqT.of b,c⟩
theorem qbl {K:PySem.W.Frag} {B:Hp} {ts:List T} {v:V} (r:Rep K B (.lst ts) v): ∃p vs,v= .ref p/\B p=some (.lst vs)/\qaP K B ts vs:=by unfold Rep at r; exact r
theorem qb5 {K:PySem.W.Frag} {B:Hp} {b:Bool}:Rep K B (.bl b) (.bl b):=by unfold Rep; rfl
theorem qaX {K:PySem.W.Frag} {B:Hp} {b:Int}:Rep K B (.int b) (.int b):=by unfold Rep; rfl
theorem qf1 {K:PySem.W.Frag} {B:Hp} {b:Str}:Rep K B (.str b) (.str b):=by unfold Rep; rfl
theorem qf0 {K:PySem.W.Frag} {B:Hp} {ts:List T} {p:Addr} {vs:List V} (h:B p=some (.tup vs)) (r:qaP K B ts vs):Rep K B (.tup ts) (.ref p):=by unfold Rep; exact ⟨p,vs,rfl,h,r⟩
theorem qkH {K:PySem.W.Frag} {B:Hp} {ts:List T} {p:Addr} {vs:List V} (h:B p=some (.lst vs)) (r:qaP K B ts vs):Rep K B (.lst ts) (.ref p):=by unfold Rep; exact ⟨p,vs,rfl,h,r⟩
section
variable {M:Md} {X:Cx} {e a b c:Expr} {qce:List Expr} {pos:Pos} {da db dc:Ro->Rs T} {dt du:Ro->Rs Bool}
theorem qb2 {σ:St} {H:Hp} {Q:Bool->Hp->Prop} (h:tPT M (dTB da) σ H Q):tP M da σ H λx H1=> ∃c,x= .bl c/\Q c H1:=by
 obtain ⟨H0,B0,ρ,B,ev,w⟩:=h
 refine tP.of ev (Wnt.mono (Wnt.bind (qdk.mp w)) λt w1 v H1 B1 g1 m1 r1=> ?_)
 cases t with
 | bl b=>exact ⟨b,qa7 r1,w1 H1 B1 g1 m1⟩
 | _=>exact w1.elim
theorem qcR (h:DE M X e da) (he: ∀whole,isTrue e X.env whole=(do let v <-whole; standAt e.pos; holding [v] (truthy v)):=by intro _; rfl):DT M X e (dTB da):=PT.weak (qq1 h he) λσ H Q h=>qb2 h
theorem qaK {op:CmpOp} {r:R2} {g:T->T->Rs T} (ho:OpR X (compareOp op) r) (hr:RS M r g) (hp:Pl g) (ha:DE M X a da) (hb:DE M X b db) (hm:behindInMarks op b=false:=by first | exact qdR _ (by decide) (by decide) | rfl):DT M X (.Compare a [op] [b] pos) (dTB (dB g da db)):=
 PT.weak (qcW ho ha hb hm) λ_ _ _ h=>qfp hr hp (qb2 h)
def qcy (g g':T->T->Rs T) (da db dc:Ro->Rs T):Ro->Rs T:=λρ=>da ρ>>=λx=>db ρ>>=λy=>g x y>>=λz=>match z with | .bl k=>if k=true then dc ρ>>=λu=>g' y u else .ok (.bl false) | _=>.no
theorem qe8 {r r':R2} {g g':T->T->Rs T} (hr:RS M r g) (hp:Pl g) (hr':RS M r' g') (hp':Pl g') {σ:St} {H:Hp} {Q:VK} (h:tP M (qcy g g' da db dc) σ H Q):qjN r r' (tP M da) (tP M db) (tP M dc) σ H Q:=by
 obtain ⟨H0,B0,ρ,B,ev,w⟩:=h
 refine tP.of ev (Wnt.mono (Wnt.bind (qay.mp w)) λx w1 v H1 B1 g1 m1 r1=> ?_)
 refine tP.of (ev.grow g1 m1) (Wnt.mono (Wnt.bind w1) λy w2 u H2 B2 g2 m2 r2=> ?_)
 have ev2:=(ev.grow g1 m1).grow g2 m2
 cases q:g x y with
 | no=>rw[q] at w2; exact w2.elim
 | ex c=>exact absurd q (hp x y c)
 | ok z=>
  rw[q] at w2
  refine hr H2 B2 v u x y z _ ev2.bh ev2.bt m2 (r1.mono g2.bb) r2 q λv' H3 B3 g3 m3 r3=> ?_
  cases z with
  | bl k=>
   refine ⟨k,qa7 r3,?_⟩
   have ev3:=ev2.grow g3 m3
   cases k with
   | false=>exact qqj (w2 (.bl false) H3 B3 ((g1.trans g2).trans g3) m3 qb5)
   | true=>
    refine qqi (tP.of ev3 (Wnt.mono (Wnt.bind w2) λu' w3 v4 H4 B4 g4 m4 r4=> ?_))
    have ev4:=ev3.grow g4 m4
    cases q':g' y u' with
    | no=>rw[q'] at w3; exact w3.elim
    | ex c=>exact absurd q' (hp' y u' c)
    | ok z'=>
     rw[q'] at w3
     exact hr' H4 B4 u v4 y u' z' _ ev4.bh ev4.bt m4 ((r2.mono g3.bb).mono g4.bb) r4 q' λv5 H5 B5 g5 m5 r5=>w3 v5 H5 B5 ((((g1.trans g2).trans g3).trans g4).trans g5) m5 r5
  | _=>exact w2.elim
theorem qiz {op op':CmpOp} {r r':R2} {g g':T->T->Rs T} (ho:OpR X (compareOp op) r) (ho':OpR X (compareOp op') r') (hr:RS M r g) (hp:Pl g) (hr':RS M r' g') (hp':Pl g') (ha:DE M X a da) (hb:DE M X b db) (hc:DE M X c dc)
  (hm:lastMarks [op,op'] [b,c]=false:=by with_unfolding_all rfl):DE M X (.Compare a [op,op'] [b,c] pos) (qcy g g' da db dc):=PE.weak (qmV ho ho' ha hb hc hm) λ_ _ _ h=>qe8 hr hp hr' hp' h
theorem qnx {op op':CmpOp} {r r':R2} {g g':T->T->Rs T} (ho:OpR X (compareOp op) r) (ho':OpR X (compareOp op') r') (hr:RS M r g) (hp:Pl g) (hr':RS M r' g') (hp':Pl g') (ha:DE M X a da) (hb:DE M X b db) (hc:DE M X c dc)
  (hm:lastMarks [op,op'] [b,c]=false:=by with_unfolding_all rfl):DT M X (.Compare a [op,op'] [b,c] pos) (dTB (qcy g g' da db dc)):=PT.weak (qmK ho ho' ha hb hc hm) λ_ _ _ h=>qe8 hr hp hr' hp' (qb2 h)
theorem qcs (h:DT M X a dt):DT M X (.UnaryOp .Not a pos) (qgq dt):=PT.weak (qq2 h) λσ H Q ⟨H0,B0,ρ,B,ev,w⟩=>tPT.of ev (Wnt.mono (Wnt.bind (qdk.mp w)) λc w1 H1 B1 g m=>w1 H1 B1 g m)
theorem qdw (h:DT M X a dt):DW M X (.BoolOp .And [a] pos) dt:=qoZ h
theorem qer (h:DT M X a dt):DW M X (.BoolOp .Or [a] pos) dt:=qqZ h
theorem qe4 (h:DT M X a dt) (h':DW M X (.BoolOp .And (b::qce) pos) du):DW M X (.BoolOp .And (a::b::qce) pos) (qe6 dt du):=PW.weak (qq0 h h') λσ H Q ⟨H0,B0,ρ,B,ev,w⟩=>tPT.of ev (Wnt.mono (Wnt.bind (qdk.mp w)) λc w1 H1 B1 g m=>by
 cases c with
 | true=>exact qqi (tPT.of (ev.grow g m) (Wnt.mono w1 λc w2 H2 B2 g2 m2=>w2 H2 B2 (g.trans g2) m2))
 | false=>exact qqj (w1 H1 B1 g m))
theorem qeR (h:DT M X a dt) (h':DW M X (.BoolOp .Or (b::qce) pos) du):DW M X (.BoolOp .Or (a::b::qce) pos) (dOr dt du):=PW.weak (qtr h h') λσ H Q ⟨H0,B0,ρ,B,ev,w⟩=>tPT.of ev (Wnt.mono (Wnt.bind (qdk.mp w)) λc w1 H1 B1 g m=>by
 cases c with
 | true=>exact qqi (w1 H1 B1 g m)
 | false=>exact qqj (tPT.of (ev.grow g m) (Wnt.mono w1 λc w2 H2 B2 g2 m2=>w2 H2 B2 (g.trans g2) m2)))
theorem qji {e:Expr} (h:DW M X e dt):DT M X e dt:=PW.pt h
theorem qhK {P':T->Prop} {H0:Hp} {ρ:Ro} {f:Bool->Rs T} (w:Wnt M H0 P' (dTB da ρ>>=f)):Wnt M H0 (λt=> ∃c,t= .bl c/\Wnt M H0 P' (f c)) (da ρ):=by
 refine Wnt.mono (Wnt.bind (Wnt.bind w)) λt w1=> ?_
 cases t with
 | bl b=>exact ⟨b,rfl,w1⟩
 | _=>exact w1.elim
theorem qlB {op} (h:DE M X a da):DE M X (.BoolOp op [a] pos) da:=qra h
theorem qlD (h:DE M X a da) (h':DE M X (.BoolOp .And (b::qce) pos) db):DE M X (.BoolOp .And (a::b::qce) pos) (qhw da db):=PE.weak (qrc h h') λσ H Q ⟨H0,B0,ρ,B,ev,w⟩=>tP.of ev (Wnt.mono (qhK (qay.mp w)) λt ⟨c,et,w1⟩ v H1 B1 g m r=>by
 subst et
 refine ⟨c,qa7 r,?_⟩
 cases c with
 | true=>exact qqi (tP.of (ev.grow g m) (Wnt.mono w1 λc w2 v2 H2 B2 g2 m2 r2=>w2 v2 H2 B2 (g.trans g2) m2 r2))
 | false=>exact qqj (w1 _ H1 B1 g m qb5))
theorem qrV (h:DE M X a da):DE M X (.UnaryOp .Not a pos) (qp4 da):=PE.weak (qrb h) λσ H Q ⟨H0,B0,ρ,B,ev,w⟩=>tP.of ev (Wnt.mono (qhK (qay.mp w)) λt ⟨c,et,w1⟩ v H1 B1 g m r=>by
 subst et
 exact ⟨c,qa7 r,w1 _ H1 B1 g m qb5⟩)
theorem quw (hc:DT M X c dt) (ha:DE M X a da) (hb:DE M X b db):DE M X (.IfExp c a b pos) (qso dt da db):=PE.weak (qmS hc ha hb) λσ H Q ⟨H0,B0,ρ,B,ev,w⟩=>tPT.of ev (Wnt.mono (Wnt.bind (qay.mp w)) λc w1 H1 B1 g m=>by
 cases c with
 | true=>exact qqi (tP.of (ev.grow g m) (Wnt.mono w1 λc w2 v2 H2 B2 g2 m2 r2=>w2 v2 H2 B2 (g.trans g2) m2 r2))
 | false=>exact qqj (tP.of (ev.grow g m) (Wnt.mono w1 λc w2 v2 H2 B2 g2 m2 r2=>w2 v2 H2 B2 (g.trans g2) m2 r2)))
end
end PL
end
section
namespace Mir
open St
theorem qdf: ∀{l:List Nat} {x:Nat},x∈l->(l.erase x).length+1=l.length
 | [],_,h=>by cases h
 | y::l,x,h=>by
  by_cases e:y=x
  ·subst e; simp
  ·have hb:(y==x)=false:=by simpa using e
   rw[List.erase_cons,hb]
   simp only[Bool.false_eq_true,if_false,List.length_cons]
   have:=qdf (l:=l) (x:=x) ((List.mem_cons.mp h).resolve_left λz=>e z.symm)
   lia
theorem qf3 {l:List Nat} {x y:Nat} (h:y∈l) (hne:y≠x):y∈l.erase x:=by
 induction l with
 | nil=>cases h
 | cons z l ih=>
  rw[List.erase_cons]
  by_cases e:z=x
  ·have hb:(z==x)=true:=by simpa using e
   rw[hb,if_pos rfl]
   exact (List.mem_cons.mp h).resolve_left λq=>hne (q.trans e)
  ·have hb:(z==x)=false:=by simpa using e
   rw[hb]
   simp only[Bool.false_eq_true,if_false]
   rcases List.mem_cons.mp h with q | q
   ·rw[q]; exact List.mem_cons_self
   ·exact List.mem_cons_of_mem _ (ih q)
theorem qh6: ∀{l l':List Nat},l.Nodup->(∀x∈l,x∈l')->l.length<=l'.length
 | [],_,_,_=>Nat.zero_le _
 | x::l,l',nd,h=>by
  have hx:x∈l':=h x List.mem_cons_self
  have hn:=List.nodup_cons.mp nd
  have:=qh6 (l:=l) (l':=l'.erase x) hn.2 λy hy=>qf3 (h y (List.mem_cons_of_mem _ hy)) λz=>hn.1 (z▸hy)
  have e:=qdf hx
  rw[List.length_cons]
  lia
theorem qvS {l:List Nat} {n:Nat} (nd:l.Nodup) (lt: ∀x∈l,x<n) (hl:l.length=n): ∀j,j<n->j∈l:=by
 intro j hj
 by_cases q:j∈l
 ·exact q
 ·have h1:=qh6 (l:=j::l) (l':=List.range n) (List.nodup_cons.mpr ⟨q,nd⟩) λx hx=>by
   rcases List.mem_cons.mp hx with e | e
   ·rw[e]; exact List.mem_range.mpr hj
   ·exact List.mem_range.mpr (lt x e)
  rw[List.length_cons,List.length_range] at h1
  lia
theorem qcQ {R:Nat->Nat->Prop} (asym: ∀a b,R a b->¬R b a): ∀{l l':List Nat},l.Pairwise R->l'.Pairwise R->(∀x,x∈l↔x∈l')->l=l'
 | [],[],_,_,_=>rfl
 | [],y::l',_,_,h=>by have:=(h y).mpr List.mem_cons_self; cases this
 | x::l,[],_,_,h=>by have:=(h x).mp List.mem_cons_self; cases this
 | x::l,y::l',h1,h2,h=>by
  obtain ⟨a1,b1⟩:=List.pairwise_cons.mp h1
  obtain ⟨a2,b2⟩:=List.pairwise_cons.mp h2
  have exy:x=y:=by
   rcases List.mem_cons.mp ((h x).mp List.mem_cons_self) with e | e
   ·exact e
   ·rcases List.mem_cons.mp ((h y).mpr List.mem_cons_self) with e' | e'
    ·exact e'.symm
    ·exact absurd (a2 x e) (asym x y (a1 y e'))
  subst exy
  have n1:x∉l:=λq=>asym x x (a1 x q) (a1 x q)
  have n2:x∉l':=λq=>asym x x (a2 x q) (a2 x q)
  rw[qcQ asym b1 b2 λz=>⟨λq=>((List.mem_cons.mp ((h z).mp (List.mem_cons_of_mem _ q))).resolve_left λe=>n1 (e▸q)),λq=>((List.mem_cons.mp ((h z).mpr (List.mem_cons_of_mem _ q))).resolve_left λe=>n2 (e▸q))⟩]
variable {ms:List Int} {n:Nat} {p:Array Nat}
theorem qow {k:Nat->Int} (a b:Nat) (h:L k a b): ¬L k b a:=by
 intro h'
 rcases h with h | h<;>rcases h' with h' | h'<;>lia
theorem qcM (h:qeC ms n p):p.toList.Pairwise (L λi=>ms.getD i 0):=by
 rw[List.pairwise_iff_getElem]
 intro i j hi hj hij
 have hi':i<p.size:=by simpa using hi
 have hj':j<p.size:=by simpa using hj
 have e:=h.2 i j hij (by rw[h.1.sz] at hj'; exact hj')
 have e1:g p i=p.toList[i]:=by unfold g; rw[Array.getD_eq_getD_getElem?]; simp[hi']
 have e2:g p j=p.toList[j]:=by unfold g; rw[Array.getD_eq_getD_getElem?]; simp[hj']
 rw[e1,e2] at e
 exact e
theorem qh3 (h:qeC ms n p): ∀x∈p.toList,x<n:=by
 intro x hx
 obtain ⟨i,hi,rfl⟩:=List.mem_iff_getElem.mp hx
 have hi':i<p.size:=by simpa using hi
 have e:=h.1.lo i (by rw[h.1.sz] at hi'; exact hi')
 have e1:g p i=p.toList[i]:=by unfold g; rw[Array.getD_eq_getD_getElem?]; simp[hi']
 rw[e1] at e
 exact e
theorem qgZ (h:qeC ms n p):p.toList.Nodup:=by
 refine List.Pairwise.imp ?_ (qcM h)
 intro a b hab e
 subst e
 exact qow a a hab hab
theorem order_mem (h:qeC ms n p) (x:Nat):x∈p.toList↔x<n:=
 ⟨qh3 h x,qvS (qgZ h) (qh3 h) (by rw[Array.length_toList]; exact h.1.sz) x⟩
def qsJ (ms:List Int) (n:Nat) (m:Int):List Nat:=(List.range n).filter λj=>decide (ms.getD j 0=m)
def due (ms:List Int) (n t:Nat):List Nat:=(List.range t).flatMap λm=>qsJ ms n (m:Nat)
theorem map_range_getD {α:Type} (xs:List α) (d:α):(List.range xs.length).map (λj=>xs.getD j d)=xs:=by
 apply List.ext_getElem
 ·simp
 ·intro i h1 h2
  simp[h2]
end Mir
end
section
namespace SR
open PySem L2 RH St Mir
theorem qrE {k:Nat->Int} {n:Nat}: ∀{l:List Nat},(∀x∈l,x<n)->l.Pairwise (L k)->(ins k n l).Pairwise (L k)
 | [],_,_=>by simp[ins]
 | y::l,hl,h=>by
  have h':=List.pairwise_cons.mp h
  have hy:y<n:=hl y List.mem_cons_self
  show (if k y<=k n then y::ins k n l else n::y::l).Pairwise (L k)
  by_cases c:k y<=k n
  ·rw[if_pos c]
   refine List.pairwise_cons.mpr ⟨λz hz=> ?_,qrE (λx hx=>hl x (List.mem_cons_of_mem _ hx)) h'.2⟩
   rcases qfr.mp hz with q | q
   ·subst q
    unfold L
    lia
   ·exact h'.1 z q
  ·rw[if_neg c]
   refine List.pairwise_cons.mpr ⟨λz hz=> ?_,h⟩
   rcases List.mem_cons.mp hz with q | q
   ·subst q
    exact .inl (by lia)
   ·have:=h'.1 z q
    unfold L at this⊢
    lia
theorem qfT (k:Nat->Int): ∀n,(srt k (List.range n)).Pairwise (L k)
 | 0=>List.Pairwise.nil
 | n+1=>by
  rw[List.range_succ,qff]
  exact qrE (λx hx=>List.mem_range.mp ((qbm _).mp hx)) (qfT k n)
theorem qfY {ms:List Int} {n:Nat} {p:Array Nat} (h:qeC ms n p):p.toList=srt (λi=>ms.getD i 0) (List.range n):=
 qcQ qow (qcM h) (qfT _ _) λx=>by rw[order_mem h,qbm,List.mem_range]
end SR
end
section
namespace RH
open PySem PySem.Spec PyProof.Rows L2 SR
section
variable {X:Cx} {α:Type}
def eqT (us vs:List V):Bool:=(List.range us.length).all λj=>eqV (us.getD j .non) (vs.getD j .non)
theorem valsArr {us:List V} {is:List Value} (r:Vals us is) {j:Nat} (h:j<is.toArray.size):RelV (us.getD j .non) is.toArray[j]:=by
 have hj:j<us.length:=by rw[r.length]; simpa using h
 obtain ⟨u,e,q⟩:=r.get (List.getElem?_eq_getElem hj)
 rw[List.getD_eq_getElem?_getD,List.getElem?_eq_getElem hj]
 have:is.toArray[j]=u:=by
  rw[List.getElem?_eq_getElem (by simpa using h)] at e
  simpa using Option.some.inj e
 rw[this]
 exact q
end
end RH
end
section
namespace PL
open PySem L2
mutual
def eqT:T->T->Bool
 | .non,.non=>true
 | .bl a,.bl b=>a==b
 | .bl a,.int b=>(if a then 1 else 0)==b
 | .int a,.bl b=>a==(if b then 1 else 0)
 | .int a,.int b=>a==b
 | .str a,.str b=>a==b
 | .tup xs,.tup ys=>qfI xs ys
 | .lst xs,.lst ys=>qfI xs ys
 | _,_=>false
def qfI:List T->List T->Bool
 | [],[]=>true
 | x::xs,y::ys=>eqT x y&&qfI xs ys
 | _,_=>false
end
def okT:Nat->T->Bool
 | _,.non=>true
 | _,.bl _=>true
 | _,.int _=>true
 | _,.str _=>true
 | n+1,.tup ts=>ts.all (okT n)
 | n+1,.lst ts=>ts.all (okT n)
 | _,_=>false
def qnk:T->Bool
 | .non=>true
 | .bl _=>true
 | .int _=>true
 | .str _=>true
 | _=>false
abbrev qhX (xs ys:List T) (j:Nat):Bool:=eqT (xs.getD j .non) (ys.getD j .non)
theorem qdj: ∀xs ys:List T,qfI xs ys=((List.range (min xs.length ys.length)).all (qhX xs ys)&&xs.length==ys.length)
 | [],[]=>by simp[qfI]
 | [],_::_=>by simp[qfI]
 | _::_,[]=>by simp[qfI]
 | x::xs,y::ys=>by
  rw[qfI,qdj xs ys]
  have m:min (x::xs).length (y::ys).length=(min xs.length ys.length).succ:=by simp only[List.length_cons]; lia
  rw[m,List.range_succ_eq_map,List.all_cons,List.all_map,<-Bool.and_assoc]
  have e:(qhX (x::xs) (y::ys)∘Nat.succ)=qhX xs ys:=by funext j; simp[qhX]
  rw[e,show qhX (x::xs) (y::ys) 0=eqT x y from rfl]
  simp
theorem qiu {xs ys:List T} (h:xs.length=ys.length):qfI xs ys=(List.range xs.length).all (qhX xs ys):=by
 rw[qdj,h,Nat.min_self,beq_self_eq_true,Bool.and_true]
theorem qlm {xs ys:List T} (h:xs.length≠ys.length):qfI xs ys=false:=by
 rw[qdj]; simp[h]
section kinds
open SeqAt
variable {A:Around} {s:Shared} {x:V} {u:Value} {l b:Addr} {is js:Array Value}
theorem qhk (r:RelV x u) (f:qhi x=true) (h:s.heap.IsList l is) (c:A.units<cLine):EqAt A s u (.ref l) false/\EqAt A s (.ref l) u false/\RcAt A s u (.ref l) false/\RcAt A s (.ref l) u false/\RcNeAt A s u (.ref l) true/\RcNeAt A s (.ref l) u true:=by
 cases x with
 | non=>cases r; exact ⟨.none_list h c,.list_none h c,.none_list h c,.list_none h c,.none_list h c,.list_none h c⟩
 | bl k=>cases r; exact ⟨.bool_list k h c,.list_bool k h c,.bool_list k h c,.list_bool k h c,.bool_list k h c,.list_bool k h c⟩
 | int k=>obtain ⟨t,rfl⟩:=r; exact ⟨.int_list k t h c,.list_int k t h c,.int_list k t h c,.list_int k t h c,.int_list k t h c,.list_int k t h c⟩
 | str k=>obtain ⟨t,rfl⟩:=r; exact ⟨.str_list k t h c,.list_str k t h c,.str_list k t h c,.list_str k t h c,.str_list k t h c,.list_str k t h c⟩
 | _=>cases f
theorem qhj (r:RelV x u) (f:qhi x=true) (h:s.heap.IsTuple l is) (c:A.units<cLine):EqAt A s u (.ref l) false/\EqAt A s (.ref l) u false/\RcAt A s u (.ref l) false/\RcAt A s (.ref l) u false/\RcNeAt A s u (.ref l) true/\RcNeAt A s (.ref l) u true:=by
 cases x with
 | non=>cases r; exact ⟨.none_tuple h c,.tuple_none h c,.none_tuple h c,.tuple_none h c,.none_tuple h c,.tuple_none h c⟩
 | bl k=>cases r; exact ⟨.bool_tuple k h c,.tuple_bool k h c,.bool_tuple k h c,.tuple_bool k h c,.bool_tuple k h c,.tuple_bool k h c⟩
 | int k=>obtain ⟨t,rfl⟩:=r; exact ⟨.int_tuple k t h c,.tuple_int k t h c,.int_tuple k t h c,.tuple_int k t h c,.int_tuple k t h c,.tuple_int k t h c⟩
 | str k=>obtain ⟨t,rfl⟩:=r; exact ⟨.str_tuple k t h c,.tuple_str k t h c,.str_tuple k t h c,.tuple_str k t h c,.str_tuple k t h c,.tuple_str k t h c⟩
 | _=>cases f
theorem qto {y:V} {v:Value} (r:RelV x u) (f:qhi x=true) (r':RelV y v) (f':qhi y=true):RcAt A s u v (eqV x y)/\RcNeAt A s u v (!eqV x y):=by
 cases x with
 | non=>
  cases r
  cases y with
  | non=>cases r'; exact ⟨.none_none,.none_none⟩
  | bl k=>cases r'; exact ⟨.none_bool k,.none_bool k⟩
  | int k=>obtain ⟨t,rfl⟩:=r'; exact ⟨.none_int k t,.none_int k t⟩
  | str k=>obtain ⟨t,rfl⟩:=r'; exact ⟨.none_str k t,.none_str k t⟩
  | _=>cases f'
 | bl i=>
  cases r
  cases y with
  | non=>cases r'; exact ⟨.bool_none i,.bool_none i⟩
  | bl k=>cases r'; exact ⟨.bool_bool i k,.bool_bool i k⟩
  | int k=>obtain ⟨t,rfl⟩:=r'; exact ⟨.bool_int i k t,.bool_int i k t⟩
  | str k=>obtain ⟨t,rfl⟩:=r'; exact ⟨.bool_str i k t,.bool_str i k t⟩
  | _=>cases f'
 | int i=>
  obtain ⟨t0,rfl⟩:=r
  cases y with
  | non=>cases r'; exact ⟨.int_none i t0,.int_none i t0⟩
  | bl k=>cases r'; exact ⟨.int_bool i t0 k,.int_bool i t0 k⟩
  | int k=>obtain ⟨t,rfl⟩:=r'; exact ⟨.int_int i t0 k t,.int_int i t0 k t⟩
  | str k=>obtain ⟨t,rfl⟩:=r'; exact ⟨.int_str i t0 k t,.int_str i t0 k t⟩
  | _=>cases f'
 | str i=>
  obtain ⟨t0,rfl⟩:=r
  cases y with
  | non=>cases r'; exact ⟨.str_none i t0,.str_none i t0⟩
  | bl k=>cases r'; exact ⟨.str_bool i t0 k,.str_bool i t0 k⟩
  | int k=>obtain ⟨t,rfl⟩:=r'; exact ⟨.str_int i t0 k t,.str_int i t0 k t⟩
  | str k=>obtain ⟨t,rfl⟩:=r'; exact ⟨.str_str i t0 k t,.str_str i t0 k t⟩
  | _=>cases f'
 | _=>cases f
end kinds
inductive St3 (K:PySem.W.Frag) (B:Hp) (s:Shared):T->V->Value->Prop
 | flat {t x u}:qnk t=true->qhi x=true->RelV x u->Rep K B t x->St3 K B s t x u
 | lst {ts p is vs}:s.heap.IsList p (List.toArray is)->Vals vs is->qaP K B ts vs->St3 K B s (.lst ts) (.ref p) (.ref p)
 | tup {ts p is vs}:s.heap.IsTuple p (List.toArray is)->Vals vs is->qaP K B ts vs->St3 K B s (.tup ts) (.ref p) (.ref p)
section
variable {X:Cx} {pins:List (Addr×Obj)} {σ:St} {H B:Hp} {s:Shared}
theorem st3 {n:Nat} {t:T} {x:V} {u:Value} (I:Inv X pins σ H s) (le:Le B H) (ok:okT n t=true) (r:Rep X.K B t x) (ru:RelV x u):St3 X.K B s t x u:=by
 cases t with
 | non=>have:=qbh r; subst this; exact .flat rfl rfl ru r
 | bl b=>have:=qa7 r; subst this; exact .flat rfl rfl ru r
 | int b=>have:=qaw r; subst this; exact .flat rfl rfl ru r
 | str b=>have:=qaN r; subst this; exact .flat rfl rfl ru r
 | tup ts=>
  obtain ⟨p,vs,rfl,hp,rs⟩:=qbk r
  cases ru
  obtain ⟨is,rv,pl,_⟩:=I.tuple (le.sqT hp)
  exact .tup pl rv rs
 | lst ts=>
  obtain ⟨p,vs,rfl,hp,rs⟩:=qbl r
  cases ru
  obtain ⟨is,rv,pl,_⟩:=I.list (SqL.of (le _ _ hp))
  exact .lst pl.isList rv rs
 | dct _=>cases n<;>cases ok
 | dtu _=>cases n<;>cases ok
 | dcf _=>cases n<;>cases ok
 | fn _=>cases n<;>cases ok
 | scr _=>cases n<;>cases ok
theorem qfu {K:PySem.W.Frag} {t u:T} {x y:V} (ft:qnk t=true) (fu:qnk u=true) (r:Rep K B t x) (r':Rep K B u y):eqT t u=eqV x y:=by
 cases t<;>first | cases ft | skip
 ·have:=qbh r; subst this; cases u<;>first | cases fu | skip
  ·have:=qbh r'; subst this; rfl
  ·have:=qa7 r'; subst this; rfl
  ·have:=qaw r'; subst this; rfl
  ·have:=qaN r'; subst this; rfl
 ·have:=qa7 r; subst this; cases u<;>first | cases fu | skip
  ·have:=qbh r'; subst this; rfl
  ·have:=qa7 r'; subst this; rfl
  ·have:=qaw r'; subst this; rfl
  ·have:=qaN r'; subst this; rfl
 ·have:=qaw r; subst this; cases u<;>first | cases fu | skip
  ·have:=qbh r'; subst this; rfl
  ·have:=qa7 r'; subst this; rfl
  ·have:=qaw r'; subst this; rfl
  ·have:=qaN r'; subst this; rfl
 ·have:=qaN r; subst this; cases u<;>first | cases fu | skip
  ·have:=qbh r'; subst this; rfl
  ·have:=qa7 r'; subst this; rfl
  ·have:=qaw r'; subst this; rfl
  ·have:=qaN r'; subst this; rfl
theorem qbw {t:T} {ts:List T} (f:qnk t=true):eqT t (.lst ts)=false/\eqT (.lst ts) t=false/\eqT t (.tup ts)=false/\eqT (.tup ts) t=false:=by
 cases t<;>first | exact ⟨rfl,rfl,rfl,rfl⟩ | cases f
theorem qbJ {n:Nat} {ts:List T} (h:ts.all (okT n)=true) {j:Nat} (hj:j<ts.length):okT n (ts.getD j .non)=true:=by
 rw[List.getD_eq_getElem?_getD,List.getElem?_eq_getElem hj]
 exact List.all_eq_true.mp h _ (List.getElem_mem hj)
theorem qdv {n:Nat} {ts:List T} (h:okT n (.lst ts)=true): ∃m,n=m+1/\ts.all (okT m)=true:=by
 cases n with
 | zero=>cases h
 | succ m=>exact ⟨m,rfl,h⟩
theorem qdu {n:Nat} {ts:List T} (h:okT n (.tup ts)=true): ∃m,n=m+1/\ts.all (okT m)=true:=by
 cases n with
 | zero=>cases h
 | succ m=>exact ⟨m,rfl,h⟩
mutual
theorem qcC: ∀(n:Nat) (t:T),okT n t=true->eqT t t=true
 | _,.non,_=>rfl
 | _,.bl b,_=>by simp[eqT]
 | _,.int b,_=>by simp[eqT]
 | _,.str b,_=>by simp[eqT]
 | _,.tup ts,h=>by
  obtain ⟨m,_,h'⟩:=qdu h
  rw[eqT]; exact qeq m ts h'
 | _,.lst ts,h=>by
  obtain ⟨m,_,h'⟩:=qdv h
  rw[eqT]; exact qeq m ts h'
 | n,.dct _,h=>by cases n<;>cases h
 | n,.dtu _,h=>by cases n<;>cases h
 | n,.dcf _,h=>by cases n<;>cases h
 | n,.fn _,h=>by cases n<;>cases h
 | n,.scr _,h=>by cases n<;>cases h
theorem qeq: ∀(n:Nat) (ts:List T),ts.all (okT n)=true->qfI ts ts=true
 | _,[],_=>rfl
 | n,t::ts,h=>by
  rw[List.all_cons,Bool.and_eq_true] at h
  rw[qfI,qcC n t h.1,qeq n ts h.2]; rfl
end
mutual
theorem qfm (I:Inv X pins σ H s) (le:Le B H): ∀(n m:Nat) (t u:T) (x:V),okT n t=true->okT m u=true->Rep X.K B t x->Rep X.K B u x->t=u
 | n,m,.non,u,x,_,hu,r,r'=>by
  have:=qbh r; subst this
  cases u with
  | non=>rfl
  | bl _=>cases qa7 r'
  | int _=>cases qaw r'
  | str _=>cases qaN r'
  | tup _=>obtain ⟨_,_,e,_⟩:=qbk r'; cases e
  | lst _=>obtain ⟨_,_,e,_⟩:=qbl r'; cases e
  | dct _=>cases m<;>cases hu
  | dtu _=>cases m<;>cases hu
  | dcf _=>cases m<;>cases hu
  | fn _=>cases m<;>cases hu
  | scr _=>cases m<;>cases hu
 | n,m,.bl _,u,x,_,hu,r,r'=>by
  have:=qa7 r; subst this
  cases u with
  | non=>cases qbh r'
  | bl _=>cases qa7 r'; rfl
  | int _=>cases qaw r'
  | str _=>cases qaN r'
  | tup _=>obtain ⟨_,_,e,_⟩:=qbk r'; cases e
  | lst _=>obtain ⟨_,_,e,_⟩:=qbl r'; cases e
  | dct _=>cases m<;>cases hu
  | dtu _=>cases m<;>cases hu
  | dcf _=>cases m<;>cases hu
  | fn _=>cases m<;>cases hu
  | scr _=>cases m<;>cases hu
 | n,m,.int _,u,x,_,hu,r,r'=>by
  have:=qaw r; subst this
  cases u with
  | non=>cases qbh r'
  | bl _=>cases qa7 r'
  | int _=>cases qaw r'; rfl
  | str _=>cases qaN r'
  | tup _=>obtain ⟨_,_,e,_⟩:=qbk r'; cases e
  | lst _=>obtain ⟨_,_,e,_⟩:=qbl r'; cases e
  | dct _=>cases m<;>cases hu
  | dtu _=>cases m<;>cases hu
  | dcf _=>cases m<;>cases hu
  | fn _=>cases m<;>cases hu
  | scr _=>cases m<;>cases hu
 | n,m,.str _,u,x,_,hu,r,r'=>by
  have:=qaN r; subst this
  cases u with
  | non=>cases qbh r'
  | bl _=>cases qa7 r'
  | int _=>cases qaw r'
  | str _=>cases qaN r'; rfl
  | tup _=>obtain ⟨_,_,e,_⟩:=qbk r'; cases e
  | lst _=>obtain ⟨_,_,e,_⟩:=qbl r'; cases e
  | dct _=>cases m<;>cases hu
  | dtu _=>cases m<;>cases hu
  | dcf _=>cases m<;>cases hu
  | fn _=>cases m<;>cases hu
  | scr _=>cases m<;>cases hu
 | n,m,.tup ts,u,x,ht,hu,r,r'=>by
  obtain ⟨p,vs,rfl,hp,rs⟩:=qbk r
  cases u with
  | non=>cases qbh r'
  | bl _=>cases qa7 r'
  | int _=>cases qaw r'
  | str _=>cases qaN r'
  | tup us=>
   obtain ⟨p',vs',e,hp',rs'⟩:=qbk r'
   cases e
   have:=I.tuple_inj (le.sqT hp) (le.sqT hp')
   subst this
   obtain ⟨n',_,ht'⟩:=qdu ht
   obtain ⟨m',_,hu'⟩:=qdu hu
   rw[qfj I le n' m' ts us vs ht' hu' rs rs']
  | lst us=>
   obtain ⟨p',vs',e,hp',rs'⟩:=qbl r'
   cases e
   obtain ⟨is,_,pl,_⟩:=I.tuple (le.sqT hp)
   obtain ⟨is',_,pl',_⟩:=I.list (SqL.of (le _ _ hp'))
   obtain ⟨o,e1,c1,_⟩:=pl
   obtain ⟨o',e2,c2,_⟩:=pl'.isList
   rw[e1] at e2; cases e2; rw[c1] at c2; injection c2 with c2; exact absurd c2 (by decide)
  | dct _=>cases m<;>cases hu
  | dtu _=>cases m<;>cases hu
  | dcf _=>cases m<;>cases hu
  | fn _=>cases m<;>cases hu
  | scr _=>cases m<;>cases hu
 | n,m,.lst ts,u,x,ht,hu,r,r'=>by
  obtain ⟨p,vs,rfl,hp,rs⟩:=qbl r
  cases u with
  | non=>cases qbh r'
  | bl _=>cases qa7 r'
  | int _=>cases qaw r'
  | str _=>cases qaN r'
  | lst us=>
   obtain ⟨p',vs',e,hp',rs'⟩:=qbl r'
   cases e
   rw[hp] at hp'; cases hp'
   obtain ⟨n',_,ht'⟩:=qdv ht
   obtain ⟨m',_,hu'⟩:=qdv hu
   rw[qfj I le n' m' ts us vs ht' hu' rs rs']
  | tup us=>
   obtain ⟨p',vs',e,hp',rs'⟩:=qbk r'
   cases e
   obtain ⟨is,_,pl,_⟩:=I.tuple (le.sqT hp')
   obtain ⟨is',_,pl',_⟩:=I.list (SqL.of (le _ _ hp))
   obtain ⟨o,e1,c1,_⟩:=pl
   obtain ⟨o',e2,c2,_⟩:=pl'.isList
   rw[e1] at e2; cases e2; rw[c1] at c2; injection c2 with c2; exact absurd c2 (by decide)
  | dct _=>cases m<;>cases hu
  | dtu _=>cases m<;>cases hu
  | dcf _=>cases m<;>cases hu
  | fn _=>cases m<;>cases hu
  | scr _=>cases m<;>cases hu
 | n,m,.dct _,u,x,ht,_,_,_=>by cases n<;>cases ht
 | n,m,.dtu _,u,x,ht,_,_,_=>by cases n<;>cases ht
 | n,m,.dcf _,u,x,ht,_,_,_=>by cases n<;>cases ht
 | n,m,.fn _,u,x,ht,_,_,_=>by cases n<;>cases ht
 | n,m,.scr _,u,x,ht,_,_,_=>by cases n<;>cases ht
theorem qfj (I:Inv X pins σ H s) (le:Le B H): ∀(n m:Nat) (ts us:List T) (vs:List V),ts.all (okT n)=true->us.all (okT m)=true->qaP X.K B ts vs->qaP X.K B us vs->ts=us
 | _,_,[],us,vs,_,_,r,r'=>by
  have:=r.inv0; subst this
  cases us with
  | nil=>rfl
  | cons _ _=>obtain ⟨_,_,e,_⟩:=r'.inv; cases e
 | n,m,t::ts,us,vs,ht,hu,r,r'=>by
  obtain ⟨v,vs',rfl,a,b⟩:=r.inv
  cases us with
  | nil=>cases r'.inv0
  | cons u us=>
   obtain ⟨v',vs'',e,a',b'⟩:=r'.inv
   cases e
   rw[List.all_cons,Bool.and_eq_true] at ht hu
   rw[qfm I le n m t u v ht.1 hu.1 a a',qfj I le n m ts us vs' ht.2 hu.2 b b']
end
open SeqAt in
theorem qln (I:Inv X pins σ H s) (le:Le B H): ∀(n m:Nat) (A:Around) (t u:T) (x y:V) (v w:Value),okT n t=true->okT m u=true->A.units+n<cLine->Rep X.K B t x->Rep X.K B u y->RelV x v->RelV y w->EqAt A s v w (eqT t u):=by
 intro n
 induction n with
 | zero=>
  intro m A t u x y v w ht hu hc r r' rv rw'
  rcases st3 I le ht r rv with ⟨f,fx,_,_⟩ | _ | _
  ·rcases st3 I le hu r' rw' with ⟨g,gx,_,_⟩ | ⟨pl,_,_⟩ | ⟨pl,_,_⟩
   ·rw[qfu f g r r']; exact qoh rv rw' fx gx
   ·rw[(qbw f).1]; exact (qhk rv fx pl (by lia)).1
   ·rw[(qbw f).2.2.1]; exact (qhj rv fx pl (by lia)).1
  ·cases ht
  ·cases ht
 | succ n ih=>
  intro m A t u x y v w ht hu hc r r' rv rw'
  have hA:A.units<cLine:=by lia
  rcases st3 I le ht r rv with ⟨f,fx,_,_⟩ | ⟨pl,vs,rs⟩ | ⟨pl,vs,rs⟩
  ·rcases st3 I le hu r' rw' with ⟨g,gx,_,_⟩ | ⟨pl,_,_⟩ | ⟨pl,_,_⟩
   ·rw[qfu f g r r']; exact qoh rv rw' fx gx
   ·rw[(qbw f).1]; exact (qhk rv fx pl hA).1
   ·rw[(qbw f).2.2.1]; exact (qhj rv fx pl hA).1
  ·rename_i ts p is xs
   rcases st3 I le hu r' rw' with ⟨g,gx,_,_⟩ | ⟨pl',vs',rs'⟩ | ⟨pl',_,_⟩
   ·rw[(qbw g).2.1]; exact (qhk rw' gx pl hA).2.1
   ·rename_i us p' is' ys
    by_cases z:p=p'
    ·subst z
     have e:=qfm I le (n+1) m _ _ _ ht hu r r'
     rw[<-e,qcC _ _ ht]
     exact EqAt.same _
    ·have l1:=vs.length
     have l2:=vs'.length
     have l3:=rs.length
     have l4:=rs'.length
     refine EqAt.of_refs z ?_
     show RcAt A s _ _ (qfI ts us)
     by_cases hl:ts.length=us.length
     ·rw[qiu hl]
      have q:=RcAt.lists (A:=A) (s:=s) (e:=qhX ts us) pl pl' (by simp; lia) hA λj a1 a2=> ?_
      ·have:(List.toArray is).size=ts.length:=by simp; lia
       rw[this] at q; exact q
      ·have b1:j<ts.length:=by simp at a1; lia
       have b2:j<us.length:=by lia
       obtain ⟨m',rfl,hu'⟩:=qdv hu
       exact ih m' A.in1 _ _ _ _ _ _ (qbJ ht b1) (qbJ hu' b2) (by show A.units+1+n<cLine; lia) (rs.getD j b1) (rs'.getD j b2) (RH.valsArr vs a1) (RH.valsArr vs' a2)
     ·rw[qlm hl]
      exact RcAt.lists_lengths pl pl' (by simp; lia) hA
   ·exact EqAt.list_tuple pl pl' hA
  ·rename_i ts p is xs
   rcases st3 I le hu r' rw' with ⟨g,gx,_,_⟩ | ⟨pl',vs',rs'⟩ | ⟨pl',vs',rs'⟩
   ·rw[(qbw g).2.2.2]; exact (qhj rw' gx pl hA).2.1
   ·exact EqAt.tuple_list pl pl' hA
   ·rename_i us p' is' ys
    by_cases z:p=p'
    ·subst z
     have e:=qfm I le (n+1) m _ _ _ ht hu r r'
     rw[<-e,qcC _ _ ht]
     exact EqAt.same _
    ·have l1:=vs.length
     have l2:=vs'.length
     have l3:=rs.length
     have l4:=rs'.length
     refine EqAt.of_refs z ?_
     show RcAt A s _ _ (qfI ts us)
     rw[qdj]
     have q:=RcAt.tuples (A:=A) (s:=s) (e:=qhX ts us) pl pl' hA λj a1 a2=> ?_
     ·have e1:(List.toArray is).size=ts.length:=by simp; lia
      have e2:(List.toArray is').size=us.length:=by simp; lia
      rw[e1,e2] at q; exact q
     ·have b1:j<ts.length:=by simp at a1; lia
      have b2:j<us.length:=by simp at a2; lia
      obtain ⟨m',rfl,hu'⟩:=qdu hu
      exact ih m' A.in1 _ _ _ _ _ _ (qbJ ht b1) (qbJ hu' b2) (by show A.units+1+n<cLine; lia) (rs.getD j b1) (rs'.getD j b2) (RH.valsArr vs a1) (RH.valsArr vs' a2)
open SeqAt in
theorem qn2 (I:Inv X pins σ H s) (le:Le B H) (n:Nat) (A:Around) (t u:T) (x y:V) (v w:Value) (ht:okT n t=true) (hu:okT n u=true) (hc:A.units+n<cLine) (r:Rep X.K B t x) (r':Rep X.K B u y) (rv:RelV x v) (rw':RelV y w):RcAt A s v w (eqT t u)/\RcNeAt A s v w (!eqT t u):=by
 have hA:A.units<cLine:=by lia
 rcases st3 I le ht r rv with ⟨f,fx,_,_⟩ | ⟨pl,vs,rs⟩ | ⟨pl,vs,rs⟩
 ·rcases st3 I le hu r' rw' with ⟨g,gx,_,_⟩ | ⟨pl,_,_⟩ | ⟨pl,_,_⟩
  ·rw[qfu f g r r']; exact qto rv fx rw' gx
  ·rw[(qbw f).1]; exact ⟨(qhk rv fx pl hA).2.2.1,(qhk rv fx pl hA).2.2.2.2.1⟩
  ·rw[(qbw f).2.2.1]; exact ⟨(qhj rv fx pl hA).2.2.1,(qhj rv fx pl hA).2.2.2.2.1⟩
 ·rename_i ts p is xs
  rcases st3 I le hu r' rw' with ⟨g,gx,_,_⟩ | ⟨pl',vs',rs'⟩ | ⟨pl',_,_⟩
  ·rw[(qbw g).2.1]; exact ⟨(qhk rw' gx pl hA).2.2.2.1,(qhk rw' gx pl hA).2.2.2.2.2⟩
  ·rename_i us p' is' ys
   have l1:=vs.length
   have l2:=vs'.length
   have l3:=rs.length
   have l4:=rs'.length
   obtain ⟨n',rfl,ht'⟩:=qdv ht
   obtain ⟨m',e,hu'⟩:=qdv hu
   cases e
   show RcAt A s _ _ (qfI ts us)/\RcNeAt A s _ _ (!qfI ts us)
   by_cases hl:ts.length=us.length
   ·rw[qiu hl]
    have it: ∀j (a1:j<(List.toArray is).size) (a2:j<(List.toArray is').size),EqAt A.in1 s (List.toArray is)[j] (List.toArray is')[j] (qhX ts us j):=λj a1 a2=>by
     have b1:j<ts.length:=by simp at a1; lia
     have b2:j<us.length:=by lia
     exact qln I le n' n' A.in1 _ _ _ _ _ _ (qbJ ht' b1) (qbJ hu' b2) (by show A.units+1+n'<cLine; lia) (rs.getD j b1) (rs'.getD j b2) (RH.valsArr vs a1) (RH.valsArr vs' a2)
    have ez:(List.toArray is).size=ts.length:=by simp; lia
    have q1:=RcAt.lists (A:=A) (s:=s) (e:=qhX ts us) pl pl' (by simp; lia) hA it
    have q2:=RcNeAt.lists (A:=A) (s:=s) (e:=qhX ts us) pl pl' (by simp; lia) hA it
    rw[ez] at q1 q2
    exact ⟨q1,q2⟩
   ·rw[qlm hl]
    exact ⟨RcAt.lists_lengths pl pl' (by simp; lia) hA,RcNeAt.lists_lengths pl pl' (by simp; lia) hA⟩
  ·exact ⟨RcAt.list_tuple pl pl' hA,RcNeAt.list_tuple pl pl' hA⟩
 ·rename_i ts p is xs
  rcases st3 I le hu r' rw' with ⟨g,gx,_,_⟩ | ⟨pl',vs',rs'⟩ | ⟨pl',vs',rs'⟩
  ·rw[(qbw g).2.2.2]; exact ⟨(qhj rw' gx pl hA).2.2.2.1,(qhj rw' gx pl hA).2.2.2.2.2⟩
  ·exact ⟨RcAt.tuple_list pl pl' hA,RcNeAt.tuple_list pl pl' hA⟩
  ·rename_i us p' is' ys
   have l1:=vs.length
   have l2:=vs'.length
   have l3:=rs.length
   have l4:=rs'.length
   obtain ⟨n',rfl,ht'⟩:=qdu ht
   obtain ⟨m',e,hu'⟩:=qdu hu
   cases e
   show RcAt A s _ _ (qfI ts us)/\RcNeAt A s _ _ (!qfI ts us)
   rw[qdj]
   have it: ∀j (a1:j<(List.toArray is).size) (a2:j<(List.toArray is').size),EqAt A.in1 s (List.toArray is)[j] (List.toArray is')[j] (qhX ts us j):=λj a1 a2=>by
    have b1:j<ts.length:=by simp at a1; lia
    have b2:j<us.length:=by simp at a2; lia
    exact qln I le n' n' A.in1 _ _ _ _ _ _ (qbJ ht' b1) (qbJ hu' b2) (by show A.units+1+n'<cLine; lia) (rs.getD j b1) (rs'.getD j b2) (RH.valsArr vs a1) (RH.valsArr vs' a2)
   have e1:(List.toArray is).size=ts.length:=by simp; lia
   have e2:(List.toArray is').size=us.length:=by simp; lia
   have q1:=RcAt.tuples (A:=A) (s:=s) (e:=qhX ts us) pl pl' hA it
   have q2:=RcNeAt.tuples (A:=A) (s:=s) (e:=qhX ts us) pl pl' hA it
   rw[e1,e2] at q1 q2
   exact ⟨q1,q2⟩
end
end PL
end
section
namespace PL
open PySem L2
def qa0:T->T->Rs T
 | .int i,.int j=>.ok (.int (i+j))
 | .str x,.str y=>if x.length+y.length<=1000 then .ok (.str (x++y)) else .no
 | .lst xs,.lst ys=>if xs.length+ys.length<=1000 then .ok (.lst (xs++ys)) else .no
 | .tup (x::xs),.tup (y::ys)=>if (x::xs).length+(y::ys).length<=1000 then .ok (.tup ((x::xs)++(y::ys))) else .no
 | _,_=>.no
def gSub:T->T->Rs T
 | .int i,.int j=>.ok (.int (i - j))
 | _,_=>.no
def qdM:T->T->Rs T
 | .int i,.int j=>if (-1000000<=i/\i<=1000000)\/(-1000000<=j/\j<=1000000) then .ok (.int (i*j)) else .no
 | _,_=>.no
def qfH:T->T->Rs T
 | .int i,.int j=>if 0<j/\j<1073741824 then .ok (.int (i / j)) else .no
 | _,_=>.no
def qmd:T->T->Rs T
 | .int i,.int j=>if 0<j then .ok (.int (i % j)) else .no
 | _,_=>.no
def quX:T->Rs T
 | .int i=>.ok (.int (-i))
 | _=>.no
def qqF (x y:Str):Bool:=decide (x.cps.toList<y.cps.toList)
def gLt:T->T->Rs T
 | .int i,.int j=>.ok (.bl (decide (i<j)))
 | .str x,.str y=>.ok (.bl (qqF x y))
 | _,_=>.no
def gLe:T->T->Rs T
 | .int i,.int j=>.ok (.bl (decide (i<=j)))
 | .str x,.str y=>.ok (.bl (!qqF y x))
 | _,_=>.no
def gGt:T->T->Rs T
 | .int i,.int j=>.ok (.bl (decide (j<i)))
 | _,_=>.no
def gGe:T->T->Rs T
 | .int i,.int j=>.ok (.bl (decide (j<=i)))
 | _,_=>.no
def gEq (a b:T):Rs T:=if okT 8 a=true/\okT 8 b=true then .ok (.bl (eqT a b)) else .no
def gNe (a b:T):Rs T:=if okT 8 a=true/\okT 8 b=true then .ok (.bl (!eqT a b)) else .no
def gIx:T->T->Rs T
 | .lst ts,.int k=>(match atI ts k with | some t=>.ok t | none=>.no)
 | .tup ts,.int k=>(match atI ts k with | some t=>.ok t | none=>.no)
 | .str z,.int k=>if z.length<=1000 then (match atI z.cps.toList k with | some c=>.ok (.str ⟨#[c]⟩) | none=>.no) else .no
 | _,_=>.no
def gIs:T->T->Rs T
 | x,.non=>(match x with | .non=>.ok (.bl true) | .dct _=>.no | .scr _=>.no | _=>.ok (.bl false))
 | .bl a,.bl b=>.ok (.bl (a==b))
 | _,_=>.no
def qdi:T->T->Rs T
 | x,.non=>(match x with | .non=>.ok (.bl false) | .dct _=>.no | .scr _=>.no | _=>.ok (.bl true))
 | .bl a,.bl b=>.ok (.bl (a != b))
 | _,_=>.no
section
variable {M:Md} {X:Cx}
def qqY (K:PySem.W.Frag):R2:=λx y H Q=>(rI0 (λi j=>.int (i+j)) x y H Q\/(∃i j,x= .str i/\y= .str j/\i.length+j.length<=sizeLine/\Q (.str (i++j)) H))\/(quR x y H Q\/qqX K x y H Q)
theorem qaB:OpR X (binaryOp .Add) (qqY X.K):=(qfZ.or qi4).or (qn7.or qph)
theorem qaR:Pl qa0:=λa b c e=>by unfold qa0 at e; split at e<;>first | cases e | (split at e<;>cases e)
theorem qaQ (hK:X.K=M.K:=by rfl):RS M (qqY X.K) qa0:=by
 intro H B x y a b c Q le bt m ra rb e k
 have same: ∀{t:T} {v:V},(∀B,Rep M.K B t v)->c=t->Q v H:=λr ec=>by subst ec; exact k _ H B (.refl le bt) m (r B)
 unfold qa0 at e
 split at e
 ·cases e
  rw[qaw ra,qaw rb]
  exact .inl (.inl ⟨_,_,rfl,rfl,same (λB=>qaX) rfl⟩)
 ·split at e
  ·rename_i hz
   cases e
   rw[qaN ra,qaN rb]
   exact .inl (.inr ⟨_,_,rfl,rfl,Nat.le_of_lt (qa6 hz),same (λB=>qf1) rfl⟩)
  ·cases e
 ·split at e
  ·rename_i xs ys hz
   cases e
   obtain ⟨p,us,rfl,hp,r1⟩:=qbl ra
   obtain ⟨q,ws,rfl,hq,r2⟩:=qbl rb
   refine .inr (.inl ⟨p,q,us,ws,rfl,rfl,le _ _ hp,le _ _ hq,Nat.le_of_lt (qa6 (by rw[r1.length,r2.length]; exact hz)),λd hd=> ?_⟩)
   have g:=qa5.new (o:=HO.lst (us++ws)) le bt hd (by intro ps z; cases z)
   exact k _ _ _ g (M.G.st H _ (λa o e _ _ _ _=>by rw[qaj (qap e hd)]; exact e) m) (qkH qal ((r1.append r2).mono g.bb))
  ·cases e
 ·split at e
  ·rename_i x xs y ys hz
   cases e
   obtain ⟨p,us,rfl,hp,r1⟩:=qbk ra
   obtain ⟨q,ws,rfl,hq,r2⟩:=qbk rb
   have l1:=r1.length
   have l2:=r2.length
   refine .inr (.inr ⟨p,q,us,ws,rfl,rfl,by rw[hK]; exact le.sqT hp,by rw[hK]; exact le.sqT hq,(λz=>by rw[z] at l1; cases l1),Nat.le_of_lt (qa6 (by lia)),(λz=>by rw[z] at l2; cases l2),λ_ d hd=> ?_⟩)
   have g:=qa5.new (o:=HO.tup (us++ws)) le bt hd (by intro ps z; cases z)
   exact k _ _ _ g (M.G.st H _ (λa o e _ _ _ _=>by rw[qaj (qap e hd)]; exact e) m) (qf0 qal ((r1.append r2).mono g.bb))
  ·cases e
 ·cases e
theorem qcJ:RS M (rI0 λi j=>.int (i - j)) gSub:=by
 intro H B x y a b c Q le bt m ra rb e k
 unfold gSub at e
 split at e
 ·cases e
  exact ⟨_,_,qaw ra,qaw rb,k _ H B (.refl le bt) m qaX⟩
 ·cases e
theorem qcL:Pl gSub:=λa b c e=>by unfold gSub at e; split at e<;>cases e
theorem qd5:RS M (rI qsu λi j=>.int (i*j)) qdM:=by
 intro H B x y a b c Q le bt m ra rb e k
 unfold qdM at e
 split at e
 ·split at e
  ·rename_i h
   cases e
   refine ⟨_,_,qaw ra,qaw rb,?_,k _ H B (.refl le bt) m qaX⟩
   rcases h with h | h
   ·exact .inl ⟨by lia,by lia⟩
   ·exact .inr ⟨by lia,by lia⟩
  ·cases e
 ·cases e
theorem qeb:Pl qdM:=λa b c e=>by unfold qdM at e; split at e<;>first | cases e | (split at e<;>cases e)
theorem qkc:RS M (rI qu8 λi j=>.int (i / j)) qfH:=by
 intro H B x y a b c Q le bt m ra rb e k
 unfold qfH at e
 split at e
 ·split at e
  ·rename_i h
   cases e
   exact ⟨_,_,qaw ra,qaw rb,h,k _ H B (.refl le bt) m qaX⟩
  ·cases e
 ·cases e
theorem qkt:Pl qfH:=λa b c e=>by unfold qfH at e; split at e<;>first | cases e | (split at e<;>cases e)
theorem qka:RS M (rI (λ_ j=>0<j) λi j=>.int (i % j)) qmd:=by
 intro H B x y a b c Q le bt m ra rb e k
 unfold qmd at e
 split at e
 ·split at e
  ·rename_i h
   cases e
   exact ⟨_,_,qaw ra,qaw rb,h,k _ H B (.refl le bt) m qaX⟩
  ·cases e
 ·cases e
theorem qkr:Pl qmd:=λa b c e=>by unfold qmd at e; split at e<;>first | cases e | (split at e<;>cases e)
theorem qg1:OpR X (compareOp .Lt) (λx y H Q=>rI0 (λi j=>.bl (decide (i<j))) x y H Q\/∃i j,x= .str i/\y= .str j/\Q (.bl (decide (i.cps.toList<j.cps.toList))) H):=qre.or qkB
theorem qoX:RS M (λx y H Q=>rI0 (λi j=>.bl (decide (i<j))) x y H Q\/∃i j,x= .str i/\y= .str j/\Q (.bl (decide (i.cps.toList<j.cps.toList))) H) gLt:=by
 intro H B x y a b c Q le bt m ra rb e k
 unfold gLt at e
 split at e
 ·cases e; exact .inl ⟨_,_,qaw ra,qaw rb,k _ H B (.refl le bt) m qb5⟩
 ·cases e; exact .inr ⟨_,_,qaN ra,qaN rb,k _ H B (.refl le bt) m qb5⟩
 ·cases e
theorem qo7:Pl gLt:=λa b c e=>by unfold gLt at e; split at e<;>cases e
theorem qc0:OpR X (compareOp .LtE) (λx y H Q=>rI0 (λi j=>.bl (decide (i<=j))) x y H Q\/∃i j,x= .str i/\y= .str j/\Q (.bl (!decide (j.cps.toList<i.cps.toList))) H):=qtw.or qkC
theorem qgS:RS M (λx y H Q=>rI0 (λi j=>.bl (decide (i<=j))) x y H Q\/∃i j,x= .str i/\y= .str j/\Q (.bl (!decide (j.cps.toList<i.cps.toList))) H) gLe:=by
 intro H B x y a b c Q le bt m ra rb e k
 unfold gLe at e
 split at e
 ·cases e; exact .inl ⟨_,_,qaw ra,qaw rb,k _ H B (.refl le bt) m qb5⟩
 ·cases e; exact .inr ⟨_,_,qaN ra,qaN rb,k _ H B (.refl le bt) m qb5⟩
 ·cases e
theorem qgY:Pl gLe:=λa b c e=>by unfold gLe at e; split at e<;>cases e
theorem qkb:RS M (rI0 λi j=>.bl (decide (j<i))) gGt:=by
 intro H B x y a b c Q le bt m ra rb e k
 unfold gGt at e
 split at e
 ·cases e; exact ⟨_,_,qaw ra,qaw rb,k _ H B (.refl le bt) m qb5⟩
 ·cases e
theorem qks:Pl gGt:=λa b c e=>by unfold gGt at e; split at e<;>cases e
def qqW (K:PySem.W.Frag) (neg:Bool):R2:=λx y H Q=> ∃B t u,Le B H/\Rep K B t x/\Rep K B u y/\okT 8 t=true/\okT 8 u=true/\Q (.bl (if neg then !eqT t u else eqT t u)) H
theorem qaU (hu:X.A.units+8<cLine):OpR X (compareOp .Eq) (qqW X.K false):=by
 intro pins s σ H x y v u Q I rx ry hq181
 obtain ⟨B,t,u',le,ra,rb,o1,o2,q⟩:=hq181
 exact (qn2 I le 8 X.A t u' x y v u o1 o2 hu ra rb rx ry).1 _ _ _ _ ⟨.bl _,H,I,rfl,q⟩
theorem qcm (hu:X.A.units+8<cLine):OpR X (compareOp .NotEq) (qqW X.K true):=by
 intro pins s σ H x y v u Q I rx ry hq184
 obtain ⟨B,t,u',le,ra,rb,o1,o2,q⟩:=hq184
 exact (qn2 I le 8 X.A t u' x y v u o1 o2 hu ra rb rx ry).2 _ _ _ _ ⟨.bl _,H,I,rfl,q⟩
theorem qbs (hK:X.K=M.K:=by rfl):RS M (qqW X.K false) gEq:=by
 intro H B x y a b c Q le bt m ra rb e k
 unfold gEq at e
 split at e
 ·rename_i h
  cases e
  exact ⟨B,a,b,le,by rw[hK]; exact ra,by rw[hK]; exact rb,h.1,h.2,k _ H B (.refl le bt) m qb5⟩
 ·cases e
theorem qbt:Pl gEq:=λa b c e=>by unfold gEq at e; split at e<;>cases e
theorem qeI (hK:X.K=M.K:=by rfl):RS M (qqW X.K true) gNe:=by
 intro H B x y a b c Q le bt m ra rb e k
 unfold gNe at e
 split at e
 ·rename_i h
  cases e
  exact ⟨B,a,b,le,by rw[hK]; exact ra,by rw[hK]; exact rb,h.1,h.2,k _ H B (.refl le bt) m qb5⟩
 ·cases e
theorem qeJ:Pl gNe:=λa b c e=>by unfold gNe at e; split at e<;>cases e
theorem qna {K:PySem.W.Frag} {B:Hp} {t:T} {v:V} (r:Rep K B t v):(match t with | .non=>v= .non | .dct _=>True | .scr _=>True | _=>v≠.non):=by
 cases t with
 | non=>exact qbh r
 | bl _=>have:=qa7 r; subst this; exact λz=>by cases z
 | int _=>have:=qaw r; subst this; exact λz=>by cases z
 | str _=>have:=qaN r; subst this; exact λz=>by cases z
 | tup _=>obtain ⟨_,_,e,_⟩:=qbk r; subst e; exact λz=>by cases z
 | lst _=>obtain ⟨_,_,e,_⟩:=qbl r; subst e; exact λz=>by cases z
 | dct _=>trivial
 | dtu _=>unfold Rep at r; obtain ⟨_,_,e,_⟩:=r; subst e; exact λz=>by cases z
 | dcf _=>unfold Rep at r; obtain ⟨_,_,_,e,_⟩:=r; subst e; exact λz=>by cases z
 | fn _=>unfold Rep at r; obtain ⟨_,e,_⟩:=r; subst e; exact λz=>by cases z
 | scr _=>trivial
theorem qkD:OpR X (compareOp .IsNot) (λx y H Q=>(y= .non/\Q (.bl (!decide (x= .non))) H)\/∃c d,x= .bl c/\y= .bl d/\Q (.bl (c != d)) H):=qpg.or qg2
theorem qmF:RS M (λx y H Q=>(y= .non/\Q (.bl (!decide (x= .non))) H)\/∃c d,x= .bl c/\y= .bl d/\Q (.bl (c != d)) H) qdi:=by
 intro H B x y a b c Q le bt m ra rb e k
 have kk:=qna ra
 have fin: ∀z:Bool,c= .bl z->Q (.bl z) H:=λz ec=>by subst ec; exact k _ H B (.refl le bt) m qb5
 unfold qdi at e
 split at e
 ·refine .inl ⟨qbh rb,?_⟩
  split at e
  ·have kk:x= .non:=kk
   cases e; subst kk; exact fin false rfl
  ·cases e
  ·cases e
  ·rename_i h1 h2 h3
   cases e
   have:x≠.non:=by
    cases a with
    | non=>exact absurd rfl h1
    | dct z=>exact absurd rfl (h2 z)
    | scr z=>exact absurd rfl (h3 z)
    | _=>exact kk
   rw[decide_eq_false this]; exact fin true rfl
 ·cases e
  exact .inr ⟨_,_,qa7 ra,qa7 rb,fin _ rfl⟩
 ·cases e
theorem qmL:Pl qdi:=λa b c e=>by
 unfold qdi at e
 split at e
 ·split at e<;>cases e
 ·cases e
 ·cases e
theorem qhU {K:PySem.W.Frag} {B:Hp} {ts:List T} {vs:List V} {k:Int} {t:T} (r:qaP K B ts vs) (e:atI ts k=some t): ∃v,atI vs k=some v/\Rep K B t v:=by
 unfold atI at e⊢
 rw[r.length]
 cases q:ixN ts.length k with
 | none=>rw[q] at e; cases e
 | some j=>rw[q] at e; exact r.get e
theorem qaG (hK:X.K=M.K:=by rfl):RS M (rIx X.K) gIx:=by
 intro H B x y a b c Q le bt m ra rb e k
 unfold gIx at e
 split at e
 ·split at e
  ·rename_i ts i t et
   cases e
   obtain ⟨p,vs,rfl,hp,r⟩:=qbl ra
   obtain ⟨v,ev,rv⟩:=qhU r et
   exact .inl ⟨p,vs,_,v,rfl,qaw rb,SqL.of (le _ _ hp),ev,k _ H B (.refl le bt) m rv⟩
  ·cases e
 ·split at e
  ·rename_i ts i t et
   cases e
   obtain ⟨p,vs,rfl,hp,r⟩:=qbk ra
   obtain ⟨v,ev,rv⟩:=qhU r et
   exact .inr (.inl ⟨p,vs,_,v,rfl,qaw rb,by rw[hK]; exact le.sqT hp,ev,k _ H B (.refl le bt) m rv⟩)
  ·cases e
 ·split at e
  ·rename_i hz
   split at e
   ·rename_i ch ec
    cases e
    exact .inr (.inr ⟨_,_,ch,qaN ra,qaw rb,Nat.le_of_lt (qa6 hz),ec,k _ H B (.refl le bt) m qf1⟩)
   ·cases e
  ·cases e
 ·cases e
theorem qaH:Pl gIx:=λa b c e=>by
 unfold gIx at e
 split at e
 ·split at e<;>cases e
 ·split at e<;>cases e
 ·split at e
  ·split at e<;>cases e
  ·cases e
 ·cases e
end
end PL
end
section
namespace PL
open PySem L2
theorem PO.weak {X:Cx} {e:Option Expr} {t t':TO} (h:PO X e t) (w: ∀σ H Q,t' σ H Q->t σ H Q):PO X e t':=λpins s σ H Q I q=>h pins s σ H Q I (w σ H Q q)
def qhC (M:Md) (H B:Hp) (q:Bool×List T) (p:Addr) (vs:List V):Prop:=if q.1=true then H p=some (.lst vs) else SqT M.K B p vs
theorem qhC.grow {M:Md} {H B H' B':Hp} {q:Bool×List T} {p:Addr} {vs:List V} (h:qhC M H B q p vs) (g:qa5 H B H' B'):qhC M H' B' q p vs:=by
 unfold qhC at h⊢
 by_cases c:q.1=true
 ·rw[if_pos c] at h⊢
  exact g.gx.hh _ _ h (by intro ps z; cases z)
 ·rw[if_neg c] at h⊢
  exact g.bb.sqT h
theorem qhC.seq {M:Md} {X:Cx} {H B:Hp} {q:Bool×List T} {p:Addr} {vs:List V} (h:qhC M H B q p vs) (le:Le B H) (hK:X.K=M.K):SqL X.K H p vs\/SqT X.K H p vs:=by
 unfold qhC at h
 split at h
 ·exact .inl (SqL.of h)
 ·exact .inr (by rw[hK]; exact le.sqT h)
section
variable {M:Md} {X:Cx} {e a b:Expr} {pos p2:Pos} {da db:Ro->Rs T} {dq:Ro->Rs (Bool×List T)} {lo hi:Option Expr} {dl dh:Ro->Rs (Option Int)}
def dCQ (g:Bool×List T->Rs T) (dq:Ro->Rs (Bool×List T)):Ro->Rs T:=λρ=>dq ρ>>=g
def qjn (g:Bool×List T->Rs (List T)) (dq:Ro->Rs (Bool×List T)):Ro->Rs (List T):=λρ=>dq ρ>>=g
theorem qlC {r:List V->Hp->VK->Prop} {g:Bool×List T->Rs T} (h:PE X e (tCB r (qcV (tQ M dq) qjG)))
  (hs: ∀(H B:Hp) (p:Addr) (vs:List V) (q:Bool×List T) (c:T) (Q:VK),Le B H->(∀a ps,B a≠some (.tbl ps))->M.G.P H->qhC M H B q p vs->qaP M.K B q.2 vs->g q= .ok c->(∀v H' B',qa5 H B H' B'->M.G.P H'->Rep M.K B' c v->Q v H')->r [.ref p] H Q)
  (hp: ∀q c,g q≠.ex c):DE M X e (dCQ g dq):=by
 refine PE.weak h λσ H Q hq30=> ?_
 obtain ⟨H0,B0,ρ,B,ev,w⟩:=hq30
 refine tQ.of ev (Wnt.mono (Wnt.bind (qay.mp w)) λq w1 p vs H1 B1 g1 m1 hq r1=> ?_)
 have ev1:=ev.grow g1 m1
 cases z:g q with
 | no=>rw[z] at w1; exact w1.elim
 | ex c=>exact absurd z (hp q c)
 | ok c=>
  rw[z] at w1
  exact hs H1 B1 p vs q c Q ev1.bh ev1.bt m1 hq r1 z λv H' B' g' m' r'=>w1 v H' B' (g1.trans g') m' r'
theorem qrU {r:List V->Hp->VK->Prop} {g:Bool×List T->Rs (List T)} (h:PE X e (tCB r (qcV (tQ M dq) qjG)))
  (hs: ∀(H B:Hp) (p:Addr) (vs:List V) (q:Bool×List T) (c:List T) (Q:VK),Le B H->(∀a ps,B a≠some (.tbl ps))->M.G.P H->qhC M H B q p vs->qaP M.K B q.2 vs->g q= .ok c->(∀p' ws H' B',qa5 H B H' B'->M.G.P H'->H p'=none->B' p'=none->H' p'=some (.lst ws)->qaP M.K B' c ws->Q (.ref p') H')->r [.ref p] H Q)
  (hp: ∀q c,g q≠.ex c):DF M X e (qjn g dq):=by
 refine PE.weak h λσ H Q hq42=> ?_
 obtain ⟨H0,B0,ρ,B,ev,w⟩:=hq42
 refine tQ.of ev (Wnt.mono (Wnt.bind (qbx.mp w)) λq w1 p vs H1 B1 g1 m1 hq r1=> ?_)
 have ev1:=ev.grow g1 m1
 cases z:g q with
 | no=>rw[z] at w1; exact w1.elim
 | ex c=>exact absurd z (hp q c)
 | ok c=>
  rw[z] at w1
  exact hs H1 B1 p vs q c Q ev1.bh ev1.bt m1 hq r1 z λp' ws H' B' g' m' n1 n2 n3 r'=>w1 p' ws H' B' (g1.trans g') m' (qbA g1.gx n1) n2 n3 r'
theorem qb6 {H B:Hp} {p:Addr} {ws:List V} (le:Le B H) (bt: ∀a ps,B a≠some (.tbl ps)) (m:M.G.P H) (hp:H p=none):qa5 H B (upd H p (.lst ws)) B/\M.G.P (upd H p (.lst ws))/\B p=none:=
 ⟨.own le bt hp,M.G.st H _ (λa o e _ _ _ _=>by rw[qaj (qap e hp)]; exact e) m,by
  cases q:B p with
  | none=>rfl
  | some u=>rw[le _ _ q] at hp; cases hp⟩
def qvJ:Bool×List T->Rs T:=λq=>.ok (.int q.2.length)
def qik:Bool×List T->Rs (List T):=λq=>.ok q.2
theorem qlA (h:PE X e (tCB (λxs H Q=> ∃p ys,xs=[.ref p]/\(SqL X.K H p ys\/SqT X.K H p ys)/\∀l,H l=none->Q (.ref l) (upd H l (.lst ys))) (qcV (tQ M dq) qjG))) (hK:X.K=M.K:=by rfl):DF M X e (qjn qik dq):=
 qrU h (λH B p vs q c Q le bt m hq r e k=>by
  cases e
  refine ⟨p,vs,rfl,hq.seq le hK,λl hl=> ?_⟩
  obtain ⟨g,m',bp⟩:=qb6 (M:=M) le bt m hl
  exact k l vs _ B g m' hl bp qal r) (λq c e=>by cases e)
def qeU:Bool×List T->Rs T:=λq=>if q.1=true then .ok (.tup q.2) else .no
theorem qnC (h:PE X e (tCB (λxs H Q=> ∃p ys,xs=[.ref p]/\((SqL X.K H p ys/\∀l,H l=none->Q (.ref l) (upd H l (.tup ys)))\/(SqT X.K H p ys/\Q (.ref p) H))) (qcV (tQ M dq) qjG))) (hK:X.K=M.K:=by rfl):DE M X e (dCQ qeU dq):=
 qlC h (λH B p vs q c Q le bt m hq r e k=>by
  unfold qeU at e
  split at e
  ·rename_i q1
   cases e
   unfold qhC at hq
   rw[if_pos q1] at hq
   refine ⟨p,vs,rfl,.inl ⟨SqL.of hq,λl hl=> ?_⟩⟩
   have g:=qa5.new (o:=HO.tup vs) le bt hl (by intro ps z; cases z)
   exact k _ _ _ g (M.G.st H _ (λa o e _ _ _ _=>by rw[qaj (qap e hl)]; exact e) m) (qf0 qal (r.mono g.bb))
  ·cases e) (λq c e=>by unfold qeU at e; split at e<;>cases e)
def quB (dp dq:Ro->Rs (Bool×List T)):Ro->Rs (List T):=λρ=>dp ρ>>=λx=>dq ρ>>=λy=>if (x.1=true/\y.1=true)/\x.2.length+y.2.length<=1000 then .ok (x.2++y.2) else .no
theorem qrT {dp:Ro->Rs (Bool×List T)} (ha:DQ M X a dp) (hb:DQ M X b dq):DF M X (.BinOp a .Add b pos) (quB dp dq):=by
 refine PE.weak (qcY qn7 ha hb) λσ H Q hq81=> ?_
 obtain ⟨H0,B0,ρ,B,ev,w⟩:=hq81
 refine tQ.of ev (Wnt.mono (Wnt.bind (qbx.mp w)) λx w1 p vs H1 B1 g1 m1 hx r1=> ?_)
 have ev1:=ev.grow g1 m1
 refine tQ.of ev1 (Wnt.mono (Wnt.bind w1) λy w2 p' vs' H2 B2 g2 m2 hy r2=> ?_)
 have ev2:=ev1.grow g2 m2
 split at w2
 ·rename_i hc
  rw[if_pos hc.1.1] at hx
  rw[if_pos hc.1.2] at hy
  refine ⟨p,p',vs,vs',rfl,rfl,g2.gx.hh _ _ hx (by intro ps z; cases z),hy,Nat.le_of_lt (qa6 (by rw[r1.length,r2.length]; exact hc.2)),λl hl=> ?_⟩
  obtain ⟨g,m',bp⟩:=qb6 (M:=M) (ws:=vs++vs') ev2.bh ev2.bt m2 hl
  exact w2 l _ _ B2 ((g1.trans g2).trans g) m' (qbA (g1.trans g2).gx hl) bp qal ((r1.mono g2.bb).append r2)
 ·exact w2.elim
def ixQ (q:Bool×List T):T->Rs T
 | .int k=>(match atI q.2 k with | some t=>.ok t | none=>.no)
 | _=>.no
def qv5 (dq:Ro->Rs (Bool×List T)) (db:Ro->Rs T):Ro->Rs T:=λρ=>dq ρ>>=λq=>db ρ>>=λk=>ixQ q k
def tPO (M:Md) (d:Ro->Rs (Option Int)):TO:=λσ H Q=> ∃H0 B0 ρ B,Ev M H0 B0 ρ σ H B/\Wnt M H0 (λo=> ∀H' B',qa5 H B H' B'->M.G.P H'->Q o H') (d ρ)
abbrev DO (M:Md) (X:Cx) (e:Option Expr) (d:Ro->Rs (Option Int)):Prop:=PO X e (tPO M d)
def dON:Ro->Rs (Option Int):=λ_=>.ok none
def dOS (da:Ro->Rs T):Ro->Rs (Option Int):=λρ=>da ρ>>=λt=>match t with | .int i=>.ok (some i) | _=>.no
theorem qcw:DO M X none dON:=PO.weak qo5 λσ H Q ⟨H0,B0,ρ,B,ev,w⟩=>w H B (.refl ev.bh ev.bt) ev.gm
theorem qb9 (h:DE M X e da):DO M X (some e) (dOS da):=PO.weak (qo4 h) λσ H Q ⟨H0,B0,ρ,B,ev,w⟩=>tP.of ev (Wnt.mono (Wnt.bind w) λt w1 v H1 B1 g1 m1 r1=>by
 cases t with
 | int i=>exact ⟨i,qaw r1,w1 H1 B1 g1 m1⟩
 | _=>exact w1.elim)
def qez (ts:List T) (lo hi:Option Int):List T:=(ts.drop (HT.sIx ts.length 0 lo)).take (HT.sIx ts.length ts.length hi - HT.sIx ts.length 0 lo)
theorem qhS {K:PySem.W.Frag} {B:Hp} {ts:List T} {vs:List V} (r:qaP K B ts vs) (lo hi:Option Int):qaP K B (qez ts lo hi) (qlL vs lo hi):=by
 unfold qez qlL
 rw[r.length]
 exact (r.drop _).take _
def qiF (dq:Ro->Rs (Bool×List T)) (dl dh:Ro->Rs (Option Int)):Ro->Rs (List T):=λρ=>dq ρ>>=λq=>dl ρ>>=λl=>dh ρ>>=λh=>if q.1=true then .ok (qez q.2 l h) else .no
theorem qdn (ha:DQ M X a dq) (hl:DO M X lo dl) (hh:DO M X hi dh):DF M X (.Subscript a (.Slice lo hi none p2) pos) (qiF dq dl dh):=by
 refine PE.weak (qhZ qoO ha hl hh) λσ H Q hq136=> ?_
 obtain ⟨H0,B0,ρ,B,ev,w⟩:=hq136
 refine tQ.of ev (Wnt.mono (Wnt.bind (qbx.mp w)) λq w1 p vs H1 B1 g1 m1 hx r1=> ?_)
 have ev1:=ev.grow g1 m1
 refine ⟨H0,B0,ρ,B1,ev1,Wnt.mono (Wnt.bind w1) λl w2 H2 B2 g2 m2=> ?_⟩
 have ev2:=ev1.grow g2 m2
 refine ⟨H0,B0,ρ,B2,ev2,Wnt.mono (Wnt.bind w2) λh w3 H3 B3 g3 m3=> ?_⟩
 have ev3:=ev2.grow g3 m3
 split at w3
 ·rename_i hc
  rw[if_pos hc] at hx
  refine ⟨p,vs,rfl,SqL.of (g3.gx.hh _ _ (g2.gx.hh _ _ hx (by intro ps z; cases z)) (by intro ps z; cases z)),λd hd=> ?_⟩
  obtain ⟨g,m',bp⟩:=qb6 (M:=M) (ws:=qlL vs l h) ev3.bh ev3.bt m3 hd
  have gg:=(g1.trans g2).trans g3
  exact w3 d _ _ B3 (gg.trans g) m' (qbA gg.gx hd) bp qal (qhS ((r1.mono g2.bb).mono g3.bb) l h)
 ·exact w3.elim
def qtq (M:Md) (K:PySem.W.Frag) (neg:Bool):R2:=λx y H Q=> ∃B t p vs ts,Le B H/\Rep K B t x/\y= .ref p/\(H p=some (.lst vs)\/SqT K H p vs)/\qaP K B ts vs/\okT 7 t=true/\ts.all (okT 7)=true/\Q (.bl (if neg then !ts.any (λu=>eqT u t) else ts.any (λu=>eqT u t))) H
open SeqAt in
theorem qdS {pins:List (Addr×Obj)} {σ:St} {H B:Hp} {s:Shared} (hu:X.A.units+8<cLine) (I:Inv X pins σ H s) (le:Le B H) {t:T} {x:V} {v:Value} {ts:List T} {vs:List V} {is:List Value} (ra:Rep X.K B t x) (rx:RelV x v) (ot:okT 7 t=true) (ots:ts.all (okT 7)=true) (rs:qaP X.K B ts vs) (rv:Vals vs is):
  ∃e:Value->Bool,(∀y,y∈is.toArray->EqAt X.A.in1 s y v (e y))/\is.toArray.any e=ts.any (λu=>eqT u t):=by
 have l1:=rv.length
 have l2:=rs.length
 have at_: ∀(j:Nat) (h:j<is.toArray.size),EqAt X.A.in1 s is.toArray[j] v (eqT (ts.getD j .non) t):=λj h=>by
  have hj:j<ts.length:=by simp at h; lia
  exact qln I le 7 7 X.A.in1 _ _ _ _ _ _ (qbJ ots hj) ot (by show X.A.units+1+7<cLine; lia) (rs.getD j hj) ra (RH.valsArr rv h) rx
 have one: ∀(j k:Nat) (h:j<is.toArray.size) (h':k<is.toArray.size),is.toArray[j]=is.toArray[k]->ts.getD j .non=ts.getD k .non:=λj k h h' e=>by
  have hj:j<ts.length:=by simp at h; lia
  have hk:k<ts.length:=by simp at h'; lia
  have r1:=RH.valsArr rv h
  have r2:=RH.valsArr rv h'
  rw[<-e] at r2
  have:=r1.inj r2
  refine qfm I le 7 7 _ _ _ (qbJ ots hj) (qbJ ots hk) (rs.getD j hj) ?_
  rw[this]
  exact rs.getD k hk
 classical
 refine ⟨λy=>decide (∃(j:Nat) (h:j<is.toArray.size),is.toArray[j]=y/\eqT (ts.getD j .non) t=true),λy hy=> ?_,?_⟩
 ·obtain ⟨j,hj,rfl⟩:=Array.mem_iff_getElem.mp hy
  have q:=at_ j hj
  cases z:eqT (ts.getD j .non) t with
  | true=>
   rw[z] at q
   show EqAt X.A.in1 s is.toArray[j] v (decide (∃(j':Nat) (h:j'<is.toArray.size),is.toArray[j']=is.toArray[j]/\eqT (ts.getD j' .non) t=true))
   rw[decide_eq_true ⟨j,hj,rfl,z⟩]
   exact q
  | false=>
   rw[z] at q
   show EqAt X.A.in1 s is.toArray[j] v (decide (∃(j':Nat) (h:j'<is.toArray.size),is.toArray[j']=is.toArray[j]/\eqT (ts.getD j' .non) t=true))
   rw[decide_eq_false (λ⟨k,hk,e,ek⟩=>by rw[one k j hk hj e,z] at ek; cases ek)]
   exact q
 ·rw[Bool.eq_iff_iff,Array.any_eq_true,List.any_eq_true]
  constructor
  ·rintro ⟨j,hj,e⟩
   obtain ⟨k,hk,ek,et⟩:=of_decide_eq_true e
   have hk':k<ts.length:=by simp at hk; lia
   refine ⟨ts.getD k .non,?_,et⟩
   rw[List.getD_eq_getElem?_getD,List.getElem?_eq_getElem hk']
   exact List.getElem_mem hk'
  ·rintro ⟨u,hm,eu⟩
   obtain ⟨j,hj,rfl⟩:=List.mem_iff_getElem.mp hm
   have hj':j<is.toArray.size:=by simp; lia
   refine ⟨j,hj',decide_eq_true ⟨j,hj',rfl,?_⟩⟩
   rw[List.getD_eq_getElem?_getD,List.getElem?_eq_getElem hj]
   exact eu
theorem qrf (hu:X.A.units+8<cLine):OpR X (compareOp .In) (qtq M X.K false):=by
 intro pins s σ H x y v u Q I rx ry hq201
 obtain ⟨B,t,p,vs,ts,le,ra,ey,hp,rs,o1,o2,q⟩:=hq201
 subst ey
 cases ry
 rcases hp with hp | hp
 ·obtain ⟨is,rv,pl,_⟩:=I.list (SqL.of hp)
  obtain ⟨e,h1,h2⟩:=qdS hu I le ra rx o1 o2 rs rv
  exact SeqAt.in_listAt e pl.isList h1 (by rw[h2]; exact ⟨.bl _,H,I,rfl,q⟩)
 ·obtain ⟨is,rv,pl,_⟩:=I.tuple hp
  obtain ⟨e,h1,h2⟩:=qdS hu I le ra rx o1 o2 rs rv
  exact SeqAt.in_tupleAt e pl h1 (by rw[h2]; exact ⟨.bl _,H,I,rfl,q⟩)
theorem qkA (hu:X.A.units+8<cLine):OpR X (compareOp .NotIn) (qtq M X.K true):=by
 intro pins s σ H x y v u Q I rx ry hq212
 obtain ⟨B,t,p,vs,ts,le,ra,ey,hp,rs,o1,o2,q⟩:=hq212
 subst ey
 cases ry
 rcases hp with hp | hp
 ·obtain ⟨is,rv,pl,_⟩:=I.list (SqL.of hp)
  obtain ⟨e,h1,h2⟩:=qdS hu I le ra rx o1 o2 rs rv
  exact SeqAt.notIn_listAt e pl.isList h1 (by rw[h2]; exact ⟨.bl _,H,I,rfl,q⟩)
 ·obtain ⟨is,rv,pl,_⟩:=I.tuple hp
  obtain ⟨e,h1,h2⟩:=qdS hu I le ra rx o1 o2 rs rv
  exact SeqAt.notIn_tupleAt e pl h1 (by rw[h2]; exact ⟨.bl _,H,I,rfl,q⟩)
def qql (neg:Bool) (t:T) (q:Bool×List T):Rs T:=if okT 7 t=true/\q.2.all (okT 7)=true then .ok (.bl (if neg then !q.2.any (λu=>eqT u t) else q.2.any (λu=>eqT u t))) else .no
def dIn (neg:Bool) (da:Ro->Rs T) (dq:Ro->Rs (Bool×List T)):Ro->Rs T:=λρ=>da ρ>>=λt=>dq ρ>>=λq=>qql neg t q
theorem qk7 {neg:Bool} (hK:X.K=M.K) {σ:St} {H:Hp} {Q:VK} (h:tP M (dIn neg da dq) σ H Q):tOp (qtq M X.K neg) (tP M da) (tQ M dq) σ H Q:=by
 obtain ⟨H0,B0,ρ,B,ev,w⟩:=h
 refine tP.of ev (Wnt.mono (Wnt.bind (qay.mp w)) λt w1 v H1 B1 g1 m1 r1=> ?_)
 have ev1:=ev.grow g1 m1
 refine tQ.of ev1 (Wnt.mono (Wnt.bind w1) λq w2 p vs H2 B2 g2 m2 hq r2=> ?_)
 have ev2:=ev1.grow g2 m2
 unfold qql at w2
 split at w2
 ·rename_i hc
  refine ⟨B2,t,p,vs,q.2,ev2.bh,by rw[hK]; exact r1.mono g2.bb,rfl,?_,by rw[hK]; exact r2,hc.1,hc.2,w2 _ H2 B2 (g1.trans g2) m2 qb5⟩
  split at hq
  ·exact .inl hq
  ·exact .inr (by rw[hK]; exact ev2.bh.sqT hq)
 ·exact w2.elim
theorem qlu (hu:X.A.units+8<cLine) (ha:DE M X a da) (hb:DQ M X b dq) (hm:behindInMarks .In b=false:=by rfl) (hK:X.K=M.K:=by rfl):DT M X (.Compare a [.In] [b] pos) (dTB (dIn false da dq)):=
 PT.weak (qcW (qrf (M:=M) hu) ha hb hm) λ_ _ _ h=>qk7 hK (qb2 h)
theorem qnw (hu:X.A.units+8<cLine) (ha:DE M X a da) (hb:DQ M X b dq) (hm:behindInMarks .NotIn b=false:=by rfl) (hK:X.K=M.K:=by rfl):DT M X (.Compare a [.NotIn] [b] pos) (dTB (dIn true da dq)):=
 PT.weak (qcW (qkA (M:=M) hu) ha hb hm) λ_ _ _ h=>qk7 hK (qb2 h)
def dQQ (g:T->T->Rs T) (dq:Ro->Rs (Bool×List T)) (db:Ro->Rs T):Ro->Rs T:=λρ=>dq ρ>>=λq=>db ρ>>=λy=>if q.1=true then g (.lst q.2) y else .no
theorem qnm {neg:Bool} {g:T->T->Rs T} (hg: ∀a b,g a b=if okT 8 a=true/\okT 8 b=true then .ok (.bl (if neg then !eqT a b else eqT a b)) else .no) (hK:X.K=M.K) {σ:St} {H:Hp} {Q:VK} (h:tP M (dQQ g dq db) σ H Q):tOp (qqW X.K neg) (tQ M dq) (tP M db) σ H Q:=by
 obtain ⟨H0,B0,ρ,B,ev,w⟩:=h
 refine tQ.of ev (Wnt.mono (Wnt.bind (qay.mp w)) λq w1 p vs H1 B1 g1 m1 hq r1=> ?_)
 have ev1:=ev.grow g1 m1
 refine tP.of ev1 (Wnt.mono (Wnt.bind w1) λy w2 v H2 B2 g2 m2 r2=> ?_)
 have ev2:=ev1.grow g2 m2
 have hh:qhC M H2 B2 q p vs:=qhC.grow (M:=M) hq g2
 unfold qhC at hh
 by_cases c:q.1=true
 ·rw[if_pos c] at hh w2
  rw[hg] at w2
  split at w2
  ·rename_i hc
   have le2:Le B2 (upd B2 p (.lst vs)):=λa o z=>by
    by_cases e:a=p
    ·subst e
     have:=ev2.bh _ _ z
     rw[hh] at this; cases this
     exact qal
    ·rw[qaj e]; exact z
   refine ⟨upd B2 p (.lst vs),.lst q.2,y,λa o z=> ?_,by rw[hK]; exact qkH qal ((r1.mono g2.bb).mono le2),by rw[hK]; exact r2.mono le2,hc.1,hc.2,w2 _ H2 B2 (g1.trans g2) m2 qb5⟩
   by_cases e:a=p
   ·subst e; rw[qal] at z; cases z; exact hh
   ·rw[qaj e] at z; exact ev2.bh _ _ z
  ·exact w2.elim
 ·rw[if_neg c] at hh w2
  exact w2.elim
theorem qoj (hu:X.A.units+8<cLine) (ha:DQ M X a dq) (hb:DE M X b db) (hm:behindInMarks .NotEq b=false:=by exact qdR _ (by decide) (by decide)) (hK:X.K=M.K:=by rfl):DT M X (.Compare a [.NotEq] [b] pos) (dTB (dQQ gNe dq db)):=
 PT.weak (qcW (qcm hu) ha hb hm) λ_ _ _ h=>qnm (neg:=true) (λ_ _=>rfl) hK (qb2 h)
end
end PL
end
section
namespace SetL
open PySem
def Ri (xs:Array Nat):Prop:=xs.toList.Pairwise (· < ·)
theorem Ri.lt {xs:Array Nat} (h:Ri xs) {i j:Nat} (hij:i<j) (hj:j<xs.size):xs.getD i 0<xs.getD j 0:=by
 have:=List.pairwise_iff_getElem.mp h i j (by rw[Array.length_toList]; lia) (by rw[Array.length_toList]; lia) hij
 simpa [Array.getD,hj,show i<xs.size by lia] using this
theorem qpE {xs:Array Nat} {j:Nat} (h:Ri xs): ∀(fuel lo hi:Nat),lo<=hi->hi<=xs.size->hi - lo<=fuel->(∀i,i<lo->xs.getD i 0<j)->(∀i,hi<=i->i<xs.size->j<=xs.getD i 0)->
  SetTable.below.go xs j fuel lo hi<=xs.size/\(∀i,i<SetTable.below.go xs j fuel lo hi->xs.getD i 0<j)/\∀i,SetTable.below.go xs j fuel lo hi<=i->i<xs.size->j<=xs.getD i 0
 | 0,lo,hi,h1,h2,h3,a,b=>by
  unfold SetTable.below.go
  exact ⟨by lia,a,λi hi'=>b i (by lia)⟩
 | fuel+1,lo,hi,h1,h2,h3,a,b=>by
  unfold SetTable.below.go
  by_cases c:lo<hi
  ·rw[if_pos c]
   dsimp only
   have hm:(lo+hi) / 2<xs.size:=by lia
   have em:xs.getD ((lo+hi) / 2) j=xs.getD ((lo+hi) / 2) 0:=by simp[Array.getD,hm]
   rw[em]
   by_cases d:xs.getD ((lo+hi) / 2) 0<j
   ·rw[if_pos d]
    refine qpE h fuel _ _ (by lia) h2 (by lia) (λi hi'=> ?_) b
    by_cases e:i=(lo+hi) / 2
    ·rw[e]; exact d
    ·have:=h.lt (i:=i) (j:=(lo+hi) / 2) (by lia) hm
     lia
   ·rw[if_neg d]
    refine qpE h fuel _ _ (by lia) (by lia) (by lia) a λi hi' hs=> ?_
    by_cases e:i=(lo+hi) / 2
    ·rw[e]; lia
    ·have:=h.lt (i:=(lo+hi) / 2) (j:=i) (by lia) hs
     lia
  ·rw[if_neg c]
   exact ⟨by lia,a,λi hi'=>b i (by lia)⟩
theorem qfD {xs:Array Nat} (h:Ri xs) (j:Nat):SetTable.below xs j<=xs.size/\(∀i,i<SetTable.below xs j->xs.getD i 0<j)/\∀i,SetTable.below xs j<=i->i<xs.size->j<=xs.getD i 0:=
 qpE h _ _ _ (Nat.zero_le _) (Nat.le_refl _) (by lia) (λi hi=>absurd hi (Nat.not_lt_zero _)) λi hi hs=>absurd hs (by lia)
theorem qjx {xs:Array Nat} (h:Ri xs) {i:Nat} (hi:i<xs.size):SetTable.below xs (xs.getD i 0+1)=i+1:=by
 obtain ⟨b1,b2,b3⟩:=qfD h (xs.getD i 0+1)
 rcases Nat.lt_trichotomy (SetTable.below xs (xs.getD i 0+1)) (i+1) with c | c | c
 ·have:=b3 i (by lia) hi; lia
 ·exact c
 ·have:=b2 (i+1) c
  have:=h.lt (i:=i) (j:=i+1) (by lia) (by lia)
  lia
theorem qjw {xs:Array Nat} (h:Ri xs):SetTable.below xs 0=0:=by
 obtain ⟨b1,b2,b3⟩:=qfD h 0
 by_cases c:SetTable.below xs 0=0
 ·exact c
 ·have:=b2 0 (by lia); lia
theorem qhf {α:Type} (xs:Array α) (p:Nat) (x:α) (hp:p<=xs.size):(SetTable.insertAt xs p x).toList=xs.toList.take p++x::xs.toList.drop p:=by
 unfold SetTable.insertAt
 rw[Array.toList_append,Array.toList_push,Array.toList_extract,Array.toList_extract]
 simp[List.extract_eq_drop_take]
 exact List.take_of_length_le (by rw[List.length_drop,Array.length_toList]; exact Nat.le_refl _)
theorem qk5 {xs:Array Nat} (h:Ri xs) {j:Nat} (hn:xs[SetTable.below xs j]? ≠some j):Ri (SetTable.insertAt xs (SetTable.below xs j) j):=by
 obtain ⟨b1,b2,b3⟩:=qfD h j
 unfold Ri
 rw[qhf _ _ _ b1]
 have g: ∀{i:Nat} (hi:i<xs.toList.length),xs.toList[i]=xs.getD i 0:=λ{i} hi=>by
  have:i<xs.size:=by rw[Array.length_toList] at hi; exact hi
  simp[Array.getD,this]
 have gt: ∀i,SetTable.below xs j<=i->i<xs.size->j<xs.getD i 0:=λi h1 h2=>by
  have e0:=b3 i h1 h2
  by_cases c:i=SetTable.below xs j
  ·have:xs[SetTable.below xs j]? =some (xs.getD (SetTable.below xs j) 0):=by
    have hs:SetTable.below xs j<xs.size:=by lia
    simp[Array.getD,hs]
   rw[this] at hn
   subst c
   have:xs.getD (SetTable.below xs j) 0≠j:=λz=>hn (by rw[z])
   lia
  ·have e1:=b3 (SetTable.below xs j) (Nat.le_refl _) (by lia)
   have:=h.lt (i:=SetTable.below xs j) (j:=i) (by lia) h2
   lia
 refine List.pairwise_append.mpr ⟨List.Pairwise.sublist (List.take_sublist _ _) h,List.pairwise_cons.mpr ⟨λy hy=> ?_,List.Pairwise.sublist (List.drop_sublist _ _) h⟩,λx hx y hy=> ?_⟩
 ·obtain ⟨k,hk,rfl⟩:=List.mem_iff_getElem.mp hy
  rw[List.getElem_drop,g]
  rw[List.length_drop,Array.length_toList] at hk
  exact gt _ (by lia) (by lia)
 ·obtain ⟨k,hk,rfl⟩:=List.mem_iff_getElem.mp hx
  rw[List.getElem_take,g]
  rw[List.length_take] at hk
  have a:=b2 k (by lia)
  rcases List.mem_cons.mp hy with z | z
  ·rw[z]; exact a
  ·obtain ⟨m,hm,rfl⟩:=List.mem_iff_getElem.mp z
   rw[List.getElem_drop,g]
   rw[List.length_drop,Array.length_toList] at hm
   have:=gt (SetTable.below xs j+m) (by lia) (by lia)
   lia
theorem qmH (n:Nat):Ri (Array.range n):=by
 unfold Ri
 rw[Array.toList_range]
 exact List.pairwise_lt_range
def qeT (t:SetTable):Prop:=Ri t.place/\t.dummies= #[]
theorem qi6 (a b:Nat) (l:Bool):qeT (.fresh a b l):=⟨List.Pairwise.nil,rfl⟩
theorem qcz (t:SetTable) (n:Nat):qeT (t.standIn n):=⟨qmH n,rfl⟩
theorem qi5 {t:SetTable} (h:qeT t) (b:Bool):qeT { t with plain:=b }:=h
theorem qlb (j:Nat):SetTable.has #[] j=false:=rfl
theorem qjT {t:SetTable} (h:qeT t) (j:Nat):t.slot j≠.dummy:=by
 unfold SetTable.slot
 dsimp only
 rw[h.2,qlb]
 split
 ·intro z; cases z
 ·rw[if_neg (by decide)]; intro z; cases z
theorem qhW {t:SetTable} (h:qeT t) (ha:Nat->Int) (x:Int): ∀(fuel:Nat) (p:SetTable.Probe) (j:Nat) (d:Option Nat),p.dummy=none->SetTable.probe.go t ha x fuel p=some (.empty j d)->d=none/\t.slot j= .empty
 | 0,p,j,d,hp,e=>by unfold SetTable.probe.go at e; cases e
 | fuel+1,p,j,d,hp,e=>by
  have adv:(t.advance p).dummy=none:=by
   unfold SetTable.advance
   split
   ·exact hp
   ·exact hp
  unfold SetTable.probe.go at e
  split at e
  ·rename_i es
   cases e
   exact ⟨hp,es⟩
  ·rename_i es
   exact absurd es (qjT h _)
  ·split at e
   ·cases e
   ·exact qhW h ha x fuel _ j d adv e
theorem qiR {t:SetTable} {j:Nat} (h:t.slot j= .empty):t.place[SetTable.below t.place j]? ≠some j:=by
 intro z
 unfold SetTable.slot at h
 dsimp only at h
 rw[z,if_pos (by simp)] at h
 cases h
theorem qm1 {t:SetTable} (h:qeT t) {j:Nat} (hj:t.slot j= .empty):qeT (t.put j).1:=by
 unfold SetTable.put
 refine ⟨qk5 h.1 (qiR hj),?_⟩
 show (if SetTable.has t.dummies j=true then _ else t.dummies)= #[]
 rw[h.2,qlb,if_neg (by decide)]
theorem qf2 {t:SetTable} (h:qeT t) (n:Nat):qeT (t.orStandIn n):=by
 unfold SetTable.orStandIn
 split
 ·exact h
 ·exact qcz _ _
theorem qm6 {t:SetTable} (h:qeT t) (es:Array (Int×Value)) (x:Int) (v:Value):qeT (layNew t es x v).2.1:=by
 unfold layNew
 split
 ·rename_i slot wd e
  unfold SetTable.freeSlot at e
  split at e
  ·rename_i j d e2
   obtain ⟨rfl,e3⟩:=qhW h _ _ _ _ j d rfl e2
   cases e
   exact qf2 (qm1 h e3) _
  ·cases e
 ·exact qcz _ _
theorem qif (ow:Array (Option Nat)): ∀l:List Nat,l.Pairwise (· < ·)->((l.filterMap λj=>(ow.getD j none).map (j, ·)).map (·.1)).Pairwise (· < ·)/\∀x∈((l.filterMap λj=>(ow.getD j none).map (j, ·)).map (·.1)),x∈l
 | [],_=>⟨List.Pairwise.nil,λ_ h=>by cases h⟩
 | y::l,h=>by
  have h':=List.pairwise_cons.mp h
  obtain ⟨i1,i2⟩:=qif ow l h'.2
  cases e:ow.getD y none with
  | none=>
   rw[List.filterMap_cons,e]
   exact ⟨i1,λx hx=>List.mem_cons_of_mem _ (i2 x hx)⟩
  | some k=>
   rw[List.filterMap_cons,e]
   dsimp only[Option.map]
   rw[List.map_cons]
   refine ⟨List.pairwise_cons.mpr ⟨λx hx=>h'.1 x (i2 x hx),i1⟩,λx hx=> ?_⟩
   rcases List.mem_cons.mp hx with z | z
   ·rw[z]; exact List.mem_cons_self
   ·exact List.mem_cons_of_mem _ (i2 x z)
theorem qgU {t t':SetTable} {hs:Array Int} {n:Nat} {o:Array Nat} (e:t.relaid hs n=some (t',o)):qeT t':=by
 unfold SetTable.relaid SetTable.laid at e
 cases q:SetTable.layClean (SetTable.sizeAbove n - 1) hs with
 | none=>rw[q] at e; cases e
 | some ow=>
  rw[q] at e
  have e':=Option.some.inj e
  have e1:=(Prod.mk.inj e').1
  subst e1
  exact ⟨(qif ow _ List.pairwise_lt_range).1,rfl⟩
theorem qiW (t:SetTable) (es:Array (Int×Value)) (n:Nat):qeT (relayAll t es n).2.1:=by
 unfold relayAll
 split
 ·rename_i t' o e
  dsimp only
  split
  ·exact qgU e
  ·exact qcz _ _
 ·exact qcz _ _
end SetL
end
section
namespace SetL
open PySem
theorem qg0 {t:SetTable} {n:Nat}:(t.orStandIn n).led=t.led:=by
 unfold SetTable.orStandIn
 split<;>rfl
theorem qpx {t:SetTable} {es:Array (Int×Value)} {h:Int} {x:Value}:(layNew t es h x).2.1.led=t.led:=by
 unfold layNew
 split
 ·exact qg0
 ·rfl
theorem qiX {t t':SetTable} {hs:Array Int} {n:Nat} {o:Array Nat} (e:t.relaid hs n=some (t',o)):t'.led=t.led:=by
 unfold SetTable.relaid SetTable.laid at e
 cases q:SetTable.layClean (SetTable.sizeAbove n - 1) hs with
 | none=>rw[q] at e; cases e
 | some ow=>
  rw[q] at e
  have e':=Option.some.inj e
  exact (congrArg (λp:SetTable×Array Nat=>p.1.led) e').symm
theorem qkg {t:SetTable} {es:Array (Int×Value)} {n:Nat}:(relayAll t es n).2.1.led=t.led:=by
 unfold relayAll
 split
 ·rename_i t' o e
  dsimp only
  split
  ·exact qiX e
  ·rfl
 ·rfl
section
variable {prog:Program} {w:World} {K:Type} [DecidableEq K] (knd:KeyKind prog w K)
def qjB (h:Heap) (a:Addr) (S:K->Bool) (n:Nat):Prop:=
 ∃o es ep t,h.get? a=some o/\o.ExactSet/\o.data= .set es ep t/\ElemsOf knd es.toList/\(∀k,S k=true↔∃e∈es.toList,knd.is k e.2=true)/\es.size<scanBound/\t.fits es.size=true/\es.size=n/\qeT t/\t.led= !w.params.followText "set-order"
variable {knd} {A:Around} {E:Value->Shared->Prop} {s:Shared}
theorem qjB.keep {h h':Heap} {a:Addr} {S:K->Bool} {n:Nat} (x:qjB knd h a S n) (k: ∀o,h.get? a=some o->h'.get? a=some o):qjB knd h' a S n:=
 let ⟨o,es,ep,t,ho,r⟩:=x
 ⟨o,es,ep,t,k _ ho,r⟩
theorem qle (b:Bool) {s₁:Shared} {Q':Unit->Shared->Prop} (hq:Q' () s₁):wpAny (model prog w) A (match b with | true=>rule "set.scan.the-table-gave-way" | false=>pure ()) Q' E s₁:=by
 cases b with
 | true=>exact wpAny_rule hq
 | false=>exact wpAny_pure hq
theorem qjP {a:Addr} {o:Obj} {es es':Array (Int×Value)} {ep:Nat} {t t':SetTable} {S':K->Bool} {Q:Unit->Shared->Prop} (ho:s.heap.get? a=some o) (hx:o.ExactSet) (hd:o.data= .set es ep t) (el:ElemsOf knd es'.toList)
  (me: ∀k,S' k=true↔∃e∈es'.toList,knd.is k e.2=true) (hb:es'.size<scanBound) (hf:t'.fits es'.size=true) (hp:qeT t') (hl:t'.led= !w.params.followText "set-order")
  (h: ∀h',Heap.SameBut a s.heap h'->h'.get? a=some { o with data:=.set es' (ep+1) t' }->qjB knd h' a S' es'.size->Q () { s with heap:=h' }):wpAny (model prog w) A (storeSet a es' t') Q E s:=by
 refine wpAny_storeSet_of ho hd ?_ (fits_of_scanBound hb)
 obtain ⟨g,_⟩:=SetOf_store (knd:=knd) ho hx hd el me hb hf
 exact h _ (Heap.SameBut.update s.heap a _) g ⟨_,es',ep+1,t',g,hx,rfl,el,me,hb,hf,rfl,hp,hl⟩
theorem quG {a:Addr} {S:K->Bool} {n:Nat} {k:K} {x:Value} {Q:Bool->Shared->Prop} (hk:knd.is k x=true) (hsc:x.scannable=true) (hS:qjB knd s.heap a S n) (room:n+1<scanBound)
  (h: ∀h',Heap.SameBut a s.heap h'->qjB knd h' a (λk'=>S k'||decide (k'=k)) (if S k then n else n+1)->Q (!S k) { s with heap:=h' }):wpAny (model prog w) A (setAddHashed a x (knd.hash k)) Q E s:=by
 obtain ⟨o,es,ep,t,ho,hx,hd,el,me,hb,hf,hn,pl,ld⟩:=hS
 unfold setAddHashed setAddHashedIn
 refine wpAny_holding (wpAny_bind (wpAny_setState_of ho hd hf ?_))
 dsimp only
 rw[byScan_of hsc hb el,if_pos rfl]
 unfold setAddByScan
 refine wpAny_bind (wpAny_bind (wpAny_rule (wpAny_bind (wpAny_setScan_of hk ho hd hf el ?_))))
 cases fr:List.findIdx? (λe=>knd.is k e.2) es.toList with
 | some j=>
  obtain ⟨hj,pj,_⟩:=List.findIdx?_eq_some_iff_getElem.mp fr
  have Sk:S k=true:=(me k).mpr ⟨_,List.getElem_mem hj,pj⟩
  refine wpAny_pure (wpAny_pure ?_)
  have z:=h s.heap (Heap.SameBut.refl a s.heap) ⟨o,es,ep,t,ho,hx,hd,el,λk'=> ?_,hb,hf,by rw[if_pos Sk]; exact hn,pl,ld⟩
  ·rw[Sk] at z
   exact z
  ·rw[Bool.or_eq_true,decide_eq_true_eq,<-me k']
   exact ⟨λq=>q.elim id λe=>by rw[e]; exact Sk,.inl⟩
 | none=>
  have Sk:S k=false:=by
   cases q:S k with
   | false=>rfl
   | true=>
    obtain ⟨e,he,p⟩:=(me k).mp q
    rw[List.findIdx?_eq_none_iff.mp fr e he] at p
    cases p
  have pm:=layNew_perm t es (knd.hash k) x
  have ft:=layNew_fits t es (knd.hash k) x
  have lp:=qm6 pl es (knd.hash k) x
  have ll:=qpx (es:=es) (h:=knd.hash k) (x:=x) (t:=t)
  generalize layNew t es (knd.hash k) x=L at pm ft lp ll⊢
  obtain ⟨es1,t1,wd,gv⟩:=L
  dsimp only at pm ft lp ll⊢
  rw[Array.toList_push] at pm
  have el1:ElemsOf knd es1.toList:=(el.push hk hsc).perm pm
  have me1:=mem_push_iff (S:=S) hk me pm
  have sz:es1.size=n+1:=by rw[<-Array.length_toList,pm.length_eq,List.length_append,Array.length_toList,hn]; rfl
  refine wpAny_bind (qle _ ?_)
  have go: ∀t2:SetTable,t2.fits es1.size=true->qeT t2->t2.led=(!w.params.followText "set-order")->wpAny (model prog w) A (do
    storeSet a es1 t2
    if (!wd&&t2.tooFull)=true then do
     (match (relayAll t2 es1 (SetTable.grown es1.size)).2.2 with | true=>rule "set.scan.the-table-gave-way" | false=>pure ())
     storeSet a (relayAll t2 es1 (SetTable.grown es1.size)).1 (relayAll t2 es1 (SetTable.grown es1.size)).2.1
     pure (some true)
    else pure (some true):Sem (Option Bool)) (λr s'=> ∃h',s'={ s with heap:=h' }/\r=some true/\Q true { s with heap:=h' }) E s:=λt2 f2 p2 l2=>by
   refine wpAny_bind (qjP (knd:=knd) (S':=λk'=>S k'||decide (k'=k)) ho hx hd el1 me1 (by lia) f2 p2 l2 λh1 sb g1 S1=> ?_)
   split
   ·have pm2:=relayAll_perm t2 es1 (SetTable.grown es1.size)
    have ft2:=relayAll_fits t2 es1 (SetTable.grown es1.size)
    have rp:=qiW t2 es1 (SetTable.grown es1.size)
    have rl:=qkg (es:=es1) (n:=SetTable.grown es1.size) (t:=t2)
    generalize relayAll t2 es1 (SetTable.grown es1.size)=R at pm2 ft2 rp rl⊢
    obtain ⟨es2,t3,g2⟩:=R
    dsimp only at pm2 ft2 rp rl⊢
    have sz2:es2.size=es1.size:=by rw[<-Array.length_toList,pm2.length_eq,Array.length_toList]
    refine wpAny_bind (qle _ (wpAny_bind (qjP (knd:=knd) (S':=λk'=>S k'||decide (k'=k)) (s:={ s with heap:=h1 }) g1 hx rfl (el1.perm pm2) (λk'=>(me1 k').trans ⟨λ⟨e,he,q⟩=>⟨e,pm2.mem_iff.mpr he,q⟩,λ⟨e,he,q⟩=>⟨e,pm2.mem_iff.mp he,q⟩⟩) (by lia) ft2 rp (rl.trans l2) λh2 sb2 _ S2=> ?_)))
    have z:=h h2 (sb.trans sb2) (by rw[Sk,if_neg (by decide)]; rw[sz2,sz] at S2; exact S2)
    rw[Sk] at z
    exact wpAny_pure ⟨h2,rfl,rfl,z⟩
   ·have z:=h h1 sb (by rw[Sk,if_neg (by decide)]; rw[sz] at S1; exact S1)
    rw[Sk] at z
    exact wpAny_pure ⟨h1,rfl,rfl,z⟩
  have both: ∀c:Bool,wpAny (model prog w) A (do
    let t2:SetTable:=if c=true then t1 else { t1 with plain:=false }
    storeSet a es1 t2
    if (!wd&&t2.tooFull)=true then do
     (match (relayAll t2 es1 (SetTable.grown es1.size)).2.2 with | true=>rule "set.scan.the-table-gave-way" | false=>pure ())
     storeSet a (relayAll t2 es1 (SetTable.grown es1.size)).1 (relayAll t2 es1 (SetTable.grown es1.size)).2.1
     pure (some true)
    else pure (some true):Sem (Option Bool)) (λr s'=> ∃h',s'={ s with heap:=h' }/\r=some true/\Q true { s with heap:=h' }) E s:=λc=>by
   cases c with
   | true=>exact go t1 ft lp (ll.trans ld)
   | false=>exact go { t1 with plain:=false } (SetTable.fits_plain_off ft) (qi5 lp false) (ll.trans ld)
  by_cases tp:t1.plain=true
  ·rw[if_pos tp,hashByValue_scannable 8 hsc]
   refine wpAny_bind (wpAny_pure ?_)
   refine wpAny_mono (both (plainKind x)) (λr s' ⟨h',e1,e2,q⟩=> ?_) λ_ _ z=>z
   subst e1 e2
   exact wpAny_pure q
  ·rw[if_neg tp]
   refine wpAny_bind (wpAny_pure ?_)
   refine wpAny_mono (both true) (λr s' ⟨h',e1,e2,q⟩=> ?_) λ_ _ z=>z
   subst e1 e2
   exact wpAny_pure q
end
end SetL
end
section
namespace SetL
open PySem
theorem qlQ {M:Model} {A:Around} {E:Value->Shared->Prop} {s:Shared} {src:Source} {n:Nat} {Q:Nat->Shared->Prop} (hn:n≠0) (h: ∀i d,i<n->Q i { s with drawn:=d }):wpAny M A (choose src n) Q E s:=
 λΓ p hΓ=>⟨hn,h _ _ (Nat.mod_lt _ (Nat.pos_of_ne_zero hn))⟩
theorem qds {α:Type}: ∀{xs:List α} {i:Nat} {x:α},xs[i]? =some x->List.Perm (x::xs.eraseIdx i) xs
 | [],i,x,h=>by simp at h
 | y::ys,0,x,h=>by
  simp at h; subst h
  exact List.Perm.refl _
 | y::ys,i+1,x,h=>by
  have:=qds (xs:=ys) (i:=i) (x:=x) (by simpa using h)
  exact (List.Perm.swap y x _).trans (this.cons y)
theorem qly {M:Model} {A:Around} {E:Value->Shared->Prop} {α:Type}: ∀(n:Nat) (xs:List α) (s:Shared) (Q:List α->Shared->Prop),xs.length=n->(∀ys d,List.Perm ys xs->Q ys { s with drawn:=d })->wpAny M A (drawOrder n xs) Q E s
 | 0,xs,s,Q,hl,h=>by
  have e:xs=[]:=List.length_eq_zero_iff.mp hl
  subst e
  exact wpAny_pure (h [] s.drawn (List.Perm.refl _))
 | n+1,[],s,Q,hl,h=>by cases hl
 | n+1,x::xs,s,Q,hl,h=>by
  unfold drawOrder
  refine wpAny_bind (qlQ (by simp) λi d hi=> ?_)
  obtain ⟨y,hy⟩: ∃y,(x::xs)[i]? =some y:=⟨_,List.getElem?_eq_getElem hi⟩
  rw[hy]
  have hp:=qds hy
  refine wpAny_bind (qly n _ _ _ ?_ λys d' pm=>wpAny_pure (h (y::ys) d' ((pm.cons y).trans hp)))
  have:=hp.length_eq
  simp only[List.length_cons] at this hl⊢
  lia
theorem qfX {α:Type} (next:Nat->Nat): ∀(fuel k:Nat) (left:List α) (out:Array α),left.length=fuel->List.Perm (pickOrder.go next fuel k left out).toList (out.toList++left)
 | 0,k,left,out,h=>by
  have e:left=[]:=List.length_eq_zero_iff.mp h
  subst e
  simp[pickOrder.go]
 | n+1,k,left,out,h=>by
  unfold pickOrder.go
  have hlt:next k % left.length<left.length:=Nat.mod_lt _ (by lia)
  rw[List.getElem?_eq_getElem hlt]
  dsimp only
  have hp:=qds (List.getElem?_eq_getElem hlt)
  have hl:=hp.length_eq
  simp only[List.length_cons] at hl
  refine (qfX next n (k+1) _ _ (by lia)).trans ?_
  rw[Array.toList_push,List.append_assoc]
  exact List.Perm.append_left _ hp
theorem qeK {α:Type} (next:Nat->Nat) (xs:Array α):List.Perm (pickOrder next xs).toList xs.toList:=by
 unfold pickOrder
 have:=qfX next xs.size 0 xs.toList #[] (by simp)
 simpa using this
def qhc (first:Value) (i:Nat) (a:Addr) (n ep:Nat):Obj:={ cls:=.type "set_iterator",data:=.fields #[first,rawInt i,.ref a,rawInt n,rawInt ep] }
inductive Way (w:World) (h:Heap) (a:Addr) (es:Array (Int×Value)) (ep:Nat) (t:SetTable):List Addr->(Nat->Value)->List Value->Prop
 | drawn {tp:Addr} {ot:Obj} {pl:List Nat} {k:Nat}:h.get? tp=some ot->ot.data= .seq (List.toArray (pl.map λ(i:Nat)=>rawInt i)) k->(∀i∈pl,i<es.size)->Way w h a es ep t [tp] (λ_=>.ref tp) (pl.map λi=>(es.toList.map (·.2)).getD i .none)
 | text:w.params.followText "set-order" =true->Way w h a es ep t [] (λ_=>rawInt 0) ((pickOrder (w.params.setOrder a ep) es).toList.map (·.2))
 | small:w.params.followText "set-order" =false->(!t.plain&&decide (es.size>1))=false->t.led=true->qeT t->Way w h a es ep t [] (λi=>if i=0 then rawInt 0 else rawInt (t.place.getD (i - 1) 0+1:Nat)) (es.toList.map (·.2))
theorem Way.keep {w:World} {h h':Heap} {a:Addr} {es:Array (Int×Value)} {ep:Nat} {t:SetTable} {tl:List Addr} {f:Nat->Value} {vs:List Value} (x:Way w h a es ep t tl f vs) (k: ∀b∈tl,∀o,h.get? b=some o->h'.get? b=some o):Way w h' a es ep t tl f vs:=by
 cases x with
 | drawn e d b=>exact .drawn (k _ (List.mem_singleton.mpr rfl) _ e) d b
 | text e=>exact .text e
 | small e1 e2 e3 e4=>exact .small e1 e2 e3 e4
theorem qc7:Slot "set_iterator" "__next__" "set_iterator.__next__" :=
 .of (owner:= "set_iterator") (n:= "__next__") (by rw[typeLookup_type,builtinLookup_eq_fast]; kernel_rfl) (by decide+kernel) (by decide+kernel)
  (by decide+kernel) (by first | exact .inl (by decide+kernel) | exact .inr (by decide+kernel)) (by rw[isSubtype_type]; kernel_rfl)
theorem qfO:Slot "set_iterator" "__iter__" "set_iterator.__iter__" :=
 .of (owner:= "set_iterator") (n:= "__iter__") (by rw[typeLookup_type,builtinLookup_eq_fast]; kernel_rfl) (by decide+kernel) (by decide+kernel)
  (by decide+kernel) (by first | exact .inl (by decide+kernel) | exact .inr (by decide+kernel)) (by rw[isSubtype_type]; kernel_rfl)
theorem qjf:entryFor table "set_iterator.__next__" =some Builtin.«set_iterator.__next__» :=entryFor_of_fast (by kernel_rfl)
theorem qfv:entryFor table "set.__iter__" =some Builtin.«frozenset.__iter__» :=
 entryFor_alias (id':= "frozenset.__iter__") (by kernel_rfl) rfl (by decide+kernel) (by kernel_rfl)
theorem ql5 (a:Value):argsOk "set_iterator.__next__" ⟨[a],[]⟩:=by
 unfold argsOk; kernel_rfl
section
variable {prog:Program} {w:World} {A:Around} {E:Value->Shared->Prop} {s:Shared}
theorem qgO {Q:Bool->Shared->Prop} (h:Q (w.params.followText "set-order") s):wpAny (model prog w) A setsByText Q E s:=by
 unfold setsByText
 exact wpAny_bind (wpAny_askSetting (wpAny_pure h))
theorem qjg {a:Addr} {o:Obj} {es:Array (Int×Value)} {ep:Nat} {t:SetTable} {Q:Nat->Shared->Prop} (ho:s.heap.get? a=some o) (hd:o.data= .set es ep t) (hf:t.fits es.size=true) (h:Q es.size s):wpAny (model prog w) A (Builtin.Frozenset.sizeOf a) Q E s:=by
 unfold Builtin.Frozenset.sizeOf
 exact wpAny_bind (wpAny_setEntries_of ho hd hf (wpAny_pure h))
theorem qnz {a:Addr} {o:Obj} {es:Array (Int×Value)} {ep:Nat} {t:SetTable} {Q:Bool->Shared->Prop} (ho:s.heap.get? a=some o) (hd:o.data= .set es ep t) (hf:t.fits es.size=true) (h:Q (!w.params.followText "set-order" &&(!t.plain&&decide (es.size>1))) s):wpAny (model prog w) A (setDrawn a) Q E s:=by
 unfold setDrawn
 exact wpAny_bind (wpAny_setState_of ho hd hf (wpAny_bind (qgO (wpAny_pure h))))
theorem qm9 {a:Addr} {o:Obj} {es:Array (Int×Value)} {ep:Nat} {t:SetTable} {Q:Value->Shared->Prop} (ho:s.heap.get? a=some o) (hx:o.ExactSet) (hd:o.data= .set es ep t) (hf:t.fits es.size=true) (hb:es.size<scanBound) (pl:qeT t) (ld:t.led= !w.params.followText "set-order")
  (h: ∀(it:Addr) (h':Heap) (d:Drawn) (tl:List Addr) (f:Nat->Value) (vs:List Value),s.heap.objs.size<=it->(∀b∈tl,s.heap.objs.size<=b/\b≠it)->(∀b u,s.heap.get? b=some u->h'.get? b=some u)->h'.get? it=some (qhc (f 0) 0 a es.size ep)->Way w h' a es ep t tl f vs->List.Perm vs (es.toList.map (·.2))->
   Q (.ref it) { s with heap:=h',drawn:=d }):wpAny (model prog w) A (pyIter (.ref a)) Q E s:=by
 have ty:s.TypeIs (.ref a) "set" :=⟨o,ho,hx.1⟩
 refine wpAny_pyIter_slot ty PySem.F.slot_set_iter (wpAny_call_entry PySem.F.slot_set_iter ty qfv ?_ (PySem.F.args_set_iter_1 _))
 unfold Builtin.«frozenset.__iter__» Builtin.Frozenset.slot0 slotArgs
 refine wpAny_bind (wpAny_pure (wpAny_bind (qjg ho hd hf ?_)))
 refine wpAny_bind (qnz ho hd hf ?_)
 have fin: ∀(s1:Shared) (first:Value) (tl:List Addr) (f:Nat->Value) (vs:List Value),s1.gens=s.gens->s1.os=s.os->s1.toks=s.toks->s.heap.objs.size<=s1.heap.objs.size->(∀b u,s.heap.get? b=some u->s1.heap.get? b=some u)->(∀b∈tl,s.heap.objs.size<=b/\b<s1.heap.objs.size)->f 0=first->(∀h',(∀b u,s1.heap.get? b=some u->h'.get? b=some u)->Way w h' a es ep t tl f vs)->List.Perm vs (es.toList.map (·.2))->
   wpAny (model prog w) A.in1 (do ret (<-newFields "set_iterator" [first,rawInt 0,.ref a,rawInt (es.size:Nat),rawInt (<-setEpoch a)])) (λr s'=> ∃v,r= .done (.ret v)/\∃(T':String) (r':Value),s'.TypeIs v T'/\typeLookup (.type T') "__next__" =pure (some r')/\Q v s') E s1:=λs1 first tl f vs e1 e2 e3 sz kp tb ef wy pm=>by
  refine wpAny_bind (wpAny_setEpoch_of (kp _ _ ho) hd hf ?_)
  refine wpAny_bind (wpAny_newObj_type ?_ (by size_fits))
  refine wpAny_pure ⟨_,rfl, "set_iterator",_,⟨_,Heap.get?_push_size _ rfl,rfl⟩,qc7.lookup,?_⟩
  have kp2: ∀b u,s1.heap.get? b=some u->(s1.heap.push (qhc first 0 a es.size ep)).get? b=some u:=λb u q=>Heap.get?_push_of_some _ q
  have:=h s1.heap.objs.size (s1.heap.push (qhc first 0 a es.size ep)) s1.drawn tl f vs sz (λb hb=>⟨(tb b hb).1,Nat.ne_of_lt (tb b hb).2⟩) (λb u q=>kp2 b u (kp b u q)) (by rw[ef]; exact Heap.get?_push_size _ rfl) (wy _ kp2) pm
  obtain ⟨hh,g,d,tk,os⟩:=s1
  dsimp only at e1 e2 e3 this⊢
  subst e1 e2 e3
  exact this
 have hall: ∀{α:Type} (d:α) (l:List α),(List.range l.length).map (λi=>l.getD i d)=l:=λd l=>by
  apply List.ext_getElem
  ·simp
  ·intro i h1 h2
   simp[List.getElem?_eq_getElem h2]
 cases bt:w.params.followText "set-order" with
 | true=>
  rw[if_neg (by simp)]
  refine wpAny_bind (wpAny_pure ?_)
  refine fin s (rawInt 0) [] (λ_=>rawInt 0) _ rfl rfl rfl (Nat.le_refl _) (λ_ _ q=>q) (λb hb=>nomatch hb) rfl (λh' _=>.text bt) ?_
  exact (qeK _ _).map _
 | false=>
  by_cases h1:(!t.plain&&decide (es.size>1))=true
  ·rw[if_pos (by rw[h1]; rfl)]
   refine wpAny_bind (qly es.size (List.range es.size) s _ (by simp) λys d pm=> ?_)
   refine wpAny_bind (wpAny_newObj_type ?_ (by
    have:=pm.length_eq
    have h2:scanBound=4096:=rfl
    show (List.toArray (ys.map λ(i:Nat)=>rawInt i)).size<=sizeLine
    rw[List.size_toArray,List.length_map,this,List.length_range,sizeLine_eq]
    lia))
   refine fin _ (.ref s.heap.objs.size) [s.heap.objs.size] (λ_=>.ref s.heap.objs.size) (ys.map λi=>(es.toList.map (·.2)).getD i .none) rfl rfl rfl (by show _<=(s.heap.push _).objs.size; rw[Heap.size_push]; exact Nat.le_succ _) (λb u q=>Heap.get?_push_of_some _ q) (λb hb=> ?_) rfl (λh' kp=> ?_) ?_
   ·rw[List.mem_singleton.mp hb]
    refine ⟨Nat.le_refl _,?_⟩
    show _<(s.heap.push _).objs.size
    rw[Heap.size_push]; exact Nat.lt_succ_self _
   ·refine .drawn (kp _ _ (Heap.get?_push_size _ rfl)) rfl λi hi=> ?_
    have:=pm.mem_iff.mp hi
    simpa using this
   ·have q:=pm.map λi=>(es.toList.map (·.2)).getD i Value.none
    have e:es.size=(es.toList.map (·.2)).length:=by simp
    rw[e,hall] at q
    exact q
  ·have h1':(!t.plain&&decide (es.size>1))=false:=by simpa using h1
   rw[if_neg (by rw[h1']; decide)]
   refine wpAny_bind (wpAny_pure ?_)
   exact fin s (rawInt 0) [] _ _ rfl rfl rfl (Nat.le_refl _) (λ_ _ q=>q) (λb hb=>nomatch hb) (if_pos rfl) (λh' _=>.small bt h1' (by rw[ld,bt]; rfl) pl) (List.Perm.refl _)
end
end SetL
end
section
namespace SetL
open PySem
section
variable {prog:Program} {w:World} {A:Around} {E:Value->Shared->Prop} {s:Shared} {it a:Addr} {o:Obj} {es:Array (Int×Value)} {ep:Nat} {t:SetTable} {tl:List Addr} {f:Nat->Value} {vs:List Value}
theorem qpo {i:Nat} {slot:Nat} {Q:Option (Value×Nat)->Shared->Prop} (ho:s.heap.get? a=some o) (hd:o.data= .set es ep t) (hf:t.fits es.size=true) (W:Way w s.heap a es ep t tl f vs) (hs:f i=rawInt (slot:Nat)) (hi:i<=vs.length)
  (h:Q (vs[i]?.map λv=>(v,if w.params.followText "set-order" =true then slot else t.place.getD i 0+1)) s):wpAny (model prog w) A (setNext a slot i ep) Q E s:=by
 unfold setNext
 refine wpAny_bind (wpAny_setState_of ho hd hf ?_)
 dsimp only
 refine wpAny_bind (qgO ?_)
 cases W with
 | drawn _ _ _=>cases hs
 | text e=>
  rw[if_pos e,if_neg (by simp)]
  refine wpAny_bind ?_
  unfold setWalk
  refine wpAny_bind (wpAny_setState_of ho hd hf ?_)
  dsimp only
  refine wpAny_bind (qgO ?_)
  rw[if_pos e]
  refine wpAny_bind (wpAny_askSetting (wpAny_pure (wpAny_pure ?_)))
  have e2:(if w.params.followText "set-order" =true then slot else t.place.getD i 0+1)=slot:=if_pos e
  rw[e2] at h
  have e3:((pickOrder (w.params.setOrder a ep) es).toList.map (·.2))[i]?.map (λv=>(v,slot))=((pickOrder (w.params.setOrder a ep) es)[i]?).map λe=>(e.2,slot):=by
   rw[List.getElem?_map,Array.getElem?_toList,Option.map_map]
   rfl
  rw[e3] at h
  exact h
 | small e ndr hl hft=>
  rw[e,if_neg (by decide)]
  split
  ·rename_i z
   have z':(!t.plain&&decide (es.size>1))=true:=z
   rw[ndr] at z'; cases z'
  have led:(!t.led&& !es.isEmpty)=false:=by rw[hl]; rfl
  refine wpAny_bind ?_
  show wpAny _ _ (if (!t.led&& !es.isEmpty)=true then _ else _) _ _ _
  rw[if_neg (by rw[led]; decide)]
  refine wpAny_pure (wpAny_pure ?_)
  have e2:(if w.params.followText "set-order" =true then slot else t.place.getD i 0+1)=t.place.getD i 0+1:=if_neg (by rw[e]; decide)
  rw[e2] at h
  have psz:t.place.size=es.size:=by
   have:=hf
   simp only[SetTable.fits,Bool.and_eq_true,beq_iff_eq] at this
   exact this.1
  have hi':i<=es.size:=by simpa using hi
  have eb:SetTable.below t.place slot=i:=by
   cases i with
   | zero=>
    have:slot=0:=by
     have hs':rawInt 0=rawInt (slot:Nat):=by simpa using hs
     unfold rawInt at hs'
     injection hs' with q _
     lia
    rw[this]; exact qjw hft.1
   | succ i=>
    have:slot=t.place.getD i 0+1:=by
     have hs':rawInt ((t.place.getD i 0+1:Nat):Int)=rawInt (slot:Nat):=by simpa using hs
     unfold rawInt at hs'
     injection hs' with q _
     lia
    rw[this]; exact qjx hft.1 (by lia)
  have e3:((es.toList.map (·.2))[i]?.map λv=>(v,t.place.getD i 0+1))=(es[i]?).map λe=>(e.2,t.place.getD i 0+1):=by
   rw[List.getElem?_map,Array.getElem?_toList,Option.map_map]
   rfl
  rw[e3] at h
  rw[eb]
  by_cases c:i<es.size
  ·have c1:es[i]? =some es[i]:=by simp[c]
   have c2:t.place[i]? =some (t.place.getD i 0):=by simp[Array.getD,psz,c]
   rw[c1] at h⊢
   rw[c2]
   exact h
  ·have c1:es[i]? =none:=by simp; lia
   rw[c1] at h⊢
   exact h
theorem qoI {Q:Option Value->Shared->Prop} (hh:A.handled=none) {s:Shared} (h: ∀h',(∀b u,s.heap.get? b=some u->h'.get? b=some u)->Q none { s with heap:=h' }):
  wpAny (model prog w) A.in1 (do raiseNew (<-newExc (.type "StopIteration") []):Sem Fin) (λr s'=> ∃v,r=Fin.done (.ret v)/\Q (some v) s') (λe s'=>wpAny (model prog w) A (do if <-isInstance e (.type "StopIteration") then pure none else throw e) Q E s') s:=by
 refine wpAny_bind ?_
 simp only[newExc,newTuple]
 refine wpAny_bind (wpAny_newObj_type ?_ (by size_fits))
 refine wpAny_bind (m:=firstArgMember _ _) (wpAny_of_eq (a:=Value.none) (by first | rfl | (simp only[firstArgMember]; rfl)) ?_)
 refine wpAny_newObj_type ?_ (by size_fits)
 simp only[raiseNew]
 refine wpAny_bind (wpAny_handled ?_)
 rw[show A.in1.handled=none from hh]
 refine wpAny_bind (wpAny_pure (wpAny_throw ?_))
 refine wpAny_bind (wpAny_isInstance (T:= "StopIteration") (b:=true) ⟨_,Heap.get?_push_size _ rfl,rfl⟩ isSubtype_stop ?_)
 exact wpAny_pure (h _ λb u q=>Heap.get?_push_of_some _ (Heap.get?_push_of_some _ q))
theorem qis {first:Value} {i n:Nat} {j:Nat} {x:Value} {h:Heap} (ho:h.get? it=some (qhc first i a n ep)):(h.update it (Obj.mapFields (·.setIfInBounds j x))).get? it=some { cls:=.type "set_iterator",data:=.fields (#[first,rawInt i,.ref a,rawInt n,rawInt ep].setIfInBounds j x) }:=
 Heap.get?_update_self _ ho rfl
theorem qnX {i:Nat} {Q:Option Value->Shared->Prop} (hh:A.handled=none) (hne:a≠it) (htl:it∉tl) (hit:s.heap.get? it=some (qhc (f i) i a es.size ep)) (ho:s.heap.get? a=some o) (hd:o.data= .set es ep t) (hf:t.fits es.size=true) (W:Way w s.heap a es ep t tl f vs) (hv:vs.length=es.size) (hi:i<=vs.length)
  (h1: ∀v h',vs[i]? =some v->Heap.SameBut it s.heap h'->h'.get? it=some (qhc (f (i+1)) (i+1) a es.size ep)->Q (some v) { s with heap:=h' })
  (h0: ∀h',vs[i]? =none->(∀b u,b≠it->s.heap.get? b=some u->h'.get? b=some u)->Q none { s with heap:=h' }):wpAny (model prog w) A (pyNext (.ref it)) Q E s:=by
 have ty:s.TypeIs (.ref it) "set_iterator" :=⟨_,hit,rfl⟩
 unfold pyNext
 refine wpAny_bind (wpAny_attempt (wpAny_callSpecial?_slot (name:=Str.ofString "__next__") ty qc7 (wpAny_call_entry qc7 ty qjf ?_ (ql5 _))))
 unfold Builtin.«set_iterator.__next__» slotArgs
 refine wpAny_bind (wpAny_pure (wpAny_bind (wpAny_fieldsOf hit rfl ?_)))
 refine wpAny_bind (wpAny_setEntries_of ho hd hf ?_)
 dsimp only
 rw[if_neg (by simp)]
 have one: ∀(v:Value) (s2:Shared),Q (some v) s2->∃v',Fin.done (Flow.ret v)=Fin.done (Flow.ret v')/\wpAny (model prog w) A (match (Except.ok (some v'):Except Value (Option Value)) with
      | Except.ok (some v)=>pure (some v)
      | Except.ok none=>unsupported "iter:the-iterator's-class-has-lost-its-__next__-amid-the-walk"
      | Except.error e=>do
       let b <-isInstance e (Value.type "StopIteration")
       if b=true then pure none else throw e) Q E s2:=λv s2 q=>⟨v,rfl,wpAny_pure q⟩
 have stop: ∀s2:Shared,(∀h',(∀b u,s2.heap.get? b=some u->h'.get? b=some u)->Q none { s2 with heap:=h' })->wpAny (model prog w) A.in1 (do raiseNew (<-newExc (.type "StopIteration") []):Sem Fin) (λfin s'=> ∃v,fin=Fin.done (Flow.ret v)/\wpAny (model prog w) A (match (Except.ok (some v):Except Value (Option Value)) with
      | Except.ok (some v)=>pure (some v)
      | Except.ok none=>unsupported "iter:the-iterator's-class-has-lost-its-__next__-amid-the-walk"
      | Except.error e=>do
       let b <-isInstance e (Value.type "StopIteration")
       if b=true then pure none else throw e) Q E s') (λe s'=>wpAny (model prog w) A (do
       let b <-isInstance e (Value.type "StopIteration")
       if b=true then pure none else throw e) Q E s') s2:=λs2 q=>wpAny_mono (qoI (Q:=Q) (E:=E) hh q) (λr s' ⟨v,e,q'⟩=>⟨v,e,wpAny_pure q'⟩) λ_ _ z=>z
 have byInt: ∀slot:Nat,f i=rawInt (slot:Nat)->(∀v,vs[i]? =some v->f (i+1)=rawInt ((if w.params.followText "set-order" =true then slot else t.place.getD i 0+1:Nat):Int))->
   wpAny (model prog w) A.in1 (do
    let r <-setNext a ((slot:Nat):Int).toNat ((i:Nat):Int).toNat ((ep:Nat):Int).toNat
    match r with
     | some (x,next)=>do
      setField (Value.ref it) 0 (rawInt (next:Nat))
      setField (Value.ref it) 1 (rawInt ((i:Nat)+1))
      ret x
     | none=>do
      setField (Value.ref it) 2 Value.none
      let e <-newExc (Value.type "StopIteration") []
      raiseNew e) (λfin s'=> ∃v,fin=Fin.done (Flow.ret v)/\wpAny (model prog w) A (match (Except.ok (some v):Except Value (Option Value)) with
      | Except.ok (some v)=>pure (some v)
      | Except.ok none=>unsupported "iter:the-iterator's-class-has-lost-its-__next__-amid-the-walk"
      | Except.error e=>do
       let b <-isInstance e (Value.type "StopIteration")
       if b=true then pure none else throw e) Q E s') (λe s'=>wpAny (model prog w) A (do
       let b <-isInstance e (Value.type "StopIteration")
       if b=true then pure none else throw e) Q E s') s:=λslot hs hnx=>by
  rw[Int.toNat_natCast,Int.toNat_natCast,Int.toNat_natCast]
  refine wpAny_bind (qpo (slot:=slot) ho hd hf W hs hi ?_)
  cases q:vs[i]? with
  | some v=>
   dsimp only[Option.map]
   refine wpAny_bind (wpAny_setField (i:=0) hit rfl (by simp) ?_)
   refine wpAny_bind (wpAny_setField (i:=1) (qis hit) rfl (by simp) (wpAny_pure (one v _ (h1 v _ q ((Heap.SameBut.update ..).trans (Heap.SameBut.update ..)) ?_))))
   rw[hnx v q]
   exact Heap.get?_update_self _ (qis hit) rfl
  | none=>
   dsimp only[Option.map]
   refine wpAny_bind (wpAny_setField (i:=2) hit rfl (by simp) (stop _ λh' kp=>h0 h' q λb u hb e=>kp b u ?_))
   exact (Heap.get?_update_other _ _ (Ne.symm hb)).trans e
 cases id W with
 | drawn et dt bd=>
  rename_i tp ot pl k
  show wpAny _ _ (seqItems? (.ref tp)>>=_) _ _ _
  refine wpAny_bind (wpAny_seqItems et dt ?_)
  dsimp only
  rw[Int.toNat_natCast]
  cases q:pl[i]? with
  | some j=>
   have e1:(List.toArray (pl.map λ(i:Nat)=>rawInt i))[i]? =some (rawInt (j:Nat)):=by simp[q]
   rw[e1]
   have hj:=bd j (List.mem_of_getElem? q)
   show wpAny _ _ (setNextDrawn a ((j:Nat):Int).toNat ((ep:Nat):Int).toNat>>=_) _ _ _
   rw[Int.toNat_natCast,Int.toNat_natCast]
   have ej:es[j]? =some es[j]:=by simp[hj]
   refine wpAny_bind ?_
   unfold setNextDrawn
   refine wpAny_bind (wpAny_setState_of ho hd hf ?_)
   dsimp only
   rw[if_neg (by simp),ej]
   refine wpAny_pure ?_
   have ev:(pl.map λi=>(es.toList.map (·.2)).getD i Value.none)[i]? =some es[j].2:=by
    rw[List.getElem?_map,q]
    simp[hj]
   exact wpAny_bind (wpAny_setField hit rfl (by simp) (wpAny_pure (one _ _ (h1 _ _ ev (Heap.SameBut.update ..) (qis hit)))))
  | none=>
   have e1:(List.toArray (pl.map λ(i:Nat)=>rawInt i))[i]? =none:=by simp[List.getElem?_eq_none_iff.mp q]
   rw[e1]
   have ev:(pl.map λi=>(es.toList.map (·.2)).getD i Value.none)[i]? =none:=by rw[List.getElem?_map,q]; rfl
   refine wpAny_bind (wpAny_setField hit rfl (by simp) ?_)
   refine wpAny_bind (wpAny_setField (qis hit) rfl (by simp) (stop _ λh' kp=>h0 h' ev λb u hb e=>kp b u ?_))
   exact (Heap.get?_update_other _ _ (Ne.symm hb)).trans ((Heap.get?_update_other _ _ (Ne.symm hb)).trans e)
 | text e=>
  exact byInt 0 rfl λv _=>by rw[if_pos e]; rfl
 | small e hn hl hft=>
  cases i with
  | zero=>exact byInt 0 rfl λv _=>by rw[if_neg (by rw[e]; decide)]; rfl
  | succ i=>
   have:=byInt (t.place.getD i 0+1) rfl λv _=>by rw[if_neg (by rw[e]; decide)]; rfl
   exact this
end
end SetL
end
section
namespace SetL
open PySem
theorem qgf:entryFor table "set_iterator.__iter__" =some Builtin.«dict_keyiterator.__iter__» :=
 entryFor_alias (id':= "dict_keyiterator.__iter__") (by kernel_rfl) rfl (by decide+kernel) (by kernel_rfl)
theorem qhA (a:Value):argsOk "set_iterator.__iter__" ⟨[a],[]⟩:=by
 unfold argsOk; kernel_rfl
section
variable {prog:Program} {w:World} {A:Around} {it a:Addr} {o:Obj} {es:Array (Int×Value)} {ep:Nat} {t:SetTable} {tl:List Addr} {f:Nat->Value} {vs:List Value}
def qwf (w:World) (it a:Addr) (o:Obj) (es:Array (Int×Value)) (ep:Nat) (t:SetTable) (tl:List Addr) (f:Nat->Value) (vs:List Value) (i:Nat) (h:Heap):Prop:=h.get? it=some (qhc (f i) i a es.size ep)/\h.get? a=some o/\Way w h a es ep t tl f vs/\i<=vs.length
theorem qsv (hh:A.handled=none) (hne:a≠it) (htl:it∉tl) (hd:o.data= .set es ep t) (hf:t.fits es.size=true) (hv:vs.length=es.size):Walks prog w A it (it::a::tl) [it] vs.length (λi v=>vs[i]? =some v) (qwf w it a o es ep t tl f vs) where
 sub:=λb hb=>by rw[List.mem_singleton.mp hb]; exact List.mem_cons_self
 frame:=λi h h' st k=>⟨k it List.mem_cons_self _ st.1,k a (List.mem_cons_of_mem _ List.mem_cons_self) _ st.2.1,st.2.2.1.keep λb hb u e=>k b (List.mem_cons_of_mem _ (List.mem_cons_of_mem _ hb)) u e,st.2.2.2⟩
 item:=λi s Q E hi st hQ=>by
  refine qnX hh hne htl st.1 st.2.1 hd hf st.2.2.1 hv st.2.2.2 (λv h' ev sb g=> ?_) λh' ev _=> ?_
  ·have e:s={ s with toks:=s.toks }:=rfl
   refine hQ v h' s.toks ev ⟨g,(sb.2 a hne).trans st.2.1,st.2.2.1.keep λb hb u q=>(sb.2 b (λz=>htl (by rw[<-z]; exact hb))).trans q,hi⟩ λb u hb q=>(sb.2 b (λz=>hb (by rw[z]; exact List.mem_singleton.mpr rfl))).trans q
  ·rw[List.getElem?_eq_getElem hi] at ev; cases ev
 done:=λs Q E st hQ=>by
  refine qnX hh hne htl st.1 st.2.1 hd hf st.2.2.1 hv st.2.2.2 (λv h' ev sb g=> ?_) λh' ev kp=> ?_
  ·rw[List.getElem?_eq_none_iff.mpr (Nat.le_refl _)] at ev; cases ev
  ·exact hQ h' s.toks λb u hb q=>kp b u (λz=>hb (by rw[z]; exact List.mem_singleton.mpr rfl)) q
 self:=λi s Q E st hQ=>by
  have ty:s.TypeIs (.ref it) "set_iterator" :=⟨_,st.1,rfl⟩
  refine wpAny_pyIter_slot ty qfO (wpAny_call_entry qfO ty qgf ?_ (qhA _))
  show wpAny _ _ (ret (.ref it)) _ _ s
  exact wpAny_pure ⟨_,rfl, "set_iterator",_,ty,qc7.lookup,hQ⟩
end
section
variable {prog:Program} {w:World} {A:Around} {E:Value->Shared->Prop} {s:Shared}
theorem qjQ:splitId "set.__len__" =some ("set", "__len__"):=by decide+kernel
theorem qry {α:Type} {M:Model} {c:Bool} {x y:Sem α} {Q:α->Shared->Prop} (hc:c=true) (h:wpAny M A x Q E s):wpAny M A (if c=true then x else y) Q E s:=by rw[if_pos hc]; exact h
theorem que {α:Type} {M:Model} {c:Bool} {x y:Sem α} {Q:α->Shared->Prop} (hc:c=false) (h:wpAny M A y Q E s):wpAny M A (if c=true then x else y) Q E s:=by rw[if_neg (by rw[hc]; decide)]; exact h
theorem qhy {a:Addr} {o:Obj} {es:Array (Int×Value)} {ep:Nat} {t:SetTable} {Q:List Value->Shared->Prop} (hh:A.handled=none) (ho:s.heap.get? a=some o) (hx:o.ExactSet) (hd:o.data= .set es ep t) (hf:t.fits es.size=true) (hb:es.size<scanBound) (pl:qeT t) (ld:t.led= !w.params.followText "set-order")
  (h: ∀(vs:List Value) (h':Heap) (d:Drawn) (tk:Nat),List.Perm vs (es.toList.map (·.2))->(∀b u,s.heap.get? b=some u->h'.get? b=some u)->Q vs { s with heap:=h',drawn:=d,toks:=tk }):wpAny (model prog w) A (collect (.ref a)) Q E s:=by
 have ha:=Heap.lt_size ho
 unfold collect
 refine wpAny_bind (wpAny_runValue (codeAny_builtin PySem.F.entry_proto_collect ?_))
 rw[Around.under_plainId PySem.F.plain_proto_collect _]
 refine wpAny_bind (wpAny_newObj_type ?_ (by size_fits))
 refine wpAny_pure ⟨plainId_quiet PySem.F.plain_list_iadd _,codeAny_builtin PySem.F.entry_list_iadd ?_⟩
 rw[Around.under_plainId PySem.F.plain_list_iadd _]
 have hL:(s.heap.push { cls:=.type "list",data:=.seq ([]:List Value).toArray }).get? s.heap.objs.size=some { cls:=.type "list",data:=.seq ([]:List Value).toArray }:=Heap.get?_push_size _ rfl
 have ho1:(s.heap.push { cls:=.type "list",data:=.seq ([]:List Value).toArray }).get? a=some o:=Heap.get?_push_of_some _ ho
 have ty:({ s with heap:=s.heap.push { cls:=.type "list",data:=.seq ([]:List Value).toArray } }:Shared).TypeIs (.ref a) "set" :=⟨o,ho1,hx.1⟩
 show wpAny _ A.in1 (Builtin.List.listExtendWith (.ref s.heap.objs.size) (.ref a) (.ref s.heap.objs.size)) _ _ _
 unfold Builtin.List.listExtendWith
 refine wpAny_bind (wpAny_typeOf ty ?_)
 have ns:Builtin.List.listSameRef (.ref s.heap.objs.size) (.ref a)=false:=by
  simp[Builtin.List.listSameRef]
  exact (Nat.ne_of_lt ha).symm
 rw[if_neg (by rw[ns]; decide)]
 refine wpAny_bind (qm9 (s:={ s with heap:=s.heap.push { cls:=.type "list",data:=.seq ([]:List Value).toArray } }) ho1 hx hd hf hb pl ld λit h1 d tl f vs hit htl kp g W pm=> ?_)
 have ty1:({ s with heap:=h1,drawn:=d }:Shared).TypeIs (.ref a) "set" :=⟨o,kp _ _ ho1,hx.1⟩
 refine wpAny_bind (wpAny_holding ?_)
 unfold Builtin.List.listLengthHint
 refine wpAny_bind (wpAny_specialOf ty1 PySem.F.slot_set_len.lookup ?_)
 dsimp only
 rw[qjQ]
 dsimp only
 refine wpAny_bind (wpAny_isInstance (b:=true) ty1 (by rw[isSubtype_type]; kernel_rfl) ?_)
 refine que rfl (qry (by decide+kernel) ?_)
 refine wpAny_bind (wpAny_typeOf ty1 (wpAny_pure ?_))
 refine qry (by decide+kernel) ?_
 refine wpAny_bind (wpAny_rule ?_)
 have g1:h1.get? s.heap.objs.size=some { cls:=.type "list",data:=.seq ([]:List Value).toArray }:=kp _ _ hL
 refine wpAny_bind ?_
 show wpAny _ A.in1 (updateSeq s.heap.objs.size (·.push .none)>>=λ_=>updateSeq s.heap.objs.size (·.pop)) _ _ _
 refine wpAny_bind (wpAny_updateSeq g1 rfl ?_)
 have g2:=Heap.get?_update_self (Obj.mapSeq (·.push Value.none)) g1 rfl
 refine wpAny_updateSeq g2 rfl ?_
 have g3:=Heap.get?_update_self (Obj.mapSeq (·.pop)) g2 rfl
 have oth: ∀b u,b≠s.heap.objs.size->h1.get? b=some u->((h1.update s.heap.objs.size (Obj.mapSeq (·.push Value.none))).update s.heap.objs.size (Obj.mapSeq (·.pop))).get? b=some u:=
  λb u hb e=>(Heap.get?_update_other _ _ (Ne.symm hb)).trans ((Heap.get?_update_other _ _ (Ne.symm hb)).trans e)
 have szp:s.heap.objs.size<({ s with heap:=s.heap.push { cls:=.type "list",data:=.seq ([]:List Value).toArray } }:Shared).heap.objs.size:=by
  show _<(s.heap.push _).objs.size
  rw[Heap.size_push]; exact Nat.lt_succ_self _
 have nit:it≠s.heap.objs.size:=λz=>by rw[z] at hit; exact absurd (Nat.lt_of_lt_of_le szp hit) (Nat.lt_irrefl _)
 have nia:a≠it:=λz=>by
  rw[<-z] at hit
  exact absurd (Nat.lt_of_lt_of_le (Nat.lt_trans ha szp) hit) (Nat.lt_irrefl _)
 have ntl:it∉tl:=λz=>(htl it z).2 rfl
 have lt:s.heap.objs.size∉(it::a::tl):=λz=>by
  rcases List.mem_cons.mp z with z | z
  ·exact nit z.symm
  ·rcases List.mem_cons.mp z with z | z
   ·exact absurd ha (by rw[<-z]; exact Nat.lt_irrefl _)
   ·exact absurd (Nat.lt_of_lt_of_le szp (htl _ z).1) (Nat.lt_irrefl _)
 have lv:vs.length=es.size:=by rw[pm.length_eq]; simp
 have hh2:A.in1.handled=none:=hh
 have Wk:=qsv (prog:=prog) (w:=w) (A:=A.in1) (f:=f) hh2 nia ntl hd hf lv
 refine wpAny_pure ⟨plainId_quiet PySem.F.plain_extend_loop _,codeAny_extend_loopS Wk.toS (by rw[lv]; exact fits_of_scanBound hb) _ lt _ vs.length 0 _ _ _ rfl (Nat.zero_le _) ?_ g3 (ItemsOf.nil _) λs' acc' c' hm hS' hacc=> ?_⟩
 ·exact ⟨oth _ _ nit g,oth _ _ (Nat.ne_of_lt ha) (kp _ _ ho1),W.keep λb hb' u e=>oth b u (λz=>lt (by rw[<-z]; exact List.mem_cons_of_mem _ (List.mem_cons_of_mem _ hb'))) e,Nat.zero_le _⟩
 ·show wpAny _ A (load s.heap.objs.size>>=_) _ _ s'
  refine wpAny_bind (wpAny_load hS' (wpAny_pure ?_))
  have ev:acc'.toList=vs:=by
   apply List.ext_getElem?
   intro j
   by_cases hj:j<vs.length
   ·have h2:j<acc'.size:=by rw[hacc.1]; exact hj
    have:=hacc.2 j acc'[j] (by simp[h2])
    rw[this]
    simp[h2]
   ·have q1:acc'.toList[j]? =none:=List.getElem?_eq_none_iff.mpr (by rw[Array.length_toList,hacc.1]; lia)
    have q2:vs[j]? =none:=List.getElem?_eq_none_iff.mpr (by lia)
    rw[q1,q2]
  rw[ev]
  obtain ⟨hh',gg,dd,tk,os⟩:=s'
  have e1:gg=s.gens:=hm.gens
  have e2:dd=d:=hm.drawn
  have e3:os=s.os:=hm.os
  subst e1 e2 e3
  refine h vs hh' dd tk pm λb u e=> ?_
  have nb:b<s.heap.objs.size:=Heap.lt_size e
  refine hm.heap b u (λz=> ?_) (oth b u (Nat.ne_of_lt nb) (kp b u (Heap.get?_push_of_some _ e)))
  rcases List.mem_cons.mp z with z | z
  ·exact absurd nb (by rw[z]; exact Nat.lt_irrefl _)
  ·rw[List.mem_singleton.mp z] at nb
   exact absurd (Nat.lt_of_lt_of_le (Nat.lt_trans nb szp) hit) (Nat.lt_irrefl _)
end
end SetL
end
section
namespace SetL
open PySem
section
variable {K:Type} [DecidableEq K]
def mem (key:Nat->K) (i:Nat) (k:K):Bool:=(List.range i).any λj=>decide (k=key j)
def cnt (key:Nat->K):Nat->Nat
 | 0=>0
 | i+1=>if mem key i (key i)=true then cnt key i else cnt key i+1
theorem qh9 (key:Nat->K) (i:Nat) (k:K):mem key (i+1) k=(mem key i k||decide (k=key i)):=by
 unfold mem
 rw[List.range_succ,List.any_append]
 simp
theorem qoq (key:Nat->K): ∀i,cnt key i<=i
 | 0=>Nat.le_refl _
 | i+1=>by
  have:=qoq key i
  unfold cnt
  split<;>lia
end
section
variable {prog:Program} {w:World} {K:Type} [DecidableEq K] {knd:KeyKind prog w K} {A:Around} {R:Result->Shared->Prop} {I:Addr} {fp wr:List Addr} {G:Array GenState->Array GenState->Prop} {n:Nat} {P:Nat->Value->Prop} {Sx:Nat->Shared->Prop}
theorem qrk (W:WalksS prog w A.in1 I fp wr G n P Sx) (S:Addr) (hSf:S∉fp) (key:Nat->K) (hval: ∀i v,P i v->knd.is (key i) v=true/\v.scannable=true) (hb:n+1<scanBound):
  ∀(k i:Nat) (s:Shared),n - i=k->i<=n->Sx i s->qjB knd s.heap S (mem key i) (cnt key i)->(∀s',Moved (S::wr) G s s'->qjB knd s'.heap S (mem key n) (cnt key n)->R (.ok (.ret .none)) s')->
   codeAny (model prog w) A (.builtin "set.update.loop" ⟨[.ref S,.ref I],[]⟩) R s:=by
 have nw:S∉wr:=λz=>hSf (W.sub _ z)
 have sub: ∀b∈wr,b∈S::wr:=λb z=>List.mem_cons_of_mem _ z
 intro k
 induction k with
 | zero=>
  intro i s hk hi st hS fin
  obtain rfl:i=n:=by lia
  refine codeAny_builtin PyProof.Rows.F.entry_set_update_loop ?_
  rw[Around.under_plainId PyProof.Rows.F.plain_set_update_loop _]
  refine wpAny_bind (W.done s _ _ st λs' mv=>wpAny_pure (fin s' (mv.mono sub) (hS.keep λo e=>mv.heap S o nw e)))
 | succ k ih=>
  intro i s hk hi st hS fin
  have lt:i<n:=by lia
  refine codeAny_builtin PyProof.Rows.F.entry_set_update_loop ?_
  rw[Around.under_plainId PyProof.Rows.F.plain_set_update_loop _]
  refine wpAny_bind (W.item i s _ _ lt st λv s' hP st' mv=> ?_)
  obtain ⟨v1,v2⟩:=hval i v hP
  refine wpAny_bind (wpAny_holding ?_)
  unfold setAdd
  refine wpAny_holding (wpAny_bind (knd.pyHash (k:=key i) v1 ?_))
  have cl:=qoq key i
  refine quG (knd:=knd) (s:={ s' with toks:=s'.toks+1 }) v1 v2 (hS.keep λo e=>mv.heap S o nw e) (by lia) λh' sb S2=> ?_
  refine wpAny_pure ⟨plainId_quiet PyProof.Rows.F.plain_set_update_loop _,ih (i+1) _ (by lia) lt (W.frame _ s' _ _ st' (Nat.le_succ _) λb hb' o e=> ?_) ?_ λs'' mv2 S3=> ?_⟩
  ·rw[sb.2 b λz=>hSf (by rw[<-z]; exact hb')]; exact e
  ·obtain ⟨o,es,ep,t,a1,a2,a3,a4,a5,a6,a7,a8,a9,a10⟩:=S2
   exact ⟨o,es,ep,t,a1,a2,a3,a4,λk'=>by rw[qh9]; exact a5 k',a6,a7,a8,a9,a10⟩
  ·refine fin s'' (Moved.trans W.gtrans ((mv.mono sub).then_heap (Nat.le_succ _) λb o hb' e=> ?_) mv2) S3
   rw[sb.2 b λz=>hb' (by rw[z]; exact List.mem_cons_self)]; exact e
end
section
variable {prog:Program} {w:World} {K:Type} [DecidableEq K] {knd:KeyKind prog w K} {A:Around} {E:Value->Shared->Prop} {s:Shared}
theorem qpq (x:Value) {Q₁:Value->Shared->Prop} (h:Q₁ (.ref s.heap.objs.size) { s with heap:=s.heap.push { cls:=.type "set",dict:=none,data:=.set #[] 0 (.fresh 0 0 (!w.params.followText "set-order")) } }):
  codeAny (model prog w) A (.call (.builtin "set.__new__") ⟨[.type "set",x],[]⟩) (PySem.wants Q₁ E) s:=by
 refine codeAny_of_tree ?_
 show wpAny _ A.in1 (do checkBuiltinCall "set.__new__" ⟨[.type "set",x],[]⟩; again (.builtin "set.__new__" ⟨[.type "set",x],[]⟩)) _ _ s
 refine wpAny_bind (wpAny_of_eq (PySem.F.newCall_set_1 x) (wpAny_pure ⟨plainId_quiet PySem.F.plain_set_new _,codeAny_builtin PySem.F.entry_set_new ?_⟩))
 rw[Around.under_plainId PySem.F.plain_set_new _]
 unfold Builtin.«set.__new__»
 unfold Builtin.Frozenset.newClass
 have sb:=PySem.sub_set_self
 obtain ⟨hp,g,d,tk,os⟩:=s
 dsimp only
 wp_walk
 exact wpAny_askSetting (wpAny_pure (by
  dsimp only
  simp only[newObj]
  exact wpAny_bind (wpAny_alloc (wpAny_pure (wpAny_pure h)))))
set_option maxHeartbeats 8000000 in
theorem qrZ {l:Addr} {items:Array Value} {key:Nat->K} {Q:Value->Shared->Prop} (hh:A.handled=none) (hl:s.heap.IsList l items) (hval: ∀i v,items[i]? =some v->knd.is (key i) v=true/\v.scannable=true) (hb:items.size+1<scanBound)
  (h: ∀(h':Heap) (tk:Nat),qjB knd h' s.heap.objs.size (mem key items.size) (cnt key items.size)->(∀b o,s.heap.get? b=some o->h'.get? b=some o)->Q (.ref s.heap.objs.size) { s with heap:=h',toks:=tk }):
  wpAny (model prog w) A (call (.type "set") [.ref l]) Q E s:=by
 obtain ⟨c,tl,mro⟩:=PySem.F.called_set.mro
 have md:=PySem.F.called_set.made
 have sb:=PySem.F.called_set.sub
 refine wpAny_call (codeAny_of_tree ?_)
 show wpAny _ _ (callAny (.type "set") _) _ _ _
 refine wpAny_pure ⟨Code.quiet_builtin _ (by decide+kernel),codeAny_builtin PySem.F.entry_type_call ?_⟩
 rw[Around.under_plain (weight_type_call_type "set" [.ref l] []) rfl]
 have q1:=PySem.F.called_set.notType
 have q2:=PySem.F.called_set.canCreate
 have q3:=PySem.F.typeCall_set_1 (.ref l)
 repeat (any_goals (first | assumption | wp_step))
 refine codeAny_mono (qpq (.ref l) (E:=E) (Q₁:=λv s1=>v= .ref s.heap.objs.size/\s1={ s with heap:=s.heap.push { cls:=.type "set",dict:=none,data:=.set #[] 0 (.fresh 0 0 (!w.params.followText "set-order")) } }) ⟨rfl,rfl⟩) λr s1 hr=> ?_
 cases r with
 | error e=>exact hr
 | ok fl=>cases fl with
  | ret obj=>
   obtain ⟨rfl,rfl⟩:=hr
   have gS:(s.heap.push { cls:=.type "set",dict:=none,data:=.set #[] 0 (.fresh 0 0 (!w.params.followText "set-order")) }).get? s.heap.objs.size=some { cls:=.type "set",dict:=none,data:=.set #[] 0 (.fresh 0 0 (!w.params.followText "set-order")) }:=Heap.get?_push_size _ rfl
   have tS:Shared.TypeIs { s with heap:=s.heap.push { cls:=.type "set",dict:=none,data:=.set #[] 0 (.fresh 0 0 (!w.params.followText "set-order")) } } (.ref s.heap.objs.size) "set" :=⟨_,gS,rfl⟩
   have li:=PySem.F.called_set.init.lookup
   have bi:=PySem.F.called_set.init.bind (.ref s.heap.objs.size)
   repeat (any_goals (first | assumption | wp_step))
   refine codeAny_mono (codeAny_call_builtin (R:=PySem.wants (λr s2=>r= .none/\∃h' tk,s2={ s with heap:=h',toks:=tk }/\qjB knd h' s.heap.objs.size (mem key items.size) (cnt key items.size)/\∀b o,s.heap.get? b=some o->h'.get? b=some o) E) PySem.F.called_set.init.plain PySem.F.entry_set_init (PySem.check_set_init_1 tS ?_)) λr2 s2 hr2=> ?_
   ·obtain ⟨⟨oc,od,odt,osl⟩,gl,cl,nl,dl⟩:=hl
    simp only at cl dl
    subst cl dl
    have gl':(s.heap.push { cls:=.type "set",dict:=none,data:=.set #[] 0 (.fresh 0 0 (!w.params.followText "set-order")) }).get? l=some { cls:=.type "list",dict:=od,data:=.seq items nl,slots:=osl }:=Heap.get?_push_of_some _ gl
    have u1:=PySem.F.sub_list_set
    have u2:=PySem.F.sub_list_frozenset
    have u3:(Value.type "list" ==Value.type "dict")=false:=by decide
    have l1:(s.heap.push { cls:=.type "set",dict:=none,data:=.set #[] 0 (.fresh 0 0 (!w.params.followText "set-order")) }).IsList l items:=⟨_,gl',rfl,nl,rfl⟩
    unfold Builtin.«set.__init__» noKeywords
    unfold Builtin.Frozenset.updateFrom
    generalize pie:pyIter=PI
    wp_walk
    subst pie
    refine wpAny_pyIter_list l1 (wpAny_bind (wpAny_runValue ?_))
    have lS:l<s.heap.objs.size:=Heap.lt_size gl
    have sz:(s.heap.push { cls:=.type "set",dict:=none,data:=.set #[] 0 (.fresh 0 0 (!w.params.followText "set-order")) }).objs.size=s.heap.objs.size+1:=Heap.size_push ..
    have n1:l≠(s.heap.push { cls:=.type "set",dict:=none,data:=.set #[] 0 (.fresh 0 0 (!w.params.followText "set-order")) }).objs.size:=by rw[sz]; exact Nat.ne_of_lt (Nat.lt_succ_of_lt lS)
    have n2:s.heap.objs.size∉[(s.heap.push { cls:=.type "set",dict:=none,data:=.set #[] 0 (.fresh 0 0 (!w.params.followText "set-order")) }).objs.size,l]:=λz=>by
     rw[sz] at z
     rcases List.mem_cons.mp z with z | z
     ·exact absurd z (Nat.ne_of_lt (Nat.lt_succ_self _))
     ·exact absurd (List.mem_singleton.mp z) (Nat.ne_of_gt lS)
    have hh3:A.in1.in1.in1.handled=none:=hh
    refine qrk (knd:=knd) ((Walks.list hh3 _ l n1 items).toS) s.heap.objs.size n2 key (λi v hv=>hval i v hv) hb (items.size - 0) 0 _ (by lia) (Nat.zero_le _) ⟨⟨_,Heap.get?_push_size _ rfl,rfl,rfl⟩,l1.push _⟩ ?_ λs' mv S'=> ?_
    ·exact ⟨_, #[],0,_,Heap.get?_push_of_some _ gS,⟨rfl,rfl,rfl⟩,rfl,λe he=>by simp at he,λk=>by simp[mem],by decide,by rfl,rfl,qi6 _ _ _,rfl⟩
    ·obtain ⟨h',g',d',tk',os'⟩:=s'
     have e1:g'=s.gens:=mv.gens
     have e2:d'=s.drawn:=mv.drawn
     have e3:os'=s.os:=mv.os
     subst e1 e2 e3
     refine wpAny_pure (wpAny_pure ⟨rfl,h',tk',rfl,S',λb o e=> ?_⟩)
     have lb:=Heap.lt_size e
     refine mv.heap b o (λz=> ?_) (Heap.get?_push_of_some _ (Heap.get?_push_of_some _ e))
     rcases List.mem_cons.mp z with z | z
     ·exact absurd z (Nat.ne_of_lt lb)
     ·have z':=List.mem_singleton.mp z
      rw[sz] at z'
      exact absurd z' (Nat.ne_of_lt (Nat.lt_succ_of_lt lb))
   ·cases r2 with
    | error e=>exact hr2
    | ok f2=>cases f2 with
     | ret r=>
      obtain ⟨rfl,h',tk,rfl,S',kp⟩:=hr2
      repeat (any_goals (first | assumption | wp_step))
      exact h _ _ S' kp
     | _=>exact hr2.elim
  | _=>exact hr.elim
end
end SetL
end
section
namespace SR
theorem qmr {α:Type} {P:List α->Prop} (h0:P []) (hs: ∀l a,P l->P (l++[a])): ∀l,P l:=by
 intro l
 have: ∀r:List α,P r.reverse:=by
  intro r
  induction r with
  | nil=>exact h0
  | cons a r ih=>rw[List.reverse_cons]; exact hs _ _ ih
 rw[<-List.reverse_reverse l]
 exact this _
section
variable {κ:Type} [DecidableEq κ]
abbrev T4 (κ:Type):=Int×κ×Int×Int
end
end SR
end
section
namespace SR
section
variable {κ:Type} [DecidableEq κ]
abbrev R3 (κ:Type):=Int×κ×Int
def un (t:T4 κ):R3 κ:=(t.1,t.2.1,t.2.2.1)
abbrev mo:R3 κ->Int:=λr=>r.1
end
end SR
end
section
namespace SR
theorem qga {α:Type} {k k':α->Int} {r:α} (hr:k r=k' r): ∀l:List α,(∀x∈l,k x=k' x)->ins k r l=ins k' r l
 | [],_=>rfl
 | x::l,h=>by
  show (if k x<=k r then x::ins k r l else r::x::l)=(if k' x<=k' r then x::ins k' r l else r::x::l)
  rw[hr,h x List.mem_cons_self,qga hr l λy hy=>h y (List.mem_cons_of_mem _ hy)]
theorem srt_congr {α:Type} {k k':α->Int} (l:List α):(∀x∈l,k x=k' x)->srt k l=srt k' l:=by
 refine qmr (P:=λl=>(∀x∈l,k x=k' x)->srt k l=srt k' l) (λ_=>rfl) (λl a ih h=> ?_) l
 rw[qff,qff,ih λx hx=>h x (List.mem_append_left _ hx)]
 exact qga (h a (List.mem_append_right _ List.mem_cons_self)) _ λx hx=>h x (List.mem_append_left _ ((qbm _).mp hx))
end SR
namespace RH
open PySem PySem.Spec PyProof.Rows L2 SR
def ltS (x y:Str):Bool:=decide (x.cps.toList<y.cps.toList)
theorem qqE {x y:Str} (h:x.cps.toList=y.cps.toList):x=y:=by
 cases x; cases y
 congr 1
 exact Array.toList_inj.mp h
theorem ordS:Ord ltS where
 irr:=λa=>decide_eq_false (List.lt_irrefl _)
 tr:=λa b c h1 h2=>decide_eq_true (List.lt_trans (of_decide_eq_true h1) (of_decide_eq_true h2))
 tot:=λa b h1 h2=>qqE (List.le_antisymm (List.not_lt.mp (of_decide_eq_false h2)) (List.not_lt.mp (of_decide_eq_false h1)))
end RH
end
section
namespace SetL
section
variable {α:Type} [DecidableEq α]
def dd:List α->List α
 | []=>[]
 | x::xs=>if x∈dd xs then dd xs else x::dd xs
theorem qdG {x:α}: ∀{l:List α},x∈dd l↔x∈l
 | []=>Iff.rfl
 | y::l=>by
  have ih:=qdG (x:=x) (l:=l)
  show x∈(if y∈dd l then dd l else y::dd l)↔_
  by_cases c:y∈dd l
  ·rw[if_pos c,ih,List.mem_cons]
   refine ⟨.inr,λh=> ?_⟩
   rcases h with rfl | h
   ·exact ih.mp c
   ·exact h
  ·rw[if_neg c,List.mem_cons,List.mem_cons,ih]
theorem qbF: ∀l:List α,(dd l).Nodup
 | []=>List.nodup_nil
 | y::l=>by
  show (if y∈dd l then dd l else y::dd l).Nodup
  by_cases c:y∈dd l
  ·rw[if_pos c]; exact qbF l
  ·rw[if_neg c]; exact List.nodup_cons.mpr ⟨c,qbF l⟩
theorem qlE: ∀l:List α,(dd l).length<=l.length
 | []=>Nat.le_refl _
 | y::l=>by
  have ih:=qlE l
  show (if y∈dd l then dd l else y::dd l).length<=_
  split
  ·exact Nat.le_succ_of_le ih
  ·exact Nat.succ_le_succ ih
theorem qec: ∀{D L:List α},D.Nodup->(∀x∈D,x∈L)->L.length=D.length->List.Perm L D
 | [],L,_,_,hl=>by rw[List.length_eq_zero_iff.mp hl]
 | d::D,L,hn,hm,hl=>by
  have hd:=hm d List.mem_cons_self
  have hn':=List.nodup_cons.mp hn
  refine (List.perm_cons_erase hd).trans (List.Perm.cons d (qec hn'.2 (λx hx=> ?_) ?_))
  ·have ne:x≠d:=λz=>by subst z; exact hn'.1 hx
   refine (List.mem_erase_of_ne ne).mpr (hm x (List.mem_cons_of_mem _ hx))
  ·rw[List.length_erase_of_mem hd,hl]; rfl
def dl (key:Nat->α):Nat->List α
 | 0=>[]
 | i+1=>if mem key i (key i)=true then dl key i else dl key i++[key i]
theorem qok (key:Nat->α): ∀i,(dl key i).length=cnt key i
 | 0=>rfl
 | i+1=>by
  have ih:=qok key i
  show (if mem key i (key i)=true then dl key i else dl key i++[key i]).length=if mem key i (key i)=true then cnt key i else cnt key i+1
  split
  ·exact ih
  ·rw[List.length_append,ih]; rfl
theorem qkL (key:Nat->α) (x:α): ∀i,x∈dl key i↔mem key i x=true
 | 0=>by simp[dl,mem]
 | i+1=>by
  have ih:=qkL key x i
  rw[qh9]
  show x∈(if mem key i (key i)=true then dl key i else dl key i++[key i])↔_
  by_cases c:mem key i (key i)=true
  ·rw[if_pos c,ih]
   simp only[Bool.or_eq_true,decide_eq_true_eq]
   refine ⟨.inl,λh=> ?_⟩
   rcases h with h | rfl
   ·exact h
   ·exact c
  ·rw[if_neg c,List.mem_append,ih]
   simp
theorem qh8 (key:Nat->α): ∀i,(dl key i).Nodup
 | 0=>List.nodup_nil
 | i+1=>by
  have ih:=qh8 key i
  show (if mem key i (key i)=true then dl key i else dl key i++[key i]).Nodup
  by_cases c:mem key i (key i)=true
  ·rw[if_pos c]; exact ih
  ·rw[if_neg c,List.nodup_append]
   refine ⟨ih,by simp,λa ha b hb=> ?_⟩
   rw[List.mem_singleton] at hb
   subst hb
   intro z
   subst z
   exact c ((qkL key _ i).mp ha)
theorem qia {l:List α} {d:α} {x:α}:mem (λi=>l.getD i d) l.length x=true↔x∈l:=by
 unfold mem
 rw[List.any_eq_true]
 constructor
 ·rintro ⟨j,hj,e⟩
  have hj':=List.mem_range.mp hj
  have e':=of_decide_eq_true e
  rw[e']
  show l.getD j d∈l
  rw[List.getD_eq_getElem?_getD,List.getElem?_eq_getElem hj']
  exact List.getElem_mem hj'
 ·intro h
  obtain ⟨j,hj,e⟩:=List.mem_iff_getElem.mp h
  refine ⟨j,List.mem_range.mpr hj,decide_eq_true ?_⟩
  show x=l.getD j d
  rw[List.getD_eq_getElem?_getD,List.getElem?_eq_getElem hj]
  exact e.symm
theorem quu {l:List α} {d:α}:List.Perm (dl (λi=>l.getD i d) l.length) (dd l):=
 (List.perm_ext_iff_of_nodup (qh8 _ _) (qbF _)).mpr λx=>by rw[qkL,qia,qdG]
theorem qor {l:List α} {d:α}:cnt (λi=>l.getD i d) l.length=(dd l).length:=by rw[<-qok,quu.length_eq]
end
end SetL
namespace SetL
open PySem PySem.W PySem.Calls PyProof.Rows SR
structure Kd (prog:Program) (w:World) (α:Type) [DecidableEq α] where
 knd:PySem.KeyKind prog w α
 up:α->L2.V
 d:α
 of:Value->α
 lt:α->α->Bool
 ord:Ord lt
 isv: ∀x u,L2.RelV (up x) u->knd.is x u=true/\u.scannable=true
 vis: ∀x u,knd.is x u=true->L2.RelV (up x) u
 ofv: ∀x u,L2.RelV (up x) u->of u=x
 kind: ∀v1 v2 vs,(∀v∈v1::v2::vs,∃x,L2.RelV (up x) v)->keyKind' (v1::v2::vs).toArray=pure oneType'
 lts: ∀{A:Around} {E:Value->Shared->Prop} {s:Shared} {Q:Bool->Shared->Prop} (x y:α) (u v:Value),L2.RelV (up x) u->L2.RelV (up y) v->Q (lt x y) s->wpAny (model prog w) A (keyLt' oneType' u v) Q E s
section
variable {prog:Program} {w:World} {A:Around} {E:Value->Shared->Prop} {s:Shared} {α:Type} [DecidableEq α] (k:Kd prog w α)
theorem qno {h:Heap} {a:Addr} {ss:List α} (S:qjB k.knd h a (mem (λi=>ss.getD i k.d) ss.length) (cnt (λi=>ss.getD i k.d) ss.length)):
  ∃o es ep t,h.get? a=some o/\o.ExactSet/\o.data= .set es ep t/\es.size<scanBound/\t.fits es.size=true/\qeT t/\t.led=(!w.params.followText "set-order")/\es.size=(dd ss).length/\
   (∀v∈es.toList.map (·.2),∃x,L2.RelV (k.up x) v)/\List.Perm ((es.toList.map (·.2)).map k.of) (dd ss):=by
 obtain ⟨o,es,ep,t,ho,hx,hd,hel,hme,hb,hf,hn,hp,hl⟩:=S
 have hv: ∀v∈es.toList.map (·.2),∃x,L2.RelV (k.up x) v:=λv hv=>by
  obtain ⟨e,he,rfl⟩:=List.mem_map.mp hv
  obtain ⟨⟨x,hk,_⟩,_⟩:=hel e he
  exact ⟨x,k.vis x _ hk⟩
 refine ⟨o,es,ep,t,ho,hx,hd,hb,hf,hp,hl,by rw[hn,qor],hv,?_⟩
 refine qec (qbF ss) (λx hx=> ?_) (by rw[List.length_map,List.length_map,Array.length_toList,hn,qor])
 have hx':=qdG.mp hx
 obtain ⟨e,he,ek⟩:=(hme x).mp (qia.mpr hx')
 exact List.mem_map.mpr ⟨e.2,List.mem_map.mpr ⟨e,he,rfl⟩,k.ofv x _ (k.vis x _ ek)⟩
theorem qiP {a:Addr} {ss:List α} {Q:Value->Shared->Prop} (hh:A.handled=none) (S:qjB k.knd s.heap a (mem (λi=>ss.getD i k.d) ss.length) (cnt (λi=>ss.getD i k.d) ss.length)) (h64:ss.length<64)
  (h: ∀h1 D h' d tk c vs,St.Kp s.heap h1->h1.objs.size<=D->St.Kp h1 h'->h'.get? D=some (seqObj "list" (List.toArray vs) c)->L2.Vals ((qbE k.lt (dd ss)).map k.up) vs->Q (.ref D) { s with heap:=h',drawn:=d,toks:=tk }):
  wpAny (model prog w) A (call (.builtin "sorted") [.ref a]) Q E s:=by
 obtain ⟨o,es,ep,t,ho,hx,hd,hb,hf,hp,hl,hn,hv,pm⟩:=qno k S
 refine Calls.call_function_entry kind_sorted plain_sorted entry_sorted (args_sorted1 _) ?_
 unfold Builtin.«sorted»
 refine wpAny_bind (m:=checkCount "sorted" 1 1 _) (wpAny_pure ?_)
 refine wpAny_bind (qhy (by exact hh) ho hx hd hf hb hp hl λvs H1 d1 tk1 pv kp1=> ?_)
 have le:vs.length=(dd ss).length:=by rw[pv.length_eq,List.length_map,Array.length_toList,hn]
 have l64:vs.length<64:=by have:=qlE ss; lia
 have hv': ∀v∈vs,∃x,L2.RelV (k.up x) v:=λv z=>hv v (pv.mem_iff.mp z)
 have pm':List.Perm (vs.map k.of) (dd ss):=(pv.map k.of).trans pm
 refine wpAny_bind (wpAny_newList ?_ (by rw[sizeLine_eq]; show vs.length<=_; lia))
 have kp2:St.Kp H1 (H1.push (seqObj "list" vs.toArray 0)):=λb o q=>Heap.get?_push_of_some _ q
 have hoD:(H1.push (seqObj "list" vs.toArray 0)).get? H1.objs.size=some (seqObj "list" vs.toArray 0):=Heap.get?_push_size _ rfl
 refine wpAny_bind (wpAny_holding (wpAny_call_entry slot_list_sort ⟨_,hoD,rfl⟩ entry_list_sort ?body (args_list_sort _)))
 case body=>
  have at_: ∀{m:Nat},m<vs.length->L2.RelV (k.up ((vs.map k.of).getD m k.d)) (vs.getD m Value.none)/\(vs.map k.of).getD m k.d∈vs.map k.of:=λ{m} hm=>by
   obtain ⟨x,e⟩:=hv' vs[m] (List.getElem_mem hm)
   have e1:(vs.map k.of).getD m k.d=x:=by
    rw[List.getD_eq_getElem?_getD,List.getElem?_map,List.getElem?_eq_getElem hm]
    exact k.ofv x _ e
   refine ⟨?_,?_⟩
   ·rw[e1,List.getD_eq_getElem?_getD,List.getElem?_eq_getElem hm]; exact e
   ·rw[e1]; exact List.mem_map.mpr ⟨_,List.getElem_mem hm,k.ofv x _ e⟩
  refine St.lsort_p (h0:=H1) (kz:=(vs.map k.of).map (qcf k.lt (vs.map k.of))) (κ:=oneType') (s:={ s with heap:=H1.push (seqObj "list" vs.toArray 0),drawn:=d1,toks:=tk1 }) hoD (by simp) l64 kp2 (St.get_none (Nat.le_refl _)) (λs' kk h2 Q' hq=> ?_) (λs' kk i j hi hj C hc=> ?_) λh' tk c p a1 a2 a3=>⟨_,rfl,?_⟩
  ·match vs,h2,hv' with
   | v1::v2::vs,_,hv'=>
    rw[k.kind v1 v2 vs hv']
    exact wpAny_pure hq
  ·have e1: ∀{m:Nat},m<vs.length->((vs.map k.of).map (qcf k.lt (vs.map k.of))).getD m 0=qcf k.lt (vs.map k.of) ((vs.map k.of).getD m k.d):=λ{m} hm=>by
    have hm':m<(vs.map k.of).length:=by rw[List.length_map]; exact hm
    rw[List.getD_eq_getElem?_getD,List.getD_eq_getElem?_getD,List.getElem?_map,List.getElem?_eq_getElem hm']
    rfl
   obtain ⟨f1,m1⟩:=at_ hi
   obtain ⟨f2,m2⟩:=at_ hj
   rw[e1 hi,e1 hj,qbG k.ord m1 m2] at hc
   exact k.lts _ _ _ _ f1 f2 hc
  ·refine wpAny_pure ⟨_,rfl,h _ _ h' d1 tk c _ kp1 (Nat.le_refl _) a1 a3 ?_⟩
   have ep:=qfY a2
   have e:qbE k.lt (dd ss)=p.toList.map λj=>(vs.map k.of).getD j k.d:=by
    rw[<-qbY k.ord pm',ep,SR.srt_congr (k':=λj=>qcf k.lt (vs.map k.of) ((vs.map k.of).getD j k.d)),qdr (k:=qcf k.lt (vs.map k.of)) (f:=λj=>(vs.map k.of).getD j k.d) (λb=>rfl),show vs.length=(vs.map k.of).length by simp,Mir.map_range_getD]
    ·rfl
    ·intro b hb'
     have hb2:b<(vs.map k.of).length:=by rw[List.length_map]; exact List.mem_range.mp hb'
     rw[List.getD_eq_getElem?_getD,List.getElem?_map,List.getElem?_eq_getElem hb2,List.getD_eq_getElem?_getD,List.getElem?_eq_getElem hb2]
     rfl
   rw[e,List.map_map]
   have go: ∀l:List Nat,(∀j∈l,j<vs.length)->L2.Vals (l.map (k.up∘λj=>(vs.map k.of).getD j k.d)) (l.map λi=>vs.getD i Value.none):=λl=>by
    induction l with
    | nil=>exact λ_=>.nil
    | cons j l ih=>
     intro hl
     exact .cons (at_ (hl j List.mem_cons_self)).1 (ih λi hi=>hl i (List.mem_cons_of_mem _ hi))
   exact go _ λj hj=>(Mir.order_mem a2 j).mp hj
end
def qsH:Value->Str
 | .str x _=>x
 | _=> ""
def qrD:Value->Int
 | .int x _=>x
 | _=>0
theorem quT:Ord λa b:Int=>decide (a<b) where
 irr:=λa=>decide_eq_false (Int.lt_irrefl a)
 tr:=λa b c h1 h2=>decide_eq_true (Int.lt_trans (of_decide_eq_true h1) (of_decide_eq_true h2))
 tot:=λa b h1 h2=>by
  have:=of_decide_eq_false h1
  have:=of_decide_eq_false h2
  lia
def qsI (prog:Program) (w:World):Kd prog w Str where
 knd:=PySem.strKind prog w
 up:=L2.V.str
 d:= ""
 of:=qsH
 lt:=RH.ltS
 ord:=RH.ordS
 isv:=λx u ⟨t,e⟩=>by subst e; exact ⟨by show Value.isStrOf x (Value.str x t)=true; simp[Value.isStrOf],rfl⟩
 vis:=λx u h=>Value.isStrOf_shape h
 ofv:=λx u ⟨t,e⟩=>by subst e; rfl
 kind:=λv1 v2 vs h=>keyKind_strs (strsAre_map _ λv hv=>by obtain ⟨x,t,e⟩:=h v hv; exact ⟨x,t,e⟩)
 lts:=λx y u v ⟨t,e⟩ ⟨t',e'⟩ h=>by subst e e'; exact PySem.W.kas_lt_str h
theorem qen: ∀(vs:List Value),(∀v∈vs,∃x t,v= .int x t)->IntsAre vs (vs.map qrD)
 | [],_=>.nil
 | v::vs,h=>by
  obtain ⟨x,t,rfl⟩:=h v List.mem_cons_self
  exact .cons _ _ (qen vs λu hu=>h u (List.mem_cons_of_mem _ hu))
def quf (prog:Program) (w:World):Kd prog w Int where
 knd:=PySem.intKind prog w
 up:=L2.V.int
 d:=0
 of:=qrD
 lt:=λa b=>decide (a<b)
 ord:=quT
 isv:=λx u ⟨t,e⟩=>by subst e; exact ⟨by show Value.isInt x (Value.int x t)=true; simp[Value.isInt],rfl⟩
 vis:=λx u h=>Value.isInt_shape h
 ofv:=λx u ⟨t,e⟩=>by subst e; rfl
 kind:=λv1 v2 vs h=>keyKind_ints (qen _ λv hv=>by obtain ⟨x,t,e⟩:=h v hv; exact ⟨x,t,e⟩)
 lts:=λx y u v ⟨t,e⟩ ⟨t',e'⟩ h=>by subst e e'; rw[keyLt'_oneType]; exact oneLt_int h
end SetL
end
section
namespace SetL
open PySem L2 SR
theorem boot_sorted:bootBuiltins "sorted" =some (.builtin "sorted"):=by decide+kernel
theorem qnQ:bootBuiltins "set" =some (.type "set"):=by decide+kernel
section
variable {X:Cx} {a:Expr} {t:TE} {p1 p2 p3 pos:Pos} {α:Type} [DecidableEq α] (k:Kd X.prog X.w α)
theorem qt9 {pins:List (Addr×Obj)} {σ:St} {H:Hp} {s:Shared} {h':Heap} {d:Drawn} {tk:Nat} (I:Inv X pins σ H s) (k: ∀b u,s.heap.get? b=some u->h'.get? b=some u):Inv X pins σ H { s with heap:=h',drawn:=d,toks:=tk }:=by
 have J:=I.kept (t':=tk) k
 exact ⟨J.ok,J.os,J.bare,J.base,J.loc,J.cell,J.free,J.freeC,J.pin,J.hok,J.len⟩
theorem qoC (ss:List α) {is:List Value} (r:Vals (ss.map k.up) is) (i:Nat) (v:Value) (h:is[i]? =some v):RelV (k.up (ss.getD i k.d)) v:=by
 have hl:=r.length
 rw[List.length_map] at hl
 obtain ⟨hi,_⟩:=List.getElem?_eq_some_iff.mp h
 have hi':i<ss.length:=by lia
 obtain ⟨u,e,ru⟩:=r.get (i:=i) (x:=k.up ss[i]) (by rw[List.getElem?_map,List.getElem?_eq_getElem hi']; rfl)
 rw[h] at e
 cases e
 rw[List.getD_eq_getElem?_getD,List.getElem?_eq_getElem hi']
 exact ru
theorem qmu {pins:List (Addr×Obj)} {σ:St} {H:Hp} {s:Shared} {Q:Addr->List α->Hp->Prop} (hc:X.calm=true) (gt:Gl X "set") (mt:X.mg "set" =none) (ha:PE X a t) (hmono: ∀σ H (Q Q':VK),(∀v H1,Q v H1->Q' v H1)->t σ H Q->t σ H Q')
  (he:starEach [a] X.env=(false,eval a X.env)::starEach [] X.env) (I:Inv X pins σ H s)
  (h:t σ H λv H1=> ∃l ss,v= .ref l/\SqL X.K H1 l (ss.map k.up)/\ss.length<64/\Q l ss H1):
  wpAny (model X.prog X.w) X.A (eval (.Call (.Name "set" p2) [a] [] p3) X.env) (λu s'=> ∃S l ss H1,u= .ref S/\Inv X pins σ H1 s'/\ss.length<64/\qjB k.knd s'.heap S (mem (λi=>ss.getD i k.d) ss.length) (cnt (λi=>ss.getD i k.d) ss.length)/\Q l ss H1) X.xe s:=by
 refine wpAny_Call_Name_kw (qdH I gt mt qnQ ?_)
 refine PyProof.Rows.callWith_type1 ?_ he rfl
 refine thn (qas ha qaL he p3 pins s σ H (λvs H1=> ∃l ss,vs=[.ref l]/\SqL X.K H1 l (ss.map k.up)/\ss.length<64/\Q l ss H1) I (hmono σ H _ _ (λv H1 ⟨l,ss,e,r⟩=>⟨l,ss,by rw[e],r⟩) h)) λus s1 hq32=> ?_
 obtain ⟨vs,H1,I1,r1,q1⟩:=hq32
 obtain ⟨l,ss,rfl,hS,h64,q⟩:=q1
 cases r1 with
 | cons r rr=>
  cases rr
  cases r
  obtain ⟨its,rv,pl,hz⟩:=I1.list hS
  have hl:=rv.length
  rw[List.length_map] at hl
  have hh:X.A.handled=none:=I1.ok.hd hc
  refine qrZ (knd:=k.knd) (key:=λi=>ss.getD i k.d) hh pl.isList (λi v hv=> ?_) ?_ λh' tk S' kp=> ?_
  ·exact k.isv _ _ (qoC k ss rv i v (by simpa using hv))
  ·rw[List.size_toArray]
   have:scanBound=2 ^ 24\/100<scanBound:=.inr (by decide)
   rcases this with z | z<;>lia
  ·refine ⟨_,l,ss,H1,rfl,I1.kept kp,h64,?_,q⟩
   have e:its.toArray.size=ss.length:=by rw[List.size_toArray]; lia
   rw[e] at S'
   exact S'
def tSS (k:Kd X.prog X.w α) (t:TE):TE:=λσ H Q=>t σ H λv H1=> ∃l ss,v= .ref l/\SqL X.K H1 l (ss.map k.up)/\ss.length<64/\∀D,H1 D=none->Q (.ref D) (upd H1 D (.lst ((qbE k.lt (dd ss)).map k.up)))
theorem qdb (hc:X.calm=true) (gs:Gl X "sorted") (ms:X.mg "sorted" =none) (gt:Gl X "set") (mt:X.mg "set" =none) (ha:PE X a t) (hmono: ∀σ H (Q Q':VK),(∀v H1,Q v H1->Q' v H1)->t σ H Q->t σ H Q') (he:starEach [a] X.env=(false,eval a X.env)::starEach [] X.env:=by rfl):
  PE X (.Call (.Name "sorted" p1) [.Call (.Name "set" p2) [a] [] p3] [] pos) (tSS k t):=by
 intro pins s σ H Q I h
 refine wpAny_Call_Name_kw (qdH I gs ms boot_sorted ?_)
 refine PyProof.Rows.callWith_builtin1 (Calls.spliced_cons (thn (qmu k (Q:=λl ss H1=> ∀D,H1 D=none->Q (.ref D) (upd H1 D (.lst ((qbE k.lt (dd ss)).map k.up)))) hc gt mt ha hmono he I h) λu s1 ⟨S,l,ss,H1,eu,I1,h64,hS,q⟩=> ?_)) rfl rfl
 subst eu
 refine Calls.spliced_nil ?_
 have hh:X.A.handled=none:=I1.ok.hd hc
 refine qiP k (ss:=ss) hh hS h64 λh1 D h' d tk c vs k1 hD k2 hg rv=> ?_
 have I2:=qt9 (d:=d) (tk:=tk) I1 k1
 have fD:H1 D=none:=I2.hok.fresh hD
 have I3:Inv X pins σ (upd H1 D (.lst ((qbE k.lt (dd ss)).map k.up))) { s1 with heap:=h',drawn:=d,toks:=tk }:=by
  refine I2.laid (h':=h') (t':=tk) k2 hD ⟨?_,_,c,rv,hg⟩
  rw[List.length_map,sizeLine_eq]
  have:=(qb4 (k:=qcf k.lt (dd ss)) (dd ss)).length_eq
  have e:(qbE k.lt (dd ss)).length=(dd ss).length:=this
  have:=qlE ss
  lia
 exact ⟨.ref D,_,I3,rfl,q D fD⟩
end
end SetL
end
section
namespace PL
open PySem L2 SR SetL
inductive Ky where
 | i (n:Int) | s (x:Str)
 deriving DecidableEq
def qm2:Ky->Ky->Bool
 | .i a,.i b=>decide (a<b)
 | .i _,.s _=>true
 | .s _,.i _=>false
 | .s a,.s b=>RH.ltS a b
theorem qpf:Ord qm2 where
 irr:=λa=>by
  cases a with
  | i n=>exact decide_eq_false (Int.lt_irrefl n)
  | s x=>exact RH.ordS.irr x
 tr:=λa b c h1 h2=>match a,b,c,h1,h2 with
  | .i _,.i _,.i _,h1,h2=>decide_eq_true (Int.lt_trans (of_decide_eq_true h1) (of_decide_eq_true h2))
  | .i _,.i _,.s _,_,_=>rfl
  | .i _,.s _,.i _,_,h2=>nomatch h2
  | .i _,.s _,.s _,_,_=>rfl
  | .s _,.i _,_,h1,_=>nomatch h1
  | .s _,.s _,.i _,_,h2=>nomatch h2
  | .s _,.s _,.s _,h1,h2=>RH.ordS.tr _ _ _ h1 h2
 tot:=λa b h1 h2=>match a,b,h1,h2 with
  | .i x,.i y,h1,h2=>by
   have e1: ¬x<y:=of_decide_eq_false h1
   have e2: ¬y<x:=of_decide_eq_false h2
   congr 1; lia
  | .i _,.s _,h1,_=>nomatch h1
  | .s _,.i _,_,h2=>nomatch h2
  | .s x,.s y,h1,h2=>congrArg Ky.s (RH.ordS.tot x y h1 h2)
def qdL:List Ky->List Ky->Bool
 | [],[]=>false
 | [],_::_=>true
 | _::_,[]=>false
 | a::as,b::bs=>if a=b then qdL as bs else qm2 a b
theorem qid: ∀a,qdL a a=false
 | []=>rfl
 | a::as=>by
  show (if a=a then qdL as as else qm2 a a)=false
  rw[if_pos rfl]; exact qid as
theorem qkO: ∀a b c,qdL a b=true->qdL b c=true->qdL a c=true
 | [],[],_,h,_=>by cases h
 | [],_::_,[],_,h=>by cases h
 | [],_::_,_::_,_,_=>rfl
 | _::_,[],_,h,_=>by cases h
 | _::_,_::_,[],_,h=>by cases h
 | a::as,b::bs,c::cs,h1,h2=>by
  have h1':(if a=b then qdL as bs else qm2 a b)=true:=h1
  have h2':(if b=c then qdL bs cs else qm2 b c)=true:=h2
  show (if a=c then qdL as cs else qm2 a c)=true
  by_cases e1:a=b
  ·subst e1
   rw[if_pos rfl] at h1'
   by_cases e2:a=c
   ·rw[if_pos e2] at h2'⊢; exact qkO as bs cs h1' h2'
   ·rw[if_neg e2] at h2'⊢; exact h2'
  ·rw[if_neg e1] at h1'
   by_cases e2:b=c
   ·subst e2
    rw[if_neg e1]; exact h1'
   ·rw[if_neg e2] at h2'
    have t:=qpf.tr _ _ _ h1' h2'
    by_cases e3:a=c
    ·subst e3; rw[qpf.irr] at t; cases t
    ·rw[if_neg e3]; exact t
theorem qic: ∀a b,qdL a b=false->qdL b a=false->a=b
 | [],[],_,_=>rfl
 | [],_::_,h,_=>by cases h
 | _::_,[],_,h=>by cases h
 | a::as,b::bs,h1,h2=>by
  have h1':(if a=b then qdL as bs else qm2 a b)=false:=h1
  have h2':(if b=a then qdL bs as else qm2 b a)=false:=h2
  by_cases e:a=b
  ·subst e
   rw[if_pos rfl] at h1' h2'
   rw[qic as bs h1' h2']
  ·rw[if_neg e] at h1'
   rw[if_neg (Ne.symm e)] at h2'
   exact absurd (qpf.tot _ _ h1' h2') e
theorem qmZ:Ord qdL:=⟨qid,qkO,qic⟩
def kyT:T->Ky
 | .int i=>.i i
 | .str x=>.s x
 | _=>.i 0
def qih:T->List Ky
 | .int i=>[.i i]
 | .str x=>[.s x]
 | .tup ts=>ts.map kyT
 | _=>[]
def qjS {α:Type} (f:α->List Ky) (ts:List α):List α:=srt (λt=>qcf qdL (ts.map f) (f t)) ts
def qiQ (ts:List T):List T:=qjS qih ts
section
variable {prog:Program} {w:World} {A:Around} {s:Shared}
open PySem.W PyProof.Rows
def kyV:Ky->V
 | .i n=>.int n
 | .s x=>.str x
def shK:Ky->Nat
 | .i _=>0
 | .s _=>1
theorem qt4 {C:Bool->Shared->Prop}: ∀(as bs:List Ky) (us vs:List Value) (i:Nat),Vals (as.map kyV) us->Vals (bs.map kyV) vs->as.map shK=bs.map shK->C (qdL as bs) s->KatLex prog w A true false C (us.zip vs) i s
 | [],[],_,_,i,.nil,.nil,_,h=>kat_nil h
 | [],_::_,_,_,_,_,_,hs,_=>by cases hs
 | _::_,[],_,_,_,_,_,hs,_=>by cases hs
 | a::as,b::bs,_,_,i,.cons (l₂:=us) ra rs,.cons (l₂:=vs) rb rt,hs,h=>by
  have hs1:shK a=shK b:=(List.cons.inj hs).1
  have hs2:as.map shK=bs.map shK:=(List.cons.inj hs).2
  have h':C (if a=b then qdL as bs else qm2 a b) s:=h
  have go: ∀{p q:Value} {rr:List (Value×Value)} {e:Bool},MeetsSeq.EqGives p q e->(e=true->KatLex prog w A true false C rr (i+1) s)->(e=false->wpAny (model prog w) A (oneLt' (true&&i==0) p q) C (λ_ _=>False) s)->KatLex prog w A true false C ((p,q)::rr) i s:=λ{p q rr e} he h1 h2=>by
   refine kat_cons (he prog w A _ s _ ?_)
   cases e with
   | true=>exact kat_yes (h1 rfl)
   | false=>exact kat_no (h2 rfl)
  cases a with
  | i x=>
   cases b with
   | i y=>
    obtain ⟨t1,rfl⟩:=ra
    obtain ⟨t2,rfl⟩:=rb
    refine go (MeetsSeq.EqGives.int _ _ _ _) (λe=> ?_) (λe=> ?_)
    ·have e':=eq_of_beq e
     rw[if_pos (by rw[e'])] at h'
     exact qt4 as bs us vs (i+1) rs rt hs2 h'
    ·have e': ¬Ky.i x=Ky.i y:=λz=>by cases z; rw[beq_self_eq_true] at e; cases e
     rw[if_neg e'] at h'
     cases z:(i==0) with
     | true=>exact oneLt_int h'
     | false=>exact kat_one _ _ (lt_int (show PySem.W.BoolBack C (.bool _) s from h'))
   | s y=>cases hs1
  | s x=>
   cases b with
   | i y=>cases hs1
   | s y=>
    obtain ⟨t1,rfl⟩:=ra
    obtain ⟨t2,rfl⟩:=rb
    have es:MeetsSeq.EqGives (.str x t1) (.str y t2) (decide (x=y)):=λ_ _ _ _ _ _ hq=>wpAny_eqBool_str hq
    refine go es (λe=> ?_) (λe=> ?_)
    ·have e':=of_decide_eq_true e
     rw[if_pos (by rw[e'])] at h'
     exact qt4 as bs us vs (i+1) rs rt hs2 h'
    ·have e': ¬Ky.s x=Ky.s y:=λz=>by cases z; simp at e
     rw[if_neg e'] at h'
     cases z:(i==0) with
     | true=>exact oneLt_str h'
     | false=>exact kat_one _ _ (PySem.P.lt_str (show PySem.W.BoolBack C (.bool _) s from h'))
end
end PL
end
section
namespace PL
open PySem L2 SR SetL
theorem qe1 {h:Heap} {P:Value->Prop}: ∀(l:List Value),(∀v∈l,∃f,(∃a o xs n,v= .ref a/\h.get? a=some o/\o.cls= .type "tuple" /\o.data= .seq xs n/\xs[0]? =some f)/\P f)->∃fs,PySem.W.KatTups h l fs/\fs.length=l.length/\∀f∈fs,P f
 | [],_=>⟨[],trivial,rfl,λ_ hf=>nomatch hf⟩
 | v::l,hl=>by
  obtain ⟨f,h1,h2⟩:=hl v List.mem_cons_self
  obtain ⟨fs,h3,h4,h5⟩:=qe1 l λu hu=>hl u (List.mem_cons_of_mem _ hu)
  refine ⟨f::fs,⟨h1,h3⟩,by simp[h4],λg hg=> ?_⟩
  rcases List.mem_cons.mp hg with rfl | hg
  ·exact h2
  ·exact h5 g hg
end PL
end
section
namespace PL
open PySem L2 SR SetL
section
variable {M:Md} {X:Cx} {e a b:Expr} {pos p1 p2 p3:Pos} {da db:Ro->Rs T} {dq:Ro->Rs (Bool×List T)}
theorem tQ.mono {σ:St} {H:Hp} {Q Q':VK} (f: ∀v H1,Q v H1->Q' v H1) (h:tQ M dq σ H Q):tQ M dq σ H Q':=by
 obtain ⟨H0,B0,ρ,B,ev,w⟩:=h
 exact tQ.of ev (Wnt.mono (qdl.mp w) λq k p vs H' B' g m hq r=>f _ _ (k p vs H' B' g m hq r))
def qeW:T->Str
 | .str x=>x
 | _=> ""
def qk2:T->Bool
 | .str _=>true
 | _=>false
theorem qfS {K:PySem.W.Frag} {B:Hp}: ∀{ts:List T} {vs:List V},ts.all qk2=true->qaP K B ts vs->vs=(ts.map qeW).map V.str
 | [],_,_,r=>r.inv0
 | t::ts,_,h,r=>by
  obtain ⟨v,rr,rfl,a,b⟩:=r.inv
  rw[List.all_cons,Bool.and_eq_true] at h
  cases t with
  | str x=>rw[qaN a,qfS h.2 b]; rfl
  | _=>exact absurd h.1 Bool.false_ne_true
theorem qdC {K:PySem.W.Frag} {B:Hp}: ∀(ss:List Str),qaP K B (ss.map T.str) (ss.map V.str)
 | []=>.nil
 | s::ss=>.cons qf1 (qdC ss)
def qc1 (ss:List Str):List Str:=qbE RH.ltS (dd ss)
def qf7 (q:Bool×List T):Rs (List T):=if (q.1=true/\q.2.length<64)/\q.2.all qk2=true then .ok ((qc1 (q.2.map qeW)).map T.str) else .no
theorem qpQ (hc:X.calm=true) (gs:Gl X "sorted") (ms:X.mg "sorted" =none) (gt:Gl X "set") (mt:X.mg "set" =none) (ha:DQ M X a dq) (he:starEach [a] X.env=(false,eval a X.env)::starEach [] X.env:=by rfl):
  DF M X (.Call (.Name "sorted" p1) [.Call (.Name "set" p2) [a] [] p3] [] pos) (qjn qf7 dq):=by
 refine PE.weak (qdb (qsI X.prog X.w) hc gs ms gt mt ha (λσ H Q Q' f h=>tQ.mono f h) he) λσ H Q hq35=> ?_
 obtain ⟨H0,B0,ρ,B,ev,w⟩:=hq35
 refine tQ.of ev (Wnt.mono (Wnt.bind (qbx.mp w)) λq w1 p vs H1 B1 g1 m1 hq r1=> ?_)
 have ev1:=ev.grow g1 m1
 unfold qf7 at w1
 split at w1
 ·rename_i hcc
  rw[if_pos hcc.1.1] at hq
  refine ⟨p,q.2.map qeW,rfl,SqL.of (by rw[qfS hcc.2 r1] at hq; exact hq),by rw[List.length_map]; exact hcc.1.2,λD hD=> ?_⟩
  obtain ⟨g,m',bp⟩:=qb6 (M:=M) (ws:=(qc1 (q.2.map qeW)).map V.str) ev1.bh ev1.bt m1 hD
  exact w1 D _ _ B1 (g1.trans g) m' (qbA g1.gx hD) bp qal (qdC _)
 ·exact w1.elim
def qf9:T->Bool
 | .int _=>true
 | _=>false
def qbS:T->Int
 | .int b=>b
 | _=>0
theorem qd9 {K:PySem.W.Frag} {B:Hp}: ∀{ts:List T} {vs:List V},ts.all qf9=true->qaP K B ts vs->vs=(ts.map qbS).map V.int
 | [],_,_,r=>r.inv0
 | t::ts,_,h,r=>by
  obtain ⟨v,rr,rfl,a,b⟩:=r.inv
  rw[List.all_cons,Bool.and_eq_true] at h
  cases t with
  | int x=>rw[qaw a,qd9 h.2 b]; rfl
  | _=>exact absurd h.1 Bool.false_ne_true
theorem qdD {K:PySem.W.Frag} {B:Hp}: ∀(ss:List Int),qaP K B (ss.map T.int) (ss.map V.int)
 | []=>.nil
 | s::ss=>.cons qaX (qdD ss)
def qcF (ss:List Int):List Int:=qbE (λa b=>decide (a<b)) (dd ss)
def qdI (q:Bool×List T):Rs (List T):=if (q.1=true/\q.2.length<64)/\q.2.all qf9=true then .ok ((qcF (q.2.map qbS)).map T.int) else .no
theorem qnB (hc:X.calm=true) (gs:Gl X "sorted") (ms:X.mg "sorted" =none) (gt:Gl X "set") (mt:X.mg "set" =none) (ha:DQ M X a dq) (he:starEach [a] X.env=(false,eval a X.env)::starEach [] X.env:=by rfl):
  DF M X (.Call (.Name "sorted" p1) [.Call (.Name "set" p2) [a] [] p3] [] pos) (qjn qdI dq):=by
 refine PE.weak (qdb (quf X.prog X.w) hc gs ms gt mt ha (λσ H Q Q' f h=>tQ.mono f h) he) λσ H Q hq68=> ?_
 obtain ⟨H0,B0,ρ,B,ev,w⟩:=hq68
 refine tQ.of ev (Wnt.mono (Wnt.bind (qbx.mp w)) λq w1 p vs H1 B1 g1 m1 hq r1=> ?_)
 have ev1:=ev.grow g1 m1
 unfold qdI at w1
 split at w1
 ·rename_i hcc
  rw[if_pos hcc.1.1] at hq
  refine ⟨p,q.2.map qbS,rfl,SqL.of (by rw[qd9 hcc.2 r1] at hq; exact hq),by rw[List.length_map]; exact hcc.1.2,λD hD=> ?_⟩
  obtain ⟨g,m',bp⟩:=qb6 (M:=M) (ws:=(qcF (q.2.map qbS)).map V.int) ev1.bh ev1.bt m1 hD
  exact w1 D _ _ B1 (g1.trans g) m' (qbA g1.gx hD) bp qal (qdD _)
 ·exact w1.elim
def qnd:T->Bool
 | .bl _=>true
 | _=>false
def ql1:T->Bool
 | .bl b=>b
 | _=>false
theorem qhT {K:PySem.W.Frag} {B:Hp}: ∀{ts:List T} {vs:List V},ts.all qnd=true->qaP K B ts vs->vs=(ts.map ql1).map V.bl
 | [],_,_,r=>r.inv0
 | t::ts,_,h,r=>by
  obtain ⟨v,rr,rfl,a,b⟩:=r.inv
  rw[List.all_cons,Bool.and_eq_true] at h
  cases t with
  | bl x=>rw[qa7 a,qhT h.2 b]; rfl
  | _=>exact absurd h.1 Bool.false_ne_true
def ql6 (q:Bool×List T):Rs T:=if q.1=true/\q.2.all qnd=true then .ok (.bl (q.2.all ql1)) else .no
theorem qiB (h:PE X e (tCB (λxs H Q=> ∃(a:Addr) (bs:List Bool),xs=[.ref a]/\SqL X.K H a (bs.map V.bl)/\Q (.bl (bs.all id)) H) (qcV (tQ M dq) qjG))):DE M X e (dCQ ql6 dq):=
 qlC h (λH B p vs q c Q le bt m hq r ec k=>by
  unfold ql6 at ec
  split at ec
  ·rename_i hcc
   cases ec
   unfold qhC at hq
   rw[if_pos hcc.1] at hq
   refine ⟨p,q.2.map ql1,rfl,SqL.of (by rw[<-qhT hcc.2 r]; exact hq),?_⟩
   rw[List.all_map]
   exact k _ H B (.refl le bt) m qb5
  ·cases ec) (λq c z=>by unfold ql6 at z; split at z<;>cases z)
def qsh:T->T->Rs T
 | .int i,.int j=>.ok (.int (if j<i then j else i))
 | _,_=>.no
def dB2 (g:T->T->Rs T) (da db:Ro->Rs T):Ro->Rs T:=λρ=>da ρ>>=λx=>db ρ>>=λy=>g x y
theorem qrW (h:PE X e (tCB (λxs H Q=> ∃i j,xs=[.int i,.int j]/\Q (.int (if j<i then j else i)) H) (qcV (tP M da) (qcV (tP M db) qjG)))):DE M X e (dB2 qsh da db):=by
 refine PE.weak h λσ H Q hq128=> ?_
 obtain ⟨H0,B0,ρ,B,ev,w⟩:=hq128
 refine tP.of ev (Wnt.mono (Wnt.bind (qay.mp w)) λx w1 v H1 B1 g1 m1 r1=> ?_)
 have ev1:=ev.grow g1 m1
 refine tP.of ev1 (Wnt.mono (Wnt.bind w1) λy w2 v2 H2 B2 g2 m2 r2=> ?_)
 cases x with
 | int i=>
  cases y with
  | int j=>
   rw[qaw r1,qaw r2]
   exact ⟨i,j,rfl,w2 _ H2 B2 (g1.trans g2) m2 qaX⟩
  | _=>exact w2.elim
 | _=>exact w2.elim
def tyT:T->String
 | .non=> "NoneType" | .bl _=> "bool" | .int _=> "int" | .str _=> "str" | .tup _=> "tuple" | .lst _=> "list" | _=> ""
def qil (N:String) (t:T):Bool:=tyT t==N||(N== "int" &&tyT t== "bool")
def qhh (N:String):T->Rs T
 | .dct _=>.no
 | .dtu _=>.no
 | .dcf _=>.no
 | .fn _=>.no
 | .scr _=>.no
 | t=>.ok (.bl (qil N t))
def qhB (K:PySem.W.Frag) (N:String):Prop:= ∀m∈["NoneType", "bool", "int", "str", "tuple", "list"],PySem.W.kitOne K (.type m) (.type N)=some (m==N||(N== "int" &&m== "bool"))
theorem qa9 {N:String} (hk:qhB X.K N):qcH X (.builtin "isinstance") (λxs H Q=> ∃B x t c,xs=[x,.ty N]/\Le B H/\Rep X.K B t x/\qhh N t= .ok c/\∀v,Rep X.K B c v->Q v H):=by
 intro pins s σ H xs us Q I r h
 obtain ⟨B,x,t,c,rfl,le,rx,ec,q⟩:=h
 obtain ⟨u,w',rfl,ru,rw'⟩:=qmg r
 cases rw'
 have fin: ∀{m:String},tyT t=m->m∈["NoneType", "bool", "int", "str", "tuple", "list"]->qjz X.K H x (.type m)->qhh N t= .ok (.bl (qil N t))->wpAny (model X.prog X.w) X.A (call (.builtin "isinstance") [u,.type N]) (EP X pins σ Q) X.xe s:=λ{m} e1 e2 ty e3=>by
  rw[e3] at ec
  cases ec
  refine qk1 I ru ty (hk m e2) λtk=>⟨.bl _,H,I.tok tk,rfl,q _ ?_⟩
  have:(m==N||(N== "int" &&m== "bool"))=qil N t:=by unfold qil; rw[e1]
  rw[this]
  exact qb5
 cases t with
 | non=>cases qbh rx; exact fin (m:= "NoneType") rfl (by simp) .non rfl
 | bl y=>cases qa7 rx; exact fin (m:= "bool") rfl (by simp) (.bl y) rfl
 | int y=>cases qaw rx; exact fin (m:= "int") rfl (by simp) (.int y) rfl
 | str y=>cases qaN rx; exact fin (m:= "str") rfl (by simp) (.str y) rfl
 | lst ts=>
  obtain ⟨p,vs,rfl,hp,_⟩:=qbl rx
  exact fin (m:= "list") rfl (by simp) (.lst (le _ _ hp)) rfl
 | tup ts=>
  obtain ⟨p,vs,rfl,hp,_⟩:=qbk rx
  cases ru
  cases ec
  obtain ⟨its,rv,⟨o,h1,h2,_⟩,_⟩:=I.tuple (le.sqT hp)
  refine PySem.W.kia_one PySem.W.kitx_tuple I.kIn ⟨o,h1,h2⟩ (hk "tuple" (by simp)) (λz=>nomatch z) λtk=>⟨.bl _,H,I.tok tk,rfl,q _ ?_⟩
  exact qb5
 | dct _=>cases ec
 | dtu _=>cases ec
 | dcf _=>cases ec
 | fn _=>cases ec
 | scr _=>cases ec
def qex (N:String) (da:Ro->Rs T):Ro->Rs T:=λρ=>da ρ>>=qhh N
theorem qc4 {N:String} (h:PE X e (tCB (λxs H Q=> ∃B x t c,xs=[x,.ty N]/\Le B H/\Rep X.K B t x/\qhh N t= .ok c/\∀v,Rep X.K B c v->Q v H) (qcV (tP M da) (qcV (tC (.ty N)) qjG)))) (hK:X.K=M.K:=by rfl):DE M X e (qex N da):=by
 refine PE.weak h λσ H Q hq180=> ?_
 obtain ⟨H0,B0,ρ,B,ev,w⟩:=hq180
 refine tP.of ev (Wnt.mono (Wnt.bind (qay.mp w)) λx w1 v H1 B1 g1 m1 r1=> ?_)
 have ev1:=ev.grow g1 m1
 cases z:qhh N x with
 | no=>rw[z] at w1; exact w1.elim
 | ex c=>exfalso; cases x<;>cases z
 | ok c=>
  rw[z] at w1
  exact ⟨B1,v,x,c,rfl,ev1.bh,by rw[hK]; exact r1,z,λv' rv'=>w1 v' H1 B1 g1 m1 (by rw[<-hK]; exact rv')⟩
end
end PL
end
section
namespace PL
open PySem L2 SR SetL
end PL
end
section
namespace PL
open PySem L2 SR SetL
def Kn (P:Program) (w:World) (K:PySem.W.Frag) (mg:Str->Option Value) (base:Heap) (G:Gam) (C:Str->Addr) (x:Str) (ps:List Str) (k:Nat) (fT:List T->Rs T):Prop:=
 ∃f fd,qbf P w K mg base CX0 k f fd ps (spP K G C fT)/\mg x=some (.ref f)/\PySem.W.keepIn K (.ref f)=true/\qdB K fd ps []
section
variable {M:Md} {X:Cx} {e a b:Expr} {es:List Expr} {pos p p1 p2 p3:Pos} {da db:Ro->Rs T} {ds:Ro->Rs (List T)} {dq:Ro->Rs (Bool×List T)} {x:Str} {k:Nat} {ps:List Str} {fT:List T->Rs T}
theorem qao (F:Kn X.prog X.w X.K X.mg X.base M.G M.C x ps k fT) (hK:X.K=M.K) (hr:qcE k X.A) (hg:Gl X x) (ha:DA M X (e::es) ds) (hdb:(x==("__debug__" :Str))=false:=by decide)
  (he:starEach (e::es) X.env=(false,eval e X.env)::starEach es X.env:=by rfl) (hpl:(backTo pos (starEach es X.env)).any (·.1)=false:=by rfl):DE M X (.Call (.Name x p) (e::es) [] pos) (qau fT ds):=by
 obtain ⟨f,fd,G,m,kk,bb⟩:=F
 rw[hK] at G
 exact qpU (by rw[hK]; exact G) hr hg m kk bb qi2 ha hdb he hpl
def qv3 (i j:Nat) (da db:Ro->Rs T):Ro->Rs Out:=λρ=>da ρ>>=λt=>db ρ>>=λu=>.ok (.nx ((ρ.set i (.fz t)).set j (.fz u)))
def quA (i j:Nat) (da:Ro->Rs T) (ds:Ro->Rs (List T)):Ro->Rs Out:=λρ=>da ρ>>=λt=>ds ρ>>=λu=>.ok (.nx ((ρ.set i (.fz t)).set j (.ow u)))
def quz (dg:T->Ro->Rs Ro) (da:Ro->Rs T):Ro->Rs Out:=λρ=>da ρ>>=λt=>dg t ρ>>=λρ'=>.ok (.nx ρ')
def qqk:T->Rs T
 | .str z=>if z.length<=1000 then .ok (.int z.length) else .no
 | .tup ts=>.ok (.int ts.length)
 | .lst ts=>.ok (.int ts.length)
 | _=>.no
def qeE (da:Ro->Rs T):Ro->Rs T:=λρ=>da ρ>>=qqk
theorem qbO (hg:Gl X "len") (hm:X.mg "len" =none) (h:DE M X a da) (hK:X.K=M.K:=by rfl) (he:starEach [a] X.env=(false,eval a X.env)::starEach [] X.env:=by rfl):DE M X (.Call (.Name "len" p) [a] [] pos) (qeE da):=by
 have hc:qcH X (.builtin "len") (λxs H Q=>(∃p ys,xs=[.ref p]/\(SqL X.K H p ys\/SqT X.K H p ys)/\Q (.int ys.length) H)\/∃z,xs=[.str z]/\z.length<=sizeLine/\Q (.int z.length) H):=λpins s σ H xs us Q I r h=>h.elim (qgy pins s σ H xs us Q I r) (qgx pins s σ H xs us Q I r)
 refine PE.weak (qaO hc hg hm PySem.boot_len (qas h qaL he) (by decide) (by decide) he rfl) λσ H Q hq51=> ?_
 obtain ⟨H0,B0,ρ,B,ev,w⟩:=hq51
 refine tP.of ev (Wnt.mono (Wnt.bind (qay.mp w)) λt w1 v H1 B1 g1 m1 r1=> ?_)
 have ev1:=ev.grow g1 m1
 cases t with
 | str z=>
  rw[qaN r1]
  unfold qqk at w1
  dsimp only at w1
  split at w1
  ·rename_i hz
   exact .inr ⟨z,rfl,Nat.le_trans hz (by decide),w1 _ H1 B1 g1 m1 qaX⟩
  ·exact w1.elim
 | tup ts=>
  obtain ⟨q,vs,rfl,sq,rs⟩:=qbk r1
  exact .inl ⟨q,vs,rfl,.inr (by rw[hK]; exact ev1.bh.sqT sq),by rw[rs.length]; exact w1 _ H1 B1 g1 m1 qaX⟩
 | lst ts=>
  obtain ⟨q,vs,rfl,sq,rs⟩:=qbl r1
  exact .inl ⟨q,vs,rfl,.inl (SqL.of (ev1.bh _ _ sq)),by rw[rs.length]; exact w1 _ H1 B1 g1 m1 qaX⟩
 | _=>exact w1.elim
end
end PL
end
section
namespace PL
open PySem L2 SR SetL
def names:List Str:=["len", "isinstance", "all", "min", "sorted", "set", "tuple", "list", "int", "bool", "str", "range", "zip", "sum", "any", "max"]
theorem hu8 {k:Nat} {A:Around} (r:qcE k A):A.units+8<cLine:=by have:=r.units; lia
def qdA (da:Ro->Rs T):Ro->Rs T:=λρ=>da ρ>>=quX
theorem qdZ:bootBuiltins "all" =some (.builtin "all"):=by decide+kernel
theorem qnR:bootBuiltins "min" =some (.builtin "min"):=by decide+kernel
theorem qcD:bootBuiltins "tuple" =some (.type "tuple"):=by decide+kernel
theorem qgB:bootBuiltins "list" =some (.type "list"):=by decide+kernel
section
variable {M:Md} {X:Cx} {a:Expr} {pos:Pos} {da:Ro->Rs T}
theorem qgn (h:DE M X a da):DE M X (.UnaryOp .USub a pos) (qdA da):=by
 refine PE.weak (qts qqu h) λσ H Q hq15=> ?_
 obtain ⟨H0,B0,ρ,B,ev,w⟩:=hq15
 refine tP.of ev (Wnt.mono (Wnt.bind (qay.mp w)) λt w1 v H1 B1 g1 m1 r1=> ?_)
 cases t with
 | int i=>rw[qaw r1]; exact ⟨i,rfl,w1 _ H1 B1 g1 m1 qaX⟩
 | _=>exact w1.elim
end
end PL
namespace PL
open PySem L2 SR SetL
end PL
end
section
namespace PL
open PySem L2 SR SetL
theorem qhb (ts:List T):qc2 (.lst ts)= .ok ts:=rfl
theorem qha (ts:List T):qc2 (.tup ts)= .ok ts:=rfl
theorem qjY (ts:List T):qfh (.lst ts)= .ok (true,ts):=rfl
theorem qjX (ts:List T):qfh (.tup ts)= .ok (false,ts):=rfl
theorem qcP (i j:Int):qa0 (.int i) (.int j)= .ok (.int (i+j)):=rfl
theorem qod (i:Int):quX (.int i)= .ok (.int (-i)):=rfl
theorem qlf (i j:Int):gSub (.int i) (.int j)= .ok (.int (i - j)):=rfl
theorem qeo (i j:Int):qdM (.int i) (.int j)=if (-1000000<=i/\i<=1000000)\/(-1000000<=j/\j<=1000000) then .ok (.int (i*j)) else .no:=rfl
theorem qlh (i j:Int):qfH (.int i) (.int j)=if 0<j/\j<1073741824 then .ok (.int (i / j)) else .no:=rfl
theorem qgc (i j:Int):qmd (.int i) (.int j)=if 0<j then .ok (.int (i % j)) else .no:=rfl
theorem qul (i j:Int):gLt (.int i) (.int j)= .ok (.bl (decide (i<j))):=rfl
theorem qpG (i j:Int):gLe (.int i) (.int j)= .ok (.bl (decide (i<=j))):=rfl
theorem qni (i j:Int):gGt (.int i) (.int j)= .ok (.bl (decide (j<i))):=rfl
theorem qun (i j:Int):gGe (.int i) (.int j)= .ok (.bl (decide (j<=i))):=rfl
theorem qum (i j:Bool):gIs (.bl i) (.bl j)= .ok (.bl (i==j)):=rfl
theorem qnh (i j:Bool):qdi (.bl i) (.bl j)= .ok (.bl (i != j)):=rfl
theorem qoe (i j:Int):qsh (.int i) (.int j)= .ok (.int (if j<i then j else i)):=rfl
theorem qlg (i j:Int):gEq (.int i) (.int j)= .ok (.bl (i==j)):=rfl
theorem quj (i j:Int):gNe (.int i) (.int j)= .ok (.bl (!(i==j))):=rfl
theorem quo (i j:Str):gEq (.str i) (.str j)= .ok (.bl (i==j)):=rfl
theorem qof (z:Str):qqk (.str z)=if z.length<=1000 then .ok (.int z.length) else .no:=rfl
theorem qrH (ts:List T):qqk (.tup ts)= .ok (.int ts.length):=rfl
theorem qrI (ts:List T):qqk (.lst ts)= .ok (.int ts.length):=rfl
section
variable {α:Type} {dg:T->Ro->Rs Ro} {dt:Ro->Rs Bool} {de:Ro->Rs T} {di:Ro->Rs (List T)} {f h:α->T} {p:α->Bool} {ρ:Ro}
theorem qdX (I:Ro->Prop): ∀(xs:List α) (ρ:Ro),(∀x∈xs,∀ρ,I ρ->∃ρ',dg (f x) ρ= .ok ρ'/\I ρ'/\dt ρ'= .ok (p x)/\(p x=true->de ρ'= .ok (h x)))->I ρ->qjo dg dt de (xs.map f) ρ= .ok ((xs.filter p).map h)
 | [],_,_,_=>rfl
 | x::xs,ρ,st,hI=>by
  obtain ⟨ρ',e1,i1,e2,e3⟩:=st x List.mem_cons_self ρ hI
  have ih:=qdX I xs ρ' (λy hy=>st y (List.mem_cons_of_mem _ hy)) i1
  rw[List.map_cons,qjo]
  rw[e1,qag,e2,qag,List.filter_cons]
  by_cases c:p x=true
  ·rw[if_pos c,if_pos c,e3 c,qag,ih,qag]; rfl
  ·rw[if_neg c,if_neg c,ih]
theorem qbj {fr:List Nat} {xs:List α} (hi:di ρ= .ok (xs.map f)) (hs: ∀x∈xs,dt (.fz (f x)::fr.map λi=>qjq ρ[i]?)= .ok (p x)/\(p x=true->de (.fz (f x)::fr.map λi=>qjq ρ[i]?)= .ok (h x))):
  qaE 1 fr di (gN 0) dt de ρ= .ok ((xs.filter p).map h):=by
 unfold qaE
 rw[hi,qag]
 refine congrArg noX (qdX (λρ'=> ∃s,ρ'=s::fr.map λi=>qjq ρ[i]?) xs _ (λx hx ρ' ⟨s,e⟩=> ?_) ⟨.no,rfl⟩)
 subst e
 exact ⟨_,rfl,⟨_,rfl⟩,(hs x hx).1,(hs x hx).2⟩
variable {a b c:α->T}
theorem qlK {fr:List Nat} {xs:List α} (hi:di ρ= .ok (xs.map λx=>.tup [a x,b x])) (hs: ∀x∈xs,dt (.fz (a x)::.fz (b x)::fr.map λi=>qjq ρ[i]?)= .ok (p x)/\(p x=true->de (.fz (a x)::.fz (b x)::fr.map λi=>qjq ρ[i]?)= .ok (h x))):
  qaE 2 fr di (gT 2 (gsC (gN 0) (gsC (gN 1) gsN))) dt de ρ= .ok ((xs.filter p).map h):=by
 unfold qaE
 rw[hi,qag]
 refine congrArg noX (qdX (f:=λx=>.tup [a x,b x]) (λρ'=> ∃s s',ρ'=s::s'::fr.map λi=>qjq ρ[i]?) xs _ (λx hx ρ' ⟨s,s',e⟩=> ?_) ⟨.no,.no,rfl⟩)
 subst e
 exact ⟨_,rfl,⟨_,_,rfl⟩,(hs x hx).1,(hs x hx).2⟩
theorem qop {fr:List Nat} {xs:List α} (hi:di ρ= .ok (xs.map λx=>.tup [a x,b x,c x])) (hs: ∀x∈xs,dt (.fz (a x)::.fz (b x)::.fz (c x)::fr.map λi=>qjq ρ[i]?)= .ok (p x)/\(p x=true->de (.fz (a x)::.fz (b x)::.fz (c x)::fr.map λi=>qjq ρ[i]?)= .ok (h x))):
  qaE 3 fr di (gT 3 (gsC (gN 0) (gsC (gN 1) (gsC (gN 2) gsN)))) dt de ρ= .ok ((xs.filter p).map h):=by
 unfold qaE
 rw[hi,qag]
 refine congrArg noX (qdX (f:=λx=>.tup [a x,b x,c x]) (λρ'=> ∃s s' s'',ρ'=s::s'::s''::fr.map λi=>qjq ρ[i]?) xs _ (λx hx ρ' ⟨s,s',s'',e⟩=> ?_) ⟨.no,.no,.no,rfl⟩)
 subst e
 exact ⟨_,rfl,⟨_,_,_,rfl⟩,(hs x hx).1,(hs x hx).2⟩
theorem qbu {xs:List α}:xs.filter (λ_=>true)=xs:=by simp
theorem qdT {db:Ro->Rs Out} (I:List α->Ro->Prop) (whole:List α): ∀(xs done:List α) (ρ:Ro),done++xs=whole->(∀(dn:List α) (x:α) (qce:List α) ρ,dn++x::qce=whole->I dn ρ->∃ρ1 ρ2,dg (f x) ρ= .ok ρ1/\(db ρ1= .ok (.nx ρ2)\/db ρ1= .ok (.ct ρ2))/\I (dn++[x]) ρ2)->I done ρ->∃ρ',qc3 dg db (xs.map f) ρ= .ok (.nx ρ')/\I whole ρ'
 | [],done,ρ,hw,_,hI=>⟨ρ,rfl,by rw[List.append_nil] at hw; rw[<-hw]; exact hI⟩
 | x::xs,done,ρ,hw,st,hI=>by
  obtain ⟨ρ1,ρ2,e1,e2,i2⟩:=st done x xs ρ hw hI
  obtain ⟨ρ',e3,i3⟩:=qdT I whole xs (done++[x]) ρ2 (by rw[<-hw]; simp) st i2
  refine ⟨ρ',?_,i3⟩
  rw[List.map_cons,qc3,e1,qag]
  rcases e2 with e2 | e2<;>(rw[e2,qag]; exact e3)
end
abbrev Row:=Int×Str×Int
def qam (r:Row):T:=.tup [.int r.1,.str r.2.1,.int r.2.2]
def qan (rs:List Row):T:=.lst (rs.map qam)
def qej (x:Str):Prop:=(1<=x.length/\x.length<=2)/\∀c∈x.cps.toList,97<=c/\c<=122
def qmG (r:Row):Prop:=(0<=r.1/\r.1<=99)/\qej r.2.1/\ -99<=r.2.2/\r.2.2<=99
end PL
end
section
namespace PL
open PySem L2
section
variable {M:Md} {X:Cx} {es:List Expr} {pos:Pos} {dr:List T->Ro->Rs Ro}
def gL (n:Nat) (dr:List T->Ro->Rs Ro):T->Ro->Rs Ro:=λt ρ=>match t with | .lst ts=>if ts.length=n then dr ts ρ else .no | _=>.no
end
end PL
namespace PL
open PySem L2
theorem qei (K:PySem.W.Frag): ∀N∈["int", "bool", "str", "tuple"],qhB K N:=by
 intro N hN m hm
 simp only[List.mem_cons,List.not_mem_nil,or_false] at hN hm
 rcases hN with rfl | rfl | rfl | rfl<;>rcases hm with rfl | rfl | rfl | rfl | rfl | rfl<;>rfl
end PL
end
section
namespace St
open PySem PySem.W PySem.Calls PyProof.Rows
end St
end
section
namespace L2
open PySem PySem.Spec PyProof.Rows
structure qu3 (x:Str) (v:Value) (env:Env) (h:Heap):Prop where
 kind:env.scope.kind= .function
 loc:env.kindOf x=some .local
 ns: ∃m,h.Ns env.locals m/\m x=some v
end L2
end
section
namespace PL
open PySem L2 SR SetL
section
open PySem.W PyProof.Rows
variable {prog:Program} {w:World} {A:Around} {E:Value->Shared->Prop} {s:Shared}
def qgJ (h:Heap) (kl:List Ky) (v:Value):Prop:= ∃p its,v= .ref p/\IsTup h p (List.toArray its)/\Vals (kl.map kyV) its
theorem qkS {Q:SortKind->Shared->Prop} (its:List Value) {x:Nat} {r:List Nat} (hx:x=0\/x=1) (h2:2<=its.length) (hk: ∀v∈its,∃kl,qgJ s.heap kl v/\kl.map shK=x::r) (hq:Q (tuples' true) s):wpAny (model prog w) A (keyKind' its.toArray) Q E s:=by
 have fst: ∀v∈its,∃f,(∃a o xs n,v= .ref a/\s.heap.get? a=some o/\o.cls= .type "tuple" /\o.data= .seq xs n/\xs[0]? =some f)/\((x=0/\∃i t,f=Value.int i t)\/(x=1/\∃i t,f=Value.str i t)):=λv hv=>by
  obtain ⟨kl,⟨p,w1,g1,i1,v1⟩,k1⟩:=hk v hv
  obtain ⟨o1,e1,c1,n1,d1⟩:=i1
  cases kl with
  | nil=>cases k1
  | cons ky kr=>
   cases v1 with
   | cons r0 rr=>
    have ks:shK ky=x:=(List.cons.inj k1).1
    cases ky with
    | i n=>
     obtain ⟨tk,rfl⟩:=r0
     exact ⟨_,⟨p,o1,_,n1,g1,e1,c1,d1,rfl⟩,.inl ⟨ks.symm,n,tk,rfl⟩⟩
    | s n=>
     obtain ⟨tk,rfl⟩:=r0
     exact ⟨_,⟨p,o1,_,n1,g1,e1,c1,d1,rfl⟩,.inr ⟨ks.symm,n,tk,rfl⟩⟩
 obtain ⟨fs,k1,k2,k3⟩:=qe1 its fst
 rcases hx with rfl | rfl
 ·refine PySem.W.kat_kind k1 (by lia) (T:=.type "int") (λv hv=> ?_) (by decide) ?_
  ·rcases k3 v hv with ⟨_,i,t,rfl⟩ | ⟨z,_⟩
   ·exact PySem.W.Looks.of_pure rfl
   ·cases z
  ·exact hq
 ·refine PySem.W.kat_kind k1 (by lia) (T:=.type "str") (λv hv=> ?_) (by decide) ?_
  ·rcases k3 v hv with ⟨z,_⟩ | ⟨_,i,t,rfl⟩
   ·cases z
   ·exact PySem.W.Looks.of_pure rfl
  ·exact hq
theorem qpv {C:Bool->Shared->Prop} {a b:List Ky} {u v:Value} (h1:qgJ s.heap a u) (h2:qgJ s.heap b v) (hs:a.map shK=b.map shK) (hc:C (qdL a b) s):wpAny (model prog w) A (keyLt' (tuples' true) u v) C (λ_ _=>False) s:=by
 obtain ⟨p1,w1,rfl,i1,v1⟩:=h1
 obtain ⟨p2,w2,rfl,i2,v2⟩:=h2
 obtain ⟨o1,e1,_,n1,d1⟩:=i1
 obtain ⟨o2,e2,_,n2,d2⟩:=i2
 refine kat_lt e1 d1 e2 d2 ?_
 have hl:w1.length=w2.length:=by
  have h1:=v1.length
  have h2:=v2.length
  have h3:=congrArg List.length hs
  simp only[List.length_map] at h1 h2 h3
  lia
 rw[show decide ((List.toArray w1).size<(List.toArray w2).size)=false by simp[hl]]
 exact qt4 _ _ _ _ 0 v1 v2 hs hc
end
end PL
end
section
namespace PL
open PySem L2 SR SetL
theorem qgz:bootBuiltins "sum" =some (.builtin "sum"):=by decide+kernel
theorem qge (ns:List Int): ∀a:Int,PySem.W.Num.foldFrom PySem.W.Num.add (.int a) (ns.map PySem.W.WData.int)=some (.int (a+ns.sum)):=by
 induction ns with
 | nil=>intro a; simp[PySem.W.Num.foldFrom]
 | cons n ns ih=>
  intro a
  simp only[List.map_cons,PySem.W.Num.foldFrom,List.sum_cons]
  have e:PySem.W.Num.add (.int a) (.int n)=some (.int (a+n)):=rfl
  rw[e]
  show PySem.W.Num.foldFrom _ _ _=_
  rw[ih,Int.add_assoc]
theorem qfL (ns:List Int): ∀a:Int,PySem.W.Num.sumInts a (ns.map PySem.W.WData.int)=some (.int (a+ns.sum)):=by
 induction ns with
 | nil=>intro a; simp[PySem.W.Num.sumInts]
 | cons n ns ih=>
  intro a
  simp only[List.map_cons,PySem.W.Num.sumInts,List.sum_cons]
  rw[ih,qge,Int.add_assoc]
  split<;>rfl
section
variable {X:Cx}
open PySem.Spec PyProof.Rows in
theorem qgw (hc:X.calm=true):qcH X (.builtin "sum") (λxs H Q=> ∃(a:Addr) (ns:List Int),xs=[.ref a]/\SqL X.K H a (ns.map V.int)/\Q (.int ns.sum) H):=by
 intro pins s σ H xs us Q I r h
 obtain ⟨a,ns,rfl,hS,q⟩:=h
 obtain ⟨u,rfl,ru⟩:=qd0 r
 cases ru
 obtain ⟨its,rv,pl,hz⟩:=I.list hS
 have hl:=rv.length
 rw[List.length_map] at hl
 have hlt:a<s.heap.objs.size:=Heap.lt_size pl.isList.choose_spec.1
 have hh:X.A.in1.handled=none:=I.ok.hd hc
 refine PySem.Flt.call_sum_walkF (xs:=ns.map PySem.W.WData.int) (qfL ns 0) (wpAny_pyIter_list pl.isList ?_)
 have W:=(Walks.list (prog:=X.prog) (w:=X.w) hh s.heap.objs.size a (Nat.ne_of_lt hlt) its.toArray).toS
 have en:its.toArray.size=(ns.map PySem.W.WData.int).length:=by rw[List.size_toArray,List.length_map]; lia
 rw[en] at W
 refine ⟨s.heap.objs.size,_,_,_,_,_,rfl,W,⟨⟨_,Heap.get?_push_size _ rfl,rfl,rfl⟩,pl.isList.at λo e=>Heap.get?_push_of_some _ e⟩,λb hb=> ?_,λi v hv=> ?_,λs' v hv mv=> ?_⟩
 ·have hb':b=s.heap.objs.size\/b=a:=by simpa using hb
  rcases hb' with rfl | rfl
  ·show s.heap.objs.size<(Heap.push _ _).objs.size
   rw[size_push']; exact Nat.lt_succ_self _
  ·show b<(Heap.push _ _).objs.size
   rw[size_push']; exact Nat.lt_succ_of_lt hlt
 ·have hv':its[i]? =some v:=by simpa using hv
  have hi:=(List.getElem?_eq_some_iff.mp hv').1
  have hi':i<ns.length:=by lia
  obtain ⟨u,e1,e2⟩:=rv.get (i:=i) (x:=V.int ns[i]) (by rw[List.getElem?_map,List.getElem?_eq_getElem hi']; rfl)
  rw[hv'] at e1; cases e1
  obtain ⟨tk,rfl⟩:=e2
  exact ⟨.int ns[i],by rw[List.getElem?_map,List.getElem?_eq_getElem hi']; rfl,.int _ _⟩
 ·rw[Int.zero_add] at hv
  cases hv with
  | int n t=>
   obtain ⟨m1,m2,m3,m4,m5⟩:=mv
   have es:s'={ s with heap:=s'.heap,toks:=s'.toks }:=by
    cases s'
    simp only at m2 m3 m4
    subst m2 m3 m4
    rfl
   rw[es]
   refine ⟨.int ns.sum,H,?_,⟨t,rfl⟩,q⟩
   refine I.kept (t':=s'.toks) λb o eo=>m1 b o ?_ (Heap.get?_push_of_some _ eo)
   intro z
   have:b=s.heap.objs.size:=by simpa using z
   exact Nat.ne_of_lt (Heap.lt_size eo) this
end
def qjH (q:Bool×List T):Rs T:=if q.1=true/\q.2.all qf9=true then .ok (.int (q.2.map qbS).sum) else .no
section
variable {M:Md} {X:Cx} {e a:Expr} {pos p1 p2 p3:Pos} {dq:Ro->Rs (Bool×List T)}
theorem qom (h:PE X e (tCB (λxs H Q=> ∃(a:Addr) (ns:List Int),xs=[.ref a]/\SqL X.K H a (ns.map V.int)/\Q (.int ns.sum) H) (qcV (tQ M dq) qjG))):DE M X e (dCQ qjH dq):=
 qlC h (λH B p vs q c Q le bt m hq r ec k=>by
  unfold qjH at ec
  split at ec
  ·rename_i hcc
   cases ec
   unfold qhC at hq
   rw[if_pos hcc.1] at hq
   exact ⟨p,q.2.map qbS,rfl,SqL.of (by rw[<-qd9 hcc.2 r]; exact hq),k _ H B (.refl le bt) m qaX⟩
  ·cases ec) (λq c z=>by unfold qjH at z; split at z<;>cases z)
end
end PL
end
section
namespace St
open PySem PySem.W PySem.Calls PyProof.Rows
end St
end
section
namespace St
open PySem PySem.W PySem.Calls PyProof.Rows
end St
end
section
namespace PL
open PySem L2 SR SetL
end PL
end
section
namespace L2
open PySem PySem.Spec PyProof.Rows
def qgI (Ts:List Addr) (H:Hp):Prop:=(∀T∈Ts,H T=some (.tbl #[]))/\∀b,b∉Ts->H b=none\/∃o xs,H b=some (.frz o (.lst xs))
theorem qja {P:Program} {w:World} {K:PySem.W.Frag} {mg mb:Str->Option Value} {CX:CXT} {k:Nat} {fa a:Addr} {cts:List (Addr×Addr)} {fd:FuncData} {x:Str} {sp:Sp} {s₁:Shared} {vs:List Value} {ns:List Int}
  (KX:K.In s₁.heap) (hns:s₁.heap.Ns mainGlobals mg) (hb:s₁.heap.Ns builtinsNs mb) (hbb: ∀x:Str,x≠ "__name__" ->mb x=bootBuiltins x) (hlim:s₁.heap.NoLimit) (hg:s₁.gens= #[])
  (ha:s₁.heap.get? a=some { cls:=.type "list",data:=.seq vs.toArray }) (hi:IntsAre vs ns) (hl:ns.length<=sizeLine) (hr:qcE k callerA)
  (hC: ∀p∈cts,PySem.W.CodeHd s₁.heap p.1 p.2) (hT: ∀T∈cts.map (·.2),s₁.heap.get? T=some (PySem.W.tabObj #[])) (hKT: ∀T∈cts.map (·.2),K.lookup T=none) (hbm:qjE mg s₁.heap)
  (F: ∀base:Heap,K.In base->base.Ns mainGlobals mg->(∀p∈cts,PySem.W.CodeHd base p.1 p.2)->qjE mg base->qbf P w K mg base CX k fa fd [x] sp) (hbind: ∀(s:Shared) (u:Value),BindsTo s fd ⟨[u],[]⟩ [(x,u)])
  (hsp: ∀H:Hp,qgI (cts.map (·.2)) H->SqL K H a (ns.map V.int)->sp [.ref a] H (λv _=>v= .bl true) λ_ _ _=>False)
  (hCX: ∀H e s',CX [] H s₁ (λ_ _ _=>False) e s'->False):
  codeAny (model P w) callerA (.call (.ref fa) ⟨[.ref a],[]⟩) (λr s'=>r= .ok (.ret (.bool true))/\OldK s₁.heap s'.heap/\s'.os=s₁.os/\AllBare s'.gens) s₁:=by
 have rv:=qfJ hi
 have lenV:=hi.length
 have core: ∀H:Hp,qgI (cts.map (·.2)) H->SqL K H a (ns.map V.int)->HOk P w H s₁.heap->(∀b,H b≠none->b=a\/b∈cts.map (·.2))->(H a≠none->K.lookup a=none)->
   codeAny (model P w) callerA (.call (.ref fa) ⟨[.ref a],[]⟩) (λr s'=>r= .ok (.ret (.bool true))/\OldK s₁.heap s'.heap/\s'.os=s₁.os/\AllBare s'.gens) s₁:=by
  intro H hO hS hok hA hK
  have base_of: ∀{b:Addr} {o:Obj},s₁.heap.get? b=some o->H b=none->(qk9 s₁.heap H).get? b=some o:=λe n=>qne e n
  have other: ∀{b:Addr} {o:Obj},s₁.heap.get? b=some o->(∀xs n,o.data≠.seq xs n)->(o.cls≠.none)->H b=none:=λ{b o} e d d2=>by
   cases q:H b with
   | none=>rfl
   | some u=>
    rcases hA b (by rw[q]; simp) with z | z
    ·subst z
     rw[ha] at e; cases e
     exact absurd rfl (d _ _)
    ·rw[hT b z] at e; cases e
     exact absurd rfl d2
  have noA: ∀{b:Addr} {o:Obj} {es:Array DictEntry} {ep:Nat},s₁.heap.get? b=some o->o.data= .dict es ep->H b=none:=λ{b o es ep} e d=>by
   cases q:H b with
   | none=>rfl
   | some u=>
    rcases hA b (by rw[q]; simp) with z | z
    ·subst z
     rw[ha] at e; cases e
     have d':Data.seq vs.toArray _=Data.dict es ep:=d
     cases d'
    ·rw[hT b z] at e; cases e
     have d':Data.fields _=Data.dict es ep:=d
     cases d'
  have nsK: ∀{b:Addr} {m:Str->Option Value},s₁.heap.Ns b m->(qk9 s₁.heap H).Ns b m:=λ{b m} ⟨o,es,ep,e,d,r⟩=>⟨o,es,ep,base_of e (noA e d),d,r⟩
  have hKb:K.In (qk9 s₁.heap H):=λb o e=>base_of (KX b o e) (by
   cases q:H b with
   | none=>rfl
   | some u=>
    rcases hA b (by rw[q]; simp) with z | z
    ·subst z
     rw[hK (by rw[q]; simp)] at e; cases e
    ·rw[hKT b z] at e; cases e)
  have hM:Mod K mg (qk9 s₁.heap H):=⟨hKb,nsK hns,⟨mb,nsK hb,hbb⟩,let ⟨mc,h1,h2⟩:=hlim; ⟨mc,nsK h1,h2⟩⟩
  have hCb: ∀p∈cts,PySem.W.CodeHd (qk9 s₁.heap H) p.1 p.2:=λp hp=>by
   obtain ⟨o,vs',file,tf,flags,tg,inF,text,tt,e1,e2,e3,r⟩:=hC p hp
   exact ⟨o,vs',file,tf,flags,tg,inF,text,tt,base_of e1 (other e1 (λxs n z=>by rw[e3] at z; cases z) (λz=>by rw[e2] at z; cases z)),e2,e3,r⟩
  have hBb:qjE mg (qk9 s₁.heap H):=by
   obtain ⟨bm,ob,b1,b2,b3,b4,b5,b6⟩:=hbm
   exact ⟨bm,ob,b1,b2,base_of b3 (other b3 (λxs n z=>by rw[b6] at z; cases z) (λz=>by rw[b4] at z; cases z)),b4,b5,b6⟩
  have e0:qss P w K mg (qk9 s₁.heap H) callerA [] s₁ H:=⟨rfl,hM,λb o e=>qpl e,Nat.le_of_eq (qk8 _ _),trivial,λb hb=>absurd (show b∈([]:List Addr) from hb) (by simp),hok,.of_eq hg⟩
  refine codeAny_mono ((F _ hKb (nsK hns) hCb hBb).run callerA [] s₁ H ⟨[.ref a],[]⟩ [.ref a] [.ref a] _ _ hr e0 (hbind s₁ (.ref a)) (.cons rfl .nil) (hsp H hO hS)) λr s' h=> ?_
  cases r with
  | error e=>exact (hCX H e s' h).elim
  | ok fl=>
   cases fl with
   | next=>exact False.elim h
   | brk=>exact False.elim h
   | cont=>exact False.elim h
   | ret u=>
    obtain ⟨v,H',os,bare,un,hok',r',q⟩:=h
    have q':v= .bl true:=q
    subst q'
    obtain rfl:u=Value.bool true:=r'
    have old: ∀b o,b∉cts.map (·.2)->s₁.heap.get? b=some o->s'.heap.get? b=some o:=λb o hbT e=>by
     cases q:H b with
     | none=>exact un.keep b o e q (by intro z; exact absurd (show b∈([]:List Addr) from z) (by simp)) (by simp)
     | some u=>
      rcases hO.2 b hbT with z | ⟨ob,xs,z⟩
      ·rw[q] at z; cases z
      ·have z2:=un.frzs b ob _ z
       obtain ⟨e1,_⟩:=hok b _ z
       obtain ⟨e2,_⟩:=hok' b _ z2
       rw[e] at e1; cases e1
       exact e2
    have tb: ∀T∈cts.map (·.2),∃more,s'.heap.get? T=some (PySem.W.tabObj (#[]++more)):=λT hTm=>by
     obtain ⟨more,hT'⟩:=un.tbls T _ (hO.1 T hTm)
     exact ⟨more,hok' T _ hT'⟩
    refine ⟨rfl,⟨λb o e=> ?_,λb o e=> ?_⟩,os,bare⟩
    ·by_cases z:b∈cts.map (·.2)
     ·obtain ⟨more,hT2⟩:=tb b z
      rw[hT b z] at e; cases e
      obtain ⟨p,hp,rfl⟩:=List.mem_map.mp z
      exact .inr (.inl ⟨((hC p hp).tab (hT _ z)).isCodeTable,rfl, #[],more,rfl,hT2⟩)
     ·exact .inl (old b o z e)
    ·by_cases z:b∈cts.map (·.2)
     ·obtain ⟨more,hT2⟩:=tb b z
      exact ⟨_,hT2⟩
     ·exact ⟨o,old b o z e⟩
 have aT:a∉cts.map (·.2):=λz=>by rw[hT a z] at ha; cases ha
 cases hk:K.lookup a with
 | some o=>
  have e:=KX a o hk
  rw[ha] at e
  cases e
  refine core (λb=>if b∈cts.map (·.2) then some (.tbl #[]) else none) ⟨λT hTm=>if_pos hTm,λb hb=>.inl (if_neg hb)⟩ (.inr ⟨_,vs.toArray,_,hk,rfl,rfl,rfl,by rw[List.size_toArray,lenV]; exact hl,by simpa using rv⟩) (λb u z=> ?_) (λb z=> ?_) λz=>absurd (if_neg aT) z
  ·by_cases hb:b∈cts.map (·.2)
   ·have z':=(if_pos hb).symm.trans z
    cases z'
    exact hT b hb
   ·have z':=(if_neg hb).symm.trans z
    cases z'
  ·by_cases hb:b∈cts.map (·.2)
   ·exact .inr hb
   ·exact absurd (if_neg hb) z
 | none=>
  refine core (λb=>if b∈cts.map (·.2) then some (.tbl #[]) else if b=a then some (.frz { cls:=.type "list",data:=.seq vs.toArray } (.lst (ns.map V.int))) else none) ⟨λT hTm=>if_pos hTm,λb hbT=> ?_⟩ (.inl (.inr ⟨{ cls:=.type "list",data:=.seq vs.toArray },(if_neg aT).trans (if_pos rfl)⟩)) (λb u z=> ?_) (λb z=> ?_) λ_=>hk
  ·by_cases hb:b=a
   ·exact .inr ⟨_,_,(if_neg hbT).trans (if_pos hb)⟩
   ·exact .inl ((if_neg hbT).trans (if_neg hb))
  ·by_cases hbT:b∈cts.map (·.2)
   ·have z':=(if_pos hbT).symm.trans z
    cases z'
    exact hT b hbT
   ·by_cases hb:b=a
    ·have z':=((if_neg hbT).trans (if_pos hb)).symm.trans z
     cases z'
     subst hb
     exact ⟨ha,by rw[List.length_map]; exact hl,vs,_,rv,ha⟩
    ·have z':=((if_neg hbT).trans (if_neg hb)).symm.trans z
     cases z'
  ·by_cases hbT:b∈cts.map (·.2)
   ·exact .inr hbT
   ·by_cases hb:b=a
    ·exact .inl hb
    ·exact absurd ((if_neg hbT).trans (if_neg hb)) z
theorem walk_ofTs {l:PySem.W.OpenLaw} {n k:Nat} {q:Program} {loose:List Str} {XP:(Str->Option Value)->Heap->Prop} {YP:World->Heap->Prop} {d:DefRec} {K:Params->PySem.W.Frag} {CX:World->CXT} {sp:World->List (Addr×Addr)->Sp} {x:Str} {ys:List Str}
  (hn:l.most=some n) (hn2:n<=sizeLine) (hdf:d.params.defaults=[]) (hr:qcE k callerA)
  (hY: ∀(w:World) (h:Heap),YP w h->(K w.params).In h) (hrec: ∀y∈ys,∃dx,(recsOf q).find? (λe=>e.name==y)=some dx)
  (F: ∀(w:World) (mg:Str->Option Value) (fa:Addr) (h:Heap),(K w.params).In h->h.Ns mainGlobals mg->mg d.name=some (.ref fa)->
   ∃(fd:FuncData) (cts:List (Addr×Addr)),ys.map (PySem.W.tabIn (K w.params))=cts.map some/\(∀T∈cts.map (·.2),(K w.params).lookup T=none)/\(∀(s:Shared) (u:Value),BindsTo s fd ⟨[u],[]⟩ [(x,u)])/\
    (∀base:Heap,(K w.params).In base->base.Ns mainGlobals mg->(∀p∈cts,PySem.W.CodeHd base p.1 p.2)->qjE mg base->qbf l.prog w (K w.params) mg base (CX w) k fa fd [x] (sp w cts)))
  (hsp: ∀(w:World) (cts:List (Addr×Addr)) (H:Hp) (a:Addr) (ns:List Int),ns.length<=n->qgI (cts.map (·.2)) H->SqL (K w.params) H a (ns.map V.int)->sp w cts [.ref a] H (λv _=>v= .bl true) λ_ _ _=>False)
  (hCX: ∀(w:World) (H:Hp) (s:Shared) (e:Value) (s':Shared),CX w [] H s (λ_ _ _=>False) e s'->False):
  PySem.W.WalkO q loose XP YP l.row.toRowW d [] (λf vs=>PySem.call f vs):=by
 refine Att.attach_call hn hdf λw s₀ s₁ mg mb fa o pm cd doc a vs ns G Y ho hd hcd hmg hobj hints hlen hg=> ?_
 have KX:=hY w _ Y
 obtain ⟨fd,cts,ht,hkt,hb,hF⟩:=F w mg fa _ KX G.T.g hmg
 have each: ∀p∈cts,PySem.W.CodeHd s₁.heap p.1 p.2/\s₁.heap.get? p.2=some (PySem.W.tabObj #[]):=λp hp=>by
  have hm:some p∈ys.map (PySem.W.tabIn (K w.params)):=by rw[ht]; exact List.mem_map.mpr ⟨p,hp,rfl⟩
  obtain ⟨y,hy,ey⟩:=List.mem_map.mp hm
  obtain ⟨dx,hdx⟩:=hrec y hy
  exact PySem.W.tab_of G.T KX hdx ey
 have hC:=λp hp=>(each p hp).1
 have hT: ∀T∈cts.map (·.2),s₁.heap.get? T=some (PySem.W.tabObj #[]):=λT hTm=>by
  obtain ⟨p,hp,rfl⟩:=List.mem_map.mp hTm
  exact (each p hp).2
 exact qja KX G.T.g G.T.b G.T.builtins G.T.nolimit hg hobj hints (Nat.le_trans hlen hn2) hr hC hT hkt G.T.bmain hF hb (λH hO hS=>hsp w cts H a ns hlen hO hS) λH e s'=>hCX w H s₁ e s'
end L2
end
section
namespace PL
open PySem L2 SR SetL
theorem quV {α:Type}: ∀{us:List α},us.length=1->∃a,us=[a]
 | [a],_=>⟨a,rfl⟩
theorem qt6 {α:Type}: ∀{us:List α},us.length=2->∃a b,us=[a,b]
 | [a,b],_=>⟨a,b,rfl⟩
theorem qt5 {α:Type}: ∀{us:List α},us.length=3->∃a b c,us=[a,b,c]
 | [a,b,c],_=>⟨a,b,c,rfl⟩
theorem hu1 {k:Nat} {A:Around} (r:qcE k A):A.units+1<cLine:=by have:=r.units; lia
theorem qgA:bootBuiltins "max" =some (.builtin "max"):=by decide+kernel
def qhg (l:List (Addr×Pos×Str)):Gam where
 P:=λH=> ∀p∈l,Tab p.1 p.2.1 p.2.2 H
 st:=λH H' k h p hp=>by
  obtain ⟨ps,h1,h2,h3⟩:=h p hp
  refine ⟨ps,k _ _ h1 (λ_ z=>by cases z) (λ_ z=>by cases z) (λ_ z=>by cases z) (λ_ _ _ z=>by cases z),h2,h3.imp_right λ⟨c,a,b⟩=>⟨c,a,k _ _ b (λ_ z=>by cases z) (λ_ z=>by cases z) (λ_ z=>by cases z) (λ_ _ _ z=>by cases z)⟩⟩
theorem qsA {Ts:List Addr} {lq:List (Pos×Str)} {H:Hp} (h:qgI Ts H):(qhg (Ts.zip lq)).P H:=λp hp=>⟨#[],h.1 _ (List.of_mem_zip hp).1,trivial,.inl rfl⟩
end PL
end
section
namespace PL
open PySem L2
def qcO:T->Option Key
 | .int i=>some (.inl i)
 | .str x=>some (.inr x)
 | _=>none
def qeD (kvs:List (Key×T)) (k:Key) (t:T):List (Key×T):=if (kvs.any λkv=>decide (kv.1=k))=true then kvs.map (λkv=>if kv.1=k then (kv.1,t) else kv) else kvs++[(k,t)]
def qhJ (kvs:List (Key×T)) (k:Key):Option T:=(kvs.find? λkv=>decide (kv.1=k)).map (·.2)
section
variable {K:PySem.W.Frag} {B:Hp}
theorem qby.nil:qby K B [] []:=by unfold qby; rfl
theorem qby.cons {k:Key} {t:T} {v:V} {ts:List (Key×T)} {vs:List (Key×V)} (h:Rep K B t v) (r:qby K B ts vs):qby K B ((k,t)::ts) ((k,v)::vs):=by unfold qby; exact ⟨v,vs,rfl,h,r⟩
theorem qby.inv {k:Key} {t:T} {ts:List (Key×T)} {vs:List (Key×V)} (h:qby K B ((k,t)::ts) vs): ∃v r,vs=(k,v)::r/\Rep K B t v/\qby K B ts r:=by unfold qby at h; exact h
theorem qby.inv0 {vs:List (Key×V)} (h:qby K B [] vs):vs=[]:=by unfold qby at h; exact h
theorem qby.length: ∀{ts:List (Key×T)} {vs:List (Key×V)},qby K B ts vs->vs.length=ts.length
 | [],_,h=>by rw[h.inv0]; rfl
 | (_,_)::_,_,h=>by
  obtain ⟨v,r,rfl,_,h'⟩:=h.inv
  simp[qby.length h']
theorem qby.any (k:Key): ∀{ts:List (Key×T)} {vs:List (Key×V)},qby K B ts vs->(vs.any λkv=>decide (kv.1=k))=ts.any λkv=>decide (kv.1=k)
 | [],_,h=>by rw[h.inv0]; rfl
 | (_,_)::_,_,h=>by
  obtain ⟨v,r,rfl,_,h'⟩:=h.inv
  rw[List.any_cons,List.any_cons,qby.any k h']
theorem qby.repl (k:Key) {t:T} {v:V} (h:Rep K B t v): ∀{ts:List (Key×T)} {vs:List (Key×V)},qby K B ts vs->qby K B (ts.map λkv=>if kv.1=k then (kv.1,t) else kv) (vs.map λkv=>if kv.1=k then (kv.1,v) else kv)
 | [],_,r=>by rw[r.inv0]; exact .nil
 | (j,u)::_,_,r=>by
  obtain ⟨x,rr,rfl,a,b⟩:=r.inv
  rw[List.map_cons,List.map_cons]
  by_cases c:j=k
  ·rw[if_pos c,if_pos c]; exact .cons h (qby.repl k h b)
  ·rw[if_neg c,if_neg c]; exact .cons a (qby.repl k h b)
theorem qby.snoc {k:Key} {t:T} {v:V} (h:Rep K B t v): ∀{ts:List (Key×T)} {vs:List (Key×V)},qby K B ts vs->qby K B (ts++[(k,t)]) (vs++[(k,v)])
 | [],_,r=>by rw[r.inv0]; exact .cons h .nil
 | (_,_)::_,_,r=>by
  obtain ⟨x,rr,rfl,a,b⟩:=r.inv
  exact .cons a (qby.snoc h b)
theorem qby.put {k:Key} {t:T} {v:V} {ts:List (Key×T)} {vs:List (Key×V)} (r:qby K B ts vs) (h:Rep K B t v):qby K B (qeD ts k t) (qgK vs k v):=by
 unfold qeD qgK
 rw[r.any k]
 split
 ·exact r.repl k h
 ·exact r.snoc h
theorem qby.val (k:Key): ∀{ts:List (Key×T)} {vs:List (Key×V)},qby K B ts vs->(∀t,qhJ ts k=some t->∃v,qfd vs k=some v/\Rep K B t v)/\(qhJ ts k=none->qfd vs k=none)
 | [],_,r=>by rw[r.inv0]; exact ⟨(λt z=>by cases z),(λ_=>rfl)⟩
 | (j,u)::_,_,r=>by
  obtain ⟨x,rr,rfl,a,b⟩:=r.inv
  obtain ⟨h1,h2⟩:=qby.val k b
  unfold qhJ qfd at*
  rw[List.find?_cons,List.find?_cons]
  by_cases c:j=k
  ·simp[c]
   exact a
  ·simp only[c,decide_false]
   exact ⟨h1,h2⟩
end
end PL
end
section
namespace St
open PySem PySem.W PySem.Calls PyProof.Rows
section
variable {prog:Program} {w:World} {A:Around} {E:Value->Shared->Prop} {s:Shared} {v:Value} {Q:Value->Shared->Prop}
theorem sorted_c (hcol:wpAny (model prog w) A.in1 (collect v) (λvs s1=> ∃(h1:Heap) (t1:Nat) (κ:SortKind) (kz:List Int),s1={ s with heap:=h1,toks:=t1 }/\Kp s.heap h1/\kz.length=vs.length/\vs.length<64/\
   (∀s':Shared,Kp h1 s'.heap->2<=vs.length->∀(Q:SortKind->Shared->Prop) (E:Value->Shared->Prop),Q κ s'->wpAny (model prog w) A.in1.in1 (keyKind' vs.toArray) Q E s')/\
   (∀s':Shared,Kp h1 s'.heap->∀i j,i<vs.length->j<vs.length->∀C:Bool->Shared->Prop,C (decide (kz.getD i 0<kz.getD j 0)) s'->wpAny (model prog w) A.in1.in1 (keyLt' κ (vs.getD i Value.none) (vs.getD j Value.none)) C (λ_ _=>False) s')/\
   ∀D h' tk c (p:Array Nat),h1.objs.size<=D->Kp h1 h'->qeC kz vs.length p->h'.get? D=some (seqObj "list" (List.toArray (p.toList.map λi=>vs.getD i Value.none)) c)->Q (.ref D) { s with heap:=h',toks:=tk }) E s):
  wpAny (model prog w) A (call (.builtin "sorted") [v]) Q E s:=by
 refine Calls.call_function_entry kind_sorted plain_sorted entry_sorted (args_sorted1 _) ?_
 unfold Builtin.«sorted»
 refine wpAny_bind (m:=checkCount "sorted" 1 1 _) (wpAny_pure ?_)
 refine wpAny_bind (wpAny_mono hcol (λvs s1 h=> ?_) λ_ _ x=>x)
 obtain ⟨H1,t1,κ,kz,rfl,kp1,hlen,h64,kind,cmp,h⟩:=h
 refine wpAny_bind (wpAny_newList ?_ (by rw[sizeLine_eq]; lia))
 have kp2:Kp H1 (H1.push (seqObj "list" vs.toArray 0)):=λb o q=>Heap.get?_push_of_some _ q
 have hoD:(H1.push (seqObj "list" vs.toArray 0)).get? H1.objs.size=some (seqObj "list" vs.toArray 0):=Heap.get?_push_size _ rfl
 refine wpAny_bind (wpAny_holding (wpAny_call_entry slot_list_sort ⟨_,hoD,rfl⟩ entry_list_sort ?body (args_list_sort _)))
 case body=>
  refine lsort_p (h0:=H1) (kz:=kz) (κ:=κ) (s:={ s with heap:=H1.push (seqObj "list" vs.toArray 0),toks:=t1 }) hoD hlen h64 kp2 (get_none (Nat.le_refl _)) (λs' k h2 Q hq=>kind s' k h2 Q _ hq) cmp λh' tk c p a1 a2 a3=>⟨_,rfl,?_⟩
  exact wpAny_pure ⟨_,rfl,h _ h' tk c p (Nat.le_refl _) a1 a2 a3⟩
end
end St
end
section
namespace L2
open PySem PySem.Spec PyProof.Rows
end L2
end
section
namespace PL
open PySem L2 SR SetL
theorem qg8 {K:PySem.W.Frag} {B:Hp} {t:T} {k:Key} {v:V} (h:qcO t=some k) (r:Rep K B t v):v=kV k:=by
 cases t with
 | int i=>cases h; exact qaw r
 | str x=>cases h; exact qaN r
 | _=>cases h
end PL
end
section
namespace PL
open PySem L2 SR SetL
end PL
end
section
namespace SetL
open PySem
def its (mask:Nat):Nat->Nat×Nat->Nat×Nat
 | 0,x=>x
 | t+1,x=>its mask t (SetTable.leap mask x.1 x.2)
end SetL
end
section
namespace SetL
open PySem
end SetL
end
section
namespace SetL
open PySem
end SetL
end
section
namespace SetL
open PySem
end SetL
end
section
namespace PL
open PySem L2 SR SetL
def qwg:Key->Str
 | .inr x=>x
 | .inl _=> ""
def qrB:Key->Bool
 | .inr _=>true
 | .inl _=>false
def okD (a:List (Key×T)):Bool:=decide (a.length<=15)&&a.all λp=>qrB p.1
end PL
end
section
namespace PL
open PySem L2 SR SetL
end PL
end
section
namespace PySem
end PySem
end
section
namespace PySem
end PySem
end
section
namespace PL
open PySem L2 SR SetL
def qri:List Str:= "dict" ::names
end PL
end
section
namespace PL
open PySem L2
def hid (H:Hp) (p:Addr):Hp:=λa=>if a=p then none else H a
theorem qft {H:Hp} {p:Addr}:hid H p p=none:=by simp[hid]
theorem qbK {H:Hp} {p a:Addr} (h:a≠p):hid H p a=H a:=by simp[hid,h]
theorem qcB {H:Hp} {p a:Addr} {o:HO} (h:hid H p a=some o):H a=some o/\a≠p:=by
 unfold hid at h
 split at h
 ·cases h
 ·rename_i n; exact ⟨h,n⟩
def Sl.inn:Sl->Sl
 | .od k=>.pd k
 | .ou k=>.pu k
 | s=>s
def Sl.out:Sl->Sl
 | .pd k=>.od k
 | .pu k=>.ou k
 | s=>s
def Sl.isP:Sl->Bool
 | .pd _=>true
 | .pu _=>true
 | _=>false
def Sl.isD:Sl->Bool
 | .pd _=>true
 | .pu _=>true
 | .od _=>true
 | .ou _=>true
 | _=>false
def DAt (K:PySem.W.Frag) (H B:Hp) (p:Addr):Sl->Prop
 | .od k=> ∃us,H p=some (.dK us)/\qby K B k us
 | .pd k=> ∃us,H p=some (.dK us)/\qby K B k us
 | .ou k=> ∃us,H p=some (.dT us)/\qbv K B k us
 | .pu k=> ∃us,H p=some (.dT us)/\qbv K B k us
 | _=>False
theorem DAt.isD {K:PySem.W.Frag} {H B:Hp} {p:Addr} {s:Sl} (h:DAt K H B p s):s.isD=true:=by cases s<;>first | rfl | exact h.elim
theorem DAt.inn {K:PySem.W.Frag} {H B:Hp} {p:Addr} {s:Sl} (h:DAt K H B p s):DAt K H B p s.inn:=by cases s<;>exact h
theorem DAt.out {K:PySem.W.Frag} {H B:Hp} {p:Addr} {s:Sl} (h:DAt K H B p s):DAt K H B p s.out:=by cases s<;>exact h
theorem qjV {K:PySem.W.Frag} {H0 H B:Hp} {pa:Addr} {s:Sl} {o:Option V} (h:qgG K H0 H B pa s o) (hd:s.isD=true): ∃p,o=some (.ref p)/\H0 p=none/\B p=none/\DAt K H B p s/\(s.isP=true->p=pa):=by
 cases s with
 | od k=>obtain ⟨p,us,a,b,c,d,e⟩:=h; exact ⟨p,a,b,c,⟨us,d,e⟩,λz=>by cases z⟩
 | ou k=>obtain ⟨p,us,a,b,c,d,e⟩:=h; exact ⟨p,a,b,c,⟨us,d,e⟩,λz=>by cases z⟩
 | pd k=>obtain ⟨p,us,z,a,b,c,d,e⟩:=h; exact ⟨p,a,b,c,⟨us,d,e⟩,λ_=>z⟩
 | pu k=>obtain ⟨p,us,z,a,b,c,d,e⟩:=h; exact ⟨p,a,b,c,⟨us,d,e⟩,λ_=>z⟩
 | _=>cases hd
theorem qjU {K:PySem.W.Frag} {H0 H B:Hp} {pa p:Addr} {s:Sl} (h0:H0 p=none) (hb:B p=none) (h:DAt K H B p s) (hp:s.isP=true->p=pa):qgG K H0 H B pa s (some (.ref p)):=by
 cases s with
 | od k=>obtain ⟨us,d,e⟩:=h; exact ⟨p,us,rfl,h0,hb,d,e⟩
 | ou k=>obtain ⟨us,d,e⟩:=h; exact ⟨p,us,rfl,h0,hb,d,e⟩
 | pd k=>obtain ⟨us,d,e⟩:=h; exact ⟨p,us,hp rfl,rfl,h0,hb,d,e⟩
 | pu k=>obtain ⟨us,d,e⟩:=h; exact ⟨p,us,hp rfl,rfl,h0,hb,d,e⟩
 | _=>exact h.elim
def Sl.ret:Sl->Bool
 | .fz _=>true
 | .ow _=>true
 | _=>false
theorem qhQ {K:PySem.W.Frag} {H0 H B:Hp} {pa pa':Addr} {s:Sl} {o:Option V} (r:s.ret=true) (h:qgG K H0 H B pa s o):qgG K H0 H B pa' s o:=by
 cases s<;>first | exact h | cases r
def qr4 (M:Md) (H0 B:Hp) (p:Addr) (Q:VK) (r:Rs (Sl×Sl)):Prop:=Wnt M H0 (λr=> ∀v H' B',qa5 H0 B H' B'->M.G.P H'->r.1.ret=true->qgG M.K H0 H' B' 0 r.1 (some v)->B' p=none->DAt M.K H' B' p r.2->Q v H') r
def spQ (K:PySem.W.Frag) (G:Gam) (C:Str->Addr) (f:List T->Sl->Rs (Sl×Sl)):Sp:=λvs H Q E=> ∃B ts s p vs0,vs=vs0++[.ref p]/\Le B H/\(∀a ps,B a≠some (.tbl ps))/\G.P H/\qaP K B ts vs0/\B p=none/\DAt K H B p s/\
 qr4 ⟨K,G,E,C,0⟩ (hid H p) B p Q (f ts s)
def qsg (ρ:Ro) (n:Nat) (r:Sl):Rs (Sl×Sl):=match ρ[n]? with | some s=>if r.ret=true/\s.isP=true then .ok (r,s.out) else .no | none=>.no
def qjJ (n:Nat):Out->Rs (Sl×Sl)
 | .rs r ρ=>qsg ρ n r
 | .nx ρ=>qsg ρ n (.fz .non)
 | _=>.no
def fnQ (n N:Nat) (d:Ro->Rs Out):List T->Sl->Rs (Sl×Sl):=λts s=>if ts.length=n/\n<N then d (ts.map .fz++s.inn::List.replicate (N - n - 1) .no)>>=qjJ n else .no
section
variable {K:PySem.W.Frag} {G:Gam} {C:Str->Addr} {E:XK}
theorem qll {H B:Hp} {ts:List T} {vs:List V} {N:List Str} {p:Addr} {s:Sl} (le:Le B H) (bt: ∀a ps,B a≠some (.tbl ps)) (m:G.P H) (r:qaP K B ts vs) (hN:ts.length<N.length) (hb:B p=none) (hs:DAt K H B p s):
  Ev ⟨K,G,E,C,p⟩ (hid H p) B (ts.map .fz++s.inn::List.replicate (N.length - ts.length - 1) .no) (start N (vs++[.ref p])) H B:=by
 have hl:=r.length
 refine ⟨⟨⟨λa o h _=>(qcB h).1,λa h z=>h (by unfold hid; split<;>first | rfl | exact z)⟩,.refl _,le,bt,λ_ _ _ _ _=>rfl⟩,m,by simp[L2.start,hl]; lia,λi u e=> ?_,λi j si sj q hij ei ej oi oj=> ?_⟩
 ·by_cases hi:i<ts.length
  ·rw[List.getElem?_append_left (by simpa using hi),List.getElem?_map] at e
   cases q:ts[i]? with
   | none=>rw[q] at e; cases e
   | some t=>
    rw[q] at e; cases e
    obtain ⟨v,ev,rv⟩:=r.get q
    refine ⟨v,?_,rv⟩
    unfold L2.start
    rw[List.getElem?_append_left (by simp; lia),List.getElem?_map,List.getElem?_append_left (by lia),ev]
    rfl
  ·rw[List.getElem?_append_right (by simpa using hi)] at e
   simp only[List.length_map] at e
   by_cases h0:i=ts.length
   ·subst h0
    rw[Nat.sub_self] at e
    cases e
    unfold L2.start
    rw[List.getElem?_append_left (by simp; lia),List.getElem?_map,List.getElem?_append_right (by lia),hl,Nat.sub_self]
    exact qjU qft hb hs.inn λ_=>rfl
   ·obtain ⟨k,hk⟩: ∃k,i - ts.length=k+1:=⟨i - ts.length - 1,by lia⟩
    rw[hk,List.getElem?_cons_succ,List.getElem?_replicate] at e
    split at e
    ·cases e; trivial
    ·cases e
 ·have one: ∀(l:Nat) (u:Sl),(ts.map Sl.fz++s.inn::List.replicate (N.length - ts.length - 1) Sl.no)[l]? =some u->u.own=true->l=ts.length:=λl u el ol=>by
   by_cases hi:l<ts.length
   ·rw[List.getElem?_append_left (by simpa using hi),List.getElem?_map] at el
    cases q:ts[l]? with
    | none=>rw[q] at el; cases el
    | some t=>rw[q] at el; cases el; cases ol
   ·rw[List.getElem?_append_right (by simpa using hi)] at el
    simp only[List.length_map] at el
    by_cases h0:l=ts.length
    ·exact h0
    ·obtain ⟨k,hk⟩: ∃k,l - ts.length=k+1:=⟨l - ts.length - 1,by lia⟩
     rw[hk,List.getElem?_cons_succ,List.getElem?_replicate] at el
     split at el
     ·cases el; cases ol
     ·cases el
  exact absurd ((one i si ei oi).trans (one j sj ej oj).symm) hij
theorem qh2 {n:Nat} {r:Sl} {ρ:Ro} {k:Sl×Sl->Prop} {M:Md} {H0:Hp} (w:Wnt M H0 k (qsg ρ n r)): ∃s,ρ[n]? =some s/\r.ret=true/\s.isP=true/\k (r,s.out):=by
 unfold qsg at w
 split at w
 ·rename_i s e
  split at w
  ·rename_i c; exact ⟨s,e,c.1,c.2,w⟩
  ·exact w.elim
 ·exact w.elim
theorem qk3 {s:Sl} (h:s.isP=true):s.isD=true:=by cases s<;>first | rfl | cases h
theorem qlj {d:Ro->Rs Out} {n:Nat} {N:List Str} {vs:List V} {H:Hp} {Q:VK} (h:spQ K G C (fnQ n N.length d) vs H Q E): ∃p,tS ⟨K,G,E,C,p⟩ d { nx:=λ_ H'=>Q .non H',rt:=Q } (start N vs) H:=by
 obtain ⟨B,ts,s,p,vs0,rfl,le,bt,m,r,hb,hs,w⟩:=h
 refine ⟨p,?_⟩
 unfold qr4 fnQ at w
 split at w
 ·rename_i hl
  obtain ⟨hl,hn⟩:=hl
  subst hl
  refine ⟨_,B,_,B,qll le bt m r hn hb hs,?_⟩
  have w:=Wnt.bind w
  cases q:d (ts.map .fz++s.inn::List.replicate (N.length - ts.length - 1) .no) with
  | no=>rw[q] at w; exact w
  | ex c=>rw[q] at w; exact w
  | ok o=>
   rw[q] at w
   have w1:Wnt ⟨K,G,E,C,0⟩ (hid H p) _ (qjJ ts.length o):=w
   cases o with
   | rt t=>exact w1.elim
   | bk ρ=>exact w1.elim
   | ct ρ=>exact w1.elim
   | nx ρ=>
    obtain ⟨s',e1,_,e2,k⟩:=qh2 w1
    intro σ' H' B' ev _
    obtain ⟨p',a1,a2,a3,a4,a5⟩:=qjV (ev.sl _ _ e1) (qk3 e2)
    have:=a5 e2; subst this
    exact k .non H' B' ev.gr ev.gm rfl ⟨_,rfl,by unfold Rep; rfl⟩ a3 a4.out
   | rs r ρ=>
    obtain ⟨s',e1,er,e2,k⟩:=qh2 w1
    intro v σ' H' B' ev _
    have e1':(r::ρ)[ts.length+1]? =some s':=by simpa using e1
    obtain ⟨p',a1,a2,a3,a4,a5⟩:=qjV (ev.sl _ _ e1') (qk3 e2)
    have:=a5 e2; subst this
    exact k v H' B' ev.gr ev.gm er (qhQ er (ev.sl 0 r rfl)) a3 a4.out
 ·exact w.elim
theorem qoK {d:Ro->Rs Out} {n N:Nat} {vs:List V} {H:Hp} {Q:VK} (h:spQ K G C (fnQ n N d) vs H Q E):vs.length=n+1:=by
 obtain ⟨B,ts,s,p,vs0,rfl,le,bt,m,r,hb,hs,w⟩:=h
 unfold qr4 fnQ at w
 split at w
 ·rename_i hl
  rw[List.length_append,r.length,hl.1]; rfl
 ·exact w.elim
end
section
variable {P:Program} {w:World} {K:PySem.W.Frag} {mg:Str->Option Value} {base:Heap} {G:Gam} {C:Str->Addr}
theorem qdJ {x qual:Str} {st:Stmt} {f:Addr} {fd:FuncData} {N ps:List Str} {n k:Nat} {d:Ro->Rs Out} (F:Fun K x qual st f fd) (S:qav N ps (qah st)) (hn:ps.length=n+1)
  (hbody: ∀(cdv:Value) (A:Around) (outer:List Env) (s:Shared) (H:Hp) (E:XK) (p:Addr),qcE k (A.deeper (PyProof.Rows.envOfC qual (qah st) s.heap.objs.size f cdv))->
   DSs ⟨K,G,E,C,p⟩ (qnF CX0 P w K mg base N qual (qah st) f cdv A outer s H E).nox (qbp st) d):qbf P w K mg base CX0 (k+1) f fd ps (spQ K G C (fnQ n N.length d)):=by
 exact F.ok S (λvs H Q E h=>by rw[hn]; exact qoK h) λcdv A outer s H vs Q E hr h=>by
  obtain ⟨p,q⟩:=qlj h
  exact ⟨_,hbody cdv A outer s H E p hr,q⟩
def KnQ (P:Program) (w:World) (K:PySem.W.Frag) (mg:Str->Option Value) (base:Heap) (G:Gam) (C:Str->Addr) (x:Str) (ps:List Str) (k:Nat) (fQ:List T->Sl->Rs (Sl×Sl)):Prop:=
 ∃f fd,qbf P w K mg base CX0 k f fd ps (spQ K G C fQ)/\mg x=some (.ref f)/\PySem.W.keepIn K (.ref f)=true/\qdB K fd ps []
end
section
variable {M:Md} {H0 B0 H B H' B':Hp} {ρ:Ro} {σ:St}
theorem Ev.getD' (v:Ev M H0 B0 ρ σ H B) {i:Nat} {s:Sl} (e:ρ[i]? =some s) (hd:s.isD=true): ∃p,σ[i]? =some (some (.ref p))/\H0 p=none/\B p=none/\DAt M.K H B p s/\(s.isP=true->p=M.pa):=by
 obtain ⟨p,e1,r⟩:=qjV (v.sl i _ e) hd
 refine ⟨p,?_,r⟩
 cases q:σ[i]? with
 | none=>rw[q] at e1; cases e1
 | some o=>rw[q] at e1; cases o with
  | none=>cases e1
  | some y=>cases e1; rfl
theorem qhe {s:Sl} (h:s.isD=true):s.own=true:=by cases s<;>first | rfl | cases h
theorem qms {K:PySem.W.Frag} {pa p:Addr} {s:Sl} {o:Option V} (h:qgG K H0 H B pa s o) (g:qa5 (hid H p) B H' B') (ne:s.own=true->o≠some (.ref p)):qgG K H0 H' B' pa s o:=by
 have key: ∀{q:Addr} {u:HO},o=some (.ref q)->s.own=true->H q=some u->(∀ps,u≠.tbl ps)->(∀vs,u≠.tup vs)->B q=none->H' q=some u/\B' q=none:=λ{q u} eo so hq nt nt2 hb=>by
  have nq:q≠p:=λz=>ne so (by rw[eo,z])
  have hh:hid H p q=some u:=by rw[qbK nq]; exact hq
  exact ⟨g.gx.hh _ _ hh nt,by rw[g.nw q u hh nt2 nt]; exact hb⟩
 cases s with
 | no=>trivial
 | fz t=>obtain ⟨v,e,r⟩:=h; exact ⟨v,e,r.mono g.bb⟩
 | ow ts=>
  obtain ⟨q,vs,e,h0,hb,hp,r⟩:=h
  obtain ⟨a,b⟩:=key e rfl hp (λps z=>by cases z) (λps z=>by cases z) hb
  exact ⟨q,vs,e,h0,b,a,r.mono g.bb⟩
 | od ts=>
  obtain ⟨q,vs,e,h0,hb,hp,r⟩:=h
  obtain ⟨a,b⟩:=key e rfl hp (λps z=>by cases z) (λps z=>by cases z) hb
  exact ⟨q,vs,e,h0,b,a,r.mono g.bb⟩
 | ou ts=>
  obtain ⟨q,vs,e,h0,hb,hp,r⟩:=h
  obtain ⟨a,b⟩:=key e rfl hp (λps z=>by cases z) (λps z=>by cases z) hb
  exact ⟨q,vs,e,h0,b,a,r.mono g.bb⟩
 | pd ts=>
  obtain ⟨q,vs,e0,e,h0,hb,hp,r⟩:=h
  obtain ⟨a,b⟩:=key e rfl hp (λps z=>by cases z) (λps z=>by cases z) hb
  exact ⟨q,vs,e0,e,h0,b,a,r.mono g.bb⟩
 | pu ts=>
  obtain ⟨q,vs,e0,e,h0,hb,hp,r⟩:=h
  obtain ⟨a,b⟩:=key e rfl hp (λps z=>by cases z) (λps z=>by cases z) hb
  exact ⟨q,vs,e0,e,h0,b,a,r.mono g.bb⟩
theorem qa5.unhid {p:Addr} (g0:qa5 H0 B0 H B) (h0:H0 p=none) (g:qa5 (hid H p) B H' B'):qa5 H0 B0 H' B':=by
 have nz: ∀a,H0 a≠none->a≠p:=λa z e=>z (by rw[e]; exact h0)
 refine ⟨⟨λa o h n=> ?_,λa h=> ?_⟩,g0.bb.trans g.bb,g.bh,g.bt,λa o h n1 n2=> ?_⟩
 ·have:=g0.gx.hh a o h n
  exact g.gx.hh a o (by rw[qbK (nz a (by rw[h]; simp))]; exact this) n
 ·exact g.gx.dm a (by rw[qbK (nz a h)]; exact g0.gx.dm a h)
 ·rw[g.nw a o (by rw[qbK (nz a (by rw[h]; simp))]; exact g0.gx.hh a o h n2) n1 n2]; exact g0.nw a o h n1 n2
def Sl.like (s s':Sl):Sl:=if s.isP=true then s'.inn else s'.out
theorem qm3 {s s':Sl} (h:s.isD=true) (h':s'.isD=true):(s.like s').isP=s.isP/\(s.like s').isD=true:=by
 cases s<;>cases s'<;>first | exact ⟨rfl,rfl⟩ | exact absurd h (by decide) | exact absurd h' (by decide) | exact absurd h Bool.false_ne_true | exact absurd h' Bool.false_ne_true
theorem qpw {K:PySem.W.Frag} {p:Addr} {s s':Sl} (h:DAt K H B p s'):DAt K H B p (s.like s'):=by
 unfold Sl.like
 split
 ·exact h.inn
 ·exact h.out
theorem Ev.behindQ {i:Nat} {p:Addr} {s s':Sl} (v:Ev M H0 B0 ρ σ H B) (e:ρ[i]? =some s) (hd:s.isD=true) (es:σ[i]? =some (some (.ref p))) (g:qa5 (hid H p) B H' B') (m:M.G.P H') (hb:B' p=none) (hs:DAt M.K H' B' p s'):
  Ev M H0 B0 (ρ.set i (s.like s')) σ H' B':=by
 obtain ⟨p',es',h0,hb0,hs0,hp⟩:=v.getD' e hd
 rw[es] at es'; cases es'
 have hi:i<ρ.length:=(List.getElem?_eq_some_iff.mp e).1
 obtain ⟨lp,ld⟩:=qm3 hd hs.isD
 have own_at: ∀(l:Nat) (sl:Sl),(ρ.set i (s.like s'))[l]? =some sl->sl.own=true->∃sl',ρ[l]? =some sl'/\sl'.own=true:=λl sl el ol=>by
  rw[List.getElem?_set] at el
  by_cases q:i=l
  ·subst q; exact ⟨s,e,qhe hd⟩
  ·rw[if_neg q] at el; exact ⟨sl,el,ol⟩
 refine ⟨v.gr.unhid h0 g,m,by simp[v.len],λj u ej=> ?_,λj k sj sk q hjk ej ek oj ok a=> ?_⟩
 ·rw[List.getElem?_set] at ej
  by_cases q:i=j
  ·subst q
   rw[if_pos rfl,if_pos hi] at ej
   cases ej
   rw[es]
   exact qjU h0 hb (qpw hs) λz=>hp (by rw[<-lp]; exact z)
  ·rw[if_neg q] at ej
   exact qms (v.sl j u ej) g λou z=>v.ap i j s u p q e ej (qhe hd) ou (by rw[es]; rfl) z
 ·obtain ⟨sj',e1,o1⟩:=own_at j sj ej oj
  obtain ⟨sk',e2,o2⟩:=own_at k sk ek ok
  exact v.ap j k sj' sk' q hjk e1 e2 o1 o2 a
end
section
variable {M:Md} {H0 B0 H B H' B':Hp} {ρ:Ro} {σ:St}
theorem Ev.cons (ev:Ev M H0 B0 ρ σ H B) {s:Sl} {v:V} (hs:qgG M.K H0 H B M.pa s (some v)) (ap:s.own=true->∀(j:Nat) (u:Sl) (p:Addr),ρ[j]? =some u->u.own=true->v= .ref p->σ[j]?.join≠some (.ref p)):Ev M H0 B0 (s::ρ) (some v::σ) H B:=by
 refine ⟨ev.gr,ev.gm,by simp[ev.len],λi u e=> ?_,λi j si sj p hij ei ej oi oj a=> ?_⟩
 ·cases i with
  | zero=>cases e; exact hs
  | succ i=>simpa using ev.sl i u (by simpa using e)
 ·cases i with
  | zero=>
   cases j with
   | zero=>exact absurd rfl hij
   | succ j=>
    cases ei
    have a:v= .ref p:=by simpa using a
    simpa using ap oi j sj p (by simpa using ej) oj a
  | succ i=>
   cases j with
   | zero=>
    cases ej
    intro z
    have z:v= .ref p:=by simpa using z
    exact ap oj i si p (by simpa using ei) oi z (by simpa using a)
   | succ j=>simpa using ev.ap i j si sj p (λz=>hij (by rw[z])) (by simpa using ei) (by simpa using ej) oi oj (by simpa using a)
theorem Ev.store (ev:Ev M H0 B0 (s::ρ) (some v::σ) H B) (j:Nat):Ev M H0 B0 (ρ.set j s) (σ.set j (some v)) H B:=by
 have hl:ρ.length=σ.length:=by simpa using ev.len
 have look: ∀(i:Nat) (u:Sl),(ρ.set j s)[i]? =some u->∃k,(s::ρ)[k]? =some u/\(some v::σ)[k]?.join=(σ.set j (some v))[i]?.join/\(i=j↔k=0)/\(i≠j->k=i+1):=λi u e=>by
  rw[List.getElem?_set] at e
  by_cases q:j=i
  ·subst q
   rw[if_pos rfl] at e
   split at e
   ·rename_i h
    cases e
    exact ⟨0,rfl,by rw[List.getElem?_set_self (by omega)]; rfl,⟨λ_=>rfl,λ_=>rfl⟩,λz=>absurd rfl z⟩
   ·cases e
  ·rw[if_neg q] at e
   exact ⟨i+1,by simpa using e,by rw[List.getElem?_set_ne q]; simp,⟨λz=>absurd z.symm q,λz=>by omega⟩,λ_=>rfl⟩
 refine ⟨ev.gr,ev.gm,by simp[hl],λi u e=> ?_,λi k si sk p hik ei ek oi ok a=> ?_⟩
 ·obtain ⟨m,e1,e2,_⟩:=look i u e
  rw[<-e2]
  exact ev.sl m u e1
 ·obtain ⟨m,e1,e2,e3,e4⟩:=look i si ei
  obtain ⟨n,f1,f2,f3,f4⟩:=look k sk ek
  rw[<-e2] at a
  rw[<-f2]
  refine ev.ap m n si sk p (λz=>hik ?_) e1 f1 oi ok a
  by_cases c1:i=j
  ·by_cases c2:k=j
   ·rw[c1,c2]
   ·have:=e3.mp c1; have:=f4 c2; omega
  ·by_cases c2:k=j
   ·have:=f3.mp c2; have:=e4 c1; omega
   ·have:=e4 c1; have:=f4 c2; omega
theorem Ev.consNew {Hc Bc:Hp} {s:Sl} {v:V} (evc:Ev M H0 B0 ρ σ Hc Bc) (ev:Ev M H0 B0 ρ' σ H' B') (same: ∀(j:Nat) (u:Sl),ρ'[j]? =some u->u.own=true->∃u',ρ[j]? =some u'/\u'.own=true) (r:s.ret=true) (hs:qgG M.K Hc H' B' 0 s (some v)):Ev M H0 B0 (s::ρ') (some v::σ) H' B':=by
 cases s with
 | fz t=>exact ev.cons hs (λz=>by cases z)
 | ow ts=>
  obtain ⟨q,vs,e,h0,hb,hp,rr⟩:=hs
  cases e
  refine ev.cons ⟨q,vs,rfl,qbA evc.gr.gx h0,hb,hp,rr⟩ λ_ j u p ej ou ep z=> ?_
  cases ep
  obtain ⟨u',ej',ou'⟩:=same j u ej ou
  obtain ⟨o,ho⟩: ∃o,Hc q=some o:=by
   have:=evc.sl j u' ej'
   cases u' with
   | no=>cases ou'
   | fz t=>cases ou'
   | ow _=>obtain ⟨p',vs',a1,_,_,a4,_⟩:=this; rw[z] at a1; cases a1; exact ⟨_,a4⟩
   | od _=>obtain ⟨p',vs',a1,_,_,a4,_⟩:=this; rw[z] at a1; cases a1; exact ⟨_,a4⟩
   | ou _=>obtain ⟨p',vs',a1,_,_,a4,_⟩:=this; rw[z] at a1; cases a1; exact ⟨_,a4⟩
   | pd _=>obtain ⟨p',vs',_,a1,_,_,a4,_⟩:=this; rw[z] at a1; cases a1; exact ⟨_,a4⟩
   | pu _=>obtain ⟨p',vs',_,a1,_,_,a4,_⟩:=this; rw[z] at a1; cases a1; exact ⟨_,a4⟩
  rw[h0] at ho; cases ho
 | _=>cases r
end
end PL
end
section
namespace PL
open PySem L2
def qeG (ρ:Ro) (i:Nat):Rs Sl:=match ρ[i]? with | some s=>if s.isD=true then .ok s else .no | none=>.no
theorem qc8 {ρ:Ro} {i:Nat} {α:Type} {M:Md} {H0:Hp} {k:α->Prop} {f:Sl->Rs α} (w:Wnt M H0 k (qeG ρ i>>=f)): ∃s,ρ[i]? =some s/\s.isD=true/\Wnt M H0 k (f s):=by
 unfold qeG at w
 cases e:ρ[i]? with
 | none=>rw[e] at w; exact w.elim
 | some s=>
  rw[e] at w
  dsimp only at w
  split at w
  ·exact ⟨s,rfl,by assumption,w⟩
  ·exact w.elim
def tPV (M:Md) (ds:Ro->Rs (List T)) (i:Nat):TA:=λσ H Q=> ∃H0 B0 ρ B,Ev M H0 B0 ρ σ H B/\(∃s,ρ[i]? =some s/\s.isD=true)/\
 Wnt M H0 (λts=> ∀vs p H' B',qa5 H B H' B'->M.G.P H'->qaP M.K B' ts vs->σ[i]? =some (some (.ref p))->Q (vs++[.ref p]) H') (ds ρ)
section
variable {M:Md} {X:Cx} {e a b c:Expr} {es:List Expr} {pos p pos':Pos} {i j k:Nat} {x y:Str} {da db dc:Ro->Rs T} {ds:Ro->Rs (List T)} {ps:List Str} {fQ:List T->Sl->Rs (Sl×Sl)} {fS:List T->Rs Sl} {fT:List T->Rs T} {dl:Ro->Rs (List T)}
theorem qew (h:PE X e (qhM i)) (hst:starEach [e] X.env=(false,eval e X.env)::starEach [] X.env:=by rfl):PA X [e] (tPV M qaq i):=by
 refine PA.weak (qas h qaL hst) λσ H Q hq=> ?_
 obtain ⟨H0,B0,ρ,B,ev,⟨s,es,hd⟩,w⟩:=hq
 obtain ⟨p,e1,_⟩:=ev.getD' es hd
 exact ⟨.ref p,e1,w [] p H B (.refl ev.bh ev.bt) ev.gm .nil e1⟩
theorem qca (ha:DE M X e da) (hs:PA X es (tPV M ds i)) (hst:starEach (e::es) X.env=(false,eval e X.env)::starEach es X.env:=by rfl):PA X (e::es) (tPV M (qab da ds) i):=by
 refine PA.weak (qas ha hs hst) λσ H Q hq=> ?_
 obtain ⟨H0,B0,ρ,B,ev,hd,w⟩:=hq
 refine tP.of ev (Wnt.mono (Wnt.bind w) λx w1 v H1 B1 g1 m1 r1=> ?_)
 refine ⟨H0,B0,ρ,B1,ev.grow g1 m1,hd,Wnt.mono (Wnt.bind w1) λxs w2 u p H2 B2 g2 m2 r2 e2=> ?_⟩
 exact w2 (v::u) p H2 B2 (g1.trans g2) m2 (.cons (r1.mono g2.bb) r2) e2
def tU (M:Md) (i:Nat) (ds:Ro->Rs (List T)) (fQ:List T->Sl->Rs (Sl×Sl)):TE:=λσ H Q=> ∃H0 B0 ρ B,Ev M H0 B0 ρ σ H B/\
 Wnt M H0 (λr:Sl×Ro=> ∀v H' B',Ev M H0 B0 (r.1::r.2) (some v::σ) H' B'->Le B B'->Q v H') (qeG ρ i>>=λs=>ds ρ>>=λts=>fQ ts s>>=λr=>.ok (r.1,ρ.set i (s.like r.2)))
theorem qiS {K:PySem.W.Frag} {H H' B':Hp} {p:Addr} {s u:Sl} {v:V} (r:s.ret=true) (h:qgG K (hid H p) H' B' 0 s (some v)) (d:DAt K H' B' p u):qgG K H H' B' 0 s (some v):=by
 cases s with
 | fz t=>exact h
 | ow ts=>
  obtain ⟨q,vs,e,h0,hb,hp,rr⟩:=h
  refine ⟨q,vs,e,?_,hb,hp,rr⟩
  rw[qbK (λz=> ?_)] at h0
  ·exact h0
  ·subst z
   cases u with
   | od k=>obtain ⟨us,a,_⟩:=d; rw[hp] at a; cases a
   | pd k=>obtain ⟨us,a,_⟩:=d; rw[hp] at a; cases a
   | ou k=>obtain ⟨us,a,_⟩:=d; rw[hp] at a; cases a
   | pu k=>obtain ⟨us,a,_⟩:=d; rw[hp] at a; cases a
   | _=>exact d.elim
 | _=>cases r
theorem qe9 {σ:St} {H:Hp} {Q:VK} (h:tU M i ds fQ σ H Q):qgP (spQ M.K M.G M.C fQ) [] M.E (tPV M ds i) σ H Q:=by
 obtain ⟨H0,B0,ρ,B,ev,w⟩:=h
 obtain ⟨s,e1,hd,w⟩:=qc8 w
 refine ⟨H0,B0,ρ,B,ev,⟨s,e1,hd⟩,Wnt.mono (Wnt.bind w) λts w1 vs p H1 B1 g1 m1 r1 es=> ?_⟩
 have ev1:=ev.grow g1 m1
 obtain ⟨p',es',h0,hb,hs,_⟩:=ev1.getD' e1 hd
 rw[es] at es'; cases es'
 refine ⟨B1,ts,s,p,vs,by rw[List.append_nil],ev1.bh,ev1.bt,m1,r1,hb,hs,?_⟩
 have w1:=Wnt.bind w1
 unfold qr4
 cases q:fQ ts s with
 | no=>rw[q] at w1; exact w1
 | ok r=>
  rw[q] at w1
  intro v H' B' g m er hr hb' hs'
  refine w1 v H' B' (ev1.consNew (ev1.behindQ e1 hd es g m hb' hs') (λj u ej ou=> ?_) er (qiS er hr hs')) (g1.bb.trans g.bb)
  rw[List.getElem?_set] at ej
  by_cases c:i=j
  ·subst c; exact ⟨s,e1,qhe hd⟩
  ·rw[if_neg c] at ej; exact ⟨u,ej,ou⟩
 | ex c=>
  rw[q] at w1
  refine λH' g m=>w1 H' ⟨λa o h n=> ?_,λa h=> ?_⟩ m
  ·have:=ev1.gr.gx.hh a o h n
   exact g.hh a o (by rw[qbK (λz=>by subst z; rw[h0] at h; cases h)]; exact this) n
  ·exact g.dm a (by rw[qbK (λz=>h (by rw[z]; exact h0))]; exact ev1.gr.gx.dm a h)
theorem qmW (F:KnQ X.prog X.w X.K X.mg X.base M.G M.C x ps k fQ) (hK:X.K=M.K) (hr:qcE k X.A) (hg:Gl X x) (ha:PA X (e::es) (tPV M ds i)) (hdb:(x==("__debug__" :Str))=false:=by decide)
  (he:starEach (e::es) X.env=(false,eval e X.env)::starEach es X.env:=by rfl) (hpl:(backTo pos (starEach es X.env)).any (·.1)=false:=by rfl):PE X (.Call (.Name x p) (e::es) [] pos) (tU M i ds fQ):=by
 obtain ⟨f,fd,G,m,kk,bb⟩:=F
 rw[hK] at G
 exact PE.weak (qdt (by rw[hK]; exact G) hr hg m kk bb .nil qi2 ha hdb he hpl) λσ H Q h=>qe9 h
def qlI (j i:Nat) (ds:Ro->Rs (List T)) (fQ:List T->Sl->Rs (Sl×Sl)):Ro->Rs Out:=λρ=>qeG ρ i>>=λs=>ds ρ>>=λts=>fQ ts s>>=λr=>.ok (.nx ((ρ.set i (s.like r.2)).set j r.1))
theorem qpN (hN:X.N.Nodup) (hi:X.N[j]? =some x) (hx:Loc X.env.scope x) (h:PE X e (tU M i ds fQ)) (hs:swapsWith e (some (.Name x pos')) pos.line X.env=pure false:=by rfl) (hf:X.fn x=true\/X.env.scope.names.lookup x=some .local:=by first | exact .inl rfl | exact .inr rfl | assumption):
  DS M X (.Assign [.Name x pos'] e pos) (qlI j i ds fQ):=by
 refine PS.weak (qfV hN hi hx h hs hf) λD σ H hq=> ?_
 obtain ⟨H0,B0,ρ,B,ev,w⟩:=hq
 refine ⟨H0,B0,ρ,B,ev,?_⟩
 unfold qlI at w
 cases q1:qeG ρ i with
 | no=>rw[q1] at w; exact w
 | ex c=>rw[q1] at w; exact w
 | ok s=>
  rw[q1] at w
  rw[qag] at w⊢
  cases q2:ds ρ with
  | no=>rw[q2] at w; exact w
  | ex c=>rw[q2] at w; exact w
  | ok ts=>
   rw[q2] at w
   rw[qag] at w⊢
   cases q3:fQ ts s with
   | no=>rw[q3] at w; exact w
   | ex c=>rw[q3] at w; exact w
   | ok r=>
    rw[q3] at w
    exact λv H' B' ev' le=>w _ H' B' (ev'.store j) le
def qp3 (i:Nat) (ds:Ro->Rs (List T)) (fQ:List T->Sl->Rs (Sl×Sl)):Ro->Rs Out:=λρ=>qeG ρ i>>=λs=>ds ρ>>=λts=>fQ ts s>>=λr=>.ok (.rs r.1 (ρ.set i (s.like r.2)))
def qbP (dl:Ro->Rs (List T)):Ro->Rs Out:=λρ=>dl ρ>>=λts=>.ok (.rs (.ow ts) ρ)
theorem qcu (h:DF M X e dl):DS M X (.Return (some e) pos) (qbP dl):=by
 refine PS.weak (qcK h) λD σ H hq=> ?_
 obtain ⟨H0,B0,ρ,B,ev,w⟩:=hq
 exact tF.of ev (Wnt.mono (Wnt.bind w) λts w1 p vs H1 B1 g1 m1 hp hb hl r1=>w1 (.ref p) σ H1 B1 (ev.consNew (ev.grow g1 m1) (λj u ej ou=>⟨u,ej,ou⟩) rfl ⟨p,vs,rfl,hp,hb,hl,r1⟩) g1.bb)
def qgp (i:Nat):Ro->Rs Out:=λρ=>match ρ[i]? with | some (.ow ts)=>.ok (.rs (.ow ts) (ρ.set i .no)) | _=>.no
theorem Ev.drop {H0 B0 H B:Hp} {ρ:Ro} {σ:St} (ev:Ev M H0 B0 ρ σ H B) (i:Nat):Ev M H0 B0 (ρ.set i .no) σ H B:=by
 have look: ∀(j:Nat) (u:Sl),(ρ.set i .no)[j]? =some u->u= .no\/ρ[j]? =some u:=λj u e=>by
  rw[List.getElem?_set] at e
  split at e
  ·split at e
   ·exact .inl (Option.some.inj e).symm
   ·cases e
  ·exact .inr e
 refine ⟨ev.gr,ev.gm,by simp[ev.len],λj u e=> ?_,λj k sj sk p hjk ej ek oj ok a=> ?_⟩
 ·rcases look j u e with rfl | e
  ·trivial
  ·exact ev.sl j u e
 ·rcases look j sj ej with rfl | ej
  ·cases oj
  ·rcases look k sk ek with rfl | ek
   ·cases ok
   ·exact ev.ap j k sj sk p hjk ej ek oj ok a
theorem qdy (h:PE X e (qhM i)):DS M X (.Return (some e) pos) (qgp i):=by
 refine PS.weak (qcK h) λD σ H hq=> ?_
 obtain ⟨H0,B0,ρ,B,ev,w⟩:=hq
 unfold qgp at w
 split at w
 ·rename_i ts e1
  obtain ⟨p,vs,es,h0,hb,hp,rr⟩:=ev.getOw e1
  refine ⟨.ref p,es,w (.ref p) σ H B ((ev.drop i).cons ⟨p,vs,rfl,h0,hb,hp,rr⟩ λ_ j u q ej ou ep z=> ?_) (.refl _)⟩
  cases ep
  rw[List.getElem?_set] at ej
  split at ej
  ·split at ej
   ·cases ej; cases ou
   ·cases ej
  ·rename_i c
   exact ev.ap i j (.ow ts) u p c e1 ej rfl ou (by rw[es]; rfl) z
 ·exact w.elim
def spS (K:PySem.W.Frag) (G:Gam) (C:Str->Addr) (f:List T->Rs Sl):Sp:=λvs H Q E=> ∃B ts,Le B H/\(∀a ps,B a≠some (.tbl ps))/\G.P H/\qaP K B ts vs/\
 Wnt ⟨K,G,E,C,0⟩ H (λs=> ∀v H' B',qa5 H B H' B'->G.P H'->s.ret=true->qgG K H H' B' 0 s (some v)->Q v H') (f ts)
def qpe:Out->Rs Sl
 | .rs s _=>if s.ret=true then .ok s else .no
 | .rt t=>.ok (.fz t)
 | .nx _=>.ok (.fz .non)
 | _=>.no
def fnS (n N:Nat) (d:Ro->Rs Out):List T->Rs Sl:=λts=>if ts.length=n then d (ts.map .fz++List.replicate (N - n) .no)>>=qpe else .no
theorem qli {K:PySem.W.Frag} {G:Gam} {C:Str->Addr} {E:XK} {d:Ro->Rs Out} {n:Nat} {N:List Str} {vs:List V} {H:Hp} {Q:VK} (hn:n<=N.length) (h:spS K G C (fnS n N.length d) vs H Q E):tS ⟨K,G,E,C,0⟩ d { nx:=λ_ H'=>Q .non H',rt:=Q } (start N vs) H:=by
 obtain ⟨B,ts,le,bt,m,r,w⟩:=h
 unfold fnS at w
 split at w
 ·rename_i hl
  refine ⟨H,B,_,B,qit le bt m r (by omega),?_⟩
  rw[hl]
  refine Wnt.mono (Wnt.bind w) λo w1=> ?_
  cases o with
  | rt t=>exact λv H' B' g m r=>w1 v H' B' g m rfl ⟨v,rfl,r⟩
  | nx ρ=>exact λσ' H' B' ev _=>w1 .non H' B' ev.gr ev.gm rfl ⟨_,rfl,by unfold Rep; rfl⟩
  | bk ρ=>exact w1.elim
  | ct ρ=>exact w1.elim
  | rs s ρ=>
   have w1:Wnt ⟨K,G,E,C,0⟩ H _ (if s.ret=true then .ok s else .no):=w1
   split at w1
   ·rename_i er
    exact λv σ' H' B' ev _=>w1 v H' B' ev.gr ev.gm er (qhQ er (ev.sl 0 s rfl))
   ·exact w1.elim
 ·exact w.elim
theorem qoJ {K:PySem.W.Frag} {G:Gam} {C:Str->Addr} {E:XK} {d:Ro->Rs Out} {n N:Nat} {vs:List V} {H:Hp} {Q:VK} (h:spS K G C (fnS n N d) vs H Q E):vs.length=n:=by
 obtain ⟨B,ts,le,bt,m,r,w⟩:=h
 unfold fnS at w
 split at w
 ·rename_i hl
  rw[r.length]; exact hl
 ·exact w.elim
theorem qe3 {P:Program} {w:World} {K:PySem.W.Frag} {mg:Str->Option Value} {base:Heap} {G:Gam} {C:Str->Addr} {x qual:Str} {st:Stmt} {f:Addr} {fd:FuncData} {N ps:List Str} {k:Nat} {d:Ro->Rs Out} (F:Fun K x qual st f fd) (S:qav N ps (qah st))
  (hbody: ∀(cdv:Value) (A:Around) (outer:List Env) (s:Shared) (H:Hp) (E:XK),qcE k (A.deeper (PyProof.Rows.envOfC qual (qah st) s.heap.objs.size f cdv))->
   DSs ⟨K,G,E,C,0⟩ (qnF CX0 P w K mg base N qual (qah st) f cdv A outer s H E).nox (qbp st) d):qbf P w K mg base CX0 (k+1) f fd ps (spS K G C (fnS ps.length N.length d)):=by
 have hpl:ps.length<=N.length:=by have:=congrArg List.length S.pre; rw[List.length_take] at this; omega
 exact F.ok S (λvs H Q E h=>qoJ h) λcdv A outer s H vs Q E hr h=>⟨_,hbody cdv A outer s H E hr,qli hpl h⟩
def KnS (P:Program) (w:World) (K:PySem.W.Frag) (mg:Str->Option Value) (base:Heap) (G:Gam) (C:Str->Addr) (x:Str) (ps:List Str) (k:Nat) (fS:List T->Rs Sl):Prop:=
 ∃f fd,qbf P w K mg base CX0 k f fd ps (spS K G C fS)/\mg x=some (.ref f)/\PySem.W.keepIn K (.ref f)=true/\qdB K fd ps []
def quq:Sl->Rs T
 | .fz t=>.ok t
 | .ow ts=>.ok (.lst ts)
 | _=>.no
def qr7 (fS:List T->Rs Sl):List T->Rs T:=λts=>fS ts>>=quq
theorem qmt {K:PySem.W.Frag} {H B H' B':Hp} {s:Sl} {v:V} (g:qa5 H B H' B') (r:s.ret=true) (h:qgG K H H' B' 0 s (some v)): ∃t B2,quq s= .ok t/\qa5 H B H' B2/\Rep K B2 t v:=by
 cases s with
 | fz t=>obtain ⟨x,e,r⟩:=h; cases e; exact ⟨t,B',rfl,g,r⟩
 | ow ts=>
  obtain ⟨q,vs,e,h0,hb,hp,rr⟩:=h
  cases e
  obtain ⟨g2,le⟩:=g.freeze h0 hb hp
  exact ⟨.lst ts,_,rfl,g2,qkH qal (rr.mono le)⟩
 | _=>cases r
theorem qsK {K:PySem.W.Frag} {G:Gam} {C:Str->Addr} {vs:List V} {H:Hp} {Q:VK} {E:XK} (h:spP K G C (qr7 fS) vs H Q E):spS K G C fS vs H Q E:=by
 obtain ⟨B,ts,le,bt,m,r,w⟩:=h
 refine ⟨B,ts,le,bt,m,r,?_⟩
 unfold qr7 at w
 have w:=Wnt.bind (qay.mp w)
 refine Wnt.mono w λs w1 v H' B' g m' er hs=> ?_
 obtain ⟨t,B2,e1,g2,r2⟩:=qmt g er hs
 rw[e1] at w1
 exact w1 v H' B2 g2 m' r2
theorem KnS.kn {P:Program} {w:World} {K:PySem.W.Frag} {mg:Str->Option Value} {base:Heap} {G:Gam} {C:Str->Addr} (h:KnS P w K mg base G C x ps k fS):Kn P w K mg base G C x ps k (qr7 fS):=by
 obtain ⟨f,fd,F,r⟩:=h
 exact ⟨f,fd,F.imp λvs H Q E h=>qsK h,r⟩
def tS' (M:Md) (ds:Ro->Rs (List T)) (fS:List T->Rs Sl):TE:=λσ H Q=> ∃H0 B0 ρ B,Ev M H0 B0 ρ σ H B/\
 Wnt M H0 (λs:Sl=> ∀v H' B',Ev M H0 B0 (s::ρ) (some v::σ) H' B'->Le B B'->Q v H') (ds ρ>>=fS)
theorem qfa {σ:St} {H:Hp} {Q:VK} (h:tS' M ds fS σ H Q):qgP (spS M.K M.G M.C fS) [] M.E (tPA M ds) σ H Q:=by
 obtain ⟨H0,B0,ρ,B,ev,w⟩:=h
 refine tPA.of ev (Wnt.mono (Wnt.bind w) λts w1 vs H1 B1 g1 m1 r1=> ?_)
 have ev1:=ev.grow g1 m1
 refine ⟨B1,ts,ev1.bh,ev1.bt,m1,by rw[List.append_nil]; exact r1,?_⟩
 cases q:fS ts with
 | no=>rw[q] at w1; exact w1
 | ok s=>rw[q] at w1; exact λv H' B' g m er hs=>w1 v H' B' (ev1.consNew (ev1.grow g m) (λj u ej ou=>⟨u,ej,ou⟩) er hs) (g1.bb.trans g.bb)
 | ex c=>rw[q] at w1; exact λH' g m=>w1 H' (ev1.gr.gx.trans g) m
theorem qh1 (F:KnS X.prog X.w X.K X.mg X.base M.G M.C x ps k fS) (hK:X.K=M.K) (hr:qcE k X.A) (hg:Gl X x) (ha:DA M X (e::es) ds) (hdb:(x==("__debug__" :Str))=false:=by decide)
  (he:starEach (e::es) X.env=(false,eval e X.env)::starEach es X.env:=by rfl) (hpl:(backTo pos (starEach es X.env)).any (·.1)=false:=by rfl):PE X (.Call (.Name x p) (e::es) [] pos) (tS' M ds fS):=by
 obtain ⟨f,fd,G,m,kk,bb⟩:=F
 rw[hK] at G
 exact PE.weak (qdt (by rw[hK]; exact G) hr hg m kk bb .nil qi2 ha hdb he hpl) λσ H Q h=>qfa h
def qlJ (j:Nat) (ds:Ro->Rs (List T)) (fS:List T->Rs Sl):Ro->Rs Out:=λρ=>ds ρ>>=λts=>fS ts>>=λs=>.ok (.nx (ρ.set j s))
theorem qlv (hN:X.N.Nodup) (hi:X.N[j]? =some y) (hx:Loc X.env.scope y) (h:PE X e (tS' M ds fS)) (hs:swapsWith e (some (.Name y pos')) pos.line X.env=pure false:=by rfl) (hf:X.fn y=true\/X.env.scope.names.lookup y=some .local:=by first | exact .inl rfl | exact .inr rfl | assumption):
  DS M X (.Assign [.Name y pos'] e pos) (qlJ j ds fS):=by
 refine PS.weak (qfV hN hi hx h hs hf) λD σ H hq=> ?_
 obtain ⟨H0,B0,ρ,B,ev,w⟩:=hq
 refine ⟨H0,B0,ρ,B,ev,?_⟩
 unfold qlJ at w
 cases q2:ds ρ with
 | no=>rw[q2] at w; exact w
 | ex c=>rw[q2] at w; exact w
 | ok ts=>
  rw[q2] at w
  rw[qag] at w⊢
  cases q3:fS ts with
  | no=>rw[q3] at w; exact w
  | ex c=>rw[q3] at w; exact w
  | ok r=>rw[q3] at w; exact λv H' B' ev' le=>w _ H' B' (ev'.store j) le
def qjm (ds:Ro->Rs (List T)) (fS:List T->Rs Sl):Ro->Rs Out:=λρ=>ds ρ>>=λts=>fS ts>>=λs=>.ok (.rs s ρ)
theorem qpP (h:PE X e (tS' M ds fS)):DS M X (.Return (some e) pos) (qjm ds fS):=by
 refine PS.weak (qcK h) λD σ H hq=> ?_
 obtain ⟨H0,B0,ρ,B,ev,w⟩:=hq
 refine ⟨H0,B0,ρ,B,ev,?_⟩
 unfold qjm at w
 cases q2:ds ρ with
 | no=>rw[q2] at w; exact w
 | ex c=>rw[q2] at w; exact w
 | ok ts=>
  rw[q2] at w
  rw[qag] at w⊢
  cases q3:fS ts with
  | no=>rw[q3] at w; exact w
  | ex c=>rw[q3] at w; exact w
  | ok r=>rw[q3] at w; exact λv H' B' ev' le=>w v σ H' B' ev' le
def tPN (M:Md) (ds:Ro->Rs (List T)):TA:=λσ H Q=> ∃H0 B0 ρ B,Ev M H0 B0 ρ σ H B/\
 Wnt M H0 (λts=> ∀vs p H' B',qa5 H B H' B'->M.G.P H'->qaP M.K B' ts vs->H' p=none->Q (vs++[.ref p]) (upd H' p (.dK []))) (ds ρ)
theorem qpY (hst:starEach [.Dict [] [] p] X.env=(false,eval (.Dict [] [] p) X.env)::starEach [] X.env:=by rfl):PA X [.Dict [] [] p] (tPN M qaq):=by
 refine PA.weak (qas qmT qaL hst) λσ H Q hq=> ?_
 obtain ⟨H0,B0,ρ,B,ev,w⟩:=hq
 exact λp hp=>w [] p H B (.refl ev.bh ev.bt) ev.gm .nil hp
theorem qiC (ha:DE M X e da) (hs:PA X es (tPN M ds)) (hst:starEach (e::es) X.env=(false,eval e X.env)::starEach es X.env:=by rfl):PA X (e::es) (tPN M (qab da ds)):=by
 refine PA.weak (qas ha hs hst) λσ H Q hq=> ?_
 obtain ⟨H0,B0,ρ,B,ev,w⟩:=hq
 refine tP.of ev (Wnt.mono (Wnt.bind w) λx w1 v H1 B1 g1 m1 r1=> ?_)
 refine ⟨H0,B0,ρ,B1,ev.grow g1 m1,Wnt.mono (Wnt.bind w1) λxs w2 u p H2 B2 g2 m2 r2 e2=> ?_⟩
 exact w2 (v::u) p H2 B2 (g1.trans g2) m2 (.cons (r1.mono g2.bb) r2) e2
def tSN (M:Md) (ds:Ro->Rs (List T)) (fQ:List T->Sl->Rs (Sl×Sl)):TE:=tS' M ds λts=>fQ ts (.od [])>>=λr=>.ok r.1
theorem qjr {σ:St} {H:Hp} {Q:VK} (h:tSN M ds fQ σ H Q):qgP (spQ M.K M.G M.C fQ) [] M.E (tPN M ds) σ H Q:=by
 obtain ⟨H0,B0,ρ,B,ev,w⟩:=h
 refine ⟨H0,B0,ρ,B,ev,Wnt.mono (Wnt.bind w) λts w1 vs p H1 B1 g1 m1 r1 hp=> ?_⟩
 have ev1:=ev.grow g1 m1
 have bp:B1 p=none:=by
  cases q:B1 p with
  | none=>rfl
  | some u=>rw[ev1.bh _ _ q] at hp; cases hp
 obtain ⟨g2,m2⟩:=ev1.nown (o:=.dK []) hp
 have eh:hid (upd H1 p (.dK [])) p=H1:=by
  funext a
  by_cases q:a=p
  ·subst q; rw[qft,hp]
  ·rw[qbK q,qaj q]
 refine ⟨B1,ts,.od [],p,vs,by rw[List.append_nil],g2.bh,g2.bt,m2,r1,bp,⟨[],qal,.nil⟩,?_⟩
 rw[eh]
 have w1:=Wnt.bind w1
 unfold qr4
 cases q:fQ ts (.od []) with
 | no=>rw[q] at w1; exact w1
 | ok r=>rw[q] at w1; exact λv H' B' g m er hs _ _=>w1 v H' B' (ev1.consNew (ev1.grow g m) (λj u ej ou=>⟨u,ej,ou⟩) er hs) (g1.bb.trans g.bb)
 | ex c=>rw[q] at w1; exact λH' g m=>w1 H' (ev1.gr.gx.trans g) m
theorem qmX (F:KnQ X.prog X.w X.K X.mg X.base M.G M.C x ps k fQ) (hK:X.K=M.K) (hr:qcE k X.A) (hg:Gl X x) (ha:PA X (e::es) (tPN M ds)) (hdb:(x==("__debug__" :Str))=false:=by decide)
  (he:starEach (e::es) X.env=(false,eval e X.env)::starEach es X.env:=by rfl) (hpl:(backTo pos (starEach es X.env)).any (·.1)=false:=by rfl):PE X (.Call (.Name x p) (e::es) [] pos) (tSN M ds fQ):=by
 obtain ⟨f,fd,G,m,kk,bb⟩:=F
 rw[hK] at G
 exact PE.weak (qdt (by rw[hK]; exact G) hr hg m kk bb .nil qi2 ha hdb he hpl) λσ H Q h=>qjr h
end
mutual
def qbH:T->Bool
 | .tup ts=>qcX ts
 | .lst ts=>qcX ts
 | .dct _=>false
 | .dtu _=>false
 | .dcf _=>false
 | .fn _=>false
 | .scr _=>false
 | _=>true
def qcX:List T->Bool
 | []=>true
 | t::ts=>qbH t&&qcX ts
end
def qr2 (B:Hp) (p:Addr):Prop:=(∀vs,B p≠some (.tup vs))/\∀vs,B p≠some (.lst vs)
mutual
theorem qkf {K:PySem.W.Frag} {B:Hp} {p:Addr} (n:qr2 B p): ∀{t:T} {v:V},qbH t=true->Rep K B t v->Rep K (hid B p) t v
 | .non,_,_,r=>by unfold Rep at r⊢; exact r
 | .bl _,_,_,r=>by unfold Rep at r⊢; exact r
 | .int _,_,_,r=>by unfold Rep at r⊢; exact r
 | .str _,_,_,r=>by unfold Rep at r⊢; exact r
 | .tup ts,_,h,r=>by
  unfold Rep at r⊢
  obtain ⟨q,vs,e,b,rs⟩:=r
  exact ⟨q,vs,e,by rw[qbK (λz=>n.1 vs (by rw[<-z]; exact b))]; exact b,qfk n (by unfold qbH at h; exact h) rs⟩
 | .lst ts,_,h,r=>by
  unfold Rep at r⊢
  obtain ⟨q,vs,e,b,rs⟩:=r
  exact ⟨q,vs,e,by rw[qbK (λz=>n.2 vs (by rw[<-z]; exact b))]; exact b,qfk n (by unfold qbH at h; exact h) rs⟩
 | .dct _,_,h,_=>by unfold qbH at h; cases h
 | .dtu _,_,h,_=>by unfold qbH at h; cases h
 | .dcf _,_,h,_=>by unfold qbH at h; cases h
 | .fn _,_,h,_=>by unfold qbH at h; cases h
 | .scr _,_,h,_=>by unfold qbH at h; cases h
theorem qfk {K:PySem.W.Frag} {B:Hp} {p:Addr} (n:qr2 B p): ∀{ts:List T} {vs:List V},qcX ts=true->qaP K B ts vs->qaP K (hid B p) ts vs
 | [],_,_,r=>by unfold qaP at r⊢; exact r
 | t::ts,_,h,r=>by
  unfold qaP at r⊢
  unfold qcX at h
  have h:=Bool.and_eq_true_iff.mp h
  obtain ⟨v,r',e,a,b⟩:=r
  exact ⟨v,r',e,qkf n h.1 a,qfk n h.2 b⟩
end
def qsi:Sl->T
 | .od k=>.dct k
 | .pd k=>.dct k
 | .ou k=>.dtu k
 | .pu k=>.dtu k
 | _=>.non
def qm4 (r:T):Rs T:=if qbH r=true then .ok r else .no
def qe5 (i:Nat) (fT:List T->Rs T) (ds:Ro->Rs (List T)):Ro->Rs T:=λρ=>qeG ρ i>>=λs=>ds ρ>>=λts=>fT (ts++[qsi s])>>=qm4
theorem qpV {K:PySem.W.Frag} {H B:Hp} {p:Addr} {s:Sl} (h:DAt K H B p s) (hb:B p=none): ∃o,H p=some o/\(∀ps,o≠.tbl ps)/\(∀vs,o≠.tup vs)/\(∀vs,o≠.lst vs)/\Rep K (upd B p o) (qsi s) (.ref p):=by
 have le: ∀o,Le B (upd B p o):=λo a u z=>by rw[qaj (qap z hb)]; exact z
 cases s with
 | od k=>obtain ⟨us,a,b⟩:=h; exact ⟨_,a,nofun,nofun,nofun,by show Rep K _ (.dct k) _; unfold Rep; exact ⟨p,us,rfl,qal,b.mono (le _)⟩⟩
 | pd k=>obtain ⟨us,a,b⟩:=h; exact ⟨_,a,nofun,nofun,nofun,by show Rep K _ (.dct k) _; unfold Rep; exact ⟨p,us,rfl,qal,b.mono (le _)⟩⟩
 | ou k=>obtain ⟨us,a,b⟩:=h; exact ⟨_,a,nofun,nofun,nofun,by show Rep K _ (.dtu k) _; unfold Rep; exact ⟨p,us,rfl,qal,b.mono (le _)⟩⟩
 | pu k=>obtain ⟨us,a,b⟩:=h; exact ⟨_,a,nofun,nofun,nofun,by show Rep K _ (.dtu k) _; unfold Rep; exact ⟨p,us,rfl,qal,b.mono (le _)⟩⟩
 | _=>exact h.elim
section
variable {M:Md} {X:Cx} {e a b c:Expr} {es:List Expr} {pos p pos':Pos} {i j k:Nat} {x y:Str} {da db dc:Ro->Rs T} {ds:Ro->Rs (List T)} {ps:List Str} {fT:List T->Rs T}
theorem qjs {σ:St} {H:Hp} {Q:VK} (h:tP M (qe5 i fT ds) σ H Q):qgP (spP M.K M.G M.C fT) [] M.E (tPV M ds i) σ H Q:=by
 obtain ⟨H0,B0,ρ,B,ev,w⟩:=h
 obtain ⟨s,e1,hd,w⟩:=qc8 (qay.mp w)
 refine ⟨H0,B0,ρ,B,ev,⟨s,e1,hd⟩,Wnt.mono (Wnt.bind w) λts w1 vs p H1 B1 g1 m1 r1 es=> ?_⟩
 have ev1:=ev.grow g1 m1
 obtain ⟨p',es',h0,hb,hs,_⟩:=ev1.getD' e1 hd
 rw[es] at es'; cases es'
 obtain ⟨o,ho,n1,n2,n3,rd⟩:=qpV hs hb
 have le:Le B1 (upd B1 p o):=λa u z=>by rw[qaj (qap z hb)]; exact z
 have leH:Le (upd B1 p o) H1:=λa u z=>by
  by_cases q:a=p
  ·subst q; rw[qal] at z; cases z; exact ho
  ·rw[qaj q] at z; exact ev1.bh _ _ z
 refine ⟨upd B1 p o,ts++[qsi s],leH,λa ps z=> ?_,m1,by rw[List.append_nil]; exact (r1.mono le).append (.cons rd .nil),?_⟩
 ·by_cases q:a=p
  ·subst q; rw[qal] at z; exact n1 ps (Option.some.inj z)
  ·rw[qaj q] at z; exact ev1.bt a ps z
 have w1:=Wnt.bind w1
 cases q:fT (ts++[qsi s]) with
 | no=>rw[q] at w1; exact w1
 | ex c=>rw[q] at w1; exact λH' g m=>w1 H' (ev1.gr.gx.trans g) m
 | ok r=>
  rw[q] at w1
  unfold qm4 at w1
  intro v H' B' g m rr
  have w1:Wnt M H0 _ (if qbH r=true then .ok r else .no):=w1
  split at w1
  ·rename_i pl
   have hp1:B' p=some o:=g.bb _ _ qal
   refine w1 v H' (hid B' p) (g1.trans ⟨g.gx,λa u z=> ?_,λa u z=>g.bh _ _ (qcB z).1,λa ps z=>g.bt a ps (qcB z).1,λa o z m1 m2=> ?_⟩) m (qkf ⟨λvs z=>by rw[hp1] at z; exact n2 vs (Option.some.inj z),λvs z=>by rw[hp1] at z; exact n3 vs (Option.some.inj z)⟩ pl rr)
   ·rw[qbK (qap z hb)]; exact g.bb _ _ (le _ _ z)
   ·by_cases q2:a=p
    ·subst q2; rw[qft,hb]
    ·rw[qbK q2,g.nw a o z m1 m2,qaj q2]
  ·exact w1.elim
theorem qiA (F:Kn X.prog X.w X.K X.mg X.base M.G M.C x ps k fT) (hK:X.K=M.K) (hr:qcE k X.A) (hg:Gl X x) (ha:PA X (e::es) (tPV M ds i)) (hdb:(x==("__debug__" :Str))=false:=by decide)
  (he:starEach (e::es) X.env=(false,eval e X.env)::starEach es X.env:=by rfl) (hpl:(backTo pos (starEach es X.env)).any (·.1)=false:=by rfl):DE M X (.Call (.Name x p) (e::es) [] pos) (qe5 i fT ds):=by
 obtain ⟨f,fd,G,m,kk,bb⟩:=F
 rw[hK] at G
 exact PE.weak (qdt (by rw[hK]; exact G) hr hg m kk bb .nil qi2 ha hdb he hpl) λσ H Q h=>qjs h
end
def qnL (i:Nat) (ρ:Ro):Ro:=match ρ[i]? with
 | some (.pd [])=>ρ.set i (.pu [])
 | some (.od [])=>ρ.set i (.ou [])
 | _=>ρ
theorem qpm {P:Program} {w:World} {H:Hp} {h:Heap} {p:Addr} (hp:H p=some (.dK [])): ∀(o:HO) (a:Addr),qba P w H h a o->qba P w (upd H p (.dT [])) h a o:=by
 intro o
 induction o with
 | lst xs=>exact λa h=>h
 | tup xs=>exact λa h=>h
 | dK kvs=>exact λa h=>h
 | dT kvs=>
  intro a h
  obtain ⟨z,y,xs,r,qce⟩:=h
  refine ⟨z,y,xs,?_,qce⟩
  clear qce z y
  induction r with
  | nil=>exact .nil
  | cons c _ ih=>
   refine .cons ⟨c.1,?_,c.2.2⟩ ih
   rw[qaj (λz=>by rw[z,hp] at c; cases c.2.1)]
   exact c.2.1
 | set S n=>exact λa h=>h
 | ins C dx fs=>
  intro a h
  obtain ⟨h1,r⟩:=h
  exact ⟨by rw[qaj (λz=>by rw[z,hp] at h1; cases h1)]; exact h1,r⟩
 | own x=>exact λa h=>h
 | xd fs=>exact λa h=>h
 | rng lo hi=>exact λa h=>h
 | frz o u ih=>exact λa h=>⟨h.1,ih a h.2⟩
 | _=>exact λa h=>h
theorem Inv.asT {X:Cx} {pins:List (Addr×Obj)} {σ:St} {H:Hp} {s:Shared} {p:Addr} (I:L2.Inv X pins σ H s) (hp:H p=some (.dK [])):L2.Inv X pins σ (upd H p (.dT [])) s:=by
 have no: ∀{b:Addr},H b=none->upd H p (.dT []) b=none:=λ{b} h=>by rw[qaj (λz=>by rw[z,hp] at h; cases h)]; exact h
 have same: ∀{b:Addr} {o:HO},H b=some o->o≠.dK []->upd H p (.dT []) b=some o:=λ{b o} h n=>by rw[qaj (λz=>n (by rw[z,hp] at h; exact (Option.some.inj h).symm))]; exact h
 refine ⟨I.ok,I.os,I.bare,⟨I.base.keep,I.base.slot,λb o a h e=>no (I.base.free b o a h e),I.base.there,λb xs h=>same (I.base.tups b xs h) (by simp),λb o u h=>same (I.base.frzs b o u h) (by simp),λb ps h=> ?_⟩,I.loc,I.cell,no I.free,λx c h=>no (I.freeC x c h),λq hq=> ?_,λa o h=> ?_,I.len⟩
 ·obtain ⟨more,e⟩:=I.base.tbls b ps h
  exact ⟨more,same e (by simp)⟩
 ·obtain ⟨a,b,c⟩:=I.pin q hq
  exact ⟨a,no b,c⟩
 ·by_cases z:a=p
  ·subst z
   rw[qal] at h; cases h
   obtain ⟨z1,z2,vs,kv,d⟩:=(show qba X.prog X.w H s.heap a (.dK []) from I.hok a _ hp)
   cases kv
   obtain ⟨o,es,ep,h1,h2,h3,h4,h5,h6⟩:=d
   exact ⟨z1,z2,[],.nil,o,es,ep,h1,h2,h3,by generalize es.toList=l at h5⊢; cases h5; rfl,List.nodup_nil⟩
  ·rw[qaj z] at h
   exact qpm hp o a (I.hok a o h)
section
variable {M:Md} {X:Cx} {st:Stmt} {sts:List Stmt} {d:Ro->Rs Out}
theorem Ev.conv {H0 B0 H B:Hp} {ρ:Ro} {σ:St} {pins:List (Addr×Obj)} {s:Shared} (i:Nat) (ev:Ev M H0 B0 ρ σ H B) (I:L2.Inv X pins σ H s): ∃H',L2.Inv X pins σ H' s/\Ev M H0 B0 (qnL i ρ) σ H' B:=by
 have go: ∀(u u':Sl),ρ[i]? =some u->u.isD=true->(∀K p,DAt K H B p u->H p=some (.dK []))->(∀K H p,H p=some (.dT [])->DAt K H B p u')->u.like u'=u'->∃H',L2.Inv X pins σ H' s/\Ev M H0 B0 (ρ.set i u') σ H' B:=λu u' e hd k1 k2 k3=>by
  obtain ⟨p,es,h0,hb,hs,_⟩:=ev.getD' e hd
  have hp:=k1 _ _ hs
  refine ⟨upd H p (.dT []),Inv.asT I hp,?_⟩
  have:=ev.behindQ (H':=upd H p (.dT [])) (B':=B) (s':=u') e hd es ⟨⟨λa o z n=> ?_,λa z=> ?_⟩,.refl _,λa o z=> ?_,ev.bt,λ_ _ _ _ _=>rfl⟩ (M.G.st H _ (λa o z n1 n2 n3 n4=> ?_) ev.gm) hb (k2 _ _ _ qal)
  ·rw[k3] at this; exact this
  ·have:=qcB z; rw[qaj this.2]; exact this.1
  ·by_cases q:a=p
   ·subst q; rw[qal]; simp
   ·rw[qaj q]; rw[qbK q] at z; exact z
  ·rw[qaj (qap z hb)]; exact ev.bh _ _ z
  ·rw[qaj (λq=>by rw[q,hp] at z; exact n2 _ (Option.some.inj z).symm)]; exact z
 unfold qnL
 split
 ·rename_i e
  exact go _ _ e rfl (λK p h=>by obtain ⟨us,a,b⟩:=h; rw[b.inv0] at a; exact a) (λK H p h=>⟨[],h,by unfold qbv; rfl⟩) rfl
 ·rename_i e
  exact go _ _ e rfl (λK p h=>by obtain ⟨us,a,b⟩:=h; rw[b.inv0] at a; exact a) (λK H p h=>⟨[],h,by unfold qbv; rfl⟩) rfl
 ·exact ⟨H,I,ev⟩
theorem qny (i:Nat) (h:DSs M X sts d):DSs M X sts (λρ=>d (qnL i ρ)):=λpins s σ H D I hq=>by
 obtain ⟨H0,B0,ρ,B,ev,w⟩:=hq
 obtain ⟨H',I',ev'⟩:=ev.conv i I
 exact h pins s σ H' D I' ⟨H0,B0,_,B,ev',w⟩
end
end PL
end
section
namespace PL
open PySem L2
def qm7:List T->Option (List Key)
 | []=>some []
 | t::ts=>(match qcO t,qm7 ts with | some k,some ks=>some (k::ks) | _,_=>none)
def qmb:T->Option (List Key)
 | .tup ts=>qm7 ts
 | _=>none
def qeF (kvs:List (List Key×T)) (k:List Key):Option T:=(kvs.find? λkv=>decide (kv.1=k)).map (·.2)
def qiZ (kvs:List (List Key×T)) (k:List Key) (t:T):List (List Key×T):=if (kvs.any λkv=>decide (kv.1=k))=true then kvs.map (λkv=>if kv.1=k then (kv.1,t) else kv) else kvs++[(k,t)]
def lookS:Sl->T->Option (Option T)
 | .od kvs,k=>(qcO k).map (qhJ kvs)
 | .pd kvs,k=>(qcO k).map (qhJ kvs)
 | .ou kvs,k=>(qmb k).map (qeF kvs)
 | .pu kvs,k=>(qmb k).map (qeF kvs)
 | _,_=>none
def qoa:Sl->Nat
 | .od kvs=>kvs.length
 | .pd kvs=>kvs.length
 | .ou kvs=>kvs.length
 | .pu kvs=>kvs.length
 | _=>0
def quS:Sl->T->T->Option Sl
 | .od kvs,k,t=>(qcO k).map λk=>.od (qeD kvs k t)
 | .pd kvs,k,t=>(qcO k).map λk=>.pd (qeD kvs k t)
 | .ou kvs,k,t=>(qmb k).map λk=>.ou (qiZ kvs k t)
 | .pu kvs,k,t=>(qmb k).map λk=>.pu (qiZ kvs k t)
 | _,_,_=>none
section
variable {K:PySem.W.Frag} {B H:Hp}
theorem qbv.nil:qbv K B [] []:=by unfold qbv; rfl
theorem qbv.cons {k:List Key} {t:T} {v:V} {ts:List (List Key×T)} {vs:List (List Key×V)} (h:Rep K B t v) (r:qbv K B ts vs):qbv K B ((k,t)::ts) ((k,v)::vs):=by unfold qbv; exact ⟨v,vs,rfl,h,r⟩
theorem qbv.inv {k:List Key} {t:T} {ts:List (List Key×T)} {vs:List (List Key×V)} (h:qbv K B ((k,t)::ts) vs): ∃v r,vs=(k,v)::r/\Rep K B t v/\qbv K B ts r:=by unfold qbv at h; exact h
theorem qbv.inv0 {vs:List (List Key×V)} (h:qbv K B [] vs):vs=[]:=by unfold qbv at h; exact h
theorem qbv.length: ∀{ts:List (List Key×T)} {vs:List (List Key×V)},qbv K B ts vs->vs.length=ts.length
 | [],_,h=>by rw[h.inv0]; rfl
 | (_,_)::_,_,h=>by obtain ⟨v,r,rfl,_,h'⟩:=h.inv; simp[qbv.length h']
theorem qbv.any (k:List Key): ∀{ts:List (List Key×T)} {vs:List (List Key×V)},qbv K B ts vs->(vs.any λkv=>decide (kv.1=k))=ts.any λkv=>decide (kv.1=k)
 | [],_,h=>by rw[h.inv0]; rfl
 | (_,_)::_,_,h=>by obtain ⟨v,r,rfl,_,h'⟩:=h.inv; simp[qbv.any k h']
theorem qbv.repl (k:List Key) {t:T} {v:V} (h:Rep K B t v): ∀{ts:List (List Key×T)} {vs:List (List Key×V)},qbv K B ts vs->qbv K B (ts.map λkv=>if kv.1=k then (kv.1,t) else kv) (vs.map λkv=>if kv.1=k then (kv.1,v) else kv)
 | [],_,r=>by rw[r.inv0]; exact .nil
 | (j,u)::_,_,r=>by
  obtain ⟨x,r',rfl,a,b⟩:=r.inv
  simp only[List.map_cons]
  by_cases q:j=k
  ·rw[if_pos q,if_pos q]; exact .cons h (qbv.repl k h b)
  ·rw[if_neg q,if_neg q]; exact .cons a (qbv.repl k h b)
theorem qbv.snoc {k:List Key} {t:T} {v:V} (h:Rep K B t v): ∀{ts:List (List Key×T)} {vs:List (List Key×V)},qbv K B ts vs->qbv K B (ts++[(k,t)]) (vs++[(k,v)])
 | [],_,r=>by rw[r.inv0]; exact .cons h .nil
 | (_,_)::_,_,r=>by obtain ⟨x,r',rfl,a,b⟩:=r.inv; exact .cons a (qbv.snoc h b)
theorem qbv.put {k:List Key} {t:T} {v:V} {ts:List (List Key×T)} {vs:List (List Key×V)} (r:qbv K B ts vs) (h:Rep K B t v):qbv K B (qiZ ts k t) (qgK vs k v):=by
 unfold qiZ qgK
 rw[r.any k]
 split
 ·exact r.repl k h
 ·exact r.snoc h
theorem qbv.val (k:List Key): ∀{ts:List (List Key×T)} {vs:List (List Key×V)},qbv K B ts vs->(∀t,qeF ts k=some t->∃v,qfd vs k=some v/\Rep K B t v)/\(qeF ts k=none->qfd vs k=none)
 | [],_,r=>by rw[r.inv0]; exact ⟨λt e=>by simp[qeF] at e,λ_=>rfl⟩
 | (j,u)::ts,_,r=>by
  obtain ⟨x,r',rfl,a,b⟩:=r.inv
  by_cases q:j=k
  ·rw[qdN q]
   have:qeF ((j,u)::ts) k=some u:=by simp[qeF,List.find?_cons,q]
   rw[this]
   exact ⟨λt e=>by cases e; exact ⟨x,rfl,a⟩,λe=>by cases e⟩
  ·rw[qdO q]
   have:qeF ((j,u)::ts) k=qeF ts k:=by simp[qeF,List.find?_cons,q]
   rw[this]
   exact qbv.val k b
theorem qf6: ∀{ts:List T} {ks:List Key} {vs:List V},qm7 ts=some ks->qaP K B ts vs->vs=ks.map kV
 | [],ks,_,e,r=>by cases e; exact r.inv0
 | t::ts,ks,_,e,r=>by
  obtain ⟨v,r',rfl,a,b⟩:=r.inv
  unfold qm7 at e
  split at e
  ·rename_i k ks' e1 e2
   cases e
   rw[qf6 e2 b,qg8 e1 a]; rfl
  ·cases e
theorem qig {t:T} {ks:List Key} {v:V} (e:qmb t=some ks) (r:Rep K B t v): ∃b,v= .ref b/\B b=some (.tup (ks.map kV)):=by
 unfold qmb at e
 split at e
 ·obtain ⟨b,vs,e1,e2,e3⟩:=qfl r
  exact ⟨b,e1,by rw[e2,qf6 e e3]⟩
 ·cases e
theorem qht {p:Addr} {s:Sl} {k:T} {y:V} {o:Option T} (h:DAt K H B p s) (le:Le B H) (r:Rep K B k y) (e:lookS s k=some o): ∃ov,qfF H p y ov/\(∀t,o=some t->∃v,ov=some v/\Rep K B t v)/\(o=none->ov=none):=by
 have go1: ∀{kvs:List (Key×T)} {us:List (Key×V)},H p=some (.dK us)->qby K B kvs us->(qcO k).map (qhJ kvs)=some o->∃ov,qfF H p y ov/\(∀t,o=some t->∃v,ov=some v/\Rep K B t v)/\(o=none->ov=none):=λ{kvs us} hp rd e=>by
  cases q:qcO k with
  | none=>rw[q] at e; cases e
  | some k'=>
   rw[q] at e
   have e:=Option.some.inj e
   subst e
   obtain ⟨a,b⟩:=rd.val k'
   exact ⟨qfd us k',by rw[qg8 q r]; exact qfF.k hp,a,b⟩
 have go2: ∀{kvs:List (List Key×T)} {us:List (List Key×V)},H p=some (.dT us)->qbv K B kvs us->(qmb k).map (qeF kvs)=some o->∃ov,qfF H p y ov/\(∀t,o=some t->∃v,ov=some v/\Rep K B t v)/\(o=none->ov=none):=λ{kvs us} hp rd e=>by
  cases q:qmb k with
  | none=>rw[q] at e; cases e
  | some k'=>
   rw[q] at e
   have e:=Option.some.inj e
   subst e
   obtain ⟨a,b⟩:=rd.val k'
   obtain ⟨c,e1,e2⟩:=qig q r
   exact ⟨qfd us k',by rw[e1]; exact qfF.t hp (le _ _ e2),a,b⟩
 cases s with
 | od _=>obtain ⟨us,a,b⟩:=h; exact go1 a b e
 | pd _=>obtain ⟨us,a,b⟩:=h; exact go1 a b e
 | ou _=>obtain ⟨us,a,b⟩:=h; exact go2 a b e
 | pu _=>obtain ⟨us,a,b⟩:=h; exact go2 a b e
 | _=>exact h.elim
theorem qpW {p:Addr} {s s':Sl} {k t:T} {y v:V} (h:DAt K H B p s) (le:Le B H) (hb:B p=none) (r:Rep K B k y) (rt:Rep K B t v) (hl:qoa s<=1000) (e:quS s k t=some s'):
  ∃o,ql9 H p y v (upd H p o)/\(∀ps,o≠.tbl ps)/\DAt K (upd H p o) B p s'/\s.like s'=s':=by
 have go1: ∀{kvs:List (Key×T)} {us:List (Key×V)} {f:List (Key×T)->Sl},H p=some (.dK us)->qby K B kvs us->kvs.length<=1000->(qcO k).map (λk=>f (qeD kvs k t))=some s'->(∀H k us,H p=some (.dK us)->qby K B k us->DAt K H B p (f k))->(∀k,s.like (f k)=f k)->
   ∃o,ql9 H p y v (upd H p o)/\(∀ps,o≠.tbl ps)/\DAt K (upd H p o) B p s'/\s.like s'=s':=λ{kvs us f} hp rd hl e k1 k2=>by
  cases q:qcO k with
  | none=>rw[q] at e; cases e
  | some k'=>
   rw[q] at e
   have e:=Option.some.inj e
   subst e
   exact ⟨_,by rw[qg8 q r]; exact ql9.k hp (by rw[rd.length]; exact qa6 hl),(λ_ z=>by cases z),k1 _ _ _ qal (rd.put rt),k2 _⟩
 have go2: ∀{kvs:List (List Key×T)} {us:List (List Key×V)} {f:List (List Key×T)->Sl},H p=some (.dT us)->qbv K B kvs us->kvs.length<=1000->(qmb k).map (λk=>f (qiZ kvs k t))=some s'->(∀H k us,H p=some (.dT us)->qbv K B k us->DAt K H B p (f k))->(∀k,s.like (f k)=f k)->
   ∃o,ql9 H p y v (upd H p o)/\(∀ps,o≠.tbl ps)/\DAt K (upd H p o) B p s'/\s.like s'=s':=λ{kvs us f} hp rd hl e k1 k2=>by
  cases q:qmb k with
  | none=>rw[q] at e; cases e
  | some k'=>
   rw[q] at e
   have e:=Option.some.inj e
   subst e
   obtain ⟨c,e1,e2⟩:=qig q r
   exact ⟨_,by rw[e1]; exact ql9.t hp (le _ _ e2) (by rw[rd.length]; exact qa6 hl),(λ_ z=>by cases z),k1 _ _ _ qal (rd.put rt),k2 _⟩
 cases s with
 | od _=>obtain ⟨us,a,b⟩:=h; exact go1 (f:=.od) a b hl e (λH k us x y=>⟨us,x,y⟩) λ_=>rfl
 | pd _=>obtain ⟨us,a,b⟩:=h; exact go1 (f:=.pd) a b hl e (λH k us x y=>⟨us,x,y⟩) λ_=>rfl
 | ou _=>obtain ⟨us,a,b⟩:=h; exact go2 (f:=.ou) a b hl e (λH k us x y=>⟨us,x,y⟩) λ_=>rfl
 | pu _=>obtain ⟨us,a,b⟩:=h; exact go2 (f:=.pu) a b hl e (λH k us x y=>⟨us,x,y⟩) λ_=>rfl
 | _=>exact h.elim
end
def tX (M:Md) (d:Ro->Rs Sl):TE:=λσ H Q=> ∃H0 B0 ρ B,Ev M H0 B0 ρ σ H B/\Wnt M H0 (λs=> ∀p H' B',qa5 H B H' B'->M.G.P H'->DAt M.K H' B' p s->Q (.ref p) H') (d ρ)
abbrev DX (M:Md) (X:Cx) (e:Expr) (d:Ro->Rs Sl):Prop:=PE X e (tX M d)
def slX:T->Rs Sl
 | .dct k=>.ok (.od k)
 | .dtu k=>.ok (.ou k)
 | _=>.no
def dXV (i:Nat):Ro->Rs Sl:=λρ=>match ρ[i]? with
 | some (.fz t)=>slX t
 | some s=>if s.isD=true then .ok s else .no
 | none=>.no
theorem qtn {K:PySem.W.Frag} {B H:Hp} {t:T} {v:V} {s:Sl} (le:Le B H) (r:Rep K B t v) (e:slX t= .ok s): ∃p,v= .ref p/\DAt K H B p s:=by
 cases t with
 | dct k=>cases e; unfold Rep at r; obtain ⟨p,us,a,b,c⟩:=r; exact ⟨p,a,us,le _ _ b,c⟩
 | dtu k=>cases e; unfold Rep at r; obtain ⟨p,us,a,b,c⟩:=r; exact ⟨p,a,us,le _ _ b,c⟩
 | _=>cases e
theorem qqI {α:Type} {M:Md} {H0:Hp} {k:Sl->Prop} {t:T} (w:Wnt M H0 k (slX t)): ∃s,slX t= .ok s/\k s:=by
 cases t with
 | dct z=>exact ⟨_,rfl,w⟩
 | dtu z=>exact ⟨_,rfl,w⟩
 | _=>exact w.elim
section
variable {M:Md} {X:Cx} {o e k a b c value:Expr} {es:List Expr} {pos p pos' apos cpos:Pos} {i j:Nat} {x y:Str} {da db dc dk:Ro->Rs T} {dx:Ro->Rs Sl} {ds:Ro->Rs (List T)}
theorem qb1 (h:PE X e (qhM i)):DX M X e (dXV i):=by
 refine PE.weak h λσ H Q hq=> ?_
 obtain ⟨H0,B0,ρ,B,ev,w⟩:=hq
 unfold dXV at w
 split at w
 ·rename_i t e1
  obtain ⟨s,es,ks⟩:=qqI (α:=Unit) w
  obtain ⟨x,e2,r⟩:=ev.get e1
  obtain ⟨p,rfl,d⟩:=qtn ev.bh r es
  exact ⟨_,e2,ks p H B (.refl ev.bh ev.bt) ev.gm d⟩
 ·rename_i s nf e1
  split at w
  ·rename_i hd
   obtain ⟨p,es,h0,hb,hs,_⟩:=ev.getD' e1 hd
   exact ⟨_,es,w p H B (.refl ev.bh ev.bt) ev.gm hs⟩
  ·exact w.elim
 ·exact w.elim
theorem qfy {K:PySem.W.Frag} {H B H' B':Hp} {p:Addr} {s:Sl} (h:DAt K H B p s) (g:qa5 H B H' B'):DAt K H' B' p s:=by
 cases s with
 | od k=>obtain ⟨us,a,b⟩:=h; exact ⟨us,g.gx.hh _ _ a nofun,b.mono g.bb⟩
 | pd k=>obtain ⟨us,a,b⟩:=h; exact ⟨us,g.gx.hh _ _ a nofun,b.mono g.bb⟩
 | ou k=>obtain ⟨us,a,b⟩:=h; exact ⟨us,g.gx.hh _ _ a nofun,b.mono g.bb⟩
 | pu k=>obtain ⟨us,a,b⟩:=h; exact ⟨us,g.gx.hh _ _ a nofun,b.mono g.bb⟩
 | _=>exact h
theorem qpX {K:PySem.W.Frag} {H B:Hp} {p:Addr} {s:Sl} (h:DAt K H B p s):IsD H p:=by
 cases s with
 | od k=>obtain ⟨us,a,b⟩:=h; exact .inl ⟨us,.inl a⟩
 | pd k=>obtain ⟨us,a,b⟩:=h; exact .inl ⟨us,.inl a⟩
 | ou k=>obtain ⟨us,a,b⟩:=h; exact .inr ⟨us,.inl a⟩
 | pu k=>obtain ⟨us,a,b⟩:=h; exact .inr ⟨us,.inl a⟩
 | _=>exact h.elim
def qi8 (s:Sl) (k:T):Rs T:=match lookS s k with | some (some t)=>.ok t | _=>.no
def qci (dx:Ro->Rs Sl) (dk:Ro->Rs T):Ro->Rs T:=λρ=>dx ρ>>=λs=>dk ρ>>=λk=>qi8 s k
theorem qfx (hu:X.A.units+1<cLine) (ho:DX M X o dx) (hk:DE M X k dk) (hs:qsq k:=by intro _ _; rfl):DE M X (.Subscript o k pos) (qci dx dk):=by
 refine PE.weak (qpc hu ho hk hs) λσ H Q hq=> ?_
 obtain ⟨H0,B0,ρ,B,ev,w⟩:=hq
 refine ⟨H0,B0,ρ,B,ev,Wnt.mono (Wnt.bind (qay.mp w)) λs w1 p H1 B1 g1 m1 hs=> ?_⟩
 have ev1:=ev.grow g1 m1
 refine tP.of ev1 (Wnt.mono (Wnt.bind w1) λkt w2 y H2 B2 g2 m2 r2=> ?_)
 have ev2:=ev1.grow g2 m2
 unfold qi8 at w2
 split at w2
 ·rename_i t el
  obtain ⟨ov,g,a1,_⟩:=qht (qfy hs g2) ev2.bh r2 el
  obtain ⟨v,rfl,rv⟩:=a1 t rfl
  exact ⟨p,v,rfl,g,w2 v H2 B2 (g1.trans g2) m2 rv⟩
 ·exact w2.elim
def qeZ (s:Sl) (k t:T):Rs T:=match lookS s k with | some o=>.ok (o.getD t) | none=>.no
def qcT (dx:Ro->Rs Sl) (dk da:Ro->Rs T):Ro->Rs T:=λρ=>dx ρ>>=λs=>dk ρ>>=λk=>da ρ>>=λt=>qeZ s k t
theorem qdW (hu:X.A.units+1<cLine) (ho:DX M X o dx) (hk:DE M X k dk) (ha:DE M X a da) (m:M2 X o "get" apos k a cpos):DE M X (.Call (.Attribute o "get" apos) [k,a] [] cpos) (qcT dx dk da):=by
 refine PE.weak (qmU hu ho hk ha m) λσ H Q hq=> ?_
 obtain ⟨H0,B0,ρ,B,ev,w⟩:=hq
 refine ⟨H0,B0,ρ,B,ev,Wnt.mono (Wnt.bind (qay.mp w)) λs w1 p H1 B1 g1 m1 hs=> ?_⟩
 have ev1:=ev.grow g1 m1
 refine ⟨p,rfl,qpX hs,?_⟩
 refine tP.of ev1 (Wnt.mono (Wnt.bind w1) λkt w2 y H2 B2 g2 m2 r2=> ?_)
 have ev2:=ev1.grow g2 m2
 refine tP.of ev2 (Wnt.mono (Wnt.bind w2) λt w3 z H3 B3 g3 m3 r3=> ?_)
 have ev3:=ev2.grow g3 m3
 unfold qeZ at w3
 split at w3
 ·rename_i oo el
  obtain ⟨ov,g,a1,a2⟩:=qht (qfy (qfy hs g2) g3) ev3.bh (r2.mono g3.bb) el
  refine ⟨ov,g,?_⟩
  cases oo with
  | none=>rw[a2 rfl]; exact w3 z H3 B3 ((g1.trans g2).trans g3) m3 r3
  | some t'=>obtain ⟨v,rfl,rv⟩:=a1 t' rfl; exact w3 v H3 B3 ((g1.trans g2).trans g3) m3 rv
 ·exact w3.elim
def inX (neg:Bool) (s:Sl) (k:T):Rs T:=match lookS s k with | some o=>.ok (.bl (if neg then !o.isSome else o.isSome)) | none=>.no
def qjk (neg:Bool) (dk:Ro->Rs T) (dx:Ro->Rs Sl):Ro->Rs T:=λρ=>dk ρ>>=λk=>dx ρ>>=λs=>inX neg s k
theorem qhF {neg:Bool} {σ:St} {H:Hp} {Q:VK} (h:tP M (qjk neg dk dx) σ H Q):tP M dk σ H λy H1=>tX M dx σ H1 λx H2=> ∃a o,x= .ref a/\qfF H2 a y o/\Q (.bl (if neg then !o.isSome else o.isSome)) H2:=by
 obtain ⟨H0,B0,ρ,B,ev,w⟩:=h
 refine tP.of ev (Wnt.mono (Wnt.bind (qay.mp w)) λkt w1 y H1 B1 g1 m1 r1=> ?_)
 have ev1:=ev.grow g1 m1
 refine ⟨H0,B0,ρ,B1,ev1,Wnt.mono (Wnt.bind w1) λs w2 p H2 B2 g2 m2 hs=> ?_⟩
 have ev2:=ev1.grow g2 m2
 unfold inX at w2
 split at w2
 ·rename_i oo el
  obtain ⟨ov,g,a1,a2⟩:=qht hs ev2.bh (r1.mono g2.bb) el
  have:ov.isSome=oo.isSome:=by
   cases oo with
   | none=>rw[a2 rfl]; rfl
   | some t'=>obtain ⟨v,rfl,_⟩:=a1 t' rfl; rfl
  exact ⟨p,ov,rfl,g,by rw[this]; exact w2 _ H2 B2 (g1.trans g2) m2 qb5⟩
 ·exact w2.elim
theorem qrM (hu:X.A.units+1<cLine) (hk:DE M X k dk) (ho:DX M X o dx) (hm:behindInMarks .In o=false:=by rfl):DT M X (.Compare k [.In] [o] pos) (dTB (qjk false dk dx)):=
 PT.weak (qn3 (qrd hu hk ho) hm) λ_ _ _ h=>qhF (neg:=false) (qb2 h)
theorem qlt (hu:X.A.units+1<cLine) (hk:DE M X k dk) (ho:DX M X o dx) (hm:behindInMarks .NotIn o=false:=by rfl):DT M X (.Compare k [.NotIn] [o] pos) (dTB (qjk true dk dx)):=
 PT.weak (qn3 (qkx hu hk ho) hm) λ_ _ _ h=>qhF (neg:=true) (qb2 h)
def qko (ρ:Ro) (i:Nat) (s:Sl) (k t:T):Rs Out:=if qoa s<=1000 then (match quS s k t with | some s'=>.ok (.nx (ρ.set i s')) | none=>.no) else .no
def qcG (i:Nat) (dk da:Ro->Rs T):Ro->Rs Out:=λρ=>qeG ρ i>>=λs=>da ρ>>=λt=>dk ρ>>=λk=>qko ρ i s k t
theorem qdx (hu:X.A.units+1<cLine) (ho:PE X o (qhM i)) (hk:DE M X k dk) (hv:DE M X value da) (hs:swapsWith value (some (.Subscript o k pos')) pos.line X.env=pure false:=by rfl):
  DS M X (.Assign [.Subscript o k pos'] value pos) (qcG i dk da):=by
 refine PS.weak (qo3 hu ho hk hv hs) λD σ H hq=> ?_
 obtain ⟨H0,B0,ρ,B,ev,w⟩:=hq
 obtain ⟨s,e0,hd,w⟩:=qc8 w
 refine tP.of ev (Wnt.mono (Wnt.bind w) λt w1 v H1 B1 g1 m1 r1=> ?_)
 have ev1:=ev.grow g1 m1
 obtain ⟨p,es,h0,hb,hs0,_⟩:=ev1.getD' e0 hd
 refine ⟨.ref p,es,?_⟩
 refine tP.of ev1 (Wnt.mono (Wnt.bind w1) λkt w2 y H2 B2 g2 m2 r2=> ?_)
 have ev2:=ev1.grow g2 m2
 obtain ⟨p',es',h0',hb',hs',_⟩:=ev2.getD' e0 hd
 rw[es] at es'; cases es'
 unfold qko at w2
 split at w2
 ·rename_i hl
  split at w2
  ·rename_i s' ep
   obtain ⟨ob,g,nt,ha,lk⟩:=qpW hs' ev2.bh hb' r2 (r1.mono g2.bb) hl ep
   refine ⟨p,_,rfl,g,w2 σ _ B2 ?_ (g1.bb.trans g2.bb)⟩
   have:=ev2.behindQ (H':=upd H2 p ob) (B':=B2) (s':=s') e0 hd es ⟨⟨λa o z n=> ?_,λa z=> ?_⟩,.refl _,λa o z=> ?_,ev2.bt,λ_ _ _ _ _=>rfl⟩ (M.G.st H2 _ (λa o z n1 n2 n3 n4=> ?_) m2) hb' ha
   ·rw[lk] at this; exact this
   ·have:=qcB z; rw[qaj this.2]; exact this.1
   ·by_cases q:a=p
    ·subst q; rw[qal]; simp
    ·rw[qaj q]; rw[qbK q] at z; exact z
   ·rw[qaj (qap z hb')]; exact ev2.bh _ _ z
   ·rw[qaj (λq=> ?_)]; exact z
    subst q
    cases s with
    | od k=>obtain ⟨us,a,b⟩:=hs'; rw[a] at z; exact n2 _ (Option.some.inj z).symm
    | pd k=>obtain ⟨us,a,b⟩:=hs'; rw[a] at z; exact n2 _ (Option.some.inj z).symm
    | ou k=>obtain ⟨us,a,b⟩:=hs'; rw[a] at z; exact n3 _ (Option.some.inj z).symm
    | pu k=>obtain ⟨us,a,b⟩:=hs'; rw[a] at z; exact n3 _ (Option.some.inj z).symm
    | _=>exact hs'.elim
  ·exact w2.elim
 ·exact w2.elim
end
end PL
end
section
namespace PL
open PySem PySem.Spec PyProof.Rows L2 SR SetL
end PL
end
section
namespace PL
open PySem PySem.Spec L2
end PL
end
section
namespace DH
open PySem PySem.Spec PyProof.Rows PySem.W
variable {prog:Program} {w:World} {A:Around} {E:Value->Shared->Prop} {s:Shared}
def RawD (h:Heap) (d:Addr) (es:Array DictEntry) (ep:Nat):Prop:= ∃o,h.get? d=some o/\o.ExactDict/\o.data= .dict es ep
theorem RawD.at {h h':Heap} {d:Addr} {es:Array DictEntry} {ep:Nat} (x:RawD h d es ep) (k: ∀o,h.get? d=some o->h'.get? d=some o):RawD h' d es ep:=let ⟨o,a,b⟩:=x; ⟨o,k o a,b⟩
theorem RawD.lt {h:Heap} {d:Addr} {es:Array DictEntry} {ep:Nat} (x:RawD h d es ep):d<h.objs.size:=let ⟨_,a,_⟩:=x; Heap.lt_size a
theorem RawD.ty {d:Addr} {es:Array DictEntry} {ep:Nat} (x:RawD s.heap d es ep):s.TypeIs (.ref d) "dict" :=let ⟨o,a,b,_⟩:=x; ⟨o,a,b.1⟩
theorem qrx {d:Addr} {es:Array DictEntry} {ep:Nat} {Q:Value->Shared->Prop} (lo:(d==sysModules)=false) (x:RawD s.heap d es ep)
  (q:Q (.ref s.heap.objs.size) { s with heap:=s.heap.push { cls:=.type "dict_keyiterator",data:=.fields #[.ref d,.int 0 0,.int es.size 0,.int ep 0] } }):wpAny (model prog w) A (pyIter (.ref d)) Q E s:=by
 obtain ⟨o,ho,hx,hd⟩:=id x
 have ty:=x.ty
 refine wpAny_pyIter_slot ty F.slot_dict_iter (wpAny_call_entry F.slot_dict_iter ty F.entry_dict_iter ?_ (F.args_dict_iter_1 _))
 unfold Builtin.«dict.__iter__»; refine wpAny_bind ?_; unfold Builtin.Dict.dictSlotNone; refine wpAny_bind (wpAny_notOrdered_dict ty ?_)
 refine wpAny_pure (a:=Value.ref d) ?_
 show wpAny _ _ (Builtin.Dict.showsAll d>>=_) _ _ s; unfold Builtin.Dict.showsAll; rw[if_neg (by rw[lo]; exact Bool.false_ne_true)]; refine wpAny_bind (wpAny_pure ?_)
 refine wpAny_bind (wpAny_dictEntries ho hd (wpAny_bind (wpAny_dictEpoch ho hd ?_)))
 exact wpAny_bind (wpAny_newObj_type (wpAny_pure ⟨_,rfl, "dict_keyiterator",_,⟨_,Heap.get?_push_size _ rfl,rfl⟩,F.slot_dict_keyiterator_next.lookup,by simpa [rawInt] using q⟩))
theorem qt3 {it d:Addr} {i ep:Nat} {es:Array DictEntry} {Q:Option Value->Shared->Prop} (hi:s.heap.IsKeyIter it d i es.size ep) (x:RawD s.heap d es ep) (lt:i<es.size)
  (q: ∀h',h'.IsKeyIter it d (i+1) es.size ep->Heap.SameBut it s.heap h'->Q (some es[i].key) { s with heap:=h' }):wpAny (model prog w) A (pyNext (.ref it)) Q E s:=by
 obtain ⟨o,ho,hc,hd⟩:=id hi
 obtain ⟨od,ho2,hx2,hd2⟩:=id x
 have ty:=hi.typeIs
 unfold pyNext; refine wpAny_bind (wpAny_attempt (wpAny_callSpecial?_slot (name:=Str.ofString "__next__") ty F.slot_dict_keyiterator_next (wpAny_call_entry F.slot_dict_keyiterator_next ty F.entry_dict_keyiterator_next ?_ (F.args_dict_keyiterator_next_1 _))))
 refine wpAny_bind (wpAny_pure ?_); refine wpAny_bind ?_; refine wpAny_bind ?_
 first | refine wpAny_bind (wpAny_typeNameOfWhole_keyiter ty (wpAny_pure ?_)) | refine wpAny_bind (wpAny_typeNameOf_keyiter ty (wpAny_pure ?_))
 refine wpAny_bind (wpAny_fieldsOf ho hd ?_)
 have ow:Builtin.Dict_items.ownsTuple "dict_keyiterator" =false:=by decide
 simp only[ow,Bool.false_eq_true,if_false]; show wpAny _ _ (if (Value.ref d==Value.none)=true then _ else _) _ _ s; rw[if_neg (show ¬((Value.ref d==Value.none)=true) from Bool.false_ne_true)]
 refine wpAny_bind (wpAny_pure ?_); refine wpAny_bind (wpAny_dictEntries ho2 hd2 ?_); rw[if_neg (by simp)]
 refine wpAny_bind (wpAny_pure ?_); refine wpAny_bind (wpAny_dictEpoch ho2 hd2 ?_); rw[if_neg (by simp)]; refine wpAny_pure ?_
 simp only[show ¬((i:Int)<0) from by omega,if_false,Int.toNat_natCast,Array.getElem?_eq_getElem lt]; refine wpAny_bind ?_
 first | refine wpAny_bind (wpAny_typeNameOfWhole_keyiter ty (wpAny_pure ?_)) | refine wpAny_bind (wpAny_typeNameOf_keyiter ty (wpAny_pure ?_))
 refine wpAny_bind (wpAny_isOneOf_keyiter ty ?_); show wpAny _ _ (setField (.ref it) 1 (rawInt ((i:Int)+1))>>=_) _ _ s; refine wpAny_bind (wpAny_setField ho hd (by simp) ?_)
 have hi2:(s.heap.update it (Obj.mapFields (·.setIfInBounds 1 (rawInt ((i:Int)+1))))).IsKeyIter it d (i+1) es.size ep:=⟨_,Heap.get?_update_self _ ho (Obj.isFreed_of_fields (Obj.data_mapFields hd _)),(Obj.cls_mapFields ..).trans hc,by rw[Obj.data_mapFields hd]; simp[rawInt]⟩
 refine wpAny_bind (wpAny_holding ?_); refine wpAny_bind (wpAny_isOneOf_keyiter (s:={ s with heap:=s.heap.update it (Obj.mapFields (·.setIfInBounds 1 (rawInt ((i:Int)+1)))) }) hi2.typeIs ?_)
 show wpAny _ _ (pure es[i].key) _ _ _; exact wpAny_pure (wpAny_pure ⟨_,rfl,wpAny_pure (q _ hi2 (Heap.SameBut.update ..))⟩)
theorem qvT {it d:Addr} {i ep:Nat} {es:Array DictEntry} {Q:Option Value->Shared->Prop} (hh:A.handled=none) (hi:s.heap.IsKeyIter it d i es.size ep) (x:RawD s.heap d es ep) (ge:es.size<=i)
  (q: ∀h',Heap.ExtBut it s.heap h'->Q none { s with heap:=h' }):wpAny (model prog w) A (pyNext (.ref it)) Q E s:=by
 obtain ⟨o,ho,hc,hd⟩:=id hi
 obtain ⟨od,ho2,hx2,hd2⟩:=id x
 have ty:=hi.typeIs
 unfold pyNext; refine wpAny_bind (wpAny_attempt (wpAny_callSpecial?_slot (name:=Str.ofString "__next__") ty F.slot_dict_keyiterator_next (wpAny_call_entry F.slot_dict_keyiterator_next ty F.entry_dict_keyiterator_next ?_ (F.args_dict_keyiterator_next_1 _))))
 refine wpAny_bind (wpAny_pure ?_); refine wpAny_bind ?_; refine wpAny_bind ?_
 first | refine wpAny_bind (wpAny_typeNameOfWhole_keyiter ty (wpAny_pure ?_)) | refine wpAny_bind (wpAny_typeNameOf_keyiter ty (wpAny_pure ?_))
 refine wpAny_bind (wpAny_fieldsOf ho hd ?_)
 have ow:Builtin.Dict_items.ownsTuple "dict_keyiterator" =false:=by decide
 simp only[ow,Bool.false_eq_true,if_false]; show wpAny _ _ (if (Value.ref d==Value.none)=true then _ else _) _ _ s; rw[if_neg (show ¬((Value.ref d==Value.none)=true) from Bool.false_ne_true)]
 refine wpAny_bind (wpAny_pure ?_); refine wpAny_bind (wpAny_dictEntries ho2 hd2 ?_); rw[if_neg (by simp)]
 refine wpAny_bind (wpAny_pure ?_); refine wpAny_bind (wpAny_dictEpoch ho2 hd2 ?_); rw[if_neg (by simp)]; refine wpAny_pure ?_
 simp only[show ¬((i:Int)<0) from by omega,if_false,Int.toNat_natCast,Array.getElem?_eq_none ge]; refine wpAny_bind ?_
 first | refine wpAny_bind (wpAny_typeNameOfWhole_keyiter ty (wpAny_pure ?_)) | refine wpAny_bind (wpAny_typeNameOf_keyiter ty (wpAny_pure ?_))
 show wpAny _ _ (setField (.ref it) 0 .none>>=_) _ _ s; refine wpAny_bind (wpAny_setField ho hd (by simp) ?_); show wpAny _ _ (newExc (.type "StopIteration") []>>=_) _ _ _
 refine wpAny_bind ?_; simp only[newExc,newTuple]; refine wpAny_bind (wpAny_newObj_type ?_ (by size_fits))
 refine wpAny_bind (m:=firstArgMember _ _) (wpAny_of_eq (a:=Value.none) (by first | rfl | (simp only[firstArgMember]; rfl)) ?_); refine wpAny_newObj_type ?_ (by size_fits)
 simp only[raiseNew]; refine wpAny_bind (wpAny_handled ?_); rw[show A.in1.handled=none from hh]; refine wpAny_bind (wpAny_pure (wpAny_throw ?_))
 refine wpAny_bind (wpAny_isInstance (T:= "StopIteration") (b:=true) ⟨_,Heap.get?_push_size _ rfl,rfl⟩ isSubtype_stop ?_); exact wpAny_pure (q _ (((Heap.SameBut.update ..).extBut.push _).push _))
theorem qqq (hh:A.handled=none) (I d:Addr) (ne:d≠I) (es:Array DictEntry) (ep:Nat):
  Walks prog w A I [I,d] [I] es.size (λi v=> ∃e,es[i]? =some e/\v=e.key) (λi h=>h.IsKeyIter I d i es.size ep/\RawD h d es ep) where
 sub:=λb hb=>by simp at hb; simp[hb]
 frame:=λ_ _ _ st hk=>⟨st.1.at λo e=>hk I (by simp) o e,st.2.at λo e=>hk d (by simp) o e⟩
 item:=λi s Q E hi st hQ=>qt3 st.1 st.2 hi λh' a b=>hQ _ h' s.toks ⟨es[i],by simp[hi],rfl⟩ ⟨a,st.2.at λo e=>b.extBut d o ne e⟩ λc o hc e=>b.extBut c o (λz=>hc (by simp[z])) e
 done:=λs Q E st hQ=>qvT hh st.1 st.2 (Nat.le_refl _) λh' b=>hQ h' s.toks λc o hc e=>b c o (λz=>hc (by simp[z])) e
 self:=λ_ _ _ _ st hQ=>wpAny_pyIter_keyiter st.1 hQ
theorem qvm {d:Addr} {es:Array DictEntry} {ep:Nat} (lo:(d==sysModules)=false):KdlSrc prog w "dict" d d es.size (λi v=> ∃e,es[i]? =some e/\v=e.key) (λh=>RawD h d es ep) where
 type:=λ_ m=>m.ty
 there:=λ_ m=>⟨m.lt,m.lt⟩
 keep:=λ_ _ m k=>m.at λo e=>k d (.inl rfl) o e
 notList:=by decide
 notTuple:=by decide
 hint:=λ_ _ _ _ m q=>kdl_hint_dict m.ty q
 iter:=λ_ _ hh m=>⟨_,_,λ_ _ q=>qrx lo m q,qqq hh _ d (Nat.ne_of_lt m.lt) es ep,⟨⟨_,Heap.get?_push_size _ rfl,rfl,rfl⟩,m.at λo e=>Heap.get?_push_of_some _ e⟩⟩
theorem collectD {d:Addr} {es:Array DictEntry} {ep:Nat} {R:List Value->Shared->Prop} (hh:A.handled=none) (lo:(d==sysModules)=false) (m:RawD s.heap d es ep) (hn:es.size<=sizeLine)
  (h: ∀(h':Heap) (tk:Nat),(∀b o,s.heap.get? b=some o->h'.get? b=some o)->R (es.toList.map (·.key)) { s with heap:=h',toks:=tk }):wpAny (model prog w) A (collect (.ref d)) R E s:=by
 refine kdu_collect (qvm lo) hh m hn λh' tk acc k hI=> ?_
 have:acc.toList=es.toList.map (·.key):=by
  refine List.ext_getElem? λj=> ?_
  rw[List.getElem?_map,Array.getElem?_toList,Array.getElem?_toList]
  by_cases c:j<acc.size
  ·obtain ⟨e,h1,h2⟩:=hI.2 j acc[j] (by simp[c])
   rw[h1,Array.getElem?_eq_getElem c,h2]; rfl
  ·have: ¬j<es.size:=by rw[<-hI.1]; exact c
   rw[Array.getElem?_eq_none (by omega),Array.getElem?_eq_none (by omega)]; rfl
 rw[this]
 exact h h' tk k
end DH
end
section
namespace DH
open PySem PySem.Spec PyProof.Rows PySem.W L2
variable {prog:Program} {w:World} {A:Around} {E:Value->Shared->Prop} {s:Shared}
abbrev IS:=Int×Str
def gtIS (x y:IS):Bool:=if x.1=y.1 then (if x.2=y.2 then false else decide (y.2.cps.toList<x.2.cps.toList)) else decide (y.1<x.1)
def ISAt (h:Heap) (x:IS) (p:Addr):Prop:= ∃t u,IsTup h p #[.int x.1 t,.str x.2 u]
theorem ISAt.keep {h h':Heap} {x:IS} {p:Addr} (a:ISAt h x p) (k: ∀o,h.get? p=some o->h'.get? p=some o):ISAt h' x p:=by
 obtain ⟨t,u,o,e,r⟩:=a
 exact ⟨t,u,o,k o e,r⟩
theorem quh {x y:IS} {p q:Addr} {Q:Value->Shared->Prop} (hp:ISAt s.heap x p) (hq:ISAt s.heap y q) (hu:A.units<cLine) (h:Q (.bool (gtIS x y)) s):wpAny (model prog w) A (richCompare .Gt (.ref p) (.ref q)) Q E s:=by
 obtain ⟨t1,t2,o1,e1,c1,n1,d1⟩:=hp
 obtain ⟨t3,t4,o2,e2,c2,n2,d2⟩:=hq
 have ty1:s.TypeIs (.ref p) "tuple" :=⟨o1,e1,c1⟩
 have ty2:s.TypeIs (.ref q) "tuple" :=⟨o2,e2,c2⟩
 refine wpAny_richCompare_same_room (op:=.Gt) ty1 ty2 F.slot_tuple_gt (wpAny_call_entry F.slot_tuple_gt ty1 F.entry_tuple_gt ?_ (F.args_tuple_gt_2 _ _)) hu
 show wpAny _ _ (isInstance (.ref q) (.type "tuple")>>=_) _ _ s
 refine wpAny_bind (wpAny_isInstance ty2 isSubtype_tuple_tuple ?_)
 simp only[Bool.not_true,Bool.false_eq_true,if_false]
 refine wpAny_bind (wpAny_tupleItemsOf e1 d1 (wpAny_bind (wpAny_tupleItemsOf e2 d2 ?_)))
 simp only[List.zip_cons_cons,List.zip_nil_left,List.forIn_cons,List.forIn_nil]
 refine wpAny_bind (wpAny_bind (wpAny_bind ((qa2 prog w).eqBool (a:=.inl x.1) (b:=.inl y.1) (qeN (k:=.inl x.1) ⟨t1,rfl⟩) (qeN (k:=.inl y.1) ⟨t3,rfl⟩) ?_)))
 unfold gtIS at h
 by_cases c:x.1=y.1
 ·rw[if_pos c] at h
  rw[decide_eq_true (show (Sum.inl x.1:Key)= .inl y.1 by rw[c])]
  simp only[Bool.not_true,Bool.false_eq_true,if_false]
  refine wpAny_pure (wpAny_bind (wpAny_bind ((qa2 prog w).eqBool (a:=.inr x.2) (b:=.inr y.2) (qeN (k:=.inr x.2) ⟨t2,rfl⟩) (qeN (k:=.inr y.2) ⟨t4,rfl⟩) ?_)))
  by_cases c2:x.2=y.2
  ·rw[if_pos c2] at h
   rw[decide_eq_true (show (Sum.inr x.2:Key)= .inr y.2 by rw[c2])]
   simp only[Bool.not_true,Bool.false_eq_true,if_false]
   refine wpAny_pure (wpAny_pure ?_)
   exact wpAny_pure ⟨_,rfl,(λz=>nomatch z),h⟩
  ·rw[if_neg c2] at h
   rw[decide_eq_false (show ¬(Sum.inr x.2:Key)= .inr y.2 from λz=>c2 (Sum.inr.inj z))]
   simp only[Bool.not_false,if_true]
   refine wpAny_bind (wpAny_rule ?_)
   refine wpAny_bind (PySem.P.gt_str ?_)
   exact wpAny_pure (wpAny_pure (wpAny_pure ⟨_,rfl,(λz=>nomatch z),h⟩))
 ·rw[if_neg c] at h
  rw[decide_eq_false (show ¬(Sum.inl x.1:Key)= .inl y.1 from λz=>c (Sum.inl.inj z))]
  simp only[Bool.not_false,if_true]
  refine wpAny_bind (wpAny_rule ?_)
  refine wpAny_bind (PySem.P.gt_int ?_)
  exact wpAny_pure (wpAny_pure (wpAny_pure ⟨_,rfl,(λz=>nomatch z),h⟩))
section
variable {R:Result->Shared->Prop} {I:Addr} {fp wr:List Addr} {n:Nat} {P:Nat->Value->Prop} {St:Nat->Heap->Prop}
def quK (prog:Program) (w:World) (A:Around) (P:Nat->Value->Prop) (St:Nat->Heap->Prop) (bt:Nat->Nat->Bool):Prop:=
 ∀i j k a b (s:Shared) (Q:Value->Shared->Prop) (E:Value->Shared->Prop),St k s.heap->P i a->P j b->Q (.bool (bt i j)) s->wpAny (model prog w) A (richCompare .Gt a b) Q E s
theorem qdd:(toString "max" ++toString ".loop" :String)= "max.loop" :=by decide
theorem qkM (W:Walks prog w A.in1 I fp wr n P St) (bt:Nat->Nat->Bool) (cm:quK prog w A.in1 P St bt) (S:Addr) (nf:S∉fp): ∀(m j:Nat) (s:Shared) (x:Value) (c:Nat),n - (j+1)=m->j+1<=n->St (j+1) s.heap->P (argBest bt j) x->
  s.heap.get? S=some { cls:=.type "list",dict:=none,data:=.seq #[x,x] c,slots:= #[] }->
  (∀v h' tk,P (argBest bt (n - 1)) v->(∀b o,b∉wr->b≠S->s.heap.get? b=some o->h'.get? b=some o)->R (.ok (.ret v)) { s with heap:=h',toks:=tk })->codeAny (model prog w) A (.builtin "max.loop" ⟨[.ref I,.none,.ref S],[]⟩) R s:=by
 have nw:S∉wr:=λh=>nf (W.sub _ h)
 intro m
 induction m with
 | zero=>
  intro j s x c e1 e2 st px eS k
  have jn:j+1=n:=by omega
  refine codeAny_builtin F.entry_max_loop ?_; rw[Around.under_plainId F.plain_max_loop _]; show wpAny _ A.in1 (seqItems? (.ref S)>>=_) _ _ s
  refine wpAny_bind (wpAny_seqItems eS rfl ?_); show wpAny _ A.in1 (tryCatch (pyNext (.ref I)) _>>=_) _ _ s
  refine wpAny_bind (wpAny_tryCatch (W.done s _ _ (jn▸st) λh1 t1 kp=> ?_))
  have eS1:=kp S _ nw eS
  show wpAny _ A.in1 (updateSeq S (λ_=> #[])>>=_) _ _ _; refine wpAny_bind ?_; refine wpAny_updateSeq eS1 rfl (wpAny_bind (wpAny_letGo (wpAny_pure ?_)))
  exact k x _ t1 (by rw[<-jn]; exact px) λb o nb ns eb=>(Heap.get?_update_other _ _ (Ne.symm ns)).trans (kp b o nb eb)
 | succ m ih=>
  intro j s x c e1 e2 st px eS k
  have lt:j+1<n:=by omega
  refine codeAny_builtin F.entry_max_loop ?_; rw[Around.under_plainId F.plain_max_loop _]; show wpAny _ A.in1 (seqItems? (.ref S)>>=_) _ _ s
  refine wpAny_bind (wpAny_seqItems eS rfl ?_); show wpAny _ A.in1 (tryCatch (pyNext (.ref I)) _>>=_) _ _ s
  refine wpAny_bind (wpAny_tryCatch (W.item (j+1) s _ _ lt st λv h1 t1 pv st1 kp=> ?_))
  have eS1:=kp S _ nw eS
  show wpAny _ A.in1 (tryCatch (holding [v,v] (richCompare .Gt v x>>=_)) _>>=_) _ _ _
  refine wpAny_bind (wpAny_tryCatch (wpAny_holding (wpAny_bind (cm (j+1) (argBest bt j) _ v x _ _ _ st1 pv px ?_)))); refine wpAny_bind (wpAny_holding (wpAny_truthy_bool ?_)); refine wpAny_bind (wpAny_letGo (wpAny_pure ?_))
  cases eb:bt (j+1) (argBest bt j) with
  | true=>
   simp only[if_true]; refine wpAny_bind ?_; refine wpAny_updateSeq eS1 rfl (wpAny_bind (wpAny_letGo ?_)); rw[qdd]
   refine wpAny_pure ⟨plainId_quiet F.plain_max_loop _,ih (j+1) _ v _ (by omega) lt (W.frame _ _ _ st1 λb bf o ob=> ?_) (by simp only[argBest,eb,if_true]; exact pv) (Heap.get?_update_self _ eS1 rfl) λv2 h2 t2 pv2 kp2=> ?_⟩
   ·exact (Heap.get?_update_other _ _ (λz:S=b=>nf (by rw[z]; exact bf))).trans ob
   ·exact k v2 h2 t2 pv2 λb o nb ns ob=>kp2 b o nb ns ((Heap.get?_update_other _ _ (Ne.symm ns)).trans (kp b o nb ob))
  | false=>
   simp only[Bool.false_eq_true,if_false]; refine wpAny_bind (wpAny_letGo ?_); rw[qdd]
   exact wpAny_pure ⟨plainId_quiet F.plain_max_loop _,ih (j+1) _ x c (by omega) lt st1 (by simp only[argBest,eb,Bool.false_eq_true,if_false]; exact px) eS1 λv2 h2 t2 pv2 kp2=>k v2 h2 t2 pv2 λb o nb ns ob=>kp2 b o nb ns (kp b o nb ob)⟩
theorem qkN (W:Walks prog w A.in1 I fp wr n P St) (bt:Nat->Nat->Bool) (cm:quK prog w A.in1 P St bt) (S:Addr) (nf:S∉fp) (hn:0<n) {s:Shared} {c:Nat} (st:St 0 s.heap) (eS:s.heap.get? S=some { cls:=.type "list",dict:=none,data:=.seq #[] c,slots:= #[] })
  (k: ∀v h' tk,P (argBest bt (n - 1)) v->(∀b o,b∉wr->b≠S->s.heap.get? b=some o->h'.get? b=some o)->R (.ok (.ret v)) { s with heap:=h',toks:=tk }):codeAny (model prog w) A (.builtin "max.loop" ⟨[.ref I,.none,.ref S],[]⟩) R s:=by
 have nw:S∉wr:=λh=>nf (W.sub _ h)
 refine codeAny_builtin F.entry_max_loop ?_; rw[Around.under_plainId F.plain_max_loop _]; show wpAny _ A.in1 (seqItems? (.ref S)>>=_) _ _ s
 refine wpAny_bind (wpAny_seqItems eS rfl ?_); show wpAny _ A.in1 (tryCatch (pyNext (.ref I)) _>>=_) _ _ s
 refine wpAny_bind (wpAny_tryCatch (W.item 0 s _ _ hn st λv h1 t1 pv st1 kp=> ?_))
 have eS1:=kp S _ nw eS
 show wpAny _ A.in1 (updateSeq S (λ_=> #[v,v])>>=_) _ _ _; refine wpAny_bind ?_; refine wpAny_updateSeq eS1 rfl ?_; rw[qdd]
 refine wpAny_pure ⟨plainId_quiet F.plain_max_loop _,qkM W bt cm S nf _ 0 _ v _ rfl hn (W.frame _ _ _ st1 λb bf o ob=> ?_) pv (Heap.get?_update_self _ eS1 rfl) λv2 h2 t2 pv2 kp2=> ?_⟩
 ·exact (Heap.get?_update_other _ _ (λz:S=b=>nf (by rw[z]; exact bf))).trans ob
 ·exact k v2 h2 t2 pv2 λb o nb ns ob=>kp2 b o nb ns ((Heap.get?_update_other _ _ (Ne.symm ns)).trans (kp b o nb ob))
theorem qlU {x:Value} {Q:Value->Shared->Prop} (h:wpAny (model prog w) A.in1 (pyIter x) (λit s1=> ∃I fp wr n P St bt,it= .ref I/\Walks prog w A.in1 I fp wr n P St/\St 0 s1.heap/\(∀b∈fp,b<s1.heap.objs.size)/\0<n/\quK prog w A.in1 P St bt/\
   ∀v h' tk,P (argBest bt (n - 1)) v->(∀b o,b∉wr->s1.heap.get? b=some o->h'.get? b=some o)->Q v { s1 with heap:=h',toks:=tk }) E s):wpAny (model prog w) A (call (.builtin "max") [x]) Q E s:=by
 refine call_function_tree F.kind_max F.plain_max F.entry_max (F.args_max1 _) ?_; show wpAny _ A.in1 (Builtin.Builtins.bindParams "max" ["key", "default"] 0 ⟨[],[]⟩>>=_) _ _ s
 refine wpAny_bind (wpAny_of_eq (show Builtin.Builtins.bindParams "max" ["key", "default"] 0 ⟨[],[]⟩=pure [none,none] from rfl) ?_); refine wpAny_bind (wpAny_pure ?_)
 refine wpAny_bind (wpAny_mono h (λit s1 hq=> ?_) λ_ _ z=>z)
 obtain ⟨I,fp,wr,n,P,St,bt,rfl,W,st,lo,hn,cm,k⟩:=hq
 refine wpAny_bind (wpAny_newObj_type ?_)
 have nf:s1.heap.objs.size∉fp:=λm=>Nat.lt_irrefl _ (lo _ m)
 rw[qdd]
 refine wpAny_pure ⟨plainId_quiet F.plain_max_loop _,qkN W bt cm s1.heap.objs.size nf hn (W.frame _ _ _ st λb _ o ob=>Heap.get?_push_of_some _ ob) (Heap.get?_push_size _ rfl) λv h' tk pv kp=> ?_⟩
 exact k v h' tk pv λb o nb ob=>kp b o nb (Nat.ne_of_lt (Heap.lt_size ob)) (Heap.get?_push_of_some _ ob)
end
end DH
end
section
namespace DH
open PySem PySem.Spec PyProof.Rows PySem.W L2
variable {prog:Program} {w:World} {A:Around} {E:Value->Shared->Prop} {s:Shared}
theorem qsw {I:Addr} {fp wr more:List Addr} {n:Nat} {P:Nat->Value->Prop} {St:Nat->Heap->Prop} {T:Heap->Prop} (W:Walks prog w A I fp wr n P St) (nw: ∀b∈more,b∉wr)
  (hT: ∀h h':Heap,T h->(∀b∈more,∀o,h.get? b=some o->h'.get? b=some o)->T h'):Walks prog w A I (fp++more) wr n P (λi h=>St i h/\T h) where
 sub:=λb hb=>List.mem_append.mpr (.inl (W.sub b hb))
 frame:=λi h h' st k=>⟨W.frame i h h' st.1 λb hb o e=>k b (List.mem_append.mpr (.inl hb)) o e,hT _ _ st.2 λb hb o e=>k b (List.mem_append.mpr (.inr hb)) o e⟩
 item:=λi s Q E hi st hQ=>W.item i s Q E hi st.1 λv h' tk pv st' k=>hQ v h' tk pv ⟨st',hT _ _ st.2 λb hb o e=>k b o (nw b hb) e⟩ k
 done:=λs Q E st hQ=>W.done s Q E st.1 hQ
 self:=λi s Q E st hQ=>W.self i s Q E st.1 hQ
def bestIS (xs:List IS):Nat:=argBest (λi j=>gtIS (xs.getD i (0, "")) (xs.getD j (0, ""))) (xs.length - 1)
theorem argBest_le (bt:Nat->Nat->Bool): ∀k,argBest bt k<=k
 | 0=>Nat.le_refl _
 | k+1=>by
  unfold argBest
  split
  ·exact Nat.le_refl _
  ·exact Nat.le_succ_of_le (argBest_le bt k)
theorem bestIS_lt {xs:List IS} (h:xs≠[]):bestIS xs<xs.length:=by
 have:=argBest_le (λi j=>gtIS (xs.getD i (0, "")) (xs.getD j (0, ""))) (xs.length - 1)
 have:=List.length_pos_iff.mpr h
 unfold bestIS
 omega
theorem call_maxD {d:Addr} {es:Array DictEntry} {ep:Nat} {xs:List IS} {qs:List Addr} {Q:Value->Shared->Prop} (hh:A.in1.handled=none) (hu:A.in1.units<cLine) (lo:(d==sysModules)=false) (m:RawD s.heap d es ep) (hk:es.toList.map (·.key)=qs.map Value.ref) (hl:xs.length=qs.length) (hne:xs≠[])
  (ht: ∀j q,qs[j]? =some q->ISAt s.heap (xs.getD j (0, "")) q)
  (h: ∀(h':Heap) (tk:Nat),(∀b o,s.heap.get? b=some o->h'.get? b=some o)->Q (.ref (qs.getD (bestIS xs) 0)) { s with heap:=h',toks:=tk }):wpAny (model prog w) A (call (.builtin "max") [.ref d]) Q E s:=by
 have n1:es.size=qs.length:=by have:=congrArg List.length hk; simpa using this
 have key: ∀{i:Nat} {v:Value},(∃e,es[i]? =some e/\v=e.key)->∃q,qs[i]? =some q/\v= .ref q:=λ{i v} hv=>by
  obtain ⟨e,h1,h2⟩:=hv
  have h3:=congrArg (λl=>l[i]?) hk
  simp only[List.getElem?_map,Array.getElem?_toList,h1,Option.map_some] at h3
  cases q:qs[i]? with
  | none=>rw[q] at h3; cases h3
  | some a=>rw[q] at h3; exact ⟨a,rfl,h2.trans (Option.some.inj h3)⟩
 have lq: ∀q∈qs,q<s.heap.objs.size:=λq hq=>by
  obtain ⟨j,hj⟩:=List.mem_iff_getElem?.mp hq
  obtain ⟨t,u,o,e,_⟩:=ht j q hj
  exact Heap.lt_size e
 refine qlU (qrx lo m ?_)
 refine ⟨_,_,_,es.size,_,_,λi j=>gtIS (xs.getD i (0, "")) (xs.getD j (0, "")),rfl,qsw (more:=qs) (T:=λh=> ∀j q,qs[j]? =some q->ISAt h (xs.getD j (0, "")) q) (qqq hh _ d (Nat.ne_of_lt m.lt) es ep) (λb hb z=> ?_) (λh h' t k j q hj=>(t j q hj).keep λo e=>k q (List.mem_of_getElem? hj) o e),
  ⟨⟨⟨_,Heap.get?_push_size _ rfl,rfl,rfl⟩,m.at λo e=>Heap.get?_push_of_some _ e⟩,λj q hj=>(ht j q hj).keep λo e=>Heap.get?_push_of_some _ e⟩,λb hb=> ?_,?_,λi j k a b s1 Q1 E1 st pa pb hq=> ?_,λv h' tk pv kp=> ?_⟩
 ·have e:b=s.heap.objs.size:=by simpa using z
  exact absurd (lq b hb) (by rw[e]; exact Nat.lt_irrefl _)
 ·show b<(Heap.push _ _).objs.size
  rw[PyProof.Rows.size_push']
  rcases List.mem_append.mp hb with hb | hb
  ·have hb':b=s.heap.objs.size\/b=d:=by simpa using hb
   rcases hb' with rfl | rfl
   ·exact Nat.lt_succ_self _
   ·exact Nat.lt_succ_of_lt m.lt
  ·exact Nat.lt_succ_of_lt (lq b hb)
 ·rw[n1,<-hl]; exact List.length_pos_iff.mpr hne
 ·obtain ⟨q1,e1,rfl⟩:=key pa
  obtain ⟨q2,e2,rfl⟩:=key pb
  exact quh (st.2 i q1 e1) (st.2 j q2 e2) hu hq
 ·obtain ⟨q,e1,rfl⟩:=key pv
  have e2:argBest (λi j=>gtIS (xs.getD i (0, "")) (xs.getD j (0, ""))) (es.size - 1)=bestIS xs:=by unfold bestIS; rw[n1,hl]
  rw[e2] at e1
  have:qs.getD (bestIS xs) 0=q:=by rw[List.getD_eq_getElem?_getD,e1]; rfl
  rw[<-this]
  refine h h' tk λb o ob=>kp b o (λz=> ?_) (Heap.get?_push_of_some _ ob)
  have:b=s.heap.objs.size:=by simpa using z
  exact Nat.ne_of_lt (Heap.lt_size ob) this
theorem call_lenR {d:Addr} {es:Array DictEntry} {ep:Nat} {Q:Value->Shared->Prop} (lo:(d==sysModules)=false) (m:RawD s.heap d es ep) (hz:es.size<=sizeLine) (h:Q (.int es.size (s.toks+1)) { s with toks:=s.toks+1+1 }):wpAny (model prog w) A (call (.builtin "len") [.ref d]) Q E s:=by
 obtain ⟨o,ho,hx,hd⟩:=id m
 have ty:=m.ty
 rw[sizeLine_eq] at hz
 refine Calls.call_function_entry kind_len plain_len entry_len (args_len1 _) ?_
 unfold Builtin.«len»; refine wpAny_bind (m:=oneArg "len" _) (wpAny_pure ?_)
 refine wpAny_bind (m:=callSpecial? (.ref d) (Str.ofString "__len__")) (wpAny_callSpecial?_slot (name:=Str.ofString "__len__") ty F.slot_dict_len (wpAny_call_entry F.slot_dict_len ty F.entry_dict_len ?_ (F.args_dict_len_1 _)))
 show wpAny _ _ (dictSize d>>=_) _ _ s; unfold dictSize; refine wpAny_bind (wpAny_bind (wpAny_dictEntries ho hd (wpAny_pure ?_)))
 show wpAny _ _ (Builtin.Dict.pendingCount d>>=_) _ _ s; refine wpAny_bind (wpAny_pendingCount_other lo ?_); refine wpAny_ret_mkInt ?_
 rw[show ((es.size:Int)+((0:Nat):Int))=(es.size:Int) by simp]
 refine wpAny_bind (wpAny_holding (wpAny_pure ?_)); refine wpAny_bind (wpAny_letGo ?_)
 show wpAny _ _ (if ((es.size:Nat):Int)<0 then _ else _) _ _ _; rw[if_neg (by omega)]
 show wpAny _ _ (if ((es.size:Nat):Int)≥2 ^ 63 then _ else _) _ _ _; rw[if_neg (by omega)]
 exact wpAny_bind (wpAny_mkInt (wpAny_pure ⟨_,rfl,h⟩))
theorem call_clearR {d:Addr} {es:Array DictEntry} {ep:Nat} {Q:Value->Shared->Prop} (m:RawD s.heap d es ep) (hz:es.size<=sizeLine) (h: ∀h',RawD h' d #[] (ep+1)->Heap.SameBut d s.heap h'->Q .none { s with heap:=h' }):wpAny (model prog w) A (call (.builtin "dict.clear") [.ref d]) Q E s:=by
 obtain ⟨o,ho,hx,hd⟩:=id m
 have ty:=m.ty
 refine wpAny_call_entry F.slot_dict_clear ty F.entry_dict_clear ?_ (F.args_dict_clear_1 _)
 unfold Builtin.«dict.clear»; refine wpAny_bind ?_; unfold Builtin.Dict.noArgs; refine wpAny_bind (wpAny_notOrdered_dict ty ?_)
 refine wpAny_pure (a:=d) ?_
 refine wpAny_bind (wpAny_dictEntries ho hd ?_); refine wpAny_bind ?_; unfold bearsInstanceDictMark; refine wpAny_bind (wpAny_load ho (wpAny_pure ?_)); refine wpAny_bind (wpAny_updateDictKeys (hz:=hz) ho hd ?_)
 have nw:RawD (s.heap.update d (Obj.mapDictKeys λ_=> #[])) d #[] (ep+1):=⟨_,Heap.get?_update_self _ ho (Obj.isFreed_of_dict (Obj.data_mapDictKeys hd _)),hx.mapDictKeys _,Obj.data_mapDictKeys hd _⟩
 split
 ·exact wpAny_bind (wpAny_letGo (wpAny_pure ⟨.none,rfl,h _ nw (Heap.SameBut.update ..)⟩))
 ·exact wpAny_bind (wpAny_pure (wpAny_pure ⟨.none,rfl,h _ nw (Heap.SameBut.update ..)⟩))
end DH
end
section
namespace PL
open PySem L2
def ql7 (H B:Hp) (qs:List Addr):Hp:=λa=>if a∈qs then H a else B a
theorem qa5.absorb {H B:Hp} {qs:List Addr} (le:Le B H) (bt: ∀a ps,B a≠some (.tbl ps)) (h: ∀q∈qs,∃vs,H q=some (.tup vs)):qa5 H B H (ql7 H B qs):=by
 refine ⟨.refl _,λa o e=> ?_,λa o e=> ?_,λa ps e=> ?_,λa o e n1 _=> ?_⟩
 ·unfold ql7; split
  ·exact le _ _ e
  ·exact e
 ·unfold ql7 at e; split at e
  ·exact e
  ·exact le _ _ e
 ·unfold ql7 at e; split at e
  ·rename_i m; obtain ⟨vs,z⟩:=h a m; rw[z] at e; cases e
  ·exact bt a ps e
 ·unfold ql7; rw[if_neg (λm=>by obtain ⟨vs,z⟩:=h a m; rw[z] at e; exact n1 vs (Option.some.inj e).symm)]
theorem qqc {H B:Hp} {qs:List Addr} {q:Addr} (h:q∈qs):ql7 H B qs q=H q:=by unfold ql7; rw[if_pos h]
section
variable {X:Cx} {pins:List (Addr×Obj)} {σ:St} {H:Hp} {s:Shared}
theorem qhn {p:Addr} {us:List (List Key×V)} (I:L2.Inv X pins σ H s) (hp:H p=some (.dT us)): ∃(qs:List Addr) (es:Array DictEntry) (ep:Nat),DH.RawD s.heap p es ep/\(p==sysModules)=false/\us.length<=sizeLine/\es.toList.map (·.key)=qs.map Value.ref/\es.size=us.length/\qs.length=us.length/\
  ∀(j:Nat) (q:Addr),qs[j]? =some q->∃k v,us[j]? =some (k,v)/\H q=some (.tup (k.map kV)):=by
 obtain ⟨hz,lo,xs,kt,o,es,ep,ho,hx,hd,he,hk,nd⟩:=qrN I.hok hp
 have lx:us.length=xs.length:=Paired.length kt
 refine ⟨xs.map (·.2.1),es,ep,⟨o,ho,hx,hd⟩,lo,hz,by rw[he,List.map_map,List.map_map]; rfl,?_,by rw[List.length_map,lx],λj q e=> ?_⟩
 ·have:=congrArg List.length he
  rw[List.length_map] at this
  rw[lx,<-this]; simp
 ·have go: ∀{us:List (List Key×V)} {xs:List (List Key×Addr×Value)} {j:Nat} {q:Addr},KT H us xs->(xs.map (·.2.1))[j]? =some q->∃k v,us[j]? =some (k,v)/\H q=some (.tup (k.map kV)):=λ{us xs j q} kt=>by
   induction kt generalizing j with
   | nil=>intro e; cases j<;>cases e
   | cons c _ ih=>
    intro e
    cases j with
    | zero=>
     rw[List.map_cons,List.getElem?_cons_zero] at e
     have e:=Option.some.inj e
     refine ⟨_,_,List.getElem?_cons_zero,?_⟩
     rw[<-e]
     exact c.2.1
    | succ j=>obtain ⟨k,v,e1,e2⟩:=ih (j:=j) (by simpa using e); exact ⟨k,v,by simpa using e1,e2⟩
  exact go kt e
theorem qol {p:Addr} {us:List (Key×V)} (I:L2.Inv X pins σ H s) (hp:H p=some (.dK us)): ∃(es:Array DictEntry) (ep:Nat),DH.RawD s.heap p es ep/\(p==sysModules)=false/\us.length<=sizeLine/\es.size=us.length:=by
 obtain ⟨hz,lo,vs,kv,o,es,ep,ho,hx,hd,h4,h5,h6⟩:=qrO I.hok hp
 refine ⟨es,ep,⟨o,ho,hx,hd⟩,lo,hz,?_⟩
 have:=h5.length
 rw[kv.length,<-this]; simp
theorem qlF {K:PySem.W.Frag} {B:Hp} {p:Addr} {u:Sl} (I:L2.Inv X pins σ H s) (h:DAt K H B p u): ∃(es:Array DictEntry) (ep:Nat),DH.RawD s.heap p es ep/\(p==sysModules)=false/\es.size=qoa u/\es.size<=sizeLine:=by
 cases u with
 | od k=>obtain ⟨us,a,b⟩:=h; obtain ⟨es,ep,r,lo,hz,e⟩:=qol I a; exact ⟨es,ep,r,lo,by rw[e]; exact b.length,by rw[e]; exact hz⟩
 | pd k=>obtain ⟨us,a,b⟩:=h; obtain ⟨es,ep,r,lo,hz,e⟩:=qol I a; exact ⟨es,ep,r,lo,by rw[e]; exact b.length,by rw[e]; exact hz⟩
 | ou k=>obtain ⟨us,a,b⟩:=h; obtain ⟨qs,es,ep,r,lo,hz,_,e,_⟩:=qhn I a; exact ⟨es,ep,r,lo,by rw[e]; exact b.length,by rw[e]; exact hz⟩
 | pu k=>obtain ⟨us,a,b⟩:=h; obtain ⟨qs,es,ep,r,lo,hz,_,e,_⟩:=qhn I a; exact ⟨es,ep,r,lo,by rw[e]; exact b.length,by rw[e]; exact hz⟩
 | _=>exact h.elim
end
def qp1 (dx:Ro->Rs Sl):Ro->Rs T:=λρ=>dx ρ>>=λs=>.ok (.int (qoa s))
section
variable {M:Md} {X:Cx} {o e a:Expr} {pos p p1 apos cpos:Pos} {i:Nat} {dx:Ro->Rs Sl}
theorem qpS (gl:Gl X "len") (ml:X.mg "len" =none) (ho:DX M X o dx) (he:starEach [o] X.env=(false,eval o X.env)::starEach [] X.env:=by rfl):DE M X (.Call (.Name "len" p) [o] [] pos) (qp1 dx):=by
 have cr:qcH X (.builtin "len") (λxs H Q=> ∃a K B u,xs=[V.ref a]/\DAt K H B a u/\Q (.int (qoa u)) H):=by
  intro pins s σ H xs us Q I r h
  obtain ⟨a,K,B,u,rfl,d,q⟩:=h
  obtain ⟨v,rfl,rv⟩:=qd0 r
  cases rv
  obtain ⟨es,ep,r,lo,e,hz⟩:=qlF I d
  exact DH.call_lenR lo r hz ⟨.int (qoa u),H,I.tok _,⟨_,by rw[e]⟩,q⟩
 refine PE.weak (qaO cr gl ml PySem.boot_len (qas ho qaL he) (he:=he)) λσ H Q hq=> ?_
 obtain ⟨H0,B0,ρ,B,ev,w⟩:=hq
 refine ⟨H0,B0,ρ,B,ev,Wnt.mono (Wnt.bind (qay.mp w)) λs w1 p H1 B1 g1 m1 hs=> ?_⟩
 exact ⟨p,_,_,s,rfl,hs,w1 _ H1 B1 g1 m1 qaX⟩
def quZ:Sl->Sl
 | .od _=>.od []
 | .pd _=>.pd []
 | .ou _=>.ou []
 | .pu _=>.pu []
 | s=>s
def qp2 (i:Nat):Ro->Rs Out:=λρ=>qeG ρ i>>=λs=>.ok (.nx (ρ.set i (quZ s)))
theorem qlN {P:Program} {w:World} {H':Hp} {h':Heap} {p:Addr} {ep:Nat} (lo:(p==sysModules)=false) (r:DH.RawD h' p #[] ep):qba P w H' h' p (.dK [])/\qba P w H' h' p (.dT []):=by
 obtain ⟨o,ho,hx,hd⟩:=r
 exact ⟨⟨Nat.zero_le _,lo,[],.nil,o, #[],ep,ho,hx,hd,λ_ he=>by simp at he,.nil,List.nodup_nil⟩,⟨Nat.zero_le _,lo,[],.nil,o, #[],ep,ho,hx,hd,rfl,List.nodup_nil⟩⟩
theorem qpM (ho:PE X o (qhM i)) (hbase:attributeBase o "clear" X.env (eval o X.env)=eval o X.env:=by rfl) (hline:(apos.endLine==cpos.line)=true:=by rfl) (hs:swapsWith (.Call (.Attribute o "clear" apos) [] [] cpos) none pos.line X.env=pure false:=by rfl):
  DS M X (.Expr (.Call (.Attribute o "clear" apos) [] [] cpos) pos) (qp2 i):=by
 have pe:PE X (.Call (.Attribute o "clear" apos) [] [] cpos) (λσ H Q=> ∃p K B u ob,σ[i]? =some (some (V.ref p))/\DAt K H B p u/\(ob= .dK []/\(∃us,H p=some (.dK us))\/ob= .dT []/\∃us,H p=some (.dT us))/\Q .non (upd H p ob)):=by
  intro pins s σ H Q I h
  obtain ⟨p,K,B,u,ob,es,d,hob,q⟩:=h
  refine wpAny_Call_method0_late hbase hline (thn (ho pins s σ H (λx H1=>x=V.ref p/\H1=H) I ⟨.ref p,es,rfl,rfl⟩) λv s1 hv=> ?_)
  obtain ⟨x,H1,I1,rx,rfl,rfl⟩:=hv
  obtain rfl:v=Value.ref p:=rx
  have ty:tyV X.K "dict" (.ref p) H1:=by
   rcases hob with ⟨_,us,z⟩ | ⟨_,us,z⟩
   ·exact .inr (.inr (.inl ⟨rfl,.inl ⟨us,z⟩⟩))
   ·exact .inr (.inr (.inl ⟨rfl,.inr ⟨us,z⟩⟩))
  obtain ⟨h1,h2⟩:=qnW (T:= "dict") (v:=.ref p) I1 (show RelV (.ref p) (.ref p) from rfl) ty
  obtain ⟨es',ep,r,lo,e,hz⟩:=qlF I1 d
  refine ⟨"dict", "dict.clear",PySem.F.plainAttrs_dict,PySem.F.slot_dict_clear,PySem.F.type_dict_clear,h1,h2,Calls.callWith_builtin rfl (PySem.evalArgs_none (DH.call_clearR r hz λh' r' sb=> ?_))⟩
  have hw: ∃q,h'.get? p=some q:=let ⟨q,hq,_⟩:=r'; ⟨q,hq⟩
  refine ⟨.non,_,qhu (t':=s1.toks) (ob:=ob) I1 ?_ sb hw ?_,rfl,q⟩
  ·rcases hob with ⟨_,us,z⟩ | ⟨_,us,z⟩<;>rw[z]<;>exact True.intro
  ·rcases hob with ⟨rfl,_⟩ | ⟨rfl,_⟩
   ·exact (qlN lo r').1
   ·exact (qlN lo r').2
 refine PS.weak (qfn pe hs) λD σ H hq=> ?_
 obtain ⟨H0,B0,ρ,B,ev,w⟩:=hq
 obtain ⟨u,e0,hd,w⟩:=qc8 w
 obtain ⟨p,es,h0,hb,hs0,hpp⟩:=ev.getD' e0 hd
 have go: ∀ob u',(ob= .dK []/\(∃us,H p=some (.dK us))\/ob= .dT []/\∃us,H p=some (.dT us))->quZ u=u'->u.like u'=u'->DAt M.K (upd H p ob) B p u'->∃p K B u ob,σ[i]? =some (some (V.ref p))/\DAt K H B p u/\(ob= .dK []/\(∃us,H p=some (.dK us))\/ob= .dT []/\∃us,H p=some (.dT us))/\D.nx σ (upd H p ob):=λob u' hob e1 lk da=>by
  refine ⟨p,M.K,B,u,ob,es,hs0,hob,w σ _ B ?_ (.refl _)⟩
  rw[e1]
  have:=ev.behindQ (H':=upd H p ob) (B':=B) (s':=u') e0 hd es ⟨⟨λa o z n=> ?_,λa z=> ?_⟩,.refl _,λa o z=> ?_,ev.bt,λ_ _ _ _ _=>rfl⟩ (M.G.st H _ (λa o z n1 n2 n3 n4=> ?_) ev.gm) hb da
  ·rw[lk] at this; exact this
  ·have:=qcB z; rw[qaj this.2]; exact this.1
  ·by_cases q:a=p
   ·subst q; rw[qal]; simp
   ·rw[qaj q]; rw[qbK q] at z; exact z
  ·rw[qaj (qap z hb)]; exact ev.bh _ _ z
  ·rw[qaj (λq=> ?_)]; exact z
   subst q
   rcases hob with ⟨_,us,y⟩ | ⟨_,us,y⟩
   ·rw[y] at z; exact n2 _ (Option.some.inj z).symm
   ·rw[y] at z; exact n3 _ (Option.some.inj z).symm
 cases u with
 | od k=>obtain ⟨us,a,b⟩:=hs0; exact go (.dK []) _ (.inl ⟨rfl,us,a⟩) rfl rfl ⟨[],qal,.nil⟩
 | pd k=>obtain ⟨us,a,b⟩:=hs0; exact go (.dK []) _ (.inl ⟨rfl,us,a⟩) rfl rfl ⟨[],qal,.nil⟩
 | ou k=>obtain ⟨us,a,b⟩:=hs0; exact go (.dT []) _ (.inr ⟨rfl,us,a⟩) rfl rfl ⟨[],qal,.nil⟩
 | pu k=>obtain ⟨us,a,b⟩:=hs0; exact go (.dT []) _ (.inr ⟨rfl,us,a⟩) rfl rfl ⟨[],qal,.nil⟩
 | _=>cases hd
end
def qnc:List Key->Bool
 | [.inl _,.inr _]=>true
 | _=>false
def qch:List Key->DH.IS
 | [.inl i,.inr s]=>(i,s)
 | _=>(0, "")
def isT (x:DH.IS):T:=.tup [.int x.1,.str x.2]
def kvU:Sl->Option (List (List Key×T))
 | .ou k=>some k
 | .pu k=>some k
 | _=>none
def qpu (s:Sl):Rs T:=match kvU s with
 | some kvs=>if kvs≠[]/\(kvs.all λkv=>qnc kv.1)=true then .ok (isT ((kvs.map λkv=>qch kv.1).getD (DH.bestIS (kvs.map λkv=>qch kv.1)) (0, ""))) else .no
 | none=>.no
def qp0 (dx:Ro->Rs Sl):Ro->Rs T:=λρ=>dx ρ>>=qpu
theorem qnb {k:List Key} (h:qnc k=true):k.map kV=[.int (qch k).1,.str (qch k).2]:=by
 unfold qnc at h
 split at h
 ·rfl
 ·cases h
section
variable {M:Md} {X:Cx} {o e a:Expr} {pos p p1 apos cpos:Pos} {i:Nat} {dx:Ro->Rs Sl}
theorem qrX {K:PySem.W.Frag} {H B:Hp} {p:Addr} {s:Sl} {kvs:List (List Key×T)} (h:DAt K H B p s) (e:kvU s=some kvs): ∃us,H p=some (.dT us)/\qbv K B kvs us:=by
 cases s with
 | ou k=>cases e; exact h
 | pu k=>cases e; exact h
 | _=>cases e
theorem qhV {K:PySem.W.Frag} {B:Hp}: ∀{kvs:List (List Key×T)} {us:List (List Key×V)} {j:Nat} {k:List Key} {v:V},qbv K B kvs us->us[j]? =some (k,v)->∃t,kvs[j]? =some (k,t)
 | [],_,_,_,_,r,e=>by rw[r.inv0] at e; simp at e
 | (k0,t0)::kvs,_,0,k,v,r,e=>by
  obtain ⟨x,r',rfl,a,b⟩:=r.inv
  have e:(k0,x)=(k,v):=by simpa using e
  cases e
  exact ⟨t0,rfl⟩
 | (k0,t0)::kvs,_,j+1,k,v,r,e=>by
  obtain ⟨x,r',rfl,a,b⟩:=r.inv
  obtain ⟨t,h⟩:=qhV (j:=j) b (by simpa using e)
  exact ⟨t,by simpa using h⟩
theorem qkT {pins:List (Addr×Obj)} {σ:St} {H B:Hp} {s:Shared} {p:Addr} {kvs:List (List Key×T)} {us:List (List Key×V)} (I:L2.Inv X pins σ H s) (le:Le B H) (bt: ∀a ps,B a≠some (.tbl ps)) (hp:H p=some (.dT us)) (r:qbv M.K B kvs us) (hi:(kvs.all λkv=>qnc kv.1)=true):
  ∃(qs:List Addr) (es:Array DictEntry) (ep:Nat),DH.RawD s.heap p es ep/\(p==sysModules)=false/\es.size<=sizeLine/\es.toList.map (·.key)=qs.map Value.ref/\qs.length=kvs.length/\qa5 H B H (ql7 H B qs)/\
   (∀(j:Nat) (q:Addr),qs[j]? =some q->DH.ISAt s.heap ((kvs.map λkv=>qch kv.1).getD j (0, "")) q/\ql7 H B qs q=some (.tup [.int ((kvs.map λkv=>qch kv.1).getD j (0, "")).1,.str ((kvs.map λkv=>qch kv.1).getD j (0, "")).2])):=by
 obtain ⟨qs,es,ep,r1,lo,hz,hk,h1,h2,h3⟩:=qhn I hp
 have hl:us.length=kvs.length:=r.length
 have at_: ∀(j:Nat) (q:Addr),qs[j]? =some q->H q=some (.tup [.int ((kvs.map λkv=>qch kv.1).getD j (0, "")).1,.str ((kvs.map λkv=>qch kv.1).getD j (0, "")).2]):=λj q e=>by
  obtain ⟨k,v,e1,e2⟩:=h3 j q e
  obtain ⟨t,e3⟩:=qhV r e1
  have:=List.all_eq_true.mp hi _ (List.mem_of_getElem? e3)
  rw[qnb this] at e2
  rw[List.getD_eq_getElem?_getD,List.getElem?_map,e3]
  exact e2
 refine ⟨qs,es,ep,r1,lo,by rw[h1]; exact hz,hk,by rw[h2,hl],.absorb le bt λq hq=> ?_,λj q e=>⟨?_,?_⟩⟩
 ·obtain ⟨j,hj⟩:=List.mem_iff_getElem?.mp hq
  exact ⟨_,at_ j q hj⟩
 ·obtain ⟨its,rv,pl,_⟩:=I.tuple (SqT.of (at_ j q e))
  cases rv with
  | cons a r=>
   obtain ⟨t,rfl⟩:=a
   cases r with
   | cons a r=>
    obtain ⟨u,rfl⟩:=a
    cases r
    exact ⟨t,u,pl⟩
 ·rw[qqc (List.mem_of_getElem? e)]; exact at_ j q e
theorem qpR (hc:X.calm=true) (hu:X.A.units+8<cLine) (gl:Gl X "max") (ml:X.mg "max" =none) (ho:DX M X o dx) (hK:X.K=M.K:=by rfl) (he:starEach [o] X.env=(false,eval o X.env)::starEach [] X.env:=by rfl):DE M X (.Call (.Name "max" p) [o] [] pos) (qp0 dx):=by
 have cr:qcH X (.builtin "max") (λxs H Q=> ∃a B u t,xs=[V.ref a]/\Le B H/\(∀a ps,B a≠some (.tbl ps))/\DAt M.K H B a u/\qpu u= .ok t/\∀v B',qa5 H B H B'->Rep M.K B' t v->Q v H):=by
  intro pins s σ H xs us Q I r h
  obtain ⟨a,B,u,t,rfl,le,bt,d,e,q⟩:=h
  obtain ⟨v,rfl,rv⟩:=qd0 r
  cases rv
  unfold qpu at e
  split at e
  ·rename_i kvs ek
   split at e
   ·rename_i hc2
    cases e
    obtain ⟨us,hp,ru⟩:=qrX d ek
    obtain ⟨qs,es,ep,r1,lo,hz,hk,hl,g,at_⟩:=qkT (M:=M) I le bt hp ru hc2.2
    have hh:X.A.in1.handled=none:=I.ok.hd hc
    have hne:(kvs.map λkv=>qch kv.1)≠[]:=λz=>hc2.1 (List.map_eq_nil_iff.mp z)
    have hb:=DH.bestIS_lt hne
    rw[List.length_map] at hb
    refine DH.call_maxD (xs:=kvs.map λkv=>qch kv.1) (qs:=qs) hh (by show X.A.units+1<cLine; omega) lo r1 hk (by rw[List.length_map,hl]) hne (λj q e=>(at_ j q e).1) λh' tk k=> ?_
    have e1:qs[DH.bestIS (kvs.map λkv=>qch kv.1)]? =some (qs.getD (DH.bestIS (kvs.map λkv=>qch kv.1)) 0):=by rw[List.getD_eq_getElem?_getD,List.getElem?_eq_getElem (by omega)]; rfl
    refine ⟨.ref _,H,I.kept (t':=tk) k,rfl,q _ _ g (qf0 (at_ _ _ e1).2 (.cons qaX (.cons qf1 .nil)))⟩
   ·cases e
  ·cases e
 refine PE.weak (qaO cr gl ml qgA (qas ho qaL he) (he:=he)) λσ H Q hq=> ?_
 obtain ⟨H0,B0,ρ,B,ev,w⟩:=hq
 refine ⟨H0,B0,ρ,B,ev,Wnt.mono (Wnt.bind (qay.mp w)) λs w1 p H1 B1 g1 m1 hs=> ?_⟩
 have ev1:=ev.grow g1 m1
 cases q:qpu s with
 | no=>rw[q] at w1; exact w1.elim
 | ex c=>unfold qpu at q; split at q<;>first | (split at q<;>cases q) | cases q
 | ok t=>
  rw[q] at w1
  exact ⟨p,B1,s,t,rfl,ev1.bh,ev1.bt,hs,q,λv B' g rv=>w1 v H1 B' (g1.trans g) m1 rv⟩
end
end PL
end
section
namespace PL
open PySem L2 SR SetL
def qg9 (x:DH.IS):List Ky:=[.i x.1,.s x.2]
theorem qkV (x:DH.IS):qih (isT x)=qg9 x:=rfl
theorem qkU {h:Heap} {x:DH.IS} {q:Addr} (a:DH.ISAt h x q):qgJ h (qg9 x) (.ref q):=by
 obtain ⟨t,u,pl⟩:=a
 exact ⟨q,[.int x.1 t,.str x.2 u],rfl,pl,.cons ⟨t,rfl⟩ (.cons ⟨u,rfl⟩ .nil)⟩
def qgQ (s:Sl):Rs (List T):=match kvU s with
 | some kvs=>if kvs.length<64/\(kvs.all λkv=>qnc kv.1)=true then .ok (qiQ ((kvs.map λkv=>qch kv.1).map isT)) else .no
 | none=>.no
def qiE (dx:Ro->Rs Sl):Ro->Rs (List T):=λρ=>dx ρ>>=qgQ
section
variable {M:Md} {X:Cx} {o e a:Expr} {pos p p1 apos cpos:Pos} {i:Nat} {dx:Ro->Rs Sl}
open PySem.W PyProof.Rows in
theorem qjj (hc:X.calm=true) (gl:Gl X "sorted") (ml:X.mg "sorted" =none) (ho:DX M X o dx) (hK:X.K=M.K:=by rfl) (he:starEach [o] X.env=(false,eval o X.env)::starEach [] X.env:=by rfl):DF M X (.Call (.Name "sorted" p) [o] [] pos) (qiE dx):=by
 have cr:qcH X (.builtin "sorted") (λxs H Q=> ∃a B u ts,xs=[V.ref a]/\Le B H/\(∀a ps,B a≠some (.tbl ps))/\M.G.P H/\DAt M.K H B a u/\qgQ u= .ok ts/\∀D vs H' B',qa5 H B H' B'->M.G.P H'->H D=none->B' D=none->H' D=some (.lst vs)->qaP M.K B' ts vs->Q (.ref D) H'):=by
  intro pins s σ H xs us Q I r h
  obtain ⟨a,B,u,ts,rfl,le,bt,m,d,e,q⟩:=h
  obtain ⟨v,rfl,rv⟩:=qd0 r
  cases rv
  unfold qgQ at e
  split at e
  case h_2=>cases e
  rename_i kvs ek
  split at e
  case isFalse=>cases e
  rename_i hc2
  cases e
  obtain ⟨us,hp,ru⟩:=qrX d ek
  obtain ⟨qs,es,ep,r1,lo,hz,hk,hl,g,at_⟩:=qkT (M:=M) I le bt hp ru hc2.2
  have hh:X.A.in1.handled=none:=I.ok.hd hc
  generalize exs:(kvs.map λkv=>qch kv.1)=xs at at_ q
  have lx:xs.length=qs.length:=by rw[<-exs,List.length_map,hl]
  have l64:qs.length<64:=by rw[hl]; exact hc2.1
  have lj: ∀{j:Nat},j<qs.length->qs[j]? =some (qs.getD j 0):=λ{j} hj=>by rw[List.getD_eq_getElem?_getD,List.getElem?_eq_getElem hj]; rfl
  have vat: ∀{j:Nat},j<qs.length->(qs.map Value.ref).getD j Value.none= .ref (qs.getD j 0):=λ{j} hj=>by rw[List.getD_eq_getElem?_getD,List.getElem?_map,lj hj]; rfl
  have tat: ∀{j:Nat},j<qs.length->(xs.map isT).getD j .non=isT (xs.getD j (0, "")):=λ{j} hj=>by rw[List.getD_eq_getElem?_getD,List.getElem?_map,List.getD_eq_getElem?_getD,List.getElem?_eq_getElem (by omega)]; rfl
  have hR:qaP M.K (ql7 H B qs) (xs.map isT) (qs.map V.ref):=by
   refine .of_get (by simp; omega) λj t' v' h1 h2=> ?_
   rw[List.getElem?_map] at h1 h2
   cases z:qs[j]? with
   | none=>rw[z] at h2; cases h2
   | some b=>
    rw[z] at h2; cases h2
    have hj:j<xs.length:=by have:=(List.getElem?_eq_some_iff.mp z).1; omega
    have e1:xs.getD j (0, "")=xs[j]:=by rw[List.getD_eq_getElem?_getD,List.getElem?_eq_getElem hj]; rfl
    rw[List.getElem?_eq_getElem hj,<-e1] at h1; cases h1
    exact qf0 (at_ j b z).2 (.cons qaX (.cons qf1 .nil))
  have key1: ∀{j:Nat},j<qs.length->(((xs.map isT).map qih).map (qcf qdL ((xs.map isT).map qih))).getD j 0=qcf qdL ((xs.map isT).map qih) (qih ((xs.map isT).getD j .non)):=λ{j} hj=>by
   have hj':j<(xs.map isT).length:=by rw[List.length_map]; omega
   rw[List.getD_eq_getElem?_getD,List.getElem?_map,List.getElem?_map,List.getElem?_eq_getElem hj',List.getD_eq_getElem?_getD,List.getElem?_eq_getElem hj']
   rfl
  have memt: ∀{j:Nat},j<qs.length->(xs.map isT).getD j .non∈xs.map isT:=λ{j} hj=>by
   have hj':j<(xs.map isT).length:=by rw[List.length_map]; omega
   rw[List.getD_eq_getElem?_getD,List.getElem?_eq_getElem hj']; exact List.getElem_mem hj'
  refine St.sorted_c (DH.collectD hh lo r1 hz λh' tk kp=> ?_)
  rw[hk]
  have kt: ∀{j:Nat},j<qs.length->∀{h2:Heap},St.Kp h' h2->qgJ h2 (qg9 (xs.getD j (0, ""))) (.ref (qs.getD j 0)):=λ{j} hj {h2} k2=>qkU ((at_ j _ (lj hj)).1.keep λo e=>k2 _ _ (kp _ _ e))
  refine ⟨h',tk,tuples' true,((xs.map isT).map qih).map (qcf qdL ((xs.map isT).map qih)),rfl,kp,by simp; omega,by simp; omega,λs' k2 h2 Q' E' hq'=> ?_,λs' k2 i j hi hj C hC=> ?_,λD h'' tk'' c p hD k2 ho' hget=> ?_⟩
  ·refine qkS (x:=0) (r:=[1]) (qs.map Value.ref) (.inl rfl) h2 (λv hv=> ?_) hq'
   obtain ⟨j,hj,rfl⟩:=List.mem_iff_getElem.mp hv
   have hj':j<qs.length:=by simpa using hj
   have e1:(qs.map Value.ref)[j]= .ref (qs.getD j 0):=by
    have:=vat hj'
    rw[List.getD_eq_getElem?_getD,List.getElem?_eq_getElem hj] at this
    exact this
   rw[e1]
   exact ⟨_,kt hj' k2,rfl⟩
  ·have hi':i<qs.length:=by simpa using hi
   have hj':j<qs.length:=by simpa using hj
   rw[key1 hi',key1 hj',qbG qmZ (List.mem_map.mpr ⟨_,memt hi',rfl⟩) (List.mem_map.mpr ⟨_,memt hj',rfl⟩),tat hi',tat hj',qkV,qkV] at hC
   rw[vat hi',vat hj']
   exact qpv (kt hi' k2) (kt hj' k2) rfl hC
  ·have I2:L2.Inv X pins σ H { s with heap:=h',toks:=tk }:=I.kept (t':=tk) kp
   have fD:H D=none:=I2.hok.fresh hD
   have rv:Vals (qs.map V.ref) (qs.map Value.ref):=by
    have go: ∀l:List Addr,Vals (l.map V.ref) (l.map Value.ref):=λl=>by
     induction l with
     | nil=>exact .nil
     | cons b l ih=>exact .cons rfl ih
    exact go qs
   have I4:L2.Inv X pins σ (L2.upd H D (.lst (p.toList.map λj=>(qs.map V.ref).getD j .non))) { s with heap:=h'',toks:=tk'' }:=by
    refine I2.laid k2 hD ⟨?_,_,c,L2.vals_pick rv p.toList,hget⟩
    rw[List.length_map,Array.length_toList,ho'.1.sz,sizeLine_eq]
    simp
    omega
   obtain ⟨g2,m2,bp⟩:=qb6 (M:=M) (ws:=p.toList.map λj=>(qs.map V.ref).getD j .non) g.bh g.bt m fD
   refine ⟨.ref D,_,I4,rfl,q D _ _ _ (g.trans g2) m2 fD bp qal ?_⟩
   have ep':=qfY ho'
   have e:qiQ (xs.map isT)=p.toList.map λj=>(xs.map isT).getD j .non:=by
    unfold qiQ qjS
    rw[ep',srt_congr (k':=λj=>qcf qdL ((xs.map isT).map qih) (qih ((xs.map isT).getD j .non))),qdr (k:=λt=>qcf qdL ((xs.map isT).map qih) (qih t)) (f:=λj=>(xs.map isT).getD j .non) (λb=>rfl),show (qs.map Value.ref).length=(xs.map isT).length by simp; omega,Mir.map_range_getD]
    intro b hb
    have hb':b<qs.length:=by have:=List.mem_range.mp hb; simpa using this
    exact key1 hb'
   rw[e]
   have go: ∀l:List Nat,(∀j∈l,j<qs.length)->qaP M.K (ql7 H B qs) (l.map λj=>(xs.map isT).getD j .non) (l.map λj=>(qs.map V.ref).getD j .non):=λl=>by
    induction l with
    | nil=>exact λ_=>.nil
    | cons j l ih=>exact λhl=>.cons (hR.getD j (by rw[List.length_map]; have:=hl j List.mem_cons_self; omega)) (ih λi hi=>hl i (List.mem_cons_of_mem _ hi))
   exact go _ λj hj=>by have:=(Mir.order_mem ho' j).mp hj; simpa using this
 refine PE.weak (qaO cr gl ml SetL.boot_sorted (qas ho qaL he) (he:=he)) λσ H Q hq=> ?_
 obtain ⟨H0,B0,ρ,B,ev,w⟩:=hq
 refine ⟨H0,B0,ρ,B,ev,Wnt.mono (Wnt.bind (qbx.mp w)) λs w1 p H1 B1 g1 m1 hs=> ?_⟩
 have ev1:=ev.grow g1 m1
 cases q:qgQ s with
 | no=>rw[q] at w1; exact w1.elim
 | ex c=>unfold qgQ at q; split at q<;>first | (split at q<;>cases q) | cases q
 | ok t=>
  rw[q] at w1
  exact ⟨p,B1,s,t,rfl,ev1.bh,ev1.bt,m1,hs,q,λD vs H' B' g m2 fD bD hD rs=>w1 D vs H' B' (g1.trans g) m2 (qbA g1.gx fD) bD hD rs⟩
end
end PL
end
section
namespace PL
open PySem L2
def luS {α:Type} (tbl:List (Str×α)) (z:Str):Option α:=(tbl.find? λp=>decide (p.1=z)).map (·.2)
def qjA (K:PySem.W.Frag) (mg:Str->Option Value) (w:World) (D:Str) (tbl:List (Str×Str)):Prop:=
 ∃(a:Addr) (es:Array DictEntry) (n:Nat),mg D=some (.ref a)/\K.lookup a=some ⟨.type "dict",none,.dict es n, #[]⟩/\PySem.W.KeysLit w.params es.toList/\(a==sysModules)=false/\
  ∀z,match luS tbl z with | none=>findBy Value.isStrOf es z=none | some g=> ∃f,findBy Value.isStrOf es z=some (.ref f)/\PySem.W.nsIn K mainGlobals g=some (some (.ref f))
def qqm (K:PySem.W.Frag) (D:Str):Option (List DictEntry):=match PySem.W.nsIn K mainGlobals D with
 | some (some (.ref a))=>(match K.lookup a with | some ⟨.type "dict",none,.dict es _,sl⟩=>if (a==sysModules)=false/\sl.size=0 then some es.toList else none | _=>none)
 | _=>none
def qqn (K:PySem.W.Frag):List DictEntry->List (Str×Str)->Bool
 | [],[]=>true
 | e::es,(k,g)::tb=>(match e.key,e.val,PySem.W.nsIn K mainGlobals g with | .str x _,.ref f,some (some (.ref f'))=>x==k&&f==f' | _,_,_=>false)&&qqn K es tb
 | _,_=>false
def qqx (K:PySem.W.Frag) (D:Str) (tbl:List (Str×Str)):Bool:=match qqm K D with
 | some es=>qqn K es tbl
 | none=>false
theorem qgg {K:PySem.W.Frag} {P:Params}: ∀{es:List DictEntry} {tbl:List (Str×Str)},qqn K es tbl=true->es.map (·.hash)=tbl.map (λp=>PyData.keyHash P p.1)->PySem.W.KeysLit P es
 | [],[],_,_=>True.intro
 | e::es,(k,g)::tb,h,hh=>by
  unfold qqn at h
  have h:=Bool.and_eq_true_iff.mp h
  have h1:=h.1
  split at h1
  ·rename_i x t f f' e1 e2 e3
   have h1:=Bool.and_eq_true_iff.mp h1
   have:x=k:=by simpa using h1.1
   subst this
   exact ⟨⟨x,t,e1,(List.cons.inj hh).1⟩,qgg h.2 (List.cons.inj hh).2⟩
  ·cases h1
 | [],_::_,h,_=>by cases h
 | _::_,[],h,_=>by cases h
theorem qgh {K:PySem.W.Frag} (z:Str): ∀{es:List DictEntry} {tbl:List (Str×Str)},qqn K es tbl=true->
  match luS tbl z with | none=>(es.find? λe=>Value.isStrOf z e.key).map (·.val)=none | some g=> ∃f,(es.find? λe=>Value.isStrOf z e.key).map (·.val)=some (.ref f)/\PySem.W.nsIn K mainGlobals g=some (some (.ref f))
 | [],[],_=>rfl
 | e::es,(k,g)::tb,h=>by
  unfold qqn at h
  have h:=Bool.and_eq_true_iff.mp h
  have h1:=h.1
  split at h1
  ·rename_i x t f f' e1 e2 e3
   have h1:=Bool.and_eq_true_iff.mp h1
   have:x=k:=by simpa using h1.1
   subst this
   have:f=f':=by simpa using h1.2
   subst this
   by_cases c:x=z
   ·subst c
    have l:luS ((x,g)::tb) x=some g:=by simp[luS,List.find?_cons]
    rw[l]
    refine ⟨f,?_,e3⟩
    have:Value.isStrOf x e.key=true:=by rw[e1]; show (x==x)=true; simp
    rw[List.find?_cons,this]
    exact congrArg some e2
   ·have l:luS ((x,g)::tb) z=luS tb z:=by simp[luS,List.find?_cons,c]
    have n:Value.isStrOf z e.key=false:=by
     rw[e1]
     show (x==z)=false
     exact beq_eq_false_iff_ne.mpr c
    rw[l,List.find?_cons,n]
    exact qgh z h.2
  ·cases h1
 | [],_::_,h=>by cases h
 | _::_,[],h=>by cases h
theorem qgN {K:PySem.W.Frag} {h:Heap} {mg:Str->Option Value} {w:World} {D:Str} {tbl:List (Str×Str)} (X:K.In h) (G:h.Ns mainGlobals mg) (b:qqx K D tbl=true) (hh:(qqm K D).map (λes=>es.map (·.hash))=some (tbl.map λp=>PyData.keyHash w.params p.1)):qjA K mg w D tbl:=by
 unfold qqx at b
 split at b
 ·rename_i es e
  rw[e] at hh
  have hh:=Option.some.inj hh
  unfold qqm at e
  split at e
  ·rename_i a n
   split at e
   ·rename_i es' m sl l
    split at e
    ·rename_i c
     cases e
     have:sl= #[]:=by simpa using c.2
     subst this
     refine ⟨a,es',m,PySem.W.mg_of X G n,l,qgg b hh,c.1,λz=> ?_⟩
     have:=qgh z b
     unfold findBy
     rw[<-Array.find?_toList]
     exact this
    ·cases e
   ·cases e
  ·cases e
 ·cases b
section
variable {M:Md} {X:Cx} {e a k value:Expr} {es:List Expr} {pos p dp pos':Pos} {i j n:Nat} {x D:Str} {da dk:Ro->Rs T} {ds:Ro->Rs (List T)} {tbl:List (Str×Str)}
def qd2 (tbl:List (Str×Str)):T->Rs T
 | .str z=>.ok (.bl (luS tbl z).isSome)
 | _=>.no
def qbq (tbl:List (Str×Str)) (da:Ro->Rs T):Ro->Rs T:=λρ=>da ρ>>=qd2 tbl
def qqw (tbl:List (Str×Str)):T->Rs T
 | .str z=>(match luS tbl z with | some g=>.ok (.fn g) | none=>.no)
 | _=>.no
def qfz (tbl:List (Str×Str)) (da:Ro->Rs T):Ro->Rs T:=λρ=>da ρ>>=qqw tbl
theorem qh4 {a:Addr} {es:Array DictEntry} {n:Nat} (hl:X.K.lookup a=some ⟨.type "dict",none,.dict es n, #[]⟩) (hk:PySem.W.KeysLit X.w.params es.toList) (lo:(a==sysModules)=false)
  (hz: ∀z,match luS tbl z with | none=>findBy Value.isStrOf es z=none | some g=> ∃f,findBy Value.isStrOf es z=some (.ref f)/\PySem.W.nsIn X.K mainGlobals g=some (some (.ref f))):
  OpR X (compareOp .In) (λx y H Q=> ∃z,x= .str z/\y= .ref a/\Q (.bl (luS tbl z).isSome) H):=by
 intro pins s σ H x y v u Q I rx ry q
 obtain ⟨z,rfl,rfl,q⟩:=q
 obtain ⟨t,rfl⟩:=rx
 cases ry
 refine PySem.wpAny_in_of (PySem.strKind_is X.prog X.w z t) lo (PySem.W.mapOf_K (prog:=X.prog) I.kIn hl hk) ?_
 have:(findBy Value.isStrOf es z).isSome=(luS tbl z).isSome:=by
  have:=hz z
  split at this
  ·rename_i e; rw[this,e]; rfl
  ·rename_i g e; obtain ⟨f,h1,_⟩:=this; rw[h1,e]; rfl
 rw[this]
 exact ⟨.bl _,H,I.tok _,rfl,q⟩
theorem qnD (T0:qjA X.K X.mg X.w D tbl) (hg:Gl X D) (ha:DE M X e da) (hm:behindInMarks .In (.Name D dp)=false:=by rfl) (hd:(D==("__debug__" :Str))=false:=by decide):DE M X (.Compare e [.In] [.Name D dp] pos) (qbq tbl da):=by
 obtain ⟨a,es,n,mD,hl,hk,lo,hz⟩:=T0
 refine PE.weak (qkw (qh4 hl hk lo hz) ha (qbI hg mD (v:=.ref a) rfl hd) hm) λσ H Q hq=> ?_
 obtain ⟨H0,B0,ρ,B,ev,w⟩:=hq
 refine tP.of ev (Wnt.mono (Wnt.bind (qay.mp w)) λt w1 v H1 B1 g1 m1 r1=> ?_)
 cases t with
 | str z=>exact ⟨z,qaN r1,rfl,w1 _ H1 B1 g1 m1 qb5⟩
 | _=>exact w1.elim
theorem qdV (T0:qjA X.K X.mg X.w D tbl) (hg:Gl X D) (ha:DE M X e da) (hm:behindInMarks .In (.Name D dp)=false:=by rfl) (hd:(D==("__debug__" :Str))=false:=by decide):DT M X (.Compare e [.In] [.Name D dp] pos) (dTB (qbq tbl da)):=by
 obtain ⟨a,es,n,mD,hl,hk,lo,hz⟩:=T0
 refine PT.weak (qcW (qh4 hl hk lo hz) ha (qbI hg mD (v:=.ref a) rfl hd) hm) λσ H Q hq=> ?_
 obtain ⟨H0,B0,ρ,B,ev,w⟩:=qb2 hq
 refine tP.of ev (Wnt.mono (Wnt.bind (qay.mp w)) λt w1 v H1 B1 g1 m1 r1=> ?_)
 cases t with
 | str z=>exact ⟨z,qaN r1,rfl,w1 _ H1 B1 g1 m1 qb5⟩
 | _=>exact w1.elim
theorem qeu (T0:qjA X.K X.mg X.w D tbl) (hg:Gl X D) (ha:DE M X k da) (hK:X.K=M.K:=by rfl) (hs:qsq k:=by intro _ _; rfl) (hd:(D==("__debug__" :Str))=false:=by decide):DE M X (.Subscript (.Name D dp) k pos) (qfz tbl da):=by
 obtain ⟨a,es,n,mD,hl,hk,lo,hz⟩:=T0
 intro pins s σ H Q I hq
 obtain ⟨H0,B0,ρ,B,ev,w⟩:=hq
 have pa:tP M da σ H λy H1=> ∃z g f,y=V.str z/\luS tbl z=some g/\findBy Value.isStrOf es z=some (.ref f)/\Q (.ref f) H1:=by
  refine tP.of ev (Wnt.mono (Wnt.bind (qay.mp w)) λt w1 v H1 B1 g1 m1 r1=> ?_)
  cases t with
  | str z=>
   have w1:Wnt M H0 (λa=> ∀v H' B',qa5 H B H' B'->M.G.P H'->Rep M.K B' a v->Q v H') (match luS tbl z with | some g=>.ok (.fn g) | none=>.no):=w1
   cases q:luS tbl z with
   | none=>rw[q] at w1; exact w1.elim
   | some g=>
    rw[q] at w1
    have:=hz z
    rw[q] at this
    obtain ⟨f,h1,h2⟩:=this
    exact ⟨z,g,f,qaN r1,q,h1,w1 _ H1 B1 g1 m1 (by unfold Rep; exact ⟨f,rfl,by rw[<-hK]; exact h2⟩)⟩
  | _=>exact w1.elim
 refine qjO PySem.F.slot_dict_getitem.lookup hs (thn (qbI hg mD (v:=.ref a) rfl hd pins s σ H (λx H1=>x= .ref a/\H1=H) I ⟨rfl,rfl⟩) λu s1 hu=> ?_)
 obtain ⟨x,H1,I1,rx,rfl,rfl⟩:=hu
 obtain rfl:u=Value.ref a:=rx
 refine thn (ha pins s1 σ H1 _ I1 pa) λiv s2 hv=> ?_
 obtain ⟨y,H2,I2,ry,z,g,f,rfl,_,hf,q⟩:=hv
 obtain ⟨t,rfl⟩:=ry
 have hm:=PySem.W.mapOf_K (prog:=X.prog) (w:=X.w) I2.kIn hl hk
 exact ⟨hm.typeIs,PySem.wpAny_getItem_of (PySem.strKind_is X.prog X.w z t) hm hf ⟨.ref f,H2,I2.tok _,rfl,q⟩⟩
end
section
variable {M:Md} {X:Cx} {e a k value:Expr} {es:List Expr} {pos p dp pos':Pos} {i j n:Nat} {x D:Str} {da dk:Ro->Rs T} {ds:Ro->Rs (List T)}
def fnAt (ρ:Ro) (i:Nat):Rs Str:=match ρ[i]? with | some (.fz (.fn g))=>.ok g | _=>.no
theorem qiq {α:Type} {M:Md} {H0:Hp} {k:α->Prop} {ρ:Ro} {f:Str->Rs α} (w:Wnt M H0 k (fnAt ρ i>>=f)): ∃g,ρ[i]? =some (.fz (.fn g))/\Wnt M H0 k (f g):=by
 unfold fnAt at w
 split at w
 ·rename_i g e; exact ⟨g,e,w⟩
 ·exact w.elim
theorem qh0 {f:Addr} {fd:FuncData} {ps:List Str} {sp:Sp} {t:TA} {k:Nat} {pins:List (Addr×Obj)} {s:Shared} {σ:St} {H:Hp} {Q:VK} (I:L2.Inv X pins σ H s) (hv:PE X (.Name x p) (qhM i)) (ei:σ[i]? =some (some (.ref f))) (F:qbf X.prog X.w X.K X.mg X.base CX0 k f fd ps sp) (hr:qcE k X.A)
  (hk:PySem.W.keepIn X.K (.ref f)=true) (hb:qdB X.K fd ps []) (ha:PA X (e::es) t) (h:qgP sp [] M.E t σ H Q)
  (he:starEach (e::es) X.env=(false,eval e X.env)::starEach es X.env) (hpl:(backTo pos (starEach es X.env)).any (·.1)=false):
  wpAny (model X.prog X.w) X.A (eval (.Call (.Name x p) (e::es) [] pos) X.env) (EP X pins σ Q) X.xe s:=by
 refine wpAny_Call_Name_kw (thn (hv pins s σ H (λv H1=>v= .ref f/\H1=H) I ⟨.ref f,ei,rfl,rfl⟩) λu s1 hu=> ?_)
 obtain ⟨v,H1,I1,rv,rfl,rfl⟩:=hu
 obtain rfl:u=Value.ref f:=rv
 refine PySem.W.callWith_K (h₀:=X.base) I1.ok.mod.kin hk (thn (ha pos pins s1 σ H1 _ I1 h) λus s2 hq=> ?_) he hpl
 obtain ⟨vs,H2,I2,r,q⟩:=hq
 exact ⟨I2.kIn,qn1 F hr hb .nil (qi2 (M:=M)) I2 r q⟩
theorem qlk {f f':Addr} {g:Str} {pins:List (Addr×Obj)} {s:Shared} {σ:St} {H:Hp} (I:L2.Inv X pins σ H s) (h:PySem.W.nsIn X.K mainGlobals g=some (some (.ref f))) (m:X.mg g=some (.ref f')):f=f':=by
 have:=PySem.W.mg_of I.ok.mod.kin I.ok.mod.glob h
 rw[m] at this
 cases this
 rfl
def qjl (j:Nat) (tbl:List (Str×(List T->Rs Sl))) (ds:Ro->Rs (List T)):Ro->Rs Out:=λρ=>fnAt ρ j>>=λg=>match luS tbl g with | some t=>qjm ds t ρ | none=>.no
theorem qpO {tbl:List (Str×(List T->Rs Sl))} {k:Nat} (F: ∀g t,luS tbl g=some t->∃ps,KnS X.prog X.w X.K X.mg X.base M.G M.C g ps k t) (hK:X.K=M.K) (hr:qcE k X.A) (hv:PE X (.Name x p) (qhM j)) (ha:DA M X (e::es) ds)
  (he:starEach (e::es) X.env=(false,eval e X.env)::starEach es X.env:=by rfl) (hpl:(backTo pos (starEach es X.env)).any (·.1)=false:=by rfl):DS M X (.Return (some (.Call (.Name x p) (e::es) [] pos)) pos') (qjl j tbl ds):=by
 have pe:PE X (.Call (.Name x p) (e::es) [] pos) (λσ H Q=> ∃H0 B0 ρ B g t,Ev M H0 B0 ρ σ H B/\ρ[j]? =some (.fz (.fn g))/\luS tbl g=some t/\tS' M ds t σ H Q):=by
  intro pins s σ H Q I hq
  obtain ⟨H0,B0,ρ,B,g,t,ev,e1,q,h⟩:=hq
  obtain ⟨ps,f,fd,G,m,kk,bb⟩:=F g t q
  obtain ⟨v,e2,r⟩:=ev.get e1
  unfold Rep at r
  obtain ⟨f',rfl,hn⟩:=r
  have:f'=f:=qlk I (by rw[hK]; exact hn) m
  subst this
  rw[hK] at G
  exact qh0 (M:=M) I hv e2 (by rw[hK]; exact G) hr kk bb ha (qfa h) he hpl
 refine PS.weak (qcK pe) λD σ H hq=> ?_
 obtain ⟨H0,B0,ρ,B,ev,w⟩:=hq
 obtain ⟨g,e1,w⟩:=qiq w
 cases q:luS tbl g with
 | none=>rw[q] at w; exact w.elim
 | some t=>
  rw[q] at w
  refine ⟨H0,B0,ρ,B,g,t,ev,e1,q,H0,B0,ρ,B,ev,?_⟩
  have w:Wnt M H0 (qnV M H0 B0 B D) (qjm ds t ρ):=w
  unfold qjm at w
  cases q2:ds ρ with
  | no=>rw[q2] at w; exact w
  | ex c=>rw[q2] at w; exact w
  | ok ts=>
   rw[q2] at w
   rw[qag] at w⊢
   cases q3:t ts with
   | no=>rw[q3] at w; exact w
   | ex c=>rw[q3] at w; exact w
   | ok r=>rw[q3] at w; exact λv H' B' ev' le=>w v σ H' B' ev' le
def qfA (j i:Nat) (tbl:List (Str×(List T->Sl->Rs (Sl×Sl)))) (ds:Ro->Rs (List T)):Ro->Rs Out:=λρ=>fnAt ρ j>>=λg=>match luS tbl g with | some t=>qp3 i ds t ρ | none=>.no
theorem qlw {tbl:List (Str×(List T->Sl->Rs (Sl×Sl)))} {k:Nat} (F: ∀g t,luS tbl g=some t->∃ps,KnQ X.prog X.w X.K X.mg X.base M.G M.C g ps k t) (hK:X.K=M.K) (hr:qcE k X.A) (hv:PE X (.Name x p) (qhM j)) (ha:PA X (e::es) (tPV M ds i))
  (he:starEach (e::es) X.env=(false,eval e X.env)::starEach es X.env:=by rfl) (hpl:(backTo pos (starEach es X.env)).any (·.1)=false:=by rfl):DS M X (.Return (some (.Call (.Name x p) (e::es) [] pos)) pos') (qfA j i tbl ds):=by
 have pe:PE X (.Call (.Name x p) (e::es) [] pos) (λσ H Q=> ∃H0 B0 ρ B g t,Ev M H0 B0 ρ σ H B/\ρ[j]? =some (.fz (.fn g))/\luS tbl g=some t/\tU M i ds t σ H Q):=by
  intro pins s σ H Q I hq
  obtain ⟨H0,B0,ρ,B,g,t,ev,e1,q,h⟩:=hq
  obtain ⟨ps,f,fd,G,m,kk,bb⟩:=F g t q
  obtain ⟨v,e2,r⟩:=ev.get e1
  unfold Rep at r
  obtain ⟨f',rfl,hn⟩:=r
  have:f'=f:=qlk I (by rw[hK]; exact hn) m
  subst this
  rw[hK] at G
  exact qh0 (M:=M) I hv e2 (by rw[hK]; exact G) hr kk bb ha (qe9 h) he hpl
 refine PS.weak (qcK pe) λD σ H hq=> ?_
 obtain ⟨H0,B0,ρ,B,ev,w⟩:=hq
 obtain ⟨g,e1,w⟩:=qiq w
 cases q:luS tbl g with
 | none=>rw[q] at w; exact w.elim
 | some t=>
  rw[q] at w
  refine ⟨H0,B0,ρ,B,g,t,ev,e1,q,H0,B0,ρ,B,ev,?_⟩
  have w:Wnt M H0 (qnV M H0 B0 B D) (qp3 i ds t ρ):=w
  unfold qp3 at w
  cases q1:qeG ρ i with
  | no=>rw[q1] at w; exact w
  | ex c=>rw[q1] at w; exact w
  | ok s=>
   rw[q1] at w
   rw[qag] at w⊢
   cases q2:ds ρ with
   | no=>rw[q2] at w; exact w
   | ex c=>rw[q2] at w; exact w
   | ok ts=>
    rw[q2] at w
    rw[qag] at w⊢
    cases q3:t ts s with
    | no=>rw[q3] at w; exact w
    | ex c=>rw[q3] at w; exact w
    | ok r=>
     rw[q3] at w
     exact λv H' B' ev' le=>w v σ H' B' ev' le
end
end PL
end
section
namespace L2
open PySem PySem.Spec PyProof.Rows
def Ite (K:PySem.W.Frag) (l:Addr):It:=
 ⟨λi H=> ∃xs,SqL K H l xs/\i<xs.length,
   λi H v H'=> ∃T x,v= .ref T/\H T=none/\H'=upd H T (.tup [.int i,x])/\∀xs,SqL K H l xs->xs[i]? =some x,
   λi H=> ∃xs,SqL K H l xs/\i=xs.length⟩
def qr3 (e it l:Addr) (i:Nat) (h:Heap):Prop:=(∃old,IsEnum h e it i old)/\h.IsListIter it l i
theorem qjM {P:Program} {w:World} {K:PySem.W.Frag} {elts:List Expr} {k:Nat} {pos:Pos} {e it l:Addr} (d1:e≠it) (d2:l≠e) (d3:l≠it):qqd P w K (.Tuple elts k pos) (Ite K l) [e,it] e (qr3 e it l) where
 mem:=by simp
 obj:=λi h st b hb=>by
  obtain ⟨⟨old,a1⟩,⟨o4,a4,c4,d4⟩⟩:=st
  have hb':b=e\/b=it:=by simpa using hb
  rcases hb' with rfl | rfl
  ·exact ⟨_,a1,λv q=>by have q':Data.fields _=Data.cell v:=q; cases q'⟩
  ·exact ⟨o4,a4,λv q=>by rw[d4] at q; cases q⟩
 keep:=λi h h' st kk=>by
  obtain ⟨⟨old,a1⟩,a4⟩:=st
  exact ⟨⟨old,kk e (by simp) _ a1⟩,a4.at λo q=>kk it (by simp) o q⟩
 item:=by
  intro X hP hw hK hc i pins s σ H E I hf st hg
  subst hP hw hK
  obtain ⟨xs,h1,g1⟩:=hg
  obtain ⟨its,r1,p1,z1⟩:=I.list h1
  have e1:=r1.length
  have W:=WalksT.enumerate (prog:=X.prog) (w:=X.w) (I.ok.hd hc) e it l d1 d2 d3 its.toArray
  have hch: ∀b∈[e,it],qhD X pins H b:=λb hb=>hf b hb
  refine W.item i s _ E (by simp; omega) ⟨st.1,st.2,p1.isList⟩ λT vals h' tk hv hT hti hmid kp=> ?_
  obtain ⟨t,u,q1,rfl⟩:=hv
  refine ⟨_,rfl,W.go elts k pos i T _ _ E hmid λh2' st' kp2=> ?_⟩
  have nT:T∉[e,it]:=W.apart i T h' hmid
  obtain ⟨ox,hox,rox⟩:=hti
  have hx1:xs[i]? =some xs[i]:=List.getElem?_eq_getElem g1
  obtain ⟨w1,ew1,rw1⟩:=r1.get hx1
  have eu1:its[i]? =some u:=by simpa using q1
  rw[eu1] at ew1; cases ew1
  have I1:Inv X pins σ (upd H T (.tup [.int i,xs[i]])) { s with heap:=h2',toks:=tk }:=
   I.turnT hch (λb o hb q=>kp2 b o hb (kp b o hb q)) hT ⟨by show 2<=sizeLine; decide,[.int i t,u],.cons ⟨t,rfl⟩ (.cons rw1 .nil),ox,kp2 T ox nT hox,rox⟩
  refine ⟨.ref T,_,I1,rfl,⟨T,_,rfl,I.hok.fresh hT,rfl,λxs' hx'=>by rw[I.list_inj hx' h1]; exact hx1⟩,⟨st'.1,st'.2.1⟩,λb hb=> ?_⟩
  obtain ⟨o,eo,_⟩: ∃o,s.heap.get? b=some o/\True:=by
   have hb':b=e\/b=it:=by simpa using hb
   obtain ⟨⟨old,a1⟩,⟨o4,a4,_⟩⟩:=st
   rcases hb' with rfl | rfl
   ·exact ⟨_,a1,trivial⟩
   ·exact ⟨_,a4,trivial⟩
  rw[qaj (Nat.ne_of_lt (Nat.lt_of_lt_of_le (Heap.lt_size eo) hT))]
  exact (hf b hb).1
 done:=by
  intro X hP hw hK hc i pins s σ H E I hf st hg
  subst hP hw hK
  obtain ⟨xs,h1,g1⟩:=hg
  obtain ⟨its,r1,p1,z1⟩:=I.list h1
  have e1:=r1.length
  have W:=WalksT.enumerate (prog:=X.prog) (w:=X.w) (I.ok.hd hc) e it l d1 d2 d3 its.toArray
  have hch: ∀b∈[e,it],qhD X pins H b:=λb hb=>hf b hb
  have en:its.toArray.size=i:=by simp; omega
  rw[en] at W
  exact W.done s _ E ⟨st.1,st.2,p1.isList⟩ λh' tk kp=>⟨rfl,I.turnL hch kp⟩
 self:=λA i s Q E st h=>let ⟨⟨old,a⟩,_⟩:=st; wpAny_pyIter_enum a h
theorem qlZ:bootBuiltins "enumerate" =some (.type "enumerate"):=by decide+kernel
theorem qo9 {X:Cx} {elts:List Expr} {kk:Nat} {tpos:Pos} {a:Expr} {ta:TA} {p pos:Pos} (hg:Gl X "enumerate") (hm:X.mg "enumerate" =none) (ha:PA X [a] ta) (hs:starEach [a] X.env=(false,eval a X.env)::starEach [] X.env:=by rfl) (hpl:(backTo pos (starEach [] X.env)).any (·.1)=false:=by rfl):
  PI X (.Tuple elts kk tpos) (.Call (.Name "enumerate" p) [a] [] pos) (λσ H R=>ta σ H λvs H1=> ∃l xs,vs=[.ref l]/\SqL X.K H1 l xs/\(xs.length<=sizeLine->R (Ite X.K l) H1)):=by
 intro pins s σ H R I h
 refine wpAny_Call_Name_kw (qdH I hg hm qlZ ?_)
 refine PyProof.Rows.callWith_type1 (thn (ha pos pins s σ H _ I h) λus s1 hq=> ?_) hs hpl
 obtain ⟨vs,H1,I1,r1,l,xs,e,h1,q⟩:=hq
 subst e
 obtain ⟨u1,rfl,ru1⟩:=qd0 r1
 cases ru1
 obtain ⟨its,rr1,p1,z1⟩:=I1.list h1
 have q:=q z1
 obtain ⟨o1,ho1,_⟩:=p1.isList
 have lt1:l<s1.heap.objs.size:=Heap.lt_size ho1
 refine call_enumerate_list p1.isList λh' he hi hsz kp=>wpAny_pyIter_enum he ?_
 refine ⟨_,_,_,Ite X.K l,H1,rfl,I1.kept (t':=s1.toks) kp,qjM (e:=s1.heap.objs.size+1) (it:=s1.heap.objs.size) (Nat.succ_ne_self _) (Nat.ne_of_lt (Nat.lt_succ_of_lt lt1)) (Nat.ne_of_lt lt1),⟨⟨_,he⟩,hi⟩,λb hb=> ?_,q⟩
 have hle:s1.heap.objs.size<=b:=by
  have hb':b=s1.heap.objs.size+1\/b=s1.heap.objs.size:=by simpa using hb
  rcases hb' with rfl | rfl
  ·exact Nat.le_add_right _ _
  ·exact Nat.le_refl _
 exact I1.fpOk hle (I1.hok.fresh hle)
end L2
namespace PL
open PySem L2
def qnn (xs:List T):List T:=xs.zipIdx.map λp=>.tup [.int p.2,p.1]
def qoi:List T->Rs (List T)
 | [.lst xs]=>.ok (qnn xs)
 | _=>.no
def qoo (ds:Ro->Rs (List T)):Ro->Rs (List T):=λρ=>ds ρ>>=qoi
section
variable {M:Md} {X:Cx} {tg e a b:Expr} {da:Ro->Rs T} {ds:Ro->Rs (List T)}
theorem qhr {elts:List Expr} {kk:Nat} {tpos p pos:Pos} (hg:Gl X "enumerate") (hm:X.mg "enumerate" =none) (ha:DA M X [a] ds) (hK:X.K=M.K:=by rfl) (hs:starEach [a] X.env=(false,eval a X.env)::starEach [] X.env:=by rfl) (hpl:(backTo pos (starEach [] X.env)).any (·.1)=false:=by rfl):
  DI M X (.Tuple elts kk tpos) (.Call (.Name "enumerate" p) [a] [] pos) (qoo ds):=by
 refine PI.weak (qo9 hg hm ha hs hpl) λσ H R hq=> ?_
 obtain ⟨H0,B0,ρ,B,ev,w⟩:=hq
 refine tPA.of ev (Wnt.mono (Wnt.bind w) λts w1 vs H1 B1 g1 m1 r1=> ?_)
 unfold qoi at w1
 split at w1
 ·rename_i xs
  obtain ⟨v,r,rfl,a1,b1⟩:=r1.inv
  have e2:=b1.inv0
  subst e2
  unfold Rep at a1
  obtain ⟨p1,us,rfl,h1,ra⟩:=a1
  have l1:=ra.length
  refine ⟨p1,us,rfl,SqL.of (g1.bh _ _ h1),λz1=> ?_⟩
  rw[hK]
  refine w1 _ H1 B1 g1 m1 ?_ λH' B' le bh bt m i=>⟨λt et=> ?_,λhi=> ?_⟩
  ·unfold qnn
   rw[List.length_map,List.length_zipIdx]
   omega
  ·have q1:SqL M.K H' p1 us:=SqL.of (bh _ _ (le _ _ h1))
   unfold qnn at et
   rw[List.getElem?_map,List.getElem?_zipIdx] at et
   cases q:xs[i]? with
   | none=>rw[q] at et; cases et
   | some c=>
    rw[q] at et
    simp only[Option.map_some,Nat.zero_add,Option.some.injEq] at et
    subst et
    have hi:=(List.getElem?_eq_some_iff.mp q).1
    obtain ⟨u,eu,ru⟩:=ra.get q
    refine ⟨⟨us,q1,by omega⟩,λy H'' hy=> ?_⟩
    obtain ⟨T',x,e1,e2,e3,e4⟩:=hy
    have z1:=e4 us q1
    rw[eu] at z1; cases z1
    subst e1 e3
    refine ⟨_,qa5.new bh bt e2 (by intro ps z; cases z),M.G.st H' _ (λa o e _ _ _ _=>by rw[qaj (qap e e2)]; exact e) m,?_⟩
    have bp:B' T'=none:=by
     cases q:B' T' with
     | none=>rfl
     | some u=>rw[bh _ _ q] at e2; cases e2
    have le2:Le B1 (upd B' T' (.tup [.int i,u])):=λa o z=>by rw[qaj (qap (le _ _ z) bp)]; exact le _ _ z
    unfold Rep
    exact ⟨T',[.int i,u],rfl,qal,.cons qaX (.cons (ru.mono le2) .nil)⟩
  ·refine ⟨us,SqL.of (bh _ _ (le _ _ h1)),?_⟩
   rw[hi]
   unfold qnn
   rw[List.length_map,List.length_zipIdx,l1]
 ·exact w1.elim
end
end PL
end
section
namespace PL
open PySem L2
def namesX:List Str:= "enumerate" ::qri
section
variable {M:Md} {X:Cx} {a b e ste:Expr} {lo hi:Option Expr} {p2 pos p:Pos} {dq:Ro->Rs (Bool×List T)} {dl dh dst:Ro->Rs (Option Int)} {da db:Ro->Rs T}
theorem qd8 {K:PySem.W.Frag} {B:Hp} {ts:List T} {vs:List V} (r:qaP K B ts vs): ∀l:List Nat,qaP K B (l.filterMap (ts[·]?)) (l.filterMap (vs[·]?))
 | []=>.nil
 | i::l=>by
  cases e:ts[i]? with
  | none=>
   have e2:vs[i]? =none:=by rw[List.getElem?_eq_none_iff] at e⊢; rw[r.length]; exact e
   rw[List.filterMap_cons_none e,List.filterMap_cons_none e2]
   exact qd8 r l
  | some t=>
   obtain ⟨v,e2,rv⟩:=r.get e
   rw[List.filterMap_cons_some e,List.filterMap_cons_some e2]
   exact .cons rv (qd8 r l)
def quy (dq:Ro->Rs (Bool×List T)) (dl dh dst:Ro->Rs (Option Int)):Ro->Rs (List T):=λρ=>dq ρ>>=λq=>dl ρ>>=λl=>dh ρ>>=λh=>dst ρ>>=λst=>if q.1=true/\st≠some 0 then .ok (RH.pickL q.2 l h st) else .no
theorem qlz (ha:DQ M X a dq) (hl:DO M X lo dl) (hh:DO M X hi dh) (hst:DO M X (some ste) dst):DF M X (.Subscript a (.Slice lo hi (some ste) p2) pos) (quy dq dl dh dst):=by
 refine PE.weak (RH.pe_slice3 ha hl hh hst) λσ H Q hq=> ?_
 obtain ⟨H0,B0,ρ,B,ev,w⟩:=hq
 refine tQ.of ev (Wnt.mono (Wnt.bind (qbx.mp w)) λq w1 p vs H1 B1 g1 m1 hx r1=> ?_)
 have ev1:=ev.grow g1 m1
 refine ⟨H0,B0,ρ,B1,ev1,Wnt.mono (Wnt.bind w1) λl w2 H2 B2 g2 m2=> ?_⟩
 have ev2:=ev1.grow g2 m2
 refine ⟨H0,B0,ρ,B2,ev2,Wnt.mono (Wnt.bind w2) λh w3 H3 B3 g3 m3=> ?_⟩
 have ev3:=ev2.grow g3 m3
 refine ⟨H0,B0,ρ,B3,ev3,Wnt.mono (Wnt.bind w3) λst w4 H4 B4 g4 m4=> ?_⟩
 have ev4:=ev3.grow g4 m4
 split at w4
 ·rename_i c
  rw[if_pos c.1] at hx
  have hx4:H4 p=some (.lst vs):=g4.gx.hh _ _ (g3.gx.hh _ _ (g2.gx.hh _ _ hx nofun) nofun) nofun
  refine ⟨c.2,p,vs,rfl,SqL.of hx4,λd hd=> ?_⟩
  obtain ⟨g5,m5,bp⟩:=qb6 (M:=M) (ws:=RH.pickL vs l h st) ev4.bh ev4.bt m4 hd
  have gg:=((g1.trans g2).trans g3).trans g4
  refine w4 d _ _ B4 (gg.trans g5) m5 (qbA gg.gx hd) bp qal ?_
  unfold RH.pickL
  rw[r1.length]
  exact qd8 (((r1.mono g2.bb).mono g3.bb).mono g4.bb) _
 ·exact w4.elim
def quk:T->T->Rs T
 | .int i,.int j=>.ok (.int (if j>i then j else i))
 | _,_=>.no
theorem qpT (h:PE X e (tCB (λxs H Q=> ∃i j,xs=[.int i,.int j]/\Q (.int (if j>i then j else i)) H) (qcV (tP M da) (qcV (tP M db) qjG)))):DE M X e (dB2 quk da db):=by
 refine PE.weak h λσ H Q hq=> ?_
 obtain ⟨H0,B0,ρ,B,ev,w⟩:=hq
 refine tP.of ev (Wnt.mono (Wnt.bind (qay.mp w)) λx w1 v H1 B1 g1 m1 r1=> ?_)
 have ev1:=ev.grow g1 m1
 refine tP.of ev1 (Wnt.mono (Wnt.bind w1) λy w2 v2 H2 B2 g2 m2 r2=> ?_)
 cases x with
 | int i=>
  cases y with
  | int j=>
   rw[qaw r1,qaw r2]
   exact ⟨i,j,rfl,w2 _ H2 B2 (g1.trans g2) m2 qaX⟩
  | _=>exact w2.elim
 | _=>exact w2.elim
end
end PL
end
section
namespace HT
open PySem PySem.Spec PyProof.Rows L2
variable {prog:Program} {w:World} {A:Around} {E:Value->Shared->Prop} {s:Shared}
theorem getItem_tuple_all {t sl:Addr} {items:Array Value} {vl vu:Value} {lo hi:Option Int} {Q:Value->Shared->Prop} (ht:IsTup s.heap t items) (hs:s.heap.IsSliceOf sl vl vu .none) (pl:IsPart vl lo) (pu:IsPart vu hi)
  (hw:sIx items.size 0 lo=0/\sIx items.size items.size hi=items.size) (h:Q (.ref t) s):wpAny (model prog w) A (getItem (.ref t) (.ref sl)) Q E s:=by
 obtain ⟨os,hos,hcs,hds⟩:=id hs
 have hTs:s.TypeIs (.ref sl) "slice" :=⟨os,hos,hcs⟩
 unfold getItem
 try with_reducible refine wpAny_holding ?_
 first | refine wpAny_bind (wpAny_pure ?_) | skip
 refine wpAny_bind (wpAny_sequenceKey ht.typeIs (by decide) ?_)
 refine wpAny_bind (wpAny_callSpecial?_slot (name:=Str.ofString "__getitem__") ht.typeIs PyProof.Rows.slot_tuple_getitem
  (wpAny_call_entry PyProof.Rows.slot_tuple_getitem ht.typeIs entry_tuple_getitem ?_ (args_tuple_getitem _ _)))
 show wpAny _ _ (Builtin.Tuple.tupleItemsOf (.ref t)>>=_) _ _ s
 refine wpAny_bind (tupleItemsOf_ ht ?_)
 refine wpAny_bind (wpAny_typeOf hTs ?_)
 rw[if_pos (by decide)]
 refine wpAny_bind (qcc hs pl pu ?_)
 show wpAny _ _ (if (((sIx items.size 0 lo:Nat):Int)==0&&(1:Int)==1&&(sIx items.size items.size hi - sIx items.size 0 lo)==items.size)=true then _ else _) _ _ s
 rw[if_pos (by rw[hw.1,hw.2]; simp)]
 unfold Builtin.Tuple.tupleIsExact
 refine wpAny_bind (wpAny_bind (wpAny_typeOf ht.typeIs (wpAny_pure ?_)))
 rw[if_pos (by decide)]
 refine wpAny_bind (wpAny_rule ?_)
 exact wpAny_pure ⟨_,rfl,wpAny_pure h⟩
end HT
namespace L2
open PySem PySem.Spec PyProof.Rows
theorem qoN {X:Cx}:SlR X (λx lo hi H Q=> ∃a xs,x= .ref a/\SqT X.K H a xs/\(HT.sIx xs.length 0 lo=0/\HT.sIx xs.length xs.length hi=xs.length)/\Q (.ref a) H):=by
 intro pins s σ H x v vl vu lo hi sl Q I rx hs pl pu h
 obtain ⟨a,xs,rfl,hx,hw,q⟩:=h
 cases rx
 obtain ⟨its,r,ht,hz⟩:=I.tuple hx
 have hlen:its.toArray.size=xs.length:=by rw[List.size_toArray]; exact r.length.symm
 exact ⟨"tuple",_,PyProof.Rows.slot_tuple_getitem.lookup,ht.typeIs,HT.getItem_tuple_all ht hs pl pu (by rw[hlen]; exact hw) ⟨.ref a,H,I,rfl,q⟩⟩
end L2
namespace PL
open PySem L2
theorem qnI {ts:List T} {l h:Option Int} (c:HT.sIx ts.length 0 l=0/\HT.sIx ts.length ts.length h=ts.length):qez ts l h=ts:=by
 unfold qez
 rw[c.1,c.2]
 simp
def qqo (da:Ro->Rs T) (dl dh:Ro->Rs (Option Int)):Ro->Rs T:=λρ=>da ρ>>=λt=>dl ρ>>=λl=>dh ρ>>=λh=>match t with | .tup ts=>.ok (.tup (qez ts l h)) | _=>.no
section
variable {M:Md} {X:Cx} {a:Expr} {lo hi:Option Expr} {p2 pos:Pos} {dl dh:Ro->Rs (Option Int)} {da:Ro->Rs T}
theorem qon (ha:DE M X a da) (hl:DO M X lo dl) (hh:DO M X hi dh) (hK:X.K=M.K:=by rfl):DE M X (.Subscript a (.Slice lo hi none p2) pos) (qqo da dl dh):=by
 refine PE.weak (qhZ (qqH.or qoN) ha hl hh) λσ H Q hq=> ?_
 obtain ⟨H0,B0,ρ,B,ev,w⟩:=hq
 refine tP.of ev (Wnt.mono (Wnt.bind (qay.mp w)) λt w1 v H1 B1 g1 m1 r1=> ?_)
 have ev1:=ev.grow g1 m1
 refine ⟨H0,B0,ρ,B1,ev1,Wnt.mono (Wnt.bind w1) λl w2 H2 B2 g2 m2=> ?_⟩
 have ev2:=ev1.grow g2 m2
 refine ⟨H0,B0,ρ,B2,ev2,Wnt.mono (Wnt.bind w2) λh w3 H3 B3 g3 m3=> ?_⟩
 have ev3:=ev2.grow g3 m3
 cases t with
 | tup ts=>
  obtain ⟨p,vs,rfl,sq,rs⟩:=qfl r1
  have w3: ∀v H' B',qa5 H B H' B'->M.G.P H'->Rep M.K B' (.tup (qez ts l h)) v->Q v H':=w3
  have ln:=rs.length
  have gg:=(g1.trans g2).trans g3
  have b3:B3 p=some (.tup vs):=g3.bb _ _ (g2.bb _ _ sq)
  have sq3:SqT X.K H3 p vs:=SqT.of (ev3.bh _ _ b3)
  by_cases c:HT.sIx ts.length 0 l=0/\HT.sIx ts.length ts.length h=ts.length
  ·refine .inr ⟨p,vs,rfl,sq3,by rw[ln]; exact c,w3 _ H3 B3 gg m3 ?_⟩
   rw[qnI c]
   exact qf0 b3 ((rs.mono g2.bb).mono g3.bb)
  ·refine .inl ⟨p,vs,rfl,sq3,by rw[ln]; exact c,λd hd=> ?_⟩
   have g:=qa5.new (o:=HO.tup (qlL vs l h)) ev3.bh ev3.bt hd (by intro ps z; cases z)
   refine w3 _ _ _ (gg.trans g) (M.G.st H3 _ (λa o e _ _ _ _=>by rw[qaj (qap e hd)]; exact e) m3) ?_
   unfold Rep
   exact ⟨d,qlL vs l h,rfl,qal,(qhS ((rs.mono g2.bb).mono g3.bb) l h).mono g.bb⟩
 | _=>exact w3.elim
end
def qu9 {α:Type} (P:Str->α->Prop):List (Str×α)->Prop
 | []=>True
 | (g,t)::r=>P g t/\qu9 P r
theorem qib {α:Type} {P:Str->α->Prop}: ∀{tbl:List (Str×α)},qu9 P tbl->∀g t,luS tbl g=some t->P g t
 | [],_,g,t,e=>by simp[luS] at e
 | (k,u)::r,h,g,t,e=>by
  by_cases c:k=g
  ·have:luS ((k,u)::r) g=some u:=by simp[luS,List.find?_cons,c]
   rw[this] at e; cases e
   rw[<-c]; exact h.1
  ·have:luS ((k,u)::r) g=luS r g:=by simp[luS,List.find?_cons,c]
   rw[this] at e
   exact qib h.2 g t e
section
variable {P:Program} {w:World} {K:PySem.W.Frag} {mg:Str->Option Value} {base:Heap} {G:Gam} {C:Str->Addr} {x:Str} {ps:List Str} {j k:Nat} {fS:List T->Rs Sl} {fQ:List T->Sl->Rs (Sl×Sl)}
theorem KnS.up (h:KnS P w K mg base G C x ps j fS) (l:j<=k): ∃ps,KnS P w K mg base G C x ps k fS:=by
 obtain ⟨f,fd,F,r⟩:=h
 exact ⟨ps,f,fd,F.mono l,r⟩
theorem KnQ.up (h:KnQ P w K mg base G C x ps j fQ) (l:j<=k): ∃ps,KnQ P w K mg base G C x ps k fQ:=by
 obtain ⟨f,fd,F,r⟩:=h
 exact ⟨ps,f,fd,F.mono l,r⟩
end
end PL
end
section
namespace K11
open PySem L2
def top (i:Nat):Stmt:=PySem.Challenge.pw_rowasks_k11_whole_asked.main.body.getD i (.Pass ⟨0,0,0,0⟩)
abbrev qte:Stmt:=top 9
abbrev s_8:Stmt:=top 10
abbrev qtc:Stmt:=top 11
abbrev qs9:Stmt:=top 12
abbrev qs8:Stmt:=top 13
abbrev qs7:Stmt:=top 14
abbrev s_0:Stmt:=top 15
abbrev s_4:Stmt:=top 16
abbrev s_1:Stmt:=top 17
abbrev qsc:Stmt:=top 21
abbrev qr9:Stmt:=top 22
abbrev qsb:Stmt:=top 23
abbrev qr8:Stmt:=top 24
abbrev qsa:Stmt:=top 25
abbrev qs2:Stmt:=top 26
abbrev qs0:Stmt:=top 27
abbrev qse:Stmt:=top 29
abbrev qs6:Stmt:=top 28
abbrev qtb:Stmt:=top 30
abbrev qs5:Stmt:=top 31
abbrev qs4:Stmt:=top 32
abbrev qta:Stmt:=top 36
abbrev qs3:Stmt:=top 37
abbrev s_2:Stmt:=top 38
abbrev qtl:Stmt:=top 39
abbrev s_5:Stmt:=top 40
abbrev qs1:Stmt:=top 41
abbrev qti:Stmt:=top 43
abbrev qth:Stmt:=top 44
abbrev qtd:Stmt:=top 45
abbrev qtk:Stmt:=top 46
abbrev qtg:Stmt:=top 47
abbrev qtf:Stmt:=top 48
abbrev qsd:Stmt:=top 49
abbrev qsf:Stmt:=top 52
abbrev qqg:Stmt:=top 51
abbrev qmE:Stmt:=top 50
abbrev qtj:Stmt:=top 53
abbrev qj7:Stmt:=top 54
end K11
end
section
namespace K11
open PySem L2 RH PL
def qgv (ns:List Int) (k:Int):Int:=if k<(ns.length:Int) then ns.getD k.toNat 0 else if ns=[] then 0 else ns.getD (k % (ns.length:Int)).toNat 0*31+k
def qgl (ns:List Int) (k:Int):Int:=(qgv ns k+6151*(k+1))*40692 % 2147483399
def qi1 (ns:List Int) (k many:Int):Int:=(qgl ns k*qgl ns k+qgl ns k / 31) % 2147483629 % many
theorem qmP {ns:List Int} {k many:Int} (h:0<many):0<=qi1 ns k many:=Int.emod_nonneg _ (by omega)
theorem qmQ {ns:List Int} {k many:Int} (h:0<many):qi1 ns k many<many:=Int.emod_lt_of_pos _ h
def qov (K:PySem.W.Frag) (H:Hp) (a:Addr) (ns:List Int):Prop:=SqL K H a (ns.map V.int)/\ns.length<=63
def qnZ (K:PySem.W.Frag):Sp:=λvs H Q _=> ∃a ns k,vs=[.ref a,.int k]/\qov K H a ns/\0<=k/\k<1000000/\∀H',qnT H H'->Q (.int (qgv ns k)) H'
def qnY (K:PySem.W.Frag):Sp:=λvs H Q _=> ∃a ns k many,vs=[.ref a,.int k,.int many]/\qov K H a ns/\0<=k/\k<1000000/\0<many/\∀H',qnT H H'->Q (.int (qi1 ns k many)) H'
theorem ql3 {ns:List Int} {k:Int} (h0:0<=k) (h1:k<(ns.length:Int)):atI (ns.map V.int) k=some (.int (ns.getD k.toNat 0)):=by
 obtain ⟨j,rfl⟩: ∃j:Nat,k=j:=⟨k.toNat,by omega⟩
 refine ql2 ?_
 rw[List.getElem?_map,Int.toNat_natCast,List.getD_eq_getElem?_getD,List.getElem?_eq_getElem (by omega)]
 rfl
section
variable {P:Program} {w:World} {K:PySem.W.Frag} {mg:Str->Option Value} {base:Heap}
theorem qqN:qav ["_law_script", "_law_k"] ["_law_script", "_law_k"] (qah qti):=by trivial
theorem qpk {f:Addr} {fd:FuncData} (F:Fun K "_law_cell" "_law_cell" qti f fd) (n1:mg "len" =none):qbf P w K mg base CX0 1 f fd ["_law_script", "_law_k"] (qnZ K):=by
 refine F.ok qqN (λvs H Q E h=> ?_) (λcdv A outer s H vs Q E hr h=> ?_)
 ·obtain ⟨a,ns,k,rfl,_⟩:=h
  rfl
 ·obtain ⟨a,ns,k,rfl,hS,h0,hb,q⟩:=h
  refine ⟨_,qdQ (qo2 (qcW qre (pv 1) (qaO qiI rfl n1 PySem.boot_len (qas (pv 0) qaL)) (qn9 _)) (qea (qcK (qpb (qij K rfl) (pv 0) (pv 1) (λ_ _=>rfl)))) qgX)
   (qdQ (qo2 (qcW (qg3 hr.units0) (pv 0) (qn4 qaL) (qn9 _)) (qea (qcK qdc)) qgX)
   (qea (qcK (qcY qfZ (qcY qcn (qpb (qij K rfl) (pv 0) (qcY qef (pv 1) (qaO qiI rfl n1 PySem.boot_len (qas (pv 0) qaL))) (λ_ _=>rfl)) qdc) (pv 1))))),?_⟩
  refine ⟨_,rfl,_,rfl,_,_,rfl,.inl ⟨_,hS.1,rfl⟩,_,_,rfl,rfl,_,rfl,?_⟩
  have len:((ns.map V.int).length:Int)=(ns.length:Int):=by rw[List.length_map]
  by_cases c1:k<(ns.length:Int)
  ·refine qrz (by rw[len]; exact decide_eq_true c1) ?_
   refine ⟨_,rfl,_,rfl,a,_,k,_,rfl,rfl,hS.1,ql3 h0 c1,?_⟩
   have e:qgv ns k=ns.getD k.toNat 0:=by unfold qgv; rw[if_pos c1]
   rw[<-e]
   exact q H (qnT.refl H)
  ·refine qrA (by rw[len]; exact decide_eq_false c1) ?_
   refine ⟨_,rfl,Nat.zero_le _,λp hp=> ?_⟩
   have s1:qnT H (upd H p (.lst [])):=qmz hp
   refine ⟨a,p,_,_,rfl,rfl,s1.seq hS.1,SqL.of qal,?_⟩
   by_cases c2:ns=[]
   ·subst c2
    refine .inr ⟨rfl,λ_=>true,λi x y hx=>by simp at hx,_,rfl,?_⟩
    refine qrz rfl ?_
    have e:qgv [] k=0:=by unfold qgv; rw[if_neg c1,if_pos rfl]
    have q':=q _ s1
    rw[e] at q'
    exact q'
   ·have hpos:0<ns.length:=List.length_pos_iff.mpr c2
    refine .inl ⟨by simpa using c2,_,rfl,?_⟩
    refine qrA rfl ?_
    have hm0:0<=k % (ns.length:Int):=Int.emod_nonneg _ (by omega)
    have hm1:k % (ns.length:Int)<(ns.length:Int):=Int.emod_lt_of_pos _ (by omega)
    refine ⟨_,rfl,_,rfl,_,rfl,_,_,rfl,.inl ⟨_,s1.seq hS.1,rfl⟩,_,_,rfl,rfl,by rw[len]; omega,a,_,_,_,rfl,rfl,s1.seq hS.1,by rw[len]; exact ql3 hm0 hm1,_,_,rfl,rfl,.inr ⟨by decide,by decide⟩,_,rfl,_,_,rfl,rfl,?_⟩
    have e:qgv ns k=ns.getD (k % (ns.length:Int)).toNat 0*31+k:=by unfold qgv; rw[if_neg c1,if_neg c2]
    have q':=q _ s1
    rw[e] at q'
    exact q'
theorem qn0:qav ["_law_script", "_law_k", "_law_many", "_law_drawn"] ["_law_script", "_law_k", "_law_many"] (qah qth):=by trivial
theorem qpi {f fC:Addr} {fd fdC:FuncData} (F:Fun K "_law_pick" "_law_pick" qth f fd) (GC:qbf P w K mg base CX0 1 fC fdC ["_law_script", "_law_k"] (qnZ K)) (mC:mg "_law_cell" =some (.ref fC)) (kC:PySem.W.keepIn K (.ref fC)=true) (bC:qdB K fdC ["_law_script", "_law_k"] []):
  qbf P w K mg base CX0 2 f fd ["_law_script", "_law_k", "_law_many"] (qnY K):=by
 refine F.ok qn0 (λvs H Q E h=> ?_) (λcdv A outer s H vs Q E hr h=> ?_)
 ·obtain ⟨a,ns,k,many,rfl,_⟩:=h
  rfl
 ·obtain ⟨a,ns,k,many,rfl,hS,h0,hb,hm,q⟩:=h
  refine ⟨_,qdQ (qfV (i:=3) qn0.nd rfl (Or.inl rfl) (qcY qef (qcY qcn (qcY qfZ (qdt GC hr rfl mC kC bC .nil qtu (qas (pv 0) (qas (pv 1) qaL))) (qcY qcn qdc (qcY qfZ (pv 1) qdc))) qdc) qdc))
   (qea (qcK (qcY qef (qcY qef (qcY qfZ (qcY qcn (pv 3) (pv 3)) (qcY qfq (pv 3) qdc)) qdc) (pv 2)))),?_⟩
  refine ⟨_,rfl,_,rfl,a,ns,k,rfl,hS,h0,hb,λH1 s1=> ?_⟩
  refine ⟨_,rfl,_,_,rfl,rfl,_,_,rfl,rfl,.inl ⟨by decide,by decide⟩,_,_,rfl,rfl,_,_,rfl,rfl,.inr ⟨by decide,by decide⟩,_,_,rfl,rfl,(show (0:Int)<2147483399 by decide),?_⟩
  have d0:0<=qgl ns k:=Int.emod_nonneg _ (by decide)
  have d1:qgl ns k<2147483399:=Int.emod_lt_of_pos _ (by decide)
  refine ⟨_,rfl,_,rfl,_,_,rfl,rfl,.inl ⟨?_,?_⟩,_,rfl,_,_,rfl,rfl,⟨by decide,by decide⟩,_,_,rfl,rfl,_,_,rfl,rfl,(show (0:Int)<2147483629 by decide),_,rfl,_,_,rfl,rfl,hm,q H1 s1⟩
  ·exact Int.lt_of_lt_of_le (by decide) d0
  ·exact Int.lt_trans d1 (by decide)
end
def qcb:List T->Rs T
 | [.scr ns,.int k,.int many]=>if (0<=k/\k<1000000)/\0<many/\ns.length<=63 then .ok (.int (qi1 ns k many)) else .no
 | _=>.no
theorem qpz {P:Program} {w:World} {K:PySem.W.Frag} {mg:Str->Option Value} {base:Heap} {G:Gam} {C:Str->Addr} {f:Addr} {fd:FuncData} (F:qbf P w K mg base CX0 2 f fd ["_law_script", "_law_k", "_law_many"] (qnY K)) (m:mg "_law_pick" =some (.ref f))
  (k:PySem.W.keepIn K (.ref f)=true) (b:qdB K fd ["_law_script", "_law_k", "_law_many"] []):Kn P w K mg base G C "_law_pick" ["_law_script", "_law_k", "_law_many"] 2 qcb:=by
 refine ⟨f,fd,F.imp λvs H Q E h=> ?_,m,k,b⟩
 obtain ⟨B,ts,le,bt,gm,r,w⟩:=h
 unfold qcb at w
 split at w
 ·rename_i ns k many
  split at w
  ·rename_i hc
   obtain ⟨v1,r1,rfl,a1,b1⟩:=r.inv
   obtain ⟨v2,r2,rfl,a2,b2⟩:=b1.inv
   obtain ⟨v3,r3,rfl,a3,b3⟩:=b2.inv
   cases b3.inv0
   unfold Rep at a1
   obtain ⟨p,rfl,sq⟩:=a1
   cases qaw a2
   cases qaw a3
   refine ⟨p,ns,k,many,rfl,⟨le.sqL sq,hc.2.2⟩,hc.1.1,hc.1.2,hc.2.1,λH' sm=> ?_⟩
   exact w _ H' B ⟨⟨λa o e _=>sm a o e,λa e z=>by
    cases q:H a with
    | none=>exact e q
    | some o=>rw[sm a o q] at z; cases z⟩,.refl _,λa o e=>sm a o (le a o e),bt,λ_ _ _ _ _=>rfl⟩ (G.st H H' (λa o e _ _ _ _=>sm a o e) gm) qaX
  ·exact w.elim
 ·exact w.elim
end K11
end
section
namespace PL
open SR
end PL
end
section
namespace PL
open PySem L2 SetL SR
theorem qoP {c:Nat} (h:97<=c/\c<=122):gLe (.str "a") (.str ⟨#[c]⟩)= .ok (.bl true)/\gLe (.str ⟨#[c]⟩) (.str "z")= .ok (.bl true):=by
 have e1:("a" :Str).cps.toList=[97]:=by decide
 have e2:("z" :Str).cps.toList=[122]:=by decide
 have n1: ¬([c]:List Nat)<[97]:=by
  rw[List.cons_lt_cons_iff]
  rintro (h1 | ⟨_,h2⟩)
  ·lia
  ·exact absurd h2 (List.not_lt_nil _)
 have n2: ¬([122]:List Nat)<[c]:=by
  rw[List.cons_lt_cons_iff]
  rintro (h1 | ⟨_,h2⟩)
  ·lia
  ·exact absurd h2 (List.not_lt_nil _)
 constructor
 ·show Rs.ok (T.bl (!decide (([c]:List Nat)<("a" :Str).cps.toList)))=_
  rw[e1,decide_eq_false n1]
  rfl
 ·show Rs.ok (T.bl (!decide (("z" :Str).cps.toList<([c]:List Nat))))=_
  rw[e2,decide_eq_false n2]
  rfl
theorem qvu (r:Row):gIx (qam r) (.int 0)= .ok (.int r.1):=rfl
theorem qvt (r:Row):gIx (qam r) (.int 1)= .ok (.str r.2.1):=rfl
theorem qvs (r:Row):gIx (qam r) (.int 2)= .ok (.int r.2.2):=rfl
theorem qfE {α:Type} (g:α->Bool) (xs:List α):ql6 (true,xs.map λx=>T.bl (g x))= .ok (.bl (xs.all g)):=by
 have y:(xs.map λx=>T.bl (g x)).all qnd=true:=by rw[List.all_map,List.all_eq_true]; intro _ _; rfl
 have z:(xs.map λx=>T.bl (g x)).all ql1=xs.all g:=by rw[List.all_map]; rfl
 unfold ql6
 rw[if_pos ⟨rfl,y⟩,z]
def qeO (rs:List Row):Bool:=(rs.zip (rs.drop 1)).all λp=>decide (p.1.1<=p.2.1)
theorem qv7 (ts:List T):qez ts (some 1) none=ts.drop 1:=by
 unfold qez
 have e:HT.sIx ts.length 0 (some 1)=min 1 ts.length:=HT.sIx_nat ts.length 0 1
 rw[e,HT.sIx_none]
 cases ts with
 | nil=>rfl
 | cons a l=>
  rw[show min 1 (a::l).length=1 by simp]
  rw[List.take_of_length_le (by simp)]
theorem qme (as bs:List Row):zipT (as.map qam) (bs.map qam)=(as.zip bs).map λp=>T.tup [qam p.1,qam p.2]:=by
 unfold zipT
 rw[List.zip_map,List.map_map]
 rfl
structure Log (rs:List Row):Prop where
 ok: ∀r∈rs,qmG r
 log:qeO rs=true
theorem qjb {ss:List Str} (h:ss.length<64):qf7 (true,ss.map T.str)= .ok ((qc1 ss).map T.str):=by
 have y:(ss.map T.str).all qk2=true:=by rw[List.all_map,List.all_eq_true]; intro _ _; rfl
 have z:(ss.map T.str).map qeW=ss:=by rw[List.map_map]; simp[Function.comp_def,qeW]
 unfold qf7
 rw[if_pos ⟨⟨rfl,by rw[List.length_map]; exact h⟩,y⟩,z]
def qrh (rs:List Row) (k:Str):List Row:=rs.filter λr=>r.2.1==k
def qde:Str:= "abcdefghijklmnopqrstuvwxyz"
theorem qi9: ∀i:Nat,i<26->qde.cps.toList[i]? =some (97+i):=by decide+kernel
theorem qg6:qde.length=26:=by decide+kernel
theorem qf4 {i:Int} (h0:0<=i) (h1:i<26):gIx (.str qde) (.int i)= .ok (.str ⟨#[97+i.toNat]⟩):=by
 obtain ⟨j,rfl⟩: ∃j:Nat,i=j:=⟨i.toNat,by lia⟩
 show (if qde.length<=1000 then (match atI qde.cps.toList (j:Int) with | some c=>Rs.ok (T.str ⟨#[c]⟩) | none=>.no) else .no)=_
 rw[qg6,if_pos (by decide),ql2 (qi9 j (by lia))]
 rfl
theorem qrs {i:Int} (h0:0<=i) (h1:i<26):qej ⟨#[97+i.toNat]⟩:=by
 refine ⟨⟨Nat.le_refl 1,by show 1<=2; decide⟩,λc hc=> ?_⟩
 have:c=97+i.toNat:=by simpa using hc
 lia
theorem qrr {i j:Int} (h0:0<=i) (h1:i<26) (h2:0<=j) (h3:j<26):qej ((⟨#[97+i.toNat]⟩:Str)++⟨#[97+j.toNat]⟩):=by
 have e:((⟨#[97+i.toNat]⟩:Str)++⟨#[97+j.toNat]⟩)=⟨#[97+i.toNat,97+j.toNat]⟩:=rfl
 rw[e]
 refine ⟨⟨by show 1<=2; decide,Nat.le_refl 2⟩,λc hc=> ?_⟩
 have:c=97+i.toNat\/c=97+j.toNat:=by simpa using hc
 lia
theorem qkW:qej "a" /\qej "b" /\qej "ab" :=by
 refine ⟨⟨by decide,λc hc=> ?_⟩,⟨by decide,λc hc=> ?_⟩,⟨by decide,λc hc=> ?_⟩⟩<;>(revert c; decide)
theorem qjd {rs:List Row} {r:Row} (h:qeO rs=true) (hr: ∀q∈rs,q.1<=r.1):qeO (rs++[r])=true:=by
 unfold qeO at h⊢
 rw[List.all_eq_true] at h⊢
 intro p hp
 obtain ⟨i,hi,e⟩:=List.mem_iff_getElem.mp hp
 rw[List.getElem_zip] at e
 have hi':i+1<(rs++[r]).length:=by simp at hi⊢; lia
 rw[List.getElem_drop] at e
 subst e
 refine decide_eq_true ?_
 simp at hi'
 by_cases c:i+1<rs.length
 ·have hm:(rs[i],rs[i+1])∈rs.zip (rs.drop 1):=by
   refine List.mem_iff_getElem.mpr ⟨i,by simp; lia,?_⟩
   rw[List.getElem_zip,List.getElem_drop]
   simp[Nat.add_comm]
  have:=of_decide_eq_true (h _ hm)
  simp only[Nat.add_comm 1 i]
  rw[List.getElem_append_left (by lia),List.getElem_append_left c]
  exact this
 ·have e1:i+1=rs.length:=by lia
  simp only[Nat.add_comm 1 i]
  rw[List.getElem_append_left (by lia),List.getElem_append_right (by lia)]
  simp[e1]
  exact hr _ (List.getElem_mem _)
abbrev mo:Row->Int:=λr=>r.1
theorem qel: ∀rs:List Row,qeO rs=true↔Ris mo rs
 | []=>⟨λ_=>List.Pairwise.nil,λ_=>rfl⟩
 | [a]=>⟨λ_=>List.pairwise_singleton _ _,λ_=>rfl⟩
 | a::b::l=>by
  have ih:=qel (b::l)
  have e:qeO (a::b::l)=(decide (a.1<=b.1)&&qeO (b::l)):=rfl
  rw[e,Bool.and_eq_true,ih,decide_eq_true_iff]
  constructor
  ·rintro ⟨h1,h2⟩
   refine List.pairwise_cons.mpr ⟨λy hy=> ?_,h2⟩
   rcases List.mem_cons.mp hy with rfl | hy
   ·exact h1
   ·exact Int.le_trans h1 ((List.pairwise_cons.mp h2).1 y hy)
  ·intro h
   have h':=List.pairwise_cons.mp h
   exact ⟨h'.1 b List.mem_cons_self,h'.2⟩
theorem Log.ris {rs:List Row} (h:Log rs):Ris mo rs:=(qel rs).mp h.log
theorem qkF (rs:List Row):(rs.map qam).all (okT 7)=true:=by rw[List.all_map,List.all_eq_true]; intro _ _; rfl
theorem qn8 (rs:List Row):okT 8 (qan rs)=true:=qkF rs
theorem qpr {t:T} (h:okT 8 t=true):gNe t t= .ok (.bl false):=by unfold gNe; rw[if_pos ⟨h,h⟩,qcC 8 t h]; rfl
theorem qpJ {t:T} (h:okT 8 t=true):gEq t t= .ok (.bl true):=by unfold gEq; rw[if_pos ⟨h,h⟩,qcC 8 t h]
theorem qkJ (rs:List Row):gNe (qan rs) (qan rs)= .ok (.bl false):=qpr (qn8 rs)
end PL
end
section
namespace AS
open PySem L2 PL SetL
def qv1:Ro->Rs Out:=qa4 (qhw (qex "int" (dV 0)) (qp4 (qex "bool" (dV 0))))
def t_25:List T->Rs T:=fnT 1 1 qv1
def d_8:Ro->Rs Out:=qa4 (qhw (qau t_25 (qab (dV 0) (qaq))) (qcy gLe gLe (dV 1) (dV 0) (dV 2)))
def t_8:List T->Rs T:=fnT 3 3 d_8
def d_28:Ro->Rs Out:=qaJ (dIf (dOr (qgq (dTB (qex "str" (dV 0)))) (qgq (dTB (qcy gLe gLe (dC (.int 1)) (qeE (dV 0)) (dV 1))))) (qa4 (dC (.bl false))) (qaA)) (qa4 (dCQ ql6 (dQF (qaE 1 [] (dIS (dV 0)) (gN 0) (qcx) (qcy gLe gLe (dC (.str "a")) (dV 0) (dC (.str "z")))))))
def t_28:List T->Rs T:=fnT 2 2 d_28
def d_31:Ro->Rs Out:=qa4 (qau t_28 (qab (dV 0) (qab (dC (.int 2)) (qaq))))
def t_31:List T->Rs T:=fnT 1 1 d_31
def d_32:Ro->Rs Out:=qaJ (dIf (dOr (qgq (dTB (qex "tuple" (dV 0)))) (dTB (dB gNe (qeE (dV 0)) (dC (.int 3))))) (qa4 (dC (.bl false))) (qaA)) (qaJ (dIf (dOr (qgq (dTB (qau t_8 (qab (dB gIx (dV 0) (dC (.int 0))) (qab (dC (.int 0)) (qab (dC (.int 99)) (qaq))))))) (qgq (dTB (qau t_31 (qab (dB gIx (dV 0) (dC (.int 1))) (qaq)))))) (qa4 (dC (.bl false))) (qaA)) (qa4 (qau t_8 (qab (dB gIx (dV 0) (dC (.int 2))) (qab (qdA (dC (.int 99))) (qab (dC (.int 99)) (qaq)))))))
def t_32:List T->Rs T:=fnT 1 1 d_32
def d_33:Ro->Rs Out:=qa4 (dCQ ql6 (dQF (qaE 2 [] (dIZ (qab (dV 0) (qab (dFz (qiF (dQV 0) (dOS (dC (.int 1))) (dON))) (qaq)))) (gT 2 (gsC (gN 0) (gsC (gN 1) (gsN)))) (qcx) (dB gLe (dB gIx (dV 0) (dC (.int 0))) (dB gIx (dV 1) (dC (.int 0)))))))
def t_33:List T->Rs T:=fnT 1 1 d_33
def d_0:Ro->Rs Out:=dIf (qgq (dTB (dCQ ql6 (dQF (qaE 1 [] (dI (dV 0)) (gN 0) (qcx) (qau t_32 (qab (dV 0) (qaq)))))))) (dNo) (qaA)
def t_0:List T->Rs T:=fnT 1 1 d_0
def d_4:Ro->Rs Out:=dIf (qgq (dTB (qau t_33 (qab (dV 0) (qaq))))) (dNo) (qaA)
def t_4:List T->Rs T:=fnT 1 1 d_4
def d_1:Ro->Rs Out:=qaJ (qhv (qau t_0 (qab (dV 0) (qaq)))) (qhv (qau t_4 (qab (dV 0) (qaq))))
def t_1:List T->Rs T:=fnT 1 1 d_1
def qvZ:Ro->Rs Out:=qbP (qaE 1 [1] (dI (dV 0)) (gN 0) (dTB (dB gEq (dB gIx (dV 0) (dC (.int 1))) (dV 1))) (dV 0))
def o_34:List T->Rs Sl:=fnS 2 2 qvZ
def qvW:Ro->Rs Out:=qbP (qaE 1 [1] (dI (dV 0)) (gN 0) (dTB (dB gGt (dB gIx (dV 0) (dC (.int 2))) (dV 1))) (dV 0))
def o_43:List T->Rs Sl:=fnS 2 2 qvW
def qvY:Ro->Rs Out:=qbP (qaE 1 [1] (dI (dV 0)) (gN 0) (dTB (dB gLt (dB gIx (dV 0) (dC (.int 2))) (dV 1))) (dV 0))
def o_39:List T->Rs Sl:=fnS 2 2 qvY
def qvV:Ro->Rs Out:=qbP (qaE 3 [1] (dI (dV 0)) (gT 3 (gsC (gN 0) (gsC (gN 1) (gsC (gN 2) (gsN))))) (qcx) (qbd (qab (dV 0) (qab (dV 1) (qab (dB qa0 (dV 2) (dV 3)) (qaq))))))
def o_44:List T->Rs Sl:=fnS 2 2 qvV
def qvX:Ro->Rs Out:=qbP (qaE 3 [1] (dI (dV 0)) (gT 3 (gsC (gN 0) (gsC (gN 1) (gsC (gN 2) (gsN))))) (qcx) (qbd (qab (dV 0) (qab (dV 1) (qab (dB qdM (dV 2) (dV 3)) (qaq))))))
def o_40:List T->Rs Sl:=fnS 2 2 qvX
def d_41:Ro->Rs Out:=qaJ (qbr 3 (qcT (dXV 2) (dC (.str "came")) (dC (.int 0)))) (qaJ (qcG 2 (dC (.str "came")) (dB qa0 (dV 3) (qeE (dV 0)))) (qbP (qiF (dQV 0) (dON) (dOS (dB2 quk (dB gSub (dV 1) (dV 3)) (dC (.int 0)))))))
def q_41:List T->Sl->Rs (Sl×Sl):=fnQ 2 4 d_41
def d_45:Ro->Rs Out:=qaJ (qbr 3 (qcT (dXV 2) (dC (.str "came")) (dC (.int 0)))) (qaJ (qcG 2 (dC (.str "came")) (dB qmd (dB qa0 (dV 3) (qeE (dV 0))) (dV 1))) (qbP (quy (dQV 0) (dOS (dB gSub (dB gSub (dV 1) (dC (.int 1))) (dV 3))) (dON) (dOS (dV 1)))))
def q_45:List T->Sl->Rs (Sl×Sl):=fnQ 2 4 d_45
def qv2:Ro->Rs Out:=qa4 (dFz (qaE 1 [0,1] (dI (dFz (qiE (dXV 1)))) (gN 0) (qcx) (qbd (qab (dB gSub (dB qdM (dB qa0 (dB gIx (dV 0) (dC (.int 0))) (dC (.int 1))) (dV 1)) (dC (.int 1))) (qab (dB gIx (dV 0) (dC (.int 1))) (qab (qci (dXV 2) (dV 0)) (qaq)))))))
def t_14:List T->Rs T:=fnT 2 2 qv2
def d_35:Ro->Rs Out:=λρ=>(qaJ (qdz 3 (qcU (qaq))) (qaJ (qeS (dI (dV 0)) (gT 3 (gsC (gN 4) (gsC (gN 5) (gsC (gN 6) (gsN))))) (qaJ (qbr 7 (qbd (qab (dB qfH (dV 4) (dV 1)) (qab (dV 5) (qaq))))) (qaJ (dIf (qe6 (dTB (dB gGt (qp1 (dXV 2)) (dC (.int 0)))) (dTB (dB gLt (dB gIx (qp0 (dXV 2)) (dC (.int 0))) (dB gIx (dV 7) (dC (.int 0)))))) (qaJ (qqp 3 (dQ (qe5 2 t_14 (qab (dV 1) (qaq))))) (qp2 2)) (qaA)) (qcG 2 (dV 7) (dB qa0 (qcT (dXV 2) (dV 7) (dC (.int 0))) (dV 6)))))) (qgp 3))) (qnL 2 ρ)
def q_35:List T->Sl->Rs (Sl×Sl):=fnQ 2 8 d_35
def d_29:Ro->Rs Out:=qaJ (qdz 2 (qcU (qaq))) (qaJ (qeS (dI (dV 0)) (gT 3 (gsC (gN 3) (gsC (gN 4) (gsC (gN 5) (gsN))))) (qaJ (qcG 1 (dV 4) (dB qa0 (qcT (dXV 1) (dV 4) (dC (.int 0))) (dV 5))) (qdo 2 (qbd (qab (dV 3) (qab (dV 4) (qab (qci (dXV 1) (dV 4)) (qaq)))))))) (qgp 2))
def q_29:List T->Sl->Rs (Sl×Sl):=fnQ 1 6 d_29
def d_36:Ro->Rs Out:=qaJ (qdz 2 (qcU (qaq))) (qaJ (qeS (dI (dV 0)) (gT 3 (gsC (gN 3) (gsC (gN 4) (gsC (gN 5) (gsN))))) (qaJ (dIf (dTB (qjk false (dV 4) (dXV 1))) (qdo 2 (qbd (qab (dV 3) (qab (dV 4) (qab (dB gSub (dV 5) (qci (dXV 1) (dV 4))) (qaq)))))) (qaA)) (qcG 1 (dV 4) (dV 5)))) (qgp 2))
def q_36:List T->Sl->Rs (Sl×Sl):=fnQ 1 6 d_36
def d_37:Ro->Rs Out:=qaJ (qdz 2 (qcU (qaq))) (qaJ (qeS (dI (dV 0)) (gT 3 (gsC (gN 3) (gsC (gN 4) (gsC (gN 5) (gsN))))) (qaJ (dIf (dOr (dTB (qjk true (dV 4) (dXV 1))) (dTB (dB gNe (qci (dXV 1) (dV 4)) (dV 5)))) (qdo 2 (qbd (qab (dV 3) (qab (dV 4) (qab (dV 5) (qaq)))))) (qaA)) (qcG 1 (dV 4) (dV 5)))) (qgp 2))
def q_37:List T->Sl->Rs (Sl×Sl):=fnQ 1 6 d_37
def d_30:Ro->Rs Out:=qaJ (dIf (dOr (qgq (dTB (qex "tuple" (dV 0)))) (dOr (dTB (dB gEq (qeE (dV 0)) (dC (.int 0)))) (qgq (dTB (qex "str" (dB gIx (dV 0) (dC (.int 0)))))))) (qa4 (dC (.bl false))) (qaA)) (qaJ (qbr 1 (dB gIx (dV 0) (dC (.int 0)))) (qaJ (dIf (dTB (qbq [(("running" :Str),("running" :Str)),(("change" :Str),("change" :Str)),(("unlike" :Str),("unlike" :Str))] (dV 1))) (qa4 (dB gEq (qeE (dV 0)) (dC (.int 1)))) (qaA)) (qaJ (dIf (dTB (dB gNe (qeE (dV 0)) (dC (.int 2)))) (qa4 (dC (.bl false))) (qaA)) (qaJ (dIf (dTB (dB gEq (dV 1) (dC (.str "key")))) (qa4 (qau t_31 (qab (dB gIx (dV 0) (dC (.int 1))) (qaq)))) (qaA)) (qaJ (dIf (dTB (qbq [(("over" :Str),("over" :Str)),(("under" :Str),("under" :Str)),(("plus" :Str),("plus" :Str)),(("times" :Str),("times" :Str))] (dV 1))) (qa4 (qau t_8 (qab (dB gIx (dV 0) (dC (.int 1))) (qab (qdA (dC (.int 20))) (qab (dC (.int 20)) (qaq)))))) (qaA)) (qa4 (qhw (qbq [(("first" :Str),("first" :Str)),(("each" :Str),("each" :Str)),(("window" :Str),("window" :Str))] (dV 1)) (qau t_8 (qab (dB gIx (dV 0) (dC (.int 1))) (qab (dC (.int 1)) (qab (dC (.int 20)) (qaq))))))))))))
def t_30:List T->Rs T:=fnT 1 2 d_30
def d_38:Ro->Rs Out:=qaJ (dIf (dOr (qgq (dTB (qex "tuple" (dV 0)))) (dTB (dB gGt (qeE (dV 0)) (dC (.int 5))))) (qa4 (dC (.bl false))) (qaA)) (qa4 (dCQ ql6 (dQF (qaE 1 [] (dI (dV 0)) (gN 0) (qcx) (qau t_30 (qab (dV 0) (qaq)))))))
def t_38:List T->Rs T:=fnT 1 1 d_38
def d_2:Ro->Rs Out:=dIf (qgq (dTB (qau t_38 (qab (dV 0) (qaq))))) (dNo) (qaA)
def t_2:List T->Rs T:=fnT 1 1 d_2
def d_16:Ro->Rs Out:=qaJ (qbr 3 (dB gIx (dV 0) (dC (.int 0)))) (qaJ (dIf (dTB (dB gEq (dV 3) (dC (.str "key")))) (qjm (qab (dV 1) (qab (dB gIx (dV 0) (dC (.int 1))) (qaq))) o_34) (qaA)) (qaJ (dIf (dTB (qbq [(("over" :Str),("over" :Str)),(("under" :Str),("under" :Str)),(("plus" :Str),("plus" :Str)),(("times" :Str),("times" :Str))] (dV 3))) (qaJ (qbr 4 (qfz [(("over" :Str),("over" :Str)),(("under" :Str),("under" :Str)),(("plus" :Str),("plus" :Str)),(("times" :Str),("times" :Str))] (dV 3))) (qjl 4 [(("over" :Str),o_43),(("under" :Str),o_39),(("plus" :Str),o_44),(("times" :Str),o_40)] (qab (dV 1) (qab (dB gIx (dV 0) (dC (.int 1))) (qaq))))) (qaA)) (qaJ (dIf (dTB (qbq [(("first" :Str),("first" :Str)),(("each" :Str),("each" :Str)),(("window" :Str),("window" :Str))] (dV 3))) (qaJ (qbr 4 (qfz [(("first" :Str),("first" :Str)),(("each" :Str),("each" :Str)),(("window" :Str),("window" :Str))] (dV 3))) (qfA 4 2 [(("first" :Str),q_41),(("each" :Str),q_45),(("window" :Str),q_35)] (qab (dV 1) (qab (dB gIx (dV 0) (dC (.int 1))) (qaq))))) (qaA)) (qaJ (qbr 4 (qfz [(("running" :Str),("running" :Str)),(("change" :Str),("change" :Str)),(("unlike" :Str),("unlike" :Str))] (dV 3))) (qfA 4 2 [(("running" :Str),q_29),(("change" :Str),q_36),(("unlike" :Str),q_37)] (qab (dV 1) (qaq)))))))
def q_16:List T->Sl->Rs (Sl×Sl):=fnQ 2 5 d_16
def d_5:Ro->Rs Out:=qaJ (qlI 3 2 (qab (dV 0) (qab (dV 1) (qaq))) q_16) (qaJ (dIf (dTB (dB gEq (dB gIx (dV 0) (dC (.int 0))) (dC (.str "window")))) (qbP (quB (dQV 3) (dQ (qe5 2 t_14 (qab (dB gIx (dV 0) (dC (.int 1))) (qaq)))))) (qaA)) (qgp 3))
def q_5:List T->Sl->Rs (Sl×Sl):=fnQ 2 4 d_5
def d_42:Ro->Rs Out:=qaJ (qhv (qau t_2 (qab (dV 0) (qaq)))) (qaJ (qhv (qau t_1 (qab (dV 1) (qaq)))) (qaJ (qdz 2 (qjn qik (dQV 1))) (qaJ (qeS (dI (dV 0)) (gN 3) ((λρ=>(qlJ 2 (qab (dV 3) (qab (dV 2) (qaq))) (λts=>q_5 ts (.od [])>>=λr=>.ok r.1)) (frz 2 ρ)))) (qgp 2))))
def o_42:List T->Rs Sl:=fnS 2 4 d_42
def t_42:List T->Rs T:=qr7 o_42
end AS
end
section
namespace PL
open PySem L2
theorem qpL {M:Md} {X:Cx} {c:Expr} {dt:Ro->Rs Bool} (i:Nat) (h:DT M X c dt):DT M X c (λρ=>dt (frz i ρ)):=by
 refine PT.weak h λσ H Q hq=> ?_
 obtain ⟨H0,B0,ρ,B,ev,w⟩:=hq
 obtain ⟨B',le,ev'⟩:=ev.frz i
 refine ⟨H0,B0,_,B',ev',?_⟩
 revert w
 show qst M H0 H B Q (dt (frz i ρ))->qst M H0 H B' Q (dt (frz i ρ))
 cases dt (frz i ρ) with
 | no=>exact λw=>w
 | ok r=>exact λw H' B'' g m=>w H' B ⟨g.gx,.refl _,(le.trans g.bb).trans g.bh,ev.bt,λ_ _ _ _ _=>rfl⟩ m
 | ex c=>exact λw=>w
end PL
end
section
namespace K11
open PySem L2 PL SetL
section
variable {P:Program} {w:World} {K:PySem.W.Frag} {mg:Str->Option Value} {base:Heap} {G:Gam} {C:Str->Addr}
theorem qsW:qav ["thing"] ["thing"] (qah qte):=by trivial
def t_25:List T->Rs T:=AS.t_25
theorem qvn:qav ["thing", "least", "greatest"] ["thing", "least", "greatest"] (qah s_8):=by trivial
def d_8:Ro->Rs Out:=AS.d_8
def t_8:List T->Rs T:=AS.t_8
theorem qsU:qav ["thing", "longest"] ["thing", "longest"] (qah qtc):=by trivial
def d_28:Ro->Rs Out:=AS.d_28
def t_28:List T->Rs T:=AS.t_28
theorem qsT:qav ["thing"] ["thing"] (qah qs9):=by trivial
def d_31:Ro->Rs Out:=AS.d_31
def t_31:List T->Rs T:=AS.t_31
theorem qsS:qav ["thing"] ["thing"] (qah qs8):=by trivial
def d_32:Ro->Rs Out:=AS.d_32
def t_32:List T->Rs T:=AS.t_32
theorem qsR:qav ["rows"] ["rows"] (qah qs7):=by trivial
def d_33:Ro->Rs Out:=AS.d_33
def t_33:List T->Rs T:=AS.t_33
theorem qvr:qav ["rows"] ["rows"] (qah s_0):=by trivial
def d_0:Ro->Rs Out:=AS.d_0
def t_0:List T->Rs T:=AS.t_0
theorem qvo:qav ["rows"] ["rows"] (qah s_4):=by trivial
def d_4:Ro->Rs Out:=AS.d_4
def t_4:List T->Rs T:=AS.t_4
theorem qvq:qav ["rows"] ["rows"] (qah s_1):=by trivial
def d_1:Ro->Rs Out:=AS.d_1
def t_1:List T->Rs T:=AS.t_1
theorem qsQ:qav ["rows", "key"] ["rows", "key"] (qah qsc):=by trivial
def o_34:List T->Rs Sl:=AS.o_34
theorem qsM:qav ["rows", "bound"] ["rows", "bound"] (qah qr9):=by trivial
def o_43:List T->Rs Sl:=AS.o_43
theorem qsO:qav ["rows", "bound"] ["rows", "bound"] (qah qsb):=by trivial
def o_39:List T->Rs Sl:=AS.o_39
theorem qsL:qav ["rows", "more"] ["rows", "more"] (qah qr8):=by trivial
def o_44:List T->Rs Sl:=AS.o_44
theorem qsN:qav ["rows", "factor"] ["rows", "factor"] (qah qsa):=by trivial
def o_40:List T->Rs Sl:=AS.o_40
theorem qqK:qav ["rows", "many", "kept", "came"] ["rows", "many", "kept"] (qah qs2):=by trivial
def d_41:Ro->Rs Out:=AS.d_41
def q_41:List T->Sl->Rs (Sl×Sl):=AS.q_41
theorem qqJ:qav ["rows", "many", "kept", "came"] ["rows", "many", "kept"] (qah qs0):=by trivial
def d_45:Ro->Rs Out:=AS.d_45
def q_45:List T->Sl->Rs (Sl×Sl):=AS.q_45
theorem qsY:qav ["size", "sums"] ["size", "sums"] (qah qse):=by trivial
def t_14:List T->Rs T:=AS.t_14
theorem qiU:qav ["rows", "size", "sums", "made", "moment", "key", "number", "place"] ["rows", "size", "sums"] (qah qs6):=by trivial
def d_35:Ro->Rs Out:=AS.d_35
def q_35:List T->Sl->Rs (Sl×Sl):=AS.q_35
theorem qj2:qav ["rows", "sums", "made", "moment", "key", "number"] ["rows", "sums"] (qah qtb):=by trivial
def d_29:Ro->Rs Out:=AS.d_29
def q_29:List T->Sl->Rs (Sl×Sl):=AS.q_29
theorem qj1:qav ["rows", "ahead", "made", "moment", "key", "number"] ["rows", "ahead"] (qah qs5):=by trivial
def d_36:Ro->Rs Out:=AS.d_36
def q_36:List T->Sl->Rs (Sl×Sl):=AS.q_36
theorem qj0:qav ["rows", "ahead", "made", "moment", "key", "number"] ["rows", "ahead"] (qah qs4):=by trivial
def d_37:Ro->Rs Out:=AS.d_37
def q_37:List T->Sl->Rs (Sl×Sl):=AS.q_37
theorem qqL:qav ["thing", "word"] ["thing"] (qah qta):=by trivial
def d_30:Ro->Rs Out:=AS.d_30
def t_30:List T->Rs T:=AS.t_30
theorem qsP:qav ["thing"] ["thing"] (qah qs3):=by trivial
def d_38:Ro->Rs Out:=AS.d_38
def t_38:List T->Rs T:=AS.t_38
theorem qvp:qav ["ask"] ["ask"] (qah s_2):=by trivial
def t_2:List T->Rs T:=AS.t_2
theorem qj3:qav ["step", "rows", "kept", "word", "make"] ["step", "rows", "kept"] (qah qtl):=by trivial
def d_16:Ro->Rs Out:=AS.d_16
def q_16:List T->Sl->Rs (Sl×Sl):=AS.q_16
theorem quN:qav ["step", "rows", "kept", "made"] ["step", "rows", "kept"] (qah s_5):=by trivial
def d_5:Ro->Rs Out:=AS.d_5
def q_5:List T->Sl->Rs (Sl×Sl):=AS.q_5
theorem qmw:qav ["ask", "rows", "told", "step"] ["ask", "rows"] (qah qs1):=by trivial
def d_42:Ro->Rs Out:=AS.d_42
def o_42:List T->Rs Sl:=AS.o_42
def t_42:List T->Rs T:=AS.t_42
theorem qmx:qav ["_law_script", "_law_at", "_law_letters", "_law_way", "_law_key_here"] ["_law_script", "_law_at"] (qah qtd):=by trivial
def qsj:Ro->Rs Out:=qaJ (qbr 2 (dC (.str "abcdefghijklmnopqrstuvwxyz"))) (qaJ (qbr 3 (qau qcb (qab (dV 0) (qab (dV 1) (qab (dC (.int 16)) (qaq)))))) (qaJ (dIf (dTB (dB gGt (dV 3) (dC (.int 0)))) (qa4 (dB gIx (dFz (qcU (qab (dC (.str "a")) (qab (dC (.str "b")) (qab (dC (.str "ab")) (qaq)))))) (dB qmd (dV 3) (dC (.int 3))))) (qaA)) (qaJ (qbr 4 (dB gIx (dV 2) (qau qcb (qab (dV 0) (qab (dB qa0 (dV 1) (dC (.int 1))) (qab (dC (.int 26)) (qaq))))))) (qaJ (dIf (dTB (dB gEq (qau qcb (qab (dV 0) (qab (dB qa0 (dV 1) (dC (.int 2))) (qab (dC (.int 2)) (qaq))))) (dC (.int 0)))) (qa4 (dV 4)) (qaA)) (qa4 (dB qa0 (dV 4) (dB gIx (dV 2) (qau qcb (qab (dV 0) (qab (dB qa0 (dV 1) (dC (.int 3))) (qab (dC (.int 26)) (qaq))))))))))))
def qiO:List T->Rs T:=fnT 2 5 qsj
theorem qsX:qav ["_law_script", "_law_at", "_law_most"] ["_law_script", "_law_at", "_law_most"] (qah qtk):=by trivial
def qux:Ro->Rs Out:=qaJ (dIf (dTB (dB gEq (qau qcb (qab (dV 0) (qab (dV 1) (qab (dC (.int 8)) (qaq))))) (dC (.int 0)))) (qa4 (dB gSub (qau qcb (qab (dV 0) (qab (dB qa0 (dV 1) (dC (.int 1))) (qab (dB qa0 (dB qdM (dC (.int 2)) (dV 2)) (dC (.int 1))) (qaq))))) (dV 2))) (qaA)) (qa4 (dB gSub (qau qcb (qab (dV 0) (qab (dB qa0 (dV 1) (dC (.int 1))) (qab (dC (.int 9)) (qaq))))) (dC (.int 4))))
def qjF:List T->Rs T:=fnT 3 3 qux
theorem qgR:qav ["_law_script", "_law_at", "_law_most", "_law_made", "_law_moment", "_law_far", "_law_k", "_law_base"] ["_law_script", "_law_at", "_law_most"] (qah qtg):=by trivial
def quY:Ro->Rs Out:=qaJ (qdz 3 (qcU (qaq))) (qaJ (qbr 4 (qau qcb (qab (dV 0) (qab (dV 1) (qab (dC (.int 9)) (qaq)))))) (qaJ (qbr 5 (dB gIx (dFz (qcU (qab (dC (.int 1)) (qab (dC (.int 3)) (qab (dC (.int 6)) (qab (dC (.int 14)) (qaq))))))) (qau qcb (qab (dV 0) (qab (dB qa0 (dV 1) (dC (.int 1))) (qab (dC (.int 4)) (qaq))))))) (qaJ (qeS (qp5 (qab (qau qcb (qab (dV 0) (qab (dB qa0 (dV 1) (dC (.int 2))) (qab (dB qa0 (dV 2) (dC (.int 1))) (qaq))))) (qaq))) (gN 6) (qaJ (qbr 7 (dB qa0 (dB qa0 (dV 1) (dC (.int 10))) (dB qdM (dC (.int 8)) (dV 6)))) (qaJ (qbr 4 (dB2 qsh (dC (.int 99)) (dB qa0 (dV 4) (qau qcb (qab (dV 0) (qab (dV 7) (qab (dV 5) (qaq)))))))) (qdo 3 (qbd (qab (dV 4) (qab (qau qiO (qab (dV 0) (qab (dB qa0 (dV 7) (dC (.int 1))) (qaq)))) (qab (qau qjF (qab (dV 0) (qab (dB qa0 (dV 7) (dC (.int 5))) (qab (dC (.int 99)) (qaq))))) (qaq))))))))) ((λρ=>(qa4 (dV 3)) (frz 3 ρ))))))
def qqf:List T->Rs T:=fnT 3 8 quY
theorem qmy:qav ["_law_script", "_law_at", "_law_word", "_law_many"] ["_law_script", "_law_at"] (qah qtf):=by trivial
def qsk:Ro->Rs Out:=qaJ (qbr 2 (dFz (qcU (qab (dC (.str "key")) (qab (dC (.str "over")) (qab (dC (.str "under")) (qab (dC (.str "plus")) (qab (dC (.str "times")) (qab (dC (.str "first")) (qab (dC (.str "each")) (qab (dC (.str "window")) (qab (dC (.str "running")) (qab (dC (.str "change")) (qab (dC (.str "unlike")) (qaq))))))))))))))) (qaJ (qbr 2 (dB gIx (dV 2) (qau qcb (qab (dV 0) (qab (dV 1) (qab (dC (.int 11)) (qaq))))))) (qaJ (dIf (dTB (dB gEq (dV 2) (dC (.str "key")))) (qa4 (qbd (qab (dV 2) (qab (qau qiO (qab (dV 0) (qab (dB qa0 (dV 1) (dC (.int 1))) (qaq)))) (qaq))))) (qaA)) (qaJ (dIf (dTB (dIn false (dV 2) (dQ (qbd (qab (dC (.str "over")) (qab (dC (.str "under")) (qab (dC (.str "plus")) (qab (dC (.str "times")) (qaq))))))))) (qa4 (qbd (qab (dV 2) (qab (qau qjF (qab (dV 0) (qab (dB qa0 (dV 1) (dC (.int 1))) (qab (dC (.int 20)) (qaq))))) (qaq))))) (qaA)) (qaJ (dIf (dTB (dIn false (dV 2) (dQ (qbd (qab (dC (.str "first")) (qab (dC (.str "each")) (qab (dC (.str "window")) (qaq)))))))) (qaJ (qbr 3 (dB qa0 (dC (.int 1)) (qau qcb (qab (dV 0) (qab (dB qa0 (dV 1) (dC (.int 1))) (qab (dC (.int 4)) (qaq))))))) (qa4 (qbd (qab (dV 2) (qab (qso (dTB (dB gEq (dV 3) (dC (.int 4)))) (dB qa0 (dC (.int 1)) (qau qcb (qab (dV 0) (qab (dB qa0 (dV 1) (dC (.int 2))) (qab (dC (.int 20)) (qaq)))))) (dV 3)) (qaq)))))) (qaA)) (qa4 (qbd (qab (dV 2) (qaq))))))))
def qmm:List T->Rs T:=fnT 2 4 qsk
theorem qsV:qav ["_law_script", "_law_at", "_law_most"] ["_law_script", "_law_at", "_law_most"] (qah qsd):=by trivial
def qv0:Ro->Rs Out:=qa4 (dCQ qeU (dQF (qaE 1 [0,1] (qp5 (qab (qau qcb (qab (dV 0) (qab (dB qa0 (dV 1) (dC (.int 60))) (qab (dB qa0 (dV 2) (dC (.int 1))) (qaq))))) (qaq))) (gN 0) (qcx) (qau qmm (qab (dV 1) (qab (dB qa0 (dV 2) (dB qdM (dC (.int 6)) (dV 0))) (qaq)))))))
def qqy:List T->Rs T:=fnT 3 3 qv0
theorem qj4:qav ["_law_word", "_law_rows_here", "_law_made", "_law_k", "_law_row", "_law_before"] ["_law_word", "_law_rows_here"] (qah qsf):=by trivial
def qsm:Ro->Rs Out:=qaJ (qdz 2 (qcU (qaq))) (qaJ (qeS (qoo (qab (dV 1) (qaq))) (gT 2 (gsC (gN 3) (gsC (gN 4) (gsN)))) (qaJ (qbr 5 (dFz (qaE 1 [4] (dI (dFz (qiF (dQV 1) (dON) (dOS (dV 3))))) (gN 0) (dTB (dB gEq (dB gIx (dV 0) (dC (.int 1))) (dB gIx (dV 1) (dC (.int 1))))) (dB gIx (dV 0) (dC (.int 2)))))) (dIf (dTB (dB gEq (dV 0) (dC (.str "running")))) (qdo 2 (qbd (qab (dB gIx (dV 4) (dC (.int 0))) (qab (dB gIx (dV 4) (dC (.int 1))) (qab (dB qa0 (dCQ qjH (dQV 5)) (dB gIx (dV 4) (dC (.int 2)))) (qaq)))))) (dIf (qe6 (dTB (dB gEq (dV 0) (dC (.str "change")))) (dTB (dB gNe (dV 5) (dFz (qcU (qaq)))))) (qdo 2 (qbd (qab (dB gIx (dV 4) (dC (.int 0))) (qab (dB gIx (dV 4) (dC (.int 1))) (qab (dB gSub (dB gIx (dV 4) (dC (.int 2))) (dB gIx (dV 5) (qdA (dC (.int 1))))) (qaq)))))) (dIf (qe6 (dTB (dB gEq (dV 0) (dC (.str "unlike")))) (dTB (dB gNe (dFz (qiF (dQV 5) (dOS (qdA (dC (.int 1)))) (dON))) (dFz (qcU (qab (dB gIx (dV 4) (dC (.int 2))) (qaq))))))) (qdo 2 (dV 4)) (qaA)))))) ((λρ=>(qa4 (dV 2)) (frz 2 ρ))))
def qma:List T->Rs T:=fnT 2 6 qsm
theorem qj5:qav ["_law_size", "_law_rows_here", "_law_made", "_law_window", "_law_here", "_law_key_here"] ["_law_size", "_law_rows_here"] (qah qqg):=by trivial
def qsn:Ro->Rs Out:=qaJ (qdz 2 (qcU (qaq))) (qaJ (qeS (dI (dFz (qjn qdI (dQF (qaE 1 [0] (dI (dV 1)) (gN 0) (qcx) (dB qfH (dB gIx (dV 0) (dC (.int 0))) (dV 1))))))) (gN 3) (qaJ (qbr 4 (dFz (qaE 1 [0,3] (dI (dV 1)) (gN 0) (dTB (dB gEq (dB qfH (dB gIx (dV 0) (dC (.int 0))) (dV 1)) (dV 2))) (dV 0)))) (qeS (dI (dFz (qjn qf7 (dQF (qaE 1 [] (dI (dV 4)) (gN 0) (qcx) (dB gIx (dV 0) (dC (.int 1)))))))) (gN 5) (qdo 2 (qbd (qab (dB gSub (dB qa0 (dB qdM (dV 3) (dV 0)) (dV 0)) (dC (.int 1))) (qab (dV 5) (qab (dCQ qjH (dQF (qaE 1 [5] (dI (dV 4)) (gN 0) (dTB (dB gEq (dB gIx (dV 0) (dC (.int 1))) (dV 1))) (dB gIx (dV 0) (dC (.int 2)))))) (qaq))))))))) ((λρ=>(qa4 (dV 2)) (frz 2 ρ))))
def qqz:List T->Rs T:=fnT 2 6 qsn
theorem qqM:qav ["_law_step_here", "_law_rows_here", "_law_word"] ["_law_step_here", "_law_rows_here"] (qah qmE):=by trivial
def qiD:Ro->Rs Out:=qaJ (qbr 2 (dB gIx (dV 0) (dC (.int 0)))) (qaJ (dIf (dTB (dIn false (dV 2) (dQ (qbd (qab (dC (.str "key")) (qab (dC (.str "over")) (qab (dC (.str "under")) (qaq)))))))) (qaJ (dIf (dTB (dB gEq (dV 2) (dC (.str "key")))) (qa4 (dFz (qaE 1 [0] (dI (dV 1)) (gN 0) (dTB (dB gEq (dB gIx (dV 0) (dC (.int 1))) (dB gIx (dV 1) (dC (.int 1))))) (dV 0)))) (qaA)) (qa4 (dFz (qaE 1 [0,2] (dI (dV 1)) (gN 0) (qe6 (dTB (dB gEq (dB gGt (dB gIx (dV 0) (dC (.int 2))) (dB gIx (dV 1) (dC (.int 1)))) (dB gEq (dV 2) (dC (.str "over"))))) (dTB (dB gNe (dB gIx (dV 0) (dC (.int 2))) (dB gIx (dV 1) (dC (.int 1)))))) (dV 0))))) (qaA)) (qaJ (dIf (dTB (dB gEq (dV 2) (dC (.str "plus")))) (qa4 (dFz (qaE 1 [0] (dI (dV 1)) (gN 0) (qcx) (qbd (qab (dB gIx (dV 0) (dC (.int 0))) (qab (dB gIx (dV 0) (dC (.int 1))) (qab (dB qa0 (dB gIx (dV 0) (dC (.int 2))) (dB gIx (dV 1) (dC (.int 1)))) (qaq)))))))) (qaA)) (qaJ (dIf (dTB (dB gEq (dV 2) (dC (.str "times")))) (qa4 (dFz (qaE 1 [0] (dI (dV 1)) (gN 0) (qcx) (qbd (qab (dB gIx (dV 0) (dC (.int 0))) (qab (dB gIx (dV 0) (dC (.int 1))) (qab (dB qdM (dB gIx (dV 0) (dC (.int 2))) (dB gIx (dV 1) (dC (.int 1)))) (qaq)))))))) (qaA)) (qaJ (dIf (dTB (dB gEq (dV 2) (dC (.str "first")))) (qa4 (dFz (qaE 2 [0] (qoo (qab (dV 1) (qaq))) (gT 2 (gsC (gN 0) (gsC (gN 1) (gsN)))) (dTB (dB gLt (dV 0) (dB gIx (dV 2) (dC (.int 1))))) (dV 1)))) (qaA)) (qaJ (dIf (dTB (dB gEq (dV 2) (dC (.str "each")))) (qa4 (dFz (qaE 2 [0] (qoo (qab (dV 1) (qaq))) (gT 2 (gsC (gN 0) (gsC (gN 1) (gsN)))) (dTB (dB gEq (dB qmd (dV 0) (dB gIx (dV 2) (dC (.int 1)))) (dB gSub (dB gIx (dV 2) (dC (.int 1))) (dC (.int 1))))) (dV 1)))) (qaA)) (qaJ (dIf (dTB (dB gEq (dV 2) (dC (.str "window")))) (qa4 (qau qqz (qab (dB gIx (dV 0) (dC (.int 1))) (qab (dV 1) (qaq))))) (qaA)) (qa4 (qau qma (qab (dV 2) (qab (dV 1) (qaq)))))))))))
def qfG:List T->Rs T:=fnT 2 3 qiD
theorem qoR:qav ["_law_ask_here", "_law_rows_here", "_law_step_here"] ["_law_ask_here", "_law_rows_here"] (qah qtj):=by trivial
def qsl:Ro->Rs Out:=qaJ (qeS (dI (dV 0)) (gN 2) (qbr 1 (qau qfG (qab (dV 2) (qab (dV 1) (qaq)))))) (qa4 (dV 1))
def qhL:List T->Rs T:=fnT 2 3 qsl
theorem qcI:qav ["_law_script", "_law_ask_here", "_law_rows_here", "_law_handed", "_law_told", "_law_cut", "_law_some", "_law_step_here", "_law_here", "_law_new"] ["_law_script"] (qah qj7):=by trivial
def qnE:Ro->Rs Out:=qaJ (qbr 1 (qau qqy (qab (dV 0) (qab (dC (.int 0)) (qab (dC (.int 4)) (qaq)))))) (qaJ (qbr 2 (qau qqf (qab (dV 0) (qab (dC (.int 100)) (qab (dC (.int 12)) (qaq)))))) (qaJ (qbr 3 (dFz (qjn qik (dQV 2)))) (qaJ (qlJ 4 (qab (dV 1) (qab (dV 2) (qaq))) o_42) (qaJ (dIf (λρ=>(dOr (dTB (dQQ gNe (dQV 4) (qau qhL (qab (dV 1) (qab (dV 2) (qaq)))))) (dOr (dTB (dB gNe (dV 2) (dV 3))) (dOr (dTB (dB gNe (qau t_42 (qab (dV 1) (qab (dFz (qcU (qaq))) (qaq)))) (dFz (qcU (qaq))))) (dTB (dB qdi (qau t_33 (qab (dV 4) (qaq))) (dC (.bl true))))))) (frz 4 ρ)) (qa4 (dC (.bl false))) (qaA)) (qaJ (qbr 5 (qau qcb (qab (dV 0) (qab (dC (.int 80)) (qab (dB qa0 (qeE (dV 1)) (dC (.int 1))) (qaq)))))) (qaJ (qbr 6 (dFz (qaE 1 [] (dI (qau qhL (qab (qqo (dV 1) (dON) (dOS (dV 5))) (qab (dV 2) (qaq))))) (gN 0) (qcx) (dV 0)))) (qaJ (dIf (dTB (dQQ gNe (dQV 4) (qau qhL (qab (qqo (dV 1) (dOS (dV 5)) (dON)) (qab (dV 6) (qaq)))))) (qa4 (dC (.bl false))) (qaA)) (qaJ (qeS (dI (dV 1)) (gN 7) (qaJ (qbr 8 (qau t_42 (qab (qbd (qab (dV 7) (qaq))) (qab (dV 2) (qaq))))) (qaJ (qbr 9 (dFz (qaE 1 [2] (dI (dV 8)) (gN 0) (dTB (dIn true (dV 0) (dQV 1))) (dV 0)))) (qaJ (dIf (qe6 (dTB (dIn false (dB gIx (dV 7) (dC (.int 0))) (dQ (qbd (qab (dC (.str "key")) (qab (dC (.str "over")) (qab (dC (.str "under")) (qab (dC (.str "first")) (qab (dC (.str "each")) (qab (dC (.str "unlike")) (qaq))))))))))) (dTB (dB gNe (dV 9) (dFz (qcU (qaq)))))) (qa4 (dC (.bl false))) (qaA)) (dIf (qe6 (dTB (dIn false (dB gIx (dV 7) (dC (.int 0))) (dQ (qbd (qab (dC (.str "plus")) (qab (dC (.str "times")) (qab (dC (.str "running")) (qaq)))))))) (dTB (dB gNe (qeE (dV 8)) (qeE (dV 2))))) (qa4 (dC (.bl false))) (qaA)))))) (qaJ (qdo 4 (qbd (qab (dC (.int 0)) (qab (dC (.str "a")) (qab (dC (.int 0)) (qaq)))))) (qa4 (dB gEq (qau t_42 (qab (dV 1) (qab (dV 2) (qaq)))) (dFz (qiF (dQV 4) (dON) (dOS (qdA (dC (.int 1)))))))))))))))))
def t_law:List T->Rs T:=fnT 1 10 qnE
end
end K11
end
section
namespace AS
open PySem L2 PL SetL SR
theorem qad {d e:Ro->Rs Out} {ρ ρ':Ro} {r:Rs Out} (h:d ρ= .ok (.nx ρ')) (h2:e ρ'=r):qaJ d e ρ=r:=by
 unfold qaJ; rw[h]; exact h2
theorem qjh (i:Int):t_25 [.int i]= .ok (.bl true):=rfl
theorem qdU (i a b:Int):t_8 [.int i,.int a,.int b]= .ok (.bl (decide (a<=i)&&decide (i<=b))):=by
 unfold t_8 d_8
 simp only[fnT,List.length_cons,List.length_nil,Nat.reduceAdd,qa4,qhw,dTB,qau,qab,dV,List.map_cons,List.map_nil,Nat.reduceSub,List.replicate,List.append_nil,List.getElem?_cons_zero,qaq,qag,qjh,qcy,List.getElem?_cons_succ,qpG,if_true]
 by_cases h:a<=i
 ·simp[h]; rfl
 ·simp[h]; rfl
theorem qlr {x:Str} (h:qej x):t_28 [.str x,.int 2]= .ok (.bl true):=by
 have l1:(1:Int)<=(x.length:Int):=by have:=h.1.1; lia
 have l2:(x.length:Int)<=2:=by have:=h.1.2; lia
 have l3:x.length<=1000:=by have:=h.1.2; lia
 have cm:qaE 1 [] (dIS (dV 0)) (gN 0) qcx (qcy gLe gLe (dC (T.str "a")) (dV 0) (dC (T.str "z"))) [.fz (.str x),.fz (.int 2)]= .ok ((x.cps.toList.filter λ_=>true).map λ_=>T.bl true):=by
  refine qbj (f:=λc=>T.str ⟨#[c]⟩) ?_ λc hc=>⟨rfl,λ_=> ?_⟩
  ·show (if x.length<=1000 then _ else _)=_
   rw[if_pos l3]
  ·have:=qoP (h.2 c hc)
   unfold qcy
   simp only[dC,dV,qag,List.getElem?_cons_zero,this.1,this.2,if_true]
 unfold t_28 d_28
 have i1:qhh "str" (.str x)= .ok (.bl true):=rfl
 simp only[fnT,List.length_cons,List.length_nil,Nat.reduceAdd,qaJ,dIf,dOr,qgq,dTB,qex,dV,List.map_cons,List.map_nil,Nat.reduceSub,List.replicate,List.append_nil,List.getElem?_cons_zero,qag,i1,Bool.not_true,qcy,dC,qeE,qof,l3,if_true,List.getElem?_cons_succ,qpG,l2,decide_true,l1,Bool.false_eq_true,if_false,qa4,qaA,qdp,dCQ,dQF,cm,ql6]
 have y: ∀l:List Nat,(l.map λ_=>T.bl true).all qnd=true/\(l.map λ_=>T.bl true).all ql1=true:=λl=>by constructor<;>(rw[List.all_map,List.all_eq_true]; intro _ _; rfl)
 rw[qbu,(y _).1,(y _).2]
 simp only[true_and,if_true,qag]
 rfl
theorem qix {x:Str} (h:qej x):t_31 [.str x]= .ok (.bl true):=by
 unfold t_31 d_31
 simp only[fnT,List.length_cons,List.length_nil,Nat.reduceAdd,qa4,qau,qab,dV,List.map_cons,List.map_nil,Nat.reduceSub,List.replicate,List.append_nil,List.getElem?_cons_zero,dC,qaq,qag,qlr h,outT,if_true]
theorem qnt {r:Row} (h:qmG r):t_32 [qam r]= .ok (.bl true):=by
 obtain ⟨⟨h1,h2⟩,hk,h3,h4⟩:=h
 have i1:qhh "tuple" (qam r)= .ok (.bl true):=rfl
 have i2:qqk (qam r)= .ok (.int 3):=rfl
 have i3:gNe (.int 3) (.int 3)= .ok (.bl false):=rfl
 have w1:=qdU r.1 0 99
 have w2:=qdU r.2.2 (-99) 99
 rw[decide_eq_true h1,decide_eq_true h2] at w1
 rw[decide_eq_true h3,decide_eq_true h4] at w2
 unfold t_32 d_32
 simp only[fnT,List.length_cons,List.length_nil,Nat.reduceAdd,qaJ,dIf,dOr,qgq,dTB,qex,dV,List.map_cons,List.map_nil,Nat.reduceSub,List.replicate,List.append_nil,List.getElem?_cons_zero,qag,i1,Bool.not_true,dB,qeE,i2,dC,i3,Bool.false_eq_true,if_false,qa4,qaA,qdp,qau,qab,qaq,qdA,qod,qvu,w1,Bool.and_self,qvt,qix hk,qvs,w2,outT,if_true]
theorem e_is_log (rs:List Row):t_33 [qan rs]= .ok (.bl (qeO rs)):=by
 have cm:qaE 2 [] (dIZ (qab (dV 0) (qab (dFz (qiF (dQV 0) (dOS (dC (T.int 1))) dON)) qaq))) (gT 2 (gsC (gN 0) (gsC (gN 1) gsN))) qcx (dB gLe (dB gIx (dV 0) (dC (T.int 0))) (dB gIx (dV 1) (dC (T.int 0)))) [.fz (qan rs)]= .ok (((rs.zip (rs.drop 1)).filter λ_=>true).map λp=>T.bl (decide (p.1.1<=p.2.1))):=by
  refine qlK (a:=λp:Row×Row=>qam p.1) (b:=λp=>qam p.2) ?_ λp hp=>⟨rfl,λ_=>rfl⟩
  unfold qan
  simp only[dIZ,qab,dV,dFz,qiF,dQV,dOS,dC,dON,qaq,qfh,qag,List.getElem?_cons_zero,if_true,qv7,qoy]
  rw[<-List.map_drop,qme]
 unfold t_33 d_33
 simp only[fnT,List.length_cons,List.length_nil,Nat.reduceAdd,qa4,dCQ,dQF,List.map_cons,List.map_nil,Nat.reduceSub,List.replicate,List.append_nil,cm,qbu,qag,qfE,outT,if_true]
 rfl
theorem qgi {rs:List Row} (h: ∀r∈rs,qmG r):t_0 [qan rs]= .ok .non:=by
 have cm:qaE 1 [] (dI (dV 0)) (gN 0) qcx (qau t_32 (qab (dV 0) qaq)) [.fz (qan rs)]= .ok ((rs.filter λ_=>true).map λ_=>T.bl true):=by
  refine qbj (f:=qam) rfl λr hr=>⟨rfl,λ_=> ?_⟩
  simp only[qau,qab,dV,List.map_nil,List.getElem?_cons_zero,qaq,qag,qnt (h r hr)]
 unfold t_0 d_0
 simp only[fnT,List.length_cons,List.length_nil,Nat.reduceAdd,dIf,qgq,dTB,dCQ,dQF,List.map_cons,List.map_nil,Nat.reduceSub,List.replicate,List.append_nil,cm,qbu,qag,qfE,qaA,if_true]
 have y:(rs.all λ_=>true)=true:=by rw[List.all_eq_true]; intro _ _; rfl
 rw[y]; rfl
theorem qeQ {rs:List Row} (h:qeO rs=true):t_4 [qan rs]= .ok .non:=by
 unfold t_4 d_4
 simp only[fnT,List.length_cons,List.length_nil,Nat.reduceAdd,dIf,qgq,dTB,qau,qab,dV,List.map_cons,List.map_nil,Nat.reduceSub,List.replicate,List.append_nil,List.getElem?_cons_zero,qaq,qag,e_is_log,h,Bool.not_true,qaA,Bool.false_eq_true,if_false,outT,if_true]
theorem qgj {rs:List Row} (h:Log rs):t_1 [qan rs]= .ok .non:=by
 unfold t_1 d_1
 simp only[fnT,List.length_cons,List.length_nil,Nat.reduceAdd,qaJ,qhv,qau,qab,dV,List.map_cons,List.map_nil,Nat.reduceSub,List.replicate,List.append_nil,List.getElem?_cons_zero,qaq,qag,qgi h.ok,qdp,qeQ h.log,outT,if_true]
theorem qcp {κ:Type} [DecidableEq κ] (k k':κ) (t:T): ∀kvs:List (κ×T),((kvs.map λkv=>if kv.1=k then (kv.1,t) else kv).find? λkv=>decide (kv.1=k')).map (·.2)=
  if k=k' then (if (kvs.any λkv=>decide (kv.1=k))=true then some t else none) else (kvs.find? λkv=>decide (kv.1=k')).map (·.2)
 | []=>by simp
 | p::kvs=>by
  have ih:=qcp k k' t kvs
  rw[List.map_cons,List.find?_cons,List.find?_cons,List.any_cons]
  by_cases c:p.1=k
  ·rw[if_pos c]
   by_cases d:k=k'
   ·have:p.1=k':=c.trans d
    simp[this,d]
   ·have: ¬p.1=k':=λz=>d (c.symm.trans z)
    rw[decide_eq_false this]
    simp only[d,if_false] at ih⊢
    exact ih
  ·rw[if_neg c,decide_eq_false c,Bool.false_or]
   by_cases e:p.1=k'
   ·have: ¬k=k':=λz=>c (e.trans z.symm)
    rw[decide_eq_true e]
    simp[this]
   ·rw[decide_eq_false e]
    exact ih
theorem qmi (kvs:List (Key×T)) (k k':Key) (t:T):qhJ (qeD kvs k t) k'=if k=k' then some t else qhJ kvs k':=by
 unfold qhJ qeD
 by_cases c:(kvs.any λkv=>decide (kv.1=k))=true
 ·rw[if_pos c,qcp,if_pos c]
 ·rw[if_neg c,List.find?_append]
  by_cases d:k=k'
  ·subst d
   have:(kvs.find? λkv=>decide (kv.1=k))=none:=by
    rw[List.find?_eq_none]
    intro p hp z
    exact c (List.any_eq_true.mpr ⟨p,hp,z⟩)
   rw[this]; simp
  ·rw[if_neg d]
   cases e:kvs.find? λkv=>decide (kv.1=k') with
   | some p=>rfl
   | none=>simp[d]
theorem qmh (kvs:List (List Key×T)) (k k':List Key) (t:T):qeF (qiZ kvs k t) k'=if k=k' then some t else qeF kvs k':=by
 unfold qeF qiZ
 by_cases c:(kvs.any λkv=>decide (kv.1=k))=true
 ·rw[if_pos c,qcp,if_pos c]
 ·rw[if_neg c,List.find?_append]
  by_cases d:k=k'
  ·subst d
   have:(kvs.find? λkv=>decide (kv.1=k))=none:=by
    rw[List.find?_eq_none]
    intro p hp z
    exact c (List.any_eq_true.mpr ⟨p,hp,z⟩)
   rw[this]; simp
  ·rw[if_neg d]
   cases e:kvs.find? λkv=>decide (kv.1=k') with
   | some p=>rfl
   | none=>simp[d]
theorem qfs (kvs:List (Key×T)) (k:Key) (t:T):(qeD kvs k t).length<=kvs.length+1:=by
 unfold qeD
 split
 ·rw[List.length_map]; omega
 ·simp
def qee (b:Int) (rs:List Row):List Row:=rs.filter λr=>decide (b<r.2.2)
def qcj (b:Int) (rs:List Row):List Row:=rs.filter λr=>decide (r.2.2<b)
def qda (m:Int) (rs:List Row):List Row:=rs.map λr=>(r.1,r.2.1,r.2.2+m)
def qbQ (m:Int) (rs:List Row):List Row:=rs.map λr=>(r.1,r.2.1,r.2.2*m)
theorem qvB (rs:List Row) (k:Str):o_34 [qan rs,.str k]= .ok (.ow ((qrh rs k).map qam)):=by
 have cm:qaE 1 [1] (dI (dV 0)) (gN 0) (dTB (dB gEq (dB gIx (dV 0) (dC (.int 1))) (dV 1))) (dV 0) [.fz (qan rs),.fz (.str k)]= .ok ((rs.filter λr=>r.2.1==k).map qam):=
  qbj (f:=qam) rfl λr hr=>⟨rfl,λ_=>rfl⟩
 show (qbP _ [.fz (qan rs),.fz (.str k)]>>=qpe)=_
 unfold qbP
 rw[cm]
 rfl
theorem qvy (rs:List Row) (b:Int):o_43 [qan rs,.int b]= .ok (.ow ((qee b rs).map qam)):=by
 have cm:qaE 1 [1] (dI (dV 0)) (gN 0) (dTB (dB gGt (dB gIx (dV 0) (dC (.int 2))) (dV 1))) (dV 0) [.fz (qan rs),.fz (.int b)]= .ok ((qee b rs).map qam):=
  qbj (f:=qam) rfl λr hr=>⟨rfl,λ_=>rfl⟩
 show (qbP _ [.fz (qan rs),.fz (.int b)]>>=qpe)=_
 unfold qbP
 rw[cm]
 rfl
theorem qvA (rs:List Row) (b:Int):o_39 [qan rs,.int b]= .ok (.ow ((qcj b rs).map qam)):=by
 have cm:qaE 1 [1] (dI (dV 0)) (gN 0) (dTB (dB gLt (dB gIx (dV 0) (dC (.int 2))) (dV 1))) (dV 0) [.fz (qan rs),.fz (.int b)]= .ok ((qcj b rs).map qam):=
  qbj (f:=qam) rfl λr hr=>⟨rfl,λ_=>rfl⟩
 show (qbP _ [.fz (qan rs),.fz (.int b)]>>=qpe)=_
 unfold qbP
 rw[cm]
 rfl
theorem qvx (rs:List Row) (b:Int):o_44 [qan rs,.int b]= .ok (.ow ((qda b rs).map qam)):=by
 have cm:qaE 3 [1] (dI (dV 0)) (gT 3 (gsC (gN 0) (gsC (gN 1) (gsC (gN 2) (gsN))))) (qcx) (qbd (qab (dV 0) (qab (dV 1) (qab (dB qa0 (dV 2) (dV 3)) (qaq))))) [.fz (qan rs),.fz (.int b)]= .ok ((rs.filter λ_=>true).map λr=>qam (r.1,r.2.1,r.2.2+b)):=
  qop (a:=λr:Row=>.int r.1) (b:=λr=>.str r.2.1) (c:=λr=>.int r.2.2) rfl λr hr=>⟨rfl,λ_=>rfl⟩
 show (qbP _ [.fz (qan rs),.fz (.int b)]>>=qpe)=_
 unfold qbP
 rw[cm,qbu,show (rs.map λr=>qam (r.1,r.2.1,r.2.2+b))=(qda b rs).map qam by unfold qda; rw[List.map_map]; rfl]
 rfl
theorem qvz (rs:List Row) {b:Int} (hb: -1000000<=b/\b<=1000000):o_40 [qan rs,.int b]= .ok (.ow ((qbQ b rs).map qam)):=by
 have cm:qaE 3 [1] (dI (dV 0)) (gT 3 (gsC (gN 0) (gsC (gN 1) (gsC (gN 2) (gsN))))) (qcx) (qbd (qab (dV 0) (qab (dV 1) (qab (dB qdM (dV 2) (dV 3)) (qaq))))) [.fz (qan rs),.fz (.int b)]= .ok ((rs.filter λ_=>true).map λr=>qam (r.1,r.2.1,r.2.2*b)):=by
  refine qop (a:=λr:Row=>.int r.1) (b:=λr=>.str r.2.1) (c:=λr=>.int r.2.2) rfl λr hr=>⟨rfl,λ_=> ?_⟩
  have l3:(3:Nat)<=1000:=by decide
  simp only[fnT,qaJ,qdp,qa4,qbr,qdz,qhv,dIf,qaA,dV,dC,dB,dB2,qau,qab,qaq,qbd,qcU,dFz,dQ,dQF,dQV,qjY,qjX,dCQ,qjn,dTB,qe6,dOr,qgq,qhw,qv4,qp4,qso,qcy,dI,qhb,qha,dIS,qp5,qv6,dIZ,qv3,quA,quz,qeE,qex,qdA,qod,qdo,qqp,qn6,qdF,frz,qv5,ixQ,qiF,dOS,dON,gN,gT,gsC,gsN,qcP,qlf,qeo,qlh,qgc,qul,qpG,qni,qun,qum,qnh,qoe,qlg,quj,quo,qof,qrH,qrI,qvJ,PL.outT,dIn,qql,qeU,qik,qag,qpn,qo1,List.map_cons,List.map_nil,List.length_cons,List.length_nil,List.length_map,List.replicate,List.cons_append,List.nil_append,List.append_nil,List.getElem?_cons_zero,List.getElem?_cons_succ,List.set_cons_zero,List.set_cons_succ,Nat.reduceSub,Nat.reduceAdd,Nat.reduceLeDiff,Nat.reduceEqDiff,if_true,if_false,Bool.false_eq_true,reduceIte,Bool.not_true,Bool.not_false,Bool.and_true,Bool.true_and,Bool.and_self,Bool.or_self,qjq,hb,and_self,or_true,l3]
  rfl
 show (qbP _ [.fz (qan rs),.fz (.int b)]>>=qpe)=_
 unfold qbP
 rw[cm,qbu,show (rs.map λr=>qam (r.1,r.2.1,r.2.2*b))=(qbQ b rs).map qam by unfold qbQ; rw[List.map_map]; rfl]
 rfl
end AS
end
section
namespace AS
open PySem L2 PL SetL SR
theorem cut_take {α:Type} (ts:List T) {n:Nat}:qez ts none (some (n:Int))=ts.take n:=by
 unfold qez
 rw[HT.sIx_none,HT.sIx_nat,List.drop_zero,Nat.sub_zero]
 rcases Nat.le_total n ts.length with h | h
 ·rw[Nat.min_eq_left h]
 ·rw[Nat.min_eq_right h,List.take_of_length_le (Nat.le_refl _),List.take_of_length_le h]
theorem qmJ (rs:List Row) {n:Int} (hn:0<=n): ∃D:List (Key×T),q_41 [qan rs,.int n] (.od [])= .ok (.ow ((rs.take n.toNat).map qam),.od D):=by
 obtain ⟨m,rfl⟩: ∃m:Nat,n=m:=⟨n.toNat,by omega⟩
 refine ⟨qeD [] (.inr "came") (.int (0+(rs.map qam).length)),?_⟩
 have e1:qbr 3 (qcT (dXV 2) (dC (.str "came")) (dC (.int 0))) [.fz (qan rs),.fz (.int m),.pd [],.no]= .ok (.nx [.fz (qan rs),.fz (.int m),.pd [],.fz (.int 0)]):=rfl
 have e2:qcG 2 (dC (.str "came")) (dB qa0 (dV 3) (qeE (dV 0))) [.fz (qan rs),.fz (.int m),.pd [],.fz (.int 0)]= .ok (.nx [.fz (qan rs),.fz (.int m),.pd (qeD [] (.inr "came") (.int (0+(rs.map qam).length))),.fz (.int 0)]):=rfl
 have e3: ∀D:List (Key×T),qbP (qiF (dQV 0) (dON) (dOS (dB2 quk (dB gSub (dV 1) (dV 3)) (dC (.int 0))))) [.fz (qan rs),.fz (.int m),.pd D,.fz (.int 0)]= .ok (.rs (.ow ((rs.take m).map qam)) [.fz (qan rs),.fz (.int m),.pd D,.fz (.int 0)]):=λD=>by
  show (Rs.ok (qez (rs.map qam) none (some (if (0:Int)>(m:Int) - 0 then 0 else (m:Int) - 0)))>>=λts=>Rs.ok (Out.rs (.ow ts) [.fz (qan rs),.fz (.int m),.pd D,.fz (.int 0)]))=_
  rw[if_neg (by omega),show (m:Int) - 0=m by omega,cut_take (α:=Unit),qag,List.map_take]
 show (d_41 [.fz (qan rs),.fz (.int m),.pd [],.no]>>=qjJ 2)=_
 unfold d_41
 rw[qad e1 (qad e2 (e3 _)),qag]
 rfl
def qcr (n:Int) (rs:List Row):List Row:=RH.pickL rs (some (n - 1)) none (some n)
theorem qku {α β:Type} (f:α->β) (xs:List α) (a b c:Option Int):RH.pickL (xs.map f) a b c=(RH.pickL xs a b c).map f:=by
 unfold RH.pickL
 rw[List.length_map,List.map_filterMap]
 refine congrArg (λg=>List.filterMap g _) (funext λi=> ?_)
 rw[List.getElem?_map]
theorem qoY (rs:List Row) {n:Int} (hn:0<n): ∃D:List (Key×T),q_45 [qan rs,.int n] (.od [])= .ok (.ow ((qcr n rs).map qam),.od D):=by
 refine ⟨qeD [] (.inr "came") (.int ((0+(rs.map qam).length) % n)),?_⟩
 have e1:qbr 3 (qcT (dXV 2) (dC (.str "came")) (dC (.int 0))) [.fz (qan rs),.fz (.int n),.pd [],.no]= .ok (.nx [.fz (qan rs),.fz (.int n),.pd [],.fz (.int 0)]):=rfl
 have e2:qcG 2 (dC (.str "came")) (dB qmd (dB qa0 (dV 3) (qeE (dV 0))) (dV 1)) [.fz (qan rs),.fz (.int n),.pd [],.fz (.int 0)]= .ok (.nx [.fz (qan rs),.fz (.int n),.pd (qeD [] (.inr "came") (.int ((0+(rs.map qam).length) % n))),.fz (.int 0)]):=by
  show ((if 0<n then Rs.ok (T.int ((0+((rs.map qam).length:Nat)) % n)) else .no)>>=λt=>Rs.ok (T.str "came")>>=λk=>qko _ 2 (.pd []) k t)=_
  rw[if_pos hn]
  rfl
 have e3: ∀D:List (Key×T),qbP (quy (dQV 0) (dOS (dB gSub (dB gSub (dV 1) (dC (.int 1))) (dV 3))) (dON) (dOS (dV 1))) [.fz (qan rs),.fz (.int n),.pd D,.fz (.int 0)]= .ok (.rs (.ow ((qcr n rs).map qam)) [.fz (qan rs),.fz (.int n),.pd D,.fz (.int 0)]):=λD=>by
  show ((if (true:Bool)=true/\(some n:Option Int)≠some 0 then Rs.ok (RH.pickL (rs.map qam) (some (n - 1 - 0)) none (some n)) else .no)>>=λts=>Rs.ok (Out.rs (.ow ts) [.fz (qan rs),.fz (.int n),.pd D,.fz (.int 0)]))=_
  rw[if_pos ⟨rfl,λz=>by cases z; omega⟩,show n - 1 - 0=n - 1 by omega,qag,qku]
  rfl
 show (d_45 [.fz (qan rs),.fz (.int n),.pd [],.no]>>=qjJ 2)=_
 unfold d_45
 rw[qad e1 (qad e2 (e3 _)),qag]
 rfl
def qfQ {β:Type} (f:Str->β) (k:Str) (x:β):Str->β:=λj=>if j=k then x else f j
def qeH:(Str->Option Int)->List Row->List Row
 | _,[]=>[]
 | f,r::rs=>(r.1,r.2.1,(f r.2.1).getD 0+r.2.2)::qeH (qfQ f r.2.1 (some ((f r.2.1).getD 0+r.2.2))) rs
def qeB:(Str->Option Int)->List Row->List Row
 | _,[]=>[]
 | f,r::rs=>(match f r.2.1 with | some x=>[(r.1,r.2.1,r.2.2 - x)] | none=>[])++qeB (qfQ f r.2.1 (some r.2.2)) rs
def qd1:(Str->Option Int)->List Row->List Row
 | _,[]=>[]
 | f,r::rs=>(if f r.2.1=some r.2.2 then [] else [r])++qd1 (qfQ f r.2.1 (some r.2.2)) rs
def Agr (D:List (Key×T)) (f:Str->Option Int):Prop:= ∀k,qhJ D (.inr k)=(f k).map T.int
theorem Agr.nil:Agr [] (λ_=>none):=λ_=>rfl
theorem Agr.put {D:List (Key×T)} {f:Str->Option Int} (h:Agr D f) (k:Str) (x:Int):Agr (qeD D (.inr k) (.int x)) (qfQ f k (some x)):=λj=>by
 rw[qmi]
 unfold qfQ
 by_cases c:j=k
 ·subst c; rw[if_pos rfl,if_pos rfl]; rfl
 ·rw[if_neg (λz=>c (by simpa using z.symm)),if_neg c]
  exact h j
theorem Agr.get2 {D:List (Key×T)} {f:Str->Option Int} (h:Agr D f) (k:Str):qeZ (.pd D) (.str k) (.int 0)= .ok (.int ((f k).getD 0)):=by
 show Rs.ok ((qhJ D (.inr k)).getD (.int 0))=_
 rw[h k]
 cases f k<;>rfl
theorem Agr.get {D:List (Key×T)} {f:Str->Option Int} (h:Agr D f) {k:Str} {x:Int} (e:f k=some x):qi8 (.pd D) (.str k)= .ok (.int x):=by
 show (match some (qhJ D (.inr k)) with | some (some t)=>Rs.ok t | _=>.no)=_
 rw[h k,e]
 rfl
theorem Agr.in_ {D:List (Key×T)} {f:Str->Option Int} (h:Agr D f) (k:Str) (neg:Bool):inX neg (.pd D) (.str k)= .ok (.bl (if neg then !(f k).isSome else (f k).isSome)):=by
 show Rs.ok (T.bl (if neg then !(qhJ D (.inr k)).isSome else (qhJ D (.inr k)).isSome))=_
 rw[h k]
 cases f k<;>rfl
theorem qgW {ρ:Ro} {i:Nat} {D:List (Key×T)} {k:Str} {t:T} (h:D.length<=1000):qko ρ i (.pd D) (.str k) t= .ok (.nx (ρ.set i (.pd (qeD D (.inr k) t)))):=by
 unfold qko
 rw[if_pos (show qoa (.pd D)<=1000 from h)]
 rfl
abbrev qmc (i j k:Nat):T->Ro->Rs Ro:=gT 3 (gsC (gN i) (gsC (gN j) (gsC (gN k) (gsN))))
theorem app_row {ρ:Ro} {i:Nat} {acc:List Row} {x:Row} {da:Ro->Rs T} (h:ρ[i]? =some (.ow (acc.map qam))) (hx:da ρ= .ok (qam x)) (hl:acc.length<=900):qdo i da ρ= .ok (.nx (ρ.set i (.ow ((acc++[x]).map qam)))):=by
 unfold qdo qn6
 rw[h]
 simp only[qag,hx]
 unfold qdF
 rw[h]
 have:(acc.map qam).length+[qam x].length<=1000:=by rw[List.length_map,List.length_singleton]; omega
 simp only[this,if_true,List.map_append,List.map_cons,List.map_nil]
theorem qhR (x0:Sl): ∀(rs:List Row) (D:List (Key×T)) (f:Str->Option Int) (acc:List Row) (s3 s4 s5:Sl),Agr D f->D.length+rs.length<=900->acc.length+rs.length<=900->∃D' s3' s4' s5',
  qc3 (qmc 3 4 5) (qaJ (qcG 1 (dV 4) (dB qa0 (qcT (dXV 1) (dV 4) (dC (.int 0))) (dV 5))) (qdo 2 (qbd (qab (dV 3) (qab (dV 4) (qab (qci (dXV 1) (dV 4)) (qaq))))))) (rs.map qam) [x0,.pd D,.ow (acc.map qam),s3,s4,s5]= .ok (.nx [x0,.pd D',.ow ((acc++qeH f rs).map qam),s3',s4',s5'])
 | [],D,f,acc,s3,s4,s5,_,_,_=>⟨D,s3,s4,s5,by rw[show acc++qeH f []=acc by simp[qeH]]; rfl⟩
 | r::rs,D,f,acc,s3,s4,s5,h,hd,ha=>by
  rw[List.length_cons] at hd ha
  have l3:(3:Nat)<=1000:=by decide
  have h':=h.put r.2.1 ((f r.2.1).getD 0+r.2.2)
  have lp:=qfs D (.inr r.2.1) (.int ((f r.2.1).getD 0+r.2.2))
  obtain ⟨D',t3,t4,t5,ih⟩:=qhR x0 rs (qeD D (.inr r.2.1) (.int ((f r.2.1).getD 0+r.2.2))) _ (acc++[(r.1,r.2.1,(f r.2.1).getD 0+r.2.2)]) (.fz (.int r.1)) (.fz (.str r.2.1)) (.fz (.int r.2.2)) h' (by omega) (by rw[List.length_append,List.length_singleton]; omega)
  refine ⟨D',t3,t4,t5,?_⟩
  rw[List.map_cons]
  unfold qc3
  have e0:qmc 3 4 5 (qam r) [x0,.pd D,.ow (acc.map qam),s3,s4,s5]= .ok [x0,.pd D,.ow (acc.map qam),.fz (.int r.1),.fz (.str r.2.1),.fz (.int r.2.2)]:=rfl
  have e1:qcG 1 (dV 4) (dB qa0 (qcT (dXV 1) (dV 4) (dC (.int 0))) (dV 5)) [x0,.pd D,.ow (acc.map qam),.fz (.int r.1),.fz (.str r.2.1),.fz (.int r.2.2)]= .ok (.nx [x0,.pd (qeD D (.inr r.2.1) (.int ((f r.2.1).getD 0+r.2.2))),.ow (acc.map qam),.fz (.int r.1),.fz (.str r.2.1),.fz (.int r.2.2)]):=by
   show ((qeZ (.pd D) (.str r.2.1) (.int 0)>>=λy=>qa0 y (.int r.2.2))>>=λt=>qko [x0,.pd D,.ow (acc.map qam),.fz (.int r.1),.fz (.str r.2.1),.fz (.int r.2.2)] 1 (.pd D) (.str r.2.1) t)=_
   rw[h.get2,qag,qcP,qag,qgW (by omega)]
   rfl
  have e2:qdo 2 (qbd (qab (dV 3) (qab (dV 4) (qab (qci (dXV 1) (dV 4)) (qaq))))) [x0,.pd (qeD D (.inr r.2.1) (.int ((f r.2.1).getD 0+r.2.2))),.ow (acc.map qam),.fz (.int r.1),.fz (.str r.2.1),.fz (.int r.2.2)]= .ok (.nx [x0,.pd (qeD D (.inr r.2.1) (.int ((f r.2.1).getD 0+r.2.2))),.ow ((acc++[(r.1,r.2.1,(f r.2.1).getD 0+r.2.2)]).map qam),.fz (.int r.1),.fz (.str r.2.1),.fz (.int r.2.2)]):=by
   have g:=h'.get (k:=r.2.1) (x:=(f r.2.1).getD 0+r.2.2) (by unfold qfQ; rw[if_pos rfl])
   refine app_row (x:=(r.1,r.2.1,(f r.2.1).getD 0+r.2.2)) rfl ?_ (by omega)
   show (((qi8 (.pd (qeD D (.inr r.2.1) (.int ((f r.2.1).getD 0+r.2.2)))) (.str r.2.1)>>=λy=>(Rs.ok []>>=λz=>Rs.ok (y::z)))>>=λz=>Rs.ok (T.str r.2.1::z))>>=λz=>Rs.ok (T.int r.1::z))>>=(λxs=>if xs.length<=1000 then Rs.ok (T.tup xs) else .no)=_
   rw[g]
   rfl
  rw[e0,qag,qad e1 e2,qag]
  show qc3 _ _ _ _=_
  rw[ih,List.append_assoc]
  rfl
end AS
end
section
namespace AS
open PySem L2 PL SetL SR
theorem qfB (x0:Sl): ∀(rs:List Row) (D:List (Key×T)) (f:Str->Option Int) (acc:List Row) (s3 s4 s5:Sl),Agr D f->D.length+rs.length<=900->acc.length+rs.length<=900->∃D' s3' s4' s5',
  qc3 (qmc 3 4 5) (qaJ (dIf (dTB (qjk false (dV 4) (dXV 1))) (qdo 2 (qbd (qab (dV 3) (qab (dV 4) (qab (dB gSub (dV 5) (qci (dXV 1) (dV 4))) (qaq)))))) (qaA)) (qcG 1 (dV 4) (dV 5))) (rs.map qam) [x0,.pd D,.ow (acc.map qam),s3,s4,s5]= .ok (.nx [x0,.pd D',.ow ((acc++qeB f rs).map qam),s3',s4',s5'])
 | [],D,f,acc,s3,s4,s5,_,_,_=>⟨D,s3,s4,s5,by rw[show acc++qeB f []=acc by simp[qeB]]; rfl⟩
 | r::rs,D,f,acc,s3,s4,s5,h,hd,ha=>by
  rw[List.length_cons] at hd ha
  have h':=h.put r.2.1 r.2.2
  have lp:=qfs D (.inr r.2.1) (.int r.2.2)
  have e0:qmc 3 4 5 (qam r) [x0,.pd D,.ow (acc.map qam),s3,s4,s5]= .ok [x0,.pd D,.ow (acc.map qam),.fz (.int r.1),.fz (.str r.2.1),.fz (.int r.2.2)]:=rfl
  have e2: ∀a:List Row,qcG 1 (dV 4) (dV 5) [x0,.pd D,.ow (a.map qam),.fz (.int r.1),.fz (.str r.2.1),.fz (.int r.2.2)]= .ok (.nx [x0,.pd (qeD D (.inr r.2.1) (.int r.2.2)),.ow (a.map qam),.fz (.int r.1),.fz (.str r.2.1),.fz (.int r.2.2)]):=λa=>by
   show qko [x0,.pd D,.ow (a.map qam),.fz (.int r.1),.fz (.str r.2.1),.fz (.int r.2.2)] 1 (.pd D) (.str r.2.1) (.int r.2.2)=_
   rw[qgW (by omega)]
   rfl
  have ti:dTB (qjk false (dV 4) (dXV 1)) [x0,.pd D,.ow (acc.map qam),.fz (.int r.1),.fz (.str r.2.1),.fz (.int r.2.2)]= .ok (f r.2.1).isSome:=by
   show (inX false (.pd D) (.str r.2.1)>>=λt=>match t with | .bl b=>Rs.ok b | _=>.no)=_
   rw[h.in_]
   rfl
  rw[List.map_cons]
  unfold qc3
  rw[e0,qag]
  cases c:f r.2.1 with
  | none=>
   rw[c] at ti
   have e1:dIf (dTB (qjk false (dV 4) (dXV 1))) (qdo 2 (qbd (qab (dV 3) (qab (dV 4) (qab (dB gSub (dV 5) (qci (dXV 1) (dV 4))) (qaq)))))) (qaA) [x0,.pd D,.ow (acc.map qam),.fz (.int r.1),.fz (.str r.2.1),.fz (.int r.2.2)]= .ok (.nx [x0,.pd D,.ow (acc.map qam),.fz (.int r.1),.fz (.str r.2.1),.fz (.int r.2.2)]):=by
    unfold dIf
    rw[ti]
    rfl
   obtain ⟨D',t3,t4,t5,ih⟩:=qfB x0 rs _ _ acc (.fz (.int r.1)) (.fz (.str r.2.1)) (.fz (.int r.2.2)) h' (by omega) (by omega)
   refine ⟨D',t3,t4,t5,?_⟩
   rw[qad e1 (e2 acc),qag]
   show qc3 _ _ _ _=_
   rw[ih]
   conv=>rhs; unfold qeB
   rw[c]
   rfl
  | some x=>
   rw[c] at ti
   have g:=h.get c
   have e1:dIf (dTB (qjk false (dV 4) (dXV 1))) (qdo 2 (qbd (qab (dV 3) (qab (dV 4) (qab (dB gSub (dV 5) (qci (dXV 1) (dV 4))) (qaq)))))) (qaA) [x0,.pd D,.ow (acc.map qam),.fz (.int r.1),.fz (.str r.2.1),.fz (.int r.2.2)]= .ok (.nx [x0,.pd D,.ow ((acc++[(r.1,r.2.1,r.2.2 - x)]).map qam),.fz (.int r.1),.fz (.str r.2.1),.fz (.int r.2.2)]):=by
    unfold dIf
    rw[ti]
    simp only[qag,Option.isSome_some,if_true]
    refine app_row (x:=(r.1,r.2.1,r.2.2 - x)) rfl ?_ (by omega)
    show ((((qi8 (.pd D) (.str r.2.1)>>=λy=>gSub (.int r.2.2) y)>>=λy=>(Rs.ok []>>=λz=>Rs.ok (y::z)))>>=λz=>Rs.ok (T.str r.2.1::z))>>=λz=>Rs.ok (T.int r.1::z))>>=(λxs=>if xs.length<=1000 then Rs.ok (T.tup xs) else .no)=_
    rw[g]
    rfl
   obtain ⟨D',t3,t4,t5,ih⟩:=qfB x0 rs _ _ (acc++[(r.1,r.2.1,r.2.2 - x)]) (.fz (.int r.1)) (.fz (.str r.2.1)) (.fz (.int r.2.2)) h' (by omega) (by rw[List.length_append,List.length_singleton]; omega)
   refine ⟨D',t3,t4,t5,?_⟩
   rw[qad e1 (e2 _),qag]
   show qc3 _ _ _ _=_
   rw[ih,List.append_assoc]
   conv=>rhs; unfold qeB
   rw[c]
theorem qfe (x0:Sl): ∀(rs:List Row) (D:List (Key×T)) (f:Str->Option Int) (acc:List Row) (s3 s4 s5:Sl),Agr D f->D.length+rs.length<=900->acc.length+rs.length<=900->∃D' s3' s4' s5',
  qc3 (qmc 3 4 5) (qaJ (dIf (dOr (dTB (qjk true (dV 4) (dXV 1))) (dTB (dB gNe (qci (dXV 1) (dV 4)) (dV 5)))) (qdo 2 (qbd (qab (dV 3) (qab (dV 4) (qab (dV 5) (qaq)))))) (qaA)) (qcG 1 (dV 4) (dV 5))) (rs.map qam) [x0,.pd D,.ow (acc.map qam),s3,s4,s5]= .ok (.nx [x0,.pd D',.ow ((acc++qd1 f rs).map qam),s3',s4',s5'])
 | [],D,f,acc,s3,s4,s5,_,_,_=>⟨D,s3,s4,s5,by rw[show acc++qd1 f []=acc by simp[qd1]]; rfl⟩
 | r::rs,D,f,acc,s3,s4,s5,h,hd,ha=>by
  rw[List.length_cons] at hd ha
  have h':=h.put r.2.1 r.2.2
  have lp:=qfs D (.inr r.2.1) (.int r.2.2)
  have e0:qmc 3 4 5 (qam r) [x0,.pd D,.ow (acc.map qam),s3,s4,s5]= .ok [x0,.pd D,.ow (acc.map qam),.fz (.int r.1),.fz (.str r.2.1),.fz (.int r.2.2)]:=rfl
  have e2: ∀a:List Row,qcG 1 (dV 4) (dV 5) [x0,.pd D,.ow (a.map qam),.fz (.int r.1),.fz (.str r.2.1),.fz (.int r.2.2)]= .ok (.nx [x0,.pd (qeD D (.inr r.2.1) (.int r.2.2)),.ow (a.map qam),.fz (.int r.1),.fz (.str r.2.1),.fz (.int r.2.2)]):=λa=>by
   show qko [x0,.pd D,.ow (a.map qam),.fz (.int r.1),.fz (.str r.2.1),.fz (.int r.2.2)] 1 (.pd D) (.str r.2.1) (.int r.2.2)=_
   rw[qgW (by omega)]
   rfl
  have ti:dOr (dTB (qjk true (dV 4) (dXV 1))) (dTB (dB gNe (qci (dXV 1) (dV 4)) (dV 5))) [x0,.pd D,.ow (acc.map qam),.fz (.int r.1),.fz (.str r.2.1),.fz (.int r.2.2)]= .ok (decide (f r.2.1≠some r.2.2)):=by
   show ((inX true (.pd D) (.str r.2.1)>>=λt=>match t with | .bl b=>Rs.ok b | _=>.no)>>=λc=>if c=true then Rs.ok true else ((qi8 (.pd D) (.str r.2.1)>>=λy=>gNe y (.int r.2.2))>>=λt=>match t with | .bl b=>Rs.ok b | _=>.no))=_
   rw[h.in_]
   cases c:f r.2.1 with
   | none=>rfl
   | some x=>
    rw[h.get c]
    show (Rs.ok (!(x==r.2.2)):Rs Bool)=_
    refine congrArg Rs.ok ?_
    by_cases d:x=r.2.2
    ·subst d; simp
    ·simp[d]
  have ap:qdo 2 (qbd (qab (dV 3) (qab (dV 4) (qab (dV 5) (qaq))))) [x0,.pd D,.ow (acc.map qam),.fz (.int r.1),.fz (.str r.2.1),.fz (.int r.2.2)]= .ok (.nx [x0,.pd D,.ow ((acc++[r]).map qam),.fz (.int r.1),.fz (.str r.2.1),.fz (.int r.2.2)]):=app_row (x:=r) rfl rfl (by omega)
  rw[List.map_cons]
  unfold qc3
  rw[e0,qag]
  by_cases c:f r.2.1=some r.2.2
  ·rw[decide_eq_false (by simpa using c)] at ti
   have e1:dIf (dOr (dTB (qjk true (dV 4) (dXV 1))) (dTB (dB gNe (qci (dXV 1) (dV 4)) (dV 5)))) (qdo 2 (qbd (qab (dV 3) (qab (dV 4) (qab (dV 5) (qaq)))))) (qaA) [x0,.pd D,.ow (acc.map qam),.fz (.int r.1),.fz (.str r.2.1),.fz (.int r.2.2)]= .ok (.nx [x0,.pd D,.ow (acc.map qam),.fz (.int r.1),.fz (.str r.2.1),.fz (.int r.2.2)]):=by
    unfold dIf
    rw[ti]
    rfl
   obtain ⟨D',t3,t4,t5,ih⟩:=qfe x0 rs _ _ acc (.fz (.int r.1)) (.fz (.str r.2.1)) (.fz (.int r.2.2)) h' (by omega) (by omega)
   refine ⟨D',t3,t4,t5,?_⟩
   rw[qad e1 (e2 acc),qag]
   show qc3 _ _ _ _=_
   rw[ih]
   conv=>rhs; unfold qd1
   rw[if_pos c]
   rfl
  ·rw[decide_eq_true (by simpa using c)] at ti
   have e1:dIf (dOr (dTB (qjk true (dV 4) (dXV 1))) (dTB (dB gNe (qci (dXV 1) (dV 4)) (dV 5)))) (qdo 2 (qbd (qab (dV 3) (qab (dV 4) (qab (dV 5) (qaq)))))) (qaA) [x0,.pd D,.ow (acc.map qam),.fz (.int r.1),.fz (.str r.2.1),.fz (.int r.2.2)]= .ok (.nx [x0,.pd D,.ow ((acc++[r]).map qam),.fz (.int r.1),.fz (.str r.2.1),.fz (.int r.2.2)]):=by
    unfold dIf
    rw[ti]
    exact ap
   obtain ⟨D',t3,t4,t5,ih⟩:=qfe x0 rs _ _ (acc++[r]) (.fz (.int r.1)) (.fz (.str r.2.1)) (.fz (.int r.2.2)) h' (by omega) (by rw[List.length_append,List.length_singleton]; omega)
   refine ⟨D',t3,t4,t5,?_⟩
   rw[qad e1 (e2 _),qag]
   show qc3 _ _ _ _=_
   rw[ih,List.append_assoc]
   conv=>rhs; unfold qd1
   rw[if_neg c]
abbrev no:Str->Option Int:=λ_=>none
theorem qiY {rs:List Row} (h:rs.length<=900): ∃D:List (Key×T),q_29 [qan rs] (.od [])= .ok (.ow ((qeH no rs).map qam),.od D):=by
 obtain ⟨D',t3,t4,t5,e⟩:=qhR (.fz (qan rs)) rs [] no [] .no .no .no .nil (by simpa using h) (by simpa using h)
 refine ⟨D',?_⟩
 have e':d_29 [.fz (qan rs),.pd [],.no,.no,.no,.no]= .ok (.rs (.ow ((qeH no rs).map qam)) [.fz (qan rs),.pd D',.no,t3,t4,t5]):=by
  unfold d_29
  refine qad (ρ':=[.fz (qan rs),.pd [],.ow [],.no,.no,.no]) rfl ?_
  refine qad (ρ':=[.fz (qan rs),.pd D',.ow ((qeH no rs).map qam),t3,t4,t5]) ?_ rfl
  exact e
 show (d_29 [.fz (qan rs),.pd [],.no,.no,.no,.no]>>=qjJ 1)=_
 rw[e']
 rfl
theorem qkm {rs:List Row} (h:rs.length<=900): ∃D:List (Key×T),q_36 [qan rs] (.od [])= .ok (.ow ((qeB no rs).map qam),.od D):=by
 obtain ⟨D',t3,t4,t5,e⟩:=qfB (.fz (qan rs)) rs [] no [] .no .no .no .nil (by simpa using h) (by simpa using h)
 refine ⟨D',?_⟩
 have e':d_36 [.fz (qan rs),.pd [],.no,.no,.no,.no]= .ok (.rs (.ow ((qeB no rs).map qam)) [.fz (qan rs),.pd D',.no,t3,t4,t5]):=by
  unfold d_36
  refine qad (ρ':=[.fz (qan rs),.pd [],.ow [],.no,.no,.no]) rfl ?_
  refine qad (ρ':=[.fz (qan rs),.pd D',.ow ((qeB no rs).map qam),t3,t4,t5]) ?_ rfl
  exact e
 show (d_36 [.fz (qan rs),.pd [],.no,.no,.no,.no]>>=qjJ 1)=_
 rw[e']
 rfl
theorem qkl {rs:List Row} (h:rs.length<=900): ∃D:List (Key×T),q_37 [qan rs] (.od [])= .ok (.ow ((qd1 no rs).map qam),.od D):=by
 obtain ⟨D',t3,t4,t5,e⟩:=qfe (.fz (qan rs)) rs [] no [] .no .no .no .nil (by simpa using h) (by simpa using h)
 refine ⟨D',?_⟩
 have e':d_37 [.fz (qan rs),.pd [],.no,.no,.no,.no]= .ok (.rs (.ow ((qd1 no rs).map qam)) [.fz (qan rs),.pd D',.no,t3,t4,t5]):=by
  unfold d_37
  refine qad (ρ':=[.fz (qan rs),.pd [],.ow [],.no,.no,.no]) rfl ?_
  refine qad (ρ':=[.fz (qan rs),.pd D',.ow ((qd1 no rs).map qam),t3,t4,t5]) ?_ rfl
  exact e
 show (d_37 [.fz (qan rs),.pd [],.no,.no,.no,.no]>>=qjJ 1)=_
 rw[e']
 rfl
end AS
end
section
namespace AS
open PySem L2 PL SetL
open SR (Ris srt qdr qb4 qcf qb3 qbm qbE qbY qbG qdP qcq)
abbrev IS:=DH.IS
def qeM (x y:IS):Bool:=qdL (qg9 x) (qg9 y)
theorem qkZ {x y:IS} (h:qg9 x=qg9 y):x=y:=by
 have h':[Ky.i x.1,Ky.s x.2]=[Ky.i y.1,Ky.s y.2]:=h
 simp at h'
 exact Prod.ext h'.1 h'.2
theorem qkz:SR.Ord qeM where
 irr:=λa=>qmZ.irr _
 tr:=λa b c h1 h2=>qmZ.tr _ _ _ h1 h2
 tot:=λa b h1 h2=>qkZ (qmZ.tot _ _ h1 h2)
theorem qie {x y:IS} (h:x.1<y.1):qeM x y=true:=by
 show (if Ky.i x.1=Ky.i y.1 then _ else decide (x.1<y.1))=true
 rw[if_neg (λz=>by injection z with z; omega),decide_eq_true h]
theorem qmq (ks:List IS):qiQ (ks.map isT)=(qbE qeM ks).map isT:=by
 unfold qiQ qjS qbE
 rw[qdr (k:=λt=>qcf qdL ((ks.map isT).map qih) (qih t)) (f:=isT) (k':=qcf qeM ks)]
 intro b
 unfold qcf
 rw[List.map_map,List.countP_map]
 rfl
theorem qbc {α:Type} (lt:α->α->Bool) (as:List α):List.Perm (qbE lt as) as:=qb4 _
def sds (ks:List IS):List IS:=qbE qeM (dd ks)
theorem mem_sds {ks:List IS} {p:IS}:p∈sds ks↔p∈ks:=by
 unfold sds
 rw[(qbc qeM _).mem_iff,qdG]
theorem sds_nodup (ks:List IS):(sds ks).Nodup:=((qbc qeM _).nodup_iff).mpr (qbF ks)
theorem sds_pw (ks:List IS):(sds ks).Pairwise λa b=>qeM b a=false:=by
 unfold sds qbE
 refine List.Pairwise.imp_of_mem (λ{a b} ha hb h=> ?_) (qb3 (k:=qcf qeM (dd ks)) (dd ks))
 have h1:=qbG qkz ((qbm _).mp hb) ((qbm _).mp ha)
 have h:qcf qeM (dd ks) a<=qcf qeM (dd ks) b:=h
 rw[<-h1]
 exact decide_eq_false (by omega)
theorem sorted_uniq: ∀{a b:List IS},a.Nodup->b.Nodup->(a.Pairwise λx y=>qeM y x=false)->(b.Pairwise λx y=>qeM y x=false)->(∀p,p∈a↔p∈b)->a=b
 | [],[],_,_,_,_,_=>rfl
 | [],y::b,_,_,_,_,h=>by have:=(h y).mpr List.mem_cons_self; cases this
 | x::a,[],_,_,_,_,h=>by have:=(h x).mp List.mem_cons_self; cases this
 | x::a,y::b,na,nb,pa,pb,h=>by
  have na':=List.nodup_cons.mp na
  have nb':=List.nodup_cons.mp nb
  have pa':=List.pairwise_cons.mp pa
  have pb':=List.pairwise_cons.mp pb
  have e:x=y:=by
   rcases List.mem_cons.mp ((h x).mp List.mem_cons_self) with z | z
   ·exact z
   ·rcases List.mem_cons.mp ((h y).mpr List.mem_cons_self) with w | w
    ·exact w.symm
    ·exact qkz.tot _ _ (pb'.1 x z) (pa'.1 y w)
  subst e
  refine congrArg (x:: ·) (sorted_uniq na'.2 nb'.2 pa'.2 pb'.2 λp=> ?_)
  constructor
  ·intro hp
   rcases List.mem_cons.mp ((h p).mp (List.mem_cons_of_mem _ hp)) with z | z
   ·subst z; exact absurd hp na'.1
   ·exact z
  ·intro hp
   rcases List.mem_cons.mp ((h p).mpr (List.mem_cons_of_mem _ hp)) with z | z
   ·subst z; exact absurd hp nb'.1
   ·exact z
theorem qiT {a b:List IS} (h: ∀x∈a,∀y∈b,x.1<y.1):sds (a++b)=sds a++sds b:=by
 refine sorted_uniq (sds_nodup _) ?_ (sds_pw _) ?_ λp=> ?_
 ·rw[List.nodup_append]
  refine ⟨sds_nodup a,sds_nodup b,λx hx y hy e=> ?_⟩
  have:=h x (mem_sds.mp hx) y (mem_sds.mp hy)
  rw[e] at this; omega
 ·rw[List.pairwise_append]
  refine ⟨sds_pw a,sds_pw b,λx hx y hy=> ?_⟩
  have hxy:=qie (h x (mem_sds.mp hx) y (mem_sds.mp hy))
  cases c:qeM y x with
  | false=>rfl
  | true=>have:=qkz.tr _ _ _ hxy c; rw[qkz.irr] at this; cases this
 ·rw[mem_sds,List.mem_append,List.mem_append,mem_sds,mem_sds]
def plc (s:Int) (r:Row):IS:=(r.1 / s,r.2.1)
def qbz (s:Int) (rs:List Row) (p:IS):Int:=((rs.filter λr=>decide (plc s r=p)).map λr=>r.2.2).sum
theorem qfM (s:Int) (p:IS):qbz s [] p=0:=rfl
theorem qeV (s:Int) (r:Row) (rs:List Row) (p:IS):qbz s (r::rs) p=(if plc s r=p then r.2.2 else 0)+qbz s rs p:=by
 unfold qbz
 rw[List.filter_cons]
 by_cases c:plc s r=p
 ·rw[decide_eq_true c,if_pos rfl,if_pos c,List.map_cons,List.sum_cons]
 ·rw[decide_eq_false c,if_neg c]
  simp
theorem qbR (s:Int) (a b:List Row) (p:IS):qbz s (a++b) p=qbz s a p+qbz s b p:=by
 unfold qbz
 rw[List.filter_append,List.map_append,List.sum_append]
theorem qdq {s:Int} {rs:List Row} {p:IS} (h: ∀r∈rs,plc s r≠p):qbz s rs p=0:=by
 unfold qbz
 rw[List.filter_eq_nil_iff.mpr λr hr z=>h r hr (of_decide_eq_true z)]
 rfl
def qbU (s:Int) (rs:List Row):List Row:=(sds (rs.map (plc s))).map λp=>((p.1+1)*s - 1,p.2,qbz s rs p)
theorem qgM {s:Int} {a b:List Row} (h: ∀x∈a,∀y∈b,(plc s x).1<(plc s y).1):qbU s (a++b)=qbU s a++qbU s b:=by
 unfold qbU
 rw[List.map_append,qiT (λx hx y hy=>by
  obtain ⟨r,hr,rfl⟩:=List.mem_map.mp hx
  obtain ⟨q,hq,rfl⟩:=List.mem_map.mp hy
  exact h r hr q hq),List.map_append]
 congr 1
 ·refine List.map_congr_left λp hp=> ?_
  obtain ⟨r,hr,e⟩:=List.mem_map.mp (mem_sds.mp hp)
  rw[qbR,qdq (rs:=b) (λq hq z=>by have:=h r hr q hq; rw[z,<-e] at this; omega),Int.add_zero]
 ·refine List.map_congr_left λp hp=> ?_
  obtain ⟨r,hr,e⟩:=List.mem_map.mp (mem_sds.mp hp)
  rw[qbR,qdq (rs:=a) (λq hq z=>by have:=h q hq r hr; rw[z,<-e] at this; omega),Int.zero_add]
end AS
end
section
namespace AS
open PySem L2 PL SetL
open SR (Ris srt qdr qb4 qcf qb3 qbm qbE qbY qbG qdP qcq)
def kIS (p:IS):List Key:=[.inl p.1,.inr p.2]
theorem qpA {p q:IS} (h:kIS p=kIS q):p=q:=by
 have h':([.inl p.1,.inr p.2]:List Key)=[.inl q.1,.inr q.2]:=h
 simp at h'
 exact Prod.ext h'.1 h'.2
structure Held (s:Int) (D:List (List Key×T)) (B:List Row):Prop where
 nd:(D.map (·.1)).Nodup
 ks: ∀k,k∈D.map (·.1)↔∃r∈B,k=kIS (plc s r)
 vl: ∀p,qeF D (kIS p)=if p∈B.map (plc s) then some (.int (qbz s B p)) else none
theorem Held.nil (s:Int):Held s [] []:=⟨List.nodup_nil,λk=>by simp,λp=>rfl⟩
theorem qf5 (D:List (List Key×T)) (k:List Key) (t:T):(k∈D.map (·.1)/\(qiZ D k t).map (·.1)=D.map (·.1))\/(k∉D.map (·.1)/\(qiZ D k t).map (·.1)=D.map (·.1)++[k]):=by
 unfold qiZ
 by_cases c:(D.any λkv=>decide (kv.1=k))=true
 ·have hm:k∈D.map (·.1):=by
   obtain ⟨p,hp,e⟩:=List.any_eq_true.mp c
   exact List.mem_map.mpr ⟨p,hp,of_decide_eq_true e⟩
  refine .inl ⟨hm,?_⟩
  rw[if_pos c,List.map_map]
  refine List.map_congr_left λp _=> ?_
  show (if p.1=k then (p.1,t) else p).1=p.1
  split<;>rfl
 ·have hm:k∉D.map (·.1):=λz=>by
   obtain ⟨p,hp,e⟩:=List.mem_map.mp z
   exact c (List.any_eq_true.mpr ⟨p,hp,decide_eq_true e⟩)
  refine .inr ⟨hm,?_⟩
  rw[if_neg c,List.map_append]
  rfl
theorem Held.put {s:Int} {D:List (List Key×T)} {B:List Row} (h:Held s D B) (r:Row):Held s (qiZ D (kIS (plc s r)) (.int (((qeF D (kIS (plc s r))).map qbS).getD 0+r.2.2))) (B++[r]):=by
 have hv:((qeF D (kIS (plc s r))).map qbS).getD 0=qbz s B (plc s r):=by
  rw[h.vl]
  split
  ·rfl
  ·rename_i d
   rw[qdq λq hq z=>d (List.mem_map.mpr ⟨q,hq,z⟩)]
   rfl
 rw[hv]
 refine ⟨?_,λk=> ?_,λp=> ?_⟩
 ·rcases qf5 D (kIS (plc s r)) (.int (qbz s B (plc s r)+r.2.2)) with ⟨c,e⟩ | ⟨c,e⟩
  ·rw[e]; exact h.nd
  ·rw[e,List.nodup_append]
   refine ⟨h.nd,by simp,λa ha b hb e=> ?_⟩
   rw[List.mem_singleton.mp hb] at e
   rw[e] at ha
   exact c ha
 ·have hks:(∃q∈B++[r],k=kIS (plc s q))↔(k∈D.map (·.1)\/k=kIS (plc s r)):=by
   rw[h.ks]
   constructor
   ·rintro ⟨q,hq,e⟩
    rcases List.mem_append.mp hq with hq | hq
    ·exact .inl ⟨q,hq,e⟩
    ·rw[List.mem_singleton.mp hq] at e; exact .inr e
   ·rintro (⟨q,hq,e⟩ | e)
    ·exact ⟨q,List.mem_append_left _ hq,e⟩
    ·exact ⟨r,by simp,e⟩
  rw[hks]
  rcases qf5 D (kIS (plc s r)) (.int (qbz s B (plc s r)+r.2.2)) with ⟨c,e⟩ | ⟨c,e⟩
  ·rw[e]
   exact ⟨.inl,λz=>z.elim id λz=>by rw[z]; exact c⟩
  ·rw[e,List.mem_append,List.mem_singleton]
 ·rw[qmh]
  by_cases c:plc s r=p
  ·subst c
   rw[if_pos rfl,if_pos (List.mem_map.mpr ⟨r,by simp,rfl⟩),qbR,qeV,if_pos rfl,qfM,Int.add_zero]
  ·rw[if_neg (λz=>c (qpA z))]
   have e:(p∈(B++[r]).map (plc s))↔p∈B.map (plc s):=by
    rw[List.map_append,List.mem_append]
    constructor
    ·rintro (z | z)
     ·exact z
     ·exact absurd (List.mem_singleton.mp z).symm c
    ·exact .inl
   rw[h.vl]
   by_cases d:p∈B.map (plc s)
   ·rw[if_pos d,if_pos (e.mpr d),qbR,qeV,if_neg c,qfM,Int.add_zero,Int.add_zero]
   ·rw[if_neg d,if_neg (λz=>d (e.mp z))]
theorem qla {s:Int} {D:List (List Key×T)} {B:List Row} (h:Held s D B):(D.all λkv=>qnc kv.1)=true:=by
 rw[List.all_eq_true]
 intro kv hkv
 obtain ⟨r,_,e⟩:=(h.ks kv.1).mp (List.mem_map.mpr ⟨kv,hkv,rfl⟩)
 rw[e]; rfl
theorem qco {s:Int} {D:List (List Key×T)} {B:List Row} (h:Held s D B):(∀p,p∈(D.map λkv=>qch kv.1)↔p∈B.map (plc s))/\(D.map λkv=>qch kv.1).Nodup:=by
 have e: ∀kv∈D,∃r∈B,kv.1=kIS (plc s r):=λkv hkv=>(h.ks kv.1).mp (List.mem_map.mpr ⟨kv,hkv,rfl⟩)
 constructor
 ·intro p
  constructor
  ·intro hp
   obtain ⟨kv,hkv,rfl⟩:=List.mem_map.mp hp
   obtain ⟨r,hr,e⟩:=e kv hkv
   rw[e]
   exact List.mem_map.mpr ⟨r,hr,rfl⟩
  ·intro hp
   obtain ⟨r,hr,rfl⟩:=List.mem_map.mp hp
   obtain ⟨kv,hkv,e⟩:=List.mem_map.mp ((h.ks (kIS (plc s r))).mpr ⟨r,hr,rfl⟩)
   exact List.mem_map.mpr ⟨kv,hkv,by rw[e]; rfl⟩
 ·have nd:=h.nd
  unfold List.Nodup at nd⊢
  rw[List.pairwise_map] at nd⊢
  refine List.Pairwise.imp_of_mem (λ{a b} ha hb hab z=>hab ?_) nd
  obtain ⟨r,_,ea⟩:=e a ha
  obtain ⟨q,_,eb⟩:=e b hb
  rw[ea,eb] at z⊢
  have z:plc s r=plc s q:=z
  rw[z]
theorem qim {s:Int} {D:List (List Key×T)} {B:List Row} (h:Held s D B):D.length<=B.length:=by
 have h2:=(qco h).2
 have:(D.map λkv=>qch kv.1).length<=(B.map (plc s)).length:=by
  have p:List.Perm (D.map λkv=>qch kv.1) (dd (B.map (plc s))):=(List.perm_ext_iff_of_nodup h2 (qbF _)).mpr λp=>by rw[qdG]; exact (qco h).1 p
  rw[p.length_eq]
  exact qlE _
 simpa using this
end AS
end
section
namespace AS
open PySem L2 PL SetL
open SR (Ris srt qdr qb4 qcf qb3 qbm qbE qbY qbG qdP qcq)
theorem qjR {s:Int} {D:List (List Key×T)} {B:List Row} (h:Held s D B):qbE qeM (D.map λkv=>qch kv.1)=sds (B.map (plc s)):=
 qbY qkz ((List.perm_ext_iff_of_nodup (qco h).2 (qbF _)).mpr λp=>by rw[qdG]; exact (qco h).1 p)
theorem qoQ (ks:List IS):(sds ks).length<=ks.length:=by
 unfold sds
 rw[(qbc qeM _).length_eq]
 exact qlE _
theorem winC_len (s:Int) (B:List Row):(qbU s B).length<=B.length:=by
 unfold qbU
 rw[List.length_map]
 have:=qoQ (B.map (plc s))
 rwa [List.length_map] at this
theorem qmp {s:Int} {D:List (List Key×T)} {B:List Row} (h:Held s D B) (hl:D.length<64):qgQ (.ou D)= .ok ((sds (B.map (plc s))).map isT):=by
 show (if D.length<64/\(D.all λkv=>qnc kv.1)=true then Rs.ok (qiQ ((D.map λkv=>qch kv.1).map isT)) else .no)=_
 rw[if_pos ⟨hl,qla h⟩,qmq,qjR h]
theorem qdm {s:Int} {D:List (List Key×T)} {B:List Row} (h:Held s D B) (hl:D.length<64) (hs:0<s/\s<=1000):t_14 [.int s,.dtu D]= .ok (.lst ((qbU s B).map qam)):=by
 have c1:qaE 1 [0,1] (dI (dFz (qiE (dXV 1)))) (gN 0) (qcx) (qbd (qab (dB gSub (dB qdM (dB qa0 (dB gIx (dV 0) (dC (.int 0))) (dC (.int 1))) (dV 1)) (dC (.int 1))) (qab (dB gIx (dV 0) (dC (.int 1))) (qab (qci (dXV 2) (dV 0)) (qaq))))) [.fz (.int s),.fz (.dtu D)]= .ok (((sds (B.map (plc s))).filter λ_=>true).map λp=>qam ((p.1+1)*s - 1,p.2,qbz s B p)):=by
  refine qbj (f:=isT) ?_ λp hp=>⟨rfl,λ_=> ?_⟩
  ·show ((qgQ (.ou D)>>=λxs=>Rs.ok (T.lst xs))>>=qc2)=_
   rw[qmp h hl]
   rfl
  ·have g:qci (dXV 2) (dV 0) [.fz (isT p),.fz (.int s),.fz (.dtu D)]= .ok (.int (qbz s B p)):=by
    show (match some (qeF D (kIS p)) with | some (some t)=>Rs.ok t | _=>.no)=_
    rw[h.vl,if_pos (mem_sds.mp hp)]
   have m:dB qdM (dB qa0 (dB gIx (dV 0) (dC (.int 0))) (dC (.int 1))) (dV 1) [.fz (isT p),.fz (.int s),.fz (.dtu D)]= .ok (.int ((p.1+1)*s)):=by
    show (if (-1000000<=p.1+1/\p.1+1<=1000000)\/(-1000000<=s/\s<=1000000) then Rs.ok (T.int ((p.1+1)*s)) else .no)=_
    rw[if_pos (.inr ⟨by omega,by omega⟩)]
   show (((dB qdM (dB qa0 (dB gIx (dV 0) (dC (.int 0))) (dC (.int 1))) (dV 1) [.fz (isT p),.fz (.int s),.fz (.dtu D)]>>=λx=>Rs.ok (T.int 1)>>=λy=>gSub x y)>>=λa=>(Rs.ok (T.str p.2)>>=λb=>(qci (dXV 2) (dV 0) [.fz (isT p),.fz (.int s),.fz (.dtu D)]>>=λc=>Rs.ok []>>=λz=>Rs.ok (c::z))>>=λz=>Rs.ok (b::z))>>=λz=>Rs.ok (a::z))>>=λxs=>if xs.length<=1000 then Rs.ok (T.tup xs) else .no)=_
   rw[m,g]
   rfl
 rw[qbu] at c1
 have e:((sds (B.map (plc s))).map λp=>qam ((p.1+1)*s - 1,p.2,qbz s B p))=(qbU s B).map qam:=by unfold qbU; rw[List.map_map]; rfl
 rw[e] at c1
 show (((qaE 1 [0,1] (dI (dFz (qiE (dXV 1)))) (gN 0) (qcx) (qbd (qab (dB gSub (dB qdM (dB qa0 (dB gIx (dV 0) (dC (.int 0))) (dC (.int 1))) (dV 1)) (dC (.int 1))) (qab (dB gIx (dV 0) (dC (.int 1))) (qab (qci (dXV 2) (dV 0)) (qaq))))) [.fz (.int s),.fz (.dtu D)]>>=λxs=>Rs.ok (T.lst xs))>>=λt=>Rs.ok (Out.rt t))>>=outT)=_
 rw[c1]
 rfl
theorem qeY (rs:List Row):qbH (.lst (rs.map qam))=true:=by
 unfold qbH
 have: ∀rs:List Row,qcX (rs.map qam)=true:=by
  intro rs
  induction rs with
  | nil=>rfl
  | cons r rs ih=>rw[List.map_cons]; unfold qcX; rw[ih]; rfl
 exact this rs
theorem qnl {ρ:Ro} {i:Nat} {acc xs:List Row} {dq:Ro->Rs (Bool×List T)} (h:ρ[i]? =some (.ow (acc.map qam))) (hx:dq ρ= .ok (true,xs.map qam)) (hl:acc.length+xs.length<=1000):qqp i dq ρ= .ok (.nx (ρ.set i (.ow ((acc++xs).map qam)))):=by
 unfold qqp qn6
 rw[h]
 simp only[qag,hx,if_true]
 unfold qdF
 rw[h]
 have:(acc.map qam).length+(xs.map qam).length<=1000:=by rw[List.length_map,List.length_map]; exact hl
 simp only[this,if_true,List.map_append]
theorem qpt {D:List (List Key×T)} {W:Int} (h0:D≠[]) (hi:(D.all λkv=>qnc kv.1)=true) (hW: ∀p∈D.map (λkv=>qch kv.1),p.1=W): ∃k,qpu (.pu D)= .ok (.tup [.int W,.str k]):=by
 have hn:(D.map λkv=>qch kv.1)≠[]:=by simpa using h0
 have hlt:DH.bestIS (D.map λkv=>qch kv.1)<(D.map λkv=>qch kv.1).length:=by
  unfold DH.bestIS
  have:=DH.argBest_le (λi j=>DH.gtIS ((D.map λkv=>qch kv.1).getD i (0, "")) ((D.map λkv=>qch kv.1).getD j (0, ""))) ((D.map λkv=>qch kv.1).length - 1)
  have hp:=List.length_pos_iff.mpr hn
  omega
 have hm:(D.map λkv=>qch kv.1).getD (DH.bestIS (D.map λkv=>qch kv.1)) (0, "")∈D.map λkv=>qch kv.1:=by
  rw[List.getD_eq_getElem?_getD,List.getElem?_eq_getElem hlt]
  exact List.getElem_mem hlt
 refine ⟨((D.map λkv=>qch kv.1).getD (DH.bestIS (D.map λkv=>qch kv.1)) (0, "")).2,?_⟩
 show (if D≠[]/\(D.all λkv=>qnc kv.1)=true then Rs.ok (isT ((D.map λkv=>qch kv.1).getD (DH.bestIS (D.map λkv=>qch kv.1)) (0, ""))) else .no)=_
 rw[if_pos ⟨h0,hi⟩]
 show Rs.ok (T.tup [.int ((D.map λkv=>qch kv.1).getD (DH.bestIS (D.map λkv=>qch kv.1)) (0, "")).1,_])=_
 rw[hW _ hm]
theorem qo0 {ρ:Ro} {i:Nat} {D:List (List Key×T)} {p:IS} {t:T} (h:D.length<=1000):qko ρ i (.pu D) (isT p) t= .ok (.nx (ρ.set i (.pu (qiZ D (kIS p) t)))):=by
 unfold qko
 rw[if_pos (show qoa (.pu D)<=1000 from h)]
 rfl
theorem Held.get2 {s:Int} {D:List (List Key×T)} {B:List Row} (h:Held s D B) (p:IS):qeZ (.pu D) (isT p) (.int 0)= .ok (.int (((qeF D (kIS p)).map qbS).getD 0)):=by
 show Rs.ok ((qeF D (kIS p)).getD (.int 0))=_
 rw[h.vl]
 split<;>rfl
abbrev qnS:Ro->Rs Bool:=qe6 (dTB (dB gGt (qp1 (dXV 2)) (dC (.int 0)))) (dTB (dB gLt (dB gIx (qp0 (dXV 2)) (dC (.int 0))) (dB gIx (dV 7) (dC (.int 0)))))
abbrev qot:Ro->Rs Out:=qaJ (qqp 3 (dQ (qe5 2 t_14 (qab (dV 1) (qaq))))) (qp2 2)
abbrev qu0:Ro->Rs Out:=qcG 2 (dV 7) (dB qa0 (qcT (dXV 2) (dV 7) (dC (.int 0))) (dV 6))
abbrev qr1:Ro->Rs Out:=qaJ (qbr 7 (qbd (qab (dB qfH (dV 4) (dV 1)) (qab (dV 5) (qaq))))) (qaJ (dIf qnS qot (qaA)) qu0)
section
variable {x0:Sl} {s:Int} {D:List (List Key×T)} {B acc:List Row} {r:Row} {s7:Sl}
theorem qqs (hs:0<s/\s<=1000):qbr 7 (qbd (qab (dB qfH (dV 4) (dV 1)) (qab (dV 5) (qaq)))) [x0,.fz (.int s),.pu D,.ow (acc.map qam),.fz (.int r.1),.fz (.str r.2.1),.fz (.int r.2.2),s7]=
  .ok (.nx [x0,.fz (.int s),.pu D,.ow (acc.map qam),.fz (.int r.1),.fz (.str r.2.1),.fz (.int r.2.2),.fz (isT (plc s r))]):=by
 show ((((if 0<s/\s<1073741824 then Rs.ok (T.int (r.1 / s)) else .no)>>=λa=>(Rs.ok (T.str r.2.1)>>=λb=>Rs.ok []>>=λz=>Rs.ok (b::z))>>=λz=>Rs.ok (a::z))>>=λxs=>if xs.length<=1000 then Rs.ok (T.tup xs) else .no)>>=λt=>Rs.ok (Out.nx [x0,.fz (.int s),.pu D,.ow (acc.map qam),.fz (.int r.1),.fz (.str r.2.1),.fz (.int r.2.2),.fz t]))=_
 rw[if_pos ⟨hs.1,by omega⟩]
 rfl
theorem qqt (h:Held s D B) (hl:D.length<=900):qu0 [x0,.fz (.int s),.pu D,.ow (acc.map qam),.fz (.int r.1),.fz (.str r.2.1),.fz (.int r.2.2),.fz (isT (plc s r))]=
  .ok (.nx [x0,.fz (.int s),.pu (qiZ D (kIS (plc s r)) (.int (((qeF D (kIS (plc s r))).map qbS).getD 0+r.2.2))),.ow (acc.map qam),.fz (.int r.1),.fz (.str r.2.1),.fz (.int r.2.2),.fz (isT (plc s r))]):=by
 show ((qeZ (.pu D) (isT (plc s r)) (.int 0)>>=λy=>qa0 y (.int r.2.2))>>=λt=>qko [x0,.fz (.int s),.pu D,.ow (acc.map qam),.fz (.int r.1),.fz (.str r.2.1),.fz (.int r.2.2),.fz (isT (plc s r))] 2 (.pu D) (isT (plc s r)) t)=_
 rw[h.get2,qag,qcP,qag,qo0 (by omega)]
 rfl
theorem qoA (h:D=[]):qnS [x0,.fz (.int s),.pu D,.ow (acc.map qam),.fz (.int r.1),.fz (.str r.2.1),.fz (.int r.2.2),.fz (isT (plc s r))]= .ok false:=by
 subst h; rfl
theorem qqr {W:Int} (h:Held s D B) (h0:D≠[]) (hW: ∀a∈B,(plc s a).1=W):qnS [x0,.fz (.int s),.pu D,.ow (acc.map qam),.fz (.int r.1),.fz (.str r.2.1),.fz (.int r.2.2),.fz (isT (plc s r))]= .ok (decide (W<(plc s r).1)):=by
 obtain ⟨k,hk⟩:=qpt (W:=W) h0 (qla h) λp hp=>by
  obtain ⟨q,hq,rfl⟩:=List.mem_map.mp ((qco h).1 p |>.mp hp)
  exact hW q hq
 have hp:0<D.length:=List.length_pos_iff.mpr h0
 show ((Rs.ok (decide ((0:Int)<(D.length:Nat))):Rs Bool)>>=λc=>if c=true then (((qpu (.pu D)>>=λy=>gIx y (.int 0))>>=λy=>gLt y (.int (plc s r).1))>>=λt=>match t with | .bl b=>Rs.ok b | _=>.no) else Rs.ok false)=_
 rw[decide_eq_true (by omega),hk]
 rfl
theorem qoB (h:Held s D B) (hl:D.length<64) (hs:0<s/\s<=1000) (ha:acc.length+B.length<=1000):qot [x0,.fz (.int s),.pu D,.ow (acc.map qam),.fz (.int r.1),.fz (.str r.2.1),.fz (.int r.2.2),.fz (isT (plc s r))]=
  .ok (.nx [x0,.fz (.int s),.pu [],.ow ((acc++qbU s B).map qam),.fz (.int r.1),.fz (.str r.2.1),.fz (.int r.2.2),.fz (isT (plc s r))]):=by
 refine qad (qnl (acc:=acc) (xs:=qbU s B) rfl ?_ (Nat.le_trans (Nat.add_le_add_left (winC_len s B) _) ha)) rfl
 show ((t_14 [.int s,.dtu D]>>=qm4)>>=qfh)=_
 rw[qdm h hl hs,qag]
 show ((if qbH (.lst ((qbU s B).map qam))=true then Rs.ok (T.lst ((qbU s B).map qam)) else .no)>>=qfh)=_
 rw[if_pos (qeY _)]
 rfl
end
theorem qfc (x0:Sl) {s:Int} (hs:0<s/\s<=1000): ∀(rs:List Row) (D:List (List Key×T)) (B acc:List Row) (s4 s5 s6 s7:Sl),Held s D B->(∀a∈B,∀b∈B,(plc s a).1=(plc s b).1)->(∀a∈B,∀r∈rs,(plc s a).1<=(plc s r).1)->Ris (λr=>(plc s r).1) rs->
  B.length+rs.length<64->acc.length+(B.length+rs.length)<=800->∃D' B' acc' s4' s5' s6' s7',qc3 (qmc 4 5 6) qr1 (rs.map qam) [x0,.fz (.int s),.pu D,.ow (acc.map qam),s4,s5,s6,s7]= .ok (.nx [x0,.fz (.int s),.pu D',.ow (acc'.map qam),s4',s5',s6',s7'])/\
   Held s D' B'/\B'.length<64/\acc'++qbU s B'=acc++qbU s (B++rs)/\acc'.length<=800
 | [],D,B,acc,s4,s5,s6,s7,h,_,_,_,hl,ha=>⟨D,B,acc,s4,s5,s6,s7,rfl,h,by simpa using hl,by simp,by omega⟩
 | r::rs,D,B,acc,s4,s5,s6,s7,h,hB,hr,hR,hl,ha=>by
  rw[List.length_cons] at hl ha
  have hR':=List.pairwise_cons.mp hR
  have hd:=qim h
  have e0:qmc 4 5 6 (qam r) [x0,.fz (.int s),.pu D,.ow (acc.map qam),s4,s5,s6,s7]= .ok [x0,.fz (.int s),.pu D,.ow (acc.map qam),.fz (.int r.1),.fz (.str r.2.1),.fz (.int r.2.2),s7]:=rfl
  have goOn:(∀a∈B,(plc s a).1=(plc s r).1)->qnS [x0,.fz (.int s),.pu D,.ow (acc.map qam),.fz (.int r.1),.fz (.str r.2.1),.fz (.int r.2.2),.fz (isT (plc s r))]= .ok false->∃D' B' acc' s4' s5' s6' s7',qc3 (qmc 4 5 6) qr1 ((r::rs).map qam) [x0,.fz (.int s),.pu D,.ow (acc.map qam),s4,s5,s6,s7]= .ok (.nx [x0,.fz (.int s),.pu D',.ow (acc'.map qam),s4',s5',s6',s7'])/\
    Held s D' B'/\B'.length<64/\acc'++qbU s B'=acc++qbU s (B++r::rs)/\acc'.length<=800:=λhW ht=>by
   have e1:qr1 [x0,.fz (.int s),.pu D,.ow (acc.map qam),.fz (.int r.1),.fz (.str r.2.1),.fz (.int r.2.2),s7]=_:=qad (qqs hs) (qad (ρ':=[x0,.fz (.int s),.pu D,.ow (acc.map qam),.fz (.int r.1),.fz (.str r.2.1),.fz (.int r.2.2),.fz (isT (plc s r))]) (by unfold dIf; rw[ht]; rfl) (qqt h (by omega)))
   obtain ⟨D',B',acc',t4,t5,t6,t7,f1,f2,f3,f4,f5⟩:=qfc x0 hs rs _ (B++[r]) acc (.fz (.int r.1)) (.fz (.str r.2.1)) (.fz (.int r.2.2)) (.fz (isT (plc s r))) (h.put r)
    (λa ha b hb=>by
     have go: ∀c∈B++[r],(plc s c).1=(plc s r).1:=λc hc=>by
      rcases List.mem_append.mp hc with hc | hc
      ·exact hW c hc
      ·rw[List.mem_singleton.mp hc]
     rw[go a ha,go b hb])
    (λa ha q hq=>by
     rcases List.mem_append.mp ha with ha | ha
     ·exact hr a ha q (List.mem_cons_of_mem _ hq)
     ·rw[List.mem_singleton.mp ha]; exact hR'.1 q hq) hR'.2 (by rw[List.length_append,List.length_singleton]; omega) (by rw[List.length_append,List.length_singleton]; omega)
   have res:qc3 (qmc 4 5 6) qr1 ((r::rs).map qam) [x0,.fz (.int s),.pu D,.ow (acc.map qam),s4,s5,s6,s7]= .ok (.nx [x0,.fz (.int s),.pu D',.ow (acc'.map qam),t4,t5,t6,t7]):=by
    rw[List.map_cons]
    unfold qc3
    rw[e0,qag,e1,qag]
    exact f1
   have f4':acc'++qbU s B'=acc++qbU s (B++r::rs):=by rw[f4,List.append_assoc]; rfl
   exact ⟨D',B',acc',t4,t5,t6,t7,res,f2,f3,f4',f5⟩
  cases B with
  | nil=>
   have:D=[]:=List.length_eq_zero_iff.mp (Nat.le_zero.mp hd)
   exact goOn (λa ha=>by cases ha) (qoA this)
  | cons b0 B0=>
   have hD:D≠[]:=λz=>by
    have:=(h.ks (kIS (plc s b0))).mpr ⟨b0,List.mem_cons_self,rfl⟩
    rw[z] at this; cases this
   have hW: ∀a∈b0::B0,(plc s a).1=(plc s b0).1:=λa ha=>hB a ha b0 List.mem_cons_self
   have ht:=qqr (x0:=x0) (acc:=acc) (r:=r) h hD hW
   by_cases c:(plc s b0).1<(plc s r).1
   ·rw[decide_eq_true c] at ht
    have hwl:=winC_len s (b0::B0)
    have e1:qr1 [x0,.fz (.int s),.pu D,.ow (acc.map qam),.fz (.int r.1),.fz (.str r.2.1),.fz (.int r.2.2),s7]=_:=qad (qqs hs) (qad (ρ':=[x0,.fz (.int s),.pu [],.ow ((acc++qbU s (b0::B0)).map qam),.fz (.int r.1),.fz (.str r.2.1),.fz (.int r.2.2),.fz (isT (plc s r))]) (by unfold dIf; rw[ht,qag,if_pos rfl]; exact qoB h (by omega) hs (by omega)) (qqt (Held.nil s) (by decide)))
    obtain ⟨D',B',acc',t4,t5,t6,t7,f1,f2,f3,f4,f5⟩:=qfc x0 hs rs _ ([]++[r]) (acc++qbU s (b0::B0)) (.fz (.int r.1)) (.fz (.str r.2.1)) (.fz (.int r.2.2)) (.fz (isT (plc s r))) ((Held.nil s).put r)
     (λa ha b hb=>by rw[List.nil_append] at ha hb; rw[List.mem_singleton.mp ha,List.mem_singleton.mp hb]) (λa ha q hq=>by rw[List.nil_append] at ha; rw[List.mem_singleton.mp ha]; exact hR'.1 q hq) hR'.2
     (by simp; omega) (by rw[List.length_append]; simp; simp at hwl ha hl; omega)
    refine ⟨D',B',acc',t4,t5,t6,t7,?_,f2,f3,?_,f5⟩
    ·rw[List.map_cons]
     unfold qc3
     rw[e0,qag,e1,qag]
     exact f1
    ·rw[f4,qgM (a:=b0::B0) (b:=r::rs) (λx hx y hy=>by
      rw[hW x hx]
      rcases List.mem_cons.mp hy with rfl | hy
      ·exact c
      ·have:(plc s r).1<=(plc s y).1:=hR'.1 y hy
       omega),List.append_assoc]
     rfl
   ·rw[decide_eq_false c] at ht
    have hle:=hr b0 List.mem_cons_self r List.mem_cons_self
    exact goOn (λa ha=>by rw[hW a ha]; omega) ht
end AS
end
section
namespace AS
open PySem L2 PL SetL
open SR (Ris)
abbrev NT:List (Str×Str):=[(("over" :Str),("over" :Str)),(("under" :Str),("under" :Str)),(("plus" :Str),("plus" :Str)),(("times" :Str),("times" :Str))]
abbrev CT:List (Str×Str):=[(("first" :Str),("first" :Str)),(("each" :Str),("each" :Str)),(("window" :Str),("window" :Str))]
abbrev BT:List (Str×Str):=[(("running" :Str),("running" :Str)),(("change" :Str),("change" :Str)),(("unlike" :Str),("unlike" :Str))]
abbrev NF:List (Str×(List T->Rs Sl)):=[(("over" :Str),o_43),(("under" :Str),o_39),(("plus" :Str),o_44),(("times" :Str),o_40)]
abbrev CF:List (Str×(List T->Sl->Rs (Sl×Sl))):=[(("first" :Str),q_41),(("each" :Str),q_45),(("window" :Str),q_35)]
abbrev BF:List (Str×(List T->Sl->Rs (Sl×Sl))):=[(("running" :Str),q_29),(("change" :Str),q_36),(("unlike" :Str),q_37)]
abbrev r1 (s X:T) (z:Str):Ro:=[.fz s,.fz X,.pd [],.fz (.str z),.no]
abbrev r2 (s X:T) (z:Str):Ro:=[.fz s,.fz X,.pd [],.fz (.str z),.fz (.fn z)]
theorem qo6 {s:Int} (hs:0<s) {rs:List Row} (h:Ris PL.mo rs):Ris (λr=>(plc s r).1) rs:=h.imp λz=>Int.ediv_le_ediv hs z
theorem qkk {rs:List Row} {s:Int} (hs:0<s/\s<=1000) (h:Ris PL.mo rs) (hl:rs.length<64): ∃D' B' acc',q_35 [qan rs,.int s] (.od [])= .ok (.ow (acc'.map qam),.ou D')/\Held s D' B'/\B'.length<64/\acc'++qbU s B'=qbU s rs/\acc'.length<=800:=by
 obtain ⟨D',B',acc',t4,t5,t6,t7,f1,f2,f3,f4,f5⟩:=qfc (.fz (qan rs)) hs rs [] [] [] .no .no .no .no (Held.nil s) (λa ha=>by cases ha) (λa ha=>by cases ha) (qo6 hs.1 h) (by simpa using hl) (by simp; omega)
 refine ⟨D',B',acc',?_,f2,f3,by simpa using f4,f5⟩
 have e':d_35 [.fz (qan rs),.fz (.int s),.pd [],.no,.no,.no,.no,.no]= .ok (.rs (.ow (acc'.map qam)) [.fz (qan rs),.fz (.int s),.pu D',.no,t4,t5,t6,t7]):=by
  unfold d_35
  refine qad (ρ':=[.fz (qan rs),.fz (.int s),.pu [],.ow [],.no,.no,.no,.no]) rfl ?_
  refine qad (ρ':=[.fz (qan rs),.fz (.int s),.pu D',.ow (acc'.map qam),t4,t5,t6,t7]) ?_ rfl
  exact f1
 show (d_35 [.fz (qan rs),.fz (.int s),.pd [],.no,.no,.no,.no,.no]>>=qjJ 2)=_
 rw[e']
 rfl
section
variable {X:T} {n:Int} {k:Str}
theorem qc9 {d e:Ro->Rs Out} {ρ ρ':Ro} {s:Sl} (h:d ρ= .ok (.rs s ρ')):qaJ d e ρ= .ok (.rs s ρ'):=by
 unfold qaJ; rw[h]; rfl
theorem qr0 {s:Sl} (e:o_34 [X,.str k]= .ok s): ∃ρ',d_16 [.fz (.tup [.str "key",.str k]),.fz X,.pd [],.no,.no]= .ok (.rs s ρ')/\ρ'[2]? =some (.pd []):=by
 refine ⟨(r1 (.tup [.str "key",.str k]) X "key"),?_,rfl⟩
 unfold d_16
 refine qad (ρ':=(r1 (.tup [.str "key",.str k]) X "key")) (by kernel_rfl) ?_
 refine qc9 ?_
 have t:dTB (dB gEq (dV 3) (dC (.str "key"))) (r1 (.tup [.str "key",.str k]) X "key")= .ok true:=by kernel_rfl
 unfold dIf
 rw[t,qag,if_pos rfl]
 show (o_34 [X,.str k]>>=λs=>Rs.ok (Out.rs s (r1 (.tup [.str "key",.str k]) X "key")))=_
 rw[e]
 rfl
theorem qp8 {s:Sl} (e:o_43 [X,.int n]= .ok s): ∃ρ',d_16 [.fz (.tup [.str "over",.int n]),.fz X,.pd [],.no,.no]= .ok (.rs s ρ')/\ρ'[2]? =some (.pd []):=by
 refine ⟨(r2 (.tup [.str "over",.int n]) X "over"),?_,rfl⟩
 unfold d_16
 refine qad (ρ':=(r1 (.tup [.str "over",.int n]) X "over")) (by kernel_rfl) ?_
 refine qad (ρ':=(r1 (.tup [.str "over",.int n]) X "over")) (by kernel_rfl) ?_
 refine qc9 ?_
 have t:dTB (qbq NT (dV 3)) (r1 (.tup [.str "over",.int n]) X "over")= .ok true:=by kernel_rfl
 unfold dIf
 rw[t,qag,if_pos rfl]
 refine qad (ρ':=(r2 (.tup [.str "over",.int n]) X "over")) (by kernel_rfl) ?_
 have q:qjl 4 NF (qab (dV 1) (qab (dB gIx (dV 0) (dC (.int 1))) (qaq))) (r2 (.tup [.str "over",.int n]) X "over")=(o_43 [X,.int n]>>=λs=>.ok (.rs s (r2 (.tup [.str "over",.int n]) X "over"))):=by kernel_rfl
 rw[q,e]
 rfl
theorem qnN {s:Sl} (e:o_39 [X,.int n]= .ok s): ∃ρ',d_16 [.fz (.tup [.str "under",.int n]),.fz X,.pd [],.no,.no]= .ok (.rs s ρ')/\ρ'[2]? =some (.pd []):=by
 refine ⟨(r2 (.tup [.str "under",.int n]) X "under"),?_,rfl⟩
 unfold d_16
 refine qad (ρ':=(r1 (.tup [.str "under",.int n]) X "under")) (by kernel_rfl) ?_
 refine qad (ρ':=(r1 (.tup [.str "under",.int n]) X "under")) (by kernel_rfl) ?_
 refine qc9 ?_
 have t:dTB (qbq NT (dV 3)) (r1 (.tup [.str "under",.int n]) X "under")= .ok true:=by kernel_rfl
 unfold dIf
 rw[t,qag,if_pos rfl]
 refine qad (ρ':=(r2 (.tup [.str "under",.int n]) X "under")) (by kernel_rfl) ?_
 have q:qjl 4 NF (qab (dV 1) (qab (dB gIx (dV 0) (dC (.int 1))) (qaq))) (r2 (.tup [.str "under",.int n]) X "under")=(o_39 [X,.int n]>>=λs=>.ok (.rs s (r2 (.tup [.str "under",.int n]) X "under"))):=by kernel_rfl
 rw[q,e]
 rfl
theorem qp7 {s:Sl} (e:o_44 [X,.int n]= .ok s): ∃ρ',d_16 [.fz (.tup [.str "plus",.int n]),.fz X,.pd [],.no,.no]= .ok (.rs s ρ')/\ρ'[2]? =some (.pd []):=by
 refine ⟨(r2 (.tup [.str "plus",.int n]) X "plus"),?_,rfl⟩
 unfold d_16
 refine qad (ρ':=(r1 (.tup [.str "plus",.int n]) X "plus")) (by kernel_rfl) ?_
 refine qad (ρ':=(r1 (.tup [.str "plus",.int n]) X "plus")) (by kernel_rfl) ?_
 refine qc9 ?_
 have t:dTB (qbq NT (dV 3)) (r1 (.tup [.str "plus",.int n]) X "plus")= .ok true:=by kernel_rfl
 unfold dIf
 rw[t,qag,if_pos rfl]
 refine qad (ρ':=(r2 (.tup [.str "plus",.int n]) X "plus")) (by kernel_rfl) ?_
 have q:qjl 4 NF (qab (dV 1) (qab (dB gIx (dV 0) (dC (.int 1))) (qaq))) (r2 (.tup [.str "plus",.int n]) X "plus")=(o_44 [X,.int n]>>=λs=>.ok (.rs s (r2 (.tup [.str "plus",.int n]) X "plus"))):=by kernel_rfl
 rw[q,e]
 rfl
theorem qnO {s:Sl} (e:o_40 [X,.int n]= .ok s): ∃ρ',d_16 [.fz (.tup [.str "times",.int n]),.fz X,.pd [],.no,.no]= .ok (.rs s ρ')/\ρ'[2]? =some (.pd []):=by
 refine ⟨(r2 (.tup [.str "times",.int n]) X "times"),?_,rfl⟩
 unfold d_16
 refine qad (ρ':=(r1 (.tup [.str "times",.int n]) X "times")) (by kernel_rfl) ?_
 refine qad (ρ':=(r1 (.tup [.str "times",.int n]) X "times")) (by kernel_rfl) ?_
 refine qc9 ?_
 have t:dTB (qbq NT (dV 3)) (r1 (.tup [.str "times",.int n]) X "times")= .ok true:=by kernel_rfl
 unfold dIf
 rw[t,qag,if_pos rfl]
 refine qad (ρ':=(r2 (.tup [.str "times",.int n]) X "times")) (by kernel_rfl) ?_
 have q:qjl 4 NF (qab (dV 1) (qab (dB gIx (dV 0) (dC (.int 1))) (qaq))) (r2 (.tup [.str "times",.int n]) X "times")=(o_40 [X,.int n]>>=λs=>.ok (.rs s (r2 (.tup [.str "times",.int n]) X "times"))):=by kernel_rfl
 rw[q,e]
 rfl
theorem qnP {s u:Sl} (e:q_41 [X,.int n] (.pd [])= .ok (s,u)): ∃ρ',d_16 [.fz (.tup [.str "first",.int n]),.fz X,.pd [],.no,.no]= .ok (.rs s ρ')/\ρ'[2]? =some ((Sl.pd []).like u):=by
 refine ⟨[.fz (.tup [.str "first",.int n]),.fz X,(Sl.pd []).like u,.fz (.str "first"),.fz (.fn "first")],?_,rfl⟩
 unfold d_16
 refine qad (ρ':=(r1 (.tup [.str "first",.int n]) X "first")) (by kernel_rfl) ?_
 refine qad (ρ':=(r1 (.tup [.str "first",.int n]) X "first")) (by kernel_rfl) ?_
 refine qad (ρ':=(r1 (.tup [.str "first",.int n]) X "first")) (by kernel_rfl) ?_
 refine qc9 ?_
 have t:dTB (qbq CT (dV 3)) (r1 (.tup [.str "first",.int n]) X "first")= .ok true:=by kernel_rfl
 unfold dIf
 rw[t,qag,if_pos rfl]
 refine qad (ρ':=(r2 (.tup [.str "first",.int n]) X "first")) (by kernel_rfl) ?_
 have q:qfA 4 2 CF (qab (dV 1) (qab (dB gIx (dV 0) (dC (.int 1))) (qaq))) (r2 (.tup [.str "first",.int n]) X "first")=(q_41 [X,.int n] (.pd [])>>=λr=>.ok (.rs r.1 [.fz (.tup [.str "first",.int n]),.fz X,(Sl.pd []).like r.2,.fz (.str "first"),.fz (.fn "first")])):=by kernel_rfl
 rw[q,e]
 rfl
theorem qp9 {s u:Sl} (e:q_45 [X,.int n] (.pd [])= .ok (s,u)): ∃ρ',d_16 [.fz (.tup [.str "each",.int n]),.fz X,.pd [],.no,.no]= .ok (.rs s ρ')/\ρ'[2]? =some ((Sl.pd []).like u):=by
 refine ⟨[.fz (.tup [.str "each",.int n]),.fz X,(Sl.pd []).like u,.fz (.str "each"),.fz (.fn "each")],?_,rfl⟩
 unfold d_16
 refine qad (ρ':=(r1 (.tup [.str "each",.int n]) X "each")) (by kernel_rfl) ?_
 refine qad (ρ':=(r1 (.tup [.str "each",.int n]) X "each")) (by kernel_rfl) ?_
 refine qad (ρ':=(r1 (.tup [.str "each",.int n]) X "each")) (by kernel_rfl) ?_
 refine qc9 ?_
 have t:dTB (qbq CT (dV 3)) (r1 (.tup [.str "each",.int n]) X "each")= .ok true:=by kernel_rfl
 unfold dIf
 rw[t,qag,if_pos rfl]
 refine qad (ρ':=(r2 (.tup [.str "each",.int n]) X "each")) (by kernel_rfl) ?_
 have q:qfA 4 2 CF (qab (dV 1) (qab (dB gIx (dV 0) (dC (.int 1))) (qaq))) (r2 (.tup [.str "each",.int n]) X "each")=(q_45 [X,.int n] (.pd [])>>=λr=>.ok (.rs r.1 [.fz (.tup [.str "each",.int n]),.fz X,(Sl.pd []).like r.2,.fz (.str "each"),.fz (.fn "each")])):=by kernel_rfl
 rw[q,e]
 rfl
theorem qlW {s u:Sl} (e:q_35 [X,.int n] (.pd [])= .ok (s,u)): ∃ρ',d_16 [.fz (.tup [.str "window",.int n]),.fz X,.pd [],.no,.no]= .ok (.rs s ρ')/\ρ'[2]? =some ((Sl.pd []).like u):=by
 refine ⟨[.fz (.tup [.str "window",.int n]),.fz X,(Sl.pd []).like u,.fz (.str "window"),.fz (.fn "window")],?_,rfl⟩
 unfold d_16
 refine qad (ρ':=(r1 (.tup [.str "window",.int n]) X "window")) (by kernel_rfl) ?_
 refine qad (ρ':=(r1 (.tup [.str "window",.int n]) X "window")) (by kernel_rfl) ?_
 refine qad (ρ':=(r1 (.tup [.str "window",.int n]) X "window")) (by kernel_rfl) ?_
 refine qc9 ?_
 have t:dTB (qbq CT (dV 3)) (r1 (.tup [.str "window",.int n]) X "window")= .ok true:=by kernel_rfl
 unfold dIf
 rw[t,qag,if_pos rfl]
 refine qad (ρ':=(r2 (.tup [.str "window",.int n]) X "window")) (by kernel_rfl) ?_
 have q:qfA 4 2 CF (qab (dV 1) (qab (dB gIx (dV 0) (dC (.int 1))) (qaq))) (r2 (.tup [.str "window",.int n]) X "window")=(q_35 [X,.int n] (.pd [])>>=λr=>.ok (.rs r.1 [.fz (.tup [.str "window",.int n]),.fz X,(Sl.pd []).like r.2,.fz (.str "window"),.fz (.fn "window")])):=by kernel_rfl
 rw[q,e]
 rfl
theorem qjt {s u:Sl} (e:q_29 [X] (.pd [])= .ok (s,u)): ∃ρ',d_16 [.fz (.tup [.str "running"]),.fz X,.pd [],.no,.no]= .ok (.rs s ρ')/\ρ'[2]? =some ((Sl.pd []).like u):=by
 refine ⟨[.fz (.tup [.str "running"]),.fz X,(Sl.pd []).like u,.fz (.str "running"),.fz (.fn "running")],?_,rfl⟩
 unfold d_16
 refine qad (ρ':=(r1 (.tup [.str "running"]) X "running")) (by kernel_rfl) ?_
 refine qad (ρ':=(r1 (.tup [.str "running"]) X "running")) (by kernel_rfl) ?_
 refine qad (ρ':=(r1 (.tup [.str "running"]) X "running")) (by kernel_rfl) ?_
 refine qad (ρ':=(r1 (.tup [.str "running"]) X "running")) (by kernel_rfl) ?_
 refine qad (ρ':=(r2 (.tup [.str "running"]) X "running")) (by kernel_rfl) ?_
 have q:qfA 4 2 BF (qab (dV 1) (qaq)) (r2 (.tup [.str "running"]) X "running")=(q_29 [X] (.pd [])>>=λr=>.ok (.rs r.1 [.fz (.tup [.str "running"]),.fz X,(Sl.pd []).like r.2,.fz (.str "running"),.fz (.fn "running")])):=by kernel_rfl
 rw[q,e]
 rfl
theorem qlY {s u:Sl} (e:q_36 [X] (.pd [])= .ok (s,u)): ∃ρ',d_16 [.fz (.tup [.str "change"]),.fz X,.pd [],.no,.no]= .ok (.rs s ρ')/\ρ'[2]? =some ((Sl.pd []).like u):=by
 refine ⟨[.fz (.tup [.str "change"]),.fz X,(Sl.pd []).like u,.fz (.str "change"),.fz (.fn "change")],?_,rfl⟩
 unfold d_16
 refine qad (ρ':=(r1 (.tup [.str "change"]) X "change")) (by kernel_rfl) ?_
 refine qad (ρ':=(r1 (.tup [.str "change"]) X "change")) (by kernel_rfl) ?_
 refine qad (ρ':=(r1 (.tup [.str "change"]) X "change")) (by kernel_rfl) ?_
 refine qad (ρ':=(r1 (.tup [.str "change"]) X "change")) (by kernel_rfl) ?_
 refine qad (ρ':=(r2 (.tup [.str "change"]) X "change")) (by kernel_rfl) ?_
 have q:qfA 4 2 BF (qab (dV 1) (qaq)) (r2 (.tup [.str "change"]) X "change")=(q_36 [X] (.pd [])>>=λr=>.ok (.rs r.1 [.fz (.tup [.str "change"]),.fz X,(Sl.pd []).like r.2,.fz (.str "change"),.fz (.fn "change")])):=by kernel_rfl
 rw[q,e]
 rfl
theorem qlX {s u:Sl} (e:q_37 [X] (.pd [])= .ok (s,u)): ∃ρ',d_16 [.fz (.tup [.str "unlike"]),.fz X,.pd [],.no,.no]= .ok (.rs s ρ')/\ρ'[2]? =some ((Sl.pd []).like u):=by
 refine ⟨[.fz (.tup [.str "unlike"]),.fz X,(Sl.pd []).like u,.fz (.str "unlike"),.fz (.fn "unlike")],?_,rfl⟩
 unfold d_16
 refine qad (ρ':=(r1 (.tup [.str "unlike"]) X "unlike")) (by kernel_rfl) ?_
 refine qad (ρ':=(r1 (.tup [.str "unlike"]) X "unlike")) (by kernel_rfl) ?_
 refine qad (ρ':=(r1 (.tup [.str "unlike"]) X "unlike")) (by kernel_rfl) ?_
 refine qad (ρ':=(r1 (.tup [.str "unlike"]) X "unlike")) (by kernel_rfl) ?_
 refine qad (ρ':=(r2 (.tup [.str "unlike"]) X "unlike")) (by kernel_rfl) ?_
 have q:qfA 4 2 BF (qab (dV 1) (qaq)) (r2 (.tup [.str "unlike"]) X "unlike")=(q_37 [X] (.pd [])>>=λr=>.ok (.rs r.1 [.fz (.tup [.str "unlike"]),.fz X,(Sl.pd []).like r.2,.fz (.str "unlike"),.fz (.fn "unlike")])):=by kernel_rfl
 rw[q,e]
 rfl
end
end AS
end
section
namespace AS
open PySem L2 PL SetL
open SR (Ris)
inductive Stp where
 | key (k:Str) | over (n:Int) | under (n:Int) | plus (n:Int) | times (n:Int) | first (n:Int) | each (n:Int) | window (n:Int) | running | change | unlike
def Stp.t:Stp->T
 | .key k=>.tup [.str "key",.str k]
 | .over n=>.tup [.str "over",.int n]
 | .under n=>.tup [.str "under",.int n]
 | .plus n=>.tup [.str "plus",.int n]
 | .times n=>.tup [.str "times",.int n]
 | .first n=>.tup [.str "first",.int n]
 | .each n=>.tup [.str "each",.int n]
 | .window n=>.tup [.str "window",.int n]
 | .running=>.tup [.str "running"]
 | .change=>.tup [.str "change"]
 | .unlike=>.tup [.str "unlike"]
def Stp.ok:Stp->Prop
 | .key k=>qej k
 | .over n=> -20<=n/\n<=20
 | .under n=> -20<=n/\n<=20
 | .plus n=> -20<=n/\n<=20
 | .times n=> -20<=n/\n<=20
 | .first n=>1<=n/\n<=20
 | .each n=>1<=n/\n<=20
 | .window n=>1<=n/\n<=20
 | _=>True
def Stp.run:Stp->List Row->List Row
 | .key k,rs=>qrh rs k
 | .over n,rs=>qee n rs
 | .under n,rs=>qcj n rs
 | .plus n,rs=>qda n rs
 | .times n,rs=>qbQ n rs
 | .first n,rs=>rs.take n.toNat
 | .each n,rs=>qcr n rs
 | .window n,rs=>qbU n rs
 | .running,rs=>qeH no rs
 | .change,rs=>qeB no rs
 | .unlike,rs=>qd1 no rs
theorem qbV {st X:T} {ts:List T} {ρ':Ro} {u:Sl} (h:d_16 [.fz st,.fz X,.pd [],.no,.no]= .ok (.rs (.ow ts) ρ')) (hu:ρ'[2]? =some u) (hp:u.isP=true) (hw:(dTB (dB gEq (dB gIx (dV 0) (dC (.int 0))) (dC (.str "window"))) [.fz st,.fz X,(Sl.pd []).like u.out,.ow ts])= .ok false) (hd:((Sl.pd []).like u.out).isP=true):
  ∃s,q_5 [st,X] (.od [])= .ok (.ow ts,s):=by
 have e1:q_16 [st,X] (.pd [])= .ok (.ow ts,u.out):=by
  show (d_16 [.fz st,.fz X,.pd [],.no,.no]>>=qjJ 2)=_
  rw[h]
  show (match ρ'[2]? with | some s=>if (Sl.ow ts).ret=true/\s.isP=true then Rs.ok (Sl.ow ts,s.out) else .no | none=>.no)=_
  rw[hu]
  show (if (Sl.ow ts).ret=true/\u.isP=true then Rs.ok (Sl.ow ts,u.out) else .no)=_
  rw[if_pos ⟨rfl,hp⟩]
 have e2:qlI 3 2 (qab (dV 0) (qab (dV 1) (qaq))) q_16 [.fz st,.fz X,.pd [],.no]= .ok (.nx [.fz st,.fz X,(Sl.pd []).like u.out,.ow ts]):=by
  show (q_16 [st,X] (.pd [])>>=λr=>Rs.ok (Out.nx [.fz st,.fz X,(Sl.pd []).like r.2,r.1]))=_
  rw[e1]
  rfl
 refine ⟨((Sl.pd []).like u.out).out,?_⟩
 have e3:d_5 [.fz st,.fz X,.pd [],.no]= .ok (.rs (.ow ts) [.fz st,.fz X,(Sl.pd []).like u.out,.no]):=by
  unfold d_5
  refine qad e2 (qad (ρ':=[.fz st,.fz X,(Sl.pd []).like u.out,.ow ts]) ?_ rfl)
  unfold dIf
  rw[hw]
  rfl
 show (d_5 [.fz st,.fz X,.pd [],.no]>>=qjJ 2)=_
 rw[e3]
 show (if (Sl.ow ts).ret=true/\((Sl.pd []).like u.out).isP=true then Rs.ok (Sl.ow ts,((Sl.pd []).like u.out).out) else .no)=_
 rw[if_pos ⟨rfl,hd⟩]
theorem qmo {st:Stp} (ok:st.ok) {rs:List Row} (h:Ris PL.mo rs) (hl:rs.length<64): ∃s,q_5 [st.t,qan rs] (.od [])= .ok (.ow ((st.run rs).map qam),s):=by
 cases st with
 | key k=>
  obtain ⟨ρ',a,b⟩:=qr0 (qvB rs k)
  exact qbV a b rfl (by kernel_rfl) rfl
 | over n=>
  obtain ⟨ρ',a,b⟩:=qp8 (qvy rs n)
  exact qbV a b rfl (by kernel_rfl) rfl
 | under n=>
  obtain ⟨ρ',a,b⟩:=qnN (qvA rs n)
  exact qbV a b rfl (by kernel_rfl) rfl
 | plus n=>
  obtain ⟨ρ',a,b⟩:=qp7 (qvx rs n)
  exact qbV a b rfl (by kernel_rfl) rfl
 | times n=>
  have ok: -20<=n/\n<=20:=ok
  obtain ⟨ρ',a,b⟩:=qnO (qvz rs (b:=n) ⟨by omega,by omega⟩)
  exact qbV a b rfl (by kernel_rfl) rfl
 | first n=>
  have ok:1<=n/\n<=20:=ok
  obtain ⟨D,e⟩:=qmJ rs (n:=n) (by omega)
  obtain ⟨ρ',a,b⟩:=qnP e
  exact qbV a b rfl (by kernel_rfl) rfl
 | each n=>
  have ok:1<=n/\n<=20:=ok
  obtain ⟨D,e⟩:=qoY rs (n:=n) (by omega)
  obtain ⟨ρ',a,b⟩:=qp9 e
  exact qbV a b rfl (by kernel_rfl) rfl
 | running=>
  obtain ⟨D,e⟩:=qiY (rs:=rs) (by omega)
  obtain ⟨ρ',a,b⟩:=qjt e
  exact qbV a b rfl (by kernel_rfl) rfl
 | change=>
  obtain ⟨D,e⟩:=qkm (rs:=rs) (by omega)
  obtain ⟨ρ',a,b⟩:=qlY e
  exact qbV a b rfl (by kernel_rfl) rfl
 | unlike=>
  obtain ⟨D,e⟩:=qkl (rs:=rs) (by omega)
  obtain ⟨ρ',a,b⟩:=qlX e
  exact qbV a b rfl (by kernel_rfl) rfl
 | window n=>
  have ok:1<=n/\n<=20:=ok
  obtain ⟨D',B',acc',f1,f2,f3,f4,f5⟩:=qkk (s:=n) ⟨by omega,by omega⟩ h hl
  obtain ⟨ρ',a,b⟩:=qlW f1
  have e1:q_16 [Stp.t (.window n),qan rs] (.pd [])= .ok (.ow (acc'.map qam),.ou D'):=by
   show (d_16 [.fz (.tup [.str "window",.int n]),.fz (qan rs),.pd [],.no,.no]>>=qjJ 2)=_
   rw[a]
   show (match ρ'[2]? with | some s=>if (Sl.ow (acc'.map qam)).ret=true/\s.isP=true then Rs.ok (Sl.ow (acc'.map qam),s.out) else .no | none=>.no)=_
   rw[b]
   rfl
  have e2:qlI 3 2 (qab (dV 0) (qab (dV 1) (qaq))) q_16 [.fz (Stp.t (.window n)),.fz (qan rs),.pd [],.no]= .ok (.nx [.fz (Stp.t (.window n)),.fz (qan rs),.pu D',.ow (acc'.map qam)]):=by
   show (q_16 [Stp.t (.window n),qan rs] (.pd [])>>=λr=>Rs.ok (Out.nx [.fz (Stp.t (.window n)),.fz (qan rs),(Sl.pd []).like r.2,r.1]))=_
   rw[e1]
   rfl
  have hw:dTB (dB gEq (dB gIx (dV 0) (dC (.int 0))) (dC (.str "window"))) [.fz (Stp.t (.window n)),.fz (qan rs),.pu D',.ow (acc'.map qam)]= .ok true:=by kernel_rfl
  have hdl:=qim f2
  have hcat:quB (dQV 3) (dQ (qe5 2 t_14 (qab (dB gIx (dV 0) (dC (.int 1))) (qaq)))) [.fz (Stp.t (.window n)),.fz (qan rs),.pu D',.ow (acc'.map qam)]= .ok ((qbU n rs).map qam):=by
   show ((t_14 [.int n,.dtu D']>>=qm4)>>=qfh)>>=(λy=>if ((true:Bool)=true/\y.1=true)/\(acc'.map qam).length+y.2.length<=1000 then Rs.ok (acc'.map qam++y.2) else .no)=_
   rw[qdm f2 (by omega) ⟨by omega,by omega⟩,qag]
   show ((if qbH (.lst ((qbU n B').map qam))=true then Rs.ok (T.lst ((qbU n B').map qam)) else .no)>>=qfh)>>=_=_
   rw[if_pos (qeY _)]
   show (if ((true:Bool)=true/\(true:Bool)=true)/\(acc'.map qam).length+((qbU n B').map qam).length<=1000 then Rs.ok (acc'.map qam++(qbU n B').map qam) else .no)=_
   have hwl:=winC_len n B'
   rw[if_pos ⟨⟨rfl,rfl⟩,by rw[List.length_map,List.length_map]; omega⟩,<-List.map_append,f4]
  refine ⟨.ou D',?_⟩
  have e3:d_5 [.fz (Stp.t (.window n)),.fz (qan rs),.pd [],.no]= .ok (.rs (.ow ((qbU n rs).map qam)) [.fz (Stp.t (.window n)),.fz (qan rs),.pu D',.ow (acc'.map qam)]):=by
   unfold d_5
   refine qad e2 (qc9 ?_)
   unfold dIf
   rw[hw,qag,if_pos rfl]
   unfold qbP
   rw[hcat]
   rfl
  show (d_5 [.fz (Stp.t (.window n)),.fz (qan rs),.pd [],.no]>>=qjJ 2)=_
  rw[e3]
  rfl
end AS
end
section
namespace AS
open PySem L2 PL SetL
open SR (Ris)
theorem qd7 {α:Type} {k:α->Int} {a b:List α} (h:a.Sublist b) (hb:Ris k b):Ris k a:=List.Pairwise.sublist h hb
theorem qkd {a b:List Row} (e:a.map PL.mo=b.map PL.mo) (hb:Ris PL.mo b):Ris PL.mo a:=by
 unfold SR.Ris at*
 rw[show (λa b:Row=>PL.mo a<=PL.mo b)=λa b=>(λx y:Int=>x<=y) (PL.mo a) (PL.mo b) from rfl] at*
 rw[<-List.pairwise_map] at*
 rw[e]; exact hb
theorem qiV {a b:List Row} (e:(a.map PL.mo).Sublist (b.map PL.mo)) (hb:Ris PL.mo b):Ris PL.mo a:=by
 unfold SR.Ris at*
 rw[show (λa b:Row=>PL.mo a<=PL.mo b)=λa b=>(λx y:Int=>x<=y) (PL.mo a) (PL.mo b) from rfl] at*
 rw[<-List.pairwise_map] at*
 exact hb.sublist e
theorem qir {α β:Type} {f g:α->Option β}: ∀{l:List α},(∀a∈l,f a=g a)->l.filterMap f=l.filterMap g
 | [],_=>rfl
 | a::l,h=>by rw[List.filterMap_cons,List.filterMap_cons,h a List.mem_cons_self,qir λb hb=>h b (List.mem_cons_of_mem _ hb)]
theorem qpK {α:Type} (rs:List α) {n:Nat} (hn:0<n):RH.pickL rs (some ((n:Int) - 1)) none (some (n:Int))=(List.range (rs.length / n)).filterMap λk=>rs[n*k+(n - 1)]? :=by
 unfold RH.pickL
 have hp:(n:Int)>0:=by omega
 have e:sliceBounds (some ((n:Int) - 1)) none (some (n:Int)) rs.length=(((min (n - 1) rs.length:Nat):Int),(rs.length:Int),(n:Int)):=by
  unfold sliceBounds
  simp only[Option.getD_some,hp,if_true,gt_iff_lt]
  rw[if_neg (by omega)]
  refine Prod.ext ?_ rfl
  show max 0 (min ((n:Int) - 1) (rs.length:Int))=_
  omega
 rw[e]
 unfold sliceRange
 simp only[hp,if_true,gt_iff_lt]
 have ec:(if ((min (n - 1) rs.length:Nat):Int)<(rs.length:Int) then ((rs.length:Int) - ((min (n - 1) rs.length:Nat):Int)+n - 1) / n else 0)=((rs.length / n:Nat):Int):=by
  by_cases c:n - 1<rs.length
  ·rw[Nat.min_eq_left (by omega),if_pos (by omega)]
   have:(rs.length:Int) - ((n - 1:Nat):Int)+n - 1=rs.length:=by omega
   rw[this]
   exact (Int.natCast_ediv _ _).symm
  ·rw[Nat.min_eq_right (by omega),if_neg (by omega)]
   have:rs.length / n=0:=Nat.div_eq_of_lt (by omega)
   rw[this]; rfl
 rw[ec,Int.toNat_natCast,List.filterMap_map]
 refine qir λk hk=> ?_
 have hk:=List.mem_range.mp hk
 have h1:n<=rs.length:=by
  have:0<rs.length / n:=by omega
  exact (Nat.div_pos_iff.mp this).2
 show rs[(((min (n - 1) rs.length:Nat):Int)+n*(k:Int)).toNat]? =_
 rw[Nat.min_eq_left (by omega)]
 refine congrArg (λi=>rs[i]?) ?_
 have:(((n - 1:Nat):Int)+(n:Int)*(k:Int))=((n*k+(n - 1):Nat):Int):=by push_cast; omega
 rw[this,Int.toNat_natCast]
theorem eachR_at (rs:List Row) {n:Nat} (hn:0<n):qcr (n:Int) rs=(List.range (rs.length / n)).filterMap λk=>rs[n*k+(n - 1)]? :=qpK rs hn
theorem qnr (rs:List Row) {n:Nat} (hn:0<n):(qcr (n:Int) rs).length<=rs.length:=by
 rw[eachR_at rs hn]
 refine Nat.le_trans (List.length_filterMap_le _ _) ?_
 rw[List.length_range]
 exact Nat.div_le_self _ _
theorem qnp {rs:List Row} {n:Nat} (hn:0<n) (h:Ris PL.mo rs):Ris PL.mo (qcr (n:Int) rs):=by
 rw[eachR_at rs hn]
 unfold SR.Ris at*
 rw[List.pairwise_filterMap]
 refine List.Pairwise.imp (λ{a b} hab x hx y hy=> ?_) (List.pairwise_lt_range (n:=rs.length / n))
 obtain ⟨ha,rfl⟩:=List.getElem?_eq_some_iff.mp hx
 obtain ⟨hb,rfl⟩:=List.getElem?_eq_some_iff.mp hy
 refine (List.pairwise_iff_getElem.mp h) _ _ ha hb ?_
 have:=Nat.mul_lt_mul_of_pos_left hab hn
 omega
theorem run_mo: ∀(f:Str->Option Int) (rs:List Row),(qeH f rs).map PL.mo=rs.map PL.mo
 | _,[]=>rfl
 | f,r::rs=>by
  unfold qeH
  rw[List.map_cons,List.map_cons,run_mo _ rs]
theorem qlR: ∀(f:Str->Option Int) (rs:List Row),((qeB f rs).map PL.mo).Sublist (rs.map PL.mo)
 | _,[]=>List.Sublist.refl _
 | f,r::rs=>by
  unfold qeB
  have ih:=qlR (qfQ f r.2.1 (some r.2.2)) rs
  cases f r.2.1 with
  | none=>exact List.Sublist.cons _ ih
  | some x=>exact List.Sublist.cons_cons _ ih
theorem unl_sub: ∀(f:Str->Option Int) (rs:List Row),(qd1 f rs).Sublist rs
 | _,[]=>List.Sublist.refl _
 | f,r::rs=>by
  unfold qd1
  have ih:=unl_sub (qfQ f r.2.1 (some r.2.2)) rs
  by_cases c:f r.2.1=some r.2.2
  ·rw[if_pos c]; exact List.Sublist.cons _ ih
  ·rw[if_neg c]; exact List.Sublist.cons_cons _ ih
theorem qi7 {x y:IS} (h:qeM y x=false):x.1<=y.1:=by
 rcases Int.lt_or_le y.1 x.1 with c | c
 ·rw[qie c] at h; cases h
 ·exact c
theorem qoz {s:Int} (hs:0<s) (rs:List Row):Ris PL.mo (qbU s rs):=by
 unfold qbU SR.Ris
 rw[List.pairwise_map]
 refine (sds_pw _).imp λ{a b} h=> ?_
 show (a.1+1)*s - 1<=(b.1+1)*s - 1
 have:=Int.mul_le_mul_of_nonneg_right (Int.add_le_add_right (qi7 h) 1) (Int.le_of_lt hs)
 omega
theorem qhP {st:Stp} (ok:st.ok) {rs:List Row} (h:Ris PL.mo rs):Ris PL.mo (st.run rs):=by
 cases st with
 | key k=>exact qd7 List.filter_sublist h
 | over n=>exact qd7 List.filter_sublist h
 | under n=>exact qd7 List.filter_sublist h
 | plus n=>exact qkd (by show (qda n rs).map PL.mo=_; unfold qda; rw[List.map_map]; rfl) h
 | times n=>exact qkd (by show (qbQ n rs).map PL.mo=_; unfold qbQ; rw[List.map_map]; rfl) h
 | first n=>exact qd7 (List.take_sublist _ _) h
 | each n=>
  have ok:1<=n/\n<=20:=ok
  obtain ⟨m,rfl⟩: ∃m:Nat,n=m:=⟨n.toNat,by omega⟩
  exact qnp (by omega) h
 | window n=>exact qoz (by have:1<=n/\n<=20:=ok; omega) rs
 | running=>exact qkd (run_mo _ rs) h
 | change=>exact qiV (qlR _ rs) h
 | unlike=>exact qd7 (unl_sub _ rs) h
theorem step_len {st:Stp} (ok:st.ok) (rs:List Row):(st.run rs).length<=rs.length:=by
 cases st with
 | key k=>exact List.length_filter_le _ _
 | over n=>exact List.length_filter_le _ _
 | under n=>exact List.length_filter_le _ _
 | plus n=>exact Nat.le_of_eq (List.length_map _)
 | times n=>exact Nat.le_of_eq (List.length_map _)
 | first n=>exact (List.take_sublist _ _).length_le
 | each n=>
  have ok:1<=n/\n<=20:=ok
  obtain ⟨m,rfl⟩: ∃m:Nat,n=m:=⟨n.toNat,by omega⟩
  exact qnr rs (by omega)
 | window n=>exact winC_len n rs
 | running=>
  have:=congrArg List.length (run_mo no rs)
  rw[List.length_map,List.length_map] at this
  exact Nat.le_of_eq this
 | change=>
  have:=(qlR no rs).length_le
  rw[List.length_map,List.length_map] at this
  exact this
 | unlike=>exact (unl_sub no rs).length_le
def qbC:List Stp->List Row->List Row
 | [],rs=>rs
 | st::ask,rs=>qbC ask (st.run rs)
def qbe (ask:List Stp):T:=.tup (ask.map Stp.t)
end AS
end
section
namespace AS
open PySem L2 PL SetL
open SR (Ris)
theorem qhd {z:Str} (h:qbq BT (dV 1) [.fz (.tup [.str z]),.fz (.str z)]= .ok (.bl true)):t_30 [.tup [.str z]]= .ok (.bl true):=by
 show (d_30 [.fz (.tup [.str z]),.no]>>=outT)=_
 have e:d_30 [.fz (.tup [.str z]),.no]= .ok (.rt (.bl true)):=by
  unfold d_30
  refine qad (ρ':=[.fz (.tup [.str z]),.no]) rfl (qad (ρ':=[.fz (.tup [.str z]),.fz (.str z)]) rfl ?_)
  have:dIf (dTB (qbq BT (dV 1))) (qa4 (dB gEq (qeE (dV 0)) (dC (.int 1)))) (qaA) [.fz (.tup [.str z]),.fz (.str z)]= .ok (.rt (.bl true)):=by
   unfold dIf dTB
   rw[h]
   rfl
  unfold qaJ
  rw[this]
  rfl
 rw[e]
 rfl
theorem qh5 {z:Str} {n:Int} (b:qd2 BT (.str z)= .ok (.bl false)) (k:gEq (.str z) (.str "key")= .ok (.bl false)) (m:qd2 NT (.str z)= .ok (.bl true)) (h: -20<=n/\n<=20):t_30 [.tup [.str z,.int n]]= .ok (.bl true):=by
 have w:t_8 [.int n,.int (-20),.int 20]= .ok (.bl true):=by rw[qdU,decide_eq_true h.1,decide_eq_true h.2]; rfl
 have e:d_30 [.fz (.tup [.str z,.int n]),.no]= .ok (.rt (.bl true)):=by
  unfold d_30
  refine qad (ρ':=[.fz (.tup [.str z,.int n]),.no]) rfl (qad (ρ':=[.fz (.tup [.str z,.int n]),.fz (.str z)]) rfl ?_)
  refine qad (ρ':=[.fz (.tup [.str z,.int n]),.fz (.str z)]) ?_ (qad (ρ':=[.fz (.tup [.str z,.int n]),.fz (.str z)]) rfl (qad (ρ':=[.fz (.tup [.str z,.int n]),.fz (.str z)]) ?_ ?_))
  ·show ((qd2 BT (.str z)>>=λt=>match t with | .bl b=>Rs.ok b | _=>.no)>>=λc=>if c=true then _ else qaA [.fz (.tup [.str z,.int n]),.fz (.str z)])=_
   rw[b]; rfl
  ·show (((gEq (.str z) (.str "key"))>>=λt=>match t with | .bl b=>Rs.ok b | _=>.no)>>=λc=>if c=true then _ else qaA [.fz (.tup [.str z,.int n]),.fz (.str z)])=_
   rw[k]; rfl
  ·have q:dIf (dTB (qbq NT (dV 1))) (qa4 (qau t_8 (qab (dB gIx (dV 0) (dC (.int 1))) (qab (qdA (dC (.int 20))) (qab (dC (.int 20)) (qaq)))))) (qaA) [.fz (.tup [.str z,.int n]),.fz (.str z)]= .ok (.rt (.bl true)):=by
    show ((qd2 NT (.str z)>>=λt=>match t with | .bl b=>Rs.ok b | _=>.no)>>=λc=>if c=true then (t_8 [.int n,.int (-20),.int 20]>>=λt=>Rs.ok (Out.rt t)) else _)=_
    rw[m,w]; rfl
   unfold qaJ
   rw[q]; rfl
 show (d_30 [.fz (.tup [.str z,.int n]),.no]>>=outT)=_
 rw[e]; rfl
theorem qlM {z:Str} {n:Int} (b:qd2 BT (.str z)= .ok (.bl false)) (k:gEq (.str z) (.str "key")= .ok (.bl false)) (m:qd2 NT (.str z)= .ok (.bl false)) (c:qd2 CT (.str z)= .ok (.bl true)) (h:1<=n/\n<=20):t_30 [.tup [.str z,.int n]]= .ok (.bl true):=by
 have w:t_8 [.int n,.int 1,.int 20]= .ok (.bl true):=by rw[qdU,decide_eq_true h.1,decide_eq_true h.2]; rfl
 have e:d_30 [.fz (.tup [.str z,.int n]),.no]= .ok (.rt (.bl true)):=by
  unfold d_30
  refine qad (ρ':=[.fz (.tup [.str z,.int n]),.no]) rfl (qad (ρ':=[.fz (.tup [.str z,.int n]),.fz (.str z)]) rfl ?_)
  refine qad (ρ':=[.fz (.tup [.str z,.int n]),.fz (.str z)]) ?_ (qad (ρ':=[.fz (.tup [.str z,.int n]),.fz (.str z)]) rfl (qad (ρ':=[.fz (.tup [.str z,.int n]),.fz (.str z)]) ?_ (qad (ρ':=[.fz (.tup [.str z,.int n]),.fz (.str z)]) ?_ ?_)))
  ·show ((qd2 BT (.str z)>>=λt=>match t with | .bl b=>Rs.ok b | _=>.no)>>=λc=>if c=true then _ else qaA [.fz (.tup [.str z,.int n]),.fz (.str z)])=_
   rw[b]; rfl
  ·show (((gEq (.str z) (.str "key"))>>=λt=>match t with | .bl b=>Rs.ok b | _=>.no)>>=λc=>if c=true then _ else qaA [.fz (.tup [.str z,.int n]),.fz (.str z)])=_
   rw[k]; rfl
  ·show ((qd2 NT (.str z)>>=λt=>match t with | .bl b=>Rs.ok b | _=>.no)>>=λc=>if c=true then _ else qaA [.fz (.tup [.str z,.int n]),.fz (.str z)])=_
   rw[m]; rfl
  ·show (((qd2 CT (.str z)>>=λt=>match t with | .bl b=>Rs.ok b | _=>.no)>>=λc=>if c=true then t_8 [.int n,.int 1,.int 20] else Rs.ok (T.bl false))>>=λt=>Rs.ok (Out.rt t))=_
   rw[c,w]; rfl
 show (d_30 [.fz (.tup [.str z,.int n]),.no]>>=outT)=_
 rw[e]; rfl
theorem qls {st:Stp} (ok:st.ok):t_30 [st.t]= .ok (.bl true):=by
 cases st with
 | running=>exact qhd (by kernel_rfl)
 | change=>exact qhd (by kernel_rfl)
 | unlike=>exact qhd (by kernel_rfl)
 | key k=>
  have e:t_30 [.tup [.str "key",.str k]]=(((t_31 [.str k]>>=λt=>Rs.ok (Out.rt t))>>=λo=>qdp o (qaJ (dIf (dTB (qbq NT (dV 1))) (qa4 (qau t_8 (qab (dB gIx (dV 0) (dC (.int 1))) (qab (qdA (dC (.int 20))) (qab (dC (.int 20)) (qaq)))))) (qaA)) (qa4 (qhw (qbq CT (dV 1)) (qau t_8 (qab (dB gIx (dV 0) (dC (.int 1))) (qab (dC (.int 1)) (qab (dC (.int 20)) (qaq)))))))))>>=outT):=by kernel_rfl
  rw[show Stp.t (.key k)= .tup [.str "key",.str k] from rfl,e,qix ok]
  rfl
 | over n=>exact qh5 (by kernel_rfl) (by kernel_rfl) (by kernel_rfl) ok
 | under n=>exact qh5 (by kernel_rfl) (by kernel_rfl) (by kernel_rfl) ok
 | plus n=>exact qh5 (by kernel_rfl) (by kernel_rfl) (by kernel_rfl) ok
 | times n=>exact qh5 (by kernel_rfl) (by kernel_rfl) (by kernel_rfl) ok
 | first n=>exact qlM (by kernel_rfl) (by kernel_rfl) (by kernel_rfl) (by kernel_rfl) ok
 | each n=>exact qlM (by kernel_rfl) (by kernel_rfl) (by kernel_rfl) (by kernel_rfl) ok
 | window n=>exact qlM (by kernel_rfl) (by kernel_rfl) (by kernel_rfl) (by kernel_rfl) ok
end AS
end
section
namespace AS
open PySem L2 PL SetL
open SR (Ris)
theorem qnu {ask:List Stp} (ok: ∀st∈ask,st.ok) (h5:ask.length<=5):t_38 [qbe ask]= .ok (.bl true):=by
 have c1:qaE 1 [] (dI (dV 0)) (gN 0) (qcx) (qau t_30 (qab (dV 0) (qaq))) [.fz (qbe ask)]= .ok ((ask.filter λ_=>true).map λ_=>T.bl true):=by
  refine qbj (f:=Stp.t) rfl λst hst=>⟨rfl,λ_=> ?_⟩
  show t_30 [st.t]=_
  exact qls (ok st hst)
 rw[qbu] at c1
 have aq:=qfE (λ_:Stp=>true) ask
 rw[show (ask.all λ_=>true)=true by rw[List.all_eq_true]; intro _ _; rfl] at aq
 have hl: ¬((5:Int)<((ask.map Stp.t).length:Nat)):=by rw[List.length_map]; omega
 have e:d_38 [.fz (qbe ask)]= .ok (.rt (.bl true)):=by
  unfold d_38
  refine qad (ρ':=[.fz (qbe ask)]) ?_ ?_
  ·show ((Rs.ok (decide ((5:Int)<((ask.map Stp.t).length:Nat))):Rs Bool)>>=λc=>if c=true then _ else qaA [.fz (qbe ask)])=_
   rw[decide_eq_false hl]
   rfl
  ·show (((qaE 1 [] (dI (dV 0)) (gN 0) (qcx) (qau t_30 (qab (dV 0) (qaq))) [.fz (qbe ask)]>>=λts=>Rs.ok (true,ts))>>=ql6)>>=λt=>Rs.ok (Out.rt t))=_
   rw[c1,qag,qag,aq]
   rfl
 show (d_38 [.fz (qbe ask)]>>=outT)=_
 rw[e]
 rfl
theorem qgk {ask:List Stp} (ok: ∀st∈ask,st.ok) (h5:ask.length<=5):t_2 [qbe ask]= .ok .non:=by
 show (((t_38 [qbe ask]>>=λt=>match t with | .bl b=>Rs.ok b | _=>.no)>>=λc=>Rs.ok (!c))>>=λc=>if c=true then dNo [.fz (qbe ask)] else qaA [.fz (qbe ask)])>>=outT=_
 rw[qnu ok h5]
 rfl
theorem qiK (x0 x1:Sl): ∀(ask:List Stp) (rs:List Row) (s3:Sl),(∀st∈ask,st.ok)->Ris PL.mo rs->rs.length<64->∃s3',
  qc3 (gN 3) (λρ=>(qlJ 2 (qab (dV 3) (qab (dV 2) (qaq))) (λts=>q_5 ts (.od [])>>=λr=>.ok r.1)) (frz 2 ρ)) (ask.map Stp.t) [x0,x1,.ow (rs.map qam),s3]= .ok (.nx [x0,x1,.ow ((qbC ask rs).map qam),s3'])
 | [],rs,s3,_,_,_=>⟨s3,rfl⟩
 | st::ask,rs,s3,ok,h,hl=>by
  have ok1:=ok st List.mem_cons_self
  obtain ⟨u,e⟩:=qmo ok1 h hl
  have hl':=step_len ok1 rs
  obtain ⟨s',ih⟩:=qiK x0 x1 ask (st.run rs) (.fz st.t) (λx hx=>ok x (List.mem_cons_of_mem _ hx)) (qhP ok1 h) (by omega)
  refine ⟨s',?_⟩
  rw[List.map_cons]
  unfold qc3
  show ((q_5 [st.t,qan rs] (.od [])>>=λr=>Rs.ok r.1)>>=λs=>Rs.ok (Out.nx [x0,x1,s,.fz st.t]))>>=(λo=>qml o _)=_
  rw[e]
  exact ih
theorem asked_run {ask:List Stp} (ok: ∀st∈ask,st.ok) (h5:ask.length<=5) {rs:List Row} (hL:Log rs) (hl:rs.length<64):o_42 [qbe ask,qan rs]= .ok (.ow ((qbC ask rs).map qam)):=by
 obtain ⟨s3,e⟩:=qiK (.fz (qbe ask)) (.fz (qan rs)) ask rs .no ok hL.ris hl
 have e':d_42 [.fz (qbe ask),.fz (qan rs),.no,.no]= .ok (.rs (.ow ((qbC ask rs).map qam)) [.fz (qbe ask),.fz (qan rs),.no,s3]):=by
  unfold d_42
  refine qad (ρ':=[.fz (qbe ask),.fz (qan rs),.no,.no]) ?_ (qad (ρ':=[.fz (qbe ask),.fz (qan rs),.no,.no]) ?_ (qad (ρ':=[.fz (qbe ask),.fz (qan rs),.ow (rs.map qam),.no]) ?_ (qad (ρ':=[.fz (qbe ask),.fz (qan rs),.ow ((qbC ask rs).map qam),s3]) ?_ rfl)))
  ·show (t_2 [qbe ask]>>=λ_=>Rs.ok (Out.nx [.fz (qbe ask),.fz (qan rs),.no,.no]))=_
   rw[qgk ok h5]
   rfl
  ·show (t_1 [qan rs]>>=λ_=>Rs.ok (Out.nx [.fz (qbe ask),.fz (qan rs),.no,.no]))=_
   rw[qgj hL]
   rfl
  ·rfl
  ·exact e
 show (d_42 [.fz (qbe ask),.fz (qan rs),.no,.no]>>=qpe)=_
 rw[e']
 rfl
theorem asked_t {ask:List Stp} (ok: ∀st∈ask,st.ok) (h5:ask.length<=5) {rs:List Row} (hL:Log rs) (hl:rs.length<64):t_42 [qbe ask,qan rs]= .ok (qan (qbC ask rs)):=by
 show (o_42 [qbe ask,qan rs]>>=quq)=_
 rw[asked_run ok h5 hL hl]
 rfl
theorem runA_ris {ask:List Stp} (ok: ∀st∈ask,st.ok): ∀{rs:List Row},Ris PL.mo rs->Ris PL.mo (qbC ask rs):=by
 induction ask with
 | nil=>intro rs h; exact h
 | cons st ask ih=>intro rs h; exact ih (λx hx=>ok x (List.mem_cons_of_mem _ hx)) (qhP (ok st List.mem_cons_self) h)
theorem runA_len {ask:List Stp} (ok: ∀st∈ask,st.ok): ∀rs:List Row,(qbC ask rs).length<=rs.length:=by
 induction ask with
 | nil=>intro rs; exact Nat.le_refl _
 | cons st ask ih=>intro rs; exact Nat.le_trans (ih (λx hx=>ok x (List.mem_cons_of_mem _ hx)) _) (step_len (ok st List.mem_cons_self) rs)
end AS
end
section
namespace K11
open PySem L2 PL SetL SR
theorem qbD {ns:List Int} (hn:ns.length<=63) {k many:Int} (h0:0<=k) (h1:k<1000000) (hm:0<many): ∃v,0<=v/\v<many/\qcb [.scr ns,.int k,.int many]= .ok (.int v):=
 ⟨qi1 ns k many,qmP hm,qmQ hm,by
  show (if (0<=k/\k<1000000)/\0<many/\ns.length<=63 then Rs.ok (T.int (qi1 ns k many)) else Rs.no)=_
  rw[if_pos ⟨⟨h0,h1⟩,hm,hn⟩]⟩
theorem qrL {ns:List Int} (hn:ns.length<=63) {k:Int} (h0:0<=k) (h1:k<900000): ∃x,qej x/\qiO [.scr ns,.int k]= .ok (.str x):=by
 obtain ⟨v,a1,a2,e1⟩:=qbD hn (k:=k) (many:=16) h0 (by lia) (by decide)
 obtain ⟨i,b1,b2,e2⟩:=qbD hn (k:=k+1) (many:=26) (by lia) (by lia) (by decide)
 obtain ⟨u,c1,c2,e3⟩:=qbD hn (k:=k+2) (many:=2) (by lia) (by lia) (by decide)
 obtain ⟨j,d1,d2,e4⟩:=qbD hn (k:=k+3) (many:=26) (by lia) (by lia) (by decide)
 have g1:=qf4 b1 b2
 have g2:=qf4 d1 d2
 by_cases c:0<v
 ·have m0:0<=v % 3:=Int.emod_nonneg _ (by decide)
  have m1:v % 3<3:=Int.emod_lt_of_pos _ (by decide)
  have g: ∃x,qej x/\gIx (.lst [.str "a",.str "b",.str "ab"]) (.int (v % 3))= .ok (.str x):=by
   generalize v % 3=m at m0 m1
   have:m=0\/m=1\/m=2:=by lia
   rcases this with rfl | rfl | rfl
   ·exact ⟨_,qkW.1,rfl⟩
   ·exact ⟨_,qkW.2.1,rfl⟩
   ·exact ⟨_,qkW.2.2,rfl⟩
  obtain ⟨x,hx,ex⟩:=g
  refine ⟨x,hx,?_⟩
  have p3:(0:Int)<3:=by decide
  have l3:(3:Nat)<=1000:=by decide
  unfold qiO qsj
  simp only[fnT,List.length_cons,List.length_nil,Nat.reduceAdd,qaJ,qbr,dC,List.map_cons,List.map_nil,Nat.reduceSub,List.replicate,List.cons_append,List.nil_append,List.set_cons_succ,List.set_cons_zero,qag,qdp,qau,qab,dV,qaq,dIf,dTB,dB,qa4,dFz,qcU,l3,if_true,qaA,List.getElem?_cons_zero,List.getElem?_cons_succ,e1,qni,decide_eq_true c,qgc,p3,ex,outT]
 ·have g1':gIx (.str "abcdefghijklmnopqrstuvwxyz") (.int i)=_:=g1
  have g2':gIx (.str "abcdefghijklmnopqrstuvwxyz") (.int j)=_:=g2
  by_cases c':u=0
  ·refine ⟨_,qrs b1 b2,?_⟩
   subst c'
   unfold qiO qsj
   simp only[fnT,List.length_cons,List.length_nil,Nat.reduceAdd,qaJ,qbr,dC,List.map_cons,List.map_nil,Nat.reduceSub,List.replicate,List.cons_append,List.nil_append,List.set_cons_succ,List.set_cons_zero,qag,qdp,qau,qab,dV,qaq,dIf,dTB,dB,qa4,dFz,qcU,Nat.reduceLeDiff,if_true,qaA,List.getElem?_cons_zero,List.getElem?_cons_succ,e1,qni,decide_eq_false c,qgc,Bool.false_eq_true,if_false,qcP,e2,g1',e3,qlg,beq_self_eq_true,outT]
  ·refine ⟨_,qrr b1 b2 d1 d2,?_⟩
   have n:(u==0)=false:=by simpa using c'
   have ga:qa0 (.str ⟨#[97+i.toNat]⟩) (.str ⟨#[97+j.toNat]⟩)= .ok (.str ((⟨#[97+i.toNat]⟩:Str)++⟨#[97+j.toNat]⟩)):=rfl
   unfold qiO qsj
   simp only[fnT,List.length_cons,List.length_nil,Nat.reduceAdd,qaJ,qbr,dC,List.map_cons,List.map_nil,Nat.reduceSub,List.replicate,List.cons_append,List.nil_append,List.set_cons_succ,List.set_cons_zero,qag,qdp,qau,qab,dV,qaq,dIf,dTB,dB,qa4,dFz,qcU,Nat.reduceLeDiff,if_true,qaA,List.getElem?_cons_zero,List.getElem?_cons_succ,e1,qni,decide_eq_false c,qgc,Bool.false_eq_true,if_false,qcP,e2,g1',e3,qlg,n,e4,g2',ga,outT]
theorem qiw {ns:List Int} (hn:ns.length<=63) {k M:Int} (h0:0<=k) (h1:k<900000) (hM:4<=M/\M<=99): ∃v, -M<=v/\v<=M/\qjF [.scr ns,.int k,.int M]= .ok (.int v):=by
 obtain ⟨v,a1,a2,e1⟩:=qbD hn (k:=k) (many:=8) h0 (by lia) (by decide)
 obtain ⟨i,b1,b2,e2⟩:=qbD hn (k:=k+1) (many:=2*M+1) (by lia) (by lia) (by lia)
 obtain ⟨u,c1,c2,e3⟩:=qbD hn (k:=k+1) (many:=9) (by lia) (by lia) (by decide)
 by_cases c:v=0
 ·subst c
  refine ⟨i - M,by lia,by lia,?_⟩
  have m:((-1000000:Int)<=2/\(2:Int)<=1000000)\/((-1000000:Int)<=M/\(M:Int)<=1000000):=.inl (by decide)
  unfold qjF qux
  simp only[fnT,List.length_cons,List.length_nil,Nat.reduceAdd,qaJ,dIf,dTB,dB,qau,qab,dV,List.map_cons,List.map_nil,Nat.reduceSub,List.replicate,List.append_nil,List.getElem?_cons_zero,List.getElem?_cons_succ,dC,qaq,qag,e1,qlg,beq_self_eq_true,qa4,qcP,qeo,m,if_true,e2,qlf,qaA,qdp,outT]
 ·have n:(v==0)=false:=by simpa using c
  refine ⟨u - 4,by lia,by lia,?_⟩
  unfold qjF qux
  simp only[fnT,List.length_cons,List.length_nil,Nat.reduceAdd,qaJ,dIf,dTB,dB,qau,qab,dV,List.map_cons,List.map_nil,Nat.reduceSub,List.replicate,List.append_nil,List.getElem?_cons_zero,List.getElem?_cons_succ,dC,qaq,qag,e1,qlg,n,qa4,qcP,qeo,qaA,Bool.false_eq_true,if_false,qdp,e3,qlf,outT,if_true]
theorem qrK {ns:List Int} (hn:ns.length<=63) {k most:Int} (h0:0<=k) (h1:k<10000) (hm:0<=most) (hm2:most<=20): ∃rs:List Row,Log rs/\(rs.length:Int)<=most/\qqf [.scr ns,.int k,.int most]= .ok (qan rs):=by
 obtain ⟨v,a1,a2,e1⟩:=qbD hn (k:=k) (many:=9) h0 (by lia) (by decide)
 obtain ⟨i,b1,b2,e2⟩:=qbD hn (k:=k+1) (many:=4) (by lia) (by lia) (by decide)
 obtain ⟨n,c1,c2,e3⟩:=qbD hn (k:=k+2) (many:=most+1) (by lia) (by lia) (by lia)
 have g: ∃far,0<far/\far<=14/\gIx (.lst [.int 1,.int 3,.int 6,.int 14]) (.int i)= .ok (.int far):=by
  have:i=0\/i=1\/i=2\/i=3:=by lia
  rcases this with rfl | rfl | rfl | rfl
  ·exact ⟨1,by decide,by decide,rfl⟩
  ·exact ⟨3,by decide,by decide,rfl⟩
  ·exact ⟨6,by decide,by decide,rfl⟩
  ·exact ⟨14,by decide,by decide,rfl⟩
 obtain ⟨far,f1,f2,e4⟩:=g
 have l4:(4:Nat)<=1000:=by decide
 have l0:(0:Nat)<=1000:=by decide
 have hr:qfU [.int n]= .ok ((List.range n.toNat).map λj=>T.int (j:Nat)):=by
  show (if n<=1000000/\ -1000000<=n then _ else _)=_
  rw[if_pos ⟨by lia,by lia⟩]
 obtain ⟨ρ',e5,rs,m,s6,s7,er,ok,lg,ln,le,m0,m1⟩:=qdT (dg:=gN 6) (f:=λj:Nat=>T.int (j:Nat))
  (db:=qaJ (qbr 7 (dB qa0 (dB qa0 (dV 1) (dC (T.int 10))) (dB qdM (dC (T.int 8)) (dV 6)))) (qaJ (qbr 4 (dB2 qsh (dC (T.int 99)) (dB qa0 (dV 4) (qau qcb (qab (dV 0) (qab (dV 7) (qab (dV 5) qaq)))))))
   (qdo 3 (qbd (qab (dV 4) (qab (qau qiO (qab (dV 0) (qab (dB qa0 (dV 7) (dC (T.int 1))) qaq))) (qab (qau qjF (qab (dV 0) (qab (dB qa0 (dV 7) (dC (T.int 5))) (qab (dC (T.int 99)) qaq)))) qaq)))))))
  (λdn ρ=> ∃(rs:List Row) (m:Int) (s6 s7:Sl),ρ=[.fz (.scr ns),.fz (.int k),.fz (.int most),.ow (rs.map qam),.fz (.int m),.fz (.int far),s6,s7]/\(∀r∈rs,qmG r)/\qeO rs=true/\rs.length=dn.length/\(∀r∈rs,r.1<=m)/\0<=m/\m<=99)
  (List.range n.toNat) (List.range n.toNat) [] [.fz (.scr ns),.fz (.int k),.fz (.int most),.ow [],.fz (.int v),.fz (.int far),.no,.no] rfl
  (λdn j qce ρ hw ⟨rs,m,s6,s7,e,ok,lg,ln,le,m0,m1⟩=>by
   subst e
   have hl:dn.length+(qce.length+1)=n.toNat:=by
    have:=congrArg List.length hw
    simpa using this
   have hj:j<n.toNat:=by
    have:j∈List.range n.toNat:=by rw[<-hw]; simp
    exact List.mem_range.mp this
   obtain ⟨w,w1,w2,ew⟩:=qbD hn (k:=k+10+8*(j:Nat)) (many:=far) (by lia) (by lia) f1
   obtain ⟨x,hx,ex⟩:=qrL hn (k:=k+10+8*(j:Nat)+1) (by lia) (by lia)
   obtain ⟨u,u1,u2,eu⟩:=qiw hn (k:=k+10+8*(j:Nat)+5) (M:=99) (by lia) (by lia) (by decide)
   have hm':((-1000000:Int)<=8/\(8:Int)<=1000000)\/((-1000000:Int)<=(j:Nat)/\((j:Nat):Int)<=1000000):=.inl (by decide)
   have mm: ∃m',(if m+w<99 then m+w else 99)=m'/\m<=m'/\m'<=99:=by
    by_cases c:m+w<99
    ·exact ⟨m+w,by rw[if_pos c],by lia,by lia⟩
    ·exact ⟨99,by rw[if_neg c],by lia,by lia⟩
   obtain ⟨m',em,le1,le2⟩:=mm
   have l3:(3:Nat)<=1000:=by decide
   have lb:rs.length<=999:=by lia
   refine ⟨_,[.fz (.scr ns),.fz (.int k),.fz (.int most),.ow ((rs++[(m',x,u)]).map qam),.fz (.int m'),.fz (.int far),.fz (.int (j:Nat)),.fz (.int (k+10+8*(j:Nat)))],rfl,.inl ?_,rs++[(m',x,u)],m',_,_,rfl,?_,?_,by simp[ln],?_,by lia,le2⟩
   ·have er:(rs++[(m',x,u)]).map qam=rs.map qam++[.tup [.int m',.str x,.int u]]:=by rw[List.map_append]; rfl
    rw[er]
    simp only[qaJ,qbr,dB,dV,List.set_cons_succ,List.set_cons_zero,List.getElem?_cons_succ,List.getElem?_cons_zero,dC,qag,qcP,qeo,hm',if_true,qdp,dB2,qau,qab,qaq,qdo,qn6,qbd,qdF,List.length_cons,List.length_nil,Nat.reduceAdd,Nat.reduceLeDiff,ew,qoe,em,ex,eu,l3,List.length_map,lb]
   ·intro r hr'
    rcases List.mem_append.mp hr' with hr' | hr'
    ·exact ok r hr'
    ·rw[List.mem_singleton.mp hr']
     exact ⟨⟨by show 0<=m'; lia,le2⟩,hx,u1,u2⟩
   ·refine qjd lg λq hq=> ?_
    have:=le q hq
    show q.1<=m'
    lia
   ·intro r hr'
    rcases List.mem_append.mp hr' with hr' | hr'
    ·have:=le r hr'; lia
    ·rw[List.mem_singleton.mp hr']; exact Int.le_refl _) ⟨[],v,.no,.no,rfl,(λ_ h=>by cases h),rfl,rfl,(λ_ h=>by cases h),a1,by lia⟩
 subst er
 refine ⟨rs,⟨ok,lg⟩,by rw[ln]; simp; lia,?_⟩
 unfold qqf quY
 simp only[fnT,List.length_cons,List.length_nil,Nat.reduceAdd,qaJ,qdz,qcU,qaq,qag,l0,if_true,List.map_cons,List.map_nil,Nat.reduceSub,List.replicate,List.cons_append,List.nil_append,List.set_cons_succ,List.set_cons_zero,qdp,qbr,qau,qab,dV,dC,dB,dFz,l4,qeS,qp5,qa4,frz,List.getElem?_cons_zero,List.getElem?_cons_succ,e1,qcP,e2,e4,e3,hr,e5,outT]
 rfl
end K11
end
section
namespace K11
open PySem L2 PL SetL
open AS (Stp qbe qbC qbU qcr qeH qeB qd1 qee qcj qda qbQ no qad)
open SR (Ris)
abbrev wT:T:=.lst [.str "key",.str "over",.str "under",.str "plus",.str "times",.str "first",.str "each",.str "window",.str "running",.str "change",.str "unlike"]
abbrev q1:Ro->Rs Bool:=dTB (dB gEq (dV 2) (dC (.str "key")))
abbrev q2:Ro->Rs Bool:=dTB (dIn false (dV 2) (dQ (qbd (qab (dC (.str "over")) (qab (dC (.str "under")) (qab (dC (.str "plus")) (qab (dC (.str "times")) (qaq))))))))
abbrev q3:Ro->Rs Bool:=dTB (dIn false (dV 2) (dQ (qbd (qab (dC (.str "first")) (qab (dC (.str "each")) (qab (dC (.str "window")) (qaq)))))))
abbrev tl:Ro->Rs Out:=qaJ (dIf (dTB (dB gEq (dV 2) (dC (.str "key")))) (qa4 (qbd (qab (dV 2) (qab (qau qiO (qab (dV 0) (qab (dB qa0 (dV 1) (dC (.int 1))) (qaq)))) (qaq))))) (qaA)) (qaJ (dIf (dTB (dIn false (dV 2) (dQ (qbd (qab (dC (.str "over")) (qab (dC (.str "under")) (qab (dC (.str "plus")) (qab (dC (.str "times")) (qaq))))))))) (qa4 (qbd (qab (dV 2) (qab (qau qjF (qab (dV 0) (qab (dB qa0 (dV 1) (dC (.int 1))) (qab (dC (.int 20)) (qaq))))) (qaq))))) (qaA)) (qaJ (dIf (dTB (dIn false (dV 2) (dQ (qbd (qab (dC (.str "first")) (qab (dC (.str "each")) (qab (dC (.str "window")) (qaq)))))))) (qaJ (qbr 3 (dB qa0 (dC (.int 1)) (qau qcb (qab (dV 0) (qab (dB qa0 (dV 1) (dC (.int 1))) (qab (dC (.int 4)) (qaq))))))) (qa4 (qbd (qab (dV 2) (qab (qso (dTB (dB gEq (dV 3) (dC (.int 4)))) (dB qa0 (dC (.int 1)) (qau qcb (qab (dV 0) (qab (dB qa0 (dV 1) (dC (.int 2))) (qab (dC (.int 20)) (qaq)))))) (dV 3)) (qaq)))))) (qaA)) (qa4 (qbd (qab (dV 2) (qaq))))))
theorem qcd {d e:Ro->Rs Out} {ρ:Ro} {t:T} (h:d ρ= .ok (.rt t)):qaJ d e ρ= .ok (.rt t):=by
 unfold qaJ; rw[h]; rfl
theorem qgL {c:Ro->Rs Bool} {d e:Ro->Rs Out} {ρ:Ro} {r:Rs Out} (h:c ρ= .ok true) (h2:d ρ=r):dIf c d e ρ=r:=by
 unfold dIf; rw[h,qag,if_pos rfl]; exact h2
theorem qbB {c:Ro->Rs Bool} {d e:Ro->Rs Out} {ρ:Ro} {r:Rs Out} (h:c ρ= .ok false) (h2:e ρ=r):dIf c d e ρ=r:=by
 unfold dIf; rw[h,qag,if_neg Bool.false_ne_true]; exact h2
section
variable {ns:List Int} {k v:Int} {x y:Str} {c n u z:Int}
abbrev r4 (ns:List Int) (k:Int) (y:Str):Ro:=[.fz (.scr ns),.fz (.int k),.fz (.str y),.no]
theorem qsz {a b:T} {d e:Ro->Rs T} {ρ:Ro} (h:d ρ= .ok a) (h2:e ρ= .ok b):qa4 (qbd (qab d (qab e qaq))) ρ= .ok (.rt (.tup [a,b])):=by
 have l2:(2:Nat)<=1000:=by decide
 simp only[qa4,qbd,qab,qaq,h,h2,qag,List.length_cons,List.length_nil,Nat.reduceAdd,l2,if_true]
theorem qqR (e1:qcb [.scr ns,.int k,.int 11]= .ok (.int v)) (g:gIx wT (.int v)= .ok (.str y)) {r:Rs Out} (h:tl (r4 ns k y)=r):qsk [.fz (.scr ns),.fz (.int k),.no,.no]=r:=by
 unfold qsk
 refine qad (ρ':=[.fz (.scr ns),.fz (.int k),.fz wT,.no]) (by kernel_rfl) ?_
 refine qad (ρ':=r4 ns k y) ?_ h
 show ((qcb [.scr ns,.int k,.int 11]>>=λb=>gIx wT b)>>=λt=>Rs.ok (Out.nx [.fz (.scr ns),.fz (.int k),.fz t,.no]))=_
 rw[e1,qag,g]
 rfl
theorem qsZ (h1:q1 (r4 ns k y)= .ok true) (ek:qiO [.scr ns,.int (k+1)]= .ok (.str x)):tl (r4 ns k y)= .ok (.rt (.tup [.str y,.str x])):=
 qcd (qgL h1 (qsz rfl (by
  show (qiO [.scr ns,.int (k+1)])=_
  exact ek)))
theorem qmC (h1:q1 (r4 ns k y)= .ok false) (h2:q2 (r4 ns k y)= .ok true) (en:qjF [.scr ns,.int (k+1),.int 20]= .ok (.int n)):tl (r4 ns k y)= .ok (.rt (.tup [.str y,.int n])):=
 qad (qbB h1 rfl) (qcd (qgL h2 (qsz rfl (by
  show (qjF [.scr ns,.int (k+1),.int 20])=_
  exact en))))
theorem qoV (h1:q1 (r4 ns k y)= .ok false) (h2:q2 (r4 ns k y)= .ok false) (h3:q3 (r4 ns k y)= .ok true) (ec:qcb [.scr ns,.int (k+1),.int 4]= .ok (.int c)) (eu:qcb [.scr ns,.int (k+2),.int 20]= .ok (.int u)):tl (r4 ns k y)= .ok (.rt (.tup [.str y,.int (if (1+c==4)=true then 1+u else 1+c)])):=by
 refine qad (qbB h1 rfl) (qad (qbB h2 rfl) (qcd (qgL h3 ?_)))
 refine qad (ρ':=[.fz (.scr ns),.fz (.int k),.fz (.str y),.fz (.int (1+c))]) ?_ (qsz rfl ?_)
 ·show ((qcb [.scr ns,.int (k+1),.int 4]>>=λb=>qa0 (.int 1) b)>>=λt=>Rs.ok (Out.nx [.fz (.scr ns),.fz (.int k),.fz (.str y),.fz t]))=_
  rw[ec]
  rfl
 ·show (if (1+c==4)=true then (qcb [.scr ns,.int (k+2),.int 20]>>=λb=>qa0 (.int 1) b) else Rs.ok (.int (1+c)))=_
  rw[eu]
  cases (1+c==4)<;>rfl
theorem qj8 (h1:q1 (r4 ns k y)= .ok false) (h2:q2 (r4 ns k y)= .ok false) (h3:q3 (r4 ns k y)= .ok false):tl (r4 ns k y)= .ok (.rt (.tup [.str y])):=
 qad (qbB h1 rfl) (qad (qbB h2 rfl) (qad (qbB h3 rfl) rfl))
theorem qrJ (hn:ns.length<=63) (h0:0<=k) (h1:k<800000): ∃st:Stp,st.ok/\qmm [.scr ns,.int k]= .ok st.t:=by
 obtain ⟨v,v0,v1,e1⟩:=qbD hn (k:=k) (many:=11) h0 (by lia) (by decide)
 obtain ⟨c,c0,c1,ec⟩:=qbD hn (k:=k+1) (many:=4) (by lia) (by lia) (by decide)
 obtain ⟨u,u0,u1,eu⟩:=qbD hn (k:=k+2) (many:=20) (by lia) (by lia) (by decide)
 obtain ⟨x,hx,ek⟩:=qrL hn (k:=k+1) (by lia) (by lia)
 obtain ⟨n,n0,n1,en⟩:=qiw hn (k:=k+1) (M:=20) (by lia) (by lia) (by decide)
 have hz:1<=(if (1+c==4)=true then 1+u else 1+c)/\(if (1+c==4)=true then 1+u else 1+c)<=20:=by
  split
  ·exact ⟨by lia,by lia⟩
  ·exact ⟨by lia,by lia⟩
 have go: ∀(st:Stp) (y:Str),st.ok->gIx wT (.int v)= .ok (.str y)->tl (r4 ns k y)= .ok (.rt st.t)->∃st:Stp,st.ok/\qmm [.scr ns,.int k]= .ok st.t:=λst y ok g h=>by
  refine ⟨st,ok,?_⟩
  show (qsk [.fz (.scr ns),.fz (.int k),.no,.no]>>=outT)=_
  rw[qqR e1 g h]
  rfl
 have:v=0\/v=1\/v=2\/v=3\/v=4\/v=5\/v=6\/v=7\/v=8\/v=9\/v=10:=by lia
 rcases this with rfl | rfl | rfl | rfl | rfl | rfl | rfl | rfl | rfl | rfl | rfl
 ·exact go (.key x) _ hx rfl (qsZ (by kernel_rfl) ek)
 ·exact go (.over n) _ ⟨n0,n1⟩ rfl (qmC (by kernel_rfl) (by kernel_rfl) en)
 ·exact go (.under n) _ ⟨n0,n1⟩ rfl (qmC (by kernel_rfl) (by kernel_rfl) en)
 ·exact go (.plus n) _ ⟨n0,n1⟩ rfl (qmC (by kernel_rfl) (by kernel_rfl) en)
 ·exact go (.times n) _ ⟨n0,n1⟩ rfl (qmC (by kernel_rfl) (by kernel_rfl) en)
 ·exact go (.first _) _ hz rfl (qoV (by kernel_rfl) (by kernel_rfl) (by kernel_rfl) ec eu)
 ·exact go (.each _) _ hz rfl (qoV (by kernel_rfl) (by kernel_rfl) (by kernel_rfl) ec eu)
 ·exact go (.window _) _ hz rfl (qoV (by kernel_rfl) (by kernel_rfl) (by kernel_rfl) ec eu)
 ·exact go .running _ trivial rfl (qj8 (by kernel_rfl) (by kernel_rfl) (by kernel_rfl))
 ·exact go .change _ trivial rfl (qj8 (by kernel_rfl) (by kernel_rfl) (by kernel_rfl))
 ·exact go .unlike _ trivial rfl (qj8 (by kernel_rfl) (by kernel_rfl) (by kernel_rfl))
theorem qut (hn:ns.length<=63): ∃ask:List Stp,(∀st∈ask,st.ok)/\ask.length<=4/\qqy [.scr ns,.int 0,.int 4]= .ok (qbe ask):=by
 obtain ⟨m,m0,m1,em⟩:=qbD hn (k:=60) (many:=5) (by decide) (by decide) (by decide)
 have hst: ∀j:Nat,∃st:Stp,j<5->st.ok/\qmm [.scr ns,.int (0+6*(j:Nat))]= .ok st.t:=λj=>by
  by_cases q:j<5
  ·obtain ⟨st,a,b⟩:=qrJ hn (k:=0+6*(j:Nat)) (by lia) (by lia)
   exact ⟨st,λ_=>⟨a,b⟩⟩
  ·exact ⟨.running,λh=>absurd h q⟩
 obtain ⟨g,hg⟩:=Classical.axiomOfChoice hst
 have hr:qfU [.int m]= .ok ((List.range m.toNat).map λj=>T.int (j:Nat)):=by
  show (if m<=1000000/\ -1000000<=m then _ else _)=_
  rw[if_pos ⟨by lia,by lia⟩]
 have hc:qaE 1 [0,1] (qp5 (qab (qau qcb (qab (dV 0) (qab (dB qa0 (dV 1) (dC (.int 60))) (qab (dB qa0 (dV 2) (dC (.int 1))) (qaq))))) (qaq))) (gN 0) (qcx) (qau qmm (qab (dV 1) (qab (dB qa0 (dV 2) (dB qdM (dC (.int 6)) (dV 0))) (qaq)))) [.fz (.scr ns),.fz (.int 0),.fz (.int 4)]= .ok (((List.range m.toNat).filter λ_=>true).map λj=>(g j).t):=by
  refine qbj (f:=λj:Nat=>T.int (j:Nat)) ?_ λj hj=>⟨rfl,λ_=> ?_⟩
  ·show ((qcb [.scr ns,.int 60,.int 5]>>=λb=>Rs.ok [b])>>=qfU)=_
   rw[em,qag,qag,hr]
  ·have:=List.mem_range.mp hj
   have h6:((-1000000:Int)<=6/\(6:Int)<=1000000)\/((-1000000:Int)<=(j:Nat)/\((j:Nat):Int)<=1000000):=.inl (by decide)
   show (((qdM (.int 6) (.int (j:Nat))>>=λb=>qa0 (.int 0) b)>>=λb=>Rs.ok [b])>>=λbs=>Rs.ok (T.scr ns::bs))>>=qmm=_
   rw[qeo,if_pos h6,qag,qcP,qag,qag,qag]
   exact (hg j (by lia)).2
 rw[List.filter_eq_self.mpr λ_ _=>rfl] at hc
 refine ⟨(List.range m.toNat).map g,λst h=> ?_,by rw[List.length_map,List.length_range]; lia,?_⟩
 ·obtain ⟨j,hj,rfl⟩:=List.mem_map.mp h
  exact (hg j (by have:=List.mem_range.mp hj; lia)).1
 ·show (((qaE 1 [0,1] (qp5 (qab (qau qcb (qab (dV 0) (qab (dB qa0 (dV 1) (dC (.int 60))) (qab (dB qa0 (dV 2) (dC (.int 1))) (qaq))))) (qaq))) (gN 0) (qcx) (qau qmm (qab (dV 1) (qab (dB qa0 (dV 2) (dB qdM (dC (.int 6)) (dV 0))) (qaq)))) [.fz (.scr ns),.fz (.int 0),.fz (.int 4)]>>=λts=>Rs.ok (true,ts))>>=qeU)>>=λt=>Rs.ok (Out.rt t))>>=outT=_
  rw[hc]
  unfold qbe
  rw[List.map_map]
  rfl
end
end K11
end
section
set_option maxHeartbeats 400000
namespace K11
open PySem L2 PL SetL
open AS (IS Stp qbe qbC qbU qcr qeH qeB qd1 qee qcj qda qbQ no qad qeM sds plc qbz qbc)
open SR (Ris srt qb3 qbm qbE qcf qbG)
theorem pwA {α:Type} {lt:α->α->Bool} (o:SR.Ord lt) (as:List α):(qbE lt as).Pairwise λa b=>lt b a=false:=by
 unfold qbE
 refine List.Pairwise.imp_of_mem (λ{a b} ha hb h=> ?_) (qb3 (k:=qcf lt as) as)
 have h1:=qbG o ((qbm _).mp hb) ((qbm _).mp ha)
 have h:qcf lt as a<=qcf lt as b:=h
 rw[<-h1]
 exact decide_eq_false (by lia)
theorem qrt {ss:List Str} {x:Str}:x∈qc1 ss↔x∈ss:=((qbc _ _).mem_iff).trans qdG
theorem qru {ss:List Int} {x:Int}:x∈qcF ss↔x∈ss:=((qbc _ _).mem_iff).trans qdG
theorem qm8 (ss:List Str):(qc1 ss).Nodup:=((qbc _ _).nodup_iff).mpr (qbF _)
theorem qii (ss:List Int):(qcF ss).Nodup:=((qbc _ _).nodup_iff).mpr (qbF _)
abbrev qdh (s:Int) (rs:List Row) (W:Int):List Row:=rs.filter λr=>r.1 / s==W
def flat (s:Int) (rs:List Row):List IS:=(qcF (rs.map λr=>r.1 / s)).flatMap λW=>(qc1 ((qdh s rs W).map λr=>r.2.1)).map λk=>(W,k)
theorem qrj {W:Int} {a b:Str} (h:RH.ltS b a=false):qeM (W,b) (W,a)=false:=by
 show (if Ky.i W=Ky.i W then (if Ky.s b=Ky.s a then false else RH.ltS b a) else decide (W<W))=false
 rw[if_pos rfl]
 split
 ·rfl
 ·exact h
theorem qmv (s:Int) (rs:List Row):sds (rs.map (plc s))=flat s rs:=by
 refine AS.sorted_uniq (AS.sds_nodup _) ?_ (AS.sds_pw _) ?_ λp=> ?_
 ·unfold flat
  refine List.pairwise_flatMap.mpr ⟨λW _=>List.pairwise_map.mpr ((qm8 _).imp λh z=>h (congrArg Prod.snd z)),(qii _).imp λ{a b} h x hx y hy z=> ?_⟩
  obtain ⟨k,_,rfl⟩:=List.mem_map.mp hx
  obtain ⟨k',_,rfl⟩:=List.mem_map.mp hy
  exact h (congrArg Prod.fst z)
 ·unfold flat
  refine List.pairwise_flatMap.mpr ⟨λW _=>List.pairwise_map.mpr ((pwA RH.ordS _).imp λh=>qrj h),?_⟩
  refine List.Pairwise.imp_of_mem (λ{a b} ha hb h x hx y hy=> ?_) (List.Pairwise.and (l:=qcF (rs.map λr=>r.1 / s)) (pwA quT (dd (rs.map λr=>r.1 / s))) (qii _))
  obtain ⟨k,_,rfl⟩:=List.mem_map.mp hx
  obtain ⟨k',_,rfl⟩:=List.mem_map.mp hy
  have h1:=of_decide_eq_false h.1
  have h2:=h.2
  show qeM (b,k') (a,k)=false
  show (if Ky.i b=Ky.i a then _ else decide (b<a))=false
  rw[if_neg (λz=>by injection z with z; exact h2 z.symm)]
  exact h.1
 ·rw[AS.mem_sds]
  unfold flat
  simp only[List.mem_flatMap,List.mem_map,qru,qrt,List.mem_filter]
  constructor
  ·rintro ⟨r,hr,rfl⟩
   exact ⟨r.1 / s,⟨r,hr,rfl⟩,r.2.1,⟨r,⟨hr,by simp⟩,rfl⟩,rfl⟩
  ·rintro ⟨W,_,k,⟨r,⟨hr,h⟩,rfl⟩,rfl⟩
   have h:r.1 / s=W:=by simpa using h
   exact ⟨r,hr,by rw[<-h]; rfl⟩
abbrev qjI (s:Int) (rs:List Row) (p:IS):Row:=(p.1*s+s - 1,p.2,qbz s rs p)
theorem qhG (s:Int) (rs:List Row):qbU s rs=(flat s rs).map (qjI s rs):=by
 unfold qbU
 rw[qmv]
 refine List.map_congr_left λp _=> ?_
 show (((p.1+1)*s - 1,p.2,qbz s rs p):Row)=(p.1*s+s - 1,p.2,qbz s rs p)
 rw[show (p.1+1)*s=p.1*s+s by rw[Int.add_mul,Int.one_mul]]
theorem qmn (s:Int) (rs:List Row) (W:Int) (k:Str):(((qdh s rs W).filter λr=>r.2.1==k).map λr=>r.2.2).sum=qbz s rs (W,k):=by
 unfold qbz
 rw[List.filter_filter]
 congr 2
 refine List.filter_congr λr _=> ?_
 unfold plc
 by_cases a:r.1 / s=W
 ·by_cases b:r.2.1=k
  ·simp[a,b]
  ·simp[a,b]
 ·simp[a]
theorem qg7 {ss:List Int} (h:ss.length<64):qdI (true,ss.map T.int)= .ok ((qcF ss).map T.int):=by
 have y:(ss.map T.int).all qf9=true:=by rw[List.all_map,List.all_eq_true]; intro _ _; rfl
 have z:(ss.map T.int).map qbS=ss:=by rw[List.map_map]; simp[Function.comp_def,qbS]
 unfold qdI
 rw[if_pos ⟨⟨rfl,by simpa using h⟩,y⟩,z]
theorem qfK (xs:List Int):qjH (true,xs.map T.int)= .ok (.int xs.sum):=by
 have y:(xs.map T.int).all qf9=true:=by rw[List.all_map,List.all_eq_true]; intro _ _; rfl
 have z:(xs.map T.int).map qbS=xs:=by rw[List.map_map]; simp[Function.comp_def,qbS]
 unfold qjH
 rw[if_pos ⟨rfl,y⟩,z]
theorem fy {α:Type} (l:List α):(l.filter λ_=>true)=l:=List.filter_eq_self.mpr λ_ _=>rfl
theorem qm5 (s:Int) (rs:List Row):(flat s rs).length<=rs.length:=by
 have:=AS.winC_len s rs
 rw[qhG,List.length_map] at this
 exact this
theorem qqv {a b c:T} {d e f:Ro->Rs T} {ρ:Ro} (h:d ρ= .ok a) (h2:e ρ= .ok b) (h3:f ρ= .ok c):qbd (qab d (qab e (qab f qaq))) ρ= .ok (.tup [a,b,c]):=by
 have l3:(3:Nat)<=1000:=by decide
 simp only[qbd,qab,qaq,h,h2,h3,qag,List.length_cons,List.length_nil,Nat.reduceAdd,l3,if_true]
section
variable {s:Int} {rs:List Row} {x0 x2 x3 x4 x5:Sl}
abbrev w6 (s:Int) (rs:List Row) (a b c d:Sl):Ro:=[.fz (.int s),.fz (qan rs),a,b,c,d]
abbrev bW:Ro->Rs Out:=qeS (dI (dFz (qjn qf7 (dQF (qaE 1 [] (dI (dV 4)) (gN 0) (qcx) (dB gIx (dV 0) (dC (.int 1)))))))) (gN 5) (qdo 2 (qbd (qab (dB gSub (dB qa0 (dB qdM (dV 3) (dV 0)) (dV 0)) (dC (.int 1))) (qab (dV 5) (qab (dCQ qjH (dQF (qaE 1 [5] (dI (dV 4)) (gN 0) (dTB (dB gEq (dB gIx (dV 0) (dC (.int 1))) (dV 1))) (dB gIx (dV 0) (dC (.int 2)))))) (qaq))))))
theorem qva (hs:0<s/\s<=1000) (hl:rs.length<64) (acc:List Row) (W:Int) (x5:Sl) (hb:acc.length+(qc1 ((qdh s rs W).map λr=>r.2.1)).length<=900): ∃y5,bW (w6 s rs (.ow (acc.map qam)) (.fz (.int W)) (.fz (qan (qdh s rs W))) x5)= .ok (.nx (w6 s rs (.ow ((acc++(qc1 ((qdh s rs W).map λr=>r.2.1)).map λk=>qjI s rs (W,k)).map qam)) (.fz (.int W)) (.fz (qan (qdh s rs W))) y5)):=by
 have hh:((qdh s rs W).map λr=>r.2.1).length<64:=by
  rw[List.length_map]
  exact Nat.lt_of_le_of_lt (List.length_filter_le _ _) hl
 have c1:qaE 1 [] (dI (dV 4)) (gN 0) (qcx) (dB gIx (dV 0) (dC (.int 1))) (w6 s rs (.ow (acc.map qam)) (.fz (.int W)) (.fz (qan (qdh s rs W))) x5)= .ok (((qdh s rs W).filter λ_=>true).map λr=>T.str r.2.1):=qbj (f:=qam) rfl λr hr=>⟨rfl,λ_=>rfl⟩
 rw[fy,show ((qdh s rs W).map λr=>T.str r.2.1)=((qdh s rs W).map λr=>r.2.1).map T.str by rw[List.map_map]; rfl] at c1
 have hi:dI (dFz (qjn qf7 (dQF (qaE 1 [] (dI (dV 4)) (gN 0) (qcx) (dB gIx (dV 0) (dC (.int 1))))))) (w6 s rs (.ow (acc.map qam)) (.fz (.int W)) (.fz (qan (qdh s rs W))) x5)= .ok ((qc1 ((qdh s rs W).map λr=>r.2.1)).map T.str):=by
  show ((((qaE 1 [] (dI (dV 4)) (gN 0) (qcx) (dB gIx (dV 0) (dC (.int 1))) (w6 s rs (.ow (acc.map qam)) (.fz (.int W)) (.fz (qan (qdh s rs W))) x5))>>=λts=>Rs.ok (true,ts))>>=qf7)>>=λts=>Rs.ok (T.lst ts))>>=qc2=_
  rw[c1,qag,qag,qjb hh]
  rfl
 obtain ⟨ρ',e,y5,er⟩:=qdT (dg:=gN 5) (f:=T.str) (db:=qdo 2 (qbd (qab (dB gSub (dB qa0 (dB qdM (dV 3) (dV 0)) (dV 0)) (dC (.int 1))) (qab (dV 5) (qab (dCQ qjH (dQF (qaE 1 [5] (dI (dV 4)) (gN 0) (dTB (dB gEq (dB gIx (dV 0) (dC (.int 1))) (dV 1))) (dB gIx (dV 0) (dC (.int 2)))))) (qaq))))))
  (λdn ρ=> ∃y5,ρ=w6 s rs (.ow ((acc++dn.map λk=>qjI s rs (W,k)).map qam)) (.fz (.int W)) (.fz (qan (qdh s rs W))) y5)
  (qc1 ((qdh s rs W).map λr=>r.2.1)) (qc1 ((qdh s rs W).map λr=>r.2.1)) [] (w6 s rs (.ow (acc.map qam)) (.fz (.int W)) (.fz (qan (qdh s rs W))) x5) rfl
  (λdn k qce ρ hw ⟨y5,er⟩=>by
   subst er
   refine ⟨_,_,rfl,.inl (AS.app_row (x:=qjI s rs (W,k)) rfl ?_ ?_),.fz (.str k),?_⟩
   ·have c2:qaE 1 [5] (dI (dV 4)) (gN 0) (dTB (dB gEq (dB gIx (dV 0) (dC (.int 1))) (dV 1))) (dB gIx (dV 0) (dC (.int 2))) (w6 s rs (.ow ((acc++dn.map λk=>qjI s rs (W,k)).map qam)) (.fz (.int W)) (.fz (qan (qdh s rs W))) (.fz (.str k)))= .ok (((qdh s rs W).filter λr=>r.2.1==k).map λr=>T.int r.2.2):=qbj (f:=qam) rfl λr hr=>⟨rfl,λ_=>rfl⟩
    rw[show (((qdh s rs W).filter λr=>r.2.1==k).map λr=>T.int r.2.2)=(((qdh s rs W).filter λr=>r.2.1==k).map λr=>r.2.2).map T.int by rw[List.map_map]; rfl] at c2
    have m:((-1000000:Int)<=W/\W<=1000000)\/((-1000000:Int)<=s/\s<=1000000):=.inr ⟨by lia,by lia⟩
    refine qqv ?_ rfl ?_
    ·show ((qdM (.int W) (.int s)>>=λa=>qa0 a (.int s))>>=λa=>gSub a (.int 1))=_
     rw[qeo,if_pos m]
     rfl
    ·show ((qaE 1 [5] (dI (dV 4)) (gN 0) (dTB (dB gEq (dB gIx (dV 0) (dC (.int 1))) (dV 1))) (dB gIx (dV 0) (dC (.int 2))) (w6 s rs (.ow ((acc++dn.map λk=>qjI s rs (W,k)).map qam)) (.fz (.int W)) (.fz (qan (qdh s rs W))) (.fz (.str k)))>>=λts=>Rs.ok (true,ts))>>=qjH)=_
     rw[c2,qag,qag,qfK,qmn]
   ·have:=congrArg List.length hw
    rw[List.length_append,List.length_cons] at this
    rw[List.length_append,List.length_map]
    lia
   ·rw[show (dn++[k]).map (λk=>qjI s rs (W,k))=dn.map (λk=>qjI s rs (W,k))++[qjI s rs (W,k)] from List.map_append,<-List.append_assoc]
    rfl) ⟨x5,by rw[List.map_nil,List.append_nil]⟩
 subst er
 refine ⟨y5,?_⟩
 unfold bW qeS
 rw[hi,qag,e]
end
end K11
end
section
set_option maxHeartbeats 400000
namespace K11
open PySem L2 PL SetL
open AS (IS Stp qbe qbC qbU qcr qeH qeB qd1 qee qcj qda qbQ no qad qeM sds plc qbz qbc)
open SR (Ris srt qb3 qbm qbE qcf qbG)
section
variable {s:Int} {rs:List Row} {x0 x2 x3 x4 x5:Sl}
def qi3 (s:Int) (rs:List Row) (dn:List Int):List Row:=(dn.flatMap λW=>(qc1 ((qdh s rs W).map λr=>r.2.1)).map λk=>((W,k):IS)).map (qjI s rs)
theorem qky (dn:List Int) (W:Int):qi3 s rs (dn++[W])=qi3 s rs dn++(qc1 ((qdh s rs W).map λr=>r.2.1)).map λk=>qjI s rs (W,k):=by
 unfold qi3
 rw[List.flatMap_append,List.map_append,List.flatMap_cons,List.flatMap_nil,List.append_nil,List.map_map (l:=qc1 _)]
 rfl
theorem qmY {dn qce:List Int} {W:Int} (hw:dn++W::qce=qcF (rs.map λr=>r.1 / s)):(qi3 s rs dn).length+(qc1 ((qdh s rs W).map λr=>r.2.1)).length<=rs.length:=by
 have lf:=qm5 s rs
 unfold flat at lf
 rw[<-hw,List.flatMap_append,List.flatMap_cons,List.length_append,List.length_append,List.length_map] at lf
 unfold qi3
 rw[List.length_map]
 lia
abbrev bC:Ro->Rs Out:=qbr 4 (dFz (qaE 1 [0,3] (dI (dV 1)) (gN 0) (dTB (dB gEq (dB qfH (dB gIx (dV 0) (dC (.int 0))) (dV 1)) (dV 2))) (dV 0)))
theorem qsx (hs:0<s/\s<=1000) (W:Int):bC (w6 s rs x2 (.fz (.int W)) x4 x5)= .ok (.nx (w6 s rs x2 (.fz (.int W)) (.fz (qan (qdh s rs W))) x5)):=by
 have c2:qaE 1 [0,3] (dI (dV 1)) (gN 0) (dTB (dB gEq (dB qfH (dB gIx (dV 0) (dC (.int 0))) (dV 1)) (dV 2))) (dV 0) (w6 s rs x2 (.fz (.int W)) x4 x5)= .ok ((qdh s rs W).map qam):=qbj (f:=qam) rfl λr hr=>⟨by
  show ((qfH (.int r.1) (.int s)>>=λa=>gEq a (.int W))>>=λt=>match t with | .bl b=>Rs.ok b | _=>.no)=_
  rw[qlh,if_pos ⟨hs.1,by lia⟩]
  rfl,λ_=>rfl⟩
 unfold bC qbr dFz
 rw[c2]
 rfl
theorem qsy (hs:0<s/\s<=1000) (hl:rs.length<64): ∃y3 y4 y5,qc3 (gN 3) (qaJ bC bW) ((qcF (rs.map λr=>r.1 / s)).map T.int) (w6 s rs (.ow []) .no .no .no)= .ok (.nx (w6 s rs (.ow ((qi3 s rs (qcF (rs.map λr=>r.1 / s))).map qam)) y3 y4 y5)):=by
 obtain ⟨ρ',e,y3,y4,y5,er⟩:=qdT (dg:=gN 3) (f:=T.int) (db:=qaJ bC bW) (λdn ρ=> ∃y3 y4 y5,ρ=w6 s rs (.ow ((qi3 s rs dn).map qam)) y3 y4 y5)
  (qcF (rs.map λr=>r.1 / s)) (qcF (rs.map λr=>r.1 / s)) [] (w6 s rs (.ow []) .no .no .no) rfl
  (λdn W qce ρ hw hI=>by
   obtain ⟨y3,y4,y5,er⟩:=hI
   subst er
   have:=qmY hw
   obtain ⟨z5,ez⟩:=qva hs hl (qi3 s rs dn) W y5 (by lia)
   refine ⟨w6 s rs (.ow ((qi3 s rs dn).map qam)) (.fz (.int W)) y4 y5,w6 s rs (.ow ((qi3 s rs (dn++[W])).map qam)) (.fz (.int W)) (.fz (qan (qdh s rs W))) z5,rfl,.inl (qad (qsx hs W) ?_),_,_,_,rfl⟩
   rw[qky]
   exact ez) ⟨_,_,_,rfl⟩
 exact ⟨y3,y4,y5,er▸e⟩
theorem qlo (hs:0<s/\s<=1000) (hl:rs.length<64):qqz [.int s,qan rs]= .ok (qan (qbU s rs)):=by
 have c1:qaE 1 [0] (dI (dV 1)) (gN 0) (qcx) (dB qfH (dB gIx (dV 0) (dC (.int 0))) (dV 1)) (w6 s rs (.ow []) .no .no .no)= .ok ((rs.filter λ_=>true).map λr=>T.int (r.1 / s)):=qbj (f:=qam) rfl λr hr=>⟨rfl,λ_=>by
  show qfH (.int r.1) (.int s)=_
  rw[qlh,if_pos ⟨hs.1,by lia⟩]⟩
 rw[fy,show (rs.map λr=>T.int (r.1 / s))=(rs.map λr=>r.1 / s).map T.int by rw[List.map_map]; rfl] at c1
 obtain ⟨y3,y4,y5,e⟩:=qsy hs hl
 have hi:qeS (dI (dFz (qjn qdI (dQF (qaE 1 [0] (dI (dV 1)) (gN 0) (qcx) (dB qfH (dB gIx (dV 0) (dC (.int 0))) (dV 1))))))) (gN 3) (qaJ bC bW) (w6 s rs (.ow []) .no .no .no)= .ok (.nx (w6 s rs (.ow ((qi3 s rs (qcF (rs.map λr=>r.1 / s))).map qam)) y3 y4 y5)):=by
  have hj:dI (dFz (qjn qdI (dQF (qaE 1 [0] (dI (dV 1)) (gN 0) (qcx) (dB qfH (dB gIx (dV 0) (dC (.int 0))) (dV 1)))))) (w6 s rs (.ow []) .no .no .no)= .ok ((qcF (rs.map λr=>r.1 / s)).map T.int):=by
   show ((((qaE 1 [0] (dI (dV 1)) (gN 0) (qcx) (dB qfH (dB gIx (dV 0) (dC (.int 0))) (dV 1)) (w6 s rs (.ow []) .no .no .no))>>=λts=>Rs.ok (true,ts))>>=qdI)>>=λts=>Rs.ok (T.lst ts))>>=qc2=_
   rw[c1,qag,qag,qg7 (by rw[List.length_map]; exact hl)]
   rfl
  unfold qeS
  rw[hj,qag,e]
 rw[qhG,show (flat s rs).map (qjI s rs)=qi3 s rs (qcF (rs.map λr=>r.1 / s)) from rfl]
 generalize qi3 s rs (qcF (rs.map λr=>r.1 / s))=o at hi
 have f0:qdz 2 (qcU (qaq)) (w6 s rs .no .no .no .no)= .ok (.nx (w6 s rs (.ow []) .no .no .no)):=rfl
 have f2:qsn (w6 s rs .no .no .no .no)= .ok (.rt (qan o)):=by
  unfold qsn
  exact qad f0 (qad hi rfl)
 show (qsn (w6 s rs .no .no .no .no)>>=outT)=_
 rw[f2]
 rfl
end
end K11
end
section
set_option maxHeartbeats 400000
namespace K11
open PySem L2 PL SetL
open AS (IS Stp qbe qbC qbU qcr qeH qeB qd1 qee qcj qda qbQ no qad qfQ)
open SR (Ris)
abbrev qb7 (xs:List Int):T:=.lst (xs.map T.int)
def bef (pre:List Row) (k:Str):List Int:=(pre.filter λr=>r.2.1==k).map λr=>r.2.2
def quO (pre:List Row) (r:Row):List Row:=[(r.1,r.2.1,(bef pre r.2.1).sum+r.2.2)]
def qsp (pre:List Row) (r:Row):List Row:=match (bef pre r.2.1).getLast? with | some x=>[(r.1,r.2.1,r.2.2 - x)] | none=>[]
def qr6 (pre:List Row) (r:Row):List Row:=if (bef pre r.2.1).getLast? =some r.2.2 then [] else [r]
def qep (g:List Row->Row->List Row):List Row->List Row->List Row
 | _,[]=>[]
 | pre,r::rs=>g pre r++qep g (pre++[r]) rs
theorem qiJ (pre:List Row) (r:Row) (k:Str):bef (pre++[r]) k=bef pre k++(if r.2.1=k then [r.2.2] else []):=by
 unfold bef
 rw[List.filter_append,List.map_append]
 by_cases h:r.2.1=k
 ·simp[h]
 ·simp[h]
theorem qkR (pre:List Row) (r:Row) (k:Str):(bef (pre++[r]) k).getLast? =if r.2.1=k then some r.2.2 else (bef pre k).getLast? :=by
 rw[qiJ]
 by_cases h:r.2.1=k
 ·simp[h]
 ·simp[h]
theorem qio: ∀(rs pre:List Row) (f:Str->Option Int),(∀k,(f k).getD 0=(bef pre k).sum)->qep quO pre rs=qeH f rs
 | [],_,_,_=>rfl
 | r::rs,pre,f,h=>by
  unfold qep qeH
  rw[qio rs (pre++[r]) (qfQ f r.2.1 (some ((f r.2.1).getD 0+r.2.2)))]
  ·rw[h]; rfl
  ·intro k
   rw[qiJ,List.sum_append]
   unfold qfQ
   by_cases e:k=r.2.1
   ·rw[if_pos e,if_pos e.symm,e]
    show (f r.2.1).getD 0+r.2.2=_
    rw[h]; simp
   ·rw[if_neg e,if_neg (Ne.symm e),h]; simp
theorem quM {f:Str->Option Int} {pre:List Row} (h: ∀k,f k=(bef pre k).getLast?) (r:Row): ∀k,qfQ f r.2.1 (some r.2.2) k=(bef (pre++[r]) k).getLast? :=λk=>by
 rw[qkR]
 unfold qfQ
 by_cases e:k=r.2.1
 ·rw[if_pos e,if_pos e.symm]
 ·rw[if_neg e,if_neg (Ne.symm e),h]
theorem qip: ∀(rs pre:List Row) (f:Str->Option Int),(∀k,f k=(bef pre k).getLast?)->qep qsp pre rs=qeB f rs
 | [],_,_,_=>rfl
 | r::rs,pre,f,h=>by
  unfold qep qeB
  rw[qip rs (pre++[r]) _ (quM h r),h]
  rfl
theorem qin: ∀(rs pre:List Row) (f:Str->Option Int),(∀k,f k=(bef pre k).getLast?)->qep qr6 pre rs=qd1 f rs
 | [],_,_,_=>rfl
 | r::rs,pre,f,h=>by
  unfold qep qd1
  rw[qin rs (pre++[r]) _ (quM h r),h]
  rfl
theorem qpj (xs:List Int):okT 8 (qb7 xs)=true:=by show (xs.map T.int).all (okT 7)=true; rw[List.all_map,List.all_eq_true]; intro _ _; rfl
theorem qpB (ys:List Int) (x:Int):gIx (qb7 (ys++[x])) (.int (-1))= .ok (.int x):=by
 have e:atI ((ys++[x]).map T.int) (-1)=some (.int x):=by
  unfold atI ixN
  rw[if_neg (by decide),if_pos (by simp; omega)]
  show ((ys++[x]).map T.int)[(-1+(((ys++[x]).map T.int).length:Int)).toNat]? =_
  rw[show (-1+(((ys++[x]).map T.int).length:Int)).toNat=ys.length by simp; omega]
  simp
 show (match atI ((ys++[x]).map T.int) (-1) with | some t=>Rs.ok t | none=>.no)=_
 rw[e]
theorem qnG (ys:List Int) (x:Int):qez ((ys++[x]).map T.int) (some (-1)) none=[.int x]:=by
 unfold qez
 rw[HT.sIx_none,show HT.sIx ((ys++[x]).map T.int).length 0 (some (-1))=ys.length by
  show (if (-1:Int)<0 then (-1+(((ys++[x]).map T.int).length:Int)).toNat else min (-1:Int).toNat ((ys++[x]).map T.int).length)=_
  rw[if_pos (by decide)]; simp; omega]
 simp
theorem qvI (ys:List Int) (x:Int):gNe (qb7 (ys++[x])) (.lst [])= .ok (.bl true):=by
 unfold gNe
 rw[if_pos ⟨qpj _,rfl⟩]
 cases ys<;>rfl
section
variable {z:Str} {rs:List Row} {x3 x4 x5:Sl}
abbrev k6 (z:Str) (rs:List Row) (acc:List Row) (b c d:Sl):Ro:=[.fz (.str z),.fz (qan rs),.ow (acc.map qam),b,c,d]
abbrev bB:Ro->Rs Out:=qbr 5 (dFz (qaE 1 [4] (dI (dFz (qiF (dQV 1) (dON) (dOS (dV 3))))) (gN 0) (dTB (dB gEq (dB gIx (dV 0) (dC (.int 1))) (dB gIx (dV 1) (dC (.int 1))))) (dB gIx (dV 0) (dC (.int 2)))))
abbrev bI:Ro->Rs Out:=dIf (dTB (dB gEq (dV 0) (dC (.str "running")))) (qdo 2 (qbd (qab (dB gIx (dV 4) (dC (.int 0))) (qab (dB gIx (dV 4) (dC (.int 1))) (qab (dB qa0 (dCQ qjH (dQV 5)) (dB gIx (dV 4) (dC (.int 2)))) (qaq)))))) (dIf (qe6 (dTB (dB gEq (dV 0) (dC (.str "change")))) (dTB (dB gNe (dV 5) (dFz (qcU (qaq)))))) (qdo 2 (qbd (qab (dB gIx (dV 4) (dC (.int 0))) (qab (dB gIx (dV 4) (dC (.int 1))) (qab (dB gSub (dB gIx (dV 4) (dC (.int 2))) (dB gIx (dV 5) (qdA (dC (.int 1))))) (qaq)))))) (dIf (qe6 (dTB (dB gEq (dV 0) (dC (.str "unlike")))) (dTB (dB gNe (dFz (qiF (dQV 5) (dOS (qdA (dC (.int 1)))) (dON))) (dFz (qcU (qab (dB gIx (dV 4) (dC (.int 2))) (qaq))))))) (qdo 2 (dV 4)) (qaA)))
theorem qud {pre post acc:List Row} {r:Row} (hr:rs=pre++r::post):bB (k6 z rs acc (.fz (.int (pre.length:Nat))) (.fz (qam r)) x5)= .ok (.nx (k6 z rs acc (.fz (.int (pre.length:Nat))) (.fz (qam r)) (.fz (qb7 (bef pre r.2.1))))):=by
 have ht:rs.take pre.length=pre:=by rw[hr]; simp
 have c1:qaE 1 [4] (dI (dFz (qiF (dQV 1) (dON) (dOS (dV 3))))) (gN 0) (dTB (dB gEq (dB gIx (dV 0) (dC (.int 1))) (dB gIx (dV 1) (dC (.int 1))))) (dB gIx (dV 0) (dC (.int 2))) (k6 z rs acc (.fz (.int (pre.length:Nat))) (.fz (qam r)) x5)= .ok ((pre.filter λa=>a.2.1==r.2.1).map λa=>T.int a.2.2):=by
  refine qbj (f:=qam) ?_ λa ha=>⟨rfl,λ_=>rfl⟩
  show Rs.ok (qez (rs.map qam) none (some ((pre.length:Nat):Int)))=_
  rw[AS.cut_take (α:=Unit),<-List.map_take,ht]
 unfold bB qbr dFz at*
 rw[c1]
 show Rs.ok (Out.nx _)=_
 unfold qb7 bef
 rw[List.map_map]
 rfl
theorem qub {pre acc:List Row} {r:Row} (hb:acc.length<=900):bI (k6 "running" rs acc x3 (.fz (qam r)) (.fz (qb7 (bef pre r.2.1))))= .ok (.nx (k6 "running" rs (acc++quO pre r) x3 (.fz (qam r)) (.fz (qb7 (bef pre r.2.1))))):=by
 refine qgL (by kernel_rfl) (AS.app_row (x:=(r.1,r.2.1,(bef pre r.2.1).sum+r.2.2)) rfl (qqv rfl rfl ?_) hb)
 show (qjH (true,(bef pre r.2.1).map T.int)>>=λa=>qa0 a (.int r.2.2))=_
 rw[qfK]
 rfl
theorem qfb {c d:Ro->Rs Bool} {ρ:Ro} {r:Rs Bool} (h:c ρ= .ok true) (h2:d ρ=r):qe6 c d ρ=r:=by
 unfold qe6; rw[h,qag,if_pos rfl]; exact h2
theorem qc5 {c d:Ro->Rs Bool} {ρ:Ro} (h:c ρ= .ok false):qe6 c d ρ= .ok false:=by
 unfold qe6; rw[h,qag,if_neg Bool.false_ne_true]
theorem quc {pre acc:List Row} {r:Row} (hb:acc.length<=900):bI (k6 "change" rs acc x3 (.fz (qam r)) (.fz (qb7 (bef pre r.2.1))))= .ok (.nx (k6 "change" rs (acc++qsp pre r) x3 (.fz (qam r)) (.fz (qb7 (bef pre r.2.1))))):=by
 refine qbB (by kernel_rfl) ?_
 unfold qsp
 rcases List.eq_nil_or_concat (bef pre r.2.1) with e | ⟨ys,x,e⟩
 ·rw[e]
  show _=Rs.ok (Out.nx (k6 "change" rs (acc++[]) x3 _ _))
  rw[List.append_nil]
  exact qbB (qfb (by kernel_rfl) rfl) (qbB (qc5 (by kernel_rfl)) rfl)
 ·rw[List.concat_eq_append] at e
  rw[e]
  rw[show (ys++[x]).getLast? =some x by simp]
  refine qgL (qfb (by kernel_rfl) ?_) (AS.app_row (x:=(r.1,r.2.1,r.2.2 - x)) rfl (qqv rfl rfl ?_) hb)
  ·show (gNe (qb7 (ys++[x])) (.lst [])>>=λt=>match t with | .bl b=>Rs.ok b | _=>.no)=_
   rw[qvI]
   rfl
  ·show (gIx (qb7 (ys++[x])) (.int (-1))>>=λb=>gSub (.int r.2.2) b)=_
   rw[qpB]
   rfl
theorem qua {pre acc:List Row} {r:Row} (hb:acc.length<=900):bI (k6 "unlike" rs acc x3 (.fz (qam r)) (.fz (qb7 (bef pre r.2.1))))= .ok (.nx (k6 "unlike" rs (acc++qr6 pre r) x3 (.fz (qam r)) (.fz (qb7 (bef pre r.2.1))))):=by
 refine qbB (by kernel_rfl) (qbB (qc5 (by kernel_rfl)) ?_)
 unfold qr6
 rcases List.eq_nil_or_concat (bef pre r.2.1) with e | ⟨ys,x,e⟩
 ·rw[e,if_neg (by intro h; cases h)]
  exact qgL (qfb (by kernel_rfl) rfl) (AS.app_row rfl rfl hb)
 ·rw[List.concat_eq_append] at e
  rw[e]
  rw[show (ys++[x]).getLast? =some x by simp]
  have t:qe6 (dTB (dB gEq (dV 0) (dC (.str "unlike")))) (dTB (dB gNe (dFz (qiF (dQV 5) (dOS (qdA (dC (.int 1)))) (dON))) (dFz (qcU (qab (dB gIx (dV 4) (dC (.int 2))) (qaq)))))) (k6 "unlike" rs acc x3 (.fz (qam r)) (.fz (qb7 (ys++[x]))))= .ok (!(x==r.2.2)):=by
   refine qfb (by kernel_rfl) ?_
   show (gNe (.lst (qez ((ys++[x]).map T.int) (some (-1)) none)) (.lst [.int r.2.2])>>=λt=>match t with | .bl b=>Rs.ok b | _=>.no)=_
   rw[qnG]
   show Rs.ok (!((x==r.2.2)&&true))=_
   rw[Bool.and_true]
  by_cases h:x=r.2.2
  ·rw[show (x==r.2.2)=true by simpa using h] at t
   rw[if_pos (congrArg some h),List.append_nil]
   exact qbB t rfl
  ·rw[show (x==r.2.2)=false by simpa using h] at t
   rw[if_neg (λz=>h (by injection z))]
   exact qgL t (AS.app_row rfl rfl hb)
theorem qoc {g:List Row->Row->List Row} (hg: ∀(pre acc:List Row) (r:Row) (x3:Sl),acc.length<=900->bI (k6 z rs acc x3 (.fz (qam r)) (.fz (qb7 (bef pre r.2.1))))= .ok (.nx (k6 z rs (acc++g pre r) x3 (.fz (qam r)) (.fz (qb7 (bef pre r.2.1)))))) (g1: ∀pre r,(g pre r).length<=1):
  ∀(qce pre acc:List Row) (x3 x4 x5:Sl),rs=pre++qce->acc.length+qce.length<=900->∃y3 y4 y5,qc3 (gT 2 (gsC (gN 3) (gsC (gN 4) (gsN)))) (qaJ bB bI) ((qce.zipIdx pre.length).map λx=>T.tup [.int (x.2:Nat),qam x.1]) (k6 z rs acc x3 x4 x5)= .ok (.nx (k6 z rs (acc++qep g pre qce) y3 y4 y5))
 | [],pre,acc,x3,x4,x5,_,_=>⟨x3,x4,x5,by show Rs.ok (Out.nx (k6 z rs acc x3 x4 x5))=Rs.ok (Out.nx (k6 z rs (acc++[]) x3 x4 x5)); rw[List.append_nil]⟩
 | r::qce,pre,acc,x3,x4,x5,hr,hl=>by
  rw[List.length_cons] at hl
  have h1:=g1 pre r
  have b:=qad (qud (z:=z) (acc:=acc) (x5:=x5) hr) (hg pre acc r (.fz (.int (pre.length:Nat))) (by omega))
  obtain ⟨y3,y4,y5,e⟩:=qoc hg g1 qce (pre++[r]) (acc++g pre r) (.fz (.int (pre.length:Nat))) (.fz (qam r)) (.fz (qb7 (bef pre r.2.1))) (by rw[hr]; simp) (by rw[List.length_append]; omega)
  refine ⟨y3,y4,y5,?_⟩
  rw[List.zipIdx_cons,List.map_cons]
  rw[List.length_append,List.length_singleton,List.append_assoc] at e
  show ((qaJ bB bI (k6 z rs acc (.fz (.int (pre.length:Nat))) (.fz (qam r)) x5))>>=_)=_
  rw[b]
  exact e
theorem qus {g:List Row->Row->List Row} (hg: ∀(pre acc:List Row) (r:Row) (x3:Sl),acc.length<=900->bI (k6 z rs acc x3 (.fz (qam r)) (.fz (qb7 (bef pre r.2.1))))= .ok (.nx (k6 z rs (acc++g pre r) x3 (.fz (qam r)) (.fz (qb7 (bef pre r.2.1)))))) (g1: ∀pre r,(g pre r).length<=1) (hl:rs.length<=900):qma [.str z,qan rs]= .ok (qan (qep g [] rs)):=by
 obtain ⟨y3,y4,y5,e⟩:=qoc hg g1 rs [] [] .no .no .no rfl (by rw[List.length_nil]; omega)
 have f0:qdz 2 (qcU (qaq)) [.fz (.str z),.fz (qan rs),.no,.no,.no,.no]= .ok (.nx (k6 z rs [] .no .no .no)):=rfl
 have f1:qeS (qoo (qab (dV 1) (qaq))) (gT 2 (gsC (gN 3) (gsC (gN 4) (gsN)))) (qaJ bB bI) (k6 z rs [] .no .no .no)= .ok (.nx (k6 z rs (qep g [] rs) y3 y4 y5)):=by
  have hi:qoo (qab (dV 1) (qaq)) (k6 z rs [] .no .no .no)= .ok (rs.zipIdx.map λx=>T.tup [.int (x.2:Nat),qam x.1]):=by
   show Rs.ok (((rs.map qam).zipIdx).map λp=>T.tup [.int p.2,p.1])=_
   rw[List.zipIdx_map,List.map_map]
   rfl
  unfold qeS
  rw[hi,qag]
  exact e
 generalize qep g [] rs=o at*
 have f2:qsm [.fz (.str z),.fz (qan rs),.no,.no,.no,.no]= .ok (.rt (qan o)):=by
  unfold qsm
  exact qad f0 (qad f1 rfl)
 show (qsm [.fz (.str z),.fz (qan rs),.no,.no,.no,.no]>>=outT)=_
 rw[f2]
 rfl
theorem qlq (hl:rs.length<=900):qma [.str "running",qan rs]= .ok (qan (qeH no rs)):=by
 rw[<-qio rs [] no λ_=>rfl]
 exact qus (λpre acc r x3 h=>qub h) (λ_ _=>Nat.le_refl _) hl
theorem qnv (hl:rs.length<=900):qma [.str "change",qan rs]= .ok (qan (qeB no rs)):=by
 rw[<-qip rs [] no λ_=>rfl]
 exact qus (λpre acc r x3 h=>quc h) (λpre r=>by unfold qsp; split<;>simp) hl
theorem qns (hl:rs.length<=900):qma [.str "unlike",qan rs]= .ok (qan (qd1 no rs)):=by
 rw[<-qin rs [] no λ_=>rfl]
 exact qus (λpre acc r x3 h=>qua h) (λpre r=>by unfold qr6; split<;>simp) hl
end
end K11
end
section
set_option maxHeartbeats 400000
namespace K11
open PySem L2 PL SetL
open AS (IS Stp qbe qbC qbU qcr qeH qeB qd1 qee qcj qda qbQ no qad qfQ)
open SR (Ris)
theorem qhE {n:Int} (hn:0<=n): ∀(rs:List Row) (o:Nat),(((rs.zipIdx o).filter λx=>decide (((x.2:Nat):Int)<n)).map λx=>x.1)=rs.take (n.toNat - o)
 | [],o=>by simp
 | r::rs,o=>by
  have ih:=qhE hn rs (o+1)
  rw[List.zipIdx_cons,List.filter_cons]
  by_cases h:(o:Int)<n
  ·rw[if_pos (by simpa using h),List.map_cons,ih,show n.toNat - o=(n.toNat - (o+1))+1 by omega,List.take_succ_cons]
  ·rw[if_neg (by simpa using h),ih,show n.toNat - o=0 by omega,show n.toNat - (o+1)=0 by omega,List.take_zero,List.take_zero]
theorem rng {n:Nat} (hn:0<n): ∀L:Nat,(List.range L).filter (λi=>i % n==n - 1)=(List.range (L / n)).map λk=>n*k+(n - 1)
 | 0=>by rw[Nat.zero_div]; rfl
 | L+1=>by
  rw[List.range_succ,List.filter_append,rng hn L]
  have hd:=Nat.div_add_mod L n
  have hm:=Nat.mod_lt L hn
  by_cases h:L % n=n - 1
  ·rw[show (L+1) / n=L / n+1 from by
    have:L+1=n*(L / n+1):=by rw[Nat.mul_add]; omega
    rw[this,Nat.mul_div_cancel_left _ hn]]
   rw[List.range_succ,List.map_append]
   congr 1
   rw[List.filter_cons,if_pos (by simpa using h)]
   show [L]=[n*(L / n)+(n - 1)]
   congr 1
   omega
  ·rw[show (L+1) / n=L / n from by
    rw[Nat.div_eq_iff hn]
    constructor
    ·rw[Nat.mul_comm]; omega
    ·rw[Nat.mul_comm]; omega]
   rw[List.filter_cons,if_neg (by simpa using h)]
   simp
theorem qmf {n:Nat} (hn:0<n) (rs:List Row):((rs.zipIdx.filter λx=>x.2 % n==n - 1).map λx=>x.1)=qcr (n:Int) rs:=by
 rw[AS.eachR_at rs hn]
 have e: ∀(l:List Row) (o:Nat) (f:Nat->Bool),(((l.zipIdx o).filter λx=>f x.2).map λx=>x.1)=((List.range l.length).filter λi=>f (o+i)).filterMap λi=>l[i]? :=λl=>by
  induction l with
  | nil=>intro o f; rfl
  | cons r l ih=>
   intro o f
   rw[List.zipIdx_cons,List.filter_cons,List.length_cons,List.range_succ_eq_map,List.filter_cons,List.filter_map]
   have i2:=ih (o+1) f
   have q:(List.filter ((λi=>f (o+i))∘Nat.succ) (List.range l.length)).map Nat.succ=(List.filter (λi=>f (o+1+i)) (List.range l.length)).map Nat.succ:=by
    congr 1
    refine List.filter_congr λi _=> ?_
    show f (o+(i+1))=f (o+1+i)
    congr 1
    omega
   rw[q]
   have w:((List.filter (λi=>f (o+1+i)) (List.range l.length)).map Nat.succ).filterMap (λi=>(r::l)[i]?)=(List.filter (λi=>f (o+1+i)) (List.range l.length)).filterMap λi=>l[i]? :=by
    rw[List.filterMap_map]
    rfl
   by_cases h:f o=true
   ·rw[if_pos h,if_pos (by simpa using h),List.map_cons,i2,List.filterMap_cons,w]
    rfl
   ·rw[if_neg h,if_neg (by simpa using h),i2,w]
 rw[e rs 0 λi=>i % n==n - 1]
 simp only[Nat.zero_add]
 rw[rng hn,List.filterMap_map]
 rfl
end K11
end
section
set_option maxHeartbeats 400000
namespace K11
open PySem L2 PL SetL
open AS (IS Stp qbe qbC qbU qcr qeH qeB qd1 qee qcj qda qbQ no qad qfQ)
open SR (Ris)
theorem qgT {d:Ro->Rs (List T)} {ρ:Ro} {o:List Row} (h:d ρ= .ok (o.map qam)):qa4 (dFz d) ρ= .ok (.rt (qan o)):=by
 unfold qa4 dFz; rw[h]; rfl
section
variable {st:Stp} {rs:List Row} {n:Int} {k w:Str}
theorem qd3 {t X r:T} (h:qiD [.fz t,.fz X,.no]= .ok (.rt r)):qfG [t,X]= .ok r:=by
 show (qiD [.fz t,.fz X,.no]>>=outT)=_
 rw[h]
 rfl
abbrev s3 (st:Stp) (rs:List Row) (w:Str):Ro:=[.fz st.t,.fz (qan rs),.fz (.str w)]
theorem zipT (hi:Ro) (h:hi[1]? =some (.fz (qan rs))):qoo (qab (dV 1) (qaq)) hi= .ok (rs.zipIdx.map λx=>T.tup [.int (x.2:Nat),qam x.1]):=by
 have e:qab (dV 1) qaq hi= .ok [qan rs]:=by unfold qab dV; rw[h]; rfl
 unfold qoo
 rw[e]
 show Rs.ok (((rs.map qam).zipIdx).map λp=>T.tup [.int p.2,p.1])=_
 rw[List.zipIdx_map,List.map_map]
 rfl
theorem qqQ:qfG [(Stp.key k).t,qan rs]= .ok (qan ((Stp.key k).run rs)):=by
 refine qd3 ?_
 unfold qiD
 refine qad (ρ':=s3 (.key k) rs "key") (by kernel_rfl) (qcd (qgL (by kernel_rfl) (qcd (qgL (by kernel_rfl) (qgT ?_)))))
 exact qbj (f:=qam) rfl λr hr=>⟨rfl,λ_=>rfl⟩
theorem ql0 (a b:Int):((decide (b<a)==true)&& !(a==b))=decide (b<a):=by
 by_cases h:b<a
 ·have:a≠b:=by omega
  simp[h,this]
 ·simp[h]
theorem qju (a b:Int):((decide (b<a)==false)&& !(a==b))=decide (a<b):=by
 by_cases h:b<a
 ·have: ¬a<b:=by omega
  simp[h,this]
 ·by_cases e:a=b
  ·simp[e]
  ·have:a<b:=by omega
   simp[h,e,this]
theorem qoT:qfG [(Stp.over n).t,qan rs]= .ok (qan ((Stp.over n).run rs)):=by
 refine qd3 ?_
 unfold qiD
 refine qad (ρ':=s3 (.over n) rs "over") (by kernel_rfl) (qcd (qgL (by kernel_rfl) (qad (qbB (by kernel_rfl) rfl) (qgT ?_))))
 refine qbj (f:=qam) (p:=λr:Row=>decide (n<r.2.2)) rfl λr hr=>⟨?_,λ_=>rfl⟩
 rw[<-ql0 r.2.2 n]
 show (Rs.ok (decide (n<r.2.2)==true)>>=λc=>if c=true then Rs.ok (!(r.2.2==n)) else Rs.ok false)=_
 cases (decide (n<r.2.2)==true)<;>rfl
theorem qmA:qfG [(Stp.under n).t,qan rs]= .ok (qan ((Stp.under n).run rs)):=by
 refine qd3 ?_
 unfold qiD
 refine qad (ρ':=s3 (.under n) rs "under") (by kernel_rfl) (qcd (qgL (by kernel_rfl) (qad (qbB (by kernel_rfl) rfl) (qgT ?_))))
 refine qbj (f:=qam) (p:=λr:Row=>decide (r.2.2<n)) rfl λr hr=>⟨?_,λ_=>rfl⟩
 rw[<-qju r.2.2 n]
 show (Rs.ok (decide (n<r.2.2)==false)>>=λc=>if c=true then Rs.ok (!(r.2.2==n)) else Rs.ok false)=_
 cases (decide (n<r.2.2)==false)<;>rfl
theorem qoS:qfG [(Stp.plus n).t,qan rs]= .ok (qan ((Stp.plus n).run rs)):=by
 refine qd3 ?_
 unfold qiD
 refine qad (ρ':=s3 (.plus n) rs "plus") (by kernel_rfl) (qad (qbB (by kernel_rfl) rfl) (qcd (qgL (by kernel_rfl) (qgT ?_))))
 rw[show ((Stp.plus n).run rs).map qam=(rs.filter λ_=>true).map λr=>qam (r.1,r.2.1,r.2.2+n) by
  rw[fy]; show (rs.map _).map qam=_; rw[List.map_map]; rfl]
 exact qbj (f:=qam) rfl λr hr=>⟨rfl,λ_=>qqv rfl rfl rfl⟩
theorem qmB (hn: -20<=n/\n<=20):qfG [(Stp.times n).t,qan rs]= .ok (qan ((Stp.times n).run rs)):=by
 refine qd3 ?_
 unfold qiD
 refine qad (ρ':=s3 (.times n) rs "times") (by kernel_rfl) (qad (qbB (by kernel_rfl) rfl) (qad (qbB (by kernel_rfl) rfl) (qcd (qgL (by kernel_rfl) (qgT ?_)))))
 rw[show ((Stp.times n).run rs).map qam=(rs.filter λ_=>true).map λr=>qam (r.1,r.2.1,r.2.2*n) by
  rw[fy]; show (rs.map _).map qam=_; rw[List.map_map]; rfl]
 refine qbj (f:=qam) rfl λr hr=>⟨rfl,λ_=>qqv rfl rfl ?_⟩
 show qdM (.int r.2.2) (.int n)=_
 rw[qeo,if_pos (.inr ⟨by omega,by omega⟩)]
theorem qmD (hn:1<=n):qfG [(Stp.first n).t,qan rs]= .ok (qan ((Stp.first n).run rs)):=by
 refine qd3 ?_
 unfold qiD
 refine qad (ρ':=s3 (.first n) rs "first") (by kernel_rfl) (qad (qbB (by kernel_rfl) rfl) (qad (qbB (by kernel_rfl) rfl) (qad (qbB (by kernel_rfl) rfl) (qcd (qgL (by kernel_rfl) (qgT ?_))))))
 have z:=qhE (n:=n) (by omega) rs 0
 rw[show ((Stp.first n).run rs).map qam=(rs.zipIdx.filter λx=>decide (((x.2:Nat):Int)<n)).map λx=>qam x.1 by
  show (rs.take n.toNat).map qam=_; rw[<-Nat.sub_zero n.toNat,<-z,List.map_map]; rfl]
 exact qlK (a:=λx:Row×Nat=>T.int (x.2:Nat)) (b:=λx=>qam x.1) (zipT _ rfl) λx hx=>⟨rfl,λ_=>rfl⟩
theorem qoU (hn:1<=n):qfG [(Stp.each n).t,qan rs]= .ok (qan ((Stp.each n).run rs)):=by
 refine qd3 ?_
 unfold qiD
 refine qad (ρ':=s3 (.each n) rs "each") (by kernel_rfl) (qad (qbB (by kernel_rfl) rfl) (qad (qbB (by kernel_rfl) rfl) (qad (qbB (by kernel_rfl) rfl) (qad (qbB (by kernel_rfl) rfl) (qcd (qgL (by kernel_rfl) (qgT ?_)))))))
 obtain ⟨m,rfl⟩: ∃m:Nat,n=(m:Int):=⟨n.toNat,by omega⟩
 have z:=qmf (n:=m) (by omega) rs
 rw[show ((Stp.each (m:Int)).run rs).map qam=(rs.zipIdx.filter λx=>x.2 % m==m - 1).map λx=>qam x.1 by
  show (qcr (m:Int) rs).map qam=_; rw[<-z,List.map_map]; rfl]
 refine qlK (a:=λx:Row×Nat=>T.int (x.2:Nat)) (b:=λx=>qam x.1) (zipT _ rfl) λx hx=>⟨?_,λ_=>rfl⟩
 show ((qmd (.int (x.2:Nat)) (.int (m:Nat))>>=λa=>gEq a (.int ((m:Nat) - 1)))>>=λt=>match t with | .bl b=>Rs.ok b | _=>.no)=_
 rw[qgc,if_pos (by omega)]
 show Rs.ok (((x.2:Nat):Int) % (m:Nat)==((m:Nat):Int) - 1)=Rs.ok (x.2 % m==m - 1)
 rw[show (((x.2:Nat):Int) % (m:Nat)==((m:Nat):Int) - 1)=(x.2 % m==m - 1) by
  rw[Bool.eq_iff_iff,beq_iff_eq,beq_iff_eq]; omega]
theorem qj6 (hn:1<=n/\n<=20) (hl:rs.length<64):qfG [(Stp.window n).t,qan rs]= .ok (qan ((Stp.window n).run rs)):=by
 refine qd3 ?_
 unfold qiD
 refine qad (ρ':=s3 (.window n) rs "window") (by kernel_rfl) (qad (qbB (by kernel_rfl) rfl) (qad (qbB (by kernel_rfl) rfl) (qad (qbB (by kernel_rfl) rfl) (qad (qbB (by kernel_rfl) rfl) (qad (qbB (by kernel_rfl) rfl) (qcd (qgL (by kernel_rfl) ?_)))))))
 show (qqz [.int n,qan rs]>>=λt=>Rs.ok (Out.rt t))=_
 rw[qlo ⟨by omega,by omega⟩ hl]
 rfl
theorem qqP (hl:rs.length<64):qfG [Stp.running.t,qan rs]= .ok (qan (Stp.running.run rs)):=by
 refine qd3 ?_
 unfold qiD
 refine qad (ρ':=s3 .running rs "running") (by kernel_rfl) (qad (qbB (by kernel_rfl) rfl) (qad (qbB (by kernel_rfl) rfl) (qad (qbB (by kernel_rfl) rfl) (qad (qbB (by kernel_rfl) rfl) (qad (qbB (by kernel_rfl) rfl) (qad (qbB (by kernel_rfl) rfl) ?_))))))
 show (qma [.str "running",qan rs]>>=λt=>Rs.ok (Out.rt t))=_
 rw[qlq (by omega)]
 rfl
theorem qqS (hl:rs.length<64):qfG [Stp.change.t,qan rs]= .ok (qan (Stp.change.run rs)):=by
 refine qd3 ?_
 unfold qiD
 refine qad (ρ':=s3 .change rs "change") (by kernel_rfl) (qad (qbB (by kernel_rfl) rfl) (qad (qbB (by kernel_rfl) rfl) (qad (qbB (by kernel_rfl) rfl) (qad (qbB (by kernel_rfl) rfl) (qad (qbB (by kernel_rfl) rfl) (qad (qbB (by kernel_rfl) rfl) ?_))))))
 show (qma [.str "change",qan rs]>>=λt=>Rs.ok (Out.rt t))=_
 rw[qnv (by omega)]
 rfl
theorem qqO (hl:rs.length<64):qfG [Stp.unlike.t,qan rs]= .ok (qan (Stp.unlike.run rs)):=by
 refine qd3 ?_
 unfold qiD
 refine qad (ρ':=s3 .unlike rs "unlike") (by kernel_rfl) (qad (qbB (by kernel_rfl) rfl) (qad (qbB (by kernel_rfl) rfl) (qad (qbB (by kernel_rfl) rfl) (qad (qbB (by kernel_rfl) rfl) (qad (qbB (by kernel_rfl) rfl) (qad (qbB (by kernel_rfl) rfl) ?_))))))
 show (qma [.str "unlike",qan rs]>>=λt=>Rs.ok (Out.rt t))=_
 rw[qns (by omega)]
 rfl
theorem qlp (ok:st.ok) (hl:rs.length<64):qfG [st.t,qan rs]= .ok (qan (st.run rs)):=by
 cases st with
 | key k=>exact qqQ
 | over n=>exact qoT
 | under n=>exact qmA
 | plus n=>exact qoS
 | times n=>exact qmB ok
 | first n=>exact qmD ok.1
 | each n=>exact qoU ok.1
 | window n=>exact qj6 ok hl
 | running=>exact qqP hl
 | change=>exact qqS hl
 | unlike=>exact qqO hl
end
theorem qou (x0:Sl): ∀(ask:List Stp) (rs:List Row) (y:Sl),(∀st∈ask,st.ok)->rs.length<64->∃y',qc3 (gN 2) (qbr 1 (qau qfG (qab (dV 2) (qab (dV 1) (qaq))))) (ask.map Stp.t) [x0,.fz (qan rs),y]= .ok (.nx [x0,.fz (qan (qbC ask rs)),y'])
 | [],rs,y,_,_=>⟨y,rfl⟩
 | st::ask,rs,y,ok,hl=>by
  have ok1:=ok st List.mem_cons_self
  have hl':=AS.step_len ok1 rs
  obtain ⟨y',ih⟩:=qou x0 ask (st.run rs) (.fz st.t) (λx hx=>ok x (List.mem_cons_of_mem _ hx)) (by omega)
  refine ⟨y',?_⟩
  rw[List.map_cons]
  unfold qc3
  show ((qfG [st.t,qan rs]>>=λt=>Rs.ok (Out.nx [x0,.fz t,.fz st.t]))>>=(λo=>qml o _))=_
  rw[qlp ok1 hl]
  exact ih
theorem qhl {ask:List Stp} {rs:List Row} (ok: ∀st∈ask,st.ok) (hl:rs.length<64):qhL [qbe ask,qan rs]= .ok (qan (qbC ask rs)):=by
 obtain ⟨y',e⟩:=qou (.fz (qbe ask)) ask rs .no ok hl
 have f1:qsl [.fz (qbe ask),.fz (qan rs),.no]= .ok (.rt (qan (qbC ask rs))):=by
  unfold qsl
  refine qad (ρ':=[.fz (qbe ask),.fz (qan (qbC ask rs)),y']) ?_ rfl
  unfold qeS
  exact e
 show (qsl [.fz (qbe ask),.fz (qan rs),.no]>>=outT)=_
 rw[f1]
 rfl
end K11
end
section
set_option maxHeartbeats 400000
namespace K11
open PySem L2 PL SetL
open AS (IS Stp qbe qbC qbU qcr qeH qeB qd1 qee qcj qda qbQ no qad qfQ)
open SR (Ris)
abbrev R (a b c d e f g h i j:Sl):Ro:=[a,b,c,d,e,f,g,h,i,j]
theorem qqa {ask:List Stp} (ok: ∀st∈ask,st.ok) (h5:ask.length<=5) {rs:List Row} (hL:Log rs) (hl:rs.length<64):t_42 [qbe ask,qan rs]= .ok (qan (qbC ask rs)):=AS.asked_t ok h5 hL hl
theorem quF {ask:List Stp} (ok: ∀st∈ask,st.ok) (h5:ask.length<=5) {rs:List Row} (hL:Log rs) (hl:rs.length<64):o_42 [qbe ask,qan rs]= .ok (.ow ((qbC ask rs).map qam)):=AS.asked_run ok h5 hL hl
theorem qnH (ts:List T) (n:Nat):qez ts (some (n:Int)) none=ts.drop n:=by
 unfold qez
 rw[HT.sIx_none,HT.sIx_nat]
 by_cases h:n<=ts.length
 ·rw[Nat.min_eq_left h,List.take_of_length_le (by rw[List.length_drop]; omega)]
 ·rw[Nat.min_eq_right (by omega),List.drop_eq_nil_of_le (Nat.le_refl _),List.drop_eq_nil_of_le (by omega)]
  exact List.take_nil
theorem qp6 {o:List T} {x:T}:qez (o++[x]) none (some (-1))=o:=by
 unfold qez
 rw[HT.sIx_none,show HT.sIx (o++[x]).length (o++[x]).length (some (-1))=o.length by
  show (if (-1:Int)<0 then (-1+((o++[x]).length:Int)).toNat else min (-1:Int).toNat (o++[x]).length)=_
  rw[if_pos (by decide)]; simp; omega]
 simp
theorem qj9: ∀(a b:List Stp) (rs:List Row),qbC (a++b) rs=qbC b (qbC a rs)
 | [],_,_=>rfl
 | st::a,b,rs=>qj9 a b (st.run rs)
theorem qnq {n:Int} (hn:1<=n) {rs:List Row} {r:Row} (h:r∈qcr n rs):r∈rs:=by
 obtain ⟨m,rfl⟩: ∃m:Nat,n=(m:Int):=⟨n.toNat,by omega⟩
 rw[AS.eachR_at rs (by omega)] at h
 obtain ⟨i,_,e⟩:=List.mem_filterMap.mp h
 exact List.mem_of_getElem? e
abbrev qek (rs:List Row) (r:Row):Bool:= !((rs.map qam).any λu=>PL.eqT u (qam r))
theorem qpp {rs o:List Row} (h: ∀r∈o,r∈rs):o.filter (qek rs)=[]:=by
 refine List.filter_eq_nil_iff.mpr λr hr=> ?_
 have:((rs.map qam).any λu=>PL.eqT u (qam r))=true:=List.any_eq_true.mpr ⟨qam r,List.mem_map_of_mem (h r hr),qcC 7 _ rfl⟩
 unfold qek
 rw[this]
 decide
section
variable {st:Stp} {rs o:List Row} {x0 x1 x3 x4 x5 x6 x7 x8 x9:Sl}
abbrev q7:Ro->Rs Bool:=qe6 (dTB (dIn false (dB gIx (dV 7) (dC (.int 0))) (dQ (qbd (qab (dC (.str "key")) (qab (dC (.str "over")) (qab (dC (.str "under")) (qab (dC (.str "first")) (qab (dC (.str "each")) (qab (dC (.str "unlike")) (qaq))))))))))) (dTB (dB gNe (dV 9) (dFz (qcU (qaq)))))
abbrev q8:Ro->Rs Bool:=qe6 (dTB (dIn false (dB gIx (dV 7) (dC (.int 0))) (dQ (qbd (qab (dC (.str "plus")) (qab (dC (.str "times")) (qab (dC (.str "running")) (qaq)))))))) (dTB (dB gNe (qeE (dV 8)) (qeE (dV 2))))
theorem qrF (r:Row):qql true (qam r) (true,rs.map qam)= .ok (.bl (qek rs r)):=by
 unfold qql
 rw[if_pos ⟨rfl,qkF rs⟩]
 rfl
theorem qpy (ok:st.ok) (hL:Log rs) (hl:rs.length<64):(qbr 8 (qau t_42 (qab (qbd (qab (dV 7) (qaq))) (qab (dV 2) (qaq))))) (R x0 x1 (.fz (qan rs)) x3 x4 x5 x6 (.fz st.t) x8 x9)= .ok (.nx (R x0 x1 (.fz (qan rs)) x3 x4 x5 x6 (.fz st.t) (.fz (qan (st.run rs))) x9)):=by
 show (t_42 [qbe [st],qan rs]>>=λt=>Rs.ok (Out.nx (R x0 x1 (.fz (qan rs)) x3 x4 x5 x6 (.fz st.t) (.fz t) x9)))=_
 rw[qqa (λs hs=>by rw[List.mem_singleton.mp hs]; exact ok) (Nat.le_of_ble_eq_true rfl) hL hl]
 rfl
theorem qt8:(qbr 9 (dFz (qaE 1 [2] (dI (dV 8)) (gN 0) (dTB (dIn true (dV 0) (dQV 1))) (dV 0)))) (R x0 x1 (.fz (qan rs)) x3 x4 x5 x6 x7 (.fz (qan o)) x9)= .ok (.nx (R x0 x1 (.fz (qan rs)) x3 x4 x5 x6 x7 (.fz (qan o)) (.fz (qan (o.filter (qek rs)))))):=by
 have c:qaE 1 [2] (dI (dV 8)) (gN 0) (dTB (dIn true (dV 0) (dQV 1))) (dV 0) (R x0 x1 (.fz (qan rs)) x3 x4 x5 x6 x7 (.fz (qan o)) x9)= .ok ((o.filter (qek rs)).map qam):=by
  refine qbj (f:=qam) (p:=qek rs) rfl λr hr=>⟨?_,λ_=>rfl⟩
  show (qql true (qam r) (true,rs.map qam)>>=λt=>match t with | .bl b=>Rs.ok b | _=>.no)=_
  rw[qrF]
  rfl
 unfold qbr dFz
 rw[c]
 rfl
theorem qqh (h: ∀r∈st.run rs,r∈rs) (w:(dTB (dIn false (dB gIx (dV 7) (dC (.int 0))) (dQ (qbd (qab (dC (.str "key")) (qab (dC (.str "over")) (qab (dC (.str "under")) (qab (dC (.str "first")) (qab (dC (.str "each")) (qab (dC (.str "unlike")) (qaq))))))))))) (R x0 x1 (.fz (qan rs)) x3 x4 x5 x6 (.fz st.t) (.fz (qan (st.run rs))) (.fz (qan ((st.run rs).filter (qek rs)))))= .ok true):q7 (R x0 x1 (.fz (qan rs)) x3 x4 x5 x6 (.fz st.t) (.fz (qan (st.run rs))) (.fz (qan ((st.run rs).filter (qek rs)))))= .ok false:=by
 rw[qpp h] at*
 exact qfb w rfl
theorem qt7 (h:(st.run rs).length=rs.length) (w:(dTB (dIn false (dB gIx (dV 7) (dC (.int 0))) (dQ (qbd (qab (dC (.str "plus")) (qab (dC (.str "times")) (qab (dC (.str "running")) (qaq)))))))) (R x0 x1 (.fz (qan rs)) x3 x4 x5 x6 (.fz st.t) (.fz (qan (st.run rs))) x9)= .ok true):q8 (R x0 x1 (.fz (qan rs)) x3 x4 x5 x6 (.fz st.t) (.fz (qan (st.run rs))) x9)= .ok false:=by
 refine qfb w ?_
 show Rs.ok (!((((st.run rs).map qam).length:Int)==((rs.map qam).length:Int)))=_
 rw[List.length_map,List.length_map,h]
 simp
theorem qvL (ok:st.ok):q7 (R x0 x1 (.fz (qan rs)) x3 x4 x5 x6 (.fz st.t) (.fz (qan (st.run rs))) (.fz (qan ((st.run rs).filter (qek rs)))))= .ok false:=by
 cases st with
 | key k=>exact qqh (λr h=>(List.mem_filter.mp h).1) (by kernel_rfl)
 | over n=>exact qqh (λr h=>(List.mem_filter.mp h).1) (by kernel_rfl)
 | under n=>exact qqh (λr h=>(List.mem_filter.mp h).1) (by kernel_rfl)
 | first n=>exact qqh (λr h=>List.mem_of_mem_take h) (by kernel_rfl)
 | each n=>exact qqh (λr h=>qnq ok.1 h) (by kernel_rfl)
 | unlike=>exact qqh (λr h=>(AS.unl_sub no rs).subset h) (by kernel_rfl)
 | plus n=>exact qc5 (by kernel_rfl)
 | times n=>exact qc5 (by kernel_rfl)
 | window n=>exact qc5 (by kernel_rfl)
 | running=>exact qc5 (by kernel_rfl)
 | change=>exact qc5 (by kernel_rfl)
theorem qvK (ok:st.ok):q8 (R x0 x1 (.fz (qan rs)) x3 x4 x5 x6 (.fz st.t) (.fz (qan (st.run rs))) x9)= .ok false:=by
 cases st with
 | plus n=>exact qt7 (List.length_map ..) (by kernel_rfl)
 | times n=>exact qt7 (List.length_map ..) (by kernel_rfl)
 | running=>
  refine qt7 ?_ (by kernel_rfl)
  have:=congrArg List.length (AS.run_mo no rs)
  rw[List.length_map,List.length_map] at this
  exact this
 | key k=>exact qc5 (by kernel_rfl)
 | over n=>exact qc5 (by kernel_rfl)
 | under n=>exact qc5 (by kernel_rfl)
 | first n=>exact qc5 (by kernel_rfl)
 | each n=>exact qc5 (by kernel_rfl)
 | window n=>exact qc5 (by kernel_rfl)
 | change=>exact qc5 (by kernel_rfl)
 | unlike=>exact qc5 (by kernel_rfl)
abbrev bL:Ro->Rs Out:=qaJ (qbr 8 (qau t_42 (qab (qbd (qab (dV 7) (qaq))) (qab (dV 2) (qaq))))) (qaJ (qbr 9 (dFz (qaE 1 [2] (dI (dV 8)) (gN 0) (dTB (dIn true (dV 0) (dQV 1))) (dV 0)))) (qaJ (dIf (qe6 (dTB (dIn false (dB gIx (dV 7) (dC (.int 0))) (dQ (qbd (qab (dC (.str "key")) (qab (dC (.str "over")) (qab (dC (.str "under")) (qab (dC (.str "first")) (qab (dC (.str "each")) (qab (dC (.str "unlike")) (qaq))))))))))) (dTB (dB gNe (dV 9) (dFz (qcU (qaq)))))) (qa4 (dC (.bl false))) (qaA)) (dIf (qe6 (dTB (dIn false (dB gIx (dV 7) (dC (.int 0))) (dQ (qbd (qab (dC (.str "plus")) (qab (dC (.str "times")) (qab (dC (.str "running")) (qaq)))))))) (dTB (dB gNe (qeE (dV 8)) (qeE (dV 2))))) (qa4 (dC (.bl false))) (qaA))))
theorem qrm (ok:st.ok) (hL:Log rs) (hl:rs.length<64):bL (R x0 x1 (.fz (qan rs)) x3 x4 x5 x6 (.fz st.t) x8 x9)= .ok (.nx (R x0 x1 (.fz (qan rs)) x3 x4 x5 x6 (.fz st.t) (.fz (qan (st.run rs))) (.fz (qan ((st.run rs).filter (qek rs)))))):=
 qad (qpy ok hL hl) (qad qt8 (qad (qbB (qvL ok) rfl) (qbB (qvK ok) rfl)))
end
theorem qob {rs:List Row} (hL:Log rs) (hl:rs.length<64) (x0 x1 x3 x4 x5 x6:Sl): ∀(ask:List Stp) (x7 x8 x9:Sl),(∀st∈ask,st.ok)->∃y7 y8 y9,qc3 (gN 7) bL (ask.map Stp.t) (R x0 x1 (.fz (qan rs)) x3 x4 x5 x6 x7 x8 x9)= .ok (.nx (R x0 x1 (.fz (qan rs)) x3 x4 x5 x6 y7 y8 y9))
 | [],x7,x8,x9,_=>⟨x7,x8,x9,rfl⟩
 | st::ask,x7,x8,x9,ok=>by
  have ok1:=ok st List.mem_cons_self
  obtain ⟨y7,y8,y9,ih⟩:=qob hL hl x0 x1 x3 x4 x5 x6 ask (.fz st.t) (.fz (qan (st.run rs))) (.fz (qan ((st.run rs).filter (qek rs)))) λx hx=>ok x (List.mem_cons_of_mem _ hx)
  refine ⟨y7,y8,y9,?_⟩
  rw[List.map_cons]
  unfold qc3
  show (bL (R x0 x1 (.fz (qan rs)) x3 x4 x5 x6 (.fz st.t) x8 x9)>>=λo=>qml o _)=_
  rw[qrm ok1 hL hl]
  exact ih
end K11
end
section
set_option maxHeartbeats 400000
namespace K11
open PySem L2 PL SetL
open AS (IS Stp qbe qbC qbU qcr qeH qeB qd1 qee qcj qda qbQ no qad qfQ)
open SR (Ris)
theorem qtv {c d:Ro->Rs Bool} {ρ:Ro} {r:Rs Bool} (h:c ρ= .ok false) (h2:d ρ=r):dOr c d ρ=r:=by
 unfold dOr; rw[h,qag,if_neg Bool.false_ne_true]; exact h2
section
variable {ask:List Stp} {rs:List Row} {x0 x5 x6 x7 x8 x9:Sl}
theorem qoW (ok: ∀st∈ask,st.ok):qbC ask []=[]:=List.eq_nil_of_length_eq_zero (Nat.le_zero.mp (AS.runA_len ok []))
theorem x5_ (ok: ∀st∈ask,st.ok) (h5:ask.length<=4) (hL:Log rs) (hl:rs.length<64):(dIf (λρ=>(dOr (dTB (dQQ gNe (dQV 4) (qau qhL (qab (dV 1) (qab (dV 2) (qaq)))))) (dOr (dTB (dB gNe (dV 2) (dV 3))) (dOr (dTB (dB gNe (qau t_42 (qab (dV 1) (qab (dFz (qcU (qaq))) (qaq)))) (dFz (qcU (qaq))))) (dTB (dB qdi (qau t_33 (qab (dV 4) (qaq))) (dC (.bl true))))))) (frz 4 ρ)) (qa4 (dC (.bl false))) (qaA)) (R x0 (.fz (qbe ask)) (.fz (qan rs)) (.fz (qan rs)) (.ow ((qbC ask rs).map qam)) x5 x6 x7 x8 x9)= .ok (.nx (R x0 (.fz (qbe ask)) (.fz (qan rs)) (.fz (qan rs)) (.ow ((qbC ask rs).map qam)) x5 x6 x7 x8 x9)):=by
 refine qbB ?_ rfl
 show (dOr (dTB (dQQ gNe (dQV 4) (qau qhL (qab (dV 1) (qab (dV 2) (qaq)))))) (dOr (dTB (dB gNe (dV 2) (dV 3))) (dOr (dTB (dB gNe (qau t_42 (qab (dV 1) (qab (dFz (qcU (qaq))) (qaq)))) (dFz (qcU (qaq))))) (dTB (dB qdi (qau t_33 (qab (dV 4) (qaq))) (dC (.bl true))))))) (R x0 (.fz (qbe ask)) (.fz (qan rs)) (.fz (qan rs)) (.fz (qan (qbC ask rs))) x5 x6 x7 x8 x9)=_
 refine qtv ?_ (qtv ?_ (qtv ?_ ?_))
 ·show ((qhL [qbe ask,qan rs]>>=λy=>gNe (qan (qbC ask rs)) y)>>=λt=>match t with | .bl b=>Rs.ok b | _=>.no)=_
  rw[qhl ok hl,qag,qkJ]
  rfl
 ·show (gNe (qan rs) (qan rs)>>=λt=>match t with | .bl b=>Rs.ok b | _=>.no)=_
  rw[qkJ]
  rfl
 ·show ((t_42 [qbe ask,qan []]>>=λy=>gNe y (.lst []))>>=λt=>match t with | .bl b=>Rs.ok b | _=>.no)=_
  rw[qqa ok (by omega) (rs:=[]) ⟨(λ_ h=>by cases h),rfl⟩ (by decide),qoW ok]
  rfl
 ·show ((t_33 [qan (qbC ask rs)]>>=λy=>qdi y (.bl true))>>=λt=>match t with | .bl b=>Rs.ok b | _=>.no)=_
  rw[show t_33 [qan (qbC ask rs)]=_ from AS.e_is_log _,(qel _).mpr (AS.runA_ris ok hL.ris)]
  rfl
theorem x7_ {c:Nat} {x4:Sl} (ok: ∀st∈ask,st.ok) (hl:rs.length<64):(qbr 6 (dFz (qaE 1 [] (dI (qau qhL (qab (qqo (dV 1) (dON) (dOS (dV 5))) (qab (dV 2) (qaq))))) (gN 0) (qcx) (dV 0)))) (R x0 (.fz (qbe ask)) (.fz (qan rs)) (.fz (qan rs)) x4 (.fz (.int (c:Nat))) x6 x7 x8 x9)= .ok (.nx (R x0 (.fz (qbe ask)) (.fz (qan rs)) (.fz (qan rs)) x4 (.fz (.int (c:Nat))) (.fz (qan (qbC (ask.take c) rs))) x7 x8 x9)):=by
 have c1:qaE 1 [] (dI (qau qhL (qab (qqo (dV 1) (dON) (dOS (dV 5))) (qab (dV 2) (qaq))))) (gN 0) (qcx) (dV 0) (R x0 (.fz (qbe ask)) (.fz (qan rs)) (.fz (qan rs)) x4 (.fz (.int (c:Nat))) x6 x7 x8 x9)= .ok (((qbC (ask.take c) rs).filter λ_=>true).map qam):=by
  refine qbj (f:=qam) ?_ λr hr=>⟨rfl,λ_=>rfl⟩
  show (qhL [.tup (qez (ask.map Stp.t) none (some ((c:Nat):Int))),qan rs]>>=qc2)=_
  rw[AS.cut_take (α:=Unit),<-List.map_take,show T.tup ((ask.take c).map Stp.t)=qbe (ask.take c) from rfl,qhl (λst h=>ok st (List.mem_of_mem_take h)) hl]
  rfl
 rw[fy] at c1
 unfold qbr dFz
 rw[c1]
 rfl
theorem x8_ {c:Nat} (ok: ∀st∈ask,st.ok) (hl:rs.length<64):(dIf (dTB (dQQ gNe (dQV 4) (qau qhL (qab (qqo (dV 1) (dOS (dV 5)) (dON)) (qab (dV 6) (qaq)))))) (qa4 (dC (.bl false))) (qaA)) (R x0 (.fz (qbe ask)) (.fz (qan rs)) (.fz (qan rs)) (.ow ((qbC ask rs).map qam)) (.fz (.int (c:Nat))) (.fz (qan (qbC (ask.take c) rs))) x7 x8 x9)= .ok (.nx (R x0 (.fz (qbe ask)) (.fz (qan rs)) (.fz (qan rs)) (.ow ((qbC ask rs).map qam)) (.fz (.int (c:Nat))) (.fz (qan (qbC (ask.take c) rs))) x7 x8 x9)):=by
 refine qbB ?_ rfl
 have l1:=AS.runA_len (ask:=ask.take c) (λst h=>ok st (List.mem_of_mem_take h)) rs
 show ((qhL [.tup (qez (ask.map Stp.t) (some ((c:Nat):Int)) none),qan (qbC (ask.take c) rs)]>>=λy=>gNe (qan (qbC ask rs)) y)>>=λt=>match t with | .bl b=>Rs.ok b | _=>.no)=_
 rw[qnH,<-List.map_drop,show T.tup ((ask.drop c).map Stp.t)=qbe (ask.drop c) from rfl,qhl (λst h=>ok st (List.mem_of_mem_drop h)) (by omega),<-qj9,List.take_append_drop,qag,qkJ]
 rfl
end
theorem law_true {ns:List Int} (hn:ns.length<=63):t_law [.scr ns]= .ok (.bl true):=by
 obtain ⟨ask,ok,h4,ea⟩:=qut hn
 obtain ⟨rs,hL,n12,er⟩:=qrK hn (k:=100) (most:=12) (by decide) (by decide) (by decide) (by decide)
 have hl:rs.length<64:=by omega
 obtain ⟨c,c0,c1,ec⟩:=qbD hn (k:=80) (many:=(ask.length:Int)+1) (by decide) (by decide) (by omega)
 obtain ⟨m,rfl⟩: ∃m:Nat,c=(m:Int):=⟨c.toNat,by omega⟩
 obtain ⟨y7,y8,y9,el⟩:=qob hL hl (.fz (.scr ns)) (.fz (qbe ask)) (.fz (qan rs)) (.ow ((qbC ask rs).map qam)) (.fz (.int (m:Nat))) (.fz (qan (qbC (ask.take m) rs))) ask .no .no .no ok
 have l1:=AS.runA_len ok rs
 have h:qnE (R (.fz (.scr ns)) .no .no .no .no .no .no .no .no .no)= .ok (.rt (.bl true)):=by
  unfold qnE
  refine qad (ρ':=R (.fz (.scr ns)) (.fz (qbe ask)) .no .no .no .no .no .no .no .no) ?_ ?_
  ·show (qqy [.scr ns,.int 0,.int 4]>>=λt=>Rs.ok (Out.nx (R (.fz (.scr ns)) (.fz t) .no .no .no .no .no .no .no .no)))=_
   rw[ea]
   rfl
  refine qad (ρ':=R (.fz (.scr ns)) (.fz (qbe ask)) (.fz (qan rs)) .no .no .no .no .no .no .no) ?_ ?_
  ·show (qqf [.scr ns,.int 100,.int 12]>>=λt=>Rs.ok (Out.nx (R (.fz (.scr ns)) (.fz (qbe ask)) (.fz t) .no .no .no .no .no .no .no)))=_
   rw[er]
   rfl
  refine qad (ρ':=R (.fz (.scr ns)) (.fz (qbe ask)) (.fz (qan rs)) (.fz (qan rs)) .no .no .no .no .no .no) rfl ?_
  refine qad (ρ':=R (.fz (.scr ns)) (.fz (qbe ask)) (.fz (qan rs)) (.fz (qan rs)) (.ow ((qbC ask rs).map qam)) .no .no .no .no .no) ?_ ?_
  ·show (o_42 [qbe ask,qan rs]>>=λs=>Rs.ok (Out.nx (R (.fz (.scr ns)) (.fz (qbe ask)) (.fz (qan rs)) (.fz (qan rs)) s .no .no .no .no .no)))=_
   rw[quF ok (by omega) hL hl]
   rfl
  refine qad (x5_ ok h4 hL hl) ?_
  refine qad (ρ':=R (.fz (.scr ns)) (.fz (qbe ask)) (.fz (qan rs)) (.fz (qan rs)) (.ow ((qbC ask rs).map qam)) (.fz (.int (m:Nat))) .no .no .no .no) ?_ ?_
  ·show (qcb [.scr ns,.int 80,.int (((ask.map Stp.t).length:Int)+1)]>>=λt=>Rs.ok (Out.nx (R (.fz (.scr ns)) (.fz (qbe ask)) (.fz (qan rs)) (.fz (qan rs)) (.ow ((qbC ask rs).map qam)) (.fz t) .no .no .no .no)))=_
   rw[List.length_map,ec]
   rfl
  refine qad (x7_ ok hl) (qad (x8_ ok hl) (qad (ρ':=R (.fz (.scr ns)) (.fz (qbe ask)) (.fz (qan rs)) (.fz (qan rs)) (.ow ((qbC ask rs).map qam)) (.fz (.int (m:Nat))) (.fz (qan (qbC (ask.take m) rs))) y7 y8 y9) ?_ (qad (AS.app_row (x:=(0, "a",0)) rfl rfl (by omega)) ?_)))
  ·unfold qeS
   show qc3 (gN 7) bL (ask.map Stp.t) _=_
   exact el
  ·show ((t_42 [qbe ask,qan rs]>>=λa=>gEq a (.lst (qez ((qbC ask rs++[((0, "a",0):Row)]).map qam) none (some (-1)))))>>=λt=>Rs.ok (Out.rt t))=_
   rw[qqa ok (by omega) hL hl,List.map_append,List.map_cons,List.map_nil,qp6,qag,show gEq (qan (qbC ask rs)) (.lst ((qbC ask rs).map qam))=_ from qpJ (qn8 _)]
   rfl
 show (qnE (R (.fz (.scr ns)) .no .no .no .no .no .no .no .no .no)>>=outT)=_
 rw[h]
 rfl
end K11
end
section
namespace K11
open PySem L2 PL SetL
section
variable {P:Program} {w:World} {K:PySem.W.Frag} {mg:Str->Option Value} {base:Heap} {G:Gam} {C:Str->Addr}
theorem qtT {f:Addr} {fd:FuncData} (F:Fun K "_law_step" "_law_step" qtf f fd) (nb: ∀x∈namesX,mg x=none) (F_26:Kn P w K mg base G C "_law_key" ["_law_script", "_law_at"] 3 qiO) (F_17:Kn P w K mg base G C "_law_number" ["_law_script", "_law_at", "_law_most"] 3 qjF) (F_22:Kn P w K mg base G C "_law_pick" ["_law_script", "_law_k", "_law_many"] 2 qcb):qbf P w K mg base CX0 4 f fd ["_law_script", "_law_at"] (spP K G C qmm):=
 qbL F qmy λcdv A outer s H E hr=>by
 refine qae ?_ ?_
 ·refine qa1 (i:=2) ?_ ?_ ?_ ?_ ?_ ?_
  ·exact qmy.nd
  ·rfl
  ·first | exact Or.inl rfl | exact Or.inr rfl
  ·refine qaM ?_
   refine qbM ?_
   iterate 11 (refine qac qaD ?_ ?_; rotate_left 1; exact rfl)
   exact qak
  ·rfl
  ·first | exact .inl rfl | exact .inr rfl
 refine qae ?_ ?_
 ·exact qa1 (i:=2) qmy.nd rfl (by trivial) (qaI qat qaG qaH (qaa (pv 2)) (qao F_22 rfl (hr.mono (by decide)) rfl (qac (qaa (pv 0)) (qac (qaa (pv 1)) (qac (qaf) (qak))))) (λ_ _=>rfl))
 refine qae ?_ ?_
 ·exact qaZ (qaK (qaU (hu8 hr)) qbs qbt (qaa (pv 2)) (qaD)) (qai (qaC (qa3 (qac (qaa (pv 2)) (qac (qao F_26 rfl (hr.mono (by decide)) rfl (qac (qaa (pv 0)) (qac (qax qaB qaQ qaR (qaa (pv 1)) (qaf)) (qak)))) (qak)))))) (qaz)
 refine qae ?_ ?_
 ·exact qaZ (qlu (hu8 hr) (qaa (pv 2)) (qho (qa3 (qac (qaD) (qac (qaD) (qac (qaD) (qac (qaD) (qak)))))))) (qai (qaC (qa3 (qac (qaa (pv 2)) (qac (qao F_17 rfl (hr.mono (by decide)) rfl (qac (qaa (pv 0)) (qac (qax qaB qaQ qaR (qaa (pv 1)) (qaf)) (qac (qaf) (qak))))) (qak)))))) (qaz)
 refine qae ?_ ?_
 ·exact qaZ (qlu (hu8 hr) (qaa (pv 2)) (qho (qa3 (qac (qaD) (qac (qaD) (qac (qaD) (qak))))))) (qae (qa1 (i:=3) qmy.nd rfl (by trivial) (qax qaB qaQ qaR (qaf) (qao F_22 rfl (hr.mono (by decide)) rfl (qac (qaa (pv 0)) (qac (qax qaB qaQ qaR (qaa (pv 1)) (qaf)) (qac (qaf) (qak))))))) (qai (qaC (qa3 (qac (qaa (pv 2)) (qac (quw (qaK (qaU (hu8 hr)) qbs qbt (qaa (pv 3)) (qaf)) (qax qaB qaQ qaR (qaf) (qao F_22 rfl (hr.mono (by decide)) rfl (qac (qaa (pv 0)) (qac (qax qaB qaQ qaR (qaa (pv 1)) (qaf)) (qac (qaf) (qak)))))) (qaa (pv 3))) (qak))))))) (qaz)
 exact qai (qaC (qa3 (qac (qaa (pv 2)) (qak))))
end
end K11
end
section
namespace K11
open PySem L2 PL SetL
section
variable {P:Program} {w:World} {K:PySem.W.Frag} {mg:Str->Option Value} {base:Heap} {G:Gam} {C:Str->Addr}
theorem qt1 {f:Addr} {fd:FuncData} (F:Fun K "_law_stepped" "_law_stepped" qmE f fd) (nb: ∀x∈namesX,mg x=none) (F_12:Kn P w K mg base G C "_law_by_keys" ["_law_word", "_law_rows_here"] 1 qma) (F_11:Kn P w K mg base G C "_law_windows" ["_law_size", "_law_rows_here"] 1 qqz):qbf P w K mg base CX0 2 f fd ["_law_step_here", "_law_rows_here"] (spP K G C qfG):=
 qbL F qqM λcdv A outer s H E hr=>qae (qa1 (i:=2) qqM.nd rfl (by trivial) (qaI qat qaG qaH (qaa (pv 0)) (qaf) (λ_ _=>rfl))) (qae (qaZ (qlu (hu8 hr) (qaa (pv 2)) (qho (qa3 (qac (qaD) (qac (qaD) (qac (qaD) (qak))))))) (qae (qaZ (qaK (qaU (hu8 hr)) qbs qbt (qaa (pv 2)) (qaD)) (qai (qaC (qaM (qaW (own:=["_law_row"]) (fr:=[("_law_step_here",0)]) rfl (qaT (qaa (pv 1))) (qbi) rfl (by decide+kernel) (by decide+kernel) (RH.fr_ok (sd:=qah qmE) rfl (by decide+kernel)) (by trivial) (λfp s3 H3=>⟨qaS (qar (i:=0) (show (["_law_row", "_law_step_here"]:List Str).Nodup by decide+kernel) rfl (by trivial)),qcl (qaK (qaU (hu8 hr)) qbs qbt (qaI qat qaG qaH (qaa (pv 0)) (qaf) (λ_ _=>rfl)) (qaI qat qaG qaH (qaa (pv 1)) (qaf) (λ_ _=>rfl))),qaa (pv 0)⟩))))) (qaz)) (qai (qaC (qaM (qaW (own:=["_law_row"]) (fr:=[("_law_step_here",0),("_law_word",2)]) rfl (qaT (qaa (pv 1))) (qbi) rfl (by decide+kernel) (by decide+kernel) (RH.fr_ok (sd:=qah qmE) rfl (by decide+kernel)) (λp hp=>by simp only[List.mem_cons,List.not_mem_nil,or_false] at hp; rcases hp with rfl | rfl<;>exact ⟨rfl,rfl⟩) (λfp s3 H3=>⟨qaS (qar (i:=0) (show (["_law_row", "_law_step_here", "_law_word"]:List Str).Nodup by decide+kernel) rfl (by trivial)),qcl (qji (qe4 (qaK (qaU (hu8 hr)) qbs qbt (qgo qkE qkb qks (qaI qat qaG qaH (qaa (pv 0)) (qaf) (λ_ _=>rfl)) (qaI qat qaG qaH (qaa (pv 1)) (qaf) (λ_ _=>rfl))) (qgo (qaU (hu8 hr)) qbs qbt (qaa (pv 2)) (qaD))) (qdw (qaK (qcm (hu8 hr)) qeI qeJ (qaI qat qaG qaH (qaa (pv 0)) (qaf) (λ_ _=>rfl)) (qaI qat qaG qaH (qaa (pv 1)) (qaf) (λ_ _=>rfl)))))),qaa (pv 0)⟩)))))) (qaz)) (qae (qaZ (qaK (qaU (hu8 hr)) qbs qbt (qaa (pv 2)) (qaD)) (qai (qaC (qaM (qaW (own:=["_law_row"]) (fr:=[("_law_step_here",0)]) rfl (qaT (qaa (pv 1))) (qbi) rfl (by decide+kernel) (by decide+kernel) (RH.fr_ok (sd:=qah qmE) rfl (by decide+kernel)) (by trivial) (λfp s3 H3=>⟨qaS (qar (i:=0) (show (["_law_row", "_law_step_here"]:List Str).Nodup by decide+kernel) rfl (by trivial)),qbb,qa3 (qac (qaI qat qaG qaH (qaa (pv 0)) (qaf) (λ_ _=>rfl)) (qac (qaI qat qaG qaH (qaa (pv 0)) (qaf) (λ_ _=>rfl)) (qac (qax qaB qaQ qaR (qaI qat qaG qaH (qaa (pv 0)) (qaf) (λ_ _=>rfl)) (qaI qat qaG qaH (qaa (pv 1)) (qaf) (λ_ _=>rfl))) (qak))))⟩))))) (qaz)) (qae (qaZ (qaK (qaU (hu8 hr)) qbs qbt (qaa (pv 2)) (qaD)) (qai (qaC (qaM (qaW (own:=["_law_row"]) (fr:=[("_law_step_here",0)]) rfl (qaT (qaa (pv 1))) (qbi) rfl (by decide+kernel) (by decide+kernel) (RH.fr_ok (sd:=qah qmE) rfl (by decide+kernel)) (by trivial) (λfp s3 H3=>⟨qaS (qar (i:=0) (show (["_law_row", "_law_step_here"]:List Str).Nodup by decide+kernel) rfl (by trivial)),qbb,qa3 (qac (qaI qat qaG qaH (qaa (pv 0)) (qaf) (λ_ _=>rfl)) (qac (qaI qat qaG qaH (qaa (pv 0)) (qaf) (λ_ _=>rfl)) (qac (qax qcn qd5 qeb (qaI qat qaG qaH (qaa (pv 0)) (qaf) (λ_ _=>rfl)) (qaI qat qaG qaH (qaa (pv 1)) (qaf) (λ_ _=>rfl))) (qak))))⟩))))) (qaz)) (qae (qaZ (qaK (qaU (hu8 hr)) qbs qbt (qaa (pv 2)) (qaD)) (qai (qaC (qaM (qaW (own:=["_law_k", "_law_row"]) (fr:=[("_law_step_here",0)]) rfl (qhr rfl (nb "enumerate" (by decide)) (qac (qaa (pv 1)) (qak))) (qld (qcg (qbi) (qcg (qbi) (qgb)))) rfl (by decide+kernel) (by decide+kernel) (RH.fr_ok (sd:=qah qmE) rfl (by decide+kernel)) (by trivial) (λfp s3 H3=>⟨qcS rfl (qaF (qaS (qar (i:=0) (show (["_law_k", "_law_row", "_law_step_here"]:List Str).Nodup by decide+kernel) rfl (by trivial))) (qaF (qaS (qar (i:=1) (show (["_law_k", "_law_row", "_law_step_here"]:List Str).Nodup by decide+kernel) rfl (by trivial))) (qbW))),qcl (qaK qg1 qoX qo7 (qaa (pv 0)) (qaI qat qaG qaH (qaa (pv 2)) (qaf) (λ_ _=>rfl))),qaa (pv 1)⟩))))) (qaz)) (qae (qaZ (qaK (qaU (hu8 hr)) qbs qbt (qaa (pv 2)) (qaD)) (qai (qaC (qaM (qaW (own:=["_law_k", "_law_row"]) (fr:=[("_law_step_here",0)]) rfl (qhr rfl (nb "enumerate" (by decide)) (qac (qaa (pv 1)) (qak))) (qld (qcg (qbi) (qcg (qbi) (qgb)))) rfl (by decide+kernel) (by decide+kernel) (RH.fr_ok (sd:=qah qmE) rfl (by decide+kernel)) (by trivial) (λfp s3 H3=>⟨qcS rfl (qaF (qaS (qar (i:=0) (show (["_law_k", "_law_row", "_law_step_here"]:List Str).Nodup by decide+kernel) rfl (by trivial))) (qaF (qaS (qar (i:=1) (show (["_law_k", "_law_row", "_law_step_here"]:List Str).Nodup by decide+kernel) rfl (by trivial))) (qbW))),qcl (qaK (qaU (hu8 hr)) qbs qbt (qax qef qka qkr (qaa (pv 0)) (qaI qat qaG qaH (qaa (pv 2)) (qaf) (λ_ _=>rfl))) (qax qcN qcJ qcL (qaI qat qaG qaH (qaa (pv 2)) (qaf) (λ_ _=>rfl)) (qaf))),qaa (pv 1)⟩))))) (qaz)) (qae (qaZ (qaK (qaU (hu8 hr)) qbs qbt (qaa (pv 2)) (qaD)) (qai (qaC (qao F_11 rfl (hr.mono (by decide)) rfl (qac (qaI qat qaG qaH (qaa (pv 0)) (qaf) (λ_ _=>rfl)) (qac (qaa (pv 1)) (qak)))))) (qaz)) (qai (qaC (qao F_12 rfl (hr.mono (by decide)) rfl (qac (qaa (pv 2)) (qac (qaa (pv 1)) (qak))))))))))))
theorem qvH {f:Addr} {fd:FuncData} (F:Fun K "refuse_what_is_no_row" "refuse_what_is_no_row" s_0 f fd) (nb: ∀x∈namesX,mg x=none) (F_32:Kn P w K mg base G C "is_row" ["thing"] 3 t_32):qbf P w K mg base CX0 4 f fd ["rows"] (spP K G C t_0):=
 qbL F qvr λcdv A outer s H E hr=>qai (qaZ (qcs (qcR (qiB (qaO (qdY rfl) rfl (nb "all" (by decide)) qdZ (qas (qbT (qaW (own:=["row"]) (fr:=[]) rfl (qaT (qaa (pv 0))) (qbi) rfl (by decide+kernel) (by decide+kernel) (λy hy e=>absurd e ((by decide+kernel: ∀y∈_,y.2≠NameKind.free) y hy)) (λp hp=>nomatch hp) (λfp s3 H3=>⟨qaS (qar (i:=0) (show (["row"]:List Str).Nodup by decide+kernel) rfl (by trivial)),qbb,qao F_32 rfl (hr.mono (by decide)) rfl (qac (qaa (pv 0)) (qak))⟩))) qaL))))) (qes) (qaz))
theorem qtV {f:Addr} {fd:FuncData} (F:Fun K "_law_asked" "_law_asked" qtj f fd) (nb: ∀x∈namesX,mg x=none) (F_10:Kn P w K mg base G C "_law_stepped" ["_law_step_here", "_law_rows_here"] 2 qfG):qbf P w K mg base CX0 3 f fd ["_law_ask_here", "_law_rows_here"] (spP K G C qhL):=
 qbL F qoR λcdv A outer s H E hr=>qae (qcv PassesOwn.never rfl (qaT (qaa (pv 0))) (qaS (qar (i:=2) qoR.nd rfl (by trivial))) (qai (qa1 (i:=1) qoR.nd rfl (by trivial) (qao F_10 rfl (hr.mono (by decide)) rfl (qac (qaa (pv 2)) (qac (qaa (pv 1)) (qak))))))) (qai (qaC (qaa (pv 1))))
end
end K11
end
section
namespace K11
open PySem L2 PL SetL
section
variable {P:Program} {w:World} {K:PySem.W.Frag} {mg:Str->Option Value} {base:Heap} {G:Gam} {C:Str->Addr}
theorem qrg {f:Addr} {fd:FuncData} (F:Fun K "law" "law" qj7 f fd) (nb: ∀x∈namesX,mg x=none) (F_27:Kn P w K mg base G C "_law_ask" ["_law_script", "_law_at", "_law_most"] 5 qqy) (F_20:Kn P w K mg base G C "_law_asked" ["_law_ask_here", "_law_rows_here"] 3 qhL) (F_22:Kn P w K mg base G C "_law_pick" ["_law_script", "_law_k", "_law_many"] 2 qcb) (F_23:Kn P w K mg base G C "_law_rows" ["_law_script", "_law_at", "_law_most"] 4 qqf) (F_42:KnS P w K mg base G C "asked" ["ask", "rows"] 6 o_42) (F_33:Kn P w K mg base G C "is_log" ["rows"] 1 t_33):qbf P w K mg base CX0 7 f fd ["_law_script"] (spP K G C t_law):=
 qbL F qcI λcdv A outer s H E hr=>qae (qa1 (i:=1) qcI.nd rfl (by trivial) (qao F_27 rfl (hr.mono (by decide)) rfl (qac (qaa (pv 0)) (qac (qaf) (qac (qaf) (qak)))))) (qae (qa1 (i:=2) qcI.nd rfl (by trivial) (qao F_23 rfl (hr.mono (by decide)) rfl (qac (qaa (pv 0)) (qac (qaf) (qac (qaf) (qak)))))) (qae (qa1 (i:=3) qcI.nd rfl (by trivial) (qaM (qlA (qed qdK rfl (nb "list" (by decide)) qgB (qas (qaV (pv 2)) qaL))))) (qae (qlv (j:=4) qcI.nd rfl (by trivial) (qh1 F_42 rfl (hr.mono (by decide)) rfl (qac (qaa (pv 1)) (qac (qaa (pv 2)) (qak))))) (qae (qaZ (qpL 4 (qji (qeR (qoj (hu8 hr) (qaV (pv 4)) (qao F_20 rfl (hr.mono (by decide)) rfl (qac (qaa (pv 1)) (qac (qaa (pv 2)) (qak))))) (qeR (qaK (qcm (hu8 hr)) qeI qeJ (qaa (pv 2)) (qaa (pv 3))) (qeR (qaK (qcm (hu8 hr)) qeI qeJ (qao F_42.kn rfl (hr.mono (by decide)) rfl (qac (qaa (pv 1)) (qac (qaM (qbM (qak))) (qak)))) (qaM (qbM (qak)))) (qer (qaK qkD qmF qmL (qao F_33 rfl (hr.mono (by decide)) rfl (qac (qaa (pv 4)) (qak))) (qev)))))))) (qai (qaC (qev))) (qaz)) (qae (qa1 (i:=5) qcI.nd rfl (by trivial) (qao F_22 rfl (hr.mono (by decide)) rfl (qac (qaa (pv 0)) (qac (qaf) (qac (qax qaB qaQ qaR (qbO rfl (nb "len" (by decide)) (qaa (pv 1))) (qaf)) (qak)))))) (qae (qb8 (i:=6) (own:=["_law_row"]) (fr:=[]) rfl (qaT (qao F_20 rfl (hr.mono (by decide)) rfl (qac (qon (qaa (pv 1)) (qcw) (qb9 (qaa (pv 5)))) (qac (qaa (pv 2)) (qak))))) (qbi) rfl (by decide+kernel) (by decide+kernel) (λy hy e=>absurd e ((by decide+kernel: ∀y∈_,y.2≠NameKind.free) y hy)) (λp hp=>nomatch hp) (λfp s3 H3=>⟨qaS (qar (i:=0) (show (["_law_row"]:List Str).Nodup by decide+kernel) rfl (by trivial)),qbb,qaa (pv 0)⟩) qcI.nd rfl rfl) (qae (qaZ (qoj (hu8 hr) (qaV (pv 4)) (qao F_20 rfl (hr.mono (by decide)) rfl (qac (qon (qaa (pv 1)) (qb9 (qaa (pv 5))) (qcw)) (qac (qaa (pv 6)) (qak))))) (qai (qaC (qev))) (qaz)) (qae (qcv PassesOwn.never rfl (qaT (qaa (pv 1))) (qaS (qar (i:=7) qcI.nd rfl (by trivial))) (qae (qa1 (i:=8) qcI.nd rfl (by trivial) (qao F_42.kn rfl (hr.mono (by decide)) rfl (qac (qa3 (qac (qaa (pv 7)) (qak))) (qac (qaa (pv 2)) (qak))))) (qae (qb8 (i:=9) (own:=["_law_row"]) (fr:=[("_law_rows_here",2)]) rfl (qaT (qaa (pv 8))) (qbi) rfl (by decide+kernel) (by decide+kernel) (RH.fr_ok (sd:=qah qj7) rfl (by decide+kernel)) (by trivial) (λfp s3 H3=>⟨qaS (qar (i:=0) (show (["_law_row", "_law_rows_here"]:List Str).Nodup by decide+kernel) rfl (by trivial)),qcl (qnw (hu8 hr) (qaa (pv 0)) (qaV (pv 1))),qaa (pv 0)⟩) qcI.nd rfl rfl) (qae (qaZ (qji (qe4 (qlu (hu8 hr) (qaI qat qaG qaH (qaa (pv 7)) (qaf) (λ_ _=>rfl)) (qho (qa3 (qac (qaD) (qac (qaD) (qac (qaD) (qac (qaD) (qac (qaD) (qac (qaD) (qak)))))))))) (qdw (qaK (qcm (hu8 hr)) qeI qeJ (qaa (pv 9)) (qaM (qbM (qak))))))) (qai (qaC (qev))) (qaz)) (qai (qaZ (qji (qe4 (qlu (hu8 hr) (qaI qat qaG qaH (qaa (pv 7)) (qaf) (λ_ _=>rfl)) (qho (qa3 (qac (qaD) (qac (qaD) (qac (qaD) (qak))))))) (qdw (qaK (qcm (hu8 hr)) qeI qeJ (qbO rfl (nb "len" (by decide)) (qaa (pv 8))) (qbO rfl (nb "len" (by decide)) (qaa (pv 2))))))) (qai (qaC (qev))) (qaz))))))) (qae (qbo (qeL PySem.F.plainAttrs_list PySem.F.slot_list_append PySem.F.type_list_append qbg (pv 4) (qas (qa3 (qac (qaf) (qac (qaD) (qac (qaf) (qak))))) qaL))) (qai (qaC (qgo (qaU (hu8 hr)) qbs qbt (qao F_42.kn rfl (hr.mono (by decide)) rfl (qac (qaa (pv 1)) (qac (qaa (pv 2)) (qak)))) (qaM (qdn (qaV (pv 4)) (qcw) (qb9 (qgn (qaf)))))))))))))))))
theorem qtz {f:Addr} {fd:FuncData} (F:Fun K "plus" "plus" qr8 f fd) (nb: ∀x∈namesX,mg x=none):qbf P w K mg base CX0 1 f fd ["rows", "more"] (spS K G C o_44):=
 qe3 F qsL λcdv A outer s H E hr=>qai (qcu (qaW (own:=["moment", "key", "number"]) (fr:=[("more",1)]) rfl (qaT (qaa (pv 0))) (qld (qcg (qbi) (qcg (qbi) (qcg (qbi) (qgb))))) rfl (by decide+kernel) (by decide+kernel) (RH.fr_ok (sd:=qah qr8) rfl (by decide+kernel)) (by trivial) (λfp s3 H3=>⟨qcS rfl (qaF (qaS (qar (i:=0) (show (["moment", "key", "number", "more"]:List Str).Nodup by decide+kernel) rfl (by trivial))) (qaF (qaS (qar (i:=1) (show (["moment", "key", "number", "more"]:List Str).Nodup by decide+kernel) rfl (by trivial))) (qaF (qaS (qar (i:=2) (show (["moment", "key", "number", "more"]:List Str).Nodup by decide+kernel) rfl (by trivial))) (qbW)))),qbb,qa3 (qac (qaa (pv 0)) (qac (qaa (pv 1)) (qac (qax qaB qaQ qaR (qaa (pv 2)) (qaa (pv 3))) (qak))))⟩)))
theorem qtW {f:Addr} {fd:FuncData} (F:Fun K "_law_number" "_law_number" qtk f fd) (nb: ∀x∈namesX,mg x=none) (F_22:Kn P w K mg base G C "_law_pick" ["_law_script", "_law_k", "_law_many"] 2 qcb):qbf P w K mg base CX0 3 f fd ["_law_script", "_law_at", "_law_most"] (spP K G C qjF):=
 qbL F qsX λcdv A outer s H E hr=>qae (qaZ (qaK (qaU (hu8 hr)) qbs qbt (qao F_22 rfl (hr.mono (by decide)) rfl (qac (qaa (pv 0)) (qac (qaa (pv 1)) (qac (qaf) (qak))))) (qaf)) (qai (qaC (qax qcN qcJ qcL (qao F_22 rfl (hr.mono (by decide)) rfl (qac (qaa (pv 0)) (qac (qax qaB qaQ qaR (qaa (pv 1)) (qaf)) (qac (qax qaB qaQ qaR (qax qcn qd5 qeb (qaf) (qaa (pv 2))) (qaf)) (qak))))) (qaa (pv 2))))) (qaz)) (qai (qaC (qax qcN qcJ qcL (qao F_22 rfl (hr.mono (by decide)) rfl (qac (qaa (pv 0)) (qac (qax qaB qaQ qaR (qaa (pv 1)) (qaf)) (qac (qaf) (qak))))) (qaf))))
theorem qty {f:Addr} {fd:FuncData} (F:Fun K "each" "each" qs0 f fd) (nb: ∀x∈namesX,mg x=none):qbf P w K mg base CX0 1 f fd ["rows", "many", "kept"] (spQ K G C q_45):=
 qdJ F qqJ rfl λcdv A outer s H E pq hr=>qae (qa1 (i:=3) qqJ.nd rfl (by trivial) (qdW (hu1 hr) (qb1 (pv 2)) (qaD) (qaf) ⟨rfl,rfl,rfl,rfl⟩)) (qae (qdx (hu1 hr) (pv 2) (qaD) (qax qef qka qkr (qax qaB qaQ qaR (qaa (pv 3)) (qbO rfl (nb "len" (by decide)) (qaa (pv 0)))) (qaa (pv 1)))) (qai (qcu (qlz (qaV (pv 0)) (qb9 (qax qcN qcJ qcL (qax qcN qcJ qcL (qaa (pv 1)) (qaf)) (qaa (pv 3)))) (qcw) (qb9 (qaa (pv 1)))))))
theorem qvF {f:Addr} {fd:FuncData} (F:Fun K "refuse_what_is_no_ask" "refuse_what_is_no_ask" s_2 f fd) (nb: ∀x∈namesX,mg x=none) (F_38:Kn P w K mg base G C "is_ask" ["thing"] 4 t_38):qbf P w K mg base CX0 5 f fd ["ask"] (spP K G C t_2):=
 qbL F qvp λcdv A outer s H E hr=>qai (qaZ (qcs (qcR (qao F_38 rfl (hr.mono (by decide)) rfl (qac (qaa (pv 0)) (qak))))) (qes) (qaz))
end
end K11
end
section
namespace K11
open PySem L2 PL SetL
section
variable {P:Program} {w:World} {K:PySem.W.Frag} {mg:Str->Option Value} {base:Heap} {G:Gam} {C:Str->Addr}
theorem qt0 {f:Addr} {fd:FuncData} (F:Fun K "_law_windows" "_law_windows" qqg f fd) (nb: ∀x∈namesX,mg x=none):qbf P w K mg base CX0 1 f fd ["_law_size", "_law_rows_here"] (spP K G C qqz):=
 qbL F qj5 λcdv A outer s H E hr=>qae (qct (i:=2) qj5.nd rfl (by trivial) (qbM (qak))) (qae (qcv PassesOwn.never rfl (qaT (qaM (qnB rfl rfl (nb "sorted" (by decide)) rfl (nb "set" (by decide)) (qbT (qaW (own:=["_law_row"]) (fr:=[("_law_size",0)]) rfl (qaT (qaa (pv 1))) (qbi) rfl (by decide+kernel) (by decide+kernel) (RH.fr_ok (sd:=qah qqg) rfl (by decide+kernel)) (by trivial) (λfp s3 H3=>⟨qaS (qar (i:=0) (show (["_law_row", "_law_size"]:List Str).Nodup by decide+kernel) rfl (by trivial)),qbb,qax qfq qkc qkt (qaI qat qaG qaH (qaa (pv 0)) (qaf) (λ_ _=>rfl)) (qaa (pv 1))⟩)))))) (qaS (qar (i:=3) qj5.nd rfl (by trivial))) (qae (qb8 (i:=4) (own:=["_law_row"]) (fr:=[("_law_size",0),("_law_window",3)]) rfl (qaT (qaa (pv 1))) (qbi) rfl (by decide+kernel) (by decide+kernel) (RH.fr_ok (sd:=qah qqg) rfl (by decide+kernel)) (λp hp=>by simp only[List.mem_cons,List.not_mem_nil,or_false] at hp; rcases hp with rfl | rfl<;>exact ⟨rfl,rfl⟩) (λfp s3 H3=>⟨qaS (qar (i:=0) (show (["_law_row", "_law_size", "_law_window"]:List Str).Nodup by decide+kernel) rfl (by trivial)),qcl (qaK (qaU (hu8 hr)) qbs qbt (qax qfq qkc qkt (qaI qat qaG qaH (qaa (pv 0)) (qaf) (λ_ _=>rfl)) (qaa (pv 1))) (qaa (pv 2))),qaa (pv 0)⟩) qj5.nd rfl rfl) (qai (qcv PassesOwn.never rfl (qaT (qaM (qpQ rfl rfl (nb "sorted" (by decide)) rfl (nb "set" (by decide)) (qbT (qaW (own:=["_law_row"]) (fr:=[]) rfl (qaT (qaa (pv 4))) (qbi) rfl (by decide+kernel) (by decide+kernel) (λy hy e=>absurd e ((by decide+kernel: ∀y∈_,y.2≠NameKind.free) y hy)) (λp hp=>nomatch hp) (λfp s3 H3=>⟨qaS (qar (i:=0) (show (["_law_row"]:List Str).Nodup by decide+kernel) rfl (by trivial)),qbb,qaI qat qaG qaH (qaa (pv 0)) (qaf) (λ_ _=>rfl)⟩)))))) (qaS (qar (i:=5) qj5.nd rfl (by trivial))) (qai (qbo (qeL PySem.F.plainAttrs_list PySem.F.slot_list_append PySem.F.type_list_append qbg (pv 2) (qas (qa3 (qac (qax qcN qcJ qcL (qax qaB qaQ qaR (qax qcn qd5 qeb (qaa (pv 3)) (qaa (pv 0))) (qaa (pv 0))) (qaf)) (qac (qaa (pv 5)) (qac (qom (qaO (qgw rfl) rfl (nb "sum" (by decide)) qgz (qas (qbT (qaW (own:=["_law_row"]) (fr:=[("_law_key_here",5)]) rfl (qaT (qaa (pv 4))) (qbi) rfl (by decide+kernel) (by decide+kernel) (RH.fr_ok (sd:=qah qqg) rfl (by decide+kernel)) (by trivial) (λfp s3 H3=>⟨qaS (qar (i:=0) (show (["_law_row", "_law_key_here"]:List Str).Nodup by decide+kernel) rfl (by trivial)),qcl (qaK (qaU (hu8 hr)) qbs qbt (qaI qat qaG qaH (qaa (pv 0)) (qaf) (λ_ _=>rfl)) (qaa (pv 1))),qaI qat qaG qaH (qaa (pv 0)) (qaf) (λ_ _=>rfl)⟩))) qaL))) (qak))))) qaL)))))))) (qai (qiy 2 (qaC (qaa (pv 2))))))
theorem qtQ {f:Addr} {fd:FuncData} (F:Fun K "_law_ask" "_law_ask" qsd f fd) (nb: ∀x∈namesX,mg x=none) (F_22:Kn P w K mg base G C "_law_pick" ["_law_script", "_law_k", "_law_many"] 2 qcb) (F_24:Kn P w K mg base G C "_law_step" ["_law_script", "_law_at"] 4 qmm):qbf P w K mg base CX0 5 f fd ["_law_script", "_law_at", "_law_most"] (spP K G C qqy):=
 qbL F qsV λcdv A outer s H E hr=>qai (qaC (qnC (qed qfC rfl (nb "tuple" (by decide)) qcD (qas (qbT (qaW (own:=["_law_k"]) (fr:=[("_law_script",0),("_law_at",1)]) rfl (qgm rfl (nb "range" (by decide)) (qac (qao F_22 rfl (hr.mono (by decide)) rfl (qac (qaa (pv 0)) (qac (qax qaB qaQ qaR (qaa (pv 1)) (qaf)) (qac (qax qaB qaQ qaR (qaa (pv 2)) (qaf)) (qak))))) (qak))) (qbi) rfl (by decide+kernel) (by decide+kernel) (RH.fr_ok (sd:=qah qsd) rfl (by decide+kernel)) (λp hp=>by simp only[List.mem_cons,List.not_mem_nil,or_false] at hp; rcases hp with rfl | rfl<;>exact ⟨rfl,rfl⟩) (λfp s3 H3=>⟨qaS (qar (i:=0) (show (["_law_k", "_law_script", "_law_at"]:List Str).Nodup by decide+kernel) rfl (by trivial)),qbb,qao F_24 rfl (hr.mono (by decide)) rfl (qac (qaa (pv 1)) (qac (qax qaB qaQ qaR (qaa (pv 2)) (qax qcn qd5 qeb (qaf) (qaa (pv 0)))) (qak)))⟩))) qaL))))
theorem qtD {f:Addr} {fd:FuncData} (F:Fun K "times" "times" qsa f fd) (nb: ∀x∈namesX,mg x=none):qbf P w K mg base CX0 1 f fd ["rows", "factor"] (spS K G C o_40):=
 qe3 F qsN λcdv A outer s H E hr=>qai (qcu (qaW (own:=["moment", "key", "number"]) (fr:=[("factor",1)]) rfl (qaT (qaa (pv 0))) (qld (qcg (qbi) (qcg (qbi) (qcg (qbi) (qgb))))) rfl (by decide+kernel) (by decide+kernel) (RH.fr_ok (sd:=qah qsa) rfl (by decide+kernel)) (by trivial) (λfp s3 H3=>⟨qcS rfl (qaF (qaS (qar (i:=0) (show (["moment", "key", "number", "factor"]:List Str).Nodup by decide+kernel) rfl (by trivial))) (qaF (qaS (qar (i:=1) (show (["moment", "key", "number", "factor"]:List Str).Nodup by decide+kernel) rfl (by trivial))) (qaF (qaS (qar (i:=2) (show (["moment", "key", "number", "factor"]:List Str).Nodup by decide+kernel) rfl (by trivial))) (qbW)))),qbb,qa3 (qac (qaa (pv 0)) (qac (qaa (pv 1)) (qac (qax qcn qd5 qeb (qaa (pv 2)) (qaa (pv 3))) (qak))))⟩)))
theorem qtO {f:Addr} {fd:FuncData} (F:Fun K "running" "running" qtb f fd) (nb: ∀x∈namesX,mg x=none):qbf P w K mg base CX0 1 f fd ["rows", "sums"] (spQ K G C q_29):=
 qdJ F qj2 rfl λcdv A outer s H E pq hr=>qae (qct (i:=2) qj2.nd rfl (by trivial) (qbM (qak))) (qae (qcv PassesOwn.never rfl (qaT (qaa (pv 0))) (qcS rfl (qaF (qaS (qar (i:=3) qj2.nd rfl (by trivial))) (qaF (qaS (qar (i:=4) qj2.nd rfl (by trivial))) (qaF (qaS (qar (i:=5) qj2.nd rfl (by trivial))) (qbW))))) (qae (qdx (hu1 hr) (pv 1) (qaa (pv 4)) (qax qaB qaQ qaR (qdW (hu1 hr) (qb1 (pv 1)) (qaa (pv 4)) (qaf) ⟨rfl,rfl,rfl,rfl⟩) (qaa (pv 5)))) (qai (qbo (qeL PySem.F.plainAttrs_list PySem.F.slot_list_append PySem.F.type_list_append qbg (pv 2) (qas (qa3 (qac (qaa (pv 3)) (qac (qaa (pv 4)) (qac (qfx (hu1 hr) (qb1 (pv 1)) (qaa (pv 4))) (qak))))) qaL)))))) (qai (qdy (pv 2))))
theorem qtA {f:Addr} {fd:FuncData} (F:Fun K "over" "over" qr9 f fd) (nb: ∀x∈namesX,mg x=none):qbf P w K mg base CX0 1 f fd ["rows", "bound"] (spS K G C o_43):=
 qe3 F qsM λcdv A outer s H E hr=>qai (qcu (qaW (own:=["row"]) (fr:=[("bound",1)]) rfl (qaT (qaa (pv 0))) (qbi) rfl (by decide+kernel) (by decide+kernel) (RH.fr_ok (sd:=qah qr9) rfl (by decide+kernel)) (by trivial) (λfp s3 H3=>⟨qaS (qar (i:=0) (show (["row", "bound"]:List Str).Nodup by decide+kernel) rfl (by trivial)),qcl (qaK qkE qkb qks (qaI qat qaG qaH (qaa (pv 0)) (qaf) (λ_ _=>rfl)) (qaa (pv 1))),qaa (pv 0)⟩)))
theorem qvC {f:Addr} {fd:FuncData} (F:Fun K "is_whole_within" "is_whole_within" s_8 f fd) (nb: ∀x∈namesX,mg x=none) (F_25:Kn P w K mg base G C "is_whole" ["thing"] 1 t_25):qbf P w K mg base CX0 2 f fd ["thing", "least", "greatest"] (spP K G C t_8):=
 qbL F qvn λcdv A outer s H E hr=>qai (qaC (qlD (qao F_25 rfl (hr.mono (by decide)) rfl (qac (qaa (pv 0)) (qak))) (qlB (qiz qc0 qc0 qgS qgY qgS qgY (qaa (pv 1)) (qaa (pv 0)) (qaa (pv 2))))))
end
end K11
end
section
namespace K11
open PySem L2 PL SetL
section
variable {P:Program} {w:World} {K:PySem.W.Frag} {mg:Str->Option Value} {base:Heap} {G:Gam} {C:Str->Addr}
theorem qtZ {f:Addr} {fd:FuncData} (F:Fun K "_law_by_keys" "_law_by_keys" qsf f fd) (nb: ∀x∈namesX,mg x=none):qbf P w K mg base CX0 1 f fd ["_law_word", "_law_rows_here"] (spP K G C qma):=
 qbL F qj4 λcdv A outer s H E hr=>qae (qct (i:=2) qj4.nd rfl (by trivial) (qbM (qak))) (qae (qcv PassesOwn.never rfl (qhr rfl (nb "enumerate" (by decide)) (qac (qaa (pv 1)) (qak))) (qcS rfl (qaF (qaS (qar (i:=3) qj4.nd rfl (by trivial))) (qaF (qaS (qar (i:=4) qj4.nd rfl (by trivial))) (qbW)))) (qae (qb8 (i:=5) (own:=["_law_one"]) (fr:=[("_law_row",4)]) rfl (qaT (qaM (qdn (qaV (pv 1)) (qcw) (qb9 (qaa (pv 3)))))) (qbi) rfl (by decide+kernel) (by decide+kernel) (RH.fr_ok (sd:=qah qsf) rfl (by decide+kernel)) (by trivial) (λfp s3 H3=>⟨qaS (qar (i:=0) (show (["_law_one", "_law_row"]:List Str).Nodup by decide+kernel) rfl (by trivial)),qcl (qaK (qaU (hu8 hr)) qbs qbt (qaI qat qaG qaH (qaa (pv 0)) (qaf) (λ_ _=>rfl)) (qaI qat qaG qaH (qaa (pv 1)) (qaf) (λ_ _=>rfl))),qaI qat qaG qaH (qaa (pv 0)) (qaf) (λ_ _=>rfl)⟩) qj4.nd rfl rfl) (qai (qaZ (qaK (qaU (hu8 hr)) qbs qbt (qaa (pv 0)) (qaD)) (qai (qbo (qeL PySem.F.plainAttrs_list PySem.F.slot_list_append PySem.F.type_list_append qbg (pv 2) (qas (qa3 (qac (qaI qat qaG qaH (qaa (pv 4)) (qaf) (λ_ _=>rfl)) (qac (qaI qat qaG qaH (qaa (pv 4)) (qaf) (λ_ _=>rfl)) (qac (qax qaB qaQ qaR (qom (qaO (qgw rfl) rfl (nb "sum" (by decide)) qgz (qas (qaV (pv 5)) qaL))) (qaI qat qaG qaH (qaa (pv 4)) (qaf) (λ_ _=>rfl))) (qak))))) qaL)))) (qai (qaZ (qji (qe4 (qaK (qaU (hu8 hr)) qbs qbt (qaa (pv 0)) (qaD)) (qdw (qaK (qcm (hu8 hr)) qeI qeJ (qaa (pv 5)) (qaM (qbM (qak))))))) (qai (qbo (qeL PySem.F.plainAttrs_list PySem.F.slot_list_append PySem.F.type_list_append qbg (pv 2) (qas (qa3 (qac (qaI qat qaG qaH (qaa (pv 4)) (qaf) (λ_ _=>rfl)) (qac (qaI qat qaG qaH (qaa (pv 4)) (qaf) (λ_ _=>rfl)) (qac (qax qcN qcJ qcL (qaI qat qaG qaH (qaa (pv 4)) (qaf) (λ_ _=>rfl)) (qaI qat qaG qaH (qaa (pv 5)) (qgn (qaf)) (λ_ _=>rfl))) (qak))))) qaL)))) (qai (qaZ (qji (qe4 (qaK (qaU (hu8 hr)) qbs qbt (qaa (pv 0)) (qaD)) (qdw (qaK (qcm (hu8 hr)) qeI qeJ (qaM (qdn (qaV (pv 5)) (qb9 (qgn (qaf))) (qcw))) (qaM (qbM (qac (qaI qat qaG qaH (qaa (pv 4)) (qaf) (λ_ _=>rfl)) (qak)))))))) (qai (qbo (qeL PySem.F.plainAttrs_list PySem.F.slot_list_append PySem.F.type_list_append qbg (pv 2) (qas (qaa (pv 4)) qaL)))) (qaz))))))))) (qai (qiy 2 (qaC (qaa (pv 2))))))
theorem qtR {f:Addr} {fd:FuncData} (F:Fun K "_law_key" "_law_key" qtd f fd) (nb: ∀x∈namesX,mg x=none) (F_22:Kn P w K mg base G C "_law_pick" ["_law_script", "_law_k", "_law_many"] 2 qcb):qbf P w K mg base CX0 3 f fd ["_law_script", "_law_at"] (spP K G C qiO):=
 qbL F qmx λcdv A outer s H E hr=>qae (qa1 (i:=2) qmx.nd rfl (by trivial) (qaD)) (qae (qa1 (i:=3) qmx.nd rfl (by trivial) (qao F_22 rfl (hr.mono (by decide)) rfl (qac (qaa (pv 0)) (qac (qaa (pv 1)) (qac (qaf) (qak)))))) (qae (qaZ (qaK qkE qkb qks (qaa (pv 3)) (qaf)) (qai (qaC (qaI qat qaG qaH (qaM (qbM (qac (qaD) (qac (qaD) (qac (qaD) (qak)))))) (qax qef qka qkr (qaa (pv 3)) (qaf)) (λ_ _=>rfl)))) (qaz)) (qae (qa1 (i:=4) qmx.nd rfl (by trivial) (qaI qat qaG qaH (qaa (pv 2)) (qao F_22 rfl (hr.mono (by decide)) rfl (qac (qaa (pv 0)) (qac (qax qaB qaQ qaR (qaa (pv 1)) (qaf)) (qac (qaf) (qak))))) (λ_ _=>rfl))) (qae (qaZ (qaK (qaU (hu8 hr)) qbs qbt (qao F_22 rfl (hr.mono (by decide)) rfl (qac (qaa (pv 0)) (qac (qax qaB qaQ qaR (qaa (pv 1)) (qaf)) (qac (qaf) (qak))))) (qaf)) (qai (qaC (qaa (pv 4)))) (qaz)) (qai (qaC (qax qaB qaQ qaR (qaa (pv 4)) (qaI qat qaG qaH (qaa (pv 2)) (qao F_22 rfl (hr.mono (by decide)) rfl (qac (qaa (pv 0)) (qac (qax qaB qaQ qaR (qaa (pv 1)) (qaf)) (qac (qaf) (qak))))) (λ_ _=>rfl)))))))))
theorem qtF {f:Addr} {fd:FuncData} (F:Fun K "is_ask" "is_ask" qs3 f fd) (nb: ∀x∈namesX,mg x=none) (kt: ∀N∈["int", "bool", "str", "tuple"],qhB K N) {u_18:Value} (cm_18:mg "MOST_STEPS" =some u_18) (cr_18:RelV (.int 5) u_18) (F_30:Kn P w K mg base G C "is_step" ["thing"] 3 t_30):qbf P w K mg base CX0 4 f fd ["thing"] (spP K G C t_38):=
 qbL F qsP λcdv A outer s H E hr=>qae (qaZ (qji (qeR (qcs (qcR (qc4 (qaO (qa9 (kt "tuple" (by decide))) rfl (nb "isinstance" (by decide)) PyProof.Rows.boot_isinstance (qas (qaa (pv 0)) (qas (qcZ (v:=.ty "tuple") rfl (nb "tuple" (by decide)) qcD rfl) qaL)))))) (qer (qaK qkE qkb qks (qbO rfl (nb "len" (by decide)) (qaa (pv 0))) (qbN (qbI rfl cm_18 cr_18) (λ_=>qaX)))))) (qai (qaC (qev))) (qaz)) (qai (qaC (qiB (qaO (qdY rfl) rfl (nb "all" (by decide)) qdZ (qas (qbT (qaW (own:=["step"]) (fr:=[]) rfl (qaT (qaa (pv 0))) (qbi) rfl (by decide+kernel) (by decide+kernel) (λy hy e=>absurd e ((by decide+kernel: ∀y∈_,y.2≠NameKind.free) y hy)) (λp hp=>nomatch hp) (λfp s3 H3=>⟨qaS (qar (i:=0) (show (["step"]:List Str).Nodup by decide+kernel) rfl (by trivial)),qbb,qao F_30 rfl (hr.mono (by decide)) rfl (qac (qaa (pv 0)) (qak))⟩))) qaL)))))
theorem qtY {f:Addr} {fd:FuncData} (F:Fun K "window_rows" "window_rows" qse f fd) (nb: ∀x∈namesX,mg x=none):qbf P w K mg base CX0 1 f fd ["size", "sums"] (spP K G C t_14):=
 qbL F qsY λcdv A outer s H E hr=>qai (qaC (qaM (qaW (own:=["place"]) (fr:=[("size",0),("sums",1)]) rfl (qaT (qaM (qjj rfl rfl (nb "sorted" (by decide)) (qb1 (pv 1))))) (qbi) rfl (by decide+kernel) (by decide+kernel) (RH.fr_ok (sd:=qah qse) rfl (by decide+kernel)) (λp hp=>by simp only[List.mem_cons,List.not_mem_nil,or_false] at hp; rcases hp with rfl | rfl<;>exact ⟨rfl,rfl⟩) (λfp s3 H3=>⟨qaS (qar (i:=0) (show (["place", "size", "sums"]:List Str).Nodup by decide+kernel) rfl (by trivial)),qbb,qa3 (qac (qax qcN qcJ qcL (qax qcn qd5 qeb (qax qaB qaQ qaR (qaI qat qaG qaH (qaa (pv 0)) (qaf) (λ_ _=>rfl)) (qaf)) (qaa (pv 1))) (qaf)) (qac (qaI qat qaG qaH (qaa (pv 0)) (qaf) (λ_ _=>rfl)) (qac (qfx (hu1 hr) (qb1 (pv 2)) (qaa (pv 0))) (qak))))⟩))))
theorem qtS {f:Addr} {fd:FuncData} (F:Fun K "is_whole" "is_whole" qte f fd) (nb: ∀x∈namesX,mg x=none) (kt: ∀N∈["int", "bool", "str", "tuple"],qhB K N):qbf P w K mg base CX0 1 f fd ["thing"] (spP K G C t_25):=
 qbL F qsW λcdv A outer s H E hr=>qai (qaC (qlD (qc4 (qaO (qa9 (kt "int" (by decide))) rfl (nb "isinstance" (by decide)) PyProof.Rows.boot_isinstance (qas (qaa (pv 0)) (qas (qcZ (v:=.ty "int") rfl (nb "int" (by decide)) PyProof.Rows.boot_int rfl) qaL)))) (qlB (qrV (qc4 (qaO (qa9 (kt "bool" (by decide))) rfl (nb "isinstance" (by decide)) PyProof.Rows.boot_isinstance (qas (qaa (pv 0)) (qas (qcZ (v:=.ty "bool") rfl (nb "bool" (by decide)) PyProof.Rows.boot_bool rfl) qaL))))))))
theorem qvE {f:Addr} {fd:FuncData} (F:Fun K "refuse_out_of_order" "refuse_out_of_order" s_4 f fd) (nb: ∀x∈namesX,mg x=none) (F_33:Kn P w K mg base G C "is_log" ["rows"] 1 t_33):qbf P w K mg base CX0 2 f fd ["rows"] (spP K G C t_4):=
 qbL F qvo λcdv A outer s H E hr=>qai (qaZ (qcs (qcR (qao F_33 rfl (hr.mono (by decide)) rfl (qac (qaa (pv 0)) (qak))))) (qes) (qaz))
end
end K11
end
section
namespace K11
open PySem L2 PL SetL
section
variable {P:Program} {w:World} {K:PySem.W.Frag} {mg:Str->Option Value} {base:Heap} {G:Gam} {C:Str->Addr}
theorem qtN {f:Addr} {fd:FuncData} (F:Fun K "is_step" "is_step" qta f fd) (nb: ∀x∈namesX,mg x=none) (kt: ∀N∈["int", "bool", "str", "tuple"],qhB K N) {u_3:Value} (cm_3:mg "GREATEST_STEP_NUMBER" =some u_3) (cr_3:RelV (.int 20) u_3) (F_31:Kn P w K mg base G C "is_key" ["thing"] 2 t_31) (F_8:Kn P w K mg base G C "is_whole_within" ["thing", "least", "greatest"] 2 t_8) (T_19:qjA K mg w "BARE_STEPS" [(("running" :Str),("running" :Str)),(("change" :Str),("change" :Str)),(("unlike" :Str),("unlike" :Str))]) (T_15:qjA K mg w "COUNT_STEPS" [(("first" :Str),("first" :Str)),(("each" :Str),("each" :Str)),(("window" :Str),("window" :Str))]) (T_9:qjA K mg w "NUMBER_STEPS" [(("over" :Str),("over" :Str)),(("under" :Str),("under" :Str)),(("plus" :Str),("plus" :Str)),(("times" :Str),("times" :Str))]):qbf P w K mg base CX0 3 f fd ["thing"] (spP K G C t_30):=
 qbL F qqL λcdv A outer s H E hr=>qae (qaZ (qji (qeR (qcs (qcR (qc4 (qaO (qa9 (kt "tuple" (by decide))) rfl (nb "isinstance" (by decide)) PyProof.Rows.boot_isinstance (qas (qaa (pv 0)) (qas (qcZ (v:=.ty "tuple") rfl (nb "tuple" (by decide)) qcD rfl) qaL)))))) (qeR (qaK (qaU (hu8 hr)) qbs qbt (qbO rfl (nb "len" (by decide)) (qaa (pv 0))) (qaf)) (qer (qcs (qcR (qc4 (qaO (qa9 (kt "str" (by decide))) rfl (nb "isinstance" (by decide)) PyProof.Rows.boot_isinstance (qas (qaI qat qaG qaH (qaa (pv 0)) (qaf) (λ_ _=>rfl)) (qas (qcZ (v:=.ty "str") rfl (nb "str" (by decide)) PyProof.Rows.boot_str rfl) qaL)))))))))) (qai (qaC (qev))) (qaz)) (qae (qa1 (i:=1) qqL.nd rfl (by trivial) (qaI qat qaG qaH (qaa (pv 0)) (qaf) (λ_ _=>rfl))) (qae (qaZ (qdV T_19 rfl (qaa (pv 1))) (qai (qaC (qgo (qaU (hu8 hr)) qbs qbt (qbO rfl (nb "len" (by decide)) (qaa (pv 0))) (qaf)))) (qaz)) (qae (qaZ (qaK (qcm (hu8 hr)) qeI qeJ (qbO rfl (nb "len" (by decide)) (qaa (pv 0))) (qaf)) (qai (qaC (qev))) (qaz)) (qae (qaZ (qaK (qaU (hu8 hr)) qbs qbt (qaa (pv 1)) (qaD)) (qai (qaC (qao F_31 rfl (hr.mono (by decide)) rfl (qac (qaI qat qaG qaH (qaa (pv 0)) (qaf) (λ_ _=>rfl)) (qak))))) (qaz)) (qae (qaZ (qdV T_9 rfl (qaa (pv 1))) (qai (qaC (qao F_8 rfl (hr.mono (by decide)) rfl (qac (qaI qat qaG qaH (qaa (pv 0)) (qaf) (λ_ _=>rfl)) (qac (qgn (qbN (qbI rfl cm_3 cr_3) (λ_=>qaX))) (qac (qbN (qbI rfl cm_3 cr_3) (λ_=>qaX)) (qak))))))) (qaz)) (qai (qaC (qlD (qnD T_15 rfl (qaa (pv 1))) (qlB (qao F_8 rfl (hr.mono (by decide)) rfl (qac (qaI qat qaG qaH (qaa (pv 0)) (qaf) (λ_ _=>rfl)) (qac (qaf) (qac (qbN (qbI rfl cm_3 cr_3) (λ_=>qaX)) (qak))))))))))))))
theorem qtI {f:Addr} {fd:FuncData} (F:Fun K "window" "window" qs6 f fd) (nb: ∀x∈namesX,mg x=none) (F_14:Kn P w K mg base G C "window_rows" ["size", "sums"] 1 t_14):qbf P w K mg base CX0 2 f fd ["rows", "size", "sums"] (spQ K G C q_35):=
 qdJ F qiU rfl λcdv A outer s H E pq hr=>qny 2 (qae (qct (i:=3) qiU.nd rfl (by trivial) (qbM (qak))) (qae (qcv PassesOwn.never rfl (qaT (qaa (pv 0))) (qcS rfl (qaF (qaS (qar (i:=4) qiU.nd rfl (by trivial))) (qaF (qaS (qar (i:=5) qiU.nd rfl (by trivial))) (qaF (qaS (qar (i:=6) qiU.nd rfl (by trivial))) (qbW))))) (qae (qa1 (i:=7) qiU.nd rfl (by trivial) (qa3 (qac (qax qfq qkc qkt (qaa (pv 4)) (qaa (pv 1))) (qac (qaa (pv 5)) (qak))))) (qae (qaZ (qji (qe4 (qaK qkE qkb qks (qpS rfl (nb "len" (by decide)) (qb1 (pv 2))) (qaf)) (qdw (qaK qg1 qoX qo7 (qaI qat qaG qaH (qpR rfl (hu8 hr) rfl (nb "max" (by decide)) (qb1 (pv 2))) (qaf) (λ_ _=>rfl)) (qaI qat qaG qaH (qaa (pv 7)) (qaf) (λ_ _=>rfl)))))) (qae (qlx (qeL PySem.F.plainAttrs_list PySem.F.slot_list_extend PySem.F.type_list_extend qkK (pv 3) (qas (qho (qiA F_14 rfl (hr.mono (by decide)) rfl (qca (qaa (pv 1)) (qew (pv 2))))) qaL))) (qai (qpM (pv 2)))) (qaz)) (qai (qdx (hu1 hr) (pv 2) (qaa (pv 7)) (qax qaB qaQ qaR (qdW (hu1 hr) (qb1 (pv 2)) (qaa (pv 7)) (qaf) ⟨rfl,rfl,rfl,rfl⟩) (qaa (pv 6)))))))) (qai (qdy (pv 3)))))
theorem qtB {f:Addr} {fd:FuncData} (F:Fun K "asked" "asked" qs1 f fd) (nb: ∀x∈namesX,mg x=none) (F_5:KnQ P w K mg base G C "behind_last_rows" ["step", "rows", "kept"] 4 q_5) (F_2:Kn P w K mg base G C "refuse_what_is_no_ask" ["ask"] 5 t_2) (F_1:Kn P w K mg base G C "refuse_what_is_no_log" ["rows"] 5 t_1):qbf P w K mg base CX0 6 f fd ["ask", "rows"] (spS K G C o_42):=
 qe3 F qmw λcdv A outer s H E hr=>qae (qfw (qao F_2 rfl (hr.mono (by decide)) rfl (qac (qaa (pv 0)) (qak)))) (qae (qfw (qao F_1 rfl (hr.mono (by decide)) rfl (qac (qaa (pv 1)) (qak)))) (qae (qct (i:=2) qmw.nd rfl (by trivial) (qlA (qed qdK rfl (nb "list" (by decide)) qgB (qas (qaV (pv 1)) qaL)))) (qae (qcv PassesOwn.never rfl (qaT (qaa (pv 0))) (qaS (qar (i:=3) qmw.nd rfl (by trivial))) (qai (qiy 2 (qlv (j:=2) qmw.nd rfl (by trivial) (qmX F_5 rfl (hr.mono (by decide)) rfl (qiC (qaa (pv 3)) (qiC (qaa (pv 2)) (qpY)))))))) (qai (qdy (pv 2))))))
theorem qtK {f:Addr} {fd:FuncData} (F:Fun K "is_log" "is_log" qs7 f fd) (nb: ∀x∈namesX,mg x=none):qbf P w K mg base CX0 1 f fd ["rows"] (spP K G C t_33):=
 qbL F qsR λcdv A outer s H E hr=>qai (qaC (qiB (qaO (qdY rfl) rfl (nb "all" (by decide)) qdZ (qas (qbT (qaW (own:=["ahead", "row"]) (fr:=[]) rfl (qrQ rfl (nb "zip" (by decide)) (qac (qaa (pv 0)) (qac (qaM (qdn (qaV (pv 0)) (qb9 (qaf)) (qcw))) (qak)))) (qld (qcg (qbi) (qcg (qbi) (qgb)))) rfl (by decide+kernel) (by decide+kernel) (λy hy e=>absurd e ((by decide+kernel: ∀y∈_,y.2≠NameKind.free) y hy)) (λp hp=>nomatch hp) (λfp s3 H3=>⟨qcS rfl (qaF (qaS (qar (i:=0) (show (["ahead", "row"]:List Str).Nodup by decide+kernel) rfl (by trivial))) (qaF (qaS (qar (i:=1) (show (["ahead", "row"]:List Str).Nodup by decide+kernel) rfl (by trivial))) (qbW))),qbb,qgo qc0 qgS qgY (qaI qat qaG qaH (qaa (pv 0)) (qaf) (λ_ _=>rfl)) (qaI qat qaG qaH (qaa (pv 1)) (qaf) (λ_ _=>rfl))⟩))) qaL))))
theorem qtE {f:Addr} {fd:FuncData} (F:Fun K "under" "under" qsb f fd) (nb: ∀x∈namesX,mg x=none):qbf P w K mg base CX0 1 f fd ["rows", "bound"] (spS K G C o_39):=
 qe3 F qsO λcdv A outer s H E hr=>qai (qcu (qaW (own:=["row"]) (fr:=[("bound",1)]) rfl (qaT (qaa (pv 0))) (qbi) rfl (by decide+kernel) (by decide+kernel) (RH.fr_ok (sd:=qah qsb) rfl (by decide+kernel)) (by trivial) (λfp s3 H3=>⟨qaS (qar (i:=0) (show (["row", "bound"]:List Str).Nodup by decide+kernel) rfl (by trivial)),qcl (qaK qg1 qoX qo7 (qaI qat qaG qaH (qaa (pv 0)) (qaf) (λ_ _=>rfl)) (qaa (pv 1))),qaa (pv 0)⟩)))
theorem qvG {f:Addr} {fd:FuncData} (F:Fun K "refuse_what_is_no_log" "refuse_what_is_no_log" s_1 f fd) (nb: ∀x∈namesX,mg x=none) (F_4:Kn P w K mg base G C "refuse_out_of_order" ["rows"] 2 t_4) (F_0:Kn P w K mg base G C "refuse_what_is_no_row" ["rows"] 4 t_0):qbf P w K mg base CX0 5 f fd ["rows"] (spP K G C t_1):=
 qbL F qvq λcdv A outer s H E hr=>qae (qfw (qao F_0 rfl (hr.mono (by decide)) rfl (qac (qaa (pv 0)) (qak)))) (qai (qfw (qao F_4 rfl (hr.mono (by decide)) rfl (qac (qaa (pv 0)) (qak)))))
end
end K11
end
section
namespace K11
open PySem L2 PL SetL
section
variable {P:Program} {w:World} {K:PySem.W.Frag} {mg:Str->Option Value} {base:Heap} {G:Gam} {C:Str->Addr}
theorem qtX {f:Addr} {fd:FuncData} (F:Fun K "behind_step" "behind_step" qtl f fd) (nb: ∀x∈namesX,mg x=none) (F_36:KnQ P w K mg base G C "change" ["rows", "ahead"] 1 q_36) (F_45:KnQ P w K mg base G C "each" ["rows", "many", "kept"] 1 q_45) (F_41:KnQ P w K mg base G C "first" ["rows", "many", "kept"] 1 q_41) (F_34:KnS P w K mg base G C "of_key" ["rows", "key"] 1 o_34) (F_43:KnS P w K mg base G C "over" ["rows", "bound"] 1 o_43) (F_44:KnS P w K mg base G C "plus" ["rows", "more"] 1 o_44) (F_29:KnQ P w K mg base G C "running" ["rows", "sums"] 1 q_29) (F_40:KnS P w K mg base G C "times" ["rows", "factor"] 1 o_40) (F_39:KnS P w K mg base G C "under" ["rows", "bound"] 1 o_39) (F_37:KnQ P w K mg base G C "unlike" ["rows", "ahead"] 1 q_37) (F_35:KnQ P w K mg base G C "window" ["rows", "size", "sums"] 2 q_35) (T_19:qjA K mg w "BARE_STEPS" [(("running" :Str),("running" :Str)),(("change" :Str),("change" :Str)),(("unlike" :Str),("unlike" :Str))]) (T_15:qjA K mg w "COUNT_STEPS" [(("first" :Str),("first" :Str)),(("each" :Str),("each" :Str)),(("window" :Str),("window" :Str))]) (T_9:qjA K mg w "NUMBER_STEPS" [(("over" :Str),("over" :Str)),(("under" :Str),("under" :Str)),(("plus" :Str),("plus" :Str)),(("times" :Str),("times" :Str))]):qbf P w K mg base CX0 3 f fd ["step", "rows", "kept"] (spQ K G C q_16):=
 qdJ F qj3 rfl λcdv A outer s H E pq hr=>qae (qa1 (i:=3) qj3.nd rfl (by trivial) (qaI qat qaG qaH (qaa (pv 0)) (qaf) (λ_ _=>rfl))) (qae (qaZ (qaK (qaU (hu8 hr)) qbs qbt (qaa (pv 3)) (qaD)) (qai (qpP (qh1 F_34 rfl (hr.mono (by decide)) rfl (qac (qaa (pv 1)) (qac (qaI qat qaG qaH (qaa (pv 0)) (qaf) (λ_ _=>rfl)) (qak)))))) (qaz)) (qae (qaZ (qdV T_9 rfl (qaa (pv 3))) (qae (qa1 (i:=4) qj3.nd rfl (by trivial) (qeu T_9 rfl (qaa (pv 3)))) (qai (qpO (k:=1) (qib ⟨F_43.up (by decide),F_39.up (by decide),F_44.up (by decide),F_40.up (by decide),trivial⟩) rfl (hr.mono (by decide)) (pv 4) (qac (qaa (pv 1)) (qac (qaI qat qaG qaH (qaa (pv 0)) (qaf) (λ_ _=>rfl)) (qak)))))) (qaz)) (qae (qaZ (qdV T_15 rfl (qaa (pv 3))) (qae (qa1 (i:=4) qj3.nd rfl (by trivial) (qeu T_15 rfl (qaa (pv 3)))) (qai (qlw (k:=2) (qib ⟨F_41.up (by decide),F_45.up (by decide),F_35.up (by decide),trivial⟩) rfl (hr.mono (by decide)) (pv 4) (qca (qaa (pv 1)) (qca (qaI qat qaG qaH (qaa (pv 0)) (qaf) (λ_ _=>rfl)) (qew (pv 2))))))) (qaz)) (qae (qa1 (i:=4) qj3.nd rfl (by trivial) (qeu T_19 rfl (qaa (pv 3)))) (qai (qlw (k:=1) (qib ⟨F_29.up (by decide),F_36.up (by decide),F_37.up (by decide),trivial⟩) rfl (hr.mono (by decide)) (pv 4) (qca (qaa (pv 1)) (qew (pv 2)))))))))
theorem qtL {f:Addr} {fd:FuncData} (F:Fun K "is_row" "is_row" qs8 f fd) (nb: ∀x∈namesX,mg x=none) (kt: ∀N∈["int", "bool", "str", "tuple"],qhB K N) {u_6:Value} (cm_6:mg "GREATEST_MOMENT" =some u_6) (cr_6:RelV (.int 99) u_6) {u_7:Value} (cm_7:mg "GREATEST_NUMBER" =some u_7) (cr_7:RelV (.int 99) u_7) (F_31:Kn P w K mg base G C "is_key" ["thing"] 2 t_31) (F_8:Kn P w K mg base G C "is_whole_within" ["thing", "least", "greatest"] 2 t_8):qbf P w K mg base CX0 3 f fd ["thing"] (spP K G C t_32):=
 qbL F qsS λcdv A outer s H E hr=>qae (qaZ (qji (qeR (qcs (qcR (qc4 (qaO (qa9 (kt "tuple" (by decide))) rfl (nb "isinstance" (by decide)) PyProof.Rows.boot_isinstance (qas (qaa (pv 0)) (qas (qcZ (v:=.ty "tuple") rfl (nb "tuple" (by decide)) qcD rfl) qaL)))))) (qer (qaK (qcm (hu8 hr)) qeI qeJ (qbO rfl (nb "len" (by decide)) (qaa (pv 0))) (qaf))))) (qai (qaC (qev))) (qaz)) (qae (qaZ (qji (qeR (qcs (qcR (qao F_8 rfl (hr.mono (by decide)) rfl (qac (qaI qat qaG qaH (qaa (pv 0)) (qaf) (λ_ _=>rfl)) (qac (qaf) (qac (qbN (qbI rfl cm_6 cr_6) (λ_=>qaX)) (qak))))))) (qer (qcs (qcR (qao F_31 rfl (hr.mono (by decide)) rfl (qac (qaI qat qaG qaH (qaa (pv 0)) (qaf) (λ_ _=>rfl)) (qak)))))))) (qai (qaC (qev))) (qaz)) (qai (qaC (qao F_8 rfl (hr.mono (by decide)) rfl (qac (qaI qat qaG qaH (qaa (pv 0)) (qaf) (λ_ _=>rfl)) (qac (qgn (qbN (qbI rfl cm_7 cr_7) (λ_=>qaX))) (qac (qbN (qbI rfl cm_7 cr_7) (λ_=>qaX)) (qak))))))))
theorem qtP {f:Addr} {fd:FuncData} (F:Fun K "is_word" "is_word" qtc f fd) (nb: ∀x∈namesX,mg x=none) (kt: ∀N∈["int", "bool", "str", "tuple"],qhB K N):qbf P w K mg base CX0 1 f fd ["thing", "longest"] (spP K G C t_28):=
 qbL F qsU λcdv A outer s H E hr=>qae (qaZ (qji (qeR (qcs (qcR (qc4 (qaO (qa9 (kt "str" (by decide))) rfl (nb "isinstance" (by decide)) PyProof.Rows.boot_isinstance (qas (qaa (pv 0)) (qas (qcZ (v:=.ty "str") rfl (nb "str" (by decide)) PyProof.Rows.boot_str rfl) qaL)))))) (qer (qcs (qnx qc0 qc0 qgS qgY qgS qgY (qaf) (qbO rfl (nb "len" (by decide)) (qaa (pv 0))) (qaa (pv 1))))))) (qai (qaC (qev))) (qaz)) (qai (qaC (qiB (qaO (qdY rfl) rfl (nb "all" (by decide)) qdZ (qas (qbT (qaW (own:=["sign"]) (fr:=[]) rfl (qrR (qaa (pv 0))) (qbi) rfl (by decide+kernel) (by decide+kernel) (λy hy e=>absurd e ((by decide+kernel: ∀y∈_,y.2≠NameKind.free) y hy)) (λp hp=>nomatch hp) (λfp s3 H3=>⟨qaS (qar (i:=0) (show (["sign"]:List Str).Nodup by decide+kernel) rfl (by trivial)),qbb,qiz qc0 qc0 qgS qgY qgS qgY (qaD) (qaa (pv 0)) (qaD)⟩))) qaL)))))
theorem qtH {f:Addr} {fd:FuncData} (F:Fun K "change" "change" qs5 f fd) (nb: ∀x∈namesX,mg x=none):qbf P w K mg base CX0 1 f fd ["rows", "ahead"] (spQ K G C q_36):=
 qdJ F qj1 rfl λcdv A outer s H E pq hr=>qae (qct (i:=2) qj1.nd rfl (by trivial) (qbM (qak))) (qae (qcv PassesOwn.never rfl (qaT (qaa (pv 0))) (qcS rfl (qaF (qaS (qar (i:=3) qj1.nd rfl (by trivial))) (qaF (qaS (qar (i:=4) qj1.nd rfl (by trivial))) (qaF (qaS (qar (i:=5) qj1.nd rfl (by trivial))) (qbW))))) (qae (qaZ (qrM (hu1 hr) (qaa (pv 4)) (qb1 (pv 1))) (qai (qbo (qeL PySem.F.plainAttrs_list PySem.F.slot_list_append PySem.F.type_list_append qbg (pv 2) (qas (qa3 (qac (qaa (pv 3)) (qac (qaa (pv 4)) (qac (qax qcN qcJ qcL (qaa (pv 5)) (qfx (hu1 hr) (qb1 (pv 1)) (qaa (pv 4)))) (qak))))) qaL)))) (qaz)) (qai (qdx (hu1 hr) (pv 1) (qaa (pv 4)) (qaa (pv 5)))))) (qai (qdy (pv 2))))
theorem qtJ {f:Addr} {fd:FuncData} (F:Fun K "of_key" "of_key" qsc f fd) (nb: ∀x∈namesX,mg x=none):qbf P w K mg base CX0 1 f fd ["rows", "key"] (spS K G C o_34):=
 qe3 F qsQ λcdv A outer s H E hr=>qai (qcu (qaW (own:=["row"]) (fr:=[("key",1)]) rfl (qaT (qaa (pv 0))) (qbi) rfl (by decide+kernel) (by decide+kernel) (RH.fr_ok (sd:=qah qsc) rfl (by decide+kernel)) (by trivial) (λfp s3 H3=>⟨qaS (qar (i:=0) (show (["row", "key"]:List Str).Nodup by decide+kernel) rfl (by trivial)),qcl (qaK (qaU (hu8 hr)) qbs qbt (qaI qat qaG qaH (qaa (pv 0)) (qaf) (λ_ _=>rfl)) (qaa (pv 1))),qaa (pv 0)⟩)))
theorem qtM {f:Addr} {fd:FuncData} (F:Fun K "is_key" "is_key" qs9 f fd) (nb: ∀x∈namesX,mg x=none) {u_13:Value} (cm_13:mg "LONGEST_KEY" =some u_13) (cr_13:RelV (.int 2) u_13) (F_28:Kn P w K mg base G C "is_word" ["thing", "longest"] 1 t_28):qbf P w K mg base CX0 2 f fd ["thing"] (spP K G C t_31):=
 qbL F qsT λcdv A outer s H E hr=>qai (qaC (qao F_28 rfl (hr.mono (by decide)) rfl (qac (qaa (pv 0)) (qac (qbN (qbI rfl cm_13 cr_13) (λ_=>qaX)) (qak)))))
end
end K11
end
section
namespace K11
open PySem L2 PL SetL
section
variable {P:Program} {w:World} {K:PySem.W.Frag} {mg:Str->Option Value} {base:Heap} {G:Gam} {C:Str->Addr}
theorem qtU {f:Addr} {fd:FuncData} (F:Fun K "_law_rows" "_law_rows" qtg f fd) (nb: ∀x∈namesX,mg x=none) (F_26:Kn P w K mg base G C "_law_key" ["_law_script", "_law_at"] 3 qiO) (F_17:Kn P w K mg base G C "_law_number" ["_law_script", "_law_at", "_law_most"] 3 qjF) (F_22:Kn P w K mg base G C "_law_pick" ["_law_script", "_law_k", "_law_many"] 2 qcb):qbf P w K mg base CX0 4 f fd ["_law_script", "_law_at", "_law_most"] (spP K G C qqf):=
 qbL F qgR λcdv A outer s H E hr=>qae (qct (i:=3) qgR.nd rfl (by trivial) (qbM (qak))) (qae (qa1 (i:=4) qgR.nd rfl (by trivial) (qao F_22 rfl (hr.mono (by decide)) rfl (qac (qaa (pv 0)) (qac (qaa (pv 1)) (qac (qaf) (qak)))))) (qae (qa1 (i:=5) qgR.nd rfl (by trivial) (qaI qat qaG qaH (qaM (qbM (qac (qaf) (qac (qaf) (qac (qaf) (qac (qaf) (qak))))))) (qao F_22 rfl (hr.mono (by decide)) rfl (qac (qaa (pv 0)) (qac (qax qaB qaQ qaR (qaa (pv 1)) (qaf)) (qac (qaf) (qak))))) (λ_ _=>rfl))) (qae (qcv PassesOwn.never rfl (qgm rfl (nb "range" (by decide)) (qac (qao F_22 rfl (hr.mono (by decide)) rfl (qac (qaa (pv 0)) (qac (qax qaB qaQ qaR (qaa (pv 1)) (qaf)) (qac (qax qaB qaQ qaR (qaa (pv 2)) (qaf)) (qak))))) (qak))) (qaS (qar (i:=6) qgR.nd rfl (by trivial))) (qae (qa1 (i:=7) qgR.nd rfl (by trivial) (qax qaB qaQ qaR (qax qaB qaQ qaR (qaa (pv 1)) (qaf)) (qax qcn qd5 qeb (qaf) (qaa (pv 6))))) (qae (qa1 (i:=4) qgR.nd rfl (by trivial) (qrW (qaO (qlT rfl) rfl (nb "min" (by decide)) qnR (qas (qaf) (qas (qax qaB qaQ qaR (qaa (pv 4)) (qao F_22 rfl (hr.mono (by decide)) rfl (qac (qaa (pv 0)) (qac (qaa (pv 7)) (qac (qaa (pv 5)) (qak)))))) qaL))))) (qai (qbo (qeL PySem.F.plainAttrs_list PySem.F.slot_list_append PySem.F.type_list_append qbg (pv 3) (qas (qa3 (qac (qaa (pv 4)) (qac (qao F_26 rfl (hr.mono (by decide)) rfl (qac (qaa (pv 0)) (qac (qax qaB qaQ qaR (qaa (pv 7)) (qaf)) (qak)))) (qac (qao F_17 rfl (hr.mono (by decide)) rfl (qac (qaa (pv 0)) (qac (qax qaB qaQ qaR (qaa (pv 7)) (qaf)) (qac (qaf) (qak))))) (qak))))) qaL))))))) (qai (qiy 3 (qaC (qaa (pv 3))))))))
theorem qtG {f:Addr} {fd:FuncData} (F:Fun K "unlike" "unlike" qs4 f fd) (nb: ∀x∈namesX,mg x=none):qbf P w K mg base CX0 1 f fd ["rows", "ahead"] (spQ K G C q_37):=
 qdJ F qj0 rfl λcdv A outer s H E pq hr=>qae (qct (i:=2) qj0.nd rfl (by trivial) (qbM (qak))) (qae (qcv PassesOwn.never rfl (qaT (qaa (pv 0))) (qcS rfl (qaF (qaS (qar (i:=3) qj0.nd rfl (by trivial))) (qaF (qaS (qar (i:=4) qj0.nd rfl (by trivial))) (qaF (qaS (qar (i:=5) qj0.nd rfl (by trivial))) (qbW))))) (qae (qaZ (qji (qeR (qlt (hu1 hr) (qaa (pv 4)) (qb1 (pv 1))) (qer (qaK (qcm (hu8 hr)) qeI qeJ (qfx (hu1 hr) (qb1 (pv 1)) (qaa (pv 4))) (qaa (pv 5)))))) (qai (qbo (qeL PySem.F.plainAttrs_list PySem.F.slot_list_append PySem.F.type_list_append qbg (pv 2) (qas (qa3 (qac (qaa (pv 3)) (qac (qaa (pv 4)) (qac (qaa (pv 5)) (qak))))) qaL)))) (qaz)) (qai (qdx (hu1 hr) (pv 1) (qaa (pv 4)) (qaa (pv 5)))))) (qai (qdy (pv 2))))
theorem qvD {f:Addr} {fd:FuncData} (F:Fun K "behind_last_rows" "behind_last_rows" s_5 f fd) (nb: ∀x∈namesX,mg x=none) (F_16:KnQ P w K mg base G C "behind_step" ["step", "rows", "kept"] 3 q_16) (F_14:Kn P w K mg base G C "window_rows" ["size", "sums"] 1 t_14):qbf P w K mg base CX0 4 f fd ["step", "rows", "kept"] (spQ K G C q_5):=
 qdJ F quN rfl λcdv A outer s H E pq hr=>qae (qpN (j:=3) quN.nd rfl (by trivial) (qmW F_16 rfl (hr.mono (by decide)) rfl (qca (qaa (pv 0)) (qca (qaa (pv 1)) (qew (pv 2)))))) (qae (qaZ (qaK (qaU (hu8 hr)) qbs qbt (qaI qat qaG qaH (qaa (pv 0)) (qaf) (λ_ _=>rfl)) (qaD)) (qai (qcu (qrT (qaV (pv 3)) (qho (qiA F_14 rfl (hr.mono (by decide)) rfl (qca (qaI qat qaG qaH (qaa (pv 0)) (qaf) (λ_ _=>rfl)) (qew (pv 2)))))))) (qaz)) (qai (qdy (pv 3))))
theorem qtC {f:Addr} {fd:FuncData} (F:Fun K "first" "first" qs2 f fd) (nb: ∀x∈namesX,mg x=none):qbf P w K mg base CX0 1 f fd ["rows", "many", "kept"] (spQ K G C q_41):=
 qdJ F qqK rfl λcdv A outer s H E pq hr=>qae (qa1 (i:=3) qqK.nd rfl (by trivial) (qdW (hu1 hr) (qb1 (pv 2)) (qaD) (qaf) ⟨rfl,rfl,rfl,rfl⟩)) (qae (qdx (hu1 hr) (pv 2) (qaD) (qax qaB qaQ qaR (qaa (pv 3)) (qbO rfl (nb "len" (by decide)) (qaa (pv 0))))) (qai (qcu (qdn (qaV (pv 0)) (qcw) (qb9 (qpT (qaO (qlV rfl) rfl (nb "max" (by decide)) qgA (qas (qax qcN qcJ qcL (qaa (pv 1)) (qaa (pv 3))) (qas (qaf) qaL)))))))))
end
end K11
end
section
namespace HD
open PySem L2 PL
abbrev e2 (x:Str) (s:Stmt):Str×Stmt:=(x,s)
abbrev c2 (x:Str) (n:Int):Str×Int:=(x,n)
def fnAt (K:PySem.W.Frag) (x:Str):Option (Addr×Obj):=match PySem.W.nsIn K mainGlobals x with
 | some (some (.ref f))=>(match K.lookup f with | some o=>some (f,o) | none=>none)
 | _=>none
def qpH (K:PySem.W.Frag) (x:Str):Option FuncData:=match fnAt K x with
 | some (_,⟨_,_,.func fd,_⟩)=>some fd
 | _=>none
def okD (K:PySem.W.Frag) (x:Str):Bool:=match fnAt K x with
 | some (f,⟨_,_,.func fd,_⟩)=>PySem.W.codeIn K fd.code x&&PySem.W.keepIn K (.ref f)
 | _=>false
def due (x:Str) (st:Stmt) (fd:FuncData):FuncData:=PySem.W.fnOf x x (qbX st) (qbp st) (qah st) .none fd.kwdefaults fd.doc fd.pyModule fd.annotations fd.code fd.closureTuple
def okN (K:PySem.W.Frag) (x:Str):Bool:=match PySem.W.nsIn K mainGlobals x with
 | some none=>true
 | _=>false
def okC (K:PySem.W.Frag) (c:Str×Int):Bool:=match PySem.W.nsIn K mainGlobals c.1 with
 | some (some (.int n _))=>n==c.2
 | _=>false
def Df (K:PySem.W.Frag) (mg:Str->Option Value) (x:Str) (st:Stmt):Prop:=
 ∃(f:Addr) (oc:Value) (od:Option Addr) (osl:Array (Option Value)) (kV doc pm:Value) (an:Option Addr) (cdv ct:Value),
  K.lookup f=some ⟨oc,od,.func (PySem.W.fnOf x x (qbX st) (qbp st) (qah st) .none kV doc pm an cdv ct),osl⟩/\PySem.W.codeIn K cdv x=true/\PySem.W.keepIn K (.ref f)=true/\mg x=some (.ref f)/\
   PySem.W.nsIn K mainGlobals x=some (some (.ref f))
section
variable {K:PySem.W.Frag} {h:Heap} {mg:Str->Option Value} {x:Str} {st:Stmt} {tb:List (Str×Stmt)}
theorem quv (X:K.In h) (G:h.Ns mainGlobals mg) (a:okD K x=true) (e:qpH K x=(qpH K x).map (due x st)):Df K mg x st:=by
 unfold okD at a
 unfold qpH at e
 split at a
 ·rename_i f oc od fd osl q
  rw[q] at e
  have e:fd=due x st fd:=Option.some.inj e
  unfold fnAt at q
  split at q
  ·rename_i f' n
   split at q
   ·rename_i o lk
    cases q
    have a:=Bool.and_eq_true_iff.mp a
    exact ⟨_,_,_,_,fd.kwdefaults,fd.doc,fd.pyModule,fd.annotations,fd.code,fd.closureTuple,by rw[lk,show PySem.W.fnOf x x (qbX st) (qbp st) (qah st) .none fd.kwdefaults fd.doc fd.pyModule fd.annotations fd.code fd.closureTuple=fd from e.symm],a.1,a.2,PySem.W.mg_of X G n,n⟩
   ·cases q
  ·cases q
 ·cases a
theorem qrS (X:K.In h) (G:h.Ns mainGlobals mg) (a:(tb.all λp=>okD K p.1)=true) (e:tb.map (λp=>qpH K p.1)=tb.map λp=>(qpH K p.1).map (due p.1 p.2)): ∀(i:Nat) (x:Str) (st:Stmt),tb[i]? =some (x,st)->Df K mg x st:=λi x st hi=>by
 have a:=List.all_eq_true.mp a _ (List.mem_of_getElem? hi)
 have e:=congrArg (λl=>l[i]?) e
 simp only[List.getElem?_map,hi,Option.map_some] at e
 exact quv X G a (Option.some.inj e)
theorem qt2 (X:K.In h) (G:h.Ns mainGlobals mg) {l:List Str} (a:l.all (okN K)=true): ∀x∈l,mg x=none:=λx hx=>by
 have a:=List.all_eq_true.mp a x hx
 unfold okN at a
 split at a
 ·rename_i q; exact PySem.W.mg_none_of X G q
 ·cases a
theorem quC (X:K.In h) (G:h.Ns mainGlobals mg) {l:List (Str×Int)} (a:l.all (okC K)=true): ∀(i:Nat) (x:Str) (n:Int),l[i]? =some (x,n)->∃u,mg x=some u/\RelV (.int n) u:=λi x n hi=>by
 have a:=List.all_eq_true.mp a _ (List.mem_of_getElem? hi)
 unfold okC at a
 split at a
 ·rename_i m tk q
  have:m=n:=by simpa using a
  subst this
  exact ⟨_,PySem.W.mg_of X G q,_,rfl⟩
 ·cases a
end
section
variable {P:Program} {w:World} {K:PySem.W.Frag} {mg:Str->Option Value} {base:Heap} {G:Gam} {C:Str->Addr} {x:Str} {st:Stmt} {ps:List Str} {k:Nat} {t:List T->Rs T}
theorem kn (D:Df K mg x st) (ok: ∀{f:Addr} {fd:FuncData},Fun K x x st f fd->qbf P w K mg base CX0 k f fd ps (spP K G C t))
  (hb: ∀(kV doc pm:Value) (an:Option Addr) (cdv ct:Value) (us:List Value),us.length=ps.length->bindArgs (PySem.W.fnOf x x (qbX st) (qbp st) (qah st) .none kV doc pm an cdv ct) ⟨us,[]⟩=pure (ps.zip us):=by
   exact λ_ _ _ _ _ _ us hl=>by first | (obtain ⟨a,e⟩:=quV hl; subst e; rfl) | (obtain ⟨a,b,e⟩:=qt6 hl; subst e; rfl) | (obtain ⟨a,b,c,e⟩:=qt5 hl; subst e; rfl) | (obtain ⟨a,b,c,d,e⟩:=len4 hl; subst e; rfl)):Kn P w K mg base G C x ps k t:=by
 obtain ⟨f,oc,od,osl,kV,doc,pm,an,cdv,ct,lk,hcd,kp,m, -⟩:=D
 have F:=qgd lk hcd kp
 exact ⟨_,_,ok F,m,kp,F.binds hb⟩
end
theorem qqG {K:PySem.W.Frag} {lq:List (Pos×Str)} {Ts:List Addr} {H:Hp} {a:Addr} {ns:List Int} {C:Str->Addr} {t:List T->Rs T} (ht:t [.scr ns]= .ok (.bl true)) (hO:qgI Ts H) (hS:SqL K H a (ns.map V.int)):spP K (qhg (Ts.zip lq)) C t [.ref a] H (λv _=>v= .bl true) λ_ _ _=>False:=by
 have fin: ∀B:Hp,Le B H->(∀a ps,B a≠some (.tbl ps))->SqL K B a (ns.map V.int)->spP K (qhg (Ts.zip lq)) C t [.ref a] H (λv _=>v= .bl true) λ_ _ _=>False:=λB le bt sq=>by
  refine ⟨B,[.scr ns],le,bt,qsA hO,.cons (by unfold Rep; exact ⟨a,rfl,sq⟩) .nil,?_⟩
  rw[ht]
  exact λv H' B' _ _ r=>qa7 r
 have cut: ∀{o:HO},H a=some o->(∀ps,o≠.tbl ps)->SqL K (λb=>if b=a then H a else none) a (ns.map V.int)->spP K (qhg (Ts.zip lq)) C t [.ref a] H (λv _=>v= .bl true) λ_ _ _=>False:=λ{o} ho n sq=>
  fin _ (λb o z=>by
   by_cases c:b=a
   ·subst c; simpa using z
   ·simp[c] at z) (λb ps z=>by
   by_cases c:b=a
   ·subst c; simp[ho] at z; exact n ps z
   ·simp[c] at z) sq
 rcases hS with (hS | ⟨o,hS⟩) | hS
 ·exact cut hS (λps z=>by cases z) (.inl (.inl (by simp[hS])))
 ·exact cut hS (λps z=>by cases z) (.inl (.inr ⟨o,by simp[hS]⟩))
 ·exact fin (λ_=>none) (λ_ _ z=>by cases z) (λ_ _ z=>by cases z) (.inr hS)
def tOf (K:PySem.W.Frag) (y:Str):Addr:=((PySem.W.tabIn K y).getD (0,0)).2
def qhx (K:PySem.W.Frag) (ys:List Str):List (Addr×Addr):=ys.map λy=>(PySem.W.tabIn K y).getD (0,0)
def okT (K:PySem.W.Frag) (ys:List Str):Bool:=decide (ys.map (tOf K)).Nodup&&ys.all λy=>match PySem.W.tabIn K y with
 | some (_,T)=>(match K.lookup T with | none=>true | some _=>false)
 | none=>false
theorem qnJ {K:PySem.W.Frag} {ys:List Str} (h:okT K ys=true):ys.map (PySem.W.tabIn K)=(qhx K ys).map some/\(∀T∈(qhx K ys).map (·.2),K.lookup T=none)/\(ys.map (tOf K)).Nodup:=by
 have h:=Bool.and_eq_true_iff.mp h
 have nd:=of_decide_eq_true h.1
 have h:=List.all_eq_true.mp h.2
 refine ⟨?_,?_,nd⟩
 ·unfold qhx
  rw[List.map_map]
  refine List.map_congr_left λy hy=> ?_
  have:=h y hy
  show PySem.W.tabIn K y=some ((PySem.W.tabIn K y).getD (0,0))
  cases q:PySem.W.tabIn K y with
  | none=>rw[q] at this; cases this
  | some p=>rfl
 ·intro T hT
  obtain ⟨p,hp,rfl⟩:=List.mem_map.mp hT
  obtain ⟨y,hy,rfl⟩:=List.mem_map.mp hp
  have:=h y hy
  cases q:PySem.W.tabIn K y with
  | none=>rw[q] at this; cases this
  | some p=>
   rw[q] at this
   dsimp only at this
   show K.lookup p.2=none
   split at this
   ·assumption
   ·cases this
end HD
end
section
namespace HD
open PySem L2 PL
def KnX (P:Program) (w:World) (K:PySem.W.Frag) (mg:Str->Option Value) (base:Heap) (CX:CXT) (x:Str) (ps:List Str) (k:Nat) (sp:Sp):Prop:=
 ∃(f:Addr) (fd:FuncData),qbf P w K mg base CX k f fd ps sp/\mg x=some (.ref f)/\PySem.W.keepIn K (.ref f)=true/\qdB K fd ps []
section
variable {P:Program} {w:World} {K:PySem.W.Frag} {mg:Str->Option Value} {base:Heap} {CX:CXT} {x:Str} {st:Stmt} {ps:List Str} {k:Nat} {sp:Sp}
theorem knx (D:Df K mg x st) (ok: ∀{f:Addr} {fd:FuncData},Fun K x x st f fd->qbf P w K mg base CX k f fd ps sp)
  (hb: ∀(kV doc pm:Value) (an:Option Addr) (cdv ct:Value) (us:List Value),us.length=ps.length->bindArgs (PySem.W.fnOf x x (qbX st) (qbp st) (qah st) .none kV doc pm an cdv ct) ⟨us,[]⟩=pure (ps.zip us):=by
   exact λ_ _ _ _ _ _ us hl=>by first | (obtain ⟨a,e⟩:=quV hl; subst e; rfl) | (obtain ⟨a,b,e⟩:=qt6 hl; subst e; rfl) | (obtain ⟨a,b,c,e⟩:=qt5 hl; subst e; rfl) | (obtain ⟨a,b,c,d,e⟩:=len4 hl; subst e; rfl)):KnX P w K mg base CX x ps k sp:=by
 obtain ⟨f,oc,od,osl,kV,doc,pm,an,cdv,ct,lk,hcd,kp,m, -⟩:=D
 have F:=qgd lk hcd kp
 exact ⟨_,_,ok F,m,kp,F.binds hb⟩
end
end HD
end
section
namespace HD
open PySem L2 PL
end HD
end
section
namespace HD
open PySem L2 PL
theorem walkW {Ex:World->PySem.W.Frag->(Str->Option Value)->Prop} {l:PySem.W.OpenLaw} {q:Program} {loose:List Str} {XP:(Str->Option Value)->Heap->Prop} {YP:World->Heap->Prop} {d:DefRec} {K:Params->PySem.W.Frag} {tb:List (Str×Stmt)} {cs:List (Str×Int)} {nms:List Str} {ys:List Str} {lq:List (Pos×Str)} {LV:Nat} {sl:Stmt} {t:List T->Rs T}
  (hn:l.most=some 63) (hdf:d.params.defaults=[]) (hd:d.name= "law") (hY: ∀(w:World) (h:Heap),YP w h->(K w.params).In h) (hrec: ∀y∈ys,∃dx,(PyProof.Rows.recsOf q).find? (λe=>e.name==y)=some dx) (hR:qcE LV callerA)
  (h1: ∀w:World,(tb.all λp=>okD (K w.params) p.1)=true) (h2: ∀w:World,tb.map (λp=>qpH (K w.params) p.1)=tb.map λp=>(qpH (K w.params) p.1).map (due p.1 p.2)) (h3: ∀w:World,cs.all (okC (K w.params))=true) (h4: ∀w:World,nms.all (okN (K w.params))=true)
  (h5: ∀w:World,okT (K w.params) ys=true) {i:Nat} (hi:tb[i]? =some (Str.ofString "law",sl)) (hT: ∀ns:List Int,ns.length<=63->t [.scr ns]= .ok (.bl true))
  (hbl: ∀(kV doc pm:Value) (an:Option Addr) (cdv ct u:Value),bindArgs (PySem.W.fnOf "law" "law" (qbX sl) (qbp sl) (qah sl) .none kV doc pm an cdv ct) ⟨[u],[]⟩=pure [(Str.ofString "_law_script",u)])
  (hE: ∀(w:World) (mg:Str->Option Value) (h:Heap),(K w.params).In h->h.Ns mainGlobals mg->Ex w (K w.params) mg)
  (F: ∀{w:World} {K:PySem.W.Frag} {mg:Str->Option Value} {base:Heap} {fa:Addr} {fd:FuncData},(∀(i:Nat) (x:Str) (st:Stmt),tb[i]? =some (x,st)->Df K mg x st)->(∀x∈nms,mg x=none)->(∀(i:Nat) (x:Str) (n:Int),cs[i]? =some (x,n)->∃u,mg x=some u/\RelV (.int n) u)->
   (∀y∈ys,∃c,PySem.W.tabIn K y=some (c,tOf K y)/\PySem.W.CodeHd base c (tOf K y))->(ys.map (tOf K)).Nodup->qjE mg base->K.In base->Ex w K mg->Fun K "law" "law" sl fa fd->qbf l.prog w K mg base CX0 LV fa fd ["_law_script"] (spP K (qhg ((ys.map (tOf K)).zip lq)) (λ_=>0) t)):
  PySem.W.WalkO q loose XP YP l.row.toRowW d [] (λf vs=>PySem.call f vs):=by
 refine L2.walk_ofTs (n:=63) (k:=LV) (x:= "_law_script") (ys:=ys) (CX:=λ_=>CX0) (sp:=λw cts=>spP (K w.params) (qhg ((cts.map (·.2)).zip lq)) (λ_=>0) t) hn (by decide) hdf hR hY hrec ?_ (λ_ _ _ a ns hl hO hS=>qqG (hT ns hl) hO hS) λ_ _ _ _ _ z=>z
 intro w mg fa h X G hm
 have D:=qrS X G (h1 w) (h2 w)
 obtain ⟨f,oc,od,osl,kV,doc,pm,an,cdv,ct,lk,hcd,kp,m, -⟩:=D i _ _ hi
 rw[hd] at hm
 have e:=hm.symm.trans m
 cases e
 obtain ⟨t1,t2,nd⟩:=qnJ (h5 w)
 have em:(qhx (K w.params) ys).map (·.2)=ys.map (tOf (K w.params)):=by unfold qhx; rw[List.map_map]; rfl
 refine ⟨_,qhx (K w.params) ys,t1,t2,λs u=>.of_eq (hbl kV doc pm an cdv ct u),λbase KI _ hC hb=> ?_⟩
 rw[em]
 refine F D (qt2 X G (h4 w)) (quC X G (h3 w)) (λy hy=> ?_) nd hb KI (hE w mg h X G) (qgd lk hcd kp)
 have e1:some ((PySem.W.tabIn (K w.params) y).getD (0,0))=PySem.W.tabIn (K w.params) y:=by
  obtain ⟨j,hj,ej⟩:=List.mem_iff_getElem.mp hy
  have:=congrArg (λl=>l[j]?) t1
  unfold qhx at this
  simp only[List.getElem?_map,List.getElem?_eq_getElem hj,ej,Option.map_some] at this
  exact (Option.some.inj this).symm
 exact ⟨((PySem.W.tabIn (K w.params) y).getD (0,0)).1,e1.symm,hC _ (List.mem_map.mpr ⟨y,hy,rfl⟩)⟩
end HD
end
section
namespace K11
open PySem L2 PL SetL RH HD
abbrev gL:Gam:=qhg []
abbrev lqs:List (Pos×Str):=[]
abbrev tb:List (Str×Stmt):=[e2 "is_whole" qte,e2 "is_whole_within" s_8,e2 "is_word" qtc,e2 "is_key" qs9,e2 "is_row" qs8,e2 "is_log" qs7,e2 "refuse_what_is_no_row" s_0,e2 "refuse_out_of_order" s_4,e2 "refuse_what_is_no_log" s_1,e2 "of_key" qsc,e2 "over" qr9,e2 "under" qsb,e2 "plus" qr8,e2 "times" qsa,e2 "first" qs2,e2 "each" qs0,e2 "window" qs6,e2 "window_rows" qse,e2 "running" qtb,e2 "change" qs5,e2 "unlike" qs4,e2 "is_step" qta,e2 "is_ask" qs3,e2 "refuse_what_is_no_ask" s_2,e2 "behind_step" qtl,e2 "behind_last_rows" s_5,e2 "asked" qs1,e2 "_law_cell" qti,e2 "_law_pick" qth,e2 "_law_key" qtd,e2 "_law_number" qtk,e2 "_law_rows" qtg,e2 "_law_step" qtf,e2 "_law_ask" qsd,e2 "_law_stepped" qmE,e2 "_law_windows" qqg,e2 "_law_by_keys" qsf,e2 "_law_asked" qtj,e2 "law" qj7]
abbrev cs:List (Str×Int):=[c2 "GREATEST_MOMENT" (99),c2 "GREATEST_NUMBER" (99),c2 "GREATEST_STEP_NUMBER" (20),c2 "LONGEST_KEY" (2),c2 "MOST_STEPS" (5)]
def Ex (w:World) (K:PySem.W.Frag) (mg:Str->Option Value):Prop:=qjA K mg w "NUMBER_STEPS" [(("over" :Str),("over" :Str)),(("under" :Str),("under" :Str)),(("plus" :Str),("plus" :Str)),(("times" :Str),("times" :Str))]/\qjA K mg w "COUNT_STEPS" [(("first" :Str),("first" :Str)),(("each" :Str),("each" :Str)),(("window" :Str),("window" :Str))]/\qjA K mg w "BARE_STEPS" [(("running" :Str),("running" :Str)),(("change" :Str),("change" :Str)),(("unlike" :Str),("unlike" :Str))]
theorem ex_of {K:Params->PySem.W.Frag} (b0: ∀w:World,qqx (K w.params) "NUMBER_STEPS" [(("over" :Str),("over" :Str)),(("under" :Str),("under" :Str)),(("plus" :Str),("plus" :Str)),(("times" :Str),("times" :Str))]=true) (h0: ∀w:World,(qqm (K w.params) "NUMBER_STEPS").map (λes=>es.map (·.hash))=some (([(("over" :Str),("over" :Str)),(("under" :Str),("under" :Str)),(("plus" :Str),("plus" :Str)),(("times" :Str),("times" :Str))]:List (Str×Str)).map λp=>PyData.keyHash w.params p.1)) (b1: ∀w:World,qqx (K w.params) "COUNT_STEPS" [(("first" :Str),("first" :Str)),(("each" :Str),("each" :Str)),(("window" :Str),("window" :Str))]=true) (h1: ∀w:World,(qqm (K w.params) "COUNT_STEPS").map (λes=>es.map (·.hash))=some (([(("first" :Str),("first" :Str)),(("each" :Str),("each" :Str)),(("window" :Str),("window" :Str))]:List (Str×Str)).map λp=>PyData.keyHash w.params p.1)) (b2: ∀w:World,qqx (K w.params) "BARE_STEPS" [(("running" :Str),("running" :Str)),(("change" :Str),("change" :Str)),(("unlike" :Str),("unlike" :Str))]=true) (h2: ∀w:World,(qqm (K w.params) "BARE_STEPS").map (λes=>es.map (·.hash))=some (([(("running" :Str),("running" :Str)),(("change" :Str),("change" :Str)),(("unlike" :Str),("unlike" :Str))]:List (Str×Str)).map λp=>PyData.keyHash w.params p.1))
  (w:World) (mg:Str->Option Value) (h:Heap) (X:(K w.params).In h) (G:h.Ns mainGlobals mg):Ex w (K w.params) mg:=
 ⟨qgN X G (b0 w) (h0 w),qgN X G (b1 w) (h1 w),qgN X G (b2 w) (h2 w)⟩
theorem mk {P:Program} {w:World} {K:PySem.W.Frag} {mg:Str->Option Value} {base:Heap} {fa:Addr} {fd:FuncData} (D: ∀(i:Nat) (x:Str) (st:Stmt),tb[i]? =some (x,st)->Df K mg x st) (nb: ∀x∈namesX,mg x=none) (cm: ∀(i:Nat) (x:Str) (n:Int),cs[i]? =some (x,n)->∃u,mg x=some u/\RelV (.int n) u)
  (tc: ∀y∈([]:List Str),∃c,PySem.W.tabIn K y=some (c,tOf K y)/\PySem.W.CodeHd base c (tOf K y)) (nd:(([]:List Str).map (tOf K)).Nodup) (hb:qjE mg base) (KI:K.In base) (EX:Ex w K mg) (F:Fun K "law" "law" qj7 fa fd):
  qbf P w K mg base CX0 7 fa fd ["_law_script"] (spP K gL (λ_=>0) t_law):=by
 obtain ⟨T_9,T_15,T_19⟩:=EX
 obtain ⟨_,cm_6,cr_6⟩:=cm 0 _ _ rfl
 obtain ⟨_,cm_7,cr_7⟩:=cm 1 _ _ rfl
 obtain ⟨_,cm_3,cr_3⟩:=cm 2 _ _ rfl
 obtain ⟨_,cm_13,cr_13⟩:=cm 3 _ _ rfl
 obtain ⟨_,cm_18,cr_18⟩:=cm 4 _ _ rfl
 have N_25:=kn (w:=w) (G:=gL) (C:=λ_=>0) (D 0 _ _ rfl) λF=>qtS (P:=P) (w:=w) (mg:=mg) (base:=base) F nb (qei K)
 have N_8:=kn (w:=w) (G:=gL) (C:=λ_=>0) (D 1 _ _ rfl) λF=>qvC (P:=P) (w:=w) (mg:=mg) (base:=base) F nb N_25
 have N_28:=kn (w:=w) (G:=gL) (C:=λ_=>0) (D 2 _ _ rfl) λF=>qtP (P:=P) (w:=w) (mg:=mg) (base:=base) F nb (qei K)
 have N_31:=kn (w:=w) (G:=gL) (C:=λ_=>0) (D 3 _ _ rfl) λF=>qtM (P:=P) (w:=w) (mg:=mg) (base:=base) F nb cm_13 cr_13 N_28
 have N_32:=kn (w:=w) (G:=gL) (C:=λ_=>0) (D 4 _ _ rfl) λF=>qtL (P:=P) (w:=w) (mg:=mg) (base:=base) F nb (qei K) cm_6 cr_6 cm_7 cr_7 N_31 N_8
 have N_33:=kn (w:=w) (G:=gL) (C:=λ_=>0) (D 5 _ _ rfl) λF=>qtK (P:=P) (w:=w) (mg:=mg) (base:=base) F nb
 have N_0:=kn (w:=w) (G:=gL) (C:=λ_=>0) (D 6 _ _ rfl) λF=>qvH (P:=P) (w:=w) (mg:=mg) (base:=base) F nb N_32
 have N_4:=kn (w:=w) (G:=gL) (C:=λ_=>0) (D 7 _ _ rfl) λF=>qvE (P:=P) (w:=w) (mg:=mg) (base:=base) F nb N_33
 have N_1:=kn (w:=w) (G:=gL) (C:=λ_=>0) (D 8 _ _ rfl) λF=>qvG (P:=P) (w:=w) (mg:=mg) (base:=base) F nb N_4 N_0
 have N_34:KnS P w K mg base gL (λ_=>0) "of_key" ["rows", "key"] 1 o_34:=knx (P:=P) (w:=w) (base:=base) (D 9 _ _ rfl) λF=>qtJ (G:=gL) (C:=λ_=>0) (P:=P) (w:=w) (mg:=mg) (base:=base) F nb
 have N_43:KnS P w K mg base gL (λ_=>0) "over" ["rows", "bound"] 1 o_43:=knx (P:=P) (w:=w) (base:=base) (D 10 _ _ rfl) λF=>qtA (G:=gL) (C:=λ_=>0) (P:=P) (w:=w) (mg:=mg) (base:=base) F nb
 have N_39:KnS P w K mg base gL (λ_=>0) "under" ["rows", "bound"] 1 o_39:=knx (P:=P) (w:=w) (base:=base) (D 11 _ _ rfl) λF=>qtE (G:=gL) (C:=λ_=>0) (P:=P) (w:=w) (mg:=mg) (base:=base) F nb
 have N_44:KnS P w K mg base gL (λ_=>0) "plus" ["rows", "more"] 1 o_44:=knx (P:=P) (w:=w) (base:=base) (D 12 _ _ rfl) λF=>qtz (G:=gL) (C:=λ_=>0) (P:=P) (w:=w) (mg:=mg) (base:=base) F nb
 have N_40:KnS P w K mg base gL (λ_=>0) "times" ["rows", "factor"] 1 o_40:=knx (P:=P) (w:=w) (base:=base) (D 13 _ _ rfl) λF=>qtD (G:=gL) (C:=λ_=>0) (P:=P) (w:=w) (mg:=mg) (base:=base) F nb
 have N_41:KnQ P w K mg base gL (λ_=>0) "first" ["rows", "many", "kept"] 1 q_41:=knx (P:=P) (w:=w) (base:=base) (D 14 _ _ rfl) λF=>qtC (G:=gL) (C:=λ_=>0) (P:=P) (w:=w) (mg:=mg) (base:=base) F nb
 have N_45:KnQ P w K mg base gL (λ_=>0) "each" ["rows", "many", "kept"] 1 q_45:=knx (P:=P) (w:=w) (base:=base) (D 15 _ _ rfl) λF=>qty (G:=gL) (C:=λ_=>0) (P:=P) (w:=w) (mg:=mg) (base:=base) F nb
 have N_14:=kn (w:=w) (G:=gL) (C:=λ_=>0) (D 17 _ _ rfl) λF=>qtY (P:=P) (w:=w) (mg:=mg) (base:=base) F nb
 have N_35:KnQ P w K mg base gL (λ_=>0) "window" ["rows", "size", "sums"] 2 q_35:=knx (P:=P) (w:=w) (base:=base) (D 16 _ _ rfl) λF=>qtI (G:=gL) (C:=λ_=>0) (P:=P) (w:=w) (mg:=mg) (base:=base) F nb N_14
 have N_29:KnQ P w K mg base gL (λ_=>0) "running" ["rows", "sums"] 1 q_29:=knx (P:=P) (w:=w) (base:=base) (D 18 _ _ rfl) λF=>qtO (G:=gL) (C:=λ_=>0) (P:=P) (w:=w) (mg:=mg) (base:=base) F nb
 have N_36:KnQ P w K mg base gL (λ_=>0) "change" ["rows", "ahead"] 1 q_36:=knx (P:=P) (w:=w) (base:=base) (D 19 _ _ rfl) λF=>qtH (G:=gL) (C:=λ_=>0) (P:=P) (w:=w) (mg:=mg) (base:=base) F nb
 have N_37:KnQ P w K mg base gL (λ_=>0) "unlike" ["rows", "ahead"] 1 q_37:=knx (P:=P) (w:=w) (base:=base) (D 20 _ _ rfl) λF=>qtG (G:=gL) (C:=λ_=>0) (P:=P) (w:=w) (mg:=mg) (base:=base) F nb
 have N_30:=kn (w:=w) (G:=gL) (C:=λ_=>0) (D 21 _ _ rfl) λF=>qtN (P:=P) (w:=w) (mg:=mg) (base:=base) F nb (qei K) cm_3 cr_3 N_31 N_8 T_19 T_15 T_9
 have N_38:=kn (w:=w) (G:=gL) (C:=λ_=>0) (D 22 _ _ rfl) λF=>qtF (P:=P) (w:=w) (mg:=mg) (base:=base) F nb (qei K) cm_18 cr_18 N_30
 have N_2:=kn (w:=w) (G:=gL) (C:=λ_=>0) (D 23 _ _ rfl) λF=>qvF (P:=P) (w:=w) (mg:=mg) (base:=base) F nb N_38
 have N_16:KnQ P w K mg base gL (λ_=>0) "behind_step" ["step", "rows", "kept"] 3 q_16:=knx (P:=P) (w:=w) (base:=base) (D 24 _ _ rfl) λF=>qtX (G:=gL) (C:=λ_=>0) (P:=P) (w:=w) (mg:=mg) (base:=base) F nb N_36 N_45 N_41 N_34 N_43 N_44 N_29 N_40 N_39 N_37 N_35 T_19 T_15 T_9
 have N_5:KnQ P w K mg base gL (λ_=>0) "behind_last_rows" ["step", "rows", "kept"] 4 q_5:=knx (P:=P) (w:=w) (base:=base) (D 25 _ _ rfl) λF=>qvD (G:=gL) (C:=λ_=>0) (P:=P) (w:=w) (mg:=mg) (base:=base) F nb N_16 N_14
 have N_42:KnS P w K mg base gL (λ_=>0) "asked" ["ask", "rows"] 6 o_42:=knx (P:=P) (w:=w) (base:=base) (D 26 _ _ rfl) λF=>qtB (G:=gL) (C:=λ_=>0) (P:=P) (w:=w) (mg:=mg) (base:=base) F nb N_5 N_2 N_1
 obtain ⟨f1,oc1,od1,osl1,kV1,doc1,pm1,an1,cdv1,ct1,lk1,hcd1,kp1,m1, -⟩:=D 27 _ _ rfl
 have F1:=qgd lk1 hcd1 kp1
 have G1:=qpk (P:=P) (w:=w) (mg:=mg) (base:=base) F1 (nb "len" (by decide))
 have b1:=F1.binds (ps:=["_law_script", "_law_k"]) λ_ _ _ _ _ _ us hl=>by obtain ⟨a,b,e⟩:=qt6 hl; subst e; rfl
 obtain ⟨f2,oc2,od2,osl2,kV2,doc2,pm2,an2,cdv2,ct2,lk2,hcd2,kp2,m2, -⟩:=D 28 _ _ rfl
 have F2:=qgd lk2 hcd2 kp2
 have G2:=qpi (P:=P) (w:=w) (mg:=mg) (base:=base) F2 G1 m1 kp1 b1
 have N_22:=qpz (G:=gL) (C:=λ_=>0) G2 m2 kp2 (F2.binds (ps:=["_law_script", "_law_k", "_law_many"]) λ_ _ _ _ _ _ us hl=>by obtain ⟨a,b,c,e⟩:=qt5 hl; subst e; rfl)
 have N_26:=kn (w:=w) (G:=gL) (C:=λ_=>0) (D 29 _ _ rfl) λF=>qtR (P:=P) (w:=w) (mg:=mg) (base:=base) F nb N_22
 have N_17:=kn (w:=w) (G:=gL) (C:=λ_=>0) (D 30 _ _ rfl) λF=>qtW (P:=P) (w:=w) (mg:=mg) (base:=base) F nb N_22
 have N_23:=kn (w:=w) (G:=gL) (C:=λ_=>0) (D 31 _ _ rfl) λF=>qtU (P:=P) (w:=w) (mg:=mg) (base:=base) F nb N_26 N_17 N_22
 have N_24:=kn (w:=w) (G:=gL) (C:=λ_=>0) (D 32 _ _ rfl) λF=>qtT (P:=P) (w:=w) (mg:=mg) (base:=base) F nb N_26 N_17 N_22
 have N_27:=kn (w:=w) (G:=gL) (C:=λ_=>0) (D 33 _ _ rfl) λF=>qtQ (P:=P) (w:=w) (mg:=mg) (base:=base) F nb N_22 N_24
 have N_12:=kn (w:=w) (G:=gL) (C:=λ_=>0) (D 36 _ _ rfl) λF=>qtZ (P:=P) (w:=w) (mg:=mg) (base:=base) F nb
 have N_11:=kn (w:=w) (G:=gL) (C:=λ_=>0) (D 35 _ _ rfl) λF=>qt0 (P:=P) (w:=w) (mg:=mg) (base:=base) F nb
 have N_10:=kn (w:=w) (G:=gL) (C:=λ_=>0) (D 34 _ _ rfl) λF=>qt1 (P:=P) (w:=w) (mg:=mg) (base:=base) F nb N_12 N_11
 have N_20:=kn (w:=w) (G:=gL) (C:=λ_=>0) (D 37 _ _ rfl) λF=>qtV (P:=P) (w:=w) (mg:=mg) (base:=base) F nb N_10
 exact qrg (G:=gL) (C:=λ_=>0) (P:=P) (w:=w) (mg:=mg) (base:=base) F nb N_27 N_20 N_22 N_23 N_42 N_33
end K11
end
section
open PySem PySem.W PyProof.Rows
set_option maxRecDepth 100000 in
set_option maxHeartbeats 0 in
theorem PySem.Challenge.cw_rowasks_k11_whole_asked_holds : PySem.Challenge.rw_rowasks_k11_whole_asked.Holds := by
 w_on; o_law
 refine holds_open (q:=K11.vq) (loose:=K11.lo) (Xt:=K11.xt) (XP:=XL K11.vq []) (Yf:=Hook.obs K11.hk) (Ya:=Hook.val K11.hk) (YP:=Hook.says K11.hk) (N:=20000) (HD.left_two "special-get-raises" K11.runF K11.runT) (Hook.of K11.hk) (Hook.keeps K11.hk) (λs e=>xl_of s (Bool.and_eq_true_iff.mp e).1) XL.keeps (by rfl) (by rfl) (by rfl) (λs e=>recFacts_of (Bool.and_eq_true_iff.mp e).2) (by rfl) (by first | assumption | decide+kernel) (by decide+kernel) ⟨rfl,rfl,rfl,rfl,rfl,by decide+kernel⟩ ?hw ?hc
 (case hw=>w_witness2)
 k_fill
 refine' HD.walkW (l:=PySem.Challenge.rw_rowasks_k11_whole_asked) (tb:=K11.tb) (cs:=K11.cs) (nms:=PL.namesX) (ys:=[]) (lq:=K11.lqs) (LV:=7) (i:=38) (t:=K11.t_law) rfl rfl rfl (λw h Y=>Y) ?_ ⟨rfl,by decide,by decide⟩ (λw=>by kernel_rfl) (λw=>by kernel_rfl) (λw=>by kernel_rfl) (λw=>by kernel_rfl) (λw=>by kernel_rfl) rfl (λns hl=>K11.law_true hl) (λ_ _ _ _ _ _ _=>rfl) (K11.ex_of (λw=>by kernel_rfl) (λw=>by kernel_rfl) (λw=>by kernel_rfl) (λw=>by kernel_rfl) (λw=>by kernel_rfl) (λw=>by kernel_rfl)) K11.mk
 intro y hy
 cases hy
end
