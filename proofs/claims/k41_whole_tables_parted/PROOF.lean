import PyProof.Rows.All
import Wide.All
import OpenK.AllK
import Wide.FinOn
import Lean
import PyProof.EqAt
import PyProof.EqKinds
import PyProof.TupleCall
import KE.KSortTup
import KE.KSortKey
import PyProof.ExcBaseAll.ValueError
import PyProof.ExcAttrAll.ValueError
import KE.KTryOn
import OpenK.KOwn
import PyProof.NeData
import PyProof.SetKind
import PyProof.Rows.SetFrom
import PyProof.CollectWalk
import KE.KNest
import PyProof.FString5
import KE.KDictList
import KE.KDictSum
import PyProof.WalksEnum
import PyProof.EnumMake
import PyProof.Draws
import PyProof.WalksMore
import PyProof.AutoSeq1
import PyProof.ListMulRoad
import PyProof.FactsAll.tuple_2
import KE.KDictOf
import KE.KDictLaws
import PySem.Challenge.RW_rowasks_k41_whole_tables_parted
set_option Elab.async false
set_option linter.all false
set_option maxRecDepth 100000
set_option maxHeartbeats 8000000
section
open PySem PySem.Spec PyProof.Rows
abbrev Va:=@wpAny_bind
abbrev Vb:=@wpAny_pure
abbrev Vc:=@wpAny_mono
abbrev Vd:=@wpAny_truthy_bool
abbrev Ve:=@wpAny_Call_Name_kw
abbrev Vf:=@wpAny_pyIter_list
abbrev Vg:=@Heap.get?_push_of_some
abbrev Vh:=@Heap.get?_push_size
abbrev Vi:=@Heap.lt_size
abbrev Vj:=@Heap.get?_update_other
abbrev Vk:=@List.mem_cons_self
abbrev Vl:=@List.mem_cons_of_mem
abbrev Vm:=@Nat.le_refl
abbrev Vn:=@Nat.lt_of_lt_of_le
abbrev Vo:=@Nat.lt_of_le_of_lt
abbrev Vp:=@Nat.ne_of_lt
abbrev Vq:=@Nat.le_of_lt
abbrev Vr:=@Nat.le_trans
abbrev Vs:=@Bool.false_ne_true
abbrev Vt:=@List.mem_append_left
abbrev Vu:=@List.mem_append_right
abbrev Vv:=@List.mem_of_getElem?
abbrev Vw:=@PySem.mem_of_lookup
abbrev Vx:=@decide_eq_true
abbrev Vy:=@decide_eq_false
abbrev Vz:=@List.getElem?_eq_getElem
abbrev Wa:=@call_meets
abbrev Wb:=@Nat.lt_succ_self
abbrev Wc:=@Nat.le_succ
end
namespace HD
open PySem PySem.W
def qvF:Stmt->Bool
 |.Assign (targets:=[.Name x _]) .. =>x== "__name__"
 |_=>false
def vw(p:Program):Program:={ p with main:={ p.main with body:=p.main.body.filter λs=> !qvF s } }
theorem qk5 (row:String) (hf: ∀w:World,((fencedOpening treeTable p w N).bind (topFrom treeTable p (w.withFollow row false) N)).map (λs=>(openSeen q loose (importedModules p.main.body) Xt true s,Yf s))=some (openGood q loose,Ya (w.withFollow row false))) (ht: ∀w:World,((fencedOpening treeTable p w N).bind (topFrom treeTable p (w.withFollow row true) N)).map (λs=>(openSeen q loose (importedModules p.main.body) Xt true s,Yf s))=some (openGood q loose,Ya (w.withFollow row true))):
  LeftO p q loose Xt Yf Ya N:=λw=>by
 have e:=World.withFollow_self w row;unfold openEnds;cases hb:w.params.followText row<;>rw[hb] at e
 ·have:=hf w;rw[e] at this;exact this
 ·have:=ht w;rw[e] at this;exact this
def qrJ(p:Program)(row:String)(N:Nat)(b:Bool)(w:World):Option Shared:=(fencedOpening treeTable p w N).bind (topFrom treeTable p (w.withFollow row b) N)
def qqi(p q:Program)(loose:List Str)(Xt:Shared->Bool)(s:Shared):=openSeen q loose (importedModules p.main.body) Xt true s
def PartX(p q:Program)(loose:List Str)(Xt:Shared->Bool)(row:String)(N:Nat)(b:Bool):Prop:= ∀w:World,(qrJ p row N b w).map (λs=>(qqi p q loose Xt s).2)=some (openGood q loose).2
def PartY(p q:Program)(loose:List Str)(Xt:Shared->Bool)(H:Hook)(row:String)(N:Nat)(b:Bool):Prop:= ∀w:World,(qrJ p row N b w).map (λs=>((qqi p q loose Xt s).1,H.obs s))=some ((openGood q loose).1,H.val (w.withFollow row b))
theorem parts (hx:PartX p q loose Xt row N b) (hy:PartY p q loose Xt H row N b):
  ∀w:World,((fencedOpening treeTable p w N).bind (topFrom treeTable p (w.withFollow row b) N)).map (λs=>(openSeen q loose (importedModules p.main.body) Xt true s,Hook.obs H s))=some (openGood q loose,Hook.val H (w.withFollow row b)):=λw=>by
 have hx:=hx w;have hy:=hy w;have e:((fencedOpening treeTable p w N).bind (topFrom treeTable p (w.withFollow row b) N))=qrJ p row N b w:=rfl;rw[e];cases r:qrJ p row N b w with
 |none=>rw[r] at hx;cases hx
 |some s=>rw[r] at hx hy;have y:=Prod.mk.inj (Option.some.inj hy);exact congrArg some (Prod.ext (Prod.ext y.1 (Option.some.inj hx)) y.2)
theorem left_parts (row:String) (x0:PartX p q loose Xt row N false) (y0:PartY p q loose Xt H row N false) (x1:PartX p q loose Xt row N true) (y1:PartY p q loose Xt H row N true):
  LeftO p q loose Xt (Hook.obs H) (Hook.val H) N:=qk5 row (parts x0 y0) (parts x1 y1)
end HD
section
open PySem PySem.W PyProof.Rows
namespace K41
abbrev vq:Program:=HD.vw PySem.Challenge.pw_rowasks_k41_whole_tables_parted
abbrev lo:List Str:=[]
abbrev xt:Shared->Bool:=λs=>xlAt vq [] s&&recOk (RowW.records PySem.Challenge.rw_rowasks_k41_whole_tables_parted.row.toRowW) s
set_option maxRecDepth 100000 in
set_option maxHeartbeats 0 in
theorem rXF:HD.PartX PySem.Challenge.pw_rowasks_k41_whole_tables_parted vq lo xt "special-get-raises" 20000 false:=λw=>by kernel_rfl
set_option maxRecDepth 100000 in
set_option maxHeartbeats 0 in
theorem rXT:HD.PartX PySem.Challenge.pw_rowasks_k41_whole_tables_parted vq lo xt "special-get-raises" 20000 true:=λw=>by kernel_rfl
section
local macro_rules
 |`(tactic| o_head $H)=> `(tactic| (exact False.elim (by assumption);exact $H))
set_option maxRecDepth 100000 in
set_option maxHeartbeats 0 in
noncomputable def hk:Hook:=by
 refine(λ(_:False->PySem.Challenge.rw_rowasks_k41_whole_tables_parted.Holds)=> ?H) ?pf
 rotate_left
 intro hp
 w_on;o_law;k_head
end
set_option maxRecDepth 100000 in
set_option maxHeartbeats 0 in
theorem rYF:HD.PartY PySem.Challenge.pw_rowasks_k41_whole_tables_parted vq lo xt hk "special-get-raises" 20000 false:=λw=>by kernel_rfl
set_option maxRecDepth 100000 in
set_option maxHeartbeats 0 in
theorem rYT:HD.PartY PySem.Challenge.pw_rowasks_k41_whole_tables_parted vq lo xt hk "special-get-raises" 20000 true:=λw=>by kernel_rfl
end K41
end
namespace L2
open PySem PySem.Spec PyProof.Rows
abbrev Key:=Sum Int Str
def keyIs:Key->Value->Bool
 |.inl k,v=>Value.isInt k v
 |.inr x,v=>Value.isStrOf x v
def qvx(w:World):Key->Int
 |.inl k=>hashInt k
 |.inr x=>hashStr w x
theorem qar: ∀{k:Key} {v:Value},keyIs k v=true->(∃i t,k=Sum.inl i/\v=Value.int i t)\/(∃x t,k=Sum.inr x/\v=Value.str x t)
 |.inl i,v,h=>by obtain⟨t,e⟩:=Value.isInt_shape (k:=i) (v:=v) h;exact .inl ⟨i,t,rfl,e⟩
 |.inr x,v,h=>by obtain⟨t,e⟩:=Value.isStrOf_shape (x:=x) (v:=v) h;exact .inr ⟨x,t,rfl,e⟩
theorem qiX(i:Int)(t:Tok):keyIs (.inl i) (.int i t)=true:=by simp[keyIs,Value.isInt]
theorem qiW(x:Str)(t:Tok):keyIs (.inr x) (.str x t)=true:=by simp[keyIs,Value.isStrOf]
theorem qqr(a b:Int):decide ((Sum.inl a:Key)=Sum.inl b)=(a==b):=by
 by_cases e:a=b
 ·subst e;simp
 ·have h: ¬(Sum.inl a:Key)=Sum.inl b:=λq=>e (Sum.inl.inj q);rw[decide_eq_false h];exact(beq_eq_false_iff_ne.mpr e).symm
theorem qqn(a b:Str):decide ((Sum.inr a:Key)=Sum.inr b)=decide (a=b):=by
 by_cases e:a=b
 ·subst e;simp
 ·have h: ¬(Sum.inr a:Key)=Sum.inr b:=λq=>e (Sum.inr.inj q);rw[decide_eq_false h,decide_eq_false e]
theorem qqq(a:Int)(b:Str):decide ((Sum.inl a:Key)=Sum.inr b)=false:=Vy (λq=>nomatch q)
theorem qqo(a:Str)(b:Int):decide ((Sum.inr a:Key)=Sum.inl b)=false:=Vy (λq=>nomatch q)
def qap(prog:Program)(w:World):PySem.KeyKind prog w Key where
 is:=keyIs
 hash:=qvx w
 inj:=λv a b ha hb=>by
  rcases qar ha with⟨i,t,rfl,rfl⟩|⟨x,t,rfl,rfl⟩
  ·rcases qar hb with⟨j,u,rfl,e⟩|⟨y,u,rfl,e⟩
   ·injection e with e1 _;rw[e1]
   ·exact nomatch e
  ·rcases qar hb with⟨j,u,rfl,e⟩|⟨y,u,rfl,e⟩
   ·exact nomatch e
   ·injection e with e1 _;rw[e1]
 byValue:=λk v h=>by
  rcases qar h with⟨i,t,rfl,rfl⟩|⟨x,t,rfl,rfl⟩<;>rfl
 pyHash:=λhv h=>by
  rcases qar hv with⟨i,t,rfl,rfl⟩|⟨x,t,rfl,rfl⟩
  ·exact wpAny_pyHash_int h
  ·exact wpAny_pyHash_str h
 eqBool:=λhu hv h=>by
  rcases qar hu with⟨i,t,rfl,rfl⟩|⟨x,t,rfl,rfl⟩
  ·rcases qar hv with⟨j,u,rfl,rfl⟩|⟨y,u,rfl,rfl⟩
   ·rw[qqr] at h;exact wpAny_eqBool_int h
   ·rw[qqq] at h;exact SeqAt.EqAt.int_str i t y u _ _ _ _ h
  ·rcases qar hv with⟨j,u,rfl,rfl⟩|⟨y,u,rfl,rfl⟩
   ·rw[qqo] at h;exact SeqAt.EqAt.str_int x t j u _ _ _ _ h
   ·rw[qqn] at h;exact wpAny_eqBool_str h
 «strs» :=λk x t v h=>by
  rcases qar h with⟨i,u,rfl,e⟩|⟨y,u,rfl,e⟩
  ·exact nomatch e
  ·injection e with e1 _
   subst e1;cases v<;>rfl
theorem qfL(prog:Program)(w:World)(i:Int)(t:Tok):(qap prog w).is (.inl i) (.int i t)=true:=qiX i t
theorem qfK(prog:Program)(w:World)(x:Str)(t:Tok):(qap prog w).is (.inr x) (.str x t)=true:=qiW x t
inductive V where
 |non|bl (b:Bool)|int (i:Int)|str (x:Str)|byt (b:Array UInt8)|flt (b:UInt64)|ref (a:Addr)|ty (n:String)
 deriving DecidableEq
def RelV:V->Value->Prop
 |.non,u=>u=Value.none
 |.bl b,u=>u=Value.bool b
 |.int i,u=> ∃t,u=Value.int i t
 |.str x,u=> ∃t,u=Value.str x t
 |.byt b,u=> ∃t,u=Value.bytes b t
 |.flt b,u=> ∃t,u=Value.float b t
 |.ref a,u=>u=Value.ref a
 |.ty n,u=>u=Value.type n
abbrev Vals:List V->List Value->Prop:=Paired RelV
theorem Vals.length(r:Vals xs us):xs.length=us.length:=Paired.length r
theorem Vals.get: ∀{xs:List V} {us:List Value} {i:Nat} {x:V},Vals xs us->xs[i]? =some x->∃u,us[i]? =some u/\RelV x u
 |_,_,_,_,.nil,e=>by simp at e
 |_,_,0,_,.cons r _,e=>by simp at e;subst e;exact⟨_,rfl,r⟩
 |_,_,i+1,x,.cons _ t,e=>by obtain⟨u,h1,h2⟩:=Vals.get (i:=i) (x:=x) t (by simpa using e);exact⟨u,by simpa using h1,h2⟩
theorem Vals.set(r:RelV x u): ∀{xs:List V} {us:List Value} (i:Nat),Vals xs us->Vals (xs.set i x) (us.set i u)
 |_,_,_,.nil=>.nil
 |_,_,0,.cons _ t=>.cons r t
 |_,_,i+1,.cons q t=>.cons q (Vals.set r i t)
theorem Vals.append: ∀{xs ys:List V} {us ws:List Value},Vals xs us->Vals ys ws->Vals (xs++ys) (us++ws)
 |_,_,_,_,.nil,s=>s
 |_,_,_,_,.cons r t,s=>.cons r (Vals.append t s)
theorem Vals.take: ∀{xs:List V} {us:List Value} (n:Nat),Vals xs us->Vals (xs.take n) (us.take n)
 |_,_,0,_=>.nil
 |_,_,_+1,.nil=>.nil
 |_,_,n+1,.cons r t=>.cons r (Vals.take n t)
theorem Vals.drop: ∀{xs:List V} {us:List Value} (n:Nat),Vals xs us->Vals (xs.drop n) (us.drop n)
 |_,_,0,r=>r
 |_,_,_+1,.nil=>.nil
 |_,_,n+1,.cons _ t=>Vals.drop n t
def qj6:Option V->Option Value->Prop
 |some v,some u=>RelV v u
 |none,none=>True
 |_,_=>False
def KV{κ:Type}:List (κ×V)->List (κ×Value)->Prop:=Paired λ(p:κ×V) (q:κ×Value)=>p.1=q.1/\RelV p.2 q.2
def kV:Key->V
 |.inl i=>.int i
 |.inr x=>.str x
inductive HO where
 |lst (xs:List V)
 |tup (xs:List V)
 |dK (kvs:List (Key×V))|dT (kvs:List (List Key×V))
 |set (S:Int->Bool) (n:Nat)
 |ins (C dx:Addr) (fs:List (Str×V))
 |own (x:Addr)
 |xd (fs:List (Str×V))
 |met (f x:Addr)
 |rng (lo hi:Int)
 |frz (o:Obj) (u:HO)
 |tbl (ps:Array Value)
 |ext (φ:Heap->Prop)
abbrev Hp:=Addr->Option HO
def upd(H:Hp)(a:Addr)(o:HO):Hp:=λb=>if b=a then some o else H b
theorem qaf:upd H a o a=some o:=by unfold upd;rw[if_pos rfl]
theorem qaa(h:b≠a):upd H a o b=H b:=by unfold upd;rw[if_neg h]
theorem qmG:upd (upd H a o) a u=upd H a u:=by
 funext b;unfold upd;split<;>rfl
theorem qs0{H:Hp}{a b:Addr}{o u:HO}(h:H a=some o)(h':H b=some u)(d:o≠u):a≠b:=by intro e;subst e;rw[h] at h';exact d (Option.some.inj h')
theorem qam{H:Hp}{a b:Addr}{o:HO}(h:H a=some o)(h':H b=none):a≠b:=by intro e;subst e;rw[h] at h';cases h'
section
variable (P:Program)(w:World)
def qax(H:Hp)(h:Heap)(a:Addr):HO->Prop
 |.lst xs=>xs.length<=sizeLine/\∃(its:List Value) (n:Nat),Vals xs its/\h.get? a=some { cls:=.type "list",data:=.seq its.toArray n }
 |.tup xs=>xs.length<=sizeLine/\∃its:List Value,Vals xs its/\IsTup h a its.toArray
 |.dK kvs=>kvs.length<=sizeLine/\(a==sysModules)=false/\∃vs,KV kvs vs/\h.DictOf (qap P w) a vs
 | .dT kvs=>kvs.length<=sizeLine/\(a==sysModules)=false/\∃xs:List (List Key×Addr×Value),
   Paired (λ(p:List Key×V) (q:List Key×Addr×Value)=>p.1=q.1/\H q.2.1=some (.tup (p.1.map kV))/\RelV p.2 q.2.2) kvs xs/\
   ∃o es ep,h.get? a=some o/\o.ExactDict/\o.data= .dict es ep/\es.toList=xs.map (entryOfKey (tupleKind (qap P w)))/\(xs.map (·.1)).Nodup
 |.set S n=>h.SetOf (intKind P w) a S n
 | .ins C dx fs=>H dx=some (.own a)/\fs.length<=1000/\dx≠a/\h.get? a=some (W.instObj C dx)/\
   ∃mA,h.Ns1 dx mA/\(∀f,qj6 (fs.lookup f) (mA f))/\PySem.Within mA (fs.map (·.1))
 |.own _=> ∃o,h.get? a=some o
 |.xd fs=> ∃mA,h.Ns1 a mA/\∀f,qj6 (fs.lookup f) (mA f)
 |.rng lo hi=> ∃t u v,h.get? a=some { cls:=.type "range",data:=.fields #[.int lo t,.int hi u,.int 1 v] }
 |.frz o u=>h.get? a=some o/\qax H h a u
 |.tbl ps=>h.get? a=some { cls:=.none,data:=.fields ps }
 |.met f x=>h.get? a=some (W.methodObj (.ref f) (.ref x))
 |.ext φ=>φ h/\(∃o,h.get? a=some o)/\∀h1 h2:Heap,φ h1->(∀o,h1.get? a=some o->h2.get? a=some o)->φ h2
def HOk(H:Hp)(h:Heap):Prop:= ∀a o,H a=some o->qax P w H h a o
end
section
theorem qax.lt(x:qax P w H h a o):a<h.objs.size:=by
 cases o with
 |lst xs=>obtain⟨_,_,_,_,e⟩:=x;exact Vi e
 |tup xs=>obtain⟨_,_,_,p⟩:=x;exact p.lt
 |dK kvs|dT kvs=>obtain⟨_,_,_,_,o,_,_,e,_⟩:=x;exact Vi e
 |set S n=>obtain⟨o,_,_,_,e,_⟩:=x;exact Vi e
 |ins C dx fs=>obtain⟨_,_,_,e,_⟩:=x;exact Vi e
 |own y=>obtain⟨_,e⟩:=x;exact Vi e
 |xd fs=>obtain⟨_,⟨_,_,_,e,_⟩,_⟩:=x;exact Vi e
 |rng lo hi=>obtain⟨_,_,_,e⟩:=x;exact Vi e
 |frz ob u=>obtain⟨e,_⟩:=x;exact Vi e
 |tbl ps|met f y=>exact Vi (show h.get? a=some _ from x)
 |ext φ=>obtain⟨_,⟨_,e⟩,_⟩:=x;exact Vi e
theorem Paired.mapP: ∀{l₁:List α} {l₂:List β},Paired F l₁ l₂->(∀a b,F a b->G a b)->Paired G l₁ l₂
 |_,_,.nil,_=>.nil
 |_,_,.cons r t,f=>.cons (f _ _ r) (Paired.mapP t f)
theorem qax.stay(x:qax P w H h a o)(k: ∀b u,(b=a\/H b=some (.own a))->h.get? b=some u->h'.get? b=some u)(ho: ∀b,H b=some (.own a)->H' b=some (.own a))(ht: ∀b xs,H b=some (.tup xs)->H' b=some (.tup xs)):qax P w H' h' a o:=by
 induction o with
 |lst xs=>obtain⟨z,its,n,r,e⟩:=x;exact⟨z,its,n,r,k _ _ (.inl rfl) e⟩
 |tup xs=>obtain⟨z,its,r,ob,e,c⟩:=x;exact⟨z,its,r,ob,k _ _ (.inl rfl) e,c⟩
 |dK kvs=>obtain⟨z,y,vs,r,ob,es,ep,e,c⟩:=x;exact⟨z,y,vs,r,ob,es,ep,k _ _ (.inl rfl) e,c⟩
 |dT kvs=>obtain⟨z,y,xs,r,ob,es,ep,e,c⟩:=x;exact⟨z,y,xs,Paired.mapP r λp q z=>⟨z.1,ht _ _ z.2.1,z.2.2⟩,ob,es,ep,k _ _ (.inl rfl) e,c⟩
 |set S n=>obtain⟨ob,es,ep,t,e,c⟩:=x;exact⟨ob,es,ep,t,k _ _ (.inl rfl) e,c⟩
 |ins C dx fs=>obtain⟨d,z,ne,e,mA,⟨od,es,ep,e2,c⟩,r⟩:=x;exact⟨ho _ d,z,ne,k _ _ (.inl rfl) e,mA,⟨od,es,ep,k _ _ (.inr d) e2,c⟩,r⟩
 |own y=>obtain⟨ob,e⟩:=x;exact⟨ob,k _ _ (.inl rfl) e⟩
 |xd fs=>obtain⟨mA,⟨od,es,ep,e,c⟩,r⟩:=x;exact⟨mA,⟨od,es,ep,k _ _ (.inl rfl) e,c⟩,r⟩
 |rng lo hi=>obtain⟨t,u,v,e⟩:=x;exact⟨t,u,v,k _ _ (.inl rfl) e⟩
 |frz ob u ih=>obtain⟨e,q⟩:=x;exact⟨k _ _ (.inl rfl) e,ih q⟩
 |tbl ps=>have e:h.get? a=some { cls:=.none,data:=.fields ps }:=x;show h'.get? a=some { cls:=.none,data:=.fields ps };exact k a _ (.inl rfl) e
 |met f y=>have e:h.get? a=some (W.methodObj (.ref f) (.ref y)):=x;show h'.get? a=some (W.methodObj (.ref f) (.ref y));exact k a _ (.inl rfl) e
 |ext φ=>obtain⟨p,⟨o,e⟩,st⟩:=x;exact⟨st _ _ p λo q=>k _ _ (.inl rfl) q,⟨o,k _ _ (.inl rfl) e⟩,st⟩
theorem HOk.lt(x:HOk P w H h)(e:H a=some o):a<h.objs.size:=(x a o e).lt
theorem HOk.fresh(x:HOk P w H h)(e:h.objs.size<=a):H a=none:=by
 cases q:H a with
 |none=>rfl
 |some u=>exact absurd (Vn (x.lt q) e) (Nat.lt_irrefl _)
theorem HOk.kept(x:HOk P w H h)(k: ∀b u,h.get? b=some u->h'.get? b=some u):HOk P w H h':=λa o e=>
 (x a o e).stay (λb u _ q=>k b u q) (λ_ q=>q) λ_ _ q=>q
theorem HOk.laid{P:Program}{w:World}{H:Hp}{h:Heap}{h':Heap}{a:Addr}{o:HO}(x:HOk P w H h)(k: ∀b u,h.get? b=some u->h'.get? b=some u)(hp:h.objs.size<=a)(new:qax P w (upd H a o) h' a o):HOk P w (upd H a o) h':=λb u e=>by
 have hn:=x.fresh hp;by_cases hb:b=a
 ·subst hb;rw[qaf] at e;cases e;exact new
 ·rw[qaa hb] at e;exact(x b u e).stay (λc v _ q=>k c v q) (λc q=>by rw[qaa (qam q hn)];exact q) λc xs q=>by rw[qaa (qam q hn)];exact q
end
def Rd(H:Hp)(a:Addr)(u:HO):Prop:=H a=some u\/∃o,H a=some (.frz o u)
theorem Rd.of(h:H a=some u):Rd H a u:=.inl h
theorem Rd.ok(r:Rd H a u)(x:HOk P w H h):qax P w H h a u:=by
 rcases r with r|⟨o,r⟩
 ·exact x a u r
 ·obtain⟨_,q⟩:=x a _ r;exact q
def Mut:Option HO->Prop
 |some (.lst _)=>True
 |some (.dK _)=>True
 |some (.dT _)=>True
 |some (.set _ _)=>True
 |some (.ins _ _ _)=>True
 |some (.ext _)=>True
 |_=>False
section
theorem HOk.write(ok:HOk P w H h)(mu:Mut (H x))(he:e=x\/H e=some (.own x))(k: ∀b u,b≠e->h.get? b=some u->h'.get? b=some u)(eD: ∃u,h'.get? e=some u)(new:qax P w (upd H x o') h' x o'):HOk P w (upd H x o') h':=λb u q=>by
 have eS: ∀c y,H c=some (.own y)->c≠x:=λc y r z=>by subst z;rw[r] at mu;exact mu
 have gO: ∀c xs,H c=some (.tup xs)->c≠x:=λc xs r z=>by subst z;rw[r] at mu;exact mu
 by_cases hb:b=x
 ·subst hb;rw[qaf] at q;cases q;exact new
 ·rw[qaa hb] at q;by_cases d5:b=e
  ·have q':H b=some (.own x):=by
    rcases he with z|z
    ·exact absurd (d5.trans z) hb
    ·rw[d5];exact z
   rw[q] at q';cases q';obtain⟨v,hv⟩:=eD;exact⟨v,by rw[d5];exact hv⟩
  ·refine(ok b u q).stay (λc v hc r=>k c v ?_ r) (λc r=>by rw[qaa (eS c b r)];exact r) λc xs r=>by rw[qaa (gO c xs r)];exact r
   rcases hc with rfl|hc
   ·exact d5
   ·rintro rfl
    rcases he with z|z
    ·exact eS c b hc z
    ·rw[hc] at z;cases z;exact hb rfl
end
structure Un(fs ex:List Addr)(H H':Hp)(h h':Heap):Prop where
 keep: ∀b o,h.get? b=some o->H b=none->b∉fs->b∉ex->h'.get? b=some o
 slot: ∀b o,h.get? b=some o->H b=none->b∈fs->b∉ex->∃sl,h'.get? b=some { o with slots:=sl }
 free: ∀b o,h.get? b=some o->H b=none->b∉ex->H' b=none
 there: ∀b o,h.get? b=some o->b∉ex->∃o',h'.get? b=some o'
 tups: ∀b xs,H b=some (.tup xs)->H' b=some (.tup xs)
 frzs: ∀b o u,H b=some (.frz o u)->H' b=some (.frz o u)
 tbls: ∀b ps,H b=some (.tbl ps)->∃more,H' b=some (.tbl (ps++more))
section
theorem Un.any(u:Un fs ex H H1 h h1)(q:h.get? b=some ob)(n:H b=none)(hx:b∉ex): ∃sl,h1.get? b=some { ob with slots:=sl }:=by
 by_cases hb:b∈fs
 ·exact u.slot b ob q n hb hx
 ·exact⟨ob.slots,u.keep b ob q n hb hx⟩
theorem Un.kept(k: ∀b u,h.get? b=some u->h'.get? b=some u):Un fs ex H H h h':=
 ⟨λb ob q _ _ _=>k b ob q,λb ob q _ _ _=>⟨ob.slots,k b ob q⟩,λ_ _ _ n _=>n,λb ob q _=>⟨ob,k b ob q⟩,λ_ _ q=>q,λ_ _ _ q=>q,λ_ ps q=>⟨#[],by rw[q];simp⟩⟩
theorem Un.refl:Un fs ex H H h h:=Un.kept λ_ _ q=>q
theorem Un.laid{fs:List Addr}{ex:List Addr}{H:Hp}{h:Heap}{h':Heap}{a:Addr}{o:HO}(k: ∀b u,h.get? b=some u->h'.get? b=some u)(hp:h.objs.size<=a)(hn:H a=none):Un fs ex H (upd H a o) h h' where
 keep:=λb u q _ _ _=>k b u q
 slot:=λb u q _ _ _=>⟨u.slots,k b u q⟩
 free:=λb u q n _=>by rw[qaa (Nat.ne_of_lt (Nat.lt_of_lt_of_le (Heap.lt_size q) hp))];exact n
 there:=λb u q _=>⟨u,k b u q⟩
 tups:=λb xs q=>by rw[qaa (qam q hn)];exact q
 frzs:=λb u xs q=>by rw[qaa (qam q hn)];exact q
 tbls:=λb ps q=>⟨#[],by rw[qaa (qam q hn),q];simp⟩
theorem Un.write(mu:Mut (H x))(he:e=x\/H e=some (.own x))(k: ∀b u,b≠e->h.get? b=some u->h'.get? b=some u)(eD: ∃u,h'.get? e=some u):Un fs ex H (upd H x o) h h':=by
 have hx: ∀b,H b=none->b≠x:=λb n z=>by subst z;rw[n] at mu;exact mu
 have hb: ∀b,H b=none->b≠e:=λb n z=>by
  subst z
  rcases he with r|r
  ·exact hx b n r
  ·rw[n] at r;cases r
 have hm: ∀b u,H b=some u->¬Mut (some u)->b≠x:=λb u q nm z=>by subst z;rw[q] at mu;exact nm mu
 refine⟨λb u q n _ _=>k b u (hb b n) q,λb u q n _ _=>⟨u.slots,k b u (hb b n) q⟩,λb u q n _=>by rw[qaa (hx b n)];exact n,λb u q _=> ?_,
  λb xs q=>by rw[qaa (hm b _ q λz=>z)];exact q,λb u xs q=>by rw[qaa (hm b _ q λz=>z)];exact q,λb ps q=>⟨#[],by rw[qaa (hm b _ q λz=>z),q];simp⟩⟩
 by_cases d5:b=e
 ·subst d5;exact eD
 ·exact⟨u,k b u d5 q⟩
end
def trk(h:Heap)(H:Hp):List Addr:=(List.range h.objs.size).filter λa=>(H a).isSome
def qi8(h:Heap)(H:Hp):Heap:=W.hideAll h (trk h H)
theorem qi7(h:Heap)(H:Hp):(qi8 h H).objs.size=h.objs.size:=W.hideAll_size _ _
theorem qlg(e:h.get? b=some o)(n:H b=none):(qi8 h H).get? b=some o:=
 W.hideAll_get _ e λhm=>by have q:(H b).isSome=true:=(List.mem_filter.mp hm).2;rw[n] at q;simp at q
theorem qnD(e:(qi8 h H).get? b=some o):h.get? b=some o/\H b=none:=by
 have e':h.get? b=some o:=W.of_hideAll (trk h H) e;refine⟨e',?_⟩;cases q:H b with
 |none=>rfl
 |some x=>have hm:b∈trk h H:=List.mem_filter.mpr ⟨List.mem_range.mpr (Vi e'),by simp[q]⟩;have z:(qi8 h H).get? b=none:=W.hideAll_none (trk h H) hm;rw[z] at e;cases e
def qoJ(g h:Heap)(L:Addr):List (Addr×Obj):=(List.range h.objs.size).filterMap λa=>if a=L\/(g.get? a).isSome=true then none else(h.get? a).map λo=>(a,o)
def qbG(g h:Heap)(L d:Addr):List (Addr×Obj):=(qoJ g h L).filter λp=>decide (p.1≠d)
structure Mod(K:W.Frag)(mg:Str->Option Value)(base:Heap):Prop where
 kin:K.In base
 glob:base.Ns mainGlobals mg
 blt: ∃mb,base.Ns builtinsNs mb/\∀x:Str,x≠ "__name__" ->mb x=bootBuiltins x
 nolimit:base.NoLimit
structure Cx where
 prog:Program
 w:World
 K:W.Frag
 mg:Str->Option Value
 base:Heap
 A:Around
 N:List Str
 s₀:Shared
 H₀:Hp
 env:Env
 outer:List Env
 stack:List Env
 ex:List Addr
 fn:Str->Bool
 calm:Bool
 pn:List (Addr×Obj)
 xe:Value->Shared->Prop
def frs(l:List Env):List Addr:=l.filterMap (·.frame)
abbrev Cx.fs(X:Cx):List Addr:=frs X.outer
def Vis(sc:Scope)(x:Str):Prop:=sc.names.lookup x=some .local\/sc.names.lookup x=some .cell\/sc.names.lookup x=some .free
def Loc(sc:Scope)(x:Str):Prop:=sc.names.lookup x=some .local\/sc.names.lookup x=some .cell
def qwh(env:Env)(h:Heap)(m:Str->Option Value)(x:Str)(u:Value):Prop:=
 (env.kindOf x=some .local/\m x=some u)\/((env.kindOf x=some .cell\/env.kindOf x=some .free)/\∃c,env.cells.lookup x=some c/\h.IsCell c (some u))
structure Cx.Ok(X:Cx):Prop where
 mod:Mod X.K X.mg X.base
 kind:X.env.scope.kind= .function
 glob:X.env.globals=mainGlobals
 blt:X.env.builtins=builtinsNs
 above:X.s₀.heap.objs.size<=X.env.locals
 inj: ∀x y c,X.env.cells.lookup x=some c->X.env.cells.lookup y=some c->x=y
 has: ∀x,(X.env.kindOf x=some .cell\/X.env.kindOf x=some .free)->∃c,X.env.cells.lookup x=some c
 cab: ∀x c,X.fn x=true->X.env.cells.lookup x=some c->X.s₀.heap.objs.size<=c
 hd:X.calm=true->X.A.handled=none
 frames:X.A.frames=some X.stack
 stk:X.stack=X.outer\/(X.stack=X.env::X.outer/\X.env.frame=some X.env.locals)
 exf: ∀b∈X.ex,b≠X.env.locals/\∀x c,X.env.cells.lookup x=some c->c≠b
 bs: ∀b o,X.base.get? b=some o->X.s₀.heap.get? b=some o/\X.H₀ b=none
 bsz:X.base.objs.size<=X.s₀.heap.objs.size
 noex: ∀b o,X.base.get? b=some o->b∉X.ex
 exfs: ∀b∈X.ex,b∉X.fs
 funs:X.s₀.heap.FunFrames X.base X.outer
 frf: ∀b∈X.fs,X.H₀ b=none
structure Inv(X:Cx)(pins:List (Addr×Obj))(σ:List (Option V))(H:Hp)(s:Shared):Prop where
 ok:X.Ok
 os:s.os=X.s₀.os
 bare:AllBare s.gens
 base:Un X.fs X.ex X.H₀ H X.s₀.heap s.heap
 loc: ∃m,s.heap.Ns X.env.locals m/\∀(i:Nat) (x:Str) (v:V),X.N[i]? =some x->σ[i]? =some (some v)->Vis X.env.scope x->∃u,RelV v u/\qwh X.env s.heap m x u
 cell: ∀x c,X.env.cells.lookup x=some c->∃v,s.heap.IsCell c v
 free:H X.env.locals=none
 freeC: ∀x c,X.env.cells.lookup x=some c->H c=none
 pin: ∀p∈X.pn++pins,s.heap.get? p.1=some p.2/\H p.1=none/\p.1≠X.env.locals/\p.1∉X.fs/\∀v,p.2.data≠.cell v
 hok:HOk X.prog X.w H s.heap
 len:σ.length=X.N.length
section
theorem Cx.Ok.nofr{X:Cx}(ok:X.Ok)(e:X.base.get? b=some o):b∉X.fs:=λhb=>by have:=(ok.funs.mem hb).1;rw[e] at this;cases this
theorem Inv.bs{X:Cx}{s:Shared}(I:Inv X pins σ H s): ∀b o,X.base.get? b=some o->s.heap.get? b=some o/\H b=none:=λb o e=>
 ⟨I.base.keep b o (I.ok.bs b o e).1 (I.ok.bs b o e).2 (I.ok.nofr e) (I.ok.noex b o e),I.base.free b o (I.ok.bs b o e).1 (I.ok.bs b o e).2 (I.ok.noex b o e)⟩
theorem Inv.bk(I:Inv X pins σ H s): ∀b o,X.base.get? b=some o->s.heap.get? b=some o:=λb o e=>(I.bs b o e).1
theorem Inv.mod(I:Inv X pins σ H s):Mod X.K X.mg X.base:=I.ok.mod
theorem Inv.kIn(I:Inv X pins σ H s):X.K.In s.heap:=I.ok.mod.kin.keeps I.bk
theorem Inv.nolimit(I:Inv X pins σ H s):s.heap.NoLimit:=I.ok.mod.nolimit.keeps I.bk
theorem Inv.lt(I:Inv X pins σ H s):X.env.locals<s.heap.objs.size:=let ⟨_,hn,_⟩:=I.loc;hn.lt
theorem Inv.sz(I:Inv X pins σ H s):X.s₀.heap.objs.size<=s.heap.objs.size:=Vr I.ok.above (Vq I.lt)
theorem Inv.nofs(I:Inv X pins σ H s)(h:s.heap.objs.size<=a):a∉X.fs:=λhb=>by obtain⟨_,o,ho,_⟩:=I.ok.funs.mem hb;exact absurd (Vn (Vi ho) (Vr I.sz h)) (Nat.lt_irrefl _)
theorem Inv.cne(I:Inv X pins σ H s): ∀x c,X.env.cells.lookup x=some c->c≠X.env.locals:=λx c e z=>by obtain⟨v,o,ho,hd⟩:=I.cell x c e;obtain⟨m,⟨o',es,ep,bw,fH,_⟩,_⟩:=I.loc;rw[z,bw] at ho;cases ho;rw[fH] at hd;cases hd
theorem Inv.funs(I:Inv X pins σ H s):s.heap.FunFrames X.base X.outer:=by
 have all: ∀(l:List Env),(∀b∈frs l,b∈X.fs)->X.s₀.heap.FunFrames X.base l->s.heap.FunFrames X.base l:=by
  intro l
  induction l with
  |nil=>intro _ _;trivial
  |cons env r ih=>intro hs hl;obtain⟨hk,⟨L,o,hf,hn,ho,hd⟩,hr⟩:=hl;have hL:L∈X.fs:=hs L (by unfold frs;rw[List.filterMap_cons,hf];exact Vk);obtain⟨sl,e⟩:=I.base.slot L o ho (I.ok.frf L hL) hL λz=>I.ok.exfs L z hL;exact⟨hk,⟨L,_,hf,hn,e,hd⟩,ih (λb hb=>hs b (by unfold frs;rw[List.filterMap_cons,hf];exact Vl _ hb)) hr⟩
 exact all X.outer (λ_ hb=>hb) I.ok.funs
theorem Inv.stack(I:Inv X pins σ H s):s.heap.FunFrames X.base X.stack:=by
 rcases I.ok.stk with e|⟨e,hf⟩
 ·rw[e];exact I.funs
 ·rw[e];obtain⟨m,hn,_⟩:=I.loc;refine .cons (by rw[I.ok.kind];decide) hf hn ?_ I.funs;exact Heap.get?_none_of_le (Vr I.ok.bsz I.ok.above)
theorem Inv.stkSub(I:Inv X pins σ H s): ∀b∈frs X.stack,b∈X.env.locals::X.fs:=λb hb=>by
 rcases I.ok.stk with e|⟨e,hf⟩
 ·rw[e] at hb;exact Vl _ hb
 ·rw[e] at hb;unfold frs at hb;rw[List.filterMap_cons,hf] at hb;exact hb
theorem Inv.stkFree(I:Inv X pins σ H s): ∀b∈frs X.stack,H b=none:=λb hb=>by
 rcases List.mem_cons.mp (I.stkSub b hb) with e|hb
 ·rw[e];exact I.free
 ·obtain⟨_,o,ho,_⟩:=I.ok.funs.mem hb;exact I.base.free b o ho (I.ok.frf b hb) λz=>I.ok.exfs b z hb
theorem Inv.step {X:Cx} {pins:List (Addr×Obj)} {σ:List (Option V)} {H:Hp} {H':Hp} {s:Shared} {h':Heap} {g':Array GenState} {t':Nat} {d':Drawn} {ch:List Addr} (I:Inv X pins σ H s) (cN: ∀b∈ch,(b∈X.ex\/X.s₀.heap.objs.size<=b)/\b≠X.env.locals/\(∀x c,X.env.cells.lookup x=some c->c≠b)/\∀p∈X.pn++pins,p.1≠b) (keep: ∀b o,b≠X.env.locals->b∉X.fs->b∉ch->s.heap.get? b=some o->H b=none->h'.get? b=some o) (slot: ∀b o,b≠X.env.locals->b∈X.fs->b∉ch->s.heap.get? b=some o->H b=none->∃sl,h'.get? b=some { o with slots:=sl }) (free: ∀b o,b∉ch->s.heap.get? b=some o->H b=none->H' b=none) (there: ∀b o,b∉ch->s.heap.get? b=some o->∃o',h'.get? b=some o') (tups: ∀b xs,H b=some (.tup xs)->H' b=some (.tup xs)) (frzs: ∀b o u,H b=some (.frz o u)->H' b=some (.frz o u)) (tbls: ∀b ps,H b=some (.tbl ps)->∃more,H' b=some (.tbl (ps++more))) (ns: ∀m,s.heap.Ns X.env.locals m->h'.Ns X.env.locals m) (hok:HOk X.prog X.w H' h') (hg:AllBare g'):
  Inv X pins σ H' { s with heap:=h',gens:=g',drawn:=d',toks:=t' }:=by
 have fW: ∀b o,X.s₀.heap.get? b=some o->b≠X.env.locals:=λb o e=>Vp (Vn (Vi e) I.ok.above);have fX: ∀b o,X.s₀.heap.get? b=some o->b∉X.ex->b∉ch:=λb o e hx hb=>by
  rcases(cN b hb).1 with z|z
  ·exact hx z
  ·exact absurd (Vn (Vi e) z) (Nat.lt_irrefl _)
 have cellK: ∀x c,X.env.cells.lookup x=some c->∀v,s.heap.IsCell c v->h'.IsCell c v:=λx c e v ⟨o,ho,hd⟩=>by
  have eV:c∉ch:=λz=>(cN c z).2.2.1 x c e rfl;by_cases hc:c∈X.fs
  ·obtain⟨sl,q⟩:=slot c o (I.cne x c e) hc eV ho (I.freeC x c e);exact⟨_,q,hd⟩
  ·exact⟨o,keep c o (I.cne x c e) hc eV ho (I.freeC x c e),hd⟩
 refine⟨I.ok,I.os,hg,⟨λb o e n hb hx=> ?_,λb o e n hb hx=> ?_,λb o e n hx=> ?_,λb o e hx=> ?_,λb xs e=>tups b xs (I.base.tups b xs e),λb o xs e=>frzs b o xs (I.base.frzs b o xs e),λb ps e=> ?_⟩,?_,λx c e=> ?_,?_,λx c e=> ?_,λp hp=> ?_,hok,I.len⟩
 ·exact keep b o (fW b o e) hb (fX b o e hx) (I.base.keep b o e n hb hx) (I.base.free b o e n hx)
 ·obtain⟨sl,e1⟩:=I.base.slot b o e n hb hx;obtain⟨eQ,e2⟩:=slot b _ (fW b o e) hb (fX b o e hx) e1 (I.base.free b o e n hx);exact⟨eQ,e2⟩
 ·obtain⟨o',e1⟩:=I.base.there b o e hx;exact free b o' (fX b o e hx) e1 (I.base.free b o e n hx)
 ·obtain⟨o',e1⟩:=I.base.there b o e hx;exact there b o' (fX b o e hx) e1
 ·obtain⟨m1,e1⟩:=I.base.tbls b ps e;obtain⟨m2,e2⟩:=tbls b _ e1;exact⟨m1++m2,by rw[e2,Array.append_assoc]⟩
 ·obtain⟨m,hn,hl⟩:=I.loc;refine⟨m,ns m hn,λi x v e1 e2 e3=> ?_⟩;obtain⟨u,r,l⟩:=hl i x v e1 e2 e3;refine⟨u,r,?_⟩
  rcases l with l|⟨k,c,e,z⟩
  ·exact .inl l
  ·exact .inr ⟨k,c,e,cellK x c e _ z⟩
 ·obtain⟨v,z⟩:=I.cell x c e;exact⟨v,cellK x c e v z⟩
 ·obtain⟨m,⟨o,_,_,ho,_⟩,_⟩:=I.loc;exact free _ o (λz=>(cN _ z).2.1 rfl) ho I.free
 ·obtain⟨v,o,ho,hd⟩:=I.cell x c e;exact free c o (λz=>(cN c z).2.2.1 x c e rfl) ho (I.freeC x c e)
 ·obtain⟨e,n,ne,nf,d⟩:=I.pin p hp;have eV:p.1∉ch:=λz=>(cN p.1 z).2.2.2 p hp rfl;exact⟨keep p.1 p.2 ne nf eV e n,free p.1 p.2 eV e n,ne,nf,d⟩
theorem Inv.un{X:Cx}{pins:List (Addr×Obj)}{σ:List (Option V)}{H:Hp}{H':Hp}{s:Shared}{h':Heap}{t':Nat}(I:Inv X pins σ H s)(u:Un X.fs [] H H' s.heap h')(hok:HOk X.prog X.w H' h'):Inv X pins σ H' { s with heap:=h',toks:=t' }:=by
 obtain⟨m,⟨o,es,ep,ho,r⟩,_⟩:=id I.loc;obtain⟨sl,hL⟩:=u.any ho I.free (by simp);exact I.step (g':=s.gens) (d':=s.drawn) (ch:=[]) (λ_ z=>nomatch z) (λb o _ hb _ e n=>u.keep b o e n hb (by simp)) (λb o _ hb _ e n=>u.slot b o e n hb (by simp)) (λb o _ e n=>u.free b o e n (by simp)) (λb o _ e=>u.there b o e (by simp)) u.tups u.frzs u.tbls (λm' hm=>by
  obtain⟨o',cg,iP,bw,r'⟩:=hm;rw[ho] at bw;cases bw;exact⟨_,cg,iP,hL,r'⟩) hok I.bare
theorem Inv.call {X:Cx} {pins:List (Addr×Obj)} {σ:List (Option V)} {H:Hp} {H':Hp} {s:Shared} {h':Heap} {g':Array GenState} {t':Nat} {d':Drawn} {ch:List Addr} (I:Inv X pins σ H s) (u:Un (frs X.stack) ch H H' s.heap h') (hok:HOk X.prog X.w H' h') (hg:AllBare g') (cN: ∀b∈ch,(b∈X.ex\/X.s₀.heap.objs.size<=b)/\b≠X.env.locals/\(∀x c,X.env.cells.lookup x=some c->c≠b)/\∀p∈X.pn++pins,p.1≠b):
  Inv X pins σ H' { s with heap:=h',gens:=g',drawn:=d',toks:=t' }:=by
 obtain⟨m,⟨o,es,ep,ho,r⟩,_⟩:=id I.loc;obtain⟨sl,hL⟩:=u.any ho I.free λz=>(cN _ z).2.1 rfl;exact I.step (ch:=ch) cN (λb o hL hb hc e n=>u.keep b o e n (λz=>(List.mem_cons.mp (I.stkSub b z)).elim hL hb) hc) (λb o _ _ hc e n=>u.any e n hc) (λb o hc e n=>u.free b o e n hc) (λb o hc e=>u.there b o e hc) u.tups u.frzs u.tbls (λm' hm=>by
  obtain⟨o',cg,iP,bw,r'⟩:=hm;rw[ho] at bw;cases bw;exact⟨_,cg,iP,hL,r'⟩) hok hg
theorem Inv.turned{X:Cx}{pins:List (Addr×Obj)}{σ:List (Option V)}{H:Hp}{s:Shared}{h':Heap}{t':Nat}{it:Addr}(I:Inv X pins σ H s)(k: ∀b o,b≠it->s.heap.get? b=some o->h'.get? b=some o)(hn:H it=none)(hL:it≠X.env.locals)(h1:it∈X.ex\/X.s₀.heap.objs.size<=it)(h2: ∀x c,X.env.cells.lookup x=some c->c≠it)(h3: ∀p∈X.pn++pins,p.1≠it):Inv X pins σ H { s with heap:=h',toks:=t' }:=by
 have eU: ∀b u,H b=some u->b≠it:=λb u e z=>by rw[z,hn] at e;cases e
 refine I.step (g':=s.gens) (d':=s.drawn) (ch:=[it]) (λb hb=> ?_) (λb o _ _ hc e _=>k b o (λz=>hc (by simp[z])) e) (λb o _ _ hc e _=>⟨o.slots,k b o (λz=>hc (by simp[z])) e⟩) (λ_ _ _ _ n=>n)
  (λb o hc e=>⟨o,k b o (λz=>hc (by simp[z])) e⟩) (λ_ _ e=>e) (λ_ _ _ e=>e) (λb ps e=>⟨#[],by rw[e];simp⟩) (λm hm=> ?_) (λb u e=> ?_) I.bare
 ·have e:b=it:=by simpa using hb
  subst e;exact⟨h1,hL,h2,h3⟩
 ·obtain⟨o,es,ep,ho,r⟩:=hm;exact⟨o,es,ep,k _ o (Ne.symm hL) ho,r⟩
 ·refine(I.hok b u e).stay (λc v hc q=>k c v ?_ q) (λ_ q=>q) λ_ _ q=>q
  rcases hc with z|z
  ·rw[z];exact eU b u e
  ·exact eU c _ z
theorem Inv.tok(I:Inv X pins σ H s)(t:Nat):Inv X pins σ H { s with toks:=t }:=I.un (h':=s.heap) (t':=t) Un.refl I.hok
theorem Inv.kept(I:Inv X pins σ H s)(k: ∀b u,s.heap.get? b=some u->h'.get? b=some u):Inv X pins σ H { s with heap:=h',toks:=t' }:=I.un (Un.kept k) (I.hok.kept k)
theorem Inv.laid (I:Inv X pins σ H s) (k: ∀b u,s.heap.get? b=some u->h'.get? b=some u) (hp:s.heap.objs.size<=a) (new:qax X.prog X.w (upd H a o) h' a o):
  Inv X pins σ (upd H a o) { s with heap:=h',toks:=t' }:=I.un (Un.laid k hp (I.hok.fresh hp)) (I.hok.laid k hp new)
theorem Inv.write(I:Inv X pins σ H s)(mu:Mut (H x))(he:e=x\/H e=some (.own x))(k: ∀b u,b≠e->s.heap.get? b=some u->h'.get? b=some u)(eD: ∃u,h'.get? e=some u)(new:qax X.prog X.w (upd H x o) h' x o):Inv X pins σ (upd H x o) { s with heap:=h',toks:=t' }:=I.un (Un.write mu he k eD) (I.hok.write mu he k eD new)
theorem Inv.pins_of(I:Inv X pins σ H s)(h: ∀p∈eR,s.heap.get? p.1=some p.2/\H p.1=none/\p.1≠X.env.locals/\p.1∉X.fs/\∀v,p.2.data≠.cell v):Inv X eR σ H s:=
 ⟨I.ok,I.os,I.bare,I.base,I.loc,I.cell,I.free,I.freeC,λp hp=>(List.mem_append.mp hp).elim (λz=>I.pin p (Vt _ z)) (h p),I.hok,I.len⟩
theorem qgE{N:List Str}(hN:N.Nodup){i j:Nat}(a:N[i]? =some x)(b:N[j]? =some x):i=j:=by obtain⟨h1,e1⟩:=List.getElem?_eq_some_iff.mp a;obtain⟨h2,e2⟩:=List.getElem?_eq_some_iff.mp b;exact(List.getElem_inj hN).mp (e1.trans e2.symm)
theorem qeA{X:Cx}{σ:List (Option V)}{s:Shared}{i:Nat}(I:Inv X pins σ H s)(hN:X.N.Nodup)(hi:X.N[i]? =some x)(hx:Loc X.env.scope x)(r:RelV v u)(h: ∀s',Inv X pins (σ.set i (some v)) H s'->(∃a,Heap.SameBut a s.heap s'.heap/\(a=X.env.locals\/X.env.cells.lookup x=some a))->Q () s')(hf:X.fn x=true\/X.env.scope.names.lookup x=some .local:=by first|exact .inl rfl|exact .inr rfl|assumption):wpAny M A (storeName X.env x u) Q E s:=by
 obtain⟨m,hn,hl⟩:=id I.loc;have iC:(X.env.scope.kind== .class||(X.env.scope.kind== .module&&X.env.locals != X.env.globals))=false:=by rw[I.ok.kind];rfl
 have fB:i<σ.length:=by rw[I.len];exact(List.getElem?_eq_some_iff.mp hi).1
 have cne:=I.cne;have tracked: ∀{a:Addr} {h':Heap},(∃o,s.heap.get? a=some o/\H a=none)->Heap.SameBut a s.heap h'->HOk X.prog X.w H h':=λ{a h'} ha hs b ob e=>by
  obtain⟨_,_,ai⟩:=ha;refine(I.hok b ob e).stay (λc w' hc q=>(hs.2 c ?_).trans q) (λ_ q=>q) λ_ _ q=>q;rintro rfl
  rcases hc with rfl|hc
  ·rw[ai] at e;cases e
  ·rw[ai] at hc;cases hc
 rcases hx with hk|hk
 ·refine wpAny_storeName_local hk hn (λh' gc hs=> ?_) iC;obtain⟨oL,_,_,hoL,_⟩:=id hn;refine h _ ⟨I.ok,I.os,I.bare,⟨λb o e n hb hx=> ?_,λb o e n hb hx=> ?_,I.base.free,λb o e hx=> ?_,I.base.tups,I.base.frzs,I.base.tbls⟩,⟨_,gc,λj y v' e1 e2 e3=> ?_⟩,λy c e=> ?_,I.free,I.freeC,λp hp=> ?_,tracked ⟨oL,hoL,I.free⟩ hs,by simpa using I.len⟩ ⟨_,hs,.inl rfl⟩
  ·exact(hs.2 b (Vp (Vn (Vi e) I.ok.above))).trans (I.base.keep b o e n hb hx)
  ·obtain⟨sl,e1⟩:=I.base.slot b o e n hb hx;exact⟨sl,(hs.2 b (Vp (Vn (Vi e) I.ok.above))).trans e1⟩
  ·obtain⟨o',e1⟩:=I.base.there b o e hx;exact⟨o',(hs.2 b (Vp (Vn (Vi e) I.ok.above))).trans e1⟩
  ·by_cases hj:j=i
   ·subst hj;rw[hi] at e1;cases e1;rw[List.getElem?_set_self fB] at e2;cases e2;exact⟨u,r,.inl ⟨hk,by simp⟩⟩
   ·rw[List.getElem?_set_ne (Ne.symm hj)] at e2;obtain⟨u',r',q⟩:=hl j y v' e1 e2 e3;refine⟨u',r',?_⟩
    rcases q with⟨k,e⟩|⟨k,c,e,z⟩
    ·refine .inl ⟨k,?_⟩;have:y≠x:=λe=>hj (qgE hN e1 (e▸hi));simp[this,e]
    ·exact .inr ⟨k,c,e,z.sameBut hs (cne y c e)⟩
  ·obtain⟨w',z⟩:=I.cell y c e;exact⟨w',z.sameBut hs (cne y c e)⟩
  ·obtain⟨e,n,ne,nf,d⟩:=I.pin p hp;exact⟨(hs.2 p.1 ne).trans e,n,ne,nf,d⟩
 ·have iy:X.fn x=true:=by
   rcases hf with z|z
   ·exact z
   ·rw[z] at hk;cases hk
  obtain⟨c,hc⟩:=I.ok.has x (.inl hk);obtain⟨w',z⟩:=I.cell x c hc;refine wpAny_storeName_cell I.ok.kind hk hc z (λh' b8 hs=> ?_);obtain⟨oc,ez,ib⟩:=id z;refine h { s with heap:=h' } ⟨I.ok,I.os,I.bare,⟨λb o e n hb hx=> ?_,λb o e n hb hx=> ?_,I.base.free,λb o e hx=> ?_,I.base.tups,I.base.frzs,I.base.tbls⟩,⟨m,hn.sameBut hs (Ne.symm (cne x c hc)),λj y v' e1 e2 e3=> ?_⟩,λy c' e=> ?_,I.free,I.freeC,λp hp=> ?_,tracked ⟨oc,ez,I.freeC x c hc⟩ hs,by simpa using I.len⟩ ⟨c,hs,.inr hc⟩
  ·exact(hs.2 b (Vp (Vn (Vi e) (I.ok.cab x c iy hc)))).trans (I.base.keep b o e n hb hx)
  ·obtain⟨sl,e1⟩:=I.base.slot b o e n hb hx;exact⟨sl,(hs.2 b (Vp (Vn (Vi e) (I.ok.cab x c iy hc)))).trans e1⟩
  ·obtain⟨o',e1⟩:=I.base.there b o e hx;exact⟨o',(hs.2 b (Vp (Vn (Vi e) (I.ok.cab x c iy hc)))).trans e1⟩
  ·by_cases hj:j=i
   ·subst hj;rw[hi] at e1;cases e1;rw[List.getElem?_set_self fB] at e2;cases e2;exact⟨u,r,.inr ⟨.inl hk,c,hc,b8⟩⟩
   ·rw[List.getElem?_set_ne (Ne.symm hj)] at e2;obtain⟨u',r',q⟩:=hl j y v' e1 e2 e3;refine⟨u',r',?_⟩
    rcases q with q|⟨k,c',e,z'⟩
    ·exact .inl q
    ·refine .inr ⟨k,c',e,z'.sameBut hs ?_⟩;rintro rfl;exact hj (qgE hN e1 (I.ok.inj _ _ _ e hc▸hi))
  ·by_cases cO:c'=c
   ·subst cO;exact⟨_,b8⟩
   ·obtain⟨w2,z2⟩:=I.cell y c' e;exact⟨w2,z2.sameBut hs cO⟩
  ·obtain⟨e,n,ne,nf,d⟩:=I.pin p hp;refine⟨(hs.2 p.1 ?_).trans e,n,ne,nf,d⟩;intro q;rw[q,ez] at e;have q':oc=p.2:=Option.some.inj e;exact d w' (by rw[<-q'];exact ib)
theorem qa5(I:Inv X pins σ H s)(hN:X.N.Nodup)(hi:X.N[i]? =some x)(hx:Loc X.env.scope x)(r:RelV v u)(h: ∀s',Inv X pins (σ.set i (some v)) H s'->Q () s')(hf:X.fn x=true\/X.env.scope.names.lookup x=some .local:=by first|exact .inl rfl|exact .inr rfl|assumption):wpAny M A (storeName X.env x u) Q E s:=
 qeA I hN hi hx r (λs' I' _=>h s' I') hf
theorem Inv.call'(I:Inv X pins σ H s)(ho:s'.os=s.os)(u:Un (frs X.stack) ch H H' s.heap s'.heap)(hok:HOk X.prog X.w H' s'.heap)(hg:AllBare s'.gens)(cN: ∀b∈ch,(b∈X.ex\/X.s₀.heap.objs.size<=b)/\b≠X.env.locals/\(∀x c,X.env.cells.lookup x=some c->c≠b)/\∀p∈X.pn++pins,p.1≠b):Inv X pins σ H' s':=by obtain⟨h',g',d',t',o'⟩:=s';have e:o'=s.os:=ho;subst e;exact I.call (g':=g') (t':=t') (d':=d') u hok hg cN
end
abbrev XK:=Value->Option Addr->Hp->Prop
abbrev St:=List (Option V)
abbrev VK:=V->Hp->Prop
abbrev TE:=St->Hp->VK->Prop
abbrev TT:=St->Hp->(Bool->Hp->Prop)->Prop
abbrev TA:=St->Hp->(List V->Hp->Prop)->Prop
structure qoL where
 nx:St->Hp->Prop
 rt:VK
 bk:St->Hp->Prop:=λ_ _=>False
 ct:St->Hp->Prop:=λ_ _=>False
abbrev TS:=qoL->St->Hp->Prop
def EP(X:Cx)(pins:List (Addr×Obj))(σ:St)(Q:VK)(u:Value)(s':Shared):Prop:= ∃v H',Inv X pins σ H' s'/\RelV v u/\Q v H'
def TP(X:Cx)(pins:List (Addr×Obj))(σ:St)(Q:Bool->Hp->Prop)(b:Bool)(s':Shared):Prop:= ∃H',Inv X pins σ H' s'/\Q b H'
def AP(X:Cx)(pins:List (Addr×Obj))(σ:St)(Q:List V->Hp->Prop)(us:List Value)(s':Shared):Prop:= ∃vs H',Inv X pins σ H' s'/\Vals vs us/\Q vs H'
def SP(X:Cx)(pins:List (Addr×Obj))(D:qoL)(f:Flow)(s':Shared):Prop:=
 match f with
 |.next=> ∃aj H',Inv X pins aj H' s'/\D.nx aj H'
 |.brk=> ∃aj H',Inv X pins aj H' s'/\D.bk aj H'
 |.cont=> ∃aj H',Inv X pins aj H' s'/\D.ct aj H'
 |.ret u=> ∃v aj H',Inv X pins aj H' s'/\RelV v u/\D.rt v H'
def PE(X:Cx)(e:Expr)(t:TE):Prop:=
 ∀(pins:List (Addr×Obj)) (s:Shared) (σ:St) (H:Hp) (Q:VK),Inv X pins σ H s->t σ H Q->wpAny (model X.prog X.w) X.A (eval e X.env) (EP X pins σ Q) X.xe s
def PT(X:Cx)(e:Expr)(t:TT):Prop:=
 ∀(pins:List (Addr×Obj)) (s:Shared) (σ:St) (H:Hp) (Q:Bool->Hp->Prop),Inv X pins σ H s->t σ H Q->wpAny (model X.prog X.w) X.A (isTrue e X.env (eval e X.env)) (TP X pins σ Q) X.xe s
def PW(X:Cx)(e:Expr)(t:TT):Prop:=
 ∀(whole:Sem Value) (pins:List (Addr×Obj)) (s:Shared) (σ:St) (H:Hp) (Q:Bool->Hp->Prop),Inv X pins σ H s->t σ H Q->wpAny (model X.prog X.w) X.A (isTrue e X.env whole) (TP X pins σ Q) X.xe s
theorem PW.pt(h:PW X e t):PT X e t:=h _
def PA(X:Cx)(es:List Expr)(t:TA):Prop:=
 ∀(pos:Pos) (pins:List (Addr×Obj)) (s:Shared) (σ:St) (H:Hp) (Q:List V->Hp->Prop),Inv X pins σ H s->t σ H Q->wpAny (model X.prog X.w) X.A (spliced (backTo pos (starEach es X.env))) (AP X pins σ Q) X.xe s
def PS(X:Cx)(st:Stmt)(t:TS):Prop:=
 ∀(pins:List (Addr×Obj)) (s:Shared) (σ:St) (H:Hp) (D:qoL),Inv X pins σ H s->t D σ H->wpAny (model X.prog X.w) X.A (exec st X.env) (SP X pins D) X.xe s
def PSs(X:Cx)(st:List Stmt)(t:TS):Prop:=
 ∀(pins:List (Addr×Obj)) (s:Shared) (σ:St) (H:Hp) (D:qoL),Inv X pins σ H s->t D σ H->wpAny (model X.prog X.w) X.A (execs st X.env) (SP X pins D) X.xe s
theorem thn(h:wpAny M A t Q E s)(hQ: ∀a s,Q a s->Q' a s):wpAny M A t Q' E s:=Vc h hQ λ_ _ x=>x
section
theorem bin {X:Cx} {a b:Expr} {ta tb:TE} (ha:PE X a ta) (hb:PE X b tb) {pins:List (Addr×Obj)} {s:Shared} {σ:St} {H:Hp} {R:V->V->Hp->Prop} (I:Inv X pins σ H s) (h:ta σ H λx H1=>tb σ H1 λy H2=>R x y H2) {α:Type} {Q:α->Shared->Prop} {f:Value->Value->Sem α} (hf: ∀v u s2 x y H2,Inv X pins σ H2 s2->RelV x v->RelV y u->R x y H2->wpAny (model X.prog X.w) X.A (f v u) Q X.xe s2):
  wpAny (model X.prog X.w) X.A (eval a X.env) (λv af=>wpAny (model X.prog X.w) X.A (eval b X.env) (λu cn=>wpAny (model X.prog X.w) X.A (f v u) Q X.xe cn) X.xe af) X.xe s:=by refine thn (ha pins s σ H _ I h) λv s1 ⟨x,H1,I1,r1,q1⟩=> ?_;refine thn (hb pins s1 σ H1 _ I1 q1) λu s2 ⟨y,H2,I2,r2,q2⟩=> ?_;exact hf v u s2 x y H2 I2 r1 r2 q2
def que(i:Nat):TE:=λσ H Q=> ∃v,σ[i]? =some (some v)/\Q v H
def tC(v:V):TE:=λ_ H Q=>Q v H
theorem qpF (hN:X.N[i]? =some x) (hv:Vis X.env.scope x) (hd:(x==("__debug__" :Str))=false:=by decide) (bH:(x==("__classdict__" :Str))=false:=by decide):PE X (.Name x pos) (que i):=by
 intro pins s σ H Q I h;obtain⟨v,e,h⟩:=h;obtain⟨m,hn,hl⟩:=I.loc;obtain⟨u,r,l⟩:=hl i x v hN e hv;have fin:EP X pins σ Q u s:=⟨v,H,I,r,h⟩
 rcases l with⟨hk,hm⟩|⟨hk,c,hc,ar⟩
 ·exact wpAny_Name (wpAny_loadName_local I.ok.kind hk hn hm fin) hd
 ·rcases hk with hk|hk
  ·exact wpAny_Name (wpAny_loadName_cell I.ok.kind hk hc ar fin) hd
  ·exact wpAny_Name (wpAny_loadName_free I.ok.kind hk hc ar fin bH) hd
theorem qpK{i j pos}:PE X (.Constant (.int i) j pos) (tC (.int i)):=λ_ _ _ H _ I h=>wpAny_Constant_int ⟨.int i,H,I.tok _,⟨_,rfl⟩,h⟩
theorem qsK{b j pos}:PE X (.Constant (.bool b) j pos) (tC (.bl b)):=λ_ _ _ H _ I h=>Constant_bool ⟨.bl b,H,I,rfl,h⟩
theorem qpI{j pos}:PE X (.Constant .none j pos) (tC .non):=λ_ _ _ H _ I h=>Constant_none ⟨.non,H,I,rfl,h⟩
theorem ql5{x j pos}:PE X (.Constant (.str x) j pos) (tC (.str x)):=λ_ _ _ H _ I h=>Calls.Constant_str ⟨.str x,H,I.tok _,⟨_,rfl⟩,h⟩
def Gl(X:Cx)(x:Str):Prop:=X.env.kindOf x=some .globalImplicit
theorem qeb (I:Inv X pins σ H s) (hg:Gl X x) (hm:X.mg x=some u) (h:Q u s) (hd:(x==("__debug__" :Str))=false:=by decide):wpAny (model X.prog X.w) X.A (eval (.Name x pos) X.env) Q E s:=
 Calls.Name_function_global I.ok.kind hg (Calls.loadGlobal_global (by rw[I.ok.glob];exact I.mod.glob.keeps I.bk) hm h) hd
theorem qb2 (I:Inv X pins σ H s) (hg:Gl X x) (hm:X.mg x=none) (hv:bootBuiltins x=some u) (h:Q u s) (hn:x≠ "__name__" :=by decide) (hd:(x==("__debug__" :Str))=false:=by decide):wpAny (model X.prog X.w) X.A (eval (.Name x pos) X.env) Q E s:=by obtain⟨mb,h1,h2⟩:=I.mod.blt;exact Calls.Name_function_global I.ok.kind hg (Calls.loadGlobal_builtin (by rw[I.ok.glob];exact I.mod.glob.keeps I.bk) hm (by rw[I.ok.blt];exact h1.keeps I.bk) ((h2 x hn).trans hv) h) hd
theorem qnl (hg:Gl X x) (hm:X.mg x=some u) (r:RelV v u) (hd:(x==("__debug__" :Str))=false:=by decide):PE X (.Name x pos) (tC v):=
 λ_ _ _ H _ I h=>qeb I hg hm ⟨v,H,I,r,h⟩ hd
theorem qnp (hg:Gl X x) (hm:X.mg x=none) (hv:bootBuiltins x=some u) (r:RelV v u) (hn:x≠ "__name__" :=by decide) (hd:(x==("__debug__" :Str))=false:=by decide):PE X (.Name x pos) (tC v):=
 λ_ _ _ H _ I h=>qb2 I hg hm hv ⟨v,H,I,r,h⟩ hn hd
variable {a b:Expr}{ta tb:TE}{pos:Pos}
def PC(X:Cx)(op:CmpOp)(a b:Expr)(t:TE):Prop:=
 ∀(pins:List (Addr×Obj)) (s:Shared) (σ:St) (H:Hp) (Q:VK),Inv X pins σ H s->t σ H Q->
  wpAny (model X.prog X.w) X.A (eval a X.env) (λv af=>wpAny (model X.prog X.w) X.A (eval b X.env) (λu cn=>wpAny (model X.prog X.w) X.A (compareOp op v u) (EP X pins σ Q) X.xe cn) X.xe af) X.xe s
def tB(t:TE):TT:=λσ H Q=>t σ H λx H1=> ∃c,x= .bl c/\Q c H1
theorem quD(h:PC X op a b t)(h1:behindInMarks op b=false:=by first|exact nobehind _ (by decide) (by decide)|rfl):PT X (.Compare a [op] [b] pos) (tB t):=by intro pins s σ H Q I hw;refine wpAny_isTrue_Compare1 (thn (h pins s σ H _ I hw) λv s1 h1=>thn h1 λu s2 h2=>thn h2 λc s3 ⟨x,H1,I1,r1,q1⟩=> ?_) h1;obtain⟨d,rfl,q⟩:=q1;cases r1;exact Vd ⟨H1,I1,q⟩
theorem qps(h:PE X e t)(he: ∀whole,isTrue e X.env whole=(do let v <-whole;standAt e.pos;holding [v] (truthy v)):=by intro _;rfl):PT X e (tB t):=by intro pins s σ H Q I hw;refine isTrue_plain (thn (h pins s σ H _ I hw) λv s1 ⟨x,H1,I1,r1,q1⟩=> ?_) (he _);obtain⟨d,rfl,q⟩:=q1;cases r1;exact Vd ⟨H1,I1,q⟩
variable {tA fM:TT}{qbG:List Expr}
def qvi(t u:TT):TT:=λσ H Q=>t σ H λc H1=>if c=true then u σ H1 Q else Q false H1
def tOr(t u:TT):TT:=λσ H Q=>t σ H λc H1=>if c=true then Q true H1 else u σ H1 Q
def qvc(t:TT):TT:=λσ H Q=>t σ H λc H1=>Q (!c) H1
theorem qna(ha:PT X a tA):PW X (.BoolOp .And [a] pos) tA:=by
 intro wh pins s σ H Q I h;refine isTrue_and (thn (ha pins s σ H Q I h) λc s1 e=> ?_);cases c with
 |true=>exact isTrue_and_nil e
 |false=>exact e
theorem qpo(ha:PT X a tA):PW X (.BoolOp .Or [a] pos) tA:=by
 intro wh pins s σ H Q I h;refine isTrue_or (thn (ha pins s σ H Q I h) λc s1 e=> ?_);cases c with
 |false=>exact isTrue_or_nil e
 |true=>exact e
theorem qpp(ha:PT X a tA)(hb:PW X (.BoolOp .And (b::qbG) pos) fM):PW X (.BoolOp .And (a::b::qbG) pos) (qvi tA fM):=by
 intro wh pins s σ H Q I h;refine isTrue_and (thn (ha pins s σ H _ I h) λc s1 ⟨H1,I1,q1⟩=> ?_);cases c with
 |true=>exact hb wh pins s1 σ H1 Q I1 q1
 |false=>exact⟨H1,I1,q1⟩
theorem qsD(ha:PT X a tA)(hb:PW X (.BoolOp .Or (b::qbG) pos) fM):PW X (.BoolOp .Or (a::b::qbG) pos) (tOr tA fM):=by
 intro wh pins s σ H Q I h;refine isTrue_or (thn (ha pins s σ H _ I h) λc s1 ⟨H1,I1,q1⟩=> ?_);cases c with
 |true=>exact⟨H1,I1,q1⟩
 |false=>exact hb wh pins s1 σ H1 Q I1 q1
theorem qpt(ha:PT X a tA):PT X (.UnaryOp .Not a pos) (qvc tA):=by intro pins s σ H Q I h;exact isTrue_not (ha pins s σ H (λc H1=>Q (!c) H1) I h)
def qsd(ta tb:TE):TE:=λσ H Q=>ta σ H λx H1=> ∃c,x= .bl c/\if c=true then tb σ H1 Q else Q (.bl false) H1
def qvb(ta tb:TE):TE:=λσ H Q=>ta σ H λx H1=> ∃c,x= .bl c/\if c=true then Q (.bl true) H1 else tb σ H1 Q
def qsa(ta:TE):TE:=λσ H Q=>ta σ H λx H1=> ∃c,x= .bl c/\Q (.bl (!c)) H1
theorem qpM(ha:PE X a ta)(hb:PE X (.BoolOp .And (b::qbG) pos) tb):PE X (.BoolOp .And (a::b::qbG) pos) (qsd ta tb):=by
 intro pins s σ H Q I h;refine BoolOp_and (thn (ha pins s σ H _ I h) λv s1 ⟨x,H1,I1,r1,q1⟩=> ?_);obtain⟨c,rfl,q1⟩:=q1;cases r1;refine Vd ?_;cases c with
 |true=>exact hb pins s1 σ H1 Q I1 q1
 |false=>exact⟨.bl false,H1,I1,rfl,q1⟩
theorem qsG(ha:PE X a ta)(hb:PE X (.BoolOp .Or (b::qbG) pos) tb):PE X (.BoolOp .Or (a::b::qbG) pos) (qvb ta tb):=by
 intro pins s σ H Q I h;refine BoolOp_or (thn (ha pins s σ H _ I h) λv s1 ⟨x,H1,I1,r1,q1⟩=> ?_);obtain⟨c,rfl,q1⟩:=q1;cases r1;refine Vd ?_;cases c with
 |false=>exact hb pins s1 σ H1 Q I1 q1
 |true=>exact⟨.bl true,H1,I1,rfl,q1⟩
theorem qpH(ha:PE X a ta):PE X (.UnaryOp .Not a pos) (qsa ta):=by intro pins s σ H Q I h;refine UnaryOp_ (thn (ha pins s σ H _ I h) λv s1 ⟨x,H1,I1,r1,q1⟩=> ?_);obtain⟨c,rfl,q1⟩:=q1;cases r1;exact not_of (Vd ⟨.bl (!c),H1,I1,rfl,q1⟩)
def tIf(t:TT)(ta tb:TE):TE:=λσ H Q=>t σ H λc H1=>if c=true then ta σ H1 Q else tb σ H1 Q
theorem qkS(hc:PT X c tA)(ha:PE X a ta)(hb:PE X b tb):PE X (.IfExp c a b pos) (tIf tA ta tb):=by
 intro pins s σ H Q I h;refine wpAny_IfExp (thn (hc pins s σ H _ I h) λd s1 ⟨H1,I1,q1⟩=> ?_);cases d with
 |true=>exact ha pins s1 σ H1 Q I1 q1
 |false=>exact hb pins s1 σ H1 Q I1 q1
end
def SqL(K:W.Frag)(H:Hp)(a:Addr)(xs:List V):Prop:=
 Rd H a (.lst xs)\/
  ∃(o:Obj) (its:Array Value) (n:Nat),K.lookup a=some o/\o.cls= .type "list" /\o.dict=none/\o.data= .seq its n/\its.size<=sizeLine/\Vals xs its.toList
def SqT(K:W.Frag)(H:Hp)(a:Addr)(xs:List V):Prop:=
 Rd H a (.tup xs)\/
  ∃(o:Obj) (its:Array Value) (n:Nat),K.lookup a=some o/\o.cls= .type "tuple" /\o.data= .seq its n/\its.size<=sizeLine/\Vals xs its.toList
def qwe:Value->Option V
 |.none=>some .non
 |.bool b=>some (.bl b)
 |.int i _=>some (.int i)
 |.str x _=>some (.str x)
 |.bytes b _=>some (.byt b)
 |.float b _=>some (.flt b)
 |.ref a=>some (.ref a)
 |.type n=>some (.ty n)
 |_=>none
theorem RelV.abs(r:RelV x u):qwe u=some x:=by
 cases x with
 |non|bl _=>cases r;rfl
 |int _|str _|byt _|flt _=>obtain⟨t,rfl⟩:=r;rfl
 |ref _|ty _=>cases r;rfl
theorem RelV.inj(r:RelV x u)(q:RelV y u):x=y:=Option.some.inj (r.abs.symm.trans q.abs)
theorem Vals.inj: ∀{xs ys:List V} {us:List Value},Vals xs us->Vals ys us->xs=ys
 |_,_,_,.nil,.nil=>rfl
 |_,_,_,.cons r t,.cons r' t'=>by rw[r.inj r',Vals.inj t t']
section
theorem SqL.of{H:Hp}{a:Addr}{xs:List V}{K:W.Frag}(h:H a=some (.lst xs)):SqL K H a xs:=.inl (.inl h)
theorem SqT.of{H:Hp}{a:Addr}{xs:List V}{K:W.Frag}(h:H a=some (.tup xs)):SqT K H a xs:=.inl (.inl h)
theorem Inv.list(I:Inv X pins σ H s)(h:SqL X.K H a xs): ∃its:List Value,Vals xs its/\PlainL s.heap a its.toArray/\xs.length<=sizeLine:=by
 rcases h with h|⟨o,its,n,hk,hc,hd,hs,hz,r⟩
 ·obtain⟨z,its,n,r,e⟩:=h.ok I.hok;exact⟨its,r,⟨_,n,e,rfl,rfl,rfl⟩,z⟩
 ·refine⟨its.toList,r,⟨o,n,I.kIn a o hk,hc,hd,by simpa using hs⟩,?_⟩;have e:=r.length;simp only[Array.length_toList] at e;omega
theorem Inv.tuple(I:Inv X pins σ H s)(h:SqT X.K H a xs): ∃its:List Value,Vals xs its/\IsTup s.heap a its.toArray/\xs.length<=sizeLine:=by
 rcases h with h|⟨o,its,n,hk,hc,hs,hz,r⟩
 ·obtain⟨z,its,r,p⟩:=h.ok I.hok;exact⟨its,r,p,z⟩
 ·refine⟨its.toList,r,⟨o,I.kIn a o hk,hc,n,by simpa using hs⟩,?_⟩;have e:=r.length;simp only[Array.length_toList] at e;omega
theorem Inv.list_inj(I:Inv X pins σ H s)(h:SqL X.K H a xs)(h':SqL X.K H a ys):xs=ys:=by
 obtain⟨its,r,⟨o,n,e,_,_,d⟩,_⟩:=I.list h;obtain⟨its',r',⟨o',n',e',_,_,d'⟩,_⟩:=I.list h';rw[e] at e';cases e';rw[d] at d';injection d' with d1 _
 have:its=its':=by simpa using congrArg Array.toList d1
 subst this;exact r.inj r'
theorem Inv.tuple_inj(I:Inv X pins σ H s)(h:SqT X.K H a xs)(h':SqT X.K H a ys):xs=ys:=by
 obtain⟨its,r,⟨o,e,_,n,d⟩,_⟩:=I.tuple h;obtain⟨its',r',⟨o',e',_,n',d'⟩,_⟩:=I.tuple h';rw[e] at e';cases e';rw[d] at d';injection d' with d1 _
 have:its=its':=by simpa using congrArg Array.toList d1
 subst this;exact r.inj r'
end
abbrev Cx.wish(X:Cx)(E:Value->Shared->Prop):Cx:={ X with xe:=E }
section
def qo2:TS:=λD σ H=>D.nx σ H
def quf(t u:TS):TS:=λD σ H=>t { D with nx:=u D } σ H
theorem qnd:PSs X [] qo2:=λ_ _ σ H _ I h=>wpAny_execs_nil ⟨σ,H,I,h⟩
theorem qkK{X:Cx}{st:Stmt}{qbG:List Stmt}{t:TS}{u:TS}(h1:PS X st t)(h2:PSs X qbG u):PSs X (st::qbG) (quf t u):=by
 intro pins s σ H D I h;refine wpAny_execs_cons (thn (h1 pins s σ H { D with nx:=u D } I h) λf s1 q=> ?_);cases f with
 |next=>obtain⟨aj,H',I',q⟩:=q;exact h2 pins s1 aj H' D I' q
 |ret v|brk|cont=>exact q
theorem Inv.quiet(I:Inv X pins σ H s):interactive X.env=false:=by simp[interactive,I.ok.kind]
theorem qpA{x j pos pos'}:PS X (.Expr (.Constant (.str x) j pos) pos') qo2:=λ_ s σ H _ I h=>wpAny_Expr (Calls.Constant_str (show SP X _ _ .next { s with toks:=s.toks+1 } from⟨σ,H,I.tok _,h⟩)) I.quiet
def qsc(te:TE):TS:=λD σ H=>te σ H λ_ H1=>D.nx σ H1
theorem qne(he:PE X e te)(hs:swapsWith e none pos.line X.env=pure false:=by rfl):PS X (.Expr e pos) (qsc te):=by intro pins s σ H D I h;exact wpAny_Expr_any (thn (he pins s σ H _ I h) λv s1 ⟨x,H1,I1,r1,q1⟩=>⟨σ,H1,I1,q1⟩) I.quiet hs
def qu9(te:TE):TS:=λD σ H=>te σ H D.rt
theorem qpw(he:PE X e te):PS X (.Return (some e) pos) (qu9 te):=by intro pins s σ H D I h;exact wpAny_Return_some (thn (he pins s σ H _ I h) λv s1 ⟨x,H1,I1,r1,q1⟩=>⟨x,σ,H1,I1,r1,q1⟩)
def qvf(c:TT)(t u:TS):TS:=λD σ H=>c σ H λb H1=>if b=true then t D σ H1 else u D σ H1
theorem qsE(hc:PT X c tc)(ha:PSs X a t)(hb:PSs X b u):PS X (.If c a b pos) (qvf tc t u):=by
 intro pins s σ H D I h;refine wpAny_If (thn (hc pins s σ H _ I h) λd s1 ⟨H1,I1,q1⟩=> ?_);cases d with
 |true=>exact ha pins s1 σ H1 D I1 q1
 |false=>exact hb pins s1 σ H1 D I1 q1
end
abbrev TG:=V->St->Hp->(St->Hp->Prop)->Prop
abbrev TGs:=List V->St->Hp->(St->Hp->Prop)->Prop
def PG(X:Cx)(target:Expr)(t:TG):Prop:=
 ∀(pins:List (Addr×Obj)) (s:Shared) (σ:St) (H:Hp) (v:V) (u:Value) (Q:St->Hp->Prop),Inv X pins σ H s->RelV v u->t v σ H Q->
  wpAny (model X.prog X.w) X.A (assign target X.env u) (λ_ s'=> ∃aj H',Inv X pins aj H' s'/\Q aj H') X.xe s
def PGs(X:Cx)(ts:List Expr)(t:TGs):Prop:=
 ∀(pins:List (Addr×Obj)) (s:Shared) (σ:St) (H:Hp) (vs:List V) (us:List Value) (Q:St->Hp->Prop),Inv X pins σ H s->Vals vs us->t vs σ H Q->
  wpAny (model X.prog X.w) X.A (assignInOrder ((assignEach ts X.env).map (·.2)) us) (λ_ s'=> ∃aj H',Inv X pins aj H' s'/\Q aj H') X.xe s
abbrev qrW:=V->V->V->Hp->(Hp->Prop)->Prop
def qt8(X:Cx)(t:qrW):Prop:=
 ∀(pins:List (Addr×Obj)) (s:Shared) (σ:St) (H:Hp) (o i v:V) (ov iv u:Value) (Q:Hp->Prop),Inv X pins σ H s->RelV o ov->RelV i iv->RelV v u->t o i v H Q->
  wpAny (model X.prog X.w) X.A (setItem ov iv u) (λ_ s'=> ∃H',Inv X pins σ H' s'/\Q H') X.xe s
section
def qn8(i:Nat):TG:=λv σ H Q=>Q (σ.set i (some v)) H
theorem qnj(hN:X.N.Nodup)(hi:X.N[i]? =some x)(hx:Loc X.env.scope x)(hf:X.fn x=true\/X.env.scope.names.lookup x=some .local:=by first|exact .inl rfl|exact .inr rfl|assumption):PG X (.Name x pos) (qn8 i):=by intro pins s σ H v u Q I r h;exact wpAny_assign_Name (qa5 I hN hi hx r (λs' I'=>⟨_,H,I',h⟩) hf)
def qv4:TGs:=λvs σ H Q=>vs=[]/\Q σ H
def qtw(t:TG)(u:TGs):TGs:=λvs σ H Q=> ∃v r,vs=v::r/\t v σ H λaj H'=>u r aj H' Q
theorem qni:PGs X [] qv4:=by intro pins s σ H vs us Q I r h;obtain⟨e,h⟩:=h;subst e;cases r;exact assignInOrder_nil ⟨σ,H,I,h⟩
theorem qkQ(h1:PG X e t)(h2:PGs X es u)(hs:(assignEach (e::es) X.env).map (·.2)=assign e X.env::(assignEach es X.env).map (·.2):=by rfl):PGs X (e::es) (qtw t u):=by
 intro pins s σ H vs us Q I r h;obtain⟨v,vr,e1,h⟩:=h;subst e1;cases r with
 |cons r rr=>rw[hs];refine assignInOrder_cons (thn (h1 pins s σ H _ _ _ I r h) λ_ s1 ⟨dj,H1,I1,q1⟩=> ?_);exact h2 pins s1 dj H1 _ _ Q I1 rr q1
def qv1(K:W.Frag)(n:Nat)(t:TGs):TG:=λv σ H Q=> ∃a xs,v= .ref a/\SqT K H a xs/\xs.length=n/\t xs σ H Q
theorem qpE(hc:X.calm=true)(h:PGs X es t)(hn:(assignEach es X.env).length=n:=by rfl)(bj:(assignEach es X.env).findIdx? (·.1)=none:=by rfl):PG X (.Tuple es k pos) (qv1 X.K n t):=by intro pins s σ H v u Q I r hw;obtain⟨a,xs,e1,hq,hl,hw⟩:=hw;subst e1;cases r;obtain⟨its,rv,ht,hz⟩:=I.tuple hq;refine assign_Tuple_tuple (I.ok.hd hc) ht (by simp[hn,<-hl,rv.length]) bj λh' hx=> ?_;have I1:Inv X pins σ H { s with heap:=h' }:=I.kept (t':=s.toks) λb o e=>hx b o (Vp (Vi e)) e;exact h pins _ σ H xs _ Q I1 (by simpa using rv) hw
def gSub(to ti:TE)(t:qrW):TG:=λv σ H Q=>to σ H λo H1=>ti σ H1 λi H2=>t o i v H2 λH3=>Q σ H3
def qug(te:TE)(g:TG):TS:=λD σ H=>te σ H λx H1=>g x σ H1 D.nx
theorem qpB(he:PE X e te)(hg:PG X tg g)(hs:swapsWithSole [tg] e pos.line X.env=pure false:=by rfl)(hw:swappedStores [tg] e X.env=pure none:=by rfl)(h1:(assignEach [tg] X.env).map (·.2)=[assign tg X.env]:=by rfl):PS X (.Assign [tg] e pos) (qug te g):=by intro pins s σ H D I h;refine wpAny_Assign_stores (thn (he pins s σ H _ I h) λv s1 ⟨x,H1,I1,r1,q1⟩=> ?_) hs hw;rw[h1];exact thn (hg pins s1 σ H1 x v _ I1 r1 q1) λ_ s2 q=>q
theorem qpv (hN:X.N.Nodup) (hi:X.N[i]? =some x) (hx:Loc X.env.scope x) (he:PE X e te) (hs:swapsWith e (some (.Name x pos')) pos.line X.env=pure false:=by rfl) (hf:X.fn x=true\/X.env.scope.names.lookup x=some .local:=by first | exact .inl rfl | exact .inr rfl | assumption):
  PS X (.Assign [.Name x pos'] e pos) (qug te (qn8 i)):=by intro pins s σ H D I h;refine wpAny_Assign_Name (thn (he pins s σ H _ I h) λv s1 ⟨y,H1,I1,r1,q1⟩=> ?_) hs;exact qa5 I1 hN hi hx r1 (λs2 I2=>⟨_,H1,I2,q1⟩) hf
def qva(i j:Nat)(ta:TA):TS:=λD σ H=>ta σ H λvs H1=> ∃v w,vs=[v,w]/\D.nx ((σ.set i (some v)).set j (some w)) H1
theorem qpy {kt k2 pt2} (hc:X.calm=true) (hN:X.N.Nodup) (hi:X.N[i]? =some x) (hj:X.N[j]? =some y) (aJ:i≠j) (hx:X.env.scope.names.lookup x=some .local) (hy:X.env.scope.names.lookup y=some .local) (ha:PA X [a,b] ta) (hw:swappedStores [.Tuple [.Name x px,.Name y py] kt pt] (.Tuple [a,b] k2 pt2) X.env=pure (some [x,y])) (hs:swapsWithSole [.Tuple [.Name x px,.Name y py] kt pt] (.Tuple [a,b] k2 pt2) pos.line X.env=pure false:=by rfl):
  PS X (.Assign [.Tuple [.Name x px,.Name y py] kt pt] (.Tuple [a,b] k2 pt2) pos) (qva i j ta):=by
 intro pins s σ H D I h;rw[exec_Assign_arm];refine Va (wpAny_standAt ?_);rw[hs];refine Va (Vb ?_);rw[if_neg (by decide)];refine Va (Tuple_ (thn (ha _ pins s σ H _ I h) λus s1 ⟨vs,H1,I1,r1,q1⟩=> ?_));obtain⟨v,w,e1,q1⟩:=q1;subst e1;obtain⟨u1,u2,rfl,rv,aF⟩: ∃u1 u2,us=[u1,u2]/\RelV v u1/\RelV w u2:=by
  cases r1 with
  |cons p q=>
   cases q with
   |cons p' q'=>cases q';exact⟨_,_,rfl,p,p'⟩
 refine wpAny_newObj_type ?_ (by show 2<=sizeLine;decide);have I2:Inv X pins σ H1 { s1 with heap:=s1.heap.push { cls:=.type "tuple",data:=.seq [u1,u2].toArray } }:=I1.kept (t':=s1.toks) λb o e=>Vg _ e;rw[hw];refine Va (Vb ?_);show wpAny (model X.prog X.w) X.A (do rule "assign.swapped-stores";let items <-unpackItems (.ref s1.heap.objs.size) 2 none;assignInOrder [λv=>bindName X.env y v,λv=>bindName X.env x v] items.reverse;pure Flow.next) _ _ _;refine Va (wpAny_rule (Va (unpackItems_tuple (items:= #[u1,u2]) (I.ok.hd hc) (IsTup.new s1.heap _) λh' cR=> ?_)));have I3:=I2.kept (h':=h') (t':=s1.toks) λb o e=>cR b o (Vp (Vi e)) e;show wpAny _ _ (assignInOrder [λv=>bindName X.env y v,λv=>bindName X.env x v] [u2,u1]>>=λ_=>pure Flow.next) _ _ _;refine Va (assignInOrder_cons (wpAny_bindName (qa5 I3 hN hj (.inl hy) aF (λs2 I4=> ?_) (.inr hy))));refine assignInOrder_cons (wpAny_bindName (qa5 I4 hN hi (.inl hx) rv (λs3 I5=>assignInOrder_nil (Vb ?_)) (.inr hx)));rw[List.set_comm _ _ (Ne.symm aJ)] at I5;exact⟨_,H1,I5,q1⟩
end
structure It where
 go:Nat->Hp->Prop
 yld:Nat->Hp->V->Hp->Prop
 stop:Nat->Hp->Prop
def qkb(X:Cx)(pins:List (Addr×Obj))(H:Hp)(b:Addr):Prop:=
 H b=none/\b≠X.env.locals/\b∉X.fs/\(b∈X.ex\/X.s₀.heap.objs.size<=b)/\(∀x c,X.env.cells.lookup x=some c->c≠b)/\∀p∈X.pn++pins,p.1≠b
theorem Inv.fpOk(I:Inv X pins σ H s)(hb:s.heap.objs.size<=b)(hn:H' b=none):qkb X pins H' b:=by
 refine⟨hn,Nat.ne_of_gt (Vn I.lt hb),I.nofs hb,.inr (Vr I.sz hb),λx c e z=> ?_,λp hp z=> ?_⟩
 ·obtain⟨v,q⟩:=I.cell x c e;exact absurd (Vn q.lt (by rw[z];exact hb)) (Nat.lt_irrefl _)
 ·exact absurd (Vn (Vi (I.pin p hp).1) (by rw[z];exact hb)) (Nat.lt_irrefl _)
structure qrE(P:Program)(w:World)(K:W.Frag)(tg:Expr)(J:It)(fp:List Addr)(it:Addr)(tn:Nat->Heap->Prop):Prop where
 mem:it∈fp
 obj: ∀i h,tn i h->∀b∈fp,∃o,h.get? b=some o/\∀v,o.data≠.cell v
 keep: ∀i h h',tn i h->(∀b∈fp,∀o,h.get? b=some o->h'.get? b=some o)->tn i h'
 item: ∀(X:Cx),X.prog=P->X.w=w->X.K=K->X.calm=true->∀(i:Nat) (pins:List (Addr×Obj)) (s:Shared) (σ:St) (H:Hp) (E:Value->Shared->Prop),Inv X pins σ H s->(∀b∈fp,qkb X pins H b)->tn i s.heap->J.go i H->
  wpAny (model P w) X.A (pyNext (.ref it)) (λr s1=> ∃u,r=some u/\
   wpAny (model P w) X.A (letOwnedTupleGo tg (.ref it) u) (λ_ s2=> ∃x H',Inv X pins σ H' s2/\RelV x u/\J.yld i H x H'/\tn (i+1) s2.heap/\∀b∈fp,H' b=none) E s1) E s
 done: ∀(X:Cx),X.prog=P->X.w=w->X.K=K->X.calm=true->∀(i:Nat) (pins:List (Addr×Obj)) (s:Shared) (σ:St) (H:Hp) (E:Value->Shared->Prop),Inv X pins σ H s->(∀b∈fp,qkb X pins H b)->tn i s.heap->J.stop i H->
  wpAny (model P w) X.A (pyNext (.ref it)) (λr s1=>r=none/\Inv X pins σ H s1) E s
 self: ∀(A:Around) (i:Nat) (s:Shared) (Q:Value->Shared->Prop) (E:Value->Shared->Prop),tn i s.heap->Q (.ref it) s->wpAny (model P w) A (pyIter (.ref it)) Q E s
abbrev TI:=St->Hp->(It->Hp->Prop)->Prop
def PIE(X:Cx)(pins:List (Addr×Obj))(σ:St)(tg:Expr)(R:It->Hp->Prop)(itv:Value)(s2:Shared):Prop:=
 ∃(it:Addr) (fp:List Addr) (tn:Nat->Heap->Prop) (J:It) (H':Hp),itv= .ref it/\Inv X pins σ H' s2/\qrE X.prog X.w X.K tg J fp it tn/\tn 0 s2.heap/\(∀b∈fp,qkb X pins H' b)/\R J H'
def PI(X:Cx)(tg iter:Expr)(wi:TI):Prop:=
 ∀(pins:List (Addr×Obj)) (s:Shared) (σ:St) (H:Hp) (R:It->Hp->Prop),Inv X pins σ H s->wi σ H R->
  wpAny (model X.prog X.w) X.A (eval iter X.env) (λv s1=>wpAny (model X.prog X.w) X.A (pyIter v) (PIE X pins σ tg R) X.xe s1) X.xe s
theorem qlh (ho:s.heap.get? it=some o) (hc:o.cls= .type n) (hd:o.data= .fields vs) (hn:["enumerate", "zip", "dict_itemiterator", "dict_reverseitemiterator", "odict_iterator", "itertools.zip_longest", "itertools.pairwise"].contains n=false) (hQ:Q () s):wpAny M A (letOwnedTupleGo tg (.ref it) u) Q E s:=by
 unfold letOwnedTupleGo
 cases tg<;>first
  |exact Vb hQ
  | (cases u<;>first
    |exact Vb hQ
    | (refine Va (wpAny_load ho ?_)
       rw[hc,hd];show wpAny M A (if(["enumerate", "zip", "dict_itemiterator", "dict_reverseitemiterator", "odict_iterator", "itertools.zip_longest", "itertools.pairwise"].contains n&&vs[0]? ==some (rawInt _))=true then _ else _) Q E s;rw[if_neg (by intro h;rw[hn,Bool.false_and] at h;cases h)];exact Vb hQ))
def Itl(K:W.Frag)(a:Addr):It:=
 ⟨λi H=> ∃xs x,SqL K H a xs/\xs[i]? =some x,λi H x H'=>H'=H/\∀xs,SqL K H a xs->xs[i]? =some x,λi H=> ∃xs,SqL K H a xs/\xs.length<=i⟩
def Itt(K:W.Frag)(a:Addr):It:=
 ⟨λi H=> ∃xs x,SqT K H a xs/\xs[i]? =some x,λi H x H'=>H'=H/\∀xs,SqT K H a xs->xs[i]? =some x,λi H=> ∃xs,SqT K H a xs/\xs.length<=i⟩
def Itr(lo:Int)(n:Nat):It:=⟨λi _=>i<n,λi H x H'=>H'=H/\x= .int (lo+i),λi _=>n<=i⟩
theorem qh7{P:Program}{w:World}{K:W.Frag}{tg:Expr}(a it:Addr):qrE P w K tg (Itl K a) [it] it (λi h=>h.IsListIter it a i) where
 mem:=by simp
 obj:=λi h st b hb=>by
  have e:b=it:=by simpa using hb
  subst e;obtain⟨o,e,c,d⟩:=st;exact⟨o,e,λv z=>by rw[d] at z;cases z⟩
 keep:=λi h h' st k=>st.at λo e=>k it (by simp) o e
 item:=by intro X hP hw hK hc i pins s σ H E I hf st hg;subst hP hw hK;obtain⟨xs,x,hq,hx⟩:=hg;obtain⟨its,rv,p,hz⟩:=I.list hq;obtain⟨u,hu,ru⟩:=rv.get hx;obtain⟨f0,f1,f2,f3,f4,f5⟩:=hf it (by simp);refine wpAny_pyNext_list_item st p.isList (x:=u) (by simpa using hu) λh' ba sb=> ?_;have I1:Inv X pins σ H { s with heap:=h' }:=I.turned (t':=s.toks) (λb o hb e=>(sb.2 b hb).trans e) f0 f1 f3 f4 f5;obtain⟨o,e,c,d⟩:=id ba;exact⟨u,rfl,qlh (s:={ s with heap:=h' }) e c d (by decide) ⟨x,H,I1,ru,⟨rfl,λys hy=>by rw[I.list_inj hy hq];exact hx⟩,ba,λb hb=>(hf b hb).1⟩⟩
 done:=by intro X hP hw hK hc i pins s σ H E I hf st hg;subst hP hw hK;obtain⟨xs,hq,hx⟩:=hg;obtain⟨its,rv,p,hz⟩:=I.list hq;obtain⟨f0,f1,f2,f3,f4,f5⟩:=hf it (by simp);have hl:=rv.length;exact wpAny_pyNext_list_end (I.ok.hd hc) st p.isList (by simp;omega) λh' eb=>⟨rfl,I.turned (t':=s.toks) (λb o hb e=>eb b o hb e) f0 f1 f3 f4 f5⟩
 self:=λ_ _ _ _ _ st h=>wpAny_pyIter_listiter st h
theorem qhb{P:Program}{w:World}{K:W.Frag}{tg:Expr}(a it:Addr):qrE P w K tg (Itt K a) [it] it (λi h=>h.IsTupleIter it a i) where
 mem:=by simp
 obj:=λi h st b hb=>by
  have e:b=it:=by simpa using hb
  subst e;obtain⟨o,e,c,d⟩:=st;exact⟨o,e,λv z=>by rw[d] at z;cases z⟩
 keep:=λi h h' st k=>st.at λo e=>k it (by simp) o e
 item:=by intro X hP hw hK hc i pins s σ H E I hf st hg;subst hP hw hK;obtain⟨xs,x,hq,hx⟩:=hg;obtain⟨its,rv,p,hz⟩:=I.tuple hq;obtain⟨u,hu,ru⟩:=rv.get hx;obtain⟨f0,f1,f2,f3,f4,f5⟩:=hf it (by simp);refine wpAny_pyNext_tuple_item st (show s.heap.IsTuple a its.toArray from p) (x:=u) (by simpa using hu) λh' ba sb=> ?_;have I1:Inv X pins σ H { s with heap:=h' }:=I.turned (t':=s.toks) (λb o hb e=>(sb.2 b hb).trans e) f0 f1 f3 f4 f5;obtain⟨o,e,c,d⟩:=id ba;exact⟨u,rfl,qlh (s:={ s with heap:=h' }) e c d (by decide) ⟨x,H,I1,ru,⟨rfl,λys hy=>by rw[I.tuple_inj hy hq];exact hx⟩,ba,λb hb=>(hf b hb).1⟩⟩
 done:=by intro X hP hw hK hc i pins s σ H E I hf st hg;subst hP hw hK;obtain⟨xs,hq,hx⟩:=hg;obtain⟨its,rv,p,hz⟩:=I.tuple hq;obtain⟨f0,f1,f2,f3,f4,f5⟩:=hf it (by simp);have hl:=rv.length;exact wpAny_pyNext_tuple_end (I.ok.hd hc) st (show s.heap.IsTuple a its.toArray from p) (by simp;omega) λh' eb=>⟨rfl,I.turned (t':=s.toks) (λb o hb e=>eb b o hb e) f0 f1 f3 f4 f5⟩
 self:=λ_ _ _ _ _ st h=>wpAny_pyIter_tupleiter st h
theorem qhc{P:Program}{w:World}{K:PySem.W.Frag}{tg:Expr}(it:Addr)(lo:Int)(n:Nat):qrE P w K tg (Itr lo n) [it] it (λi h=>IsRangeIter h it (lo+(i:Nat)*1) ((n:Int) - (i:Nat)) 1) where
 mem:=by simp
 obj:=λi h st b hb=>by
  have e:b=it:=by simpa using hb
  subst e;exact⟨_,st,λv z=>by
   have z':Data.fields _=Data.cell v:=z;cases z'⟩
 keep:=λi h h' st k=>k it (by simp) _ st
 item:=by intro X hP hw hK hc i pins s σ H E I hf st hg;subst hP hw hK;obtain⟨f0,f1,f2,f3,f4,f5⟩:=hf it (by simp);have W:=Walks.range (prog:=X.prog) (w:=X.w) (I.ok.hd hc) it lo 1 n;refine W.item i s _ _ hg st λv h' tk hv ba kk=> ?_;obtain⟨t,rfl⟩:=hv;have I1:Inv X pins σ H { s with heap:=h',toks:=tk }:=I.turned (λb o hb e=>kk b o (by simpa using hb) e) f0 f1 f3 f4 f5;refine⟨_,rfl,qlh (s:={ s with heap:=h',toks:=tk }) (n:= "range_iterator") ba rfl rfl (by decide) ⟨.int (lo+i),H,I1,⟨t,?_⟩,⟨rfl,rfl⟩,ba,λb hb=>(hf b hb).1⟩⟩;rw[Int.mul_one]
 done:=by intro X hP hw hK hc i pins s σ H E I hf st hg;subst hP hw hK;obtain⟨f0,f1,f2,f3,f4,f5⟩:=hf it (by simp);exact wpAny_pyNext_range_end (I.ok.hd hc) st (by have:n<=i:=hg;omega) λh' eb=>⟨rfl,I.turned (t':=s.toks) (λb o hb e=>eb b o hb e) f0 f1 f3 f4 f5⟩
 self:=λ_ _ _ _ _ st h=>wpAny_pyIter_rangeiter st h
section
variable {X:Cx}{tg:Expr}
theorem qgr{s:Shared}{lo hi:Int}{tk:Nat}(I:Inv X pins σ H s)(h1: -(2 ^ 62)<=lo)(h2:lo<2 ^ 62)(h3: -(2 ^ 62)<=hi)(h4:hi<2 ^ 62)(q:R (Itr lo (hi - lo).toNat) H):wpAny (model X.prog X.w) X.A (pyIter (.ref s.heap.objs.size)) (PIE X pins σ tg R) E { s with heap:=s.heap.push { cls:=.type "range",data:=.fields #[.int lo t,.int hi u,.int 1 v] },toks:=tk }:=by
 refine wpAny_pyIter_range (IsRange.new ..) (small_one h1 h2 h3 h4) ?_;have I1:Inv X pins σ H { s with heap:=s.heap.push { cls:=.type "range",data:=.fields #[.int lo t,.int hi u,.int 1 v] },toks:=tk }:=I.kept λb o e=>Vg _ e
 refine⟨(s.heap.push { cls:=.type "range",data:=.fields #[.int lo t,.int hi u,.int 1 v] }).objs.size,[(s.heap.push { cls:=.type "range",data:=.fields #[.int lo t,.int hi u,.int 1 v] }).objs.size],_,_,H,rfl,
  I1.kept (t':=tk) λb o e=>Vg _ e,qhc _ lo (hi - lo).toNat,?_,λb hb=> ?_,q⟩
 ·have e1:lo+((0:Nat):Int)*1=lo:=by simp
  have e2:(((hi - lo).toNat:Nat):Int) - ((0:Nat):Int)=Builtin.Range.rangeSize lo hi 1:=by rw[rangeSize_one];split<;>omega
  show IsRangeIter _ _ (lo+((0:Nat):Int)*1) ((((hi - lo).toNat:Nat):Int) - ((0:Nat):Int)) 1;rw[e1,e2];exact Vh _ rfl
 ·have e:b=(s.heap.push { cls:=.type "range",data:=.fields #[.int lo t,.int hi u,.int 1 v] }).objs.size:=by simpa using hb
  subst e;exact I1.fpOk (Vm _) (I1.hok.fresh (Vm _))
def qte(ta:TA):TI:=λσ H R=>ta σ H λvs H1=> ∃j:Int,vs=[.int j]/\ -(2 ^ 62)<=j/\j<2 ^ 62/\R (Itr 0 j.toNat) H1
def qtd(ta:TA):TI:=λσ H R=>ta σ H λvs H1=> ∃i j:Int,vs=[.int i,.int j]/\(-(2 ^ 62)<=i/\i<2 ^ 62/\ -(2 ^ 62)<=j/\j<2 ^ 62)/\R (Itr i (j - i).toNat) H1
theorem qiE {a:Expr} {ta:TA} {p pos:Pos} (hg:Gl X "range") (hm:X.mg "range" =none) (ha:PA X [a] ta) (hs:starEach [a] X.env=[(false,eval a X.env)]:=by rfl):PI X tg (.Call (.Name "range" p) [a] [] pos) (qte ta):=by
 intro pins s σ H R I h;refine Call_ (qb2 I hg hm boot_range (PyProof.Rows.callWith_type1 (thn (ha pos pins s σ H _ I h) λus s1 ⟨vs,H1,I1,r1,q1⟩=> ?_) hs rfl));obtain⟨j,e,q1,q2,q⟩:=q1;subst e;cases r1 with
 |cons r rr=>cases rr;obtain⟨t,rfl⟩:=r;exact call_range_1 (qgr I1 (by omega) (by omega) q1 q2 (by simpa using q))
theorem qiD {a b:Expr} {ta:TA} {p pos:Pos} (hg:Gl X "range") (hm:X.mg "range" =none) (ha:PA X [a,b] ta) (hs:starEach [a,b] X.env=[(false,eval a X.env),(false,eval b X.env)]:=by rfl) (cT:starEach [b] X.env=[(false,eval b X.env)]:=by rfl):
  PI X tg (.Call (.Name "range" p) [a,b] [] pos) (qtd ta):=by
 intro pins s σ H R I h;refine Call_ (qb2 I hg hm boot_range (PyProof.Rows.callWith_type1 (thn (ha pos pins s σ H _ I h) λus s1 ⟨vs,H1,I1,r1,q1⟩=> ?_) (by rw[hs,cT]) (by rw[cT];rfl)));obtain⟨i,j,e,⟨q1,q2,q3,q4⟩,q⟩:=q1;subst e;cases r1 with
 |cons r rr=>
  cases rr with
  |cons r' rr=>cases rr;obtain⟨t,rfl⟩:=r;obtain⟨t',rfl⟩:=r';exact call_range_2 (qgr I1 q1 q2 q3 q4 q)
def qvg(wi:TI)(g:TG)(tb:TS):TS:=λD σ H=>wi σ H λJ H1=> ∃W:Nat->Nat->St->Hp->Prop,(∃m,W 0 m σ H1)/\∀i m σ H,W i m σ H->
 (J.stop i H/\D.nx σ H)\/(J.go i H/\∃N:St->Hp->Prop,(∀aj H',N aj H'->∃m',m'<m/\W (i+1) m' aj H')/\∀x H',J.yld i H x H'->g x σ H' λaN H2=>tb { D with nx:=N,ct:=N,bk:=D.nx } aN H2)
def qeJ(fp:List Addr)(h:Heap):List (Addr×Obj):=fp.filterMap λb=>(h.get? b).map λo=>(b,o)
theorem qbu(hb:b∈fp)(e:h.get? b=some o):(b,o)∈qeJ fp h:=List.mem_filterMap.mpr ⟨b,hb,by rw[e];rfl⟩
theorem qiK(hp:p∈qeJ fp h):p.1∈fp/\h.get? p.1=some p.2:=by
 obtain⟨b,hb,e⟩:=List.mem_filterMap.mp hp;cases q:h.get? b with
 |none=>rw[q] at e;cases e
 |some o=>rw[q] at e;have e':(b,o)=p:=Option.some.inj e;subst e';exact⟨hb,q⟩
theorem Inv.pinned(I:Inv X pins σ H s)(hf: ∀b∈fp,qkb X pins H b)(ho: ∀b∈fp,∃o,s.heap.get? b=some o/\∀v,o.data≠.cell v):Inv X (pins++qeJ fp s.heap) σ H s:=
 I.pins_of λp hp=>(List.mem_append.mp hp).elim (λz=>I.pin p (Vu _ z)) λz=>by obtain⟨hb,e⟩:=qiK z;obtain⟨f0,f1,f2,_⟩:=hf p.1 hb;obtain⟨o,e',d⟩:=ho p.1 hb;rw[e] at e';cases e';exact⟨e,f0,f1,f2,d⟩
theorem Inv.unpinned(I:Inv X (pins++pl) σ H s):Inv X pins σ H s:=I.pins_of λp hp=>I.pin p (Vu _ (Vt _ hp))
theorem qpz(hp:PassesOwn (model X.prog X.w) X.A X.env X.xe)(hc:X.calm=true)(hi:PI X tg iter wi)(hg:PG X tg g)(hb:PSs X body tb)(hs: ∀x,foldedSetIterable iter X.env x=pure x:=by intro _;rfl):PS X (.For tg iter body [] pos) (qvg wi g tb):=by
 intro pins s σ H D I h;refine wpAny_For (thn (hi pins s σ H _ I h) λv s1 h1=>thn h1 λitv s2 h2=> ?_) hs;obtain⟨it,fp,tn,J,H2,e,I2,T,bJ,f2,W,⟨m0,w0⟩,turn⟩:=h2;subst e;have dw: ∀{H':Hp},(∀b∈fp,H' b=none)->∀b∈fp,qkb X pins H' b:=λhn b hb=>⟨hn b hb,(f2 b hb).2⟩
 refine codeAny_forLoop_any (λn s'=> ∃i aj H',Inv X pins aj H' s'/\tn i s'.heap/\(∀b∈fp,H' b=none)/\W i n aj H') ?_ m0 ⟨0,σ,H2,I2,bJ,λb hb=>(f2 b hb).1,w0⟩;rintro n s3 ⟨i,eI,H3,I3,cZ,jA,w3⟩
 rcases turn i n eI H3 w3 with⟨stop,qn⟩|⟨go,N,hN,step⟩
 ·refine wpAny_passesOwn hp (thn (T.done X rfl rfl rfl hc i pins s3 eI H3 X.xe I3 (dw jA) cZ stop) λr s4 ⟨hr,I4⟩=> ?_);subst hr;exact wpAny_execs_nil ⟨eI,H3,I4,qn⟩
 ·refine wpAny_passesOwn hp (thn (T.item X rfl rfl rfl hc i pins s3 eI H3 X.xe I3 (dw jA) cZ go) λr s4 ⟨u,hr,h4⟩=> ?_);subst hr;refine wpAny_passesOwn hp (thn h4 λ_ s5 ⟨x,H5,I5,r5,y5,st5,gy⟩=> ?_);have I5':=I5.pinned (dw gy) (T.obj _ _ st5);refine wpAny_passesOwn hp (thn (hg _ s5 eI H5 x u _ I5' r5 (step x H5 y5)) λ_ s6 ⟨σ6,H6,I6,q6⟩=> ?_);refine wpAny_passesOwn hp (thn (hb _ s6 σ6 H6 _ I6 q6) λf s7 q7=> ?_);have again: ∀{ck:St} {H7:Hp},Inv X (pins++qeJ fp s5.heap) ck H7 s7->N ck H7->∃m,m<n/\∃i aj H',Inv X pins aj H' s7/\tn i s7.heap/\(∀b∈fp,H' b=none)/\W i m aj H':=λ{ck H7} I7 n7=>by obtain⟨m',hm,w7⟩:=hN ck H7 n7;refine⟨m',hm,i+1,ck,H7,I7.unpinned,T.keep _ _ _ st5 λb hb o e=>(I7.pin (b,o) (Vu _ (Vu _ (qbu hb e)))).1,λb hb=> ?_,w7⟩;obtain⟨o,e,d⟩:=T.obj _ _ st5 b hb;exact(I7.pin (b,o) (Vu _ (Vu _ (qbu hb e)))).2.1
  cases f with
  |next|cont=>obtain⟨ck,H7,I7,n7⟩:=q7;exact again I7 n7
  |brk=>obtain⟨ck,H7,I7,q7⟩:=q7;exact⟨ck,H7,I7.unpinned,q7⟩
  |ret v=>obtain⟨x7,ck,H7,I7,r7,q7⟩:=q7;exact⟨x7,ck,H7,I7.unpinned,r7,q7⟩
end
abbrev R2:=V->V->Hp->VK->Prop
def OpR(X:Cx)(f:Value->Value->Sem Value)(r:R2):Prop:=
 ∀(pins:List (Addr×Obj)) (s:Shared) (σ:St) (H:Hp) (x y:V) (v u:Value) (Q:VK),Inv X pins σ H s->RelV x v->RelV y u->r x y H Q->
  wpAny (model X.prog X.w) X.A (f v u) (EP X pins σ Q) X.xe s
def UnR(X:Cx)(f:Value->Sem Value)(r:V->Hp->VK->Prop):Prop:=
 ∀(pins:List (Addr×Obj)) (s:Shared) (σ:St) (H:Hp) (x:V) (v:Value) (Q:VK),Inv X pins σ H s->RelV x v->r x H Q->
  wpAny (model X.prog X.w) X.A (f v) (EP X pins σ Q) X.xe s
def qas(X:Cx)(f:Value)(r:List V->Hp->VK->Prop):Prop:=
 ∀(pins:List (Addr×Obj)) (s:Shared) (σ:St) (H:Hp) (xs:List V) (us:List Value) (Q:VK),Inv X pins σ H s->Vals xs us->r xs H Q->
  wpAny (model X.prog X.w) X.A (call f us) (EP X pins σ Q) X.xe s
def qwg(X:Cx)(r:V->Hp->(Bool->Hp->Prop)->Prop):Prop:=
 ∀(pins:List (Addr×Obj)) (s:Shared) (σ:St) (H:Hp) (x:V) (v:Value) (Q:Bool->Hp->Prop),Inv X pins σ H s->RelV x v->r x H Q->
  wpAny (model X.prog X.w) X.A (truthy v) (TP X pins σ Q) X.xe s
def tOp(r:R2)(ta tb:TE):TE:=λσ H Q=>ta σ H λx H1=>tb σ H1 λy H2=>r x y H2 Q
def tUn(r:V->Hp->VK->Prop)(ta:TE):TE:=λσ H Q=>ta σ H λx H1=>r x H1 Q
def rI(C:Int->Int->Prop)(g:Int->Int->V):R2:=λx y H Q=> ∃i j,x= .int i/\y= .int j/\C i j/\Q (g i j) H
def rI0(g:Int->Int->V):R2:=λx y H Q=> ∃i j,x= .int i/\y= .int j/\Q (g i j) H
def rU(g:Int->V):V->Hp->VK->Prop:=λx H Q=> ∃i,x= .int i/\Q (g i) H
section
variable {X:Cx}{a b c:Expr}{ta tb tc:TE}{pos:Pos}
theorem qt2 (ha:PE X a ta) (hb:PE X b tb) {pins:List (Addr×Obj)} {s:Shared} {σ:St} {H:Hp} {R:V->V->Hp->Prop} (I:Inv X pins σ H s) (h:ta σ H λx H1=>tb σ H1 λy H2=>R x y H2) {Q:Value->Shared->Prop} {f:Value->Value->Sem Value} (hf: ∀v u s2 x y H2,Inv X pins σ H2 s2->RelV x v->RelV y u->R x y H2->wpAny (model X.prog X.w) X.A (f v u) Q X.xe s2):
  wpAny (model X.prog X.w) X.A (eval a X.env) (λv af=>wpAny (model X.prog X.w) X.A (eval b X.env) (λu cn=>wpAny (model X.prog X.w) X.A (f v u) Q X.xe cn) X.xe af) X.xe s:=by refine thn (ha pins s σ H _ I h) λv s1 ⟨x,H1,I1,r1,q1⟩=> ?_;refine thn (hb pins s1 σ H1 _ I1 q1) λu s2 ⟨y,H2,I2,r2,q2⟩=> ?_;exact hf v u s2 x y H2 I2 r1 r2 q2
theorem qsH{op:Operator}{r:R2}(ho:OpR X (binaryOp op) r)(ha:PE X a ta)(hb:PE X b tb):PE X (.BinOp a op b pos) (tOp r ta tb):=by intro pins s σ H Q I h;exact wpAny_BinOp (qt2 ha hb I h λv u s2 x y H2 I2 rx ry q=>ho pins s2 σ H2 x y v u Q I2 rx ry q)
theorem qsF(ho:UnR X (unaryOp op) r)(ha:PE X a ta):PE X (.UnaryOp op a pos) (tUn r ta):=by intro pins s σ H Q I h;exact UnaryOp_ (thn (ha pins s σ H _ I h) λv s1 ⟨x,H1,I1,r1,q1⟩=>ho pins s1 σ H1 x v Q I1 r1 q1)
theorem opI {f:Value->Value->Sem Value} {C:Int->Int->Prop} {g:Int->Int->Int} (rule: ∀(i j:Int) (t u:Tok) (s:Shared) (Q:Value->Shared->Prop) (E:Value->Shared->Prop),C i j->Q (.int (g i j) s.toks) { s with toks:=s.toks+1 }->wpAny (model X.prog X.w) X.A (f (.int i t) (.int j u)) Q E s):
  OpR X f (rI C λi j=>.int (g i j)):=by intro pins s σ H x y v u Q I rx ry h;obtain⟨i,j,rfl,rfl,hc,q⟩:=h;obtain⟨t,rfl⟩:=rx;obtain⟨t',rfl⟩:=ry;exact rule i j t t' s _ _ hc ⟨.int (g i j),H,I.tok _,⟨_,rfl⟩,q⟩
theorem quE {f:Value->Value->Sem Value} {g:Int->Int->Int} (rule: ∀(i j:Int) (t u:Tok) (s:Shared) (Q:Value->Shared->Prop) (E:Value->Shared->Prop),Q (.int (g i j) s.toks) { s with toks:=s.toks+1 }->wpAny (model X.prog X.w) X.A (f (.int i t) (.int j u)) Q E s):
  OpR X f (rI0 λi j=>.int (g i j)):=by intro pins s σ H x y v u Q I rx ry h;obtain⟨i,j,rfl,rfl,q⟩:=h;obtain⟨t,rfl⟩:=rx;obtain⟨t',rfl⟩:=ry;exact rule i j t t' s _ _ ⟨.int (g i j),H,I.tok _,⟨_,rfl⟩,q⟩
theorem qrQ {f:Value->Value->Sem Value} {g:Int->Int->Bool} (rule: ∀(i j:Int) (t u:Tok) (s:Shared) (Q:Value->Shared->Prop) (E:Value->Shared->Prop),Q (.bool (g i j)) s->wpAny (model X.prog X.w) X.A (f (.int i t) (.int j u)) Q E s):
  OpR X f (rI0 λi j=>.bl (g i j)):=by intro pins s σ H x y v u Q I rx ry h;obtain⟨i,j,rfl,rfl,q⟩:=h;obtain⟨t,rfl⟩:=rx;obtain⟨t',rfl⟩:=ry;exact rule i j t t' s _ _ ⟨.bl (g i j),H,I,rfl,q⟩
def qu2(i j:Int):Prop:=0<j/\j<1073741824
def qrX(i j:Int):Prop:=(-(2 ^ 64)<i/\i<2 ^ 64)\/(-(2 ^ 64)<j/\j<2 ^ 64)
theorem qrX.ok(h:qrX i j):IntMulOk i j:=by
 rcases h with⟨h1,h2⟩|⟨h1,h2⟩
 ·exact .of_left (intBits_le_64 h1 h2)
 ·exact .of_right (intBits_le_64 h1 h2)
theorem qp1:OpR X (binaryOp .Add) (rI0 λi j=>.int (i+j)):=quE λ_ _ _ _ _ _ _ q=>add_int q
theorem qpQ:OpR X (binaryOp .Sub) (rI0 λi j=>.int (i - j)):=quE λ_ _ _ _ _ _ _ q=>sub_int q
theorem qpT:OpR X (binaryOp .Mult) (rI qrX λi j=>.int (i*j)):=opI λ_ _ _ _ _ _ _ hc q=>mul_int q hc.ok
theorem qnz:OpR X (binaryOp .FloorDiv) (rI qu2 λi j=>.int (i / j)):=opI λi j _ _ _ _ _ hc q=>by have h1:(0:Int)<j:=hc.1;have h2:j<1073741824:=hc.2;exact floordiv_int (by omega) (by rw[Int.fdiv_eq_ediv_of_nonneg i (by omega)];exact q) (.inl (PyProof.noPylong_small (by omega)))
theorem qpU:OpR X (binaryOp .Mod) (rI (λ_ j=>0<j) λi j=>.int (i % j)):=opI λi j _ _ _ _ _ hc q=>by have h1:(0:Int)<j:=hc;exact mod_int' (by omega) (by rw[Int.fmod_eq_emod_of_nonneg i (by omega)];exact q)
theorem unI {f:Value->Sem Value} {g:Int->Int} (rule: ∀(i:Int) (t:Tok) (s:Shared) (Q:Value->Shared->Prop) (E:Value->Shared->Prop),Q (.int (g i) s.toks) { s with toks:=s.toks+1 }->wpAny (model X.prog X.w) X.A (f (.int i t)) Q E s):
  UnR X f (rU λi=>.int (g i)):=by intro pins s σ H x v Q I rx h;obtain⟨i,rfl,q⟩:=h;obtain⟨t,rfl⟩:=rx;exact rule i t s _ _ ⟨.int (g i),H,I.tok _,⟨_,rfl⟩,q⟩
theorem qoS:UnR X (unaryOp .USub) (rU λi=>.int (-i)):=unI λ_ _ _ _ _ q=>neg_int q
end
section
variable {X:Cx}{a b c:Expr}{ta tb tc:TE}{pos:Pos}
theorem qjl(I:Inv X pins σ H s)(q:Q (.bl k) H)(e:k=k'):EP X pins σ Q (.bool k') s:=by subst e;exact⟨.bl k,H,I,rfl,q⟩
theorem qsN:OpR X (compareOp .Lt) (rI0 λi j=>.bl (decide (i<j))):=qrQ λ_ _ _ _ _ _ _ q=>lt_int q
theorem qsO:OpR X (compareOp .LtE) (rI0 λi j=>.bl (decide (i<=j))):=qrQ λ_ _ _ _ _ _ _ q=>le_int q
theorem qsP:OpR X (compareOp .Gt) (rI0 λi j=>.bl (decide (j<i))):=qrQ λ_ _ _ _ _ _ _ q=>gt_int q
theorem qsQ:OpR X (compareOp .GtE) (rI0 λi j=>.bl (decide (j<=i))):=qrQ λ_ _ _ _ _ _ _ q=>ge_int q
theorem qiI:OpR X (compareOp .Lt) (λx y H Q=> ∃i j,x= .str i/\y= .str j/\Q (.bl (decide (i.cps.toList<j.cps.toList))) H):=by intro pins s σ H x y v u Q I rx ry h;obtain⟨i,j,rfl,rfl,q⟩:=h;obtain⟨t,rfl⟩:=rx;obtain⟨t',rfl⟩:=ry;exact lt_str (qjl I q rfl)
theorem qpX:OpR X (compareOp .Is) (λx y H Q=>y= .non/\Q (.bl (decide (x= .non))) H):=by
 intro pins s σ H x y v u Q I rx ry h;obtain⟨rfl,q⟩:=h;cases ry;refine is_none_gen (qjl I q ?_)
 cases x<;>first
  |(cases rx;rfl)
  |(obtain⟨t,rfl⟩:=rx;rfl)
theorem qnw:OpR X (compareOp .IsNot) (λx y H Q=>y= .non/\Q (.bl (!decide (x= .non))) H):=by
 intro pins s σ H x y v u Q I rx ry h;obtain⟨rfl,q⟩:=h;cases ry;refine isnot_none_gen (qjl I q ?_)
 cases x<;>first
  |(cases rx;rfl)
  |(obtain⟨t,rfl⟩:=rx;rfl)
theorem OpR.or(h:OpR X f r)(h':OpR X f r'):OpR X f (λx y H Q=>r x y H Q\/r' x y H Q):=by
 intro pins s σ H x y v u Q I rx ry q
 rcases q with q|q
 ·exact h pins s σ H x y v u Q I rx ry q
 ·exact h' pins s σ H x y v u Q I rx ry q
theorem qnn{op:CmpOp}{r:R2}(ho:OpR X (compareOp op) r)(ha:PE X a ta)(hb:PE X b tb)(hm:behindInMarks op b=false):PE X (.Compare a [op] [b] pos) (tOp r ta tb):=by intro pins s σ H Q I h;exact wpAny_Compare1 (qt2 ha hb I h λv u s2 x y H2 I2 rx ry q=>ho pins s2 σ H2 x y v u Q I2 rx ry q) hm
def qo1(t:TE):TT:=λσ H Q=>t σ H λx H'=> ∃k,x= .bl k/\Q k H'
theorem qnc(ho:OpR X (compareOp op) r)(ha:PE X a ta)(hb:PE X b tb)(hm:behindInMarks op b=false):PT X (.Compare a [op] [b] pos) (qo1 (tOp r ta tb)):=by
 intro pins s σ H Q I h;refine wpAny_isTrue_Compare1 (thn (ha pins s σ H _ I h) λv s1 ⟨x,H1,I1,r1,q1⟩=>thn (hb pins s1 σ H1 _ I1 q1) λu s2 ⟨y,H2,I2,r2,q2⟩=>
  thn (ho pins s2 σ H2 x y v u _ I2 r1 r2 q2) λc s3 ⟨z,H3,I3,r3,k,e,q3⟩=> ?_) hm
 subst e;cases r3;exact Vd ⟨H3,I3,q3⟩
def qie(r r':R2)(ta tb tc:TE):TE:=λσ H Q=>ta σ H λx H1=>tb σ H1 λy H2=>r x y H2 λz H3=> ∃k,z= .bl k/\
 (if k=true then tc σ H3 λw' H4=>r' y w' H4 Q else Q (.bl false) H3)
theorem qkU(ho:OpR X (compareOp op) r)(bw:OpR X (compareOp op') r')(ha:PE X a ta)(hb:PE X b tb)(hc:PE X c tc)(hm:lastMarks [op,op'] [b,c]=false:=by with_unfolding_all rfl):PE X (.Compare a [op,op'] [b,c] pos) (qie r r' ta tb tc):=by
 intro pins s σ H Q I h;refine Compare_chain (thn (ha pins s σ H _ I h) λv s1 ⟨x,H1,I1,r1,q1⟩=>chain_link (thn (hb pins s1 σ H1 _ I1 q1) λu s2 ⟨y,H2,I2,r2,q2⟩=>
  thn (ho pins s2 σ H2 x y v u _ I2 r1 r2 q2) λd s3 ⟨z,H3,I3,r3,k,e,q3⟩=> ?_)) hm
 subst e;cases r3;refine Vd ?_;cases k with
 |false=>exact ite_ff ⟨.bl false,H3,I3,rfl,q3⟩
 |true=>exact ite_tt (chain_last (thn (hc pins s3 σ H3 _ I3 q3) λw' s4 ⟨z',H4,I4,r4,q4⟩=>bw pins s4 σ H4 y z' u w' Q I4 r2 r4 q4))
theorem qkJ(ho:OpR X (compareOp op) r)(bw:OpR X (compareOp op') r')(ha:PE X a ta)(hb:PE X b tb)(hc:PE X c tc)(hm:lastMarks [op,op'] [b,c]=false:=by with_unfolding_all rfl):PT X (.Compare a [op,op'] [b,c] pos) (qo1 (qie r r' ta tb tc)):=by
 intro pins s σ H Q I h;refine isTrue_chain (thn (ha pins s σ H _ I h) λv s1 ⟨x,H1,I1,r1,q1⟩=>test_link (thn (hb pins s1 σ H1 _ I1 q1) λu s2 ⟨y,H2,I2,r2,q2⟩=>
  thn (ho pins s2 σ H2 x y v u _ I2 r1 r2 q2) λd s3 ⟨z,H3,I3,r3,k,e,q3⟩=> ?_)) hm
 subst e;cases r3;refine Vd ?_;cases k with
 |false=>obtain⟨k',e',q'⟩:=q3;cases e';exact ite_ff ⟨H3,I3,q'⟩
 |true=>refine ite_tt (test_last (thn (hc pins s3 σ H3 _ I3 q3) λw' s4 ⟨z',H4,I4,r4,q4⟩=>thn (bw pins s4 σ H4 y z' u w' _ I4 r2 r4 q4) λd' s5 ⟨z2,H5,I5,r5,k2,e2,q5⟩=> ?_));subst e2;cases r5;exact Vd ⟨H5,I5,q5⟩
def qwf(K:W.Frag)(x:V)(H:Hp)(k:Bool):Prop:=
 match x with
 |.non=>k=false
 |.bl b=>k=b
 |.int i=>k=(i != 0)
 |.str y=>y.length<=sizeLine/\k=((y.length:Int) != 0)
 |.byt y=>y.size<=sizeLine/\k=((y.size:Int) != 0)
 |.ref p=>(∃xs,SqL K H p xs/\k= !xs.isEmpty)\/(∃xs,SqT K H p xs/\k= !xs.isEmpty)\/∃kvs,H p=some (.dK kvs)/\k= !kvs.isEmpty
 |_=>False
theorem qhF(r:KV kvs vs):(!vs.isEmpty)= !kvs.isEmpty:=by cases r<;>rfl
theorem qdA(r:Vals xs its):(!its.toArray.isEmpty)= !xs.isEmpty:=by cases r<;>simp
theorem qcW:(sizeLine:Nat)<2 ^ 63:=by rw[sizeLine_eq];decide
theorem qud:qwg X (λx H Q=> ∃k,qwf X.K x H k/\Q k H):=by
 intro pins s σ H x v Q I rx h;obtain⟨k,e,q⟩:=h;have hl:=qcW;have hs:sizeLine=16777216:=sizeLine_eq;cases x with
 |non=>cases rx;have e':k=false:=e;subst e';exact truthy_none ⟨H,I,q⟩
 |bl b=>cases rx;have e':k=b:=e;subst e';exact Vd ⟨H,I,q⟩
 |int i=>obtain⟨t,rfl⟩:=rx;have e':k=(i != 0):=e;subst e';exact P.truthy_int ⟨H,I,q⟩
 |str y=>obtain⟨t,rfl⟩:=rx;obtain⟨hy,e'⟩:y.length<=sizeLine/\k=((y.length:Int) != 0):=e;subst e';exact P.truthy_str (by omega) ⟨H,I.tok _,q⟩
 |byt y=>obtain⟨t,rfl⟩:=rx;obtain⟨hy,e'⟩:y.size<=sizeLine/\k=((y.size:Int) != 0):=e;subst e';exact W.truthy_bytes (by omega) ⟨H,I.tok _,q⟩
 |ref p=>
  cases rx;have e':(∃xs,SqL X.K H p xs/\k= !xs.isEmpty)\/(∃xs,SqT X.K H p xs/\k= !xs.isEmpty)\/∃kvs,H p=some (.dK kvs)/\k= !kvs.isEmpty:=e
  rcases e' with⟨xs,hx,e'⟩|⟨xs,hx,e'⟩|⟨kvs,hx,e'⟩
  ·subst e';obtain⟨its,r,pl,hz⟩:=I.list hx;have hlen:=r.length;exact wpAny_truthy_list pl.isList (by simp only[List.size_toArray];omega) ⟨H,I.tok _,by rw[qdA r];exact q⟩
  ·subst e';obtain⟨its,r,pl,hz⟩:=I.tuple hx;have hlen:=r.length;exact truthy_tuple pl (by simp only[List.size_toArray];omega) ⟨H,I.tok _,by rw[qdA r];exact q⟩
  ·subst e';obtain⟨hz,hS,vs,r,m⟩:kvs.length<=sizeLine/\(p==sysModules)=false/\∃vs,KV kvs vs/\s.heap.DictOf (qap X.prog X.w) p vs:=I.hok p _ hx;have hlen:kvs.length=vs.length:=Paired.length r;exact wpAny_truthy_dict hS m (by omega) ⟨H,I.tok _,by rw[qhF r];exact q⟩
 |_=>exact(show False from e).elim
theorem qhs:OpR X (binaryOp .Add) (λx y H Q=> ∃i j,x= .str i/\y= .str j/\i.length+j.length<=sizeLine/\Q (.str (i++j)) H):=by intro pins s σ H x y v u Q I rx ry h;obtain⟨i,j,rfl,rfl,hz,q⟩:=h;obtain⟨t,rfl⟩:=rx;obtain⟨t',rfl⟩:=ry;exact add_str (λt' tk=>⟨.str (i++j),H,I.tok _,⟨_,rfl⟩,q⟩) hz
theorem qeu(r:Vals [x] us): ∃u,us=[u]/\RelV x u:=by
 cases r with
 |cons r1 r2=>cases r2;exact⟨_,rfl,r1⟩
theorem qkl(r:Vals [x,y] us): ∃u w',us=[u,w']/\RelV x u/\RelV y w':=by
 cases r with
 |cons r1 r2=>
  cases r2 with
  |cons r3 r4=>cases r4;exact⟨_,_,rfl,r1,r3⟩
theorem qjQ(hc:X.calm=true):qas X (.builtin "max") (λxs H Q=> ∃i j,xs=[.int i,.int j]/\Q (.int (if j>i then j else i)) H):=by
 intro pins s σ H xs us Q I r h;obtain⟨i,j,rfl,q⟩:=h;obtain⟨u,w',rfl,⟨t,rfl⟩,⟨t',rfl⟩⟩:=qkl r;refine max_two_ints (I.ok.hd hc) λh' tk k=>⟨_,H,I.kept k,?_,q⟩
 by_cases hj:j>i
 ·rw[if_pos hj,if_pos hj];exact⟨_,rfl⟩
 ·rw[if_neg hj,if_neg hj];exact⟨_,rfl⟩
theorem qjP(hc:X.calm=true):qas X (.builtin "min") (λxs H Q=> ∃i j,xs=[.int i,.int j]/\Q (.int (if j<i then j else i)) H):=by
 intro pins s σ H xs us Q I r h;obtain⟨i,j,rfl,q⟩:=h;obtain⟨u,w',rfl,⟨t,rfl⟩,⟨t',rfl⟩⟩:=qkl r;refine min_two_ints (I.ok.hd hc) λh' tk k=>⟨_,H,I.kept k,?_,q⟩
 by_cases hj:j<i
 ·rw[if_pos hj,if_pos hj];exact⟨_,rfl⟩
 ·rw[if_neg hj,if_neg hj];exact⟨_,rfl⟩
def qwi(K:W.Frag)(x:V)(H:Hp)(n:Nat):Prop:=
 match x with
 |.str y=>y.length<=sizeLine/\n=y.length
 |.byt y=>y.size<=sizeLine/\n=y.size
 |.ref p=>(∃xs,SqL K H p xs/\n=xs.length)\/∃xs,SqT K H p xs/\n=xs.length
 |_=>False
theorem qlJ:qas X (.builtin "len") (λxs H Q=> ∃x n,xs=[x]/\qwi X.K x H n/\Q (.int n) H):=by
 intro pins s σ H xs us Q I r h;obtain⟨x,n,rfl,e,q⟩:=h;obtain⟨u,rfl,rx⟩:=qeu r;have hl:=qcW;have hs:sizeLine=16777216:=sizeLine_eq;cases x with
 |str y=>obtain⟨t,rfl⟩:=rx;obtain⟨hy,e'⟩:y.length<=sizeLine/\n=y.length:=e;subst e';exact len_str (by omega) ⟨.int _,H,I.tok _,⟨_,rfl⟩,q⟩
 |byt y=>obtain⟨t,rfl⟩:=rx;obtain⟨hy,e'⟩:y.size<=sizeLine/\n=y.size:=e;subst e';exact W.len_bytes (by omega) ⟨.int _,H,I.tok _,⟨_,rfl⟩,q⟩
 |ref p=>
  cases rx;have e':(∃xs,SqL X.K H p xs/\n=xs.length)\/∃xs,SqT X.K H p xs/\n=xs.length:=e
  rcases e' with⟨xs,hx,e'⟩|⟨xs,hx,e'⟩
  ·subst e';obtain⟨its,r',pl,hz⟩:=I.list hx;have hlen:=r'.length;exact Calls.call_len_list pl.isList (by simp only[List.size_toArray];omega) ⟨.int xs.length,H,I.tok _,⟨_,by simp only[List.size_toArray];rw[hlen]⟩,q⟩
  ·subst e';obtain⟨its,r',pl,hz⟩:=I.tuple hx;have hlen:=r'.length;exact len_tuple pl (by simp only[List.size_toArray];omega) ⟨.int xs.length,H,I.tok _,⟨_,by simp only[List.size_toArray];rw[hlen]⟩,q⟩
 |_=>exact(show False from e).elim
end
structure qt9(h:Heap)(x dx C:Addr)(mA:Str->Option Value):Prop where
 obj:h.get? x=some (W.instObj C dx)
 ns:h.Ns1 dx mA
 ne:dx≠x
theorem qiT{h:Heap}(n:h.Ns1 dx mA): ∃od,h.get? dx=some od/\∀name,W.lookIn name od=some (mA name):=by
 obtain⟨o,es,ep,ho,hd,hk,_,hm⟩:=n;refine⟨o,ho,λname=> ?_⟩;have e:=hm name;unfold nsFind findBy at e;rw[<-Array.find?_toList] at e;unfold W.lookIn;rw[hd];dsimp only;split
 ·rename_i y q;rw[q] at e;exact congrArg some e
 ·rename_i q;rw[q] at e;have a:es.toList.any (·.refKey)=false:=by rw[List.any_eq_false];intro y hy;obtain⟨z,t,iq⟩:=hk y (Array.mem_toList_iff.mp hy);simp[DictEntry.refKey,iq]
  have a': ¬es.toList.any (·.refKey)=true:=by rw[a];exact Vs
  rw[if_neg a'];exact congrArg some e
theorem qt9.look(I:qt9 h x dx C mA): ∃od,W.InstAt h x (W.instObj C dx) C (some od)/\∀name,W.lookIn name od=some (mA name):=
 let ⟨od,ho,hl⟩:=qiT I.ns
 ⟨od,⟨I.obj,rfl,rfl,ho⟩,hl⟩
theorem qj6.some_of(r:qj6 (some v) o): ∃u,o=some u/\RelV v u:=by
 cases o with
 |none=>exact(show False from r).elim
 |some u=>exact⟨u,rfl,r⟩
section
theorem qn3(hok:HOk P w H h)(e:H a=some (.ins C dx fs)): ∃mA,qt9 h a dx C mA/\(∀f,qj6 (fs.lookup f) (mA f))/\PySem.Within mA (fs.map (·.1))/\fs.length<=1000/\H dx=some (.own a):=by
 obtain⟨d,z,ne,ob,mA,n,r,q⟩:=(show qax P w H h a (.ins C dx fs) from hok a _ e)
 exact⟨mA,⟨ob,n,ne⟩,r,q,z,d⟩
end
structure Cls(K:W.Frag)(C:Addr):Prop where
 pg:W.plainGet K C Str.empty=true
 hd:W.hasDictIn K C=true
 po:W.plainOver K C=true
 sa:W.findIn K (.ref C) "__setattr__" =some (some (.builtin "object.__setattr__"))
theorem Cls.get{K:W.Frag}{C:Addr}(c:Cls K C)(f:Str):W.plainGet K C f=true:=c.pg
structure Con(K:W.Frag)(C:Addr)(f:Str)(v:V)(u:Value):Prop where
 at_:W.findIn K (.ref C) f=some (some u)
 rel:RelV v u
 get:W.specialIn K u "__get__" =some none
 cp:W.copiedNames.contains f=false
structure qwq(K:W.Frag)(C:Addr)(m:Str)(f:Addr):Prop where
 at_:W.findIn K (.ref C) m=some (some (.ref f))
 fn:W.isFn K (.ref f)=true
 kp:W.keepIn K (.ref f)=true
section
def rAdd:V->V->Hp->VK->Prop:=λx y H Q=> ∃i j,x= .int i/\y= .int j/\Q (.int (i+j)) H
end
section
inductive qgb(K:W.Frag)(H:Hp):V->Value->Prop where
 |non:qgb K H .non (.type "NoneType")
 |bl (x:Bool):qgb K H (.bl x) (.type "bool")
 |int (i:Int):qgb K H (.int i) (.type "int")
 |str (x:Str):qgb K H (.str x) (.type "str")
 |flt (x:UInt64):qgb K H (.flt x) (.type "float")
 |lst {a:Addr} {xs:List V} (e:H a=some (.lst xs)):qgb K H (.ref a) (.type "list")
 |frz {a:Addr} {o:Obj} {xs:List V} (e:H a=some (.frz o (.lst xs))):qgb K H (.ref a) (.type "list")
 |tup {a:Addr} {xs:List V} (e:H a=some (.tup xs)):qgb K H (.ref a) (.type "tuple")
 |dK {a:Addr} {kvs:List (Key×V)} (e:H a=some (.dK kvs)):qgb K H (.ref a) (.type "dict")
 |dT {a:Addr} {kvs:List (List Key×V)} (e:H a=some (.dT kvs)):qgb K H (.ref a) (.type "dict")
 | ins {a C dx:Addr} {fs:List (Str×V)} (e:H a=some (.ins C dx fs)) (cl:Cls K C) (ha:W.findIn K (.ref C) "__class__" =some (some (.builtin "object.__class__")))
   (hn:W.specialIn K (.builtin "object.__class__") "__get__" =some (some (.builtin "getset_descriptor.__get__"))) (jc:W.takesIn K (.builtin "object.__class__")=some true)
   (hm:W.mroIn K C (.type "object")=some true):qgb K H (.ref a) (.ref C)
theorem qi0 (I:Inv X pins σ H s) (rx:RelV x u) (ty:qgb X.K H x t) (e:W.kitOne X.K t c=some b) (h: ∀tk,Q (.bool b) { s with toks:=tk }):
  wpAny (model X.prog X.w) A (call (.builtin "isinstance") [u,c]) Q E s:=by
 cases ty with
 |non=>cases(show u=Value.none from rx);exact W.kia_one W.kitx_none I.kIn True.intro e (λz=>nomatch z) h
 |bl y=>cases(show u=Value.bool y from rx);exact W.kia_one W.kitx_bool I.kIn True.intro e (λz=>nomatch z) h
 |int i=>obtain⟨t,q⟩:=(show ∃t,u=Value.int i t from rx);cases q;exact W.kia_one W.kitx_int I.kIn True.intro e (λz=>nomatch z) h
 |str y=>obtain⟨t,q⟩:=(show ∃t,u=Value.str y t from rx);cases q;exact W.kia_one W.kitx_str I.kIn True.intro e (λz=>nomatch z) h
 |flt y=>obtain⟨t,q⟩:=(show ∃t,u=Value.float y t from rx);cases q;exact W.kia_one W.kitx_float I.kIn True.intro e (λz=>nomatch z) h
 |@lst a xs ea=>
  cases(show u=Value.ref a from rx);obtain⟨_,_,n,_,h1⟩:=(show qax X.prog X.w H s.heap a (.lst xs) from I.hok a _ ea)
  exact W.kia_one W.kitx_list I.kIn ⟨_,h1,rfl⟩ e (λz=>nomatch z) h
 |@frz a ob xs ea=>
  cases(show u=Value.ref a from rx);obtain⟨_,_,_,n,_,h1⟩:=(show qax X.prog X.w H s.heap a (.frz ob (.lst xs)) from I.hok a _ ea)
  exact W.kia_one W.kitx_list I.kIn ⟨_,h1,rfl⟩ e (λz=>nomatch z) h
 |@tup a xs ea=>
  cases(show u=Value.ref a from rx);obtain⟨_,_,_,p⟩:=(show qax X.prog X.w H s.heap a (.tup xs) from I.hok a _ ea)
  obtain⟨o,h1,h2,_⟩:=p;exact W.kia_one W.kitx_tuple I.kIn ⟨o,h1,h2⟩ e (λz=>nomatch z) h
 |@dK a kvs ea=>
  cases(show u=Value.ref a from rx);obtain⟨_,_,vs,_,p⟩:=(show qax X.prog X.w H s.heap a (.dK kvs) from I.hok a _ ea)
  obtain⟨o,es,ep,h1,h2,_⟩:=p;exact W.kia_one W.kitx_dict I.kIn ⟨o,h1,h2.1⟩ e (λz=>nomatch z) h
 |@dT a kvs ea=>
  cases(show u=Value.ref a from rx);obtain⟨_,_,xs,_,o,es,ep,h1,h2,_⟩:=(show qax X.prog X.w H s.heap a (.dT kvs) from I.hok a _ ea)
  exact W.kia_one W.kitx_dict I.kIn ⟨o,h1,h2.1⟩ e (λz=>nomatch z) h
 |@ins a C dx fs ea cl ha hn jc hm=>cases(show u=Value.ref a from rx);obtain⟨mA,O,_⟩:=qn3 I.hok ea;obtain⟨od,J,_⟩:=O.look;exact W.kia_one (W.kitx_own (cl.get _) cl.hd ha hn jc hm) I.kIn J e (λz=>nomatch z) h
end
structure qb4(k:Nat)(A:Around):Prop where
 hd:A.handled=none
 dp:A.depth+3*k+5<recursionLimit
 un:A.units+16*k+200<cLine
theorem qb4.mono(r:qb4 k A)(h:j<=k):qb4 j A:=⟨r.hd,by have:=r.dp;omega,by have:=r.un;omega⟩
theorem qb4.deeper(r:qb4 (k+1) A)(env:Env):qb4 k (A.deeper env):=
 ⟨r.hd,by have:=r.dp;show A.depth+1+3*k+5<_;omega,by have:=r.un;show A.units+3+16*k+200<_;omega⟩
theorem qb4.in1(r:qb4 (k+1) A):qb4 k A.in1:=
 ⟨r.hd,by have:=r.dp;show A.depth+3*k+5<_;omega,by have:=r.un;show A.units+1+16*k+200<_;omega⟩
theorem qb4.depth(r:qb4 k A):A.depth<recursionLimit:=by have:=r.dp;omega
theorem qb4.units(r:qb4 k A):A.units+64<cLine:=by have:=r.un;omega
def qsb:TA:=λ_ H Q=>Q [] H
def qo4(ta:TE)(tr:TA):TA:=λσ H Q=>ta σ H λx H1=>tr σ H1 λxs H2=>Q (x::xs) H2
section
theorem qeN:PA X [] qsb:=λ_ _ _ _ H Q I h=>Calls.spliced_nil ⟨[],H,I,.nil,h⟩
theorem qca(ha:PE X e te)(hr:PA X es t)(hs:starEach (e::es) X.env=(false,eval e X.env)::starEach es X.env:=by rfl):PA X (e::es) (qo4 te t):=by intro pos pins s σ H Q I h;rw[hs];show wpAny _ _ (spliced ((false,eval e X.env)::backTo pos (starEach es X.env))) _ _ s;refine Calls.spliced_cons (thn (ha pins s σ H _ I h) λu s1 ⟨x,H1,I1,r1,q1⟩=> ?_);exact thn (hr pos pins s1 σ H1 _ I1 q1) λus s2 ⟨xs,H2,I2,r2,q2⟩=>⟨x::xs,H2,I2,.cons r1 r2,q2⟩
def qu8(t:TA):TE:=λσ H Q=>t σ H λxs H1=>xs.length<=sizeLine/\∀p,H1 p=none->Q (.ref p) (upd H1 p (.tup xs))
def qvd(t:TA):TE:=λσ H Q=>t σ H λxs H1=>xs.length<=sizeLine/\∀p,H1 p=none->Q (.ref p) (upd H1 p (.lst xs))
theorem qpG{x1}(h:PA X es t):PE X (.Tuple es x1 pos) (qu8 t):=by intro pins s σ H Q I hq;refine wpAny_Tuple_spliced (thn (h pos pins s σ H _ I hq) λus s1 ⟨xs,H1,I1,r,z,q⟩=>⟨by rw[<-r.length];exact z,?_⟩);have hf:H1 s1.heap.objs.size=none:=I1.hok.fresh (Vm _);refine⟨.ref s1.heap.objs.size,upd H1 s1.heap.objs.size (.tup xs),I1.laid (t':=s1.toks) (λb u e=>Vg _ e) (Vm _) ?_,rfl,q _ hf⟩;exact⟨z,us,r,⟨_,Vh _ rfl,rfl,_,rfl⟩⟩
theorem qpJ(h:PA X es t):PE X (.List es pos) (qvd t):=by intro pins s σ H Q I hq;refine wpAny_List_spliced (thn (h pos pins s σ H _ I hq) λus s1 ⟨xs,H1,I1,r,z,q⟩=>⟨by rw[<-r.length];exact z,?_⟩);have hf:H1 s1.heap.objs.size=none:=I1.hok.fresh (Vm _);refine⟨.ref s1.heap.objs.size,upd H1 s1.heap.objs.size (.lst xs),I1.laid (t':=s1.toks) (λb u e=>Vg _ e) (Vm _) ?_,rfl,q _ hf⟩;exact⟨z,us,0,r,Vh _ rfl⟩
end
abbrev Sp:=List V->Hp->VK->XK->Prop
abbrev CXT:=List Env->Hp->Shared->XK->Value->Shared->Prop
structure qrG(P:Program)(w:World)(K:W.Frag)(mg:Str->Option Value)(base:Heap)(A:Around)(outer:List Env)(s:Shared)(H:Hp):Prop where
 frames:A.frames=some outer
 mod:Mod K mg base
 bs: ∀b o,base.get? b=some o->s.heap.get? b=some o/\H b=none
 bsz:base.objs.size<=s.heap.objs.size
 funs:s.heap.FunFrames base outer
 frf: ∀b∈frs outer,H b=none
 hok:HOk P w H s.heap
 bare:AllBare s.gens
def CE(outer:List Env)(P:Program)(w:World)(H:Hp)(s:Shared)(Q:VK)(u:Value)(s':Shared):Prop:=
 ∃v H',s'.os=s.os/\AllBare s'.gens/\Un (frs outer) [] H H' s.heap s'.heap/\HOk P w H' s'.heap/\RelV v u/\Q v H'
def CR(CX:CXT)(outer:List Env)(P:Program)(w:World)(H:Hp)(s:Shared)(Q:VK)(E:XK)(r:Result)(s':Shared):Prop:=
 match r with
 |.ok (.ret u)=>CE outer P w H s Q u s'
 |.ok _=>False
 |.error e=>CX outer H s E e s'
structure qg7(P:Program)(w:World)(K:W.Frag)(mg:Str->Option Value)(base:Heap)(CX:CXT)(k:Nat)(f:Addr)(fd:FuncData)(ps:List Str)(sp:Sp):Prop where
 len: ∀vs H Q E,sp vs H Q E->vs.length=ps.length
 run: ∀(A:Around) (outer:List Env) (s:Shared) (H:Hp) (args:Args) (us:List Value) (vs:List V) (Q:VK) (E:XK),qb4 k A->qrG P w K mg base A outer s H->BindsTo s fd args (ps.zip us)->Vals vs us->sp vs H Q E->
  codeAny (model P w) A (.call (.ref f) args) (CR CX outer P w H s Q E) s
section
theorem Inv.env0(I:Inv X pins σ H s):qrG X.prog X.w X.K X.mg X.base X.A X.stack s H:=
 ⟨I.ok.frames,I.ok.mod,I.bs,Vr I.ok.bsz I.sz,I.stack,I.stkFree,I.hok,I.bare⟩
theorem Inv.after(I:Inv X pins σ H s)(h:CE X.stack X.prog X.w H s Q u s'):EP X pins σ Q u s':=by obtain⟨v,H',os,bare,un,hok,r,q⟩:=h;obtain⟨hh,g,d,t,gM⟩:=s';obtain rfl:gM=s.os:=os;exact⟨v,H',I.call (h':=hh) (g':=g) (d':=d) (t':=t) (ch:=[]) un hok bare (λb z=>absurd z (by simp)),r,q⟩
end
def qmN(sp:Sp)(cW:List V)(E:XK)(t:TA):TE:=λσ H Q=>t σ H λvs H1=>sp (vs++cW) H1 Q E
def qci(K:W.Frag)(fd:FuncData)(ps:List Str)(ds:List Value):Prop:=
 ∀(s:Shared) (us:List Value),K.In s.heap->(us++ds).length=ps.length->BindsTo s fd ⟨us,[]⟩ (ps.zip (us++ds))
theorem qci.all{K:W.Frag}{fd:FuncData}{ps:List Str}(h: ∀us:List Value,us.length=ps.length->bindArgs fd ⟨us,[]⟩=pure (ps.zip us)):qci K fd ps []:=λs us _ hl=>by rw[List.append_nil] at hl⊢;exact .of_eq (h us hl)
def qbC(CX:CXT)(X:Cx)(E:XK):Prop:= ∀(pins:List (Addr×Obj)) (σ:St) (H:Hp) (s:Shared) (e:Value) (s':Shared),Inv X pins σ H s->CX X.stack H s E e s'->X.xe e s'
section
theorem ql1(F:qg7 X.prog X.w X.K X.mg X.base CX k f fd ps sp)(hr:qb4 k X.A)(hb:qci X.K fd ps ds)(hd:Vals cW ds)(hx:qbC CX X E)(I:Inv X pins σ H s)(r:Vals vs us)(h:sp (vs++cW) H Q E):wpAny (model X.prog X.w) X.A (call (.ref f) us) (EP X pins σ Q) X.xe s:=by
 have r2:Vals (vs++cW) (us++ds):=r.append hd;have hl:(us++ds).length=ps.length:=by rw[<-r2.length];exact F.len _ _ _ _ h
 refine wpAny_call (codeAny_mono (F.run X.A X.stack s H ⟨us,[]⟩ (us++ds) (vs++cW) Q E hr I.env0 (hb s us I.kIn hl) r2 h) λr s' hq=> ?_);cases r with
 |error e=>exact hx pins σ H s e s' I hq
 |ok fl=>
  cases fl with
  |ret u=>exact I.after hq
  |next|brk|cont=>exact False.elim hq
theorem qno (F:qg7 X.prog X.w X.K X.mg X.base CX k f fd ps sp) (hr:qb4 k X.A) (hg:Gl X x) (hm:X.mg x=some (.ref f)) (hk:W.keepIn X.K (.ref f)=true) (hb:qci X.K fd ps ds) (hd:Vals cW ds) (hx:qbC CX X E) (ha:PA X (e::es) t) (aK:(x==("__debug__" :Str))=false:=by decide) (he:starEach (e::es) X.env=(false,eval e X.env)::starEach es X.env:=by rfl) (aU:(backTo pos (starEach es X.env)).any (·.1)=false:=by rfl):
  PE X (.Call (.Name x p) (e::es) [] pos) (qmN sp cW E t):=by intro pins s σ H Q I h;refine Ve (qeb I hg hm ?_ aK);refine W.callWith_K (h₀:=X.base) I.ok.mod.kin hk (thn (ha pos pins s σ H _ I h) λus s1 ⟨vs,H1,I1,r,q⟩=>⟨I1.kIn,?_⟩) he aU;exact ql1 F hr hb hd hx I1 r q
theorem qkV (F:qg7 X.prog X.w X.K X.mg X.base CX k f fd ps sp) (hr:qb4 k X.A) (hg:Gl X x) (hm:X.mg x=some (.ref f)) (hk:W.keepIn X.K (.ref f)=true) (hb:qci X.K fd ps ds) (hd:Vals cW ds) (hx:qbC CX X E) (aK:(x==("__debug__" :Str))=false:=by decide):PE X (.Call (.Name x p) [] [] pos) (qmN sp cW E qsb):=by intro pins s σ H Q I h;refine Ve (qeb I hg hm ?_ aK);exact W.callWith_K0 I.kIn hk (ql1 (us:=[]) F hr hb hd hx I .nil h)
structure Mk(K:W.Frag)(C f:Addr):Prop where
 makes:W.makesIn K C=true
 init:W.findIn K (.ref C) "__init__" =some (some (.ref f))
 fn:W.isFn K (.ref f)=true
 kp:W.keepIn K (.ref C)=true
end
section
structure qu1(K:W.Frag)(fd:FuncData)(ps ks:List Str)(g:List Value->List Value->List Value)(gV:List V->List V->List V):Prop where
 to: ∀(s:Shared) (us ws:List Value),K.In s.heap->(g us ws).length=ps.length->BindsTo s fd ⟨us,ks.zip ws⟩ (ps.zip (g us ws))
 rel: ∀{vs:List V} {us:List Value} {zs:List V} {ws:List Value},Vals vs us->Vals zs ws->Vals (gV vs zs) (g us ws)
end
structure qdc(N P:List Str)(sc:Scope):Prop where
 kind:sc.kind= .function
 co:sc.isCoroutine=false
 gen:sc.isGenerator=false
 nd:N.Nodup
 pre:N.take P.length=P
 par: ∀x∈P,sc.names.lookup x=some .local\/sc.names.lookup x=some .cell
 nofree: ∀y∈sc.names,y.2≠.free
theorem qfg{kindOf:Str->Option NameKind}{x:Str}: ∀{binds:List (Str×Value)} {m:Str->Option Value},(∀v,(x,v)∉binds)->bindL kindOf binds m x=m x
 |[],_,_=>rfl
 |(n,v)::r,m,h=>by
  unfold bindL;rw[qfg λw hw=>h w (List.mem_cons_of_mem _ hw)];split
  ·have:x≠n:=by rintro rfl;exact h v Vk
   simp[this]
  ·rfl
theorem qfi{kindOf:Str->Option NameKind}{x:Str}: ∀{binds:List (Str×Value)} {m:Str->Option Value},(∀v,(x,v)∉binds)->bindC kindOf binds m x=m x
 |[],_,_=>rfl
 |(n,v)::r,m,h=>by
  unfold bindC;rw[qfi λw hw=>h w (List.mem_cons_of_mem _ hw)];split
  ·rfl
  ·have:x≠n:=by rintro rfl;exact h v Vk
   simp[this]
theorem qfh {kindOf:Str->Option NameKind} {x:Str} {v:Value}: ∀{P:List Str} {vs:List Value} {i:Nat} {m:Str->Option Value},P.Nodup->P[i]? =some x->vs[i]? =some v->kindOf x=some .local->
  bindL kindOf (P.zip vs) m x=some v
 |[],_,_,_,_,h,_,_=>by simp at h
 |_::_,[],_,_,_,_,h,_=>by simp at h
 |p::P,w::vs,0,m,nd,h1,h2,hk=>by simp at h1 h2;subst h1;subst h2;show bindL kindOf ((p,w)::P.zip vs) m p=_;unfold bindL;rw[qfg λv hv=>(List.nodup_cons.mp nd).1 (List.of_mem_zip hv).1,if_pos hk];simp
 |p::P,w::vs,i+1,m,nd,h1,h2,hk=>by show bindL kindOf ((p,w)::P.zip vs) m x=_;unfold bindL;exact qfh (i:=i) (List.nodup_cons.mp nd).2 (by simpa using h1) (by simpa using h2) hk
theorem qfj {kindOf:Str->Option NameKind} {x:Str} {v:Value}: ∀{P:List Str} {vs:List Value} {i:Nat} {m:Str->Option Value},P.Nodup->P[i]? =some x->vs[i]? =some v->kindOf x≠some .local->
  bindC kindOf (P.zip vs) m x=some v
 |[],_,_,_,_,h,_,_=>by simp at h
 |_::_,[],_,_,_,_,h,_=>by simp at h
 |p::P,w::vs,0,m,nd,h1,h2,hk=>by simp at h1 h2;subst h1;subst h2;show bindC kindOf ((p,w)::P.zip vs) m p=_;unfold bindC;rw[qfi λv hv=>(List.nodup_cons.mp nd).1 (List.of_mem_zip hv).1,if_neg hk];simp
 |p::P,w::vs,i+1,m,nd,h1,h2,hk=>by show bindC kindOf ((p,w)::P.zip vs) m x=_;unfold bindC;exact qfj (i:=i) (List.nodup_cons.mp nd).2 (by simpa using h1) (by simpa using h2) hk
def start(N:List Str)(vs:List V):St:=vs.map some++List.replicate (N.length - vs.length) none
def qgR(CX:CXT)(P:Program)(w:World)(K:W.Frag)(mg:Str->Option Value)(base:Heap)(N:List Str)(qual:Str)(scope:Scope)(f:Addr)(cd:Value)(A:Around)(outer:List Env)(s:Shared)(H:Hp)(E:XK):Cx where
 prog:=P
 w:=w
 K:=K
 mg:=mg
 base:=base
 A:=A.deeper (envOfC qual scope s.heap.objs.size f cd)
 N:=N
 s₀:=s
 H₀:=H
 env:=envOfC qual scope s.heap.objs.size f cd
 outer:=outer
 stack:=envOfC qual scope s.heap.objs.size f cd::outer
 ex:=[]
 calm:=true
 fn:=λ_=>true
 pn:=[]
 xe:=λe s'=>wpAny (model P w) (A.deeper (envOfC qual scope s.heap.objs.size f cd)) (leaving (envOfC qual scope s.heap.objs.size f cd) e) (λ_ s''=>CX outer H s E e s'') (λe' s''=>CX outer H s E e' s'') s'
theorem qgW{sc:Scope}{n:Nat}(h:sc.names.lookup x=some .cell): ∃c,(cellsFrom n sc.names []).lookup x=some c:=by have q:=W.cellsFrom_some sc.names n [] (.inl h);exact Option.isSome_iff_exists.mp q
theorem qi3 {CX:CXT} {P:Program} {w:World} {K:W.Frag} {mg:Str->Option Value} {base:Heap} {N ps:List Str} {qual:Str} {scope:Scope} {f:Addr} {cd:Value} {A:Around} {outer:List Env} {s s1:Shared} {H:Hp} {E:XK} {us:List Value} {vs:List V} (S:qdc N ps scope) (hd:A.handled=none) (e0:qrG P w K mg base A outer s H) (hl:vs.length=ps.length) (r:Vals vs us) (x:InCallC s s.heap.objs.size (bindL (envOfC qual scope s.heap.objs.size f cd).kindOf (ps.zip us) λ_=>none) (cellsFrom (s.heap.objs.size+1) scope.names []) (bindC (envOfC qual scope s.heap.objs.size f cd).kindOf (ps.zip us) λ_=>none) s1):
  Inv (qgR CX P w K mg base N qual scope f cd A outer s H E) [] (start N vs) H s1:=by
 have aU:ps.length<=N.length:=by have:=congrArg List.length S.pre;rw[List.length_take] at this;omega
 obtain⟨h1,tk,rfl,hk⟩:=x.done;have eT: ∀b:Addr,b∉(qgR CX P w K mg base N qual scope f cd A outer s H E).ex:=λb z=>absurd (show b∈([]:List Addr) from z) (by simp)
 refine⟨⟨e0.mod,S.kind,rfl,rfl,Vm _,λy z c h1 h2=> ?_,λy hy=> ?_,λy c _ h=> ?_,λ_=>hd,Around.frames_deeper e0.frames,.inr ⟨rfl,rfl⟩,λb z=>absurd z (eT b),e0.bs,e0.bsz,λb _ _=>eT b,λb z=>absurd z (eT b),e0.funs,e0.frf⟩,
  rfl,e0.bare,Un.kept hk,⟨_,x.toInCall.ns,λi y v h1 h2 h3=> ?_⟩,λy c h=>⟨_,x.cell y c h⟩,e0.hok.fresh (Vm _),λy c h=> ?_,λp hp=>absurd (show p∈([]:List (Addr×Obj)) from hp) (by simp),e0.hok.kept hk,?_⟩
 ·exact name_of_addr x.apart (Vw h1) (Vw h2)
 ·have hy:scope.names.lookup y=some .cell\/scope.names.lookup y=some .free:=hy
  rcases hy with hy|hy
  ·exact qgW hy
  ·exact absurd rfl (S.nofree _ (Vw hy))
 ·exact Vq (x.above y c (Vw h))
 ·have hi:i<vs.length:=by
   unfold start at h2;by_cases hi:i<vs.length
   ·exact hi
   ·rw[List.getElem?_append_right (by simpa using hi)] at h2;rw[List.getElem?_replicate] at h2;split at h2<;>cases h2
  have ha:vs[i]? =some v:=by
   unfold start at h2;rw[List.getElem?_append_left (by simpa using hi),List.getElem?_map] at h2;cases e:vs[i]? with
   |none=>rw[e] at h2;cases h2
   |some a=>rw[e] at h2;cases h2;rfl
  obtain⟨u,hu,rv⟩:=r.get ha;have hp:ps[i]? =some y:=by rw[<-S.pre,List.getElem?_take_of_lt (by omega)];exact h1
  have i7:ps.Nodup:=by rw[<-S.pre];exact S.nd.sublist (List.take_sublist _ _)
  refine⟨u,rv,?_⟩
  rcases S.par y (Vv hp) with k|k
  ·exact .inl ⟨k,qfh i7 hp hu k⟩
  ·obtain⟨c,e⟩:=qgW (n:=s.heap.objs.size+1) k;refine .inr ⟨.inl k,c,e,?_⟩;have q:=x.cell y c e;rw[qfj i7 hp hu (by show scope.names.lookup y≠_;rw[k];decide)] at q;exact q
 ·exact e0.hok.fresh (Vq (x.above y c (Vw h)))
 ·unfold start;show _=N.length;rw[List.length_append,List.length_map,List.length_replicate];omega
theorem qtB {CX:CXT} {P:Program} {w:World} {K:W.Frag} {mg:Str->Option Value} {base:Heap} {k:Nat} {f:Addr} {name qual:Str} {params:Arguments} {body:List Stmt} {scope:Scope} {dV kV doc pm cdv ct oc:Value} {an od:Option Addr} {osl:Array (Option Value)} {N ps:List Str} {sp:Sp} (lk:K.lookup f=some ⟨oc,od,.func (W.fnOf name qual params body scope dV kV doc pm an cdv ct),osl⟩) (bH:W.codeIn K cdv qual=true) (S:qdc N ps scope) (len: ∀vs H Q E,sp vs H Q E->vs.length=ps.length) (bz: ∀(A:Around) (outer:List Env) (s:Shared) (H:Hp) (vs:List V) (Q:VK) (E:XK),qb4 k (A.deeper (envOfC qual scope s.heap.objs.size f cdv))->sp vs H Q E->
   ∃t,PSs (qgR CX P w K mg base N qual scope f cdv A outer s H E) body t/\t { nx:=λ_ H'=>Q .non H',rt:=Q } (start N vs) H):
  qg7 P w K mg base CX (k+1) f (W.fnOf name qual params body scope dV kV doc pm an cdv ct) ps sp:=by
 refine⟨len,λA outer s H args us vs Q E hr e0 hb r eg=> ?_⟩;have hl:=len _ _ _ _ eg;have KX:K.In s.heap:=e0.mod.kin.keeps λb o e=>(e0.bs b o e).1;have lim:s.heap.NoLimit:=e0.mod.nolimit.keeps λb o e=>(e0.bs b o e).1;have fA: ∀y∈ps.zip us,scope.names.lookup y.1=some .local\/(scope.names.lookup y.1=some .cell/\((cellsFrom (s.heap.objs.size+1) scope.names []).lookup y.1).isSome=true):=λ⟨n,v⟩ hy=>by
  rcases S.par n (List.of_mem_zip hy).1 with q|q
  ·exact .inl q
  ·exact .inr ⟨q,W.cellsFrom_some _ _ _ (.inl q)⟩
 refine codeAny_call_function hr.depth (KX _ _ lk) rfl S.co S.gen rfl (W.codeRec_of KX bH) (hb _ _ _ _ ?_);refine wpAny_newFunctionEnv_cells S.kind fA λenv he s1 x=> ?_;subst he;refine⟨lim.keeps x.toInCall.keep,codeAny_func ?_⟩;obtain⟨t,ht,hq⟩:=bz A outer s H vs Q E (hr.deeper _) eg;have I:Inv (qgR CX P w K mg base N qual scope f cdv A outer s H E) [] (start N vs) H s1:=qi3 S hr.hd e0 hl r x;refine Vc (ht [] s1 (start N vs) H _ I hq) (λfl s' hs=> ?_) λe s' hs=>hs
 have fin: ∀{aj:St} {H':Hp} {v:V} {u:Value},Inv (qgR CX P w K mg base N qual scope f cdv A outer s H E) [] aj H' s'->RelV v u->Q v H'->CE outer P w H s Q u s':=
  λ{aj H' v u} J rv q=>⟨v,H',J.os,J.bare,J.base,J.hok,rv,q⟩
 cases fl with
 |ret u=>obtain⟨v,aj,H',J,rv,q⟩:=hs;exact fin J rv q
 |next=>obtain⟨aj,H',J,q⟩:=hs;exact fin (v:=V.non) (u:=Value.none) J rfl q
 |brk|cont=>obtain⟨_,_,_,q⟩:=hs;exact False.elim q
section
def tCB(r:List V->Hp->VK->Prop)(t:TA):TE:=λσ H Q=>t σ H λvs H1=>r vs H1 Q
theorem qaK {X:Cx} {x:Str} {p:Pos} {pos:Pos} {e:Expr} {es:List Expr} {t:TA} {id:String} {r:List V->Hp->VK->Prop} (hc:qas X (.builtin id) r) (hg:Gl X x) (hm:X.mg x=none) (hv:bootBuiltins x=some (.builtin id)) (ha:PA X (e::es) t) (hn:x≠ "__name__" :=by decide) (aK:(x==("__debug__" :Str))=false:=by decide) (he:starEach (e::es) X.env=(false,eval e X.env)::starEach es X.env:=by rfl) (aU:(backTo pos (starEach es X.env)).any (·.1)=false:=by rfl):PE X (.Call (.Name x p) (e::es) [] pos) (tCB r t):=by intro pins s σ H Q I h;refine Ve (qb2 I hg hm hv ?_ hn aK);exact PyProof.Rows.callWith_builtin1 (thn (ha pos pins s σ H _ I h) λus s1 ⟨vs,H1,I1,r1,q1⟩=>hc pins s1 σ H1 vs us Q I1 r1 q1) he aU
theorem qeL (hc:qas X (.type T) r) (hg:Gl X x) (hm:X.mg x=none) (hv:bootBuiltins x=some (.type T)) (ha:PA X (e::es) t) (hn:x≠ "__name__" :=by decide) (aK:(x==("__debug__" :Str))=false:=by decide) (he:starEach (e::es) X.env=(false,eval e X.env)::starEach es X.env:=by rfl) (aU:(backTo pos (starEach es X.env)).any (·.1)=false:=by rfl):PE X (.Call (.Name x p) (e::es) [] pos) (tCB r t):=by intro pins s σ H Q I h;refine Ve (qb2 I hg hm hv ?_ hn aK);exact PyProof.Rows.callWith_type1 (thn (ha pos pins s σ H _ I h) λus s1 ⟨vs,H1,I1,r1,q1⟩=>hc pins s1 σ H1 vs us Q I1 r1 q1) he aU
end
end L2
namespace HT
open PySem PyProof.Rows
section
theorem cat_tup (ht:IsTup s.heap t vs.toArray) (hb:IsTup s.heap b ws.toArray) (hv:vs≠[]) (h1:ws=[]->Q (.ref t) s) (h2:ws≠[]->Q (.ref s.heap.objs.size) { s with heap:=s.heap.push { cls:=.type "tuple",data:=.seq (vs++ws).toArray } }) (hsz:vs.length+ws.length<=sizeLine):wpAny (model prog w) A (binaryOp .Add (.ref t) (.ref b)) Q E s:=by
 obtain⟨⟨cls,dd,data,sl⟩,ho,hc,n,hd⟩:=id ht;obtain⟨⟨iT,gA,data2,fP⟩,bQ,bM,n2,hd2⟩:=id hb;simp only at hc hd bM hd2;subst hc hd bM hd2;have e:vs.toArray++ws.toArray=(vs++ws).toArray:=by simp
 by_cases hw:ws=[]
 ·exact concat_meets ⟨_,ho,rfl⟩ ⟨_,bQ,rfl⟩ noFill_tuple_add seq_tuple_add F.slot_tuple_add F.entry_tuple_add (F.args_tuple_add_2 _ _)
   (tuple_addW1 t b vs.toArray ws.toArray n n2 dd gA sl fP (by simpa using hv) (by simp[hw])) ⟨ho,bQ,h1 hw⟩
 ·refine concat_meets ⟨_,ho,rfl⟩ ⟨_,bQ,rfl⟩ noFill_tuple_add seq_tuple_add F.slot_tuple_add F.entry_tuple_add (F.args_tuple_add_2 _ _)
   (tuple_addW2 t b vs.toArray ws.toArray n n2 dd gA sl fP (by simpa using hv) (by simpa using hw) (by rw[List.size_toArray,List.size_toArray];exact hsz)) ⟨ho,bQ,?_⟩
  rw[e];exact h2 hw
def sIx(n d:Nat):Option Int->Nat
 |none=>d
 |some v=>if v<0 then(v+(n:Int)).toNat else min v.toNat n
theorem sIx_none(n d:Nat):sIx n d none=d:=rfl
theorem sIx_nat(n d k:Nat):sIx n d (some (k:Int))=min k n:=by show(if(k:Int)<0 then((k:Int)+(n:Int)).toNat else min (k:Int).toNat n)=min k n;rw[if_neg (by omega),Int.toNat_natCast]
theorem qpf(n d:Nat)(hd:d<=n)(o:Option Int):sIx n d o<=n:=by
 cases o with
 |none=>exact hd
 |some v=>
  show(if v<0 then(v+(n:Int)).toNat else min v.toNat n)<=n;by_cases hv:v<0
  ·rw[if_pos hv];omega
  ·rw[if_neg hv];exact Nat.min_le_right _ _
theorem qjF(v:Int)(n d:Nat):(if v<0 then max (v+(n:Int)) 0 else min v (n:Int))=((sIx n d (some v):Nat):Int):=by
 show(if v<0 then max (v+(n:Int)) 0 else min v (n:Int))=(((if v<0 then(v+(n:Int)).toNat else min v.toNat n):Nat):Int)
 by_cases hv:v<0
 ·simp only[if_pos hv];omega
 ·simp only[if_neg hv];omega
theorem qhW(lo hi:Option Int)(n:Nat):Builtin.Slice.sliceAdjust lo hi 1 (n:Int)=(((sIx n 0 lo:Nat):Int),((sIx n n hi:Nat):Int)):=by
 have h1: ¬((1:Int)<0):=by omega
 unfold Builtin.Slice.sliceAdjust;simp only[h1,if_false];refine Prod.ext ?_ ?_
 ·cases lo with
  |none=>rfl
  |some v=>exact qjF v n 0
 ·cases hi with
  |none=>rfl
  |some v=>exact qjF v n n
theorem qhp(i j:Nat):Builtin.Slice.slicePlaces (i:Int) (j:Int) 1=j - i:=by
 unfold Builtin.Slice.slicePlaces;have h1:(1:Int)>0:=by omega
 simp only[h1,if_true,Int.ediv_one]
 split<;>omega
theorem qdp(p:IsPart v o)(h:Q o s):wpAny (model prog w) A (Builtin.Slice.slicePartIndex v) Q E s:=by
 cases p with
 |none=>exact slicePart_none h
 |int i t=>exact slicePart_int h
theorem qbd{prog:Program}{w:World}{A:Around}{E:Value->Shared->Prop}{s:Shared}{sl:Addr}{vl vu:Value}{lo hi:Option Int}{n:Nat}{Q:Int×Int×Nat->Shared->Prop}(hs:s.heap.IsSliceOf sl vl vu .none)(pl:IsPart vl lo)(pu:IsPart vu hi)(h:Q (((sIx n 0 lo:Nat):Int),1,sIx n n hi - sIx n 0 lo) s):wpAny (model prog w) A (Builtin.Slice.sliceApplied (.ref sl) (pure (n:Int))) Q E s:=by obtain⟨os,dJ,gk,fE⟩:=id hs;unfold Builtin.Slice.sliceApplied Builtin.Slice.sliceFields;refine Va (Va (wpAny_field dJ fE (x:=vl) rfl (Va (wpAny_field dJ fE (x:=vu) rfl (Va (wpAny_field dJ fE (x:=.none) rfl (Vb ?_)))))));refine Va (slicePart_none ?_);show wpAny _ _ (if((1:Int)==0)=true then _ else _) _ _ s;rw[if_neg (by decide)];refine Va (qdp pl (Va (qdp pu (Va (Vb ?_)))));show wpAny _ _ (match Builtin.Slice.sliceAdjust lo hi 1 (n:Int) with|(lo,hi)=>pure (lo,(1:Int),Builtin.Slice.slicePlaces lo hi 1)) _ _ s;rw[qhW lo hi n];show wpAny _ _ (pure (((sIx n 0 lo:Nat):Int),(1:Int),Builtin.Slice.slicePlaces ((sIx n 0 lo:Nat):Int) ((sIx n n hi:Nat):Int) 1)) _ _ s;rw[qhp];exact Vb h
theorem qkP(xs:Array Value)(i k:Nat):((List.range k).filterMap λ(m:Nat)=>xs[((i:Int)+(m:Int)*1).toNat]?).toArray=((xs.toList.drop i).take k).toArray:=by
 have e:(λ(m:Nat)=>xs[((i:Int)+(m:Int)*1).toNat]?)=λm=>xs[i+m]? :=by
  funext m
  have:((i:Int)+(m:Int)*1).toNat=i+m:=by omega
  rw[this]
 rw[e];have:=pick_run xs i k;rw[List.filterMap_map] at this;have e2:((λx=>xs[x]?)∘λx=>i+x)=λm=>xs[i+m]? :=rfl;rw[e2] at this;rw[this]
theorem getItem_tuple_cut {prog:Program} {w:World} {A:Around} {E:Value->Shared->Prop} {s:Shared} {t sl:Addr} {items:Array Value} {vl vu:Value} {lo hi:Option Int} {Q:Value->Shared->Prop} (ht:IsTup s.heap t items) (hs:s.heap.IsSliceOf sl vl vu .none) (pl:IsPart vl lo) (pu:IsPart vu hi) (hw: ¬(sIx items.size 0 lo=0/\sIx items.size items.size hi=items.size)) (h:Q (.ref s.heap.objs.size) { s with heap:=s.heap.push { cls:=.type "tuple",data:=.seq ((items.toList.drop (sIx items.size 0 lo)).take (sIx items.size items.size hi - sIx items.size 0 lo)).toArray } }) (hsz:items.size<=sizeLine):wpAny (model prog w) A (getItem (.ref t) (.ref sl)) Q E s:=by
 have bK:sizeOk (.seq ((items.toList.drop (sIx items.size 0 lo)).take (sIx items.size items.size hi - sIx items.size 0 lo)).toArray):=by show((items.toList.drop (sIx items.size 0 lo)).take (sIx items.size items.size hi - sIx items.size 0 lo)).toArray.size<=sizeLine;rw[List.size_toArray,List.length_take,List.length_drop,Array.length_toList];omega
 have hj:sIx items.size items.size hi<=items.size:=qpf _ _ (Vm _) hi;obtain⟨os,dJ,gk,fE⟩:=id hs;have iH:s.TypeIs (.ref sl) "slice" :=⟨os,dJ,gk⟩
 unfold getItem
 try with_reducible refine wpAny_holding ?_
 first|refine Va (Vb ?_)|skip
 refine Va (wpAny_sequenceKey ht.typeIs (by decide) ?_)
 refine Va (wpAny_callSpecial?_slot (name:=Str.ofString "__getitem__") ht.typeIs PyProof.Rows.slot_tuple_getitem
  (wpAny_call_entry PyProof.Rows.slot_tuple_getitem ht.typeIs entry_tuple_getitem ?_ (args_tuple_getitem _ _)))
 show wpAny _ _ (Builtin.Tuple.tupleItemsOf (.ref t)>>=_) _ _ s;refine Va (tupleItemsOf_ ht ?_);refine Va (wpAny_typeOf iH ?_);rw[if_pos (by decide)];refine Va (qbd hs pl pu ?_);have hno: ¬((((sIx items.size 0 lo:Nat):Int)==0&&(1:Int)==1&&(sIx items.size items.size hi - sIx items.size 0 lo)==items.size)=true):=by intro q;rw[Bool.and_eq_true,Bool.and_eq_true] at q;have q1:((sIx items.size 0 lo:Nat):Int)=0:=eq_of_beq q.1.1;have q2:sIx items.size items.size hi - sIx items.size 0 lo=items.size:=eq_of_beq q.2;exact hw ⟨by omega,by omega⟩
 show wpAny _ _ (if(((sIx items.size 0 lo:Nat):Int)==0&&(1:Int)==1&&(sIx items.size items.size hi - sIx items.size 0 lo)==items.size)=true then _ else _) _ _ s;rw[if_neg hno,qkP]
 first
  |exact Va (m:=Builtin.Tuple.tupleExact _) (wpAny_newObj_type (Vb ⟨_,rfl,Vb h⟩) bK)
  |exact Va (m:=Builtin.Tuple.tupleExact _) (wpAny_newObj_type (Va (Vb (Vb ⟨_,rfl,Vb h⟩))) bK)
  |exact Va (Va (m:=Builtin.Tuple.tupleExact _) (wpAny_newObj_type (Vb (Vb ⟨_,rfl,Vb h⟩)) bK))
  |exact Va (Va (m:=Builtin.Tuple.tupleExact _) (wpAny_newObj_type (Vb ⟨_,rfl,Vb h⟩) bK))
end
end HT
namespace L2
open PySem PySem.Spec PyProof.Rows
abbrev TO:=St->Hp->(Option Int->Hp->Prop)->Prop
def PO(X:Cx)(e:Option Expr)(t:TO):Prop:=
 ∀(pins:List (Addr×Obj)) (s:Shared) (σ:St) (H:Hp) (Q:Option Int->Hp->Prop),Inv X pins σ H s->t σ H Q->
  wpAny (model X.prog X.w) X.A (evalPart e X.env) (λu s'=> ∃o H',Inv X pins σ H' s'/\IsPart u o/\Q o H') X.xe s
def qmM:TO:=λ_ H Q=>Q none H
def qr8(t:TE):TO:=λσ H Q=>t σ H λx H1=> ∃i,x= .int i/\Q (some i) H1
section
theorem qng:PO X none qmM:=by intro pins s σ H Q I h;rw[evalPart_none];exact Vb ⟨none,H,I,.none,h⟩
theorem qnf(h:PE X e te):PO X (some e) (qr8 te):=by intro pins s σ H Q I hw;rw[evalPart_some];refine thn (h pins s σ H _ I hw) λu s1 ⟨x,H1,I1,r1,q1⟩=> ?_;obtain⟨i,rfl,q⟩:=q1;obtain⟨t,rfl⟩:=r1;exact⟨some i,H1,I1,.int i t,q⟩
def SlR(X:Cx)(r:V->Option Int->Option Int->Hp->VK->Prop):Prop:=
 ∀(pins:List (Addr×Obj)) (s:Shared) (σ:St) (H:Hp) (x:V) (v vl vu:Value) (lo hi:Option Int) (sl:Addr) (Q:VK),Inv X pins σ H s->RelV x v->s.heap.IsSliceOf sl vl vu .none->IsPart vl lo->IsPart vu hi->r x lo hi H Q->
  ∃T id,typeLookup (.type T) "__getitem__" =pure (some (.builtin id))/\s.TypeIs v T/\wpAny (model X.prog X.w) X.A (getItem v (.ref sl)) (EP X pins σ Q) X.xe s
theorem SlR.or(h:SlR X r)(h':SlR X r'):SlR X (λx lo hi H Q=>r x lo hi H Q\/r' x lo hi H Q):=by
 intro pins s σ H x v vl vu lo hi sl Q I rx hs pl pu q
 rcases q with q|q
 ·exact h pins s σ H x v vl vu lo hi sl Q I rx hs pl pu q
 ·exact h' pins s σ H x v vl vu lo hi sl Q I rx hs pl pu q
def tSl(r:V->Option Int->Option Int->Hp->VK->Prop)(te:TE)(tl th:TO):TE:=λσ H Q=>te σ H λx H1=>tl σ H1 λl H2=>th σ H2 λu H3=>r x l u H3 Q
theorem qkR{X:Cx}{e:Expr}{te:TE}{lo:Option Expr}{hi:Option Expr}{tl:TO}{th:TO}{pos:Pos}{p2:Pos}{r:V->Option Int->Option Int->Hp->VK->Prop}(hr:SlR X r)(he:PE X e te)(hl:PO X lo tl)(hu:PO X hi th):PE X (.Subscript e (.Slice lo hi none p2) pos) (tSl r te tl th):=by intro pins s σ H Q I h;refine Subscript_ (thn (he pins s σ H _ I h) λv s1 ⟨x,H1,I1,r1,q1⟩=> ?_);refine wpAny_Slice (thn (hl pins s1 σ H1 _ I1 q1) λvl s2 ⟨l,H2,I2,pl,q2⟩=>thn (hu pins s2 σ H2 _ I2 q2) λvu s3 ⟨u,H3,I3,pu,q3⟩=> ?_);rw[evalPart_none];refine Vb ?_;have I4:Inv X pins σ H3 { s3 with heap:=s3.heap.push { cls:=.type "slice",data:=.fields #[vl,vu,.none] } }:=I3.kept (t':=s3.toks) λb ob q=>Vg _ q;obtain⟨T,id,hT,ht,hg⟩:=hr pins { s3 with heap:=s3.heap.push { cls:=.type "slice",data:=.fields #[vl,vu,.none] } } σ H3 x v vl vu l u s3.heap.objs.size Q I4 r1 (Heap.IsSliceOf.new ..) pl pu q3;show wpAny (model X.prog X.w) X.A (subscriptTail e (.Slice lo hi none p2) v (.ref s3.heap.objs.size)) (EP X pins σ Q) X.xe { s3 with heap:=s3.heap.push { cls:=.type "slice",data:=.fields #[vl,vu,.none] } };exact tail_any (ops:=[.ref s3.heap.objs.size,v]) ht hT hg (by with_unfolding_all rfl)
def qmt(xs:List V)(lo hi:Option Int):List V:=(xs.drop (HT.sIx xs.length 0 lo)).take (HT.sIx xs.length xs.length hi - HT.sIx xs.length 0 lo)
theorem qc3(xs:List V)(lo hi:Option Int):(qmt xs lo hi).length<=xs.length:=by unfold qmt;rw[List.length_take,List.length_drop];omega
def qvn(K:W.Frag):V->Option Int->Option Int->Hp->VK->Prop:=λx lo hi H Q=> ∃a xs,x= .ref a/\SqT K H a xs/\
 ¬(HT.sIx xs.length 0 lo=0/\HT.sIx xs.length xs.length hi=xs.length)/\∀p,H p=none->Q (.ref p) (upd H p (.tup (qmt xs lo hi)))
theorem qpc:SlR X (qvn X.K):=by
 intro pins s σ H x v vl vu lo hi sl Q I rx hs pl pu h;obtain⟨a,xs,rfl,hx,hw,q⟩:=h;cases rx;obtain⟨its,r,ht,hz⟩:=I.tuple hx;have hlen:its.toArray.size=xs.length:=by rw[List.size_toArray];exact r.length.symm
 refine⟨"tuple",_,PyProof.Rows.slot_tuple_getitem.lookup,ht.typeIs,?_⟩;refine HT.getItem_tuple_cut ht hs pl pu (by rw[hlen];exact hw) ?_ (by rw[hlen];exact hz);rw[hlen];refine⟨.ref s.heap.objs.size,_,I.laid (t':=s.toks) (o:=.tup (qmt xs lo hi)) (λb ob q=>Vg _ q) (Vm _) ?_,rfl,q _ (I.hok.fresh (Vm _))⟩;exact⟨Vr (qc3 xs lo hi) hz,_,(r.drop (HT.sIx xs.length 0 lo)).take (HT.sIx xs.length xs.length hi - HT.sIx xs.length 0 lo),IsTup.new _ _⟩
def qpn(K:W.Frag):R2:=λx y H Q=> ∃a b xs ys,x= .ref a/\y= .ref b/\SqT K H a xs/\SqT K H b ys/\xs≠[]/\xs.length+ys.length<=sizeLine/\
 (ys=[]->Q (.ref a) H)/\(ys≠[]->∀p,H p=none->Q (.ref p) (upd H p (.tup (xs++ys))))
theorem Vals.nil_iff(r:Vals xs us):us=[]↔xs=[]:=by
 cases r with
 |nil|cons _ _=>simp
theorem qnA:OpR X (binaryOp .Add) (qpn X.K):=by intro pins s σ H x y v u Q I rx ry h;obtain⟨a,b,xs,ys,rfl,rfl,ha,hb,hx,hz,q1,q2⟩:=h;cases rx;cases ry;obtain⟨its,r1,p1,_⟩:=I.tuple ha;obtain⟨aM,r2,p2,_⟩:=I.tuple hb;refine HT.cat_tup p1 p2 (λz=>hx (r1.nil_iff.mp z)) (λz=>⟨.ref a,H,I,rfl,q1 (r2.nil_iff.mp z)⟩) (λz=> ?_) (by rw[<-r1.length,<-r2.length];exact hz);refine⟨.ref s.heap.objs.size,_,I.laid (t':=s.toks) (o:=.tup (xs++ys)) (λb ob q=>Vg _ q) (Vm _) ?_,rfl,q2 (λw=>z (r2.nil_iff.mpr w)) _ (I.hok.fresh (Vm _))⟩;exact⟨by rw[List.length_append];exact hz,_,r1.append r2,IsTup.new _ _⟩
end
def ixN(n:Nat)(i:Int):Option Nat:=if 0<=i then(if i<n then some i.toNat else none) else if -(n:Int)<=i then some (i+n).toNat else none
def atI{α:Type}(xs:List α)(i:Int):Option α:=(ixN xs.length i).bind λj=>xs[j]?
theorem qiZ(h:ixN n i=some j):seqIndex? i n=some j/\j<n/\ -(n:Int)<=i/\i<n:=by
 unfold ixN at h;by_cases h0:0<=i
 ·rw[if_pos h0] at h;by_cases h1:i<n
  ·rw[if_pos h1] at h;have e:i.toNat=j:=Option.some.inj h;exact⟨by rw[seqIndex_of h0 h1,e],by omega,by omega,h1⟩
  ·rw[if_neg h1] at h;cases h
 ·rw[if_neg h0] at h;by_cases h1: -(n:Int)<=i
  ·rw[if_pos h1] at h;have e:(i+n).toNat=j:=Option.some.inj h;exact⟨by rw[seqIndex_neg (by omega) h1,e],by omega,h1,by omega⟩
  ·rw[if_neg h1] at h;cases h
theorem qf9(h:atI xs i=some v): ∃j,seqIndex? i xs.length=some j/\xs[j]? =some v/\j<xs.length/\ -(xs.length:Int)<=i/\i<xs.length:=by
 unfold atI at h;cases e:ixN xs.length i with
 |none=>rw[e] at h;cases h
 |some j=>rw[e] at h;obtain⟨h1,h2,h3,h4⟩:=qiZ e;exact⟨j,h1,h,h2,h3,h4⟩
def qj7(b:Expr):Prop:= ∀o i,subscripted b false o i=operate [o,i] (getItem o i)
def IxR(X:Cx)(r:R2):Prop:=
 ∀(value slice:Expr) (pins:List (Addr×Obj)) (s:Shared) (σ:St) (H:Hp) (x y:V) (v u:Value) (Q:VK),Inv X pins σ H s->RelV x v->RelV y u->r x y H Q->
  subscripted slice false v u=operate [v,u] (getItem v u)->wpAny (model X.prog X.w) X.A (subscriptTail value slice v u) (EP X pins σ Q) X.xe s
def MtR(X:Cx)(id:String)(r:V->List V->Hp->VK->Prop):Prop:=
 ∀(pins:List (Addr×Obj)) (s:Shared) (σ:St) (H:Hp) (x:V) (xs:List V) (v:Value) (us:List Value) (Q:VK),Inv X pins σ H s->RelV x v->Vals xs us->r x xs H Q->
  wpAny (model X.prog X.w) X.A (call (.builtin id) (v::us)) (EP X pins σ Q) X.xe s
section
variable {X:Cx}{a b:Expr}{ta tb:TE}{pos:Pos}
theorem IxR.or(h:IxR X r)(h':IxR X r'):IxR X (λx y H Q=>r x y H Q\/r' x y H Q):=by
 intro value slice pins s σ H x y v u Q I rx ry q hs
 rcases q with q|q
 ·exact h value slice pins s σ H x y v u Q I rx ry q hs
 ·exact h' value slice pins s σ H x y v u Q I rx ry q hs
theorem qsI(hr:IxR X r)(ha:PE X a ta)(hb:PE X b tb)(hs:qj7 b):PE X (.Subscript a b pos) (tOp r ta tb):=by intro pins s σ H Q I h;exact Subscript_ (qt2 ha hb I h λv u s2 x y H2 I2 rx ry q=>hr a b pins s2 σ H2 x y v u Q I2 rx ry q (hs _ _))
def quu(K:W.Frag):R2:=λx y H Q=> ∃p xs i v,x= .ref p/\y= .int i/\SqL K H p xs/\atI xs i=some v/\Q v H
def qus(K:W.Frag):R2:=λx y H Q=> ∃p xs i v,x= .ref p/\y= .int i/\SqT K H p xs/\atI xs i=some v/\Q v H
def qut:R2:=λx y H Q=> ∃z i c,x= .str z/\y= .int i/\z.length<=sizeLine/\atI z.cps.toList i=some c/\Q (.str ⟨#[c]⟩) H
theorem qnX:IxR X (quu X.K):=by
 intro value slice pins s σ H x y v u Q I rx ry h hs;obtain⟨p,xs,i,z,rfl,rfl,hq,he,q⟩:=h;cases rx;obtain⟨t,rfl⟩:=ry;obtain⟨its,r,pl,hz⟩:=I.list hq;obtain⟨j,h1,h2,h3,h4,h5⟩:=qf9 he;obtain⟨w,ew,aF⟩:=r.get h2;have hl:=r.length;have hn:=qcW;have fin:EP X pins σ Q w s:=⟨z,H,I,aF,q⟩
 by_cases h0:0<=i
 ·have hj:i.toNat=j:=by rw[seqIndex_of h0 h5] at h1;exact Option.some.inj h1
  exact item_listR pl.isList h0 (by omega) (by rw[hj];simpa using ew) fin hs
 ·have hj:(i+(its.toArray.size:Int)).toNat=j:=by rw[seqIndex_neg (by omega) h4] at h1;rw[List.size_toArray,<-hl];exact Option.some.inj h1
  exact subscriptTail_builtinR (x:=w) pl.isList.typeIs slot_list_getitem.lookup
   (wpAny_getItem_list_neg (Q:=λr s'=>r=w/\EP X pins σ Q r s') pl.isList (by omega) (by rw[List.size_toArray]<;>omega) (by omega) (by rw[hj];simpa using ew) ⟨rfl,fin⟩) hs
theorem qqv:IxR X (qus X.K):=by
 intro value slice pins s σ H x y v u Q I rx ry h hs;obtain⟨p,xs,i,z,rfl,rfl,hq,he,q⟩:=h;cases rx;obtain⟨t,rfl⟩:=ry;obtain⟨its,r,pl,hz⟩:=I.tuple hq;obtain⟨j,h1,h2,h3,h4,h5⟩:=qf9 he;obtain⟨w,ew,aF⟩:=r.get h2;have hl:=r.length;have hn:=qcW;have fin:EP X pins σ Q w s:=⟨z,H,I,aF,q⟩
 exact subscriptTail_builtinR (x:=w) pl.typeIs slot_tuple_getitem.lookup
  (getItem_tuple (j:=j) (Q:=λr s'=>r=w/\EP X pins σ Q r s') pl (by omega) (by omega) (by rw[List.size_toArray,<-hl];exact h1) (by simpa using ew) ⟨rfl,fin⟩) hs
theorem qqw:IxR X qut:=by
 intro value slice pins s σ H x y v u Q I rx ry h hs;obtain⟨z,i,c,rfl,rfl,hz,he,q⟩:=h;obtain⟨t,rfl⟩:=rx;obtain⟨t',rfl⟩:=ry;obtain⟨j,h1,h2,h3,h4,h5⟩:=qf9 he;have hl:z.cps.toList.length=z.length:=by simp[Str.length]
 rw[hl] at h1 h4 h5;have hn:=qcW;exact tail_any (typeIs_str s z t) slot_str_getitem.lookup (getItem_str (c:=c) (by
  have e1:decide (i< -(2 ^ 63:Int))=false:=Vy (by omega);have e2:decide (i≥2 ^ 63)=false:=Vy (by omega);rw[e1,e2,Bool.or_false]) (by rw[h1];simpa using h2) ⟨.str ⟨#[c]⟩,H,I.tok _,⟨_,rfl⟩,q⟩) hs
def rIx(K:W.Frag):R2:=λx y H Q=>quu K x y H Q\/qus K x y H Q\/qut x y H Q
theorem qqx:IxR X (rIx X.K):=qnX.or (qqv.or qqw)
theorem qhz(its:List Value)(n j:Nat)(u:Value):Obj.mapSeq (·.setIfInBounds j u) { cls:=.type "list",data:=.seq its.toArray n }={ cls:=.type "list",data:=.seq (its.set j u).toArray n }:=by simp[Obj.mapSeq]
theorem Inv.lst {pins:List (Addr×Obj)} {σ:St} {H:Hp} {s:Shared} {p:Addr} {xs:List V} (I:Inv X pins σ H s) (h:H p=some (.lst xs)):
  ∃(its:List Value) (n:Nat),Vals xs its/\s.heap.get? p=some { cls:=.type "list",data:=.seq its.toArray n }/\xs.length<=sizeLine:=by obtain⟨z,its,n,r,e⟩:=I.hok p _ h;exact⟨its,n,r,e,z⟩
theorem Inv.lstUpd {s:Shared} {ys:List V} {its its':List Value} {n n':Nat} (I:Inv X pins σ H s) (h:H p=some (.lst xs)) (ho:s.heap.get? p=some { cls:=.type "list",data:=.seq its.toArray n }) (hf:f { cls:=.type "list",data:=.seq its.toArray n }={ cls:=.type "list",data:=.seq its'.toArray n' }) (r:Vals ys its') (hz:ys.length<=sizeLine) (t:Nat):
  Inv X pins σ (upd H p (.lst ys)) { s with heap:=s.heap.update p f,toks:=t }:=by
 have e:(s.heap.update p f).get? p=some { cls:=.type "list",data:=.seq its'.toArray n' }:=by rw[Heap.get?_update_self f ho (by rw[hf]<;>rfl),hf]
 refine I.write (x:=p) (e:=p) (by rw[h];trivial) (.inl rfl) (λb u hb q=>(Vj _ _ (Ne.symm hb)).trans q) ⟨_,e⟩ ?_;exact⟨hz,its',n',r,e⟩
def qss:V->V->V->Hp->(Hp->Prop)->Prop:=λo i v H Q=> ∃p xs k j,o= .ref p/\i= .int k/\H p=some (.lst xs)/\ixN xs.length k=some j/\Q (upd H p (.lst (xs.set j v)))
theorem qkx:qt8 X qss:=by
 intro pins s σ H o i v ov iv u Q I ro ri rv h;obtain⟨p,xs,k,j,rfl,rfl,hp,hj,q⟩:=h;cases ro;obtain⟨t,rfl⟩:=ri;obtain⟨its,n,r,ho,hz⟩:=I.lst hp;obtain⟨h1,h2,h3,h4⟩:=qiZ hj;have hl:=r.length;have hn:=qcW
 have I':Inv X pins σ (upd H p (.lst (xs.set j v))) { s with heap:=s.heap.update p (Obj.mapSeq (·.setIfInBounds j u)) }:=
  I.lstUpd hp ho (qhz its n j u) (r.set rv j) (by rw[List.length_set];exact hz) s.toks
 by_cases h0:0<=k
 ·have hk:k.toNat=j:=by rw[seqIndex_of h0 h4] at h1;exact Option.some.inj h1
  exact W.ki_setAt ho h0 (by omega) (by rw[List.size_toArray,<-hl];exact h4) (by rw[hk];exact⟨_,I',q⟩)
 ·have hk:(k+(its.toArray.size:Int)).toNat=j:=by rw[seqIndex_neg (by omega) h3] at h1;rw[List.size_toArray,<-hl];exact Option.some.inj h1
  exact W.ki_setBack ho (by omega) (by rw[List.size_toArray,<-hl];exact h3) (by omega) (by rw[hk];exact⟨_,I',q⟩)
theorem qeD(lo hi:Option Int)(n:Nat):(sliceBounds lo hi none n).1=((HT.sIx n 0 lo:Nat):Int)/\(sliceBounds lo hi none n).2.1=((HT.sIx n n hi:Nat):Int)/\(sliceBounds lo hi none n).2.2=1:=by
 refine⟨?_,?_,rfl⟩
 ·cases lo with
  |none=>simp[sliceBounds,HT.sIx]
  |some i=>
   simp only[sliceBounds,HT.sIx,Option.getD_none,show(1:Int)>0 by decide,if_true];by_cases h:i<0
   ·simp only[h,if_true]<;>omega
   ·simp only[h,if_false]<;>omega
 ·cases hi with
  |none=>simp[sliceBounds,HT.sIx]
  |some i=>
   simp only[sliceBounds,HT.sIx,Option.getD_none,show(1:Int)>0 by decide,if_true];by_cases h:i<0
   ·simp only[h,if_true]<;>omega
   ·simp only[h,if_false]<;>omega
theorem qdU(its:List Value)(lo hi:Option Int):slicePick its.toArray lo hi none=((its.drop (HT.sIx its.length 0 lo)).take (HT.sIx its.length its.length hi - HT.sIx its.length 0 lo)).toArray:=by obtain⟨h1,h2,h3⟩:=qeD lo hi its.toArray.size;unfold slicePick;rw[h1,h2,h3];simp only[sliceRange_one,pick_run,List.size_toArray]<;>rfl
def qvo(K:W.Frag):V->Option Int->Option Int->Hp->VK->Prop:=λx lo hi H Q=> ∃a xs,x= .ref a/\SqL K H a xs/\∀p,H p=none->Q (.ref p) (upd H p (.lst (qmt xs lo hi)))
theorem qmU:SlR X (qvo X.K):=by intro pins s σ H x v vl vu lo hi sl Q I rx hs pl pu h;obtain⟨a,xs,rfl,hx,q⟩:=h;cases rx;obtain⟨its,r,ht,hz⟩:=I.list hx;have hlen:=r.length;refine⟨"list",_,slot_list_getitem.lookup,ht.isList.typeIs,?_⟩;refine wpAny_getItem_list_slice ht.isList hs pl pu .none (by simp) ?_ (by rw[List.size_toArray]<;>omega);rw[qdU,<-hlen];refine⟨.ref s.heap.objs.size,_,I.laid (t':=s.toks) (o:=.lst (qmt xs lo hi)) (λb ob q=>Vg _ q) (Vm _) ?_,rfl,q _ (I.hok.fresh (Vm _))⟩;exact⟨Vr (qc3 xs lo hi) hz,_,0,(r.drop (HT.sIx xs.length 0 lo)).take (HT.sIx xs.length xs.length hi - HT.sIx xs.length 0 lo),Vh _ rfl⟩
def qfZ:V->Bool
 |.non=>true
 |.bl _=>true
 |.int _=>true
 |.str _=>true
 |_=>false
def eqV:V->V->Bool
 |.non,.non=>true
 |.bl a,.bl b=>a==b
 |.bl a,.int b=>(if a then 1 else 0)==b
 |.int a,.bl b=>a==(if b then 1 else 0)
 |.int a,.int b=>a==b
 |.str a,.str b=>a==b
 |_,_=>false
theorem qmk{A:Around}{s:Shared}{y x:V}{u v:Value}(ry:RelV y u)(rx:RelV x v)(fy:qfZ y=true)(fx:qfZ x=true):SeqAt.EqAt A s u v (eqV y x):=by
 cases y with
 |non=>
  cases ry;cases x with
  |non=>cases rx;exact SeqAt.EqAt.same _
  |bl b=>cases rx;exact SeqAt.EqAt.none_bool b
  |int b=>obtain⟨t,rfl⟩:=rx;exact SeqAt.EqAt.none_int b t
  |str b=>obtain⟨t,rfl⟩:=rx;exact SeqAt.EqAt.none_str b t
  |_=>exact absurd (show false=true from fx) Vs
 |bl a=>
  cases ry;cases x with
  |non=>cases rx;exact SeqAt.EqAt.bool_none a
  |bl b=>cases rx;exact SeqAt.EqAt.bool_bool a b
  |int b=>obtain⟨t,rfl⟩:=rx;exact SeqAt.EqAt.bool_int a b t
  |str b=>obtain⟨t,rfl⟩:=rx;exact SeqAt.EqAt.bool_str a b t
  |_=>exact absurd (show false=true from fx) Vs
 |int a=>
  obtain⟨t',rfl⟩:=ry;cases x with
  |non=>cases rx;exact SeqAt.EqAt.int_none a t'
  |bl b=>cases rx;exact SeqAt.EqAt.int_bool a t' b
  |int b=>obtain⟨t,rfl⟩:=rx;exact SeqAt.EqAt.int_int a t' b t
  |str b=>obtain⟨t,rfl⟩:=rx;exact SeqAt.EqAt.int_str a t' b t
  |_=>exact absurd (show false=true from fx) Vs
 |str a=>
  obtain⟨t',rfl⟩:=ry;cases x with
  |non=>cases rx;exact SeqAt.EqAt.str_none a t'
  |bl b=>cases rx;exact SeqAt.EqAt.str_bool a t' b
  |int b=>obtain⟨t,rfl⟩:=rx;exact SeqAt.EqAt.str_int a t' b t
  |str b=>obtain⟨t,rfl⟩:=rx;exact SeqAt.EqAt.str_str a t' b t
  |_=>exact absurd (show false=true from fx) Vs
 |_=>exact absurd (show false=true from fy) Vs
theorem qas.or(h:qas X f r)(h':qas X f r'):qas X f (λxs H Q=>r xs H Q\/r' xs H Q):=by
 intro pins s σ H xs us Q I rs q
 rcases q with q|q
 ·exact h pins s σ H xs us Q I rs q
 ·exact h' pins s σ H xs us Q I rs q
theorem qen:qas X (.type "tuple") (λxs H Q=> ∃p ys,xs=[.ref p]/\((SqL X.K H p ys/\∀l,H l=none->Q (.ref l) (upd H l (.tup ys)))\/(SqT X.K H p ys/\Q (.ref p) H))):=by
 intro pins s σ H xs us Q I r h;obtain⟨p,ys,rfl,h⟩:=h;obtain⟨u,rfl,rx⟩:=qeu r;cases rx
 rcases h with⟨hq,q⟩|⟨hq,q⟩
 ·obtain⟨its,r',pl,hz⟩:=I.list hq;have hlen:=r'.length;refine call_tuple_list pl.isList (λh' kp=> ?_) (by simp only[List.size_toArray]<;>omega);have I1:Inv X pins σ H { s with heap:=h' }:=I.kept (t':=s.toks) kp
  have I2:Inv X pins σ (upd H h'.objs.size (.tup ys)) { s with heap:=h'.push { cls:=.type "tuple",data:=.seq its.toArray } }:=
   I1.laid (t':=s.toks) (λb o e=>Vg _ e) (Vm _) (show qax X.prog X.w _ _ _ (.tup ys) from⟨hz,its,r',IsTup.new _ _⟩)
  exact⟨.ref h'.objs.size,_,I2,rfl,q _ (I1.hok.fresh (Vm _))⟩
 ·obtain⟨its,r',pl,hz⟩:=I.tuple hq;exact call_tuple_same pl ⟨.ref p,H,I,rfl,q⟩
def tyV(K:W.Frag)(T:String)(x:V)(H:Hp):Prop:=match x with
 |.str _=>T= "str"
 |.int _=>T= "int"
 | .ref p=>(T= "list" /\∃xs,SqL K H p xs)\/(T= "tuple" /\∃o,K.lookup p=some o/\o.cls= .type "tuple" /\o.dict=none)\/
   (T= "dict" /\((∃kvs,H p=some (.dK kvs))\/∃kvs,H p=some (.dT kvs)))\/(T= "set" /\∃S n,H p=some (.set S n))
 |_=>False
theorem qlV (I:Inv X pins σ H s) (r:RelV x v) (ty:tyV X.K T x H):
  s.TypeIs v T/\∀a,v= .ref a->∃ob,s.heap.get? a=some ob/\ob.dict=none:=by
 cases x with
 |str z=>obtain⟨t,rfl⟩:=r;cases(show T= "str" from ty);exact⟨typeIs_str s z t,λ_ e=>nomatch e⟩
 |int i=>obtain⟨t,rfl⟩:=r;cases(show T= "int" from ty);exact⟨typeIs_int s i t,λ_ e=>nomatch e⟩
 |ref p=>
  cases r
  rcases ty with⟨rfl,xs,hq⟩|⟨rfl,o,hk,hc,hd⟩|⟨rfl,hk⟩|⟨rfl,S,n,hk⟩
  ·obtain⟨its,_,pl,_⟩:=I.list hq;refine⟨pl.isList.typeIs,λa e=> ?_⟩;cases e;obtain⟨o,n,e,c,hd,_⟩:=pl;exact⟨o,e,hd⟩
  ·refine⟨⟨o,I.kIn p o hk,hc⟩,λa e=> ?_⟩;cases e;exact⟨o,I.kIn _ o hk,hd⟩
  ·have z: ∃o,s.heap.get? p=some o/\o.ExactDict:=by
    rcases hk with⟨kvs,hk⟩|⟨kvs,hk⟩
    ·obtain⟨_,_,_,_,o,_,_,e,ex,_⟩:=I.hok p _ hk;exact⟨o,e,ex⟩
    ·obtain⟨_,_,_,_,o,_,_,e,ex,_⟩:=I.hok p _ hk;exact⟨o,e,ex⟩
   obtain⟨o,e,ex⟩:=z;refine⟨⟨o,e,ex.1⟩,λa e2=> ?_⟩;cases e2;exact⟨o,e,ex.2.1⟩
  ·obtain⟨o,_,_,_,e,ex,_⟩:=I.hok p _ hk;refine⟨⟨o,e,ex.1⟩,λa e2=> ?_⟩;cases e2;exact⟨o,e,ex.2.1⟩
 |_=>exact False.elim ty
def qvh(K:W.Frag)(T:String)(r:V->List V->Hp->VK->Prop)(to:TE):TE:=λσ H Q=>to σ H λx H1=>tyV K T x H1/\r x [] H1 Q
def tBM(K:W.Frag)(T:String)(r:V->List V->Hp->VK->Prop)(to:TE)(t:TA):TE:=λσ H Q=>to σ H λx H1=>tyV K T x H1/\t σ H1 λxs H2=>r x xs H2 Q
theorem qpL {o:Expr} {to:TE} {name:Str} {apos:Pos} {cpos:Pos} {T:String} {id:String} {r:V->List V->Hp->VK->Prop} (pa:PlainAttrs T) (slot:Slot T name id) (cL:typeOf (.builtin id)=pure (.type "method_descriptor")) (hm:MtR X id r) (ho:PE X o to) (aQ:attributeBase o name X.env (eval o X.env)=eval o X.env:=by rfl) (aA:(apos.endLine==cpos.line)=true:=by rfl):PE X (.Call (.Attribute o name apos) [] [] cpos) (qvh X.K T r to):=by intro pins s σ H Q I h;refine wpAny_Call_method0_late aQ aA (thn (ho pins s σ H _ I h) λv s1 ⟨x,H1,I1,r1,ty,q1⟩=> ?_);obtain⟨h1,h2⟩:=qlV I1 r1 ty;exact⟨T,id,pa,slot,cL,h1,h2,Calls.callWith_builtin rfl (PySem.evalArgs_none (hm pins s1 σ H1 x [] v [] Q I1 r1 .nil q1))⟩
theorem qsJ {o:Expr} {e:Expr} {es:List Expr} {to:TE} {t:TA} {name:Str} {apos:Pos} {cpos:Pos} {T:String} {id:String} {r:V->List V->Hp->VK->Prop} (pa:PlainAttrs T) (slot:Slot T name id) (cL:typeOf (.builtin id)=pure (.type "method_descriptor")) (hm:MtR X id r) (ho:PE X o to) (ha:PA X (e::es) t) (aQ:attributeBase o name X.env (eval o X.env)=eval o X.env:=by rfl) (dY:((backTo cpos (starEach (e::es) X.env)).all (λx=> !x.1)&&(backToKw cpos (keywordEach [] X.env)).all (λx=>x.1.isSome)
   &&decide ((e::es).length+([]:List Keyword).length+(if([]:List Keyword).isEmpty then 0 else 1)<30))=true:=by rfl) (aA:(apos.endLine==cpos.line)=true:=by rfl) (hs:starEach (e::es) X.env=(false,eval e X.env)::starEach es X.env:=by rfl) (bF:(backTo cpos (starEach es X.env)).any (·.1)=false:=by rfl):
  PE X (.Call (.Attribute o name apos) (e::es) [] cpos) (tBM X.K T r to t):=by intro pins s σ H Q I h;refine wpAny_Call_method_late aQ dY aA rfl (thn (ho pins s σ H _ I h) λv s1 ⟨x,H1,I1,r1,ty,q1⟩=> ?_);obtain⟨h1,h2⟩:=qlV I1 r1 ty;refine⟨T,id,pa,slot,cL,h1,h2,?_⟩;have hA:=ha cpos pins s1 σ H1 _ I1 q1;rw[hs] at hA⊢;refine Calls.callWith_builtin (by show(false||(backTo cpos (starEach es X.env)).any (·.1))=false;rw[bF]<;>rfl) (Calls.evalArgs_plain ?_);exact thn hA λus s2 ⟨vs,H2,I2,r2,q2⟩=>hm pins s2 σ H2 x vs v us Q I2 r1 r2 q2
end
def MtM(X:Cx)(id:String)(r:V->List V->Hp->VK->Prop):Prop:=
 ∀(pins:List (Addr×Obj)) (s:Shared) (σ:St) (H:Hp) (x:V) (xs:List V) (v:Value) (us:List Value) (Q:VK),Inv X pins σ H s->RelV x v->Vals xs us->r x xs H Q->
  wpAny (model X.prog X.w) X.A (call (.builtin id) (v::us)) (EP X pins σ Q) X.xe s
theorem Vals.one: ∀{x:V} {us:List Value},Vals [x] us->∃u,us=[u]/\RelV x u
 |_,_,.cons r .nil=>⟨_,rfl,r⟩
theorem Vals.two: ∀{x y:V} {us:List Value},Vals [x,y] us->∃u v,us=[u,v]/\RelV x u/\RelV y v
 |_,_,_,.cons r (.cons q .nil)=>⟨_,_,rfl,r,q⟩
theorem Vals.zero: ∀{us:List Value},Vals [] us->us=[]
 |_,.nil=>rfl
theorem Vals.dropLast(h:Vals xs us):Vals xs.dropLast us.dropLast:=by
 induction h with
 |nil=>exact .nil
 |cons r t ih=>
  cases t with
  |nil=>exact .nil
  |cons q t'=>exact .cons r ih
theorem Vals.rep(h:Vals xs us): ∀k:Nat,Vals (List.replicate k xs).flatten (List.replicate k us).flatten
 |0=>.nil
 |k+1=>by rw[List.replicate_succ,List.replicate_succ,List.flatten_cons,List.flatten_cons];exact Vals.append h (Vals.rep h k)
theorem qhJ(l:List α):l.eraseIdx (l.length - 1)=l.dropLast:=by
 induction l with
 |nil=>rfl
 |cons a r ih=>
  cases r with
  |nil=>rfl
  |cons b r=>
   have e:(a::b::r).length - 1=((b::r).length - 1)+1:=by have h1:(a::b::r).length=r.length+2:=rfl;have h2:(b::r).length=r.length+1:=rfl;omega
   rw[e,List.eraseIdx_cons_succ,ih]
   all_goals rfl
theorem qe5 (its:List Value): ∀(k:Nat) (acc:List Value),
  List.foldl (λx1 x2=>x1++x2) acc.toArray (List.replicate k its.toArray)=(acc++(List.replicate k its).flatten).toArray
 |0,acc=>by simp
 |k+1,acc=>by
  have e:acc.toArray++its.toArray=(acc++its).toArray:=by simp
  have e2:(acc++its)++(List.replicate k its).flatten=acc++(List.replicate (k+1) its).flatten:=by rw[List.replicate_succ,List.flatten_cons,List.append_assoc]
  rw[<-e2,<-qe5 its k (acc++its),<-e,List.replicate_succ,List.foldl_cons]
section
theorem Inv.lset {s:Shared} {ys:List V} {its its':List Value} {n:Nat} {t':Nat} (I:Inv X pins σ H s) (hH:H l=some (.lst xs)) (e:s.heap.get? l=some { cls:=.type "list",data:=.seq its.toArray n }) (hf:f its.toArray=its'.toArray) (hv:Vals ys its') (hz:ys.length<=sizeLine):
  Inv X pins σ (upd H l (.lst ys)) { s with heap:=s.heap.update l (Obj.mapSeq f),toks:=t' }:=by have q:=PySem.IsL.update e f;rw[hf] at q;refine I.write (x:=l) (e:=l) (by rw[hH];exact trivial) (.inl rfl) (λb' u hb hu=>(Vj s.heap (Obj.mapSeq f) (Ne.symm hb)).trans hu) ⟨_,q⟩ ?_;exact⟨hz,its',_,hv,q⟩
theorem Inv.lnew (I:Inv X pins σ H s) (hv:Vals ys its) (hz:ys.length<=sizeLine):
  Inv X pins σ (upd H s.heap.objs.size (.lst ys)) { s with heap:=s.heap.push { cls:=.type "list",data:=.seq its.toArray },toks:=t' }:=
 I.laid (λ_ _ q=>Vg _ q) (Vm _) ⟨hz,its,0,hv,Vh _ rfl⟩
theorem Inv.fresh(I:Inv X pins σ H s):H s.heap.objs.size=none:=I.hok.fresh (Vm _)
theorem Inv.lstM(I:Inv X pins σ H s)(hH:H l=some (.lst xs)):xs.length<=sizeLine/\∃(its:List Value) (n:Nat),Vals xs its/\xs.length=its.length/\s.heap.get? l=some { cls:=.type "list",data:=.seq its.toArray n }:=by obtain⟨z,its,n,r,e⟩:=I.hok l _ hH;exact⟨z,its,n,r,r.length,e⟩
theorem qgB(h:n<=sizeLine):Builtin.List.listTooLong n=false:=by unfold Builtin.List.listTooLong;exact Vy (by omega)
end
section
def qm9:V->List V->Hp->VK->Prop:=λx vs H Q=> ∃l xs y,x= .ref l/\vs=[y]/\H l=some (.lst xs)/\xs.length<sizeLine/\Q .non (upd H l (.lst (xs++[y])))
theorem qeR:MtM X "list.append" qm9:=by intro pins s σ H x vs v us Q I rx rv h;obtain⟨l,xs,y,rfl,rfl,hH,hz,q⟩:=h;cases rx;obtain⟨u,rfl,ru⟩:=rv.one;obtain⟨z,its,n,r,hl,e⟩:=I.lstM hH;refine Wa F.slot_list_append ⟨_,e,rfl⟩ F.entry_list_append (F.args_list_append_2 _ _) (PySem.list_append l its.toArray n u (by rw[List.size_toArray];omega)) ⟨e,?_⟩;refine⟨.non,_,I.lset (its':=its++[u]) hH e (by simp) (r.append (.cons ru .nil)) ?_,rfl,q⟩;rw[List.length_append,List.length_singleton];omega
def qm4:V->List V->Hp->VK->Prop:=λx vs H Q=> ∃l b xs zs,x= .ref l/\vs=[.ref b]/\H l=some (.lst xs)/\H b=some (.lst zs)/\xs.length+zs.length<=sizeLine/\Q .non (upd H l (.lst (xs++zs)))
theorem qqg:MtM X "list.extend" qm4:=by
 intro pins s σ H x vs v us Q I rx rv h;obtain⟨l,b,xs,zs,rfl,rfl,hH,hB,hz,q⟩:=h;cases rx;obtain⟨u,rfl,ru⟩:=rv.one;cases ru;obtain⟨z,its,n,r,hl,e⟩:=I.lstM hH;obtain⟨z2,aM,n2,r2,bG,e2⟩:=I.lstM hB;have hsz:its.toArray.size+aM.toArray.size<=sizeLine:=by rw[List.size_toArray,List.size_toArray];omega
 have cz: ¬(!its.toArray.isEmpty&&Builtin.List.listTooLong (its.toArray.size+aM.toArray.size))=true:=by rw[qgB hsz,Bool.and_false];exact Vs
 refine Wa F.slot_list_extend ⟨_,e,rfl⟩ F.entry_list_extend (F.args_list_extend_2 _ _)
  (AutoSeq1.list_extend_list_list_0 l its.toArray n b aM.toArray n2 cz (by rw[List.size_toArray];omega) (by omega)) ⟨e,e2,?_⟩
 refine⟨.non,_,I.lset (its':=its++aM) hH e (by simp) (r.append r2) ?_,rfl,q⟩;rw[List.length_append];omega
def qvq:V->List V->Hp->VK->Prop:=λx vs H Q=> ∃l xs y,x= .ref l/\vs=[]/\H l=some (.lst xs)/\xs[xs.length - 1]? =some y/\Q y (upd H l (.lst xs.dropLast))
theorem qqf:MtM X "list.pop" qvq:=by
 intro pins s σ H x vs v us Q I rx rv h;obtain⟨l,xs,y,rfl,rfl,hH,hy,q⟩:=h;cases rx;have hus:=rv.zero;subst hus;obtain⟨z,its,n,r,hl,e⟩:=I.lstM hH;obtain⟨u,hu,ru⟩:=r.get hy;have hy':its.toArray[its.toArray.size - 1]? =some u:=by show its.toArray[its.length - 1]? =some u;rw[<-Array.getElem?_toList,<-hl];exact hu
 refine Wa F.slot_list_pop ⟨_,e,rfl⟩ F.entry_list_pop (F.args_list_pop_1 _) (MeetsSeq.list_pop_last l its.toArray n u hy' (by rw[List.size_toArray];omega)) ⟨e,?_⟩;refine⟨y,_,I.lset (its':=its.dropLast) hH e ?_ r.dropLast ?_,ru,q⟩
 ·show its.toArray.eraseIdxIfInBounds (its.toArray.size - 1)=its.dropLast.toArray;rw[List.size_toArray,List.eraseIdxIfInBounds_toArray,qhJ]
 ·rw[List.length_dropLast];omega
def quB:R2:=λx y H Q=> ∃l b xs zs,x= .ref l/\y= .ref b/\H l=some (.lst xs)/\H b=some (.lst zs)/\xs.length+zs.length<=sizeLine/\∀p,H p=none->Q (.ref p) (upd H p (.lst (xs++zs)))
theorem qp0:OpR X (binaryOp .Add) quB:=by
 intro pins s σ H x y v u Q I rx ry h;obtain⟨l,b,xs,zs,rfl,rfl,hH,hB,hz,q⟩:=h;cases rx;cases ry;obtain⟨z,its,n,r,hl,e⟩:=I.lstM hH;obtain⟨z2,aM,n2,r2,bG,e2⟩:=I.lstM hB;refine P.add_list e e2 ?_ (by rw[List.size_toArray,List.size_toArray];omega);have ea:its.toArray++aM.toArray=(its++aM).toArray:=by simp
 rw[ea];exact⟨.ref _,_,I.lnew (t':=s.toks) (r.append r2) (by rw[List.length_append];omega),rfl,q _ I.fresh⟩
def quq:R2:=λx y H Q=> ∃l k xs,x= .ref l/\y= .int k/\H l=some (.lst xs)/\ -(2 ^ 63)<=k/\k<2 ^ 63/\xs.length*k.toNat<=sizeLine/\
 ∀p,H p=none->Q (.ref p) (upd H p (.lst (List.replicate k.toNat xs).flatten))
theorem qfN(xs:List α)(k:Nat):(List.replicate k xs).flatten.length=k*xs.length:=by
 induction k with
 |zero=>simp
 |succ k ih=>rw[List.replicate_succ,List.flatten_cons,List.length_append,ih,Nat.succ_mul,Nat.add_comm]
theorem qpR:OpR X (binaryOp .Mult) quq:=by
 intro pins s σ H x y v u Q I rx ry h;obtain⟨l,k,xs,rfl,rfl,hH,h1,h2,hz,q⟩:=h;cases rx;obtain⟨t,rfl⟩:=ry;obtain⟨z,its,n,r,hl,e⟩:=I.lstM hH;have hlen:its.toArray.size*k.toNat<=sizeLine:=by rw[List.size_toArray,<-hl];exact hz
 have iE: ¬its.toArray.size*k.toNat>(2 ^ 63 - 1) / 8:=by
  have:(sizeLine:Nat)<=(2 ^ 63 - 1) / 8:=by decide
  omega
 have iA: ¬(!Builtin.List.listFitsIndex k)=true:=by rw[fitsIndex_both h1 h2];exact Vs
 have cz: ¬Builtin.List.listTooLong (its.toArray.size*k.toNat)=true:=by rw[qgB hlen];exact Vs
 have cy:List.foldl (λx1 x2=>x1++x2) #[] (List.replicate (if its.toArray.isEmpty=true then 0 else k.toNat) its.toArray)=(List.replicate k.toNat its).flatten.toArray:=by
  have f0: ∀m:Nat,List.foldl (λx1 x2=>x1++x2) #[] (List.replicate m its.toArray)=(List.replicate m its).flatten.toArray:=λm=>by have:=qe5 its m [];rw[List.nil_append] at this;exact this
  rw[f0];cases its with
  |nil=>simp
  |cons a r'=>rw[if_neg (by simp)]
 refine wpAny_binaryOp_repeat_ref (T:= "list") (U:= "int") (by decide) ⟨_,e,rfl⟩ (λs'=>typeIs_int s' k t) noFill_list_mul F.fills_int_mul F.slot_int_rmul repeat_list F.slot_int_index.lookup
  (Wa F.slot_int_rmul (typeIs_int s k t) F.entry_int_rmul (F.args_int_rmul_2 _ _) (int___rmul___int_list k t l its.toArray n)
   ⟨e,rfl,⟨_,e,rfl⟩,Wa F.slot_list_mul ⟨_,e,rfl⟩ F.entry_list_mul (F.args_list_mul_2 _ _) (AutoListH.list___mul___list_int_3 l its.toArray n k t iA iE cz) ⟨e,?_⟩⟩)
 rw[cy];exact⟨.ref _,_,I.lnew (t':=s.toks) (r.rep k.toNat) (by rw[qfN,Nat.mul_comm];exact hz),rfl,q _ I.fresh⟩
end
end L2
namespace Att
open PySem PySem.W PySem.Calls PyProof.Rows
theorem qcY: ∀(ns:List Int) (vs:List Value),WellAll P h vs (ns.map WData.int)->IntsAre vs ns:=by
 intro ns
 induction ns with
 |nil=>intro vs w;rw[List.map_nil] at w;cases w;exact .nil
 |cons n ns ih=>
  intro vs w;rw[List.map_cons] at w;cases w with
  |cons a b=>cases a;exact .cons _ _ (ih _ b)
theorem qio {l:OpenLaw} {n:Nat} (hn:l.most=some n) {h:Heap} (cU:l.row.toRowW.claim.pre args=true) (g9:WellAll P h vals args):
  ∃a vs ns,vals=[Value.ref a]/\args=[WData.list (ns.map WData.int)]/\h.get? a=some { cls:=.type "list",data:=.seq vs.toArray }/\IntsAre vs ns/\ns.length<=n:=by
 have hU:WShape.hasAll [] args [.list .int]=true:=(pre_splitW cU).1;have hc:l.pre.holds [] { args:=args }=true:=(pre_splitW cU).2;obtain⟨d,r,rfl,h1,h2⟩:=hasAllW_cons hU;obtain rfl:=hasAllW_nil h2;obtain⟨xs,rfl,h3⟩:=hasW_list h1;obtain⟨ns,rfl⟩:=items_int h3;have hlen:ns.length<=n:=by
  unfold OpenLaw.pre at hc;have h4:(WTm.not (.lt (.lit (.int (n:Int))) (.len (.arg 0)))).holds [] { args:=[.list (ns.map .int)] }=true:=by have h4:=(holds_andW hc).1;rw[hn] at h4;exact h4
  have h5:=condW_of h4 (w_not (w_lt w_lit (w_len_list (w_arg rfl))));rw[List.length_map] at h5;refine Nat.le_of_not_lt λq=> ?_;have q':(n:Int)<((ns.length:Nat):Int):=by omega
  first
   |(rw[decide_eq_true q'] at h5;exact absurd h5 (by decide))
   |(simp at h5;omega)
 cases g9 with
 |cons w1 w2=>
  cases w2;cases w1 with
  |list ho cD=>exact⟨_,_,ns,rfl,rfl,ho,qcY ns _ cD,hlen⟩
theorem qiC(l:OpenLaw)(args:List WData):l.row.toRowW.claim.post args (.bool true) args=true:=
 postW_of (r:=l.row.toRowW) (X:=(true==true))
  (show WShape.has [] (.bool true) .bool=true by first|rfl|decide|simp[WShape.has,WShape.arms,WShape.armsAll])
  (show(WTm.eq .res (.lit (.bool true))).value [] { args:=args,res:=some (.bool true),after:=args }=some (.bool (true==true)) from w_eq_bool (w_res rfl) w_lit) rfl
theorem attach_call {l:OpenLaw} {n:Nat} {d:DefRec} (hn:l.most=some n) (fF:d.params.defaults=[]) (call: ∀(w:World) (s₀ af:Shared) (mg mb:Str->Option Value) (fa:Addr) (o:Obj) (pm cd doc:Value) (a:Addr) (vs:List Value) (ns:List Int),
   Ground q loose [] XP w s₀ mg mb af.heap->YP w af.heap->
   af.heap.get? fa=some o->o.data= .func (docDef d.name d.params d.body d.scope pm cd doc)->af.heap.CodeRec cd d.name->mg d.name=some (.ref fa)->
   af.heap.get? a=some { cls:=.type "list",data:=.seq vs.toArray }->IntsAre vs ns->ns.length<=n->af.gens= #[]->
   codeAny (model l.prog w) callerA (.call (.ref fa) ⟨[.ref a],[]⟩) (λr s'=>r= .ok (.ret (.bool true))/\OldK af.heap s'.heap/\s'.os=af.os/\AllBare s'.gens) af):
  WalkO q loose XP YP l.row.toRowW d [] (λf vs=>PySem.call f vs):=by intro w s₀ af mg mb G Y fa o pm cd doc dV kV ho hd bH hD ig hg args vals as cU hlay hrd g9 hlo;obtain rfl:dV= .none:=Dflts.none hD fF;obtain rfl:kV= .none:=Dflts.noKw hD;obtain⟨a,vs,ns,rfl,rfl,dM,hints,hlen⟩:=qio hn cU g9;refine enter_call (codeAny_mono (call w s₀ af mg mb fa o pm cd doc a vs ns G Y ho (fd_plain hd) bH ig dM hints hlen hg) λr s' hq=> ?_);obtain⟨rfl,h2,h3,h4⟩:=hq;exact⟨.inl ⟨.bool true,.bool true,[],rfl,λ_=>rfl,.bool true,qiC l _,λ_=>⟨List.Pairwise.nil,λ_ hm=>(nomatch hm)⟩⟩,h2,h3,h4⟩
section
def quH(h:Heap)(L d:Addr):List (Addr×Obj):=(List.range h.objs.size).filterMap λa=>if a=L\/a=d then none else(h.get? a).map λo=>(a,o)
end
end Att
namespace L2
open PySem PySem.Spec PyProof.Rows
theorem qet: ∀{vs:List Value} {ns:List Int},IntsAre vs ns->Vals (ns.map V.int) vs
 |_,_,.nil=>.nil
 |_,_,.cons n t h=>.cons ⟨t,rfl⟩ (qet h)
abbrev KOf{K:W.Frag}{h:Heap}(_:K.In h):W.Frag:=K
def qan(s:Stmt):Arguments:=match s with
 |.FunctionDef _ a _ _ _ _ _ _ _ _=>a
 |_=>{ posonlyargs:=[],args:=[],vararg:=none,kwonlyargs:=[],kw_defaults:=[],kwarg:=none,defaults:=[] }
def qaw(s:Stmt):List Stmt:=match s with
 |.FunctionDef _ _ b _ _ _ _ _ _ _=>b
 |_=>[]
def qae(s:Stmt):Scope:=match s with
 |.FunctionDef _ _ _ _ _ _ sc _ _ _=>sc
 |_=>{ kind:=.function,names:=[],isGenerator:=false,isCoroutine:=false }
abbrev CX0:CXT:=λ_ _ _ _ _ _=>False
abbrev E0:XK:=λ_ _ _=>False
structure Fun(K:W.Frag)(x qual:Str)(st:Stmt)(f:Addr)(fd:FuncData):Prop where
 ex: ∃(oc:Value) (od:Option Addr) (kV doc pm:Value) (an:Option Addr) (cdv ct:Value) (osl:Array (Option Value)),
  fd=W.fnOf x qual (qan st) (qaw st) (qae st) .none kV doc pm an cdv ct/\K.lookup f=some ⟨oc,od,.func fd,osl⟩/\W.codeIn K cdv qual=true
 kp:W.keepIn K (.ref f)=true
section
theorem Fun.binds{K:W.Frag}{x qual:Str}{st:Stmt}{f:Addr}{fd:FuncData}{ps:List Str}(F:Fun K x qual st f fd)(h: ∀(kV doc pm:Value) (an:Option Addr) (cdv ct:Value) (us:List Value),us.length=ps.length->bindArgs (W.fnOf x qual (qan st) (qaw st) (qae st) .none kV doc pm an cdv ct) ⟨us,[]⟩=pure (ps.zip us)):qci K fd ps []:=by obtain⟨oc,od,kV,doc,pm,an,cdv,ct,osl,rfl,lk,bH⟩:=F.ex;exact .all (h kV doc pm an cdv ct)
theorem qmj{K:W.Frag}{x qual:Str}{st:Stmt}{f:Addr}{oc:Value}{od an:Option Addr}{osl:Array (Option Value)}{kV doc pm cdv ct:Value}(l:K.lookup f=some ⟨oc,od,.func (W.fnOf x qual (qan st) (qaw st) (qae st) .none kV doc pm an cdv ct),osl⟩)(c:W.codeIn K cdv qual=true)(k:W.keepIn K (.ref f)=true):Fun K x qual st f (W.fnOf x qual (qan st) (qaw st) (qae st) .none kV doc pm an cdv ct):=⟨⟨oc,od,kV,doc,pm,an,cdv,ct,osl,rfl,l,c⟩,k⟩
end
theorem qbk(h:n<=1000):n<sizeLine:=Vo h (by decide)
theorem qvE{A B:Prop}(h:B):if false=true then A else B:=by rw[if_neg Bool.false_ne_true];exact h
theorem qvD{A B:Prop}(h:A):if true=true then A else B:=by rw[if_pos rfl];exact h
def clOf(env:Env):List (Str×NameKind)->List (Str×Addr)->List (Str×Addr)
 |[],acc=>acc
 |x::r,acc=>clOf env r (if x.2== .free then(match env.cells.lookup x.1 with|some a=>(x.1,a)::acc|none=>acc) else acc)
theorem qdC: ∀(names:List (Str×NameKind)) (acc:List (Str×Addr)),(∀x∈names,x.2= .free->∃c,env.cells.lookup x.1=some c)->
  (forIn names acc λx r=>(match x with|(name,kind)=>if(kind==NameKind.free)=true then do let a <-cellOf env name;pure (ForInStep.yield ((name,a)::r)) else pure (ForInStep.yield r):Sem (ForInStep (List (Str×Addr)))))=pure (clOf env names acc)
 |[],acc,_=>by rw[List.forIn_nil];rfl
 |(n,k)::r,acc,h=>by
  rw[List.forIn_cons];have ih:=λbU=>qdC (env:=env) r bU λx hx=>h x (Vl _ hx);by_cases hk:(k==NameKind.free)=true
  ·have c8:k= .free:=by simpa using hk
   obtain⟨c,hc⟩:=h (n,k) Vk c8;simp only[hk,if_true,cellOf,hc,clOf];exact ih _
  ·simp only[hk,if_false,clOf];exact ih _
theorem qdD(h: ∀x∈scope.names,x.2= .free->∃c,env.cells.lookup x.1=some c):closureFor scope env=pure (clOf env scope.names []):=by have e:=qdC (env:=env) scope.names [] h;unfold closureFor;exact(congrArg (λm=>m>>=λr=>pure r) e)
theorem qgV: ∀(names:List (Str×NameKind)) (acc:List (Str×Addr)),(∀y d,acc.lookup y=some d->env.cells.lookup y=some d)->
  (clOf env names acc).lookup x=some c->env.cells.lookup x=some c
 |[],acc,ha,h=>ha x c h
 |(n,k)::r,acc,ha,h=>by
  refine qgV r _ (λy d hy=> ?_) h;dsimp only at hy;by_cases hk:(k==NameKind.free)=true
  ·rw[if_pos hk] at hy;cases e:env.cells.lookup n with
   |none=>rw[e] at hy;exact ha y d hy
   |some a=>
    rw[e] at hy;dsimp only at hy;rw[List.lookup_cons] at hy;cases hb:y==n with
    |true=>rw[hb] at hy;have e1:y=n:=eq_of_beq hb;subst e1;rw[e];exact hy
    |false=>rw[hb] at hy;exact ha y d hy
  ·rw[if_neg hk] at hy;exact ha y d hy
theorem qc4: ∀(names:List (Str×NameKind)) (acc:List (Str×Addr)),env.cells.lookup x=some c->(acc.lookup x=some c\/(x,NameKind.free)∈names)->
  (clOf env names acc).lookup x=some c
 |[],acc,hc,h=>by
  rcases h with h|h
  ·exact h
  ·cases h
 |(n,k)::r,acc,hc,h=>by
  refine qc4 r _ hc ?_;dsimp only;by_cases hk:(k==NameKind.free)=true
  ·rw[if_pos hk];by_cases hn:x=n
   ·subst hn;rw[hc];exact .inl (by simp[List.lookup_cons])
   ·have hb:(x==n)=false:=by simpa using hn
    cases e:env.cells.lookup n with
    |none=>
     rcases h with h|h
     ·exact .inl h
     ·rcases List.mem_cons.mp h with h|h
      ·cases h;exact absurd rfl hn
      ·exact .inr h
    |some a=>
     dsimp only
     rcases h with h|h
     ·exact .inl (by rw[List.lookup_cons,hb];exact h)
     ·rcases List.mem_cons.mp h with h|h
      ·cases h;exact absurd rfl hn
      ·exact .inr h
  ·rw[if_neg hk]
   rcases h with h|h
   ·exact .inl h
   ·rcases List.mem_cons.mp h with h|h
    ·cases h;exact absurd rfl hk
    ·exact .inr h
theorem qbm {env:Env} {x:Str} {k:NameKind}: ∀{names:List (Str×NameKind)},(∀y∈names,y.2≠.cell)->k= .cell\/k= .free->
  (names.map λ(n,k)=>if(k==NameKind.free&&env.scope.kind== .function&&env.kindOf n==some .cell) then(n,NameKind.cell) else(n,k)).lookup x=some k->names.lookup x=some .free
 |[],_,_,h=>by simp at h
 |(n,k')::r,hc,hk,h=>by
  have ih:=@qbm env x k r (λy hy=>hc y (Vl _ hy)) hk;rw[List.map_cons] at h;dsimp only at h;by_cases hf:(k'==NameKind.free&&env.scope.kind== .function&&env.kindOf n==some .cell)=true
  ·rw[if_pos hf] at h;have c8:k'= .free:=by have:=hf;simp only[Bool.and_eq_true,beq_iff_eq] at this;exact this.1.1
   subst c8;cases hx:x==n with
   |true=>simp[List.lookup_cons,hx]
   |false=>simp only[List.lookup_cons,hx] at h⊢;exact ih h
  ·rw[if_neg hf] at h;cases hx:x==n with
   |true=>
    simp only[List.lookup_cons,hx] at h⊢;cases h;have aZ:=hc (n,k) Vk
    rcases hk with e|e
    ·exact absurd e aZ
    ·rw[e]
   |false=>simp only[List.lookup_cons,hx] at h⊢;exact ih h
theorem qcn {env:Env} {x:Str}: ∀{names:List (Str×NameKind)},names.lookup x=some .free->
  let m:=(names.map λ(n,k)=>if(k==NameKind.free&&env.scope.kind== .function&&env.kindOf n==some .cell) then(n,NameKind.cell) else(n,k)).lookup x
  m=some .cell\/m=some .free
 |[],h=>by simp at h
 |(n,k)::r,h=>by
  have ih:=@qcn env x r;dsimp only at ih⊢;rw[List.map_cons];dsimp only;cases hx:x==n with
  |true=>
   simp only[List.lookup_cons,hx] at h;cases h;by_cases hf:(NameKind.free==NameKind.free&&env.scope.kind== .function&&env.kindOf n==some .cell)=true
   ·rw[if_pos hf];exact .inl (by simp[List.lookup_cons,hx])
   ·rw[if_neg hf];exact .inr (by simp[List.lookup_cons,hx])
  |false=>
   simp only[List.lookup_cons,hx] at h;by_cases hf:(k==NameKind.free&&env.scope.kind== .function&&env.kindOf n==some .cell)=true
   ·rw[if_pos hf];simp only[List.lookup_cons,hx];exact ih h
   ·rw[if_neg hf];simp only[List.lookup_cons,hx];exact ih h
def qao(X:Cx)(scope:Scope)(own:List Str)(fr:List (Str×Nat))(fp:List Addr)(s3:Shared)(H3:Hp):Cx where
 prog:=X.prog
 w:=X.w
 K:=X.K
 mg:=X.mg
 base:=X.base
 A:=X.A
 N:=own++fr.map (·.1)
 s₀:=s3
 H₀:=H3
 env:=compEnvC scope (clOf X.env scope.names []) s3.heap.objs.size X.env
 outer:=X.stack
 stack:=X.stack
 ex:=fp
 calm:=X.calm
 fn:=λ_=>false
 pn:=[]
 xe:=λ_ _=>False
def qeB(own:List Str)(fr:List (Str×Nat))(σ:St):St:=own.map (λ_=>none)++fr.map λp=>(σ[p.2]?).join
def qh1(Y:Cx)(ifs:List Expr)(tt:TT):Prop:=
 ∀(pins:List (Addr×Obj)) (s:Shared) (σ:St) (H:Hp) (Q:Bool->Hp->Prop),Inv Y pins σ H s->tt σ H Q->
  wpAny (model Y.prog Y.w) Y.A (forIn ifs true λc r=>if r=true then do let ok <-isTrue c Y.env (eval c Y.env);pure (ForInStep.yield ok) else pure (ForInStep.yield r)) (TP Y pins σ Q) Y.xe s
def qmO:TT:=λ_ H Q=>Q true H
theorem qkO:qh1 Y [] qmO:=λ_ _ _ H _ I h=>wpAny_tests_nil ⟨H,I,h⟩
theorem qkN(h:PT Y c t):qh1 Y [c] t:=λpins s σ H Q I q=>wpAny_tests_one (h pins s σ H Q I q)
section
theorem qhS (hE: ∀e s',Ex e s'->notedBy (model prog w) A env (λe s'=>R (.error e) s') e s') (J:Nat->Shared->Prop) (turn: ∀n s,J n s->wpAny (model prog w) A (pyNext it) (λr s1=>match r with
   |none=>R (.ok .next) s1
   | some v=>wpAny (model prog w) A (letOwnedTupleGo tg it v) (λ_ s2=>wpAny (model prog w) A (assign tg env v) (λ_ s3=>
     wpAny (model prog w) A (forIn ifs true λc r=>if r=true then do let ok <-isTrue c env (eval c env);pure (ForInStep.yield ok) else pure (ForInStep.yield r)) (λok s4=>
      if ok=true then wpAny (model prog w) A (eval elt env) (λx s5=>wpAny (model prog w) A (call (.builtin "list.append") [acc,x]) (λ_ s6=> ∃m,m<n/\J m s6) Ex s5) Ex s4
      else ∃m,m<n/\J m s4) Ex s3) Ex s2) Ex s1) Ex s) (n:Nat) (h:J n s):codeAny (model prog w) A (.compLoop (.ListComp elt [⟨tg,iter,ifs,0⟩] scope pos) 0 it acc env) R s:=by
 refine codeAny_loop rfl J (λn s hJ=> ?_) n h;show wpAny _ A ((compTurn (.ListComp elt [⟨tg,iter,ifs,0⟩] scope pos) 0 it acc env).onRaise (λx=>do noteFrame x env;theTreesLotGoes x)) _ _ s;refine wpAny_noted ?_;rw[compTurn_list];have go: ∀{α:Type} {t:Sem α} {Q Q':α->Shared->Prop} {s:Shared},wpAny (model prog w) A t Q Ex s->(∀a s,Q a s->Q' a s)->wpAny (model prog w) A t Q' (notedBy (model prog w) A env λe s'=>R (.error e) s') s:=λh hQ=>Vc h hQ hE;refine Va (wpAny_standAt (Va (go (turn n s hJ) λr s1 h1=> ?_)));cases r with
 |none=>exact Vb h1
 |some v=>
  refine Va (go h1 λ_ s2 h2=>Va (go h2 λ_ s3 h3=>Va (go h3 λok s4 h4=> ?_)));cases ok with
  |false=>exact Vb ⟨rfl,h4⟩
  |true=>exact Va (Va (go h4 λx s5 h5=>Va (go h5 λ_ s6 h6=>Vb (Vb ⟨rfl,h6⟩))))
end
def qub(J:It)(D:Addr)(g:TG)(tt:TT)(te:TE)(σ0:St)(H0:Hp)(Q:Addr->Hp->Prop):Prop:=
 ∃W:Nat->Nat->St->Hp->Prop,(∃m,W 0 m σ0 H0)/\∀i m dj H2,W i m dj H2->
  (J.stop i H2/\Q D H2)\/(J.go i H2/\∃(Ny:St->V->Hp->Prop) (Nn:St->Hp->Prop),
   (∀aN y H6,Ny aN y H6->∃ys,H6 D=some (.lst ys)/\ys.length<sizeLine/\∃m',m'<m/\W (i+1) m' aN (upd H6 D (.lst (ys++[y]))))/\
   (∀aN H5,Nn aN H5->∃m',m'<m/\W (i+1) m' aN H5)/\
   ∀x H3,J.yld i H2 x H3->g x dj H3 λaN H4=>tt aN H4 λb H5=>if b=true then te aN H5 (Ny aN) else Nn aN H5)
def qey(wi:TI)(g:TG)(tt:TT)(te:TE)(own:List Str)(fr:List (Str×Nat))(σ:St)(H:Hp)(Q:Addr->Hp->Prop):Prop:=
 wi σ H λJ H1=> ∀D,H1 D=none->qub J D g tt te (qeB own fr σ) (upd H1 D (.lst [])) Q
section
theorem qlC {X:Cx} {elt:Expr} {tg:Expr} {iter:Expr} {ifs:List Expr} {scope:Scope} {pos:Pos} {own:List Str} {fr:List (Str×Nat)} {wi:TI} {g:TG} {tt:TT} {te:TE} {R:Value->Env->Result->Shared->Prop} {xe:List Addr->Shared->Hp->Value->Shared->Prop} {pins:List (Addr×Obj)} {σ:St} {H:Hp} {s:Shared} {Q:Addr->Hp->Prop} (hc:X.calm=true) (hi:PI X tg iter wi) (hk:scope.kind= .function) (ar: ∀y∈scope.names,y.2≠.cell) (ai: ∀y∈scope.names,y.2= .free->X.env.kindOf y.1=some .cell\/X.env.kindOf y.1=some .free) (bL: ∀p∈fr,X.N[p.2]? =some p.1/\scope.names.lookup p.1=some .free) (hb: ∀(fp:List Addr) (s3:Shared) (H3:Hp),PG ((qao X scope own fr fp s3 H3).wish (xe fp s3 H3)) tg g/\qh1 ((qao X scope own fr fp s3 H3).wish (xe fp s3 H3)) ifs tt/\PE ((qao X scope own fr fp s3 H3).wish (xe fp s3 H3)) elt te) (I:Inv X pins σ H s) (h:qey wi g tt te own fr σ H Q) (fin: ∀(D:Addr) (ce:Env) (H':Hp) (s':Shared) (m:Str->Option Value),Inv X pins σ H' s'->qkb X pins H' ce.locals->s'.heap.Ns ce.locals m->Q D H'->R (.ref D) ce (.ok .next) s') (iO: ∀(D:Addr) (fp:List Addr) (s3:Shared) (H3:Hp) (e:Value) (s':Shared),Inv X pins σ H3 s3->(∀b∈fp,b<s3.heap.objs.size/\qkb X pins H3 b)->xe fp s3 H3 e s'->
   notedBy (model X.prog X.w) X.A (compEnvC scope (clOf X.env scope.names []) s3.heap.objs.size X.env) (λx s''=>R (.ref D) (compEnvC scope (clOf X.env scope.names []) s3.heap.objs.size X.env) (.error x) s'') e s'):
  wpAny (model X.prog X.w) X.A (eval iter X.env) (λx s1=>wpAny (model X.prog X.w) X.A (pyIter x) (λit s2=>wpAny (model X.prog X.w) X.A (newList []) (λacc s3=>
   wpAny (model X.prog X.w) X.A (newFunctionEnv scope X.env.globals (clOf X.env scope.names []) [] X.env.qual none .none (some X.env)) (λce s4=>
    codeAny (model X.prog X.w) X.A (.compStart (.ListComp elt [⟨tg,iter,ifs,0⟩] scope pos) 0 it acc { ce with scope:=relabel scope X.env }) (R acc { ce with scope:=relabel scope X.env }) s4) X.xe s3) X.xe s2) X.xe s1) X.xe s:=by
 have iD: ∀x∈scope.names,x.2= .free->∃c,X.env.cells.lookup x.1=some c:=λx hx e=>I.ok.has x.1 (ai x hx e);refine thn (hi pins s σ H _ I h) λxv s1 h1=>thn h1 λitv s2 h2=> ?_;obtain⟨it,fp,tn,J,H2,rfl,I2,T,bJ,f2,h2⟩:=h2;refine wpAny_newObj_type (hd:=by size_fits) ?_;generalize hD:s2.heap.objs.size=D;have I3:Inv X pins σ (upd H2 D (.lst [])) { s2 with heap:=s2.heap.push { cls:=.type "list",dict:=none,data:=.seq ([]:List Value).toArray } }:=by rw[<-hD];exact I2.lnew (its:=[]) (ys:=[]) (t':=s2.toks) .nil (Nat.zero_le _)
 have nD:H2 D=none:=I2.hok.fresh (Nat.le_of_eq hD);obtain⟨W,⟨m0,w0⟩,turn⟩:=h2 D nD;have f3: ∀b∈fp,b<s2.heap.objs.size/\qkb X pins (upd H2 D (.lst [])) b:=λb hb=>by obtain⟨o,e,_⟩:=T.obj _ _ bJ b hb;have lt:=Vi e;exact⟨lt,by rw[qaa (by rw[<-hD];exact Vp lt)];exact(f2 b hb).1,(f2 b hb).2⟩
 have cZ:tn 0 (s2.heap.push { cls:=.type "list",dict:=none,data:=.seq ([]:List Value).toArray }):=T.keep _ _ _ bJ λb _ o e=>Vg _ e;generalize hs3:({ s2 with heap:=s2.heap.push { cls:=.type "list",dict:=none,data:=.seq ([]:List Value).toArray } }:Shared)=s3 at I3⊢;have gj:s3.heap=s2.heap.push { cls:=.type "list",dict:=none,data:=.seq ([]:List Value).toArray }:=by rw[<-hs3]
 rw[<-gj] at cZ;have eM:s3.heap.objs.size=s2.heap.objs.size+1:=by rw[gj,Heap.size_push]
 generalize iJ:upd H2 D (.lst [])=H3 at I3 w0 f3;refine wpAny_newFunctionEnv ar (by intro y hy;simp at hy) (λh4 hn4 hs4=> ?_) hk;have cq: ∀b o,s3.heap.get? b=some o->h4.get? b=some o:=λb o e=>
  (hs4.2 b (Vp (Vi e))).trans (Vg _ e)
 generalize dH:({ s3 with heap:=h4,toks:=s3.toks+([]:List (Str×Value)).length }:Shared)=s4;have eC:s4.heap=h4:=by rw[<-dH]
 have aS: ∀x c,(clOf X.env scope.names []).lookup x=some c->X.env.cells.lookup x=some c:=λx c=>qgV _ _ (λ_ _ z=>by cases z);have Y0:Inv ((qao X scope own fr fp s3 H3).wish (xe fp s3 H3)) [] (qeB own fr σ) H3 s4:=by
  refine⟨⟨I3.ok.mod,hk,I3.ok.glob,I3.ok.blt,Vm _,λx y c h1 h2=>I3.ok.inj x y c (aS x c h1) (aS y c h2),λx hx=> ?_,λx c z=>absurd (show false=true from z) Vs,I3.ok.hd,I3.ok.frames,.inl rfl,λb hb=>⟨?_,λx c e=>(f3 b hb).2.2.2.2.2.1 x c (aS x c e)⟩,
   I3.bs,Vr I3.ok.bsz I3.sz,λb o e hb=> ?_,λb hb z=> ?_,I3.stack,I3.stkFree⟩,by rw[<-dH];rfl,by rw[<-dH];exact I3.bare,?_,⟨_,by rw[eC];exact hn4,λi x v e1 e2 e3=> ?_⟩,λx c e=> ?_,I3.hok.fresh (Vm _),λx c e=>I3.freeC x c (aS x c e),λp hp=>absurd (show p∈([]:List (Addr×Obj)) from hp) (by simp),?_,?_⟩
  ·have cR:(relabel scope X.env).names.lookup x=some .cell\/(relabel scope X.env).names.lookup x=some .free:=hx;have hf:scope.names.lookup x=some .free:=by
    rcases cR with z|z
    ·exact qbm ar (.inl rfl) z
    ·exact qbm ar (.inr rfl) z
   obtain⟨c,hc⟩:=iD (x,.free) (Vw hf) rfl;exact⟨c,qc4 _ _ hc (.inr (Vw hf))⟩
  ·have:=(f3 b hb).1;exact Vp (Vn this (show s2.heap.objs.size<=s3.heap.objs.size by rw[eM];exact Wc _))
  ·rcases(f3 b hb).2.2.2.2.1 with z|z
   ·exact I3.ok.noex b o e z
   ·exact absurd (Vn (Vi (I3.ok.bs b o e).1) z) (Nat.lt_irrefl _)
  ·rcases List.mem_cons.mp (I3.stkSub b z) with q|q
   ·exact(f3 b hb).2.2.1 q
   ·exact(f3 b hb).2.2.2.1 q
  ·exact Un.kept (by rw[eC];exact cq)
  ·
   have aL:own.length<=i:=by
    by_cases q:own.length<=i
    ·exact q
    ·exfalso;have cH:(own.map (λ_=>(none:Option V))++fr.map λp=>(σ[p.2]?).join)[i]? =some (some v):=e2;rw[List.getElem?_append_left (by simpa using q),List.getElem?_map] at cH;cases q2:own[i]? with
     |none|some z=>rw[q2] at cH;cases cH
   have cH:(own.map (λ_=>(none:Option V))++fr.map λp=>(σ[p.2]?).join)[i]? =some (some v):=e2;rw[List.getElem?_append_right (by simpa using aL),List.getElem?_map,List.length_map] at cH;have iR:(own++fr.map (·.1))[i]? =some x:=e1;rw[List.getElem?_append_right aL,List.getElem?_map] at iR;cases q2:fr[i - own.length]? with
   |none=>rw[q2] at cH;cases cH
   |some p=>
    rw[q2] at iR cH;obtain rfl:p.1=x:=Option.some.inj iR;have e4:(σ[p.2]?).join=some v:=Option.some.inj cH;have e5:σ[p.2]? =some (some v):=by
     cases q3:σ[p.2]? with
     |none=>rw[q3] at e4;cases e4
     |some z=>rw[q3] at e4;exact congrArg some e4
    obtain⟨g1,g2⟩:=bL p (Vv q2);have kx:=ai (p.1,.free) (Vw g2) rfl;obtain⟨mX,hnX,hlX⟩:=I3.loc;obtain⟨u,ru,lu⟩:=hlX p.2 p.1 v g1 e5 (kx.elim (λz=>.inr (.inl z)) λz=>.inr (.inr z));refine⟨u,ru,.inr ⟨qcn g2,?_⟩⟩
    rcases lu with⟨z,_⟩|⟨_,c,e6,e7⟩
    ·rcases kx with kx|kx
     ·rw[kx] at z;cases z
     ·rw[kx] at z;cases z
    ·obtain⟨oc,ez,hd⟩:=e7;exact⟨c,qc4 _ _ e6 (.inr (Vw g2)),oc,by rw[eC];exact cq _ _ ez,hd⟩
  ·obtain⟨v,oc,ez,hd⟩:=I3.cell x c (aS x c e);exact⟨v,oc,by rw[eC];exact cq _ _ ez,hd⟩
  ·exact I3.hok.kept (by rw[eC];exact cq)
  ·show(own.map (λ_=>(none:Option V))++fr.map λp=>(σ[p.2]?).join).length=(own++fr.map (·.1)).length;simp
 have fY: ∀{H':Hp},(∀b∈fp,H' b=none)->∀b∈fp,qkb ((qao X scope own fr fp s3 H3).wish (xe fp s3 H3)) [] H' b:=λ{H'} hn b hb=>
  ⟨hn b hb,(Y0.ok.exf b hb).1,Y0.ok.exfs b hb,.inl hb,(Y0.ok.exf b hb).2,λp hp=>absurd (show p∈([]:List (Addr×Obj)) from hp) (by simp)⟩
 have iZ:tn 0 s4.heap:=T.keep _ _ _ cZ (by rw[eC];exactλb _ o e=>cq b o e);have jk:((qao X scope own fr fp s3 H3).wish (xe fp s3 H3)).calm=true:=hc;obtain⟨hg,ht,he⟩:=hb fp s3 H3;have loop:codeAny (model X.prog X.w) X.A (.compLoop (.ListComp elt [⟨tg,iter,ifs,0⟩] scope pos) 0 (.ref it) (.ref D) (compEnvC scope (clOf X.env scope.names []) s3.heap.objs.size X.env)) (R (.ref D) (compEnvC scope (clOf X.env scope.names []) s3.heap.objs.size X.env)) s4:=by
  refine qhS (Ex:=xe fp s3 H3) (λe s' q=>iO D fp s3 H3 e s' I3 (λb hb=>⟨Vn (f3 b hb).1 (by rw[eM];exact Wc _),(f3 b hb).2⟩) q) (λn s'=> ∃i aj H',Inv ((qao X scope own fr fp s3 H3).wish (xe fp s3 H3)) [] aj H' s'/\tn i s'.heap/\(∀b∈fp,H' b=none)/\W i n aj H') ?_ m0 ⟨0,_,_,Y0,iZ,λb hb=>(f3 b hb).2.1,w0⟩;rintro n s5 ⟨i,cY,H5,I5,st5,gy,w5⟩
  rcases turn i n cY H5 w5 with⟨stop,q⟩|⟨go,Ny,Nn,hNy,hNn,step⟩
  ·refine thn (T.done ((qao X scope own fr fp s3 H3).wish (xe fp s3 H3)) rfl rfl rfl jk i [] s5 cY H5 _ I5 (fY gy) st5 stop) λr s6 fj=> ?_;obtain⟨hr,I6⟩:=fj;subst hr;have IX:Inv X pins σ H5 s6:=I3.call' (ch:=fp) I6.os I6.base I6.hok I6.bare λb hb=>⟨(f3 b hb).2.2.2.2.1,(f3 b hb).2.2.1,(f3 b hb).2.2.2.2.2.1,(f3 b hb).2.2.2.2.2.2⟩
   obtain⟨m6,hn6,_⟩:=I6.loc;exact fin D _ H5 s6 m6 IX (I3.fpOk (Vm _) I6.free) hn6 q
  ·refine thn (T.item ((qao X scope own fr fp s3 H3).wish (xe fp s3 H3)) rfl rfl rfl jk i [] s5 cY H5 _ I5 (fY gy) st5 go) λr s6 fh=> ?_;obtain⟨u,hr,h6⟩:=fh;subst hr;refine thn h6 λ_ s7 fg=> ?_;obtain⟨x,H7,I7,r7,y7,st7,fr7⟩:=fg;have I7':=I7.pinned (fY fr7) (T.obj _ _ st7);refine thn (hg _ s7 cY H7 x u _ I7' r7 (step x H7 y7)) λ_ s8 ff=> ?_;obtain⟨bV,H8,I8,q8⟩:=ff;refine thn (ht _ s8 bV H8 _ I8 q8) λb s9 fe=> ?_;obtain⟨H9,I9,q9⟩:=fe;have again: ∀{s':Shared} {H':Hp} {m':Nat},Inv ((qao X scope own fr fp s3 H3).wish (xe fp s3 H3)) ([]++qeJ fp s7.heap) bV H' s'->m'<n->W (i+1) m' bV H'->∃m,m<n/\∃i aj H',Inv ((qao X scope own fr fp s3 H3).wish (xe fp s3 H3)) [] aj H' s'/\tn i s'.heap/\(∀b∈fp,H' b=none)/\W i m aj H':=λ{s' H' m'} I' hm w'=>by refine⟨m',hm,i+1,bV,H',I'.unpinned,T.keep _ _ _ st7 λb hb o e=>(I'.pin (b,o) (Vu _ (Vu _ (qbu hb e)))).1,λb hb=> ?_,w'⟩;obtain⟨o,e,d⟩:=T.obj _ _ st7 b hb;exact(I'.pin (b,o) (Vu _ (Vu _ (qbu hb e)))).2.1
   cases b with
   |false=>obtain⟨m',hm,w'⟩: ∃m',m'<n/\W (i+1) m' bV H9:=hNn bV H9 (by simpa using q9);show ∃m,_;exact again I9 hm w'
   |true=>
    have q9':te bV H9 (Ny bV):=by simpa using q9
    show wpAny _ _ _ _ _ _;refine thn (he _ s9 bV H9 _ I9 q9') λxv s10 fc=> ?_;obtain⟨y,jI,I10,r10,q10⟩:=fc;obtain⟨ys,hys,hlen,m',hm,w'⟩:=hNy bV y jI q10;refine thn (qeR _ s10 bV jI (.ref D) [y] (.ref D) [xv] (λ_ H'=> ∃m',m'<n/\W (i+1) m' bV H') I10 rfl (.cons r10 .nil) ⟨D,ys,y,rfl,rfl,hys,hlen,m',hm,w'⟩) λ_ i3 fb=> ?_;obtain⟨_,H11,I11,_,m2,gd,w2⟩:=fb;exact again I11 gd w2
 refine codeAny_compStart_list ?_ ?_
 ·exact loop
 ·exact T.self X.A 0 s4 _ _ iZ loop
theorem comp_core {X:Cx} {elt:Expr} {tg:Expr} {iter:Expr} {ifs:List Expr} {scope:Scope} {pos:Pos} {gJ:Pos} {own:List Str} {fr:List (Str×Nat)} {wi:TI} {g:TG} {tt:TT} {te:TE} {use:Option (Value->Sem Unit)} {Qf:Value->Shared->Prop} {pins:List (Addr×Obj)} {σ:St} {H:Hp} {s:Shared} {Q:Addr->Hp->Prop} (hc:X.calm=true) (hi:PI X tg iter wi) (hk:scope.kind= .function) (ar: ∀y∈scope.names,y.2≠.cell) (aC: ∀y∈scope.names,y.2= .local->scope.names.lookup y.1=some .local) (ai: ∀y∈scope.names,y.2= .free->X.env.kindOf y.1=some .cell\/X.env.kindOf y.1=some .free) (bL: ∀p∈fr,X.N[p.2]? =some p.1/\scope.names.lookup p.1=some .free) (hb: ∀(fp:List Addr) (s3:Shared) (H3:Hp),PG (qao X scope own fr fp s3 H3) tg g/\qh1 (qao X scope own fr fp s3 H3) ifs tt/\PE (qao X scope own fr fp s3 H3) elt te) (hs: ∀x,foldedSetIterable iter X.env x=pure x) (I:Inv X pins σ H s) (h:qey wi g tt te own fr σ H Q) (fin: ∀(D C:Addr) (H':Hp) (s':Shared) (m:Str->Option Value),Inv X pins σ H' s'->qkb X pins H' C->s'.heap.Ns C m->Q D H'->compPost (model X.prog X.w) X.A X.xe use Qf (.ref D) C (.ok .next) s'):
  wpAny (model X.prog X.w) X.A (comprehension (.ListComp elt [⟨tg,iter,ifs,0⟩] scope pos) scope X.env gJ (newList []) false (eval iter X.env) use) Qf X.xe s:=
 wpAny_comprehension_free (cl:=clOf X.env scope.names []) rfl hs (qdD λx hx e=>I.ok.has x.1 (ai x hx e)) hk aC
  (qlC (R:=λacc ce=>compPost (model X.prog X.w) X.A X.xe use Qf acc ce.locals) (xe:=λ_ _ _ _ _=>False) hc hi hk ar ai bL hb I h (λD ce=>fin D ce.locals) λ_ _ _ _ _ _ _ _ z=>z.elim)
theorem qnm (hc:X.calm=true) (hi:PI X tg iter wi) (hk:scope.kind= .function) (ar: ∀y∈scope.names,y.2≠.cell) (aC: ∀y∈scope.names,y.2= .local->scope.names.lookup y.1=some .local) (ai: ∀y∈scope.names,y.2= .free->X.env.kindOf y.1=some .cell\/X.env.kindOf y.1=some .free) (bL: ∀p∈fr,X.N[p.2]? =some p.1/\scope.names.lookup p.1=some .free) (hb: ∀(fp:List Addr) (s3:Shared) (H3:Hp),PG (qao X scope own fr fp s3 H3) tg g/\qh1 (qao X scope own fr fp s3 H3) ifs tt/\PE (qao X scope own fr fp s3 H3) elt te) (hs: ∀x,foldedSetIterable iter X.env x=pure x:=by intro _; rfl):
  PE X (.ListComp elt [⟨tg,iter,ifs,0⟩] scope pos) (λσ H Q=>qey wi g tt te own fr σ H λD H'=>Q (.ref D) H'):=by intro pins s σ H Q I h;rw[eval_ListComp];refine comp_core (use:=none) hc hi hk ar aC ai bL hb hs I h λD C H' s' m I' f' hn q=> ?_;obtain⟨f0,f1,f2,f3,f4,f5⟩:=f';exact⟨m,hn,λh' cx=>⟨.ref D,H',I'.turned (t':=s'.toks) (λb o hb e=>(cx.2 b hb).trans e) f0 f1 f3 f4 f5,rfl,q⟩⟩
theorem ps_setcomp (hc:X.calm=true) (hi:PI X tg iter wi) (hk:scope.kind= .function) (ar: ∀y∈scope.names,y.2≠.cell) (aC: ∀y∈scope.names,y.2= .local->scope.names.lookup y.1=some .local) (ai: ∀y∈scope.names,y.2= .free->X.env.kindOf y.1=some .cell\/X.env.kindOf y.1=some .free) (bL: ∀p∈fr,X.N[p.2]? =some p.1/\scope.names.lookup p.1=some .free) (hb: ∀(fp:List Addr) (s3:Shared) (H3:Hp),PG (qao X scope own fr fp s3 H3) tg g/\qh1 (qao X scope own fr fp s3 H3) ifs tt/\PE (qao X scope own fr fp s3 H3) elt te) (hN:X.N.Nodup) (ir:X.N[i]? =some y) (hy:X.env.scope.names.lookup y=some .local) (bO:swapsWith (.ListComp elt [⟨tg,iter,ifs,0⟩] scope pos) (some (.Name y py)) spos.line X.env=pure true) (hs: ∀x,foldedSetIterable iter X.env x=pure x:=by intro _; rfl):
  PS X (.Assign [.Name y py] (.ListComp elt [⟨tg,iter,ifs,0⟩] scope pos) spos) (λD σ H=>qey wi g tt te own fr σ H λd H'=>D.nx (σ.set i (some (.ref d))) H'):=by
 intro pins s σ H D I h;rw[exec_Assign_Name_used _ _ _ _ bO];refine Va (wpAny_standAt (Va ?_));show wpAny _ _ (do let _ <-comprehension (.ListComp elt [⟨tg,iter,ifs,0⟩] scope pos) scope X.env _ (newList []) false (eval iter X.env) (some (assign (.Name y py) X.env))) _ _ s;refine Va (thn (comp_core (use:=some (assign (.Name y py) X.env)) (Qf:=λ_ s'=>SP X pins D .next s') hc hi hk ar aC ai bL hb hs I h λd C H' s' m I' f' hn q=> ?_) λ_ s' hq=>Vb (Vb hq));obtain⟨f0,f1,f2,f3,f4,f5⟩:=id f';show wpAny _ _ (assign (.Name y py) X.env (.ref d)) _ _ s';refine wpAny_assign_Name (qeA I' hN ir (.inl hy) (v:=.ref d) rfl (λs'' I'' ⟨a,sb,ha⟩=> ?_) (.inr hy));have aZ:C≠a:=by
  rcases ha with rfl|ha
  ·exact f1
  ·exactλz=>f4 y a ha z.symm
 refine⟨m,hn.sameBut sb aZ,λh' cx=>⟨_,H',I''.turned (t':=s''.toks) (λb o hb e=>(cx.2 b hb).trans e) f0 f1 f3 f4 f5,q⟩⟩
end
end L2
namespace St
open PySem.W PyProof.Rows
def qdh{α:Type}(N:Nat)(ask:Nat->Nat->Bool):KasT α->(α->Prop)->Prop
 |.ret a,Q=>Q a
 |.ask i j k,Q=>i<N/\j<N/\qdh N ask (k (ask i j)) Q
theorem qa2: ∀{t:KasT α},qdh N ask t (λa=>qdh N ask (f a) Q)->qdh N ask (t.bind f) Q
 |.ret _,h=>h
 |.ask _ _ _,⟨h1,h2,h⟩=>⟨h1,h2,qa2 h⟩
theorem qaE{α:Type}{N:Nat}{ask:Nat->Nat->Bool}{Q Q':α->Prop}(hq: ∀a,Q a->Q' a): ∀{t:KasT α},qdh N ask t Q->qdh N ask t Q'
 |.ret _,h=>hq _ h
 |.ask _ _ _,⟨h1,h2,h⟩=>⟨h1,h2,qaE hq h⟩
def g(p:Array Nat)(i:Nat):Nat:=p.getD i 0
theorem qqE(h:p[i]? =q[j]?):g p i=g q j:=by unfold g;rw[Array.getD_eq_getD_getElem?,Array.getD_eq_getD_getElem?,h]
theorem qli(hj:j<=p.size)(t:Nat):g (kas_rev p i j) t=if i<=t/\t<j then g p (i+j - 1 - t) else g p t:=by
 have e:=getElem?_mirror_all (i:=i) hj t;by_cases h1:i<=t/\t<j
 ·rw[if_pos h1] at e⊢;exact qqE e
 ·rw[if_neg h1] at e⊢;exact qqE e
theorem qtn(hk:k<p.size)(hl:l<=k)(t:Nat):g (bubble p k (k - l)) t=if t=l then g p k else if l<t/\t<=k then g p (t - 1) else g p t:=by
 have e:=getElem?_bubble hk (k - l) (Nat.sub_le _ _) t;rw[show k - (k - l)=l by lia] at e;by_cases h1:t=l
 ·rw[if_pos h1] at e⊢;exact qqE e
 ·rw[if_neg h1] at e⊢;by_cases h2:l<t/\t<=k
  ·rw[if_pos h2] at e⊢;exact qqE e
  ·rw[if_neg h2] at e⊢;exact qqE e
theorem qdW(p:Array Nat)(i j:Nat):(kas_rev p i j).size=p.size:=mirror_size _ _ _ _
section
variable (N:Nat)(k:Nat->Int)
def L(a b:Nat):Prop:=k a<k b\/(k a=k b/\a<b)
structure Pre(n:Nat)(p:Array Nat):Prop where
 sz:p.size=N
 lo: ∀i,i<n->g p i<n
 hi: ∀i,n<=i->i<N->g p i=i
def Srt(p:Array Nat)(n:Nat):Prop:= ∀i j,i<j->j<n->L k (g p i) (g p j)
def Dsc(p:Array Nat)(n:Nat):Prop:= ∀i j,i<j->j<n->L k (g p j) (g p i)
structure qoM(p:Array Nat)(n q:Nat):Prop where
 pre:Pre N n p
 q1:q+1<=n
 a: ∀i j,i<j->j<n - (q+1)->L k (g p j) (g p i)
 b: ∀i j,i<n - (q+1)->n - (q+1)<=j->j<n->k (g p j)<k (g p i)
 c: ∀i j,n - (q+1)<=i->i<j->j<n->k (g p i)=k (g p j)/\g p i<g p j
def qbP:Nat->Nat->Bool:=λi j=>decide (k i<k j)
end
section
theorem Pre.lt(h:Pre N n p)(hn:n<=N)(hi:i<N):g p i<N:=by
 by_cases q:i<n
 ·exact Vn (h.lo i q) hn
 ·rw[h.hi i (by lia) hi];exact hi
theorem L.le(h:L k a b):k a<=k b:=by
 rcases h with h|h
 ·lia
 ·lia
theorem Pre.more(h:Pre N n p)(hn:n<N):Pre N (n+1) p:=
 ⟨h.sz,λi hi=>by
  by_cases q:i<n
  ·exact Nat.lt_succ_of_lt (h.lo i q)
  ·have e:i=n:=by lia
   subst e;rw[h.hi i (Nat.le_refl _) hn];lia,λi h1 h2=>h.hi i (by lia) h2⟩
theorem qj0 {N:Nat} {k:Nat->Int} {p:Array Nat}: ∀(f n:Nat),1<=n->n+f<=N->Pre N n p->Srt k p n->
  qdh N (qbP k) (kas_asc p f n) λm=>n<=m/\m<=n+f/\Pre N m p/\Srt k p m/\(m=n+f\/k (g p m)<k (g p (m - 1)))
 |0,n,h1,hf,hp,hs=>⟨Vm _,Vm _,hp,hs,.inl rfl⟩
 |f+1,n,h1,hf,hp,hs=>by
  refine⟨hp.lt (by lia) (by lia),hp.lt (by lia) (by lia),?_⟩;show qdh N (qbP k) (if qbP k (g p n) (g p (n - 1))=true then .ret n else kas_asc p f (n+1)) _;by_cases hc:k (g p n)<k (g p (n - 1))
  ·rw[if_pos (by simpa [qbP] using hc)];exact⟨Vm _,by lia,hp,hs,.inr hc⟩
  ·rw[if_neg (by simpa [qbP] using hc)];have cx:Srt k p (n+1):=λi j aJ hj=>by
    by_cases q:j<n
    ·exact hs i j aJ q
    ·have e:j=n:=by lia
     subst e;have en:=hp.hi j (Vm _) (by lia);have lt:=hp.lo i aJ;have le:k (g p i)<=k (g p (j - 1)):=by
      by_cases q2:i=j - 1
      ·rw[q2];exact Int.le_refl _
      ·exact(hs i (j - 1) (by lia) (by lia)).le
     unfold L;rw[en] at hc⊢;lia
   refine qaE (λm h=> ?_) (qj0 f (n+1) (by lia) (by lia) (hp.more (by lia)) cx);obtain⟨a,b,c,d,e⟩:=h;exact⟨by lia,by lia,c,d,e.elim (λz=>.inl (by lia)) .inr⟩
def fin(p:Array Nat)(n q:Nat):Array Nat:=if q>0 then kas_rev p (n - (q+1)) n else p
theorem qoM.fin(h:qoM N k p n q)(hn:n<=N):Pre N n (fin p n q)/\Dsc k (fin p n q) n:=by
 unfold St.fin;by_cases hq:q>0
 ·rw[if_pos hq];have gr:=qli (p:=p) (i:=n - (q+1)) (j:=n) (by rw[h.pre.sz];exact hn);refine⟨⟨by rw[qdW];exact h.pre.sz,λi hi=> ?_,λi h1 h2=> ?_⟩,λi j aJ hj=> ?_⟩
  ·rw[gr];split
   ·exact h.pre.lo _ (by lia)
   ·exact h.pre.lo _ hi
  ·rw[gr,if_neg (by lia)];exact h.pre.hi i h1 h2
  ·rw[gr,gr];have je:=h.q1;by_cases q1:n - (q+1)<=j
   ·rw[if_pos (show n - (q+1)<=j/\j<n from⟨q1,hj⟩)];by_cases q2:n - (q+1)<=i
    ·rw[if_pos (show n - (q+1)<=i/\i<n from⟨q2,by lia⟩)];have e:=h.c (n - (q+1)+n - 1 - j) (n - (q+1)+n - 1 - i) (by lia) (by lia) (by lia);exact .inr e
    ·rw[if_neg (by lia)];exact .inl (h.b i _ (by lia) (by lia) (by lia))
   ·rw[if_neg (by lia),if_neg (by lia)];exact h.a i j aJ (by lia)
 ·rw[if_neg hq];have e:q=0:=by lia
  subst e;refine⟨h.pre,λi j aJ hj=> ?_⟩;have je:=h.q1;by_cases q1:j<n - (0+1)
  ·exact h.a i j aJ q1
  ·exact .inl (h.b i j (by lia) (by lia) hj)
theorem qf1 {N:Nat} {k:Nat->Int}: ∀(f:Nat) (p:Array Nat) (n q:Nat),n+f<=N->qoM N k p n q->
  qdh N (qbP k) (kas_desc f p n q) λr=>n<=r.2.1/\r.2.1<=n+f/\qoM N k r.1 r.2.1 r.2.2
 |0,p,n,q,hf,h=>⟨Vm _,Vm _,h⟩
 |f+1,p,n,q,hf,h=>by
  have je:=h.q1;have lt: ∀{i},i<N->g p i<N:=λhi=>h.pre.lt (by lia) hi;refine⟨lt (by lia),lt (by lia),?_⟩;have en:=h.pre.hi n (Vm _) (by lia)
  show qdh N (qbP k) (if qbP k (g p n) (g p (n - 1))=true then(if q>0 then kas_desc f (kas_rev p (n - (q+1)) n) (n+1) 0 else kas_desc f p (n+1) 0)
   else .ask (g p (n - 1)) (g p n) λd=>if d=true then .ret (p,n,q) else kas_desc f p (n+1) (q+1)) _
  have kle: ∀i,i<n->k (g p (n - 1))<=k (g p i):=λi hi=>by
   by_cases q1:i<n - (q+1)
   ·exact Int.le_of_lt (h.b i (n - 1) q1 (by lia) (by lia))
   ·by_cases q2:i=n - 1
    ·rw[q2];exact Int.le_refl _
    ·exact Int.le_of_eq (h.c i (n - 1) (by lia) (by lia) (by lia)).1.symm
  by_cases hc:k (g p n)<k (g p (n - 1))
  ·rw[if_pos (by simpa [qbP] using hc)];have key:qoM N k (fin p n q) (n+1) 0:=by
    obtain⟨fp,fd⟩:=h.fin (by lia);have e2:=fp.hi n (Vm _) (by lia);refine⟨fp.more (by lia),by lia,λi j aJ hj=>fd i j aJ (by lia),λi j hi h1 h2=> ?_,λi j h1 h2 h3=>by lia⟩;have ej:j=n:=by lia
    subst ej;rw[e2];rw[en] at hc;refine Int.lt_of_lt_of_le hc ?_;have: ∃i',i'<j/\g (fin p j q) i=g p i':=by
     unfold St.fin;by_cases hq:q>0
     ·rw[if_pos hq,qli (by rw[h.pre.sz];lia)];split
      ·exact⟨_,by lia,rfl⟩
      ·exact⟨i,by lia,rfl⟩
     ·rw[if_neg hq];exact⟨i,by lia,rfl⟩
    obtain⟨i',aL,e3⟩:=this;rw[e3];exact kle i' aL
   have e:(if q>0 then kas_desc f (kas_rev p (n - (q+1)) n) (n+1) 0 else kas_desc f p (n+1) 0)=kas_desc f (fin p n q) (n+1) 0:=by
    unfold St.fin
    split<;>rfl
   rw[e];refine qaE (λr hr=>⟨by lia,by lia,hr.2.2⟩) (qf1 f (fin p n q) (n+1) 0 (by lia) key)
  ·rw[if_neg (by simpa [qbP] using hc)];refine⟨lt (by lia),lt (by lia),?_⟩;show qdh N (qbP k) (if qbP k (g p (n - 1)) (g p n)=true then .ret (p,n,q) else kas_desc f p (n+1) (q+1)) _;by_cases hd:k (g p (n - 1))<k (g p n)
   ·rw[if_pos (by simpa [qbP] using hd)];exact⟨Vm _,Nat.le_add_right _ _,h⟩
   ·rw[if_neg (by simpa [qbP] using hd)];have ek:k (g p n)=k (g p (n - 1)):=by lia
    have key:qoM N k p (n+1) (q+1):=by
     refine⟨h.pre.more (by lia),by lia,λi j aJ hj=>h.a i j aJ (by lia),λi j hi h1 h2=> ?_,λi j h1 h2 h3=> ?_⟩
     ·by_cases e:j=n
      ·subst e;rw[ek];exact h.b i (j - 1) (by lia) (by lia) (by lia)
      ·exact h.b i j (by lia) (by lia) (by lia)
     ·by_cases e:j=n
      ·subst e;refine⟨?_,?_⟩
       ·rw[ek];by_cases e2:i=j - 1
        ·rw[e2]
        ·exact(h.c i (j - 1) (by lia) (by lia) (by lia)).1
       ·rw[en];exact h.pre.lo i h2
      ·exact h.c i j (by lia) h2 (by lia)
    exact qaE (λr hr=>⟨by lia,by lia,hr.2.2⟩) (qf1 f p (n+1) (q+1) (by lia) key)
def Out(N:Nat)(k:Nat->Int)(r:Nat×Array Nat):Prop:=1<=r.1/\r.1<=N/\Pre N r.1 r.2/\Srt k r.2 r.1
theorem qmI{N:Nat}{k:Nat->Int}{p:Array Nat}{n:Nat}(h1:1<=n)(hn:n<=N)(hp:Pre N n p)(hd:Dsc k p n):qdh N (qbP k) (kas_tail3 n N p) (Out N k):=by
 have gr:=qli (p:=p) (i:=0) (j:=n) (by rw[hp.sz];exact hn);refine qa2 (qaE (λm h=> ?_) (qj0 (p:=kas_rev p 0 n) (N - n) n h1 (by lia) ⟨by rw[qdW];exact hp.sz,λi hi=> ?_,λi h2 h3=> ?_⟩ λi j aJ hj=> ?_))
 ·exact⟨by lia,by lia,h.2.2.1,h.2.2.2.1⟩
 ·rw[gr,if_pos ⟨Nat.zero_le _,hi⟩];exact hp.lo _ (by lia)
 ·rw[gr,if_neg (by lia)];exact hp.hi i h2 h3
 ·rw[gr,gr,if_pos ⟨Nat.zero_le _,by lia⟩,if_pos ⟨Nat.zero_le _,hj⟩];exact hd _ _ (by lia) (by lia)
theorem qc1{N:Nat}{k:Nat->Int}{p:Array Nat}{n:Nat}(hn:n+1<=N)(h:qoM N k p (n+1) 0):qdh N (qbP k) (kas_descPart n N p) (Out N k):=by
 refine qa2 (qaE (λr hr=> ?_) (qf1 (N - (n+1)) p (n+1) 0 (by lia) h));obtain⟨h1,h2,h3⟩:=hr;obtain⟨f1,f2⟩:=h3.fin (by lia);have e:(if r.2.2>0 then kas_tail3 r.2.1 N (kas_rev r.1 (r.2.1 - (r.2.2+1)) r.2.1) else kas_tail3 r.2.1 N r.1)=kas_tail3 r.2.1 N (fin r.1 r.2.1 r.2.2):=by
  unfold St.fin
  split<;>rfl
 show qdh N (qbP k) (if r.2.2>0 then kas_tail3 r.2.1 N (kas_rev r.1 (r.2.1 - (r.2.2+1)) r.2.1) else kas_tail3 r.2.1 N r.1) _;rw[e];exact qmI (by lia) (by lia) f1 f2
theorem qlB{N:Nat}{k:Nat->Int}{p:Array Nat}(hN:1<=N)(hp:Pre N 1 p):qdh N (qbP k) (kas_count N p) (Out N k):=by
 refine qa2 (qaE (λn h=> ?_) (qj0 (p:=p) (N - 1) 1 (Vm _) (by lia) hp λi j h1 h2=>by lia));obtain⟨h1,h2,h3,h4,h5⟩:=h;by_cases e:n=N
 ·rw[if_pos (by simpa using e)];exact⟨h1,by lia,h3,h4⟩
 ·rw[if_neg (by simpa using e)];have aI:k (g p n)<k (g p (n - 1)):=h5.resolve_left (by lia);by_cases hg:n>1
  ·rw[if_pos hg];refine⟨h3.lt (by lia) (by lia),h3.lt (by lia) (by lia),?_⟩;show qdh N (qbP k) (if qbP k (g p 0) (g p (n - 1))=true then .ret (n,p) else kas_descPart n N (kas_rev p 0 n)) _;by_cases hc:k (g p 0)<k (g p (n - 1))
   ·rw[if_pos (by simpa [qbP] using hc)];exact⟨h1,by lia,h3,h4⟩
   ·rw[if_neg (by simpa [qbP] using hc)];have gr:=qli (p:=p) (i:=0) (j:=n) (by rw[h3.sz];lia);have gR: ∀i,i<n->k (g p i)=k (g p (n - 1)):=λi hi=>by
     have a1:k (g p 0)<=k (g p i):=by
      by_cases q:i=0
      ·rw[q];exact Int.le_refl _
      ·exact(h4 0 i (by lia) hi).le
     have a2:k (g p i)<=k (g p (n - 1)):=by
      by_cases q:i=n - 1
      ·rw[q];exact Int.le_refl _
      ·exact(h4 i (n - 1) (by lia) (by lia)).le
     lia
    refine qc1 (by lia) ⟨Pre.more ⟨by rw[qdW];exact h3.sz,λi hi=> ?_,λi q1 q2=> ?_⟩ (by lia),by lia,λi j aJ hj=> ?_,λi j hi q1 q2=> ?_,λi j q1 q2 q3=>by lia⟩
    ·rw[gr,if_pos ⟨Nat.zero_le _,hi⟩];exact h3.lo _ (by lia)
    ·rw[gr,if_neg (by lia)];exact h3.hi i q1 q2
    ·rw[gr,gr,if_pos ⟨Nat.zero_le _,by lia⟩,if_pos ⟨Nat.zero_le _,by lia⟩];exact h4 _ _ (by lia) (by lia)
    ·have ej:j=n:=by lia
     subst ej;have aL:i<j:=by simpa using hi
     have e1:g (kas_rev p 0 j) j=g p j:=by rw[gr,if_neg (by lia)]
     have e2:g (kas_rev p 0 j) i=g p (0+j - 1 - i):=by rw[gr,if_pos ⟨Nat.zero_le _,aL⟩]
     rw[e1,e2,gR (0+j - 1 - i) (by lia)];exact aI
  ·rw[if_neg hg];have e1:n=1:=by lia
   subst e1;refine qc1 (by lia) ⟨h3.more (by lia),by lia,λi j aJ hj=>by lia,λi j hi q1 q2=> ?_,λi j q1 q2 q3=>by lia⟩;have ei:i=0:=by lia
   have ej:j=1:=by lia
   subst ei ej;exact aI
theorem qd2 (hn:n<N) (hp:Pre N n p) (hs:Srt k p n): ∀(f l r:Nat),l<=r->r<=n->r - l<=f->(∀i,i<l->k (g p i)<=k (g p n))->(∀i,r<=i->i<n->k (g p n)<k (g p i))->
  qdh N (qbP k) (kas_place p n f l r) λm=>m<=n/\(∀i,i<m->k (g p i)<=k (g p n))/\∀i,m<=i->i<n->k (g p n)<k (g p i)
 |0,l,r,h1,h2,h3,hl,hr=>⟨by lia,hl,λi q1 q2=>hr i (by lia) q2⟩
 |f+1,l,r,h1,h2,h3,hl,hr=>by
  unfold kas_place;by_cases dW:l≥r
  ·rw[if_pos dW];exact⟨by lia,hl,λi q1 q2=>hr i (by lia) q2⟩
  ·rw[if_neg dW];refine⟨hp.lt (by lia) hn,hp.lt (by lia) (by lia),?_⟩;show qdh N (qbP k) (if qbP k (g p n) (g p ((l+r) / 2))=true then kas_place p n f l ((l+r) / 2) else kas_place p n f ((l+r) / 2+1) r) _;have srt: ∀i j,i<=j->j<n->k (g p i)<=k (g p j):=λi j aJ hj=>by
    by_cases q:i=j
    ·rw[q];exact Int.le_refl _
    ·exact(hs i j (by lia) hj).le
   by_cases hc:k (g p n)<k (g p ((l+r) / 2))
   ·rw[if_pos (by simpa [qbP] using hc)];exact qd2 hn hp hs f l _ (by lia) (by lia) (by lia) hl λi q1 q2=>Int.lt_of_lt_of_le hc (srt _ _ q1 q2)
   ·rw[if_neg (by simpa [qbP] using hc)];refine qd2 hn hp hs f _ r (by lia) (by lia) (by lia) (λi q1=> ?_) hr;have:=srt i ((l+r) / 2) (by lia) (by lia);lia
theorem bin_ok{N:Nat}{k:Nat->Int}: ∀(f:Nat) (p:Array Nat) (n:Nat),n+f=N->Pre N n p->Srt k p n->qdh N (qbP k) (kas_bin f p n) λp'=>Pre N N p'/\Srt k p' N
 |0,p,n,hf,hp,hs=>by
  have e:n=N:=by lia
  subst e;exact⟨hp,hs⟩
 |f+1,p,n,hf,hp,hs=>by
  refine qa2 (qaE (λl h=> ?_) (qd2 (by lia) hp hs n 0 n (by lia) (Vm _) (by lia) (λi q=>by lia) λi q1 q2=>by lia));obtain⟨h1,h2,h3⟩:=h;have gb:=qtn (p:=p) (k:=n) (l:=l) (by rw[hp.sz];lia) h1;have en:=hp.hi n (Vm _) (by lia);refine bin_ok f _ (n+1) (by lia) ⟨by rw[bubble_size];exact hp.sz,λi hi=> ?_,λi q1 q2=> ?_⟩ λi j aJ hj=> ?_
  ·rw[gb];split
   ·rw[en];lia
   ·split
    ·exact Nat.lt_succ_of_lt (hp.lo _ (by lia))
    ·exact Nat.lt_succ_of_lt (hp.lo _ (by lia))
  ·rw[gb,if_neg (by lia),if_neg (by lia)];exact hp.hi i (by lia) q2
  ·rw[gb,gb];by_cases c1:j=l
   ·rw[if_pos c1,if_neg (by lia),if_neg (by lia)];have a1:=h2 i (by lia);have a2:=hp.lo i (by lia);unfold L;rw[en] at a1⊢;lia
   ·rw[if_neg c1];by_cases c2:l<j/\j<=n
    ·rw[if_pos c2];by_cases c3:i=l
     ·rw[if_pos c3];exact .inl (h3 _ (by lia) (by lia))
     ·rw[if_neg c3];by_cases c4:l<i/\i<=n
      ·rw[if_pos c4];exact hs _ _ (by lia) (by lia)
      ·rw[if_neg c4];exact hs _ _ (by lia) (by lia)
    ·rw[if_neg c2,if_neg (by lia),if_neg (by lia)];exact hs _ _ aJ (by lia)
theorem qik{N:Nat}{k:Nat->Int}(hN:1<=N):qdh N (qbP k) (kas_sort N) λp=>Pre N N p/\Srt k p N:=by
 have gr: ∀i,i<N->g (List.toArray (List.range N)) i=i:=λi hi=>by unfold g;rw[Array.getD_eq_getD_getElem?];simp[hi]
 refine qa2 (qaE (λr h=> ?_) (qlB hN ⟨by simp,λi hi=> ?_,λi h1 h2=>gr i h2⟩))
 ·obtain⟨h1,h2,h3,h4⟩:=h;by_cases c:r.1<N
  ·rw[if_pos c,show max r.1 1=r.1 by lia];exact bin_ok _ _ _ (by lia) h3 h4
  ·rw[if_neg c];have e:r.1=N:=by lia
   rw[e] at h3 h4;exact⟨h3,h4⟩
 ·rw[gr i (by lia)];exact hi
end
open PySem PySem.Calls
theorem qfS{α:Type}{N:Nat}{ask:Nat->Nat->Bool}{cmp:Nat->Nat->(Bool->Shared->Prop)->Shared->Prop}{Q:α->Shared->Prop}{Q':α->Prop}{s:Shared}(hc: ∀i j (C:Bool->Shared->Prop),i<N->j<N->C (ask i j) s->cmp i j C s)(hq: ∀a,Q' a->Q a s): ∀{t:KasT α},qdh N ask t Q'->t.kasWp cmp Q s
 |.ret a,h=>hq a h
 |.ask i j k,⟨h1,h2,h⟩=>hc i j _ h1 h2 (qfS hc hq h)
def qbq(kz:List Int)(n:Nat)(p:Array Nat):Prop:=Pre n n p/\Srt (λi=>kz.getD i 0) p n
abbrev Kp(h h':Heap):Prop:= ∀b o,h.get? b=some o->h'.get? b=some o
section
theorem qlW {prog:Program} {w:World} {A:Around} {E:Value->Shared->Prop} {s:Shared} {D:Addr} {kS:Addr} {vs:List Value} {kz:List Int} {P:PySem.Fin->Shared->Prop} {h0:Heap} {st:SortSt} {keys:Array Value} {e e1:Nat} {p:Array Nat} (hk:s.heap.get? kS=some (seqObj "list" keys e)) (hD:s.heap.get? D=some (seqObj "list" #[] e1)) (dP:kS≠D) (aY:vs.length<64) (cA:keys.size<=64) (kp:Kp h0 s.heap) (cb:h0.get? D=none) (dQ:h0.get? kS=none) (ho:qbq kz vs.length p) (d6:(arrOf st).map (·.2)=List.toArray (p.toList.map λi=>vs.getD i Value.none)) (iz:failedOf st=none) (h: ∀h' tk c,Kp h0 h'->h'.get? D=some (seqObj "list" (List.toArray (p.toList.map λi=>vs.getD i Value.none)) c)->P (.done (.ret .none)) { s with heap:=h',toks:=tk }):
  wpAny (model prog w) A (ksk_tail D false e1 (.ref kS) st) P E s:=by
 unfold ksk_tail;have s1:=Heap.SameBut.update s.heap kS (Obj.mapSeq λ_=>(#[]:Array Value));have iL:(s.heap.update kS (Obj.mapSeq λ_=>(#[]:Array Value))).get? D=some (seqObj "list" #[] e1):=(s1.2 D dP.symm).trans hD;have hsz:(p.toList.map λi=>vs.getD i Value.none).length=vs.length:=by rw[List.length_map,Array.length_toList,ho.1.sz]
 refine Va (listUpdate_at hk rfl ?_ (Vr cA (by rw[sizeLine_eq];decide)) (Nat.zero_le _));refine Va (wpAny_letGo ?_);refine Va (seqEpoch_at iL rfl ?_);rw[d6];refine Va (listUpdate_at iL rfl ?_ (Nat.zero_le _) (by show(List.toArray _).size<=_;rw[List.size_toArray,hsz,sizeLine_eq];lia));rw[iz];simp only[bne_self_eq_false,Bool.false_eq_true,if_false];have dX: ∃c,((s.heap.update kS (Obj.mapSeq λ_=>(#[]:Array Value))).update D (Obj.mapSeq λ_=>List.toArray (p.toList.map λi=>vs.getD i Value.none))).get? D=some (seqObj "list" (List.toArray (p.toList.map λi=>vs.getD i Value.none)) c):=⟨_,get?_update_seq iL λ_=>List.toArray (p.toList.map λi=>vs.getD i Value.none)⟩
 obtain⟨c,hc⟩:=dX;refine Vb (h _ _ c (λb o q=> ?_) hc);have nk:b≠kS:=λz=>by rw[z,dQ] at q;cases q
 have nD:b≠D:=λz=>by rw[z,cb] at q;cases q
 exact((Heap.SameBut.update (s.heap.update kS (Obj.mapSeq λ_=>(#[]:Array Value))) D _).2 b nD).trans ((s1.2 b nk).trans (kp b o q))
end
section
theorem get_none{h:Heap}(x:h.objs.size<=a):h.get? a=none:=Heap.get?_none_of_le x
end
end St
namespace L2
open PySem PySem.Spec PyProof.Rows
theorem Inv.grow (I:Inv X pins σ H s) (hP:H P=some (.tbl ps)) (hx:Heap.ExtBut P s.heap h') (jv:h'.get? P=some (W.tabObj (ps++more))) (hc:s.heap.objs.size<=c') (hφ:qax X.prog X.w (upd (upd H P (.tbl (ps++more))) c' (.ext φ)) h' c' (.ext φ)):
  Inv X pins σ (upd (upd H P (.tbl (ps++more))) c' (.ext φ)) { s with heap:=h',toks:=t' }:=by
 have nc: ∀b o,s.heap.get? b=some o->b≠c':=λb o e=>Vp (Vn (Vi e) hc);have ed: ∀b u,H b=some u->b≠c':=λb u e z=>by rw[z,I.hok.fresh hc] at e;cases e
 have nP: ∀b,H b=none->b≠P:=λb e z=>by rw[z,hP] at e;cases e
 have hPl:=(I.hok P _ hP).lt;have cP:P≠c':=ed P _ hP
 refine I.step (g':=s.gens) (d':=s.drawn) (ch:=[]) (λ_ z=>nomatch z) (λb o _ _ _ e n=>hx b o (nP b n) e) (λb o _ _ _ e n=>⟨o.slots,hx b o (nP b n) e⟩) (λb o _ e n=>by rw[qaa (nc b o e),qaa (nP b n)];exact n)
  (λb o _ e=> ?_) (λb xs e=> ?_) (λb o u e=> ?_) (λb qs e=> ?_) (λm hm=> ?_) (λb u e=> ?_) I.bare
 ·by_cases z:b=P
  ·exact⟨_,by rw[z];exact jv⟩
  ·exact⟨o,hx b o z e⟩
 ·rw[qaa (ed b _ e),qaa (λz=>by rw[z,hP] at e;cases e)];exact e
 ·rw[qaa (ed b _ e),qaa (λz=>by rw[z,hP] at e;cases e)];exact e
 ·by_cases z:b=P
  ·subst z;rw[hP] at e;cases e;exact⟨more,by rw[qaa cP,qaf]⟩
  ·exact⟨#[],by rw[qaa (ed b _ e),qaa z,e];simp⟩
 ·exact hm.extBut hx (nP _ I.free)
 ·by_cases z:b=c'
  ·subst z;rw[qaf] at e;cases e;exact hφ
  ·rw[qaa z] at e;by_cases z2:b=P
   ·subst z2;rw[qaf] at e;cases e;exact jv
   ·rw[qaa z2] at e;refine(I.hok b u e).stay (λc v bM q=>hx c v ?_ q) (λc q=> ?_) λc xs q=> ?_
    ·rcases bM with rfl|bM
     ·exact z2
     ·intro z3;rw[z3,hP] at bM;cases bM
    ·rw[qaa (ed c _ q),qaa (λz3=>by rw[z3,hP] at q;cases q)];exact q
    ·rw[qaa (ed c _ q),qaa (λz3=>by rw[z3,hP] at q;cases q)];exact q
def qdk(c:Addr)(qual:Str):HO:=.ext λh=>h.CodeRec (.ref c) qual
def Tab(P:Addr)(pos:Pos)(qual:Str)(H:Hp):Prop:=
 ∃ps,H P=some (.tbl ps)/\PySem.TriplesOk ps.toList/\(PySem.codeAmong pos ps.toList=none\/∃c,PySem.codeAmong pos ps.toList=some (.ref c)/\H c=some (qdk c qual))
theorem qcj(ha:a= .int la ta)(hb:b= .int lb tb): ∀(l:List Value),PySem.TriplesOk l->PySem.TriplesOk (l++[a,b,c])
 |[],_=>by subst ha hb;exact trivial
 |[_],h=>by cases ‹Value› <;>exact h.elim
 |[x,y],h=>by cases x<;>first|exact h.elim|(cases y<;>exact h.elim)
 |x::y::z::r,h=>by
  cases x<;>first|exact h.elim|skip
  cases y<;>first|exact h.elim|skip
  exact qcj ha hb r h
theorem qf6{h h':Heap}(x:h.CodeRec (.ref c) qual)(k: ∀o,h.get? c=some o->h'.get? c=some o):h'.CodeRec (.ref c) qual:=by obtain⟨c2,oc,vs,tq,e,ho,hd,hq⟩:=x;cases e;exact⟨c,oc,vs,tq,rfl,k _ ho,hd,hq⟩
def qdm(P:Addr)(H H':Hp):Prop:= ∀b o,H b=some o->b≠P->H' b=some o
theorem qdm.seqL{K:W.Frag}{P:Addr}{H H':Hp}{a:Addr}{xs:List V}{ps:Array Value}(e:qdm P H H')(hP:H P=some (.tbl ps))(h:SqL K H a xs):SqL K H' a xs:=by
 rcases h with(h|⟨o,h⟩)|h
 ·exact .inl (.inl (e _ _ h λz=>by rw[z,hP] at h;cases h))
 ·exact .inl (.inr ⟨o,e _ _ h λz=>by rw[z,hP] at h;cases h⟩)
 ·exact .inr h
theorem qcM(r:Vals xs us)(j:Nat):RelV (xs.getD j .non) (us.getD j .none):=by
 induction r generalizing j with
 |nil=>exact rfl
 |cons a t ih=>
  cases j with
  |zero=>exact a
  |succ j=>simpa using ih j
theorem vals_pick(r:Vals xs us): ∀l:List Nat,Vals (l.map λj=>xs.getD j .non) (l.map λj=>us.getD j .none)
 |[]=>.nil
 |j::l=>.cons (qcM r j) (vals_pick r l)
section
theorem qkY:OpR X (compareOp .Is) (λx y H Q=> ∃c d,x= .bl c/\y= .bl d/\Q (.bl (c==d)) H):=by intro pins s σ H x y v u Q I rx ry h;obtain⟨c,d,rfl,rfl,q⟩:=h;cases rx;cases ry;exact is_bool ⟨.bl (c==d),H,I,rfl,q⟩
theorem qfI:OpR X (compareOp .IsNot) (λx y H Q=> ∃c d,x= .bl c/\y= .bl d/\Q (.bl (c != d)) H):=by intro pins s σ H x y v u Q I rx ry h;obtain⟨c,d,rfl,rfl,q⟩:=h;cases rx;cases ry;exact isnot_bool ⟨.bl (c != d),H,I,rfl,q⟩
theorem qiJ:OpR X (compareOp .LtE) (λx y H Q=> ∃i j,x= .str i/\y= .str j/\Q (.bl (!decide (j.cps.toList<i.cps.toList))) H):=by intro pins s σ H x y v u Q I rx ry h;obtain⟨i,j,rfl,rfl,q⟩:=h;obtain⟨t,rfl⟩:=rx;obtain⟨t',rfl⟩:=ry;exact P.le_str ⟨.bl _,H,I,rfl,q⟩
theorem qf8:qas X (.builtin "isinstance") (λxs H Q=> ∃x t T b,xs=[x,.ty T]/\qgb X.K H x t/\W.kitOne X.K t (.type T)=some b/\Q (.bl b) H):=by intro pins s σ H xs us Q I r h;obtain⟨x,t,T,b,rfl,ty,e,q⟩:=h;obtain⟨u,w',rfl,ru,aF⟩:=qkl r;cases aF;exact qi0 I ru ty e λtk=>⟨.bl b,H,I.tok tk,rfl,q⟩
theorem qgc: ∀{bs:List Bool} {us:List Value},Vals (bs.map V.bl) us->us=bs.map Value.bool
 |[],_,.nil=>rfl
 |b::bs,_,.cons r t=>by have e:_=Value.bool b:=r;rw[e,qgc t];rfl
theorem qiv(bs:List Bool):(List.range bs.length).all (λi=>bs.getD i false)=bs.all id:=by
 rw[Bool.eq_iff_iff,List.all_eq_true,List.all_eq_true];constructor
 ·intro h b hb;obtain⟨i,hi,rfl⟩:=List.mem_iff_getElem.mp hb;have:=h i (List.mem_range.mpr hi);simpa [List.getD_eq_getElem?_getD,hi] using this
 ·intro h i hi;have aL:=List.mem_range.mp hi;have:=h bs[i] (List.getElem_mem aL);simpa [List.getD_eq_getElem?_getD,aL] using this
theorem qlL(hc:X.calm=true):qas X (.builtin "all") (λxs H Q=> ∃(a:Addr) (bs:List Bool),xs=[.ref a]/\SqL X.K H a (bs.map V.bl)/\Q (.bl (bs.all id)) H):=by
 intro pins s σ H xs us Q I r h;obtain⟨a,bs,rfl,hS,q⟩:=h;obtain⟨u,rfl,ru⟩:=qeu r;cases ru;obtain⟨its,rv,pl,hz⟩:=I.list hS;have e:=qgc rv;have aI:a<s.heap.objs.size:=Vi pl.isList.choose_spec.1;have hh:X.A.in1.handled=none:=I.ok.hd hc;refine call_all_walk (Vf pl.isList ?_);refine⟨s.heap.objs.size,_,_,its.toArray.size,_,_,λi=>bs.getD i false,rfl,Walks.list hh s.heap.objs.size a (Vp aI) its.toArray,⟨⟨_,Vh _ rfl,rfl,rfl⟩,pl.isList.at λo e=>Vg _ e⟩,λi v s' Q' E' hv hq=> ?_,λh' tk k=> ?_⟩
 ·rw[e] at hv;have bB:(bs.map Value.bool)[i]? =some v:=by simpa using hv
  rw[List.getElem?_map] at bB;cases z:bs[i]? with
  |none=>rw[z] at bB;cases bB
  |some b=>
   rw[z] at bB;cases bB;have eb:bs.getD i false=b:=by simp[List.getD_eq_getElem?_getD,z]
   have eh:Q' (bs.getD i false) s':=hq;rw[eb] at eh;exact Vd eh
 ·have en:its.toArray.size=bs.length:=by rw[e];simp
  rw[en,qiv];refine⟨.bl (bs.all id),H,?_,rfl,q⟩;refine I.kept (t':=tk) λb o eo=>k b o ?_ (Vg _ eo);intro z;have:b=s.heap.objs.size:=by simpa using z
  exact Vp (Vi eo) this
def VEq(X:Cx)(H:Hp)(x y:V)(b:Bool):Prop:= ∀(pins:List (Addr×Obj)) (σ:St) (s:Shared) (u v:Value),Inv X pins σ H s->RelV x u->RelV y v->SeqAt.EqAt X.A.in1 s u v b
theorem qfJ (hu:X.A.units<cLine):OpR X (compareOp .Eq) (λx y H Q=> ∃a b xs ys,x= .ref a/\y= .ref b/\SqL X.K H a xs/\SqL X.K H b ys/\
  ((xs.length≠ys.length/\Q (.bl false) H)\/(xs.length=ys.length/\∃e:Nat->Bool,(∀i x y,xs[i]? =some x->ys[i]? =some y->VEq X H x y (e i))/\Q (.bl ((List.range xs.length).all e)) H))):=by
 intro pins s σ H x y v u Q I rx ry h;obtain⟨a,b,xs,ys,rfl,rfl,ha,hb,h⟩:=h;cases rx;cases ry;obtain⟨i1,r1,p1,z1⟩:=I.list ha;obtain⟨i2,r2,p2,z2⟩:=I.list hb;have l1:=r1.length;have l2:=r2.length
 rcases h with⟨aZ,q⟩|⟨heq,e,he,q⟩
 ·exact SeqAt.eq_list_lengthsAt p1.isList p2.isList (by simp;lia) hu ⟨.bl false,H,I,rfl,q⟩
 ·refine SeqAt.eq_listAt (e:=e) p1.isList p2.isList (by simp;lia) hu (λj h1 h2=> ?_) ⟨.bl _,H,I,rfl,?_⟩
  ·have bI:j<i1.length:=by simpa using h1
   have bT:j<i2.length:=by simpa using h2
   have hx:xs[j]? =some xs[j]:=Vz (by lia);have hy:ys[j]? =some ys[j]:=Vz (by lia);obtain⟨u1,e1,q1⟩:=r1.get hx;obtain⟨u2,e2,q2⟩:=r2.get hy;have e3:i1.toArray[j]=u1:=by rw[List.getElem?_eq_getElem bI] at e1;simpa using Option.some.inj e1
   have e4:i2.toArray[j]=u2:=by rw[List.getElem?_eq_getElem bT] at e2;simpa using Option.some.inj e2
   rw[e3,e4];exact he j _ _ hx hy pins σ s u1 u2 I q1 q2
  ·rw[List.size_toArray,<-l1];exact q
theorem qiP:MtM X "list.insert" (λx vs H Q=> ∃l xs i y,x= .ref l/\vs=[.int i,y]/\H l=some (.lst xs)/\0<=i/\i<=xs.length/\xs.length<1000/\Q .non (upd H l (.lst (xs.take i.toNat++y::xs.drop i.toNat)))):=by
 intro pins s σ H x vs v us Q I rx rv h;obtain⟨l,xs,i,y,rfl,rfl,hH,h0,hk,hz,q⟩:=h;cases rx;obtain⟨u1,u2,rfl,ru1,ru2⟩:=rv.two;obtain⟨t,rfl⟩:=ru1;obtain⟨z,its,n,r,hl,e⟩:=I.lstM hH;have fits:Builtin.List.listFitsIndex i=true:=by unfold Builtin.List.listFitsIndex;simp;lia
 refine Wa F.slot_list_insert ⟨_,e,rfl⟩ F.entry_list_insert (F.args_list_insert_3 _ _ _) (PySem.AutoSeq1.list_insert_list_int_val_1 l its.toArray n i t u2 (by simp[fits]) (by rw[List.size_toArray];exact Vq (qbk (by lia)))) ⟨e,?_⟩;refine⟨.non,_,I.lset (its':=its.take i.toNat++u2::its.drop i.toNat) hH e ?_ ((r.take i.toNat).append (.cons ru2 (r.drop i.toNat))) ?_,rfl,q⟩
 ·have e1:(if i<0 then (i+(its.toArray.size:Int)).toNat else min i.toNat its.toArray.size)=i.toNat:=by rw[if_neg (by lia),List.size_toArray];lia
  show(its.toArray.extract 0 (if i<0 then(i+(its.toArray.size:Int)).toNat else min i.toNat its.toArray.size)).push u2++its.toArray.extract (if i<0 then(i+(its.toArray.size:Int)).toNat else min i.toNat its.toArray.size)=_;rw[e1];apply Array.toList_inj.mp;simp;exact List.take_of_length_le (by rw[List.length_drop];exact Vm _)
 ·rw[List.length_append,List.length_cons,List.length_take,List.length_drop];exact Vq (qbk (by lia))
end
def Its(z:Str):It:=⟨λi _=>i<z.cps.size,λi H x H'=>H'=H/\∃c,z.cps[i]? =some c/\x= .str ⟨#[c]⟩,λi _=>z.cps.size<=i⟩
theorem qkm {P:Program} {w:World} {K:W.Frag} {tg:Expr} {z:Str} {it:Addr} {ty:String} {t:Tok} (cL:ty= "str_ascii_iterator" \/ty= "str_iterator"):qrE P w K tg (Its z) [it] it (λi h=>h.IsStrIter it ty z t i) where
 mem:=by simp
 obj:=λi h st b hb=>by
  have e:b=it:=by simpa using hb
  subst e;obtain⟨o,e,c,d⟩:=st;exact⟨o,e,λv q=>by rw[d] at q;cases q⟩
 keep:=λi h h' st k=>by obtain⟨o,e,r⟩:=st;exact⟨o,k it (by simp) _ e,r⟩
 item:=by
  intro X hP hw hK hc i pins s σ H E I hf st hg;subst hP hw hK;obtain⟨f0,f1,f2,f3,f4,f5⟩:=hf it (by simp);have eE:z.cps[i]? =some z.cps[i]:=Array.getElem?_eq_getElem hg;have fin: ∀h',h'.IsStrIter it ty z t (i+1)->Heap.SameBut it s.heap h'->∃u,some (Value.str ⟨#[z.cps[i]]⟩ s.toks)=some u/\wpAny (model X.prog X.w) X.A (letOwnedTupleGo tg (.ref it) u) (λ_ s2=> ∃x H',Inv X pins σ H' s2/\RelV x u/\(Its z).yld i H x H'/\s2.heap.IsStrIter it ty z t (i+1)/\∀b∈[it],H' b=none) E { s with heap:=h',toks:=s.toks+1 }:=λh' ba sb=>by
   have I1:Inv X pins σ H { s with heap:=h',toks:=s.toks+1 }:=I.turned (λb o hb e=>(sb.2 b hb).trans e) f0 f1 f3 f4 f5;obtain⟨o,e,c,d⟩:=id ba;refine⟨_,rfl,qlh (s:={ s with heap:=h',toks:=s.toks+1 }) e c d ?_ ⟨.str ⟨#[z.cps[i]]⟩,H,I1,⟨_,rfl⟩,⟨rfl,_,eE,rfl⟩,ba,λb hb=>(hf b hb).1⟩⟩
   rcases cL with rfl|rfl<;>decide
  rcases cL with rfl|rfl
  ·exact wpAny_pyNext_ascii_item st eE λh' ba sb=>fin h' ba sb
  ·exact wpAny_pyNext_wide_item st eE λh' ba sb=>fin h' ba sb
 done:=by
  intro X hP hw hK hc i pins s σ H E I hf st hg;subst hP hw hK;obtain⟨f0,f1,f2,f3,f4,f5⟩:=hf it (by simp);have eE:z.cps[i]? =none:=Array.getElem?_eq_none hg
  rcases cL with rfl|rfl
  ·exact wpAny_pyNext_ascii_end (I.ok.hd hc) st eE λh' eb=>⟨rfl,I.turned (t':=s.toks) (λb o hb e=>eb b o hb e) f0 f1 f3 f4 f5⟩
  ·exact wpAny_pyNext_wide_end (I.ok.hd hc) st eE λh' eb=>⟨rfl,I.turned (t':=s.toks) (λb o hb e=>eb b o hb e) f0 f1 f3 f4 f5⟩
 self:=λA i s Q E st h=>by
  rcases cL with rfl|rfl
  ·exact wpAny_pyIter_striter_ascii st h
  ·exact wpAny_pyIter_striter_wide st h
def qvM(te:TE):TI:=λσ H R=>te σ H λx H1=> ∃z,x= .str z/\R (Its z) H1
theorem qpD{X:Cx}{tg e:Expr}{te:TE}(he:PE X e te):PI X tg e (qvM te):=by
 intro pins s σ H R I h;refine thn (he pins s σ H _ I h) λv s1 hX=> ?_;obtain⟨x,H1,I1,r1,z,hz,q⟩:=hX;subst hz;obtain⟨t,rfl⟩:=r1;have fin: ∀ty:String,(ty= "str_ascii_iterator" \/ty= "str_iterator")->PIE X pins σ tg R (.ref s1.heap.objs.size) { s1 with heap:=s1.heap.push { cls:=.type ty,data:=.fields #[.str z t,.int 0 0] } }:=λty cL=>
  ⟨_,_,_,Its z,H1,rfl,I1.kept (t':=s1.toks) λb o e=>Vg _ e,qkm (t:=t) cL,⟨_,Vh _ rfl,rfl,rfl⟩,λb hb=>by
   have e:b=s1.heap.objs.size:=by simpa using hb
   subst e;exact I1.fpOk (Vm _) (I1.hok.fresh (Vm _)),q⟩
 cases ha:z.cps.all (· <128)
 ·exact wpAny_pyIter_wide ha (fin _ (.inr rfl))
 ·exact wpAny_pyIter_ascii ha (fin _ (.inl rfl))
theorem qpd:SlR X (λx lo hi H Q=> ∃z,x= .str z/\z.length<=1000/\Q (.str (PySem.Txt.slice z lo hi)) H):=by
 intro pins s σ H x v vl vu lo hi sl Q I rx hs pl pu h;obtain⟨z,rfl,hz,q⟩:=h;obtain⟨t,rfl⟩:=rx;refine⟨"str",_,F.slot_str_getitem.lookup,typeIs_str _ _ _,?_⟩;have hsz:(PySem.Txt.slice z lo hi).length<=sizeLine:=Vr (PySem.Txt.slice_le z _ _) (Vq (qbk hz));cases pl with
 |none=>cases pu with
  |none=>exact wpAny_getItem_str_slice (l:=none) (u:=none) (st:=none) hs rfl (post_val_or_str ⟨hsz,λt' k=>⟨.str _,H,I.tok k,⟨_,rfl⟩,q⟩⟩)
  |int j uj=>exact wpAny_getItem_str_slice (l:=none) (u:=some (j,uj)) (st:=none) hs rfl (post_val_or_str ⟨hsz,λt' k=>⟨.str _,H,I.tok k,⟨_,rfl⟩,q⟩⟩)
 |int i ui=>cases pu with
  |none=>exact wpAny_getItem_str_slice (l:=some (i,ui)) (u:=none) (st:=none) hs rfl (post_val_or_str ⟨hsz,λt' k=>⟨.str _,H,I.tok k,⟨_,rfl⟩,q⟩⟩)
  |int j uj=>exact wpAny_getItem_str_slice (l:=some (i,ui)) (u:=some (j,uj)) (st:=none) hs rfl (post_val_or_str ⟨hsz,λt' k=>⟨.str _,H,I.tok k,⟨_,rfl⟩,q⟩⟩)
def qfm(mg:Str->Option Value)(base:Heap):Prop:= ∃bm ob,mg "__builtins__" =some (.ref bm)/\bm≠builtinsNs/\base.get? bm=some ob/\ob.cls= .type "module" /\ob.dict=some builtinsNs/\ob.data= .plain
open PySem.Calls
theorem qax.obj(x:qax P w H h a o): ∃u,h.get? a=some u:=by
 cases o with
 |lst xs=>obtain⟨_,_,_,_,e⟩:=x;exact⟨_,e⟩
 |tup xs=>obtain⟨_,_,_,p⟩:=x;exact p.imp λ_ q=>q.1
 |dK kvs|dT kvs=>obtain⟨_,_,_,_,o,_,_,e,_⟩:=x;exact⟨_,e⟩
 |set S n=>obtain⟨o,_,_,_,e,_⟩:=x;exact⟨_,e⟩
 |ins C dx fs=>obtain⟨_,_,_,e,_⟩:=x;exact⟨_,e⟩
 |own y=>obtain⟨_,e⟩:=x;exact⟨_,e⟩
 |xd fs=>obtain⟨_,⟨_,_,_,e,_⟩,_⟩:=x;exact⟨_,e⟩
 |rng lo hi=>obtain⟨_,_,_,e⟩:=x;exact⟨_,e⟩
 |frz ob u=>obtain⟨e,_⟩:=x;exact⟨_,e⟩
 |tbl ps|met f y=>exact⟨_,(show h.get? a=some _ from x)⟩
 |ext φ=>obtain⟨_,⟨_,e⟩,_⟩:=x;exact⟨_,e⟩
structure qka(P:Program)(w:World)(outer:List Env)(H:Hp)(s:Shared)(H':Hp)(B h':Heap):Prop where
 hok:HOk P w H' B
 st:B.StaysIn h'
 bk: ∀b o,s.heap.get? b=some o->H b=none->b∉frs outer->B.get? b=some o
 th: ∀b o,s.heap.get? b=some o->b∉frs outer->∃o',B.get? b=some o'
 sl: ∀b o,s.heap.get? b=some o->b∈frs outer->(∀vs,o.data≠.fields vs)/\∃sl,h'.get? b=some { o with slots:=sl }
 free: ∀b o,s.heap.get? b=some o->H b=none->H' b=none
 tups: ∀b xs,H b=some (.tup xs)->H' b=some (.tup xs)
 frzs: ∀b o u,H b=some (.frz o u)->H' b=some (.frz o u)
 tbls: ∀b ps,H b=some (.tbl ps)->∃more,H' b=some (.tbl (ps++more))
section
theorem qka.on(L:qka P w outer H s H' B h')(st:B.StaysIn gu)(up:h'.UpToSlots gu):qka P w outer H s H' B gu:=
 { L with
  st:=st
  sl:=λb o e hb=>by
   obtain⟨nf,sl,q⟩:=L.sl b o e hb;obtain⟨eQ,q'⟩:=up b _ q nf;exact⟨nf,eQ,q'⟩ }
end
section
theorem qe2{X:Cx}(bj:X.stack=X.env::X.outer)(hf:X.env.frame=some X.env.locals):frs X.stack=X.env.locals::frs X.outer:=by rw[bj];show((X.env::X.outer).filterMap (·.frame))=_;rw[List.filterMap_cons,hf];rfl
theorem qka.leave{X:Cx}(bj:X.stack=X.env::X.outer)(hf:X.env.frame=some X.env.locals)(hex:X.ex=[])(I:Inv X pins σ H s)(L:qka X.prog X.w X.stack H s H' B h'):qka X.prog X.w X.outer X.H₀ X.s₀ H' B h':=by
 have nx: ∀b:Addr,b∉X.ex:=λb z=>by rw[hex] at z;cases z
 have fW: ∀b o,X.s₀.heap.get? b=some o->b≠X.env.locals:=λb o e=>Vp (Vn (Vi e) I.ok.above);have out: ∀b o,X.s₀.heap.get? b=some o->b∉frs X.outer->b∉frs X.stack:=λb o e nb z=>by
  rw[qe2 bj hf] at z
  rcases List.mem_cons.mp z with q|q
  ·exact fW b o e q
  ·exact nb q
 refine⟨L.hok,L.st,λb o e n nb=> ?_,λb o e nb=> ?_,λb o e hb=> ?_,λb o e n=> ?_,λb xs q=>L.tups b xs (I.base.tups b xs q),λb o u q=>L.frzs b o u (I.base.frzs b o u q),λb ps q=> ?_⟩
 ·exact L.bk b o (I.base.keep b o e n nb (nx b)) (I.base.free b o e n (nx b)) (out b o e nb)
 ·obtain⟨o',e'⟩:=I.base.there b o e (nx b);exact L.th b o' e' (out b o e nb)
 ·obtain⟨sl,e1⟩:=I.base.slot b o e (I.ok.frf b hb) hb (nx b);obtain⟨nf,eQ,e2⟩:=L.sl b _ e1 (by rw[qe2 bj hf];exact Vl _ hb);exact⟨nf,eQ,e2⟩
 ·obtain⟨sl,e1⟩:=I.base.any e n (nx b);exact L.free b _ e1 (I.base.free b o e n (nx b))
 ·obtain⟨m1,e1⟩:=I.base.tbls b ps q;obtain⟨m2,e2⟩:=L.tbls b _ e1;exact⟨m1++m2,by rw[e2,Array.append_assoc]⟩
theorem qka.made(I:Inv X pins σ H s)(k: ∀b o,s.heap.get? b=some o->h'.get? b=some o):qka X.prog X.w X.stack H s H (W.hideAll s.heap (frs X.stack)) h' where
 hok:=λa o e=>(I.hok a o e).stay (λb u hb r=>W.hideAll_get _ r λz=>by
   have n:=I.stkFree b z
   rcases hb with q|q
   ·rw[q,e] at n;cases n
   ·rw[q] at n;cases n) (λ_ r=>r) λ_ _ r=>r
 st:=λb o e=>k b o (W.of_hideAll _ e)
 bk:=λb o e n nb=>W.hideAll_get _ e nb
 th:=λb o e nb=>⟨o,W.hideAll_get _ e nb⟩
 sl:=λb o e hb=>by obtain⟨_,o',e',nf⟩:=I.stack.mem hb;rw[e] at e';cases e';exact⟨nf,o.slots,k b o e⟩
 free:=λ_ _ _ n=>n
 tups:=λ_ _ q=>q
 frzs:=λ_ _ _ q=>q
 tbls:=λ_ ps q=>⟨#[],by rw[q];simp⟩
end
structure Fly(P:Program)(w:World)(outer:List Env)(H:Hp)(s:Shared)(C:Addr)(H':Hp)(a t:Addr)(B:Heap)(s':Shared):Prop where
 os:s'.os=s.os
 bare:AllBare s'.gens
 fly:Heap.FlyingW B outer a (.ref C) (.ref t) s'.heap
 lies:qka P w outer H s H' B s'.heap
 new:H' a=none
structure qwr(P:Program)(w:World)(outer:List Env)(H:Hp)(s:Shared)(C:Addr)(H':Hp)(a t L:Addr)(B:Heap)(s':Shared):Prop where
 os:s'.os=s.os
 bare:AllBare s'.gens
 held:Heap.HeldW B outer a (.ref C) (.ref t) L s'.heap
 lies:qka P w outer H s H' B s'.heap
 new:H' a=none
section
theorem Fly.leave (bj:X.stack=X.env::X.outer) (hf:X.env.frame=some X.env.locals) (hex:X.ex=[]) (I:Inv X pins σ H s) (F:Fly X.prog X.w X.stack H s C H' a t B s'):
  wpAny M X.A (leaving X.env (.ref a)) (λ_ s''=>Fly X.prog X.w X.outer X.H₀ X.s₀ C H' a t B s'') E s':=by refine wpAny_leaves_onW (I.ok.frames.trans (congrArg _ bj)) hf (bj▸F.fly) λgu fl up=> ?_;exact⟨F.os.trans I.os,F.bare,fl,(F.lies.on fl.1 up).leave bj hf hex I,F.new⟩
theorem Fly.made (bj:X.stack=X.env::X.outer) (hf:X.env.frame=some X.env.locals) (hex:X.ex=[]) (I:Inv X pins σ H s) (hm:Heap.MadeExcOf s.heap h' a (.ref C) args):
  wpAny M X.A (leaving X.env (.ref a)) (λ_ s''=> ∃t B,Fly X.prog X.w X.outer X.H₀ X.s₀ C H a t B s'') E { s with heap:=h' }:=by
 have hin: ∀env∈X.stack,∀b,env.frame=some b->b∈frs X.stack:=λenv he b hb=>List.mem_filterMap.mpr ⟨env,he,hb⟩;have L:=qka.made (h':=h') I hm.keeps;refine wpAny_leaves_madeW (base:=W.hideAll s.heap (frs X.stack)) (h:=s.heap) (s:={ s with heap:=h' }) (I.ok.frames.trans (congrArg _ bj)) hf (λb o q=>W.of_hideAll _ q) (bj▸W.funFrames_hide I.stack hin) hm λgu t fl _ _ up=> ?_;refine⟨t,_,I.os,I.bare,fl,(L.on fl.1 up).leave bj hf hex I,?_⟩;cases q:H a with
 |none=>rfl
 |some o=>obtain⟨u,hu⟩:=(I.hok a o q).obj;rw[hm.new] at hu;cases hu
end
def CXE(P:Program)(w:World):CXT:=λouter H s E e s'=> ∃C H' a t B,e= .ref a/\Fly P w outer H s C H' a t B s'/\E (.ref C) none H'
theorem qsL{P:Program}{w:World}{K:W.Frag}{mg:Str->Option Value}{base:Heap}{N:List Str}{qual:Str}{scope:Scope}{f:Addr}{cd:Value}{A:Around}{outer:List Env}{s:Shared}{H:Hp}{E E1:XK}(h: ∀C H',E1 (.ref C) none H'->E (.ref C) none H'):qbC (CXE P w) (qgR (CXE P w) P w K mg base N qual scope f cd A outer s H E) E1:=
 λpins σ H1 s1 e s' I ⟨C,H',a,t,B,he,F,q⟩=>by subst he;exact Vc (Fly.leave (X:=qgR (CXE P w) P w K mg base N qual scope f cd A outer s H E) rfl rfl rfl I F) (λ_ s'' F'=>⟨C,H',a,t,B,rfl,F',h C H' q⟩) λ_ _ x=>x
def bmV:List Value:=[.type "ValueError",.type "Exception",.type "BaseException",.type "object"]
def qrP:List Str:=["__init__", "__getattribute__", "__getattr__", "__class__"]
inductive qdl(h:Heap)(bmB:List Value):List Value->Prop
 |base:qdl h bmB bmB
 | own {A:Addr} {c0:Value} {dd:Option Addr} {cd:ClassData} {sl:Array (Option Value)} {mA:Str->Option Value} {tl:List Value}:
   h.get? A=some { cls:=c0,dict:=dd,data:=.cls cd,slots:=sl }->h.Ns cd.ns mA->(∀n∈qrP,mA n=none)->qdl h bmB tl->qdl h bmB (.ref A::tl)
theorem qdl.tail(T:qdl h bmB tl):OwnTail h bmB tl:=by
 induction T with
 |base=>exact .base
 |own hA hN hq _ ih=>exact .own hA hN (hq _ (.head _)) ih
theorem qdl.keeps(T:qdl h bmB tl)(hk: ∀b o,h.get? b=some o->h'.get? b=some o):qdl h' bmB tl:=by
 induction T with
 |base=>exact .base
 |own hA hN hq _ ih=>exact .own (hk _ _ hA) (hN.keeps hk) hq ih
def qh2(h:Heap)(C:Addr)(bm:List Value):Prop:=
 ∃N nm q bs hdct sn sub ab col dd k0 k1 k2 k3 k5 mN,h.get? C=some (excClassObj nm q C N bs bm hdct sn sub ab col dd k0 k1 k2 k3 k5 "ValueError.__new__")/\h.Ns N mN/\(∀n∈qrP,mN n=none)/\qdl h bmV bm
theorem qh2.keeps(x:qh2 h C bm)(k: ∀b o,h.get? b=some o->h'.get? b=some o):qh2 h' C bm:=
 let ⟨N,nm,q,bs,hdct,sn,sub,ab,col,dd,k0,k1,k2,k3,k5,mN,e,n,i,T⟩:=x
 ⟨N,nm,q,bs,hdct,sn,sub,ab,col,dd,k0,k1,k2,k3,k5,mN,k _ _ e,n.keeps k,i,T.keeps k⟩
theorem qh2.base(x:qh2 h C bm):bm.contains (.type "BaseException")=true:=
 let ⟨_,_,_,_,_,_,_,_,_,_,_,_,_,_,_,_,_,_,_,T⟩:=x
 T.tail.hasType (by decide)
def qid(C:Addr)(E:XK):TS:=λ_ _ H=>E (.ref C) none H
theorem qkL {P:Program} {w:World} {K:W.Frag} {mg:Str->Option Value} {base:Heap} {N:List Str} {qual:Str} {scope:Scope} {f:Addr} {cd:Value} {A:Around} {outer:List Env} {s:Shared} {H:Hp} {E:XK} {x msg:Str} {C:Addr} {bm:List Value} {j np p1 cpos pos} (hC:qh2 base C bm) (hm:mg x=some (.ref C)) (hg:Gl (qgR (CXE P w) P w K mg base N qual scope f cd A outer s H E) x) (aK:(x==("__debug__" :Str))=false:=by decide):
  PS (qgR (CXE P w) P w K mg base N qual scope f cd A outer s H E) (.Raise (some (.Call (.Name x np) [.Constant (.str msg) j p1] [] cpos)) none pos) (qid C E):=by
 intro pins s1 σ H1 D I h;have hCs:=hC.keeps I.bk;obtain⟨Nn,nm,q,bs,hdct,sn,sub,ab,col,dd,k0,k1,k2,k3,k5,mN,e,n,i,T⟩:=id hC;refine wpAny_Raise_call_subT (C:=C) (nm:=nm) (q:=q) (N:=Nn) (bs:=bs) (bm:=bm) (hdct:=hdct) (sn:=sn) (sub:=sub) (ab:=ab) (col:=col) (dd:=dd) (k0:=k0) (k1:=k1) (k2:=k2) (k3:=k3) (k5:=k5) F.excBase_ValueError hC.base (I.ok.hd rfl) (by rfl) (i _ (.head _)) ?_;refine qeb I hg hm ⟨rfl,?_⟩ aK;refine Calls.evalArgs_plain ?_;have hp:PA (qgR (CXE P w) P w K mg base N qual scope f cd A outer s H E) [.Constant (.str msg) j p1] (qo4 (tC (.str msg)) qsb):=qca ql5 qeN;refine thn (hp cpos pins s1 σ H1 (λvs H2=>H2=H1/\vs.length=1) I ⟨rfl,rfl⟩) λus s2 e9=> ?_;obtain⟨vs,H2,I2,r,eH,el⟩:=e9;subst eH;have ul:us.length=1:=by rw[<-r.length];exact el
 refine⟨rfl,by show us.length<=sizeLine;rw[ul];decide,I2.bk _ _ e,n.keeps I2.bk,T.tail.keeps I2.bk,λh' a hx=> ?_⟩;exact Vc (Fly.made (X:=qgR (CXE P w) P w K mg base N qual scope f cd A outer s H E) rfl rfl rfl I2 hx) (λ_ s'' ⟨t,B,F'⟩=>⟨C,H2,a,t,B,rfl,F',h⟩) λ_ _ x=>x
abbrev Cx.hold(X:Cx)(pins:List (Addr×Obj))(E:Value->Shared->Prop):Cx:={ X with pn:=X.pn++pins,xe:=E }
abbrev Cx.within(X:Cx)(a:Addr):Cx:={ X with A:=X.A.mark (some (.ref a)),calm:=false,xe:=λ_ _=>False }
section
def ExO(a C:Addr):HO:=.ext λh=> ∃o,h.get? a=some o/\o.cls= .ref C
end
end L2
namespace L2
open PySem PySem.Spec PyProof.Rows
section
variable {κ:Type}[DecidableEq κ]
def qg9(kvs:List (κ×V))(k:κ):Option V:=(kvs.find? λkv=>decide (kv.1=k)).map (·.2)
def qho(kvs:List (κ×V))(k:κ)(v:V):List (κ×V):=
 if(kvs.any λkv=>decide (kv.1=k))=true then kvs.map (λkv=>if kv.1=k then(kv.1,v) else kv) else kvs++[(k,v)]
theorem qdL{p:κ×V}{r:List (κ×V)}{k:κ}(e:p.1=k):qg9 (p::r) k=some p.2:=by simp[qg9,List.find?_cons,e]
theorem qdM{p:κ×V}{r:List (κ×V)}{k:κ}(e: ¬p.1=k):qg9 (p::r) k=qg9 r k:=by simp[qg9,List.find?_cons,e]
theorem qgd(k:κ): ∀kvs:List (κ×V),(kvs.any λkv=>decide (kv.1=k))=(qg9 kvs k).isSome
 |[]=>rfl
 |p::r=>by
  rw[List.any_cons];by_cases e:p.1=k
  ·simp only[qdL e,decide_eq_true e,Bool.true_or,Option.isSome_some]
  ·rw[qdM e,decide_eq_false e,Bool.false_or];exact qgd k r
theorem qbL(kvs:List (κ×V))(k:κ)(v:V):(qho kvs k v).length<=kvs.length+1:=by
 unfold qho;split
 ·rw[List.length_map];omega
 ·rw[List.length_append,List.length_cons,List.length_nil];omega
theorem qj6.isSome_eq(r:qj6 o u):o.isSome=u.isSome:=by
 cases o with
 |none=>cases u with
  |none=>rfl
  |some _=>exact(show False from r).elim
 |some _=>cases u with
  |none=>exact(show False from r).elim
  |some _=>rfl
theorem KV.val(r:KV kvs vs)(k:κ):qj6 (qg9 kvs k) (valueAt vs k):=by
 unfold KV at r
 induction r with
 |nil=>exact True.intro
 |@cons p q ps qs h t ih=>
  obtain⟨h1,h2⟩:=h;by_cases e:p.1=k
  ·have e':q.1=k:=h1.symm.trans e;have b:valueAt (q::qs) k=some q.2:=by simp[valueAt,List.find?_cons,e']
   rw[qdL e,b];exact h2
  ·have e': ¬q.1=k:=λz=>e (h1.trans z);have b:valueAt (q::qs) k=valueAt qs k:=by simp[valueAt,List.find?_cons,e']
   rw[qdM e,b];exact ih
theorem KV.any(r:KV kvs vs)(k:κ):(kvs.any λkv=>decide (kv.1=k))=vs.any λkv=>decide (kv.1=k):=by
 unfold KV at r
 induction r with
 |nil=>rfl
 |cons h t ih=>rw[List.any_cons,List.any_cons,ih,h.1]
theorem KV.repl (r:KV kvs vs) (k:κ) (ry:RelV y u):
  KV (kvs.map λkv=>if kv.1=k then(kv.1,y) else kv) (vs.map λkv=>if kv.1=k then(kv.1,u) else kv):=by
 unfold KV at r⊢
 induction r with
 |nil=>exact .nil
 |@cons p q ps qs h t ih=>
  rw[List.map_cons,List.map_cons];refine .cons ?_ ih;obtain⟨h1,h2⟩:=h;by_cases e:p.1=k
  ·rw[if_pos e,if_pos (h1.symm.trans e)];exact⟨h1,ry⟩
  ·rw[if_neg e,if_neg (λz=>e (h1.trans z))];exact⟨h1,h2⟩
theorem KV.put(r:KV kvs vs)(k:κ)(ry:RelV y u):KV (qho kvs k y) (stored vs k u):=by
 unfold qho stored;rw[r.any k];by_cases e:(vs.any λkv=>decide (kv.1=k))=true
 ·rw[if_pos e,if_pos e];exact r.repl k ry
 ·rw[if_neg e,if_neg e];exact Paired.snoc r ⟨rfl,ry⟩
theorem KV.length(r:KV kvs vs):kvs.length=vs.length:=Paired.length r
end
theorem qhE(r:RelV (kV k) u):(qap P w).is k u=true:=by
 cases k with
 |inl i=>obtain⟨t,e⟩:=(show ∃t,u=Value.int i t from r);subst e;exact qfL P w i t
 |inr x=>obtain⟨t,e⟩:=(show ∃t,u=Value.str x t from r);subst e;exact qfK P w x t
theorem qeY: ∀{ks:List Key} {us:List Value},Vals (ks.map kV) us->ItemsAre (qap P w) ks us
 |[],_,r=>by rw[List.map_nil] at r;cases r;exact .nil
 |k::ks,_,r=>by
  rw[List.map_cons] at r;cases r with
  |cons h t=>exact .cons (qhE h) (qeY t)
abbrev KT(H:Hp):List (List Key×V)->List (List Key×Addr×Value)->Prop:=Paired λp q=>p.1=q.1/\H q.2.1=some (.tup (p.1.map kV))/\RelV p.2 q.2.2
theorem KT.val(r:KT H kvs xs)(k:List Key):qj6 (qg9 kvs k) ((atKey xs k).map (·.2)):=by
 induction r with
 |nil=>exact True.intro
 |@cons p q ps qs h t ih=>
  obtain⟨h1,_,h2⟩:=h;by_cases e:p.1=k
  ·have e':q.1=k:=h1.symm.trans e;have b:atKey (q::qs) k=some q.2:=by simp[atKey,List.find?_cons,e']
   rw[qdL e,b];exact h2
  ·have e': ¬q.1=k:=λz=>e (h1.trans z);have b:atKey (q::qs) k=atKey qs k:=by simp[atKey,List.find?_cons,e']
   rw[qdM e,b];exact ih
theorem KT.repl (r:KT H kvs xs) (k:List Key) (ry:RelV y u):
  KT H (kvs.map λkv=>if kv.1=k then(kv.1,y) else kv) (xs.map (putAt k u)):=by
 induction r with
 |nil=>exact .nil
 |@cons p q ps qs h t ih=>
  rw[List.map_cons,List.map_cons];refine .cons ?_ ih;obtain⟨h1,h2,h3⟩:=h;unfold putAt;by_cases e:p.1=k
  ·rw[if_pos e,if_pos (h1.symm.trans e)];exact⟨h1,h2,ry⟩
  ·rw[if_neg e,if_neg (λz=>e (h1.trans z))];exact⟨h1,h2,h3⟩
theorem KT.put (r:KT H kvs xs) (k:List Key) (hb:H b=some (.tup (k.map kV))) (ry:RelV y u):
  KT H (qho kvs k y) (storedH xs k b u):=by
 have e:(kvs.any λkv=>decide (kv.1=k))=(atKey xs k).isSome:=by rw[qgd,(r.val k).isSome_eq,Option.isSome_map]
 unfold qho storedH;rw[e];by_cases q:(atKey xs k).isSome=true
 ·rw[if_pos q,if_pos q];exact r.repl k ry
 ·rw[if_neg q,if_neg q];exact Paired.snoc r ⟨rfl,hb,ry⟩
theorem KT.keeps(r:KT H kvs xs)(ht: ∀b ys,H b=some (.tup ys)->H' b=some (.tup ys)):KT H' kvs xs:=
 Paired.mapP r λ_ _ z=>⟨z.1,ht _ _ z.2.1,z.2.2⟩
section
theorem qpi(ok:HOk P w H h)(e:Rd H a u):qax P w H h a u:=e.ok ok
theorem qhN(ok:HOk P w H h)(e:Rd H a (.dK kvs)):kvs.length<=sizeLine/\(a==sysModules)=false/\∃vs,KV kvs vs/\h.DictOf (qap P w) a vs:=
 show qax P w H h a (.dK kvs) from qpi ok e
theorem qok(ok:HOk P w H h)(e:H a=some (.dK kvs)):kvs.length<=sizeLine/\(a==sysModules)=false/\∃vs,KV kvs vs/\h.DictOf (qap P w) a vs:=qhN ok (.inl e)
theorem qeW(ok:HOk P w H h)(e:H a=some (.tup (ks.map kV))):(tupleKind (qap P w)).is h ks a:=by
 obtain⟨_,its,r,o,h1,h2,n,h3⟩:=(show qax P w H h a (.tup (ks.map kV)) from ok a _ e)
 exact⟨o,its.toArray,n,h1,h2,h3,by simpa using qeY r⟩
theorem qjp (ok:HOk P w H h) (e:Rd H a (.dT kvs)):kvs.length<=sizeLine/\(a==sysModules)=false/\
  ∃xs,KT H kvs xs/\h.DictOfH (tupleKind (qap P w)) a xs:=by
 obtain⟨z,y,xs,r,o,es,ep,h1,h2,h3,h4,h5⟩:=(show qax P w H h a (.dT kvs) from qpi ok e)
 refine⟨z,y,xs,r,o,es,ep,h1,h2,h3,h4,λx hx=> ?_,h5⟩;have all: ∀{l:List (List Key×V)} {m:List (List Key×Addr×Value)},KT H l m->∀x∈m,(tupleKind (qap P w)).is h x.1 x.2.1:=by
  intro l m q
  induction q with
  |nil=>intro x hx;exact nomatch hx
  |@cons p q ps qs hq t ih=>
   intro x hx
   rcases List.mem_cons.mp hx with e|hx
   ·subst e;exact qeW ok (by rw[<-hq.1];exact hq.2.1)
   ·exact ih x hx
 exact all r x hx
theorem qqU (ok:HOk P w H h) (e:H a=some (.dT kvs)):kvs.length<=sizeLine/\(a==sysModules)=false/\
  ∃xs,KT H kvs xs/\h.DictOfH (tupleKind (qap P w)) a xs:=qjp ok (.inl e)
end
def qkc(H:Hp)(a:Addr)(y:V)(r:Option V):Prop:=
 (∃kvs k,Rd H a (.dK kvs)/\y=kV k/\r=qg9 kvs k)\/∃kvs k b,Rd H a (.dT kvs)/\y= .ref b/\H b=some (.tup (k.map kV))/\r=qg9 kvs k
def qwk(H:Hp)(a:Addr)(y v:V)(H':Hp):Prop:=
 (∃kvs k,H a=some (.dK kvs)/\y=kV k/\kvs.length<sizeLine/\H'=upd H a (.dK (qho kvs k v)))\/
 ∃kvs k b,H a=some (.dT kvs)/\y= .ref b/\H b=some (.tup (k.map kV))/\kvs.length<sizeLine/\H'=upd H a (.dT (qho kvs k v))
section
theorem Inv.big(I:Inv X pins σ H s):sysModules<s.heap.objs.size:=by have h:mainGlobals<s.heap.objs.size:=(I.mod.glob.keeps I.bk).lt;exact Nat.lt_trans (by decide) h
theorem qjx (hu:A.units+1<cLine) (I:Inv X pins σ H s) (g:qkc H a y (some v)) (ry:RelV y u) (h: ∀w' s',Inv X pins σ H s'->RelV v w'->Q w' s'):
  wpAny (model X.prog X.w) A (getItem (.ref a) u) Q E s:=by
 rcases g with⟨kvs,k,e,ey,l⟩|⟨kvs,k,b,e,ey,eb,l⟩
 ·subst ey;obtain⟨z,hd,vs,rel,dd⟩:=qhN I.hok e;obtain⟨w',hw,aF⟩:=qj6.some_of (v:=v) (o:=valueAt vs k) (by rw[l];exact rel.val k);exact wpAny_getItem_of (qhE ry) dd.mapOf hw (h w' _ (I.tok _) aF)
 ·subst ey;cases(show u=Value.ref b from ry);obtain⟨z,hd,xs,rel,dd⟩:=qjp I.hok e;obtain⟨w',hw,aF⟩:=qj6.some_of (v:=v) (o:=(atKey xs k).map (·.2)) (by rw[l];exact rel.val k);obtain⟨p,hp,hp2⟩:=Option.map_eq_some_iff.mp hw;refine wpAny_getItem_heap (tupleKind_room_in1 hu) (qeW I.hok eb) dd hp ?_;rw[hp2];exact h w' _ (I.tok _) aF
theorem quO (hu:A.units+1<cLine) (I:Inv X pins σ H s) (g:qkc H a y o) (ry:RelV y u) (h: ∀s',Inv X pins σ H s'->Q (.bool o.isSome) s'):
  wpAny (model X.prog X.w) A (compareOp .In u (.ref a)) Q E s:=by
 rcases g with⟨kvs,k,e,ey,l⟩|⟨kvs,k,b,e,ey,eb,l⟩
 ·subst ey;obtain⟨z,hd,vs,rel,dd⟩:=qhN I.hok e;refine wpAny_in_of (qhE ry) hd dd.mapOf ?_;rw[<-(rel.val k).isSome_eq,<-l];exact h _ (I.tok _)
 ·subst ey;cases(show u=Value.ref b from ry);obtain⟨z,hd,xs,rel,dd⟩:=qjp I.hok e;refine wpAny_in_heap (tupleKind_room_in1 hu) (qeW I.hok eb) hd dd ?_;have q:=(rel.val k).isSome_eq;rw[Option.isSome_map] at q;rw[<-q,<-l];exact h _ (I.tok _)
theorem qjw (hu:A.units+1<cLine) (I:Inv X pins σ H s) (g:qkc H a y o) (ry:RelV y u) (h: ∀s',Inv X pins σ H s'->Q (.bool (!o.isSome)) s'):
  wpAny (model X.prog X.w) A (compareOp .NotIn u (.ref a)) Q E s:=by
 rcases g with⟨kvs,k,e,ey,l⟩|⟨kvs,k,b,e,ey,eb,l⟩
 ·subst ey;obtain⟨z,hd,vs,rel,dd⟩:=qhN I.hok e;refine wpAny_notIn_of (qhE ry) hd dd.mapOf ?_;rw[<-(rel.val k).isSome_eq,<-l];exact h _ (I.tok _)
 ·subst ey;cases(show u=Value.ref b from ry);obtain⟨z,hd,xs,rel,dd⟩:=qjp I.hok e;refine wpAny_notIn_heap (tupleKind_room_in1 hu) (qeW I.hok eb) hd dd ?_;have q:=(rel.val k).isSome_eq;rw[Option.isSome_map] at q;rw[<-q,<-l];exact h _ (I.tok _)
theorem qf3 (I:Inv X pins σ H s) (mu:Mut (H a)) (hs:Heap.SameBut a s.heap h') (he: ∃q,h'.get? a=some q) (new:qax X.prog X.w (upd H a ob) h' a ob):
  Inv X pins σ (upd H a ob) { s with heap:=h',toks:=t' }:=
 I.write (x:=a) (e:=a) mu (.inl rfl) (λb q hb z=>(hs.2 b hb).trans z) he new
theorem qmp (z:kvs.length<=sizeLine) (hd:(a==sysModules)=false) (rel:KV kvs vs) (dd:h'.DictOf (qap P w) a vs):
  qax P w H' h' a (.dK kvs):=⟨z,hd,vs,rel,dd⟩
theorem qc2 (hu:A.units+1<cLine) (I:Inv X pins σ H s) (g:qwk H a y v H') (ry:RelV y u) (rv:RelV v r) (h: ∀s',Inv X pins σ H' s'->Q () s'):
  wpAny (model X.prog X.w) A (setItem (.ref a) u r) Q E s:=by
 rcases g with⟨kvs,k,e,ey,l,eH⟩|⟨kvs,k,b,e,ey,eb,l,eH⟩
 ·subst ey eH;obtain⟨z,hd,vs,rel,dd⟩:=qok I.hok e;have hz:vs.length<=sizeLine:=by rw[<-rel.length];exact z
  have hl:(qho kvs k v).length<=sizeLine:=by have:=qbL kvs k v;omega
  refine wpAny_setItem_pairs (hsz:=hz) (qhE ry) dd λh' d9 hs=>h _ ?_;have he: ∃q,h'.get? a=some q:=let ⟨q,_,_,hq,_⟩:=d9;⟨q,hq⟩
  exact qf3 I (by rw[e];exact True.intro) hs he (qmp hl hd (rel.put k rv) d9)
 ·subst ey eH;cases(show u=Value.ref b from ry);obtain⟨z,hd,xs,rel,dd⟩:=qqU I.hok e;have hz:xs.length<=sizeLine:=by rw[<-Paired.length rel];exact z
  have hl:(qho kvs k v).length<=sizeLine:=by have:=qbL kvs k v;omega
  refine wpAny_setItem_heap (hsz:=hz) (tupleKind_room_in1 hu) (qeW I.hok eb) dd λh' d9 hs=>h _ ?_;obtain⟨q,es,ep,hq,h2,h3,h4,_,h5⟩:=d9;refine qf3 I (by rw[e];exact True.intro) hs ⟨q,hq⟩ ⟨hl,hd,_,(rel.put k eb rv).keeps λc ys ec=> ?_,q,es,ep,hq,h2,h3,h4,h5⟩;rw[qaa (qs0 ec e (λz=>nomatch z))];exact ec
end
section
theorem qtR(I:Inv X pins σ H s)(e:Rd H a (.dK kvs))(h: ∀t s',Inv X pins σ H s'->Q (.int kvs.length t) s'):wpAny (model X.prog X.w) A (call (.builtin "len") [.ref a]) Q E s:=by obtain⟨z,hd,vs,rel,dd⟩:=qhN I.hok e;refine call_len_dict hd dd (by rw[<-rel.length];rw[sizeLine_eq] at z;omega) ?_;rw[<-rel.length];exact h _ _ (I.tok _)
end
theorem qf0(I:Inv X pins σ H s)(g:qkc H a y o):s.TypeIs (.ref a) "dict" :=by
 rcases g with⟨kvs,k,e,_,_⟩|⟨kvs,k,b,e,_,_,_⟩
 ·obtain⟨_,_,vs,_,dd⟩:=qhN I.hok e;exact dd.typeIs
 ·obtain⟨_,_,xs,_,dd⟩:=qjp I.hok e;exact dd.typeIs
theorem qlq(h:Heap)(hb:sysModules<h.objs.size):qax P w H (h.push { cls:=.type "dict",data:=.dict #[] }) h.objs.size (.dK []):=
 ⟨Nat.zero_le _,beq_eq_false_iff_ne.mpr (Ne.symm (Vp hb)),[],.nil,Heap.DictOf.new h⟩
def qo3:TE:=λ_ H Q=> ∀p,H p=none->Q (.ref p) (upd H p (.dK []))
section
theorem qkT:PE X (.Dict [] [] pos) qo3:=λpins s σ H Q I h=>
 wpAny_Dict_empty ⟨.ref s.heap.objs.size,_,I.laid (a:=s.heap.objs.size) (o:=.dK []) (t':=s.toks) (λ_ _ q=>Vg _ q) (Vm _) (qlq s.heap I.big),rfl,h _ (I.hok.fresh (Vm _))⟩
end
structure M1(X:Cx)(o:Expr)(m:Str)(apos:Pos)(e:Expr)(cpos:Pos):Prop where
 base:attributeBase o m X.env (eval o X.env)=eval o X.env
 few:((backTo cpos (starEach [e] X.env)).all (λx=> !x.1)&&(backToKw cpos (keywordEach [] X.env)).all (λx=>x.1.isSome)
  &&decide (([e]:List Expr).length+([]:List Keyword).length+(if([]:List Keyword).isEmpty then 0 else 1)<30))=true
 line:(apos.endLine==cpos.line)=true
 trees:backTo cpos (starEach [e] X.env)=[(false,eval e X.env)]
structure M2(X:Cx)(o:Expr)(m:Str)(apos:Pos)(e f:Expr)(cpos:Pos):Prop where
 base:attributeBase o m X.env (eval o X.env)=eval o X.env
 few:((backTo cpos (starEach [e,f] X.env)).all (λx=> !x.1)&&(backToKw cpos (keywordEach [] X.env)).all (λx=>x.1.isSome)
  &&decide (([e,f]:List Expr).length+([]:List Keyword).length+(if([]:List Keyword).isEmpty then 0 else 1)<30))=true
 line:(apos.endLine==cpos.line)=true
 trees:backTo cpos (starEach [e,f] X.env)=[(false,eval e X.env),(false,eval f X.env)]
def IsD(H:Hp)(a:Addr):Prop:=(∃kvs,Rd H a (.dK kvs))\/∃kvs,Rd H a (.dT kvs)
section
theorem qjR:qas X (.builtin "len") (λxs H Q=> ∃a kvs,xs=[V.ref a]/\H a=some (.dK kvs)/\Q (.int kvs.length) H):=by intro pins s σ H xs us Q I r h;obtain⟨a,kvs,rfl,ha,q⟩:=h;obtain⟨u,rfl,ru⟩:=qeu r;cases ru;exact qtR I (.inl ha) λt s' I'=>⟨.int kvs.length,H,I',⟨t,rfl⟩,q⟩
end
end L2
namespace RH
open PySem L2
abbrev Rw:=Int×Str×Int
def qwd(rs:List Rw)(k:Str):List Int:=(rs.filter λr=>decide (r.2.1=k)).map (·.2.2)
def outT(g:List Int->Rw->Option Rw)(rs:List Rw)(i:Nat):List Rw:=(List.range i).filterMap λj=>(rs[j]?).bind λr=>g (qwd (rs.take j) r.2.1) r
open PySem.Spec PyProof.Rows
def pickL{α:Type}(xs:List α)(lo hi st:Option Int):List α:=(sliceRange (sliceBounds lo hi st xs.length).1 (sliceBounds lo hi st xs.length).2.1 (sliceBounds lo hi st xs.length).2.2).filterMap (xs[·]?)
end RH
namespace L2
open PySem PySem.Spec PyProof.Rows
end L2
namespace RH
open PySem L2
open PySem.Spec PyProof.Rows
end RH
namespace St
open PySem PySem.W PySem.Calls PyProof.Rows
section
theorem qfC(h:n<2):qbq kz n (List.toArray (List.range n)):=by refine⟨⟨by simp,λi hi=> ?_,λi q1 q2=>by lia⟩,λi j aJ hj=>by lia⟩;unfold g;rw[Array.getD_eq_getD_getElem?];simp[hi]
theorem lsort_p {s:Shared} {vs:List Value} {kz:List Int} {h0:Heap} {n:Nat} (ho:s.heap.get? D=some (seqObj "list" vs.toArray n)) (hlen:kz.length=vs.length) (aY:vs.length<64) (kp:Kp h0 s.heap) (cb:h0.get? D=none) (kind: ∀s':Shared,Kp h0 s'.heap->2<=vs.length->∀Q:SortKind->Shared->Prop,Q κ s'->wpAny (model prog w) A (keyKind' vs.toArray) Q E s') (cmp: ∀s':Shared,Kp h0 s'.heap->∀i j,i<vs.length->j<vs.length->∀C:Bool->Shared->Prop,C (decide (kz.getD i 0<kz.getD j 0)) s'->wpAny (model prog w) A (keyLt' κ (vs.getD i Value.none) (vs.getD j Value.none)) C (λ_ _=>False) s') (h: ∀h' tk c (p:Array Nat),Kp h0 h'->qbq kz vs.length p->h'.get? D=some (seqObj "list" (List.toArray (p.toList.map λi=>vs.getD i Value.none)) c)->P (.done (.ret .none)) { s with heap:=h',toks:=tk }):
  wpAny (model prog w) A (Builtin.«list.sort» ⟨[.ref D],[]⟩) P E s:=by
 rw[list_sort_plain];have s1:=Heap.SameBut.update s.heap D (Obj.mapSeq λ_=>(#[]:Array Value));obtain⟨e1,b7⟩: ∃e1,(s.heap.update D (Obj.mapSeq λ_=>(#[]:Array Value))).get? D=some (seqObj "list" #[] e1):=⟨_,get?_update_seq ho λ_=> #[]⟩
 refine Va (listItems_at ho rfl ?_);refine Va (listUpdate_at ho rfl ?_ (by rw[List.size_toArray,sizeLine_eq];lia) (Nat.zero_le _));refine Va (seqEpoch_at b7 rfl ?_);generalize jx:s.heap.update D (Obj.mapSeq λ_=>(#[]:Array Value))=H2 at b7 s1⊢;have ee:Kp h0 H2:=λb o z=>(s1.2 b (λq=>by rw[q,cb] at z;cases z)).trans (kp b o z);refine Va (wpAny_newTuple ?_ (by show vs.length<=_;rw[sizeLine_eq];lia));refine Va (wpAny_newList ?_ (Nat.zero_le _));refine wpAny_holding ?_;generalize iJ:(H2.push (seqObj "tuple" vs.toArray 0)).push (seqObj "list" #[] 0)=H3;have iK:H3.get? D=some (seqObj "list" #[] e1):=by rw[<-iJ];exact Vg _ (Vg _ b7)
 have gZ:Kp h0 H3:=λb o z=>by rw[<-iJ];exact Vg _ (Vg _ (ee b o z))
 have fin: ∀(st:SortSt) (p:Array Nat),qbq kz vs.length p->(arrOf st).map (·.2)=List.toArray (p.toList.map λi=>vs.getD i Value.none)->failedOf st=none->
   wpAny (model prog w) A (do
    let touched:=(<-seqEpoch D) != e1
    Builtin.List.listUpdate (.ref D) λ_=>(arrOf st).map (·.2)
    if let some e:=failedOf st then rule "list.sort.comparison-raised";throw e
    if touched then rule "list.sort.modified";raiseError "ValueError" "list modified during sort"
    ret .none) P E { s with heap:=H3 }:=λst p bw d6 iz=>by
  have hsz:(p.toList.map λi=>vs.getD i Value.none).length=vs.length:=by rw[List.length_map,Array.length_toList,bw.1.sz]
  refine Va (seqEpoch_at iK rfl ?_);rw[d6];refine Va (listUpdate_at iK rfl ?_ (Nat.zero_le _) (by show(List.toArray _).size<=_;rw[List.size_toArray,hsz,sizeLine_eq];lia));rw[iz];simp only[bne_self_eq_false,Bool.false_eq_true,if_false];have dX: ∃c,(H3.update D (Obj.mapSeq λ_=>List.toArray (p.toList.map λi=>vs.getD i Value.none))).get? D=some (seqObj "list" (List.toArray (p.toList.map λi=>vs.getD i Value.none)) c):=⟨_,get?_update_seq iK λ_=>List.toArray (p.toList.map λi=>vs.getD i Value.none)⟩
  obtain⟨c,hc⟩:=dX;refine Vb (h _ _ c p (λb o q=> ?_) bw hc);have nD:b≠D:=λz=>by rw[z,cb] at q;cases q
  exact((Heap.SameBut.update H3 D _).2 b nD).trans (gZ b o q)
 by_cases h2:vs.toArray.size<2
 ·rw[if_pos h2,if_pos h2];refine Va (Vb ?_);dsimp only;rw[StateT.run_pure];refine Va (Vb ?_);rw[List.size_toArray] at h2;refine fin _ _ (qfC h2) ?_ rfl;show(vs.toArray.zip vs.toArray).map (·.2)=_;apply Array.toList_inj.mp;rw[Array.toList_map,ksk_zip,List.toList_toArray,List.toList_toArray];rw[show(vs.zip vs).map (λx:Value×Value=>x.2)=vs from List.map_snd_zip (by lia)];apply List.ext_getElem
  ·simp
  ·intro i h3 h4;simp[List.getElem?_eq_getElem h3]
 ·rw[if_neg h2,if_neg h2];rw[List.size_toArray] at h2;refine Va (kind { s with heap:=H3 } gZ (by lia) _ ?_)
  have run:=kat_run (prog:=prog) (w:=w) (A:=A) (E:=E) (s:={ s with heap:=H3 }) (κ:=κ) (ks:=vs) (vs:=vs) (Q:=λst s'=>s'={ s with heap:=H3 }/\∃p,qbq kz vs.length p/\(arrOf st).map (·.2)=List.toArray (p.toList.map λi=>vs.getD i Value.none)/\failedOf st=none)
   (G:=λp s'=>s'={ s with heap:=H3 }/\qbq kz vs.length p) rfl (by lia) aY (λp ba s' a1 a2 a3 a4=>⟨a4.1,p,a4.2,kat_snds rfl a2,a3⟩)
   (qfS (ask:=qbP λi=>kz.getD i 0) (N:=vs.length) (λi j C hi hj hc=>cmp { s with heap:=H3 } gZ i j hi hj C hc) (λp hp=>⟨rfl,hp⟩) (qik (by lia)))
  refine Va (Vc run (λr s' hr=> ?_) λ_ _ x=>x);obtain⟨rfl,p,bw,d6,hf⟩:=hr;exact fin _ p bw d6 hf
end
end St
namespace SR
section
def ins{α:Type}(k:α->Int)(r:α):List α->List α
 |[]=>[r]
 |x::l=>if k x<=k r then x::ins k r l else r::x::l
def srt{α:Type}(k:α->Int)(l:List α):List α:=l.foldl (λa r=>ins k r a) []
theorem qdS:srt k (l++[r])=ins k r (srt k l):=by unfold srt;rw[List.foldl_append];rfl
theorem qi5{α:Type}{β:Type}{k:α->Int}{k':β->Int}{f:β->α}(h: ∀b,k' b=k (f b))(r:β): ∀l:List β,(ins k' r l).map f=ins k (f r) (l.map f)
 |[]=>rfl
 |x::l=>by
  show List.map f (if k' x<=k' r then x::ins k' r l else r::x::l)=(if k (f x)<=k (f r) then f x::ins k (f r) (l.map f) else f r::f x::l.map f)
  rw[h x,h r];by_cases c:k (f x)<=k (f r)
  ·rw[if_pos c,if_pos c,List.map_cons,qi5 h r l]
  ·rw[if_neg c,if_neg c,List.map_cons,List.map_cons]
theorem srt_map{α:Type}{β:Type}{k:α->Int}{k':β->Int}{f:β->α}(h: ∀b,k' b=k (f b))(l:List β):(srt k' l).map f=srt k (l.map f):=by
 have go: ∀(l a:List β),(l.foldl (λa r=>ins k' r a) a).map f=(l.map f).foldl (λa r=>ins k r a) (a.map f):=by
  intro l
  induction l with
  |nil=>intro a;rfl
  |cons x l ih=>intro a;rw[List.foldl_cons,ih,List.map_cons,List.foldl_cons,qi5 h]
 exact go l []
theorem qd8: ∀{l:List α},x∈ins k r l↔x=r\/x∈l
 |[]=>by simp[ins]
 |y::l=>by
  unfold ins;by_cases c:k y<=k r
  ·rw[if_pos c,List.mem_cons,qd8,List.mem_cons];constructor
   ·rintro(h|h|h)
    ·exact .inr (.inl h)
    ·exact .inl h
    ·exact .inr (.inr h)
   ·rintro(h|h|h)
    ·exact .inr (.inl h)
    ·exact .inl h
    ·exact .inr (.inr h)
  ·rw[if_neg c,List.mem_cons]
theorem qdw: ∀{l:List α},(ins k r l).length=l.length+1
 |[]=>rfl
 |y::l=>by
  unfold ins;by_cases c:k y<=k r
  ·rw[if_pos c,List.length_cons,qdw,List.length_cons]
  ·rw[if_neg c];rfl
theorem mem_srt(l:List α):x∈srt k l↔x∈l:=by
 have go: ∀(l a:List α),x∈l.foldl (λa r=>ins k r a) a↔x∈a\/x∈l:=by
  intro l
  induction l with
  |nil=>intro a;simp
  |cons y l ih=>
   intro a;rw[List.foldl_cons,ih,qd8,List.mem_cons];constructor
   ·rintro((h|h)|h)
    ·exact .inr (.inl h)
    ·exact .inl h
    ·exact .inr (.inr h)
   ·rintro(h|h|h)
    ·exact .inl (.inr h)
    ·exact .inl (.inl h)
    ·exact .inr h
 rw[show srt k l=l.foldl (λa r=>ins k r a) [] from rfl,go];simp
theorem length_srt(l:List α):(srt k l).length=l.length:=by
 have go: ∀(l a:List α),(l.foldl (λa r=>ins k r a) a).length=a.length+l.length:=by
  intro l
  induction l with
  |nil=>intro a;simp
  |cons y l ih=>intro a;rw[List.foldl_cons,ih,qdw,List.length_cons];lia
 have:=go l [];simpa [srt] using this
def Ris{α:Type}(k:α->Int)(l:List α):Prop:=l.Pairwise λa b=>k a<=k b
theorem qip: ∀{l:List α},Ris k l->Ris k (ins k r l)
 |[],_=>by simp[ins,Ris]
 |y::l,h=>by
  have h':=List.pairwise_cons.mp h;unfold ins;by_cases c:k y<=k r
  ·rw[if_pos c];refine List.pairwise_cons.mpr ⟨λz hz=> ?_,qip h'.2⟩
   rcases qd8.mp hz with q|q
   ·rw[q];exact c
   ·exact h'.1 z q
  ·rw[if_neg c];refine List.pairwise_cons.mpr ⟨λz hz=> ?_,h⟩
   rcases List.mem_cons.mp hz with q|q
   ·rw[q];lia
   ·have:=h'.1 z q;lia
theorem ris_srt(l:List α):Ris k (srt k l):=by
 have go: ∀(l a:List α),Ris k a->Ris k (l.foldl (λa r=>ins k r a) a):=by
  intro l
  induction l with
  |nil=>intro a h;exact h
  |cons y l ih=>intro a h;exact ih _ (qip h)
 exact go l [] List.Pairwise.nil
end
section
structure Ord(lt:α->α->Bool):Prop where
 irr: ∀a,lt a a=false
 tr: ∀a b c,lt a b=true->lt b c=true->lt a c=true
 tot: ∀a b,lt a b=false->lt b a=false->a=b
def rank{α:Type}(lt:α->α->Bool)(as:List α)(a:α):Int:=(as.countP λx=>lt x a:Nat)
theorem qfb{α:Type}{p q:α->Bool}(h: ∀x,p x=true->q x=true): ∀l:List α,l.countP p<=l.countP q
 |[]=>Vm _
 |x::l=>by
  have ih:=qfb h l;rw[List.countP_cons,List.countP_cons];cases e:p x with
  |true=>rw[h x e];simp;exact ih
  |false=>simp;lia
theorem qfa{α:Type}{p q:α->Bool}(h: ∀x,p x=true->q x=true){a:α}(ha:p a=false)(hb:q a=true): ∀{l:List α},a∈l->l.countP p<l.countP q
 |x::l,hm=>by
  rw[List.countP_cons,List.countP_cons];have le:=qfb h l
  rcases List.mem_cons.mp hm with rfl|hm
  ·rw[ha,hb];simp;lia
  ·have ih:=qfa h ha hb hm;cases e:p x with
   |true=>rw[h x e];simp;exact ih
   |false=>simp;lia
theorem rank_lt{α:Type}{lt:α->α->Bool}(o:Ord lt){as:List α}{a b:α}(ha:a∈as)(hb:b∈as):decide (rank lt as a<rank lt as b)=lt a b:=by
 have up: ∀{a b:α},a∈as->lt a b=true->rank lt as a<rank lt as b:=λ{a b} ha h=>by unfold rank;have:=qfa (p:=λx=>lt x a) (q:=λx=>lt x b) (λx hx=>o.tr x a b hx h) (o.irr a) h ha;lia
 cases h:lt a b with
 |true=>exact Vx (up ha h)
 |false=>
  refine Vy ?_;cases h2:lt b a with
  |true=>have:=up hb h2;lia
  |false=>have:=o.tot a b h h2;subst this;lia
theorem qkB(o:Ord lt)(ha:a∈as)(hb:b∈as)(h:rank lt as a=rank lt as b):a=b:=by
 refine o.tot a b ?_ ?_
 ·rw[<-rank_lt o ha hb];exact Vy (by lia)
 ·rw[<-rank_lt o hb ha];exact Vy (by lia)
def sortA{α:Type}(lt:α->α->Bool)(as:List α):List α:=srt (rank lt as) as
theorem qgv: ∀l:List α,List.Perm (ins k r l) (r::l)
 |[]=>List.Perm.refl _
 |x::l=>by
  show List.Perm (if k x<=k r then x::ins k r l else r::x::l) _;by_cases c:k x<=k r
  ·rw[if_pos c];exact((qgv l).cons x).trans (List.Perm.swap r x l)
  ·rw[if_neg c]
theorem perm_srt(l:List α):List.Perm (srt k l) l:=by
 have go: ∀(l a:List α),List.Perm (l.foldl (λa r=>ins k r a) a) (a++l):=by
  intro l
  induction l with
  |nil=>intro a;simp
  |cons x l ih=>intro a;rw[List.foldl_cons];refine(ih _).trans ?_;refine((qgv a).append_right l).trans ?_;exact List.perm_middle.symm
 exact go l []
theorem qe8: ∀{l l':List α},(∀a∈l,∀b∈l,k a=k b->a=b)->Ris k l->Ris k l'->List.Perm l l'->l=l'
 |[],l',_,_,_,p=>(List.Perm.eq_nil p.symm).symm
 |x::l,[],_,_,_,p=>absurd (List.Perm.eq_nil p) (by simp)
 |x::l,y::l',hi,h1,h2,p=>by
  have a1:=List.pairwise_cons.mp h1;have a2:=List.pairwise_cons.mp h2;have hy:y∈x::l:=p.symm.subset Vk;have hx:x∈y::l':=p.subset Vk;have e:x=y:=by
   rcases List.mem_cons.mp hy with q|q
   ·exact q.symm
   ·rcases List.mem_cons.mp hx with r|r
    ·exact r
    ·have b1:=a1.1 y q;have b2:=a2.1 x r;exact hi x Vk y hy (by lia)
  subst e;rw[qe8 (λa ha b hb=>hi a (List.mem_cons_of_mem _ ha) b (List.mem_cons_of_mem _ hb)) a1.2 a2.2 (p.cons_inv)]
theorem sortA_perm(o:Ord lt)(p:List.Perm as bs):sortA lt as=sortA lt bs:=by
 have e:rank lt as=rank lt bs:=funext λa=>by unfold rank;rw[p.countP_eq]
 unfold sortA;rw[<-e];refine qe8 (k:=rank lt as) (λa ha b hb h=>qkB o ((mem_srt _).mp ha) ((mem_srt _).mp hb) h) (ris_srt _) (ris_srt _) ?_;exact(perm_srt as).trans (p.trans (perm_srt bs).symm)
end
end SR
namespace L2
open PySem PySem.Spec PySem.Calls PyProof.Rows PySem.W
def qd1(K:Frag)(N:Addr):Bool:=nsOkIn K N&&qrP.all λn=>nsIn K N n==some none
theorem qa8{K:Frag}{h:Heap}(X:K.In h)(e:qd1 K N=true):h.Ns N (h.nsMap N)/\∀n∈qrP,h.nsMap N n=none:=by unfold qd1 at e;rw[Bool.and_eq_true] at e;exact⟨.of_isNs (isNs_of_in X e.1),λn hn=>nsMap_none_of_in X e.1 (beq_iff_eq.mp (List.all_eq_true.mp e.2 n hn))⟩
def qdO(K:Frag)(bmB:List Value):List Value->Bool
 |[]=>bmB==[]
 |v::r=>(v::r)==bmB||match v with
  |.ref A=>(match K.lookup A with
   |some ⟨_,_,.cls cd,_⟩=>qd1 K cd.ns&&qdO K bmB r
   |_=>false)
  |_=>false
theorem qcP{K:Frag}(X:K.In h): ∀{l:List Value},qdO K bmB l=true->qdl h bmB l
 |[],e=>by rw[<-beq_iff_eq.mp e];exact .base
 |v::r,e=>by
  unfold qdO at e
  rcases Bool.or_eq_true_iff.mp e with q|q
  ·rw[beq_iff_eq.mp q];exact .base
  ·split at q
   ·split at q
    ·rename_i ho;rw[Bool.and_eq_true] at q;exact .own (X _ _ ho) (qa8 X q.1).1 (qa8 X q.1).2 (qcP X q.2)
    ·cases q
   ·cases q
def qe7(K:Frag)(C:Addr)(bm:List Value):Bool:=match K.lookup C with
 |some ⟨.type "type",_,.cls cd,sl⟩=>(match cd.mro,sl.toList with
  |.ref C'::jG,[_,_,_,_,some (.builtin n),_]=>C'==C&&jG==bm&&n== "ValueError.__new__" && !cd.hasDel&&qdO K bmV bm&&qd1 K cd.ns
  |_,_=>false)
 |_=>false
theorem qhI{K:Frag}(X:K.In h)(q:qe7 K C bm=true):qh2 h C bm:=by
 unfold qe7 at q;split at q
 ·rename_i dd cd sl ho;split at q
  ·rename_i C' jG k0 k1 k2 k3 n k5 hm hs;simp only[Bool.and_eq_true,beq_iff_eq,Bool.not_eq_true'] at q;obtain⟨⟨⟨⟨⟨rfl,rfl⟩,rfl⟩,fG⟩,ht⟩,hok⟩:=q;obtain⟨nm,bs,mro,ns,qn,hd,sn,sub,ab,col,del⟩:=cd;dsimp only at hm fG hok;subst hm fG;have hsl:sl= #[k0,k1,k2,k3,some (.builtin "ValueError.__new__"),k5]:=by obtain⟨l⟩:=sl;simp only at hs;rw[hs]
   subst hsl;exact⟨ns,nm,qn,bs,hd,sn,sub,ab,col,dd,k0,k1,k2,k3,k5,_,X _ _ ho,(qa8 X hok).1,(qa8 X hok).2,qcP X ht⟩
  ·cases q
 ·cases q
end L2
namespace NV
open PySem L2
inductive T where
 |non|bl (b:Bool)|int (i:Int)|str (s:Str)|tup (ts:List T)|lst (ts:List T)|dct (kvs:List (Key×T))|fn (x:Str)|scr (ns:List Int)|obj (k:Nat)|exc (c:Str)
inductive Ct where
 |ls (ts:List T)|dk (kvs:List (Key×T))|du (kvs:List (List Key×T))|ins (c:Str) (fs:List (Str×T))|gone
structure Mu where
 l:List Ct
 k:List (Nat×Nat)
mutual
def ub:T->Nat
 |.obj k=>k+1
 |.tup ts=>ubs ts
 |.lst ts=>ubs ts
 |.dct kvs=>ubd kvs
 |_=>0
def ubs:List T->Nat
 |[]=>0
 |t::ts=>max (ub t) (ubs ts)
def ubd:List (Key×T)->Nat
 |[]=>0
 |(_,t)::ts=>max (ub t) (ubd ts)
end
def ubf{κ:Type}:List (κ×T)->Nat
 |[]=>0
 |(_,t)::ts=>max (ub t) (ubf ts)
def ubC:Ct->Nat
 |.ls ts=>ubs ts
 |.dk kvs=>ubf kvs
 |.du kvs=>ubf kvs
 |.ins _ fs=>ubf fs
 |.gone=>0
def Mu.put(m:Mu)(k:Nat)(c:Ct):Mu:=⟨m.l.set k c,if ubC c<=k then m.k else(k,ubC c)::m.k⟩
def Mu.add(m:Mu)(c:Ct):Mu:=⟨m.l++[c],if ubC c<=m.l.length then m.k else(m.l.length,ubC c)::m.k⟩
inductive R(α:Type) where
 |no|ok (a:α) (m:Mu)|ex (c:Str) (m:Mu)
def R.bind{α β:Type}:R α->(α->Mu->R β)->R β
 |.no,_=>.no
 |.ok a m,f=>f a m
 |.ex c m,_=>.ex c m
@[simp] theorem qac{α β:Type}(a:α)(m:Mu)(f:α->Mu->R β):(R.ok a m).bind f=f a m:=rfl
@[simp] theorem qsY{α β:Type}(f:α->Mu->R β):(R.no:R α).bind f= .no:=rfl
@[simp] theorem qtF{α β:Type}(c:Str)(m:Mu)(f:α->Mu->R β):(R.ex c m:R α).bind f= .ex c m:=rfl
structure qah where
 hp:Hp
 ad:Nat->Option Addr
instance:CoeFun qah λ_=>Addr->Option HO:=⟨qah.hp⟩
def clA(K:PySem.W.Frag)(x:Str):Addr:=match PySem.W.nsIn K mainGlobals x with
 |some (some (.ref C))=>C
 |_=>0
mutual
def Rep(K:PySem.W.Frag)(B:qah):T->V->Prop
 |.non,v=>v= .non
 |.bl b,v=>v= .bl b
 |.int i,v=>v= .int i
 |.str s,v=>v= .str s
 |.tup ts,v=> ∃p vs,v= .ref p/\B p=some (.tup vs)/\Reps K B ts vs
 |.lst ts,v=> ∃p vs,v= .ref p/\B p=some (.lst vs)/\Reps K B ts vs
 |.dct kvs,v=> ∃p us,v= .ref p/\B p=some (.dK us)/\RepD K B kvs us
 |.fn x,v=> ∃f,v= .ref f/\PySem.W.nsIn K mainGlobals x=some (some (.ref f))
 |.scr ns,v=> ∃p,v= .ref p/\SqL K B.hp p (ns.map V.int)
 |.obj k,v=> ∃a,v= .ref a/\B.ad k=some a
 |.exc c,v=> ∃a,v= .ref a/\B a=some (ExO a (clA K c))
def Reps(K:PySem.W.Frag)(B:qah):List T->List V->Prop
 |[],vs=>vs=[]
 |t::ts,vs=> ∃v r,vs=v::r/\Rep K B t v/\Reps K B ts r
def RepD(K:PySem.W.Frag)(B:qah):List (Key×T)->List (Key×V)->Prop
 |[],vs=>vs=[]
 |(k,t)::ts,vs=> ∃v r,vs=(k,v)::r/\Rep K B t v/\RepD K B ts r
end
def qbh(K:PySem.W.Frag)(B:qah){κ:Type}:List (κ×T)->List (κ×V)->Prop
 |[],vs=>vs=[]
 |(k,t)::ts,vs=> ∃v r,vs=(k,v)::r/\Rep K B t v/\qbh K B ts r
structure Le(B B':qah):Prop where
 h: ∀a o,B a=some o->B' a=some o
 d: ∀k a,B.ad k=some a->B'.ad k=some a
theorem Le.refl(B:qah):Le B B:=⟨λ_ _ h=>h,λ_ _ h=>h⟩
theorem Le.trans{A B C:qah}(h:Le A B)(h':Le B C):Le A C:=⟨λa o e=>h'.h a o (h.h a o e),λa o e=>h'.d a o (h.d a o e)⟩
theorem qii{K:PySem.W.Frag}{B B':Hp}{p:Addr}{vs:List V}(h: ∀a o,B a=some o->B' a=some o)(q:SqL K B p vs):SqL K B' p vs:=by
 rcases q with(q|⟨o,q⟩)|q
 ·exact .inl (.inl (h _ _ q))
 ·exact .inl (.inr ⟨o,h _ _ q⟩)
 ·exact .inr q
mutual
theorem Rep.mono{K:PySem.W.Frag}{B B':qah}(h:Le B B'): ∀{t:T} {v:V},Rep K B t v->Rep K B' t v
 |.non,_,r=>r
 |.bl _,_,r=>r
 |.int _,_,r=>r
 |.str _,_,r=>r
 |.fn _,_,r=>by unfold Rep at r⊢;exact r
 |.tup _,_,r=>by unfold Rep at r⊢;obtain⟨p,vs,e,q,rs⟩:=r;exact⟨p,vs,e,h.h _ _ q,Reps.mono h rs⟩
 |.lst _,_,r=>by unfold Rep at r⊢;obtain⟨p,vs,e,q,rs⟩:=r;exact⟨p,vs,e,h.h _ _ q,Reps.mono h rs⟩
 |.dct _,_,r=>by unfold Rep at r⊢;obtain⟨p,vs,e,q,rs⟩:=r;exact⟨p,vs,e,h.h _ _ q,RepD.mono h rs⟩
 |.obj _,_,r=>by unfold Rep at r⊢;obtain⟨a,e,q⟩:=r;exact⟨a,e,h.d _ _ q⟩
 |.exc _,_,r=>by unfold Rep at r⊢;obtain⟨a,e,q⟩:=r;exact⟨a,e,h.h _ _ q⟩
 |.scr _,_,r=>by unfold Rep at r⊢;obtain⟨p,e,q⟩:=r;exact⟨p,e,qii h.h q⟩
theorem Reps.mono{K:PySem.W.Frag}{B B':qah}(h:Le B B'): ∀{ts:List T} {vs:List V},Reps K B ts vs->Reps K B' ts vs
 |[],_,r=>r
 |_::_,_,r=>by unfold Reps at r⊢;obtain⟨v,r',e,a,b⟩:=r;exact⟨v,r',e,Rep.mono h a,Reps.mono h b⟩
theorem RepD.mono{K:PySem.W.Frag}{B B':qah}(h:Le B B'): ∀{ts:List (Key×T)} {vs:List (Key×V)},RepD K B ts vs->RepD K B' ts vs
 |[],_,r=>r
 |(_,_)::_,_,r=>by unfold RepD at r⊢;obtain⟨v,r',e,a,b⟩:=r;exact⟨v,r',e,Rep.mono h a,RepD.mono h b⟩
end
section
variable {K:PySem.W.Frag}{B B':qah}
theorem qbh.mono{κ:Type}(h:Le B B'): ∀{ts:List (κ×T)} {vs:List (κ×V)},qbh K B ts vs->qbh K B' ts vs
 |[],_,r=>r
 |(_,_)::_,_,⟨v,r',e,a,b⟩=>⟨v,r',e,a.mono h,b.mono h⟩
theorem qgq: ∀{ts:List (Key×T)} {vs:List (Key×V)},qbh K B ts vs↔RepD K B ts vs
 |[],_=>by unfold RepD qbh;exact Iff.rfl
 |(_,_)::_,_=>by unfold RepD;exact⟨λ⟨v,r,e,a,b⟩=>⟨v,r,e,a,qgq.mp b⟩,λ⟨v,r,e,a,b⟩=>⟨v,r,e,a,qgq.mpr b⟩⟩
theorem Reps.nil:Reps K B [] []:=by unfold Reps;rfl
theorem Reps.cons{t:T}{v:V}{ts:List T}{vs:List V}(h:Rep K B t v)(r:Reps K B ts vs):Reps K B (t::ts) (v::vs):=by unfold Reps;exact⟨v,vs,rfl,h,r⟩
theorem Reps.inv{t:T}{ts:List T}{vs:List V}(h:Reps K B (t::ts) vs): ∃v r,vs=v::r/\Rep K B t v/\Reps K B ts r:=by unfold Reps at h;exact h
theorem Reps.inv0{vs:List V}(h:Reps K B [] vs):vs=[]:=by unfold Reps at h;exact h
theorem Reps.length: ∀{ts:List T} {vs:List V},Reps K B ts vs->vs.length=ts.length
 |[],_,h=>by rw[h.inv0];rfl
 |_::_,_,h=>by obtain⟨v,r,rfl,_,h'⟩:=h.inv;simp[Reps.length h']
theorem Reps.get: ∀{ts:List T} {vs:List V} {i:Nat} {t:T},Reps K B ts vs->ts[i]? =some t->∃v,vs[i]? =some v/\Rep K B t v
 |[],_,_,_,_,e=>by simp at e
 |_::_,_,0,_,h,e=>by obtain⟨v,r,rfl,a,_⟩:=h.inv;simp at e;subst e;exact⟨v,rfl,a⟩
 |_::_,_,i+1,t,h,e=>by obtain⟨v,r,rfl,_,h'⟩:=h.inv;obtain⟨u,e1,e2⟩:=Reps.get (i:=i) h' (by simpa using e);exact⟨u,by simpa using e1,e2⟩
theorem Reps.of_get{ts:List T}{vs:List V}(hl:vs.length=ts.length)(h: ∀(i:Nat) (t:T) (v:V),ts[i]? =some t->vs[i]? =some v->Rep K B t v):Reps K B ts vs:=by
 induction ts generalizing vs with
 |nil=>cases vs with
  |nil=>exact .nil
  |cons _ _=>cases hl
 |cons t ts ih=>cases vs with
  |nil=>cases hl
  |cons v vs=>exact .cons (h 0 t v rfl rfl) (ih (by simpa using hl) λi t' v' a b=>h (i+1) t' v' (by simpa using a) (by simpa using b))
theorem Reps.append: ∀{ts us:List T} {vs ws:List V},Reps K B ts vs->Reps K B us ws->Reps K B (ts++us) (vs++ws)
 |[],_,_,_,h,h'=>by rw[h.inv0];exact h'
 |_::_,_,_,_,h,h'=>by obtain⟨v,r,rfl,a,b⟩:=h.inv;exact .cons a (Reps.append b h')
theorem Reps.one{t:T}{v:V}(r:Rep K B t v):Reps K B [t] [v]:=.cons r .nil
theorem Reps.take{ts:List T}{vs:List V}(n:Nat)(h:Reps K B ts vs):Reps K B (ts.take n) (vs.take n):=by
 refine .of_get (by simp[h.length]) λi t v a b=> ?_;rw[List.getElem?_take] at a b;split at a
 ·rename_i hi;rw[if_pos hi] at b;obtain⟨u,e1,e2⟩:=h.get a;rw[b] at e1;cases e1;exact e2
 ·cases a
theorem Reps.drop{ts:List T}{vs:List V}(n:Nat)(h:Reps K B ts vs):Reps K B (ts.drop n) (vs.drop n):=by refine .of_get (by simp[h.length]) λi t v a b=> ?_;rw[List.getElem?_drop] at a b;obtain⟨u,e1,e2⟩:=h.get a;rw[b] at e1;cases e1;exact e2
theorem Reps.set{ts:List T}{vs:List V}{t:T}{v:V}(n:Nat)(h:Reps K B ts vs)(r:Rep K B t v):Reps K B (ts.set n t) (vs.set n v):=by
 refine .of_get (by simp[h.length]) λi t' v' a b=> ?_;have hl:=h.length;rw[List.getElem?_set] at a b;by_cases hi:n=i
 ·subst hi;rw[if_pos rfl] at a b;split at a
  ·split at b
   ·cases a;cases b;exact r
   ·cases b
  ·cases a
 ·rw[if_neg hi] at a b;obtain⟨u,e1,e2⟩:=h.get a;rw[b] at e1;cases e1;exact e2
theorem Reps.getD{ts:List T}{vs:List V}(h:Reps K B ts vs)(j:Nat)(hj:j<ts.length):Rep K B (ts.getD j .non) (vs.getD j .non):=by obtain⟨u,e1,e2⟩:=h.get (Vz hj);rw[List.getD_eq_getElem?_getD,List.getD_eq_getElem?_getD,e1,List.getElem?_eq_getElem hj];exact e2
theorem qbh.length{κ:Type}: ∀{ts:List (κ×T)} {vs:List (κ×V)},qbh K B ts vs->vs.length=ts.length
 |[],_,h=>by rw[show _=_ from h];rfl
 |(_,_)::_,_,⟨v,r,e,_,h⟩=>by rw[e];simp[qbh.length h]
theorem qbx{b:Bool}{v:V}(r:Rep K B (.bl b) v):v= .bl b:=by unfold Rep at r;exact r
theorem qad{b:Int}{v:V}(r:Rep K B (.int b) v):v= .int b:=by unfold Rep at r;exact r
theorem qat{b:Str}{v:V}(r:Rep K B (.str b) v):v= .str b:=by unfold Rep at r;exact r
theorem qdZ{v:V}(r:Rep K B .non v):v= .non:=by unfold Rep at r;exact r
theorem qaq{ts:List T}{v:V}(r:Rep K B (.tup ts) v): ∃p vs,v= .ref p/\B p=some (.tup vs)/\Reps K B ts vs:=by unfold Rep at r;exact r
theorem qau{ts:List T}{v:V}(r:Rep K B (.lst ts) v): ∃p vs,v= .ref p/\B p=some (.lst vs)/\Reps K B ts vs:=by unfold Rep at r;exact r
theorem qfA{ts:List (Key×T)}{v:V}(r:Rep K B (.dct ts) v): ∃p vs,v= .ref p/\B p=some (.dK vs)/\qbh K B ts vs:=by unfold Rep at r;obtain⟨p,vs,a,b,c⟩:=r;exact⟨p,vs,a,b,qgq.mpr c⟩
theorem qaF{k:Nat}{v:V}(r:Rep K B (.obj k) v): ∃a,v= .ref a/\B.ad k=some a:=by unfold Rep at r;exact r
theorem qmZ{c:Str}{v:V}(r:Rep K B (.exc c) v): ∃a,v= .ref a/\B a=some (ExO a (clA K c)):=by unfold Rep at r;exact r
theorem qa9{b:Bool}:Rep K B (.bl b) (.bl b):=by unfold Rep;rfl
theorem qay{b:Int}:Rep K B (.int b) (.int b):=by unfold Rep;rfl
theorem qcp{b:Str}:Rep K B (.str b) (.str b):=by unfold Rep;rfl
theorem qgz:Rep K B .non .non:=by unfold Rep;rfl
theorem qdt{ts:List T}{p:Addr}{vs:List V}(h:B p=some (.tup vs))(r:Reps K B ts vs):Rep K B (.tup ts) (.ref p):=by unfold Rep;exact⟨p,vs,rfl,h,r⟩
theorem qcU{ts:List T}{p:Addr}{vs:List V}(h:B p=some (.lst vs))(r:Reps K B ts vs):Rep K B (.lst ts) (.ref p):=by unfold Rep;exact⟨p,vs,rfl,h,r⟩
theorem qgA{ts:List (Key×T)}{p:Addr}{vs:List (Key×V)}(h:B p=some (.dK vs))(r:qbh K B ts vs):Rep K B (.dct ts) (.ref p):=by unfold Rep;exact⟨p,vs,rfl,h,qgq.mp r⟩
theorem qiL{k:Nat}{a:Addr}(h:B.ad k=some a):Rep K B (.obj k) (.ref a):=by unfold Rep;exact⟨a,rfl,h⟩
end
section
variable {K:PySem.W.Frag}{B:qah}{n:Nat}
def qah.cut(B:qah)(n:Nat):qah:=⟨B.hp,λj=>if j<n then B.ad j else none⟩
mutual
theorem Rep.cut: ∀{t:T} {v:V},Rep K B t v->ub t<=n->Rep K (B.cut n) t v
 |.non,_,r,_=>r
 |.bl _,_,r,_=>r
 |.int _,_,r,_=>r
 |.str _,_,r,_=>r
 |.fn _,_,r,_=>by unfold Rep at r⊢;exact r
 |.tup _,_,r,h=>by unfold Rep at r⊢;unfold ub at h;obtain⟨p,vs,e,q,rs⟩:=r;exact⟨p,vs,e,q,Reps.cut rs h⟩
 |.lst _,_,r,h=>by unfold Rep at r⊢;unfold ub at h;obtain⟨p,vs,e,q,rs⟩:=r;exact⟨p,vs,e,q,Reps.cut rs h⟩
 |.dct _,_,r,h=>by unfold Rep at r⊢;unfold ub at h;obtain⟨p,vs,e,q,rs⟩:=r;exact⟨p,vs,e,q,RepD.cut rs h⟩
 |.obj _,_,r,h=>by unfold Rep at r⊢;unfold ub at h;obtain⟨a,e,q⟩:=r;exact⟨a,e,by show(if _ then _ else _)=_;rw[if_pos (show _<n from h)];exact q⟩
 |.exc _,_,r,_=>by unfold Rep at r⊢;exact r
 |.scr _,_,r,_=>by unfold Rep at r⊢;exact r
theorem Reps.cut: ∀{ts:List T} {vs:List V},Reps K B ts vs->ubs ts<=n->Reps K (B.cut n) ts vs
 |[],_,r,_=>r
 |_::_,_,r,h=>by unfold Reps at r⊢;unfold ubs at h;obtain⟨v,r',e,a,b⟩:=r;exact⟨v,r',e,Rep.cut a (Vr (Nat.le_max_left _ _) h),Reps.cut b (Vr (Nat.le_max_right _ _) h)⟩
theorem RepD.cut: ∀{ts:List (Key×T)} {vs:List (Key×V)},RepD K B ts vs->ubd ts<=n->RepD K (B.cut n) ts vs
 |[],_,r,_=>r
 |(_,_)::_,_,r,h=>by unfold RepD at r⊢;unfold ubd at h;obtain⟨v,r',e,a,b⟩:=r;exact⟨v,r',e,Rep.cut a (Vr (Nat.le_max_left _ _) h),RepD.cut b (Vr (Nat.le_max_right _ _) h)⟩
end
theorem qbh.cut{κ:Type}: ∀{ts:List (κ×T)} {vs:List (κ×V)},qbh K B ts vs->ubf ts<=n->qbh K (B.cut n) ts vs
 |[],_,r,_=>r
 |(_,_)::_,_,⟨v,r',e,a,b⟩,h=>by unfold ubf at h;exact⟨v,r',e,Rep.cut a (Vr (Nat.le_max_left _ _) h),qbh.cut b (Vr (Nat.le_max_right _ _) h)⟩
mutual
theorem Rep.ub(hd: ∀k a,B.ad k=some a->k<n): ∀{t:T} {v:V},Rep K B t v->ub t<=n
 |.non,_,_=>Nat.zero_le _
 |.bl _,_,_=>Nat.zero_le _
 |.int _,_,_=>Nat.zero_le _
 |.str _,_,_=>Nat.zero_le _
 |.fn _,_,_=>Nat.zero_le _
 |.tup _,_,r=>by unfold Rep at r;unfold NV.ub;obtain⟨p,vs,e,q,rs⟩:=r;exact Reps.ub hd rs
 |.lst _,_,r=>by unfold Rep at r;unfold NV.ub;obtain⟨p,vs,e,q,rs⟩:=r;exact Reps.ub hd rs
 |.dct _,_,r=>by unfold Rep at r;unfold NV.ub;obtain⟨p,vs,e,q,rs⟩:=r;exact RepD.ub hd rs
 |.obj _,_,r=>by unfold Rep at r;unfold NV.ub;obtain⟨a,e,q⟩:=r;exact hd _ _ q
 |.exc _,_,_=>Nat.zero_le _
 |.scr _,_,_=>Nat.zero_le _
theorem Reps.ub(hd: ∀k a,B.ad k=some a->k<n): ∀{ts:List T} {vs:List V},Reps K B ts vs->ubs ts<=n
 |[],_,_=>Nat.zero_le _
 |_::_,_,r=>by unfold Reps at r;unfold ubs;obtain⟨v,r',e,a,b⟩:=r;exact Nat.max_le.mpr ⟨Rep.ub hd a,Reps.ub hd b⟩
theorem RepD.ub(hd: ∀k a,B.ad k=some a->k<n): ∀{ts:List (Key×T)} {vs:List (Key×V)},RepD K B ts vs->ubd ts<=n
 |[],_,_=>Nat.zero_le _
 |(_,_)::_,_,r=>by unfold RepD at r;unfold ubd;obtain⟨v,r',e,a,b⟩:=r;exact Nat.max_le.mpr ⟨Rep.ub hd a,RepD.ub hd b⟩
end
theorem qbh.ub{κ:Type}(hd: ∀k a,B.ad k=some a->k<n): ∀{ts:List (κ×T)} {vs:List (κ×V)},qbh K B ts vs->ubf ts<=n
 |[],_,_=>Nat.zero_le _
 |(_,_)::_,_,⟨v,r',e,a,b⟩=>by unfold ubf;exact Nat.max_le.mpr ⟨Rep.ub hd a,qbh.ub hd b⟩
end
structure Gam where
 P:Hp->Prop
 st: ∀H H':Hp,(∀a o,H a=some o->(∀xs,o≠.lst xs)->(∀xs,o≠.dK xs)->(∀xs,o≠.dT xs)->(∀C dx fs,o≠.ins C dx fs)->H' a=some o)->P H->P H'
structure Md where
 K:W.Frag
 G:Gam
def qes(K:W.Frag)(B:qah):Ct->HO->Prop
 |.ls ts,o=> ∃vs,o= .lst vs/\Reps K B ts vs
 |.dk kvs,o=> ∃us,o= .dK us/\qbh K B kvs us
 |.du kvs,o=> ∃us,o= .dT us/\qbh K B kvs us
 |.ins c fs,o=> ∃dx vs,o= .ins (clA K c) dx vs/\qbh K B fs vs
 |.gone,_=>True
theorem qes.mono{K:W.Frag}{B B':qah}{c:Ct}{o:HO}(h:qes K B c o)(le:Le B B'):qes K B' c o:=by
 cases c with
 |ls ts|dk ts|du ts=>obtain⟨vs,e,r⟩:=h;exact⟨vs,e,r.mono le⟩
 |ins c ts=>obtain⟨dx,vs,e,r⟩:=h;exact⟨dx,vs,e,r.mono le⟩
 |gone=>trivial
def Mb(o:HO):Prop:=(∃xs,o= .lst xs)\/(∃xs,o= .dK xs)\/(∃xs,o= .dT xs)\/∃C dx fs,o= .ins C dx fs
theorem qes.mb{K:W.Frag}{B:qah}{c:Ct}{o:HO}(h:qes K B c o)(n:c≠.gone):Mb o:=by
 cases c with
 |ls ts=>obtain⟨vs,e,r⟩:=h;exact .inl ⟨_,e⟩
 |dk ts=>obtain⟨vs,e,r⟩:=h;exact .inr (.inl ⟨_,e⟩)
 |du ts=>obtain⟨vs,e,r⟩:=h;exact .inr (.inr (.inl ⟨_,e⟩))
 |ins c ts=>obtain⟨dx,vs,e,r⟩:=h;exact .inr (.inr (.inr ⟨_,_,_,e⟩))
 |gone=>exact absurd rfl n
structure Hs(M:Md)(μ:Mu)(H:Hp)(B:qah):Prop where
 bh: ∀a o,B a=some o->H a=some o
 bt: ∀a ps,B a≠some (.tbl ps)
 gm:M.G.P H
 st: ∀k c,μ.l[k]? =some c->c≠.gone->∃a o,B.ad k=some a/\B a=none/\H a=some o/\qes M.K B c o
 ij: ∀j k a,B.ad j=some a->B.ad k=some a->j=k
 dm: ∀k a,B.ad k=some a->k<μ.l.length/\H a≠none
 lk: ∀k c,μ.l[k]? =some c->ubC c<=k\/∃p∈μ.k,p.1=k/\ubC c<=p.2
 ln: ∀p∈μ.k,p.2<=μ.l.length
def qah.upd(B:qah)(p:Addr)(o:HO):qah:=⟨L2.upd B.hp p o,B.ad⟩
def qah.add(B:qah)(k:Nat)(p:Addr):qah:=⟨B.hp,λj=>if j=k then some p else B.ad j⟩
section
variable {M:Md}{μ:Mu}{H H':Hp}{B B':qah}{p a:Addr}{o:HO}{c c':Ct}{k n:Nat}
theorem Hs.fr(h:Hs M μ H B)(hp:H p=none):B p=none:=by
 cases e:B p with
 |none=>rfl
 |some u=>rw[h.bh _ _ e] at hp;cases hp
theorem Hs.upd_le(h:Hs M μ H B)(hp:B p=none):Le B (B.upd p o):=⟨λa u e=>by show L2.upd B.hp p o a=_;rw[qaa (qam e hp)];exact e,λ_ _ e=>e⟩
theorem qmg(h:M.G.P H)(hp:H p=none):M.G.P (L2.upd H p o):=M.G.st H _ (λa u e _ _ _ _=>by rw[qaa (qam e hp)];exact e) h
theorem Hs.more(h:Hs M μ H B)(k: ∀a o,H a=some o->H' a=some o):Hs M μ H' B:=
 ⟨λa o e=>k a o (h.bh a o e),h.bt,M.G.st H H' (λa o e _ _ _ _=>k a o e) h.gm,λj c e n=>by
  obtain⟨a,o,e1,e2,e3,e4⟩:=h.st j c e n;exact⟨a,o,e1,e2,k a o e3,e4⟩,h.ij,λj a e=>⟨(h.dm j a e).1,λz=>by
  cases q:H a with
  |none=>exact(h.dm j a e).2 q
  |some u=>rw[k a u q] at z;cases z⟩,h.lk,h.ln⟩
theorem Hs.new(h:Hs M μ H B)(hp:H p=none)(ho: ∀ps,o≠.tbl ps):Hs M μ (L2.upd H p o) (B.upd p o):=by
 have bp:=h.fr hp;have le:=h.upd_le (o:=o) bp;refine⟨λa u e=> ?_,λa ps e=> ?_,qmg h.gm hp,λj c e n=> ?_,h.ij,λj a e=>⟨(h.dm j a e).1,?_⟩,h.lk,h.ln⟩
 ·have e:L2.upd B.hp p o a=some u:=e;by_cases q:a=p
  ·subst q;rw[qaf] at e⊢;exact e
  ·rw[qaa q] at e⊢;exact h.bh _ _ e
 ·have e:L2.upd B.hp p o a=some (.tbl ps):=e;by_cases q:a=p
  ·subst q;rw[qaf] at e;exact ho ps (Option.some.inj e)
  ·rw[qaa q] at e;exact h.bt a ps e
 ·obtain⟨a,u,e1,e2,e3,e4⟩:=h.st j c e n;have ne:a≠p:=qam e3 hp;exact⟨a,u,e1,by show L2.upd B.hp p o a=_;rw[qaa ne];exact e2,by rw[qaa ne];exact e3,e4.mono le⟩
 ·have:=(h.dm j a e).2;rw[qaa (λz=>this (by rw[z];exact hp))];exact this
theorem qes.ub{K:W.Frag}{c:Ct}(h:qes K B c o)(hd: ∀k a,B.ad k=some a->k<n):ubC c<=n:=by
 cases c with
 |ls ts|dk ts|du ts=>obtain⟨vs,e,r⟩:=h;exact r.ub hd
 |ins c ts=>obtain⟨dx,vs,e,r⟩:=h;exact r.ub hd
 |gone=>exact Nat.zero_le _
theorem qes.cut{K:W.Frag}{c:Ct}(h:qes K B c o)(hu:ubC c<=n):qes K (B.cut n) c o:=by
 cases c with
 |ls ts|dk ts|du ts=>obtain⟨vs,e,r⟩:=h;exact⟨vs,e,r.cut hu⟩
 |ins c ts=>obtain⟨dx,vs,e,r⟩:=h;exact⟨dx,vs,e,r.cut hu⟩
 |gone=>trivial
theorem Hs.own(h:Hs M μ H B)(hp:H p=none)(hc:qes M.K (B.add μ.l.length p) c o):Hs M (μ.add c) (L2.upd H p o) (B.add μ.l.length p)/\Le B (B.add μ.l.length p):=by
 have le:Le B (B.add μ.l.length p):=⟨λ_ _ e=>e,λj a e=>by
  show(if j=μ.l.length then some p else B.ad j)=_;rw[if_neg (Nat.ne_of_lt (h.dm j a e).1)];exact e⟩
 have i6: ∀j,B.ad j≠some p:=λj e=>(h.dm j p e).2 hp;have ad: ∀{j a},(B.add μ.l.length p).ad j=some a->(j=μ.l.length/\a=p)\/(B.ad j=some a/\j<μ.l.length):=λ{j a} e=>by
  have e:(if j=μ.l.length then some p else B.ad j)=some a:=e;split at e
  ·rename_i q;cases e;exact .inl ⟨q,rfl⟩
  ·exact .inr ⟨e,(h.dm j a e).1⟩
 have hd: ∀j a,(B.add μ.l.length p).ad j=some a->j<μ.l.length+1:=λj a e=>by rcases ad e with⟨z,_⟩|⟨_,z⟩<;>omega
 have uc:=hc.ub hd;have ga: ∀{j:Nat} {d:Ct},(μ.l++[c])[j]? =some d->(j<μ.l.length/\μ.l[j]? =some d)\/(j=μ.l.length/\d=c):=λ{j d} e=>by
  by_cases q:j<μ.l.length
  ·rw[List.getElem?_append_left q] at e;exact .inl ⟨q,e⟩
  ·rw[List.getElem?_append_right (by omega)] at e;have:=(List.getElem?_eq_some_iff.mp e).1;have q':j=μ.l.length:=by simp at this;omega
   subst q';simp at e;exact .inr ⟨rfl,e.symm⟩
 refine⟨⟨λa u e=> ?_,h.bt,qmg h.gm hp,λj d e n=> ?_,λi j a e1 e2=> ?_,λj a e=> ?_,λj d e=> ?_,λq hq=> ?_⟩,le⟩
 ·rw[qaa (qam (h.bh a u e) hp)];exact h.bh a u e
 ·rcases ga e with⟨q,e⟩|⟨rfl,rfl⟩
  ·obtain⟨a,u,e1,e2,e3,e4⟩:=h.st j d e n;exact⟨a,u,le.d _ _ e1,e2,by rw[qaa (qam e3 hp)];exact e3,e4.mono le⟩
  ·exact⟨p,o,by show(if μ.l.length=μ.l.length then some p else _)=_;rw[if_pos rfl],h.fr hp,qaf,hc⟩
 ·rcases ad e1 with⟨rfl,rfl⟩|⟨e1,l1⟩
  ·rcases ad e2 with⟨rfl,_⟩|⟨e2,l2⟩
   ·rfl
   ·exact absurd e2 (i6 j)
  ·rcases ad e2 with⟨_,z⟩|⟨e2,l2⟩
   ·rw[z] at e1;exact absurd e1 (i6 i)
   ·exact h.ij i j a e1 e2
 ·show j<(μ.l++[c]).length/\_;rw[List.length_append,List.length_singleton]
  rcases ad e with⟨z1,z⟩|⟨e,l⟩
  ·rw[z];exact⟨by omega,by rw[qaf];simp⟩
  ·have:=(h.dm j a e).2;exact⟨by omega,by rw[qaa (λz=>this (by rw[z];exact hp))];exact this⟩
 ·show ubC d<=j\/∃q∈(if ubC c<=μ.l.length then μ.k else(μ.l.length,ubC c)::μ.k),_
  rcases ga e with⟨q,e⟩|⟨rfl,rfl⟩
  ·rcases h.lk j d e with z|⟨q,hq,z⟩
   ·exact .inl z
   ·exact .inr ⟨q,by split<;>simp[hq],z⟩
  ·split
   ·rename_i z;exact .inl z
   ·exact .inr ⟨_,Vk,rfl,Vm _⟩
 ·have hq:q∈(if ubC c<=μ.l.length then μ.k else(μ.l.length,ubC c)::μ.k):=hq;show q.2<=(μ.l++[c]).length;rw[List.length_append,List.length_singleton];split at hq
  ·exact Nat.le_succ_of_le (h.ln q hq)
  ·rcases List.mem_cons.mp hq with rfl|hq
   ·exact uc
   ·exact Nat.le_succ_of_le (h.ln q hq)
theorem Hs.at(h:Hs M μ H B)(e:μ.l[k]? =some c)(n:c≠.gone)(ha:B.ad k=some a): ∃o,B a=none/\H a=some o/\qes M.K B c o:=by obtain⟨a',o,e1,e2,e3,e4⟩:=h.st k c e n;rw[ha] at e1;cases e1;exact⟨o,e2,e3,e4⟩
theorem Hs.put(h:Hs M μ H B)(e:μ.l[k]? =some c)(n:c≠.gone)(ha:B.ad k=some a)(hc:qes M.K B c' o):Hs M (μ.put k c') (L2.upd H a o) B:=by
 obtain⟨u,b0,hu,cu⟩:=h.at e n ha;have mb:=cu.mb n;have hk:k<μ.l.length:=(List.getElem?_eq_some_iff.mp e).1;have uc:=hc.ub λj a e=>(h.dm j a e).1;have ga: ∀{j:Nat} {d:Ct},(μ.l.set k c')[j]? =some d->(k≠j/\μ.l[j]? =some d)\/(k=j/\d=c'):=λ{j d} e=>by
  rw[List.getElem?_set] at e;split at e
  ·rename_i q
   (try rw[if_pos hk] at e);cases e;exact .inr ⟨q,rfl⟩
  ·rename_i q;exact .inl ⟨q,e⟩
 refine⟨λb v z=> ?_,h.bt,M.G.st H _ (λb v z n1 n2 n3 n4=> ?_) h.gm,λj d ej nj=> ?_,h.ij,λj b z=> ?_,λj d ej=> ?_,λq hq=> ?_⟩
 ·rw[qaa (λq=>by rw[q,b0] at z;cases z)];exact h.bh b v z
 ·refine(qaa λq=> ?_).trans z;rw[q,hu] at z;cases z
  rcases mb with⟨_,rfl⟩|⟨_,rfl⟩|⟨_,rfl⟩|⟨_,_,_,rfl⟩
  ·exact n1 _ rfl
  ·exact n2 _ rfl
  ·exact n3 _ rfl
  ·exact n4 _ _ _ rfl
 ·rcases ga ej with⟨q,ej⟩|⟨rfl,rfl⟩
  ·obtain⟨b,v,e1,e2,e3,e4⟩:=h.st j d ej nj;exact⟨b,v,e1,e2,by rw[qaa (λz=>q (h.ij k j a ha (by rw[<-z];exact e1)))];exact e3,e4⟩
  ·exact⟨a,o,ha,b0,qaf,hc⟩
 ·show j<(μ.l.set k c').length/\_;rw[List.length_set];refine⟨(h.dm j b z).1,?_⟩;by_cases q:b=a
  ·rw[q,qaf];simp
  ·rw[qaa q];exact(h.dm j b z).2
 ·show ubC d<=j\/∃q∈(if ubC c'<=k then μ.k else(k,ubC c')::μ.k),_
  rcases ga ej with⟨_,ej⟩|⟨rfl,rfl⟩
  ·rcases h.lk j d ej with z|⟨q,hq,z⟩
   ·exact .inl z
   ·exact .inr ⟨q,by split<;>simp[hq],z⟩
  ·split
   ·rename_i z;exact .inl z
   ·exact .inr ⟨_,Vk,rfl,Vm _⟩
 ·have hq:q∈(if ubC c'<=k then μ.k else(k,ubC c')::μ.k):=hq;show q.2<=(μ.l.set k c').length;rw[List.length_set];split at hq
  ·exact h.ln q hq
  ·rcases List.mem_cons.mp hq with rfl|hq
   ·exact uc
   ·exact h.ln q hq
theorem Hs.cut(h:Hs M μ H B)(ks:List (Nat×Nat))(hn: ∀q∈μ.k,n<=q.1\/(q∈ks/\q.2<=n))(hk: ∀q∈ks,q.2<=n)(hl:n<=μ.l.length):Hs M ⟨μ.l.take n,ks⟩ H (B.cut n):=by
 have ad: ∀{j a},(B.cut n).ad j=some a->j<n/\B.ad j=some a:=λ{j a} e=>by
  have e:(if j<n then B.ad j else none)=some a:=e;split at e
  ·rename_i q;exact⟨q,e⟩
  ·cases e
 have ga: ∀{j:Nat} {d:Ct},(μ.l.take n)[j]? =some d->j<n/\μ.l[j]? =some d:=λ{j d} e=>by
  rw[List.getElem?_take] at e;split at e
  ·rename_i q;exact⟨q,e⟩
  ·cases e
 have uu: ∀{j:Nat} {d:Ct},j<n->μ.l[j]? =some d->ubC d<=n:=λ{j d} hj e=>by
  rcases h.lk j d e with z|⟨q,hq,z1,z2⟩
  ·omega
  ·rcases hn q hq with y|⟨_,y⟩
   ·omega
   ·omega
 refine⟨h.bh,h.bt,h.gm,λj d e nj=> ?_,λi j a e1 e2=>h.ij i j a (ad e1).2 (ad e2).2,λj a e=> ?_,λj d e=> ?_,λq hq=> ?_⟩
 ·obtain⟨hj,e⟩:=ga e;obtain⟨a,u,e1,e2,e3,e4⟩:=h.st j d e nj;exact⟨a,u,by show(if j<n then B.ad j else none)=_;rw[if_pos hj];exact e1,e2,e3,e4.cut (uu hj e)⟩
 ·obtain⟨hj,e⟩:=ad e;exact⟨by show j<(μ.l.take n).length;rw[List.length_take];omega,(h.dm j a e).2⟩
 ·obtain⟨hj,e⟩:=ga e
  rcases h.lk j d e with z|⟨q,hq,z1,z2⟩
  ·exact .inl z
  ·rcases hn q hq with y|⟨y,_⟩
   ·omega
   ·exact .inr ⟨q,y,z1,z2⟩
 ·show q.2<=(μ.l.take n).length;rw[List.length_take];have:=hk q hq;omega
end
structure Go(H:Hp)(B:qah)(H':Hp)(B':qah):Prop where
 le:Le B B'
 un: ∀a o,H a=some o->(∀k,B.ad k≠some a)->(∀ps,o≠.tbl ps)->H' a=some o
 nw: ∀k a,B'.ad k=some a->B.ad k=some a\/H a=none
 dm: ∀a,H a≠none->H' a≠none
 nb: ∀a o,H a=some o->(∀k,B.ad k≠some a)->(∀vs,o≠.tup vs)->(∀ps,o≠.tbl ps)->B' a=B a
theorem Go.refl{H:Hp}{B:qah}:Go H B H B:=⟨.refl _,λ_ _ e _ _=>e,λ_ _ e=>.inl e,λ_ e=>e,λ_ _ _ _ _ _=>rfl⟩
theorem Go.off{H H1:Hp}{B B1:qah}(g:Go H B H1 B1){a:Addr}(e:H a≠none)(n: ∀k,B.ad k≠some a): ∀k,B1.ad k≠some a:=λk z=>by
 rcases g.nw k a z with q|q
 ·exact n k q
 ·exact e q
theorem Go.trans{H H1 H2:Hp}{B B1 B2:qah}(g:Go H B H1 B1)(g':Go H1 B1 H2 B2):Go H B H2 B2:=
 ⟨g.le.trans g'.le,λa o e n t=>g'.un a o (g.un a o e n t) (g.off (by rw[e];simp) n) t,λk a z=>by
  rcases g'.nw k a z with q|q
  ·exact g.nw k a q
  ·exact .inr (by
   cases y:H a with
   |none=>rfl
   |some o=>exact absurd q (g.dm a (by rw[y];simp))),λa e=>g'.dm a (g.dm a e),
  λa o e n t1 t2=>(g'.nb a o (g.un a o e n t2) (g.off (by rw[e];simp) n) t1 t2).trans (g.nb a o e n t1 t2)⟩
section
variable {M:Md}{μ:Mu}{H H':Hp}{B B':qah}{p a:Addr}{o:HO}{c c':Ct}{k n:Nat}
theorem Go.more(k: ∀a o,H a=some o->H' a=some o):Go H B H' B:=by
 refine⟨.refl _,λa o e _ _=>k a o e,λ_ _ e=>.inl e,λa e z=> ?_,λ_ _ _ _ _ _=>rfl⟩;cases y:H a with
 |none=>exact e y
 |some o=>rw[k a o y] at z;cases z
theorem Hs.gnew(h:Hs M μ H B)(hp:H p=none):Go H B (L2.upd H p o) (B.upd p o):=
 ⟨h.upd_le (h.fr hp),λa u e _ _=>by rw[qaa (qam e hp)];exact e,λ_ _ e=>.inl e,λa e z=>by
  by_cases q:a=p
  ·subst q;exact e hp
  ·rw[qaa q] at z;exact e z,λa u e _ _ _=>by show L2.upd B.hp p o a=_;rw[qaa (qam e hp)]⟩
theorem Hs.gown(h:Hs M μ H B)(hp:H p=none):Go H B (L2.upd H p o) (B.add μ.l.length p):=
 ⟨(h.own (c:=.gone) (o:=o) hp trivial).2,λa u e _ _=>by rw[qaa (qam e hp)];exact e,λj a e=>by
  have e:(if j=μ.l.length then some p else B.ad j)=some a:=e;split at e
  ·cases e;exact .inr hp
  ·exact .inl e,λa e z=>by
  by_cases q:a=p
  ·subst q;exact e hp
  ·rw[qaa q] at z;exact e z,λ_ _ _ _ _ _=>rfl⟩
theorem quI(ha:B.ad k=some a):Go H B (L2.upd H a o) B:=
 ⟨.refl _,λb u e n _=>by rw[qaa (λz=>n k (by rw[z];exact ha))];exact e,λ_ _ e=>.inl e,λb e z=>by
  by_cases q:b=a
  ·rw[q,qaf] at z;cases z
  ·rw[qaa q] at z;exact e z,λ_ _ _ _ _ _=>rfl⟩
def hid(D:Addr)(H:Hp):Hp:=λa=>if a=D then none else H a
theorem qcq{D:Addr}(h:a≠D):hid D H a=H a:=if_neg h
theorem qe0{D:Addr}:hid D H D=none:=if_pos rfl
theorem qi6{D:Addr}(h:hid D H a=some o):H a=some o/\a≠D:=by
 unfold hid at h;split at h
 ·cases h
 ·rename_i q;exact⟨h,q⟩
theorem Go.hid{D:Addr}(g:Go H B H' B'):Go (hid D H) B (NV.hid D H') B':=
 ⟨g.le,λa o e n t=>by obtain⟨e,q⟩:=qi6 e;rw[qcq q];exact g.un a o e n t,λk a z=>(g.nw k a z).imp id λz=>by unfold NV.hid;split<;>first|rfl|exact z,
  λa e=>by
   by_cases q:a=D
   ·rw[q,qe0] at e;exact absurd rfl e
   ·rw[qcq q] at e⊢;exact g.dm a e,λa o e n t1 t2=>g.nb a o (qi6 e).1 n t1 t2⟩
theorem Hs.loose(h:Hs M μ H B){D:Addr}{H':Hp}(hb:B D=none)(hn: ∀k,B.ad k≠some D)(ho: ∀a,a≠D->H' a=H a)(hm: ∀u,H D=some u->Mb u):Hs M μ H' B:=
 ⟨λa o e=>by rw[ho a (λz=>by rw[z,hb] at e;cases e)];exact h.bh a o e,h.bt,M.G.st H H' (λa o e n1 n2 n3 n4=>by
  rw[ho a (λz=>by
   rw[z] at e
   rcases hm o e with⟨_,rfl⟩|⟨_,rfl⟩|⟨_,rfl⟩|⟨_,_,_,rfl⟩
   ·exact n1 _ rfl
   ·exact n2 _ rfl
   ·exact n3 _ rfl
   ·exact n4 _ _ _ rfl)];exact e) h.gm,λj c e n=>by
  obtain⟨a,o,e1,e2,e3,e4⟩:=h.st j c e n;exact⟨a,o,e1,e2,by rw[ho a (λz=>hn j (by rw[<-z];exact e1))];exact e3,e4⟩,h.ij,λj a e=>⟨(h.dm j a e).1,by rw[ho a (λz=>hn j (by rw[<-z];exact e))];exact(h.dm j a e).2⟩,h.lk,h.ln⟩
end
abbrev Ro:=List (Option T)
structure Ev(M:Md)(ρ:Ro)(μ:Mu)(σ:St)(H:Hp)(B:qah):Prop where
 hs:Hs M μ H B
 len:ρ.length=σ.length
 sl: ∀(i:Nat) (t:T),ρ[i]? =some (some t)->∃v,σ[i]? =some (some v)/\Rep M.K B t v
section
variable {M:Md}{ρ:Ro}{σ:St}{μ aa:Mu}{H H':Hp}{B B':qah}
theorem Ev.on(v:Ev M ρ μ σ H B)(h:Hs M aa H' B')(le:Le B B'):Ev M ρ aa σ H' B':=
 ⟨h,v.len,λi t e=>by obtain⟨x,a,b⟩:=v.sl i t e;exact⟨x,a,b.mono le⟩⟩
theorem Ev.set(v:Ev M ρ μ σ H B){i:Nat}{t:T}{x:V}(r:Rep M.K B t x):Ev M (ρ.set i (some t)) μ (σ.set i (some x)) H B:=by
 refine⟨v.hs,by simp[v.len],λj u e=> ?_⟩;rw[List.getElem?_set] at e⊢;split at e
 ·rename_i q;split at e
  ·rename_i l;cases e;rw[if_pos q,if_pos (v.len▸l)];exact⟨x,rfl,r⟩
  ·cases e
 ·rename_i q;rw[if_neg q];exact v.sl j u e
end
def Wn(M:Md)(E:XK)(H:Hp)(B:qah){α:Type}(k:α->Mu->Prop):R α->Prop
 |.no=>False
 |.ok a μ=>k a μ
 |.ex c μ=> ∀H' B',Hs M μ H' B'->Go H B H' B'->E (.ref (clA M.K c)) none H'
section
variable {M:Md}{E E':XK}{H H1:Hp}{B B1:qah}{α β:Type}{k k':α->Mu->Prop}{r:R α}
theorem Wn.bind{k:β->Mu->Prop}{f:α->Mu->R β}(h:Wn M E H B k (r.bind f)):Wn M E H B (λa μ=>Wn M E H B k (f a μ)) r:=by cases r<;>exact h
theorem Wn.mono(h:Wn M E H B k r)(f: ∀a μ,k a μ->k' a μ):Wn M E H B k' r:=by
 cases r with
 |no=>exact h
 |ok a m=>exact f _ _ h
 |ex c m=>exact h
theorem Wn.le(h:Wn M E H B k r)(g:Go H B H1 B1):Wn M E H1 B1 k r:=by
 cases r with
 |no|ok a m=>exact h
 |ex c m=>exactλH' B' hs l=>h H' B' hs (g.trans l)
theorem Wn.pl(h:Wn M E H B k r)(p: ∀c m,r≠.ex c m): ∃a m,r= .ok a m/\k a m:=by
 cases r with
 |no=>exact h.elim
 |ok a m=>exact⟨a,m,rfl,h⟩
 |ex c m=>exact absurd rfl (p c m)
theorem Wn.lift(h:Wn M E H B k r)(g:Go H B H1 B1)(f: ∀a μ,k a μ->k' a μ):Wn M E H1 B1 k' r:=(h.le g).mono f
end
def KE(M:Md)(H:Hp)(B:qah)(Q:VK):T->Mu->Prop:=λt μ=> ∀v H' B',Hs M μ H' B'->Go H B H' B'->Rep M.K B' t v->Q v H'
def KA(M:Md)(H:Hp)(B:qah)(Q:List V->Hp->Prop):List T->Mu->Prop:=λt μ=> ∀v H' B',Hs M μ H' B'->Go H B H' B'->Reps M.K B' t v->Q v H'
def KT(M:Md)(H:Hp)(B:qah)(Q:Bool->Hp->Prop):Bool->Mu->Prop:=λt μ=> ∀H' B',Hs M μ H' B'->Go H B H' B'->Q t H'
def KN(M:Md)(H:Hp)(B:qah)(Q:VK):Ct->Mu->Prop:=λc μ=> ∀p o H' B',Hs M μ H' B'->Go H B H' B'->H' p=none->qes M.K B' c o->Q (.ref p) (upd H' p o)
abbrev DS0(α:Type):=Ro->Mu->R α
def tE(M:Md)(E:XK)(d:DS0 T):TE:=λσ H Q=> ∃ρ μ B,Ev M ρ μ σ H B/\Wn M E H B (KE M H B Q) (d ρ μ)
def tA(M:Md)(E:XK)(d:DS0 (List T)):TA:=λσ H Q=> ∃ρ μ B,Ev M ρ μ σ H B/\Wn M E H B (KA M H B Q) (d ρ μ)
def tT(M:Md)(E:XK)(d:DS0 Bool):TT:=λσ H Q=> ∃ρ μ B,Ev M ρ μ σ H B/\Wn M E H B (KT M H B Q) (d ρ μ)
def tN(M:Md)(E:XK)(d:DS0 Ct):TE:=λσ H Q=> ∃ρ μ B,Ev M ρ μ σ H B/\Wn M E H B (KN M H B Q) (d ρ μ)
theorem PE.weak{X:Cx}{e:Expr}{t t':TE}(h:PE X e t)(w: ∀σ H Q,t' σ H Q->t σ H Q):PE X e t':=λpins s σ H Q I q=>h pins s σ H Q I (w σ H Q q)
theorem PT.weak{X:Cx}{e:Expr}{t t':TT}(h:PT X e t)(w: ∀σ H Q,t' σ H Q->t σ H Q):PT X e t':=λpins s σ H Q I q=>h pins s σ H Q I (w σ H Q q)
theorem PW.weak{X:Cx}{e:Expr}{t t':TT}(h:PW X e t)(w: ∀σ H Q,t' σ H Q->t σ H Q):PW X e t':=λwh pins s σ H Q I q=>h wh pins s σ H Q I (w σ H Q q)
theorem PA.weak{X:Cx}{e:List Expr}{t t':TA}(h:PA X e t)(w: ∀σ H Q,t' σ H Q->t σ H Q):PA X e t':=λpos pins s σ H Q I q=>h pos pins s σ H Q I (w σ H Q q)
theorem PS.weak{X:Cx}{e:Stmt}{t t':TS}(h:PS X e t)(w: ∀D σ H,t' D σ H->t D σ H):PS X e t':=λpins s σ H D I q=>h pins s σ H D I (w D σ H q)
theorem PSs.weak{X:Cx}{e:List Stmt}{t t':TS}(h:PSs X e t)(w: ∀D σ H,t' D σ H->t D σ H):PSs X e t':=λpins s σ H D I q=>h pins s σ H D I (w D σ H q)
theorem PG.weak{X:Cx}{e:Expr}{t t':TG}(h:PG X e t)(w: ∀v σ H Q,t' v σ H Q->t v σ H Q):PG X e t':=λpins s σ H v u Q I r q=>h pins s σ H v u Q I r (w v σ H Q q)
theorem PGs.weak{X:Cx}{e:List Expr}{t t':TGs}(h:PGs X e t)(w: ∀v σ H Q,t' v σ H Q->t v σ H Q):PGs X e t':=λpins s σ H v u Q I r q=>h pins s σ H v u Q I r (w v σ H Q q)
theorem PI.weak{X:Cx}{tg e:Expr}{t t':TI}(h:PI X tg e t)(w: ∀σ H Q,t' σ H Q->t σ H Q):PI X tg e t':=λpins s σ H Q I q=>h pins s σ H Q I (w σ H Q q)
theorem PO.weak{X:Cx}{e:Option Expr}{t t':TO}(h:PO X e t)(w: ∀σ H Q,t' σ H Q->t σ H Q):PO X e t':=λpins s σ H Q I q=>h pins s σ H Q I (w σ H Q q)
section
variable {M:Md}{E:XK}{ρ:Ro}{σ:St}{μ:Mu}{H H1:Hp}{B B1:qah}{α:Type}
theorem tE.of{Q:VK}{d:DS0 T}(ev:Ev M ρ μ σ H B)(h:Wn M E H B (KE M H B Q) (d ρ μ)):tE M E d σ H Q:=⟨ρ,μ,B,ev,h⟩
theorem KE.le{Q:VK}{t:T}(h:KE M H B Q t μ)(g:Go H B H1 B1):KE M H1 B1 Q t μ:=λv H' B' hs l r=>h v H' B' hs (g.trans l) r
theorem KT.le{Q:Bool->Hp->Prop}{t:Bool}(h:KT M H B Q t μ)(g:Go H B H1 B1):KT M H1 B1 Q t μ:=λH' B' hs l=>h H' B' hs (g.trans l)
end
def dNo{α:Type}:DS0 α:=λ_ _=>.no
def dV(i:Nat):DS0 T:=λρ μ=>match ρ[i]? with|some (some t)=>.ok t μ|_=>.no
def dC(t:T):DS0 T:=λ_ μ=>.ok t μ
def dSq{α β:Type}(d:DS0 α)(f:α->DS0 β):DS0 β:=λρ μ=>(d ρ μ).bind λa aa=>f a ρ aa
def qrd:DS0 (List T):=λ_ μ=>.ok [] μ
def qrg(da:DS0 T)(ds:DS0 (List T)):DS0 (List T):=dSq da λx=>dSq ds λxs _ μ=>.ok (x::xs) μ
def dB(g:T->T->Mu->R T)(da db:DS0 T):DS0 T:=dSq da λx=>dSq db λy _ μ=>g x y μ
def dU(g:T->Mu->R T)(da:DS0 T):DS0 T:=dSq da λx _ μ=>g x μ
def quQ(ds:DS0 (List T)):DS0 T:=dSq ds λxs _ μ=>if xs.length<=1000 then .ok (.tup xs) μ else .no
def quU(ds:DS0 (List T)):DS0 Ct:=dSq ds λxs _ μ=>if xs.length<=1000 then .ok (.ls xs) μ else .no
def fzC:Ct->Mu->R T
 |.ls ts,μ=>.ok (.lst ts) μ
 |.dk kvs,μ=>.ok (.dct kvs) μ
 |_,_=>.no
def dFz(d:DS0 Ct):DS0 T:=dSq d λc _ μ=>fzC c μ
def dOw(d:DS0 Ct):DS0 T:=dSq d λc _ μ=>.ok (.obj μ.l.length) (μ.add c)
def tbO:T->Mu->R Bool
 |.bl b,μ=>.ok b μ
 |_,_=>.no
def dTB(da:DS0 T):DS0 Bool:=dSq da λt _ μ=>tbO t μ
def qhP{α:Type}(dt:DS0 Bool)(d e:DS0 α):DS0 α:=dSq dt λc=>if c=true then d else e
def quT(d:DS0 Bool):DS0 Bool:=dSq d λc _ μ=>.ok (!c) μ
def quP:DS0 Bool:=λ_ μ=>.ok true μ
def dBl(b:Bool):DS0 Bool:=λ_ μ=>.ok b μ
def quX(d e:DS0 Bool):DS0 Bool:=qhP d e (dBl false)
def dOr(d e:DS0 Bool):DS0 Bool:=qhP d (dBl true) e
def qly(d e:DS0 T):DS0 T:=qhP (dTB d) e (dC (.bl false))
def qrU(d e:DS0 T):DS0 T:=qhP (dTB d) (dC (.bl true)) e
def qlx(d:DS0 T):DS0 T:=dSq (dTB d) λc _ μ=>.ok (.bl (!c)) μ
def OkB(M:Md)(r:R2)(g:T->T->Mu->R T):Prop:=(∀a b μ c m,g a b μ≠.ex c m)/\
 ∀(μ:Mu) (H:Hp) (B:qah) (x y:V) (a b t:T) (aa:Mu) (Q:VK),Hs M μ H B->Rep M.K B a x->Rep M.K B b y->g a b μ= .ok t aa->KE M H B Q t aa->r x y H Q
def OkU(M:Md)(r:V->Hp->VK->Prop)(g:T->Mu->R T):Prop:=(∀a μ c m,g a μ≠.ex c m)/\
 ∀(μ:Mu) (H:Hp) (B:qah) (x:V) (a t:T) (aa:Mu) (Q:VK),Hs M μ H B->Rep M.K B a x->g a μ= .ok t aa->KE M H B Q t aa->r x H Q
section
variable {M:Md}{E:XK}{X:Cx}{e a b c:Expr}{es:List Expr}{pos:Pos}{da db dc:DS0 T}{ds:DS0 (List T)}{dn:DS0 Ct}{dt du:DS0 Bool}
theorem Ev.get{ρ:Ro}{μ:Mu}{σ:St}{H:Hp}{B:qah}(ev:Ev M ρ μ σ H B){i:Nat}{k:T->Mu->Prop}(w:Wn M E H B k (dV i ρ μ)): ∃t v,σ[i]? =some (some v)/\Rep M.K B t v/\ρ[i]? =some (some t)/\k t μ:=by
 unfold dV at w;split at w
 ·rename_i t e1;obtain⟨x,e2,r⟩:=ev.sl i t e1;exact⟨t,x,e2,r,e1,w⟩
 ·exact w.elim
theorem qaj:PE X e (tE M E dNo):=λ_ _ _ _ _ _ ⟨_,_,_,_,w⟩=>w.elim
theorem qq3{i:Nat}(h:PE X e (que i)):PE X e (tE M E (dV i)):=PE.weak h λσ H Q ⟨ρ,μ,B,ev,w⟩=>by obtain⟨t,x,e2,r,_,w⟩:=ev.get w;exact⟨x,e2,w x H B ev.hs .refl r⟩
theorem qq7{v:V}{t:T}(h:PE X e (tC v))(r: ∀B,Rep M.K B t v):PE X e (tE M E (dC t)):=
 PE.weak h λσ H Q ⟨ρ,μ,B,ev,w⟩=>w v H B ev.hs .refl (r B)
theorem qd4{r:R2}{g:T->T->Mu->R T}(ho:OkB M r g){σ:St}{H:Hp}{Q:VK}(h:tE M E (dB g da db) σ H Q):tOp r (tE M E da) (tE M E db) σ H Q:=by obtain⟨ρ,μ,B,ev,w⟩:=h;refine tE.of ev ((Wn.bind w).mono λx ah w1 v H1 B1 h1 l1 r1=> ?_);refine tE.of (ev.on h1 l1.le) ((Wn.bind w1).lift l1 λy ak w2 u H2 B2 h2 l2 r2=> ?_);obtain⟨t,m,q,w2⟩:=Wn.pl w2 (ho.1 x y ak);exact ho.2 ak H2 B2 v u x y t m Q h2 (r1.mono l2.le) r2 q (KE.le w2 (l1.trans l2))
theorem qmH{r:V->Hp->VK->Prop}{g:T->Mu->R T}(ho:OkU M r g){σ:St}{H:Hp}{Q:VK}(h:tE M E (dU g da) σ H Q):tE M E da σ H λx H1=>r x H1 Q:=by obtain⟨ρ,μ,B,ev,w⟩:=h;refine tE.of ev ((Wn.bind w).mono λx ah w1 v H1 B1 h1 l1 r1=> ?_);obtain⟨t,m,q,w1⟩:=Wn.pl w1 (ho.1 x ah);exact ho.2 ah H1 B1 v x t m Q h1 r1 q (KE.le w1 l1)
theorem qrc:PA X [] (tA M E qrd):=PA.weak qeN λσ H Q ⟨ρ,μ,B,ev,w⟩=>w [] H B ev.hs .refl .nil
theorem qot(ha:PE X e (tE M E da))(hs:PA X es (tA M E ds))(bj:starEach (e::es) X.env=(false,eval e X.env)::starEach es X.env):PA X (e::es) (tA M E (qrg da ds)):=
 PA.weak (qca ha hs bj) λσ H Q ⟨ρ,μ,B,ev,w⟩=>by refine tE.of ev ((Wn.bind w).mono λx ah w1 v H1 B1 h1 l1 r1=> ?_);exact⟨ρ,ah,B1,ev.on h1 l1.le,(Wn.bind w1).lift l1 λxs ak w2 vs H2 B2 h2 l2 r2=>w2 _ H2 B2 h2 (l1.trans l2) (.cons (r1.mono l2.le) r2)⟩
theorem qq4{x1}(hs:PA X es (tA M E ds)):PE X (.Tuple es x1 pos) (tE M E (quQ ds)):=PE.weak (qpG hs) λσ H Q ⟨ρ,μ,B,ev,w⟩=>by
 refine⟨ρ,μ,B,ev,(Wn.bind w).mono λxs ah w1 vs H1 B1 h1 l1 r1=> ?_⟩;have w1:Wn M E H B (KE M H B Q) (if xs.length<=1000 then _ else _):=w1;split at w1
 ·rename_i hl;have l0:1000<=sizeLine:=by decide
  refine⟨by rw[r1.length];omega,λp hp=> ?_⟩;have h2:=h1.new (o:=.tup vs) hp (λps z=>by cases z);exact w1 _ _ _ h2 (l1.trans (h1.gnew hp)) (qdt qaf (r1.mono (h1.upd_le (h1.fr hp))))
 ·exact w1.elim
theorem qmn(hs:PA X es (tA M E ds)):PE X (.List es pos) (tN M E (quU ds)):=PE.weak (qpJ hs) λσ H Q ⟨ρ,μ,B,ev,w⟩=>by
 refine⟨ρ,μ,B,ev,(Wn.bind w).mono λxs ah w1 vs H1 B1 h1 l1 r1=> ?_⟩;have w1:Wn M E H B (KN M H B Q) (if xs.length<=1000 then _ else _):=w1;split at w1
 ·rename_i hl;have l0:1000<=sizeLine:=by decide
  exact⟨by rw[r1.length];omega,λp hp=>w1 _ _ _ _ h1 l1 hp ⟨_,rfl,r1⟩⟩
 ·exact w1.elim
theorem qjd{σ:St}{H:Hp}{Q:VK}(h:tE M E (dFz dn) σ H Q):tN M E dn σ H Q:=by
 obtain⟨ρ,μ,B,ev,w⟩:=h;refine⟨ρ,μ,B,ev,(Wn.bind w).mono λc ah w1 p o H1 B1 h1 l1 hp r1=> ?_⟩;have b1:=h1.fr hp;cases c with
 |ls ts=>obtain⟨vs,rfl,r⟩:=r1;have le:=h1.upd_le (o:=.lst vs) b1;exact w1 _ _ _ (h1.new hp (λps z=>by cases z)) (l1.trans (h1.gnew hp)) (qcU qaf (r.mono le))
 |dk ts=>obtain⟨vs,rfl,r⟩:=r1;have le:=h1.upd_le (o:=.dK vs) b1;exact w1 _ _ _ (h1.new hp (λps z=>by cases z)) (l1.trans (h1.gnew hp)) (qgA qaf (r.mono le))
 |_=>exact w1.elim
theorem qiG{σ:St}{H:Hp}{Q:VK}(h:tE M E (dOw dn) σ H Q):tN M E dn σ H Q:=by obtain⟨ρ,μ,B,ev,w⟩:=h;refine⟨ρ,μ,B,ev,(Wn.bind w).mono λc ah w1 p o H1 B1 h1 l1 hp r1=> ?_⟩;have le:Le B1 (B1.add ah.l.length p):=(h1.own (c:=.gone) (o:=o) hp trivial).2;obtain⟨h2,_⟩:=h1.own hp (r1.mono le);exact w1 _ _ _ h2 (l1.trans (h1.gown hp)) (qiL (by show(if ah.l.length=ah.l.length then some p else _)=_;rw[if_pos rfl]))
theorem qor(h:PE X e (tN M E dn)):PE X e (tE M E (dFz dn)):=PE.weak h λ_ _ _ h=>qjd h
theorem qop(h:PE X e (tN M E dn)):PE X e (tE M E (dOw dn)):=PE.weak h λ_ _ _ h=>qiG h
theorem qfu{σ:St}{H:Hp}{Q:Bool->Hp->Prop}(h:tT M E (dTB da) σ H Q):tE M E da σ H λx H1=> ∃c,x= .bl c/\Q c H1:=by
 obtain⟨ρ,μ,B,ev,w⟩:=h;refine tE.of ev ((Wn.bind w).mono λt ah w1 v H1 B1 h1 l1 r1=> ?_);cases t with
 |bl b=>exact⟨b,qbx r1,w1 H1 B1 h1 l1⟩
 |_=>exact w1.elim
theorem qml(h:PE X e (tE M E da))(he: ∀whole,isTrue e X.env whole=(do let v <-whole;standAt e.pos;holding [v] (truthy v))):PT X e (tT M E (dTB da)):=PT.weak (qps h he) λσ H Q h=>qfu h
theorem qqV(h:PT X a (tT M E dt)):PT X (.UnaryOp .Not a pos) (tT M E (quT dt)):=PT.weak (qpt h) λσ H Q ⟨ρ,μ,B,ev,w⟩=>⟨ρ,μ,B,ev,(Wn.bind w).mono λc ah w1=>w1⟩
theorem qef{σ:St}{H:Hp}{Q:Bool->Hp->Prop}{d1 d2:DS0 Bool}(h:tT M E (qhP dt d1 d2) σ H Q):tT M E dt σ H λc H1=>if c=true then tT M E d1 σ H1 Q else tT M E d2 σ H1 Q:=by
 obtain⟨ρ,μ,B,ev,w⟩:=h;refine⟨ρ,μ,B,ev,(Wn.bind w).mono λc ah w1 H1 B1 h1 l1=> ?_⟩;cases c with
 |true|false=>exact⟨ρ,ah,B1,ev.on h1 l1.le,w1.lift l1 λ_ _ q=>KT.le q l1⟩
theorem qlf{σ:St}{H:Hp}{Q:VK}{d1 d2:DS0 T}(h:tE M E (qhP dt d1 d2) σ H Q):tT M E dt σ H λc H1=>if c=true then tE M E d1 σ H1 Q else tE M E d2 σ H1 Q:=by
 obtain⟨ρ,μ,B,ev,w⟩:=h;refine⟨ρ,μ,B,ev,(Wn.bind w).mono λc ah w1 H1 B1 h1 l1=> ?_⟩;cases c with
 |true|false=>exact⟨ρ,ah,B1,ev.on h1 l1.le,w1.lift l1 λ_ _ q=>KE.le q l1⟩
theorem qjU{σ:St}{H:Hp}{Q:Bool->Hp->Prop}{b:Bool}(h:tT M E (dBl b) σ H Q):Q b H:=by obtain⟨ρ,μ,B,ev,w⟩:=h;exact w H B ev.hs .refl
theorem qf7{σ:St}{H:Hp}{Q:VK}{b:Bool}(h:tE M E (dC (.bl b)) σ H Q):Q (.bl b) H:=by obtain⟨ρ,μ,B,ev,w⟩:=h;exact w _ H B ev.hs .refl qa9
theorem qoe(h:PT X a (tT M E dt)):PW X (.BoolOp .And [a] pos) (tT M E dt):=qna h
theorem qqS(h:PT X a (tT M E dt)):PW X (.BoolOp .Or [a] pos) (tT M E dt):=qpo h
theorem qqT{qbG}(h:PT X a (tT M E dt))(h':PW X (.BoolOp .And (b::qbG) pos) (tT M E du)):PW X (.BoolOp .And (a::b::qbG) pos) (tT M E (quX dt du)):=PW.weak (qpp h h') λσ H Q q=>by
 have q:=qef q;obtain⟨ρ,μ,B,ev,w⟩:=q;refine⟨ρ,μ,B,ev,w.mono λc ah w1 H1 B1 h1 l1=> ?_⟩;have z:=w1 H1 B1 h1 l1;cases c with
 |true=>exact z
 |false=>exact qjU z
theorem qtI{qbG}(h:PT X a (tT M E dt))(h':PW X (.BoolOp .Or (b::qbG) pos) (tT M E du)):PW X (.BoolOp .Or (a::b::qbG) pos) (tT M E (dOr dt du)):=PW.weak (qsD h h') λσ H Q q=>by
 have q:=qef q;obtain⟨ρ,μ,B,ev,w⟩:=q;refine⟨ρ,μ,B,ev,w.mono λc ah w1 H1 B1 h1 l1=> ?_⟩;have z:=w1 H1 B1 h1 l1;cases c with
 |true=>exact qjU z
 |false=>exact z
theorem qdN{σ:St}{H:Hp}{Q:VK}{f:Bool->DS0 T}(h:tE M E (dSq (dTB da) f) σ H Q):tE M E da σ H λx H1=> ∃c,x= .bl c/\tE M E (f c) σ H1 Q:=by
 obtain⟨ρ,μ,B,ev,w⟩:=h;refine tE.of ev ((Wn.bind (Wn.bind w)).mono λt ah w1 v H1 B1 h1 l1 r1=> ?_);cases t with
 |bl b=>exact⟨b,qbx r1,ρ,ah,B1,ev.on h1 l1.le,Wn.lift w1 l1 λ_ _ q=>KE.le q l1⟩
 |_=>exact w1.elim
theorem tE.imp{σ:St}{H:Hp}{Q Q':VK}(h:tE M E da σ H Q)(f: ∀v H1,Q v H1->Q' v H1):tE M E da σ H Q':=by obtain⟨ρ,μ,B,ev,w⟩:=h;exact⟨ρ,μ,B,ev,w.mono λt ah w1 v H1 B1 h1 l1 r1=>f _ _ (w1 v H1 B1 h1 l1 r1)⟩
theorem qq9{qbG}(h:PE X a (tE M E da))(h':PE X (.BoolOp .And (b::qbG) pos) (tE M E db)):PE X (.BoolOp .And (a::b::qbG) pos) (tE M E (qly da db)):=PE.weak (qpM h h') λσ H Q q=>
 (qdN q).imp λv H1 ⟨c,e,z⟩=>⟨c,e,by cases c with|true=>exact z|false=>exact qf7 z⟩
theorem qtN{qbG}(h:PE X a (tE M E da))(h':PE X (.BoolOp .Or (b::qbG) pos) (tE M E db)):PE X (.BoolOp .Or (a::b::qbG) pos) (tE M E (qrU da db)):=PE.weak (qsG h h') λσ H Q q=>
 (qdN q).imp λv H1 ⟨c,e,z⟩=>⟨c,e,by cases c with|true=>exact qf7 z|false=>exact z⟩
theorem qq5(h:PE X a (tE M E da)):PE X (.UnaryOp .Not a pos) (tE M E (qlx da)):=PE.weak (qpH h) λσ H Q q=>
 (qdN (f:=λc _ μ=>.ok (.bl (!c)) μ) q).imp λv H1 ⟨c,e,z⟩=>⟨c,e,qf7 z⟩
theorem qtO(hc:PT X c (tT M E dt))(ha:PE X a (tE M E da))(hb:PE X b (tE M E db)):PE X (.IfExp c a b pos) (tE M E (qhP dt da db)):=PE.weak (qkS hc ha hb) λσ H Q q=>qlf q
end
def fzT(n:Nat)(l:List Ct):Nat->T->Option T
 |0,t=>if ub t<=n then some t else none
 |d+1,t=>if ub t<=n then some t else match t with
  |.obj k=>(match l[k]? with
   |some (.ls ts)=>(ts.mapM (fzT n l d)).map .lst
   |some (.dk kvs)=>(kvs.mapM λp=>(fzT n l d p.2).map λt=>(p.1,t)).map .dct
   |_=>none)
  |.tup ts=>(ts.mapM (fzT n l d)).map .tup
  |.lst ts=>(ts.mapM (fzT n l d)).map .lst
  |_=>none
def Mu.nw(m0 m:Mu):List (Nat×Nat):=m.k.take (m.k.length - m0.k.length)
def Mu.back(m0 m:Mu):Mu:=⟨m.l.take m0.l.length,(m0.nw m).filter (λp=>decide (p.1<m0.l.length))++m0.k⟩
def Mu.apart(m0 m:Mu):Bool:=decide (m0.l.length<=m.l.length)&&decide (m.k.drop (m.k.length - m0.k.length)=m0.k)&&(m0.nw m).all λp=>decide (m0.l.length<=p.1\/p.2<=m0.l.length)
def leave(m0:Mu):R T->R T
 |.ok t m=>if m.l.length=m0.l.length then .ok t m else if m0.apart m=true then(match fzT m0.l.length m.l 3 t with|some t'=>.ok t' (m0.back m)|none=>.no) else .ok t m
 |.ex c m=>if m.l.length=m0.l.length then .ex c m else if m0.apart m=true then .ex c (m0.back m) else .ex c m
 |.no=>.no
open Classical in
noncomputable def qah.fz(B:qah)(H:Hp)(l:List Ct)(n:Nat):qah:=⟨λa=>if ∃k,n<=k/\B.ad k=some a/\((∃ts,l[k]? =some (.ls ts))\/∃ts,l[k]? =some (.dk ts)) then H a else B a,(B.cut n).ad⟩
theorem qa0{α β:Type}{f:α->Option β}: ∀{xs:List α} {ys:List β},xs.mapM f=some ys->xs.length=ys.length/\∀(i:Nat) (x:α) (y:β),xs[i]? =some x->ys[i]? =some y->f x=some y
 |[],ys,h=>by simp at h;subst h;exact⟨rfl,λi x y e=>by simp at e⟩
 |x::xs,ys,h=>by
  rw[List.mapM_cons] at h;cases e1:f x with
  |none=>rw[e1] at h;cases h
  |some y=>
   cases e2:xs.mapM f with
   |none=>rw[e1,e2] at h;cases h
   |some zs=>
    rw[e1,e2] at h;cases h;obtain⟨hl,hi⟩:=qa0 e2;refine⟨by simp[hl],λi a b ea eb=> ?_⟩;cases i with
    |zero=>cases ea;cases eb;exact e1
    |succ i=>exact hi i a b (by simpa using ea) (by simpa using eb)
section
open Classical
variable {M:Md}{μ:Mu}{H:Hp}{B:qah}{n:Nat}
theorem qah.fz_le(h:Hs M μ H B):Le (B.cut n) (B.fz H μ.l n):=⟨λa o e=>by
 show(if _ then H a else B a)=_;split
 ·exact h.bh a o e
 ·exact e,λ_ _ e=>e⟩
theorem qd0{K:W.Frag}{κ:Type}: ∀{ts:List (κ×T)} {vs:List (κ×V)} {i:Nat} {p:κ×T},qbh K B ts vs->ts[i]? =some p->∃v,vs[i]? =some (p.1,v)/\Rep K B p.2 v
 |[],_,_,_,_,e=>by simp at e
 |(k,t)::ts,_,0,p,⟨v,r,e',a,b⟩,e=>by simp at e;subst e;exact⟨v,by rw[e'];rfl,a⟩
 |(k,t)::ts,_,i+1,p,⟨v,r,e',a,b⟩,e=>by obtain⟨u,e1,e2⟩:=qd0 (i:=i) b (by simpa using e);exact⟨u,by rw[e'];simpa using e1,e2⟩
theorem qir{K:W.Frag}{κ:Type}: ∀{ts:List (κ×T)} {vs:List (κ×V)},vs.length=ts.length->(∀(i:Nat) (p:κ×T) (q:κ×V),ts[i]? =some p->vs[i]? =some q->p.1=q.1/\Rep K B p.2 q.2)->qbh K B ts vs
 |[],[],_,_=>rfl
 |(k,t)::ts,(k',v)::vs,hl,h=>by obtain⟨e,r⟩:=h 0 _ _ rfl rfl;have e:k=k':=e;subst e;exact⟨v,vs,rfl,r,qir (by simpa using hl) λi p q a b=>h (i+1) p q (by simpa using a) (by simpa using b)⟩
theorem qqN(h:Hs M μ H B): ∀(d:Nat) (t t':T) (v:V),fzT n μ.l d t=some t'->Rep M.K B t v->Rep M.K (B.fz H μ.l n) t' v:=by
 intro d
 induction d with
 |zero=>
  intro t t' v e r;unfold fzT at e;split at e
  ·rename_i q;cases e;exact(r.cut q).mono (qah.fz_le h)
  ·cases e
 |succ d ih=>
  intro t t' v e r;unfold fzT at e;split at e
  ·rename_i q;cases e;exact(r.cut q).mono (qah.fz_le h)
  rename_i q;have many: ∀{ts dq:List T} {vs:List V},ts.mapM (fzT n μ.l d)=some dq->Reps M.K B ts vs->Reps M.K (B.fz H μ.l n) dq vs:=λ{ts dq vs} e r=>by
   obtain⟨hl,hi⟩:=qa0 e;refine .of_get (by rw[r.length,hl]) λi t' v e1 e2=> ?_;obtain⟨t,et⟩: ∃t,ts[i]? =some t:=⟨ts[i]'(by rw[hl];exact(List.getElem?_eq_some_iff.mp e1).1),Vz _⟩
   obtain⟨v',ev,rv⟩:=r.get et;rw[e2] at ev;cases ev;exact ih t t' v (hi i t t' et e1) rv
  split at e
  ·rename_i k;obtain⟨a,rfl,ea⟩:=qaF r;have hk:n<=k:=by unfold ub at q;omega
   split at e
   ·rename_i ts el;cases e2:ts.mapM (fzT n μ.l d) with
    |none=>rw[e2] at e;cases e
    |some dq=>rw[e2] at e;cases e;obtain⟨o,b0,ho,vs,rfl,rv⟩:=h.at el (by simp) ea;refine qcU ?_ (many e2 rv);show(if _ then H a else B a)=_;rw[if_pos ⟨k,hk,ea,.inl ⟨ts,el⟩⟩];exact ho
   ·rename_i ts el;cases e2:ts.mapM (λp=>(fzT n μ.l d p.2).map λt=>(p.1,t)) with
    |none=>rw[e2] at e;cases e
    |some dq=>
     rw[e2] at e;cases e;obtain⟨o,b0,ho,vs,rfl,rv⟩:=h.at el (by simp) ea;refine qgA (vs:=vs) ?_ ?_
     ·show(if _ then H a else B a)=_;rw[if_pos ⟨k,hk,ea,.inr ⟨ts,el⟩⟩];exact ho
     ·obtain⟨hl,hi⟩:=qa0 e2;refine qir (by rw[rv.length,hl]) λi p q e1 e2=> ?_;obtain⟨t,et⟩: ∃t,ts[i]? =some t:=⟨ts[i]'(by rw[hl];exact(List.getElem?_eq_some_iff.mp e1).1),Vz _⟩
      obtain⟨v',ev,rv⟩:=qd0 rv et;rw[e2] at ev;cases ev;have z:=hi i t p et e1;cases e3:fzT n μ.l d t.2 with
      |none=>rw[e3] at z;cases z
      |some u=>rw[e3] at z;cases z;exact⟨rfl,ih _ _ _ e3 rv⟩
   ·cases e
  ·rename_i ts;cases e2:ts.mapM (fzT n μ.l d) with
   |none=>rw[e2] at e;cases e
   |some dq=>rw[e2] at e;cases e;obtain⟨p,vs,rfl,bp,rv⟩:=qaq r;exact qdt ((qah.fz_le (n:=n) h).h p _ bp) (many e2 rv)
  ·rename_i ts;cases e2:ts.mapM (fzT n μ.l d) with
   |none=>rw[e2] at e;cases e
   |some dq=>rw[e2] at e;cases e;obtain⟨p,vs,rfl,bp,rv⟩:=qau r;exact qcU ((qah.fz_le (n:=n) h).h p _ bp) (many e2 rv)
  ·cases e
theorem Hs.back {m0:Mu} {H0:Hp} {B0:qah} (h0:Hs M m0 H0 B0) (h:Hs M μ H B) (ha:m0.apart μ=true) (g:Go H0 B0 H B):
  Hs M (m0.back μ) H (B.fz H μ.l m0.l.length)/\Go H0 B0 H (B.fz H μ.l m0.l.length):=by
 unfold Mu.apart at ha;simp only[Bool.and_eq_true,decide_eq_true_eq] at ha;obtain⟨⟨hl,hd⟩,ha⟩:=ha;have hk:μ.k=m0.nw μ++m0.k:=by unfold Mu.nw;conv=>lhs;rw[<-List.take_append_drop (μ.k.length - m0.k.length) μ.k,hd]
 have new: ∀q∈m0.nw μ,m0.l.length<=q.1\/q.2<=m0.l.length:=λq hq=>of_decide_eq_true (List.all_eq_true.mp ha q hq);have hc:Hs M (m0.back μ) H (B.cut m0.l.length):=h.cut _ (n:=m0.l.length) (λq hq=>by
  rw[hk] at hq
  rcases List.mem_append.mp hq with hq|hq
  ·by_cases z:q.1<m0.l.length
   ·rcases new q hq with y|y
    ·omega
    ·exact .inr ⟨Vt _ (List.mem_filter.mpr ⟨hq,by simpa using z⟩),y⟩
   ·exact .inl (by omega)
  ·exact .inr ⟨Vu _ hq,h0.ln q hq⟩) (λq hq=>by
  rcases List.mem_append.mp hq with hq|hq
  ·obtain⟨hq,z⟩:=List.mem_filter.mp hq
   rcases new q hq with y|y
   ·have:=of_decide_eq_true z;omega
   ·exact y
  ·exact h0.ln q hq) hl
 have at': ∀{a o},(B.fz H μ.l m0.l.length) a=some o->H a=some o:=λ{a o} e=>by
  have e:(if _ then H a else B a)=some o:=e;split at e
  ·exact e
  ·exact h.bh a o e
 refine⟨⟨λa o e=>at' e,λa ps e=> ?_,h.gm,λj d e nj=> ?_,hc.ij,hc.dm,hc.lk,hc.ln⟩,⟨⟨λa o e=>(qah.fz_le h).h a o (g.le.h a o e),λj a e=> ?_⟩,g.un,λj a e=> ?_,g.dm,λa o e n t1 t2=> ?_⟩⟩
 ·have e:(if _ then H a else B a)=some (.tbl ps):=e;split at e
  ·rename_i q;obtain⟨k,_,ek,q⟩:=q
   rcases q with⟨ts,q⟩|⟨ts,q⟩
   ·obtain⟨o,_,ho,vs,rfl,_⟩:=h.at q (by simp) ek;rw[ho] at e;cases e
   ·obtain⟨o,_,ho,vs,rfl,_⟩:=h.at q (by simp) ek;rw[ho] at e;cases e
  ·exact h.bt a ps e
 ·obtain⟨a,u,e1,e2,e3,e4⟩:=hc.st j d e nj;refine⟨a,u,e1,?_,e3,e4.mono (qah.fz_le h)⟩;show(if _ then H a else B a)=_;split
  ·rename_i q;obtain⟨k,hk,ek,_⟩:=q;have e1:(if j<m0.l.length then B.ad j else none)=some a:=e1;split at e1
   ·have:=h.ij j k a e1 ek;omega
   ·cases e1
  ·exact e2
 ·show(if j<m0.l.length then B.ad j else none)=_;rw[if_pos (h0.dm j a e).1];exact g.le.d j a e
 ·have e:(if j<m0.l.length then B.ad j else none)=some a:=e;split at e
  ·exact g.nw j a e
  ·cases e
 ·show(if _ then H a else B a)=_;rw[if_neg (λ⟨k,_,ek,_⟩=>g.off (by rw[e];simp) n k ek)];exact g.nb a o e n t1 t2
end
end NV
namespace NV
open PySem L2
inductive Out where
 |nx (ρ:Ro)|rt (t:T)|bk (ρ:Ro)|ct (ρ:Ro)
def KS(M:Md)(H:Hp)(B:qah)(D:qoL):Out->Mu->Prop
 |.nx ρ,μ=> ∀aj H' B',Ev M ρ μ aj H' B'->Go H B H' B'->D.nx aj H'
 |.bk ρ,μ=> ∀aj H' B',Ev M ρ μ aj H' B'->Go H B H' B'->D.bk aj H'
 |.ct ρ,μ=> ∀aj H' B',Ev M ρ μ aj H' B'->Go H B H' B'->D.ct aj H'
 |.rt t,μ=>KE M H B D.rt t μ
theorem KS.le{M:Md}{H H1:Hp}{B B1:qah}{D:qoL}{o:Out}{μ:Mu}(h:KS M H B D o μ)(le:Go H B H1 B1):KS M H1 B1 D o μ:=by
 cases o with
 |nx ρ|bk ρ|ct ρ=>exactλaj H' B' e l=>h aj H' B' e (le.trans l)
 |rt t=>exact KE.le h le
def tS(M:Md)(E:XK)(d:DS0 Out):TS:=λD σ H=> ∃ρ μ B,Ev M ρ μ σ H B/\Wn M E H B (KS M H B D) (d ρ μ)
def qou:DS0 Out:=λρ μ=>.ok (.nx ρ) μ
def qhf(e:DS0 Out):Out->Mu->R Out
 |.nx ρ,μ=>e ρ μ
 |o,μ=>.ok o μ
def qtU(d e:DS0 Out):DS0 Out:=λρ μ=>(d ρ μ).bind (qhf e)
def quR(da:DS0 T):DS0 Out:=dSq da λt _ μ=>.ok (.rt t) μ
def qlw(i:Nat)(da:DS0 T):DS0 Out:=dSq da λt ρ μ=>.ok (.nx (ρ.set i (some t))) μ
def qrf(da:DS0 T):DS0 Out:=dSq da λ_ ρ μ=>.ok (.nx ρ) μ
section
variable {M:Md}{E:XK}{X:Cx}{st:Stmt}{bA eN qbG:List Stmt}{e c:Expr}{pos pos':Pos}{d d':DS0 Out}{da:DS0 T}{dt:DS0 Bool}{x:Str}{i:Nat}
theorem qaL:PS X st (tS M E dNo):=λ_ _ _ _ _ _ ⟨_,_,_,_,w⟩=>w.elim
theorem qof:PSs X [] (tS M E qou):=PSs.weak qnd λD σ H ⟨ρ,μ,B,ev,w⟩=>w σ H B ev .refl
theorem qky{D:qoL}{σ:St}{H:Hp}(h:tS M E (qtU d d') D σ H):quf (tS M E d) (tS M E d') D σ H:=by
 obtain⟨ρ,μ,B,ev,w⟩:=h;refine⟨ρ,μ,B,ev,(Wn.bind w).mono λo ah w1=> ?_⟩;cases o with
 |nx ae=>exactλaj H' B' e l=>⟨ae,ah,B',e,Wn.lift w1 l λ_ _ q=>KS.le q l⟩
 |bk ae|ct ae|rt t=>exact w1
theorem qln(h:PS X st (tS M E d))(h':PSs X qbG (tS M E d')):PSs X (st::qbG) (tS M E (qtU d d')):=PSs.weak (qkK h h') λD σ H q=>qky q
theorem qqX(h:PE X e (tE M E da)):PS X (.Return (some e) pos) (tS M E (quR da)):=PS.weak (qpw h) λD σ H ⟨ρ,μ,B,ev,w⟩=>tE.of ev ((Wn.bind w).mono λt ah w1=>w1)
theorem qog(h:PE X e (tE M E da))(hs:swapsWith e none pos.line X.env=pure false):PS X (.Expr e pos) (tS M E (qrf da)):=PS.weak (qne h hs) λD σ H ⟨ρ,μ,B,ev,w⟩=>
 tE.of ev ((Wn.bind w).mono λt ah w1 v H1 B1 h1 l1 _=>w1 σ H1 B1 (ev.on h1 l1.le) l1)
theorem qtJ(hc:PT X c (tT M E dt))(h:PSs X bA (tS M E d))(h':PSs X eN (tS M E d')):PS X (.If c bA eN pos) (tS M E (qhP dt d d')):=PS.weak (qsE hc h h') λD σ H ⟨ρ,μ,B,ev,w⟩=>by
 refine⟨ρ,μ,B,ev,(Wn.bind w).mono λc ah w1 H1 B1 h1 l1=> ?_⟩;cases c with
 |true|false=>exact⟨ρ,ah,B1,ev.on h1 l1.le,Wn.lift w1 l1 λ_ _ q=>KS.le q l1⟩
theorem qqW (hN:X.N.Nodup) (hi:X.N[i]? =some x) (hx:Loc X.env.scope x) (h:PE X e (tE M E da)) (hs:swapsWith e (some (.Name x pos')) pos.line X.env=pure false) (hf:X.fn x=true\/X.env.scope.names.lookup x=some .local):
  PS X (.Assign [.Name x pos'] e pos) (tS M E (qlw i da)):=PS.weak (qpv hN hi hx h hs hf) λD σ H ⟨ρ,μ,B,ev,w⟩=>
 tE.of ev ((Wn.bind w).mono λt ah w1 v H1 B1 h1 l1 r1=>w1 _ H1 B1 ((ev.on h1 l1.le).set r1) l1)
end
def tG(M:Md)(E:XK)(dg:T->DS0 Ro):TG:=λv σ H Q=> ∃ρ μ B t,Ev M ρ μ σ H B/\Rep M.K B t v/\Wn M E H B (λae aa=> ∀aj H' B',Ev M ae aa aj H' B'->Go H B H' B'->Q aj H') (dg t ρ μ)
def tGs(M:Md)(E:XK)(dg:List T->DS0 Ro):TGs:=λv σ H Q=> ∃ρ μ B t,Ev M ρ μ σ H B/\Reps M.K B t v/\Wn M E H B (λae aa=> ∀aj H' B',Ev M ae aa aj H' B'->Go H B H' B'->Q aj H') (dg t ρ μ)
def gN(i:Nat):T->DS0 Ro:=λt ρ μ=>.ok (ρ.set i (some t)) μ
def gsN:List T->DS0 Ro:=λts ρ μ=>match ts with|[]=>.ok ρ μ|_=>.no
def gsC(dg:T->DS0 Ro)(dr:List T->DS0 Ro):List T->DS0 Ro:=λts ρ μ=>match ts with|t::r=>(dg t ρ μ).bind (dr r)|[]=>.no
def gT(n:Nat)(dr:List T->DS0 Ro):T->DS0 Ro:=λt ρ μ=>match t with|.tup ts=>if ts.length=n then dr ts ρ μ else .no|_=>.no
def quW(dg:T->DS0 Ro)(da:DS0 T):DS0 Out:=dSq da λt ρ μ=>(dg t ρ μ).bind λae aa=>.ok (.nx ae) aa
section
variable {M:Md}{E:XK}{X:Cx}{e:Expr}{es:List Expr}{pos:Pos}{dg:T->DS0 Ro}{dr:List T->DS0 Ro}
theorem qjv:PG X e (tG M E λ_=>dNo):=λ_ _ _ _ _ _ _ _ _ ⟨_,_,_,_,_,_,w⟩=>w.elim
theorem qtL{i:Nat}(h:PG X e (qn8 i)):PG X e (tG M E (gN i)):=PG.weak h λv σ H Q ⟨ρ,μ,B,t,ev,r,w⟩=>w _ _ _ (ev.set r) .refl
theorem qom:PGs X [] (tGs M E gsN):=PGs.weak qni λv σ H Q ⟨ρ,μ,B,t,ev,r,w⟩=>by
 cases t with
 |nil=>exact⟨r.inv0,w σ H B ev .refl⟩
 |cons _ _=>exact w.elim
theorem qlr(h1:PG X e (tG M E dg))(h2:PGs X es (tGs M E dr))(hs:(assignEach (e::es) X.env).map (·.2)=assign e X.env::(assignEach es X.env).map (·.2)):PGs X (e::es) (tGs M E (gsC dg dr)):=
 PGs.weak (qkQ h1 h2 hs) λv σ H Q ⟨ρ,μ,B,t,ev,r,w⟩=>by
  cases t with
  |nil=>exact w.elim
  |cons t ts=>obtain⟨v',r',rfl,a,b⟩:=r.inv;refine⟨v',r',rfl,ρ,μ,B,t,ev,a,(Wn.bind w).mono λaB ah w1 dj H1 B1 e1 l1=> ?_⟩;exact⟨aB,ah,B1,ts,e1,b.mono l1.le,Wn.lift w1 l1 λaD ak q aN H2 B2 e2 l2=>q aN H2 B2 e2 (l1.trans l2)⟩
theorem qq2{k n:Nat}(hc:X.calm=true)(h:PGs X es (tGs M E dr))(hK:X.K=M.K)(hn:(assignEach es X.env).length=n)(bj:(assignEach es X.env).findIdx? (·.1)=none):PG X (.Tuple es k pos) (tG M E (gT n dr)):=
 PG.weak (qpE hc h hn bj) λv σ H Q ⟨ρ,μ,B,t,ev,r,w⟩=>by
  cases t with
  |tup ts=>
   obtain⟨p,vs,rfl,bp,rv⟩:=qaq r;have w:Wn M E H B _ (if ts.length=n then _ else _):=w;split at w
   ·rename_i hl;exact⟨p,vs,rfl,.inl (.inl (ev.hs.bh _ _ bp)),by rw[rv.length];exact hl,ρ,μ,B,ts,ev,rv,w⟩
   ·exact w.elim
  |_=>exact w.elim
theorem qq0{tg:Expr}{da:DS0 T}(h:PE X e (tE M E da))(hg:PG X tg (tG M E dg))(hs:swapsWithSole [tg] e pos.line X.env=pure false)(hw:swappedStores [tg] e X.env=pure none)(h1:(assignEach [tg] X.env).map (·.2)=[assign tg X.env]):PS X (.Assign [tg] e pos) (tS M E (quW dg da)):=
 PS.weak (qpB h hg hs hw h1) λD σ H ⟨ρ,μ,B,ev,w⟩=>tE.of ev ((Wn.bind w).mono λt ah w1 v H1 B1 h1 l1 r1=>⟨ρ,ah,B1,t,ev.on h1 l1.le,r1,(Wn.bind w1).lift l1 λaD ak w2 aN H2 B2 e2 l2=>w2 aN H2 B2 e2 (l1.trans l2)⟩)
end
def spF(M:Md)(f:List T->Mu->R T):Sp:=λvs H Q E=> ∃μ B ts,Hs M μ H B/\Reps M.K B ts vs/\Wn M E H B (KE M H B Q) (f ts μ)
def outT:Out->Mu->R T
 |.rt t,μ=>.ok t μ
 |.nx _,μ=>.ok .non μ
 |_,_=>.no
def lv(kp:Bool)(μ:Mu)(r:R T):R T:=if kp=true then r else leave μ r
def fnR(kp:Bool)(n N:Nat)(d:DS0 Out):List T->Mu->R T:=λts μ=>if ts.length=n then lv kp μ ((d (ts.map some++List.replicate (N - n) none) μ).bind outT) else .no
section
variable {M:Md}{E:XK}{P:Program}{w:World}{mg:Str->Option Value}{base:Heap}
theorem qhB{μ:Mu}{H:Hp}{B:qah}{Q:VK}{r:R T}(h:Hs M μ H B)(w:Wn M E H B (KE M H B Q) (leave μ r)):Wn M E H B (KE M H B Q) r:=by
 cases r with
 |no=>exact w
 |ok t m=>
  have w:Wn M E H B (KE M H B Q) (if m.l.length=μ.l.length then .ok t m else if μ.apart m=true then(match fzT μ.l.length m.l 3 t with|some t'=>.ok t' (μ.back m)|none=>.no) else .ok t m):=w;split at w
  ·exact w
  ·split at w
   ·rename_i ha;split at w
    ·rename_i t' e
     exactλv H' B' h' l r=>w v H' _ (h.back h' ha l).1 (h.back h' ha l).2 (qqN h' 3 t t' v e r)
    ·exact w.elim
   ·exact w
 |ex c m=>
  have w:Wn M E H B (KE M H B Q) (if m.l.length=μ.l.length then .ex c m else if μ.apart m=true then .ex c (μ.back m) else .ex c m):=w;split at w
  ·exact w
  ·split at w
   ·rename_i ha
    exactλH' B' h' l=>w H' _ (h.back h' ha l).1 (h.back h' ha l).2
   ·exact w
theorem qnO{kp:Bool}{μ:Mu}{H:Hp}{B:qah}{Q:VK}{r:R T}(h:Hs M μ H B)(w:Wn M E H B (KE M H B Q) (lv kp μ r)):Wn M E H B (KE M H B Q) r:=by
 cases kp with
 |true=>exact w
 |false=>exact qhB h w
theorem qlk{H:Hp}{B:qah}{μ:Mu}{ts:List T}{vs:List V}{N:List Str}(h:Hs M μ H B)(r:Reps M.K B ts vs)(hN:ts.length<=N.length):Ev M (ts.map some++List.replicate (N.length - ts.length) none) μ (start N vs) H B:=by
 have hl:=r.length;refine⟨h,by unfold L2.start;simp[hl],λi t e=> ?_⟩;by_cases hi:i<ts.length
 ·rw[List.getElem?_append_left (by simpa using hi),List.getElem?_map] at e;cases q:ts[i]? with
  |none=>rw[q] at e;cases e
  |some u=>rw[q] at e;cases e;obtain⟨v,e1,e2⟩:=r.get q;refine⟨v,?_,e2⟩;unfold L2.start;rw[List.getElem?_append_left (by rw[List.length_map,hl];exact hi),List.getElem?_map,e1];rfl
 ·rw[List.getElem?_append_right (by simpa using hi),List.getElem?_replicate] at e;split at e<;>cases e
theorem qtA {x qual:Str} {st:Stmt} {f:Addr} {fd:FuncData} {N ps:List Str} {k:Nat} {kp:Bool} {d:DS0 Out} (F:Fun M.K x qual st f fd) (S:qdc N ps (qae st))
  (bz: ∀(cdv:Value),fd.code=cdv->∀(A:Around) (outer:List Env) (s:Shared) (H:Hp) (E:XK),qb4 k (A.deeper (PyProof.Rows.envOfC qual (qae st) s.heap.objs.size f cdv))->
   PSs (qgR (CXE P w) P w M.K mg base N qual (qae st) f cdv A outer s H E) (qaw st) (tS M E d)):qg7 P w M.K mg base (CXE P w) (k+1) f fd ps (spF M (fnR kp ps.length N.length d)):=by
 have aU:ps.length<=N.length:=by have:=congrArg List.length S.pre;rw[List.length_take] at this;omega
 have len: ∀vs H Q E,spF M (fnR kp ps.length N.length d) vs H Q E->∃μ B ts,Hs M μ H B/\Reps M.K B ts vs/\ts.length=ps.length/\Wn M E H B (KE M H B Q) (lv kp μ ((d (ts.map some++List.replicate (N.length - ps.length) none) μ).bind outT)):=λvs H Q E h=>by
  obtain⟨μ,B,ts,h1,h2,h3⟩:=h;unfold fnR at h3;split at h3
  ·rename_i hl;exact⟨μ,B,ts,h1,h2,hl,h3⟩
  ·exact h3.elim
 obtain⟨oc,od,kV,doc,pm,an,cdv,ct,osl,rfl,lk,bH⟩:=F.ex;refine qtB lk bH S (λvs H Q E h=> ?_) λA outer s H vs Q E hr h=>⟨_,bz cdv rfl A outer s H E hr,?_⟩
 ·obtain⟨μ,B,ts,h1,h2,hl,h3⟩:=len vs H Q E h;rw[h2.length];exact hl
 ·obtain⟨μ,B,ts,h1,h2,hl,h3⟩:=len vs H Q E h;refine⟨_,μ,B,qlk h1 h2 (by omega),?_⟩;rw[hl];refine(Wn.bind (qnO h1 h3)).mono λo ah w1=> ?_;cases o with
  |rt t=>exact w1
  |nx ρ=>exactλaj H' B' e l=>w1 .non H' B' e.hs l qgz
  |bk ρ|ct ρ=>exact w1.elim
end
def qjA(f:List T->Mu->R T)(ds:DS0 (List T)):DS0 T:=dSq ds λts _ μ=>f ts μ
section
variable {M:Md}{E:XK}{X:Cx}{k:Nat}{f C:Addr}{fd:FuncData}{ps:List Str}{x m:Str}{p pos apos:Pos}{e o:Expr}{es:List Expr}{da:DS0 T}{ds:DS0 (List T)}{fT:List T->Mu->R T}
theorem qjO{σ:St}{H:Hp}{Q:VK}(h:tE M E (qjA fT ds) σ H Q):qmN (spF M fT) [] E (tA M E ds) σ H Q:=by obtain⟨ρ,μ,B,ev,w⟩:=h;refine⟨ρ,μ,B,ev,(Wn.bind w).mono λts ah w1 vs H1 B1 h1 l1 r1=> ?_⟩;show spF M fT (vs++[]) H1 Q E;rw[List.append_nil];exact⟨ah,B1,ts,h1,r1,Wn.lift w1 l1 λ_ _ q=>KE.le q l1⟩
theorem qos (F:qg7 X.prog X.w X.K X.mg X.base (CXE X.prog X.w) k f fd ps (spF M fT)) (hr:qb4 k X.A) (hg:Gl X x) (hm:X.mg x=some (.ref f)) (hk:W.keepIn X.K (.ref f)=true) (hb:qci X.K fd ps []) (hx:qbC (CXE X.prog X.w) X E)
  (ha:PA X (e::es) (tA M E ds)) (aK:(x==("__debug__" :Str))=false) (he:starEach (e::es) X.env=(false,eval e X.env)::starEach es X.env) (aU:(backTo pos (starEach es X.env)).any (·.1)=false):
  PE X (.Call (.Name x p) (e::es) [] pos) (tE M E (qjA fT ds)):=PE.weak (qno F hr hg hm hk hb .nil hx ha aK he aU) λ_ _ _ h=>qjO h
theorem qlu (F:qg7 X.prog X.w X.K X.mg X.base (CXE X.prog X.w) k f fd ps (spF M fT)) (hr:qb4 k X.A) (hg:Gl X x) (hm:X.mg x=some (.ref f)) (hk:W.keepIn X.K (.ref f)=true) (hb:qci X.K fd ps []) (hx:qbC (CXE X.prog X.w) X E)
  (aK:(x==("__debug__" :Str))=false):PE X (.Call (.Name x p) [] [] pos) (tE M E (qjA fT qrd)):=PE.weak (qkV F hr hg hm hk hb .nil hx aK) λσ H Q h=>by obtain⟨ρ,μ,B,ev,w⟩:=h;exact⟨μ,B,[],ev.hs,.nil,w⟩
def mkR(c:Str)(fT:List T->Mu->R T)(ts:List T)(μ:Mu):R T:=(fT (.obj μ.l.length::ts) (μ.add (.ins c []))).bind λt m=>match t with|.non=>.ok (.obj μ.l.length) m|_=>.no
def quM(ok:Str->Str->Bool)(f:Str):T->Mu->R T
 |.obj k,μ=>(match μ.l[k]? with
  |some (.ins c fs)=>if ok c f=true then(match fs.lookup f with|some t=>.ok t μ|none=>.no) else .no
  |_=>.no)
 |_,_=>.no
def quC(f:Str)(t:T):List (Str×T)->List (Str×T)
 |[]=>[(f,t)]
 |(g,u)::r=>if g=f then(g,t)::r else(g,u)::quC f t r
def quN(ok:Str->Str->Bool)(f:Str)(t:T):T->Mu->R Unit
 |.obj k,μ=>(match μ.l[k]? with
  |some (.ins c fs)=>if ok c f=true/\fs.length<1000 then .ok () (μ.put k (.ins c (quC f t fs))) else .no
  |_=>.no)
 |_,_=>.no
def qtW(ok:Str->Str->Bool)(f:Str)(bo dv:DS0 T):DS0 Out:=dSq dv λt=>dSq bo λo ρ μ=>(quN ok f t o μ).bind λ_ aa=>.ok (.nx ρ) aa
end
end NV
namespace PL
open PySem L2
inductive T where
 |non|bl (b:Bool)|int (i:Int)|str (s:Str)|tup (ts:List T)|lst (ts:List T)|dct (kvs:List (Key×T))|dcf (kvs:List (Key×T))|dtu (kvs:List (List Key×T))|fn (x:Str)|scr (ns:List Int)|obj (a:Addr)
inductive Rs(α:Type) where
 |no|ok (a:α)|ex (c:Str)
inductive Sl where
 |no|fz (t:T)|ow (ts:List T)|od (kvs:List (Key×T))|ou (kvs:List (List Key×T))|pd (kvs:List (Key×T))|pu (kvs:List (List Key×T))
abbrev Ro:=List Sl
inductive Out where
 |nx (ρ:Ro)|rt (t:T)|bk (ρ:Ro)|ct (ρ:Ro)|rs (s:Sl) (ρ:Ro)
section
def qvN(K:W.Frag)(tl:TE):TI:=λσ H R=>tl σ H λx H1=> ∃a,x= .ref a/\(((∃xs,SqL K H1 a xs/\(xs.length<=sizeLine->R (Itl K a) H1)))\/(∃xs,SqT K H1 a xs/\(xs.length<=sizeLine->R (Itt K a) H1)))
theorem pi_seq(hl:PE X l tl):PI X tg l (qvN X.K tl):=by
 intro pins s σ H R I h;refine thn (hl pins s σ H _ I h) λv s1 e8=> ?_;obtain⟨x,H1,I1,r1,q1⟩:=e8;obtain⟨a,e,q⟩:=q1;subst e;cases r1
 rcases q with⟨xs,hq,q⟩|⟨xs,hq,q⟩
 ·obtain⟨its,rv,p,hz⟩:=I1.list hq;have q:=q hz;refine Vf p.isList ?_;refine⟨s1.heap.objs.size,[s1.heap.objs.size],_,_,H1,rfl,I1.kept (t':=s1.toks) λb o e=>Vg _ e,qh7 a _,⟨_,Vh _ rfl,rfl,rfl⟩,λb hb=> ?_,q⟩;have e:b=s1.heap.objs.size:=by simpa using hb
  subst e;exact I1.fpOk (Vm _) (I1.hok.fresh (Vm _))
 ·obtain⟨its,rv,p,hz⟩:=I1.tuple hq;have q:=q hz;refine wpAny_pyIter_tuple p ?_;refine⟨s1.heap.objs.size,[s1.heap.objs.size],_,_,H1,rfl,I1.kept (t':=s1.toks) λb o e=>Vg _ e,qhb a _,⟨_,Vh _ rfl,rfl,rfl⟩,λb hb=> ?_,q⟩;have e:b=s1.heap.objs.size:=by simpa using hb
  subst e;exact I1.fpOk (Vm _) (I1.hok.fresh (Vm _))
end
theorem line1M:(1000000:Nat)<=sizeLine:=by decide
end PL
namespace Mir
open St
theorem qb1: ∀{l:List Nat} {x:Nat},x∈l->(l.erase x).length+1=l.length
 |[],_,h=>by cases h
 |y::l,x,h=>by
  by_cases e:y=x
  ·subst e;simp
  ·have hb:(y==x)=false:=by simpa using e
   rw[List.erase_cons,hb];simp only[Bool.false_eq_true,if_false,List.length_cons];have:=qb1 (l:=l) (x:=x) ((List.mem_cons.mp h).resolve_left λz=>e z.symm);lia
theorem qeS{l:List Nat}{x y:Nat}(h:y∈l)(aZ:y≠x):y∈l.erase x:=by
 induction l with
 |nil=>cases h
 |cons z l ih=>
  rw[List.erase_cons];by_cases e:z=x
  ·have hb:(z==x)=true:=by simpa using e
   rw[hb,if_pos rfl];exact(List.mem_cons.mp h).resolve_left λq=>aZ (q.trans e)
  ·have hb:(z==x)=false:=by simpa using e
   rw[hb];simp only[Bool.false_eq_true,if_false]
   rcases List.mem_cons.mp h with q|q
   ·rw[q];exact Vk
   ·exact Vl _ (ih q)
theorem qgD: ∀{l l':List Nat},l.Nodup->(∀x∈l,x∈l')->l.length<=l'.length
 |[],_,_,_=>Nat.zero_le _
 |x::l,l',nd,h=>by have hx:x∈l':=h x Vk;have hn:=List.nodup_cons.mp nd;have:=qgD (l:=l) (l':=l'.erase x) hn.2 λy hy=>qeS (h y (Vl _ hy)) λz=>hn.1 (z▸hy);have e:=qb1 hx;rw[List.length_cons];lia
theorem qv5{l:List Nat}{n:Nat}(nd:l.Nodup)(lt: ∀x∈l,x<n)(hl:l.length=n): ∀j,j<n->j∈l:=by
 intro j hj;by_cases q:j∈l
 ·exact q
 ·have h1:=qgD (l:=j::l) (l':=List.range n) (List.nodup_cons.mpr ⟨q,nd⟩) λx hx=>by
   rcases List.mem_cons.mp hx with e|e
   ·rw[e];exact List.mem_range.mpr hj
   ·exact List.mem_range.mpr (lt x e)
  rw[List.length_cons,List.length_range] at h1;lia
theorem qbA(cX: ∀a b,R a b->¬R b a): ∀{l l':List Nat},l.Pairwise R->l'.Pairwise R->(∀x,x∈l↔x∈l')->l=l'
 |[],[],_,_,_=>rfl
 |[],y::l',_,_,h=>by have:=(h y).mpr Vk;cases this
 |x::l,[],_,_,h=>by have:=(h x).mp Vk;cases this
 |x::l,y::l',h1,h2,h=>by
  obtain⟨a1,b1⟩:=List.pairwise_cons.mp h1;obtain⟨a2,b2⟩:=List.pairwise_cons.mp h2;have exy:x=y:=by
   rcases List.mem_cons.mp ((h x).mp Vk) with e|e
   ·exact e
   ·rcases List.mem_cons.mp ((h y).mpr Vk) with e'|e'
    ·exact e'.symm
    ·exact absurd (a2 x e) (cX x y (a1 y e'))
  subst exy;have n1:x∉l:=λq=>cX x x (a1 x q) (a1 x q);have n2:x∉l':=λq=>cX x x (a2 x q) (a2 x q);rw[qbA cX b1 b2 λz=>⟨λq=>((List.mem_cons.mp ((h z).mp (List.mem_cons_of_mem _ q))).resolve_left λe=>n1 (e▸q)),λq=>((List.mem_cons.mp ((h z).mpr (List.mem_cons_of_mem _ q))).resolve_left λe=>n2 (e▸q))⟩]
theorem qmC(a b:Nat)(h:L k a b): ¬L k b a:=by
 intro h'
 rcases h with h|h<;>rcases h' with h'|h'<;>lia
theorem qbz(h:qbq ms n p):p.toList.Pairwise (L λi=>ms.getD i 0):=by
 rw[List.pairwise_iff_getElem];intro i j hi hj aJ;have aL:i<p.size:=by simpa using hi
 have c9:j<p.size:=by simpa using hj
 have e:=h.2 i j aJ (by rw[h.1.sz] at c9;exact c9);have e1:g p i=p.toList[i]:=by unfold g;rw[Array.getD_eq_getD_getElem?];simp[aL]
 have e2:g p j=p.toList[j]:=by unfold g;rw[Array.getD_eq_getD_getElem?];simp[c9]
 rw[e1,e2] at e;exact e
theorem qgx(h:qbq ms n p): ∀x∈p.toList,x<n:=by
 intro x hx;obtain⟨i,hi,rfl⟩:=List.mem_iff_getElem.mp hx;have aL:i<p.size:=by simpa using hi
 have e:=h.1.lo i (by rw[h.1.sz] at aL;exact aL);have e1:g p i=p.toList[i]:=by unfold g;rw[Array.getD_eq_getD_getElem?];simp[aL]
 rw[e1] at e;exact e
theorem qfG(h:qbq ms n p):p.toList.Nodup:=by refine List.Pairwise.imp ?_ (qbz h);intro a b jq e;subst e;exact qmC a a jq jq
theorem order_mem{p:Array Nat}(h:qbq ms n p)(x:Nat):x∈p.toList↔x<n:=
 ⟨qgx h x,qv5 (qfG h) (qgx h) (by rw[Array.length_toList];exact h.1.sz) x⟩
def qsg(ms:List Int)(n:Nat)(m:Int):List Nat:=(List.range n).filter λj=>decide (ms.getD j 0=m)
def due(ms:List Int)(n t:Nat):List Nat:=(List.range t).flatMap λm=>qsg ms n (m:Nat)
theorem map_range_getD(xs:List α)(d:α):(List.range xs.length).map (λj=>xs.getD j d)=xs:=by
 apply List.ext_getElem
 ·simp
 ·intro i h1 h2;simp[h2]
end Mir
namespace SR
open PySem L2 RH St Mir
theorem qqC: ∀{l:List Nat},(∀x∈l,x<n)->l.Pairwise (L k)->(ins k n l).Pairwise (L k)
 |[],_,_=>by simp[ins]
 |y::l,hl,h=>by
  have h':=List.pairwise_cons.mp h;have hy:y<n:=hl y Vk;show(if k y<=k n then y::ins k n l else n::y::l).Pairwise (L k);by_cases c:k y<=k n
  ·rw[if_pos c];refine List.pairwise_cons.mpr ⟨λz hz=> ?_,qqC (λx hx=>hl x (Vl _ hx)) h'.2⟩
   rcases qd8.mp hz with q|q
   ·subst q;unfold L;lia
   ·exact h'.1 z q
  ·rw[if_neg c];refine List.pairwise_cons.mpr ⟨λz hz=> ?_,h⟩
   rcases List.mem_cons.mp hz with q|q
   ·subst q;exact .inl (by lia)
   ·have:=h'.1 z q;unfold L at this⊢;lia
theorem qeH(k:Nat->Int): ∀n,(srt k (List.range n)).Pairwise (L k)
 |0=>List.Pairwise.nil
 |n+1=>by rw[List.range_succ,qdS];exact qqC (λx hx=>List.mem_range.mp ((mem_srt _).mp hx)) (qeH k n)
theorem qcT(h:qbq ms n p):p.toList=srt (λi=>ms.getD i 0) (List.range n):=
 qbA qmC (qbz h) (qeH _ _) λx=>by rw[order_mem h,mem_srt,List.mem_range]
end SR
namespace RH
open PySem PySem.Spec PyProof.Rows L2 SR
section
def eqT(us vs:List V):Bool:=(List.range us.length).all λj=>eqV (us.getD j .non) (vs.getD j .non)
theorem valsArr(r:Vals us is)(h:j<is.toArray.size):RelV (us.getD j .non) is.toArray[j]:=by
 have hj:j<us.length:=by rw[r.length];simpa using h
 obtain⟨u,e,q⟩:=r.get (Vz hj);rw[List.getD_eq_getElem?_getD,List.getElem?_eq_getElem hj];have:is.toArray[j]=u:=by rw[List.getElem?_eq_getElem (by simpa using h)] at e;simpa using Option.some.inj e
 rw[this];exact q
end
end RH
namespace PL
open PySem L2
section kinds
open SeqAt
variable {A:Around}{s:Shared}{x:V}{u:Value}{l b:Addr}{is js:Array Value}
theorem eq_fl(r:RelV x u)(f:qfZ x=true)(h:s.heap.IsList l is)(c:A.units<cLine):EqAt A s u (.ref l) false/\EqAt A s (.ref l) u false/\RcAt A s u (.ref l) false/\RcAt A s (.ref l) u false/\RcNeAt A s u (.ref l) true/\RcNeAt A s (.ref l) u true:=by
 cases x with
 |non=>cases r;exact⟨.none_list h c,.list_none h c,.none_list h c,.list_none h c,.none_list h c,.list_none h c⟩
 |bl k=>cases r;exact⟨.bool_list k h c,.list_bool k h c,.bool_list k h c,.list_bool k h c,.bool_list k h c,.list_bool k h c⟩
 |int k=>obtain⟨t,rfl⟩:=r;exact⟨.int_list k t h c,.list_int k t h c,.int_list k t h c,.list_int k t h c,.int_list k t h c,.list_int k t h c⟩
 |str k=>obtain⟨t,rfl⟩:=r;exact⟨.str_list k t h c,.list_str k t h c,.str_list k t h c,.list_str k t h c,.str_list k t h c,.list_str k t h c⟩
 |_=>cases f
theorem eq_ft(r:RelV x u)(f:qfZ x=true)(h:s.heap.IsTuple l is)(c:A.units<cLine):EqAt A s u (.ref l) false/\EqAt A s (.ref l) u false/\RcAt A s u (.ref l) false/\RcAt A s (.ref l) u false/\RcNeAt A s u (.ref l) true/\RcNeAt A s (.ref l) u true:=by
 cases x with
 |non=>cases r;exact⟨.none_tuple h c,.tuple_none h c,.none_tuple h c,.tuple_none h c,.none_tuple h c,.tuple_none h c⟩
 |bl k=>cases r;exact⟨.bool_tuple k h c,.tuple_bool k h c,.bool_tuple k h c,.tuple_bool k h c,.bool_tuple k h c,.tuple_bool k h c⟩
 |int k=>obtain⟨t,rfl⟩:=r;exact⟨.int_tuple k t h c,.tuple_int k t h c,.int_tuple k t h c,.tuple_int k t h c,.int_tuple k t h c,.tuple_int k t h c⟩
 |str k=>obtain⟨t,rfl⟩:=r;exact⟨.str_tuple k t h c,.tuple_str k t h c,.str_tuple k t h c,.tuple_str k t h c,.str_tuple k t h c,.tuple_str k t h c⟩
 |_=>cases f
theorem rc_ff{y:V}{v:Value}(r:RelV x u)(f:qfZ x=true)(r':RelV y v)(f':qfZ y=true):RcAt A s u v (eqV x y)/\RcNeAt A s u v (!eqV x y):=by
 cases x with
 |non=>
  cases r;cases y with
  |non=>cases r';exact⟨.none_none,.none_none⟩
  |bl k=>cases r';exact⟨.none_bool k,.none_bool k⟩
  |int k=>obtain⟨t,rfl⟩:=r';exact⟨.none_int k t,.none_int k t⟩
  |str k=>obtain⟨t,rfl⟩:=r';exact⟨.none_str k t,.none_str k t⟩
  |_=>cases f'
 |bl i=>
  cases r;cases y with
  |non=>cases r';exact⟨.bool_none i,.bool_none i⟩
  |bl k=>cases r';exact⟨.bool_bool i k,.bool_bool i k⟩
  |int k=>obtain⟨t,rfl⟩:=r';exact⟨.bool_int i k t,.bool_int i k t⟩
  |str k=>obtain⟨t,rfl⟩:=r';exact⟨.bool_str i k t,.bool_str i k t⟩
  |_=>cases f'
 |int i=>
  obtain⟨t0,rfl⟩:=r;cases y with
  |non=>cases r';exact⟨.int_none i t0,.int_none i t0⟩
  |bl k=>cases r';exact⟨.int_bool i t0 k,.int_bool i t0 k⟩
  |int k=>obtain⟨t,rfl⟩:=r';exact⟨.int_int i t0 k t,.int_int i t0 k t⟩
  |str k=>obtain⟨t,rfl⟩:=r';exact⟨.int_str i t0 k t,.int_str i t0 k t⟩
  |_=>cases f'
 |str i=>
  obtain⟨t0,rfl⟩:=r;cases y with
  |non=>cases r';exact⟨.str_none i t0,.str_none i t0⟩
  |bl k=>cases r';exact⟨.str_bool i t0 k,.str_bool i t0 k⟩
  |int k=>obtain⟨t,rfl⟩:=r';exact⟨.str_int i t0 k t,.str_int i t0 k t⟩
  |str k=>obtain⟨t,rfl⟩:=r';exact⟨.str_str i t0 k t,.str_str i t0 k t⟩
  |_=>cases f'
 |_=>cases f
end kinds
end PL
namespace SetL
open PySem
def Ri(xs:Array Nat):Prop:=xs.toList.Pairwise (· < ·)
theorem Ri.lt(h:Ri xs)(aJ:i<j)(hj:j<xs.size):xs.getD i 0<xs.getD j 0:=by have:=List.pairwise_iff_getElem.mp h i j (by rw[Array.length_toList];lia) (by rw[Array.length_toList];lia) aJ;simpa [Array.getD,hj,show i<xs.size by lia] using this
theorem qn4 (h:Ri xs): ∀(fuel lo hi:Nat),lo<=hi->hi<=xs.size->hi - lo<=fuel->(∀i,i<lo->xs.getD i 0<j)->(∀i,hi<=i->i<xs.size->j<=xs.getD i 0)->
  SetTable.below.go xs j fuel lo hi<=xs.size/\(∀i,i<SetTable.below.go xs j fuel lo hi->xs.getD i 0<j)/\∀i,SetTable.below.go xs j fuel lo hi<=i->i<xs.size->j<=xs.getD i 0
 |0,lo,hi,h1,h2,h3,a,b=>by unfold SetTable.below.go;exact⟨by lia,a,λi aL=>b i (by lia)⟩
 |fuel+1,lo,hi,h1,h2,h3,a,b=>by
  unfold SetTable.below.go;by_cases c:lo<hi
  ·rw[if_pos c];dsimp only;have hm:(lo+hi) / 2<xs.size:=by lia
   have em:xs.getD ((lo+hi) / 2) j=xs.getD ((lo+hi) / 2) 0:=by simp[Array.getD,hm]
   rw[em];by_cases d:xs.getD ((lo+hi) / 2) 0<j
   ·rw[if_pos d];refine qn4 h fuel _ _ (by lia) h2 (by lia) (λi aL=> ?_) b;by_cases e:i=(lo+hi) / 2
    ·rw[e];exact d
    ·have:=h.lt (i:=i) (j:=(lo+hi) / 2) (by lia) hm;lia
   ·rw[if_neg d];refine qn4 h fuel _ _ (by lia) (by lia) (by lia) a λi aL hs=> ?_;by_cases e:i=(lo+hi) / 2
    ·rw[e];lia
    ·have:=h.lt (i:=(lo+hi) / 2) (j:=i) (by lia) hs;lia
  ·rw[if_neg c];exact⟨by lia,a,λi aL=>b i (by lia)⟩
theorem qep(h:Ri xs)(j:Nat):SetTable.below xs j<=xs.size/\(∀i,i<SetTable.below xs j->xs.getD i 0<j)/\∀i,SetTable.below xs j<=i->i<xs.size->j<=xs.getD i 0:=
 qn4 h _ _ _ (Nat.zero_le _) (Vm _) (by lia) (λi hi=>absurd hi (Nat.not_lt_zero _)) λi hi hs=>absurd hs (by lia)
theorem qhU(h:Ri xs)(hi:i<xs.size):SetTable.below xs (xs.getD i 0+1)=i+1:=by
 obtain⟨b1,b2,b3⟩:=qep h (xs.getD i 0+1)
 rcases Nat.lt_trichotomy (SetTable.below xs (xs.getD i 0+1)) (i+1) with c|c|c
 ·have:=b3 i (by lia) hi;lia
 ·exact c
 ·have:=b2 (i+1) c;have:=h.lt (i:=i) (j:=i+1) (by lia) (by lia);lia
theorem qhT(h:Ri xs):SetTable.below xs 0=0:=by
 obtain⟨b1,b2,b3⟩:=qep h 0;by_cases c:SetTable.below xs 0=0
 ·exact c
 ·have:=b2 0 (by lia);lia
theorem qfR(xs:Array α)(p:Nat)(x:α)(hp:p<=xs.size):(SetTable.insertAt xs p x).toList=xs.toList.take p++x::xs.toList.drop p:=by unfold SetTable.insertAt;rw[Array.toList_append,Array.toList_push,Array.toList_extract,Array.toList_extract];simp[List.extract_eq_drop_take];exact List.take_of_length_le (by rw[List.length_drop,Array.length_toList];exact Vm _)
theorem qi4(h:Ri xs)(hn:xs[SetTable.below xs j]? ≠some j):Ri (SetTable.insertAt xs (SetTable.below xs j) j):=by
 obtain⟨b1,b2,b3⟩:=qep h j;unfold Ri;rw[qfR _ _ _ b1];have g: ∀{i:Nat} (hi:i<xs.toList.length),xs.toList[i]=xs.getD i 0:=λ{i} hi=>by
  have:i<xs.size:=by rw[Array.length_toList] at hi;exact hi
  simp[Array.getD,this]
 have gt: ∀i,SetTable.below xs j<=i->i<xs.size->j<xs.getD i 0:=λi h1 h2=>by
  have e0:=b3 i h1 h2;by_cases c:i=SetTable.below xs j
  ·have:xs[SetTable.below xs j]? =some (xs.getD (SetTable.below xs j) 0):=by
    have hs:SetTable.below xs j<xs.size:=by lia
    simp[Array.getD,hs]
   rw[this] at hn;subst c;have:xs.getD (SetTable.below xs j) 0≠j:=λz=>hn (by rw[z]);lia
  ·have e1:=b3 (SetTable.below xs j) (Vm _) (by lia);have:=h.lt (i:=SetTable.below xs j) (j:=i) (by lia) h2;lia
 refine List.pairwise_append.mpr ⟨List.Pairwise.sublist (List.take_sublist _ _) h,List.pairwise_cons.mpr ⟨λy hy=> ?_,List.Pairwise.sublist (List.drop_sublist _ _) h⟩,λx hx y hy=> ?_⟩
 ·obtain⟨k,hk,rfl⟩:=List.mem_iff_getElem.mp hy;rw[List.getElem_drop,g];rw[List.length_drop,Array.length_toList] at hk;exact gt _ (by lia) (by lia)
 ·obtain⟨k,hk,rfl⟩:=List.mem_iff_getElem.mp hx;rw[List.getElem_take,g];rw[List.length_take] at hk;have a:=b2 k (by lia)
  rcases List.mem_cons.mp hy with z|z
  ·rw[z];exact a
  ·obtain⟨m,hm,rfl⟩:=List.mem_iff_getElem.mp z;rw[List.getElem_drop,g];rw[List.length_drop,Array.length_toList] at hm;have:=gt (SetTable.below xs j+m) (by lia) (by lia);lia
theorem qkC(n:Nat):Ri (Array.range n):=by unfold Ri;rw[Array.toList_range];exact List.pairwise_lt_range
def qdn(t:SetTable):Prop:=Ri t.place/\t.dummies= #[]
theorem qhv(a b:Nat)(l:Bool):qdn (.fresh a b l):=⟨List.Pairwise.nil,rfl⟩
theorem qbt(t:SetTable)(n:Nat):qdn (t.standIn n):=⟨qkC n,rfl⟩
theorem qhu(h:qdn t)(b:Bool):qdn { t with plain:=b }:=h
theorem qi9(j:Nat):SetTable.has #[] j=false:=rfl
theorem qim(h:qdn t)(j:Nat):t.slot j≠.dummy:=by
 unfold SetTable.slot;dsimp only;rw[h.2,qi9];split
 ·intro z;cases z
 ·rw[if_neg (by decide)];intro z;cases z
theorem qgu(h:qdn t)(ha:Nat->Int)(x:Int): ∀(fuel:Nat) (p:SetTable.Probe) (j:Nat) (d:Option Nat),p.dummy=none->SetTable.probe.go t ha x fuel p=some (.empty j d)->d=none/\t.slot j= .empty
 |0,p,j,d,hp,e=>by unfold SetTable.probe.go at e;cases e
 |fuel+1,p,j,d,hp,e=>by
  have adv:(t.advance p).dummy=none:=by
   unfold SetTable.advance;split
   ·exact hp
   ·exact hp
  unfold SetTable.probe.go at e;split at e
  ·rename_i es;cases e;exact⟨hp,es⟩
  ·rename_i es;exact absurd es (qim h _)
  ·split at e
   ·cases e
   ·exact qgu h ha x fuel _ j d adv e
theorem qhk{t:SetTable}{j:Nat}(h:t.slot j= .empty):t.place[SetTable.below t.place j]? ≠some j:=by intro z;unfold SetTable.slot at h;dsimp only at h;rw[z,if_pos (by simp)] at h;cases h
theorem qk1{t:SetTable}(h:qdn t){j:Nat}(hj:t.slot j= .empty):qdn (t.put j).1:=by unfold SetTable.put;refine⟨qi4 h.1 (qhk hj),?_⟩;show(if SetTable.has t.dummies j=true then _ else t.dummies)= #[];rw[h.2,qi9,if_neg (by decide)]
theorem qeP(h:qdn t)(n:Nat):qdn (t.orStandIn n):=by
 unfold SetTable.orStandIn;split
 ·exact h
 ·exact qbt _ _
theorem qk7(h:qdn t)(es:Array (Int×Value))(x:Int)(v:Value):qdn (layNew t es x v).2.1:=by
 unfold layNew;split
 ·rename_i slot wd e;unfold SetTable.freeSlot at e;split at e
  ·rename_i j d e2;obtain⟨rfl,e3⟩:=qgu h _ _ _ _ j d rfl e2;cases e;exact qeP (qk1 h e3) _
  ·cases e
 ·exact qbt _ _
theorem qgI(ow:Array (Option Nat)): ∀l:List Nat,l.Pairwise (· < ·)->((l.filterMap λj=>(ow.getD j none).map (j, ·)).map (·.1)).Pairwise (· < ·)/\∀x∈((l.filterMap λj=>(ow.getD j none).map (j, ·)).map (·.1)),x∈l
 |[],_=>⟨List.Pairwise.nil,λ_ h=>by cases h⟩
 |y::l,h=>by
  have h':=List.pairwise_cons.mp h;obtain⟨i1,i2⟩:=qgI ow l h'.2;cases e:ow.getD y none with
  |none=>rw[List.filterMap_cons,e];exact⟨i1,λx hx=>Vl _ (i2 x hx)⟩
  |some k=>
   rw[List.filterMap_cons,e];dsimp only[Option.map];rw[List.map_cons];refine⟨List.pairwise_cons.mpr ⟨λx hx=>h'.1 x (i2 x hx),i1⟩,λx hx=> ?_⟩
   rcases List.mem_cons.mp hx with z|z
   ·rw[z];exact Vk
   ·exact Vl _ (i2 x z)
theorem qfB{t:SetTable}{n:Nat}(e:t.relaid hs n=some (t',o)):qdn t':=by
 unfold SetTable.relaid SetTable.laid at e;cases q:SetTable.layClean (SetTable.sizeAbove n - 1) hs with
 |none=>rw[q] at e;cases e
 |some ow=>rw[q] at e;have e':=Option.some.inj e;have e1:=(Prod.mk.inj e').1;subst e1;exact⟨(qgI ow _ List.pairwise_lt_range).1,rfl⟩
theorem qhl(t:SetTable)(es:Array (Int×Value))(n:Nat):qdn (relayAll t es n).2.1:=by
 unfold relayAll;split
 ·rename_i t' o e;dsimp only;split
  ·exact qfB e
  ·exact qbt _ _
 ·exact qbt _ _
theorem qfH{t:SetTable}{n:Nat}:(t.orStandIn n).led=t.led:=by
 unfold SetTable.orStandIn
 split<;>rfl
theorem qnR{t:SetTable}{h:Int}:(layNew t es h x).2.1.led=t.led:=by
 unfold layNew;split
 ·exact qfH
 ·rfl
theorem qhm{t t':SetTable}{n:Nat}(e:t.relaid hs n=some (t',o)):t'.led=t.led:=by
 unfold SetTable.relaid SetTable.laid at e;cases q:SetTable.layClean (SetTable.sizeAbove n - 1) hs with
 |none=>rw[q] at e;cases e
 |some ow=>rw[q] at e;have e':=Option.some.inj e;exact(congrArg (λp:SetTable×Array Nat=>p.1.led) e').symm
theorem qis{t:SetTable}{n:Nat}:(relayAll t es n).2.1.led=t.led:=by
 unfold relayAll;split
 ·rename_i t' o e;dsimp only;split
  ·exact qhm e
  ·rfl
 ·rfl
section
variable {prog:Program}{w:World}{K:Type}[DecidableEq K](knd:KeyKind prog w K)
def qhY(h:Heap)(a:Addr)(S:K->Bool)(n:Nat):Prop:=
 ∃o es ep t,h.get? a=some o/\o.ExactSet/\o.data= .set es ep t/\ElemsOf knd es.toList/\(∀k,S k=true↔∃e∈es.toList,knd.is k e.2=true)/\es.size<scanBound/\t.fits es.size=true/\es.size=n/\qdn t/\t.led= !w.params.followText "set-order"
variable {knd}{A:Around}{E:Value->Shared->Prop}{s:Shared}
theorem qhY.keep{h h':Heap}{a:Addr}{S:K->Bool}{n:Nat}(x:qhY knd h a S n)(k: ∀o,h.get? a=some o->h'.get? a=some o):qhY knd h' a S n:=
 let ⟨o,es,ep,t,ho,r⟩:=x
 ⟨o,es,ep,t,k _ ho,r⟩
theorem qja(b:Bool)(hq:Q' () af):wpAny (model prog w) A (match b with|true=>rule "set.scan.the-table-gave-way" | false=>pure ()) Q' E af:=by
 cases b with
 |true=>exact wpAny_rule hq
 |false=>exact Vb hq
theorem qif {a:Addr} {o:Obj} {es cg:Array (Int×Value)} {ep:Nat} {t t':SetTable} {S':K->Bool} {Q:Unit->Shared->Prop} (ho:s.heap.get? a=some o) (hx:o.ExactSet) (hd:o.data= .set es ep t) (el:ElemsOf knd cg.toList) (me: ∀k,S' k=true↔∃e∈cg.toList,knd.is k e.2=true) (hb:cg.size<scanBound) (hf:t'.fits cg.size=true) (hp:qdn t') (hl:t'.led= !w.params.followText "set-order") (h: ∀h',Heap.SameBut a s.heap h'->h'.get? a=some { o with data:=.set cg (ep+1) t' }->qhY knd h' a S' cg.size->Q () { s with heap:=h' }):wpAny (model prog w) A (storeSet a cg t') Q E s:=by refine wpAny_storeSet_of ho hd ?_ (fits_of_scanBound hb);obtain⟨g,_⟩:=SetOf_store (knd:=knd) ho hx hd el me hb hf;exact h _ (Heap.SameBut.update s.heap a _) g ⟨_,cg,ep+1,t',g,hx,rfl,el,me,hb,hf,rfl,hp,hl⟩
theorem qt6{a:Addr}{S:K->Bool}{n:Nat}{k:K}{x:Value}{Q:Bool->Shared->Prop}(hk:knd.is k x=true)(bZ:x.scannable=true)(hS:qhY knd s.heap a S n)(room:n+1<scanBound)(h: ∀h',Heap.SameBut a s.heap h'->qhY knd h' a (λk'=>S k'||decide (k'=k)) (if S k then n else n+1)->Q (!S k) { s with heap:=h' }):wpAny (model prog w) A (setAddHashed a x (knd.hash k)) Q E s:=by
 obtain⟨o,es,ep,t,ho,hx,hd,el,me,hb,hf,hn,pl,ld⟩:=hS;unfold setAddHashed setAddHashedIn;refine wpAny_holding (Va (wpAny_setState_of ho hd hf ?_));dsimp only;rw[byScan_of bZ hb el,if_pos rfl];unfold setAddByScan;refine Va (Va (wpAny_rule (Va (wpAny_setScan_of hk ho hd hf el ?_))));cases fr:List.findIdx? (λe=>knd.is k e.2) es.toList with
 |some j=>
  obtain⟨hj,pj,_⟩:=List.findIdx?_eq_some_iff_getElem.mp fr;have Sk:S k=true:=(me k).mpr ⟨_,List.getElem_mem hj,pj⟩;refine Vb (Vb ?_);have z:=h s.heap (Heap.SameBut.refl a s.heap) ⟨o,es,ep,t,ho,hx,hd,el,λk'=> ?_,hb,hf,by rw[if_pos Sk];exact hn,pl,ld⟩
  ·rw[Sk] at z;exact z
  ·rw[Bool.or_eq_true,decide_eq_true_eq,<-me k'];exact⟨λq=>q.elim id λe=>by rw[e];exact Sk,.inl⟩
 |none=>
  have Sk:S k=false:=by
   cases q:S k with
   |false=>rfl
   |true=>obtain⟨e,he,p⟩:=(me k).mp q;rw[List.findIdx?_eq_none_iff.mp fr e he] at p;cases p
  have pm:=layNew_perm t es (knd.hash k) x;have ft:=layNew_fits t es (knd.hash k) x;have lp:=qk7 pl es (knd.hash k) x;have ll:=qnR (es:=es) (h:=knd.hash k) (x:=x) (t:=t);generalize layNew t es (knd.hash k) x=L at pm ft lp ll⊢;obtain⟨aH,t1,wd,gv⟩:=L;dsimp only at pm ft lp ll⊢;rw[Array.toList_push] at pm;have jE:ElemsOf knd aH.toList:=(el.push hk bZ).perm pm;have i8:=mem_push_iff (S:=S) hk me pm;have sz:aH.size=n+1:=by rw[<-Array.length_toList,pm.length_eq,List.length_append,Array.length_toList,hn];rfl
  refine Va (qja _ ?_)
  have go: ∀t2:SetTable,t2.fits aH.size=true->qdn t2->t2.led=(!w.params.followText "set-order")->wpAny (model prog w) A (do
    storeSet a aH t2
    if(!wd&&t2.tooFull)=true then do
     (match(relayAll t2 aH (SetTable.grown aH.size)).2.2 with|true=>rule "set.scan.the-table-gave-way" | false=>pure ())
     storeSet a (relayAll t2 aH (SetTable.grown aH.size)).1 (relayAll t2 aH (SetTable.grown aH.size)).2.1
     pure (some true)
    else pure (some true):Sem (Option Bool)) (λr s'=> ∃h',s'={ s with heap:=h' }/\r=some true/\Q true { s with heap:=h' }) E s:=λt2 f2 p2 l2=>by
   refine Va (qif (knd:=knd) (S':=λk'=>S k'||decide (k'=k)) ho hx hd jE i8 (by lia) f2 p2 l2 λh1 sb g1 S1=> ?_);split
   ·have c5:=relayAll_perm t2 aH (SetTable.grown aH.size);have iN:=relayAll_fits t2 aH (SetTable.grown aH.size);have rp:=qhl t2 aH (SetTable.grown aH.size);have rl:=qis (es:=aH) (n:=SetTable.grown aH.size) (t:=t2);generalize relayAll t2 aH (SetTable.grown aH.size)=R at c5 iN rp rl⊢;obtain⟨es2,t3,g2⟩:=R;dsimp only at c5 iN rp rl⊢;have fO:es2.size=aH.size:=by rw[<-Array.length_toList,c5.length_eq,Array.length_toList]
    refine Va (qja _ (Va (qif (knd:=knd) (S':=λk'=>S k'||decide (k'=k)) (s:={ s with heap:=h1 }) g1 hx rfl (jE.perm c5) (λk'=>(i8 k').trans ⟨λ⟨e,he,q⟩=>⟨e,c5.mem_iff.mpr he,q⟩,λ⟨e,he,q⟩=>⟨e,c5.mem_iff.mp he,q⟩⟩) (by lia) iN rp (rl.trans l2) λh2 sb2 _ S2=> ?_)));have z:=h h2 (sb.trans sb2) (by rw[Sk,if_neg (by decide)];rw[fO,sz] at S2;exact S2);rw[Sk] at z;exact Vb ⟨h2,rfl,rfl,z⟩
   ·have z:=h h1 sb (by rw[Sk,if_neg (by decide)];rw[sz] at S1;exact S1);rw[Sk] at z;exact Vb ⟨h1,rfl,rfl,z⟩
  have both: ∀c:Bool,wpAny (model prog w) A (do
    let t2:SetTable:=if c=true then t1 else{ t1 with plain:=false }
    storeSet a aH t2
    if(!wd&&t2.tooFull)=true then do
     (match(relayAll t2 aH (SetTable.grown aH.size)).2.2 with|true=>rule "set.scan.the-table-gave-way" | false=>pure ())
     storeSet a (relayAll t2 aH (SetTable.grown aH.size)).1 (relayAll t2 aH (SetTable.grown aH.size)).2.1
     pure (some true)
    else pure (some true):Sem (Option Bool)) (λr s'=> ∃h',s'={ s with heap:=h' }/\r=some true/\Q true { s with heap:=h' }) E s:=λc=>by
   cases c with
   |true=>exact go t1 ft lp (ll.trans ld)
   |false=>exact go { t1 with plain:=false } (SetTable.fits_plain_off ft) (qhu lp false) (ll.trans ld)
  by_cases tp:t1.plain=true
  ·rw[if_pos tp,hashByValue_scannable 8 bZ];refine Va (Vb ?_);refine Vc (both (plainKind x)) (λr s' ⟨h',e1,e2,q⟩=> ?_) λ_ _ z=>z;subst e1 e2;exact Vb q
  ·rw[if_neg tp];refine Va (Vb ?_);refine Vc (both true) (λr s' ⟨h',e1,e2,q⟩=> ?_) λ_ _ z=>z;subst e1 e2;exact Vb q
end
theorem qjG(hn:n≠0)(h: ∀i d,i<n->Q i { s with drawn:=d }):wpAny M A (choose src n) Q E s:=
 λΓ p hΓ=>⟨hn,h _ _ (Nat.mod_lt _ (Nat.pos_of_ne_zero hn))⟩
theorem qb9: ∀{xs:List α} {i:Nat} {x:α},xs[i]? =some x->List.Perm (x::xs.eraseIdx i) xs
 |[],i,x,h=>by simp at h
 |y::ys,0,x,h=>by simp at h;subst h;exact List.Perm.refl _
 |y::ys,i+1,x,h=>by have:=qb9 (xs:=ys) (i:=i) (x:=x) (by simpa using h);exact(List.Perm.swap y x _).trans (this.cons y)
theorem qjq: ∀(n:Nat) (xs:List α) (s:Shared) (Q:List α->Shared->Prop),xs.length=n->(∀ys d,List.Perm ys xs->Q ys { s with drawn:=d })->wpAny M A (drawOrder n xs) Q E s
 |0,xs,s,Q,hl,h=>by have e:xs=[]:=List.length_eq_zero_iff.mp hl;subst e;exact Vb (h [] s.drawn (List.Perm.refl _))
 |n+1,[],s,Q,hl,h=>by cases hl
 |n+1,x::xs,s,Q,hl,h=>by
  unfold drawOrder;refine Va (qjG (by simp) λi d hi=> ?_);obtain⟨y,hy⟩: ∃y,(x::xs)[i]? =some y:=⟨_,Vz hi⟩
  rw[hy];have hp:=qb9 hy;refine Va (qjq n _ _ _ ?_ λys d' pm=>Vb (h (y::ys) d' ((pm.cons y).trans hp)));have:=hp.length_eq;simp only[List.length_cons] at this hl⊢;lia
theorem qeK(next:Nat->Nat): ∀(fuel k:Nat) (left:List α) (out:Array α),left.length=fuel->List.Perm (pickOrder.go next fuel k left out).toList (out.toList++left)
 |0,k,left,out,h=>by have e:left=[]:=List.length_eq_zero_iff.mp h;subst e;simp[pickOrder.go]
 |n+1,k,left,out,h=>by
  unfold pickOrder.go;have aI:next k % left.length<left.length:=Nat.mod_lt _ (by lia)
  rw[List.getElem?_eq_getElem aI];dsimp only;have hp:=qb9 (Vz aI);have hl:=hp.length_eq;simp only[List.length_cons] at hl;refine(qeK next n (k+1) _ _ (by lia)).trans ?_;rw[Array.toList_push,List.append_assoc];exact List.Perm.append_left _ hp
theorem qdg(next:Nat->Nat)(xs:Array α):List.Perm (pickOrder next xs).toList xs.toList:=by
 unfold pickOrder;have:=qeK next xs.size 0 xs.toList #[] (by simp)
 simpa using this
def qfQ(first:Value)(i:Nat)(a:Addr)(n ep:Nat):Obj:={ cls:=.type "set_iterator",data:=.fields #[first,rawInt i,.ref a,rawInt n,rawInt ep] }
inductive Way(w:World)(h:Heap)(a:Addr)(es:Array (Int×Value))(ep:Nat)(t:SetTable):List Addr->(Nat->Value)->List Value->Prop
 |drawn {tp:Addr} {ot:Obj} {pl:List Nat} {k:Nat}:h.get? tp=some ot->ot.data= .seq (List.toArray (pl.map λ(i:Nat)=>rawInt i)) k->(∀i∈pl,i<es.size)->Way w h a es ep t [tp] (λ_=>.ref tp) (pl.map λi=>(es.toList.map (·.2)).getD i .none)
 |text:w.params.followText "set-order" =true->Way w h a es ep t [] (λ_=>rawInt 0) ((pickOrder (w.params.setOrder a ep) es).toList.map (·.2))
 |small:w.params.followText "set-order" =false->(!t.plain&&decide (es.size>1))=false->t.led=true->qdn t->Way w h a es ep t [] (λi=>if i=0 then rawInt 0 else rawInt (t.place.getD (i - 1) 0+1:Nat)) (es.toList.map (·.2))
theorem Way.keep(x:Way w h a es ep t tl f vs)(k: ∀b∈tl,∀o,h.get? b=some o->h'.get? b=some o):Way w h' a es ep t tl f vs:=by
 cases x with
 |drawn e d b=>exact .drawn (k _ (List.mem_singleton.mpr rfl) _ e) d b
 |text e=>exact .text e
 |small e1 e2 e3 e4=>exact .small e1 e2 e3 e4
theorem qbR:Slot "set_iterator" "__next__" "set_iterator.__next__" :=
 .of (owner:= "set_iterator") (n:= "__next__") (by rw[typeLookup_type,builtinLookup_eq_fast];kernel_rfl) (by decide+kernel) (by decide+kernel)
  (by decide+kernel) (by first|exact .inl (by decide+kernel)|exact .inr (by decide+kernel)) (by rw[isSubtype_type];kernel_rfl)
theorem qeC:Slot "set_iterator" "__iter__" "set_iterator.__iter__" :=
 .of (owner:= "set_iterator") (n:= "__iter__") (by rw[typeLookup_type,builtinLookup_eq_fast];kernel_rfl) (by decide+kernel) (by decide+kernel)
  (by decide+kernel) (by first|exact .inl (by decide+kernel)|exact .inr (by decide+kernel)) (by rw[isSubtype_type];kernel_rfl)
theorem qhK:entryFor table "set_iterator.__next__" =some Builtin.«set_iterator.__next__» :=entryFor_of_fast (by kernel_rfl)
theorem qei:entryFor table "set.__iter__" =some Builtin.«frozenset.__iter__» :=
 entryFor_alias (id':= "frozenset.__iter__") (by kernel_rfl) rfl (by decide+kernel) (by kernel_rfl)
theorem qj1(a:Value):argsOk "set_iterator.__next__" ⟨[a],[]⟩:=by unfold argsOk;kernel_rfl
section
theorem qft (h:Q (w.params.followText "set-order") s):wpAny (model prog w) A setsByText Q E s:=by unfold setsByText;exact Va (wpAny_askSetting (Vb h))
theorem qhL(ho:s.heap.get? a=some o)(hd:o.data= .set es ep t)(hf:t.fits es.size=true)(h:Q es.size s):wpAny (model prog w) A (Builtin.Frozenset.sizeOf a) Q E s:=by unfold Builtin.Frozenset.sizeOf;exact Va (wpAny_setEntries_of ho hd hf (Vb h))
theorem qlp (ho:s.heap.get? a=some o) (hd:o.data= .set es ep t) (hf:t.fits es.size=true) (h:Q (!w.params.followText "set-order" &&(!t.plain&&decide (es.size>1))) s):wpAny (model prog w) A (setDrawn a) Q E s:=by unfold setDrawn;exact Va (wpAny_setState_of ho hd hf (Va (qft (Vb h))))
theorem qlc (ho:s.heap.get? a=some o) (hx:o.ExactSet) (hd:o.data= .set es ep t) (hf:t.fits es.size=true) (hb:es.size<scanBound) (pl:qdn t) (ld:t.led= !w.params.followText "set-order") (h: ∀(it:Addr) (h':Heap) (d:Drawn) (tl:List Addr) (f:Nat->Value) (vs:List Value),s.heap.objs.size<=it->(∀b∈tl,s.heap.objs.size<=b/\b≠it)->(∀b u,s.heap.get? b=some u->h'.get? b=some u)->h'.get? it=some (qfQ (f 0) 0 a es.size ep)->Way w h' a es ep t tl f vs->List.Perm vs (es.toList.map (·.2))->
   Q (.ref it) { s with heap:=h',drawn:=d }):wpAny (model prog w) A (pyIter (.ref a)) Q E s:=by
 have ty:s.TypeIs (.ref a) "set" :=⟨o,ho,hx.1⟩
 refine wpAny_pyIter_slot ty F.slot_set_iter (wpAny_call_entry F.slot_set_iter ty qei ?_ (F.args_set_iter_1 _));unfold Builtin.«frozenset.__iter__» Builtin.Frozenset.slot0 slotArgs;refine Va (Vb (Va (qhL ho hd hf ?_)));refine Va (qlp ho hd hf ?_)
 have fin: ∀(s1:Shared) (first:Value) (tl:List Addr) (f:Nat->Value) (vs:List Value),s1.gens=s.gens->s1.os=s.os->s1.toks=s.toks->s.heap.objs.size<=s1.heap.objs.size->(∀b u,s.heap.get? b=some u->s1.heap.get? b=some u)->(∀b∈tl,s.heap.objs.size<=b/\b<s1.heap.objs.size)->f 0=first->(∀h',(∀b u,s1.heap.get? b=some u->h'.get? b=some u)->Way w h' a es ep t tl f vs)->List.Perm vs (es.toList.map (·.2))->
   wpAny (model prog w) A.in1 (do ret (<-newFields "set_iterator" [first,rawInt 0,.ref a,rawInt (es.size:Nat),rawInt (<-setEpoch a)])) (λr s'=> ∃v,r= .done (.ret v)/\∃(T':String) (r':Value),s'.TypeIs v T'/\typeLookup (.type T') "__next__" =pure (some r')/\Q v s') E s1:=λs1 first tl f vs e1 e2 e3 sz kp tb ef wy pm=>by refine Va (wpAny_setEpoch_of (kp _ _ ho) hd hf ?_);refine Va (wpAny_newObj_type ?_ (by size_fits));refine Vb ⟨_,rfl, "set_iterator",_,⟨_,Vh _ rfl,rfl⟩,qbR.lookup,?_⟩;have bN: ∀b u,s1.heap.get? b=some u->(s1.heap.push (qfQ first 0 a es.size ep)).get? b=some u:=λb u q=>Vg _ q;have:=h s1.heap.objs.size (s1.heap.push (qfQ first 0 a es.size ep)) s1.drawn tl f vs sz (λb hb=>⟨(tb b hb).1,Vp (tb b hb).2⟩) (λb u q=>bN b u (kp b u q)) (by rw[ef];exact Vh _ rfl) (wy _ bN) pm;obtain⟨hh,g,d,tk,os⟩:=s1;dsimp only at e1 e2 e3 this⊢;subst e1 e2 e3;exact this
 have cD: ∀{α:Type} (d:α) (l:List α),(List.range l.length).map (λi=>l.getD i d)=l:=λd l=>by
  apply List.ext_getElem
  ·simp
  ·intro i h1 h2;simp[List.getElem?_eq_getElem h2]
 cases bt:w.params.followText "set-order" with
 |true=>rw[if_neg (by simp)];refine Va (Vb ?_);refine fin s (rawInt 0) [] (λ_=>rawInt 0) _ rfl rfl rfl (Vm _) (λ_ _ q=>q) (λb hb=>nomatch hb) rfl (λh' _=>.text bt) ?_;exact(qdg _ _).map _
 |false=>
  by_cases h1:(!t.plain&&decide (es.size>1))=true
  ·rw[if_pos (by rw[h1];rfl)];refine Va (qjq es.size (List.range es.size) s _ (by simp) λys d pm=> ?_);refine Va (wpAny_newObj_type ?_ (by
    have:=pm.length_eq;have h2:scanBound=4096:=rfl;show(List.toArray (ys.map λ(i:Nat)=>rawInt i)).size<=sizeLine;rw[List.size_toArray,List.length_map,this,List.length_range,sizeLine_eq]
    lia))
   refine fin _ (.ref s.heap.objs.size) [s.heap.objs.size] (λ_=>.ref s.heap.objs.size) (ys.map λi=>(es.toList.map (·.2)).getD i .none) rfl rfl rfl (by show _<=(s.heap.push _).objs.size;rw[Heap.size_push];exact Wc _) (λb u q=>Vg _ q) (λb hb=> ?_) rfl (λh' kp=> ?_) ?_
   ·rw[List.mem_singleton.mp hb];refine⟨Vm _,?_⟩;show _<(s.heap.push _).objs.size;rw[Heap.size_push];exact Wb _
   ·refine .drawn (kp _ _ (Vh _ rfl)) rfl λi hi=> ?_;have:=pm.mem_iff.mp hi;simpa using this
   ·have q:=pm.map λi=>(es.toList.map (·.2)).getD i Value.none;have e:es.size=(es.toList.map (·.2)).length:=by simp
    rw[e,cD] at q;exact q
  ·have bI:(!t.plain&&decide (es.size>1))=false:=by simpa using h1
   rw[if_neg (by rw[bI];decide)];refine Va (Vb ?_);exact fin s (rawInt 0) [] _ _ rfl rfl rfl (Vm _) (λ_ _ q=>q) (λb hb=>nomatch hb) (if_pos rfl) (λh' _=>.small bt bI (by rw[ld,bt];rfl) pl) (List.Perm.refl _)
end
section
theorem qnH (ho:s.heap.get? a=some o) (hd:o.data= .set es ep t) (hf:t.fits es.size=true) (W:Way w s.heap a es ep t tl f vs) (hs:f i=rawInt (slot:Nat)) (hi:i<=vs.length) (h:Q (vs[i]?.map λv=>(v,if w.params.followText "set-order" =true then slot else t.place.getD i 0+1)) s):wpAny (model prog w) A (setNext a slot i ep) Q E s:=by
 unfold setNext;refine Va (wpAny_setState_of ho hd hf ?_);dsimp only;refine Va (qft ?_);cases W with
 |drawn _ _ _=>cases hs
 |text e=>
  rw[if_pos e,if_neg (by simp)];refine Va ?_;unfold setWalk;refine Va (wpAny_setState_of ho hd hf ?_);dsimp only;refine Va (qft ?_);rw[if_pos e];refine Va (wpAny_askSetting (Vb (Vb ?_)));have e2:(if w.params.followText "set-order" =true then slot else t.place.getD i 0+1)=slot:=if_pos e;rw[e2] at h;have e3:((pickOrder (w.params.setOrder a ep) es).toList.map (·.2))[i]?.map (λv=>(v,slot))=((pickOrder (w.params.setOrder a ep) es)[i]?).map λe=>(e.2,slot):=by rw[List.getElem?_map,Array.getElem?_toList,Option.map_map];rfl
  rw[e3] at h;exact h
 |small e ndr hl iu=>
  rw[e,if_neg (by decide)];split
  ·rename_i z;have z':(!t.plain&&decide (es.size>1))=true:=z;rw[ndr] at z';cases z'
  have led:(!t.led&& !es.isEmpty)=false:=by rw[hl];rfl
  refine Va ?_;show wpAny _ _ (if(!t.led&& !es.isEmpty)=true then _ else _) _ _ _;rw[if_neg (by rw[led];decide)];refine Vb (Vb ?_);have e2:(if w.params.followText "set-order" =true then slot else t.place.getD i 0+1)=t.place.getD i 0+1:=if_neg (by rw[e];decide);rw[e2] at h;have psz:t.place.size=es.size:=by have:=hf;simp only[SetTable.fits,Bool.and_eq_true,beq_iff_eq] at this;exact this.1
  have aL:i<=es.size:=by simpa using hi
  have eb:SetTable.below t.place slot=i:=by
   cases i with
   |zero=>
    have:slot=0:=by
     have cx:rawInt 0=rawInt (slot:Nat):=by simpa using hs
     unfold rawInt at cx;injection cx with q _
     lia
    rw[this];exact qhT iu.1
   |succ i=>
    have:slot=t.place.getD i 0+1:=by
     have cx:rawInt ((t.place.getD i 0+1:Nat):Int)=rawInt (slot:Nat):=by simpa using hs
     unfold rawInt at cx;injection cx with q _
     lia
    rw[this];exact qhU iu.1 (by lia)
  have e3:((es.toList.map (·.2))[i]?.map λv=>(v,t.place.getD i 0+1))=(es[i]?).map λe=>(e.2,t.place.getD i 0+1):=by rw[List.getElem?_map,Array.getElem?_toList,Option.map_map];rfl
  rw[e3] at h;rw[eb];by_cases c:i<es.size
  ·have c1:es[i]? =some es[i]:=by simp[c]
   have c2:t.place[i]? =some (t.place.getD i 0):=by simp[Array.getD,psz,c]
   rw[c1] at h⊢;rw[c2];exact h
  ·have c1:es[i]? =none:=by simp;lia
   rw[c1] at h⊢;exact h
theorem qmQ (hh:A.handled=none) (h: ∀h',(∀b u,s.heap.get? b=some u->h'.get? b=some u)->Q none { s with heap:=h' }):
  wpAny (model prog w) A.in1 (do raiseNew (<-newExc (.type "StopIteration") []):Sem Fin) (λr s'=> ∃v,r=Fin.done (.ret v)/\Q (some v) s') (λe s'=>wpAny (model prog w) A (do if <-isInstance e (.type "StopIteration") then pure none else throw e) Q E s') s:=by refine Va ?_;simp only[newExc,newTuple];refine Va (wpAny_newObj_type ?_ (by size_fits));refine Va (m:=firstArgMember _ _) (wpAny_of_eq (a:=Value.none) (by first|rfl|(simp only[firstArgMember];rfl)) ?_);refine wpAny_newObj_type ?_ (by size_fits);simp only[raiseNew];refine Va (wpAny_handled ?_);rw[show A.in1.handled=none from hh];refine Va (Vb (wpAny_throw ?_));refine Va (wpAny_isInstance (T:= "StopIteration") (b:=true) ⟨_,Vh _ rfl,rfl⟩ isSubtype_stop ?_);exact Vb (h _ λb u q=>Vg _ (Vg _ q))
theorem qgO{i n:Nat}{j:Nat}{h:Heap}(ho:h.get? it=some (qfQ first i a n ep)):(h.update it (Obj.mapFields (·.setIfInBounds j x))).get? it=some { cls:=.type "set_iterator",data:=.fields (#[first,rawInt i,.ref a,rawInt n,rawInt ep].setIfInBounds j x) }:=
 Heap.get?_update_self _ ho rfl
theorem turn{A:Around}{s:Shared}{o:Obj}{es:Array (Int×Value)}{t:SetTable}{vs:List Value}{i:Nat}(hh:A.handled=none)(aZ:a≠it)(dF:it∉tl)(hit:s.heap.get? it=some (qfQ (f i) i a es.size ep))(ho:s.heap.get? a=some o)(hd:o.data= .set es ep t)(hf:t.fits es.size=true)(W:Way w s.heap a es ep t tl f vs)(hv:vs.length=es.size)(hi:i<=vs.length)(h1: ∀v h',vs[i]? =some v->Heap.SameBut it s.heap h'->h'.get? it=some (qfQ (f (i+1)) (i+1) a es.size ep)->Q (some v) { s with heap:=h' })(h0: ∀h',vs[i]? =none->(∀b u,b≠it->s.heap.get? b=some u->h'.get? b=some u)->Q none { s with heap:=h' }):wpAny (model prog w) A (pyNext (.ref it)) Q E s:=by
 have ty:s.TypeIs (.ref it) "set_iterator" :=⟨_,hit,rfl⟩
 unfold pyNext;refine Va (wpAny_attempt (wpAny_callSpecial?_slot (name:=Str.ofString "__next__") ty qbR (wpAny_call_entry qbR ty qhK ?_ (qj1 _))));unfold Builtin.«set_iterator.__next__» slotArgs;refine Va (Vb (Va (wpAny_fieldsOf hit rfl ?_)));refine Va (wpAny_setEntries_of ho hd hf ?_);dsimp only;rw[if_neg (by simp)];have one: ∀(v:Value) (s2:Shared),Q (some v) s2->∃v',Fin.done (Flow.ret v)=Fin.done (Flow.ret v')/\wpAny (model prog w) A (match (Except.ok (some v'):Except Value (Option Value)) with
      |Except.ok (some v)=>pure (some v)
      |Except.ok none=>unsupported "iter:the-iterator's-class-has-lost-its-__next__-amid-the-walk"
      |Except.error e=>do
       let b <-isInstance e (Value.type "StopIteration")
       if b=true then pure none else throw e) Q E s2:=λv s2 q=>⟨v,rfl,Vb q⟩
 have stop: ∀s2:Shared,(∀h',(∀b u,s2.heap.get? b=some u->h'.get? b=some u)->Q none { s2 with heap:=h' })->wpAny (model prog w) A.in1 (do raiseNew (<-newExc (.type "StopIteration") []):Sem Fin) (λfin s'=> ∃v,fin=Fin.done (Flow.ret v)/\wpAny (model prog w) A (match (Except.ok (some v):Except Value (Option Value)) with
      |Except.ok (some v)=>pure (some v)
      |Except.ok none=>unsupported "iter:the-iterator's-class-has-lost-its-__next__-amid-the-walk"
      |Except.error e=>do
       let b <-isInstance e (Value.type "StopIteration")
       if b=true then pure none else throw e) Q E s') (λe s'=>wpAny (model prog w) A (do
       let b <-isInstance e (Value.type "StopIteration")
       if b=true then pure none else throw e) Q E s') s2:=λs2 q=>Vc (qmQ (Q:=Q) (E:=E) hh q) (λr s' ⟨v,e,q'⟩=>⟨v,e,Vb q'⟩) λ_ _ z=>z
 have cJ: ∀slot:Nat,f i=rawInt (slot:Nat)->(∀v,vs[i]? =some v->f (i+1)=rawInt ((if w.params.followText "set-order" =true then slot else t.place.getD i 0+1:Nat):Int))->
   wpAny (model prog w) A.in1 (do
    let r <-setNext a ((slot:Nat):Int).toNat ((i:Nat):Int).toNat ((ep:Nat):Int).toNat
    match r with
     |some (x,next)=>do
      setField (Value.ref it) 0 (rawInt (next:Nat))
      setField (Value.ref it) 1 (rawInt ((i:Nat)+1))
      ret x
     |none=>do
      setField (Value.ref it) 2 Value.none
      let e <-newExc (Value.type "StopIteration") []
      raiseNew e) (λfin s'=> ∃v,fin=Fin.done (Flow.ret v)/\wpAny (model prog w) A (match(Except.ok (some v):Except Value (Option Value)) with
      |Except.ok (some v)=>pure (some v)
      |Except.ok none=>unsupported "iter:the-iterator's-class-has-lost-its-__next__-amid-the-walk"
      |Except.error e=>do
       let b <-isInstance e (Value.type "StopIteration")
       if b=true then pure none else throw e) Q E s') (λe s'=>wpAny (model prog w) A (do
       let b <-isInstance e (Value.type "StopIteration")
       if b=true then pure none else throw e) Q E s') s:=λslot hs ic=>by
  rw[Int.toNat_natCast,Int.toNat_natCast,Int.toNat_natCast];refine Va (qnH (slot:=slot) ho hd hf W hs hi ?_);cases q:vs[i]? with
  |some v=>dsimp only[Option.map];refine Va (wpAny_setField (i:=0) hit rfl (by simp) ?_);refine Va (wpAny_setField (i:=1) (qgO hit) rfl (by simp) (Vb (one v _ (h1 v _ q ((Heap.SameBut.update ..).trans (Heap.SameBut.update ..)) ?_))));rw[ic v q];exact Heap.get?_update_self _ (qgO hit) rfl
  |none=>dsimp only[Option.map];refine Va (wpAny_setField (i:=2) hit rfl (by simp) (stop _ λh' kp=>h0 h' q λb u hb e=>kp b u ?_));exact(Vj _ _ (Ne.symm hb)).trans e
 cases id W with
 |drawn et dt bd=>
  rename_i tp ot pl k;show wpAny _ _ (seqItems? (.ref tp)>>=_) _ _ _;refine Va (wpAny_seqItems et dt ?_);dsimp only;rw[Int.toNat_natCast];cases q:pl[i]? with
  |some j=>
   have e1:(List.toArray (pl.map λ(i:Nat)=>rawInt i))[i]? =some (rawInt (j:Nat)):=by simp[q]
   rw[e1];have hj:=bd j (Vv q);show wpAny _ _ (setNextDrawn a ((j:Nat):Int).toNat ((ep:Nat):Int).toNat>>=_) _ _ _;rw[Int.toNat_natCast,Int.toNat_natCast];have ej:es[j]? =some es[j]:=by simp[hj]
   refine Va ?_;unfold setNextDrawn;refine Va (wpAny_setState_of ho hd hf ?_);dsimp only;rw[if_neg (by simp),ej];refine Vb ?_;have ev:(pl.map λi=>(es.toList.map (·.2)).getD i Value.none)[i]? =some es[j].2:=by rw[List.getElem?_map,q];simp[hj]
   exact Va (wpAny_setField hit rfl (by simp) (Vb (one _ _ (h1 _ _ ev (Heap.SameBut.update ..) (qgO hit)))))
  |none=>
   have e1:(List.toArray (pl.map λ(i:Nat)=>rawInt i))[i]? =none:=by simp[List.getElem?_eq_none_iff.mp q]
   rw[e1];have ev:(pl.map λi=>(es.toList.map (·.2)).getD i Value.none)[i]? =none:=by rw[List.getElem?_map,q];rfl
   refine Va (wpAny_setField hit rfl (by simp) ?_);refine Va (wpAny_setField (qgO hit) rfl (by simp) (stop _ λh' kp=>h0 h' ev λb u hb e=>kp b u ?_));exact(Vj _ _ (Ne.symm hb)).trans ((Vj _ _ (Ne.symm hb)).trans e)
 |text e=>exact cJ 0 rfl λv _=>by rw[if_pos e];rfl
 |small e hn hl iu=>
  cases i with
  |zero=>exact cJ 0 rfl λv _=>by rw[if_neg (by rw[e];decide)];rfl
  |succ i=>
   have:=cJ (t.place.getD i 0+1) rfl λv _=>by rw[if_neg (by rw[e];decide)];rfl
   exact this
end
theorem qe9:entryFor table "set_iterator.__iter__" =some Builtin.«dict_keyiterator.__iter__» :=
 entryFor_alias (id':= "dict_keyiterator.__iter__") (by kernel_rfl) rfl (by decide+kernel) (by kernel_rfl)
theorem qga(a:Value):argsOk "set_iterator.__iter__" ⟨[a],[]⟩:=by unfold argsOk;kernel_rfl
section
def qwj(w:World)(it a:Addr)(o:Obj)(es:Array (Int×Value))(ep:Nat)(t:SetTable)(tl:List Addr)(f:Nat->Value)(vs:List Value)(i:Nat)(h:Heap):Prop:=h.get? it=some (qfQ (f i) i a es.size ep)/\h.get? a=some o/\Way w h a es ep t tl f vs/\i<=vs.length
theorem qrZ(hh:A.handled=none)(aZ:a≠it)(dF:it∉tl)(hd:o.data= .set es ep t)(hf:t.fits es.size=true)(hv:vs.length=es.size):Walks prog w A it (it::a::tl) [it] vs.length (λi v=>vs[i]? =some v) (qwj w it a o es ep t tl f vs) where
 sub:=λb hb=>by rw[List.mem_singleton.mp hb];exact Vk
 frame:=λi h h' st k=>⟨k it Vk _ st.1,k a (Vl _ Vk) _ st.2.1,st.2.2.1.keep λb hb u e=>k b (Vl _ (Vl _ hb)) u e,st.2.2.2⟩
 item:=λi s Q E hi st hQ=>by
  refine turn hh aZ dF st.1 st.2.1 hd hf st.2.2.1 hv st.2.2.2 (λv h' ev sb g=> ?_) λh' ev _=> ?_
  ·have e:s={ s with toks:=s.toks }:=rfl;refine hQ v h' s.toks ev ⟨g,(sb.2 a aZ).trans st.2.1,st.2.2.1.keep λb hb u q=>(sb.2 b (λz=>dF (by rw[<-z];exact hb))).trans q,hi⟩ λb u hb q=>(sb.2 b (λz=>hb (by rw[z];exact List.mem_singleton.mpr rfl))).trans q
  ·rw[List.getElem?_eq_getElem hi] at ev;cases ev
 done:=λs Q E st hQ=>by
  refine turn hh aZ dF st.1 st.2.1 hd hf st.2.2.1 hv st.2.2.2 (λv h' ev sb g=> ?_) λh' ev kp=> ?_
  ·rw[List.getElem?_eq_none_iff.mpr (Nat.le_refl _)] at ev;cases ev
  ·exact hQ h' s.toks λb u hb q=>kp b u (λz=>hb (by rw[z];exact List.mem_singleton.mpr rfl)) q
 self:=λi s Q E st hQ=>by
  have ty:s.TypeIs (.ref it) "set_iterator" :=⟨_,st.1,rfl⟩
  refine wpAny_pyIter_slot ty qeC (wpAny_call_entry qeC ty qe9 ?_ (qga _));show wpAny _ _ (ret (.ref it)) _ _ s;exact Vb ⟨_,rfl, "set_iterator",_,ty,qbR.lookup,hQ⟩
end
section
theorem qij:splitId "set.__len__" =some ("set", "__len__"):=by decide+kernel
theorem qqz(hc:c=true)(h:wpAny M A x Q E s):wpAny M A (if c=true then x else y) Q E s:=by rw[if_pos hc];exact h
theorem qta(hc:c=false)(h:wpAny M A y Q E s):wpAny M A (if c=true then x else y) Q E s:=by rw[if_neg (by rw[hc];decide)];exact h
theorem qf5 (hh:A.handled=none) (ho:s.heap.get? a=some o) (hx:o.ExactSet) (hd:o.data= .set es ep t) (hf:t.fits es.size=true) (hb:es.size<scanBound) (pl:qdn t) (ld:t.led= !w.params.followText "set-order") (h: ∀(vs:List Value) (h':Heap) (d:Drawn) (tk:Nat),List.Perm vs (es.toList.map (·.2))->(∀b u,s.heap.get? b=some u->h'.get? b=some u)->Q vs { s with heap:=h',drawn:=d,toks:=tk }):wpAny (model prog w) A (collect (.ref a)) Q E s:=by
 have ha:=Vi ho;unfold collect;refine Va (wpAny_runValue (codeAny_builtin F.entry_proto_collect ?_));rw[Around.under_plainId F.plain_proto_collect _];refine Va (wpAny_newObj_type ?_ (by size_fits));refine Vb ⟨plainId_quiet F.plain_list_iadd _,codeAny_builtin F.entry_list_iadd ?_⟩;rw[Around.under_plainId F.plain_list_iadd _];have hL:(s.heap.push { cls:=.type "list",data:=.seq ([]:List Value).toArray }).get? s.heap.objs.size=some { cls:=.type "list",data:=.seq ([]:List Value).toArray }:=Vh _ rfl;have b7:(s.heap.push { cls:=.type "list",data:=.seq ([]:List Value).toArray }).get? a=some o:=Vg _ ho;have ty:({ s with heap:=s.heap.push { cls:=.type "list",data:=.seq ([]:List Value).toArray } }:Shared).TypeIs (.ref a) "set" :=⟨o,b7,hx.1⟩
 show wpAny _ A.in1 (Builtin.List.listExtendWith (.ref s.heap.objs.size) (.ref a) (.ref s.heap.objs.size)) _ _ _;unfold Builtin.List.listExtendWith;refine Va (wpAny_typeOf ty ?_);have ns:Builtin.List.listSameRef (.ref s.heap.objs.size) (.ref a)=false:=by simp[Builtin.List.listSameRef];exact(Vp ha).symm
 rw[if_neg (by rw[ns];decide)];refine Va (qlc (s:={ s with heap:=s.heap.push { cls:=.type "list",data:=.seq ([]:List Value).toArray } }) b7 hx hd hf hb pl ld λit h1 d tl f vs hit dF kp g W pm=> ?_);have gG:({ s with heap:=h1,drawn:=d }:Shared).TypeIs (.ref a) "set" :=⟨o,kp _ _ b7,hx.1⟩
 refine Va (wpAny_holding ?_);unfold Builtin.List.listLengthHint;refine Va (wpAny_specialOf gG F.slot_set_len.lookup ?_);dsimp only;rw[qij];dsimp only;refine Va (wpAny_isInstance (b:=true) gG (by rw[isSubtype_type];kernel_rfl) ?_);refine qta rfl (qqz (by decide+kernel) ?_);refine Va (wpAny_typeOf gG (Vb ?_));refine qqz (by decide+kernel) ?_;refine Va (wpAny_rule ?_);have g1:h1.get? s.heap.objs.size=some { cls:=.type "list",data:=.seq ([]:List Value).toArray }:=kp _ _ hL;refine Va ?_;show wpAny _ A.in1 (updateSeq s.heap.objs.size (·.push .none)>>=λ_=>updateSeq s.heap.objs.size (·.pop)) _ _ _;refine Va (wpAny_updateSeq g1 rfl ?_);have g2:=Heap.get?_update_self (Obj.mapSeq (·.push Value.none)) g1 rfl;refine wpAny_updateSeq g2 rfl ?_;have g3:=Heap.get?_update_self (Obj.mapSeq (·.pop)) g2 rfl
 have fR: ∀b u,b≠s.heap.objs.size->h1.get? b=some u->((h1.update s.heap.objs.size (Obj.mapSeq (·.push Value.none))).update s.heap.objs.size (Obj.mapSeq (·.pop))).get? b=some u:=
  λb u hb e=>(Vj _ _ (Ne.symm hb)).trans ((Vj _ _ (Ne.symm hb)).trans e)
 have fN:s.heap.objs.size<({ s with heap:=s.heap.push { cls:=.type "list",data:=.seq ([]:List Value).toArray } }:Shared).heap.objs.size:=by show _<(s.heap.push _).objs.size;rw[Heap.size_push];exact Wb _
 have eU:it≠s.heap.objs.size:=λz=>by rw[z] at hit;exact absurd (Vn fN hit) (Nat.lt_irrefl _)
 have nia:a≠it:=λz=>by rw[<-z] at hit;exact absurd (Vn (Nat.lt_trans ha fN) hit) (Nat.lt_irrefl _)
 have ntl:it∉tl:=λz=>(dF it z).2 rfl;have lt:s.heap.objs.size∉(it::a::tl):=λz=>by
  rcases List.mem_cons.mp z with z|z
  ·exact eU z.symm
  ·rcases List.mem_cons.mp z with z|z
   ·exact absurd ha (by rw[<-z];exact Nat.lt_irrefl _)
   ·exact absurd (Vn fN (dF _ z).1) (Nat.lt_irrefl _)
 have lv:vs.length=es.size:=by rw[pm.length_eq];simp
 have hh2:A.in1.handled=none:=hh;have Wk:=qrZ (prog:=prog) (w:=w) (A:=A.in1) (f:=f) hh2 nia ntl hd hf lv;refine Vb ⟨plainId_quiet F.plain_extend_loop _,codeAny_extend_loopS Wk.toS (by rw[lv];exact fits_of_scanBound hb) _ lt _ vs.length 0 _ _ _ rfl (Nat.zero_le _) ?_ g3 (ItemsOf.nil _) λs' bU c' hm hS' d7=> ?_⟩
 ·exact⟨fR _ _ eU g,fR _ _ (Vp ha) (kp _ _ b7),W.keep λb aR u e=>fR b u (λz=>lt (by rw[<-z];exact Vl _ (Vl _ aR))) e,Nat.zero_le _⟩
 ·show wpAny _ A (load s.heap.objs.size>>=_) _ _ s';refine Va (wpAny_load hS' (Vb ?_));have ev:bU.toList=vs:=by
   apply List.ext_getElem?;intro j;by_cases hj:j<vs.length
   ·have h2:j<bU.size:=by rw[d7.1];exact hj
    have:=d7.2 j bU[j] (by simp[h2]);rw[this];simp[h2]
   ·have q1:bU.toList[j]? =none:=List.getElem?_eq_none_iff.mpr (by rw[Array.length_toList,d7.1];lia);have q2:vs[j]? =none:=List.getElem?_eq_none_iff.mpr (by lia);rw[q1,q2]
  rw[ev];obtain⟨hh',gg,dd,tk,os⟩:=s';have e1:gg=s.gens:=hm.gens;have e2:dd=d:=hm.drawn;have e3:os=s.os:=hm.os;subst e1 e2 e3;refine h vs hh' dd tk pm λb u e=> ?_;have nb:b<s.heap.objs.size:=Vi e;refine hm.heap b u (λz=> ?_) (fR b u (Vp nb) (kp b u (Vg _ e)))
  rcases List.mem_cons.mp z with z|z
  ·exact absurd nb (by rw[z];exact Nat.lt_irrefl _)
  ·rw[List.mem_singleton.mp z] at nb;exact absurd (Vn (Nat.lt_trans nb fN) hit) (Nat.lt_irrefl _)
end
section
variable {K:Type}[DecidableEq K]
def mem(key:Nat->K)(i:Nat)(k:K):Bool:=(List.range i).any λj=>decide (k=key j)
def cnt(key:Nat->K):Nat->Nat
 |0=>0
 |i+1=>if mem key i (key i)=true then cnt key i else cnt key i+1
theorem qgG(key:Nat->K)(i:Nat)(k:K):mem key (i+1) k=(mem key i k||decide (k=key i)):=by unfold mem;rw[List.range_succ,List.any_append];simp
theorem qmu(key:Nat->K): ∀i,cnt key i<=i
 |0=>Vm _
 |i+1=>by
  have:=qmu key i;unfold cnt
  split<;>lia
end
section
variable [DecidableEq K]
theorem qqh {knd:KeyKind prog w K} {A:Around} (W:WalksS prog w A.in1 I fp wr G n P Sx) (S:Addr) (jt:S∉fp) (key:Nat->K) (dA: ∀i v,P i v->knd.is (key i) v=true/\v.scannable=true) (hb:n+1<scanBound):
  ∀(k i:Nat) (s:Shared),n - i=k->i<=n->Sx i s->qhY knd s.heap S (mem key i) (cnt key i)->(∀s',Moved (S::wr) G s s'->qhY knd s'.heap S (mem key n) (cnt key n)->R (.ok (.ret .none)) s')->
   codeAny (model prog w) A (.builtin "set.update.loop" ⟨[.ref S,.ref I],[]⟩) R s:=by
 have nw:S∉wr:=λz=>jt (W.sub _ z);have sub: ∀b∈wr,b∈S::wr:=λb z=>Vl _ z;intro k
 induction k with
 |zero=>
  intro i s hk hi st hS fin;obtain rfl:i=n:=by lia
  refine codeAny_builtin PyProof.Rows.F.entry_set_update_loop ?_;rw[Around.under_plainId PyProof.Rows.F.plain_set_update_loop _];refine Va (W.done s _ _ st λs' mv=>Vb (fin s' (mv.mono sub) (hS.keep λo e=>mv.heap S o nw e)))
 |succ k ih=>
  intro i s hk hi st hS fin;have lt:i<n:=by lia
  refine codeAny_builtin PyProof.Rows.F.entry_set_update_loop ?_;rw[Around.under_plainId PyProof.Rows.F.plain_set_update_loop _];refine Va (W.item i s _ _ lt st λv s' hP ba mv=> ?_);obtain⟨v1,v2⟩:=dA i v hP;refine Va (wpAny_holding ?_);unfold setAdd;refine wpAny_holding (Va (knd.pyHash (k:=key i) v1 ?_));have cl:=qmu key i;refine qt6 (knd:=knd) (s:={ s' with toks:=s'.toks+1 }) v1 v2 (hS.keep λo e=>mv.heap S o nw e) (by lia) λh' sb S2=> ?_;refine Vb ⟨plainId_quiet PyProof.Rows.F.plain_set_update_loop _,ih (i+1) _ (by lia) lt (W.frame _ s' _ _ ba (Wc _) λb aR o e=> ?_) ?_ λs'' mv2 S3=> ?_⟩
  ·rw[sb.2 b λz=>jt (by rw[<-z];exact aR)];exact e
  ·obtain⟨o,es,ep,t,a1,a2,a3,a4,a5,a6,a7,a8,a9,a10⟩:=S2;exact⟨o,es,ep,t,a1,a2,a3,a4,λk'=>by rw[qgG];exact a5 k',a6,a7,a8,a9,a10⟩
  ·refine fin s'' (Moved.trans W.gtrans ((mv.mono sub).then_heap (Wc _) λb o aR e=> ?_) mv2) S3;rw[sb.2 b λz=>aR (by rw[z];exact Vk)];exact e
end
section
variable [DecidableEq K]
theorem qnI (x:Value) (h:Q₁ (.ref s.heap.objs.size) { s with heap:=s.heap.push { cls:=.type "set",dict:=none,data:=.set #[] 0 (.fresh 0 0 (!w.params.followText "set-order")) } }):
  codeAny (model prog w) A (.call (.builtin "set.__new__") ⟨[.type "set",x],[]⟩) (PySem.wants Q₁ E) s:=by
 refine codeAny_of_tree ?_;show wpAny _ A.in1 (do checkBuiltinCall "set.__new__" ⟨[.type "set",x],[]⟩;again (.builtin "set.__new__" ⟨[.type "set",x],[]⟩)) _ _ s;refine Va (wpAny_of_eq (F.newCall_set_1 x) (Vb ⟨plainId_quiet F.plain_set_new _,codeAny_builtin F.entry_set_new ?_⟩));rw[Around.under_plainId F.plain_set_new _];unfold Builtin.«set.__new__»;unfold Builtin.Frozenset.newClass;have sb:=PySem.sub_set_self;obtain⟨hp,g,d,tk,os⟩:=s;dsimp only
 wp_walk
 exact wpAny_askSetting (Vb (by
  dsimp only;simp only[newObj];exact Va (wpAny_alloc (Vb (Vb h)))))
set_option maxHeartbeats 8000000 in
theorem qrt {knd:KeyKind prog w K} {A:Around} {s:Shared} {items:Array Value} (hh:A.handled=none) (hl:s.heap.IsList l items) (dA: ∀i v,items[i]? =some v->knd.is (key i) v=true/\v.scannable=true) (hb:items.size+1<scanBound) (h: ∀(h':Heap) (tk:Nat),qhY knd h' s.heap.objs.size (mem key items.size) (cnt key items.size)->(∀b o,s.heap.get? b=some o->h'.get? b=some o)->Q (.ref s.heap.objs.size) { s with heap:=h',toks:=tk }):
  wpAny (model prog w) A (call (.type "set") [.ref l]) Q E s:=by
 obtain⟨c,tl,mro⟩:=F.called_set.mro;have md:=F.called_set.made;have sb:=F.called_set.sub;refine wpAny_call (codeAny_of_tree ?_);show wpAny _ _ (callAny (.type "set") _) _ _ _;refine Vb ⟨Code.quiet_builtin _ (by decide+kernel),codeAny_builtin F.entry_type_call ?_⟩;rw[Around.under_plain (weight_type_call_type "set" [.ref l] []) rfl];have q1:=F.called_set.notType;have q2:=F.called_set.canCreate;have q3:=F.typeCall_set_1 (.ref l)
 repeat (any_goals(first|assumption|wp_step))
 refine codeAny_mono (qnI (.ref l) (E:=E) (Q₁:=λv s1=>v= .ref s.heap.objs.size/\s1={ s with heap:=s.heap.push { cls:=.type "set",dict:=none,data:=.set #[] 0 (.fresh 0 0 (!w.params.followText "set-order")) } }) ⟨rfl,rfl⟩) λr s1 hr=> ?_;cases r with
 |error e=>exact hr
 |ok fl=>cases fl with
  |ret obj=>
   obtain⟨rfl,rfl⟩:=hr;have gS:(s.heap.push { cls:=.type "set",dict:=none,data:=.set #[] 0 (.fresh 0 0 (!w.params.followText "set-order")) }).get? s.heap.objs.size=some { cls:=.type "set",dict:=none,data:=.set #[] 0 (.fresh 0 0 (!w.params.followText "set-order")) }:=Vh _ rfl;have tS:Shared.TypeIs { s with heap:=s.heap.push { cls:=.type "set",dict:=none,data:=.set #[] 0 (.fresh 0 0 (!w.params.followText "set-order")) } } (.ref s.heap.objs.size) "set" :=⟨_,gS,rfl⟩
   have li:=F.called_set.init.lookup;have bi:=F.called_set.init.bind (.ref s.heap.objs.size)
   repeat (any_goals(first|assumption|wp_step))
   refine codeAny_mono (codeAny_call_builtin (R:=PySem.wants (λr s2=>r= .none/\∃h' tk,s2={ s with heap:=h',toks:=tk }/\qhY knd h' s.heap.objs.size (mem key items.size) (cnt key items.size)/\∀b o,s.heap.get? b=some o->h'.get? b=some o) E) F.called_set.init.plain F.entry_set_init (PySem.check_set_init_1 tS ?_)) λr2 s2 hW=> ?_
   ·obtain⟨⟨oc,od,odt,osl⟩,gl,cl,nl,dl⟩:=hl;simp only at cl dl;subst cl dl;have gl':(s.heap.push { cls:=.type "set",dict:=none,data:=.set #[] 0 (.fresh 0 0 (!w.params.followText "set-order")) }).get? l=some { cls:=.type "list",dict:=od,data:=.seq items nl,slots:=osl }:=Vg _ gl;have u1:=F.sub_list_set;have u2:=F.sub_list_frozenset;have u3:(Value.type "list" ==Value.type "dict")=false:=by decide
    have l1:(s.heap.push { cls:=.type "set",dict:=none,data:=.set #[] 0 (.fresh 0 0 (!w.params.followText "set-order")) }).IsList l items:=⟨_,gl',rfl,nl,rfl⟩
    unfold Builtin.«set.__init__» noKeywords;unfold Builtin.Frozenset.updateFrom;generalize pie:pyIter=PI
    wp_walk
    subst pie;refine Vf l1 (Va (wpAny_runValue ?_));have lS:l<s.heap.objs.size:=Vi gl;have sz:(s.heap.push { cls:=.type "set",dict:=none,data:=.set #[] 0 (.fresh 0 0 (!w.params.followText "set-order")) }).objs.size=s.heap.objs.size+1:=Heap.size_push ..;have n1:l≠(s.heap.push { cls:=.type "set",dict:=none,data:=.set #[] 0 (.fresh 0 0 (!w.params.followText "set-order")) }).objs.size:=by rw[sz];exact Vp (Nat.lt_succ_of_lt lS)
    have n2:s.heap.objs.size∉[(s.heap.push { cls:=.type "set",dict:=none,data:=.set #[] 0 (.fresh 0 0 (!w.params.followText "set-order")) }).objs.size,l]:=λz=>by
     rw[sz] at z
     rcases List.mem_cons.mp z with z|z
     ·exact absurd z (Vp (Wb _))
     ·exact absurd (List.mem_singleton.mp z) (Nat.ne_of_gt lS)
    have gj:A.in1.in1.in1.handled=none:=hh;refine qqh (knd:=knd) ((Walks.list gj _ l n1 items).toS) s.heap.objs.size n2 key (λi v hv=>dA i v hv) hb (items.size - 0) 0 _ (by lia) (Nat.zero_le _) ⟨⟨_,Vh _ rfl,rfl,rfl⟩,l1.push _⟩ ?_ λs' mv S'=> ?_
    ·exact⟨_, #[],0,_,Vg _ gS,⟨rfl,rfl,rfl⟩,rfl,λe he=>by simp at he,λk=>by simp[mem],by decide,by rfl,rfl,qhv _ _ _,rfl⟩
    ·obtain⟨h',g',d',cK,gM⟩:=s';have e1:g'=s.gens:=mv.gens;have e2:d'=s.drawn:=mv.drawn;have e3:gM=s.os:=mv.os;subst e1 e2 e3;refine Vb (Vb ⟨rfl,h',cK,rfl,S',λb o e=> ?_⟩);have lb:=Vi e;refine mv.heap b o (λz=> ?_) (Vg _ (Vg _ e))
     rcases List.mem_cons.mp z with z|z
     ·exact absurd z (Vp lb)
     ·have z':=List.mem_singleton.mp z;rw[sz] at z';exact absurd z' (Vp (Nat.lt_succ_of_lt lb))
   ·cases r2 with
    |error e=>exact hW
    |ok f2=>cases f2 with
     |ret r=>
      obtain⟨rfl,h',tk,rfl,S',kp⟩:=hW
      repeat (any_goals(first|assumption|wp_step))
      exact h _ _ S' kp
     |_=>exact hW.elim
  |_=>exact hr.elim
end
end SetL
namespace SR
theorem qkw{α:Type}{P:List α->Prop}(h0:P [])(hs: ∀l a,P l->P (l++[a])): ∀l,P l:=by
 intro l;have: ∀r:List α,P r.reverse:=by
  intro r
  induction r with
  |nil=>exact h0
  |cons a r ih=>rw[List.reverse_cons];exact hs _ _ ih
 rw[<-List.reverse_reverse l];exact this _
section
variable {κ:Type}[DecidableEq κ]
abbrev T4(κ:Type):=Int×κ×Int×Int
def cpl(a r:T4 κ):T4 κ:=if r.2.2.2=0 then(r.1,r.2.1,r.2.2.1,a.2.2.1) else(r.1,r.2.1,a.2.2.1,r.2.2.1)
def hit(w:Int)(r a:T4 κ):Bool:=decide (r.1 - a.1<=w)&&(decide (a.2.2.2≠r.2.2.2)&&decide (a.2.1=r.2.1))
def qqu(w:Int)(s:List (T4 κ)×List (T4 κ))(r:T4 κ):List (T4 κ)×List (T4 κ):=(s.1++[r],s.2++(s.1.filter (hit w r)).map λa=>cpl a r)
def jo(w:Int)(M:List (T4 κ)):List (T4 κ):=(M.foldl (qqu w) ([],[])).2
end
section
variable {κ:Type}[DecidableEq κ]
abbrev R3(κ:Type):=Int×κ×Int
def un(t:T4 κ):R3 κ:=(t.1,t.2.1,t.2.2.1)
def keyIs(k:κ):R3 κ->Bool:=λr=>decide (r.2.1=k)
end
theorem qeZ{α:Type}{k k':α->Int}{r:α}(hr:k r=k' r): ∀l:List α,(∀x∈l,k x=k' x)->ins k r l=ins k' r l
 |[],_=>rfl
 |x::l,h=>by
  show(if k x<=k r then x::ins k r l else r::x::l)=(if k' x<=k' r then x::ins k' r l else r::x::l)
  rw[hr,h x List.mem_cons_self,qeZ hr l λy hy=>h y (List.mem_cons_of_mem _ hy)]
theorem srt_congr{α:Type}{k k':α->Int}(l:List α):(∀x∈l,k x=k' x)->srt k l=srt k' l:=by refine qkw (P:=λl=>(∀x∈l,k x=k' x)->srt k l=srt k' l) (λ_=>rfl) (λl a ih h=> ?_) l;rw[qdS,qdS,ih λx hx=>h x (List.mem_append_left _ hx)];exact qeZ (h a (Vu _ Vk)) _ λx hx=>h x (Vt _ ((mem_srt _).mp hx))
end SR
namespace RH
open PySem PySem.Spec PyProof.Rows L2 SR
def ltS(x y:Str):Bool:=decide (x.cps.toList<y.cps.toList)
theorem qo6{x y:Str}(h:x.cps.toList=y.cps.toList):x=y:=by
 cases x;cases y
 congr 1
 exact Array.toList_inj.mp h
theorem ordS:Ord ltS where
 irr:=λa=>Vy (List.lt_irrefl _)
 tr:=λa b c h1 h2=>Vx (List.lt_trans (of_decide_eq_true h1) (of_decide_eq_true h2))
 tot:=λa b h1 h2=>qo6 (List.le_antisymm (List.not_lt.mp (of_decide_eq_false h2)) (List.not_lt.mp (of_decide_eq_false h1)))
def ltI(a b:Int):Bool:=decide (a<b)
def ltP{α β:Type}[DecidableEq α](f:α->α->Bool)(g:β->β->Bool)(x y:α×β):Bool:=if x.1=y.1 then g x.2 y.2 else f x.1 y.1
end RH
namespace SetL
section
variable {α:Type}[DecidableEq α]
def dd:List α->List α
 |[]=>[]
 |x::xs=>if x∈dd xs then dd xs else x::dd xs
theorem mem_dd{x:α}: ∀{l:List α},x∈dd l↔x∈l
 |[]=>Iff.rfl
 |y::l=>by
  have ih:=mem_dd (x:=x) (l:=l);show x∈(if y∈dd l then dd l else y::dd l)↔_;by_cases c:y∈dd l
  ·rw[if_pos c,ih,List.mem_cons];refine⟨.inr,λh=> ?_⟩
   rcases h with rfl|h
   ·exact ih.mp c
   ·exact h
  ·rw[if_neg c,List.mem_cons,List.mem_cons,ih]
theorem nodup_dd: ∀l:List α,(dd l).Nodup
 |[]=>List.nodup_nil
 |y::l=>by
  show(if y∈dd l then dd l else y::dd l).Nodup;by_cases c:y∈dd l
  ·rw[if_pos c];exact nodup_dd l
  ·rw[if_neg c];exact List.nodup_cons.mpr ⟨c,nodup_dd l⟩
theorem qlv: ∀l:List α,(dd l).length<=l.length
 |[]=>Vm _
 |y::l=>by
  have ih:=qlv l;show(if y∈dd l then dd l else y::dd l).length<=_;split
  ·exact Nat.le_succ_of_le ih
  ·exact Nat.succ_le_succ ih
theorem qcS: ∀{D L:List α},D.Nodup->(∀x∈D,x∈L)->L.length=D.length->List.Perm L D
 |[],L,_,_,hl=>by rw[List.length_eq_zero_iff.mp hl]
 |d::D,L,hn,hm,hl=>by
  have hd:=hm d Vk;have gc:=List.nodup_cons.mp hn;refine(List.perm_cons_erase hd).trans (List.Perm.cons d (qcS gc.2 (λx hx=> ?_) ?_))
  ·have ne:x≠d:=λz=>by subst z;exact gc.1 hx
   refine(List.mem_erase_of_ne ne).mpr (hm x (Vl _ hx))
  ·rw[List.length_erase_of_mem hd,hl];rfl
def dl(key:Nat->α):Nat->List α
 |0=>[]
 |i+1=>if mem key i (key i)=true then dl key i else dl key i++[key i]
theorem qmo(key:Nat->α): ∀i,(dl key i).length=cnt key i
 |0=>rfl
 |i+1=>by
  have ih:=qmo key i;show(if mem key i (key i)=true then dl key i else dl key i++[key i]).length=if mem key i (key i)=true then cnt key i else cnt key i+1
  split
  ·exact ih
  ·rw[List.length_append,ih];rfl
theorem qiS(key:Nat->α)(x:α): ∀i,x∈dl key i↔mem key i x=true
 |0=>by simp[dl,mem]
 |i+1=>by
  have ih:=qiS key x i;rw[qgG];show x∈(if mem key i (key i)=true then dl key i else dl key i++[key i])↔_;by_cases c:mem key i (key i)=true
  ·rw[if_pos c,ih];simp only[Bool.or_eq_true,decide_eq_true_eq];refine⟨.inl,λh=> ?_⟩
   rcases h with h|rfl
   ·exact h
   ·exact c
  ·rw[if_neg c,List.mem_append,ih];simp
theorem qgF(key:Nat->α): ∀i,(dl key i).Nodup
 |0=>List.nodup_nil
 |i+1=>by
  have ih:=qgF key i;show(if mem key i (key i)=true then dl key i else dl key i++[key i]).Nodup;by_cases c:mem key i (key i)=true
  ·rw[if_pos c];exact ih
  ·rw[if_neg c,List.nodup_append];refine⟨ih,by simp,λa ha b hb=> ?_⟩;rw[List.mem_singleton] at hb;subst hb;intro z;subst z;exact c ((qiS key _ i).mp ha)
theorem qgH{l:List α}:mem (λi=>l.getD i d) l.length x=true↔x∈l:=by
 unfold mem;rw[List.any_eq_true];constructor
 ·rintro⟨j,hj,e⟩;have c9:=List.mem_range.mp hj;have e':=of_decide_eq_true e;rw[e'];show l.getD j d∈l;rw[List.getD_eq_getElem?_getD,List.getElem?_eq_getElem c9];exact List.getElem_mem c9
 ·intro h;obtain⟨j,hj,e⟩:=List.mem_iff_getElem.mp h;refine⟨j,List.mem_range.mpr hj,Vx ?_⟩;show x=l.getD j d;rw[List.getD_eq_getElem?_getD,List.getElem?_eq_getElem hj];exact e.symm
theorem qtK{l:List α}:List.Perm (dl (λi=>l.getD i d) l.length) (dd l):=
 (List.perm_ext_iff_of_nodup (qgF _ _) (nodup_dd _)).mpr λx=>by rw[qiS,qgH,mem_dd]
theorem qjD{l:List α}:cnt (λi=>l.getD i d) l.length=(dd l).length:=by rw[<-qmo,qtK.length_eq]
end
open PySem PySem.W PySem.Calls PyProof.Rows SR
structure Kd(prog:Program)(w:World)(α:Type)[DecidableEq α] where
 knd:PySem.KeyKind prog w α
 up:α->L2.V
 d:α
 of:Value->α
 lt:α->α->Bool
 ord:Ord lt
 isv: ∀x u,L2.RelV (up x) u->knd.is x u=true/\u.scannable=true
 vis: ∀x u,knd.is x u=true->L2.RelV (up x) u
 ofv: ∀x u,L2.RelV (up x) u->of u=x
 kind: ∀v1 v2 vs,(∀v∈v1::v2::vs,∃x,L2.RelV (up x) v)->keyKind' (v1::v2::vs).toArray=pure oneType'
 lts: ∀{A:Around} {E:Value->Shared->Prop} {s:Shared} {Q:Bool->Shared->Prop} (x y:α) (u v:Value),L2.RelV (up x) u->L2.RelV (up y) v->Q (lt x y) s->wpAny (model prog w) A (keyLt' oneType' u v) Q E s
section
variable {prog:Program}{w:World}{A:Around}{E:Value->Shared->Prop}{s:Shared}{α:Type}[DecidableEq α](k:Kd prog w α)
theorem qlm {h:Heap} {a:Addr} {ss:List α} (S:qhY k.knd h a (mem (λi=>ss.getD i k.d) ss.length) (cnt (λi=>ss.getD i k.d) ss.length)):
  ∃o es ep t,h.get? a=some o/\o.ExactSet/\o.data= .set es ep t/\es.size<scanBound/\t.fits es.size=true/\qdn t/\t.led=(!w.params.followText "set-order")/\es.size=(dd ss).length/\
   (∀v∈es.toList.map (·.2),∃x,L2.RelV (k.up x) v)/\List.Perm ((es.toList.map (·.2)).map k.of) (dd ss):=by
 obtain⟨o,es,ep,t,ho,hx,hd,hel,hme,hb,hf,hn,hp,hl⟩:=S;have hv: ∀v∈es.toList.map (·.2),∃x,L2.RelV (k.up x) v:=λv hv=>by obtain⟨e,he,rfl⟩:=List.mem_map.mp hv;obtain⟨⟨x,hk,_⟩,_⟩:=hel e he;exact⟨x,k.vis x _ hk⟩
 refine⟨o,es,ep,t,ho,hx,hd,hb,hf,hp,hl,by rw[hn,qjD],hv,?_⟩;refine qcS (nodup_dd ss) (λx hx=> ?_) (by rw[List.length_map,List.length_map,Array.length_toList,hn,qjD]);have cR:=mem_dd.mp hx;obtain⟨e,he,ek⟩:=(hme x).mp (qgH.mpr cR);exact List.mem_map.mpr ⟨e.2,List.mem_map.mpr ⟨e,he,rfl⟩,k.ofv x _ (k.vis x _ ek)⟩
theorem qhi (hh:A.handled=none) (S:qhY k.knd s.heap a (mem (λi=>ss.getD i k.d) ss.length) (cnt (λi=>ss.getD i k.d) ss.length)) (aY:ss.length<64) (h: ∀h1 D h' d tk c vs,St.Kp s.heap h1->h1.objs.size<=D->St.Kp h1 h'->h'.get? D=some (seqObj "list" (List.toArray vs) c)->L2.Vals ((sortA k.lt (dd ss)).map k.up) vs->Q (.ref D) { s with heap:=h',drawn:=d,toks:=tk }):
  wpAny (model prog w) A (call (.builtin "sorted") [.ref a]) Q E s:=by
 obtain⟨o,es,ep,t,ho,hx,hd,hb,hf,hp,hl,hn,hv,pm⟩:=qlm k S;refine Calls.call_function_entry kind_sorted plain_sorted entry_sorted (args_sorted1 _) ?_;unfold Builtin.«sorted»;refine Va (m:=checkCount "sorted" 1 1 _) (Vb ?_);refine Va (qf5 (by exact hh) ho hx hd hf hb hp hl λvs H1 d1 eL pv f7=> ?_);have le:vs.length=(dd ss).length:=by rw[pv.length_eq,List.length_map,Array.length_toList,hn]
 have l64:vs.length<64:=by have:=qlv ss;lia
 have bB: ∀v∈vs,∃x,L2.RelV (k.up x) v:=λv z=>hv v (pv.mem_iff.mp z);have pm':List.Perm (vs.map k.of) (dd ss):=(pv.map k.of).trans pm;refine Va (wpAny_newList ?_ (by rw[sizeLine_eq];show vs.length<=_;lia));have bN:St.Kp H1 (H1.push (seqObj "list" vs.toArray 0)):=λb o q=>Vg _ q;have cM:(H1.push (seqObj "list" vs.toArray 0)).get? H1.objs.size=some (seqObj "list" vs.toArray 0):=Vh _ rfl;refine Va (wpAny_holding (wpAny_call_entry slot_list_sort ⟨_,cM,rfl⟩ entry_list_sort ?body (args_list_sort _)))
 case body=>
  have at_: ∀{m:Nat},m<vs.length->L2.RelV (k.up ((vs.map k.of).getD m k.d)) (vs.getD m Value.none)/\(vs.map k.of).getD m k.d∈vs.map k.of:=λ{m} hm=>by
   obtain⟨x,e⟩:=bB vs[m] (List.getElem_mem hm);have e1:(vs.map k.of).getD m k.d=x:=by rw[List.getD_eq_getElem?_getD,List.getElem?_map,List.getElem?_eq_getElem hm];exact k.ofv x _ e
   refine⟨?_,?_⟩
   ·rw[e1,List.getD_eq_getElem?_getD,List.getElem?_eq_getElem hm];exact e
   ·rw[e1];exact List.mem_map.mpr ⟨_,List.getElem_mem hm,k.ofv x _ e⟩
  refine St.lsort_p (h0:=H1) (kz:=(vs.map k.of).map (rank k.lt (vs.map k.of))) (κ:=oneType') (s:={ s with heap:=H1.push (seqObj "list" vs.toArray 0),drawn:=d1,toks:=eL }) cM (by simp) l64 bN (St.get_none (Vm _)) (λs' kk h2 Q' hq=> ?_) (λs' kk i j hi hj C hc=> ?_) λh' tk c p a1 a2 a3=>⟨_,rfl,?_⟩
  ·match vs,h2,bB with
   |v1::v2::vs,_,bB=>rw[k.kind v1 v2 vs bB];exact Vb hq
  ·have e1: ∀{m:Nat},m<vs.length->((vs.map k.of).map (rank k.lt (vs.map k.of))).getD m 0=rank k.lt (vs.map k.of) ((vs.map k.of).getD m k.d):=λ{m} hm=>by
    have hm':m<(vs.map k.of).length:=by rw[List.length_map];exact hm
    rw[List.getD_eq_getElem?_getD,List.getD_eq_getElem?_getD,List.getElem?_map,List.getElem?_eq_getElem hm'];rfl
   obtain⟨f1,m1⟩:=at_ hi;obtain⟨f2,m2⟩:=at_ hj;rw[e1 hi,e1 hj,rank_lt k.ord m1 m2] at hc;exact k.lts _ _ _ _ f1 f2 hc
  ·refine Vb ⟨_,rfl,h _ _ h' d1 tk c _ f7 (Vm _) a1 a3 ?_⟩;have ep:=qcT a2;have e:sortA k.lt (dd ss)=p.toList.map λj=>(vs.map k.of).getD j k.d:=by
    rw[<-sortA_perm k.ord pm',ep,SR.srt_congr (k':=λj=>rank k.lt (vs.map k.of) ((vs.map k.of).getD j k.d)),srt_map (k:=rank k.lt (vs.map k.of)) (f:=λj=>(vs.map k.of).getD j k.d) (λb=>rfl),show vs.length=(vs.map k.of).length by simp,Mir.map_range_getD]
    ·rfl
    ·intro b aR;have gn:b<(vs.map k.of).length:=by rw[List.length_map];exact List.mem_range.mp aR
     rw[List.getD_eq_getElem?_getD,List.getElem?_map,List.getElem?_eq_getElem gn,List.getD_eq_getElem?_getD,List.getElem?_eq_getElem gn];rfl
   rw[e,List.map_map];have go: ∀l:List Nat,(∀j∈l,j<vs.length)->L2.Vals (l.map (k.up∘λj=>(vs.map k.of).getD j k.d)) (l.map λi=>vs.getD i Value.none):=λl=>by
    induction l with
    |nil=>exactλ_=>.nil
    |cons j l ih=>intro hl;exact .cons (at_ (hl j Vk)).1 (ih λi hi=>hl i (Vl _ hi))
   exact go _ λj hj=>(Mir.order_mem a2 j).mp hj
end
def qse:Value->Str
 |.str x _=>x
 |_=> ""
def qqA:Value->Int
 |.int x _=>x
 |_=>0
theorem ordI:Ord λa b:Int=>decide (a<b) where
 irr:=λa=>Vy (Int.lt_irrefl a)
 tr:=λa b c h1 h2=>Vx (Int.lt_trans (of_decide_eq_true h1) (of_decide_eq_true h2))
 tot:=λa b h1 h2=>by have:=of_decide_eq_false h1;have:=of_decide_eq_false h2;lia
def qo7(prog:Program)(w:World):Kd prog w Str where
 knd:=PySem.strKind prog w
 up:=L2.V.str
 d:= ""
 of:=qse
 lt:=RH.ltS
 ord:=RH.ordS
 isv:=λx u ⟨t,e⟩=>by subst e;exact⟨by show Value.isStrOf x (Value.str x t)=true;simp[Value.isStrOf],rfl⟩
 vis:=λx u h=>Value.isStrOf_shape h
 ofv:=λx u ⟨t,e⟩=>by subst e;rfl
 kind:=λv1 v2 vs h=>keyKind_strs (strsAre_map _ λv hv=>by obtain⟨x,t,e⟩:=h v hv;exact⟨x,t,e⟩)
 lts:=λx y u v ⟨t,e⟩ ⟨t',e'⟩ h=>by subst e e';exact W.kas_lt_str h
theorem qcZ: ∀(vs:List Value),(∀v∈vs,∃x t,v= .int x t)->IntsAre vs (vs.map qqA)
 |[],_=>.nil
 |v::vs,h=>by obtain⟨x,t,rfl⟩:=h v Vk;exact .cons _ _ (qcZ vs λu hu=>h u (Vl _ hu))
def qqB(prog:Program)(w:World):Kd prog w Int where
 knd:=PySem.intKind prog w
 up:=L2.V.int
 d:=0
 of:=qqA
 lt:=λa b=>decide (a<b)
 ord:=ordI
 isv:=λx u ⟨t,e⟩=>by subst e;exact⟨by show Value.isInt x (Value.int x t)=true;simp[Value.isInt],rfl⟩
 vis:=λx u h=>Value.isInt_shape h
 ofv:=λx u ⟨t,e⟩=>by subst e;rfl
 kind:=λv1 v2 vs h=>keyKind_ints (qcZ _ λv hv=>by obtain⟨x,t,e⟩:=h v hv;exact⟨x,t,e⟩)
 lts:=λx y u v ⟨t,e⟩ ⟨t',e'⟩ h=>by subst e e';rw[keyLt'_oneType];exact oneLt_int h
end SetL
namespace SetL
open PySem L2 SR
theorem boot_sorted:bootBuiltins "sorted" =some (.builtin "sorted"):=by decide+kernel
theorem qlM:bootBuiltins "set" =some (.type "set"):=by decide+kernel
section
variable {X:Cx}{a:Expr}{t:TE}{p1 p2 p3 pos:Pos}{α:Type}[DecidableEq α](k:Kd X.prog X.w α)
theorem qs6(I:Inv X pins σ H s)(k: ∀b u,s.heap.get? b=some u->h'.get? b=some u):Inv X pins σ H { s with heap:=h',drawn:=d,toks:=tk }:=by have J:=I.kept (t':=tk) k;exact⟨J.ok,J.os,J.bare,J.base,J.loc,J.cell,J.free,J.freeC,J.pin,J.hok,J.len⟩
theorem qmF(ss:List α)(r:Vals (ss.map k.up) is)(i:Nat)(v:Value)(h:is[i]? =some v):RelV (k.up (ss.getD i k.d)) v:=by
 have hl:=r.length;rw[List.length_map] at hl;obtain⟨hi,_⟩:=List.getElem?_eq_some_iff.mp h;have aL:i<ss.length:=by lia
 obtain⟨u,e,ru⟩:=r.get (i:=i) (x:=k.up ss[i]) (by rw[List.getElem?_map,List.getElem?_eq_getElem aL];rfl);rw[h] at e;cases e;rw[List.getD_eq_getElem?_getD,List.getElem?_eq_getElem aL];exact ru
theorem qgj {pins:List (Addr×Obj)} {σ:St} {H:Hp} {s:Shared} {Q:Addr->List α->Hp->Prop} (hc:X.calm=true) (gt:Gl X "set") (mt:X.mg "set" =none) (ha:PE X a t) (bx: ∀σ H (Q Q':VK),(∀v H1,Q v H1->Q' v H1)->t σ H Q->t σ H Q') (he:starEach [a] X.env=(false,eval a X.env)::starEach [] X.env) (I:Inv X pins σ H s) (h:t σ H λv H1=> ∃l ss,v= .ref l/\SqL X.K H1 l (ss.map k.up)/\ss.length<64/\Q l ss H1):
  wpAny (model X.prog X.w) X.A (eval (.Call (.Name "set" p2) [a] [] p3) X.env) (λu s'=> ∃S l ss H1,u= .ref S/\Inv X pins σ H1 s'/\ss.length<64/\qhY k.knd s'.heap S (mem (λi=>ss.getD i k.d) ss.length) (cnt (λi=>ss.getD i k.d) ss.length)/\Q l ss H1) X.xe s:=by
 refine Ve (qb2 I gt mt qlM ?_);refine PyProof.Rows.callWith_type1 ?_ he rfl;refine thn (qca ha qeN he p3 pins s σ H (λvs H1=> ∃l ss,vs=[.ref l]/\SqL X.K H1 l (ss.map k.up)/\ss.length<64/\Q l ss H1) I (bx σ H _ _ (λv H1 ⟨l,ss,e,r⟩=>⟨l,ss,by rw[e],r⟩) h)) λus s1 hZ=> ?_;obtain⟨vs,H1,I1,r1,q1⟩:=hZ;obtain⟨l,ss,rfl,hS,aY,q⟩:=q1;cases r1 with
 |cons r rr=>
  cases rr;cases r;obtain⟨its,rv,pl,hz⟩:=I1.list hS;have hl:=rv.length;rw[List.length_map] at hl;have hh:X.A.handled=none:=I1.ok.hd hc;refine qrt (knd:=k.knd) (key:=λi=>ss.getD i k.d) hh pl.isList (λi v hv=> ?_) ?_ λh' tk S' kp=> ?_
  ·exact k.isv _ _ (qmF k ss rv i v (by simpa using hv))
  ·rw[List.size_toArray];have:scanBound=2 ^ 24\/100<scanBound:=.inr (by decide)
   rcases this with z|z<;>lia
  ·refine⟨_,l,ss,H1,rfl,I1.kept kp,aY,?_,q⟩;have e:its.toArray.size=ss.length:=by rw[List.size_toArray];lia
   rw[e] at S';exact S'
def tSS(k:Kd X.prog X.w α)(t:TE):TE:=λσ H Q=>t σ H λv H1=> ∃l ss,v= .ref l/\SqL X.K H1 l (ss.map k.up)/\ss.length<64/\∀D,H1 D=none->Q (.ref D) (upd H1 D (.lst ((sortA k.lt (dd ss)).map k.up)))
theorem qbX (hc:X.calm=true) (gs:Gl X "sorted") (ms:X.mg "sorted" =none) (gt:Gl X "set") (mt:X.mg "set" =none) (ha:PE X a t) (bx: ∀σ H (Q Q':VK),(∀v H1,Q v H1->Q' v H1)->t σ H Q->t σ H Q') (he:starEach [a] X.env=(false,eval a X.env)::starEach [] X.env:=by rfl):
  PE X (.Call (.Name "sorted" p1) [.Call (.Name "set" p2) [a] [] p3] [] pos) (tSS k t):=by
 intro pins s σ H Q I h;refine Ve (qb2 I gs ms boot_sorted ?_);refine PyProof.Rows.callWith_builtin1 (Calls.spliced_cons (thn (qgj k (Q:=λl ss H1=> ∀D,H1 D=none->Q (.ref D) (upd H1 D (.lst ((sortA k.lt (dd ss)).map k.up)))) hc gt mt ha bx he I h) λu s1 ⟨S,l,ss,H1,eu,I1,aY,hS,q⟩=> ?_)) rfl rfl;subst eu;refine Calls.spliced_nil ?_;have hh:X.A.handled=none:=I1.ok.hd hc;refine qhi k (ss:=ss) hh hS aY λh1 D h' d tk c vs k1 hD k2 hg rv=> ?_;have I2:=qs6 (d:=d) (tk:=tk) I1 k1;have fD:H1 D=none:=I2.hok.fresh hD;have I3:Inv X pins σ (upd H1 D (.lst ((sortA k.lt (dd ss)).map k.up))) { s1 with heap:=h',drawn:=d,toks:=tk }:=by refine I2.laid (h':=h') (t':=tk) k2 hD ⟨?_,_,c,rv,hg⟩;rw[List.length_map,sizeLine_eq];have:=(perm_srt (k:=rank k.lt (dd ss)) (dd ss)).length_eq;have e:(sortA k.lt (dd ss)).length=(dd ss).length:=this;have:=qlv ss;lia
 exact⟨.ref D,_,I3,rfl,q D fD⟩
end
end SetL
namespace PL
open PySem L2 SR SetL
inductive Ky where
 |i (n:Int)|s (x:Str)
 deriving DecidableEq
def qk4:Ky->Ky->Bool
 |.i a,.i b=>decide (a<b)
 |.i _,.s _=>true
 |.s _,.i _=>false
 |.s a,.s b=>RH.ltS a b
theorem qnt:Ord qk4 where
 irr:=λa=>by
  cases a with
  |i n=>exact Vy (Int.lt_irrefl n)
  |s x=>exact RH.ordS.irr x
 tr:=λa b c h1 h2=>match a,b,c,h1,h2 with
  |.i _,.i _,.i _,h1,h2=>Vx (Int.lt_trans (of_decide_eq_true h1) (of_decide_eq_true h2))
  |.i _,.i _,.s _,_,_=>rfl
  |.i _,.s _,.i _,_,h2=>nomatch h2
  |.i _,.s _,.s _,_,_=>rfl
  |.s _,.i _,_,h1,_=>nomatch h1
  |.s _,.s _,.i _,_,h2=>nomatch h2
  |.s _,.s _,.s _,h1,h2=>RH.ordS.tr _ _ _ h1 h2
 tot:=λa b h1 h2=>match a,b,h1,h2 with
  |.i x,.i y,h1,h2=>by
   have e1: ¬x<y:=of_decide_eq_false h1;have e2: ¬y<x:=of_decide_eq_false h2
   congr 1;lia
  |.i _,.s _,h1,_=>nomatch h1
  |.s _,.i _,_,h2=>nomatch h2
  |.s x,.s y,h1,h2=>congrArg Ky.s (RH.ordS.tot x y h1 h2)
def ltKs:List Ky->List Ky->Bool
 |[],[]=>false
 |[],_::_=>true
 |_::_,[]=>false
 |a::as,b::bs=>if a=b then ltKs as bs else qk4 a b
theorem ltKs_irr: ∀a,ltKs a a=false
 |[]=>rfl
 |a::as=>by show(if a=a then ltKs as as else qk4 a a)=false;rw[if_pos rfl];exact ltKs_irr as
theorem ltKs_tr: ∀a b c,ltKs a b=true->ltKs b c=true->ltKs a c=true
 |[],[],_,h,_=>by cases h
 |[],_::_,[],_,h=>by cases h
 |[],_::_,_::_,_,_=>rfl
 |_::_,[],_,h,_=>by cases h
 |_::_,_::_,[],_,h=>by cases h
 |a::as,b::bs,c::cs,h1,h2=>by
  have bI:(if a=b then ltKs as bs else qk4 a b)=true:=h1;have bT:(if b=c then ltKs bs cs else qk4 b c)=true:=h2;show(if a=c then ltKs as cs else qk4 a c)=true;by_cases e1:a=b
  ·subst e1;rw[if_pos rfl] at bI;by_cases e2:a=c
   ·rw[if_pos e2] at bT⊢;exact ltKs_tr as bs cs bI bT
   ·rw[if_neg e2] at bT⊢;exact bT
  ·rw[if_neg e1] at bI;by_cases e2:b=c
   ·subst e2;rw[if_neg e1];exact bI
   ·rw[if_neg e2] at bT;have t:=qnt.tr _ _ _ bI bT;by_cases e3:a=c
    ·subst e3;rw[qnt.irr] at t;cases t
    ·rw[if_neg e3];exact t
theorem ltKs_tot: ∀a b,ltKs a b=false->ltKs b a=false->a=b
 |[],[],_,_=>rfl
 |[],_::_,h,_=>by cases h
 |_::_,[],_,h=>by cases h
 |a::as,b::bs,h1,h2=>by
  have bI:(if a=b then ltKs as bs else qk4 a b)=false:=h1;have bT:(if b=a then ltKs bs as else qk4 b a)=false:=h2;by_cases e:a=b
  ·subst e;rw[if_pos rfl] at bI bT;rw[ltKs_tot as bs bI bT]
  ·rw[if_neg e] at bI;rw[if_neg (Ne.symm e)] at bT;exact absurd (qnt.tot _ _ bI bT) e
theorem ordKs:Ord ltKs:=⟨ltKs_irr,ltKs_tr,ltKs_tot⟩
def okShape:List Nat->Bool
 |[0]=>true
 |[1]=>true
 |2::x::r=>(x::r).all λn=>n==0||n==1
 |_=>false
def sortBy{α:Type}(f:α->List Ky)(ts:List α):List α:=srt (λt=>rank ltKs (ts.map f) (f t)) ts
section
open PySem.W PyProof.Rows
def kyV:Ky->V
 |.i n=>.int n
 |.s x=>.str x
def shK:Ky->Nat
 |.i _=>0
 |.s _=>1
theorem qs1: ∀(as bs:List Ky) (us vs:List Value) (i:Nat),Vals (as.map kyV) us->Vals (bs.map kyV) vs->as.map shK=bs.map shK->C (ltKs as bs) s->KatLex prog w A true false C (us.zip vs) i s
 |[],[],_,_,i,.nil,.nil,_,h=>kat_nil h
 |[],_::_,_,_,_,_,_,hs,_=>by cases hs
 |_::_,[],_,_,_,_,_,hs,_=>by cases hs
 |a::as,b::bs,_,_,i,.cons (l₂:=us) ra rs,.cons (l₂:=vs) rb rt,hs,h=>by
  have f9:shK a=shK b:=(List.cons.inj hs).1;have cT:as.map shK=bs.map shK:=(List.cons.inj hs).2;have h':C (if a=b then ltKs as bs else qk4 a b) s:=h;have go: ∀{p q:Value} {rr:List (Value×Value)} {e:Bool},MeetsSeq.EqGives p q e->(e=true->KatLex prog w A true false C rr (i+1) s)->(e=false->wpAny (model prog w) A (oneLt' (true&&i==0) p q) C (λ_ _=>False) s)->KatLex prog w A true false C ((p,q)::rr) i s:=λ{p q rr e} he h1 h2=>by
   refine kat_cons (he prog w A _ s _ ?_);cases e with
   |true=>exact kat_yes (h1 rfl)
   |false=>exact kat_no (h2 rfl)
  cases a with
  |i x=>
   cases b with
   |i y=>
    obtain⟨t1,rfl⟩:=ra;obtain⟨t2,rfl⟩:=rb;refine go (MeetsSeq.EqGives.int _ _ _ _) (λe=> ?_) (λe=> ?_)
    ·have e':=eq_of_beq e;rw[if_pos (by rw[e'])] at h';exact qs1 as bs us vs (i+1) rs rt cT h'
    ·have e': ¬Ky.i x=Ky.i y:=λz=>by cases z;rw[beq_self_eq_true] at e;cases e
     rw[if_neg e'] at h';cases z:(i==0) with
     |true=>exact oneLt_int h'
     |false=>exact kat_one _ _ (lt_int (show W.BoolBack C (.bool _) s from h'))
   |s y=>cases f9
  |s x=>
   cases b with
   |i y=>cases f9
   |s y=>
    obtain⟨t1,rfl⟩:=ra;obtain⟨t2,rfl⟩:=rb;have es:MeetsSeq.EqGives (.str x t1) (.str y t2) (decide (x=y)):=λ_ _ _ _ _ _ hq=>wpAny_eqBool_str hq;refine go es (λe=> ?_) (λe=> ?_)
    ·have e':=of_decide_eq_true e;rw[if_pos (by rw[e'])] at h';exact qs1 as bs us vs (i+1) rs rt cT h'
    ·have e': ¬Ky.s x=Ky.s y:=λz=>by cases z;simp at e
     rw[if_neg e'] at h';cases z:(i==0) with
     |true=>exact oneLt_str h'
     |false=>exact kat_one _ _ (P.lt_str (show W.BoolBack C (.bool _) s from h'))
end
theorem okShape_cases(h:okShape s0=true):s0=[0]\/s0=[1]\/∃x r,s0=2::x::r/\(x::r).all (λn=>n==0||n==1)=true:=by
 unfold okShape at h;split at h
 ·exact .inl rfl
 ·exact .inr (.inl rfl)
 ·exact .inr (.inr ⟨_,_,rfl,h⟩)
 ·cases h
open PySem.W PyProof.Rows in
theorem kind_strs(its:List Value)(h2:2<=its.length)(hv: ∀v∈its,∃x t,v= .str x t)(hq:Q oneType' s):wpAny (model prog w) A (keyKind' its.toArray) Q E s:=
 match its,h2,hv with
 |v1::v2::bX,_,hv=>by rw[keyKind_strs (strsAre_map _ hv)];exact Vb hq
theorem qdz{h:Heap}{P:Value->Prop}: ∀(l:List Value),(∀v∈l,∃f,(∃a o xs n,v= .ref a/\h.get? a=some o/\o.cls= .type "tuple" /\o.data= .seq xs n/\xs[0]? =some f)/\P f)->∃fs,W.KatTups h l fs/\fs.length=l.length/\∀f∈fs,P f
 |[],_=>⟨[],trivial,rfl,λ_ hf=>nomatch hf⟩
 |v::l,hl=>by
  obtain⟨f,h1,h2⟩:=hl v Vk;obtain⟨fs,h3,h4,h5⟩:=qdz l λu hu=>hl u (Vl _ hu);refine⟨f::fs,⟨h1,h3⟩,by simp[h4],λg hg=> ?_⟩
  rcases List.mem_cons.mp hg with rfl|hg
  ·exact h2
  ·exact h5 g hg
end PL
namespace PL
open PySem L2 SR SetL
theorem hu8(r:qb4 k A):A.units+8<cLine:=by have:=r.units;lia
abbrev Row:=Int×Str×Int
def keyOk(x:Str):Prop:=(1<=x.length/\x.length<=2)/\∀c∈x.cps.toList,97<=c/\c<=122
def rowOk(r:Row):Prop:=(0<=r.1/\r.1<=99)/\keyOk r.2.1/\ -99<=r.2.2/\r.2.2<=99
end PL
namespace PL
open PySem L2
end PL
namespace St
open PySem PySem.W PySem.Calls PyProof.Rows
def qbr(KV:Heap->Nat->Value->Prop)(h:Heap)(ks:List Value)(n:Nat):Prop:=ks.length=n/\∀i v,ks[i]? =some v->KV h i v
section
theorem qtH {s:Shared} {vs:List Value} {kz:List Int} {h0:Heap} {keys:Array Value} {e e1:Nat} (hk:s.heap.get? kS=some (seqObj "list" keys e)) (hD:s.heap.get? D=some (seqObj "list" #[] e1)) (dP:kS≠D) (bS:qbr KV s.heap keys.toList vs.length) (hlen:kz.length=vs.length) (aY:vs.length<64) (kp:Kp h0 s.heap) (cb:h0.get? D=none) (dQ:h0.get? kS=none) (kind: ∀(s':Shared) (ks:List Value),Kp h0 s'.heap->qbr KV s'.heap ks vs.length->2<=vs.length->∀(Q:SortKind->Shared->Prop) (E:Value->Shared->Prop),Q κ s'->wpAny (model prog w) A (keyKind' ks.toArray) Q E s') (cmp: ∀(s':Shared) (ks:List Value),Kp h0 s'.heap->qbr KV s'.heap ks vs.length->∀i j,i<vs.length->j<vs.length->∀C:Bool->Shared->Prop,C (decide (kz.getD i 0<kz.getD j 0)) s'->wpAny (model prog w) A (keyLt' κ (ks.getD i Value.none) (ks.getD j Value.none)) C (λ_ _=>False) s') (h: ∀h' tk c (p:Array Nat),Kp h0 h'->qbq kz vs.length p->h'.get? D=some (seqObj "list" (List.toArray (p.toList.map λi=>vs.getD i Value.none)) c)->P (.done (.ret .none)) { s with heap:=h',toks:=tk }):
  wpAny (model prog w) A (ksk_end D false vs.toArray e1 (.ref kS) keys) P E s:=by
 have hsz:keys.size=vs.length:=by have h1:=bS.1;rw[Array.length_toList] at h1;exact h1
 unfold ksk_end;simp only[Bool.false_eq_true,if_false];by_cases h2:vs.toArray.size<2
 ·rw[if_pos h2,if_pos h2];refine Va (Vb ?_);rw[StateT.run_pure];refine Va (Vb ?_);rw[List.size_toArray] at h2;refine qlW (kz:=kz) (p:=List.toArray (List.range vs.length)) hk hD dP aY (by lia) kp cb dQ ⟨⟨by simp,λi hi=> ?_,λi q1 q2=>by lia⟩,λi j aJ hj=>by lia⟩ ?_ rfl λh' tk c k hh=>h h' tk c _ k ⟨⟨by simp,λi hi=> ?_,λi q1 q2=>by lia⟩,λi j aJ hj=>by lia⟩ hh
  ·unfold g;rw[Array.getD_eq_getD_getElem?];simp[hi]
  ·show(keys.zip vs.toArray).map (·.2)=_;apply Array.toList_inj.mp;rw[Array.toList_map,ksk_zip,List.toList_toArray,List.toList_toArray];have:keys.toList.length=vs.length:=by rw[Array.length_toList];exact hsz
   rw[show(keys.toList.zip vs).map (λx:Value×Value=>x.2)=vs from List.map_snd_zip (by lia)];apply List.ext_getElem
   ·simp
   ·intro i h3 h4;simp[List.getElem?_eq_getElem h3]
  ·unfold g;rw[Array.getD_eq_getD_getElem?];simp[hi]
 ·rw[if_neg h2,if_neg h2];rw[List.size_toArray] at h2;have eB:(List.toArray keys.toList)=keys:=by simp
  have kk:=kind s keys.toList kp bS (by lia);rw[eB] at kk;refine Va (kk _ _ ?_)
  have run:=kat_run (prog:=prog) (w:=w) (A:=A) (E:=E) (s:=s) (κ:=κ) (ks:=keys.toList) (vs:=vs) (Q:=λst s'=>s'=s/\∃p,qbq kz vs.length p/\(arrOf st).map (·.2)=List.toArray (p.toList.map λi=>vs.getD i Value.none)/\failedOf st=none)
   (G:=λp s'=>s'=s/\qbq kz vs.length p) (by rw[Array.length_toList];exact hsz) (by lia) aY (λp ba s' a1 a2 a3 a4=>⟨a4.1,p,a4.2,kat_snds (by rw[Array.length_toList];exact hsz) a2,a3⟩)
   (qfS (ask:=qbP λi=>kz.getD i 0) (N:=vs.length) (λi j C hi hj hc=>by
    exact cmp s keys.toList kp bS i j hi hj C hc) (λp hp=>⟨rfl,hp⟩) (qik (by lia)))
  rw[eB] at run;refine Va (Vc run (λr s' hr=> ?_) λ_ _ x=>x);obtain⟨rfl,p,ho,d6,hf⟩:=hr;exact qlW (p:=p) hk hD dP aY (by lia) kp cb dQ ho d6 hf λh' tk c k hh=>h h' tk c p k ho hh
theorem qph {s:Shared} {vs:List Value} {kz:List Int} {h0:Heap} {e1:Nat} (hk:s.heap.get? kS=some (seqObj "list" #[] 0)) (hD:s.heap.get? D=some (seqObj "list" #[] e1)) (dP:kS≠D) (hlen:kz.length=vs.length) (aY:vs.length<64) (kp:Kp h0 s.heap) (cb:h0.get? D=none) (dQ:h0.get? kS=none) (turn: ∀(i:Nat) (v:Value),vs[i]? =some v->∀s':Shared,Kp h0 s'.heap->s'.gens=s.gens->s'.os=s.os->
   wpAny (model prog w) A (call f [v]) (λr s''=> ∃h' tk,KV h' i r/\s''={ s' with heap:=h',toks:=tk }/\Kp s'.heap h') (λ_ _=>False) s') (eO: ∀(h h':Heap) i v,(∀b o,h.get? b=some o->o.cls≠.type "list" ->h'.get? b=some o)->KV h i v->KV h' i v) (kind: ∀(s':Shared) (ks:List Value),Kp h0 s'.heap->qbr KV s'.heap ks vs.length->2<=vs.length->∀(Q:SortKind->Shared->Prop) (E:Value->Shared->Prop),Q κ s'->wpAny (model prog w) A (keyKind' ks.toArray) Q E s') (cmp: ∀(s':Shared) (ks:List Value),Kp h0 s'.heap->qbr KV s'.heap ks vs.length->∀i j,i<vs.length->j<vs.length->∀C:Bool->Shared->Prop,C (decide (kz.getD i 0<kz.getD j 0)) s'->wpAny (model prog w) A (keyLt' κ (ks.getD i Value.none) (ks.getD j Value.none)) C (λ_ _=>False) s') (h: ∀h' tk c (p:Array Nat),Kp h0 h'->qbq kz vs.length p->h'.get? D=some (seqObj "list" (List.toArray (p.toList.map λi=>vs.getD i Value.none)) c)->P (.done (.ret .none)) { s with heap:=h',toks:=tk }):
  wpAny (model prog w) A (ksk_rest D f false vs.toArray e1 (.ref kS)) P E s:=by
 unfold ksk_rest;refine Va (wpAny_rule ?_)
 first
  |rw[List.forIn_toArray]
  |(rw[<-Array.forIn_toList];simp only[List.toList_toArray])
 refine Va (ksk_fold (λi s'=> ∃h' tk kA e,s'={ s with heap:=h',toks:=tk }/\Kp h0 h'/\h'.get? kS=some (seqObj "list" kA e)/\h'.get? D=some (seqObj "list" #[] e1)/\qbr KV h' kA.toList i) vs 0 s
  ⟨s.heap,s.toks, #[],0,rfl,kp,hk,hD,rfl,λi v z=>by simp at z⟩ ?step ?done)
 case step=>
  rintro j x s' hx ⟨h',tk,kA,e,rfl,aX,c8,cV,bS⟩;simp only[Nat.zero_add] at bS⊢;have hj:j<vs.length:=(List.getElem?_eq_some_iff.mp hx).1;have hz:kA.size<=vs.length:=by have h1:=bS.1;rw[Array.length_toList] at h1;lia
  refine Va (wpAny_attempt (Vc (turn j x hx { s with heap:=h',toks:=tk } aX rfl rfl) (λv s'' he=> ?_) λ_ _ hF=>hF.elim));obtain⟨h2,iX,hv2,rfl,bN⟩:=he;have eB:=bN _ _ c8;have eF:=bN _ _ cV;have s1:=Heap.SameBut.update h2 kS (Obj.mapSeq (·.push v));have ea:(kA.push v).toList=kA.toList++[v]:=by simp
  refine Va (listUpdate_at eB rfl ?_ (by rw[sizeLine_eq];lia) (Vr (Nat.le_of_eq (Array.size_push ..)) (by rw[sizeLine_eq];lia)));refine Vb ⟨rfl,_,_,kA.push v,_,rfl,λb o q=> ?_,get?_update_seq eB (·.push v),(s1.2 D dP.symm).trans eF,?_⟩
  rotate_left
  ·rw[ea];refine⟨by simp[bS.1],λi u hu=> ?_⟩;have bJ: ∀b o,h2.get? b=some o->o.cls≠.type "list" ->(h2.update kS (Obj.mapSeq (·.push v))).get? b=some o:=λb o q nl=>(s1.2 b (λz=>by rw[z,eB] at q;cases q;exact nl rfl)).trans q;by_cases hi:i<kA.toList.length
   ·rw[List.getElem?_append_left hi] at hu;exact eO _ _ i u bJ (eO _ _ i u (λb o q _=>bN b o q) (bS.2 i u hu))
   ·rw[List.getElem?_append_right (by lia)] at hu;have gi:i=j:=by have:=(List.getElem?_eq_some_iff.mp hu).1;have h1:=bS.1;rw[List.length_singleton] at this;lia
    subst gi;rw[bS.1,Nat.sub_self] at hu;cases hu;exact eO _ _ i v bJ hv2
  have nk:b≠kS:=λz=>by rw[z,dQ] at q;cases q
  exact(s1.2 b nk).trans (bN _ _ (aX b o q))
 case done=>
  rintro s' ⟨h',tk,kA,e,rfl,aX,c8,cV,bS⟩;rw[Nat.zero_add] at bS;refine Va (listItems_at c8 rfl ?_);exact qtH c8 cV dP bS hlen aY aX cb dQ kind cmp λh3 tk3 c p a1 a2 a3=>h h3 tk3 c p a1 a2 a3
end
section
theorem sorted_g {A:Around} {s:Shared} {vs:List Value} {kz:List Int} (hf:f= .ref q) (hl:s.heap.IsList l vs.toArray) (hlen:kz.length=vs.length) (aY:vs.length<64) (turn: ∀(i:Nat) (v:Value),vs[i]? =some v->∀s':Shared,Kp s.heap s'.heap->s'.gens=s.gens->s'.os=s.os->
   wpAny (model prog w) A.in1.in1 (call f [v]) (λr s''=> ∃h' tk,KV h' i r/\s''={ s' with heap:=h',toks:=tk }/\Kp s'.heap h') (λ_ _=>False) s') (eO: ∀(h h':Heap) i v,(∀b o,h.get? b=some o->o.cls≠.type "list" ->h'.get? b=some o)->KV h i v->KV h' i v) (kind: ∀(s':Shared) (ks:List Value),Kp s.heap s'.heap->qbr KV s'.heap ks vs.length->2<=vs.length->∀(Q:SortKind->Shared->Prop) (E:Value->Shared->Prop),Q κ s'->wpAny (model prog w) A.in1.in1 (keyKind' ks.toArray) Q E s') (cmp: ∀(s':Shared) (ks:List Value),Kp s.heap s'.heap->qbr KV s'.heap ks vs.length->∀i j,i<vs.length->j<vs.length->∀C:Bool->Shared->Prop,C (decide (kz.getD i 0<kz.getD j 0)) s'->wpAny (model prog w) A.in1.in1 (keyLt' κ (ks.getD i Value.none) (ks.getD j Value.none)) C (λ_ _=>False) s') (h: ∀D h' tk c (p:Array Nat),s.heap.objs.size<=D->Kp s.heap h'->qbq kz vs.length p->h'.get? D=some (seqObj "list" (List.toArray (p.toList.map λi=>vs.getD i Value.none)) c)->Q (.ref D) { s with heap:=h',toks:=tk }):
  wpAny (model prog w) A (call (.builtin "sorted") [.ref l] [(Str.ofString "key",f)]) Q E s:=by
 subst hf;refine call_function_entry_kw kind_sorted plain_sorted entry_sorted (ksk_s1 _ _) ?_;unfold Builtin.«sorted»;refine Va (m:=checkCount "sorted" 1 1 _) (Vb ?_);refine Va (collect_list hl ?_ (by rw[sizeLine_eq];lia));refine Va (wpAny_newList ?_ (by rw[sizeLine_eq];lia));have hsz:((s.heap.push (seqObj "list" #[] 0)).update s.heap.objs.size (Obj.mapSeq (· ++vs.toArray))).objs.size=s.heap.objs.size+1:=by rw[Heap.size_update,size_push']
 generalize hH1:(s.heap.push (seqObj "list" #[] 0)).update s.heap.objs.size (Obj.mapSeq (· ++vs.toArray))=H1 at hsz⊢;have f7:Kp s.heap H1:=λb o q=>by have aI:b<s.heap.objs.size:=Vi q;rw[<-hH1,Heap.get?_update_ne _ _ _ _ (Nat.ne_of_lt aI),Heap.get?_push_ne _ _ _ (Nat.ne_of_lt aI)];exact q
 have bN:Kp s.heap (H1.push (seqObj "list" vs.toArray 0)):=λb o q=>Vg _ (f7 b o q);have cM:(H1.push (seqObj "list" vs.toArray 0)).get? H1.objs.size=some (seqObj "list" vs.toArray 0):=Vh _ rfl;refine Va (wpAny_holding (wpAny_call_entry_kw slot_list_sort ⟨_,cM,rfl⟩ entry_list_sort ?body (ksk_l1 _ _)))
 case body=>
  show wpAny (model prog w) A.in1.in1 (Builtin.«list.sort» ⟨[.ref H1.objs.size],[(Str.ofString "key",.ref q)]⟩) _ _ _;rw[ksk_t1];unfold ksk_tree;have s1:=Heap.SameBut.update (H1.push (seqObj "list" vs.toArray 0)) H1.objs.size (Obj.mapSeq λ_=>(#[]:Array Value));obtain⟨e1,b7⟩: ∃e1,((H1.push (seqObj "list" vs.toArray 0)).update H1.objs.size (Obj.mapSeq λ_=>(#[]:Array Value))).get? H1.objs.size=some (seqObj "list" #[] e1):=⟨_,get?_update_seq cM λ_=> #[]⟩
  refine Va (listItems_at cM rfl ?_);refine Va (listUpdate_at cM rfl ?_ (by rw[List.size_toArray,sizeLine_eq];lia) (Nat.zero_le _));refine Va (seqEpoch_at b7 rfl ?_);generalize jx:(H1.push (seqObj "list" vs.toArray 0)).update H1.objs.size (Obj.mapSeq λ_=>(#[]:Array Value))=H2 at b7 s1⊢;have fO:H2.objs.size=H1.objs.size+1:=by rw[<-jx,Heap.size_update,size_push']
  have ee:Kp s.heap H2:=λb o z=>(s1.2 b (by rw[hsz];exact Vp (Nat.lt_succ_of_lt (Vi z)))).trans (bN b o z);refine Va (wpAny_newTuple ?_ (by show vs.length<=_;rw[sizeLine_eq];lia));refine Va (wpAny_newList ?_ (Nat.zero_le _));refine wpAny_holding ?_;have eM:(H2.push (seqObj "tuple" vs.toArray 0)).objs.size=H2.objs.size+1:=size_push' _ _
  refine qph (h0:=s.heap) (kz:=kz) (kS:=(H2.push (seqObj "tuple" vs.toArray 0)).objs.size) (s:={ s with heap:=(H2.push (seqObj "tuple" vs.toArray 0)).push (seqObj "list" #[] 0) }) (Vh _ rfl)
   (Vg _ (Vg _ b7)) (by rw[eM,fO];exact Nat.ne_of_gt (Nat.lt_succ_of_lt (Wb _))) hlen aY (λb o z=>Vg _ (Vg _ (ee b o z)))
   (get_none (by rw[hsz];exact Wc _)) (get_none (by rw[eM,fO,hsz];exact Nat.le_succ_of_le (Nat.le_succ_of_le (Wc _)))) turn eO kind cmp λh' tk c p a1 a2 a3=>⟨_,rfl,?_⟩
  exact Vb ⟨_,rfl,h _ h' tk c p (by rw[hsz];exact Wc _) a1 a2 a3⟩
end
end St
namespace L2
open PySem PySem.Spec PyProof.Rows
structure qdK(x:Str)(v:Value)(env:Env)(h:Heap):Prop where
 kind:env.scope.kind= .function
 loc:env.kindOf x=some .local
 ns: ∃m,h.Ns env.locals m/\m x=some v
theorem qdK.load (L:qdK x v env s.heap) (aK:(x==("__debug__" :Str))=false) (h:Q v s):wpAny M A (eval (.Name x p) env) Q E s:=by obtain⟨m,h1,h2⟩:=L.ns;exact wpAny_Name (wpAny_loadName_local L.kind L.loc h1 h2 h) aK
theorem qlK {prog:Program} {w:World} {A:Around} {E:Value->Shared->Prop} {s:Shared} {f c':Addr} {qual x:Str} {params:Arguments} {scope:Scope} {pm aW v:Value} {body:Expr} {R:Heap->Value->Prop} (hf:s.heap.get? f=some (W.kla_obj "<lambda>" qual params body scope [] pm c' aW)) (bH:s.heap.CodeRec (.ref c') qual) (dO:s.heap.NoLimit) (eZ:A.depth<recursionLimit) (hk:scope.kind= .function) (iB:scope.isCoroutine=false) (dS:scope.isGenerator=false) (hx:scope.names.lookup x=some .local) (ar: ∀y∈scope.names,y.2≠.cell) (hb: ∀v,bindArgs (W.kla_fn "<lambda>" qual params body scope [] pm (.ref c') aW) ⟨[v],[]⟩=pure [(x,v)]) (bz: ∀(A':Around) (env:Env) (s1:Shared),qdK x v env s1.heap->St.Kp s.heap s1.heap->wpAny (model prog w) A' (eval body env) (λr s''=> ∃h' cK,R h' r/\s''={ s1 with heap:=h',toks:=cK }/\St.Kp s1.heap h') (λ_ _=>False) s1):
  wpAny (model prog w) A (call (.ref f) [v]) (λr s''=> ∃h' cK,R h' r/\s''={ s with heap:=h',toks:=cK }/\St.Kp s.heap h') E s:=by refine wpAny_call (W.kla_callFunE eZ hf rfl iB dS rfl bH ?_);rw[hb];refine Vb (wpAny_newFunctionEnv ar (by intro y hy;obtain rfl:y=(x,v):=List.mem_singleton.mp hy;exact hx) (λh1 hn1 f9=> ?_) hk);have kp:St.Kp s.heap h1:=λb o e=>(f9.2 b (Vp (Vi e))).trans (Vg _ e);refine⟨dO.keeps kp,W.kla_codeExpr (Vc (bz _ _ _ ⟨hk,hx,_,hn1,by simp[List.lookup_cons]⟩ kp) (λr s'' h=> ?_) λ_ _ hF=>hF.elim)⟩;obtain⟨h',cK,hr,rfl,aX⟩:=h;exact⟨h',cK,hr,rfl,λb o e=>aX b o (kp b o e)⟩
section
theorem qfO {prog:Program} {w:World} {A:Around} {E:Value->Shared->Prop} {s:Shared} {env:Env} {x:Str} {t:Addr} {its:List Value} {v:Value} {i:Nat} {j:Nat} {p1:Pos} {p2:Pos} {p3:Pos} {Q:Value->Shared->Prop} (L:qdK x (.ref t) env s.heap) (aK:(x==("__debug__" :Str))=false) (ht:IsTup s.heap t its.toArray) (hi:its[i]? =some v) (hz:its.length<=sizeLine) (h: ∀tk,Q v { s with toks:=tk }):
  wpAny (model prog w) A (eval (.Subscript (.Name x p1) (.Constant (.int (i:Int)) j p2) p3) env) Q E s:=by refine Subscript_ (L.load aK ?_);refine wpAny_Constant_int ?_;have hl:i<its.length:=(List.getElem?_eq_some_iff.mp hi).1;have hn:=qcW;refine subscriptTail_builtinR (x:=v) (T:= "tuple") ht.typeIs slot_tuple_getitem.lookup ?_ (by with_unfolding_all rfl);exact getItem_tuple (j:=i) ht (by lia) (by lia) (by rw[List.size_toArray];exact seqIndex_of (by lia) (by lia)) (by simpa using hi) ⟨rfl,h _⟩
end
end L2
namespace PL
open PySem L2 SR SetL
section
open PySem.W PyProof.Rows
def KeyTup(h:Heap)(kl:List Ky)(v:Value):Prop:= ∃p its,v= .ref p/\IsTup h p (List.toArray its)/\Vals (kl.map kyV) its
theorem kind_tups(its:List Value)(hx:x=0\/x=1)(h2:2<=its.length)(hk: ∀v∈its,∃kl,KeyTup s.heap kl v/\kl.map shK=x::r)(hq:Q (tuples' true) s):wpAny (model prog w) A (keyKind' its.toArray) Q E s:=by
 have fst: ∀v∈its,∃f,(∃a o xs n,v= .ref a/\s.heap.get? a=some o/\o.cls= .type "tuple" /\o.data= .seq xs n/\xs[0]? =some f)/\((x=0/\∃i t,f=Value.int i t)\/(x=1/\∃i t,f=Value.str i t)):=λv hv=>by
  obtain⟨kl,⟨p,w1,g1,i1,v1⟩,k1⟩:=hk v hv;obtain⟨o1,e1,c1,n1,d1⟩:=i1;cases kl with
  |nil=>cases k1
  |cons ky kr=>
   cases v1 with
   |cons r0 rr=>
    have ks:shK ky=x:=(List.cons.inj k1).1;cases ky with
    |i n=>obtain⟨tk,rfl⟩:=r0;exact⟨_,⟨p,o1,_,n1,g1,e1,c1,d1,rfl⟩,.inl ⟨ks.symm,n,tk,rfl⟩⟩
    |s n=>obtain⟨tk,rfl⟩:=r0;exact⟨_,⟨p,o1,_,n1,g1,e1,c1,d1,rfl⟩,.inr ⟨ks.symm,n,tk,rfl⟩⟩
 obtain⟨fs,k1,k2,k3⟩:=qdz its fst
 rcases hx with rfl|rfl
 ·refine W.kat_kind k1 (by lia) (T:=.type "int") (λv hv=> ?_) (by decide) ?_
  ·rcases k3 v hv with⟨_,i,t,rfl⟩|⟨z,_⟩
   ·exact W.Looks.of_pure rfl
   ·cases z
  ·exact hq
 ·refine W.kat_kind k1 (by lia) (T:=.type "str") (λv hv=> ?_) (by decide) ?_
  ·rcases k3 v hv with⟨z,_⟩|⟨_,i,t,rfl⟩
   ·cases z
   ·exact W.Looks.of_pure rfl
  ·exact hq
theorem lt_tups(h1:KeyTup s.heap a u)(h2:KeyTup s.heap b v)(hs:a.map shK=b.map shK)(hc:C (ltKs a b) s):wpAny (model prog w) A (keyLt' (tuples' true) u v) C (λ_ _=>False) s:=by
 obtain⟨p1,w1,rfl,i1,v1⟩:=h1;obtain⟨p2,w2,rfl,i2,v2⟩:=h2;obtain⟨o1,e1,_,n1,d1⟩:=i1;obtain⟨o2,e2,_,n2,d2⟩:=i2;refine kat_lt e1 d1 e2 d2 ?_;have hl:w1.length=w2.length:=by have h1:=v1.length;have h2:=v2.length;have h3:=congrArg List.length hs;simp only[List.length_map] at h1 h2 h3;lia
 rw[show decide ((List.toArray w1).size<(List.toArray w2).size)=false by simp[hl]];exact qs1 _ _ _ _ 0 v1 v2 hs hc
end
theorem boot_sum':bootBuiltins "sum" =some (.builtin "sum"):=by decide+kernel
theorem qe6(ns:List Int): ∀a:Int,W.Num.foldFrom W.Num.add (.int a) (ns.map W.WData.int)=some (.int (a+ns.sum)):=by
 induction ns with
 |nil=>intro a;simp[W.Num.foldFrom]
 |cons n ns ih=>intro a;simp only[List.map_cons,W.Num.foldFrom,List.sum_cons];have e:W.Num.add (.int a) (.int n)=some (.int (a+n)):=rfl;rw[e];show W.Num.foldFrom _ _ _=_;rw[ih,Int.add_assoc]
theorem qez(ns:List Int): ∀a:Int,W.Num.sumInts a (ns.map W.WData.int)=some (.int (a+ns.sum)):=by
 induction ns with
 |nil=>intro a;simp[W.Num.sumInts]
 |cons n ns ih=>
  intro a;simp only[List.map_cons,W.Num.sumInts,List.sum_cons];rw[ih,qe6,Int.add_assoc]
  split<;>rfl
section
open PySem.Spec PyProof.Rows in
theorem call_sumI(hc:X.calm=true):qas X (.builtin "sum") (λxs H Q=> ∃(a:Addr) (ns:List Int),xs=[.ref a]/\SqL X.K H a (ns.map V.int)/\Q (.int ns.sum) H):=by
 intro pins s σ H xs us Q I r h;obtain⟨a,ns,rfl,hS,q⟩:=h;obtain⟨u,rfl,ru⟩:=qeu r;cases ru;obtain⟨its,rv,pl,hz⟩:=I.list hS;have hl:=rv.length;rw[List.length_map] at hl;have aI:a<s.heap.objs.size:=Vi pl.isList.choose_spec.1;have hh:X.A.in1.handled=none:=I.ok.hd hc;refine PySem.Flt.call_sum_walkF (xs:=ns.map PySem.W.WData.int) (qez ns 0) (Vf pl.isList ?_);have W:=(Walks.list (prog:=X.prog) (w:=X.w) hh s.heap.objs.size a (Vp aI) its.toArray).toS;have en:its.toArray.size=(ns.map PySem.W.WData.int).length:=by rw[List.size_toArray,List.length_map];lia
 rw[en] at W;refine⟨s.heap.objs.size,_,_,_,_,_,rfl,W,⟨⟨_,Vh _ rfl,rfl,rfl⟩,pl.isList.at λo e=>Vg _ e⟩,λb hb=> ?_,λi v hv=> ?_,λs' v hv mv=> ?_⟩
 ·have aR:b=s.heap.objs.size\/b=a:=by simpa using hb
  rcases aR with rfl|rfl
  ·show s.heap.objs.size<(Heap.push _ _).objs.size;rw[size_push'];exact Wb _
  ·show b<(Heap.push _ _).objs.size;rw[size_push'];exact Nat.lt_succ_of_lt aI
 ·have bB:its[i]? =some v:=by simpa using hv
  have hi:=(List.getElem?_eq_some_iff.mp bB).1;have aL:i<ns.length:=by lia
  obtain⟨u,e1,e2⟩:=rv.get (i:=i) (x:=V.int ns[i]) (by rw[List.getElem?_map,List.getElem?_eq_getElem aL];rfl);rw[bB] at e1;cases e1;obtain⟨tk,rfl⟩:=e2;exact⟨.int ns[i],by rw[List.getElem?_map,List.getElem?_eq_getElem aL];rfl,.int _ _⟩
 ·rw[Int.zero_add] at hv;cases hv with
  |int n t=>
   obtain⟨m1,m2,m3,m4,m5⟩:=mv;have es:s'={ s with heap:=s'.heap,toks:=s'.toks }:=by cases s';simp only at m2 m3 m4;subst m2 m3 m4;rfl
   rw[es];refine⟨.int ns.sum,H,?_,⟨t,rfl⟩,q⟩;refine I.kept (t':=s'.toks) λb o eo=>m1 b o ?_ (Vg _ eo);intro z;have:b=s.heap.objs.size:=by simpa using z
   exact Vp (Vi eo) this
end
def qr9(i j k:Nat)(ta:TA):TS:=λD σ H=>ta σ H λvs H1=> ∃u v w,vs=[u,v,w]/\D.nx (((σ.set i (some u)).set j (some v)).set k (some w)) H1
section
open PySem.Spec PyProof.Rows in
theorem ps_par3 (hc:X.calm=true) (hN:X.N.Nodup) (hi:X.N[i]? =some x) (hj:X.N[j]? =some y) (hk:X.N[k]? =some z) (aJ:i≠j) (hik:i≠k) (hjk:j≠k) (hx:X.env.scope.names.lookup x=some .local) (hy:X.env.scope.names.lookup y=some .local) (hz:X.env.scope.names.lookup z=some .local) (ha:PA X [a,b,c] ta) (hw:swappedStores [.Tuple [.Name x px,.Name y py,.Name z pz] kt pt] (.Tuple [a,b,c] k2 pt2) X.env=pure (some [x,y,z])) (hs:swapsWithSole [.Tuple [.Name x px,.Name y py,.Name z pz] kt pt] (.Tuple [a,b,c] k2 pt2) pos.line X.env=pure false:=by rfl):
  PS X (.Assign [.Tuple [.Name x px,.Name y py,.Name z pz] kt pt] (.Tuple [a,b,c] k2 pt2) pos) (qr9 i j k ta):=by
 intro pins s σ H D I h;rw[exec_Assign_arm];refine Va (wpAny_standAt ?_);rw[hs];refine Va (Vb ?_);rw[if_neg (by decide)];refine Va (Tuple_ (thn (ha _ pins s σ H _ I h) λus s1 ⟨vs,H1,I1,r1,q1⟩=> ?_));obtain⟨v,w,t,e1,q1⟩:=q1;subst e1;obtain⟨u1,u2,u3,rfl,rv,aF,rt⟩: ∃u1 u2 u3,us=[u1,u2,u3]/\RelV v u1/\RelV w u2/\RelV t u3:=by
  cases r1 with
  |cons p q=>
   cases q with
   |cons p' q'=>
    cases q' with
    |cons p'' q''=>cases q'';exact⟨_,_,_,rfl,p,p',p''⟩
 refine wpAny_newObj_type ?_ (by show 3<=sizeLine;decide);have I2:Inv X pins σ H1 { s1 with heap:=s1.heap.push { cls:=.type "tuple",data:=.seq [u1,u2,u3].toArray } }:=I1.kept (t':=s1.toks) λb o e=>Vg _ e;rw[hw];refine Va (Vb ?_);show wpAny (model X.prog X.w) X.A (do rule "assign.swapped-stores";let items <-unpackItems (.ref s1.heap.objs.size) 3 none;assignInOrder [λv=>bindName X.env z v,λv=>bindName X.env y v,λv=>bindName X.env x v] items.reverse;pure Flow.next) _ _ _;refine Va (wpAny_rule (Va (unpackItems_tuple (items:= #[u1,u2,u3]) (I.ok.hd hc) (IsTup.new s1.heap _) λh' cR=> ?_)));have I3:=I2.kept (h':=h') (t':=s1.toks) λb o e=>cR b o (Vp (Vi e)) e;show wpAny _ _ (assignInOrder [λv=>bindName X.env z v,λv=>bindName X.env y v,λv=>bindName X.env x v] [u3,u2,u1]>>=λ_=>pure Flow.next) _ _ _;refine Va (assignInOrder_cons (wpAny_bindName (qa5 I3 hN hk (.inl hz) rt (λs2 I4=> ?_) (.inr hz))));refine assignInOrder_cons (wpAny_bindName (qa5 I4 hN hj (.inl hy) aF (λs3 I5=> ?_) (.inr hy)));refine assignInOrder_cons (wpAny_bindName (qa5 I5 hN hi (.inl hx) rv (λs4 I6=>assignInOrder_nil (Vb ?_)) (.inr hx)));have e:((σ.set k (some t)).set j (some w)).set i (some v)=((σ.set i (some v)).set j (some w)).set k (some t):=by rw[List.set_comm _ _ (Ne.symm aJ),List.set_comm _ _ (Ne.symm hik),List.set_comm _ _ (Ne.symm hjk)]
 rw[e] at I6;exact⟨_,H1,I6,q1⟩
end
end PL
namespace St
open PySem PySem.W PySem.Calls PyProof.Rows
end St
namespace PL
open PySem L2 SR SetL
end PL
namespace L2
open PySem PySem.Spec PyProof.Rows
def qg6(Ts:List Addr)(H:Hp):Prop:=(∀T∈Ts,H T=some (.tbl #[]))/\∀b,b∉Ts->H b=none\/∃o xs,H b=some (.frz o (.lst xs))
theorem qhD {K:W.Frag} {k:Nat} {aE:List (Addr×Addr)} {af:Shared} {vs:List Value} {ns:List Int} (KX:K.In af.heap) (eA:af.heap.Ns mainGlobals mg) (hb:af.heap.Ns builtinsNs mb) (hbb: ∀x:Str,x≠ "__name__" ->mb x=bootBuiltins x) (dO:af.heap.NoLimit) (hg:af.gens= #[]) (ha:af.heap.get? a=some { cls:=.type "list",data:=.seq vs.toArray }) (hi:IntsAre vs ns) (hl:ns.length<=sizeLine) (hr:qb4 k callerA) (hC: ∀p∈aE,W.CodeHd af.heap p.1 p.2) (hT: ∀T∈aE.map (·.2),af.heap.get? T=some (W.tabObj #[])) (hKT: ∀T∈aE.map (·.2),K.lookup T=none) (iG:qfm mg af.heap) (F: ∀base:Heap,K.In base->base.Ns mainGlobals mg->(∀p∈aE,W.CodeHd base p.1 p.2)->qfm mg base->qg7 P w K mg base CX k fa fd [x] sp) (fJ: ∀(s:Shared) (u:Value),BindsTo s fd ⟨[u],[]⟩ [(x,u)]) (eg: ∀H:Hp,qg6 (aE.map (·.2)) H->SqL K H a (ns.map V.int)->sp [.ref a] H (λv _=>v= .bl true) λ_ _ _=>False) (iM: ∀H e s',CX [] H af (λ_ _ _=>False) e s'->False):
  codeAny (model P w) callerA (.call (.ref fa) ⟨[.ref a],[]⟩) (λr s'=>r= .ok (.ret (.bool true))/\OldK af.heap s'.heap/\s'.os=af.os/\AllBare s'.gens) af:=by
 have rv:=qet hi;have gU:=hi.length
 have core: ∀H:Hp,qg6 (aE.map (·.2)) H->SqL K H a (ns.map V.int)->HOk P w H af.heap->(∀b,H b≠none->b=a\/b∈aE.map (·.2))->(H a≠none->K.lookup a=none)->
   codeAny (model P w) callerA (.call (.ref fa) ⟨[.ref a],[]⟩) (λr s'=>r= .ok (.ret (.bool true))/\OldK af.heap s'.heap/\s'.os=af.os/\AllBare s'.gens) af:=by
  intro H hO hS hok hA hK;have aP: ∀{b:Addr} {o:Obj},af.heap.get? b=some o->H b=none->(qi8 af.heap H).get? b=some o:=λe n=>qlg e n;have other: ∀{b:Addr} {o:Obj},af.heap.get? b=some o->(∀xs n,o.data≠.seq xs n)->(o.cls≠.none)->H b=none:=λ{b o} e d d2=>by
   cases q:H b with
   |none=>rfl
   |some u=>
    rcases hA b (by rw[q];simp) with z|z
    ·subst z;rw[ha] at e;cases e;exact absurd rfl (d _ _)
    ·rw[hT b z] at e;cases e;exact absurd rfl d2
  have eT: ∀{b:Addr} {o:Obj} {es:Array DictEntry} {ep:Nat},af.heap.get? b=some o->o.data= .dict es ep->H b=none:=λ{b o es ep} e d=>by
   cases q:H b with
   |none=>rfl
   |some u=>
    rcases hA b (by rw[q];simp) with z|z
    ·subst z;rw[ha] at e;cases e;have d':Data.seq vs.toArray _=Data.dict es ep:=d;cases d'
    ·rw[hT b z] at e;cases e;have d':Data.fields _=Data.dict es ep:=d;cases d'
  have fV: ∀{b:Addr} {m:Str->Option Value},af.heap.Ns b m->(qi8 af.heap H).Ns b m:=λ{b m} ⟨o,es,ep,e,d,r⟩=>⟨o,es,ep,aP e (eT e d),d,r⟩
  have jw:K.In (qi8 af.heap H):=λb o e=>aP (KX b o e) (by
   cases q:H b with
   |none=>rfl
   |some u=>
    rcases hA b (by rw[q];simp) with z|z
    ·subst z;rw[hK (by rw[q];simp)] at e;cases e
    ·rw[hKT b z] at e;cases e)
  have hM:Mod K mg (qi8 af.heap H):=⟨jw,fV eA,⟨mb,fV hb,hbb⟩,let ⟨mc,h1,h2⟩:=dO;⟨mc,fV h1,h2⟩⟩
  have hCb: ∀p∈aE,W.CodeHd (qi8 af.heap H) p.1 p.2:=λp hp=>by obtain⟨o,bX,file,tf,flags,tg,inF,text,tt,e1,e2,e3,r⟩:=hC p hp;exact⟨o,bX,file,tf,flags,tg,inF,text,tt,aP e1 (other e1 (λxs n z=>by rw[e3] at z;cases z) (λz=>by rw[e2] at z;cases z)),e2,e3,r⟩
  have hBb:qfm mg (qi8 af.heap H):=by obtain⟨bm,ob,b1,b2,b3,b4,b5,b6⟩:=iG;exact⟨bm,ob,b1,b2,aP b3 (other b3 (λxs n z=>by rw[b6] at z;cases z) (λz=>by rw[b4] at z;cases z)),b4,b5,b6⟩
  have e0:qrG P w K mg (qi8 af.heap H) callerA [] af H:=⟨rfl,hM,λb o e=>qnD e,Nat.le_of_eq (qi7 _ _),trivial,λb hb=>absurd (show b∈([]:List Addr) from hb) (by simp),hok,.of_eq hg⟩
  refine codeAny_mono ((F _ jw (fV eA) hCb hBb).run callerA [] af H ⟨[.ref a],[]⟩ [.ref a] [.ref a] _ _ hr e0 (fJ af (.ref a)) (.cons rfl .nil) (eg H hO hS)) λr s' h=> ?_;cases r with
  |error e=>exact(iM H e s' h).elim
  |ok fl=>
   cases fl with
   |next|brk|cont=>exact False.elim h
   |ret u=>
    obtain⟨v,H',os,bare,un,fk,r',q⟩:=h;have q':v= .bl true:=q;subst q';obtain rfl:u=Value.bool true:=r';have old: ∀b o,b∉aE.map (·.2)->af.heap.get? b=some o->s'.heap.get? b=some o:=λb o b9 e=>by
     cases q:H b with
     |none=>exact un.keep b o e q (by intro z;exact absurd (show b∈([]:List Addr) from z) (by simp)) (by simp)
     |some u=>
      rcases hO.2 b b9 with z|⟨ob,xs,z⟩
      ·rw[q] at z;cases z
      ·have z2:=un.frzs b ob _ z;obtain⟨e1,_⟩:=hok b _ z;obtain⟨e2,_⟩:=fk b _ z2;rw[e] at e1;cases e1;exact e2
    have tb: ∀T∈aE.map (·.2),∃more,s'.heap.get? T=some (W.tabObj (#[]++more)):=λT d8=>by obtain⟨more,hT'⟩:=un.tbls T _ (hO.1 T d8);exact⟨more,fk T _ hT'⟩
    refine⟨rfl,⟨λb o e=> ?_,λb o e=> ?_⟩,os,bare⟩
    ·by_cases z:b∈aE.map (·.2)
     ·obtain⟨more,iI⟩:=tb b z;rw[hT b z] at e;cases e;obtain⟨p,hp,rfl⟩:=List.mem_map.mp z;exact .inr (.inl ⟨((hC p hp).tab (hT _ z)).isCodeTable,rfl, #[],more,rfl,iI⟩)
     ·exact .inl (old b o z e)
    ·by_cases z:b∈aE.map (·.2)
     ·obtain⟨more,iI⟩:=tb b z;exact⟨_,iI⟩
     ·exact⟨o,old b o z e⟩
 have aT:a∉aE.map (·.2):=λz=>by rw[hT a z] at ha;cases ha
 cases hk:K.lookup a with
 |some o=>
  have e:=KX a o hk;rw[ha] at e;cases e;refine core (λb=>if b∈aE.map (·.2) then some (.tbl #[]) else none) ⟨λT d8=>if_pos d8,λb hb=>.inl (if_neg hb)⟩ (.inr ⟨_,vs.toArray,_,hk,rfl,rfl,rfl,by rw[List.size_toArray,gU];exact hl,by simpa using rv⟩) (λb u z=> ?_) (λb z=> ?_) λz=>absurd (if_neg aT) z
  ·by_cases hb:b∈aE.map (·.2)
   ·have z':=(if_pos hb).symm.trans z;cases z';exact hT b hb
   ·have z':=(if_neg hb).symm.trans z;cases z'
  ·by_cases hb:b∈aE.map (·.2)
   ·exact .inr hb
   ·exact absurd (if_neg hb) z
 |none=>
  refine core (λb=>if b∈aE.map (·.2) then some (.tbl #[]) else if b=a then some (.frz { cls:=.type "list",data:=.seq vs.toArray } (.lst (ns.map V.int))) else none) ⟨λT d8=>if_pos d8,λb b9=> ?_⟩ (.inl (.inr ⟨{ cls:=.type "list",data:=.seq vs.toArray },(if_neg aT).trans (if_pos rfl)⟩)) (λb u z=> ?_) (λb z=> ?_) λ_=>hk
  ·by_cases hb:b=a
   ·exact .inr ⟨_,_,(if_neg b9).trans (if_pos hb)⟩
   ·exact .inl ((if_neg b9).trans (if_neg hb))
  ·by_cases b9:b∈aE.map (·.2)
   ·have z':=(if_pos b9).symm.trans z;cases z';exact hT b b9
   ·by_cases hb:b=a
    ·have z':=((if_neg b9).trans (if_pos hb)).symm.trans z;cases z';subst hb;exact⟨ha,by rw[List.length_map];exact hl,vs,_,rv,ha⟩
    ·have z':=((if_neg b9).trans (if_neg hb)).symm.trans z;cases z'
  ·by_cases b9:b∈aE.map (·.2)
   ·exact .inr b9
   ·by_cases hb:b=a
    ·exact .inl hb
    ·exact absurd ((if_neg b9).trans (if_neg hb)) z
theorem walk_ofTs {l:W.OpenLaw} {n k:Nat} {q:Program} {loose:List Str} {XP:(Str->Option Value)->Heap->Prop} {YP:World->Heap->Prop} {d:DefRec} {K:Params->W.Frag} {CX:World->CXT} {sp:World->List (Addr×Addr)->Sp} {x:Str} {ys:List Str} (hn:l.most=some n) (hn2:n<=sizeLine) (fF:d.params.defaults=[]) (hr:qb4 k callerA) (hY: ∀(w:World) (h:Heap),YP w h->(K w.params).In h) (bu: ∀y∈ys,∃dx,(recsOf q).find? (λe=>e.name==y)=some dx) (F: ∀(w:World) (mg:Str->Option Value) (fa:Addr) (h:Heap),(K w.params).In h->h.Ns mainGlobals mg->mg d.name=some (.ref fa)->
   ∃(fd:FuncData) (aE:List (Addr×Addr)),ys.map (W.tabIn (K w.params))=aE.map some/\(∀T∈aE.map (·.2),(K w.params).lookup T=none)/\(∀(s:Shared) (u:Value),BindsTo s fd ⟨[u],[]⟩ [(x,u)])/\
    (∀base:Heap,(K w.params).In base->base.Ns mainGlobals mg->(∀p∈aE,W.CodeHd base p.1 p.2)->qfm mg base->qg7 l.prog w (K w.params) mg base (CX w) k fa fd [x] (sp w aE))) (eg: ∀(w:World) (aE:List (Addr×Addr)) (H:Hp) (a:Addr) (ns:List Int),ns.length<=n->qg6 (aE.map (·.2)) H->SqL (K w.params) H a (ns.map V.int)->sp w aE [.ref a] H (λv _=>v= .bl true) λ_ _ _=>False) (iM: ∀(w:World) (H:Hp) (s:Shared) (e:Value) (s':Shared),CX w [] H s (λ_ _ _=>False) e s'->False):
  W.WalkO q loose XP YP l.row.toRowW d [] (λf vs=>PySem.call f vs):=by
 refine Att.attach_call hn fF λw s₀ af mg mb fa o pm cd doc a vs ns G Y ho hd bH ig dM hints hlen hg=> ?_;have KX:=hY w _ Y;obtain⟨fd,aE,ht,hkt,hb,hF⟩:=F w mg fa _ KX G.T.g ig;have each: ∀p∈aE,W.CodeHd af.heap p.1 p.2/\af.heap.get? p.2=some (W.tabObj #[]):=λp hp=>by
  have hm:some p∈ys.map (W.tabIn (K w.params)):=by rw[ht];exact List.mem_map.mpr ⟨p,hp,rfl⟩
  obtain⟨y,hy,ey⟩:=List.mem_map.mp hm;obtain⟨dx,hdx⟩:=bu y hy;exact W.tab_of G.T KX hdx ey
 have hC:=λp hp=>(each p hp).1;have hT: ∀T∈aE.map (·.2),af.heap.get? T=some (W.tabObj #[]):=λT d8=>by obtain⟨p,hp,rfl⟩:=List.mem_map.mp d8;exact(each p hp).2
 exact qhD KX G.T.g G.T.b G.T.builtins G.T.nolimit hg dM hints (Vr hlen hn2) hr hC hT hkt G.T.bmain hF hb (λH hO hS=>eg w aE H a ns hlen hO hS) λH e s'=>iM w H af e s'
end L2
namespace PL
open PySem L2 SR SetL
theorem nodup_fst: ∀{l:List (Addr×β)},(l.map (·.1)).Nodup->∀{a b:Addr×β},a∈l->b∈l->a.1=b.1->a=b
 |[],_,_,_,h,_,_=>by cases h
 |x::l,nd,a,b,ha,hb,e=>by
  rw[List.map_cons,List.nodup_cons] at nd
  rcases List.mem_cons.mp ha with rfl|jr
  ·rcases List.mem_cons.mp hb with rfl|aR
   ·rfl
   ·exact absurd (by rw[e];exact List.mem_map.mpr ⟨b,aR,rfl⟩) nd.1
  ·rcases List.mem_cons.mp hb with rfl|aR
   ·exact absurd (by rw[<-e];exact List.mem_map.mpr ⟨a,jr,rfl⟩) nd.1
   ·exact nodup_fst nd.2 jr aR e
end PL
namespace L2
open PySem PySem.Spec PySem.Calls PyProof.Rows
def qg5(P:Addr)(qual:Str)(H:Hp):Prop:=
 ∃ps,H P=some (.tbl ps)/\PySem.TriplesOk ps.toList/\∀pos v,PySem.codeAmong pos ps.toList=some v->∃c,v= .ref c/\H c=some (qdk c qual)
theorem qhV(l:List Value)(h:PySem.TriplesOk l)(e:PySem.codeAmong pos (l++[.int a t,.int b u,x])=some v):PySem.codeAmong pos l=some v\/v=x:=by
 fun_induction PySem.TriplesOk l with
 |case1=>
  simp only[List.nil_append,PySem.codeAmong] at e;split at e
  ·exact .inr (Option.some.inj e).symm
  ·cases e
 |case2 a t b u x qbG ih=>
  simp only[List.cons_append,PySem.codeAmong] at e⊢;split at e
  ·rename_i hc;rw[if_pos hc];exact .inl e
  ·rename_i hc;rw[if_neg hc];exact ih h e
 |case3 l h1 h2=>exact h.elim
def qql(f:Addr)(o:Obj):HO:=.ext λh=>h.get? f=some o
theorem qiV(e:h.get? f=some o):qax P w H h f (qql f o):=⟨e,⟨_,e⟩,λ_ _ p k=>k _ p⟩
def qve(P:Addr)(qual:Str)(ob:Addr->Value->Obj):TE:=λ_ H Q=>qg5 P qual H/\∀(f c':Addr) (aW:Value) (H':Hp),qg5 P qual H'->qdm P H H'->(∀b,H b≠none->H' b≠none)->H f=none->H' f=some (qql f (ob c' aW))->H' c'=some (qdk c' qual)->Q (.ref f) H'
theorem qnk (df:X.env.code= .ref c) (C:W.CodeHd X.base c P) (hb: ∃bm ob,X.mg "__builtins__" =some (.ref bm)/\bm≠builtinsNs/\X.base.get? bm=some ob/\ob.cls= .type "module" /\ob.dict=some builtinsNs/\ob.data= .plain) (ai: ∀y∈scope.names,y.2= .free->X.env.kindOf y.1=some .cell\/X.env.kindOf y.1=some .free) (hd:defaultsOf params X.env=([],[])) (hq:X.env.qual++("<lambda>" :Str)=qual):
  PE X (.Lambda params body scope pos) (qve P qual λc' aW=>W.kla_obj "<lambda>" qual params body scope (clOf X.env scope.names []) ((X.mg "__name__").getD .none) c' aW):=by
 intro pins s σ H Q I hQ;obtain⟨⟨ps,hP,eY,ia⟩,h⟩:=hQ;have hgP:mainGlobals≠P:=λz=>by obtain⟨o,es,ep,e,ji,_⟩:=I.mod.glob;have:=(I.bs _ _ e).2;rw[z,hP] at this;cases this
 have ju:s.heap.get? P=some (W.tabObj ps):=I.hok P _ hP;have CS:W.CodeHd s.heap c P:=C.keeps I.bk;have jl:s.heap.BuiltinsAt X.mg P:=by
  obtain⟨bm,ob,b1,b2,b3,b4,b5,b6⟩:=hb;refine⟨bm,ob,b1,b2,λz=> ?_,λz=> ?_,I.bk _ _ b3,b4,b5,b6⟩
  ·obtain⟨o,es,ep,e,ji,_⟩:=I.mod.glob;rw[z,e] at b3;cases b3;rw[ji] at b6;cases b6
  ·have:=(I.bs _ _ b3).2;rw[z,hP] at this;cases this
 have hg:s.heap.Ns mainGlobals X.mg:=I.mod.glob.keeps I.bk;have cC:closureFor scope X.env=pure (clOf X.env scope.names []):=qdD λy hy e=>I.ok.has y.1 (ai y hy e);refine W.kla_eval hd ?_;rw[hq];cases hn:PySem.codeAmong pos ps.toList with
 |none=>
  refine W.kla_makeFunction cC I.ok.glob hg df CS ju eY hn hgP jl λc' aW h' tk hx dW aI bu htb=> ?_;have I1:Inv X pins σ (upd (upd H P (.tbl (ps++ #[rawInt pos.line,rawInt pos.col,.ref c']))) c' (qdk c' qual)) { s with heap:=h',toks:=tk }:=I.grow hP hx htb dW ⟨bu,by
    obtain⟨c2,oc,vs,tq,e,ho,_⟩:=bu;cases e;exact⟨oc,ho⟩,λh1 h2 p k=>qf6 p k⟩
  have nP:P≠c':=Vp (Vn (I.hok P _ hP).lt dW);have I2:=I1.laid (t':=tk) (o:=qql h'.objs.size (W.kla_obj "<lambda>" qual params body scope (clOf X.env scope.names []) ((X.mg "__name__").getD .none) c' aW)) (λb u e=>Vg _ e) (Vm _) (qiV (Vh _ rfl));have nf: ∀b o,(upd (upd H P (.tbl (ps++ #[rawInt pos.line,rawInt pos.col,.ref c']))) c' (qdk c' qual)) b=some o->b≠h'.objs.size:=λb o e=>Vp (I1.hok b _ e).lt;have b8:(upd (upd H P (.tbl (ps++ #[rawInt pos.line,rawInt pos.col,.ref c']))) c' (qdk c' qual)) c'=some (qdk c' qual):=qaf;have gq:(upd (upd H P (.tbl (ps++ #[rawInt pos.line,rawInt pos.col,.ref c']))) c' (qdk c' qual)) P=some (.tbl (ps++ #[rawInt pos.line,rawInt pos.col,.ref c'])):=by rw[qaa nP,qaf]
  have old: ∀b o,H b=some o->b≠P->(upd (upd H P (.tbl (ps++ #[rawInt pos.line,rawInt pos.col,.ref c']))) c' (qdk c' qual)) b=some o:=λb o e hb=>by rw[qaa (Nat.ne_of_lt (Nat.lt_of_lt_of_le (I.hok b _ e).lt dW)),qaa hb];exact e
  refine⟨.ref h'.objs.size,_,I2,rfl,h h'.objs.size c' aW _ ⟨_,by rw[qaa (nf _ _ gq)];exact gq,?_,λp v e=> ?_⟩ (λb o e hb=> ?_) (λb e z=> ?_) ?_ qaf (by rw[qaa (nf _ _ b8)];exact b8)⟩
  ·rw[Array.toList_append];exact qcj rfl rfl _ eY
  ·rw[Array.toList_append] at e
   rcases qhV _ eY e with e|e
   ·obtain⟨c2,rfl,e2⟩:=ia p v e;have e3:=old c2 _ e2 (λz=>by rw[z,hP] at e2;cases e2);exact⟨c2,rfl,by rw[qaa (nf _ _ e3)];exact e3⟩
   ·exact⟨c',e,by rw[qaa (nf _ _ b8)];exact b8⟩
  ·have e3:=old b o e hb;rw[qaa (nf _ _ e3)];exact e3
  ·cases q:H b with
   |none=>exact e q
   |some o=>
    by_cases zb:b=P
    ·subst zb;rw[qaa (nf _ _ gq),gq] at z;cases z
    ·have e3:=old b o q zb;rw[qaa (nf _ _ e3),e3] at z;cases z
  ·cases q:H h'.objs.size with
   |none=>rfl
   |some o=>exact absurd (Vn (I.hok _ _ q).lt (Vr dW (Vq aI))) (Nat.lt_irrefl _)
 |some cv=>
  obtain⟨c2,rfl,hH⟩:=ia pos cv hn;refine W.kla_makeFunctionHit (cv:=.ref c2) cC I.ok.glob hg df CS ju eY hn jl λaW h' tk kp sz=> ?_;have I1:Inv X pins σ H { s with heap:=h',toks:=tk }:=I.kept (t':=tk) kp;have I2:=I1.laid (t':=tk) (o:=qql h'.objs.size (W.kla_obj "<lambda>" qual params body scope (clOf X.env scope.names []) ((X.mg "__name__").getD .none) c2 aW)) (λb u e=>Vg _ e) (Vm _) (qiV (Vh _ rfl));have nf: ∀b o,H b=some o->b≠h'.objs.size:=λb o e=>Vp (I1.hok b _ e).lt;refine⟨.ref h'.objs.size,_,I2,rfl,h h'.objs.size c2 aW _ ⟨ps,by rw[qaa (nf _ _ hP)];exact hP,eY,λp v e=> ?_⟩ (λb o e hb=>by rw[qaa (nf _ _ e)];exact e) (λb e z=> ?_) (I1.hok.fresh (Vm _)) qaf (by rw[qaa (nf _ _ hH)];exact hH)⟩
  ·obtain⟨c3,rfl,e3⟩:=ia p v e;exact⟨c3,rfl,by rw[qaa (nf _ _ e3)];exact e3⟩
  ·cases q:H b with
   |none=>exact e q
   |some o=>rw[qaa (nf _ _ q),q] at z;cases z
structure qt7(k:Nat)(A:Around):Prop where
 dp:A.depth+3*k+5<recursionLimit
 un:A.units+16*k+200<cLine
structure FnN(P:Program)(w:World)(K:W.Frag)(mg:Str->Option Value)(base:Heap)(k:Nat)(f:Addr)(fd:FuncData)(ps:List Str)(sp:List V->Hp->VK->Prop):Prop where
 len: ∀vs H Q,sp vs H Q->vs.length=ps.length
 run: ∀(A:Around) (outer:List Env) (s:Shared) (H:Hp) (args:Args) (us:List Value) (vs:List V) (Q:VK),qt7 k A->qrG P w K mg base A outer s H->BindsTo s fd args (ps.zip us)->Vals vs us->sp vs H Q->
  codeAny (model P w) A (.call (.ref f) args) (CR CX0 outer P w H s Q (λ_ _ _=>False)) s
def qsh(base:Heap)(wd:Addr->Option Str):List V->Hp->VK->Prop:=λvs H Q=> ∃a C bm x,vs=[.ref a]/\H a=some (ExO a C)/\qh2 base C bm/\wd C=some x/\∀H':Hp,(∀b o,H b=some o->H' b=some o)->Q (.str x) H'
structure qrF(st:Stmt):Prop where
 sc:qdc ["_law_deed", "e"] ["_law_deed"] (qae st)
 bd: ∃p1 p2 p3 p4 p5 p6 p7 p8 p9 p10,qaw st=[.Try [.Return (some (.Call (.Name "_law_deed" p1) [] [] p2)) p3] [.ExceptHandler (some (.Name "AskError" p4)) (some "e") [.Return (some (.Call (.Name "_law_class" p5) [.Name "e" p6] [] p7)) p8] p9] [] [] p10]
 d:(qae st).names.lookup ("_law_deed" :Str)=some .local
 e:(qae st).names.lookup ("e" :Str)=some .local
 a:(qae st).names.lookup ("AskError" :Str)=some .globalImplicit
 c:(qae st).names.lookup ("_law_class" :Str)=some .globalImplicit
end L2
namespace PL
open PySem L2 SR SetL
theorem passI:qbC (CXE P w) (qgR (CXE P w) P w K mg base N qual scope f cd A outer s H E) E:=qsL λ_ _ h=>h
section
theorem tabq_same(h:qg5 Q qual H)(hP:H P=some (.tbl ps))(ne:Q≠P)(s:qdm P H H2):qg5 Q qual H2:=by obtain⟨qs,h1,h2,h3⟩:=h;refine⟨qs,s _ _ h1 ne,h2,λpos v e=> ?_⟩;obtain⟨c,e1,e2⟩:=h3 pos v e;exact⟨c,e1,s _ _ e2 λz=>by rw[z,hP] at e2;cases e2⟩
end
end PL
namespace HD
open PySem L2 PL
abbrev e2(x:Str)(s:Stmt):Str×Stmt:=(x,s)
abbrev c2(x:Str)(n:Int):Str×Int:=(x,n)
def qtC(K:W.Frag)(x:Str):Option (Addr×Obj):=match W.nsIn K mainGlobals x with
 |some (some (.ref f))=>(match K.lookup f with|some o=>some (f,o)|none=>none)
 |_=>none
def qob(K:W.Frag)(x:Str):Option FuncData:=match qtC K x with
 |some (_,⟨_,_,.func fd,_⟩)=>some fd
 |_=>none
def okD(K:W.Frag)(x:Str):Bool:=match qtC K x with
 |some (f,⟨_,_,.func fd,_⟩)=>W.codeIn K fd.code x&&W.keepIn K (.ref f)
 |_=>false
def due(x:Str)(st:Stmt)(fd:FuncData):FuncData:=W.fnOf x x (qan st) (qaw st) (qae st) .none fd.kwdefaults fd.doc fd.pyModule fd.annotations fd.code fd.closureTuple
def okN(K:W.Frag)(x:Str):Bool:=match W.nsIn K mainGlobals x with
 |some none=>true
 |_=>false
def Df(K:W.Frag)(mg:Str->Option Value)(x:Str)(st:Stmt):Prop:=
 ∃(f:Addr) (oc:Value) (od:Option Addr) (osl:Array (Option Value)) (kV doc pm:Value) (an:Option Addr) (cdv ct:Value),
  K.lookup f=some ⟨oc,od,.func (W.fnOf x x (qan st) (qaw st) (qae st) .none kV doc pm an cdv ct),osl⟩/\W.codeIn K cdv x=true/\W.keepIn K (.ref f)=true/\mg x=some (.ref f)/\
   W.nsIn K mainGlobals x=some (some (.ref f))
section
theorem qtM(X:K.In h)(G:h.Ns mainGlobals mg)(a:okD K x=true)(e:qob K x=(qob K x).map (due x st)):Df K mg x st:=by
 unfold okD at a;unfold qob at e;split at a
 ·rename_i f oc od fd osl q;rw[q] at e;have e:fd=due x st fd:=Option.some.inj e;unfold qtC at q;split at q
  ·rename_i f' n;split at q
   ·rename_i o lk;cases q;have a:=Bool.and_eq_true_iff.mp a;exact⟨_,_,_,_,fd.kwdefaults,fd.doc,fd.pyModule,fd.annotations,fd.code,fd.closureTuple,by rw[lk,show W.fnOf x x (qan st) (qaw st) (qae st) .none fd.kwdefaults fd.doc fd.pyModule fd.annotations fd.code fd.closureTuple=fd from e.symm],a.1,a.2,W.mg_of X G n,n⟩
   ·cases q
  ·cases q
 ·cases a
theorem qmq{K:W.Frag}{h:Heap}{tb:List (Str×Stmt)}(X:K.In h)(G:h.Ns mainGlobals mg)(a:(tb.all λp=>okD K p.1)=true)(e:tb.map (λp=>qob K p.1)=tb.map λp=>(qob K p.1).map (due p.1 p.2)): ∀(i:Nat) (x:Str) (st:Stmt),tb[i]? =some (x,st)->Df K mg x st:=λi x st hi=>by have a:=List.all_eq_true.mp a _ (Vv hi);have e:=congrArg (λl=>l[i]?) e;simp only[List.getElem?_map,hi,Option.map_some] at e;exact qtM X G a (Option.some.inj e)
theorem qsX{K:W.Frag}{h:Heap}(X:K.In h)(G:h.Ns mainGlobals mg){l:List Str}(a:l.all (okN K)=true): ∀x∈l,mg x=none:=λx hx=>by
 have a:=List.all_eq_true.mp a x hx;unfold okN at a;split at a
 ·rename_i q;exact W.mg_none_of X G q
 ·cases a
end
def tOf(K:W.Frag)(y:Str):Addr:=((W.tabIn K y).getD (0,0)).2
def qf4(K:W.Frag)(ys:List Str):List (Addr×Addr):=ys.map λy=>(W.tabIn K y).getD (0,0)
def okT(K:W.Frag)(ys:List Str):Bool:=decide (ys.map (tOf K)).Nodup&&ys.all λy=>match W.tabIn K y with
 |some (_,T)=>(match K.lookup T with|none=>true|some _=>false)
 |none=>false
theorem qlA(h:okT K ys=true):ys.map (W.tabIn K)=(qf4 K ys).map some/\(∀T∈(qf4 K ys).map (·.2),K.lookup T=none)/\(ys.map (tOf K)).Nodup:=by
 have h:=Bool.and_eq_true_iff.mp h;have nd:=of_decide_eq_true h.1;have h:=List.all_eq_true.mp h.2;refine⟨?_,?_,nd⟩
 ·unfold qf4;rw[List.map_map];refine List.map_congr_left λy hy=> ?_;have:=h y hy;show W.tabIn K y=some ((W.tabIn K y).getD (0,0));cases q:W.tabIn K y with
  |none=>rw[q] at this;cases this
  |some p=>rfl
 ·intro T hT;obtain⟨p,hp,rfl⟩:=List.mem_map.mp hT;obtain⟨y,hy,rfl⟩:=List.mem_map.mp hp;have:=h y hy;cases q:W.tabIn K y with
  |none=>rw[q] at this;cases this
  |some p=>
   rw[q] at this;dsimp only at this;show K.lookup p.2=none;split at this
   ·assumption
   ·cases this
end HD
namespace PL
open PySem L2
end PL
namespace St
open PySem PySem.W PySem.Calls PyProof.Rows
section
theorem sorted_c (cB:wpAny (model prog w) A.in1 (collect v) (λvs s1=> ∃(h1:Heap) (t1:Nat) (κ:SortKind) (kz:List Int),s1={ s with heap:=h1,toks:=t1 }/\Kp s.heap h1/\kz.length=vs.length/\vs.length<64/\
   (∀s':Shared,Kp h1 s'.heap->2<=vs.length->∀(Q:SortKind->Shared->Prop) (E:Value->Shared->Prop),Q κ s'->wpAny (model prog w) A.in1.in1 (keyKind' vs.toArray) Q E s')/\
   (∀s':Shared,Kp h1 s'.heap->∀i j,i<vs.length->j<vs.length->∀C:Bool->Shared->Prop,C (decide (kz.getD i 0<kz.getD j 0)) s'->wpAny (model prog w) A.in1.in1 (keyLt' κ (vs.getD i Value.none) (vs.getD j Value.none)) C (λ_ _=>False) s')/\
   ∀D h' tk c (p:Array Nat),h1.objs.size<=D->Kp h1 h'->qbq kz vs.length p->h'.get? D=some (seqObj "list" (List.toArray (p.toList.map λi=>vs.getD i Value.none)) c)->Q (.ref D) { s with heap:=h',toks:=tk }) E s):
  wpAny (model prog w) A (call (.builtin "sorted") [v]) Q E s:=by
 refine Calls.call_function_entry kind_sorted plain_sorted entry_sorted (args_sorted1 _) ?_;unfold Builtin.«sorted»;refine Va (m:=checkCount "sorted" 1 1 _) (Vb ?_);refine Va (Vc cB (λvs s1 h=> ?_) λ_ _ x=>x);obtain⟨H1,t1,κ,kz,rfl,f7,hlen,aY,kind,cmp,h⟩:=h;refine Va (wpAny_newList ?_ (by rw[sizeLine_eq];lia));have bN:Kp H1 (H1.push (seqObj "list" vs.toArray 0)):=λb o q=>Vg _ q;have cM:(H1.push (seqObj "list" vs.toArray 0)).get? H1.objs.size=some (seqObj "list" vs.toArray 0):=Vh _ rfl;refine Va (wpAny_holding (wpAny_call_entry slot_list_sort ⟨_,cM,rfl⟩ entry_list_sort ?body (args_list_sort _)))
 case body=>
  refine lsort_p (h0:=H1) (kz:=kz) (κ:=κ) (s:={ s with heap:=H1.push (seqObj "list" vs.toArray 0),toks:=t1 }) cM hlen aY bN (get_none (Vm _)) (λs' k h2 Q hq=>kind s' k h2 Q _ hq) cmp λh' tk c p a1 a2 a3=>⟨_,rfl,?_⟩
  exact Vb ⟨_,rfl,h _ h' tk c p (Vm _) a1 a2 a3⟩
end
end St
namespace L2
open PySem PySem.Spec PyProof.Rows
theorem is_kV(h:(qap P w).is k u=true):RelV (kV k) u:=by
 cases k with
 |inl i=>
  cases u with
  |int j t=>
   have:j=i:=by simpa [qap,keyIs,Value.isInt,Value.isStrOf] using h
   subst this;exact⟨t,rfl⟩
  |_=>simp[qap,keyIs,Value.isInt,Value.isStrOf] at h
 |inr x=>
  cases u with
  |str j t=>
   have:j=x:=by simpa [qap,keyIs,Value.isInt,Value.isStrOf] using h
   subst this;exact⟨t,rfl⟩
  |_=>simp[qap,keyIs,Value.isInt,Value.isStrOf] at h
end L2
namespace PL
open PySem L2 SR SetL
end PL
namespace PL
open PySem L2
theorem qnE{P:Program}{w:World}{H:Hp}{h:Heap}{p:Addr}(hp:H p=some (.dK [])): ∀(o:HO) (a:Addr),qax P w H h a o->qax P w (upd H p (.dT [])) h a o:=by
 intro o
 induction o with
 |lst xs|tup xs|dK kvs=>exactλa h=>h
 |dT kvs=>
  intro a h;obtain⟨z,y,xs,r,qbG⟩:=h;refine⟨z,y,xs,?_,qbG⟩;clear qbG z y
  induction r with
  |nil=>exact .nil
  |cons c _ ih=>refine .cons ⟨c.1,?_,c.2.2⟩ ih;rw[qaa (λz=>by rw[z,hp] at c;cases c.2.1)];exact c.2.1
 |set S n=>exactλa h=>h
 |ins C dx fs=>intro a h;obtain⟨h1,r⟩:=h;exact⟨by rw[qaa (λz=>by rw[z,hp] at h1;cases h1)];exact h1,r⟩
 |own x|xd fs|rng lo hi=>exactλa h=>h
 |frz o u ih=>exactλa h=>⟨h.1,ih a h.2⟩
 |_=>exactλa h=>h
theorem Inv.asT{X:Cx}{pins:List (Addr×Obj)}{σ:St}{H:Hp}{s:Shared}{p:Addr}(I:L2.Inv X pins σ H s)(hp:H p=some (.dK [])):L2.Inv X pins σ (upd H p (.dT [])) s:=by
 have no: ∀{b:Addr},H b=none->upd H p (.dT []) b=none:=λ{b} h=>by rw[qaa (λz=>by rw[z,hp] at h;cases h)];exact h
 have same: ∀{b:Addr} {o:HO},H b=some o->o≠.dK []->upd H p (.dT []) b=some o:=λ{b o} h n=>by rw[qaa (λz=>n (by rw[z,hp] at h;exact(Option.some.inj h).symm))];exact h
 refine⟨I.ok,I.os,I.bare,⟨I.base.keep,I.base.slot,λb o a h e=>no (I.base.free b o a h e),I.base.there,λb xs h=>same (I.base.tups b xs h) (by simp),λb o u h=>same (I.base.frzs b o u h) (by simp),λb ps h=> ?_⟩,I.loc,I.cell,no I.free,λx c h=>no (I.freeC x c h),λq hq=> ?_,λa o h=> ?_,I.len⟩
 ·obtain⟨more,e⟩:=I.base.tbls b ps h;exact⟨more,same e (by simp)⟩
 ·obtain⟨a,b,c⟩:=I.pin q hq;exact⟨a,no b,c⟩
 ·by_cases z:a=p
  ·subst z;rw[qaf] at h;cases h;obtain⟨z1,z2,vs,kv,d⟩:=(show qax X.prog X.w H s.heap a (.dK []) from I.hok a _ hp)
   cases kv;obtain⟨o,es,ep,h1,h2,h3,h4,h5,h6⟩:=d;exact⟨z1,z2,[],.nil,o,es,ep,h1,h2,h3,by generalize es.toList=l at h5⊢;cases h5;rfl,List.nodup_nil⟩
  ·rw[qaa z] at h;exact qnE hp o a (I.hok a o h)
open SR SetL
end PL
namespace DH
open PySem PySem.Spec PyProof.Rows PySem.W
def RawD(h:Heap)(d:Addr)(es:Array DictEntry)(ep:Nat):Prop:= ∃o,h.get? d=some o/\o.ExactDict/\o.data= .dict es ep
theorem RawD.at(x:RawD h d es ep)(k: ∀o,h.get? d=some o->h'.get? d=some o):RawD h' d es ep:=let ⟨o,a,b⟩:=x;⟨o,k o a,b⟩
theorem RawD.lt(x:RawD h d es ep):d<h.objs.size:=let ⟨_,a,_⟩:=x;Vi a
theorem RawD.ty{s:Shared}{ep:Nat}(x:RawD s.heap d es ep):s.TypeIs (.ref d) "dict" :=let ⟨o,a,b,_⟩:=x;⟨o,a,b.1⟩
theorem qs9 {s:Shared} {es:Array DictEntry} {ep:Nat} (lo:(d==sysModules)=false) (x:RawD s.heap d es ep) (q:Q (.ref s.heap.objs.size) { s with heap:=s.heap.push { cls:=.type "dict_keyiterator",data:=.fields #[.ref d,.int 0 0,.int es.size 0,.int ep 0] } }):wpAny (model prog w) A (pyIter (.ref d)) Q E s:=by obtain⟨o,ho,hx,hd⟩:=id x;have ty:=x.ty;refine wpAny_pyIter_slot ty F.slot_dict_iter (wpAny_call_entry F.slot_dict_iter ty F.entry_dict_iter ?_ (F.args_dict_iter_1 _));unfold Builtin.«dict.__iter__»;refine Va ?_;unfold Builtin.Dict.dictSlotNone;refine Va (wpAny_notOrdered_dict ty ?_);refine Vb (a:=Value.ref d) ?_;show wpAny _ _ (Builtin.Dict.showsAll d>>=_) _ _ s;unfold Builtin.Dict.showsAll;rw[if_neg (by rw[lo];exact Vs)];refine Va (Vb ?_);refine Va (wpAny_dictEntries ho hd (Va (wpAny_dictEpoch ho hd ?_)));exact Va (wpAny_newObj_type (Vb ⟨_,rfl, "dict_keyiterator",_,⟨_,Vh _ rfl,rfl⟩,F.slot_dict_keyiterator_next.lookup,by simpa [rawInt] using q⟩))
theorem qsZ(hi:s.heap.IsKeyIter it d i es.size ep)(x:RawD s.heap d es ep)(lt:i<es.size)(q: ∀h',h'.IsKeyIter it d (i+1) es.size ep->Heap.SameBut it s.heap h'->Q (some es[i].key) { s with heap:=h' }):wpAny (model prog w) A (pyNext (.ref it)) Q E s:=by
 obtain⟨o,ho,hc,hd⟩:=id hi;obtain⟨od,bQ,hx2,hd2⟩:=id x;have ty:=hi.typeIs;unfold pyNext;refine Va (wpAny_attempt (wpAny_callSpecial?_slot (name:=Str.ofString "__next__") ty F.slot_dict_keyiterator_next (wpAny_call_entry F.slot_dict_keyiterator_next ty F.entry_dict_keyiterator_next ?_ (F.args_dict_keyiterator_next_1 _))));refine Va (Vb ?_);refine Va ?_;refine Va ?_
 first|refine Va (wpAny_typeNameOfWhole_keyiter ty (Vb ?_))|refine Va (wpAny_typeNameOf_keyiter ty (Vb ?_))
 refine Va (wpAny_fieldsOf ho hd ?_);have ow:Builtin.Dict_items.ownsTuple "dict_keyiterator" =false:=by decide
 simp only[ow,Bool.false_eq_true,if_false];show wpAny _ _ (if(Value.ref d==Value.none)=true then _ else _) _ _ s;rw[if_neg (show ¬((Value.ref d==Value.none)=true) from Bool.false_ne_true)];refine Va (Vb ?_);refine Va (wpAny_dictEntries bQ hd2 ?_);rw[if_neg (by simp)];refine Va (Vb ?_);refine Va (wpAny_dictEpoch bQ hd2 ?_);rw[if_neg (by simp)];refine Vb ?_;simp only[show ¬((i:Int)<0) from by omega,if_false,Int.toNat_natCast,Array.getElem?_eq_getElem lt];refine Va ?_
 first|refine Va (wpAny_typeNameOfWhole_keyiter ty (Vb ?_))|refine Va (wpAny_typeNameOf_keyiter ty (Vb ?_))
 refine Va (wpAny_isOneOf_keyiter ty ?_);show wpAny _ _ (setField (.ref it) 1 (rawInt ((i:Int)+1))>>=_) _ _ s;refine Va (wpAny_setField ho hd (by simp) ?_);have gi:(s.heap.update it (Obj.mapFields (·.setIfInBounds 1 (rawInt ((i:Int)+1))))).IsKeyIter it d (i+1) es.size ep:=⟨_,Heap.get?_update_self _ ho (Obj.isFreed_of_fields (Obj.data_mapFields hd _)),(Obj.cls_mapFields ..).trans hc,by rw[Obj.data_mapFields hd];simp[rawInt]⟩
 refine Va (wpAny_holding ?_);refine Va (wpAny_isOneOf_keyiter (s:={ s with heap:=s.heap.update it (Obj.mapFields (·.setIfInBounds 1 (rawInt ((i:Int)+1)))) }) gi.typeIs ?_);show wpAny _ _ (pure es[i].key) _ _ _;exact Vb (Vb ⟨_,rfl,Vb (q _ gi (Heap.SameBut.update ..))⟩)
theorem qv6(hh:A.handled=none)(hi:s.heap.IsKeyIter it d i es.size ep)(x:RawD s.heap d es ep)(ge:es.size<=i)(q: ∀h',Heap.ExtBut it s.heap h'->Q none { s with heap:=h' }):wpAny (model prog w) A (pyNext (.ref it)) Q E s:=by
 obtain⟨o,ho,hc,hd⟩:=id hi;obtain⟨od,bQ,hx2,hd2⟩:=id x;have ty:=hi.typeIs;unfold pyNext;refine Va (wpAny_attempt (wpAny_callSpecial?_slot (name:=Str.ofString "__next__") ty F.slot_dict_keyiterator_next (wpAny_call_entry F.slot_dict_keyiterator_next ty F.entry_dict_keyiterator_next ?_ (F.args_dict_keyiterator_next_1 _))));refine Va (Vb ?_);refine Va ?_;refine Va ?_
 first|refine Va (wpAny_typeNameOfWhole_keyiter ty (Vb ?_))|refine Va (wpAny_typeNameOf_keyiter ty (Vb ?_))
 refine Va (wpAny_fieldsOf ho hd ?_);have ow:Builtin.Dict_items.ownsTuple "dict_keyiterator" =false:=by decide
 simp only[ow,Bool.false_eq_true,if_false];show wpAny _ _ (if(Value.ref d==Value.none)=true then _ else _) _ _ s;rw[if_neg (show ¬((Value.ref d==Value.none)=true) from Bool.false_ne_true)];refine Va (Vb ?_);refine Va (wpAny_dictEntries bQ hd2 ?_);rw[if_neg (by simp)];refine Va (Vb ?_);refine Va (wpAny_dictEpoch bQ hd2 ?_);rw[if_neg (by simp)];refine Vb ?_;simp only[show ¬((i:Int)<0) from by omega,if_false,Int.toNat_natCast,Array.getElem?_eq_none ge];refine Va ?_
 first|refine Va (wpAny_typeNameOfWhole_keyiter ty (Vb ?_))|refine Va (wpAny_typeNameOf_keyiter ty (Vb ?_))
 show wpAny _ _ (setField (.ref it) 0 .none>>=_) _ _ s;refine Va (wpAny_setField ho hd (by simp) ?_);show wpAny _ _ (newExc (.type "StopIteration") []>>=_) _ _ _;refine Va ?_;simp only[newExc,newTuple];refine Va (wpAny_newObj_type ?_ (by size_fits));refine Va (m:=firstArgMember _ _) (wpAny_of_eq (a:=Value.none) (by first|rfl|(simp only[firstArgMember];rfl)) ?_);refine wpAny_newObj_type ?_ (by size_fits);simp only[raiseNew];refine Va (wpAny_handled ?_);rw[show A.in1.handled=none from hh];refine Va (Vb (wpAny_throw ?_));refine Va (wpAny_isInstance (T:= "StopIteration") (b:=true) ⟨_,Vh _ rfl,rfl⟩ isSubtype_stop ?_);exact Vb (q _ (((Heap.SameBut.update ..).extBut.push _).push _))
theorem qr0 (hh:A.handled=none) (I d:Addr) (ne:d≠I) (es:Array DictEntry) (ep:Nat):
  Walks prog w A I [I,d] [I] es.size (λi v=> ∃e,es[i]? =some e/\v=e.key) (λi h=>h.IsKeyIter I d i es.size ep/\RawD h d es ep) where
 sub:=λb hb=>by simp at hb;simp[hb]
 frame:=λ_ _ _ st hk=>⟨st.1.at λo e=>hk I (by simp) o e,st.2.at λo e=>hk d (by simp) o e⟩
 item:=λi s Q E hi st hQ=>qsZ st.1 st.2 hi λh' a b=>hQ _ h' s.toks ⟨es[i],by simp[hi],rfl⟩ ⟨a,st.2.at λo e=>b.extBut d o ne e⟩ λc o hc e=>b.extBut c o (λz=>hc (by simp[z])) e
 done:=λs Q E st hQ=>qv6 hh st.1 st.2 (Vm _) λh' b=>hQ h' s.toks λc o hc e=>b c o (λz=>hc (by simp[z])) e
 self:=λ_ _ _ _ st hQ=>wpAny_pyIter_keyiter st.1 hQ
theorem qvm{es:Array DictEntry}{ep:Nat}(lo:(d==sysModules)=false):KdlSrc prog w "dict" d d es.size (λi v=> ∃e,es[i]? =some e/\v=e.key) (λh=>RawD h d es ep) where
 type:=λ_ m=>m.ty
 there:=λ_ m=>⟨m.lt,m.lt⟩
 keep:=λ_ _ m k=>m.at λo e=>k d (.inl rfl) o e
 notList:=by decide
 notTuple:=by decide
 hint:=λ_ _ _ _ m q=>kdl_hint_dict m.ty q
 iter:=λ_ _ hh m=>⟨_,_,λ_ _ q=>qs9 lo m q,qr0 hh _ d (Vp m.lt) es ep,⟨⟨_,Vh _ rfl,rfl,rfl⟩,m.at λo e=>Vg _ e⟩⟩
theorem collectD(hh:A.handled=none)(lo:(d==sysModules)=false)(m:RawD s.heap d es ep)(hn:es.size<=sizeLine)(h: ∀(h':Heap) (tk:Nat),(∀b o,s.heap.get? b=some o->h'.get? b=some o)->R (es.toList.map (·.key)) { s with heap:=h',toks:=tk }):wpAny (model prog w) A (collect (.ref d)) R E s:=by
 refine kdu_collect (qvm lo) hh m hn λh' tk acc k hI=> ?_;have:acc.toList=es.toList.map (·.key):=by
  refine List.ext_getElem? λj=> ?_;rw[List.getElem?_map,Array.getElem?_toList,Array.getElem?_toList];by_cases c:j<acc.size
  ·obtain⟨e,h1,h2⟩:=hI.2 j acc[j] (by simp[c]);rw[h1,Array.getElem?_eq_getElem c,h2];rfl
  ·have: ¬j<es.size:=by rw[<-hI.1];exact c
   rw[Array.getElem?_eq_none (by omega),Array.getElem?_eq_none (by omega)];rfl
 rw[this];exact h h' tk k
open L2
end DH
namespace PL
open PySem L2
section
theorem dt_keys (I:L2.Inv X pins σ H s) (hp:H p=some (.dT us)): ∃(qs:List Addr) (es:Array DictEntry) (ep:Nat),DH.RawD s.heap p es ep/\(p==sysModules)=false/\us.length<=sizeLine/\es.toList.map (·.key)=qs.map Value.ref/\es.size=us.length/\qs.length=us.length/\
  ∀(j:Nat) (q:Addr),qs[j]? =some q->∃k v,us[j]? =some (k,v)/\H q=some (.tup (k.map kV)):=by
 obtain⟨hz,lo,xs,kt,o,es,ep,ho,hx,hd,he,hk,nd⟩:=qqU I.hok hp;have lx:us.length=xs.length:=Paired.length kt;refine⟨xs.map (·.2.1),es,ep,⟨o,ho,hx,hd⟩,lo,hz,by rw[he,List.map_map,List.map_map];rfl,?_,by rw[List.length_map,lx],λj q e=> ?_⟩
 ·have:=congrArg List.length he;rw[List.length_map] at this;rw[lx,<-this];simp
 ·have go: ∀{us:List (List Key×V)} {xs:List (List Key×Addr×Value)} {j:Nat} {q:Addr},KT H us xs->(xs.map (·.2.1))[j]? =some q->∃k v,us[j]? =some (k,v)/\H q=some (.tup (k.map kV)):=λ{us xs j q} kt=>by
   induction kt generalizing j with
   |nil=>intro e;cases j<;>cases e
   |cons c _ ih=>
    intro e;cases j with
    |zero=>rw[List.map_cons,List.getElem?_cons_zero] at e;have e:=Option.some.inj e;refine⟨_,_,List.getElem?_cons_zero,?_⟩;rw[<-e];exact c.2.1
    |succ j=>obtain⟨k,v,e1,e2⟩:=ih (j:=j) (by simpa using e);exact⟨k,v,by simpa using e1,e2⟩
  exact go kt e
end
open SR SetL
end PL
namespace PL
open PySem L2
end PL
namespace HD
open PySem L2 PL
def clOf(K:W.Frag)(x:Str):Addr:=match W.nsIn K mainGlobals x with
 |some (some (.ref C))=>C
 |_=>0
end HD
namespace PL
open PySem L2 SR SetL
end PL
namespace HD
open PySem L2 PL
def qoB:List Str:=["Ended", "Full", "NoAsk", "NoBack", "NoName", "NoNumber", "NoRow", "NoText", "TooLate", "Unlike"]
def nsC(K:W.Frag)(x:Str):Bool:=match W.nsIn K mainGlobals x with
 |some (some (.ref _))=>true
 |_=>false
theorem qqe(X:K.In h)(G:h.Ns mainGlobals mg)(a:nsC K x=true):mg x=some (.ref (clOf K x)):=by
 unfold nsC at a;split at a
 ·rename_i C n;have e:clOf K x=C:=by unfold clOf;rw[n]
  rw[e];exact W.mg_of X G n
 ·cases a
structure qws(K:W.Frag)(mg:Str->Option Value):Prop where
 a:mg "AskError" =some (.ref (clOf K "AskError"))
 ea:qe7 K (clOf K "AskError") bmV=true
 m: ∀j<10,mg (qoB.getD j "")=some (.ref (clOf K (qoB.getD j "")))
 e: ∀j<10,qe7 K (clOf K (qoB.getD j "")) (.ref (clOf K "AskError")::bmV)=true
 c: ∀j<10,(W.clsIn K (clOf K (qoB.getD j ""))).isSome=true
 v: ∀j<10,W.kitOne K (.ref (clOf K (qoB.getD j ""))) (.type "ValueError")=some true
 k: ∀j<10,∀i<10,W.kitOne K (.ref (clOf K (qoB.getD j ""))) (.ref (clOf K (qoB.getD i "")))=some (i==j)
theorem qr7{Ts:List Addr}{p:Addr×Str}(h: ∀T∈Ts,H T=some (.tbl #[]))(hp:p∈Ts.zip qz):qg5 p.1 p.2 H:=⟨#[],h _ (List.of_mem_zip hp).1,trivial,λpos v e=>by cases e⟩
end HD
namespace L2
open PySem PySem.Spec PySem.Calls PyProof.Rows
end L2
namespace PL
open PySem L2 SR SetL
end PL
namespace L2
open PySem PySem.Spec PyProof.Rows
end L2
namespace PL
open PySem L2
end PL
section
set_option maxHeartbeats 1000000
namespace TM
open PySem Builtin PySem.Spec
end TM
namespace L2
open PySem PySem.Spec PyProof.Rows
end L2
namespace PL
open PySem L2
end PL
end
namespace NV
open PySem L2
inductive Ito where
 |fx (ts:List T)|lv (k:Nat)
def nxt:Ito->Mu->Nat->Option (Option T)
 |.fx ts,_,i=>some ts[i]?
 |.lv k,μ,i=>match μ.l[k]? with|some (.ls ts)=>some ts[i]?|_=>none
def qbN:Ito->Mu->Nat
 |.fx ts,_=>ts.length
 |.lv k,μ=>match μ.l[k]? with|some (.ls ts)=>ts.length|_=>0
def qhX(M:Md)(J:It)(B1:qah)(it:Ito):Prop:= ∀aa H' B',Hs M aa H' B'->Le B1 B'->∀i:Nat,
 (∀t,nxt it aa i=some (some t)->J.go i H'/\∀x cj,J.yld i H' x cj->∃iV,Hs M aa cj iV/\Go H' B' cj iV/\Rep M.K iV t x)/\((∀ts,it= .fx ts->i<=ts.length)->nxt it aa i=some none->J.stop i H')
def KI(M:Md)(H:Hp)(B:qah)(R:It->Hp->Prop):Ito->Mu->Prop:=λit μ=> ∀J H1 B1,Hs M μ H1 B1->Go H B H1 B1->qbN it μ<=sizeLine->qhX M J B1 it->R J H1
def tI(M:Md)(E:XK)(d:DS0 Ito):TI:=λσ H R=> ∃ρ μ B,Ev M ρ μ σ H B/\Wn M E H B (KI M H B R) (d ρ μ)
def qme:T->Mu->R Ito
 |.lst ts,μ=>.ok (.fx ts) μ
 |.tup ts,μ=>.ok (.fx ts) μ
 |.obj k,μ=>(match μ.l[k]? with|some (.ls _)=>.ok (.lv k) μ|_=>.no)
 |.str z,μ=>if z.length<=1000 then .ok (.fx (z.cps.toList.map λc=>.str ⟨#[c]⟩)) μ else .no
 |_,_=>.no
def dIt(da:DS0 T):DS0 Ito:=dSq da λt _ μ=>qme t μ
def qu5(lo hi:Int):List T:=(List.range (hi - lo).toNat).map λk=>.int (lo+(k:Nat))
def qco:List T->Mu->R Ito
 |[.int n],μ=>if n<=1000000/\ -1000000<=n then .ok (.fx ((List.range n.toNat).map λk=>.int (k:Nat))) μ else .no
 |_,_=>.no
def qgs:List T->Mu->R Ito
 |[.int m,.int n],μ=>if(n<=1000000/\ -1000000<=n)/\m<=1000000/\ -1000000<=m then .ok (.fx (qu5 m n)) μ else .no
 |_,_=>.no
def sqv(μ:Mu):T->Option (Bool×List T)
 |.lst ts=>some (true,ts)
 |.tup ts=>some (false,ts)
 |.obj k=>(match μ.l[k]? with|some (.ls ts)=>some (true,ts)|_=>none)
 |_=>none
def qqQ(xs:List T):List T:=xs.zipIdx.map λp=>.tup [.int (p.2:Nat),p.1]
def qqR:List T->Mu->R Ito
 |[.lst xs],μ=>.ok (.fx (qqQ xs)) μ
 |[.tup xs],μ=>.ok (.fx (qqQ xs)) μ
 |_,_=>.no
def dIA(g:List T->Mu->R Ito)(ds:DS0 (List T)):DS0 Ito:=dSq ds λts _ μ=>g ts μ
section
variable {M:Md}{E:XK}{X:Cx}{tg e a b:Expr}{da:DS0 T}{ds:DS0 (List T)}
theorem PI.or{t t':TI}(h:PI X tg e t)(h':PI X tg e t'):PI X tg e (λσ H R=>t σ H R\/t' σ H R):=λpins s σ H R I q=>q.elim (h pins s σ H R I) (h' pins s σ H R I)
theorem qdj:PI X tg e (tI M E dNo):=λ_ _ _ _ _ _ ⟨_,_,_,_,w⟩=>w.elim
theorem qh4{p:Addr}{vs:List V}{ts:List T}{B1:qah}(hp:B1 p=some (.lst vs))(r:Reps M.K B1 ts vs):qhX M (Itl M.K p) B1 (.fx ts):=λaa H' B' h le i=>by
 have q:SqL M.K H' p vs:=SqL.of (h.bh _ _ (le.h _ _ hp));refine⟨λt et=> ?_,λhl hi=> ?_⟩
 ·obtain⟨x,ex,rx⟩:=r.get (Option.some.inj et);refine⟨⟨vs,x,q,ex⟩,λy cj ⟨e1,e2⟩=> ?_⟩;subst e1;have:=e2 vs q;rw[ex] at this;cases this;exact⟨B',h,.refl,rx.mono le⟩
 ·exact⟨vs,q,by rw[r.length];exact List.getElem?_eq_none_iff.mp (Option.some.inj hi)⟩
theorem qkj{p:Addr}{vs:List V}{ts:List T}{B1:qah}(hp:B1 p=some (.tup vs))(r:Reps M.K B1 ts vs):qhX M (Itt M.K p) B1 (.fx ts):=λaa H' B' h le i=>by
 have q:SqT M.K H' p vs:=SqT.of (h.bh _ _ (le.h _ _ hp));refine⟨λt et=> ?_,λhl hi=> ?_⟩
 ·obtain⟨x,ex,rx⟩:=r.get (Option.some.inj et);refine⟨⟨vs,x,q,ex⟩,λy cj ⟨e1,e2⟩=> ?_⟩;subst e1;have:=e2 vs q;rw[ex] at this;cases this;exact⟨B',h,.refl,rx.mono le⟩
 ·exact⟨vs,q,by rw[r.length];exact List.getElem?_eq_none_iff.mp (Option.some.inj hi)⟩
theorem qmE{k:Nat}{p:Addr}{B1:qah}(hp:B1.ad k=some p):qhX M (Itl M.K p) B1 (.lv k):=λaa H' B' h le i=>by
 have go: ∀{o:Option T},nxt (.lv k) aa i=some o->∃ts vs,o=ts[i]? /\SqL M.K H' p vs/\Reps M.K B' ts vs:=λ{o} e=>by
  have e:(match aa.l[k]? with|some (.ls ts)=>some ts[i]?|_=>none)=some o:=e;split at e
  ·rename_i ts el;cases e;obtain⟨u,_,hu,vs,rfl,rv⟩:=h.at el (by simp) (le.d _ _ hp);exact⟨ts,vs,rfl,SqL.of hu,rv⟩
  ·cases e
 refine⟨λt et=> ?_,λhl hi=> ?_⟩
 ·obtain⟨ts,vs,e,q,r⟩:=go et;obtain⟨x,ex,rx⟩:=r.get e.symm;refine⟨⟨vs,x,q,ex⟩,λy cj ⟨e1,e2⟩=> ?_⟩;subst e1;have:=e2 vs q;rw[ex] at this;cases this;exact⟨B',h,.refl,rx⟩
 ·obtain⟨ts,vs,e,q,r⟩:=go hi;exact⟨vs,q,by rw[r.length];exact List.getElem?_eq_none_iff.mp e.symm⟩
theorem qkk{z:Str}{B1:qah}{J:It}(hJ:J=⟨λi _=>i<z.cps.size,λi H x H'=>H'=H/\∃c,z.cps[i]? =some c/\x= .str ⟨#[c]⟩,λi _=>z.cps.size<=i⟩):qhX M J B1 (.fx (z.cps.toList.map λc=>.str ⟨#[c]⟩)):=λaa H' B' h le i=>by
 subst hJ;refine⟨λt et=> ?_,λhl hi=> ?_⟩
 ·have et:=Option.some.inj et;rw[List.getElem?_map] at et;cases q:z.cps.toList[i]? with
  |none=>rw[q] at et;cases et
  |some c=>rw[q] at et;cases et;have hi:=(List.getElem?_eq_some_iff.mp q).1;refine⟨show i<z.cps.size by simpa using hi,λy cj ⟨e1,c',e2,e3⟩=> ?_⟩;subst e1 e3;rw[Array.getElem?_toList] at q;rw[q] at e2;cases e2;exact⟨B',h,.refl,qcp⟩
 ·have hi:=List.getElem?_eq_none_iff.mp (Option.some.inj hi);rw[List.length_map,Array.length_toList] at hi;exact hi
theorem qq1(h:PE X e (tE M E da))(hK:X.K=M.K):PI X tg e (tI M E (dIt da)):=by
 refine PI.weak (PI.or (PL.pi_seq h) (qpD h)) λσ H R hq=> ?_;obtain⟨ρ,μ,B,ev,w⟩:=hq;rw[hK];have w:Wn M E H B (KI M H B R) ((da ρ μ).bind qme):=w;cases q:da ρ μ with
 |no=>rw[q] at w;exact w.elim
 |ex c m=>rw[q] at w;exact .inl ⟨ρ,μ,B,ev,by rw[q];exact w⟩
 |ok t m=>
  rw[q] at w;have w:Wn M E H B (KI M H B R) (qme t m):=w;cases t with
  | lst ts=>exact .inl ⟨ρ,μ,B,ev,by
    rw[q];intro v H1 B1 h1 g1 r1;obtain⟨p,vs,rfl,hp,r⟩:=qau r1;exact⟨p,rfl,.inl ⟨vs,SqL.of (h1.bh _ _ hp),λhz=>w _ H1 B1 h1 g1 (by show ts.length<=_;rw[<-r.length];exact hz) (qh4 hp r)⟩⟩⟩
  | tup ts=>exact .inl ⟨ρ,μ,B,ev,by
    rw[q];intro v H1 B1 h1 g1 r1;obtain⟨p,vs,rfl,hp,r⟩:=qaq r1;exact⟨p,rfl,.inr ⟨vs,SqT.of (h1.bh _ _ hp),λhz=>w _ H1 B1 h1 g1 (by show ts.length<=_;rw[<-r.length];exact hz) (qkj hp r)⟩⟩⟩
  | obj k=>exact .inl ⟨ρ,μ,B,ev,by
    rw[q];intro v H1 B1 h1 g1 r1;obtain⟨p,rfl,ep⟩:=qaF r1;unfold qme at w;dsimp only at w;split at w
    ·rename_i ts el;obtain⟨u,_,hu,vs,rfl,rv⟩:=h1.at el (by simp) ep;exact⟨p,rfl,.inl ⟨vs,SqL.of hu,λhz=>w _ H1 B1 h1 g1 (by show(match m.l[k]? with|some (.ls ts)=>ts.length|_=>0)<=_;rw[el];show ts.length<=_;rw[<-rv.length];exact hz) (qmE ep)⟩⟩
    ·exact w.elim⟩
  | str z=>exact .inr ⟨ρ,μ,B,ev,by
    rw[q];intro v H1 B1 h1 g1 r1;cases qat r1;have w:Wn M E H B (KI M H B R) (if z.length<=1000 then _ else _):=w;split at w
    ·rename_i hz;exact⟨z,rfl,w _ H1 B1 h1 g1 (by show(z.cps.toList.map _).length<=_;rw[List.length_map,Array.length_toList];exact Vq (qbk hz)) (qkk rfl)⟩
    ·exact w.elim⟩
  |_=>exact w.elim
theorem qdo{lo:Int}{n:Nat}{B1:qah}:qhX M (L2.Itr lo n) B1 (.fx ((List.range n).map λk=>.int (lo+(k:Nat)))):=λaa H' B' h le i=>by
 refine⟨λt et=> ?_,λhl hi=> ?_⟩
 ·have et:=Option.some.inj et;rw[List.getElem?_map] at et;cases q:(List.range n)[i]? with
  |none=>rw[q] at et;cases et
  |some j=>rw[q] at et;cases et;obtain⟨hi,ej⟩:=List.getElem?_eq_some_iff.mp q;rw[List.getElem_range] at ej;subst ej;refine⟨show i<n by simpa using hi,λy cj ⟨e1,e2⟩=> ?_⟩;subst e1 e2;exact⟨B',h,.refl,qay⟩
 ·have hi:=List.getElem?_eq_none_iff.mp (Option.some.inj hi);rw[List.length_map,List.length_range] at hi;exact hi
theorem qju {p pos:Pos} (hg:Gl X "range") (hm:X.mg "range" =none) (ha:PA X [a] (tA M E ds)) (hs:starEach [a] X.env=[(false,eval a X.env)]):PI X tg (.Call (.Name "range" p) [a] [] pos) (tI M E (dIA qco ds)):=by
 refine PI.weak (qiE hg hm ha hs) λσ H R ⟨ρ,μ,B,ev,w⟩=>⟨ρ,μ,B,ev,(Wn.bind w).mono λts m w1 vs H1 B1 h1 g1 r1=> ?_⟩
 change Wn M E H B (KI M H B R) (qco ts m) at w1
 unfold qco at w1;split at w1
 ·rename_i n;obtain⟨v,r,rfl,a1,b1⟩:=r1.inv;cases b1.inv0;cases qad a1;split at w1
  ·rename_i hn;have l0:=PL.line1M;refine⟨n,rfl,by omega,by omega,w1 _ H1 B1 h1 g1 (by show(List.map _ _).length<=_;rw[List.length_map,List.length_range];omega) ?_⟩;have:=qdo (M:=M) (lo:=0) (n:=n.toNat) (B1:=B1);simpa using this
  ·exact w1.elim
 ·exact w1.elim
theorem qjt {p pos:Pos} (hg:Gl X "range") (hm:X.mg "range" =none) (ha:PA X [a,b] (tA M E ds)) (hs:starEach [a,b] X.env=[(false,eval a X.env),(false,eval b X.env)]) (cT:starEach [b] X.env=[(false,eval b X.env)]):PI X tg (.Call (.Name "range" p) [a,b] [] pos) (tI M E (dIA qgs ds)):=by
 refine PI.weak (qiD hg hm ha hs cT) λσ H R ⟨ρ,μ,B,ev,w⟩=>⟨ρ,μ,B,ev,(Wn.bind w).mono λts m w1 vs H1 B1 h1 g1 r1=> ?_⟩
 change Wn M E H B (KI M H B R) (qgs ts m) at w1
 unfold qgs at w1;split at w1
 ·rename_i i n;obtain⟨v,r,rfl,a1,b1⟩:=r1.inv;obtain⟨v2,r2,rfl,a2,b2⟩:=b1.inv;cases b2.inv0;cases qad a1;cases qad a2;split at w1
  ·rename_i hn;have l0:(1000000:Nat)<=sizeLine:=by decide
   have l1:2000000<=sizeLine:=by decide
   exact⟨i,n,rfl,by omega,w1 _ H1 B1 h1 g1 (by show(List.map _ _).length<=_;rw[List.length_map,List.length_range];omega) qdo⟩
  ·exact w1.elim
 ·exact w1.elim
end
def qkn(k:DS0 Out):Out->Mu->R Out
 |.nx ρ,μ=>k ρ μ
 |.ct ρ,μ=>k ρ μ
 |.bk ρ,μ=>.ok (.nx ρ) μ
 |.rt t,μ=>.ok (.rt t) μ
def qe4(it:Ito)(dg:T->DS0 Ro)(db:DS0 Out):Nat->Nat->DS0 Out
 |0,i=>λρ μ=>match nxt it μ i with|some none=>.ok (.nx ρ) μ|_=>.no
 |n+1,i=>λρ μ=>match nxt it μ i with
  |some none=>.ok (.nx ρ) μ
  |some (some t)=>(dg t ρ μ).bind λaB ah=>(db aB ah).bind (qkn (qe4 it dg db n (i+1)))
  |none=>.no
def qtz(dg:T->DS0 Ro)(db:DS0 Out):List T->DS0 Out
 |[]=>λρ μ=>.ok (.nx ρ) μ
 |t::ts=>λρ μ=>(dg t ρ μ).bind λaB ah=>(db aB ah).bind (qkn (qtz dg db ts))
theorem qji{dg:T->DS0 Ro}{db:DS0 Out}{ts:List T}: ∀(n i:Nat),ts.length<=n+i->qe4 (.fx ts) dg db n i=qtz dg db (ts.drop i)
 |0,i,h=>by
  have e:ts[i]? =none:=List.getElem?_eq_none_iff.mpr (by omega)
  funext ρ μ
  rw[List.drop_eq_nil_of_le (by omega)];show(match some ts[i]? with|some none=>R.ok (Out.nx ρ) μ|_=>.no)=_;rw[e];rfl
 |n+1,i,h=>by
  funext ρ μ
  show(match some ts[i]? with|some none=>R.ok (Out.nx ρ) μ|some (some t)=>_|none=>.no)=_;cases q:ts[i]? with
  |none=>rw[List.drop_eq_nil_of_le (List.getElem?_eq_none_iff.mp q)];rfl
  |some t=>obtain⟨hi,et⟩:=List.getElem?_eq_some_iff.mp q;rw[List.drop_eq_getElem_cons hi,et];show(dg t ρ μ).bind (λaB ah=>(db aB ah).bind (qkn (qe4 (.fx ts) dg db n (i+1))))=_;rw[qji n (i+1) (by omega)];rfl
def qrT(dg:T->DS0 Ro)(db:DS0 Out):Ito->DS0 Out
 |.fx ts=>qtz dg db ts
 |.lv k=>λρ μ=>qe4 (.lv k) dg db (qbN (.lv k) μ) 0 ρ μ
def quV(di:DS0 Ito)(dg:T->DS0 Ro)(db:DS0 Out):DS0 Out:=dSq di (qrT dg db)
theorem qjj{dg:T->DS0 Ro}{db:DS0 Out}{it:Ito}{ρ:Ro}{μ:Mu}:qrT dg db it ρ μ=qe4 it dg db (qbN it μ) 0 ρ μ:=by
 cases it with
 |fx ts=>rw[qji _ 0 (by exact Nat.le_refl _)];rfl
 |lv k=>rfl
section
variable {M:Md}{E:XK}{X:Cx}{tg iter:Expr}{body:List Stmt}{pos:Pos}{di:DS0 Ito}{dg:T->DS0 Ro}{db:DS0 Out}
theorem qqZ (hp:PassesOwn (model X.prog X.w) X.A X.env X.xe) (hc:X.calm=true) (hi:PI X tg iter (tI M E di)) (hg:PG X tg (tG M E dg)) (hb:PSs X body (tS M E db))
  (hs: ∀x,foldedSetIterable iter X.env x=pure x):PS X (.For tg iter body [] pos) (tS M E (quV di dg db)):=by
 refine PS.weak (qpz hp hc hi hg hb hs) λD σ H ⟨ρ,μ,B,ev,w⟩=>⟨ρ,μ,B,ev,(Wn.bind w).mono λit m w1 J H1 B1 h1 g1 hz wk=> ?_⟩
 have w1:Wn M E H B (KS M H B D) (qrT dg db it ρ m):=w1;rw[qjj] at w1;refine⟨λi n aj H'=> ∃ae aa B',Ev M ae aa aj H' B'/\Go H1 B1 H' B'/\(∀ts,it= .fx ts->i<=ts.length)/\Wn M E H B (KS M H B D) (qe4 it dg db n i ae aa),⟨_,ρ,m,B1,ev.on h1 g1.le,.refl,λ_ _=>Nat.zero_le _,w1⟩,?_⟩;rintro i n aj H' ⟨ae,aa,B',cF,g',hl,w2⟩;have stop:nxt it aa i=some none->(R.ok (Out.nx ae) aa=qe4 it dg db n i ae aa)->J.stop i H'/\D.nx aj H':=λe q=>by rw[<-q] at w2;exact⟨(wk aa H' B' cF.hs g'.le i).2 hl e,w2 aj H' B' cF (g1.trans g')⟩
 cases q:nxt it aa i with
 |none=>cases n<;>(unfold qe4 at w2;rw[q] at w2;exact w2.elim)
 |some o=>
  cases o with
  |none=>exact .inl (stop q (by cases n<;>(unfold qe4;rw[q])))
  |some t=>
   cases n with
   |zero=>unfold qe4 at w2;rw[q] at w2;exact w2.elim
   |succ n=>
    have w2:Wn M E H B (KS M H B D) ((dg t ae aa).bind λaB ah=>(db aB ah).bind (qkn (qe4 it dg db n (i+1)))):=by unfold qe4 at w2;rw[q] at w2;exact w2
    obtain⟨go,yl⟩:=(wk aa H' B' cF.hs g'.le i).1 t q;refine .inr ⟨go,λeJ cj=> ∃aD ak B2,Ev M aD ak eJ cj B2/\Go H1 B1 cj B2/\(∀ts,it= .fx ts->i+1<=ts.length)/\Wn M E H B (KS M H B D) (qe4 it dg db n (i+1) aD ak),λeJ cj h=>⟨n,Wb n,h⟩,λx H3 y=> ?_⟩;obtain⟨B3,h3,g3,r3⟩:=yl x H3 y;have gg:=g1.trans (g'.trans g3);have bG: ∀ts,it= .fx ts->i+1<=ts.length:=λts e=>by subst e;exact(List.getElem?_eq_some_iff.mp (Option.some.inj q)).1
    refine⟨ae,aa,B3,t,cF.on h3 g3.le,r3,(Wn.bind w2).lift gg λaB ah w3 dj H4 B4 e4 g4=> ?_⟩;refine⟨aB,ah,B4,e4,(Wn.bind w3).lift (gg.trans g4) λo ak w4=> ?_⟩;cases o with
    |nx aD|ct aD=>exactλcY H5 B5 e5 g5=>⟨aD,ak,B5,e5,((g'.trans g3).trans g4).trans g5,bG,w4⟩
    |bk aD=>exactλcY H5 B5 e5 g5=>w4 cY H5 B5 e5 ((gg.trans g4).trans g5)
    |rt t'=>exact KE.le w4 (gg.trans g4)
end
def qbl(n:Nat)(fr:List Nat)(ρ:Ro):Ro:=List.replicate n none++fr.map λi=>(ρ[i]?).join
def qaV(it:Ito)(dg:T->DS0 Ro)(dt:DS0 Bool)(de:DS0 T):Nat->Nat->DS0 (List T)
 |0,i=>λρ μ=>match nxt it μ i with|some none=>.ok [] μ|_=>.no
 |n+1,i=>λρ μ=>match nxt it μ i with
  |some none=>.ok [] μ
  |some (some t)=>(dg t ρ μ).bind λaB ah=>(dt aB ah).bind λc ak=>if c=true then(de aB ak).bind λy bq=>(qaV it dg dt de n (i+1) aB bq).bind λys bW=>.ok (y::ys) bW else qaV it dg dt de n (i+1) aB ak
  |none=>.no
def qlD(dg:T->DS0 Ro)(dt:DS0 Bool)(de:DS0 T):List T->DS0 (List T)
 |[]=>λρ μ=>.ok [] μ
 |t::ts=>λρ μ=>(dg t ρ μ).bind λaB ah=>(dt aB ah).bind λc ak=>if c=true then(de aB ak).bind λy bq=>(qlD dg dt de ts aB bq).bind λys bW=>.ok (y::ys) bW else qlD dg dt de ts aB ak
theorem qgT{dg:T->DS0 Ro}{dt:DS0 Bool}{de:DS0 T}{ts:List T}: ∀(n i:Nat),ts.length<=n+i->qaV (.fx ts) dg dt de n i=qlD dg dt de (ts.drop i)
 |0,i,h=>by
  have e:ts[i]? =none:=List.getElem?_eq_none_iff.mpr (by omega)
  funext ρ μ
  rw[List.drop_eq_nil_of_le (by omega)];show(match some ts[i]? with|some none=>R.ok ([]:List T) μ|_=>.no)=_;rw[e];rfl
 |n+1,i,h=>by
  funext ρ μ
  show(match some ts[i]? with|some none=>R.ok ([]:List T) μ|some (some t)=>_|none=>.no)=_;cases q:ts[i]? with
  |none=>rw[List.drop_eq_nil_of_le (List.getElem?_eq_none_iff.mp q)];rfl
  |some t=>obtain⟨hi,et⟩:=List.getElem?_eq_some_iff.mp q;rw[List.drop_eq_getElem_cons hi,et];show(dg t ρ μ).bind (λaB ah=>(dt aB ah).bind λc ak=>if c=true then(de aB ak).bind λy bq=>(qaV (.fx ts) dg dt de n (i+1) aB bq).bind λys bW=>.ok (y::ys) bW else qaV (.fx ts) dg dt de n (i+1) aB ak)=_;rw[qgT n (i+1) (by omega)];rfl
def qjC(dg:T->DS0 Ro)(dt:DS0 Bool)(de:DS0 T):Ito->DS0 (List T)
 |.fx ts=>qlD dg dt de ts
 |.lv k=>λρ μ=>qaV (.lv k) dg dt de (qbN (.lv k) μ) 0 ρ μ
theorem qgU{dg:T->DS0 Ro}{dt:DS0 Bool}{de:DS0 T}{it:Ito}{ρ:Ro}{μ:Mu}:qjC dg dt de it ρ μ=qaV it dg dt de (qbN it μ) 0 ρ μ:=by
 cases it with
 |fx ts=>rw[qgT _ 0 (by exact Nat.le_refl _)];rfl
 |lv k=>rfl
def noX{α:Type}:R α->R α
 |.ok a m=>.ok a m
 |_=>.no
def qrj(x:Bool)(n:Nat)(fr:List Nat)(dg:T->DS0 Ro)(dt:DS0 Bool)(de:DS0 T)(it:Ito):DS0 Ct:=λρ μ=>
 (if x=true then qjC dg dt de it (qbl n fr ρ) μ else noX (qjC dg dt de it (qbl n fr ρ) μ)).bind λys aa=>.ok (.ls ys) aa
def qcd(x:Bool)(n:Nat)(fr:List Nat)(di:DS0 Ito)(dg:T->DS0 Ro)(dt:DS0 Bool)(de:DS0 T):DS0 Ct:=dSq di (qrj x n fr dg dt de)
section
variable {M:Md}{E E':XK}{X:Cx}{tg elt iter:Expr}{ifs:List Expr}{scope:Scope}{pos:Pos}{own:List Str}{fr:List (Str×Nat)}{di:DS0 Ito}{dg:T->DS0 Ro}{dt:DS0 Bool}{de:DS0 T}
theorem qoc{ρ:Ro}{μ:Mu}{σ:St}{H:Hp}{B:qah}(ev:Ev M ρ μ σ H B):Ev M (qbl own.length (fr.map (·.2)) ρ) μ (qeB own fr σ) H B:=by
 refine⟨ev.hs,by unfold qbl qeB;simp,λi t e=> ?_⟩;unfold qbl at e;by_cases hi:i<own.length
 ·rw[List.getElem?_append_left (by simpa using hi),List.getElem?_replicate] at e;split at e<;>cases e
 ·rw[List.getElem?_append_right (by simpa using hi),List.length_replicate,List.getElem?_map,List.getElem?_map] at e;cases q:fr[i - own.length]? with
  |none=>rw[q] at e;cases e
  |some p=>
   rw[q] at e;have e:(ρ[p.2]?).join=some t:=Option.some.inj e;have e':ρ[p.2]? =some (some t):=by
    cases z:ρ[p.2]? with
    |none=>rw[z] at e;cases e
    |some o=>rw[z] at e;exact congrArg some e
   obtain⟨v,e1,e2⟩:=ev.sl _ _ e';refine⟨v,?_,e2⟩;unfold qeB;rw[List.getElem?_append_right (by simpa using hi),List.length_map,List.getElem?_map,q];show some (σ[p.2]?).join=_;rw[e1];rfl
theorem comp_core {x:Bool} (hE:x=true->E'=E) {σ:St} {H:Hp} {B:qah} {ρ:Ro} {μ:Mu} {Q:VK} (ev:Ev M ρ μ σ H B) (w:Wn M E H B (KN M H B Q) (qcd x own.length (fr.map (·.2)) di dg dt de ρ μ)):
  qey (tI M E di) (tG M E' dg) (tT M E' dt) (tE M E' de) own fr σ H λD H'=>Q (.ref D) H':=by
 refine⟨ρ,μ,B,ev,(Wn.bind w).mono λit m w1 J H1 B1 h1 g1 hz wk D hD=> ?_⟩;have w2:Wn M E' H B (λys aa=>KN M H B Q (.ls ys) aa) (qaV it dg dt de (qbN it m) 0 (qbl own.length (fr.map (·.2)) ρ) m):=by
  have w1:Wn M E H B (KN M H B Q) ((if x=true then qjC dg dt de it (qbl own.length (fr.map (·.2)) ρ) m else noX (qjC dg dt de it (qbl own.length (fr.map (·.2)) ρ) m)).bind λys aa=>.ok (.ls ys) aa):=w1;rw[qgU] at w1;cases x with
  |true=>rw[if_pos rfl] at w1;rw[hE rfl];exact Wn.bind w1
  |false=>
   rw[if_neg (by decide)] at w1;cases q:qaV it dg dt de (qbN it m) 0 (qbl own.length (fr.map (·.2)) ρ) m with
   |no|ex c m'=>rw[q] at w1;exact w1.elim
   |ok ys m'=>rw[q] at w1;exact w1
 have bD:=h1.fr hD;have ofD: ∀k,B1.ad k≠some D:=λk e=>(h1.dm k D e).2 hD;have hdD:hid D (upd H1 D (.lst []))=H1:=by
  funext a
  by_cases q:a=D
  ·subst q;rw[qe0,hD]
  ·rw[qcq q,qaa q]
 have hV:Hs M m (upd H1 D (.lst [])) B1:=h1.more λa o e=>by rw[qaa (qam e hD)];exact e
 refine⟨λi n aj H'=> ∃ae aa B' dn ys,Ev M ae aa aj H' B'/\Go H1 B1 (hid D H') B'/\H' D=some (.lst ys)/\B' D=none/\(∀k,B'.ad k≠some D)/\Reps M.K B' dn ys/\ys.length<=i/\n+i=qbN it m/\(∀ts,it= .fx ts->i<=ts.length)/\
  Wn M E' H B (λrs aa=>KN M H B Q (.ls (dn++rs)) aa) (qaV it dg dt de n i ae aa),⟨_,_,m,B1,[],[],qoc (ev.on hV g1.le),by rw[hdD];exact .refl,qaf,bD,ofD,.nil,Vm _,Nat.add_zero _,λ_ _=>Nat.zero_le _,w2⟩,?_⟩
 rintro i n aj H' ⟨ae,aa,B',dn,ys,cF,g',cV,jH,fU,rd,hy,hn,hl,w3⟩;have stop:nxt it aa i=some none->(R.ok ([]:List T) aa=qaV it dg dt de n i ae aa)->J.stop i H'/\Q (.ref D) H':=λe q=>by
  rw[<-q] at w3;refine⟨(wk aa H' B' cF.hs g'.le i).2 hl e,?_⟩;have w3:KN M H B Q (.ls (dn++[])) aa:=w3;rw[List.append_nil] at w3;have:=w3 D (.lst ys) (hid D H') B' (cF.hs.loose jH fU (λa q=>qcq q) λu hu=>by rw[cV] at hu;cases hu;exact .inl ⟨_,rfl⟩) (g1.trans g') qe0 ⟨ys,rfl,rd⟩;have e2:upd (hid D H') D (.lst ys)=H':=by
   funext a
   by_cases q:a=D
   ·subst q;rw[qaf,cV]
   ·rw[qaa q,qcq q]
  rw[e2] at this;exact this
 cases q:nxt it aa i with
 |none=>cases n<;>(unfold qaV at w3;rw[q] at w3;exact w3.elim)
 |some o=>
  cases o with
  |none=>exact .inl (stop q (by cases n<;>(unfold qaV;rw[q])))
  |some t=>
   cases n with
   |zero=>unfold qaV at w3;rw[q] at w3;exact w3.elim
   |succ n=>
    have w3:Wn M E' H B (λrs aa=>KN M H B Q (.ls (dn++rs)) aa) ((dg t ae aa).bind λaB ah=>(dt aB ah).bind λc ak=>if c=true then(de aB ak).bind λy bq=>(qaV it dg dt de n (i+1) aB bq).bind λys bW=>.ok (y::ys) bW else qaV it dg dt de n (i+1) aB ak):=by unfold qaV at w3;rw[q] at w3;exact w3
    obtain⟨go,yl⟩:=(wk aa H' B' cF.hs g'.le i).1 t q;have bG: ∀ts,it= .fx ts->i+1<=ts.length:=λts e=>by subst e;exact(List.getElem?_eq_some_iff.mp (Option.some.inj q)).1
    let NN:List T->List V->St->Hp->Prop:=λjF ys' aN H2=> ∃aD ak B2,Ev M aD ak aN H2 B2/\Go H1 B1 (hid D H2) B2/\H2 D=some (.lst ys)/\B2 D=none/\(∀k,B2.ad k≠some D)/\Reps M.K B2 jF ys'/\Wn M E' H B (λrs aa=>KN M H B Q (.ls (jF++rs)) aa) (qaV it dg dt de n (i+1) aD ak);refine .inr ⟨go,λaN v H2=> ∃y,NN (dn++[y]) (ys++[v]) aN H2,λaN H2=>NN dn ys aN H2,λaN v H6 ⟨y,aD,ak,B2,e2,g2,eF,gB,fS,r2,w⟩=> ?_,λaN H5 ⟨aD,ak,B2,e2,g2,eF,gB,fS,r2,w⟩=> ?_,λy H3 yy=> ?_⟩
    ·have l0:qbN it m<=sizeLine:=hz;refine⟨ys,eF,by omega,n,Wb n,aD,ak,B2,dn++[y],ys++[v],⟨e2.hs.loose gB fS (λa q=>qaa q) (λu hu=>by rw[eF] at hu;cases hu;exact .inl ⟨_,rfl⟩),e2.len,e2.sl⟩,?_,qaf,gB,fS,r2,by rw[List.length_append,List.length_singleton];omega,by omega,bG,w⟩;have e3:hid D (upd H6 D (.lst (ys++[v])))=hid D H6:=by
      funext a
      by_cases q:a=D
      ·subst q;rw[qe0,qe0]
      ·rw[qcq q,qcq q,qaa q]
     rw[e3];exact g2
    ·exact⟨n,Wb n,aD,ak,B2,dn,ys,e2,g2,eF,gB,fS,r2,by omega,by omega,bG,w⟩
    ·obtain⟨B3,h3,g3,r3⟩:=yl y H3 yy;have st: ∀{H4:Hp} {B4:qah},Go H' B' H4 B4->Go H1 B1 (hid D H4) B4/\H4 D=some (.lst ys)/\B4 D=none/\∀k,B4.ad k≠some D:=λ{H4 B4} g=>by refine⟨g'.trans g.hid,g.un D _ cV fU (by simp),?_,g.off (by rw[cV];simp) fU⟩;rw[g.nb D _ cV fU (by simp) (by simp)];exact jH
     have gb: ∀{H4:Hp} {B4:qah},Go H' B' H4 B4->∀{H5:Hp} {B5:qah},Go H4 B4 H5 B5->True:=λ_ _ _ _=>trivial;have up: ∀{H4:Hp} {B4:qah} {α:Type} {k k':α->Mu->Prop} {r:R α},Go H' B' H4 B4->Wn M E' H B k r->(∀a μ,k a μ->k' a μ)->Wn M E' H4 B4 k' r:=λ{H4 B4 α k k' r} g w f=>by
      cases r with
      |no=>exact w
      |ok a m=>exact f _ _ w
      |ex c m=>
       intro H5 B5 h5 g5;have gg:=g.trans g5;obtain⟨z1,z2,z3,z4⟩:=st gg;have h6:Hs M m (hid D H5) B5:=h5.loose z3 z4 (λa q=>qcq q) λu hu=>by rw[z2] at hu;cases hu;exact .inl ⟨_,rfl⟩
       have:Go H B H5 B5:=(g1.trans z1).trans (Go.more λa o e=>(qi6 e).1);exact w H5 B5 h5 this
     refine⟨ae,aa,B3,t,cF.on h3 g3.le,r3,up g3 (Wn.bind w3) λaB ah w4 dj H4 B4 e4 g4=> ?_⟩;have jz:=g3.trans g4;refine⟨aB,ah,B4,e4,up jz (Wn.bind w4) λc ak w5 H5 B5 h5 g5=> ?_⟩;have gw:=jz.trans g5;have e5:=e4.on h5 g5.le;cases c with
     |false=>obtain⟨z1,z2,z3,z4⟩:=st gw;refine qvE ⟨aB,ak,B5,e5,z1,z2,z3,z4,rd.mono gw.le,?_⟩;exact w5
     |true=>refine qvD ⟨aB,ak,B5,e5,up gw (Wn.bind w5) λy bq w6 v H6 B6 h6 g6 r6=> ?_⟩;have jy:=gw.trans g6;obtain⟨z1,z2,z3,z4⟩:=st jy;refine⟨y,aB,bq,B6,e5.on h6 g6.le,z1,z2,z3,z4,(rd.mono jy.le).append (.one r6),(Wn.bind w6).mono λrs bW w7=> ?_⟩;have w7:KN M H B Q (.ls (dn++y::rs)) bW:=w7;show KN M H B Q (.ls (dn++[y]++rs)) bW;rw[List.append_assoc];exact w7
theorem qkM{Y:Cx}:qh1 Y [] (tT M E quP):=λpins s σ H Q I ⟨ρ,μ,B,ev,w⟩=>qkO pins s σ H Q I (w H B ev.hs .refl)
theorem qpC{Y:Cx}{c:Expr}(h:PT Y c (tT M E dt)):qh1 Y [c] (tT M E dt):=qkN h
theorem qoj (hc:X.calm=true) (hi:PI X tg iter (tI M E di)) (hk:scope.kind= .function) (ar: ∀y∈scope.names,y.2≠.cell) (aC: ∀y∈scope.names,y.2= .local->scope.names.lookup y.1=some .local)
  (ai: ∀y∈scope.names,y.2= .free->X.env.kindOf y.1=some .cell\/X.env.kindOf y.1=some .free) (bL: ∀p∈fr,X.N[p.2]? =some p.1/\scope.names.lookup p.1=some .free)
  (hb: ∀(fp:List Addr) (s3:Shared) (H3:Hp),PG (qao X scope own fr fp s3 H3) tg (tG M E0 dg)/\qh1 (qao X scope own fr fp s3 H3) ifs (tT M E0 dt)/\PE (qao X scope own fr fp s3 H3) elt (tE M E0 de))
  (hs: ∀x,foldedSetIterable iter X.env x=pure x):PE X (.ListComp elt [⟨tg,iter,ifs,0⟩] scope pos) (tN M E (qcd false own.length (fr.map (·.2)) di dg dt de)):=
 PE.weak (qnm hc hi hk ar aC ai bL hb hs) λσ H Q ⟨ρ,μ,B,ev,w⟩=>comp_core (λz=>by cases z) ev w
def qtT(ow:Bool)(i:Nat)(dn:DS0 Ct):DS0 Out:=qlw i (if ow=true then dOw dn else dFz dn)
theorem qhM {i:Nat} {y:Str} {py spos:Pos} {ow:Bool} (hc:X.calm=true) (hi:PI X tg iter (tI M E di)) (hk:scope.kind= .function) (ar: ∀y∈scope.names,y.2≠.cell) (aC: ∀y∈scope.names,y.2= .local->scope.names.lookup y.1=some .local)
  (ai: ∀y∈scope.names,y.2= .free->X.env.kindOf y.1=some .cell\/X.env.kindOf y.1=some .free) (bL: ∀p∈fr,X.N[p.2]? =some p.1/\scope.names.lookup p.1=some .free)
  (hb: ∀(fp:List Addr) (s3:Shared) (H3:Hp),PG (qao X scope own fr fp s3 H3) tg (tG M E0 dg)/\qh1 (qao X scope own fr fp s3 H3) ifs (tT M E0 dt)/\PE (qao X scope own fr fp s3 H3) elt (tE M E0 de))
  (hN:X.N.Nodup) (ir:X.N[i]? =some y) (hy:X.env.scope.names.lookup y=some .local)
  (bO:swapsWith (.ListComp elt [⟨tg,iter,ifs,0⟩] scope pos) (some (.Name y py)) spos.line X.env=pure true) (hs: ∀x,foldedSetIterable iter X.env x=pure x):
  PS X (.Assign [.Name y py] (.ListComp elt [⟨tg,iter,ifs,0⟩] scope pos) spos) (tS M E (qtT ow i (qcd false own.length (fr.map (·.2)) di dg dt de))):=
 PS.weak (L2.ps_setcomp hc hi hk ar aC ai bL hb hN ir hy bO hs) λD σ H ⟨ρ,μ,B,ev,w⟩=>by
  have key: ∀{d:DS0 T},tS M E (qlw i d) D σ H->tE M E d σ H λv H1=>D.nx (σ.set i (some v)) H1:=λ⟨ρ,μ,B,ev,w⟩=>tE.of ev ((Wn.bind w).mono λt ah w1 v H1 B1 h1 l1 r1=>w1 _ H1 B1 ((ev.on h1 l1.le).set r1) l1);have h1:tN M E (qcd false own.length (fr.map (·.2)) di dg dt de) σ H λv H1=>D.nx (σ.set i (some v)) H1:=by
   cases ow with
   |true=>exact qiG (key ⟨ρ,μ,B,ev,w⟩)
   |false=>exact qjd (key ⟨ρ,μ,B,ev,w⟩)
  obtain⟨ρ,μ,B,ev,w⟩:=h1;exact comp_core (λz=>by cases z) ev w
end
end NV
namespace PL
open PySem L2 SR SetL
end PL
namespace L2
open PySem PySem.Spec PySem.Calls PyProof.Rows
end L2
namespace NV
open PySem L2
theorem PE.or{X:Cx}{e:Expr}{t t':TE}(h:PE X e t)(h':PE X e t'):PE X e (λσ H Q=>t σ H Q\/t' σ H Q):=λpins s σ H Q I q=>q.elim (h pins s σ H Q I) (h' pins s σ H Q I)
def qvG(o:T)(μ:Mu):Option (Nat×Str×List (Str×T)):=match o with
 |.obj k=>(match μ.l[k]? with|some (.ins c fs)=>some (k,c,fs)|_=>none)
 |_=>none
def qtV(mt:Str->Option (List T->Mu->R T))(m:Str)(bo:DS0 T)(ds:DS0 (List T)):DS0 T:=dSq bo λo ρ μ=>match qvG o μ with
 |some (_,c,fs)=>(match mt c with
  |some f=>if(fs.lookup m).isNone=true then(ds ρ μ).bind λts aa=>f (o::ts) aa else .no
  |none=>.no)
 |none=>.no
def qmr(x:Str):DS0 Out:=λ_ μ=>.ex x μ
section
variable {M:Md}{E:XK}{X:Cx}{st:Stmt}
theorem qlo{x:Str}(h:PS X st (qid (clA M.K x) E)):PS X st (tS M E (qmr x)):=PS.weak h λD σ H ⟨ρ,μ,B,ev,w⟩=>w H B ev.hs .refl
def unO(i:Nat):Out->Mu->R Out
 |.nx ρ,μ=>.ok (.nx (ρ.set i none)) μ
 |.bk ρ,μ=>.ok (.bk (ρ.set i none)) μ
 |.ct ρ,μ=>.ok (.ct (ρ.set i none)) μ
 |.rt t,μ=>.ok (.rt t) μ
def qv8(cl:Str->Bool)(n:Nat)(nm:Option Nat)(db dh:DS0 Out):DS0 Out:=λρ μ=>match db ρ μ with
 |.ex c m=>if cl c=true then(match nm with
  |some i=>((noX (dh ((List.replicate n none).set i (some (.exc c))) m))).bind (unO i)
  |none=>noX (dh (List.replicate n none) m)) else .no
 |r=>r
variable {body iY:List Stmt}{b₀:Stmt}{x n:Str}{np dI pos:Pos}{CH:Addr}{bmH:List Value}{db dh:DS0 Out}{cl:Str->Bool}{i:Nat}
end
def quL(i:Nat)(ρ:Ro)(μ:Mu):Ro×Mu:=match ρ[i]? with
 |some (some (.obj k))=>(match μ.l[k]? with
  |some (.ls ts)=>(ρ.set i (some (.lst ts)),μ.put k .gone)
  |some (.dk kvs)=>(ρ.set i (some (.dct kvs)),μ.put k .gone)
  |_=>(ρ,μ))
 |_=>(ρ,μ)
def qwb(i:Nat)(d:DS0 Out):DS0 Out:=λρ μ=>d (quL i ρ μ).1 (quL i ρ μ).2
def qu4(kvs:List (Key×T))(k:Key):Option T:=(kvs.find? λkv=>decide (kv.1=k)).map (·.2)
mutual
def eqT:T->T->Bool
 |.non,.non=>true
 |.bl a,.bl b=>a==b
 |.bl a,.int b=>(if a then 1 else 0)==b
 |.int a,.bl b=>a==(if b then 1 else 0)
 |.int a,.int b=>a==b
 |.str a,.str b=>a==b
 |.tup xs,.tup ys=>eqTs xs ys
 |.lst xs,.lst ys=>eqTs xs ys
 |.dct xs,.dct ys=>xs.length==ys.length&&eqTd xs ys
 |_,_=>false
def eqTs:List T->List T->Bool
 |[],[]=>true
 |x::xs,y::ys=>eqT x y&&eqTs xs ys
 |_,_=>false
def eqTd:List (Key×T)->List (Key×T)->Bool
 |[],_=>true
 |(k,x)::xs,ys=>(match qu4 ys k with|some y=>eqT x y|none=>false)&&eqTd xs ys
end
def okT:Nat->T->Bool
 |_,.non=>true
 |_,.bl _=>true
 |_,.int _=>true
 |_,.str _=>true
 |n+1,.tup ts=>ts.all (okT n)
 |n+1,.lst ts=>ts.all (okT n)
 |_,_=>false
def qeg:T->Bool
 |.non=>true
 |.bl _=>true
 |.int _=>true
 |.str _=>true
 |_=>false
def vOf:T->V
 |.bl b=>.bl b
 |.int b=>.int b
 |.str b=>.str b
 |_=>.non
def LeH(B:qah)(H:Hp):Prop:= ∀a o,B a=some o->H a=some o
abbrev qiB(xs ys:List T)(j:Nat):Bool:=eqT (xs.getD j .non) (ys.getD j .non)
theorem qcI: ∀xs ys:List T,eqTs xs ys=((List.range (min xs.length ys.length)).all (qiB xs ys)&&xs.length==ys.length)
 |[],[]=>by simp[eqTs]
 |[],_::_=>by simp[eqTs]
 |_::_,[]=>by simp[eqTs]
 |x::xs,y::ys=>by
  rw[eqTs,qcI xs ys];have m:min (x::xs).length (y::ys).length=(min xs.length ys.length).succ:=by simp only[List.length_cons];lia
  rw[m,List.range_succ_eq_map,List.all_cons,List.all_map,<-Bool.and_assoc];have e:(qiB (x::xs) (y::ys)∘Nat.succ)=qiB xs ys:=by funext j;simp[qiB]
  rw[e,show qiB (x::xs) (y::ys) 0=eqT x y from rfl];simp
theorem qll{xs ys:List T}(h:xs.length=ys.length):eqTs xs ys=(List.range xs.length).all (qiB xs ys):=by rw[qcI,h,Nat.min_self,beq_self_eq_true,Bool.and_true]
theorem qod{xs ys:List T}(h:xs.length≠ys.length):eqTs xs ys=false:=by rw[qcI];simp[h]
section
variable {K:PySem.W.Frag}{B:qah}{t u:T}{x y:V}
theorem qbf(f:qeg t=true)(r:Rep K B t x):x=vOf t:=by cases t<;>first|exact qdZ r|exact qbx r|exact qad r|exact qat r|cases f
theorem qaQ(f:qeg t=true):qfZ (vOf t)=true:=by cases t<;>first|rfl|cases f
theorem qgP(ft:qeg t=true)(fu:qeg u=true):eqT t u=eqV (vOf t) (vOf u):=by cases t<;>cases u<;>first|rfl|(cases ft;done)|(cases fu;done)
theorem qh6(ft:qeg t=true)(fu:qeg u=true)(e:vOf t=vOf u):t=u:=by cases t<;>cases u<;>first|rfl|(cases e;rfl)|(cases e;done)|(cases ft;done)|(cases fu;done)
theorem qb6{p:Addr}(ft:qeg t=true)(e:vOf t= .ref p):False:=by cases t<;>first|cases e|cases ft
theorem qbw{ts:List T}(f:qeg t=true):eqT t (.lst ts)=false/\eqT (.lst ts) t=false/\eqT t (.tup ts)=false/\eqT (.tup ts) t=false:=by cases t<;>first|exact⟨rfl,rfl,rfl,rfl⟩|cases f
theorem qbI{n:Nat}{ts:List T}(h:ts.all (okT n)=true){j:Nat}(hj:j<ts.length):okT n (ts.getD j .non)=true:=by rw[List.getD_eq_getElem?_getD,List.getElem?_eq_getElem hj];exact List.all_eq_true.mp h _ (List.getElem_mem hj)
theorem okT_lst{n:Nat}{ts:List T}(h:okT n (.lst ts)=true): ∃m,n=m+1/\ts.all (okT m)=true:=by
 cases n with
 |zero=>cases h
 |succ m=>exact⟨m,rfl,h⟩
theorem okT_tup{n:Nat}{ts:List T}(h:okT n (.tup ts)=true): ∃m,n=m+1/\ts.all (okT m)=true:=by
 cases n with
 |zero=>cases h
 |succ m=>exact⟨m,rfl,h⟩
theorem qaz{n:Nat}(h:okT n t=true):qeg t=true\/(∃ts m,t= .lst ts/\n=m+1/\ts.all (okT m)=true)\/∃ts m,t= .tup ts/\n=m+1/\ts.all (okT m)=true:=by
 cases t with
 |lst ts=>obtain⟨m,a,b⟩:=okT_lst h;exact .inr (.inl ⟨ts,m,rfl,a,b⟩)
 |tup ts=>obtain⟨m,a,b⟩:=okT_tup h;exact .inr (.inr ⟨ts,m,rfl,a,b⟩)
 |_=>first|exact .inl rfl|(cases n<;>cases h)
theorem qcJ: ∀(n:Nat) (t:T),okT n t=true->eqT t t=true:=by
 intro n
 induction n with
 |zero=>intro t h;cases t<;>first|(simp[eqT];done)|cases h
 |succ n ih=>
  have many: ∀ts:List T,ts.all (okT n)=true->eqTs ts ts=true:=λts=>by
   induction ts with
   |nil=>intro _;rfl
   |cons t ts it=>intro h;rw[List.all_cons,Bool.and_eq_true] at h;rw[eqTs,ih t h.1,it h.2];rfl
  intro t h;cases t<;>first|(simp[eqT];done)|(rw[eqT];exact many _ h)|cases h
end
section
variable {X:Cx}{pins:List (Addr×Obj)}{σ:St}{H:Hp}{B:qah}{s:Shared}
theorem qfz(I:Inv X pins σ H s)(le:LeH B H): ∀(n m:Nat) (t u:T) (x:V),okT n t=true->okT m u=true->Rep X.K B t x->Rep X.K B u x->t=u:=by
 intro n
 induction n with
 |zero=>
  intro m t u x ht hu r r'
  rcases qaz ht with f|⟨_,_,_,e,_⟩|⟨_,_,_,e,_⟩
  ·have e1:=qbf f r
   rcases qaz hu with g|⟨us,m',rfl,_,_⟩|⟨us,m',rfl,_,_⟩
   ·exact qh6 f g (e1.symm.trans (qbf g r'))
   ·obtain⟨p,vs,rfl,_⟩:=qau r';exact(qb6 f e1.symm).elim
   ·obtain⟨p,vs,rfl,_⟩:=qaq r';exact(qb6 f e1.symm).elim
  ·cases e
  ·cases e
 |succ n ih=>
  have many: ∀(m:Nat) (ts us:List T) (vs:List V),ts.all (okT n)=true->us.all (okT m)=true->Reps X.K B ts vs->Reps X.K B us vs->ts=us:=λm ts=>by
   induction ts with
   |nil=>
    intro us vs _ _ r r';cases r.inv0;cases us with
    |nil=>rfl
    |cons _ _=>obtain⟨_,_,e,_⟩:=r'.inv;cases e
   |cons t ts it=>
    intro us vs ht hu r r';obtain⟨v,bX,rfl,a,b⟩:=r.inv;cases us with
    |nil=>cases r'.inv0
    |cons u us=>obtain⟨v',vs'',e,a',b'⟩:=r'.inv;cases e;rw[List.all_cons,Bool.and_eq_true] at ht hu;rw[ih m t u v ht.1 hu.1 a a',it us bX ht.2 hu.2 b b']
  intro m t u x ht hu r r'
  rcases qaz ht with f|⟨ts,n',rfl,e,dG⟩|⟨ts,n',rfl,e,dG⟩
  ·have e1:=qbf f r
   rcases qaz hu with g|⟨us,m',rfl,_,_⟩|⟨us,m',rfl,_,_⟩
   ·exact qh6 f g (e1.symm.trans (qbf g r'))
   ·obtain⟨p,vs,rfl,_⟩:=qau r';exact(qb6 f e1.symm).elim
   ·obtain⟨p,vs,rfl,_⟩:=qaq r';exact(qb6 f e1.symm).elim
  ·cases e;obtain⟨p,vs,rfl,hp,rs⟩:=qau r
   rcases qaz hu with g|⟨us,m',rfl,_,dE⟩|⟨us,m',rfl,_,_⟩
   ·exact(qb6 g (qbf g r').symm).elim
   ·obtain⟨p',bX,e,aG,br⟩:=qau r';cases e;rw[hp] at aG;cases aG;rw[many m' ts us vs dG dE rs br]
   ·obtain⟨p',bX,e,aG,_⟩:=qaq r';cases e;rw[hp] at aG;cases aG
  ·cases e;obtain⟨p,vs,rfl,hp,rs⟩:=qaq r
   rcases qaz hu with g|⟨us,m',rfl,_,_⟩|⟨us,m',rfl,_,dE⟩
   ·exact(qb6 g (qbf g r').symm).elim
   ·obtain⟨p',bX,e,aG,_⟩:=qau r';cases e;rw[hp] at aG;cases aG
   ·obtain⟨p',bX,e,aG,br⟩:=qaq r';cases e;rw[hp] at aG;cases aG;rw[many m' ts us vs dG dE rs br]
open SeqAt in
theorem ql3 {A:Around} {ts us:List T} {p p':Addr} {is cw:List Value} {vs ws:List V} (hA:A.units<cLine) (rv:Vals vs is) (cQ:Vals ws cw) (l3:vs.length=ts.length) (l4:ws.length=us.length)
  (it: ∀j (a1:j<(List.toArray is).size) (a2:j<(List.toArray cw).size),EqAt A.in1 s (List.toArray is)[j] (List.toArray cw)[j] (qiB ts us j)):
  (s.heap.IsList p (List.toArray is)->s.heap.IsList p' (List.toArray cw)->RcAt A s (.ref p) (.ref p') (eqTs ts us)/\RcNeAt A s (.ref p) (.ref p') (!eqTs ts us))/\
  (s.heap.IsTuple p (List.toArray is)->s.heap.IsTuple p' (List.toArray cw)->RcAt A s (.ref p) (.ref p') (eqTs ts us)/\RcNeAt A s (.ref p) (.ref p') (!eqTs ts us)):=by
 have l1:=rv.length;have l2:=cQ.length;have e1:(List.toArray is).size=ts.length:=by simp;lia
 have e2:(List.toArray cw).size=us.length:=by simp;lia
 refine⟨λpl bg=> ?_,λpl bg=> ?_⟩
 ·by_cases hl:ts.length=us.length
  ·rw[qll hl];have q1:=RcAt.lists (A:=A) (s:=s) (e:=qiB ts us) pl bg (by simp;lia) hA it;have q2:=RcNeAt.lists (A:=A) (s:=s) (e:=qiB ts us) pl bg (by simp;lia) hA it;rw[e1] at q1 q2;exact⟨q1,q2⟩
  ·rw[qod hl];exact⟨RcAt.lists_lengths pl bg (by simp;lia) hA,RcNeAt.lists_lengths pl bg (by simp;lia) hA⟩
 ·rw[qcI];have q1:=RcAt.tuples (A:=A) (s:=s) (e:=qiB ts us) pl bg hA it;have q2:=RcNeAt.tuples (A:=A) (s:=s) (e:=qiB ts us) pl bg hA it;rw[e1,e2] at q1 q2;exact⟨q1,q2⟩
open SeqAt in
theorem qit (I:Inv X pins σ H s) (le:LeH B H): ∀(n m:Nat) (A:Around) (t u:T) (x y:V) (v w:Value),okT n t=true->okT m u=true->A.units+n<cLine->Rep X.K B t x->Rep X.K B u y->RelV x v->RelV y w->
  EqAt A s v w (eqT t u)/\RcAt A s v w (eqT t u)/\RcNeAt A s v w (!eqT t u):=by
 intro n
 induction n with
 |zero=>
  intro m A t u x y v w ht hu hc r r' rv aF;have hA:A.units<cLine:=by lia
  rcases qaz ht with f|⟨_,_,_,e,_⟩|⟨_,_,_,e,_⟩
  ·cases qbf f r;have fx:=qaQ f
   rcases qaz hu with g|⟨us,m',rfl,_,_⟩|⟨us,m',rfl,_,_⟩
   ·cases qbf g r';rw[qgP f g];exact⟨qmk rv aF fx (qaQ g),PL.rc_ff rv fx aF (qaQ g)⟩
   ·obtain⟨p,vs,rfl,hp,_⟩:=qau r';cases aF;obtain⟨is,_,pl,_⟩:=I.list (SqL.of (le _ _ hp));have q:=PL.eq_fl rv fx pl.isList hA;rw[(qbw f).1];exact⟨q.1,q.2.2.1,q.2.2.2.2.1⟩
   ·obtain⟨p,vs,rfl,hp,_⟩:=qaq r';cases aF;obtain⟨is,_,pl,_⟩:=I.tuple (SqT.of (le _ _ hp));have q:=PL.eq_ft rv fx pl hA;rw[(qbw f).2.2.1];exact⟨q.1,q.2.2.1,q.2.2.2.2.1⟩
  ·cases e
  ·cases e
 |succ n ih=>
  intro m A t u x y v w ht hu hc r r' rv aF;have hA:A.units<cLine:=by lia
  rcases qaz ht with f|⟨ts,n',rfl,e,dG⟩|⟨ts,n',rfl,e,dG⟩
  ·cases qbf f r;have fx:=qaQ f
   rcases qaz hu with g|⟨us,m',rfl,_,_⟩|⟨us,m',rfl,_,_⟩
   ·cases qbf g r';rw[qgP f g];exact⟨qmk rv aF fx (qaQ g),PL.rc_ff rv fx aF (qaQ g)⟩
   ·obtain⟨p,vs,rfl,hp,_⟩:=qau r';cases aF;obtain⟨is,_,pl,_⟩:=I.list (SqL.of (le _ _ hp));have q:=PL.eq_fl rv fx pl.isList hA;rw[(qbw f).1];exact⟨q.1,q.2.2.1,q.2.2.2.2.1⟩
   ·obtain⟨p,vs,rfl,hp,_⟩:=qaq r';cases aF;obtain⟨is,_,pl,_⟩:=I.tuple (SqT.of (le _ _ hp));have q:=PL.eq_ft rv fx pl hA;rw[(qbw f).2.2.1];exact⟨q.1,q.2.2.1,q.2.2.2.2.1⟩
  ·cases e;obtain⟨p,vs,rfl,hp,rs⟩:=qau r;cases rv;obtain⟨is,dy,pl,_⟩:=I.list (SqL.of (le _ _ hp))
   rcases qaz hu with g|⟨us,m',rfl,_,dE⟩|⟨us,m',rfl,_,_⟩
   ·cases qbf g r';have q:=PL.eq_fl aF (qaQ g) pl.isList hA;rw[(qbw g).2.1];exact⟨q.2.1,q.2.2.2.1,q.2.2.2.2.2⟩
   ·obtain⟨p',ws,rfl,aG,br⟩:=qau r';cases aF;obtain⟨cw,bf,bg,_⟩:=I.list (SqL.of (le _ _ aG));have q:=(ql3 (p:=p) (p':=p') hA dy bf rs.length br.length λj a1 a2=>by
     have b1:j<ts.length:=by have:=dy.length;have:=rs.length;simp at a1;lia
     have b2:j<us.length:=by have:=bf.length;have:=br.length;simp at a2;lia
     exact(ih m' A.in1 _ _ _ _ _ _ (qbI dG b1) (qbI dE b2) (by show A.units+1+n<cLine;lia) (rs.getD j b1) (br.getD j b2) (RH.valsArr dy a1) (RH.valsArr bf a2)).1).1 pl.isList bg.isList
    refine⟨?_,q⟩;by_cases z:p=p'
    ·subst z;have e:=qfz I le (n+1) m _ _ _ ht hu r r';rw[<-e,qcJ _ _ ht];exact EqAt.same _
    ·exact EqAt.of_refs z q.1
   ·obtain⟨p',ws,rfl,aG,br⟩:=qaq r';cases aF;obtain⟨cw,bf,bg,_⟩:=I.tuple (SqT.of (le _ _ aG));exact⟨EqAt.list_tuple pl.isList bg hA,RcAt.list_tuple pl.isList bg hA,RcNeAt.list_tuple pl.isList bg hA⟩
  ·cases e;obtain⟨p,vs,rfl,hp,rs⟩:=qaq r;cases rv;obtain⟨is,dy,pl,_⟩:=I.tuple (SqT.of (le _ _ hp))
   rcases qaz hu with g|⟨us,m',rfl,_,_⟩|⟨us,m',rfl,_,dE⟩
   ·cases qbf g r';have q:=PL.eq_ft aF (qaQ g) pl hA;rw[(qbw g).2.2.2];exact⟨q.2.1,q.2.2.2.1,q.2.2.2.2.2⟩
   ·obtain⟨p',ws,rfl,aG,br⟩:=qau r';cases aF;obtain⟨cw,bf,bg,_⟩:=I.list (SqL.of (le _ _ aG));exact⟨EqAt.tuple_list pl bg.isList hA,RcAt.tuple_list pl bg.isList hA,RcNeAt.tuple_list pl bg.isList hA⟩
   ·obtain⟨p',ws,rfl,aG,br⟩:=qaq r';cases aF;obtain⟨cw,bf,bg,_⟩:=I.tuple (SqT.of (le _ _ aG));have q:=(ql3 (p:=p) (p':=p') hA dy bf rs.length br.length λj a1 a2=>by
     have b1:j<ts.length:=by have:=dy.length;have:=rs.length;simp at a1;lia
     have b2:j<us.length:=by have:=bf.length;have:=br.length;simp at a2;lia
     exact(ih m' A.in1 _ _ _ _ _ _ (qbI dG b1) (qbI dE b2) (by show A.units+1+n<cLine;lia) (rs.getD j b1) (br.getD j b2) (RH.valsArr dy a1) (RH.valsArr bf a2)).1).2 pl bg
    refine⟨?_,q⟩;by_cases z:p=p'
    ·subst z;have e:=qfz I le (n+1) m _ _ _ ht hu r r';rw[<-e,qcJ _ _ ht];exact EqAt.same _
    ·exact EqAt.of_refs z q.1
end
end NV
namespace TM
open PySem Builtin
theorem noFill_tuple_mul:fillsNumberSlot (.type "tuple") "mul" =pure false:=
 fillsNumberSlot_seq (id:= "tuple.__mul__") (r:=some (.builtin "tuple.__rmul__")) F.slot_tuple_mul.lookup (by decide+kernel) F.slot_tuple_rmul.lookup (by decide+kernel)
theorem repeat_tuple:seqRepeat? (.type "tuple")=pure (some (.builtin "tuple.__mul__")):=by unfold seqRepeat?;rw[seqSlot_of (T:= "tuple") (name:= "__mul__") (id:= "tuple.__mul__") F.slot_tuple_mul.lookup (by decide+kernel),seqSlot_of (T:= "tuple") (name:= "__rmul__") (id:= "tuple.__rmul__") F.slot_tuple_rmul.lookup (by decide+kernel)];rfl
theorem rmul_tuple (a:Int) (t:Tok) (l:Addr) (items:Array Value) (n:Nat) (od:Option Addr) (sl:Array (Option Value)):
  Meets (Builtin.«int.__rmul__» ⟨[.int a t,.ref l],[]⟩) (λ_ R s=>s.heap.get? l=some ⟨.type "tuple",od,.seq items n,sl⟩/\R (.ok (.ret Value.notImplemented)) s):=
 .of_wp λprog w A R s h=>by obtain⟨hp,g,d,tk,os⟩:=s;obtain⟨hl,h⟩:=h;wp_walk;exact⟨_,rfl,h⟩
theorem mul_tuple6 (l:Addr) (items:Array Value) (n:Nat) (od:Option Addr) (sl:Array (Option Value)) (u:Tok) (hc0: ¬items.isEmpty=true) (hz:items.size<=10):
  Meets (Builtin.«tuple.__mul__» ⟨[.ref l,.int 6 u],[]⟩) (λ_ R s=>s.heap.get? l=some ⟨.type "tuple",od,.seq items n,sl⟩/\R (.ok (.ret (Value.ref s.heap.objs.size))) { s with heap:=s.heap.push { cls:=Value.type "tuple",data:=Data.seq (List.foldl (λx1 x2=>x1++x2) #[] (List.replicate 6 items)) },toks:=s.toks }):=
 .of_wp λprog w A R s h=>by
  obtain⟨hp,g,d,tk,os⟩:=s;obtain⟨hl,h⟩:=h;have iF: ¬((items.size:Int)*6>(2 ^ 63 - 1) / 8):=by omega
  wp_walk
  rw[if_neg iF];have bM:Tuple.tupleTooMany ((items.size:Int)*6)=false:=by
   unfold Tuple.tupleTooMany;have:(60:Nat)<sizeLine:=by decide
   simp only[decide_eq_false_iff_not];omega
  have hsz:(List.foldl (λx1 x2=>x1++x2) #[] (List.replicate 6 items)).size<=sizeLine:=by
   have:(60:Nat)<=sizeLine:=by decide
   simp only[List.replicate,List.foldl_cons,List.foldl_nil,Array.size_append,Array.size_empty,List.size_toArray,List.length_nil];omega
  simp only[bM]
  wp_walk
  refine wpAny_ite_false (Vy (Nat.not_lt.mpr hsz)) ?_
  wp_walk
  exact⟨_,rfl,h⟩
end TM
namespace PL
open PySem L2 SR SetL PySem.Spec PyProof.Rows
section
def rRep6(K:W.Frag):R2:=λx y H Q=> ∃a xs,x= .ref a/\y= .int 6/\SqT K H a xs/\xs≠[]/\xs.length<=10/\∀p,H p=none->Q (.ref p) (upd H p (.tup (List.replicate 6 xs).flatten))
theorem qnu:OpR X (binaryOp .Mult) (rRep6 X.K):=by
 intro pins s σ H x y v u Q I rx ry h;obtain⟨a,xs,rfl,rfl,ha,hx,hz,q⟩:=h;cases rx;obtain⟨t,rfl⟩:=ry;obtain⟨its,r1,p1,_⟩:=I.tuple ha;obtain⟨⟨cl,od,da,sl⟩,e,cC,n,d4⟩:=p1;dsimp only at cC d4;subst cC d4;have hl:=r1.length;have cy:List.foldl (λx1 x2=>x1++x2) #[] (List.replicate 6 its.toArray)=(List.replicate 6 its).flatten.toArray:=by simp[List.replicate]
 refine wpAny_binaryOp_repeat_ref (T:= "tuple") (U:= "int") (by decide) ⟨_,e,rfl⟩ (λs'=>typeIs_int s' 6 t) TM.noFill_tuple_mul F.fills_int_mul F.slot_int_rmul TM.repeat_tuple F.slot_int_index.lookup
  (Wa F.slot_int_rmul (typeIs_int s 6 t) F.entry_int_rmul (F.args_int_rmul_2 _ _) (TM.rmul_tuple 6 t a its.toArray n od sl)
   ⟨e,rfl,⟨_,e,rfl⟩,Wa F.slot_tuple_mul ⟨_,e,rfl⟩ F.entry_tuple_mul (F.args_tuple_mul_2 _ _) (TM.mul_tuple6 a its.toArray n od sl t (λz=>hx (r1.nil_iff.mp (by simpa using z))) (by rw[List.size_toArray,<-hl];exact hz)) ⟨e,?_⟩⟩)
 rw[cy];refine⟨.ref s.heap.objs.size,_,I.laid (t':=s.toks) (o:=.tup (List.replicate 6 xs).flatten) (λb ob q=>Vg _ q) (Vm _) ?_,rfl,q _ (I.hok.fresh (Vm _))⟩;exact⟨by rw[qfN];(have:(60:Nat)<=sizeLine:=by decide);omega,_,r1.rep 6,IsTup.new _ _⟩
end
section
def rCat0(K:W.Frag):R2:=λx y H Q=> ∃a b ys,x= .ref a/\y= .ref b/\SqT K H a []/\SqT K H b ys/\Q (.ref b) H
theorem op_cat0:OpR X (binaryOp .Add) (rCat0 X.K):=by
 intro pins s σ H x y v u Q I rx ry h;obtain⟨a,b,ys,rfl,rfl,ha,hb,q⟩:=h;cases rx;cases ry;obtain⟨its,r1,p1,_⟩:=I.tuple ha;obtain⟨aM,r2,p2,_⟩:=I.tuple hb;cases r1;obtain⟨⟨cls,dd,data,sl⟩,ho,hc,n,hd⟩:=id p1;obtain⟨⟨iT,gA,data2,fP⟩,bQ,bM,n2,hd2⟩:=id p2;simp only at hc hd bM hd2;subst hc hd bM hd2
 exact concat_meets ⟨_,ho,rfl⟩ ⟨_,bQ,rfl⟩ noFill_tuple_add seq_tuple_add F.slot_tuple_add F.entry_tuple_add (F.args_tuple_add_2 _ _)
  (tuple_addW0 a b _ _ n n2 dd gA sl fP rfl) ⟨ho,bQ,⟨.ref b,H,I,rfl,q⟩⟩
end
end PL
namespace TM
open PySem Builtin
theorem mul_tuple5 (l:Addr) (items:Array Value) (n:Nat) (od:Option Addr) (sl:Array (Option Value)) (u:Tok) (hc0: ¬items.isEmpty=true) (hz:items.size<=10):
  Meets (Builtin.«tuple.__mul__» ⟨[.ref l,.int 5 u],[]⟩) (λ_ R s=>s.heap.get? l=some ⟨.type "tuple",od,.seq items n,sl⟩/\R (.ok (.ret (Value.ref s.heap.objs.size))) { s with heap:=s.heap.push { cls:=Value.type "tuple",data:=Data.seq (List.foldl (λx1 x2=>x1++x2) #[] (List.replicate 5 items)) },toks:=s.toks }):=
 .of_wp λprog w A R s h=>by
  obtain⟨hp,g,d,tk,os⟩:=s;obtain⟨hl,h⟩:=h;have iF: ¬((items.size:Int)*5>(2 ^ 63 - 1) / 8):=by omega
  wp_walk
  rw[if_neg iF];have bM:Tuple.tupleTooMany ((items.size:Int)*5)=false:=by
   unfold Tuple.tupleTooMany;have:(50:Nat)<sizeLine:=by decide
   simp only[decide_eq_false_iff_not];omega
  have hsz:(List.foldl (λx1 x2=>x1++x2) #[] (List.replicate 5 items)).size<=sizeLine:=by
   have:(50:Nat)<=sizeLine:=by decide
   simp only[List.replicate,List.foldl_cons,List.foldl_nil,Array.size_append,Array.size_empty,List.size_toArray,List.length_nil];omega
  simp only[bM]
  wp_walk
  refine wpAny_ite_false (Vy (Nat.not_lt.mpr hsz)) ?_
  wp_walk
  exact⟨_,rfl,h⟩
end TM
namespace PL
open PySem L2 SR SetL PySem.Spec PyProof.Rows
section
def rRep5(K:W.Frag):R2:=λx y H Q=> ∃a xs,x= .ref a/\y= .int 5/\SqT K H a xs/\xs≠[]/\xs.length<=10/\∀p,H p=none->Q (.ref p) (upd H p (.tup (List.replicate 5 xs).flatten))
theorem qnv:OpR X (binaryOp .Mult) (rRep5 X.K):=by
 intro pins s σ H x y v u Q I rx ry h;obtain⟨a,xs,rfl,rfl,ha,hx,hz,q⟩:=h;cases rx;obtain⟨t,rfl⟩:=ry;obtain⟨its,r1,p1,_⟩:=I.tuple ha;obtain⟨⟨cl,od,da,sl⟩,e,cC,n,d4⟩:=p1;dsimp only at cC d4;subst cC d4;have hl:=r1.length;have cy:List.foldl (λx1 x2=>x1++x2) #[] (List.replicate 5 its.toArray)=(List.replicate 5 its).flatten.toArray:=by simp[List.replicate]
 refine wpAny_binaryOp_repeat_ref (T:= "tuple") (U:= "int") (by decide) ⟨_,e,rfl⟩ (λs'=>typeIs_int s' 5 t) TM.noFill_tuple_mul F.fills_int_mul F.slot_int_rmul TM.repeat_tuple F.slot_int_index.lookup
  (Wa F.slot_int_rmul (typeIs_int s 5 t) F.entry_int_rmul (F.args_int_rmul_2 _ _) (TM.rmul_tuple 5 t a its.toArray n od sl)
   ⟨e,rfl,⟨_,e,rfl⟩,Wa F.slot_tuple_mul ⟨_,e,rfl⟩ F.entry_tuple_mul (F.args_tuple_mul_2 _ _) (TM.mul_tuple5 a its.toArray n od sl t (λz=>hx (r1.nil_iff.mp (by simpa using z))) (by rw[List.size_toArray,<-hl];exact hz)) ⟨e,?_⟩⟩)
 rw[cy];refine⟨.ref s.heap.objs.size,_,I.laid (t':=s.toks) (o:=.tup (List.replicate 5 xs).flatten) (λb ob q=>Vg _ q) (Vm _) ?_,rfl,q _ (I.hok.fresh (Vm _))⟩;exact⟨by rw[qfN];(have:(50:Nat)<=sizeLine:=by decide);omega,_,r1.rep 5,IsTup.new _ _⟩
theorem op_rep56:OpR X (binaryOp .Mult) (λx y H Q=>rRep5 X.K x y H Q\/rRep6 X.K x y H Q):=qnv.or qnu
end
end PL
namespace NV
open PySem L2
inductive Nv where
 |v (t:T)|t (ts:List T)|l (ts:List T)|d (kvs:List (Key×T))|p (k:Nat) (c:Ct) (t:T)
def Mu.live(μ:Mu)(k:Nat):Bool:=match μ.l[k]? with
 |some .gone=>false
 |some _=>true
 |none=>false
theorem Mu.live_at{μ:Mu}{k:Nat}(h:μ.live k=true): ∃c,μ.l[k]? =some c/\c≠.gone:=by
 unfold Mu.live at h;split at h
 ·cases h
 ·rename_i c n e;exact⟨c,e,λz=>n z⟩
 ·cases h
def nvR(ow:Bool):Option Nv->Mu->R T
 |some (.v t),μ=>.ok t μ
 |some (.t ts),μ=>.ok (.tup ts) μ
 |some (.l ts),μ=>if ow=true then .ok (.obj μ.l.length) (μ.add (.ls ts)) else .ok (.lst ts) μ
 |some (.d ts),μ=>if ow=true then .ok (.obj μ.l.length) (μ.add (.dk ts)) else .ok (.dct ts) μ
 |some (.p k c t),μ=>if μ.live k=true then .ok t (μ.put k c) else .no
 |none,_=>.no
def KV(M:Md)(μ:Mu)(H:Hp)(B:qah)(Q:VK):Nv->Prop
 |.v t=> ∀B' x,Hs M μ H B'->Go H B H B'->Rep M.K B' t x->Q x H
 |.t ts=> ∀B' p vs,Hs M μ H B'->Go H B H B'->H p=none->Reps M.K B' ts vs->Q (.ref p) (upd H p (.tup vs))
 |.l ts=> ∀B' p vs,Hs M μ H B'->Go H B H B'->H p=none->Reps M.K B' ts vs->Q (.ref p) (upd H p (.lst vs))
 |.d ts=> ∀B' p vs,Hs M μ H B'->Go H B H B'->H p=none->qbh M.K B' ts vs->Q (.ref p) (upd H p (.dK vs))
 |.p k c t=>μ.live k=true/\∀B' a o x,Hs M μ H B'->Go H B H B'->B'.ad k=some a->qes M.K B' c o->Rep M.K B' t x->Q x (upd H a o)
section
variable {M:Md}{μ:Mu}{H:Hp}{B:qah}{Q:VK}
theorem qd5{ow:Bool}{o:Option Nv}(c:Str)(m:Mu):nvR ow o μ≠.ex c m:=λe=>by unfold nvR at e;split at e<;>first|cases e|(split at e<;>cases e)
theorem qbY{ow:Bool}{o:Option Nv}{t:T}{m:Mu}(e:nvR ow o μ= .ok t m)(k:KE M H B Q t m): ∃n,o=some n/\KV M μ H B Q n:=by
 unfold nvR at e;split at e
 ·cases e;exact⟨_,rfl,λB' x h g r=>k x H B' h g r⟩
 ·cases e;exact⟨_,rfl,λB' p vs h g hp r=>k _ _ _ (h.new hp (λps z=>by cases z)) (g.trans (h.gnew hp)) (qdt qaf (r.mono (h.upd_le (h.fr hp))))⟩
 ·refine⟨_,rfl,λB' p vs h g hp r=> ?_⟩;split at e
  ·cases e;have le:Le B' (B'.add μ.l.length p):=(h.gown (o:=.lst vs) hp).le;exact k _ _ _ (h.own (c:=.ls _) (o:=.lst vs) hp ⟨vs,rfl,r.mono le⟩).1 (g.trans (h.gown hp)) (qiL (by show(if μ.l.length=μ.l.length then some p else _)=_;rw[if_pos rfl]))
  ·cases e;exact k _ _ _ (h.new hp (λps z=>by cases z)) (g.trans (h.gnew hp)) (qcU qaf (r.mono (h.upd_le (h.fr hp))))
 ·refine⟨_,rfl,λB' p vs h g hp r=> ?_⟩;split at e
  ·cases e;have le:Le B' (B'.add μ.l.length p):=(h.gown (o:=.dK vs) hp).le;exact k _ _ _ (h.own (c:=.dk _) (o:=.dK vs) hp ⟨vs,rfl,r.mono le⟩).1 (g.trans (h.gown hp)) (qiL (by show(if μ.l.length=μ.l.length then some p else _)=_;rw[if_pos rfl]))
  ·cases e;exact k _ _ _ (h.new hp (λps z=>by cases z)) (g.trans (h.gnew hp)) (qgA qaf (r.mono (h.upd_le (h.fr hp))))
 ·split at e
  ·rename_i hl;cases e;obtain⟨c0,e0,n0⟩:=Mu.live_at hl;exact⟨_,rfl,hl,λB' a o x h g ha hc r=>k x _ B' (h.put e0 n0 ha hc) (g.trans (quI ha)) r⟩
  ·cases e
 ·cases e
end
def OkO(M:Md)(r:R2)(g:Mu->T->T->Option Nv):Prop:= ∀(μ:Mu) (H:Hp) (B:qah) (x y:V) (a b:T) (n:Nv) (Q:VK),Hs M μ H B->Rep M.K B a x->Rep M.K B b y->g μ a b=some n->KV M μ H B Q n->r x y H Q
def OkN(M:Md)(r:List V->Hp->VK->Prop)(g:Mu->List T->Option Nv):Prop:= ∀(μ:Mu) (H:Hp) (B:qah) (vs:List V) (ts:List T) (n:Nv) (Q:VK),Hs M μ H B->Reps M.K B ts vs->g μ ts=some n->KV M μ H B Q n->r vs H Q
theorem OkO.b{M:Md}{r:R2}{g:Mu->T->T->Option Nv}{ow:Bool}(h:OkO M r g):OkB M r (λa b μ=>nvR ow (g μ a b) μ):=
 ⟨λ_ _ _ c m=>qd5 c m,λμ H B x y a b t aa Q hs ra rb e k=>by obtain⟨n,e',kv⟩:=qbY e k;exact h μ H B x y a b n Q hs ra rb e' kv⟩
def dr1(μ:Mu):T->T
 |.obj k=>(match μ.l[k]? with|some (.ls ts)=>.lst ts|some (.dk kvs)=>.dct kvs|_=>.obj k)
 |t=>t
def dr2(μ:Mu)(t:T):T:=match dr1 μ t with
 |.lst ts=>.lst (ts.map (dr1 μ))
 |t=>t
open Classical in
noncomputable def qah.all(B:qah)(H:Hp)(μ:Mu):qah:=⟨λa=>if ∃k c,B.ad k=some a/\μ.l[k]? =some c/\c≠.gone then H a else B a,B.ad⟩
section
open Classical
variable {M:Md}{μ:Mu}{H:Hp}{B:qah}
theorem qdb(h:Hs M μ H B):Le B (B.all H μ)/\LeH (B.all H μ) H:=by
 refine⟨⟨λa o e=> ?_,λ_ _ e=>e⟩,λa o e=> ?_⟩
 ·show(if _ then H a else B a)=_;split
  ·exact h.bh a o e
  ·exact e
 ·have e:(if _ then H a else B a)=some o:=e;split at e
  ·exact e
  ·exact h.bh a o e
theorem qmB(h:Hs M μ H B){k:Nat}{c:Ct}{a:Addr}(e:μ.l[k]? =some c)(n:c≠.gone)(ha:B.ad k=some a): ∃o,(B.all H μ) a=some o/\qes M.K (B.all H μ) c o:=by obtain⟨o,_,ho,hc⟩:=h.at e n ha;refine⟨o,?_,hc.mono (qdb h).1⟩;show(if _ then H a else B a)=_;rw[if_pos ⟨k,c,ha,e,n⟩];exact ho
theorem qej(h:Hs M μ H B){t:T}{v:V}(r:Rep M.K B t v):Rep M.K (B.all H μ) (dr1 μ t) v:=by
 unfold dr1;split
 ·rename_i k;obtain⟨a,rfl,ea⟩:=qaF r;split
  ·rename_i ts el;obtain⟨o,e1,vs,rfl,rv⟩:=qmB h el (by simp) ea;exact qcU e1 rv
  ·rename_i ts el;obtain⟨o,e1,vs,rfl,rv⟩:=qmB h el (by simp) ea;exact qgA e1 rv
  ·exact r.mono (qdb h).1
 ·exact r.mono (qdb h).1
theorem qjr(h:Hs M μ H B){t:T}{v:V}(r:Rep M.K B t v):Rep M.K (B.all H μ) (dr2 μ t) v:=by
 have many: ∀{ts:List T} {vs:List V},Reps M.K B ts vs->Reps M.K (B.all H μ) (ts.map (dr1 μ)) vs:=λ{ts vs} r=>
  .of_get (by rw[r.length,List.length_map]) λi t' v e1 e2=>by
   rw[List.getElem?_map] at e1;cases q:ts[i]? with
   |none=>rw[q] at e1;cases e1
   |some u=>rw[q] at e1;cases e1;obtain⟨v',ev,rv⟩:=r.get q;rw[e2] at ev;cases ev;exact qej h rv
 have r0:=qej h r;unfold dr2;split
 ·rename_i ts e;unfold dr1 at e;split at e
  ·rename_i k;obtain⟨a,rfl,ea⟩:=qaF r;split at e
   ·rename_i us el;cases e;obtain⟨o,_,ho,vs,rfl,rv⟩:=h.at el (by simp) ea;refine qcU (vs:=vs) ?_ (many rv);show(if _ then H a else B a)=_;rw[if_pos ⟨k,_,ea,el,by simp⟩];exact ho
   ·cases e
   ·cases e
  ·subst e;obtain⟨p,vs,rfl,hp,rv⟩:=qau r;exact qcU ((qdb h).1.h _ _ hp) (many rv)
 ·exact r0
theorem qbj(h:Hs M μ H B){t:T}{v:V}{b:Bool}{ts:List T}(e:sqv μ t=some (b,ts))(r:Rep M.K B t v): ∃p vs,v= .ref p/\Reps M.K B ts vs/\(if b=true then H p=some (.lst vs) else B p=some (.tup vs)/\H p=some (.tup vs)):=by
 unfold sqv at e;split at e
 ·cases e;obtain⟨p,vs,rfl,hp,rv⟩:=qau r;exact⟨p,vs,rfl,rv,by rw[if_pos rfl];exact h.bh _ _ hp⟩
 ·cases e;obtain⟨p,vs,rfl,hp,rv⟩:=qaq r;exact⟨p,vs,rfl,rv,by rw[if_neg (by decide)];exact⟨hp,h.bh _ _ hp⟩⟩
 ·split at e
  ·rename_i k us el;cases e;obtain⟨a,rfl,ea⟩:=qaF r;obtain⟨o,_,ho,vs,rfl,rv⟩:=h.at el (by simp) ea;exact⟨a,vs,rfl,rv,by rw[if_pos rfl];exact ho⟩
  ·cases e
 ·cases e
end
def qty(μ:Mu)(a b:T):Option Nv:=match a,b with
 |.int i,.int j=>some (.v (.int (i+j)))
 |.str i,.str j=>if i.length+j.length<=100000 then some (.v (.str (i++j))) else none
 |a,b=>(match sqv μ a,sqv μ b with
  |some (true,xs),some (true,ys)=>if xs.length+ys.length<=1000 then some (.l (xs++ys)) else none
  |some (false,[]),some (false,ys)=>some (.v (.tup ys))
  |some (false,x::xs),some (false,[])=>if xs.length<=900 then some (.v (.tup (x::xs))) else none
  |some (false,x::xs),some (false,y::ys)=>if xs.length+ys.length<=900 then some (.t (x::xs++y::ys)) else none
  |_,_=>none)
def gSub(_:Mu):T->T->Option Nv
 |.int i,.int j=>some (.v (.int (i - j)))
 |_,_=>none
def qtr(μ:Mu)(a b:T):Option Nv:=match a,b with
 |.int i,.int j=>if(-4294967296<=i/\i<=4294967296)\/(-4294967296<=j/\j<=4294967296) then some (.v (.int (i*j))) else none
 |a,.int k=>(match sqv μ a with
  |some (true,xs)=>if(0<=k/\k<=100)/\xs.length<=10 then some (.l (List.replicate k.toNat xs).flatten) else none
  |some (false,x::xs)=>if xs.length<=9/\(k=5\/k=6) then some (.t (List.replicate k.toNat (x::xs)).flatten) else none
  |_=>none)
 |_,_=>none
def qtv(_:Mu):T->T->Option Nv
 |.int i,.int j=>if 0<j/\j<1073741824 then some (.v (.int (i / j))) else none
 |_,_=>none
def qts(_:Mu):T->T->Option Nv
 |.int i,.int j=>if 0<j then some (.v (.int (i % j))) else none
 |_,_=>none
def qv3(_:Mu):T->T->Option Nv
 |.int i,.int j=>if(0<=j/\j<=100)/\ -1000<=i/\i<=1000 then some (.v (.int (i ^ j.toNat))) else none
 |_,_=>none
theorem OpR.or{X:Cx}{f:Value->Value->Sem Value}{r r':R2}(h:OpR X f r)(h':OpR X f r'):OpR X f (λx y H Q=>r x y H Q\/r' x y H Q):=λpins s σ H x y v u Q I rx ry q=>q.elim (h pins s σ H x y v u Q I rx ry) (h' pins s σ H x y v u Q I rx ry)
section
variable {M:Md}{X:Cx}
theorem qcD{K:W.Frag}{B:qah}{ts:List T}{vs:List V}(r:Reps K B ts vs): ∀k:Nat,Reps K B (List.replicate k ts).flatten (List.replicate k vs).flatten
 |0=>.nil
 |k+1=>by rw[List.replicate_succ,List.replicate_succ,List.flatten_cons,List.flatten_cons];exact r.append (qcD r k)
def rAdd(K:W.Frag):R2:=λx y H Q=>(rI0 (λi j=>.int (i+j)) x y H Q\/(∃i j,x= .str i/\y= .str j/\i.length+j.length<=sizeLine/\Q (.str (i++j)) H))\/(quB x y H Q\/(PL.rCat0 K x y H Q\/qpn K x y H Q))
theorem qnB:OpR X (binaryOp .Add) (rAdd X.K):=OpR.or (OpR.or qp1 qhs) (OpR.or qp0 (OpR.or PL.op_cat0 qnA))
theorem qqa(hK:X.K=M.K):OkO M (rAdd X.K) qty:=by
 intro μ H B x y a b n Q h ra rb e k;rw[hK];unfold qty at e;split at e
 ·cases e;rw[qad ra,qad rb];exact .inl (.inl ⟨_,_,rfl,rfl,k B _ h .refl qay⟩)
 ·split at e
  ·rename_i hz;cases e;have l0:100000<=sizeLine:=by decide
   rw[qat ra,qat rb];exact .inl (.inr ⟨_,_,rfl,rfl,by omega,k B _ h .refl qcp⟩)
  ·cases e
 ·have l0:1000<=sizeLine:=by decide
  split at e
  ·rename_i xs ys e1 e2;split at e
   ·rename_i hz;cases e;obtain⟨p,vs,rfl,r1,h1⟩:=qbj h e1 ra;obtain⟨q,ws,rfl,r2,h2⟩:=qbj h e2 rb;rw[if_pos rfl] at h1 h2;exact .inr (.inl ⟨p,q,vs,ws,rfl,rfl,h1,h2,by rw[r1.length,r2.length];omega,λd hd=>k B d _ h .refl hd (r1.append r2)⟩)
   ·cases e
  ·rename_i ys e1 e2;cases e;obtain⟨p,vs,rfl,r1,h1⟩:=qbj h e1 ra;obtain⟨q,ws,rfl,r2,h2⟩:=qbj h e2 rb;rw[if_neg (by decide)] at h1 h2;cases r1.inv0;exact .inr (.inr (.inl ⟨p,q,ws,rfl,rfl,SqT.of h1.2,SqT.of h2.2,k B _ h .refl (qdt h2.1 r2)⟩))
  ·rename_i x xs e1 e2;split at e
   ·rename_i hz;cases e;obtain⟨p,vs,rfl,r1,h1⟩:=qbj h e1 ra;obtain⟨q,ws,rfl,r2,h2⟩:=qbj h e2 rb;rw[if_neg (by decide)] at h1 h2;cases r2.inv0;have l1:=r1.length;rw[List.length_cons] at l1;exact .inr (.inr (.inr ⟨p,q,vs,[],rfl,rfl,SqT.of h1.2,SqT.of h2.2,(λz=>by rw[z] at l1;cases l1),by simp;omega,(λ_=>k B _ h .refl (qdt h1.1 r1)),λz=>absurd rfl z⟩))
   ·cases e
  ·rename_i x xs y ys e1 e2;split at e
   ·rename_i hz;cases e;obtain⟨p,vs,rfl,r1,h1⟩:=qbj h e1 ra;obtain⟨q,ws,rfl,r2,h2⟩:=qbj h e2 rb;rw[if_neg (by decide)] at h1 h2;have l1:=r1.length;have l2:=r2.length;rw[List.length_cons] at l1 l2;exact .inr (.inr (.inr ⟨p,q,vs,ws,rfl,rfl,SqT.of h1.2,SqT.of h2.2,(λz=>by rw[z] at l1;cases l1),by omega,(λz=>by rw[z] at l2;cases l2),λ_ d hd=>k B d _ h .refl hd (r1.append r2)⟩))
   ·cases e
  ·cases e
theorem qp2:OkO M (rI0 λi j=>.int (i - j)) gSub:=by
 intro μ H B x y a b n Q h ra rb e k;unfold gSub at e;split at e
 ·cases e;exact⟨_,_,qad ra,qad rb,k B _ h .refl qay⟩
 ·cases e
def qur(K:W.Frag):R2:=λx y H Q=>rI qrX (λi j=>.int (i*j)) x y H Q\/(quq x y H Q\/(PL.rRep5 K x y H Q\/PL.rRep6 K x y H Q))
theorem qnx:OpR X (binaryOp .Mult) (qur X.K):=OpR.or qpT (OpR.or qpR PL.op_rep56)
theorem qp4(hK:X.K=M.K):OkO M (qur X.K) qtr:=by
 intro μ H B x y a b n Q h ra rb e k;rw[hK];have l0:1000<=sizeLine:=by decide
 unfold qtr at e;split at e
 ·split at e
  ·rename_i hz;cases e;refine .inl ⟨_,_,qad ra,qad rb,?_,k B _ h .refl qay⟩
   rcases hz with hz|hz
   ·exact .inl ⟨by lia,by lia⟩
   ·exact .inr ⟨by lia,by lia⟩
  ·cases e
 ·split at e
  ·rename_i j _ _ xs e1;split at e
   ·rename_i hz;cases e;obtain⟨p,vs,rfl,r1,h1⟩:=qbj h e1 ra;rw[if_pos rfl] at h1;have l1:vs.length*j.toNat<=10*100:=Nat.mul_le_mul (by rw[r1.length];exact hz.2) (by omega);exact .inr (.inl ⟨p,_,vs,rfl,qad rb,h1,by omega,by omega,by omega,λd hd=>k B d _ h .refl hd (qcD r1 _)⟩)
   ·cases e
  ·rename_i x xs e1;split at e
   ·rename_i hz;cases e;obtain⟨p,vs,rfl,r1,h1⟩:=qbj h e1 ra;rw[if_neg (by decide)] at h1;have l1:=r1.length;rw[List.length_cons] at l1;have nv:vs≠[]:=λz=>by rw[z] at l1;cases l1
    rcases hz.2 with rfl|rfl
    ·exact .inr (.inr (.inl ⟨p,vs,rfl,qad rb,SqT.of h1.2,nv,by omega,λd hd=>k B d _ h .refl hd (qcD r1 5)⟩))
    ·exact .inr (.inr (.inr ⟨p,vs,rfl,qad rb,SqT.of h1.2,nv,by omega,λd hd=>k B d _ h .refl hd (qcD r1 6)⟩))
   ·cases e
  ·cases e
 ·cases e
theorem qp9:OkO M (rI qu2 λi j=>.int (i / j)) qtv:=by
 intro μ H B x y a b n Q h ra rb e k;unfold qtv at e;split at e
 ·split at e
  ·rename_i hz;cases e;exact⟨_,_,qad ra,qad rb,hz,k B _ h .refl qay⟩
  ·cases e
 ·cases e
theorem qp5:OkO M (rI (λ_ j=>0<j) λi j=>.int (i % j)) qts:=by
 intro μ H B x y a b n Q h ra rb e k;unfold qts at e;split at e
 ·split at e
  ·rename_i hz;cases e;exact⟨_,_,qad ra,qad rb,hz,k B _ h .refl qay⟩
  ·cases e
 ·cases e
end
def qhh(x y:Str):Bool:=decide (x.cps.toList<y.cps.toList)
def gLt(_:Mu):T->T->Option Nv
 |.int i,.int j=>some (.v (.bl (decide (i<j))))
 |.str i,.str j=>some (.v (.bl (qhh i j)))
 |_,_=>none
def gLe(_:Mu):T->T->Option Nv
 |.int i,.int j=>some (.v (.bl (decide (i<=j))))
 |.str i,.str j=>some (.v (.bl (!qhh j i)))
 |_,_=>none
def gGt(_:Mu):T->T->Option Nv
 |.int i,.int j=>some (.v (.bl (decide (j<i))))
 |_,_=>none
def gGe(_:Mu):T->T->Option Nv
 |.int i,.int j=>some (.v (.bl (decide (j<=i))))
 |_,_=>none
def qmi(neg:Bool)(μ:Mu)(a b:T):Option Nv:=
 if okT 8 (dr1 μ a)=true/\okT 8 (dr1 μ b)=true then some (.v (.bl (if neg then !eqT (dr1 μ a) (dr1 μ b) else eqT (dr1 μ a) (dr1 μ b))))
 else if okT 8 (dr2 μ a)=true/\okT 8 (dr2 μ b)=true then some (.v (.bl (if neg then !eqT (dr2 μ a) (dr2 μ b) else eqT (dr2 μ a) (dr2 μ b)))) else(match neg,a,b with
  |false,.scr ns,.lst []=>some (.v (.bl ns.isEmpty))
  |_,_,_=>none)
def qn1:T->Option Bool
 |.non=>some true
 |_=>some false
def gIs(neg:Bool)(_:Mu):T->T->Option Nv
 |.bl i,.bl j=>some (.v (.bl (if neg then i != j else i==j)))
 |t,.non=>(qn1 t).map λb=>.v (.bl (if neg then !b else b))
 |_,_=>none
section
variable {M:Md}{X:Cx}
theorem qpV:OpR X (compareOp .Lt) (λx y H Q=>rI0 (λi j=>.bl (decide (i<j))) x y H Q\/∃i j,x= .str i/\y= .str j/\Q (.bl (decide (i.cps.toList<j.cps.toList))) H):=OpR.or qsN qiI
theorem qpW:OpR X (compareOp .LtE) (λx y H Q=>rI0 (λi j=>.bl (decide (i<=j))) x y H Q\/∃i j,x= .str i/\y= .str j/\Q (.bl (!decide (j.cps.toList<i.cps.toList))) H):=OpR.or qsO qiJ
theorem qsR:OkO M (λx y H Q=>rI0 (λi j=>.bl (decide (i<j))) x y H Q\/∃i j,x= .str i/\y= .str j/\Q (.bl (decide (i.cps.toList<j.cps.toList))) H) gLt:=by
 intro μ H B x y a b n Q h ra rb e k;unfold gLt at e;split at e
 ·cases e;exact .inl ⟨_,_,qad ra,qad rb,k B _ h .refl qa9⟩
 ·cases e;exact .inr ⟨_,_,qat ra,qat rb,k B _ h .refl qa9⟩
 ·cases e
theorem qsS:OkO M (λx y H Q=>rI0 (λi j=>.bl (decide (i<=j))) x y H Q\/∃i j,x= .str i/\y= .str j/\Q (.bl (!decide (j.cps.toList<i.cps.toList))) H) gLe:=by
 intro μ H B x y a b n Q h ra rb e k;unfold gLe at e;split at e
 ·cases e;exact .inl ⟨_,_,qad ra,qad rb,k B _ h .refl qa9⟩
 ·cases e;exact .inr ⟨_,_,qat ra,qat rb,k B _ h .refl qa9⟩
 ·cases e
theorem qsT:OkO M (rI0 λi j=>.bl (decide (j<i))) gGt:=by
 intro μ H B x y a b n Q h ra rb e k;unfold gGt at e;split at e
 ·cases e;exact⟨_,_,qad ra,qad rb,k B _ h .refl qa9⟩
 ·cases e
theorem qsU:OkO M (rI0 λi j=>.bl (decide (j<=i))) gGe:=by
 intro μ H B x y a b n Q h ra rb e k;unfold gGe at e;split at e
 ·cases e;exact⟨_,_,qad ra,qad rb,k B _ h .refl qa9⟩
 ·cases e
def qsw(K:W.Frag)(neg:Bool):R2:=λx y H Q=>(∃B t u,LeH B H/\Rep K B t x/\Rep K B u y/\okT 8 t=true/\okT 8 u=true/\Q (.bl (if neg then !eqT t u else eqT t u)) H)\/(neg=false/\∃(a b:Addr) (ns:List Int),x= .ref a/\y= .ref b/\SqL K H a (ns.map V.int)/\SqL K H b []/\Q (.bl ns.isEmpty) H)
theorem qpZ(hu:X.A.units+8<cLine):OpR X (compareOp .Eq) (qsw X.K false):=by
 intro pins s σ H x y v u Q I rx ry q
 rcases q with⟨B,t,u',le,ra,rb,o1,o2,q⟩|⟨_,a,b,ns,rfl,rfl,h1,h2,q⟩
 ·exact(qit I le 8 8 X.A t u' x y v u o1 o2 hu ra rb rx ry).2.1 _ _ _ _ ⟨.bl _,H,I,rfl,q⟩
 ·refine qfJ (by omega) pins s σ H _ _ v u Q I rx ry ⟨a,b,_,_,rfl,rfl,h1,h2,?_⟩;cases ns with
  |nil=>exact .inr ⟨rfl,λ_=>true,λi x y hx=>by simp at hx,q⟩
  |cons n ns=>exact .inl ⟨by simp,q⟩
theorem qpS(hu:X.A.units+8<cLine):OpR X (compareOp .NotEq) (qsw X.K true):=by
 intro pins s σ H x y v u Q I rx ry q
 rcases q with⟨B,t,u',le,ra,rb,o1,o2,q⟩|⟨e,_⟩
 ·exact(qit I le 8 8 X.A t u' x y v u o1 o2 hu ra rb rx ry).2.2 _ _ _ _ ⟨.bl _,H,I,rfl,q⟩
 ·cases e
theorem qp8{neg:Bool}(hK:X.K=M.K):OkO M (qsw X.K neg) (qmi neg):=by
 intro μ H B x y a b n Q h ra rb e k;rw[hK];have le:=(qdb h).2;unfold qmi at e;split at e
 ·rename_i o;cases e;exact .inl ⟨_,_,_,le,qej h ra,qej h rb,o.1,o.2,k B _ h .refl qa9⟩
 ·split at e
  ·rename_i o;cases e;exact .inl ⟨_,_,_,le,qjr h ra,qjr h rb,o.1,o.2,k B _ h .refl qa9⟩
  ·split at e
   ·cases e;obtain⟨p,vs,rfl,r1,r2⟩:=qau rb;cases r2.inv0;unfold Rep at ra;obtain⟨q,rfl,r3⟩:=ra;exact .inr ⟨rfl,_,_,_,rfl,rfl,qii (λa o e=>le _ _ ((qdb h).1.h a o e)) r3,SqL.of (le _ _ ((qdb h).1.h _ _ r1)),k B _ h .refl qa9⟩
   ·cases e
theorem qi2{K:W.Frag}{B:qah}{t:T}{v:V}{c:Bool}(r:Rep K B t v)(e:qn1 t=some c):decide (v= .non)=c:=by
 cases t with
 |non=>cases e;rw[qdZ r];rfl
 |bl _=>cases e;rw[qbx r];rfl
 |int _=>cases e;rw[qad r];rfl
 |str _=>cases e;rw[qat r];rfl
 |tup _=>cases e;obtain⟨_,_,rfl,_⟩:=qaq r;rfl
 |lst _=>cases e;obtain⟨_,_,rfl,_⟩:=qau r;rfl
 |dct _=>cases e;obtain⟨_,_,rfl,_⟩:=qfA r;rfl
 |obj _=>cases e;obtain⟨_,rfl,_⟩:=qaF r;rfl
 |exc _=>cases e;obtain⟨_,rfl,_⟩:=qmZ r;rfl
 |fn _|scr _=>cases e;unfold Rep at r;obtain⟨_,rfl,_⟩:=r;rfl
theorem qny:OpR X (compareOp .Is) (λx y H Q=>(y= .non/\Q (.bl (decide (x= .non))) H)\/∃c d,x= .bl c/\y= .bl d/\Q (.bl (c==d)) H):=OpR.or qpX qkY
theorem qhr:OpR X (compareOp .IsNot) (λx y H Q=>(y= .non/\Q (.bl (!decide (x= .non))) H)\/∃c d,x= .bl c/\y= .bl d/\Q (.bl (c != d)) H):=OpR.or qnw qfI
theorem qp6{neg:Bool}:OkO M (λx y H Q=>(y= .non/\Q (.bl (if neg then !decide (x= .non) else decide (x= .non))) H)\/∃c d,x= .bl c/\y= .bl d/\Q (.bl (if neg then c != d else c==d)) H) (gIs neg):=by
 intro μ H B x y a b n Q h ra rb e k;unfold gIs at e;split at e
 ·cases e;exact .inr ⟨_,_,qbx ra,qbx rb,k B _ h .refl qa9⟩
 ·cases q:qn1 a with
  |none=>rw[q] at e;cases e
  |some c=>rw[q] at e;cases e;rw[qi2 ra q];exact .inl ⟨qdZ rb,k B _ h .refl qa9⟩
 ·cases e
end
end NV
namespace PL
open PySem L2 SR SetL
theorem boot_any':bootBuiltins "any" =some (.builtin "any"):=by decide+kernel
section
def maxI:List Int->Int
 |[]=>0
 |x::xs=>xs.foldl (λa b=>if a<b then b else a) x
theorem qhH(ns:List Int): ∀k,k<ns.length->ns.getD (argBest (λi j=>decide (ns.getD i 0>ns.getD j 0)) k) 0=((ns.take (k+1)).drop 1).foldl (λa b=>if a<b then b else a) (ns.getD 0 0):=by
 intro k
 induction k with
 |zero=>
  intro h;have:(ns.take 1).drop 1=[]:=by cases ns<;>simp
  rw[this];rfl
 |succ k ih=>
  intro h;have ih:=ih (by lia);have et:(ns.take (k+1+1)).drop 1=(ns.take (k+1)).drop 1++[ns.getD (k+1) 0]:=by rw[List.take_succ,List.getElem?_eq_getElem h,List.drop_append_of_le_length (by rw[List.length_take];lia)];simp[List.getD_eq_getElem?_getD,h]
  rw[et,List.foldl_append,<-ih];show ns.getD (if decide (ns.getD (k+1) 0>ns.getD (argBest _ k) 0)=true then k+1 else argBest _ k) 0=(if _<_ then _ else _)
  by_cases c:ns.getD (k+1) 0>ns.getD (argBest (λi j=>decide (ns.getD i 0>ns.getD j 0)) k) 0
  ·rw[if_pos (decide_eq_true c),if_pos c]
  ·rw[if_neg (by rw[decide_eq_false c];decide),if_neg c]
theorem call_maxL(hc:X.calm=true):qas X (.builtin "max") (λxs H Q=> ∃(a:Addr) (ns:List Int),xs=[.ref a]/\SqL X.K H a (ns.map V.int)/\ns≠[]/\Q (.int (maxI ns)) H):=by
 intro pins s σ H xs us Q I r h;obtain⟨a,ns,rfl,hS,aZ,q⟩:=h;obtain⟨u,rfl,ru⟩:=qeu r;cases ru;obtain⟨its,rv,pl,hz⟩:=I.list hS;have hl:=rv.length;rw[List.length_map] at hl;have n0:0<ns.length:=List.length_pos_iff.mpr aZ;have aI:a<s.heap.objs.size:=Vi pl.isList.choose_spec.1;have hh:X.A.in1.handled=none:=I.ok.hd hc;have shape: ∀{i:Nat} {v:Value},its.toArray[i]? =some v->∃t,v= .int (ns.getD i 0) t:=λ{i v} hv=>by
  have bB:its[i]? =some v:=by simpa using hv
  have hi:=(List.getElem?_eq_some_iff.mp bB).1;obtain⟨u,e1,e2⟩:=rv.get (i:=i) (x:=V.int (ns.getD i 0)) (by rw[List.getElem?_map,List.getElem?_eq_getElem (by lia)];simp[List.getD_eq_getElem?_getD,show i<ns.length by lia]);rw[bB] at e1;cases e1;exact e2
 refine call_max_walk (Vf pl.isList ?_);refine⟨s.heap.objs.size,_,_,its.toArray.size,_,_,λi j=>decide (ns.getD i 0>ns.getD j 0),rfl,Walks.list hh s.heap.objs.size a (Vp aI) its.toArray,⟨⟨_,Vh _ rfl,rfl,rfl⟩,pl.isList.at λo e=>Vg _ e⟩,λb hb=> ?_,by rw[List.size_toArray];lia,λi j vi vj s' Q' E' hi hj hq=> ?_,λv h' tk hv k=> ?_⟩
 ·have aR:b=s.heap.objs.size\/b=a:=by simpa using hb
  rcases aR with rfl|rfl
  ·show s.heap.objs.size<(Heap.push _ _).objs.size;rw[PyProof.Rows.size_push'];exact Wb _
  ·show b<(Heap.push _ _).objs.size;rw[PyProof.Rows.size_push'];exact Nat.lt_succ_of_lt aI
 ·obtain⟨t,rfl⟩:=shape hi;obtain⟨t',rfl⟩:=shape hj;exact P.gt_int hq
 ·obtain⟨t,rfl⟩:=shape hv;have e:ns.getD (argBest (λi j=>decide (ns.getD i 0>ns.getD j 0)) (its.toArray.size - 1)) 0=maxI ns:=by
   rw[qhH ns _ (by rw[List.size_toArray];lia)];have:its.toArray.size - 1+1=ns.length:=by rw[List.size_toArray];lia
   rw[this,List.take_length];cases ns with
   |nil=>exact absurd rfl aZ
   |cons x xs=>rfl
  refine⟨.int (maxI ns),H,?_,⟨t,by rw[e]⟩,q⟩;refine I.kept (t':=tk) λb o eo=>k b o ?_ (Vg _ eo);intro z;have:b=s.heap.objs.size:=by simpa using z
  exact Vp (Vi eo) this
end
end PL
namespace SetL
open PySem
def its(mask:Nat):Nat->Nat×Nat->Nat×Nat
 |0,x=>x
 |t+1,x=>its mask t (SetTable.leap mask x.1 x.2)
end SetL
namespace PL
open PySem L2 SR SetL
end PL
namespace PySem
end PySem
namespace PL
open PySem L2 SR SetL
end PL
namespace PL
open PySem L2
end PL
namespace HT
open PySem PySem.Spec PyProof.Rows L2
theorem getItem_tuple_all{prog:Program}{w:World}{A:Around}{E:Value->Shared->Prop}{s:Shared}{t sl:Addr}{items:Array Value}{vl vu:Value}{lo hi:Option Int}{Q:Value->Shared->Prop}(ht:IsTup s.heap t items)(hs:s.heap.IsSliceOf sl vl vu .none)(pl:IsPart vl lo)(pu:IsPart vu hi)(hw:sIx items.size 0 lo=0/\sIx items.size items.size hi=items.size)(h:Q (.ref t) s):wpAny (model prog w) A (getItem (.ref t) (.ref sl)) Q E s:=by
 obtain⟨os,dJ,gk,fE⟩:=id hs;have iH:s.TypeIs (.ref sl) "slice" :=⟨os,dJ,gk⟩
 unfold getItem
 try with_reducible refine wpAny_holding ?_
 first|refine Va (Vb ?_)|skip
 refine Va (wpAny_sequenceKey ht.typeIs (by decide) ?_)
 refine Va (wpAny_callSpecial?_slot (name:=Str.ofString "__getitem__") ht.typeIs PyProof.Rows.slot_tuple_getitem
  (wpAny_call_entry PyProof.Rows.slot_tuple_getitem ht.typeIs entry_tuple_getitem ?_ (args_tuple_getitem _ _)))
 show wpAny _ _ (Builtin.Tuple.tupleItemsOf (.ref t)>>=_) _ _ s;refine Va (tupleItemsOf_ ht ?_);refine Va (wpAny_typeOf iH ?_);rw[if_pos (by decide)];refine Va (qbd hs pl pu ?_);show wpAny _ _ (if(((sIx items.size 0 lo:Nat):Int)==0&&(1:Int)==1&&(sIx items.size items.size hi - sIx items.size 0 lo)==items.size)=true then _ else _) _ _ s;rw[if_pos (by rw[hw.1,hw.2];simp)];unfold Builtin.Tuple.tupleIsExact;refine Va (Va (wpAny_typeOf ht.typeIs (Vb ?_)));rw[if_pos (by decide)];refine Va (wpAny_rule ?_);exact Vb ⟨_,rfl,Vb h⟩
end HT
namespace L2
open PySem PySem.Spec PyProof.Rows
theorem qmT:SlR X (λx lo hi H Q=> ∃a xs,x= .ref a/\SqT X.K H a xs/\(HT.sIx xs.length 0 lo=0/\HT.sIx xs.length xs.length hi=xs.length)/\Q (.ref a) H):=by
 intro pins s σ H x v vl vu lo hi sl Q I rx hs pl pu h;obtain⟨a,xs,rfl,hx,hw,q⟩:=h;cases rx;obtain⟨its,r,ht,hz⟩:=I.tuple hx;have hlen:its.toArray.size=xs.length:=by rw[List.size_toArray];exact r.length.symm
 exact⟨"tuple",_,PyProof.Rows.slot_tuple_getitem.lookup,ht.typeIs,HT.getItem_tuple_all ht hs pl pu (by rw[hlen];exact hw) ⟨.ref a,H,I,rfl,q⟩⟩
end L2
namespace PL
open PySem L2
end PL
namespace NV
open PySem L2
def rB(M:Md)(g:Mu->T->T->Option Nv):R2:=λx y H Q=> ∃μ B a b n,Hs M μ H B/\Rep M.K B a x/\Rep M.K B b y/\g μ a b=some n/\KV M μ H B Q n
def rN(M:Md)(g:Mu->List T->Option Nv):List V->Hp->VK->Prop:=λvs H Q=> ∃μ B ts n,Hs M μ H B/\Reps M.K B ts vs/\g μ ts=some n/\KV M μ H B Q n
theorem OpR.weak{X:Cx}{f:Value->Value->Sem Value}{r r':R2}(h:OpR X f r)(w: ∀x y H Q,r' x y H Q->r x y H Q):OpR X f r':=λpins s σ H x y v u Q I rx ry q=>h pins s σ H x y v u Q I rx ry (w _ _ _ _ q)
theorem qas.weak{X:Cx}{f:Value}{r r':List V->Hp->VK->Prop}(h:qas X f r)(w: ∀xs H Q,r' xs H Q->r xs H Q):qas X f r':=λpins s σ H xs us Q I r q=>h pins s σ H xs us Q I r (w _ _ _ q)
theorem IxR.weak{X:Cx}{r r':R2}(h:IxR X r)(w: ∀x y H Q,r' x y H Q->r x y H Q):IxR X r':=λvalue slice pins s σ H x y v u Q I rx ry q hs=>h value slice pins s σ H x y v u Q I rx ry (w _ _ _ _ q) hs
theorem OpR.ok{M:Md}{X:Cx}{f:Value->Value->Sem Value}{r:R2}{g:Mu->T->T->Option Nv}(h:OpR X f r)(o:OkO M r g):OpR X f (rB M g):=OpR.weak h λ_ _ _ Q ⟨_,_,_,_,_,hs,ra,rb,e,k⟩=>o _ _ _ _ _ _ _ _ Q hs ra rb e k
theorem qas.ok{M:Md}{X:Cx}{f:Value}{r:List V->Hp->VK->Prop}{g:Mu->List T->Option Nv}(h:qas X f r)(o:OkN M r g):qas X f (rN M g):=qas.weak h λ_ _ Q ⟨_,_,_,_,hs,ra,e,k⟩=>o _ _ _ _ _ _ Q hs ra e k
theorem qkA{K:W.Frag}{B:qah}{ts:List T}{vs:List V}(r:Reps K B ts vs){i:Int}{t:T}(h:atI ts i=some t): ∃v,atI vs i=some v/\Rep K B t v:=by
 unfold atI at h⊢;rw[r.length];cases e:ixN ts.length i with
 |none=>rw[e] at h;cases h
 |some j=>rw[e] at h;exact r.get h
def dkv(μ:Mu):T->Option (List (Key×T))
 |.dct kvs=>some kvs
 |.obj k=>(match μ.l[k]? with|some (.dk kvs)=>some kvs|_=>none)
 |_=>none
def duv(μ:Mu):T->Option (List (List Key×T))
 |.obj k=>(match μ.l[k]? with|some (.du kvs)=>some kvs|_=>none)
 |_=>none
def qbM:T->Option Key
 |.int i=>some (.inl i)
 |.str s=>some (.inr s)
 |_=>none
def qeV:List T->Option (List Key)
 |[]=>some []
 |t::ts=>(qbM t).bind λk=>(qeV ts).map (k:: ·)
def qke:T->Option (List Key)
 |.tup ts=>qeV ts
 |_=>none
def qde{κ:Type}[DecidableEq κ](kvs:List (κ×T))(k:κ):Option T:=(kvs.find? λkv=>decide (kv.1=k)).map (·.2)
theorem qcE{K:W.Frag}{B:qah}{κ:Type}[DecidableEq κ](k:κ): ∀{ts:List (κ×T)} {vs:List (κ×V)},qbh K B ts vs->(∀t,qde ts k=some t->∃v,qg9 vs k=some v/\Rep K B t v)/\(qde ts k=none->qg9 vs k=none)
 |[],vs,r=>by have r:vs=[]:=r;rw[r];exact⟨(λt e=>by cases e),λ_=>rfl⟩
 |(k',t)::ts,_,⟨v,r,e,a,b⟩=>by
  have ih:=qcE k b;subst e;unfold qde qg9;rw[List.find?_cons,List.find?_cons];by_cases c:k'=k
  ·rw[decide_eq_true c];exact⟨λu e=>by cases e;exact⟨v,rfl,a⟩,λe=>by cases e⟩
  ·rw[decide_eq_false c];exact ih
theorem qec{K:W.Frag}{B:qah}{t:T}{k:Key}{v:V}(h:qbM t=some k)(r:Rep K B t v):v=kV k:=by
 cases t with
 |int i=>cases h;exact qad r
 |str s=>cases h;exact qat r
 |_=>cases h
theorem qgK{K:W.Frag}{B:qah}: ∀{ts:List T} {ks:List Key} {vs:List V},qeV ts=some ks->Reps K B ts vs->vs=ks.map kV
 |[],ks,vs,h,r=>by cases h;exact r.inv0
 |t::ts,ks,vs,h,r=>by
  obtain⟨v,bX,rfl,a,b⟩:=r.inv;unfold qeV at h;cases e:qbM t with
  |none=>rw[e] at h;cases h
  |some k=>
   cases e2:qeV ts with
   |none=>rw[e,e2] at h;cases h
   |some ks'=>rw[e,e2] at h;cases h;rw[qec e a,qgK e2 b];rfl
section
variable {M:Md}{μ:Mu}{H:Hp}{B:qah}
theorem qgQ(h:Hs M μ H B){t:T}{v:V}{kvs:List (Key×T)}(e:dkv μ t=some kvs)(r:Rep M.K B t v): ∃p us,v= .ref p/\H p=some (.dK us)/\qbh M.K B kvs us:=by
 unfold dkv at e;split at e
 ·cases e;obtain⟨p,us,rfl,hp,ru⟩:=qfA r;exact⟨p,us,rfl,h.bh _ _ hp,ru⟩
 ·rename_i k;split at e
  ·rename_i gW el;cases e;obtain⟨a,rfl,ea⟩:=qaF r;obtain⟨o,_,ho,us,rfl,ru⟩:=h.at el (by simp) ea;exact⟨a,us,rfl,ho,ru⟩
  ·cases e
 ·cases e
theorem qjo(h:Hs M μ H B){t:T}{v:V}{kvs:List (List Key×T)}(e:duv μ t=some kvs)(r:Rep M.K B t v): ∃p us,v= .ref p/\H p=some (.dT us)/\qbh M.K B kvs us:=by
 unfold duv at e;split at e
 ·rename_i k;split at e
  ·rename_i gW el;cases e;obtain⟨a,rfl,ea⟩:=qaF r;obtain⟨o,_,ho,us,rfl,ru⟩:=h.at el (by simp) ea;exact⟨a,us,rfl,ho,ru⟩
  ·cases e
 ·cases e
theorem qfP(h:Hs M μ H B){t:T}{v:V}{ks:List Key}(e:qke t=some ks)(r:Rep M.K B t v): ∃b,v= .ref b/\H b=some (.tup (ks.map kV)):=by
 cases t with
 |tup ts=>obtain⟨p,vs,rfl,hp,rv⟩:=qaq r;rw[qgK e rv] at hp;exact⟨p,rfl,h.bh _ _ hp⟩
 |_=>cases e
def qjz(μ:Mu)(d y:T):Option (Option T):=match dkv μ d,qbM y with
 |some kvs,some k=>some (qde kvs k)
 |_,_=>(match duv μ d,qke y with
  |some kvs,some k=>some (qde kvs k)
  |_,_=>none)
theorem qjy(h:Hs M μ H B){d y:T}{x u:V}{o:Option T}(e:qjz μ d y=some o)(r:Rep M.K B d x)(ry:Rep M.K B y u): ∃a ov,x= .ref a/\IsD H a/\qkc H a u ov/\(∀t,o=some t->∃v,ov=some v/\Rep M.K B t v)/\(o=none->ov=none):=by
 unfold qjz at e;split at e
 ·rename_i kvs k e1 e2;cases e;obtain⟨p,us,rfl,hp,ru⟩:=qgQ h e1 r;have:=qcE k ru;exact⟨p,_,rfl,.inl ⟨us,.of hp⟩,.inl ⟨us,k,.of hp,qec e2 ry,rfl⟩,this.1,this.2⟩
 ·split at e
  ·rename_i kvs k e1 e2;cases e;obtain⟨p,us,rfl,hp,ru⟩:=qjo h e1 r;obtain⟨b,rfl,hb⟩:=qfP h e2 ry;have:=qcE k ru;exact⟨p,_,rfl,.inr ⟨us,.of hp⟩,.inr ⟨us,k,b,.of hp,rfl,hb,rfl⟩,this.1,this.2⟩
  ·cases e
end
def qcm(μ:Mu):T->Option (Bool×List T)
 |.scr ns=>some (true,ns.map .int)
 |t=>sqv μ t
def gDG(μ:Mu)(a b:T):Option Nv:=(qjz μ a b).bind λo=>o.map .v
def gIx(μ:Mu)(a b:T):Option Nv:=match b with
 |.int i=>(match a with
  |.str z=>if z.length<=1000 then(atI z.cps.toList i).map λc=>.v (.str ⟨#[c]⟩) else none
  |a=>(match qcm μ a with
   |some q=>(atI q.2 i).map .v
   |none=>gDG μ a (.int i)))
 |b=>gDG μ a b
section
variable {M:Md}{X:Cx}{μ:Mu}{H:Hp}{B:qah}
open PySem.Spec PyProof.Rows in
theorem qnY(hu:X.A.units+1<cLine):IxR X (λx y H Q=> ∃a v,x= .ref a/\qkc H a y (some v)/\Q v H):=by intro value slice pins s σ H x y v u Q I rx ry h hs;obtain⟨a,z,rfl,g,q⟩:=h;cases rx;exact tail_any (qf0 I g) F.slot_dict_getitem.lookup (qjx hu I g ry λw' s3 I3 aF=>⟨z,H,I3,aF,q⟩) hs
theorem qdX{K:W.Frag}{B:qah}: ∀ns:List Int,Reps K B (ns.map T.int) (ns.map V.int)
 |[]=>.nil
 |_::ns=>.cons qay (qdX ns)
theorem qcQ(h:Hs M μ H B){t:T}{v:V}{b:Bool}{ts:List T}(e:qcm μ t=some (b,ts))(r:Rep M.K B t v): ∃p vs,v= .ref p/\Reps M.K B ts vs/\(if b=true then SqL M.K H p vs else SqT M.K H p vs):=by
 unfold qcm at e;split at e
 ·cases e;unfold Rep at r;obtain⟨p,rfl,q⟩:=r;exact⟨p,_,rfl,qdX _,by rw[if_pos rfl];exact qii h.bh q⟩
 ·obtain⟨p,vs,rfl,rv,q⟩:=qbj h e r;refine⟨p,vs,rfl,rv,?_⟩;cases b with
  |true=>rw[if_pos rfl] at q⊢;exact SqL.of q
  |false=>rw[if_neg (by decide)] at q⊢;exact SqT.of q.2
theorem qfy(h:Hs M μ H B){t:T}{v:V}{b:Bool}{ts:List T}(e:qcm μ t=some (b,ts))(r:Rep M.K B t v): ∃p vs,v= .ref p/\Reps M.K B ts vs/\(SqL M.K H p vs\/SqT M.K H p vs):=by
 obtain⟨p,vs,rfl,rv,q⟩:=qcQ h e r;refine⟨p,vs,rfl,rv,?_⟩;split at q
 ·exact .inl q
 ·exact .inr q
theorem qvy(hu:X.A.units+1<cLine)(hK:X.K=M.K):IxR X (rB M gIx):=IxR.weak (IxR.or qqx (qnY hu)) λx y H Q ⟨μ,B,a,b,n,h,ra,rb,e,k⟩=>by
 rw[hK];have dg:gDG μ a b=some n->(rIx M.K x y H Q\/∃a v,x= .ref a/\qkc H a y (some v)/\Q v H):=λe=>by
  unfold gDG at e;cases q:qjz μ a b with
  |none=>rw[q] at e;cases e
  |some o=>
   cases o with
   |none=>rw[q] at e;cases e
   |some t=>rw[q] at e;cases e;obtain⟨p,ov,rfl,_,g,h1,_⟩:=qjy h q ra rb;obtain⟨v,rfl,rv⟩:=h1 t rfl;exact .inr ⟨p,v,rfl,g,k B v h .refl rv⟩
 cases b with
 |int i=>
  have sq:(match qcm μ a with|some q=>(atI q.2 i).map Nv.v|none=>gDG μ a (.int i))=some n->(rIx M.K x y H Q\/∃a v,x= .ref a/\qkc H a y (some v)/\Q v H):=λe=>by
   cases es:qcm μ a with
   |none=>rw[es] at e;exact dg e
   |some p=>
    obtain⟨bb,ts⟩:=p;rw[es] at e;have e:(atI ts i).map Nv.v=some n:=e;cases q:atI ts i with
    |none=>rw[q] at e;cases e
    |some t=>
     rw[q] at e;cases e;obtain⟨p,vs,rfl,rv,hs⟩:=qfy h es ra;obtain⟨v,ev,cQ⟩:=qkA rv q
     rcases hs with hs|hs
     ·exact .inl (.inl ⟨p,vs,i,v,rfl,qad rb,hs,ev,k B v h .refl cQ⟩)
     ·exact .inl (.inr (.inl ⟨p,vs,i,v,rfl,qad rb,hs,ev,k B v h .refl cQ⟩))
  cases a with
  |str z=>
   have e:(if z.length<=1000 then(atI z.cps.toList i).map λc=>Nv.v (.str ⟨#[c]⟩) else none)=some n:=e;split at e
   ·rename_i hz;cases q:atI z.cps.toList i with
    |none=>rw[q] at e;cases e
    |some c=>rw[q] at e;cases e;rw[qat ra,qad rb];exact .inl (.inr (.inr ⟨z,i,c,rfl,rfl,Vq (qbk hz),q,k B _ h .refl qcp⟩))
   ·cases e
  |_=>exact sq e
 |_=>exact dg e
def tO(M:Md)(E:XK)(d:DS0 (Option Int)):TO:=λσ H Q=> ∃ρ μ B,Ev M ρ μ σ H B/\Wn M E H B (λo aa=> ∀H' B',Hs M aa H' B'->Go H B H' B'->Q o H') (d ρ μ)
def dON:DS0 (Option Int):=λ_ μ=>.ok none μ
def dOS(da:DS0 T):DS0 (Option Int):=dSq da λt _ μ=>match t with|.int i=>.ok (some i) μ|_=>.no
theorem qoi{E:XK}:PO X none (tO M E dON):=PO.weak qng λσ H Q ⟨ρ,μ,B,ev,w⟩=>w H B ev.hs .refl
theorem qoh{E:XK}{e:Expr}{da:DS0 T}(h:PE X e (tE M E da)):PO X (some e) (tO M E (dOS da)):=PO.weak (qnf h) λσ H Q ⟨ρ,μ,B,ev,w⟩=>tE.of ev ((Wn.bind w).mono λt ah w1 v H1 B1 h1 l1 r1=>by
 cases t with
 |int i=>exact⟨i,qad r1,w1 H1 B1 h1 l1⟩
 |_=>exact w1.elim)
def qkg(ts:List T)(lo hi:Option Int):List T:=(ts.drop (HT.sIx ts.length 0 lo)).take (HT.sIx ts.length ts.length hi - HT.sIx ts.length 0 lo)
theorem qgo{K:W.Frag}{B:qah}{ts:List T}{vs:List V}(r:Reps K B ts vs)(lo hi:Option Int):Reps K B (qkg ts lo hi) (qmt vs lo hi):=by unfold qkg qmt;rw[r.length];exact(r.drop _).take _
theorem qlz{ts:List T}{l h:Option Int}(c:HT.sIx ts.length 0 l=0/\HT.sIx ts.length ts.length h=ts.length):qkg ts l h=ts:=by unfold qkg;rw[c.1,c.2];simp
def gSl(μ:Mu)(a:T)(lo hi:Option Int):Option Nv:=match a with
 |.str z=>if z.length<=1000 then some (.v (.str (PySem.Txt.slice z lo hi))) else none
 |.tup ts=>if HT.sIx ts.length 0 lo=0/\HT.sIx ts.length ts.length hi=ts.length then some (.v (.tup (qkg ts lo hi))) else some (.t (qkg ts lo hi))
 |a=>(match qcm μ a with
  |some (true,ts)=>some (.l (qkg ts lo hi))
  |_=>none)
def dSl(ow:Bool)(da:DS0 T)(dl dh:DS0 (Option Int)):DS0 T:=dSq da λa=>dSq dl λl=>dSq dh λh _ μ=>nvR ow (gSl μ a l h) μ
theorem qlt{E:XK}{a:Expr}{lo hi:Option Expr}{p2 pos:Pos}{ow:Bool}{da:DS0 T}{dl dh:DS0 (Option Int)}(hK:X.K=M.K)(ha:PE X a (tE M E da))(hl:PO X lo (tO M E dl))(hh:PO X hi (tO M E dh)):PE X (.Subscript a (.Slice lo hi none p2) pos) (tE M E (dSl ow da dl dh)):=by
 refine PE.weak (qkR (SlR.or (SlR.or qpc qmT) (SlR.or qmU qpd)) ha hl hh) λσ H Q ⟨ρ,μ,B,ev,w⟩=> ?_;refine tE.of ev ((Wn.bind w).mono λt ah w1 v H1 B1 h1 l1 r1=> ?_);refine⟨ρ,ah,B1,ev.on h1 l1.le,(Wn.bind w1).lift l1 λl ak w2 H2 B2 h2 l2=> ?_⟩;refine⟨ρ,ak,B2,(ev.on h1 l1.le).on h2 l2.le,(Wn.bind w2).lift (l1.trans l2) λu bq w3 H3 B3 h3 l3=> ?_⟩;have w3:Wn M E H B (KE M H B Q) (nvR ow (gSl bq t l u) bq):=w3;obtain⟨c,m,q,w3⟩:=Wn.pl w3 (λc m=>qd5 c m);obtain⟨n,e,kv⟩:=qbY q (KE.le w3 ((l1.trans l2).trans l3));have r3:=r1.mono (l2.trans l3).le;rw[hK];unfold gSl at e;split at e
 ·split at e
  ·rename_i hz;cases e;rw[qat r3];exact .inr (.inr ⟨_,rfl,hz,kv B3 _ h3 .refl qcp⟩)
  ·cases e
 ·rename_i ts;obtain⟨p,vs,rfl,hp,rv⟩:=qaq r3;have hl:=rv.length;split at e
  ·rename_i hc;cases e;refine .inl (.inr ⟨p,vs,rfl,SqT.of (h3.bh _ _ hp),by rw[hl];exact hc,?_⟩);rw[qlz hc] at kv;exact kv B3 _ h3 .refl r3
  ·rename_i hc;cases e;exact .inl (.inl ⟨p,vs,rfl,SqT.of (h3.bh _ _ hp),by rw[hl];exact hc,λd hd=>kv B3 d _ h3 .refl hd (qgo rv l u)⟩)
 ·split at e
  ·rename_i ts es;cases e;obtain⟨p,vs,rfl,rv,hs⟩:=qcQ h3 es r3;rw[if_pos rfl] at hs;exact .inr (.inl ⟨p,vs,rfl,hs,λd hd=>kv B3 d _ h3 .refl hd (qgo rv l u)⟩)
  ·cases e
def qv2(μ:Mu)(a:T)(lo hi st:Option Int):Option Nv:=match qcm μ a with
 |some (true,ts)=>if st≠some 0 then some (.l (RH.pickL ts lo hi st)) else none
 |_=>none
def qv9(ow:Bool)(da:DS0 T)(dl dh dt:DS0 (Option Int)):DS0 T:=dSq da λa=>dSq dl λl=>dSq dh λh=>dSq dt λst _ μ=>nvR ow (qv2 μ a l h st) μ
end
end NV
namespace PL
open PySem PySem.Spec PyProof.Rows L2 SR SetL
end PL
namespace PL
open PySem PySem.Spec L2
end PL
namespace NV
open PySem L2
section
variable {X:Cx}{pins:List (Addr×Obj)}{σ:St}{H:Hp}{B:qah}{s:Shared}
open SeqAt in
theorem qcH (hu:X.A.units+8<cLine) (I:Inv X pins σ H s) (le:LeH B H) {t:T} {x:V} {v:Value} {ts:List T} {vs:List V} {is:List Value} (ra:Rep X.K B t x) (rx:RelV x v) (ot:okT 7 t=true) (gL:ts.all (okT 7)=true) (rs:Reps X.K B ts vs) (rv:Vals vs is):
  is.length=ts.length/\∃e:Value->Bool,(∀y,y∈is.toArray->EqAt X.A.in1 s y v (e y))/\∀(j:Nat) (h:j<is.length),e is[j]=eqT (ts.getD j .non) t:=by
 have l1:=rv.length;have l2:=rs.length;have at_: ∀(j:Nat) (h:j<is.toArray.size),EqAt X.A.in1 s is.toArray[j] v (eqT (ts.getD j .non) t):=λj h=>by
  have hj:j<ts.length:=by simp at h;lia
  exact(qit I le 7 7 X.A.in1 _ _ _ _ _ _ (qbI gL hj) ot (by show X.A.units+1+7<cLine;lia) (rs.getD j hj) ra (RH.valsArr rv h) rx).1
 have one: ∀(j k:Nat) (h:j<is.toArray.size) (h':k<is.toArray.size),is.toArray[j]=is.toArray[k]->ts.getD j .non=ts.getD k .non:=λj k h h' e=>by
  have hj:j<ts.length:=by simp at h;lia
  have hk:k<ts.length:=by simp at h';lia
  have r1:=RH.valsArr rv h;have r2:=RH.valsArr rv h';rw[<-e] at r2;have:=r1.inj r2;refine qfz I le 7 7 _ _ _ (qbI gL hj) (qbI gL hk) (rs.getD j hj) ?_;rw[this];exact rs.getD k hk
 classical
 have key: ∀(j:Nat) (hj:j<is.toArray.size),decide (∃(j':Nat) (h:j'<is.toArray.size),is.toArray[j']=is.toArray[j]/\eqT (ts.getD j' .non) t=true)=eqT (ts.getD j .non) t:=λj hj=>by
  cases z:eqT (ts.getD j .non) t with
  |true=>exact Vx ⟨j,hj,rfl,z⟩
  |false=>exact Vy (λ⟨k,hk,e,ek⟩=>by rw[one k j hk hj e,z] at ek;cases ek)
 refine⟨by lia,λy=>decide (∃(j:Nat) (h:j<is.toArray.size),is.toArray[j]=y/\eqT (ts.getD j .non) t=true),λy hy=> ?_,λj hj=> ?_⟩
 ·obtain⟨j,hj,rfl⟩:=Array.mem_iff_getElem.mp hy;show EqAt X.A.in1 s is.toArray[j] v (decide (∃(j':Nat) (h:j'<is.toArray.size),is.toArray[j']=is.toArray[j]/\eqT (ts.getD j' .non) t=true));rw[key j hj];exact at_ j hj
 ·have:=key j (by simpa using hj);simpa using this
theorem qg1{f:Value->Bool}{g:T->Bool}{is:List Value}{ts:List T}(hl:is.length=ts.length)(h: ∀(j:Nat) (h:j<is.length),f is[j]=g (ts.getD j .non)):is.map f=ts.map g:=by
 refine List.ext_getElem (by simp[hl]) λj h1 h2=> ?_;have hj:j<is.length:=by simpa using h1
 have c9:j<ts.length:=by lia
 rw[List.getElem_map,List.getElem_map,h j hj,List.getD_eq_getElem?_getD,List.getElem?_eq_getElem c9];rfl
end
theorem qg0{α β:Type}{f:α->Bool}{g:β->Bool}{is:List α}{ts:List β}(h:is.map f=ts.map g):is.any f=ts.any g:=by have:=congrArg (List.any · id) h;simpa [List.any_map,Function.comp_def] using this
def qvr(K:W.Frag)(neg:Bool):R2:=λx y H Q=> ∃B t p vs ts,LeH B H/\Rep K B t x/\y= .ref p/\(SqL K H p vs\/SqT K H p vs)/\Reps K B ts vs/\okT 7 t=true/\ts.all (okT 7)=true/\Q (.bl (if neg then !ts.any (λu=>eqT u t) else ts.any (λu=>eqT u t))) H
def qvs(neg:Bool):R2:=λx y H Q=>(∃a o,y= .ref a/\qkc H a x o/\Q (.bl (if neg then !o.isSome else o.isSome)) H)\/∃a b,∃k:List Key,y= .ref a/\H a=some (.dK [])/\x= .ref b/\H b=some (.tup (k.map kV))/\Q (.bl neg) (upd H a (.dT []))
def qsu(K:W.Frag)(neg:Bool):R2:=λx y H Q=>qvr K neg x y H Q\/qvs neg x y H Q
def gIn(neg:Bool)(μ:Mu)(t c:T):Option Nv:=match qcm μ c with
 |some q=>if okT 7 t=true/\q.2.all (okT 7)=true then some (.v (.bl (if neg then !q.2.any (λu=>eqT u t) else q.2.any (λu=>eqT u t)))) else none
 |none=>(match qjz μ c t with
  |some o=>some (.v (.bl (if neg then !o.isSome else o.isSome)))
  |none=>(match c with
   |.obj k=>(match μ.l[k]?,qke t with
    |some (.dk []),some _=>some (.p k (.du []) (.bl neg))
    |_,_=>none)
   |_=>none))
section
variable {X:Cx}{M:Md}
theorem qpY(hu:X.A.units+8<cLine):OpR X (compareOp .In) (qsu X.K false):=by
 intro pins s σ H x y v u Q I rx ry hq
 rcases hq with⟨B,t,p,vs,ts,le,ra,ey,hp,rs,o1,o2,q⟩|⟨a,o,rfl,g,q⟩|⟨a,b,k,rfl,ha,rfl,hb,q⟩
 ·subst ey;cases ry
  rcases hp with hp|hp
  ·obtain⟨is,rv,pl,_⟩:=I.list hp;obtain⟨hl,e,h1,h2⟩:=qcH hu I le ra rx o1 o2 rs rv;refine SeqAt.in_listAt e pl.isList h1 ⟨.bl _,H,I,rfl,?_⟩;rw[show is.toArray.any e=is.any e by simp,qg0 (qg1 (g:=λu=>eqT u t) hl h2)];exact q
  ·obtain⟨is,rv,pl,_⟩:=I.tuple hp;obtain⟨hl,e,h1,h2⟩:=qcH hu I le ra rx o1 o2 rs rv;refine SeqAt.in_tupleAt e pl h1 ⟨.bl _,H,I,rfl,?_⟩;rw[show is.toArray.any e=is.any e by simp,qg0 (qg1 (g:=λu=>eqT u t) hl h2)];exact q
 ·cases ry;exact quO (by lia) I g rx λs3 I3=>⟨.bl o.isSome,H,I3,rfl,q⟩
 ·cases ry;have I':=PL.Inv.asT I ha;have g:qkc (upd H a (.dT [])) a (.ref b) none:=.inr ⟨[],k,b,.of qaf,rfl,by rw[qaa (λz=>by rw[z,ha] at hb;cases hb)];exact hb,rfl⟩;exact quO (by lia) I' g rx λs3 I3=>⟨.bl false,_,I3,rfl,q⟩
theorem qiH(hu:X.A.units+8<cLine):OpR X (compareOp .NotIn) (qsu X.K true):=by
 intro pins s σ H x y v u Q I rx ry hq
 rcases hq with⟨B,t,p,vs,ts,le,ra,ey,hp,rs,o1,o2,q⟩|⟨a,o,rfl,g,q⟩|⟨a,b,k,rfl,ha,rfl,hb,q⟩
 ·subst ey;cases ry
  rcases hp with hp|hp
  ·obtain⟨is,rv,pl,_⟩:=I.list hp;obtain⟨hl,e,h1,h2⟩:=qcH hu I le ra rx o1 o2 rs rv;refine SeqAt.notIn_listAt e pl.isList h1 ⟨.bl _,H,I,rfl,?_⟩;rw[show is.toArray.any e=is.any e by simp,qg0 (qg1 (g:=λu=>eqT u t) hl h2)];exact q
  ·obtain⟨is,rv,pl,_⟩:=I.tuple hp;obtain⟨hl,e,h1,h2⟩:=qcH hu I le ra rx o1 o2 rs rv;refine SeqAt.notIn_tupleAt e pl h1 ⟨.bl _,H,I,rfl,?_⟩;rw[show is.toArray.any e=is.any e by simp,qg0 (qg1 (g:=λu=>eqT u t) hl h2)];exact q
 ·cases ry;exact qjw (by lia) I g rx λs3 I3=>⟨.bl (!o.isSome),H,I3,rfl,q⟩
 ·cases ry;have I':=PL.Inv.asT I ha;have g:qkc (upd H a (.dT [])) a (.ref b) none:=.inr ⟨[],k,b,.of qaf,rfl,by rw[qaa (λz=>by rw[z,ha] at hb;cases hb)];exact hb,rfl⟩;exact qjw (by lia) I' g rx λs3 I3=>⟨.bl true,_,I3,rfl,q⟩
theorem qp7{neg:Bool}(hK:X.K=M.K):OkO M (qsu X.K neg) (gIn neg):=by
 intro μ H B x y a b n Q h ra rb e k;rw[hK];unfold gIn at e;split at e
 ·rename_i q es;split at e
  ·rename_i o;cases e;obtain⟨p,vs,rfl,rv,hs⟩:=qfy (b:=q.1) (ts:=q.2) h es rb;exact .inl ⟨B,a,p,vs,q.2,h.bh,ra,rfl,hs,rv,o.1,o.2,k B _ h .refl qa9⟩
  ·cases e
 ·split at e
  ·rename_i o eo;cases e;obtain⟨p,ov,rfl,_,g,h1,h2⟩:=qjy h eo rb ra;refine .inr (.inl ⟨p,ov,rfl,g,?_⟩);have:ov.isSome=o.isSome:=by
    cases o with
    |none=>rw[h2 rfl];rfl
    |some t=>obtain⟨v,rfl,_⟩:=h1 t rfl;rfl
   rw[this];exact k B _ h .refl qa9
  ·split at e
   ·rename_i j;split at e
    ·rename_i el ek;cases e;obtain⟨p,rfl,ea⟩:=qaF rb;obtain⟨o,_,ho,us,rfl,ru⟩:=h.at el (by simp) ea;have:us=[]:=ru;subst this;obtain⟨b,rfl,hb⟩:=qfP h ek ra;exact .inr (.inr ⟨p,b,_,rfl,ho,rfl,hb,k.2 B p _ _ h .refl ea ⟨[],rfl,rfl⟩ qa9⟩)
    ·cases e
   ·cases e
end
def dN(ow:Bool)(g:Mu->List T->Option Nv)(ds:DS0 (List T)):DS0 T:=dSq ds λts _ μ=>nvR ow (g μ ts) μ
def qqM(μ:Mu):List T->Option Nv
 |[.str z]=>if z.length<=100000 then some (.v (.int z.length)) else none
 |[t]=>(match qcm μ t with
  |some q=>some (.v (.int q.2.length))
  |none=>(dkv μ t).map λkvs=>.v (.int kvs.length))
 |_=>none
def qa4:List T->Option (List Int)
 |[]=>some []
 |.int i::ts=>(qa4 ts).map (i:: ·)
 |_::_=>none
def qbp:List T->Option (List Str)
 |[]=>some []
 |.str i::ts=>(qbp ts).map (i:: ·)
 |_::_=>none
def qer:List T->Option (List Bool)
 |[]=>some []
 |.bl i::ts=>(qer ts).map (i:: ·)
 |_::_=>none
def qbJ(μ:Mu)(t:T):Option (List T):=match qcm μ t with
 |some (true,ts)=>some ts
 |_=>none
def qtx(μ:Mu):List T->Option Nv
 |[t]=>((qbJ μ t).bind qer).map λbs=>.v (.bl (bs.all id))
 |_=>none
def qtp(μ:Mu):List T->Option Nv
 |[t]=>((qbJ μ t).bind qa4).map λbs=>.v (.int bs.sum)
 |_=>none
def qtu(μ:Mu):List T->Option Nv
 |[t]=>((qbJ μ t).bind qa4).bind λbs=>if bs=[] then none else some (.v (.int (PL.maxI bs)))
 |[.int i,.int j]=>some (.v (.int (if j>i then j else i)))
 |_=>none
def qtt(_:Mu):List T->Option Nv
 |[.int i,.int j]=>some (.v (.int (if j<i then j else i)))
 |_=>none
def qjb(μ:Mu):List T->Option Nv
 |[t]=>(match qcm μ t with
  |some (true,ts)=>some (.t ts)
  |some (false,ts)=>some (.v t)
  |none=>none)
 |_=>none
section
variable {M:Md}{X:Cx}{K:W.Frag}{B:qah}{μ:Mu}{H:Hp}
theorem qa3: ∀{ts:List T} {ns:List Int} {vs:List V},qa4 ts=some ns->Reps K B ts vs->vs=ns.map V.int
 |[],_,_,e,r=>by cases e;exact r.inv0
 |t::ts,ns,vs,e,r=>by
  obtain⟨v,rr,rfl,a,b⟩:=r.inv;cases t with
  |int i=>
   cases q:qa4 ts with
   |none=>rw[qa4,q] at e;cases e
   |some ms=>rw[qa4,q] at e;cases e;rw[qad a,qa3 q b];rfl
  |_=>cases e
theorem qcg: ∀{ts:List T} {ns:List Str} {vs:List V},qbp ts=some ns->Reps K B ts vs->vs=ns.map V.str
 |[],_,_,e,r=>by cases e;exact r.inv0
 |t::ts,ns,vs,e,r=>by
  obtain⟨v,rr,rfl,a,b⟩:=r.inv;cases t with
  |str i=>
   cases q:qbp ts with
   |none=>rw[qbp,q] at e;cases e
   |some ms=>rw[qbp,q] at e;cases e;rw[qat a,qcg q b];rfl
  |_=>cases e
theorem qfl: ∀{ts:List T} {ns:List Bool} {vs:List V},qer ts=some ns->Reps K B ts vs->vs=ns.map V.bl
 |[],_,_,e,r=>by cases e;exact r.inv0
 |t::ts,ns,vs,e,r=>by
  obtain⟨v,rr,rfl,a,b⟩:=r.inv;cases t with
  |bl i=>
   cases q:qer ts with
   |none=>rw[qer,q] at e;cases e
   |some ms=>rw[qer,q] at e;cases e;rw[qbx a,qfl q b];rfl
  |_=>cases e
theorem qdY{t:T}{vs:List V}(r:Reps K B [t] vs): ∃v,vs=[v]/\Rep K B t v:=by obtain⟨v,rr,rfl,a,b⟩:=r.inv;cases b.inv0;exact⟨v,rfl,a⟩
theorem qiq{t u:T}{vs:List V}(r:Reps K B [t,u] vs): ∃v w,vs=[v,w]/\Rep K B t v/\Rep K B u w:=by obtain⟨v,rr,rfl,a,b⟩:=r.inv;obtain⟨w,rfl,c⟩:=qdY b;exact⟨v,w,rfl,a,c⟩
theorem qaU(h:Hs M μ H B){t:T}{v:V}{ts:List T}(e:qbJ μ t=some ts)(r:Rep M.K B t v): ∃p vs,v= .ref p/\Reps M.K B ts vs/\SqL M.K H p vs:=by
 unfold qbJ at e;split at e
 ·rename_i es;cases e;obtain⟨p,vs,rfl,rv,hs⟩:=qcQ h es r;rw[if_pos rfl] at hs;exact⟨p,vs,rfl,rv,hs⟩
 ·cases e
theorem bind_some{α β:Type}{o:Option α}{f:α->Option β}{b:β}(e:o.bind f=some b): ∃a,o=some a/\f a=some b:=by
 cases o with
 |none=>cases e
 |some a=>exact⟨a,rfl,e⟩
theorem qak{α β:Type}{o:Option α}{f:α->β}{b:β}(e:o.map f=some b): ∃a,o=some a/\f a=b:=by
 cases o with
 |none=>cases e
 |some a=>exact⟨a,rfl,Option.some.inj e⟩
theorem qrq(hK:X.K=M.K):qas X (.builtin "len") (rN M qqM):=qas.ok (qas.or qlJ qjR) λμ H B vs ts n Q h r e k=>by
 rw[hK];have l0:100000<=sizeLine:=by decide
 unfold qqM at e;split at e
 ·obtain⟨v,rfl,a⟩:=qdY r;split at e
  ·cases e;rw[qat a];exact .inl ⟨_,_,rfl,⟨by omega,rfl⟩,k B _ h .refl qay⟩
  ·cases e
 ·obtain⟨v,rfl,a⟩:=qdY r;split at e
  ·rename_i q es;cases e;obtain⟨p,vs,rfl,rv,hs⟩:=qfy (b:=q.1) (ts:=q.2) h es a;refine .inl ⟨_,_,rfl,?_,k B _ h .refl qay⟩;rw[<-rv.length]
   rcases hs with hs|hs
   ·exact .inl ⟨vs,hs,rfl⟩
   ·exact .inr ⟨vs,hs,rfl⟩
  ·obtain⟨kvs,e1,rfl⟩:=qak e;obtain⟨p,us,rfl,hp,ru⟩:=qgQ h e1 a;exact .inr ⟨p,us,rfl,hp,by rw[ru.length];exact k B _ h .refl qay⟩
 ·cases e
theorem qrr(hc:X.calm=true)(hK:X.K=M.K):qas X (.builtin "all") (rN M qtx):=qas.ok (qlL hc) λμ H B vs ts n Q h r e k=>by
 unfold qtx at e;split at e
 ·obtain⟨v,rfl,a⟩:=qdY r;obtain⟨bs,e1,rfl⟩:=qak e;obtain⟨ts,e2,e3⟩:=bind_some e1;obtain⟨p,vs,rfl,rv,hs⟩:=qaU h e2 a;rw[qfl e3 rv] at hs;exact⟨p,bs,rfl,by rw[hK];exact hs,k B _ h .refl qa9⟩
 ·cases e
theorem qrn(hc:X.calm=true)(hK:X.K=M.K):qas X (.builtin "sum") (rN M qtp):=qas.ok (PL.call_sumI hc) λμ H B vs ts n Q h r e k=>by
 unfold qtp at e;split at e
 ·obtain⟨v,rfl,a⟩:=qdY r;obtain⟨bs,e1,rfl⟩:=qak e;obtain⟨ts,e2,e3⟩:=bind_some e1;obtain⟨p,vs,rfl,rv,hs⟩:=qaU h e2 a;rw[qa3 e3 rv] at hs;exact⟨p,bs,rfl,by rw[hK];exact hs,k B _ h .refl qay⟩
 ·cases e
theorem qrp(hc:X.calm=true)(hK:X.K=M.K):qas X (.builtin "max") (rN M qtu):=qas.ok (qas.or (PL.call_maxL hc) (qjQ hc)) λμ H B vs ts n Q h r e k=>by
 unfold qtu at e;split at e
 ·obtain⟨v,rfl,a⟩:=qdY r;obtain⟨bs,e1,e2⟩:=bind_some e;split at e2
  ·cases e2
  ·rename_i hb;cases e2;obtain⟨ts,e2,e3⟩:=bind_some e1;obtain⟨p,vs,rfl,rv,hs⟩:=qaU h e2 a;rw[qa3 e3 rv] at hs;exact .inl ⟨p,bs,rfl,by rw[hK];exact hs,hb,k B _ h .refl qay⟩
 ·cases e;obtain⟨v,w,rfl,a,b⟩:=qiq r;rw[qad a,qad b];exact .inr ⟨_,_,rfl,k B _ h .refl qay⟩
 ·cases e
theorem qro(hc:X.calm=true):qas X (.builtin "min") (rN M qtt):=qas.ok (qjP hc) λμ H B vs ts n Q h r e k=>by
 unfold qtt at e;split at e
 ·cases e;obtain⟨v,w,rfl,a,b⟩:=qiq r;rw[qad a,qad b];exact⟨_,_,rfl,k B _ h .refl qay⟩
 ·cases e
theorem qlG(hK:X.K=M.K):qas X (.type "tuple") (rN M qjb):=qas.ok qen λμ H B vs ts n Q h r e k=>by
 rw[hK];unfold qjb at e;split at e
 ·obtain⟨v,rfl,a⟩:=qdY r;split at e
  ·rename_i ts es;cases e;obtain⟨p,vs,rfl,rv,hs⟩:=qcQ h es a;rw[if_pos rfl] at hs;exact⟨p,vs,rfl,.inl ⟨hs,λl hl=>k B l vs h .refl hl rv⟩⟩
  ·rename_i ts es;cases e;obtain⟨p,vs,rfl,rv,hs⟩:=qcQ h es a;rw[if_neg (by decide)] at hs;exact⟨p,vs,rfl,.inr ⟨hs,k B _ h .refl a⟩⟩
  ·cases e
 ·cases e
end
open SR SetL
def kyN:T->PL.Ky
 |.int i=>.i i
 |.str x=>.s x
 |_=>.i 0
def qdd:T->List PL.Ky
 |.int i=>[.i i]
 |.str x=>[.s x]
 |.tup ts=>ts.map kyN
 |_=>[]
def shN:T->Nat
 |.int _=>0
 |.str _=>1
 |_=>9
def qaZ:T->List Nat
 |.int _=>[0]
 |.str _=>[1]
 |.tup ts=>2::ts.map shN
 |_=>[9]
def qa6:List T->Bool
 |[]=>true
 |t::ts=>PL.okShape (qaZ t)&&ts.all λu=>qaZ u==qaZ t
def qfx(ts:List T):List T:=PL.sortBy qdd ts
section
open PySem.W PyProof.Rows
def qaI(h:Heap)(sh:List Nat)(k:List PL.Ky)(v:Value):Prop:=match sh with
 |[0]=> ∃n t,k=[.i n]/\v= .int n t
 |[1]=> ∃n t,k=[.s n]/\v= .str n t
 |2::r=>PL.KeyTup h k v/\k.map PL.shK=r
 |_=>False
theorem qaI.keep{h h':Heap}{sh:List Nat}{k:List PL.Ky}{v:Value}(kp:St.Kp h h')(x:qaI h sh k v):qaI h' sh k v:=by
 unfold qaI at x⊢;split at x
 ·exact x
 ·exact x
 ·obtain⟨⟨p,its,e,⟨o,ho,c⟩,r⟩,s⟩:=x;exact⟨⟨p,its,e,⟨o,kp _ _ ho,c⟩,r⟩,s⟩
 ·exact x.elim
def qsk(sh:List Nat):SortKind:=match sh with|2::_=>tuples' true|_=>oneType'
theorem qmb {prog:Program} {w:World} {A:Around} {s:Shared} {sh:List Nat} {a b:List PL.Ky} {u v:Value} {C:Bool->Shared->Prop} (ok:PL.okShape sh=true) (ki:qaI s.heap sh a u) (kj:qaI s.heap sh b v) (hC:C (PL.ltKs a b) s):
  wpAny (model prog w) A (keyLt' (qsk sh) u v) C (λ_ _=>False) s:=by
 rcases PL.okShape_cases ok with rfl|rfl|⟨x,r,rfl,hr⟩
 ·obtain⟨n1,t1,f1,g1⟩:=ki;obtain⟨n2,t2,f2,g2⟩:=kj;rw[g1,g2];rw[f1,f2] at hC;refine kat_lt_int ?_;have e:PL.ltKs [.i n1] [.i n2]=decide (n1<n2):=by
   show(if PL.Ky.i n1=PL.Ky.i n2 then false else decide (n1<n2))=_;by_cases c:n1=n2
   ·subst c;rw[if_pos rfl];exact(Vy (Int.lt_irrefl _)).symm
   ·rw[if_neg (λz=>c (by cases z;rfl))]
  rw[<-e];exact hC
 ·obtain⟨n1,t1,f1,g1⟩:=ki;obtain⟨n2,t2,f2,g2⟩:=kj;rw[g1,g2];rw[f1,f2] at hC;refine kas_lt_str ?_;have e:PL.ltKs [.s n1] [.s n2]=decide (n1.cps.toList<n2.cps.toList):=by
   show(if PL.Ky.s n1=PL.Ky.s n2 then false else RH.ltS n1 n2)=_;by_cases c:n1=n2
   ·subst c;rw[if_pos rfl];exact(RH.ordS.irr n1).symm
   ·rw[if_neg (λz=>c (by cases z;rfl))];rfl
  rw[<-e];exact hC
 ·exact PL.lt_tups ki.1 kj.1 (ki.2.trans kj.2.symm) hC
theorem qfv {prog:Program} {w:World} {A:Around} {E:Value->Shared->Prop} {s:Shared} {v:Value} {its:List Value} {ks:List (List PL.Ky)} {sh:List Nat} {Q:Value->Shared->Prop} (ok:PL.okShape sh=true) (hl:ks.length=its.length) (aY:its.length<64)
  (cB: ∀R:List Value->Shared->Prop,(∀h1 t1,St.Kp s.heap h1->R its { s with heap:=h1,toks:=t1 })->wpAny (model prog w) A.in1 (collect v) R E s)
  (hk: ∀j,j<its.length->qaI s.heap sh (ks.getD j []) (its.getD j Value.none))
  (h: ∀h1 D h' tk c (p:Array Nat),St.Kp s.heap h1->h1.objs.size<=D->St.Kp h1 h'->p.toList=srt (λj=>rank PL.ltKs ks (ks.getD j [])) (List.range its.length)->h'.get? D=some (seqObj "list" (List.toArray (p.toList.map λi=>its.getD i Value.none)) c)->Q (.ref D) { s with heap:=h',toks:=tk }):
  wpAny (model prog w) A (call (.builtin "sorted") [v]) Q E s:=by
 have bE: ∀{m:Nat},m<its.length->(ks.map (rank PL.ltKs ks)).getD m 0=rank PL.ltKs ks (ks.getD m []):=λ{m} hm=>by rw[List.getD_eq_getElem?_getD,List.getElem?_map,List.getElem?_eq_getElem (by omega),List.getD_eq_getElem?_getD,List.getElem?_eq_getElem (by omega)];rfl
 have mem: ∀{m:Nat},m<its.length->ks.getD m []∈ks:=λ{m} hm=>by rw[List.getD_eq_getElem?_getD,List.getElem?_eq_getElem (by omega)];exact List.getElem_mem _
 have kv: ∀{h':Heap},St.Kp s.heap h'->∀u∈its,∃k,qaI h' sh k u:=λ{h'} kp u hu=>by obtain⟨m,hm,rfl⟩:=List.mem_iff_getElem.mp hu;have:=(hk m hm).keep kp;rw[List.getD_eq_getElem?_getD (l:=its),List.getElem?_eq_getElem hm] at this;exact⟨_,this⟩
 refine St.sorted_c (cB _ λh1 t1 kp=> ?_);refine⟨h1,t1,qsk sh,ks.map (rank PL.ltKs ks),rfl,kp,by simp[hl],aY,λs' k2 h2 Q' E' hq=> ?_,λs' k2 i j hi hj C hC=> ?_,λD h' tk c p hD k2 ho dR=> ?_⟩
 ·have aX:St.Kp s.heap s'.heap:=λb o e=>k2 _ _ (kp _ _ e)
  rcases PL.okShape_cases ok with rfl|rfl|⟨x,r,rfl,hr⟩
  ·have hI: ∀l:List Value,(∀v∈l,∃n t,v= .int n t)->∃ns,IntsAre l ns:=λl=>by
    induction l with
    |nil=>exactλ_=>⟨[],.nil⟩
    |cons v l ih=>intro hl;obtain⟨n,t,rfl⟩:=hl v Vk;obtain⟨ns,hn⟩:=ih λu hu=>hl u (Vl _ hu);exact⟨n::ns,.cons n t hn⟩
   obtain⟨ns,eA⟩:=hI its λv hv=>by obtain⟨k,n,t,_,e⟩:=kv aX v hv;exact⟨n,t,e⟩
   rw[ksk_kind (keys:=its.toArray) (by simpa using eA) (by simpa using h2)];exact Vb hq
  ·exact PL.kind_strs its h2 (λv hv=>by obtain⟨k,n,t,_,e⟩:=kv aX v hv;exact⟨n,t,e⟩) hq
  ·have hx:x=0\/x=1:=by rw[List.all_cons,Bool.and_eq_true] at hr;simpa using hr.1
   exact PL.kind_tups its hx h2 (λv hv=>by obtain⟨k,e1,e2⟩:=kv aX v hv;exact⟨k,e1,e2⟩) hq
 ·rw[bE hi,bE hj,rank_lt PL.ordKs (mem hi) (mem hj)] at hC;have ki:=(hk i hi).keep (λb o e=>k2 _ _ (kp _ _ e));have kj:=(hk j hj).keep (λb o e=>k2 _ _ (kp _ _ e));exact qmb ok ki kj hC
 ·refine h h1 D h' tk c p kp hD k2 ?_ dR;rw[qcT ho];exact srt_congr _ λb hb=>bE (List.mem_range.mp hb)
end
def qed:Key->T
 |.inl i=>.int i
 |.inr s=>.str s
def qlZ(μ:Mu)(t:T):Option (List T):=match qbJ μ t with
 |some ts=>some ts
 |none=>(match dkv μ t with
  |some kvs=>some (kvs.map λp=>qed p.1)
  |none=>(duv μ t).map λkvs=>kvs.map λp=>.tup (p.1.map qed))
def qfT(μ:Mu):List T->Option Nv
 |[t]=>(qlZ μ t).bind λts=>if ts.length<64/\qa6 ts=true then some (.l (qfx ts)) else none
 |_=>none
theorem qeX{K:W.Frag}{B:qah}(k:Key):Rep K B (qed k) (kV k):=by
 cases k with
 |inl i=>exact qay
 |inr s=>exact qcp
theorem qdy{K:W.Frag}{B:qah}: ∀ks:List Key,Reps K B (ks.map qed) (ks.map kV)
 |[]=>.nil
 |k::ks=>.cons (qeX k) (qdy ks)
open Classical in
noncomputable def qah.abs(B:qah)(H:Hp)(qs:List Addr):qah:=⟨λa=>if a∈qs then H a else B a,B.ad⟩
section
open Classical
variable {M:Md}{μ:Mu}{H:Hp}{B:qah}{qs:List Addr}
theorem Hs.abs(h:Hs M μ H B)(ht: ∀q∈qs,∃vs,H q=some (.tup vs)):Hs M μ H (B.abs H qs)/\Go H B H (B.abs H qs):=by
 have le:Le B (B.abs H qs):=⟨λa o e=>by
  show(if a∈qs then H a else B a)=_;split
  ·exact h.bh a o e
  ·exact e,λ_ _ e=>e⟩
 refine⟨⟨λa o e=> ?_,λa ps e=> ?_,h.gm,λk c e n=> ?_,h.ij,h.dm,h.lk,h.ln⟩,⟨le,λ_ _ e _ _=>e,λ_ _ e=>.inl e,λ_ e=>e,λa o e n t1 t2=> ?_⟩⟩
 ·have e:(if a∈qs then H a else B a)=some o:=e;split at e
  ·exact e
  ·exact h.bh a o e
 ·have e:(if a∈qs then H a else B a)=some (.tbl ps):=e;split at e
  ·rename_i m;obtain⟨vs,z⟩:=ht a m;rw[z] at e;cases e
  ·exact h.bt a ps e
 ·obtain⟨a,o,e1,e2,e3,e4⟩:=h.st k c e n;refine⟨a,o,e1,?_,e3,e4.mono le⟩;show(if a∈qs then H a else B a)=_;rw[if_neg (λm=> ?_)]
  ·exact e2
  ·obtain⟨vs,z⟩:=ht a m;rw[e3] at z;cases z
   rcases e4.mb n with⟨_,e⟩|⟨_,e⟩|⟨_,e⟩|⟨_,_,_,e⟩<;>cases e
 ·show(if a∈qs then H a else B a)=_;rw[if_neg (λm=>by obtain⟨vs,z⟩:=ht a m;rw[z] at e;exact t1 vs (Option.some.inj e).symm)]
end
section
variable {M:Md}{X:Cx}
theorem qc0{K:W.Frag}{B:qah}: ∀{us:List T} {ws:List V},us.all (λt=>shN t==0||shN t==1)=true->Reps K B us ws->ws=(us.map kyN).map PL.kyV/\(us.map kyN).map PL.shK=us.map shN
 |[],_,_,r=>⟨r.inv0,rfl⟩
 |u::us,_,h,r=>by
  obtain⟨v,rr,rfl,a,b⟩:=r.inv;rw[List.all_cons,Bool.and_eq_true] at h;obtain⟨e1,e2⟩:=qc0 h.2 b;cases u with
  |int i=>rw[qad a,e1];exact⟨rfl,by rw[List.map_cons,List.map_cons,e2];rfl⟩
  |str i=>rw[qat a,e1];exact⟨rfl,by rw[List.map_cons,List.map_cons,e2];rfl⟩
  |_=>cases h.1
theorem qdx{pins:List (Addr×Obj)}{σ:St}{H:Hp}{B:qah}{s:Shared}(I:Inv X pins σ H s)(le:LeH B H){t:T}{x:V}{v:Value}(ok:PL.okShape (qaZ t)=true)(r:Rep X.K B t x)(rv:RelV x v):qaI s.heap (qaZ t) (qdd t) v:=by
 cases t with
 |int i=>rw[qad r] at rv;obtain⟨t,rfl⟩:=rv;exact⟨i,t,rfl,rfl⟩
 |str i=>rw[qat r] at rv;obtain⟨t,rfl⟩:=rv;exact⟨i,t,rfl,rfl⟩
 |tup us=>
  obtain⟨p,ws,rfl,hp,rs⟩:=qaq r;cases rv;obtain⟨its,bY,gK,_⟩:=I.tuple (SqT.of (le _ _ hp));have fl:us.all (λt=>shN t==0||shN t==1)=true:=by
   rcases PL.okShape_cases ok with e|e|⟨x,r,e,ho⟩
   ·cases e
   ·cases e
   ·have e:=(List.cons.inj e).2;rw[<-e,List.all_map] at ho;exact ho
  obtain⟨e1,e2⟩:=qc0 fl rs;exact⟨⟨p,its,rfl,gK,e1▸bY⟩,e2⟩
 |_=>cases ok
theorem qcl{ts:List T}(h:qa6 ts=true): ∃sh,PL.okShape sh=true/\∀t∈ts,qaZ t=sh:=by
 cases ts with
 |nil=>exact⟨[0],rfl,λ_ h=>nomatch h⟩
 |cons t ts=>
  have h:(PL.okShape (qaZ t)&&ts.all λu=>qaZ u==qaZ t)=true:=h;rw[Bool.and_eq_true] at h;refine⟨_,h.1,λu hu=> ?_⟩
  rcases List.mem_cons.mp hu with rfl|hu
  ·rfl
  ·exact eq_of_beq (List.all_eq_true.mp h.2 u hu)
theorem qb8{K:W.Frag}{B:qah}{ts:List T}{vs:List V}(r:Reps K B ts vs): ∀l:List Nat,(∀j∈l,j<ts.length)->Reps K B (l.map λj=>ts.getD j .non) (l.map λj=>vs.getD j .non)
 |[],_=>.nil
 |j::l,h=>.cons (r.getD j (h j Vk)) (qb8 r l λi hi=>h i (Vl _ hi))
open PySem.W PyProof.Rows in
theorem qbF {pins:List (Addr×Obj)} {s:Shared} {σ:L2.St} {H:Hp} {B:qah} {u:Value} {Q:VK} {ts:List T} {vs:List V} {its:List Value} (I:Inv X pins σ H s) (le:LeH B H) (r:Reps X.K B ts vs) (rv:Vals vs its) (aY:ts.length<64) (so:qa6 ts=true)
  (cB: ∀R:List Value->Shared->Prop,(∀h1 t1,St.Kp s.heap h1->R its { s with heap:=h1,toks:=t1 })->wpAny (model X.prog X.w) X.A.in1 (collect u) R X.xe s)
  (q: ∀D ys,H D=none->Reps X.K B (qfx ts) ys->Q (.ref D) (upd H D (.lst ys))):wpAny (model X.prog X.w) X.A (call (.builtin "sorted") [u]) (EP X pins σ Q) X.xe s:=by
 obtain⟨sh,ok,hs⟩:=qcl so;have l1:=rv.length;have l2:=r.length;have kg: ∀j,j<ts.length->(ts.map qdd).getD j []=qdd (ts.getD j .non)/\ts.getD j .non∈ts:=λj hj=>by rw[List.getD_eq_getElem?_getD,List.getElem?_map,List.getElem?_eq_getElem hj,List.getD_eq_getElem?_getD,List.getElem?_eq_getElem hj];exact⟨rfl,List.getElem_mem hj⟩
 refine qfv (ks:=ts.map qdd) ok (by simp;omega) (by omega) cB (λj hj=> ?_) λh1 D h' tk c p kp hD k2 ep dR=> ?_
 ·obtain⟨e1,e2⟩:=kg j (by omega);have e3:=hs _ e2;rw[e1,<-e3];exact qdx I le (by rw[e3];exact ok) (r.getD j (by omega)) (qcM rv j)
 ·have I2:Inv X pins σ H { s with heap:=h1,toks:=s.toks }:=I.kept (t':=s.toks) kp;have fD:H D=none:=I2.hok.fresh hD;have pm: ∀j∈p.toList,j<ts.length:=λj hj=>by rw[ep] at hj;have:=List.mem_range.mp ((mem_srt _).mp hj);omega
  have e:qfx ts=p.toList.map λj=>ts.getD j .non:=by
   unfold qfx PL.sortBy;rw[ep,srt_congr (k':=λj=>rank PL.ltKs (ts.map qdd) (qdd (ts.getD j .non))),srt_map (k:=λt=>rank PL.ltKs (ts.map qdd) (qdd t)) (f:=λj=>ts.getD j .non) (λb=>rfl),show its.length=ts.length by omega,Mir.map_range_getD];intro b hb;have aR:b<ts.length:=by have:=List.mem_range.mp hb;omega
   show rank _ _ ((ts.map qdd).getD b [])=_;rw[(kg b aR).1]
  have I3:Inv X pins σ (upd H D (.lst (p.toList.map λj=>vs.getD j .non))) { s with heap:=h',toks:=tk }:=by refine I2.laid k2 hD ⟨?_,_,c,L2.vals_pick rv p.toList,dR⟩;rw[List.length_map,ep,length_srt,List.length_range,sizeLine_eq];omega
  refine⟨.ref D,_,I3,rfl,q D _ fD ?_⟩;rw[e];exact qb8 r _ pm
theorem qol{pins:List (Addr×Obj)}{s:Shared}{σ:L2.St}{H:Hp}{p:Addr}{us:List (Key×V)}(I:Inv X pins σ H s)(hp:H p=some (.dK us)): ∃(es:Array DictEntry) (ep:Nat),DH.RawD s.heap p es ep/\(p==sysModules)=false/\es.size<=sizeLine/\Vals (us.map λp=>kV p.1) (es.toList.map (·.key)):=by
 obtain⟨hz,lo,vs,kv,o,es,ep,ho,hx,hd,h4,h5,h6⟩:=qok I.hok hp;have l1:=h5.length;have l2:us.length=vs.length:=kv.length;refine⟨es,ep,⟨o,ho,hx,hd⟩,lo,?_,?_⟩
 ·rw[<-Array.length_toList,l1,<-l2];exact hz
 ·have go: ∀{us:List (Key×V)} {vs:List (Key×Value)} {es:List DictEntry},L2.KV us vs->Pairs (qap X.prog X.w) es vs->Vals (us.map λp=>kV p.1) (es.map (·.key)):=λ{us vs es} kv=>by
   unfold L2.KV at kv
   induction kv generalizing es with
   |nil=>intro h;cases h;exact .nil
   |cons c _ ih=>
    intro h;cases h with
    |cons c2 _ h2=>exact .cons (by show RelV (kV _) _;rw[c.1];exact L2.is_kV c2) (ih h2)
  exact go kv h5
open PySem.W PyProof.Rows in
theorem qjE(hc:X.calm=true)(hK:X.K=M.K):qas X (.builtin "sorted") (rN M qfT):=by
 intro pins s σ H xs us Q I r ⟨μ,B,ts,n,h,rt,e,k⟩;unfold qfT at e;split at e
 case h_2=>cases e
 rename_i t;obtain⟨v,rfl,a⟩:=qdY rt;obtain⟨u,rfl,ru⟩:=qeu r;obtain⟨its,e1,e2⟩:=bind_some e;split at e2
 case isFalse=>cases e2
 rename_i hs;cases e2;have hh:X.A.in1.handled=none:=I.ok.hd hc;unfold qlZ at e1;split at e1
 ·rename_i ts el;cases e1;obtain⟨p,vs,rfl,rv,sq⟩:=qaU h el a;cases ru;obtain⟨its,bY,pl,hz⟩:=I.list (by rw[hK];exact sq);have l1:=bY.length;rw[<-hK] at rv;refine qbF I (B:=B) h.bh rv bY hs.1 hs.2 (λR hR=>collect_list pl.isList (hR _ _ λb o q=>by
   have aI:b<s.heap.objs.size:=Vi q;rw[Heap.get?_update_ne _ _ _ _ (Nat.ne_of_lt aI),Heap.get?_push_ne _ _ _ (Nat.ne_of_lt aI)];exact q) (by omega)) λD ys hD ry=>k B D ys h .refl hD (by rw[<-hK];exact ry)
 ·split at e1
  ·rename_i kvs el;cases e1;obtain⟨p,us,rfl,hp,fQ⟩:=qgQ h el a;cases ru;obtain⟨es,ep,r1,lo,hz,bY⟩:=qol I hp;have rv:Reps X.K B (kvs.map λp=>qed p.1) (us.map λp=>kV p.1):=by
    have go: ∀{kvs:List (Key×T)} {us:List (Key×V)},qbh M.K B kvs us->Reps X.K B (kvs.map λp=>qed p.1) (us.map λp=>kV p.1):=λ{kvs}=>by
     induction kvs with
     |nil=>intro us r;rw[show us=[] from r];exact .nil
     |cons kv kvs ih=>intro us ⟨v,r,e,_,b⟩;rw[e];exact .cons (qeX kv.1) (ih b)
    exact go fQ
   exact qbF I (B:=B) h.bh rv bY hs.1 hs.2 (λR hR=>DH.collectD hh lo r1 hz λh' tk kp=>hR h' tk kp) λD ys hD ry=>k B D ys h .refl hD (by rw[<-hK];exact ry)
  ·obtain⟨kvs,el,rfl⟩:=qak e1;obtain⟨p,us,rfl,hp,fQ⟩:=qjo h el a;cases ru;obtain⟨qs,es,ep,r1,lo,hz,hk,h1,h2,h3⟩:=PL.dt_keys I hp;obtain⟨ha,ga⟩:=h.abs (qs:=qs) λq hq=>by obtain⟨j,hj⟩:=List.mem_iff_getElem?.mp hq;obtain⟨k,v,_,z⟩:=h3 j q hj;exact⟨_,z⟩
   have l3:=fQ.length;have rv:Reps X.K (B.abs H qs) (kvs.map λp=>.tup (p.1.map qed)) (qs.map V.ref):=by
    refine .of_get (by simp;omega) λj t' v' z1 z2=> ?_;rw[List.getElem?_map] at z1 z2;cases y:qs[j]? with
    |none=>rw[y] at z2;cases z2
    |some b=>
     rw[y] at z2;cases z2;obtain⟨k,v,y1,y2⟩:=h3 j b y;cases y3:kvs[j]? with
     |none=>rw[y3] at z1;cases z1
     |some kv=>rw[y3] at z1;cases z1;obtain⟨v3,y4,_⟩:=qd0 fQ y3;rw[y1] at y4;cases y4;refine qdt (vs:=kv.1.map kV) ?_ (qdy _);show(if b∈qs then H b else _)=_;rw[if_pos (List.mem_of_getElem? y)];exact y2
   have bY:Vals (qs.map V.ref) (es.toList.map (·.key)):=by
    rw[hk];have go: ∀l:List Addr,Vals (l.map V.ref) (l.map Value.ref):=λl=>by
     induction l with
     |nil=>exact .nil
     |cons b l ih=>exact .cons rfl ih
    exact go qs
   exact qbF I (B:=B.abs H qs) ha.bh rv bY hs.1 hs.2 (λR hR=>DH.collectD hh lo r1 (by omega) λh' tk kp=>hR h' tk kp) λD ys hD ry=>k _ D ys ha ga hD (by rw[<-hK];exact ry)
end
end NV
namespace NV
open PySem L2
def qgw(μ:Mu):T->Option (Nat×List T)
 |.obj k=>(match μ.l[k]? with|some (.ls ts)=>some (k,ts)|_=>none)
 |_=>none
def qkd(μ:Mu):T->Option (Nat×List (Key×T))
 |.obj k=>(match μ.l[k]? with|some (.dk ts)=>some (k,ts)|_=>none)
 |_=>none
def qrO(μ:Mu):T->Option (Nat×List (List Key×T))
 |.obj k=>(match μ.l[k]? with|some (.du ts)=>some (k,ts)|some (.dk [])=>some (k,[])|_=>none)
 |_=>none
def qgt{κ:Type}[DecidableEq κ](kvs:List (κ×T))(k:κ)(t:T):List (κ×T):=if(kvs.any λkv=>decide (kv.1=k))=true then kvs.map (λkv=>if kv.1=k then(kv.1,t) else kv) else kvs++[(k,t)]
def qfX(μ:Mu):List T->Option Nv
 |[o,x]=>(qgw μ o).bind λq=>if q.2.length<=1000 then some (.p q.1 (.ls (q.2++[x])) .non) else none
 |_=>none
def qfW(μ:Mu):List T->Option Nv
 |[o,.int i,x]=>(qgw μ o).bind λq=>if(0<=i/\i<=q.2.length)/\q.2.length<1000 then some (.p q.1 (.ls (q.2.take i.toNat++x::q.2.drop i.toNat)) .non) else none
 |_=>none
def qtq(μ:Mu):List T->Option Nv
 |[o]=>(qgw μ o).bind λq=>(q.2[q.2.length - 1]?).map λt=>.p q.1 (.ls q.2.dropLast) t
 |_=>none
def qfU(μ:Mu):List T->Option Nv
 |[d,k,x]=>(qkd μ d).bind λq=>(qbM k).bind λk=>(match qde q.2 k with
  |some t=>some (.v t)
  |none=>if q.2.length<=1000 then some (.p q.1 (.dk (qgt q.2 k x)) x) else none)
 |_=>none
def rM(M:Md)(g:Mu->List T->Option Nv):V->List V->Hp->VK->Prop:=λx vs H Q=>rN M g (x::vs) H Q
theorem MtR.weak{X:Cx}{id:String}{r r':V->List V->Hp->VK->Prop}(h:MtR X id r)(w: ∀x xs H Q,r' x xs H Q->r x xs H Q):MtR X id r':=λpins s σ H x xs v us Q I rx rs q=>h pins s σ H x xs v us Q I rx rs (w _ _ _ _ q)
section
variable {M:Md}{X:Cx}{μ:Mu}{H:Hp}{B:qah}
theorem qd3(h:Hs M μ H B){t:T}{v:V}{q:Nat×List T}(e:qgw μ t=some q)(r:Rep M.K B t v): ∃a vs,v= .ref a/\B.ad q.1=some a/\H a=some (.lst vs)/\Reps M.K B q.2 vs:=by
 unfold qgw at e;split at e
 ·split at e
  ·rename_i el;cases e;obtain⟨a,rfl,ea⟩:=qaF r;obtain⟨o,_,ho,vs,rfl,rv⟩:=h.at el (by simp) ea;exact⟨a,vs,rfl,ea,ho,rv⟩
  ·cases e
 ·cases e
theorem qiF(h:Hs M μ H B){t:T}{v:V}{q:Nat×List (Key×T)}(e:qkd μ t=some q)(r:Rep M.K B t v): ∃a vs,v= .ref a/\B.ad q.1=some a/\H a=some (.dK vs)/\qbh M.K B q.2 vs:=by
 unfold qkd at e;split at e
 ·split at e
  ·rename_i el;cases e;obtain⟨a,rfl,ea⟩:=qaF r;obtain⟨o,_,ho,vs,rfl,rv⟩:=h.at el (by simp) ea;exact⟨a,vs,rfl,ea,ho,rv⟩
  ·cases e
 ·cases e
theorem qmY{K:W.Frag}{t u w:T}{vs:List V}(r:Reps K B [t,u,w] vs): ∃a b c,vs=[a,b,c]/\Rep K B t a/\Rep K B u b/\Rep K B w c:=by obtain⟨v,rr,rfl,a,b⟩:=r.inv;obtain⟨x,y,rfl,c,d⟩:=qiq b;exact⟨v,x,y,rfl,a,c,d⟩
theorem qhy:MtR X "list.append" (rM M qfX):=MtR.weak (X:=X) qeR λx xs H Q ⟨μ,B,ts,n,h,r,e,k⟩=>by
 unfold qfX at e;split at e
 ·obtain⟨a,b,eq,ra,rb⟩:=qiq r;cases eq;obtain⟨q,e1,e2⟩:=bind_some e;split at e2
  ·rename_i hz;cases e2;obtain⟨p,vs,rfl,ea,hp,rv⟩:=qd3 h e1 ra;have l0:1001<sizeLine:=by decide
   exact⟨p,vs,b,rfl,rfl,hp,by rw[rv.length];omega,k.2 B p _ _ h .refl ea ⟨_,rfl,rv.append (.one rb)⟩ qgz⟩
  ·cases e2
 ·cases e
theorem qhx:MtR X "list.insert" (rM M qfW):=MtR.weak (X:=X) qiP λx xs H Q ⟨μ,B,ts,n,h,r,e,k⟩=>by
 unfold qfW at e;split at e
 ·obtain⟨a,b,c,eq,ra,rb,rc⟩:=qmY r;cases eq;obtain⟨q,e1,e2⟩:=bind_some e;split at e2
  ·rename_i hz;cases e2;obtain⟨p,vs,rfl,ea,hp,rv⟩:=qd3 h e1 ra;have hl:=rv.length;rw[qad rb];exact⟨p,vs,_,c,rfl,rfl,hp,hz.1.1,by rw[hl];exact hz.1.2,by rw[hl];exact hz.2,k.2 B p _ _ h .refl ea ⟨_,rfl,(rv.take _).append (.cons rc (rv.drop _))⟩ qgz⟩
  ·cases e2
 ·cases e
theorem qnK:MtR X "list.pop" (rM M qtq):=MtR.weak (X:=X) qqf λx xs H Q ⟨μ,B,ts,n,h,r,e,k⟩=>by
 unfold qtq at e;split at e
 ·obtain⟨a,eq,ra⟩:=qdY r;cases eq;obtain⟨q,e1,e2⟩:=bind_some e;obtain⟨t,e3,rfl⟩:=qak e2;obtain⟨p,vs,rfl,ea,hp,rv⟩:=qd3 h e1 ra;obtain⟨v,ev,cQ⟩:=rv.get e3;have hl:=rv.length;refine⟨p,vs,v,rfl,rfl,hp,by rw[hl];exact ev,k.2 B p _ _ h .refl ea ⟨_,rfl,?_⟩ cQ⟩;rw[List.dropLast_eq_take,List.dropLast_eq_take,hl];exact rv.take _
 ·cases e
end
section
variable {K:W.Frag}{B:qah}{κ:Type}[DecidableEq κ]
theorem qgp(k:κ): ∀{ts:List (κ×T)} {vs:List (κ×V)},qbh K B ts vs->(vs.any λkv=>decide (kv.1=k))=ts.any λkv=>decide (kv.1=k)
 |[],vs,r=>by rw[show vs=[] from r];rfl
 |(k',t)::ts,_,⟨v,r,e,_,b⟩=>by rw[e,List.any_cons,List.any_cons,qgp k b]
theorem qeG{k:κ}{t:T}{v:V}(h:Rep K B t v): ∀{ts:List (κ×T)} {vs:List (κ×V)},qbh K B ts vs->qbh K B (ts++[(k,t)]) (vs++[(k,v)])
 |[],vs,r=>by rw[show vs=[] from r];exact⟨v,[],rfl,h,rfl⟩
 |(k',t')::ts,_,⟨w,r,e,a,b⟩=>by rw[e];exact⟨w,_,rfl,a,qeG h b⟩
theorem qcR(k:κ){t:T}{v:V}(h:Rep K B t v): ∀{ts:List (κ×T)} {vs:List (κ×V)},qbh K B ts vs->qbh K B (ts.map λkv=>if kv.1=k then(kv.1,t) else kv) (vs.map λkv=>if kv.1=k then(kv.1,v) else kv)
 |[],vs,r=>by rw[show vs=[] from r];rfl
 |(k',t')::ts,_,⟨w,r,e,a,b⟩=>by
  rw[e,List.map_cons,List.map_cons];by_cases c:k'=k
  ·rw[if_pos c,if_pos c];exact⟨v,_,rfl,h,qcR k h b⟩
  ·rw[if_neg c,if_neg c];exact⟨w,_,rfl,a,qcR k h b⟩
theorem qbV{k:κ}{t:T}{v:V}{ts:List (κ×T)}{vs:List (κ×V)}(r:qbh K B ts vs)(h:Rep K B t v):qbh K B (qgt ts k t) (qho vs k v):=by
 unfold qgt qho;rw[qgp k r];split
 ·exact qcR k h r
 ·exact qeG h r
end
section
variable {M:Md}{X:Cx}
theorem qhw:MtR X "dict.setdefault" (rM M qfU):=by
 intro pins s σ H x vs v us Q I rx rv ⟨μ,B,ts,n,h,r,e,k⟩;unfold qfU at e;split at e
 ·rename_i d0 k0 x0;obtain⟨a,b,c,eq,ra,rb,rc⟩:=qmY r;cases eq;obtain⟨q,e1,e2⟩:=bind_some e;obtain⟨ky,e3,e4⟩:=bind_some e2;obtain⟨p,ws,rfl,ea,hp,rw⟩:=qiF h e1 ra;cases rx;obtain⟨u,w,rfl,ru,rw2⟩:=qkl rv;rw[qec e3 rb] at ru;obtain⟨z,hd,vs,rel,dd⟩:=qok I.hok hp;have gI:=qcE ky rw;have l0:1001<=sizeLine:=by decide
  have lw:=rw.length;have hv:=rel.val ky;refine call_meetsIn F.slot_dict_setdefault dd.typeIs F.entry_dict_setdefault (F.args_dict_setdefault_3 _ _ _) (kt_meets_setdefault (qap X.prog X.w) p (qhE ru) hd w) ⟨vs,dd,by rw[<-rel.length];exact z,λy hy=> ?_,λhn h' d9 hs=> ?_⟩
  ·cases q1:qde q.2 ky with
   |none=>rw[gI.2 q1,hy] at hv;exact hv.elim
   |some t=>rw[q1] at e4;cases e4;obtain⟨v,ev,cQ⟩:=gI.1 t q1;rw[ev,hy] at hv;exact⟨v,H,I.tok _,hv,k B v h .refl cQ⟩
  ·cases q1:qde q.2 ky with
   |some t=>obtain⟨v,ev,cQ⟩:=gI.1 t q1;rw[ev,hn] at hv;exact hv.elim
   |none=>
    rw[q1] at e4;have e4:(if q.2.length<=1000 then some (Nv.p q.1 (.dk (qgt q.2 ky x0)) x0) else none)=some n:=e4;split at e4
    ·rename_i hz;cases e4;have he: ∃q,h'.get? p=some q:=let ⟨q,_,_,hq,_⟩:=d9;⟨q,hq⟩
     have hl:(qho ws ky c).length<=sizeLine:=by have:=qbL ws ky c;omega
     exact⟨c,_,qf3 I (by rw[hp];exact True.intro) hs he (qmp hl hd (rel.put ky rw2) d9),rw2,k.2 B p _ _ h .refl ea ⟨_,rfl,qbV rw rc⟩ rc⟩
    ·cases e4
 ·cases e
def qn7(μ:Mu)(o i v:T):Option (Nat×Ct):=match qgw μ o,i with
 |some q,.int k=>(ixN q.2.length k).map λj=>(q.1,.ls (q.2.set j v))
 |_,_=>(match qkd μ o,qbM i with
  |some q,some k=>if q.2.length<=1000 then some (q.1,.dk (qgt q.2 k v)) else none
  |_,_=>(match qrO μ o,qke i with
   |some q,some k=>if q.2.length<=1000 then some (q.1,.du (qgt q.2 k v)) else none
   |_,_=>none))
def qst(M:Md):qrW:=λo i v H Q=> ∃μ B to ti tv q,Hs M μ H B/\Rep M.K B to o/\Rep M.K B ti i/\Rep M.K B tv v/\qn7 μ to ti tv=some q/\μ.live q.1=true/\∀a ob,B.ad q.1=some a->qes M.K B q.2 ob->Q (upd H a ob)
theorem qsl(hu:X.A.units+1<cLine):qt8 X (qst M):=by
 intro pins s σ H o i v ov iv u Q I ro ri rv ⟨μ,B,to,ti,tv,q,h,r1,r2,r3,e,lv,k⟩;have l0:1001<=sizeLine:=by decide
 unfold qn7 at e;split at e
 ·rename_i p kk e1;obtain⟨j,e2,rfl⟩:=qak e;obtain⟨a,vs,rfl,ea,hp,rw⟩:=qd3 h e1 r1;rw[qad r2] at ri;have hl:=rw.length;exact qkx pins s σ H _ _ v ov iv u Q I ro ri rv ⟨a,vs,kk,j,rfl,rfl,hp,by rw[hl];exact e2,k a _ ea ⟨_,rfl,rw.set j r3⟩⟩
 ·split at e
  ·rename_i p ky e1 e2;split at e
   ·rename_i hz;cases e;obtain⟨a,vs,rfl,ea,hp,rw⟩:=qiF h e1 r1;have hl:=rw.length;cases ro;exact qc2 hu I (.inl ⟨vs,ky,hp,qec e2 r2,by omega,rfl⟩) ri rv λs' I'=>⟨_,I',k a _ ea ⟨_,rfl,qbV rw r3⟩⟩
   ·cases e
  ·split at e
   ·rename_i p ky e1 e2;split at e
    ·rename_i hz;cases e;obtain⟨b,rfl,hb⟩:=qfP h e2 r2;unfold qrO at e1;split at e1
     ·rename_i kk;obtain⟨a,rfl,ea⟩:=qaF r1;cases ro;split at e1
      ·rename_i el;cases e1;obtain⟨ob,_,ho,us,rfl,ru⟩:=h.at el (by simp) ea;have hl:=ru.length;have hz:_<=1000:=hz;dsimp only at hz;exact qc2 hu I (.inr ⟨us,ky,b,ho,rfl,hb,by rw[hl];omega,rfl⟩) ri rv λs' I'=>⟨_,I',k a _ ea ⟨_,rfl,qbV ru r3⟩⟩
      ·rename_i el;cases e1;obtain⟨ob,_,ho,us,rfl,ru⟩:=h.at el (by simp) ea;have:us=[]:=ru;subst this;have I':=PL.Inv.asT I ho;have aR:upd H a (.dT []) b=some (.tup (ky.map kV)):=by rw[qaa (λz=>by rw[z,ho] at hb;cases hb)];exact hb
       refine qc2 hu I' (.inr ⟨[],ky,b,qaf,rfl,aR,by show 0<sizeLine;omega,rfl⟩) ri rv λs' I'=>⟨_,I',?_⟩
       rw[qmG];exact k a _ ea ⟨_,rfl,qbV (ts:=[]) (vs:=[]) rfl r3⟩
      ·cases e1
     ·cases e1
    ·cases e
   ·cases e
theorem qpx {o i value:Expr} {pos pos':Pos} {td ty tv:TE} {t:qrW} (hV:qt8 X t) (ho:PE X o td) (hi:PE X i ty) (hv:PE X value tv) (hs:swapsWith value (some (.Subscript o i pos')) pos.line X.env=pure false):
  PS X (.Assign [.Subscript o i pos'] value pos) (λD σ H=>tv σ H λv H1=>td σ H1 λx H2=>ty σ H2 λy H3=>t x y v H3 λH4=>D.nx σ H4):=by
 intro pins s σ H D I h;exact wpAny_Assign_Subscript (thn (hv pins s σ H _ I h) λr s1 ⟨v,H1,I1,rv,q1⟩=>thn (ho pins s1 σ H1 _ I1 q1) λu s2 ⟨x,H2,I2,rx,q2⟩=>thn (hi pins s2 σ H2 _ I2 q2) λiv s3 ⟨y,H3,I3,ry,q3⟩=>
  thn (hV pins s3 σ H3 x y v u iv r _ I3 rx ry rv q3) λ_ s4 ⟨H4,I4,q4⟩=>⟨σ,H4,I4,q4⟩) hs
def quS(bo di dv:DS0 T):DS0 Out:=dSq dv λv=>dSq bo λo=>dSq di λi ρ μ=>match qn7 μ o i v with
 |some q=>if μ.live q.1=true then .ok (.nx ρ) (μ.put q.1 q.2) else .no
 |none=>.no
theorem qqY {E:XK} {o i value:Expr} {pos pos':Pos} {bo di dv:DS0 T} (hu:X.A.units+1<cLine) (ho:PE X o (tE M E bo)) (hi:PE X i (tE M E di)) (hv:PE X value (tE M E dv)) (hs:swapsWith value (some (.Subscript o i pos')) pos.line X.env=pure false):
  PS X (.Assign [.Subscript o i pos'] value pos) (tS M E (quS bo di dv)):=PS.weak (qpx (qsl (M:=M) hu) ho hi hv hs) λD σ H ⟨ρ,μ,B,ev,w⟩=>by
 refine tE.of ev ((Wn.bind w).mono λt ah w1 v H1 B1 h1 l1 r1=> ?_);refine tE.of (ev.on h1 l1.le) ((Wn.bind w1).lift l1 λx ak w2 u H2 B2 h2 l2 r2=> ?_);have eX:=l1.trans l2;refine tE.of ((ev.on h1 l1.le).on h2 l2.le) ((Wn.bind w2).lift eX λy bq w3 z H3 B3 h3 l3 r3=> ?_);have eW:=eX.trans l3;have w3:Wn M E H B (KS M H B D) (match qn7 bq x y t with|some q=>if bq.live q.1=true then .ok (.nx ρ) (bq.put q.1 q.2) else .no|none=>.no):=w3;split at w3
 ·rename_i q eq;split at w3
  ·rename_i lv;refine⟨bq,B3,x,y,t,q,h3,r2.mono l3.le,r3,r1.mono (l2.trans l3).le,eq,lv,λa ob ea hc=> ?_⟩;obtain⟨c0,e0,n0⟩:=Mu.live_at lv;have g:=eW.trans (quI (H:=H3) (o:=ob) ea);exact w3 σ _ B3 (ev.on (h3.put e0 n0 ea hc) g.le) g
  ·exact w3.elim
 ·exact w3.elim
theorem qjs{E:XK}{pos:Pos}:PE X (.Dict [] [] pos) (tN M E λ_ μ=>.ok (.dk []) μ):=PE.weak qkT λσ H Q ⟨ρ,μ,B,ev,w⟩ p hp=>w p _ H B ev.hs .refl hp ⟨[],rfl,rfl⟩
end
def qrh{α:Type}(d e:DS0 α):DS0 α:=λρ μ=>match d ρ μ with|.no=>e ρ μ|r=>r
def qcc:Mu->List T->Option Nv:=λ_ _=>none
inductive Bm where
 |append|extend|insert|pop|clear|reverse|count|index|get|dpop|dclear|setdef
def Bm.ty:Bm->String
 |.get|.dpop|.dclear|.setdef=> "dict"
 |_=> "list"
def Bm.nm:Bm->Str
 |.append=> "append" | .extend=> "extend" | .insert=> "insert" | .pop=> "pop" | .clear=> "clear" | .reverse=> "reverse" | .count=> "count" | .index=> "index" | .get=> "get" | .dpop=> "pop" | .dclear=> "clear" | .setdef=> "setdefault"
def Bm.id:Bm->String
 |.append=> "list.append" | .extend=> "list.extend" | .insert=> "list.insert" | .pop=> "list.pop" | .clear=> "list.clear" | .reverse=> "list.reverse" | .count=> "list.count" | .index=> "list.index" | .get=> "dict.get" | .dpop=> "dict.pop" | .dclear=> "dict.clear" | .setdef=> "dict.setdefault"
def Bm.g:Bm->Mu->List T->Option Nv
 |.append=>qfX|.extend=>qcc|.insert=>qfW|.pop=>qtq|.clear=>qcc|.reverse=>qcc|.count=>qcc|.index=>qcc|.get=>qcc|.dpop=>qcc|.dclear=>qcc|.setdef=>qfU
def Bm.all:List Bm:=[.append,.extend,.insert,.pop,.clear,.reverse,.count,.index,.get,.dpop,.dclear,.setdef]
def qk2(μ:Mu)(t:T):String:=if(qbJ μ t).isSome=true then "list" else if(dkv μ t).isSome=true\/(duv μ t).isSome=true then "dict" else ""
def dBM(ow:Bool)(b:Bm)(bo:DS0 T)(ds:DS0 (List T)):DS0 T:=dSq bo λo ρ μ=>if qk2 μ o=b.ty then(ds ρ μ).bind λts aa=>nvR ow (b.g aa (o::ts)) aa else .no
section
variable {M:Md}{E:XK}{X:Cx}{e o:Expr}{es:List Expr}{da db bo:DS0 T}{ds:DS0 (List T)}{apos cpos pos p:Pos}{ow:Bool}
theorem qra(h:PE X e (tE M E da))(h':PE X e (tE M E db)):PE X e (tE M E (qrh da db)):=PE.weak (PE.or h h') λσ H Q ⟨ρ,μ,B,ev,w⟩=>by
 unfold qrh at w;cases q:da ρ μ with
 |no=>rw[q] at w;exact .inr ⟨ρ,μ,B,ev,w⟩
 |ok a m|ex a m=>rw[q] at w;exact .inl ⟨ρ,μ,B,ev,by rw[q];exact w⟩
theorem qoA{f:Value}:qas X f (rN M qcc):=λ_ _ _ _ _ _ _ _ _ ⟨_,_,_,_,_,_,e,_⟩=>nomatch e
theorem qeQ{i:String}:MtR X i (rM M qcc):=λ_ _ _ _ _ _ _ _ _ _ _ _ ⟨_,_,_,_,_,_,e,_⟩=>nomatch e
theorem qcf(b:Bm):PlainAttrs b.ty/\Slot b.ty b.nm b.id/\typeOf (.builtin b.id)=pure (.type "method_descriptor"):=by
 cases b with
 |append=>exact⟨F.plainAttrs_list,F.slot_list_append,F.type_list_append⟩
 |extend=>exact⟨F.plainAttrs_list,F.slot_list_extend,F.type_list_extend⟩
 |insert=>exact⟨F.plainAttrs_list,F.slot_list_insert,F.type_list_insert⟩
 |pop=>exact⟨F.plainAttrs_list,F.slot_list_pop,F.type_list_pop⟩
 |clear=>exact⟨F.plainAttrs_list,F.slot_list_clear,F.type_list_clear⟩
 |reverse=>exact⟨F.plainAttrs_list,F.slot_list_reverse,F.type_list_reverse⟩
 |count=>exact⟨F.plainAttrs_list,F.slot_list_count,F.type_list_count⟩
 |index=>exact⟨F.plainAttrs_list,F.slot_list_index,F.type_list_index⟩
 |get=>exact⟨F.plainAttrs_dict,F.slot_dict_get,F.type_dict_get⟩
 |dpop=>exact⟨F.plainAttrs_dict,F.slot_dict_pop,F.type_dict_pop⟩
 |dclear=>exact⟨F.plainAttrs_dict,F.slot_dict_clear,F.type_dict_clear⟩
 |setdef=>exact⟨F.plainAttrs_dict,F.slot_dict_setdefault,F.type_dict_setdefault⟩
theorem qrw(hu:X.A.units+8<cLine)(hK:X.K=M.K)(b:Bm):MtR X b.id (rM M b.g):=by
 cases b with
 |append=>exact qhy
 |extend=>exact qeQ
 |insert=>exact qhx
 |pop=>exact qnK
 |clear|reverse|count|index|get|dpop|dclear=>exact qeQ
 |setdef=>exact qhw
theorem qnL{μ:Mu}{H:Hp}{B:qah}(h:Hs M μ H B){b:Bm}{t:T}{v:V}(e:qk2 μ t=b.ty)(r:Rep M.K B t v):tyV M.K b.ty v H:=by
 have nl:b.ty≠ "" :=by cases b<;>decide
 unfold qk2 at e;split at e
 ·rename_i hs;obtain⟨ts,hs⟩:=Option.isSome_iff_exists.mp hs;obtain⟨p,vs,rfl,_,sq⟩:=qaU h hs r;exact .inl ⟨e.symm,vs,sq⟩
 ·split at e
  ·rename_i hs
   rcases hs with hs|hs
   ·obtain⟨ts,hs⟩:=Option.isSome_iff_exists.mp hs;obtain⟨p,vs,rfl,hp,_⟩:=qgQ h hs r;exact .inr (.inr (.inl ⟨e.symm,.inl ⟨_,hp⟩⟩))
   ·obtain⟨ts,hs⟩:=Option.isSome_iff_exists.mp hs;obtain⟨p,vs,rfl,hp,_⟩:=qjo h hs r;exact .inr (.inr (.inl ⟨e.symm,.inr ⟨_,hp⟩⟩))
  ·exact absurd e.symm nl
theorem qjT(b:Bm)(hK:X.K=M.K){σ:St}{H:Hp}{Q:VK}(h:tE M E (dBM ow b bo ds) σ H Q):tBM X.K b.ty (rM M b.g) (tE M E bo) (tA M E ds) σ H Q:=by
 obtain⟨ρ,μ,B,ev,w⟩:=h;refine tE.of ev ((Wn.bind w).mono λx ah w1 v H1 B1 h1 g1 r1=> ?_)
 change Wn M E H B (KE M H B Q) (if qk2 ah x=b.ty then(ds ρ ah).bind λts aa=>nvR ow (b.g aa (x::ts)) aa else .no) at w1
 split at w1
 ·rename_i ht;rw[hK];refine⟨qnL h1 ht r1,ρ,ah,B1,ev.on h1 g1.le,(Wn.bind w1).lift g1 λts ak w2 vs H2 B2 h2 g2 r2=> ?_⟩;obtain⟨c,m,q,w2⟩:=Wn.pl w2 (λc m=>qd5 c m);obtain⟨n,e,kv⟩:=qbY q (KE.le w2 (g1.trans g2));exact⟨ak,B2,x::ts,n,h2,.cons (r1.mono g2.le) r2,e,kv⟩
 ·exact w1.elim
theorem qtQ (b:Bm) (hu:X.A.units+8<cLine) (hK:X.K=M.K) (ho:PE X o (tE M E bo)) (ha:PA X (e::es) (tA M E ds)) (aQ:attributeBase o b.nm X.env (eval o X.env)=eval o X.env)
  (dY:((backTo cpos (starEach (e::es) X.env)).all (λx=> !x.1)&&(backToKw cpos (keywordEach [] X.env)).all (λx=>x.1.isSome)&&decide ((e::es).length+([]:List Keyword).length+(if([]:List Keyword).isEmpty then 0 else 1)<30))=true)
  (aA:(apos.endLine==cpos.line)=true) (hs:starEach (e::es) X.env=(false,eval e X.env)::starEach es X.env) (bF:(backTo cpos (starEach es X.env)).any (·.1)=false):
  PE X (.Call (.Attribute o b.nm apos) (e::es) [] cpos) (tE M E (dBM ow b bo ds)):=
 PE.weak (qsJ (qcf b).1 (qcf b).2.1 (qcf b).2.2 (qrw hu hK b) ho ha aQ dY aA hs bF) λ_ _ _ h=>qjT b hK h
theorem qq8 (b:Bm) (hu:X.A.units+8<cLine) (hK:X.K=M.K) (ho:PE X o (tE M E bo)) (aQ:attributeBase o b.nm X.env (eval o X.env)=eval o X.env) (aA:(apos.endLine==cpos.line)=true):
  PE X (.Call (.Attribute o b.nm apos) [] [] cpos) (tE M E (dBM ow b bo qrd)):=
 PE.weak (qpL (qcf b).1 (qcf b).2.1 (qcf b).2.2 (qrw hu hK b) ho aQ aA) λσ H Q h=>by refine(show tE M E bo σ H λx H1=>tyV X.K b.ty x H1/\tA M E qrd σ H1 λxs H2=>rM M b.g x xs H2 Q from qjT b hK h).imp λv H1 ⟨a,ρ,μ,B,ev,w⟩=>⟨a,w [] H1 B ev.hs .refl .nil⟩
inductive Bn where
 |len|all|any|sum|max|min|abs|lst|tup|srt
def Bn.nm:Bn->Str
 |.len=> "len" | .all=> "all" | .any=> "any" | .sum=> "sum" | .max=> "max" | .min=> "min" | .abs=> "abs" | .lst=> "list" | .tup=> "tuple" | .srt=> "sorted"
def Bn.g:Bn->Mu->List T->Option Nv
 |.len=>qqM|.all=>qtx|.any=>qcc|.sum=>qtp|.max=>qtu|.min=>qtt|.abs=>qcc|.lst=>qcc|.tup=>qjb|.srt=>qfT
def Bn.list:List Bn:=[.len,.all,.any,.sum,.max,.min,.abs,.lst,.tup,.srt]
theorem qoF(b:Bn){σ:St}{H:Hp}{Q:VK}(h:tE M E (dN ow b.g ds) σ H Q):tCB (rN M b.g) (tA M E ds) σ H Q:=by obtain⟨ρ,μ,B,ev,w⟩:=h;refine⟨ρ,μ,B,ev,(Wn.bind w).mono λts ah w1 vs H1 B1 h1 g1 r1=> ?_⟩;obtain⟨c,m,q,w1⟩:=Wn.pl w1 (λc m=>qd5 c m);obtain⟨n,e,kv⟩:=qbY q (KE.le w1 g1);exact⟨ah,B1,ts,n,h1,r1,e,kv⟩
theorem qlQ:bootBuiltins "abs" =some (.builtin "abs"):=by decide+kernel
theorem qjS:bootBuiltins "list" =some (.type "list"):=by decide+kernel
theorem qhR:bootBuiltins "tuple" =some (.type "tuple"):=by decide+kernel
theorem qlP:bootBuiltins "all" =some (.builtin "all"):=by decide+kernel
theorem qlO:bootBuiltins "max" =some (.builtin "max"):=by decide+kernel
theorem qlN:bootBuiltins "min" =some (.builtin "min"):=by decide+kernel
theorem qtP (b:Bn) (hc:X.calm=true) (hK:X.K=M.K) (hg:Gl X b.nm) (hm:X.mg b.nm=none) (ha:PA X (e::es) (tA M E ds)) (he:starEach (e::es) X.env=(false,eval e X.env)::starEach es X.env) (aU:(backTo pos (starEach es X.env)).any (·.1)=false):
  PE X (.Call (.Name b.nm p) (e::es) [] pos) (tE M E (dN ow b.g ds)):=by
 have hn:b.nm≠ "__name__" :=by cases b<;>decide
 have hd:(b.nm==("__debug__" :Str))=false:=by cases b<;>decide
 refine PE.weak ?_ λ_ _ _ h=>qoF b h;cases b with
 |len=>exact qaK (qrq hK) hg hm PySem.boot_len ha hn hd he aU
 |all=>exact qaK (qrr hc hK) hg hm qlP ha hn hd he aU
 |any=>exact qaK qoA hg hm PL.boot_any' ha hn hd he aU
 |sum=>exact qaK (qrn hc hK) hg hm PL.boot_sum' ha hn hd he aU
 |max=>exact qaK (qrp hc hK) hg hm qlO ha hn hd he aU
 |min=>exact qaK (qro hc) hg hm qlN ha hn hd he aU
 |abs=>exact qaK qoA hg hm qlQ ha hn hd he aU
 |lst=>exact qeL qoA hg hm qjS ha hn hd he aU
 |tup=>exact qeL (qlG hK) hg hm qhR ha hn hd he aU
 |srt=>exact qaK (qjE hc hK) hg hm SetL.boot_sorted ha hn hd he aU
end
open SR SetL
def tyN(μ:Mu):T->Option String
 |.non=>some "NoneType" | .bl _=>some "bool" | .int _=>some "int" | .str _=>some "str" | .tup _=>some "tuple" | .lst _=>some "list" | .dct _=>some "dict"
 |.obj k=>(match μ.l[k]? with|some (.ls _)=>some "list" | some (.dk _)=>some "dict" | some (.du _)=>some "dict" | _=>none)
 |_=>none
def qi1(N m:String):Bool:=m==N||(N== "int" &&m== "bool")
def qdi(N:String)(t:T)(μ:Mu):R T:=match tyN μ t with
 |some m=>.ok (.bl (qi1 N m)) μ
 |none=>.no
def qre(N:String)(da:DS0 T):DS0 T:=dU (qdi N) da
theorem qqm (K:W.Frag) {N m:String} (hN:N∈["int", "bool", "str", "tuple", "list"]) (hm:m∈["NoneType", "bool", "int", "str", "tuple", "list", "dict"]):W.kitOne K (.type m) (.type N)=some (qi1 N m):=by
 simp only[List.mem_cons,List.not_mem_nil,or_false] at hN hm
 rcases hN with rfl|rfl|rfl|rfl|rfl<;>rcases hm with rfl|rfl|rfl|rfl|rfl|rfl|rfl<;>rfl
section
variable {M:Md}{E:XK}{X:Cx}{e a:Expr}{da:DS0 T}{p p1 p2 p3 pos:Pos}
theorem qoW{μ:Mu}{H:Hp}{B:qah}(h:Hs M μ H B){t:T}{v:V}{m:String}(e:tyN μ t=some m)(r:Rep M.K B t v):qgb M.K H v (.type m)/\m∈["NoneType", "bool", "int", "str", "tuple", "list", "dict"]:=by
 unfold tyN at e;split at e
 ·cases e;rw[qdZ r];exact⟨.non,by simp⟩
 ·cases e;rw[qbx r];exact⟨.bl _,by simp⟩
 ·cases e;rw[qad r];exact⟨.int _,by simp⟩
 ·cases e;rw[qat r];exact⟨.str _,by simp⟩
 ·cases e;obtain⟨p,vs,rfl,hp,_⟩:=qaq r;exact⟨.tup (h.bh _ _ hp),by simp⟩
 ·cases e;obtain⟨p,vs,rfl,hp,_⟩:=qau r;exact⟨.lst (h.bh _ _ hp),by simp⟩
 ·cases e;obtain⟨p,vs,rfl,hp,_⟩:=qfA r;exact⟨.dK (h.bh _ _ hp),by simp⟩
 ·obtain⟨p,rfl,ea⟩:=qaF r;split at e
  ·rename_i el;cases e;obtain⟨o,_,ho,vs,rfl,_⟩:=h.at el (by simp) ea;exact⟨.lst ho,by simp⟩
  ·rename_i el;cases e;obtain⟨o,_,ho,vs,rfl,_⟩:=h.at el (by simp) ea;exact⟨.dK ho,by simp⟩
  ·rename_i el;cases e;obtain⟨o,_,ho,vs,rfl,_⟩:=h.at el (by simp) ea;exact⟨.dT ho,by simp⟩
  ·cases e
 ·cases e
theorem qoq {N:String} {x:Str} (hN:N∈["int", "bool", "str", "tuple", "list"]) (hx:x=Str.ofString N) (hK:X.K=M.K) (hg:Gl X "isinstance") (hm:X.mg "isinstance" =none) (hg2:Gl X x) (gd:X.mg x=none) (he:PE X e (tE M E da))
  (hs:starEach [e,.Name x p2] X.env=(false,eval e X.env)::starEach [.Name x p2] X.env) (cT:starEach [.Name x p2] X.env=(false,eval (.Name x p2) X.env)::starEach [] X.env) (aU:(backTo pos (starEach [.Name x p2] X.env)).any (·.1)=false):
  PE X (.Call (.Name "isinstance" p) [e,.Name x p2] [] pos) (tE M E (qre N da)):=by
 have bt:bootBuiltins x=some (.type N)/\x≠ "__name__" /\(x==("__debug__" :Str))=false:=by
  subst hx;simp only[List.mem_cons,List.not_mem_nil,or_false] at hN
  rcases hN with rfl|rfl|rfl|rfl|rfl<;>exact⟨by decide+kernel,by decide,by decide⟩
 refine PE.weak (qaK (r:=λxs H Q=> ∃x t T b,xs=[x,.ty T]/\qgb X.K H x t/\W.kitOne X.K t (.type T)=some b/\Q (.bl b) H) qf8 hg hm (by decide+kernel) (qca he (qca (qnp (v:=.ty N) hg2 gd bt.1 rfl bt.2.1 bt.2.2) qeN cT) hs) (by decide) (by decide) hs aU) λσ H Q ⟨ρ,μ,B,ev,w⟩=> ?_;refine tE.of ev ((Wn.bind w).mono λt ah w1 v H1 B1 h1 g1 r1=> ?_);have w1:Wn M E H B (KE M H B Q) (qdi N t ah):=w1;unfold qdi at w1;split at w1
 ·rename_i m em;obtain⟨ty,hm⟩:=qoW h1 em r1;rw[hK];exact⟨v,_,N,_,rfl,ty,qqm M.K hN hm,w1 _ H1 B1 h1 g1 qa9⟩
 ·exact w1.elim
def qhG(μ:Mu):T->Option Nv:=λt=>(qbJ μ t).bind λts=>if ts.length<64 then(match qbp ts with
 |some ss=>some (.l ((sortA RH.ltS (dd ss)).map T.str))
 |none=>(qa4 ts).map λss=>.l ((sortA (λa b=>decide (a<b)) (dd ss)).map T.int)) else none
def qaN(μ:Mu):T->Option Nv:=λt=>(qbJ μ t).bind λts=>if ts.length<64 then(match qbp ts with
 |some ss=>some (.v (.int (dd ss).length))
 |none=>(qa4 ts).map λss=>.v (.int (dd ss).length)) else none
def dNu(ow:Bool)(g:Mu->T->Option Nv)(da:DS0 T):DS0 T:=dU (λt μ=>nvR ow (g μ t) μ) da
theorem qeF{K:W.Frag}{B:qah}: ∀ss:List Str,Reps K B (ss.map T.str) (ss.map V.str)
 |[]=>.nil
 |_::ns=>.cons qcp (qeF ns)
theorem qon {ow:Bool} (hc:X.calm=true) (hK:X.K=M.K) (gs:Gl X "sorted") (ms:X.mg "sorted" =none) (gt:Gl X "set") (mt:X.mg "set" =none) (ha:PE X a (tE M E da)) (he:starEach [a] X.env=(false,eval a X.env)::starEach [] X.env):
  PE X (.Call (.Name "sorted" p1) [.Call (.Name "set" p2) [a] [] p3] [] pos) (tE M E (dNu ow qhG da)):=by
 have mn: ∀σ H (Q Q':VK),(∀v H1,Q v H1->Q' v H1)->tE M E da σ H Q->tE M E da σ H Q':=λσ H Q Q' f h=>h.imp f;refine PE.weak (PE.or (qbX (qo7 X.prog X.w) hc gs ms gt mt ha mn he) (qbX (qqB X.prog X.w) hc gs ms gt mt ha mn he)) λσ H Q ⟨ρ,μ,B,ev,w⟩=> ?_;have w:Wn M E H B (KE M H B Q) ((da ρ μ).bind λt aa=>nvR ow (qhG aa t) aa):=w;cases q:da ρ μ with
 |no=>rw[q] at w;exact w.elim
 |ex c m=>rw[q] at w;exact .inl ⟨ρ,μ,B,ev,by rw[q];exact w⟩
 |ok t m=>
  rw[q] at w;have w:Wn M E H B (KE M H B Q) (nvR ow (qhG m t) m):=w;obtain⟨c,m',e,w⟩:=Wn.pl w (λc m=>qd5 c m);obtain⟨n,e,kv⟩:=qbY e w;obtain⟨ts,e1,e2⟩:=bind_some e;split at e2
  case isFalse=>cases e2
  rename_i hl;cases es:qbp ts with
  |some ss=>rw[es] at e2;cases e2;refine .inl ⟨ρ,μ,B,ev,?_⟩;rw[q];intro v H1 B1 h1 g1 r1;obtain⟨n,e,kv⟩:=qbY (M:=M) (H:=H1) (B:=B1) (Q:=Q) (ow:=ow) (μ:=m) (o:=qhG m t) (by assumption) (KE.le w g1);rw[show qhG m t=some (.l ((sortA RH.ltS (dd ss)).map T.str)) by assumption] at e;cases e;obtain⟨p,vs,rfl,rv,sq⟩:=qaU h1 e1 r1;have hv:=qcg es rv;have l1:=rv.length;rw[hv] at sq l1;rw[List.length_map] at l1;exact⟨p,ss,rfl,by rw[hK];exact sq,by omega,λD hD=>kv B1 D _ h1 .refl hD (qeF _)⟩
  |none=>rw[es] at e2;obtain⟨ss,e3,rfl⟩:=qak e2;refine .inr ⟨ρ,μ,B,ev,?_⟩;rw[q];intro v H1 B1 h1 g1 r1;obtain⟨n,e,kv⟩:=qbY (M:=M) (H:=H1) (B:=B1) (Q:=Q) (ow:=ow) (μ:=m) (o:=qhG m t) (by assumption) (KE.le w g1);rw[show qhG m t=some (.l ((sortA (λa b=>decide (a<b)) (dd ss)).map T.int)) by assumption] at e;cases e;obtain⟨p,vs,rfl,rv,sq⟩:=qaU h1 e1 r1;have hv:=qa3 e3 rv;have l1:=rv.length;rw[hv] at sq l1;rw[List.length_map] at l1;exact⟨p,ss,rfl,by rw[hK];exact sq,by omega,λD hD=>kv B1 D _ h1 .refl hD (qdX _)⟩
theorem qgJ {α:Type} [DecidableEq α] (k:Kd X.prog X.w α) {t:TE} (hc:X.calm=true) (gs:Gl X "len") (ms:X.mg "len" =none) (gt:Gl X "set") (mt:X.mg "set" =none) (ha:PE X a t) (bx: ∀σ H (Q Q':VK),(∀v H1,Q v H1->Q' v H1)->t σ H Q->t σ H Q') (he:starEach [a] X.env=(false,eval a X.env)::starEach [] X.env):
  PE X (.Call (.Name "len" p1) [.Call (.Name "set" p2) [a] [] p3] [] pos) (λσ H Q=>t σ H λv H1=> ∃l ss,v= .ref l/\SqL X.K H1 l (ss.map k.up)/\ss.length<64/\Q (.int (dd ss).length) H1):=by intro pins s σ H Q I ht;refine Ve (qb2 I gs ms PySem.boot_len ?_);refine PyProof.Rows.callWith_builtin1 (Calls.spliced_cons (thn (qgj k (Q:=λl ss H1=>Q (.int (dd ss).length) H1) hc gt mt ha bx he I ht) λu s1 ⟨S,l,ss,H1,eu,I1,aY,hS,q⟩=> ?_)) rfl rfl;subst eu;refine Calls.spliced_nil ?_;obtain⟨o,es,ep,t,h1,h2,h3,h4,h5,h6,h7,h8,h9,h10⟩:=hS;have hn:=qlv ss;rw[qjD] at h8;refine PySem.call_len_set h1 h2 h3 h7 (by lia) ⟨.int (dd ss).length,H1,I1.tok _,⟨s1.toks+1,by rw[h8]⟩,q⟩
theorem qoo {ow:Bool} (hc:X.calm=true) (hK:X.K=M.K) (gs:Gl X "len") (ms:X.mg "len" =none) (gt:Gl X "set") (mt:X.mg "set" =none) (ha:PE X a (tE M E da)) (he:starEach [a] X.env=(false,eval a X.env)::starEach [] X.env):
  PE X (.Call (.Name "len" p1) [.Call (.Name "set" p2) [a] [] p3] [] pos) (tE M E (dNu ow qaN da)):=by
 have mn: ∀σ H (Q Q':VK),(∀v H1,Q v H1->Q' v H1)->tE M E da σ H Q->tE M E da σ H Q':=λσ H Q Q' f h=>h.imp f;refine PE.weak (PE.or (qgJ (qo7 X.prog X.w) hc gs ms gt mt ha mn he) (qgJ (qqB X.prog X.w) hc gs ms gt mt ha mn he)) λσ H Q ⟨ρ,μ,B,ev,w⟩=> ?_;have w:Wn M E H B (KE M H B Q) ((da ρ μ).bind λt aa=>nvR ow (qaN aa t) aa):=w;cases q:da ρ μ with
 |no=>rw[q] at w;exact w.elim
 |ex c m=>rw[q] at w;exact .inl ⟨ρ,μ,B,ev,by rw[q];exact w⟩
 |ok t m=>
  rw[q] at w;have w:Wn M E H B (KE M H B Q) (nvR ow (qaN m t) m):=w;obtain⟨c,m',e,w⟩:=Wn.pl w (λc m=>qd5 c m);obtain⟨n,e,kv⟩:=qbY e w;obtain⟨ts,e1,e2⟩:=bind_some e;split at e2
  case isFalse=>cases e2
  rename_i hl;cases es:qbp ts with
  |some ss=>rw[es] at e2;cases e2;refine .inl ⟨ρ,μ,B,ev,?_⟩;rw[q];intro v H1 B1 h1 g1 r1;obtain⟨n,e,kv⟩:=qbY (M:=M) (H:=H1) (B:=B1) (Q:=Q) (ow:=ow) (μ:=m) (o:=qaN m t) (by assumption) (KE.le w g1);rw[show qaN m t=some (.v (.int (dd ss).length)) by assumption] at e;cases e;obtain⟨p,vs,rfl,rv,sq⟩:=qaU h1 e1 r1;have hv:=qcg es rv;have l1:=rv.length;rw[hv] at sq l1;rw[List.length_map] at l1;exact⟨p,ss,rfl,by rw[hK];exact sq,by omega,kv B1 _ h1 .refl qay⟩
  |none=>rw[es] at e2;obtain⟨ss,e3,rfl⟩:=qak e2;refine .inr ⟨ρ,μ,B,ev,?_⟩;rw[q];intro v H1 B1 h1 g1 r1;obtain⟨n,e,kv⟩:=qbY (M:=M) (H:=H1) (B:=B1) (Q:=Q) (ow:=ow) (μ:=m) (o:=qaN m t) (by assumption) (KE.le w g1);rw[show qaN m t=some (.v (.int (dd ss).length)) by assumption] at e;cases e;obtain⟨p,vs,rfl,rv,sq⟩:=qaU h1 e1 r1;have hv:=qa3 e3 rv;have l1:=rv.length;rw[hv] at sq l1;rw[List.length_map] at l1;exact⟨p,ss,rfl,by rw[hK];exact sq,by omega,kv B1 _ h1 .refl qay⟩
end
def qu3(xs ys:List T):List T:=(xs.zip ys).map λp=>.tup [p.1,p.2]
def qrY:List T->Mu->R Ito
 |[.lst xs,.lst ys],μ=>.ok (.fx (qu3 xs ys)) μ
 |_,_=>.no
end NV
namespace NV
open PySem L2
def qal:Expr->Bool
 |.Starred _ _=>false
 |_=>true
def qdv:Expr->Bool
 |.ListComp _ _ _ _=>false
 |.SetComp _ _ _ _=>false
 |.DictComp _ _ _ _ _=>false
 |_=>true
def qgy:Expr->Bool
 |.Call (.Name _ _) [] [] _=>false
 |_=>true
def qbZ:Expr->Bool
 |.Set _ _ _=>false
 |_=>true
def qnG:Expr->Bool
 |.Slice _ _ _ _=>false
 |_=>true
section
variable {env:Env}{e:Expr}{es:List Expr}{pos:Pos}
theorem qbi(h:qal e=true):starEach (e::es) env=(false,eval e env)::starEach es env:=by cases e<;>first|rfl|cases h
theorem qb7: ∀{es:List Expr},es.all qal=true->(backTo pos (starEach es env)).any (·.1)=false
 |[],_=>rfl
 |e::es,h=>by rw[List.all_cons,Bool.and_eq_true] at h;rw[qbi h.1];show(false||(backTo pos (starEach es env)).any (·.1))=false;rw[qb7 h.2];rfl
theorem qgi: ∀{es:List Expr},es.all qal=true->(backTo pos (starEach es env)).all (λx=> !x.1)=true
 |[],_=>rfl
 |e::es,h=>by rw[List.all_cons,Bool.and_eq_true] at h;rw[qbi h.1];show(!false&&(backTo pos (starEach es env)).all (λx=> !x.1))=true;rw[qgi h.2];rfl
theorem qqP(h:es.all qal=true)(hl:es.length<30):((backTo pos (starEach es env)).all (λx=> !x.1)&&(backToKw pos (keywordEach [] env)).all (λx=>x.1.isSome)&&decide (es.length+([]:List Keyword).length+(if([]:List Keyword).isEmpty then 0 else 1)<30))=true:=by rw[qgi h];show(true&&true&&decide (es.length+0+0<30))=true;simp[hl]
theorem qjW{o:Expr}{m:Str}{w:Sem Value}(h:qgy o=true):attributeBase o m env w=w:=by
 unfold attributeBase;split
 ·cases h
 ·rfl
theorem qoH(h:qal e=true):(assignEach (e::es) env).map (·.2)=assign e env::(assignEach es env).map (·.2):=by cases e<;>first|rfl|cases h
theorem qdI: ∀{es:List Expr},(assignEach es env).length=es.length
 |[]=>rfl
 |e::es=>by cases e<;>(show _+1=_;rw[qdI];rfl)
theorem qfk: ∀{es:List Expr},es.all qal=true->(assignEach es env).findIdx? (·.1)=none
 |[],_=>rfl
 |e::es,h=>by
  rw[List.all_cons,Bool.and_eq_true] at h;have ih:=qfk h.2;have e1:assignEach (e::es) env=(false,assign e env)::assignEach es env:=by have h1:=h.1;cases e<;>first|rfl|cases h1
  rw[e1,List.findIdx?_cons,ih];rfl
theorem qdP{t:Option Expr}{l:Nat}(h:qdv e=true):swapsWith e t l env=pure false:=by cases e<;>first|rfl|cases h
theorem qkq{t:Expr}{l:Nat}(h: ∀x p,t≠.Name x p):swapsWith e (some t) l env=pure false:=by cases e<;>first|rfl|(cases t<;>first|rfl|exact absurd rfl (h _ _))
theorem qgC{op:CmpOp}(h:qbZ e=true):behindInMarks op e=false:=by cases e<;>first|rfl|cases h
theorem qdu{o p:CmpOp}{b c:Expr}(h:qbZ c=true):lastMarks [o,p] [b,c]=false:=by cases c<;>first|rfl|cases h
theorem qd6(h:qbZ e=true)(x:Value):foldedSetIterable e env x=pure x:=by cases e<;>first|rfl|cases h
theorem qht(h:qnG e=true):qj7 e:=λo i=>by cases e<;>first|rfl|cases h
end
theorem qg8{ns:List Str}{us:List Value}(hl:us.length=ns.length)(nd:ns.Nodup):(∀n∈ns,((ns.zip us).lookup n).isNone=false)/\ns.filterMap (λn=>((ns.zip us).lookup n).map (n, ·))=ns.zip us:=by
 induction ns generalizing us with
 |nil=>exact⟨(λ_ h=>nomatch h),rfl⟩
 |cons x ns ih=>
  cases us with
  |nil=>cases hl
  |cons u us=>
   obtain⟨nx,nd⟩:=List.nodup_cons.mp nd;obtain⟨h1,h2⟩:=ih (us:=us) (by simpa using hl) nd;have ne: ∀n∈ns,(n==x)=false:=λn hn=>by simp only[beq_eq_false_iff_ne];rintro rfl;exact nx hn
   refine⟨λn hn=> ?_,?_⟩
   ·rw[List.zip_cons_cons,List.lookup_cons]
    rcases List.mem_cons.mp hn with rfl|hn
    ·simp
    ·rw[ne n hn];exact h1 n hn
   ·rw[List.zip_cons_cons,List.filterMap_cons,List.lookup_cons];simp only[beq_self_eq_true,Option.map_some]
    congr 1
    refine Eq.trans ?_ h2;clear h1 h2 ih;have go: ∀l:List Str,(∀n∈l,(n==x)=false)->l.filterMap (λn=>(((x,u)::ns.zip us).lookup n).map (n, ·))=l.filterMap (λn=>((ns.zip us).lookup n).map (n, ·)):=λl=>by
     induction l with
     |nil=>exactλ_=>rfl
     |cons y l ihl=>intro h;rw[List.filterMap_cons,List.filterMap_cons,ihl (λn hn=>h n (List.mem_cons_of_mem _ hn)),List.lookup_cons,h y List.mem_cons_self]
    exact go ns ne
theorem qbO {fd:FuncData} {us:List Value} (h1:fd.params.posonlyargs=[]) (h2:fd.params.vararg=none) (h3:fd.params.kwonlyargs=[]) (h4:fd.params.kwarg=none) (h5:fd.defaults= .none) (nd:(fd.params.args.map (·.arg)).Nodup) (hl:us.length=(fd.params.args.map (·.arg)).length):
  bindArgs fd ⟨us,[]⟩=pure ((fd.params.args.map (·.arg)).zip us):=by
 obtain⟨z1,z2⟩:=qg8 hl nd;have e1:seqItems? Value.none=pure none:=rfl;unfold bindArgs;simp only[h1,h2,h3,h4,h5,e1,List.map_nil,List.nil_append,List.forIn_nil,pure_bind,List.append_nil,Option.isNone_none,Bool.and_true,Option.getD_none];have hm:(List.filter (λn=>(List.lookup n ((List.map (λx=>x.arg) fd.params.args).zip us)).isNone) (List.map (λx=>x.arg) fd.params.args))=[]:=by rw[List.filter_eq_nil_iff];intro n hn;rw[z1 n hn];decide
 rw[if_neg (by simp only[decide_eq_true_eq];omega)];simp only[List.drop_nil,List.length_nil,Nat.sub_zero,List.take_length,hm,List.isEmpty_nil,Bool.not_true,List.zip_nil_right,List.forIn_nil,pure_bind,z2];rfl
open SR SetL
inductive KB where
 |one (i:Nat)|parts (l:List (Bool×Nat))
def qfF(us:List T)(p:Bool×Nat):Option T:=(us[p.2]?).bind λt=>if p.1=true then(match t with|.int n=>some (.int (-n))|_=>none) else some t
def qoP:KB->T->Option T
 |.one i,.tup us=>us[i]?
 |.parts l,.tup us=>(l.mapM (qfF us)).map .tup
 |_,_=>none
def qcr(b:KB)(μ:Mu)(t:T):Option Nv:=(qbJ μ t).bind λts=>(ts.mapM (qoP b)).bind λks=>if ts.length<64/\qa6 ks=true then some (.l (PL.sortBy (λt=>qdd ((qoP b t).getD .non)) ts)) else none
def qo5(x:Str):Expr->Option Nat
 |.Subscript (.Name y _) (.Constant (.int i) _ _) _=>if y=x/\0<=i then some i.toNat else none
 |_=>none
def qhq(x:Str):Expr->Option (Bool×Nat)
 |.UnaryOp .USub e _=>(qo5 x e).map λi=>(true,i)
 |e=>(qo5 x e).map λi=>(false,i)
def qqs(x:Str):Expr->Option KB
 |.Tuple es _ _=>if es.length<=100 then(es.mapM (qhq x)).map .parts else none
 |e=>(qo5 x e).map .one
theorem qdR{x:Str}{e:Expr}{i:Nat}(h:qo5 x e=some i): ∃p1 j p2 p3,e= .Subscript (.Name x p1) (.Constant (.int (i:Int)) j p2) p3:=by
 unfold qo5 at h;split at h
 ·split at h
  ·rename_i hc;cases h;obtain⟨rfl,h0⟩:=hc;exact⟨_,_,_,_,by rw[Int.toNat_of_nonneg h0]⟩
  ·cases h
 ·cases h
section
open PySem.W PyProof.Rows
variable {prog:Program}{w:World}{A:Around}{E:Value->Shared->Prop}{s:Shared}{env:Env}{x:Str}{t:Addr}{its:List Value}
def qj8(its:List Value)(p:Bool×Nat)(v:Value):Prop:= ∃u,its[p.2]? =some u/\if p.1=true then ∃n tk cK,u= .int n tk/\v= .int (-n) cK else v=u
theorem qk8 {e:Expr} {p:Bool×Nat} {Q:Value->Shared->Prop} (he:qhq x e=some p) (L:qdK x (.ref t) env s.heap) (aK:(x==("__debug__" :Str))=false) (ht:IsTup s.heap t its.toArray) (hz:its.length<=sizeLine) (hi: ∃u,its[p.2]? =some u/\(p.1=true->∃n tk,u= .int n tk)) (h: ∀v tk,qj8 its p v->Q v { s with toks:=tk }):
  wpAny (model prog w) A (eval e env) Q E s:=by
 obtain⟨u,hu,ie⟩:=hi;unfold qhq at he;split at he
 ·rename_i e' pos;obtain⟨i,ei,rfl⟩:=qak he;obtain⟨p1,j,p2,p3,rfl⟩:=qdR ei;obtain⟨n,tk,rfl⟩:=ie rfl;refine UnaryOp_ (qfO L aK ht hu hz λeL=> ?_);exact neg_int (h _ _ ⟨_,hu,by rw[if_pos rfl];exact⟨n,tk,_,rfl,rfl⟩⟩)
 ·obtain⟨i,ei,rfl⟩:=qak he;obtain⟨p1,j,p2,p3,rfl⟩:=qdR ei;exact qfO L aK ht hu hz λeL=>h _ _ ⟨u,hu,by rw[if_neg (by simp)]⟩
inductive qb5(its:List Value):List (Bool×Nat)->List Value->Prop where
 |nil:qb5 its [] []
 |cons {p v l vs}:qj8 its p v->qb5 its l vs->qb5 its (p::l) (v::vs)
theorem qeU {pos:Pos}: ∀{es:List Expr} {l:List (Bool×Nat)} {s:Shared} {Q:List Value->Shared->Prop},es.mapM (qhq x)=some l->qdK x (.ref t) env s.heap->(x==("__debug__" :Str))=false->IsTup s.heap t its.toArray->its.length<=sizeLine->(∀p∈l,∃u,its[p.2]? =some u/\(p.1=true->∃n tk,u= .int n tk))->(∀vs tk,qb5 its l vs->Q vs { s with toks:=tk })->
  wpAny (model prog w) A (spliced (backTo pos (starEach es env))) Q E s
 |[],l,s,Q,he,L,aK,ht,hz,hi,h=>by cases he;exact Calls.spliced_nil (h [] s.toks .nil)
 |e::es,l,s,Q,he,L,aK,ht,hz,hi,h=>by
  rw[List.mapM_cons] at he;cases e1:qhq x e with
  |none=>rw[e1] at he;cases he
  |some p=>
   cases e2:es.mapM (qhq x) with
   |none=>rw[e1,e2] at he;cases he
   |some r=>
    rw[e1,e2] at he;cases he;have hp:qal e=true:=by
     cases e with
     |Starred _ _=>cases e1
     |_=>rfl
    rw[qbi hp];refine Calls.spliced_cons (qk8 e1 L aK ht hz (hi p Vk) λv tk hv=> ?_);exact qeU (s:={ s with toks:=tk }) e2 L aK ht hz (λq hq=>hi q (Vl _ hq)) λvs iX hG=>h (v::vs) iX (.cons hv hG)
end
theorem Hs.sameT{M:Md}{μ:Mu}{H H2:Hp}{B:qah}{P:Addr}{ps:Array Value}(h:Hs M μ H B)(hP:H P=some (.tbl ps))(same:qdm P H H2)(ne: ∀b,H b≠none->H2 b≠none)(g:M.G.P H2):Hs M μ H2 B/\Go H B H2 B:=by
 have nP: ∀a o,B a=some o->a≠P:=λa o e z=>by subst z;have:=h.bh _ _ e;rw[hP] at this;cases this;exact h.bt _ _ e
 refine⟨⟨λa o e=>same a o (h.bh a o e) (nP a o e),h.bt,g,λk c e n=> ?_,h.ij,λk a e=>⟨(h.dm k a e).1,ne a (h.dm k a e).2⟩,h.lk,h.ln⟩,⟨.refl _,λa o e _ t=>same a o e (λz=>by rw[z,hP] at e;cases e;exact t _ rfl),λ_ _ e=>.inl e,ne,λ_ _ _ _ _ _=>rfl⟩⟩;obtain⟨a,o,e1,e2,e3,e4⟩:=h.st k c e n;refine⟨a,o,e1,e2,same a o e3 (λz=> ?_),e4⟩;rw[z,hP] at e3;cases e3
 rcases e4.mb n with⟨_,e⟩|⟨_,e⟩|⟨_,e⟩|⟨_,_,_,e⟩<;>cases e
structure Lm(M:Md)(X:Cx)(c P:Addr)(qual:Str):Prop where
 cd:X.env.code= .ref c
 hd:W.CodeHd X.base c P
 bm:qfm X.mg X.base
 q:X.env.qual++("<lambda>" :Str)=qual
 t: ∀H,M.G.P H->qg5 P qual H
 t': ∀H H2,M.G.P H->qdm P H H2->(∀b,H b≠none->H2 b≠none)->qg5 P qual H2->M.G.P H2
theorem qk3{α β:Type}{f:α->Option β}{xs:List α}{ys:List β}(h:xs.mapM f=some ys): ∀x∈xs,∃y,f x=some y:=λx hx=>by obtain⟨i,hi,rfl⟩:=List.mem_iff_getElem.mp hx;obtain⟨hl,h2⟩:=qa0 h;exact⟨ys[i],h2 i _ _ (Vz hi) (Vz (by omega))⟩
theorem mapM_map{f:T->Option T}: ∀{xs ys:List T},xs.mapM f=some ys->ys=xs.map λx=>(f x).getD .non
 |[],ys,h=>by cases h;rfl
 |x::xs,ys,h=>by
  rw[List.mapM_cons] at h;cases e1:f x with
  |none=>rw[e1] at h;cases h
  |some y=>
   cases e2:xs.mapM f with
   |none=>rw[e1,e2] at h;cases h
   |some zs=>rw[e1,e2] at h;cases h;rw[List.map_cons,e1,mapM_map e2];rfl
section
open PySem.W PyProof.Rows
theorem qkW {K:W.Frag} {B:qah} {us:List T} {ws:List V} {its:List Value} {p:Bool×Nat} {t:T} (rs:Reps K B us ws) (rv:Vals ws its) (h:qfF us p=some t):(∃u,its[p.2]? =some u/\(p.1=true->∃n tk,u= .int n tk))/\
  ∀v,qj8 its p v->∃y,Rep K B t y/\RelV y v:=by
 unfold qfF at h;obtain⟨t0,e1,e2⟩:=bind_some h;obtain⟨y,ey,ry⟩:=rs.get e1;obtain⟨u,eu,ru⟩:=rv.get ey;split at e2
 ·rename_i hp;split at e2
  ·cases e2;rw[qad ry] at ru;obtain⟨tk,rfl⟩:=ru;refine⟨⟨_,eu,λ_=>⟨_,tk,rfl⟩⟩,λv hv=> ?_⟩;obtain⟨u',fK,hv⟩:=hv;rw[eu] at fK;cases fK;rw[if_pos hp] at hv;obtain⟨n,a,b,e3,rfl⟩:=hv;cases e3;exact⟨_,qay,b,rfl⟩
  ·cases e2
 ·rename_i hp;cases e2;refine⟨⟨u,eu,λz=>absurd z hp⟩,λv hv=> ?_⟩;obtain⟨u',fK,hv⟩:=hv;rw[eu] at fK;cases fK;rw[if_neg hp] at hv;subst hv;exact⟨y,ry,ru⟩
theorem qeM{K:W.Frag}{B:qah}{us:List T}{ws:List V}{its:List Value}(rs:Reps K B us ws)(rv:Vals ws its): ∀{l:List (Bool×Nat)} {ts:List T},l.mapM (qfF us)=some ts->(∀p∈l,∃u,its[p.2]? =some u/\(p.1=true->∃n tk,u= .int n tk))/\∀vs,qb5 its l vs->∃ys,Reps K B ts ys/\Vals ys vs
 |[],ts,h=>by cases h;exact⟨(λ_ h=>nomatch h),λvs hv=>by cases hv;exact⟨[],.nil,.nil⟩⟩
 |p::l,ts,h=>by
  rw[List.mapM_cons] at h;cases e1:qfF us p with
  |none=>rw[e1] at h;cases h
  |some t=>
   cases e2:l.mapM (qfF us) with
   |none=>rw[e1,e2] at h;cases h
   |some r=>
    rw[e1,e2] at h;cases h;obtain⟨a,b⟩:=qkW rs rv e1;obtain⟨c,d⟩:=qeM rs rv e2;refine⟨λq hq=> ?_,λvs hv=> ?_⟩
    ·rcases List.mem_cons.mp hq with rfl|hq
     ·exact a
     ·exact c q hq
    ·cases hv with
     |cons h1 h2=>obtain⟨y,r1,r2⟩:=b _ h1;obtain⟨ys,r3,r4⟩:=d _ h2;exact⟨y::ys,.cons r1 r3,.cons r2 r4⟩
variable {M:Md}{E:XK}{X:Cx}{e:Expr}{da:DS0 T}{x:Str}{P c:Addr}{params:Arguments}{body:Expr}{scope:Scope}{dz gY p pos:Pos}{qual:Str}{b:KB}{ow:Bool}
theorem qls (he:PE X e (tE M E da)) (hK:X.K=M.K) (hg:Gl X "sorted") (hm:X.mg "sorted" =none) (L:Lm M X c P qual) (hb:qqs x body=some b)
  (ai: ∀y∈scope.names,y.2≠.free) (hd:defaultsOf params X.env=([],[])) (hk:scope.kind= .function) (iB:scope.isCoroutine=false) (dS:scope.isGenerator=false) (hx:scope.names.lookup x=some .local) (ar: ∀y∈scope.names,y.2≠.cell) (aK:(x==("__debug__" :Str))=false)
  (hbd: ∀(pm cv aW v:Value),bindArgs (W.kla_fn "<lambda>" qual params body scope [] pm cv aW) ⟨[v],[]⟩=pure [(x,v)]) (hr:qb4 4 X.A) (hp:qal e=true):
  PE X (.Call (.Name "sorted" p) [e] [⟨some "key",.Lambda params body scope dz,gY⟩] pos) (tE M E (dNu ow (qcr b) da)):=by
 intro pins s σ H Q I ⟨ρ,μ,B,ev,w⟩;refine Ve (qb2 I hg hm SetL.boot_sorted ?_);refine PyProof.Rows.callWith_kw ?_ (by rw[qbi hp];rfl) (qb7 (by simp[hp])) rfl rfl;have w:Wn M E H B (KE M H B Q) ((da ρ μ).bind λt aa=>nvR ow (qcr b aa t) aa):=w
 have hR:tE M E da σ H λv H1=> ∃t ah B1,Hs M ah H1 B1/\Go H B H1 B1/\Rep M.K B1 t v/\Wn M E H B (KE M H B Q) (nvR ow (qcr b ah t) ah):=
  tE.of ev ((Wn.bind w).mono λt ah w1 v H1 B1 h1 l1 r1=>⟨t,ah,B1,h1,l1,r1,w1⟩)
 have hpa:PA X [e] (λσ H Q=>tE M E da σ H λx H1=>Q [x] H1):=λpos pins s σ H Q I h=>(qca he qeN (qbi hp)) pos pins s σ H Q I h;refine thn (hpa pos pins s σ H (λvs H1=> ∃v t ah B1,vs=[v]/\Hs M ah H1 B1/\Go H B H1 B1/\Rep M.K B1 t v/\Wn M E H B (KE M H B Q) (nvR ow (qcr b ah t) ah)) I (hR.imp λv H1 ⟨t,ah,B1,a⟩=>⟨v,t,ah,B1,rfl,a⟩)) λus s1 ⟨vs,H1,I1,r1,q1⟩=> ?_;obtain⟨v,t,ah,B1,rfl,h1,l1,rt,w1⟩:=q1;obtain⟨u,rfl,ru⟩:=qeu r1;obtain⟨cc,m,eq,w1⟩:=Wn.pl w1 (λc m=>qd5 c m);obtain⟨nv,en,kv⟩:=qbY eq (KE.le w1 l1);obtain⟨ts,e1,e2⟩:=bind_some en;obtain⟨ks,e3,e4⟩:=bind_some e2;split at e4
 case isFalse=>cases e4
 rename_i cO;cases e4;obtain⟨a,vs,rfl,rv,hS⟩:=qaU h1 e1 rt;cases ru;rw[<-hK] at hS rv;show wpAny _ _ (evalAll [(do let v <-eval (.Lambda params body scope dz) X.env;standAt pos;pure v)]) _ _ s1;have cC:clOf X.env scope.names []=[]:=by
  have go: ∀l:List (Str×NameKind),(∀y∈l,y.2≠.free)->∀acc,clOf X.env l acc=acc:=λl=>by
   induction l with
   |nil=>exactλ_ _=>rfl
   |cons y l ih=>
    intro h acc;obtain⟨n,k⟩:=y;unfold clOf;have hk:(k==NameKind.free)=false:=by simpa using h _ Vk
    first
     |(rw[hk];exact ih (λy hy=>h y (Vl _ hy)) acc)
     |(simp only[hk];exact ih (λy hy=>h y (Vl _ hy)) acc)
  exact go _ ai []
 have tab:=L.t _ h1.gm;obtain⟨ps,hP,_⟩:=id tab;refine wpAny_evalAll_cons (Va (thn (qnk (params:=params) (body:=body) (scope:=scope) (pos:=dz) L.cd L.hd L.bm (λy hy e=>absurd e (ai y hy)) hd L.q pins s1 σ H1 (λfv H2=> ∃f c' aW,fv= .ref f/\qg5 P qual H2/\qdm P H1 H2/\(∀b,H1 b≠none->H2 b≠none)/\H2 f=some (qql f (W.kla_obj "<lambda>" qual params body scope (clOf X.env scope.names []) ((X.mg "__name__").getD .none) c' aW))/\H2 c'=some (qdk c' qual)) I1 ⟨tab,λf c' aW H' a1 a2 a3 a4 a5 a6=>⟨f,c',aW,rfl,a1,a2,a3,a5,a6⟩⟩) λfu s2 ⟨fv,H2,I2,rf,f,c',aW,ef,gH,same,ne,hf,b8⟩=>Va (wpAny_standAt (Vb (wpAny_evalAll_nil ?_)))));subst ef;cases rf;rw[cC] at hf;have hfo:s2.heap.get? f=some (W.kla_obj "<lambda>" qual params body scope [] ((X.mg "__name__").getD .none) c' aW):=(I2.hok f _ hf).1;have bu:s2.heap.CodeRec (.ref c') qual:=(I2.hok c' _ b8).1;obtain⟨h2,l2⟩:=h1.sameT hP same ne (L.t' _ _ h1.gm same ne gH);obtain⟨nv',jD,ja⟩:=qbY eq (KE.le w1 (l1.trans l2));rw[en] at jD;cases jD;clear kv;show wpAny _ _ (call (.builtin "sorted") [.ref a] [(Str.ofString "key",.ref f)]) _ _ s2;have hS2:=same.seqL hP hS;obtain⟨its,ri,pl,hz⟩:=I2.list hS2;have hlen:=ri.length;have l3:=rv.length;have ek:=mapM_map e3;have g0:=qk3 e3;obtain⟨sh,ok,hU⟩:=qcl cO.2;generalize hkf:(λt=>qdd ((qoP b t).getD .non))=kf at ja;have elem: ∀{m:Nat},m<ts.length->Rep X.K B1 (ts.getD m .non) (vs.getD m .non)/\RelV (vs.getD m .non) (its.getD m Value.none)/\ts.getD m .non∈ts:=λ{m} hm=>⟨rv.getD m hm,qcM ri m,by rw[List.getD_eq_getElem?_getD,List.getElem?_eq_getElem hm];exact List.getElem_mem hm⟩
 have bE: ∀{m:Nat},m<ts.length->((ts.map kf).map (rank PL.ltKs (ts.map kf))).getD m 0=rank PL.ltKs (ts.map kf) (kf (ts.getD m .non)):=λ{m} hm=>by rw[List.getD_eq_getElem?_getD,List.getElem?_map,List.getElem?_map,List.getElem?_eq_getElem hm,List.getD_eq_getElem?_getD,List.getElem?_eq_getElem hm];rfl
 have kat: ∀{m:Nat},m<ts.length->∃kt,qoP b (ts.getD m .non)=some kt/\qaZ kt=sh/\kf (ts.getD m .non)=qdd kt:=λ{m} hm=>by obtain⟨kt,e⟩:=g0 _ (elem hm).2.2;refine⟨kt,e,hU kt ?_,by rw[<-hkf];show qdd ((qoP b _).getD .non)=_;rw[e];rfl⟩;rw[ek];exact List.mem_map.mpr ⟨_,(elem hm).2.2,by rw[e];rfl⟩
 have i9:LeH B1 H2:=h2.bh;have kvs: ∀{h:Heap} {m:Nat} {v:Value},qaI h sh (kf (ts.getD m .non)) v->qaI h sh (kf (ts.getD m .non)) v:=λh=>h;refine St.sorted_g (κ:=qsk sh) (KV:=λh m v=>qaI h sh (kf (ts.getD m .non)) v) (kz:=(ts.map kf).map (rank PL.ltKs (ts.map kf))) (q:=f) rfl pl.isList (by simp;omega) (by omega) (λm v hv s' aX hg' bw=> ?_) (λh h' m v st hv=> ?_) (λs' kl aX cA bG Q' E' eh=> ?_) (λs' kl aX cA m1 m2 hm1 gd C' b8=> ?_) λD h' tk cc2 pp cb aX ho hD=> ?_
 ·have hm:m<ts.length:=by have:=(List.getElem?_eq_some_iff.mp hv).1;omega
  obtain⟨kt,iQ,gz,ekf⟩:=kat hm;obtain⟨rp,rl,_⟩:=elem hm;have cF:its.getD m Value.none=v:=by rw[List.getD_eq_getElem?_getD,hv];rfl
  rw[cF] at rl;rw[ekf];generalize hte:ts.getD m .non=te at*;cases te with
  |tup us=>
   obtain⟨ta,ws,et,hta,rs⟩:=qaq rp;rw[et] at rl;cases rl;obtain⟨aM,bY,gK,hz2⟩:=I2.tuple (SqT.of (i9 _ _ hta));have zz:aM.length<=sizeLine:=by rw[<-bY.length];exact hz2
   have ken:St.Kp s2.heap s'.heap:=aX;refine qlK (R:=λh v=>qaI h sh (qdd kt) v) (aX _ _ hfo) (bu.keeps aX) (I2.nolimit.keeps aX) hr.in1.in1.depth hk iB dS hx ar (λv=>hbd _ _ _ v) λA' env s3 Le ee=> ?_;have i4:IsTup s3.heap ta aM.toArray:=by obtain⟨o,e,r⟩:=gK;exact⟨o,ee _ _ (aX _ _ e),r⟩
   have I3: ∀{h3:Heap} {tk:Nat},St.Kp s2.heap h3->Inv X pins σ H2 { s2 with heap:=h3,toks:=tk }:=λ{h3 tk} k=>I2.kept (t':=tk) k;have kv0: ∀{y:V} {r:Value} {h3:Heap},St.Kp s2.heap h3->Rep X.K B1 kt y->RelV y r->qaI h3 sh (qdd kt) r:=λ{y r h3} k ry rr=>by have:=qdx (I3 (tk:=0) k) i9 (t:=kt) (by rw[gz];exact ok) ry rr;rw[gz] at this;exact this
   unfold qqs at hb;split at hb
   ·rename_i es kk tp;split at hb
    case isFalse=>cases hb
    rename_i hes;obtain⟨l,el,rfl⟩:=qak hb;obtain⟨kts,fL,rfl⟩:=qak (show(l.mapM (qfF us)).map T.tup=some kt from iQ);obtain⟨d1,d2⟩:=qeM rs bY fL;refine wpAny_Tuple_spliced (qeU el Le aK i4 zz d1 λbX cK hG=> ?_);obtain⟨ys,ry,rr⟩:=d2 _ hG;have fl:kts.all (λt=>shN t==0||shN t==1)=true:=by
     have i5:=ok;rw[<-gz] at i5
     rcases PL.okShape_cases i5 with e|e|⟨x0,r0,e,ho⟩
     ·cases e
     ·cases e
     ·have e:=(List.cons.inj e).2;rw[<-e,List.all_map] at ho;exact ho
    obtain⟨f1,f2⟩:=qc0 fl ry;have fw:bX.length<=sizeLine:=by
     have q1:=(qa0 el).1;have q2:=(qa0 fL).1;have q3:=rr.length;have q4:=ry.length;have l0:100<=sizeLine:=by decide
     omega
    refine⟨fw,_,_,?_,rfl,λb' o e=>Vg _ e⟩;rw[<-gz];exact⟨⟨_,bX,rfl,⟨_,Vh _ rfl,rfl,_,rfl⟩,f1▸rr⟩,f2⟩
   ·obtain⟨i,ei,rfl⟩:=qak hb;obtain⟨p1,j,p2,p3,rfl⟩:=qdR ei;obtain⟨y,ey,ry⟩:=rs.get (show us[i]? =some kt from iQ);obtain⟨u',eu,ru⟩:=bY.get ey;exact qfO Le aK i4 eu zz λeL=>⟨_,eL,kv0 (λb' o e=>ee _ _ (aX _ _ e)) ry ru,rfl,λb' o e=>e⟩
  |_=>exfalso;cases b<;>cases iQ
 ·unfold qaI at hv⊢;split at hv
  ·exact hv
  ·exact hv
  ·obtain⟨⟨p,g7,e1,⟨o,e2,e3,e4⟩,e5⟩,e6⟩:=hv;exact⟨⟨p,g7,e1,⟨o,st _ _ e2 (by rw[e3];decide),e3,e4⟩,e5⟩,e6⟩
  ·exact hv.elim
 ·have gX: ∀v∈kl,∃k,qaI s'.heap sh k v:=λv hv=>by obtain⟨m,hm,rfl⟩:=List.mem_iff_getElem.mp hv;exact⟨_,cA.2 m _ (Vz hm)⟩
  have ip:2<=kl.length:=by rw[cA.1];exact bG
  rcases PL.okShape_cases ok with rfl|rfl|⟨x0,r0,rfl,jd⟩
  ·have hI: ∀l:List Value,(∀v∈l,∃n t,v= .int n t)->∃ns,IntsAre l ns:=λl=>by
    induction l with
    |nil=>exactλ_=>⟨[],.nil⟩
    |cons v l ih=>intro hl;obtain⟨n,t,rfl⟩:=hl v Vk;obtain⟨ns,hn⟩:=ih λu hu=>hl u (Vl _ hu);exact⟨n::ns,.cons n t hn⟩
   obtain⟨ns,eA⟩:=hI kl λv hv=>by obtain⟨k,n,t,_,e⟩:=gX v hv;exact⟨n,t,e⟩
   rw[ksk_kind (keys:=kl.toArray) (by simpa using eA) (by simpa using ip)];exact Vb eh
  ·exact PL.kind_strs kl ip (λv hv=>by obtain⟨k,n,t,_,e⟩:=gX v hv;exact⟨n,t,e⟩) eh
  ·have g8:x0=0\/x0=1:=by rw[List.all_cons,Bool.and_eq_true] at jd;simpa using jd.1
   exact PL.kind_tups kl g8 ip (λv hv=>by obtain⟨k,e1,e2⟩:=gX v hv;exact⟨k,e1,e2⟩) eh
 ·have fq:m1<ts.length:=by omega
  have fm:m2<ts.length:=by omega
  have lk:=cA.1;rw[bE fq,bE fm,rank_lt PL.ordKs (List.mem_map.mpr ⟨_,(elem fq).2.2,rfl⟩) (List.mem_map.mpr ⟨_,(elem fm).2.2,rfl⟩)] at b8;have ki:=cA.2 m1 _ (Vz (by omega));have kj:=cA.2 m2 _ (Vz (by omega));rw[List.getD_eq_getElem?_getD,List.getD_eq_getElem?_getD,List.getElem?_eq_getElem (by omega:m1<kl.length),List.getElem?_eq_getElem (by omega:m2<kl.length)];exact qmb ok ki kj b8
 ·have fD:H2 D=none:=I2.hok.fresh cb;have I3:Inv X pins σ (L2.upd H2 D (.lst (pp.toList.map λj=>vs.getD j .non))) { s2 with heap:=h',toks:=tk }:=by refine I2.laid aX cb ⟨?_,_,cc2,vals_pick ri pp.toList,hD⟩;rw[List.length_map,Array.length_toList,ho.1.sz,sizeLine_eq];omega
  refine⟨.ref D,_,I3,rfl,ja B1 D _ h2 .refl fD ?_⟩;have ep:=qcT ho;have pm: ∀j∈pp.toList,j<ts.length:=λj hj=>by rw[ep] at hj;have:=List.mem_range.mp ((mem_srt _).mp hj);omega
  have e:PL.sortBy kf ts=pp.toList.map λj=>ts.getD j .non:=by unfold PL.sortBy;rw[ep,srt_congr (k':=λj=>rank PL.ltKs (ts.map kf) (kf (ts.getD j .non))),srt_map (k:=λt=>rank PL.ltKs (ts.map kf) (kf t)) (f:=λj=>ts.getD j .non) (λb=>rfl),show its.length=ts.length by omega,Mir.map_range_getD];intro b' aR;exact bE (by have:=List.mem_range.mp aR;omega)
  rw[e,<-hK];exact qb8 rv _ pm
end
end NV
namespace NV
open PySem L2
def qtS(wd:Str->Option Str)(fr:List Nat)(d:DS0 T):DS0 T:=λρ μ=>match d (qbl 0 fr ρ) μ with
 |.ok t m=>.ok t m
 |.ex c m=>(match wd c with|some x=>.ok (.str x) m|none=>.no)
 |.no=>.no
structure Td(M:Md)(P:Program)(w:World)(mg:Str->Option Value)(base:Heap)(wd:Str->Option Str)(st:Stmt)(fT fC CA:Addr)(fdT fdC:FuncData)(bmA:List Value)(wa:Addr->Option Str):Prop where
 tx:qrF st
 f:Fun M.K "_law_told" "_law_told" st fT fdT
 m:mg "_law_told" =some (.ref fT)
 b:qci M.K fdT ["_law_deed"] []
 a:mg "AskError" =some (.ref CA)
 e:qh2 base CA bmA
 g:FnN P w M.K mg base 1 fC fdC ["_law_kept"] (qsh base wa)
 mc:mg "_law_class" =some (.ref fC)
 kc:W.keepIn M.K (.ref fC)=true
 bc:qci M.K fdC ["_law_kept"] []
 wd: ∀c x,wd c=some x->∃bm,qh2 base (clA M.K c) bm/\(Value.ref (clA M.K c)::bm).contains (.ref CA)=true/\wa (clA M.K c)=some x
inductive O2 where
 |add|sub|mul|div|mod|pow|lt|le|gt|ge|eq|ne|is|isn|in_|nin|ix
def O2.g:O2->Mu->T->T->Option Nv
 |.add=>qty|.sub=>gSub|.mul=>qtr|.div=>qtv|.mod=>qts|.pow=>qv3|.lt=>gLt|.le=>gLe|.gt=>gGt|.ge=>gGe
 |.eq=>qmi false|.ne=>qmi true|.is=>gIs false|.isn=>gIs true|.in_=>gIn false|.nin=>gIn true|.ix=>gIx
inductive CG where
 |no|n (i:Nat)|tup (gs:List CG)
inductive Iw where
 |rng1|rng2|enum|zip
mutual
inductive CE where
 |no|v (i:Nat)|c (t:T)|tup (es:List CE)|lst (ow:Bool) (es:List CE)|dct (ow:Bool)
 |o2 (ow:Bool) (o:O2) (a b:CE)|neg (a:CE)|nt (a:CE)|and (a b:CE)|or (a b:CE)|ife (t a b:CE)|chain (o p:O2) (a b c:CE)
 |bn (ow:Bool) (b:Bn) (es:List CE)|bm (ow:Bool) (b:Bm) (o:CE) (es:List CE)|alt (a b:CE)|inst (N:String) (a:CE)|sset (ow:Bool) (a:CE)|slen (a:CE)
 |sl (ow:Bool) (a:CE) (lo hi:Option CE)|sl3 (ow:Bool) (a:CE) (lo hi:Option CE) (st:CE)
 |call (i:Nat) (es:List CE)|make (c:Str) (i:Nat) (es:List CE)|mth (ms:List (Str×Nat)) (m:Str) (o:CE) (es:List CE)|fld (cs:List Str) (f:Str) (o:CE)
 |srtK (ow:Bool) (b:KB) (a:CE)|told (wd:List (Str×Str)) (fr:List Nat) (e:CE)
 |comp (ow x:Bool) (n:Nat) (fr:List Nat) (g:CG) (it:CI) (t:Option CE) (e:CE)
inductive CI where
 |no|gen (e:CE)|by_ (w:Iw) (es:List CE)
end
inductive CS where
 |no|nx|ret (e:CE)|set (i:Nat) (e:CE)|asg (g:CG) (e:CE)|par (is:List Nat) (es:List CE)|fld (cs:List Str) (f:Str) (o e:CE)|put (o i e:CE)|exp (e:CE)|ife (t:CE) (a b:List CS)|for_ (g:CG) (it:CI) (b:List CS)
 |brk|cnt|raise (c:Str)|try_ (cl:List Str) (n:Nat) (nm:Option Nat) (b h:List CS)|frz (i:Nat) (s:CS)
def Iw.g:Iw->List T->Mu->R Ito
 |.rng1=>qco|.rng2=>qgs|.enum=>qqR|.zip=>qrY
abbrev Fs:=Nat->List T->Mu->R T
mutual
def qbS:CG->T->DS0 Ro
 |.no=>λ_=>dNo
 |.n i=>gN i
 |.tup gs=>gT gs.length (runGs gs)
def runGs:List CG->List T->DS0 Ro
 |[]=>gsN
 |g::gs=>gsC (qbS g) (runGs gs)
end
def qms(o p:O2)(da db dc:DS0 T):DS0 T:=dSq da λx=>dSq db λy ρ μ=>(nvR false (o.g μ x y) μ).bind λz aa=>(tbO z aa).bind λk aa=>if k=true then(dc ρ aa).bind λw eK=>nvR false (p.g eK y w) eK else .ok (.bl false) aa
def qhO(ow:Bool)(d:DS0 Ct):DS0 T:=if ow=true then dOw d else dFz d
def qqL:T->Mu->R T
 |.int i,μ=>.ok (.int (-i)) μ
 |_,_=>.no
mutual
def qab(F:Fs):CE->DS0 T
 |.no=>dNo
 |.v i=>dV i
 |.c t=>dC t
 |.tup es=>quQ (runA F es)
 |.lst ow es=>qhO ow (quU (runA F es))
 |.dct ow=>qhO ow λ_ μ=>.ok (.dk []) μ
 |.o2 ow o a b=>dB (λx y μ=>nvR ow (o.g μ x y) μ) (qab F a) (qab F b)
 |.neg a=>dU qqL (qab F a)
 |.nt a=>qlx (qab F a)
 |.and a b=>qly (qab F a) (qab F b)
 |.or a b=>qrU (qab F a) (qab F b)
 |.ife t a b=>qhP (dTB (qab F t)) (qab F a) (qab F b)
 |.chain o p a b c=>qms o p (qab F a) (qab F b) (qab F c)
 |.bn ow b es=>dN ow b.g (runA F es)
 |.bm ow b o es=>dBM ow b (qab F o) (runA F es)
 |.alt a b=>qrh (qab F a) (qab F b)
 |.inst N a=>qre N (qab F a)
 |.sset ow a=>dNu ow qhG (qab F a)
 |.slen a=>dNu false qaN (qab F a)
 |.sl ow a lo hi=>dSl ow (qab F a) (runO F lo) (runO F hi)
 |.sl3 ow a lo hi st=>qv9 ow (qab F a) (runO F lo) (runO F hi) (dOS (qab F st))
 |.call i es=>qjA (F i) (runA F es)
 |.make c i es=>qjA (mkR c (F i)) (runA F es)
 |.mth ms m o es=>qtV (λc=>(ms.lookup c).map F) m (qab F o) (runA F es)
 |.fld cs f o=>dU (quM (λc _=>cs.contains c) f) (qab F o)
 |.srtK ow b a=>dNu ow (qcr b) (qab F a)
 |.told wd fr e=>qtS (λc=>wd.lookup c) fr (qab F e)
 |.comp ow x n fr g it t e=>qhO ow (qcd x n fr (runI F it) (qbS g) (runT F t) (qab F e))
def runA(F:Fs):List CE->DS0 (List T)
 |[]=>qrd
 |e::es=>qrg (qab F e) (runA F es)
def runO(F:Fs):Option CE->DS0 (Option Int)
 |none=>dON
 |some e=>dOS (qab F e)
def runT(F:Fs):Option CE->DS0 Bool
 |none=>quP
 |some e=>dTB (qab F e)
def runI(F:Fs):CI->DS0 Ito
 |.no=>dNo
 |.gen e=>dIt (qab F e)
 |.by_ w es=>dIA w.g (runA F es)
end
def qa7:List Nat->List T->Ro->Option Ro
 |[],[],ρ=>some ρ
 |i::is,t::ts,ρ=>qa7 is ts (ρ.set i (some t))
 |_,_,_=>none
def qwa(is:List Nat)(ds:DS0 (List T)):DS0 Out:=dSq ds λts ρ μ=>match qa7 is ts ρ with|some ae=>.ok (.nx ae) μ|none=>.no
mutual
def qaP(F:Fs):CS->DS0 Out
 |.no=>dNo
 |.nx=>qou
 |.ret e=>quR (qab F e)
 |.set i e=>qlw i (qab F e)
 |.asg g e=>quW (qbS g) (qab F e)
 |.par is es=>qwa is (runA F es)
 |.fld cs f o e=>qtW (λc _=>cs.contains c) f (qab F o) (qab F e)
 |.put o i e=>quS (qab F o) (qab F i) (qab F e)
 |.exp e=>qrf (qab F e)
 |.ife t a b=>qhP (dTB (qab F t)) (runSs F a) (runSs F b)
 |.for_ g it b=>quV (runI F it) (qbS g) (runSs F b)
 |.brk=>λρ μ=>.ok (.bk ρ) μ
 |.cnt=>λρ μ=>.ok (.ct ρ) μ
 |.raise c=>qmr c
 |.try_ cl n nm b h=>qv8 (λc=>cl.contains c) n nm (runSs F b) (runSs F h)
 |.frz i s=>qwb i (qaP F s)
def runSs(F:Fs):List CS->DS0 Out
 |[]=>qou
 |s::ss=>qtU (qaP F s) (runSs F ss)
end
structure Gx where
 fs:List (Str×Stmt)
 cs:List (Str×T)
 ex:List (Str×List Str)
 cl:List (Str×List Str)
 ow:List (Nat×Nat)
 fz:List (Nat×Str)
 xc:List (Nat×Nat)
 kp:List Str
 lm:List Str
 wd:List (Str×Str)
structure Cc where
 N:List Str
 sc:Scope
 calm:Bool
 top:Bool
 cf:Bool
 lam:Bool
def qcL:List Str:=["len", "all", "any", "sum", "max", "min", "abs", "list", "tuple", "sorted", "set", "isinstance", "range", "enumerate", "zip", "int", "bool", "str"]
def qlb(N:List Str)(x:Str):Option Nat:=N.findIdx? λy=>decide (y=x)
def qkf(C:Cc)(x:Str):Bool:=decide (C.sc.names.lookup x=some .globalImplicit)&&x != "__debug__"
def qcz(C:Cc)(x:Str):Bool:=qkf C x&&qcL.contains x
def qn0(sc:Scope)(x:Str):Bool:=match sc.names.lookup x with|some .local=>true|some .cell=>true|some .free=>true|_=>false
def qn2(sc:Scope)(x:Str):Bool:=match sc.names.lookup x with|some .local=>true|some .cell=>true|_=>false
def qoQ(C:Cc)(x:Str):Bool:=match C.sc.names.lookup x with|some .local=>true|some .cell=>C.cf|_=>false
def Gx.fi(g:Gx)(x:Str):Option Nat:=qlb (g.fs.map (·.1)) x
def qmm(c m:Str):Str:=c++("." :Str)++m
def Gx.ms(g:Gx)(m:Str):List (Str×Nat):=g.cl.filterMap λc=>(g.fi (qmm c.1 m)).map λi=>(c.1,i)
def Gx.own(g:Gx)(p:Pos):Bool:=g.ow.contains (p.line,p.col)
def qoE(g:Gx)(C:Cc)(x:Str):CE:=
 if x== "__debug__" ||x== "__classdict__" then .no else
 if qn0 C.sc x then(match qlb C.N x with|some i=>.v i|none=>.no) else
 if qkf C x then(match g.cs.lookup x with|some t=>.c t|none=>.no) else .no
def qsV:Operator->Option O2
 |.Add=>some .add|.Sub=>some .sub|.Mult=>some .mul|.FloorDiv=>some .div|.Mod=>some .mod|_=>none
def qkh:CmpOp->O2
 |.Lt=>.lt|.LtE=>.le|.Gt=>.gt|.GtE=>.ge|.Eq=>.eq|.NotEq=>.ne|.Is=>.is|.IsNot=>.isn|.In=>.in_|.NotIn=>.nin
def qrv(x:Str):Option Bn:=Bn.list.find? λb=>b.nm==x
def qoG(x:Str)(ty:String):Option Bm:=Bm.all.find? λb=>b.nm==x&&b.ty==ty
def quc(x:Str):Option String:=["int", "bool", "str", "tuple", "list"].find? λN=>Str.ofString N==x
def qg2:List CE->CE
 |[]=>.no
 |[a]=>a
 |a::b::r=>.and a (qg2 (b::r))
def qkX:List CE->CE
 |[]=>.no
 |[a]=>a
 |a::b::r=>.or a (qkX (b::r))
def cG(C:Cc):Nat->Expr->CG
 |0,_=>.no
 |n+1,e=>match e with
  |.Name x _=>if qoQ C x then(match qlb C.N x with|some i=>.n i|none=>.no) else .no
  |.Tuple ts _ _=>if C.calm&&ts.all qal then .tup (ts.map (cG C n)) else .no
  |_=>.no
def qrK(C:Cc)(sc:Scope):Scope:={ sc with names:=sc.names.map λ(n,k)=>if(k==NameKind.free&&C.sc.kind== .function&&C.sc.names.lookup n==some .cell) then(n,NameKind.cell) else(n,k) }
def qag(C:Cc)(sc:Scope):Cc×List (Str×Nat):=
 let own:=(sc.names.filter λy=>decide (y.2= .local)&&y.1 != (".0" :Str)).map (·.1);let fr:=sc.names.filterMap λy=>if y.2= .free then(qlb C.N y.1).map λi=>(y.1,i) else none
 (⟨own++fr.map (·.1),qrK C sc,C.calm,false,false,C.lam⟩,fr)
def qgS(C:Cc)(sc:Scope):Bool:=
 decide (sc.kind= .function)&&sc.names.all (λy=>decide (y.2≠.cell))&&sc.names.all (λy=>decide (y.2≠.local)||decide (sc.names.lookup y.1=some .local))
  &&sc.names.all (λy=>decide (y.2≠.free)||(decide (C.sc.names.lookup y.1=some .cell)||decide (C.sc.names.lookup y.1=some .free))&&decide (sc.names.lookup y.1=some .free))
  &&decide ((qag C sc).1.N.Nodup)
def qs3(C:Cc)(sc:Scope):List (Str×Nat):=sc.names.filterMap λy=>if y.2= .free then(qlb C.N y.1).map λi=>(y.1,i) else none
def qs4(C:Cc)(sc:Scope):Cc:=⟨(qs3 C sc).map (·.1),sc,true,false,false,false⟩
def qaY(a:Arguments):Bool:=decide (a.posonlyargs.length=0)&&a.vararg.isNone&&decide (a.kwonlyargs.length=0)&&decide (a.kw_defaults.length=0)&&a.kwarg.isNone&&decide (a.defaults.length=0)
def qk9(C:Cc)(a:Arguments)(sc:Scope):Bool:=qaY a&&decide (sc.kind= .function)&& !sc.isCoroutine&& !sc.isGenerator&&sc.names.all (λy=>decide (y.2≠.cell))&&C.lam&&C.calm
def qoY(C:Cc)(a:Arguments)(sc:Scope):Bool:=qk9 C a sc&&decide (a.args.length=0)&&C.cf&&decide ((qs4 C sc).N.Nodup)
 &&sc.names.all (λy=>decide (y.2≠.free)||(decide (C.sc.names.lookup y.1=some .cell)||decide (C.sc.names.lookup y.1=some .free))&&decide (sc.names.lookup y.1=some .free))
def qee(C:Cc)(a:Arguments)(sc:Scope):Option Str:=match a.args with
 |[x]=>if qk9 C a sc&&decide (sc.names.lookup x.arg=some .local)&&sc.names.all (λy=>decide (y.2≠.free))&&x.arg != "__debug__" then some x.arg else none
 |_=>none
def qmf:Expr->Bool
 |.Tuple _ _ _=>true
 |_=>false
mutual
def cE(g:Gx):Nat->Cc->Expr->CE
 |0,_,_=>.no
 |n+1,C,e=>match e with
  |.Constant c _ _=>(match c with|.none=>.c .non|.bool b=>.c (.bl b)|.int i=>.c (.int i)|.str s=>.c (.str s)|_=>.no)
  |.Name x _=>qoE g C x
  |.Tuple es _ _=>if es.all qal then .tup (es.map (cE g n C)) else .no
  |.List es p=>if es.all qal then .lst (g.own p) (es.map (cE g n C)) else .no
  |.Dict [] [] p=>.dct (g.own p)
  |.BinOp a op b p=>(match qsV op with|some o=>.o2 (g.own p) o (cE g n C a) (cE g n C b)|none=>.no)
  |.UnaryOp .Not a _=>.nt (cE g n C a)
  |.UnaryOp .USub a _=>.neg (cE g n C a)
  |.BoolOp .And es _=>qg2 (es.map (cE g n C))
  |.BoolOp .Or es _=>qkX (es.map (cE g n C))
  |.IfExp t a b _=>.ife (cE g n C t) (cE g n C a) (cE g n C b)
  |.Compare a [o] [b] _=>if qbZ b then .o2 false (qkh o) (cE g n C a) (cE g n C b) else .no
  |.Compare a [o,p] [b,c] _=>if qbZ c then .chain (qkh o) (qkh p) (cE g n C a) (cE g n C b) (cE g n C c) else .no
  |.Subscript a (.Slice lo hi none _) p=>.sl (g.own p) (cE g n C a) (lo.map (cE g n C)) (hi.map (cE g n C))
  |.Subscript a (.Slice lo hi (some st) _) p=>.no
  |.Subscript a b p=>.o2 (g.own p) .ix (cE g n C a) (cE g n C b)
  | .Call (.Attribute o m ap) es [] p=>if (qgy o&&es.all qal&&decide (es.length<30))&&ap.endLine==p.line then
    (match qoG m "list",qoG m "dict" with
     |some b,some d=>.alt (.bm (g.own p) b (cE g n C o) (es.map (cE g n C))) (.bm (g.own p) d (cE g n C o) (es.map (cE g n C)))
     |some b,none=>.bm (g.own p) b (cE g n C o) (es.map (cE g n C))
     |none,some d=>.bm (g.own p) d (cE g n C o) (es.map (cE g n C))
     |none,none=>.no) else .no
  | .Call (.Name f _) [e] [⟨some kw,.Lambda a body sc _,_⟩] p=>if f== "sorted" &&kw== "key" &&qcz C f&&qal e then (match qee C a sc with
    |some x=>(match qqs x body with|some b=>.srtK (g.own p) b (cE g n C e)|none=>.no)
    |none=>.no) else .no
  |.Call (.Name f _) es [] p=>if(es.all qal&&C.calm)&&qkf C f then cCall g n C f es p else .no
  |.ListComp elt [⟨tg,iter,ifs,0⟩] sc p=>cComp g n C false elt tg iter ifs sc p
  |_=>.no
def cCall(g:Gx):Nat->Cc->Str->List Expr->Pos->CE
 |0,_,_,_,_=>.no
 | n+1,C,f,es,p=>if f== "_law_told" then (match es with
   |[.Lambda a body sc _]=>if qoY C a sc&& !g.wd.isEmpty then .no else .no
   |_=>.no) else if f.cps.contains 46 then .no else match g.fi f with
  |some i=>.call i (es.map (cE g n C))
  |none=>if(g.cl.map (·.1)).contains f then(match g.fi (qmm f "__init__") with|some i=>.no|none=>.no) else
   if qcz C f then(match es with
    |[e,.Name x _]=>if f== "isinstance" then(match quc x with|some N=>if qcz C x then .inst N (cE g n C e) else .no|none=>.no) else
     (match qrv f with|some b=>.bn (g.own p) b (es.map (cE g n C))|none=>.no)
    |[.Call (.Name s _) [a] [] _]=>if s== "set" &&qcz C s&&qal a then(if f== "sorted" then .sset (g.own p) (cE g n C a) else if f== "len" then .slen (cE g n C a) else .no) else
     (match qrv f with|some b=>.bn (g.own p) b (es.map (cE g n C))|none=>.no)
    |[]=>.no
    |_=>(match qrv f with|some b=>.bn (g.own p) b (es.map (cE g n C))|none=>.no)) else .no
def cI(g:Gx):Nat->Cc->Expr->Expr->CI
 |0,_,_,_=>.no
 |n+1,C,tg,e=>if qbZ e then(match e with
  | .Call (.Name f _) es [] _=>if f== "range" then (if qcz C f&&es.all qal then (match es with
     |[a]=>.by_ .rng1 [cE g n C a]
     |[a,b]=>.by_ .rng2 [cE g n C a,cE g n C b]
     |_=>.no) else .no)
    else if f== "enumerate" then(if qcz C f&&es.all qal&&qmf tg then(match es with|[a]=>.no|_=>.no) else .no)
    else if f== "zip" then(if qcz C f&&es.all qal&&qmf tg then(match es with|[a,b]=>.no|_=>.no) else .no)
    else .gen (cE g n C e)
  |_=>.gen (cE g n C e)) else .no
def cComp(g:Gx):Nat->Cc->Bool->Expr->Expr->Expr->List Expr->Scope->Pos->CE
 |0,_,_,_,_,_,_,_,_=>.no
 | n+1,C,x,elt,tg,iter,ifs,sc,p=>if C.calm&&qgS C sc then
   (match ifs with
    |[]=>.comp (g.own p) x ((qag C sc).1.N.length - (qag C sc).2.length) ((qag C sc).2.map (·.2)) (cG (qag C sc).1 n tg) (cI g n C tg iter) none (cE g n (qag C sc).1 elt)
    |[t]=>.comp (g.own p) x ((qag C sc).1.N.length - (qag C sc).2.length) ((qag C sc).2.map (·.2)) (cG (qag C sc).1 n tg) (cI g n C tg iter) (some (cE g n (qag C sc).1 t)) (cE g n (qag C sc).1 elt)
    |_=>.no) else .no
end
def qbv(C:Cc)(line:Nat):List Expr->Option (List Str)
 |[]=>some []
 |.Name x p::r=>if decide (C.sc.names.lookup x=some .local)&&p.line==line then(qbv C line r).map (x:: ·) else none
 |_::_=>none
def qnV(N:List Str):List Str->Option (List Nat)
 |[]=>some []
 |x::r=>(qlb N x).bind λi=>(qnV N r).map (i:: ·)
def qdQ(C:Cc)(e:Expr)(x:Str)(p:Pos):Bool:=match e with
 |.ListComp _ _ s q=>decide (C.sc.kind= .function)&&decide (C.sc.names.lookup x=some .local)&&p.line==q.line&& !(s.names.any λ(n,k)=>n==x&&(k== .local||k== .cell))
 |_=>false
def qt0 (g:Gx) (n:Nat) (C:Cc) (x:Str) (p:Pos) (e:Expr):CS:=if qoQ C x then (match qlb C.N x with
  |none=>.no
  |some i=>(match e with
   |.ListComp elt [⟨tg,iter,ifs,0⟩] sc q=>if decide (C.sc.kind= .function) then(if qdQ C (.ListComp elt [⟨tg,iter,ifs,0⟩] sc q) x p then .set i (cComp g n C false elt tg iter ifs sc q) else .set i (cE g n C (.ListComp elt [⟨tg,iter,ifs,0⟩] sc q))) else .no
   |e=>if qdv e then .set i (cE g n C e) else .no)) else .no
def qru (g:Gx) (n:Nat) (C:Cc) (ts vs:List Expr):Option CS:=if (ts.length==2||ts.length==3)&&vs.length==ts.length&&vs.all qal&&C.calm&&decide (C.sc.kind= .function)&& !vs.all (constantsAlone 8)&& !vs.all (foldedForSure 8) then
  (qbv C ((ts.head?.map (·.pos.line)).getD 0) ts).bind λxs=>if xs.eraseDups.length==xs.length&&decide xs.Nodup then(qnV C.N xs).map λis=>.par is (vs.map (cE g n C)) else none else none
def qgh:Expr->Bool
 |.Constant (.str _) _ _=>true
 |_=>false
mutual
def cS(g:Gx):Nat->Cc->Stmt->CS
 |0,_,_=>.no
 |n+1,C,st=>cS1 g n C st
def cS1(g:Gx):Nat->Cc->Stmt->CS
 |0,_,_=>.no
 |n+1,C,st=>match st with
  |.Return (some e) _=>.ret (cE g n C e)
  |.Expr e _=>if qgh e then .nx else if qdv e then .exp (cE g n C e) else .no
  |.If t a b _=>.ife (cE g n C t) (cSs g n C a) (cSs g n C b)
  |.For tg it b [] _=>if(C.top&&C.calm)&&qbZ it then .for_ (cG C n tg) (cI g n C tg it) (cSs g n C b) else .no
  |.Assign [.Name x p] e _=>qt0 g n C x p e
  |.Assign [.Subscript o i _] e _=>.put (cE g n C o) (cE g n C i) (cE g n C e)
  |.Assign [.Tuple ts k p] e _=>(match e with
   |.Tuple vs _ _=>(qru g n C ts vs).getD .no
   |e=>if qdv e then .asg (cG C n (.Tuple ts k p)) (cE g n C e) else .no)
  |.Raise (some (.Call (.Name x _) [a] [] _)) none _=>if C.top&&qkf C x&&(g.ex.map (·.1)).contains x&&qgh a then .raise x else .no
  |_=>.no
def cSs(g:Gx):Nat->Cc->List Stmt->List CS
 |0,_,_=>[.no]
 |n+1,C,bA=>bA.map (cS g n C)
end
def qfE(st:Stmt):List Str:=(qan st).args.map (·.arg)
def qeO(st:Stmt):List Str:=qfE st++((qae st).names.filter λy=>(decide (y.2= .local)||decide (y.2= .cell))&& !(qfE st).contains y.1).map (·.1)
def qtZ(lam:Bool)(st:Stmt):Cc:=⟨qeO st,qae st,true,true,true,lam⟩
def qfY(st:Stmt):Bool:=decide ((qae st).kind= .function)&& !(qae st).isCoroutine&& !(qae st).isGenerator&&decide ((qeO st).Nodup)&&(qfE st).all (qn2 (qae st))&&(qae st).names.all (λy=>decide (y.2≠.free))
 &&decide ((qan st).posonlyargs.length=0)&&(qan st).vararg.isNone&&decide ((qan st).kwonlyargs.length=0)&&decide ((qan st).kw_defaults.length=0)&&(qan st).kwarg.isNone&&decide ((qan st).defaults.length=0)
structure Fcd where
 kp:Bool
 n:Nat
 N:Nat
 b:List CS
def cFn(g:Gx)(p:Str×Stmt):Fcd:=if qfY p.2 then⟨g.kp.contains p.1,(qfE p.2).length,(qeO p.2).length,cSs g 60 (qtZ (g.lm.contains p.1) p.2) (qaw p.2)⟩ else⟨true,0,0,[.no]⟩
def Fcd.run(F:Fs)(c:Fcd):List T->Mu->R T:=fnR c.kp c.n c.N (runSs F c.b)
def TTf(g:Gx):Nat->Fs
 |0,_=>λ_ _=>.no
 |k+1,i=>match g.fs[i]? with
  |some p=>(cFn g p).run (TTf g k)
  |none=>λ_ _=>.no
section
variable {F:Fs}{ρ:Ro}{μ:Mu}
def lk:Option (Option T)->Mu->R T
 |some (some t),μ=>.ok t μ
 |_,_=>.no
@[simp] theorem qfM(t:T)(μ:Mu):lk (some (some t)) μ= .ok t μ:=rfl
@[simp] theorem qjV{α β γ:Type}{r:R α}{f:α->Mu->R β}{g:β->Mu->R γ}:(r.bind f).bind g=r.bind λa m=>(f a m).bind g:=by cases r<;>rfl
@[simp] theorem qiw:runSs F [] ρ μ= .ok (.nx ρ) μ:=rfl
@[simp] theorem qaC{s:CS}{ss:List CS}:runSs F (s::ss) ρ μ=(qaP F s ρ μ).bind (qhf (runSs F ss)):=rfl
@[simp] theorem qaJ{e:DS0 Out}{ρ:Ro}{μ:Mu}:qhf e (.nx ρ) μ=e ρ μ:=rfl
@[simp] theorem qko{e:DS0 Out}{t:T}{μ:Mu}:qhf e (.rt t) μ= .ok (.rt t) μ:=rfl
@[simp] theorem qrI{e:DS0 Out}{ρ:Ro}{μ:Mu}:qhf e (.bk ρ) μ= .ok (.bk ρ) μ:=rfl
@[simp] theorem qrH{e:DS0 Out}{ρ:Ro}{μ:Mu}:qhf e (.ct ρ) μ= .ok (.ct ρ) μ:=rfl
@[simp] theorem qns{t:T}{μ:Mu}:outT (.rt t) μ= .ok t μ:=rfl
@[simp] theorem qsM{ρ:Ro}{μ:Mu}:outT (.nx ρ) μ= .ok .non μ:=rfl
@[simp] theorem qck{b:Bool}{μ:Mu}:tbO (.bl b) μ= .ok b μ:=rfl
@[simp] theorem qvp:qaP F .nx ρ μ= .ok (.nx ρ) μ:=rfl
@[simp] theorem qix{e:CE}:qaP F (.ret e) ρ μ=(qab F e ρ μ).bind λt μ=>.ok (.rt t) μ:=rfl
@[simp] theorem qby{i:Nat}{e:CE}:qaP F (.set i e) ρ μ=(qab F e ρ μ).bind λt μ=>.ok (.nx (ρ.set i (some t))) μ:=rfl
@[simp] theorem qup{g:CG}{e:CE}:qaP F (.asg g e) ρ μ=(qab F e ρ μ).bind λt μ=>(qbS g t ρ μ).bind λae aa=>.ok (.nx ae) aa:=rfl
@[simp] theorem qum{e:CE}:qaP F (.exp e) ρ μ=(qab F e ρ μ).bind λ_ μ=>.ok (.nx ρ) μ:=rfl
theorem qgM{α:Type}{c:Prop}[Decidable c]{f g:Ro->Mu->R α}:(if c then f else g) ρ μ=if c then f ρ μ else g ρ μ:=by split<;>rfl
@[simp] theorem qds{t:CE}{a b:List CS}:qaP F (.ife t a b) ρ μ=(qab F t ρ μ).bind λx μ=>(tbO x μ).bind λc μ=>if c=true then runSs F a ρ μ else runSs F b ρ μ:=by
 show((qab F t ρ μ).bind λt μ=>tbO t μ).bind _=_;cases qab F t ρ μ with
 |ok x m=>show(tbO x m).bind _=(tbO x m).bind _;congr 1;funext c m';exact qgM
 |_=>rfl
@[simp] theorem quo:qaP F .brk ρ μ= .ok (.bk ρ) μ:=rfl
@[simp] theorem qun:qaP F .cnt ρ μ= .ok (.ct ρ) μ:=rfl
@[simp] theorem qrL{c:Str}:qaP F (.raise c) ρ μ= .ex c μ:=rfl
@[simp] theorem quj{o i e:CE}:qaP F (.put o i e) ρ μ=(qab F e ρ μ).bind λv μ=>(qab F o ρ μ).bind λo μ=>(qab F i ρ μ).bind λi μ=>match qn7 μ o i v with
 |some q=>if μ.live q.1=true then .ok (.nx ρ) (μ.put q.1 q.2) else .no
 |none=>.no:=rfl
@[simp] theorem quk{is:List Nat}{es:List CE}:qaP F (.par is es) ρ μ=(runA F es ρ μ).bind λts μ=>match qa7 is ts ρ with|some ae=>.ok (.nx ae) μ|none=>.no:=rfl
@[simp] theorem qul{cs:List Str}{f:Str}{o e:CE}:qaP F (.fld cs f o e) ρ μ=(qab F e ρ μ).bind λt μ=>(qab F o ρ μ).bind λo μ=>(quN (λc _=>cs.contains c) f t o μ).bind λ_ μ=>.ok (.nx ρ) μ:=rfl
theorem qpl{g:CG}{it:CI}{b:List CS}:qaP F (.for_ g it b) ρ μ=(runI F it ρ μ).bind λit μ=>qrT (qbS g) (runSs F b) it ρ μ:=rfl
@[simp] theorem quh:qa7 [] [] ρ=some ρ:=rfl
@[simp] theorem qsi{i:Nat}{is:List Nat}{t:T}{ts:List T}:qa7 (i::is) (t::ts) ρ=qa7 is ts (ρ.set i (some t)):=rfl
@[simp] theorem qwl{i:Nat}{t:T}:qbS (.n i) t ρ μ= .ok (ρ.set i (some t)) μ:=rfl
@[simp] theorem quv{gs:List CG}{ts:List T}:qbS (.tup gs) (.tup ts) ρ μ=if ts.length=gs.length then runGs gs ts ρ μ else .no:=rfl
@[simp] theorem qsv:runGs [] [] ρ μ= .ok ρ μ:=rfl
@[simp] theorem qrM{g:CG}{gs:List CG}{t:T}{ts:List T}:runGs (g::gs) (t::ts) ρ μ=(qbS g t ρ μ).bind (runGs gs ts):=rfl
@[simp] theorem qaM:runA F [] ρ μ= .ok [] μ:=rfl
@[simp] theorem qaD{e:CE}{es:List CE}:runA F (e::es) ρ μ=(qab F e ρ μ).bind λx μ=>(runA F es ρ μ).bind λxs μ=>.ok (x::xs) μ:=rfl
@[simp] theorem qrN{i:Nat}:qab F (.v i) ρ μ=lk ρ[i]? μ:=by
 show dV i ρ μ=_;unfold dV
 rcases ρ[i]? with _|_|_<;>rfl
@[simp] theorem qm7{t:T}:qab F (.c t) ρ μ= .ok t μ:=rfl
@[simp] theorem quw{es:List CE}:qab F (.tup es) ρ μ=(runA F es ρ μ).bind λxs μ=>if xs.length<=1000 then .ok (.tup xs) μ else .no:=rfl
@[simp] theorem qiz{es:List CE}:qab F (.lst false es) ρ μ=(runA F es ρ μ).bind λxs μ=>if xs.length<=1000 then .ok (.lst xs) μ else .no:=by
 show((runA F es ρ μ).bind λxs μ=>if xs.length<=1000 then R.ok (Ct.ls xs) μ else .no).bind fzC=_;cases runA F es ρ μ with
 |ok x m=>show(if x.length<=1000 then R.ok (Ct.ls x) m else .no).bind fzC=if x.length<=1000 then R.ok (T.lst x) m else .no;split<;>rfl
 |_=>rfl
@[simp] theorem qm6{es:List CE}:qab F (.lst true es) ρ μ=(runA F es ρ μ).bind λxs μ=>if xs.length<=1000 then .ok (.obj μ.l.length) (μ.add (.ls xs)) else .no:=by
 show((runA F es ρ μ).bind λxs μ=>if xs.length<=1000 then R.ok (Ct.ls xs) μ else .no).bind (λc μ=>R.ok (T.obj μ.l.length) (μ.add c))=_;cases runA F es ρ μ with
 |ok x m=>show(if x.length<=1000 then R.ok (Ct.ls x) m else .no).bind (λc μ=>R.ok (T.obj μ.l.length) (μ.add c))=if x.length<=1000 then R.ok (T.obj m.l.length) (m.add (.ls x)) else .no;split<;>rfl
 |_=>rfl
@[simp] theorem qiA:qab F (.dct true) ρ μ= .ok (.obj μ.l.length) (μ.add (.dk [])):=rfl
@[simp] theorem qsC:qab F (.dct false) ρ μ= .ok (.dct []) μ:=rfl
@[simp] theorem qeI{ow:Bool}{o:O2}{a b:CE}:qab F (.o2 ow o a b) ρ μ=(qab F a ρ μ).bind λx μ=>(qab F b ρ μ).bind λy μ=>nvR ow (o.g μ x y) μ:=rfl
@[simp] theorem qux{a:CE}:qab F (.neg a) ρ μ=(qab F a ρ μ).bind qqL:=rfl
@[simp] theorem qrS{i:Int}{μ:Mu}:qqL (.int i) μ= .ok (.int (-i)) μ:=rfl
@[simp] theorem qsz{a:CE}:qab F (.nt a) ρ μ=(qab F a ρ μ).bind λx μ=>(tbO x μ).bind λc μ=>.ok (.bl (!c)) μ:=by show((qab F a ρ μ).bind λt μ=>tbO t μ).bind _=_;cases qab F a ρ μ<;>rfl
@[simp] theorem quA{a b:CE}:qab F (.and a b) ρ μ=(qab F a ρ μ).bind λx μ=>(tbO x μ).bind λc μ=>if c=true then qab F b ρ μ else .ok (.bl false) μ:=by
 show((qab F a ρ μ).bind λt μ=>tbO t μ).bind _=_;cases qab F a ρ μ with
 |ok x m=>show(tbO x m).bind _=(tbO x m).bind _;congr 1;funext c m';exact qgM
 |_=>rfl
@[simp] theorem qkG{a b:CE}:qab F (.or a b) ρ μ=(qab F a ρ μ).bind λx μ=>(tbO x μ).bind λc μ=>if c=true then .ok (.bl true) μ else qab F b ρ μ:=by
 show((qab F a ρ μ).bind λt μ=>tbO t μ).bind _=_;cases qab F a ρ μ with
 |ok x m=>show(tbO x m).bind _=(tbO x m).bind _;congr 1;funext c m';exact qgM
 |_=>rfl
@[simp] theorem quy{t a b:CE}:qab F (.ife t a b) ρ μ=(qab F t ρ μ).bind λx μ=>(tbO x μ).bind λc μ=>if c=true then qab F a ρ μ else qab F b ρ μ:=by
 show((qab F t ρ μ).bind λt μ=>tbO t μ).bind _=_;cases qab F t ρ μ with
 |ok x m=>show(tbO x m).bind _=(tbO x m).bind _;congr 1;funext c m';exact qgM
 |_=>rfl
@[simp] theorem qkH{o p:O2}{a b c:CE}:qab F (.chain o p a b c) ρ μ=(qab F a ρ μ).bind λx μ=>(qab F b ρ μ).bind λy μ=>(nvR false (o.g μ x y) μ).bind λz μ=>(tbO z μ).bind λk μ=>if k=true then(qab F c ρ μ).bind λw μ=>nvR false (p.g μ y w) μ else .ok (.bl false) μ:=rfl
@[simp] theorem qhn{ow:Bool}{b:Bn}{es:List CE}:qab F (.bn ow b es) ρ μ=(runA F es ρ μ).bind λts μ=>nvR ow (b.g μ ts) μ:=rfl
@[simp] theorem qvt{ow:Bool}{b:Bm}{o:CE}{es:List CE}:qab F (.bm ow b o es) ρ μ=(qab F o ρ μ).bind λo μ=>if qk2 μ o=b.ty then(runA F es ρ μ).bind λts μ=>nvR ow (b.g μ (o::ts)) μ else .no:=rfl
@[simp] theorem qsB{N:String}{a:CE}:qab F (.inst N a) ρ μ=(qab F a ρ μ).bind λx μ=>qdi N x μ:=rfl
@[simp] theorem qiy{ow:Bool}{a:CE}:qab F (.sset ow a) ρ μ=(qab F a ρ μ).bind λx μ=>nvR ow (qhG μ x) μ:=rfl
@[simp] theorem qm5{a:CE}:qab F (.slen a) ρ μ=(qab F a ρ μ).bind λx μ=>nvR false (qaN μ x) μ:=rfl
@[simp] theorem qsy{ow:Bool}{a:CE}{lo hi:Option CE}:qab F (.sl ow a lo hi) ρ μ=(qab F a ρ μ).bind λx μ=>(runO F lo ρ μ).bind λl μ=>(runO F hi ρ μ).bind λh μ=>nvR ow (gSl μ x l h) μ:=rfl
@[simp] theorem qm3:runO F none ρ μ= .ok none μ:=rfl
def asI:T->Mu->R (Option Int)
 |.int i,μ=>.ok (some i) μ
 |_,_=>.no
@[simp] theorem qoI{i:Int}:asI (.int i) μ= .ok (some i) μ:=rfl
@[simp] theorem qm2{e:CE}:runO F (some e) ρ μ=(qab F e ρ μ).bind asI:=by
 show(qab F e ρ μ).bind (λt μ=>match t with|.int i=>R.ok (some i) μ|_=>.no)=_
 congr 1;funext t m;unfold asI;cases t<;>rfl
@[simp] theorem qbH{i:Nat}{es:List CE}:qab F (.call i es) ρ μ=(runA F es ρ μ).bind λts μ=>F i ts μ:=rfl
@[simp] theorem qsA{c:Str}{i:Nat}{es:List CE}:qab F (.make c i es) ρ μ=(runA F es ρ μ).bind λts μ=>mkR c (F i) ts μ:=rfl
@[simp] theorem quz{cs:List Str}{f:Str}{o:CE}:qab F (.fld cs f o) ρ μ=(qab F o ρ μ).bind λo μ=>quM (λc _=>cs.contains c) f o μ:=rfl
@[simp] theorem qsx{ow:Bool}{b:KB}{a:CE}:qab F (.srtK ow b a) ρ μ=(qab F a ρ μ).bind λx μ=>nvR ow (qcr b μ x) μ:=rfl
theorem qpm{a b:CE}:qab F (.alt a b) ρ μ=qrh (qab F a) (qab F b) ρ μ:=rfl
theorem qm8{a b:CE}{t:T}{m:Mu}(h:qab F a ρ μ= .ok t m):qab F (.alt a b) ρ μ= .ok t m:=by rw[qpm];unfold qrh;rw[h]
@[simp] theorem qh0{ow:Bool}{t:T}{μ:Mu}:nvR ow (some (.v t)) μ= .ok t μ:=rfl
@[simp] theorem qvu{ow:Bool}{ts:List T}{μ:Mu}:nvR ow (some (.t ts)) μ= .ok (.tup ts) μ:=rfl
@[simp] theorem qsW{ts:List T}{μ:Mu}:nvR false (some (.l ts)) μ= .ok (.lst ts) μ:=rfl
@[simp] theorem qvv{ts:List T}{μ:Mu}:nvR true (some (.l ts)) μ= .ok (.obj μ.l.length) (μ.add (.ls ts)):=rfl
@[simp] theorem qvw{ts:List (Key×T)}{μ:Mu}:nvR false (some (.d ts)) μ= .ok (.dct ts) μ:=rfl
theorem qqc{ow:Bool}{k:Nat}{c:Ct}{t:T}{μ:Mu}(h:μ.live k=true):nvR ow (some (.p k c t)) μ= .ok t (μ.put k c):=by show(if μ.live k=true then _ else _)=_;rw[if_pos h]
@[simp] theorem qv0{i j:Int}:O2.g .add μ (.int i) (.int j)=some (.v (.int (i+j))):=rfl
@[simp] theorem qvP{i j:Int}:O2.g .sub μ (.int i) (.int j)=some (.v (.int (i - j))):=rfl
@[simp] theorem qtg{i j:Int}:O2.g .mul μ (.int i) (.int j)=if(-4294967296<=i/\i<=4294967296)\/(-4294967296<=j/\j<=4294967296) then some (.v (.int (i*j))) else none:=rfl
@[simp] theorem qvZ{i j:Int}:O2.g .div μ (.int i) (.int j)=if 0<j/\j<1073741824 then some (.v (.int (i / j))) else none:=rfl
@[simp] theorem qvQ{i j:Int}:O2.g .mod μ (.int i) (.int j)=if 0<j then some (.v (.int (i % j))) else none:=rfl
@[simp] theorem qwn{i j:Int}:O2.g .lt μ (.int i) (.int j)=some (.v (.bl (decide (i<j)))):=rfl
@[simp] theorem qvT{i j:Int}:O2.g .le μ (.int i) (.int j)=some (.v (.bl (decide (i<=j)))):=rfl
@[simp] theorem qwo{i j:Int}:O2.g .gt μ (.int i) (.int j)=some (.v (.bl (decide (j<i)))):=rfl
@[simp] theorem qwp{i j:Int}:O2.g .ge μ (.int i) (.int j)=some (.v (.bl (decide (j<=i)))):=rfl
@[simp] theorem qvR{i j:Str}:O2.g .lt μ (.str i) (.str j)=some (.v (.bl (qhh i j))):=rfl
@[simp] theorem qvS{i j:Str}:O2.g .le μ (.str i) (.str j)=some (.v (.bl (!qhh j i))):=rfl
@[simp] theorem quK{i j:Str}:O2.g .add μ (.str i) (.str j)=if i.length+j.length<=100000 then some (.v (.str (i++j))) else none:=rfl
@[simp] theorem qqI{x:T}{xs:List T}{y:T}{ys:List T}:O2.g .add μ (.tup (x::xs)) (.tup (y::ys))=if xs.length+ys.length<=900 then some (.t (x::xs++y::ys)) else none:=rfl
@[simp] theorem qto{ys:List T}:O2.g .add μ (.tup []) (.tup ys)=some (.v (.tup ys)):=rfl
@[simp] theorem qn6{x:T}{xs:List T}:O2.g .add μ (.tup (x::xs)) (.tup [])=if xs.length<=900 then some (.v (.tup (x::xs))) else none:=rfl
theorem qrR{a b:T}(h:okT 8 (dr1 μ a)=true)(h':okT 8 (dr1 μ b)=true):O2.g .eq μ a b=some (.v (.bl (eqT (dr1 μ a) (dr1 μ b)))):=by show qmi false μ a b=_;unfold qmi;rw[if_pos ⟨h,h'⟩];rfl
theorem quJ{a b:T}(h:okT 8 (dr1 μ a)=true)(h':okT 8 (dr1 μ b)=true):O2.g .ne μ a b=some (.v (.bl (!eqT (dr1 μ a) (dr1 μ b)))):=by show qmi true μ a b=_;unfold qmi;rw[if_pos ⟨h,h'⟩];rfl
theorem qtl{a b t:T}(h:okT 8 t=true)(ha:dr1 μ a=t)(hb:dr1 μ b=t):O2.g .eq μ a b=some (.v (.bl true)):=by rw[qrR (by rw[ha];exact h) (by rw[hb];exact h),ha,hb,qcJ _ _ h]
theorem qlj{a b t:T}(h:okT 8 t=true)(ha:dr1 μ a=t)(hb:dr1 μ b=t):O2.g .ne μ a b=some (.v (.bl false)):=by rw[quJ (by rw[ha];exact h) (by rw[hb];exact h),ha,hb,qcJ _ _ h];rfl
theorem qc9{α:Type}[BEq α][LawfulBEq α][DecidableEq α](a b:α):(a==b)=decide (a=b):=by by_cases h:a=b<;>simp[h]
@[simp] theorem qvY{i j:Int}:O2.g .eq μ (.int i) (.int j)=some (.v (.bl (decide (i=j)))):=by rw[qrR rfl rfl];show some (Nv.v (.bl (i==j)))=_;rw[qc9]
@[simp] theorem qn5{i j:Int}:O2.g .ne μ (.int i) (.int j)=some (.v (.bl (!decide (i=j)))):=by rw[quJ rfl rfl];show some (Nv.v (.bl (!(i==j))))=_;rw[qc9]
@[simp] theorem qvX{i j:Str}:O2.g .eq μ (.str i) (.str j)=some (.v (.bl (decide (i=j)))):=by rw[qrR rfl rfl];show some (Nv.v (.bl (i==j)))=_;rw[qc9]
@[simp] theorem qtm{ns:List Int}:O2.g .eq μ (.scr ns) (.lst [])=some (.v (.bl ns.isEmpty)):=rfl
def ixT{α:Type}(ts:List α)(i:Int):Option α:=if 0<=i then ts[i.toNat]? else if 0<=(ts.length:Int)+i then ts[((ts.length:Int)+i).toNat]? else none
theorem qda{α:Type}(ts:List α)(i:Int):atI ts i=ixT ts i:=by
 unfold atI ixN ixT;by_cases h:0<=i
 ·rw[if_pos h,if_pos h];split
  ·rfl
  ·rw[List.getElem?_eq_none_iff.mpr (by omega)];rfl
 ·rw[if_neg h,if_neg h];by_cases h2:0<=(ts.length:Int)+i
  ·rw[if_pos (by omega),if_pos h2,Int.add_comm];rfl
  ·rw[if_neg (by omega),if_neg h2];rfl
@[simp] theorem qvU{ts:List T}{i:Int}:O2.g .ix μ (.tup ts) (.int i)=(ixT ts i).map .v:=by rw[<-qda];rfl
@[simp] theorem qvW{ts:List T}{i:Int}:O2.g .ix μ (.lst ts) (.int i)=(ixT ts i).map .v:=by rw[<-qda];rfl
@[simp] theorem qth{ns:List Int}{i:Int}:O2.g .ix μ (.scr ns) (.int i)=(ixT ns i).map λn=>.v (.int n):=by
 show(atI (ns.map T.int) i).map Nv.v=_;rw[qda];unfold ixT;simp only[List.getElem?_map,List.length_map];split
 ·rw[Option.map_map];rfl
 ·split
  ·rw[Option.map_map];rfl
  ·rfl
theorem qbc{α:Type}{ts:List α}{i:Int}(h:0<=i):ixT ts i=ts[i.toNat]? :=by unfold ixT;rw[if_pos h]
@[simp] theorem qvC{α:Type}{ts:List α}:ixT ts 0=ts[0]? :=qbc (by omega)
@[simp] theorem qvB{α:Type}{ts:List α}:ixT ts 1=ts[1]? :=qbc (by omega)
@[simp] theorem qvA{α:Type}{ts:List α}:ixT ts 2=ts[2]? :=qbc (by omega)
@[simp] theorem qvz{α:Type}{ts:List α}:ixT ts 3=ts[3]? :=qbc (by omega)
theorem qti{z:Str}{i:Int}(h:z.length<=1000):O2.g .ix μ (.str z) (.int i)=(ixT z.cps.toList i).map λc=>.v (.str ⟨#[c]⟩):=by show(if z.length<=1000 then _ else _)=_;rw[if_pos h,qda]
theorem qvV{k:Nat}{ts:List T}{i:Int}(h:μ.l[k]? =some (.ls ts)):O2.g .ix μ (.obj k) (.int i)=(ixT ts i).map .v:=by
 show(match qcm μ (.obj k) with|some q=>(atI q.2 i).map Nv.v|none=>gDG μ (.obj k) (.int i))=_;have e:qcm μ (.obj k)=some (true,ts):=by show sqv μ (.obj k)=_;simp only[sqv,h]
 rw[e];show(atI ts i).map Nv.v=_;rw[qda]
theorem qqG{k:Nat}{kvs:List (List Key×T)}{y:T}{q:List Key}(h:μ.l[k]? =some (.du kvs))(hk:qke y=some q):O2.g .ix μ (.obj k) y=(qde kvs q).map .v:=by
 have e0:qbM y=none:=by cases y<;>first|rfl|cases hk
 have e1:dkv μ (.obj k)=none:=by simp only[dkv,h]
 have e2:duv μ (.obj k)=some kvs:=by simp only[duv,h]
 have e:gDG μ (.obj k) y=(qde kvs q).map .v:=by unfold gDG qjz;rw[e1,e2,hk];rfl
 cases y with
 |tup ts=>exact e
 |_=>cases hk
theorem qtj{k:Nat}{kvs:List (Key×T)}{y:T}{q:Key}(h:μ.l[k]? =some (.dk kvs))(hk:qbM y=some q):O2.g .ix μ (.obj k) y=(qde kvs q).map .v:=by
 have e1:dkv μ (.obj k)=some kvs:=by simp only[dkv,h]
 have e:gDG μ (.obj k) y=(qde kvs q).map .v:=by unfold gDG qjz;rw[e1,hk];rfl
 cases y with
 |int i=>
  show(match qcm μ (.obj k) with|some q=>(atI q.2 i).map Nv.v|none=>gDG μ (.obj k) (.int i))=_;have e2:qcm μ (.obj k)=none:=by show sqv μ (.obj k)=_;simp only[sqv,h]
  rw[e2];exact e
 |str s=>exact e
 |_=>cases hk
@[simp] theorem qrC{ts:List T}:Bn.g .len μ [.lst ts]=some (.v (.int ts.length)):=rfl
@[simp] theorem quZ{ts:List T}:Bn.g .len μ [.tup ts]=some (.v (.int ts.length)):=rfl
@[simp] theorem qrV{ns:List Int}:Bn.g .len μ [.scr ns]=some (.v (.int ns.length)):=by show some (Nv.v (.int (ns.map T.int).length))=_;rw[List.length_map]
theorem qrB{z:Str}(h:z.length<=100000):Bn.g .len μ [.str z]=some (.v (.int z.length)):=if_pos h
theorem qjZ{k:Nat}{ts:List T}(h:μ.l[k]? =some (.ls ts)):Bn.g .len μ [.obj k]=some (.v (.int ts.length)):=by
 have e:qcm μ (.obj k)=some (true,ts):=by show sqv μ (.obj k)=_;simp only[sqv,h]
 show qqM μ [.obj k]=_;simp only[qqM,e]
@[simp] theorem qrA{i j:Int}:Bn.g .max μ [.int i,.int j]=some (.v (.int (max i j))):=by
 show some (Nv.v (.int (if j>i then j else i)))=_
 congr 3;split<;>omega
@[simp] theorem qry{i j:Int}:Bn.g .min μ [.int i,.int j]=some (.v (.int (min i j))):=by
 show some (Nv.v (.int (if j<i then j else i)))=_
 congr 3;split<;>omega
theorem qch(xs:List Int):qa4 (xs.map T.int)=some xs:=by
 induction xs with
 |nil=>rfl
 |cons x xs ih=>show(qa4 (xs.map T.int)).map _=_;rw[ih];rfl
theorem qdJ(xs:List Str):qbp (xs.map T.str)=some xs:=by
 induction xs with
 |nil=>rfl
 |cons x xs ih=>show(qbp (xs.map T.str)).map _=_;rw[ih];rfl
theorem qj3(xs:List Bool):qer (xs.map T.bl)=some xs:=by
 induction xs with
 |nil=>rfl
 |cons x xs ih=>show(qer (xs.map T.bl)).map _=_;rw[ih];rfl
@[simp] theorem qt5{bs:List Bool}:Bn.g .all μ [.lst (bs.map T.bl)]=some (.v (.bl (bs.all id))):=by show((qer (bs.map T.bl))).map _=_;rw[qj3];rfl
@[simp] theorem qt3{bs:List Int}:Bn.g .sum μ [.lst (bs.map T.int)]=some (.v (.int bs.sum)):=by show((qa4 (bs.map T.int))).map _=_;rw[qch];rfl
@[simp] theorem qrx{ts:List T}:Bn.g .tup μ [.lst ts]=some (.t ts):=rfl
@[simp] theorem quY{ts:List T}:Bn.g .tup μ [.tup ts]=some (.v (.tup ts)):=rfl
@[simp] theorem qvL{N:String}{i:Int}:qdi N (.int i) μ= .ok (.bl (qi1 N "int")) μ:=rfl
@[simp] theorem qwm{N:String}{i:Bool}:qdi N (.bl i) μ= .ok (.bl (qi1 N "bool")) μ:=rfl
@[simp] theorem qvI{N:String}{i:Str}:qdi N (.str i) μ= .ok (.bl (qi1 N "str")) μ:=rfl
@[simp] theorem qvH{N:String}{i:List T}:qdi N (.tup i) μ= .ok (.bl (qi1 N "tuple")) μ:=rfl
@[simp] theorem qvK{N:String}{i:List T}:qdi N (.lst i) μ= .ok (.bl (qi1 N "list")) μ:=rfl
@[simp] theorem qvJ{N:String}:qdi N .non μ= .ok (.bl (qi1 N "NoneType")) μ:=rfl
end
section
variable {F:Fs}{μ:Mu}
theorem qhC{t:T}:leave μ (.ok t μ)= .ok t μ:=if_pos rfl
theorem qaH{c:Fcd}{ts:List T}{t:T}(hl:ts.length=c.n)(h:(runSs F c.b (ts.map some++List.replicate (c.N - c.n) none) μ).bind outT= .ok t μ):c.run F ts μ= .ok t μ:=by
 unfold Fcd.run fnR;rw[if_pos hl,h];unfold lv;split
 ·rfl
 ·exact qhC
theorem qeT{m:Mu}{t t':T}{cs:List Ct}{ks:List (Nat×Nat)}(hl:m.l=μ.l++cs)(hk:m.k=ks++μ.k)(hc:cs≠[])(cA: ∀p∈ks,μ.l.length<=p.1)(hz:fzT μ.l.length m.l 3 t=some t'):leave μ (.ok t m)= .ok t' μ:=by
 have e0:m.l.length≠μ.l.length:=by rw[hl,List.length_append];have:=List.length_pos_iff.mpr hc;omega
 have e1:μ.nw m=ks:=by unfold Mu.nw;rw[hk,List.length_append];simp
 have e2:μ.apart m=true:=by unfold Mu.apart;rw[e1,hk,hl];simp only[Bool.and_eq_true,decide_eq_true_eq,List.length_append,List.all_eq_true];refine⟨⟨by omega,by simp⟩,λp hp=>.inl (cA p hp)⟩
 have e3:μ.back m=μ:=by
  unfold Mu.back;rw[e1,hl];have:ks.filter (λp=>decide (p.1<μ.l.length))=[]:=List.filter_eq_nil_iff.mpr λp hp=>by have:=cA p hp;simp;omega
  rw[this];simp
 show(if m.l.length=μ.l.length then _ else _)=_;rw[if_neg e0,if_pos e2,hz];show R.ok t' (μ.back m)=_;rw[e3]
theorem qje{n:Nat}{l:List Ct}{d:Nat}{t:T}(h:ub t<=n):fzT n l d t=some t:=by cases d<;>(unfold fzT;rw[if_pos h])
end
section
variable {F:Fs}{ρ:Ro}{μ:Mu}
def Its(μ:Mu)(it:Ito)(ts:List T):Prop:=(∀i,nxt it μ i=some ts[i]?)/\qbN it μ=ts.length
def qcA(F:Fs)(ci:CI)(ρ:Ro)(μ:Mu)(ts:List T):Prop:= ∃it,runI F ci ρ μ= .ok it μ/\Its μ it ts
def itv(μ:Mu):T->Option (List T)
 |.lst ts=>some ts
 |.tup ts=>some ts
 |.obj k=>(match μ.l[k]? with|some (.ls ts)=>some ts|_=>none)
 |.str z=>if z.length<=1000 then some (z.cps.toList.map λc=>.str ⟨#[c]⟩) else none
 |_=>none
@[simp] theorem qs8{ts:List T}:itv μ (.lst ts)=some ts:=rfl
@[simp] theorem qs7{ts:List T}:itv μ (.tup ts)=some ts:=rfl
theorem qnZ{k:Nat}{ts:List T}(h:μ.l[k]? =some (.ls ts)):itv μ (.obj k)=some ts:=by simp only[itv,h]
theorem qgL{ts:List T}:Its μ (.fx ts) ts:=⟨λ_=>rfl,rfl⟩
theorem qqy{k:Nat}{ts:List T}(h:μ.l[k]? =some (.ls ts)):Its μ (.lv k) ts:=⟨λi=>by simp only[nxt,h],by simp only[qbN,h]⟩
theorem qa1{e:CE}{t:T}{ts:List T}(he:qab F e ρ μ= .ok t μ)(ht:itv μ t=some ts):qcA F (.gen e) ρ μ ts:=by
 have e0:runI F (.gen e) ρ μ=qme t μ:=by show(qab F e ρ μ).bind (λt μ=>qme t μ)=_;rw[he];rfl
 unfold qcA;rw[e0];cases t with
 |lst _|tup _=>cases ht;exact⟨_,rfl,qgL⟩
 |str z=>
  simp only[itv] at ht;split at ht
  ·rename_i hz;cases ht;exact⟨_,if_pos hz,qgL⟩
  ·cases ht
 |obj k=>
  simp only[itv] at ht;split at ht
  ·rename_i q;cases ht;exact⟨.lv k,by simp only[qme,q],qqy q⟩
  ·cases ht
 |_=>cases ht
theorem qtc{e:CE}{n:Nat}(he:qab F e ρ μ= .ok (.int n) μ)(hn:n<=1000000):qcA F (.by_ .rng1 [e]) ρ μ ((List.range n).map λk=>.int (k:Nat)):=by refine⟨.fx ((List.range n).map λk=>.int (k:Nat)),?_,qgL⟩;show(runA F [e] ρ μ).bind (λts μ=>qco ts μ)=_;simp only[qaD,qaM,he,qac,qco];rw[if_pos ⟨by omega,by omega⟩];rfl
section
variable {α:Type}{l:List α}{f:α->T}{p:α->Bool}{h:α->T}
theorem qel {dg:T->DS0 Ro} {dt:DS0 Bool} {de:DS0 T} {I:Ro->Prop} {it:Ito} (hn: ∀i,nxt it μ i=some (l.map f)[i]?)
  (hs: ∀a∈l,∀ρ,I ρ->∃ae,I ae/\dg (f a) ρ μ= .ok ae μ/\dt ae μ= .ok (p a) μ/\(p a=true->de ae μ= .ok (h a) μ)):
  ∀(n i:Nat) (ρ:Ro),l.length<=n+i->I ρ->qaV it dg dt de n i ρ μ= .ok (((l.drop i).filter p).map h) μ
 |0,i,ρ,hl,hI=>by have e:(l.map f)[i]? =none:=List.getElem?_eq_none_iff.mpr (by rw[List.length_map];omega);simp only[qaV,hn,e];rw[List.drop_eq_nil_of_le (by omega)];rfl
 |n+1,i,ρ,hl,hI=>by
  simp only[qaV,hn];by_cases hi:i<l.length
  ·rw[List.getElem?_map,List.getElem?_eq_getElem hi];obtain⟨ae,i1,e1,e2,e3⟩:=hs l[i] (List.getElem_mem hi) ρ hI;simp only[Option.map_some,e1,e2,qac];rw[List.drop_eq_getElem_cons hi];cases q:p l[i] with
   |true=>rw[if_pos rfl,e3 q,qac,qel hn hs n (i+1) ae (by omega) i1,List.filter_cons_of_pos q];rfl
   |false=>rw[if_neg (by decide),qel hn hs n (i+1) ae (by omega) i1,List.filter_cons_of_neg (by rw[q];decide)]
  ·rw[List.getElem?_eq_none_iff.mpr (by rw[List.length_map];omega),List.drop_eq_nil_of_le (by omega)];rfl
theorem qek {x:Bool} {n:Nat} {fr:List Nat} {g:CG} {ci:CI} {t:Option CE} {e:CE} {I:Ro->Prop} (hi:qcA F ci ρ μ (l.map f)) (h0:I (qbl n fr ρ))
  (hs: ∀a∈l,∀ρ,I ρ->∃ae,I ae/\qbS g (f a) ρ μ= .ok ae μ/\runT F t ae μ= .ok (p a) μ/\(p a=true->qab F e ae μ= .ok (h a) μ)):
  qcd x n fr (runI F ci) (qbS g) (runT F t) (qab F e) ρ μ= .ok (.ls ((l.filter p).map h)) μ:=by obtain⟨it,e1,hn,hl⟩:=hi;unfold qcd dSq;rw[e1,qac];unfold qrj;rw[qgU,qel hn hs _ 0 _ (by rw[hl,List.length_map];omega) h0];cases x<;>rfl
theorem qjB{x:Bool}{n:Nat}{fr:List Nat}{g:CG}{ci:CI}{t:Option CE}{e:CE}{ts:List T}(h:qcd x n fr (runI F ci) (qbS g) (runT F t) (qab F e) ρ μ= .ok (.ls ts) μ):qab F (.comp false x n fr g ci t e) ρ μ= .ok (.lst ts) μ:=by show(qcd x n fr (runI F ci) (qbS g) (runT F t) (qab F e) ρ μ).bind (λc μ=>fzC c μ)=_;rw[h];rfl
abbrev frO(fr:List Nat)(ρ:Ro):Ro:=fr.map λi=>(ρ[i]?).join
variable (l f p h)
theorem qhQ {x:Bool} {fr:List Nat} {ci:CI} {t:Option CE} {e:CE} (hi:qcA F ci ρ μ (l.map f)) (ht: ∀a∈l,runT F t (some (f a)::frO fr ρ) μ= .ok (p a) μ) (he: ∀a∈l,p a=true->qab F e (some (f a)::frO fr ρ) μ= .ok (h a) μ):
  qab F (.comp false x 1 fr (.n 0) ci t e) ρ μ= .ok (.lst ((l.filter p).map h)) μ:=
 qjB (qek (I:=λσ=> ∃y,σ=y::frO fr ρ) hi ⟨none,rfl⟩ λa ha σ ⟨y,e⟩=>⟨_,⟨_,rfl⟩,by rw[e];rfl,ht a ha,he a ha⟩)
theorem qaR {x:Bool} {fr:List Nat} {ci:CI} {e:CE} (hi:qcA F ci ρ μ (l.map f)) (he: ∀a∈l,qab F e (some (f a)::frO fr ρ) μ= .ok (h a) μ):
  qab F (.comp false x 1 fr (.n 0) ci none e) ρ μ= .ok (.lst (l.map h)) μ:=by
 have:=qhQ l f (λ_=>true) h (x:=x) (t:=none) hi (λ_ _=>rfl) λa ha _=>he a ha
 rwa [List.filter_eq_self.mpr λ_ _=>rfl] at this
theorem qtY {x:Bool} {fr:List Nat} {ci:CI} {t:Option CE} {e:CE} {u v:α->T} (hi:qcA F ci ρ μ (l.map λa=>.tup [u a,v a])) (ht: ∀a∈l,runT F t (some (u a)::some (v a)::frO fr ρ) μ= .ok (p a) μ) (he: ∀a∈l,p a=true->qab F e (some (u a)::some (v a)::frO fr ρ) μ= .ok (h a) μ):
  qab F (.comp false x 2 fr (.tup [.n 0,.n 1]) ci t e) ρ μ= .ok (.lst ((l.filter p).map h)) μ:=
 qjB (qek (I:=λσ=> ∃y z,σ=y::z::frO fr ρ) hi ⟨none,none,rfl⟩ λa ha σ ⟨y,z,e⟩=>⟨_,⟨_,_,rfl⟩,by rw[e];rfl,ht a ha,he a ha⟩)
theorem qrl {x:Bool} {fr:List Nat} {ci:CI} {e:CE} {u v:α->T} (hi:qcA F ci ρ μ (l.map λa=>.tup [u a,v a])) (he: ∀a∈l,qab F e (some (u a)::some (v a)::frO fr ρ) μ= .ok (h a) μ):
  qab F (.comp false x 2 fr (.tup [.n 0,.n 1]) ci none e) ρ μ= .ok (.lst (l.map h)) μ:=by
 have:=qtY l (λ_=>true) h (x:=x) (t:=none) hi (λ_ _=>rfl) λa ha _=>he a ha
 rwa [List.filter_eq_self.mpr λ_ _=>rfl] at this
theorem qtX {x:Bool} {fr:List Nat} {ci:CI} {t:Option CE} {e:CE} {u v w:α->T} (hi:qcA F ci ρ μ (l.map λa=>.tup [u a,v a,w a])) (ht: ∀a∈l,runT F t (some (u a)::some (v a)::some (w a)::frO fr ρ) μ= .ok (p a) μ) (he: ∀a∈l,p a=true->qab F e (some (u a)::some (v a)::some (w a)::frO fr ρ) μ= .ok (h a) μ):
  qab F (.comp false x 3 fr (.tup [.n 0,.n 1,.n 2]) ci t e) ρ μ= .ok (.lst ((l.filter p).map h)) μ:=
 qjB (qek (I:=λσ=> ∃y z o,σ=y::z::o::frO fr ρ) hi ⟨none,none,none,rfl⟩ λa ha σ ⟨y,z,o,e⟩=>⟨_,⟨_,_,_,rfl⟩,by rw[e];rfl,ht a ha,he a ha⟩)
theorem qrk {x:Bool} {fr:List Nat} {ci:CI} {e:CE} {u v w:α->T} (hi:qcA F ci ρ μ (l.map λa=>.tup [u a,v a,w a])) (he: ∀a∈l,qab F e (some (u a)::some (v a)::some (w a)::frO fr ρ) μ= .ok (h a) μ):
  qab F (.comp false x 3 fr (.tup [.n 0,.n 1,.n 2]) ci none e) ρ μ= .ok (.lst (l.map h)) μ:=by
 have:=qtX l (λ_=>true) h (x:=x) (t:=none) hi (λ_ _=>rfl) λa ha _=>he a ha
 rwa [List.filter_eq_self.mpr λ_ _=>rfl] at this
end
@[simp] theorem qsr:runT F none ρ μ= .ok true μ:=rfl
@[simp] theorem qsq{e:CE}:runT F (some e) ρ μ=(qab F e ρ μ).bind tbO:=rfl
def qvO:Out->Option Ro
 |.nx ρ=>some ρ
 |.ct ρ=>some ρ
 |_=>none
theorem qjh {α:Type} {l:List α} {f:α->T} {dg:T->DS0 Ro} {db:DS0 Out} {it:Ito} (J:List α->Ro->Mu->Prop) (hn: ∀d r ρ μ,l=d++r->J d ρ μ->nxt it μ d.length=some (r.map f)[0]?)
  (hs: ∀d a r,l=d++a::r->∀ρ μ,J d ρ μ->∃aB ah o ak aD,dg (f a) ρ μ= .ok aB ah/\db aB ah= .ok o ak/\qvO o=some aD/\J (d++[a]) aD ak):
  ∀(r d:List α) (n:Nat) (ρ:Ro) (μ:Mu),l=d++r->r.length<=n->J d ρ μ->∃ae aa,qe4 it dg db n d.length ρ μ= .ok (.nx ae) aa/\J l ae aa
 |[],d,n,ρ,μ,hl,hr,hJ=>by have e:=hn d [] ρ μ hl hJ;refine⟨ρ,μ,?_,by rw[hl,List.append_nil];exact hJ⟩;cases n<;>(simp only[qe4,e];rfl)
 |a::r,d,n,ρ,μ,hl,hr,hJ=>by
  have e:=hn d (a::r) ρ μ hl hJ;obtain⟨n,rfl⟩: ∃k,n=k+1:=⟨n - 1,by simp at hr;omega⟩
  obtain⟨aB,ah,o,ak,aD,e1,e2,e3,j2⟩:=hs d a r hl ρ μ hJ;obtain⟨ae,aa,e4,j3⟩:=qjh J hn hs r (d++[a]) n aD ak (by rw[hl];simp) (by simpa using hr) j2;refine⟨ae,aa,?_,j3⟩;rw[List.length_append] at e4;simp only[qe4,e,List.map_cons,List.getElem?_cons_zero,e1,e2,qac];cases o with
  |nx _|ct _=>cases e3;exact e4
  |rt _|bk _=>cases e3
theorem qjg {α:Type} (l:List α) (f:α->T) (J:List α->Ro->Mu->Prop) {g:CG} {ci:CI} {b:List CS} {β:Type} {k:Out->Mu->R β} {r:R β} {ts:List T} (ht:ts=l.map f) (hi: ∃it,runI F ci ρ μ= .ok it μ/\(it= .fx ts\/∃q,it= .lv q/\μ.l[q]? =some (.ls ts)/\∀d ae aa,J d ae aa->aa.l[q]? =some (.ls ts))) (h0:J [] ρ μ)
  (hs: ∀d a r,l=d++a::r->∀ρ μ,J d ρ μ->∃aD ak,((qbS g (f a) ρ μ).bind (runSs F b)= .ok (.nx aD) ak\/(qbS g (f a) ρ μ).bind (runSs F b)= .ok (.ct aD) ak)/\J (d++[a]) aD ak)
  (hk: ∀ae aa,J l ae aa->k (.nx ae) aa=r):(qaP F (.for_ g ci b) ρ μ).bind k=r:=by
 obtain⟨it,e1,e2⟩:=hi;subst ht;rw[qpl,e1,qac,qjj];have hlen:qbN it μ=l.length:=by
  rcases e2 with rfl|⟨q,rfl,hq,_⟩
  ·exact List.length_map ..
  ·simp only[qbN,hq,List.length_map]
 obtain⟨ae,aa,e3,j⟩:=qjh (l:=l) (f:=f) (it:=it) J (λd r ae aa hl hJ=>by
  have:(l.map f)[d.length]? =(r.map f)[0]? :=by rw[hl];cases r<;>simp
  rcases e2 with rfl|⟨q,rfl,_,hq⟩
  ·show some (l.map f)[d.length]? =_;rw[this]
  ·simp only[nxt,hq d ae aa hJ,this]) (λd a r hl ρ μ hJ=>by
  obtain⟨aD,ak,e,j⟩:=hs d a r hl ρ μ hJ;cases q:qbS g (f a) ρ μ with
  |ok aB ah=>
   rw[q,qac] at e
   rcases e with e|e<;>exact⟨aB,ah,_,ak,aD,q,e,rfl,j⟩
  |no=>rw[q] at e;rcases e with e|e<;>cases e
  |ex c m=>rw[q] at e;rcases e with e|e<;>cases e) l [] (qbN it μ) ρ μ rfl (by omega) h0
 rw[show qe4 it (qbS g) (runSs F b) (qbN it μ) 0 ρ μ=_ from e3];exact hk ae aa j
theorem qb3 {α:Type} (l:List α) (f:α->T) (J:List α->Ro->Mu->Prop) {g:CG} {ci:CI} {b:List CS} {β:Type} {k:Out->Mu->R β} {r:R β} {ts:List T} (ht:ts=l.map f) (hi: ∃it,runI F ci ρ μ= .ok it μ/\(it= .fx ts\/∃q,it= .lv q/\μ.l[q]? =some (.ls ts)/\∀d ae aa,J d ae aa->aa.l[q]? =some (.ls ts))) (h0:J [] ρ μ)
  (hs: ∀d a r,l=d++a::r->∀ρ μ,J d ρ μ->∃aD ak,(qbS g (f a) ρ μ).bind (runSs F b)= .ok (.nx aD) ak/\J (d++[a]) aD ak)
  (hk: ∀ae aa,J l ae aa->k (.nx ae) aa=r):(qaP F (.for_ g ci b) ρ μ).bind k=r:=
 qjg l f J ht hi h0 (λd a r hl ρ μ hJ=>by obtain⟨aD,ak,e,j⟩:=hs d a r hl ρ μ hJ;exact⟨aD,ak,.inl e,j⟩) hk
theorem qe1{e:CE}{t:T}{ts:List T}(he:qab F e ρ μ= .ok t μ)(ht:t= .lst ts\/t= .tup ts){Q:Ito->Prop}: ∃it,runI F (.gen e) ρ μ= .ok it μ/\(it= .fx ts\/Q it):=by
 refine⟨.fx ts,?_,.inl rfl⟩;show(qab F e ρ μ).bind (λt μ=>qme t μ)=_
 rcases ht with rfl|rfl<;>rw[he]<;>rfl
theorem qjf{e:CE}{n:Nat}(he:qab F e ρ μ= .ok (.int n) μ)(hn:n<=1000000){Q:Ito->Prop}: ∃it,runI F (.by_ .rng1 [e]) ρ μ= .ok it μ/\(it= .fx ((List.range n).map λk=>.int (k:Nat))\/Q it):=by refine⟨.fx ((List.range n).map λk=>.int (k:Nat)),?_,.inl rfl⟩;show(runA F [e] ρ μ).bind (λts μ=>qco ts μ)=_;simp only[qaD,qaM,he,qac,qco];rw[if_pos ⟨by omega,by omega⟩];rfl
@[simp] theorem Mu.add_l{c:Ct}:(μ.add c).l=μ.l++[c]:=rfl
@[simp] theorem Mu.put_l{c:Ct}{k:Nat}:(μ.put k c).l=μ.l.set k c:=rfl
theorem Mu.add_k{c:Ct}(h:ubC c<=μ.l.length):μ.add c=⟨μ.l++[c],μ.k⟩:=by unfold Mu.add;rw[if_pos h]
theorem Mu.put_k{c:Ct}{k:Nat}(h:ubC c<=k):μ.put k c=⟨μ.l.set k c,μ.k⟩:=by unfold Mu.put;rw[if_pos h]
theorem qbK{k:Nat}{c:Ct}(h:μ.l[k]? =some c)(n:c≠.gone):μ.live k=true:=by simp only[Mu.live,h]
theorem qha: ∀{ts:List T},(∀t∈ts,ub t=0)->ubs ts=0
 |[],_=>by unfold ubs;rfl
 |t::ts,h=>by unfold ubs;rw[h t List.mem_cons_self,qha λu hu=>h u (List.mem_cons_of_mem _ hu)];rfl
theorem qoT{κ:Type}: ∀{ts:List (κ×T)},(∀p∈ts,ub p.2=0)->ubf ts=0
 |[],_=>rfl
 |(k,t)::ts,h=>by unfold ubf;rw[h (k,t) List.mem_cons_self,qoT λu hu=>h u (List.mem_cons_of_mem _ hu)];rfl
def Mu.on(μ:Mu)(c:Ct):Mu:=⟨μ.l++[c],μ.k⟩
theorem Mu.add_on{c:Ct}(h:ubC c=0):μ.add c=μ.on c:=Mu.add_k (by omega)
@[simp] theorem Mu.on_at{c:Ct}:(μ.on c).l[μ.l.length]? =some c:=by show(μ.l++[c])[_]? =_;simp
theorem Mu.on_put{c c':Ct}(h:ubC c'=0):(μ.on c).put μ.l.length c'=μ.on c':=by rw[Mu.put_k (by omega)];show Mu.mk ((μ.l++[c]).set μ.l.length c') μ.k=_;rw[List.set_append_right _ _ (by omega)];simp[Mu.on]
theorem qk6{c:Ct}{t t':T}(h:fzT μ.l.length (μ.on c).l 3 t=some t'):leave μ (.ok t (μ.on c))= .ok t' μ:=qeT (cs:=[c]) (ks:=[]) rfl rfl (by simp) (by simp) h
theorem ql0{c:Fcd}{ts:List T}{t t':T}{d:Ct}(hl:ts.length=c.n)(hk:c.kp=false)(h:(runSs F c.b (ts.map some++List.replicate (c.N - c.n) none) μ).bind outT= .ok t (μ.on d))(hz:fzT μ.l.length (μ.on d).l 3 t=some t'):c.run F ts μ= .ok t' μ:=by unfold Fcd.run fnR;rw[if_pos hl,h];unfold lv;rw[hk,if_neg (by decide)];exact qk6 hz
theorem qpg{c:Fcd}{ts:List T}{r:R T}(hl:ts.length=c.n)(hk:c.kp=true)(h:(runSs F c.b (ts.map some++List.replicate (c.N - c.n) none) μ).bind outT=r):c.run F ts μ=r:=by unfold Fcd.run fnR;rw[if_pos hl,h];unfold lv;rw[hk,if_pos rfl]
end
abbrev Row:=Int×Str×Int
def qaG(r:Row):T:=.tup [.int r.1,.str r.2.1,.int r.2.2]
abbrev keyOk:=PL.keyOk
abbrev rowOk:=PL.rowOk
def qlH(ns:List Int)(k:Int):Int:=if k<(ns.length:Int) then ns.getD k.toNat 0 else if ns=[] then 0 else ns.getD (k % (ns.length:Int)).toNat 0*31+k
def qcs(ns:List Int)(k:Int):Int:=(qlH ns k+6151*(k+1))*40692 % 2147483399
def qai(ns:List Int)(k many:Int):Int:=(qcs ns k*qcs ns k+qcs ns k / 31) % 2147483629 % many
theorem qav{ns:List Int}{k many:Int}(h:0<many):0<=qai ns k many:=Int.emod_nonneg _ (by omega)
theorem qaA{ns:List Int}{k many:Int}(h:0<many):qai ns k many<many:=Int.emod_lt_of_pos _ h
def qgZ:Fcd:=⟨false,2,2,[.ife (.o2 false .lt (.v 1) (.bn false .len [(.v 0)])) [.ret (.o2 false .ix (.v 0) (.v 1))] [],.ife (.o2 false .eq (.v 0) (.lst false [])) [.ret (.c (.int 0))] [],.ret (.o2 false .add (.o2 false .mul (.o2 false .ix (.v 0) (.o2 false .mod (.v 1) (.bn false .len [(.v 0)]))) (.c (.int 31))) (.v 1))]⟩
def qmx(c:Nat):Fcd:=⟨false,3,4,[.set 3 (.o2 false .mod (.o2 false .mul (.o2 false .add (.call c [(.v 0),(.v 1)]) (.o2 false .mul (.c (.int 6151)) (.o2 false .add (.v 1) (.c (.int 1))))) (.c (.int 40692))) (.c (.int 2147483399))),.ret (.o2 false .mod (.o2 false .mod (.o2 false .add (.o2 false .mul (.v 3) (.v 3)) (.o2 false .div (.v 3) (.c (.int 31)))) (.c (.int 2147483629))) (.v 2))]⟩
def qlI(p:Nat):Fcd:=⟨false,2,5,[.set 2 (.c (.str "abcdefghijklmnopqrstuvwxyz")),.set 3 (.call p [(.v 0),(.v 1),(.c (.int 16))]),.ife (.o2 false .gt (.v 3) (.c (.int 0))) [.ret (.o2 false .ix (.lst false [(.c (.str "a")),(.c (.str "b")),(.c (.str "ab"))]) (.o2 false .mod (.v 3) (.c (.int 3))))] [],.set 4 (.o2 false .ix (.v 2) (.call p [(.v 0),(.o2 false .add (.v 1) (.c (.int 1))),(.c (.int 26))])),.ife (.o2 false .eq (.call p [(.v 0),(.o2 false .add (.v 1) (.c (.int 2))),(.c (.int 2))]) (.c (.int 0))) [.ret (.v 4)] [],.ret (.o2 false .add (.v 4) (.o2 false .ix (.v 2) (.call p [(.v 0),(.o2 false .add (.v 1) (.c (.int 3))),(.c (.int 26))])))]⟩
def qem(p:Nat):Fcd:=⟨false,3,3,[.ife (.o2 false .eq (.call p [(.v 0),(.v 1),(.c (.int 8))]) (.c (.int 0))) [.ret (.o2 false .sub (.call p [(.v 0),(.o2 false .add (.v 1) (.c (.int 1))),(.o2 false .add (.o2 false .mul (.c (.int 2)) (.v 2)) (.c (.int 1)))]) (.v 2))] [],.ret (.o2 false .sub (.call p [(.v 0),(.o2 false .add (.v 1) (.c (.int 1))),(.c (.int 9))]) (.c (.int 4)))]⟩
def qmw(p k n:Nat):Fcd:=⟨true,3,8,[.set 3 (.lst true []),.set 4 (.call p [(.v 0),(.v 1),(.c (.int 9))]),.set 5 (.o2 false .ix (.lst false [(.c (.int 1)),(.c (.int 3)),(.c (.int 6)),(.c (.int 14))]) (.call p [(.v 0),(.o2 false .add (.v 1) (.c (.int 1))),(.c (.int 4))])),.for_ (.n 6) (.by_ .rng1 [(.call p [(.v 0),(.o2 false .add (.v 1) (.c (.int 2))),(.o2 false .add (.v 2) (.c (.int 1)))])]) [.set 7 (.o2 false .add (.o2 false .add (.v 1) (.c (.int 10))) (.o2 false .mul (.c (.int 8)) (.v 6))),.set 4 (.bn false .min [(.c (.int 99)),(.o2 false .add (.v 4) (.call p [(.v 0),(.v 7),(.v 5)]))]),.exp (.bm false .append (.v 3) [(.tup [(.v 4),(.call k [(.v 0),(.o2 false .add (.v 7) (.c (.int 1)))]),(.call n [(.v 0),(.o2 false .add (.v 7) (.c (.int 5))),(.c (.int 99))])])])],.ret (.v 3)]⟩
section
variable {F:Fs}{μ:Mu}{ns:List Int}
theorem qoC{k:Int}(h0:0<=k):qgZ.run F [.scr ns,.int k] μ= .ok (.int (qlH ns k)) μ:=by
 refine qaH rfl ?_;unfold qlH;by_cases c1:k<(ns.length:Int)
 ·have e:ixT ns k=some (ns.getD k.toNat 0):=by rw[qbc h0,List.getElem?_eq_getElem (by omega),List.getD_eq_getElem?_getD,List.getElem?_eq_getElem (by omega)];rfl
  simp[qgZ,c1,e]
 ·by_cases c2:ns=[]
  ·subst c2;have c1: ¬k<0:=by omega
   simp[qgZ,c1]
  ·have hl:=List.length_pos_iff.mpr c2;have m0:0<=k % (ns.length:Int):=Int.emod_nonneg _ (by omega);have m1:k % (ns.length:Int)<(ns.length:Int):=Int.emod_lt_of_pos _ (by omega);have e:ixT ns (k % (ns.length:Int))=some (ns.getD (k % (ns.length:Int)).toNat 0):=by rw[qbc m0,List.getElem?_eq_getElem (by omega),List.getD_eq_getElem?_getD,List.getElem?_eq_getElem (by omega)];rfl
   simp[qgZ,c1,c2,e,hl]
theorem qnh{c:Nat}{k m:Int}(hc:F c [.scr ns,.int k] μ= .ok (.int (qlH ns k)) μ)(hm:0<m):(qmx c).run F [.scr ns,.int k,.int m] μ= .ok (.int (qai ns k m)) μ:=by
 refine qaH rfl ?_;have d0:0<=qcs ns k:=Int.emod_nonneg _ (by decide);have d1:qcs ns k<2147483399:=Int.emod_lt_of_pos _ (by decide);have d2: -4294967296<=qcs ns k/\qcs ns k<=4294967296:=⟨by omega,by omega⟩
 unfold qai;unfold qcs at*;simp[qmx,hc,hm,d2]
structure Drw(F:Fs)(p:Nat)(ns:List Int):Prop where
 p: ∀{μ:Mu} {k m:Int},0<=k->0<m->F p [.scr ns,.int k,.int m] μ= .ok (.int (qai ns k m)) μ
def qnQ:Str:= "abcdefghijklmnopqrstuvwxyz"
theorem qhA: ∀i:Nat,i<26->qnQ.cps.toList[i]? =some (97+i):=by decide+kernel
def qba(i:Int):Str:=⟨#[97+i.toNat]⟩
theorem qgN{i:Int}(h:0<=i/\i<26):O2.g .ix μ (.str "abcdefghijklmnopqrstuvwxyz") (.int i)=some (.v (.str (qba i))):=by rw[qti (by decide),qbc h.1];rw[show(Str.cps "abcdefghijklmnopqrstuvwxyz").toList[i.toNat]? =some (97+i.toNat) from qhA i.toNat (by omega)];rfl
def qmc(ns:List Int)(k:Int):Str:=
 if 0<qai ns k 16 then(([("a" :Str), "b", "ab"].getD (qai ns k 16 % 3).toNat "a"))
 else if qai ns (k+2) 2=0 then qba (qai ns (k+1) 26) else qba (qai ns (k+1) 26)++qba (qai ns (k+3) 26)
def qkZ(ns:List Int)(k most:Int):Int:=if qai ns k 8=0 then qai ns (k+1) (2*most+1) - most else qai ns (k+1) 9 - 4
theorem qqp{p:Nat}(D:Drw F p ns){k:Int}(h0:0<=k):(qlI p).run F [.scr ns,.int k] μ= .ok (.str (qmc ns k)) μ:=by
 refine qaH rfl ?_;unfold qmc;have p0:=D.p (μ:=μ) (k:=k) (m:=16) h0 (by decide);have p1:=D.p (μ:=μ) (k:=k+1) (m:=26) (by omega) (by decide);have p2:=D.p (μ:=μ) (k:=k+2) (m:=2) (by omega) (by decide);have p3:=D.p (μ:=μ) (k:=k+3) (m:=26) (by omega) (by decide);have g1:=qgN (μ:=μ) ⟨qav (ns:=ns) (k:=k+1) (many:=26) (by decide),qaA (by decide)⟩;have g3:=qgN (μ:=μ) ⟨qav (ns:=ns) (k:=k+3) (many:=26) (by decide),qaA (by decide)⟩;have z: ∀i j:Int,(qba i).length+(qba j).length<=100000:=λ_ _=>by show 1+1<=100000;decide
 by_cases c:0<qai ns k 16
 ·have a0:0<=qai ns k 16 % 3:=by omega
  have a1:qai ns k 16 % 3<3:=by omega
  have e:ixT [T.str "a",.str "b",.str "ab"] (qai ns k 16 % 3)=some (.str ([("a" :Str), "b", "ab"].getD (qai ns k 16 % 3).toNat "a")):=by
   generalize qai ns k 16 % 3=v at*;rw[qbc a0];have:v=0\/v=1\/v=2:=by omega
   rcases this with rfl|rfl|rfl<;>rfl
  simp[qlI,p0,c,e]
 ·by_cases c2:qai ns (k+2) 2=0
  ·simp[qlI,p0,c,p1,p2,c2,g1]
  ·simp[qlI,p0,c,p1,p2,c2,g1,p3,g3,z]
theorem qnS(ns:List Int)(k:Int):keyOk (qmc ns k):=by
 unfold qmc;have b1:=qav (ns:=ns) (k:=k+1) (many:=26) (by decide);have b2:=qaA (ns:=ns) (k:=k+1) (many:=26) (by decide);have b3:=qav (ns:=ns) (k:=k+3) (many:=26) (by decide);have b4:=qaA (ns:=ns) (k:=k+3) (many:=26) (by decide);split
 ·have: ∀v:Nat,keyOk ([("a" :Str), "b", "ab"].getD v "a"):=λv=>by
   have a:keyOk "a" :=⟨by decide,λc hc=>by revert c;decide⟩
   have b:keyOk "b" :=⟨by decide,λc hc=>by revert c;decide⟩
   have d:keyOk "ab" :=⟨by decide,λc hc=>by revert c;decide⟩
   match v with
   |0=>exact a
   |1=>exact b
   |2=>exact d
   |_+3=>exact a
  exact this _
 ·split
  ·refine⟨⟨Vm 1,by show 1<=2;decide⟩,λc hc=> ?_⟩;have:c=97+(qai ns (k+1) 26).toNat:=by simpa [qba] using hc
   omega
  ·refine⟨⟨by show 1<=2;decide,Vm 2⟩,λc hc=> ?_⟩;have hc:c∈[97+(qai ns (k+1) 26).toNat,97+(qai ns (k+3) 26).toNat]:=hc;simp at hc;omega
theorem qqd{p:Nat}(D:Drw F p ns){k most:Int}(h0:0<=k)(hm:0<=most):(qem p).run F [.scr ns,.int k,.int most] μ= .ok (.int (qkZ ns k most)) μ:=by
 refine qaH rfl ?_;unfold qkZ;have p0:=D.p (μ:=μ) (k:=k) (m:=8) h0 (by decide);have p1:=D.p (μ:=μ) (k:=k+1) (m:=2*most+1) (by omega) (by omega);have p2:=D.p (μ:=μ) (k:=k+1) (m:=9) (by omega) (by decide);by_cases c:qai ns k 8=0
 ·simp[qem,p0,p1,c]
 ·simp[qem,p0,p2,c]
theorem qnF{k most:Int}(hm:4<=most): -most<=qkZ ns k most/\qkZ ns k most<=most:=by
 unfold qkZ;have b1:=qav (ns:=ns) (k:=k+1) (many:=2*most+1) (by omega);have b2:=qaA (ns:=ns) (k:=k+1) (many:=2*most+1) (by omega);have b3:=qav (ns:=ns) (k:=k+1) (many:=9) (by decide);have b4:=qaA (ns:=ns) (k:=k+1) (many:=9) (by decide)
 split<;>omega
def qbU(ns:List Int)(k aV:Int):Nat->Int->Nat->List Row
 |0,_,_=>[]
 |n+1,m,i=>
  let b:=k+10+8*(i:Int);let m':=min 99 (m+qai ns b aV)
  (m',qmc ns (b+1),qkZ ns (b+5) 99)::qbU ns k aV n m' (i+1)
def qfn(ns:List Int)(k:Int):Int:=[(1:Int),3,6,14].getD (qai ns (k+1) 4).toNat 0
theorem qjm(ns:List Int)(k:Int):1<=qfn ns k:=by
 unfold qfn;have b1:=qav (ns:=ns) (k:=k+1) (many:=4) (by decide);have b2:=qaA (ns:=ns) (k:=k+1) (many:=4) (by decide);generalize qai ns (k+1) 4=v at*;have:v=0\/v=1\/v=2\/v=3:=by omega
 rcases this with rfl|rfl|rfl|rfl<;>decide
def qbe(ns:List Int)(k most:Int):List Row:=qbU ns k (qfn ns k) (qai ns (k+2) (most+1)).toNat (qai ns k 9) 0
theorem qbT(k aV:Int): ∀(n:Nat) (m:Int) (i:Nat),(qbU ns k aV n m i).length=n
 |0,_,_=>rfl
 |n+1,m,i=>by simp[qbU,qbT k aV n]
theorem qgl{k aV:Int}(hf:1<=aV): ∀(n:Nat) (m:Int) (i:Nat),0<=m->∀r∈qbU ns k aV n m i,rowOk r/\(m<=99->m<=r.1)
 |0,_,_,_,r,hr=>by cases hr
 |n+1,m,i,hm,r,hr=>by
  have b1:=qav (ns:=ns) (k:=k+10+8*(i:Int)) (many:=aV) (by omega)
  rcases List.mem_cons.mp hr with rfl|hr
  ·refine⟨⟨⟨by simp only[];omega,by simp only[];omega⟩,qnS _ _,qnF (by decide)⟩,λh=>by simp only[];omega⟩
  ·obtain⟨h1,h2⟩:=qgl hf n _ (i+1) (by omega) r hr;exact⟨h1,λh=>by have:=h2 (by omega);omega⟩
def qoO(ns:List Int)(k aV:Int):Nat->Int->Nat->Int
 |0,m,_=>m
 |n+1,m,i=>qoO ns k aV n (min 99 (m+qai ns (k+10+8*(i:Int)) aV)) (i+1)
theorem qdq (k aV:Int): ∀(n:Nat) (m:Int) (i:Nat),qoO ns k aV (n+1) m i=min 99 (qoO ns k aV n m i+qai ns (k+10+8*((i+n:Nat):Int)) aV)/\
  qbU ns k aV (n+1) m i=qbU ns k aV n m i++[(qoO ns k aV (n+1) m i,qmc ns (k+10+8*((i+n:Nat):Int)+1),qkZ ns (k+10+8*((i+n:Nat):Int)+5) 99)]
 |0,m,i=>⟨rfl,rfl⟩
 |n+1,m,i=>by obtain⟨h1,h2⟩:=qdq k aV n (min 99 (m+qai ns (k+10+8*(i:Int)) aV)) (i+1);rw[show i+1+n=i+(n+1) by omega] at h1 h2;refine⟨h1,?_⟩;show _::qbU ns k aV (n+1) _ (i+1)=_;rw[h2];rfl
theorem qcV{k:Nat}{ts:List T}{m:Mu}(h:m.l[k]? =some (.ls ts)):qk2 m (.obj k)= "list" :=by
 have e:qbJ m (.obj k)=some ts:=by
  have:qcm m (.obj k)=some (true,ts):=by show sqv m (.obj k)=_;simp only[sqv,h]
  simp only[qbJ,this]
 unfold qk2;rw[e];rfl
@[simp] theorem qr3:Bm.ty .append= "list" /\Bm.ty .extend= "list" /\Bm.ty .insert= "list" /\Bm.ty .pop= "list" /\Bm.ty .clear= "list" /\Bm.ty .reverse= "list" /\Bm.ty .count= "list" /\Bm.ty .index= "list" :=⟨rfl,rfl,rfl,rfl,rfl,rfl,rfl,rfl⟩
theorem qeq{k:Nat}{ts:List T}{x:T}{m:Mu}{ow:Bool}(h:m.l[k]? =some (.ls ts))(hl:ts.length<=1000):nvR ow (Bm.g .append m [.obj k,x]) m= .ok .non (m.put k (.ls (ts++[x]))):=by
 have e:Bm.g .append m [.obj k,x]=some (.p k (.ls (ts++[x])) .non):=by show(qgw m (.obj k)).bind _=_;simp only[qgw,h,Option.bind_some];exact if_pos hl
 rw[e,qqc (qbK h (by simp))]
theorem qoU(r:Row):ub (qaG r)=0:=by simp[qaG,ub,ubs]
theorem qge(rs:List Row):ubC (.ls (rs.map qaG))=0:=qha λt ht=>by obtain⟨r,_,rfl⟩:=List.mem_map.mp ht;exact qoU r
theorem qmX {p q n:Nat} (D:Drw F p ns) (hq: ∀{μ:Mu} {k:Int},0<=k->F q [.scr ns,.int k] μ= .ok (.str (qmc ns k)) μ) (hn: ∀{μ:Mu} {k most:Int},0<=k->0<=most->F n [.scr ns,.int k,.int most] μ= .ok (.int (qkZ ns k most)) μ) {k most:Int} (h0:0<=k) (hm:0<=most/\most<=900):
  (qmw p q n).run F [.scr ns,.int k,.int most] μ= .ok (.obj μ.l.length) (μ.on (.ls ((qbe ns k most).map qaG))):=by
 have p0:=D.p (μ:=μ.on (.ls [])) (k:=k) (m:=9) h0 (by decide);have p1:=D.p (μ:=μ.on (.ls [])) (k:=k+1) (m:=4) (by omega) (by decide);have p2:=D.p (μ:=μ.on (.ls [])) (k:=k+2) (m:=most+1) (by omega) (by omega);have b1:=qav (ns:=ns) (k:=k+1) (many:=4) (by decide);have b2:=qaA (ns:=ns) (k:=k+1) (many:=4) (by decide);have b3:=qav (ns:=ns) (k:=k+2) (many:=most+1) (by omega);have b4:=qaA (ns:=ns) (k:=k+2) (many:=most+1) (by omega);have e5:ixT [T.int 1,.int 3,.int 6,.int 14] (qai ns (k+1) 4)=some (.int (qfn ns k)):=by
  unfold qfn;generalize qai ns (k+1) 4=v at*;rw[qbc b1];have:v=0\/v=1\/v=2\/v=3:=by omega
  rcases this with rfl|rfl|rfl|rfl<;>rfl
 have hf:=qjm ns k;refine qpg rfl rfl ?_;simp only[qmw,qaC,qby,qm6,qaM,qac,List.length_nil,Nat.zero_le,if_true,Mu.add_on (show ubC (.ls [])=0 from rfl),qaJ];simp[p0,p1,e5];refine qb3 (List.range (qai ns (k+2) (most+1)).toNat) (λi:Nat=>.int (i:Int)) (λd ae aa=> ∃x6 x7,ae=[some (.scr ns),some (.int k),some (.int most),some (.obj μ.l.length),some (.int (qoO ns k (qfn ns k) d.length (qai ns k 9) 0)),some (.int (qfn ns k)),x6,x7]/\aa=μ.on (.ls ((qbU ns k (qfn ns k) d.length (qai ns k 9) 0).map qaG))) rfl (qjf ?_ ?_) ?_ ?_ ?_
 ·simp[p2];omega
 ·omega
 ·exact⟨none,none,rfl,rfl⟩
 ·rintro d a r hl ae aa ⟨x6,x7,rfl,rfl⟩;have d4:a=d.length:=by have:=congrArg (λz=>z[d.length]?) hl;simp only[List.getElem?_append_right (Nat.le_refl _),Nat.sub_self,List.getElem?_cons_zero] at this;have:=List.getElem?_eq_some_iff.mp this;obtain⟨h,e⟩:=this;rw[List.getElem_range] at e;exact e.symm
  have jh:d.length<1000:=by have:=congrArg List.length hl;simp at this;omega
  subst d4;obtain⟨s1,s2⟩:=qdq (ns:=ns) k (qfn ns k) d.length (qai ns k 9) 0;rw[Nat.zero_add] at s1 s2;rw[List.length_append,List.length_singleton,s2];have q1:=D.p (μ:=μ.on (.ls ((qbU ns k (qfn ns k) d.length (qai ns k 9) 0).map qaG))) (k:=k+10+8*(d.length:Int)) (m:=qfn ns k) (by omega) (by omega);have q2:=hq (μ:=μ.on (.ls ((qbU ns k (qfn ns k) d.length (qai ns k 9) 0).map qaG))) (k:=k+10+8*(d.length:Int)+1) (by omega);have q3:=hn (μ:=μ.on (.ls ((qbU ns k (qfn ns k) d.length (qai ns k 9) 0).map qaG))) (k:=k+10+8*(d.length:Int)+5) (most:=99) (by omega) (by decide);have ap:=λx=>qeq (x:=x) (ow:=false) (Mu.on_at (μ:=μ) (c:=.ls ((qbU ns k (qfn ns k) d.length (qai ns k 9) 0).map qaG))) (by rw[List.length_map,qbT];omega);refine⟨_,_,?_,some (.int d.length),some (.int (k+10+8*(d.length:Int))),rfl,rfl⟩;simp[q1,q2,q3,ap,qcV Mu.on_at,<-s1];have z:=qge (qbU ns k (qfn ns k) d.length (qai ns k 9) 0++[(qoO ns k (qfn ns k) (d.length+1) (qai ns k 9) 0,qmc ns (k+10+8*(d.length:Int)+1),qkZ ns (k+10+8*(d.length:Int)+5) 99)]);rw[List.map_append] at z;exact Mu.on_put z
 ·rintro ae aa ⟨x6,x7,rfl,rfl⟩;simp[qbe]
end
end NV
namespace Tb
open PySem
abbrev Pl:=Int×Str
abbrev V4:=Int×Int×Int×Int
abbrev Ln:=Pl×V4
def kP(p:Pl):List PL.Ky:=[.i p.1,.s p.2]
def ltP(p q:Pl):Bool:=PL.ltKs (kP p) (kP q)
theorem qqt{p q:Pl}(h:kP p=kP q):p=q:=by obtain⟨a,b⟩:=p;obtain⟨c,d⟩:=q;simp only[kP,List.cons.injEq,PL.Ky.i.injEq,PL.Ky.s.injEq,and_true] at h;rw[h.1,h.2]
theorem qoN:SR.Ord ltP:=⟨λ_=>PL.ltKs_irr _,λ_ _ _=>PL.ltKs_tr _ _ _,λ_ _ h h'=>qqt (PL.ltKs_tot _ _ h h')⟩
def jn(u v:V4):V4:=(u.1+v.1,u.2.1+v.2.1,min u.2.2.1 v.2.2.1,max u.2.2.2 v.2.2.2)
theorem qnU(u v:V4):jn u v=jn v u:=by simp only[jn];rw[Int.add_comm u.1,Int.add_comm u.2.1,Int.min_comm,Int.max_comm]
theorem qla(u v w:V4):jn (jn u v) w=jn u (jn v w):=by simp only[jn,Int.add_assoc,Int.min_assoc,Int.max_assoc]
inductive Red:List Ln->List Ln->Prop
 |refl {L:List Ln}:Red L L
 |perm {L L' R:List Ln}:List.Perm L L'->Red L' R->Red L R
 |merge {p:Pl} {u v:V4} {M R:List Ln}:Red ((p,jn u v)::M) R->Red ((p,u)::(p,v)::M) R
theorem Red.trans{A B C:List Ln}(h:Red A B)(h':Red B C):Red A C:=by
 induction h with
 |refl=>exact h'
 |perm p _ ih=>exact .perm p (ih h')
 |merge _ ih=>exact .merge (ih h')
theorem Red.appR{A B:List Ln}(h:Red A B)(C:List Ln):Red (A++C) (B++C):=by
 induction h with
 |refl=>exact .refl
 |perm p _ ih=>exact .perm (p.append_right C) ih
 |merge _ ih=>exact .merge ih
theorem Red.map{A B:List Ln}(h:Red A B)(g:Pl->Pl):Red (A.map λx=>(g x.1,x.2)) (B.map λx=>(g x.1,x.2)):=by
 induction h with
 |refl=>exact .refl
 |perm p _ ih=>exact .perm (p.map _) ih
 |merge _ ih=>exact .merge ih
theorem Red.filter{A B:List Ln}(h:Red A B)(q:Pl->Bool):Red (A.filter λx=>q x.1) (B.filter λx=>q x.1):=by
 induction h with
 |refl=>exact .refl
 |perm p _ ih=>exact .perm (p.filter _) ih
 |@merge p u v M R _ ih=>
  simp only[List.filter_cons] at ih⊢;cases e:q p with
  |true=>rw[e] at ih;exact .merge ih
  |false=>rw[e] at ih;exact ih
theorem Red.all{A B:List Ln}(h:Red A B){P:Ln->Prop}(hP: ∀p u v,P (p,u)->P (p,v)->P (p,jn u v))(ha: ∀x∈A,P x): ∀x∈B,P x:=by
 induction h with
 |refl=>exact ha
 |perm p _ ih=>exact ih λx hx=>ha x (p.symm.subset hx)
 |@merge p u v M R _ ih=>
  refine ih λx hx=> ?_
  rcases List.mem_cons.mp hx with rfl|hx
  ·exact hP p u v (ha _ Vk) (ha _ (Vl _ Vk))
  ·exact ha x (Vl _ (Vl _ hx))
theorem qkt{A B:List Int}(h:List.Perm A B):A.sum=B.sum:=by
 induction h with
 |nil=>rfl
 |cons x _ ih=>simp[ih]
 |swap x y l=>simp;omega
 |trans _ _ a b=>exact a.trans b
theorem Red.sum{A B:List Ln}(h:Red A B){f:V4->Int}(hf: ∀u v,f (jn u v)=f u+f v):(A.map λx=>f x.2).sum=(B.map λx=>f x.2).sum:=by
 induction h with
 |refl=>rfl
 |perm p _ ih=>rw[<-ih];exact qkt (p.map _)
 |@merge p u v M R _ ih=>rw[<-ih];simp[hf];omega
def jo(u:V4):Option V4->Option V4
 |none=>some u
 |some v=>some (jn u v)
def ag(p:Pl):List Ln->Option V4
 |[]=>none
 |x::L=>if x.1=p then jo x.2 (ag p L) else ag p L
theorem qnT(u v:V4)(a:Option V4):jo u (jo v a)=jo (jn u v) a:=by
 cases a with
 |none=>rfl
 |some w=>show some _=some _;rw[qla]
theorem qoK{p:Pl}{A B:List Ln}(h:List.Perm A B):ag p A=ag p B:=by
 induction h with
 |nil=>rfl
 |cons x _ ih=>show(if _ then _ else _)=(if _ then _ else _);rw[ih]
 |swap x y l=>
  simp only[ag]
  split<;>split<;>first|rfl|(rw[qnT,qnT,qnU])
 |trans _ _ a b=>exact a.trans b
theorem Red.ag{p:Pl}{A B:List Ln}(h:Red A B):ag p A=ag p B:=by
 induction h with
 |refl=>rfl
 |perm q _ ih=>rw[qoK q,ih]
 |@merge q u v M R _ ih=>
  rw[<-ih];simp only[Tb.ag];split
  ·rw[qnT]
  ·rfl
def qfo(R:List Ln):Prop:=R.Pairwise λa b=>ltP a.1 b.1=true
theorem qj4{p:Pl}: ∀{R:List Ln},(∀x∈R,x.1≠p)->ag p R=none
 |[],_=>rfl
 |x::R,h=>by simp only[ag];rw[if_neg (h x List.mem_cons_self)];exact qj4 λy hy=>h y (Vl _ hy)
theorem qj5{p:Pl}{v:V4}: ∀{R:List Ln},(R.map (·.1)).Nodup->(ag p R=some v↔(p,v)∈R)
 |[],_=>by simp[ag]
 |x::R,h=>by
  rw[List.map_cons,List.nodup_cons] at h;simp only[ag];by_cases c:x.1=p
  ·rw[if_pos c,qj4 λy hy z=>h.1 (List.mem_map.mpr ⟨y,hy,z.trans c.symm⟩)];constructor
   ·intro e;cases e;rw[<-c];exact Vk
   ·intro hm
    rcases List.mem_cons.mp hm with e|hm
    ·rw[<-e];rfl
    ·exact absurd (List.mem_map.mpr ⟨_,hm,c.symm⟩) h.1
  ·rw[if_neg c,qj5 h.2];constructor
   ·exact Vl _
   ·intro hm
    rcases List.mem_cons.mp hm with e|hm
    ·exact absurd (by rw[<-e]) c
    ·exact hm
theorem qfo.nodup{R:List Ln}(h:qfo R):(R.map (·.1)).Nodup:=by refine List.pairwise_map.mpr (h.imp λ{a b} e z=> ?_);rw[z,qoN.irr] at e;cases e
theorem qgn: ∀{R S:List Ln},qfo R->qfo S->(∀x,x∈R↔x∈S)->R=S
 |[],[],_,_,_=>rfl
 |[],y::S,_,_,h=>absurd ((h y).mpr Vk) (by simp)
 |x::R,[],_,_,h=>absurd ((h x).mp Vk) (by simp)
 |x::R,y::S,h1,h2,h=>by
  have a1:=List.pairwise_cons.mp h1;have a2:=List.pairwise_cons.mp h2;have e:x=y:=by
   rcases List.mem_cons.mp ((h x).mp Vk) with e|e
   ·exact e
   ·rcases List.mem_cons.mp ((h y).mpr Vk) with q|q
    ·exact q.symm
    ·have:=qoN.tr _ _ _ (a1.1 y q) (a2.1 x e);rw[qoN.irr] at this;cases this
  subst e;rw[qgn a1.2 a2.2 λz=> ?_];have:=h z;simp only[List.mem_cons] at this;constructor
  ·intro hz
   rcases this.mp (.inr hz) with e|e
   ·subst e;have:=a1.1 z hz;rw[qoN.irr] at this;cases this
   ·exact e
  ·intro hz
   rcases this.mpr (.inr hz) with e|e
   ·subst e;have:=a2.1 z hz;rw[qoN.irr] at this;cases this
   ·exact e
structure Tab(L R:List Ln):Prop where
 red:Red L R
 rise:qfo R
theorem qlY{L R S:List Ln}(h:Tab L R)(h':Tab L S):R=S:=
 qgn h.rise h'.rise λx=>by obtain⟨p,v⟩:=x;rw[<-qj5 h.rise.nodup,<-qj5 h'.rise.nodup,<-h.red.ag,h'.red.ag]
theorem Tab.of{L L' R:List Ln}(h:Red L L')(t:Tab L' R):Tab L R:=⟨h.trans t.red,t.rise⟩
theorem qfo.tab{R:List Ln}(h:qfo R):Tab R R:=⟨.refl,h⟩
def put(E:List Ln)(x:Ln):List Ln:=if(E.any λy=>decide (y.1=x.1))=true then E.map (λy=>if y.1=x.1 then(y.1,jn y.2 x.2) else y) else E++[x]
theorem qnb{E:List Ln}{x:Ln}(nd:(E.map (·.1)).Nodup):Red (E++[x]) (put E x)/\((put E x).map (·.1)).Nodup/\(put E x).length<=E.length+1:=by
 unfold put;by_cases c:(E.any λy=>decide (y.1=x.1))=true
 ·rw[if_pos c];refine⟨?_,?_,by simp⟩
  ·obtain⟨y,hy,e⟩:=List.any_eq_true.mp c;have e:y.1=x.1:=of_decide_eq_true e;obtain⟨a,b,rfl⟩:=List.append_of_mem hy;rw[List.map_append,List.map_cons] at nd;have fZ:=List.nodup_append.mp nd;have nb:=(List.nodup_cons.mp fZ.2.1).1;have sa: ∀z∈a,z.1≠x.1:=λz hz q=>fZ.2.2 _ (List.mem_map.mpr ⟨z,hz,rfl⟩) _ Vk (q.trans e.symm);have sb: ∀z∈b,z.1≠x.1:=λz hz q=>nb (List.mem_map.mpr ⟨z,hz,q.trans e.symm⟩);have ka: ∀l:List Ln,(∀z∈l,z.1≠x.1)->l.map (λy=>if y.1=x.1 then(y.1,jn y.2 x.2) else y)=l:=λl hl=>by
    conv=>rhs;rw[<-List.map_id l]
    exact List.map_congr_left λz hz=>by rw[if_neg (hl z hz)];rfl
   rw[List.map_append,List.map_cons,ka a sa,ka b sb,if_pos e];obtain⟨p,u⟩:=y;obtain⟨q,v⟩:=x;simp only at e;subst e;refine .perm (L':=(p,u)::(p,v)::(a++b)) ?_ (.merge (.perm List.perm_middle.symm .refl));refine(List.perm_append_comm (l₁:=a++(p,u)::b) (l₂:=[(p,v)])).trans ?_;exact((List.perm_middle (a:=(p,u)) (l₁:=a) (l₂:=b)).cons _).trans (List.Perm.swap _ _ _)
  ·rw[List.map_map];have:((λx:Ln=>x.1)∘λy:Ln=>if y.1=x.1 then(y.1,jn y.2 x.2) else y)=λy=>y.1:=funext λy=>by
    show(if y.1=x.1 then(y.1,jn y.2 x.2) else y).1=y.1
    split<;>rfl
   rw[this];exact nd
 ·rw[if_neg c];refine⟨.refl,?_,by simp⟩;rw[List.map_append,List.nodup_append];refine⟨nd,by simp,λa ha b hb q=>c ?_⟩;obtain⟨y,hy,rfl⟩:=List.mem_map.mp ha;simp at hb;subst hb;exact List.any_eq_true.mpr ⟨y,hy,Vx q⟩
def all(L:List Ln):List Ln:=L.foldl put []
theorem qg4(L:List Ln):Red L (all L)/\((all L).map (·.1)).Nodup/\(all L).length<=L.length:=by
 have go: ∀(L E D:List Ln),Red D E->(E.map (·.1)).Nodup->E.length<=D.length->Red (D++L) (L.foldl put E)/\((L.foldl put E).map (·.1)).Nodup/\(L.foldl put E).length<=(D++L).length:=by
  intro L
  induction L with
  |nil=>intro E D h nd hl;rw[List.append_nil];exact⟨h,nd,hl⟩
  |cons x L ih=>intro E D h nd hl;obtain⟨a,b,c⟩:=qnb (x:=x) nd;have:=ih (put E x) (D++[x]) ((h.appR [x]).trans a) b (by simp;omega);rw[List.append_assoc,List.singleton_append] at this;exact this
 have:=go L [] [] .refl List.nodup_nil (Vm _)
 rwa [List.nil_append] at this
def tab(L:List Ln):List Ln:=SR.srt (λx=>SR.rank PL.ltKs ((all L).map λx=>kP x.1) (kP x.1)) (all L)
theorem qaT(L:List Ln):Tab L (tab L):=by
 obtain⟨a,b,c⟩:=qg4 L;refine⟨a.trans (.perm (SR.perm_srt _).symm .refl),?_⟩;have r:=SR.ris_srt (k:=λx:Ln=>SR.rank PL.ltKs ((all L).map λx=>kP x.1) (kP x.1)) (all L);have nd:((tab L).map (·.1)).Nodup:=(((SR.perm_srt (all L)).map _).nodup_iff).mpr b;have fZ:=List.pairwise_map.mp nd;have:=List.Pairwise.and r fZ;refine List.Pairwise.imp_of_mem ?_ this;intro x y hx hy ⟨h1,h2⟩;have mx:kP x.1∈(all L).map λx=>kP x.1:=List.mem_map.mpr ⟨x,(SR.mem_srt _).mp hx,rfl⟩;have my:kP y.1∈(all L).map λx=>kP x.1:=List.mem_map.mpr ⟨y,(SR.mem_srt _).mp hy,rfl⟩;cases q:ltP x.1 y.1 with
 |true=>rfl
 |false=>
  cases q2:ltP y.1 x.1 with
  |false=>exact absurd (qoN.tot _ _ q q2) h2
  |true=>have:=SR.rank_lt PL.ordKs my mx;rw[show PL.ltKs (kP y.1) (kP x.1)=true from q2] at this;have:=of_decide_eq_true this;simp only at h1;omega
theorem qic(L:List Ln):(tab L).length<=L.length:=by unfold tab;rw[SR.length_srt];exact(qg4 L).2.2
theorem qlX{L R:List Ln}(h:Tab L R):tab L=R:=qlY (qaT L) h
theorem qmJ{L L':List Ln}(h:Red L L'):tab L=tab L':=qlY (qaT L) (.of h (qaT L'))
theorem qgf{R:List Ln}(h:qfo R):tab R=R:=qlX h.tab
theorem qib(L:List Ln)(g:Pl->Pl):tab ((tab L).map λx=>(g x.1,x.2))=tab (L.map λx=>(g x.1,x.2)):=(qmJ ((qaT L).red.map g)).symm
theorem qhg(L:List Ln)(q:Pl->Bool):tab (L.filter λx=>q x.1)=(tab L).filter λx=>q x.1:=qlX ⟨(qaT L).red.filter q,(qaT L).rise.filter _⟩
end Tb
namespace NV
open PySem L2
def qjH:Fcd:=⟨false,1,1,[.ret (.and (.inst "int" (.v 0)) (.nt (.inst "bool" (.v 0))))]⟩
def qgY(w:Nat):Fcd:=⟨false,3,3,[.ret (.and (.call w [(.v 0)]) (.chain .le .le (.v 1) (.v 0) (.v 2)))]⟩
def qmv:Fcd:=⟨false,2,2,[.ife (.or (.nt (.inst "str" (.v 0))) (.nt (.chain .le .le (.c (.int 1)) (.bn false .len [(.v 0)]) (.v 1)))) [.ret (.c (.bl false))] [],.ret (.bn false .all [(.comp false false 1 [] (.n 0) (.gen (.v 0)) none (.chain .le .le (.c (.str "a")) (.v 0) (.c (.str "z"))))])]⟩
def qjL(w:Nat):Fcd:=⟨false,1,1,[.ret (.call w [(.v 0),(.c (.int 2))])]⟩
def qjK(w k:Nat):Fcd:=⟨false,1,1,[.ife (.or (.nt (.inst "tuple" (.v 0))) (.o2 false .ne (.bn false .len [(.v 0)]) (.c (.int 3)))) [.ret (.c (.bl false))] [],.ife (.or (.nt (.call w [(.o2 false .ix (.v 0) (.c (.int 0))),(.c (.int 0)),(.c (.int 99))])) (.nt (.call k [(.o2 false .ix (.v 0) (.c (.int 1)))]))) [.ret (.c (.bl false))] [],.ret (.call w [(.o2 false .ix (.v 0) (.c (.int 2))),(.neg (.c (.int 99))),(.c (.int 99))])]⟩
def qjJ(r:Nat):Fcd:=⟨false,1,1,[.ife (.nt (.bn false .all [(.comp false false 1 [] (.n 0) (.gen (.v 0)) none (.call r [(.v 0)]))])) [.raise "NoRow"] []]⟩
section
variable {F:Fs}{μ:Mu}
theorem qmz{α:Type}{l:List α}{p:α->Bool}:Bn.g .all μ [.lst (l.map λa=>.bl (p a))]=some (.v (.bl (l.all p))):=by
 have:(l.map λa=>T.bl (p a))=(l.map p).map T.bl:=by rw[List.map_map];rfl
 rw[this,qt5,List.all_map];rfl
theorem qmy{α:Type}{l:List α}{p:α->Int}:Bn.g .sum μ [.lst (l.map λa=>.int (p a))]=some (.v (.int (l.map p).sum)):=by
 have:(l.map λa=>T.int (p a))=(l.map p).map T.int:=by rw[List.map_map];rfl
 rw[this,qt3]
theorem qg3{α:Type}(l:List α):(l.all λ_=>true)=true:=List.all_eq_true.mpr λ_ _=>rfl
theorem qki{i:Int}:qjH.run F [.int i] μ= .ok (.bl true) μ:=qaH rfl (by simp[qjH,qi1])
theorem qh3{w:Nat}{i a b:Int}(h:F w [.int i] μ= .ok (.bl true) μ):(qgY w).run F [.int i,.int a,.int b] μ= .ok (.bl (decide (a<=i)&&decide (i<=b))) μ:=by refine qaH rfl ?_;by_cases c:a<=i<;>simp[qgY,h,c]
theorem qmV{c:Nat}(h:97<=c/\c<=122):qhh ⟨#[c]⟩ "a" =false/\qhh "z" ⟨#[c]⟩=false:=by
 have e1:("a" :Str).cps.toList=[97]:=rfl;have e2:("z" :Str).cps.toList=[122]:=rfl;have n1: ¬([c]:List Nat)<[97]:=by
  rw[List.cons_lt_cons_iff];rintro(h1|⟨_,h2⟩)
  ·omega
  ·exact absurd h2 (List.not_lt_nil _)
 have n2: ¬([122]:List Nat)<[c]:=by
  rw[List.cons_lt_cons_iff];rintro(h1|⟨_,h2⟩)
  ·omega
  ·exact absurd h2 (List.not_lt_nil _)
 constructor
 ·show decide (([c]:List Nat)<("a" :Str).cps.toList)=_;rw[e1,decide_eq_false n1]
 ·show decide (("z" :Str).cps.toList<([c]:List Nat))=_;rw[e2,decide_eq_false n2]
theorem qmD{x:Str}(h:keyOk x):qmv.run F [.str x,.int 2] μ= .ok (.bl true) μ:=by
 have l1:(1:Int)<=(x.length:Int):=by have:=h.1.1;omega
 have l2:(x.length:Int)<=2:=by have:=h.1.2;omega
 have l3:x.length<=1000:=by have:=h.1.2;omega
 refine qaH rfl ?_;have cm:=qaR (F:=F) (μ:=μ) (ρ:=[some (.str x),some (.int 2)]) (x:=false) (fr:=[]) (ci:=.gen (.v 0)) (e:=.chain .le .le (.c (.str "a")) (.v 0) (.c (.str "z"))) x.cps.toList (λc=>.str ⟨#[c]⟩) (λ_=>.bl true) (qa1 (t:=.str x) (by simp) (if_pos l3)) λc hc=>by have:=qmV (h.2 c hc);simp[this]
 simp[qmv,qi1,l1,l2,qrB (show x.length<=100000 by omega),cm,qmz,qg3]
theorem qle{w:Nat}{x:Str}(h:F w [.str x,.int 2] μ= .ok (.bl true) μ):(qjL w).run F [.str x] μ= .ok (.bl true) μ:=qaH rfl (by simp[qjL,h])
theorem qld{w k:Nat}{r:Row}(h:rowOk r)(hw: ∀i a b:Int,F w [.int i,.int a,.int b] μ= .ok (.bl (decide (a<=i)&&decide (i<=b))) μ)(hk: ∀x:Str,keyOk x->F k [.str x] μ= .ok (.bl true) μ):(qjK w k).run F [qaG r] μ= .ok (.bl true) μ:=by obtain⟨⟨h1,h2⟩,h3,h4,h5⟩:=h;exact qaH rfl (by simp[qjK,qaG,qi1,hw,hk _ h3,h1,h2,h4,h5])
theorem qk0{r:Nat}{t:T}{rs:List Row}(ht:itv μ t=some (rs.map qaG))(h: ∀x∈rs,rowOk x)(hr: ∀x:Row,rowOk x->F r [qaG x] μ= .ok (.bl true) μ):(qjJ r).run F [t] μ= .ok .non μ:=by
 refine qaH rfl ?_;have cm:=qaR (F:=F) (μ:=μ) (ρ:=[some t]) (x:=false) (fr:=[]) (ci:=.gen (.v 0)) (e:=.call r [(.v 0)]) rs qaG (λ_=>.bl true) (qa1 (t:=t) (by simp) ht) λx hx=>by simp[hr x (h x hx)]
 simp[qjJ,cm,qmz,qg3]
end
theorem qcy{F:Fs}{s:CS}{ss:List CS}{ρ ae:Ro}{μ aa:Mu}{β:Type}{k:Out->Mu->R β}{r:R β}(h:qaP F s ρ μ= .ok (.nx ae) aa)(h':(runSs F ss ae aa).bind k=r):(runSs F (s::ss) ρ μ).bind k=r:=by rw[qaC,h,qac,qaJ];exact h'
theorem qsf{F:Fs}{s:CS}{ss:List CS}{ρ:Ro}{μ aa:Mu}{t:T}(h:qaP F s ρ μ= .ok (.rt t) aa):(runSs F (s::ss) ρ μ).bind outT= .ok t aa:=by rw[qaC,h,qac,qko,qac,qns]
theorem qe3 {F:Fs} {ρ:Ro} {μ:Mu} {α:Type} (l:List α) (f:α->T) (J:List α->Ro->Mu->Prop) {g:CG} {ci:CI} {b:List CS} {ts:List T} (ht:ts=l.map f) (hi: ∃it,runI F ci ρ μ= .ok it μ/\(it= .fx ts\/∃q,it= .lv q/\μ.l[q]? =some (.ls ts)/\∀d ae aa,J d ae aa->aa.l[q]? =some (.ls ts))) (h0:J [] ρ μ)
  (hs: ∀d a r,l=d++a::r->∀ρ μ,J d ρ μ->∃aD ak,(qbS g (f a) ρ μ).bind (runSs F b)= .ok (.nx aD) ak/\J (d++[a]) aD ak): ∃ae aa,qaP F (.for_ g ci b) ρ μ= .ok (.nx ae) aa/\J l ae aa:=by
 refine Classical.byContradiction λhc=> ?_;cases q:qaP F (.for_ g ci b) ρ μ with
 |no|ex c m=>have:=qb3 (β:=Unit) (k:=λ_ m=>R.ok () ⟨[],[]⟩) (r:=R.ok () ⟨[],[]⟩) l f J ht hi h0 hs (λae aa j=>rfl);rw[q] at this;cases this
 |ok o m=>
  have:=qb3 (β:=Unit) (k:=λo m=>match o with|.nx ae=>(open Classical in if J l ae m then R.ok () ⟨[],[]⟩ else R.no)|_=>R.no) (r:=R.ok () ⟨[],[]⟩) l f J ht hi h0 hs (λae aa j=>by simp[j]);rw[q] at this;cases o with
  |nx ae=>
   simp only[qac] at this;split at this
   ·rename_i j;exact hc ⟨ae,m,q,j⟩
   ·cases this
  |_=>cases this
structure Sto(μ m:Mu)(cs:List Ct):Prop where
 l:m.l=μ.l++cs
 k: ∃ks,m.k=ks++μ.k/\∀p∈ks,μ.l.length<=p.1
namespace Sto
variable {μ m:Mu}{cs:List Ct}
theorem nil:Sto μ μ []:=⟨by simp,[],rfl,λ_ h=>nomatch h⟩
theorem on{c:Ct}:Sto μ (μ.on c) [c]:=⟨rfl,[],rfl,λ_ h=>nomatch h⟩
theorem len(h:Sto μ m cs):m.l.length=μ.l.length+cs.length:=by rw[h.l,List.length_append]
theorem at_(h:Sto μ m cs)(j:Nat):m.l[μ.l.length+j]? =cs[j]? :=by rw[h.l,List.getElem?_append_right (by omega)];congr 1;omega
theorem add(h:Sto μ m cs)(c:Ct):Sto μ (m.add c) (cs++[c]):=by
 obtain⟨ks,e,g⟩:=h.k;refine⟨by rw[Mu.add_l,h.l,List.append_assoc],?_⟩;unfold Mu.add;by_cases q:ubC c<=m.l.length
 ·rw[if_pos q];exact⟨ks,e,g⟩
 ·rw[if_neg q];refine⟨_::ks,by rw[e];rfl,λp hp=> ?_⟩
  rcases List.mem_cons.mp hp with rfl|hp
  ·have:=h.len;show _<=m.l.length;omega
  ·exact g p hp
theorem put(h:Sto μ m cs){j:Nat}(c:Ct):Sto μ (m.put (μ.l.length+j) c) (cs.set j c):=by
 obtain⟨ks,e,g⟩:=h.k;refine⟨by rw[Mu.put_l,h.l,List.set_append_right _ _ (by omega)];congr 2;omega,?_⟩;unfold Mu.put;by_cases q:ubC c<=μ.l.length+j
 ·rw[if_pos q];exact⟨ks,e,g⟩
 ·rw[if_neg q];refine⟨_::ks,by rw[e];rfl,λp hp=> ?_⟩
  rcases List.mem_cons.mp hp with rfl|hp
  ·show _<=μ.l.length+j;omega
  ·exact g p hp
theorem leave(h:Sto μ m cs)(hc:cs≠[]){t t':T}(hz:fzT μ.l.length m.l 3 t=some t'):NV.leave μ (.ok t m)= .ok t' μ:=by obtain⟨ks,e,g⟩:=h.k;exact qeT h.l e hc g hz
theorem run{F:Fs}(h:Sto μ m cs)(hc:cs≠[]){c:Fcd}{ts:List T}{t t':T}(hl:ts.length=c.n)(hk:c.kp=false)(hr:(runSs F c.b (ts.map some++List.replicate (c.N - c.n) none) μ).bind outT= .ok t m)(hz:fzT μ.l.length m.l 3 t=some t'):c.run F ts μ= .ok t' μ:=by unfold Fcd.run fnR;rw[if_pos hl,hr];unfold lv;rw[hk,if_neg (by decide)];exact h.leave hc hz
end Sto
section
variable {μ:Mu}
theorem qpa{k:Nat}{ts:List T}(h:μ.l[k]? =some (.ls ts)):sqv μ (.obj k)=some (true,ts):=by simp only[sqv,h]
theorem qnP{k:Nat}{ts:List T}(h:μ.l[k]? =some (.ls ts)):qbJ μ (.obj k)=some ts:=by have:qcm μ (.obj k)=some (true,ts):=qpa h;simp only[qbJ,this]
theorem qiQ{k:Nat}{ts:List (Key×T)}(h:μ.l[k]? =some (.dk ts)):qk2 μ (.obj k)= "dict" :=by
 have e:qbJ μ (.obj k)=none:=by
  have:qcm μ (.obj k)=none:=by show sqv μ (.obj k)=_;simp only[sqv,h]
  simp only[qbJ,this]
 have e2:dkv μ (.obj k)=some ts:=by simp only[dkv,h]
 unfold qk2;rw[e,e2];rfl
@[simp] theorem qr4:Bm.ty .get= "dict" /\Bm.ty .dpop= "dict" /\Bm.ty .dclear= "dict" /\Bm.ty .setdef= "dict" :=⟨rfl,rfl,rfl,rfl⟩
theorem qjX{k:Nat}{kvs:List (Key×T)}{y x t:T}{q:Key}{ow:Bool}(h:μ.l[k]? =some (.dk kvs))(hk:qbM y=some q)(hv:qde kvs q=some t):nvR ow (Bm.g .setdef μ [.obj k,y,x]) μ= .ok t μ:=by
 have e:Bm.g .setdef μ [.obj k,y,x]=some (.v t):=by show(qkd μ (.obj k)).bind _=_;simp only[qkd,h,Option.bind_some,hk,hv]
 rw[e,qh0]
theorem qjY{k:Nat}{kvs:List (Key×T)}{y x:T}{q:Key}{ow:Bool}(h:μ.l[k]? =some (.dk kvs))(hk:qbM y=some q)(hv:qde kvs q=none)(hl:kvs.length<=1000):nvR ow (Bm.g .setdef μ [.obj k,y,x]) μ= .ok x (μ.put k (.dk (qgt kvs q x))):=by
 have e:Bm.g .setdef μ [.obj k,y,x]=some (.p k (.dk (qgt kvs q x)) x):=by show(qkd μ (.obj k)).bind _=_;simp only[qkd,h,Option.bind_some,hk,hv];exact if_pos hl
 rw[e,qqc (qbK h (by simp))]
abbrev ltI:Int->Int->Bool:=λa b=>decide (a<b)
theorem ordI:SR.Ord ltI:=⟨λa=>Vy (Int.lt_irrefl a),λa b c h h'=>Vx (Int.lt_trans (of_decide_eq_true h) (of_decide_eq_true h')),λa b h h'=>by have:=of_decide_eq_false h;have:=of_decide_eq_false h';omega⟩
theorem qiu(ss:List Int)(x:Int):SR.rank PL.ltKs ((ss.map T.int).map qdd) (qdd (.int x))=SR.rank ltI ss x:=by
 unfold SR.rank;rw[List.map_map,List.countP_map]
 congr 1
 refine List.countP_congr λy _=> ?_;show PL.ltKs [.i y] [.i x]=true↔ltI y x=true;have:PL.ltKs [.i y] [.i x]=ltI y x:=by
  show(if PL.Ky.i y=PL.Ky.i x then false else decide (y<x))=_;by_cases c:y=x
  ·subst c;rw[if_pos rfl];exact(ordI.irr y).symm
  ·rw[if_neg (λz=>c (by cases z;rfl))]
 rw[this]
theorem qil(ss:List Int):qfx (ss.map T.int)=(SR.sortA ltI ss).map T.int:=by
 show SR.srt (λt=>SR.rank PL.ltKs ((ss.map T.int).map qdd) (qdd t)) (ss.map T.int)=_;rw[<-SR.srt_map (k':=SR.rank ltI ss) (f:=T.int)]
 ·rfl
 ·exactλb=>(qiu ss b).symm
theorem qdT(ss:List Int):qa6 (ss.map T.int)=true:=by
 cases ss with
 |nil=>rfl
 |cons s ss=>show(PL.okShape [0]&&(ss.map T.int).all λu=>qaZ u==[0])=true;rw[List.all_map];exact List.all_eq_true.mpr λ_ _=>rfl
theorem qsj{t:T}{ts:List T}(h:qbJ μ t=some ts){m:Int}(hm:0<=m):gSl μ t none (some m)=some (.l (ts.take m.toNat)):=by
 have e:qkg ts none (some m)=ts.take m.toNat:=by
  unfold qkg;rw[HT.sIx_none,show(some m:Option Int)=some ((m.toNat:Nat):Int) by rw[Int.toNat_of_nonneg hm],HT.sIx_nat,List.drop_zero,Nat.sub_zero]
  rcases Nat.le_total m.toNat ts.length with q|q
  ·rw[Nat.min_eq_left q]
  ·rw[Nat.min_eq_right q,List.take_length,List.take_of_length_le q]
 have e2:qcm μ t=some (true,ts):=by
  unfold qbJ at h;split at h
  ·rename_i q;cases h;exact q
  ·cases h
 unfold gSl;split
 ·cases e2
 ·cases e2
 ·rw[e2];show some (Nv.l (qkg ts none (some m)))=_;rw[e]
theorem qwc{xs ys:List T}(h:xs.length+ys.length<=900):nvR false (O2.g .add μ (.tup xs) (.tup ys)) μ= .ok (.tup (xs++ys)) μ:=by
 cases xs with
 |nil=>rfl
 |cons x xs=>
  cases ys with
  |nil=>rw[qn6,if_pos (by simp at h;omega)];simp
  |cons y ys=>rw[qqI,if_pos (by simp at h;omega)];rfl
theorem qig{t:T}{ss:List Str}(h:qbJ μ t=some (ss.map T.str))(hl:ss.length<64):qhG μ t=some (.l ((SR.sortA RH.ltS (SetL.dd ss)).map T.str)):=by unfold qhG;rw[h,Option.bind_some,if_pos (by rw[List.length_map];exact hl),qdJ]
theorem qih{t:T}{ss:List Int}(h:qbJ μ t=some (ss.map T.int))(hl:ss.length<64):qhG μ t=some (.l ((SR.sortA ltI (SetL.dd ss)).map T.int)):=by
 unfold qhG;rw[h,Option.bind_some,if_pos (by rw[List.length_map];exact hl)];cases ss with
 |nil=>rfl
 |cons s ss=>rw[qch];rfl
theorem qin{t:T}{ss:List Str}(h:qbJ μ t=some (ss.map T.str))(hl:ss.length<64):qaN μ t=some (.v (.int (SetL.dd ss).length)):=by unfold qaN;rw[h,Option.bind_some,if_pos (by rw[List.length_map];exact hl),qdJ]
@[simp] theorem qb0{ts:List T}:qbJ μ (.lst ts)=some ts:=rfl
theorem qrz{t:T}{bs:List Int}(h:qbJ μ t=some (bs.map T.int))(hb:bs≠[]):Bn.g .max μ [t]=some (.v (.int (PL.maxI bs))):=by show((qbJ μ t).bind qa4).bind _=_;rw[h,Option.bind_some,qch,Option.bind_some,if_neg hb]
theorem qhj{α:Type}{lt:α->α->Bool}(o:SR.Ord lt){a b:List α}(ha:a.Nodup)(hb:b.Nodup)(h: ∀x,x∈a↔x∈b):SR.sortA lt a=SR.sortA lt b:=SR.sortA_perm o ((List.perm_ext_iff_of_nodup ha hb).mpr h)
theorem qiR{α:Type}{lt:α->α->Bool}{a:List α}{x:α}:x∈SR.sortA lt a↔x∈a:=(SR.perm_srt _).mem_iff
end
end NV
namespace Tb
open PySem NV L2
def vT(v:V4):T:=.tup [.int v.1,.int v.2.1,.int v.2.2.1,.int v.2.2.2]
def plT(p:Pl):T:=.tup [.int p.1,.str p.2]
def lnT(x:Ln):T:=.tup [.int x.1.1,.str x.1.2,.int x.2.1,.int x.2.2.1,.int x.2.2.2.1,.int x.2.2.2.2]
def k5T(x:Ln):T:=.tup [.str x.1.2,.int x.2.1,.int x.2.2.1,.int x.2.2.2.1,.int x.2.2.2.2]
def kS(p:Pl):List Key:=[.inl p.1,.inr p.2]
theorem qmd{p q:Pl}(h:kS p=kS q):p=q:=by obtain⟨a,b⟩:=p;obtain⟨c,d⟩:=q;simp only[kS,List.cons.injEq,Sum.inl.injEq,Sum.inr.injEq,and_true] at h;rw[h.1,h.2]
def dU(E:List Ln):List (List Key×T):=E.map λx=>(kS x.1,vT x.2)
def ctE:List Ln->Ct
 |[]=>.dk []
 |x::E=>.du (dU (x::E))
theorem kd(a p:Pl):decide (kS a=kS p)=decide (a=p):=decide_eq_decide.mpr ⟨qmd,λh=>by rw[h]⟩
theorem qlU(E:List Ln)(p:Pl):qde (dU E) (kS p)=(E.find? λx=>decide (x.1=p)).map λx=>vT x.2:=by unfold qde dU;rw[List.find?_map,Option.map_map];have:((λkv:List Key×T=>decide (kv.1=kS p))∘λx:Ln=>(kS x.1,vT x.2))=λx=>decide (x.1=p):=funext λx=>kd x.1 p;rw[this];rfl
theorem qeh{E:List Ln}(nd:(E.map (·.1)).Nodup){x:Ln}(hx:x∈E):E.find? (λy=>decide (y.1=x.1))=some x:=by
 induction E with
 |nil=>cases hx
 |cons y E ih=>
  rw[List.map_cons,List.nodup_cons] at nd
  rcases List.mem_cons.mp hx with rfl|hx
  ·rw[List.find?_cons_of_pos (by simp)]
  ·rw[List.find?_cons_of_neg,ih nd.2 hx];intro e;exact nd.1 (List.mem_map.mpr ⟨x,hx,(of_decide_eq_true e).symm⟩)
theorem qpr{E:List Ln}{x:Ln}(nd:(E.map (·.1)).Nodup):qgt (dU E) (kS x.1) (match E.find? λy=>decide (y.1=x.1) with|some y=>vT (jn y.2 x.2)|none=>vT x.2)=dU (put E x):=by
 have ha:((dU E).any λkv=>decide (kv.1=kS x.1))=E.any λy=>decide (y.1=x.1):=by
  unfold dU;rw[List.any_map]
  congr 1
  exact funext λy=>kd y.1 x.1
 unfold qgt put;rw[ha];by_cases c:(E.any λy=>decide (y.1=x.1))=true
 ·rw[if_pos c,if_pos c];obtain⟨y,hy,e⟩:=List.any_eq_true.mp c;have e:y.1=x.1:=of_decide_eq_true e;have hf:=qeh nd hy;rw[e] at hf;rw[hf];unfold dU;rw[List.map_map,List.map_map];refine List.map_congr_left λz hz=> ?_;show(if kS z.1=kS x.1 then(kS z.1,vT (jn y.2 x.2)) else(kS z.1,vT z.2))=(kS (if z.1=x.1 then(z.1,jn z.2 x.2) else z).1,vT (if z.1=x.1 then(z.1,jn z.2 x.2) else z).2)
  by_cases q:z.1=x.1
  ·rw[if_pos (by rw[q]),if_pos q];have:z=y:=by have a:=qeh nd hz;rw[q,hf] at a;exact(Option.some.inj a).symm
   rw[this]
  ·rw[if_neg (λh=>q (qmd h)),if_neg q]
 ·rw[if_neg c,if_neg c];have:E.find? (λy=>decide (y.1=x.1))=none:=by rw[List.find?_eq_none];intro y hy e;exact c (List.any_eq_true.mpr ⟨y,hy,e⟩)
  rw[this];unfold dU;rw[List.map_append];rfl
theorem qpq(E:List Ln)(x:Ln):put E x≠[]:=by
 unfold put;split
 ·rename_i h;cases E with
  |nil=>cases h
  |cons _ _=>simp
 ·simp
section
variable {μ:Mu}
theorem qcC(x:Ln):gSl μ (lnT x) none (some 2)=some (.t [.int x.1.1,.str x.1.2]):=rfl
theorem qdV(x:Ln):gSl μ (lnT x) (some 2) none=some (.t [.int x.2.1,.int x.2.2.1,.int x.2.2.2.1,.int x.2.2.2.2]):=rfl
theorem qcB(x:Ln):gSl μ (lnT x) (some 1) none=some (.t [.str x.1.2,.int x.2.1,.int x.2.2.1,.int x.2.2.2.1,.int x.2.2.2.2]):=rfl
theorem qr1(x:Ln):ub (lnT x)=0:=rfl
theorem qu6(x:V4):ub (vT x)=0:=rfl
theorem qoV(E:List Ln):ubC (ctE E)=0:=by
 cases E with
 |nil=>rfl
 |cons x E=>
  show ubf _=0;exact qoT λp hp=>by obtain⟨y,_,rfl⟩:=List.mem_map.mp hp;exact qu6 _
theorem qri{k:Nat}{E:List Ln}(h:μ.l[k]? =some (ctE E))(p:Pl):E=[]/\μ.l[k]? =some (.dk [])\/E≠[]/\μ.l[k]? =some (.du (dU E)):=by
 cases E with
 |nil=>exact .inl ⟨rfl,h⟩
 |cons x E=>exact .inr ⟨by simp,h⟩
theorem qtk{k:Nat}{kvs:List (List Key×T)}{y:T}{q:List Key}(h:μ.l[k]? =some (.du kvs))(hk:qke y=some q):O2.g .in_ μ y (.obj k)=some (.v (.bl (qde kvs q).isSome)):=by
 have e1:qcm μ (.obj k)=none:=by show sqv μ (.obj k)=_;simp only[sqv,h]
 have e2:dkv μ (.obj k)=none:=by simp only[dkv,h]
 have e3:duv μ (.obj k)=some kvs:=by simp only[duv,h]
 have e4:qjz μ (.obj k) y=some (qde kvs q):=by unfold qjz;rw[e2,e3,hk]
 show gIn false μ y (.obj k)=_;unfold gIn;rw[e1,e4];rfl
theorem qqH{k:Nat}{y:T}{q:List Key}(h:μ.l[k]? =some (.dk []))(hk:qke y=some q):O2.g .in_ μ y (.obj k)=some (.p k (.du []) (.bl false)):=by
 have e0:qbM y=none:=by cases y<;>first|rfl|cases hk
 have e1:qcm μ (.obj k)=none:=by show sqv μ (.obj k)=_;simp only[sqv,h]
 have e2:dkv μ (.obj k)=some []:=by simp only[dkv,h]
 have e3:duv μ (.obj k)=none:=by simp only[duv,h]
 have e4:qjz μ (.obj k) y=none:=by unfold qjz;rw[e2,e0,e3]
 show gIn false μ y (.obj k)=_;unfold gIn;rw[e1,e4];simp only[h,hk]
theorem qqK{k:Nat}{kvs:List (List Key×T)}{y v:T}{q:List Key}(h:μ.l[k]? =some (.du kvs))(hk:qke y=some q)(hl:kvs.length<=1000):qn7 μ (.obj k) y v=some (k,.du (qgt kvs q v)):=by
 have e0:qbM y=none:=by cases y<;>first|rfl|cases hk
 have e1:qgw μ (.obj k)=none:=by simp only[qgw,h]
 have e2:qkd μ (.obj k)=none:=by simp only[qkd,h]
 have e3:qrO μ (.obj k)=some (k,kvs):=by simp only[qrO,h]
 unfold qn7;rw[e1,e2,e3,hk];exact if_pos hl
end
def qdH:Fcd:=⟨false,2,2,[.ret (.tup [(.o2 false .add (.o2 false .ix (.v 0) (.c (.int 0))) (.o2 false .ix (.v 1) (.c (.int 0)))),(.o2 false .add (.o2 false .ix (.v 0) (.c (.int 1))) (.o2 false .ix (.v 1) (.c (.int 1)))),(.bn false .min [(.o2 false .ix (.v 0) (.c (.int 2))),(.o2 false .ix (.v 1) (.c (.int 2)))]),(.bn false .max [(.o2 false .ix (.v 0) (.c (.int 3))),(.o2 false .ix (.v 1) (.c (.int 3)))])])]⟩
def qcK(t:Nat):Fcd:=⟨false,1,4,[.set 1 (.dct true),.for_ (.n 2) (.gen (.v 0)) [.set 3 (.sl false (.v 2) none (some (.c (.int 2)))),.put (.v 1) (.v 3) (.ife (.o2 false .in_ (.v 3) (.v 1)) (.call t [(.o2 false .ix (.v 1) (.v 3)),(.sl false (.v 2) (some (.c (.int 2))) none)]) (.sl false (.v 2) (some (.c (.int 2))) none))],.ret (.bn false .tup [(.comp false false 1 [1] (.n 0) (.gen (.bn false .srt [(.v 1)])) none (.o2 false .add (.v 0) (.o2 false .ix (.v 1) (.v 0))))])]⟩
section
variable {F:Fs}{μ:Mu}
theorem together_ok(u v:V4):qdH.run F [vT u,vT v] μ= .ok (vT (jn u v)) μ:=qaH rfl (by simp[qdH,vT,jn])
theorem qmS(E:List Ln):qfx (E.map λx=>plT x.1)=(SR.srt (λx:Ln=>SR.rank PL.ltKs (E.map λx=>kP x.1) (kP x.1)) E).map λx=>plT x.1:=by show SR.srt (λt=>SR.rank PL.ltKs ((E.map λx=>plT x.1).map qdd) (qdd t)) (E.map λx=>plT x.1)=_;rw[<-SR.srt_map (k':=λx:Ln=>SR.rank PL.ltKs (E.map λx=>kP x.1) (kP x.1)) (f:=λx:Ln=>plT x.1)];intro x;rw[List.map_map];rfl
theorem qfw(E:List Ln):qa6 (E.map λx=>plT x.1)=true:=by
 cases E with
 |nil=>rfl
 |cons x E=>show(PL.okShape [2,0,1]&&(E.map λx=>plT x.1).all λu=>qaZ u==[2,0,1])=true;rw[List.all_map];exact List.all_eq_true.mpr λy _=>rfl
theorem qo9{k:Nat}{E:List Ln}(h:μ.l[k]? =some (ctE E))(hl:E.length<64):Bn.g .srt μ [.obj k]=some (.l (qfx (E.map λx=>plT x.1))):=by
 have e0:qbJ μ (.obj k)=none:=by
  have:qcm μ (.obj k)=none:=by show sqv μ (.obj k)=_;cases E<;>simp only[sqv,h,ctE]
  simp only[qbJ,this]
 have e:qlZ μ (.obj k)=some (E.map λx=>plT x.1):=by
  unfold qlZ;rw[e0];cases E with
  |nil=>simp only[dkv,h,ctE];rfl
  |cons x E=>
   have e2:dkv μ (.obj k)=none:=by simp only[dkv,h,ctE]
   have e3:duv μ (.obj k)=some (dU (x::E)):=by simp only[duv,h,ctE]
   rw[e2,e3];show some ((dU (x::E)).map λp=>T.tup (p.1.map qed))=_;unfold dU;rw[List.map_map];rfl
 show(qlZ μ (.obj k)).bind _=_;rw[e];exact if_pos ⟨by rw[List.length_map];exact hl,qfw E⟩
theorem rising_ok{t:Nat}(ht: ∀{μ:Mu} (u v:V4),F t [vT u,vT v] μ= .ok (vT (jn u v)) μ){L:List Ln}(hl:L.length<64){a:T}(hu:a= .lst (L.map lnT)\/a= .tup (L.map lnT)):(qcK t).run F [a] μ= .ok (.tup ((tab L).map lnT)) μ:=by
 have fin:(runSs F (qcK t).b ([some a]++List.replicate 3 none) μ).bind outT= .ok (.tup ((tab L).map lnT)) (μ.on (ctE (all L))):=by
  show(runSs F (qcK t).b [some a,none,none,none] μ).bind outT=_;simp only[qcK,qaC,qby,qiA,qac,Mu.add_on (show ubC (.dk [])=0 from rfl),qaJ,List.set_cons_succ,List.set_cons_zero,qjV];refine qb3 L lnT (λd ae aa=> ∃x2 x3,ae=[some a,some (.obj μ.l.length),x2,x3]/\aa=μ.on (ctE (all d))) rfl (qe1 (t:=a) (by simp) hu) ⟨none,none,rfl,rfl⟩ ?_ ?_
  ·rintro d x r hd ae aa ⟨x2,x3,rfl,rfl⟩;have jh:d.length<64:=by have:=congrArg List.length hd;simp at this;omega
   obtain⟨_,nd,hlen⟩:=qg4 d;have cD:all (d++[x])=put (all d) x:=by unfold all;rw[List.foldl_append];rfl
   have jj:ctE (put (all d) x)= .du (dU (put (all d) x)):=by
    have:=qpq (all d) x;revert this;cases put (all d) x with
    |nil=>intro h;exact absurd rfl h
    |cons _ _=>intro _;rfl
   refine⟨_,_,?_,some (lnT x),some (.tup [.int x.1.1,.str x.1.2]),rfl,rfl⟩;rw[cD,jj];have ky:qke (.tup [.int x.1.1,.str x.1.2])=some (kS x.1):=rfl;have pd:=qpr (x:=x) nd;have iW:ubC (.du (dU (put (all d) x)))=0:=by rw[<-jj];exact qoV _
   have tl:vT x.2= .tup [.int x.2.1,.int x.2.2.1,.int x.2.2.2.1,.int x.2.2.2.2]:=rfl
   rcases qri (μ:=μ.on (ctE (all d))) Mu.on_at x.1 with⟨e0,h0⟩|⟨e0,h0⟩
   ·have i0:=qqH h0 ky;have lv:(μ.on (ctE (all d))).live μ.l.length=true:=qbK h0 (by simp);have st:(μ.on (ctE (all d))).put μ.l.length (.du [])=μ.on (.du []):=Mu.on_put rfl;have pt:=qqK (μ:=μ.on (.du [])) (kvs:=[]) (v:=vT x.2) Mu.on_at ky (by simp);have f6:(μ.on (.du [])).live μ.l.length=true:=qbK Mu.on_at (by simp);rw[e0] at pd;simp[qcC,i0,qqc lv,st,qdV];rw[<-tl,pt];simp only[f6,if_true];rw[e0];have:qgt [] (kS x.1) (vT x.2)=dU (put [] x):=pd;rw[this,Mu.on_put (by rw[<-e0];exact iW)];rfl
   ·have i0:=qtk h0 ky;have ix:=qqG h0 ky;rw[qlU] at i0 ix;have pt:=λv=>qqK (v:=v) h0 ky (by unfold dU;rw[List.length_map];omega);have f6:(μ.on (ctE (all d))).live μ.l.length=true:=qbK h0 (by simp);have on:(μ.on (ctE (all d))).put μ.l.length (.du (dU (put (all d) x)))=μ.on (.du (dU (put (all d) x))):=Mu.on_put iW;cases q:(all d).find? (λy=>decide (y.1=x.1)) with
    |none=>rw[q] at i0 pd;simp[qcC,i0,qdV];rw[<-tl,pt,pd];simp only[f6,if_true,on];rfl
    |some y=>rw[q] at i0 pd ix;simp[qcC,i0,qdV,ix];rw[<-tl,ht];simp only[qac];rw[pt,pd];simp only[f6,if_true,on];rfl
  ·rintro ae aa ⟨x2,x3,rfl,rfl⟩;obtain⟨_,nd,hlen⟩:=qg4 L;have s0:=qo9 (μ:=μ.on (ctE (all L))) Mu.on_at (by omega);rw[qmS] at s0;have cm:=qaR (F:=F) (μ:=μ.on (ctE (all L))) (ρ:=[some a,some (.obj μ.l.length),x2,x3]) (x:=false) (fr:=[1]) (ci:=.gen (.bn false .srt [(.v 1)])) (e:=.o2 false .add (.v 0) (.o2 false .ix (.v 1) (.v 0))) (tab L) (λx=>plT x.1) lnT (qa1 (t:=.lst ((tab L).map λx=>plT x.1)) (by simp[s0,tab]) rfl) λx hx=>by
    have hx:x∈all L:=(SR.mem_srt _).mp hx
    rcases qri (μ:=μ.on (ctE (all L))) Mu.on_at x.1 with⟨e0,h0⟩|⟨e0,h0⟩
    ·rw[e0] at hx;cases hx
    ·have ix:=qqG h0 (show qke (plT x.1)=some (kS x.1) from rfl);rw[qlU,qeh nd hx] at ix;simp[ix];simp[plT,vT,lnT]
   simp[cm]
 refine ql0 rfl rfl fin (qje ?_);show ubs ((tab L).map lnT)<=_;rw[qha λt ht=>by obtain⟨y,_,rfl⟩:=List.mem_map.mp ht;exact qr1 y];exact Nat.zero_le _
end
def tblT(s:Int)(R:List Ln):T:=.tup [.int s,.tup (R.map lnT)]
def lin(s:Int)(r:Row):Ln:=((r.1 / s,r.2.1),(1,r.2.2,r.2.2,r.2.2))
def crs(b:Int)(x:Ln):Ln:=((x.1.1 / b,x.1.2),x.2)
def zr(x:Ln):Ln:=((0,x.1.2),x.2)
def qjI(n r:Nat):Fcd:=⟨false,2,2,[.exp (.call n [(.v 1)]),.ret (.tup [(.v 0),(.call r [(.comp false false 3 [0] (.tup [(.n 0),(.n 1),(.n 2)]) (.gen (.v 1)) none (.tup [(.o2 false .div (.v 0) (.v 3)),(.v 1),(.c (.int 1)),(.v 2),(.v 2),(.v 2)]))])])]⟩
def qrs(r:Nat):Fcd:=⟨false,2,2,[.ife (.o2 false .ne (.o2 false .ix (.v 0) (.c (.int 0))) (.o2 false .ix (.v 1) (.c (.int 0)))) [.raise "Unlike"] [],.ret (.tup [(.o2 false .ix (.v 0) (.c (.int 0))),(.call r [(.o2 false .add (.o2 false .ix (.v 0) (.c (.int 1))) (.o2 false .ix (.v 1) (.c (.int 1))))])])]⟩
def qff(r:Nat):Fcd:=⟨false,2,2,[.ret (.tup [(.o2 false .mul (.o2 false .ix (.v 0) (.c (.int 0))) (.v 1)),(.call r [(.comp false false 1 [1] (.n 0) (.gen (.o2 false .ix (.v 0) (.c (.int 1)))) none (.o2 false .add (.tup [(.o2 false .div (.o2 false .ix (.v 0) (.c (.int 0))) (.v 1))]) (.sl false (.v 0) (some (.c (.int 1))) none)))])])]⟩
def qjN(r:Nat):Fcd:=⟨false,1,1,[.ret (.comp false false 1 [] (.n 0) (.gen (.call r [(.comp false false 1 [] (.n 0) (.gen (.o2 false .ix (.v 0) (.c (.int 1)))) none (.o2 false .add (.tup [(.c (.int 0))]) (.sl false (.v 0) (some (.c (.int 1))) none)))])) none (.sl false (.v 0) (some (.c (.int 1))) none))]⟩
def Ris(F:Fs)(r:Nat):Prop:= ∀{μ:Mu} {L:List Ln} {a:T},L.length<64->(a= .lst (L.map lnT)\/a= .tup (L.map lnT))->F r [a] μ= .ok (.tup ((tab L).map lnT)) μ
section
variable {F:Fs}{μ:Mu}
theorem qnW{s:Int}{R:List Ln}:O2.g .ix μ (tblT s R) (.int 0)=some (.v (.int s)):=rfl
theorem qcX{s:Int}{R:List Ln}:O2.g .ix μ (tblT s R) (.int 1)=some (.v (.tup (R.map lnT))):=rfl
theorem table_ok{n r:Nat}(hR:Ris F r){s:Int}{a:T}{rs:List Row}(hn:F n [a] μ= .ok .non μ)(ha:itv μ a=some (rs.map qaG))(hl:rs.length<64)(hs:0<s/\s<1073741824):(qjI n r).run F [.int s,a] μ= .ok (tblT s (tab (rs.map (lin s)))) μ:=by
 refine qaH rfl ?_;have cm:=qrk (F:=F) (μ:=μ) (ρ:=[some (.int s),some a]) (x:=false) (fr:=[0]) (ci:=.gen (.v 1)) (e:=.tup [(.o2 false .div (.v 0) (.v 3)),(.v 1),(.c (.int 1)),(.v 2),(.v 2),(.v 2)]) rs (λr=>lnT (lin s r)) (u:=λr=>.int r.1) (v:=λr=>.str r.2.1) (w:=λr=>.int r.2.2) (qa1 (t:=a) (by simp) ha) λr hr=>by simp[hs.1,hs.2,lnT,lin]
 have e:(rs.map λr=>lnT (lin s r))=(rs.map (lin s)).map lnT:=by rw[List.map_map];rfl
 rw[e] at cm;simp[qjI,hn];rw[cm];simp only[qac];rw[hR (by rw[List.length_map];exact hl) (.inl rfl)];simp[tblT]
theorem led_ok{r:Nat}(hR:Ris F r){s:Int}{A B:List Ln}(hl:A.length+B.length<64):(qrs r).run F [tblT s A,tblT s B] μ= .ok (tblT s (tab (A++B))) μ:=by refine qaH rfl ?_;have c:=qwc (μ:=μ) (xs:=A.map lnT) (ys:=B.map lnT) (by simp;omega);rw[<-List.map_append] at c;simp[qrs,tblT];rw[c];simp only[qac];rw[hR (by rw[List.length_append];exact hl) (.inr rfl)];simp
theorem coarser_ok{r:Nat}(hR:Ris F r){s b:Int}{R:List Ln}(hl:R.length<64)(hs:0<=s/\s<=4294967296)(hb:0<b/\b<1073741824):(qff r).run F [tblT s R,.int b] μ= .ok (tblT (s*b) (tab (R.map (crs b)))) μ:=by
 refine qaH rfl ?_;have cm:=qaR (F:=F) (μ:=μ) (ρ:=[some (tblT s R),some (.int b)]) (x:=false) (fr:=[1]) (ci:=.gen (.o2 false .ix (.v 0) (.c (.int 1)))) (e:=.o2 false .add (.tup [(.o2 false .div (.o2 false .ix (.v 0) (.c (.int 0))) (.v 1))]) (.sl false (.v 0) (some (.c (.int 1))) none)) R lnT (λx=>lnT (crs b x)) (qa1 (t:=.tup (R.map lnT)) (by simp[tblT]) rfl) λx hx=>by simp[qcB];simp[lnT,hb.1,hb.2,crs]
 have e:(R.map λx=>lnT (crs b x))=(R.map (crs b)).map lnT:=by rw[List.map_map];rfl
 rw[e] at cm;have m: -4294967296<=s/\s<=4294967296:=by omega
 simp[qff,qnW,m];rw[cm];simp only[qac];rw[hR (by rw[List.length_map];exact hl) (.inl rfl)];simp[tblT]
theorem byKey_ok{r:Nat}(hR:Ris F r){s:Int}{R:List Ln}(hl:R.length<64):(qjN r).run F [tblT s R] μ= .ok (.lst ((tab (R.map zr)).map k5T)) μ:=by
 refine qaH rfl ?_;have cm:=qaR (F:=F) (μ:=μ) (ρ:=[some (tblT s R)]) (x:=false) (fr:=[]) (ci:=.gen (.o2 false .ix (.v 0) (.c (.int 1)))) (e:=.o2 false .add (.tup [(.c (.int 0))]) (.sl false (.v 0) (some (.c (.int 1))) none)) R lnT (λx=>lnT (zr x)) (qa1 (t:=.tup (R.map lnT)) (by simp[tblT]) rfl) λx hx=>by simp[qcB];simp[lnT,zr]
 have e:(R.map λx=>lnT (zr x))=(R.map zr).map lnT:=by rw[List.map_map];rfl
 rw[e] at cm;have eG:=qaR (F:=F) (μ:=μ) (ρ:=[some (tblT s R)]) (x:=false) (fr:=[]) (ci:=.gen (.call r [(.comp false false 1 [] (.n 0) (.gen (.o2 false .ix (.v 0) (.c (.int 1)))) none (.o2 false .add (.tup [(.c (.int 0))]) (.sl false (.v 0) (some (.c (.int 1))) none)))])) (e:=.sl false (.v 0) (some (.c (.int 1))) none) (tab (R.map zr)) lnT k5T (qa1 (t:=.tup ((tab (R.map zr)).map lnT)) (by rw[qbH,qaD,cm];simp only[qac,qaM];exact hR (by rw[List.length_map];exact hl) (.inl rfl)) rfl) λx hx=>by simp[qcB,k5T]
 simp only[qjN,qaC,qix];show(((qab F _ [some (tblT s R)] μ).bind _).bind _).bind _=_;rw[eG];rfl
end
def kG(x:Ln):List PL.Ky:=[.i (-x.2.2.1),.s x.1.2]
def rk(X:List Ln):List Ln:=SR.srt (λx=>SR.rank PL.ltKs (X.map kG) (kG x)) X
theorem ql2(X:List Ln):(rk X).length=X.length:=SR.length_srt _
theorem qkz{X:List Ln}{y:Ln}{Y:List Ln}(h:rk X=y::Y):y∈X/\∀x∈X,x.2.2.1<=y.2.2.1:=by
 have r:=SR.ris_srt (k:=λx:Ln=>SR.rank PL.ltKs (X.map kG) (kG x)) X;rw[show SR.srt (λx:Ln=>SR.rank PL.ltKs (X.map kG) (kG x)) X=y::Y from h] at r;have hm: ∀x,x∈y::Y↔x∈X:=λx=>by rw[<-h];exact SR.mem_srt _
 have hy:=(hm y).mp Vk;refine⟨hy,λx hx=> ?_⟩
 rcases List.mem_cons.mp ((hm x).mpr hx) with rfl|cR
 ·exact Int.le_refl _
 ·have le:=(List.pairwise_cons.mp r).1 x cR;have q:=SR.rank_lt PL.ordKs (List.mem_map.mpr ⟨x,hx,rfl⟩) (List.mem_map.mpr ⟨y,hy,rfl⟩) (as:=X.map kG);have: ¬(SR.rank PL.ltKs (X.map kG) (kG x)<SR.rank PL.ltKs (X.map kG) (kG y)):=by simp only at le;omega
  rw[decide_eq_false this] at q;unfold kG PL.ltKs at q;split at q
  ·rename_i e;injection e with e;omega
  ·have q:decide (-x.2.2.1< -y.2.2.1)=false:=q.symm;have:=of_decide_eq_false q;omega
def qjM:Fcd:=⟨false,2,3,[.set 2 (.srtK false (.parts [(true,3),(false,1)]) (.v 0)),.ret (.comp false false 1 [] (.n 0) (.gen (.sl false (.v 2) none (some (.bn false .max [(.v 1),(.c (.int 0))])))) none (.o2 false .ix (.v 0) (.c (.int 1))))]⟩
def qce(g:Nat):Fcd:=⟨false,2,4,[.set 2 (.dct true),.for_ (.n 3) (.gen (.o2 false .ix (.v 0) (.c (.int 1)))) [.exp (.bm false .append (.bm false .setdef (.v 2) [(.o2 false .ix (.v 3) (.c (.int 0))),(.lst true [])]) [(.v 3)])],.ret (.comp false false 1 [1,2] (.n 0) (.gen (.bn false .srt [(.v 2)])) none (.tup [(.v 0),(.call g [(.o2 false .ix (.v 2) (.v 0)),(.v 1)])]))]⟩
def gKeys(X:List Ln)(m:Int):List Str:=((rk X).take (max m 0).toNat).map λx=>x.1.2
section
variable {F:Fs}{μ:Mu}
theorem mapM_map{α β:Type}{f:T->Option β}{l:List α}{g:α->T}{h:α->β}(e: ∀a,f (g a)=some (h a)):(l.map g).mapM f=some (l.map h):=by
 induction l with
 |nil=>rfl
 |cons a l ih=>rw[List.map_cons,List.mapM_cons,e,ih];rfl
theorem qkv{t:T}{X:List Ln}(h:qbJ μ t=some (X.map lnT))(hl:X.length<64):qcr (.parts [(true,3),(false,1)]) μ t=some (.l ((rk X).map lnT)):=by
 have e:(X.map lnT).mapM (qoP (.parts [(true,3),(false,1)]))=some (X.map λx=>T.tup [.int (-x.2.2.1),.str x.1.2]):=mapM_map λx=>rfl;have so:qa6 (X.map λx=>T.tup [.int (-x.2.2.1),.str x.1.2])=true:=by
  cases X with
  |nil=>rfl
  |cons x X=>show(PL.okShape [2,0,1]&&(X.map _).all λu=>qaZ u==[2,0,1])=true;rw[List.all_map];exact List.all_eq_true.mpr λy _=>rfl
 unfold qcr;rw[h,Option.bind_some,e,Option.bind_some,if_pos ⟨by rw[List.length_map];exact hl,so⟩]
 congr 2
 show SR.srt (λt=>SR.rank PL.ltKs ((X.map lnT).map _) _) (X.map lnT)=_;rw[<-SR.srt_map (k':=λx:Ln=>SR.rank PL.ltKs (X.map kG) (kG x)) (f:=lnT)]
 ·rfl
 ·intro x;rw[List.map_map];rfl
theorem gKeys_ok{t:T}{X:List Ln}{m:Int}(h:qbJ μ t=some (X.map lnT))(hl:X.length<64):qjM.run F [t,.int m] μ= .ok (.lst ((gKeys X m).map T.str)) μ:=by
 refine qaH rfl ?_;have cm:=qaR (F:=F) (μ:=μ) (ρ:=[some t,some (.int m),some (.lst ((rk X).map lnT))]) (x:=false) (fr:=[]) (ci:=.gen (.sl false (.v 2) none (some (.bn false .max [(.v 1),(.c (.int 0))])))) (e:=.o2 false .ix (.v 0) (.c (.int 1))) ((rk X).take (max m 0).toNat) lnT (λx=>.str x.1.2) (qa1 (t:=.lst (((rk X).take (max m 0).toNat).map lnT)) (by
   simp only[qsy,qrN,List.getElem?_cons_succ,List.getElem?_cons_zero,qfM,qac,qm3,qm2,qhn,qaD,qaM,qm7,qrA,qh0,qoI];rw[qsj qb0 (by omega),List.map_take];rfl) rfl) λx hx=>by simp[lnT]
 have e:(((rk X).take (max m 0).toNat).map λx=>T.str x.1.2)=(gKeys X m).map T.str:=by unfold gKeys;rw[List.map_map];rfl
 rw[e] at cm;simp[qjM,qkv h hl];rw[cm];rfl
structure IW(d:List Ln)(D:List (Int×Nat))(cells:List (List Ln)):Prop where
 n1:(D.map (·.1)).Nodup
 n2:(D.map (·.2)).Nodup
 m: ∀w,w∈D.map (·.1)↔∃x∈d,x.1.1=w
 l:cells.length=d.length
 c: ∀p∈D,cells[p.2]? =some (d.filter λx=>decide (x.1.1=p.1))
def dD(n:Nat)(D:List (Int×Nat)):List (Key×T):=D.map λp=>(.inl p.1,.obj (n+1+p.2))
theorem qh5(n:Nat)(D:List (Int×Nat))(w:Int):qde (dD n D) (.inl w)=(D.find? λp=>decide (p.1=w)).map λp=>.obj (n+1+p.2):=by unfold qde dD;rw[List.find?_map,Option.map_map];have:((λkv:Key×T=>decide (kv.1= .inl w))∘λp:Int×Nat=>((.inl p.1:Key),T.obj (n+1+p.2)))=λp=>decide (p.1=w):=funext λp=>decide_eq_decide.mpr ⟨λh=>by injection h,λh=>by show Sum.inl p.1=_;rw[h]⟩;rw[this];rfl
theorem qoa{D:List (Int×Nat)}(nd:(D.map (·.1)).Nodup){p:Int×Nat}(hp:p∈D):D.find? (λq=>decide (q.1=p.1))=some p:=by
 induction D with
 |nil=>cases hp
 |cons y E ih=>
  rw[List.map_cons,List.nodup_cons] at nd
  rcases List.mem_cons.mp hp with rfl|hp
  ·rw[List.find?_cons_of_pos (by simp)]
  ·rw[List.find?_cons_of_neg,ih nd.2 hp];intro e;exact nd.1 (List.mem_map.mpr ⟨p,hp,(of_decide_eq_true e).symm⟩)
theorem qiM{D:List (Int×Nat)}(nd:(D.map (·.2)).Nodup){p q:Int×Nat}(hp:p∈D)(hq:q∈D)(e:p.2=q.2):p=q:=by
 induction D with
 |nil=>cases hp
 |cons y E ih=>
  rw[List.map_cons,List.nodup_cons] at nd
  rcases List.mem_cons.mp hp with e1|h1<;>rcases List.mem_cons.mp hq with e2|h2
  ·rw[e1,e2]
  ·rw[<-e1] at nd;exact absurd (List.mem_map.mpr ⟨q,h2,e.symm⟩) nd.1
  ·rw[<-e2] at nd;exact absurd (List.mem_map.mpr ⟨p,h1,e⟩) nd.1
  ·exact ih nd.2 h1 h2
theorem IW.old{d:List Ln}{D:List (Int×Nat)}{cells:List (List Ln)}(h:IW d D cells){x:Ln}{p:Int×Nat}(hp:p∈D)(e:p.1=x.1.1):IW (d++[x]) D ((cells++[[]]).set p.2 (d.filter (λy:Ln=>decide (y.1.1=p.1))++[x])):=by
 have aI: ∀q∈D,q.2<cells.length:=λq hq=>(List.getElem?_eq_some_iff.mp (h.c q hq)).1;refine⟨h.n1,h.n2,λw=> ?_,by simp[h.l],λq hq=> ?_⟩
 ·rw[h.m];constructor
  ·rintro⟨y,hy,e⟩;exact⟨y,Vt _ hy,e⟩
  ·rintro⟨y,hy,e'⟩
   rcases List.mem_append.mp hy with hy|hy
   ·exact⟨y,hy,e'⟩
   ·simp at hy;subst hy;exact(h.m w).mp (List.mem_map.mpr ⟨p,hp,e.trans e'⟩)
 ·have:=aI p hp;have:=aI q hq;by_cases c:p.2=q.2
  ·have:=qiM h.n2 hp hq c;subst this;rw[List.getElem?_set_self (by simp;omega),List.filter_append]
   congr 2
   rw[List.filter_cons_of_pos (by simp[e])];rfl
  ·rw[List.getElem?_set_ne c,List.getElem?_append_left (by omega),h.c q hq,List.filter_append,List.filter_cons_of_neg]
   ·simp
   ·intro z;have z:=of_decide_eq_true z;exact c (by rw[show p=q from by have a:=qoa h.n1 hp;have b:=qoa h.n1 hq;rw[<-z,<-e,a] at b;exact Option.some.inj b])
theorem IW.new{d:List Ln}{D:List (Int×Nat)}{cells:List (List Ln)}(h:IW d D cells){x:Ln}(hx:D.find? (λp=>decide (p.1=x.1.1))=none):IW (d++[x]) (D++[(x.1.1,d.length)]) ((cells++[[]]).set d.length [x]):=by
 have aI: ∀q∈D,q.2<cells.length:=λq hq=>(List.getElem?_eq_some_iff.mp (h.c q hq)).1;have aZ: ∀p∈D,p.1≠x.1.1:=λp hp e=>by have:=List.find?_eq_none.mp hx p hp;exact this (Vx e)
 have ic: ∀y∈d,y.1.1≠x.1.1:=λy hy e=>by obtain⟨p,hp,e'⟩:=List.mem_map.mp ((h.m _).mpr ⟨y,hy,rfl⟩);exact aZ p hp (e'.trans e)
 refine⟨?_,?_,λw=> ?_,by simp[h.l],λq hq=> ?_⟩
 ·rw[List.map_append,List.nodup_append];refine⟨h.n1,by simp,λa ha b hb e=> ?_⟩;obtain⟨p,hp,rfl⟩:=List.mem_map.mp ha;simp at hb;exact aZ p hp (e.trans hb)
 ·rw[List.map_append,List.nodup_append];refine⟨h.n2,by simp,λa ha b hb e=> ?_⟩;obtain⟨p,hp,rfl⟩:=List.mem_map.mp ha;simp at hb;have:=aI p hp;have:=h.l;omega
 ·rw[List.map_append,List.mem_append,h.m];constructor
  ·rintro(⟨y,hy,e⟩|e)
   ·exact⟨y,Vt _ hy,e⟩
   ·simp at e;exact⟨x,by simp,e.symm⟩
  ·rintro⟨y,hy,e'⟩
   rcases List.mem_append.mp hy with hy|hy
   ·exact .inl ⟨y,hy,e'⟩
   ·simp at hy;subst hy;exact .inr (by simp[e'])
 ·rcases List.mem_append.mp hq with hq|hq
  ·have:=aI q hq;have:=h.l;rw[List.getElem?_set_ne (by omega),List.getElem?_append_left (by omega),h.c q hq,List.filter_append,List.filter_cons_of_neg]
   ·simp
   ·intro z;exact aZ q hq (of_decide_eq_true z).symm
  ·simp at hq;subst hq;rw[List.getElem?_set_self (by simp[h.l]),List.filter_append,List.filter_cons_of_pos (by simp),List.filter_eq_nil_iff.mpr]
   ·rfl
   ·intro y hy z;exact ic y hy (of_decide_eq_true z)
end
def atW(R:List Ln)(w:Int):List Ln:=R.filter λx=>decide (x.1.1=w)
def winS(R:List Ln):List Int:=SR.sortA ltI (SetL.dd (R.map λx=>x.1.1))
theorem qd7{R:List Ln}{w:Int}:w∈winS R↔∃x∈R,x.1.1=w:=by unfold winS;rw[qiR,SetL.mem_dd,List.mem_map]
def cl(c:List Ln):Ct:=.ls (c.map lnT)
section
variable {F:Fs}{μ:Mu}
theorem qkI{n:Nat}{D:List (Int×Nat)}{w:Int}{j:Nat}(h:D.find? (λp=>decide (p.1=w))=none):qgt (dD n D) (.inl w) (.obj (n+1+j))=dD n (D++[(w,j)]):=by
 unfold qgt;rw[if_neg]
 ·unfold dD;rw[List.map_append];rfl
 ·intro c;obtain⟨kv,hk,e⟩:=List.any_eq_true.mp c;obtain⟨p,hp,rfl⟩:=List.mem_map.mp hk;have e:(Sum.inl p.1:Key)= .inl w:=of_decide_eq_true e;injection e with e
  exact List.find?_eq_none.mp h p hp (Vx e)
theorem greatest_ok {g:Nat} (hg: ∀{μ:Mu} {t:T} {X:List Ln} {m:Int},qbJ μ t=some (X.map lnT)->X.length<64->F g [t,.int m] μ= .ok (.lst ((gKeys X m).map T.str)) μ) {s m:Int} {R:List Ln} (hl:R.length<64):
  (qce g).run F [tblT s R,.int m] μ= .ok (.lst ((winS R).map λw=>.tup [.int w,.lst ((gKeys (atW R w) m).map T.str)])) μ:=by
 have fin: ∃m' cs,Sto μ m' cs/\cs≠[]/\(runSs F (qce g).b [some (tblT s R),some (.int m),none,none] μ).bind outT= .ok (.lst ((winS R).map λw=>.tup [.int w,.lst ((gKeys (atW R w) m).map T.str)])) m':=by
  have key:(∀m' D cells,Sto μ m' (.dk (dD μ.l.length D)::cells.map cl)->IW R D cells->∀x3,(runSs F [.ret (.comp false false 1 [1,2] (.n 0) (.gen (.bn false .srt [(.v 2)])) none (.tup [(.v 0),(.call g [(.o2 false .ix (.v 2) (.v 0)),(.v 1)])]))] [some (tblT s R),some (.int m),some (.obj μ.l.length),x3] m').bind outT= .ok (.lst ((winS R).map λw=>.tup [.int w,.lst ((gKeys (atW R w) m).map T.str)])) m'):=by
   intro m' D cells st iw x3;have h0:=st.at_ 0;rw[Nat.add_zero] at h0;have h0:m'.l[μ.l.length]? =some (.dk (dD μ.l.length D)):=h0;have dl:D.length<64:=by
    have:=List.Nodup.length_le_of_subset (l₁:=D.map (·.2)) (l₂:=List.range R.length) iw.n2 λj hj=>by obtain⟨p,hp,rfl⟩:=List.mem_map.mp hj;have:=(List.getElem?_eq_some_iff.mp (iw.c p hp)).1;rw[List.mem_range,<-iw.l];exact this
    simp at this;omega
   have s0:Bn.g .srt m' [.obj μ.l.length]=some (.l ((winS R).map T.int)):=by
    have e1:qbJ m' (.obj μ.l.length)=none:=by
     have:qcm m' (.obj μ.l.length)=none:=by show sqv m' (.obj μ.l.length)=_;simp only[sqv,h0]
     simp only[qbJ,this]
    have e2:dkv m' (.obj μ.l.length)=some (dD μ.l.length D):=by simp only[dkv,h0]
    have e:qlZ m' (.obj μ.l.length)=some ((D.map (·.1)).map T.int):=by unfold qlZ;rw[e1,e2];show some ((dD _ D).map λp=>qed p.1)=_;unfold dD;rw[List.map_map,List.map_map];rfl
    show(qlZ m' (.obj μ.l.length)).bind _=_;rw[e,Option.bind_some,if_pos ⟨by simpa using dl,qdT _⟩,qil]
    congr 3
    exact qhj ordI iw.n1 (SetL.nodup_dd _) λw=>by rw[iw.m,SetL.mem_dd,List.mem_map]
   have cm:=qaR (F:=F) (μ:=m') (ρ:=[some (tblT s R),some (.int m),some (.obj μ.l.length),x3]) (x:=false) (fr:=[1,2]) (ci:=.gen (.bn false .srt [(.v 2)])) (e:=.tup [(.v 0),(.call g [(.o2 false .ix (.v 2) (.v 0)),(.v 1)])]) (winS R) T.int (λw=>.tup [.int w,.lst ((gKeys (atW R w) m).map T.str)]) (qa1 (t:=.lst ((winS R).map T.int)) (by simp[s0]) rfl) λw hw=>by
    obtain⟨p,hp,e⟩:=List.mem_map.mp ((iw.m w).mpr (qd7.mp hw));have ix:=qtj h0 (show qbM (.int w)=some (.inl w) from rfl);have fd:=qoa iw.n1 hp;rw[e] at fd;rw[qh5,fd] at ix;have bC:=st.at_ (1+p.2);rw[Nat.add_comm 1,List.getElem?_cons_succ,List.getElem?_map,iw.c p hp,e] at bC;have bC:m'.l[μ.l.length+1+p.2]? =some (.ls ((atW R w).map lnT)):=by rw[show μ.l.length+1+p.2=μ.l.length+(p.2+1) by omega];exact bC
    simp[ix];rw[hg (qnP bC) (Nat.lt_of_le_of_lt (List.length_filter_le _ _) hl)];simp
   simp only[qaC,qix];rw[cm];rfl
  have stp: ∀d x r,R=d++x::r->∀ae aa,(λ(d:List Ln) (ae:Ro) (aa:Mu)=> ∃x3 D cells,ae=[some (tblT s R),some (.int m),some (.obj μ.l.length),x3]/\Sto μ aa (.dk (dD μ.l.length D)::cells.map cl)/\IW d D cells) d ae aa->∃aD ak,(qbS (.n 3) (lnT x) ae aa).bind (runSs F [.exp (.bm false .append (.bm false .setdef (.v 2) [(.o2 false .ix (.v 3) (.c (.int 0))),(.lst true [])]) [(.v 3)])])= .ok (.nx aD) ak/\(λ(d:List Ln) (ae:Ro) (aa:Mu)=> ∃x3 D cells,ae=[some (tblT s R),some (.int m),some (.obj μ.l.length),x3]/\Sto μ aa (.dk (dD μ.l.length D)::cells.map cl)/\IW d D cells) (d++[x]) aD ak:=by
   rintro d x r hd ae aa ⟨x3,D,cells,rfl,st,iw⟩;have jh:d.length<64:=by have:=congrArg List.length hd;simp at this;omega
   have eP:=st.add (.ls []);have e0:Ct.dk (dD μ.l.length D)::cells.map cl++[Ct.ls []]=Ct.dk (dD μ.l.length D)::(cells++[[]]).map cl:=by simp[cl]
   rw[e0] at eP;have hn:aa.l.length=μ.l.length+1+d.length:=by rw[st.len];simp[iw.l];omega
   have h0:aa.l[μ.l.length]? =some (.dk (dD μ.l.length D)):=st.at_ 0;have h1:(aa.add (.ls [])).l[μ.l.length]? =some (.dk (dD μ.l.length D)):=eP.at_ 0;have lx:O2.g .ix aa (lnT x) (.int 0)=some (.v (.int x.1.1)):=rfl;cases q:D.find? (λp=>decide (p.1=x.1.1)) with
   |some p=>
    have hp:=List.mem_of_find?_eq_some q;have ep:p.1=x.1.1:=by have:=List.find?_some q;exact of_decide_eq_true this
    have sd:=qjX (x:=.obj aa.l.length) (ow:=false) h1 (show qbM (.int x.1.1)=some (.inl x.1.1) from rfl) (by rw[qh5,q];rfl);have bC:=eP.at_ (p.2+1);rw[List.getElem?_cons_succ,List.getElem?_map,List.getElem?_append_left (List.getElem?_eq_some_iff.mp (iw.c p hp)).1,iw.c p hp] at bC;have bC:(aa.add (.ls [])).l[μ.l.length+1+p.2]? =some (.ls ((d.filter λx=>decide (x.1.1=p.1)).map lnT)):=by rw[show μ.l.length+1+p.2=μ.l.length+(p.2+1) by omega];exact bC
    have ap:=qeq (x:=lnT x) (ow:=false) bC (by rw[List.length_map];have:=List.length_filter_le (λx:Ln=>decide (x.1.1=p.1)) d;omega);have bJ:=eP.put (j:=p.2+1) (cl (d.filter (λy:Ln=>decide (y.1.1=p.1))++[x]));rw[List.set_cons_succ,<-List.map_set] at bJ;refine⟨[some (tblT s R),some (.int m),some (.obj μ.l.length),some (lnT x)],(aa.add (.ls [])).put (μ.l.length+(p.2+1)) (cl (d.filter (λy:Ln=>decide (y.1.1=p.1))++[x])),?_,some (lnT x),D,_,rfl,bJ,iw.old hp ep⟩;simp[qiQ h0,lx];rw[sd];simp[qcV bC,ap];rw[show μ.l.length+1+p.2=μ.l.length+(p.2+1) by omega];simp[cl]
   |none=>
    have vn:qde (dD μ.l.length D) (.inl x.1.1)=none:=by rw[qh5,q];rfl
    have dl:D.length<=1000:=by
     have:=List.Nodup.length_le_of_subset (l₁:=D.map (·.2)) (l₂:=List.range d.length) iw.n2 λj hj=>by obtain⟨p,hp,rfl⟩:=List.mem_map.mp hj;have:=(List.getElem?_eq_some_iff.mp (iw.c p hp)).1;rw[List.mem_range,<-iw.l];exact this
     simp at this;omega
    have sd:=qjY (x:=.obj aa.l.length) (ow:=false) h1 (show qbM (.int x.1.1)=some (.inl x.1.1) from rfl) vn (by unfold dD;rw[List.length_map];exact dl);rw[hn,qkI q] at sd;have bJ:=eP.put (j:=0) (.dk (dD μ.l.length (D++[(x.1.1,d.length)])));rw[List.set_cons_zero,Nat.add_zero] at bJ;have bC:=bJ.at_ (d.length+1);rw[List.getElem?_cons_succ,List.getElem?_map,List.getElem?_append_right (by rw[iw.l];omega),iw.l,Nat.sub_self] at bC;have bC:((aa.add (.ls [])).put μ.l.length (.dk (dD μ.l.length (D++[(x.1.1,d.length)])))).l[μ.l.length+1+d.length]? =some (.ls []):=by rw[show μ.l.length+1+d.length=μ.l.length+(d.length+1) by omega];exact bC
    have ap:=qeq (x:=lnT x) (ow:=false) bC (by simp);have cZ:=bJ.put (j:=d.length+1) (cl [x]);rw[List.set_cons_succ,<-List.map_set] at cZ;refine⟨[some (tblT s R),some (.int m),some (.obj μ.l.length),some (lnT x)],_,?_,some (lnT x),_,_,rfl,cZ,iw.new q⟩;simp[qiQ h0,lx];rw[hn,sd];simp[qcV bC,ap];rw[show μ.l.length+1+d.length=μ.l.length+(d.length+1) by omega];simp[cl]
  obtain⟨ae,m',e1,x3,D,cells,rfl,st,iw⟩:=qe3 (F:=F) (ρ:=[some (tblT s R),some (.int m),some (.obj μ.l.length),none]) (μ:=μ.on (.dk [])) (g:=.n 3) (ci:=.gen (.o2 false .ix (.v 0) (.c (.int 1)))) (b:=[.exp (.bm false .append (.bm false .setdef (.v 2) [(.o2 false .ix (.v 3) (.c (.int 0))),(.lst true [])]) [(.v 3)])]) R lnT (λ(d:List Ln) (ae:Ro) (aa:Mu)=> ∃x3 D cells,ae=[some (tblT s R),some (.int m),some (.obj μ.l.length),x3]/\Sto μ aa (.dk (dD μ.l.length D)::cells.map cl)/\IW d D cells) rfl (qe1 (t:=.tup (R.map lnT)) (by simp[qcX]) (.inr rfl)) ⟨none,[],[],rfl,Sto.on,by simp,by simp,by simp,rfl,λ_ h=>nomatch h⟩ stp;refine⟨m',_,st,by simp,?_⟩;rw[<-key m' D cells st iw x3];simp only[qce,qaC,qby,qiA,qac,Mu.add_on (show ubC (.dk [])=0 from rfl),qaJ,List.set_cons_succ,List.set_cons_zero];rw[e1];rfl
 obtain⟨m',cs,st,hc,e⟩:=fin;refine st.run hc rfl rfl e (qje ?_);show ubs _<=_;rw[qha λt ht=>by
  obtain⟨w,_,rfl⟩:=List.mem_map.mp ht;show ubs [.int w,.lst ((gKeys (atW R w) m).map T.str)]=0;refine qha λt ht=> ?_;simp at ht
  rcases ht with rfl|rfl
  ·rfl
  ·exact qha λt ht=>by obtain⟨k,_,rfl⟩:=List.mem_map.mp ht;rfl]
 exact Nat.zero_le _
end
theorem qow{a b:Int}(ha:0<a)(x:Ln):crs b (crs a x)=crs (a*b) x:=by simp only[crs,Int.ediv_ediv_of_nonneg (Int.le_of_lt ha)]
theorem qov(x:Ln):crs 1 x=x:=by simp only[crs,Int.ediv_one]
theorem qoy{R:List Ln}{a b:Int}(ha:0<a):tab ((tab (R.map (crs a))).map (crs b))=tab (R.map (crs (a*b))):=by
 have:=qib (R.map (crs a)) λp=>(p.1 / b,p.2)
 rw[show(λx:Ln=>(((x.1.1 / b,x.1.2):Pl),x.2))=crs b from rfl] at this;rw[this,List.map_map]
 congr 2
 exact funext λx=>qow ha x
theorem qoz{R:List Ln}(h:qfo R):tab (R.map (crs 1))=R:=by have e:R.map (crs 1)=R.map id:=List.map_congr_left λx _=>qov x;rw[e,List.map_id];exact qgf h
structure Own(s:Int)(rs:List Row)(x:Ln):Prop where
 lo: ∃r∈rs,(lin s r).1=x.1/\r.2.2=x.2.2.2.1
 hi: ∃r∈rs,(lin s r).1=x.1/\r.2.2=x.2.2.2.2
 n:0<=x.2.1
 le:x.2.2.2.1*x.2.1<=x.2.2.1
 ge:x.2.2.1<=x.2.2.2.2*x.2.1
theorem qpO{s:Int}{rs:List Row}(p:Pl)(u v:V4)(h:Own s rs (p,u))(h':Own s rs (p,v)):Own s rs (p,jn u v):=by
 obtain⟨⟨r1,a1,b1,c1⟩,⟨r2,a2,b2,c2⟩,n1,le1,ge1⟩:=h;obtain⟨⟨r3,a3,b3,c3⟩,⟨r4,a4,b4,c4⟩,n2,le2,ge2⟩:=h';simp only at*;refine⟨?_,?_,?_,?_,?_⟩<;>simp only[jn]
 ·by_cases q:u.2.2.1<=v.2.2.1
  ·exact⟨r1,a1,b1,by omega⟩
  ·exact⟨r3,a3,b3,by omega⟩
 ·by_cases q:u.2.2.2<=v.2.2.2
  ·exact⟨r4,a4,b4,by omega⟩
  ·exact⟨r2,a2,b2,by omega⟩
 ·omega
 ·have e1:=Int.mul_le_mul_of_nonneg_right (show min u.2.2.1 v.2.2.1<=u.2.2.1 by omega) n1;have e2:=Int.mul_le_mul_of_nonneg_right (show min u.2.2.1 v.2.2.1<=v.2.2.1 by omega) n2;rw[Int.mul_add];omega
 ·have e1:=Int.mul_le_mul_of_nonneg_right (show u.2.2.2<=max u.2.2.2 v.2.2.2 by omega) n1;have e2:=Int.mul_le_mul_of_nonneg_right (show v.2.2.2<=max u.2.2.2 v.2.2.2 by omega) n2;rw[Int.mul_add];omega
theorem qnr(s:Int)(rs:List Row): ∀x∈tab (rs.map (lin s)),Own s rs x:=
 (qaT _).red.all qpO λx hx=>by obtain⟨r,hr,rfl⟩:=List.mem_map.mp hx;exact⟨⟨r,hr,rfl,rfl⟩,⟨r,hr,rfl,rfl⟩,by show(0:Int)<=1;decide,by show r.2.2*1<=r.2.2;omega,by show r.2.2<=r.2.2*1;omega⟩
theorem qku(s:Int)(rs:List Row):((tab (rs.map (lin s))).map λx=>x.2.1).sum=(rs.length:Int):=by
 rw[<-(qaT (rs.map (lin s))).red.sum (f:=λv=>v.1) λ_ _=>rfl,List.map_map]
 induction rs with
 |nil=>rfl
 |cons r rs ih=>rw[List.map_cons,List.sum_cons,ih];show(1:Int)+_=_;simp;omega
theorem qmP(s:Int)(rs:List Row):((tab (rs.map (lin s))).map λx=>x.2.2.1).sum=(rs.map λr=>r.2.2).sum:=by rw[<-(qaT (rs.map (lin s))).red.sum (f:=λv=>v.2.1) λ_ _=>rfl,List.map_map];rfl
theorem qmK(s:Int)(rs:List Row)(k:Str):tab ((rs.filter λr=>decide (r.2.1=k)).map (lin s))=(tab (rs.map (lin s))).filter λx=>decide (x.1.2=k):=by rw[<-qhg (rs.map (lin s)) λp=>decide (p.2=k),List.filter_map];rfl
theorem qmL{s:Int}{rs:List Row}(h: ∀r∈rs,rowOk r):tab ((tab (rs.map (lin s))).map zr)=tab (rs.map (lin 100)):=by
 have:=qib (rs.map (lin s)) λp=>(0,p.2)
 rw[show(λx:Ln=>(((0,x.1.2):Pl),x.2))=zr from rfl] at this;rw[this,List.map_map]
 congr 1
 refine List.map_congr_left λr hr=> ?_;have:=(h r hr).1;show((0,r.2.1),_)=((r.1 / 100,r.2.1),_)
 rw[show r.1 / 100=0 by omega];rfl
theorem qgm(L:List Ln):qfo (tab L):=(qaT L).rise
theorem qrD{R:List Ln}(h:qfo R){y:Ln}(hy:y∈R):R.filter (λx=>decide (x.1=y.1))=[y]:=by
 have nd:=h.nodup;clear h
 induction R with
 |nil=>cases hy
 |cons x R ih=>
  rw[List.map_cons,List.nodup_cons] at nd
  rcases List.mem_cons.mp hy with rfl|hy
  ·rw[List.filter_cons_of_pos (by simp),List.filter_eq_nil_iff.mpr];intro z hz e;exact nd.1 (List.mem_map.mpr ⟨z,hz,of_decide_eq_true e⟩)
  ·rw[List.filter_cons_of_neg,ih hy nd.2];intro e;exact nd.1 (List.mem_map.mpr ⟨y,hy,(of_decide_eq_true e).symm⟩)
theorem qnN{bs:List Int}{m:Int}(hm:m∈bs)(h: ∀b∈bs,b<=m):PL.maxI bs=m:=by
 have go: ∀(xs:List Int) (x:Int),x<=m->(∀b∈xs,b<=m)->(x=m\/m∈xs)->xs.foldl (λa b=>if a<b then b else a) x=m:=by
  intro xs
  induction xs with
  |nil=>intro x _ _ h;rcases h with h|h;exact h;cases h
  |cons y ys ih=>
   intro x hx hb h;have hy:=hb y Vk;rw[List.foldl_cons];refine ih _ (by split<;>omega) (λb aR=>hb b (Vl _ aR)) ?_
   rcases h with h|h
   ·left;split<;>omega
   ·rcases List.mem_cons.mp h with h|h
    ·left;split<;>omega
    ·exact .inr h
 cases bs with
 |nil=>cases hm
 |cons x xs=>exact go xs x (h x Vk) (λb hb=>h b (Vl _ hb)) ((List.mem_cons.mp hm).imp Eq.symm id)
structure qua(R:List Ln)(w:Int)(y:Ln):Prop where
 k: ∃ks,gKeys (atW R w) 3=y.1.2::ks
 m:y∈R
 e:y.1.1=w
 g: ∀x∈atW R w,x.2.2.1<=y.2.2.1
theorem qtf{R:List Ln}{w:Int}(h:w∈winS R): ∃y,qua R w y:=by
 obtain⟨x,hx,e⟩:=qd7.mp h;have hm:x∈atW R w:=List.mem_filter.mpr ⟨hx,Vx e⟩;have hl:=ql2 (atW R w);cases q:rk (atW R w) with
 |nil=>rw[q] at hl;have:=List.length_pos_of_mem hm;simp at hl;omega
 |cons y Y=>obtain⟨a,b⟩:=qkz q;obtain⟨a1,a2⟩:=List.mem_filter.mp a;refine⟨y,⟨⟨(Y.take 2).map λx=>x.1.2,?_⟩,a1,of_decide_eq_true a2,b⟩⟩;unfold gKeys;rw[q];rfl
theorem qfV{R:List Ln}(h:qfo R)(w m:Int):(gKeys (atW R w) m).Nodup:=by
 unfold gKeys;have nd:((atW R w).map (·.1)).Nodup:=qfo.nodup (R:=atW R w) (List.Pairwise.filter _ h);have gP:((atW R w).map λx=>x.1.2).Nodup:=by rw[List.Nodup,List.pairwise_map] at nd⊢;refine List.Pairwise.imp_of_mem ?_ nd;intro x y hx hy ne e;have ex:=of_decide_eq_true (List.mem_filter.mp hx).2;have ey:=of_decide_eq_true (List.mem_filter.mp hy).2;exact ne (Prod.ext (ex.trans ey.symm) e)
 have nd3:((rk (atW R w)).map λx=>x.1.2).Nodup:=(((SR.perm_srt _).map _).nodup_iff).mpr gP;rw[List.map_take];exact nd3.sublist (List.take_sublist _ _)
theorem qjc(X:List Ln):(gKeys X 3).length=min 3 X.length:=by unfold gKeys;rw[List.length_map,List.length_take,ql2];rfl
theorem qrb{α:Type}[DecidableEq α]{l:List α}(h:l.Nodup):(SetL.dd l).length=l.length:=((List.perm_ext_iff_of_nodup (SetL.nodup_dd l) h).mpr λ_=>SetL.mem_dd).length_eq
end Tb
namespace K41
open PySem NV
def top(i:Nat):Stmt:=PySem.Challenge.pw_rowasks_k41_whole_tables_parted.main.body.getD i (.Pass ⟨0,0,0,0⟩)
def gx:Gx where
 fs:=[("is_whole",top 8),("is_whole_within",top 9),("is_word",top 10),("is_key",top 11),("is_row",top 12),("refuse_what_is_no_row",top 13),("rising_lines",top 15),("numbers_together",top 16),("table_of",top 17),("led_together",top 18),("coarser",top 19),("by_key",top 20),("greatest",top 21),("greatest_keys",top 22),("_law_cell",top 24),("_law_pick",top 25),("_law_key",top 26),("_law_number",top 27),("_law_rows",top 28),("law",top 29)]
 cs:=[("GREATEST_MOMENT",.int (99)),("GREATEST_NUMBER",.int (99)),("LONGEST_KEY",.int (2))]
 ex:=[("AskError",["AskError", "ValueError"]),("NoRow",["NoRow", "AskError", "ValueError"]),("Unlike",["Unlike", "AskError", "ValueError"])]
 cl:=[]
 ow:=[(33,12),(52,14),(54,36),(83,16)]
 fz:=[]
 xc:=[]
 kp:=["_law_rows"]
 lm:=["greatest_keys"]
 wd:=[]
def qc6:Fcd:=⟨false,1,1,[.ret (.and (.inst "int" (.v 0)) (.nt (.inst "bool" (.v 0))))]⟩
theorem qfq(k:Nat):TTf gx (k+1) 0=qc6.run (TTf gx k):=congrArg (Fcd.run (TTf gx k)) (show cFn gx ("is_whole",top 8)=qc6 by kernel_rfl)
def qaS:Fcd:=⟨false,3,3,[.ret (.and (.call 0 [(.v 0)]) (.chain .le .le (.v 1) (.v 0) (.v 2)))]⟩
theorem qbQ(k:Nat):TTf gx (k+1) 1=qaS.run (TTf gx k):=congrArg (Fcd.run (TTf gx k)) (show cFn gx ("is_whole_within",top 9)=qaS by kernel_rfl)
def qdF:Fcd:=⟨false,2,2,[.ife (.or (.nt (.inst "str" (.v 0))) (.nt (.chain .le .le (.c (.int 1)) (.bn false .len [(.v 0)]) (.v 1)))) [.ret (.c (.bl false))] [],.ret (.bn false .all [(.comp false false 1 [] (.n 0) (.gen (.v 0)) none (.chain .le .le (.c (.str "a")) (.v 0) (.c (.str "z"))))])]⟩
theorem qhd(k:Nat):TTf gx (k+1) 2=qdF.run (TTf gx k):=congrArg (Fcd.run (TTf gx k)) (show cFn gx ("is_word",top 10)=qdF by kernel_rfl)
def qfd:Fcd:=⟨false,1,1,[.ret (.call 2 [(.v 0),(.c (.int 2))])]⟩
theorem qh9(k:Nat):TTf gx (k+1) 3=qfd.run (TTf gx k):=congrArg (Fcd.run (TTf gx k)) (show cFn gx ("is_key",top 11)=qfd by kernel_rfl)
def qfc:Fcd:=⟨false,1,1,[.ife (.or (.nt (.inst "tuple" (.v 0))) (.o2 false .ne (.bn false .len [(.v 0)]) (.c (.int 3)))) [.ret (.c (.bl false))] [],.ife (.or (.nt (.call 1 [(.o2 false .ix (.v 0) (.c (.int 0))),(.c (.int 0)),(.c (.int 99))])) (.nt (.call 3 [(.o2 false .ix (.v 0) (.c (.int 1)))]))) [.ret (.c (.bl false))] [],.ret (.call 1 [(.o2 false .ix (.v 0) (.c (.int 2))),(.neg (.c (.int 99))),(.c (.int 99))])]⟩
theorem qh8(k:Nat):TTf gx (k+1) 4=qfc.run (TTf gx k):=congrArg (Fcd.run (TTf gx k)) (show cFn gx ("is_row",top 12)=qfc by kernel_rfl)
def qaB:Fcd:=⟨false,1,1,[.ife (.nt (.bn false .all [(.comp false false 1 [] (.n 0) (.gen (.v 0)) none (.call 4 [(.v 0)]))])) [.raise "NoRow"] []]⟩
theorem qaX(k:Nat):TTf gx (k+1) 5=qaB.run (TTf gx k):=congrArg (Fcd.run (TTf gx k)) (show cFn gx ("refuse_what_is_no_row",top 13)=qaB by kernel_rfl)
def qbn:Fcd:=⟨false,1,4,[.set 1 (.dct true),.for_ (.n 2) (.gen (.v 0)) [.set 3 (.sl false (.v 2) none (some (.c (.int 2)))),.put (.v 1) (.v 3) (.ife (.o2 false .in_ (.v 3) (.v 1)) (.call 7 [(.o2 false .ix (.v 1) (.v 3)),(.sl false (.v 2) (some (.c (.int 2))) none)]) (.sl false (.v 2) (some (.c (.int 2))) none))],.ret (.bn false .tup [(.comp false false 1 [1] (.n 0) (.gen (.bn false .srt [(.v 1)])) none (.o2 false .add (.v 0) (.o2 false .ix (.v 1) (.v 0))))])]⟩
theorem qcN(k:Nat):TTf gx (k+1) 6=qbn.run (TTf gx k):=congrArg (Fcd.run (TTf gx k)) (show cFn gx ("rising_lines",top 15)=qbn by kernel_rfl)
def qaO:Fcd:=⟨false,2,2,[.ret (.tup [(.o2 false .add (.o2 false .ix (.v 0) (.c (.int 0))) (.o2 false .ix (.v 1) (.c (.int 0)))),(.o2 false .add (.o2 false .ix (.v 0) (.c (.int 1))) (.o2 false .ix (.v 1) (.c (.int 1)))),(.bn false .min [(.o2 false .ix (.v 0) (.c (.int 2))),(.o2 false .ix (.v 1) (.c (.int 2)))]),(.bn false .max [(.o2 false .ix (.v 0) (.c (.int 3))),(.o2 false .ix (.v 1) (.c (.int 3)))])])]⟩
theorem qbD(k:Nat):TTf gx (k+1) 7=qaO.run (TTf gx k):=congrArg (Fcd.run (TTf gx k)) (show cFn gx ("numbers_together",top 16)=qaO by kernel_rfl)
def qc5:Fcd:=⟨false,2,2,[.exp (.call 5 [(.v 1)]),.ret (.tup [(.v 0),(.call 6 [(.comp false false 3 [0] (.tup [(.n 0),(.n 1),(.n 2)]) (.gen (.v 1)) none (.tup [(.o2 false .div (.v 0) (.v 3)),(.v 1),(.c (.int 1)),(.v 2),(.v 2),(.v 2)]))])])]⟩
theorem qfp(k:Nat):TTf gx (k+1) 8=qc5.run (TTf gx k):=congrArg (Fcd.run (TTf gx k)) (show cFn gx ("table_of",top 17)=qc5 by kernel_rfl)
def qbo:Fcd:=⟨false,2,2,[.ife (.o2 false .ne (.o2 false .ix (.v 0) (.c (.int 0))) (.o2 false .ix (.v 1) (.c (.int 0)))) [.raise "Unlike"] [],.ret (.tup [(.o2 false .ix (.v 0) (.c (.int 0))),(.call 6 [(.o2 false .add (.o2 false .ix (.v 0) (.c (.int 1))) (.o2 false .ix (.v 1) (.c (.int 1))))])])]⟩
theorem qcO(k:Nat):TTf gx (k+1) 9=qbo.run (TTf gx k):=congrArg (Fcd.run (TTf gx k)) (show cFn gx ("led_together",top 18)=qbo by kernel_rfl)
def qdG:Fcd:=⟨false,2,2,[.ret (.tup [(.o2 false .mul (.o2 false .ix (.v 0) (.c (.int 0))) (.v 1)),(.call 6 [(.comp false false 1 [1] (.n 0) (.gen (.o2 false .ix (.v 0) (.c (.int 1)))) none (.o2 false .add (.tup [(.o2 false .div (.o2 false .ix (.v 0) (.c (.int 0))) (.v 1))]) (.sl false (.v 0) (some (.c (.int 1))) none)))])])]⟩
theorem qhe(k:Nat):TTf gx (k+1) 10=qdG.run (TTf gx k):=congrArg (Fcd.run (TTf gx k)) (show cFn gx ("coarser",top 19)=qdG by kernel_rfl)
def qfe:Fcd:=⟨false,1,1,[.ret (.comp false false 1 [] (.n 0) (.gen (.call 6 [(.comp false false 1 [] (.n 0) (.gen (.o2 false .ix (.v 0) (.c (.int 1)))) none (.o2 false .add (.tup [(.c (.int 0))]) (.sl false (.v 0) (some (.c (.int 1))) none)))])) none (.sl false (.v 0) (some (.c (.int 1))) none))]⟩
theorem qia(k:Nat):TTf gx (k+1) 11=qfe.run (TTf gx k):=congrArg (Fcd.run (TTf gx k)) (show cFn gx ("by_key",top 20)=qfe by kernel_rfl)
def qc7:Fcd:=⟨false,2,4,[.set 2 (.dct true),.for_ (.n 3) (.gen (.o2 false .ix (.v 0) (.c (.int 1)))) [.exp (.bm false .append (.bm false .setdef (.v 2) [(.o2 false .ix (.v 3) (.c (.int 0))),(.lst true [])]) [(.v 3)])],.ret (.comp false false 1 [1,2] (.n 0) (.gen (.bn false .srt [(.v 2)])) none (.tup [(.v 0),(.call 13 [(.o2 false .ix (.v 2) (.v 0)),(.v 1)])]))]⟩
theorem qfr(k:Nat):TTf gx (k+1) 12=qc7.run (TTf gx k):=congrArg (Fcd.run (TTf gx k)) (show cFn gx ("greatest",top 21)=qc7 by kernel_rfl)
def qbg:Fcd:=⟨false,2,3,[.set 2 (.srtK false (.parts [(true,3),(false,1)]) (.v 0)),.ret (.comp false false 1 [] (.n 0) (.gen (.sl false (.v 2) none (some (.bn false .max [(.v 1),(.c (.int 0))])))) none (.o2 false .ix (.v 0) (.c (.int 1))))]⟩
theorem qcx(k:Nat):TTf gx (k+1) 13=qbg.run (TTf gx k):=congrArg (Fcd.run (TTf gx k)) (show cFn gx ("greatest_keys",top 22)=qbg by kernel_rfl)
def qcw:Fcd:=⟨false,2,2,[.ife (.o2 false .lt (.v 1) (.bn false .len [(.v 0)])) [.ret (.o2 false .ix (.v 0) (.v 1))] [],.ife (.o2 false .eq (.v 0) (.lst false [])) [.ret (.c (.int 0))] [],.ret (.o2 false .add (.o2 false .mul (.o2 false .ix (.v 0) (.o2 false .mod (.v 1) (.bn false .len [(.v 0)]))) (.c (.int 31))) (.v 1))]⟩
theorem qex(k:Nat):TTf gx (k+1) 14=qcw.run (TTf gx k):=congrArg (Fcd.run (TTf gx k)) (show cFn gx ("_law_cell",top 24)=qcw by kernel_rfl)
def qcv:Fcd:=⟨false,3,4,[.set 3 (.o2 false .mod (.o2 false .mul (.o2 false .add (.call 14 [(.v 0),(.v 1)]) (.o2 false .mul (.c (.int 6151)) (.o2 false .add (.v 1) (.c (.int 1))))) (.c (.int 40692))) (.c (.int 2147483399))),.ret (.o2 false .mod (.o2 false .mod (.o2 false .add (.o2 false .mul (.v 3) (.v 3)) (.o2 false .div (.v 3) (.c (.int 31)))) (.c (.int 2147483629))) (.v 2))]⟩
theorem qew(k:Nat):TTf gx (k+1) 15=qcv.run (TTf gx k):=congrArg (Fcd.run (TTf gx k)) (show cFn gx ("_law_pick",top 25)=qcv by kernel_rfl)
def qc8:Fcd:=⟨false,2,5,[.set 2 (.c (.str "abcdefghijklmnopqrstuvwxyz")),.set 3 (.call 15 [(.v 0),(.v 1),(.c (.int 16))]),.ife (.o2 false .gt (.v 3) (.c (.int 0))) [.ret (.o2 false .ix (.lst false [(.c (.str "a")),(.c (.str "b")),(.c (.str "ab"))]) (.o2 false .mod (.v 3) (.c (.int 3))))] [],.set 4 (.o2 false .ix (.v 2) (.call 15 [(.v 0),(.o2 false .add (.v 1) (.c (.int 1))),(.c (.int 26))])),.ife (.o2 false .eq (.call 15 [(.v 0),(.o2 false .add (.v 1) (.c (.int 2))),(.c (.int 2))]) (.c (.int 0))) [.ret (.v 4)] [],.ret (.o2 false .add (.v 4) (.o2 false .ix (.v 2) (.call 15 [(.v 0),(.o2 false .add (.v 1) (.c (.int 3))),(.c (.int 26))])))]⟩
theorem qfs(k:Nat):TTf gx (k+1) 16=qc8.run (TTf gx k):=congrArg (Fcd.run (TTf gx k)) (show cFn gx ("_law_key",top 26)=qc8 by kernel_rfl)
def qbB:Fcd:=⟨false,3,3,[.ife (.o2 false .eq (.call 15 [(.v 0),(.v 1),(.c (.int 8))]) (.c (.int 0))) [.ret (.o2 false .sub (.call 15 [(.v 0),(.o2 false .add (.v 1) (.c (.int 1))),(.o2 false .add (.o2 false .mul (.c (.int 2)) (.v 2)) (.c (.int 1)))]) (.v 2))] [],.ret (.o2 false .sub (.call 15 [(.v 0),(.o2 false .add (.v 1) (.c (.int 1))),(.c (.int 9))]) (.c (.int 4)))]⟩
theorem qdf(k:Nat):TTf gx (k+1) 17=qbB.run (TTf gx k):=congrArg (Fcd.run (TTf gx k)) (show cFn gx ("_law_number",top 27)=qbB by kernel_rfl)
def qcu:Fcd:=⟨true,3,8,[.set 3 (.lst true []),.set 4 (.call 15 [(.v 0),(.v 1),(.c (.int 9))]),.set 5 (.o2 false .ix (.lst false [(.c (.int 1)),(.c (.int 3)),(.c (.int 6)),(.c (.int 14))]) (.call 15 [(.v 0),(.o2 false .add (.v 1) (.c (.int 1))),(.c (.int 4))])),.for_ (.n 6) (.by_ .rng1 [(.call 15 [(.v 0),(.o2 false .add (.v 1) (.c (.int 2))),(.o2 false .add (.v 2) (.c (.int 1)))])]) [.set 7 (.o2 false .add (.o2 false .add (.v 1) (.c (.int 10))) (.o2 false .mul (.c (.int 8)) (.v 6))),.set 4 (.bn false .min [(.c (.int 99)),(.o2 false .add (.v 4) (.call 15 [(.v 0),(.v 7),(.v 5)]))]),.exp (.bm false .append (.v 3) [(.tup [(.v 4),(.call 16 [(.v 0),(.o2 false .add (.v 7) (.c (.int 1)))]),(.call 17 [(.v 0),(.o2 false .add (.v 7) (.c (.int 5))),(.c (.int 99))])])])],.ret (.v 3)]⟩
theorem qev(k:Nat):TTf gx (k+1) 18=qcu.run (TTf gx k):=congrArg (Fcd.run (TTf gx k)) (show cFn gx ("_law_rows",top 28)=qcu by kernel_rfl)
def qgX:Fcd:=⟨false,1,18,[.set 1 (.call 18 [(.v 0),(.c (.int 100)),(.c (.int 12))]),.for_ (.n 2) (.by_ .rng1 [(.bn false .len [(.v 1)])]) [.exp (.bm false .insert (.v 1) [(.call 15 [(.v 0),(.o2 false .add (.c (.int 300)) (.v 2)),(.bn false .len [(.v 1)])]),(.alt (.bm false .pop (.v 1) []) (.bm false .dpop (.v 1) []))])],.set 3 (.o2 false .add (.c (.int 1)) (.call 15 [(.v 0),(.c (.int 0)),(.c (.int 9))])),.set 4 (.call 8 [(.v 3),(.v 1)]),.par [5,6] [(.o2 false .add (.c (.int 1)) (.call 15 [(.v 0),(.c (.int 1)),(.c (.int 3))])),(.o2 false .add (.c (.int 1)) (.call 15 [(.v 0),(.c (.int 2)),(.c (.int 3))]))],.ife (.or (.o2 false .ne (.call 10 [(.call 10 [(.v 4),(.v 5)]),(.v 6)]) (.call 10 [(.v 4),(.o2 false .mul (.v 5) (.v 6))])) (.o2 false .ne (.call 10 [(.v 4),(.c (.int 1))]) (.v 4))) [.ret (.c (.bl false))] [],.set 7 (.bn false .sum [(.comp false false 1 [] (.n 0) (.gen (.o2 false .ix (.v 4) (.c (.int 1)))) none (.o2 false .ix (.v 0) (.c (.int 3))))]),.ife (.or (.o2 false .ne (.bn false .sum [(.comp false false 1 [] (.n 0) (.gen (.o2 false .ix (.v 4) (.c (.int 1)))) none (.o2 false .ix (.v 0) (.c (.int 2))))]) (.bn false .len [(.v 1)])) (.o2 false .ne (.v 7) (.bn false .sum [(.comp false false 1 [] (.n 0) (.gen (.v 1)) none (.o2 false .ix (.v 0) (.c (.int 2))))]))) [.ret (.c (.bl false))] [],.for_ (.tup [(.n 8),(.n 9),(.n 10),(.n 7),(.n 11),(.n 12)]) (.gen (.o2 false .ix (.v 4) (.c (.int 1)))) [.set 13 (.comp false false 1 [9,3,8] (.n 0) (.gen (.v 1)) (some (.and (.o2 false .eq (.o2 false .ix (.v 0) (.c (.int 1))) (.v 1)) (.o2 false .eq (.o2 false .div (.o2 false .ix (.v 0) (.c (.int 0))) (.v 2)) (.v 3)))) (.o2 false .ix (.v 0) (.c (.int 2)))),.ife (.or (.o2 false .nin (.v 11) (.v 13)) (.or (.o2 false .nin (.v 12) (.v 13)) (.nt (.chain .le .le (.o2 false .mul (.v 11) (.v 10)) (.v 7) (.o2 false .mul (.v 12) (.v 10)))))) [.ret (.c (.bl false))] []],.for_ (.n 9) (.gen (.sset false (.comp false false 1 [] (.n 0) (.gen (.v 1)) none (.o2 false .ix (.v 0) (.c (.int 1)))))) [.set 14 (.comp false false 1 [9] (.n 0) (.gen (.v 1)) (some (.o2 false .eq (.o2 false .ix (.v 0) (.c (.int 1))) (.v 1))) (.v 0)),.ife (.o2 false .ne (.o2 false .ix (.call 8 [(.v 3),(.v 14)]) (.c (.int 1))) (.bn false .tup [(.comp false false 1 [9] (.n 0) (.gen (.o2 false .ix (.v 4) (.c (.int 1)))) (some (.o2 false .eq (.o2 false .ix (.v 0) (.c (.int 1))) (.v 1))) (.v 0))])) [.ret (.c (.bl false))] []],.ife (.or (.o2 false .ne (.comp false false 1 [] (.n 0) (.gen (.o2 false .ix (.call 8 [(.c (.int 100)),(.v 1)]) (.c (.int 1)))) none (.sl false (.v 0) (some (.c (.int 1))) none)) (.call 11 [(.v 4)])) (.o2 false .ne (.call 9 [(.v 4),(.tup [(.v 3),(.tup [])])]) (.v 4))) [.ret (.c (.bl false))] [],.for_ (.tup [(.n 8),(.n 15)]) (.gen (.call 12 [(.v 4),(.c (.int 3))])) [.set 16 (.comp false false 1 [8] (.n 0) (.gen (.o2 false .ix (.v 4) (.c (.int 1)))) (some (.o2 false .eq (.o2 false .ix (.v 0) (.c (.int 0))) (.v 1))) (.o2 false .ix (.v 0) (.c (.int 3)))),.ife (.or (.o2 false .ne (.slen (.v 15)) (.bn false .len [(.v 15)])) (.o2 false .ne (.bn false .len [(.v 15)]) (.bn false .min [(.c (.int 3)),(.bn false .len [(.v 16)])]))) [.ret (.c (.bl false))] [],.set 17 (.comp false false 1 [15,8] (.n 0) (.gen (.o2 false .ix (.v 4) (.c (.int 1)))) (some (.o2 false .eq (.sl false (.v 0) none (some (.c (.int 2)))) (.tup [(.v 2),(.o2 false .ix (.v 1) (.c (.int 0)))]))) (.o2 false .ix (.v 0) (.c (.int 3)))),.ife (.o2 false .ne (.v 17) (.lst false [(.bn false .max [(.v 16)])])) [.ret (.c (.bl false))] []],.ret (.o2 false .eq (.comp false false 2 [] (.tup [(.n 0),(.n 1)]) (.gen (.call 12 [(.v 4),(.c (.int 0))])) none (.v 0)) (.sset false (.comp false false 1 [] (.n 0) (.gen (.o2 false .ix (.v 4) (.c (.int 1)))) none (.o2 false .ix (.v 0) (.c (.int 0))))))]⟩
theorem qoX(k:Nat):TTf gx (k+1) 19=qgX.run (TTf gx k):=congrArg (Fcd.run (TTf gx k)) (show cFn gx ("law",top 29)=qgX by kernel_rfl)
def S0:CS:=.set 1 (.call 18 [(.v 0),(.c (.int 100)),(.c (.int 12))])
def S1:CS:=.for_ (.n 2) (.by_ .rng1 [(.bn false .len [(.v 1)])]) [.exp (.bm false .insert (.v 1) [(.call 15 [(.v 0),(.o2 false .add (.c (.int 300)) (.v 2)),(.bn false .len [(.v 1)])]),(.alt (.bm false .pop (.v 1) []) (.bm false .dpop (.v 1) []))])]
def S2:CS:=.set 3 (.o2 false .add (.c (.int 1)) (.call 15 [(.v 0),(.c (.int 0)),(.c (.int 9))]))
def S3:CS:=.set 4 (.call 8 [(.v 3),(.v 1)])
def S4:CS:=.par [5,6] [(.o2 false .add (.c (.int 1)) (.call 15 [(.v 0),(.c (.int 1)),(.c (.int 3))])),(.o2 false .add (.c (.int 1)) (.call 15 [(.v 0),(.c (.int 2)),(.c (.int 3))]))]
def S5:CS:=.ife (.or (.o2 false .ne (.call 10 [(.call 10 [(.v 4),(.v 5)]),(.v 6)]) (.call 10 [(.v 4),(.o2 false .mul (.v 5) (.v 6))])) (.o2 false .ne (.call 10 [(.v 4),(.c (.int 1))]) (.v 4))) [.ret (.c (.bl false))] []
def S6:CS:=.set 7 (.bn false .sum [(.comp false false 1 [] (.n 0) (.gen (.o2 false .ix (.v 4) (.c (.int 1)))) none (.o2 false .ix (.v 0) (.c (.int 3))))])
def S7:CS:=.ife (.or (.o2 false .ne (.bn false .sum [(.comp false false 1 [] (.n 0) (.gen (.o2 false .ix (.v 4) (.c (.int 1)))) none (.o2 false .ix (.v 0) (.c (.int 2))))]) (.bn false .len [(.v 1)])) (.o2 false .ne (.v 7) (.bn false .sum [(.comp false false 1 [] (.n 0) (.gen (.v 1)) none (.o2 false .ix (.v 0) (.c (.int 2))))]))) [.ret (.c (.bl false))] []
def S8:CS:=.for_ (.tup [(.n 8),(.n 9),(.n 10),(.n 7),(.n 11),(.n 12)]) (.gen (.o2 false .ix (.v 4) (.c (.int 1)))) [.set 13 (.comp false false 1 [9,3,8] (.n 0) (.gen (.v 1)) (some (.and (.o2 false .eq (.o2 false .ix (.v 0) (.c (.int 1))) (.v 1)) (.o2 false .eq (.o2 false .div (.o2 false .ix (.v 0) (.c (.int 0))) (.v 2)) (.v 3)))) (.o2 false .ix (.v 0) (.c (.int 2)))),.ife (.or (.o2 false .nin (.v 11) (.v 13)) (.or (.o2 false .nin (.v 12) (.v 13)) (.nt (.chain .le .le (.o2 false .mul (.v 11) (.v 10)) (.v 7) (.o2 false .mul (.v 12) (.v 10)))))) [.ret (.c (.bl false))] []]
def S9:CS:=.for_ (.n 9) (.gen (.sset false (.comp false false 1 [] (.n 0) (.gen (.v 1)) none (.o2 false .ix (.v 0) (.c (.int 1)))))) [.set 14 (.comp false false 1 [9] (.n 0) (.gen (.v 1)) (some (.o2 false .eq (.o2 false .ix (.v 0) (.c (.int 1))) (.v 1))) (.v 0)),.ife (.o2 false .ne (.o2 false .ix (.call 8 [(.v 3),(.v 14)]) (.c (.int 1))) (.bn false .tup [(.comp false false 1 [9] (.n 0) (.gen (.o2 false .ix (.v 4) (.c (.int 1)))) (some (.o2 false .eq (.o2 false .ix (.v 0) (.c (.int 1))) (.v 1))) (.v 0))])) [.ret (.c (.bl false))] []]
def S10:CS:=.ife (.or (.o2 false .ne (.comp false false 1 [] (.n 0) (.gen (.o2 false .ix (.call 8 [(.c (.int 100)),(.v 1)]) (.c (.int 1)))) none (.sl false (.v 0) (some (.c (.int 1))) none)) (.call 11 [(.v 4)])) (.o2 false .ne (.call 9 [(.v 4),(.tup [(.v 3),(.tup [])])]) (.v 4))) [.ret (.c (.bl false))] []
def S11:CS:=.for_ (.tup [(.n 8),(.n 15)]) (.gen (.call 12 [(.v 4),(.c (.int 3))])) [.set 16 (.comp false false 1 [8] (.n 0) (.gen (.o2 false .ix (.v 4) (.c (.int 1)))) (some (.o2 false .eq (.o2 false .ix (.v 0) (.c (.int 0))) (.v 1))) (.o2 false .ix (.v 0) (.c (.int 3)))),.ife (.or (.o2 false .ne (.slen (.v 15)) (.bn false .len [(.v 15)])) (.o2 false .ne (.bn false .len [(.v 15)]) (.bn false .min [(.c (.int 3)),(.bn false .len [(.v 16)])]))) [.ret (.c (.bl false))] [],.set 17 (.comp false false 1 [15,8] (.n 0) (.gen (.o2 false .ix (.v 4) (.c (.int 1)))) (some (.o2 false .eq (.sl false (.v 0) none (some (.c (.int 2)))) (.tup [(.v 2),(.o2 false .ix (.v 1) (.c (.int 0)))]))) (.o2 false .ix (.v 0) (.c (.int 3)))),.ife (.o2 false .ne (.v 17) (.lst false [(.bn false .max [(.v 16)])])) [.ret (.c (.bl false))] []]
def S12:CS:=.ret (.o2 false .eq (.comp false false 2 [] (.tup [(.n 0),(.n 1)]) (.gen (.call 12 [(.v 4),(.c (.int 0))])) none (.v 0)) (.sset false (.comp false false 1 [] (.n 0) (.gen (.o2 false .ix (.v 4) (.c (.int 1)))) none (.o2 false .ix (.v 0) (.c (.int 0))))))
theorem qs2:qgX.b=[S0,S1,S2,S3,S4,S5,S6,S7,S8,S9,S10,S11,S12]:=rfl
variable {μ:Mu}{k:Nat}
theorem qm0{i:Int}:TTf gx (k+1) 0 [.int i] μ= .ok (.bl true) μ:=by rw[qfq];exact qki
theorem qkD{i a b:Int}:TTf gx (k+2) 1 [.int i,.int a,.int b] μ= .ok (.bl (decide (a<=i)&&decide (i<=b))) μ:=by rw[qbQ];exact qh3 qm0
theorem qpj{x:Str}(h:keyOk x):TTf gx (k+1) 2 [.str x,.int 2] μ= .ok (.bl true) μ:=by rw[qhd];exact qmD h
theorem qsp{x:Str}(h:keyOk x):TTf gx (k+2) 3 [.str x] μ= .ok (.bl true) μ:=by rw[qh9];exact qle (qpj h)
theorem qsn{r:Row}(h:rowOk r):TTf gx (k+3) 4 [qaG r] μ= .ok (.bl true) μ:=by rw[qh8];exact qld h (λ_ _ _=>qkD) λ_=>qsp
theorem qm1{t:T}{rs:List Row}(ht:itv μ t=some (rs.map qaG))(h: ∀x∈rs,rowOk x):TTf gx (k+4) 5 [t] μ= .ok .non μ:=by rw[qaX];exact qk0 ht h λ_=>qsn
theorem qcF:Tb.Ris (TTf gx (k+2)) 6:=λhl hu=>by rw[qcN];exact Tb.rising_ok (λu v=>by rw[qbD];exact Tb.together_ok u v) hl hu
theorem qfD{s:Int}{a:T}{rs:List Row}(ha:itv μ a=some (rs.map qaG))(h: ∀x∈rs,rowOk x)(hl:rs.length<64)(hs:0<s/\s<1073741824):TTf gx (k+5) 8 [.int s,a] μ= .ok (Tb.tblT s (Tb.tab (rs.map (Tb.lin s)))) μ:=by rw[qfp];exact Tb.table_ok qcF (qm1 ha h) ha hl hs
theorem qso{s:Int}{A B:List Tb.Ln}(hl:A.length+B.length<64):TTf gx (k+3) 9 [Tb.tblT s A,Tb.tblT s B] μ= .ok (Tb.tblT s (Tb.tab (A++B))) μ:=by rw[qcO];exact Tb.led_ok qcF hl
theorem qbW{s b:Int}{R:List Tb.Ln}(hl:R.length<64)(hs:0<=s/\s<=4294967296)(hb:0<b/\b<1073741824):TTf gx (k+3) 10 [Tb.tblT s R,.int b] μ= .ok (Tb.tblT (s*b) (Tb.tab (R.map (Tb.crs b)))) μ:=by rw[qhe];exact Tb.coarser_ok qcF hl hs hb
theorem qkF{s:Int}{R:List Tb.Ln}(hl:R.length<64):TTf gx (k+3) 11 [Tb.tblT s R] μ= .ok (.lst ((Tb.tab (R.map Tb.zr)).map Tb.k5T)) μ:=by rw[qia];exact Tb.byKey_ok qcF hl
theorem qdr{s m:Int}{R:List Tb.Ln}(hl:R.length<64):TTf gx (k+2) 12 [Tb.tblT s R,.int m] μ= .ok (.lst ((Tb.winS R).map λw=>.tup [.int w,.lst ((Tb.gKeys (Tb.atW R w) m).map T.str)])) μ:=by rw[qfr];exact Tb.greatest_ok (λh hl=>by rw[qcx];exact Tb.gKeys_ok h hl) hl
variable {ns:List Int}
theorem qkE:Drw (TTf gx (k+2)) 15 ns:=⟨λh0 hm=>by rw[qew];exact qnh (by rw[qex];exact qoC h0) hm⟩
theorem qpk{i m:Int}(h0:0<=i)(hm:0<=m/\m<=900):TTf gx (k+4) 18 [.scr ns,.int i,.int m] μ= .ok (.obj μ.l.length) (μ.on (.ls ((qbe ns i m).map qaG))):=by rw[qev];exact qmX (p:=15) (q:=16) (n:=17) qkE (λh=>by rw[qfs];exact qqp qkE h) (λh h'=>by rw[qdf];exact qqd qkE h h') h0 hm
open Tb
abbrev F5:Fs:=TTf gx 5
def M0:Mu:=⟨[],[]⟩
abbrev Ms(rs:List Row):Mu:=M0.on (.ls (rs.map qaG))
theorem qhZ(rs:List Row):(Ms rs).l[0]? =some (.ls (rs.map qaG)):=rfl
theorem qj9(rs:List Row):itv (Ms rs) (.obj 0)=some (rs.map qaG):=qnZ (qhZ rs)
variable {ns:List Int}{rs:List Row}{s a b:Int}{R:List Ln}{x2 x7 x8 x9 aw av au aq ax az ay ao:Option T}
theorem pk{μ:Mu}{k m:Int}(h0:0<=k)(hm:0<m):F5 15 [.scr ns,.int k,.int m] μ= .ok (.int (qai ns k m)) μ:=(qkE (k:=3)).p h0 hm
theorem qt4{k:Nat}{ts:List T}{x:T}{m:Mu}{ow:Bool}(h:m.l[k]? =some (.ls (ts++[x]))):nvR ow (Bm.g .pop m [.obj k]) m= .ok x (m.put k (.ls ts)):=by
 have e:Bm.g .pop m [.obj k]=some (.p k (.ls ts) x):=by show(qgw m (.obj k)).bind _=_;simp[qgw,h]
 rw[e,qqc (qbK h (by simp))]
theorem qlT{k:Nat}{ts:List T}{x:T}{m:Mu}{i:Int}{ow:Bool}(h:m.l[k]? =some (.ls ts))(hi:0<=i/\i<=ts.length)(hl:ts.length<1000):nvR ow (Bm.g .insert m [.obj k,.int i,x]) m= .ok .non (m.put k (.ls (ts.take i.toNat++x::ts.drop i.toNat))):=by
 have e:Bm.g .insert m [.obj k,.int i,x]=some (.p k (.ls (ts.take i.toNat++x::ts.drop i.toNat)) .non):=by show(qgw m (.obj k)).bind _=_;simp only[qgw,h,Option.bind_some];exact if_pos ⟨hi,hl⟩
 rw[e,qqc (qbK h (by simp))]
theorem ql4(br:List Row):(Ms rs).put 0 (.ls (br.map qaG))=Ms br:=Mu.on_put (μ:=M0) (qge br)
theorem qmW: ∃ae aa,qaP F5 S1 [some (.scr ns),some (.obj 0),none,none,none,none,none,none,none,none,none,none,none,none,none,none,none,none] (Ms (qbe ns 100 12))= .ok (.nx ae) aa/\∃x2 rs,ae=[some (.scr ns),some (.obj 0),x2,none,none,none,none,none,none,none,none,none,none,none,none,none,none,none]/\List.Perm rs (qbe ns 100 12)/\aa=Ms rs:=by
 have hlen:(qbe ns 100 12).length<1000:=by unfold qbe;rw[qbT];have:=qaA (ns:=ns) (k:=102) (many:=13) (by decide);have:=qav (ns:=ns) (k:=102) (many:=13) (by decide);show(qai ns 102 13).toNat<1000;omega
 refine qe3 (List.range (qbe ns 100 12).length) (λi:Nat=>.int (i:Int)) (λ_ ae aa=> ∃x2 rs,ae=[some (.scr ns),some (.obj 0),x2,none,none,none,none,none,none,none,none,none,none,none,none,none,none,none]/\List.Perm rs (qbe ns 100 12)/\aa=Ms rs) rfl (qjf (by simp[qjZ (qhZ _)]) (by omega)) ⟨none,_,rfl,List.Perm.refl _,rfl⟩ ?_;rintro d i r hd ae aa ⟨x2,rs,rfl,hp,rfl⟩;have dI:0<rs.length:=by rw[hp.length_eq];have:=congrArg List.length hd;simp at this;omega
 obtain⟨aO,z,rfl⟩: ∃aO z,rs=aO++[z]:=⟨rs.dropLast,rs.getLast (by intro h;rw[h] at dI;cases dI),(List.dropLast_concat_getLast _).symm⟩
 have bG:=hp.length_eq;rw[List.length_append,List.length_singleton] at bG;have p0:=qav (ns:=ns) (k:=300+(i:Int)) (many:=(aO.length:Int)+1) (by omega);have p1:=qaA (ns:=ns) (k:=300+(i:Int)) (many:=(aO.length:Int)+1) (by omega);have pp:=pk (ns:=ns) (μ:=Ms (aO++[z])) (k:=300+(i:Int)) (m:=(aO.length:Int)+1) (by omega) (by omega);have gC:=qhZ (aO++[z]);rw[List.map_append] at gC;have po:=qt4 (ow:=false) (ts:=aO.map qaG) (x:=qaG z) gC;have po2:(Ms (aO++[z])).put 0 (.ls (aO.map qaG))=Ms aO:=ql4 aO;rw[po2] at po;have al: ∀ρ:Ro,ρ[1]? =some (some (.obj 0))->qab F5 (.alt (.bm false .pop (.v 1) []) (.bm false .dpop (.v 1) [])) ρ (Ms (aO++[z]))= .ok (qaG z) (Ms aO):=λρ h=>qm8 (by simp[h,qcV gC,po]);generalize qai ns (300+(i:Int)) ((aO.length:Int)+1)=v at*;have is:=qlT (ow:=false) (x:=qaG z) (i:=v) (qhZ aO) (by rw[List.length_map];omega) (by rw[List.length_map];omega);have e:(aO.map qaG).take v.toNat++qaG z::(aO.map qaG).drop v.toNat=(aO.take v.toNat++z::aO.drop v.toNat).map qaG:=by simp
 rw[e,ql4] at is;refine⟨_,_,?_,some (.int i),aO.take v.toNat++z::aO.drop v.toNat,rfl,?_,rfl⟩
 ·have ln:=qjZ (μ:=Ms (aO++[z])) (qhZ _);rw[List.length_map,List.length_append,List.length_singleton,Int.natCast_add,Int.cast_ofNat_Int] at ln;simp[qcV gC,al,ln,pp,is]
 ·refine(List.perm_middle).trans (List.Perm.trans ?_ hp);rw[List.take_append_drop];exact(List.perm_append_comm (l₁:=aO) (l₂:=[z])).symm
structure Hyp(rs:List Row):Prop where
 ok: ∀r∈rs,rowOk r
 l:rs.length<64
theorem qqD(h:List.Perm rs (qbe ns 100 12)):Hyp rs:=⟨λr hr=>(qgl (qjm ns 100) _ _ 0 (qav (by decide)) r (h.subset hr)).1,by
 rw[h.length_eq];unfold qbe;rw[qbT];have:=qaA (ns:=ns) (k:=102) (many:=13) (by decide);have:=qav (ns:=ns) (k:=102) (many:=13) (by decide);show(qai ns 102 13).toNat<64
 omega⟩
def ro(ns:List Int)(s:Int)(R:List Ln)(a b:Int)(x2 x7 x8 x9 aw av au aq ax az ay ao:Option T):Ro:=[some (.scr ns),some (.obj 0),x2,some (.int s),some (tblT s R),some (.int a),some (.int b),x7,x8,x9,aw,av,au,aq,ax,az,ay,ao]
theorem qma(n:Nat)(x:Ln):okT (n+2) (lnT x)=true:=rfl
theorem okT_tup{n:Nat}{α:Type}(l:List α)(f:α->T)(h: ∀a∈l,okT n (f a)=true):okT (n+1) (.tup (l.map f))=true:=by show(l.map f).all (okT n)=true;rw[List.all_map];exact List.all_eq_true.mpr h
theorem okT_lst{n:Nat}{α:Type}(l:List α)(f:α->T)(h: ∀a∈l,okT n (f a)=true):okT (n+1) (.lst (l.map f))=true:=by show(l.map f).all (okT n)=true;rw[List.all_map];exact List.all_eq_true.mpr h
theorem qnC(s:Int)(R:List Ln):okT 8 (tblT s R)=true:=by show(okT 7 (.int s)&&(okT 7 (.tup (R.map lnT))&&true))=true;rw[okT_tup R lnT λx _=>qma 4 x];rfl
theorem qiO{μ:Mu}{s s':Int}{R R':List Ln}(h:s=s')(h':R=R'):O2.g .ne μ (tblT s R) (tblT s' R')=some (.v (.bl false)):=by subst h h';exact qlj (qnC _ _) rfl rfl
variable {μ:Mu}
section
variable (hl:R.length<64)(hr:qfo R)(hs:0<s/\s<10)(ha:0<a/\a<4)(hb:0<b/\b<4)
include hl hr hs ha hb
theorem st5:qaP F5 S5 (ro ns s R a b x2 x7 x8 x9 aw av au aq ax az ay ao) μ= .ok (.nx (ro ns s R a b x2 x7 x8 x9 aw av au aq ax az ay ao)) μ:=by
 have l1:(tab (R.map (crs a))).length<64:=Vo (qic _) (by rw[List.length_map];exact hl);have m1:0<=s*a/\s*a<=4294967296:=⟨Int.mul_nonneg (by omega) (by omega),Int.le_trans (Int.mul_le_mul (show s<=10 by omega) (show a<=4 by omega) (by omega) (by omega)) (by decide)⟩
 have m2:0<a*b/\a*b<1073741824:=⟨Int.mul_pos ha.1 hb.1,Int.lt_of_le_of_lt (Int.mul_le_mul (show a<=4 by omega) (show b<=4 by omega) (by omega) (by omega)) (by decide)⟩
 have c1:=qbW (k:=2) (μ:=μ) (s:=s) (b:=a) hl ⟨by omega,by omega⟩ ⟨by omega,by omega⟩;have c2:=qbW (k:=2) (μ:=μ) (s:=s*a) (b:=b) l1 m1 ⟨by omega,by omega⟩;have c3:=qbW (k:=2) (μ:=μ) (s:=s) (b:=a*b) hl ⟨by omega,by omega⟩ m2;have c4:=qbW (k:=2) (μ:=μ) (s:=s) (b:=1) hl ⟨by omega,by omega⟩ ⟨by omega,by omega⟩;have n1:=qiO (μ:=μ) (Int.mul_assoc s a b) (qoy (R:=R) (b:=b) ha.1);have n2:=qiO (μ:=μ) (Int.mul_one s) (qoz hr);rw[Int.mul_one] at c4 n2;have mm: -4294967296<=a/\a<=4294967296:=by omega
 simp[S5,ro,c1,c2,c3,c4,n1,n2,mm]
end
def tot(R:List Ln):Int:=(R.map λx=>x.2.2.1).sum
theorem ln2{x:Ln}:O2.g .ix μ (lnT x) (.int 2)=some (.v (.int x.2.1)):=rfl
theorem ln3{x:Ln}:O2.g .ix μ (lnT x) (.int 3)=some (.v (.int x.2.2.1)):=rfl
theorem ln1{x:Ln}:O2.g .ix μ (lnT x) (.int 1)=some (.v (.str x.1.2)):=rfl
theorem ln0{x:Ln}:O2.g .ix μ (lnT x) (.int 0)=some (.v (.int x.1.1)):=rfl
theorem rw0{r:Row}:O2.g .ix μ (qaG r) (.int 0)=some (.v (.int r.1)):=rfl
theorem rw1{r:Row}:O2.g .ix μ (qaG r) (.int 1)=some (.v (.str r.2.1)):=rfl
theorem rw2{r:Row}:O2.g .ix μ (qaG r) (.int 2)=some (.v (.int r.2.2)):=rfl
theorem g4{F:Fs}{ρ:Ro}(h:ρ[4]? =some (some (tblT s R))):qcA F (.gen (.o2 false .ix (.v 4) (.c (.int 1)))) ρ μ (R.map lnT):=qa1 (t:=.tup (R.map lnT)) (by simp[h,qcX]) rfl
theorem g1{F:Fs}{ρ:Ro}(h:ρ[1]? =some (some (.obj 0))):qcA F (.gen (.v 1)) ρ (Ms rs) (rs.map qaG):=qa1 (t:=.obj 0) (by simp[h]) (qj9 rs)
theorem st6:qaP F5 S6 (ro ns s R a b x2 x7 x8 x9 aw av au aq ax az ay ao) μ= .ok (.nx (ro ns s R a b x2 (some (.int (tot R))) x8 x9 aw av au aq ax az ay ao)) μ:=by
 have cm:=qaR (F:=F5) (x:=false) (fr:=[]) (e:=.o2 false .ix (.v 0) (.c (.int 3))) R lnT (λx=>.int x.2.2.1) (g4 (μ:=μ) (F:=F5) (ρ:=ro ns s R a b x2 x7 x8 x9 aw av au aq ax az ay ao) rfl) λx hx=>by simp[ln3]
 simp only[S6,qby,qhn,qaD,cm,qac,qaM,qmy,qh0];rfl
theorem st7(hR:R=tab (rs.map (lin s))):qaP F5 S7 (ro ns s R a b x2 (some (.int (tot R))) x8 x9 aw av au aq ax az ay ao) (Ms rs)= .ok (.nx (ro ns s R a b x2 (some (.int (tot R))) x8 x9 aw av au aq ax az ay ao)) (Ms rs):=by
 have cm:=qaR (F:=F5) (x:=false) (fr:=[]) (e:=.o2 false .ix (.v 0) (.c (.int 2))) R lnT (λx=>.int x.2.1) (g4 (μ:=Ms rs) (F:=F5) (ρ:=ro ns s R a b x2 (some (.int (tot R))) x8 x9 aw av au aq ax az ay ao) rfl) λx hx=>by simp[ln2]
 have eG:=qaR (F:=F5) (x:=false) (fr:=[]) (e:=.o2 false .ix (.v 0) (.c (.int 2))) rs qaG (λr=>.int r.2.2) (g1 (rs:=rs) (F:=F5) (ρ:=ro ns s R a b x2 (some (.int (tot R))) x8 x9 aw av au aq ax az ay ao) rfl) λx hx=>by simp[rw2]
 have e1:(R.map λx=>x.2.1).sum=(rs.length:Int):=by rw[hR];exact qku s rs
 have e2:decide (tot R=(rs.map λr=>r.2.2).sum)=true:=Vx (by rw[hR];exact qmP s rs);have ln:=qjZ (qhZ rs);rw[List.length_map] at ln;have v1:lk (ro ns s R a b x2 (some (.int (tot R))) x8 x9 aw av au aq ax az ay ao)[1]? (Ms rs)= .ok (.obj 0) (Ms rs):=rfl;have v7:lk (ro ns s R a b x2 (some (.int (tot R))) x8 x9 aw av au aq ax az ay ao)[7]? (Ms rs)= .ok (.int (tot R)) (Ms rs):=rfl;simp only[S7,qds,qkG,qeI,qhn,qaD,cm,eG,qac,qaM,qmy,qh0,qrN,v1,v7,ln,e1,qn5,e2,decide_true,Bool.not_true,qck];rfl
theorem qqF{i:Int}{is:List Int}:O2.g .nin μ (.int i) (.lst (is.map T.int))=some (.v (.bl (!decide (i∈is)))):=by
 show gIn true μ (.int i) (.lst (is.map T.int))=_;have e:qcm μ (.lst (is.map T.int))=some (true,is.map T.int):=rfl;unfold gIn;rw[e];show(if okT 7 (.int i)=true/\(is.map T.int).all (okT 7)=true then some (Nv.v (.bl (!(is.map T.int).any λu=>eqT u (.int i)))) else none)=_;rw[if_pos ⟨rfl,by rw[List.all_map];exact List.all_eq_true.mpr λ_ _=>rfl⟩]
 congr 4
 rw[List.any_map,Bool.eq_iff_iff,List.any_eq_true,decide_eq_true_eq];constructor
 ·rintro⟨x,hx,e⟩;have e:(x==i)=true:=e;rw[<-eq_of_beq e];exact hx
 ·intro h;exact⟨i,h,show(i==i)=true by simp⟩
variable {ns:List Int}{rs:List Row}{s a b:Int}{R:List Ln}{μ:Mu}{x2 x7 x8 x9 aw av au aq ax az ay ao:Option T}
abbrev J(ns:List Int)(s:Int)(R:List Ln)(a b:Int)(rs:List Row)(ae:Ro)(aa:Mu):Prop:= ∃x2 x7 x8 x9 aw av au aq ax az ay ao,ae=ro ns s R a b x2 x7 x8 x9 aw av au aq ax az ay ao/\aa=Ms rs
abbrev at2(s:Int)(rs:List Row)(x:Ln):List Int:=(rs.filter λr=>decide (r.2.1=x.1.2)&&decide (r.1 / s=x.1.1)).map λr=>r.2.2
theorem ql7{x:Ln}{v:Int}(h: ∃r∈rs,(lin s r).1=x.1/\r.2.2=v):v∈at2 s rs x:=by obtain⟨r,hr,e,rfl⟩:=h;refine List.mem_map.mpr ⟨r,List.mem_filter.mpr ⟨hr,?_⟩,rfl⟩;rw[<-e];simp[lin]
theorem ql6{x:Ln}{v:Int}(ok: ∀r∈rs,rowOk r)(h: ∃r∈rs,(lin s r).1=x.1/\r.2.2=v): -4294967296<=v/\v<=4294967296:=by obtain⟨r,hr,e,rfl⟩:=h;have:=(ok r hr).2.2;omega
theorem st8(hy:Hyp rs)(hs:0<s/\s<10)(hR:R=tab (rs.map (lin s))){ρ:Ro}(hJ:J ns s R a b rs ρ (Ms rs)): ∃ae aa,qaP F5 S8 ρ (Ms rs)= .ok (.nx ae) aa/\J ns s R a b rs ae aa:=by
 refine qe3 R lnT (λ_ ae aa=>J ns s R a b rs ae aa) rfl (qe1 (t:=.tup (R.map lnT)) ?_ (.inr rfl)) hJ ?_
 ·obtain⟨x2,x7,x8,x9,aw,av,au,aq,ax,az,ay,ao,rfl,_⟩:=hJ;simp[ro,qcX]
 rintro d x r hd ae aa ⟨x2,x7,x8,x9,aw,av,au,aq,ax,az,ay,ao,rfl,rfl⟩;have hx:x∈R:=by rw[hd];simp
 have ow:=qnr s rs x (by rw[<-hR];exact hx)
 have cm:=qhQ (F:=F5) (μ:=Ms rs) (ρ:=ro ns s R a b x2 (some (.int x.2.2.1)) (some (.int x.1.1)) (some (.str x.1.2)) (some (.int x.2.1)) (some (.int x.2.2.2.1)) (some (.int x.2.2.2.2)) aq ax az ay ao) (x:=false) (fr:=[9,3,8]) (ci:=.gen (.v 1)) (t:=some (.and (.o2 false .eq (.o2 false .ix (.v 0) (.c (.int 1))) (.v 1)) (.o2 false .eq (.o2 false .div (.o2 false .ix (.v 0) (.c (.int 0))) (.v 2)) (.v 3)))) (e:=.o2 false .ix (.v 0) (.c (.int 2))) rs qaG (λr=>decide (r.2.1=x.1.2)&&decide (r.1 / s=x.1.1)) (λr=>.int r.2.2) (g1 rfl)
  (λr hr=>by
   have h1:s<1073741824:=by omega
   by_cases c:r.2.1=x.1.2<;>simp[ro,rw0,rw1,hs.1,h1,c])
  λr hr _=>by simp[rw2]
 have e:((rs.filter λr=>decide (r.2.1=x.1.2)&&decide (r.1 / s=x.1.1)).map λr=>T.int r.2.2)=(at2 s rs x).map T.int:=by rw[List.map_map];rfl
 rw[e] at cm;have i1:=ql7 ow.lo;have i2:=ql7 ow.hi;have b1:=ql6 hy.ok ow.lo;have b2:=ql6 hy.ok ow.hi;refine⟨ro ns s R a b x2 (some (.int x.2.2.1)) (some (.int x.1.1)) (some (.str x.1.2)) (some (.int x.2.1)) (some (.int x.2.2.2.1)) (some (.int x.2.2.2.2)) (some (.lst ((at2 s rs x).map T.int))) ax az ay ao,Ms rs,?_,_,_,_,_,_,_,_,_,_,_,_,_,rfl,rfl⟩;have g:qbS (.tup [(.n 8),(.n 9),(.n 10),(.n 7),(.n 11),(.n 12)]) (lnT x) (ro ns s R a b x2 x7 x8 x9 aw av au aq ax az ay ao) (Ms rs)= .ok (ro ns s R a b x2 (some (.int x.2.2.1)) (some (.int x.1.1)) (some (.str x.1.2)) (some (.int x.2.1)) (some (.int x.2.2.2.1)) (some (.int x.2.2.2.2)) aq ax az ay ao) (Ms rs):=rfl;rw[g,qac];simp only[qaC,qby,cm,qac,qaJ];have e1:=ow.le;have e2:=ow.ge;simp only[ro,List.set_cons_succ,List.set_cons_zero,qds,qkG,qeI,qrN,qsz,qkH,List.getElem?_cons_succ,List.getElem?_cons_zero,qfM,qac,qqF,qh0,i1,i2,decide_true,Bool.not_true,qck,qtg,b1,b2,and_self,true_or,if_true,qvT,e1,e2];rfl
theorem st9(hy:Hyp rs)(hs:0<s/\s<10)(hR:R=tab (rs.map (lin s))){ρ:Ro}(hJ:J ns s R a b rs ρ (Ms rs)): ∃ae aa,qaP F5 S9 ρ (Ms rs)= .ok (.nx ae) aa/\J ns s R a b rs ae aa:=by
 have hl:=hy.l;refine qe3 (SR.sortA RH.ltS (SetL.dd (rs.map λr=>r.2.1))) T.str (λ_ ae aa=>J ns s R a b rs ae aa) rfl (qe1 (t:=.lst ((SR.sortA RH.ltS (SetL.dd (rs.map λr=>r.2.1))).map T.str)) ?_ (.inl rfl)) hJ ?_
 ·obtain⟨x2,x7,x8,x9,aw,av,au,aq,ax,az,ay,ao,rfl,_⟩:=hJ;have cm:=qaR (F:=F5) (μ:=Ms rs) (ρ:=ro ns s R a b x2 x7 x8 x9 aw av au aq ax az ay ao) (x:=false) (fr:=[]) (ci:=.gen (.v 1)) (e:=.o2 false .ix (.v 0) (.c (.int 1))) rs qaG (λr=>.str r.2.1) (g1 rfl) λr hr=>by simp[rw1]
  have e:(rs.map λr=>T.str r.2.1)=(rs.map λr=>r.2.1).map T.str:=by rw[List.map_map];rfl
  rw[e] at cm;simp only[qiy,cm,qac];rw[qig qb0 (by rw[List.length_map];exact hl)];rfl
 rintro d k r hd ae aa ⟨x2,x7,x8,x9,aw,av,au,aq,ax,az,ay,ao,rfl,rfl⟩;have bG:(rs.filter λr=>decide (r.2.1=k)).length<64:=Vo (List.length_filter_le _ _) hl
 have cm:=qhQ (F:=F5) (μ:=Ms rs) (ρ:=ro ns s R a b x2 x7 x8 (some (.str k)) aw av au aq ax az ay ao) (x:=false) (fr:=[9]) (ci:=.gen (.v 1)) (t:=some (.o2 false .eq (.o2 false .ix (.v 0) (.c (.int 1))) (.v 1))) (e:=.v 0) rs qaG (λr=>decide (r.2.1=k)) qaG (g1 rfl)
  (λr hr=>by simp[ro,rw1]) λr hr _=>by simp
 have eG:=qhQ (F:=F5) (μ:=Ms rs) (ρ:=ro ns s R a b x2 x7 x8 (some (.str k)) aw av au aq (some (.lst ((rs.filter λr=>decide (r.2.1=k)).map qaG))) az ay ao) (x:=false) (fr:=[9]) (ci:=.gen (.o2 false .ix (.v 4) (.c (.int 1)))) (t:=some (.o2 false .eq (.o2 false .ix (.v 0) (.c (.int 1))) (.v 1))) (e:=.v 0) R lnT (λx=>decide (x.1.2=k)) lnT (g4 rfl)
  (λr hr=>by simp[ro,ln1]) λr hr _=>by simp
 have tb:=qfD (k:=0) (μ:=Ms rs) (a:=.lst ((rs.filter λr=>decide (r.2.1=k)).map qaG)) (s:=s) rfl (λr hr=>hy.ok r (List.mem_filter.mp hr).1) bG ⟨hs.1,by omega⟩;have te:=qmK s rs k;rw[<-hR] at te;have ne:O2.g .ne (Ms rs) (.tup ((tab ((rs.filter λr=>decide (r.2.1=k)).map (lin s))).map lnT)) (.tup ((R.filter λx=>decide (x.1.2=k)).map lnT))=some (.v (.bl false)):=by rw[te];exact qlj (okT_tup _ lnT λx _=>qma 5 x) rfl rfl
 refine⟨ro ns s R a b x2 x7 x8 (some (.str k)) aw av au aq (some (.lst ((rs.filter λr=>decide (r.2.1=k)).map qaG))) az ay ao,Ms rs,?_,_,_,_,_,_,_,_,_,_,_,_,_,rfl,rfl⟩;have g:qbS (.n 9) (.str k) (ro ns s R a b x2 x7 x8 x9 aw av au aq ax az ay ao) (Ms rs)= .ok (ro ns s R a b x2 x7 x8 (some (.str k)) aw av au aq ax az ay ao) (Ms rs):=rfl;have w:(ro ns s R a b x2 x7 x8 (some (.str k)) aw av au aq ax az ay ao).set 14 (some (.lst ((rs.filter λr=>decide (r.2.1=k)).map qaG)))=ro ns s R a b x2 x7 x8 (some (.str k)) aw av au aq (some (.lst ((rs.filter λr=>decide (r.2.1=k)).map qaG))) az ay ao:=rfl;rw[g,qac];simp only[qaC,qby,cm,qac,qaJ,w,qds,qeI,qhn,qbH,qaD,qaM,eG,qm7];have v3:qab F5 (.v 3) (ro ns s R a b x2 x7 x8 (some (.str k)) aw av au aq (some (.lst ((rs.filter λr=>decide (r.2.1=k)).map qaG))) az ay ao) (Ms rs)= .ok (.int s) (Ms rs):=rfl;have v14:qab F5 (.v 14) (ro ns s R a b x2 x7 x8 (some (.str k)) aw av au aq (some (.lst ((rs.filter λr=>decide (r.2.1=k)).map qaG))) az ay ao) (Ms rs)= .ok (.lst ((rs.filter λr=>decide (r.2.1=k)).map qaG)) (Ms rs):=rfl;simp only[v3,v14,qac];rw[show F5 8 [.int s,.lst ((rs.filter λr=>decide (r.2.1=k)).map qaG)] (Ms rs)=_ from tb];simp only[qac,qcX,qh0,eG,qrx,qvu,ne,qck];rfl
theorem qqb(n:Nat)(x:Ln):okT (n+2) (k5T x)=true:=rfl
theorem qvl(hy:Hyp rs)(hs:0<s/\s<10)(hR:R=tab (rs.map (lin s)))(hl:R.length<64):qaP F5 S10 (ro ns s R a b x2 x7 x8 x9 aw av au aq ax az ay ao) (Ms rs)= .ok (.nx (ro ns s R a b x2 x7 x8 x9 aw av au aq ax az ay ao)) (Ms rs):=by
 have tb:=qfD (k:=0) (μ:=Ms rs) (a:=.obj 0) (s:=100) (qj9 rs) hy.ok hy.l ⟨by decide,by decide⟩;have cm:=qaR (F:=F5) (μ:=Ms rs) (ρ:=ro ns s R a b x2 x7 x8 x9 aw av au aq ax az ay ao) (x:=false) (fr:=[]) (ci:=.gen (.o2 false .ix (.call 8 [(.c (.int 100)),(.v 1)]) (.c (.int 1)))) (e:=.sl false (.v 0) (some (.c (.int 1))) none) (tab (rs.map (lin 100))) lnT k5T (qa1 (t:=.tup ((tab (rs.map (lin 100))).map lnT)) (by
  have v1:qab F5 (.v 1) (ro ns s R a b x2 x7 x8 x9 aw av au aq ax az ay ao) (Ms rs)= .ok (.obj 0) (Ms rs):=rfl;simp only[qeI,qbH,qaD,qaM,qm7,qac,v1];rw[show F5 8 [.int 100,.obj 0] (Ms rs)=_ from tb];simp only[qac,qcX,qh0]) rfl) λx hx=>by simp[qcB,k5T]
 have bk:=qkF (k:=2) (μ:=Ms rs) (s:=s) (R:=R) hl;have te:=qmL (s:=s) hy.ok;rw[<-hR] at te;rw[te] at bk;have ne:O2.g .ne (Ms rs) (.lst ((tab (rs.map (lin 100))).map k5T)) (.lst ((tab (rs.map (lin 100))).map k5T))=some (.v (.bl false)):=qlj (okT_lst _ k5T λx _=>qqb 5 x) rfl rfl;have ld:=qso (k:=2) (μ:=Ms rs) (s:=s) (A:=R) (B:=[]) (by simpa using hl);rw[List.append_nil,qgf (by rw[hR];exact qgm _)] at ld;have n2:=qiO (μ:=Ms rs) (s:=s) (R:=R) rfl rfl;have v4:qab F5 (.v 4) (ro ns s R a b x2 x7 x8 x9 aw av au aq ax az ay ao) (Ms rs)= .ok (tblT s R) (Ms rs):=rfl;have tp:qab F5 (.tup [(.v 3),(.tup [])]) (ro ns s R a b x2 x7 x8 x9 aw av au aq ax az ay ao) (Ms rs)= .ok (tblT s []) (Ms rs):=rfl;simp only[S10,qds,qkG,qeI,cm,qac,qbH,qaD,qaM,v4,tp];rw[show F5 11 [tblT s R] (Ms rs)=_ from bk];simp only[qac,ne,qh0,qck,show ¬(false=true) by decide,if_false,v4,tp];rw[show F5 9 [tblT s R,tblT s []] (Ms rs)=_ from ld];simp only[qac,v4,n2,qh0,qck];rfl
variable {ns:List Int}{rs:List Row}{s a b:Int}{R:List Ln}{μ:Mu}{x2 x7 x8 x9 aw av au aq ax az ay ao:Option T}
theorem qtG{p q:Pl}:O2.g .eq μ (.tup [.int p.1,.str p.2]) (.tup [.int q.1,.str q.2])=some (.v (.bl (decide (p=q)))):=by
 rw[qrR rfl rfl];show some (Nv.v (.bl ((p.1==q.1)&&((p.2==q.2)&&true))))=_;rw[qc9,qc9,Bool.and_true,<-Bool.decide_and]
 congr 3
 exact decide_eq_decide.mpr ⟨λh=>Prod.ext h.1 h.2,λh=>by rw[h];exact⟨rfl,rfl⟩⟩
abbrev qbE(R:List Ln)(w:Int):List Int:=(atW R w).map λx=>x.2.2.1
abbrev qbb(R:List Ln)(w:Int):List T:=(gKeys (atW R w) 3).map T.str
theorem qvk(hR:qfo R)(hl:R.length<64){ρ:Ro}(hJ:J ns s R a b rs ρ (Ms rs)): ∃ae aa,qaP F5 S11 ρ (Ms rs)= .ok (.nx ae) aa/\J ns s R a b rs ae aa:=by
 refine qe3 (winS R) (λw=>.tup [.int w,.lst (qbb R w)]) (λ_ ae aa=>J ns s R a b rs ae aa) rfl (qe1 (t:=.lst ((winS R).map λw=>.tup [.int w,.lst (qbb R w)])) ?_ (.inl rfl)) hJ ?_
 ·obtain⟨x2,x7,x8,x9,aw,av,au,aq,ax,az,ay,ao,rfl,_⟩:=hJ;have gr:=qdr (k:=3) (μ:=Ms rs) (s:=s) (m:=3) hl;have v4:qab F5 (.v 4) (ro ns s R a b x2 x7 x8 x9 aw av au aq ax az ay ao) (Ms rs)= .ok (tblT s R) (Ms rs):=rfl;simp only[qbH,qaD,qaM,v4,qac,qm7];exact gr
 rintro d w r hd ae aa ⟨x2,x7,x8,x9,aw,av,au,aq,ax,az,ay,ao,rfl,rfl⟩;have hw:w∈winS R:=by rw[hd];simp
 obtain⟨y,⟨ks,ek⟩,ym,yw,yg⟩:=qtf hw;have hlw:(atW R w).length<64:=Vo (List.length_filter_le _ _) hl;have kl:=qjc (atW R w);have g:qbS (.tup [(.n 8),(.n 15)]) (.tup [.int w,.lst (qbb R w)]) (ro ns s R a b x2 x7 x8 x9 aw av au aq ax az ay ao) (Ms rs)= .ok (ro ns s R a b x2 x7 (some (.int w)) x9 aw av au aq ax (some (.lst (qbb R w))) ay ao) (Ms rs):=rfl;have c1:=qhQ (F:=F5) (μ:=Ms rs) (ρ:=ro ns s R a b x2 x7 (some (.int w)) x9 aw av au aq ax (some (.lst (qbb R w))) ay ao) (x:=false) (fr:=[8]) (ci:=.gen (.o2 false .ix (.v 4) (.c (.int 1)))) (t:=some (.o2 false .eq (.o2 false .ix (.v 0) (.c (.int 0))) (.v 1))) (e:=.o2 false .ix (.v 0) (.c (.int 3))) R lnT (λx=>decide (x.1.1=w)) (λx=>.int x.2.2.1) (g4 rfl) (λr hr=>by simp[ro,ln0]) λr hr _=>by simp[ln3]
 have e1:((R.filter λx=>decide (x.1.1=w)).map λx=>T.int x.2.2.1)=(qbE R w).map T.int:=by rw[List.map_map];rfl
 rw[e1] at c1;have c2:=qhQ (F:=F5) (μ:=Ms rs) (ρ:=ro ns s R a b x2 x7 (some (.int w)) x9 aw av au aq ax (some (.lst (qbb R w))) (some (.lst ((qbE R w).map T.int))) ao) (x:=false) (fr:=[15,8]) (ci:=.gen (.o2 false .ix (.v 4) (.c (.int 1)))) (t:=some (.o2 false .eq (.sl false (.v 0) none (some (.c (.int 2)))) (.tup [(.v 2),(.o2 false .ix (.v 1) (.c (.int 0)))]))) (e:=.o2 false .ix (.v 0) (.c (.int 3))) R lnT (λx=>decide (x.1=y.1)) (λx=>.int x.2.2.1) (g4 rfl) (λr hr=>by
   have q:=qtG (μ:=Ms rs) (p:=r.1) (q:=y.1);rw[yw] at q;simp[ro,qcC,qbb,ek,q]) λr hr _=>by simp[ln3]
 rw[qrD hR ym] at c2;have ne:(qbE R w)≠[]:=λh=>by obtain⟨x,hx,e⟩:=qd7.mp hw;have:x∈atW R w:=List.mem_filter.mpr ⟨hx,Vx e⟩;rw[List.map_eq_nil_iff] at h;rw[h] at this;cases this
 have mx:PL.maxI (qbE R w)=y.2.2.1:=qnN (List.mem_map.mpr ⟨y,List.mem_filter.mpr ⟨ym,Vx yw⟩,rfl⟩) λv hv=>by obtain⟨x,hx,rfl⟩:=List.mem_map.mp hv;exact yg x hx
 have bm:=qrz (μ:=Ms rs) (t:=.lst ((qbE R w).map T.int)) qb0 ne;rw[mx] at bm;have sl:=qin (μ:=Ms rs) (t:=.lst (qbb R w)) qb0 (by rw[kl];omega);rw[qrb (qfV hR w 3)] at sl;have mn:min (3:Int) ((qbE R w).map T.int).length=(qbb R w).length:=by rw[List.length_map,List.length_map,List.length_map,kl];omega
 have jb:(qbb R w).length=(gKeys (atW R w) 3).length:=List.length_map _;have jC:O2.g .ne (Ms rs) (.lst (List.map (λx:Ln=>T.int x.2.2.1) [y])) (.lst [.int y.2.2.1])=some (.v (.bl false)):=qlj rfl rfl rfl;refine⟨ro ns s R a b x2 x7 (some (.int w)) x9 aw av au aq ax (some (.lst (qbb R w))) (some (.lst ((qbE R w).map T.int))) (some (.lst (List.map (λx:Ln=>T.int x.2.2.1) [y]))),Ms rs,?_,_,_,_,_,_,_,_,_,_,_,_,_,rfl,rfl⟩;have w16:(ro ns s R a b x2 x7 (some (.int w)) x9 aw av au aq ax (some (.lst (qbb R w))) ay ao).set 16 (some (.lst ((qbE R w).map T.int)))=ro ns s R a b x2 x7 (some (.int w)) x9 aw av au aq ax (some (.lst (qbb R w))) (some (.lst ((qbE R w).map T.int))) ao:=rfl;have v15: ∀ao,qab F5 (.v 15) (ro ns s R a b x2 x7 (some (.int w)) x9 aw av au aq ax (some (.lst (qbb R w))) (some (.lst ((qbE R w).map T.int))) ao) (Ms rs)= .ok (.lst (qbb R w)) (Ms rs):=λ_=>rfl;have gF: ∀ao,qab F5 (.v 16) (ro ns s R a b x2 x7 (some (.int w)) x9 aw av au aq ax (some (.lst (qbb R w))) (some (.lst ((qbE R w).map T.int))) ao) (Ms rs)= .ok (.lst ((qbE R w).map T.int)) (Ms rs):=λ_=>rfl;have gD: ∀z,(ro ns s R a b x2 x7 (some (.int w)) x9 aw av au aq ax (some (.lst (qbb R w))) (some (.lst ((qbE R w).map T.int))) ao).set 17 (some z)=ro ns s R a b x2 x7 (some (.int w)) x9 aw av au aq ax (some (.lst (qbb R w))) (some (.lst ((qbE R w).map T.int))) (some z):=λ_=>rfl;have gE: ∀z,qab F5 (.v 17) (ro ns s R a b x2 x7 (some (.int w)) x9 aw av au aq ax (some (.lst (qbb R w))) (some (.lst ((qbE R w).map T.int))) (some z)) (Ms rs)= .ok z (Ms rs):=λ_=>rfl;rw[g,qac];simp only[qaC,qby,c1,qac,qaJ,w16,qds,qkG,qeI,qhn,qm5,qaD,qaM,v15,gF,sl,qh0,qrC,jb,qn5,decide_true,Bool.not_true,qck,qm7,qry,mn,c2,gD,qiz,bm,gE];simp only[Bool.false_eq_true,reduceIte,qac,qh0,qn5,mn,jb,decide_true,Bool.not_true,qck,qiw,qaJ,qby,c2,gD,gF,bm,gE,List.length_cons,List.length_nil,show(0+1<=1000) by decide,if_true,jC];simp only[qaC,qby,c2,qac,qaJ,gD,qds,qeI,gE,qiz,qhn,qaD,qaM,gF,bm,qh0,List.length_cons,List.length_nil,show(0+1<=1000) by decide,if_true,jC,qck,Bool.false_eq_true,reduceIte,qiw]
theorem qvj(hl:R.length<64):qaP F5 S12 (ro ns s R a b x2 x7 x8 x9 aw av au aq ax az ay ao) (Ms rs)= .ok (.rt (.bl true)) (Ms rs):=by
 have gr:=qdr (k:=3) (μ:=Ms rs) (s:=s) (m:=0) hl;have v4:qab F5 (.v 4) (ro ns s R a b x2 x7 x8 x9 aw av au aq ax az ay ao) (Ms rs)= .ok (tblT s R) (Ms rs):=rfl;have c1:=qrl (F:=F5) (μ:=Ms rs) (ρ:=ro ns s R a b x2 x7 x8 x9 aw av au aq ax az ay ao) (x:=false) (fr:=[]) (ci:=.gen (.call 12 [(.v 4),(.c (.int 0))])) (e:=.v 0) (winS R) T.int (u:=T.int) (v:=λw=>.lst ((gKeys (atW R w) 0).map T.str)) (qa1 (t:=.lst ((winS R).map λw=>.tup [.int w,.lst ((gKeys (atW R w) 0).map T.str)])) (by simp only[qbH,qaD,qaM,v4,qac,qm7];exact gr) rfl) λw hw=>by simp
 have c2:=qaR (F:=F5) (μ:=Ms rs) (ρ:=ro ns s R a b x2 x7 x8 x9 aw av au aq ax az ay ao) (x:=false) (fr:=[]) (ci:=.gen (.o2 false .ix (.v 4) (.c (.int 1)))) (e:=.o2 false .ix (.v 0) (.c (.int 0))) R lnT (λx=>.int x.1.1) (g4 rfl) λx hx=>by simp[ln0]
 have e:(R.map λx=>T.int x.1.1)=(R.map λx=>x.1.1).map T.int:=by rw[List.map_map];rfl
 rw[e] at c2;have ss:=qih (μ:=Ms rs) (t:=.lst ((R.map λx=>x.1.1).map T.int)) qb0 (by rw[List.length_map];exact hl);have eq:O2.g .eq (Ms rs) (.lst ((winS R).map T.int)) (.lst ((winS R).map T.int))=some (.v (.bl true)):=qtl (okT_lst (n:=7) _ T.int λx _=>rfl) rfl rfl;simp only[S12,qix,qeI,c1,qiy,c2,qac,ss,qsW];rw[show(SR.sortA ltI (SetL.dd (R.map λx=>x.1.1)))=winS R from rfl,eq];rfl
theorem law_true(ns:List Int): ∃m,TTf gx 6 19 [.scr ns] M0= .ok (.bl true) m:=by
 obtain⟨aB,ah,e1,x2,rs,rfl,hp,rfl⟩:=qmW (ns:=ns);have hy:=qqD hp;have p0:=qav (ns:=ns) (k:=0) (many:=9) (by decide);have q0:=qaA (ns:=ns) (k:=0) (many:=9) (by decide);have p1:=qav (ns:=ns) (k:=1) (many:=3) (by decide);have q1:=qaA (ns:=ns) (k:=1) (many:=3) (by decide);have p2:=qav (ns:=ns) (k:=2) (many:=3) (by decide);have q2:=qaA (ns:=ns) (k:=2) (many:=3) (by decide);have k0:=pk (ns:=ns) (μ:=Ms rs) (k:=0) (m:=9) (by decide) (by decide);have k1:=pk (ns:=ns) (μ:=Ms rs) (k:=1) (m:=3) (by decide) (by decide);have k2:=pk (ns:=ns) (μ:=Ms rs) (k:=2) (m:=3) (by decide) (by decide);have hs:0<1+qai ns 0 9/\1+qai ns 0 9<10:=by omega
 have ha:0<1+qai ns 1 3/\1+qai ns 1 3<4:=by omega
 have hb:0<1+qai ns 2 3/\1+qai ns 2 3<4:=by omega
 generalize hsv:1+qai ns 0 9=s at*;generalize hav:1+qai ns 1 3=a at*;generalize hbv:1+qai ns 2 3=b at*;have tb:=qfD (k:=0) (μ:=Ms rs) (a:=.obj 0) (s:=s) (qj9 rs) hy.ok hy.l ⟨hs.1,by omega⟩;generalize hR:tab (rs.map (lin s))=R at tb;have hl:R.length<64:=by rw[<-hR];exact Vo (qic _) (by rw[List.length_map];exact hy.l)
 have hr:qfo R:=by rw[<-hR];exact qgm _
 have s0:qaP F5 S0 [some (.scr ns),none,none,none,none,none,none,none,none,none,none,none,none,none,none,none,none,none] M0= .ok (.nx [some (.scr ns),some (.obj 0),none,none,none,none,none,none,none,none,none,none,none,none,none,none,none,none]) (Ms (qbe ns 100 12)):=by simp only[S0,qby,qbH,qaD,qaM,qrN,qm7,List.getElem?_cons_zero,qfM,qac];rw[show F5 18 [.scr ns,.int 100,.int 12] M0=_ from qpk (k:=1) (by decide) ⟨by decide,by decide⟩];rfl
 have s2:qaP F5 S2 [some (.scr ns),some (.obj 0),x2,none,none,none,none,none,none,none,none,none,none,none,none,none,none,none] (Ms rs)= .ok (.nx [some (.scr ns),some (.obj 0),x2,some (.int s),none,none,none,none,none,none,none,none,none,none,none,none,none,none]) (Ms rs):=by simp[S2,k0,hsv]
 have s3:qaP F5 S3 [some (.scr ns),some (.obj 0),x2,some (.int s),none,none,none,none,none,none,none,none,none,none,none,none,none,none] (Ms rs)= .ok (.nx [some (.scr ns),some (.obj 0),x2,some (.int s),some (tblT s R),none,none,none,none,none,none,none,none,none,none,none,none,none]) (Ms rs):=by simp[S3];rw[show F5 8 [.int s,.obj 0] (Ms rs)=_ from tb];rfl
 have s4:qaP F5 S4 [some (.scr ns),some (.obj 0),x2,some (.int s),some (tblT s R),none,none,none,none,none,none,none,none,none,none,none,none,none] (Ms rs)= .ok (.nx (ro ns s R a b x2 none none none none none none none none none none none)) (Ms rs):=by simp[S4,k1,k2,hav,hbv,ro]
 have s6:=st6 (μ:=Ms rs) (ns:=ns) (s:=s) (R:=R) (a:=a) (b:=b) (x2:=x2) (x7:=none) (x8:=none) (x9:=none) (aw:=none) (av:=none) (au:=none) (aq:=none) (ax:=none) (az:=none) (ay:=none) (ao:=none);obtain⟨ρ8,μ8,s8,x2',x7,x8,x9,aw,av,au,aq,ax,az,ay,ao,rfl,rfl⟩:=st8 (ns:=ns) (a:=a) (b:=b) hy hs hR.symm ⟨x2,some (.int (tot R)),none,none,none,none,none,none,none,none,none,none,rfl,rfl⟩;obtain⟨ρ9,μ9,s9,y2',y7,y8,y9,y10,y11,y12,y13,y14,y15,y16,y17,rfl,rfl⟩:=st9 (ns:=ns) (a:=a) (b:=b) hy hs hR.symm ⟨x2',x7,x8,x9,aw,av,au,aq,ax,az,ay,ao,rfl,rfl⟩;obtain⟨ρ11,μ11,i3,z2',z7,z8,z9,z10,z11,z12,z13,z14,z15,z16,z17,rfl,rfl⟩:=qvk (ns:=ns) (a:=a) (b:=b) (s:=s) (rs:=rs) hr hl ⟨y2',y7,y8,y9,y10,y11,y12,y13,y14,y15,y16,y17,rfl,rfl⟩
 have body:(runSs F5 [S0,S1,S2,S3,S4,S5,S6,S7,S8,S9,S10,S11,S12] [some (.scr ns),none,none,none,none,none,none,none,none,none,none,none,none,none,none,none,none,none] M0).bind outT= .ok (.bl true) (Ms rs):=
  qcy s0 (qcy e1 (qcy s2 (qcy s3 (qcy s4 (qcy (st5 hl hr hs ha hb) (qcy s6 (qcy (st7 hR.symm) (qcy s8 (qcy s9 (qcy (qvl hy hs hR.symm hl) (qcy i3 (qsf (qvj hl)))))))))))))
 refine⟨M0,?_⟩;rw[qoX];refine ql0 (μ:=M0) (c:=qgX) (ts:=[.scr ns]) (t:=.bl true) (d:=.ls (rs.map qaG)) rfl rfl ?_ (qje (Nat.zero_le _));rw[qs2];exact body
end K41
namespace NV
open PySem L2
theorem qcb{N:List Str}{x:Str}{i:Nat}(h:qlb N x=some i):N[i]? =some x:=by obtain⟨hi,h1,_⟩:=List.findIdx?_eq_some_iff_getElem.mp h;rw[List.getElem?_eq_getElem hi,of_decide_eq_true h1]
structure Gf(M:Md)(g:Gx)(F:Fs)(k:Nat)(P:Program)(w:World)(mg:Str->Option Value)(base:Heap):Prop where
 fn: ∀x i,g.fi x=some i->x.cps.contains 46=false->∃f fd ps,mg x=some (.ref f)/\W.keepIn M.K (.ref f)=true/\qci M.K fd ps []/\qg7 P w M.K mg base (CXE P w) (8*k) f fd ps (spF M (F i))
 nb: ∀x,qcL.contains x=true->mg x=none
 cs: ∀x t,g.cs.lookup x=some t->∃v u,mg x=some u/\RelV v u/\∀B,Rep M.K B t v
 ex: ∀c bs,(c,bs)∈g.ex->mg c=some (.ref (clA M.K c))/\∃bm,qh2 base (clA M.K c) bm/\∀x∈bs,(g.ex.map (·.1)).contains x=true->(Value.ref (clA M.K c)::bm).contains (.ref (clA M.K x))=true
structure Tp(M:Md)(g:Gx)(X:Cx)(E:XK):Prop where
 st:X.stack=X.env::X.outer
 fr:X.env.frame=some X.env.locals
 ex:X.ex=[]
 xe: ∀a s',wpAny (model X.prog X.w) X.A (leaving X.env (.ref a)) (λ_ s''=>CXE X.prog X.w X.outer X.H₀ X.s₀ E (.ref a) s'') (λ_ _=>False) s'->X.xe (.ref a) s'
 ow:PassesOwn (model X.prog X.w) X.A X.env X.xe
 rs: ∀(x msg:Str) (j:Nat) (np p1 cpos pos:Pos),(g.ex.map (·.1)).contains x=true->Gl X x->(x==("__debug__" :Str))=false->PS X (.Raise (some (.Call (.Name x np) [.Constant (.str msg) j p1] [] cpos)) none pos) (qid (clA M.K x) E)
structure Cok(M:Md)(g:Gx)(F:Fs)(k:Nat)(C:Cc)(X:Cx)(E:XK):Prop where
 gf:Gf M g F k X.prog X.w X.mg X.base
 K:X.K=M.K
 N:X.N=C.N
 nd:C.N.Nodup
 sc:X.env.scope=C.sc
 fn: ∀x,qoQ C x=true->X.fn x=true\/C.sc.names.lookup x=some .local
 un:X.A.units+8<cLine
 cm:C.calm=true->X.calm=true/\qb4 (8*k+1) X.A/\qbC (CXE X.prog X.w) X E
 tp:C.top=true->Tp M g X E
 lm:C.lam=true->qb4 (8*k+4) X.A/\∃c P q,Lm M X c P q
 cf:C.cf=true->∀x,X.fn x=true
section
variable {M:Md}{g:Gx}{F:Fs}{k n:Nat}{C:Cc}{X:Cx}{E:XK}{x:Str}{pos p:Pos}
theorem Cok.gl(c:Cok M g F k C X E)(h:qkf C x=true):Gl X x/\(x==("__debug__" :Str))=false:=by unfold qkf at h;rw[Bool.and_eq_true] at h;refine⟨?_,by simpa using h.2⟩;show X.env.scope.names.lookup x=_;rw[c.sc];exact of_decide_eq_true h.1
theorem Cok.blt(c:Cok M g F k C X E)(h:qcz C x=true):Gl X x/\X.mg x=none/\(x==("__debug__" :Str))=false:=by unfold qcz at h;rw[Bool.and_eq_true] at h;exact⟨(c.gl h.1).1,c.gf.nb x h.2,(c.gl h.1).2⟩
theorem qoR{sc:Scope}(h:qn0 sc x=true):Vis sc x:=by
 unfold qn0 at h;split at h
 ·rename_i e;exact .inl e
 ·rename_i e;exact .inr (.inl e)
 ·rename_i e;exact .inr (.inr e)
 ·cases h
theorem qqj{sc:Scope}(h:qn2 sc x=true):Loc sc x:=by
 unfold qn2 at h;split at h
 ·rename_i e;exact .inl e
 ·rename_i e;exact .inr e
 ·cases h
theorem qo8(h:qoQ C x=true):Loc C.sc x:=by
 unfold qoQ at h;split at h
 ·rename_i e;exact .inl e
 ·rename_i e;exact .inr e
 ·cases h
theorem qnJ(c:Cok M g F k C X E):PE X (.Name x pos) (tE M E (qab F (qoE g C x))):=by
 unfold qoE;split
 ·exact qaj
 ·rename_i hd;have h1:(x==("__debug__" :Str))=false/\(x==("__classdict__" :Str))=false:=by simpa using hd
  split
  ·rename_i hv;split
   ·rename_i i hi;exact qq3 (qpF (by rw[c.N];exact qcb hi) (by rw[c.sc];exact qoR hv) h1.1 h1.2)
   ·exact qaj
  ·split
   ·rename_i hg;split
    ·rename_i t ht;obtain⟨v,u,m,r,rt⟩:=c.gf.cs x t ht;exact qq7 (qnl (c.gl hg).1 m r h1.1) rt
    ·exact qaj
   ·exact qaj
theorem qaW{f:Expr->CE}: ∀{es:List Expr},(∀e∈es,PE X e (tE M E (qab F (f e))))->es.all qal=true->PA X es (tA M E (runA F (es.map f)))
 |[],_,_=>qrc
 |e::es,h,hp=>by rw[List.all_cons,Bool.and_eq_true] at hp;exact qot (h e Vk) (qaW (λe he=>h e (Vl _ he)) hp.2) (qbi hp.1)
theorem qkp(c:Cok M g F k C X E): ∀(n:Nat) (e:Expr),PG X e (tG M E (qbS (cG C n e)))
 |0,e=>qjv
 |n+1,e=>by
  have many: ∀es:List Expr,es.all qal=true->PGs X es (tGs M E (runGs (es.map (cG C n)))):=λes=>by
   induction es with
   |nil=>exactλ_=>qom
   |cons e es ih=>intro h;rw[List.all_cons,Bool.and_eq_true] at h;exact qlr (qkp c n e) (ih h.2) (qoH h.1)
  cases e with
  |Name y p=>
   show PG X _ (tG M E (qbS (if qoQ C y then(match qlb C.N y with|some i=>.n i|none=>.no) else .no)));split
   ·rename_i hl;split
    ·rename_i i hi;exact qtL (qnj (by rw[c.N];exact c.nd) (by rw[c.N];exact qcb hi) (by rw[c.sc];exact qo8 hl) (by rw[c.sc];exact c.fn y hl))
    ·exact qjv
   ·exact qjv
  |Tuple ts kk p=>
   show PG X _ (tG M E (qbS (if C.calm&&ts.all qal then .tup (ts.map (cG C n)) else .no)));split
   ·rename_i h;rw[Bool.and_eq_true] at h;have q:=qq2 (k:=kk) (pos:=p) (c.cm h.1).1 (many ts h.2) c.K (n:=ts.length) qdI (qfk h.2);have e:(ts.map (cG C n)).length=ts.length:=List.length_map _;show PG X _ (tG M E (gT (ts.map (cG C n)).length _));rw[e];exact q
   ·exact qjv
  |_=>exact qjv
end
theorem qcG{M:Md}{g:Mu->T->T->Option Nv}:OkO M (rB M g) g:=λμ H B x y a b n Q h ra rb e k=>⟨μ,B,a,b,n,h,ra,rb,e,k⟩
section
variable {M:Md}{E:XK}{X:Cx}{a b c:Expr}{da db dc:DS0 T}{pos:Pos}{ow:Bool}
theorem bin_ok(hK:X.K=M.K){op:Operator}{o:O2}(h:qsV op=some o):OpR X (binaryOp op) (rB M o.g):=by
 cases op<;>first|(cases h;done)|skip
 ·cases h;exact OpR.ok qnB (qqa hK)
 ·cases h;exact OpR.ok qpQ qp2
 ·cases h;exact OpR.ok qnx (qp4 hK)
 ·cases h;exact OpR.ok qpU qp5
 ·cases h;exact OpR.ok qnz qp9
theorem qdB(hu:X.A.units+8<cLine)(hK:X.K=M.K)(op:CmpOp):OpR X (compareOp op) (rB M (qkh op).g):=by
 cases op with
 |Eq=>exact OpR.ok (qpZ hu) (qp8 hK)
 |NotEq=>exact OpR.ok (qpS hu) (qp8 hK)
 |Lt=>exact OpR.ok qpV qsR
 |LtE=>exact OpR.ok qpW qsS
 |Gt=>exact OpR.ok qsP qsT
 |GtE=>exact OpR.ok qsQ qsU
 |Is=>exact OpR.ok qny (qp6 (neg:=false))
 |IsNot=>exact OpR.ok qhr (qp6 (neg:=true))
 |In=>exact OpR.ok (qpY hu) (qp7 hK)
 |NotIn=>exact OpR.ok (qiH hu) (qp7 hK)
theorem qp3:OkU M (rU λi=>.int (-i)) qqL:=by
 refine⟨λt μ c m e=>(by cases t<;>cases e),λμ H B x t u aa Q h r e k=> ?_⟩;cases t with
 |int i=>cases e;exact⟨i,qad r,k _ H B h .refl qay⟩
 |_=>cases e
theorem qq6(h:PE X a (tE M E da)):PE X (.UnaryOp .USub a pos) (tE M E (dU qqL da)):=PE.weak (qsF qoS h) λσ H Q q=>qmH qp3 q
theorem qdE{o p:O2}{σ:St}{H:Hp}{Q:VK}(h:tE M E (qms o p da db dc) σ H Q):qie (rB M o.g) (rB M p.g) (tE M E da) (tE M E db) (tE M E dc) σ H Q:=by
 obtain⟨ρ,μ,B,ev,w⟩:=h;refine tE.of ev ((Wn.bind w).mono λx ah w1 v H1 B1 h1 l1 r1=> ?_);refine tE.of (ev.on h1 l1.le) ((Wn.bind w1).lift l1 λy ak w2 u H2 B2 h2 l2 r2=> ?_);have eX:=l1.trans l2;have w2:=Wn.bind w2;obtain⟨z,m,q,w2⟩:=Wn.pl w2 (λc m=>qd5 c m);have w2:=Wn.bind w2;obtain⟨kk,m',q',w3⟩:=Wn.pl w2 (λc m e=>by cases z<;>cases e);cases z with
 |bl z=>
  cases q';have kv:KE M H2 B2 (λz H3=> ∃k,z= .bl k/\if k=true then tE M E dc σ H3 λw' H4=>rB M p.g u w' H4 Q else Q (.bl false) H3) (.bl kk) m:=λzv H3 B3 h3 l3 r3=>by
   refine⟨kk,qbx r3,?_⟩;have w3:Wn M E H B (KE M H B Q) (if kk=true then _ else _):=w3;split at w3
   ·rename_i hk;rw[if_pos hk];have eW:=eX.trans l3;refine tE.of (ev.on h3 eW.le) ((Wn.bind w3).lift eW λw' bW w4 v4 H4 B4 h4 l4 r4=> ?_);obtain⟨c4,m4,q4,w5⟩:=Wn.pl w4 (λc m=>qd5 c m);obtain⟨n,e,kv⟩:=qbY q4 (KE.le w5 (eW.trans l4));exact⟨bW,B4,y,w',n,h4,(r2.mono l3.le).mono l4.le,r4,e,kv⟩
   ·rename_i hk;rw[if_neg hk];exact w3 _ H3 B3 h3 (eX.trans l3) qa9
  obtain⟨n,e,kv⟩:=qbY q kv;exact⟨ak,B2,x,y,n,h2,r1.mono l2.le,r2,e,kv⟩
 |_=>cases q'
theorem qpu{tc ta tb:TT}(hc:PT X c tc)(ha:PT X a ta)(hb:PT X b tb):PT X (.IfExp c a b pos) (λσ H Q=>tc σ H λk H1=>if k=true then ta σ H1 Q else tb σ H1 Q):=by
 intro pins s σ H Q I h;show wpAny _ _ (isTrue c X.env (eval c X.env)>>=λk=>if k=true then isTrue a X.env (eval a X.env) else isTrue b X.env (eval b X.env)) _ _ _;refine Va (thn (hc pins s σ H _ I h) λk s1 ⟨H1,I1,q⟩=> ?_);cases k with
 |true=>exact ha pins s1 σ H1 Q I1 q
 |false=>exact hb pins s1 σ H1 Q I1 q
theorem qoZ:dTB (qlx da)=quT (dTB da):=by
 funext ρ μ
 show R.bind (R.bind (R.bind (da ρ μ) tbO) λc μ=>.ok (.bl (!c)) μ) tbO=R.bind (R.bind (da ρ μ) tbO) λc μ=>.ok (!c) μ;cases da ρ μ with
 |no|ex c m=>rfl
 |ok t m=>cases t<;>rfl
theorem qo0:dTB (qly da db)=quX (dTB da) (dTB db):=by
 funext ρ μ
 show R.bind (R.bind (R.bind (da ρ μ) tbO) λc μ=>(if c=true then db else dC (.bl false)) ρ μ) tbO=R.bind (R.bind (da ρ μ) tbO) λc μ=>(if c=true then dTB db else dBl false) ρ μ;cases da ρ μ with
 |no|ex c m=>rfl
 |ok t m=>cases t<;>first|rfl|(rename_i z;cases z<;>rfl)
theorem qr5:dTB (qrU da db)=dOr (dTB da) (dTB db):=by
 funext ρ μ
 show R.bind (R.bind (R.bind (da ρ μ) tbO) λc μ=>(if c=true then dC (.bl true) else db) ρ μ) tbO=R.bind (R.bind (da ρ μ) tbO) λc μ=>(if c=true then dBl true else dTB db) ρ μ;cases da ρ μ with
 |no|ex c m=>rfl
 |ok t m=>cases t<;>first|rfl|(rename_i z;cases z<;>rfl)
theorem qr6{dt:DS0 Bool}:dTB (qhP dt da db)=qhP dt (dTB da) (dTB db):=by
 funext ρ μ
 show R.bind (R.bind (dt ρ μ) λc μ=>(if c=true then da else db) ρ μ) tbO=R.bind (dt ρ μ) λc μ=>(if c=true then dTB da else dTB db) ρ μ;cases dt ρ μ with
 |no|ex c m=>rfl
 |ok t m=>cases t<;>rfl
end
theorem qnq{X:Cx}:qbC (CXE X.prog X.w) X E0:=λpins σ H s e s' I ⟨_,_,_,_,_,_,_,q⟩=>q.elim
structure Eo(M:Md)(g:Gx)(F:Fs)(k n:Nat):Prop where
 e: ∀C X E,Cok M g F k C X E->∀e,PE X e (tE M E (qab F (cE g n C e)))
 t: ∀C X E,Cok M g F k C X E->∀e,PT X e (tT M E (dTB (qab F (cE g n C e))))
 c: ∀C X E,Cok M g F k C X E->C.calm=true->∀f es p pp,es.all qal=true->qkf C f=true->PE X (.Call (.Name f pp) es [] p) (tE M E (qab F (cCall g n C f es p)))
 i: ∀C X E,Cok M g F k C X E->∀tg it,PI X tg it (tI M E (runI F (cI g n C tg it)))
section
variable {M:Md}{g:Gx}{F:Fs}{k n:Nat}{C:Cc}{X:Cx}{E:XK}
theorem qlE{C:Cc}{sc:Scope}:(qag C sc).1.N=(sc.names.filter λy=>decide (y.2= .local)&&y.1 != (".0" :Str)).map (·.1)++(qag C sc).2.map (·.1):=rfl
theorem qct {sc:Scope} (h:qgS C sc=true):sc.kind= .function/\(∀y∈sc.names,y.2≠.cell)/\(∀y∈sc.names,y.2= .local->sc.names.lookup y.1=some .local)/\
  (∀y∈sc.names,y.2= .free->(C.sc.names.lookup y.1=some .cell\/C.sc.names.lookup y.1=some .free)/\sc.names.lookup y.1=some .free)/\(qag C sc).1.N.Nodup:=by unfold qgS at h;simp only[Bool.and_eq_true,List.all_eq_true,Bool.or_eq_true,decide_eq_true_eq] at h;obtain⟨⟨⟨⟨h1,h2⟩,h3⟩,h4⟩,h5⟩:=h;exact⟨h1,h2,λy hy e=>(h3 y hy).elim (λz=>absurd e z) id,λy hy e=>(h4 y hy).elim (λz=>absurd e z) id,h5⟩
theorem qlF {E':XK} {Y:Cx} {sc:Scope} (c:Cok M g F k C X E) (hc:C.calm=true) (h:qgS C sc=true) (hY: ∃fp s3 H3 xe,Y=(qao X sc ((sc.names.filter λy=>decide (y.2= .local)&&y.1 != (".0" :Str)).map (·.1)) (qag C sc).2 fp s3 H3).wish xe) (hp:qbC (CXE X.prog X.w) Y E'):Cok M g F k (qag C sc).1 Y E':=by
 obtain⟨fp,s3,H3,xe,rfl⟩:=hY;obtain⟨h1,h2,h3,h4,h5⟩:=qct h;refine⟨c.gf,c.K,rfl,h5,?_,λx hx=> ?_,c.un,λ_=>⟨(c.cm hc).1,(c.cm hc).2.1,hp⟩,(λz=>by cases z),λz=> ?_,λz=>by cases z⟩
 ·show relabel sc X.env=qrK C sc;unfold relabel qrK Env.kindOf;rw[c.sc]
 ·have hx:(match(qrK C sc).names.lookup x with|some .local=>true|some .cell=>false|_=>false)=true:=hx;split at hx
  ·rename_i e;exact .inr e
  ·cases hx
  ·cases hx
 ·obtain⟨r,cc,P,q,l⟩:=c.lm z;exact⟨r,cc,P,q,l.cd,l.hd,l.bm,l.q,l.t,l.t'⟩
theorem qox (IH:Eo M g F k n) (c:Cok M g F k C X E) {x:Bool} (hx:x=false) {elt tg iter:Expr} {ifs:List Expr} {sc:Scope} {p:Pos}:
  PE X (.ListComp elt [⟨tg,iter,ifs,0⟩] sc p) (tE M E (qab F (cComp g (n+1) C x elt tg iter ifs sc p)))/\
  ∀(i:Nat) (y:Str) (py spos:Pos),x=false->X.N[i]? =some y->C.sc.names.lookup y=some .local->swapsWith (.ListComp elt [⟨tg,iter,ifs,0⟩] sc p) (some (.Name y py)) spos.line X.env=pure true->
   PS X (.Assign [.Name y py] (.ListComp elt [⟨tg,iter,ifs,0⟩] sc p) spos) (tS M E (qlw i (qab F (cComp g (n+1) C x elt tg iter ifs sc p)))):=by
 have no:PE X (.ListComp elt [⟨tg,iter,ifs,0⟩] sc p) (tE M E (qab F .no))/\∀(i:Nat) (y:Str) (py spos:Pos),x=false->X.N[i]? =some y->C.sc.names.lookup y=some .local->swapsWith (.ListComp elt [⟨tg,iter,ifs,0⟩] sc p) (some (.Name y py)) spos.line X.env=pure true->
   PS X (.Assign [.Name y py] (.ListComp elt [⟨tg,iter,ifs,0⟩] sc p) spos) (tS M E (qlw i (qab F .no))):=⟨qaj,λ_ _ _ _ _ _ _ _ _ _ _ _ _ _ ⟨_,_,_,_,w⟩=>w.elim⟩
 unfold cComp;split
 case isFalse=>exact no
 rename_i cO;rw[Bool.and_eq_true] at cO;obtain⟨h1,h2,h3,h4,h5⟩:=qct cO.2;obtain⟨cm,hr,ps⟩:=c.cm cO.1;have bL: ∀q∈(qag C sc).2,X.N[q.2]? =some q.1/\sc.names.lookup q.1=some .free:=λq hq=>by
  obtain⟨y,hy,e⟩:=List.mem_filterMap.mp hq;split at e
  ·rename_i hf;obtain⟨i,hi,rfl⟩:=qak e;exact⟨by rw[c.N];exact qcb hi,(h4 y hy hf).2⟩
  ·cases e
 have ai: ∀y∈sc.names,y.2= .free->X.env.kindOf y.1=some .cell\/X.env.kindOf y.1=some .free:=λy hy e=>by show X.env.scope.names.lookup _=_\/X.env.scope.names.lookup _=_;rw[c.sc];exact(h4 y hy e).1
 have hn:(qag C sc).1.N.length - (qag C sc).2.length=((sc.names.filter λy=>decide (y.2= .local)&&y.1 != (".0" :Str)).map (·.1)).length:=by rw[qlE,List.length_append,List.length_map (f:=λx=>x.1) (as:=(qag C sc).2)];omega
 have go: ∀(tt:Option CE),(∀Y E',Cok M g F k (qag C sc).1 Y E'->qh1 Y ifs (tT M E' (runT F tt)))->
   PE X (.ListComp elt [⟨tg,iter,ifs,0⟩] sc p) (tE M E (qab F (.comp (g.own p) x ((qag C sc).1.N.length - (qag C sc).2.length) ((qag C sc).2.map (·.2)) (cG (qag C sc).1 n tg) (cI g n C tg iter) tt (cE g n (qag C sc).1 elt))))/\
   ∀(i:Nat) (y:Str) (py spos:Pos),x=false->X.N[i]? =some y->C.sc.names.lookup y=some .local->swapsWith (.ListComp elt [⟨tg,iter,ifs,0⟩] sc p) (some (.Name y py)) spos.line X.env=pure true->
    PS X (.Assign [.Name y py] (.ListComp elt [⟨tg,iter,ifs,0⟩] sc p) spos) (tS M E (qlw i (qab F (.comp (g.own p) x ((qag C sc).1.N.length - (qag C sc).2.length) ((qag C sc).2.map (·.2)) (cG (qag C sc).1 n tg) (cI g n C tg iter) tt (cE g n (qag C sc).1 elt))))):=λtt ht=>by
  have bP:qbZ iter=true\/cI g n C tg iter= .no:=by
   cases n with
   |zero=>exact .inr rfl
   |succ n=>
    cases z:qbZ iter with
    |true=>exact .inl rfl
    |false=>exact .inr (by unfold cI;rw[z];exact if_neg (by decide))
  rw[hn]
  rcases bP with bP|bP
  ·have hi:=IH.i C X E c tg iter;have jm: ∀(fp:List Addr) (s3:Shared) (H3:Hp),PG (qao X sc ((sc.names.filter λy=>decide (y.2= .local)&&y.1 != (".0" :Str)).map (·.1)) (qag C sc).2 fp s3 H3) tg (tG M E0 (qbS (cG (qag C sc).1 n tg)))/\qh1 (qao X sc ((sc.names.filter λy=>decide (y.2= .local)&&y.1 != (".0" :Str)).map (·.1)) (qag C sc).2 fp s3 H3) ifs (tT M E0 (runT F tt))/\PE (qao X sc ((sc.names.filter λy=>decide (y.2= .local)&&y.1 != (".0" :Str)).map (·.1)) (qag C sc).2 fp s3 H3) elt (tE M E0 (qab F (cE g n (qag C sc).1 elt))):=λfp s3 H3=>by have cc:=qlF (E':=E0) (Y:=qao X sc ((sc.names.filter λy=>decide (y.2= .local)&&y.1 != (".0" :Str)).map (·.1)) (qag C sc).2 fp s3 H3) c cO.1 cO.2 ⟨fp,s3,H3,λ_ _=>False,rfl⟩ qnq;exact⟨qkp cc n tg,ht _ _ cc,IH.e _ _ _ cc elt⟩
   refine⟨?_,λi y py spos g8 hy hl bO=> ?_⟩
   ·show PE X _ (tE M E (qhO (g.own p) _));have dn:PE X (.ListComp elt [⟨tg,iter,ifs,0⟩] sc p) (tN M E (qcd x ((sc.names.filter λy=>decide (y.2= .local)&&y.1 != (".0" :Str)).map (·.1)).length ((qag C sc).2.map (·.2)) (runI F (cI g n C tg iter)) (qbS (cG (qag C sc).1 n tg)) (runT F tt) (qab F (cE g n (qag C sc).1 elt)))):=by
     cases x with
     |false=>exact qoj cm hi h1 h2 h3 ai bL jm (qd6 bP)
     |true=>cases hx
    unfold qhO;split
    ·exact qop dn
    ·exact qor dn
   ·subst g8;have:=qhM (ow:=g.own p) (py:=py) (spos:=spos) cm hi h1 h2 h3 ai bL jm (by rw[c.N];exact c.nd) hy (by rw[c.sc];exact hl) bO (qd6 bP);exact this
  ·rw[bP];have e: ∀ow,(qhO ow (qcd x ((sc.names.filter λy=>decide (y.2= .local)&&y.1 != (".0" :Str)).map (·.1)).length ((qag C sc).2.map (·.2)) dNo (qbS (cG (qag C sc).1 n tg)) (runT F tt) (qab F (cE g n (qag C sc).1 elt))))=dNo:=λow=>by
    unfold qhO
    split<;>rfl
   show PE X _ (tE M E (qhO _ (qcd x _ _ dNo _ _ _)))/\∀(i:Nat) (y:Str) (py spos:Pos),_->_->_->_->PS X _ (tS M E (qlw i (qhO _ (qcd x _ _ dNo _ _ _))));rw[e];exact no
 rcases ifs with _|⟨t,_|⟨u,r⟩⟩
 ·exact go none λY E' cc=>qkM
 ·exact go (some (cE g n (qag C sc).1 t)) λY E' cc=>qpC (IH.t _ _ _ cc t)
 ·exact no
end
section
variable {M:Md}{g:Gx}{F:Fs}{k n:Nat}{C:Cc}{X:Cx}{E:XK}
theorem qt1{x:Str}{b:Bn}(h:qrv x=some b):x=b.nm:=by have:=List.find?_some h;exact(eq_of_beq this).symm
theorem qlR{x:Str}{ty:String}{b:Bm}(h:qoG x ty=some b):x=b.nm:=by have:=List.find?_some h;rw[Bool.and_eq_true] at this;exact(eq_of_beq this.1).symm
theorem qr2{x:Str}{N:String}(h:quc x=some N):x=Str.ofString N/\N∈["int", "bool", "str", "tuple", "list"]:=⟨(eq_of_beq (List.find?_some (p:=λN=>Str.ofString N==x) h)).symm,List.mem_of_find?_eq_some h⟩
theorem qeE{a:Arguments}(h:qaY a=true):a.posonlyargs=[]/\a.vararg=none/\a.kwonlyargs=[]/\a.kw_defaults=[]/\a.kwarg=none/\a.defaults=[]:=by unfold qaY at h;simp only[Bool.and_eq_true,decide_eq_true_eq,Option.isNone_iff_eq_none,List.length_eq_zero_iff] at h;exact⟨h.1.1.1.1.1,h.1.1.1.1.2,h.1.1.1.2,h.1.1.2,h.1.2,h.2⟩
theorem qf2{a:Arguments}{env:Env}(h:qaY a=true):defaultsOf a env=([],[]):=by obtain⟨_,_,_,h4,_,h6⟩:=qeE h;obtain⟨a1,a2,a3,a4,a5,a6,a7⟩:=a;cases h4;cases h6;rfl
theorem qqk{a:Arguments}{sc:Scope}(h:qk9 C a sc=true):qaY a=true/\sc.kind= .function/\sc.isCoroutine=false/\sc.isGenerator=false/\(∀y∈sc.names,y.2≠.cell)/\C.lam=true/\C.calm=true:=by unfold qk9 at h;simp only[Bool.and_eq_true,decide_eq_true_eq,Bool.not_eq_true',List.all_eq_true] at h;exact⟨h.1.1.1.1.1.1,h.1.1.1.1.1.2,h.1.1.1.1.2,h.1.1.1.2,h.1.1.2,h.1.2,h.2⟩
theorem qmR (IH:Eo M g F k n) (c:Cok M g F k C X E) {f kw x:Str} {e body:Expr} {a:Arguments} {sc:Scope} {pp lp kp p:Pos} {b:KB} (h:(f== "sorted" &&kw== "key" &&qcz C f&&qal e)=true) (hx:qee C a sc=some x) (hb:qqs x body=some b):
  PE X (.Call (.Name f pp) [e] [⟨some kw,.Lambda a body sc lp,kp⟩] p) (tE M E (qab F (.srtK (g.own p) b (cE g n C e)))):=by
 simp only[Bool.and_eq_true] at h;obtain⟨⟨⟨h1,h2⟩,h3⟩,h4⟩:=h;have h1:=eq_of_beq h1;have h2:=eq_of_beq h2;subst h1 h2;obtain⟨g1,g2,g3⟩:=c.blt h3;unfold qee at hx;split at hx
 ·rename_i arg ea;split at hx
  ·rename_i hc;cases hx;simp only[Bool.and_eq_true,decide_eq_true_eq,List.all_eq_true] at hc;obtain⟨⟨⟨c1,c2⟩,c3⟩,c4⟩:=hc;obtain⟨s1,s2,s3,s4,s5,s6,s7⟩:=qqk c1;obtain⟨hr,cc,P,q,L⟩:=c.lm s6;obtain⟨b1,b2,b3,b4,b5,b6⟩:=qeE s1;refine qls (IH.e C X E c e) c.K g1 g2 L hb c3 (qf2 s1) s2 s3 s4 c2 s5 (by simpa using c4) (λpm cv aW v=> ?_) (hr.mono (by omega)) h4;have:=qbO (fd:=W.kla_fn "<lambda>" q a body sc [] pm cv aW) (us:=[v]) b1 b2 b3 b5 rfl (by show(a.args.map (·.arg)).Nodup;rw[ea];simp) (by show _=(a.args.map (·.arg)).length;rw[ea];rfl);rw[this];show pure ((a.args.map (·.arg)).zip [v])=_;rw[ea];rfl
  ·cases hx
 ·cases hx
theorem qoD(IH:Eo M g F k n)(c:Cok M g F k C X E)(hc:C.calm=true){f:Str}{es:List Expr}{p pp:Pos}(hp:es.all qal=true)(hg:qkf C f=true):PE X (.Call (.Name f pp) es [] p) (tE M E (qab F (cCall g (n+1) C f es p))):=by
 obtain⟨cm,hr,ps⟩:=c.cm hc;obtain⟨gl,hd⟩:=c.gl hg;have args: ∀es:List Expr,es.all qal=true->PA X es (tA M E (runA F (es.map (cE g n C)))):=λes h=>qaW (λe _=>IH.e C X E c e) h;have bn: ∀{es:List Expr},es.all qal=true->es≠[]->qcz C f=true->PE X (.Call (.Name f pp) es [] p) (tE M E (qab F (match qrv f with|some b=>.bn (g.own p) b (es.map (cE g n C))|none=>.no))):=λ{es} hp hn hb=>by
  split
  ·rename_i b eb;have e:=qt1 eb;subst e;cases es with
   |nil=>exact absurd rfl hn
   |cons e es=>have aG:=hp;rw[List.all_cons,Bool.and_eq_true] at aG;obtain⟨b1,b2,b3⟩:=c.blt hb;exact qtP b cm c.K b1 b2 (args _ hp) (qbi aG.1) (qb7 aG.2)
  ·exact qaj
 unfold cCall;split
 ·rename_i hf;have hf:=eq_of_beq hf;subst hf;split
  ·rename_i a body sc lp;split
   ·rename_i ht;rw[Bool.and_eq_true,Bool.not_eq_true'] at ht;exact qaj
   ·exact qaj
  ·exact qaj
 split
 ·exact qaj
 ·rename_i dZ;have dZ:f.cps.contains 46=false:=by simpa using dZ
  split
  ·rename_i i hi;obtain⟨fa,fd,pms,m,kp,bd,fo⟩:=c.gf.fn f i hi dZ;have jB:qg7 X.prog X.w X.K X.mg X.base (CXE X.prog X.w) (8*k) fa fd pms (spF M (F i)):=by rw[c.K];exact fo
   cases es with
   |nil=>exact qlu jB (hr.mono (by omega)) gl m (by rw[c.K];exact kp) (by rw[c.K];exact bd) ps hd
   |cons e es=>have aG:=hp;rw[List.all_cons,Bool.and_eq_true] at aG;exact qos jB (hr.mono (by omega)) gl m (by rw[c.K];exact kp) (by rw[c.K];exact bd) ps (args _ hp) hd (qbi aG.1) (qb7 aG.2)
  ·split
   ·rename_i cC;split
    ·rename_i i hi;exact qaj
    ·exact qaj
   ·split
    ·rename_i hb;split
     ·rename_i e x xp;split
      ·rename_i hf;have hf:=eq_of_beq hf;subst hf;split
       ·rename_i N hN;split
        ·rename_i gn;obtain⟨e1,e2⟩:=qr2 hN;obtain⟨b1,b2,b3⟩:=c.blt hb;obtain⟨d1,d2,d3⟩:=c.blt gn;rw[List.all_cons,Bool.and_eq_true] at hp;exact qoq e2 e1 c.K b1 b2 d1 d2 (IH.e C X E c e) (qbi hp.1) (qbi rfl) (qb7 hp.2)
        ·exact qaj
       ·exact qaj
      ·exact bn hp (by simp) hb
     ·rename_i s sp a ap;split
      ·rename_i hs;simp only[Bool.and_eq_true] at hs;have es:=eq_of_beq hs.1.1;subst es;obtain⟨d1,d2,d3⟩:=c.blt hs.1.2;obtain⟨b1,b2,b3⟩:=c.blt hb;split
       ·rename_i hf;have hf:=eq_of_beq hf;subst hf;exact qon cm c.K b1 b2 d1 d2 (IH.e C X E c a) (qbi hs.2)
       ·split
        ·rename_i hf;have hf:=eq_of_beq hf;subst hf;exact qoo cm c.K b1 b2 d1 d2 (IH.e C X E c a) (qbi hs.2)
        ·exact qaj
      ·exact bn hp (by simp) hb
     ·exact qaj
     ·rename_i h1 h2 h3;exact bn hp h3 hb
    ·exact qaj
theorem qtb(IH:Eo M g F k n)(c:Cok M g F k C X E)(tg e:Expr):PI X tg e (tI M E (runI F (cI g (n+1) C tg e))):=by
 have gen:PI X tg e (tI M E (runI F (.gen (cE g n C e)))):=qq1 (IH.e C X E c e) c.K;unfold cI;split
 case isFalse=>exact qdj
 split
 ·rename_i f fp es p _;split
  ·rename_i hf;have hf:=eq_of_beq hf;subst hf;split
   ·rename_i hb;rw[Bool.and_eq_true] at hb;obtain⟨b1,b2,b3⟩:=c.blt hb.1;have args:PA X es (tA M E (runA F (es.map (cE g n C)))):=qaW (λe _=>IH.e C X E c e) hb.2;have hp:=hb.2;split
    ·rename_i a;rw[List.all_cons,Bool.and_eq_true] at hp;exact qju b1 b2 args (qbi hp.1)
    ·rename_i a b;rw[List.all_cons,Bool.and_eq_true,List.all_cons,Bool.and_eq_true] at hp;exact qjt b1 b2 args (by rw[qbi hp.1,qbi hp.2.1];rfl) (by rw[qbi hp.2.1];rfl)
    ·exact qdj
   ·exact qdj
  ·split
   ·rename_i hf;have hf:=eq_of_beq hf;subst hf;split
    ·rename_i hb;simp only[Bool.and_eq_true] at hb;obtain⟨b1,b2,b3⟩:=c.blt hb.1.1;have args:PA X es (tA M E (runA F (es.map (cE g n C)))):=qaW (λe _=>IH.e C X E c e) hb.1.2;have hp:=hb.1.2;have ht:=hb.2;cases tg with
     |Tuple ts kk tp=>
      split
      ·rename_i a;rw[List.all_cons,Bool.and_eq_true] at hp;exact qdj
      ·exact qdj
     |_=>cases ht
    ·exact qdj
   ·split
    ·rename_i hf;have hf:=eq_of_beq hf;subst hf;split
     ·rename_i hb;simp only[Bool.and_eq_true] at hb;obtain⟨b1,b2,b3⟩:=c.blt hb.1.1;have args:PA X es (tA M E (runA F (es.map (cE g n C)))):=qaW (λe _=>IH.e C X E c e) hb.1.2;have hp:=hb.1.2;have ht:=hb.2;cases tg with
      |Tuple ts kk tp=>
       split
       ·rename_i a b;rw[List.all_cons,Bool.and_eq_true] at hp;exact qdj
       ·exact qdj
      |_=>cases ht
     ·exact qdj
    ·exact gen
 ·exact gen
end
section
variable {M:Md}{g:Gx}{F:Fs}{k n:Nat}{C:Cc}{X:Cx}{E:XK}
theorem qmA{f:Expr->CE}{pos:Pos}(h: ∀e,PE X e (tE M E (qab F (f e)))): ∀es:List Expr,PE X (.BoolOp .And es pos) (tE M E (qab F (qg2 (es.map f))))
 |[]=>qaj
 |[a]=>h a
 |a::b::r=>qq9 (h a) (qmA h (b::r))
theorem qpP{f:Expr->CE}{pos:Pos}(h: ∀e,PE X e (tE M E (qab F (f e)))): ∀es:List Expr,PE X (.BoolOp .Or es pos) (tE M E (qab F (qkX (es.map f))))
 |[]=>qaj
 |[a]=>h a
 |a::b::r=>qtN (h a) (qpP h (b::r))
theorem qj2{f:Expr->CE}{pos:Pos}(h: ∀e,PT X e (tT M E (dTB (qab F (f e))))): ∀es:List Expr,PW X (.BoolOp .And es pos) (tT M E (dTB (qab F (qg2 (es.map f)))))
 |[]=>λ_ _ _ _ _ _ _ ⟨_,_,_,_,w⟩=>w.elim
 |[a]=>qoe (h a)
 |a::b::r=>by show PW X _ (tT M E (dTB (qly _ _)));rw[qo0];exact qqT (h a) (qj2 h (b::r))
theorem ql8{f:Expr->CE}{pos:Pos}(h: ∀e,PT X e (tT M E (dTB (qab F (f e))))): ∀es:List Expr,PW X (.BoolOp .Or es pos) (tT M E (dTB (qab F (qkX (es.map f)))))
 |[]=>λ_ _ _ _ _ _ _ ⟨_,_,_,_,w⟩=>w.elim
 |[a]=>qqS (h a)
 |a::b::r=>by show PW X _ (tT M E (dTB (qrU _ _)));rw[qr5];exact qtI (h a) (ql8 h (b::r))
theorem ql9{f:Expr->CE}(h: ∀e,PE X e (tE M E (qab F (f e)))): ∀o:Option Expr,PO X o (tO M E (runO F (o.map f)))
 |none=>qoi
 |some e=>qoh (h e)
theorem qnM (IH:Eo M g F k n) (c:Cok M g F k C X E) {o:Expr} {m:Str} {ap p:Pos} {es:List Expr} (h:(qgy o&&es.all qal&&decide (es.length<30))=true) (hl:(ap.endLine==p.line)=true):
  PE X (.Call (.Attribute o m ap) es [] p) (tE M E (qab F (match qoG m "list",qoG m "dict" with
     |some b,some d=>.alt (.bm (g.own p) b (cE g n C o) (es.map (cE g n C))) (.bm (g.own p) d (cE g n C o) (es.map (cE g n C)))
     |some b,none=>.bm (g.own p) b (cE g n C o) (es.map (cE g n C))
     |none,some d=>.bm (g.own p) d (cE g n C o) (es.map (cE g n C))
     |none,none=>.no))):=by
 simp only[Bool.and_eq_true,decide_eq_true_eq] at h;obtain⟨⟨h1,h2⟩,h3⟩:=h;have args:PA X es (tA M E (runA F (es.map (cE g n C)))):=qaW (λe _=>IH.e C X E c e) h2;have bm: ∀b:Bm,m=b.nm->PE X (.Call (.Attribute o m ap) es [] p) (tE M E (qab F (.bm (g.own p) b (cE g n C o) (es.map (cE g n C))))):=λb e=>by
  subst e;cases es with
  |nil=>exact qq8 b c.un c.K (IH.e C X E c o) (qjW h1) hl
  |cons e es=>have aG:=h2;rw[List.all_cons,Bool.and_eq_true] at aG;exact qtQ b c.un c.K (IH.e C X E c o) args (qjW h1) (qqP h2 h3) hl (qbi aG.1) (qb7 aG.2)
 split
 ·rename_i e1 e2;exact qra (bm _ (qlR e1)) (bm _ (qlR e2))
 ·rename_i e1 e2;exact bm _ (qlR e1)
 ·rename_i e1 e2;exact bm _ (qlR e2)
 ·exact qaj
theorem qv7(IH:Eo M g F k n)(fI: ∀C X E,Cok M g F k C X E->∀(x:Bool),x=false->∀elt tg iter ifs sc p,PE X (.ListComp elt [⟨tg,iter,ifs,0⟩] sc p) (tE M E (qab F (cComp g n C x elt tg iter ifs sc p))))(c:Cok M g F k C X E)(e:Expr):PE X e (tE M E (qab F (cE g (n+1) C e))):=by
 have ih:=IH.e C X E c;have c7:=IH.t C X E c;cases e with
 |Constant cc kk p=>
  cases cc with
  |none=>exact qq7 qpI λB=>qgz
  |bool b=>exact qq7 qsK λB=>qa9
  |int i=>exact qq7 qpK λB=>qay
  |str s=>exact qq7 ql5 λB=>qcp
  |_=>exact qaj
 |Name x p=>exact qnJ c
 |Tuple es kk p=>
  show PE X _ (tE M E (qab F (if es.all qal then .tup (es.map (cE g n C)) else .no)));split
  ·rename_i h;exact qq4 (qaW (λe _=>ih e) h)
  ·exact qaj
 |List es p=>
  show PE X _ (tE M E (qab F (if es.all qal then .lst (g.own p) (es.map (cE g n C)) else .no)));split
  ·rename_i h;show PE X _ (tE M E (qhO _ _));unfold qhO;split
   ·exact qop (qmn (qaW (λe _=>ih e) h))
   ·exact qor (qmn (qaW (λe _=>ih e) h))
  ·exact qaj
 |Dict ks vs p=>
  cases ks with
  |nil=>
   cases vs with
   |nil=>
    show PE X _ (tE M E (qhO _ _));unfold qhO;split
    ·exact qop qjs
    ·exact qor qjs
   |cons _ _=>exact qaj
  |cons _ _=>exact qaj
 |BinOp a op b p=>
  show PE X _ (tE M E (qab F (match qsV op with|some o=>.o2 (g.own p) o (cE g n C a) (cE g n C b)|none=>.no)));split
  ·rename_i o ho;exact PE.weak (qsH (bin_ok c.K ho) (ih _) (ih _)) λ_ _ _ q=>qd4 qcG.b q
  ·exact qaj
 |UnaryOp op a p=>
  cases op with
  |Not=>exact qq5 (ih _)
  |USub=>exact qq6 (ih _)
  |_=>exact qaj
 |BoolOp op es p=>
  cases op with
  |And=>exact qmA ih _
  |Or=>exact qpP ih _
 |IfExp t a b p=>exact qtO (c7 _) (ih _) (ih _)
 |Compare a ops bs p=>
  match ops,bs with
  |[o],[b]=>
   show PE X _ (tE M E (qab F (if qbZ b then .o2 false (qkh o) (cE g n C a) (cE g n C b) else .no)));split
   ·rename_i h;exact PE.weak (qnn (qdB c.un c.K _) (ih _) (ih _) (qgC h)) λ_ _ _ q=>qd4 qcG.b q
   ·exact qaj
  |[o,q],[b,d]=>
   show PE X _ (tE M E (qab F (if qbZ d then .chain (qkh o) (qkh q) (cE g n C a) (cE g n C b) (cE g n C d) else .no)));split
   ·rename_i h;exact PE.weak (qkU (qdB c.un c.K _) (qdB c.un c.K _) (ih _) (ih _) (ih _) (qdu h)) λ_ _ _ q=>qdE q
   ·exact qaj
  |[],_=>exact qaj
  |[o],[]=>exact qaj
  |[o],_::_::_=>exact qaj
  |[o,q],[]=>exact qaj
  |[o,q],[_]=>exact qaj
  |[o,q],_::_::_::_=>exact qaj
  |_::_::_::_,_=>exact qaj
 |Subscript a b p=>
  cases b with
  |Slice lo hi st q=>
   cases st with
   |none=>exact qlt c.K (ih _) (ql9 ih _) (ql9 ih _)
   |some st=>exact qaj
  |_=>exact PE.weak (qsI (qvy (by have:=c.un;omega) c.K) (ih _) (ih _) (qht rfl)) λ_ _ _ q=>qd4 qcG.b q
 |Call f es c6 p=>
  cases f with
  |Attribute o m ap=>
   cases c6 with
   |nil=>
    show PE X _ (tE M E (qab F (if(qgy o&&es.all qal&&decide (es.length<30))&&ap.endLine==p.line then
    (match qoG m "list",qoG m "dict" with
     |some b,some d=>.alt (.bm (g.own p) b (cE g n C o) (es.map (cE g n C))) (.bm (g.own p) d (cE g n C o) (es.map (cE g n C)))
     |some b,none=>.bm (g.own p) b (cE g n C o) (es.map (cE g n C))
     |none,some d=>.bm (g.own p) d (cE g n C o) (es.map (cE g n C))
     |none,none=>.no) else .no)))
    split
    ·rename_i h;rw[Bool.and_eq_true] at h;exact qnM IH c h.1 h.2
    ·exact qaj
   |cons _ _=>exact qaj
  |Name f fp=>
   cases c6 with
   |nil=>
    have go:PE X (.Call (.Name f fp) es [] p) (tE M E (qab F (if(es.all qal&&C.calm)&&qkf C f then cCall g n C f es p else .no))):=by
     split
     ·rename_i h;simp only[Bool.and_eq_true] at h;exact IH.c C X E c h.1.2 _ _ _ _ h.1.1 h.2
     ·exact qaj
    match es,go with
    |[],go=>exact go
    |[_],go=>exact go
    |_::_::_,go=>exact go
   |cons kw c6=>
    obtain⟨ka,v,kp⟩:=kw
    match es with
    |[]=>exact qaj
    |_::_::_=>exact qaj
    |[e]=>
     cases ka with
     |none=>cases c6<;>exact qaj
     |some kw=>
      cases v with
      |Lambda a body sc lp=>
       cases c6 with
       |nil=>
        show PE X _ (tE M E (qab F (if f== "sorted" &&kw== "key" &&qcz C f&&qal e then(match qee C a sc with
    |some x=>(match qqs x body with|some b=>.srtK (g.own p) b (cE g n C e)|none=>.no)
    | none=>.no) else .no)))
        split
        ·rename_i h;split
         ·rename_i x hx;split
          ·rename_i b hb;exact qmR IH c h hx hb
          ·exact qaj
         ·exact qaj
        ·exact qaj
       |cons _ _=>exact qaj
      |_=>cases c6<;>exact qaj
  |_=>exact qaj
 |ListComp elt gs sc p=>
  cases gs with
  |nil=>exact qaj
  |cons gg gs=>
   obtain⟨tg,iter,ifs,as⟩:=gg;cases gs with
   |nil=>
    cases as with
    |ofNat m=>
     cases m with
     |zero=>exact fI C X E c _ rfl _ _ _ _ _ _
     |succ m=>exact qaj
    |negSucc m=>exact qaj
   |cons _ _=>
    cases as with
    |ofNat m=>cases m<;>exact qaj
    |negSucc m=>exact qaj
 |_=>exact qaj
theorem qu7(IH:Eo M g F k n)(he:PE X e (tE M E (qab F (cE g (n+1) C e))))(c:Cok M g F k C X E):PT X e (tT M E (dTB (qab F (cE g (n+1) C e)))):=by
 have ih:=IH.e C X E c;have c7:=IH.t C X E c;cases e with
 |UnaryOp op a p=>
  cases op with
  |Not=>show PT X _ (tT M E (dTB (qlx _)));rw[qoZ];exact qqV (c7 a)
  |_=>exact qml he λ_=>rfl
 |BoolOp op es p=>
  cases op with
  |And=>exact(qj2 c7 es).pt
  |Or=>exact(ql8 c7 es).pt
 |IfExp t a b p=>show PT X _ (tT M E (dTB (qhP _ _ _)));rw[qr6];exact PT.weak (qpu (c7 t) (c7 a) (c7 b)) λ_ _ _ q=>qef q
 |Compare a ops bs p=>
  have no:PT X (.Compare a ops bs p) (tT M E (dTB (qab F .no))):=λ_ _ _ _ _ _ ⟨_,_,_,_,w⟩=>w.elim
  match ops,bs,no with
  |[o],[b],no=>
   show PT X _ (tT M E (dTB (qab F (if qbZ b then .o2 false (qkh o) (cE g n C a) (cE g n C b) else .no))));split
   ·rename_i h;exact PT.weak (qnc (qdB c.un c.K o) (ih a) (ih b) (qgC h)) λ_ _ _ q=>qd4 qcG.b (qfu q)
   ·exact no
  |[o,q],[b,d],no=>
   show PT X _ (tT M E (dTB (qab F (if qbZ d then .chain (qkh o) (qkh q) (cE g n C a) (cE g n C b) (cE g n C d) else .no))));split
   ·rename_i h;exact PT.weak (qkJ (qdB c.un c.K o) (qdB c.un c.K q) (ih a) (ih b) (ih d) (qdu h)) λ_ _ _ q=>qdE (qfu q)
   ·exact no
  |[],_,no=>exact no
  |[o],[],no=>exact no
  |[o],_::_::_,no=>exact no
  |[o,q],[],no=>exact no
  |[o,q],[_],no=>exact no
  |[o,q],_::_::_::_,no=>exact no
  |_::_::_::_,_,no=>exact no
 |_=>exact qml he λ_=>rfl
theorem qjn (M:Md) (g:Gx) (F:Fs) (k:Nat): ∀n,Eo M g F k n/\(∀C X E,Cok M g F k C X E->∀(x:Bool),x=false->∀elt tg iter ifs sc p,PE X (.ListComp elt [⟨tg,iter,ifs,0⟩] sc p) (tE M E (qab F (cComp g n C x elt tg iter ifs sc p)))/\
  ∀(i:Nat) (y:Str) (py spos:Pos),x=false->X.N[i]? =some y->C.sc.names.lookup y=some .local->swapsWith (.ListComp elt [⟨tg,iter,ifs,0⟩] sc p) (some (.Name y py)) spos.line X.env=pure true->
   PS X (.Assign [.Name y py] (.ListComp elt [⟨tg,iter,ifs,0⟩] sc p) spos) (tS M E (qlw i (qab F (cComp g n C x elt tg iter ifs sc p)))))
 |0=>⟨⟨λC X E c e=>qaj,λC X E c e _ _ _ _ _ _ ⟨_,_,_,_,w⟩=>w.elim,λC X E c _ f es p pp _ _=>qaj,λC X E c tg it=>qdj⟩,λC X E c x hx elt tg iter ifs sc p=>⟨qaj,λ_ _ _ _ _ _ _ _ _ _ _ _ _ _ ⟨_,_,_,_,w⟩=>w.elim⟩⟩
 |n+1=>by obtain⟨IH,hc⟩:=qjn M g F k n;have he: ∀C X E,Cok M g F k C X E->∀e,PE X e (tE M E (qab F (cE g (n+1) C e))):=λC X E c e=>qv7 IH (λC X E c x hx elt tg iter ifs sc p=>(hc C X E c x hx elt tg iter ifs sc p).1) c e;exact⟨⟨he,λC X E c e=>qu7 IH (he C X E c e) c,λC X E c hc f es p pp hp hg=>qoD IH c hc hp hg,λC X E c tg it=>qtb IH c tg it⟩,λC X E c x hx elt tg iter ifs sc p=>qox IH c hx⟩
end
section
variable {M:Md}{g:Gx}{F:Fs}{k n:Nat}{C:Cc}{X:Cx}{E:XK}
theorem qtE{x:Str}(h:(g.ex.map (·.1)).contains x=true): ∃bs,(x,bs)∈g.ex:=by rw[List.contains_iff_mem] at h;obtain⟨p,hp,rfl⟩:=List.mem_map.mp h;exact⟨p.2,hp⟩
theorem qgk{is:List Nat}{ts:List T}{ρ ae:Ro}(h:qa7 is ts ρ=some ae):is.length=ts.length:=by
 induction is generalizing ts ρ with
 |nil=>cases ts with
  |nil=>rfl
  |cons _ _=>cases h
 |cons i is ih=>cases ts with
  |nil=>cases h
  |cons t ts=>simp[ih h]
theorem qiY{N:List Str}: ∀{xs:List Str} {is:List Nat},qnV N xs=some is->is.length=xs.length/\∀(j:Nat) (x:Str) (i:Nat),xs[j]? =some x->is[j]? =some i->N[i]? =some x
 |[],is,h=>by cases h;exact⟨rfl,λj x i e=>by simp at e⟩
 |x::xs,is,h=>by
  obtain⟨i,e1,e2⟩:=bind_some h;obtain⟨cw,e3,rfl⟩:=qak e2;obtain⟨a,b⟩:=qiY e3;refine⟨by simp[a],λj y q e4 e5=> ?_⟩;cases j with
  |zero=>cases e4;cases e5;exact qcb e1
  |succ j=>exact b j y q (by simpa using e4) (by simpa using e5)
theorem qiU{line:Nat}: ∀{ts:List Expr} {xs:List Str},qbv C line ts=some xs->ts.length=xs.length/\(∀x∈xs,C.sc.names.lookup x=some .local)/\∃ps:List Pos,ps.length=xs.length/\ts=(xs.zip ps).map (λq=>Expr.Name q.1 q.2)/\∀p∈ps,p.line=line
 |[],xs,h=>by cases h;exact⟨rfl,(λ_ h=>nomatch h),[],rfl,rfl,λ_ h=>nomatch h⟩
 |e::ts,xs,h=>by
  cases e with
  |Name x p=>
   have h:(if decide (C.sc.names.lookup x=some .local)&&p.line==line then(qbv C line ts).map (x:: ·) else none)=some xs:=h;split at h
   ·rename_i hc;rw[Bool.and_eq_true] at hc;obtain⟨ys,e1,rfl⟩:=qak h;obtain⟨a,b,ps,d,e,f⟩:=qiU e1;refine⟨by simp[a],λy hy=> ?_,p::ps,by simp[d],by rw[e];rfl,λq hq=> ?_⟩
    ·rcases List.mem_cons.mp hy with rfl|hy
     ·exact of_decide_eq_true hc.1
     ·exact b y hy
    ·rcases List.mem_cons.mp hq with rfl|hq
     ·exact eq_of_beq hc.2
     ·exact f q hq
   ·cases h
  |_=>cases h
theorem qeo{env:Env}{sc:Scope}(h:env.scope=sc)(hk:sc.kind= .function):env.blockKind= .function:=by unfold Env.blockKind;rw[h,hk];rfl
theorem qbs{vs:List Expr}(hp:vs.all qal=true){v:Expr}(hv:v∈vs): ∀a b,v≠.Starred a b:=λa b e=>by have:=List.all_eq_true.mp hp v hv;rw[e] at this;cases this
theorem qks {x y:Str} {px py pt pv:Pos} {a b:Expr} {kt kv:Nat} (bZ:X.env.scope=C.sc) (hk:C.sc.kind= .function) (hp:[a,b].all qal=true) (hx:C.sc.names.lookup x=some .local) (hy:C.sc.names.lookup y=some .local) (hl:py.line=px.line) (hd:([x,y].eraseDups.length==[x,y].length)=true)
  (hf:[a,b].all (foldedForSure 8)=false) (hc:[a,b].all (constantsAlone 8)=false):swappedStores [.Tuple [.Name x px,.Name y py] kt pt] (.Tuple [a,b] kv pv) X.env=pure (some [x,y]):=by
 have e1:X.env.kindOf x=some .local:=by unfold Env.kindOf;rw[bZ];exact hx
 have e2:X.env.kindOf y=some .local:=by unfold Env.kindOf;rw[bZ];exact hy
 have hb:=qeo bZ hk;have s1: ∀p q,a≠.Starred p q:=qbs hp (by simp);have s2: ∀p q,b≠.Starred p q:=qbs hp (by simp);have hs:([a,b].any λ| .Starred .. =>true|_=>false)=false:=by rw[List.any_eq_false];intro e he h;have ne:=qbs hp he;cases e<;>first|(cases h;done)|exact absurd rfl (ne _ _)
 unfold swappedStores;simp only[List.head?_cons,Option.map_some,Option.getD_some,Expr.pos,hb,List.length_cons,List.length_nil,List.filterMap_cons,List.filterMap_nil,e1,e2,hl,beq_self_eq_true,Bool.and_self,if_true];have fH:([x,y].eraseDups.length != 2)=false:=by have:([x,y].eraseDups.length==2)=true:=hd;simp only[bne,this,Bool.not_true]
 rw[if_neg (by decide),if_neg (λh=>by have h':([a,b].any λ| .Starred .. =>true|_=>false)=true:=h;rw[hs] at h';cases h'),if_neg (λh=>by
  have h':(false||([x,y].eraseDups.length != 2))=true:=h;rw[fH] at h';cases h'),hf,hc]
 rfl
theorem qkr {x y z:Str} {px py pz pt pv:Pos} {a b d:Expr} {kt kv:Nat} (bZ:X.env.scope=C.sc) (hk:C.sc.kind= .function) (hp:[a,b,d].all qal=true) (hx:C.sc.names.lookup x=some .local) (hy:C.sc.names.lookup y=some .local) (hz:C.sc.names.lookup z=some .local) (hl:py.line=px.line) (bG:pz.line=px.line) (hd:([x,y,z].eraseDups.length==[x,y,z].length)=true)
  (hf:[a,b,d].all (foldedForSure 8)=false) (hc:[a,b,d].all (constantsAlone 8)=false):swappedStores [.Tuple [.Name x px,.Name y py,.Name z pz] kt pt] (.Tuple [a,b,d] kv pv) X.env=pure (some [x,y,z]):=by
 have e1:X.env.kindOf x=some .local:=by unfold Env.kindOf;rw[bZ];exact hx
 have e2:X.env.kindOf y=some .local:=by unfold Env.kindOf;rw[bZ];exact hy
 have e3:X.env.kindOf z=some .local:=by unfold Env.kindOf;rw[bZ];exact hz
 have hb:=qeo bZ hk;have st: ∀v:Expr,v∈[a,b,d]->(match v with|.Starred .. =>true|_=>false)=false:=λv hv=>by have:=qbs hp hv;cases v<;>first|rfl|exact absurd rfl (this _ _)
 have hs:([a,b,d].any λ| .Starred .. =>true|_=>false)=false:=by rw[List.any_eq_false];intro v hv;rw[st v hv];decide
 unfold swappedStores;simp only[List.head?_cons,Option.map_some,Option.getD_some,Expr.pos,hb,List.length_cons,List.length_nil,List.filterMap_cons,List.filterMap_nil,e1,e2,e3,hl,bG,beq_self_eq_true,Bool.and_self,if_true];have fH:([x,y,z].eraseDups.length != 3)=false:=by have:([x,y,z].eraseDups.length==3)=true:=hd;simp only[bne,this,Bool.not_true]
 rw[if_neg (by decide),if_neg (λh=>by have h':([a,b,d].any λ| .Starred .. =>true|_=>false)=true:=h;rw[hs] at h';cases h'),if_neg (λh=>by
  have h':(false||([x,y,z].eraseDups.length != 3))=true:=h;rw[fH] at h';cases h'),hf,hc]
 rfl
theorem qea{α:Type}{l:List α}(h:l.length=2): ∃a b,l=[a,b]:=match l,h with|[a,b],_=>⟨a,b,rfl⟩
theorem qd9{α:Type}{l:List α}(h:l.length=3): ∃a b c,l=[a,b,c]:=match l,h with|[a,b,c],_=>⟨a,b,c,rfl⟩
theorem qpN{is:List Nat}{es:List CE}{ts vs:List Expr}{kt kv:Nat}{pt pv pos:Pos}{cs:CS}(c:Cok M g F k C X E)(he: ∀e,PE X e (tE M E (qab F (cE g n C e))))(h:qru g n C ts vs=some cs):PS X (.Assign [.Tuple ts kt pt] (.Tuple vs kv pv) pos) (tS M E (qaP F cs)):=by
 unfold qru at h;split at h
 case isFalse=>cases h
 rename_i hc;simp only[Bool.and_eq_true,Bool.not_eq_true'] at hc;obtain⟨⟨⟨⟨⟨⟨h1,h2⟩,h3⟩,h4⟩,h5⟩,h6⟩,h7⟩:=hc;obtain⟨xs,e1,e2⟩:=bind_some h;split at e2
 case isFalse=>cases e2
 rename_i jg;rw[Bool.and_eq_true] at jg;obtain⟨hd,nd⟩:=jg;have nd:xs.Nodup:=of_decide_eq_true nd;obtain⟨is,e3,rfl⟩:=qak e2;obtain⟨l1,bR,ps,l2,rfl,aA⟩:=qiU e1;obtain⟨l3,hN⟩:=qiY e3;have hv:=eq_of_beq h2;have args:PA X vs (tA M E (runA F (vs.map (cE g n C)))):=qaW (λe _=>he e) h3;have jf:X.N.Nodup:=by rw[c.N];exact c.nd
 have inj: ∀{i j:Nat} {x y:Str},X.N[i]? =some x->X.N[j]? =some y->x≠y->i≠j:=λe1 e2 n z=>by subst z;rw[e1] at e2;exact n (Option.some.inj e2)
 have lk: ∀x,x∈xs->X.env.scope.names.lookup x=some .local:=λx hx=>by rw[c.sc];exact bR x hx
 have h23:xs.length=2\/xs.length=3:=by rw[Bool.or_eq_true] at h1;rw[<-l1];exact h1.imp eq_of_beq eq_of_beq
 rw[l1] at hv;obtain⟨cm,_,_⟩:=c.cm h4
 rcases h23 with z2|z2
 ·obtain⟨x,y,rfl⟩:=qea z2;obtain⟨px,py,rfl⟩:=qea (l2.trans z2);obtain⟨i,j,rfl⟩:=qea (l3.trans z2);obtain⟨a,b,rfl⟩:=qea (hv.trans z2);have nx:X.N[i]? =some x:=by rw[c.N];exact hN 0 x i rfl rfl
  have ny:X.N[j]? =some y:=by rw[c.N];exact hN 1 y j rfl rfl
  have il:py.line=px.line:=(aA py (by simp)).trans (aA px (by simp)).symm;refine PS.weak (qpy cm jf nx ny (inj nx ny (by simp at nd;exact nd)) (lk _ (by simp)) (lk _ (by simp)) args (qks c.sc (of_decide_eq_true h5) h3 (bR x (by simp)) (bR y (by simp)) il hd h7 h6)) λD σ H ⟨ρ,μ,B,ev,w⟩=>⟨ρ,μ,B,ev,(Wn.bind w).mono λts m w1 us H1 B1 h1 g1 r1=> ?_⟩
  change Wn M E H B (KS M H B D) (match qa7 [i,j] ts ρ with|some ae=>.ok (.nx ae) m|none=>.no) at w1
  split at w1
  ·rename_i ae er;have lt:=qgk er
   match ts,lt,er,r1 with
   |[t,u],_,er,r1=>obtain⟨v,v',rfl,a1,a2⟩:=qiq r1;cases er;exact⟨v,v',rfl,w1 _ H1 B1 (((ev.on h1 g1.le).set a1).set a2) g1⟩
  ·exact w1.elim
 ·obtain⟨x,y,z,rfl⟩:=qd9 z2;obtain⟨px,py,pz,rfl⟩:=qd9 (l2.trans z2);obtain⟨i,j,q,rfl⟩:=qd9 (l3.trans z2);obtain⟨a,b,d,rfl⟩:=qd9 (hv.trans z2);have nx:X.N[i]? =some x:=by rw[c.N];exact hN 0 x i rfl rfl
  have ny:X.N[j]? =some y:=by rw[c.N];exact hN 1 y j rfl rfl
  have nz:X.N[q]? =some z:=by rw[c.N];exact hN 2 z q rfl rfl
  have il:py.line=px.line:=(aA py (by simp)).trans (aA px (by simp)).symm;have ik:pz.line=px.line:=(aA pz (by simp)).trans (aA px (by simp)).symm;have n3:x≠y/\x≠z/\y≠z:=by simp at nd;exact⟨nd.1.1,nd.1.2,nd.2⟩
  refine PS.weak (PL.ps_par3 cm jf nx ny nz (inj nx ny n3.1) (inj nx nz n3.2.1) (inj ny nz n3.2.2) (lk _ (by simp)) (lk _ (by simp)) (lk _ (by simp)) args (qkr c.sc (of_decide_eq_true h5) h3 (bR x (by simp)) (bR y (by simp)) (bR z (by simp)) il ik hd h7 h6)) λD σ H ⟨ρ,μ,B,ev,w⟩=>⟨ρ,μ,B,ev,(Wn.bind w).mono λts m w1 us H1 B1 h1 g1 r1=> ?_⟩
  change Wn M E H B (KS M H B D) (match qa7 [i,j,q] ts ρ with|some ae=>.ok (.nx ae) m|none=>.no) at w1
  split at w1
  ·rename_i ae er;have lt:=qgk er
   match ts,lt,er,r1 with
   |[t,u,v0],_,er,r1=>obtain⟨v,v',v'',rfl,a1,a2,a3⟩:=qmY r1;cases er;exact⟨v,v',v'',rfl,w1 _ H1 B1 ((((ev.on h1 g1.le).set a1).set a2).set a3) g1⟩
  ·exact w1.elim
end
section
variable {M:Md}{g:Gx}{F:Fs}{k n:Nat}{C:Cc}{X:Cx}{E:XK}
theorem qgg {elt:Expr} {gs:List Comprehension} {sc:Scope} {q p:Pos} {x:Str} {line:Nat} (c:Cok M g F k C X E) (hk:decide (C.sc.kind= .function)=true):
  swapsWith (.ListComp elt gs sc q) (some (.Name x p)) line X.env=pure (qdQ C (.ListComp elt gs sc q) x p):=by
 show(pure (X.env.blockKind== .function&&X.env.kindOf x==some .local&&p.line==q.line&& !(sc.names.any λ(n,k)=>n==x&&(k== .local||k== .cell))):Sem Bool)=_;unfold qdQ;rw[qeo c.sc (of_decide_eq_true hk),hk];unfold Env.kindOf;rw[c.sc];have hb:(C.sc.names.lookup x==some NameKind.local)=decide (C.sc.names.lookup x=some .local):=by rw[Bool.eq_iff_iff];simp
 rw[hb];rfl
theorem qpe(c:Cok M g F k C X E){x:Str}{p pos:Pos}{e:Expr}:PS X (.Assign [.Name x p] e pos) (tS M E (qaP F (qt0 g n C x p e))):=by
 obtain⟨eo,hc⟩:=qjn M g F k n;unfold qt0;split
 case isFalse=>exact qaL
 rename_i hs;split
 ·exact qaL
 ·rename_i i hi;have hN:X.N[i]? =some x:=by rw[c.N];exact qcb hi
  have st:swapsWith e (some (.Name x p)) pos.line X.env=pure false->PS X (.Assign [.Name x p] e pos) (tS M E (qaP F (.set i (cE g n C e)))):=λh=>
   qqW (by rw[c.N];exact c.nd) hN (by rw[c.sc];exact qo8 hs) (eo.e C X E c e) h (by rw[c.sc];exact c.fn x hs)
  split
  ·split
   ·rename_i hk;split
    ·rename_i bO;refine(hc C X E c false rfl _ _ _ _ _ _).2 i x p pos rfl hN ?_ (by rw[qgg c hk,bO]);unfold qdQ at bO;simp only[Bool.and_eq_true,decide_eq_true_eq] at bO;exact bO.1.1.2
    ·rename_i bO;exact st (by rw[qgg c hk];simp only[Bool.not_eq_true] at bO;rw[bO])
   ·exact qaL
  ·split
   ·rename_i h;exact st (qdP h)
   ·exact qaL
theorem qsm(IH: ∀C X E,Cok M g F k C X E->∀bA,PSs X bA (tS M E (runSs F (cSs g n C bA))))(c:Cok M g F k C X E)(st:Stmt):PS X st (tS M E (qaP F (cS1 g (n+1) C st))):=by
 obtain⟨eo,hc⟩:=qjn M g F k n;have ih:=eo.e C X E c;have hn: ∀e:Expr,PE X e (tE M E (qab F (cE g n C e))):=ih;cases st with
 |Return v p=>
  cases v with
  |none=>exact qaL
  |some e=>exact qqX (ih _)
 |Expr e p=>
  show PS X _ (tS M E (qaP F (if qgh e then .nx else if qdv e then .exp (cE g n C e) else .no)));split
  ·rename_i h;cases e with
   |Constant cc j q=>
    cases cc with
    |str s=>exact PS.weak qpA λD σ H ⟨ρ,μ,B,ev,w⟩=>w σ H B ev .refl
    |_=>cases h
   |_=>cases h
  ·split
   ·rename_i h;exact qog (ih _) (qdP h)
   ·exact qaL
 |If t a b p=>exact qtJ (eo.t C X E c _) (IH C X E c _) (IH C X E c _)
 |For tg it b els p=>
  cases els with
  |nil=>
   show PS X _ (tS M E (qaP F (if(C.top&&C.calm)&&qbZ it then .for_ (cG C n tg) (cI g n C tg it) (cSs g n C b) else .no)));split
   ·rename_i h;simp only[Bool.and_eq_true] at h;exact qqZ (c.tp h.1.1).ow (c.cm h.1.2).1 (eo.i C X E c _ _) (qkp c n _) (IH C X E c _) (qd6 h.2)
   ·exact qaL
  |cons _ _=>exact qaL
 |Assign ts e p=>
  match ts with
  |[]=>exact qaL
  |t::_::_=>cases t<;>exact qaL
  |[t]=>
   cases t with
   |Name x px=>exact qpe c
   |Subscript o i q=>exact qqY (by have:=c.un;omega) (ih _) (ih _) (ih _) (qkq λ_ _ z=>by cases z)
   |Tuple ts kt pt=>
    have other:(∀vs kv pv,e≠.Tuple vs kv pv)->PS X (.Assign [.Tuple ts kt pt] e p) (tS M E (qaP F (if qdv e then .asg (cG C n (.Tuple ts kt pt)) (cE g n C e) else .no))):=λaZ=>by
     split
     ·rename_i h;refine qq0 (ih _) (qkp c n _) (qdP (t:=some (.Tuple ts kt pt)) (l:=p.line) (env:=X.env) h) ?_ rfl;cases e<;>first|rfl|exact(aZ _ _ _ rfl).elim
     ·exact qaL
    cases e with
    |Tuple vs kv pv=>
     show PS X _ (tS M E (qaP F ((qru g n C ts vs).getD .no)));cases hp:qru g n C ts vs with
     |none=>exact qaL
     |some cs=>exact qpN (is:=[]) (es:=[]) c ih hp
    |_=>exact other λ_ _ _ z=>by cases z
   |_=>exact qaL
 |Raise a b p=>
  cases a with
  |none=>exact qaL
  |some a=>
   cases a with
   |Call f es c6 q=>
    cases f with
    |Name x np=>
     match es,c6,b with
     |[a],[],none=>
      show PS X _ (tS M E (qaP F (if C.top&&qkf C x&&(g.ex.map (·.1)).contains x&&qgh a then .raise x else .no)));split
      ·rename_i h;simp only[Bool.and_eq_true] at h;obtain⟨⟨⟨h1,h2⟩,h3⟩,h4⟩:=h;obtain⟨gl,hd⟩:=c.gl h2;cases a with
       |Constant cc j q1=>
        cases cc with
        |str s=>exact qlo ((c.tp h1).rs x s j np q1 q p h3 gl hd)
        |_=>cases h4
       |_=>cases h4
      ·exact qaL
     |[],_,_=>exact qaL
     |_::_::_,_,_=>exact qaL
     |[_],_::_,_=>exact qaL
     |[_],[],some _=>exact qaL
    |_=>exact qaL
   |_=>exact qaL
 |_=>exact qaL
theorem qui: ∀n,(∀C X E,Cok M g F k C X E->∀st,PS X st (tS M E (qaP F (cS g n C st))))/\(∀C X E,Cok M g F k C X E->∀st,PS X st (tS M E (qaP F (cS1 g n C st))))/\∀C X E,Cok M g F k C X E->∀bA,PSs X bA (tS M E (runSs F (cSs g n C bA)))
 |0=>⟨λC X E c st=>qaL,λC X E c st=>qaL,λC X E c bA=>λ_ _ _ _ _ _ ⟨_,_,_,_,w⟩=>w.elim⟩
 |n+1=>by
  obtain⟨h1,h2,h3⟩:=qui n;refine⟨λC X E c st=>h2 C X E c st,λC X E c st=>qsm h3 c st,λC X E c bA=> ?_⟩;show PSs X bA (tS M E (runSs F (bA.map (cS g n C))))
  induction bA with
  |nil=>exact qof
  |cons st bA ih=>exact qln (h1 C X E c st) ih
end
def LmK(M:Md)(g:Gx)(mg:Str->Option Value)(base:Heap)(q:Str)(fd:FuncData):Prop:=g.lm.contains q=true->∃c P,fd.code= .ref c/\W.CodeHd base c P/\qfm mg base/\(∀H,M.G.P H->qg5 P (q++(".<locals>." :Str)++("<lambda>" :Str)) H)/\∀H H2,M.G.P H->qdm P H H2->(∀b,H b≠none->H2 b≠none)->qg5 P (q++(".<locals>." :Str)++("<lambda>" :Str)) H2->M.G.P H2
structure Kf(M:Md)(g:Gx)(P:Program)(w:World)(mg:Str->Option Value)(base:Heap):Prop where
 fn: ∀(x:Str) (i:Nat) (st:Stmt),g.fi x=some i->x.cps.contains 46=false->g.fs[i]? =some (x,st)->∃f fd,Fun M.K x x st f fd/\mg x=some (.ref f)/\LmK M g mg base x fd
 nb: ∀x,qcL.contains x=true->mg x=none
 cs: ∀x t,g.cs.lookup x=some t->∃v u,mg x=some u/\RelV v u/\∀B,Rep M.K B t v
 ex: ∀c bs,(c,bs)∈g.ex->mg c=some (.ref (clA M.K c))/\∃bm,qh2 base (clA M.K c) bm/\∀x∈bs,(g.ex.map (·.1)).contains x=true->(Value.ref (clA M.K c)::bm).contains (.ref (clA M.K x))=true
 ok: ∀p∈g.fs,qfY p.2=true
theorem qtD{g:Gx}{x:Str}{i:Nat}(h:g.fi x=some i): ∃st,g.fs[i]? =some (x,st):=by have:=qcb h;rw[List.getElem?_map] at this;obtain⟨p,e1,e2⟩:=qak this;exact⟨p.2,by rw[e1,<-e2]⟩
section
variable {M:Md}{g:Gx}{P:Program}{w:World}{mg:Str->Option Value}{base:Heap}{st:Stmt}{f:Addr}{fd:FuncData}{x q:Str}{k i:Nat}
structure FnB(st:Stmt):Prop where
 sc:qdc (qeO st) (qfE st) (qae st)
 po:(qan st).posonlyargs=[]
 va:(qan st).vararg=none
 ko:(qan st).kwonlyargs=[]
 kw:(qan st).kwarg=none
theorem qjk(h:qfY st=true):FnB st:=by
 unfold qfY at h;simp only[Bool.and_eq_true,decide_eq_true_eq,Bool.not_eq_true',Option.isNone_iff_eq_none,List.length_eq_zero_iff] at h;obtain⟨⟨⟨⟨⟨⟨⟨⟨⟨⟨⟨h1,h2⟩,h3⟩,h4⟩,h5⟩,h6⟩,h7⟩,h8⟩,h9⟩,h10⟩,h11⟩,h12⟩:=h;refine⟨⟨h1,h2,h3,h4,?_,λy hy=> ?_,λy hy=> ?_⟩,h7,h8,h9,h11⟩
 ·unfold qeO;exact List.take_left
 ·exact qqj (List.all_eq_true.mp h5 y hy)
 ·exact of_decide_eq_true (List.all_eq_true.mp h6 y hy)
theorem qlS(F:Fun M.K x q st f fd)(h:FnB st):qci M.K fd (qfE st) []:=F.binds λkV doc pm an cdv ct us hl=>by
 have nd:(qfE st).Nodup:=by have:=h.sc.nd;unfold qeO at this;exact(List.nodup_append.mp this).1
 exact qbO (fd:=W.fnOf x q (qan st) (qaw st) (qae st) .none kV doc pm an cdv ct) h.po h.va h.ko h.kw rfl nd hl
theorem qrm {lam:Bool} (gf:Gf M g F k P w mg base) (h:FnB st) {qual:Str} {cdv:Value} (gh:lam=true->∃c P,cdv= .ref c/\W.CodeHd base c P/\qfm mg base/\(∀H,M.G.P H->qg5 P (qual++(".<locals>." :Str)++("<lambda>" :Str)) H)/\∀H H2,M.G.P H->qdm P H H2->(∀b,H b≠none->H2 b≠none)->qg5 P (qual++(".<locals>." :Str)++("<lambda>" :Str)) H2->M.G.P H2) {A:Around} {outer:List Env} {s:Shared} {H:Hp} {E:XK} (hr:qb4 (8*k+7) (A.deeper (PyProof.Rows.envOfC qual (qae st) s.heap.objs.size f cdv))):
  Cok M g F k (qtZ lam st) (qgR (CXE P w) P w M.K mg base (qeO st) qual (qae st) f cdv A outer s H E) E:=by
 refine⟨gf,rfl,rfl,h.sc.nd,rfl,λ_ _=>.inl rfl,PL.hu8 hr,λ_=>⟨rfl,hr.mono (by omega),PL.passI⟩,λ_=>⟨rfl,rfl,rfl,λa s' h=>Vc h (λ_ _ x=>x) λ_ _ x=>x.elim,PassesOwn.leaving,λx msg j np p1 cpos pos hx gl hd=> ?_⟩,λz=> ?_,λ_ _=>rfl⟩
 ·obtain⟨bs,hb⟩:=qtE hx;obtain⟨m,bm,e,_⟩:=gf.ex x bs hb;exact qkL e m gl hd
 ·obtain⟨c,P,e1,e2,e3,e4,e5⟩:=gh z;exact⟨hr.mono (by omega),c,P,_,e1,e2,e3,rfl,e4,e5⟩
theorem qqO(lk:LmK M g mg base q fd)(gf:Gf M g (TTf g k) k P w mg base)(F:Fun M.K x q st f fd)(hb:qfY st=true)(e:g.fs[i]? =some (q,st)):qg7 P w M.K mg base (CXE P w) (8*(k+1)) f fd (qfE st) (spF M (TTf g (k+1) i)):=by
 have B:=qjk hb;have e1:TTf g (k+1) i=fnR (g.kp.contains q) (qfE st).length (qeO st).length (runSs (TTf g k) (cSs g 60 (qtZ (g.lm.contains q) st) (qaw st))):=by show(match g.fs[i]? with|some p=>(cFn g p).run (TTf g k)|none=>λ_ _=>.no)=_;rw[e];show(cFn g (q,st)).run (TTf g k)=_;unfold cFn;rw[if_pos hb];rfl
 rw[e1];exact qtA (k:=8*k+7) F B.sc λcdv hc A outer s H E hr=>(qui 60).2.2 _ _ _ (qrm gf B (λz=>by rw[<-hc];exact lk z) hr) _
theorem qn9{ps:List Str}:qg7 P w M.K mg base (CXE P w) 0 f fd ps (spF M λ_ _=>.no):=⟨λvs H Q E ⟨_,_,_,_,_,z⟩=>z.elim,λA outer s H args us vs Q E _ _ _ _ ⟨_,_,_,_,_,z⟩=>z.elim⟩
theorem qmh(kf:Kf M g P w mg base): ∀k,Gf M g (TTf g k) k P w mg base
 |k=>by
  have ih: ∀{x q:Str} {st:Stmt} {f:Addr} {fd:FuncData} {i:Nat},Fun M.K x q st f fd->LmK M g mg base q fd->g.fs[i]? =some (q,st)->qg7 P w M.K mg base (CXE P w) (8*k) f fd (qfE st) (spF M (TTf g k i))/\qci M.K fd (qfE st) []:=λ{x q st f fd i} F lk e=>by
   have hb:=kf.ok _ (Vv e);refine⟨?_,qlS F (qjk hb)⟩;cases k with
   |zero=>exact qn9
   |succ k=>exact qqO lk (qmh kf k) F hb e
  refine⟨λx i hi hd=> ?_,kf.nb,kf.cs,kf.ex⟩
  ·obtain⟨st,e⟩:=qtD hi;obtain⟨f,fd,F,m,lk⟩:=kf.fn x i st hi hd e;obtain⟨a,b⟩:=ih F lk e;exact⟨f,fd,_,m,F.kp,b,a⟩
end
open HD
def qiN(x:Str):Bool:= !x.cps.contains 46
def Gx.tb(g:Gx):List (Str×Stmt):=g.fs.filter λp=>qiN p.1
def quG(K:W.Frag)(c:Str×T):Bool:=match W.nsIn K mainGlobals c.1,c.2 with
 |some (some (.int n _)),.int m=>n==m
 |some (some (.str n _)),.str m=>n==m
 |_,_=>false
def bmX(K:W.Frag)(bs:List Str):List Value:=(bs.tail.filter λx=>x != ("ValueError" :Str)).map (λx=>Value.ref (clA K x))++bmV
def quF(K:W.Frag)(ns:List Str)(c:Str×List Str):Bool:=nsC K c.1&&qe7 K (clA K c.1) (bmX K c.2)&&c.2.all λx=> !ns.contains x||(Value.ref (clA K c.1)::bmX K c.2).contains (.ref (clA K x))
def gQ(m:List (Addr×Str)):Gam where
 P:=λH=> ∀p∈m,qg5 p.1 p.2 H
 st:=λH H' k h p hp=>by obtain⟨ps,h1,h2,h3⟩:=h p hp;refine⟨ps,k _ _ h1 (λ_ z=>by cases z) (λ_ z=>by cases z) (λ_ z=>by cases z) (λ_ _ _ z=>by cases z),h2,λpos v e=> ?_⟩;obtain⟨c,e1,e2⟩:=h3 pos v e;exact⟨c,e1,k _ _ e2 (λ_ z=>by cases z) (λ_ z=>by cases z) (λ_ z=>by cases z) (λ_ _ _ z=>by cases z)⟩
theorem qqJ{m:List (Addr×Str)}{P:Addr}{qual:Str}(h:(P,qual)∈m)(nd:(m.map (·.1)).Nodup): ∀H H2,(gQ m).P H->qdm P H H2->qg5 P qual H2->(gQ m).P H2:=λH H2 g same t p hp=>by
 obtain⟨ps,hP,_⟩:=g _ h;by_cases e:p.1=P
 ·have:=PL.nodup_fst nd hp h e;subst this;exact t
 ·exact PL.tabq_same (g p hp) hP e same
theorem qpb{K:W.Frag}{qz:List Str}{Ts:List Addr}{H:Hp}{a:Addr}{ns:List Int}{t:List T->Mu->R T}(ht: ∃m,t [.scr ns] ⟨[],[]⟩= .ok (.bl true) m)(hO:qg6 Ts H)(hS:SqL K H a (ns.map V.int)):spF ⟨K,gQ (Ts.zip qz)⟩ t [.ref a] H (λv _=>v= .bl true) λ_ _ _=>False:=by
 obtain⟨m,ht⟩:=ht;have tb:(gQ (Ts.zip qz)).P H:=λp hp=>qr7 hO.1 hp;have fin: ∀B:Hp,(∀a o,B a=some o->H a=some o)->(∀a ps,B a≠some (.tbl ps))->SqL K B a (ns.map V.int)->spF ⟨K,gQ (Ts.zip qz)⟩ t [.ref a] H (λv _=>v= .bl true) λ_ _ _=>False:=λB le bt sq=>by
  refine⟨⟨[],[]⟩,⟨B,λ_=>none⟩,[.scr ns],⟨le,bt,tb,(λk c e=>by simp at e),(λ_ _ _ e=>by cases e),(λ_ _ e=>by cases e),(λk c e=>by simp at e),λ_ h=>nomatch h⟩,.cons (by unfold Rep;exact⟨a,rfl,sq⟩) .nil,?_⟩;rw[ht]
  exactλv H' B' _ _ r=>qbx r
 have cut: ∀{o:HO},H a=some o->(∀ps,o≠.tbl ps)->SqL K (λb=>if b=a then H a else none) a (ns.map V.int)->spF ⟨K,gQ (Ts.zip qz)⟩ t [.ref a] H (λv _=>v= .bl true) λ_ _ _=>False:=λ{o} ho n sq=>
  fin _ (λb o z=>by
   by_cases c:b=a
   ·subst c;simpa using z
   ·simp[c] at z) (λb ps z=>by
   by_cases c:b=a
   ·subst c;simp[ho] at z;exact n ps z
   ·simp[c] at z) sq
 rcases hS with(hS|⟨o,hS⟩)|hS
 ·exact cut hS (λps z=>by cases z) (.inl (.inl (by simp[hS])))
 ·exact cut hS (λps z=>by cases z) (.inl (.inr ⟨o,by simp[hS]⟩))
 ·exact fin (λ_=>none) (λ_ _ z=>by cases z) (λ_ _ z=>by cases z) (.inr hS)
def lq(q:Str):Str:=q++(".<locals>." :Str)++("<lambda>" :Str)
structure qu0(K:W.Frag)(g:Gx):Prop where
 h1:(g.tb.all λp=>okD K p.1)=true
 h2:g.tb.map (λp=>qob K p.1)=g.tb.map λp=>(qob K p.1).map (due p.1 p.2)
 h3:g.cs.all (quG K)=true
 h4:qcL.all (okN K)=true
 h5:HD.okT K g.lm=true
 h6:g.ex.all (quF K (g.ex.map (·.1)))=true
theorem qs5 {K:W.Frag} {h base:Heap} {g:Gx} {P:Program} {w:World} {mg:Str->Option Value} (X:K.In h) (G:h.Ns mainGlobals mg) (S:qu0 K g) (hok:(g.fs.all λp=>qfY p.2)=true) (gh:g.lm.all qiN=true) (KI:K.In base) (hb:qfm mg base)
  (hC: ∀y∈g.lm,∃c,W.tabIn K y=some (c,tOf K y)/\W.CodeHd base c (tOf K y)) (nd:(g.lm.map (tOf K)).Nodup):
  Kf ⟨K,gQ ((g.lm.map (tOf K)).zip (g.lm.map lq))⟩ g P w mg base:=by
 have D:=qmq X G S.h1 S.h2;have mem: ∀y∈g.lm,(tOf K y,lq y)∈(g.lm.map (tOf K)).zip (g.lm.map lq):=λy hy=>by obtain⟨j,hj,rfl⟩:=List.mem_iff_getElem.mp hy;refine List.mem_iff_getElem?.mpr ⟨j,?_⟩;rw[List.getElem?_zip_eq_some];simp[hj]
 have gP:(((g.lm.map (tOf K)).zip (g.lm.map lq)).map (·.1)).Nodup:=by
  have:((g.lm.map (tOf K)).zip (g.lm.map lq)).map (·.1)=g.lm.map (tOf K):=by rw[List.map_fst_zip (by simp)]
  rw[this];exact nd
 refine⟨λx i st hi hd e=> ?_,λx hx=>qsX X G S.h4 x (by rwa [List.contains_iff_mem] at hx),λx t hx=> ?_,λc bs hm=> ?_,λp hp=>List.all_eq_true.mp hok p hp⟩
 ·have hm:(x,st)∈g.tb:=List.mem_filter.mpr ⟨Vv e,by unfold qiN;rw[hd];rfl⟩;obtain⟨j,hj⟩:=List.mem_iff_getElem?.mp hm;obtain⟨f,oc,od,osl,kV,doc,pm,an,cdv,ct,lk,bH,kp,m,n0⟩:=D j _ _ hj;refine⟨f,_,qmj lk bH kp,m,λhl=> ?_⟩;have fw:x∈g.lm:=by rwa [List.contains_iff_mem] at hl
  obtain⟨c,tc,hc⟩:=hC x fw;refine⟨c,tOf K x,?_,hc,hb,λH gp=>gp _ (mem x fw),λH H2 gp same _ t=>qqJ (mem x fw) gP H H2 gp same t⟩;show cdv= .ref c;unfold W.tabIn at tc;rw[n0] at tc;simp only[lk] at tc;cases cdv with
  |ref c'=>
   dsimp only at tc;split at tc
   ·split at tc
    ·cases tc;rfl
    ·cases tc
   ·cases tc
  |_=>cases tc
 ·have hm:(x,t)∈g.cs:=by
   have go: ∀l:List (Str×T),l.lookup x=some t->(x,t)∈l:=λl=>by
    induction l with
    |nil=>intro h;cases h
    |cons p l ih=>
     intro h;obtain⟨y,u⟩:=p;rw[List.lookup_cons] at h;cases q:x==y with
     |true=>rw[q] at h;cases h;rw[eq_of_beq q];exact Vk
     |false=>rw[q] at h;exact Vl _ (ih h)
   exact go _ hx
  have a:=List.all_eq_true.mp S.h3 _ hm;unfold quG at a;split at a
  ·rename_i n tk m e1 e2;have e2:t= .int m:=e2;have:n=m:=by simpa using a
   subst this e2;exact⟨.int n,_,W.mg_of X G e1,⟨_,rfl⟩,λB=>qay⟩
  ·rename_i n tk m e1 e2;have e2:t= .str m:=e2;have:n=m:=by simpa using a
   subst this e2;exact⟨.str n,_,W.mg_of X G e1,⟨_,rfl⟩,λB=>qcp⟩
  ·cases a
 ·have a:=List.all_eq_true.mp S.h6 _ hm;unfold quF at a;simp only[Bool.and_eq_true,List.all_eq_true,Bool.or_eq_true,Bool.not_eq_true'] at a;obtain⟨⟨a1,a2⟩,a3⟩:=a;refine⟨qqe X G a1,_,qhI KI a2,λx hx hn=> ?_⟩
  rcases a3 x hx with z|z
  ·rw[hn] at z;cases z
  ·exact z
theorem walkN {l:W.OpenLaw} {q:Program} {loose:List Str} {XP:(Str->Option Value)->Heap->Prop} {YP:World->Heap->Prop} {d:DefRec} {K:Params->W.Frag} {g:Gx} {kk i:Nat} {sl:Stmt}
  (hn:l.most=some 63) (fF:d.params.defaults=[]) (hd:d.name= "law") (hY: ∀(w:World) (h:Heap),YP w h->(K w.params).In h) (bu: ∀y∈g.lm,∃dx,(PyProof.Rows.recsOf q).find? (λe=>e.name==y)=some dx) (hR:qb4 (8*(kk+1)) callerA)
  (S: ∀w:World,qu0 (K w.params) g) (hok:(g.fs.all λp=>qfY p.2)=true) (gh:g.lm.all qiN=true) (hi:g.fi "law" =some i) (hs:g.fs[i]? =some (("law" :Str),sl)) (hp:qfE sl=[("_law_script" :Str)])
  (hT: ∀ns:List Int,ns.length<=63->∃m,TTf g (kk+1) i [.scr ns] ⟨[],[]⟩= .ok (.bl true) m):
  W.WalkO q loose XP YP l.row.toRowW d [] (λf vs=>PySem.call f vs):=by
 refine L2.walk_ofTs (n:=63) (k:=8*(kk+1)) (x:= "_law_script") (ys:=g.lm) (CX:=λw=>CXE l.prog w) (sp:=λw aE=>spF ⟨K w.params,gQ ((aE.map (·.2)).zip (g.lm.map lq))⟩ (TTf g (kk+1) i)) hn (by decide) fF hR hY bu ?_ (λ_ _ _ a ns hl hO hS=>qpb (hT ns hl) hO hS) λ_ _ _ _ _ ⟨_,_,_,_,_,_,_,z⟩=>z;intro w mg fa h X G hm;have D:=qmq X G (S w).h1 (S w).h2;have hm0:(("law" :Str),sl)∈g.tb:=List.mem_filter.mpr ⟨Vv hs,by show qiN ("law" :Str)=true;decide+kernel⟩;obtain⟨j,hj⟩:=List.mem_iff_getElem?.mp hm0;obtain⟨f,oc,od,osl,kV,doc,pm,an,cdv,ct,lk,bH,kp,m,n0⟩:=D j _ _ hj;rw[hd] at hm;have e:=hm.symm.trans m;cases e;obtain⟨t1,t2,nd⟩:=qlA (S w).h5;have em:(qf4 (K w.params) g.lm).map (·.2)=g.lm.map (tOf (K w.params)):=by unfold qf4;rw[List.map_map];rfl
 have hb:=List.all_eq_true.mp hok _ (Vv hs);have B:=qjk hb;refine⟨W.fnOf "law" "law" (qan sl) (qaw sl) (qae sl) .none kV doc pm an cdv ct,qf4 (K w.params) g.lm,t1,t2,λs u=>.of_eq ?_,λbase KI _ hC iG=> ?_⟩
 ·have nd:(qfE sl).Nodup:=by rw[hp];simp
  have hu:[u].length=(qfE sl).length:=by rw[hp];rfl
  have hbs:=qbO (fd:=W.fnOf "law" "law" (qan sl) (qaw sl) (qae sl) .none kV doc pm an cdv ct) (us:=[u]) B.po B.va B.ko B.kw rfl nd hu;rw[hbs];show pure ((qfE sl).zip [u])=_;rw[hp];rfl
 ·rw[em];have kf:=qs5 (P:=l.prog) (w:=w) X G (S w) hok gh KI iG (λy hy=>by
   have e1:some ((W.tabIn (K w.params) y).getD (0,0))=W.tabIn (K w.params) y:=by obtain⟨j,hj,ej⟩:=List.mem_iff_getElem.mp hy;have:=congrArg (λl=>l[j]?) t1;unfold qf4 at this;simp only[List.getElem?_map,List.getElem?_eq_getElem hj,ej,Option.map_some] at this;exact(Option.some.inj this).symm
   exact⟨((W.tabIn (K w.params) y).getD (0,0)).1,e1.symm,hC _ (List.mem_map.mpr ⟨y,hy,rfl⟩)⟩) nd
  obtain⟨f',fd',F',m',lk'⟩:=kf.fn "law" i sl hi (by decide+kernel) hs;have ef:f'=fa:=by rw[m] at m';cases m';rfl
  subst ef;have F:=qmj lk bH kp;obtain⟨oc2,od2,kV2,iS,c5,an2,iU,ct2,osl2,rfl,lk2,_⟩:=F'.ex;have e2:=lk.symm.trans lk2;have e3:W.fnOf "law" "law" (qan sl) (qaw sl) (qae sl) .none kV doc pm an cdv ct=W.fnOf "law" "law" (qan sl) (qaw sl) (qae sl) .none kV2 iS c5 an2 iU ct2:=by
   injection e2 with e2
   injection e2 with _ _ e2
   injection e2
  rw[e3];have:=qqO (i:=i) lk' (qmh kf kk) F' hb hs;rw[hp] at this;exact this
end NV
section
open PySem PySem.W PyProof.Rows
set_option maxRecDepth 100000 in
set_option maxHeartbeats 0 in
theorem PySem.Challenge.cw_rowasks_k41_whole_tables_parted_holds : PySem.Challenge.rw_rowasks_k41_whole_tables_parted.Holds := by
 w_on;o_law
 refine holds_open (q:=K41.vq) (loose:=K41.lo) (Xt:=K41.xt) (XP:=XL K41.vq []) (Yf:=Hook.obs K41.hk) (Ya:=Hook.val K41.hk) (YP:=Hook.says K41.hk) (N:=20000) (HD.left_parts "special-get-raises" K41.rXF K41.rYF K41.rXT K41.rYT) (Hook.of K41.hk) (Hook.keeps K41.hk) (λs e=>xl_of s (Bool.and_eq_true_iff.mp e).1) XL.keeps (by rfl) (by rfl) (by rfl) (λs e=>recFacts_of (Bool.and_eq_true_iff.mp e).2) (by rfl) (by first|assumption|decide+kernel) (by decide+kernel) ⟨rfl,rfl,rfl,rfl,rfl,by decide+kernel⟩ ?hw ?hc
 (case hw=>w_witness2)
 k_fill
 refine' NV.walkN (l:=PySem.Challenge.rw_rowasks_k41_whole_tables_parted) (g:=K41.gx) (kk:=5) (i:=19) rfl rfl rfl (λw h Y=>Y.1) ?_ ⟨rfl,by decide,by decide⟩ (λw=>⟨by kernel_rfl,by kernel_rfl,by kernel_rfl,by kernel_rfl,by kernel_rfl,by kernel_rfl⟩) (by kernel_rfl) (by kernel_rfl) (by kernel_rfl) rfl rfl (λns hl=>K41.law_true ns);intro y hy;have hy:y∈K41.gx.lm:=hy;simp only[K41.gx,List.mem_append,List.mem_cons,List.not_mem_nil,or_false,false_or] at hy
 rcases hy with rfl<;>exact⟨_,rfl⟩
end
