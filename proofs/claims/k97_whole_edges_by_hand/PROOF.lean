import PyProof.Rows.All
import Wide.All
import OpenK.AllK
import Wide.FinOn
import Lean
import PyProof.EqAt
import PyProof.EqKinds
import PyProof.TupleCall
import KE.KSortTup
import KE.KSortKey
import PyProof.ExcBaseAll.ValueError
import PyProof.ExcAttrAll.ValueError
import KE.KTryOn
import OpenK.KOwn
import PyProof.NeData
import PyProof.SetKind
import PyProof.Rows.SetFrom
import PyProof.CollectWalk
import KE.KNest
import PyProof.FString5
import KE.KDictList
import KE.KDictSum
import PyProof.WalksEnum
import PyProof.EnumMake
import PyProof.Draws
import PyProof.WalksMore
import PyProof.AutoSeq1
import PyProof.ListMulRoad
import PyProof.FactsAll.tuple_2
import KE.KDictOf
import KE.KDictLaws
import PySem.Challenge.RW_rowasks_k97_whole_edges_by_hand
set_option Elab.async false
set_option linter.all false
set_option genSizeOf false
noncomputable section
set_option maxRecDepth 100000
set_option maxHeartbeats 8000000
section
open PySem PySem.Spec PyProof.Rows
abbrev Va:=@wpAny_bind
abbrev Vb:=@wpAny_pure
abbrev Vc:=@wpAny_mono
abbrev Vd:=@wpAny_truthy_bool
abbrev Ve:=@wpAny_Call_Name_kw
abbrev Vf:=@wpAny_pyIter_list
abbrev Vg:=@Heap.get?_push_of_some
abbrev Vh:=@Heap.get?_push_size
abbrev Vi:=@Heap.lt_size
abbrev Vj:=@Heap.get?_update_other
abbrev Vk:=@List.mem_cons_self
abbrev Vl:=@List.mem_cons_of_mem
abbrev Vm:=@Nat.le_refl
abbrev Vn:=@Nat.lt_of_lt_of_le
abbrev Vo:=@Nat.ne_of_lt
abbrev Vp:=@Nat.le_of_lt
abbrev Vq:=@Nat.le_trans
abbrev Vr:=@Bool.false_ne_true
abbrev Vs:=@List.mem_append_left
abbrev Vt:=@List.mem_append_right
abbrev Vu:=@List.mem_of_getElem?
abbrev Vv:=@PySem.mem_of_lookup
abbrev Vw:=@decide_eq_true
abbrev Vx:=@decide_eq_false
abbrev Vy:=@List.of_mem_zip
abbrev Vz:=@List.getElem?_eq_getElem
abbrev Wa:=@call_meets
abbrev Wb:=@Nat.lt_succ_self
end
namespace HD
open PySem PySem.W
noncomputable def qxy:Stmt->Bool
 |.Assign (targets:=[.Name x _]) .. =>x== "__name__"
 |_=>false
noncomputable def vw(p:Program):Program:={ p with main:={ p.main with body:=p.main.body.filter λs=> !qxy s } }
theorem ql9 (row:String) (hf: ∀w:World,((fencedOpening treeTable p w N).bind (topFrom treeTable p (w.withFollow row false) N)).map (λs=>(openSeen q loose (importedModules p.main.body) Xt true s,Yf s))=some (openGood q loose,Ya (w.withFollow row false))) (ht: ∀w:World,((fencedOpening treeTable p w N).bind (topFrom treeTable p (w.withFollow row true) N)).map (λs=>(openSeen q loose (importedModules p.main.body) Xt true s,Yf s))=some (openGood q loose,Ya (w.withFollow row true))):
  LeftO p q loose Xt Yf Ya N:=λw=>by
 have e:=World.withFollow_self w row;unfold openEnds;cases hb:w.params.followText row<;>rw[hb] at e
 ·have:=hf w;rw[e] at this;exact this
 ·have:=ht w;rw[e] at this;exact this
noncomputable def qtx(p:Program)(row:String)(N:Nat)(b:Bool)(w:World):Option Shared:=(fencedOpening treeTable p w N).bind (topFrom treeTable p (w.withFollow row b) N)
noncomputable def qr1(p q:Program)(loose:List Str)(Xt:Shared->Bool)(s:Shared):=openSeen q loose (importedModules p.main.body) Xt true s
noncomputable def PartX(p q:Program)(loose:List Str)(Xt:Shared->Bool)(row:String)(N:Nat)(b:Bool):Prop:= ∀w:World,(qtx p row N b w).map (λs=>(qr1 p q loose Xt s).2)=some (openGood q loose).2
noncomputable def PartY(p q:Program)(loose:List Str)(Xt:Shared->Bool)(H:Hook)(row:String)(N:Nat)(b:Bool):Prop:= ∀w:World,(qtx p row N b w).map (λs=>((qr1 p q loose Xt s).1,H.obs s))=some ((openGood q loose).1,H.val (w.withFollow row b))
theorem parts (hx:PartX p q loose Xt row N b) (hy:PartY p q loose Xt H row N b):
  ∀w:World,((fencedOpening treeTable p w N).bind (topFrom treeTable p (w.withFollow row b) N)).map (λs=>(openSeen q loose (importedModules p.main.body) Xt true s,Hook.obs H s))=some (openGood q loose,Hook.val H (w.withFollow row b)):=λw=>by
 have hx:=hx w;have hy:=hy w;have e:((fencedOpening treeTable p w N).bind (topFrom treeTable p (w.withFollow row b) N))=qtx p row N b w:=rfl;rw[e];cases r:qtx p row N b w with
 |none=>rw[r] at hx;cases hx
 |some s=>rw[r] at hx hy;have y:=Prod.mk.inj (Option.some.inj hy);exact congrArg some (Prod.ext (Prod.ext y.1 (Option.some.inj hx)) y.2)
theorem left_parts (row:String) (x0:PartX p q loose Xt row N false) (y0:PartY p q loose Xt H row N false) (x1:PartX p q loose Xt row N true) (y1:PartY p q loose Xt H row N true):
  LeftO p q loose Xt (Hook.obs H) (Hook.val H) N:=ql9 row (parts x0 y0) (parts x1 y1)
end HD
section
open PySem PySem.W PyProof.Rows
namespace K97
abbrev vq:Program:=HD.vw PySem.Challenge.pw_rowasks_k97_whole_edges_by_hand
abbrev lo:List Str:=["NUMBER_STEPS", "COUNT_STEPS", "BARE_STEPS"]
abbrev xt:Shared->Bool:=λs=>xlAt vq [] s&&recOk (RowW.records PySem.Challenge.rw_rowasks_k97_whole_edges_by_hand.row.toRowW) s
set_option maxRecDepth 100000 in
set_option maxHeartbeats 0 in
theorem rXF:HD.PartX PySem.Challenge.pw_rowasks_k97_whole_edges_by_hand vq lo xt "special-get-raises" 20000 false:=λw=>by kernel_rfl
set_option maxRecDepth 100000 in
set_option maxHeartbeats 0 in
theorem rXT:HD.PartX PySem.Challenge.pw_rowasks_k97_whole_edges_by_hand vq lo xt "special-get-raises" 20000 true:=λw=>by kernel_rfl
section
local macro_rules
 |`(tactic| o_head $H)=> `(tactic| (exact False.elim (by assumption);exact $H))
set_option maxRecDepth 100000 in
set_option maxHeartbeats 0 in
noncomputable def hk:Hook:=by
 refine(λ(_:False->PySem.Challenge.rw_rowasks_k97_whole_edges_by_hand.Holds)=> ?H) ?pf
 rotate_left
 intro hp
 w_on;o_law;k_head
end
set_option maxRecDepth 100000 in
set_option maxHeartbeats 0 in
theorem rYF:HD.PartY PySem.Challenge.pw_rowasks_k97_whole_edges_by_hand vq lo xt hk "special-get-raises" 20000 false:=λw=>by kernel_rfl
set_option maxRecDepth 100000 in
set_option maxHeartbeats 0 in
theorem rYT:HD.PartY PySem.Challenge.pw_rowasks_k97_whole_edges_by_hand vq lo xt hk "special-get-raises" 20000 true:=λw=>by kernel_rfl
end K97
end
namespace L2
open PySem PySem.Spec PyProof.Rows
abbrev Key:=Sum Int Str
noncomputable def keyIs:Key->Value->Bool
 |.inl k,v=>Value.isInt k v
 |.inr x,v=>Value.isStrOf x v
noncomputable def qxq(w:World):Key->Int
 |.inl k=>hashInt k
 |.inr x=>hashStr w x
theorem qax: ∀{k:Key} {v:Value},keyIs k v=true->(∃i t,k=Sum.inl i/\v=Value.int i t)\/(∃x t,k=Sum.inr x/\v=Value.str x t)
 |.inl i,v,h=>by obtain⟨t,e⟩:=Value.isInt_shape (k:=i) (v:=v) h;exact .inl ⟨i,t,rfl,e⟩
 |.inr x,v,h=>by obtain⟨t,e⟩:=Value.isStrOf_shape (x:=x) (v:=v) h;exact .inr ⟨x,t,rfl,e⟩
theorem qjP(i:Int)(t:Tok):keyIs (.inl i) (.int i t)=true:=by simp[keyIs,Value.isInt]
theorem qjO(x:Str)(t:Tok):keyIs (.inr x) (.str x t)=true:=by simp[keyIs,Value.isStrOf]
theorem qr9(a b:Int):decide ((Sum.inl a:Key)=Sum.inl b)=(a==b):=by
 by_cases e:a=b
 ·subst e;simp
 ·have h: ¬(Sum.inl a:Key)=Sum.inl b:=λq=>e (Sum.inl.inj q);rw[decide_eq_false h];exact(beq_eq_false_iff_ne.mpr e).symm
theorem qr5(a b:Str):decide ((Sum.inr a:Key)=Sum.inr b)=decide (a=b):=by
 by_cases e:a=b
 ·subst e;simp
 ·have h: ¬(Sum.inr a:Key)=Sum.inr b:=λq=>e (Sum.inr.inj q);rw[decide_eq_false h,decide_eq_false e]
theorem qr8(a:Int)(b:Str):decide ((Sum.inl a:Key)=Sum.inr b)=false:=Vx (λq=>nomatch q)
theorem qr6(a:Str)(b:Int):decide ((Sum.inr a:Key)=Sum.inl b)=false:=Vx (λq=>nomatch q)
noncomputable def qaq(prog:Program)(w:World):PySem.KeyKind prog w Key where
 is:=keyIs
 hash:=qxq w
 inj:=λv a b ha hb=>by
  rcases qax ha with⟨i,t,rfl,rfl⟩|⟨x,t,rfl,rfl⟩
  ·rcases qax hb with⟨j,u,rfl,e⟩|⟨y,u,rfl,e⟩
   ·injection e with e1 _;rw[e1]
   ·exact nomatch e
  ·rcases qax hb with⟨j,u,rfl,e⟩|⟨y,u,rfl,e⟩
   ·exact nomatch e
   ·injection e with e1 _;rw[e1]
 byValue:=λk v h=>by
  rcases qax h with⟨i,t,rfl,rfl⟩|⟨x,t,rfl,rfl⟩<;>rfl
 pyHash:=λhv h=>by
  rcases qax hv with⟨i,t,rfl,rfl⟩|⟨x,t,rfl,rfl⟩
  ·exact wpAny_pyHash_int h
  ·exact wpAny_pyHash_str h
 eqBool:=λhu hv h=>by
  rcases qax hu with⟨i,t,rfl,rfl⟩|⟨x,t,rfl,rfl⟩
  ·rcases qax hv with⟨j,u,rfl,rfl⟩|⟨y,u,rfl,rfl⟩
   ·rw[qr9] at h;exact wpAny_eqBool_int h
   ·rw[qr8] at h;exact SeqAt.EqAt.int_str i t y u _ _ _ _ h
  ·rcases qax hv with⟨j,u,rfl,rfl⟩|⟨y,u,rfl,rfl⟩
   ·rw[qr6] at h;exact SeqAt.EqAt.str_int x t j u _ _ _ _ h
   ·rw[qr5] at h;exact wpAny_eqBool_str h
 «strs» :=λk x t v h=>by
  rcases qax h with⟨i,u,rfl,e⟩|⟨y,u,rfl,e⟩
  ·exact nomatch e
  ·injection e with e1 _
   subst e1;cases v<;>rfl
theorem qgp(prog:Program)(w:World)(i:Int)(t:Tok):(qaq prog w).is (.inl i) (.int i t)=true:=qjP i t
theorem qgo(prog:Program)(w:World)(x:Str)(t:Tok):(qaq prog w).is (.inr x) (.str x t)=true:=qjO x t
inductive V where
 |non|bl (b:Bool)|int (i:Int)|str (x:Str)|byt (b:Array UInt8)|flt (b:UInt64)|ref (a:Addr)|ty (n:String)
 deriving DecidableEq
noncomputable def RelV:V->Value->Prop
 |.non,u=>u=Value.none
 |.bl b,u=>u=Value.bool b
 |.int i,u=> ∃t,u=Value.int i t
 |.str x,u=> ∃t,u=Value.str x t
 |.byt b,u=> ∃t,u=Value.bytes b t
 |.flt b,u=> ∃t,u=Value.float b t
 |.ref a,u=>u=Value.ref a
 |.ty n,u=>u=Value.type n
abbrev qat:List V->List Value->Prop:=Paired RelV
theorem qat.length(r:qat xs us):xs.length=us.length:=Paired.length r
theorem qat.get: ∀{xs:List V} {us:List Value} {i:Nat} {x:V},qat xs us->xs[i]? =some x->∃u,us[i]? =some u/\RelV x u
 |_,_,_,_,.nil,e=>by simp at e
 |_,_,0,_,.cons r _,e=>by simp at e;subst e;exact⟨_,rfl,r⟩
 |_,_,i+1,x,.cons _ t,e=>by obtain⟨u,h1,h2⟩:=qat.get (i:=i) (x:=x) t (by simpa using e);exact⟨u,by simpa using h1,h2⟩
theorem qat.set(r:RelV x u): ∀{xs:List V} {us:List Value} (i:Nat),qat xs us->qat (xs.set i x) (us.set i u)
 |_,_,_,.nil=>.nil
 |_,_,0,.cons _ t=>.cons r t
 |_,_,i+1,.cons q t=>.cons q (qat.set r i t)
theorem qat.append: ∀{xs ys:List V} {us ws:List Value},qat xs us->qat ys ws->qat (xs++ys) (us++ws)
 |_,_,_,_,.nil,s=>s
 |_,_,_,_,.cons r t,s=>.cons r (qat.append t s)
theorem qat.take: ∀{xs:List V} {us:List Value} (n:Nat),qat xs us->qat (xs.take n) (us.take n)
 |_,_,0,_=>.nil
 |_,_,_+1,.nil=>.nil
 |_,_,n+1,.cons r t=>.cons r (qat.take n t)
theorem qat.drop: ∀{xs:List V} {us:List Value} (n:Nat),qat xs us->qat (xs.drop n) (us.drop n)
 |_,_,0,r=>r
 |_,_,_+1,.nil=>.nil
 |_,_,n+1,.cons _ t=>qat.drop n t
noncomputable def qeO:Option V->Option Value->Prop
 |some v,some u=>RelV v u
 |none,none=>True
 |_,_=>False
noncomputable def KV{κ:Type}:List (κ×V)->List (κ×Value)->Prop:=Paired λ(p:κ×V) (q:κ×Value)=>p.1=q.1/\RelV p.2 q.2
noncomputable def kV:Key->V
 |.inl i=>.int i
 |.inr x=>.str x
inductive HO where
 |lst (xs:List V)
 |tup (xs:List V)
 |dK (kvs:List (Key×V))|dT (kvs:List (List Key×V))
 |set (S:Int->Bool) (n:Nat)
 |ins (C dx:Addr) (fs:List (Str×V))
 |own (x:Addr)
 |xd (fs:List (Str×V))
 |met (f x:Addr)
 |rng (lo hi:Int)
 |frz (o:Obj) (u:HO)
 |tbl (ps:Array Value)
 |ext (φ:Heap->Prop)
abbrev Hp:=Addr->Option HO
noncomputable def upd(H:Hp)(a:Addr)(o:HO):Hp:=λb=>if b=a then some o else H b
theorem qai:upd H a o a=some o:=by unfold upd;rw[if_pos rfl]
theorem qad(h:b≠a):upd H a o b=H b:=by unfold upd;rw[if_neg h]
theorem qob:upd (upd H a o) a u=upd H a u:=by
 funext b;unfold upd;split<;>rfl
theorem quT{H:Hp}{a b:Addr}{o u:HO}(h:H a=some o)(h':H b=some u)(d:o≠u):a≠b:=by intro e;subst e;rw[h] at h';exact d (Option.some.inj h')
theorem qan{H:Hp}{a b:Addr}{o:HO}(h:H a=some o)(h':H b=none):a≠b:=by intro e;subst e;rw[h] at h';cases h'
section
variable (P:Program)(w:World)
noncomputable def qaC(H:Hp)(h:Heap)(a:Addr):HO->Prop
 |.lst xs=>xs.length<=sizeLine/\∃(its:List Value) (n:Nat),qat xs its/\h.get? a=some { cls:=.type "list",data:=.seq its.toArray n }
 |.tup xs=>xs.length<=sizeLine/\∃its:List Value,qat xs its/\IsTup h a its.toArray
 |.dK kvs=>kvs.length<=sizeLine/\(a==sysModules)=false/\∃vs,KV kvs vs/\h.DictOf (qaq P w) a vs
 | .dT kvs=>kvs.length<=sizeLine/\(a==sysModules)=false/\∃xs:List (List Key×Addr×Value),
   Paired (λ(p:List Key×V) (q:List Key×Addr×Value)=>p.1=q.1/\H q.2.1=some (.tup (p.1.map kV))/\RelV p.2 q.2.2) kvs xs/\
   ∃o es ep,h.get? a=some o/\o.ExactDict/\o.data= .dict es ep/\es.toList=xs.map (entryOfKey (tupleKind (qaq P w)))/\(xs.map (·.1)).Nodup
 |.set S n=>h.SetOf (intKind P w) a S n
 | .ins C dx fs=>H dx=some (.own a)/\fs.length<=1000/\dx≠a/\h.get? a=some (W.instObj C dx)/\
   ∃mA,h.Ns1 dx mA/\(∀f,qeO (fs.lookup f) (mA f))/\PySem.Within mA (fs.map (·.1))
 |.own _=> ∃o,h.get? a=some o
 |.xd fs=> ∃mA,h.Ns1 a mA/\∀f,qeO (fs.lookup f) (mA f)
 |.rng lo hi=> ∃t u v,h.get? a=some { cls:=.type "range",data:=.fields #[.int lo t,.int hi u,.int 1 v] }
 |.frz o u=>h.get? a=some o/\qaC H h a u
 |.tbl ps=>h.get? a=some { cls:=.none,data:=.fields ps }
 |.met f x=>h.get? a=some (W.methodObj (.ref f) (.ref x))
 |.ext φ=>φ h/\(∃o,h.get? a=some o)/\∀h1 h2:Heap,φ h1->(∀o,h1.get? a=some o->h2.get? a=some o)->φ h2
noncomputable def HOk(H:Hp)(h:Heap):Prop:= ∀a o,H a=some o->qaC P w H h a o
end
section
theorem qaC.lt(x:qaC P w H h a o):a<h.objs.size:=by
 cases o with
 |lst xs=>obtain⟨_,_,_,_,e⟩:=x;exact Vi e
 |tup xs=>obtain⟨_,_,_,p⟩:=x;exact p.lt
 |dK kvs|dT kvs=>obtain⟨_,_,_,_,o,_,_,e,_⟩:=x;exact Vi e
 |set S n=>obtain⟨o,_,_,_,e,_⟩:=x;exact Vi e
 |ins C dx fs=>obtain⟨_,_,_,e,_⟩:=x;exact Vi e
 |own y=>obtain⟨_,e⟩:=x;exact Vi e
 |xd fs=>obtain⟨_,⟨_,_,_,e,_⟩,_⟩:=x;exact Vi e
 |rng lo hi=>obtain⟨_,_,_,e⟩:=x;exact Vi e
 |frz ob u=>obtain⟨e,_⟩:=x;exact Vi e
 |tbl ps|met f y=>exact Vi (show h.get? a=some _ from x)
 |ext φ=>obtain⟨_,⟨_,e⟩,_⟩:=x;exact Vi e
theorem Paired.mapP: ∀{d5:List α} {l₂:List β},Paired F d5 l₂->(∀a b,F a b->G a b)->Paired G d5 l₂
 |_,_,.nil,_=>.nil
 |_,_,.cons r t,f=>.cons (f _ _ r) (Paired.mapP t f)
theorem qaC.stay(x:qaC P w H h a o)(k: ∀b u,(b=a\/H b=some (.own a))->h.get? b=some u->h'.get? b=some u)(ho: ∀b,H b=some (.own a)->H' b=some (.own a))(ht: ∀b xs,H b=some (.tup xs)->H' b=some (.tup xs)):qaC P w H' h' a o:=by
 induction o with
 |lst xs=>obtain⟨z,its,n,r,e⟩:=x;exact⟨z,its,n,r,k _ _ (.inl rfl) e⟩
 |tup xs=>obtain⟨z,its,r,ob,e,c⟩:=x;exact⟨z,its,r,ob,k _ _ (.inl rfl) e,c⟩
 |dK kvs=>obtain⟨z,y,vs,r,ob,es,ep,e,c⟩:=x;exact⟨z,y,vs,r,ob,es,ep,k _ _ (.inl rfl) e,c⟩
 |dT kvs=>obtain⟨z,y,xs,r,ob,es,ep,e,c⟩:=x;exact⟨z,y,xs,Paired.mapP r λp q z=>⟨z.1,ht _ _ z.2.1,z.2.2⟩,ob,es,ep,k _ _ (.inl rfl) e,c⟩
 |set S n=>obtain⟨ob,es,ep,t,e,c⟩:=x;exact⟨ob,es,ep,t,k _ _ (.inl rfl) e,c⟩
 |ins C dx fs=>obtain⟨d,z,ne,e,mA,⟨od,es,ep,e2,c⟩,r⟩:=x;exact⟨ho _ d,z,ne,k _ _ (.inl rfl) e,mA,⟨od,es,ep,k _ _ (.inr d) e2,c⟩,r⟩
 |own y=>obtain⟨ob,e⟩:=x;exact⟨ob,k _ _ (.inl rfl) e⟩
 |xd fs=>obtain⟨mA,⟨od,es,ep,e,c⟩,r⟩:=x;exact⟨mA,⟨od,es,ep,k _ _ (.inl rfl) e,c⟩,r⟩
 |rng lo hi=>obtain⟨t,u,v,e⟩:=x;exact⟨t,u,v,k _ _ (.inl rfl) e⟩
 |frz ob u ih=>obtain⟨e,q⟩:=x;exact⟨k _ _ (.inl rfl) e,ih q⟩
 |tbl ps=>have e:h.get? a=some { cls:=.none,data:=.fields ps }:=x;show h'.get? a=some { cls:=.none,data:=.fields ps };exact k a _ (.inl rfl) e
 |met f y=>have e:h.get? a=some (W.methodObj (.ref f) (.ref y)):=x;show h'.get? a=some (W.methodObj (.ref f) (.ref y));exact k a _ (.inl rfl) e
 |ext φ=>obtain⟨p,⟨o,e⟩,st⟩:=x;exact⟨st _ _ p λo q=>k _ _ (.inl rfl) q,⟨o,k _ _ (.inl rfl) e⟩,st⟩
theorem HOk.lt(x:HOk P w H h)(e:H a=some o):a<h.objs.size:=(x a o e).lt
theorem HOk.fresh(x:HOk P w H h)(e:h.objs.size<=a):H a=none:=by
 cases q:H a with
 |none=>rfl
 |some u=>exact absurd (Vn (x.lt q) e) (Nat.lt_irrefl _)
theorem HOk.kept(x:HOk P w H h)(k: ∀b u,h.get? b=some u->h'.get? b=some u):HOk P w H h':=λa o e=>
 (x a o e).stay (λb u _ q=>k b u q) (λ_ q=>q) λ_ _ q=>q
theorem HOk.laid{P:Program}{w:World}{H:Hp}{h:Heap}{h':Heap}{a:Addr}{o:HO}(x:HOk P w H h)(k: ∀b u,h.get? b=some u->h'.get? b=some u)(hp:h.objs.size<=a)(new:qaC P w (upd H a o) h' a o):HOk P w (upd H a o) h':=λb u e=>by
 have hn:=x.fresh hp;by_cases hb:b=a
 ·subst hb;rw[qai] at e;cases e;exact new
 ·rw[qad hb] at e;exact(x b u e).stay (λc v _ q=>k c v q) (λc q=>by rw[qad (qan q hn)];exact q) λc xs q=>by rw[qad (qan q hn)];exact q
end
noncomputable def Rd(H:Hp)(a:Addr)(u:HO):Prop:=H a=some u\/∃o,H a=some (.frz o u)
theorem Rd.of(h:H a=some u):Rd H a u:=.inl h
theorem Rd.ok(r:Rd H a u)(x:HOk P w H h):qaC P w H h a u:=by
 rcases r with r|⟨o,r⟩
 ·exact x a u r
 ·obtain⟨_,q⟩:=x a _ r;exact q
noncomputable def Mut:Option HO->Prop
 |some (.lst _)=>True
 |some (.dK _)=>True
 |some (.dT _)=>True
 |some (.set _ _)=>True
 |some (.ins _ _ _)=>True
 |some (.ext _)=>True
 |_=>False
section
theorem HOk.write(ok:HOk P w H h)(mu:Mut (H x))(he:e=x\/H e=some (.own x))(k: ∀b u,b≠e->h.get? b=some u->h'.get? b=some u)(dD: ∃u,h'.get? e=some u)(new:qaC P w (upd H x o') h' x o'):HOk P w (upd H x o') h':=λb u q=>by
 have dY: ∀c y,H c=some (.own y)->c≠x:=λc y r z=>by subst z;rw[r] at mu;exact mu
 have fR: ∀c xs,H c=some (.tup xs)->c≠x:=λc xs r z=>by subst z;rw[r] at mu;exact mu
 by_cases hb:b=x
 ·subst hb;rw[qai] at q;cases q;exact new
 ·rw[qad hb] at q;by_cases c9:b=e
  ·have q':H b=some (.own x):=by
    rcases he with z|z
    ·exact absurd (c9.trans z) hb
    ·rw[c9];exact z
   rw[q] at q';cases q';obtain⟨v,hv⟩:=dD;exact⟨v,by rw[c9];exact hv⟩
  ·refine(ok b u q).stay (λc v hc r=>k c v ?_ r) (λc r=>by rw[qad (dY c b r)];exact r) λc xs r=>by rw[qad (fR c xs r)];exact r
   rcases hc with rfl|hc
   ·exact c9
   ·rintro rfl
    rcases he with z|z
    ·exact dY c b hc z
    ·rw[hc] at z;cases z;exact hb rfl
end
structure Un(fs ex:List Addr)(H H':Hp)(h h':Heap):Prop where
 keep: ∀b o,h.get? b=some o->H b=none->b∉fs->b∉ex->h'.get? b=some o
 slot: ∀b o,h.get? b=some o->H b=none->b∈fs->b∉ex->∃sl,h'.get? b=some { o with slots:=sl }
 free: ∀b o,h.get? b=some o->H b=none->b∉ex->H' b=none
 there: ∀b o,h.get? b=some o->b∉ex->∃o',h'.get? b=some o'
 tups: ∀b xs,H b=some (.tup xs)->H' b=some (.tup xs)
 frzs: ∀b o u,H b=some (.frz o u)->H' b=some (.frz o u)
 tbls: ∀b ps,H b=some (.tbl ps)->∃more,H' b=some (.tbl (ps++more))
section
theorem Un.any(u:Un fs ex H H1 h h1)(q:h.get? b=some ob)(n:H b=none)(hx:b∉ex): ∃sl,h1.get? b=some { ob with slots:=sl }:=by
 by_cases hb:b∈fs
 ·exact u.slot b ob q n hb hx
 ·exact⟨ob.slots,u.keep b ob q n hb hx⟩
theorem Un.kept(k: ∀b u,h.get? b=some u->h'.get? b=some u):Un fs ex H H h h':=
 ⟨λb ob q _ _ _=>k b ob q,λb ob q _ _ _=>⟨ob.slots,k b ob q⟩,λ_ _ _ n _=>n,λb ob q _=>⟨ob,k b ob q⟩,λ_ _ q=>q,λ_ _ _ q=>q,λ_ ps q=>⟨#[],by rw[q];simp⟩⟩
theorem Un.refl:Un fs ex H H h h:=Un.kept λ_ _ q=>q
theorem Un.laid{fs:List Addr}{ex:List Addr}{H:Hp}{h:Heap}{h':Heap}{a:Addr}{o:HO}(k: ∀b u,h.get? b=some u->h'.get? b=some u)(hp:h.objs.size<=a)(hn:H a=none):Un fs ex H (upd H a o) h h' where
 keep:=λb u q _ _ _=>k b u q
 slot:=λb u q _ _ _=>⟨u.slots,k b u q⟩
 free:=λb u q n _=>by rw[qad (Nat.ne_of_lt (Nat.lt_of_lt_of_le (Heap.lt_size q) hp))];exact n
 there:=λb u q _=>⟨u,k b u q⟩
 tups:=λb xs q=>by rw[qad (qan q hn)];exact q
 frzs:=λb u xs q=>by rw[qad (qan q hn)];exact q
 tbls:=λb ps q=>⟨#[],by rw[qad (qan q hn),q];simp⟩
theorem Un.write(mu:Mut (H x))(he:e=x\/H e=some (.own x))(k: ∀b u,b≠e->h.get? b=some u->h'.get? b=some u)(dD: ∃u,h'.get? e=some u):Un fs ex H (upd H x o) h h':=by
 have hx: ∀b,H b=none->b≠x:=λb n z=>by subst z;rw[n] at mu;exact mu
 have hb: ∀b,H b=none->b≠e:=λb n z=>by
  subst z
  rcases he with r|r
  ·exact hx b n r
  ·rw[n] at r;cases r
 have hm: ∀b u,H b=some u->¬Mut (some u)->b≠x:=λb u q nm z=>by subst z;rw[q] at mu;exact nm mu
 refine⟨λb u q n _ _=>k b u (hb b n) q,λb u q n _ _=>⟨u.slots,k b u (hb b n) q⟩,λb u q n _=>by rw[qad (hx b n)];exact n,λb u q _=> ?_,
  λb xs q=>by rw[qad (hm b _ q λz=>z)];exact q,λb u xs q=>by rw[qad (hm b _ q λz=>z)];exact q,λb ps q=>⟨#[],by rw[qad (hm b _ q λz=>z),q];simp⟩⟩
 by_cases c9:b=e
 ·subst c9;exact dD
 ·exact⟨u,k b u c9 q⟩
end
noncomputable def trk(h:Heap)(H:Hp):List Addr:=(List.range h.objs.size).filter λa=>(H a).isSome
noncomputable def qj0(h:Heap)(H:Hp):Heap:=W.hideAll h (trk h H)
theorem qjZ(h:Heap)(H:Hp):(qj0 h H).objs.size=h.objs.size:=W.hideAll_size _ _
theorem qmk(e:h.get? b=some o)(n:H b=none):(qj0 h H).get? b=some o:=
 W.hideAll_get _ e λhm=>by have q:(H b).isSome=true:=(List.mem_filter.mp hm).2;rw[n] at q;simp at q
theorem qpf(e:(qj0 h H).get? b=some o):h.get? b=some o/\H b=none:=by
 have e':h.get? b=some o:=W.of_hideAll (trk h H) e;refine⟨e',?_⟩;cases q:H b with
 |none=>rfl
 |some x=>have hm:b∈trk h H:=List.mem_filter.mpr ⟨List.mem_range.mpr (Vi e'),by simp[q]⟩;have z:(qj0 h H).get? b=none:=W.hideAll_none (trk h H) hm;rw[z] at e;cases e
noncomputable def qqn(g h:Heap)(L:Addr):List (Addr×Obj):=(List.range h.objs.size).filterMap λa=>if a=L\/(g.get? a).isSome=true then none else(h.get? a).map λo=>(a,o)
noncomputable def rest(g h:Heap)(L d:Addr):List (Addr×Obj):=(qqn g h L).filter λp=>decide (p.1≠d)
structure Mod(K:W.Frag)(mg:Str->Option Value)(base:Heap):Prop where
 kin:K.In base
 glob:base.Ns mainGlobals mg
 blt: ∃mb,base.Ns builtinsNs mb/\∀x:Str,x≠ "__name__" ->mb x=bootBuiltins x
 nolimit:base.NoLimit
structure Cx where
 prog:Program
 w:World
 K:W.Frag
 mg:Str->Option Value
 base:Heap
 A:Around
 N:List Str
 s₀:Shared
 H₀:Hp
 env:Env
 outer:List Env
 stack:List Env
 ex:List Addr
 fn:Str->Bool
 calm:Bool
 pn:List (Addr×Obj)
 xe:Value->Shared->Prop
noncomputable def frs(l:List Env):List Addr:=l.filterMap (·.frame)
abbrev Cx.fs(X:Cx):List Addr:=frs X.outer
noncomputable def Vis(sc:Scope)(x:Str):Prop:=sc.names.lookup x=some .local\/sc.names.lookup x=some .cell\/sc.names.lookup x=some .free
noncomputable def Loc(sc:Scope)(x:Str):Prop:=sc.names.lookup x=some .local\/sc.names.lookup x=some .cell
noncomputable def qx6(env:Env)(h:Heap)(m:Str->Option Value)(x:Str)(u:Value):Prop:=
 (env.kindOf x=some .local/\m x=some u)\/((env.kindOf x=some .cell\/env.kindOf x=some .free)/\∃c,env.cells.lookup x=some c/\h.IsCell c (some u))
structure Cx.Ok(X:Cx):Prop where
 mod:Mod X.K X.mg X.base
 kind:X.env.scope.kind= .function
 glob:X.env.globals=mainGlobals
 blt:X.env.builtins=builtinsNs
 above:X.s₀.heap.objs.size<=X.env.locals
 inj: ∀x y c,X.env.cells.lookup x=some c->X.env.cells.lookup y=some c->x=y
 has: ∀x,(X.env.kindOf x=some .cell\/X.env.kindOf x=some .free)->∃c,X.env.cells.lookup x=some c
 cab: ∀x c,X.fn x=true->X.env.cells.lookup x=some c->X.s₀.heap.objs.size<=c
 hd:X.calm=true->X.A.handled=none
 frames:X.A.frames=some X.stack
 stk:X.stack=X.outer\/(X.stack=X.env::X.outer/\X.env.frame=some X.env.locals)
 exf: ∀b∈X.ex,b≠X.env.locals/\∀x c,X.env.cells.lookup x=some c->c≠b
 bs: ∀b o,X.base.get? b=some o->X.s₀.heap.get? b=some o/\X.H₀ b=none
 bsz:X.base.objs.size<=X.s₀.heap.objs.size
 noex: ∀b o,X.base.get? b=some o->b∉X.ex
 exfs: ∀b∈X.ex,b∉X.fs
 funs:X.s₀.heap.FunFrames X.base X.outer
 frf: ∀b∈X.fs,X.H₀ b=none
structure Inv(X:Cx)(pins:List (Addr×Obj))(σ:List (Option V))(H:Hp)(s:Shared):Prop where
 ok:X.Ok
 os:s.os=X.s₀.os
 bare:AllBare s.gens
 base:Un X.fs X.ex X.H₀ H X.s₀.heap s.heap
 loc: ∃m,s.heap.Ns X.env.locals m/\∀(i:Nat) (x:Str) (v:V),X.N[i]? =some x->σ[i]? =some (some v)->Vis X.env.scope x->∃u,RelV v u/\qx6 X.env s.heap m x u
 cell: ∀x c,X.env.cells.lookup x=some c->∃v,s.heap.IsCell c v
 free:H X.env.locals=none
 freeC: ∀x c,X.env.cells.lookup x=some c->H c=none
 pin: ∀p∈X.pn++pins,s.heap.get? p.1=some p.2/\H p.1=none/\p.1≠X.env.locals/\p.1∉X.fs/\∀v,p.2.data≠.cell v
 hok:HOk X.prog X.w H s.heap
 len:σ.length=X.N.length
section
theorem Cx.Ok.nofr{X:Cx}(ok:X.Ok)(e:X.base.get? b=some o):b∉X.fs:=λhb=>by have:=(ok.funs.mem hb).1;rw[e] at this;cases this
theorem Inv.bs{X:Cx}{s:Shared}(I:Inv X pins σ H s): ∀b o,X.base.get? b=some o->s.heap.get? b=some o/\H b=none:=λb o e=>
 ⟨I.base.keep b o (I.ok.bs b o e).1 (I.ok.bs b o e).2 (I.ok.nofr e) (I.ok.noex b o e),I.base.free b o (I.ok.bs b o e).1 (I.ok.bs b o e).2 (I.ok.noex b o e)⟩
theorem Inv.bk(I:Inv X pins σ H s): ∀b o,X.base.get? b=some o->s.heap.get? b=some o:=λb o e=>(I.bs b o e).1
theorem Inv.mod(I:Inv X pins σ H s):Mod X.K X.mg X.base:=I.ok.mod
theorem Inv.kIn(I:Inv X pins σ H s):X.K.In s.heap:=I.ok.mod.kin.keeps I.bk
theorem Inv.lt(I:Inv X pins σ H s):X.env.locals<s.heap.objs.size:=let ⟨_,hn,_⟩:=I.loc;hn.lt
theorem Inv.sz(I:Inv X pins σ H s):X.s₀.heap.objs.size<=s.heap.objs.size:=Vq I.ok.above (Vp I.lt)
theorem Inv.nofs(I:Inv X pins σ H s)(h:s.heap.objs.size<=a):a∉X.fs:=λhb=>by obtain⟨_,o,ho,_⟩:=I.ok.funs.mem hb;exact absurd (Vn (Vi ho) (Vq I.sz h)) (Nat.lt_irrefl _)
theorem Inv.cne(I:Inv X pins σ H s): ∀x c,X.env.cells.lookup x=some c->c≠X.env.locals:=λx c e z=>by obtain⟨v,o,ho,hd⟩:=I.cell x c e;obtain⟨m,⟨o',es,ep,aX,c6,_⟩,_⟩:=I.loc;rw[z,aX] at ho;cases ho;rw[c6] at hd;cases hd
theorem Inv.funs(I:Inv X pins σ H s):s.heap.FunFrames X.base X.outer:=by
 have all: ∀(l:List Env),(∀b∈frs l,b∈X.fs)->X.s₀.heap.FunFrames X.base l->s.heap.FunFrames X.base l:=by
  intro l
  induction l with
  |nil=>intro _ _;trivial
  |cons env r ih=>intro hs hl;obtain⟨hk,⟨L,o,hf,hn,ho,hd⟩,hr⟩:=hl;have hL:L∈X.fs:=hs L (by unfold frs;rw[List.filterMap_cons,hf];exact Vk);obtain⟨sl,e⟩:=I.base.slot L o ho (I.ok.frf L hL) hL λz=>I.ok.exfs L z hL;exact⟨hk,⟨L,_,hf,hn,e,hd⟩,ih (λb hb=>hs b (by unfold frs;rw[List.filterMap_cons,hf];exact Vl _ hb)) hr⟩
 exact all X.outer (λ_ hb=>hb) I.ok.funs
theorem Inv.stack(I:Inv X pins σ H s):s.heap.FunFrames X.base X.stack:=by
 rcases I.ok.stk with e|⟨e,hf⟩
 ·rw[e];exact I.funs
 ·rw[e];obtain⟨m,hn,_⟩:=I.loc;refine .cons (by rw[I.ok.kind];decide) hf hn ?_ I.funs;exact Heap.get?_none_of_le (Vq I.ok.bsz I.ok.above)
theorem Inv.stkSub(I:Inv X pins σ H s): ∀b∈frs X.stack,b∈X.env.locals::X.fs:=λb hb=>by
 rcases I.ok.stk with e|⟨e,hf⟩
 ·rw[e] at hb;exact Vl _ hb
 ·rw[e] at hb;unfold frs at hb;rw[List.filterMap_cons,hf] at hb;exact hb
theorem Inv.stkFree(I:Inv X pins σ H s): ∀b∈frs X.stack,H b=none:=λb hb=>by
 rcases List.mem_cons.mp (I.stkSub b hb) with e|hb
 ·rw[e];exact I.free
 ·obtain⟨_,o,ho,_⟩:=I.ok.funs.mem hb;exact I.base.free b o ho (I.ok.frf b hb) λz=>I.ok.exfs b z hb
theorem Inv.step {X:Cx} {pins:List (Addr×Obj)} {σ:List (Option V)} {H:Hp} {H':Hp} {s:Shared} {h':Heap} {g':Array GenState} {t':Nat} {d':Drawn} {ch:List Addr} (I:Inv X pins σ H s) (aL: ∀b∈ch,(b∈X.ex\/X.s₀.heap.objs.size<=b)/\b≠X.env.locals/\(∀x c,X.env.cells.lookup x=some c->c≠b)/\∀p∈X.pn++pins,p.1≠b) (keep: ∀b o,b≠X.env.locals->b∉X.fs->b∉ch->s.heap.get? b=some o->H b=none->h'.get? b=some o) (slot: ∀b o,b≠X.env.locals->b∈X.fs->b∉ch->s.heap.get? b=some o->H b=none->∃sl,h'.get? b=some { o with slots:=sl }) (free: ∀b o,b∉ch->s.heap.get? b=some o->H b=none->H' b=none) (there: ∀b o,b∉ch->s.heap.get? b=some o->∃o',h'.get? b=some o') (tups: ∀b xs,H b=some (.tup xs)->H' b=some (.tup xs)) (frzs: ∀b o u,H b=some (.frz o u)->H' b=some (.frz o u)) (tbls: ∀b ps,H b=some (.tbl ps)->∃more,H' b=some (.tbl (ps++more))) (ns: ∀m,s.heap.Ns X.env.locals m->h'.Ns X.env.locals m) (hok:HOk X.prog X.w H' h') (hg:AllBare g'):
  Inv X pins σ H' { s with heap:=h',gens:=g',drawn:=d',toks:=t' }:=by
 have fq: ∀b o,X.s₀.heap.get? b=some o->b≠X.env.locals:=λb o e=>Vo (Vn (Vi e) I.ok.above);have fv: ∀b o,X.s₀.heap.get? b=some o->b∉X.ex->b∉ch:=λb o e hx hb=>by
  rcases(aL b hb).1 with z|z
  ·exact hx z
  ·exact absurd (Vn (Vi e) z) (Nat.lt_irrefl _)
 have cellK: ∀x c,X.env.cells.lookup x=some c->∀v,s.heap.IsCell c v->h'.IsCell c v:=λx c e v ⟨o,ho,hd⟩=>by
  have bP:c∉ch:=λz=>(aL c z).2.2.1 x c e rfl;by_cases hc:c∈X.fs
  ·obtain⟨sl,q⟩:=slot c o (I.cne x c e) hc bP ho (I.freeC x c e);exact⟨_,q,hd⟩
  ·exact⟨o,keep c o (I.cne x c e) hc bP ho (I.freeC x c e),hd⟩
 refine⟨I.ok,I.os,hg,⟨λb o e n hb hx=> ?_,λb o e n hb hx=> ?_,λb o e n hx=> ?_,λb o e hx=> ?_,λb xs e=>tups b xs (I.base.tups b xs e),λb o xs e=>frzs b o xs (I.base.frzs b o xs e),λb ps e=> ?_⟩,?_,λx c e=> ?_,?_,λx c e=> ?_,λp hp=> ?_,hok,I.len⟩
 ·exact keep b o (fq b o e) hb (fv b o e hx) (I.base.keep b o e n hb hx) (I.base.free b o e n hx)
 ·obtain⟨sl,e1⟩:=I.base.slot b o e n hb hx;obtain⟨dQ,e2⟩:=slot b _ (fq b o e) hb (fv b o e hx) e1 (I.base.free b o e n hx);exact⟨dQ,e2⟩
 ·obtain⟨o',e1⟩:=I.base.there b o e hx;exact free b o' (fv b o e hx) e1 (I.base.free b o e n hx)
 ·obtain⟨o',e1⟩:=I.base.there b o e hx;exact there b o' (fv b o e hx) e1
 ·obtain⟨m1,e1⟩:=I.base.tbls b ps e;obtain⟨m2,e2⟩:=tbls b _ e1;exact⟨m1++m2,by rw[e2,Array.append_assoc]⟩
 ·obtain⟨m,hn,hl⟩:=I.loc;refine⟨m,ns m hn,λi x v e1 e2 e3=> ?_⟩;obtain⟨u,r,l⟩:=hl i x v e1 e2 e3;refine⟨u,r,?_⟩
  rcases l with l|⟨k,c,e,z⟩
  ·exact .inl l
  ·exact .inr ⟨k,c,e,cellK x c e _ z⟩
 ·obtain⟨v,z⟩:=I.cell x c e;exact⟨v,cellK x c e v z⟩
 ·obtain⟨m,⟨o,_,_,ho,_⟩,_⟩:=I.loc;exact free _ o (λz=>(aL _ z).2.1 rfl) ho I.free
 ·obtain⟨v,o,ho,hd⟩:=I.cell x c e;exact free c o (λz=>(aL c z).2.2.1 x c e rfl) ho (I.freeC x c e)
 ·obtain⟨e,n,ne,nf,d⟩:=I.pin p hp;have bP:p.1∉ch:=λz=>(aL p.1 z).2.2.2 p hp rfl;exact⟨keep p.1 p.2 ne nf bP e n,free p.1 p.2 bP e n,ne,nf,d⟩
theorem Inv.un{X:Cx}{pins:List (Addr×Obj)}{σ:List (Option V)}{H:Hp}{H':Hp}{s:Shared}{h':Heap}{t':Nat}(I:Inv X pins σ H s)(u:Un X.fs [] H H' s.heap h')(hok:HOk X.prog X.w H' h'):Inv X pins σ H' { s with heap:=h',toks:=t' }:=by
 obtain⟨m,⟨o,es,ep,ho,r⟩,_⟩:=id I.loc;obtain⟨sl,hL⟩:=u.any ho I.free (by simp);exact I.step (g':=s.gens) (d':=s.drawn) (ch:=[]) (λ_ z=>nomatch z) (λb o _ hb _ e n=>u.keep b o e n hb (by simp)) (λb o _ hb _ e n=>u.slot b o e n hb (by simp)) (λb o _ e n=>u.free b o e n (by simp)) (λb o _ e=>u.there b o e (by simp)) u.tups u.frzs u.tbls (λm' hm=>by
  obtain⟨o',eZ,g9,aX,r'⟩:=hm;rw[ho] at aX;cases aX;exact⟨_,eZ,g9,hL,r'⟩) hok I.bare
theorem Inv.call {X:Cx} {pins:List (Addr×Obj)} {σ:List (Option V)} {H:Hp} {H':Hp} {s:Shared} {h':Heap} {g':Array GenState} {t':Nat} {d':Drawn} {ch:List Addr} (I:Inv X pins σ H s) (u:Un (frs X.stack) ch H H' s.heap h') (hok:HOk X.prog X.w H' h') (hg:AllBare g') (aL: ∀b∈ch,(b∈X.ex\/X.s₀.heap.objs.size<=b)/\b≠X.env.locals/\(∀x c,X.env.cells.lookup x=some c->c≠b)/\∀p∈X.pn++pins,p.1≠b):
  Inv X pins σ H' { s with heap:=h',gens:=g',drawn:=d',toks:=t' }:=by
 obtain⟨m,⟨o,es,ep,ho,r⟩,_⟩:=id I.loc;obtain⟨sl,hL⟩:=u.any ho I.free λz=>(aL _ z).2.1 rfl;exact I.step (ch:=ch) aL (λb o hL hb hc e n=>u.keep b o e n (λz=>(List.mem_cons.mp (I.stkSub b z)).elim hL hb) hc) (λb o _ _ hc e n=>u.any e n hc) (λb o hc e n=>u.free b o e n hc) (λb o hc e=>u.there b o e hc) u.tups u.frzs u.tbls (λm' hm=>by
  obtain⟨o',eZ,g9,aX,r'⟩:=hm;rw[ho] at aX;cases aX;exact⟨_,eZ,g9,hL,r'⟩) hok hg
theorem Inv.turned{X:Cx}{pins:List (Addr×Obj)}{σ:List (Option V)}{H:Hp}{s:Shared}{h':Heap}{t':Nat}{it:Addr}(I:Inv X pins σ H s)(k: ∀b o,b≠it->s.heap.get? b=some o->h'.get? b=some o)(hn:H it=none)(hL:it≠X.env.locals)(h1:it∈X.ex\/X.s₀.heap.objs.size<=it)(h2: ∀x c,X.env.cells.lookup x=some c->c≠it)(h3: ∀p∈X.pn++pins,p.1≠it):Inv X pins σ H { s with heap:=h',toks:=t' }:=by
 have iC: ∀b u,H b=some u->b≠it:=λb u e z=>by rw[z,hn] at e;cases e
 refine I.step (g':=s.gens) (d':=s.drawn) (ch:=[it]) (λb hb=> ?_) (λb o _ _ hc e _=>k b o (λz=>hc (by simp[z])) e) (λb o _ _ hc e _=>⟨o.slots,k b o (λz=>hc (by simp[z])) e⟩) (λ_ _ _ _ n=>n)
  (λb o hc e=>⟨o,k b o (λz=>hc (by simp[z])) e⟩) (λ_ _ e=>e) (λ_ _ _ e=>e) (λb ps e=>⟨#[],by rw[e];simp⟩) (λm hm=> ?_) (λb u e=> ?_) I.bare
 ·have e:b=it:=by simpa using hb
  subst e;exact⟨h1,hL,h2,h3⟩
 ·obtain⟨o,es,ep,ho,r⟩:=hm;exact⟨o,es,ep,k _ o (Ne.symm hL) ho,r⟩
 ·refine(I.hok b u e).stay (λc v hc q=>k c v ?_ q) (λ_ q=>q) λ_ _ q=>q
  rcases hc with z|z
  ·rw[z];exact iC b u e
  ·exact iC c _ z
theorem Inv.tok(I:Inv X pins σ H s)(t:Nat):Inv X pins σ H { s with toks:=t }:=I.un (h':=s.heap) (t':=t) Un.refl I.hok
theorem Inv.kept(I:Inv X pins σ H s)(k: ∀b u,s.heap.get? b=some u->h'.get? b=some u):Inv X pins σ H { s with heap:=h',toks:=t' }:=I.un (Un.kept k) (I.hok.kept k)
theorem Inv.laid (I:Inv X pins σ H s) (k: ∀b u,s.heap.get? b=some u->h'.get? b=some u) (hp:s.heap.objs.size<=a) (new:qaC X.prog X.w (upd H a o) h' a o):
  Inv X pins σ (upd H a o) { s with heap:=h',toks:=t' }:=I.un (Un.laid k hp (I.hok.fresh hp)) (I.hok.laid k hp new)
theorem Inv.write(I:Inv X pins σ H s)(mu:Mut (H x))(he:e=x\/H e=some (.own x))(k: ∀b u,b≠e->s.heap.get? b=some u->h'.get? b=some u)(dD: ∃u,h'.get? e=some u)(new:qaC X.prog X.w (upd H x o) h' x o):Inv X pins σ (upd H x o) { s with heap:=h',toks:=t' }:=I.un (Un.write mu he k dD) (I.hok.write mu he k dD new)
theorem Inv.pins_of(I:Inv X pins σ H s)(h: ∀p∈dX,s.heap.get? p.1=some p.2/\H p.1=none/\p.1≠X.env.locals/\p.1∉X.fs/\∀v,p.2.data≠.cell v):Inv X dX σ H s:=
 ⟨I.ok,I.os,I.bare,I.base,I.loc,I.cell,I.free,I.freeC,λp hp=>(List.mem_append.mp hp).elim (λz=>I.pin p (Vs _ z)) (h p),I.hok,I.len⟩
theorem qhk{N:List Str}(hN:N.Nodup){i j:Nat}(a:N[i]? =some x)(b:N[j]? =some x):i=j:=by obtain⟨h1,e1⟩:=List.getElem?_eq_some_iff.mp a;obtain⟨h2,e2⟩:=List.getElem?_eq_some_iff.mp b;exact(List.getElem_inj hN).mp (e1.trans e2.symm)
theorem qeY{X:Cx}{σ:List (Option V)}{s:Shared}{i:Nat}(I:Inv X pins σ H s)(hN:X.N.Nodup)(hi:X.N[i]? =some x)(hx:Loc X.env.scope x)(r:RelV v u)(h: ∀s',Inv X pins (σ.set i (some v)) H s'->(∃a,Heap.SameBut a s.heap s'.heap/\(a=X.env.locals\/X.env.cells.lookup x=some a))->Q () s')(hf:X.fn x=true\/X.env.scope.names.lookup x=some .local:=by first|exact .inl rfl|exact .inr rfl|assumption):wpAny M A (storeName X.env x u) Q E s:=by
 obtain⟨m,hn,hl⟩:=id I.loc;have gL:(X.env.scope.kind== .class||(X.env.scope.kind== .module&&X.env.locals != X.env.globals))=false:=by rw[I.ok.kind];rfl
 have eO:i<σ.length:=by rw[I.len];exact(List.getElem?_eq_some_iff.mp hi).1
 have cne:=I.cne;have tracked: ∀{a:Addr} {h':Heap},(∃o,s.heap.get? a=some o/\H a=none)->Heap.SameBut a s.heap h'->HOk X.prog X.w H h':=λ{a h'} ha hs b ob e=>by
  obtain⟨_,_,ah⟩:=ha;refine(I.hok b ob e).stay (λc w' hc q=>(hs.2 c ?_).trans q) (λ_ q=>q) λ_ _ q=>q;rintro rfl
  rcases hc with rfl|hc
  ·rw[ah] at e;cases e
  ·rw[ah] at hc;cases hc
 rcases hx with hk|hk
 ·refine wpAny_storeName_local hk hn (λh' hn' hs=> ?_) gL;obtain⟨oL,_,_,hoL,_⟩:=id hn;refine h _ ⟨I.ok,I.os,I.bare,⟨λb o e n hb hx=> ?_,λb o e n hb hx=> ?_,I.base.free,λb o e hx=> ?_,I.base.tups,I.base.frzs,I.base.tbls⟩,⟨_,hn',λj y v' e1 e2 e3=> ?_⟩,λy c e=> ?_,I.free,I.freeC,λp hp=> ?_,tracked ⟨oL,hoL,I.free⟩ hs,by simpa using I.len⟩ ⟨_,hs,.inl rfl⟩
  ·exact(hs.2 b (Vo (Vn (Vi e) I.ok.above))).trans (I.base.keep b o e n hb hx)
  ·obtain⟨sl,e1⟩:=I.base.slot b o e n hb hx;exact⟨sl,(hs.2 b (Vo (Vn (Vi e) I.ok.above))).trans e1⟩
  ·obtain⟨o',e1⟩:=I.base.there b o e hx;exact⟨o',(hs.2 b (Vo (Vn (Vi e) I.ok.above))).trans e1⟩
  ·by_cases hj:j=i
   ·subst hj;rw[hi] at e1;cases e1;rw[List.getElem?_set_self eO] at e2;cases e2;exact⟨u,r,.inl ⟨hk,by simp⟩⟩
   ·rw[List.getElem?_set_ne (Ne.symm hj)] at e2;obtain⟨u',r',q⟩:=hl j y v' e1 e2 e3;refine⟨u',r',?_⟩
    rcases q with⟨k,e⟩|⟨k,c,e,z⟩
    ·refine .inl ⟨k,?_⟩;have:y≠x:=λe=>hj (qhk hN e1 (e▸hi));simp[this,e]
    ·exact .inr ⟨k,c,e,z.sameBut hs (cne y c e)⟩
  ·obtain⟨w',z⟩:=I.cell y c e;exact⟨w',z.sameBut hs (cne y c e)⟩
  ·obtain⟨e,n,ne,nf,d⟩:=I.pin p hp;exact⟨(hs.2 p.1 ne).trans e,n,ne,nf,d⟩
 ·have gH:X.fn x=true:=by
   rcases hf with z|z
   ·exact z
   ·rw[z] at hk;cases hk
  obtain⟨c,hc⟩:=I.ok.has x (.inl hk);obtain⟨w',z⟩:=I.cell x c hc;refine wpAny_storeName_cell I.ok.kind hk hc z (λh' cB hs=> ?_);obtain⟨oc,dz,gq⟩:=id z;refine h { s with heap:=h' } ⟨I.ok,I.os,I.bare,⟨λb o e n hb hx=> ?_,λb o e n hb hx=> ?_,I.base.free,λb o e hx=> ?_,I.base.tups,I.base.frzs,I.base.tbls⟩,⟨m,hn.sameBut hs (Ne.symm (cne x c hc)),λj y v' e1 e2 e3=> ?_⟩,λy c' e=> ?_,I.free,I.freeC,λp hp=> ?_,tracked ⟨oc,dz,I.freeC x c hc⟩ hs,by simpa using I.len⟩ ⟨c,hs,.inr hc⟩
  ·exact(hs.2 b (Vo (Vn (Vi e) (I.ok.cab x c gH hc)))).trans (I.base.keep b o e n hb hx)
  ·obtain⟨sl,e1⟩:=I.base.slot b o e n hb hx;exact⟨sl,(hs.2 b (Vo (Vn (Vi e) (I.ok.cab x c gH hc)))).trans e1⟩
  ·obtain⟨o',e1⟩:=I.base.there b o e hx;exact⟨o',(hs.2 b (Vo (Vn (Vi e) (I.ok.cab x c gH hc)))).trans e1⟩
  ·by_cases hj:j=i
   ·subst hj;rw[hi] at e1;cases e1;rw[List.getElem?_set_self eO] at e2;cases e2;exact⟨u,r,.inr ⟨.inl hk,c,hc,cB⟩⟩
   ·rw[List.getElem?_set_ne (Ne.symm hj)] at e2;obtain⟨u',r',q⟩:=hl j y v' e1 e2 e3;refine⟨u',r',?_⟩
    rcases q with q|⟨k,c',e,z'⟩
    ·exact .inl q
    ·refine .inr ⟨k,c',e,z'.sameBut hs ?_⟩;rintro rfl;exact hj (qhk hN e1 (I.ok.inj _ _ _ e hc▸hi))
  ·by_cases cA:c'=c
   ·subst cA;exact⟨_,cB⟩
   ·obtain⟨w2,z2⟩:=I.cell y c' e;exact⟨w2,z2.sameBut hs cA⟩
  ·obtain⟨e,n,ne,nf,d⟩:=I.pin p hp;refine⟨(hs.2 p.1 ?_).trans e,n,ne,nf,d⟩;intro q;rw[q,dz] at e;have q':oc=p.2:=Option.some.inj e;exact d w' (by rw[<-q'];exact gq)
theorem qbe(I:Inv X pins σ H s)(hN:X.N.Nodup)(hi:X.N[i]? =some x)(hx:Loc X.env.scope x)(r:RelV v u)(h: ∀s',Inv X pins (σ.set i (some v)) H s'->Q () s')(hf:X.fn x=true\/X.env.scope.names.lookup x=some .local:=by first|exact .inl rfl|exact .inr rfl|assumption):wpAny M A (storeName X.env x u) Q E s:=
 qeY I hN hi hx r (λs' I' _=>h s' I') hf
theorem Inv.call'(I:Inv X pins σ H s)(ho:s'.os=s.os)(u:Un (frs X.stack) ch H H' s.heap s'.heap)(hok:HOk X.prog X.w H' s'.heap)(hg:AllBare s'.gens)(aL: ∀b∈ch,(b∈X.ex\/X.s₀.heap.objs.size<=b)/\b≠X.env.locals/\(∀x c,X.env.cells.lookup x=some c->c≠b)/\∀p∈X.pn++pins,p.1≠b):Inv X pins σ H' s':=by obtain⟨h',g',d',t',o'⟩:=s';have e:o'=s.os:=ho;subst e;exact I.call (g':=g') (t':=t') (d':=d') u hok hg aL
end
abbrev XK:=Value->Option Addr->Hp->Prop
abbrev St:=List (Option V)
abbrev VK:=V->Hp->Prop
abbrev TE:=St->Hp->VK->Prop
abbrev TT:=St->Hp->(Bool->Hp->Prop)->Prop
abbrev TA:=St->Hp->(List V->Hp->Prop)->Prop
structure qqq where
 nx:St->Hp->Prop
 rt:VK
 bk:St->Hp->Prop:=λ_ _=>False
 ct:St->Hp->Prop:=λ_ _=>False
abbrev TS:=qqq->St->Hp->Prop
noncomputable def EP(X:Cx)(pins:List (Addr×Obj))(σ:St)(Q:VK)(u:Value)(s':Shared):Prop:= ∃v H',Inv X pins σ H' s'/\RelV v u/\Q v H'
noncomputable def TP(X:Cx)(pins:List (Addr×Obj))(σ:St)(Q:Bool->Hp->Prop)(b:Bool)(s':Shared):Prop:= ∃H',Inv X pins σ H' s'/\Q b H'
noncomputable def AP(X:Cx)(pins:List (Addr×Obj))(σ:St)(Q:List V->Hp->Prop)(us:List Value)(s':Shared):Prop:= ∃vs H',Inv X pins σ H' s'/\qat vs us/\Q vs H'
noncomputable def SP(X:Cx)(pins:List (Addr×Obj))(D:qqq)(f:Flow)(s':Shared):Prop:=
 match f with
 |.next=> ∃ag H',Inv X pins ag H' s'/\D.nx ag H'
 |.brk=> ∃ag H',Inv X pins ag H' s'/\D.bk ag H'
 |.cont=> ∃ag H',Inv X pins ag H' s'/\D.ct ag H'
 |.ret u=> ∃v ag H',Inv X pins ag H' s'/\RelV v u/\D.rt v H'
noncomputable def PE(X:Cx)(e:Expr)(t:TE):Prop:=
 ∀(pins:List (Addr×Obj)) (s:Shared) (σ:St) (H:Hp) (Q:VK),Inv X pins σ H s->t σ H Q->wpAny (model X.prog X.w) X.A (eval e X.env) (EP X pins σ Q) X.xe s
noncomputable def PT(X:Cx)(e:Expr)(t:TT):Prop:=
 ∀(pins:List (Addr×Obj)) (s:Shared) (σ:St) (H:Hp) (Q:Bool->Hp->Prop),Inv X pins σ H s->t σ H Q->wpAny (model X.prog X.w) X.A (isTrue e X.env (eval e X.env)) (TP X pins σ Q) X.xe s
noncomputable def PW(X:Cx)(e:Expr)(t:TT):Prop:=
 ∀(whole:Sem Value) (pins:List (Addr×Obj)) (s:Shared) (σ:St) (H:Hp) (Q:Bool->Hp->Prop),Inv X pins σ H s->t σ H Q->wpAny (model X.prog X.w) X.A (isTrue e X.env whole) (TP X pins σ Q) X.xe s
theorem PW.pt(h:PW X e t):PT X e t:=h _
noncomputable def PA(X:Cx)(es:List Expr)(t:TA):Prop:=
 ∀(pos:Pos) (pins:List (Addr×Obj)) (s:Shared) (σ:St) (H:Hp) (Q:List V->Hp->Prop),Inv X pins σ H s->t σ H Q->wpAny (model X.prog X.w) X.A (spliced (backTo pos (starEach es X.env))) (AP X pins σ Q) X.xe s
noncomputable def PS(X:Cx)(st:Stmt)(t:TS):Prop:=
 ∀(pins:List (Addr×Obj)) (s:Shared) (σ:St) (H:Hp) (D:qqq),Inv X pins σ H s->t D σ H->wpAny (model X.prog X.w) X.A (exec st X.env) (SP X pins D) X.xe s
noncomputable def PSs(X:Cx)(st:List Stmt)(t:TS):Prop:=
 ∀(pins:List (Addr×Obj)) (s:Shared) (σ:St) (H:Hp) (D:qqq),Inv X pins σ H s->t D σ H->wpAny (model X.prog X.w) X.A (execs st X.env) (SP X pins D) X.xe s
theorem thn(h:wpAny M A t Q E s)(hQ: ∀a s,Q a s->Q' a s):wpAny M A t Q' E s:=Vc h hQ λ_ _ x=>x
section
theorem bin {X:Cx} {a b:Expr} {ta tb:TE} (ha:PE X a ta) (hb:PE X b tb) {pins:List (Addr×Obj)} {s:Shared} {σ:St} {H:Hp} {R:V->V->Hp->Prop} (I:Inv X pins σ H s) (h:ta σ H λx H1=>tb σ H1 λy H2=>R x y H2) {α:Type} {Q:α->Shared->Prop} {f:Value->Value->Sem α} (hf: ∀v u s2 x y H2,Inv X pins σ H2 s2->RelV x v->RelV y u->R x y H2->wpAny (model X.prog X.w) X.A (f v u) Q X.xe s2):
  wpAny (model X.prog X.w) X.A (eval a X.env) (λv ae=>wpAny (model X.prog X.w) X.A (eval b X.env) (λu aM=>wpAny (model X.prog X.w) X.A (f v u) Q X.xe aM) X.xe ae) X.xe s:=by refine thn (ha pins s σ H _ I h) λv s1 ⟨x,H1,I1,r1,q1⟩=> ?_;refine thn (hb pins s1 σ H1 _ I1 q1) λu s2 ⟨y,H2,I2,r2,q2⟩=> ?_;exact hf v u s2 x y H2 I2 r1 r2 q2
noncomputable def qtT(i:Nat):TE:=λσ H Q=> ∃v,σ[i]? =some (some v)/\Q v H
noncomputable def tC(v:V):TE:=λ_ H Q=>Q v H
theorem qnq (hN:X.N[i]? =some x) (hv:Vis X.env.scope x) (hd:(x==("__debug__" :Str))=false:=by decide) (ba:(x==("__classdict__" :Str))=false:=by decide):PE X (.Name x pos) (qtT i):=by
 intro pins s σ H Q I h;obtain⟨v,e,h⟩:=h;obtain⟨m,hn,hl⟩:=I.loc;obtain⟨u,r,l⟩:=hl i x v hN e hv;have fin:EP X pins σ Q u s:=⟨v,H,I,r,h⟩
 rcases l with⟨hk,hm⟩|⟨hk,c,hc,ai⟩
 ·exact wpAny_Name (wpAny_loadName_local I.ok.kind hk hn hm fin) hd
 ·rcases hk with hk|hk
  ·exact wpAny_Name (wpAny_loadName_cell I.ok.kind hk hc ai fin) hd
  ·exact wpAny_Name (wpAny_loadName_free I.ok.kind hk hc ai fin ba) hd
theorem qru{i j pos}:PE X (.Constant (.int i) j pos) (tC (.int i)):=λ_ _ _ H _ I h=>wpAny_Constant_int ⟨.int i,H,I.tok _,⟨_,rfl⟩,h⟩
theorem quB{b j pos}:PE X (.Constant (.bool b) j pos) (tC (.bl b)):=λ_ _ _ H _ I h=>Constant_bool ⟨.bl b,H,I,rfl,h⟩
theorem qrs{j pos}:PE X (.Constant .none j pos) (tC .non):=λ_ _ _ H _ I h=>Constant_none ⟨.non,H,I,rfl,h⟩
theorem qnr{x j pos}:PE X (.Constant (.str x) j pos) (tC (.str x)):=λ_ _ _ H _ I h=>Calls.Constant_str ⟨.str x,H,I.tok _,⟨_,rfl⟩,h⟩
noncomputable def Gl(X:Cx)(x:Str):Prop:=X.env.kindOf x=some .globalImplicit
theorem qcg (I:Inv X pins σ H s) (hg:Gl X x) (hm:X.mg x=some u) (h:Q u s) (hd:(x==("__debug__" :Str))=false:=by decide):wpAny (model X.prog X.w) X.A (eval (.Name x pos) X.env) Q E s:=
 Calls.Name_function_global I.ok.kind hg (Calls.loadGlobal_global (by rw[I.ok.glob];exact I.mod.glob.keeps I.bk) hm h) hd
theorem qdJ (I:Inv X pins σ H s) (hg:Gl X x) (hm:X.mg x=none) (hv:bootBuiltins x=some u) (h:Q u s) (hn:x≠ "__name__" :=by decide) (hd:(x==("__debug__" :Str))=false:=by decide):wpAny (model X.prog X.w) X.A (eval (.Name x pos) X.env) Q E s:=by obtain⟨mb,h1,h2⟩:=I.mod.blt;exact Calls.Name_function_global I.ok.kind hg (Calls.loadGlobal_builtin (by rw[I.ok.glob];exact I.mod.glob.keeps I.bk) hm (by rw[I.ok.blt];exact h1.keeps I.bk) ((h2 x hn).trans hv) h) hd
theorem qcf (hg:Gl X x) (hm:X.mg x=some u) (r:RelV v u) (hd:(x==("__debug__" :Str))=false:=by decide):PE X (.Name x pos) (tC v):=
 λ_ _ _ H _ I h=>qcg I hg hm ⟨v,H,I,r,h⟩ hd
theorem qo0 (hg:Gl X x) (hm:X.mg x=none) (hv:bootBuiltins x=some u) (r:RelV v u) (hn:x≠ "__name__" :=by decide) (hd:(x==("__debug__" :Str))=false:=by decide):PE X (.Name x pos) (tC v):=
 λ_ _ _ H _ I h=>qdJ I hg hm hv ⟨v,H,I,r,h⟩ hn hd
variable {a b:Expr}{ta tb:TE}{pos:Pos}
noncomputable def PC(X:Cx)(op:CmpOp)(a b:Expr)(t:TE):Prop:=
 ∀(pins:List (Addr×Obj)) (s:Shared) (σ:St) (H:Hp) (Q:VK),Inv X pins σ H s->t σ H Q->
  wpAny (model X.prog X.w) X.A (eval a X.env) (λv ae=>wpAny (model X.prog X.w) X.A (eval b X.env) (λu aM=>wpAny (model X.prog X.w) X.A (compareOp op v u) (EP X pins σ Q) X.xe aM) X.xe ae) X.xe s
noncomputable def tB(t:TE):TT:=λσ H Q=>t σ H λx H1=> ∃c,x= .bl c/\Q c H1
theorem qwu(h:PC X op a b t)(h1:behindInMarks op b=false:=by first|exact nobehind _ (by decide) (by decide)|rfl):PT X (.Compare a [op] [b] pos) (tB t):=by intro pins s σ H Q I hw;refine wpAny_isTrue_Compare1 (thn (h pins s σ H _ I hw) λv s1 h1=>thn h1 λu s2 h2=>thn h2 λc s3 ⟨x,H1,I1,r1,q1⟩=> ?_) h1;obtain⟨d,rfl,q⟩:=q1;cases r1;exact Vd ⟨H1,I1,q⟩
theorem qrc(h:PE X e t)(he: ∀whole,isTrue e X.env whole=(do let v <-whole;standAt e.pos;holding [v] (truthy v)):=by intro _;rfl):PT X e (tB t):=by intro pins s σ H Q I hw;refine isTrue_plain (thn (h pins s σ H _ I hw) λv s1 ⟨x,H1,I1,r1,q1⟩=> ?_) (he _);obtain⟨d,rfl,q⟩:=q1;cases r1;exact Vd ⟨H1,I1,q⟩
variable {tA fe:TT}{rest:List Expr}
noncomputable def qxc(t u:TT):TT:=λσ H Q=>t σ H λc H1=>if c=true then u σ H1 Q else Q false H1
noncomputable def tOr(t u:TT):TT:=λσ H Q=>t σ H λc H1=>if c=true then Q true H1 else u σ H1 Q
noncomputable def qw7(t:TT):TT:=λσ H Q=>t σ H λc H1=>Q (!c) H1
theorem qoK(ha:PT X a tA):PW X (.BoolOp .And [a] pos) tA:=by
 intro wh pins s σ H Q I h;refine isTrue_and (thn (ha pins s σ H Q I h) λc s1 e=> ?_);cases c with
 |true=>exact isTrue_and_nil e
 |false=>exact e
theorem qq6(ha:PT X a tA):PW X (.BoolOp .Or [a] pos) tA:=by
 intro wh pins s σ H Q I h;refine isTrue_or (thn (ha pins s σ H Q I h) λc s1 e=> ?_);cases c with
 |false=>exact isTrue_or_nil e
 |true=>exact e
theorem qq7(ha:PT X a tA)(hb:PW X (.BoolOp .And (b::rest) pos) fe):PW X (.BoolOp .And (a::b::rest) pos) (qxc tA fe):=by
 intro wh pins s σ H Q I h;refine isTrue_and (thn (ha pins s σ H _ I h) λc s1 ⟨H1,I1,q1⟩=> ?_);cases c with
 |true=>exact hb wh pins s1 σ H1 Q I1 q1
 |false=>exact⟨H1,I1,q1⟩
theorem qut(ha:PT X a tA)(hb:PW X (.BoolOp .Or (b::rest) pos) fe):PW X (.BoolOp .Or (a::b::rest) pos) (tOr tA fe):=by
 intro wh pins s σ H Q I h;refine isTrue_or (thn (ha pins s σ H _ I h) λc s1 ⟨H1,I1,q1⟩=> ?_);cases c with
 |true=>exact⟨H1,I1,q1⟩
 |false=>exact hb wh pins s1 σ H1 Q I1 q1
theorem qrd(ha:PT X a tA):PT X (.UnaryOp .Not a pos) (qw7 tA):=by intro pins s σ H Q I h;exact isTrue_not (ha pins s σ H (λc H1=>Q (!c) H1) I h)
noncomputable def qt0(ta tb:TE):TE:=λσ H Q=>ta σ H λx H1=> ∃c,x= .bl c/\if c=true then tb σ H1 Q else Q (.bl false) H1
noncomputable def qw6(ta tb:TE):TE:=λσ H Q=>ta σ H λx H1=> ∃c,x= .bl c/\if c=true then Q (.bl true) H1 else tb σ H1 Q
noncomputable def qtX(ta:TE):TE:=λσ H Q=>ta σ H λx H1=> ∃c,x= .bl c/\Q (.bl (!c)) H1
theorem qrx(ha:PE X a ta)(hb:PE X (.BoolOp .And (b::rest) pos) tb):PE X (.BoolOp .And (a::b::rest) pos) (qt0 ta tb):=by
 intro pins s σ H Q I h;refine BoolOp_and (thn (ha pins s σ H _ I h) λv s1 ⟨x,H1,I1,r1,q1⟩=> ?_);obtain⟨c,rfl,q1⟩:=q1;cases r1;refine Vd ?_;cases c with
 |true=>exact hb pins s1 σ H1 Q I1 q1
 |false=>exact⟨.bl false,H1,I1,rfl,q1⟩
theorem qux(ha:PE X a ta)(hb:PE X (.BoolOp .Or (b::rest) pos) tb):PE X (.BoolOp .Or (a::b::rest) pos) (qw6 ta tb):=by
 intro pins s σ H Q I h;refine BoolOp_or (thn (ha pins s σ H _ I h) λv s1 ⟨x,H1,I1,r1,q1⟩=> ?_);obtain⟨c,rfl,q1⟩:=q1;cases r1;refine Vd ?_;cases c with
 |false=>exact hb pins s1 σ H1 Q I1 q1
 |true=>exact⟨.bl true,H1,I1,rfl,q1⟩
theorem qrr(ha:PE X a ta):PE X (.UnaryOp .Not a pos) (qtX ta):=by intro pins s σ H Q I h;refine UnaryOp_ (thn (ha pins s σ H _ I h) λv s1 ⟨x,H1,I1,r1,q1⟩=> ?_);obtain⟨c,rfl,q1⟩:=q1;cases r1;exact not_of (Vd ⟨.bl (!c),H1,I1,rfl,q1⟩)
noncomputable def tIf(t:TT)(ta tb:TE):TE:=λσ H Q=>t σ H λc H1=>if c=true then ta σ H1 Q else tb σ H1 Q
theorem qlT(hc:PT X c tA)(ha:PE X a ta)(hb:PE X b tb):PE X (.IfExp c a b pos) (tIf tA ta tb):=by
 intro pins s σ H Q I h;refine wpAny_IfExp (thn (hc pins s σ H _ I h) λd s1 ⟨H1,I1,q1⟩=> ?_);cases d with
 |true=>exact ha pins s1 σ H1 Q I1 q1
 |false=>exact hb pins s1 σ H1 Q I1 q1
end
noncomputable def SqL(K:W.Frag)(H:Hp)(a:Addr)(xs:List V):Prop:=
 Rd H a (.lst xs)\/
  ∃(o:Obj) (its:Array Value) (n:Nat),K.lookup a=some o/\o.cls= .type "list" /\o.dict=none/\o.data= .seq its n/\its.size<=sizeLine/\qat xs its.toList
noncomputable def SqT(K:W.Frag)(H:Hp)(a:Addr)(xs:List V):Prop:=
 Rd H a (.tup xs)\/
  ∃(o:Obj) (its:Array Value) (n:Nat),K.lookup a=some o/\o.cls= .type "tuple" /\o.data= .seq its n/\its.size<=sizeLine/\qat xs its.toList
noncomputable def qx2:Value->Option V
 |.none=>some .non
 |.bool b=>some (.bl b)
 |.int i _=>some (.int i)
 |.str x _=>some (.str x)
 |.bytes b _=>some (.byt b)
 |.float b _=>some (.flt b)
 |.ref a=>some (.ref a)
 |.type n=>some (.ty n)
 |_=>none
theorem RelV.abs(r:RelV x u):qx2 u=some x:=by
 cases x with
 |non|bl _=>cases r;rfl
 |int _|str _|byt _|flt _=>obtain⟨t,rfl⟩:=r;rfl
 |ref _|ty _=>cases r;rfl
theorem RelV.inj(r:RelV x u)(q:RelV y u):x=y:=Option.some.inj (r.abs.symm.trans q.abs)
theorem qat.inj: ∀{xs ys:List V} {us:List Value},qat xs us->qat ys us->xs=ys
 |_,_,_,.nil,.nil=>rfl
 |_,_,_,.cons r t,.cons r' t'=>by rw[r.inj r',qat.inj t t']
section
theorem SqL.of{H:Hp}{a:Addr}{xs:List V}{K:W.Frag}(h:H a=some (.lst xs)):SqL K H a xs:=.inl (.inl h)
theorem SqT.of{H:Hp}{a:Addr}{xs:List V}{K:W.Frag}(h:H a=some (.tup xs)):SqT K H a xs:=.inl (.inl h)
theorem Inv.list(I:Inv X pins σ H s)(h:SqL X.K H a xs): ∃its:List Value,qat xs its/\PlainL s.heap a its.toArray/\xs.length<=sizeLine:=by
 rcases h with h|⟨o,its,n,hk,hc,hd,hs,hz,r⟩
 ·obtain⟨z,its,n,r,e⟩:=h.ok I.hok;exact⟨its,r,⟨_,n,e,rfl,rfl,rfl⟩,z⟩
 ·refine⟨its.toList,r,⟨o,n,I.kIn a o hk,hc,hd,by simpa using hs⟩,?_⟩;have e:=r.length;simp only[Array.length_toList] at e;omega
theorem Inv.tuple(I:Inv X pins σ H s)(h:SqT X.K H a xs): ∃its:List Value,qat xs its/\IsTup s.heap a its.toArray/\xs.length<=sizeLine:=by
 rcases h with h|⟨o,its,n,hk,hc,hs,hz,r⟩
 ·obtain⟨z,its,r,p⟩:=h.ok I.hok;exact⟨its,r,p,z⟩
 ·refine⟨its.toList,r,⟨o,I.kIn a o hk,hc,n,by simpa using hs⟩,?_⟩;have e:=r.length;simp only[Array.length_toList] at e;omega
theorem Inv.list_inj(I:Inv X pins σ H s)(h:SqL X.K H a xs)(h':SqL X.K H a ys):xs=ys:=by
 obtain⟨its,r,⟨o,n,e,_,_,d⟩,_⟩:=I.list h;obtain⟨its',r',⟨o',n',e',_,_,d'⟩,_⟩:=I.list h';rw[e] at e';cases e';rw[d] at d';injection d' with d1 _
 have:its=its':=by simpa using congrArg Array.toList d1
 subst this;exact r.inj r'
theorem Inv.tuple_inj(I:Inv X pins σ H s)(h:SqT X.K H a xs)(h':SqT X.K H a ys):xs=ys:=by
 obtain⟨its,r,⟨o,e,_,n,d⟩,_⟩:=I.tuple h;obtain⟨its',r',⟨o',e',_,n',d'⟩,_⟩:=I.tuple h';rw[e] at e';cases e';rw[d] at d';injection d' with d1 _
 have:its=its':=by simpa using congrArg Array.toList d1
 subst this;exact r.inj r'
end
abbrev Cx.wish(X:Cx)(E:Value->Shared->Prop):Cx:={ X with xe:=E }
section
noncomputable def qol:TS:=λD σ H=>D.nx σ H
noncomputable def qv9(t u:TS):TS:=λD σ H=>t { D with nx:=u D } σ H
theorem qoL:PSs X [] qol:=λ_ _ σ H _ I h=>wpAny_execs_nil ⟨σ,H,I,h⟩
theorem qlI{X:Cx}{st:Stmt}{rest:List Stmt}{t:TS}{u:TS}(h1:PS X st t)(h2:PSs X rest u):PSs X (st::rest) (qv9 t u):=by
 intro pins s σ H D I h;refine wpAny_execs_cons (thn (h1 pins s σ H { D with nx:=u D } I h) λf s1 q=> ?_);cases f with
 |next=>obtain⟨ag,H',I',q⟩:=q;exact h2 pins s1 ag H' D I' q
 |ret v|brk|cont=>exact q
noncomputable def qqM:TS:=λD σ H=>D.bk σ H
noncomputable def qtZ:TS:=λD σ H=>D.ct σ H
theorem qoN:PS X (.Pass pos) qol:=λ_ _ σ H _ I h=>wpAny_Pass ⟨σ,H,I,h⟩
theorem qlK:PS X (.Break pos) qqM:=λ_ _ σ H _ I h=>wpAny_Break ⟨σ,H,I,h⟩
theorem qgf:PS X (.Continue pos) qtZ:=λ_ _ σ H _ I h=>wpAny_Continue ⟨σ,H,I,h⟩
theorem Inv.quiet(I:Inv X pins σ H s):interactive X.env=false:=by simp[interactive,I.ok.kind]
theorem qrl{x j pos pos'}:PS X (.Expr (.Constant (.str x) j pos) pos') qol:=λ_ s σ H _ I h=>wpAny_Expr (Calls.Constant_str (show SP X _ _ .next { s with toks:=s.toks+1 } from⟨σ,H,I.tok _,h⟩)) I.quiet
noncomputable def qtY(te:TE):TS:=λD σ H=>te σ H λ_ H1=>D.nx σ H1
theorem qoO(he:PE X e te)(hs:swapsWith e none pos.line X.env=pure false:=by rfl):PS X (.Expr e pos) (qtY te):=by intro pins s σ H D I h;exact wpAny_Expr_any (thn (he pins s σ H _ I h) λv s1 ⟨x,H1,I1,r1,q1⟩=>⟨σ,H1,I1,q1⟩) I.quiet hs
noncomputable def qw4(te:TE):TS:=λD σ H=>te σ H D.rt
theorem qrg(he:PE X e te):PS X (.Return (some e) pos) (qw4 te):=by intro pins s σ H D I h;exact wpAny_Return_some (thn (he pins s σ H _ I h) λv s1 ⟨x,H1,I1,r1,q1⟩=>⟨x,σ,H1,I1,r1,q1⟩)
noncomputable def qtU:TS:=λD _ H=>D.rt .non H
theorem qoM:PS X (.Return none pos) qtU:=λ_ _ σ H _ I h=>wpAny_Return_none ⟨.non,σ,H,I,rfl,h⟩
noncomputable def qw9(c:TT)(t u:TS):TS:=λD σ H=>c σ H λb H1=>if b=true then t D σ H1 else u D σ H1
theorem quv(hc:PT X c tc)(ha:PSs X a t)(hb:PSs X b u):PS X (.If c a b pos) (qw9 tc t u):=by
 intro pins s σ H D I h;refine wpAny_If (thn (hc pins s σ H _ I h) λd s1 ⟨H1,I1,q1⟩=> ?_);cases d with
 |true=>exact ha pins s1 σ H1 D I1 q1
 |false=>exact hb pins s1 σ H1 D I1 q1
end
abbrev TG:=V->St->Hp->(St->Hp->Prop)->Prop
abbrev TGs:=List V->St->Hp->(St->Hp->Prop)->Prop
noncomputable def PG(X:Cx)(target:Expr)(t:TG):Prop:=
 ∀(pins:List (Addr×Obj)) (s:Shared) (σ:St) (H:Hp) (v:V) (u:Value) (Q:St->Hp->Prop),Inv X pins σ H s->RelV v u->t v σ H Q->
  wpAny (model X.prog X.w) X.A (assign target X.env u) (λ_ s'=> ∃ag H',Inv X pins ag H' s'/\Q ag H') X.xe s
noncomputable def PGs(X:Cx)(ts:List Expr)(t:TGs):Prop:=
 ∀(pins:List (Addr×Obj)) (s:Shared) (σ:St) (H:Hp) (vs:List V) (us:List Value) (Q:St->Hp->Prop),Inv X pins σ H s->qat vs us->t vs σ H Q->
  wpAny (model X.prog X.w) X.A (assignInOrder ((assignEach ts X.env).map (·.2)) us) (λ_ s'=> ∃ag H',Inv X pins ag H' s'/\Q ag H') X.xe s
abbrev qtL:=V->V->V->Hp->(Hp->Prop)->Prop
noncomputable def qv4(X:Cx)(t:qtL):Prop:=
 ∀(pins:List (Addr×Obj)) (s:Shared) (σ:St) (H:Hp) (o i v:V) (ov iv u:Value) (Q:Hp->Prop),Inv X pins σ H s->RelV o ov->RelV i iv->RelV v u->t o i v H Q->
  wpAny (model X.prog X.w) X.A (setItem ov iv u) (λ_ s'=> ∃H',Inv X pins σ H' s'/\Q H') X.xe s
section
noncomputable def qpE(i:Nat):TG:=λv σ H Q=>Q (σ.set i (some v)) H
theorem qoW(hN:X.N.Nodup)(hi:X.N[i]? =some x)(hx:Loc X.env.scope x)(hf:X.fn x=true\/X.env.scope.names.lookup x=some .local:=by first|exact .inl rfl|exact .inr rfl|assumption):PG X (.Name x pos) (qpE i):=by intro pins s σ H v u Q I r h;exact wpAny_assign_Name (qbe I hN hi hx r (λs' I'=>⟨_,H,I',h⟩) hf)
noncomputable def qxU:TGs:=λvs σ H Q=>vs=[]/\Q σ H
noncomputable def qvq(t:TG)(u:TGs):TGs:=λvs σ H Q=> ∃v r,vs=v::r/\t v σ H λag H'=>u r ag H' Q
theorem qoV:PGs X [] qxU:=by intro pins s σ H vs us Q I r h;obtain⟨e,h⟩:=h;subst e;cases r;exact assignInOrder_nil ⟨σ,H,I,h⟩
theorem qlP(h1:PG X e t)(h2:PGs X es u)(hs:(assignEach (e::es) X.env).map (·.2)=assign e X.env::(assignEach es X.env).map (·.2):=by rfl):PGs X (e::es) (qvq t u):=by
 intro pins s σ H vs us Q I r h;obtain⟨v,vr,e1,h⟩:=h;subst e1;cases r with
 |cons r rr=>rw[hs];refine assignInOrder_cons (thn (h1 pins s σ H _ _ _ I r h) λ_ s1 ⟨cD,H1,I1,q1⟩=> ?_);exact h2 pins s1 cD H1 _ _ Q I1 rr q1
noncomputable def qxS(K:W.Frag)(n:Nat)(t:TGs):TG:=λv σ H Q=> ∃a xs,v= .ref a/\SqT K H a xs/\xs.length=n/\t xs σ H Q
theorem qrp(hc:X.calm=true)(h:PGs X es t)(hn:(assignEach es X.env).length=n:=by rfl)(aD:(assignEach es X.env).findIdx? (·.1)=none:=by rfl):PG X (.Tuple es k pos) (qxS X.K n t):=by intro pins s σ H v u Q I r hw;obtain⟨a,xs,e1,hq,hl,hw⟩:=hw;subst e1;cases r;obtain⟨its,rv,ht,hz⟩:=I.tuple hq;refine assign_Tuple_tuple (I.ok.hd hc) ht (by simp[hn,<-hl,rv.length]) aD λh' hx=> ?_;have I1:Inv X pins σ H { s with heap:=h' }:=I.kept (t':=s.toks) λb o e=>hx b o (Vo (Vi e)) e;exact h pins _ σ H xs _ Q I1 (by simpa using rv) hw
noncomputable def gSub(to ti:TE)(t:qtL):TG:=λv σ H Q=>to σ H λo H1=>ti σ H1 λi H2=>t o i v H2 λH3=>Q σ H3
noncomputable def qwb(te:TE)(g:TG):TS:=λD σ H=>te σ H λx H1=>g x σ H1 D.nx
theorem qrm(he:PE X e te)(hg:PG X tg g)(hs:swapsWithSole [tg] e pos.line X.env=pure false:=by rfl)(hw:swappedStores [tg] e X.env=pure none:=by rfl)(h1:(assignEach [tg] X.env).map (·.2)=[assign tg X.env]:=by rfl):PS X (.Assign [tg] e pos) (qwb te g):=by intro pins s σ H D I h;refine wpAny_Assign_stores (thn (he pins s σ H _ I h) λv s1 ⟨x,H1,I1,r1,q1⟩=> ?_) hs hw;rw[h1];exact thn (hg pins s1 σ H1 x v _ I1 r1 q1) λ_ s2 q=>q
theorem qrf (hN:X.N.Nodup) (hi:X.N[i]? =some x) (hx:Loc X.env.scope x) (he:PE X e te) (hs:swapsWith e (some (.Name x pos')) pos.line X.env=pure false:=by rfl) (hf:X.fn x=true\/X.env.scope.names.lookup x=some .local:=by first | exact .inl rfl | exact .inr rfl | assumption):
  PS X (.Assign [.Name x pos'] e pos) (qwb te (qpE i)):=by intro pins s σ H D I h;refine wpAny_Assign_Name (thn (he pins s σ H _ I h) λv s1 ⟨y,H1,I1,r1,q1⟩=> ?_) hs;exact qbe I1 hN hi hx r1 (λs2 I2=>⟨_,H1,I2,q1⟩) hf
noncomputable def qw5(i j:Nat)(ta:TA):TS:=λD σ H=>ta σ H λvs H1=> ∃v w,vs=[v,w]/\D.nx ((σ.set i (some v)).set j (some w)) H1
theorem qri {kt k2 pt2} (hc:X.calm=true) (hN:X.N.Nodup) (hi:X.N[i]? =some x) (hj:X.N[j]? =some y) (aI:i≠j) (hx:X.env.scope.names.lookup x=some .local) (hy:X.env.scope.names.lookup y=some .local) (ha:PA X [a,b] ta) (hw:swappedStores [.Tuple [.Name x px,.Name y py] kt pt] (.Tuple [a,b] k2 pt2) X.env=pure (some [x,y])) (hs:swapsWithSole [.Tuple [.Name x px,.Name y py] kt pt] (.Tuple [a,b] k2 pt2) pos.line X.env=pure false:=by rfl):
  PS X (.Assign [.Tuple [.Name x px,.Name y py] kt pt] (.Tuple [a,b] k2 pt2) pos) (qw5 i j ta):=by
 intro pins s σ H D I h;rw[exec_Assign_arm];refine Va (wpAny_standAt ?_);rw[hs];refine Va (Vb ?_);rw[if_neg (by decide)];refine Va (Tuple_ (thn (ha _ pins s σ H _ I h) λus s1 ⟨vs,H1,I1,r1,q1⟩=> ?_));obtain⟨v,w,e1,q1⟩:=q1;subst e1;obtain⟨u1,u2,rfl,rv,ar⟩: ∃u1 u2,us=[u1,u2]/\RelV v u1/\RelV w u2:=by
  cases r1 with
  |cons p q=>
   cases q with
   |cons p' q'=>cases q';exact⟨_,_,rfl,p,p'⟩
 refine wpAny_newObj_type ?_ (by show 2<=sizeLine;decide);have I2:Inv X pins σ H1 { s1 with heap:=s1.heap.push { cls:=.type "tuple",data:=.seq [u1,u2].toArray } }:=I1.kept (t':=s1.toks) λb o e=>Vg _ e;rw[hw];refine Va (Vb ?_);show wpAny (model X.prog X.w) X.A (do rule "assign.swapped-stores";let items <-unpackItems (.ref s1.heap.objs.size) 2 none;assignInOrder [λv=>bindName X.env y v,λv=>bindName X.env x v] items.reverse;pure Flow.next) _ _ _;refine Va (wpAny_rule (Va (unpackItems_tuple (items:= #[u1,u2]) (I.ok.hd hc) (IsTup.new s1.heap _) λh' b7=> ?_)));have I3:=I2.kept (h':=h') (t':=s1.toks) λb o e=>b7 b o (Vo (Vi e)) e;show wpAny _ _ (assignInOrder [λv=>bindName X.env y v,λv=>bindName X.env x v] [u2,u1]>>=λ_=>pure Flow.next) _ _ _;refine Va (assignInOrder_cons (wpAny_bindName (qbe I3 hN hj (.inl hy) ar (λs2 I4=> ?_) (.inr hy))));refine assignInOrder_cons (wpAny_bindName (qbe I4 hN hi (.inl hx) rv (λs3 I5=>assignInOrder_nil (Vb ?_)) (.inr hx)));rw[List.set_comm _ _ (Ne.symm aI)] at I5;exact⟨_,H1,I5,q1⟩
end
structure It where
 go:Nat->Hp->Prop
 yld:Nat->Hp->V->Hp->Prop
 stop:Nat->Hp->Prop
noncomputable def qgK(X:Cx)(pins:List (Addr×Obj))(H:Hp)(b:Addr):Prop:=
 H b=none/\b≠X.env.locals/\b∉X.fs/\(b∈X.ex\/X.s₀.heap.objs.size<=b)/\(∀x c,X.env.cells.lookup x=some c->c≠b)/\∀p∈X.pn++pins,p.1≠b
theorem Inv.fpOk(I:Inv X pins σ H s)(hb:s.heap.objs.size<=b)(hn:H' b=none):qgK X pins H' b:=by
 refine⟨hn,Nat.ne_of_gt (Vn I.lt hb),I.nofs hb,.inr (Vq I.sz hb),λx c e z=> ?_,λp hp z=> ?_⟩
 ·obtain⟨v,q⟩:=I.cell x c e;exact absurd (Vn q.lt (by rw[z];exact hb)) (Nat.lt_irrefl _)
 ·exact absurd (Vn (Vi (I.pin p hp).1) (by rw[z];exact hb)) (Nat.lt_irrefl _)
structure qqy(P:Program)(w:World)(K:W.Frag)(tg:Expr)(J:It)(fp:List Addr)(it:Addr)(tn:Nat->Heap->Prop):Prop where
 mem:it∈fp
 obj: ∀i h,tn i h->∀b∈fp,∃o,h.get? b=some o/\∀v,o.data≠.cell v
 keep: ∀i h h',tn i h->(∀b∈fp,∀o,h.get? b=some o->h'.get? b=some o)->tn i h'
 item: ∀(X:Cx),X.prog=P->X.w=w->X.K=K->X.calm=true->∀(i:Nat) (pins:List (Addr×Obj)) (s:Shared) (σ:St) (H:Hp) (E:Value->Shared->Prop),Inv X pins σ H s->(∀b∈fp,qgK X pins H b)->tn i s.heap->J.go i H->
  wpAny (model P w) X.A (pyNext (.ref it)) (λr s1=> ∃u,r=some u/\
   wpAny (model P w) X.A (letOwnedTupleGo tg (.ref it) u) (λ_ s2=> ∃x H',Inv X pins σ H' s2/\RelV x u/\J.yld i H x H'/\tn (i+1) s2.heap/\∀b∈fp,H' b=none) E s1) E s
 done: ∀(X:Cx),X.prog=P->X.w=w->X.K=K->X.calm=true->∀(i:Nat) (pins:List (Addr×Obj)) (s:Shared) (σ:St) (H:Hp) (E:Value->Shared->Prop),Inv X pins σ H s->(∀b∈fp,qgK X pins H b)->tn i s.heap->J.stop i H->
  wpAny (model P w) X.A (pyNext (.ref it)) (λr s1=>r=none/\Inv X pins σ H s1) E s
 self: ∀(A:Around) (i:Nat) (s:Shared) (Q:Value->Shared->Prop) (E:Value->Shared->Prop),tn i s.heap->Q (.ref it) s->wpAny (model P w) A (pyIter (.ref it)) Q E s
abbrev TI:=St->Hp->(It->Hp->Prop)->Prop
noncomputable def PIE(X:Cx)(pins:List (Addr×Obj))(σ:St)(tg:Expr)(R:It->Hp->Prop)(itv:Value)(s2:Shared):Prop:=
 ∃(it:Addr) (fp:List Addr) (tn:Nat->Heap->Prop) (J:It) (H':Hp),itv= .ref it/\Inv X pins σ H' s2/\qqy X.prog X.w X.K tg J fp it tn/\tn 0 s2.heap/\(∀b∈fp,qgK X pins H' b)/\R J H'
noncomputable def PI(X:Cx)(tg iter:Expr)(wi:TI):Prop:=
 ∀(pins:List (Addr×Obj)) (s:Shared) (σ:St) (H:Hp) (R:It->Hp->Prop),Inv X pins σ H s->wi σ H R->
  wpAny (model X.prog X.w) X.A (eval iter X.env) (λv s1=>wpAny (model X.prog X.w) X.A (pyIter v) (PIE X pins σ tg R) X.xe s1) X.xe s
theorem qml (ho:s.heap.get? it=some o) (hc:o.cls= .type n) (hd:o.data= .fields vs) (hn:["enumerate", "zip", "dict_itemiterator", "dict_reverseitemiterator", "odict_iterator", "itertools.zip_longest", "itertools.pairwise"].contains n=false) (hQ:Q () s):wpAny M A (letOwnedTupleGo tg (.ref it) u) Q E s:=by
 unfold letOwnedTupleGo
 cases tg<;>first
  |exact Vb hQ
  | (cases u<;>first
    |exact Vb hQ
    | (refine Va (wpAny_load ho ?_)
       rw[hc,hd];show wpAny M A (if(["enumerate", "zip", "dict_itemiterator", "dict_reverseitemiterator", "odict_iterator", "itertools.zip_longest", "itertools.pairwise"].contains n&&vs[0]? ==some (rawInt _))=true then _ else _) Q E s;rw[if_neg (by intro h;rw[hn,Bool.false_and] at h;cases h)];exact Vb hQ))
noncomputable def Itl(K:W.Frag)(a:Addr):It:=
 ⟨λi H=> ∃xs x,SqL K H a xs/\xs[i]? =some x,λi H x H'=>H'=H/\∀xs,SqL K H a xs->xs[i]? =some x,λi H=> ∃xs,SqL K H a xs/\xs.length<=i⟩
noncomputable def Itt(K:W.Frag)(a:Addr):It:=
 ⟨λi H=> ∃xs x,SqT K H a xs/\xs[i]? =some x,λi H x H'=>H'=H/\∀xs,SqT K H a xs->xs[i]? =some x,λi H=> ∃xs,SqT K H a xs/\xs.length<=i⟩
noncomputable def Itr(lo:Int)(n:Nat):It:=⟨λi _=>i<n,λi H x H'=>H'=H/\x= .int (lo+i),λi _=>n<=i⟩
theorem qiV{P:Program}{w:World}{K:W.Frag}{tg:Expr}(a it:Addr):qqy P w K tg (Itl K a) [it] it (λi h=>h.IsListIter it a i) where
 mem:=by simp
 obj:=λi h st b hb=>by
  have e:b=it:=by simpa using hb
  subst e;obtain⟨o,e,c,d⟩:=st;exact⟨o,e,λv z=>by rw[d] at z;cases z⟩
 keep:=λi h h' st k=>st.at λo e=>k it (by simp) o e
 item:=by intro X hP hw hK hc i pins s σ H E I hf st hg;subst hP hw hK;obtain⟨xs,x,hq,hx⟩:=hg;obtain⟨its,rv,p,hz⟩:=I.list hq;obtain⟨u,hu,ru⟩:=rv.get hx;obtain⟨f0,f1,f2,f3,f4,f5⟩:=hf it (by simp);refine wpAny_pyNext_list_item st p.isList (x:=u) (by simpa using hu) λh' aR sb=> ?_;have I1:Inv X pins σ H { s with heap:=h' }:=I.turned (t':=s.toks) (λb o hb e=>(sb.2 b hb).trans e) f0 f1 f3 f4 f5;obtain⟨o,e,c,d⟩:=id aR;exact⟨u,rfl,qml (s:={ s with heap:=h' }) e c d (by decide) ⟨x,H,I1,ru,⟨rfl,λys hy=>by rw[I.list_inj hy hq];exact hx⟩,aR,λb hb=>(hf b hb).1⟩⟩
 done:=by intro X hP hw hK hc i pins s σ H E I hf st hg;subst hP hw hK;obtain⟨xs,hq,hx⟩:=hg;obtain⟨its,rv,p,hz⟩:=I.list hq;obtain⟨f0,f1,f2,f3,f4,f5⟩:=hf it (by simp);have hl:=rv.length;exact wpAny_pyNext_list_end (I.ok.hd hc) st p.isList (by simp;omega) λh' eb=>⟨rfl,I.turned (t':=s.toks) (λb o hb e=>eb b o hb e) f0 f1 f3 f4 f5⟩
 self:=λ_ _ _ _ _ st h=>wpAny_pyIter_listiter st h
theorem qhT{P:Program}{w:World}{K:W.Frag}{tg:Expr}(a it:Addr):qqy P w K tg (Itt K a) [it] it (λi h=>h.IsTupleIter it a i) where
 mem:=by simp
 obj:=λi h st b hb=>by
  have e:b=it:=by simpa using hb
  subst e;obtain⟨o,e,c,d⟩:=st;exact⟨o,e,λv z=>by rw[d] at z;cases z⟩
 keep:=λi h h' st k=>st.at λo e=>k it (by simp) o e
 item:=by intro X hP hw hK hc i pins s σ H E I hf st hg;subst hP hw hK;obtain⟨xs,x,hq,hx⟩:=hg;obtain⟨its,rv,p,hz⟩:=I.tuple hq;obtain⟨u,hu,ru⟩:=rv.get hx;obtain⟨f0,f1,f2,f3,f4,f5⟩:=hf it (by simp);refine wpAny_pyNext_tuple_item st (show s.heap.IsTuple a its.toArray from p) (x:=u) (by simpa using hu) λh' aR sb=> ?_;have I1:Inv X pins σ H { s with heap:=h' }:=I.turned (t':=s.toks) (λb o hb e=>(sb.2 b hb).trans e) f0 f1 f3 f4 f5;obtain⟨o,e,c,d⟩:=id aR;exact⟨u,rfl,qml (s:={ s with heap:=h' }) e c d (by decide) ⟨x,H,I1,ru,⟨rfl,λys hy=>by rw[I.tuple_inj hy hq];exact hx⟩,aR,λb hb=>(hf b hb).1⟩⟩
 done:=by intro X hP hw hK hc i pins s σ H E I hf st hg;subst hP hw hK;obtain⟨xs,hq,hx⟩:=hg;obtain⟨its,rv,p,hz⟩:=I.tuple hq;obtain⟨f0,f1,f2,f3,f4,f5⟩:=hf it (by simp);have hl:=rv.length;exact wpAny_pyNext_tuple_end (I.ok.hd hc) st (show s.heap.IsTuple a its.toArray from p) (by simp;omega) λh' eb=>⟨rfl,I.turned (t':=s.toks) (λb o hb e=>eb b o hb e) f0 f1 f3 f4 f5⟩
 self:=λ_ _ _ _ _ st h=>wpAny_pyIter_tupleiter st h
theorem qhU{P:Program}{w:World}{K:PySem.W.Frag}{tg:Expr}(it:Addr)(lo:Int)(n:Nat):qqy P w K tg (Itr lo n) [it] it (λi h=>IsRangeIter h it (lo+(i:Nat)*1) ((n:Int) - (i:Nat)) 1) where
 mem:=by simp
 obj:=λi h st b hb=>by
  have e:b=it:=by simpa using hb
  subst e;exact⟨_,st,λv z=>by
   have z':Data.fields _=Data.cell v:=z;cases z'⟩
 keep:=λi h h' st k=>k it (by simp) _ st
 item:=by intro X hP hw hK hc i pins s σ H E I hf st hg;subst hP hw hK;obtain⟨f0,f1,f2,f3,f4,f5⟩:=hf it (by simp);have W:=Walks.range (prog:=X.prog) (w:=X.w) (I.ok.hd hc) it lo 1 n;refine W.item i s _ _ hg st λv h' tk hv aR kk=> ?_;obtain⟨t,rfl⟩:=hv;have I1:Inv X pins σ H { s with heap:=h',toks:=tk }:=I.turned (λb o hb e=>kk b o (by simpa using hb) e) f0 f1 f3 f4 f5;refine⟨_,rfl,qml (s:={ s with heap:=h',toks:=tk }) (n:= "range_iterator") aR rfl rfl (by decide) ⟨.int (lo+i),H,I1,⟨t,?_⟩,⟨rfl,rfl⟩,aR,λb hb=>(hf b hb).1⟩⟩;rw[Int.mul_one]
 done:=by intro X hP hw hK hc i pins s σ H E I hf st hg;subst hP hw hK;obtain⟨f0,f1,f2,f3,f4,f5⟩:=hf it (by simp);exact wpAny_pyNext_range_end (I.ok.hd hc) st (by have:n<=i:=hg;omega) λh' eb=>⟨rfl,I.turned (t':=s.toks) (λb o hb e=>eb b o hb e) f0 f1 f3 f4 f5⟩
 self:=λ_ _ _ _ _ st h=>wpAny_pyIter_rangeiter st h
section
variable {X:Cx}{tg:Expr}
theorem qg4{s:Shared}{lo hi:Int}{tk:Nat}(I:Inv X pins σ H s)(h1: -(2 ^ 62)<=lo)(h2:lo<2 ^ 62)(h3: -(2 ^ 62)<=hi)(h4:hi<2 ^ 62)(q:R (Itr lo (hi - lo).toNat) H):wpAny (model X.prog X.w) X.A (pyIter (.ref s.heap.objs.size)) (PIE X pins σ tg R) E { s with heap:=s.heap.push { cls:=.type "range",data:=.fields #[.int lo t,.int hi u,.int 1 v] },toks:=tk }:=by
 refine wpAny_pyIter_range (IsRange.new ..) (small_one h1 h2 h3 h4) ?_;have I1:Inv X pins σ H { s with heap:=s.heap.push { cls:=.type "range",data:=.fields #[.int lo t,.int hi u,.int 1 v] },toks:=tk }:=I.kept λb o e=>Vg _ e
 refine⟨(s.heap.push { cls:=.type "range",data:=.fields #[.int lo t,.int hi u,.int 1 v] }).objs.size,[(s.heap.push { cls:=.type "range",data:=.fields #[.int lo t,.int hi u,.int 1 v] }).objs.size],_,_,H,rfl,
  I1.kept (t':=tk) λb o e=>Vg _ e,qhU _ lo (hi - lo).toNat,?_,λb hb=> ?_,q⟩
 ·have e1:lo+((0:Nat):Int)*1=lo:=by simp
  have e2:(((hi - lo).toNat:Nat):Int) - ((0:Nat):Int)=Builtin.Range.rangeSize lo hi 1:=by rw[rangeSize_one];split<;>omega
  show IsRangeIter _ _ (lo+((0:Nat):Int)*1) ((((hi - lo).toNat:Nat):Int) - ((0:Nat):Int)) 1;rw[e1,e2];exact Vh _ rfl
 ·have e:b=(s.heap.push { cls:=.type "range",data:=.fields #[.int lo t,.int hi u,.int 1 v] }).objs.size:=by simpa using hb
  subst e;exact I1.fpOk (Vm _) (I1.hok.fresh (Vm _))
noncomputable def qu9(ta:TA):TI:=λσ H R=>ta σ H λvs H1=> ∃j:Int,vs=[.int j]/\ -(2 ^ 62)<=j/\j<2 ^ 62/\R (Itr 0 j.toNat) H1
noncomputable def qu8(ta:TA):TI:=λσ H R=>ta σ H λvs H1=> ∃i j:Int,vs=[.int i,.int j]/\(-(2 ^ 62)<=i/\i<2 ^ 62/\ -(2 ^ 62)<=j/\j<2 ^ 62)/\R (Itr i (j - i).toNat) H1
theorem qjr {a:Expr} {ta:TA} {p pos:Pos} (hg:Gl X "range") (hm:X.mg "range" =none) (ha:PA X [a] ta) (hs:starEach [a] X.env=[(false,eval a X.env)]:=by rfl):PI X tg (.Call (.Name "range" p) [a] [] pos) (qu9 ta):=by
 intro pins s σ H R I h;refine Call_ (qdJ I hg hm boot_range (PyProof.Rows.callWith_type1 (thn (ha pos pins s σ H _ I h) λus s1 ⟨vs,H1,I1,r1,q1⟩=> ?_) hs rfl));obtain⟨j,e,q1,q2,q⟩:=q1;subst e;cases r1 with
 |cons r rr=>cases rr;obtain⟨t,rfl⟩:=r;exact call_range_1 (qg4 I1 (by omega) (by omega) q1 q2 (by simpa using q))
theorem qjq {a b:Expr} {ta:TA} {p pos:Pos} (hg:Gl X "range") (hm:X.mg "range" =none) (ha:PA X [a,b] ta) (hs:starEach [a,b] X.env=[(false,eval a X.env),(false,eval b X.env)]:=by rfl) (bG:starEach [b] X.env=[(false,eval b X.env)]:=by rfl):
  PI X tg (.Call (.Name "range" p) [a,b] [] pos) (qu8 ta):=by
 intro pins s σ H R I h;refine Call_ (qdJ I hg hm boot_range (PyProof.Rows.callWith_type1 (thn (ha pos pins s σ H _ I h) λus s1 ⟨vs,H1,I1,r1,q1⟩=> ?_) (by rw[hs,bG]) (by rw[bG];rfl)));obtain⟨i,j,e,⟨q1,q2,q3,q4⟩,q⟩:=q1;subst e;cases r1 with
 |cons r rr=>
  cases rr with
  |cons r' rr=>cases rr;obtain⟨t,rfl⟩:=r;obtain⟨t',rfl⟩:=r';exact call_range_2 (qg4 I1 q1 q2 q3 q4 q)
noncomputable def qxa(wi:TI)(g:TG)(tb:TS):TS:=λD σ H=>wi σ H λJ H1=> ∃W:Nat->Nat->St->Hp->Prop,(∃m,W 0 m σ H1)/\∀i m σ H,W i m σ H->
 (J.stop i H/\D.nx σ H)\/(J.go i H/\∃N:St->Hp->Prop,(∀ag H',N ag H'->∃m',m'<m/\W (i+1) m' ag H')/\∀x H',J.yld i H x H'->g x σ H' λaE H2=>tb { D with nx:=N,ct:=N,bk:=D.nx } aE H2)
noncomputable def qfa(fp:List Addr)(h:Heap):List (Addr×Obj):=fp.filterMap λb=>(h.get? b).map λo=>(b,o)
theorem qby(hb:b∈fp)(e:h.get? b=some o):(b,o)∈qfa fp h:=List.mem_filterMap.mpr ⟨b,hb,by rw[e];rfl⟩
theorem qjB(hp:p∈qfa fp h):p.1∈fp/\h.get? p.1=some p.2:=by
 obtain⟨b,hb,e⟩:=List.mem_filterMap.mp hp;cases q:h.get? b with
 |none=>rw[q] at e;cases e
 |some o=>rw[q] at e;have e':(b,o)=p:=Option.some.inj e;subst e';exact⟨hb,q⟩
theorem Inv.pinned(I:Inv X pins σ H s)(hf: ∀b∈fp,qgK X pins H b)(ho: ∀b∈fp,∃o,s.heap.get? b=some o/\∀v,o.data≠.cell v):Inv X (pins++qfa fp s.heap) σ H s:=
 I.pins_of λp hp=>(List.mem_append.mp hp).elim (λz=>I.pin p (Vt _ z)) λz=>by obtain⟨hb,e⟩:=qjB z;obtain⟨f0,f1,f2,_⟩:=hf p.1 hb;obtain⟨o,e',d⟩:=ho p.1 hb;rw[e] at e';cases e';exact⟨e,f0,f1,f2,d⟩
theorem Inv.unpinned(I:Inv X (pins++pl) σ H s):Inv X pins σ H s:=I.pins_of λp hp=>I.pin p (Vt _ (Vs _ hp))
theorem qrj(hp:PassesOwn (model X.prog X.w) X.A X.env X.xe)(hc:X.calm=true)(hi:PI X tg iter wi)(hg:PG X tg g)(hb:PSs X body tb)(hs: ∀x,foldedSetIterable iter X.env x=pure x:=by intro _;rfl):PS X (.For tg iter body [] pos) (qxa wi g tb):=by
 intro pins s σ H D I h;refine wpAny_For (thn (hi pins s σ H _ I h) λv s1 h1=>thn h1 λitv s2 h2=> ?_) hs;obtain⟨it,fp,tn,J,H2,e,I2,T,ff,f2,W,⟨m0,w0⟩,turn⟩:=h2;subst e;have cJ: ∀{H':Hp},(∀b∈fp,H' b=none)->∀b∈fp,qgK X pins H' b:=λhn b hb=>⟨hn b hb,(f2 b hb).2⟩
 refine codeAny_forLoop_any (λn s'=> ∃i ag H',Inv X pins ag H' s'/\tn i s'.heap/\(∀b∈fp,H' b=none)/\W i n ag H') ?_ m0 ⟨0,σ,H2,I2,ff,λb hb=>(f2 b hb).1,w0⟩;rintro n s3 ⟨i,dG,H3,I3,st3,iY,w3⟩
 rcases turn i n dG H3 w3 with⟨stop,qn⟩|⟨go,N,hN,step⟩
 ·refine wpAny_passesOwn hp (thn (T.done X rfl rfl rfl hc i pins s3 dG H3 X.xe I3 (cJ iY) st3 stop) λr s4 ⟨hr,I4⟩=> ?_);subst hr;exact wpAny_execs_nil ⟨dG,H3,I4,qn⟩
 ·refine wpAny_passesOwn hp (thn (T.item X rfl rfl rfl hc i pins s3 dG H3 X.xe I3 (cJ iY) st3 go) λr s4 ⟨u,hr,h4⟩=> ?_);subst hr;refine wpAny_passesOwn hp (thn h4 λ_ s5 ⟨x,H5,I5,r5,y5,st5,fJ⟩=> ?_);have I5':=I5.pinned (cJ fJ) (T.obj _ _ st5);refine wpAny_passesOwn hp (thn (hg _ s5 dG H5 x u _ I5' r5 (step x H5 y5)) λ_ s6 ⟨σ6,H6,I6,q6⟩=> ?_);refine wpAny_passesOwn hp (thn (hb _ s6 σ6 H6 _ I6 q6) λf s7 q7=> ?_);have again: ∀{bK:St} {H7:Hp},Inv X (pins++qfa fp s5.heap) bK H7 s7->N bK H7->∃m,m<n/\∃i ag H',Inv X pins ag H' s7/\tn i s7.heap/\(∀b∈fp,H' b=none)/\W i m ag H':=λ{bK H7} I7 n7=>by obtain⟨m',hm,w7⟩:=hN bK H7 n7;refine⟨m',hm,i+1,bK,H7,I7.unpinned,T.keep _ _ _ st5 λb hb o e=>(I7.pin (b,o) (Vt _ (Vt _ (qby hb e)))).1,λb hb=> ?_,w7⟩;obtain⟨o,e,d⟩:=T.obj _ _ st5 b hb;exact(I7.pin (b,o) (Vt _ (Vt _ (qby hb e)))).2.1
  cases f with
  |next|cont=>obtain⟨bK,H7,I7,n7⟩:=q7;exact again I7 n7
  |brk=>obtain⟨bK,H7,I7,q7⟩:=q7;exact⟨bK,H7,I7.unpinned,q7⟩
  |ret v=>obtain⟨x7,bK,H7,I7,r7,q7⟩:=q7;exact⟨x7,bK,H7,I7.unpinned,r7,q7⟩
end
abbrev R2:=V->V->Hp->VK->Prop
noncomputable def OpR(X:Cx)(f:Value->Value->Sem Value)(r:R2):Prop:=
 ∀(pins:List (Addr×Obj)) (s:Shared) (σ:St) (H:Hp) (x y:V) (v u:Value) (Q:VK),Inv X pins σ H s->RelV x v->RelV y u->r x y H Q->
  wpAny (model X.prog X.w) X.A (f v u) (EP X pins σ Q) X.xe s
noncomputable def UnR(X:Cx)(f:Value->Sem Value)(r:V->Hp->VK->Prop):Prop:=
 ∀(pins:List (Addr×Obj)) (s:Shared) (σ:St) (H:Hp) (x:V) (v:Value) (Q:VK),Inv X pins σ H s->RelV x v->r x H Q->
  wpAny (model X.prog X.w) X.A (f v) (EP X pins σ Q) X.xe s
noncomputable def qau(X:Cx)(f:Value)(r:List V->Hp->VK->Prop):Prop:=
 ∀(pins:List (Addr×Obj)) (s:Shared) (σ:St) (H:Hp) (xs:List V) (us:List Value) (Q:VK),Inv X pins σ H s->qat xs us->r xs H Q->
  wpAny (model X.prog X.w) X.A (call f us) (EP X pins σ Q) X.xe s
noncomputable def qx4(X:Cx)(r:V->Hp->(Bool->Hp->Prop)->Prop):Prop:=
 ∀(pins:List (Addr×Obj)) (s:Shared) (σ:St) (H:Hp) (x:V) (v:Value) (Q:Bool->Hp->Prop),Inv X pins σ H s->RelV x v->r x H Q->
  wpAny (model X.prog X.w) X.A (truthy v) (TP X pins σ Q) X.xe s
noncomputable def tOp(r:R2)(ta tb:TE):TE:=λσ H Q=>ta σ H λx H1=>tb σ H1 λy H2=>r x y H2 Q
noncomputable def tUn(r:V->Hp->VK->Prop)(ta:TE):TE:=λσ H Q=>ta σ H λx H1=>r x H1 Q
noncomputable def rI(C:Int->Int->Prop)(g:Int->Int->V):R2:=λx y H Q=> ∃i j,x= .int i/\y= .int j/\C i j/\Q (g i j) H
noncomputable def rI0(g:Int->Int->V):R2:=λx y H Q=> ∃i j,x= .int i/\y= .int j/\Q (g i j) H
noncomputable def rU(g:Int->V):V->Hp->VK->Prop:=λx H Q=> ∃i,x= .int i/\Q (g i) H
section
variable {X:Cx}{a b c:Expr}{ta tb tc:TE}{pos:Pos}
theorem qv0 (ha:PE X a ta) (hb:PE X b tb) {pins:List (Addr×Obj)} {s:Shared} {σ:St} {H:Hp} {R:V->V->Hp->Prop} (I:Inv X pins σ H s) (h:ta σ H λx H1=>tb σ H1 λy H2=>R x y H2) {Q:Value->Shared->Prop} {f:Value->Value->Sem Value} (hf: ∀v u s2 x y H2,Inv X pins σ H2 s2->RelV x v->RelV y u->R x y H2->wpAny (model X.prog X.w) X.A (f v u) Q X.xe s2):
  wpAny (model X.prog X.w) X.A (eval a X.env) (λv ae=>wpAny (model X.prog X.w) X.A (eval b X.env) (λu aM=>wpAny (model X.prog X.w) X.A (f v u) Q X.xe aM) X.xe ae) X.xe s:=by refine thn (ha pins s σ H _ I h) λv s1 ⟨x,H1,I1,r1,q1⟩=> ?_;refine thn (hb pins s1 σ H1 _ I1 q1) λu s2 ⟨y,H2,I2,r2,q2⟩=> ?_;exact hf v u s2 x y H2 I2 r1 r2 q2
theorem quy{op:Operator}{r:R2}(ho:OpR X (binaryOp op) r)(ha:PE X a ta)(hb:PE X b tb):PE X (.BinOp a op b pos) (tOp r ta tb):=by intro pins s σ H Q I h;exact wpAny_BinOp (qv0 ha hb I h λv u s2 x y H2 I2 rx ry q=>ho pins s2 σ H2 x y v u Q I2 rx ry q)
theorem quw(ho:UnR X (unaryOp op) r)(ha:PE X a ta):PE X (.UnaryOp op a pos) (tUn r ta):=by intro pins s σ H Q I h;exact UnaryOp_ (thn (ha pins s σ H _ I h) λv s1 ⟨x,H1,I1,r1,q1⟩=>ho pins s1 σ H1 x v Q I1 r1 q1)
theorem opI {f:Value->Value->Sem Value} {C:Int->Int->Prop} {g:Int->Int->Int} (rule: ∀(i j:Int) (t u:Tok) (s:Shared) (Q:Value->Shared->Prop) (E:Value->Shared->Prop),C i j->Q (.int (g i j) s.toks) { s with toks:=s.toks+1 }->wpAny (model X.prog X.w) X.A (f (.int i t) (.int j u)) Q E s):
  OpR X f (rI C λi j=>.int (g i j)):=by intro pins s σ H x y v u Q I rx ry h;obtain⟨i,j,rfl,rfl,hc,q⟩:=h;obtain⟨t,rfl⟩:=rx;obtain⟨t',rfl⟩:=ry;exact rule i j t t' s _ _ hc ⟨.int (g i j),H,I.tok _,⟨_,rfl⟩,q⟩
theorem qwv {f:Value->Value->Sem Value} {g:Int->Int->Int} (rule: ∀(i j:Int) (t u:Tok) (s:Shared) (Q:Value->Shared->Prop) (E:Value->Shared->Prop),Q (.int (g i j) s.toks) { s with toks:=s.toks+1 }->wpAny (model X.prog X.w) X.A (f (.int i t) (.int j u)) Q E s):
  OpR X f (rI0 λi j=>.int (g i j)):=by intro pins s σ H x y v u Q I rx ry h;obtain⟨i,j,rfl,rfl,q⟩:=h;obtain⟨t,rfl⟩:=rx;obtain⟨t',rfl⟩:=ry;exact rule i j t t' s _ _ ⟨.int (g i j),H,I.tok _,⟨_,rfl⟩,q⟩
theorem qtE {f:Value->Value->Sem Value} {g:Int->Int->Bool} (rule: ∀(i j:Int) (t u:Tok) (s:Shared) (Q:Value->Shared->Prop) (E:Value->Shared->Prop),Q (.bool (g i j)) s->wpAny (model X.prog X.w) X.A (f (.int i t) (.int j u)) Q E s):
  OpR X f (rI0 λi j=>.bl (g i j)):=by intro pins s σ H x y v u Q I rx ry h;obtain⟨i,j,rfl,rfl,q⟩:=h;obtain⟨t,rfl⟩:=rx;obtain⟨t',rfl⟩:=ry;exact rule i j t t' s _ _ ⟨.bl (g i j),H,I,rfl,q⟩
noncomputable def qwZ(i j:Int):Prop:=0<j/\j<1073741824
noncomputable def qtM(i j:Int):Prop:=(-(2 ^ 64)<i/\i<2 ^ 64)\/(-(2 ^ 64)<j/\j<2 ^ 64)
theorem qtM.ok(h:qtM i j):IntMulOk i j:=by
 rcases h with⟨h1,h2⟩|⟨h1,h2⟩
 ·exact .of_left (intBits_le_64 h1 h2)
 ·exact .of_right (intBits_le_64 h1 h2)
theorem qrL:OpR X (binaryOp .Add) (rI0 λi j=>.int (i+j)):=qwv λ_ _ _ _ _ _ _ q=>add_int q
theorem qrA:OpR X (binaryOp .Sub) (rI0 λi j=>.int (i - j)):=qwv λ_ _ _ _ _ _ _ q=>sub_int q
theorem qrD:OpR X (binaryOp .Mult) (rI qtM λi j=>.int (i*j)):=opI λ_ _ _ _ _ _ _ hc q=>mul_int q hc.ok
theorem qpa:OpR X (binaryOp .FloorDiv) (rI qwZ λi j=>.int (i / j)):=opI λi j _ _ _ _ _ hc q=>by have h1:(0:Int)<j:=hc.1;have h2:j<1073741824:=hc.2;exact floordiv_int (by omega) (by rw[Int.fdiv_eq_ediv_of_nonneg i (by omega)];exact q) (.inl (PyProof.noPylong_small (by omega)))
theorem qrE:OpR X (binaryOp .Mod) (rI (λ_ j=>0<j) λi j=>.int (i % j)):=opI λi j _ _ _ _ _ hc q=>by have h1:(0:Int)<j:=hc;exact mod_int' (by omega) (by rw[Int.fmod_eq_emod_of_nonneg i (by omega)];exact q)
theorem unI {f:Value->Sem Value} {g:Int->Int} (rule: ∀(i:Int) (t:Tok) (s:Shared) (Q:Value->Shared->Prop) (E:Value->Shared->Prop),Q (.int (g i) s.toks) { s with toks:=s.toks+1 }->wpAny (model X.prog X.w) X.A (f (.int i t)) Q E s):
  UnR X f (rU λi=>.int (g i)):=by intro pins s σ H x v Q I rx h;obtain⟨i,rfl,q⟩:=h;obtain⟨t,rfl⟩:=rx;exact rule i t s _ _ ⟨.int (g i),H,I.tok _,⟨_,rfl⟩,q⟩
theorem qqC:UnR X (unaryOp .USub) (rU λi=>.int (-i)):=unI λ_ _ _ _ _ q=>neg_int q
end
section
variable {X:Cx}{a b c:Expr}{ta tb tc:TE}{pos:Pos}
theorem qkh(I:Inv X pins σ H s)(q:Q (.bl k) H)(e:k=k'):EP X pins σ Q (.bool k') s:=by subst e;exact⟨.bl k,H,I,rfl,q⟩
theorem quG:OpR X (compareOp .Lt) (rI0 λi j=>.bl (decide (i<j))):=qtE λ_ _ _ _ _ _ _ q=>lt_int q
theorem quH:OpR X (compareOp .LtE) (rI0 λi j=>.bl (decide (i<=j))):=qtE λ_ _ _ _ _ _ _ q=>le_int q
theorem quI:OpR X (compareOp .Gt) (rI0 λi j=>.bl (decide (j<i))):=qtE λ_ _ _ _ _ _ _ q=>gt_int q
theorem quJ:OpR X (compareOp .GtE) (rI0 λi j=>.bl (decide (j<=i))):=qtE λ_ _ _ _ _ _ _ q=>ge_int q
theorem qjz:OpR X (compareOp .Lt) (λx y H Q=> ∃i j,x= .str i/\y= .str j/\Q (.bl (decide (i.cps.toList<j.cps.toList))) H):=by intro pins s σ H x y v u Q I rx ry h;obtain⟨i,j,rfl,rfl,q⟩:=h;obtain⟨t,rfl⟩:=rx;obtain⟨t',rfl⟩:=ry;exact lt_str (qkh I q rfl)
theorem qrH:OpR X (compareOp .Is) (λx y H Q=>y= .non/\Q (.bl (decide (x= .non))) H):=by
 intro pins s σ H x y v u Q I rx ry h;obtain⟨rfl,q⟩:=h;cases ry;refine is_none_gen (qkh I q ?_)
 cases x<;>first
  |(cases rx;rfl)
  |(obtain⟨t,rfl⟩:=rx;rfl)
theorem qo7:OpR X (compareOp .IsNot) (λx y H Q=>y= .non/\Q (.bl (!decide (x= .non))) H):=by
 intro pins s σ H x y v u Q I rx ry h;obtain⟨rfl,q⟩:=h;cases ry;refine isnot_none_gen (qkh I q ?_)
 cases x<;>first
  |(cases rx;rfl)
  |(obtain⟨t,rfl⟩:=rx;rfl)
theorem OpR.or(h:OpR X f r)(h':OpR X f r'):OpR X f (λx y H Q=>r x y H Q\/r' x y H Q):=by
 intro pins s σ H x y v u Q I rx ry q
 rcases q with q|q
 ·exact h pins s σ H x y v u Q I rx ry q
 ·exact h' pins s σ H x y v u Q I rx ry q
theorem qgh{op:CmpOp}{r:R2}(ho:OpR X (compareOp op) r)(ha:PE X a ta)(hb:PE X b tb)(hm:behindInMarks op b=false):PE X (.Compare a [op] [b] pos) (tOp r ta tb):=by intro pins s σ H Q I h;exact wpAny_Compare1 (qv0 ha hb I h λv u s2 x y H2 I2 rx ry q=>ho pins s2 σ H2 x y v u Q I2 rx ry q) hm
noncomputable def qqJ(t:TE):TT:=λσ H Q=>t σ H λx H'=> ∃k,x= .bl k/\Q k H'
theorem qge(ho:OpR X (compareOp op) r)(ha:PE X a ta)(hb:PE X b tb)(hm:behindInMarks op b=false):PT X (.Compare a [op] [b] pos) (qqJ (tOp r ta tb)):=by
 intro pins s σ H Q I h;refine wpAny_isTrue_Compare1 (thn (ha pins s σ H _ I h) λv s1 ⟨x,H1,I1,r1,q1⟩=>thn (hb pins s1 σ H1 _ I1 q1) λu s2 ⟨y,H2,I2,r2,q2⟩=>
  thn (ho pins s2 σ H2 x y v u _ I2 r1 r2 q2) λc s3 ⟨z,H3,I3,r3,k,e,q3⟩=> ?_) hm
 subst e;cases r3;exact Vd ⟨H3,I3,q3⟩
noncomputable def qi7(r r':R2)(ta tb tc:TE):TE:=λσ H Q=>ta σ H λx H1=>tb σ H1 λy H2=>r x y H2 λz H3=> ∃k,z= .bl k/\
 (if k=true then tc σ H3 λw' H4=>r' y w' H4 Q else Q (.bl false) H3)
theorem qlV(ho:OpR X (compareOp op) r)(aX:OpR X (compareOp op') r')(ha:PE X a ta)(hb:PE X b tb)(hc:PE X c tc)(hm:lastMarks [op,op'] [b,c]=false:=by with_unfolding_all rfl):PE X (.Compare a [op,op'] [b,c] pos) (qi7 r r' ta tb tc):=by
 intro pins s σ H Q I h;refine Compare_chain (thn (ha pins s σ H _ I h) λv s1 ⟨x,H1,I1,r1,q1⟩=>chain_link (thn (hb pins s1 σ H1 _ I1 q1) λu s2 ⟨y,H2,I2,r2,q2⟩=>
  thn (ho pins s2 σ H2 x y v u _ I2 r1 r2 q2) λd s3 ⟨z,H3,I3,r3,k,e,q3⟩=> ?_)) hm
 subst e;cases r3;refine Vd ?_;cases k with
 |false=>exact ite_ff ⟨.bl false,H3,I3,rfl,q3⟩
 |true=>exact ite_tt (chain_last (thn (hc pins s3 σ H3 _ I3 q3) λw' s4 ⟨z',H4,I4,r4,q4⟩=>aX pins s4 σ H4 y z' u w' Q I4 r2 r4 q4))
theorem qlH(ho:OpR X (compareOp op) r)(aX:OpR X (compareOp op') r')(ha:PE X a ta)(hb:PE X b tb)(hc:PE X c tc)(hm:lastMarks [op,op'] [b,c]=false:=by with_unfolding_all rfl):PT X (.Compare a [op,op'] [b,c] pos) (qqJ (qi7 r r' ta tb tc)):=by
 intro pins s σ H Q I h;refine isTrue_chain (thn (ha pins s σ H _ I h) λv s1 ⟨x,H1,I1,r1,q1⟩=>test_link (thn (hb pins s1 σ H1 _ I1 q1) λu s2 ⟨y,H2,I2,r2,q2⟩=>
  thn (ho pins s2 σ H2 x y v u _ I2 r1 r2 q2) λd s3 ⟨z,H3,I3,r3,k,e,q3⟩=> ?_)) hm
 subst e;cases r3;refine Vd ?_;cases k with
 |false=>obtain⟨k',e',q'⟩:=q3;cases e';exact ite_ff ⟨H3,I3,q'⟩
 |true=>refine ite_tt (test_last (thn (hc pins s3 σ H3 _ I3 q3) λw' s4 ⟨z',H4,I4,r4,q4⟩=>thn (aX pins s4 σ H4 y z' u w' _ I4 r2 r4 q4) λd' s5 ⟨z2,H5,I5,r5,k2,e2,q5⟩=> ?_));subst e2;cases r5;exact Vd ⟨H5,I5,q5⟩
noncomputable def qx3(K:W.Frag)(x:V)(H:Hp)(k:Bool):Prop:=
 match x with
 |.non=>k=false
 |.bl b=>k=b
 |.int i=>k=(i != 0)
 |.str y=>y.length<=sizeLine/\k=((y.length:Int) != 0)
 |.byt y=>y.size<=sizeLine/\k=((y.size:Int) != 0)
 |.ref p=>(∃xs,SqL K H p xs/\k= !xs.isEmpty)\/(∃xs,SqT K H p xs/\k= !xs.isEmpty)\/∃kvs,H p=some (.dK kvs)/\k= !kvs.isEmpty
 |_=>False
theorem qin(r:KV kvs vs):(!vs.isEmpty)= !kvs.isEmpty:=by cases r<;>rfl
theorem qdM(r:qat xs its):(!its.toArray.isEmpty)= !xs.isEmpty:=by cases r<;>simp
theorem qdH:(sizeLine:Nat)<2 ^ 63:=by rw[sizeLine_eq];decide
theorem qv8:qx4 X (λx H Q=> ∃k,qx3 X.K x H k/\Q k H):=by
 intro pins s σ H x v Q I rx h;obtain⟨k,e,q⟩:=h;have hl:=qdH;have hs:sizeLine=16777216:=sizeLine_eq;cases x with
 |non=>cases rx;have e':k=false:=e;subst e';exact truthy_none ⟨H,I,q⟩
 |bl b=>cases rx;have e':k=b:=e;subst e';exact Vd ⟨H,I,q⟩
 |int i=>obtain⟨t,rfl⟩:=rx;have e':k=(i != 0):=e;subst e';exact P.truthy_int ⟨H,I,q⟩
 |str y=>obtain⟨t,rfl⟩:=rx;obtain⟨hy,e'⟩:y.length<=sizeLine/\k=((y.length:Int) != 0):=e;subst e';exact P.truthy_str (by omega) ⟨H,I.tok _,q⟩
 |byt y=>obtain⟨t,rfl⟩:=rx;obtain⟨hy,e'⟩:y.size<=sizeLine/\k=((y.size:Int) != 0):=e;subst e';exact W.truthy_bytes (by omega) ⟨H,I.tok _,q⟩
 |ref p=>
  cases rx;have e':(∃xs,SqL X.K H p xs/\k= !xs.isEmpty)\/(∃xs,SqT X.K H p xs/\k= !xs.isEmpty)\/∃kvs,H p=some (.dK kvs)/\k= !kvs.isEmpty:=e
  rcases e' with⟨xs,hx,e'⟩|⟨xs,hx,e'⟩|⟨kvs,hx,e'⟩
  ·subst e';obtain⟨its,r,pl,hz⟩:=I.list hx;have hlen:=r.length;exact wpAny_truthy_list pl.isList (by simp only[List.size_toArray];omega) ⟨H,I.tok _,by rw[qdM r];exact q⟩
  ·subst e';obtain⟨its,r,pl,hz⟩:=I.tuple hx;have hlen:=r.length;exact truthy_tuple pl (by simp only[List.size_toArray];omega) ⟨H,I.tok _,by rw[qdM r];exact q⟩
  ·subst e';obtain⟨hz,hS,vs,r,m⟩:kvs.length<=sizeLine/\(p==sysModules)=false/\∃vs,KV kvs vs/\s.heap.DictOf (qaq X.prog X.w) p vs:=I.hok p _ hx;have hlen:kvs.length=vs.length:=Paired.length r;exact wpAny_truthy_dict hS m (by omega) ⟨H,I.tok _,by rw[qin r];exact q⟩
 |_=>exact(show False from e).elim
theorem qh6:OpR X (binaryOp .Add) (λx y H Q=> ∃i j,x= .str i/\y= .str j/\i.length+j.length<=sizeLine/\Q (.str (i++j)) H):=by intro pins s σ H x y v u Q I rx ry h;obtain⟨i,j,rfl,rfl,hz,q⟩:=h;obtain⟨t,rfl⟩:=rx;obtain⟨t',rfl⟩:=ry;exact add_str (λt' tk=>⟨.str (i++j),H,I.tok _,⟨_,rfl⟩,q⟩) hz
theorem qdu(r:qat [x] us): ∃u,us=[u]/\RelV x u:=by
 cases r with
 |cons r1 r2=>cases r2;exact⟨_,rfl,r1⟩
theorem qhR(r:qat [x,y] us): ∃u w',us=[u,w']/\RelV x u/\RelV y w':=by
 cases r with
 |cons r1 r2=>
  cases r2 with
  |cons r3 r4=>cases r4;exact⟨_,_,rfl,r1,r3⟩
theorem qkS(hc:X.calm=true):qau X (.builtin "max") (λxs H Q=> ∃i j,xs=[.int i,.int j]/\Q (.int (if j>i then j else i)) H):=by
 intro pins s σ H xs us Q I r h;obtain⟨i,j,rfl,q⟩:=h;obtain⟨u,w',rfl,⟨t,rfl⟩,⟨t',rfl⟩⟩:=qhR r;refine max_two_ints (I.ok.hd hc) λh' tk k=>⟨_,H,I.kept k,?_,q⟩
 by_cases hj:j>i
 ·rw[if_pos hj,if_pos hj];exact⟨_,rfl⟩
 ·rw[if_neg hj,if_neg hj];exact⟨_,rfl⟩
theorem qkQ(hc:X.calm=true):qau X (.builtin "min") (λxs H Q=> ∃i j,xs=[.int i,.int j]/\Q (.int (if j<i then j else i)) H):=by
 intro pins s σ H xs us Q I r h;obtain⟨i,j,rfl,q⟩:=h;obtain⟨u,w',rfl,⟨t,rfl⟩,⟨t',rfl⟩⟩:=qhR r;refine min_two_ints (I.ok.hd hc) λh' tk k=>⟨_,H,I.kept k,?_,q⟩
 by_cases hj:j<i
 ·rw[if_pos hj,if_pos hj];exact⟨_,rfl⟩
 ·rw[if_neg hj,if_neg hj];exact⟨_,rfl⟩
noncomputable def qx7(K:W.Frag)(x:V)(H:Hp)(n:Nat):Prop:=
 match x with
 |.str y=>y.length<=sizeLine/\n=y.length
 |.byt y=>y.size<=sizeLine/\n=y.size
 |.ref p=>(∃xs,SqL K H p xs/\n=xs.length)\/∃xs,SqT K H p xs/\n=xs.length
 |_=>False
theorem qmX:qau X (.builtin "len") (λxs H Q=> ∃x n,xs=[x]/\qx7 X.K x H n/\Q (.int n) H):=by
 intro pins s σ H xs us Q I r h;obtain⟨x,n,rfl,e,q⟩:=h;obtain⟨u,rfl,rx⟩:=qdu r;have hl:=qdH;have hs:sizeLine=16777216:=sizeLine_eq;cases x with
 |str y=>obtain⟨t,rfl⟩:=rx;obtain⟨hy,e'⟩:y.length<=sizeLine/\n=y.length:=e;subst e';exact len_str (by omega) ⟨.int _,H,I.tok _,⟨_,rfl⟩,q⟩
 |byt y=>obtain⟨t,rfl⟩:=rx;obtain⟨hy,e'⟩:y.size<=sizeLine/\n=y.size:=e;subst e';exact W.len_bytes (by omega) ⟨.int _,H,I.tok _,⟨_,rfl⟩,q⟩
 |ref p=>
  cases rx;have e':(∃xs,SqL X.K H p xs/\n=xs.length)\/∃xs,SqT X.K H p xs/\n=xs.length:=e
  rcases e' with⟨xs,hx,e'⟩|⟨xs,hx,e'⟩
  ·subst e';obtain⟨its,r',pl,hz⟩:=I.list hx;have hlen:=r'.length;exact Calls.call_len_list pl.isList (by simp only[List.size_toArray];omega) ⟨.int xs.length,H,I.tok _,⟨_,by simp only[List.size_toArray];rw[hlen]⟩,q⟩
  ·subst e';obtain⟨its,r',pl,hz⟩:=I.tuple hx;have hlen:=r'.length;exact len_tuple pl (by simp only[List.size_toArray];omega) ⟨.int xs.length,H,I.tok _,⟨_,by simp only[List.size_toArray];rw[hlen]⟩,q⟩
 |_=>exact(show False from e).elim
end
structure qqo(h:Heap)(x dx C:Addr)(mA:Str->Option Value):Prop where
 obj:h.get? x=some (W.instObj C dx)
 ns:h.Ns1 dx mA
 ne:dx≠x
theorem qjK{h:Heap}(n:h.Ns1 dx mA): ∃od,h.get? dx=some od/\∀name,W.lookIn name od=some (mA name):=by
 obtain⟨o,es,ep,ho,hd,hk,_,hm⟩:=n;refine⟨o,ho,λname=> ?_⟩;have e:=hm name;unfold nsFind findBy at e;rw[<-Array.find?_toList] at e;unfold W.lookIn;rw[hd];dsimp only;split
 ·rename_i y q;rw[q] at e;exact congrArg some e
 ·rename_i q;rw[q] at e;have a:es.toList.any (·.refKey)=false:=by rw[List.any_eq_false];intro y hy;obtain⟨z,t,gD⟩:=hk y (Array.mem_toList_iff.mp hy);simp[DictEntry.refKey,gD]
  have a': ¬es.toList.any (·.refKey)=true:=by rw[a];exact Vr
  rw[if_neg a'];exact congrArg some e
theorem qqo.look(I:qqo h x dx C mA): ∃od,W.InstAt h x (W.instObj C dx) C (some od)/\∀name,W.lookIn name od=some (mA name):=
 let ⟨od,ho,hl⟩:=qjK I.ns
 ⟨od,⟨I.obj,rfl,rfl,ho⟩,hl⟩
section
theorem qpC {s:Shared} {K:W.Frag} {expr:Bool} (X:K.In s.heap) (I:qqo s.heap x dx C mA) (hg:W.plainGet K C name=true) (hh:W.hasDictIn K C=true) (ha:W.findIn K (.ref C) name=some none) (hv:mA name=some v) (aW:W.handedIn v=true) (h:Q v { s with toks:=s.toks+1 }):
  wpAny (model prog w) A (getAttr (.ref x) name expr) Q E s:=by obtain⟨od,J,hl⟩:=I.look;exact W.get_value X J (W.plainGet_of hg).1 (W.findObj_own hh ha rfl (by rw[hl,hv])) aW h
theorem qmn {s:Shared} {K:W.Frag} (X:K.In s.heap) (I:qqo s.heap x dx C mA) (hg:W.plainGet K C name=true) (hf:W.findIn K (.ref C) name=some (some (.ref f))) (ht:W.isFn K (.ref f)=true) (hv:mA name=none) (h:Q (.ref f,[.ref x]) s):
  wpAny (model prog w) A (getMethod (.ref x) name pl) Q E s:=by obtain⟨od,J,hl⟩:=I.look;exact W.method_fn X J (W.plainGet_of hg).1 (W.plainGet_of hg).2 hf (beq_iff_eq.mp ht) (by show(W.lookIn name od).map (·.isSome)=some false;rw[hl,hv];rfl) h
theorem qox {s:Shared} {K:W.Frag} {ns:List Str} (X:K.In s.heap) (I:qqo s.heap x dx C mA) (hs:W.findIn K (.ref C) "__setattr__" =some (some (.builtin "object.__setattr__"))) (hp:W.plainOver K C=true) (ht:W.takerIn K C name=some none) (hh:W.hasDictIn K C=true) (hw:PySem.Within mA ns) (hsz:ns.length<=sizeLine) (h: ∀h',qqo h' x dx C (λy=>if y=name then some v else mA y)->Heap.SameBut dx s.heap h'->Q () { s with heap:=h',toks:=s.toks+2 }):
  wpAny (model prog w) A (setAttr (.ref x) name v) Q E s:=by obtain⟨od,J,hl⟩:=I.look;refine W.set_plain X J hs (W.osa_open (s:={ s with toks:=s.toks+1 }) (r:=none) X J hp ht λb=> ?_);obtain⟨cd,hc,c6⟩:=W.any_some hh;have hx:s.heap.get? x=some ⟨.ref C,some dx,.plain, #[]⟩:=I.obj;refine Va (Vb (Va (Va (wpAny_loadPart hx (Va (W.Looks.here (s:={ s with toks:=s.toks+1 }) (W.looks_clsIn X hc) ?_))))));rw[c6];refine Vb (a:=some dx) (Va (Vb (Va ?_)));refine wpAny_nsSet1 (s:={ s with toks:=s.toks+1 }) I.ns λh' eJ bG=> ?_;obtain⟨oD,esD,epD,fA,gK,hcD⟩:=eJ.count (PySem.Within.cons name v hw);refine Va (wpAny_lookBehind fA (by rw[gK];exact pastItsLine_dict (Vq hcD (by rw[List.length_cons];omega))) ?_);exact Vb (h _ ⟨(bG.2 _ (Ne.symm I.ne)).trans I.obj,eJ,I.ne⟩ bG)
theorem ql6 {A:Around} {s:Shared} {K:W.Frag} (X:K.In s.heap) (hm:W.makesIn K C=true) (hi:W.findIn K (.ref C) "__init__" =some (some (.ref f))) (hf:W.typeIn K (.ref f)=some (.type "function")) (h:codeAny (model prog w) (A.under (.builtin "type.__call__" ⟨.ref C::vs,kw⟩)) (.call (.ref f) ⟨.ref (s.heap.objs.size+1)::vs,kw⟩) (W.InitBack (s.heap.objs.size+1) R)
   { s with heap:=(s.heap.push W.emptyDict).push (W.instObj C s.heap.objs.size) }):
  codeAny (model prog w) A (.call (.ref C) ⟨vs,kw⟩) R s:=by obtain⟨hh,g,d,t,os⟩:=s;exact W.make_core (W.makes_of X hm) (W.looks_findIn X hi) (λself=>W.bind_fn X self hf) (.inl rfl) h
end
noncomputable def qem(f:Str)(v:V):List (Str×V)->List (Str×V)
 |[]=>[(f,v)]
 |(g,x)::r=>if g=f then(g,v)::r else(g,x)::qem f v r
theorem qc4(f g:Str)(v:V): ∀fs:List (Str×V),(qem f v fs).lookup g=if g=f then some v else fs.lookup g
 |[]=>by
  show List.lookup g [(f,v)]=_;by_cases h:g=f
  ·have hb:(g==f)=true:=beq_iff_eq.mpr h;simp only[List.lookup,hb,if_pos h]
  ·have hb:(g==f)=false:=beq_eq_false_iff_ne.mpr h;simp only[List.lookup,hb,if_neg h]
 |(k,x)::r=>by
  have ih:=qc4 f g v r;rw[show qem f v ((k,x)::r)=(if k=f then(k,v)::r else(k,x)::qem f v r) from rfl];by_cases hk:k=f
  ·rw[if_pos hk];by_cases h:g=k
   ·have hb:(g==k)=true:=beq_iff_eq.mpr h;simp only[List.lookup,hb,if_pos (h.trans hk)]
   ·have hb:(g==k)=false:=beq_eq_false_iff_ne.mpr h;simp only[List.lookup,hb,if_neg (λe:g=f=>h (e.trans hk.symm))]
  ·rw[if_neg hk];by_cases h:g=k
   ·have hb:(g==k)=true:=beq_iff_eq.mpr h;simp only[List.lookup,hb,if_neg (λe:g=f=>hk (h.symm.trans e))]
   ·have hb:(g==k)=false:=beq_eq_false_iff_ne.mpr h;simp only[List.lookup,hb];exact ih
theorem qc7(f:Str)(v:V): ∀fs:List (Str×V),f∈(qem f v fs).map (·.1)/\∀g,g∈fs.map (·.1)->g∈(qem f v fs).map (·.1)
 |[]=>⟨by simp[qem],λg h=>by simp at h⟩
 |(k,x)::r=>by
  obtain⟨i1,i2⟩:=qc7 f v r;rw[show qem f v ((k,x)::r)=(if k=f then(k,v)::r else(k,x)::qem f v r) from rfl];by_cases hk:k=f
  ·rw[if_pos hk];subst hk;exact⟨by simp,λg h=>by simpa using h⟩
  ·rw[if_neg hk];refine⟨?_,λg h=> ?_⟩
   ·rw[List.map_cons];exact Vl _ i1
   ·rw[List.map_cons] at h⊢
    rcases List.mem_cons.mp h with e|e
    ·exact List.mem_cons.mpr (.inl e)
    ·exact Vl _ (i2 g e)
theorem qc6(f:Str)(v:V): ∀fs:List (Str×V),(qem f v fs).length<=fs.length+1
 |[]=>by simp[qem]
 |(k,x)::r=>by
  have ih:=qc6 f v r;rw[show qem f v ((k,x)::r)=(if k=f then(k,v)::r else(k,x)::qem f v r) from rfl];by_cases hk:k=f
  ·rw[if_pos hk,List.length_cons,List.length_cons];omega
  ·rw[if_neg hk,List.length_cons,List.length_cons];omega
theorem qeO.some_of(r:qeO (some v) o): ∃u,o=some u/\RelV v u:=by
 cases o with
 |none=>exact(show False from r).elim
 |some u=>exact⟨u,rfl,r⟩
theorem qeO.none_of(r:qeO none o):o=none:=by
 cases o with
 |none=>rfl
 |some u=>exact(show False from r).elim
theorem qj1(r:RelV v u):W.handedIn u=true:=by
 cases v with
 |non=>cases(show u=Value.none from r);rfl
 |bl b=>cases(show u=Value.bool b from r);rfl
 |int i=>obtain⟨t,e⟩:=(show ∃t,u=Value.int i t from r);cases e;rfl
 |str x=>obtain⟨t,e⟩:=(show ∃t,u=Value.str x t from r);cases e;rfl
 |byt b=>obtain⟨t,e⟩:=(show ∃t,u=Value.bytes b t from r);cases e;rfl
 |flt b=>obtain⟨t,e⟩:=(show ∃t,u=Value.float b t from r);cases e;rfl
 |ref a=>cases(show u=Value.ref a from r);rfl
 |ty n=>cases(show u=Value.type n from r);rfl
section
theorem qew(hok:HOk P w H h)(e:H a=some (.ins C dx fs)): ∃mA,qqo h a dx C mA/\(∀f,qeO (fs.lookup f) (mA f))/\PySem.Within mA (fs.map (·.1))/\fs.length<=1000/\H dx=some (.own a):=by
 obtain⟨d,z,ne,ob,mA,n,r,q⟩:=(show qaC P w H h a (.ins C dx fs) from hok a _ e)
 exact⟨mA,⟨ob,n,ne⟩,r,q,z,d⟩
end
structure Cls(K:W.Frag)(C:Addr):Prop where
 pg:W.plainGet K C Str.empty=true
 hd:W.hasDictIn K C=true
 po:W.plainOver K C=true
 sa:W.findIn K (.ref C) "__setattr__" =some (some (.builtin "object.__setattr__"))
theorem Cls.get{K:W.Frag}{C:Addr}(c:Cls K C)(f:Str):W.plainGet K C f=true:=c.pg
noncomputable def qbb(K:W.Frag)(C:Addr)(f:Str):Prop:=W.findIn K (.ref C) f=some none
theorem qbb.taker{K:W.Frag}{C:Addr}{f:Str}(n:qbb K C f):W.takerIn K C f=some none:=by unfold W.takerIn;rw[show W.findIn K (.ref C) f=some none from n];rfl
structure Con(K:W.Frag)(C:Addr)(f:Str)(v:V)(u:Value):Prop where
 at_:W.findIn K (.ref C) f=some (some u)
 rel:RelV v u
 get:W.specialIn K u "__get__" =some none
 cp:W.copiedNames.contains f=false
structure qts(K:W.Frag)(C:Addr)(m:Str)(f:Addr):Prop where
 at_:W.findIn K (.ref C) m=some (some (.ref f))
 fn:W.isFn K (.ref f)=true
 kp:W.keepIn K (.ref f)=true
section
theorem qio(I:Inv X pins σ H s)(e:H a=some (.ins C dx fs))(c:Cls X.K C)(n:qbb X.K C f)(l:fs.lookup f=some v)(h: ∀u s',Inv X pins σ H s'->RelV v u->Q u s'):wpAny (model X.prog X.w) A (getAttr (.ref a) f b) Q E s:=by obtain⟨mA,O,r,_,_,_⟩:=qew I.hok e;obtain⟨u,hu,ru⟩:=qeO.some_of (v:=v) (o:=mA f) (by rw[<-l];exact r f);exact qpC I.kIn O (c.get f) c.hd n hu (qj1 ru) (h u _ (I.tok _) ru)
theorem qdN(I:Inv X pins σ H s)(e:H a=some (.ins C dx fs))(c:Cls X.K C)(k:qts X.K C m g)(l:fs.lookup m=none)(h:Q (.ref g,[.ref a]) s):wpAny (model X.prog X.w) A (getMethod (.ref a) m pl) Q E s:=by obtain⟨mA,O,r,_,_,_⟩:=qew I.hok e;have hn:mA m=none:=qeO.none_of (by rw[<-l];exact r m);exact qmn I.kIn O (c.get m) k.at_ k.fn hn h
theorem qh2(I:Inv X pins σ H s)(e:H a=some (.ins C dx fs))(c:Cls X.K C)(n:qbb X.K C f)(hl:fs.length<1000)(ry:RelV y u)(h: ∀s',Inv X pins σ (upd H a (.ins C dx (qem f y fs))) s'->Q () s'):wpAny (model X.prog X.w) A (setAttr (.ref a) f u) Q E s:=by
 obtain⟨mA,O,r,wi,_,ho⟩:=qew I.hok e;have hz:(fs.map (·.1)).length<=sizeLine:=by rw[List.length_map,sizeLine_eq];omega
 refine qox I.kIn O c.sa c.po n.taker c.hd wi hz λh' O' sb=>h _ ?_;have hd: ∃o,h'.get? dx=some o:=let ⟨o,_,_,e',_⟩:=O'.ns;⟨o,e'⟩
 refine I.write (x:=a) (e:=dx) (by rw[e];exact True.intro) (.inr ho) (λb q hb z=>(sb.2 b hb).trans z) hd ?_;refine⟨by rw[qad O.ne];exact ho,?_,O.ne,O'.obj,_,O'.ns,λg=> ?_,λg hg=> ?_⟩
 ·have:=qc6 f y fs;omega
 ·show qeO ((qem f y fs).lookup g) (if g=f then some u else mA g);rw[qc4];by_cases q:g=f
  ·rw[if_pos q,if_pos q];exact ry
  ·rw[if_neg q,if_neg q];exact r g
 ·by_cases q:g=f
  ·rw[q];exact(qc7 f y fs).1
  ·refine(qc7 f y fs).2 g (wi g λz=>hg ?_);show(if g=f then some u else mA g)=none;rw[if_neg q];exact z
theorem Inv.made (I:Inv X pins σ H s):Inv X pins σ (upd (upd H s.heap.objs.size (.own (s.heap.objs.size+1))) (s.heap.objs.size+1) (.ins C s.heap.objs.size []))
  { s with heap:=(s.heap.push W.emptyDict).push (W.instObj C s.heap.objs.size) }:=by
 have e1:(s.heap.push W.emptyDict).get? s.heap.objs.size=some W.emptyDict:=Vh s.heap rfl;have e2:((s.heap.push W.emptyDict).push (W.instObj C s.heap.objs.size)).get? (s.heap.objs.size+1)=some (W.instObj C s.heap.objs.size):=by
  have:=Vh (s.heap.push W.emptyDict) (o:=W.instObj C s.heap.objs.size) rfl
  rwa [Heap.size_push] at this
 have e3:(s.heap.push W.emptyDict).Ns s.heap.objs.size (λ_=>none):=⟨W.emptyDict, #[],_,e1,rfl,(λe he=>absurd he (by simp)),λ_=>rfl⟩
 have I1:=I.laid (a:=s.heap.objs.size) (o:=.own (s.heap.objs.size+1)) (h':=s.heap.push W.emptyDict) (t':=s.toks) (λb u q=>Vg _ q) (Vm _) ⟨_,e1⟩;refine I1.laid (a:=s.heap.objs.size+1) (o:=.ins C s.heap.objs.size []) (t':=s.toks) (λb u q=>Vg _ q) (Nat.le_of_eq (Heap.size_push _ _)) ?_;have ne:s.heap.objs.size≠s.heap.objs.size+1:=Vo (Wb _);refine⟨by rw[qad ne,qai],Nat.zero_le _,ne,e2,λ_=>none,(Heap.Ns1.of_empty e3).at λo q=>Vg _ q,λ_=>True.intro,λy hy=>absurd rfl hy⟩
theorem qql(hb:attributeBase e f env (eval e env)=eval e env)(h:wpAny (model prog w) A (eval e env) (λo ae=>wpAny (model prog w) A (getAttr o f true) Q E ae) E s):wpAny (model prog w) A (eval (.Attribute e f pos) env) Q E s:=
 Attribute_any_ h (by rw[arm_eval_Attribute,hb])
end
noncomputable def qwa(K:W.Frag)(ta:TE)(f:Str):TE:=λσ H Q=>ta σ H λx H1=> ∃a C dx fs v,x= .ref a/\H1 a=some (.ins C dx fs)/\Cls K C/\qbb K C f/\fs.lookup f=some v/\Q v H1
noncomputable def qxe(K:W.Frag)(ta tv:TE)(f:Str):TS:=λD σ H=>tv σ H λy H1=>ta σ H1 λx H2=> ∃a C dx fs,x= .ref a/\H2 a=some (.ins C dx fs)/\Cls K C/\qbb K C f/\fs.length<1000/\
 D.nx σ (upd H2 a (.ins C dx (qem f y fs)))
section
theorem qrv(he:PE X e ta)(hb:attributeBase e f X.env (eval e X.env)=eval e X.env):PE X (.Attribute e f pos) (qwa X.K ta f):=by intro pins s σ H Q I h;refine qql hb (thn (he pins s σ H _ I h) λu s1 ⟨x,H1,I1,rx,a,C,dx,fs,v,ex,ea,c,n,l,q⟩=> ?_);subst ex;obtain rfl:u=Value.ref a:=rx;exact qio I1 ea c n l λu' s2 I2 ru=>⟨v,H1,I2,ru,q⟩
theorem qrk(ha:PE X o ta)(hv:PE X value tv)(hs:swapsWith value (some (.Attribute o f pos')) pos.line X.env=pure false):PS X (.Assign [.Attribute o f pos'] value pos) (qxe X.K ta tv f):=by intro pins s σ H D I h;refine plainObj_wpAny_Assign_Attribute (thn (hv pins s σ H _ I h) λu s1 ⟨y,H1,I1,ry,q⟩=>thn (ha pins s1 σ H1 _ I1 q) λov s2 ⟨x,H2,I2,rx,a,C,dx,fs,ex,ea,c,n,l,q2⟩=> ?_) hs;subst ex;obtain rfl:ov=Value.ref a:=rx;exact qh2 I2 ea c n l ry λs3 I3=>⟨σ,_,I3,q2⟩
noncomputable def rAdd:V->V->Hp->VK->Prop:=λx y H Q=> ∃i j,x= .int i/\y= .int j/\Q (.int (i+j)) H
end
section
inductive qgJ(K:W.Frag)(H:Hp):V->Value->Prop where
 |non:qgJ K H .non (.type "NoneType")
 |bl (x:Bool):qgJ K H (.bl x) (.type "bool")
 |int (i:Int):qgJ K H (.int i) (.type "int")
 |str (x:Str):qgJ K H (.str x) (.type "str")
 |flt (x:UInt64):qgJ K H (.flt x) (.type "float")
 |lst {a:Addr} {xs:List V} (e:H a=some (.lst xs)):qgJ K H (.ref a) (.type "list")
 |frz {a:Addr} {o:Obj} {xs:List V} (e:H a=some (.frz o (.lst xs))):qgJ K H (.ref a) (.type "list")
 |tup {a:Addr} {xs:List V} (e:H a=some (.tup xs)):qgJ K H (.ref a) (.type "tuple")
 |dK {a:Addr} {kvs:List (Key×V)} (e:H a=some (.dK kvs)):qgJ K H (.ref a) (.type "dict")
 |dT {a:Addr} {kvs:List (List Key×V)} (e:H a=some (.dT kvs)):qgJ K H (.ref a) (.type "dict")
 | ins {a C dx:Addr} {fs:List (Str×V)} (e:H a=some (.ins C dx fs)) (cl:Cls K C) (ha:W.findIn K (.ref C) "__class__" =some (some (.builtin "object.__class__")))
   (hn:W.specialIn K (.builtin "object.__class__") "__get__" =some (some (.builtin "getset_descriptor.__get__"))) (iJ:W.takesIn K (.builtin "object.__class__")=some true)
   (hm:W.mroIn K C (.type "object")=some true):qgJ K H (.ref a) (.ref C)
theorem qjT (I:Inv X pins σ H s) (rx:RelV x u) (ty:qgJ X.K H x t) (e:W.kitOne X.K t c=some b) (h: ∀tk,Q (.bool b) { s with toks:=tk }):
  wpAny (model X.prog X.w) A (call (.builtin "isinstance") [u,c]) Q E s:=by
 cases ty with
 |non=>cases(show u=Value.none from rx);exact W.kia_one W.kitx_none I.kIn True.intro e (λz=>nomatch z) h
 |bl y=>cases(show u=Value.bool y from rx);exact W.kia_one W.kitx_bool I.kIn True.intro e (λz=>nomatch z) h
 |int i=>obtain⟨t,q⟩:=(show ∃t,u=Value.int i t from rx);cases q;exact W.kia_one W.kitx_int I.kIn True.intro e (λz=>nomatch z) h
 |str y=>obtain⟨t,q⟩:=(show ∃t,u=Value.str y t from rx);cases q;exact W.kia_one W.kitx_str I.kIn True.intro e (λz=>nomatch z) h
 |flt y=>obtain⟨t,q⟩:=(show ∃t,u=Value.float y t from rx);cases q;exact W.kia_one W.kitx_float I.kIn True.intro e (λz=>nomatch z) h
 |@lst a xs ea=>
  cases(show u=Value.ref a from rx);obtain⟨_,_,n,_,h1⟩:=(show qaC X.prog X.w H s.heap a (.lst xs) from I.hok a _ ea)
  exact W.kia_one W.kitx_list I.kIn ⟨_,h1,rfl⟩ e (λz=>nomatch z) h
 |@frz a ob xs ea=>
  cases(show u=Value.ref a from rx);obtain⟨_,_,_,n,_,h1⟩:=(show qaC X.prog X.w H s.heap a (.frz ob (.lst xs)) from I.hok a _ ea)
  exact W.kia_one W.kitx_list I.kIn ⟨_,h1,rfl⟩ e (λz=>nomatch z) h
 |@tup a xs ea=>
  cases(show u=Value.ref a from rx);obtain⟨_,_,_,p⟩:=(show qaC X.prog X.w H s.heap a (.tup xs) from I.hok a _ ea)
  obtain⟨o,h1,h2,_⟩:=p;exact W.kia_one W.kitx_tuple I.kIn ⟨o,h1,h2⟩ e (λz=>nomatch z) h
 |@dK a kvs ea=>
  cases(show u=Value.ref a from rx);obtain⟨_,_,vs,_,p⟩:=(show qaC X.prog X.w H s.heap a (.dK kvs) from I.hok a _ ea)
  obtain⟨o,es,ep,h1,h2,_⟩:=p;exact W.kia_one W.kitx_dict I.kIn ⟨o,h1,h2.1⟩ e (λz=>nomatch z) h
 |@dT a kvs ea=>
  cases(show u=Value.ref a from rx);obtain⟨_,_,xs,_,o,es,ep,h1,h2,_⟩:=(show qaC X.prog X.w H s.heap a (.dT kvs) from I.hok a _ ea)
  exact W.kia_one W.kitx_dict I.kIn ⟨o,h1,h2.1⟩ e (λz=>nomatch z) h
 |@ins a C dx fs ea cl ha hn iJ hm=>cases(show u=Value.ref a from rx);obtain⟨mA,O,_⟩:=qew I.hok ea;obtain⟨od,J,_⟩:=O.look;exact W.kia_one (W.kitx_own (cl.get _) cl.hd ha hn iJ hm) I.kIn J e (λz=>nomatch z) h
end
structure qbu(k:Nat)(A:Around):Prop where
 hd:A.handled=none
 dp:A.depth+3*k+5<recursionLimit
 un:A.units+16*k+200<cLine
theorem qbu.mono(r:qbu k A)(h:j<=k):qbu j A:=⟨r.hd,by have:=r.dp;omega,by have:=r.un;omega⟩
theorem qbu.deeper(r:qbu (k+1) A)(env:Env):qbu k (A.deeper env):=
 ⟨r.hd,by have:=r.dp;show A.depth+1+3*k+5<_;omega,by have:=r.un;show A.units+3+16*k+200<_;omega⟩
theorem qif{A:Around}:(A.under (.builtin "type.__call__" ⟨.ref C::us,kw⟩)).depth=A.depth+1:=by
 first|rfl|simp[Around.under,Code.weight,Code.isCreation,Code.isGuard,Code.isCaller,Code.frames,Code.isFrame,guardIds]
theorem qie{A:Around}:(A.under (.builtin "type.__call__" ⟨.ref C::us,kw⟩)).units=A.units+1:=by
 first|rfl|simp[Around.under,Code.cUnits,Code.frames,Code.isFrame]
theorem qbu.make(r:qbu (k+1) A)(C:Addr)(us:List Value)(kw:List (Str×Value)):qbu k (A.under (.builtin "type.__call__" ⟨.ref C::us,kw⟩)):=
 ⟨r.hd,by have:=r.dp;rw[qif];omega,by have:=r.un;rw[qie];omega⟩
theorem qbu.depth(r:qbu k A):A.depth<recursionLimit:=by have:=r.dp;omega
theorem qbu.units(r:qbu k A):A.units+64<cLine:=by have:=r.un;omega
noncomputable def qtw:TA:=λ_ H Q=>Q [] H
noncomputable def qqL(ta:TE)(tr:TA):TA:=λσ H Q=>ta σ H λx H1=>tr σ H1 λxs H2=>Q (x::xs) H2
section
theorem qjt:PA X [] qtw:=λ_ _ _ _ H Q I h=>Calls.spliced_nil ⟨[],H,I,.nil,h⟩
theorem qeo(ha:PE X e te)(hr:PA X es t)(hs:starEach (e::es) X.env=(false,eval e X.env)::starEach es X.env:=by rfl):PA X (e::es) (qqL te t):=by intro pos pins s σ H Q I h;rw[hs];show wpAny _ _ (spliced ((false,eval e X.env)::backTo pos (starEach es X.env))) _ _ s;refine Calls.spliced_cons (thn (ha pins s σ H _ I h) λu s1 ⟨x,H1,I1,r1,q1⟩=> ?_);exact thn (hr pos pins s1 σ H1 _ I1 q1) λus s2 ⟨xs,H2,I2,r2,q2⟩=>⟨x::xs,H2,I2,.cons r1 r2,q2⟩
noncomputable def qw3(t:TA):TE:=λσ H Q=>t σ H λxs H1=>xs.length<=sizeLine/\∀p,H1 p=none->Q (.ref p) (upd H1 p (.tup xs))
noncomputable def qw8(t:TA):TE:=λσ H Q=>t σ H λxs H1=>xs.length<=sizeLine/\∀p,H1 p=none->Q (.ref p) (upd H1 p (.lst xs))
theorem qrq{x1}(h:PA X es t):PE X (.Tuple es x1 pos) (qw3 t):=by intro pins s σ H Q I hq;refine wpAny_Tuple_spliced (thn (h pos pins s σ H _ I hq) λus s1 ⟨xs,H1,I1,r,z,q⟩=>⟨by rw[<-r.length];exact z,?_⟩);have hf:H1 s1.heap.objs.size=none:=I1.hok.fresh (Vm _);refine⟨.ref s1.heap.objs.size,upd H1 s1.heap.objs.size (.tup xs),I1.laid (t':=s1.toks) (λb u e=>Vg _ e) (Vm _) ?_,rfl,q _ hf⟩;exact⟨z,us,r,⟨_,Vh _ rfl,rfl,_,rfl⟩⟩
theorem qrt(h:PA X es t):PE X (.List es pos) (qw8 t):=by intro pins s σ H Q I hq;refine wpAny_List_spliced (thn (h pos pins s σ H _ I hq) λus s1 ⟨xs,H1,I1,r,z,q⟩=>⟨by rw[<-r.length];exact z,?_⟩);have hf:H1 s1.heap.objs.size=none:=I1.hok.fresh (Vm _);refine⟨.ref s1.heap.objs.size,upd H1 s1.heap.objs.size (.lst xs),I1.laid (t':=s1.toks) (λb u e=>Vg _ e) (Vm _) ?_,rfl,q _ hf⟩;exact⟨z,us,0,r,Vh _ rfl⟩
end
abbrev Sp:=List V->Hp->VK->XK->Prop
abbrev CXT:=List Env->Hp->Shared->XK->Value->Shared->Prop
structure qn7(P:Program)(w:World)(K:W.Frag)(mg:Str->Option Value)(base:Heap)(A:Around)(outer:List Env)(s:Shared)(H:Hp):Prop where
 frames:A.frames=some outer
 mod:Mod K mg base
 bs: ∀b o,base.get? b=some o->s.heap.get? b=some o/\H b=none
 bsz:base.objs.size<=s.heap.objs.size
 funs:s.heap.FunFrames base outer
 frf: ∀b∈frs outer,H b=none
 hok:HOk P w H s.heap
 bare:AllBare s.gens
noncomputable def CE(outer:List Env)(P:Program)(w:World)(H:Hp)(s:Shared)(Q:VK)(u:Value)(s':Shared):Prop:=
 ∃v H',s'.os=s.os/\AllBare s'.gens/\Un (frs outer) [] H H' s.heap s'.heap/\HOk P w H' s'.heap/\RelV v u/\Q v H'
noncomputable def CR(CX:CXT)(outer:List Env)(P:Program)(w:World)(H:Hp)(s:Shared)(Q:VK)(E:XK)(r:Result)(s':Shared):Prop:=
 match r with
 |.ok (.ret u)=>CE outer P w H s Q u s'
 |.ok _=>False
 |.error e=>CX outer H s E e s'
structure qcL(P:Program)(w:World)(K:W.Frag)(mg:Str->Option Value)(base:Heap)(CX:CXT)(k:Nat)(f:Addr)(fd:FuncData)(ps:List Str)(sp:Sp):Prop where
 len: ∀vs H Q E,sp vs H Q E->vs.length=ps.length
 run: ∀(A:Around) (outer:List Env) (s:Shared) (H:Hp) (args:Args) (us:List Value) (vs:List V) (Q:VK) (E:XK),qbu k A->qn7 P w K mg base A outer s H->BindsTo s fd args (ps.zip us)->qat vs us->sp vs H Q E->
  codeAny (model P w) A (.call (.ref f) args) (CR CX outer P w H s Q E) s
theorem qn7.make {P:Program} {w:World} {K:W.Frag} {mg:Str->Option Value} {base:Heap} {A:Around} {outer:List Env} {s:Shared} {H:Hp} (e:qn7 P w K mg base A outer s H) (C:Addr) (us:List Value) (kw:List (Str×Value)):
  qn7 P w K mg base (A.under (.builtin "type.__call__" ⟨.ref C::us,kw⟩)) outer s H:=⟨by first|exact e.frames|(simpa [Around.under,Code.envs,Code.isFrame,pushEnvs] using e.frames),e.mod,e.bs,e.bsz,e.funs,e.frf,e.hok,e.bare⟩
section
theorem Inv.env0(I:Inv X pins σ H s):qn7 X.prog X.w X.K X.mg X.base X.A X.stack s H:=
 ⟨I.ok.frames,I.ok.mod,I.bs,Vq I.ok.bsz I.sz,I.stack,I.stkFree,I.hok,I.bare⟩
theorem Inv.after(I:Inv X pins σ H s)(h:CE X.stack X.prog X.w H s Q u s'):EP X pins σ Q u s':=by obtain⟨v,H',os,bare,un,hok,r,q⟩:=h;obtain⟨hh,g,d,t,os'⟩:=s';obtain rfl:os'=s.os:=os;exact⟨v,H',I.call (h':=hh) (g':=g) (d':=d) (t':=t) (ch:=[]) un hok bare (λb z=>absurd z (by simp)),r,q⟩
end
noncomputable def qon(sp:Sp)(aN:List V)(E:XK)(t:TA):TE:=λσ H Q=>t σ H λvs H1=>sp (vs++aN) H1 Q E
noncomputable def qom(C:Addr)(sp:Sp)(aN:List V)(E:XK)(t:TA):TE:=λσ H Q=>t σ H λvs H1=> ∀x dx,H1 x=none->H1 dx=none->dx≠x->
 sp (.ref x::(vs++aN)) (upd (upd H1 dx (.own x)) x (.ins C dx [])) (λv H2=>v= .non/\Q (.ref x) H2) E
noncomputable def qa0(K:W.Frag)(fd:FuncData)(ps:List Str)(ds:List Value):Prop:=
 ∀(s:Shared) (us:List Value),K.In s.heap->(us++ds).length=ps.length->BindsTo s fd ⟨us,[]⟩ (ps.zip (us++ds))
theorem qa0.all{K:W.Frag}{fd:FuncData}{ps:List Str}(h: ∀us:List Value,us.length=ps.length->bindArgs fd ⟨us,[]⟩=pure (ps.zip us)):qa0 K fd ps []:=λs us _ hl=>by rw[List.append_nil] at hl⊢;exact .of_eq (h us hl)
noncomputable def qaJ(CX:CXT)(X:Cx)(E:XK):Prop:= ∀(pins:List (Addr×Obj)) (σ:St) (H:Hp) (s:Shared) (e:Value) (s':Shared),Inv X pins σ H s->CX X.stack H s E e s'->X.xe e s'
section
theorem qe4(F:qcL X.prog X.w X.K X.mg X.base CX k f fd ps sp)(hr:qbu k X.A)(hb:qa0 X.K fd ps ds)(hd:qat aN ds)(hx:qaJ CX X E)(I:Inv X pins σ H s)(r:qat vs us)(h:sp (vs++aN) H Q E):wpAny (model X.prog X.w) X.A (call (.ref f) us) (EP X pins σ Q) X.xe s:=by
 have r2:qat (vs++aN) (us++ds):=r.append hd;have hl:(us++ds).length=ps.length:=by rw[<-r2.length];exact F.len _ _ _ _ h
 refine wpAny_call (codeAny_mono (F.run X.A X.stack s H ⟨us,[]⟩ (us++ds) (vs++aN) Q E hr I.env0 (hb s us I.kIn hl) r2 h) λr s' hq=> ?_);cases r with
 |error e=>exact hx pins σ H s e s' I hq
 |ok fl=>
  cases fl with
  |ret u=>exact I.after hq
  |next|brk|cont=>exact False.elim hq
theorem qoZ (F:qcL X.prog X.w X.K X.mg X.base CX k f fd ps sp) (hr:qbu k X.A) (hg:Gl X x) (hm:X.mg x=some (.ref f)) (hk:W.keepIn X.K (.ref f)=true) (hb:qa0 X.K fd ps ds) (hd:qat aN ds) (hx:qaJ CX X E) (ha:PA X (e::es) t) (aC:(x==("__debug__" :Str))=false:=by decide) (he:starEach (e::es) X.env=(false,eval e X.env)::starEach es X.env:=by rfl) (av:(backTo pos (starEach es X.env)).any (·.1)=false:=by rfl):
  PE X (.Call (.Name x p) (e::es) [] pos) (qon sp aN E t):=by intro pins s σ H Q I h;refine Ve (qcg I hg hm ?_ aC);refine W.callWith_K (h₀:=X.base) I.ok.mod.kin hk (thn (ha pos pins s σ H _ I h) λus s1 ⟨vs,H1,I1,r,q⟩=>⟨I1.kIn,?_⟩) he av;exact qe4 F hr hb hd hx I1 r q
theorem qlW (F:qcL X.prog X.w X.K X.mg X.base CX k f fd ps sp) (hr:qbu k X.A) (hg:Gl X x) (hm:X.mg x=some (.ref f)) (hk:W.keepIn X.K (.ref f)=true) (hb:qa0 X.K fd ps ds) (hd:qat aN ds) (hx:qaJ CX X E) (aC:(x==("__debug__" :Str))=false:=by decide):PE X (.Call (.Name x p) [] [] pos) (qon sp aN E qtw):=by intro pins s σ H Q I h;refine Ve (qcg I hg hm ?_ aC);exact W.callWith_K0 I.kIn hk (qe4 (us:=[]) F hr hb hd hx I .nil h)
structure Mk(K:W.Frag)(C f:Addr):Prop where
 makes:W.makesIn K C=true
 init:W.findIn K (.ref C) "__init__" =some (some (.ref f))
 fn:W.isFn K (.ref f)=true
 kp:W.keepIn K (.ref C)=true
theorem qgX (M:Mk X.K C f) (F:qcL X.prog X.w X.K X.mg X.base CX k f fd ps sp) (hr:qbu (k+1) X.A) (hb:qa0 X.K fd ps ds) (hd:qat aN ds) (hx:qaJ CX X E) (I:Inv X pins σ H s) (r:qat vs us) (h: ∀x dx,H x=none->H dx=none->dx≠x->sp (.ref x::(vs++aN)) (upd (upd H dx (.own x)) x (.ins C dx [])) (λv H2=>v= .non/\Q (.ref x) H2) E):
  wpAny (model X.prog X.w) X.A (call (.ref C) us) (EP X pins σ Q) X.xe s:=by
 have hq:=h (s.heap.objs.size+1) s.heap.objs.size (I.hok.fresh (Nat.le_succ _)) (I.hok.fresh (Vm _)) (Vo (Wb _));have I2:=Inv.made (C:=C) I;have r2:qat (V.ref (s.heap.objs.size+1)::(vs++aN)) (Value.ref (s.heap.objs.size+1)::(us++ds)):=.cons rfl (r.append hd);have hl:(Value.ref (s.heap.objs.size+1)::us++ds).length=ps.length:=by have e:=r2.length;rw[F.len _ _ _ _ hq] at e;exact e.symm
 refine wpAny_call (ql6 (f:=f) I.kIn M.makes M.init (beq_iff_eq.mp M.fn) (codeAny_mono (F.run _ X.stack _ _ ⟨Value.ref (s.heap.objs.size+1)::us,[]⟩ (Value.ref (s.heap.objs.size+1)::(us++ds)) _ _ E (hr.make C us [])
  (I2.env0.make C us []) (hb _ (Value.ref (s.heap.objs.size+1)::us) I2.kIn hl) r2 hq) λr s' bS=> ?_))
 cases r with
 |error e=>exact hx pins σ _ _ e s' I2 bS
 |ok fl=>
  cases fl with
  |ret u=>obtain⟨v,H',I3,rv,ev,q3⟩:=I2.after bS;subst ev;exact⟨rv,⟨V.ref (s.heap.objs.size+1),H',I3,rfl,q3⟩⟩
  |next|brk|cont=>exact False.elim bS
theorem qoX (M:Mk X.K C f) (F:qcL X.prog X.w X.K X.mg X.base CX k f fd ps sp) (hr:qbu (k+1) X.A) (hg:Gl X x) (hm:X.mg x=some (.ref C)) (hb:qa0 X.K fd ps ds) (hd:qat aN ds) (hx:qaJ CX X E) (ha:PA X (e::es) t) (aC:(x==("__debug__" :Str))=false:=by decide) (he:starEach (e::es) X.env=(false,eval e X.env)::starEach es X.env:=by rfl) (av:(backTo pos (starEach es X.env)).any (·.1)=false:=by rfl):
  PE X (.Call (.Name x p) (e::es) [] pos) (qom C sp aN E t):=by intro pins s σ H Q I h;refine Ve (qcg I hg hm ?_ aC);refine W.callWith_K (h₀:=X.base) I.ok.mod.kin M.kp (thn (ha pos pins s σ H _ I h) λus s1 ⟨vs,H1,I1,r,q⟩=>⟨I1.kIn,?_⟩) he av;exact qgX M F hr hb hd hx I1 r q
theorem qlS (M:Mk X.K C f) (F:qcL X.prog X.w X.K X.mg X.base CX k f fd ps sp) (hr:qbu (k+1) X.A) (hg:Gl X x) (hm:X.mg x=some (.ref C)) (hb:qa0 X.K fd ps ds) (hd:qat aN ds) (hx:qaJ CX X E) (aC:(x==("__debug__" :Str))=false:=by decide):PE X (.Call (.Name x p) [] [] pos) (qom C sp aN E qtw):=by intro pins s σ H Q I h;refine Ve (qcg I hg hm ?_ aC);exact W.callWith_K0 I.kIn M.kp (qgX (us:=[]) M F hr hb hd hx I .nil h)
end
section
structure qwY(K:W.Frag)(fd:FuncData)(ps ks:List Str)(g:List Value->List Value->List Value)(gV:List V->List V->List V):Prop where
 to: ∀(s:Shared) (us ws:List Value),K.In s.heap->(g us ws).length=ps.length->BindsTo s fd ⟨us,ks.zip ws⟩ (ps.zip (g us ws))
 rel: ∀{vs:List V} {us:List Value} {zs:List V} {ws:List Value},qat vs us->qat zs ws->qat (gV vs zs) (g us ws)
end
structure qdt(N P:List Str)(sc:Scope):Prop where
 kind:sc.kind= .function
 co:sc.isCoroutine=false
 gen:sc.isGenerator=false
 nd:N.Nodup
 pre:N.take P.length=P
 par: ∀x∈P,sc.names.lookup x=some .local\/sc.names.lookup x=some .cell
 nofree: ∀y∈sc.names,y.2≠.free
theorem qfT{kindOf:Str->Option NameKind}{x:Str}: ∀{binds:List (Str×Value)} {m:Str->Option Value},(∀v,(x,v)∉binds)->bindL kindOf binds m x=m x
 |[],_,_=>rfl
 |(n,v)::r,m,h=>by
  unfold bindL;rw[qfT λw hw=>h w (List.mem_cons_of_mem _ hw)];split
  ·have:x≠n:=by rintro rfl;exact h v Vk
   simp[this]
  ·rfl
theorem qfV{kindOf:Str->Option NameKind}{x:Str}: ∀{binds:List (Str×Value)} {m:Str->Option Value},(∀v,(x,v)∉binds)->bindC kindOf binds m x=m x
 |[],_,_=>rfl
 |(n,v)::r,m,h=>by
  unfold bindC;rw[qfV λw hw=>h w (List.mem_cons_of_mem _ hw)];split
  ·rfl
  ·have:x≠n:=by rintro rfl;exact h v Vk
   simp[this]
theorem qfU {kindOf:Str->Option NameKind} {x:Str} {v:Value}: ∀{P:List Str} {vs:List Value} {i:Nat} {m:Str->Option Value},P.Nodup->P[i]? =some x->vs[i]? =some v->kindOf x=some .local->
  bindL kindOf (P.zip vs) m x=some v
 |[],_,_,_,_,h,_,_=>by simp at h
 |_::_,[],_,_,_,_,h,_=>by simp at h
 |p::P,w::vs,0,m,nd,h1,h2,hk=>by simp at h1 h2;subst h1;subst h2;show bindL kindOf ((p,w)::P.zip vs) m p=_;unfold bindL;rw[qfT λv hv=>(List.nodup_cons.mp nd).1 (List.of_mem_zip hv).1,if_pos hk];simp
 |p::P,w::vs,i+1,m,nd,h1,h2,hk=>by show bindL kindOf ((p,w)::P.zip vs) m x=_;unfold bindL;exact qfU (i:=i) (List.nodup_cons.mp nd).2 (by simpa using h1) (by simpa using h2) hk
theorem qfW {kindOf:Str->Option NameKind} {x:Str} {v:Value}: ∀{P:List Str} {vs:List Value} {i:Nat} {m:Str->Option Value},P.Nodup->P[i]? =some x->vs[i]? =some v->kindOf x≠some .local->
  bindC kindOf (P.zip vs) m x=some v
 |[],_,_,_,_,h,_,_=>by simp at h
 |_::_,[],_,_,_,_,h,_=>by simp at h
 |p::P,w::vs,0,m,nd,h1,h2,hk=>by simp at h1 h2;subst h1;subst h2;show bindC kindOf ((p,w)::P.zip vs) m p=_;unfold bindC;rw[qfV λv hv=>(List.nodup_cons.mp nd).1 (List.of_mem_zip hv).1,if_neg hk];simp
 |p::P,w::vs,i+1,m,nd,h1,h2,hk=>by show bindC kindOf ((p,w)::P.zip vs) m x=_;unfold bindC;exact qfW (i:=i) (List.nodup_cons.mp nd).2 (by simpa using h1) (by simpa using h2) hk
noncomputable def start(N:List Str)(vs:List V):St:=vs.map some++List.replicate (N.length - vs.length) none
noncomputable def qhu(CX:CXT)(P:Program)(w:World)(K:W.Frag)(mg:Str->Option Value)(base:Heap)(N:List Str)(qual:Str)(scope:Scope)(f:Addr)(cd:Value)(A:Around)(outer:List Env)(s:Shared)(H:Hp)(E:XK):Cx where
 prog:=P
 w:=w
 K:=K
 mg:=mg
 base:=base
 A:=A.deeper (envOfC qual scope s.heap.objs.size f cd)
 N:=N
 s₀:=s
 H₀:=H
 env:=envOfC qual scope s.heap.objs.size f cd
 outer:=outer
 stack:=envOfC qual scope s.heap.objs.size f cd::outer
 ex:=[]
 calm:=true
 fn:=λ_=>true
 pn:=[]
 xe:=λe s'=>wpAny (model P w) (A.deeper (envOfC qual scope s.heap.objs.size f cd)) (leaving (envOfC qual scope s.heap.objs.size f cd) e) (λ_ s''=>CX outer H s E e s'') (λe' s''=>CX outer H s E e' s'') s'
theorem qhA{sc:Scope}{n:Nat}(h:sc.names.lookup x=some .cell): ∃c,(cellsFrom n sc.names []).lookup x=some c:=by have q:=W.cellsFrom_some sc.names n [] (.inl h);exact Option.isSome_iff_exists.mp q
theorem qjW {CX:CXT} {P:Program} {w:World} {K:W.Frag} {mg:Str->Option Value} {base:Heap} {N ps:List Str} {qual:Str} {scope:Scope} {f:Addr} {cd:Value} {A:Around} {outer:List Env} {s s1:Shared} {H:Hp} {E:XK} {us:List Value} {vs:List V} (S:qdt N ps scope) (hd:A.handled=none) (e0:qn7 P w K mg base A outer s H) (hl:vs.length=ps.length) (r:qat vs us) (x:InCallC s s.heap.objs.size (bindL (envOfC qual scope s.heap.objs.size f cd).kindOf (ps.zip us) λ_=>none) (cellsFrom (s.heap.objs.size+1) scope.names []) (bindC (envOfC qual scope s.heap.objs.size f cd).kindOf (ps.zip us) λ_=>none) s1):
  Inv (qhu CX P w K mg base N qual scope f cd A outer s H E) [] (start N vs) H s1:=by
 have av:ps.length<=N.length:=by have:=congrArg List.length S.pre;rw[List.length_take] at this;omega
 obtain⟨h1,tk,rfl,hk⟩:=x.done;have dZ: ∀b:Addr,b∉(qhu CX P w K mg base N qual scope f cd A outer s H E).ex:=λb z=>absurd (show b∈([]:List Addr) from z) (by simp)
 refine⟨⟨e0.mod,S.kind,rfl,rfl,Vm _,λy z c h1 h2=> ?_,λy hy=> ?_,λy c _ h=> ?_,λ_=>hd,Around.frames_deeper e0.frames,.inr ⟨rfl,rfl⟩,λb z=>absurd z (dZ b),e0.bs,e0.bsz,λb _ _=>dZ b,λb z=>absurd z (dZ b),e0.funs,e0.frf⟩,
  rfl,e0.bare,Un.kept hk,⟨_,x.toInCall.ns,λi y v h1 h2 h3=> ?_⟩,λy c h=>⟨_,x.cell y c h⟩,e0.hok.fresh (Vm _),λy c h=> ?_,λp hp=>absurd (show p∈([]:List (Addr×Obj)) from hp) (by simp),e0.hok.kept hk,?_⟩
 ·exact name_of_addr x.apart (Vv h1) (Vv h2)
 ·have hy:scope.names.lookup y=some .cell\/scope.names.lookup y=some .free:=hy
  rcases hy with hy|hy
  ·exact qhA hy
  ·exact absurd rfl (S.nofree _ (Vv hy))
 ·exact Vp (x.above y c (Vv h))
 ·have hi:i<vs.length:=by
   unfold start at h2;by_cases hi:i<vs.length
   ·exact hi
   ·rw[List.getElem?_append_right (by simpa using hi)] at h2;rw[List.getElem?_replicate] at h2;split at h2<;>cases h2
  have ha:vs[i]? =some v:=by
   unfold start at h2;rw[List.getElem?_append_left (by simpa using hi),List.getElem?_map] at h2;cases e:vs[i]? with
   |none=>rw[e] at h2;cases h2
   |some a=>rw[e] at h2;cases h2;rfl
  obtain⟨u,hu,rv⟩:=r.get ha;have hp:ps[i]? =some y:=by rw[<-S.pre,List.getElem?_take_of_lt (by omega)];exact h1
  have iD:ps.Nodup:=by rw[<-S.pre];exact S.nd.sublist (List.take_sublist _ _)
  refine⟨u,rv,?_⟩
  rcases S.par y (Vu hp) with k|k
  ·exact .inl ⟨k,qfU iD hp hu k⟩
  ·obtain⟨c,e⟩:=qhA (n:=s.heap.objs.size+1) k;refine .inr ⟨.inl k,c,e,?_⟩;have q:=x.cell y c e;rw[qfW iD hp hu (by show scope.names.lookup y≠_;rw[k];decide)] at q;exact q
 ·exact e0.hok.fresh (Vp (x.above y c (Vv h)))
 ·unfold start;show _=N.length;rw[List.length_append,List.length_map,List.length_replicate];omega
theorem qvw {CX:CXT} {P:Program} {w:World} {K:W.Frag} {mg:Str->Option Value} {base:Heap} {k:Nat} {f:Addr} {name qual:Str} {params:Arguments} {body:List Stmt} {scope:Scope} {dV kV doc pm cdv ct oc:Value} {an od:Option Addr} {osl:Array (Option Value)} {N ps:List Str} {sp:Sp} (lk:K.lookup f=some ⟨oc,od,.func (W.fnOf name qual params body scope dV kV doc pm an cdv ct),osl⟩) (ba:W.codeIn K cdv qual=true) (S:qdt N ps scope) (len: ∀vs H Q E,sp vs H Q E->vs.length=ps.length) (bX: ∀(A:Around) (outer:List Env) (s:Shared) (H:Hp) (vs:List V) (Q:VK) (E:XK),qbu k (A.deeper (envOfC qual scope s.heap.objs.size f cdv))->sp vs H Q E->
   ∃t,PSs (qhu CX P w K mg base N qual scope f cdv A outer s H E) body t/\t { nx:=λ_ H'=>Q .non H',rt:=Q } (start N vs) H):
  qcL P w K mg base CX (k+1) f (W.fnOf name qual params body scope dV kV doc pm an cdv ct) ps sp:=by
 refine⟨len,λA outer s H args us vs Q E hr e0 hb r dy=> ?_⟩;have hl:=len _ _ _ _ dy;have KX:K.In s.heap:=e0.mod.kin.keeps λb o e=>(e0.bs b o e).1;have lim:s.heap.NoLimit:=e0.mod.nolimit.keeps λb o e=>(e0.bs b o e).1;have eM: ∀y∈ps.zip us,scope.names.lookup y.1=some .local\/(scope.names.lookup y.1=some .cell/\((cellsFrom (s.heap.objs.size+1) scope.names []).lookup y.1).isSome=true):=λ⟨n,v⟩ hy=>by
  rcases S.par n (Vy hy).1 with q|q
  ·exact .inl q
  ·exact .inr ⟨q,W.cellsFrom_some _ _ _ (.inl q)⟩
 refine codeAny_call_function hr.depth (KX _ _ lk) rfl S.co S.gen rfl (W.codeRec_of KX ba) (hb _ _ _ _ ?_);refine wpAny_newFunctionEnv_cells S.kind eM λenv he s1 x=> ?_;subst he;refine⟨lim.keeps x.toInCall.keep,codeAny_func ?_⟩;obtain⟨t,ht,hq⟩:=bX A outer s H vs Q E (hr.deeper _) dy;have I:Inv (qhu CX P w K mg base N qual scope f cdv A outer s H E) [] (start N vs) H s1:=qjW S hr.hd e0 hl r x;refine Vc (ht [] s1 (start N vs) H _ I hq) (λfl s' hs=> ?_) λe s' hs=>hs
 have fin: ∀{ag:St} {H':Hp} {v:V} {u:Value},Inv (qhu CX P w K mg base N qual scope f cdv A outer s H E) [] ag H' s'->RelV v u->Q v H'->CE outer P w H s Q u s':=
  λ{ag H' v u} J rv q=>⟨v,H',J.os,J.bare,J.base,J.hok,rv,q⟩
 cases fl with
 |ret u=>obtain⟨v,ag,H',J,rv,q⟩:=hs;exact fin J rv q
 |next=>obtain⟨ag,H',J,q⟩:=hs;exact fin (v:=V.non) (u:=Value.none) J rfl q
 |brk|cont=>obtain⟨_,_,_,q⟩:=hs;exact False.elim q
section
noncomputable def tCB(r:List V->Hp->VK->Prop)(t:TA):TE:=λσ H Q=>t σ H λvs H1=>r vs H1 Q
theorem qaU {X:Cx} {x:Str} {p:Pos} {pos:Pos} {e:Expr} {es:List Expr} {t:TA} {id:String} {r:List V->Hp->VK->Prop} (hc:qau X (.builtin id) r) (hg:Gl X x) (hm:X.mg x=none) (hv:bootBuiltins x=some (.builtin id)) (ha:PA X (e::es) t) (hn:x≠ "__name__" :=by decide) (aC:(x==("__debug__" :Str))=false:=by decide) (he:starEach (e::es) X.env=(false,eval e X.env)::starEach es X.env:=by rfl) (av:(backTo pos (starEach es X.env)).any (·.1)=false:=by rfl):PE X (.Call (.Name x p) (e::es) [] pos) (tCB r t):=by intro pins s σ H Q I h;refine Ve (qdJ I hg hm hv ?_ hn aC);exact PyProof.Rows.callWith_builtin1 (thn (ha pos pins s σ H _ I h) λus s1 ⟨vs,H1,I1,r1,q1⟩=>hc pins s1 σ H1 vs us Q I1 r1 q1) he av
theorem qcZ (hc:qau X (.type T) r) (hg:Gl X x) (hm:X.mg x=none) (hv:bootBuiltins x=some (.type T)) (ha:PA X (e::es) t) (hn:x≠ "__name__" :=by decide) (aC:(x==("__debug__" :Str))=false:=by decide) (he:starEach (e::es) X.env=(false,eval e X.env)::starEach es X.env:=by rfl) (av:(backTo pos (starEach es X.env)).any (·.1)=false:=by rfl):PE X (.Call (.Name x p) (e::es) [] pos) (tCB r t):=by intro pins s σ H Q I h;refine Ve (qdJ I hg hm hv ?_ hn aC);exact PyProof.Rows.callWith_type1 (thn (ha pos pins s σ H _ I h) λus s1 ⟨vs,H1,I1,r1,q1⟩=>hc pins s1 σ H1 vs us Q I1 r1 q1) he av
end
end L2
namespace HT
open PySem PyProof.Rows
section
theorem cat_tup (ht:IsTup s.heap t vs.toArray) (hb:IsTup s.heap b ws.toArray) (hv:vs≠[]) (h1:ws=[]->Q (.ref t) s) (h2:ws≠[]->Q (.ref s.heap.objs.size) { s with heap:=s.heap.push { cls:=.type "tuple",data:=.seq (vs++ws).toArray } }) (hsz:vs.length+ws.length<=sizeLine):wpAny (model prog w) A (binaryOp .Add (.ref t) (.ref b)) Q E s:=by
 obtain⟨⟨cls,dd,data,sl⟩,ho,hc,n,hd⟩:=id ht;obtain⟨⟨hW,fK,data2,fg⟩,bx,bH,n2,hd2⟩:=id hb;simp only at hc hd bH hd2;subst hc hd bH hd2;have e:vs.toArray++ws.toArray=(vs++ws).toArray:=by simp
 by_cases hw:ws=[]
 ·exact concat_meets ⟨_,ho,rfl⟩ ⟨_,bx,rfl⟩ noFill_tuple_add seq_tuple_add F.slot_tuple_add F.entry_tuple_add (F.args_tuple_add_2 _ _)
   (tuple_addW1 t b vs.toArray ws.toArray n n2 dd fK sl fg (by simpa using hv) (by simp[hw])) ⟨ho,bx,h1 hw⟩
 ·refine concat_meets ⟨_,ho,rfl⟩ ⟨_,bx,rfl⟩ noFill_tuple_add seq_tuple_add F.slot_tuple_add F.entry_tuple_add (F.args_tuple_add_2 _ _)
   (tuple_addW2 t b vs.toArray ws.toArray n n2 dd fK sl fg (by simpa using hv) (by simpa using hw) (by rw[List.size_toArray,List.size_toArray];exact hsz)) ⟨ho,bx,?_⟩
  rw[e];exact h2 hw
noncomputable def sIx(n d:Nat):Option Int->Nat
 |none=>d
 |some v=>if v<0 then(v+(n:Int)).toNat else min v.toNat n
theorem sIx_none(n d:Nat):sIx n d none=d:=rfl
theorem sIx_nat(n d k:Nat):sIx n d (some (k:Int))=min k n:=by show(if(k:Int)<0 then((k:Int)+(n:Int)).toNat else min (k:Int).toNat n)=min k n;rw[if_neg (by omega),Int.toNat_natCast]
theorem qqW(n d:Nat)(hd:d<=n)(o:Option Int):sIx n d o<=n:=by
 cases o with
 |none=>exact hd
 |some v=>
  show(if v<0 then(v+(n:Int)).toNat else min v.toNat n)<=n;by_cases hv:v<0
  ·rw[if_pos hv];omega
  ·rw[if_neg hv];exact Nat.min_le_right _ _
theorem qkw(v:Int)(n d:Nat):(if v<0 then max (v+(n:Int)) 0 else min v (n:Int))=((sIx n d (some v):Nat):Int):=by
 show(if v<0 then max (v+(n:Int)) 0 else min v (n:Int))=(((if v<0 then(v+(n:Int)).toNat else min v.toNat n):Nat):Int)
 by_cases hv:v<0
 ·simp only[if_pos hv];omega
 ·simp only[if_neg hv];omega
theorem qiA(lo hi:Option Int)(n:Nat):Builtin.Slice.sliceAdjust lo hi 1 (n:Int)=(((sIx n 0 lo:Nat):Int),((sIx n n hi:Nat):Int)):=by
 have h1: ¬((1:Int)<0):=by omega
 unfold Builtin.Slice.sliceAdjust;simp only[h1,if_false];refine Prod.ext ?_ ?_
 ·cases lo with
  |none=>rfl
  |some v=>exact qkw v n 0
 ·cases hi with
  |none=>rfl
  |some v=>exact qkw v n n
theorem qh4(i j:Nat):Builtin.Slice.slicePlaces (i:Int) (j:Int) 1=j - i:=by
 unfold Builtin.Slice.slicePlaces;have h1:(1:Int)>0:=by omega
 simp only[h1,if_true,Int.ediv_one]
 split<;>omega
theorem qdB(p:IsPart v o)(h:Q o s):wpAny (model prog w) A (Builtin.Slice.slicePartIndex v) Q E s:=by
 cases p with
 |none=>exact slicePart_none h
 |int i t=>exact slicePart_int h
theorem qbk{prog:Program}{w:World}{A:Around}{E:Value->Shared->Prop}{s:Shared}{sl:Addr}{vl vu:Value}{lo hi:Option Int}{n:Nat}{Q:Int×Int×Nat->Shared->Prop}(hs:s.heap.IsSliceOf sl vl vu .none)(pl:IsPart vl lo)(pu:IsPart vu hi)(h:Q (((sIx n 0 lo:Nat):Int),1,sIx n n hi - sIx n 0 lo) s):wpAny (model prog w) A (Builtin.Slice.sliceApplied (.ref sl) (pure (n:Int))) Q E s:=by obtain⟨os,cU,c7,eP⟩:=id hs;unfold Builtin.Slice.sliceApplied Builtin.Slice.sliceFields;refine Va (Va (wpAny_field cU eP (x:=vl) rfl (Va (wpAny_field cU eP (x:=vu) rfl (Va (wpAny_field cU eP (x:=.none) rfl (Vb ?_)))))));refine Va (slicePart_none ?_);show wpAny _ _ (if((1:Int)==0)=true then _ else _) _ _ s;rw[if_neg (by decide)];refine Va (qdB pl (Va (qdB pu (Va (Vb ?_)))));show wpAny _ _ (match Builtin.Slice.sliceAdjust lo hi 1 (n:Int) with|(lo,hi)=>pure (lo,(1:Int),Builtin.Slice.slicePlaces lo hi 1)) _ _ s;rw[qiA lo hi n];show wpAny _ _ (pure (((sIx n 0 lo:Nat):Int),(1:Int),Builtin.Slice.slicePlaces ((sIx n 0 lo:Nat):Int) ((sIx n n hi:Nat):Int) 1)) _ _ s;rw[qh4];exact Vb h
theorem qlO(xs:Array Value)(i k:Nat):((List.range k).filterMap λ(m:Nat)=>xs[((i:Int)+(m:Int)*1).toNat]?).toArray=((xs.toList.drop i).take k).toArray:=by
 have e:(λ(m:Nat)=>xs[((i:Int)+(m:Int)*1).toNat]?)=λm=>xs[i+m]? :=by
  funext m
  have:((i:Int)+(m:Int)*1).toNat=i+m:=by omega
  rw[this]
 rw[e];have:=pick_run xs i k;rw[List.filterMap_map] at this;have e2:((λx=>xs[x]?)∘λx=>i+x)=λm=>xs[i+m]? :=rfl;rw[e2] at this;rw[this]
theorem getItem_tuple_cut {prog:Program} {w:World} {A:Around} {E:Value->Shared->Prop} {s:Shared} {t sl:Addr} {items:Array Value} {vl vu:Value} {lo hi:Option Int} {Q:Value->Shared->Prop} (ht:IsTup s.heap t items) (hs:s.heap.IsSliceOf sl vl vu .none) (pl:IsPart vl lo) (pu:IsPart vu hi) (hw: ¬(sIx items.size 0 lo=0/\sIx items.size items.size hi=items.size)) (h:Q (.ref s.heap.objs.size) { s with heap:=s.heap.push { cls:=.type "tuple",data:=.seq ((items.toList.drop (sIx items.size 0 lo)).take (sIx items.size items.size hi - sIx items.size 0 lo)).toArray } }) (hsz:items.size<=sizeLine):wpAny (model prog w) A (getItem (.ref t) (.ref sl)) Q E s:=by
 have bg:sizeOk (.seq ((items.toList.drop (sIx items.size 0 lo)).take (sIx items.size items.size hi - sIx items.size 0 lo)).toArray):=by show((items.toList.drop (sIx items.size 0 lo)).take (sIx items.size items.size hi - sIx items.size 0 lo)).toArray.size<=sizeLine;rw[List.size_toArray,List.length_take,List.length_drop,Array.length_toList];omega
 have hj:sIx items.size items.size hi<=items.size:=qqW _ _ (Vm _) hi;obtain⟨os,cU,c7,eP⟩:=id hs;have gW:s.TypeIs (.ref sl) "slice" :=⟨os,cU,c7⟩
 unfold getItem
 try with_reducible refine wpAny_holding ?_
 first|refine Va (Vb ?_)|skip
 refine Va (wpAny_sequenceKey ht.typeIs (by decide) ?_)
 refine Va (wpAny_callSpecial?_slot (name:=Str.ofString "__getitem__") ht.typeIs PyProof.Rows.slot_tuple_getitem
  (wpAny_call_entry PyProof.Rows.slot_tuple_getitem ht.typeIs entry_tuple_getitem ?_ (args_tuple_getitem _ _)))
 show wpAny _ _ (Builtin.Tuple.tupleItemsOf (.ref t)>>=_) _ _ s;refine Va (tupleItemsOf_ ht ?_);refine Va (wpAny_typeOf gW ?_);rw[if_pos (by decide)];refine Va (qbk hs pl pu ?_);have hno: ¬((((sIx items.size 0 lo:Nat):Int)==0&&(1:Int)==1&&(sIx items.size items.size hi - sIx items.size 0 lo)==items.size)=true):=by intro q;rw[Bool.and_eq_true,Bool.and_eq_true] at q;have q1:((sIx items.size 0 lo:Nat):Int)=0:=eq_of_beq q.1.1;have q2:sIx items.size items.size hi - sIx items.size 0 lo=items.size:=eq_of_beq q.2;exact hw ⟨by omega,by omega⟩
 show wpAny _ _ (if(((sIx items.size 0 lo:Nat):Int)==0&&(1:Int)==1&&(sIx items.size items.size hi - sIx items.size 0 lo)==items.size)=true then _ else _) _ _ s;rw[if_neg hno,qlO]
 first
  |exact Va (m:=Builtin.Tuple.tupleExact _) (wpAny_newObj_type (Vb ⟨_,rfl,Vb h⟩) bg)
  |exact Va (m:=Builtin.Tuple.tupleExact _) (wpAny_newObj_type (Va (Vb (Vb ⟨_,rfl,Vb h⟩))) bg)
  |exact Va (Va (m:=Builtin.Tuple.tupleExact _) (wpAny_newObj_type (Vb (Vb ⟨_,rfl,Vb h⟩)) bg))
  |exact Va (Va (m:=Builtin.Tuple.tupleExact _) (wpAny_newObj_type (Vb ⟨_,rfl,Vb h⟩) bg))
end
end HT
namespace L2
open PySem PySem.Spec PyProof.Rows
abbrev TO:=St->Hp->(Option Int->Hp->Prop)->Prop
noncomputable def PO(X:Cx)(e:Option Expr)(t:TO):Prop:=
 ∀(pins:List (Addr×Obj)) (s:Shared) (σ:St) (H:Hp) (Q:Option Int->Hp->Prop),Inv X pins σ H s->t σ H Q->
  wpAny (model X.prog X.w) X.A (evalPart e X.env) (λu s'=> ∃o H',Inv X pins σ H' s'/\IsPart u o/\Q o H') X.xe s
noncomputable def qok:TO:=λ_ H Q=>Q none H
noncomputable def qtV(t:TE):TO:=λσ H Q=>t σ H λx H1=> ∃i,x= .int i/\Q (some i) H1
section
theorem qoQ:PO X none qok:=by intro pins s σ H Q I h;rw[evalPart_none];exact Vb ⟨none,H,I,.none,h⟩
theorem qoP(h:PE X e te):PO X (some e) (qtV te):=by intro pins s σ H Q I hw;rw[evalPart_some];refine thn (h pins s σ H _ I hw) λu s1 ⟨x,H1,I1,r1,q1⟩=> ?_;obtain⟨i,rfl,q⟩:=q1;obtain⟨t,rfl⟩:=r1;exact⟨some i,H1,I1,.int i t,q⟩
noncomputable def SlR(X:Cx)(r:V->Option Int->Option Int->Hp->VK->Prop):Prop:=
 ∀(pins:List (Addr×Obj)) (s:Shared) (σ:St) (H:Hp) (x:V) (v vl vu:Value) (lo hi:Option Int) (sl:Addr) (Q:VK),Inv X pins σ H s->RelV x v->s.heap.IsSliceOf sl vl vu .none->IsPart vl lo->IsPart vu hi->r x lo hi H Q->
  ∃T id,typeLookup (.type T) "__getitem__" =pure (some (.builtin id))/\s.TypeIs v T/\wpAny (model X.prog X.w) X.A (getItem v (.ref sl)) (EP X pins σ Q) X.xe s
theorem SlR.or(h:SlR X r)(h':SlR X r'):SlR X (λx lo hi H Q=>r x lo hi H Q\/r' x lo hi H Q):=by
 intro pins s σ H x v vl vu lo hi sl Q I rx hs pl pu q
 rcases q with q|q
 ·exact h pins s σ H x v vl vu lo hi sl Q I rx hs pl pu q
 ·exact h' pins s σ H x v vl vu lo hi sl Q I rx hs pl pu q
noncomputable def tSl(r:V->Option Int->Option Int->Hp->VK->Prop)(te:TE)(tl th:TO):TE:=λσ H Q=>te σ H λx H1=>tl σ H1 λl H2=>th σ H2 λu H3=>r x l u H3 Q
theorem qlQ{X:Cx}{e:Expr}{te:TE}{lo:Option Expr}{hi:Option Expr}{tl:TO}{th:TO}{pos:Pos}{p2:Pos}{r:V->Option Int->Option Int->Hp->VK->Prop}(hr:SlR X r)(he:PE X e te)(hl:PO X lo tl)(hu:PO X hi th):PE X (.Subscript e (.Slice lo hi none p2) pos) (tSl r te tl th):=by intro pins s σ H Q I h;refine Subscript_ (thn (he pins s σ H _ I h) λv s1 ⟨x,H1,I1,r1,q1⟩=> ?_);refine wpAny_Slice (thn (hl pins s1 σ H1 _ I1 q1) λvl s2 ⟨l,H2,I2,pl,q2⟩=>thn (hu pins s2 σ H2 _ I2 q2) λvu s3 ⟨u,H3,I3,pu,q3⟩=> ?_);rw[evalPart_none];refine Vb ?_;have I4:Inv X pins σ H3 { s3 with heap:=s3.heap.push { cls:=.type "slice",data:=.fields #[vl,vu,.none] } }:=I3.kept (t':=s3.toks) λb ob q=>Vg _ q;obtain⟨T,id,hT,ht,hg⟩:=hr pins { s3 with heap:=s3.heap.push { cls:=.type "slice",data:=.fields #[vl,vu,.none] } } σ H3 x v vl vu l u s3.heap.objs.size Q I4 r1 (Heap.IsSliceOf.new ..) pl pu q3;show wpAny (model X.prog X.w) X.A (subscriptTail e (.Slice lo hi none p2) v (.ref s3.heap.objs.size)) (EP X pins σ Q) X.xe { s3 with heap:=s3.heap.push { cls:=.type "slice",data:=.fields #[vl,vu,.none] } };exact tail_any (ops:=[.ref s3.heap.objs.size,v]) ht hT hg (by with_unfolding_all rfl)
noncomputable def qnU(xs:List V)(lo hi:Option Int):List V:=(xs.drop (HT.sIx xs.length 0 lo)).take (HT.sIx xs.length xs.length hi - HT.sIx xs.length 0 lo)
theorem qdi(xs:List V)(lo hi:Option Int):(qnU xs lo hi).length<=xs.length:=by unfold qnU;rw[List.length_take,List.length_drop];omega
noncomputable def qxf(K:W.Frag):V->Option Int->Option Int->Hp->VK->Prop:=λx lo hi H Q=> ∃a xs,x= .ref a/\SqT K H a xs/\
 ¬(HT.sIx xs.length 0 lo=0/\HT.sIx xs.length xs.length hi=xs.length)/\∀p,H p=none->Q (.ref p) (upd H p (.tup (qnU xs lo hi)))
theorem qqS:SlR X (qxf X.K):=by
 intro pins s σ H x v vl vu lo hi sl Q I rx hs pl pu h;obtain⟨a,xs,rfl,hx,hw,q⟩:=h;cases rx;obtain⟨its,r,ht,hz⟩:=I.tuple hx;have hlen:its.toArray.size=xs.length:=by rw[List.size_toArray];exact r.length.symm
 refine⟨"tuple",_,PyProof.Rows.slot_tuple_getitem.lookup,ht.typeIs,?_⟩;refine HT.getItem_tuple_cut ht hs pl pu (by rw[hlen];exact hw) ?_ (by rw[hlen];exact hz);rw[hlen];refine⟨.ref s.heap.objs.size,_,I.laid (t':=s.toks) (o:=.tup (qnU xs lo hi)) (λb ob q=>Vg _ q) (Vm _) ?_,rfl,q _ (I.hok.fresh (Vm _))⟩;exact⟨Vq (qdi xs lo hi) hz,_,(r.drop (HT.sIx xs.length 0 lo)).take (HT.sIx xs.length xs.length hi - HT.sIx xs.length 0 lo),IsTup.new _ _⟩
noncomputable def qq5(K:W.Frag):R2:=λx y H Q=> ∃a b xs ys,x= .ref a/\y= .ref b/\SqT K H a xs/\SqT K H b ys/\xs≠[]/\xs.length+ys.length<=sizeLine/\
 (ys=[]->Q (.ref a) H)/\(ys≠[]->∀p,H p=none->Q (.ref p) (upd H p (.tup (xs++ys))))
theorem qat.nil_iff(r:qat xs us):us=[]↔xs=[]:=by
 cases r with
 |nil|cons _ _=>simp
theorem qpb:OpR X (binaryOp .Add) (qq5 X.K):=by intro pins s σ H x y v u Q I rx ry h;obtain⟨a,b,xs,ys,rfl,rfl,ha,hb,hx,hz,q1,q2⟩:=h;cases rx;cases ry;obtain⟨its,r1,p1,_⟩:=I.tuple ha;obtain⟨aQ,r2,p2,_⟩:=I.tuple hb;refine HT.cat_tup p1 p2 (λz=>hx (r1.nil_iff.mp z)) (λz=>⟨.ref a,H,I,rfl,q1 (r2.nil_iff.mp z)⟩) (λz=> ?_) (by rw[<-r1.length,<-r2.length];exact hz);refine⟨.ref s.heap.objs.size,_,I.laid (t':=s.toks) (o:=.tup (xs++ys)) (λb ob q=>Vg _ q) (Vm _) ?_,rfl,q2 (λw=>z (r2.nil_iff.mpr w)) _ (I.hok.fresh (Vm _))⟩;exact⟨by rw[List.length_append];exact hz,_,r1.append r2,IsTup.new _ _⟩
end
noncomputable def ixN(n:Nat)(i:Int):Option Nat:=if 0<=i then(if i<n then some i.toNat else none) else if -(n:Int)<=i then some (i+n).toNat else none
noncomputable def atI{α:Type}(xs:List α)(i:Int):Option α:=(ixN xs.length i).bind λj=>xs[j]?
theorem qjR(h:ixN n i=some j):seqIndex? i n=some j/\j<n/\ -(n:Int)<=i/\i<n:=by
 unfold ixN at h;by_cases h0:0<=i
 ·rw[if_pos h0] at h;by_cases h1:i<n
  ·rw[if_pos h1] at h;have e:i.toNat=j:=Option.some.inj h;exact⟨by rw[seqIndex_of h0 h1,e],by omega,by omega,h1⟩
  ·rw[if_neg h1] at h;cases h
 ·rw[if_neg h0] at h;by_cases h1: -(n:Int)<=i
  ·rw[if_pos h1] at h;have e:(i+n).toNat=j:=Option.some.inj h;exact⟨by rw[seqIndex_neg (by omega) h1,e],by omega,h1,by omega⟩
  ·rw[if_neg h1] at h;cases h
theorem qgI(h:atI xs i=some v): ∃j,seqIndex? i xs.length=some j/\xs[j]? =some v/\j<xs.length/\ -(xs.length:Int)<=i/\i<xs.length:=by
 unfold atI at h;cases e:ixN xs.length i with
 |none=>rw[e] at h;cases h
 |some j=>rw[e] at h;obtain⟨h1,h2,h3,h4⟩:=qjR e;exact⟨j,h1,h,h2,h3,h4⟩
noncomputable def qk6(b:Expr):Prop:= ∀o i,subscripted b false o i=operate [o,i] (getItem o i)
noncomputable def IxR(X:Cx)(r:R2):Prop:=
 ∀(value slice:Expr) (pins:List (Addr×Obj)) (s:Shared) (σ:St) (H:Hp) (x y:V) (v u:Value) (Q:VK),Inv X pins σ H s->RelV x v->RelV y u->r x y H Q->
  subscripted slice false v u=operate [v,u] (getItem v u)->wpAny (model X.prog X.w) X.A (subscriptTail value slice v u) (EP X pins σ Q) X.xe s
noncomputable def MtR(X:Cx)(id:String)(r:V->List V->Hp->VK->Prop):Prop:=
 ∀(pins:List (Addr×Obj)) (s:Shared) (σ:St) (H:Hp) (x:V) (xs:List V) (v:Value) (us:List Value) (Q:VK),Inv X pins σ H s->RelV x v->qat xs us->r x xs H Q->
  wpAny (model X.prog X.w) X.A (call (.builtin id) (v::us)) (EP X pins σ Q) X.xe s
section
variable {X:Cx}{a b:Expr}{ta tb:TE}{pos:Pos}
theorem IxR.or(h:IxR X r)(h':IxR X r'):IxR X (λx y H Q=>r x y H Q\/r' x y H Q):=by
 intro value slice pins s σ H x y v u Q I rx ry q hs
 rcases q with q|q
 ·exact h value slice pins s σ H x y v u Q I rx ry q hs
 ·exact h' value slice pins s σ H x y v u Q I rx ry q hs
theorem quz(hr:IxR X r)(ha:PE X a ta)(hb:PE X b tb)(hs:qk6 b):PE X (.Subscript a b pos) (tOp r ta tb):=by intro pins s σ H Q I h;exact Subscript_ (qv0 ha hb I h λv u s2 x y H2 I2 rx ry q=>hr a b pins s2 σ H2 x y v u Q I2 rx ry q (hs _ _))
noncomputable def qwm(K:W.Frag):R2:=λx y H Q=> ∃p xs i v,x= .ref p/\y= .int i/\SqL K H p xs/\atI xs i=some v/\Q v H
noncomputable def qwk(K:W.Frag):R2:=λx y H Q=> ∃p xs i v,x= .ref p/\y= .int i/\SqT K H p xs/\atI xs i=some v/\Q v H
noncomputable def qwl:R2:=λx y H Q=> ∃z i c,x= .str z/\y= .int i/\z.length<=sizeLine/\atI z.cps.toList i=some c/\Q (.str ⟨#[c]⟩) H
theorem qpx:IxR X (qwm X.K):=by
 intro value slice pins s σ H x y v u Q I rx ry h hs;obtain⟨p,xs,i,z,rfl,rfl,hq,he,q⟩:=h;cases rx;obtain⟨t,rfl⟩:=ry;obtain⟨its,r,pl,hz⟩:=I.list hq;obtain⟨j,h1,h2,h3,h4,h5⟩:=qgI he;obtain⟨w,ew,ar⟩:=r.get h2;have hl:=r.length;have hn:=qdH;have fin:EP X pins σ Q w s:=⟨z,H,I,ar,q⟩
 by_cases h0:0<=i
 ·have hj:i.toNat=j:=by rw[seqIndex_of h0 h5] at h1;exact Option.some.inj h1
  exact item_listR pl.isList h0 (by omega) (by rw[hj];simpa using ew) fin hs
 ·have hj:(i+(its.toArray.size:Int)).toNat=j:=by rw[seqIndex_neg (by omega) h4] at h1;rw[List.size_toArray,<-hl];exact Option.some.inj h1
  exact subscriptTail_builtinR (x:=w) pl.isList.typeIs slot_list_getitem.lookup
   (wpAny_getItem_list_neg (Q:=λr s'=>r=w/\EP X pins σ Q r s') pl.isList (by omega) (by rw[List.size_toArray]<;>omega) (by omega) (by rw[hj];simpa using ew) ⟨rfl,fin⟩) hs
theorem qsa:IxR X (qwk X.K):=by
 intro value slice pins s σ H x y v u Q I rx ry h hs;obtain⟨p,xs,i,z,rfl,rfl,hq,he,q⟩:=h;cases rx;obtain⟨t,rfl⟩:=ry;obtain⟨its,r,pl,hz⟩:=I.tuple hq;obtain⟨j,h1,h2,h3,h4,h5⟩:=qgI he;obtain⟨w,ew,ar⟩:=r.get h2;have hl:=r.length;have hn:=qdH;have fin:EP X pins σ Q w s:=⟨z,H,I,ar,q⟩
 exact subscriptTail_builtinR (x:=w) pl.typeIs slot_tuple_getitem.lookup
  (getItem_tuple (j:=j) (Q:=λr s'=>r=w/\EP X pins σ Q r s') pl (by omega) (by omega) (by rw[List.size_toArray,<-hl];exact h1) (by simpa using ew) ⟨rfl,fin⟩) hs
theorem qsb:IxR X qwl:=by
 intro value slice pins s σ H x y v u Q I rx ry h hs;obtain⟨z,i,c,rfl,rfl,hz,he,q⟩:=h;obtain⟨t,rfl⟩:=rx;obtain⟨t',rfl⟩:=ry;obtain⟨j,h1,h2,h3,h4,h5⟩:=qgI he;have hl:z.cps.toList.length=z.length:=by simp[Str.length]
 rw[hl] at h1 h4 h5;have hn:=qdH;exact tail_any (typeIs_str s z t) slot_str_getitem.lookup (getItem_str (c:=c) (by
  have e1:decide (i< -(2 ^ 63:Int))=false:=Vx (by omega);have e2:decide (i≥2 ^ 63)=false:=Vx (by omega);rw[e1,e2,Bool.or_false]) (by rw[h1];simpa using h2) ⟨.str ⟨#[c]⟩,H,I.tok _,⟨_,rfl⟩,q⟩) hs
noncomputable def rIx(K:W.Frag):R2:=λx y H Q=>qwm K x y H Q\/qwk K x y H Q\/qwl x y H Q
theorem qsc:IxR X (rIx X.K):=qpx.or (qsa.or qsb)
theorem qid(its:List Value)(n j:Nat)(u:Value):Obj.mapSeq (·.setIfInBounds j u) { cls:=.type "list",data:=.seq its.toArray n }={ cls:=.type "list",data:=.seq (its.set j u).toArray n }:=by simp[Obj.mapSeq]
theorem Inv.lst {pins:List (Addr×Obj)} {σ:St} {H:Hp} {s:Shared} {p:Addr} {xs:List V} (I:Inv X pins σ H s) (h:H p=some (.lst xs)):
  ∃(its:List Value) (n:Nat),qat xs its/\s.heap.get? p=some { cls:=.type "list",data:=.seq its.toArray n }/\xs.length<=sizeLine:=by obtain⟨z,its,n,r,e⟩:=I.hok p _ h;exact⟨its,n,r,e,z⟩
theorem Inv.lstUpd {s:Shared} {ys:List V} {its its':List Value} {n n':Nat} (I:Inv X pins σ H s) (h:H p=some (.lst xs)) (ho:s.heap.get? p=some { cls:=.type "list",data:=.seq its.toArray n }) (hf:f { cls:=.type "list",data:=.seq its.toArray n }={ cls:=.type "list",data:=.seq its'.toArray n' }) (r:qat ys its') (hz:ys.length<=sizeLine) (t:Nat):
  Inv X pins σ (upd H p (.lst ys)) { s with heap:=s.heap.update p f,toks:=t }:=by
 have e:(s.heap.update p f).get? p=some { cls:=.type "list",data:=.seq its'.toArray n' }:=by rw[Heap.get?_update_self f ho (by rw[hf]<;>rfl),hf]
 refine I.write (x:=p) (e:=p) (by rw[h];trivial) (.inl rfl) (λb u hb q=>(Vj _ _ (Ne.symm hb)).trans q) ⟨_,e⟩ ?_;exact⟨hz,its',n',r,e⟩
noncomputable def quc:V->V->V->Hp->(Hp->Prop)->Prop:=λo i v H Q=> ∃p xs k j,o= .ref p/\i= .int k/\H p=some (.lst xs)/\ixN xs.length k=some j/\Q (upd H p (.lst (xs.set j v)))
theorem qlB:qv4 X quc:=by
 intro pins s σ H o i v ov iv u Q I ro ri rv h;obtain⟨p,xs,k,j,rfl,rfl,hp,hj,q⟩:=h;cases ro;obtain⟨t,rfl⟩:=ri;obtain⟨its,n,r,ho,hz⟩:=I.lst hp;obtain⟨h1,h2,h3,h4⟩:=qjR hj;have hl:=r.length;have hn:=qdH
 have I':Inv X pins σ (upd H p (.lst (xs.set j v))) { s with heap:=s.heap.update p (Obj.mapSeq (·.setIfInBounds j u)) }:=
  I.lstUpd hp ho (qid its n j u) (r.set rv j) (by rw[List.length_set];exact hz) s.toks
 by_cases h0:0<=k
 ·have hk:k.toNat=j:=by rw[seqIndex_of h0 h4] at h1;exact Option.some.inj h1
  exact W.ki_setAt ho h0 (by omega) (by rw[List.size_toArray,<-hl];exact h4) (by rw[hk];exact⟨_,I',q⟩)
 ·have hk:(k+(its.toArray.size:Int)).toNat=j:=by rw[seqIndex_neg (by omega) h3] at h1;rw[List.size_toArray,<-hl];exact Option.some.inj h1
  exact W.ki_setBack ho (by omega) (by rw[List.size_toArray,<-hl];exact h3) (by omega) (by rw[hk];exact⟨_,I',q⟩)
theorem qe3(lo hi:Option Int)(n:Nat):(sliceBounds lo hi none n).1=((HT.sIx n 0 lo:Nat):Int)/\(sliceBounds lo hi none n).2.1=((HT.sIx n n hi:Nat):Int)/\(sliceBounds lo hi none n).2.2=1:=by
 refine⟨?_,?_,rfl⟩
 ·cases lo with
  |none=>simp[sliceBounds,HT.sIx]
  |some i=>
   simp only[sliceBounds,HT.sIx,Option.getD_none,show(1:Int)>0 by decide,if_true];by_cases h:i<0
   ·simp only[h,if_true]<;>omega
   ·simp only[h,if_false]<;>omega
 ·cases hi with
  |none=>simp[sliceBounds,HT.sIx]
  |some i=>
   simp only[sliceBounds,HT.sIx,Option.getD_none,show(1:Int)>0 by decide,if_true];by_cases h:i<0
   ·simp only[h,if_true]<;>omega
   ·simp only[h,if_false]<;>omega
theorem qec(its:List Value)(lo hi:Option Int):slicePick its.toArray lo hi none=((its.drop (HT.sIx its.length 0 lo)).take (HT.sIx its.length its.length hi - HT.sIx its.length 0 lo)).toArray:=by obtain⟨h1,h2,h3⟩:=qe3 lo hi its.toArray.size;unfold slicePick;rw[h1,h2,h3];simp only[sliceRange_one,pick_run,List.size_toArray]<;>rfl
noncomputable def qxg(K:W.Frag):V->Option Int->Option Int->Hp->VK->Prop:=λx lo hi H Q=> ∃a xs,x= .ref a/\SqL K H a xs/\∀p,H p=none->Q (.ref p) (upd H p (.lst (qnU xs lo hi)))
theorem qov:SlR X (qxg X.K):=by intro pins s σ H x v vl vu lo hi sl Q I rx hs pl pu h;obtain⟨a,xs,rfl,hx,q⟩:=h;cases rx;obtain⟨its,r,ht,hz⟩:=I.list hx;have hlen:=r.length;refine⟨"list",_,slot_list_getitem.lookup,ht.isList.typeIs,?_⟩;refine wpAny_getItem_list_slice ht.isList hs pl pu .none (by simp) ?_ (by rw[List.size_toArray]<;>omega);rw[qec,<-hlen];refine⟨.ref s.heap.objs.size,_,I.laid (t':=s.toks) (o:=.lst (qnU xs lo hi)) (λb ob q=>Vg _ q) (Vm _) ?_,rfl,q _ (I.hok.fresh (Vm _))⟩;exact⟨Vq (qdi xs lo hi) hz,_,0,(r.drop (HT.sIx xs.length 0 lo)).take (HT.sIx xs.length xs.length hi - HT.sIx xs.length 0 lo),Vh _ rfl⟩
noncomputable def qgx:V->Bool
 |.non=>true
 |.bl _=>true
 |.int _=>true
 |.str _=>true
 |_=>false
noncomputable def eqV:V->V->Bool
 |.non,.non=>true
 |.bl a,.bl b=>a==b
 |.bl a,.int b=>(if a then 1 else 0)==b
 |.int a,.bl b=>a==(if b then 1 else 0)
 |.int a,.int b=>a==b
 |.str a,.str b=>a==b
 |_,_=>false
theorem qnJ{A:Around}{s:Shared}{y x:V}{u v:Value}(ry:RelV y u)(rx:RelV x v)(fy:qgx y=true)(fx:qgx x=true):SeqAt.EqAt A s u v (eqV y x):=by
 cases y with
 |non=>
  cases ry;cases x with
  |non=>cases rx;exact SeqAt.EqAt.same _
  |bl b=>cases rx;exact SeqAt.EqAt.none_bool b
  |int b=>obtain⟨t,rfl⟩:=rx;exact SeqAt.EqAt.none_int b t
  |str b=>obtain⟨t,rfl⟩:=rx;exact SeqAt.EqAt.none_str b t
  |_=>exact absurd (show false=true from fx) Vr
 |bl a=>
  cases ry;cases x with
  |non=>cases rx;exact SeqAt.EqAt.bool_none a
  |bl b=>cases rx;exact SeqAt.EqAt.bool_bool a b
  |int b=>obtain⟨t,rfl⟩:=rx;exact SeqAt.EqAt.bool_int a b t
  |str b=>obtain⟨t,rfl⟩:=rx;exact SeqAt.EqAt.bool_str a b t
  |_=>exact absurd (show false=true from fx) Vr
 |int a=>
  obtain⟨t',rfl⟩:=ry;cases x with
  |non=>cases rx;exact SeqAt.EqAt.int_none a t'
  |bl b=>cases rx;exact SeqAt.EqAt.int_bool a t' b
  |int b=>obtain⟨t,rfl⟩:=rx;exact SeqAt.EqAt.int_int a t' b t
  |str b=>obtain⟨t,rfl⟩:=rx;exact SeqAt.EqAt.int_str a t' b t
  |_=>exact absurd (show false=true from fx) Vr
 |str a=>
  obtain⟨t',rfl⟩:=ry;cases x with
  |non=>cases rx;exact SeqAt.EqAt.str_none a t'
  |bl b=>cases rx;exact SeqAt.EqAt.str_bool a t' b
  |int b=>obtain⟨t,rfl⟩:=rx;exact SeqAt.EqAt.str_int a t' b t
  |str b=>obtain⟨t,rfl⟩:=rx;exact SeqAt.EqAt.str_str a t' b t
  |_=>exact absurd (show false=true from fx) Vr
 |_=>exact absurd (show false=true from fy) Vr
theorem qau.or(h:qau X f r)(h':qau X f r'):qau X f (λxs H Q=>r xs H Q\/r' xs H Q):=by
 intro pins s σ H xs us Q I rs q
 rcases q with q|q
 ·exact h pins s σ H xs us Q I rs q
 ·exact h' pins s σ H xs us Q I rs q
theorem qfS:qau X (.type "list") (λxs H Q=> ∃p ys,xs=[.ref p]/\(SqL X.K H p ys\/SqT X.K H p ys)/\∀l,H l=none->Q (.ref l) (upd H l (.lst ys))):=by
 intro pins s σ H xs us Q I r h;obtain⟨p,ys,rfl,hq,q⟩:=h;obtain⟨u,rfl,rx⟩:=qdu r;cases rx
 have fin: ∀(its:List Value),qat ys its->ys.length<=sizeLine->∀(h':Heap) (c':Nat),(∀b o',s.heap.get? b=some o'->h'.get? b=some o')->
   h'.get? s.heap.objs.size=some { cls:=.type "list",dict:=none,data:=.seq its.toArray c',slots:= #[] }->EP X pins σ Q (.ref s.heap.objs.size) { s with heap:=h' }:=λits r' hz h' c' kp e=>
  ⟨.ref s.heap.objs.size,_,I.laid (t':=s.toks) kp (Vm _) (show qaC X.prog X.w _ h' _ (.lst ys) from⟨hz,its,c',r',e⟩),rfl,q _ (I.hok.fresh (Vm _))⟩
 rcases hq with hq|hq
 ·obtain⟨its,r',pl,hz⟩:=I.list hq;have hlen:=r'.length;obtain⟨o,ho,hc,n,hd⟩:=pl.isList;exact call_list_seq p (.inl rfl) ho hc hd (λh' c' kp e=>fin its r' hz h' c' kp e) (by simp only[List.size_toArray]<;>omega)
 ·obtain⟨its,r',pl,hz⟩:=I.tuple hq;have hlen:=r'.length;obtain⟨o,ho,hc,n,hd⟩:=pl;exact call_list_seq p (.inr rfl) ho hc hd (λh' c' kp e=>fin its r' hz h' c' kp e) (by simp only[List.size_toArray]<;>omega)
noncomputable def tyV(K:W.Frag)(T:String)(x:V)(H:Hp):Prop:=match x with
 |.str _=>T= "str"
 |.int _=>T= "int"
 | .ref p=>(T= "list" /\∃xs,SqL K H p xs)\/(T= "tuple" /\∃o,K.lookup p=some o/\o.cls= .type "tuple" /\o.dict=none)\/
   (T= "dict" /\((∃kvs,H p=some (.dK kvs))\/∃kvs,H p=some (.dT kvs)))\/(T= "set" /\∃S n,H p=some (.set S n))
 |_=>False
theorem qng (I:Inv X pins σ H s) (r:RelV x v) (ty:tyV X.K T x H):
  s.TypeIs v T/\∀a,v= .ref a->∃ob,s.heap.get? a=some ob/\ob.dict=none:=by
 cases x with
 |str z=>obtain⟨t,rfl⟩:=r;cases(show T= "str" from ty);exact⟨typeIs_str s z t,λ_ e=>nomatch e⟩
 |int i=>obtain⟨t,rfl⟩:=r;cases(show T= "int" from ty);exact⟨typeIs_int s i t,λ_ e=>nomatch e⟩
 |ref p=>
  cases r
  rcases ty with⟨rfl,xs,hq⟩|⟨rfl,o,hk,hc,hd⟩|⟨rfl,hk⟩|⟨rfl,S,n,hk⟩
  ·obtain⟨its,_,pl,_⟩:=I.list hq;refine⟨pl.isList.typeIs,λa e=> ?_⟩;cases e;obtain⟨o,n,e,c,hd,_⟩:=pl;exact⟨o,e,hd⟩
  ·refine⟨⟨o,I.kIn p o hk,hc⟩,λa e=> ?_⟩;cases e;exact⟨o,I.kIn _ o hk,hd⟩
  ·have z: ∃o,s.heap.get? p=some o/\o.ExactDict:=by
    rcases hk with⟨kvs,hk⟩|⟨kvs,hk⟩
    ·obtain⟨_,_,_,_,o,_,_,e,ex,_⟩:=I.hok p _ hk;exact⟨o,e,ex⟩
    ·obtain⟨_,_,_,_,o,_,_,e,ex,_⟩:=I.hok p _ hk;exact⟨o,e,ex⟩
   obtain⟨o,e,ex⟩:=z;refine⟨⟨o,e,ex.1⟩,λa e2=> ?_⟩;cases e2;exact⟨o,e,ex.2.1⟩
  ·obtain⟨o,_,_,_,e,ex,_⟩:=I.hok p _ hk;refine⟨⟨o,e,ex.1⟩,λa e2=> ?_⟩;cases e2;exact⟨o,e,ex.2.1⟩
 |_=>exact False.elim ty
noncomputable def qxb(K:W.Frag)(T:String)(r:V->List V->Hp->VK->Prop)(to:TE):TE:=λσ H Q=>to σ H λx H1=>tyV K T x H1/\r x [] H1 Q
noncomputable def tBM(K:W.Frag)(T:String)(r:V->List V->Hp->VK->Prop)(to:TE)(t:TA):TE:=λσ H Q=>to σ H λx H1=>tyV K T x H1/\t σ H1 λxs H2=>r x xs H2 Q
theorem qrw {o:Expr} {to:TE} {name:Str} {apos:Pos} {cpos:Pos} {T:String} {id:String} {r:V->List V->Hp->VK->Prop} (pa:PlainAttrs T) (slot:Slot T name id) (b8:typeOf (.builtin id)=pure (.type "method_descriptor")) (hm:MtR X id r) (ho:PE X o to) (aJ:attributeBase o name X.env (eval o X.env)=eval o X.env:=by rfl) (ak:(apos.endLine==cpos.line)=true:=by rfl):PE X (.Call (.Attribute o name apos) [] [] cpos) (qxb X.K T r to):=by intro pins s σ H Q I h;refine wpAny_Call_method0_late aJ ak (thn (ho pins s σ H _ I h) λv s1 ⟨x,H1,I1,r1,ty,q1⟩=> ?_);obtain⟨h1,h2⟩:=qng I1 r1 ty;exact⟨T,id,pa,slot,b8,h1,h2,Calls.callWith_builtin rfl (PySem.evalArgs_none (hm pins s1 σ H1 x [] v [] Q I1 r1 .nil q1))⟩
theorem quA {o:Expr} {e:Expr} {es:List Expr} {to:TE} {t:TA} {name:Str} {apos:Pos} {cpos:Pos} {T:String} {id:String} {r:V->List V->Hp->VK->Prop} (pa:PlainAttrs T) (slot:Slot T name id) (b8:typeOf (.builtin id)=pure (.type "method_descriptor")) (hm:MtR X id r) (ho:PE X o to) (ha:PA X (e::es) t) (aJ:attributeBase o name X.env (eval o X.env)=eval o X.env:=by rfl) (cY:((backTo cpos (starEach (e::es) X.env)).all (λx=> !x.1)&&(backToKw cpos (keywordEach [] X.env)).all (λx=>x.1.isSome)
   &&decide ((e::es).length+([]:List Keyword).length+(if([]:List Keyword).isEmpty then 0 else 1)<30))=true:=by rfl) (ak:(apos.endLine==cpos.line)=true:=by rfl) (hs:starEach (e::es) X.env=(false,eval e X.env)::starEach es X.env:=by rfl) (a8:(backTo cpos (starEach es X.env)).any (·.1)=false:=by rfl):
  PE X (.Call (.Attribute o name apos) (e::es) [] cpos) (tBM X.K T r to t):=by intro pins s σ H Q I h;refine wpAny_Call_method_late aJ cY ak rfl (thn (ho pins s σ H _ I h) λv s1 ⟨x,H1,I1,r1,ty,q1⟩=> ?_);obtain⟨h1,h2⟩:=qng I1 r1 ty;refine⟨T,id,pa,slot,b8,h1,h2,?_⟩;have hA:=ha cpos pins s1 σ H1 _ I1 q1;rw[hs] at hA⊢;refine Calls.callWith_builtin (by show(false||(backTo cpos (starEach es X.env)).any (·.1))=false;rw[a8]<;>rfl) (Calls.evalArgs_plain ?_);exact thn hA λus s2 ⟨vs,H2,I2,r2,q2⟩=>hm pins s2 σ H2 x vs v us Q I2 r1 r2 q2
end
noncomputable def MtM(X:Cx)(id:String)(r:V->List V->Hp->VK->Prop):Prop:=
 ∀(pins:List (Addr×Obj)) (s:Shared) (σ:St) (H:Hp) (x:V) (xs:List V) (v:Value) (us:List Value) (Q:VK),Inv X pins σ H s->RelV x v->qat xs us->r x xs H Q->
  wpAny (model X.prog X.w) X.A (call (.builtin id) (v::us)) (EP X pins σ Q) X.xe s
theorem qat.one: ∀{x:V} {us:List Value},qat [x] us->∃u,us=[u]/\RelV x u
 |_,_,.cons r .nil=>⟨_,rfl,r⟩
theorem qat.rep(h:qat xs us): ∀k:Nat,qat (List.replicate k xs).flatten (List.replicate k us).flatten
 |0=>.nil
 |k+1=>by rw[List.replicate_succ,List.replicate_succ,List.flatten_cons,List.flatten_cons];exact qat.append h (qat.rep h k)
theorem qfw (its:List Value): ∀(k:Nat) (acc:List Value),
  List.foldl (λx1 x2=>x1++x2) acc.toArray (List.replicate k its.toArray)=(acc++(List.replicate k its).flatten).toArray
 |0,acc=>by simp
 |k+1,acc=>by
  have e:acc.toArray++its.toArray=(acc++its).toArray:=by simp
  have e2:(acc++its)++(List.replicate k its).flatten=acc++(List.replicate (k+1) its).flatten:=by rw[List.replicate_succ,List.flatten_cons,List.append_assoc]
  rw[<-e2,<-qfw its k (acc++its),<-e,List.replicate_succ,List.foldl_cons]
section
theorem Inv.lset {s:Shared} {ys:List V} {its its':List Value} {n:Nat} {t':Nat} (I:Inv X pins σ H s) (hH:H l=some (.lst xs)) (e:s.heap.get? l=some { cls:=.type "list",data:=.seq its.toArray n }) (hf:f its.toArray=its'.toArray) (hv:qat ys its') (hz:ys.length<=sizeLine):
  Inv X pins σ (upd H l (.lst ys)) { s with heap:=s.heap.update l (Obj.mapSeq f),toks:=t' }:=by have q:=PySem.IsL.update e f;rw[hf] at q;refine I.write (x:=l) (e:=l) (by rw[hH];exact trivial) (.inl rfl) (λb' u hb hu=>(Vj s.heap (Obj.mapSeq f) (Ne.symm hb)).trans hu) ⟨_,q⟩ ?_;exact⟨hz,its',_,hv,q⟩
theorem Inv.lnew (I:Inv X pins σ H s) (hv:qat ys its) (hz:ys.length<=sizeLine):
  Inv X pins σ (upd H s.heap.objs.size (.lst ys)) { s with heap:=s.heap.push { cls:=.type "list",data:=.seq its.toArray },toks:=t' }:=
 I.laid (λ_ _ q=>Vg _ q) (Vm _) ⟨hz,its,0,hv,Vh _ rfl⟩
theorem Inv.fresh(I:Inv X pins σ H s):H s.heap.objs.size=none:=I.hok.fresh (Vm _)
theorem Inv.lstM(I:Inv X pins σ H s)(hH:H l=some (.lst xs)):xs.length<=sizeLine/\∃(its:List Value) (n:Nat),qat xs its/\xs.length=its.length/\s.heap.get? l=some { cls:=.type "list",data:=.seq its.toArray n }:=by obtain⟨z,its,n,r,e⟩:=I.hok l _ hH;exact⟨z,its,n,r,r.length,e⟩
theorem qhh(h:n<=sizeLine):Builtin.List.listTooLong n=false:=by unfold Builtin.List.listTooLong;exact Vx (by omega)
end
section
noncomputable def qoJ:V->List V->Hp->VK->Prop:=λx vs H Q=> ∃l xs y,x= .ref l/\vs=[y]/\H l=some (.lst xs)/\xs.length<sizeLine/\Q .non (upd H l (.lst (xs++[y])))
theorem qff:MtM X "list.append" qoJ:=by intro pins s σ H x vs v us Q I rx rv h;obtain⟨l,xs,y,rfl,rfl,hH,hz,q⟩:=h;cases rx;obtain⟨u,rfl,ru⟩:=rv.one;obtain⟨z,its,n,r,hl,e⟩:=I.lstM hH;refine Wa F.slot_list_append ⟨_,e,rfl⟩ F.entry_list_append (F.args_list_append_2 _ _) (PySem.list_append l its.toArray n u (by rw[List.size_toArray];omega)) ⟨e,?_⟩;refine⟨.non,_,I.lset (its':=its++[u]) hH e (by simp) (r.append (.cons ru .nil)) ?_,rfl,q⟩;rw[List.length_append,List.length_singleton];omega
noncomputable def qoG:V->List V->Hp->VK->Prop:=λx vs H Q=> ∃l b xs zs,x= .ref l/\vs=[.ref b]/\H l=some (.lst xs)/\H b=some (.lst zs)/\xs.length+zs.length<=sizeLine/\Q .non (upd H l (.lst (xs++zs)))
theorem qjE:MtM X "list.extend" qoG:=by
 intro pins s σ H x vs v us Q I rx rv h;obtain⟨l,b,xs,zs,rfl,rfl,hH,hB,hz,q⟩:=h;cases rx;obtain⟨u,rfl,ru⟩:=rv.one;cases ru;obtain⟨z,its,n,r,hl,e⟩:=I.lstM hH;obtain⟨z2,aQ,n2,r2,bV,e2⟩:=I.lstM hB;have hsz:its.toArray.size+aQ.toArray.size<=sizeLine:=by rw[List.size_toArray,List.size_toArray];omega
 have bU: ¬(!its.toArray.isEmpty&&Builtin.List.listTooLong (its.toArray.size+aQ.toArray.size))=true:=by rw[qhh hsz,Bool.and_false];exact Vr
 refine Wa F.slot_list_extend ⟨_,e,rfl⟩ F.entry_list_extend (F.args_list_extend_2 _ _)
  (AutoSeq1.list_extend_list_list_0 l its.toArray n b aQ.toArray n2 bU (by rw[List.size_toArray];omega) (by omega)) ⟨e,e2,?_⟩
 refine⟨.non,_,I.lset (its':=its++aQ) hH e (by simp) (r.append r2) ?_,rfl,q⟩;rw[List.length_append];omega
noncomputable def qwt:R2:=λx y H Q=> ∃l b xs zs,x= .ref l/\y= .ref b/\H l=some (.lst xs)/\H b=some (.lst zs)/\xs.length+zs.length<=sizeLine/\∀p,H p=none->Q (.ref p) (upd H p (.lst (xs++zs)))
theorem qrK:OpR X (binaryOp .Add) qwt:=by
 intro pins s σ H x y v u Q I rx ry h;obtain⟨l,b,xs,zs,rfl,rfl,hH,hB,hz,q⟩:=h;cases rx;cases ry;obtain⟨z,its,n,r,hl,e⟩:=I.lstM hH;obtain⟨z2,aQ,n2,r2,bV,e2⟩:=I.lstM hB;refine P.add_list e e2 ?_ (by rw[List.size_toArray,List.size_toArray];omega);have ea:its.toArray++aQ.toArray=(its++aQ).toArray:=by simp
 rw[ea];exact⟨.ref _,_,I.lnew (t':=s.toks) (r.append r2) (by rw[List.length_append];omega),rfl,q _ I.fresh⟩
noncomputable def qwi:R2:=λx y H Q=> ∃l k xs,x= .ref l/\y= .int k/\H l=some (.lst xs)/\ -(2 ^ 63)<=k/\k<2 ^ 63/\xs.length*k.toNat<=sizeLine/\
 ∀p,H p=none->Q (.ref p) (upd H p (.lst (List.replicate k.toNat xs).flatten))
theorem qgr(xs:List α)(k:Nat):(List.replicate k xs).flatten.length=k*xs.length:=by
 induction k with
 |zero=>simp
 |succ k ih=>rw[List.replicate_succ,List.flatten_cons,List.length_append,ih,Nat.succ_mul,Nat.add_comm]
theorem qrB:OpR X (binaryOp .Mult) qwi:=by
 intro pins s σ H x y v u Q I rx ry h;obtain⟨l,k,xs,rfl,rfl,hH,h1,h2,hz,q⟩:=h;cases rx;obtain⟨t,rfl⟩:=ry;obtain⟨z,its,n,r,hl,e⟩:=I.lstM hH;have hlen:its.toArray.size*k.toNat<=sizeLine:=by rw[List.size_toArray,<-hl];exact hz
 have gO: ¬its.toArray.size*k.toNat>(2 ^ 63 - 1) / 8:=by
  have:(sizeLine:Nat)<=(2 ^ 63 - 1) / 8:=by decide
  omega
 have gI: ¬(!Builtin.List.listFitsIndex k)=true:=by rw[fitsIndex_both h1 h2];exact Vr
 have bU: ¬Builtin.List.listTooLong (its.toArray.size*k.toNat)=true:=by rw[qhh hlen];exact Vr
 have bT:List.foldl (λx1 x2=>x1++x2) #[] (List.replicate (if its.toArray.isEmpty=true then 0 else k.toNat) its.toArray)=(List.replicate k.toNat its).flatten.toArray:=by
  have f0: ∀m:Nat,List.foldl (λx1 x2=>x1++x2) #[] (List.replicate m its.toArray)=(List.replicate m its).flatten.toArray:=λm=>by have:=qfw its m [];rw[List.nil_append] at this;exact this
  rw[f0];cases its with
  |nil=>simp
  |cons a r'=>rw[if_neg (by simp)]
 refine wpAny_binaryOp_repeat_ref (T:= "list") (U:= "int") (by decide) ⟨_,e,rfl⟩ (λs'=>typeIs_int s' k t) noFill_list_mul F.fills_int_mul F.slot_int_rmul repeat_list F.slot_int_index.lookup
  (Wa F.slot_int_rmul (typeIs_int s k t) F.entry_int_rmul (F.args_int_rmul_2 _ _) (int___rmul___int_list k t l its.toArray n)
   ⟨e,rfl,⟨_,e,rfl⟩,Wa F.slot_list_mul ⟨_,e,rfl⟩ F.entry_list_mul (F.args_list_mul_2 _ _) (AutoListH.list___mul___list_int_3 l its.toArray n k t gI gO bU) ⟨e,?_⟩⟩)
 rw[bT];exact⟨.ref _,_,I.lnew (t':=s.toks) (r.rep k.toNat) (by rw[qgr,Nat.mul_comm];exact hz),rfl,q _ I.fresh⟩
end
end L2
namespace Att
open PySem PySem.W PySem.Calls PyProof.Rows
theorem qdc: ∀(ns:List Int) (vs:List Value),WellAll P h vs (ns.map WData.int)->IntsAre vs ns:=by
 intro ns
 induction ns with
 |nil=>intro vs w;rw[List.map_nil] at w;cases w;exact .nil
 |cons n ns ih=>
  intro vs w;rw[List.map_cons] at w;cases w with
  |cons a b=>cases a;exact .cons _ _ (ih _ b)
theorem qjb {l:OpenLaw} {n:Nat} (hn:l.most=some n) {h:Heap} (ck:l.row.toRowW.claim.pre args=true) (f7:WellAll P h vals args):
  ∃a vs ns,vals=[Value.ref a]/\args=[WData.list (ns.map WData.int)]/\h.get? a=some { cls:=.type "list",data:=.seq vs.toArray }/\IntsAre vs ns/\ns.length<=n:=by
 have hsh:WShape.hasAll [] args [.list .int]=true:=(pre_splitW ck).1;have hc:l.pre.holds [] { args:=args }=true:=(pre_splitW ck).2;obtain⟨d,r,rfl,h1,h2⟩:=hasAllW_cons hsh;obtain rfl:=hasAllW_nil h2;obtain⟨xs,rfl,h3⟩:=hasW_list h1;obtain⟨ns,rfl⟩:=items_int h3;have hlen:ns.length<=n:=by
  unfold OpenLaw.pre at hc;have h4:(WTm.not (.lt (.lit (.int (n:Int))) (.len (.arg 0)))).holds [] { args:=[.list (ns.map .int)] }=true:=by have h4:=(holds_andW hc).1;rw[hn] at h4;exact h4
  have h5:=condW_of h4 (w_not (w_lt w_lit (w_len_list (w_arg rfl))));rw[List.length_map] at h5;refine Nat.le_of_not_lt λq=> ?_;have q':(n:Int)<((ns.length:Nat):Int):=by omega
  first
   |(rw[decide_eq_true q'] at h5;exact absurd h5 (by decide))
   |(simp at h5;omega)
 cases f7 with
 |cons w1 w2=>
  cases w2;cases w1 with
  |list ho gU=>exact⟨_,_,ns,rfl,rfl,ho,qdc ns _ gU,hlen⟩
theorem qjn(l:OpenLaw)(args:List WData):l.row.toRowW.claim.post args (.bool true) args=true:=
 postW_of (r:=l.row.toRowW) (X:=(true==true))
  (show WShape.has [] (.bool true) .bool=true by first|rfl|decide|simp[WShape.has,WShape.arms,WShape.armsAll])
  (show(WTm.eq .res (.lit (.bool true))).value [] { args:=args,res:=some (.bool true),after:=args }=some (.bool (true==true)) from w_eq_bool (w_res rfl) w_lit) rfl
theorem attach_call {l:OpenLaw} {n:Nat} {d:DefRec} (hn:l.most=some n) (eR:d.params.defaults=[]) (call: ∀(w:World) (s₀ ae:Shared) (mg mb:Str->Option Value) (fa:Addr) (o:Obj) (pm cd doc:Value) (a:Addr) (vs:List Value) (ns:List Int),
   Ground q loose [] XP w s₀ mg mb ae.heap->YP w ae.heap->
   ae.heap.get? fa=some o->o.data= .func (docDef d.name d.params d.body d.scope pm cd doc)->ae.heap.CodeRec cd d.name->mg d.name=some (.ref fa)->
   ae.heap.get? a=some { cls:=.type "list",data:=.seq vs.toArray }->IntsAre vs ns->ns.length<=n->ae.gens= #[]->
   codeAny (model l.prog w) callerA (.call (.ref fa) ⟨[.ref a],[]⟩) (λr s'=>r= .ok (.ret (.bool true))/\OldK ae.heap s'.heap/\s'.os=ae.os/\AllBare s'.gens) ae):
  WalkO q loose XP YP l.row.toRowW d [] (λf vs=>PySem.call f vs):=by intro w s₀ ae mg mb G Y fa o pm cd doc dV kV ho hd ba hD gv hg args vals as ck hlay hrd f7 hlo;obtain rfl:dV= .none:=Dflts.none hD eR;obtain rfl:kV= .none:=Dflts.noKw hD;obtain⟨a,vs,ns,rfl,rfl,cV,hints,hlen⟩:=qjb hn ck f7;refine enter_call (codeAny_mono (call w s₀ ae mg mb fa o pm cd doc a vs ns G Y ho (fd_plain hd) ba gv cV hints hlen hg) λr s' hq=> ?_);obtain⟨rfl,h2,h3,h4⟩:=hq;exact⟨.inl ⟨.bool true,.bool true,[],rfl,λ_=>rfl,.bool true,qjn l _,λ_=>⟨List.Pairwise.nil,λ_ hm=>(nomatch hm)⟩⟩,h2,h3,h4⟩
section
noncomputable def qwy(h:Heap)(L d:Addr):List (Addr×Obj):=(List.range h.objs.size).filterMap λa=>if a=L\/a=d then none else(h.get? a).map λo=>(a,o)
end
end Att
namespace L2
open PySem PySem.Spec PyProof.Rows
theorem qeR: ∀{vs:List Value} {ns:List Int},IntsAre vs ns->qat (ns.map V.int) vs
 |_,_,.nil=>.nil
 |_,_,.cons n t h=>.cons ⟨t,rfl⟩ (qeR h)
noncomputable def Only(H:Hp):Prop:= ∀b,H b=none\/∃o xs,H b=some (.frz o (.lst xs))
abbrev KOf{K:W.Frag}{h:Heap}(_:K.In h):W.Frag:=K
noncomputable def qar(s:Stmt):Arguments:=match s with
 |.FunctionDef _ a _ _ _ _ _ _ _ _=>a
 |_=>{ posonlyargs:=[],args:=[],vararg:=none,kwonlyargs:=[],kw_defaults:=[],kwarg:=none,defaults:=[] }
noncomputable def qay(s:Stmt):List Stmt:=match s with
 |.FunctionDef _ _ b _ _ _ _ _ _ _=>b
 |_=>[]
noncomputable def qae(s:Stmt):Scope:=match s with
 |.FunctionDef _ _ _ _ _ _ sc _ _ _=>sc
 |_=>{ kind:=.function,names:=[],isGenerator:=false,isCoroutine:=false }
abbrev CX0:CXT:=λ_ _ _ _ _ _=>False
abbrev E0:XK:=λ_ _ _=>False
structure Fun(K:W.Frag)(x qual:Str)(st:Stmt)(f:Addr)(fd:FuncData):Prop where
 ex: ∃(oc:Value) (od:Option Addr) (kV doc pm:Value) (an:Option Addr) (cdv ct:Value) (osl:Array (Option Value)),
  fd=W.fnOf x qual (qar st) (qay st) (qae st) .none kV doc pm an cdv ct/\K.lookup f=some ⟨oc,od,.func fd,osl⟩/\W.codeIn K cdv qual=true
 kp:W.keepIn K (.ref f)=true
section
theorem Fun.binds{K:W.Frag}{x qual:Str}{st:Stmt}{f:Addr}{fd:FuncData}{ps:List Str}(F:Fun K x qual st f fd)(h: ∀(kV doc pm:Value) (an:Option Addr) (cdv ct:Value) (us:List Value),us.length=ps.length->bindArgs (W.fnOf x qual (qar st) (qay st) (qae st) .none kV doc pm an cdv ct) ⟨us,[]⟩=pure (ps.zip us)):qa0 K fd ps []:=by obtain⟨oc,od,kV,doc,pm,an,cdv,ct,osl,rfl,lk,ba⟩:=F.ex;exact .all (h kV doc pm an cdv ct)
theorem qka{K:W.Frag}{x qual:Str}{st:Stmt}{f:Addr}{oc:Value}{od an:Option Addr}{osl:Array (Option Value)}{kV doc pm cdv ct:Value}(l:K.lookup f=some ⟨oc,od,.func (W.fnOf x qual (qar st) (qay st) (qae st) .none kV doc pm an cdv ct),osl⟩)(c:W.codeIn K cdv qual=true)(k:W.keepIn K (.ref f)=true):Fun K x qual st f (W.fnOf x qual (qar st) (qay st) (qae st) .none kV doc pm an cdv ct):=⟨⟨oc,od,kV,doc,pm,an,cdv,ct,osl,rfl,l,c⟩,k⟩
end
theorem qcS(h:n<=1000):n<sizeLine:=Nat.lt_of_le_of_lt h (by decide)
theorem qxx{A B:Prop}(h:B):if false=true then A else B:=by rw[if_neg Bool.false_ne_true];exact h
theorem qxw{A B:Prop}(h:A):if true=true then A else B:=by rw[if_pos rfl];exact h
noncomputable def clOf(env:Env):List (Str×NameKind)->List (Str×Addr)->List (Str×Addr)
 |[],acc=>acc
 |x::r,acc=>clOf env r (if x.2== .free then(match env.cells.lookup x.1 with|some a=>(x.1,a)::acc|none=>acc) else acc)
theorem qdQ: ∀(names:List (Str×NameKind)) (acc:List (Str×Addr)),(∀x∈names,x.2= .free->∃c,env.cells.lookup x.1=some c)->
  (forIn names acc λx r=>(match x with|(name,kind)=>if(kind==NameKind.free)=true then do let a <-cellOf env name;pure (ForInStep.yield ((name,a)::r)) else pure (ForInStep.yield r):Sem (ForInStep (List (Str×Addr)))))=pure (clOf env names acc)
 |[],acc,_=>by rw[List.forIn_nil];rfl
 |(n,k)::r,acc,h=>by
  rw[List.forIn_cons];have ih:=λib=>qdQ (env:=env) r ib λx hx=>h x (Vl _ hx);by_cases hk:(k==NameKind.free)=true
  ·have gE:k= .free:=by simpa using hk
   obtain⟨c,hc⟩:=h (n,k) Vk gE;simp only[hk,if_true,cellOf,hc,clOf];exact ih _
  ·simp only[hk,if_false,clOf];exact ih _
theorem qix(h: ∀x∈scope.names,x.2= .free->∃c,env.cells.lookup x.1=some c):closureFor scope env=pure (clOf env scope.names []):=by have e:=qdQ (env:=env) scope.names [] h;unfold closureFor;exact(congrArg (λm=>m>>=λr=>pure r) e)
theorem qhz: ∀(names:List (Str×NameKind)) (acc:List (Str×Addr)),(∀y d,acc.lookup y=some d->env.cells.lookup y=some d)->
  (clOf env names acc).lookup x=some c->env.cells.lookup x=some c
 |[],acc,ha,h=>ha x c h
 |(n,k)::r,acc,ha,h=>by
  refine qhz r _ (λy d hy=> ?_) h;dsimp only at hy;by_cases hk:(k==NameKind.free)=true
  ·rw[if_pos hk] at hy;cases e:env.cells.lookup n with
   |none=>rw[e] at hy;exact ha y d hy
   |some a=>
    rw[e] at hy;dsimp only at hy;rw[List.lookup_cons] at hy;cases hb:y==n with
    |true=>rw[hb] at hy;have e1:y=n:=eq_of_beq hb;subst e1;rw[e];exact hy
    |false=>rw[hb] at hy;exact ha y d hy
  ·rw[if_neg hk] at hy;exact ha y d hy
theorem qdj: ∀(names:List (Str×NameKind)) (acc:List (Str×Addr)),env.cells.lookup x=some c->(acc.lookup x=some c\/(x,NameKind.free)∈names)->
  (clOf env names acc).lookup x=some c
 |[],acc,hc,h=>by
  rcases h with h|h
  ·exact h
  ·cases h
 |(n,k)::r,acc,hc,h=>by
  refine qdj r _ hc ?_;dsimp only;by_cases hk:(k==NameKind.free)=true
  ·rw[if_pos hk];by_cases hn:x=n
   ·subst hn;rw[hc];exact .inl (by simp[List.lookup_cons])
   ·have hb:(x==n)=false:=by simpa using hn
    cases e:env.cells.lookup n with
    |none=>
     rcases h with h|h
     ·exact .inl h
     ·rcases List.mem_cons.mp h with h|h
      ·cases h;exact absurd rfl hn
      ·exact .inr h
    |some a=>
     dsimp only
     rcases h with h|h
     ·exact .inl (by rw[List.lookup_cons,hb];exact h)
     ·rcases List.mem_cons.mp h with h|h
      ·cases h;exact absurd rfl hn
      ·exact .inr h
  ·rw[if_neg hk]
   rcases h with h|h
   ·exact .inl h
   ·rcases List.mem_cons.mp h with h|h
    ·cases h;exact absurd rfl hk
    ·exact .inr h
theorem qbr {env:Env} {x:Str} {k:NameKind}: ∀{names:List (Str×NameKind)},(∀y∈names,y.2≠.cell)->k= .cell\/k= .free->
  (names.map λ(n,k)=>if(k==NameKind.free&&env.scope.kind== .function&&env.kindOf n==some .cell) then(n,NameKind.cell) else(n,k)).lookup x=some k->names.lookup x=some .free
 |[],_,_,h=>by simp at h
 |(n,k')::r,hc,hk,h=>by
  have ih:=@qbr env x k r (λy hy=>hc y (Vl _ hy)) hk;rw[List.map_cons] at h;dsimp only at h;by_cases hf:(k'==NameKind.free&&env.scope.kind== .function&&env.kindOf n==some .cell)=true
  ·rw[if_pos hf] at h;have gE:k'= .free:=by have:=hf;simp only[Bool.and_eq_true,beq_iff_eq] at this;exact this.1.1
   subst gE;cases hx:x==n with
   |true=>simp[List.lookup_cons,hx]
   |false=>simp only[List.lookup_cons,hx] at h⊢;exact ih h
  ·rw[if_neg hf] at h;cases hx:x==n with
   |true=>
    simp only[List.lookup_cons,hx] at h⊢;cases h;have aH:=hc (n,k) Vk
    rcases hk with e|e
    ·exact absurd e aH
    ·rw[e]
   |false=>simp only[List.lookup_cons,hx] at h⊢;exact ih h
theorem qco {env:Env} {x:Str}: ∀{names:List (Str×NameKind)},names.lookup x=some .free->
  let m:=(names.map λ(n,k)=>if(k==NameKind.free&&env.scope.kind== .function&&env.kindOf n==some .cell) then(n,NameKind.cell) else(n,k)).lookup x
  m=some .cell\/m=some .free
 |[],h=>by simp at h
 |(n,k)::r,h=>by
  have ih:=@qco env x r;dsimp only at ih⊢;rw[List.map_cons];dsimp only;cases hx:x==n with
  |true=>
   simp only[List.lookup_cons,hx] at h;cases h;by_cases hf:(NameKind.free==NameKind.free&&env.scope.kind== .function&&env.kindOf n==some .cell)=true
   ·rw[if_pos hf];exact .inl (by simp[List.lookup_cons,hx])
   ·rw[if_neg hf];exact .inr (by simp[List.lookup_cons,hx])
  |false=>
   simp only[List.lookup_cons,hx] at h;by_cases hf:(k==NameKind.free&&env.scope.kind== .function&&env.kindOf n==some .cell)=true
   ·rw[if_pos hf];simp only[List.lookup_cons,hx];exact ih h
   ·rw[if_neg hf];simp only[List.lookup_cons,hx];exact ih h
noncomputable def qas(X:Cx)(scope:Scope)(own:List Str)(fr:List (Str×Nat))(fp:List Addr)(s3:Shared)(H3:Hp):Cx where
 prog:=X.prog
 w:=X.w
 K:=X.K
 mg:=X.mg
 base:=X.base
 A:=X.A
 N:=own++fr.map (·.1)
 s₀:=s3
 H₀:=H3
 env:=compEnvC scope (clOf X.env scope.names []) s3.heap.objs.size X.env
 outer:=X.stack
 stack:=X.stack
 ex:=fp
 calm:=X.calm
 fn:=λ_=>false
 pn:=[]
 xe:=λ_ _=>False
noncomputable def qeZ(own:List Str)(fr:List (Str×Nat))(σ:St):St:=own.map (λ_=>none)++fr.map λp=>(σ[p.2]?).join
noncomputable def qiE(Y:Cx)(ifs:List Expr)(tt:TT):Prop:=
 ∀(pins:List (Addr×Obj)) (s:Shared) (σ:St) (H:Hp) (Q:Bool->Hp->Prop),Inv Y pins σ H s->tt σ H Q->
  wpAny (model Y.prog Y.w) Y.A (forIn ifs true λc r=>if r=true then do let ok <-isTrue c Y.env (eval c Y.env);pure (ForInStep.yield ok) else pure (ForInStep.yield r)) (TP Y pins σ Q) Y.xe s
noncomputable def qoo:TT:=λ_ H Q=>Q true H
theorem qlN:qiE Y [] qoo:=λ_ _ _ H _ I h=>wpAny_tests_nil ⟨H,I,h⟩
theorem qlM(h:PT Y c t):qiE Y [c] t:=λpins s σ H Q I q=>wpAny_tests_one (h pins s σ H Q I q)
section
theorem qiz (hE: ∀e s',Ex e s'->notedBy (model prog w) A env (λe s'=>R (.error e) s') e s') (J:Nat->Shared->Prop) (turn: ∀n s,J n s->wpAny (model prog w) A (pyNext it) (λr s1=>match r with
   |none=>R (.ok .next) s1
   | some v=>wpAny (model prog w) A (letOwnedTupleGo tg it v) (λ_ s2=>wpAny (model prog w) A (assign tg env v) (λ_ s3=>
     wpAny (model prog w) A (forIn ifs true λc r=>if r=true then do let ok <-isTrue c env (eval c env);pure (ForInStep.yield ok) else pure (ForInStep.yield r)) (λok s4=>
      if ok=true then wpAny (model prog w) A (eval elt env) (λx s5=>wpAny (model prog w) A (call (.builtin "list.append") [acc,x]) (λ_ s6=> ∃m,m<n/\J m s6) Ex s5) Ex s4
      else ∃m,m<n/\J m s4) Ex s3) Ex s2) Ex s1) Ex s) (n:Nat) (h:J n s):codeAny (model prog w) A (.compLoop (.ListComp elt [⟨tg,iter,ifs,0⟩] scope pos) 0 it acc env) R s:=by
 refine codeAny_loop rfl J (λn s hJ=> ?_) n h;show wpAny _ A ((compTurn (.ListComp elt [⟨tg,iter,ifs,0⟩] scope pos) 0 it acc env).onRaise (λx=>do noteFrame x env;theTreesLotGoes x)) _ _ s;refine wpAny_noted ?_;rw[compTurn_list];have go: ∀{α:Type} {t:Sem α} {Q Q':α->Shared->Prop} {s:Shared},wpAny (model prog w) A t Q Ex s->(∀a s,Q a s->Q' a s)->wpAny (model prog w) A t Q' (notedBy (model prog w) A env λe s'=>R (.error e) s') s:=λh hQ=>Vc h hQ hE;refine Va (wpAny_standAt (Va (go (turn n s hJ) λr s1 h1=> ?_)));cases r with
 |none=>exact Vb h1
 |some v=>
  refine Va (go h1 λ_ s2 h2=>Va (go h2 λ_ s3 h3=>Va (go h3 λok s4 h4=> ?_)));cases ok with
  |false=>exact Vb ⟨rfl,h4⟩
  |true=>exact Va (Va (go h4 λx s5 h5=>Va (go h5 λ_ s6 h6=>Vb (Vb ⟨rfl,h6⟩))))
end
noncomputable def qv5(J:It)(D:Addr)(g:TG)(tt:TT)(te:TE)(σ0:St)(H0:Hp)(Q:Addr->Hp->Prop):Prop:=
 ∃W:Nat->Nat->St->Hp->Prop,(∃m,W 0 m σ0 H0)/\∀i m cD H2,W i m cD H2->
  (J.stop i H2/\Q D H2)\/(J.go i H2/\∃(Ny:St->V->Hp->Prop) (Nn:St->Hp->Prop),
   (∀aE y H6,Ny aE y H6->∃ys,H6 D=some (.lst ys)/\ys.length<sizeLine/\∃m',m'<m/\W (i+1) m' aE (upd H6 D (.lst (ys++[y]))))/\
   (∀aE H5,Nn aE H5->∃m',m'<m/\W (i+1) m' aE H5)/\
   ∀x H3,J.yld i H2 x H3->g x cD H3 λaE H4=>tt aE H4 λb H5=>if b=true then te aE H5 (Ny aE) else Nn aE H5)
noncomputable def qeX(wi:TI)(g:TG)(tt:TT)(te:TE)(own:List Str)(fr:List (Str×Nat))(σ:St)(H:Hp)(Q:Addr->Hp->Prop):Prop:=
 wi σ H λJ H1=> ∀D,H1 D=none->qv5 J D g tt te (qeZ own fr σ) (upd H1 D (.lst [])) Q
section
theorem qmP {X:Cx} {elt:Expr} {tg:Expr} {iter:Expr} {ifs:List Expr} {scope:Scope} {pos:Pos} {own:List Str} {fr:List (Str×Nat)} {wi:TI} {g:TG} {tt:TT} {te:TE} {R:Value->Env->Result->Shared->Prop} {xe:List Addr->Shared->Hp->Value->Shared->Prop} {pins:List (Addr×Obj)} {σ:St} {H:Hp} {s:Shared} {Q:Addr->Hp->Prop} (hc:X.calm=true) (hi:PI X tg iter wi) (hk:scope.kind= .function) (ai: ∀y∈scope.names,y.2≠.cell) (ah: ∀y∈scope.names,y.2= .free->X.env.kindOf y.1=some .cell\/X.env.kindOf y.1=some .free) (bj: ∀p∈fr,X.N[p.2]? =some p.1/\scope.names.lookup p.1=some .free) (hb: ∀(fp:List Addr) (s3:Shared) (H3:Hp),PG ((qas X scope own fr fp s3 H3).wish (xe fp s3 H3)) tg g/\qiE ((qas X scope own fr fp s3 H3).wish (xe fp s3 H3)) ifs tt/\PE ((qas X scope own fr fp s3 H3).wish (xe fp s3 H3)) elt te) (I:Inv X pins σ H s) (h:qeX wi g tt te own fr σ H Q) (fin: ∀(D:Addr) (ce:Env) (H':Hp) (s':Shared) (m:Str->Option Value),Inv X pins σ H' s'->qgK X pins H' ce.locals->s'.heap.Ns ce.locals m->Q D H'->R (.ref D) ce (.ok .next) s') (g8: ∀(D:Addr) (fp:List Addr) (s3:Shared) (H3:Hp) (e:Value) (s':Shared),Inv X pins σ H3 s3->(∀b∈fp,b<s3.heap.objs.size/\qgK X pins H3 b)->xe fp s3 H3 e s'->
   notedBy (model X.prog X.w) X.A (compEnvC scope (clOf X.env scope.names []) s3.heap.objs.size X.env) (λx s''=>R (.ref D) (compEnvC scope (clOf X.env scope.names []) s3.heap.objs.size X.env) (.error x) s'') e s'):
  wpAny (model X.prog X.w) X.A (eval iter X.env) (λx s1=>wpAny (model X.prog X.w) X.A (pyIter x) (λit s2=>wpAny (model X.prog X.w) X.A (newList []) (λacc s3=>
   wpAny (model X.prog X.w) X.A (newFunctionEnv scope X.env.globals (clOf X.env scope.names []) [] X.env.qual none .none (some X.env)) (λce s4=>
    codeAny (model X.prog X.w) X.A (.compStart (.ListComp elt [⟨tg,iter,ifs,0⟩] scope pos) 0 it acc { ce with scope:=relabel scope X.env }) (R acc { ce with scope:=relabel scope X.env }) s4) X.xe s3) X.xe s2) X.xe s1) X.xe s:=by
 have gM: ∀x∈scope.names,x.2= .free->∃c,X.env.cells.lookup x.1=some c:=λx hx e=>I.ok.has x.1 (ah x hx e);refine thn (hi pins s σ H _ I h) λxv s1 h1=>thn h1 λitv s2 h2=> ?_;obtain⟨it,fp,tn,J,H2,rfl,I2,T,ff,f2,h2⟩:=h2;refine wpAny_newObj_type (hd:=by size_fits) ?_;generalize hD:s2.heap.objs.size=D;have I3:Inv X pins σ (upd H2 D (.lst [])) { s2 with heap:=s2.heap.push { cls:=.type "list",dict:=none,data:=.seq ([]:List Value).toArray } }:=by rw[<-hD];exact I2.lnew (its:=[]) (ys:=[]) (t':=s2.toks) .nil (Nat.zero_le _)
 have nD:H2 D=none:=I2.hok.fresh (Nat.le_of_eq hD);obtain⟨W,⟨m0,w0⟩,turn⟩:=h2 D nD;have f3: ∀b∈fp,b<s2.heap.objs.size/\qgK X pins (upd H2 D (.lst [])) b:=λb hb=>by obtain⟨o,e,_⟩:=T.obj _ _ ff b hb;have lt:=Vi e;exact⟨lt,by rw[qad (by rw[<-hD];exact Vo lt)];exact(f2 b hb).1,(f2 b hb).2⟩
 have st3:tn 0 (s2.heap.push { cls:=.type "list",dict:=none,data:=.seq ([]:List Value).toArray }):=T.keep _ _ _ ff λb _ o e=>Vg _ e;generalize hs3:({ s2 with heap:=s2.heap.push { cls:=.type "list",dict:=none,data:=.seq ([]:List Value).toArray } }:Shared)=s3 at I3⊢;have iN:s3.heap=s2.heap.push { cls:=.type "list",dict:=none,data:=.seq ([]:List Value).toArray }:=by rw[<-hs3]
 rw[<-iN] at st3;have iu:s3.heap.objs.size=s2.heap.objs.size+1:=by rw[iN,Heap.size_push]
 generalize gY:upd H2 D (.lst [])=H3 at I3 w0 f3;refine wpAny_newFunctionEnv ai (by intro y hy;simp at hy) (λh4 hn4 hs4=> ?_) hk;have bO: ∀b o,s3.heap.get? b=some o->h4.get? b=some o:=λb o e=>
  (hs4.2 b (Vo (Vi e))).trans (Vg _ e)
 generalize cR:({ s3 with heap:=h4,toks:=s3.toks+([]:List (Str×Value)).length }:Shared)=s4;have dA:s4.heap=h4:=by rw[<-cR]
 have aK: ∀x c,(clOf X.env scope.names []).lookup x=some c->X.env.cells.lookup x=some c:=λx c=>qhz _ _ (λ_ _ z=>by cases z);have Y0:Inv ((qas X scope own fr fp s3 H3).wish (xe fp s3 H3)) [] (qeZ own fr σ) H3 s4:=by
  refine⟨⟨I3.ok.mod,hk,I3.ok.glob,I3.ok.blt,Vm _,λx y c h1 h2=>I3.ok.inj x y c (aK x c h1) (aK y c h2),λx hx=> ?_,λx c z=>absurd (show false=true from z) Vr,I3.ok.hd,I3.ok.frames,.inl rfl,λb hb=>⟨?_,λx c e=>(f3 b hb).2.2.2.2.2.1 x c (aK x c e)⟩,
   I3.bs,Vq I3.ok.bsz I3.sz,λb o e hb=> ?_,λb hb z=> ?_,I3.stack,I3.stkFree⟩,by rw[<-cR];rfl,by rw[<-cR];exact I3.bare,?_,⟨_,by rw[dA];exact hn4,λi x v e1 e2 e3=> ?_⟩,λx c e=> ?_,I3.hok.fresh (Vm _),λx c e=>I3.freeC x c (aK x c e),λp hp=>absurd (show p∈([]:List (Addr×Obj)) from hp) (by simp),?_,?_⟩
  ·have b7:(relabel scope X.env).names.lookup x=some .cell\/(relabel scope X.env).names.lookup x=some .free:=hx;have hf:scope.names.lookup x=some .free:=by
    rcases b7 with z|z
    ·exact qbr ai (.inl rfl) z
    ·exact qbr ai (.inr rfl) z
   obtain⟨c,hc⟩:=gM (x,.free) (Vv hf) rfl;exact⟨c,qdj _ _ hc (.inr (Vv hf))⟩
  ·have:=(f3 b hb).1;exact Vo (Vn this (show s2.heap.objs.size<=s3.heap.objs.size by rw[iu];exact Nat.le_succ _))
  ·rcases(f3 b hb).2.2.2.2.1 with z|z
   ·exact I3.ok.noex b o e z
   ·exact absurd (Vn (Vi (I3.ok.bs b o e).1) z) (Nat.lt_irrefl _)
  ·rcases List.mem_cons.mp (I3.stkSub b z) with q|q
   ·exact(f3 b hb).2.2.1 q
   ·exact(f3 b hb).2.2.2.1 q
  ·exact Un.kept (by rw[dA];exact bO)
  ·
   have aS:own.length<=i:=by
    by_cases q:own.length<=i
    ·exact q
    ·exfalso;have bZ:(own.map (λ_=>(none:Option V))++fr.map λp=>(σ[p.2]?).join)[i]? =some (some v):=e2;rw[List.getElem?_append_left (by simpa using q),List.getElem?_map] at bZ;cases q2:own[i]? with
     |none|some z=>rw[q2] at bZ;cases bZ
   have bZ:(own.map (λ_=>(none:Option V))++fr.map λp=>(σ[p.2]?).join)[i]? =some (some v):=e2;rw[List.getElem?_append_right (by simpa using aS),List.getElem?_map,List.length_map] at bZ;have hU:(own++fr.map (·.1))[i]? =some x:=e1;rw[List.getElem?_append_right aS,List.getElem?_map] at hU;cases q2:fr[i - own.length]? with
   |none=>rw[q2] at bZ;cases bZ
   |some p=>
    rw[q2] at hU bZ;obtain rfl:p.1=x:=Option.some.inj hU;have e4:(σ[p.2]?).join=some v:=Option.some.inj bZ;have e5:σ[p.2]? =some (some v):=by
     cases q3:σ[p.2]? with
     |none=>rw[q3] at e4;cases e4
     |some z=>rw[q3] at e4;exact congrArg some e4
    obtain⟨g1,g2⟩:=bj p (Vu q2);have kx:=ah (p.1,.free) (Vv g2) rfl;obtain⟨mX,hnX,hlX⟩:=I3.loc;obtain⟨u,ru,lu⟩:=hlX p.2 p.1 v g1 e5 (kx.elim (λz=>.inr (.inl z)) λz=>.inr (.inr z));refine⟨u,ru,.inr ⟨qco g2,?_⟩⟩
    rcases lu with⟨z,_⟩|⟨_,c,e6,e7⟩
    ·rcases kx with kx|kx
     ·rw[kx] at z;cases z
     ·rw[kx] at z;cases z
    ·obtain⟨oc,dz,hd⟩:=e7;exact⟨c,qdj _ _ e6 (.inr (Vv g2)),oc,by rw[dA];exact bO _ _ dz,hd⟩
  ·obtain⟨v,oc,dz,hd⟩:=I3.cell x c (aK x c e);exact⟨v,oc,by rw[dA];exact bO _ _ dz,hd⟩
  ·exact I3.hok.kept (by rw[dA];exact bO)
  ·show(own.map (λ_=>(none:Option V))++fr.map λp=>(σ[p.2]?).join).length=(own++fr.map (·.1)).length;simp
 have fY: ∀{H':Hp},(∀b∈fp,H' b=none)->∀b∈fp,qgK ((qas X scope own fr fp s3 H3).wish (xe fp s3 H3)) [] H' b:=λ{H'} hn b hb=>
  ⟨hn b hb,(Y0.ok.exf b hb).1,Y0.ok.exfs b hb,.inl hb,(Y0.ok.exf b hb).2,λp hp=>absurd (show p∈([]:List (Addr×Obj)) from hp) (by simp)⟩
 have iz:tn 0 s4.heap:=T.keep _ _ _ st3 (by rw[dA];exactλb _ o e=>bO b o e);have iQ:((qas X scope own fr fp s3 H3).wish (xe fp s3 H3)).calm=true:=hc;obtain⟨hg,ht,he⟩:=hb fp s3 H3;have loop:codeAny (model X.prog X.w) X.A (.compLoop (.ListComp elt [⟨tg,iter,ifs,0⟩] scope pos) 0 (.ref it) (.ref D) (compEnvC scope (clOf X.env scope.names []) s3.heap.objs.size X.env)) (R (.ref D) (compEnvC scope (clOf X.env scope.names []) s3.heap.objs.size X.env)) s4:=by
  refine qiz (Ex:=xe fp s3 H3) (λe s' q=>g8 D fp s3 H3 e s' I3 (λb hb=>⟨Vn (f3 b hb).1 (by rw[iu];exact Nat.le_succ _),(f3 b hb).2⟩) q) (λn s'=> ∃i ag H',Inv ((qas X scope own fr fp s3 H3).wish (xe fp s3 H3)) [] ag H' s'/\tn i s'.heap/\(∀b∈fp,H' b=none)/\W i n ag H') ?_ m0 ⟨0,_,_,Y0,iz,λb hb=>(f3 b hb).2.1,w0⟩;rintro n s5 ⟨i,cq,H5,I5,st5,fJ,w5⟩
  rcases turn i n cq H5 w5 with⟨stop,q⟩|⟨go,Ny,Nn,hNy,hNn,step⟩
  ·refine thn (T.done ((qas X scope own fr fp s3 H3).wish (xe fp s3 H3)) rfl rfl rfl iQ i [] s5 cq H5 _ I5 (fY fJ) st5 stop) λr s6 eD=> ?_;obtain⟨hr,I6⟩:=eD;subst hr;have IX:Inv X pins σ H5 s6:=I3.call' (ch:=fp) I6.os I6.base I6.hok I6.bare λb hb=>⟨(f3 b hb).2.2.2.2.1,(f3 b hb).2.2.1,(f3 b hb).2.2.2.2.2.1,(f3 b hb).2.2.2.2.2.2⟩
   obtain⟨m6,hn6,_⟩:=I6.loc;exact fin D _ H5 s6 m6 IX (I3.fpOk (Vm _) I6.free) hn6 q
  ·refine thn (T.item ((qas X scope own fr fp s3 H3).wish (xe fp s3 H3)) rfl rfl rfl iQ i [] s5 cq H5 _ I5 (fY fJ) st5 go) λr s6 eC=> ?_;obtain⟨u,hr,h6⟩:=eC;subst hr;refine thn h6 λ_ s7 eB=> ?_;obtain⟨x,H7,I7,r7,y7,fO,fr7⟩:=eB;have I7':=I7.pinned (fY fr7) (T.obj _ _ fO);refine thn (hg _ s7 cq H7 x u _ I7' r7 (step x H7 y7)) λ_ s8 eA=> ?_;obtain⟨bE,H8,I8,q8⟩:=eA;refine thn (ht _ s8 bE H8 _ I8 q8) λb s9 eh=> ?_;obtain⟨H9,I9,q9⟩:=eh;have again: ∀{s':Shared} {H':Hp} {m':Nat},Inv ((qas X scope own fr fp s3 H3).wish (xe fp s3 H3)) ([]++qfa fp s7.heap) bE H' s'->m'<n->W (i+1) m' bE H'->∃m,m<n/\∃i ag H',Inv ((qas X scope own fr fp s3 H3).wish (xe fp s3 H3)) [] ag H' s'/\tn i s'.heap/\(∀b∈fp,H' b=none)/\W i m ag H':=λ{s' H' m'} I' hm w'=>by refine⟨m',hm,i+1,bE,H',I'.unpinned,T.keep _ _ _ fO λb hb o e=>(I'.pin (b,o) (Vt _ (Vt _ (qby hb e)))).1,λb hb=> ?_,w'⟩;obtain⟨o,e,d⟩:=T.obj _ _ fO b hb;exact(I'.pin (b,o) (Vt _ (Vt _ (qby hb e)))).2.1
   cases b with
   |false=>obtain⟨m',hm,w'⟩: ∃m',m'<n/\W (i+1) m' bE H9:=hNn bE H9 (by simpa using q9);show ∃m,_;exact again I9 hm w'
   |true=>
    have q9':te bE H9 (Ny bE):=by simpa using q9
    show wpAny _ _ _ _ _ _;refine thn (he _ s9 bE H9 _ I9 q9') λxv s10 ee=> ?_;obtain⟨y,jb,I10,r10,q10⟩:=ee;obtain⟨ys,hys,hlen,m',hm,w'⟩:=hNy bE y jb q10;refine thn (qff _ s10 bE jb (.ref D) [y] (.ref D) [xv] (λ_ H'=> ∃m',m'<n/\W (i+1) m' bE H') I10 rfl (.cons r10 .nil) ⟨D,ys,y,rfl,rfl,hys,hlen,m',hm,w'⟩) λ_ s11 ed=> ?_;obtain⟨_,H11,I11,_,m2,gy,w2⟩:=ed;exact again I11 gy w2
 refine codeAny_compStart_list ?_ ?_
 ·exact loop
 ·exact T.self X.A 0 s4 _ _ iz loop
theorem comp_core {X:Cx} {elt:Expr} {tg:Expr} {iter:Expr} {ifs:List Expr} {scope:Scope} {pos:Pos} {fP:Pos} {own:List Str} {fr:List (Str×Nat)} {wi:TI} {g:TG} {tt:TT} {te:TE} {use:Option (Value->Sem Unit)} {Qf:Value->Shared->Prop} {pins:List (Addr×Obj)} {σ:St} {H:Hp} {s:Shared} {Q:Addr->Hp->Prop} (hc:X.calm=true) (hi:PI X tg iter wi) (hk:scope.kind= .function) (ai: ∀y∈scope.names,y.2≠.cell) (au: ∀y∈scope.names,y.2= .local->scope.names.lookup y.1=some .local) (ah: ∀y∈scope.names,y.2= .free->X.env.kindOf y.1=some .cell\/X.env.kindOf y.1=some .free) (bj: ∀p∈fr,X.N[p.2]? =some p.1/\scope.names.lookup p.1=some .free) (hb: ∀(fp:List Addr) (s3:Shared) (H3:Hp),PG (qas X scope own fr fp s3 H3) tg g/\qiE (qas X scope own fr fp s3 H3) ifs tt/\PE (qas X scope own fr fp s3 H3) elt te) (hs: ∀x,foldedSetIterable iter X.env x=pure x) (I:Inv X pins σ H s) (h:qeX wi g tt te own fr σ H Q) (fin: ∀(D C:Addr) (H':Hp) (s':Shared) (m:Str->Option Value),Inv X pins σ H' s'->qgK X pins H' C->s'.heap.Ns C m->Q D H'->compPost (model X.prog X.w) X.A X.xe use Qf (.ref D) C (.ok .next) s'):
  wpAny (model X.prog X.w) X.A (comprehension (.ListComp elt [⟨tg,iter,ifs,0⟩] scope pos) scope X.env fP (newList []) false (eval iter X.env) use) Qf X.xe s:=
 wpAny_comprehension_free (cl:=clOf X.env scope.names []) rfl hs (qix λx hx e=>I.ok.has x.1 (ah x hx e)) hk au
  (qmP (R:=λacc ce=>compPost (model X.prog X.w) X.A X.xe use Qf acc ce.locals) (xe:=λ_ _ _ _ _=>False) hc hi hk ai ah bj hb I h (λD ce=>fin D ce.locals) λ_ _ _ _ _ _ _ _ z=>z.elim)
theorem qoY (hc:X.calm=true) (hi:PI X tg iter wi) (hk:scope.kind= .function) (ai: ∀y∈scope.names,y.2≠.cell) (au: ∀y∈scope.names,y.2= .local->scope.names.lookup y.1=some .local) (ah: ∀y∈scope.names,y.2= .free->X.env.kindOf y.1=some .cell\/X.env.kindOf y.1=some .free) (bj: ∀p∈fr,X.N[p.2]? =some p.1/\scope.names.lookup p.1=some .free) (hb: ∀(fp:List Addr) (s3:Shared) (H3:Hp),PG (qas X scope own fr fp s3 H3) tg g/\qiE (qas X scope own fr fp s3 H3) ifs tt/\PE (qas X scope own fr fp s3 H3) elt te) (hs: ∀x,foldedSetIterable iter X.env x=pure x:=by intro _; rfl):
  PE X (.ListComp elt [⟨tg,iter,ifs,0⟩] scope pos) (λσ H Q=>qeX wi g tt te own fr σ H λD H'=>Q (.ref D) H'):=by intro pins s σ H Q I h;rw[eval_ListComp];refine comp_core (use:=none) hc hi hk ai au ah bj hb hs I h λD C H' s' m I' f' hn q=> ?_;obtain⟨f0,f1,f2,f3,f4,f5⟩:=f';exact⟨m,hn,λh' cz=>⟨.ref D,H',I'.turned (t':=s'.toks) (λb o hb e=>(cz.2 b hb).trans e) f0 f1 f3 f4 f5,rfl,q⟩⟩
theorem ps_setcomp (hc:X.calm=true) (hi:PI X tg iter wi) (hk:scope.kind= .function) (ai: ∀y∈scope.names,y.2≠.cell) (au: ∀y∈scope.names,y.2= .local->scope.names.lookup y.1=some .local) (ah: ∀y∈scope.names,y.2= .free->X.env.kindOf y.1=some .cell\/X.env.kindOf y.1=some .free) (bj: ∀p∈fr,X.N[p.2]? =some p.1/\scope.names.lookup p.1=some .free) (hb: ∀(fp:List Addr) (s3:Shared) (H3:Hp),PG (qas X scope own fr fp s3 H3) tg g/\qiE (qas X scope own fr fp s3 H3) ifs tt/\PE (qas X scope own fr fp s3 H3) elt te) (hN:X.N.Nodup) (gG:X.N[i]? =some y) (hy:X.env.scope.names.lookup y=some .local) (bu:swapsWith (.ListComp elt [⟨tg,iter,ifs,0⟩] scope pos) (some (.Name y py)) spos.line X.env=pure true) (hs: ∀x,foldedSetIterable iter X.env x=pure x:=by intro _; rfl):
  PS X (.Assign [.Name y py] (.ListComp elt [⟨tg,iter,ifs,0⟩] scope pos) spos) (λD σ H=>qeX wi g tt te own fr σ H λd H'=>D.nx (σ.set i (some (.ref d))) H'):=by
 intro pins s σ H D I h;rw[exec_Assign_Name_used _ _ _ _ bu];refine Va (wpAny_standAt (Va ?_));show wpAny _ _ (do let _ <-comprehension (.ListComp elt [⟨tg,iter,ifs,0⟩] scope pos) scope X.env _ (newList []) false (eval iter X.env) (some (assign (.Name y py) X.env))) _ _ s;refine Va (thn (comp_core (use:=some (assign (.Name y py) X.env)) (Qf:=λ_ s'=>SP X pins D .next s') hc hi hk ai au ah bj hb hs I h λd C H' s' m I' f' hn q=> ?_) λ_ s' hq=>Vb (Vb hq));obtain⟨f0,f1,f2,f3,f4,f5⟩:=id f';show wpAny _ _ (assign (.Name y py) X.env (.ref d)) _ _ s';refine wpAny_assign_Name (qeY I' hN gG (.inl hy) (v:=.ref d) rfl (λs'' I'' ⟨a,sb,ha⟩=> ?_) (.inr hy));have aH:C≠a:=by
  rcases ha with rfl|ha
  ·exact f1
  ·exactλz=>f4 y a ha z.symm
 refine⟨m,hn.sameBut sb aH,λh' cz=>⟨_,H',I''.turned (t':=s''.toks) (λb o hb e=>(cz.2 b hb).trans e) f0 f1 f3 f4 f5,q⟩⟩
end
end L2
namespace St
open PySem.W PyProof.Rows
noncomputable def qdv{α:Type}(N:Nat)(ask:Nat->Nat->Bool):KasT α->(α->Prop)->Prop
 |.ret a,Q=>Q a
 |.ask i j k,Q=>i<N/\j<N/\qdv N ask (k (ask i j)) Q
theorem qa9: ∀{t:KasT α},qdv N ask t (λa=>qdv N ask (f a) Q)->qdv N ask (t.bind f) Q
 |.ret _,h=>h
 |.ask _ _ _,⟨h1,h2,h⟩=>⟨h1,h2,qa9 h⟩
theorem qaM{α:Type}{N:Nat}{ask:Nat->Nat->Bool}{Q Q':α->Prop}(hq: ∀a,Q a->Q' a): ∀{t:KasT α},qdv N ask t Q->qdv N ask t Q'
 |.ret _,h=>hq _ h
 |.ask _ _ _,⟨h1,h2,h⟩=>⟨h1,h2,qaM hq h⟩
noncomputable def g(p:Array Nat)(i:Nat):Nat:=p.getD i 0
theorem qsm(h:p[i]? =q[j]?):g p i=g q j:=by unfold g;rw[Array.getD_eq_getD_getElem?,Array.getD_eq_getD_getElem?,h]
theorem qmo(hj:j<=p.size)(t:Nat):g (kas_rev p i j) t=if i<=t/\t<j then g p (i+j - 1 - t) else g p t:=by
 have e:=getElem?_mirror_all (i:=i) hj t;by_cases h1:i<=t/\t<j
 ·rw[if_pos h1] at e⊢;exact qsm e
 ·rw[if_neg h1] at e⊢;exact qsm e
theorem qvj(hk:k<p.size)(hl:l<=k)(t:Nat):g (bubble p k (k - l)) t=if t=l then g p k else if l<t/\t<=k then g p (t - 1) else g p t:=by
 have e:=getElem?_bubble hk (k - l) (Nat.sub_le _ _) t;rw[show k - (k - l)=l by lia] at e;by_cases h1:t=l
 ·rw[if_pos h1] at e⊢;exact qsm e
 ·rw[if_neg h1] at e⊢;by_cases h2:l<t/\t<=k
  ·rw[if_pos h2] at e⊢;exact qsm e
  ·rw[if_neg h2] at e⊢;exact qsm e
theorem qef(p:Array Nat)(i j:Nat):(kas_rev p i j).size=p.size:=mirror_size _ _ _ _
section
variable (N:Nat)(k:Nat->Int)
noncomputable def L(a b:Nat):Prop:=k a<k b\/(k a=k b/\a<b)
structure Pre(n:Nat)(p:Array Nat):Prop where
 sz:p.size=N
 lo: ∀i,i<n->g p i<n
 hi: ∀i,n<=i->i<N->g p i=i
noncomputable def Srt(p:Array Nat)(n:Nat):Prop:= ∀i j,i<j->j<n->L k (g p i) (g p j)
noncomputable def Dsc(p:Array Nat)(n:Nat):Prop:= ∀i j,i<j->j<n->L k (g p j) (g p i)
structure qqr(p:Array Nat)(n q:Nat):Prop where
 pre:Pre N n p
 q1:q+1<=n
 a: ∀i j,i<j->j<n - (q+1)->L k (g p j) (g p i)
 b: ∀i j,i<n - (q+1)->n - (q+1)<=j->j<n->k (g p j)<k (g p i)
 c: ∀i j,n - (q+1)<=i->i<j->j<n->k (g p i)=k (g p j)/\g p i<g p j
noncomputable def qbV:Nat->Nat->Bool:=λi j=>decide (k i<k j)
end
section
theorem Pre.lt(h:Pre N n p)(hn:n<=N)(hi:i<N):g p i<N:=by
 by_cases q:i<n
 ·exact Vn (h.lo i q) hn
 ·rw[h.hi i (by lia) hi];exact hi
theorem L.le(h:L k a b):k a<=k b:=by
 rcases h with h|h
 ·lia
 ·lia
theorem Pre.more(h:Pre N n p)(hn:n<N):Pre N (n+1) p:=
 ⟨h.sz,λi hi=>by
  by_cases q:i<n
  ·exact Nat.lt_succ_of_lt (h.lo i q)
  ·have e:i=n:=by lia
   subst e;rw[h.hi i (Nat.le_refl _) hn];lia,λi h1 h2=>h.hi i (by lia) h2⟩
theorem qkZ {N:Nat} {k:Nat->Int} {p:Array Nat}: ∀(f n:Nat),1<=n->n+f<=N->Pre N n p->Srt k p n->
  qdv N (qbV k) (kas_asc p f n) λm=>n<=m/\m<=n+f/\Pre N m p/\Srt k p m/\(m=n+f\/k (g p m)<k (g p (m - 1)))
 |0,n,h1,hf,hp,hs=>⟨Vm _,Vm _,hp,hs,.inl rfl⟩
 |f+1,n,h1,hf,hp,hs=>by
  refine⟨hp.lt (by lia) (by lia),hp.lt (by lia) (by lia),?_⟩;show qdv N (qbV k) (if qbV k (g p n) (g p (n - 1))=true then .ret n else kas_asc p f (n+1)) _;by_cases hc:k (g p n)<k (g p (n - 1))
  ·rw[if_pos (by simpa [qbV] using hc)];exact⟨Vm _,by lia,hp,hs,.inr hc⟩
  ·rw[if_neg (by simpa [qbV] using hc)];have cz:Srt k p (n+1):=λi j aI hj=>by
    by_cases q:j<n
    ·exact hs i j aI q
    ·have e:j=n:=by lia
     subst e;have en:=hp.hi j (Vm _) (by lia);have lt:=hp.lo i aI;have le:k (g p i)<=k (g p (j - 1)):=by
      by_cases q2:i=j - 1
      ·rw[q2];exact Int.le_refl _
      ·exact(hs i (j - 1) (by lia) (by lia)).le
     unfold L;rw[en] at hc⊢;lia
   refine qaM (λm h=> ?_) (qkZ f (n+1) (by lia) (by lia) (hp.more (by lia)) cz);obtain⟨a,b,c,d,e⟩:=h;exact⟨by lia,by lia,c,d,e.elim (λz=>.inl (by lia)) .inr⟩
noncomputable def fin(p:Array Nat)(n q:Nat):Array Nat:=if q>0 then kas_rev p (n - (q+1)) n else p
theorem qqr.fin(h:qqr N k p n q)(hn:n<=N):Pre N n (fin p n q)/\Dsc k (fin p n q) n:=by
 unfold St.fin;by_cases hq:q>0
 ·rw[if_pos hq];have gr:=qmo (p:=p) (i:=n - (q+1)) (j:=n) (by rw[h.pre.sz];exact hn);refine⟨⟨by rw[qef];exact h.pre.sz,λi hi=> ?_,λi h1 h2=> ?_⟩,λi j aI hj=> ?_⟩
  ·rw[gr];split
   ·exact h.pre.lo _ (by lia)
   ·exact h.pre.lo _ hi
  ·rw[gr,if_neg (by lia)];exact h.pre.hi i h1 h2
  ·rw[gr,gr];have eE:=h.q1;by_cases q1:n - (q+1)<=j
   ·rw[if_pos (show n - (q+1)<=j/\j<n from⟨q1,hj⟩)];by_cases q2:n - (q+1)<=i
    ·rw[if_pos (show n - (q+1)<=i/\i<n from⟨q2,by lia⟩)];have e:=h.c (n - (q+1)+n - 1 - j) (n - (q+1)+n - 1 - i) (by lia) (by lia) (by lia);exact .inr e
    ·rw[if_neg (by lia)];exact .inl (h.b i _ (by lia) (by lia) (by lia))
   ·rw[if_neg (by lia),if_neg (by lia)];exact h.a i j aI (by lia)
 ·rw[if_neg hq];have e:q=0:=by lia
  subst e;refine⟨h.pre,λi j aI hj=> ?_⟩;have eE:=h.q1;by_cases q1:j<n - (0+1)
  ·exact h.a i j aI q1
  ·exact .inl (h.b i j (by lia) (by lia) hj)
theorem qgC {N:Nat} {k:Nat->Int}: ∀(f:Nat) (p:Array Nat) (n q:Nat),n+f<=N->qqr N k p n q->
  qdv N (qbV k) (kas_desc f p n q) λr=>n<=r.2.1/\r.2.1<=n+f/\qqr N k r.1 r.2.1 r.2.2
 |0,p,n,q,hf,h=>⟨Vm _,Vm _,h⟩
 |f+1,p,n,q,hf,h=>by
  have eE:=h.q1;have lt: ∀{i},i<N->g p i<N:=λhi=>h.pre.lt (by lia) hi;refine⟨lt (by lia),lt (by lia),?_⟩;have en:=h.pre.hi n (Vm _) (by lia)
  show qdv N (qbV k) (if qbV k (g p n) (g p (n - 1))=true then(if q>0 then kas_desc f (kas_rev p (n - (q+1)) n) (n+1) 0 else kas_desc f p (n+1) 0)
   else .ask (g p (n - 1)) (g p n) λd=>if d=true then .ret (p,n,q) else kas_desc f p (n+1) (q+1)) _
  have kle: ∀i,i<n->k (g p (n - 1))<=k (g p i):=λi hi=>by
   by_cases q1:i<n - (q+1)
   ·exact Int.le_of_lt (h.b i (n - 1) q1 (by lia) (by lia))
   ·by_cases q2:i=n - 1
    ·rw[q2];exact Int.le_refl _
    ·exact Int.le_of_eq (h.c i (n - 1) (by lia) (by lia) (by lia)).1.symm
  by_cases hc:k (g p n)<k (g p (n - 1))
  ·rw[if_pos (by simpa [qbV] using hc)];have key:qqr N k (fin p n q) (n+1) 0:=by
    obtain⟨fp,fd⟩:=h.fin (by lia);have e2:=fp.hi n (Vm _) (by lia);refine⟨fp.more (by lia),by lia,λi j aI hj=>fd i j aI (by lia),λi j hi h1 h2=> ?_,λi j h1 h2 h3=>by lia⟩;have ej:j=n:=by lia
    subst ej;rw[e2];rw[en] at hc;refine Int.lt_of_lt_of_le hc ?_;have: ∃i',i'<j/\g (fin p j q) i=g p i':=by
     unfold St.fin;by_cases hq:q>0
     ·rw[if_pos hq,qmo (by rw[h.pre.sz];lia)];split
      ·exact⟨_,by lia,rfl⟩
      ·exact⟨i,by lia,rfl⟩
     ·rw[if_neg hq];exact⟨i,by lia,rfl⟩
    obtain⟨i',aS,e3⟩:=this;rw[e3];exact kle i' aS
   have e:(if q>0 then kas_desc f (kas_rev p (n - (q+1)) n) (n+1) 0 else kas_desc f p (n+1) 0)=kas_desc f (fin p n q) (n+1) 0:=by
    unfold St.fin
    split<;>rfl
   rw[e];refine qaM (λr hr=>⟨by lia,by lia,hr.2.2⟩) (qgC f (fin p n q) (n+1) 0 (by lia) key)
  ·rw[if_neg (by simpa [qbV] using hc)];refine⟨lt (by lia),lt (by lia),?_⟩;show qdv N (qbV k) (if qbV k (g p (n - 1)) (g p n)=true then .ret (p,n,q) else kas_desc f p (n+1) (q+1)) _;by_cases hd:k (g p (n - 1))<k (g p n)
   ·rw[if_pos (by simpa [qbV] using hd)];exact⟨Vm _,Nat.le_add_right _ _,h⟩
   ·rw[if_neg (by simpa [qbV] using hd)];have ek:k (g p n)=k (g p (n - 1)):=by lia
    have key:qqr N k p (n+1) (q+1):=by
     refine⟨h.pre.more (by lia),by lia,λi j aI hj=>h.a i j aI (by lia),λi j hi h1 h2=> ?_,λi j h1 h2 h3=> ?_⟩
     ·by_cases e:j=n
      ·subst e;rw[ek];exact h.b i (j - 1) (by lia) (by lia) (by lia)
      ·exact h.b i j (by lia) (by lia) (by lia)
     ·by_cases e:j=n
      ·subst e;refine⟨?_,?_⟩
       ·rw[ek];by_cases e2:i=j - 1
        ·rw[e2]
        ·exact(h.c i (j - 1) (by lia) (by lia) (by lia)).1
       ·rw[en];exact h.pre.lo i h2
      ·exact h.c i j (by lia) h2 (by lia)
    exact qaM (λr hr=>⟨by lia,by lia,hr.2.2⟩) (qgC f p (n+1) (q+1) (by lia) key)
noncomputable def Out(N:Nat)(k:Nat->Int)(r:Nat×Array Nat):Prop:=1<=r.1/\r.1<=N/\Pre N r.1 r.2/\Srt k r.2 r.1
theorem qoj{N:Nat}{k:Nat->Int}{p:Array Nat}{n:Nat}(h1:1<=n)(hn:n<=N)(hp:Pre N n p)(hd:Dsc k p n):qdv N (qbV k) (kas_tail3 n N p) (Out N k):=by
 have gr:=qmo (p:=p) (i:=0) (j:=n) (by rw[hp.sz];exact hn);refine qa9 (qaM (λm h=> ?_) (qkZ (p:=kas_rev p 0 n) (N - n) n h1 (by lia) ⟨by rw[qef];exact hp.sz,λi hi=> ?_,λi h2 h3=> ?_⟩ λi j aI hj=> ?_))
 ·exact⟨by lia,by lia,h.2.2.1,h.2.2.2.1⟩
 ·rw[gr,if_pos ⟨Nat.zero_le _,hi⟩];exact hp.lo _ (by lia)
 ·rw[gr,if_neg (by lia)];exact hp.hi i h2 h3
 ·rw[gr,gr,if_pos ⟨Nat.zero_le _,by lia⟩,if_pos ⟨Nat.zero_le _,hj⟩];exact hd _ _ (by lia) (by lia)
theorem qdg{N:Nat}{k:Nat->Int}{p:Array Nat}{n:Nat}(hn:n+1<=N)(h:qqr N k p (n+1) 0):qdv N (qbV k) (kas_descPart n N p) (Out N k):=by
 refine qa9 (qaM (λr hr=> ?_) (qgC (N - (n+1)) p (n+1) 0 (by lia) h));obtain⟨h1,h2,h3⟩:=hr;obtain⟨f1,f2⟩:=h3.fin (by lia);have e:(if r.2.2>0 then kas_tail3 r.2.1 N (kas_rev r.1 (r.2.1 - (r.2.2+1)) r.2.1) else kas_tail3 r.2.1 N r.1)=kas_tail3 r.2.1 N (fin r.1 r.2.1 r.2.2):=by
  unfold St.fin
  split<;>rfl
 show qdv N (qbV k) (if r.2.2>0 then kas_tail3 r.2.1 N (kas_rev r.1 (r.2.1 - (r.2.2+1)) r.2.1) else kas_tail3 r.2.1 N r.1) _;rw[e];exact qoj (by lia) (by lia) f1 f2
theorem qmO{N:Nat}{k:Nat->Int}{p:Array Nat}(hN:1<=N)(hp:Pre N 1 p):qdv N (qbV k) (kas_count N p) (Out N k):=by
 refine qa9 (qaM (λn h=> ?_) (qkZ (p:=p) (N - 1) 1 (Vm _) (by lia) hp λi j h1 h2=>by lia));obtain⟨h1,h2,h3,h4,h5⟩:=h;by_cases e:n=N
 ·rw[if_pos (by simpa using e)];exact⟨h1,by lia,h3,h4⟩
 ·rw[if_neg (by simpa using e)];have aw:k (g p n)<k (g p (n - 1)):=h5.resolve_left (by lia);by_cases hg:n>1
  ·rw[if_pos hg];refine⟨h3.lt (by lia) (by lia),h3.lt (by lia) (by lia),?_⟩;show qdv N (qbV k) (if qbV k (g p 0) (g p (n - 1))=true then .ret (n,p) else kas_descPart n N (kas_rev p 0 n)) _;by_cases hc:k (g p 0)<k (g p (n - 1))
   ·rw[if_pos (by simpa [qbV] using hc)];exact⟨h1,by lia,h3,h4⟩
   ·rw[if_neg (by simpa [qbV] using hc)];have gr:=qmo (p:=p) (i:=0) (j:=n) (by rw[h3.sz];lia);have fS: ∀i,i<n->k (g p i)=k (g p (n - 1)):=λi hi=>by
     have a1:k (g p 0)<=k (g p i):=by
      by_cases q:i=0
      ·rw[q];exact Int.le_refl _
      ·exact(h4 0 i (by lia) hi).le
     have a2:k (g p i)<=k (g p (n - 1)):=by
      by_cases q:i=n - 1
      ·rw[q];exact Int.le_refl _
      ·exact(h4 i (n - 1) (by lia) (by lia)).le
     lia
    refine qdg (by lia) ⟨Pre.more ⟨by rw[qef];exact h3.sz,λi hi=> ?_,λi q1 q2=> ?_⟩ (by lia),by lia,λi j aI hj=> ?_,λi j hi q1 q2=> ?_,λi j q1 q2 q3=>by lia⟩
    ·rw[gr,if_pos ⟨Nat.zero_le _,hi⟩];exact h3.lo _ (by lia)
    ·rw[gr,if_neg (by lia)];exact h3.hi i q1 q2
    ·rw[gr,gr,if_pos ⟨Nat.zero_le _,by lia⟩,if_pos ⟨Nat.zero_le _,by lia⟩];exact h4 _ _ (by lia) (by lia)
    ·have ej:j=n:=by lia
     subst ej;have aS:i<j:=by simpa using hi
     have e1:g (kas_rev p 0 j) j=g p j:=by rw[gr,if_neg (by lia)]
     have e2:g (kas_rev p 0 j) i=g p (0+j - 1 - i):=by rw[gr,if_pos ⟨Nat.zero_le _,aS⟩]
     rw[e1,e2,fS (0+j - 1 - i) (by lia)];exact aw
  ·rw[if_neg hg];have e1:n=1:=by lia
   subst e1;refine qdg (by lia) ⟨h3.more (by lia),by lia,λi j aI hj=>by lia,λi j hi q1 q2=> ?_,λi j q1 q2 q3=>by lia⟩;have ei:i=0:=by lia
   have ej:j=1:=by lia
   subst ei ej;exact aw
theorem qen (hn:n<N) (hp:Pre N n p) (hs:Srt k p n): ∀(f l r:Nat),l<=r->r<=n->r - l<=f->(∀i,i<l->k (g p i)<=k (g p n))->(∀i,r<=i->i<n->k (g p n)<k (g p i))->
  qdv N (qbV k) (kas_place p n f l r) λm=>m<=n/\(∀i,i<m->k (g p i)<=k (g p n))/\∀i,m<=i->i<n->k (g p n)<k (g p i)
 |0,l,r,h1,h2,h3,hl,hr=>⟨by lia,hl,λi q1 q2=>hr i (by lia) q2⟩
 |f+1,l,r,h1,h2,h3,hl,hr=>by
  unfold kas_place;by_cases iO:l≥r
  ·rw[if_pos iO];exact⟨by lia,hl,λi q1 q2=>hr i (by lia) q2⟩
  ·rw[if_neg iO];refine⟨hp.lt (by lia) hn,hp.lt (by lia) (by lia),?_⟩;show qdv N (qbV k) (if qbV k (g p n) (g p ((l+r) / 2))=true then kas_place p n f l ((l+r) / 2) else kas_place p n f ((l+r) / 2+1) r) _;have srt: ∀i j,i<=j->j<n->k (g p i)<=k (g p j):=λi j aI hj=>by
    by_cases q:i=j
    ·rw[q];exact Int.le_refl _
    ·exact(hs i j (by lia) hj).le
   by_cases hc:k (g p n)<k (g p ((l+r) / 2))
   ·rw[if_pos (by simpa [qbV] using hc)];exact qen hn hp hs f l _ (by lia) (by lia) (by lia) hl λi q1 q2=>Int.lt_of_lt_of_le hc (srt _ _ q1 q2)
   ·rw[if_neg (by simpa [qbV] using hc)];refine qen hn hp hs f _ r (by lia) (by lia) (by lia) (λi q1=> ?_) hr;have:=srt i ((l+r) / 2) (by lia) (by lia);lia
theorem bin_ok{N:Nat}{k:Nat->Int}: ∀(f:Nat) (p:Array Nat) (n:Nat),n+f=N->Pre N n p->Srt k p n->qdv N (qbV k) (kas_bin f p n) λp'=>Pre N N p'/\Srt k p' N
 |0,p,n,hf,hp,hs=>by
  have e:n=N:=by lia
  subst e;exact⟨hp,hs⟩
 |f+1,p,n,hf,hp,hs=>by
  refine qa9 (qaM (λl h=> ?_) (qen (by lia) hp hs n 0 n (by lia) (Vm _) (by lia) (λi q=>by lia) λi q1 q2=>by lia));obtain⟨h1,h2,h3⟩:=h;have gb:=qvj (p:=p) (k:=n) (l:=l) (by rw[hp.sz];lia) h1;have en:=hp.hi n (Vm _) (by lia);refine bin_ok f _ (n+1) (by lia) ⟨by rw[bubble_size];exact hp.sz,λi hi=> ?_,λi q1 q2=> ?_⟩ λi j aI hj=> ?_
  ·rw[gb];split
   ·rw[en];lia
   ·split
    ·exact Nat.lt_succ_of_lt (hp.lo _ (by lia))
    ·exact Nat.lt_succ_of_lt (hp.lo _ (by lia))
  ·rw[gb,if_neg (by lia),if_neg (by lia)];exact hp.hi i (by lia) q2
  ·rw[gb,gb];by_cases c1:j=l
   ·rw[if_pos c1,if_neg (by lia),if_neg (by lia)];have a1:=h2 i (by lia);have a2:=hp.lo i (by lia);unfold L;rw[en] at a1⊢;lia
   ·rw[if_neg c1];by_cases c2:l<j/\j<=n
    ·rw[if_pos c2];by_cases c3:i=l
     ·rw[if_pos c3];exact .inl (h3 _ (by lia) (by lia))
     ·rw[if_neg c3];by_cases c4:l<i/\i<=n
      ·rw[if_pos c4];exact hs _ _ (by lia) (by lia)
      ·rw[if_neg c4];exact hs _ _ (by lia) (by lia)
    ·rw[if_neg c2,if_neg (by lia),if_neg (by lia)];exact hs _ _ aI (by lia)
theorem qot{N:Nat}{k:Nat->Int}(hN:1<=N):qdv N (qbV k) (kas_sort N) λp=>Pre N N p/\Srt k p N:=by
 have gr: ∀i,i<N->g (List.toArray (List.range N)) i=i:=λi hi=>by unfold g;rw[Array.getD_eq_getD_getElem?];simp[hi]
 refine qa9 (qaM (λr h=> ?_) (qmO hN ⟨by simp,λi hi=> ?_,λi h1 h2=>gr i h2⟩))
 ·obtain⟨h1,h2,h3,h4⟩:=h;by_cases c:r.1<N
  ·rw[if_pos c,show max r.1 1=r.1 by lia];exact bin_ok _ _ _ (by lia) h3 h4
  ·rw[if_neg c];have e:r.1=N:=by lia
   rw[e] at h3 h4;exact⟨h3,h4⟩
 ·rw[gr i (by lia)];exact hi
end
open PySem PySem.Calls
theorem qj2{α:Type}{N:Nat}{ask:Nat->Nat->Bool}{cmp:Nat->Nat->(Bool->Shared->Prop)->Shared->Prop}{Q:α->Shared->Prop}{Q':α->Prop}{s:Shared}(hc: ∀i j (C:Bool->Shared->Prop),i<N->j<N->C (ask i j) s->cmp i j C s)(hq: ∀a,Q' a->Q a s): ∀{t:KasT α},qdv N ask t Q'->t.kasWp cmp Q s
 |.ret a,h=>hq a h
 |.ask i j k,⟨h1,h2,h⟩=>hc i j _ h1 h2 (qj2 hc hq h)
noncomputable def qdr(kz:List Int)(n:Nat)(p:Array Nat):Prop:=Pre n n p/\Srt (λi=>kz.getD i 0) p n
abbrev Kp(h h':Heap):Prop:= ∀b o,h.get? b=some o->h'.get? b=some o
section
theorem qmm{h:Heap}(x:h.objs.size<=a):h.get? a=none:=Heap.get?_none_of_le x
end
end St
namespace L2
open PySem PySem.Spec PyProof.Rows
noncomputable def qvS(c:Addr)(qual:Str):HO:=.ext λh=>h.CodeRec (.ref c) qual
noncomputable def qk5(P:Addr)(H H':Hp):Prop:= ∀b o,H b=some o->b≠P->H' b=some o
theorem qeS(r:qat xs us)(j:Nat):RelV (xs.getD j .non) (us.getD j .none):=by
 induction r generalizing j with
 |nil=>exact rfl
 |cons a t ih=>
  cases j with
  |zero=>exact a
  |succ j=>simpa using ih j
theorem vals_pick(r:qat xs us): ∀l:List Nat,qat (l.map λj=>xs.getD j .non) (l.map λj=>us.getD j .none)
 |[]=>.nil
 |j::l=>.cons (qeS r j) (vals_pick r l)
section
theorem qlZ:OpR X (compareOp .Is) (λx y H Q=> ∃c d,x= .bl c/\y= .bl d/\Q (.bl (c==d)) H):=by intro pins s σ H x y v u Q I rx ry h;obtain⟨c,d,rfl,rfl,q⟩:=h;cases rx;cases ry;exact is_bool ⟨.bl (c==d),H,I,rfl,q⟩
theorem qgk:OpR X (compareOp .IsNot) (λx y H Q=> ∃c d,x= .bl c/\y= .bl d/\Q (.bl (c != d)) H):=by intro pins s σ H x y v u Q I rx ry h;obtain⟨c,d,rfl,rfl,q⟩:=h;cases rx;cases ry;exact isnot_bool ⟨.bl (c != d),H,I,rfl,q⟩
theorem qjA:OpR X (compareOp .LtE) (λx y H Q=> ∃i j,x= .str i/\y= .str j/\Q (.bl (!decide (j.cps.toList<i.cps.toList))) H):=by intro pins s σ H x y v u Q I rx ry h;obtain⟨i,j,rfl,rfl,q⟩:=h;obtain⟨t,rfl⟩:=rx;obtain⟨t',rfl⟩:=ry;exact P.le_str ⟨.bl _,H,I,rfl,q⟩
theorem qgG:qau X (.builtin "isinstance") (λxs H Q=> ∃x t T b,xs=[x,.ty T]/\qgJ X.K H x t/\W.kitOne X.K t (.type T)=some b/\Q (.bl b) H):=by intro pins s σ H xs us Q I r h;obtain⟨x,t,T,b,rfl,ty,e,q⟩:=h;obtain⟨u,w',rfl,ru,ar⟩:=qhR r;cases ar;exact qjT I ru ty e λtk=>⟨.bl b,H,I.tok tk,rfl,q⟩
theorem qd2: ∀{bs:List Bool} {us:List Value},qat (bs.map V.bl) us->us=bs.map Value.bool
 |[],_,.nil=>rfl
 |b::bs,_,.cons r t=>by have e:_=Value.bool b:=r;rw[e,qd2 t];rfl
theorem qjg(bs:List Bool):(List.range bs.length).all (λi=>bs.getD i false)=bs.all id:=by
 rw[Bool.eq_iff_iff,List.all_eq_true,List.all_eq_true];constructor
 ·intro h b hb;obtain⟨i,hi,rfl⟩:=List.mem_iff_getElem.mp hb;have:=h i (List.mem_range.mpr hi);simpa [List.getD_eq_getElem?_getD,hi] using this
 ·intro h i hi;have aS:=List.mem_range.mp hi;have:=h bs[i] (List.getElem_mem aS);simpa [List.getD_eq_getElem?_getD,aS] using this
theorem qmY(hc:X.calm=true):qau X (.builtin "all") (λxs H Q=> ∃(a:Addr) (bs:List Bool),xs=[.ref a]/\SqL X.K H a (bs.map V.bl)/\Q (.bl (bs.all id)) H):=by
 intro pins s σ H xs us Q I r h;obtain⟨a,bs,rfl,hS,q⟩:=h;obtain⟨u,rfl,ru⟩:=qdu r;cases ru;obtain⟨its,rv,pl,hz⟩:=I.list hS;have e:=qd2 rv;have aw:a<s.heap.objs.size:=Vi pl.isList.choose_spec.1;have hh:X.A.in1.handled=none:=I.ok.hd hc;refine call_all_walk (Vf pl.isList ?_);refine⟨s.heap.objs.size,_,_,its.toArray.size,_,_,λi=>bs.getD i false,rfl,Walks.list hh s.heap.objs.size a (Vo aw) its.toArray,⟨⟨_,Vh _ rfl,rfl,rfl⟩,pl.isList.at λo e=>Vg _ e⟩,λi v s' Q' E' hv hq=> ?_,λh' tk k=> ?_⟩
 ·rw[e] at hv;have aW:(bs.map Value.bool)[i]? =some v:=by simpa using hv
  rw[List.getElem?_map] at aW;cases z:bs[i]? with
  |none=>rw[z] at aW;cases aW
  |some b=>
   rw[z] at aW;cases aW;have eb:bs.getD i false=b:=by simp[List.getD_eq_getElem?_getD,z]
   have bS:Q' (bs.getD i false) s':=hq;rw[eb] at bS;exact Vd bS
 ·have en:its.toArray.size=bs.length:=by rw[e];simp
  rw[en,qjg];refine⟨.bl (bs.all id),H,?_,rfl,q⟩;refine I.kept (t':=tk) λb o eo=>k b o ?_ (Vg _ eo);intro z;have:b=s.heap.objs.size:=by simpa using z
  exact Vo (Vi eo) this
noncomputable def VEq(X:Cx)(H:Hp)(x y:V)(b:Bool):Prop:= ∀(pins:List (Addr×Obj)) (σ:St) (s:Shared) (u v:Value),Inv X pins σ H s->RelV x u->RelV y v->SeqAt.EqAt X.A.in1 s u v b
theorem qgl (hu:X.A.units<cLine):OpR X (compareOp .Eq) (λx y H Q=> ∃a b xs ys,x= .ref a/\y= .ref b/\SqL X.K H a xs/\SqL X.K H b ys/\
  ((xs.length≠ys.length/\Q (.bl false) H)\/(xs.length=ys.length/\∃e:Nat->Bool,(∀i x y,xs[i]? =some x->ys[i]? =some y->VEq X H x y (e i))/\Q (.bl ((List.range xs.length).all e)) H))):=by
 intro pins s σ H x y v u Q I rx ry h;obtain⟨a,b,xs,ys,rfl,rfl,ha,hb,h⟩:=h;cases rx;cases ry;obtain⟨i1,r1,p1,z1⟩:=I.list ha;obtain⟨i2,r2,p2,z2⟩:=I.list hb;have l1:=r1.length;have l2:=r2.length
 rcases h with⟨aH,q⟩|⟨heq,e,he,q⟩
 ·exact SeqAt.eq_list_lengthsAt p1.isList p2.isList (by simp;lia) hu ⟨.bl false,H,I,rfl,q⟩
 ·refine SeqAt.eq_listAt (e:=e) p1.isList p2.isList (by simp;lia) hu (λj h1 h2=> ?_) ⟨.bl _,H,I,rfl,?_⟩
  ·have bJ:j<i1.length:=by simpa using h1
   have aY:j<i2.length:=by simpa using h2
   have hx:xs[j]? =some xs[j]:=Vz (by lia);have hy:ys[j]? =some ys[j]:=Vz (by lia);obtain⟨u1,e1,q1⟩:=r1.get hx;obtain⟨u2,e2,q2⟩:=r2.get hy;have e3:i1.toArray[j]=u1:=by rw[List.getElem?_eq_getElem bJ] at e1;simpa using Option.some.inj e1
   have e4:i2.toArray[j]=u2:=by rw[List.getElem?_eq_getElem aY] at e2;simpa using Option.some.inj e2
   rw[e3,e4];exact he j _ _ hx hy pins σ s u1 u2 I q1 q2
  ·rw[List.size_toArray,<-l1];exact q
end
noncomputable def Its(z:Str):It:=⟨λi _=>i<z.cps.size,λi H x H'=>H'=H/\∃c,z.cps[i]? =some c/\x= .str ⟨#[c]⟩,λi _=>z.cps.size<=i⟩
theorem qln {P:Program} {w:World} {K:W.Frag} {tg:Expr} {z:Str} {it:Addr} {ty:String} {t:Tok} (b8:ty= "str_ascii_iterator" \/ty= "str_iterator"):qqy P w K tg (Its z) [it] it (λi h=>h.IsStrIter it ty z t i) where
 mem:=by simp
 obj:=λi h st b hb=>by
  have e:b=it:=by simpa using hb
  subst e;obtain⟨o,e,c,d⟩:=st;exact⟨o,e,λv q=>by rw[d] at q;cases q⟩
 keep:=λi h h' st k=>by obtain⟨o,e,r⟩:=st;exact⟨o,k it (by simp) _ e,r⟩
 item:=by
  intro X hP hw hK hc i pins s σ H E I hf st hg;subst hP hw hK;obtain⟨f0,f1,f2,f3,f4,f5⟩:=hf it (by simp);have dE:z.cps[i]? =some z.cps[i]:=Array.getElem?_eq_getElem hg;have fin: ∀h',h'.IsStrIter it ty z t (i+1)->Heap.SameBut it s.heap h'->∃u,some (Value.str ⟨#[z.cps[i]]⟩ s.toks)=some u/\wpAny (model X.prog X.w) X.A (letOwnedTupleGo tg (.ref it) u) (λ_ s2=> ∃x H',Inv X pins σ H' s2/\RelV x u/\(Its z).yld i H x H'/\s2.heap.IsStrIter it ty z t (i+1)/\∀b∈[it],H' b=none) E { s with heap:=h',toks:=s.toks+1 }:=λh' aR sb=>by
   have I1:Inv X pins σ H { s with heap:=h',toks:=s.toks+1 }:=I.turned (λb o hb e=>(sb.2 b hb).trans e) f0 f1 f3 f4 f5;obtain⟨o,e,c,d⟩:=id aR;refine⟨_,rfl,qml (s:={ s with heap:=h',toks:=s.toks+1 }) e c d ?_ ⟨.str ⟨#[z.cps[i]]⟩,H,I1,⟨_,rfl⟩,⟨rfl,_,dE,rfl⟩,aR,λb hb=>(hf b hb).1⟩⟩
   rcases b8 with rfl|rfl<;>decide
  rcases b8 with rfl|rfl
  ·exact wpAny_pyNext_ascii_item st dE λh' aR sb=>fin h' aR sb
  ·exact wpAny_pyNext_wide_item st dE λh' aR sb=>fin h' aR sb
 done:=by
  intro X hP hw hK hc i pins s σ H E I hf st hg;subst hP hw hK;obtain⟨f0,f1,f2,f3,f4,f5⟩:=hf it (by simp);have dE:z.cps[i]? =none:=Array.getElem?_eq_none hg
  rcases b8 with rfl|rfl
  ·exact wpAny_pyNext_ascii_end (I.ok.hd hc) st dE λh' eb=>⟨rfl,I.turned (t':=s.toks) (λb o hb e=>eb b o hb e) f0 f1 f3 f4 f5⟩
  ·exact wpAny_pyNext_wide_end (I.ok.hd hc) st dE λh' eb=>⟨rfl,I.turned (t':=s.toks) (λb o hb e=>eb b o hb e) f0 f1 f3 f4 f5⟩
 self:=λA i s Q E st h=>by
  rcases b8 with rfl|rfl
  ·exact wpAny_pyIter_striter_ascii st h
  ·exact wpAny_pyIter_striter_wide st h
noncomputable def qxE(te:TE):TI:=λσ H R=>te σ H λx H1=> ∃z,x= .str z/\R (Its z) H1
theorem qro{X:Cx}{tg e:Expr}{te:TE}(he:PE X e te):PI X tg e (qxE te):=by
 intro pins s σ H R I h;refine thn (he pins s σ H _ I h) λv s1 gh=> ?_;obtain⟨x,H1,I1,r1,z,hz,q⟩:=gh;subst hz;obtain⟨t,rfl⟩:=r1;have fin: ∀ty:String,(ty= "str_ascii_iterator" \/ty= "str_iterator")->PIE X pins σ tg R (.ref s1.heap.objs.size) { s1 with heap:=s1.heap.push { cls:=.type ty,data:=.fields #[.str z t,.int 0 0] } }:=λty b8=>
  ⟨_,_,_,Its z,H1,rfl,I1.kept (t':=s1.toks) λb o e=>Vg _ e,qln (t:=t) b8,⟨_,Vh _ rfl,rfl,rfl⟩,λb hb=>by
   have e:b=s1.heap.objs.size:=by simpa using hb
   subst e;exact I1.fpOk (Vm _) (I1.hok.fresh (Vm _)),q⟩
 cases ha:z.cps.all (· <128)
 ·exact wpAny_pyIter_wide ha (fin _ (.inr rfl))
 ·exact wpAny_pyIter_ascii ha (fin _ (.inl rfl))
theorem Inv.turnT{X:Cx}{pins:List (Addr×Obj)}{σ:St}{H:Hp}{s:Shared}{h':Heap}{t':Nat}{ch:List Addr}{T:Addr}{xs:List V}(I:Inv X pins σ H s)(aL: ∀b∈ch,qgK X pins H b)(k: ∀b o,b∉ch->s.heap.get? b=some o->h'.get? b=some o)(hT:s.heap.objs.size<=T)(new:qaC X.prog X.w (upd H T (.tup xs)) h' T (.tup xs)):Inv X pins σ (upd H T (.tup xs)) { s with heap:=h',toks:=t' }:=by
 have nT: ∀b o,s.heap.get? b=some o->b≠T:=λb o e=>Vo (Vn (Vi e) hT);have d4: ∀b u,H b=some u->b≠T:=λb u e z=>by rw[z,I.hok.fresh hT] at e;cases e
 have bP: ∀b u,H b=some u->b∉ch:=λb u e z=>by rw[(aL b z).1] at e;cases e
 refine I.step (g':=s.gens) (d':=s.drawn) (ch:=ch) (λb hb=> ?_) (λb o _ _ hc e _=>k b o hc e) (λb o _ _ hc e _=>⟨o.slots,k b o hc e⟩) (λb o _ e n=>by rw[qad (nT b o e)];exact n) (λb o hc e=>⟨o,k b o hc e⟩)
  (λb ys e=>by rw[qad (d4 b _ e)];exact e) (λb o u e=>by rw[qad (d4 b _ e)];exact e) (λb ps e=>⟨#[],by rw[qad (d4 b _ e),e];simp⟩) (λm hm=> ?_) (λb u e=> ?_) I.bare
 ·obtain⟨_,f1,_,f3,f4,f5⟩:=aL b hb;exact⟨f3,f1,f4,f5⟩
 ·obtain⟨o,es,ep,ho,r⟩:=hm;exact⟨o,es,ep,k _ o (λz=>(aL _ z).2.1 rfl) ho,r⟩
 ·by_cases z:b=T
  ·subst z;rw[qai] at e;cases e;exact new
  ·rw[qad z] at e;refine(I.hok b u e).stay (λc v hc q=>k c v ?_ q) (λc q=>by rw[qad (d4 c _ q)];exact q) λc ys q=>by rw[qad (d4 c _ q)];exact q
   rcases hc with rfl|hc
   ·exact bP _ _ e
   ·exact bP _ _ hc
theorem Inv.turnL {X:Cx} {pins:List (Addr×Obj)} {σ:St} {H:Hp} {s:Shared} {h':Heap} {t':Nat} {ch:List Addr} (I:Inv X pins σ H s) (aL: ∀b∈ch,qgK X pins H b) (k: ∀b o,b∉ch->s.heap.get? b=some o->h'.get? b=some o):
  Inv X pins σ H { s with heap:=h',toks:=t' }:=by
 have bP: ∀b u,H b=some u->b∉ch:=λb u e z=>by rw[(aL b z).1] at e;cases e
 refine I.step (g':=s.gens) (d':=s.drawn) (ch:=ch) (λb hb=> ?_) (λb o _ _ hc e _=>k b o hc e) (λb o _ _ hc e _=>⟨o.slots,k b o hc e⟩) (λb o _ e n=>n) (λb o hc e=>⟨o,k b o hc e⟩)
  (λb ys e=>e) (λb o u e=>e) (λb ps e=>⟨#[],by rw[e];simp⟩) (λm hm=> ?_) (λb u e=> ?_) I.bare
 ·obtain⟨_,f1,_,f3,f4,f5⟩:=aL b hb;exact⟨f3,f1,f4,f5⟩
 ·obtain⟨o,es,ep,ho,r⟩:=hm;exact⟨o,es,ep,k _ o (λz=>(aL _ z).2.1 rfl) ho,r⟩
 ·refine(I.hok b u e).stay (λc v hc q=>k c v ?_ q) (λc q=>q) λc ys q=>q
  rcases hc with rfl|hc
  ·exact bP _ _ e
  ·exact bP _ _ hc
theorem qqT:SlR X (λx lo hi H Q=> ∃z,x= .str z/\z.length<=1000/\Q (.str (PySem.Txt.slice z lo hi)) H):=by
 intro pins s σ H x v vl vu lo hi sl Q I rx hs pl pu h;obtain⟨z,rfl,hz,q⟩:=h;obtain⟨t,rfl⟩:=rx;refine⟨"str",_,F.slot_str_getitem.lookup,typeIs_str _ _ _,?_⟩;have hsz:(PySem.Txt.slice z lo hi).length<=sizeLine:=Vq (PySem.Txt.slice_le z _ _) (Vp (qcS hz));cases pl with
 |none=>cases pu with
  |none=>exact wpAny_getItem_str_slice (l:=none) (u:=none) (st:=none) hs rfl (post_val_or_str ⟨hsz,λt' k=>⟨.str _,H,I.tok k,⟨_,rfl⟩,q⟩⟩)
  |int j uj=>exact wpAny_getItem_str_slice (l:=none) (u:=some (j,uj)) (st:=none) hs rfl (post_val_or_str ⟨hsz,λt' k=>⟨.str _,H,I.tok k,⟨_,rfl⟩,q⟩⟩)
 |int i ui=>cases pu with
  |none=>exact wpAny_getItem_str_slice (l:=some (i,ui)) (u:=none) (st:=none) hs rfl (post_val_or_str ⟨hsz,λt' k=>⟨.str _,H,I.tok k,⟨_,rfl⟩,q⟩⟩)
  |int j uj=>exact wpAny_getItem_str_slice (l:=some (i,ui)) (u:=some (j,uj)) (st:=none) hs rfl (post_val_or_str ⟨hsz,λt' k=>⟨.str _,H,I.tok k,⟨_,rfl⟩,q⟩⟩)
noncomputable def qfY(mg:Str->Option Value)(base:Heap):Prop:= ∃bm ob,mg "__builtins__" =some (.ref bm)/\bm≠builtinsNs/\base.get? bm=some ob/\ob.cls= .type "module" /\ob.dict=some builtinsNs/\ob.data= .plain
open PySem.Calls
theorem qaC.obj(x:qaC P w H h a o): ∃u,h.get? a=some u:=by
 cases o with
 |lst xs=>obtain⟨_,_,_,_,e⟩:=x;exact⟨_,e⟩
 |tup xs=>obtain⟨_,_,_,p⟩:=x;exact p.imp λ_ q=>q.1
 |dK kvs|dT kvs=>obtain⟨_,_,_,_,o,_,_,e,_⟩:=x;exact⟨_,e⟩
 |set S n=>obtain⟨o,_,_,_,e,_⟩:=x;exact⟨_,e⟩
 |ins C dx fs=>obtain⟨_,_,_,e,_⟩:=x;exact⟨_,e⟩
 |own y=>obtain⟨_,e⟩:=x;exact⟨_,e⟩
 |xd fs=>obtain⟨_,⟨_,_,_,e,_⟩,_⟩:=x;exact⟨_,e⟩
 |rng lo hi=>obtain⟨_,_,_,e⟩:=x;exact⟨_,e⟩
 |frz ob u=>obtain⟨e,_⟩:=x;exact⟨_,e⟩
 |tbl ps|met f y=>exact⟨_,(show h.get? a=some _ from x)⟩
 |ext φ=>obtain⟨_,⟨_,e⟩,_⟩:=x;exact⟨_,e⟩
structure qk7(P:Program)(w:World)(outer:List Env)(H:Hp)(s:Shared)(H':Hp)(B h':Heap):Prop where
 hok:HOk P w H' B
 st:B.StaysIn h'
 bk: ∀b o,s.heap.get? b=some o->H b=none->b∉frs outer->B.get? b=some o
 th: ∀b o,s.heap.get? b=some o->b∉frs outer->∃o',B.get? b=some o'
 sl: ∀b o,s.heap.get? b=some o->b∈frs outer->(∀vs,o.data≠.fields vs)/\∃sl,h'.get? b=some { o with slots:=sl }
 free: ∀b o,s.heap.get? b=some o->H b=none->H' b=none
 tups: ∀b xs,H b=some (.tup xs)->H' b=some (.tup xs)
 frzs: ∀b o u,H b=some (.frz o u)->H' b=some (.frz o u)
 tbls: ∀b ps,H b=some (.tbl ps)->∃more,H' b=some (.tbl (ps++more))
section
theorem qk7.on(L:qk7 P w outer H s H' B h')(st:B.StaysIn fH)(up:h'.UpToSlots fH):qk7 P w outer H s H' B fH:=
 { L with
  st:=st
  sl:=λb o e hb=>by
   obtain⟨nf,sl,q⟩:=L.sl b o e hb;obtain⟨dQ,q'⟩:=up b _ q nf;exact⟨nf,dQ,q'⟩ }
end
section
theorem qfu{X:Cx}(aD:X.stack=X.env::X.outer)(hf:X.env.frame=some X.env.locals):frs X.stack=X.env.locals::frs X.outer:=by rw[aD];show((X.env::X.outer).filterMap (·.frame))=_;rw[List.filterMap_cons,hf];rfl
theorem qk7.leave{X:Cx}(aD:X.stack=X.env::X.outer)(hf:X.env.frame=some X.env.locals)(hex:X.ex=[])(I:Inv X pins σ H s)(L:qk7 X.prog X.w X.stack H s H' B h'):qk7 X.prog X.w X.outer X.H₀ X.s₀ H' B h':=by
 have nx: ∀b:Addr,b∉X.ex:=λb z=>by rw[hex] at z;cases z
 have fq: ∀b o,X.s₀.heap.get? b=some o->b≠X.env.locals:=λb o e=>Vo (Vn (Vi e) I.ok.above);have out: ∀b o,X.s₀.heap.get? b=some o->b∉frs X.outer->b∉frs X.stack:=λb o e nb z=>by
  rw[qfu aD hf] at z
  rcases List.mem_cons.mp z with q|q
  ·exact fq b o e q
  ·exact nb q
 refine⟨L.hok,L.st,λb o e n nb=> ?_,λb o e nb=> ?_,λb o e hb=> ?_,λb o e n=> ?_,λb xs q=>L.tups b xs (I.base.tups b xs q),λb o u q=>L.frzs b o u (I.base.frzs b o u q),λb ps q=> ?_⟩
 ·exact L.bk b o (I.base.keep b o e n nb (nx b)) (I.base.free b o e n (nx b)) (out b o e nb)
 ·obtain⟨o',e'⟩:=I.base.there b o e (nx b);exact L.th b o' e' (out b o e nb)
 ·obtain⟨sl,e1⟩:=I.base.slot b o e (I.ok.frf b hb) hb (nx b);obtain⟨nf,dQ,e2⟩:=L.sl b _ e1 (by rw[qfu aD hf];exact Vl _ hb);exact⟨nf,dQ,e2⟩
 ·obtain⟨sl,e1⟩:=I.base.any e n (nx b);exact L.free b _ e1 (I.base.free b o e n (nx b))
 ·obtain⟨m1,e1⟩:=I.base.tbls b ps q;obtain⟨m2,e2⟩:=L.tbls b _ e1;exact⟨m1++m2,by rw[e2,Array.append_assoc]⟩
theorem qk7.made(I:Inv X pins σ H s)(k: ∀b o,s.heap.get? b=some o->h'.get? b=some o):qk7 X.prog X.w X.stack H s H (W.hideAll s.heap (frs X.stack)) h' where
 hok:=λa o e=>(I.hok a o e).stay (λb u hb r=>W.hideAll_get _ r λz=>by
   have n:=I.stkFree b z
   rcases hb with q|q
   ·rw[q,e] at n;cases n
   ·rw[q] at n;cases n) (λ_ r=>r) λ_ _ r=>r
 st:=λb o e=>k b o (W.of_hideAll _ e)
 bk:=λb o e n nb=>W.hideAll_get _ e nb
 th:=λb o e nb=>⟨o,W.hideAll_get _ e nb⟩
 sl:=λb o e hb=>by obtain⟨_,o',e',nf⟩:=I.stack.mem hb;rw[e] at e';cases e';exact⟨nf,o.slots,k b o e⟩
 free:=λ_ _ _ n=>n
 tups:=λ_ _ q=>q
 frzs:=λ_ _ _ q=>q
 tbls:=λ_ ps q=>⟨#[],by rw[q];simp⟩
end
structure Fly(P:Program)(w:World)(outer:List Env)(H:Hp)(s:Shared)(C:Addr)(H':Hp)(a t:Addr)(B:Heap)(s':Shared):Prop where
 os:s'.os=s.os
 bare:AllBare s'.gens
 fly:Heap.FlyingW B outer a (.ref C) (.ref t) s'.heap
 lies:qk7 P w outer H s H' B s'.heap
 new:H' a=none
structure qyg(P:Program)(w:World)(outer:List Env)(H:Hp)(s:Shared)(C:Addr)(H':Hp)(a t L:Addr)(B:Heap)(s':Shared):Prop where
 os:s'.os=s.os
 bare:AllBare s'.gens
 held:Heap.HeldW B outer a (.ref C) (.ref t) L s'.heap
 lies:qk7 P w outer H s H' B s'.heap
 new:H' a=none
section
theorem Fly.leave (aD:X.stack=X.env::X.outer) (hf:X.env.frame=some X.env.locals) (hex:X.ex=[]) (I:Inv X pins σ H s) (F:Fly X.prog X.w X.stack H s C H' a t B s'):
  wpAny M X.A (leaving X.env (.ref a)) (λ_ s''=>Fly X.prog X.w X.outer X.H₀ X.s₀ C H' a t B s'') E s':=by refine wpAny_leaves_onW (I.ok.frames.trans (congrArg _ aD)) hf (aD▸F.fly) λfH fl up=> ?_;exact⟨F.os.trans I.os,F.bare,fl,(F.lies.on fl.1 up).leave aD hf hex I,F.new⟩
theorem Fly.made (aD:X.stack=X.env::X.outer) (hf:X.env.frame=some X.env.locals) (hex:X.ex=[]) (I:Inv X pins σ H s) (hm:Heap.MadeExcOf s.heap h' a (.ref C) args):
  wpAny M X.A (leaving X.env (.ref a)) (λ_ s''=> ∃t B,Fly X.prog X.w X.outer X.H₀ X.s₀ C H a t B s'') E { s with heap:=h' }:=by
 have hin: ∀env∈X.stack,∀b,env.frame=some b->b∈frs X.stack:=λenv he b hb=>List.mem_filterMap.mpr ⟨env,he,hb⟩;have L:=qk7.made (h':=h') I hm.keeps;refine wpAny_leaves_madeW (base:=W.hideAll s.heap (frs X.stack)) (h:=s.heap) (s:={ s with heap:=h' }) (I.ok.frames.trans (congrArg _ aD)) hf (λb o q=>W.of_hideAll _ q) (aD▸W.funFrames_hide I.stack hin) hm λfH t fl _ _ up=> ?_;refine⟨t,_,I.os,I.bare,fl,(L.on fl.1 up).leave aD hf hex I,?_⟩;cases q:H a with
 |none=>rfl
 |some o=>obtain⟨u,hu⟩:=(I.hok a o q).obj;rw[hm.new] at hu;cases hu
end
noncomputable def CXE(P:Program)(w:World):CXT:=λouter H s E e s'=> ∃C H' a t B,e= .ref a/\Fly P w outer H s C H' a t B s'/\E (.ref C) none H'
theorem quC{P:Program}{w:World}{K:W.Frag}{mg:Str->Option Value}{base:Heap}{N:List Str}{qual:Str}{scope:Scope}{f:Addr}{cd:Value}{A:Around}{outer:List Env}{s:Shared}{H:Hp}{E E1:XK}(h: ∀C H',E1 (.ref C) none H'->E (.ref C) none H'):qaJ (CXE P w) (qhu (CXE P w) P w K mg base N qual scope f cd A outer s H E) E1:=
 λpins σ H1 s1 e s' I ⟨C,H',a,t,B,he,F,q⟩=>by subst he;exact Vc (Fly.leave (X:=qhu (CXE P w) P w K mg base N qual scope f cd A outer s H E) rfl rfl rfl I F) (λ_ s'' F'=>⟨C,H',a,t,B,rfl,F',h C H' q⟩) λ_ _ x=>x
noncomputable def bmV:List Value:=[.type "ValueError",.type "Exception",.type "BaseException",.type "object"]
noncomputable def qtD:List Str:=["__init__", "__getattribute__", "__getattr__", "__class__"]
inductive qdx(h:Heap)(bmB:List Value):List Value->Prop
 |base:qdx h bmB bmB
 | own {A:Addr} {c0:Value} {dd:Option Addr} {cd:ClassData} {sl:Array (Option Value)} {mA:Str->Option Value} {tl:List Value}:
   h.get? A=some { cls:=c0,dict:=dd,data:=.cls cd,slots:=sl }->h.Ns cd.ns mA->(∀n∈qtD,mA n=none)->qdx h bmB tl->qdx h bmB (.ref A::tl)
theorem qdx.tail(T:qdx h bmB tl):OwnTail h bmB tl:=by
 induction T with
 |base=>exact .base
 |own hA hN hq _ ih=>exact .own hA hN (hq _ (.head _)) ih
theorem qdx.keeps(T:qdx h bmB tl)(hk: ∀b o,h.get? b=some o->h'.get? b=some o):qdx h' bmB tl:=by
 induction T with
 |base=>exact .base
 |own hA hN hq _ ih=>exact .own (hk _ _ hA) (hN.keeps hk) hq ih
noncomputable def qiG(h:Heap)(C:Addr)(bm:List Value):Prop:=
 ∃N nm q bs hdct sn sub ab col dd k0 k1 k2 k3 k5 mN,h.get? C=some (excClassObj nm q C N bs bm hdct sn sub ab col dd k0 k1 k2 k3 k5 "ValueError.__new__")/\h.Ns N mN/\(∀n∈qtD,mN n=none)/\qdx h bmV bm
theorem qiG.keeps(x:qiG h C bm)(k: ∀b o,h.get? b=some o->h'.get? b=some o):qiG h' C bm:=
 let ⟨N,nm,q,bs,hdct,sn,sub,ab,col,dd,k0,k1,k2,k3,k5,mN,e,n,i,T⟩:=x
 ⟨N,nm,q,bs,hdct,sn,sub,ab,col,dd,k0,k1,k2,k3,k5,mN,k _ _ e,n.keeps k,i,T.keeps k⟩
theorem qiG.base(x:qiG h C bm):bm.contains (.type "BaseException")=true:=
 let ⟨_,_,_,_,_,_,_,_,_,_,_,_,_,_,_,_,_,_,_,T⟩:=x
 T.tail.hasType (by decide)
noncomputable def qi6(C:Addr)(E:XK):TS:=λ_ _ H=>E (.ref C) none H
theorem qlJ {P:Program} {w:World} {K:W.Frag} {mg:Str->Option Value} {base:Heap} {N:List Str} {qual:Str} {scope:Scope} {f:Addr} {cd:Value} {A:Around} {outer:List Env} {s:Shared} {H:Hp} {E:XK} {x msg:Str} {C:Addr} {bm:List Value} {j np p1 cpos pos} (hC:qiG base C bm) (hm:mg x=some (.ref C)) (hg:Gl (qhu (CXE P w) P w K mg base N qual scope f cd A outer s H E) x) (aC:(x==("__debug__" :Str))=false:=by decide):
  PS (qhu (CXE P w) P w K mg base N qual scope f cd A outer s H E) (.Raise (some (.Call (.Name x np) [.Constant (.str msg) j p1] [] cpos)) none pos) (qi6 C E):=by
 intro pins s1 σ H1 D I h;have hCs:=hC.keeps I.bk;obtain⟨Nn,nm,q,bs,hdct,sn,sub,ab,col,dd,k0,k1,k2,k3,k5,mN,e,n,i,T⟩:=id hC;refine wpAny_Raise_call_subT (C:=C) (nm:=nm) (q:=q) (N:=Nn) (bs:=bs) (bm:=bm) (hdct:=hdct) (sn:=sn) (sub:=sub) (ab:=ab) (col:=col) (dd:=dd) (k0:=k0) (k1:=k1) (k2:=k2) (k3:=k3) (k5:=k5) F.excBase_ValueError hC.base (I.ok.hd rfl) (by rfl) (i _ (.head _)) ?_;refine qcg I hg hm ⟨rfl,?_⟩ aC;refine Calls.evalArgs_plain ?_;have hp:PA (qhu (CXE P w) P w K mg base N qual scope f cd A outer s H E) [.Constant (.str msg) j p1] (qqL (tC (.str msg)) qtw):=qeo qnr qjt;refine thn (hp cpos pins s1 σ H1 (λvs H2=>H2=H1/\vs.length=1) I ⟨rfl,rfl⟩) λus s2 d9=> ?_;obtain⟨vs,H2,I2,r,eH,el⟩:=d9;subst eH;have ul:us.length=1:=by rw[<-r.length];exact el
 refine⟨rfl,by show us.length<=sizeLine;rw[ul];decide,I2.bk _ _ e,n.keeps I2.bk,T.tail.keeps I2.bk,λh' a hx=> ?_⟩;exact Vc (Fly.made (X:=qhu (CXE P w) P w K mg base N qual scope f cd A outer s H E) rfl rfl rfl I2 hx) (λ_ s'' ⟨t,B,F'⟩=>⟨C,H2,a,t,B,rfl,F',h⟩) λ_ _ x=>x
abbrev Cx.hold(X:Cx)(pins:List (Addr×Obj))(E:Value->Shared->Prop):Cx:={ X with pn:=X.pn++pins,xe:=E }
abbrev Cx.within(X:Cx)(a:Addr):Cx:={ X with A:=X.A.mark (some (.ref a)),calm:=false,xe:=λ_ _=>False }
section
noncomputable def ExO(a C:Addr):HO:=.ext λh=> ∃o,h.get? a=some o/\o.cls= .ref C
end
end L2
namespace L2
open PySem PySem.Spec PyProof.Rows
section
variable {κ:Type}[DecidableEq κ]
noncomputable def qhS(kvs:List (κ×V))(k:κ):Option V:=(kvs.find? λkv=>decide (kv.1=k)).map (·.2)
noncomputable def qiD(kvs:List (κ×V))(k:κ)(v:V):List (κ×V):=
 if(kvs.any λkv=>decide (kv.1=k))=true then kvs.map (λkv=>if kv.1=k then(kv.1,v) else kv) else kvs++[(k,v)]
theorem qd3{p:κ×V}{r:List (κ×V)}{k:κ}(e:p.1=k):qhS (p::r) k=some p.2:=by simp[qhS,List.find?_cons,e]
theorem qd4{p:κ×V}{r:List (κ×V)}{k:κ}(e: ¬p.1=k):qhS (p::r) k=qhS r k:=by simp[qhS,List.find?_cons,e]
theorem qgM(k:κ): ∀kvs:List (κ×V),(kvs.any λkv=>decide (kv.1=k))=(qhS kvs k).isSome
 |[]=>rfl
 |p::r=>by
  rw[List.any_cons];by_cases e:p.1=k
  ·simp only[qd3 e,decide_eq_true e,Bool.true_or,Option.isSome_some]
  ·rw[qd4 e,decide_eq_false e,Bool.false_or];exact qgM k r
theorem qc5(kvs:List (κ×V))(k:κ)(v:V):(qiD kvs k v).length<=kvs.length+1:=by
 unfold qiD;split
 ·rw[List.length_map];omega
 ·rw[List.length_append,List.length_cons,List.length_nil];omega
theorem qeO.isSome_eq(r:qeO o u):o.isSome=u.isSome:=by
 cases o with
 |none=>cases u with
  |none=>rfl
  |some _=>exact(show False from r).elim
 |some _=>cases u with
  |none=>exact(show False from r).elim
  |some _=>rfl
theorem qeO.getD(r:qeO o u)(rd:RelV d d'):RelV (o.getD d) (u.getD d'):=by
 cases o with
 |none=>cases u with
  |none=>exact rd
  |some _=>exact(show False from r).elim
 |some _=>cases u with
  |none=>exact(show False from r).elim
  |some _=>exact r
theorem KV.val(r:KV kvs vs)(k:κ):qeO (qhS kvs k) (valueAt vs k):=by
 unfold KV at r
 induction r with
 |nil=>exact True.intro
 |@cons p q ps qs h t ih=>
  obtain⟨h1,h2⟩:=h;by_cases e:p.1=k
  ·have e':q.1=k:=h1.symm.trans e;have b:valueAt (q::qs) k=some q.2:=by simp[valueAt,List.find?_cons,e']
   rw[qd3 e,b];exact h2
  ·have e': ¬q.1=k:=λz=>e (h1.trans z);have b:valueAt (q::qs) k=valueAt qs k:=by simp[valueAt,List.find?_cons,e']
   rw[qd4 e,b];exact ih
theorem KV.any(r:KV kvs vs)(k:κ):(kvs.any λkv=>decide (kv.1=k))=vs.any λkv=>decide (kv.1=k):=by
 unfold KV at r
 induction r with
 |nil=>rfl
 |cons h t ih=>rw[List.any_cons,List.any_cons,ih,h.1]
theorem KV.repl (r:KV kvs vs) (k:κ) (ry:RelV y u):
  KV (kvs.map λkv=>if kv.1=k then(kv.1,y) else kv) (vs.map λkv=>if kv.1=k then(kv.1,u) else kv):=by
 unfold KV at r⊢
 induction r with
 |nil=>exact .nil
 |@cons p q ps qs h t ih=>
  rw[List.map_cons,List.map_cons];refine .cons ?_ ih;obtain⟨h1,h2⟩:=h;by_cases e:p.1=k
  ·rw[if_pos e,if_pos (h1.symm.trans e)];exact⟨h1,ry⟩
  ·rw[if_neg e,if_neg (λz=>e (h1.trans z))];exact⟨h1,h2⟩
theorem KV.put(r:KV kvs vs)(k:κ)(ry:RelV y u):KV (qiD kvs k y) (stored vs k u):=by
 unfold qiD stored;rw[r.any k];by_cases e:(vs.any λkv=>decide (kv.1=k))=true
 ·rw[if_pos e,if_pos e];exact r.repl k ry
 ·rw[if_neg e,if_neg e];exact Paired.snoc r ⟨rfl,ry⟩
theorem KV.length(r:KV kvs vs):kvs.length=vs.length:=Paired.length r
end
theorem qc9(r:RelV (kV k) u):(qaq P w).is k u=true:=by
 cases k with
 |inl i=>obtain⟨t,e⟩:=(show ∃t,u=Value.int i t from r);subst e;exact qgp P w i t
 |inr x=>obtain⟨t,e⟩:=(show ∃t,u=Value.str x t from r);subst e;exact qgo P w x t
theorem qfp: ∀{ks:List Key} {us:List Value},qat (ks.map kV) us->ItemsAre (qaq P w) ks us
 |[],_,r=>by rw[List.map_nil] at r;cases r;exact .nil
 |k::ks,_,r=>by
  rw[List.map_cons] at r;cases r with
  |cons h t=>exact .cons (qc9 h) (qfp t)
abbrev KT(H:Hp):List (List Key×V)->List (List Key×Addr×Value)->Prop:=Paired λp q=>p.1=q.1/\H q.2.1=some (.tup (p.1.map kV))/\RelV p.2 q.2.2
theorem KT.val(r:KT H kvs xs)(k:List Key):qeO (qhS kvs k) ((atKey xs k).map (·.2)):=by
 induction r with
 |nil=>exact True.intro
 |@cons p q ps qs h t ih=>
  obtain⟨h1,_,h2⟩:=h;by_cases e:p.1=k
  ·have e':q.1=k:=h1.symm.trans e;have b:atKey (q::qs) k=some q.2:=by simp[atKey,List.find?_cons,e']
   rw[qd3 e,b];exact h2
  ·have e': ¬q.1=k:=λz=>e (h1.trans z);have b:atKey (q::qs) k=atKey qs k:=by simp[atKey,List.find?_cons,e']
   rw[qd4 e,b];exact ih
theorem KT.repl (r:KT H kvs xs) (k:List Key) (ry:RelV y u):
  KT H (kvs.map λkv=>if kv.1=k then(kv.1,y) else kv) (xs.map (putAt k u)):=by
 induction r with
 |nil=>exact .nil
 |@cons p q ps qs h t ih=>
  rw[List.map_cons,List.map_cons];refine .cons ?_ ih;obtain⟨h1,h2,h3⟩:=h;unfold putAt;by_cases e:p.1=k
  ·rw[if_pos e,if_pos (h1.symm.trans e)];exact⟨h1,h2,ry⟩
  ·rw[if_neg e,if_neg (λz=>e (h1.trans z))];exact⟨h1,h2,h3⟩
theorem KT.put (r:KT H kvs xs) (k:List Key) (hb:H b=some (.tup (k.map kV))) (ry:RelV y u):
  KT H (qiD kvs k y) (storedH xs k b u):=by
 have e:(kvs.any λkv=>decide (kv.1=k))=(atKey xs k).isSome:=by rw[qgM,(r.val k).isSome_eq,Option.isSome_map]
 unfold qiD storedH;rw[e];by_cases q:(atKey xs k).isSome=true
 ·rw[if_pos q,if_pos q];exact r.repl k ry
 ·rw[if_neg q,if_neg q];exact Paired.snoc r ⟨rfl,hb,ry⟩
theorem KT.keeps(r:KT H kvs xs)(ht: ∀b ys,H b=some (.tup ys)->H' b=some (.tup ys)):KT H' kvs xs:=
 Paired.mapP r λ_ _ z=>⟨z.1,ht _ _ z.2.1,z.2.2⟩
section
theorem qqX(ok:HOk P w H h)(e:Rd H a u):qaC P w H h a u:=e.ok ok
theorem qfC(ok:HOk P w H h)(e:Rd H a (.dK kvs)):kvs.length<=sizeLine/\(a==sysModules)=false/\∃vs,KV kvs vs/\h.DictOf (qaq P w) a vs:=
 show qaC P w H h a (.dK kvs) from qqX ok e
theorem qpU(ok:HOk P w H h)(e:H a=some (.dK kvs)):kvs.length<=sizeLine/\(a==sysModules)=false/\∃vs,KV kvs vs/\h.DictOf (qaq P w) a vs:=qfC ok (.inl e)
theorem qc8(ok:HOk P w H h)(e:H a=some (.tup (ks.map kV))):(tupleKind (qaq P w)).is h ks a:=by
 obtain⟨_,its,r,o,h1,h2,n,h3⟩:=(show qaC P w H h a (.tup (ks.map kV)) from ok a _ e)
 exact⟨o,its.toArray,n,h1,h2,h3,by simpa using qfp r⟩
theorem qgz (ok:HOk P w H h) (e:Rd H a (.dT kvs)):kvs.length<=sizeLine/\(a==sysModules)=false/\
  ∃xs,KT H kvs xs/\h.DictOfH (tupleKind (qaq P w)) a xs:=by
 obtain⟨z,y,xs,r,o,es,ep,h1,h2,h3,h4,h5⟩:=(show qaC P w H h a (.dT kvs) from qqX ok e)
 refine⟨z,y,xs,r,o,es,ep,h1,h2,h3,h4,λx hx=> ?_,h5⟩;have all: ∀{l:List (List Key×V)} {m:List (List Key×Addr×Value)},KT H l m->∀x∈m,(tupleKind (qaq P w)).is h x.1 x.2.1:=by
  intro l m q
  induction q with
  |nil=>intro x hx;exact nomatch hx
  |@cons p q ps qs hq t ih=>
   intro x hx
   rcases List.mem_cons.mp hx with e|hx
   ·subst e;exact qc8 ok (by rw[<-hq.1];exact hq.2.1)
   ·exact ih x hx
 exact all r x hx
theorem qsC (ok:HOk P w H h) (e:H a=some (.dT kvs)):kvs.length<=sizeLine/\(a==sysModules)=false/\
  ∃xs,KT H kvs xs/\h.DictOfH (tupleKind (qaq P w)) a xs:=qgz ok (.inl e)
end
noncomputable def qhP(H:Hp)(a:Addr)(y:V)(r:Option V):Prop:=
 (∃kvs k,Rd H a (.dK kvs)/\y=kV k/\r=qhS kvs k)\/∃kvs k b,Rd H a (.dT kvs)/\y= .ref b/\H b=some (.tup (k.map kV))/\r=qhS kvs k
noncomputable def qx8(H:Hp)(a:Addr)(y v:V)(H':Hp):Prop:=
 (∃kvs k,H a=some (.dK kvs)/\y=kV k/\kvs.length<sizeLine/\H'=upd H a (.dK (qiD kvs k v)))\/
 ∃kvs k b,H a=some (.dT kvs)/\y= .ref b/\H b=some (.tup (k.map kV))/\kvs.length<sizeLine/\H'=upd H a (.dT (qiD kvs k v))
section
theorem Inv.big(I:Inv X pins σ H s):sysModules<s.heap.objs.size:=by have h:mainGlobals<s.heap.objs.size:=(I.mod.glob.keeps I.bk).lt;exact Nat.lt_trans (by decide) h
theorem qks (hu:A.units+1<cLine) (I:Inv X pins σ H s) (g:qhP H a y (some v)) (ry:RelV y u) (h: ∀w' s',Inv X pins σ H s'->RelV v w'->Q w' s'):
  wpAny (model X.prog X.w) A (getItem (.ref a) u) Q E s:=by
 rcases g with⟨kvs,k,e,ey,l⟩|⟨kvs,k,b,e,ey,eb,l⟩
 ·subst ey;obtain⟨z,hd,vs,rel,dd⟩:=qfC I.hok e;obtain⟨w',hw,ar⟩:=qeO.some_of (v:=v) (o:=valueAt vs k) (by rw[l];exact rel.val k);exact wpAny_getItem_of (qc9 ry) dd.mapOf hw (h w' _ (I.tok _) ar)
 ·subst ey;cases(show u=Value.ref b from ry);obtain⟨z,hd,xs,rel,dd⟩:=qgz I.hok e;obtain⟨w',hw,ar⟩:=qeO.some_of (v:=v) (o:=(atKey xs k).map (·.2)) (by rw[l];exact rel.val k);obtain⟨p,hp,b9⟩:=Option.map_eq_some_iff.mp hw;refine wpAny_getItem_heap (tupleKind_room_in1 hu) (qc8 I.hok eb) dd hp ?_;rw[b9];exact h w' _ (I.tok _) ar
theorem qwG (hu:A.units+1<cLine) (I:Inv X pins σ H s) (g:qhP H a y o) (ry:RelV y u) (h: ∀s',Inv X pins σ H s'->Q (.bool o.isSome) s'):
  wpAny (model X.prog X.w) A (compareOp .In u (.ref a)) Q E s:=by
 rcases g with⟨kvs,k,e,ey,l⟩|⟨kvs,k,b,e,ey,eb,l⟩
 ·subst ey;obtain⟨z,hd,vs,rel,dd⟩:=qfC I.hok e;refine wpAny_in_of (qc9 ry) hd dd.mapOf ?_;rw[<-(rel.val k).isSome_eq,<-l];exact h _ (I.tok _)
 ·subst ey;cases(show u=Value.ref b from ry);obtain⟨z,hd,xs,rel,dd⟩:=qgz I.hok e;refine wpAny_in_heap (tupleKind_room_in1 hu) (qc8 I.hok eb) hd dd ?_;have q:=(rel.val k).isSome_eq;rw[Option.isSome_map] at q;rw[<-q,<-l];exact h _ (I.tok _)
theorem qkr (hu:A.units+1<cLine) (I:Inv X pins σ H s) (g:qhP H a y o) (ry:RelV y u) (h: ∀s',Inv X pins σ H s'->Q (.bool (!o.isSome)) s'):
  wpAny (model X.prog X.w) A (compareOp .NotIn u (.ref a)) Q E s:=by
 rcases g with⟨kvs,k,e,ey,l⟩|⟨kvs,k,b,e,ey,eb,l⟩
 ·subst ey;obtain⟨z,hd,vs,rel,dd⟩:=qfC I.hok e;refine wpAny_notIn_of (qc9 ry) hd dd.mapOf ?_;rw[<-(rel.val k).isSome_eq,<-l];exact h _ (I.tok _)
 ·subst ey;cases(show u=Value.ref b from ry);obtain⟨z,hd,xs,rel,dd⟩:=qgz I.hok e;refine wpAny_notIn_heap (tupleKind_room_in1 hu) (qc8 I.hok eb) hd dd ?_;have q:=(rel.val k).isSome_eq;rw[Option.isSome_map] at q;rw[<-q,<-l];exact h _ (I.tok _)
theorem qeE (I:Inv X pins σ H s) (mu:Mut (H a)) (hs:Heap.SameBut a s.heap h') (he: ∃q,h'.get? a=some q) (new:qaC X.prog X.w (upd H a ob) h' a ob):
  Inv X pins σ (upd H a ob) { s with heap:=h',toks:=t' }:=
 I.write (x:=a) (e:=a) mu (.inl rfl) (λb q hb z=>(hs.2 b hb).trans z) he new
theorem qnO (z:kvs.length<=sizeLine) (hd:(a==sysModules)=false) (rel:KV kvs vs) (dd:h'.DictOf (qaq P w) a vs):
  qaC P w H' h' a (.dK kvs):=⟨z,hd,vs,rel,dd⟩
theorem qdh (hu:A.units+1<cLine) (I:Inv X pins σ H s) (g:qx8 H a y v H') (ry:RelV y u) (rv:RelV v r) (h: ∀s',Inv X pins σ H' s'->Q () s'):
  wpAny (model X.prog X.w) A (setItem (.ref a) u r) Q E s:=by
 rcases g with⟨kvs,k,e,ey,l,eH⟩|⟨kvs,k,b,e,ey,eb,l,eH⟩
 ·subst ey eH;obtain⟨z,hd,vs,rel,dd⟩:=qpU I.hok e;have hz:vs.length<=sizeLine:=by rw[<-rel.length];exact z
  have hl:(qiD kvs k v).length<=sizeLine:=by have:=qc5 kvs k v;omega
  refine wpAny_setItem_pairs (hsz:=hz) (qc9 ry) dd λh' dj hs=>h _ ?_;have he: ∃q,h'.get? a=some q:=let ⟨q,_,_,hq,_⟩:=dj;⟨q,hq⟩
  exact qeE I (by rw[e];exact True.intro) hs he (qnO hl hd (rel.put k rv) dj)
 ·subst ey eH;cases(show u=Value.ref b from ry);obtain⟨z,hd,xs,rel,dd⟩:=qsC I.hok e;have hz:xs.length<=sizeLine:=by rw[<-Paired.length rel];exact z
  have hl:(qiD kvs k v).length<=sizeLine:=by have:=qc5 kvs k v;omega
  refine wpAny_setItem_heap (hsz:=hz) (tupleKind_room_in1 hu) (qc8 I.hok eb) dd λh' dj hs=>h _ ?_;obtain⟨q,es,ep,hq,h2,h3,h4,_,h5⟩:=dj;refine qeE I (by rw[e];exact True.intro) hs ⟨q,hq⟩ ⟨hl,hd,_,(rel.put k eb rv).keeps λc ys ec=> ?_,q,es,ep,hq,h2,h3,h4,h5⟩;rw[qad (quT ec e (λz=>nomatch z))];exact ec
end
section
theorem qp4(I:Inv X pins σ H s)(e:H a=some (.dK kvs))(h: ∀s',Inv X pins σ (upd H a (.dK [])) s'->Q .none s'):wpAny (model X.prog X.w) A (call (.builtin "dict.clear") [.ref a]) Q E s:=by
 obtain⟨z,hd,vs,rel,dd⟩:=qpU I.hok e;refine call_meetsIn F.slot_dict_clear dd.typeIs F.entry_dict_clear (F.args_dict_clear_1 _) (meets_dict_clear (qaq X.prog X.w) a) ⟨vs,dd,by rw[<-rel.length];exact z,λh' dj hs=>h _ ?_⟩;have he: ∃q,h'.get? a=some q:=let ⟨q,_,_,hq,_⟩:=dj;⟨q,hq⟩
 exact qeE (t':=s.toks) I (by rw[e];exact True.intro) hs he (qnO (Nat.zero_le _) hd .nil dj)
theorem qvL(I:Inv X pins σ H s)(e:Rd H a (.dK kvs))(h: ∀t s',Inv X pins σ H s'->Q (.int kvs.length t) s'):wpAny (model X.prog X.w) A (call (.builtin "len") [.ref a]) Q E s:=by obtain⟨z,hd,vs,rel,dd⟩:=qfC I.hok e;refine call_len_dict hd dd (by rw[<-rel.length];rw[sizeLine_eq] at z;omega) ?_;rw[<-rel.length];exact h _ _ (I.tok _)
end
noncomputable def qwW(i:Expr):Prop:= ∀ov iv,subscripted i false ov iv=operate [ov,iv] (getItem ov iv)
theorem qop {prog:Program} {w:World} {A:Around} {E:Value->Shared->Prop} {s:Shared} {env:Env} {value slice:Expr} {pos:Pos} {T id:String} {Q:Value->Shared->Prop} (hl:typeLookup (.type T) "__getitem__" =pure (some (.builtin id))) (hs:qwW slice) (h:wpAny (model prog w) A (eval value env) (λo ae=>wpAny (model prog w) A (eval slice env) (λi aM=>aM.TypeIs o T/\wpAny (model prog w) A (getItem o i) Q E aM) E ae) E s):
  wpAny (model prog w) A (eval (.Subscript value slice pos) env) Q E s:=by
 refine Subscript_ (Vc h (λo ae f6=>Vc f6 (λi aM cO=> ?_) λ_ _ x=>x) λ_ _ x=>x);obtain⟨hT,cO⟩:=cO;unfold subscriptTail;refine Va ?_;rw[getitemInPython_of_ne hT.not_modules];refine Va (wpAny_specialOf hT hl ?_);have fin:wpAny (model prog w) A (subscripted slice false o i) (λr dJ=>wpAny (model prog w) A (letTemporaryGo value o r>>=λ_=>pure r) Q E dJ) E aM:=by rw[hs o i];exact wpAny_operating (Vc cO (λr dJ fZ=>Va (wpAny_letTemporaryGo (Vb fZ))) λ_ _ x=>x)
 first
  |exact Vb (Va fin)
  |exact Va (Vb (Va fin))
  |exact Va fin
theorem qgB(I:Inv X pins σ H s)(g:qhP H a y o):s.TypeIs (.ref a) "dict" :=by
 rcases g with⟨kvs,k,e,_,_⟩|⟨kvs,k,b,e,_,_,_⟩
 ·obtain⟨_,_,vs,_,dd⟩:=qfC I.hok e;exact dd.typeIs
 ·obtain⟨_,_,xs,_,dd⟩:=qgz I.hok e;exact dd.typeIs
theorem qmA(h:Heap)(hb:sysModules<h.objs.size):qaC P w H (h.push { cls:=.type "dict",data:=.dict #[] }) h.objs.size (.dK []):=
 ⟨Nat.zero_le _,beq_eq_false_iff_ne.mpr (Ne.symm (Vo hb)),[],.nil,Heap.DictOf.new h⟩
noncomputable def qqK:TE:=λ_ H Q=> ∀p,H p=none->Q (.ref p) (upd H p (.dK []))
section
theorem qlU:PE X (.Dict [] [] pos) qqK:=λpins s σ H Q I h=>
 wpAny_Dict_empty ⟨.ref s.heap.objs.size,_,I.laid (a:=s.heap.objs.size) (o:=.dK []) (t':=s.toks) (λ_ _ q=>Vg _ q) (Vm _) (qmA s.heap I.big),rfl,h _ (I.hok.fresh (Vm _))⟩
end
structure M1(X:Cx)(o:Expr)(m:Str)(apos:Pos)(e:Expr)(cpos:Pos):Prop where
 base:attributeBase o m X.env (eval o X.env)=eval o X.env
 few:((backTo cpos (starEach [e] X.env)).all (λx=> !x.1)&&(backToKw cpos (keywordEach [] X.env)).all (λx=>x.1.isSome)
  &&decide (([e]:List Expr).length+([]:List Keyword).length+(if([]:List Keyword).isEmpty then 0 else 1)<30))=true
 line:(apos.endLine==cpos.line)=true
 trees:backTo cpos (starEach [e] X.env)=[(false,eval e X.env)]
structure M2(X:Cx)(o:Expr)(m:Str)(apos:Pos)(e f:Expr)(cpos:Pos):Prop where
 base:attributeBase o m X.env (eval o X.env)=eval o X.env
 few:((backTo cpos (starEach [e,f] X.env)).all (λx=> !x.1)&&(backToKw cpos (keywordEach [] X.env)).all (λx=>x.1.isSome)
  &&decide (([e,f]:List Expr).length+([]:List Keyword).length+(if([]:List Keyword).isEmpty then 0 else 1)<30))=true
 line:(apos.endLine==cpos.line)=true
 trees:backTo cpos (starEach [e,f] X.env)=[(false,eval e X.env),(false,eval f X.env)]
noncomputable def IsD(H:Hp)(a:Addr):Prop:=(∃kvs,Rd H a (.dK kvs))\/∃kvs,Rd H a (.dT kvs)
section
theorem qsZ (hu:A.units+1<cLine) (I:Inv X pins σ H s) (g:qhP H a y o) (ry:RelV y u) (h: ∀w' s',Inv X pins σ H s'->RelV (o.getD .non) w'->Q w' s'):
  wpAny (model X.prog X.w) A (call (.builtin "dict.get") [.ref a,u]) Q E s:=by
 rcases g with⟨kvs,k,e,ey,l⟩|⟨kvs,k,b,e,ey,eb,l⟩
 ·subst ey;obtain⟨z,hd,vs,rel,dd⟩:=qfC I.hok e;refine call_meetsIn F.slot_dict_get dd.typeIs F.entry_dict_get (F.args_dict_get_2 _ _) (meets_dict_get (qaq X.prog X.w) a (qc9 ry) hd) ⟨_,dd.mapOf,h _ _ (I.tok _) ?_⟩;rw[l];exact(rel.val k).getD rfl
 ·subst ey;cases(show u=Value.ref b from ry);obtain⟨z,hd,xs,rel,dd⟩:=qgz I.hok e;refine call_meetsIn F.slot_dict_get dd.typeIs F.entry_dict_get (F.args_dict_get_2 _ _) (meetsH_dict_get (tupleKind (qaq X.prog X.w)) a b hd) ⟨tupleKind_room_in1 hu,k,xs,qc8 I.hok eb,dd,h _ _ (I.tok _) ?_⟩;rw[l];exact(rel.val k).getD rfl
theorem qnQ (hu:A.units+1<cLine) (I:Inv X pins σ H s) (g:qhP H a y o) (ry:RelV y u) (rd:RelV d r) (h: ∀w' s',Inv X pins σ H s'->RelV (o.getD d) w'->Q w' s'):
  wpAny (model X.prog X.w) A (call (.builtin "dict.get") [.ref a,u,r]) Q E s:=by
 rcases g with⟨kvs,k,e,ey,l⟩|⟨kvs,k,b,e,ey,eb,l⟩
 ·subst ey;obtain⟨z,hd,vs,rel,dd⟩:=qfC I.hok e;refine call_meetsIn F.slot_dict_get dd.typeIs F.entry_dict_get (F.args_dict_get_3 _ _ _) (meets_dict_get_default (qaq X.prog X.w) a (qc9 ry) hd r) ⟨_,dd.mapOf,h _ _ (I.tok _) ?_⟩;rw[l];exact(rel.val k).getD rd
 ·subst ey;cases(show u=Value.ref b from ry);obtain⟨z,hd,xs,rel,dd⟩:=qgz I.hok e;refine call_meetsIn F.slot_dict_get dd.typeIs F.entry_dict_get (F.args_dict_get_3 _ _ _) (meetsH_dict_get_default (tupleKind (qaq X.prog X.w)) a b hd r) ⟨tupleKind_room_in1 hu,k,xs,qc8 I.hok eb,dd,h _ _ (I.tok _) ?_⟩;rw[l];exact(rel.val k).getD rd
end
section
theorem qkT:qau X (.builtin "len") (λxs H Q=> ∃a kvs,xs=[V.ref a]/\H a=some (.dK kvs)/\Q (.int kvs.length) H):=by intro pins s σ H xs us Q I r h;obtain⟨a,kvs,rfl,ha,q⟩:=h;obtain⟨u,rfl,ru⟩:=qdu r;cases ru;exact qvL I (.inl ha) λt s' I'=>⟨.int kvs.length,H,I',⟨t,rfl⟩,q⟩
end
end L2
namespace RH
open PySem L2
abbrev Rw:=Int×Str×Int
noncomputable def qx1(rs:List Rw)(k:Str):List Int:=(rs.filter λr=>decide (r.2.1=k)).map (·.2.2)
noncomputable def outT(g:List Int->Rw->Option Rw)(rs:List Rw)(i:Nat):List Rw:=(List.range i).filterMap λj=>(rs[j]?).bind λr=>g (qx1 (rs.take j) r.2.1) r
open PySem.Spec PyProof.Rows
noncomputable def pickL{α:Type}(xs:List α)(lo hi st:Option Int):List α:=(sliceRange (sliceBounds lo hi st xs.length).1 (sliceBounds lo hi st xs.length).2.1 (sliceBounds lo hi st xs.length).2.2).filterMap (xs[·]?)
theorem qoa(r:qat xs us)(i:Nat):(xs[i]? =none/\us[i]? =none)\/∃x u,xs[i]? =some x/\us[i]? =some u/\RelV x u:=by
 induction r generalizing i with
 |nil=>exact .inl ⟨rfl,rfl⟩
 |cons h _ ih=>
  cases i with
  |zero=>exact .inr ⟨_,_,rfl,rfl,h⟩
  |succ i=>exact ih i
theorem vals_pick(r:qat xs us): ∀l:List Nat,qat (l.filterMap (xs[·]?)) (l.filterMap (us[·]?))
 |[]=>.nil
 |i::l=>by
  rcases qoa r i with⟨e1,e2⟩|⟨x,u,e1,e2,h⟩
  ·rw[List.filterMap_cons_none e1,List.filterMap_cons_none e2];exact vals_pick r l
  ·rw[List.filterMap_cons_some e1,List.filterMap_cons_some e2];exact .cons h (vals_pick r l)
theorem pe_slice3 {X:Cx} {e dO:Expr} {lo hi:Option Expr} {te:TE} {tl th ts:TO} {p2 pos:Pos} (he:PE X e te) (hl:PO X lo tl) (hu:PO X hi th) (aD:PO X (some dO) ts):
  PE X (.Subscript e (.Slice lo hi (some dO) p2) pos) (λσ H Q=>te σ H λx H1=>tl σ H1 λl H2=>th σ H2 λu H3=>ts σ H3 λst H4=>st≠some 0/\∃a xs,x= .ref a/\SqL X.K H4 a xs/\∀p,H4 p=none->Q (.ref p) (upd H4 p (.lst (pickL xs l u st)))):=by
 intro pins s σ H Q I h;refine Subscript_ (thn (he pins s σ H _ I h) λv s1 ⟨x,H1,I1,r1,q1⟩=> ?_);refine wpAny_Slice (thn (hl pins s1 σ H1 _ I1 q1) λvl s2 ⟨l,H2,I2,pl,q2⟩=>thn (hu pins s2 σ H2 _ I2 q2) λvu s3 ⟨u,H3,I3,pu,q3⟩=>thn (aD pins s3 σ H3 _ I3 q3) λvs s4 ⟨st,H4,I4,ps,n0,a,xs,ex,hx,q4⟩=> ?_);subst ex;cases r1;have I5:Inv X pins σ H4 { s4 with heap:=s4.heap.push { cls:=.type "slice",data:=.fields #[vl,vu,vs] } }:=I4.kept (t':=s4.toks) λb ob q=>Vg _ q;obtain⟨its,r,ht,hz⟩:=I5.list hx;have hlen:=r.length;refine tail_any (ops:=[.ref a,.ref s4.heap.objs.size]) (T:= "list") ht.isList.typeIs slot_list_getitem.lookup ?_ (by with_unfolding_all rfl);refine wpAny_getItem_list_slice ht.isList (Heap.IsSliceOf.new ..) pl pu ps n0 ?_ (by rw[List.size_toArray]<;>lia);have ep:slicePick its.toArray l u st=(pickL its l u st).toArray:=by unfold slicePick pickL;simp
 rw[ep];refine⟨.ref _,_,I5.laid (t':=s4.toks) (o:=.lst (pickL xs l u st)) (λb ob q=>Vg _ q) (Vm _) ?_,rfl,q4 _ (I5.hok.fresh (Vm _))⟩;have rv:qat (pickL xs l u st) (pickL its l u st):=by unfold pickL;rw[hlen];exact vals_pick r _
 have sz:(pickL its l u st).length<=its.length:=by have:=slicePick_size_le its.toArray l u st;rw[ep] at this;simpa using this
 exact⟨by rw[rv.length];lia,_,0,rv,Vh _ rfl⟩
end RH
namespace L2
open PySem PySem.Spec PyProof.Rows
end L2
namespace RH
open PySem L2
open PySem.Spec PyProof.Rows
end RH
namespace St
open PySem PySem.W PySem.Calls PyProof.Rows
section
theorem qgb(h:n<2):qdr kz n (List.toArray (List.range n)):=by refine⟨⟨by simp,λi hi=> ?_,λi q1 q2=>by lia⟩,λi j aI hj=>by lia⟩;unfold g;rw[Array.getD_eq_getD_getElem?];simp[hi]
theorem qpp {s:Shared} {vs:List Value} {kz:List Int} {h0:Heap} {n:Nat} (ho:s.heap.get? D=some (seqObj "list" vs.toArray n)) (hlen:kz.length=vs.length) (dF:vs.length<64) (kp:Kp h0 s.heap) (iV:h0.get? D=none) (kind: ∀s':Shared,Kp h0 s'.heap->2<=vs.length->∀Q:SortKind->Shared->Prop,Q κ s'->wpAny (model prog w) A (keyKind' vs.toArray) Q E s') (cmp: ∀s':Shared,Kp h0 s'.heap->∀i j,i<vs.length->j<vs.length->∀C:Bool->Shared->Prop,C (decide (kz.getD i 0<kz.getD j 0)) s'->wpAny (model prog w) A (keyLt' κ (vs.getD i Value.none) (vs.getD j Value.none)) C (λ_ _=>False) s') (h: ∀h' tk c (p:Array Nat),Kp h0 h'->qdr kz vs.length p->h'.get? D=some (seqObj "list" (List.toArray (p.toList.map λi=>vs.getD i Value.none)) c)->P (.done (.ret .none)) { s with heap:=h',toks:=tk }):
  wpAny (model prog w) A (Builtin.«list.sort» ⟨[.ref D],[]⟩) P E s:=by
 rw[list_sort_plain];have s1:=Heap.SameBut.update s.heap D (Obj.mapSeq λ_=>(#[]:Array Value));obtain⟨e1,ho1⟩: ∃e1,(s.heap.update D (Obj.mapSeq λ_=>(#[]:Array Value))).get? D=some (seqObj "list" #[] e1):=⟨_,get?_update_seq ho λ_=> #[]⟩
 refine Va (listItems_at ho rfl ?_);refine Va (listUpdate_at ho rfl ?_ (by rw[List.size_toArray,sizeLine_eq];lia) (Nat.zero_le _));refine Va (seqEpoch_at ho1 rfl ?_);generalize hH2:s.heap.update D (Obj.mapSeq λ_=>(#[]:Array Value))=H2 at ho1 s1⊢;have kp3:Kp h0 H2:=λb o z=>(s1.2 b (λq=>by rw[q,iV] at z;cases z)).trans (kp b o z);refine Va (wpAny_newTuple ?_ (by show vs.length<=_;rw[sizeLine_eq];lia));refine Va (wpAny_newList ?_ (Nat.zero_le _));refine wpAny_holding ?_;generalize gY:(H2.push (seqObj "tuple" vs.toArray 0)).push (seqObj "list" #[] 0)=H3;have gZ:H3.get? D=some (seqObj "list" #[] e1):=by rw[<-gY];exact Vg _ (Vg _ ho1)
 have fW:Kp h0 H3:=λb o z=>by rw[<-gY];exact Vg _ (Vg _ (kp3 b o z))
 have fin: ∀(st:SortSt) (p:Array Nat),qdr kz vs.length p->(arrOf st).map (·.2)=List.toArray (p.toList.map λi=>vs.getD i Value.none)->failedOf st=none->
   wpAny (model prog w) A (do
    let touched:=(<-seqEpoch D) != e1
    Builtin.List.listUpdate (.ref D) λ_=>(arrOf st).map (·.2)
    if let some e:=failedOf st then rule "list.sort.comparison-raised";throw e
    if touched then rule "list.sort.modified";raiseError "ValueError" "list modified during sort"
    ret .none) P E { s with heap:=H3 }:=λst p aX gS hfl=>by
  have hsz:(p.toList.map λi=>vs.getD i Value.none).length=vs.length:=by rw[List.length_map,Array.length_toList,aX.1.sz]
  refine Va (seqEpoch_at gZ rfl ?_);rw[gS];refine Va (listUpdate_at gZ rfl ?_ (Nat.zero_le _) (by show(List.toArray _).size<=_;rw[List.size_toArray,hsz,sizeLine_eq];lia));rw[hfl];simp only[bne_self_eq_false,Bool.false_eq_true,if_false];have gJ: ∃c,(H3.update D (Obj.mapSeq λ_=>List.toArray (p.toList.map λi=>vs.getD i Value.none))).get? D=some (seqObj "list" (List.toArray (p.toList.map λi=>vs.getD i Value.none)) c):=⟨_,get?_update_seq gZ λ_=>List.toArray (p.toList.map λi=>vs.getD i Value.none)⟩
  obtain⟨c,hc⟩:=gJ;refine Vb (h _ _ c p (λb o q=> ?_) aX hc);have nD:b≠D:=λz=>by rw[z,iV] at q;cases q
  exact((Heap.SameBut.update H3 D _).2 b nD).trans (fW b o q)
 by_cases h2:vs.toArray.size<2
 ·rw[if_pos h2,if_pos h2];refine Va (Vb ?_);dsimp only;rw[StateT.run_pure];refine Va (Vb ?_);rw[List.size_toArray] at h2;refine fin _ _ (qgb h2) ?_ rfl;show(vs.toArray.zip vs.toArray).map (·.2)=_;apply Array.toList_inj.mp;rw[Array.toList_map,ksk_zip,List.toList_toArray,List.toList_toArray];rw[show(vs.zip vs).map (λx:Value×Value=>x.2)=vs from List.map_snd_zip (by lia)];apply List.ext_getElem
  ·simp
  ·intro i h3 h4;simp[List.getElem?_eq_getElem h3]
 ·rw[if_neg h2,if_neg h2];rw[List.size_toArray] at h2;refine Va (kind { s with heap:=H3 } fW (by lia) _ ?_)
  have run:=kat_run (prog:=prog) (w:=w) (A:=A) (E:=E) (s:={ s with heap:=H3 }) (κ:=κ) (ks:=vs) (vs:=vs) (Q:=λst s'=>s'={ s with heap:=H3 }/\∃p,qdr kz vs.length p/\(arrOf st).map (·.2)=List.toArray (p.toList.map λi=>vs.getD i Value.none)/\failedOf st=none)
   (G:=λp s'=>s'={ s with heap:=H3 }/\qdr kz vs.length p) rfl (by lia) dF (λp aR s' a1 a2 a3 a4=>⟨a4.1,p,a4.2,kat_snds rfl a2,a3⟩)
   (qj2 (ask:=qbV λi=>kz.getD i 0) (N:=vs.length) (λi j C hi hj hc=>cmp { s with heap:=H3 } fW i j hi hj C hc) (λp hp=>⟨rfl,hp⟩) (qot (by lia)))
  refine Va (Vc run (λr s' hr=> ?_) λ_ _ x=>x);obtain⟨rfl,p,aX,gS,hf⟩:=hr;exact fin _ p aX gS hf
end
end St
namespace SR
section
noncomputable def ins{α:Type}(k:α->Int)(r:α):List α->List α
 |[]=>[r]
 |x::l=>if k x<=k r then x::ins k r l else r::x::l
noncomputable def srt{α:Type}(k:α->Int)(l:List α):List α:=l.foldl (λa r=>ins k r a) []
theorem qea:srt k (l++[r])=ins k r (srt k l):=by unfold srt;rw[List.foldl_append];rfl
theorem qjX{α:Type}{β:Type}{k:α->Int}{k':β->Int}{f:β->α}(h: ∀b,k' b=k (f b))(r:β): ∀l:List β,(ins k' r l).map f=ins k (f r) (l.map f)
 |[]=>rfl
 |x::l=>by
  show List.map f (if k' x<=k' r then x::ins k' r l else r::x::l)=(if k (f x)<=k (f r) then f x::ins k (f r) (l.map f) else f r::f x::l.map f)
  rw[h x,h r];by_cases c:k (f x)<=k (f r)
  ·rw[if_pos c,if_pos c,List.map_cons,qjX h r l]
  ·rw[if_neg c,if_neg c,List.map_cons,List.map_cons]
theorem srt_map{α:Type}{β:Type}{k:α->Int}{k':β->Int}{f:β->α}(h: ∀b,k' b=k (f b))(l:List β):(srt k' l).map f=srt k (l.map f):=by
 have go: ∀(l a:List β),(l.foldl (λa r=>ins k' r a) a).map f=(l.map f).foldl (λa r=>ins k r a) (a.map f):=by
  intro l
  induction l with
  |nil=>intro a;rfl
  |cons x l ih=>intro a;rw[List.foldl_cons,ih,List.map_cons,List.foldl_cons,qjX h]
 exact go l []
theorem qgq: ∀{l:List α},x∈ins k r l↔x=r\/x∈l
 |[]=>by simp[ins]
 |y::l=>by
  unfold ins;by_cases c:k y<=k r
  ·rw[if_pos c,List.mem_cons,qgq,List.mem_cons];constructor
   ·rintro(h|h|h)
    ·exact .inr (.inl h)
    ·exact .inl h
    ·exact .inr (.inr h)
   ·rintro(h|h|h)
    ·exact .inr (.inl h)
    ·exact .inl h
    ·exact .inr (.inr h)
  ·rw[if_neg c,List.mem_cons]
theorem qdI: ∀{l:List α},(ins k r l).length=l.length+1
 |[]=>rfl
 |y::l=>by
  unfold ins;by_cases c:k y<=k r
  ·rw[if_pos c,List.length_cons,qdI,List.length_cons]
  ·rw[if_neg c];rfl
theorem mem_srt(l:List α):x∈srt k l↔x∈l:=by
 have go: ∀(l a:List α),x∈l.foldl (λa r=>ins k r a) a↔x∈a\/x∈l:=by
  intro l
  induction l with
  |nil=>intro a;simp
  |cons y l ih=>
   intro a;rw[List.foldl_cons,ih,qgq,List.mem_cons];constructor
   ·rintro((h|h)|h)
    ·exact .inr (.inl h)
    ·exact .inl h
    ·exact .inr (.inr h)
   ·rintro(h|h|h)
    ·exact .inl (.inr h)
    ·exact .inl (.inl h)
    ·exact .inr h
 rw[show srt k l=l.foldl (λa r=>ins k r a) [] from rfl,go];simp
theorem length_srt(l:List α):(srt k l).length=l.length:=by
 have go: ∀(l a:List α),(l.foldl (λa r=>ins k r a) a).length=a.length+l.length:=by
  intro l
  induction l with
  |nil=>intro a;simp
  |cons y l ih=>intro a;rw[List.foldl_cons,ih,qdI,List.length_cons];lia
 have:=go l [];simpa [srt] using this
noncomputable def Ris{α:Type}(k:α->Int)(l:List α):Prop:=l.Pairwise λa b=>k a<=k b
end
section
structure Ord(lt:α->α->Bool):Prop where
 irr: ∀a,lt a a=false
 tr: ∀a b c,lt a b=true->lt b c=true->lt a c=true
 tot: ∀a b,lt a b=false->lt b a=false->a=b
noncomputable def rank{α:Type}(lt:α->α->Bool)(as:List α)(a:α):Int:=(as.countP λx=>lt x a:Nat)
theorem qfG{α:Type}{p q:α->Bool}(h: ∀x,p x=true->q x=true): ∀l:List α,l.countP p<=l.countP q
 |[]=>Vm _
 |x::l=>by
  have ih:=qfG h l;rw[List.countP_cons,List.countP_cons];cases e:p x with
  |true=>rw[h x e];simp;exact ih
  |false=>simp;lia
theorem qfF{α:Type}{p q:α->Bool}(h: ∀x,p x=true->q x=true){a:α}(ha:p a=false)(hb:q a=true): ∀{l:List α},a∈l->l.countP p<l.countP q
 |x::l,hm=>by
  rw[List.countP_cons,List.countP_cons];have le:=qfG h l
  rcases List.mem_cons.mp hm with rfl|hm
  ·rw[ha,hb];simp;lia
  ·have ih:=qfF h ha hb hm;cases e:p x with
   |true=>rw[h x e];simp;exact ih
   |false=>simp;lia
theorem qoB{α:Type}{lt:α->α->Bool}(o:Ord lt){as:List α}{a b:α}(ha:a∈as)(hb:b∈as):decide (rank lt as a<rank lt as b)=lt a b:=by
 have up: ∀{a b:α},a∈as->lt a b=true->rank lt as a<rank lt as b:=λ{a b} ha h=>by unfold rank;have:=qfF (p:=λx=>lt x a) (q:=λx=>lt x b) (λx hx=>o.tr x a b hx h) (o.irr a) h ha;lia
 cases h:lt a b with
 |true=>exact Vw (up ha h)
 |false=>
  refine Vx ?_;cases h2:lt b a with
  |true=>have:=up hb h2;lia
  |false=>have:=o.tot a b h h2;subst this;lia
noncomputable def qqR{α:Type}(lt:α->α->Bool)(as:List α):List α:=srt (rank lt as) as
theorem qhc: ∀l:List α,List.Perm (ins k r l) (r::l)
 |[]=>List.Perm.refl _
 |x::l=>by
  show List.Perm (if k x<=k r then x::ins k r l else r::x::l) _;by_cases c:k x<=k r
  ·rw[if_pos c];exact((qhc l).cons x).trans (List.Perm.swap r x l)
  ·rw[if_neg c]
theorem perm_srt(l:List α):List.Perm (srt k l) l:=by
 have go: ∀(l a:List α),List.Perm (l.foldl (λa r=>ins k r a) a) (a++l):=by
  intro l
  induction l with
  |nil=>intro a;simp
  |cons x l ih=>intro a;rw[List.foldl_cons];refine(ih _).trans ?_;refine((qhc a).append_right l).trans ?_;exact List.perm_middle.symm
 exact go l []
end
end SR
namespace L2
open PySem PySem.Spec PySem.Calls PyProof.Rows PySem.W
noncomputable def qek(K:Frag)(N:Addr):Bool:=nsOkIn K N&&qtD.all λn=>nsIn K N n==some none
theorem qbi{K:Frag}{h:Heap}(X:K.In h)(e:qek K N=true):h.Ns N (h.nsMap N)/\∀n∈qtD,h.nsMap N n=none:=by unfold qek at e;rw[Bool.and_eq_true] at e;exact⟨.of_isNs (isNs_of_in X e.1),λn hn=>nsMap_none_of_in X e.1 (beq_iff_eq.mp (List.all_eq_true.mp e.2 n hn))⟩
noncomputable def qd7(K:Frag)(bmB:List Value):List Value->Bool
 |[]=>bmB==[]
 |v::r=>(v::r)==bmB||match v with
  |.ref A=>(match K.lookup A with
   |some ⟨_,_,.cls cd,_⟩=>qek K cd.ns&&qd7 K bmB r
   |_=>false)
  |_=>false
theorem qcQ{K:Frag}(X:K.In h): ∀{l:List Value},qd7 K bmB l=true->qdx h bmB l
 |[],e=>by rw[<-beq_iff_eq.mp e];exact .base
 |v::r,e=>by
  unfold qd7 at e
  rcases Bool.or_eq_true_iff.mp e with q|q
  ·rw[beq_iff_eq.mp q];exact .base
  ·split at q
   ·split at q
    ·rename_i ho;rw[Bool.and_eq_true] at q;exact .own (X _ _ ho) (qbi X q.1).1 (qbi X q.1).2 (qcQ X q.2)
    ·cases q
   ·cases q
noncomputable def qfy(K:Frag)(C:Addr)(bm:List Value):Bool:=match K.lookup C with
 |some ⟨.type "type",_,.cls cd,sl⟩=>(match cd.mro,sl.toList with
  |.ref C'::i9,[_,_,_,_,some (.builtin n),_]=>C'==C&&i9==bm&&n== "ValueError.__new__" && !cd.hasDel&&qd7 K bmV bm&&qek K cd.ns
  |_,_=>false)
 |_=>false
theorem qir{K:Frag}(X:K.In h)(q:qfy K C bm=true):qiG h C bm:=by
 unfold qfy at q;split at q
 ·rename_i dd cd sl ho;split at q
  ·rename_i C' i9 k0 k1 k2 k3 n k5 hm hs;simp only[Bool.and_eq_true,beq_iff_eq,Bool.not_eq_true'] at q;obtain⟨⟨⟨⟨⟨rfl,rfl⟩,rfl⟩,eT⟩,ht⟩,hok⟩:=q;obtain⟨nm,bs,mro,ns,qn,hd,sn,sub,ab,col,del⟩:=cd;dsimp only at hm eT hok;subst hm eT;have hsl:sl= #[k0,k1,k2,k3,some (.builtin "ValueError.__new__"),k5]:=by obtain⟨l⟩:=sl;simp only at hs;rw[hs]
   subst hsl;exact⟨ns,nm,qn,bs,hd,sn,sub,ab,col,dd,k0,k1,k2,k3,k5,_,X _ _ ho,(qbi X hok).1,(qbi X hok).2,qcQ X ht⟩
  ·cases q
 ·cases q
end L2
namespace NV
open PySem L2
inductive T where
 |non|bl (b:Bool)|int (i:Int)|str (s:Str)|tup (ts:List T)|lst (ts:List T)|dct (kvs:List (Key×T))|fn (x:Str)|scr (ns:List Int)|obj (k:Nat)|exc (c:Str)
inductive Ct where
 |ls (ts:List T)|dk (kvs:List (Key×T))|du (kvs:List (List Key×T))|ins (c:Str) (fs:List (Str×T))|gone
structure Mu where
 l:List Ct
 k:List (Nat×Nat)
mutual
noncomputable def ub:T->Nat
 |.obj k=>k+1
 |.tup ts=>ubs ts
 |.lst ts=>ubs ts
 |.dct kvs=>ubd kvs
 |_=>0
noncomputable def ubs:List T->Nat
 |[]=>0
 |t::ts=>max (ub t) (ubs ts)
noncomputable def ubd:List (Key×T)->Nat
 |[]=>0
 |(_,t)::ts=>max (ub t) (ubd ts)
end
noncomputable def ubf{κ:Type}:List (κ×T)->Nat
 |[]=>0
 |(_,t)::ts=>max (ub t) (ubf ts)
noncomputable def ubC:Ct->Nat
 |.ls ts=>ubs ts
 |.dk kvs=>ubf kvs
 |.du kvs=>ubf kvs
 |.ins _ fs=>ubf fs
 |.gone=>0
noncomputable def Mu.put(m:Mu)(k:Nat)(c:Ct):Mu:=⟨m.l.set k c,if ubC c<=k then m.k else(k,ubC c)::m.k⟩
noncomputable def Mu.add(m:Mu)(c:Ct):Mu:=⟨m.l++[c],if ubC c<=m.l.length then m.k else(m.l.length,ubC c)::m.k⟩
inductive R(α:Type) where
 |no|ok (a:α) (m:Mu)|ex (c:Str) (m:Mu)
noncomputable def R.bind{α β:Type}:R α->(α->Mu->R β)->R β
 |.no,_=>.no
 |.ok a m,f=>f a m
 |.ex c m,_=>.ex c m
@[simp] theorem qaa{α β:Type}(a:α)(m:Mu)(f:α->Mu->R β):(R.ok a m).bind f=f a m:=rfl
@[simp] theorem quR{α β:Type}(f:α->Mu->R β):(R.no:R α).bind f= .no:=rfl
@[simp] theorem qvB{α β:Type}(c:Str)(m:Mu)(f:α->Mu->R β):(R.ex c m:R α).bind f= .ex c m:=rfl
structure qal where
 hp:Hp
 ad:Nat->Option Addr
instance:CoeFun qal λ_=>Addr->Option HO:=⟨qal.hp⟩
noncomputable def clA(K:PySem.W.Frag)(x:Str):Addr:=match PySem.W.nsIn K mainGlobals x with
 |some (some (.ref C))=>C
 |_=>0
mutual
noncomputable def Rep(K:PySem.W.Frag)(B:qal):T->V->Prop
 |.non,v=>v= .non
 |.bl b,v=>v= .bl b
 |.int i,v=>v= .int i
 |.str s,v=>v= .str s
 |.tup ts,v=> ∃p vs,v= .ref p/\B p=some (.tup vs)/\Reps K B ts vs
 |.lst ts,v=> ∃p vs,v= .ref p/\B p=some (.lst vs)/\Reps K B ts vs
 |.dct kvs,v=> ∃p us,v= .ref p/\B p=some (.dK us)/\RepD K B kvs us
 |.fn x,v=> ∃f,v= .ref f/\PySem.W.nsIn K mainGlobals x=some (some (.ref f))
 |.scr ns,v=> ∃p,v= .ref p/\SqL K B.hp p (ns.map V.int)
 |.obj k,v=> ∃a,v= .ref a/\B.ad k=some a
 |.exc c,v=> ∃a,v= .ref a/\B a=some (ExO a (clA K c))
noncomputable def Reps(K:PySem.W.Frag)(B:qal):List T->List V->Prop
 |[],vs=>vs=[]
 |t::ts,vs=> ∃v r,vs=v::r/\Rep K B t v/\Reps K B ts r
noncomputable def RepD(K:PySem.W.Frag)(B:qal):List (Key×T)->List (Key×V)->Prop
 |[],vs=>vs=[]
 |(k,t)::ts,vs=> ∃v r,vs=(k,v)::r/\Rep K B t v/\RepD K B ts r
end
noncomputable def qbd(K:PySem.W.Frag)(B:qal){κ:Type}:List (κ×T)->List (κ×V)->Prop
 |[],vs=>vs=[]
 |(k,t)::ts,vs=> ∃v r,vs=(k,v)::r/\Rep K B t v/\qbd K B ts r
structure Le(B B':qal):Prop where
 h: ∀a o,B a=some o->B' a=some o
 d: ∀k a,B.ad k=some a->B'.ad k=some a
theorem Le.refl(B:qal):Le B B:=⟨λ_ _ h=>h,λ_ _ h=>h⟩
theorem Le.trans{A B C:qal}(h:Le A B)(h':Le B C):Le A C:=⟨λa o e=>h'.h a o (h.h a o e),λa o e=>h'.d a o (h.d a o e)⟩
theorem qi9{K:PySem.W.Frag}{B B':Hp}{p:Addr}{vs:List V}(h: ∀a o,B a=some o->B' a=some o)(q:SqL K B p vs):SqL K B' p vs:=by
 rcases q with(q|⟨o,q⟩)|q
 ·exact .inl (.inl (h _ _ q))
 ·exact .inl (.inr ⟨o,h _ _ q⟩)
 ·exact .inr q
mutual
theorem Rep.mono{K:PySem.W.Frag}{B B':qal}(h:Le B B'): ∀{t:T} {v:V},Rep K B t v->Rep K B' t v
 |.non,_,r=>r
 |.bl _,_,r=>r
 |.int _,_,r=>r
 |.str _,_,r=>r
 |.fn _,_,r=>by unfold Rep at r⊢;exact r
 |.tup _,_,r=>by unfold Rep at r⊢;obtain⟨p,vs,e,q,rs⟩:=r;exact⟨p,vs,e,h.h _ _ q,Reps.mono h rs⟩
 |.lst _,_,r=>by unfold Rep at r⊢;obtain⟨p,vs,e,q,rs⟩:=r;exact⟨p,vs,e,h.h _ _ q,Reps.mono h rs⟩
 |.dct _,_,r=>by unfold Rep at r⊢;obtain⟨p,vs,e,q,rs⟩:=r;exact⟨p,vs,e,h.h _ _ q,RepD.mono h rs⟩
 |.obj _,_,r=>by unfold Rep at r⊢;obtain⟨a,e,q⟩:=r;exact⟨a,e,h.d _ _ q⟩
 |.exc _,_,r=>by unfold Rep at r⊢;obtain⟨a,e,q⟩:=r;exact⟨a,e,h.h _ _ q⟩
 |.scr _,_,r=>by unfold Rep at r⊢;obtain⟨p,e,q⟩:=r;exact⟨p,e,qi9 h.h q⟩
theorem Reps.mono{K:PySem.W.Frag}{B B':qal}(h:Le B B'): ∀{ts:List T} {vs:List V},Reps K B ts vs->Reps K B' ts vs
 |[],_,r=>r
 |_::_,_,r=>by unfold Reps at r⊢;obtain⟨v,r',e,a,b⟩:=r;exact⟨v,r',e,Rep.mono h a,Reps.mono h b⟩
theorem RepD.mono{K:PySem.W.Frag}{B B':qal}(h:Le B B'): ∀{ts:List (Key×T)} {vs:List (Key×V)},RepD K B ts vs->RepD K B' ts vs
 |[],_,r=>r
 |(_,_)::_,_,r=>by unfold RepD at r⊢;obtain⟨v,r',e,a,b⟩:=r;exact⟨v,r',e,Rep.mono h a,RepD.mono h b⟩
end
section
variable {K:PySem.W.Frag}{B B':qal}
theorem qbd.mono{κ:Type}(h:Le B B'): ∀{ts:List (κ×T)} {vs:List (κ×V)},qbd K B ts vs->qbd K B' ts vs
 |[],_,r=>r
 |(_,_)::_,_,⟨v,r',e,a,b⟩=>⟨v,r',e,a.mono h,b.mono h⟩
theorem qg3: ∀{ts:List (Key×T)} {vs:List (Key×V)},qbd K B ts vs↔RepD K B ts vs
 |[],_=>by unfold RepD qbd;exact Iff.rfl
 |(_,_)::_,_=>by unfold RepD;exact⟨λ⟨v,r,e,a,b⟩=>⟨v,r,e,a,qg3.mp b⟩,λ⟨v,r,e,a,b⟩=>⟨v,r,e,a,qg3.mpr b⟩⟩
theorem Reps.nil:Reps K B [] []:=by unfold Reps;rfl
theorem Reps.cons{t:T}{v:V}{ts:List T}{vs:List V}(h:Rep K B t v)(r:Reps K B ts vs):Reps K B (t::ts) (v::vs):=by unfold Reps;exact⟨v,vs,rfl,h,r⟩
theorem Reps.inv{t:T}{ts:List T}{vs:List V}(h:Reps K B (t::ts) vs): ∃v r,vs=v::r/\Rep K B t v/\Reps K B ts r:=by unfold Reps at h;exact h
theorem Reps.inv0{vs:List V}(h:Reps K B [] vs):vs=[]:=by unfold Reps at h;exact h
theorem Reps.length: ∀{ts:List T} {vs:List V},Reps K B ts vs->vs.length=ts.length
 |[],_,h=>by rw[h.inv0];rfl
 |_::_,_,h=>by obtain⟨v,r,rfl,_,h'⟩:=h.inv;simp[Reps.length h']
theorem Reps.get: ∀{ts:List T} {vs:List V} {i:Nat} {t:T},Reps K B ts vs->ts[i]? =some t->∃v,vs[i]? =some v/\Rep K B t v
 |[],_,_,_,_,e=>by simp at e
 |_::_,_,0,_,h,e=>by obtain⟨v,r,rfl,a,_⟩:=h.inv;simp at e;subst e;exact⟨v,rfl,a⟩
 |_::_,_,i+1,t,h,e=>by obtain⟨v,r,rfl,_,h'⟩:=h.inv;obtain⟨u,e1,e2⟩:=Reps.get (i:=i) h' (by simpa using e);exact⟨u,by simpa using e1,e2⟩
theorem Reps.of_get{ts:List T}{vs:List V}(hl:vs.length=ts.length)(h: ∀(i:Nat) (t:T) (v:V),ts[i]? =some t->vs[i]? =some v->Rep K B t v):Reps K B ts vs:=by
 induction ts generalizing vs with
 |nil=>cases vs with
  |nil=>exact .nil
  |cons _ _=>cases hl
 |cons t ts ih=>cases vs with
  |nil=>cases hl
  |cons v vs=>exact .cons (h 0 t v rfl rfl) (ih (by simpa using hl) λi t' v' a b=>h (i+1) t' v' (by simpa using a) (by simpa using b))
theorem Reps.append: ∀{ts us:List T} {vs ws:List V},Reps K B ts vs->Reps K B us ws->Reps K B (ts++us) (vs++ws)
 |[],_,_,_,h,h'=>by rw[h.inv0];exact h'
 |_::_,_,_,_,h,h'=>by obtain⟨v,r,rfl,a,b⟩:=h.inv;exact .cons a (Reps.append b h')
theorem Reps.one{t:T}{v:V}(r:Rep K B t v):Reps K B [t] [v]:=.cons r .nil
theorem Reps.take{ts:List T}{vs:List V}(n:Nat)(h:Reps K B ts vs):Reps K B (ts.take n) (vs.take n):=by
 refine .of_get (by simp[h.length]) λi t v a b=> ?_;rw[List.getElem?_take] at a b;split at a
 ·rename_i hi;rw[if_pos hi] at b;obtain⟨u,e1,e2⟩:=h.get a;rw[b] at e1;cases e1;exact e2
 ·cases a
theorem Reps.drop{ts:List T}{vs:List V}(n:Nat)(h:Reps K B ts vs):Reps K B (ts.drop n) (vs.drop n):=by refine .of_get (by simp[h.length]) λi t v a b=> ?_;rw[List.getElem?_drop] at a b;obtain⟨u,e1,e2⟩:=h.get a;rw[b] at e1;cases e1;exact e2
theorem Reps.set{ts:List T}{vs:List V}{t:T}{v:V}(n:Nat)(h:Reps K B ts vs)(r:Rep K B t v):Reps K B (ts.set n t) (vs.set n v):=by
 refine .of_get (by simp[h.length]) λi t' v' a b=> ?_;have hl:=h.length;rw[List.getElem?_set] at a b;by_cases hi:n=i
 ·subst hi;rw[if_pos rfl] at a b;split at a
  ·split at b
   ·cases a;cases b;exact r
   ·cases b
  ·cases a
 ·rw[if_neg hi] at a b;obtain⟨u,e1,e2⟩:=h.get a;rw[b] at e1;cases e1;exact e2
theorem Reps.getD{ts:List T}{vs:List V}(h:Reps K B ts vs)(j:Nat)(hj:j<ts.length):Rep K B (ts.getD j .non) (vs.getD j .non):=by obtain⟨u,e1,e2⟩:=h.get (Vz hj);rw[List.getD_eq_getElem?_getD,List.getD_eq_getElem?_getD,e1,List.getElem?_eq_getElem hj];exact e2
theorem qbd.length{κ:Type}: ∀{ts:List (κ×T)} {vs:List (κ×V)},qbd K B ts vs->vs.length=ts.length
 |[],_,h=>by rw[show _=_ from h];rfl
 |(_,_)::_,_,⟨v,r,e,_,h⟩=>by rw[e];simp[qbd.length h]
theorem qbI{b:Bool}{v:V}(r:Rep K B (.bl b) v):v= .bl b:=by unfold Rep at r;exact r
theorem qaf{b:Int}{v:V}(r:Rep K B (.int b) v):v= .int b:=by unfold Rep at r;exact r
theorem qaz{b:Str}{v:V}(r:Rep K B (.str b) v):v= .str b:=by unfold Rep at r;exact r
theorem qcT{v:V}(r:Rep K B .non v):v= .non:=by unfold Rep at r;exact r
theorem qaw{ts:List T}{v:V}(r:Rep K B (.tup ts) v): ∃p vs,v= .ref p/\B p=some (.tup vs)/\Reps K B ts vs:=by unfold Rep at r;exact r
theorem qaB{ts:List T}{v:V}(r:Rep K B (.lst ts) v): ∃p vs,v= .ref p/\B p=some (.lst vs)/\Reps K B ts vs:=by unfold Rep at r;exact r
theorem qga{ts:List (Key×T)}{v:V}(r:Rep K B (.dct ts) v): ∃p vs,v= .ref p/\B p=some (.dK vs)/\qbd K B ts vs:=by unfold Rep at r;obtain⟨p,vs,a,b,c⟩:=r;exact⟨p,vs,a,b,qg3.mpr c⟩
theorem qaA{k:Nat}{v:V}(r:Rep K B (.obj k) v): ∃a,v= .ref a/\B.ad k=some a:=by unfold Rep at r;exact r
theorem qoA{c:Str}{v:V}(r:Rep K B (.exc c) v): ∃a,v= .ref a/\B a=some (ExO a (clA K c)):=by unfold Rep at r;exact r
theorem qa4{b:Bool}:Rep K B (.bl b) (.bl b):=by unfold Rep;rfl
theorem qaL{b:Int}:Rep K B (.int b) (.int b):=by unfold Rep;rfl
theorem qcs{b:Str}:Rep K B (.str b) (.str b):=by unfold Rep;rfl
theorem qct:Rep K B .non .non:=by unfold Rep;rfl
theorem qcr{ts:List T}{p:Addr}{vs:List V}(h:B p=some (.tup vs))(r:Reps K B ts vs):Rep K B (.tup ts) (.ref p):=by unfold Rep;exact⟨p,vs,rfl,h,r⟩
theorem qc1{ts:List T}{p:Addr}{vs:List V}(h:B p=some (.lst vs))(r:Reps K B ts vs):Rep K B (.lst ts) (.ref p):=by unfold Rep;exact⟨p,vs,rfl,h,r⟩
theorem qhg{ts:List (Key×T)}{p:Addr}{vs:List (Key×V)}(h:B p=some (.dK vs))(r:qbd K B ts vs):Rep K B (.dct ts) (.ref p):=by unfold Rep;exact⟨p,vs,rfl,h,qg3.mp r⟩
theorem qdE{k:Nat}{a:Addr}(h:B.ad k=some a):Rep K B (.obj k) (.ref a):=by unfold Rep;exact⟨a,rfl,h⟩
end
section
variable {K:PySem.W.Frag}{B:qal}{n:Nat}
noncomputable def qal.cut(B:qal)(n:Nat):qal:=⟨B.hp,λj=>if j<n then B.ad j else none⟩
mutual
theorem Rep.cut: ∀{t:T} {v:V},Rep K B t v->ub t<=n->Rep K (B.cut n) t v
 |.non,_,r,_=>r
 |.bl _,_,r,_=>r
 |.int _,_,r,_=>r
 |.str _,_,r,_=>r
 |.fn _,_,r,_=>by unfold Rep at r⊢;exact r
 |.tup _,_,r,h=>by unfold Rep at r⊢;unfold ub at h;obtain⟨p,vs,e,q,rs⟩:=r;exact⟨p,vs,e,q,Reps.cut rs h⟩
 |.lst _,_,r,h=>by unfold Rep at r⊢;unfold ub at h;obtain⟨p,vs,e,q,rs⟩:=r;exact⟨p,vs,e,q,Reps.cut rs h⟩
 |.dct _,_,r,h=>by unfold Rep at r⊢;unfold ub at h;obtain⟨p,vs,e,q,rs⟩:=r;exact⟨p,vs,e,q,RepD.cut rs h⟩
 |.obj _,_,r,h=>by unfold Rep at r⊢;unfold ub at h;obtain⟨a,e,q⟩:=r;exact⟨a,e,by show(if _ then _ else _)=_;rw[if_pos (show _<n from h)];exact q⟩
 |.exc _,_,r,_=>by unfold Rep at r⊢;exact r
 |.scr _,_,r,_=>by unfold Rep at r⊢;exact r
theorem Reps.cut: ∀{ts:List T} {vs:List V},Reps K B ts vs->ubs ts<=n->Reps K (B.cut n) ts vs
 |[],_,r,_=>r
 |_::_,_,r,h=>by unfold Reps at r⊢;unfold ubs at h;obtain⟨v,r',e,a,b⟩:=r;exact⟨v,r',e,Rep.cut a (Vq (Nat.le_max_left _ _) h),Reps.cut b (Vq (Nat.le_max_right _ _) h)⟩
theorem RepD.cut: ∀{ts:List (Key×T)} {vs:List (Key×V)},RepD K B ts vs->ubd ts<=n->RepD K (B.cut n) ts vs
 |[],_,r,_=>r
 |(_,_)::_,_,r,h=>by unfold RepD at r⊢;unfold ubd at h;obtain⟨v,r',e,a,b⟩:=r;exact⟨v,r',e,Rep.cut a (Vq (Nat.le_max_left _ _) h),RepD.cut b (Vq (Nat.le_max_right _ _) h)⟩
end
theorem qbd.cut{κ:Type}: ∀{ts:List (κ×T)} {vs:List (κ×V)},qbd K B ts vs->ubf ts<=n->qbd K (B.cut n) ts vs
 |[],_,r,_=>r
 |(_,_)::_,_,⟨v,r',e,a,b⟩,h=>by unfold ubf at h;exact⟨v,r',e,Rep.cut a (Vq (Nat.le_max_left _ _) h),qbd.cut b (Vq (Nat.le_max_right _ _) h)⟩
mutual
theorem Rep.ub(hd: ∀k a,B.ad k=some a->k<n): ∀{t:T} {v:V},Rep K B t v->ub t<=n
 |.non,_,_=>Nat.zero_le _
 |.bl _,_,_=>Nat.zero_le _
 |.int _,_,_=>Nat.zero_le _
 |.str _,_,_=>Nat.zero_le _
 |.fn _,_,_=>Nat.zero_le _
 |.tup _,_,r=>by unfold Rep at r;unfold NV.ub;obtain⟨p,vs,e,q,rs⟩:=r;exact Reps.ub hd rs
 |.lst _,_,r=>by unfold Rep at r;unfold NV.ub;obtain⟨p,vs,e,q,rs⟩:=r;exact Reps.ub hd rs
 |.dct _,_,r=>by unfold Rep at r;unfold NV.ub;obtain⟨p,vs,e,q,rs⟩:=r;exact RepD.ub hd rs
 |.obj _,_,r=>by unfold Rep at r;unfold NV.ub;obtain⟨a,e,q⟩:=r;exact hd _ _ q
 |.exc _,_,_=>Nat.zero_le _
 |.scr _,_,_=>Nat.zero_le _
theorem Reps.ub(hd: ∀k a,B.ad k=some a->k<n): ∀{ts:List T} {vs:List V},Reps K B ts vs->ubs ts<=n
 |[],_,_=>Nat.zero_le _
 |_::_,_,r=>by unfold Reps at r;unfold ubs;obtain⟨v,r',e,a,b⟩:=r;exact Nat.max_le.mpr ⟨Rep.ub hd a,Reps.ub hd b⟩
theorem RepD.ub(hd: ∀k a,B.ad k=some a->k<n): ∀{ts:List (Key×T)} {vs:List (Key×V)},RepD K B ts vs->ubd ts<=n
 |[],_,_=>Nat.zero_le _
 |(_,_)::_,_,r=>by unfold RepD at r;unfold ubd;obtain⟨v,r',e,a,b⟩:=r;exact Nat.max_le.mpr ⟨Rep.ub hd a,RepD.ub hd b⟩
end
theorem qbd.ub{κ:Type}(hd: ∀k a,B.ad k=some a->k<n): ∀{ts:List (κ×T)} {vs:List (κ×V)},qbd K B ts vs->ubf ts<=n
 |[],_,_=>Nat.zero_le _
 |(_,_)::_,_,⟨v,r',e,a,b⟩=>by unfold ubf;exact Nat.max_le.mpr ⟨Rep.ub hd a,qbd.ub hd b⟩
end
structure Gam where
 P:Hp->Prop
 st: ∀H H':Hp,(∀a o,H a=some o->(∀xs,o≠.lst xs)->(∀xs,o≠.dK xs)->(∀xs,o≠.dT xs)->(∀C dx fs,o≠.ins C dx fs)->H' a=some o)->P H->P H'
structure Md where
 K:W.Frag
 G:Gam
noncomputable def qeP(K:W.Frag)(B:qal):Ct->HO->Prop
 |.ls ts,o=> ∃vs,o= .lst vs/\Reps K B ts vs
 |.dk kvs,o=> ∃us,o= .dK us/\qbd K B kvs us
 |.du kvs,o=> ∃us,o= .dT us/\qbd K B kvs us
 |.ins c fs,o=> ∃dx vs,o= .ins (clA K c) dx vs/\qbd K B fs vs
 |.gone,_=>True
theorem qeP.mono{K:W.Frag}{B B':qal}{c:Ct}{o:HO}(h:qeP K B c o)(le:Le B B'):qeP K B' c o:=by
 cases c with
 |ls ts|dk ts|du ts=>obtain⟨vs,e,r⟩:=h;exact⟨vs,e,r.mono le⟩
 |ins c ts=>obtain⟨dx,vs,e,r⟩:=h;exact⟨dx,vs,e,r.mono le⟩
 |gone=>trivial
noncomputable def Mb(o:HO):Prop:=(∃xs,o= .lst xs)\/(∃xs,o= .dK xs)\/(∃xs,o= .dT xs)\/∃C dx fs,o= .ins C dx fs
theorem qeP.mb{K:W.Frag}{B:qal}{c:Ct}{o:HO}(h:qeP K B c o)(n:c≠.gone):Mb o:=by
 cases c with
 |ls ts=>obtain⟨vs,e,r⟩:=h;exact .inl ⟨_,e⟩
 |dk ts=>obtain⟨vs,e,r⟩:=h;exact .inr (.inl ⟨_,e⟩)
 |du ts=>obtain⟨vs,e,r⟩:=h;exact .inr (.inr (.inl ⟨_,e⟩))
 |ins c ts=>obtain⟨dx,vs,e,r⟩:=h;exact .inr (.inr (.inr ⟨_,_,_,e⟩))
 |gone=>exact absurd rfl n
structure Hs(M:Md)(μ:Mu)(H:Hp)(B:qal):Prop where
 bh: ∀a o,B a=some o->H a=some o
 bt: ∀a ps,B a≠some (.tbl ps)
 gm:M.G.P H
 st: ∀k c,μ.l[k]? =some c->c≠.gone->∃a o,B.ad k=some a/\B a=none/\H a=some o/\qeP M.K B c o
 ij: ∀j k a,B.ad j=some a->B.ad k=some a->j=k
 dm: ∀k a,B.ad k=some a->k<μ.l.length/\H a≠none
 lk: ∀k c,μ.l[k]? =some c->ubC c<=k\/∃p∈μ.k,p.1=k/\ubC c<=p.2
 ln: ∀p∈μ.k,p.2<=μ.l.length
noncomputable def qal.upd(B:qal)(p:Addr)(o:HO):qal:=⟨L2.upd B.hp p o,B.ad⟩
noncomputable def qal.add(B:qal)(k:Nat)(p:Addr):qal:=⟨B.hp,λj=>if j=k then some p else B.ad j⟩
section
variable {M:Md}{μ:Mu}{H H':Hp}{B B':qal}{p a:Addr}{o:HO}{c c':Ct}{k n:Nat}
theorem Hs.fr(h:Hs M μ H B)(hp:H p=none):B p=none:=by
 cases e:B p with
 |none=>rfl
 |some u=>rw[h.bh _ _ e] at hp;cases hp
theorem Hs.upd_le(h:Hs M μ H B)(hp:B p=none):Le B (B.upd p o):=⟨λa u e=>by show L2.upd B.hp p o a=_;rw[qad (qan e hp)];exact e,λ_ _ e=>e⟩
theorem qnD(h:M.G.P H)(hp:H p=none):M.G.P (L2.upd H p o):=M.G.st H _ (λa u e _ _ _ _=>by rw[qad (qan e hp)];exact e) h
theorem Hs.more(h:Hs M μ H B)(k: ∀a o,H a=some o->H' a=some o):Hs M μ H' B:=
 ⟨λa o e=>k a o (h.bh a o e),h.bt,M.G.st H H' (λa o e _ _ _ _=>k a o e) h.gm,λj c e n=>by
  obtain⟨a,o,e1,e2,e3,e4⟩:=h.st j c e n;exact⟨a,o,e1,e2,k a o e3,e4⟩,h.ij,λj a e=>⟨(h.dm j a e).1,λz=>by
  cases q:H a with
  |none=>exact(h.dm j a e).2 q
  |some u=>rw[k a u q] at z;cases z⟩,h.lk,h.ln⟩
theorem Hs.new(h:Hs M μ H B)(hp:H p=none)(ho: ∀ps,o≠.tbl ps):Hs M μ (L2.upd H p o) (B.upd p o):=by
 have bp:=h.fr hp;have le:=h.upd_le (o:=o) bp;refine⟨λa u e=> ?_,λa ps e=> ?_,qnD h.gm hp,λj c e n=> ?_,h.ij,λj a e=>⟨(h.dm j a e).1,?_⟩,h.lk,h.ln⟩
 ·have e:L2.upd B.hp p o a=some u:=e;by_cases q:a=p
  ·subst q;rw[qai] at e⊢;exact e
  ·rw[qad q] at e⊢;exact h.bh _ _ e
 ·have e:L2.upd B.hp p o a=some (.tbl ps):=e;by_cases q:a=p
  ·subst q;rw[qai] at e;exact ho ps (Option.some.inj e)
  ·rw[qad q] at e;exact h.bt a ps e
 ·obtain⟨a,u,e1,e2,e3,e4⟩:=h.st j c e n;have ne:a≠p:=qan e3 hp;exact⟨a,u,e1,by show L2.upd B.hp p o a=_;rw[qad ne];exact e2,by rw[qad ne];exact e3,e4.mono le⟩
 ·have:=(h.dm j a e).2;rw[qad (λz=>this (by rw[z];exact hp))];exact this
theorem qeP.ub{K:W.Frag}{c:Ct}(h:qeP K B c o)(hd: ∀k a,B.ad k=some a->k<n):ubC c<=n:=by
 cases c with
 |ls ts|dk ts|du ts=>obtain⟨vs,e,r⟩:=h;exact r.ub hd
 |ins c ts=>obtain⟨dx,vs,e,r⟩:=h;exact r.ub hd
 |gone=>exact Nat.zero_le _
theorem qeP.cut{K:W.Frag}{c:Ct}(h:qeP K B c o)(hu:ubC c<=n):qeP K (B.cut n) c o:=by
 cases c with
 |ls ts|dk ts|du ts=>obtain⟨vs,e,r⟩:=h;exact⟨vs,e,r.cut hu⟩
 |ins c ts=>obtain⟨dx,vs,e,r⟩:=h;exact⟨dx,vs,e,r.cut hu⟩
 |gone=>trivial
theorem Hs.own(h:Hs M μ H B)(hp:H p=none)(hc:qeP M.K (B.add μ.l.length p) c o):Hs M (μ.add c) (L2.upd H p o) (B.add μ.l.length p)/\Le B (B.add μ.l.length p):=by
 have le:Le B (B.add μ.l.length p):=⟨λ_ _ e=>e,λj a e=>by
  show(if j=μ.l.length then some p else B.ad j)=_;rw[if_neg (Nat.ne_of_lt (h.dm j a e).1)];exact e⟩
 have iB: ∀j,B.ad j≠some p:=λj e=>(h.dm j p e).2 hp;have ad: ∀{j a},(B.add μ.l.length p).ad j=some a->(j=μ.l.length/\a=p)\/(B.ad j=some a/\j<μ.l.length):=λ{j a} e=>by
  have e:(if j=μ.l.length then some p else B.ad j)=some a:=e;split at e
  ·rename_i q;cases e;exact .inl ⟨q,rfl⟩
  ·exact .inr ⟨e,(h.dm j a e).1⟩
 have hd: ∀j a,(B.add μ.l.length p).ad j=some a->j<μ.l.length+1:=λj a e=>by rcases ad e with⟨z,_⟩|⟨_,z⟩<;>omega
 have uc:=hc.ub hd;have ga: ∀{j:Nat} {d:Ct},(μ.l++[c])[j]? =some d->(j<μ.l.length/\μ.l[j]? =some d)\/(j=μ.l.length/\d=c):=λ{j d} e=>by
  by_cases q:j<μ.l.length
  ·rw[List.getElem?_append_left q] at e;exact .inl ⟨q,e⟩
  ·rw[List.getElem?_append_right (by omega)] at e;have:=(List.getElem?_eq_some_iff.mp e).1;have q':j=μ.l.length:=by simp at this;omega
   subst q';simp at e;exact .inr ⟨rfl,e.symm⟩
 refine⟨⟨λa u e=> ?_,h.bt,qnD h.gm hp,λj d e n=> ?_,λi j a e1 e2=> ?_,λj a e=> ?_,λj d e=> ?_,λq hq=> ?_⟩,le⟩
 ·rw[qad (qan (h.bh a u e) hp)];exact h.bh a u e
 ·rcases ga e with⟨q,e⟩|⟨rfl,rfl⟩
  ·obtain⟨a,u,e1,e2,e3,e4⟩:=h.st j d e n;exact⟨a,u,le.d _ _ e1,e2,by rw[qad (qan e3 hp)];exact e3,e4.mono le⟩
  ·exact⟨p,o,by show(if μ.l.length=μ.l.length then some p else _)=_;rw[if_pos rfl],h.fr hp,qai,hc⟩
 ·rcases ad e1 with⟨rfl,rfl⟩|⟨e1,l1⟩
  ·rcases ad e2 with⟨rfl,_⟩|⟨e2,l2⟩
   ·rfl
   ·exact absurd e2 (iB j)
  ·rcases ad e2 with⟨_,z⟩|⟨e2,l2⟩
   ·rw[z] at e1;exact absurd e1 (iB i)
   ·exact h.ij i j a e1 e2
 ·show j<(μ.l++[c]).length/\_;rw[List.length_append,List.length_singleton]
  rcases ad e with⟨z1,z⟩|⟨e,l⟩
  ·rw[z];exact⟨by omega,by rw[qai];simp⟩
  ·have:=(h.dm j a e).2;exact⟨by omega,by rw[qad (λz=>this (by rw[z];exact hp))];exact this⟩
 ·show ubC d<=j\/∃q∈(if ubC c<=μ.l.length then μ.k else(μ.l.length,ubC c)::μ.k),_
  rcases ga e with⟨q,e⟩|⟨rfl,rfl⟩
  ·rcases h.lk j d e with z|⟨q,hq,z⟩
   ·exact .inl z
   ·exact .inr ⟨q,by split<;>simp[hq],z⟩
  ·split
   ·rename_i z;exact .inl z
   ·exact .inr ⟨_,Vk,rfl,Vm _⟩
 ·have hq:q∈(if ubC c<=μ.l.length then μ.k else(μ.l.length,ubC c)::μ.k):=hq;show q.2<=(μ.l++[c]).length;rw[List.length_append,List.length_singleton];split at hq
  ·exact Nat.le_succ_of_le (h.ln q hq)
  ·rcases List.mem_cons.mp hq with rfl|hq
   ·exact uc
   ·exact Nat.le_succ_of_le (h.ln q hq)
theorem Hs.at(h:Hs M μ H B)(e:μ.l[k]? =some c)(n:c≠.gone)(ha:B.ad k=some a): ∃o,B a=none/\H a=some o/\qeP M.K B c o:=by obtain⟨a',o,e1,e2,e3,e4⟩:=h.st k c e n;rw[ha] at e1;cases e1;exact⟨o,e2,e3,e4⟩
theorem Hs.put(h:Hs M μ H B)(e:μ.l[k]? =some c)(n:c≠.gone)(ha:B.ad k=some a)(hc:qeP M.K B c' o):Hs M (μ.put k c') (L2.upd H a o) B:=by
 obtain⟨u,b0,hu,cu⟩:=h.at e n ha;have mb:=cu.mb n;have hk:k<μ.l.length:=(List.getElem?_eq_some_iff.mp e).1;have uc:=hc.ub λj a e=>(h.dm j a e).1;have ga: ∀{j:Nat} {d:Ct},(μ.l.set k c')[j]? =some d->(k≠j/\μ.l[j]? =some d)\/(k=j/\d=c'):=λ{j d} e=>by
  rw[List.getElem?_set] at e;split at e
  ·rename_i q
   (try rw[if_pos hk] at e);cases e;exact .inr ⟨q,rfl⟩
  ·rename_i q;exact .inl ⟨q,e⟩
 refine⟨λb v z=> ?_,h.bt,M.G.st H _ (λb v z n1 n2 n3 n4=> ?_) h.gm,λj d ej nj=> ?_,h.ij,λj b z=> ?_,λj d ej=> ?_,λq hq=> ?_⟩
 ·rw[qad (λq=>by rw[q,b0] at z;cases z)];exact h.bh b v z
 ·refine(qad λq=> ?_).trans z;rw[q,hu] at z;cases z
  rcases mb with⟨_,rfl⟩|⟨_,rfl⟩|⟨_,rfl⟩|⟨_,_,_,rfl⟩
  ·exact n1 _ rfl
  ·exact n2 _ rfl
  ·exact n3 _ rfl
  ·exact n4 _ _ _ rfl
 ·rcases ga ej with⟨q,ej⟩|⟨rfl,rfl⟩
  ·obtain⟨b,v,e1,e2,e3,e4⟩:=h.st j d ej nj;exact⟨b,v,e1,e2,by rw[qad (λz=>q (h.ij k j a ha (by rw[<-z];exact e1)))];exact e3,e4⟩
  ·exact⟨a,o,ha,b0,qai,hc⟩
 ·show j<(μ.l.set k c').length/\_;rw[List.length_set];refine⟨(h.dm j b z).1,?_⟩;by_cases q:b=a
  ·rw[q,qai];simp
  ·rw[qad q];exact(h.dm j b z).2
 ·show ubC d<=j\/∃q∈(if ubC c'<=k then μ.k else(k,ubC c')::μ.k),_
  rcases ga ej with⟨_,ej⟩|⟨rfl,rfl⟩
  ·rcases h.lk j d ej with z|⟨q,hq,z⟩
   ·exact .inl z
   ·exact .inr ⟨q,by split<;>simp[hq],z⟩
  ·split
   ·rename_i z;exact .inl z
   ·exact .inr ⟨_,Vk,rfl,Vm _⟩
 ·have hq:q∈(if ubC c'<=k then μ.k else(k,ubC c')::μ.k):=hq;show q.2<=(μ.l.set k c').length;rw[List.length_set];split at hq
  ·exact h.ln q hq
  ·rcases List.mem_cons.mp hq with rfl|hq
   ·exact uc
   ·exact h.ln q hq
theorem Hs.cut(h:Hs M μ H B)(ks:List (Nat×Nat))(hn: ∀q∈μ.k,n<=q.1\/(q∈ks/\q.2<=n))(hk: ∀q∈ks,q.2<=n)(hl:n<=μ.l.length):Hs M ⟨μ.l.take n,ks⟩ H (B.cut n):=by
 have ad: ∀{j a},(B.cut n).ad j=some a->j<n/\B.ad j=some a:=λ{j a} e=>by
  have e:(if j<n then B.ad j else none)=some a:=e;split at e
  ·rename_i q;exact⟨q,e⟩
  ·cases e
 have ga: ∀{j:Nat} {d:Ct},(μ.l.take n)[j]? =some d->j<n/\μ.l[j]? =some d:=λ{j d} e=>by
  rw[List.getElem?_take] at e;split at e
  ·rename_i q;exact⟨q,e⟩
  ·cases e
 have uu: ∀{j:Nat} {d:Ct},j<n->μ.l[j]? =some d->ubC d<=n:=λ{j d} hj e=>by
  rcases h.lk j d e with z|⟨q,hq,z1,z2⟩
  ·omega
  ·rcases hn q hq with y|⟨_,y⟩
   ·omega
   ·omega
 refine⟨h.bh,h.bt,h.gm,λj d e nj=> ?_,λi j a e1 e2=>h.ij i j a (ad e1).2 (ad e2).2,λj a e=> ?_,λj d e=> ?_,λq hq=> ?_⟩
 ·obtain⟨hj,e⟩:=ga e;obtain⟨a,u,e1,e2,e3,e4⟩:=h.st j d e nj;exact⟨a,u,by show(if j<n then B.ad j else none)=_;rw[if_pos hj];exact e1,e2,e3,e4.cut (uu hj e)⟩
 ·obtain⟨hj,e⟩:=ad e;exact⟨by show j<(μ.l.take n).length;rw[List.length_take];omega,(h.dm j a e).2⟩
 ·obtain⟨hj,e⟩:=ga e
  rcases h.lk j d e with z|⟨q,hq,z1,z2⟩
  ·exact .inl z
  ·rcases hn q hq with y|⟨y,_⟩
   ·omega
   ·exact .inr ⟨q,y,z1,z2⟩
 ·show q.2<=(μ.l.take n).length;rw[List.length_take];have:=hk q hq;omega
end
structure Go(H:Hp)(B:qal)(H':Hp)(B':qal):Prop where
 le:Le B B'
 un: ∀a o,H a=some o->(∀k,B.ad k≠some a)->(∀ps,o≠.tbl ps)->H' a=some o
 nw: ∀k a,B'.ad k=some a->B.ad k=some a\/H a=none
 dm: ∀a,H a≠none->H' a≠none
 nb: ∀a o,H a=some o->(∀k,B.ad k≠some a)->(∀vs,o≠.tup vs)->(∀ps,o≠.tbl ps)->B' a=B a
theorem Go.refl{H:Hp}{B:qal}:Go H B H B:=⟨.refl _,λ_ _ e _ _=>e,λ_ _ e=>.inl e,λ_ e=>e,λ_ _ _ _ _ _=>rfl⟩
theorem Go.off{H H1:Hp}{B B1:qal}(g:Go H B H1 B1){a:Addr}(e:H a≠none)(n: ∀k,B.ad k≠some a): ∀k,B1.ad k≠some a:=λk z=>by
 rcases g.nw k a z with q|q
 ·exact n k q
 ·exact e q
theorem Go.trans{H H1 H2:Hp}{B B1 B2:qal}(g:Go H B H1 B1)(g':Go H1 B1 H2 B2):Go H B H2 B2:=
 ⟨g.le.trans g'.le,λa o e n t=>g'.un a o (g.un a o e n t) (g.off (by rw[e];simp) n) t,λk a z=>by
  rcases g'.nw k a z with q|q
  ·exact g.nw k a q
  ·exact .inr (by
   cases y:H a with
   |none=>rfl
   |some o=>exact absurd q (g.dm a (by rw[y];simp))),λa e=>g'.dm a (g.dm a e),
  λa o e n t1 t2=>(g'.nb a o (g.un a o e n t2) (g.off (by rw[e];simp) n) t1 t2).trans (g.nb a o e n t1 t2)⟩
section
variable {M:Md}{μ:Mu}{H H':Hp}{B B':qal}{p a:Addr}{o:HO}{c c':Ct}{k n:Nat}
theorem Go.more(k: ∀a o,H a=some o->H' a=some o):Go H B H' B:=by
 refine⟨.refl _,λa o e _ _=>k a o e,λ_ _ e=>.inl e,λa e z=> ?_,λ_ _ _ _ _ _=>rfl⟩;cases y:H a with
 |none=>exact e y
 |some o=>rw[k a o y] at z;cases z
theorem Hs.gnew(h:Hs M μ H B)(hp:H p=none):Go H B (L2.upd H p o) (B.upd p o):=
 ⟨h.upd_le (h.fr hp),λa u e _ _=>by rw[qad (qan e hp)];exact e,λ_ _ e=>.inl e,λa e z=>by
  by_cases q:a=p
  ·subst q;exact e hp
  ·rw[qad q] at z;exact e z,λa u e _ _ _=>by show L2.upd B.hp p o a=_;rw[qad (qan e hp)]⟩
theorem Hs.gown(h:Hs M μ H B)(hp:H p=none):Go H B (L2.upd H p o) (B.add μ.l.length p):=
 ⟨(h.own (c:=.gone) (o:=o) hp trivial).2,λa u e _ _=>by rw[qad (qan e hp)];exact e,λj a e=>by
  have e:(if j=μ.l.length then some p else B.ad j)=some a:=e;split at e
  ·cases e;exact .inr hp
  ·exact .inl e,λa e z=>by
  by_cases q:a=p
  ·subst q;exact e hp
  ·rw[qad q] at z;exact e z,λ_ _ _ _ _ _=>rfl⟩
theorem qvb(ha:B.ad k=some a):Go H B (L2.upd H a o) B:=
 ⟨.refl _,λb u e n _=>by rw[qad (λz=>n k (by rw[z];exact ha))];exact e,λ_ _ e=>.inl e,λb e z=>by
  by_cases q:b=a
  ·rw[q,qai] at z;cases z
  ·rw[qad q] at z;exact e z,λ_ _ _ _ _ _=>rfl⟩
noncomputable def hid(D:Addr)(H:Hp):Hp:=λa=>if a=D then none else H a
theorem qcu{D:Addr}(h:a≠D):hid D H a=H a:=if_neg h
theorem qfs{D:Addr}:hid D H D=none:=if_pos rfl
theorem qjY{D:Addr}(h:hid D H a=some o):H a=some o/\a≠D:=by
 unfold hid at h;split at h
 ·cases h
 ·rename_i q;exact⟨h,q⟩
theorem Go.hid{D:Addr}(g:Go H B H' B'):Go (hid D H) B (NV.hid D H') B':=
 ⟨g.le,λa o e n t=>by obtain⟨e,q⟩:=qjY e;rw[qcu q];exact g.un a o e n t,λk a z=>(g.nw k a z).imp id λz=>by unfold NV.hid;split<;>first|rfl|exact z,
  λa e=>by
   by_cases q:a=D
   ·rw[q,qfs] at e;exact absurd rfl e
   ·rw[qcu q] at e⊢;exact g.dm a e,λa o e n t1 t2=>g.nb a o (qjY e).1 n t1 t2⟩
theorem Hs.loose(h:Hs M μ H B){D:Addr}{H':Hp}(hb:B D=none)(hn: ∀k,B.ad k≠some D)(ho: ∀a,a≠D->H' a=H a)(hm: ∀u,H D=some u->Mb u):Hs M μ H' B:=
 ⟨λa o e=>by rw[ho a (λz=>by rw[z,hb] at e;cases e)];exact h.bh a o e,h.bt,M.G.st H H' (λa o e n1 n2 n3 n4=>by
  rw[ho a (λz=>by
   rw[z] at e
   rcases hm o e with⟨_,rfl⟩|⟨_,rfl⟩|⟨_,rfl⟩|⟨_,_,_,rfl⟩
   ·exact n1 _ rfl
   ·exact n2 _ rfl
   ·exact n3 _ rfl
   ·exact n4 _ _ _ rfl)];exact e) h.gm,λj c e n=>by
  obtain⟨a,o,e1,e2,e3,e4⟩:=h.st j c e n;exact⟨a,o,e1,e2,by rw[ho a (λz=>hn j (by rw[<-z];exact e1))];exact e3,e4⟩,h.ij,λj a e=>⟨(h.dm j a e).1,by rw[ho a (λz=>hn j (by rw[<-z];exact e))];exact(h.dm j a e).2⟩,h.lk,h.ln⟩
end
abbrev Ro:=List (Option T)
structure Ev(M:Md)(ρ:Ro)(μ:Mu)(σ:St)(H:Hp)(B:qal):Prop where
 hs:Hs M μ H B
 len:ρ.length=σ.length
 sl: ∀(i:Nat) (t:T),ρ[i]? =some (some t)->∃v,σ[i]? =some (some v)/\Rep M.K B t v
section
variable {M:Md}{ρ:Ro}{σ:St}{μ μ':Mu}{H H':Hp}{B B':qal}
theorem Ev.on(v:Ev M ρ μ σ H B)(h:Hs M μ' H' B')(le:Le B B'):Ev M ρ μ' σ H' B':=
 ⟨h,v.len,λi t e=>by obtain⟨x,a,b⟩:=v.sl i t e;exact⟨x,a,b.mono le⟩⟩
theorem Ev.set(v:Ev M ρ μ σ H B){i:Nat}{t:T}{x:V}(r:Rep M.K B t x):Ev M (ρ.set i (some t)) μ (σ.set i (some x)) H B:=by
 refine⟨v.hs,by simp[v.len],λj u e=> ?_⟩;rw[List.getElem?_set] at e⊢;split at e
 ·rename_i q;split at e
  ·rename_i l;cases e;rw[if_pos q,if_pos (v.len▸l)];exact⟨x,rfl,r⟩
  ·cases e
 ·rename_i q;rw[if_neg q];exact v.sl j u e
end
noncomputable def Wn(M:Md)(E:XK)(H:Hp)(B:qal){α:Type}(k:α->Mu->Prop):R α->Prop
 |.no=>False
 |.ok a μ=>k a μ
 |.ex c μ=> ∀H' B',Hs M μ H' B'->Go H B H' B'->E (.ref (clA M.K c)) none H'
section
variable {M:Md}{E E':XK}{H H1:Hp}{B B1:qal}{α β:Type}{k k':α->Mu->Prop}{r:R α}
theorem Wn.bind{k:β->Mu->Prop}{f:α->Mu->R β}(h:Wn M E H B k (r.bind f)):Wn M E H B (λa μ=>Wn M E H B k (f a μ)) r:=by cases r<;>exact h
theorem Wn.mono(h:Wn M E H B k r)(f: ∀a μ,k a μ->k' a μ):Wn M E H B k' r:=by
 cases r with
 |no=>exact h
 |ok a m=>exact f _ _ h
 |ex c m=>exact h
theorem Wn.le(h:Wn M E H B k r)(g:Go H B H1 B1):Wn M E H1 B1 k r:=by
 cases r with
 |no|ok a m=>exact h
 |ex c m=>exactλH' B' hs l=>h H' B' hs (g.trans l)
theorem Wn.pl(h:Wn M E H B k r)(p: ∀c m,r≠.ex c m): ∃a m,r= .ok a m/\k a m:=by
 cases r with
 |no=>exact h.elim
 |ok a m=>exact⟨a,m,rfl,h⟩
 |ex c m=>exact absurd rfl (p c m)
theorem Wn.lift(h:Wn M E H B k r)(g:Go H B H1 B1)(f: ∀a μ,k a μ->k' a μ):Wn M E H1 B1 k' r:=(h.le g).mono f
end
noncomputable def KE(M:Md)(H:Hp)(B:qal)(Q:VK):T->Mu->Prop:=λt μ=> ∀v H' B',Hs M μ H' B'->Go H B H' B'->Rep M.K B' t v->Q v H'
noncomputable def KA(M:Md)(H:Hp)(B:qal)(Q:List V->Hp->Prop):List T->Mu->Prop:=λt μ=> ∀v H' B',Hs M μ H' B'->Go H B H' B'->Reps M.K B' t v->Q v H'
noncomputable def KT(M:Md)(H:Hp)(B:qal)(Q:Bool->Hp->Prop):Bool->Mu->Prop:=λt μ=> ∀H' B',Hs M μ H' B'->Go H B H' B'->Q t H'
noncomputable def KN(M:Md)(H:Hp)(B:qal)(Q:VK):Ct->Mu->Prop:=λc μ=> ∀p o H' B',Hs M μ H' B'->Go H B H' B'->H' p=none->qeP M.K B' c o->Q (.ref p) (upd H' p o)
abbrev DS0(α:Type):=Ro->Mu->R α
noncomputable def tE(M:Md)(E:XK)(d:DS0 T):TE:=λσ H Q=> ∃ρ μ B,Ev M ρ μ σ H B/\Wn M E H B (KE M H B Q) (d ρ μ)
noncomputable def tA(M:Md)(E:XK)(d:DS0 (List T)):TA:=λσ H Q=> ∃ρ μ B,Ev M ρ μ σ H B/\Wn M E H B (KA M H B Q) (d ρ μ)
noncomputable def tT(M:Md)(E:XK)(d:DS0 Bool):TT:=λσ H Q=> ∃ρ μ B,Ev M ρ μ σ H B/\Wn M E H B (KT M H B Q) (d ρ μ)
noncomputable def tN(M:Md)(E:XK)(d:DS0 Ct):TE:=λσ H Q=> ∃ρ μ B,Ev M ρ μ σ H B/\Wn M E H B (KN M H B Q) (d ρ μ)
theorem PE.weak{X:Cx}{e:Expr}{t t':TE}(h:PE X e t)(w: ∀σ H Q,t' σ H Q->t σ H Q):PE X e t':=λpins s σ H Q I q=>h pins s σ H Q I (w σ H Q q)
theorem PT.weak{X:Cx}{e:Expr}{t t':TT}(h:PT X e t)(w: ∀σ H Q,t' σ H Q->t σ H Q):PT X e t':=λpins s σ H Q I q=>h pins s σ H Q I (w σ H Q q)
theorem PW.weak{X:Cx}{e:Expr}{t t':TT}(h:PW X e t)(w: ∀σ H Q,t' σ H Q->t σ H Q):PW X e t':=λwh pins s σ H Q I q=>h wh pins s σ H Q I (w σ H Q q)
theorem PA.weak{X:Cx}{e:List Expr}{t t':TA}(h:PA X e t)(w: ∀σ H Q,t' σ H Q->t σ H Q):PA X e t':=λpos pins s σ H Q I q=>h pos pins s σ H Q I (w σ H Q q)
theorem PS.weak{X:Cx}{e:Stmt}{t t':TS}(h:PS X e t)(w: ∀D σ H,t' D σ H->t D σ H):PS X e t':=λpins s σ H D I q=>h pins s σ H D I (w D σ H q)
theorem PSs.weak{X:Cx}{e:List Stmt}{t t':TS}(h:PSs X e t)(w: ∀D σ H,t' D σ H->t D σ H):PSs X e t':=λpins s σ H D I q=>h pins s σ H D I (w D σ H q)
theorem PG.weak{X:Cx}{e:Expr}{t t':TG}(h:PG X e t)(w: ∀v σ H Q,t' v σ H Q->t v σ H Q):PG X e t':=λpins s σ H v u Q I r q=>h pins s σ H v u Q I r (w v σ H Q q)
theorem PGs.weak{X:Cx}{e:List Expr}{t t':TGs}(h:PGs X e t)(w: ∀v σ H Q,t' v σ H Q->t v σ H Q):PGs X e t':=λpins s σ H v u Q I r q=>h pins s σ H v u Q I r (w v σ H Q q)
theorem PI.weak{X:Cx}{tg e:Expr}{t t':TI}(h:PI X tg e t)(w: ∀σ H Q,t' σ H Q->t σ H Q):PI X tg e t':=λpins s σ H Q I q=>h pins s σ H Q I (w σ H Q q)
theorem PO.weak{X:Cx}{e:Option Expr}{t t':TO}(h:PO X e t)(w: ∀σ H Q,t' σ H Q->t σ H Q):PO X e t':=λpins s σ H Q I q=>h pins s σ H Q I (w σ H Q q)
section
variable {M:Md}{E:XK}{ρ:Ro}{σ:St}{μ:Mu}{H H1:Hp}{B B1:qal}{α:Type}
theorem tE.of{Q:VK}{d:DS0 T}(ev:Ev M ρ μ σ H B)(h:Wn M E H B (KE M H B Q) (d ρ μ)):tE M E d σ H Q:=⟨ρ,μ,B,ev,h⟩
theorem KE.le{Q:VK}{t:T}(h:KE M H B Q t μ)(g:Go H B H1 B1):KE M H1 B1 Q t μ:=λv H' B' hs l r=>h v H' B' hs (g.trans l) r
theorem KT.le{Q:Bool->Hp->Prop}{t:Bool}(h:KT M H B Q t μ)(g:Go H B H1 B1):KT M H1 B1 Q t μ:=λH' B' hs l=>h H' B' hs (g.trans l)
end
noncomputable def dNo{α:Type}:DS0 α:=λ_ _=>.no
noncomputable def dV(i:Nat):DS0 T:=λρ μ=>match ρ[i]? with|some (some t)=>.ok t μ|_=>.no
noncomputable def dC(t:T):DS0 T:=λ_ μ=>.ok t μ
noncomputable def dSq{α β:Type}(d:DS0 α)(f:α->DS0 β):DS0 β:=λρ μ=>(d ρ μ).bind λa μ'=>f a ρ μ'
noncomputable def qnS:DS0 (List T):=λ_ μ=>.ok [] μ
noncomputable def qs3(da:DS0 T)(ds:DS0 (List T)):DS0 (List T):=dSq da λx=>dSq ds λxs _ μ=>.ok (x::xs) μ
noncomputable def dB(g:T->T->Mu->R T)(da db:DS0 T):DS0 T:=dSq da λx=>dSq db λy _ μ=>g x y μ
noncomputable def dU(g:T->Mu->R T)(da:DS0 T):DS0 T:=dSq da λx _ μ=>g x μ
noncomputable def qwI(ds:DS0 (List T)):DS0 T:=dSq ds λxs _ μ=>if xs.length<=1000 then .ok (.tup xs) μ else .no
noncomputable def qwM(ds:DS0 (List T)):DS0 Ct:=dSq ds λxs _ μ=>if xs.length<=1000 then .ok (.ls xs) μ else .no
noncomputable def fzC:Ct->Mu->R T
 |.ls ts,μ=>.ok (.lst ts) μ
 |.dk kvs,μ=>.ok (.dct kvs) μ
 |_,_=>.no
noncomputable def dFz(d:DS0 Ct):DS0 T:=dSq d λc _ μ=>fzC c μ
noncomputable def dOw(d:DS0 Ct):DS0 T:=dSq d λc _ μ=>.ok (.obj μ.l.length) (μ.add c)
noncomputable def tbO:T->Mu->R Bool
 |.bl b,μ=>.ok b μ
 |_,_=>.no
noncomputable def dTB(da:DS0 T):DS0 Bool:=dSq da λt _ μ=>tbO t μ
noncomputable def qiv{α:Type}(dt:DS0 Bool)(d e:DS0 α):DS0 α:=dSq dt λc=>if c=true then d else e
noncomputable def qwL(d:DS0 Bool):DS0 Bool:=dSq d λc _ μ=>.ok (!c) μ
noncomputable def qwH:DS0 Bool:=λ_ μ=>.ok true μ
noncomputable def dBl(b:Bool):DS0 Bool:=λ_ μ=>.ok b μ
noncomputable def qwP(d e:DS0 Bool):DS0 Bool:=qiv d e (dBl false)
noncomputable def dOr(d e:DS0 Bool):DS0 Bool:=qiv d (dBl true) e
noncomputable def qmL(d e:DS0 T):DS0 T:=qiv (dTB d) e (dC (.bl false))
noncomputable def qtI(d e:DS0 T):DS0 T:=qiv (dTB d) (dC (.bl true)) e
noncomputable def qmJ(d:DS0 T):DS0 T:=dSq (dTB d) λc _ μ=>.ok (.bl (!c)) μ
noncomputable def OkB(M:Md)(r:R2)(g:T->T->Mu->R T):Prop:=(∀a b μ c m,g a b μ≠.ex c m)/\
 ∀(μ:Mu) (H:Hp) (B:qal) (x y:V) (a b t:T) (μ':Mu) (Q:VK),Hs M μ H B->Rep M.K B a x->Rep M.K B b y->g a b μ= .ok t μ'->KE M H B Q t μ'->r x y H Q
noncomputable def OkU(M:Md)(r:V->Hp->VK->Prop)(g:T->Mu->R T):Prop:=(∀a μ c m,g a μ≠.ex c m)/\
 ∀(μ:Mu) (H:Hp) (B:qal) (x:V) (a t:T) (μ':Mu) (Q:VK),Hs M μ H B->Rep M.K B a x->g a μ= .ok t μ'->KE M H B Q t μ'->r x H Q
section
variable {M:Md}{E:XK}{X:Cx}{e a b c:Expr}{es:List Expr}{pos:Pos}{da db dc:DS0 T}{ds:DS0 (List T)}{dn:DS0 Ct}{dt du:DS0 Bool}
theorem Ev.get{ρ:Ro}{μ:Mu}{σ:St}{H:Hp}{B:qal}(ev:Ev M ρ μ σ H B){i:Nat}{k:T->Mu->Prop}(w:Wn M E H B k (dV i ρ μ)): ∃t v,σ[i]? =some (some v)/\Rep M.K B t v/\ρ[i]? =some (some t)/\k t μ:=by
 unfold dV at w;split at w
 ·rename_i t e1;obtain⟨x,e2,r⟩:=ev.sl i t e1;exact⟨t,x,e2,r,e1,w⟩
 ·exact w.elim
theorem qak:PE X e (tE M E dNo):=λ_ _ _ _ _ _ ⟨_,_,_,_,w⟩=>w.elim
theorem qsP{i:Nat}(h:PE X e (qtT i)):PE X e (tE M E (dV i)):=PE.weak h λσ H Q ⟨ρ,μ,B,ev,w⟩=>by obtain⟨t,x,e2,r,_,w⟩:=ev.get w;exact⟨x,e2,w x H B ev.hs .refl r⟩
theorem qsU{v:V}{t:T}(h:PE X e (tC v))(r: ∀B,Rep M.K B t v):PE X e (tE M E (dC t)):=
 PE.weak h λσ H Q ⟨ρ,μ,B,ev,w⟩=>w v H B ev.hs .refl (r B)
theorem qep{r:R2}{g:T->T->Mu->R T}(ho:OkB M r g){σ:St}{H:Hp}{Q:VK}(h:tE M E (dB g da db) σ H Q):tOp r (tE M E da) (tE M E db) σ H Q:=by obtain⟨ρ,μ,B,ev,w⟩:=h;refine tE.of ev ((Wn.bind w).mono λx aa w1 v H1 B1 h1 l1 r1=> ?_);refine tE.of (ev.on h1 l1.le) ((Wn.bind w1).lift l1 λy af w2 u H2 B2 h2 l2 r2=> ?_);obtain⟨t,m,q,w2⟩:=Wn.pl w2 (ho.1 x y af);exact ho.2 af H2 B2 v u x y t m Q h2 (r1.mono l2.le) r2 q (KE.le w2 (l1.trans l2))
theorem qoc{r:V->Hp->VK->Prop}{g:T->Mu->R T}(ho:OkU M r g){σ:St}{H:Hp}{Q:VK}(h:tE M E (dU g da) σ H Q):tE M E da σ H λx H1=>r x H1 Q:=by obtain⟨ρ,μ,B,ev,w⟩:=h;refine tE.of ev ((Wn.bind w).mono λx aa w1 v H1 B1 h1 l1 r1=> ?_);obtain⟨t,m,q,w1⟩:=Wn.pl w1 (ho.1 x aa);exact ho.2 aa H1 B1 v x t m Q h1 r1 q (KE.le w1 l1)
theorem qsY:PA X [] (tA M E qnS):=PA.weak qjt λσ H Q ⟨ρ,μ,B,ev,w⟩=>w [] H B ev.hs .refl .nil
theorem qp3(ha:PE X e (tE M E da))(hs:PA X es (tA M E ds))(aD:starEach (e::es) X.env=(false,eval e X.env)::starEach es X.env):PA X (e::es) (tA M E (qs3 da ds)):=
 PA.weak (qeo ha hs aD) λσ H Q ⟨ρ,μ,B,ev,w⟩=>by refine tE.of ev ((Wn.bind w).mono λx aa w1 v H1 B1 h1 l1 r1=> ?_);exact⟨ρ,aa,B1,ev.on h1 l1.le,(Wn.bind w1).lift l1 λxs af w2 vs H2 B2 h2 l2 r2=>w2 _ H2 B2 h2 (l1.trans l2) (.cons (r1.mono l2.le) r2)⟩
theorem qsQ{x1}(hs:PA X es (tA M E ds)):PE X (.Tuple es x1 pos) (tE M E (qwI ds)):=PE.weak (qrq hs) λσ H Q ⟨ρ,μ,B,ev,w⟩=>by
 refine⟨ρ,μ,B,ev,(Wn.bind w).mono λxs aa w1 vs H1 B1 h1 l1 r1=> ?_⟩;have w1:Wn M E H B (KE M H B Q) (if xs.length<=1000 then _ else _):=w1;split at w1
 ·rename_i hl;have l0:1000<=sizeLine:=by decide
  refine⟨by rw[r1.length];omega,λp hp=> ?_⟩;have h2:=h1.new (o:=.tup vs) hp (λps z=>by cases z);exact w1 _ _ _ h2 (l1.trans (h1.gnew hp)) (qcr qai (r1.mono (h1.upd_le (h1.fr hp))))
 ·exact w1.elim
theorem qnN(hs:PA X es (tA M E ds)):PE X (.List es pos) (tN M E (qwM ds)):=PE.weak (qrt hs) λσ H Q ⟨ρ,μ,B,ev,w⟩=>by
 refine⟨ρ,μ,B,ev,(Wn.bind w).mono λxs aa w1 vs H1 B1 h1 l1 r1=> ?_⟩;have w1:Wn M E H B (KN M H B Q) (if xs.length<=1000 then _ else _):=w1;split at w1
 ·rename_i hl;have l0:1000<=sizeLine:=by decide
  exact⟨by rw[r1.length];omega,λp hp=>w1 _ _ _ _ h1 l1 hp ⟨_,rfl,r1⟩⟩
 ·exact w1.elim
theorem qj8{σ:St}{H:Hp}{Q:VK}(h:tE M E (dFz dn) σ H Q):tN M E dn σ H Q:=by
 obtain⟨ρ,μ,B,ev,w⟩:=h;refine⟨ρ,μ,B,ev,(Wn.bind w).mono λc aa w1 p o H1 B1 h1 l1 hp r1=> ?_⟩;have b1:=h1.fr hp;cases c with
 |ls ts=>obtain⟨vs,rfl,r⟩:=r1;have le:=h1.upd_le (o:=.lst vs) b1;exact w1 _ _ _ (h1.new hp (λps z=>by cases z)) (l1.trans (h1.gnew hp)) (qc1 qai (r.mono le))
 |dk ts=>obtain⟨vs,rfl,r⟩:=r1;have le:=h1.upd_le (o:=.dK vs) b1;exact w1 _ _ _ (h1.new hp (λps z=>by cases z)) (l1.trans (h1.gnew hp)) (qhg qai (r.mono le))
 |_=>exact w1.elim
theorem qjv{σ:St}{H:Hp}{Q:VK}(h:tE M E (dOw dn) σ H Q):tN M E dn σ H Q:=by obtain⟨ρ,μ,B,ev,w⟩:=h;refine⟨ρ,μ,B,ev,(Wn.bind w).mono λc aa w1 p o H1 B1 h1 l1 hp r1=> ?_⟩;have le:Le B1 (B1.add aa.l.length p):=(h1.own (c:=.gone) (o:=o) hp trivial).2;obtain⟨h2,_⟩:=h1.own hp (r1.mono le);exact w1 _ _ _ h2 (l1.trans (h1.gown hp)) (qdE (by show(if aa.l.length=aa.l.length then some p else _)=_;rw[if_pos rfl]))
theorem qp1(h:PE X e (tN M E dn)):PE X e (tE M E (dFz dn)):=PE.weak h λ_ _ _ h=>qj8 h
theorem qpX(h:PE X e (tN M E dn)):PE X e (tE M E (dOw dn)):=PE.weak h λ_ _ _ h=>qjv h
theorem qcP{σ:St}{H:Hp}{Q:Bool->Hp->Prop}(h:tT M E (dTB da) σ H Q):tE M E da σ H λx H1=> ∃c,x= .bl c/\Q c H1:=by
 obtain⟨ρ,μ,B,ev,w⟩:=h;refine tE.of ev ((Wn.bind w).mono λt aa w1 v H1 B1 h1 l1 r1=> ?_);cases t with
 |bl b=>exact⟨b,qbI r1,w1 H1 B1 h1 l1⟩
 |_=>exact w1.elim
theorem qnM(h:PE X e (tE M E da))(he: ∀whole,isTrue e X.env whole=(do let v <-whole;standAt e.pos;holding [v] (truthy v))):PT X e (tT M E (dTB da)):=PT.weak (qrc h he) λσ H Q h=>qcP h
theorem qsD(h:PT X a (tT M E dt)):PT X (.UnaryOp .Not a pos) (tT M E (qwL dt)):=PT.weak (qrd h) λσ H Q ⟨ρ,μ,B,ev,w⟩=>⟨ρ,μ,B,ev,(Wn.bind w).mono λc aa w1=>w1⟩
theorem qex{σ:St}{H:Hp}{Q:Bool->Hp->Prop}{d1 d2:DS0 Bool}(h:tT M E (qiv dt d1 d2) σ H Q):tT M E dt σ H λc H1=>if c=true then tT M E d1 σ H1 Q else tT M E d2 σ H1 Q:=by
 obtain⟨ρ,μ,B,ev,w⟩:=h;refine⟨ρ,μ,B,ev,(Wn.bind w).mono λc aa w1 H1 B1 h1 l1=> ?_⟩;cases c with
 |true|false=>exact⟨ρ,aa,B1,ev.on h1 l1.le,w1.lift l1 λ_ _ q=>KT.le q l1⟩
theorem qmj{σ:St}{H:Hp}{Q:VK}{d1 d2:DS0 T}(h:tE M E (qiv dt d1 d2) σ H Q):tT M E dt σ H λc H1=>if c=true then tE M E d1 σ H1 Q else tE M E d2 σ H1 Q:=by
 obtain⟨ρ,μ,B,ev,w⟩:=h;refine⟨ρ,μ,B,ev,(Wn.bind w).mono λc aa w1 H1 B1 h1 l1=> ?_⟩;cases c with
 |true|false=>exact⟨ρ,aa,B1,ev.on h1 l1.le,w1.lift l1 λ_ _ q=>KE.le q l1⟩
theorem qkX{σ:St}{H:Hp}{Q:Bool->Hp->Prop}{b:Bool}(h:tT M E (dBl b) σ H Q):Q b H:=by obtain⟨ρ,μ,B,ev,w⟩:=h;exact w H B ev.hs .refl
theorem qgF{σ:St}{H:Hp}{Q:VK}{b:Bool}(h:tE M E (dC (.bl b)) σ H Q):Q (.bl b) H:=by obtain⟨ρ,μ,B,ev,w⟩:=h;exact w _ H B ev.hs .refl qa4
theorem qpN(h:PT X a (tT M E dt)):PW X (.BoolOp .And [a] pos) (tT M E dt):=qoK h
theorem qsA(h:PT X a (tT M E dt)):PW X (.BoolOp .Or [a] pos) (tT M E dt):=qq6 h
theorem qsB{rest}(h:PT X a (tT M E dt))(h':PW X (.BoolOp .And (b::rest) pos) (tT M E du)):PW X (.BoolOp .And (a::b::rest) pos) (tT M E (qwP dt du)):=PW.weak (qq7 h h') λσ H Q q=>by
 have q:=qex q;obtain⟨ρ,μ,B,ev,w⟩:=q;refine⟨ρ,μ,B,ev,w.mono λc aa w1 H1 B1 h1 l1=> ?_⟩;have z:=w1 H1 B1 h1 l1;cases c with
 |true=>exact z
 |false=>exact qkX z
theorem qvC{rest}(h:PT X a (tT M E dt))(h':PW X (.BoolOp .Or (b::rest) pos) (tT M E du)):PW X (.BoolOp .Or (a::b::rest) pos) (tT M E (dOr dt du)):=PW.weak (qut h h') λσ H Q q=>by
 have q:=qex q;obtain⟨ρ,μ,B,ev,w⟩:=q;refine⟨ρ,μ,B,ev,w.mono λc aa w1 H1 B1 h1 l1=> ?_⟩;have z:=w1 H1 B1 h1 l1;cases c with
 |true=>exact qkX z
 |false=>exact z
theorem qd6{σ:St}{H:Hp}{Q:VK}{f:Bool->DS0 T}(h:tE M E (dSq (dTB da) f) σ H Q):tE M E da σ H λx H1=> ∃c,x= .bl c/\tE M E (f c) σ H1 Q:=by
 obtain⟨ρ,μ,B,ev,w⟩:=h;refine tE.of ev ((Wn.bind (Wn.bind w)).mono λt aa w1 v H1 B1 h1 l1 r1=> ?_);cases t with
 |bl b=>exact⟨b,qbI r1,ρ,aa,B1,ev.on h1 l1.le,Wn.lift w1 l1 λ_ _ q=>KE.le q l1⟩
 |_=>exact w1.elim
theorem tE.imp{σ:St}{H:Hp}{Q Q':VK}(h:tE M E da σ H Q)(f: ∀v H1,Q v H1->Q' v H1):tE M E da σ H Q':=by obtain⟨ρ,μ,B,ev,w⟩:=h;exact⟨ρ,μ,B,ev,w.mono λt aa w1 v H1 B1 h1 l1 r1=>f _ _ (w1 v H1 B1 h1 l1 r1)⟩
theorem qsW{rest}(h:PE X a (tE M E da))(h':PE X (.BoolOp .And (b::rest) pos) (tE M E db)):PE X (.BoolOp .And (a::b::rest) pos) (tE M E (qmL da db)):=PE.weak (qrx h h') λσ H Q q=>
 (qd6 q).imp λv H1 ⟨c,e,z⟩=>⟨c,e,by cases c with|true=>exact z|false=>exact qgF z⟩
theorem qvH{rest}(h:PE X a (tE M E da))(h':PE X (.BoolOp .Or (b::rest) pos) (tE M E db)):PE X (.BoolOp .Or (a::b::rest) pos) (tE M E (qtI da db)):=PE.weak (qux h h') λσ H Q q=>
 (qd6 q).imp λv H1 ⟨c,e,z⟩=>⟨c,e,by cases c with|true=>exact qgF z|false=>exact z⟩
theorem qsR(h:PE X a (tE M E da)):PE X (.UnaryOp .Not a pos) (tE M E (qmJ da)):=PE.weak (qrr h) λσ H Q q=>
 (qd6 (f:=λc _ μ=>.ok (.bl (!c)) μ) q).imp λv H1 ⟨c,e,z⟩=>⟨c,e,qgF z⟩
theorem qvI(hc:PT X c (tT M E dt))(ha:PE X a (tE M E da))(hb:PE X b (tE M E db)):PE X (.IfExp c a b pos) (tE M E (qiv dt da db)):=PE.weak (qlT hc ha hb) λσ H Q q=>qmj q
end
noncomputable def fzT(n:Nat)(l:List Ct):Nat->T->Option T
 |0,t=>if ub t<=n then some t else none
 |d+1,t=>if ub t<=n then some t else match t with
  |.obj k=>(match l[k]? with
   |some (.ls ts)=>(ts.mapM (fzT n l d)).map .lst
   |some (.dk kvs)=>(kvs.mapM λp=>(fzT n l d p.2).map λt=>(p.1,t)).map .dct
   |_=>none)
  |.tup ts=>(ts.mapM (fzT n l d)).map .tup
  |.lst ts=>(ts.mapM (fzT n l d)).map .lst
  |_=>none
noncomputable def Mu.nw(m0 m:Mu):List (Nat×Nat):=m.k.take (m.k.length - m0.k.length)
noncomputable def Mu.back(m0 m:Mu):Mu:=⟨m.l.take m0.l.length,(m0.nw m).filter (λp=>decide (p.1<m0.l.length))++m0.k⟩
noncomputable def Mu.apart(m0 m:Mu):Bool:=decide (m0.l.length<=m.l.length)&&decide (m.k.drop (m.k.length - m0.k.length)=m0.k)&&(m0.nw m).all λp=>decide (m0.l.length<=p.1\/p.2<=m0.l.length)
noncomputable def leave(m0:Mu):R T->R T
 |.ok t m=>if m.l.length=m0.l.length then .ok t m else if m0.apart m=true then(match fzT m0.l.length m.l 3 t with|some t'=>.ok t' (m0.back m)|none=>.no) else .ok t m
 |.ex c m=>if m.l.length=m0.l.length then .ex c m else if m0.apart m=true then .ex c (m0.back m) else .ex c m
 |.no=>.no
open Classical in
noncomputable def qal.fz(B:qal)(H:Hp)(l:List Ct)(n:Nat):qal:=⟨λa=>if ∃k,n<=k/\B.ad k=some a/\((∃ts,l[k]? =some (.ls ts))\/∃ts,l[k]? =some (.dk ts)) then H a else B a,(B.cut n).ad⟩
theorem qc2{α β:Type}{f:α->Option β}: ∀{xs:List α} {ys:List β},xs.mapM f=some ys->xs.length=ys.length/\∀(i:Nat) (x:α) (y:β),xs[i]? =some x->ys[i]? =some y->f x=some y
 |[],ys,h=>by simp at h;subst h;exact⟨rfl,λi x y e=>by simp at e⟩
 |x::xs,ys,h=>by
  rw[List.mapM_cons] at h;cases e1:f x with
  |none=>rw[e1] at h;cases h
  |some y=>
   cases e2:xs.mapM f with
   |none=>rw[e1,e2] at h;cases h
   |some zs=>
    rw[e1,e2] at h;cases h;obtain⟨hl,hi⟩:=qc2 e2;refine⟨by simp[hl],λi a b ea eb=> ?_⟩;cases i with
    |zero=>cases ea;cases eb;exact e1
    |succ i=>exact hi i a b (by simpa using ea) (by simpa using eb)
section
open Classical
variable {M:Md}{μ:Mu}{H:Hp}{B:qal}{n:Nat}
theorem qal.fz_le(h:Hs M μ H B):Le (B.cut n) (B.fz H μ.l n):=⟨λa o e=>by
 show(if _ then H a else B a)=_;split
 ·exact h.bh a o e
 ·exact e,λ_ _ e=>e⟩
theorem qeh{K:W.Frag}{κ:Type}: ∀{ts:List (κ×T)} {vs:List (κ×V)} {i:Nat} {p:κ×T},qbd K B ts vs->ts[i]? =some p->∃v,vs[i]? =some (p.1,v)/\Rep K B p.2 v
 |[],_,_,_,_,e=>by simp at e
 |(k,t)::ts,_,0,p,⟨v,r,e',a,b⟩,e=>by simp at e;subst e;exact⟨v,by rw[e'];rfl,a⟩
 |(k,t)::ts,_,i+1,p,⟨v,r,e',a,b⟩,e=>by obtain⟨u,e1,e2⟩:=qeh (i:=i) b (by simpa using e);exact⟨u,by rw[e'];simpa using e1,e2⟩
theorem qjd{K:W.Frag}{κ:Type}: ∀{ts:List (κ×T)} {vs:List (κ×V)},vs.length=ts.length->(∀(i:Nat) (p:κ×T) (q:κ×V),ts[i]? =some p->vs[i]? =some q->p.1=q.1/\Rep K B p.2 q.2)->qbd K B ts vs
 |[],[],_,_=>rfl
 |(k,t)::ts,(k',v)::vs,hl,h=>by obtain⟨e,r⟩:=h 0 _ _ rfl rfl;have e:k=k':=e;subst e;exact⟨v,vs,rfl,r,qjd (by simpa using hl) λi p q a b=>h (i+1) p q (by simpa using a) (by simpa using b)⟩
theorem qst(h:Hs M μ H B): ∀(d:Nat) (t t':T) (v:V),fzT n μ.l d t=some t'->Rep M.K B t v->Rep M.K (B.fz H μ.l n) t' v:=by
 intro d
 induction d with
 |zero=>
  intro t t' v e r;unfold fzT at e;split at e
  ·rename_i q;cases e;exact(r.cut q).mono (qal.fz_le h)
  ·cases e
 |succ d ih=>
  intro t t' v e r;unfold fzT at e;split at e
  ·rename_i q;cases e;exact(r.cut q).mono (qal.fz_le h)
  rename_i q;have many: ∀{ts cF:List T} {vs:List V},ts.mapM (fzT n μ.l d)=some cF->Reps M.K B ts vs->Reps M.K (B.fz H μ.l n) cF vs:=λ{ts cF vs} e r=>by
   obtain⟨hl,hi⟩:=qc2 e;refine .of_get (by rw[r.length,hl]) λi t' v e1 e2=> ?_;obtain⟨t,et⟩: ∃t,ts[i]? =some t:=⟨ts[i]'(by rw[hl];exact(List.getElem?_eq_some_iff.mp e1).1),Vz _⟩
   obtain⟨v',ev,rv⟩:=r.get et;rw[e2] at ev;cases ev;exact ih t t' v (hi i t t' et e1) rv
  split at e
  ·rename_i k;obtain⟨a,rfl,ea⟩:=qaA r;have hk:n<=k:=by unfold ub at q;omega
   split at e
   ·rename_i ts el;cases e2:ts.mapM (fzT n μ.l d) with
    |none=>rw[e2] at e;cases e
    |some cF=>rw[e2] at e;cases e;obtain⟨o,b0,ho,vs,rfl,rv⟩:=h.at el (by simp) ea;refine qc1 ?_ (many e2 rv);show(if _ then H a else B a)=_;rw[if_pos ⟨k,hk,ea,.inl ⟨ts,el⟩⟩];exact ho
   ·rename_i ts el;cases e2:ts.mapM (λp=>(fzT n μ.l d p.2).map λt=>(p.1,t)) with
    |none=>rw[e2] at e;cases e
    |some cF=>
     rw[e2] at e;cases e;obtain⟨o,b0,ho,vs,rfl,rv⟩:=h.at el (by simp) ea;refine qhg (vs:=vs) ?_ ?_
     ·show(if _ then H a else B a)=_;rw[if_pos ⟨k,hk,ea,.inr ⟨ts,el⟩⟩];exact ho
     ·obtain⟨hl,hi⟩:=qc2 e2;refine qjd (by rw[rv.length,hl]) λi p q e1 e2=> ?_;obtain⟨t,et⟩: ∃t,ts[i]? =some t:=⟨ts[i]'(by rw[hl];exact(List.getElem?_eq_some_iff.mp e1).1),Vz _⟩
      obtain⟨v',ev,rv⟩:=qeh rv et;rw[e2] at ev;cases ev;have z:=hi i t p et e1;cases e3:fzT n μ.l d t.2 with
      |none=>rw[e3] at z;cases z
      |some u=>rw[e3] at z;cases z;exact⟨rfl,ih _ _ _ e3 rv⟩
   ·cases e
  ·rename_i ts;cases e2:ts.mapM (fzT n μ.l d) with
   |none=>rw[e2] at e;cases e
   |some cF=>rw[e2] at e;cases e;obtain⟨p,vs,rfl,bp,rv⟩:=qaw r;exact qcr ((qal.fz_le (n:=n) h).h p _ bp) (many e2 rv)
  ·rename_i ts;cases e2:ts.mapM (fzT n μ.l d) with
   |none=>rw[e2] at e;cases e
   |some cF=>rw[e2] at e;cases e;obtain⟨p,vs,rfl,bp,rv⟩:=qaB r;exact qc1 ((qal.fz_le (n:=n) h).h p _ bp) (many e2 rv)
  ·cases e
theorem Hs.back {m0:Mu} {H0:Hp} {B0:qal} (h0:Hs M m0 H0 B0) (h:Hs M μ H B) (ha:m0.apart μ=true) (g:Go H0 B0 H B):
  Hs M (m0.back μ) H (B.fz H μ.l m0.l.length)/\Go H0 B0 H (B.fz H μ.l m0.l.length):=by
 unfold Mu.apart at ha;simp only[Bool.and_eq_true,decide_eq_true_eq] at ha;obtain⟨⟨hl,hd⟩,ha⟩:=ha;have hk:μ.k=m0.nw μ++m0.k:=by unfold Mu.nw;conv=>lhs;rw[<-List.take_append_drop (μ.k.length - m0.k.length) μ.k,hd]
 have new: ∀q∈m0.nw μ,m0.l.length<=q.1\/q.2<=m0.l.length:=λq hq=>of_decide_eq_true (List.all_eq_true.mp ha q hq);have hc:Hs M (m0.back μ) H (B.cut m0.l.length):=h.cut _ (n:=m0.l.length) (λq hq=>by
  rw[hk] at hq
  rcases List.mem_append.mp hq with hq|hq
  ·by_cases z:q.1<m0.l.length
   ·rcases new q hq with y|y
    ·omega
    ·exact .inr ⟨Vs _ (List.mem_filter.mpr ⟨hq,by simpa using z⟩),y⟩
   ·exact .inl (by omega)
  ·exact .inr ⟨Vt _ hq,h0.ln q hq⟩) (λq hq=>by
  rcases List.mem_append.mp hq with hq|hq
  ·obtain⟨hq,z⟩:=List.mem_filter.mp hq
   rcases new q hq with y|y
   ·have:=of_decide_eq_true z;omega
   ·exact y
  ·exact h0.ln q hq) hl
 have at': ∀{a o},(B.fz H μ.l m0.l.length) a=some o->H a=some o:=λ{a o} e=>by
  have e:(if _ then H a else B a)=some o:=e;split at e
  ·exact e
  ·exact h.bh a o e
 refine⟨⟨λa o e=>at' e,λa ps e=> ?_,h.gm,λj d e nj=> ?_,hc.ij,hc.dm,hc.lk,hc.ln⟩,⟨⟨λa o e=>(qal.fz_le h).h a o (g.le.h a o e),λj a e=> ?_⟩,g.un,λj a e=> ?_,g.dm,λa o e n t1 t2=> ?_⟩⟩
 ·have e:(if _ then H a else B a)=some (.tbl ps):=e;split at e
  ·rename_i q;obtain⟨k,_,ek,q⟩:=q
   rcases q with⟨ts,q⟩|⟨ts,q⟩
   ·obtain⟨o,_,ho,vs,rfl,_⟩:=h.at q (by simp) ek;rw[ho] at e;cases e
   ·obtain⟨o,_,ho,vs,rfl,_⟩:=h.at q (by simp) ek;rw[ho] at e;cases e
  ·exact h.bt a ps e
 ·obtain⟨a,u,e1,e2,e3,e4⟩:=hc.st j d e nj;refine⟨a,u,e1,?_,e3,e4.mono (qal.fz_le h)⟩;show(if _ then H a else B a)=_;split
  ·rename_i q;obtain⟨k,hk,ek,_⟩:=q;have e1:(if j<m0.l.length then B.ad j else none)=some a:=e1;split at e1
   ·have:=h.ij j k a e1 ek;omega
   ·cases e1
  ·exact e2
 ·show(if j<m0.l.length then B.ad j else none)=_;rw[if_pos (h0.dm j a e).1];exact g.le.d j a e
 ·have e:(if j<m0.l.length then B.ad j else none)=some a:=e;split at e
  ·exact g.nw j a e
  ·cases e
 ·show(if _ then H a else B a)=_;rw[if_neg (λ⟨k,_,ek,_⟩=>g.off (by rw[e];simp) n k ek)];exact g.nb a o e n t1 t2
end
end NV
namespace NV
open PySem L2
inductive Out where
 |nx (ρ:Ro)|rt (t:T)|bk (ρ:Ro)|ct (ρ:Ro)
noncomputable def KS(M:Md)(H:Hp)(B:qal)(D:qqq):Out->Mu->Prop
 |.nx ρ,μ=> ∀ag H' B',Ev M ρ μ ag H' B'->Go H B H' B'->D.nx ag H'
 |.bk ρ,μ=> ∀ag H' B',Ev M ρ μ ag H' B'->Go H B H' B'->D.bk ag H'
 |.ct ρ,μ=> ∀ag H' B',Ev M ρ μ ag H' B'->Go H B H' B'->D.ct ag H'
 |.rt t,μ=>KE M H B D.rt t μ
theorem KS.le{M:Md}{H H1:Hp}{B B1:qal}{D:qqq}{o:Out}{μ:Mu}(h:KS M H B D o μ)(le:Go H B H1 B1):KS M H1 B1 D o μ:=by
 cases o with
 |nx ρ|bk ρ|ct ρ=>exactλag H' B' e l=>h ag H' B' e (le.trans l)
 |rt t=>exact KE.le h le
noncomputable def tS(M:Md)(E:XK)(d:DS0 Out):TS:=λD σ H=> ∃ρ μ B,Ev M ρ μ σ H B/\Wn M E H B (KS M H B D) (d ρ μ)
noncomputable def qmK:DS0 Out:=λρ μ=>.ok (.nx ρ) μ
noncomputable def qhY(e:DS0 Out):Out->Mu->R Out
 |.nx ρ,μ=>e ρ μ
 |o,μ=>.ok o μ
noncomputable def qvO(d e:DS0 Out):DS0 Out:=λρ μ=>(d ρ μ).bind (qhY e)
noncomputable def qvP(da:DS0 T):DS0 Out:=dSq da λt _ μ=>.ok (.rt t) μ
noncomputable def qmI(i:Nat)(da:DS0 T):DS0 Out:=dSq da λt ρ μ=>.ok (.nx (ρ.set i (some t))) μ
noncomputable def qs2(da:DS0 T):DS0 Out:=dSq da λ_ ρ μ=>.ok (.nx ρ) μ
section
variable {M:Md}{E:XK}{X:Cx}{st:Stmt}{aV dM rest:List Stmt}{e c:Expr}{pos pos':Pos}{d d':DS0 Out}{da:DS0 T}{dt:DS0 Bool}{x:Str}{i:Nat}
theorem qaX:PS X st (tS M E dNo):=λ_ _ _ _ _ _ ⟨_,_,_,_,w⟩=>w.elim
theorem qpO:PSs X [] (tS M E qmK):=PSs.weak qoL λD σ H ⟨ρ,μ,B,ev,w⟩=>w σ H B ev .refl
theorem qlC{D:qqq}{σ:St}{H:Hp}(h:tS M E (qvO d d') D σ H):qv9 (tS M E d) (tS M E d') D σ H:=by
 obtain⟨ρ,μ,B,ev,w⟩:=h;refine⟨ρ,μ,B,ev,(Wn.bind w).mono λo aa w1=> ?_⟩;cases o with
 |nx ρ'=>exactλag H' B' e l=>⟨ρ',aa,B',e,Wn.lift w1 l λ_ _ q=>KS.le q l⟩
 |bk ρ'|ct ρ'|rt t=>exact w1
theorem qmw(h:PS X st (tS M E d))(h':PSs X rest (tS M E d')):PSs X (st::rest) (tS M E (qvO d d')):=PSs.weak (qlI h h') λD σ H q=>qlC q
theorem qsF(h:PE X e (tE M E da)):PS X (.Return (some e) pos) (tS M E (qvP da)):=PS.weak (qrg h) λD σ H ⟨ρ,μ,B,ev,w⟩=>tE.of ev ((Wn.bind w).mono λt aa w1=>w1)
theorem qpP:PS X (.Return none pos) (tS M E (qvP (dC .non))):=PS.weak qoM λD σ H ⟨ρ,μ,B,ev,w⟩=>w .non H B ev.hs .refl qct
theorem qpQ:PS X (.Pass pos) (tS M E qmK):=PS.weak qoN λD σ H ⟨ρ,μ,B,ev,w⟩=>w σ H B ev .refl
theorem qmy:PS X (.Break pos) (tS M E λρ μ=>.ok (.bk ρ) μ):=PS.weak qlK λD σ H ⟨ρ,μ,B,ev,w⟩=>w σ H B ev .refl
theorem qgA:PS X (.Continue pos) (tS M E λρ μ=>.ok (.ct ρ) μ):=PS.weak qgf λD σ H ⟨ρ,μ,B,ev,w⟩=>w σ H B ev .refl
theorem qpR(h:PE X e (tE M E da))(hs:swapsWith e none pos.line X.env=pure false):PS X (.Expr e pos) (tS M E (qs2 da)):=PS.weak (qoO h hs) λD σ H ⟨ρ,μ,B,ev,w⟩=>
 tE.of ev ((Wn.bind w).mono λt aa w1 v H1 B1 h1 l1 _=>w1 σ H1 B1 (ev.on h1 l1.le) l1)
theorem qvE(hc:PT X c (tT M E dt))(h:PSs X aV (tS M E d))(h':PSs X dM (tS M E d')):PS X (.If c aV dM pos) (tS M E (qiv dt d d')):=PS.weak (quv hc h h') λD σ H ⟨ρ,μ,B,ev,w⟩=>by
 refine⟨ρ,μ,B,ev,(Wn.bind w).mono λc aa w1 H1 B1 h1 l1=> ?_⟩;cases c with
 |true|false=>exact⟨ρ,aa,B1,ev.on h1 l1.le,Wn.lift w1 l1 λ_ _ q=>KS.le q l1⟩
theorem qsE (hN:X.N.Nodup) (hi:X.N[i]? =some x) (hx:Loc X.env.scope x) (h:PE X e (tE M E da)) (hs:swapsWith e (some (.Name x pos')) pos.line X.env=pure false) (hf:X.fn x=true\/X.env.scope.names.lookup x=some .local):
  PS X (.Assign [.Name x pos'] e pos) (tS M E (qmI i da)):=PS.weak (qrf hN hi hx h hs hf) λD σ H ⟨ρ,μ,B,ev,w⟩=>
 tE.of ev ((Wn.bind w).mono λt aa w1 v H1 B1 h1 l1 r1=>w1 _ H1 B1 ((ev.on h1 l1.le).set r1) l1)
end
noncomputable def tG(M:Md)(E:XK)(dg:T->DS0 Ro):TG:=λv σ H Q=> ∃ρ μ B t,Ev M ρ μ σ H B/\Rep M.K B t v/\Wn M E H B (λρ' μ'=> ∀ag H' B',Ev M ρ' μ' ag H' B'->Go H B H' B'->Q ag H') (dg t ρ μ)
noncomputable def tGs(M:Md)(E:XK)(dg:List T->DS0 Ro):TGs:=λv σ H Q=> ∃ρ μ B t,Ev M ρ μ σ H B/\Reps M.K B t v/\Wn M E H B (λρ' μ'=> ∀ag H' B',Ev M ρ' μ' ag H' B'->Go H B H' B'->Q ag H') (dg t ρ μ)
noncomputable def gN(i:Nat):T->DS0 Ro:=λt ρ μ=>.ok (ρ.set i (some t)) μ
noncomputable def gsN:List T->DS0 Ro:=λts ρ μ=>match ts with|[]=>.ok ρ μ|_=>.no
noncomputable def gsC(dg:T->DS0 Ro)(dr:List T->DS0 Ro):List T->DS0 Ro:=λts ρ μ=>match ts with|t::r=>(dg t ρ μ).bind (dr r)|[]=>.no
noncomputable def gT(n:Nat)(dr:List T->DS0 Ro):T->DS0 Ro:=λt ρ μ=>match t with|.tup ts=>if ts.length=n then dr ts ρ μ else .no|_=>.no
noncomputable def qwO(dg:T->DS0 Ro)(da:DS0 T):DS0 Out:=dSq da λt ρ μ=>(dg t ρ μ).bind λρ' μ'=>.ok (.nx ρ') μ'
section
variable {M:Md}{E:XK}{X:Cx}{e:Expr}{es:List Expr}{pos:Pos}{dg:T->DS0 Ro}{dr:List T->DS0 Ro}
theorem qko:PG X e (tG M E λ_=>dNo):=λ_ _ _ _ _ _ _ _ _ ⟨_,_,_,_,_,_,w⟩=>w.elim
theorem qvF{i:Nat}(h:PG X e (qpE i)):PG X e (tG M E (gN i)):=PG.weak h λv σ H Q ⟨ρ,μ,B,t,ev,r,w⟩=>w _ _ _ (ev.set r) .refl
theorem qpW:PGs X [] (tGs M E gsN):=PGs.weak qoV λv σ H Q ⟨ρ,μ,B,t,ev,r,w⟩=>by
 cases t with
 |nil=>exact⟨r.inv0,w σ H B ev .refl⟩
 |cons _ _=>exact w.elim
theorem qmB(h1:PG X e (tG M E dg))(h2:PGs X es (tGs M E dr))(hs:(assignEach (e::es) X.env).map (·.2)=assign e X.env::(assignEach es X.env).map (·.2)):PGs X (e::es) (tGs M E (gsC dg dr)):=
 PGs.weak (qlP h1 h2 hs) λv σ H Q ⟨ρ,μ,B,t,ev,r,w⟩=>by
  cases t with
  |nil=>exact w.elim
  |cons t ts=>obtain⟨v',r',rfl,a,b⟩:=r.inv;refine⟨v',r',rfl,ρ,μ,B,t,ev,a,(Wn.bind w).mono λao aa w1 cD H1 B1 e1 l1=> ?_⟩;exact⟨ao,aa,B1,ts,e1,b.mono l1.le,Wn.lift w1 l1 λax af q aE H2 B2 e2 l2=>q aE H2 B2 e2 (l1.trans l2)⟩
theorem qsN{k n:Nat}(hc:X.calm=true)(h:PGs X es (tGs M E dr))(hK:X.K=M.K)(hn:(assignEach es X.env).length=n)(aD:(assignEach es X.env).findIdx? (·.1)=none):PG X (.Tuple es k pos) (tG M E (gT n dr)):=
 PG.weak (qrp hc h hn aD) λv σ H Q ⟨ρ,μ,B,t,ev,r,w⟩=>by
  cases t with
  |tup ts=>
   obtain⟨p,vs,rfl,bp,rv⟩:=qaw r;have w:Wn M E H B _ (if ts.length=n then _ else _):=w;split at w
   ·rename_i hl;exact⟨p,vs,rfl,.inl (.inl (ev.hs.bh _ _ bp)),by rw[rv.length];exact hl,ρ,μ,B,ts,ev,rv,w⟩
   ·exact w.elim
  |_=>exact w.elim
theorem qsJ{tg:Expr}{da:DS0 T}(h:PE X e (tE M E da))(hg:PG X tg (tG M E dg))(hs:swapsWithSole [tg] e pos.line X.env=pure false)(hw:swappedStores [tg] e X.env=pure none)(h1:(assignEach [tg] X.env).map (·.2)=[assign tg X.env]):PS X (.Assign [tg] e pos) (tS M E (qwO dg da)):=
 PS.weak (qrm h hg hs hw h1) λD σ H ⟨ρ,μ,B,ev,w⟩=>tE.of ev ((Wn.bind w).mono λt aa w1 v H1 B1 h1 l1 r1=>⟨ρ,aa,B1,t,ev.on h1 l1.le,r1,(Wn.bind w1).lift l1 λax af w2 aE H2 B2 e2 l2=>w2 aE H2 B2 e2 (l1.trans l2)⟩)
end
noncomputable def spF(M:Md)(f:List T->Mu->R T):Sp:=λvs H Q E=> ∃μ B ts,Hs M μ H B/\Reps M.K B ts vs/\Wn M E H B (KE M H B Q) (f ts μ)
noncomputable def outT:Out->Mu->R T
 |.rt t,μ=>.ok t μ
 |.nx _,μ=>.ok .non μ
 |_,_=>.no
noncomputable def lv(kp:Bool)(μ:Mu)(r:R T):R T:=if kp=true then r else leave μ r
noncomputable def fnR(kp:Bool)(n N:Nat)(d:DS0 Out):List T->Mu->R T:=λts μ=>if ts.length=n then lv kp μ ((d (ts.map some++List.replicate (N - n) none) μ).bind outT) else .no
section
variable {M:Md}{E:XK}{P:Program}{w:World}{mg:Str->Option Value}{base:Heap}
theorem qih{μ:Mu}{H:Hp}{B:qal}{Q:VK}{r:R T}(h:Hs M μ H B)(w:Wn M E H B (KE M H B Q) (leave μ r)):Wn M E H B (KE M H B Q) r:=by
 cases r with
 |no=>exact w
 |ok t m=>
  have w:Wn M E H B (KE M H B Q) (if m.l.length=μ.l.length then .ok t m else if μ.apart m=true then(match fzT μ.l.length m.l 3 t with|some t'=>.ok t' (μ.back m)|none=>.no) else .ok t m):=w;split at w
  ·exact w
  ·split at w
   ·rename_i ha;split at w
    ·rename_i t' e
     exactλv H' B' h' l r=>w v H' _ (h.back h' ha l).1 (h.back h' ha l).2 (qst h' 3 t t' v e r)
    ·exact w.elim
   ·exact w
 |ex c m=>
  have w:Wn M E H B (KE M H B Q) (if m.l.length=μ.l.length then .ex c m else if μ.apart m=true then .ex c (μ.back m) else .ex c m):=w;split at w
  ·exact w
  ·split at w
   ·rename_i ha
    exactλH' B' h' l=>w H' _ (h.back h' ha l).1 (h.back h' ha l).2
   ·exact w
theorem qpo{kp:Bool}{μ:Mu}{H:Hp}{B:qal}{Q:VK}{r:R T}(h:Hs M μ H B)(w:Wn M E H B (KE M H B Q) (lv kp μ r)):Wn M E H B (KE M H B Q) r:=by
 cases kp with
 |true=>exact w
 |false=>exact qih h w
theorem qms{H:Hp}{B:qal}{μ:Mu}{ts:List T}{vs:List V}{N:List Str}(h:Hs M μ H B)(r:Reps M.K B ts vs)(hN:ts.length<=N.length):Ev M (ts.map some++List.replicate (N.length - ts.length) none) μ (start N vs) H B:=by
 have hl:=r.length;refine⟨h,by unfold L2.start;simp[hl],λi t e=> ?_⟩;by_cases hi:i<ts.length
 ·rw[List.getElem?_append_left (by simpa using hi),List.getElem?_map] at e;cases q:ts[i]? with
  |none=>rw[q] at e;cases e
  |some u=>rw[q] at e;cases e;obtain⟨v,e1,e2⟩:=r.get q;refine⟨v,?_,e2⟩;unfold L2.start;rw[List.getElem?_append_left (by rw[List.length_map,hl];exact hi),List.getElem?_map,e1];rfl
 ·rw[List.getElem?_append_right (by simpa using hi),List.getElem?_replicate] at e;split at e<;>cases e
theorem qvv {x qual:Str} {st:Stmt} {f:Addr} {fd:FuncData} {N ps:List Str} {k:Nat} {kp:Bool} {d:DS0 Out} (F:Fun M.K x qual st f fd) (S:qdt N ps (qae st))
  (bX: ∀(cdv:Value),fd.code=cdv->∀(A:Around) (outer:List Env) (s:Shared) (H:Hp) (E:XK),qbu k (A.deeper (PyProof.Rows.envOfC qual (qae st) s.heap.objs.size f cdv))->
   PSs (qhu (CXE P w) P w M.K mg base N qual (qae st) f cdv A outer s H E) (qay st) (tS M E d)):qcL P w M.K mg base (CXE P w) (k+1) f fd ps (spF M (fnR kp ps.length N.length d)):=by
 have av:ps.length<=N.length:=by have:=congrArg List.length S.pre;rw[List.length_take] at this;omega
 have len: ∀vs H Q E,spF M (fnR kp ps.length N.length d) vs H Q E->∃μ B ts,Hs M μ H B/\Reps M.K B ts vs/\ts.length=ps.length/\Wn M E H B (KE M H B Q) (lv kp μ ((d (ts.map some++List.replicate (N.length - ps.length) none) μ).bind outT)):=λvs H Q E h=>by
  obtain⟨μ,B,ts,h1,h2,h3⟩:=h;unfold fnR at h3;split at h3
  ·rename_i hl;exact⟨μ,B,ts,h1,h2,hl,h3⟩
  ·exact h3.elim
 obtain⟨oc,od,kV,doc,pm,an,cdv,ct,osl,rfl,lk,ba⟩:=F.ex;refine qvw lk ba S (λvs H Q E h=> ?_) λA outer s H vs Q E hr h=>⟨_,bX cdv rfl A outer s H E hr,?_⟩
 ·obtain⟨μ,B,ts,h1,h2,hl,h3⟩:=len vs H Q E h;rw[h2.length];exact hl
 ·obtain⟨μ,B,ts,h1,h2,hl,h3⟩:=len vs H Q E h;refine⟨_,μ,B,qms h1 h2 (by omega),?_⟩;rw[hl];refine(Wn.bind (qpo h1 h3)).mono λo aa w1=> ?_;cases o with
  |rt t=>exact w1
  |nx ρ=>exactλag H' B' e l=>w1 .non H' B' e.hs l qct
  |bk ρ|ct ρ=>exact w1.elim
end
noncomputable def qeG(f:List T->Mu->R T)(ds:DS0 (List T)):DS0 T:=dSq ds λts _ μ=>f ts μ
section
variable {M:Md}{E:XK}{X:Cx}{k:Nat}{f C:Addr}{fd:FuncData}{ps:List Str}{x m:Str}{p pos apos:Pos}{e o:Expr}{es:List Expr}{da:DS0 T}{ds:DS0 (List T)}{fT:List T->Mu->R T}
theorem qfR{σ:St}{H:Hp}{Q:VK}(h:tE M E (qeG fT ds) σ H Q):qon (spF M fT) [] E (tA M E ds) σ H Q:=by obtain⟨ρ,μ,B,ev,w⟩:=h;refine⟨ρ,μ,B,ev,(Wn.bind w).mono λts aa w1 vs H1 B1 h1 l1 r1=> ?_⟩;show spF M fT (vs++[]) H1 Q E;rw[List.append_nil];exact⟨aa,B1,ts,h1,r1,Wn.lift w1 l1 λ_ _ q=>KE.le q l1⟩
theorem qp2 (F:qcL X.prog X.w X.K X.mg X.base (CXE X.prog X.w) k f fd ps (spF M fT)) (hr:qbu k X.A) (hg:Gl X x) (hm:X.mg x=some (.ref f)) (hk:W.keepIn X.K (.ref f)=true) (hb:qa0 X.K fd ps []) (hx:qaJ (CXE X.prog X.w) X E)
  (ha:PA X (e::es) (tA M E ds)) (aC:(x==("__debug__" :Str))=false) (he:starEach (e::es) X.env=(false,eval e X.env)::starEach es X.env) (av:(backTo pos (starEach es X.env)).any (·.1)=false):
  PE X (.Call (.Name x p) (e::es) [] pos) (tE M E (qeG fT ds)):=PE.weak (qoZ F hr hg hm hk hb .nil hx ha aC he av) λ_ _ _ h=>qfR h
theorem qmH (F:qcL X.prog X.w X.K X.mg X.base (CXE X.prog X.w) k f fd ps (spF M fT)) (hr:qbu k X.A) (hg:Gl X x) (hm:X.mg x=some (.ref f)) (hk:W.keepIn X.K (.ref f)=true) (hb:qa0 X.K fd ps []) (hx:qaJ (CXE X.prog X.w) X E)
  (aC:(x==("__debug__" :Str))=false):PE X (.Call (.Name x p) [] [] pos) (tE M E (qeG fT qnS)):=PE.weak (qlW F hr hg hm hk hb .nil hx aC) λσ H Q h=>by obtain⟨ρ,μ,B,ev,w⟩:=h;exact⟨μ,B,[],ev.hs,.nil,w⟩
noncomputable def mkR(c:Str)(fT:List T->Mu->R T)(ts:List T)(μ:Mu):R T:=(fT (.obj μ.l.length::ts) (μ.add (.ins c []))).bind λt m=>match t with|.non=>.ok (.obj μ.l.length) m|_=>.no
theorem qfj{σ:St}{H:Hp}{Q:VK}{c:Str}(hC:C=clA M.K c)(h:tE M E (qeG (mkR c fT) ds) σ H Q):qom C (spF M fT) [] E (tA M E ds) σ H Q:=by
 obtain⟨ρ,μ,B,ev,w⟩:=h;refine⟨ρ,μ,B,ev,(Wn.bind w).mono λts aa w1 vs H1 B1 h1 l1 r1 x dx hx fF ne=> ?_⟩;rw[List.append_nil];have h2:=h1.more (H':=upd H1 dx (.own x)) λa o e=>by rw[qad (qan e fF)];exact e
 have b7:upd H1 dx (.own x) x=none:=by rw[qad (λz=>ne z.symm)];exact hx
 obtain⟨h3,_⟩:=h2.own (p:=x) (c:=.ins c []) (o:=.ins C dx []) b7 ⟨dx,[],by rw[hC],rfl⟩;have l3:Go H1 B1 (upd (upd H1 dx (.own x)) x (.ins C dx [])) (B1.add aa.l.length x):=(Go.more (λa o e=>by rw[qad (qan e fF)];exact e)).trans (h2.gown b7);have ad:(B1.add aa.l.length x).ad aa.l.length=some x:=by show(if aa.l.length=aa.l.length then some x else _)=_;rw[if_pos rfl]
 refine⟨_,_,_::ts,h3,.cons (qdE ad) (r1.mono l3.le),(Wn.bind w1).lift (l1.trans l3) λt af w2 v H2 B2 h4 l4 r4=> ?_⟩;cases t with
 |non=>exact⟨qcT r4,w2 _ H2 B2 h4 ((l1.trans l3).trans l4) (qdE (l4.le.d _ _ ad))⟩
 |_=>exact w2.elim
theorem qpZ {c:Str} (hC:C=clA M.K c) (ic:Mk X.K C f) (F:qcL X.prog X.w X.K X.mg X.base (CXE X.prog X.w) k f fd ps (spF M fT)) (hr:qbu (k+1) X.A) (hg:Gl X x) (hm:X.mg x=some (.ref C)) (hb:qa0 X.K fd ps []) (hx:qaJ (CXE X.prog X.w) X E)
  (ha:PA X (e::es) (tA M E ds)) (aC:(x==("__debug__" :Str))=false) (he:starEach (e::es) X.env=(false,eval e X.env)::starEach es X.env) (av:(backTo pos (starEach es X.env)).any (·.1)=false):
  PE X (.Call (.Name x p) (e::es) [] pos) (tE M E (qeG (mkR c fT) ds)):=PE.weak (qoX ic F hr hg hm hb .nil hx ha aC he av) λ_ _ _ h=>qfj hC h
theorem qmF {c:Str} (hC:C=clA M.K c) (ic:Mk X.K C f) (F:qcL X.prog X.w X.K X.mg X.base (CXE X.prog X.w) k f fd ps (spF M fT)) (hr:qbu (k+1) X.A) (hg:Gl X x) (hm:X.mg x=some (.ref C)) (hb:qa0 X.K fd ps []) (hx:qaJ (CXE X.prog X.w) X E)
  (aC:(x==("__debug__" :Str))=false):PE X (.Call (.Name x p) [] [] pos) (tE M E (qeG (mkR c fT) qnS)):=PE.weak (qlS ic F hr hg hm hb .nil hx aC) λσ H Q h=>by have:=qfj (ds:=qnS) hC h;obtain⟨ρ,μ,B,ev,w⟩:=this;exact w [] H B ev.hs .refl .nil
noncomputable def qnH(ok:Str->Str->Bool)(f:Str):T->Mu->R T
 |.obj k,μ=>(match μ.l[k]? with
  |some (.ins c fs)=>if ok c f=true then(match fs.lookup f with|some t=>.ok t μ|none=>.no) else .no
  |_=>.no)
 |_,_=>.no
theorem qbP{K:W.Frag}{B:qal}{f:Str}: ∀{fs:List (Str×T)} {vs:List (Str×V)},qbd K B fs vs->(∀t,fs.lookup f=some t->∃v,vs.lookup f=some v/\Rep K B t v)/\(fs.lookup f=none->vs.lookup f=none)
 |[],vs,r=>by have r:vs=[]:=r;rw[r];exact⟨(λt e=>by simp at e),λ_=>rfl⟩
 |(g,t)::fs,_,⟨v,r,e,a,b⟩=>by
  have ih:=qbP (f:=f) b;rw[e,List.lookup_cons,List.lookup_cons];cases q:f==g with
  |true=>exact⟨λu q=>by cases q;exact⟨v,rfl,a⟩,λq=>by cases q⟩
  |false=>exact ih
theorem qmq{ok:Str->Str->Bool}{f:Str}(hK:X.K=M.K)(hok: ∀c,ok c f=true->Cls M.K (clA M.K c)/\qbb M.K (clA M.K c) f){σ:St}{H:Hp}{Q:VK}(h:tE M E (dU (qnH ok f) da) σ H Q):qwa X.K (tE M E da) f σ H Q:=by
 obtain⟨ρ,μ,B,ev,w⟩:=h;refine tE.of ev ((Wn.bind w).mono λx aa w1 v H1 B1 h1 l1 r1=> ?_);have w1:Wn M E H B (KE M H B Q) (qnH ok f x aa):=w1;unfold qnH at w1;split at w1
 ·rename_i k;obtain⟨a,rfl,ea⟩:=qaA r1;split at w1
  ·rename_i c fs el;split at w1
   ·rename_i hc;obtain⟨h2,h3⟩:=hok c hc;split at w1
    ·rename_i t et;obtain⟨o,b0,ho,dx,vs,rfl,rv⟩:=h1.at el (by simp) ea;obtain⟨v,bY,dq⟩:=(qbP rv).1 t et;rw[hK];exact⟨a,_,dx,vs,v,rfl,ho,h2,h3,bY,w1 v H1 B1 h1 l1 dq⟩
    ·exact w1.elim
   ·exact w1.elim
  ·exact w1.elim
 ·exact w1.elim
theorem qsT{ok:Str->Str->Bool}{f:Str}(hK:X.K=M.K)(hok: ∀c,ok c f=true->Cls M.K (clA M.K c)/\qbb M.K (clA M.K c) f)(he:PE X e (tE M E da))(hb:attributeBase e f X.env (eval e X.env)=eval e X.env):PE X (.Attribute e f pos) (tE M E (dU (qnH ok f) da)):=
 PE.weak (qrv he hb) λ_ _ _ h=>qmq hK hok h
noncomputable def qrb(f:Str)(t:T):List (Str×T)->List (Str×T)
 |[]=>[(f,t)]
 |(g,u)::r=>if g=f then(g,t)::r else(g,u)::qrb f t r
noncomputable def qqw(ok:Str->Str->Bool)(f:Str)(t:T):T->Mu->R Unit
 |.obj k,μ=>(match μ.l[k]? with
  |some (.ins c fs)=>if ok c f=true/\fs.length<1000 then .ok () (μ.put k (.ins c (qrb f t fs))) else .no
  |_=>.no)
 |_,_=>.no
noncomputable def qs1(ok:Str->Str->Bool)(f:Str)(aU dv:DS0 T):DS0 Out:=dSq dv λt=>dSq aU λo ρ μ=>(qqw ok f t o μ).bind λ_ μ'=>.ok (.nx ρ) μ'
theorem qg0{K:W.Frag}{B:qal}{f:Str}{t:T}{v:V}(r:Rep K B t v): ∀{fs:List (Str×T)} {vs:List (Str×V)},qbd K B fs vs->qbd K B (qrb f t fs) (qem f v vs)
 |[],_,h=>by rw[show _=_ from h];exact⟨v,[],rfl,r,rfl⟩
 |(g,u)::fs,_,⟨w,r',e,a,b⟩=>by
  rw[e];unfold qrb qem;by_cases q:g=f
  ·rw[if_pos q,if_pos q];exact⟨v,r',rfl,r,b⟩
  ·rw[if_neg q,if_neg q];exact⟨w,_,rfl,a,qg0 r b⟩
theorem qsI {ok:Str->Str->Bool} {f:Str} {o value:Expr} {pos':Pos} {dv:DS0 T} (hK:X.K=M.K) (hok: ∀c,ok c f=true->Cls M.K (clA M.K c)/\qbb M.K (clA M.K c) f) (ho:PE X o (tE M E da)) (hv:PE X value (tE M E dv)) (hs:swapsWith value (some (.Attribute o f pos')) pos.line X.env=pure false):
  PS X (.Assign [.Attribute o f pos'] value pos) (tS M E (qs1 ok f da dv)):=PS.weak (qrk ho hv hs) λD σ H ⟨ρ,μ,B,ev,w⟩=>by
 refine tE.of ev ((Wn.bind w).mono λt aa w1 v H1 B1 h1 l1 r1=> ?_);refine tE.of (ev.on h1 l1.le) ((Wn.bind w1).lift l1 λx af w2 u H2 B2 h2 l2 r2=> ?_);have w2:Wn M E H B (KS M H B D) ((qqw ok f t x af).bind λ_ μ'=>.ok (.nx ρ) μ'):=w2;have w2:=Wn.bind w2;unfold qqw at w2;split at w2
 ·rename_i k;obtain⟨a,rfl,ea⟩:=qaA r2;split at w2
  ·rename_i c fs el;split at w2
   ·rename_i hc;obtain⟨g2,g3⟩:=hok c hc.1;obtain⟨o,b0,ho,dx,vs,rfl,rv⟩:=h2.at el (by simp) ea;rw[hK];refine⟨a,_,dx,vs,rfl,ho,g2,g3,by rw[rv.length];exact hc.2,?_⟩;have g:=(l1.trans l2).trans (qvb (H:=H2) (o:=.ins (clA M.K c) dx (qem f v vs)) ea);exact w2 σ _ B2 (ev.on (h2.put el (by simp) ea ⟨dx,_,rfl,qg0 (r1.mono l2.le) rv⟩) g.le) g
   ·exact w2.elim
  ·exact w2.elim
 ·exact w2.elim
end
end NV
namespace PL
open PySem L2
inductive T where
 |non|bl (b:Bool)|int (i:Int)|str (s:Str)|tup (ts:List T)|lst (ts:List T)|dct (kvs:List (Key×T))|dcf (kvs:List (Key×T))|dtu (kvs:List (List Key×T))|fn (x:Str)|scr (ns:List Int)|obj (a:Addr)
inductive Rs(α:Type) where
 |no|ok (a:α)|ex (c:Str)
structure GX(H H':Hp):Prop where
 hh: ∀a o,H a=some o->(∀ps,o≠.tbl ps)->H' a=some o
 dm: ∀a,H a≠none->H' a≠none
inductive Sl where
 |no|fz (t:T)|ow (ts:List T)|od (kvs:List (Key×T))|ou (kvs:List (List Key×T))|pd (kvs:List (Key×T))|pu (kvs:List (List Key×T))
abbrev Ro:=List Sl
inductive Out where
 |nx (ρ:Ro)|rt (t:T)|bk (ρ:Ro)|ct (ρ:Ro)|rs (s:Sl) (ρ:Ro)
section
noncomputable def qxF(K:W.Frag)(tl:TE):TI:=λσ H R=>tl σ H λx H1=> ∃a,x= .ref a/\(((∃xs,SqL K H1 a xs/\(xs.length<=sizeLine->R (Itl K a) H1)))\/(∃xs,SqT K H1 a xs/\(xs.length<=sizeLine->R (Itt K a) H1)))
theorem pi_seq(hl:PE X l tl):PI X tg l (qxF X.K tl):=by
 intro pins s σ H R I h;refine thn (hl pins s σ H _ I h) λv s1 d8=> ?_;obtain⟨x,H1,I1,r1,q1⟩:=d8;obtain⟨a,e,q⟩:=q1;subst e;cases r1
 rcases q with⟨xs,hq,q⟩|⟨xs,hq,q⟩
 ·obtain⟨its,rv,p,hz⟩:=I1.list hq;have q:=q hz;refine Vf p.isList ?_;refine⟨s1.heap.objs.size,[s1.heap.objs.size],_,_,H1,rfl,I1.kept (t':=s1.toks) λb o e=>Vg _ e,qiV a _,⟨_,Vh _ rfl,rfl,rfl⟩,λb hb=> ?_,q⟩;have e:b=s1.heap.objs.size:=by simpa using hb
  subst e;exact I1.fpOk (Vm _) (I1.hok.fresh (Vm _))
 ·obtain⟨its,rv,p,hz⟩:=I1.tuple hq;have q:=q hz;refine wpAny_pyIter_tuple p ?_;refine⟨s1.heap.objs.size,[s1.heap.objs.size],_,_,H1,rfl,I1.kept (t':=s1.toks) λb o e=>Vg _ e,qhT a _,⟨_,Vh _ rfl,rfl,rfl⟩,λb hb=> ?_,q⟩;have e:b=s1.heap.objs.size:=by simpa using hb
  subst e;exact I1.fpOk (Vm _) (I1.hok.fresh (Vm _))
end
theorem line1M:(1000000:Nat)<=sizeLine:=by decide
end PL
namespace Mir
open St
theorem qb3: ∀{l:List Nat} {x:Nat},x∈l->(l.erase x).length+1=l.length
 |[],_,h=>by cases h
 |y::l,x,h=>by
  by_cases e:y=x
  ·subst e;simp
  ·have hb:(y==x)=false:=by simpa using e
   rw[List.erase_cons,hb];simp only[Bool.false_eq_true,if_false,List.length_cons];have:=qb3 (l:=l) (x:=x) ((List.mem_cons.mp h).resolve_left λz=>e z.symm);lia
theorem qfi{l:List Nat}{x y:Nat}(h:y∈l)(aH:y≠x):y∈l.erase x:=by
 induction l with
 |nil=>cases h
 |cons z l ih=>
  rw[List.erase_cons];by_cases e:z=x
  ·have hb:(z==x)=true:=by simpa using e
   rw[hb,if_pos rfl];exact(List.mem_cons.mp h).resolve_left λq=>aH (q.trans e)
  ·have hb:(z==x)=false:=by simpa using e
   rw[hb];simp only[Bool.false_eq_true,if_false]
   rcases List.mem_cons.mp h with q|q
   ·rw[q];exact Vk
   ·exact Vl _ (ih q)
theorem qhj: ∀{l l':List Nat},l.Nodup->(∀x∈l,x∈l')->l.length<=l'.length
 |[],_,_,_=>Nat.zero_le _
 |x::l,l',nd,h=>by have hx:x∈l':=h x Vk;have hn:=List.nodup_cons.mp nd;have:=qhj (l:=l) (l':=l'.erase x) hn.2 λy hy=>qfi (h y (Vl _ hy)) λz=>hn.1 (z▸hy);have e:=qb3 hx;rw[List.length_cons];lia
theorem qxV{l:List Nat}{n:Nat}(nd:l.Nodup)(lt: ∀x∈l,x<n)(hl:l.length=n): ∀j,j<n->j∈l:=by
 intro j hj;by_cases q:j∈l
 ·exact q
 ·have h1:=qhj (l:=j::l) (l':=List.range n) (List.nodup_cons.mpr ⟨q,nd⟩) λx hx=>by
   rcases List.mem_cons.mp hx with e|e
   ·rw[e];exact List.mem_range.mpr hj
   ·exact List.mem_range.mpr (lt x e)
  rw[List.length_cons,List.length_range] at h1;lia
theorem qbK(cn: ∀a b,R a b->¬R b a): ∀{l l':List Nat},l.Pairwise R->l'.Pairwise R->(∀x,x∈l↔x∈l')->l=l'
 |[],[],_,_,_=>rfl
 |[],y::l',_,_,h=>by have:=(h y).mpr Vk;cases this
 |x::l,[],_,_,h=>by have:=(h x).mp Vk;cases this
 |x::l,y::l',h1,h2,h=>by
  obtain⟨a1,b1⟩:=List.pairwise_cons.mp h1;obtain⟨a2,b2⟩:=List.pairwise_cons.mp h2;have exy:x=y:=by
   rcases List.mem_cons.mp ((h x).mp Vk) with e|e
   ·exact e
   ·rcases List.mem_cons.mp ((h y).mpr Vk) with e'|e'
    ·exact e'.symm
    ·exact absurd (a2 x e) (cn x y (a1 y e'))
  subst exy;have n1:x∉l:=λq=>cn x x (a1 x q) (a1 x q);have n2:x∉l':=λq=>cn x x (a2 x q) (a2 x q);rw[qbK cn b1 b2 λz=>⟨λq=>((List.mem_cons.mp ((h z).mp (List.mem_cons_of_mem _ q))).resolve_left λe=>n1 (e▸q)),λq=>((List.mem_cons.mp ((h z).mpr (List.mem_cons_of_mem _ q))).resolve_left λe=>n2 (e▸q))⟩]
theorem qn6(a b:Nat)(h:L k a b): ¬L k b a:=by
 intro h'
 rcases h with h|h<;>rcases h' with h'|h'<;>lia
theorem qbJ(h:qdr ms n p):p.toList.Pairwise (L λi=>ms.getD i 0):=by
 rw[List.pairwise_iff_getElem];intro i j hi hj aI;have aS:i<p.size:=by simpa using hi
 have eN:j<p.size:=by simpa using hj
 have e:=h.2 i j aI (by rw[h.1.sz] at eN;exact eN);have e1:g p i=p.toList[i]:=by unfold g;rw[Array.getD_eq_getD_getElem?];simp[aS]
 have e2:g p j=p.toList[j]:=by unfold g;rw[Array.getD_eq_getD_getElem?];simp[eN]
 rw[e1,e2] at e;exact e
theorem qhd(h:qdr ms n p): ∀x∈p.toList,x<n:=by
 intro x hx;obtain⟨i,hi,rfl⟩:=List.mem_iff_getElem.mp hx;have aS:i<p.size:=by simpa using hi
 have e:=h.1.lo i (by rw[h.1.sz] at aS;exact aS);have e1:g p i=p.toList[i]:=by unfold g;rw[Array.getD_eq_getD_getElem?];simp[aS]
 rw[e1] at e;exact e
theorem qgj(h:qdr ms n p):p.toList.Nodup:=by refine List.Pairwise.imp ?_ (qbJ h);intro a b iS e;subst e;exact qn6 a a iS iS
theorem qjx{p:Array Nat}(h:qdr ms n p)(x:Nat):x∈p.toList↔x<n:=
 ⟨qhd h x,qxV (qgj h) (qhd h) (by rw[Array.length_toList];exact h.1.sz) x⟩
noncomputable def qt3(ms:List Int)(n:Nat)(m:Int):List Nat:=(List.range n).filter λj=>decide (ms.getD j 0=m)
noncomputable def due(ms:List Int)(n t:Nat):List Nat:=(List.range t).flatMap λm=>qt3 ms n (m:Nat)
theorem map_range_getD(xs:List α)(d:α):(List.range xs.length).map (λj=>xs.getD j d)=xs:=by
 apply List.ext_getElem
 ·simp
 ·intro i h1 h2;simp[h2]
end Mir
namespace SR
open PySem L2 RH St Mir
theorem qsi: ∀{l:List Nat},(∀x∈l,x<n)->l.Pairwise (L k)->(ins k n l).Pairwise (L k)
 |[],_,_=>by simp[ins]
 |y::l,hl,h=>by
  have h':=List.pairwise_cons.mp h;have hy:y<n:=hl y Vk;show(if k y<=k n then y::ins k n l else n::y::l).Pairwise (L k);by_cases c:k y<=k n
  ·rw[if_pos c];refine List.pairwise_cons.mpr ⟨λz hz=> ?_,qsi (λx hx=>hl x (Vl _ hx)) h'.2⟩
   rcases qgq.mp hz with q|q
   ·subst q;unfold L;lia
   ·exact h'.1 z q
  ·rw[if_neg c];refine List.pairwise_cons.mpr ⟨λz hz=> ?_,h⟩
   rcases List.mem_cons.mp hz with q|q
   ·subst q;exact .inl (by lia)
   ·have:=h'.1 z q;unfold L at this⊢;lia
theorem qe7(k:Nat->Int): ∀n,(srt k (List.range n)).Pairwise (L k)
 |0=>List.Pairwise.nil
 |n+1=>by rw[List.range_succ,qea];exact qsi (λx hx=>List.mem_range.mp ((mem_srt _).mp hx)) (qe7 k n)
theorem qjw(h:qdr ms n p):p.toList=srt (λi=>ms.getD i 0) (List.range n):=
 qbK qn6 (qbJ h) (qe7 _ _) λx=>by rw[qjx h,mem_srt,List.mem_range]
end SR
namespace RH
open PySem PySem.Spec PyProof.Rows L2 SR
section
noncomputable def eqT(us vs:List V):Bool:=(List.range us.length).all λj=>eqV (us.getD j .non) (vs.getD j .non)
theorem valsArr(r:qat us is)(h:j<is.toArray.size):RelV (us.getD j .non) is.toArray[j]:=by
 have hj:j<us.length:=by rw[r.length];simpa using h
 obtain⟨u,e,q⟩:=r.get (Vz hj);rw[List.getD_eq_getElem?_getD,List.getElem?_eq_getElem hj];have:is.toArray[j]=u:=by rw[List.getElem?_eq_getElem (by simpa using h)] at e;simpa using Option.some.inj e
 rw[this];exact q
end
end RH
namespace PL
open PySem L2
section kinds
open SeqAt
variable {A:Around}{s:Shared}{x:V}{u:Value}{l b:Addr}{is js:Array Value}
theorem eq_fl(r:RelV x u)(f:qgx x=true)(h:s.heap.IsList l is)(c:A.units<cLine):EqAt A s u (.ref l) false/\EqAt A s (.ref l) u false/\RcAt A s u (.ref l) false/\RcAt A s (.ref l) u false/\RcNeAt A s u (.ref l) true/\RcNeAt A s (.ref l) u true:=by
 cases x with
 |non=>cases r;exact⟨.none_list h c,.list_none h c,.none_list h c,.list_none h c,.none_list h c,.list_none h c⟩
 |bl k=>cases r;exact⟨.bool_list k h c,.list_bool k h c,.bool_list k h c,.list_bool k h c,.bool_list k h c,.list_bool k h c⟩
 |int k=>obtain⟨t,rfl⟩:=r;exact⟨.int_list k t h c,.list_int k t h c,.int_list k t h c,.list_int k t h c,.int_list k t h c,.list_int k t h c⟩
 |str k=>obtain⟨t,rfl⟩:=r;exact⟨.str_list k t h c,.list_str k t h c,.str_list k t h c,.list_str k t h c,.str_list k t h c,.list_str k t h c⟩
 |_=>cases f
theorem eq_ft(r:RelV x u)(f:qgx x=true)(h:s.heap.IsTuple l is)(c:A.units<cLine):EqAt A s u (.ref l) false/\EqAt A s (.ref l) u false/\RcAt A s u (.ref l) false/\RcAt A s (.ref l) u false/\RcNeAt A s u (.ref l) true/\RcNeAt A s (.ref l) u true:=by
 cases x with
 |non=>cases r;exact⟨.none_tuple h c,.tuple_none h c,.none_tuple h c,.tuple_none h c,.none_tuple h c,.tuple_none h c⟩
 |bl k=>cases r;exact⟨.bool_tuple k h c,.tuple_bool k h c,.bool_tuple k h c,.tuple_bool k h c,.bool_tuple k h c,.tuple_bool k h c⟩
 |int k=>obtain⟨t,rfl⟩:=r;exact⟨.int_tuple k t h c,.tuple_int k t h c,.int_tuple k t h c,.tuple_int k t h c,.int_tuple k t h c,.tuple_int k t h c⟩
 |str k=>obtain⟨t,rfl⟩:=r;exact⟨.str_tuple k t h c,.tuple_str k t h c,.str_tuple k t h c,.tuple_str k t h c,.str_tuple k t h c,.tuple_str k t h c⟩
 |_=>cases f
theorem rc_ff{y:V}{v:Value}(r:RelV x u)(f:qgx x=true)(r':RelV y v)(f':qgx y=true):RcAt A s u v (eqV x y)/\RcNeAt A s u v (!eqV x y):=by
 cases x with
 |non=>
  cases r;cases y with
  |non=>cases r';exact⟨.none_none,.none_none⟩
  |bl k=>cases r';exact⟨.none_bool k,.none_bool k⟩
  |int k=>obtain⟨t,rfl⟩:=r';exact⟨.none_int k t,.none_int k t⟩
  |str k=>obtain⟨t,rfl⟩:=r';exact⟨.none_str k t,.none_str k t⟩
  |_=>cases f'
 |bl i=>
  cases r;cases y with
  |non=>cases r';exact⟨.bool_none i,.bool_none i⟩
  |bl k=>cases r';exact⟨.bool_bool i k,.bool_bool i k⟩
  |int k=>obtain⟨t,rfl⟩:=r';exact⟨.bool_int i k t,.bool_int i k t⟩
  |str k=>obtain⟨t,rfl⟩:=r';exact⟨.bool_str i k t,.bool_str i k t⟩
  |_=>cases f'
 |int i=>
  obtain⟨t0,rfl⟩:=r;cases y with
  |non=>cases r';exact⟨.int_none i t0,.int_none i t0⟩
  |bl k=>cases r';exact⟨.int_bool i t0 k,.int_bool i t0 k⟩
  |int k=>obtain⟨t,rfl⟩:=r';exact⟨.int_int i t0 k t,.int_int i t0 k t⟩
  |str k=>obtain⟨t,rfl⟩:=r';exact⟨.int_str i t0 k t,.int_str i t0 k t⟩
  |_=>cases f'
 |str i=>
  obtain⟨t0,rfl⟩:=r;cases y with
  |non=>cases r';exact⟨.str_none i t0,.str_none i t0⟩
  |bl k=>cases r';exact⟨.str_bool i t0 k,.str_bool i t0 k⟩
  |int k=>obtain⟨t,rfl⟩:=r';exact⟨.str_int i t0 k t,.str_int i t0 k t⟩
  |str k=>obtain⟨t,rfl⟩:=r';exact⟨.str_str i t0 k t,.str_str i t0 k t⟩
  |_=>cases f'
 |_=>cases f
end kinds
end PL
namespace SetL
open PySem
noncomputable def Ri(xs:Array Nat):Prop:=xs.toList.Pairwise (· < ·)
noncomputable def qx5(t:SetTable):Prop:=Ri t.place/\t.dummies= #[]
inductive Way(w:World)(h:Heap)(a:Addr)(es:Array (Int×Value))(ep:Nat)(t:SetTable):List Addr->(Nat->Value)->List Value->Prop
 |drawn {tp:Addr} {ot:Obj} {pl:List Nat} {k:Nat}:h.get? tp=some ot->ot.data= .seq (List.toArray (pl.map λ(i:Nat)=>rawInt i)) k->(∀i∈pl,i<es.size)->Way w h a es ep t [tp] (λ_=>.ref tp) (pl.map λi=>(es.toList.map (·.2)).getD i .none)
 |text:w.params.followText "set-order" =true->Way w h a es ep t [] (λ_=>rawInt 0) ((pickOrder (w.params.setOrder a ep) es).toList.map (·.2))
 |small:w.params.followText "set-order" =false->(!t.plain&&decide (es.size>1))=false->t.led=true->qx5 t->Way w h a es ep t [] (λi=>if i=0 then rawInt 0 else rawInt (t.place.getD (i - 1) 0+1:Nat)) (es.toList.map (·.2))
section
variable {K:Type}[DecidableEq K]
noncomputable def mem(key:Nat->K)(i:Nat)(k:K):Bool:=(List.range i).any λj=>decide (k=key j)
noncomputable def cnt(key:Nat->K):Nat->Nat
 |0=>0
 |i+1=>if mem key i (key i)=true then cnt key i else cnt key i+1
end
end SetL
namespace SR
theorem qlA{α:Type}{P:List α->Prop}(h0:P [])(hs: ∀l a,P l->P (l++[a])): ∀l,P l:=by
 intro l;have: ∀r:List α,P r.reverse:=by
  intro r
  induction r with
  |nil=>exact h0
  |cons a r ih=>rw[List.reverse_cons];exact hs _ _ ih
 rw[<-List.reverse_reverse l];exact this _
section
variable {κ:Type}[DecidableEq κ]
abbrev T4(κ:Type):=Int×κ×Int×Int
noncomputable def hit(w:Int)(r a:T4 κ):Bool:=decide (r.1 - a.1<=w)&&(decide (a.2.2.2≠r.2.2.2)&&decide (a.2.1=r.2.1))
end
section
variable {κ:Type}[DecidableEq κ]
abbrev R3(κ:Type):=Int×κ×Int
noncomputable def un(t:T4 κ):R3 κ:=(t.1,t.2.1,t.2.2.1)
noncomputable def keyIs(k:κ):R3 κ->Bool:=λr=>decide (r.2.1=k)
end
theorem qfr{α:Type}{k k':α->Int}{r:α}(hr:k r=k' r): ∀l:List α,(∀x∈l,k x=k' x)->ins k r l=ins k' r l
 |[],_=>rfl
 |x::l,h=>by
  show(if k x<=k r then x::ins k r l else r::x::l)=(if k' x<=k' r then x::ins k' r l else r::x::l)
  rw[hr,h x List.mem_cons_self,qfr hr l λy hy=>h y (List.mem_cons_of_mem _ hy)]
theorem qe0{α:Type}{k k':α->Int}(l:List α):(∀x∈l,k x=k' x)->srt k l=srt k' l:=by refine qlA (P:=λl=>(∀x∈l,k x=k' x)->srt k l=srt k' l) (λ_=>rfl) (λl a ih h=> ?_) l;rw[qea,qea,ih λx hx=>h x (List.mem_append_left _ hx)];exact qfr (h a (Vt _ Vk)) _ λx hx=>h x (Vs _ ((mem_srt _).mp hx))
end SR
namespace RH
open PySem PySem.Spec PyProof.Rows L2 SR
noncomputable def ltS(x y:Str):Bool:=decide (x.cps.toList<y.cps.toList)
theorem qqN{x y:Str}(h:x.cps.toList=y.cps.toList):x=y:=by
 cases x;cases y
 congr 1
 exact Array.toList_inj.mp h
theorem ordS:Ord ltS where
 irr:=λa=>Vx (List.lt_irrefl _)
 tr:=λa b c h1 h2=>Vw (List.lt_trans (of_decide_eq_true h1) (of_decide_eq_true h2))
 tot:=λa b h1 h2=>qqN (List.le_antisymm (List.not_lt.mp (of_decide_eq_false h2)) (List.not_lt.mp (of_decide_eq_false h1)))
end RH
namespace SetL
section
variable {α:Type}[DecidableEq α]
noncomputable def dd:List α->List α
 |[]=>[]
 |x::xs=>if x∈dd xs then dd xs else x::dd xs
noncomputable def dl(key:Nat->α):Nat->List α
 |0=>[]
 |i+1=>if mem key i (key i)=true then dl key i else dl key i++[key i]
end
open PySem PySem.W PySem.Calls PyProof.Rows SR
structure Kd(prog:Program)(w:World)(α:Type)[DecidableEq α] where
 knd:PySem.KeyKind prog w α
 up:α->L2.V
 d:α
 of:Value->α
 lt:α->α->Bool
 ord:Ord lt
 isv: ∀x u,L2.RelV (up x) u->knd.is x u=true/\u.scannable=true
 vis: ∀x u,knd.is x u=true->L2.RelV (up x) u
 ofv: ∀x u,L2.RelV (up x) u->of u=x
 kind: ∀v1 v2 vs,(∀v∈v1::v2::vs,∃x,L2.RelV (up x) v)->keyKind' (v1::v2::vs).toArray=pure oneType'
 lts: ∀{A:Around} {E:Value->Shared->Prop} {s:Shared} {Q:Bool->Shared->Prop} (x y:α) (u v:Value),L2.RelV (up x) u->L2.RelV (up y) v->Q (lt x y) s->wpAny (model prog w) A (keyLt' oneType' u v) Q E s
end SetL
namespace SetL
open PySem L2 SR
theorem boot_sorted:bootBuiltins "sorted" =some (.builtin "sorted"):=by decide+kernel
end SetL
namespace PL
open PySem L2 SR SetL
inductive Ky where
 |i (n:Int)|s (x:Str)
 deriving DecidableEq
noncomputable def ql7:Ky->Ky->Bool
 |.i a,.i b=>decide (a<b)
 |.i _,.s _=>true
 |.s _,.i _=>false
 |.s a,.s b=>RH.ltS a b
theorem qo4:Ord ql7 where
 irr:=λa=>by
  cases a with
  |i n=>exact Vx (Int.lt_irrefl n)
  |s x=>exact RH.ordS.irr x
 tr:=λa b c h1 h2=>match a,b,c,h1,h2 with
  |.i _,.i _,.i _,h1,h2=>Vw (Int.lt_trans (of_decide_eq_true h1) (of_decide_eq_true h2))
  |.i _,.i _,.s _,_,_=>rfl
  |.i _,.s _,.i _,_,h2=>nomatch h2
  |.i _,.s _,.s _,_,_=>rfl
  |.s _,.i _,_,h1,_=>nomatch h1
  |.s _,.s _,.i _,_,h2=>nomatch h2
  |.s _,.s _,.s _,h1,h2=>RH.ordS.tr _ _ _ h1 h2
 tot:=λa b h1 h2=>match a,b,h1,h2 with
  |.i x,.i y,h1,h2=>by
   have e1: ¬x<y:=of_decide_eq_false h1;have e2: ¬y<x:=of_decide_eq_false h2
   congr 1;lia
  |.i _,.s _,h1,_=>nomatch h1
  |.s _,.i _,_,h2=>nomatch h2
  |.s x,.s y,h1,h2=>congrArg Ky.s (RH.ordS.tot x y h1 h2)
noncomputable def ltKs:List Ky->List Ky->Bool
 |[],[]=>false
 |[],_::_=>true
 |_::_,[]=>false
 |a::as,b::bs=>if a=b then ltKs as bs else ql7 a b
theorem qhn: ∀a,ltKs a a=false
 |[]=>rfl
 |a::as=>by show(if a=a then ltKs as as else ql7 a a)=false;rw[if_pos rfl];exact qhn as
theorem qjI: ∀a b c,ltKs a b=true->ltKs b c=true->ltKs a c=true
 |[],[],_,h,_=>by cases h
 |[],_::_,[],_,h=>by cases h
 |[],_::_,_::_,_,_=>rfl
 |_::_,[],_,h,_=>by cases h
 |_::_,_::_,[],_,h=>by cases h
 |a::as,b::bs,c::cs,h1,h2=>by
  have bJ:(if a=b then ltKs as bs else ql7 a b)=true:=h1;have aY:(if b=c then ltKs bs cs else ql7 b c)=true:=h2;show(if a=c then ltKs as cs else ql7 a c)=true;by_cases e1:a=b
  ·subst e1;rw[if_pos rfl] at bJ;by_cases e2:a=c
   ·rw[if_pos e2] at aY⊢;exact qjI as bs cs bJ aY
   ·rw[if_neg e2] at aY⊢;exact aY
  ·rw[if_neg e1] at bJ;by_cases e2:b=c
   ·subst e2;rw[if_neg e1];exact bJ
   ·rw[if_neg e2] at aY;have t:=qo4.tr _ _ _ bJ aY;by_cases e3:a=c
    ·subst e3;rw[qo4.irr] at t;cases t
    ·rw[if_neg e3];exact t
theorem qhm: ∀a b,ltKs a b=false->ltKs b a=false->a=b
 |[],[],_,_=>rfl
 |[],_::_,h,_=>by cases h
 |_::_,[],_,h=>by cases h
 |a::as,b::bs,h1,h2=>by
  have bJ:(if a=b then ltKs as bs else ql7 a b)=false:=h1;have aY:(if b=a then ltKs bs as else ql7 b a)=false:=h2;by_cases e:a=b
  ·subst e;rw[if_pos rfl] at bJ aY;rw[qhm as bs bJ aY]
  ·rw[if_neg e] at bJ;rw[if_neg (Ne.symm e)] at aY;exact absurd (qo4.tot _ _ bJ aY) e
theorem ordKs:Ord ltKs:=⟨qhn,qjI,qhm⟩
noncomputable def okShape:List Nat->Bool
 |[0]=>true
 |[1]=>true
 |2::x::r=>(x::r).all λn=>n==0||n==1
 |_=>false
noncomputable def sortBy{α:Type}(f:α->List Ky)(ts:List α):List α:=srt (λt=>rank ltKs (ts.map f) (f t)) ts
section
open PySem.W PyProof.Rows
noncomputable def kyV:Ky->V
 |.i n=>.int n
 |.s x=>.str x
noncomputable def shK:Ky->Nat
 |.i _=>0
 |.s _=>1
theorem quY: ∀(as bs:List Ky) (us vs:List Value) (i:Nat),qat (as.map kyV) us->qat (bs.map kyV) vs->as.map shK=bs.map shK->C (ltKs as bs) s->KatLex prog w A true false C (us.zip vs) i s
 |[],[],_,_,i,.nil,.nil,_,h=>kat_nil h
 |[],_::_,_,_,_,_,_,hs,_=>by cases hs
 |_::_,[],_,_,_,_,_,hs,_=>by cases hs
 |a::as,b::bs,_,_,i,.cons (l₂:=us) ra rs,.cons (l₂:=vs) rb rt,hs,h=>by
  have iK:shK a=shK b:=(List.cons.inj hs).1;have bG:as.map shK=bs.map shK:=(List.cons.inj hs).2;have h':C (if a=b then ltKs as bs else ql7 a b) s:=h;have go: ∀{p q:Value} {rr:List (Value×Value)} {e:Bool},MeetsSeq.EqGives p q e->(e=true->KatLex prog w A true false C rr (i+1) s)->(e=false->wpAny (model prog w) A (oneLt' (true&&i==0) p q) C (λ_ _=>False) s)->KatLex prog w A true false C ((p,q)::rr) i s:=λ{p q rr e} he h1 h2=>by
   refine kat_cons (he prog w A _ s _ ?_);cases e with
   |true=>exact kat_yes (h1 rfl)
   |false=>exact kat_no (h2 rfl)
  cases a with
  |i x=>
   cases b with
   |i y=>
    obtain⟨t1,rfl⟩:=ra;obtain⟨t2,rfl⟩:=rb;refine go (MeetsSeq.EqGives.int _ _ _ _) (λe=> ?_) (λe=> ?_)
    ·have e':=eq_of_beq e;rw[if_pos (by rw[e'])] at h';exact quY as bs us vs (i+1) rs rt bG h'
    ·have e': ¬Ky.i x=Ky.i y:=λz=>by cases z;rw[beq_self_eq_true] at e;cases e
     rw[if_neg e'] at h';cases z:(i==0) with
     |true=>exact oneLt_int h'
     |false=>exact kat_one _ _ (lt_int (show W.BoolBack C (.bool _) s from h'))
   |s y=>cases iK
  |s x=>
   cases b with
   |i y=>cases iK
   |s y=>
    obtain⟨t1,rfl⟩:=ra;obtain⟨t2,rfl⟩:=rb;have es:MeetsSeq.EqGives (.str x t1) (.str y t2) (decide (x=y)):=λ_ _ _ _ _ _ hq=>wpAny_eqBool_str hq;refine go es (λe=> ?_) (λe=> ?_)
    ·have e':=of_decide_eq_true e;rw[if_pos (by rw[e'])] at h';exact quY as bs us vs (i+1) rs rt bG h'
    ·have e': ¬Ky.s x=Ky.s y:=λz=>by cases z;simp at e
     rw[if_neg e'] at h';cases z:(i==0) with
     |true=>exact oneLt_str h'
     |false=>exact kat_one _ _ (P.lt_str (show W.BoolBack C (.bool _) s from h'))
end
theorem okShape_cases(h:okShape s0=true):s0=[0]\/s0=[1]\/∃x r,s0=2::x::r/\(x::r).all (λn=>n==0||n==1)=true:=by
 unfold okShape at h;split at h
 ·exact .inl rfl
 ·exact .inr (.inl rfl)
 ·exact .inr (.inr ⟨_,_,rfl,h⟩)
 ·cases h
open PySem.W PyProof.Rows in
theorem kind_strs(its:List Value)(h2:2<=its.length)(hv: ∀v∈its,∃x t,v= .str x t)(hq:Q oneType' s):wpAny (model prog w) A (keyKind' its.toArray) Q E s:=
 match its,h2,hv with
 |v1::v2::cj,_,hv=>by rw[keyKind_strs (strsAre_map _ hv)];exact Vb hq
theorem qdL{h:Heap}{P:Value->Prop}: ∀(l:List Value),(∀v∈l,∃f,(∃a o xs n,v= .ref a/\h.get? a=some o/\o.cls= .type "tuple" /\o.data= .seq xs n/\xs[0]? =some f)/\P f)->∃fs,W.KatTups h l fs/\fs.length=l.length/\∀f∈fs,P f
 |[],_=>⟨[],trivial,rfl,λ_ hf=>nomatch hf⟩
 |v::l,hl=>by
  obtain⟨f,h1,h2⟩:=hl v Vk;obtain⟨fs,h3,h4,h5⟩:=qdL l λu hu=>hl u (Vl _ hu);refine⟨f::fs,⟨h1,h3⟩,by simp[h4],λg hg=> ?_⟩
  rcases List.mem_cons.mp hg with rfl|hg
  ·exact h2
  ·exact h5 g hg
end PL
namespace PL
open PySem L2 SR SetL
theorem hu8(r:qbu k A):A.units+8<cLine:=by have:=r.units;lia
abbrev Row:=Int×Str×Int
noncomputable def keyOk(x:Str):Prop:=(1<=x.length/\x.length<=2)/\∀c∈x.cps.toList,97<=c/\c<=122
noncomputable def rowOk(r:Row):Prop:=(0<=r.1/\r.1<=99)/\keyOk r.2.1/\ -99<=r.2.2/\r.2.2<=99
end PL
namespace PL
open PySem L2
end PL
namespace St
open PySem PySem.W PySem.Calls PyProof.Rows
end St
namespace L2
open PySem PySem.Spec PyProof.Rows
structure qwX(x:Str)(v:Value)(env:Env)(h:Heap):Prop where
 kind:env.scope.kind= .function
 loc:env.kindOf x=some .local
 ns: ∃m,h.Ns env.locals m/\m x=some v
end L2
namespace PL
open PySem L2 SR SetL
section
open PySem.W PyProof.Rows
noncomputable def KeyTup(h:Heap)(kl:List Ky)(v:Value):Prop:= ∃p its,v= .ref p/\IsTup h p (List.toArray its)/\qat (kl.map kyV) its
theorem kind_tups(its:List Value)(hx:x=0\/x=1)(h2:2<=its.length)(hk: ∀v∈its,∃kl,KeyTup s.heap kl v/\kl.map shK=x::r)(hq:Q (tuples' true) s):wpAny (model prog w) A (keyKind' its.toArray) Q E s:=by
 have fst: ∀v∈its,∃f,(∃a o xs n,v= .ref a/\s.heap.get? a=some o/\o.cls= .type "tuple" /\o.data= .seq xs n/\xs[0]? =some f)/\((x=0/\∃i t,f=Value.int i t)\/(x=1/\∃i t,f=Value.str i t)):=λv hv=>by
  obtain⟨kl,⟨p,w1,g1,i1,v1⟩,k1⟩:=hk v hv;obtain⟨o1,e1,c1,n1,d1⟩:=i1;cases kl with
  |nil=>cases k1
  |cons ky kr=>
   cases v1 with
   |cons r0 rr=>
    have ks:shK ky=x:=(List.cons.inj k1).1;cases ky with
    |i n=>obtain⟨tk,rfl⟩:=r0;exact⟨_,⟨p,o1,_,n1,g1,e1,c1,d1,rfl⟩,.inl ⟨ks.symm,n,tk,rfl⟩⟩
    |s n=>obtain⟨tk,rfl⟩:=r0;exact⟨_,⟨p,o1,_,n1,g1,e1,c1,d1,rfl⟩,.inr ⟨ks.symm,n,tk,rfl⟩⟩
 obtain⟨fs,k1,k2,k3⟩:=qdL its fst
 rcases hx with rfl|rfl
 ·refine W.kat_kind k1 (by lia) (T:=.type "int") (λv hv=> ?_) (by decide) ?_
  ·rcases k3 v hv with⟨_,i,t,rfl⟩|⟨z,_⟩
   ·exact W.Looks.of_pure rfl
   ·cases z
  ·exact hq
 ·refine W.kat_kind k1 (by lia) (T:=.type "str") (λv hv=> ?_) (by decide) ?_
  ·rcases k3 v hv with⟨z,_⟩|⟨_,i,t,rfl⟩
   ·cases z
   ·exact W.Looks.of_pure rfl
  ·exact hq
theorem lt_tups(h1:KeyTup s.heap a u)(h2:KeyTup s.heap b v)(hs:a.map shK=b.map shK)(hc:C (ltKs a b) s):wpAny (model prog w) A (keyLt' (tuples' true) u v) C (λ_ _=>False) s:=by
 obtain⟨p1,w1,rfl,i1,v1⟩:=h1;obtain⟨p2,w2,rfl,i2,v2⟩:=h2;obtain⟨o1,e1,_,n1,d1⟩:=i1;obtain⟨o2,e2,_,n2,d2⟩:=i2;refine kat_lt e1 d1 e2 d2 ?_;have hl:w1.length=w2.length:=by have h1:=v1.length;have h2:=v2.length;have h3:=congrArg List.length hs;simp only[List.length_map] at h1 h2 h3;lia
 rw[show decide ((List.toArray w1).size<(List.toArray w2).size)=false by simp[hl]];exact quY _ _ _ _ 0 v1 v2 hs hc
end
theorem boot_sum':bootBuiltins "sum" =some (.builtin "sum"):=by decide+kernel
noncomputable def qtW(i j k:Nat)(ta:TA):TS:=λD σ H=>ta σ H λvs H1=> ∃u v w,vs=[u,v,w]/\D.nx (((σ.set i (some u)).set j (some v)).set k (some w)) H1
section
open PySem.Spec PyProof.Rows in
theorem ps_par3 (hc:X.calm=true) (hN:X.N.Nodup) (hi:X.N[i]? =some x) (hj:X.N[j]? =some y) (hk:X.N[k]? =some z) (aI:i≠j) (hik:i≠k) (hjk:j≠k) (hx:X.env.scope.names.lookup x=some .local) (hy:X.env.scope.names.lookup y=some .local) (hz:X.env.scope.names.lookup z=some .local) (ha:PA X [a,b,c] ta) (hw:swappedStores [.Tuple [.Name x px,.Name y py,.Name z pz] kt pt] (.Tuple [a,b,c] k2 pt2) X.env=pure (some [x,y,z])) (hs:swapsWithSole [.Tuple [.Name x px,.Name y py,.Name z pz] kt pt] (.Tuple [a,b,c] k2 pt2) pos.line X.env=pure false:=by rfl):
  PS X (.Assign [.Tuple [.Name x px,.Name y py,.Name z pz] kt pt] (.Tuple [a,b,c] k2 pt2) pos) (qtW i j k ta):=by
 intro pins s σ H D I h;rw[exec_Assign_arm];refine Va (wpAny_standAt ?_);rw[hs];refine Va (Vb ?_);rw[if_neg (by decide)];refine Va (Tuple_ (thn (ha _ pins s σ H _ I h) λus s1 ⟨vs,H1,I1,r1,q1⟩=> ?_));obtain⟨v,w,t,e1,q1⟩:=q1;subst e1;obtain⟨u1,u2,u3,rfl,rv,ar,rt⟩: ∃u1 u2 u3,us=[u1,u2,u3]/\RelV v u1/\RelV w u2/\RelV t u3:=by
  cases r1 with
  |cons p q=>
   cases q with
   |cons p' q'=>
    cases q' with
    |cons p'' q''=>cases q'';exact⟨_,_,_,rfl,p,p',p''⟩
 refine wpAny_newObj_type ?_ (by show 3<=sizeLine;decide);have I2:Inv X pins σ H1 { s1 with heap:=s1.heap.push { cls:=.type "tuple",data:=.seq [u1,u2,u3].toArray } }:=I1.kept (t':=s1.toks) λb o e=>Vg _ e;rw[hw];refine Va (Vb ?_);show wpAny (model X.prog X.w) X.A (do rule "assign.swapped-stores";let items <-unpackItems (.ref s1.heap.objs.size) 3 none;assignInOrder [λv=>bindName X.env z v,λv=>bindName X.env y v,λv=>bindName X.env x v] items.reverse;pure Flow.next) _ _ _;refine Va (wpAny_rule (Va (unpackItems_tuple (items:= #[u1,u2,u3]) (I.ok.hd hc) (IsTup.new s1.heap _) λh' b7=> ?_)));have I3:=I2.kept (h':=h') (t':=s1.toks) λb o e=>b7 b o (Vo (Vi e)) e;show wpAny _ _ (assignInOrder [λv=>bindName X.env z v,λv=>bindName X.env y v,λv=>bindName X.env x v] [u3,u2,u1]>>=λ_=>pure Flow.next) _ _ _;refine Va (assignInOrder_cons (wpAny_bindName (qbe I3 hN hk (.inl hz) rt (λs2 I4=> ?_) (.inr hz))));refine assignInOrder_cons (wpAny_bindName (qbe I4 hN hj (.inl hy) ar (λs3 I5=> ?_) (.inr hy)));refine assignInOrder_cons (wpAny_bindName (qbe I5 hN hi (.inl hx) rv (λs4 I6=>assignInOrder_nil (Vb ?_)) (.inr hx)));have e:((σ.set k (some t)).set j (some w)).set i (some v)=((σ.set i (some v)).set j (some w)).set k (some t):=by rw[List.set_comm _ _ (Ne.symm aI),List.set_comm _ _ (Ne.symm hik),List.set_comm _ _ (Ne.symm hjk)]
 rw[e] at I6;exact⟨_,H1,I6,q1⟩
end
end PL
namespace St
open PySem PySem.W PySem.Calls PyProof.Rows
end St
namespace PL
open PySem L2 SR SetL
end PL
namespace L2
open PySem PySem.Spec PyProof.Rows
noncomputable def qhO(Ts:List Addr)(H:Hp):Prop:=(∀T∈Ts,H T=some (.tbl #[]))/\∀b,b∉Ts->H b=none\/∃o xs,H b=some (.frz o (.lst xs))
theorem qij {K:W.Frag} {k:Nat} {aA:List (Addr×Addr)} {ae:Shared} {vs:List Value} {ns:List Int} (KX:K.In ae.heap) (fB:ae.heap.Ns mainGlobals mg) (hb:ae.heap.Ns builtinsNs mb) (hbb: ∀x:Str,x≠ "__name__" ->mb x=bootBuiltins x) (gC:ae.heap.NoLimit) (hg:ae.gens= #[]) (ha:ae.heap.get? a=some { cls:=.type "list",data:=.seq vs.toArray }) (hi:IntsAre vs ns) (hl:ns.length<=sizeLine) (hr:qbu k callerA) (hC: ∀p∈aA,W.CodeHd ae.heap p.1 p.2) (hT: ∀T∈aA.map (·.2),ae.heap.get? T=some (W.tabObj #[])) (hKT: ∀T∈aA.map (·.2),K.lookup T=none) (gR:qfY mg ae.heap) (F: ∀base:Heap,K.In base->base.Ns mainGlobals mg->(∀p∈aA,W.CodeHd base p.1 p.2)->qfY mg base->qcL P w K mg base CX k fa fd [x] sp) (eW: ∀(s:Shared) (u:Value),BindsTo s fd ⟨[u],[]⟩ [(x,u)]) (dy: ∀H:Hp,qhO (aA.map (·.2)) H->SqL K H a (ns.map V.int)->sp [.ref a] H (λv _=>v= .bl true) λ_ _ _=>False) (g7: ∀H e s',CX [] H ae (λ_ _ _=>False) e s'->False):
  codeAny (model P w) callerA (.call (.ref fa) ⟨[.ref a],[]⟩) (λr s'=>r= .ok (.ret (.bool true))/\OldK ae.heap s'.heap/\s'.os=ae.os/\AllBare s'.gens) ae:=by
 have rv:=qeR hi;have fU:=hi.length
 have core: ∀H:Hp,qhO (aA.map (·.2)) H->SqL K H a (ns.map V.int)->HOk P w H ae.heap->(∀b,H b≠none->b=a\/b∈aA.map (·.2))->(H a≠none->K.lookup a=none)->
   codeAny (model P w) callerA (.call (.ref fa) ⟨[.ref a],[]⟩) (λr s'=>r= .ok (.ret (.bool true))/\OldK ae.heap s'.heap/\s'.os=ae.os/\AllBare s'.gens) ae:=by
  intro H hO hS hok hA hK;have aF: ∀{b:Addr} {o:Obj},ae.heap.get? b=some o->H b=none->(qj0 ae.heap H).get? b=some o:=λe n=>qmk e n;have other: ∀{b:Addr} {o:Obj},ae.heap.get? b=some o->(∀xs n,o.data≠.seq xs n)->(o.cls≠.none)->H b=none:=λ{b o} e d d2=>by
   cases q:H b with
   |none=>rfl
   |some u=>
    rcases hA b (by rw[q];simp) with z|z
    ·subst z;rw[ha] at e;cases e;exact absurd rfl (d _ _)
    ·rw[hT b z] at e;cases e;exact absurd rfl d2
  have dZ: ∀{b:Addr} {o:Obj} {es:Array DictEntry} {ep:Nat},ae.heap.get? b=some o->o.data= .dict es ep->H b=none:=λ{b o es ep} e d=>by
   cases q:H b with
   |none=>rfl
   |some u=>
    rcases hA b (by rw[q];simp) with z|z
    ·subst z;rw[ha] at e;cases e;have d':Data.seq vs.toArray _=Data.dict es ep:=d;cases d'
    ·rw[hT b z] at e;cases e;have d':Data.fields _=Data.dict es ep:=d;cases d'
  have fm: ∀{b:Addr} {m:Str->Option Value},ae.heap.Ns b m->(qj0 ae.heap H).Ns b m:=λ{b m} ⟨o,es,ep,e,d,r⟩=>⟨o,es,ep,aF e (dZ e d),d,r⟩
  have iU:K.In (qj0 ae.heap H):=λb o e=>aF (KX b o e) (by
   cases q:H b with
   |none=>rfl
   |some u=>
    rcases hA b (by rw[q];simp) with z|z
    ·subst z;rw[hK (by rw[q];simp)] at e;cases e
    ·rw[hKT b z] at e;cases e)
  have hM:Mod K mg (qj0 ae.heap H):=⟨iU,fm fB,⟨mb,fm hb,hbb⟩,let ⟨mc,h1,h2⟩:=gC;⟨mc,fm h1,h2⟩⟩
  have hCb: ∀p∈aA,W.CodeHd (qj0 ae.heap H) p.1 p.2:=λp hp=>by obtain⟨o,cj,file,tf,flags,tg,inF,text,tt,e1,e2,e3,r⟩:=hC p hp;exact⟨o,cj,file,tf,flags,tg,inF,text,tt,aF e1 (other e1 (λxs n z=>by rw[e3] at z;cases z) (λz=>by rw[e2] at z;cases z)),e2,e3,r⟩
  have hBb:qfY mg (qj0 ae.heap H):=by obtain⟨bm,ob,b1,b2,b3,b4,b5,b6⟩:=gR;exact⟨bm,ob,b1,b2,aF b3 (other b3 (λxs n z=>by rw[b6] at z;cases z) (λz=>by rw[b4] at z;cases z)),b4,b5,b6⟩
  have e0:qn7 P w K mg (qj0 ae.heap H) callerA [] ae H:=⟨rfl,hM,λb o e=>qpf e,Nat.le_of_eq (qjZ _ _),trivial,λb hb=>absurd (show b∈([]:List Addr) from hb) (by simp),hok,.of_eq hg⟩
  refine codeAny_mono ((F _ iU (fm fB) hCb hBb).run callerA [] ae H ⟨[.ref a],[]⟩ [.ref a] [.ref a] _ _ hr e0 (eW ae (.ref a)) (.cons rfl .nil) (dy H hO hS)) λr s' h=> ?_;cases r with
  |error e=>exact(g7 H e s' h).elim
  |ok fl=>
   cases fl with
   |next|brk|cont=>exact False.elim h
   |ret u=>
    obtain⟨v,H',os,bare,un,eI,r',q⟩:=h;have q':v= .bl true:=q;subst q';obtain rfl:u=Value.bool true:=r';have old: ∀b o,b∉aA.map (·.2)->ae.heap.get? b=some o->s'.heap.get? b=some o:=λb o bI e=>by
     cases q:H b with
     |none=>exact un.keep b o e q (by intro z;exact absurd (show b∈([]:List Addr) from z) (by simp)) (by simp)
     |some u=>
      rcases hO.2 b bI with z|⟨ob,xs,z⟩
      ·rw[q] at z;cases z
      ·have z2:=un.frzs b ob _ z;obtain⟨e1,_⟩:=hok b _ z;obtain⟨e2,_⟩:=eI b _ z2;rw[e] at e1;cases e1;exact e2
    have tb: ∀T∈aA.map (·.2),∃more,s'.heap.get? T=some (W.tabObj (#[]++more)):=λT df=>by obtain⟨more,hT'⟩:=un.tbls T _ (hO.1 T df);exact⟨more,eI T _ hT'⟩
    refine⟨rfl,⟨λb o e=> ?_,λb o e=> ?_⟩,os,bare⟩
    ·by_cases z:b∈aA.map (·.2)
     ·obtain⟨more,gX⟩:=tb b z;rw[hT b z] at e;cases e;obtain⟨p,hp,rfl⟩:=List.mem_map.mp z;exact .inr (.inl ⟨((hC p hp).tab (hT _ z)).isCodeTable,rfl, #[],more,rfl,gX⟩)
     ·exact .inl (old b o z e)
    ·by_cases z:b∈aA.map (·.2)
     ·obtain⟨more,gX⟩:=tb b z;exact⟨_,gX⟩
     ·exact⟨o,old b o z e⟩
 have aT:a∉aA.map (·.2):=λz=>by rw[hT a z] at ha;cases ha
 cases hk:K.lookup a with
 |some o=>
  have e:=KX a o hk;rw[ha] at e;cases e;refine core (λb=>if b∈aA.map (·.2) then some (.tbl #[]) else none) ⟨λT df=>if_pos df,λb hb=>.inl (if_neg hb)⟩ (.inr ⟨_,vs.toArray,_,hk,rfl,rfl,rfl,by rw[List.size_toArray,fU];exact hl,by simpa using rv⟩) (λb u z=> ?_) (λb z=> ?_) λz=>absurd (if_neg aT) z
  ·by_cases hb:b∈aA.map (·.2)
   ·have z':=(if_pos hb).symm.trans z;cases z';exact hT b hb
   ·have z':=(if_neg hb).symm.trans z;cases z'
  ·by_cases hb:b∈aA.map (·.2)
   ·exact .inr hb
   ·exact absurd (if_neg hb) z
 |none=>
  refine core (λb=>if b∈aA.map (·.2) then some (.tbl #[]) else if b=a then some (.frz { cls:=.type "list",data:=.seq vs.toArray } (.lst (ns.map V.int))) else none) ⟨λT df=>if_pos df,λb bI=> ?_⟩ (.inl (.inr ⟨{ cls:=.type "list",data:=.seq vs.toArray },(if_neg aT).trans (if_pos rfl)⟩)) (λb u z=> ?_) (λb z=> ?_) λ_=>hk
  ·by_cases hb:b=a
   ·exact .inr ⟨_,_,(if_neg bI).trans (if_pos hb)⟩
   ·exact .inl ((if_neg bI).trans (if_neg hb))
  ·by_cases bI:b∈aA.map (·.2)
   ·have z':=(if_pos bI).symm.trans z;cases z';exact hT b bI
   ·by_cases hb:b=a
    ·have z':=((if_neg bI).trans (if_pos hb)).symm.trans z;cases z';subst hb;exact⟨ha,by rw[List.length_map];exact hl,vs,_,rv,ha⟩
    ·have z':=((if_neg bI).trans (if_neg hb)).symm.trans z;cases z'
  ·by_cases bI:b∈aA.map (·.2)
   ·exact .inr bI
   ·by_cases hb:b=a
    ·exact .inl hb
    ·exact absurd ((if_neg bI).trans (if_neg hb)) z
theorem walk_ofTs {l:W.OpenLaw} {n k:Nat} {q:Program} {loose:List Str} {XP:(Str->Option Value)->Heap->Prop} {YP:World->Heap->Prop} {d:DefRec} {K:Params->W.Frag} {CX:World->CXT} {sp:World->List (Addr×Addr)->Sp} {x:Str} {ys:List Str} (hn:l.most=some n) (eJ:n<=sizeLine) (eR:d.params.defaults=[]) (hr:qbu k callerA) (hY: ∀(w:World) (h:Heap),YP w h->(K w.params).In h) (cT: ∀y∈ys,∃dx,(recsOf q).find? (λe=>e.name==y)=some dx) (F: ∀(w:World) (mg:Str->Option Value) (fa:Addr) (h:Heap),(K w.params).In h->h.Ns mainGlobals mg->mg d.name=some (.ref fa)->
   ∃(fd:FuncData) (aA:List (Addr×Addr)),ys.map (W.tabIn (K w.params))=aA.map some/\(∀T∈aA.map (·.2),(K w.params).lookup T=none)/\(∀(s:Shared) (u:Value),BindsTo s fd ⟨[u],[]⟩ [(x,u)])/\
    (∀base:Heap,(K w.params).In base->base.Ns mainGlobals mg->(∀p∈aA,W.CodeHd base p.1 p.2)->qfY mg base->qcL l.prog w (K w.params) mg base (CX w) k fa fd [x] (sp w aA))) (dy: ∀(w:World) (aA:List (Addr×Addr)) (H:Hp) (a:Addr) (ns:List Int),ns.length<=n->qhO (aA.map (·.2)) H->SqL (K w.params) H a (ns.map V.int)->sp w aA [.ref a] H (λv _=>v= .bl true) λ_ _ _=>False) (g7: ∀(w:World) (H:Hp) (s:Shared) (e:Value) (s':Shared),CX w [] H s (λ_ _ _=>False) e s'->False):
  W.WalkO q loose XP YP l.row.toRowW d [] (λf vs=>PySem.call f vs):=by
 refine Att.attach_call hn eR λw s₀ ae mg mb fa o pm cd doc a vs ns G Y ho hd ba gv cV hints hlen hg=> ?_;have KX:=hY w _ Y;obtain⟨fd,aA,ht,hkt,hb,hF⟩:=F w mg fa _ KX G.T.g gv;have each: ∀p∈aA,W.CodeHd ae.heap p.1 p.2/\ae.heap.get? p.2=some (W.tabObj #[]):=λp hp=>by
  have hm:some p∈ys.map (W.tabIn (K w.params)):=by rw[ht];exact List.mem_map.mpr ⟨p,hp,rfl⟩
  obtain⟨y,hy,ey⟩:=List.mem_map.mp hm;obtain⟨dx,fF⟩:=cT y hy;exact W.tab_of G.T KX fF ey
 have hC:=λp hp=>(each p hp).1;have hT: ∀T∈aA.map (·.2),ae.heap.get? T=some (W.tabObj #[]):=λT df=>by obtain⟨p,hp,rfl⟩:=List.mem_map.mp df;exact(each p hp).2
 exact qij KX G.T.g G.T.b G.T.builtins G.T.nolimit hg cV hints (Vq hlen eJ) hr hC hT hkt G.T.bmain hF hb (λH hO hS=>dy w aA H a ns hlen hO hS) λH e s'=>g7 w H ae e s'
end L2
namespace PL
open PySem L2 SR SetL
theorem nodup_fst: ∀{l:List (Addr×β)},(l.map (·.1)).Nodup->∀{a b:Addr×β},a∈l->b∈l->a.1=b.1->a=b
 |[],_,_,_,h,_,_=>by cases h
 |x::l,nd,a,b,ha,hb,e=>by
  rw[List.map_cons,List.nodup_cons] at nd
  rcases List.mem_cons.mp ha with rfl|iT
  ·rcases List.mem_cons.mp hb with rfl|bB
   ·rfl
   ·exact absurd (by rw[e];exact List.mem_map.mpr ⟨b,bB,rfl⟩) nd.1
  ·rcases List.mem_cons.mp hb with rfl|bB
   ·exact absurd (by rw[<-e];exact List.mem_map.mpr ⟨a,iT,rfl⟩) nd.1
   ·exact nodup_fst nd.2 iT bB e
end PL
namespace L2
open PySem PySem.Spec PySem.Calls PyProof.Rows
noncomputable def qk4(P:Addr)(qual:Str)(H:Hp):Prop:=
 ∃ps,H P=some (.tbl ps)/\PySem.TriplesOk ps.toList/\∀pos v,PySem.codeAmong pos ps.toList=some v->∃c,v= .ref c/\H c=some (qvS c qual)
structure qv3(k:Nat)(A:Around):Prop where
 dp:A.depth+3*k+5<recursionLimit
 un:A.units+16*k+200<cLine
structure FnN(P:Program)(w:World)(K:W.Frag)(mg:Str->Option Value)(base:Heap)(k:Nat)(f:Addr)(fd:FuncData)(ps:List Str)(sp:List V->Hp->VK->Prop):Prop where
 len: ∀vs H Q,sp vs H Q->vs.length=ps.length
 run: ∀(A:Around) (outer:List Env) (s:Shared) (H:Hp) (args:Args) (us:List Value) (vs:List V) (Q:VK),qv3 k A->qn7 P w K mg base A outer s H->BindsTo s fd args (ps.zip us)->qat vs us->sp vs H Q->
  codeAny (model P w) A (.call (.ref f) args) (CR CX0 outer P w H s Q (λ_ _ _=>False)) s
noncomputable def qt4(base:Heap)(wd:Addr->Option Str):List V->Hp->VK->Prop:=λvs H Q=> ∃a C bm x,vs=[.ref a]/\H a=some (ExO a C)/\qiG base C bm/\wd C=some x/\∀H':Hp,(∀b o,H b=some o->H' b=some o)->Q (.str x) H'
structure qtr(st:Stmt):Prop where
 sc:qdt ["_law_deed", "e"] ["_law_deed"] (qae st)
 bd: ∃p1 p2 p3 p4 p5 p6 p7 p8 p9 p10,qay st=[.Try [.Return (some (.Call (.Name "_law_deed" p1) [] [] p2)) p3] [.ExceptHandler (some (.Name "AskError" p4)) (some "e") [.Return (some (.Call (.Name "_law_class" p5) [.Name "e" p6] [] p7)) p8] p9] [] [] p10]
 d:(qae st).names.lookup ("_law_deed" :Str)=some .local
 e:(qae st).names.lookup ("e" :Str)=some .local
 a:(qae st).names.lookup ("AskError" :Str)=some .globalImplicit
 c:(qae st).names.lookup ("_law_class" :Str)=some .globalImplicit
end L2
namespace PL
open PySem L2 SR SetL
theorem passI:qaJ (CXE P w) (qhu (CXE P w) P w K mg base N qual scope f cd A outer s H E) E:=quC λ_ _ h=>h
section
theorem tabq_same(h:qk4 Q qual H)(hP:H P=some (.tbl ps))(ne:Q≠P)(s:qk5 P H H2):qk4 Q qual H2:=by obtain⟨qs,h1,h2,h3⟩:=h;refine⟨qs,s _ _ h1 ne,h2,λpos v e=> ?_⟩;obtain⟨c,e1,e2⟩:=h3 pos v e;exact⟨c,e1,s _ _ e2 λz=>by rw[z,hP] at e2;cases e2⟩
end
end PL
namespace HD
open PySem L2 PL
abbrev e2(x:Str)(s:Stmt):Str×Stmt:=(x,s)
abbrev c2(x:Str)(n:Int):Str×Int:=(x,n)
noncomputable def qvx(K:W.Frag)(x:Str):Option (Addr×Obj):=match W.nsIn K mainGlobals x with
 |some (some (.ref f))=>(match K.lookup f with|some o=>some (f,o)|none=>none)
 |_=>none
noncomputable def qpJ(K:W.Frag)(x:Str):Option FuncData:=match qvx K x with
 |some (_,⟨_,_,.func fd,_⟩)=>some fd
 |_=>none
noncomputable def okD(K:W.Frag)(x:Str):Bool:=match qvx K x with
 |some (f,⟨_,_,.func fd,_⟩)=>W.codeIn K fd.code x&&W.keepIn K (.ref f)
 |_=>false
noncomputable def due(x:Str)(st:Stmt)(fd:FuncData):FuncData:=W.fnOf x x (qar st) (qay st) (qae st) .none fd.kwdefaults fd.doc fd.pyModule fd.annotations fd.code fd.closureTuple
noncomputable def okN(K:W.Frag)(x:Str):Bool:=match W.nsIn K mainGlobals x with
 |some none=>true
 |_=>false
noncomputable def Df(K:W.Frag)(mg:Str->Option Value)(x:Str)(st:Stmt):Prop:=
 ∃(f:Addr) (oc:Value) (od:Option Addr) (osl:Array (Option Value)) (kV doc pm:Value) (an:Option Addr) (cdv ct:Value),
  K.lookup f=some ⟨oc,od,.func (W.fnOf x x (qar st) (qay st) (qae st) .none kV doc pm an cdv ct),osl⟩/\W.codeIn K cdv x=true/\W.keepIn K (.ref f)=true/\mg x=some (.ref f)/\
   W.nsIn K mainGlobals x=some (some (.ref f))
section
theorem qvG(X:K.In h)(G:h.Ns mainGlobals mg)(a:okD K x=true)(e:qpJ K x=(qpJ K x).map (due x st)):Df K mg x st:=by
 unfold okD at a;unfold qpJ at e;split at a
 ·rename_i f oc od fd osl q;rw[q] at e;have e:fd=due x st fd:=Option.some.inj e;unfold qvx at q;split at q
  ·rename_i f' n;split at q
   ·rename_i o lk;cases q;have a:=Bool.and_eq_true_iff.mp a;exact⟨_,_,_,_,fd.kwdefaults,fd.doc,fd.pyModule,fd.annotations,fd.code,fd.closureTuple,by rw[lk,show W.fnOf x x (qar st) (qay st) (qae st) .none fd.kwdefaults fd.doc fd.pyModule fd.annotations fd.code fd.closureTuple=fd from e.symm],a.1,a.2,W.mg_of X G n,n⟩
   ·cases q
  ·cases q
 ·cases a
theorem qnP{K:W.Frag}{h:Heap}{tb:List (Str×Stmt)}(X:K.In h)(G:h.Ns mainGlobals mg)(a:(tb.all λp=>okD K p.1)=true)(e:tb.map (λp=>qpJ K p.1)=tb.map λp=>(qpJ K p.1).map (due p.1 p.2)): ∀(i:Nat) (x:Str) (st:Stmt),tb[i]? =some (x,st)->Df K mg x st:=λi x st hi=>by have a:=List.all_eq_true.mp a _ (Vu hi);have e:=congrArg (λl=>l[i]?) e;simp only[List.getElem?_map,hi,Option.map_some] at e;exact qvG X G a (Option.some.inj e)
theorem quQ{K:W.Frag}{h:Heap}(X:K.In h)(G:h.Ns mainGlobals mg){l:List Str}(a:l.all (okN K)=true): ∀x∈l,mg x=none:=λx hx=>by
 have a:=List.all_eq_true.mp a x hx;unfold okN at a;split at a
 ·rename_i q;exact W.mg_none_of X G q
 ·cases a
end
noncomputable def tOf(K:W.Frag)(y:Str):Addr:=((W.tabIn K y).getD (0,0)).2
noncomputable def qgD(K:W.Frag)(ys:List Str):List (Addr×Addr):=ys.map λy=>(W.tabIn K y).getD (0,0)
noncomputable def okT(K:W.Frag)(ys:List Str):Bool:=decide (ys.map (tOf K)).Nodup&&ys.all λy=>match W.tabIn K y with
 |some (_,T)=>(match K.lookup T with|none=>true|some _=>false)
 |none=>false
theorem qmN(h:okT K ys=true):ys.map (W.tabIn K)=(qgD K ys).map some/\(∀T∈(qgD K ys).map (·.2),K.lookup T=none)/\(ys.map (tOf K)).Nodup:=by
 have h:=Bool.and_eq_true_iff.mp h;have nd:=of_decide_eq_true h.1;have h:=List.all_eq_true.mp h.2;refine⟨?_,?_,nd⟩
 ·unfold qgD;rw[List.map_map];refine List.map_congr_left λy hy=> ?_;have:=h y hy;show W.tabIn K y=some ((W.tabIn K y).getD (0,0));cases q:W.tabIn K y with
  |none=>rw[q] at this;cases this
  |some p=>rfl
 ·intro T hT;obtain⟨p,hp,rfl⟩:=List.mem_map.mp hT;obtain⟨y,hy,rfl⟩:=List.mem_map.mp hp;have:=h y hy;cases q:W.tabIn K y with
  |none=>rw[q] at this;cases this
  |some p=>
   rw[q] at this;dsimp only at this;show K.lookup p.2=none;split at this
   ·assumption
   ·cases this
end HD
namespace PL
open PySem L2
end PL
namespace St
open PySem PySem.W PySem.Calls PyProof.Rows
section
theorem sorted_c (bW:wpAny (model prog w) A.in1 (collect v) (λvs s1=> ∃(h1:Heap) (t1:Nat) (κ:SortKind) (kz:List Int),s1={ s with heap:=h1,toks:=t1 }/\Kp s.heap h1/\kz.length=vs.length/\vs.length<64/\
   (∀s':Shared,Kp h1 s'.heap->2<=vs.length->∀(Q:SortKind->Shared->Prop) (E:Value->Shared->Prop),Q κ s'->wpAny (model prog w) A.in1.in1 (keyKind' vs.toArray) Q E s')/\
   (∀s':Shared,Kp h1 s'.heap->∀i j,i<vs.length->j<vs.length->∀C:Bool->Shared->Prop,C (decide (kz.getD i 0<kz.getD j 0)) s'->wpAny (model prog w) A.in1.in1 (keyLt' κ (vs.getD i Value.none) (vs.getD j Value.none)) C (λ_ _=>False) s')/\
   ∀D h' tk c (p:Array Nat),h1.objs.size<=D->Kp h1 h'->qdr kz vs.length p->h'.get? D=some (seqObj "list" (List.toArray (p.toList.map λi=>vs.getD i Value.none)) c)->Q (.ref D) { s with heap:=h',toks:=tk }) E s):
  wpAny (model prog w) A (call (.builtin "sorted") [v]) Q E s:=by
 refine Calls.call_function_entry kind_sorted plain_sorted entry_sorted (args_sorted1 _) ?_;unfold Builtin.«sorted»;refine Va (m:=checkCount "sorted" 1 1 _) (Vb ?_);refine Va (Vc bW (λvs s1 h=> ?_) λ_ _ x=>x);obtain⟨H1,t1,κ,kz,rfl,kp1,hlen,dF,kind,cmp,h⟩:=h;refine Va (wpAny_newList ?_ (by rw[sizeLine_eq];lia));have cM:Kp H1 (H1.push (seqObj "list" vs.toArray 0)):=λb o q=>Vg _ q;have fA:(H1.push (seqObj "list" vs.toArray 0)).get? H1.objs.size=some (seqObj "list" vs.toArray 0):=Vh _ rfl;refine Va (wpAny_holding (wpAny_call_entry slot_list_sort ⟨_,fA,rfl⟩ entry_list_sort ?body (args_list_sort _)))
 case body=>
  refine qpp (h0:=H1) (kz:=kz) (κ:=κ) (s:={ s with heap:=H1.push (seqObj "list" vs.toArray 0),toks:=t1 }) fA hlen dF cM (qmm (Vm _)) (λs' k h2 Q hq=>kind s' k h2 Q _ hq) cmp λh' tk c p a1 a2 a3=>⟨_,rfl,?_⟩
  exact Vb ⟨_,rfl,h _ h' tk c p (Vm _) a1 a2 a3⟩
end
end St
namespace L2
open PySem PySem.Spec PyProof.Rows
theorem is_kV(h:(qaq P w).is k u=true):RelV (kV k) u:=by
 cases k with
 |inl i=>
  cases u with
  |int j t=>
   have:j=i:=by simpa [qaq,keyIs,Value.isInt,Value.isStrOf] using h
   subst this;exact⟨t,rfl⟩
  |_=>simp[qaq,keyIs,Value.isInt,Value.isStrOf] at h
 |inr x=>
  cases u with
  |str j t=>
   have:j=x:=by simpa [qaq,keyIs,Value.isInt,Value.isStrOf] using h
   subst this;exact⟨t,rfl⟩
  |_=>simp[qaq,keyIs,Value.isInt,Value.isStrOf] at h
end L2
namespace PL
open PySem L2 SR SetL
end PL
namespace PL
open PySem L2
theorem qpg{P:Program}{w:World}{H:Hp}{h:Heap}{p:Addr}(hp:H p=some (.dK [])): ∀(o:HO) (a:Addr),qaC P w H h a o->qaC P w (upd H p (.dT [])) h a o:=by
 intro o
 induction o with
 |lst xs|tup xs|dK kvs=>exactλa h=>h
 |dT kvs=>
  intro a h;obtain⟨z,y,xs,r,rest⟩:=h;refine⟨z,y,xs,?_,rest⟩;clear rest z y
  induction r with
  |nil=>exact .nil
  |cons c _ ih=>refine .cons ⟨c.1,?_,c.2.2⟩ ih;rw[qad (λz=>by rw[z,hp] at c;cases c.2.1)];exact c.2.1
 |set S n=>exactλa h=>h
 |ins C dx fs=>intro a h;obtain⟨h1,r⟩:=h;exact⟨by rw[qad (λz=>by rw[z,hp] at h1;cases h1)];exact h1,r⟩
 |own x|xd fs|rng lo hi=>exactλa h=>h
 |frz o u ih=>exactλa h=>⟨h.1,ih a h.2⟩
 |_=>exactλa h=>h
theorem Inv.asT{X:Cx}{pins:List (Addr×Obj)}{σ:St}{H:Hp}{s:Shared}{p:Addr}(I:L2.Inv X pins σ H s)(hp:H p=some (.dK [])):L2.Inv X pins σ (upd H p (.dT [])) s:=by
 have no: ∀{b:Addr},H b=none->upd H p (.dT []) b=none:=λ{b} h=>by rw[qad (λz=>by rw[z,hp] at h;cases h)];exact h
 have same: ∀{b:Addr} {o:HO},H b=some o->o≠.dK []->upd H p (.dT []) b=some o:=λ{b o} h n=>by rw[qad (λz=>n (by rw[z,hp] at h;exact(Option.some.inj h).symm))];exact h
 refine⟨I.ok,I.os,I.bare,⟨I.base.keep,I.base.slot,λb o a h e=>no (I.base.free b o a h e),I.base.there,λb xs h=>same (I.base.tups b xs h) (by simp),λb o u h=>same (I.base.frzs b o u h) (by simp),λb ps h=> ?_⟩,I.loc,I.cell,no I.free,λx c h=>no (I.freeC x c h),λq hq=> ?_,λa o h=> ?_,I.len⟩
 ·obtain⟨more,e⟩:=I.base.tbls b ps h;exact⟨more,same e (by simp)⟩
 ·obtain⟨a,b,c⟩:=I.pin q hq;exact⟨a,no b,c⟩
 ·by_cases z:a=p
  ·subst z;rw[qai] at h;cases h;obtain⟨z1,z2,vs,kv,d⟩:=(show qaC X.prog X.w H s.heap a (.dK []) from I.hok a _ hp)
   cases kv;obtain⟨o,es,ep,h1,h2,h3,h4,h5,h6⟩:=d;exact⟨z1,z2,[],.nil,o,es,ep,h1,h2,h3,by generalize es.toList=l at h5⊢;cases h5;rfl,List.nodup_nil⟩
  ·rw[qad z] at h;exact qpg hp o a (I.hok a o h)
open SR SetL
end PL
namespace DH
open PySem PySem.Spec PyProof.Rows PySem.W
noncomputable def RawD(h:Heap)(d:Addr)(es:Array DictEntry)(ep:Nat):Prop:= ∃o,h.get? d=some o/\o.ExactDict/\o.data= .dict es ep
theorem RawD.at(x:RawD h d es ep)(k: ∀o,h.get? d=some o->h'.get? d=some o):RawD h' d es ep:=let ⟨o,a,b⟩:=x;⟨o,k o a,b⟩
theorem RawD.lt(x:RawD h d es ep):d<h.objs.size:=let ⟨_,a,_⟩:=x;Vi a
theorem RawD.ty{s:Shared}{ep:Nat}(x:RawD s.heap d es ep):s.TypeIs (.ref d) "dict" :=let ⟨o,a,b,_⟩:=x;⟨o,a,b.1⟩
theorem qsg {s:Shared} {es:Array DictEntry} {ep:Nat} (lo:(d==sysModules)=false) (x:RawD s.heap d es ep) (q:Q (.ref s.heap.objs.size) { s with heap:=s.heap.push { cls:=.type "dict_keyiterator",data:=.fields #[.ref d,.int 0 0,.int es.size 0,.int ep 0] } }):wpAny (model prog w) A (pyIter (.ref d)) Q E s:=by obtain⟨o,ho,hx,hd⟩:=id x;have ty:=x.ty;refine wpAny_pyIter_slot ty F.slot_dict_iter (wpAny_call_entry F.slot_dict_iter ty F.entry_dict_iter ?_ (F.args_dict_iter_1 _));unfold Builtin.«dict.__iter__»;refine Va ?_;unfold Builtin.Dict.dictSlotNone;refine Va (wpAny_notOrdered_dict ty ?_);refine Vb (a:=Value.ref d) ?_;show wpAny _ _ (Builtin.Dict.showsAll d>>=_) _ _ s;unfold Builtin.Dict.showsAll;rw[if_neg (by rw[lo];exact Vr)];refine Va (Vb ?_);refine Va (wpAny_dictEntries ho hd (Va (wpAny_dictEpoch ho hd ?_)));exact Va (wpAny_newObj_type (Vb ⟨_,rfl, "dict_keyiterator",_,⟨_,Vh _ rfl,rfl⟩,F.slot_dict_keyiterator_next.lookup,by simpa [rawInt] using q⟩))
theorem quS(hi:s.heap.IsKeyIter it d i es.size ep)(x:RawD s.heap d es ep)(lt:i<es.size)(q: ∀h',h'.IsKeyIter it d (i+1) es.size ep->Heap.SameBut it s.heap h'->Q (some es[i].key) { s with heap:=h' }):wpAny (model prog w) A (pyNext (.ref it)) Q E s:=by
 obtain⟨o,ho,hc,hd⟩:=id hi;obtain⟨od,bx,hx2,hd2⟩:=id x;have ty:=hi.typeIs;unfold pyNext;refine Va (wpAny_attempt (wpAny_callSpecial?_slot (name:=Str.ofString "__next__") ty F.slot_dict_keyiterator_next (wpAny_call_entry F.slot_dict_keyiterator_next ty F.entry_dict_keyiterator_next ?_ (F.args_dict_keyiterator_next_1 _))));refine Va (Vb ?_);refine Va ?_;refine Va ?_
 first|refine Va (wpAny_typeNameOfWhole_keyiter ty (Vb ?_))|refine Va (wpAny_typeNameOf_keyiter ty (Vb ?_))
 refine Va (wpAny_fieldsOf ho hd ?_);have ow:Builtin.Dict_items.ownsTuple "dict_keyiterator" =false:=by decide
 simp only[ow,Bool.false_eq_true,if_false];show wpAny _ _ (if(Value.ref d==Value.none)=true then _ else _) _ _ s;rw[if_neg (show ¬((Value.ref d==Value.none)=true) from Bool.false_ne_true)];refine Va (Vb ?_);refine Va (wpAny_dictEntries bx hd2 ?_);rw[if_neg (by simp)];refine Va (Vb ?_);refine Va (wpAny_dictEpoch bx hd2 ?_);rw[if_neg (by simp)];refine Vb ?_;simp only[show ¬((i:Int)<0) from by omega,if_false,Int.toNat_natCast,Array.getElem?_eq_getElem lt];refine Va ?_
 first|refine Va (wpAny_typeNameOfWhole_keyiter ty (Vb ?_))|refine Va (wpAny_typeNameOf_keyiter ty (Vb ?_))
 refine Va (wpAny_isOneOf_keyiter ty ?_);show wpAny _ _ (setField (.ref it) 1 (rawInt ((i:Int)+1))>>=_) _ _ s;refine Va (wpAny_setField ho hd (by simp) ?_);have iM:(s.heap.update it (Obj.mapFields (·.setIfInBounds 1 (rawInt ((i:Int)+1))))).IsKeyIter it d (i+1) es.size ep:=⟨_,Heap.get?_update_self _ ho (Obj.isFreed_of_fields (Obj.data_mapFields hd _)),(Obj.cls_mapFields ..).trans hc,by rw[Obj.data_mapFields hd];simp[rawInt]⟩
 refine Va (wpAny_holding ?_);refine Va (wpAny_isOneOf_keyiter (s:={ s with heap:=s.heap.update it (Obj.mapFields (·.setIfInBounds 1 (rawInt ((i:Int)+1)))) }) iM.typeIs ?_);show wpAny _ _ (pure es[i].key) _ _ _;exact Vb (Vb ⟨_,rfl,Vb (q _ iM (Heap.SameBut.update ..))⟩)
theorem qxW(hh:A.handled=none)(hi:s.heap.IsKeyIter it d i es.size ep)(x:RawD s.heap d es ep)(ge:es.size<=i)(q: ∀h',Heap.ExtBut it s.heap h'->Q none { s with heap:=h' }):wpAny (model prog w) A (pyNext (.ref it)) Q E s:=by
 obtain⟨o,ho,hc,hd⟩:=id hi;obtain⟨od,bx,hx2,hd2⟩:=id x;have ty:=hi.typeIs;unfold pyNext;refine Va (wpAny_attempt (wpAny_callSpecial?_slot (name:=Str.ofString "__next__") ty F.slot_dict_keyiterator_next (wpAny_call_entry F.slot_dict_keyiterator_next ty F.entry_dict_keyiterator_next ?_ (F.args_dict_keyiterator_next_1 _))));refine Va (Vb ?_);refine Va ?_;refine Va ?_
 first|refine Va (wpAny_typeNameOfWhole_keyiter ty (Vb ?_))|refine Va (wpAny_typeNameOf_keyiter ty (Vb ?_))
 refine Va (wpAny_fieldsOf ho hd ?_);have ow:Builtin.Dict_items.ownsTuple "dict_keyiterator" =false:=by decide
 simp only[ow,Bool.false_eq_true,if_false];show wpAny _ _ (if(Value.ref d==Value.none)=true then _ else _) _ _ s;rw[if_neg (show ¬((Value.ref d==Value.none)=true) from Bool.false_ne_true)];refine Va (Vb ?_);refine Va (wpAny_dictEntries bx hd2 ?_);rw[if_neg (by simp)];refine Va (Vb ?_);refine Va (wpAny_dictEpoch bx hd2 ?_);rw[if_neg (by simp)];refine Vb ?_;simp only[show ¬((i:Int)<0) from by omega,if_false,Int.toNat_natCast,Array.getElem?_eq_none ge];refine Va ?_
 first|refine Va (wpAny_typeNameOfWhole_keyiter ty (Vb ?_))|refine Va (wpAny_typeNameOf_keyiter ty (Vb ?_))
 show wpAny _ _ (setField (.ref it) 0 .none>>=_) _ _ s;refine Va (wpAny_setField ho hd (by simp) ?_);show wpAny _ _ (newExc (.type "StopIteration") []>>=_) _ _ _;refine Va ?_;simp only[newExc,newTuple];refine Va (wpAny_newObj_type ?_ (by size_fits));refine Va (m:=firstArgMember _ _) (wpAny_of_eq (a:=Value.none) (by first|rfl|(simp only[firstArgMember];rfl)) ?_);refine wpAny_newObj_type ?_ (by size_fits);simp only[raiseNew];refine Va (wpAny_handled ?_);rw[show A.in1.handled=none from hh];refine Va (Vb (wpAny_throw ?_));refine Va (wpAny_isInstance (T:= "StopIteration") (b:=true) ⟨_,Vh _ rfl,rfl⟩ isSubtype_stop ?_);exact Vb (q _ (((Heap.SameBut.update ..).extBut.push _).push _))
theorem qqB (hh:A.handled=none) (I d:Addr) (ne:d≠I) (es:Array DictEntry) (ep:Nat):
  Walks prog w A I [I,d] [I] es.size (λi v=> ∃e,es[i]? =some e/\v=e.key) (λi h=>h.IsKeyIter I d i es.size ep/\RawD h d es ep) where
 sub:=λb hb=>by simp at hb;simp[hb]
 frame:=λ_ _ _ st hk=>⟨st.1.at λo e=>hk I (by simp) o e,st.2.at λo e=>hk d (by simp) o e⟩
 item:=λi s Q E hi st hQ=>quS st.1 st.2 hi λh' a b=>hQ _ h' s.toks ⟨es[i],by simp[hi],rfl⟩ ⟨a,st.2.at λo e=>b.extBut d o ne e⟩ λc o hc e=>b.extBut c o (λz=>hc (by simp[z])) e
 done:=λs Q E st hQ=>qxW hh st.1 st.2 (Vm _) λh' b=>hQ h' s.toks λc o hc e=>b c o (λz=>hc (by simp[z])) e
 self:=λ_ _ _ _ st hQ=>wpAny_pyIter_keyiter st.1 hQ
theorem qxd{es:Array DictEntry}{ep:Nat}(lo:(d==sysModules)=false):KdlSrc prog w "dict" d d es.size (λi v=> ∃e,es[i]? =some e/\v=e.key) (λh=>RawD h d es ep) where
 type:=λ_ m=>m.ty
 there:=λ_ m=>⟨m.lt,m.lt⟩
 keep:=λ_ _ m k=>m.at λo e=>k d (.inl rfl) o e
 notList:=by decide
 notTuple:=by decide
 hint:=λ_ _ _ _ m q=>kdl_hint_dict m.ty q
 iter:=λ_ _ hh m=>⟨_,_,λ_ _ q=>qsg lo m q,qqB hh _ d (Vo m.lt) es ep,⟨⟨_,Vh _ rfl,rfl,rfl⟩,m.at λo e=>Vg _ e⟩⟩
theorem collectD(hh:A.handled=none)(lo:(d==sysModules)=false)(m:RawD s.heap d es ep)(hn:es.size<=sizeLine)(h: ∀(h':Heap) (tk:Nat),(∀b o,s.heap.get? b=some o->h'.get? b=some o)->R (es.toList.map (·.key)) { s with heap:=h',toks:=tk }):wpAny (model prog w) A (collect (.ref d)) R E s:=by
 refine kdu_collect (qxd lo) hh m hn λh' tk acc k hI=> ?_;have:acc.toList=es.toList.map (·.key):=by
  refine List.ext_getElem? λj=> ?_;rw[List.getElem?_map,Array.getElem?_toList,Array.getElem?_toList];by_cases c:j<acc.size
  ·obtain⟨e,h1,h2⟩:=hI.2 j acc[j] (by simp[c]);rw[h1,Array.getElem?_eq_getElem c,h2];rfl
  ·have: ¬j<es.size:=by rw[<-hI.1];exact c
   rw[Array.getElem?_eq_none (by omega),Array.getElem?_eq_none (by omega)];rfl
 rw[this];exact h h' tk k
open L2
variable {prog:Program}{w:World}{A:Around}{E:Value->Shared->Prop}{s:Shared}
abbrev IS:=Int×Str
noncomputable def qqu(x y:IS):Bool:=if x.1=y.1 then(if x.2=y.2 then false else decide (y.2.cps.toList<x.2.cps.toList)) else decide (y.1<x.1)
noncomputable def qqp(h:Heap)(x:IS)(p:Addr):Prop:= ∃t u,IsTup h p #[.int x.1 t,.str x.2 u]
theorem qqp.keep(a:qqp h x p)(k: ∀o,h.get? p=some o->h'.get? p=some o):qqp h' x p:=by obtain⟨t,u,o,e,r⟩:=a;exact⟨t,u,o,k o e,r⟩
theorem qva(hp:qqp s.heap x p)(hq:qqp s.heap y q)(hu:A.units<cLine)(h:Q (.bool (qqu x y)) s):wpAny (model prog w) A (richCompare .Gt (.ref p) (.ref q)) Q E s:=by
 obtain⟨t1,t2,o1,e1,c1,n1,d1⟩:=hp;obtain⟨t3,t4,o2,e2,c2,n2,d2⟩:=hq;have ip:s.TypeIs (.ref p) "tuple" :=⟨o1,e1,c1⟩
 have il:s.TypeIs (.ref q) "tuple" :=⟨o2,e2,c2⟩
 refine wpAny_richCompare_same_room (op:=.Gt) ip il F.slot_tuple_gt (wpAny_call_entry F.slot_tuple_gt ip F.entry_tuple_gt ?_ (F.args_tuple_gt_2 _ _)) hu;show wpAny _ _ (isInstance (.ref q) (.type "tuple")>>=_) _ _ s;refine Va (wpAny_isInstance il isSubtype_tuple_tuple ?_);simp only[Bool.not_true,Bool.false_eq_true,if_false];refine Va (wpAny_tupleItemsOf e1 d1 (Va (wpAny_tupleItemsOf e2 d2 ?_)));simp only[List.zip_cons_cons,List.zip_nil_left,List.forIn_cons,List.forIn_nil];refine Va (Va (Va ((qaq prog w).eqBool (a:=.inl x.1) (b:=.inl y.1) (qc9 (k:=.inl x.1) ⟨t1,rfl⟩) (qc9 (k:=.inl y.1) ⟨t3,rfl⟩) ?_)));unfold qqu at h;by_cases c:x.1=y.1
 ·rw[if_pos c] at h;rw[decide_eq_true (show(Sum.inl x.1:Key)= .inl y.1 by rw[c])];simp only[Bool.not_true,Bool.false_eq_true,if_false];refine Vb (Va (Va ((qaq prog w).eqBool (a:=.inr x.2) (b:=.inr y.2) (qc9 (k:=.inr x.2) ⟨t2,rfl⟩) (qc9 (k:=.inr y.2) ⟨t4,rfl⟩) ?_)));by_cases c2:x.2=y.2
  ·rw[if_pos c2] at h;rw[decide_eq_true (show(Sum.inr x.2:Key)= .inr y.2 by rw[c2])];simp only[Bool.not_true,Bool.false_eq_true,if_false];refine Vb (Vb ?_);exact Vb ⟨_,rfl,(λz=>nomatch z),h⟩
  ·rw[if_neg c2] at h;rw[decide_eq_false (show ¬(Sum.inr x.2:Key)= .inr y.2 fromλz=>c2 (Sum.inr.inj z))];simp only[Bool.not_false,if_true];refine Va (wpAny_rule ?_);refine Va (P.gt_str ?_);exact Vb (Vb (Vb ⟨_,rfl,(λz=>nomatch z),h⟩))
 ·rw[if_neg c] at h;rw[decide_eq_false (show ¬(Sum.inl x.1:Key)= .inl y.1 fromλz=>c (Sum.inl.inj z))];simp only[Bool.not_false,if_true];refine Va (wpAny_rule ?_);refine Va (P.gt_int ?_);exact Vb (Vb (Vb ⟨_,rfl,(λz=>nomatch z),h⟩))
section
variable {R:Result->Shared->Prop}{I:Addr}{fp wr:List Addr}{n:Nat}{P:Nat->Value->Prop}{St:Nat->Heap->Prop}
noncomputable def qv6(prog:Program)(w:World)(A:Around)(P:Nat->Value->Prop)(St:Nat->Heap->Prop)(bt:Nat->Nat->Bool):Prop:=
 ∀i j k a b (s:Shared) (Q:Value->Shared->Prop) (E:Value->Shared->Prop),St k s.heap->P i a->P j b->Q (.bool (bt i j)) s->wpAny (model prog w) A (richCompare .Gt a b) Q E s
theorem qb2:(toString "max" ++toString ".loop" :String)= "max.loop" :=by decide
theorem qjG (W:Walks prog w A.in1 I fp wr n P St) (bt:Nat->Nat->Bool) (cm:qv6 prog w A.in1 P St bt) (S:Addr) (nf:S∉fp): ∀(m j:Nat) (s:Shared) (x:Value) (c:Nat),n - (j+1)=m->j+1<=n->St (j+1) s.heap->P (argBest bt j) x->
  s.heap.get? S=some { cls:=.type "list",dict:=none,data:=.seq #[x,x] c,slots:= #[] }->
  (∀v h' tk,P (argBest bt (n - 1)) v->(∀b o,b∉wr->b≠S->s.heap.get? b=some o->h'.get? b=some o)->R (.ok (.ret v)) { s with heap:=h',toks:=tk })->codeAny (model prog w) A (.builtin "max.loop" ⟨[.ref I,.none,.ref S],[]⟩) R s:=by
 have nw:S∉wr:=λh=>nf (W.sub _ h);intro m
 induction m with
 |zero=>
  intro j s x c e1 e2 st px eS k;have jn:j+1=n:=by omega
  refine codeAny_builtin F.entry_max_loop ?_;rw[Around.under_plainId F.plain_max_loop _];show wpAny _ A.in1 (seqItems? (.ref S)>>=_) _ _ s;refine Va (wpAny_seqItems eS rfl ?_);show wpAny _ A.in1 (tryCatch (pyNext (.ref I)) _>>=_) _ _ s;refine Va (wpAny_tryCatch (W.done s _ _ (jn▸st) λh1 t1 kp=> ?_));have cC:=kp S _ nw eS;show wpAny _ A.in1 (updateSeq S (λ_=> #[])>>=_) _ _ _;refine Va ?_;refine wpAny_updateSeq cC rfl (Va (wpAny_letGo (Vb ?_)));exact k x _ t1 (by rw[<-jn];exact px) λb o nb ns eb=>(Vj _ _ (Ne.symm ns)).trans (kp b o nb eb)
 |succ m ih=>
  intro j s x c e1 e2 st px eS k;have lt:j+1<n:=by omega
  refine codeAny_builtin F.entry_max_loop ?_;rw[Around.under_plainId F.plain_max_loop _];show wpAny _ A.in1 (seqItems? (.ref S)>>=_) _ _ s;refine Va (wpAny_seqItems eS rfl ?_);show wpAny _ A.in1 (tryCatch (pyNext (.ref I)) _>>=_) _ _ s;refine Va (wpAny_tryCatch (W.item (j+1) s _ _ lt st λv h1 t1 pv dP kp=> ?_));have cC:=kp S _ nw eS;show wpAny _ A.in1 (tryCatch (holding [v,v] (richCompare .Gt v x>>=_)) _>>=_) _ _ _;refine Va (wpAny_tryCatch (wpAny_holding (Va (cm (j+1) (argBest bt j) _ v x _ _ _ dP pv px ?_))));refine Va (wpAny_holding (Vd ?_));refine Va (wpAny_letGo (Vb ?_));cases eb:bt (j+1) (argBest bt j) with
  |true=>
   simp only[if_true];refine Va ?_;refine wpAny_updateSeq cC rfl (Va (wpAny_letGo ?_));rw[qb2];refine Vb ⟨plainId_quiet F.plain_max_loop _,ih (j+1) _ v _ (by omega) lt (W.frame _ _ _ dP λb bf o ob=> ?_) (by simp only[argBest,eb,if_true];exact pv) (Heap.get?_update_self _ cC rfl) λv2 h2 t2 dR cM=> ?_⟩
   ·exact(Vj _ _ (λz:S=b=>nf (by rw[z];exact bf))).trans ob
   ·exact k v2 h2 t2 dR λb o nb ns ob=>cM b o nb ns ((Vj _ _ (Ne.symm ns)).trans (kp b o nb ob))
  |false=>simp only[Bool.false_eq_true,if_false];refine Va (wpAny_letGo ?_);rw[qb2];exact Vb ⟨plainId_quiet F.plain_max_loop _,ih (j+1) _ x c (by omega) lt dP (by simp only[argBest,eb,Bool.false_eq_true,if_false];exact px) cC λv2 h2 t2 dR cM=>k v2 h2 t2 dR λb o nb ns ob=>cM b o nb ns (kp b o nb ob)⟩
theorem qjH (W:Walks prog w A.in1 I fp wr n P St) (bt:Nat->Nat->Bool) (cm:qv6 prog w A.in1 P St bt) (S:Addr) (nf:S∉fp) (hn:0<n) {s:Shared} {c:Nat} (st:St 0 s.heap) (eS:s.heap.get? S=some { cls:=.type "list",dict:=none,data:=.seq #[] c,slots:= #[] }) (k: ∀v h' tk,P (argBest bt (n - 1)) v->(∀b o,b∉wr->b≠S->s.heap.get? b=some o->h'.get? b=some o)->R (.ok (.ret v)) { s with heap:=h',toks:=tk }):codeAny (model prog w) A (.builtin "max.loop" ⟨[.ref I,.none,.ref S],[]⟩) R s:=by
 have nw:S∉wr:=λh=>nf (W.sub _ h);refine codeAny_builtin F.entry_max_loop ?_;rw[Around.under_plainId F.plain_max_loop _];show wpAny _ A.in1 (seqItems? (.ref S)>>=_) _ _ s;refine Va (wpAny_seqItems eS rfl ?_);show wpAny _ A.in1 (tryCatch (pyNext (.ref I)) _>>=_) _ _ s;refine Va (wpAny_tryCatch (W.item 0 s _ _ hn st λv h1 t1 pv dP kp=> ?_));have cC:=kp S _ nw eS;show wpAny _ A.in1 (updateSeq S (λ_=> #[v,v])>>=_) _ _ _;refine Va ?_;refine wpAny_updateSeq cC rfl ?_;rw[qb2];refine Vb ⟨plainId_quiet F.plain_max_loop _,qjG W bt cm S nf _ 0 _ v _ rfl hn (W.frame _ _ _ dP λb bf o ob=> ?_) pv (Heap.get?_update_self _ cC rfl) λv2 h2 t2 dR cM=> ?_⟩
 ·exact(Vj _ _ (λz:S=b=>nf (by rw[z];exact bf))).trans ob
 ·exact k v2 h2 t2 dR λb o nb ns ob=>cM b o nb ns ((Vj _ _ (Ne.symm ns)).trans (kp b o nb ob))
theorem qkR (h:wpAny (model prog w) A.in1 (pyIter x) (λit s1=> ∃I fp wr n P St bt,it= .ref I/\Walks prog w A.in1 I fp wr n P St/\St 0 s1.heap/\(∀b∈fp,b<s1.heap.objs.size)/\0<n/\qv6 prog w A.in1 P St bt/\
   ∀v h' tk,P (argBest bt (n - 1)) v->(∀b o,b∉wr->s1.heap.get? b=some o->h'.get? b=some o)->Q v { s1 with heap:=h',toks:=tk }) E s):wpAny (model prog w) A (call (.builtin "max") [x]) Q E s:=by refine call_function_tree F.kind_max F.plain_max F.entry_max (F.args_max1 _) ?_;show wpAny _ A.in1 (Builtin.Builtins.bindParams "max" ["key", "default"] 0 ⟨[],[]⟩>>=_) _ _ s;refine Va (wpAny_of_eq (show Builtin.Builtins.bindParams "max" ["key", "default"] 0 ⟨[],[]⟩=pure [none,none] from rfl) ?_);refine Va (Vb ?_);refine Va (Vc h (λit s1 hq=> ?_) λ_ _ z=>z);obtain⟨I,fp,wr,n,P,St,bt,rfl,W,st,lo,hn,cm,k⟩:=hq;refine Va (wpAny_newObj_type ?_);have nf:s1.heap.objs.size∉fp:=λm=>Nat.lt_irrefl _ (lo _ m);rw[qb2];refine Vb ⟨plainId_quiet F.plain_max_loop _,qjH W bt cm s1.heap.objs.size nf hn (W.frame _ _ _ st λb _ o ob=>Vg _ ob) (Vh _ rfl) λv h' tk pv kp=> ?_⟩;exact k v h' tk pv λb o nb ob=>kp b o nb (Vo (Vi ob)) (Vg _ ob)
end
theorem qtN{prog:Program}{w:World}{A:Around}{I:Addr}{fp wr more:List Addr}{n:Nat}{P:Nat->Value->Prop}{St:Nat->Heap->Prop}{T:Heap->Prop}(W:Walks prog w A I fp wr n P St)(nw: ∀b∈more,b∉wr)(hT: ∀h h':Heap,T h->(∀b∈more,∀o,h.get? b=some o->h'.get? b=some o)->T h'):Walks prog w A I (fp++more) wr n P (λi h=>St i h/\T h) where
 sub:=λb hb=>List.mem_append.mpr (.inl (W.sub b hb))
 frame:=λi h h' st k=>⟨W.frame i h h' st.1 λb hb o e=>k b (List.mem_append.mpr (.inl hb)) o e,hT _ _ st.2 λb hb o e=>k b (List.mem_append.mpr (.inr hb)) o e⟩
 item:=λi s Q E hi st hQ=>W.item i s Q E hi st.1 λv h' tk pv aR k=>hQ v h' tk pv ⟨aR,hT _ _ st.2 λb hb o e=>k b o (nw b hb) e⟩ k
 done:=λs Q E st hQ=>W.done s Q E st.1 hQ
 self:=λi s Q E st hQ=>W.self i s Q E st.1 hQ
noncomputable def bestIS(xs:List IS):Nat:=argBest (λi j=>qqu (xs.getD i (0, "")) (xs.getD j (0, ""))) (xs.length - 1)
theorem qdX(bt:Nat->Nat->Bool): ∀k,argBest bt k<=k
 |0=>Vm _
 |k+1=>by
  unfold argBest;split
  ·exact Vm _
  ·exact Nat.le_succ_of_le (qdX bt k)
theorem bestIS_lt(h:xs≠[]):bestIS xs<xs.length:=by have:=qdX (λi j=>qqu (xs.getD i (0, "")) (xs.getD j (0, ""))) (xs.length - 1);have:=List.length_pos_iff.mpr h;unfold bestIS;omega
theorem call_maxD {A:Around} {s:Shared} {es:Array DictEntry} {ep:Nat} {xs:List IS} {qs:List Addr} (hh:A.in1.handled=none) (hu:A.in1.units<cLine) (lo:(d==sysModules)=false) (m:RawD s.heap d es ep) (hk:es.toList.map (·.key)=qs.map Value.ref) (hl:xs.length=qs.length) (aH:xs≠[]) (ht: ∀j q,qs[j]? =some q->qqp s.heap (xs.getD j (0, "")) q) (h: ∀(h':Heap) (tk:Nat),(∀b o,s.heap.get? b=some o->h'.get? b=some o)->Q (.ref (qs.getD (bestIS xs) 0)) { s with heap:=h',toks:=tk }):wpAny (model prog w) A (call (.builtin "max") [.ref d]) Q E s:=by
 have n1:es.size=qs.length:=by have:=congrArg List.length hk;simpa using this
 have key: ∀{i:Nat} {v:Value},(∃e,es[i]? =some e/\v=e.key)->∃q,qs[i]? =some q/\v= .ref q:=λ{i v} hv=>by
  obtain⟨e,h1,h2⟩:=hv;have h3:=congrArg (λl=>l[i]?) hk;simp only[List.getElem?_map,Array.getElem?_toList,h1,Option.map_some] at h3;cases q:qs[i]? with
  |none=>rw[q] at h3;cases h3
  |some a=>rw[q] at h3;exact⟨a,rfl,h2.trans (Option.some.inj h3)⟩
 have lq: ∀q∈qs,q<s.heap.objs.size:=λq hq=>by obtain⟨j,hj⟩:=List.mem_iff_getElem?.mp hq;obtain⟨t,u,o,e,_⟩:=ht j q hj;exact Vi e
 refine qkR (qsg lo m ?_)
 refine⟨_,_,_,es.size,_,_,λi j=>qqu (xs.getD i (0, "")) (xs.getD j (0, "")),rfl,qtN (more:=qs) (T:=λh=> ∀j q,qs[j]? =some q->qqp h (xs.getD j (0, "")) q) (qqB hh _ d (Vo m.lt) es ep) (λb hb z=> ?_) (λh h' t k j q hj=>(t j q hj).keep λo e=>k q (Vu hj) o e),
  ⟨⟨⟨_,Vh _ rfl,rfl,rfl⟩,m.at λo e=>Vg _ e⟩,λj q hj=>(ht j q hj).keep λo e=>Vg _ e⟩,λb hb=> ?_,?_,λi j k a b s1 Q1 E1 st pa pb hq=> ?_,λv h' tk pv kp=> ?_⟩
 ·have e:b=s.heap.objs.size:=by simpa using z
  exact absurd (lq b hb) (by rw[e];exact Nat.lt_irrefl _)
 ·show b<(Heap.push _ _).objs.size;rw[PyProof.Rows.size_push']
  rcases List.mem_append.mp hb with hb|hb
  ·have bB:b=s.heap.objs.size\/b=d:=by simpa using hb
   rcases bB with rfl|rfl
   ·exact Wb _
   ·exact Nat.lt_succ_of_lt m.lt
  ·exact Nat.lt_succ_of_lt (lq b hb)
 ·rw[n1,<-hl];exact List.length_pos_iff.mpr aH
 ·obtain⟨q1,e1,rfl⟩:=key pa;obtain⟨q2,e2,rfl⟩:=key pb;exact qva (st.2 i q1 e1) (st.2 j q2 e2) hu hq
 ·obtain⟨q,e1,rfl⟩:=key pv;have e2:argBest (λi j=>qqu (xs.getD i (0, "")) (xs.getD j (0, ""))) (es.size - 1)=bestIS xs:=by unfold bestIS;rw[n1,hl]
  rw[e2] at e1;have:qs.getD (bestIS xs) 0=q:=by rw[List.getD_eq_getElem?_getD,e1];rfl
  rw[<-this];refine h h' tk λb o ob=>kp b o (λz=> ?_) (Vg _ ob);have:b=s.heap.objs.size:=by simpa using z
  exact Vo (Vi ob) this
theorem call_lenR(lo:(d==sysModules)=false)(m:RawD s.heap d es ep)(hz:es.size<=sizeLine)(h:Q (.int es.size (s.toks+1)) { s with toks:=s.toks+1+1 }):wpAny (model prog w) A (call (.builtin "len") [.ref d]) Q E s:=by obtain⟨o,ho,hx,hd⟩:=id m;have ty:=m.ty;rw[sizeLine_eq] at hz;refine Calls.call_function_entry kind_len plain_len entry_len (args_len1 _) ?_;unfold Builtin.«len»;refine Va (m:=oneArg "len" _) (Vb ?_);refine Va (m:=callSpecial? (.ref d) (Str.ofString "__len__")) (wpAny_callSpecial?_slot (name:=Str.ofString "__len__") ty F.slot_dict_len (wpAny_call_entry F.slot_dict_len ty F.entry_dict_len ?_ (F.args_dict_len_1 _)));show wpAny _ _ (dictSize d>>=_) _ _ s;unfold dictSize;refine Va (Va (wpAny_dictEntries ho hd (Vb ?_)));show wpAny _ _ (Builtin.Dict.pendingCount d>>=_) _ _ s;refine Va (wpAny_pendingCount_other lo ?_);refine wpAny_ret_mkInt ?_;rw[show((es.size:Int)+((0:Nat):Int))=(es.size:Int) by simp];refine Va (wpAny_holding (Vb ?_));refine Va (wpAny_letGo ?_);show wpAny _ _ (if((es.size:Nat):Int)<0 then _ else _) _ _ _;rw[if_neg (by omega)];show wpAny _ _ (if((es.size:Nat):Int)≥2 ^ 63 then _ else _) _ _ _;rw[if_neg (by omega)];exact Va (wpAny_mkInt (Vb ⟨_,rfl,h⟩))
theorem call_clearR(m:RawD s.heap d es ep)(hz:es.size<=sizeLine)(h: ∀h',RawD h' d #[] (ep+1)->Heap.SameBut d s.heap h'->Q .none { s with heap:=h' }):wpAny (model prog w) A (call (.builtin "dict.clear") [.ref d]) Q E s:=by
 obtain⟨o,ho,hx,hd⟩:=id m;have ty:=m.ty;refine wpAny_call_entry F.slot_dict_clear ty F.entry_dict_clear ?_ (F.args_dict_clear_1 _);unfold Builtin.«dict.clear»;refine Va ?_;unfold Builtin.Dict.noArgs;refine Va (wpAny_notOrdered_dict ty ?_);refine Vb (a:=d) ?_;refine Va (wpAny_dictEntries ho hd ?_);refine Va ?_;unfold bearsInstanceDictMark;refine Va (wpAny_load ho (Vb ?_));refine Va (wpAny_updateDictKeys (hz:=hz) ho hd ?_);have nw:RawD (s.heap.update d (Obj.mapDictKeys λ_=> #[])) d #[] (ep+1):=⟨_,Heap.get?_update_self _ ho (Obj.isFreed_of_dict (Obj.data_mapDictKeys hd _)),hx.mapDictKeys _,Obj.data_mapDictKeys hd _⟩
 split
 ·exact Va (wpAny_letGo (Vb ⟨.none,rfl,h _ nw (Heap.SameBut.update ..)⟩))
 ·exact Va (Vb (Vb ⟨.none,rfl,h _ nw (Heap.SameBut.update ..)⟩))
end DH
namespace PL
open PySem L2
section
variable {X:Cx}{pins:List (Addr×Obj)}{σ:St}{H:Hp}{s:Shared}
theorem dt_keys (I:L2.Inv X pins σ H s) (hp:H p=some (.dT us)): ∃(qs:List Addr) (es:Array DictEntry) (ep:Nat),DH.RawD s.heap p es ep/\(p==sysModules)=false/\us.length<=sizeLine/\es.toList.map (·.key)=qs.map Value.ref/\es.size=us.length/\qs.length=us.length/\
  ∀(j:Nat) (q:Addr),qs[j]? =some q->∃k v,us[j]? =some (k,v)/\H q=some (.tup (k.map kV)):=by
 obtain⟨hz,lo,xs,kt,o,es,ep,ho,hx,hd,he,hk,nd⟩:=qsC I.hok hp;have lx:us.length=xs.length:=Paired.length kt;refine⟨xs.map (·.2.1),es,ep,⟨o,ho,hx,hd⟩,lo,hz,by rw[he,List.map_map,List.map_map];rfl,?_,by rw[List.length_map,lx],λj q e=> ?_⟩
 ·have:=congrArg List.length he;rw[List.length_map] at this;rw[lx,<-this];simp
 ·have go: ∀{us:List (List Key×V)} {xs:List (List Key×Addr×Value)} {j:Nat} {q:Addr},KT H us xs->(xs.map (·.2.1))[j]? =some q->∃k v,us[j]? =some (k,v)/\H q=some (.tup (k.map kV)):=λ{us xs j q} kt=>by
   induction kt generalizing j with
   |nil=>intro e;cases j<;>cases e
   |cons c _ ih=>
    intro e;cases j with
    |zero=>rw[List.map_cons,List.getElem?_cons_zero] at e;have e:=Option.some.inj e;refine⟨_,_,List.getElem?_cons_zero,?_⟩;rw[<-e];exact c.2.1
    |succ j=>obtain⟨k,v,e1,e2⟩:=ih (j:=j) (by simpa using e);exact⟨k,v,by simpa using e1,e2⟩
  exact go kt e
end
section
variable {X:Cx}{o e a:Expr}{pos p p1 apos cpos:Pos}{i:Nat}{dx:Ro->Rs Sl}
theorem clr_obj{P:Program}{w:World}{H':Hp}{h':Heap}{p:Addr}{ep:Nat}(lo:(p==sysModules)=false)(r:DH.RawD h' p #[] ep):qaC P w H' h' p (.dK [])/\qaC P w H' h' p (.dT []):=by obtain⟨o,ho,hx,hd⟩:=r;exact⟨⟨Nat.zero_le _,lo,[],.nil,o, #[],ep,ho,hx,hd,λ_ he=>by simp at he,.nil,List.nodup_nil⟩,⟨Nat.zero_le _,lo,[],.nil,o, #[],ep,ho,hx,hd,rfl,List.nodup_nil⟩⟩
end
noncomputable def isIS:List Key->Bool
 |[.inl _,.inr _]=>true
 |_=>false
noncomputable def isOf:List Key->DH.IS
 |[.inl i,.inr s]=>(i,s)
 |_=>(0, "")
theorem isIS_inv{k:List Key}(h:isIS k=true):k.map kV=[.int (isOf k).1,.str (isOf k).2]:=by
 unfold isIS at h;split at h
 ·rfl
 ·cases h
open SR SetL
end PL
namespace PL
open PySem L2
noncomputable def luS{α:Type}(tbl:List (Str×α))(z:Str):Option α:=(tbl.find? λp=>decide (p.1=z)).map (·.2)
noncomputable def TopT(K:W.Frag)(mg:Str->Option Value)(w:World)(D:Str)(tbl:List (Str×Str)):Prop:=
 ∃(a:Addr) (es:Array DictEntry) (n:Nat),mg D=some (.ref a)/\K.lookup a=some ⟨.type "dict",none,.dict es n, #[]⟩/\W.KeysLit w.params es.toList/\(a==sysModules)=false/\
  ∀z,match luS tbl z with|none=>findBy Value.isStrOf es z=none|some g=> ∃f,findBy Value.isStrOf es z=some (.ref f)/\W.nsIn K mainGlobals g=some (some (.ref f))
noncomputable def esOf(K:W.Frag)(D:Str):Option (List DictEntry):=match W.nsIn K mainGlobals D with
 |some (some (.ref a))=>(match K.lookup a with|some ⟨.type "dict",none,.dict es _,sl⟩=>if(a==sysModules)=false/\sl.size=0 then some es.toList else none|_=>none)
 |_=>none
noncomputable def qqx(K:W.Frag):List DictEntry->List (Str×Str)->Bool
 |[],[]=>true
 |e::es,(k,g)::tb=>(match e.key,e.val,W.nsIn K mainGlobals g with|.str x _,.ref f,some (some (.ref f'))=>x==k&&f==f'|_,_,_=>false)&&qqx K es tb
 |_,_=>false
noncomputable def topB(K:W.Frag)(D:Str)(tbl:List (Str×Str)):Bool:=match esOf K D with
 |some es=>qqx K es tbl
 |none=>false
theorem qfz: ∀{es:List DictEntry} {tbl:List (Str×Str)},qqx K es tbl=true->es.map (·.hash)=tbl.map (λp=>PyData.keyHash P p.1)->W.KeysLit P es
 |[],[],_,_=>True.intro
 |e::es,(k,g)::tb,h,hh=>by
  unfold qqx at h;have h:=Bool.and_eq_true_iff.mp h;have h1:=h.1;split at h1
  ·rename_i x t f f' e1 e2 e3;have h1:=Bool.and_eq_true_iff.mp h1;have:x=k:=by simpa using h1.1
   subst this;exact⟨⟨x,t,e1,(List.cons.inj hh).1⟩,qfz h.2 (List.cons.inj hh).2⟩
  ·cases h1
 |[],_::_,h,_=>by cases h
 |_::_,[],h,_=>by cases h
theorem qfA (z:Str): ∀{es:List DictEntry} {tbl:List (Str×Str)},qqx K es tbl=true->
  match luS tbl z with|none=>(es.find? λe=>Value.isStrOf z e.key).map (·.val)=none|some g=> ∃f,(es.find? λe=>Value.isStrOf z e.key).map (·.val)=some (.ref f)/\W.nsIn K mainGlobals g=some (some (.ref f))
 |[],[],_=>rfl
 |e::es,(k,g)::tb,h=>by
  unfold qqx at h;have h:=Bool.and_eq_true_iff.mp h;have h1:=h.1;split at h1
  ·rename_i x t f f' e1 e2 e3;have h1:=Bool.and_eq_true_iff.mp h1;have:x=k:=by simpa using h1.1
   subst this;have:f=f':=by simpa using h1.2
   subst this;by_cases c:x=z
   ·subst c;have l:luS ((x,g)::tb) x=some g:=by simp[luS,List.find?_cons]
    rw[l];refine⟨f,?_,e3⟩;have:Value.isStrOf x e.key=true:=by rw[e1];show(x==x)=true;simp
    rw[List.find?_cons,this];exact congrArg some e2
   ·have l:luS ((x,g)::tb) z=luS tb z:=by simp[luS,List.find?_cons,c]
    have n:Value.isStrOf z e.key=false:=by rw[e1];show(x==z)=false;exact beq_eq_false_iff_ne.mpr c
    rw[l,List.find?_cons,n];exact qfA z h.2
  ·cases h1
 |[],_::_,h=>by cases h
 |_::_,[],h=>by cases h
theorem topT_of(X:K.In h)(G:h.Ns mainGlobals mg)(b:topB K D tbl=true)(hh:(esOf K D).map (λes=>es.map (·.hash))=some (tbl.map λp=>PyData.keyHash w.params p.1)):TopT K mg w D tbl:=by
 unfold topB at b;split at b
 ·rename_i es e;rw[e] at hh;have hh:=Option.some.inj hh;unfold esOf at e;split at e
  ·rename_i a n;split at e
   ·rename_i eZ m sl l;split at e
    ·rename_i c;cases e;have:sl= #[]:=by simpa using c.2
     subst this;refine⟨a,eZ,m,W.mg_of X G n,l,qfz b hh,c.1,λz=> ?_⟩;have:=qfA z b;unfold findBy;rw[<-Array.find?_toList];exact this
    ·cases e
   ·cases e
  ·cases e
 ·cases b
section
theorem op_topin (hl:X.K.lookup a=some ⟨.type "dict",none,.dict es n, #[]⟩) (hk:W.KeysLit X.w.params es.toList) (lo:(a==sysModules)=false) (hz: ∀z,match luS tbl z with | none=>findBy Value.isStrOf es z=none | some g=> ∃f,findBy Value.isStrOf es z=some (.ref f)/\W.nsIn X.K mainGlobals g=some (some (.ref f))):
  OpR X (compareOp .In) (λx y H Q=> ∃z,x= .str z/\y= .ref a/\Q (.bl (luS tbl z).isSome) H):=by
 intro pins s σ H x y v u Q I rx ry q;obtain⟨z,rfl,rfl,q⟩:=q;obtain⟨t,rfl⟩:=rx;cases ry;refine PySem.wpAny_in_of (PySem.strKind_is X.prog X.w z t) lo (W.mapOf_K (prog:=X.prog) I.kIn hl hk) ?_;have:(findBy Value.isStrOf es z).isSome=(luS tbl z).isSome:=by
  have:=hz z;split at this
  ·rename_i e;rw[this,e];rfl
  ·rename_i g e;obtain⟨f,h1,_⟩:=this;rw[h1,e];rfl
 rw[this];exact⟨.bl _,H,I.tok _,rfl,q⟩
end
section
theorem fn_same(I:L2.Inv X pins σ H s)(h:W.nsIn X.K mainGlobals g=some (some (.ref f)))(m:X.mg g=some (.ref f')):f=f':=by have:=W.mg_of I.ok.mod.kin I.ok.mod.glob h;rw[m] at this;cases this;rfl
end
end PL
namespace HD
open PySem L2 PL
noncomputable def clOf(K:W.Frag)(x:Str):Addr:=match W.nsIn K mainGlobals x with
 |some (some (.ref C))=>C
 |_=>0
noncomputable def noB(K:W.Frag)(C:Addr)(f:Str):Bool:=match W.findIn K (.ref C) f with
 |some none=>true
 |_=>false
noncomputable def quO(K:W.Frag)(x:Str)(fs:List Str):Bool:=match W.nsIn K mainGlobals x with
 |some (some (.ref C))=>W.plainGet K C Str.empty&&(W.hasDictIn K C&&(W.plainOver K C&&((match W.findIn K (.ref C) "__setattr__" with|some (some (.builtin n))=>n== "object.__setattr__" | _=>false)&&(W.makesIn K C&&(W.keepIn K (.ref C)&&fs.all (noB K C))))))
 |_=>false
theorem qvT (X:K.In h) (G:h.Ns mainGlobals mg) (a:quO K x fs=true):
  mg x=some (.ref (clOf K x))/\Cls K (clOf K x)/\W.makesIn K (clOf K x)=true/\W.keepIn K (.ref (clOf K x))=true/\∀f∈fs,qbb K (clOf K x) f:=by
 unfold quO at a;split at a
 ·rename_i C n;have e:clOf K x=C:=by unfold clOf;rw[n]
  rw[e];simp only[Bool.and_eq_true] at a;obtain⟨a1,a2,a3,a4,a5,a6,a7⟩:=a;refine⟨W.mg_of X G n,⟨a1,a2,a3,?_⟩,a5,a6,λf hf=> ?_⟩
  ·split at a4
   ·rename_i m q;have:m= "object.__setattr__" :=by simpa using a4
    rw[q,this]
   ·cases a4
  ·have:=List.all_eq_true.mp a7 f hf;unfold noB at this;split at this
   ·assumption
   ·cases this
 ·cases a
noncomputable def quW(K:W.Frag)(C:Addr)(m:Str):Option (Addr×Obj):=match W.findIn K (.ref C) m with
 |some (some (.ref f))=>(match K.lookup f with|some o=>some (f,o)|none=>none)
 |_=>none
noncomputable def qr0(K:W.Frag)(C:Addr)(m:Str):Option FuncData:=match quW K C m with
 |some (_,⟨_,_,.func fd,_⟩)=>some fd
 |_=>none
noncomputable def okM(K:W.Frag)(C:Addr)(m q:Str):Bool:=match quW K C m with
 |some (f,⟨_,_,.func fd,_⟩)=>W.isFn K (.ref f)&&(W.codeIn K fd.code q&&W.keepIn K (.ref f))
 |_=>false
noncomputable def qvD(m q:Str)(st:Stmt)(fd:FuncData):FuncData:=W.fnOf m q (qar st) (qay st) (qae st) .none fd.kwdefaults fd.doc fd.pyModule fd.annotations fd.code fd.closureTuple
noncomputable def DfM(K:W.Frag)(C:Addr)(m q:Str)(st:Stmt):Prop:=
 ∃(f:Addr) (oc:Value) (od:Option Addr) (osl:Array (Option Value)) (kV doc pm:Value) (an:Option Addr) (cdv ct:Value),
  K.lookup f=some ⟨oc,od,.func (W.fnOf m q (qar st) (qay st) (qae st) .none kV doc pm an cdv ct),osl⟩/\W.codeIn K cdv q=true/\qts K C m f
theorem qsO(a:okM K C m q=true)(e:qr0 K C m=(qr0 K C m).map (qvD m q st)):DfM K C m q st:=by
 unfold okM at a;unfold qr0 at e;split at a
 ·rename_i f oc od fd osl z;rw[z] at e;have e:fd=qvD m q st fd:=Option.some.inj e;unfold quW at z;split at z
  ·rename_i f' n;split at z
   ·rename_i o lk;cases z;simp only[Bool.and_eq_true] at a;exact⟨_,_,_,_,fd.kwdefaults,fd.doc,fd.pyModule,fd.annotations,fd.code,fd.closureTuple,by rw[lk,show W.fnOf m q (qar st) (qay st) (qae st) .none fd.kwdefaults fd.doc fd.pyModule fd.annotations fd.code fd.closureTuple=fd from e.symm],a.2.1,⟨n,a.1,a.2.2⟩⟩
   ·cases z
  ·cases z
 ·cases a
end HD
namespace PL
open PySem L2 SR SetL
end PL
namespace HD
open PySem L2 PL
noncomputable def qqb:List Str:=["Ended", "Full", "NoAsk", "NoBack", "NoName", "NoNumber", "NoRow", "NoText", "TooLate", "Unlike"]
noncomputable def nsC(K:W.Frag)(x:Str):Bool:=match W.nsIn K mainGlobals x with
 |some (some (.ref _))=>true
 |_=>false
theorem qrW(X:K.In h)(G:h.Ns mainGlobals mg)(a:nsC K x=true):mg x=some (.ref (clOf K x)):=by
 unfold nsC at a;split at a
 ·rename_i C n;have e:clOf K x=C:=by unfold clOf;rw[n]
  rw[e];exact W.mg_of X G n
 ·cases a
structure qyh(K:W.Frag)(mg:Str->Option Value):Prop where
 a:mg "AskError" =some (.ref (clOf K "AskError"))
 ea:qfy K (clOf K "AskError") bmV=true
 m: ∀j<10,mg (qqb.getD j "")=some (.ref (clOf K (qqb.getD j "")))
 e: ∀j<10,qfy K (clOf K (qqb.getD j "")) (.ref (clOf K "AskError")::bmV)=true
 c: ∀j<10,(W.clsIn K (clOf K (qqb.getD j ""))).isSome=true
 v: ∀j<10,W.kitOne K (.ref (clOf K (qqb.getD j ""))) (.type "ValueError")=some true
 k: ∀j<10,∀i<10,W.kitOne K (.ref (clOf K (qqb.getD j ""))) (.ref (clOf K (qqb.getD i "")))=some (i==j)
theorem qtS{Ts:List Addr}{p:Addr×Str}(h: ∀T∈Ts,H T=some (.tbl #[]))(hp:p∈Ts.zip qz):qk4 p.1 p.2 H:=⟨#[],h _ (Vy hp).1,trivial,λpos v e=>by cases e⟩
end HD
namespace L2
open PySem PySem.Spec PySem.Calls PyProof.Rows
end L2
namespace PL
open PySem L2 SR SetL
end PL
namespace L2
open PySem PySem.Spec PyProof.Rows
end L2
namespace PL
open PySem L2
end PL
section
set_option maxHeartbeats 1000000
namespace TM
open PySem Builtin PySem.Spec
section
theorem qjD(hit:s.heap.IsTupleIter it t i)(ht:s.heap.IsTuple t items)(hx:items[i]? =some x)(hQ: ∀h',h'.IsTupleIter it t (i+1)->Heap.SameBut it s.heap h'->Q x { s with heap:=h' }):wpAny (model prog w) A (SmallTypes.nextOf (.ref it)) Q E s:=by obtain⟨o,ho,hc,hd⟩:=id hit;obtain⟨ol,gn,_,nl,eQ⟩:=ht;unfold SmallTypes.nextOf;refine Va (wpAny_callSpecial?_slot (name:=Str.ofString "__next__") hit.typeIs F.slot_tuple_iterator_next (wpAny_call_entry F.slot_tuple_iterator_next hit.typeIs F.entry_tuple_iterator_next ?_ (F.args_tuple_iterator_next_1 _)));show wpAny _ _ (field (.ref it) 0>>=_) _ _ s;refine Va (wpAny_field ho hd (x:=.ref t) rfl ?_);show wpAny _ _ (if(Value.ref t==Value.none)=true then _ else _) _ _ s;rw[if_neg (show ¬((Value.ref t==Value.none)=true) from Bool.false_ne_true)];refine Va (m:=field (.ref it) 1) (wpAny_field ho hd (x:=.int i 0) rfl ?_);refine Va (m:=seqItems? (.ref t)) (wpAny_seqItems gn eQ ?_);simp only[Int.toNat_natCast,hx];refine Va (wpAny_setField ho hd (by simp) ?_);refine Vb ⟨x,rfl,Vb (hQ _ ⟨_,Heap.get?_update_self _ ho (Obj.isFreed_of_fields (Obj.data_mapFields hd _)),(Obj.cls_mapFields ..).trans hc,?_⟩ (Heap.SameBut.update ..))⟩;rw[Obj.data_mapFields hd];simp[rawInt]
theorem ql5 (hh:A.handled=none) (hit:s.heap.IsTupleIter it t i) (ht:s.heap.IsTuple t items) (hx:items[i]? =none) (hE: ∀h' e,Heap.ExtBut it s.heap h'->(∃o,h'.get? e=some o/\o.cls= .type "StopIteration")->E (.ref e) { s with heap:=h' }):wpAny (model prog w) A (SmallTypes.nextOf (.ref it)) Q E s:=by
 obtain⟨o,ho,hc,hd⟩:=id hit;obtain⟨ol,gn,_,nl,eQ⟩:=ht;unfold SmallTypes.nextOf;refine Va (wpAny_callSpecial?_slot (name:=Str.ofString "__next__") hit.typeIs F.slot_tuple_iterator_next (wpAny_call_entry F.slot_tuple_iterator_next hit.typeIs F.entry_tuple_iterator_next ?_ (F.args_tuple_iterator_next_1 _)));show wpAny _ _ (field (.ref it) 0>>=_) _ _ s;refine Va (wpAny_field ho hd (x:=.ref t) rfl ?_);show wpAny _ _ (if(Value.ref t==Value.none)=true then _ else _) _ _ s;rw[if_neg (show ¬((Value.ref t==Value.none)=true) from Bool.false_ne_true)];refine Va (m:=field (.ref it) 1) (wpAny_field ho hd (x:=.int i 0) rfl ?_);refine Va (m:=seqItems? (.ref t)) (wpAny_seqItems gn eQ ?_);simp only[Int.toNat_natCast,hx];refine Va (wpAny_rule ?_);refine Va (wpAny_setField ho hd (by simp) ?_);obtain⟨hp,g,d,tk,os⟩:=s;unfold SmallTypes.stopIteration
 wp_walk
 refine wpAny_raiseNew_none hh (hE _ _ (λb o' hb e=>Vg _ (Vg _ (((Heap.SameBut.update ..).2 b hb).trans e))) ⟨_,Vh _ rfl,rfl⟩)
theorem draws_tup(hh:A.handled=none)(it t:Addr)(aH:t≠it)(items:Array Value):Draws prog w A it [it,t] items.size (λi v=>items[i]? =some v) (λi h=>h.IsTupleIter it t i/\h.IsTuple t items) where
 live:=λ_ _ st=>let ⟨o,ho,_⟩:=st.1;⟨o,ho⟩
 frame:=λ_ _ _ st hk=>⟨let ⟨o,ho,r⟩:=st.1;⟨o,hk it (by simp) o ho,r⟩,let ⟨o,ho,r⟩:=st.2;⟨o,hk t (by simp) o ho,r⟩⟩
 item:=λi s Q E hi st hQ=>by refine qjD st.1 st.2 (x:=items[i]) (by simp[hi]) λh' gF cz=> ?_;exact hQ _ h' s.toks (by simp[hi]) ⟨gF,st.2.extBut cz.extBut aH⟩ cz
 done:=λs Q E st hE=>ql5 hh st.1 st.2 (by simp) hE
end
end TM
namespace L2
open PySem PySem.Spec PyProof.Rows
end L2
namespace PL
open PySem L2
end PL
end
namespace NV
open PySem L2
inductive Ito where
 |fx (ts:List T)|lv (k:Nat)
noncomputable def nxt:Ito->Mu->Nat->Option (Option T)
 |.fx ts,_,i=>some ts[i]?
 |.lv k,μ,i=>match μ.l[k]? with|some (.ls ts)=>some ts[i]?|_=>none
noncomputable def qbU:Ito->Mu->Nat
 |.fx ts,_=>ts.length
 |.lv k,μ=>match μ.l[k]? with|some (.ls ts)=>ts.length|_=>0
noncomputable def qiB(M:Md)(J:It)(B1:qal)(it:Ito):Prop:= ∀μ' H' B',Hs M μ' H' B'->Le B1 B'->∀i:Nat,
 (∀t,nxt it μ' i=some (some t)->J.go i H'/\∀x bC,J.yld i H' x bC->∃ie,Hs M μ' bC ie/\Go H' B' bC ie/\Rep M.K ie t x)/\((∀ts,it= .fx ts->i<=ts.length)->nxt it μ' i=some none->J.stop i H')
noncomputable def KI(M:Md)(H:Hp)(B:qal)(R:It->Hp->Prop):Ito->Mu->Prop:=λit μ=> ∀J H1 B1,Hs M μ H1 B1->Go H B H1 B1->qbU it μ<=sizeLine->qiB M J B1 it->R J H1
noncomputable def tI(M:Md)(E:XK)(d:DS0 Ito):TI:=λσ H R=> ∃ρ μ B,Ev M ρ μ σ H B/\Wn M E H B (KI M H B R) (d ρ μ)
noncomputable def qnA:T->Mu->R Ito
 |.lst ts,μ=>.ok (.fx ts) μ
 |.tup ts,μ=>.ok (.fx ts) μ
 |.obj k,μ=>(match μ.l[k]? with|some (.ls _)=>.ok (.lv k) μ|_=>.no)
 |.str z,μ=>if z.length<=1000 then .ok (.fx (z.cps.toList.map λc=>.str ⟨#[c]⟩)) μ else .no
 |_,_=>.no
noncomputable def dIt(da:DS0 T):DS0 Ito:=dSq da λt _ μ=>qnA t μ
noncomputable def qw1(lo hi:Int):List T:=(List.range (hi - lo).toNat).map λk=>.int (lo+(k:Nat))
noncomputable def qg6:List T->Mu->R Ito
 |[.int n],μ=>if n<=1000000/\ -1000000<=n then .ok (.fx ((List.range n.toNat).map λk=>.int (k:Nat))) μ else .no
 |_,_=>.no
noncomputable def qg5:List T->Mu->R Ito
 |[.int m,.int n],μ=>if(n<=1000000/\ -1000000<=n)/\m<=1000000/\ -1000000<=m then .ok (.fx (qw1 m n)) μ else .no
 |_,_=>.no
noncomputable def sqv(μ:Mu):T->Option (Bool×List T)
 |.lst ts=>some (true,ts)
 |.tup ts=>some (false,ts)
 |.obj k=>(match μ.l[k]? with|some (.ls ts)=>some (true,ts)|_=>none)
 |_=>none
noncomputable def qsx(xs:List T):List T:=xs.zipIdx.map λp=>.tup [.int (p.2:Nat),p.1]
noncomputable def qsy:List T->Mu->R Ito
 |[.lst xs],μ=>.ok (.fx (qsx xs)) μ
 |[.tup xs],μ=>.ok (.fx (qsx xs)) μ
 |_,_=>.no
noncomputable def dIA(g:List T->Mu->R Ito)(ds:DS0 (List T)):DS0 Ito:=dSq ds λts _ μ=>g ts μ
section
variable {M:Md}{E:XK}{X:Cx}{tg e a b:Expr}{da:DS0 T}{ds:DS0 (List T)}
theorem PI.or{t t':TI}(h:PI X tg e t)(h':PI X tg e t'):PI X tg e (λσ H R=>t σ H R\/t' σ H R):=λpins s σ H R I q=>q.elim (h pins s σ H R I) (h' pins s σ H R I)
theorem qeD:PI X tg e (tI M E dNo):=λ_ _ _ _ _ _ ⟨_,_,_,_,w⟩=>w.elim
theorem qiN{p:Addr}{vs:List V}{ts:List T}{B1:qal}(hp:B1 p=some (.lst vs))(r:Reps M.K B1 ts vs):qiB M (Itl M.K p) B1 (.fx ts):=λμ' H' B' h le i=>by
 have q:SqL M.K H' p vs:=SqL.of (h.bh _ _ (le.h _ _ hp));refine⟨λt et=> ?_,λhl hi=> ?_⟩
 ·obtain⟨x,ex,rx⟩:=r.get (Option.some.inj et);refine⟨⟨vs,x,q,ex⟩,λy bC ⟨e1,e2⟩=> ?_⟩;subst e1;have:=e2 vs q;rw[ex] at this;cases this;exact⟨B',h,.refl,rx.mono le⟩
 ·exact⟨vs,q,by rw[r.length];exact List.getElem?_eq_none_iff.mp (Option.some.inj hi)⟩
theorem qli{p:Addr}{vs:List V}{ts:List T}{B1:qal}(hp:B1 p=some (.tup vs))(r:Reps M.K B1 ts vs):qiB M (Itt M.K p) B1 (.fx ts):=λμ' H' B' h le i=>by
 have q:SqT M.K H' p vs:=SqT.of (h.bh _ _ (le.h _ _ hp));refine⟨λt et=> ?_,λhl hi=> ?_⟩
 ·obtain⟨x,ex,rx⟩:=r.get (Option.some.inj et);refine⟨⟨vs,x,q,ex⟩,λy bC ⟨e1,e2⟩=> ?_⟩;subst e1;have:=e2 vs q;rw[ex] at this;cases this;exact⟨B',h,.refl,rx.mono le⟩
 ·exact⟨vs,q,by rw[r.length];exact List.getElem?_eq_none_iff.mp (Option.some.inj hi)⟩
theorem qn9{k:Nat}{p:Addr}{B1:qal}(hp:B1.ad k=some p):qiB M (Itl M.K p) B1 (.lv k):=λμ' H' B' h le i=>by
 have go: ∀{o:Option T},nxt (.lv k) μ' i=some o->∃ts vs,o=ts[i]? /\SqL M.K H' p vs/\Reps M.K B' ts vs:=λ{o} e=>by
  have e:(match μ'.l[k]? with|some (.ls ts)=>some ts[i]?|_=>none)=some o:=e;split at e
  ·rename_i ts el;cases e;obtain⟨u,_,hu,vs,rfl,rv⟩:=h.at el (by simp) (le.d _ _ hp);exact⟨ts,vs,rfl,SqL.of hu,rv⟩
  ·cases e
 refine⟨λt et=> ?_,λhl hi=> ?_⟩
 ·obtain⟨ts,vs,e,q,r⟩:=go et;obtain⟨x,ex,rx⟩:=r.get e.symm;refine⟨⟨vs,x,q,ex⟩,λy bC ⟨e1,e2⟩=> ?_⟩;subst e1;have:=e2 vs q;rw[ex] at this;cases this;exact⟨B',h,.refl,rx⟩
 ·obtain⟨ts,vs,e,q,r⟩:=go hi;exact⟨vs,q,by rw[r.length];exact List.getElem?_eq_none_iff.mp e.symm⟩
theorem qlj{z:Str}{B1:qal}{J:It}(hJ:J=⟨λi _=>i<z.cps.size,λi H x H'=>H'=H/\∃c,z.cps[i]? =some c/\x= .str ⟨#[c]⟩,λi _=>z.cps.size<=i⟩):qiB M J B1 (.fx (z.cps.toList.map λc=>.str ⟨#[c]⟩)):=λμ' H' B' h le i=>by
 subst hJ;refine⟨λt et=> ?_,λhl hi=> ?_⟩
 ·have et:=Option.some.inj et;rw[List.getElem?_map] at et;cases q:z.cps.toList[i]? with
  |none=>rw[q] at et;cases et
  |some c=>rw[q] at et;cases et;have hi:=(List.getElem?_eq_some_iff.mp q).1;refine⟨show i<z.cps.size by simpa using hi,λy bC ⟨e1,c',e2,e3⟩=> ?_⟩;subst e1 e3;rw[Array.getElem?_toList] at q;rw[q] at e2;cases e2;exact⟨B',h,.refl,qcs⟩
 ·have hi:=List.getElem?_eq_none_iff.mp (Option.some.inj hi);rw[List.length_map,Array.length_toList] at hi;exact hi
theorem qsM(h:PE X e (tE M E da))(hK:X.K=M.K):PI X tg e (tI M E (dIt da)):=by
 refine PI.weak (PI.or (PL.pi_seq h) (qro h)) λσ H R hq=> ?_;obtain⟨ρ,μ,B,ev,w⟩:=hq;rw[hK];have w:Wn M E H B (KI M H B R) ((da ρ μ).bind qnA):=w;cases q:da ρ μ with
 |no=>rw[q] at w;exact w.elim
 |ex c m=>rw[q] at w;exact .inl ⟨ρ,μ,B,ev,by rw[q];exact w⟩
 |ok t m=>
  rw[q] at w;have w:Wn M E H B (KI M H B R) (qnA t m):=w;cases t with
  | lst ts=>exact .inl ⟨ρ,μ,B,ev,by
    rw[q];intro v H1 B1 h1 g1 r1;obtain⟨p,vs,rfl,hp,r⟩:=qaB r1;exact⟨p,rfl,.inl ⟨vs,SqL.of (h1.bh _ _ hp),λhz=>w _ H1 B1 h1 g1 (by show ts.length<=_;rw[<-r.length];exact hz) (qiN hp r)⟩⟩⟩
  | tup ts=>exact .inl ⟨ρ,μ,B,ev,by
    rw[q];intro v H1 B1 h1 g1 r1;obtain⟨p,vs,rfl,hp,r⟩:=qaw r1;exact⟨p,rfl,.inr ⟨vs,SqT.of (h1.bh _ _ hp),λhz=>w _ H1 B1 h1 g1 (by show ts.length<=_;rw[<-r.length];exact hz) (qli hp r)⟩⟩⟩
  | obj k=>exact .inl ⟨ρ,μ,B,ev,by
    rw[q];intro v H1 B1 h1 g1 r1;obtain⟨p,rfl,ep⟩:=qaA r1;unfold qnA at w;dsimp only at w;split at w
    ·rename_i ts el;obtain⟨u,_,hu,vs,rfl,rv⟩:=h1.at el (by simp) ep;exact⟨p,rfl,.inl ⟨vs,SqL.of hu,λhz=>w _ H1 B1 h1 g1 (by show(match m.l[k]? with|some (.ls ts)=>ts.length|_=>0)<=_;rw[el];show ts.length<=_;rw[<-rv.length];exact hz) (qn9 ep)⟩⟩
    ·exact w.elim⟩
  | str z=>exact .inr ⟨ρ,μ,B,ev,by
    rw[q];intro v H1 B1 h1 g1 r1;cases qaz r1;have w:Wn M E H B (KI M H B R) (if z.length<=1000 then _ else _):=w;split at w
    ·rename_i hz;exact⟨z,rfl,w _ H1 B1 h1 g1 (by show(z.cps.toList.map _).length<=_;rw[List.length_map,Array.length_toList];exact Vp (qcS hz)) (qlj rfl)⟩
    ·exact w.elim⟩
  |_=>exact w.elim
theorem qdz{lo:Int}{n:Nat}{B1:qal}:qiB M (L2.Itr lo n) B1 (.fx ((List.range n).map λk=>.int (lo+(k:Nat)))):=λμ' H' B' h le i=>by
 refine⟨λt et=> ?_,λhl hi=> ?_⟩
 ·have et:=Option.some.inj et;rw[List.getElem?_map] at et;cases q:(List.range n)[i]? with
  |none=>rw[q] at et;cases et
  |some j=>rw[q] at et;cases et;obtain⟨hi,ej⟩:=List.getElem?_eq_some_iff.mp q;rw[List.getElem_range] at ej;subst ej;refine⟨show i<n by simpa using hi,λy bC ⟨e1,e2⟩=> ?_⟩;subst e1 e2;exact⟨B',h,.refl,qaL⟩
 ·have hi:=List.getElem?_eq_none_iff.mp (Option.some.inj hi);rw[List.length_map,List.length_range] at hi;exact hi
theorem qkn {p pos:Pos} (hg:Gl X "range") (hm:X.mg "range" =none) (ha:PA X [a] (tA M E ds)) (hs:starEach [a] X.env=[(false,eval a X.env)]):PI X tg (.Call (.Name "range" p) [a] [] pos) (tI M E (dIA qg6 ds)):=by
 refine PI.weak (qjr hg hm ha hs) λσ H R ⟨ρ,μ,B,ev,w⟩=>⟨ρ,μ,B,ev,(Wn.bind w).mono λts m w1 vs H1 B1 h1 g1 r1=> ?_⟩
 change Wn M E H B (KI M H B R) (qg6 ts m) at w1
 unfold qg6 at w1;split at w1
 ·rename_i n;obtain⟨v,r,rfl,a1,b1⟩:=r1.inv;cases b1.inv0;cases qaf a1;split at w1
  ·rename_i hn;have l0:=PL.line1M;refine⟨n,rfl,by omega,by omega,w1 _ H1 B1 h1 g1 (by show(List.map _ _).length<=_;rw[List.length_map,List.length_range];omega) ?_⟩;have:=qdz (M:=M) (lo:=0) (n:=n.toNat) (B1:=B1);simpa using this
  ·exact w1.elim
 ·exact w1.elim
theorem qkm {p pos:Pos} (hg:Gl X "range") (hm:X.mg "range" =none) (ha:PA X [a,b] (tA M E ds)) (hs:starEach [a,b] X.env=[(false,eval a X.env),(false,eval b X.env)]) (bG:starEach [b] X.env=[(false,eval b X.env)]):PI X tg (.Call (.Name "range" p) [a,b] [] pos) (tI M E (dIA qg5 ds)):=by
 refine PI.weak (qjq hg hm ha hs bG) λσ H R ⟨ρ,μ,B,ev,w⟩=>⟨ρ,μ,B,ev,(Wn.bind w).mono λts m w1 vs H1 B1 h1 g1 r1=> ?_⟩
 change Wn M E H B (KI M H B R) (qg5 ts m) at w1
 unfold qg5 at w1;split at w1
 ·rename_i i n;obtain⟨v,r,rfl,a1,b1⟩:=r1.inv;obtain⟨v2,r2,rfl,a2,b2⟩:=b1.inv;cases b2.inv0;cases qaf a1;cases qaf a2;split at w1
  ·rename_i hn;have l0:(1000000:Nat)<=sizeLine:=by decide
   have l1:2000000<=sizeLine:=by decide
   exact⟨i,n,rfl,by omega,w1 _ H1 B1 h1 g1 (by show(List.map _ _).length<=_;rw[List.length_map,List.length_range];omega) qdz⟩
  ·exact w1.elim
 ·exact w1.elim
end
noncomputable def qlo(k:DS0 Out):Out->Mu->R Out
 |.nx ρ,μ=>k ρ μ
 |.ct ρ,μ=>k ρ μ
 |.bk ρ,μ=>.ok (.nx ρ) μ
 |.rt t,μ=>.ok (.rt t) μ
noncomputable def qfv(it:Ito)(dg:T->DS0 Ro)(db:DS0 Out):Nat->Nat->DS0 Out
 |0,i=>λρ μ=>match nxt it μ i with|some none=>.ok (.nx ρ) μ|_=>.no
 |n+1,i=>λρ μ=>match nxt it μ i with
  |some none=>.ok (.nx ρ) μ
  |some (some t)=>(dg t ρ μ).bind λao aa=>(db ao aa).bind (qlo (qfv it dg db n (i+1)))
  |none=>.no
noncomputable def qvu(dg:T->DS0 Ro)(db:DS0 Out):List T->DS0 Out
 |[]=>λρ μ=>.ok (.nx ρ) μ
 |t::ts=>λρ μ=>(dg t ρ μ).bind λao aa=>(db ao aa).bind (qlo (qvu dg db ts))
theorem qkd{dg:T->DS0 Ro}{db:DS0 Out}{ts:List T}: ∀(n i:Nat),ts.length<=n+i->qfv (.fx ts) dg db n i=qvu dg db (ts.drop i)
 |0,i,h=>by
  have e:ts[i]? =none:=List.getElem?_eq_none_iff.mpr (by omega)
  funext ρ μ
  rw[List.drop_eq_nil_of_le (by omega)];show(match some ts[i]? with|some none=>R.ok (Out.nx ρ) μ|_=>.no)=_;rw[e];rfl
 |n+1,i,h=>by
  funext ρ μ
  show(match some ts[i]? with|some none=>R.ok (Out.nx ρ) μ|some (some t)=>_|none=>.no)=_;cases q:ts[i]? with
  |none=>rw[List.drop_eq_nil_of_le (List.getElem?_eq_none_iff.mp q)];rfl
  |some t=>obtain⟨hi,et⟩:=List.getElem?_eq_some_iff.mp q;rw[List.drop_eq_getElem_cons hi,et];show(dg t ρ μ).bind (λao aa=>(db ao aa).bind (qlo (qfv (.fx ts) dg db n (i+1))))=_;rw[qkd n (i+1) (by omega)];rfl
noncomputable def qtH(dg:T->DS0 Ro)(db:DS0 Out):Ito->DS0 Out
 |.fx ts=>qvu dg db ts
 |.lv k=>λρ μ=>qfv (.lv k) dg db (qbU (.lv k) μ) 0 ρ μ
noncomputable def qwN(di:DS0 Ito)(dg:T->DS0 Ro)(db:DS0 Out):DS0 Out:=dSq di (qtH dg db)
theorem qke{dg:T->DS0 Ro}{db:DS0 Out}{it:Ito}{ρ:Ro}{μ:Mu}:qtH dg db it ρ μ=qfv it dg db (qbU it μ) 0 ρ μ:=by
 cases it with
 |fx ts=>rw[qkd _ 0 (by exact Nat.le_refl _)];rfl
 |lv k=>rfl
section
variable {M:Md}{E:XK}{X:Cx}{tg iter:Expr}{body:List Stmt}{pos:Pos}{di:DS0 Ito}{dg:T->DS0 Ro}{db:DS0 Out}
theorem qsH (hp:PassesOwn (model X.prog X.w) X.A X.env X.xe) (hc:X.calm=true) (hi:PI X tg iter (tI M E di)) (hg:PG X tg (tG M E dg)) (hb:PSs X body (tS M E db))
  (hs: ∀x,foldedSetIterable iter X.env x=pure x):PS X (.For tg iter body [] pos) (tS M E (qwN di dg db)):=by
 refine PS.weak (qrj hp hc hi hg hb hs) λD σ H ⟨ρ,μ,B,ev,w⟩=>⟨ρ,μ,B,ev,(Wn.bind w).mono λit m w1 J H1 B1 h1 g1 hz wk=> ?_⟩
 have w1:Wn M E H B (KS M H B D) (qtH dg db it ρ m):=w1;rw[qke] at w1;refine⟨λi n ag H'=> ∃ρ' μ' B',Ev M ρ' μ' ag H' B'/\Go H1 B1 H' B'/\(∀ts,it= .fx ts->i<=ts.length)/\Wn M E H B (KS M H B D) (qfv it dg db n i ρ' μ'),⟨_,ρ,m,B1,ev.on h1 g1.le,.refl,λ_ _=>Nat.zero_le _,w1⟩,?_⟩;rintro i n ag H' ⟨ρ',μ',B',bY,g',hl,w2⟩;have stop:nxt it μ' i=some none->(R.ok (Out.nx ρ') μ'=qfv it dg db n i ρ' μ')->J.stop i H'/\D.nx ag H':=λe q=>by rw[<-q] at w2;exact⟨(wk μ' H' B' bY.hs g'.le i).2 hl e,w2 ag H' B' bY (g1.trans g')⟩
 cases q:nxt it μ' i with
 |none=>cases n<;>(unfold qfv at w2;rw[q] at w2;exact w2.elim)
 |some o=>
  cases o with
  |none=>exact .inl (stop q (by cases n<;>(unfold qfv;rw[q])))
  |some t=>
   cases n with
   |zero=>unfold qfv at w2;rw[q] at w2;exact w2.elim
   |succ n=>
    have w2:Wn M E H B (KS M H B D) ((dg t ρ' μ').bind λao aa=>(db ao aa).bind (qlo (qfv it dg db n (i+1)))):=by unfold qfv at w2;rw[q] at w2;exact w2
    obtain⟨go,yl⟩:=(wk μ' H' B' bY.hs g'.le i).1 t q;refine .inr ⟨go,λdH bC=> ∃ax af B2,Ev M ax af dH bC B2/\Go H1 B1 bC B2/\(∀ts,it= .fx ts->i+1<=ts.length)/\Wn M E H B (KS M H B D) (qfv it dg db n (i+1) ax af),λdH bC h=>⟨n,Wb n,h⟩,λx H3 y=> ?_⟩;obtain⟨B3,h3,g3,r3⟩:=yl x H3 y;have gg:=g1.trans (g'.trans g3);have bV: ∀ts,it= .fx ts->i+1<=ts.length:=λts e=>by subst e;exact(List.getElem?_eq_some_iff.mp (Option.some.inj q)).1
    refine⟨ρ',μ',B3,t,bY.on h3 g3.le,r3,(Wn.bind w2).lift gg λao aa w3 cD H4 B4 e4 g4=> ?_⟩;refine⟨ao,aa,B4,e4,(Wn.bind w3).lift (gg.trans g4) λo af w4=> ?_⟩;cases o with
    |nx ax|ct ax=>exactλcq H5 B5 e5 g5=>⟨ax,af,B5,e5,((g'.trans g3).trans g4).trans g5,bV,w4⟩
    |bk ax=>exactλcq H5 B5 e5 g5=>w4 cq H5 B5 e5 ((gg.trans g4).trans g5)
    |rt t'=>exact KE.le w4 (gg.trans g4)
end
noncomputable def qbq(n:Nat)(fr:List Nat)(ρ:Ro):Ro:=List.replicate n none++fr.map λi=>(ρ[i]?).join
noncomputable def qa5(it:Ito)(dg:T->DS0 Ro)(dt:DS0 Bool)(de:DS0 T):Nat->Nat->DS0 (List T)
 |0,i=>λρ μ=>match nxt it μ i with|some none=>.ok [] μ|_=>.no
 |n+1,i=>λρ μ=>match nxt it μ i with
  |some none=>.ok [] μ
  |some (some t)=>(dg t ρ μ).bind λao aa=>(dt ao aa).bind λc af=>if c=true then(de ao af).bind λy aq=>(qa5 it dg dt de n (i+1) ao aq).bind λys aZ=>.ok (y::ys) aZ else qa5 it dg dt de n (i+1) ao af
  |none=>.no
noncomputable def qfH(dg:T->DS0 Ro)(dt:DS0 Bool)(de:DS0 T):List T->DS0 (List T)
 |[]=>λρ μ=>.ok [] μ
 |t::ts=>λρ μ=>(dg t ρ μ).bind λao aa=>(dt ao aa).bind λc af=>if c=true then(de ao af).bind λy aq=>(qfH dg dt de ts ao aq).bind λys aZ=>.ok (y::ys) aZ else qfH dg dt de ts ao af
theorem qhw{dg:T->DS0 Ro}{dt:DS0 Bool}{de:DS0 T}{ts:List T}: ∀(n i:Nat),ts.length<=n+i->qa5 (.fx ts) dg dt de n i=qfH dg dt de (ts.drop i)
 |0,i,h=>by
  have e:ts[i]? =none:=List.getElem?_eq_none_iff.mpr (by omega)
  funext ρ μ
  rw[List.drop_eq_nil_of_le (by omega)];show(match some ts[i]? with|some none=>R.ok ([]:List T) μ|_=>.no)=_;rw[e];rfl
 |n+1,i,h=>by
  funext ρ μ
  show(match some ts[i]? with|some none=>R.ok ([]:List T) μ|some (some t)=>_|none=>.no)=_;cases q:ts[i]? with
  |none=>rw[List.drop_eq_nil_of_le (List.getElem?_eq_none_iff.mp q)];rfl
  |some t=>obtain⟨hi,et⟩:=List.getElem?_eq_some_iff.mp q;rw[List.drop_eq_getElem_cons hi,et];show(dg t ρ μ).bind (λao aa=>(dt ao aa).bind λc af=>if c=true then(de ao af).bind λy aq=>(qa5 (.fx ts) dg dt de n (i+1) ao aq).bind λys aZ=>.ok (y::ys) aZ else qa5 (.fx ts) dg dt de n (i+1) ao af)=_;rw[qhw n (i+1) (by omega)];rfl
noncomputable def qku(dg:T->DS0 Ro)(dt:DS0 Bool)(de:DS0 T):Ito->DS0 (List T)
 |.fx ts=>qfH dg dt de ts
 |.lv k=>λρ μ=>qa5 (.lv k) dg dt de (qbU (.lv k) μ) 0 ρ μ
theorem qhx{dg:T->DS0 Ro}{dt:DS0 Bool}{de:DS0 T}{it:Ito}{ρ:Ro}{μ:Mu}:qku dg dt de it ρ μ=qa5 it dg dt de (qbU it μ) 0 ρ μ:=by
 cases it with
 |fx ts=>rw[qhw _ 0 (by exact Nat.le_refl _)];rfl
 |lv k=>rfl
noncomputable def noX{α:Type}:R α->R α
 |.ok a m=>.ok a m
 |_=>.no
noncomputable def qs7(x:Bool)(n:Nat)(fr:List Nat)(dg:T->DS0 Ro)(dt:DS0 Bool)(de:DS0 T)(it:Ito):DS0 Ct:=λρ μ=>
 (if x=true then qku dg dt de it (qbq n fr ρ) μ else noX (qku dg dt de it (qbq n fr ρ) μ)).bind λys μ'=>.ok (.ls ys) μ'
noncomputable def qck(x:Bool)(n:Nat)(fr:List Nat)(di:DS0 Ito)(dg:T->DS0 Ro)(dt:DS0 Bool)(de:DS0 T):DS0 Ct:=dSq di (qs7 x n fr dg dt de)
section
variable {M:Md}{E E':XK}{X:Cx}{tg elt iter:Expr}{ifs:List Expr}{scope:Scope}{pos:Pos}{own:List Str}{fr:List (Str×Nat)}{di:DS0 Ito}{dg:T->DS0 Ro}{dt:DS0 Bool}{de:DS0 T}
theorem qpK{ρ:Ro}{μ:Mu}{σ:St}{H:Hp}{B:qal}(ev:Ev M ρ μ σ H B):Ev M (qbq own.length (fr.map (·.2)) ρ) μ (qeZ own fr σ) H B:=by
 refine⟨ev.hs,by unfold qbq qeZ;simp,λi t e=> ?_⟩;unfold qbq at e;by_cases hi:i<own.length
 ·rw[List.getElem?_append_left (by simpa using hi),List.getElem?_replicate] at e;split at e<;>cases e
 ·rw[List.getElem?_append_right (by simpa using hi),List.length_replicate,List.getElem?_map,List.getElem?_map] at e;cases q:fr[i - own.length]? with
  |none=>rw[q] at e;cases e
  |some p=>
   rw[q] at e;have e:(ρ[p.2]?).join=some t:=Option.some.inj e;have e':ρ[p.2]? =some (some t):=by
    cases z:ρ[p.2]? with
    |none=>rw[z] at e;cases e
    |some o=>rw[z] at e;exact congrArg some e
   obtain⟨v,e1,e2⟩:=ev.sl _ _ e';refine⟨v,?_,e2⟩;unfold qeZ;rw[List.getElem?_append_right (by simpa using hi),List.length_map,List.getElem?_map,q];show some (σ[p.2]?).join=_;rw[e1];rfl
theorem comp_core {x:Bool} (hE:x=true->E'=E) {σ:St} {H:Hp} {B:qal} {ρ:Ro} {μ:Mu} {Q:VK} (ev:Ev M ρ μ σ H B) (w:Wn M E H B (KN M H B Q) (qck x own.length (fr.map (·.2)) di dg dt de ρ μ)):
  qeX (tI M E di) (tG M E' dg) (tT M E' dt) (tE M E' de) own fr σ H λD H'=>Q (.ref D) H':=by
 refine⟨ρ,μ,B,ev,(Wn.bind w).mono λit m w1 J H1 B1 h1 g1 hz wk D hD=> ?_⟩;have w2:Wn M E' H B (λys μ'=>KN M H B Q (.ls ys) μ') (qa5 it dg dt de (qbU it m) 0 (qbq own.length (fr.map (·.2)) ρ) m):=by
  have w1:Wn M E H B (KN M H B Q) ((if x=true then qku dg dt de it (qbq own.length (fr.map (·.2)) ρ) m else noX (qku dg dt de it (qbq own.length (fr.map (·.2)) ρ) m)).bind λys μ'=>.ok (.ls ys) μ'):=w1;rw[qhx] at w1;cases x with
  |true=>rw[if_pos rfl] at w1;rw[hE rfl];exact Wn.bind w1
  |false=>
   rw[if_neg (by decide)] at w1;cases q:qa5 it dg dt de (qbU it m) 0 (qbq own.length (fr.map (·.2)) ρ) m with
   |no|ex c m'=>rw[q] at w1;exact w1.elim
   |ok ys m'=>rw[q] at w1;exact w1
 have bD:=h1.fr hD;have ofD: ∀k,B1.ad k≠some D:=λk e=>(h1.dm k D e).2 hD;have gK:hid D (upd H1 D (.lst []))=H1:=by
  funext a
  by_cases q:a=D
  ·subst q;rw[qfs,hD]
  ·rw[qcu q,qad q]
 have f9:Hs M m (upd H1 D (.lst [])) B1:=h1.more λa o e=>by rw[qad (qan e hD)];exact e
 refine⟨λi n ag H'=> ∃ρ' μ' B' dn ys,Ev M ρ' μ' ag H' B'/\Go H1 B1 (hid D H') B'/\H' D=some (.lst ys)/\B' D=none/\(∀k,B'.ad k≠some D)/\Reps M.K B' dn ys/\ys.length<=i/\n+i=qbU it m/\(∀ts,it= .fx ts->i<=ts.length)/\
  Wn M E' H B (λrs μ'=>KN M H B Q (.ls (dn++rs)) μ') (qa5 it dg dt de n i ρ' μ'),⟨_,_,m,B1,[],[],qpK (ev.on f9 g1.le),by rw[gK];exact .refl,qai,bD,ofD,.nil,Vm _,Nat.add_zero _,λ_ _=>Nat.zero_le _,w2⟩,?_⟩
 rintro i n ag H' ⟨ρ',μ',B',dn,ys,bY,g',eX,ja,fk,rd,hy,hn,hl,w3⟩;have stop:nxt it μ' i=some none->(R.ok ([]:List T) μ'=qa5 it dg dt de n i ρ' μ')->J.stop i H'/\Q (.ref D) H':=λe q=>by
  rw[<-q] at w3;refine⟨(wk μ' H' B' bY.hs g'.le i).2 hl e,?_⟩;have w3:KN M H B Q (.ls (dn++[])) μ':=w3;rw[List.append_nil] at w3;have:=w3 D (.lst ys) (hid D H') B' (bY.hs.loose ja fk (λa q=>qcu q) λu hu=>by rw[eX] at hu;cases hu;exact .inl ⟨_,rfl⟩) (g1.trans g') qfs ⟨ys,rfl,rd⟩;have e2:upd (hid D H') D (.lst ys)=H':=by
   funext a
   by_cases q:a=D
   ·subst q;rw[qai,eX]
   ·rw[qad q,qcu q]
  rw[e2] at this;exact this
 cases q:nxt it μ' i with
 |none=>cases n<;>(unfold qa5 at w3;rw[q] at w3;exact w3.elim)
 |some o=>
  cases o with
  |none=>exact .inl (stop q (by cases n<;>(unfold qa5;rw[q])))
  |some t=>
   cases n with
   |zero=>unfold qa5 at w3;rw[q] at w3;exact w3.elim
   |succ n=>
    have w3:Wn M E' H B (λrs μ'=>KN M H B Q (.ls (dn++rs)) μ') ((dg t ρ' μ').bind λao aa=>(dt ao aa).bind λc af=>if c=true then(de ao af).bind λy aq=>(qa5 it dg dt de n (i+1) ao aq).bind λys aZ=>.ok (y::ys) aZ else qa5 it dg dt de n (i+1) ao af):=by unfold qa5 at w3;rw[q] at w3;exact w3
    obtain⟨go,yl⟩:=(wk μ' H' B' bY.hs g'.le i).1 t q;have bV: ∀ts,it= .fx ts->i+1<=ts.length:=λts e=>by subst e;exact(List.getElem?_eq_some_iff.mp (Option.some.inj q)).1
    let NN:List T->List V->St->Hp->Prop:=λi5 ig aE H2=> ∃ax af B2,Ev M ax af aE H2 B2/\Go H1 B1 (hid D H2) B2/\H2 D=some (.lst ys)/\B2 D=none/\(∀k,B2.ad k≠some D)/\Reps M.K B2 i5 ig/\Wn M E' H B (λrs μ'=>KN M H B Q (.ls (i5++rs)) μ') (qa5 it dg dt de n (i+1) ax af);refine .inr ⟨go,λaE v H2=> ∃y,NN (dn++[y]) (ys++[v]) aE H2,λaE H2=>NN dn ys aE H2,λaE v H6 ⟨y,ax,af,B2,e2,g2,fG,fL,fj,r2,w⟩=> ?_,λaE H5 ⟨ax,af,B2,e2,g2,fG,fL,fj,r2,w⟩=> ?_,λy H3 yy=> ?_⟩
    ·have l0:qbU it m<=sizeLine:=hz;refine⟨ys,fG,by omega,n,Wb n,ax,af,B2,dn++[y],ys++[v],⟨e2.hs.loose fL fj (λa q=>qad q) (λu hu=>by rw[fG] at hu;cases hu;exact .inl ⟨_,rfl⟩),e2.len,e2.sl⟩,?_,qai,fL,fj,r2,by rw[List.length_append,List.length_singleton];omega,by omega,bV,w⟩;have e3:hid D (upd H6 D (.lst (ys++[v])))=hid D H6:=by
      funext a
      by_cases q:a=D
      ·subst q;rw[qfs,qfs]
      ·rw[qcu q,qcu q,qad q]
     rw[e3];exact g2
    ·exact⟨n,Wb n,ax,af,B2,dn,ys,e2,g2,fG,fL,fj,r2,by omega,by omega,bV,w⟩
    ·obtain⟨B3,h3,g3,r3⟩:=yl y H3 yy;have st: ∀{H4:Hp} {B4:qal},Go H' B' H4 B4->Go H1 B1 (hid D H4) B4/\H4 D=some (.lst ys)/\B4 D=none/\∀k,B4.ad k≠some D:=λ{H4 B4} g=>by refine⟨g'.trans g.hid,g.un D _ eX fk (by simp),?_,g.off (by rw[eX];simp) fk⟩;rw[g.nb D _ eX fk (by simp) (by simp)];exact ja
     have gb: ∀{H4:Hp} {B4:qal},Go H' B' H4 B4->∀{H5:Hp} {B5:qal},Go H4 B4 H5 B5->True:=λ_ _ _ _=>trivial;have up: ∀{H4:Hp} {B4:qal} {α:Type} {k k':α->Mu->Prop} {r:R α},Go H' B' H4 B4->Wn M E' H B k r->(∀a μ,k a μ->k' a μ)->Wn M E' H4 B4 k' r:=λ{H4 B4 α k k' r} g w f=>by
      cases r with
      |no=>exact w
      |ok a m=>exact f _ _ w
      |ex c m=>
       intro H5 B5 h5 g5;have gg:=g.trans g5;obtain⟨z1,z2,z3,z4⟩:=st gg;have h6:Hs M m (hid D H5) B5:=h5.loose z3 z4 (λa q=>qcu q) λu hu=>by rw[z2] at hu;cases hu;exact .inl ⟨_,rfl⟩
       have:Go H B H5 B5:=(g1.trans z1).trans (Go.more λa o e=>(qjY e).1);exact w H5 B5 h5 this
     refine⟨ρ',μ',B3,t,bY.on h3 g3.le,r3,up g3 (Wn.bind w3) λao aa w4 cD H4 B4 e4 g4=> ?_⟩;have iX:=g3.trans g4;refine⟨ao,aa,B4,e4,up iX (Wn.bind w4) λc af w5 H5 B5 h5 g5=> ?_⟩;have fI:=iX.trans g5;have e5:=e4.on h5 g5.le;cases c with
     |false=>obtain⟨z1,z2,z3,z4⟩:=st fI;refine qxx ⟨ao,af,B5,e5,z1,z2,z3,z4,rd.mono fI.le,?_⟩;exact w5
     |true=>refine qxw ⟨ao,af,B5,e5,up fI (Wn.bind w5) λy aq w6 v H6 B6 h6 g6 r6=> ?_⟩;have iW:=fI.trans g6;obtain⟨z1,z2,z3,z4⟩:=st iW;refine⟨y,ao,aq,B6,e5.on h6 g6.le,z1,z2,z3,z4,(rd.mono iW.le).append (.one r6),(Wn.bind w6).mono λrs aZ w7=> ?_⟩;have w7:KN M H B Q (.ls (dn++y::rs)) aZ:=w7;show KN M H B Q (.ls (dn++[y]++rs)) aZ;rw[List.append_assoc];exact w7
theorem qlL{Y:Cx}:qiE Y [] (tT M E qwH):=λpins s σ H Q I ⟨ρ,μ,B,ev,w⟩=>qlN pins s σ H Q I (w H B ev.hs .refl)
theorem qrn{Y:Cx}{c:Expr}(h:PT Y c (tT M E dt)):qiE Y [c] (tT M E dt):=qlM h
theorem qpT (hc:X.calm=true) (hi:PI X tg iter (tI M E di)) (hk:scope.kind= .function) (ai: ∀y∈scope.names,y.2≠.cell) (au: ∀y∈scope.names,y.2= .local->scope.names.lookup y.1=some .local)
  (ah: ∀y∈scope.names,y.2= .free->X.env.kindOf y.1=some .cell\/X.env.kindOf y.1=some .free) (bj: ∀p∈fr,X.N[p.2]? =some p.1/\scope.names.lookup p.1=some .free)
  (hb: ∀(fp:List Addr) (s3:Shared) (H3:Hp),PG (qas X scope own fr fp s3 H3) tg (tG M E0 dg)/\qiE (qas X scope own fr fp s3 H3) ifs (tT M E0 dt)/\PE (qas X scope own fr fp s3 H3) elt (tE M E0 de))
  (hs: ∀x,foldedSetIterable iter X.env x=pure x):PE X (.ListComp elt [⟨tg,iter,ifs,0⟩] scope pos) (tN M E (qck false own.length (fr.map (·.2)) di dg dt de)):=
 PE.weak (qoY hc hi hk ai au ah bj hb hs) λσ H Q ⟨ρ,μ,B,ev,w⟩=>comp_core (λz=>by cases z) ev w
noncomputable def qvN(ow:Bool)(i:Nat)(dn:DS0 Ct):DS0 Out:=qmI i (if ow=true then dOw dn else dFz dn)
theorem qis {i:Nat} {y:Str} {py spos:Pos} {ow:Bool} (hc:X.calm=true) (hi:PI X tg iter (tI M E di)) (hk:scope.kind= .function) (ai: ∀y∈scope.names,y.2≠.cell) (au: ∀y∈scope.names,y.2= .local->scope.names.lookup y.1=some .local)
  (ah: ∀y∈scope.names,y.2= .free->X.env.kindOf y.1=some .cell\/X.env.kindOf y.1=some .free) (bj: ∀p∈fr,X.N[p.2]? =some p.1/\scope.names.lookup p.1=some .free)
  (hb: ∀(fp:List Addr) (s3:Shared) (H3:Hp),PG (qas X scope own fr fp s3 H3) tg (tG M E0 dg)/\qiE (qas X scope own fr fp s3 H3) ifs (tT M E0 dt)/\PE (qas X scope own fr fp s3 H3) elt (tE M E0 de))
  (hN:X.N.Nodup) (gG:X.N[i]? =some y) (hy:X.env.scope.names.lookup y=some .local)
  (bu:swapsWith (.ListComp elt [⟨tg,iter,ifs,0⟩] scope pos) (some (.Name y py)) spos.line X.env=pure true) (hs: ∀x,foldedSetIterable iter X.env x=pure x):
  PS X (.Assign [.Name y py] (.ListComp elt [⟨tg,iter,ifs,0⟩] scope pos) spos) (tS M E (qvN ow i (qck false own.length (fr.map (·.2)) di dg dt de))):=
 PS.weak (L2.ps_setcomp hc hi hk ai au ah bj hb hN gG hy bu hs) λD σ H ⟨ρ,μ,B,ev,w⟩=>by
  have key: ∀{d:DS0 T},tS M E (qmI i d) D σ H->tE M E d σ H λv H1=>D.nx (σ.set i (some v)) H1:=λ⟨ρ,μ,B,ev,w⟩=>tE.of ev ((Wn.bind w).mono λt aa w1 v H1 B1 h1 l1 r1=>w1 _ H1 B1 ((ev.on h1 l1.le).set r1) l1);have h1:tN M E (qck false own.length (fr.map (·.2)) di dg dt de) σ H λv H1=>D.nx (σ.set i (some v)) H1:=by
   cases ow with
   |true=>exact qjv (key ⟨ρ,μ,B,ev,w⟩)
   |false=>exact qj8 (key ⟨ρ,μ,B,ev,w⟩)
  obtain⟨ρ,μ,B,ev,w⟩:=h1;exact comp_core (λz=>by cases z) ev w
end
end NV
namespace PL
open PySem L2 SR SetL
end PL
namespace L2
open PySem PySem.Spec PySem.Calls PyProof.Rows
section
variable {X:Cx}{CX:CXT}{E:XK}{m:Str}{pos apos:Pos}{e o:Expr}{es:List Expr}{ta:TE}{t:TA}
noncomputable def qds(X:Cx)(CX:CXT)(C:Addr)(m:Str)(sp:Sp):Prop:= ∃(f:Addr) (fd:FuncData) (ps:List Str) (k:Nat),Cls X.K C/\qts X.K C m f/\qcL X.prog X.w X.K X.mg X.base CX k f fd ps sp/\qbu k X.A/\qa0 X.K fd ps []
theorem qlR {pl:Sem Bool} (he:PE X o ta) (hx:qaJ CX X E) (ha:PA X (e::es) t)
  (aD:starEach (e::es) X.env=(false,eval e X.env)::starEach es X.env) (av:(backTo pos (starEach es X.env)).any (·.1)=false)
  (ht:eval (.Call (.Attribute o m apos) (e::es) [] pos) X.env=(do
   let ov <-eval o X.env
   standAt apos.atName
   let (f,fi) <-holding [ov] (getMethod ov m pl)
   callWith pos f fi (backTo pos (starEach (e::es) X.env)) (backToKw pos (keywordEach [] X.env)))):
  PE X (.Call (.Attribute o m apos) (e::es) [] pos) (λσ H Q=>ta σ H λx H1=> ∃a C dx fs sp,x= .ref a/\H1 a=some (.ins C dx fs)/\fs.lookup m=none/\qds X CX C m sp/\t σ H1 λvs H2=>sp (x::vs) H2 Q E):=by intro pins s σ H Q I h;refine W.methodCall_KW (pl:=pl) (thn (he pins s σ H _ I h) λu s1 ⟨x,H1,I1,rx,a,C,dx,fs,sp,ex,ea,l,⟨f,fd,ps,k,c,hm,F,hr,hb⟩,q⟩=> ?_) ht;subst ex;obtain rfl:u=Value.ref a:=rx;refine qdN I1 ea c hm l ?_;refine W.callWith_K (first:=[.ref a]) (h₀:=X.base) I.ok.mod.kin hm.kp (thn (ha pos pins s1 σ H1 _ I1 q) λus s2 ⟨vs,H2,I2,r,q2⟩=>⟨I2.kIn,?_⟩) aD av;exact qe4 (us:=.ref a::us) (vs:=.ref a::vs) (aN:=[]) F hr hb .nil hx I2 (.cons rfl r) (by rw[List.append_nil];exact q2)
theorem qjs {pl:Sem Bool} (he:PE X o ta) (hx:qaJ CX X E)
  (ht:eval (.Call (.Attribute o m apos) [] [] pos) X.env=(do
   let ov <-eval o X.env
   standAt apos.atName
   let (f,fi) <-holding [ov] (getMethod ov m pl)
   callWith pos f fi (backTo pos (starEach [] X.env)) (backToKw pos (keywordEach [] X.env)))):
  PE X (.Call (.Attribute o m apos) [] [] pos) (λσ H Q=>ta σ H λx H1=> ∃a C dx fs sp,x= .ref a/\H1 a=some (.ins C dx fs)/\fs.lookup m=none/\qds X CX C m sp/\sp [x] H1 Q E):=by intro pins s σ H Q I h;refine W.methodCall_KW (pl:=pl) (thn (he pins s σ H _ I h) λu s1 ⟨x,H1,I1,rx,a,C,dx,fs,sp,ex,ea,l,⟨f,fd,ps,k,c,hm,F,hr,hb⟩,q⟩=> ?_) ht;subst ex;obtain rfl:u=Value.ref a:=rx;refine qdN I1 ea c hm l ?_;exact W.callWith_K0 (first:=[.ref a]) I1.kIn hm.kp (qe4 (us:=[.ref a]) (vs:=[.ref a]) (aN:=[]) F hr hb .nil hx I1 (.cons rfl .nil) q)
end
end L2
namespace NV
open PySem L2
theorem PE.or{X:Cx}{e:Expr}{t t':TE}(h:PE X e t)(h':PE X e t'):PE X e (λσ H Q=>t σ H Q\/t' σ H Q):=λpins s σ H Q I q=>q.elim (h pins s σ H Q I) (h' pins s σ H Q I)
noncomputable def qsj(o:T)(μ:Mu):Option (Nat×Str×List (Str×T)):=match o with
 |.obj k=>(match μ.l[k]? with|some (.ins c fs)=>some (k,c,fs)|_=>none)
 |_=>none
noncomputable def qiu(mt:Str->Option (List T->Mu->R T))(m:Str)(aU:DS0 T)(ds:DS0 (List T)):DS0 T:=dSq aU λo ρ μ=>match qsj o μ with
 |some (_,c,fs)=>(match mt c with
  |some f=>if(fs.lookup m).isNone=true then(ds ρ μ).bind λts μ'=>f (o::ts) μ' else .no
  |none=>.no)
 |none=>.no
section
variable {M:Md}{E:XK}{X:Cx}{m:Str}{pos apos:Pos}{e o:Expr}{es:List Expr}{da:DS0 T}{ds:DS0 (List T)}{mt:Str->Option (List T->Mu->R T)}
theorem qmi{t:T}{μ:Mu}{k:Nat}{c:Str}{fs:List (Str×T)}(h:qsj t μ=some (k,c,fs)):t= .obj k/\μ.l[k]? =some (.ins c fs):=by
 unfold qsj at h;split at h
 ·split at h
  ·rename_i e;cases h;exact⟨rfl,e⟩
  ·cases h
 ·cases h
theorem qfh (hM: ∀c f,mt c=some f->qds X (CXE X.prog X.w) (clA M.K c) m (spF M f)) {σ:St} {H:Hp} {Q:VK} (h:tE M E (qiu mt m da ds) σ H Q):
  tE M E da σ H λx H1=> ∃a C dx fs sp,x= .ref a/\H1 a=some (.ins C dx fs)/\fs.lookup m=none/\qds X (CXE X.prog X.w) C m sp/\tA M E ds σ H1 λvs H2=>sp (x::vs) H2 Q E:=by
 obtain⟨ρ,μ,B,ev,w⟩:=h;refine tE.of ev ((Wn.bind w).mono λx aa w1 v H1 B1 h1 g1 r1=> ?_)
 change Wn M E H B (KE M H B Q) (match qsj x aa with|some (_,c,fs)=>(match mt c with|some f=>if(fs.lookup m).isNone=true then(ds ρ aa).bind λts μ'=>f (x::ts) μ' else .no|none=>.no)|none=>.no) at w1
 split at w1
 ·rename_i k c fs e;obtain⟨rfl,el⟩:=qmi e;split at w1
  ·rename_i f ef;split at w1
   ·rename_i hn;obtain⟨a,rfl,ea⟩:=qaA r1;obtain⟨u,b0,hu,dx,vs,rfl,rv⟩:=h1.at el (by simp) ea;refine⟨a,_,dx,vs,spF M f,rfl,hu,(qbP rv).2 (Option.isNone_iff_eq_none.mp hn),hM c f ef,ρ,aa,B1,ev.on h1 g1.le,(Wn.bind w1).lift g1 λts af w2 ws H2 B2 h2 g2 r2=> ?_⟩;exact⟨af,B2,.obj k::ts,h2,.cons (qdE (g2.le.d _ _ ea)) r2,Wn.lift w2 (g1.trans g2) λ_ _ q=>KE.le q (g1.trans g2)⟩
   ·exact w1.elim
  ·exact w1.elim
 ·exact w1.elim
theorem qpY {pl:Sem Bool} (hM: ∀c f,mt c=some f->qds X (CXE X.prog X.w) (clA M.K c) m (spF M f)) (ho:PE X o (tE M E da)) (hx:qaJ (CXE X.prog X.w) X E) (ha:PA X (e::es) (tA M E ds))
  (aD:starEach (e::es) X.env=(false,eval e X.env)::starEach es X.env) (av:(backTo pos (starEach es X.env)).any (·.1)=false)
  (ht:eval (.Call (.Attribute o m apos) (e::es) [] pos) X.env=(do
   let ov <-eval o X.env
   standAt apos.atName
   let (f,fi) <-holding [ov] (getMethod ov m pl)
   callWith pos f fi (backTo pos (starEach (e::es) X.env)) (backToKw pos (keywordEach [] X.env)))):
  PE X (.Call (.Attribute o m apos) (e::es) [] pos) (tE M E (qiu mt m da ds)):=PE.weak (qlR ho hx ha aD av ht) λ_ _ _ h=>qfh hM h
theorem qmE {pl:Sem Bool} (hM: ∀c f,mt c=some f->qds X (CXE X.prog X.w) (clA M.K c) m (spF M f)) (ho:PE X o (tE M E da)) (hx:qaJ (CXE X.prog X.w) X E)
  (ht:eval (.Call (.Attribute o m apos) [] [] pos) X.env=(do
   let ov <-eval o X.env
   standAt apos.atName
   let (f,fi) <-holding [ov] (getMethod ov m pl)
   callWith pos f fi (backTo pos (starEach [] X.env)) (backToKw pos (keywordEach [] X.env)))):
  PE X (.Call (.Attribute o m apos) [] [] pos) (tE M E (qiu mt m da qnS)):=PE.weak (qjs ho hx ht) λσ H Q h=>by
 refine(qfh hM h).imp λv H1 ⟨a,C,dx,fs,sp,e1,e2,e3,e4,q⟩=>⟨a,C,dx,fs,sp,e1,e2,e3,e4,?_⟩
 obtain⟨ρ,μ,B,ev,w⟩:=q;exact w [] H1 B ev.hs .refl .nil
end
noncomputable def qnR(x:Str):DS0 Out:=λ_ μ=>.ex x μ
section
variable {M:Md}{E:XK}{X:Cx}{st:Stmt}
theorem qmx{x:Str}(h:PS X st (qi6 (clA M.K x) E)):PS X st (tS M E (qnR x)):=PS.weak h λD σ H ⟨ρ,μ,B,ev,w⟩=>w H B ev.hs .refl
noncomputable def unO(i:Nat):Out->Mu->R Out
 |.nx ρ,μ=>.ok (.nx (ρ.set i none)) μ
 |.bk ρ,μ=>.ok (.bk (ρ.set i none)) μ
 |.ct ρ,μ=>.ok (.ct (ρ.set i none)) μ
 |.rt t,μ=>.ok (.rt t) μ
noncomputable def qxY(cl:Str->Bool)(n:Nat)(nm:Option Nat)(db dh:DS0 Out):DS0 Out:=λρ μ=>match db ρ μ with
 |.ex c m=>if cl c=true then(match nm with
  |some i=>((noX (dh ((List.replicate n none).set i (some (.exc c))) m))).bind (unO i)
  |none=>noX (dh (List.replicate n none) m)) else .no
 |r=>r
variable {body iy:List Stmt}{b₀:Stmt}{x n:Str}{np hpos pos:Pos}{CH:Addr}{bmH:List Value}{db dh:DS0 Out}{cl:Str->Bool}{i:Nat}
end
noncomputable def qwF(i:Nat)(ρ:Ro)(μ:Mu):Ro×Mu:=match ρ[i]? with
 |some (some (.obj k))=>(match μ.l[k]? with
  |some (.ls ts)=>(ρ.set i (some (.lst ts)),μ.put k .gone)
  |some (.dk kvs)=>(ρ.set i (some (.dct kvs)),μ.put k .gone)
  |_=>(ρ,μ))
 |_=>(ρ,μ)
noncomputable def qx0(i:Nat)(d:DS0 Out):DS0 Out:=λρ μ=>d (qwF i ρ μ).1 (qwF i ρ μ).2
noncomputable def qw0(kvs:List (Key×T))(k:Key):Option T:=(kvs.find? λkv=>decide (kv.1=k)).map (·.2)
mutual
noncomputable def eqT:T->T->Bool
 |.non,.non=>true
 |.bl a,.bl b=>a==b
 |.bl a,.int b=>(if a then 1 else 0)==b
 |.int a,.bl b=>a==(if b then 1 else 0)
 |.int a,.int b=>a==b
 |.str a,.str b=>a==b
 |.tup xs,.tup ys=>eqTs xs ys
 |.lst xs,.lst ys=>eqTs xs ys
 |.dct xs,.dct ys=>xs.length==ys.length&&eqTd xs ys
 |_,_=>false
noncomputable def eqTs:List T->List T->Bool
 |[],[]=>true
 |x::xs,y::ys=>eqT x y&&eqTs xs ys
 |_,_=>false
noncomputable def eqTd:List (Key×T)->List (Key×T)->Bool
 |[],_=>true
 |(k,x)::xs,ys=>(match qw0 ys k with|some y=>eqT x y|none=>false)&&eqTd xs ys
end
noncomputable def okT:Nat->T->Bool
 |_,.non=>true
 |_,.bl _=>true
 |_,.int _=>true
 |_,.str _=>true
 |n+1,.tup ts=>ts.all (okT n)
 |n+1,.lst ts=>ts.all (okT n)
 |_,_=>false
noncomputable def qez:T->Bool
 |.non=>true
 |.bl _=>true
 |.int _=>true
 |.str _=>true
 |_=>false
noncomputable def vOf:T->V
 |.bl b=>.bl b
 |.int b=>.int b
 |.str b=>.str b
 |_=>.non
noncomputable def LeH(B:qal)(H:Hp):Prop:= ∀a o,B a=some o->H a=some o
abbrev qjm(xs ys:List T)(j:Nat):Bool:=eqT (xs.getD j .non) (ys.getD j .non)
theorem qcI: ∀xs ys:List T,eqTs xs ys=((List.range (min xs.length ys.length)).all (qjm xs ys)&&xs.length==ys.length)
 |[],[]=>by simp[eqTs]
 |[],_::_=>by simp[eqTs]
 |_::_,[]=>by simp[eqTs]
 |x::xs,y::ys=>by
  rw[eqTs,qcI xs ys];have m:min (x::xs).length (y::ys).length=(min xs.length ys.length).succ:=by simp only[List.length_cons];lia
  rw[m,List.range_succ_eq_map,List.all_cons,List.all_map,<-Bool.and_assoc];have e:(qjm (x::xs) (y::ys)∘Nat.succ)=qjm xs ys:=by funext j;simp[qjm]
  rw[e,show qjm (x::xs) (y::ys) 0=eqT x y from rfl];simp
theorem qmt{xs ys:List T}(h:xs.length=ys.length):eqTs xs ys=(List.range xs.length).all (qjm xs ys):=by rw[qcI,h,Nat.min_self,beq_self_eq_true,Bool.and_true]
theorem qpL{xs ys:List T}(h:xs.length≠ys.length):eqTs xs ys=false:=by rw[qcI];simp[h]
section
variable {K:PySem.W.Frag}{B:qal}{t u:T}{x y:V}
theorem qbl(f:qez t=true)(r:Rep K B t x):x=vOf t:=by cases t<;>first|exact qcT r|exact qbI r|exact qaf r|exact qaz r|cases f
theorem qa1(f:qez t=true):qgx (vOf t)=true:=by cases t<;>first|rfl|cases f
theorem qhs(ft:qez t=true)(fu:qez u=true):eqT t u=eqV (vOf t) (vOf u):=by cases t<;>cases u<;>first|rfl|(cases ft;done)|(cases fu;done)
theorem qiP(ft:qez t=true)(fu:qez u=true)(e:vOf t=vOf u):t=u:=by cases t<;>cases u<;>first|rfl|(cases e;rfl)|(cases e;done)|(cases ft;done)|(cases fu;done)
theorem qcc{p:Addr}(ft:qez t=true)(e:vOf t= .ref p):False:=by cases t<;>first|cases e|cases ft
theorem qbB{ts:List T}(f:qez t=true):eqT t (.lst ts)=false/\eqT (.lst ts) t=false/\eqT t (.tup ts)=false/\eqT (.tup ts) t=false:=by cases t<;>first|exact⟨rfl,rfl,rfl,rfl⟩|cases f
theorem qbQ{n:Nat}{ts:List T}(h:ts.all (okT n)=true){j:Nat}(hj:j<ts.length):okT n (ts.getD j .non)=true:=by rw[List.getD_eq_getElem?_getD,List.getElem?_eq_getElem hj];exact List.all_eq_true.mp h _ (List.getElem_mem hj)
theorem qpe{n:Nat}{ts:List T}(h:okT n (.lst ts)=true): ∃m,n=m+1/\ts.all (okT m)=true:=by
 cases n with
 |zero=>cases h
 |succ m=>exact⟨m,rfl,h⟩
theorem qpd{n:Nat}{ts:List T}(h:okT n (.tup ts)=true): ∃m,n=m+1/\ts.all (okT m)=true:=by
 cases n with
 |zero=>cases h
 |succ m=>exact⟨m,rfl,h⟩
theorem qaE{n:Nat}(h:okT n t=true):qez t=true\/(∃ts m,t= .lst ts/\n=m+1/\ts.all (okT m)=true)\/∃ts m,t= .tup ts/\n=m+1/\ts.all (okT m)=true:=by
 cases t with
 |lst ts=>obtain⟨m,a,b⟩:=qpe h;exact .inr (.inl ⟨ts,m,rfl,a,b⟩)
 |tup ts=>obtain⟨m,a,b⟩:=qpd h;exact .inr (.inr ⟨ts,m,rfl,a,b⟩)
 |_=>first|exact .inl rfl|(cases n<;>cases h)
theorem qcJ: ∀(n:Nat) (t:T),okT n t=true->eqT t t=true:=by
 intro n
 induction n with
 |zero=>intro t h;cases t<;>first|(simp[eqT];done)|cases h
 |succ n ih=>
  have many: ∀ts:List T,ts.all (okT n)=true->eqTs ts ts=true:=λts=>by
   induction ts with
   |nil=>intro _;rfl
   |cons t ts it=>intro h;rw[List.all_cons,Bool.and_eq_true] at h;rw[eqTs,ih t h.1,it h.2];rfl
  intro t h;cases t<;>first|(simp[eqT];done)|(rw[eqT];exact many _ h)|cases h
end
section
variable {X:Cx}{pins:List (Addr×Obj)}{σ:St}{H:Hp}{B:qal}{s:Shared}
theorem qf9(I:Inv X pins σ H s)(le:LeH B H): ∀(n m:Nat) (t u:T) (x:V),okT n t=true->okT m u=true->Rep X.K B t x->Rep X.K B u x->t=u:=by
 intro n
 induction n with
 |zero=>
  intro m t u x ht hu r r'
  rcases qaE ht with f|⟨_,_,_,e,_⟩|⟨_,_,_,e,_⟩
  ·have e1:=qbl f r
   rcases qaE hu with g|⟨us,m',rfl,_,_⟩|⟨us,m',rfl,_,_⟩
   ·exact qiP f g (e1.symm.trans (qbl g r'))
   ·obtain⟨p,vs,rfl,_⟩:=qaB r';exact(qcc f e1.symm).elim
   ·obtain⟨p,vs,rfl,_⟩:=qaw r';exact(qcc f e1.symm).elim
  ·cases e
  ·cases e
 |succ n ih=>
  have many: ∀(m:Nat) (ts us:List T) (vs:List V),ts.all (okT n)=true->us.all (okT m)=true->Reps X.K B ts vs->Reps X.K B us vs->ts=us:=λm ts=>by
   induction ts with
   |nil=>
    intro us vs _ _ r r';cases r.inv0;cases us with
    |nil=>rfl
    |cons _ _=>obtain⟨_,_,e,_⟩:=r'.inv;cases e
   |cons t ts it=>
    intro us vs ht hu r r';obtain⟨v,cj,rfl,a,b⟩:=r.inv;cases us with
    |nil=>cases r'.inv0
    |cons u us=>obtain⟨v',vs'',e,a',b'⟩:=r'.inv;cases e;rw[List.all_cons,Bool.and_eq_true] at ht hu;rw[ih m t u v ht.1 hu.1 a a',it us cj ht.2 hu.2 b b']
  intro m t u x ht hu r r'
  rcases qaE ht with f|⟨ts,n',rfl,e,cQ⟩|⟨ts,n',rfl,e,cQ⟩
  ·have e1:=qbl f r
   rcases qaE hu with g|⟨us,m',rfl,_,_⟩|⟨us,m',rfl,_,_⟩
   ·exact qiP f g (e1.symm.trans (qbl g r'))
   ·obtain⟨p,vs,rfl,_⟩:=qaB r';exact(qcc f e1.symm).elim
   ·obtain⟨p,vs,rfl,_⟩:=qaw r';exact(qcc f e1.symm).elim
  ·cases e;obtain⟨p,vs,rfl,hp,rs⟩:=qaB r
   rcases qaE hu with g|⟨us,m',rfl,_,cP⟩|⟨us,m',rfl,_,_⟩
   ·exact(qcc g (qbl g r').symm).elim
   ·obtain⟨p',cj,e,aj,br⟩:=qaB r';cases e;rw[hp] at aj;cases aj;rw[many m' ts us vs cQ cP rs br]
   ·obtain⟨p',cj,e,aj,_⟩:=qaw r';cases e;rw[hp] at aj;cases aj
  ·cases e;obtain⟨p,vs,rfl,hp,rs⟩:=qaw r
   rcases qaE hu with g|⟨us,m',rfl,_,_⟩|⟨us,m',rfl,_,cP⟩
   ·exact(qcc g (qbl g r').symm).elim
   ·obtain⟨p',cj,e,aj,_⟩:=qaB r';cases e;rw[hp] at aj;cases aj
   ·obtain⟨p',cj,e,aj,br⟩:=qaw r';cases e;rw[hp] at aj;cases aj;rw[many m' ts us vs cQ cP rs br]
open SeqAt in
theorem qnl {A:Around} {ts us:List T} {p p':Addr} {is bR:List Value} {vs ws:List V} (hA:A.units<cLine) (rv:qat vs is) (dq:qat ws bR) (l3:vs.length=ts.length) (l4:ws.length=us.length)
  (it: ∀j (a1:j<(List.toArray is).size) (a2:j<(List.toArray bR).size),EqAt A.in1 s (List.toArray is)[j] (List.toArray bR)[j] (qjm ts us j)):
  (s.heap.IsList p (List.toArray is)->s.heap.IsList p' (List.toArray bR)->RcAt A s (.ref p) (.ref p') (eqTs ts us)/\RcNeAt A s (.ref p) (.ref p') (!eqTs ts us))/\
  (s.heap.IsTuple p (List.toArray is)->s.heap.IsTuple p' (List.toArray bR)->RcAt A s (.ref p) (.ref p') (eqTs ts us)/\RcNeAt A s (.ref p) (.ref p') (!eqTs ts us)):=by
 have l1:=rv.length;have l2:=dq.length;have e1:(List.toArray is).size=ts.length:=by simp;lia
 have e2:(List.toArray bR).size=us.length:=by simp;lia
 refine⟨λpl aP=> ?_,λpl aP=> ?_⟩
 ·by_cases hl:ts.length=us.length
  ·rw[qmt hl];have q1:=RcAt.lists (A:=A) (s:=s) (e:=qjm ts us) pl aP (by simp;lia) hA it;have q2:=RcNeAt.lists (A:=A) (s:=s) (e:=qjm ts us) pl aP (by simp;lia) hA it;rw[e1] at q1 q2;exact⟨q1,q2⟩
  ·rw[qpL hl];exact⟨RcAt.lists_lengths pl aP (by simp;lia) hA,RcNeAt.lists_lengths pl aP (by simp;lia) hA⟩
 ·rw[qcI];have q1:=RcAt.tuples (A:=A) (s:=s) (e:=qjm ts us) pl aP hA it;have q2:=RcNeAt.tuples (A:=A) (s:=s) (e:=qjm ts us) pl aP hA it;rw[e1,e2] at q1 q2;exact⟨q1,q2⟩
open SeqAt in
theorem qje (I:Inv X pins σ H s) (le:LeH B H): ∀(n m:Nat) (A:Around) (t u:T) (x y:V) (v w:Value),okT n t=true->okT m u=true->A.units+n<cLine->Rep X.K B t x->Rep X.K B u y->RelV x v->RelV y w->
  EqAt A s v w (eqT t u)/\RcAt A s v w (eqT t u)/\RcNeAt A s v w (!eqT t u):=by
 intro n
 induction n with
 |zero=>
  intro m A t u x y v w ht hu hc r r' rv ar;have hA:A.units<cLine:=by lia
  rcases qaE ht with f|⟨_,_,_,e,_⟩|⟨_,_,_,e,_⟩
  ·cases qbl f r;have fx:=qa1 f
   rcases qaE hu with g|⟨us,m',rfl,_,_⟩|⟨us,m',rfl,_,_⟩
   ·cases qbl g r';rw[qhs f g];exact⟨qnJ rv ar fx (qa1 g),PL.rc_ff rv fx ar (qa1 g)⟩
   ·obtain⟨p,vs,rfl,hp,_⟩:=qaB r';cases ar;obtain⟨is,_,pl,_⟩:=I.list (SqL.of (le _ _ hp));have q:=PL.eq_fl rv fx pl.isList hA;rw[(qbB f).1];exact⟨q.1,q.2.2.1,q.2.2.2.2.1⟩
   ·obtain⟨p,vs,rfl,hp,_⟩:=qaw r';cases ar;obtain⟨is,_,pl,_⟩:=I.tuple (SqT.of (le _ _ hp));have q:=PL.eq_ft rv fx pl hA;rw[(qbB f).2.2.1];exact⟨q.1,q.2.2.1,q.2.2.2.2.1⟩
  ·cases e
  ·cases e
 |succ n ih=>
  intro m A t u x y v w ht hu hc r r' rv ar;have hA:A.units<cLine:=by lia
  rcases qaE ht with f|⟨ts,n',rfl,e,cQ⟩|⟨ts,n',rfl,e,cQ⟩
  ·cases qbl f r;have fx:=qa1 f
   rcases qaE hu with g|⟨us,m',rfl,_,_⟩|⟨us,m',rfl,_,_⟩
   ·cases qbl g r';rw[qhs f g];exact⟨qnJ rv ar fx (qa1 g),PL.rc_ff rv fx ar (qa1 g)⟩
   ·obtain⟨p,vs,rfl,hp,_⟩:=qaB r';cases ar;obtain⟨is,_,pl,_⟩:=I.list (SqL.of (le _ _ hp));have q:=PL.eq_fl rv fx pl.isList hA;rw[(qbB f).1];exact⟨q.1,q.2.2.1,q.2.2.2.2.1⟩
   ·obtain⟨p,vs,rfl,hp,_⟩:=qaw r';cases ar;obtain⟨is,_,pl,_⟩:=I.tuple (SqT.of (le _ _ hp));have q:=PL.eq_ft rv fx pl hA;rw[(qbB f).2.2.1];exact⟨q.1,q.2.2.1,q.2.2.2.2.1⟩
  ·cases e;obtain⟨p,vs,rfl,hp,rs⟩:=qaB r;cases rv;obtain⟨is,cK,pl,_⟩:=I.list (SqL.of (le _ _ hp))
   rcases qaE hu with g|⟨us,m',rfl,_,cP⟩|⟨us,m',rfl,_,_⟩
   ·cases qbl g r';have q:=PL.eq_fl ar (qa1 g) pl.isList hA;rw[(qbB g).2.1];exact⟨q.2.1,q.2.2.2.1,q.2.2.2.2.2⟩
   ·obtain⟨p',ws,rfl,aj,br⟩:=qaB r';cases ar;obtain⟨bR,aO,aP,_⟩:=I.list (SqL.of (le _ _ aj));have q:=(qnl (p:=p) (p':=p') hA cK aO rs.length br.length λj a1 a2=>by
     have b1:j<ts.length:=by have:=cK.length;have:=rs.length;simp at a1;lia
     have b2:j<us.length:=by have:=aO.length;have:=br.length;simp at a2;lia
     exact(ih m' A.in1 _ _ _ _ _ _ (qbQ cQ b1) (qbQ cP b2) (by show A.units+1+n<cLine;lia) (rs.getD j b1) (br.getD j b2) (RH.valsArr cK a1) (RH.valsArr aO a2)).1).1 pl.isList aP.isList
    refine⟨?_,q⟩;by_cases z:p=p'
    ·subst z;have e:=qf9 I le (n+1) m _ _ _ ht hu r r';rw[<-e,qcJ _ _ ht];exact EqAt.same _
    ·exact EqAt.of_refs z q.1
   ·obtain⟨p',ws,rfl,aj,br⟩:=qaw r';cases ar;obtain⟨bR,aO,aP,_⟩:=I.tuple (SqT.of (le _ _ aj));exact⟨EqAt.list_tuple pl.isList aP hA,RcAt.list_tuple pl.isList aP hA,RcNeAt.list_tuple pl.isList aP hA⟩
  ·cases e;obtain⟨p,vs,rfl,hp,rs⟩:=qaw r;cases rv;obtain⟨is,cK,pl,_⟩:=I.tuple (SqT.of (le _ _ hp))
   rcases qaE hu with g|⟨us,m',rfl,_,_⟩|⟨us,m',rfl,_,cP⟩
   ·cases qbl g r';have q:=PL.eq_ft ar (qa1 g) pl hA;rw[(qbB g).2.2.2];exact⟨q.2.1,q.2.2.2.1,q.2.2.2.2.2⟩
   ·obtain⟨p',ws,rfl,aj,br⟩:=qaB r';cases ar;obtain⟨bR,aO,aP,_⟩:=I.list (SqL.of (le _ _ aj));exact⟨EqAt.tuple_list pl aP.isList hA,RcAt.tuple_list pl aP.isList hA,RcNeAt.tuple_list pl aP.isList hA⟩
   ·obtain⟨p',ws,rfl,aj,br⟩:=qaw r';cases ar;obtain⟨bR,aO,aP,_⟩:=I.tuple (SqT.of (le _ _ aj));have q:=(qnl (p:=p) (p':=p') hA cK aO rs.length br.length λj a1 a2=>by
     have b1:j<ts.length:=by have:=cK.length;have:=rs.length;simp at a1;lia
     have b2:j<us.length:=by have:=aO.length;have:=br.length;simp at a2;lia
     exact(ih m' A.in1 _ _ _ _ _ _ (qbQ cQ b1) (qbQ cP b2) (by show A.units+1+n<cLine;lia) (rs.getD j b1) (br.getD j b2) (RH.valsArr cK a1) (RH.valsArr aO a2)).1).2 pl aP
    refine⟨?_,q⟩;by_cases z:p=p'
    ·subst z;have e:=qf9 I le (n+1) m _ _ _ ht hu r r';rw[<-e,qcJ _ _ ht];exact EqAt.same _
    ·exact EqAt.of_refs z q.1
end
end NV
namespace TM
open PySem Builtin
theorem noFill_tuple_mul:fillsNumberSlot (.type "tuple") "mul" =pure false:=
 fillsNumberSlot_seq (id:= "tuple.__mul__") (r:=some (.builtin "tuple.__rmul__")) F.slot_tuple_mul.lookup (by decide+kernel) F.slot_tuple_rmul.lookup (by decide+kernel)
theorem repeat_tuple:seqRepeat? (.type "tuple")=pure (some (.builtin "tuple.__mul__")):=by unfold seqRepeat?;rw[seqSlot_of (T:= "tuple") (name:= "__mul__") (id:= "tuple.__mul__") F.slot_tuple_mul.lookup (by decide+kernel),seqSlot_of (T:= "tuple") (name:= "__rmul__") (id:= "tuple.__rmul__") F.slot_tuple_rmul.lookup (by decide+kernel)];rfl
theorem rmul_tuple (a:Int) (t:Tok) (l:Addr) (items:Array Value) (n:Nat) (od:Option Addr) (sl:Array (Option Value)):
  Meets (Builtin.«int.__rmul__» ⟨[.int a t,.ref l],[]⟩) (λ_ R s=>s.heap.get? l=some ⟨.type "tuple",od,.seq items n,sl⟩/\R (.ok (.ret Value.notImplemented)) s):=
 .of_wp λprog w A R s h=>by obtain⟨hp,g,d,tk,os⟩:=s;obtain⟨hl,h⟩:=h;wp_walk;exact⟨_,rfl,h⟩
theorem mul_tuple6 (l:Addr) (items:Array Value) (n:Nat) (od:Option Addr) (sl:Array (Option Value)) (u:Tok) (hc0: ¬items.isEmpty=true) (hz:items.size<=10):
  Meets (Builtin.«tuple.__mul__» ⟨[.ref l,.int 6 u],[]⟩) (λ_ R s=>s.heap.get? l=some ⟨.type "tuple",od,.seq items n,sl⟩/\R (.ok (.ret (Value.ref s.heap.objs.size))) { s with heap:=s.heap.push { cls:=Value.type "tuple",data:=Data.seq (List.foldl (λx1 x2=>x1++x2) #[] (List.replicate 6 items)) },toks:=s.toks }):=
 .of_wp λprog w A R s h=>by
  obtain⟨hp,g,d,tk,os⟩:=s;obtain⟨hl,h⟩:=h;have gP: ¬((items.size:Int)*6>(2 ^ 63 - 1) / 8):=by omega
  wp_walk
  rw[if_neg gP];have bH:Tuple.tupleTooMany ((items.size:Int)*6)=false:=by
   unfold Tuple.tupleTooMany;have:(60:Nat)<sizeLine:=by decide
   simp only[decide_eq_false_iff_not];omega
  have hsz:(List.foldl (λx1 x2=>x1++x2) #[] (List.replicate 6 items)).size<=sizeLine:=by
   have:(60:Nat)<=sizeLine:=by decide
   simp only[List.replicate,List.foldl_cons,List.foldl_nil,Array.size_append,Array.size_empty,List.size_toArray,List.length_nil];omega
  simp only[bH]
  wp_walk
  refine wpAny_ite_false (Vx (Nat.not_lt.mpr hsz)) ?_
  wp_walk
  exact⟨_,rfl,h⟩
end TM
namespace PL
open PySem L2 SR SetL PySem.Spec PyProof.Rows
section
noncomputable def rRep6(K:W.Frag):R2:=λx y H Q=> ∃a xs,x= .ref a/\y= .int 6/\SqT K H a xs/\xs≠[]/\xs.length<=10/\∀p,H p=none->Q (.ref p) (upd H p (.tup (List.replicate 6 xs).flatten))
theorem qo5:OpR X (binaryOp .Mult) (rRep6 X.K):=by
 intro pins s σ H x y v u Q I rx ry h;obtain⟨a,xs,rfl,rfl,ha,hx,hz,q⟩:=h;cases rx;obtain⟨t,rfl⟩:=ry;obtain⟨its,r1,p1,_⟩:=I.tuple ha;obtain⟨⟨cl,od,da,sl⟩,e,c8,n,eU⟩:=p1;dsimp only at c8 eU;subst c8 eU;have hl:=r1.length;have bT:List.foldl (λx1 x2=>x1++x2) #[] (List.replicate 6 its.toArray)=(List.replicate 6 its).flatten.toArray:=by simp[List.replicate]
 refine wpAny_binaryOp_repeat_ref (T:= "tuple") (U:= "int") (by decide) ⟨_,e,rfl⟩ (λs'=>typeIs_int s' 6 t) TM.noFill_tuple_mul F.fills_int_mul F.slot_int_rmul TM.repeat_tuple F.slot_int_index.lookup
  (Wa F.slot_int_rmul (typeIs_int s 6 t) F.entry_int_rmul (F.args_int_rmul_2 _ _) (TM.rmul_tuple 6 t a its.toArray n od sl)
   ⟨e,rfl,⟨_,e,rfl⟩,Wa F.slot_tuple_mul ⟨_,e,rfl⟩ F.entry_tuple_mul (F.args_tuple_mul_2 _ _) (TM.mul_tuple6 a its.toArray n od sl t (λz=>hx (r1.nil_iff.mp (by simpa using z))) (by rw[List.size_toArray,<-hl];exact hz)) ⟨e,?_⟩⟩)
 rw[bT];refine⟨.ref s.heap.objs.size,_,I.laid (t':=s.toks) (o:=.tup (List.replicate 6 xs).flatten) (λb ob q=>Vg _ q) (Vm _) ?_,rfl,q _ (I.hok.fresh (Vm _))⟩;exact⟨by rw[qgr];(have:(60:Nat)<=sizeLine:=by decide);omega,_,r1.rep 6,IsTup.new _ _⟩
end
section
noncomputable def rCat0(K:W.Frag):R2:=λx y H Q=> ∃a b ys,x= .ref a/\y= .ref b/\SqT K H a []/\SqT K H b ys/\Q (.ref b) H
theorem op_cat0:OpR X (binaryOp .Add) (rCat0 X.K):=by
 intro pins s σ H x y v u Q I rx ry h;obtain⟨a,b,ys,rfl,rfl,ha,hb,q⟩:=h;cases rx;cases ry;obtain⟨its,r1,p1,_⟩:=I.tuple ha;obtain⟨aQ,r2,p2,_⟩:=I.tuple hb;cases r1;obtain⟨⟨cls,dd,data,sl⟩,ho,hc,n,hd⟩:=id p1;obtain⟨⟨hW,fK,data2,fg⟩,bx,bH,n2,hd2⟩:=id p2;simp only at hc hd bH hd2;subst hc hd bH hd2
 exact concat_meets ⟨_,ho,rfl⟩ ⟨_,bx,rfl⟩ noFill_tuple_add seq_tuple_add F.slot_tuple_add F.entry_tuple_add (F.args_tuple_add_2 _ _)
  (tuple_addW0 a b _ _ n n2 dd fK sl fg rfl) ⟨ho,bx,⟨.ref b,H,I,rfl,q⟩⟩
end
end PL
namespace TM
open PySem Builtin
theorem mul_tuple5 (l:Addr) (items:Array Value) (n:Nat) (od:Option Addr) (sl:Array (Option Value)) (u:Tok) (hc0: ¬items.isEmpty=true) (hz:items.size<=10):
  Meets (Builtin.«tuple.__mul__» ⟨[.ref l,.int 5 u],[]⟩) (λ_ R s=>s.heap.get? l=some ⟨.type "tuple",od,.seq items n,sl⟩/\R (.ok (.ret (Value.ref s.heap.objs.size))) { s with heap:=s.heap.push { cls:=Value.type "tuple",data:=Data.seq (List.foldl (λx1 x2=>x1++x2) #[] (List.replicate 5 items)) },toks:=s.toks }):=
 .of_wp λprog w A R s h=>by
  obtain⟨hp,g,d,tk,os⟩:=s;obtain⟨hl,h⟩:=h;have gP: ¬((items.size:Int)*5>(2 ^ 63 - 1) / 8):=by omega
  wp_walk
  rw[if_neg gP];have bH:Tuple.tupleTooMany ((items.size:Int)*5)=false:=by
   unfold Tuple.tupleTooMany;have:(50:Nat)<sizeLine:=by decide
   simp only[decide_eq_false_iff_not];omega
  have hsz:(List.foldl (λx1 x2=>x1++x2) #[] (List.replicate 5 items)).size<=sizeLine:=by
   have:(50:Nat)<=sizeLine:=by decide
   simp only[List.replicate,List.foldl_cons,List.foldl_nil,Array.size_append,Array.size_empty,List.size_toArray,List.length_nil];omega
  simp only[bH]
  wp_walk
  refine wpAny_ite_false (Vx (Nat.not_lt.mpr hsz)) ?_
  wp_walk
  exact⟨_,rfl,h⟩
end TM
namespace PL
open PySem L2 SR SetL PySem.Spec PyProof.Rows
section
noncomputable def rRep5(K:W.Frag):R2:=λx y H Q=> ∃a xs,x= .ref a/\y= .int 5/\SqT K H a xs/\xs≠[]/\xs.length<=10/\∀p,H p=none->Q (.ref p) (upd H p (.tup (List.replicate 5 xs).flatten))
theorem qo6:OpR X (binaryOp .Mult) (rRep5 X.K):=by
 intro pins s σ H x y v u Q I rx ry h;obtain⟨a,xs,rfl,rfl,ha,hx,hz,q⟩:=h;cases rx;obtain⟨t,rfl⟩:=ry;obtain⟨its,r1,p1,_⟩:=I.tuple ha;obtain⟨⟨cl,od,da,sl⟩,e,c8,n,eU⟩:=p1;dsimp only at c8 eU;subst c8 eU;have hl:=r1.length;have bT:List.foldl (λx1 x2=>x1++x2) #[] (List.replicate 5 its.toArray)=(List.replicate 5 its).flatten.toArray:=by simp[List.replicate]
 refine wpAny_binaryOp_repeat_ref (T:= "tuple") (U:= "int") (by decide) ⟨_,e,rfl⟩ (λs'=>typeIs_int s' 5 t) TM.noFill_tuple_mul F.fills_int_mul F.slot_int_rmul TM.repeat_tuple F.slot_int_index.lookup
  (Wa F.slot_int_rmul (typeIs_int s 5 t) F.entry_int_rmul (F.args_int_rmul_2 _ _) (TM.rmul_tuple 5 t a its.toArray n od sl)
   ⟨e,rfl,⟨_,e,rfl⟩,Wa F.slot_tuple_mul ⟨_,e,rfl⟩ F.entry_tuple_mul (F.args_tuple_mul_2 _ _) (TM.mul_tuple5 a its.toArray n od sl t (λz=>hx (r1.nil_iff.mp (by simpa using z))) (by rw[List.size_toArray,<-hl];exact hz)) ⟨e,?_⟩⟩)
 rw[bT];refine⟨.ref s.heap.objs.size,_,I.laid (t':=s.toks) (o:=.tup (List.replicate 5 xs).flatten) (λb ob q=>Vg _ q) (Vm _) ?_,rfl,q _ (I.hok.fresh (Vm _))⟩;exact⟨by rw[qgr];(have:(50:Nat)<=sizeLine:=by decide);omega,_,r1.rep 5,IsTup.new _ _⟩
theorem op_rep56:OpR X (binaryOp .Mult) (λx y H Q=>rRep5 X.K x y H Q\/rRep6 X.K x y H Q):=qo6.or qo5
end
end PL
namespace NV
open PySem L2
inductive Nv where
 |v (t:T)|t (ts:List T)|l (ts:List T)|d (kvs:List (Key×T))|p (k:Nat) (c:Ct) (t:T)
noncomputable def Mu.live(μ:Mu)(k:Nat):Bool:=match μ.l[k]? with
 |some .gone=>false
 |some _=>true
 |none=>false
theorem Mu.live_at{μ:Mu}{k:Nat}(h:μ.live k=true): ∃c,μ.l[k]? =some c/\c≠.gone:=by
 unfold Mu.live at h;split at h
 ·cases h
 ·rename_i c n e;exact⟨c,e,λz=>n z⟩
 ·cases h
noncomputable def nvR(ow:Bool):Option Nv->Mu->R T
 |some (.v t),μ=>.ok t μ
 |some (.t ts),μ=>.ok (.tup ts) μ
 |some (.l ts),μ=>if ow=true then .ok (.obj μ.l.length) (μ.add (.ls ts)) else .ok (.lst ts) μ
 |some (.d ts),μ=>if ow=true then .ok (.obj μ.l.length) (μ.add (.dk ts)) else .ok (.dct ts) μ
 |some (.p k c t),μ=>if μ.live k=true then .ok t (μ.put k c) else .no
 |none,_=>.no
noncomputable def KV(M:Md)(μ:Mu)(H:Hp)(B:qal)(Q:VK):Nv->Prop
 |.v t=> ∀B' x,Hs M μ H B'->Go H B H B'->Rep M.K B' t x->Q x H
 |.t ts=> ∀B' p vs,Hs M μ H B'->Go H B H B'->H p=none->Reps M.K B' ts vs->Q (.ref p) (upd H p (.tup vs))
 |.l ts=> ∀B' p vs,Hs M μ H B'->Go H B H B'->H p=none->Reps M.K B' ts vs->Q (.ref p) (upd H p (.lst vs))
 |.d ts=> ∀B' p vs,Hs M μ H B'->Go H B H B'->H p=none->qbd M.K B' ts vs->Q (.ref p) (upd H p (.dK vs))
 |.p k c t=>μ.live k=true/\∀B' a o x,Hs M μ H B'->Go H B H B'->B'.ad k=some a->qeP M.K B' c o->Rep M.K B' t x->Q x (upd H a o)
section
variable {M:Md}{μ:Mu}{H:Hp}{B:qal}{Q:VK}
theorem qgn{ow:Bool}{o:Option Nv}(c:Str)(m:Mu):nvR ow o μ≠.ex c m:=λe=>by unfold nvR at e;split at e<;>first|cases e|(split at e<;>cases e)
theorem qgm{ow:Bool}{o:Option Nv}{t:T}{m:Mu}(e:nvR ow o μ= .ok t m)(k:KE M H B Q t m): ∃n,o=some n/\KV M μ H B Q n:=by
 unfold nvR at e;split at e
 ·cases e;exact⟨_,rfl,λB' x h g r=>k x H B' h g r⟩
 ·cases e;exact⟨_,rfl,λB' p vs h g hp r=>k _ _ _ (h.new hp (λps z=>by cases z)) (g.trans (h.gnew hp)) (qcr qai (r.mono (h.upd_le (h.fr hp))))⟩
 ·refine⟨_,rfl,λB' p vs h g hp r=> ?_⟩;split at e
  ·cases e;have le:Le B' (B'.add μ.l.length p):=(h.gown (o:=.lst vs) hp).le;exact k _ _ _ (h.own (c:=.ls _) (o:=.lst vs) hp ⟨vs,rfl,r.mono le⟩).1 (g.trans (h.gown hp)) (qdE (by show(if μ.l.length=μ.l.length then some p else _)=_;rw[if_pos rfl]))
  ·cases e;exact k _ _ _ (h.new hp (λps z=>by cases z)) (g.trans (h.gnew hp)) (qc1 qai (r.mono (h.upd_le (h.fr hp))))
 ·refine⟨_,rfl,λB' p vs h g hp r=> ?_⟩;split at e
  ·cases e;have le:Le B' (B'.add μ.l.length p):=(h.gown (o:=.dK vs) hp).le;exact k _ _ _ (h.own (c:=.dk _) (o:=.dK vs) hp ⟨vs,rfl,r.mono le⟩).1 (g.trans (h.gown hp)) (qdE (by show(if μ.l.length=μ.l.length then some p else _)=_;rw[if_pos rfl]))
  ·cases e;exact k _ _ _ (h.new hp (λps z=>by cases z)) (g.trans (h.gnew hp)) (qhg qai (r.mono (h.upd_le (h.fr hp))))
 ·split at e
  ·rename_i hl;cases e;obtain⟨c0,e0,n0⟩:=Mu.live_at hl;exact⟨_,rfl,hl,λB' a o x h g ha hc r=>k x _ B' (h.put e0 n0 ha hc) (g.trans (qvb ha)) r⟩
  ·cases e
 ·cases e
end
noncomputable def OkO(M:Md)(r:R2)(g:Mu->T->T->Option Nv):Prop:= ∀(μ:Mu) (H:Hp) (B:qal) (x y:V) (a b:T) (n:Nv) (Q:VK),Hs M μ H B->Rep M.K B a x->Rep M.K B b y->g μ a b=some n->KV M μ H B Q n->r x y H Q
noncomputable def OkN(M:Md)(r:List V->Hp->VK->Prop)(g:Mu->List T->Option Nv):Prop:= ∀(μ:Mu) (H:Hp) (B:qal) (vs:List V) (ts:List T) (n:Nv) (Q:VK),Hs M μ H B->Reps M.K B ts vs->g μ ts=some n->KV M μ H B Q n->r vs H Q
theorem OkO.b{M:Md}{r:R2}{g:Mu->T->T->Option Nv}{ow:Bool}(h:OkO M r g):OkB M r (λa b μ=>nvR ow (g μ a b) μ):=
 ⟨λ_ _ _ c m=>qgn c m,λμ H B x y a b t μ' Q hs ra rb e k=>by obtain⟨n,e',kv⟩:=qgm e k;exact h μ H B x y a b n Q hs ra rb e' kv⟩
noncomputable def dr1(μ:Mu):T->T
 |.obj k=>(match μ.l[k]? with|some (.ls ts)=>.lst ts|some (.dk kvs)=>.dct kvs|_=>.obj k)
 |t=>t
noncomputable def dr2(μ:Mu)(t:T):T:=match dr1 μ t with
 |.lst ts=>.lst (ts.map (dr1 μ))
 |t=>t
open Classical in
noncomputable def qal.all(B:qal)(H:Hp)(μ:Mu):qal:=⟨λa=>if ∃k c,B.ad k=some a/\μ.l[k]? =some c/\c≠.gone then H a else B a,B.ad⟩
section
open Classical
variable {M:Md}{μ:Mu}{H:Hp}{B:qal}
theorem qdo(h:Hs M μ H B):Le B (B.all H μ)/\LeH (B.all H μ) H:=by
 refine⟨⟨λa o e=> ?_,λ_ _ e=>e⟩,λa o e=> ?_⟩
 ·show(if _ then H a else B a)=_;split
  ·exact h.bh a o e
  ·exact e
 ·have e:(if _ then H a else B a)=some o:=e;split at e
  ·exact e
  ·exact h.bh a o e
theorem qn4(h:Hs M μ H B){k:Nat}{c:Ct}{a:Addr}(e:μ.l[k]? =some c)(n:c≠.gone)(ha:B.ad k=some a): ∃o,(B.all H μ) a=some o/\qeP M.K (B.all H μ) c o:=by obtain⟨o,_,ho,hc⟩:=h.at e n ha;refine⟨o,?_,hc.mono (qdo h).1⟩;show(if _ then H a else B a)=_;rw[if_pos ⟨k,c,ha,e,n⟩];exact ho
theorem qeC(h:Hs M μ H B){t:T}{v:V}(r:Rep M.K B t v):Rep M.K (B.all H μ) (dr1 μ t) v:=by
 unfold dr1;split
 ·rename_i k;obtain⟨a,rfl,ea⟩:=qaA r;split
  ·rename_i ts el;obtain⟨o,e1,vs,rfl,rv⟩:=qn4 h el (by simp) ea;exact qc1 e1 rv
  ·rename_i ts el;obtain⟨o,e1,vs,rfl,rv⟩:=qn4 h el (by simp) ea;exact qhg e1 rv
  ·exact r.mono (qdo h).1
 ·exact r.mono (qdo h).1
theorem qkj(h:Hs M μ H B){t:T}{v:V}(r:Rep M.K B t v):Rep M.K (B.all H μ) (dr2 μ t) v:=by
 have many: ∀{ts:List T} {vs:List V},Reps M.K B ts vs->Reps M.K (B.all H μ) (ts.map (dr1 μ)) vs:=λ{ts vs} r=>
  .of_get (by rw[r.length,List.length_map]) λi t' v e1 e2=>by
   rw[List.getElem?_map] at e1;cases q:ts[i]? with
   |none=>rw[q] at e1;cases e1
   |some u=>rw[q] at e1;cases e1;obtain⟨v',ev,rv⟩:=r.get q;rw[e2] at ev;cases ev;exact qeC h rv
 have r0:=qeC h r;unfold dr2;split
 ·rename_i ts e;unfold dr1 at e;split at e
  ·rename_i k;obtain⟨a,rfl,ea⟩:=qaA r;split at e
   ·rename_i us el;cases e;obtain⟨o,_,ho,vs,rfl,rv⟩:=h.at el (by simp) ea;refine qc1 (vs:=vs) ?_ (many rv);show(if _ then H a else B a)=_;rw[if_pos ⟨k,_,ea,el,by simp⟩];exact ho
   ·cases e
   ·cases e
  ·subst e;obtain⟨p,vs,rfl,hp,rv⟩:=qaB r;exact qc1 ((qdo h).1.h _ _ hp) (many rv)
 ·exact r0
theorem qbj(h:Hs M μ H B){t:T}{v:V}{b:Bool}{ts:List T}(e:sqv μ t=some (b,ts))(r:Rep M.K B t v): ∃p vs,v= .ref p/\Reps M.K B ts vs/\(if b=true then H p=some (.lst vs) else B p=some (.tup vs)/\H p=some (.tup vs)):=by
 unfold sqv at e;split at e
 ·cases e;obtain⟨p,vs,rfl,hp,rv⟩:=qaB r;exact⟨p,vs,rfl,rv,by rw[if_pos rfl];exact h.bh _ _ hp⟩
 ·cases e;obtain⟨p,vs,rfl,hp,rv⟩:=qaw r;exact⟨p,vs,rfl,rv,by rw[if_neg (by decide)];exact⟨hp,h.bh _ _ hp⟩⟩
 ·split at e
  ·rename_i k us el;cases e;obtain⟨a,rfl,ea⟩:=qaA r;obtain⟨o,_,ho,vs,rfl,rv⟩:=h.at el (by simp) ea;exact⟨a,vs,rfl,rv,by rw[if_pos rfl];exact ho⟩
  ·cases e
 ·cases e
end
noncomputable def qvt(μ:Mu)(a b:T):Option Nv:=match a,b with
 |.int i,.int j=>some (.v (.int (i+j)))
 |.str i,.str j=>if i.length+j.length<=100000 then some (.v (.str (i++j))) else none
 |a,b=>(match sqv μ a,sqv μ b with
  |some (true,xs),some (true,ys)=>if xs.length+ys.length<=1000 then some (.l (xs++ys)) else none
  |some (false,[]),some (false,ys)=>some (.v (.tup ys))
  |some (false,x::xs),some (false,[])=>if xs.length<=900 then some (.v (.tup (x::xs))) else none
  |some (false,x::xs),some (false,y::ys)=>if xs.length+ys.length<=900 then some (.t (x::xs++y::ys)) else none
  |_,_=>none)
noncomputable def gSub(_:Mu):T->T->Option Nv
 |.int i,.int j=>some (.v (.int (i - j)))
 |_,_=>none
noncomputable def qvm(μ:Mu)(a b:T):Option Nv:=match a,b with
 |.int i,.int j=>if(-4294967296<=i/\i<=4294967296)\/(-4294967296<=j/\j<=4294967296) then some (.v (.int (i*j))) else none
 |a,.int k=>(match sqv μ a with
  |some (true,xs)=>if(0<=k/\k<=100)/\xs.length<=10 then some (.l (List.replicate k.toNat xs).flatten) else none
  |some (false,x::xs)=>if xs.length<=9/\(k=5\/k=6) then some (.t (List.replicate k.toNat (x::xs)).flatten) else none
  |_=>none)
 |_,_=>none
noncomputable def qvp(_:Mu):T->T->Option Nv
 |.int i,.int j=>if 0<j/\j<1073741824 then some (.v (.int (i / j))) else none
 |_,_=>none
noncomputable def qvn(_:Mu):T->T->Option Nv
 |.int i,.int j=>if 0<j then some (.v (.int (i % j))) else none
 |_,_=>none
noncomputable def qxT(_:Mu):T->T->Option Nv
 |.int i,.int j=>if(0<=j/\j<=100)/\ -1000<=i/\i<=1000 then some (.v (.int (i ^ j.toNat))) else none
 |_,_=>none
theorem OpR.or{X:Cx}{f:Value->Value->Sem Value}{r r':R2}(h:OpR X f r)(h':OpR X f r'):OpR X f (λx y H Q=>r x y H Q\/r' x y H Q):=λpins s σ H x y v u Q I rx ry q=>q.elim (h pins s σ H x y v u Q I rx ry) (h' pins s σ H x y v u Q I rx ry)
section
variable {M:Md}{X:Cx}
theorem qcE{K:W.Frag}{B:qal}{ts:List T}{vs:List V}(r:Reps K B ts vs): ∀k:Nat,Reps K B (List.replicate k ts).flatten (List.replicate k vs).flatten
 |0=>.nil
 |k+1=>by rw[List.replicate_succ,List.replicate_succ,List.flatten_cons,List.flatten_cons];exact r.append (qcE r k)
noncomputable def rAdd(K:W.Frag):R2:=λx y H Q=>(rI0 (λi j=>.int (i+j)) x y H Q\/(∃i j,x= .str i/\y= .str j/\i.length+j.length<=sizeLine/\Q (.str (i++j)) H))\/(qwt x y H Q\/(PL.rCat0 K x y H Q\/qq5 K x y H Q))
theorem qpc:OpR X (binaryOp .Add) (rAdd X.K):=OpR.or (OpR.or qrL qh6) (OpR.or qrK (OpR.or PL.op_cat0 qpb))
theorem qrU(hK:X.K=M.K):OkO M (rAdd X.K) qvt:=by
 intro μ H B x y a b n Q h ra rb e k;rw[hK];unfold qvt at e;split at e
 ·cases e;rw[qaf ra,qaf rb];exact .inl (.inl ⟨_,_,rfl,rfl,k B _ h .refl qaL⟩)
 ·split at e
  ·rename_i hz;cases e;have l0:100000<=sizeLine:=by decide
   rw[qaz ra,qaz rb];exact .inl (.inr ⟨_,_,rfl,rfl,by omega,k B _ h .refl qcs⟩)
  ·cases e
 ·have l0:1000<=sizeLine:=by decide
  split at e
  ·rename_i xs ys e1 e2;split at e
   ·rename_i hz;cases e;obtain⟨p,vs,rfl,r1,h1⟩:=qbj h e1 ra;obtain⟨q,ws,rfl,r2,h2⟩:=qbj h e2 rb;rw[if_pos rfl] at h1 h2;exact .inr (.inl ⟨p,q,vs,ws,rfl,rfl,h1,h2,by rw[r1.length,r2.length];omega,λd hd=>k B d _ h .refl hd (r1.append r2)⟩)
   ·cases e
  ·rename_i ys e1 e2;cases e;obtain⟨p,vs,rfl,r1,h1⟩:=qbj h e1 ra;obtain⟨q,ws,rfl,r2,h2⟩:=qbj h e2 rb;rw[if_neg (by decide)] at h1 h2;cases r1.inv0;exact .inr (.inr (.inl ⟨p,q,ws,rfl,rfl,SqT.of h1.2,SqT.of h2.2,k B _ h .refl (qcr h2.1 r2)⟩))
  ·rename_i x xs e1 e2;split at e
   ·rename_i hz;cases e;obtain⟨p,vs,rfl,r1,h1⟩:=qbj h e1 ra;obtain⟨q,ws,rfl,r2,h2⟩:=qbj h e2 rb;rw[if_neg (by decide)] at h1 h2;cases r2.inv0;have l1:=r1.length;rw[List.length_cons] at l1;exact .inr (.inr (.inr ⟨p,q,vs,[],rfl,rfl,SqT.of h1.2,SqT.of h2.2,(λz=>by rw[z] at l1;cases l1),by simp;omega,(λ_=>k B _ h .refl (qcr h1.1 r1)),λz=>absurd rfl z⟩))
   ·cases e
  ·rename_i x xs y ys e1 e2;split at e
   ·rename_i hz;cases e;obtain⟨p,vs,rfl,r1,h1⟩:=qbj h e1 ra;obtain⟨q,ws,rfl,r2,h2⟩:=qbj h e2 rb;rw[if_neg (by decide)] at h1 h2;have l1:=r1.length;have l2:=r2.length;rw[List.length_cons] at l1 l2;exact .inr (.inr (.inr ⟨p,q,vs,ws,rfl,rfl,SqT.of h1.2,SqT.of h2.2,(λz=>by rw[z] at l1;cases l1),by omega,(λz=>by rw[z] at l2;cases l2),λ_ d hd=>k B d _ h .refl hd (r1.append r2)⟩))
   ·cases e
  ·cases e
theorem qrM:OkO M (rI0 λi j=>.int (i - j)) gSub:=by
 intro μ H B x y a b n Q h ra rb e k;unfold gSub at e;split at e
 ·cases e;exact⟨_,_,qaf ra,qaf rb,k B _ h .refl qaL⟩
 ·cases e
noncomputable def qwj(K:W.Frag):R2:=λx y H Q=>rI qtM (λi j=>.int (i*j)) x y H Q\/(qwi x y H Q\/(PL.rRep5 K x y H Q\/PL.rRep6 K x y H Q))
theorem qo8:OpR X (binaryOp .Mult) (qwj X.K):=OpR.or qrD (OpR.or qrB PL.op_rep56)
theorem qrO(hK:X.K=M.K):OkO M (qwj X.K) qvm:=by
 intro μ H B x y a b n Q h ra rb e k;rw[hK];have l0:1000<=sizeLine:=by decide
 unfold qvm at e;split at e
 ·split at e
  ·rename_i hz;cases e;refine .inl ⟨_,_,qaf ra,qaf rb,?_,k B _ h .refl qaL⟩
   rcases hz with hz|hz
   ·exact .inl ⟨by lia,by lia⟩
   ·exact .inr ⟨by lia,by lia⟩
  ·cases e
 ·split at e
  ·rename_i j _ _ xs e1;split at e
   ·rename_i hz;cases e;obtain⟨p,vs,rfl,r1,h1⟩:=qbj h e1 ra;rw[if_pos rfl] at h1;have l1:vs.length*j.toNat<=10*100:=Nat.mul_le_mul (by rw[r1.length];exact hz.2) (by omega);exact .inr (.inl ⟨p,_,vs,rfl,qaf rb,h1,by omega,by omega,by omega,λd hd=>k B d _ h .refl hd (qcE r1 _)⟩)
   ·cases e
  ·rename_i x xs e1;split at e
   ·rename_i hz;cases e;obtain⟨p,vs,rfl,r1,h1⟩:=qbj h e1 ra;rw[if_neg (by decide)] at h1;have l1:=r1.length;rw[List.length_cons] at l1;have nv:vs≠[]:=λz=>by rw[z] at l1;cases l1
    rcases hz.2 with rfl|rfl
    ·exact .inr (.inr (.inl ⟨p,vs,rfl,qaf rb,SqT.of h1.2,nv,by omega,λd hd=>k B d _ h .refl hd (qcE r1 5)⟩))
    ·exact .inr (.inr (.inr ⟨p,vs,rfl,qaf rb,SqT.of h1.2,nv,by omega,λd hd=>k B d _ h .refl hd (qcE r1 6)⟩))
   ·cases e
  ·cases e
 ·cases e
theorem qrT:OkO M (rI qwZ λi j=>.int (i / j)) qvp:=by
 intro μ H B x y a b n Q h ra rb e k;unfold qvp at e;split at e
 ·split at e
  ·rename_i hz;cases e;exact⟨_,_,qaf ra,qaf rb,hz,k B _ h .refl qaL⟩
  ·cases e
 ·cases e
theorem qrP:OkO M (rI (λ_ j=>0<j) λi j=>.int (i % j)) qvn:=by
 intro μ H B x y a b n Q h ra rb e k;unfold qvn at e;split at e
 ·split at e
  ·rename_i hz;cases e;exact⟨_,_,qaf ra,qaf rb,hz,k B _ h .refl qaL⟩
  ·cases e
 ·cases e
end
noncomputable def qhZ(x y:Str):Bool:=decide (x.cps.toList<y.cps.toList)
noncomputable def gLt(_:Mu):T->T->Option Nv
 |.int i,.int j=>some (.v (.bl (decide (i<j))))
 |.str i,.str j=>some (.v (.bl (qhZ i j)))
 |_,_=>none
noncomputable def gLe(_:Mu):T->T->Option Nv
 |.int i,.int j=>some (.v (.bl (decide (i<=j))))
 |.str i,.str j=>some (.v (.bl (!qhZ j i)))
 |_,_=>none
noncomputable def gGt(_:Mu):T->T->Option Nv
 |.int i,.int j=>some (.v (.bl (decide (j<i))))
 |_,_=>none
noncomputable def gGe(_:Mu):T->T->Option Nv
 |.int i,.int j=>some (.v (.bl (decide (j<=i))))
 |_,_=>none
noncomputable def qnG(neg:Bool)(μ:Mu)(a b:T):Option Nv:=
 if okT 8 (dr1 μ a)=true/\okT 8 (dr1 μ b)=true then some (.v (.bl (if neg then !eqT (dr1 μ a) (dr1 μ b) else eqT (dr1 μ a) (dr1 μ b))))
 else if okT 8 (dr2 μ a)=true/\okT 8 (dr2 μ b)=true then some (.v (.bl (if neg then !eqT (dr2 μ a) (dr2 μ b) else eqT (dr2 μ a) (dr2 μ b)))) else(match neg,a,b with
  |false,.scr ns,.lst []=>some (.v (.bl ns.isEmpty))
  |_,_,_=>none)
noncomputable def qpz:T->Option Bool
 |.non=>some true
 |_=>some false
noncomputable def gIs(neg:Bool)(_:Mu):T->T->Option Nv
 |.bl i,.bl j=>some (.v (.bl (if neg then i != j else i==j)))
 |t,.non=>(qpz t).map λb=>.v (.bl (if neg then !b else b))
 |_,_=>none
section
variable {M:Md}{X:Cx}
theorem qrF:OpR X (compareOp .Lt) (λx y H Q=>rI0 (λi j=>.bl (decide (i<j))) x y H Q\/∃i j,x= .str i/\y= .str j/\Q (.bl (decide (i.cps.toList<j.cps.toList))) H):=OpR.or quG qjz
theorem qrG:OpR X (compareOp .LtE) (λx y H Q=>rI0 (λi j=>.bl (decide (i<=j))) x y H Q\/∃i j,x= .str i/\y= .str j/\Q (.bl (!decide (j.cps.toList<i.cps.toList))) H):=OpR.or quH qjA
theorem quK:OkO M (λx y H Q=>rI0 (λi j=>.bl (decide (i<j))) x y H Q\/∃i j,x= .str i/\y= .str j/\Q (.bl (decide (i.cps.toList<j.cps.toList))) H) gLt:=by
 intro μ H B x y a b n Q h ra rb e k;unfold gLt at e;split at e
 ·cases e;exact .inl ⟨_,_,qaf ra,qaf rb,k B _ h .refl qa4⟩
 ·cases e;exact .inr ⟨_,_,qaz ra,qaz rb,k B _ h .refl qa4⟩
 ·cases e
theorem quL:OkO M (λx y H Q=>rI0 (λi j=>.bl (decide (i<=j))) x y H Q\/∃i j,x= .str i/\y= .str j/\Q (.bl (!decide (j.cps.toList<i.cps.toList))) H) gLe:=by
 intro μ H B x y a b n Q h ra rb e k;unfold gLe at e;split at e
 ·cases e;exact .inl ⟨_,_,qaf ra,qaf rb,k B _ h .refl qa4⟩
 ·cases e;exact .inr ⟨_,_,qaz ra,qaz rb,k B _ h .refl qa4⟩
 ·cases e
theorem quM:OkO M (rI0 λi j=>.bl (decide (j<i))) gGt:=by
 intro μ H B x y a b n Q h ra rb e k;unfold gGt at e;split at e
 ·cases e;exact⟨_,_,qaf ra,qaf rb,k B _ h .refl qa4⟩
 ·cases e
theorem quN:OkO M (rI0 λi j=>.bl (decide (j<=i))) gGe:=by
 intro μ H B x y a b n Q h ra rb e k;unfold gGe at e;split at e
 ·cases e;exact⟨_,_,qaf ra,qaf rb,k B _ h .refl qa4⟩
 ·cases e
noncomputable def qui(K:W.Frag)(neg:Bool):R2:=λx y H Q=>(∃B t u,LeH B H/\Rep K B t x/\Rep K B u y/\okT 8 t=true/\okT 8 u=true/\Q (.bl (if neg then !eqT t u else eqT t u)) H)\/(neg=false/\∃(a b:Addr) (ns:List Int),x= .ref a/\y= .ref b/\SqL K H a (ns.map V.int)/\SqL K H b []/\Q (.bl ns.isEmpty) H)
theorem qrJ(hu:X.A.units+8<cLine):OpR X (compareOp .Eq) (qui X.K false):=by
 intro pins s σ H x y v u Q I rx ry q
 rcases q with⟨B,t,u',le,ra,rb,o1,o2,q⟩|⟨_,a,b,ns,rfl,rfl,h1,h2,q⟩
 ·exact(qje I le 8 8 X.A t u' x y v u o1 o2 hu ra rb rx ry).2.1 _ _ _ _ ⟨.bl _,H,I,rfl,q⟩
 ·refine qgl (by omega) pins s σ H _ _ v u Q I rx ry ⟨a,b,_,_,rfl,rfl,h1,h2,?_⟩;cases ns with
  |nil=>exact .inr ⟨rfl,λ_=>true,λi x y hx=>by simp at hx,q⟩
  |cons n ns=>exact .inl ⟨by simp,q⟩
theorem qrC(hu:X.A.units+8<cLine):OpR X (compareOp .NotEq) (qui X.K true):=by
 intro pins s σ H x y v u Q I rx ry q
 rcases q with⟨B,t,u',le,ra,rb,o1,o2,q⟩|⟨e,_⟩
 ·exact(qje I le 8 8 X.A t u' x y v u o1 o2 hu ra rb rx ry).2.2 _ _ _ _ ⟨.bl _,H,I,rfl,q⟩
 ·cases e
theorem qrS{neg:Bool}(hK:X.K=M.K):OkO M (qui X.K neg) (qnG neg):=by
 intro μ H B x y a b n Q h ra rb e k;rw[hK];have le:=(qdo h).2;unfold qnG at e;split at e
 ·rename_i o;cases e;exact .inl ⟨_,_,_,le,qeC h ra,qeC h rb,o.1,o.2,k B _ h .refl qa4⟩
 ·split at e
  ·rename_i o;cases e;exact .inl ⟨_,_,_,le,qkj h ra,qkj h rb,o.1,o.2,k B _ h .refl qa4⟩
  ·split at e
   ·cases e;obtain⟨p,vs,rfl,r1,r2⟩:=qaB rb;cases r2.inv0;unfold Rep at ra;obtain⟨q,rfl,r3⟩:=ra;exact .inr ⟨rfl,_,_,_,rfl,rfl,qi9 (λa o e=>le _ _ ((qdo h).1.h a o e)) r3,SqL.of (le _ _ ((qdo h).1.h _ _ r1)),k B _ h .refl qa4⟩
   ·cases e
theorem qjV{K:W.Frag}{B:qal}{t:T}{v:V}{c:Bool}(r:Rep K B t v)(e:qpz t=some c):decide (v= .non)=c:=by
 cases t with
 |non=>cases e;rw[qcT r];rfl
 |bl _=>cases e;rw[qbI r];rfl
 |int _=>cases e;rw[qaf r];rfl
 |str _=>cases e;rw[qaz r];rfl
 |tup _=>cases e;obtain⟨_,_,rfl,_⟩:=qaw r;rfl
 |lst _=>cases e;obtain⟨_,_,rfl,_⟩:=qaB r;rfl
 |dct _=>cases e;obtain⟨_,_,rfl,_⟩:=qga r;rfl
 |obj _=>cases e;obtain⟨_,rfl,_⟩:=qaA r;rfl
 |exc _=>cases e;obtain⟨_,rfl,_⟩:=qoA r;rfl
 |fn _|scr _=>cases e;unfold Rep at r;obtain⟨_,rfl,_⟩:=r;rfl
theorem qo9:OpR X (compareOp .Is) (λx y H Q=>(y= .non/\Q (.bl (decide (x= .non))) H)\/∃c d,x= .bl c/\y= .bl d/\Q (.bl (c==d)) H):=OpR.or qrH qlZ
theorem qh5:OpR X (compareOp .IsNot) (λx y H Q=>(y= .non/\Q (.bl (!decide (x= .non))) H)\/∃c d,x= .bl c/\y= .bl d/\Q (.bl (c != d)) H):=OpR.or qo7 qgk
theorem qrQ{neg:Bool}:OkO M (λx y H Q=>(y= .non/\Q (.bl (if neg then !decide (x= .non) else decide (x= .non))) H)\/∃c d,x= .bl c/\y= .bl d/\Q (.bl (if neg then c != d else c==d)) H) (gIs neg):=by
 intro μ H B x y a b n Q h ra rb e k;unfold gIs at e;split at e
 ·cases e;exact .inr ⟨_,_,qbI ra,qbI rb,k B _ h .refl qa4⟩
 ·cases q:qpz a with
  |none=>rw[q] at e;cases e
  |some c=>rw[q] at e;cases e;rw[qjV ra q];exact .inl ⟨qcT rb,k B _ h .refl qa4⟩
 ·cases e
end
end NV
namespace PL
open PySem L2 SR SetL
theorem boot_any':bootBuiltins "any" =some (.builtin "any"):=by decide+kernel
theorem qjf(bs:List Bool):(List.range bs.length).any (λi=>bs.getD i false)=bs.any id:=by
 rw[Bool.eq_iff_iff,List.any_eq_true,List.any_eq_true];constructor
 ·intro gk;obtain⟨i,hi,h⟩:=gk;have aS:=List.mem_range.mp hi;refine⟨bs[i],List.getElem_mem aS,?_⟩;simpa [List.getD_eq_getElem?_getD,aS] using h
 ·intro gj;obtain⟨b,hb,h⟩:=gj;obtain⟨i,hi,rfl⟩:=List.mem_iff_getElem.mp hb;exact⟨i,List.mem_range.mpr hi,by simpa [List.getD_eq_getElem?_getD,hi] using h⟩
section
theorem call_any(hc:X.calm=true):qau X (.builtin "any") (λxs H Q=> ∃(a:Addr) (bs:List Bool),xs=[.ref a]/\SqL X.K H a (bs.map V.bl)/\Q (.bl (bs.any id)) H):=by
 intro pins s σ H xs us Q I r h;obtain⟨a,bs,rfl,hS,q⟩:=h;obtain⟨u,rfl,ru⟩:=qdu r;cases ru;obtain⟨its,rv,pl,hz⟩:=I.list hS;have e:=qd2 rv;have aw:a<s.heap.objs.size:=Vi pl.isList.choose_spec.1;have hh:X.A.in1.handled=none:=I.ok.hd hc;refine call_any_walk (Vf pl.isList ?_);refine⟨s.heap.objs.size,_,_,its.toArray.size,_,_,λi=>bs.getD i false,rfl,Walks.list hh s.heap.objs.size a (Vo aw) its.toArray,⟨⟨_,Vh _ rfl,rfl,rfl⟩,pl.isList.at λo e=>Vg _ e⟩,λi v s' Q' E' hv hq=> ?_,λh' tk k=> ?_⟩
 ·rw[e] at hv;have aW:(bs.map Value.bool)[i]? =some v:=by simpa using hv
  rw[List.getElem?_map] at aW;cases z:bs[i]? with
  |none=>rw[z] at aW;cases aW
  |some b=>
   rw[z] at aW;cases aW;have eb:bs.getD i false=b:=by simp[List.getD_eq_getElem?_getD,z]
   have bS:Q' (bs.getD i false) s':=hq;rw[eb] at bS;exact Vd bS
 ·have en:its.toArray.size=bs.length:=by rw[e];simp
  rw[en,qjf];refine⟨.bl (bs.any id),H,?_,rfl,q⟩;refine I.kept (t':=tk) λb o eo=>k b o ?_ (Vg _ eo);intro z;have:b=s.heap.objs.size:=by simpa using z
  exact Vo (Vi eo) this
noncomputable def maxI:List Int->Int
 |[]=>0
 |x::xs=>xs.foldl (λa b=>if a<b then b else a) x
theorem qiq(ns:List Int): ∀k,k<ns.length->ns.getD (argBest (λi j=>decide (ns.getD i 0>ns.getD j 0)) k) 0=((ns.take (k+1)).drop 1).foldl (λa b=>if a<b then b else a) (ns.getD 0 0):=by
 intro k
 induction k with
 |zero=>
  intro h;have:(ns.take 1).drop 1=[]:=by cases ns<;>simp
  rw[this];rfl
 |succ k ih=>
  intro h;have ih:=ih (by lia);have et:(ns.take (k+1+1)).drop 1=(ns.take (k+1)).drop 1++[ns.getD (k+1) 0]:=by rw[List.take_succ,List.getElem?_eq_getElem h,List.drop_append_of_le_length (by rw[List.length_take];lia)];simp[List.getD_eq_getElem?_getD,h]
  rw[et,List.foldl_append,<-ih];show ns.getD (if decide (ns.getD (k+1) 0>ns.getD (argBest _ k) 0)=true then k+1 else argBest _ k) 0=(if _<_ then _ else _)
  by_cases c:ns.getD (k+1) 0>ns.getD (argBest (λi j=>decide (ns.getD i 0>ns.getD j 0)) k) 0
  ·rw[if_pos (decide_eq_true c),if_pos c]
  ·rw[if_neg (by rw[decide_eq_false c];decide),if_neg c]
theorem call_maxL(hc:X.calm=true):qau X (.builtin "max") (λxs H Q=> ∃(a:Addr) (ns:List Int),xs=[.ref a]/\SqL X.K H a (ns.map V.int)/\ns≠[]/\Q (.int (maxI ns)) H):=by
 intro pins s σ H xs us Q I r h;obtain⟨a,ns,rfl,hS,aH,q⟩:=h;obtain⟨u,rfl,ru⟩:=qdu r;cases ru;obtain⟨its,rv,pl,hz⟩:=I.list hS;have hl:=rv.length;rw[List.length_map] at hl;have n0:0<ns.length:=List.length_pos_iff.mpr aH;have aw:a<s.heap.objs.size:=Vi pl.isList.choose_spec.1;have hh:X.A.in1.handled=none:=I.ok.hd hc;have shape: ∀{i:Nat} {v:Value},its.toArray[i]? =some v->∃t,v= .int (ns.getD i 0) t:=λ{i v} hv=>by
  have aW:its[i]? =some v:=by simpa using hv
  have hi:=(List.getElem?_eq_some_iff.mp aW).1;obtain⟨u,e1,e2⟩:=rv.get (i:=i) (x:=V.int (ns.getD i 0)) (by rw[List.getElem?_map,List.getElem?_eq_getElem (by lia)];simp[List.getD_eq_getElem?_getD,show i<ns.length by lia]);rw[aW] at e1;cases e1;exact e2
 refine call_max_walk (Vf pl.isList ?_);refine⟨s.heap.objs.size,_,_,its.toArray.size,_,_,λi j=>decide (ns.getD i 0>ns.getD j 0),rfl,Walks.list hh s.heap.objs.size a (Vo aw) its.toArray,⟨⟨_,Vh _ rfl,rfl,rfl⟩,pl.isList.at λo e=>Vg _ e⟩,λb hb=> ?_,by rw[List.size_toArray];lia,λi j vi vj s' Q' E' hi hj hq=> ?_,λv h' tk hv k=> ?_⟩
 ·have bB:b=s.heap.objs.size\/b=a:=by simpa using hb
  rcases bB with rfl|rfl
  ·show s.heap.objs.size<(Heap.push _ _).objs.size;rw[PyProof.Rows.size_push'];exact Wb _
  ·show b<(Heap.push _ _).objs.size;rw[PyProof.Rows.size_push'];exact Nat.lt_succ_of_lt aw
 ·obtain⟨t,rfl⟩:=shape hi;obtain⟨t',rfl⟩:=shape hj;exact P.gt_int hq
 ·obtain⟨t,rfl⟩:=shape hv;have e:ns.getD (argBest (λi j=>decide (ns.getD i 0>ns.getD j 0)) (its.toArray.size - 1)) 0=maxI ns:=by
   rw[qiq ns _ (by rw[List.size_toArray];lia)];have:its.toArray.size - 1+1=ns.length:=by rw[List.size_toArray];lia
   rw[this,List.take_length];cases ns with
   |nil=>exact absurd rfl aH
   |cons x xs=>rfl
  refine⟨.int (maxI ns),H,?_,⟨t,by rw[e]⟩,q⟩;refine I.kept (t':=tk) λb o eo=>k b o ?_ (Vg _ eo);intro z;have:b=s.heap.objs.size:=by simpa using z
  exact Vo (Vi eo) this
end
end PL
namespace SetL
open PySem
noncomputable def its(mask:Nat):Nat->Nat×Nat->Nat×Nat
 |0,x=>x
 |t+1,x=>its mask t (SetTable.leap mask x.1 x.2)
end SetL
namespace PL
open PySem L2 SR SetL
end PL
namespace PySem
end PySem
namespace PL
open PySem L2 SR SetL
end PL
namespace PL
open PySem L2
end PL
namespace HT
open PySem PySem.Spec PyProof.Rows L2
theorem getItem_tuple_all{prog:Program}{w:World}{A:Around}{E:Value->Shared->Prop}{s:Shared}{t sl:Addr}{items:Array Value}{vl vu:Value}{lo hi:Option Int}{Q:Value->Shared->Prop}(ht:IsTup s.heap t items)(hs:s.heap.IsSliceOf sl vl vu .none)(pl:IsPart vl lo)(pu:IsPart vu hi)(hw:sIx items.size 0 lo=0/\sIx items.size items.size hi=items.size)(h:Q (.ref t) s):wpAny (model prog w) A (getItem (.ref t) (.ref sl)) Q E s:=by
 obtain⟨os,cU,c7,eP⟩:=id hs;have gW:s.TypeIs (.ref sl) "slice" :=⟨os,cU,c7⟩
 unfold getItem
 try with_reducible refine wpAny_holding ?_
 first|refine Va (Vb ?_)|skip
 refine Va (wpAny_sequenceKey ht.typeIs (by decide) ?_)
 refine Va (wpAny_callSpecial?_slot (name:=Str.ofString "__getitem__") ht.typeIs PyProof.Rows.slot_tuple_getitem
  (wpAny_call_entry PyProof.Rows.slot_tuple_getitem ht.typeIs entry_tuple_getitem ?_ (args_tuple_getitem _ _)))
 show wpAny _ _ (Builtin.Tuple.tupleItemsOf (.ref t)>>=_) _ _ s;refine Va (tupleItemsOf_ ht ?_);refine Va (wpAny_typeOf gW ?_);rw[if_pos (by decide)];refine Va (qbk hs pl pu ?_);show wpAny _ _ (if(((sIx items.size 0 lo:Nat):Int)==0&&(1:Int)==1&&(sIx items.size items.size hi - sIx items.size 0 lo)==items.size)=true then _ else _) _ _ s;rw[if_pos (by rw[hw.1,hw.2];simp)];unfold Builtin.Tuple.tupleIsExact;refine Va (Va (wpAny_typeOf ht.typeIs (Vb ?_)));rw[if_pos (by decide)];refine Va (wpAny_rule ?_);exact Vb ⟨_,rfl,Vb h⟩
end HT
namespace L2
open PySem PySem.Spec PyProof.Rows
theorem qou:SlR X (λx lo hi H Q=> ∃a xs,x= .ref a/\SqT X.K H a xs/\(HT.sIx xs.length 0 lo=0/\HT.sIx xs.length xs.length hi=xs.length)/\Q (.ref a) H):=by
 intro pins s σ H x v vl vu lo hi sl Q I rx hs pl pu h;obtain⟨a,xs,rfl,hx,hw,q⟩:=h;cases rx;obtain⟨its,r,ht,hz⟩:=I.tuple hx;have hlen:its.toArray.size=xs.length:=by rw[List.size_toArray];exact r.length.symm
 exact⟨"tuple",_,PyProof.Rows.slot_tuple_getitem.lookup,ht.typeIs,HT.getItem_tuple_all ht hs pl pu (by rw[hlen];exact hw) ⟨.ref a,H,I,rfl,q⟩⟩
end L2
namespace PL
open PySem L2
end PL
namespace NV
open PySem L2
noncomputable def rB(M:Md)(g:Mu->T->T->Option Nv):R2:=λx y H Q=> ∃μ B a b n,Hs M μ H B/\Rep M.K B a x/\Rep M.K B b y/\g μ a b=some n/\KV M μ H B Q n
noncomputable def rN(M:Md)(g:Mu->List T->Option Nv):List V->Hp->VK->Prop:=λvs H Q=> ∃μ B ts n,Hs M μ H B/\Reps M.K B ts vs/\g μ ts=some n/\KV M μ H B Q n
theorem OpR.weak{X:Cx}{f:Value->Value->Sem Value}{r r':R2}(h:OpR X f r)(w: ∀x y H Q,r' x y H Q->r x y H Q):OpR X f r':=λpins s σ H x y v u Q I rx ry q=>h pins s σ H x y v u Q I rx ry (w _ _ _ _ q)
theorem qau.weak{X:Cx}{f:Value}{r r':List V->Hp->VK->Prop}(h:qau X f r)(w: ∀xs H Q,r' xs H Q->r xs H Q):qau X f r':=λpins s σ H xs us Q I r q=>h pins s σ H xs us Q I r (w _ _ _ q)
theorem IxR.weak{X:Cx}{r r':R2}(h:IxR X r)(w: ∀x y H Q,r' x y H Q->r x y H Q):IxR X r':=λvalue slice pins s σ H x y v u Q I rx ry q hs=>h value slice pins s σ H x y v u Q I rx ry (w _ _ _ _ q) hs
theorem OpR.ok{M:Md}{X:Cx}{f:Value->Value->Sem Value}{r:R2}{g:Mu->T->T->Option Nv}(h:OpR X f r)(o:OkO M r g):OpR X f (rB M g):=OpR.weak h λ_ _ _ Q ⟨_,_,_,_,_,hs,ra,rb,e,k⟩=>o _ _ _ _ _ _ _ _ Q hs ra rb e k
theorem qau.ok{M:Md}{X:Cx}{f:Value}{r:List V->Hp->VK->Prop}{g:Mu->List T->Option Nv}(h:qau X f r)(o:OkN M r g):qau X f (rN M g):=qau.weak h λ_ _ Q ⟨_,_,_,_,hs,ra,e,k⟩=>o _ _ _ _ _ _ Q hs ra e k
theorem qlD{K:W.Frag}{B:qal}{ts:List T}{vs:List V}(r:Reps K B ts vs){i:Int}{t:T}(h:atI ts i=some t): ∃v,atI vs i=some v/\Rep K B t v:=by
 unfold atI at h⊢;rw[r.length];cases e:ixN ts.length i with
 |none=>rw[e] at h;cases h
 |some j=>rw[e] at h;exact r.get h
noncomputable def dkv(μ:Mu):T->Option (List (Key×T))
 |.dct kvs=>some kvs
 |.obj k=>(match μ.l[k]? with|some (.dk kvs)=>some kvs|_=>none)
 |_=>none
noncomputable def duv(μ:Mu):T->Option (List (List Key×T))
 |.obj k=>(match μ.l[k]? with|some (.du kvs)=>some kvs|_=>none)
 |_=>none
noncomputable def qfo:T->Option Key
 |.int i=>some (.inl i)
 |.str s=>some (.inr s)
 |_=>none
noncomputable def qfl:List T->Option (List Key)
 |[]=>some []
 |t::ts=>(qfo t).bind λk=>(qfl ts).map (k:: ·)
noncomputable def qnu:T->Option (List Key)
 |.tup ts=>qfl ts
 |_=>none
noncomputable def qf4{κ:Type}[DecidableEq κ](kvs:List (κ×T))(k:κ):Option T:=(kvs.find? λkv=>decide (kv.1=k)).map (·.2)
theorem qeg{K:W.Frag}{B:qal}{κ:Type}[DecidableEq κ](k:κ): ∀{ts:List (κ×T)} {vs:List (κ×V)},qbd K B ts vs->(∀t,qf4 ts k=some t->∃v,qhS vs k=some v/\Rep K B t v)/\(qf4 ts k=none->qhS vs k=none)
 |[],vs,r=>by have r:vs=[]:=r;rw[r];exact⟨(λt e=>by cases e),λ_=>rfl⟩
 |(k',t)::ts,_,⟨v,r,e,a,b⟩=>by
  have ih:=qeg k b;subst e;unfold qf4 qhS;rw[List.find?_cons,List.find?_cons];by_cases c:k'=k
  ·rw[decide_eq_true c];exact⟨λu e=>by cases e;exact⟨v,rfl,a⟩,λe=>by cases e⟩
  ·rw[decide_eq_false c];exact ih
theorem qgs{K:W.Frag}{B:qal}{t:T}{k:Key}{v:V}(h:qfo t=some k)(r:Rep K B t v):v=kV k:=by
 cases t with
 |int i=>cases h;exact qaf r
 |str s=>cases h;exact qaz r
 |_=>cases h
theorem qho{K:W.Frag}{B:qal}: ∀{ts:List T} {ks:List Key} {vs:List V},qfl ts=some ks->Reps K B ts vs->vs=ks.map kV
 |[],ks,vs,h,r=>by cases h;exact r.inv0
 |t::ts,ks,vs,h,r=>by
  obtain⟨v,cj,rfl,a,b⟩:=r.inv;unfold qfl at h;cases e:qfo t with
  |none=>rw[e] at h;cases h
  |some k=>
   cases e2:qfl ts with
   |none=>rw[e,e2] at h;cases h
   |some ks'=>rw[e,e2] at h;cases h;rw[qgs e a,qho e2 b];rfl
section
variable {M:Md}{μ:Mu}{H:Hp}{B:qal}
theorem qht(h:Hs M μ H B){t:T}{v:V}{kvs:List (Key×T)}(e:dkv μ t=some kvs)(r:Rep M.K B t v): ∃p us,v= .ref p/\H p=some (.dK us)/\qbd M.K B kvs us:=by
 unfold dkv at e;split at e
 ·cases e;obtain⟨p,us,rfl,hp,ru⟩:=qga r;exact⟨p,us,rfl,h.bh _ _ hp,ru⟩
 ·rename_i k;split at e
  ·rename_i fV el;cases e;obtain⟨a,rfl,ea⟩:=qaA r;obtain⟨o,_,ho,us,rfl,ru⟩:=h.at el (by simp) ea;exact⟨a,us,rfl,ho,ru⟩
  ·cases e
 ·cases e
theorem qfB(h:Hs M μ H B){t:T}{v:V}{kvs:List (List Key×T)}(e:duv μ t=some kvs)(r:Rep M.K B t v): ∃p us,v= .ref p/\H p=some (.dT us)/\qbd M.K B kvs us:=by
 unfold duv at e;split at e
 ·rename_i k;split at e
  ·rename_i fV el;cases e;obtain⟨a,rfl,ea⟩:=qaA r;obtain⟨o,_,ho,us,rfl,ru⟩:=h.at el (by simp) ea;exact⟨a,us,rfl,ho,ru⟩
  ·cases e
 ·cases e
theorem qev(h:Hs M μ H B){t:T}{v:V}{ks:List Key}(e:qnu t=some ks)(r:Rep M.K B t v): ∃b,v= .ref b/\H b=some (.tup (ks.map kV)):=by
 cases t with
 |tup ts=>obtain⟨p,vs,rfl,hp,rv⟩:=qaw r;rw[qho e rv] at hp;exact⟨p,rfl,h.bh _ _ hp⟩
 |_=>cases e
noncomputable def qdO(μ:Mu)(d y:T):Option (Option T):=match dkv μ d,qfo y with
 |some kvs,some k=>some (qf4 kvs k)
 |_,_=>(match duv μ d,qnu y with
  |some kvs,some k=>some (qf4 kvs k)
  |_,_=>none)
theorem qeF(h:Hs M μ H B){d y:T}{x u:V}{o:Option T}(e:qdO μ d y=some o)(r:Rep M.K B d x)(ry:Rep M.K B y u): ∃a ov,x= .ref a/\IsD H a/\qhP H a u ov/\(∀t,o=some t->∃v,ov=some v/\Rep M.K B t v)/\(o=none->ov=none):=by
 unfold qdO at e;split at e
 ·rename_i kvs k e1 e2;cases e;obtain⟨p,us,rfl,hp,ru⟩:=qht h e1 r;have:=qeg k ru;exact⟨p,_,rfl,.inl ⟨us,.of hp⟩,.inl ⟨us,k,.of hp,qgs e2 ry,rfl⟩,this.1,this.2⟩
 ·split at e
  ·rename_i kvs k e1 e2;cases e;obtain⟨p,us,rfl,hp,ru⟩:=qfB h e1 r;obtain⟨b,rfl,hb⟩:=qev h e2 ry;have:=qeg k ru;exact⟨p,_,rfl,.inr ⟨us,.of hp⟩,.inr ⟨us,k,b,.of hp,rfl,hb,rfl⟩,this.1,this.2⟩
  ·cases e
end
noncomputable def qcn(μ:Mu):T->Option (Bool×List T)
 |.scr ns=>some (true,ns.map .int)
 |t=>sqv μ t
noncomputable def gDG(μ:Mu)(a b:T):Option Nv:=(qdO μ a b).bind λo=>o.map .v
noncomputable def gIx(μ:Mu)(a b:T):Option Nv:=match b with
 |.int i=>(match a with
  |.str z=>if z.length<=1000 then(atI z.cps.toList i).map λc=>.v (.str ⟨#[c]⟩) else none
  |a=>(match qcn μ a with
   |some q=>(atI q.2 i).map .v
   |none=>gDG μ a (.int i)))
 |b=>gDG μ a b
section
variable {M:Md}{X:Cx}{μ:Mu}{H:Hp}{B:qal}
open PySem.Spec PyProof.Rows in
theorem qpy(hu:X.A.units+1<cLine):IxR X (λx y H Q=> ∃a v,x= .ref a/\qhP H a y (some v)/\Q v H):=by intro value slice pins s σ H x y v u Q I rx ry h hs;obtain⟨a,z,rfl,g,q⟩:=h;cases rx;exact tail_any (qgB I g) F.slot_dict_getitem.lookup (qks hu I g ry λw' s3 I3 ar=>⟨z,H,I3,ar,q⟩) hs
theorem qgY{K:W.Frag}{B:qal}: ∀ns:List Int,Reps K B (ns.map T.int) (ns.map V.int)
 |[]=>.nil
 |_::ns=>.cons qaL (qgY ns)
theorem qee(h:Hs M μ H B){t:T}{v:V}{b:Bool}{ts:List T}(e:qcn μ t=some (b,ts))(r:Rep M.K B t v): ∃p vs,v= .ref p/\Reps M.K B ts vs/\(if b=true then SqL M.K H p vs else SqT M.K H p vs):=by
 unfold qcn at e;split at e
 ·cases e;unfold Rep at r;obtain⟨p,rfl,q⟩:=r;exact⟨p,_,rfl,qgY _,by rw[if_pos rfl];exact qi9 h.bh q⟩
 ·obtain⟨p,vs,rfl,rv,q⟩:=qbj h e r;refine⟨p,vs,rfl,rv,?_⟩;cases b with
  |true=>rw[if_pos rfl] at q⊢;exact SqL.of q
  |false=>rw[if_neg (by decide)] at q⊢;exact SqT.of q.2
theorem qed(h:Hs M μ H B){t:T}{v:V}{b:Bool}{ts:List T}(e:qcn μ t=some (b,ts))(r:Rep M.K B t v): ∃p vs,v= .ref p/\Reps M.K B ts vs/\(SqL M.K H p vs\/SqT M.K H p vs):=by
 obtain⟨p,vs,rfl,rv,q⟩:=qee h e r;refine⟨p,vs,rfl,rv,?_⟩;split at q
 ·exact .inl q
 ·exact .inr q
theorem qxr(hu:X.A.units+1<cLine)(hK:X.K=M.K):IxR X (rB M gIx):=IxR.weak (IxR.or qsc (qpy hu)) λx y H Q ⟨μ,B,a,b,n,h,ra,rb,e,k⟩=>by
 rw[hK];have dg:gDG μ a b=some n->(rIx M.K x y H Q\/∃a v,x= .ref a/\qhP H a y (some v)/\Q v H):=λe=>by
  unfold gDG at e;cases q:qdO μ a b with
  |none=>rw[q] at e;cases e
  |some o=>
   cases o with
   |none=>rw[q] at e;cases e
   |some t=>rw[q] at e;cases e;obtain⟨p,ov,rfl,_,g,h1,_⟩:=qeF h q ra rb;obtain⟨v,rfl,rv⟩:=h1 t rfl;exact .inr ⟨p,v,rfl,g,k B v h .refl rv⟩
 cases b with
 |int i=>
  have sq:(match qcn μ a with|some q=>(atI q.2 i).map Nv.v|none=>gDG μ a (.int i))=some n->(rIx M.K x y H Q\/∃a v,x= .ref a/\qhP H a y (some v)/\Q v H):=λe=>by
   cases es:qcn μ a with
   |none=>rw[es] at e;exact dg e
   |some p=>
    obtain⟨bb,ts⟩:=p;rw[es] at e;have e:(atI ts i).map Nv.v=some n:=e;cases q:atI ts i with
    |none=>rw[q] at e;cases e
    |some t=>
     rw[q] at e;cases e;obtain⟨p,vs,rfl,rv,hs⟩:=qed h es ra;obtain⟨v,ev,dq⟩:=qlD rv q
     rcases hs with hs|hs
     ·exact .inl (.inl ⟨p,vs,i,v,rfl,qaf rb,hs,ev,k B v h .refl dq⟩)
     ·exact .inl (.inr (.inl ⟨p,vs,i,v,rfl,qaf rb,hs,ev,k B v h .refl dq⟩))
  cases a with
  |str z=>
   have e:(if z.length<=1000 then(atI z.cps.toList i).map λc=>Nv.v (.str ⟨#[c]⟩) else none)=some n:=e;split at e
   ·rename_i hz;cases q:atI z.cps.toList i with
    |none=>rw[q] at e;cases e
    |some c=>rw[q] at e;cases e;rw[qaz ra,qaf rb];exact .inl (.inr (.inr ⟨z,i,c,rfl,rfl,Vp (qcS hz),q,k B _ h .refl qcs⟩))
   ·cases e
  |_=>exact sq e
 |_=>exact dg e
noncomputable def tO(M:Md)(E:XK)(d:DS0 (Option Int)):TO:=λσ H Q=> ∃ρ μ B,Ev M ρ μ σ H B/\Wn M E H B (λo μ'=> ∀H' B',Hs M μ' H' B'->Go H B H' B'->Q o H') (d ρ μ)
noncomputable def dON:DS0 (Option Int):=λ_ μ=>.ok none μ
noncomputable def dOS(da:DS0 T):DS0 (Option Int):=dSq da λt _ μ=>match t with|.int i=>.ok (some i) μ|_=>.no
theorem qpS{E:XK}:PO X none (tO M E dON):=PO.weak qoQ λσ H Q ⟨ρ,μ,B,ev,w⟩=>w H B ev.hs .refl
theorem qkk{E:XK}{e:Expr}{da:DS0 T}(h:PE X e (tE M E da)):PO X (some e) (tO M E (dOS da)):=PO.weak (qoP h) λσ H Q ⟨ρ,μ,B,ev,w⟩=>tE.of ev ((Wn.bind w).mono λt aa w1 v H1 B1 h1 l1 r1=>by
 cases t with
 |int i=>exact⟨i,qaf r1,w1 H1 B1 h1 l1⟩
 |_=>exact w1.elim)
noncomputable def qiw(ts:List T)(lo hi:Option Int):List T:=(ts.drop (HT.sIx ts.length 0 lo)).take (HT.sIx ts.length ts.length hi - HT.sIx ts.length 0 lo)
theorem qgZ{K:W.Frag}{B:qal}{ts:List T}{vs:List V}(r:Reps K B ts vs)(lo hi:Option Int):Reps K B (qiw ts lo hi) (qnU vs lo hi):=by unfold qiw qnU;rw[r.length];exact(r.drop _).take _
theorem qmM{ts:List T}{l h:Option Int}(c:HT.sIx ts.length 0 l=0/\HT.sIx ts.length ts.length h=ts.length):qiw ts l h=ts:=by unfold qiw;rw[c.1,c.2];simp
noncomputable def gSl(μ:Mu)(a:T)(lo hi:Option Int):Option Nv:=match a with
 |.str z=>if z.length<=1000 then some (.v (.str (PySem.Txt.slice z lo hi))) else none
 |.tup ts=>if HT.sIx ts.length 0 lo=0/\HT.sIx ts.length ts.length hi=ts.length then some (.v (.tup (qiw ts lo hi))) else some (.t (qiw ts lo hi))
 |a=>(match qcn μ a with
  |some (true,ts)=>some (.l (qiw ts lo hi))
  |_=>none)
noncomputable def dSl(ow:Bool)(da:DS0 T)(dl dh:DS0 (Option Int)):DS0 T:=dSq da λa=>dSq dl λl=>dSq dh λh _ μ=>nvR ow (gSl μ a l h) μ
theorem qmD{E:XK}{a:Expr}{lo hi:Option Expr}{p2 pos:Pos}{ow:Bool}{da:DS0 T}{dl dh:DS0 (Option Int)}(hK:X.K=M.K)(ha:PE X a (tE M E da))(hl:PO X lo (tO M E dl))(hh:PO X hi (tO M E dh)):PE X (.Subscript a (.Slice lo hi none p2) pos) (tE M E (dSl ow da dl dh)):=by
 refine PE.weak (qlQ (SlR.or (SlR.or qqS qou) (SlR.or qov qqT)) ha hl hh) λσ H Q ⟨ρ,μ,B,ev,w⟩=> ?_;refine tE.of ev ((Wn.bind w).mono λt aa w1 v H1 B1 h1 l1 r1=> ?_);refine⟨ρ,aa,B1,ev.on h1 l1.le,(Wn.bind w1).lift l1 λl af w2 H2 B2 h2 l2=> ?_⟩;refine⟨ρ,af,B2,(ev.on h1 l1.le).on h2 l2.le,(Wn.bind w2).lift (l1.trans l2) λu aq w3 H3 B3 h3 l3=> ?_⟩;have w3:Wn M E H B (KE M H B Q) (nvR ow (gSl aq t l u) aq):=w3;obtain⟨c,m,q,w3⟩:=Wn.pl w3 (λc m=>qgn c m);obtain⟨n,e,kv⟩:=qgm q (KE.le w3 ((l1.trans l2).trans l3));have r3:=r1.mono (l2.trans l3).le;rw[hK];unfold gSl at e;split at e
 ·split at e
  ·rename_i hz;cases e;rw[qaz r3];exact .inr (.inr ⟨_,rfl,hz,kv B3 _ h3 .refl qcs⟩)
  ·cases e
 ·rename_i ts;obtain⟨p,vs,rfl,hp,rv⟩:=qaw r3;have hl:=rv.length;split at e
  ·rename_i hc;cases e;refine .inl (.inr ⟨p,vs,rfl,SqT.of (h3.bh _ _ hp),by rw[hl];exact hc,?_⟩);rw[qmM hc] at kv;exact kv B3 _ h3 .refl r3
  ·rename_i hc;cases e;exact .inl (.inl ⟨p,vs,rfl,SqT.of (h3.bh _ _ hp),by rw[hl];exact hc,λd hd=>kv B3 d _ h3 .refl hd (qgZ rv l u)⟩)
 ·split at e
  ·rename_i ts es;cases e;obtain⟨p,vs,rfl,rv,hs⟩:=qee h3 es r3;rw[if_pos rfl] at hs;exact .inr (.inl ⟨p,vs,rfl,hs,λd hd=>kv B3 d _ h3 .refl hd (qgZ rv l u)⟩)
  ·cases e
noncomputable def qsp(μ:Mu)(a:T)(lo hi st:Option Int):Option Nv:=match qcn μ a with
 |some (true,ts)=>if st≠some 0 then some (.l (RH.pickL ts lo hi st)) else none
 |_=>none
theorem qce{K:W.Frag}{B:qal}{ts:List T}{vs:List V}(r:Reps K B ts vs): ∀l:List Nat,Reps K B (l.filterMap (ts[·]?)) (l.filterMap (vs[·]?))
 |[]=>.nil
 |i::l=>by
  cases e:ts[i]? with
  |none=>
   have e2:vs[i]? =none:=by rw[List.getElem?_eq_none_iff] at e⊢;rw[r.length];exact e
   rw[List.filterMap_cons_none e,List.filterMap_cons_none e2];exact qce r l
  |some t=>obtain⟨v,e2,rv⟩:=r.get e;rw[List.filterMap_cons_some e,List.filterMap_cons_some e2];exact .cons rv (qce r l)
noncomputable def qwJ(ow:Bool)(da:DS0 T)(dl dh dt:DS0 (Option Int)):DS0 T:=dSq da λa=>dSq dl λl=>dSq dh λh=>dSq dt λst _ μ=>nvR ow (qsp μ a l h st) μ
theorem qkq{E:XK}{a dO:Expr}{lo hi:Option Expr}{p2 pos:Pos}{ow:Bool}{da:DS0 T}{dl dh dt:DS0 (Option Int)}(hK:X.K=M.K)(ha:PE X a (tE M E da))(hl:PO X lo (tO M E dl))(hh:PO X hi (tO M E dh))(ht:PO X (some dO) (tO M E dt)):PE X (.Subscript a (.Slice lo hi (some dO) p2) pos) (tE M E (qwJ ow da dl dh dt)):=by
 refine PE.weak (RH.pe_slice3 ha hl hh ht) λσ H Q ⟨ρ,μ,B,ev,w⟩=> ?_;refine tE.of ev ((Wn.bind w).mono λt aa w1 v H1 B1 h1 l1 r1=> ?_);refine⟨ρ,aa,B1,ev.on h1 l1.le,(Wn.bind w1).lift l1 λl af w2 H2 B2 h2 l2=> ?_⟩;have i4:=(ev.on h1 l1.le).on h2 l2.le;refine⟨ρ,af,B2,i4,(Wn.bind w2).lift (l1.trans l2) λu aq w3 H3 B3 h3 l3=> ?_⟩;refine⟨ρ,aq,B3,i4.on h3 l3.le,(Wn.bind w3).lift ((l1.trans l2).trans l3) λst aZ w4 H4 B4 h4 l4=> ?_⟩;have w4:Wn M E H B (KE M H B Q) (nvR ow (qsp aZ t l u st) aZ):=w4;obtain⟨c,m,q,w4⟩:=Wn.pl w4 (λc m=>qgn c m);obtain⟨n,e,kv⟩:=qgm q (KE.le w4 (((l1.trans l2).trans l3).trans l4));have r4:=r1.mono ((l2.trans l3).trans l4).le;rw[hK];unfold qsp at e;split at e
 ·rename_i ts es;split at e
  ·rename_i h0;cases e;obtain⟨p,vs,rfl,rv,hs⟩:=qee h4 es r4;rw[if_pos rfl] at hs;refine⟨h0,p,vs,rfl,hs,λd hd=>kv B4 d _ h4 .refl hd ?_⟩;unfold RH.pickL;rw[rv.length];exact qce rv _
  ·cases e
 ·cases e
end
end NV
namespace PL
open PySem PySem.Spec PyProof.Rows L2 SR SetL
end PL
namespace PL
open PySem PySem.Spec L2
end PL
namespace NV
open PySem L2
section
variable {X:Cx}{pins:List (Addr×Obj)}{σ:St}{H:Hp}{B:qal}{s:Shared}
open SeqAt in
theorem qcH (hu:X.A.units+8<cLine) (I:Inv X pins σ H s) (le:LeH B H) {t:T} {x:V} {v:Value} {ts:List T} {vs:List V} {is:List Value} (ra:Rep X.K B t x) (rx:RelV x v) (ot:okT 7 t=true) (fQ:ts.all (okT 7)=true) (rs:Reps X.K B ts vs) (rv:qat vs is):
  is.length=ts.length/\∃e:Value->Bool,(∀y,y∈is.toArray->EqAt X.A.in1 s y v (e y))/\∀(j:Nat) (h:j<is.length),e is[j]=eqT (ts.getD j .non) t:=by
 have l1:=rv.length;have l2:=rs.length;have at_: ∀(j:Nat) (h:j<is.toArray.size),EqAt X.A.in1 s is.toArray[j] v (eqT (ts.getD j .non) t):=λj h=>by
  have hj:j<ts.length:=by simp at h;lia
  exact(qje I le 7 7 X.A.in1 _ _ _ _ _ _ (qbQ fQ hj) ot (by show X.A.units+1+7<cLine;lia) (rs.getD j hj) ra (RH.valsArr rv h) rx).1
 have one: ∀(j k:Nat) (h:j<is.toArray.size) (h':k<is.toArray.size),is.toArray[j]=is.toArray[k]->ts.getD j .non=ts.getD k .non:=λj k h h' e=>by
  have hj:j<ts.length:=by simp at h;lia
  have hk:k<ts.length:=by simp at h';lia
  have r1:=RH.valsArr rv h;have r2:=RH.valsArr rv h';rw[<-e] at r2;have:=r1.inj r2;refine qf9 I le 7 7 _ _ _ (qbQ fQ hj) (qbQ fQ hk) (rs.getD j hj) ?_;rw[this];exact rs.getD k hk
 classical
 have key: ∀(j:Nat) (hj:j<is.toArray.size),decide (∃(j':Nat) (h:j'<is.toArray.size),is.toArray[j']=is.toArray[j]/\eqT (ts.getD j' .non) t=true)=eqT (ts.getD j .non) t:=λj hj=>by
  cases z:eqT (ts.getD j .non) t with
  |true=>exact Vw ⟨j,hj,rfl,z⟩
  |false=>exact Vx (λ⟨k,hk,e,ek⟩=>by rw[one k j hk hj e,z] at ek;cases ek)
 refine⟨by lia,λy=>decide (∃(j:Nat) (h:j<is.toArray.size),is.toArray[j]=y/\eqT (ts.getD j .non) t=true),λy hy=> ?_,λj hj=> ?_⟩
 ·obtain⟨j,hj,rfl⟩:=Array.mem_iff_getElem.mp hy;show EqAt X.A.in1 s is.toArray[j] v (decide (∃(j':Nat) (h:j'<is.toArray.size),is.toArray[j']=is.toArray[j]/\eqT (ts.getD j' .non) t=true));rw[key j hj];exact at_ j hj
 ·have:=key j (by simpa using hj);simpa using this
theorem qhM{f:Value->Bool}{g:T->Bool}{is:List Value}{ts:List T}(hl:is.length=ts.length)(h: ∀(j:Nat) (h:j<is.length),f is[j]=g (ts.getD j .non)):is.map f=ts.map g:=by
 refine List.ext_getElem (by simp[hl]) λj h1 h2=> ?_;have hj:j<is.length:=by simpa using h1
 have eN:j<ts.length:=by lia
 rw[List.getElem_map,List.getElem_map,h j hj,List.getD_eq_getElem?_getD,List.getElem?_eq_getElem eN];rfl
end
theorem qhL{α β:Type}{f:α->Bool}{g:β->Bool}{is:List α}{ts:List β}(h:is.map f=ts.map g):is.any f=ts.any g:=by have:=congrArg (List.any · id) h;simpa [List.any_map,Function.comp_def] using this
noncomputable def qxi(K:W.Frag)(neg:Bool):R2:=λx y H Q=> ∃B t p vs ts,LeH B H/\Rep K B t x/\y= .ref p/\(SqL K H p vs\/SqT K H p vs)/\Reps K B ts vs/\okT 7 t=true/\ts.all (okT 7)=true/\Q (.bl (if neg then !ts.any (λu=>eqT u t) else ts.any (λu=>eqT u t))) H
noncomputable def qxj(neg:Bool):R2:=λx y H Q=>(∃a o,y= .ref a/\qhP H a x o/\Q (.bl (if neg then !o.isSome else o.isSome)) H)\/∃a b,∃k:List Key,y= .ref a/\H a=some (.dK [])/\x= .ref b/\H b=some (.tup (k.map kV))/\Q (.bl neg) (upd H a (.dT []))
noncomputable def qug(K:W.Frag)(neg:Bool):R2:=λx y H Q=>qxi K neg x y H Q\/qxj neg x y H Q
noncomputable def gIn(neg:Bool)(μ:Mu)(t c:T):Option Nv:=match qcn μ c with
 |some q=>if okT 7 t=true/\q.2.all (okT 7)=true then some (.v (.bl (if neg then !q.2.any (λu=>eqT u t) else q.2.any (λu=>eqT u t)))) else none
 |none=>(match qdO μ c t with
  |some o=>some (.v (.bl (if neg then !o.isSome else o.isSome)))
  |none=>(match c with
   |.obj k=>(match μ.l[k]?,qnu t with
    |some (.dk []),some _=>some (.p k (.du []) (.bl neg))
    |_,_=>none)
   |_=>none))
section
variable {X:Cx}{M:Md}
theorem qrI(hu:X.A.units+8<cLine):OpR X (compareOp .In) (qug X.K false):=by
 intro pins s σ H x y v u Q I rx ry hq
 rcases hq with⟨B,t,p,vs,ts,le,ra,ey,hp,rs,o1,o2,q⟩|⟨a,o,rfl,g,q⟩|⟨a,b,k,rfl,ha,rfl,hb,q⟩
 ·subst ey;cases ry
  rcases hp with hp|hp
  ·obtain⟨is,rv,pl,_⟩:=I.list hp;obtain⟨hl,e,h1,h2⟩:=qcH hu I le ra rx o1 o2 rs rv;refine SeqAt.in_listAt e pl.isList h1 ⟨.bl _,H,I,rfl,?_⟩;rw[show is.toArray.any e=is.any e by simp,qhL (qhM (g:=λu=>eqT u t) hl h2)];exact q
  ·obtain⟨is,rv,pl,_⟩:=I.tuple hp;obtain⟨hl,e,h1,h2⟩:=qcH hu I le ra rx o1 o2 rs rv;refine SeqAt.in_tupleAt e pl h1 ⟨.bl _,H,I,rfl,?_⟩;rw[show is.toArray.any e=is.any e by simp,qhL (qhM (g:=λu=>eqT u t) hl h2)];exact q
 ·cases ry;exact qwG (by lia) I g rx λs3 I3=>⟨.bl o.isSome,H,I3,rfl,q⟩
 ·cases ry;have I':=PL.Inv.asT I ha;have g:qhP (upd H a (.dT [])) a (.ref b) none:=.inr ⟨[],k,b,.of qai,rfl,by rw[qad (λz=>by rw[z,ha] at hb;cases hb)];exact hb,rfl⟩;exact qwG (by lia) I' g rx λs3 I3=>⟨.bl false,_,I3,rfl,q⟩
theorem qjy(hu:X.A.units+8<cLine):OpR X (compareOp .NotIn) (qug X.K true):=by
 intro pins s σ H x y v u Q I rx ry hq
 rcases hq with⟨B,t,p,vs,ts,le,ra,ey,hp,rs,o1,o2,q⟩|⟨a,o,rfl,g,q⟩|⟨a,b,k,rfl,ha,rfl,hb,q⟩
 ·subst ey;cases ry
  rcases hp with hp|hp
  ·obtain⟨is,rv,pl,_⟩:=I.list hp;obtain⟨hl,e,h1,h2⟩:=qcH hu I le ra rx o1 o2 rs rv;refine SeqAt.notIn_listAt e pl.isList h1 ⟨.bl _,H,I,rfl,?_⟩;rw[show is.toArray.any e=is.any e by simp,qhL (qhM (g:=λu=>eqT u t) hl h2)];exact q
  ·obtain⟨is,rv,pl,_⟩:=I.tuple hp;obtain⟨hl,e,h1,h2⟩:=qcH hu I le ra rx o1 o2 rs rv;refine SeqAt.notIn_tupleAt e pl h1 ⟨.bl _,H,I,rfl,?_⟩;rw[show is.toArray.any e=is.any e by simp,qhL (qhM (g:=λu=>eqT u t) hl h2)];exact q
 ·cases ry;exact qkr (by lia) I g rx λs3 I3=>⟨.bl (!o.isSome),H,I3,rfl,q⟩
 ·cases ry;have I':=PL.Inv.asT I ha;have g:qhP (upd H a (.dT [])) a (.ref b) none:=.inr ⟨[],k,b,.of qai,rfl,by rw[qad (λz=>by rw[z,ha] at hb;cases hb)];exact hb,rfl⟩;exact qkr (by lia) I' g rx λs3 I3=>⟨.bl true,_,I3,rfl,q⟩
theorem qrR{neg:Bool}(hK:X.K=M.K):OkO M (qug X.K neg) (gIn neg):=by
 intro μ H B x y a b n Q h ra rb e k;rw[hK];unfold gIn at e;split at e
 ·rename_i q es;split at e
  ·rename_i o;cases e;obtain⟨p,vs,rfl,rv,hs⟩:=qed (b:=q.1) (ts:=q.2) h es rb;exact .inl ⟨B,a,p,vs,q.2,h.bh,ra,rfl,hs,rv,o.1,o.2,k B _ h .refl qa4⟩
  ·cases e
 ·split at e
  ·rename_i o eo;cases e;obtain⟨p,ov,rfl,_,g,h1,h2⟩:=qeF h eo rb ra;refine .inr (.inl ⟨p,ov,rfl,g,?_⟩);have:ov.isSome=o.isSome:=by
    cases o with
    |none=>rw[h2 rfl];rfl
    |some t=>obtain⟨v,rfl,_⟩:=h1 t rfl;rfl
   rw[this];exact k B _ h .refl qa4
  ·split at e
   ·rename_i j;split at e
    ·rename_i el ek;cases e;obtain⟨p,rfl,ea⟩:=qaA rb;obtain⟨o,_,ho,us,rfl,ru⟩:=h.at el (by simp) ea;have:us=[]:=ru;subst this;obtain⟨b,rfl,hb⟩:=qev h ek ra;exact .inr (.inr ⟨p,b,_,rfl,ho,rfl,hb,k.2 B p _ _ h .refl ea ⟨[],rfl,rfl⟩ qa4⟩)
    ·cases e
   ·cases e
end
noncomputable def dN(ow:Bool)(g:Mu->List T->Option Nv)(ds:DS0 (List T)):DS0 T:=dSq ds λts _ μ=>nvR ow (g μ ts) μ
noncomputable def qqv(μ:Mu):List T->Option Nv
 |[.str z]=>if z.length<=100000 then some (.v (.int z.length)) else none
 |[t]=>(match qcn μ t with
  |some q=>some (.v (.int q.2.length))
  |none=>(dkv μ t).map λkvs=>.v (.int kvs.length))
 |_=>none
noncomputable def qb9:List T->Option (List Int)
 |[]=>some []
 |.int i::ts=>(qb9 ts).map (i:: ·)
 |_::_=>none
noncomputable def qk2:List T->Option (List Str)
 |[]=>some []
 |.str i::ts=>(qk2 ts).map (i:: ·)
 |_::_=>none
noncomputable def qdw:List T->Option (List Bool)
 |[]=>some []
 |.bl i::ts=>(qdw ts).map (i:: ·)
 |_::_=>none
noncomputable def qcb(μ:Mu)(t:T):Option (List T):=match qcn μ t with
 |some (true,ts)=>some ts
 |_=>none
noncomputable def qvs(μ:Mu):List T->Option Nv
 |[t]=>((qcb μ t).bind qdw).map λbs=>.v (.bl (bs.all id))
 |_=>none
noncomputable def qvr(μ:Mu):List T->Option Nv
 |[t]=>((qcb μ t).bind qdw).map λbs=>.v (.bl (bs.any id))
 |_=>none
noncomputable def qss(μ:Mu):List T->Option Nv
 |[t]=>((qcb μ t).bind qb9).bind λbs=>if bs=[] then none else some (.v (.int (PL.maxI bs)))
 |[.int i,.int j]=>some (.v (.int (if j>i then j else i)))
 |_=>none
noncomputable def qvo(_:Mu):List T->Option Nv
 |[.int i,.int j]=>some (.v (.int (if j<i then j else i)))
 |_=>none
noncomputable def qpF(μ:Mu):List T->Option Nv
 |[t]=>(qcn μ t).map λq=>.l q.2
 |_=>none
section
variable {M:Md}{X:Cx}{K:W.Frag}{B:qal}{μ:Mu}{H:Hp}
theorem qdY: ∀{ts:List T} {ns:List Int} {vs:List V},qb9 ts=some ns->Reps K B ts vs->vs=ns.map V.int
 |[],_,_,e,r=>by cases e;exact r.inv0
 |t::ts,ns,vs,e,r=>by
  obtain⟨v,rr,rfl,a,b⟩:=r.inv;cases t with
  |int i=>
   cases q:qb9 ts with
   |none=>rw[qb9,q] at e;cases e
   |some ms=>rw[qb9,q] at e;cases e;rw[qaf a,qdY q b];rfl
  |_=>cases e
theorem qdp: ∀{ts:List T} {ns:List Bool} {vs:List V},qdw ts=some ns->Reps K B ts vs->vs=ns.map V.bl
 |[],_,_,e,r=>by cases e;exact r.inv0
 |t::ts,ns,vs,e,r=>by
  obtain⟨v,rr,rfl,a,b⟩:=r.inv;cases t with
  |bl i=>
   cases q:qdw ts with
   |none=>rw[qdw,q] at e;cases e
   |some ms=>rw[qdw,q] at e;cases e;rw[qbI a,qdp q b];rfl
  |_=>cases e
theorem qcC{t:T}{vs:List V}(r:Reps K B [t] vs): ∃v,vs=[v]/\Rep K B t v:=by obtain⟨v,rr,rfl,a,b⟩:=r.inv;cases b.inv0;exact⟨v,rfl,a⟩
theorem qe5{t u:T}{vs:List V}(r:Reps K B [t,u] vs): ∃v w,vs=[v,w]/\Rep K B t v/\Rep K B u w:=by obtain⟨v,rr,rfl,a,b⟩:=r.inv;obtain⟨w,rfl,c⟩:=qcC b;exact⟨v,w,rfl,a,c⟩
theorem qc3(h:Hs M μ H B){t:T}{v:V}{ts:List T}(e:qcb μ t=some ts)(r:Rep M.K B t v): ∃p vs,v= .ref p/\Reps M.K B ts vs/\SqL M.K H p vs:=by
 unfold qcb at e;split at e
 ·rename_i es;cases e;obtain⟨p,vs,rfl,rv,hs⟩:=qee h es r;rw[if_pos rfl] at hs;exact⟨p,vs,rfl,rv,hs⟩
 ·cases e
theorem bind_some{α β:Type}{o:Option α}{f:α->Option β}{b:β}(e:o.bind f=some b): ∃a,o=some a/\f a=some b:=by
 cases o with
 |none=>cases e
 |some a=>exact⟨a,rfl,e⟩
theorem qap{α β:Type}{o:Option α}{f:α->β}{b:β}(e:o.map f=some b): ∃a,o=some a/\f a=b:=by
 cases o with
 |none=>cases e
 |some a=>exact⟨a,rfl,Option.some.inj e⟩
theorem qtd(hK:X.K=M.K):qau X (.builtin "len") (rN M qqv):=qau.ok (qau.or qmX qkT) λμ H B vs ts n Q h r e k=>by
 rw[hK];have l0:100000<=sizeLine:=by decide
 unfold qqv at e;split at e
 ·obtain⟨v,rfl,a⟩:=qcC r;split at e
  ·cases e;rw[qaz a];exact .inl ⟨_,_,rfl,⟨by omega,rfl⟩,k B _ h .refl qaL⟩
  ·cases e
 ·obtain⟨v,rfl,a⟩:=qcC r;split at e
  ·rename_i q es;cases e;obtain⟨p,vs,rfl,rv,hs⟩:=qed (b:=q.1) (ts:=q.2) h es a;refine .inl ⟨_,_,rfl,?_,k B _ h .refl qaL⟩;rw[<-rv.length]
   rcases hs with hs|hs
   ·exact .inl ⟨vs,hs,rfl⟩
   ·exact .inr ⟨vs,hs,rfl⟩
  ·obtain⟨kvs,e1,rfl⟩:=qap e;obtain⟨p,us,rfl,hp,ru⟩:=qht h e1 a;exact .inr ⟨p,us,rfl,hp,by rw[ru.length];exact k B _ h .refl qaL⟩
 ·cases e
theorem qtf(hc:X.calm=true)(hK:X.K=M.K):qau X (.builtin "all") (rN M qvs):=qau.ok (qmY hc) λμ H B vs ts n Q h r e k=>by
 unfold qvs at e;split at e
 ·obtain⟨v,rfl,a⟩:=qcC r;obtain⟨bs,e1,rfl⟩:=qap e;obtain⟨ts,e2,e3⟩:=bind_some e1;obtain⟨p,vs,rfl,rv,hs⟩:=qc3 h e2 a;rw[qdp e3 rv] at hs;exact⟨p,bs,rfl,by rw[hK];exact hs,k B _ h .refl qa4⟩
 ·cases e
theorem qte(hc:X.calm=true)(hK:X.K=M.K):qau X (.builtin "any") (rN M qvr):=qau.ok (PL.call_any hc) λμ H B vs ts n Q h r e k=>by
 unfold qvr at e;split at e
 ·obtain⟨v,rfl,a⟩:=qcC r;obtain⟨bs,e1,rfl⟩:=qap e;obtain⟨ts,e2,e3⟩:=bind_some e1;obtain⟨p,vs,rfl,rv,hs⟩:=qc3 h e2 a;rw[qdp e3 rv] at hs;exact⟨p,bs,rfl,by rw[hK];exact hs,k B _ h .refl qa4⟩
 ·cases e
theorem qtc(hc:X.calm=true)(hK:X.K=M.K):qau X (.builtin "max") (rN M qss):=qau.ok (qau.or (PL.call_maxL hc) (qkS hc)) λμ H B vs ts n Q h r e k=>by
 unfold qss at e;split at e
 ·obtain⟨v,rfl,a⟩:=qcC r;obtain⟨bs,e1,e2⟩:=bind_some e;split at e2
  ·cases e2
  ·rename_i hb;cases e2;obtain⟨ts,e2,e3⟩:=bind_some e1;obtain⟨p,vs,rfl,rv,hs⟩:=qc3 h e2 a;rw[qdY e3 rv] at hs;exact .inl ⟨p,bs,rfl,by rw[hK];exact hs,hb,k B _ h .refl qaL⟩
 ·cases e;obtain⟨v,w,rfl,a,b⟩:=qe5 r;rw[qaf a,qaf b];exact .inr ⟨_,_,rfl,k B _ h .refl qaL⟩
 ·cases e
theorem qtb(hc:X.calm=true):qau X (.builtin "min") (rN M qvo):=qau.ok (qkQ hc) λμ H B vs ts n Q h r e k=>by
 unfold qvo at e;split at e
 ·cases e;obtain⟨v,w,rfl,a,b⟩:=qe5 r;rw[qaf a,qaf b];exact⟨_,_,rfl,k B _ h .refl qaL⟩
 ·cases e
theorem qp7(hK:X.K=M.K):qau X (.type "list") (rN M qpF):=qau.ok qfS λμ H B vs ts n Q h r e k=>by
 rw[hK];unfold qpF at e;split at e
 ·obtain⟨v,rfl,a⟩:=qcC r;obtain⟨q,es,rfl⟩:=qap e;obtain⟨p,vs,rfl,rv,hs⟩:=qed (b:=q.1) (ts:=q.2) h es a;exact⟨p,vs,rfl,hs,λl hl=>k B l vs h .refl hl rv⟩
 ·cases e
end
open SR SetL
noncomputable def kyN:T->PL.Ky
 |.int i=>.i i
 |.str x=>.s x
 |_=>.i 0
noncomputable def qil:T->List PL.Ky
 |.int i=>[.i i]
 |.str x=>[.s x]
 |.tup ts=>ts.map kyN
 |_=>[]
noncomputable def shN:T->Nat
 |.int _=>0
 |.str _=>1
 |_=>9
noncomputable def qbH:T->List Nat
 |.int _=>[0]
 |.str _=>[1]
 |.tup ts=>2::ts.map shN
 |_=>[9]
noncomputable def qbZ:List T->Bool
 |[]=>true
 |t::ts=>PL.okShape (qbH t)&&ts.all λu=>qbH u==qbH t
noncomputable def qja(ts:List T):List T:=PL.sortBy qil ts
section
open PySem.W PyProof.Rows
noncomputable def qca(h:Heap)(sh:List Nat)(k:List PL.Ky)(v:Value):Prop:=match sh with
 |[0]=> ∃n t,k=[.i n]/\v= .int n t
 |[1]=> ∃n t,k=[.s n]/\v= .str n t
 |2::r=>PL.KeyTup h k v/\k.map PL.shK=r
 |_=>False
theorem qca.keep{h h':Heap}{sh:List Nat}{k:List PL.Ky}{v:Value}(kp:St.Kp h h')(x:qca h sh k v):qca h' sh k v:=by
 unfold qca at x⊢;split at x
 ·exact x
 ·exact x
 ·obtain⟨⟨p,its,e,⟨o,ho,c⟩,r⟩,s⟩:=x;exact⟨⟨p,its,e,⟨o,kp _ _ ho,c⟩,r⟩,s⟩
 ·exact x.elim
noncomputable def qwd(sh:List Nat):SortKind:=match sh with|2::_=>tuples' true|_=>oneType'
theorem qr7 {prog:Program} {w:World} {A:Around} {s:Shared} {sh:List Nat} {a b:List PL.Ky} {u v:Value} {C:Bool->Shared->Prop} (ok:PL.okShape sh=true) (ki:qca s.heap sh a u) (kj:qca s.heap sh b v) (hC:C (PL.ltKs a b) s):
  wpAny (model prog w) A (keyLt' (qwd sh) u v) C (λ_ _=>False) s:=by
 rcases PL.okShape_cases ok with rfl|rfl|⟨x,r,rfl,hr⟩
 ·obtain⟨n1,t1,f1,g1⟩:=ki;obtain⟨n2,t2,f2,g2⟩:=kj;rw[g1,g2];rw[f1,f2] at hC;refine kat_lt_int ?_;have e:PL.ltKs [.i n1] [.i n2]=decide (n1<n2):=by
   show(if PL.Ky.i n1=PL.Ky.i n2 then false else decide (n1<n2))=_;by_cases c:n1=n2
   ·subst c;rw[if_pos rfl];exact(Vx (Int.lt_irrefl _)).symm
   ·rw[if_neg (λz=>c (by cases z;rfl))]
  rw[<-e];exact hC
 ·obtain⟨n1,t1,f1,g1⟩:=ki;obtain⟨n2,t2,f2,g2⟩:=kj;rw[g1,g2];rw[f1,f2] at hC;refine kas_lt_str ?_;have e:PL.ltKs [.s n1] [.s n2]=decide (n1.cps.toList<n2.cps.toList):=by
   show(if PL.Ky.s n1=PL.Ky.s n2 then false else RH.ltS n1 n2)=_;by_cases c:n1=n2
   ·subst c;rw[if_pos rfl];exact(RH.ordS.irr n1).symm
   ·rw[if_neg (λz=>c (by cases z;rfl))];rfl
  rw[<-e];exact hC
 ·exact PL.lt_tups ki.1 kj.1 (ki.2.trans kj.2.symm) hC
theorem qf8 {prog:Program} {w:World} {A:Around} {E:Value->Shared->Prop} {s:Shared} {v:Value} {its:List Value} {ks:List (List PL.Ky)} {sh:List Nat} {Q:Value->Shared->Prop} (ok:PL.okShape sh=true) (hl:ks.length=its.length) (dF:its.length<64)
  (bW: ∀R:List Value->Shared->Prop,(∀h1 t1,St.Kp s.heap h1->R its { s with heap:=h1,toks:=t1 })->wpAny (model prog w) A.in1 (collect v) R E s)
  (hk: ∀j,j<its.length->qca s.heap sh (ks.getD j []) (its.getD j Value.none))
  (h: ∀h1 D h' tk c (p:Array Nat),St.Kp s.heap h1->h1.objs.size<=D->St.Kp h1 h'->p.toList=srt (λj=>rank PL.ltKs ks (ks.getD j [])) (List.range its.length)->h'.get? D=some (seqObj "list" (List.toArray (p.toList.map λi=>its.getD i Value.none)) c)->Q (.ref D) { s with heap:=h',toks:=tk }):
  wpAny (model prog w) A (call (.builtin "sorted") [v]) Q E s:=by
 have cN: ∀{m:Nat},m<its.length->(ks.map (rank PL.ltKs ks)).getD m 0=rank PL.ltKs ks (ks.getD m []):=λ{m} hm=>by rw[List.getD_eq_getElem?_getD,List.getElem?_map,List.getElem?_eq_getElem (by omega),List.getD_eq_getElem?_getD,List.getElem?_eq_getElem (by omega)];rfl
 have mem: ∀{m:Nat},m<its.length->ks.getD m []∈ks:=λ{m} hm=>by rw[List.getD_eq_getElem?_getD,List.getElem?_eq_getElem (by omega)];exact List.getElem_mem _
 have kv: ∀{h':Heap},St.Kp s.heap h'->∀u∈its,∃k,qca h' sh k u:=λ{h'} kp u hu=>by obtain⟨m,hm,rfl⟩:=List.mem_iff_getElem.mp hu;have:=(hk m hm).keep kp;rw[List.getD_eq_getElem?_getD (l:=its),List.getElem?_eq_getElem hm] at this;exact⟨_,this⟩
 refine St.sorted_c (bW _ λh1 t1 kp=> ?_);refine⟨h1,t1,qwd sh,ks.map (rank PL.ltKs ks),rfl,kp,by simp[hl],dF,λs' k2 h2 Q' E' hq=> ?_,λs' k2 i j hi hj C hC=> ?_,λD h' tk c p hD k2 ho cX=> ?_⟩
 ·have fX:St.Kp s.heap s'.heap:=λb o e=>k2 _ _ (kp _ _ e)
  rcases PL.okShape_cases ok with rfl|rfl|⟨x,r,rfl,hr⟩
  ·have hI: ∀l:List Value,(∀v∈l,∃n t,v= .int n t)->∃ns,IntsAre l ns:=λl=>by
    induction l with
    |nil=>exactλ_=>⟨[],.nil⟩
    |cons v l ih=>intro hl;obtain⟨n,t,rfl⟩:=hl v Vk;obtain⟨ns,hn⟩:=ih λu hu=>hl u (Vl _ hu);exact⟨n::ns,.cons n t hn⟩
   obtain⟨ns,fB⟩:=hI its λv hv=>by obtain⟨k,n,t,_,e⟩:=kv fX v hv;exact⟨n,t,e⟩
   rw[ksk_kind (keys:=its.toArray) (by simpa using fB) (by simpa using h2)];exact Vb hq
  ·exact PL.kind_strs its h2 (λv hv=>by obtain⟨k,n,t,_,e⟩:=kv fX v hv;exact⟨n,t,e⟩) hq
  ·have hx:x=0\/x=1:=by rw[List.all_cons,Bool.and_eq_true] at hr;simpa using hr.1
   exact PL.kind_tups its hx h2 (λv hv=>by obtain⟨k,e1,e2⟩:=kv fX v hv;exact⟨k,e1,e2⟩) hq
 ·rw[cN hi,cN hj,qoB PL.ordKs (mem hi) (mem hj)] at hC;have ki:=(hk i hi).keep (λb o e=>k2 _ _ (kp _ _ e));have kj:=(hk j hj).keep (λb o e=>k2 _ _ (kp _ _ e));exact qr7 ok ki kj hC
 ·refine h h1 D h' tk c p kp hD k2 ?_ cX;rw[qjw ho];exact qe0 _ λb hb=>cN (List.mem_range.mp hb)
end
noncomputable def qfn:Key->T
 |.inl i=>.int i
 |.inr s=>.str s
noncomputable def qqP(μ:Mu)(t:T):Option (List T):=match qcb μ t with
 |some ts=>some ts
 |none=>(match dkv μ t with
  |some kvs=>some (kvs.map λp=>qfn p.1)
  |none=>(duv μ t).map λkvs=>kvs.map λp=>.tup (p.1.map qfn))
noncomputable def qgt(μ:Mu):List T->Option Nv
 |[t]=>(qqP μ t).bind λts=>if ts.length<64/\qbZ ts=true then some (.l (qja ts)) else none
 |_=>none
theorem qfm{K:W.Frag}{B:qal}(k:Key):Rep K B (qfn k) (kV k):=by
 cases k with
 |inl i=>exact qaL
 |inr s=>exact qcs
theorem qdK{K:W.Frag}{B:qal}: ∀ks:List Key,Reps K B (ks.map qfn) (ks.map kV)
 |[]=>.nil
 |k::ks=>.cons (qfm k) (qdK ks)
open Classical in
noncomputable def qal.abs(B:qal)(H:Hp)(qs:List Addr):qal:=⟨λa=>if a∈qs then H a else B a,B.ad⟩
section
open Classical
variable {M:Md}{μ:Mu}{H:Hp}{B:qal}{qs:List Addr}
theorem Hs.abs(h:Hs M μ H B)(ht: ∀q∈qs,∃vs,H q=some (.tup vs)):Hs M μ H (B.abs H qs)/\Go H B H (B.abs H qs):=by
 have le:Le B (B.abs H qs):=⟨λa o e=>by
  show(if a∈qs then H a else B a)=_;split
  ·exact h.bh a o e
  ·exact e,λ_ _ e=>e⟩
 refine⟨⟨λa o e=> ?_,λa ps e=> ?_,h.gm,λk c e n=> ?_,h.ij,h.dm,h.lk,h.ln⟩,⟨le,λ_ _ e _ _=>e,λ_ _ e=>.inl e,λ_ e=>e,λa o e n t1 t2=> ?_⟩⟩
 ·have e:(if a∈qs then H a else B a)=some o:=e;split at e
  ·exact e
  ·exact h.bh a o e
 ·have e:(if a∈qs then H a else B a)=some (.tbl ps):=e;split at e
  ·rename_i m;obtain⟨vs,z⟩:=ht a m;rw[z] at e;cases e
  ·exact h.bt a ps e
 ·obtain⟨a,o,e1,e2,e3,e4⟩:=h.st k c e n;refine⟨a,o,e1,?_,e3,e4.mono le⟩;show(if a∈qs then H a else B a)=_;rw[if_neg (λm=> ?_)]
  ·exact e2
  ·obtain⟨vs,z⟩:=ht a m;rw[e3] at z;cases z
   rcases e4.mb n with⟨_,e⟩|⟨_,e⟩|⟨_,e⟩|⟨_,_,_,e⟩<;>cases e
 ·show(if a∈qs then H a else B a)=_;rw[if_neg (λm=>by obtain⟨vs,z⟩:=ht a m;rw[z] at e;exact t1 vs (Option.some.inj e).symm)]
end
section
variable {M:Md}{X:Cx}
theorem qfx{K:W.Frag}{B:qal}: ∀{us:List T} {ws:List V},us.all (λt=>shN t==0||shN t==1)=true->Reps K B us ws->ws=(us.map kyN).map PL.kyV/\(us.map kyN).map PL.shK=us.map shN
 |[],_,_,r=>⟨r.inv0,rfl⟩
 |u::us,_,h,r=>by
  obtain⟨v,rr,rfl,a,b⟩:=r.inv;rw[List.all_cons,Bool.and_eq_true] at h;obtain⟨e1,e2⟩:=qfx h.2 b;cases u with
  |int i=>rw[qaf a,e1];exact⟨rfl,by rw[List.map_cons,List.map_cons,e2];rfl⟩
  |str i=>rw[qaz a,e1];exact⟨rfl,by rw[List.map_cons,List.map_cons,e2];rfl⟩
  |_=>cases h.1
theorem qik{pins:List (Addr×Obj)}{σ:St}{H:Hp}{B:qal}{s:Shared}(I:Inv X pins σ H s)(le:LeH B H){t:T}{x:V}{v:Value}(ok:PL.okShape (qbH t)=true)(r:Rep X.K B t x)(rv:RelV x v):qca s.heap (qbH t) (qil t) v:=by
 cases t with
 |int i=>rw[qaf r] at rv;obtain⟨t,rfl⟩:=rv;exact⟨i,t,rfl,rfl⟩
 |str i=>rw[qaz r] at rv;obtain⟨t,rfl⟩:=rv;exact⟨i,t,rfl,rfl⟩
 |tup us=>
  obtain⟨p,ws,rfl,hp,rs⟩:=qaw r;cases rv;obtain⟨its,bN,pl2,_⟩:=I.tuple (SqT.of (le _ _ hp));have fl:us.all (λt=>shN t==0||shN t==1)=true:=by
   rcases PL.okShape_cases ok with e|e|⟨x,r,e,ho⟩
   ·cases e
   ·cases e
   ·have e:=(List.cons.inj e).2;rw[<-e,List.all_map] at ho;exact ho
  obtain⟨e1,e2⟩:=qfx fl rs;exact⟨⟨p,its,rfl,pl2,e1▸bN⟩,e2⟩
 |_=>cases ok
theorem qe2{ts:List T}(h:qbZ ts=true): ∃sh,PL.okShape sh=true/\∀t∈ts,qbH t=sh:=by
 cases ts with
 |nil=>exact⟨[0],rfl,λ_ h=>nomatch h⟩
 |cons t ts=>
  have h:(PL.okShape (qbH t)&&ts.all λu=>qbH u==qbH t)=true:=h;rw[Bool.and_eq_true] at h;refine⟨_,h.1,λu hu=> ?_⟩
  rcases List.mem_cons.mp hu with rfl|hu
  ·rfl
  ·exact eq_of_beq (List.all_eq_true.mp h.2 u hu)
theorem qdC{K:W.Frag}{B:qal}{ts:List T}{vs:List V}(r:Reps K B ts vs): ∀l:List Nat,(∀j∈l,j<ts.length)->Reps K B (l.map λj=>ts.getD j .non) (l.map λj=>vs.getD j .non)
 |[],_=>.nil
 |j::l,h=>.cons (r.getD j (h j Vk)) (qdC r l λi hi=>h i (Vl _ hi))
open PySem.W PyProof.Rows in
theorem qbO {pins:List (Addr×Obj)} {s:Shared} {σ:L2.St} {H:Hp} {B:qal} {u:Value} {Q:VK} {ts:List T} {vs:List V} {its:List Value} (I:Inv X pins σ H s) (le:LeH B H) (r:Reps X.K B ts vs) (rv:qat vs its) (dF:ts.length<64) (so:qbZ ts=true)
  (bW: ∀R:List Value->Shared->Prop,(∀h1 t1,St.Kp s.heap h1->R its { s with heap:=h1,toks:=t1 })->wpAny (model X.prog X.w) X.A.in1 (collect u) R X.xe s)
  (q: ∀D ys,H D=none->Reps X.K B (qja ts) ys->Q (.ref D) (upd H D (.lst ys))):wpAny (model X.prog X.w) X.A (call (.builtin "sorted") [u]) (EP X pins σ Q) X.xe s:=by
 obtain⟨sh,ok,hs⟩:=qe2 so;have l1:=rv.length;have l2:=r.length;have kg: ∀j,j<ts.length->(ts.map qil).getD j []=qil (ts.getD j .non)/\ts.getD j .non∈ts:=λj hj=>by rw[List.getD_eq_getElem?_getD,List.getElem?_map,List.getElem?_eq_getElem hj,List.getD_eq_getElem?_getD,List.getElem?_eq_getElem hj];exact⟨rfl,List.getElem_mem hj⟩
 refine qf8 (ks:=ts.map qil) ok (by simp;omega) (by omega) bW (λj hj=> ?_) λh1 D h' tk c p kp hD k2 ep cX=> ?_
 ·obtain⟨e1,e2⟩:=kg j (by omega);have e3:=hs _ e2;rw[e1,<-e3];exact qik I le (by rw[e3];exact ok) (r.getD j (by omega)) (qeS rv j)
 ·have I2:Inv X pins σ H { s with heap:=h1,toks:=s.toks }:=I.kept (t':=s.toks) kp;have fD:H D=none:=I2.hok.fresh hD;have pm: ∀j∈p.toList,j<ts.length:=λj hj=>by rw[ep] at hj;have:=List.mem_range.mp ((mem_srt _).mp hj);omega
  have e:qja ts=p.toList.map λj=>ts.getD j .non:=by
   unfold qja PL.sortBy;rw[ep,qe0 (k':=λj=>rank PL.ltKs (ts.map qil) (qil (ts.getD j .non))),srt_map (k:=λt=>rank PL.ltKs (ts.map qil) (qil t)) (f:=λj=>ts.getD j .non) (λb=>rfl),show its.length=ts.length by omega,Mir.map_range_getD];intro b hb;have bB:b<ts.length:=by have:=List.mem_range.mp hb;omega
   show rank _ _ ((ts.map qil).getD b [])=_;rw[(kg b bB).1]
  have I3:Inv X pins σ (upd H D (.lst (p.toList.map λj=>vs.getD j .non))) { s with heap:=h',toks:=tk }:=by refine I2.laid k2 hD ⟨?_,_,c,L2.vals_pick rv p.toList,cX⟩;rw[List.length_map,ep,length_srt,List.length_range,sizeLine_eq];omega
  refine⟨.ref D,_,I3,rfl,q D _ fD ?_⟩;rw[e];exact qdC r _ pm
theorem qpV{pins:List (Addr×Obj)}{s:Shared}{σ:L2.St}{H:Hp}{p:Addr}{us:List (Key×V)}(I:Inv X pins σ H s)(hp:H p=some (.dK us)): ∃(es:Array DictEntry) (ep:Nat),DH.RawD s.heap p es ep/\(p==sysModules)=false/\es.size<=sizeLine/\qat (us.map λp=>kV p.1) (es.toList.map (·.key)):=by
 obtain⟨hz,lo,vs,kv,o,es,ep,ho,hx,hd,h4,h5,h6⟩:=qpU I.hok hp;have l1:=h5.length;have l2:us.length=vs.length:=kv.length;refine⟨es,ep,⟨o,ho,hx,hd⟩,lo,?_,?_⟩
 ·rw[<-Array.length_toList,l1,<-l2];exact hz
 ·have go: ∀{us:List (Key×V)} {vs:List (Key×Value)} {es:List DictEntry},L2.KV us vs->Pairs (qaq X.prog X.w) es vs->qat (us.map λp=>kV p.1) (es.map (·.key)):=λ{us vs es} kv=>by
   unfold L2.KV at kv
   induction kv generalizing es with
   |nil=>intro h;cases h;exact .nil
   |cons c _ ih=>
    intro h;cases h with
    |cons c2 _ h2=>exact .cons (by show RelV (kV _) _;rw[c.1];exact L2.is_kV c2) (ih h2)
  exact go kv h5
open PySem.W PyProof.Rows in
theorem qkv(hc:X.calm=true)(hK:X.K=M.K):qau X (.builtin "sorted") (rN M qgt):=by
 intro pins s σ H xs us Q I r ⟨μ,B,ts,n,h,rt,e,k⟩;unfold qgt at e;split at e
 case h_2=>cases e
 rename_i t;obtain⟨v,rfl,a⟩:=qcC rt;obtain⟨u,rfl,ru⟩:=qdu r;obtain⟨its,e1,e2⟩:=bind_some e;split at e2
 case isFalse=>cases e2
 rename_i hs;cases e2;have hh:X.A.in1.handled=none:=I.ok.hd hc;unfold qqP at e1;split at e1
 ·rename_i ts el;cases e1;obtain⟨p,vs,rfl,rv,sq⟩:=qc3 h el a;cases ru;obtain⟨its,bN,pl,hz⟩:=I.list (by rw[hK];exact sq);have l1:=bN.length;rw[<-hK] at rv;refine qbO I (B:=B) h.bh rv bN hs.1 hs.2 (λR hR=>collect_list pl.isList (hR _ _ λb o q=>by
   have aw:b<s.heap.objs.size:=Vi q;rw[Heap.get?_update_ne _ _ _ _ (Nat.ne_of_lt aw),Heap.get?_push_ne _ _ _ (Nat.ne_of_lt aw)];exact q) (by omega)) λD ys hD ry=>k B D ys h .refl hD (by rw[<-hK];exact ry)
 ·split at e1
  ·rename_i kvs el;cases e1;obtain⟨p,us,rfl,hp,fh⟩:=qht h el a;cases ru;obtain⟨es,ep,r1,lo,hz,bN⟩:=qpV I hp;have rv:Reps X.K B (kvs.map λp=>qfn p.1) (us.map λp=>kV p.1):=by
    have go: ∀{kvs:List (Key×T)} {us:List (Key×V)},qbd M.K B kvs us->Reps X.K B (kvs.map λp=>qfn p.1) (us.map λp=>kV p.1):=λ{kvs}=>by
     induction kvs with
     |nil=>intro us r;rw[show us=[] from r];exact .nil
     |cons kv kvs ih=>intro us ⟨v,r,e,_,b⟩;rw[e];exact .cons (qfm kv.1) (ih b)
    exact go fh
   exact qbO I (B:=B) h.bh rv bN hs.1 hs.2 (λR hR=>DH.collectD hh lo r1 hz λh' tk kp=>hR h' tk kp) λD ys hD ry=>k B D ys h .refl hD (by rw[<-hK];exact ry)
  ·obtain⟨kvs,el,rfl⟩:=qap e1;obtain⟨p,us,rfl,hp,fh⟩:=qfB h el a;cases ru;obtain⟨qs,es,ep,r1,lo,hz,hk,h1,h2,h3⟩:=PL.dt_keys I hp;obtain⟨ha,ga⟩:=h.abs (qs:=qs) λq hq=>by obtain⟨j,hj⟩:=List.mem_iff_getElem?.mp hq;obtain⟨k,v,_,z⟩:=h3 j q hj;exact⟨_,z⟩
   have l3:=fh.length;have rv:Reps X.K (B.abs H qs) (kvs.map λp=>.tup (p.1.map qfn)) (qs.map V.ref):=by
    refine .of_get (by simp;omega) λj t' v' z1 z2=> ?_;rw[List.getElem?_map] at z1 z2;cases y:qs[j]? with
    |none=>rw[y] at z2;cases z2
    |some b=>
     rw[y] at z2;cases z2;obtain⟨k,v,y1,y2⟩:=h3 j b y;cases y3:kvs[j]? with
     |none=>rw[y3] at z1;cases z1
     |some kv=>rw[y3] at z1;cases z1;obtain⟨v3,y4,_⟩:=qeh fh y3;rw[y1] at y4;cases y4;refine qcr (vs:=kv.1.map kV) ?_ (qdK _);show(if b∈qs then H b else _)=_;rw[if_pos (List.mem_of_getElem? y)];exact y2
   have bN:qat (qs.map V.ref) (es.toList.map (·.key)):=by
    rw[hk];have go: ∀l:List Addr,qat (l.map V.ref) (l.map Value.ref):=λl=>by
     induction l with
     |nil=>exact .nil
     |cons b l ih=>exact .cons rfl ih
    exact go qs
   exact qbO I (B:=B.abs H qs) ha.bh rv bN hs.1 hs.2 (λR hR=>DH.collectD hh lo r1 (by omega) λh' tk kp=>hR h' tk kp) λD ys hD ry=>k _ D ys ha ga hD (by rw[<-hK];exact ry)
end
end NV
namespace NV
open PySem L2
noncomputable def qf0(μ:Mu):T->Option (Nat×List T)
 |.obj k=>(match μ.l[k]? with|some (.ls ts)=>some (k,ts)|_=>none)
 |_=>none
noncomputable def qk9(μ:Mu):T->Option (Nat×List (Key×T))
 |.obj k=>(match μ.l[k]? with|some (.dk ts)=>some (k,ts)|_=>none)
 |_=>none
noncomputable def qtC(μ:Mu):T->Option (Nat×List (List Key×T))
 |.obj k=>(match μ.l[k]? with|some (.du ts)=>some (k,ts)|some (.dk [])=>some (k,[])|_=>none)
 |_=>none
noncomputable def qk8{κ:Type}[DecidableEq κ](kvs:List (κ×T))(k:κ)(t:T):List (κ×T):=if(kvs.any λkv=>decide (kv.1=k))=true then kvs.map (λkv=>if kv.1=k then(kv.1,t) else kv) else kvs++[(k,t)]
noncomputable def qgv(μ:Mu):List T->Option Nv
 |[o,x]=>(qf0 μ o).bind λq=>if q.2.length<=1000 then some (.p q.1 (.ls (q.2++[x])) .non) else none
 |_=>none
noncomputable def qgu(μ:Mu):List T->Option Nv
 |[o,y]=>(qf0 μ o).bind λq=>(match sqv μ y with
  |some (true,ys)=>if q.2.length<=1000/\ys.length<=1000 then some (.p q.1 (.ls (q.2++ys)) .non) else none
  |_=>none)
 |_=>none
noncomputable def qyf(μ:Mu):List T->Option Nv
 |[o]=>(qf0 μ o).bind λq=>(q.2[q.2.length - 1]?).map λt=>.p q.1 (.ls q.2.dropLast) t
 |_=>none
noncomputable def qmp(μ:Mu):List T->Option Nv
 |[d,k]=>(qdO μ d k).map λo=>.v (o.getD .non)
 |[d,k,x]=>(qdO μ d k).map λo=>.v (o.getD x)
 |_=>none
noncomputable def qde(μ:Mu):List T->Option Nv
 |[d]=>(qk9 μ d).map λq=>.p q.1 (.dk []) .non
 |_=>none
noncomputable def rM(M:Md)(g:Mu->List T->Option Nv):V->List V->Hp->VK->Prop:=λx vs H Q=>rN M g (x::vs) H Q
theorem MtR.weak{X:Cx}{id:String}{r r':V->List V->Hp->VK->Prop}(h:MtR X id r)(w: ∀x xs H Q,r' x xs H Q->r x xs H Q):MtR X id r':=λpins s σ H x xs v us Q I rx rs q=>h pins s σ H x xs v us Q I rx rs (w _ _ _ _ q)
section
variable {M:Md}{X:Cx}{μ:Mu}{H:Hp}{B:qal}
theorem qgi(h:Hs M μ H B){t:T}{v:V}{q:Nat×List T}(e:qf0 μ t=some q)(r:Rep M.K B t v): ∃a vs,v= .ref a/\B.ad q.1=some a/\H a=some (.lst vs)/\Reps M.K B q.2 vs:=by
 unfold qf0 at e;split at e
 ·split at e
  ·rename_i el;cases e;obtain⟨a,rfl,ea⟩:=qaA r;obtain⟨o,_,ho,vs,rfl,rv⟩:=h.at el (by simp) ea;exact⟨a,vs,rfl,ea,ho,rv⟩
  ·cases e
 ·cases e
theorem qju(h:Hs M μ H B){t:T}{v:V}{q:Nat×List (Key×T)}(e:qk9 μ t=some q)(r:Rep M.K B t v): ∃a vs,v= .ref a/\B.ad q.1=some a/\H a=some (.dK vs)/\qbd M.K B q.2 vs:=by
 unfold qk9 at e;split at e
 ·split at e
  ·rename_i el;cases e;obtain⟨a,rfl,ea⟩:=qaA r;obtain⟨o,_,ho,vs,rfl,rv⟩:=h.at el (by simp) ea;exact⟨a,vs,rfl,ea,ho,rv⟩
  ·cases e
 ·cases e
theorem qoz{K:W.Frag}{t u w:T}{vs:List V}(r:Reps K B [t,u,w] vs): ∃a b c,vs=[a,b,c]/\Rep K B t a/\Rep K B u b/\Rep K B w c:=by obtain⟨v,rr,rfl,a,b⟩:=r.inv;obtain⟨x,y,rfl,c,d⟩:=qe5 b;exact⟨v,x,y,rfl,a,c,d⟩
theorem qic:MtR X "list.append" (rM M qgv):=MtR.weak (X:=X) qff λx xs H Q ⟨μ,B,ts,n,h,r,e,k⟩=>by
 unfold qgv at e;split at e
 ·obtain⟨a,b,eq,ra,rb⟩:=qe5 r;cases eq;obtain⟨q,e1,e2⟩:=bind_some e;split at e2
  ·rename_i hz;cases e2;obtain⟨p,vs,rfl,ea,hp,rv⟩:=qgi h e1 ra;have l0:1001<sizeLine:=by decide
   exact⟨p,vs,b,rfl,rfl,hp,by rw[rv.length];omega,k.2 B p _ _ h .refl ea ⟨_,rfl,rv.append (.one rb)⟩ qct⟩
  ·cases e2
 ·cases e
theorem qh9:MtR X "list.extend" (rM M qgu):=MtR.weak (X:=X) qjE λx xs H Q ⟨μ,B,ts,n,h,r,e,k⟩=>by
 unfold qgu at e;split at e
 ·obtain⟨a,b,eq,ra,rb⟩:=qe5 r;cases eq;obtain⟨q,e1,e2⟩:=bind_some e;split at e2
  ·rename_i ys es;split at e2
   ·rename_i hz;cases e2;obtain⟨p,vs,rfl,ea,hp,rv⟩:=qgi h e1 ra;obtain⟨p2,vs2,rfl,bN,b9⟩:=qbj h es rb;rw[if_pos rfl] at b9;have l0:2001<sizeLine:=by decide
    exact⟨p,p2,vs,vs2,rfl,rfl,hp,b9,by rw[rv.length,bN.length];omega,k.2 B p _ _ h .refl ea ⟨_,rfl,rv.append bN⟩ qct⟩
   ·cases e2
  ·cases e2
 ·cases e
end
section
variable {K:W.Frag}{B:qal}{κ:Type}[DecidableEq κ]
theorem qg2(k:κ): ∀{ts:List (κ×T)} {vs:List (κ×V)},qbd K B ts vs->(vs.any λkv=>decide (kv.1=k))=ts.any λkv=>decide (kv.1=k)
 |[],vs,r=>by rw[show vs=[] from r];rfl
 |(k',t)::ts,_,⟨v,r,e,_,b⟩=>by rw[e,List.any_cons,List.any_cons,qg2 k b]
theorem qe6{k:κ}{t:T}{v:V}(h:Rep K B t v): ∀{ts:List (κ×T)} {vs:List (κ×V)},qbd K B ts vs->qbd K B (ts++[(k,t)]) (vs++[(k,v)])
 |[],vs,r=>by rw[show vs=[] from r];exact⟨v,[],rfl,h,rfl⟩
 |(k',t')::ts,_,⟨w,r,e,a,b⟩=>by rw[e];exact⟨w,_,rfl,a,qe6 h b⟩
theorem qcU(k:κ){t:T}{v:V}(h:Rep K B t v): ∀{ts:List (κ×T)} {vs:List (κ×V)},qbd K B ts vs->qbd K B (ts.map λkv=>if kv.1=k then(kv.1,t) else kv) (vs.map λkv=>if kv.1=k then(kv.1,v) else kv)
 |[],vs,r=>by rw[show vs=[] from r];rfl
 |(k',t')::ts,_,⟨w,r,e,a,b⟩=>by
  rw[e,List.map_cons,List.map_cons];by_cases c:k'=k
  ·rw[if_pos c,if_pos c];exact⟨v,_,rfl,h,qcU k h b⟩
  ·rw[if_neg c,if_neg c];exact⟨w,_,rfl,a,qcU k h b⟩
theorem qcV{k:κ}{t:T}{v:V}{ts:List (κ×T)}{vs:List (κ×V)}(r:qbd K B ts vs)(h:Rep K B t v):qbd K B (qk8 ts k t) (qiD vs k v):=by
 unfold qk8 qiD;rw[qg2 k r];split
 ·exact qcU k h r
 ·exact qe6 h r
end
section
variable {M:Md}{X:Cx}
theorem qpk(hu:X.A.units+1<cLine):MtR X "dict.get" (rM M qmp):=by
 intro pins s σ H x vs v us Q I rx rv ⟨μ,B,ts,n,h,r,e,k⟩;unfold qmp at e;split at e
 ·obtain⟨a,b,eq,ra,rb⟩:=qe5 r;cases eq;obtain⟨o,e1,rfl⟩:=qap e;obtain⟨p,ov,rfl,_,g,h1,h2⟩:=qeF h e1 ra rb;cases rx;obtain⟨u,rfl,ru⟩:=qdu rv;refine qsZ hu I g ru λw' s3 I3 ar=>⟨_,H,I3,ar,k B _ h .refl ?_⟩
  cases o with
  |none=>rw[h2 rfl];exact qct
  |some t=>obtain⟨v,rfl,rv⟩:=h1 t rfl;exact rv
 ·obtain⟨a,b,c,eq,ra,rb,rc⟩:=qoz r;cases eq;obtain⟨o,e1,rfl⟩:=qap e;obtain⟨p,ov,rfl,_,g,h1,h2⟩:=qeF h e1 ra rb;cases rx;obtain⟨u,w,rfl,ru,rw⟩:=qhR rv;refine qnQ hu I g ru rw λw' s3 I3 ar=>⟨_,H,I3,ar,k B _ h .refl ?_⟩
  cases o with
  |none=>rw[h2 rfl];exact rc
  |some t=>obtain⟨v,rfl,rv⟩:=h1 t rfl;exact rv
 ·cases e
theorem qib:MtR X "dict.clear" (rM M qde):=by
 intro pins s σ H x vs v us Q I rx rv ⟨μ,B,ts,n,h,r,e,k⟩;unfold qde at e;split at e
 ·obtain⟨a,eq,ra⟩:=qcC r;cases eq;obtain⟨q,e1,rfl⟩:=qap e;obtain⟨p,ws,rfl,ea,hp,rw⟩:=qju h e1 ra;cases rx;cases rv;exact qp4 I hp λs3 I3=>⟨.non,_,I3,rfl,k.2 B p _ _ h .refl ea ⟨[],rfl,rfl⟩ qct⟩
 ·cases e
noncomputable def qlb(μ:Mu)(o i v:T):Option (Nat×Ct):=match qf0 μ o,i with
 |some q,.int k=>(ixN q.2.length k).map λj=>(q.1,.ls (q.2.set j v))
 |_,_=>(match qk9 μ o,qfo i with
  |some q,some k=>if q.2.length<=1000 then some (q.1,.dk (qk8 q.2 k v)) else none
  |_,_=>(match qtC μ o,qnu i with
   |some q,some k=>if q.2.length<=1000 then some (q.1,.du (qk8 q.2 k v)) else none
   |_,_=>none))
noncomputable def qud(M:Md):qtL:=λo i v H Q=> ∃μ B to ti tv q,Hs M μ H B/\Rep M.K B to o/\Rep M.K B ti i/\Rep M.K B tv v/\qlb μ to ti tv=some q/\μ.live q.1=true/\∀a ob,B.ad q.1=some a->qeP M.K B q.2 ob->Q (upd H a ob)
theorem qt7(hu:X.A.units+1<cLine):qv4 X (qud M):=by
 intro pins s σ H o i v ov iv u Q I ro ri rv ⟨μ,B,to,ti,tv,q,h,r1,r2,r3,e,lv,k⟩;have l0:1001<=sizeLine:=by decide
 unfold qlb at e;split at e
 ·rename_i p kk e1;obtain⟨j,e2,rfl⟩:=qap e;obtain⟨a,vs,rfl,ea,hp,rw⟩:=qgi h e1 r1;rw[qaf r2] at ri;have hl:=rw.length;exact qlB pins s σ H _ _ v ov iv u Q I ro ri rv ⟨a,vs,kk,j,rfl,rfl,hp,by rw[hl];exact e2,k a _ ea ⟨_,rfl,rw.set j r3⟩⟩
 ·split at e
  ·rename_i p ky e1 e2;split at e
   ·rename_i hz;cases e;obtain⟨a,vs,rfl,ea,hp,rw⟩:=qju h e1 r1;have hl:=rw.length;cases ro;exact qdh hu I (.inl ⟨vs,ky,hp,qgs e2 r2,by omega,rfl⟩) ri rv λs' I'=>⟨_,I',k a _ ea ⟨_,rfl,qcV rw r3⟩⟩
   ·cases e
  ·split at e
   ·rename_i p ky e1 e2;split at e
    ·rename_i hz;cases e;obtain⟨b,rfl,hb⟩:=qev h e2 r2;unfold qtC at e1;split at e1
     ·rename_i kk;obtain⟨a,rfl,ea⟩:=qaA r1;cases ro;split at e1
      ·rename_i el;cases e1;obtain⟨ob,_,ho,us,rfl,ru⟩:=h.at el (by simp) ea;have hl:=ru.length;have hz:_<=1000:=hz;dsimp only at hz;exact qdh hu I (.inr ⟨us,ky,b,ho,rfl,hb,by rw[hl];omega,rfl⟩) ri rv λs' I'=>⟨_,I',k a _ ea ⟨_,rfl,qcV ru r3⟩⟩
      ·rename_i el;cases e1;obtain⟨ob,_,ho,us,rfl,ru⟩:=h.at el (by simp) ea;have:us=[]:=ru;subst this;have I':=PL.Inv.asT I ho;have bB:upd H a (.dT []) b=some (.tup (ky.map kV)):=by rw[qad (λz=>by rw[z,ho] at hb;cases hb)];exact hb
       refine qdh hu I' (.inr ⟨[],ky,b,qai,rfl,bB,by show 0<sizeLine;omega,rfl⟩) ri rv λs' I'=>⟨_,I',?_⟩
       rw[qob];exact k a _ ea ⟨_,rfl,qcV (ts:=[]) (vs:=[]) rfl r3⟩
      ·cases e1
     ·cases e1
    ·cases e
   ·cases e
theorem qrh {o i value:Expr} {pos pos':Pos} {td ty tv:TE} {t:qtL} (f9:qv4 X t) (ho:PE X o td) (hi:PE X i ty) (hv:PE X value tv) (hs:swapsWith value (some (.Subscript o i pos')) pos.line X.env=pure false):
  PS X (.Assign [.Subscript o i pos'] value pos) (λD σ H=>tv σ H λv H1=>td σ H1 λx H2=>ty σ H2 λy H3=>t x y v H3 λH4=>D.nx σ H4):=by
 intro pins s σ H D I h;exact wpAny_Assign_Subscript (thn (hv pins s σ H _ I h) λr s1 ⟨v,H1,I1,rv,q1⟩=>thn (ho pins s1 σ H1 _ I1 q1) λu s2 ⟨x,H2,I2,rx,q2⟩=>thn (hi pins s2 σ H2 _ I2 q2) λiv s3 ⟨y,H3,I3,ry,q3⟩=>
  thn (f9 pins s3 σ H3 x y v u iv r _ I3 rx ry rv q3) λ_ s4 ⟨H4,I4,q4⟩=>⟨σ,H4,I4,q4⟩) hs
noncomputable def qwK(aU di dv:DS0 T):DS0 Out:=dSq dv λv=>dSq aU λo=>dSq di λi ρ μ=>match qlb μ o i v with
 |some q=>if μ.live q.1=true then .ok (.nx ρ) (μ.put q.1 q.2) else .no
 |none=>.no
theorem qsG {E:XK} {o i value:Expr} {pos pos':Pos} {aU di dv:DS0 T} (hu:X.A.units+1<cLine) (ho:PE X o (tE M E aU)) (hi:PE X i (tE M E di)) (hv:PE X value (tE M E dv)) (hs:swapsWith value (some (.Subscript o i pos')) pos.line X.env=pure false):
  PS X (.Assign [.Subscript o i pos'] value pos) (tS M E (qwK aU di dv)):=PS.weak (qrh (qt7 (M:=M) hu) ho hi hv hs) λD σ H ⟨ρ,μ,B,ev,w⟩=>by
 refine tE.of ev ((Wn.bind w).mono λt aa w1 v H1 B1 h1 l1 r1=> ?_);refine tE.of (ev.on h1 l1.le) ((Wn.bind w1).lift l1 λx af w2 u H2 B2 h2 l2 r2=> ?_);have d7:=l1.trans l2;refine tE.of ((ev.on h1 l1.le).on h2 l2.le) ((Wn.bind w2).lift d7 λy aq w3 z H3 B3 h3 l3 r3=> ?_);have d6:=d7.trans l3;have w3:Wn M E H B (KS M H B D) (match qlb aq x y t with|some q=>if aq.live q.1=true then .ok (.nx ρ) (aq.put q.1 q.2) else .no|none=>.no):=w3;split at w3
 ·rename_i q eq;split at w3
  ·rename_i lv;refine⟨aq,B3,x,y,t,q,h3,r2.mono l3.le,r3,r1.mono (l2.trans l3).le,eq,lv,λa ob ea hc=> ?_⟩;obtain⟨c0,e0,n0⟩:=Mu.live_at lv;have g:=d6.trans (qvb (H:=H3) (o:=ob) ea);exact w3 σ _ B3 (ev.on (h3.put e0 n0 ea hc) g.le) g
  ·exact w3.elim
 ·exact w3.elim
theorem qkl{E:XK}{pos:Pos}:PE X (.Dict [] [] pos) (tN M E λ_ μ=>.ok (.dk []) μ):=PE.weak qlU λσ H Q ⟨ρ,μ,B,ev,w⟩ p hp=>w p _ H B ev.hs .refl hp ⟨[],rfl,rfl⟩
end
noncomputable def gOr(g g':Mu->List T->Option Nv):Mu->List T->Option Nv:=λμ ts=>match g μ ts with
 |some n=>some n
 |none=>g' μ ts
theorem qj6{g g':Mu->List T->Option Nv}{μ:Mu}{ts:List T}{n:Nv}(h:gOr g g' μ ts=some n):g μ ts=some n\/g' μ ts=some n:=by
 unfold gOr at h;split at h
 ·rename_i q;cases h;exact .inl q
 ·exact .inr h
section
variable {M:Md}{X:Cx}
theorem qta{f:Value}{g g':Mu->List T->Option Nv}(h:qau X f (rN M g))(h':qau X f (rN M g')):qau X f (rN M (gOr g g')):=λpins s σ H xs us Q I r ⟨μ,B,ts,n,hs,rr,e,k⟩=>(qj6 e).elim (λe=>h pins s σ H xs us Q I r ⟨μ,B,ts,n,hs,rr,e,k⟩) λe=>h' pins s σ H xs us Q I r ⟨μ,B,ts,n,hs,rr,e,k⟩
theorem qrZ{i:String}{g g':Mu->List T->Option Nv}(h:MtR X i (rM M g))(h':MtR X i (rM M g')):MtR X i (rM M (gOr g g')):=λpins s σ H x xs v us Q I rx r ⟨μ,B,ts,n,hs,rr,e,k⟩=>(qj6 e).elim (λe=>h pins s σ H x xs v us Q I rx r ⟨μ,B,ts,n,hs,rr,e,k⟩) λe=>h' pins s σ H x xs v us Q I rx r ⟨μ,B,ts,n,hs,rr,e,k⟩
noncomputable def qip(μ:Mu):List T->Option Nv
 |[t]=>(duv μ t).map λkvs=>.v (.int kvs.length)
 |_=>none
theorem qp8:qau X (.builtin "len") (rN M qip):=by
 intro pins s σ H xs us Q I r ⟨μ,B,ts,n,h,rr,e,k⟩;unfold qip at e;split at e
 ·obtain⟨x,rfl,a⟩:=qcC rr;obtain⟨kvs,e1,rfl⟩:=qap e;obtain⟨p,ws,rfl,hp,rw⟩:=qfB h e1 a;obtain⟨v,rfl,rv⟩:=qdu r;cases rv;obtain⟨qs,es,ep,r1,lo,hz,_,e2,_,_⟩:=PL.dt_keys I hp;have hl:=rw.length;exact DH.call_lenR lo r1 (by omega) ⟨.int kvs.length,H,I.tok _,⟨_,by rw[e2,hl]⟩,k B _ h .refl qaL⟩
 ·cases e
noncomputable def isN(x:DH.IS):T:=.tup [.int x.1,.str x.2]
noncomputable def qj7(μ:Mu):List T->Option Nv
 |[t]=>(duv μ t).bind λkvs=>if kvs≠[]/\(kvs.all λkv=>PL.isIS kv.1)=true then some (.v (isN ((kvs.map λkv=>PL.isOf kv.1).getD (DH.bestIS (kvs.map λkv=>PL.isOf kv.1)) (0, "")))) else none
 |_=>none
theorem qg1{K:W.Frag}{B:qal}{κ:Type}: ∀{kvs:List (κ×T)} {us:List (κ×V)} {j:Nat} {k:κ} {v:V},qbd K B kvs us->us[j]? =some (k,v)->∃t,kvs[j]? =some (k,t)
 |[],us,_,_,_,r,e=>by have r:us=[]:=r;rw[r] at e;simp at e
 |(k0,t0)::kvs,_,0,k,v,r,e=>by
  obtain⟨x,r',rfl,a,b⟩:=r;have e:(k0,x)=(k,v):=by simpa using e
  cases e;exact⟨t0,rfl⟩
 |(k0,t0)::kvs,_,j+1,k,v,r,e=>by obtain⟨x,r',rfl,a,b⟩:=r;obtain⟨t,h⟩:=qg1 (j:=j) b (by simpa using e);exact⟨t,by simpa using h⟩
theorem qp6(hc:X.calm=true)(hu:X.A.units+8<cLine):qau X (.builtin "max") (rN M qj7):=by
 intro pins s σ H xs us Q I r ⟨μ,B,ts,n,h,rr,e,k⟩;unfold qj7 at e;split at e
 ·obtain⟨x,rfl,a⟩:=qcC rr;obtain⟨kvs,e1,e2⟩:=bind_some e;split at e2
  ·rename_i bH;cases e2;obtain⟨p,ws,rfl,hp,rw⟩:=qfB h e1 a;obtain⟨v,rfl,rv⟩:=qdu r;cases rv;obtain⟨qs,es,ep,r1,lo,hz,hk,h1,h2,h3⟩:=PL.dt_keys I hp;have hl:ws.length=kvs.length:=rw.length;have at_: ∀(j:Nat) (q:Addr),qs[j]? =some q->H q=some (.tup [.int ((kvs.map λkv=>PL.isOf kv.1).getD j (0, "")).1,.str ((kvs.map λkv=>PL.isOf kv.1).getD j (0, "")).2]):=λj q e=>by obtain⟨ky,v,f1,f2⟩:=h3 j q e;obtain⟨t,f3⟩:=qg1 rw f1;have:=List.all_eq_true.mp bH.2 _ (Vu f3);rw[PL.isIS_inv this] at f2;rw[List.getD_eq_getElem?_getD,List.getElem?_map,f3];exact f2
   have hh:X.A.in1.handled=none:=I.ok.hd hc;have aH:(kvs.map λkv=>PL.isOf kv.1)≠[]:=λz=>bH.1 (List.map_eq_nil_iff.mp z);have hb:=DH.bestIS_lt aH;rw[List.length_map] at hb;refine DH.call_maxD (xs:=kvs.map λkv=>PL.isOf kv.1) (qs:=qs) hh (by show X.A.units+1<cLine;omega) lo r1 hk (by rw[List.length_map,h2,hl]) aH (λj q e=> ?_) λh' tk kk=> ?_
   ·obtain⟨its,rv,pl,_⟩:=I.tuple (SqT.of (at_ j q e));cases rv with
    |cons a r=>
     obtain⟨t,rfl⟩:=a;cases r with
     |cons a r=>obtain⟨u,rfl⟩:=a;cases r;exact⟨t,u,pl⟩
   ·have e1:qs[DH.bestIS (kvs.map λkv=>PL.isOf kv.1)]? =some (qs.getD (DH.bestIS (kvs.map λkv=>PL.isOf kv.1)) 0):=by rw[List.getD_eq_getElem?_getD,List.getElem?_eq_getElem (by omega)];rfl
    obtain⟨ha,ga⟩:=h.abs (qs:=qs) λq hq=>by obtain⟨j,hj⟩:=List.mem_iff_getElem?.mp hq;exact⟨_,at_ j q hj⟩
    refine⟨.ref _,H,I.kept (t':=tk) kk,rfl,k _ _ ha ga (qcr (B:=B.abs H qs) ?_ (.cons qaL (.cons qcs .nil)))⟩;show(open Classical in if _∈qs then H _ else B _)=_;rw[if_pos (List.mem_of_getElem? e1)];exact at_ _ _ e1
  ·cases e2
 ·cases e
noncomputable def qbA(μ:Mu):List T->Option Nv
 |[.obj j]=>(match μ.l[j]? with|some (.du _)=>some (.p j (.dk []) .non)|_=>none)
 |_=>none
theorem qia:MtR X "dict.clear" (rM M qbA):=by
 intro pins s σ H x vs v us Q I rx rv ⟨μ,B,ts,n,h,r,e,k⟩;unfold qbA at e;split at e
 ·rename_i j;split at e
  ·rename_i kvs el;cases e;obtain⟨x',eq,ra⟩:=qcC r;cases eq;obtain⟨p,rfl,ea⟩:=qaA ra;obtain⟨o,_,ho,ws,rfl,rw⟩:=h.at el (by simp) ea;cases rx;cases rv;obtain⟨qs,es,ep,r1,lo,hz,_,e2,_,_⟩:=PL.dt_keys I ho;refine DH.call_clearR r1 (by omega) λh' r' sb=> ?_;have hw: ∃q,h'.get? p=some q:=let ⟨q,hq,_⟩:=r';⟨q,hq⟩
   exact⟨.non,_,qeE (t':=s.toks) (ob:=.dK []) I (by rw[ho];exact True.intro) sb hw (PL.clr_obj lo r').1,rfl,k.2 B p _ _ h .refl ea ⟨[],rfl,rfl⟩ qct⟩
  ·cases e
 ·cases e
noncomputable def qft(μ:Mu):List T->Option Nv
 |[.obj j,y,x]=>(match μ.l[j]?,qnu y with|some (.dk []),some _=>some (.p j (.du []) x)|_,_=>none)
 |_=>none
theorem qpj(hu:X.A.units+1<cLine):MtR X "dict.get" (rM M qft):=by
 intro pins s σ H x vs v us Q I rx rv ⟨μ,B,ts,n,h,r,e,k⟩;unfold qft at e;split at e
 ·rename_i j y0 x0;split at e
  ·rename_i ky el ek;cases e;obtain⟨a,b,c,eq,ra,rb,rc⟩:=qoz r;cases eq;obtain⟨p,rfl,ea⟩:=qaA ra;obtain⟨o,_,ho,ws,rfl,rw⟩:=h.at el (by simp) ea;have rw:ws=[]:=rw;subst rw;cases rx;obtain⟨u,w,rfl,ru,rw⟩:=qhR rv;obtain⟨q,rfl,hq⟩:=qev h ek rb;have I':=PL.Inv.asT I ho;have g:qhP (upd H p (.dT [])) p (.ref q) none:=.inr ⟨[],ky,q,.of qai,rfl,by rw[qad (λz=>by rw[z,ho] at hq;cases hq)];exact hq,rfl⟩;exact qnQ hu I' g ru rw λw' s3 I3 ar=>⟨_,_,I3,ar,k.2 B p _ _ h .refl ea ⟨[],rfl,rfl⟩ rc⟩
  ·cases e
 ·cases e
end
noncomputable def qs4{α:Type}(d e:DS0 α):DS0 α:=λρ μ=>match d ρ μ with|.no=>e ρ μ|r=>r
noncomputable def qb5:Mu->List T->Option Nv:=λ_ _=>none
inductive Bm where
 |append|extend|insert|pop|clear|reverse|count|index|get|dpop|dclear|setdef
noncomputable def Bm.ty:Bm->String
 |.get|.dpop|.dclear|.setdef=> "dict"
 |_=> "list"
noncomputable def Bm.nm:Bm->Str
 |.append=> "append" | .extend=> "extend" | .insert=> "insert" | .pop=> "pop" | .clear=> "clear" | .reverse=> "reverse" | .count=> "count" | .index=> "index" | .get=> "get" | .dpop=> "pop" | .dclear=> "clear" | .setdef=> "setdefault"
noncomputable def Bm.id:Bm->String
 |.append=> "list.append" | .extend=> "list.extend" | .insert=> "list.insert" | .pop=> "list.pop" | .clear=> "list.clear" | .reverse=> "list.reverse" | .count=> "list.count" | .index=> "list.index" | .get=> "dict.get" | .dpop=> "dict.pop" | .dclear=> "dict.clear" | .setdef=> "dict.setdefault"
noncomputable def Bm.g:Bm->Mu->List T->Option Nv
 |.append=>qgv|.extend=>qgu|.insert=>qb5|.pop=>qb5|.clear=>qb5|.reverse=>qb5|.count=>qb5|.index=>qb5|.get=>gOr qmp qft|.dpop=>qb5|.dclear=>gOr qde qbA|.setdef=>qb5
noncomputable def Bm.all:List Bm:=[.append,.extend,.insert,.pop,.clear,.reverse,.count,.index,.get,.dpop,.dclear,.setdef]
noncomputable def qfg(μ:Mu)(t:T):String:=if(qcb μ t).isSome=true then "list" else if(dkv μ t).isSome=true\/(duv μ t).isSome=true then "dict" else ""
noncomputable def dBM(ow:Bool)(b:Bm)(aU:DS0 T)(ds:DS0 (List T)):DS0 T:=dSq aU λo ρ μ=>if qfg μ o=b.ty then(ds ρ μ).bind λts μ'=>nvR ow (b.g μ' (o::ts)) μ' else .no
section
variable {M:Md}{E:XK}{X:Cx}{e o:Expr}{es:List Expr}{da db aU:DS0 T}{ds:DS0 (List T)}{apos cpos pos p:Pos}{ow:Bool}
theorem qsX(h:PE X e (tE M E da))(h':PE X e (tE M E db)):PE X e (tE M E (qs4 da db)):=PE.weak (PE.or h h') λσ H Q ⟨ρ,μ,B,ev,w⟩=>by
 unfold qs4 at w;cases q:da ρ μ with
 |no=>rw[q] at w;exact .inr ⟨ρ,μ,B,ev,w⟩
 |ok a m|ex a m=>rw[q] at w;exact .inl ⟨ρ,μ,B,ev,by rw[q];exact w⟩
theorem qmT{f:Value}:qau X f (rN M qb5):=λ_ _ _ _ _ _ _ _ _ ⟨_,_,_,_,_,_,e,_⟩=>nomatch e
theorem qfe{i:String}:MtR X i (rM M qb5):=λ_ _ _ _ _ _ _ _ _ _ _ _ ⟨_,_,_,_,_,_,e,_⟩=>nomatch e
theorem qcm(b:Bm):PlainAttrs b.ty/\Slot b.ty b.nm b.id/\typeOf (.builtin b.id)=pure (.type "method_descriptor"):=by
 cases b with
 |append=>exact⟨F.plainAttrs_list,F.slot_list_append,F.type_list_append⟩
 |extend=>exact⟨F.plainAttrs_list,F.slot_list_extend,F.type_list_extend⟩
 |insert=>exact⟨F.plainAttrs_list,F.slot_list_insert,F.type_list_insert⟩
 |pop=>exact⟨F.plainAttrs_list,F.slot_list_pop,F.type_list_pop⟩
 |clear=>exact⟨F.plainAttrs_list,F.slot_list_clear,F.type_list_clear⟩
 |reverse=>exact⟨F.plainAttrs_list,F.slot_list_reverse,F.type_list_reverse⟩
 |count=>exact⟨F.plainAttrs_list,F.slot_list_count,F.type_list_count⟩
 |index=>exact⟨F.plainAttrs_list,F.slot_list_index,F.type_list_index⟩
 |get=>exact⟨F.plainAttrs_dict,F.slot_dict_get,F.type_dict_get⟩
 |dpop=>exact⟨F.plainAttrs_dict,F.slot_dict_pop,F.type_dict_pop⟩
 |dclear=>exact⟨F.plainAttrs_dict,F.slot_dict_clear,F.type_dict_clear⟩
 |setdef=>exact⟨F.plainAttrs_dict,F.slot_dict_setdefault,F.type_dict_setdefault⟩
theorem qtl(hu:X.A.units+8<cLine)(hK:X.K=M.K)(b:Bm):MtR X b.id (rM M b.g):=by
 cases b with
 |append=>exact qic
 |extend=>exact qh9
 |insert|pop|clear|reverse|count|index=>exact qfe
 |get=>exact qrZ (qpk (by omega)) (qpj (by omega))
 |dpop=>exact qfe
 |dclear=>exact qrZ qib qia
 |setdef=>exact qfe
theorem qpm{μ:Mu}{H:Hp}{B:qal}(h:Hs M μ H B){b:Bm}{t:T}{v:V}(e:qfg μ t=b.ty)(r:Rep M.K B t v):tyV M.K b.ty v H:=by
 have nl:b.ty≠ "" :=by cases b<;>decide
 unfold qfg at e;split at e
 ·rename_i hs;obtain⟨ts,hs⟩:=Option.isSome_iff_exists.mp hs;obtain⟨p,vs,rfl,_,sq⟩:=qc3 h hs r;exact .inl ⟨e.symm,vs,sq⟩
 ·split at e
  ·rename_i hs
   rcases hs with hs|hs
   ·obtain⟨ts,hs⟩:=Option.isSome_iff_exists.mp hs;obtain⟨p,vs,rfl,hp,_⟩:=qht h hs r;exact .inr (.inr (.inl ⟨e.symm,.inl ⟨_,hp⟩⟩))
   ·obtain⟨ts,hs⟩:=Option.isSome_iff_exists.mp hs;obtain⟨p,vs,rfl,hp,_⟩:=qfB h hs r;exact .inr (.inr (.inl ⟨e.symm,.inr ⟨_,hp⟩⟩))
  ·exact absurd e.symm nl
theorem qkW(b:Bm)(hK:X.K=M.K){σ:St}{H:Hp}{Q:VK}(h:tE M E (dBM ow b aU ds) σ H Q):tBM X.K b.ty (rM M b.g) (tE M E aU) (tA M E ds) σ H Q:=by
 obtain⟨ρ,μ,B,ev,w⟩:=h;refine tE.of ev ((Wn.bind w).mono λx aa w1 v H1 B1 h1 g1 r1=> ?_)
 change Wn M E H B (KE M H B Q) (if qfg aa x=b.ty then(ds ρ aa).bind λts μ'=>nvR ow (b.g μ' (x::ts)) μ' else .no) at w1
 split at w1
 ·rename_i ht;rw[hK];refine⟨qpm h1 ht r1,ρ,aa,B1,ev.on h1 g1.le,(Wn.bind w1).lift g1 λts af w2 vs H2 B2 h2 g2 r2=> ?_⟩;obtain⟨c,m,q,w2⟩:=Wn.pl w2 (λc m=>qgn c m);obtain⟨n,e,kv⟩:=qgm q (KE.le w2 (g1.trans g2));exact⟨af,B2,x::ts,n,h2,.cons (r1.mono g2.le) r2,e,kv⟩
 ·exact w1.elim
theorem qvK (b:Bm) (hu:X.A.units+8<cLine) (hK:X.K=M.K) (ho:PE X o (tE M E aU)) (ha:PA X (e::es) (tA M E ds)) (aJ:attributeBase o b.nm X.env (eval o X.env)=eval o X.env)
  (cY:((backTo cpos (starEach (e::es) X.env)).all (λx=> !x.1)&&(backToKw cpos (keywordEach [] X.env)).all (λx=>x.1.isSome)&&decide ((e::es).length+([]:List Keyword).length+(if([]:List Keyword).isEmpty then 0 else 1)<30))=true)
  (ak:(apos.endLine==cpos.line)=true) (hs:starEach (e::es) X.env=(false,eval e X.env)::starEach es X.env) (a8:(backTo cpos (starEach es X.env)).any (·.1)=false):
  PE X (.Call (.Attribute o b.nm apos) (e::es) [] cpos) (tE M E (dBM ow b aU ds)):=
 PE.weak (quA (qcm b).1 (qcm b).2.1 (qcm b).2.2 (qtl hu hK b) ho ha aJ cY ak hs a8) λ_ _ _ h=>qkW b hK h
theorem qsV (b:Bm) (hu:X.A.units+8<cLine) (hK:X.K=M.K) (ho:PE X o (tE M E aU)) (aJ:attributeBase o b.nm X.env (eval o X.env)=eval o X.env) (ak:(apos.endLine==cpos.line)=true):
  PE X (.Call (.Attribute o b.nm apos) [] [] cpos) (tE M E (dBM ow b aU qnS)):=
 PE.weak (qrw (qcm b).1 (qcm b).2.1 (qcm b).2.2 (qtl hu hK b) ho aJ ak) λσ H Q h=>by refine(show tE M E aU σ H λx H1=>tyV X.K b.ty x H1/\tA M E qnS σ H1 λxs H2=>rM M b.g x xs H2 Q from qkW b hK h).imp λv H1 ⟨a,ρ,μ,B,ev,w⟩=>⟨a,w [] H1 B ev.hs .refl .nil⟩
inductive Bn where
 |len|all|any|sum|max|min|abs|lst|tup|srt|dct
noncomputable def Bn.nm:Bn->Str
 |.len=> "len" | .all=> "all" | .any=> "any" | .sum=> "sum" | .max=> "max" | .min=> "min" | .abs=> "abs" | .lst=> "list" | .tup=> "tuple" | .srt=> "sorted" | .dct=> "dict"
noncomputable def Bn.g:Bn->Mu->List T->Option Nv
 |.len=>gOr qqv qip|.all=>qvs|.any=>qvr|.sum=>qb5|.max=>gOr qss qj7|.min=>qvo|.abs=>qb5|.lst=>qpF|.tup=>qb5|.srt=>qgt|.dct=>qb5
noncomputable def Bn.list:List Bn:=[.len,.all,.any,.sum,.max,.min,.abs,.lst,.tup,.srt,.dct]
theorem qqi(b:Bn){σ:St}{H:Hp}{Q:VK}(h:tE M E (dN ow b.g ds) σ H Q):tCB (rN M b.g) (tA M E ds) σ H Q:=by obtain⟨ρ,μ,B,ev,w⟩:=h;refine⟨ρ,μ,B,ev,(Wn.bind w).mono λts aa w1 vs H1 B1 h1 g1 r1=> ?_⟩;obtain⟨c,m,q,w1⟩:=Wn.pl w1 (λc m=>qgn c m);obtain⟨n,e,kv⟩:=qgm q (KE.le w1 g1);exact⟨aa,B1,ts,n,h1,r1,e,kv⟩
theorem qm3:bootBuiltins "abs" =some (.builtin "abs"):=by decide+kernel
theorem qkU:bootBuiltins "list" =some (.type "list"):=by decide+kernel
theorem qkV:bootBuiltins "dict" =some (.type "dict"):=by decide+kernel
theorem qiy:bootBuiltins "tuple" =some (.type "tuple"):=by decide+kernel
theorem qm2:bootBuiltins "all" =some (.builtin "all"):=by decide+kernel
theorem qm1:bootBuiltins "max" =some (.builtin "max"):=by decide+kernel
theorem qm0:bootBuiltins "min" =some (.builtin "min"):=by decide+kernel
theorem qvJ (b:Bn) (hu:X.A.units+8<cLine) (hc:X.calm=true) (hK:X.K=M.K) (hg:Gl X b.nm) (hm:X.mg b.nm=none) (ha:PA X (e::es) (tA M E ds)) (he:starEach (e::es) X.env=(false,eval e X.env)::starEach es X.env) (av:(backTo pos (starEach es X.env)).any (·.1)=false):
  PE X (.Call (.Name b.nm p) (e::es) [] pos) (tE M E (dN ow b.g ds)):=by
 have hn:b.nm≠ "__name__" :=by cases b<;>decide
 have hd:(b.nm==("__debug__" :Str))=false:=by cases b<;>decide
 refine PE.weak ?_ λ_ _ _ h=>qqi b h;cases b with
 |len=>exact qaU (qta (qtd hK) qp8) hg hm PySem.boot_len ha hn hd he av
 |all=>exact qaU (qtf hc hK) hg hm qm2 ha hn hd he av
 |any=>exact qaU (qte hc hK) hg hm PL.boot_any' ha hn hd he av
 |sum=>exact qaU qmT hg hm PL.boot_sum' ha hn hd he av
 |max=>exact qaU (qta (qtc hc hK) (qp6 hc hu)) hg hm qm1 ha hn hd he av
 |min=>exact qaU (qtb hc) hg hm qm0 ha hn hd he av
 |abs=>exact qaU qmT hg hm qm3 ha hn hd he av
 |lst=>exact qcZ (qp7 hK) hg hm qkU ha hn hd he av
 |tup=>exact qcZ qmT hg hm qiy ha hn hd he av
 |srt=>exact qaU (qkv hc hK) hg hm SetL.boot_sorted ha hn hd he av
 |dct=>exact qcZ qmT hg hm qkV ha hn hd he av
end
end NV
section
set_option maxHeartbeats 1000000
namespace ZP
open PySem Builtin PySem.Spec
section
variable {prog:Program}{w:World}{A:Around}
structure Apt(z TI TO a b:Addr)(f g:List Addr):Prop where
 tiz:TI≠z
 toz:TO≠z
 az:a≠z
 bz:b≠z
 tito:TI≠TO
 tia:TI≠a
 tib:TI≠b
 toa:TO≠a
 tob:TO≠b
 ab:a≠b
 fz:z∉f
 fo:TO∉f
 fb:b∉f
 gz:z∉g
 go:TO∉g
 ga:a∉g
variable {z TI TO a b:Addr}{f g:List Addr}{n m:Nat}{P R:Nat->Value->Prop}{S U:Nat->Heap->Prop}{s:Shared}
theorem qch{it:Addr}{fp:List Addr}{n:Nat}{P:Nat->Value->Prop}{S:Nat->Heap->Prop}(D:Draws prog w A it fp n P S){i:Nat}{h h':Heap}{c:Addr}(st:S i h)(hc:c∉fp)(x:Heap.ExtBut c h h'):S i h':=
 D.frame i h h' st λq hq o e=>x q o (λz=>hc (z▸hq)) e
theorem ql1 (D:Draws prog w A a f n P S) (G:Draws prog w A b g m R U) (p:Apt z TI TO a b f g) {k:Nat} (hn:k<n) (hm:k<m) {u v:Value} {Q:Value->Shared->Prop} {E:Value->Shared->Prop} (hz:IsZip s.heap z TI TO .none) (ti:IsPair s.heap TI (.ref a) (.ref b)) (to:IsPair s.heap TO u v) (sd:S k s.heap) (sg:U k s.heap)
  (hQ: ∀h' tk x y,P k x->R k y->IsZip h' z TI TO (rawInt s.heap.objs.size)->IsPair h' TO x y->S (k+1) h'->U (k+1) h'->IsPair h' s.heap.objs.size x y->(∀c o,c∉[z,TO,a,b]->s.heap.get? c=some o->h'.get? c=some o)->Q (.ref s.heap.objs.size) { s with heap:=h',toks:=tk }):
  wpAny (model prog w) A (Builtin.«zip.__next__» ⟨[.ref z],[]⟩) (λfin s'=> ∃v,fin= .done (.ret v)/\Q v s') E s:=by
 show wpAny _ _ (field (.ref z) 2>>=_) _ _ _;refine Va (wpAny_field hz rfl (x:=.bool false) rfl ?_);show wpAny _ _ (field (.ref z) 3>>=_) _ _ _;refine Va (wpAny_field hz rfl (x:=.ref TI) rfl (Va (wpAny_seqItems ti rfl ?_)));show wpAny _ _ (SmallTypes.ownedTupleIsFree (.ref z)>>=_) _ _ _;refine Va ?_;unfold SmallTypes.ownedTupleIsFree;refine Va (wpAny_field hz rfl (x:=.none) rfl (Vb ?_));simp only[if_true];refine Va (wpAny_rule (Va (wpAny_field hz rfl (x:=.ref TO) rfl (Va (wpAny_setField_rec hz (by simp) λy1 z1 x1=> ?_)))));have z1:IsZip y1 z TI TO .ellipsis:=z1;refine Va ?_;simp only[List.zipIdx_cons,List.zipIdx_nil,List.forIn_cons,List.forIn_nil];refine Va (Va (wpAny_onRaise ?_));show wpAny _ _ (SmallTypes.nextOf (.ref a)>>=_) _ _ _;refine Va (D.item k _ _ _ hn (qch D sd p.fz x1.extBut) λx y2 t2 px iA x2=>Vb ?_);have to2:IsPair y2 TO u v:=x2.extBut _ _ p.toa (x1.extBut _ _ p.toz to);refine Va (wpAny_seqItems to2 rfl (Va (wpAny_updateSeq_pair to2 λy3 to3 x3=> ?_)));have to3:IsPair y3 TO x v:=to3;refine Va (wpAny_letGo (Vb ?_));refine Va (Va (wpAny_onRaise ?_));show wpAny _ _ (SmallTypes.nextOf (.ref b)>>=_) _ _ _;refine Va (G.item k _ _ _ hm (qch G (qch G (qch G sg p.gz x1.extBut) p.ga x2.extBut) p.go x3.extBut) λy y4 t4 py sg4 x4=>Vb ?_);have iq:IsPair y4 TO x v:=x4.extBut _ _ p.tob to3;refine Va (wpAny_seqItems iq rfl (Va (wpAny_updateSeq_pair iq λy5 fc x5=> ?_)));have fc:IsPair y5 TO x y:=fc;refine Va (wpAny_letGo (Vb (Vb ?_)));refine Va (wpAny_seqItems fc rfl (Va (wpAny_newTuple ?_)));have sz:y5.objs.size=s.heap.objs.size:=by rw[x5.1,x4.1,x3.1,x2.1,x1.1]
 have z5:IsZip y5 z TI TO .ellipsis:=x5.extBut _ _ p.toz.symm (x4.extBut _ _ p.bz.symm (x3.extBut _ _ p.toz.symm (x2.extBut _ _ p.az.symm z1)));have sd5:S (k+1) y5:=qch D (qch D (qch D iA p.fo x3.extBut) p.fb x4.extBut) p.fo x5.extBut;have sg5:U (k+1) y5:=qch G sg4 p.go x5.extBut;have zl:z<y5.objs.size:=Vi z5;show wpAny _ _ (SmallTypes.ownedTupleHandOut (.ref z) (.ref y5.objs.size)>>=_) _ _ _;refine Va ?_;unfold SmallTypes.ownedTupleHandOut;have z6:IsZip (y5.push { cls:=.type "tuple",data:=.seq #[x,y] }) z TI TO .ellipsis:=Vg _ z5;refine Va (wpAny_setField_rec z6 (by simp) λy7 z7 x7=> ?_);have z7:IsZip y7 z TI TO (rawInt y5.objs.size):=z7;refine wpAny_setField_rec z7 (by simp) λy8 z8 x8=> ?_;have z8:IsZip y8 z TI TO (rawInt y5.objs.size):=z8;have up: ∀c o,c≠z->y5.get? c=some o->y8.get? c=some o:=λc o n e=>x8.extBut _ _ n (x7.extBut _ _ n (Vg _ e));have nw:IsPair y8 y5.objs.size x y:=x8.extBut _ _ (Nat.ne_of_gt zl) (x7.extBut _ _ (Nat.ne_of_gt zl) (Vh _ rfl));rw[sz] at z8 nw;refine Vb ⟨_,rfl,?_⟩;show Q (.ref y5.objs.size) _;rw[sz];refine hQ y8 t4 x y px py z8 (up _ _ p.toz fc) (D.frame _ _ _ sd5 λq hq o e=>up q o (λi=>p.fz (i▸hq)) e) (G.frame _ _ _ sg5 λq hq o e=>up q o (λi=>p.gz (i▸hq)) e) nw λc o hc e=> ?_;have c1:c≠z:=λi=>hc (by simp[i]);have c2:c≠TO:=λi=>hc (by simp[i]);have c3:c≠a:=λi=>hc (by simp[i]);have c4:c≠b:=λi=>hc (by simp[i]);exact up c o c1 (x5.extBut _ _ c2 (x4.extBut _ _ c4 (x3.extBut _ _ c2 (x2.extBut _ _ c3 (x1.extBut _ _ c1 e)))))
theorem qph (D:Draws prog w A a f n P S) (G:Draws prog w A b g m R U) (p:Apt z TI TO a b f g) {u v:Value} {Q:Fin->Shared->Prop} {E:Value->Shared->Prop} (hz:IsZip s.heap z TI TO .none) (ti:IsPair s.heap TI (.ref a) (.ref b)) (to:IsPair s.heap TO u v) (sd:S (min n m) s.heap) (sg:U (min n m) s.heap)
  (hE: ∀h' tk e,(∀c o,c∉[z,TO,a,b]->s.heap.get? c=some o->h'.get? c=some o)->(∃o,h'.get? e=some o/\o.cls= .type "StopIteration")->E (.ref e) { s with heap:=h',toks:=tk }):wpAny (model prog w) A (Builtin.«zip.__next__» ⟨[.ref z],[]⟩) Q E s:=by
 show wpAny _ _ (field (.ref z) 2>>=_) _ _ _;refine Va (wpAny_field hz rfl (x:=.bool false) rfl ?_);show wpAny _ _ (field (.ref z) 3>>=_) _ _ _;refine Va (wpAny_field hz rfl (x:=.ref TI) rfl (Va (wpAny_seqItems ti rfl ?_)));show wpAny _ _ (SmallTypes.ownedTupleIsFree (.ref z)>>=_) _ _ _;refine Va ?_;unfold SmallTypes.ownedTupleIsFree;refine Va (wpAny_field hz rfl (x:=.none) rfl (Vb ?_));simp only[if_true];refine Va (wpAny_rule (Va (wpAny_field hz rfl (x:=.ref TO) rfl (Va (wpAny_setField_rec hz (by simp) λy1 z1 x1=> ?_)))));have z1:IsZip y1 z TI TO .ellipsis:=z1;refine Va ?_;simp only[List.zipIdx_cons,List.zipIdx_nil,List.forIn_cons,List.forIn_nil];refine Va (Va (wpAny_onRaise ?_));show wpAny _ _ (SmallTypes.nextOf (.ref a)>>=_) _ _ _;have ne: ∀{h:Heap} {e:Addr} {f0:Value},IsZip h z TI TO f0->(∃o,h.get? e=some o/\o.cls= .type "StopIteration")->e≠z:=λ{h e f0} hz ⟨o,ho,hc⟩ q=>by rw[q] at ho;rw[show h.get? z=_ from hz] at ho;cases ho;simp at hc
 by_cases c:n<=m
 ·rw[Nat.min_eq_left c] at sd;refine Va (D.done _ _ _ (qch D sd p.fz x1.extBut) λy2 e x2 he=> ?_);have z2:IsZip y2 z TI TO .ellipsis:=x2 _ _ p.az.symm z1;have nz:=ne z2 he;obtain⟨o,ho,hc⟩:=he;refine wpAny_setField_rec z2 (by simp) λy3 _ x3=>hE y3 _ e (λq o hq i=> ?_) ⟨o,x3.extBut _ _ nz ho,hc⟩;have q1:q≠z:=λi=>hq (by simp[i]);have q3:q≠a:=λi=>hq (by simp[i]);exact x3.extBut _ _ q1 (x2 _ _ q3 (x1.extBut _ _ q1 i))
 ·rw[Nat.min_eq_right (Nat.le_of_not_le c)] at sd sg;refine Va (D.item m _ _ _ (by omega) (qch D sd p.fz x1.extBut) λx y2 t2 px iA x2=>Vb ?_);have to2:IsPair y2 TO u v:=x2.extBut _ _ p.toa (x1.extBut _ _ p.toz to);refine Va (wpAny_seqItems to2 rfl (Va (wpAny_updateSeq_pair to2 λy3 to3 x3=> ?_)));refine Va (wpAny_letGo (Vb ?_));refine Va (Va (wpAny_onRaise ?_));show wpAny _ _ (SmallTypes.nextOf (.ref b)>>=_) _ _ _;refine Va (G.done _ _ _ (qch G (qch G (qch G sg p.gz x1.extBut) p.ga x2.extBut) p.go x3.extBut) λy4 e x4 he=> ?_);have z4:IsZip y4 z TI TO .ellipsis:=x4 _ _ p.bz.symm (x3.extBut _ _ p.toz.symm (x2.extBut _ _ p.az.symm z1));have nz:=ne z4 he;obtain⟨o,ho,hc⟩:=he;refine wpAny_setField_rec z4 (by simp) λy5 _ x5=>hE y5 _ e (λq o hq i=> ?_) ⟨o,x5.extBut _ _ nz ho,hc⟩;have q1:q≠z:=λi=>hq (by simp[i]);have q2:q≠TO:=λi=>hq (by simp[i]);have q3:q≠a:=λi=>hq (by simp[i]);have q4:q≠b:=λi=>hq (by simp[i]);exact x5.extBut _ _ q1 (x4 _ _ q4 (x3.extBut _ _ q2 (x2.extBut _ _ q3 (x1.extBut _ _ q1 i))))
end
end ZP
end
section
set_option maxHeartbeats 1000000
namespace ZP
open PySem Builtin PySem.Spec L2
noncomputable def Sq(K:W.Frag)(t:Bool)(H:Hp)(l:Addr)(xs:List V):Prop:=match t with|true=>SqL K H l xs|false=>SqT K H l xs
noncomputable def qna(t:Bool)(h:Heap)(it l:Addr)(k:Nat):Prop:=match t with|true=>h.IsListIter it l k|false=>h.IsTupleIter it l k
noncomputable def qiF(t:Bool)(h:Heap)(l:Addr)(xs:Array Value):Prop:=match t with|true=>h.IsList l xs|false=>h.IsTuple l xs
theorem qna.at_{t:Bool}{h h':Heap}{it l:Addr}{k:Nat}(x:qna t h it l k)(e: ∀o,h.get? it=some o->h'.get? it=some o):qna t h' it l k:=by
 cases t with
 |true=>exact Heap.IsListIter.at x e
 |false=>obtain⟨o,ho,r⟩:=x;exact⟨o,e o ho,r⟩
theorem qna.obj{t:Bool}{h:Heap}{it l:Addr}{k:Nat}(x:qna t h it l k): ∃o,h.get? it=some o/\∀v,o.data≠.cell v:=by
 cases t with
 |true|false=>obtain⟨o,ho,_,d⟩:=x;exact⟨o,ho,λv q=>by rw[d] at q;cases q⟩
theorem qmz{prog:Program}{w:World}{A:Around}(hh:A.handled=none)(t:Bool)(it l:Addr)(aH:l≠it)(items:Array Value):Draws prog w A it [it,l] items.size (λi v=>items[i]? =some v) (λi h=>qna t h it l i/\qiF t h l items):=by
 cases t with
 |true=>exact Draws.list hh it l aH items
 |false=>exact TM.draws_tup hh it l aH items
theorem qh0{X:Cx}{pins:List (Addr×Obj)}{σ:St}{H:Hp}{s:Shared}{t:Bool}{l:Addr}{xs:List V}(I:L2.Inv X pins σ H s)(h:Sq X.K t H l xs): ∃its:List Value,qat xs its/\qiF t s.heap l its.toArray/\xs.length<=sizeLine:=by
 cases t with
 |true=>obtain⟨its,r,p,z⟩:=I.list h;exact⟨its,r,p.isList,z⟩
 |false=>obtain⟨its,r,p,z⟩:=I.tuple h;exact⟨its,r,p,z⟩
theorem qnj{X:Cx}{pins:List (Addr×Obj)}{σ:St}{H:Hp}{s:Shared}{t:Bool}{l:Addr}{xs ys:List V}(I:L2.Inv X pins σ H s)(h:Sq X.K t H l xs)(h':Sq X.K t H l ys):xs=ys:=by
 cases t with
 |true=>exact I.list_inj h h'
 |false=>exact I.tuple_inj h h'
theorem qiF.lt{t:Bool}{h:Heap}{l:Addr}{xs:Array Value}(x:qiF t h l xs):l<h.objs.size:=by
 cases t with
 |true|false=>obtain⟨o,ho,_⟩:=x;exact Vi ho
noncomputable def Itx(K:W.Frag)(t u:Bool)(l m:Addr):It:=
 ⟨λi H=> ∃xs ys,Sq K t H l xs/\Sq K u H m ys/\i<xs.length/\i<ys.length,
   λi H v H'=> ∃T x y,v= .ref T/\H T=none/\H'=upd H T (.tup [x,y])/\(∀xs,Sq K t H l xs->xs[i]? =some x)/\∀ys,Sq K u H m ys->ys[i]? =some y,
   λi H=> ∃xs ys,Sq K t H l xs/\Sq K u H m ys/\i=min xs.length ys.length⟩
noncomputable def ZAt(t u:Bool)(z TI TO a b l m:Addr)(i:Nat)(h:Heap):Prop:=IsZip h z TI TO .none/\IsPair h TI (.ref a) (.ref b)/\(∃x y,IsPair h TO x y)/\qna t h a l i/\qna u h b m i
structure Far(z TI TO a b l m:Addr):Prop where
 p:Apt z TI TO a b [a,l] [b,m]
 la:l≠a
 mb:m≠b
theorem qvy{P:Addr->Prop}{z TI TO a b:Addr}(h1:P z)(h2:P TI)(h3:P TO)(h4:P a)(h5:P b): ∀c∈[z,TI,TO,a,b],P c:=λc hc=>by
 have hc:c=z\/c=TI\/c=TO\/c=a\/c=b:=by simpa using hc
 rcases hc with rfl|rfl|rfl|rfl|rfl<;>assumption
theorem qiU{P:Program}{w:World}{K:W.Frag}{elts:List Expr}{kk:Nat}{pos:Pos}{t u:Bool}{z TI TO a b l m:Addr}(D:Far z TI TO a b l m):qqy P w K (.Tuple elts kk pos) (Itx K t u l m) [z,TI,TO,a,b] z (ZAt t u z TI TO a b l m) where
 mem:=by simp
 obj:=λi h ⟨q1,q2,⟨x,y,q3⟩,q4,q5⟩=>qvy ⟨_,q1,λv q=>by have q':Data.fields _=Data.cell v:=q;cases q'⟩ ⟨_,q2,λv q=>by have q':Data.seq _ _=Data.cell v:=q;cases q'⟩ ⟨_,q3,λv q=>by have q':Data.seq _ _=Data.cell v:=q;cases q'⟩ q4.obj q5.obj
 keep:=λi h h' ⟨q1,q2,⟨x,y,q3⟩,q4,q5⟩ k=>⟨k z (by simp) _ q1,k TI (by simp) _ q2,⟨x,y,k TO (by simp) _ q3⟩,q4.at_ λo e=>k a (by simp) o e,q5.at_ λo e=>k b (by simp) o e⟩
 item:=by
  intro X hP hw hK hc i pins s σ H E I hf ⟨q1,q2,⟨x0,y0,q3⟩,q4,q5⟩ ⟨xs,ys,h1,h2,g1,g2⟩;subst hP hw hK;obtain⟨is,r1,p1,_⟩:=qh0 I h1;obtain⟨js,r2,p2,_⟩:=qh0 I h2;have e1:=r1.length;have e2:=r2.length;have hh:=I.ok.hd hc;have hT:s.TypeIs (.ref z) "zip" :=⟨_,q1,rfl⟩
  unfold pyNext;refine Va (wpAny_attempt (wpAny_callSpecial?_slot (name:=Str.ofString "__next__") hT F.slot_zip_next (wpAny_call_entry F.slot_zip_next hT F.entry_zip_next (ql1 (qmz (A:=X.A.in1) hh t a l D.la is.toArray) (qmz (A:=X.A.in1) hh u b m D.mb js.toArray) D.p (k:=i) (by simp;omega) (by simp;omega) q1 q2 q3 ⟨q4,p1⟩ ⟨q5,p2⟩ λh' tk x y px py z' to' s' g' nw kp=>Vb ?_) (F.args_zip_next_1 _))));have lt: ∀{c:Addr} {o:Obj},s.heap.get? c=some o->s.heap.objs.size≠c:=λe=>Nat.ne_of_gt (Vi e);have ti':IsPair h' TI (.ref a) (.ref b):=kp _ _ (by simp[D.p.tiz,D.p.tito,D.p.tia,D.p.tib]) q2;refine⟨_,rfl,wpAny_letOwnedTupleGo_zip z' λaY z2 x2=> ?_⟩;have iG:xs[i]? =some xs[i]:=Vz g1;have iF:ys[i]? =some ys[i]:=Vz g2;obtain⟨w1,i3,rw1⟩:=r1.get iG;obtain⟨w2,iZ,rw2⟩:=r2.get iF;have eu1:is[i]? =some x:=by simpa using px
  have eu2:js[i]? =some y:=by simpa using py
  rw[eu1] at i3;cases i3;rw[eu2] at iZ;cases iZ;obtain⟨oa,ha,_⟩:=q4.obj;obtain⟨ob,hb,_⟩:=q5.obj;have nw2:IsPair aY s.heap.objs.size x y:=x2.extBut _ _ (lt q1) nw;have aL: ∀c∈[z,TO,a,b],qgK X pins H c:=λc hc=>hf c (by
   have hc:c=z\/c=TO\/c=a\/c=b:=by simpa using hc
   rcases hc with rfl|rfl|rfl|rfl<;>simp)
  have I1:L2.Inv X pins σ (upd H s.heap.objs.size (.tup [xs[i],ys[i]])) { s with heap:=aY,toks:=tk }:=
   I.turnT aL (λc o hc e=>x2.extBut _ _ (λq=>hc (by simp[q])) (kp c o hc e)) (Vm _) ⟨by show 2<=sizeLine;decide,[x,y],.cons rw1 (.cons rw2 .nil),_,nw2,rfl,_,rfl⟩
  refine⟨.ref s.heap.objs.size,_,I1,rfl,⟨_,_,_,rfl,I.hok.fresh (Vm _),rfl,λxs' b7=>by rw[qnj I b7 h1];exact iG,λig hy'=>by rw[qnj I hy' h2];exact iF⟩,⟨z2,x2.extBut _ _ D.p.tiz ti',⟨x,y,x2.extBut _ _ D.p.toz to'⟩,s'.1.at_ λo e=>x2.extBut _ _ D.p.az e,g'.1.at_ λo e=>x2.extBut _ _ D.p.bz e⟩,λc hc=> ?_⟩;rw[qad (qvy (P:=λc=>c≠s.heap.objs.size) (lt q1).symm (lt q2).symm (lt q3).symm (lt ha).symm (lt hb).symm c hc)];exact(hf c hc).1
 done:=by
  intro X hP hw hK hc i pins s σ H E I hf ⟨q1,q2,⟨x0,y0,q3⟩,q4,q5⟩ ⟨xs,ys,h1,h2,g1⟩;subst hP hw hK;obtain⟨is,r1,p1,_⟩:=qh0 I h1;obtain⟨js,r2,p2,_⟩:=qh0 I h2;have e1:=r1.length;have e2:=r2.length;have hh:=I.ok.hd hc;have hT:s.TypeIs (.ref z) "zip" :=⟨_,q1,rfl⟩
  have en:i=min is.toArray.size js.toArray.size:=by simp;omega
  subst en;have aL: ∀c∈[z,TO,a,b],qgK X pins H c:=λc hc=>hf c (by
   have hc:c=z\/c=TO\/c=a\/c=b:=by simpa using hc
   rcases hc with rfl|rfl|rfl|rfl<;>simp)
  unfold pyNext;refine Va (wpAny_attempt (wpAny_callSpecial?_slot (name:=Str.ofString "__next__") hT F.slot_zip_next (wpAny_call_entry F.slot_zip_next hT F.entry_zip_next (qph (qmz (A:=X.A.in1) hh t a l D.la is.toArray) (qmz (A:=X.A.in1) hh u b m D.mb js.toArray) D.p q1 q2 q3 ⟨q4,p1⟩ ⟨q5,p2⟩ λh' tk e kp he=> ?_) (F.args_zip_next_1 _))));obtain⟨o,ho,cB⟩:=he;exact Va (wpAny_isInstance (T:= "StopIteration") (b:=true) ⟨o,ho,cB⟩ isSubtype_stop (Vb ⟨rfl,I.turnL aL kp⟩))
 self:=λA i s Q E st h=>wpAny_pyIter_zip st.1 h
end ZP
end
section
set_option maxHeartbeats 1000000
namespace ZP
open PySem Builtin PySem.Spec L2
noncomputable def nmI:Bool->String
 |true=> "list_iterator"
 |false=> "tuple_iterator"
abbrev obI(t:Bool)(l:Addr):Obj:={ cls:=.type (nmI t),data:=.fields #[.ref l,.int 0 0] }
abbrev g1(h:Heap)(t:Bool)(l:Addr):Heap:=h.push (obI t l)
abbrev g2(h:Heap)(t u:Bool)(l m:Addr):Heap:=(g1 h t l).push (obI u m)
abbrev g3(h:Heap)(t u:Bool)(l m:Addr):Heap:=(g2 h t u l m).push { cls:=.type "tuple",data:=.seq #[.ref h.objs.size,.ref (g1 h t l).objs.size] }
abbrev g4(h:Heap)(t u:Bool)(l m:Addr):Heap:=(g3 h t u l m).push { cls:=.type "tuple",data:=.seq #[.none,.none] }
abbrev g5(h:Heap)(t u:Bool)(l m:Addr):Heap:=(g4 h t u l m).push { cls:=.type "zip",data:=.fields #[.none,.bool false,.bool false,.ref (g2 h t u l m).objs.size,.ref (g3 h t u l m).objs.size] }
theorem qiF.psh{t:Bool}{h:Heap}{l:Addr}{xs:Array Value}(x:qiF t h l xs)(o:Obj):qiF t (h.push o) l xs:=by
 cases t with
 |true=>exact Heap.IsList.push x o
 |false=>obtain⟨q,hq,r⟩:=x;exact⟨q,Vg _ hq,r⟩
theorem made(t u:Bool)(l m:Addr)(xs ys:Array Value):Meets (Builtin.«zip.__new__» ⟨[.type "zip",.ref l,.ref m],[]⟩) (λ_ R s=>qiF t s.heap l xs/\qiF u s.heap m ys/\R (.ok (.ret (.ref (g4 s.heap t u l m).objs.size))) { s with heap:=g5 s.heap t u l m }):=
 .of_wp λprog w A R s h=>by
  obtain⟨hp,gg,d,tk,os⟩:=s;obtain⟨a1,a2,h⟩:=h;have hsub:=sub_zip;have a3:qiF u (hp.push (obI t l)) m ys:=a2.psh _;cases t with
  |true=>
   have b1:Heap.IsList (Shared.heap ⟨hp,gg,d,tk,os⟩) l xs:=a1;cases u with
   |true=>
    have b2:Heap.IsList (Shared.heap ⟨hp.push { cls:=.type "list_iterator",data:=.fields #[.ref l,.int 0 0] },gg,d,tk,os⟩) m ys:=a3
    wp_walk using Vf b1,Vf b2
    exact⟨_,rfl,h⟩
   |false=>
    have b2:Heap.IsTuple (Shared.heap ⟨hp.push { cls:=.type "list_iterator",data:=.fields #[.ref l,.int 0 0] },gg,d,tk,os⟩) m ys:=a3
    wp_walk using Vf b1,wpAny_pyIter_tuple b2
    exact⟨_,rfl,h⟩
  |false=>
   have b1:Heap.IsTuple (Shared.heap ⟨hp,gg,d,tk,os⟩) l xs:=a1;cases u with
   |true=>
    have b2:Heap.IsList (Shared.heap ⟨hp.push { cls:=.type "tuple_iterator",data:=.fields #[.ref l,.int 0 0] },gg,d,tk,os⟩) m ys:=a3
    wp_walk using wpAny_pyIter_tuple b1,Vf b2
    exact⟨_,rfl,h⟩
   |false=>
    have b2:Heap.IsTuple (Shared.heap ⟨hp.push { cls:=.type "tuple_iterator",data:=.fields #[.ref l,.int 0 0] },gg,d,tk,os⟩) m ys:=a3
    wp_walk using wpAny_pyIter_tuple b1,wpAny_pyIter_tuple b2
    exact⟨_,rfl,h⟩
section
variable {prog:Program}{w:World}{A:Around}{E:Value->Shared->Prop}{s:Shared}
theorem qhr{t:Bool}{h:Heap}{a l:Addr}(e:h.get? a=some (obI t l)):qna t h a l 0:=by
 cases t with
 |true|false=>exact⟨_,e,rfl,rfl⟩
theorem qkP {t u:Bool} {l m:Addr} {xs ys:Array Value} {Q:Value->Shared->Prop} (a1:qiF t s.heap l xs) (a2:qiF u s.heap m ys)
  (h: ∀h',ZAt t u (s.heap.objs.size+4) (s.heap.objs.size+2) (s.heap.objs.size+3) s.heap.objs.size (s.heap.objs.size+1) l m 0 h'->(∀c o,s.heap.get? c=some o->h'.get? c=some o)->Q (.ref (s.heap.objs.size+4)) { s with heap:=h' }):wpAny (model prog w) A (call (.type "zip") [.ref l,.ref m]) Q E s:=by
 refine callType_new F.called_zip (by decide) (F.typeCall_zip_2 _ _) (F.newCall_zip_2 _ _) (λobj=>F.args_object_init_3 obj _ _) F.entry_zip_new (made t u l m xs ys) ⟨a1,a2,?_⟩;have z1:(g1 s.heap t l).objs.size=s.heap.objs.size+1:=Heap.size_push ..;have z2:(g2 s.heap t u l m).objs.size=s.heap.objs.size+2:=by rw[Heap.size_push,z1]
 have z3:(g3 s.heap t u l m).objs.size=s.heap.objs.size+3:=by rw[Heap.size_push,z2]
 have z4:(g4 s.heap t u l m).objs.size=s.heap.objs.size+4:=by rw[Heap.size_push,z3]
 have up: ∀{h:Heap} {c:Addr} {o q:Obj},h.get? c=some o->(h.push q).get? c=some o:=λe=>Vg _ e;have e5:(g5 s.heap t u l m).get? (g4 s.heap t u l m).objs.size=some _:=Vh _ rfl;have e4:(g5 s.heap t u l m).get? (g3 s.heap t u l m).objs.size=some _:=up (Vh _ rfl);have e3:(g5 s.heap t u l m).get? (g2 s.heap t u l m).objs.size=some _:=up (up (Vh _ rfl));have e2:(g5 s.heap t u l m).get? (g1 s.heap t l).objs.size=some (obI u m):=up (up (up (Vh _ rfl)));have e1:(g5 s.heap t u l m).get? s.heap.objs.size=some (obI t l):=up (up (up (up (Vh _ rfl))));show _/\_;rw[z2,z3,z4] at e5;rw[z1,z2] at e3;rw[z3] at e4;rw[z1] at e2;rw[z4];exact⟨⟨_,e5,rfl⟩,h _ ⟨e5,e3,⟨_,_,e4⟩,qhr e1,qhr e2⟩ λc o x=>up (up (up (up (up x))))⟩
end
theorem far{n l m:Addr}(hl:l<n)(hm:m<n):Far (n+4) (n+2) (n+3) n (n+1) l m:=by
 have e: ∀{i j:Nat},i≠j->(show Addr from n+i)≠n+j:=λ{i j} h q=>h (Nat.add_left_cancel q);have ol: ∀i:Nat,(show Addr from n+i)≠l:=λi q=>Nat.not_le_of_lt hl (by rw[<-q];exact Nat.le_add_right _ _);have om: ∀i:Nat,(show Addr from n+i)≠m:=λi q=>Nat.not_le_of_lt hm (by rw[<-q];exact Nat.le_add_right _ _);have nn: ∀{c x y:Addr},c≠x->c≠y->c∉[x,y]:=λh h' q=>by simp at q;exact q.elim h h'
 exact⟨⟨e (i:=2) (j:=4) (by decide),e (i:=3) (j:=4) (by decide),e (i:=0) (j:=4) (by decide),e (i:=1) (j:=4) (by decide),e (i:=2) (j:=3) (by decide),e (i:=2) (j:=0) (by decide),e (i:=2) (j:=1) (by decide),e (i:=3) (j:=0) (by decide),e (i:=3) (j:=1) (by decide),e (i:=0) (j:=1) (by decide),
  nn (e (i:=4) (j:=0) (by decide)) (ol 4),nn (e (i:=3) (j:=0) (by decide)) (ol 3),nn (e (i:=1) (j:=0) (by decide)) (ol 1),nn (e (i:=4) (j:=1) (by decide)) (om 4),nn (e (i:=3) (j:=1) (by decide)) (om 3),nn (e (i:=0) (j:=1) (by decide)) (om 0)⟩,(ol 0).symm,(om 1).symm⟩
theorem pi_zipX {X:Cx} {elts:List Expr} {kk:Nat} {cH:Pos} {a b:Expr} {ta:TA} {p pos:Pos} (hg:Gl X "zip") (hm:X.mg "zip" =none) (ha:PA X [a,b] ta) (hs:starEach [a,b] X.env=(false,eval a X.env)::starEach [b] X.env) (av:(backTo pos (starEach [b] X.env)).any (·.1)=false):
  PI X (.Tuple elts kk cH) (.Call (.Name "zip" p) [a,b] [] pos) (λσ H R=>ta σ H λvs H1=> ∃t u l1 l2 xs ys,vs=[.ref l1,.ref l2]/\Sq X.K t H1 l1 xs/\Sq X.K u H1 l2 ys/\(xs.length<=sizeLine->ys.length<=sizeLine->R (Itx X.K t u l1 l2) H1)):=by intro pins s σ H R I h;refine Ve (qdJ I hg hm PyProof.Rows.boot_zip ?_);refine PyProof.Rows.callWith_type1 (thn (ha pos pins s σ H _ I h) λus s1 hq=> ?_) hs av;obtain⟨vs,H1,I1,r1,t,u,l1,l2,xs,ys,e,h1,h2,q⟩:=hq;subst e;obtain⟨u1,u2,rfl,ru1,ru2⟩:=qhR r1;cases ru1;cases ru2;obtain⟨is,_,p1,z1⟩:=qh0 I1 h1;obtain⟨js,_,p2,z2⟩:=qh0 I1 h2;refine qkP p1 p2 λh' za kp=>wpAny_pyIter_zip za.1 ?_;refine⟨_,_,_,Itx X.K t u l1 l2,H1,rfl,I1.kept (t':=s1.toks) kp,qiU (far p1.lt p2.lt),za,λc hc=> ?_,q z1 z2⟩;have hle:s1.heap.objs.size<=c:=qvy (P:=λc=>s1.heap.objs.size<=c) (Nat.le_add_right _ _) (Nat.le_add_right _ _) (Nat.le_add_right _ _) (Vm _) (Nat.le_add_right _ _) c hc;exact I1.fpOk hle (I1.hok.fresh hle)
end ZP
end
namespace NV
open PySem L2 SR SetL
noncomputable def tyN(μ:Mu):T->Option String
 |.non=>some "NoneType" | .bl _=>some "bool" | .int _=>some "int" | .str _=>some "str" | .tup _=>some "tuple" | .lst _=>some "list" | .dct _=>some "dict"
 |.obj k=>(match μ.l[k]? with|some (.ls _)=>some "list" | some (.dk _)=>some "dict" | some (.du _)=>some "dict" | _=>none)
 |_=>none
noncomputable def qjU(N m:String):Bool:=m==N||(N== "int" &&m== "bool")
noncomputable def qdd(N:String)(t:T)(μ:Mu):R T:=match tyN μ t with
 |some m=>.ok (.bl (qjU N m)) μ
 |none=>.no
noncomputable def qs0(N:String)(da:DS0 T):DS0 T:=dU (qdd N) da
theorem qr4 (K:W.Frag) {N m:String} (hN:N∈["int", "bool", "str", "tuple", "list"]) (hm:m∈["NoneType", "bool", "int", "str", "tuple", "list", "dict"]):W.kitOne K (.type m) (.type N)=some (qjU N m):=by
 simp only[List.mem_cons,List.not_mem_nil,or_false] at hN hm
 rcases hN with rfl|rfl|rfl|rfl|rfl<;>rcases hm with rfl|rfl|rfl|rfl|rfl|rfl|rfl<;>rfl
section
variable {M:Md}{E:XK}{X:Cx}{e a:Expr}{da:DS0 T}{p p1 p2 p3 pos:Pos}
theorem qqE{μ:Mu}{H:Hp}{B:qal}(h:Hs M μ H B){t:T}{v:V}{m:String}(e:tyN μ t=some m)(r:Rep M.K B t v):qgJ M.K H v (.type m)/\m∈["NoneType", "bool", "int", "str", "tuple", "list", "dict"]:=by
 unfold tyN at e;split at e
 ·cases e;rw[qcT r];exact⟨.non,by simp⟩
 ·cases e;rw[qbI r];exact⟨.bl _,by simp⟩
 ·cases e;rw[qaf r];exact⟨.int _,by simp⟩
 ·cases e;rw[qaz r];exact⟨.str _,by simp⟩
 ·cases e;obtain⟨p,vs,rfl,hp,_⟩:=qaw r;exact⟨.tup (h.bh _ _ hp),by simp⟩
 ·cases e;obtain⟨p,vs,rfl,hp,_⟩:=qaB r;exact⟨.lst (h.bh _ _ hp),by simp⟩
 ·cases e;obtain⟨p,vs,rfl,hp,_⟩:=qga r;exact⟨.dK (h.bh _ _ hp),by simp⟩
 ·obtain⟨p,rfl,ea⟩:=qaA r;split at e
  ·rename_i el;cases e;obtain⟨o,_,ho,vs,rfl,_⟩:=h.at el (by simp) ea;exact⟨.lst ho,by simp⟩
  ·rename_i el;cases e;obtain⟨o,_,ho,vs,rfl,_⟩:=h.at el (by simp) ea;exact⟨.dK ho,by simp⟩
  ·rename_i el;cases e;obtain⟨o,_,ho,vs,rfl,_⟩:=h.at el (by simp) ea;exact⟨.dT ho,by simp⟩
  ·cases e
 ·cases e
theorem qp0 {N:String} {x:Str} (hN:N∈["int", "bool", "str", "tuple", "list"]) (hx:x=Str.ofString N) (hK:X.K=M.K) (hg:Gl X "isinstance") (hm:X.mg "isinstance" =none) (hg2:Gl X x) (gy:X.mg x=none) (he:PE X e (tE M E da))
  (hs:starEach [e,.Name x p2] X.env=(false,eval e X.env)::starEach [.Name x p2] X.env) (bG:starEach [.Name x p2] X.env=(false,eval (.Name x p2) X.env)::starEach [] X.env) (av:(backTo pos (starEach [.Name x p2] X.env)).any (·.1)=false):
  PE X (.Call (.Name "isinstance" p) [e,.Name x p2] [] pos) (tE M E (qs0 N da)):=by
 have bt:bootBuiltins x=some (.type N)/\x≠ "__name__" /\(x==("__debug__" :Str))=false:=by
  subst hx;simp only[List.mem_cons,List.not_mem_nil,or_false] at hN
  rcases hN with rfl|rfl|rfl|rfl|rfl<;>exact⟨by decide+kernel,by decide,by decide⟩
 refine PE.weak (qaU (r:=λxs H Q=> ∃x t T b,xs=[x,.ty T]/\qgJ X.K H x t/\W.kitOne X.K t (.type T)=some b/\Q (.bl b) H) qgG hg hm (by decide+kernel) (qeo he (qeo (qo0 (v:=.ty N) hg2 gy bt.1 rfl bt.2.1 bt.2.2) qjt bG) hs) (by decide) (by decide) hs av) λσ H Q ⟨ρ,μ,B,ev,w⟩=> ?_;refine tE.of ev ((Wn.bind w).mono λt aa w1 v H1 B1 h1 g1 r1=> ?_);have w1:Wn M E H B (KE M H B Q) (qdd N t aa):=w1;unfold qdd at w1;split at w1
 ·rename_i m em;obtain⟨ty,hm⟩:=qqE h1 em r1;rw[hK];exact⟨v,_,N,_,rfl,ty,qr4 M.K hN hm,w1 _ H1 B1 h1 g1 qa4⟩
 ·exact w1.elim
noncomputable def qwE(μ:Mu):T->Option Nv:=λt=>(qcb μ t).bind λts=>if ts.length<64 then(match qk2 ts with
 |some ss=>some (.l ((qqR RH.ltS (dd ss)).map T.str))
 |none=>(qb9 ts).map λss=>.l ((qqR (λa b=>decide (a<b)) (dd ss)).map T.int)) else none
noncomputable def qj4(μ:Mu):T->Option Nv:=λt=>(qcb μ t).bind λts=>if ts.length<64 then(match qk2 ts with
 |some ss=>some (.v (.int (dd ss).length))
 |none=>(qb9 ts).map λss=>.v (.int (dd ss).length)) else none
noncomputable def dNu(ow:Bool)(g:Mu->T->Option Nv)(da:DS0 T):DS0 T:=dU (λt μ=>nvR ow (g μ t) μ) da
end
noncomputable def qiC(xs ys:List T):List T:=(xs.zip ys).map λp=>.tup [p.1,p.2]
noncomputable def sq2:T->Option (Bool×List T)
 |.lst xs=>some (true,xs)
 |.tup xs=>some (false,xs)
 |_=>none
noncomputable def sqO(t:Bool)(vs:List V):HO:=match t with|true=>.lst vs|false=>.tup vs
theorem qnk{K:W.Frag}{B:qal}{a:T}{t:Bool}{xs:List T}{v:V}(e:sq2 a=some (t,xs))(r:Rep K B a v): ∃p us,v= .ref p/\B p=some (sqO t us)/\Reps K B xs us:=by
 cases a with
 |lst _=>cases e;exact qaB r
 |tup _=>cases e;exact qaw r
 |_=>cases e
noncomputable def qf2:List T->Mu->R Ito
 |[a,b],μ=>(match sq2 a,sq2 b with|some p,some q=>.ok (.fx (qiC p.2 q.2)) μ|_,_=>.no)
 |_,_=>.no
section
variable {M:Md}{E:XK}{X:Cx}{a b:Expr}{ds:DS0 (List T)}
theorem qsL {elts:List Expr} {kk:Nat} {cH p pos:Pos} (hg:Gl X "zip") (hm:X.mg "zip" =none) (ha:PA X [a,b] (tA M E ds)) (hK:X.K=M.K) (hs:starEach [a,b] X.env=(false,eval a X.env)::starEach [b] X.env) (av:(backTo pos (starEach [b] X.env)).any (·.1)=false):
  PI X (.Tuple elts kk cH) (.Call (.Name "zip" p) [a,b] [] pos) (tI M E (dIA qf2 ds)):=by
 refine PI.weak (ZP.pi_zipX hg hm ha hs av) λσ H R ⟨ρ,μ,B,ev,w⟩=>⟨ρ,μ,B,ev,(Wn.bind w).mono λts m w1 vs H1 B1 h1 g1 r1=> ?_⟩
 change Wn M E H B (KI M H B R) (qf2 ts m) at w1
 unfold qf2 at w1;split at w1
 ·rename_i x0 y0;split at w1
  case h_2=>exact w1.elim
  rename_i p q ea eb;obtain⟨t,xs⟩:=p;obtain⟨u,ys⟩:=q;obtain⟨v,v',rfl,a1,a2⟩:=qe5 r1;obtain⟨p1,us,rfl,eF,ra⟩:=qnk ea a1;obtain⟨p2,ws,rfl,b9,rb⟩:=qnk eb a2;have sq: ∀{H':Hp} {B':qal} {t:Bool} {p:Addr} {us:List V},(∀a o,B' a=some o->H' a=some o)->B' p=some (sqO t us)->ZP.Sq M.K t H' p us:=λ{H' B' t p us} le e=>by
   cases t with
   |true=>exact SqL.of (le _ _ e)
   |false=>exact SqT.of (le _ _ e)
  have l1:=ra.length;have l2:=rb.length;have lz:(qiC xs ys).length=min us.length ws.length:=by unfold qiC;rw[List.length_map,List.length_zip,l1,l2]
  rw[hK];refine⟨t,u,p1,p2,us,ws,rfl,sq h1.bh eF,sq h1.bh b9,λz1 z2=> ?_⟩;refine w1 _ H1 B1 h1 g1 (by show(qiC xs ys).length<=_;omega) λμ' H' B' h' le i=>⟨λt et=> ?_,λhl hi=> ?_⟩
  ·have q1:=sq h'.bh (le.h _ _ eF);have q2:=sq h'.bh (le.h _ _ b9);have et:=Option.some.inj et;unfold qiC at et;rw[List.getElem?_map] at et;cases q:(xs.zip ys)[i]? with
   |none=>rw[q] at et;cases et
   |some c=>rw[q] at et;cases et;have hi:=(List.getElem?_eq_some_iff.mp q).1;rw[List.length_zip] at hi;obtain⟨c1,c2⟩:=c;obtain⟨qa,qb⟩:=List.getElem?_zip_eq_some.mp q;obtain⟨u,eu,ru⟩:=ra.get qa;obtain⟨w',ew,ar⟩:=rb.get qb;refine⟨⟨us,ws,q1,q2,by omega,by omega⟩,λy bC ⟨T',x,y',e1,e2,e3,e4,e5⟩=> ?_⟩;have z1:=e4 us q1;have z2:=e5 ws q2;rw[eu] at z1;cases z1;rw[ew] at z2;cases z2;subst e1 e3;have iE:=le.trans (h'.upd_le (o:=.tup [u,w']) (h'.fr e2));exact⟨_,h'.new e2 (λps z=>by cases z),h'.gnew e2,qcr qai (.cons (ru.mono iE) (.cons (ar.mono iE) .nil))⟩
  ·have hi:=List.getElem?_eq_none_iff.mp (Option.some.inj hi);have hl:=hl _ rfl;have hi:(qiC xs ys).length<=i:=hi;have hl:i<=(qiC xs ys).length:=hl;exact⟨us,ws,sq h'.bh (le.h _ _ eF),sq h'.bh (le.h _ _ b9),by omega⟩
 ·exact w1.elim
end
end NV
namespace NV
open PySem L2
noncomputable def qao:Expr->Bool
 |.Starred _ _=>false
 |_=>true
noncomputable def qdG:Expr->Bool
 |.ListComp _ _ _ _=>false
 |.SetComp _ _ _ _=>false
 |.DictComp _ _ _ _ _=>false
 |_=>true
noncomputable def qc0:Expr->Bool
 |.Call (.Name _ _) [] [] _=>false
 |_=>true
noncomputable def qbF:Expr->Bool
 |.Set _ _ _=>false
 |_=>true
noncomputable def qjC:Expr->Bool
 |.Slice _ _ _ _=>false
 |_=>true
section
variable {env:Env}{e:Expr}{es:List Expr}{pos:Pos}
theorem qbD(h:qao e=true):starEach (e::es) env=(false,eval e env)::starEach es env:=by cases e<;>first|rfl|cases h
theorem qbf: ∀{es:List Expr},es.all qao=true->(backTo pos (starEach es env)).any (·.1)=false
 |[],_=>rfl
 |e::es,h=>by rw[List.all_cons,Bool.and_eq_true] at h;rw[qbD h.1];show(false||(backTo pos (starEach es env)).any (·.1))=false;rw[qbf h.2];rfl
theorem qgT: ∀{es:List Expr},es.all qao=true->(backTo pos (starEach es env)).all (λx=> !x.1)=true
 |[],_=>rfl
 |e::es,h=>by rw[List.all_cons,Bool.and_eq_true] at h;rw[qbD h.1];show(!false&&(backTo pos (starEach es env)).all (λx=> !x.1))=true;rw[qgT h.2];rfl
theorem qnI(h:es.all qao=true)(hl:es.length<30):((backTo pos (starEach es env)).all (λx=> !x.1)&&(backToKw pos (keywordEach [] env)).all (λx=>x.1.isSome)&&decide (es.length+([]:List Keyword).length+(if([]:List Keyword).isEmpty then 0 else 1)<30))=true:=by rw[qgT h];show(true&&true&&decide (es.length+0+0<30))=true;simp[hl]
theorem qeL{o:Expr}{m:Str}{w:Sem Value}(h:qc0 o=true):attributeBase o m env w=w:=by
 unfold attributeBase;split
 ·cases h
 ·rfl
theorem qqm(h:qao e=true):(assignEach (e::es) env).map (·.2)=assign e env::(assignEach es env).map (·.2):=by cases e<;>first|rfl|cases h
theorem qdW: ∀{es:List Expr},(assignEach es env).length=es.length
 |[]=>rfl
 |e::es=>by cases e<;>(show _+1=_;rw[qdW];rfl)
theorem qfX: ∀{es:List Expr},es.all qao=true->(assignEach es env).findIdx? (·.1)=none
 |[],_=>rfl
 |e::es,h=>by
  rw[List.all_cons,Bool.and_eq_true] at h;have ih:=qfX h.2;have e1:assignEach (e::es) env=(false,assign e env)::assignEach es env:=by have h1:=h.1;cases e<;>first|rfl|cases h1
  rw[e1,List.findIdx?_cons,ih];rfl
theorem qd8{t:Option Expr}{l:Nat}(h:qdG e=true):swapsWith e t l env=pure false:=by cases e<;>first|rfl|cases h
theorem qgR{t:Expr}{l:Nat}(h: ∀x p,t≠.Name x p):swapsWith e (some t) l env=pure false:=by cases e<;>first|rfl|(cases t<;>first|rfl|exact absurd rfl (h _ _))
theorem qhi{op:CmpOp}(h:qbF e=true):behindInMarks op e=false:=by cases e<;>first|rfl|cases h
theorem qdF{o p:CmpOp}{b c:Expr}(h:qbF c=true):lastMarks [o,p] [b,c]=false:=by cases c<;>first|rfl|cases h
theorem qer(h:qbF e=true)(x:Value):foldedSetIterable e env x=pure x:=by cases e<;>first|rfl|cases h
theorem qh7(h:qjC e=true):qk6 e:=λo i=>by cases e<;>first|rfl|cases h
end
theorem qhQ{ns:List Str}{us:List Value}(hl:us.length=ns.length)(nd:ns.Nodup):(∀n∈ns,((ns.zip us).lookup n).isNone=false)/\ns.filterMap (λn=>((ns.zip us).lookup n).map (n, ·))=ns.zip us:=by
 induction ns generalizing us with
 |nil=>exact⟨(λ_ h=>nomatch h),rfl⟩
 |cons x ns ih=>
  cases us with
  |nil=>cases hl
  |cons u us=>
   obtain⟨nx,nd⟩:=List.nodup_cons.mp nd;obtain⟨h1,h2⟩:=ih (us:=us) (by simpa using hl) nd;have ne: ∀n∈ns,(n==x)=false:=λn hn=>by simp only[beq_eq_false_iff_ne];rintro rfl;exact nx hn
   refine⟨λn hn=> ?_,?_⟩
   ·rw[List.zip_cons_cons,List.lookup_cons]
    rcases List.mem_cons.mp hn with rfl|hn
    ·simp
    ·rw[ne n hn];exact h1 n hn
   ·rw[List.zip_cons_cons,List.filterMap_cons,List.lookup_cons];simp only[beq_self_eq_true,Option.map_some]
    congr 1
    refine Eq.trans ?_ h2;clear h1 h2 ih;have go: ∀l:List Str,(∀n∈l,(n==x)=false)->l.filterMap (λn=>(((x,u)::ns.zip us).lookup n).map (n, ·))=l.filterMap (λn=>((ns.zip us).lookup n).map (n, ·)):=λl=>by
     induction l with
     |nil=>exactλ_=>rfl
     |cons y l ihl=>intro h;rw[List.filterMap_cons,List.filterMap_cons,ihl (λn hn=>h n (List.mem_cons_of_mem _ hn)),List.lookup_cons,h y List.mem_cons_self]
    exact go ns ne
theorem qdn {fd:FuncData} {us:List Value} (h1:fd.params.posonlyargs=[]) (h2:fd.params.vararg=none) (h3:fd.params.kwonlyargs=[]) (h4:fd.params.kwarg=none) (h5:fd.defaults= .none) (nd:(fd.params.args.map (·.arg)).Nodup) (hl:us.length=(fd.params.args.map (·.arg)).length):
  bindArgs fd ⟨us,[]⟩=pure ((fd.params.args.map (·.arg)).zip us):=by
 obtain⟨z1,z2⟩:=qhQ hl nd;have e1:seqItems? Value.none=pure none:=rfl;unfold bindArgs;simp only[h1,h2,h3,h4,h5,e1,List.map_nil,List.nil_append,List.forIn_nil,pure_bind,List.append_nil,Option.isNone_none,Bool.and_true,Option.getD_none];have hm:(List.filter (λn=>(List.lookup n ((List.map (λx=>x.arg) fd.params.args).zip us)).isNone) (List.map (λx=>x.arg) fd.params.args))=[]:=by rw[List.filter_eq_nil_iff];intro n hn;rw[z1 n hn];decide
 rw[if_neg (by simp only[decide_eq_true_eq];omega)];simp only[List.drop_nil,List.length_nil,Nat.sub_zero,List.take_length,hm,List.isEmpty_nil,Bool.not_true,List.zip_nil_right,List.forIn_nil,pure_bind,z2];rfl
open SR SetL
inductive KB where
 |one (i:Nat)|parts (l:List (Bool×Nat))
noncomputable def quE(us:List T)(p:Bool×Nat):Option T:=(us[p.2]?).bind λt=>if p.1=true then(match t with|.int n=>some (.int (-n))|_=>none) else some t
noncomputable def qwz:KB->T->Option T
 |.one i,.tup us=>us[i]?
 |.parts l,.tup us=>(l.mapM (quE us)).map .tup
 |_,_=>none
noncomputable def qnF(b:KB)(μ:Mu)(t:T):Option Nv:=(qcb μ t).bind λts=>(ts.mapM (qwz b)).bind λks=>if ts.length<64/\qbZ ks=true then some (.l (PL.sortBy (λt=>qil ((qwz b t).getD .non)) ts)) else none
noncomputable def qt1(x:Str):Expr->Option Nat
 |.Subscript (.Name y _) (.Constant (.int i) _ _) _=>if y=x/\0<=i then some i.toNat else none
 |_=>none
noncomputable def quD(x:Str):Expr->Option (Bool×Nat)
 |.UnaryOp .USub e _=>(qt1 x e).map λi=>(true,i)
 |e=>(qt1 x e).map λi=>(false,i)
noncomputable def qwA(x:Str):Expr->Option KB
 |.Tuple es _ _=>if es.length<=100 then(es.mapM (quD x)).map .parts else none
 |e=>(qt1 x e).map .one
structure Lm(M:Md)(X:Cx)(c P:Addr)(qual:Str):Prop where
 cd:X.env.code= .ref c
 hd:W.CodeHd X.base c P
 bm:qfY X.mg X.base
 q:X.env.qual++("<lambda>" :Str)=qual
 t: ∀H,M.G.P H->qk4 P qual H
 t': ∀H H2,M.G.P H->qk5 P H H2->(∀b,H b≠none->H2 b≠none)->qk4 P qual H2->M.G.P H2
end NV
namespace NV
open PySem L2
noncomputable def qvM(wd:Str->Option Str)(fr:List Nat)(d:DS0 T):DS0 T:=λρ μ=>match d (qbq 0 fr ρ) μ with
 |.ok t m=>.ok t m
 |.ex c m=>(match wd c with|some x=>.ok (.str x) m|none=>.no)
 |.no=>.no
structure Td(M:Md)(P:Program)(w:World)(mg:Str->Option Value)(base:Heap)(wd:Str->Option Str)(st:Stmt)(fT fC CA:Addr)(fdT fdC:FuncData)(bmA:List Value)(wa:Addr->Option Str):Prop where
 tx:qtr st
 f:Fun M.K "_law_told" "_law_told" st fT fdT
 m:mg "_law_told" =some (.ref fT)
 b:qa0 M.K fdT ["_law_deed"] []
 a:mg "AskError" =some (.ref CA)
 e:qiG base CA bmA
 g:FnN P w M.K mg base 1 fC fdC ["_law_kept"] (qt4 base wa)
 mc:mg "_law_class" =some (.ref fC)
 kc:W.keepIn M.K (.ref fC)=true
 bc:qa0 M.K fdC ["_law_kept"] []
 wd: ∀c x,wd c=some x->∃bm,qiG base (clA M.K c) bm/\(Value.ref (clA M.K c)::bm).contains (.ref CA)=true/\wa (clA M.K c)=some x
open PL (luS TopT)
noncomputable def qeW(neg:Bool)(tbl:List (Str×Str)):T->Mu->R T
 |.str z,μ=>.ok (.bl (if neg=true then !(luS tbl z).isSome else(luS tbl z).isSome)) μ
 |_,_=>.no
noncomputable def qf7(tbl:List (Str×Str)):T->Mu->R T
 |.str z,μ=>(match luS tbl z with|some g=>.ok (.fn g) μ|none=>.no)
 |_,_=>.no
noncomputable def qfE(Fn:Str->Option (List T->Mu->R T))(i:Nat)(ds:DS0 (List T)):DS0 T:=λρ μ=>match ρ[i]? with
 |some (some (.fn g))=>(match Fn g with|some f=>qeG f ds ρ μ|none=>.no)
 |_=>.no
section
variable {M:Md}{E:XK}{X:Cx}{e a k value:Expr}{es:List Expr}{pos p dp:Pos}{i n:Nat}{x D:Str}{da:DS0 T}{ds:DS0 (List T)}{tbl:List (Str×Str)}
theorem qfb {a:Addr} {es:Array DictEntry} {n:Nat} (hl:X.K.lookup a=some ⟨.type "dict",none,.dict es n, #[]⟩) (hk:W.KeysLit X.w.params es.toList) (lo:(a==sysModules)=false)
  (hz: ∀z,match luS tbl z with|none=>findBy Value.isStrOf es z=none|some g=> ∃f,findBy Value.isStrOf es z=some (.ref f)/\W.nsIn X.K mainGlobals g=some (some (.ref f))):
  OpR X (compareOp .NotIn) (λx y H Q=> ∃z,x= .str z/\y= .ref a/\Q (.bl (!(luS tbl z).isSome)) H):=by
 intro pins s σ H x y v u Q I rx ry q;obtain⟨z,rfl,rfl,q⟩:=q;obtain⟨t,rfl⟩:=rx;cases ry;refine PySem.wpAny_notIn_of (PySem.strKind_is X.prog X.w z t) lo (W.mapOf_K (prog:=X.prog) I.kIn hl hk) ?_;have:(findBy Value.isStrOf es z).isSome=(luS tbl z).isSome:=by
  have:=hz z;split at this
  ·rename_i e;rw[this,e];rfl
  ·rename_i g e;obtain⟨f,h1,_⟩:=this;rw[h1,e];rfl
 rw[this];exact⟨.bl _,H,I.tok _,rfl,q⟩
theorem qbw{neg:Bool}{ad:Addr}{σ:St}{H:Hp}{Q:VK}(h:tE M E (dU (qeW neg tbl) da) σ H Q):tE M E da σ H λx H1=> ∃z,x= .str z/\Q (.bl (if neg=true then !(luS tbl z).isSome else(luS tbl z).isSome)) H1:=by
 obtain⟨ρ,μ,B,ev,w⟩:=h;refine tE.of ev ((Wn.bind w).mono λt aa w1 v H1 B1 h1 g1 r1=> ?_);have w1:Wn M E H B (KE M H B Q) (qeW neg tbl t aa):=w1;cases t with
 |str z=>exact⟨z,qaz r1,w1 _ H1 B1 h1 g1 qa4⟩
 |_=>exact w1.elim
theorem qmC (T0:TopT X.K X.mg X.w D tbl) (hg:Gl X D) (ha:PE X e (tE M E da)) (hd:(D==("__debug__" :Str))=false) (neg:Bool):PE X (.Compare e [if neg=true then .NotIn else .In] [.Name D dp] pos) (tE M E (dU (qeW neg tbl) da)):=by
 obtain⟨ad,es,n,mD,hl,hk,lo,hz⟩:=T0;cases neg with
 |false=>refine PE.weak (qgh (PL.op_topin hl hk lo hz) ha (qcf hg mD (v:=.ref ad) rfl hd) rfl) λσ H Q hq=> ?_;obtain⟨ρ,μ,B,ev,w⟩:=qbw (ad:=ad) hq;exact⟨ρ,μ,B,ev,w.mono λt aa w1 v H1 B1 h1 g1 r1=>let ⟨z,e1,q⟩:=w1 v H1 B1 h1 g1 r1;⟨z,e1,rfl,q⟩⟩
 |true=>refine PE.weak (qgh (qfb hl hk lo hz) ha (qcf hg mD (v:=.ref ad) rfl hd) rfl) λσ H Q hq=> ?_;obtain⟨ρ,μ,B,ev,w⟩:=qbw (ad:=ad) hq;exact⟨ρ,μ,B,ev,w.mono λt aa w1 v H1 B1 h1 g1 r1=>let ⟨z,e1,q⟩:=w1 v H1 B1 h1 g1 r1;⟨z,e1,rfl,q⟩⟩
theorem qmv (T0:TopT X.K X.mg X.w D tbl) (hg:Gl X D) (ha:PE X e (tE M E da)) (hd:(D==("__debug__" :Str))=false) (neg:Bool):PT X (.Compare e [if neg=true then .NotIn else .In] [.Name D dp] pos) (tT M E (dTB (dU (qeW neg tbl) da))):=by
 obtain⟨ad,es,n,mD,hl,hk,lo,hz⟩:=T0;cases neg with
 |false=>refine PT.weak (qge (PL.op_topin hl hk lo hz) ha (qcf hg mD (v:=.ref ad) rfl hd) rfl) λσ H Q hq=> ?_;obtain⟨ρ,μ,B,ev,w⟩:=qbw (ad:=ad) (qcP hq);exact⟨ρ,μ,B,ev,w.mono λt aa w1 v H1 B1 h1 g1 r1=>let ⟨z,e1,q⟩:=w1 v H1 B1 h1 g1 r1;⟨z,e1,rfl,q⟩⟩
 |true=>refine PT.weak (qge (qfb hl hk lo hz) ha (qcf hg mD (v:=.ref ad) rfl hd) rfl) λσ H Q hq=> ?_;obtain⟨ρ,μ,B,ev,w⟩:=qbw (ad:=ad) (qcP hq);exact⟨ρ,μ,B,ev,w.mono λt aa w1 v H1 B1 h1 g1 r1=>let ⟨z,e1,q⟩:=w1 v H1 B1 h1 g1 r1;⟨z,e1,rfl,q⟩⟩
theorem qkp (T0:TopT X.K X.mg X.w D tbl) (hg:Gl X D) (ha:PE X k (tE M E da)) (hK:X.K=M.K) (hs:qwW k) (hd:(D==("__debug__" :Str))=false):PE X (.Subscript (.Name D dp) k pos) (tE M E (dU (qf7 tbl) da)):=by
 obtain⟨ad,es,n,mD,hl,hk,lo,hz⟩:=T0;intro pins s σ H Q I hq;have pa:tE M E da σ H λy H1=> ∃z g f,y=V.str z/\luS tbl z=some g/\findBy Value.isStrOf es z=some (.ref f)/\Q (.ref f) H1:=by
  obtain⟨ρ,μ,B,ev,w⟩:=hq;refine tE.of ev ((Wn.bind w).mono λt aa w1 v H1 B1 h1 g1 r1=> ?_);have w1:Wn M E H B (KE M H B Q) (qf7 tbl t aa):=w1;cases t with
  |str z=>
   have w1:Wn M E H B (KE M H B Q) (match luS tbl z with|some g=>.ok (.fn g) aa|none=>.no):=w1;cases q:luS tbl z with
   |none=>rw[q] at w1;exact w1.elim
   |some g=>rw[q] at w1;have:=hz z;rw[q] at this;obtain⟨f,e1,e2⟩:=this;exact⟨z,g,f,qaz r1,q,e1,w1 _ H1 B1 h1 g1 (by unfold Rep;exact⟨f,rfl,by rw[<-hK];exact e2⟩)⟩
  |_=>exact w1.elim
 refine qop F.slot_dict_getitem.lookup hs (thn (qcf hg mD (v:=.ref ad) rfl hd pins s σ H (λx H1=>x= .ref ad/\H1=H) I ⟨rfl,rfl⟩) λu s1 hu=> ?_);obtain⟨x,H1,I1,rx,rfl,rfl⟩:=hu;obtain rfl:u=Value.ref ad:=rx;refine thn (ha pins s1 σ H1 _ I1 pa) λiv s2 hv=> ?_;obtain⟨y,H2,I2,ry,z,g,f,rfl,_,hf,q⟩:=hv;obtain⟨t,rfl⟩:=ry;have hm:=W.mapOf_K (prog:=X.prog) (w:=X.w) I2.kIn hl hk;exact⟨hm.typeIs,PySem.wpAny_getItem_of (PySem.strKind_is X.prog X.w z t) hm hf ⟨.ref f,H2,I2.tok _,rfl,q⟩⟩
theorem qmG {Fn:Str->Option (List T->Mu->R T)} {kk:Nat} (hF: ∀g fT,Fn g=some fT->∃f fd ps,X.mg g=some (.ref f)/\W.keepIn X.K (.ref f)=true/\qa0 X.K fd ps []/\qcL X.prog X.w X.K X.mg X.base (CXE X.prog X.w) kk f fd ps (spF M fT)) (hK:X.K=M.K) (hr:qbu kk X.A) (hv:PE X (.Name x p) (qtT i)) (hx:qaJ (CXE X.prog X.w) X E) (ha:PA X (e::es) (tA M E ds))
  (he:starEach (e::es) X.env=(false,eval e X.env)::starEach es X.env) (av:(backTo pos (starEach es X.env)).any (·.1)=false):PE X (.Call (.Name x p) (e::es) [] pos) (tE M E (qfE Fn i ds)):=by
 intro pins s σ H Q I hq;obtain⟨ρ,μ,B,ev,w⟩:=hq;unfold qfE at w;split at w
 ·rename_i g e1;split at w
  ·rename_i fT e2;obtain⟨f,fd,ps,m,kp,bd,fo⟩:=hF g fT e2;obtain⟨v,e3,r⟩:=ev.sl i _ e1;unfold Rep at r;obtain⟨f',rfl,hn⟩:=r;have:f'=f:=PL.fn_same I (by rw[hK];exact hn) m;subst this;refine Ve (thn (hv pins s σ H (λv H1=>v= .ref f'/\H1=H) I ⟨.ref f',e3,rfl,rfl⟩) λu s1 hu=> ?_);obtain⟨v,H1,I1,rv,rfl,rfl⟩:=hu;obtain rfl:u=Value.ref f':=rv;refine W.callWith_K (h₀:=X.base) I1.ok.mod.kin kp (thn (ha pos pins s1 σ H1 _ I1 (qfR (E:=E) (fT:=fT) ⟨ρ,μ,B,ev,w⟩)) λus s2 hq=> ?_) he av;obtain⟨vs,H2,I2,r,q⟩:=hq;exact⟨I2.kIn,qe4 fo hr bd .nil hx I2 r q⟩
  ·exact w.elim
 ·exact w.elim
end
end NV
namespace NV
open PySem L2
inductive O2 where
 |add|sub|mul|div|mod|pow|lt|le|gt|ge|eq|ne|is|isn|in_|nin|ix
noncomputable def O2.g:O2->Mu->T->T->Option Nv
 |.add=>qvt|.sub=>gSub|.mul=>qvm|.div=>qvp|.mod=>qvn|.pow=>qxT|.lt=>gLt|.le=>gLe|.gt=>gGt|.ge=>gGe
 |.eq=>qnG false|.ne=>qnG true|.is=>gIs false|.isn=>gIs true|.in_=>gIn false|.nin=>gIn true|.ix=>gIx
inductive CG where
 |no|n (i:Nat)|tup (gs:List CG)
inductive Iw where
 |rng1|rng2|enum|zip
mutual
inductive CE where
 |no|v (i:Nat)|c (t:T)|tup (es:List CE)|lst (ow:Bool) (es:List CE)|dct (ow:Bool)
 |o2 (ow:Bool) (o:O2) (a b:CE)|neg (a:CE)|nt (a:CE)|and (a b:CE)|or (a b:CE)|ife (t a b:CE)|chain (o p:O2) (a b c:CE)
 |bn (ow:Bool) (b:Bn) (es:List CE)|bm (ow:Bool) (b:Bm) (o:CE) (es:List CE)|alt (a b:CE)|inst (N:String) (a:CE)|sset (ow:Bool) (a:CE)|slen (a:CE)
 |sl (ow:Bool) (a:CE) (lo hi:Option CE)|sl3 (ow:Bool) (a:CE) (lo hi:Option CE) (st:CE)
 |call (i:Nat) (es:List CE)|make (c:Str) (i:Nat) (es:List CE)|mth (ms:List (Str×Nat)) (m:Str) (o:CE) (es:List CE)|fld (cs:List Str) (f:Str) (o:CE)
 |srtK (ow:Bool) (b:KB) (a:CE)|told (wd:List (Str×Str)) (fr:List Nat) (e:CE)
 |topin (neg:Bool) (tbl:List (Str×Str)) (a:CE)|topget (tbl:List (Str×Str)) (a:CE)|callv (fi:List (Str×Nat)) (i:Nat) (es:List CE)
 |comp (ow x:Bool) (n:Nat) (fr:List Nat) (g:CG) (it:CI) (t:Option CE) (e:CE)
inductive CI where
 |no|gen (e:CE)|by_ (w:Iw) (es:List CE)
end
inductive CS where
 |no|nx|ret (e:CE)|set (i:Nat) (e:CE)|asg (g:CG) (e:CE)|par (is:List Nat) (es:List CE)|fld (cs:List Str) (f:Str) (o e:CE)|put (o i e:CE)|exp (e:CE)|ife (t:CE) (a b:List CS)|for_ (g:CG) (it:CI) (b:List CS)
 |brk|cnt|raise (c:Str)|try_ (cl:List Str) (n:Nat) (nm:Option Nat) (b h:List CS)|frz (i:Nat) (s:CS)
noncomputable def Iw.g:Iw->List T->Mu->R Ito
 |.rng1=>qg6|.rng2=>qg5|.enum=>qsy|.zip=>qf2
abbrev Fs:=Nat->List T->Mu->R T
mutual
noncomputable def qb0:CG->T->DS0 Ro
 |.no=>λ_=>dNo
 |.n i=>gN i
 |.tup gs=>gT gs.length (runGs gs)
noncomputable def runGs:List CG->List T->DS0 Ro
 |[]=>gsN
 |g::gs=>gsC (qb0 g) (runGs gs)
end
noncomputable def qnT(o p:O2)(da db dc:DS0 T):DS0 T:=dSq da λx=>dSq db λy ρ μ=>(nvR false (o.g μ x y) μ).bind λz μ'=>(tbO z μ').bind λk μ'=>if k=true then(dc ρ μ').bind λw cg=>nvR false (p.g cg y w) cg else .ok (.bl false) μ'
noncomputable def qit(ow:Bool)(d:DS0 Ct):DS0 T:=if ow=true then dOw d else dFz d
noncomputable def qsr:T->Mu->R T
 |.int i,μ=>.ok (.int (-i)) μ
 |_,_=>.no
mutual
noncomputable def qab(F:Fs):CE->DS0 T
 |.no=>dNo
 |.v i=>dV i
 |.c t=>dC t
 |.tup es=>qwI (runA F es)
 |.lst ow es=>qit ow (qwM (runA F es))
 |.dct ow=>qit ow λ_ μ=>.ok (.dk []) μ
 |.o2 ow o a b=>dB (λx y μ=>nvR ow (o.g μ x y) μ) (qab F a) (qab F b)
 |.neg a=>dU qsr (qab F a)
 |.nt a=>qmJ (qab F a)
 |.and a b=>qmL (qab F a) (qab F b)
 |.or a b=>qtI (qab F a) (qab F b)
 |.ife t a b=>qiv (dTB (qab F t)) (qab F a) (qab F b)
 |.chain o p a b c=>qnT o p (qab F a) (qab F b) (qab F c)
 |.bn ow b es=>dN ow b.g (runA F es)
 |.bm ow b o es=>dBM ow b (qab F o) (runA F es)
 |.alt a b=>qs4 (qab F a) (qab F b)
 |.inst N a=>qs0 N (qab F a)
 |.sset ow a=>dNu ow qwE (qab F a)
 |.slen a=>dNu false qj4 (qab F a)
 |.sl ow a lo hi=>dSl ow (qab F a) (runO F lo) (runO F hi)
 |.sl3 ow a lo hi st=>qwJ ow (qab F a) (runO F lo) (runO F hi) (dOS (qab F st))
 |.call i es=>qeG (F i) (runA F es)
 |.make c i es=>qeG (mkR c (F i)) (runA F es)
 |.mth ms m o es=>qiu (λc=>(ms.lookup c).map F) m (qab F o) (runA F es)
 |.fld cs f o=>dU (qnH (λc _=>cs.contains c) f) (qab F o)
 |.srtK ow b a=>dNu ow (qnF b) (qab F a)
 |.told wd fr e=>qvM (λc=>wd.lookup c) fr (qab F e)
 |.topin neg tbl a=>dU (qeW neg tbl) (qab F a)
 |.topget tbl a=>dU (qf7 tbl) (qab F a)
 |.callv fi i es=>qfE (λg=>(fi.lookup g).map F) i (runA F es)
 |.comp ow x n fr g it t e=>qit ow (qck x n fr (runI F it) (qb0 g) (runT F t) (qab F e))
noncomputable def runA(F:Fs):List CE->DS0 (List T)
 |[]=>qnS
 |e::es=>qs3 (qab F e) (runA F es)
noncomputable def runO(F:Fs):Option CE->DS0 (Option Int)
 |none=>dON
 |some e=>dOS (qab F e)
noncomputable def runT(F:Fs):Option CE->DS0 Bool
 |none=>qwH
 |some e=>dTB (qab F e)
noncomputable def runI(F:Fs):CI->DS0 Ito
 |.no=>dNo
 |.gen e=>dIt (qab F e)
 |.by_ w es=>dIA w.g (runA F es)
end
noncomputable def qbh:List Nat->List T->Ro->Option Ro
 |[],[],ρ=>some ρ
 |i::is,t::ts,ρ=>qbh is ts (ρ.set i (some t))
 |_,_,_=>none
noncomputable def qxZ(is:List Nat)(ds:DS0 (List T)):DS0 Out:=dSq ds λts ρ μ=>match qbh is ts ρ with|some ρ'=>.ok (.nx ρ') μ|none=>.no
mutual
noncomputable def qaP(F:Fs):CS->DS0 Out
 |.no=>dNo
 |.nx=>qmK
 |.ret e=>qvP (qab F e)
 |.set i e=>qmI i (qab F e)
 |.asg g e=>qwO (qb0 g) (qab F e)
 |.par is es=>qxZ is (runA F es)
 |.fld cs f o e=>qs1 (λc _=>cs.contains c) f (qab F o) (qab F e)
 |.put o i e=>qwK (qab F o) (qab F i) (qab F e)
 |.exp e=>qs2 (qab F e)
 |.ife t a b=>qiv (dTB (qab F t)) (runSs F a) (runSs F b)
 |.for_ g it b=>qwN (runI F it) (qb0 g) (runSs F b)
 |.brk=>λρ μ=>.ok (.bk ρ) μ
 |.cnt=>λρ μ=>.ok (.ct ρ) μ
 |.raise c=>qnR c
 |.try_ cl n nm b h=>qxY (λc=>cl.contains c) n nm (runSs F b) (runSs F h)
 |.frz i s=>qx0 i (qaP F s)
noncomputable def runSs(F:Fs):List CS->DS0 Out
 |[]=>qmK
 |s::ss=>qvO (qaP F s) (runSs F ss)
end
structure Gx where
 fs:List (Str×Stmt)
 cs:List (Str×T)
 ex:List (Str×List Str)
 cl:List (Str×List Str)
 ow:List (Nat×Nat)
 fz:List (Nat×Str)
 xc:List (Nat×Nat)
 kp:List Str
 lm:List Str
 wd:List (Str×Str)
 dt:List (Str×List (Str×Str)):=[]
structure Cc where
 N:List Str
 sc:Scope
 calm:Bool
 top:Bool
 cf:Bool
 lam:Bool
noncomputable def qcK:List Str:=["len", "all", "any", "sum", "max", "min", "abs", "list", "tuple", "sorted", "set", "isinstance", "range", "enumerate", "zip", "int", "bool", "str", "dict"]
noncomputable def qla(N:List Str)(x:Str):Option Nat:=N.findIdx? λy=>decide (y=x)
noncomputable def qim(C:Cc)(x:Str):Bool:=decide (C.sc.names.lookup x=some .globalImplicit)&&x != "__debug__"
noncomputable def qdb(C:Cc)(x:Str):Bool:=qim C x&&qcK.contains x
noncomputable def qme(sc:Scope)(x:Str):Bool:=match sc.names.lookup x with|some .local=>true|some .cell=>true|some .free=>true|_=>false
noncomputable def qpA(sc:Scope)(x:Str):Bool:=match sc.names.lookup x with|some .local=>true|some .cell=>true|_=>false
noncomputable def qqt(C:Cc)(x:Str):Bool:=match C.sc.names.lookup x with|some .local=>true|some .cell=>C.cf|_=>false
noncomputable def Gx.fi(g:Gx)(x:Str):Option Nat:=qla (g.fs.map (·.1)) x
noncomputable def qaR(c m:Str):Str:=c++("." :Str)++m
noncomputable def Gx.ms(g:Gx)(m:Str):List (Str×Nat):=g.cl.filterMap λc=>(g.fi (qaR c.1 m)).map λi=>(c.1,i)
noncomputable def Gx.fls(g:Gx)(f:Str):List Str:=(g.cl.filter λc=>c.2.contains f).map (·.1)
noncomputable def Gx.own(g:Gx)(p:Pos):Bool:=g.ow.contains (p.line,p.col)
noncomputable def qqg(g:Gx)(C:Cc)(x:Str):CE:=
 if x== "__debug__" ||x== "__classdict__" then .no else
 if qme C.sc x then(match qla C.N x with|some i=>.v i|none=>.no) else
 if qim C x then(match g.cs.lookup x with|some t=>.c t|none=>.no) else .no
noncomputable def quP:Operator->Option O2
 |.Add=>some .add|.Sub=>some .sub|.Mult=>some .mul|.FloorDiv=>some .div|.Mod=>some .mod|_=>none
noncomputable def qn1:CmpOp->O2
 |.Lt=>.lt|.LtE=>.le|.Gt=>.gt|.GtE=>.ge|.Eq=>.eq|.NotEq=>.ne|.Is=>.is|.IsNot=>.isn|.In=>.in_|.NotIn=>.nin
noncomputable def qtk(x:Str):Option Bn:=Bn.list.find? λb=>b.nm==x
noncomputable def qqj(x:Str)(ty:String):Option Bm:=Bm.all.find? λb=>b.nm==x&&b.ty==ty
noncomputable def qv7(x:Str):Option String:=["int", "bool", "str", "tuple", "list"].find? λN=>Str.ofString N==x
noncomputable def qhN:List CE->CE
 |[]=>.no
 |[a]=>a
 |a::b::r=>.and a (qhN (b::r))
noncomputable def qlY:List CE->CE
 |[]=>.no
 |[a]=>a
 |a::b::r=>.or a (qlY (b::r))
noncomputable def cG(C:Cc):Nat->Expr->CG
 |0,_=>.no
 |n+1,e=>match e with
  |.Name x _=>if qqt C x then(match qla C.N x with|some i=>.n i|none=>.no) else .no
  |.Tuple ts _ _=>if C.calm&&ts.all qao then .tup (ts.map (cG C n)) else .no
  |_=>.no
noncomputable def qty(C:Cc)(sc:Scope):Scope:={ sc with names:=sc.names.map λ(n,k)=>if(k==NameKind.free&&C.sc.kind== .function&&C.sc.names.lookup n==some .cell) then(n,NameKind.cell) else(n,k) }
noncomputable def qah(C:Cc)(sc:Scope):Cc×List (Str×Nat):=
 let own:=(sc.names.filter λy=>decide (y.2= .local)&&y.1 != (".0" :Str)).map (·.1);let fr:=sc.names.filterMap λy=>if y.2= .free then(qla C.N y.1).map λi=>(y.1,i) else none
 (⟨own++fr.map (·.1),qty C sc,C.calm,false,false,C.lam⟩,fr)
noncomputable def qhv(C:Cc)(sc:Scope):Bool:=
 decide (sc.kind= .function)&&sc.names.all (λy=>decide (y.2≠.cell))&&sc.names.all (λy=>decide (y.2≠.local)||decide (sc.names.lookup y.1=some .local))
  &&sc.names.all (λy=>decide (y.2≠.free)||(decide (C.sc.names.lookup y.1=some .cell)||decide (C.sc.names.lookup y.1=some .free))&&decide (sc.names.lookup y.1=some .free))
  &&decide ((qah C sc).1.N.Nodup)
noncomputable def qu1(C:Cc)(sc:Scope):List (Str×Nat):=sc.names.filterMap λy=>if y.2= .free then(qla C.N y.1).map λi=>(y.1,i) else none
noncomputable def qu2(C:Cc)(sc:Scope):Cc:=⟨(qu1 C sc).map (·.1),sc,true,false,false,false⟩
noncomputable def qh1(a:Arguments):Bool:=decide (a.posonlyargs.length=0)&&a.vararg.isNone&&decide (a.kwonlyargs.length=0)&&decide (a.kw_defaults.length=0)&&a.kwarg.isNone&&decide (a.defaults.length=0)
noncomputable def qr3(C:Cc)(a:Arguments)(sc:Scope):Bool:=qh1 a&&decide (sc.kind= .function)&& !sc.isCoroutine&& !sc.isGenerator&&sc.names.all (λy=>decide (y.2≠.cell))&&C.lam&&C.calm
noncomputable def qqG(C:Cc)(a:Arguments)(sc:Scope):Bool:=qr3 C a sc&&decide (a.args.length=0)&&C.cf&&decide ((qu2 C sc).N.Nodup)
 &&sc.names.all (λy=>decide (y.2≠.free)||(decide (C.sc.names.lookup y.1=some .cell)||decide (C.sc.names.lookup y.1=some .free))&&decide (sc.names.lookup y.1=some .free))
noncomputable def qjN(C:Cc)(a:Arguments)(sc:Scope):Option Str:=match a.args with
 |[x]=>if qr3 C a sc&&decide (sc.names.lookup x.arg=some .local)&&sc.names.all (λy=>decide (y.2≠.free))&&x.arg != "__debug__" then some x.arg else none
 |_=>none
noncomputable def qoh(g:Gx)(C:Cc):Expr->Option (List (Str×Str))
 |.Name D _=>if qim C D then g.dt.lookup D else none
 |_=>none
noncomputable def qrY:CmpOp->Option Bool
 |.In=>some false
 |.NotIn=>some true
 |_=>none
noncomputable def qqh(g:Gx)(C:Cc)(o:CmpOp)(b:Expr)(ca cb:CE):CE:=match qoh g C b,qrY o with
 |some tbl,some neg=>.topin neg tbl ca
 |_,_=>.o2 false (qn1 o) ca cb
noncomputable def cIx(g:Gx)(C:Cc)(ow:Bool)(a b:Expr)(ca cb:CE):CE:=match qoh g C a with
 |some tbl=>.topget tbl cb
 |none=>.o2 ow .ix ca cb
noncomputable def Gx.fns(g:Gx):List (Str×Nat):=((List.range g.fs.length).filterMap λi=>(g.fs[i]?).bind λp=>if p.1.cps.contains 46 then none else if g.fi p.1=some i then some (p.1,i) else none)
noncomputable def qhJ(g:Gx)(C:Cc)(f:Str)(i8:List CE):CE:=if(f== "__debug__" ||f== "__classdict__")||i8.isEmpty then .no else if qme C.sc f then(match qla C.N f with|some i=>.callv g.fns i i8|none=>.no) else .no
noncomputable def qnB:Expr->Bool
 |.Tuple _ _ _=>true
 |_=>false
mutual
noncomputable def cE(g:Gx):Nat->Cc->Expr->CE
 |0,_,_=>.no
 |n+1,C,e=>match e with
  |.Constant c _ _=>(match c with|.none=>.c .non|.bool b=>.c (.bl b)|.int i=>.c (.int i)|.str s=>.c (.str s)|_=>.no)
  |.Name x _=>qqg g C x
  |.Tuple es _ _=>if es.all qao then .tup (es.map (cE g n C)) else .no
  |.List es p=>if es.all qao then .lst (g.own p) (es.map (cE g n C)) else .no
  |.Dict [] [] p=>.dct (g.own p)
  |.BinOp a op b p=>(match quP op with|some o=>.o2 (g.own p) o (cE g n C a) (cE g n C b)|none=>.no)
  |.UnaryOp .Not a _=>.nt (cE g n C a)
  |.UnaryOp .USub a _=>.neg (cE g n C a)
  |.BoolOp .And es _=>qhN (es.map (cE g n C))
  |.BoolOp .Or es _=>qlY (es.map (cE g n C))
  |.IfExp t a b _=>.ife (cE g n C t) (cE g n C a) (cE g n C b)
  |.Compare a [o] [b] _=>if qbF b then qqh g C o b (cE g n C a) (cE g n C b) else .no
  |.Compare a [o,p] [b,c] _=>if qbF c then .chain (qn1 o) (qn1 p) (cE g n C a) (cE g n C b) (cE g n C c) else .no
  |.Subscript a (.Slice lo hi none _) p=>.sl (g.own p) (cE g n C a) (lo.map (cE g n C)) (hi.map (cE g n C))
  |.Subscript a (.Slice lo hi (some st) _) p=>.sl3 (g.own p) (cE g n C a) (lo.map (cE g n C)) (hi.map (cE g n C)) (cE g n C st)
  |.Subscript a b p=>cIx g C (g.own p) a b (cE g n C a) (cE g n C b)
  |.Attribute a f _=>if qc0 a then .fld (g.fls f) f (cE g n C a) else .no
  | .Call (.Attribute o m ap) es [] p=>if (qc0 o&&es.all qao&&decide (es.length<30))&&ap.endLine==p.line then
    (match qqj m "list",qqj m "dict" with
     |some b,some d=>.alt (.bm (g.own p) b (cE g n C o) (es.map (cE g n C))) (.bm (g.own p) d (cE g n C o) (es.map (cE g n C)))
     |some b,none=>.bm (g.own p) b (cE g n C o) (es.map (cE g n C))
     |none,some d=>.bm (g.own p) d (cE g n C o) (es.map (cE g n C))
     |none,none=>if C.calm then .mth (g.ms m) m (cE g n C o) (es.map (cE g n C)) else .no) else .no
  | .Call (.Name f _) [e] [⟨some kw,.Lambda a body sc _,_⟩] p=>if f== "sorted" &&kw== "key" &&qdb C f&&qao e then (match qjN C a sc with
    |some x=>(match qwA x body with|some b=>.no|none=>.no)
    |none=>.no) else .no
  |.Call (.Name f _) es [] p=>if(es.all qao&&C.calm)&&qim C f then cCall g n C f es p else if es.all qao&&C.calm then qhJ g C f (es.map (cE g n C)) else .no
  |.ListComp elt [⟨tg,iter,ifs,0⟩] sc p=>cComp g n C false elt tg iter ifs sc p
  |_=>.no
noncomputable def cCall(g:Gx):Nat->Cc->Str->List Expr->Pos->CE
 |0,_,_,_,_=>.no
 | n+1,C,f,es,p=>if f== "_law_told" then (match es with
   |[.Lambda a body sc _]=>if qqG C a sc&& !g.wd.isEmpty then .no else .no
   |_=>.no) else if f.cps.contains 46 then .no else match g.fi f with
  |some i=>.call i (es.map (cE g n C))
  |none=>if(g.cl.map (·.1)).contains f then(match g.fi (qaR f "__init__") with|some i=>.make f i (es.map (cE g n C))|none=>.no) else
   if qdb C f then(match es with
    |[e,.Name x _]=>if f== "isinstance" then(match qv7 x with|some N=>if qdb C x then .inst N (cE g n C e) else .no|none=>.no) else
     (match qtk f with|some b=>.bn (g.own p) b (es.map (cE g n C))|none=>.no)
    |[.Call (.Name s _) [a] [] _]=>if s== "set" &&qdb C s&&qao a then(if f== "sorted" then .no else if f== "len" then .no else .no) else
     (match qtk f with|some b=>.bn (g.own p) b (es.map (cE g n C))|none=>.no)
    |[]=>.no
    |_=>(match qtk f with|some b=>.bn (g.own p) b (es.map (cE g n C))|none=>.no)) else .no
noncomputable def cI(g:Gx):Nat->Cc->Expr->Expr->CI
 |0,_,_,_=>.no
 |n+1,C,tg,e=>if qbF e then(match e with
  | .Call (.Name f _) es [] _=>if f== "range" then (if qdb C f&&es.all qao then (match es with
     |[a]=>.by_ .rng1 [cE g n C a]
     |[a,b]=>.by_ .rng2 [cE g n C a,cE g n C b]
     |_=>.no) else .no)
    else if f== "enumerate" then(if qdb C f&&es.all qao&&qnB tg then(match es with|[a]=>.no|_=>.no) else .no)
    else if f== "zip" then(if qdb C f&&es.all qao&&qnB tg then(match es with|[a,b]=>.by_ .zip [cE g n C a,cE g n C b]|_=>.no) else .no)
    else .gen (cE g n C e)
  |_=>.gen (cE g n C e)) else .no
noncomputable def cComp(g:Gx):Nat->Cc->Bool->Expr->Expr->Expr->List Expr->Scope->Pos->CE
 |0,_,_,_,_,_,_,_,_=>.no
 | n+1,C,x,elt,tg,iter,ifs,sc,p=>if C.calm&&qhv C sc then
   (match ifs with
    |[]=>.comp (g.own p) x ((qah C sc).1.N.length - (qah C sc).2.length) ((qah C sc).2.map (·.2)) (cG (qah C sc).1 n tg) (cI g n C tg iter) none (cE g n (qah C sc).1 elt)
    |[t]=>.comp (g.own p) x ((qah C sc).1.N.length - (qah C sc).2.length) ((qah C sc).2.map (·.2)) (cG (qah C sc).1 n tg) (cI g n C tg iter) (some (cE g n (qah C sc).1 t)) (cE g n (qah C sc).1 elt)
    |_=>.no) else .no
end
noncomputable def qqa:Stmt->List Stmt
 |.ClassDef _ _ _ b _ _ _ _ _ _ _=>b
 |_=>[]
noncomputable def qbz(C:Cc)(line:Nat):List Expr->Option (List Str)
 |[]=>some []
 |.Name x p::r=>if decide (C.sc.names.lookup x=some .local)&&p.line==line then(qbz C line r).map (x:: ·) else none
 |_::_=>none
noncomputable def qpw(N:List Str):List Str->Option (List Nat)
 |[]=>some []
 |x::r=>(qla N x).bind λi=>(qpw N r).map (i:: ·)
noncomputable def qd9(C:Cc)(e:Expr)(x:Str)(p:Pos):Bool:=match e with
 |.ListComp _ _ s q=>decide (C.sc.kind= .function)&&decide (C.sc.names.lookup x=some .local)&&p.line==q.line&& !(s.names.any λ(n,k)=>n==x&&(k== .local||k== .cell))
 |_=>false
noncomputable def qvY (g:Gx) (n:Nat) (C:Cc) (x:Str) (p:Pos) (e:Expr):CS:=if qqt C x then (match qla C.N x with
  |none=>.no
  |some i=>(match e with
   |.ListComp elt [⟨tg,iter,ifs,0⟩] sc q=>if decide (C.sc.kind= .function) then(if qd9 C (.ListComp elt [⟨tg,iter,ifs,0⟩] sc q) x p then .set i (cComp g n C false elt tg iter ifs sc q) else .set i (cE g n C (.ListComp elt [⟨tg,iter,ifs,0⟩] sc q))) else .no
   |e=>if qdG e then .set i (cE g n C e) else .no)) else .no
noncomputable def qtj (g:Gx) (n:Nat) (C:Cc) (ts vs:List Expr):Option CS:=if (ts.length==2||ts.length==3)&&vs.length==ts.length&&vs.all qao&&C.calm&&decide (C.sc.kind= .function)&& !vs.all (constantsAlone 8)&& !vs.all (foldedForSure 8) then
  (qbz C ((ts.head?.map (·.pos.line)).getD 0) ts).bind λxs=>if xs.eraseDups.length==xs.length&&decide xs.Nodup then(qpw C.N xs).map λis=>.par is (vs.map (cE g n C)) else none else none
noncomputable def qgS:Expr->Bool
 |.Constant (.str _) _ _=>true
 |_=>false
mutual
noncomputable def cS(g:Gx):Nat->Cc->Stmt->CS
 |0,_,_=>.no
 |n+1,C,st=>cS1 g n C st
noncomputable def cS1(g:Gx):Nat->Cc->Stmt->CS
 |0,_,_=>.no
 |n+1,C,st=>match st with
  |.Pass _=>.nx
  |.Break _=>.brk
  |.Continue _=>.cnt
  |.Return none _=>.ret (.c .non)
  |.Return (some e) _=>.ret (cE g n C e)
  |.Expr e _=>if qgS e then .nx else if qdG e then .exp (cE g n C e) else .no
  |.If t a b _=>.ife (cE g n C t) (cSs g n C a) (cSs g n C b)
  |.For tg it b [] _=>if(C.top&&C.calm)&&qbF it then .for_ (cG C n tg) (cI g n C tg it) (cSs g n C b) else .no
  |.Assign [.Name x p] e _=>qvY g n C x p e
  |.Assign [.Attribute o f _] e _=>.fld (g.fls f) f (cE g n C o) (cE g n C e)
  |.Assign [.Subscript o i _] e _=>.put (cE g n C o) (cE g n C i) (cE g n C e)
  |.Assign [.Tuple ts k p] e _=>(match e with
   |.Tuple vs _ _=>(qtj g n C ts vs).getD .no
   |e=>if qdG e then .asg (cG C n (.Tuple ts k p)) (cE g n C e) else .no)
  |.Raise (some (.Call (.Name x _) [a] [] _)) none _=>if C.top&&qim C x&&(g.ex.map (·.1)).contains x&&qgS a then .raise x else .no
  |_=>.no
noncomputable def cSs(g:Gx):Nat->Cc->List Stmt->List CS
 |0,_,_=>[.no]
 |n+1,C,aV=>aV.map (cS g n C)
end
noncomputable def qgg(st:Stmt):List Str:=(qar st).args.map (·.arg)
noncomputable def qfc(st:Stmt):List Str:=qgg st++((qae st).names.filter λy=>(decide (y.2= .local)||decide (y.2= .cell))&& !(qgg st).contains y.1).map (·.1)
noncomputable def qvX(lam:Bool)(st:Stmt):Cc:=⟨qfc st,qae st,true,true,true,lam⟩
noncomputable def qgw(st:Stmt):Bool:=decide ((qae st).kind= .function)&& !(qae st).isCoroutine&& !(qae st).isGenerator&&decide ((qfc st).Nodup)&&(qgg st).all (qpA (qae st))&&(qae st).names.all (λy=>decide (y.2≠.free))
 &&decide ((qar st).posonlyargs.length=0)&&(qar st).vararg.isNone&&decide ((qar st).kwonlyargs.length=0)&&decide ((qar st).kw_defaults.length=0)&&(qar st).kwarg.isNone&&decide ((qar st).defaults.length=0)
structure Fcd where
 kp:Bool
 n:Nat
 N:Nat
 b:List CS
noncomputable def cFn(g:Gx)(p:Str×Stmt):Fcd:=if qgw p.2 then⟨g.kp.contains p.1,(qgg p.2).length,(qfc p.2).length,cSs g 60 (qvX (g.lm.contains p.1) p.2) (qay p.2)⟩ else⟨true,0,0,[.no]⟩
noncomputable def Fcd.run(F:Fs)(c:Fcd):List T->Mu->R T:=fnR c.kp c.n c.N (runSs F c.b)
noncomputable def TTf(g:Gx):Nat->Fs
 |0,_=>λ_ _=>.no
 |k+1,i=>match g.fs[i]? with
  |some p=>(cFn g p).run (TTf g k)
  |none=>λ_ _=>.no
section
variable {F:Fs}{ρ:Ro}{μ:Mu}
noncomputable def lk:Option (Option T)->Mu->R T
 |some (some t),μ=>.ok t μ
 |_,_=>.no
@[simp] theorem qes(t:T)(μ:Mu):lk (some (some t)) μ= .ok t μ:=rfl
@[simp] theorem qtm{α β γ:Type}{r:R α}{f:α->Mu->R β}{g:β->Mu->R γ}:(r.bind f).bind g=r.bind λa m=>(f a m).bind g:=by cases r<;>rfl
@[simp] theorem qoF:runSs F [] ρ μ= .ok (.nx ρ) μ:=rfl
@[simp] theorem qaj{s:CS}{ss:List CS}:runSs F (s::ss) ρ μ=(qaP F s ρ μ).bind (qhY (runSs F ss)):=rfl
@[simp] theorem qaT{e:DS0 Out}{ρ:Ro}{μ:Mu}:qhY e (.nx ρ) μ=e ρ μ:=rfl
@[simp] theorem qlu{e:DS0 Out}{t:T}{μ:Mu}:qhY e (.rt t) μ= .ok (.rt t) μ:=rfl
@[simp] theorem qtv{e:DS0 Out}{ρ:Ro}{μ:Mu}:qhY e (.bk ρ) μ= .ok (.bk ρ) μ:=rfl
@[simp] theorem qtu{e:DS0 Out}{ρ:Ro}{μ:Mu}:qhY e (.ct ρ) μ= .ok (.ct ρ) μ:=rfl
@[simp] theorem qo3{t:T}{μ:Mu}:outT (.rt t) μ= .ok t μ:=rfl
@[simp] theorem quF{ρ:Ro}{μ:Mu}:outT (.nx ρ) μ= .ok .non μ:=rfl
@[simp] theorem qi5{b:Bool}{μ:Mu}:tbO (.bl b) μ= .ok b μ:=rfl
@[simp] theorem qxh:qaP F .nx ρ μ= .ok (.nx ρ) μ:=rfl
@[simp] theorem qaW{e:CE}:qaP F (.ret e) ρ μ=(qab F e ρ μ).bind λt μ=>.ok (.rt t) μ:=rfl
@[simp] theorem qe9{i:Nat}{e:CE}:qaP F (.set i e) ρ μ=(qab F e ρ μ).bind λt μ=>.ok (.nx (ρ.set i (some t))) μ:=rfl
@[simp] theorem qwh{g:CG}{e:CE}:qaP F (.asg g e) ρ μ=(qab F e ρ μ).bind λt μ=>(qb0 g t ρ μ).bind λρ' μ'=>.ok (.nx ρ') μ':=rfl
@[simp] theorem qcW{e:CE}:qaP F (.exp e) ρ μ=(qab F e ρ μ).bind λ_ μ=>.ok (.nx ρ) μ:=rfl
theorem qhq{α:Type}{c:Prop}[Decidable c]{f g:Ro->Mu->R α}:(if c then f else g) ρ μ=if c then f ρ μ else g ρ μ:=by split<;>rfl
@[simp] theorem qg8{t:CE}{a b:List CS}:qaP F (.ife t a b) ρ μ=(qab F t ρ μ).bind λx μ=>(tbO x μ).bind λc μ=>if c=true then runSs F a ρ μ else runSs F b ρ μ:=by
 show((qab F t ρ μ).bind λt μ=>tbO t μ).bind _=_;cases qab F t ρ μ with
 |ok x m=>show(tbO x m).bind _=(tbO x m).bind _;congr 1;funext c m';exact qhq
 |_=>rfl
@[simp] theorem qwg:qaP F .brk ρ μ= .ok (.bk ρ) μ:=rfl
@[simp] theorem qwf:qaP F .cnt ρ μ= .ok (.ct ρ) μ:=rfl
@[simp] theorem qtz{c:Str}:qaP F (.raise c) ρ μ= .ex c μ:=rfl
@[simp] theorem qnn{o i e:CE}:qaP F (.put o i e) ρ μ=(qab F e ρ μ).bind λv μ=>(qab F o ρ μ).bind λo μ=>(qab F i ρ μ).bind λi μ=>match qlb μ o i v with
 |some q=>if μ.live q.1=true then .ok (.nx ρ) (μ.put q.1 q.2) else .no
 |none=>.no:=rfl
@[simp] theorem qq0{is:List Nat}{es:List CE}:qaP F (.par is es) ρ μ=(runA F es ρ μ).bind λts μ=>match qbh is ts ρ with|some ρ'=>.ok (.nx ρ') μ|none=>.no:=rfl
@[simp] theorem qdD{cs:List Str}{f:Str}{o e:CE}:qaP F (.fld cs f o e) ρ μ=(qab F e ρ μ).bind λt μ=>(qab F o ρ μ).bind λo μ=>(qqw (λc _=>cs.contains c) f t o μ).bind λ_ μ=>.ok (.nx ρ) μ:=rfl
theorem qq2{g:CG}{it:CI}{b:List CS}:qaP F (.for_ g it b) ρ μ=(runI F it ρ μ).bind λit μ=>qtH (qb0 g) (runSs F b) it ρ μ:=rfl
@[simp] theorem qwc:qbh [] [] ρ=some ρ:=rfl
@[simp] theorem qt5{i:Nat}{is:List Nat}{t:T}{ts:List T}:qbh (i::is) (t::ts) ρ=qbh is ts (ρ.set i (some t)):=rfl
@[simp] theorem qxk{i:Nat}{t:T}:qb0 (.n i) t ρ μ= .ok (ρ.set i (some t)) μ:=rfl
@[simp] theorem qwn{gs:List CG}{ts:List T}:qb0 (.tup gs) (.tup ts) ρ μ=if ts.length=gs.length then runGs gs ts ρ μ else .no:=rfl
@[simp] theorem quh:runGs [] [] ρ μ= .ok ρ μ:=rfl
@[simp] theorem qtA{g:CG}{gs:List CG}{t:T}{ts:List T}:runGs (g::gs) (t::ts) ρ μ=(qb0 g t ρ μ).bind (runGs gs ts):=rfl
@[simp] theorem qcp:runA F [] ρ μ= .ok [] μ:=rfl
@[simp] theorem qaF{e:CE}{es:List CE}:runA F (e::es) ρ μ=(qab F e ρ μ).bind λx μ=>(runA F es ρ μ).bind λxs μ=>.ok (x::xs) μ:=rfl
@[simp] theorem qlF{i:Nat}:qab F (.v i) ρ μ=lk ρ[i]? μ:=by
 show dV i ρ μ=_;unfold dV
 rcases ρ[i]? with _|_|_<;>rfl
@[simp] theorem qwr{t:T}:qab F (.c t) ρ μ= .ok t μ:=rfl
@[simp] theorem qwo{es:List CE}:qab F (.tup es) ρ μ=(runA F es ρ μ).bind λxs μ=>if xs.length<=1000 then .ok (.tup xs) μ else .no:=rfl
@[simp] theorem qup{es:List CE}:qab F (.lst false es) ρ μ=(runA F es ρ μ).bind λxs μ=>if xs.length<=1000 then .ok (.lst xs) μ else .no:=by
 show((runA F es ρ μ).bind λxs μ=>if xs.length<=1000 then R.ok (Ct.ls xs) μ else .no).bind fzC=_;cases runA F es ρ μ with
 |ok x m=>show(if x.length<=1000 then R.ok (Ct.ls x) m else .no).bind fzC=if x.length<=1000 then R.ok (T.lst x) m else .no;split<;>rfl
 |_=>rfl
@[simp] theorem quo{es:List CE}:qab F (.lst true es) ρ μ=(runA F es ρ μ).bind λxs μ=>if xs.length<=1000 then .ok (.obj μ.l.length) (μ.add (.ls xs)) else .no:=by
 show((runA F es ρ μ).bind λxs μ=>if xs.length<=1000 then R.ok (Ct.ls xs) μ else .no).bind (λc μ=>R.ok (T.obj μ.l.length) (μ.add c))=_;cases runA F es ρ μ with
 |ok x m=>show(if x.length<=1000 then R.ok (Ct.ls x) m else .no).bind (λc μ=>R.ok (T.obj μ.l.length) (μ.add c))=if x.length<=1000 then R.ok (T.obj m.l.length) (m.add (.ls x)) else .no;split<;>rfl
 |_=>rfl
@[simp] theorem qoH:qab F (.dct true) ρ μ= .ok (.obj μ.l.length) (μ.add (.dk [])):=rfl
@[simp] theorem qur:qab F (.dct false) ρ μ= .ok (.dct []) μ:=rfl
@[simp] theorem qej{ow:Bool}{o:O2}{a b:CE}:qab F (.o2 ow o a b) ρ μ=(qab F a ρ μ).bind λx μ=>(qab F b ρ μ).bind λy μ=>nvR ow (o.g μ x y) μ:=rfl
@[simp] theorem qwp{a:CE}:qab F (.neg a) ρ μ=(qab F a ρ μ).bind qsr:=rfl
@[simp] theorem qtG{i:Int}{μ:Mu}:qsr (.int i) μ= .ok (.int (-i)) μ:=rfl
@[simp] theorem qxm{a:CE}:qab F (.nt a) ρ μ=(qab F a ρ μ).bind λx μ=>(tbO x μ).bind λc μ=>.ok (.bl (!c)) μ:=by show((qab F a ρ μ).bind λt μ=>tbO t μ).bind _=_;cases qab F a ρ μ<;>rfl
@[simp] theorem qws{a b:CE}:qab F (.and a b) ρ μ=(qab F a ρ μ).bind λx μ=>(tbO x μ).bind λc μ=>if c=true then qab F b ρ μ else .ok (.bl false) μ:=by
 show((qab F a ρ μ).bind λt μ=>tbO t μ).bind _=_;cases qab F a ρ μ with
 |ok x m=>show(tbO x m).bind _=(tbO x m).bind _;congr 1;funext c m';exact qhq
 |_=>rfl
@[simp] theorem qum{a b:CE}:qab F (.or a b) ρ μ=(qab F a ρ μ).bind λx μ=>(tbO x μ).bind λc μ=>if c=true then .ok (.bl true) μ else qab F b ρ μ:=by
 show((qab F a ρ μ).bind λt μ=>tbO t μ).bind _=_;cases qab F a ρ μ with
 |ok x m=>show(tbO x m).bind _=(tbO x m).bind _;congr 1;funext c m';exact qhq
 |_=>rfl
@[simp] theorem qwq{t a b:CE}:qab F (.ife t a b) ρ μ=(qab F t ρ μ).bind λx μ=>(tbO x μ).bind λc μ=>if c=true then qab F a ρ μ else qab F b ρ μ:=by
 show((qab F t ρ μ).bind λt μ=>tbO t μ).bind _=_;cases qab F t ρ μ with
 |ok x m=>show(tbO x m).bind _=(tbO x m).bind _;congr 1;funext c m';exact qhq
 |_=>rfl
@[simp] theorem qtB{o p:O2}{a b c:CE}:qab F (.chain o p a b c) ρ μ=(qab F a ρ μ).bind λx μ=>(qab F b ρ μ).bind λy μ=>(nvR false (o.g μ x y) μ).bind λz μ=>(tbO z μ).bind λk μ=>if k=true then(qab F c ρ μ).bind λw μ=>nvR false (p.g μ y w) μ else .ok (.bl false) μ:=rfl
@[simp] theorem qus{ow:Bool}{b:Bn}{es:List CE}:qab F (.bn ow b es) ρ μ=(runA F es ρ μ).bind λts μ=>nvR ow (b.g μ ts) μ:=rfl
@[simp] theorem qlG{ow:Bool}{b:Bm}{o:CE}{es:List CE}:qab F (.bm ow b o es) ρ μ=(qab F o ρ μ).bind λo μ=>if qfg μ o=b.ty then(runA F es ρ μ).bind λts μ=>nvR ow (b.g μ (o::ts)) μ else .no:=rfl
@[simp] theorem quq{N:String}{a:CE}:qab F (.inst N a) ρ μ=(qab F a ρ μ).bind λx μ=>qdd N x μ:=rfl
@[simp] theorem quj{ow:Bool}{a:CE}:qab F (.sset ow a) ρ μ=(qab F a ρ μ).bind λx μ=>nvR ow (qwE μ x) μ:=rfl
@[simp] theorem qul{a:CE}:qab F (.slen a) ρ μ=(qab F a ρ μ).bind λx μ=>nvR false (qj4 μ x) μ:=rfl
@[simp] theorem qxl{ow:Bool}{a:CE}{lo hi:Option CE}:qab F (.sl ow a lo hi) ρ μ=(qab F a ρ μ).bind λx μ=>(runO F lo ρ μ).bind λl μ=>(runO F hi ρ μ).bind λh μ=>nvR ow (gSl μ x l h) μ:=rfl
@[simp] theorem quf:runO F none ρ μ= .ok none μ:=rfl
noncomputable def asI:T->Mu->R (Option Int)
 |.int i,μ=>.ok (some i) μ
 |_,_=>.no
@[simp] theorem qv2{i:Int}:asI (.int i) μ= .ok (some i) μ:=rfl
@[simp] theorem que{e:CE}:runO F (some e) ρ μ=(qab F e ρ μ).bind asI:=by
 show(qab F e ρ μ).bind (λt μ=>match t with|.int i=>R.ok (some i) μ|_=>.no)=_
 congr 1;funext t m;unfold asI;cases t<;>rfl
@[simp] theorem qaD{i:Nat}{es:List CE}:qab F (.call i es) ρ μ=(runA F es ρ μ).bind λts μ=>F i ts μ:=rfl
@[simp] theorem qun{c:Str}{i:Nat}{es:List CE}:qab F (.make c i es) ρ μ=(runA F es ρ μ).bind λts μ=>mkR c (F i) ts μ:=rfl
@[simp] theorem qnp{cs:List Str}{f:Str}{o:CE}:qab F (.fld cs f o) ρ μ=(qab F o ρ μ).bind λo μ=>qnH (λc _=>cs.contains c) f o μ:=rfl
@[simp] theorem quk{ow:Bool}{b:KB}{a:CE}:qab F (.srtK ow b a) ρ μ=(qab F a ρ μ).bind λx μ=>nvR ow (qnF b μ x) μ:=rfl
theorem qq4{a b:CE}:qab F (.alt a b) ρ μ=qs4 (qab F a) (qab F b) ρ μ:=rfl
theorem qoI{a b:CE}(h:qab F a ρ μ= .no):qab F (.alt a b) ρ μ=qab F b ρ μ:=by rw[qq4];unfold qs4;rw[h]
@[simp] theorem qtF{ow:Bool}{t:T}{μ:Mu}:nvR ow (some (.v t)) μ= .ok t μ:=rfl
@[simp] theorem qx9{ow:Bool}{ts:List T}{μ:Mu}:nvR ow (some (.t ts)) μ= .ok (.tup ts) μ:=rfl
@[simp] theorem qxo{ts:List T}{μ:Mu}:nvR false (some (.l ts)) μ= .ok (.lst ts) μ:=rfl
@[simp] theorem qxn{ts:List T}{μ:Mu}:nvR true (some (.l ts)) μ= .ok (.obj μ.l.length) (μ.add (.ls ts)):=rfl
@[simp] theorem qxp{ts:List (Key×T)}{μ:Mu}:nvR false (some (.d ts)) μ= .ok (.dct ts) μ:=rfl
theorem qrV{ow:Bool}{k:Nat}{c:Ct}{t:T}{μ:Mu}(h:μ.live k=true):nvR ow (some (.p k c t)) μ= .ok t (μ.put k c):=by show(if μ.live k=true then _ else _)=_;rw[if_pos h]
@[simp] theorem qso{i j:Int}:O2.g .add μ (.int i) (.int j)=some (.v (.int (i+j))):=rfl
@[simp] theorem qxH{i j:Int}:O2.g .sub μ (.int i) (.int j)=some (.v (.int (i - j))):=rfl
@[simp] theorem qxJ{i j:Int}:O2.g .mul μ (.int i) (.int j)=if(-4294967296<=i/\i<=4294967296)\/(-4294967296<=j/\j<=4294967296) then some (.v (.int (i*j))) else none:=rfl
@[simp] theorem qxR{i j:Int}:O2.g .div μ (.int i) (.int j)=if 0<j/\j<1073741824 then some (.v (.int (i / j))) else none:=rfl
@[simp] theorem qxK{i j:Int}:O2.g .mod μ (.int i) (.int j)=if 0<j then some (.v (.int (i % j))) else none:=rfl
@[simp] theorem qyb{i j:Int}:O2.g .lt μ (.int i) (.int j)=some (.v (.bl (decide (i<j)))):=rfl
@[simp] theorem qyc{i j:Int}:O2.g .le μ (.int i) (.int j)=some (.v (.bl (decide (i<=j)))):=rfl
@[simp] theorem qyd{i j:Int}:O2.g .gt μ (.int i) (.int j)=some (.v (.bl (decide (j<i)))):=rfl
@[simp] theorem qye{i j:Int}:O2.g .ge μ (.int i) (.int j)=some (.v (.bl (decide (j<=i)))):=rfl
@[simp] theorem qxL{i j:Str}:O2.g .lt μ (.str i) (.str j)=some (.v (.bl (qhZ i j))):=rfl
@[simp] theorem qxM{i j:Str}:O2.g .le μ (.str i) (.str j)=some (.v (.bl (!qhZ j i))):=rfl
@[simp] theorem qwD{i j:Str}:O2.g .add μ (.str i) (.str j)=if i.length+j.length<=100000 then some (.v (.str (i++j))) else none:=rfl
@[simp] theorem qwC{x:T}{xs:List T}{y:T}{ys:List T}:O2.g .add μ (.tup (x::xs)) (.tup (y::ys))=if xs.length+ys.length<=900 then some (.t (x::xs++y::ys)) else none:=rfl
@[simp] theorem qvl{ys:List T}:O2.g .add μ (.tup []) (.tup ys)=some (.v (.tup ys)):=rfl
@[simp] theorem qvk{x:T}{xs:List T}:O2.g .add μ (.tup (x::xs)) (.tup [])=if xs.length<=900 then some (.v (.tup (x::xs))) else none:=rfl
theorem qvi{a b:T}(h:okT 8 (dr1 μ a)=true)(h':okT 8 (dr1 μ b)=true):O2.g .eq μ a b=some (.v (.bl (eqT (dr1 μ a) (dr1 μ b)))):=by show qnG false μ a b=_;unfold qnG;rw[if_pos ⟨h,h'⟩];rfl
theorem qwB{a b:T}(h:okT 8 (dr1 μ a)=true)(h':okT 8 (dr1 μ b)=true):O2.g .ne μ a b=some (.v (.bl (!eqT (dr1 μ a) (dr1 μ b)))):=by show qnG true μ a b=_;unfold qnG;rw[if_pos ⟨h,h'⟩];rfl
theorem qvf{a b t:T}(h:okT 8 t=true)(ha:dr1 μ a=t)(hb:dr1 μ b=t):O2.g .eq μ a b=some (.v (.bl true)):=by rw[qvi (by rw[ha];exact h) (by rw[hb];exact h),ha,hb,qcJ _ _ h]
theorem qpD{a b t:T}(h:okT 8 t=true)(ha:dr1 μ a=t)(hb:dr1 μ b=t):O2.g .ne μ a b=some (.v (.bl false)):=by rw[qwB (by rw[ha];exact h) (by rw[hb];exact h),ha,hb,qcJ _ _ h];rfl
theorem qgH{α:Type}[BEq α][LawfulBEq α][DecidableEq α](a b:α):(a==b)=decide (a=b):=by by_cases h:a=b<;>simp[h]
@[simp] theorem qvh{i j:Int}:O2.g .eq μ (.int i) (.int j)=some (.v (.bl (decide (i=j)))):=by rw[qvi rfl rfl];show some (Nv.v (.bl (i==j)))=_;rw[qgH]
@[simp] theorem qxI{i j:Int}:O2.g .ne μ (.int i) (.int j)=some (.v (.bl (!decide (i=j)))):=by rw[qwB rfl rfl];show some (Nv.v (.bl (!(i==j))))=_;rw[qgH]
@[simp] theorem qxQ{i j:Str}:O2.g .eq μ (.str i) (.str j)=some (.v (.bl (decide (i=j)))):=by rw[qvi rfl rfl];show some (Nv.v (.bl (i==j)))=_;rw[qgH]
@[simp] theorem qvg{ns:List Int}:O2.g .eq μ (.scr ns) (.lst [])=some (.v (.bl ns.isEmpty)):=rfl
noncomputable def ixT{α:Type}(ts:List α)(i:Int):Option α:=if 0<=i then ts[i.toNat]? else if 0<=(ts.length:Int)+i then ts[((ts.length:Int)+i).toNat]? else none
theorem qeM{α:Type}(ts:List α)(i:Int):atI ts i=ixT ts i:=by
 unfold atI ixN ixT;by_cases h:0<=i
 ·rw[if_pos h,if_pos h];split
  ·rfl
  ·rw[List.getElem?_eq_none_iff.mpr (by omega)];rfl
 ·rw[if_neg h,if_neg h];by_cases h2:0<=(ts.length:Int)+i
  ·rw[if_pos (by omega),if_pos h2,Int.add_comm];rfl
  ·rw[if_neg (by omega),if_neg h2];rfl
@[simp] theorem qxN{ts:List T}{i:Int}:O2.g .ix μ (.tup ts) (.int i)=(ixT ts i).map .v:=by rw[<-qeM];rfl
@[simp] theorem qxP{ts:List T}{i:Int}:O2.g .ix μ (.lst ts) (.int i)=(ixT ts i).map .v:=by rw[<-qeM];rfl
@[simp] theorem qvd{ns:List Int}{i:Int}:O2.g .ix μ (.scr ns) (.int i)=(ixT ns i).map λn=>.v (.int n):=by
 show(atI (ns.map T.int) i).map Nv.v=_;rw[qeM];unfold ixT;simp only[List.getElem?_map,List.length_map];split
 ·rw[Option.map_map];rfl
 ·split
  ·rw[Option.map_map];rfl
  ·rfl
theorem qda{α:Type}{ts:List α}{i:Int}(h:0<=i):ixT ts i=ts[i.toNat]? :=by unfold ixT;rw[if_pos h]
@[simp] theorem qxu{α:Type}{ts:List α}:ixT ts 0=ts[0]? :=qda (by omega)
@[simp] theorem qxt{α:Type}{ts:List α}:ixT ts 1=ts[1]? :=qda (by omega)
@[simp] theorem qxs{α:Type}{ts:List α}:ixT ts 2=ts[2]? :=qda (by omega)
theorem qxO{k:Nat}{ts:List T}{i:Int}(h:μ.l[k]? =some (.ls ts)):O2.g .ix μ (.obj k) (.int i)=(ixT ts i).map .v:=by
 show(match qcn μ (.obj k) with|some q=>(atI q.2 i).map Nv.v|none=>gDG μ (.obj k) (.int i))=_;have e:qcn μ (.obj k)=some (true,ts):=by show sqv μ (.obj k)=_;simp only[sqv,h]
 rw[e];show(atI ts i).map Nv.v=_;rw[qeM]
theorem qvc{k:Nat}{kvs:List (List Key×T)}{y:T}{q:List Key}(h:μ.l[k]? =some (.du kvs))(hk:qnu y=some q):O2.g .ix μ (.obj k) y=(qf4 kvs q).map .v:=by
 have e0:qfo y=none:=by cases y<;>first|rfl|cases hk
 have e1:dkv μ (.obj k)=none:=by simp only[dkv,h]
 have e2:duv μ (.obj k)=some kvs:=by simp only[duv,h]
 have e:gDG μ (.obj k) y=(qf4 kvs q).map .v:=by unfold gDG qdO;rw[e1,e2,hk];rfl
 cases y with
 |tup ts=>exact e
 |_=>cases hk
theorem qve{k:Nat}{kvs:List (Key×T)}{y:T}{q:Key}(h:μ.l[k]? =some (.dk kvs))(hk:qfo y=some q):O2.g .ix μ (.obj k) y=(qf4 kvs q).map .v:=by
 have e1:dkv μ (.obj k)=some kvs:=by simp only[dkv,h]
 have e:gDG μ (.obj k) y=(qf4 kvs q).map .v:=by unfold gDG qdO;rw[e1,hk];rfl
 cases y with
 |int i=>
  show(match qcn μ (.obj k) with|some q=>(atI q.2 i).map Nv.v|none=>gDG μ (.obj k) (.int i))=_;have e2:qcn μ (.obj k)=none:=by show sqv μ (.obj k)=_;simp only[sqv,h]
  rw[e2];exact e
 |str s=>exact e
 |_=>cases hk
@[simp] theorem qwU{ts:List T}:Bn.g .len μ [.lst ts]=some (.v (.int ts.length)):=rfl
@[simp] theorem qwT{ts:List T}:Bn.g .len μ [.tup ts]=some (.v (.int ts.length)):=rfl
@[simp] theorem qtK{ns:List Int}:Bn.g .len μ [.scr ns]=some (.v (.int ns.length)):=by show some (Nv.v (.int (ns.map T.int).length))=_;rw[List.length_map]
theorem qto{z:Str}(h:z.length<=100000):Bn.g .len μ [.str z]=some (.v (.int z.length)):=by show(match(if z.length<=100000 then some (Nv.v (.int z.length)) else none) with|some n=>some n|none=>qip μ [.str z])=_;rw[if_pos h]
@[simp] theorem qwQ{i j:Int}:Bn.g .max μ [.int i,.int j]=some (.v (.int (max i j))):=by
 show some (Nv.v (.int (if j>i then j else i)))=_
 congr 3;split<;>omega
theorem qk3(xs:List Bool):qdw (xs.map T.bl)=some xs:=by
 induction xs with
 |nil=>rfl
 |cons x xs ih=>show(qdw (xs.map T.bl)).map _=_;rw[ih];rfl
@[simp] theorem qv1{bs:List Bool}:Bn.g .all μ [.lst (bs.map T.bl)]=some (.v (.bl (bs.all id))):=by show((qdw (bs.map T.bl))).map _=_;rw[qk3];rfl
@[simp] theorem qwS{ts:List T}:Bn.g .lst μ [.lst ts]=some (.l ts):=rfl
@[simp] theorem qwR{ts:List T}:Bn.g .lst μ [.tup ts]=some (.l ts):=rfl
@[simp] theorem qxD{N:String}{i:Int}:qdd N (.int i) μ= .ok (.bl (qjU N "int")) μ:=rfl
@[simp] theorem qya{N:String}{i:Bool}:qdd N (.bl i) μ= .ok (.bl (qjU N "bool")) μ:=rfl
@[simp] theorem qxA{N:String}{i:Str}:qdd N (.str i) μ= .ok (.bl (qjU N "str")) μ:=rfl
@[simp] theorem qxz{N:String}{i:List T}:qdd N (.tup i) μ= .ok (.bl (qjU N "tuple")) μ:=rfl
@[simp] theorem qxC{N:String}{i:List T}:qdd N (.lst i) μ= .ok (.bl (qjU N "list")) μ:=rfl
@[simp] theorem qxB{N:String}:qdd N .non μ= .ok (.bl (qjU N "NoneType")) μ:=rfl
end
section
variable {F:Fs}{μ:Mu}
theorem qii{t:T}:leave μ (.ok t μ)= .ok t μ:=if_pos rfl
theorem qav{c:Fcd}{ts:List T}{t:T}(hl:ts.length=c.n)(h:(runSs F c.b (ts.map some++List.replicate (c.N - c.n) none) μ).bind outT= .ok t μ):c.run F ts μ= .ok t μ:=by
 unfold Fcd.run fnR;rw[if_pos hl,h];unfold lv;split
 ·rfl
 ·exact qii
theorem qj9{n:Nat}{l:List Ct}{d:Nat}{t:T}(h:ub t<=n):fzT n l d t=some t:=by cases d<;>(unfold fzT;rw[if_pos h])
end
section
variable {F:Fs}{ρ:Ro}{μ:Mu}
noncomputable def Its(μ:Mu)(it:Ito)(ts:List T):Prop:=(∀i,nxt it μ i=some ts[i]?)/\qbU it μ=ts.length
noncomputable def qdq(F:Fs)(ci:CI)(ρ:Ro)(μ:Mu)(ts:List T):Prop:= ∃it,runI F ci ρ μ= .ok it μ/\Its μ it ts
noncomputable def itv(μ:Mu):T->Option (List T)
 |.lst ts=>some ts
 |.tup ts=>some ts
 |.obj k=>(match μ.l[k]? with|some (.ls ts)=>some ts|_=>none)
 |.str z=>if z.length<=1000 then some (z.cps.toList.map λc=>.str ⟨#[c]⟩) else none
 |_=>none
@[simp] theorem qu5{ts:List T}:itv μ (.lst ts)=some ts:=rfl
@[simp] theorem qu4{ts:List T}:itv μ (.tup ts)=some ts:=rfl
theorem qhp{ts:List T}:Its μ (.fx ts) ts:=⟨λ_=>rfl,rfl⟩
theorem qsf{k:Nat}{ts:List T}(h:μ.l[k]? =some (.ls ts)):Its μ (.lv k) ts:=⟨λi=>by simp only[nxt,h],by simp only[qbU,h]⟩
theorem qb4{e:CE}{t:T}{ts:List T}(he:qab F e ρ μ= .ok t μ)(ht:itv μ t=some ts):qdq F (.gen e) ρ μ ts:=by
 have e0:runI F (.gen e) ρ μ=qnA t μ:=by show(qab F e ρ μ).bind (λt μ=>qnA t μ)=_;rw[he];rfl
 unfold qdq;rw[e0];cases t with
 |lst _|tup _=>cases ht;exact⟨_,rfl,qhp⟩
 |str z=>
  simp only[itv] at ht;split at ht
  ·rename_i hz;cases ht;exact⟨_,if_pos hz,qhp⟩
  ·cases ht
 |obj k=>
  simp only[itv] at ht;split at ht
  ·rename_i q;cases ht;exact⟨.lv k,by simp only[qnA,q],qsf q⟩
  ·cases ht
 |_=>cases ht
theorem qsh{e e':CE}{ts us:List T}(he:qab F e ρ μ= .ok (.lst ts) μ)(he':qab F e' ρ μ= .ok (.lst us) μ):qdq F (.by_ .zip [e,e']) ρ μ (qiC ts us):=by refine⟨.fx (qiC ts us),?_,qhp⟩;show(runA F [e,e'] ρ μ).bind (λts μ=>qf2 ts μ)=_;simp only[qaF,qcp,he,he',qaa,qf2,sq2]
section
variable {α:Type}{l:List α}{f:α->T}{p:α->Bool}{h:α->T}
theorem qeI {dg:T->DS0 Ro} {dt:DS0 Bool} {de:DS0 T} {I:Ro->Prop} {it:Ito} (hn: ∀i,nxt it μ i=some (l.map f)[i]?)
  (hs: ∀a∈l,∀ρ,I ρ->∃ρ',I ρ'/\dg (f a) ρ μ= .ok ρ' μ/\dt ρ' μ= .ok (p a) μ/\(p a=true->de ρ' μ= .ok (h a) μ)):
  ∀(n i:Nat) (ρ:Ro),l.length<=n+i->I ρ->qa5 it dg dt de n i ρ μ= .ok (((l.drop i).filter p).map h) μ
 |0,i,ρ,hl,hI=>by have e:(l.map f)[i]? =none:=List.getElem?_eq_none_iff.mpr (by rw[List.length_map];omega);simp only[qa5,hn,e];rw[List.drop_eq_nil_of_le (by omega)];rfl
 |n+1,i,ρ,hl,hI=>by
  simp only[qa5,hn];by_cases hi:i<l.length
  ·rw[List.getElem?_map,List.getElem?_eq_getElem hi];obtain⟨ρ',i1,e1,e2,e3⟩:=hs l[i] (List.getElem_mem hi) ρ hI;simp only[Option.map_some,e1,e2,qaa];rw[List.drop_eq_getElem_cons hi];cases q:p l[i] with
   |true=>rw[if_pos rfl,e3 q,qaa,qeI hn hs n (i+1) ρ' (by omega) i1,List.filter_cons_of_pos q];rfl
   |false=>rw[if_neg (by decide),qeI hn hs n (i+1) ρ' (by omega) i1,List.filter_cons_of_neg (by rw[q];decide)]
  ·rw[List.getElem?_eq_none_iff.mpr (by rw[List.length_map];omega),List.drop_eq_nil_of_le (by omega)];rfl
theorem qeH {x:Bool} {n:Nat} {fr:List Nat} {g:CG} {ci:CI} {t:Option CE} {e:CE} {I:Ro->Prop} (hi:qdq F ci ρ μ (l.map f)) (h0:I (qbq n fr ρ))
  (hs: ∀a∈l,∀ρ,I ρ->∃ρ',I ρ'/\qb0 g (f a) ρ μ= .ok ρ' μ/\runT F t ρ' μ= .ok (p a) μ/\(p a=true->qab F e ρ' μ= .ok (h a) μ)):
  qck x n fr (runI F ci) (qb0 g) (runT F t) (qab F e) ρ μ= .ok (.ls ((l.filter p).map h)) μ:=by obtain⟨it,e1,hn,hl⟩:=hi;unfold qck dSq;rw[e1,qaa];unfold qs7;rw[qhx,qeI hn hs _ 0 _ (by rw[hl,List.length_map];omega) h0];cases x<;>rfl
theorem qkt{x:Bool}{n:Nat}{fr:List Nat}{g:CG}{ci:CI}{t:Option CE}{e:CE}{ts:List T}(h:qck x n fr (runI F ci) (qb0 g) (runT F t) (qab F e) ρ μ= .ok (.ls ts) μ):qab F (.comp false x n fr g ci t e) ρ μ= .ok (.lst ts) μ:=by show(qck x n fr (runI F ci) (qb0 g) (runT F t) (qab F e) ρ μ).bind (λc μ=>fzC c μ)=_;rw[h];rfl
abbrev frO(fr:List Nat)(ρ:Ro):Ro:=fr.map λi=>(ρ[i]?).join
variable (l f p h)
theorem qmR {x:Bool} {fr:List Nat} {ci:CI} {t:Option CE} {e:CE} (hi:qdq F ci ρ μ (l.map f)) (ht: ∀a∈l,runT F t (some (f a)::frO fr ρ) μ= .ok (p a) μ) (he: ∀a∈l,p a=true->qab F e (some (f a)::frO fr ρ) μ= .ok (h a) μ):
  qab F (.comp false x 1 fr (.n 0) ci t e) ρ μ= .ok (.lst ((l.filter p).map h)) μ:=
 qkt (qeH (I:=λσ=> ∃y,σ=y::frO fr ρ) hi ⟨none,rfl⟩ λa ha σ ⟨y,e⟩=>⟨_,⟨_,rfl⟩,by rw[e];rfl,ht a ha,he a ha⟩)
theorem qhy {x:Bool} {fr:List Nat} {ci:CI} {e:CE} (hi:qdq F ci ρ μ (l.map f)) (he: ∀a∈l,qab F e (some (f a)::frO fr ρ) μ= .ok (h a) μ):
  qab F (.comp false x 1 fr (.n 0) ci none e) ρ μ= .ok (.lst (l.map h)) μ:=by
 have:=qmR l f (λ_=>true) h (x:=x) (t:=none) hi (λ_ _=>rfl) λa ha _=>he a ha
 rwa [List.filter_eq_self.mpr λ_ _=>rfl] at this
theorem qvR {x:Bool} {fr:List Nat} {ci:CI} {t:Option CE} {e:CE} {u v:α->T} (hi:qdq F ci ρ μ (l.map λa=>.tup [u a,v a])) (ht: ∀a∈l,runT F t (some (u a)::some (v a)::frO fr ρ) μ= .ok (p a) μ) (he: ∀a∈l,p a=true->qab F e (some (u a)::some (v a)::frO fr ρ) μ= .ok (h a) μ):
  qab F (.comp false x 2 fr (.tup [.n 0,.n 1]) ci t e) ρ μ= .ok (.lst ((l.filter p).map h)) μ:=
 qkt (qeH (I:=λσ=> ∃y z,σ=y::z::frO fr ρ) hi ⟨none,none,rfl⟩ λa ha σ ⟨y,z,e⟩=>⟨_,⟨_,_,rfl⟩,by rw[e];rfl,ht a ha,he a ha⟩)
theorem qs8 {x:Bool} {fr:List Nat} {ci:CI} {e:CE} {u v:α->T} (hi:qdq F ci ρ μ (l.map λa=>.tup [u a,v a])) (he: ∀a∈l,qab F e (some (u a)::some (v a)::frO fr ρ) μ= .ok (h a) μ):
  qab F (.comp false x 2 fr (.tup [.n 0,.n 1]) ci none e) ρ μ= .ok (.lst (l.map h)) μ:=by
 have:=qvR l (λ_=>true) h (x:=x) (t:=none) hi (λ_ _=>rfl) λa ha _=>he a ha
 rwa [List.filter_eq_self.mpr λ_ _=>rfl] at this
theorem qvQ {x:Bool} {fr:List Nat} {ci:CI} {t:Option CE} {e:CE} {u v w:α->T} (hi:qdq F ci ρ μ (l.map λa=>.tup [u a,v a,w a])) (ht: ∀a∈l,runT F t (some (u a)::some (v a)::some (w a)::frO fr ρ) μ= .ok (p a) μ) (he: ∀a∈l,p a=true->qab F e (some (u a)::some (v a)::some (w a)::frO fr ρ) μ= .ok (h a) μ):
  qab F (.comp false x 3 fr (.tup [.n 0,.n 1,.n 2]) ci t e) ρ μ= .ok (.lst ((l.filter p).map h)) μ:=
 qkt (qeH (I:=λσ=> ∃y z o,σ=y::z::o::frO fr ρ) hi ⟨none,none,none,rfl⟩ λa ha σ ⟨y,z,o,e⟩=>⟨_,⟨_,_,_,rfl⟩,by rw[e];rfl,ht a ha,he a ha⟩)
theorem qnV {x:Bool} {fr:List Nat} {ci:CI} {e:CE} {u v w:α->T} (hi:qdq F ci ρ μ (l.map λa=>.tup [u a,v a,w a])) (he: ∀a∈l,qab F e (some (u a)::some (v a)::some (w a)::frO fr ρ) μ= .ok (h a) μ):
  qab F (.comp false x 3 fr (.tup [.n 0,.n 1,.n 2]) ci none e) ρ μ= .ok (.lst (l.map h)) μ:=by
 have:=qvQ l (λ_=>true) h (x:=x) (t:=none) hi (λ_ _=>rfl) λa ha _=>he a ha
 rwa [List.filter_eq_self.mpr λ_ _=>rfl] at this
end
@[simp] theorem qoE:runT F none ρ μ= .ok true μ:=rfl
@[simp] theorem qub{e:CE}:runT F (some e) ρ μ=(qab F e ρ μ).bind tbO:=rfl
noncomputable def qxG:Out->Option Ro
 |.nx ρ=>some ρ
 |.ct ρ=>some ρ
 |_=>none
theorem qkc {α:Type} {l:List α} {f:α->T} {dg:T->DS0 Ro} {db:DS0 Out} {it:Ito} (J:List α->Ro->Mu->Prop) (hn: ∀d r ρ μ,l=d++r->J d ρ μ->nxt it μ d.length=some (r.map f)[0]?)
  (hs: ∀d a r,l=d++a::r->∀ρ μ,J d ρ μ->∃ao aa o af ax,dg (f a) ρ μ= .ok ao aa/\db ao aa= .ok o af/\qxG o=some ax/\J (d++[a]) ax af):
  ∀(r d:List α) (n:Nat) (ρ:Ro) (μ:Mu),l=d++r->r.length<=n->J d ρ μ->∃ρ' μ',qfv it dg db n d.length ρ μ= .ok (.nx ρ') μ'/\J l ρ' μ'
 |[],d,n,ρ,μ,hl,hr,hJ=>by have e:=hn d [] ρ μ hl hJ;refine⟨ρ,μ,?_,by rw[hl,List.append_nil];exact hJ⟩;cases n<;>(simp only[qfv,e];rfl)
 |a::r,d,n,ρ,μ,hl,hr,hJ=>by
  have e:=hn d (a::r) ρ μ hl hJ;obtain⟨n,rfl⟩: ∃k,n=k+1:=⟨n - 1,by simp at hr;omega⟩
  obtain⟨ao,aa,o,af,ax,e1,e2,e3,j2⟩:=hs d a r hl ρ μ hJ;obtain⟨ρ',μ',e4,j3⟩:=qkc J hn hs r (d++[a]) n ax af (by rw[hl];simp) (by simpa using hr) j2;refine⟨ρ',μ',?_,j3⟩;rw[List.length_append] at e4;simp only[qfv,e,List.map_cons,List.getElem?_cons_zero,e1,e2,qaa];cases o with
  |nx _|ct _=>cases e3;exact e4
  |rt _|bk _=>cases e3
theorem qkb {α:Type} (l:List α) (f:α->T) (J:List α->Ro->Mu->Prop) {g:CG} {ci:CI} {b:List CS} {β:Type} {k:Out->Mu->R β} {r:R β} {ts:List T} (ht:ts=l.map f) (hi: ∃it,runI F ci ρ μ= .ok it μ/\(it= .fx ts\/∃q,it= .lv q/\μ.l[q]? =some (.ls ts)/\∀d ρ' μ',J d ρ' μ'->μ'.l[q]? =some (.ls ts))) (h0:J [] ρ μ)
  (hs: ∀d a r,l=d++a::r->∀ρ μ,J d ρ μ->∃ax af,((qb0 g (f a) ρ μ).bind (runSs F b)= .ok (.nx ax) af\/(qb0 g (f a) ρ μ).bind (runSs F b)= .ok (.ct ax) af)/\J (d++[a]) ax af)
  (hk: ∀ρ' μ',J l ρ' μ'->k (.nx ρ') μ'=r):(qaP F (.for_ g ci b) ρ μ).bind k=r:=by
 obtain⟨it,e1,e2⟩:=hi;subst ht;rw[qq2,e1,qaa,qke];have hlen:qbU it μ=l.length:=by
  rcases e2 with rfl|⟨q,rfl,hq,_⟩
  ·exact List.length_map ..
  ·simp only[qbU,hq,List.length_map]
 obtain⟨ρ',μ',e3,j⟩:=qkc (l:=l) (f:=f) (it:=it) J (λd r ρ' μ' hl hJ=>by
  have:(l.map f)[d.length]? =(r.map f)[0]? :=by rw[hl];cases r<;>simp
  rcases e2 with rfl|⟨q,rfl,_,hq⟩
  ·show some (l.map f)[d.length]? =_;rw[this]
  ·simp only[nxt,hq d ρ' μ' hJ,this]) (λd a r hl ρ μ hJ=>by
  obtain⟨ax,af,e,j⟩:=hs d a r hl ρ μ hJ;cases q:qb0 g (f a) ρ μ with
  |ok ao aa=>
   rw[q,qaa] at e
   rcases e with e|e<;>exact⟨ao,aa,_,af,ax,q,e,rfl,j⟩
  |no=>rw[q] at e;rcases e with e|e<;>cases e
  |ex c m=>rw[q] at e;rcases e with e|e<;>cases e) l [] (qbU it μ) ρ μ rfl (by omega) h0
 rw[show qfv it (qb0 g) (runSs F b) (qbU it μ) 0 ρ μ=_ from e3];exact hk ρ' μ' j
theorem qey {α:Type} (l:List α) (f:α->T) (J:List α->Ro->Mu->Prop) {g:CG} {ci:CI} {b:List CS} {β:Type} {k:Out->Mu->R β} {r:R β} {ts:List T} (ht:ts=l.map f) (hi: ∃it,runI F ci ρ μ= .ok it μ/\(it= .fx ts\/∃q,it= .lv q/\μ.l[q]? =some (.ls ts)/\∀d ρ' μ',J d ρ' μ'->μ'.l[q]? =some (.ls ts))) (h0:J [] ρ μ)
  (hs: ∀d a r,l=d++a::r->∀ρ μ,J d ρ μ->∃ax af,(qb0 g (f a) ρ μ).bind (runSs F b)= .ok (.nx ax) af/\J (d++[a]) ax af)
  (hk: ∀ρ' μ',J l ρ' μ'->k (.nx ρ') μ'=r):(qaP F (.for_ g ci b) ρ μ).bind k=r:=
 qkb l f J ht hi h0 (λd a r hl ρ μ hJ=>by obtain⟨ax,af,e,j⟩:=hs d a r hl ρ μ hJ;exact⟨ax,af,.inl e,j⟩) hk
theorem qcv{e:CE}{t:T}{ts:List T}(he:qab F e ρ μ= .ok t μ)(ht:t= .lst ts\/t= .tup ts){Q:Ito->Prop}: ∃it,runI F (.gen e) ρ μ= .ok it μ/\(it= .fx ts\/Q it):=by
 refine⟨.fx ts,?_,.inl rfl⟩;show(qab F e ρ μ).bind (λt μ=>qnA t μ)=_
 rcases ht with rfl|rfl<;>rw[he]<;>rfl
@[simp] theorem Mu.add_l{c:Ct}:(μ.add c).l=μ.l++[c]:=rfl
@[simp] theorem Mu.put_l{c:Ct}{k:Nat}:(μ.put k c).l=μ.l.set k c:=rfl
theorem Mu.add_k{c:Ct}(h:ubC c<=μ.l.length):μ.add c=⟨μ.l++[c],μ.k⟩:=by unfold Mu.add;rw[if_pos h]
theorem Mu.put_k{c:Ct}{k:Nat}(h:ubC c<=k):μ.put k c=⟨μ.l.set k c,μ.k⟩:=by unfold Mu.put;rw[if_pos h]
theorem qbS{k:Nat}{c:Ct}(h:μ.l[k]? =some c)(n:c≠.gone):μ.live k=true:=by simp only[Mu.live,h]
theorem qll: ∀{ts:List T},(∀t∈ts,ub t=0)->ubs ts=0
 |[],_=>by unfold ubs;rfl
 |t::ts,h=>by unfold ubs;rw[h t List.mem_cons_self,qll λu hu=>h u (List.mem_cons_of_mem _ hu)];rfl
theorem qod{κ:Type}: ∀{ts:List (κ×T)},(∀p∈ts,ub p.2=0)->ubf ts=0
 |[],_=>rfl
 |(k,t)::ts,h=>by unfold ubf;rw[h (k,t) List.mem_cons_self,qod λu hu=>h u (List.mem_cons_of_mem _ hu)];rfl
noncomputable def Mu.on(μ:Mu)(c:Ct):Mu:=⟨μ.l++[c],μ.k⟩
theorem Mu.add_on{c:Ct}(h:ubC c=0):μ.add c=μ.on c:=Mu.add_k (by omega)
@[simp] theorem Mu.on_at{c:Ct}:(μ.on c).l[μ.l.length]? =some c:=by show(μ.l++[c])[_]? =_;simp
theorem Mu.on_put{c c':Ct}(h:ubC c'=0):(μ.on c).put μ.l.length c'=μ.on c':=by rw[Mu.put_k (by omega)];show Mu.mk ((μ.l++[c]).set μ.l.length c') μ.k=_;rw[List.set_append_right _ _ (by omega)];simp[Mu.on]
end
abbrev Row:=Int×Str×Int
noncomputable def qac(r:Row):T:=.tup [.int r.1,.str r.2.1,.int r.2.2]
abbrev keyOk:=PL.keyOk
abbrev rowOk:=PL.rowOk
noncomputable def qmV(ns:List Int)(k:Int):Int:=if k<(ns.length:Int) then ns.getD k.toNat 0 else if ns=[] then 0 else ns.getD (k % (ns.length:Int)).toNat 0*31+k
noncomputable def qcw(ns:List Int)(k:Int):Int:=(qmV ns k+6151*(k+1))*40692 % 2147483399
noncomputable def qbE(ns:List Int)(k many:Int):Int:=(qcw ns k*qcw ns k+qcw ns k / 31) % 2147483629 % many
theorem qcX{ns:List Int}{k many:Int}(h:0<many):0<=qbE ns k many:=Int.emod_nonneg _ (by omega)
theorem qcY{ns:List Int}{k many:Int}(h:0<many):qbE ns k many<many:=Int.emod_lt_of_pos _ h
noncomputable def qhI:Fcd:=⟨false,2,2,[.ife (.o2 false .lt (.v 1) (.bn false .len [(.v 0)])) [.ret (.o2 false .ix (.v 0) (.v 1))] [],.ife (.o2 false .eq (.v 0) (.lst false [])) [.ret (.c (.int 0))] [],.ret (.o2 false .add (.o2 false .mul (.o2 false .ix (.v 0) (.o2 false .mod (.v 1) (.bn false .len [(.v 0)]))) (.c (.int 31))) (.v 1))]⟩
noncomputable def qnZ(c:Nat):Fcd:=⟨false,3,4,[.set 3 (.o2 false .mod (.o2 false .mul (.o2 false .add (.call c [(.v 0),(.v 1)]) (.o2 false .mul (.c (.int 6151)) (.o2 false .add (.v 1) (.c (.int 1))))) (.c (.int 40692))) (.c (.int 2147483399))),.ret (.o2 false .mod (.o2 false .mod (.o2 false .add (.o2 false .mul (.v 3) (.v 3)) (.o2 false .div (.v 3) (.c (.int 31)))) (.c (.int 2147483629))) (.v 2))]⟩
section
variable {F:Fs}{μ:Mu}{ns:List Int}
theorem qqc{k:Int}(h0:0<=k):qhI.run F [.scr ns,.int k] μ= .ok (.int (qmV ns k)) μ:=by
 refine qav rfl ?_;unfold qmV;by_cases c1:k<(ns.length:Int)
 ·have e:ixT ns k=some (ns.getD k.toNat 0):=by rw[qda h0,List.getElem?_eq_getElem (by omega),List.getD_eq_getElem?_getD,List.getElem?_eq_getElem (by omega)];rfl
  simp[qhI,c1,e]
 ·by_cases c2:ns=[]
  ·subst c2;have c1: ¬k<0:=by omega
   simp[qhI,c1]
  ·have hl:=List.length_pos_iff.mpr c2;have m0:0<=k % (ns.length:Int):=Int.emod_nonneg _ (by omega);have m1:k % (ns.length:Int)<(ns.length:Int):=Int.emod_lt_of_pos _ (by omega);have e:ixT ns (k % (ns.length:Int))=some (ns.getD (k % (ns.length:Int)).toNat 0):=by rw[qda m0,List.getElem?_eq_getElem (by omega),List.getD_eq_getElem?_getD,List.getElem?_eq_getElem (by omega)];rfl
   simp[qhI,c1,c2,e,hl]
theorem qoU{c:Nat}{k m:Int}(hc:F c [.scr ns,.int k] μ= .ok (.int (qmV ns k)) μ)(hm:0<m):(qnZ c).run F [.scr ns,.int k,.int m] μ= .ok (.int (qbE ns k m)) μ:=by
 refine qav rfl ?_;have d0:0<=qcw ns k:=Int.emod_nonneg _ (by decide);have d1:qcw ns k<2147483399:=Int.emod_lt_of_pos _ (by decide);have d2: -4294967296<=qcw ns k/\qcw ns k<=4294967296:=⟨by omega,by omega⟩
 unfold qbE;unfold qcw at*;simp[qnZ,hc,hm,d2]
structure Drw(F:Fs)(p:Nat)(ns:List Int):Prop where
 p: ∀{μ:Mu} {k m:Int},0<=k->0<m->F p [.scr ns,.int k,.int m] μ= .ok (.int (qbE ns k m)) μ
theorem qbR{k:Nat}{ts:List T}{m:Mu}(h:m.l[k]? =some (.ls ts)):qfg m (.obj k)= "list" :=by
 have e:qcb m (.obj k)=some ts:=by
  have:qcn m (.obj k)=some (true,ts):=by show sqv m (.obj k)=_;simp only[sqv,h]
  simp only[qcb,this]
 unfold qfg;rw[e];rfl
@[simp] theorem qtP:Bm.ty .append= "list" /\Bm.ty .extend= "list" /\Bm.ty .insert= "list" /\Bm.ty .pop= "list" /\Bm.ty .clear= "list" /\Bm.ty .reverse= "list" /\Bm.ty .count= "list" /\Bm.ty .index= "list" :=⟨rfl,rfl,rfl,rfl,rfl,rfl,rfl,rfl⟩
theorem qm8{k:Nat}{ts:List T}{x:T}{m:Mu}{ow:Bool}(h:m.l[k]? =some (.ls ts))(hl:ts.length<=1000):nvR ow (Bm.g .append m [.obj k,x]) m= .ok .non (m.put k (.ls (ts++[x]))):=by
 have e:Bm.g .append m [.obj k,x]=some (.p k (.ls (ts++[x])) .non):=by show(qf0 m (.obj k)).bind _=_;simp only[qf0,h,Option.bind_some];exact if_pos hl
 rw[e,qrV (qbS h (by simp))]
theorem qgP(r:Row):ub (qac r)=0:=by simp[qac,ub,ubs]
theorem qlm(rs:List Row):ubC (.ls (rs.map qac))=0:=qll λt ht=>by obtain⟨r,_,rfl⟩:=List.mem_map.mp ht;exact qgP r
end
noncomputable def qkB:Fcd:=⟨false,1,1,[.ret (.and (.inst "int" (.v 0)) (.nt (.inst "bool" (.v 0))))]⟩
noncomputable def qhF(w:Nat):Fcd:=⟨false,3,3,[.ret (.and (.call w [(.v 0)]) (.chain .le .le (.v 1) (.v 0) (.v 2)))]⟩
noncomputable def qnW:Fcd:=⟨false,2,2,[.ife (.or (.nt (.inst "str" (.v 0))) (.nt (.chain .le .le (.c (.int 1)) (.bn false .len [(.v 0)]) (.v 1)))) [.ret (.c (.bl false))] [],.ret (.bn false .all [(.comp false false 1 [] (.n 0) (.gen (.v 0)) none (.chain .le .le (.c (.str "a")) (.v 0) (.c (.str "z"))))])]⟩
noncomputable def qkM(w:Nat):Fcd:=⟨false,1,1,[.ret (.call w [(.v 0),(.c (.int 2))])]⟩
noncomputable def qkK(w k:Nat):Fcd:=⟨false,1,1,[.ife (.or (.nt (.inst "tuple" (.v 0))) (.o2 false .ne (.bn false .len [(.v 0)]) (.c (.int 3)))) [.ret (.c (.bl false))] [],.ife (.or (.nt (.call w [(.o2 false .ix (.v 0) (.c (.int 0))),(.c (.int 0)),(.c (.int 99))])) (.nt (.call k [(.o2 false .ix (.v 0) (.c (.int 1)))]))) [.ret (.c (.bl false))] [],.ret (.call w [(.o2 false .ix (.v 0) (.c (.int 2))),(.neg (.c (.int 99))),(.c (.int 99))])]⟩
noncomputable def qkG(r:Nat):Fcd:=⟨false,1,1,[.ife (.nt (.bn false .all [(.comp false false 1 [] (.n 0) (.gen (.v 0)) none (.call r [(.v 0)]))])) [.raise "NoRow"] []]⟩
section
variable {F:Fs}{μ:Mu}
theorem qhK{α:Type}{l:List α}{p:α->Bool}:Bn.g .all μ [.lst (l.map λa=>.bl (p a))]=some (.v (.bl (l.all p))):=by
 have:(l.map λa=>T.bl (p a))=(l.map p).map T.bl:=by rw[List.map_map];rfl
 rw[this,qv1,List.all_map];rfl
theorem qeN{α:Type}(l:List α):(l.all λ_=>true)=true:=List.all_eq_true.mpr λ_ _=>rfl
theorem qle{i:Int}:qkB.run F [.int i] μ= .ok (.bl true) μ:=qav rfl (by simp[qkB,qjU])
theorem qiI{w:Nat}{i a b:Int}(h:F w [.int i] μ= .ok (.bl true) μ):(qhF w).run F [.int i,.int a,.int b] μ= .ok (.bl (decide (a<=i)&&decide (i<=b))) μ:=by refine qav rfl ?_;by_cases c:a<=i<;>simp[qhF,h,c]
theorem qow{c:Nat}(h:97<=c/\c<=122):qhZ ⟨#[c]⟩ "a" =false/\qhZ "z" ⟨#[c]⟩=false:=by
 have e1:("a" :Str).cps.toList=[97]:=rfl;have e2:("z" :Str).cps.toList=[122]:=rfl;have n1: ¬([c]:List Nat)<[97]:=by
  rw[List.cons_lt_cons_iff];rintro(h1|⟨_,h2⟩)
  ·omega
  ·exact absurd h2 (List.not_lt_nil _)
 have n2: ¬([122]:List Nat)<[c]:=by
  rw[List.cons_lt_cons_iff];rintro(h1|⟨_,h2⟩)
  ·omega
  ·exact absurd h2 (List.not_lt_nil _)
 constructor
 ·show decide (([c]:List Nat)<("a" :Str).cps.toList)=_;rw[e1,decide_eq_false n1]
 ·show decide (("z" :Str).cps.toList<([c]:List Nat))=_;rw[e2,decide_eq_false n2]
theorem qn8{x:Str}(h:keyOk x):qnW.run F [.str x,.int 2] μ= .ok (.bl true) μ:=by
 have l1:(1:Int)<=(x.length:Int):=by have:=h.1.1;omega
 have l2:(x.length:Int)<=2:=by have:=h.1.2;omega
 have l3:x.length<=1000:=by have:=h.1.2;omega
 refine qav rfl ?_;have cm:=qhy (F:=F) (μ:=μ) (ρ:=[some (.str x),some (.int 2)]) (x:=false) (fr:=[]) (ci:=.gen (.v 0)) (e:=.chain .le .le (.c (.str "a")) (.v 0) (.c (.str "z"))) x.cps.toList (λc=>.str ⟨#[c]⟩) (λ_=>.bl true) (qb4 (t:=.str x) (by simp) (if_pos l3)) λc hc=>by have:=qow (h.2 c hc);simp[this]
 simp[qnW,qjU,l1,l2,qto (show x.length<=100000 by omega),cm,qhK,qeN]
theorem qmh{w:Nat}{x:Str}(h:F w [.str x,.int 2] μ= .ok (.bl true) μ):(qkM w).run F [.str x] μ= .ok (.bl true) μ:=qav rfl (by simp[qkM,h])
theorem qmf{w k:Nat}{r:Row}(h:rowOk r)(hw: ∀i a b:Int,F w [.int i,.int a,.int b] μ= .ok (.bl (decide (a<=i)&&decide (i<=b))) μ)(hk: ∀x:Str,keyOk x->F k [.str x] μ= .ok (.bl true) μ):(qkK w k).run F [qac r] μ= .ok (.bl true) μ:=by obtain⟨⟨h1,h2⟩,h3,h4,h5⟩:=h;exact qav rfl (by simp[qkK,qac,qjU,hw,hk _ h3,h1,h2,h4,h5])
theorem ql4{r:Nat}{t:T}{rs:List Row}(ht:itv μ t=some (rs.map qac))(h: ∀x∈rs,rowOk x)(hr: ∀x:Row,rowOk x->F r [qac x] μ= .ok (.bl true) μ):(qkG r).run F [t] μ= .ok .non μ:=by
 refine qav rfl ?_;have cm:=qhy (F:=F) (μ:=μ) (ρ:=[some t]) (x:=false) (fr:=[]) (ci:=.gen (.v 0)) (e:=.call r [(.v 0)]) rs qac (λ_=>.bl true) (qb4 (t:=t) (by simp) ht) λx hx=>by simp[hr x (h x hx)]
 simp[qkG,cm,qhK,qeN]
end
theorem qam{F:Fs}{s:CS}{ss:List CS}{ρ ρ':Ro}{μ μ':Mu}{β:Type}{k:Out->Mu->R β}{r:R β}(h:qaP F s ρ μ= .ok (.nx ρ') μ')(h':(runSs F ss ρ' μ').bind k=r):(runSs F (s::ss) ρ μ).bind k=r:=by rw[qaj,h,qaa,qaT];exact h'
theorem qeb{F:Fs}{s:CS}{ss:List CS}{ρ:Ro}{μ μ':Mu}{t:T}(h:qaP F s ρ μ= .ok (.rt t) μ'):(runSs F (s::ss) ρ μ).bind outT= .ok t μ':=by rw[qaj,h,qaa,qlu,qaa,qo3]
theorem qb6 {F:Fs} {ρ:Ro} {μ:Mu} {α:Type} (l:List α) (f:α->T) (J:List α->Ro->Mu->Prop) {g:CG} {ci:CI} {b:List CS} {ts:List T} (ht:ts=l.map f) (hi: ∃it,runI F ci ρ μ= .ok it μ/\(it= .fx ts\/∃q,it= .lv q/\μ.l[q]? =some (.ls ts)/\∀d ρ' μ',J d ρ' μ'->μ'.l[q]? =some (.ls ts))) (h0:J [] ρ μ)
  (hs: ∀d a r,l=d++a::r->∀ρ μ,J d ρ μ->∃ax af,(qb0 g (f a) ρ μ).bind (runSs F b)= .ok (.nx ax) af/\J (d++[a]) ax af): ∃ρ' μ',qaP F (.for_ g ci b) ρ μ= .ok (.nx ρ') μ'/\J l ρ' μ':=by
 refine Classical.byContradiction λhc=> ?_;cases q:qaP F (.for_ g ci b) ρ μ with
 |no|ex c m=>have:=qey (β:=Unit) (k:=λ_ m=>R.ok () ⟨[],[]⟩) (r:=R.ok () ⟨[],[]⟩) l f J ht hi h0 hs (λρ' μ' j=>rfl);rw[q] at this;cases this
 |ok o m=>
  have:=qey (β:=Unit) (k:=λo m=>match o with|.nx ρ'=>(open Classical in if J l ρ' m then R.ok () ⟨[],[]⟩ else R.no)|_=>R.no) (r:=R.ok () ⟨[],[]⟩) l f J ht hi h0 hs (λρ' μ' j=>by simp[j]);rw[q] at this;cases o with
  |nx ρ'=>
   simp only[qaa] at this;split at this
   ·rename_i j;exact hc ⟨ρ',m,q,j⟩
   ·cases this
  |_=>cases this
structure Sto(μ m:Mu)(cs:List Ct):Prop where
 l:m.l=μ.l++cs
 k: ∃ks,m.k=ks++μ.k/\∀p∈ks,μ.l.length<=p.1
namespace Sto
variable {μ m:Mu}{cs:List Ct}
end Sto
section
variable {μ:Mu}
theorem qpl{k:Nat}{ts:List (Key×T)}(h:μ.l[k]? =some (.dk ts)):qfg μ (.obj k)= "dict" :=by
 have e:qcb μ (.obj k)=none:=by
  have:qcn μ (.obj k)=none:=by show sqv μ (.obj k)=_;simp only[sqv,h]
  simp only[qcb,this]
 have e2:dkv μ (.obj k)=some ts:=by simp only[dkv,h]
 unfold qfg;rw[e,e2];rfl
@[simp] theorem qiT:Bm.ty .get= "dict" /\Bm.ty .dpop= "dict" /\Bm.ty .dclear= "dict" /\Bm.ty .setdef= "dict" :=⟨rfl,rfl,rfl,rfl⟩
theorem qt6{t:T}{ts:List T}(h:qcb μ t=some ts){m:Int}(hm:0<=m):gSl μ t none (some m)=some (.l (ts.take m.toNat)):=by
 have e:qiw ts none (some m)=ts.take m.toNat:=by
  unfold qiw;rw[HT.sIx_none,show(some m:Option Int)=some ((m.toNat:Nat):Int) by rw[Int.toNat_of_nonneg hm],HT.sIx_nat,List.drop_zero,Nat.sub_zero]
  rcases Nat.le_total m.toNat ts.length with q|q
  ·rw[Nat.min_eq_left q]
  ·rw[Nat.min_eq_right q,List.take_length,List.take_of_length_le q]
 have e2:qcn μ t=some (true,ts):=by
  unfold qcb at h;split at h
  ·rename_i q;cases h;exact q
  ·cases h
 unfold gSl;split
 ·cases e2
 ·cases e2
 ·rw[e2];show some (Nv.l (qiw ts none (some m)))=_;rw[e]
@[simp] theorem ql8{ts:List T}:qcb μ (.lst ts)=some ts:=rfl
end
end NV
namespace Wk
open PySem NV L2
abbrev Pl:=Int×Str
inductive Ks where
 |n (c:Option Int)|d (D:List (Str×Int))|w (E:List (Pl×Int))
noncomputable def kS(p:Pl):List Key:=[.inl p.1,.inr p.2]
noncomputable def ct:Ks->Ct
 |.n none=>.dk []
 |.n (some c)=>.dk [(.inr "came",.int c)]
 |.d D=>.dk (D.map λp=>(.inr p.1,.int p.2))
 |.w []=>.dk []
 |.w (x::E)=>.du ((x::E).map λp=>(kS p.1,.int p.2))
section
theorem qd5(s:Ks):ubC (ct s)=0:=by
 cases s with
 |n c=>cases c<;>rfl
 |d D=>exact qod λp hp=>by obtain⟨y,_,rfl⟩:=List.mem_map.mp hp;rfl
 |w E=>cases E with
  |nil=>rfl
  |cons x E=>exact qod λp hp=>by obtain⟨y,_,rfl⟩:=List.mem_map.mp hp;rfl
theorem qfk(hl:m.l=l'++cs)(hn:l'.length=μ.l.length)(hk:m.k=μ.k)(hc:cs≠[])(hz:fzT μ.l.length m.l 3 t=some t'):leave μ (.ok t m)= .ok t' ⟨l',μ.k⟩:=by
 have e0:m.l.length≠μ.l.length:=by rw[hl,List.length_append,hn];have:=List.length_pos_iff.mpr hc;omega
 have e1:μ.nw m=[]:=by unfold Mu.nw;rw[hk];simp
 have e2:μ.apart m=true:=by unfold Mu.apart;rw[e1,hk,hl];simp[hn]
 have e3:μ.back m=⟨l',μ.k⟩:=by unfold Mu.back;rw[e1,hl,<-hn];simp
 show(if m.l.length=μ.l.length then _ else _)=_;rw[if_neg e0,if_pos e2,hz];show R.ok t' (μ.back m)=_;rw[e3]
theorem qjc{μ:Mu}{c:Fcd}{ts:List T}{k:Nat}(hl:ts.length=c.n)(hk:c.kp=false)(h:(runSs F c.b (ts.map some++List.replicate (c.N - c.n) none) μ).bind outT= .ok (.obj μ.l.length) ⟨μ.l.set k (ct s)++[.ls us],μ.k⟩)(hu: ∀t∈us,ub t=0):c.run F ts μ= .ok (.lst us) (μ.put k (ct s)):=by
 unfold Fcd.run fnR;rw[if_pos hl,h];unfold lv;rw[hk,if_neg (by decide)];have e:(μ.l.set k (ct s)++[Ct.ls us])[μ.l.length]? =some (.ls us):=by rw[List.getElem?_append_right (by simp)];simp
 have em:us.mapM (fzT μ.l.length (μ.l.set k (ct s)++[Ct.ls us]) 2)=some us:=by
  generalize μ.l.set k (ct s)++[Ct.ls us]=l at*;clear e h
  induction us with
  |nil=>rfl
  |cons u us ih=>rw[List.mapM_cons,qj9 (by rw[hu u List.mem_cons_self];exact Nat.zero_le _),ih λt ht=>hu t (Vl _ ht)];rfl
 have hz:fzT μ.l.length (μ.l.set k (ct s)++[Ct.ls us]) 3 (.obj μ.l.length)=some (.lst us):=by unfold fzT;rw[if_neg (by show ¬(μ.l.length+1<=_);omega)];simp only[e];rw[em];rfl
 rw[Mu.put_k (by rw[qd5];exact Nat.zero_le _)];exact qfk (m:=⟨μ.l.set k (ct s)++[Ct.ls us],μ.k⟩) (l':=μ.l.set k (ct s)) (cs:=[.ls us]) rfl (by simp) rfl (by simp) hz
noncomputable def get(D:List (Str×Int))(k:Str):Option Int:=(D.find? λp=>decide (p.1=k)).map (·.2)
noncomputable def put(D:List (Str×Int))(k:Str)(v:Int):List (Str×Int):=if(D.any λp=>decide (p.1=k))=true then D.map (λp=>if p.1=k then(p.1,v) else p) else D++[(k,v)]
abbrev dS(D:List (Str×Int)):List (Key×T):=D.map λp=>(.inr p.1,.int p.2)
theorem kd(a k:Str):decide ((Sum.inr a:Key)= .inr k)=decide (a=k):=decide_eq_decide.mpr ⟨λh=>by injection h,λh=>by rw[h]⟩
theorem qiO(D:List (Str×Int))(k:Str):qf4 (dS D) (.inr k)=(get D k).map T.int:=by unfold qf4 get;rw[List.find?_map,Option.map_map,Option.map_map];have:((λkv:Key×T=>decide (kv.1= .inr k))∘λp:Str×Int=>((.inr p.1:Key),T.int p.2))=λp=>decide (p.1=k):=funext λp=>kd p.1 k;rw[this];rfl
theorem qq9(D:List (Str×Int))(k:Str)(v:Int):qk8 (dS D) (.inr k) (.int v)=dS (put D k v):=by
 have ha:((dS D).any λkv=>decide (kv.1= .inr k))=D.any λp=>decide (p.1=k):=by rw[List.any_map];congr 1;exact funext λp=>kd p.1 k
 unfold qk8 put;rw[ha];by_cases c:(D.any λp=>decide (p.1=k))=true
 ·rw[if_pos c,if_pos c];simp only[dS,List.map_map];refine List.map_congr_left λp _=> ?_;show(if(Sum.inr p.1:Key)= .inr k then((.inr p.1:Key),T.int v) else(.inr p.1,.int p.2))=((.inr (if p.1=k then(p.1,v) else p).1:Key),T.int (if p.1=k then(p.1,v) else p).2)
  by_cases q:p.1=k
  ·rw[if_pos (by rw[q]),if_pos q]
  ·rw[if_neg (λh=>q (by injection h)),if_neg q]
 ·rw[if_neg c,if_neg c];simp[dS]
theorem qpB(D:List (Str×Int))(k:Str)(v:Int):get (put D k v) k=some v:=by
 unfold put get;by_cases c:(D.any λp=>decide (p.1=k))=true
 ·rw[if_pos c]
  induction D with
  |nil=>cases c
  |cons p D ih=>
   rw[List.map_cons];by_cases q:p.1=k
   ·rw[if_pos q,List.find?_cons_of_pos (by simp[q])];rfl
   ·rw[if_neg q,List.find?_cons_of_neg (by simp[q])];exact ih (by simpa [q] using c)
 ·rw[if_neg c,List.find?_append];have:D.find? (λp=>decide (p.1=k))=none:=List.find?_eq_none.mpr λp hp e=>c (List.any_eq_true.mpr ⟨p,hp,e⟩);rw[this];simp
theorem qgd(D:List (Str×Int))(k:Str)(v:Int):(put D k v).length<=D.length+1:=by unfold put;split<;>simp
theorem qpG(h:μ.l[k]? =some (ct (.d D))):Bm.g .get μ [.obj k,.str y,.int x]=some (.v (.int ((get D y).getD x))):=by
 have e1:dkv μ (.obj k)=some (dS D):=by simp only[dkv,h,ct]
 have e:qdO μ (.obj k) (.str y)=some (qf4 (dS D) (.inr y)):=by unfold qdO;rw[e1];rfl
 show gOr qmp qft μ [.obj k,.str y,.int x]=_;unfold gOr;have:qmp μ [.obj k,.str y,.int x]=some (.v (.int ((get D y).getD x))):=by show(qdO μ (.obj k) (.str y)).map _=_;rw[e,qiO];cases get D y<;>rfl
 rw[this]
theorem qj5(h:μ.l[k]? =some (ct (.d D)))(hl:D.length<=1000):qlb μ (.obj k) (.str y) (.int v)=some (k,ct (.d (put D y v))):=by
 have e1:qf0 μ (.obj k)=none:=by simp only[qf0,h,ct]
 have e2:qk9 μ (.obj k)=some (k,dS D):=by simp only[qk9,h,ct]
 unfold qlb;rw[e1,e2];show(if(dS D).length<=1000 then some (k,Ct.dk (qk8 (dS D) (.inr y) (.int v))) else none)=_;rw[if_pos (by rw[List.length_map];exact hl),qq9];rfl
theorem qj3(h:μ.l[k]? =some (ct (.d D))):O2.g .ix μ (.obj k) (.str y)=(get D y).map λv=>.v (.int v):=by rw[qve h (show qfo (.str y)=some (.inr y) from rfl),show qf4 _ _=_ from qiO D y,Option.map_map];rfl
end
noncomputable def fo{S:Type}(f:S->Row->List Row×S):S->List Row->List Row×S
 |s,[]=>([],s)
 |s,r::rs=>((f s r).1++(fo f (f s r).2 rs).1,(fo f (f s r).2 rs).2)
theorem qb7(f:S->Row->List Row×S): ∀(s:S) (a b:List Row),fo f s (a++b)=((fo f s a).1++(fo f (fo f s a).2 b).1,(fo f (fo f s a).2 b).2)
 |_,[],_=>rfl
 |s,r::a,b=>by simp only[List.cons_append,fo,qb7 f (f s r).2 a b,List.append_assoc]
abbrev DD:=List (Str×Int)
noncomputable def qqs(D:DD)(r:Row):List Row×DD:=([(r.1,r.2.1,(get D r.2.1).getD 0+r.2.2)],put D r.2.1 ((get D r.2.1).getD 0+r.2.2))
noncomputable def qlc(D:DD)(r:Row):List Row×DD:=(match get D r.2.1 with|some v=>[(r.1,r.2.1,r.2.2 - v)]|none=>[],put D r.2.1 r.2.2)
noncomputable def qiS(D:DD)(r:Row):List Row×DD:=(if get D r.2.1=some r.2.2 then [] else [r],put D r.2.1 r.2.2)
noncomputable def st(μ:Mu)(k:Nat)(s:Ks)(us:List Row):Mu:=⟨μ.l.set k (ct s)++[.ls (us.map qac)],μ.k⟩
section
theorem qgU(hk:k<μ.l.length):(st μ k s us).l[k]? =some (ct s):=by show(μ.l.set k (ct s)++_)[k]? =_;rw[List.getElem?_append_left (by simpa using hk),List.getElem?_set_self hk]
theorem qnh:(st μ k s us).l[μ.l.length]? =some (.ls (us.map qac)):=by show(μ.l.set k (ct s)++_)[μ.l.length]? =_;rw[List.getElem?_append_right (by simp)];simp
theorem qbo(hk:k<μ.l.length):(st μ k s us).put k (ct s')=st μ k s' us:=by rw[Mu.put_k (by rw[qd5];exact Nat.zero_le _)];show Mu.mk ((μ.l.set k (ct s)++_).set k _) _=_;rw[List.set_append_left _ _ (by simpa using hk),List.set_set];rfl
theorem qi8:(st μ k s us).put μ.l.length (.ls (vs.map qac))=st μ k s vs:=by rw[Mu.put_k (by rw[qlm];exact Nat.zero_le _)];show Mu.mk ((μ.l.set k (ct s)++_).set _ _) _=_;rw[List.set_append_right _ _ (by simp)];simp[st]
theorem qcR(hk:k<μ.l.length)(hn:ct s≠.gone):(st μ k s us).live k=true:=qbS (qgU hk) hn
theorem qgE(s:Ks):ct s≠.gone:=by
 cases s with
 |n c=>cases c<;>(intro h;cases h)
 |d D=>intro h;cases h
 |w E=>cases E<;>(intro h;cases h)
theorem qgV{μ:Mu}(h:μ.l[k]? =some (ct s)):μ.l.set k (ct s)=μ.l:=by obtain⟨hk,e⟩:=List.getElem?_eq_some_iff.mp h;rw[<-e,List.set_getElem_self]
theorem qn5{μ:Mu}(h:μ.l[k]? =some (ct s)):μ.add (.ls [])=st μ k s []:=by rw[Mu.add_on rfl];unfold st;rw[qgV h];rfl
theorem qjJ (hk:μ.l[k]? =some (ct (.d D0))) (hd:D0.length+rs.length<=900) (ha:itv μ a=some (rs.map qac)) (hfx:a= .lst (rs.map qac)) (hf: ∀D r,(f D r).1.length<=1) (hp: ∀D r,(f D r).2.length<=D.length+1) (hb: ∀(D:DD) (us:List Row) (r:Row),D.length<=900->us.length<=900->runSs F body [some a,some (.obj k),some (.obj μ.l.length),some (.int r.1),some (.str r.2.1),some (.int r.2.2)] (st μ k (.d D) us)= .ok (.nx [some a,some (.obj k),some (.obj μ.l.length),some (.int r.1),some (.str r.2.1),some (.int r.2.2)]) (st μ k (.d (f D r).2) (us++(f D r).1))):
  Fcd.run F ⟨false,2,6,[.set 2 (.lst true []),.for_ (.tup [(.n 3),(.n 4),(.n 5)]) (.gen (.v 0)) body,.ret (.v 2)]⟩ [a,.obj k] μ= .ok (.lst ((fo f D0 rs).1.map qac)) (μ.put k (ct (.d (fo f D0 rs).2))):=by
 have bQ: ∀(d:List Row) (D:DD),(fo f D d).1.length<=d.length/\(fo f D d).2.length<=D.length+d.length:=by
  intro d
  induction d with
  |nil=>intro D;exact⟨Vm _,Vm _⟩
  |cons r d ih=>intro D;obtain⟨i1,i2⟩:=ih (f D r).2;have:=hf D r;have:=hp D r;refine⟨?_,?_⟩<;>simp only[fo,List.length_append,List.length_cons]<;>omega
 have fin:(runSs F [.set 2 (.lst true []),.for_ (.tup [(.n 3),(.n 4),(.n 5)]) (.gen (.v 0)) body,.ret (.v 2)] [some a,some (.obj k),none,none,none,none] μ).bind outT= .ok (.obj μ.l.length) (st μ k (.d (fo f D0 rs).2) (fo f D0 rs).1):=by
  refine qam (ρ':=[some a,some (.obj k),some (.obj μ.l.length),none,none,none]) (μ':=st μ k (.d D0) []) ?_ ?_
  ·rw[<-qn5 hk];rfl
  obtain⟨ρ',μ',e1,x3,x4,x5,rfl,rfl⟩:=qb6 (F:=F) (ρ:=[some a,some (.obj k),some (.obj μ.l.length),none,none,none]) (μ:=st μ k (.d D0) []) (g:=.tup [(.n 3),(.n 4),(.n 5)]) (ci:=.gen (.v 0)) (b:=body) rs qac (λd ρ' μ'=> ∃x3 x4 x5,ρ'=[some a,some (.obj k),some (.obj μ.l.length),x3,x4,x5]/\μ'=st μ k (.d (fo f D0 d).2) (fo f D0 d).1) rfl (qcv (t:=a) (by simp) (.inl hfx)) ⟨none,none,none,rfl,rfl⟩ (by
   rintro d r q hq ρ' μ' ⟨x3,x4,x5,rfl,rfl⟩;obtain⟨l1,l2⟩:=bQ d D0;have eQ:d.length<rs.length:=by rw[hq];simp
   refine⟨_,_,hb (fo f D0 d).2 (fo f D0 d).1 r (by omega) (by omega),_,_,_,rfl,?_⟩;rw[qb7];simp[fo])
  exact qam e1 (qeb rfl)
 exact qjc (us:=(fo f D0 rs).1.map qac) rfl rfl fin λt ht=>by obtain⟨r,_,rfl⟩:=List.mem_map.mp ht;exact qgP r
noncomputable def qqk:List CS:=[.put (.v 1) (.v 4) (.o2 false .add (.bm false .get (.v 1) [(.v 4),(.c (.int 0))]) (.v 5)),.exp (.bm false .append (.v 2) [(.tup [(.v 3),(.v 4),(.o2 false .ix (.v 1) (.v 4))])])]
noncomputable def qm7:List CS:=[.ife (.o2 false .in_ (.v 4) (.v 1)) [.exp (.bm false .append (.v 2) [(.tup [(.v 3),(.v 4),(.o2 false .sub (.v 5) (.o2 false .ix (.v 1) (.v 4)))])])] [],.put (.v 1) (.v 4) (.v 5)]
noncomputable def qkY:List CS:=[.ife (.or (.o2 false .nin (.v 4) (.v 1)) (.o2 false .ne (.o2 false .ix (.v 1) (.v 4)) (.v 5))) [.exp (.bm false .append (.v 2) [(.tup [(.v 3),(.v 4),(.v 5)])])] [],.put (.v 1) (.v 4) (.v 5)]
theorem quV(h:μ.l[k]? =some (ct (.d D))):qfg μ (.obj k)= "dict" :=qpl h
theorem qk0(hl:us.length<=900):nvR false (Bm.g .append (st μ k s us) [.obj μ.l.length,qac x]) (st μ k s us)= .ok .non (st μ k s (us++[x])):=by
 have e:us.map qac++[qac x]=(us++[x]).map qac:=by simp
 rw[qm8 qnh (by simpa using(by omega:us.length<=1000)),e,qi8]
theorem qh3(hk:μ.l[k]? =some (ct (.d D0)))(hd:D0.length+rs.length<=900):Fcd.run F ⟨false,2,6,[.set 2 (.lst true []),.for_ (.tup [(.n 3),(.n 4),(.n 5)]) (.gen (.v 0)) qqk,.ret (.v 2)]⟩ [.lst (rs.map qac),.obj k] μ= .ok (.lst ((fo qqs D0 rs).1.map qac)) (μ.put k (ct (.d (fo qqs D0 rs).2))):=by refine qjJ (f:=qqs) hk hd rfl rfl (λ_ _=>Vm _) (λD r=>qgd D _ _) λD us r hD hu=> ?_;have aw:=(List.getElem?_eq_some_iff.mp hk).1;have g:=qpG (x:=0) (y:=r.2.1) (qgU (us:=us) (s:=.d D) aw);have p:=qj5 (y:=r.2.1) (v:=(get D r.2.1).getD 0+r.2.2) (qgU (us:=us) (s:=.d D) aw) (by omega);have lv:=qcR (us:=us) (s:=.d D) aw (qgE _);have ix:=qj3 (y:=r.2.1) (qgU (us:=us) (s:=.d (put D r.2.1 ((get D r.2.1).getD 0+r.2.2))) aw);rw[qpB] at ix;have ap:=qk0 (μ:=μ) (k:=k) (s:=.d (put D r.2.1 ((get D r.2.1).getD 0+r.2.2))) (x:=(r.1,r.2.1,(get D r.2.1).getD 0+r.2.2)) hu;simp[qqk,quV (qgU (us:=us) (s:=.d D) aw),g,p,lv,qbo aw,qbR qnh,ix];exact congrArg (λr=>R.bind r λ_ m=>R.ok _ m) ap
theorem qsn(h:μ.l[k]? =some (ct (.d D))):gIn neg μ (.str y) (.obj k)=some (.v (.bl (if neg then !(get D y).isSome else(get D y).isSome))):=by
 have e0:qcn μ (.obj k)=none:=by show sqv μ (.obj k)=_;simp only[sqv,h,ct]
 have e1:dkv μ (.obj k)=some (dS D):=by simp only[dkv,h,ct]
 have e:qdO μ (.obj k) (.str y)=some ((get D y).map T.int):=by unfold qdO;rw[e1,<-qiO];rfl
 unfold gIn;rw[e0,e];cases get D y<;>rfl
theorem qkx(hk:μ.l[k]? =some (ct (.d D0)))(hd:D0.length+rs.length<=900):Fcd.run F ⟨false,2,6,[.set 2 (.lst true []),.for_ (.tup [(.n 3),(.n 4),(.n 5)]) (.gen (.v 0)) qm7,.ret (.v 2)]⟩ [.lst (rs.map qac),.obj k] μ= .ok (.lst ((fo qlc D0 rs).1.map qac)) (μ.put k (ct (.d (fo qlc D0 rs).2))):=by
 refine qjJ (f:=qlc) hk hd rfl rfl (λD r=>by unfold qlc;split<;>simp) (λD r=>qgd D _ _) λD us r hD hu=> ?_;have aw:=(List.getElem?_eq_some_iff.mp hk).1;have i1:O2.g .in_ (st μ k (.d D) us) (.str r.2.1) (.obj k)=_:=qsn (neg:=false) (y:=r.2.1) (qgU (us:=us) (s:=.d D) aw);have ix:=qj3 (y:=r.2.1) (qgU (us:=us) (s:=.d D) aw);have p:=λus=>qj5 (y:=r.2.1) (v:=r.2.2) (qgU (us:=us) (s:=.d D) aw) (by omega);have lv:=λus=>qcR (us:=us) (s:=.d D) aw (qgE _);cases q:get D r.2.1 with
 |none=>rw[q] at i1;have i1:O2.g .in_ (st μ k (.d D) us) (.str r.2.1) (.obj k)=some (.v (.bl false)):=i1;simp[qm7,i1,p,lv,qbo aw,qlc,q]
 |some v=>rw[q] at i1 ix;have i1:O2.g .in_ (st μ k (.d D) us) (.str r.2.1) (.obj k)=some (.v (.bl true)):=i1;have ap:=qk0 (μ:=μ) (k:=k) (s:=.d D) (x:=(r.1,r.2.1,r.2.2 - v)) hu;have ap:nvR false (Bm.g .append (st μ k (.d D) us) [.obj μ.l.length,.tup [.int r.1,.str r.2.1,.int (r.2.2 - v)]]) (st μ k (.d D) us)=_:=ap;simp[qm7,i1,ix,qbR qnh,ap,p,lv,qbo aw,qlc,q]
theorem qiR(hk:μ.l[k]? =some (ct (.d D0)))(hd:D0.length+rs.length<=900):Fcd.run F ⟨false,2,6,[.set 2 (.lst true []),.for_ (.tup [(.n 3),(.n 4),(.n 5)]) (.gen (.v 0)) qkY,.ret (.v 2)]⟩ [.lst (rs.map qac),.obj k] μ= .ok (.lst ((fo qiS D0 rs).1.map qac)) (μ.put k (ct (.d (fo qiS D0 rs).2))):=by
 refine qjJ (f:=qiS) hk hd rfl rfl (λD r=>by unfold qiS;simp only;split<;>simp) (λD r=>qgd D _ _) λD us r hD hu=> ?_;have aw:=(List.getElem?_eq_some_iff.mp hk).1;have i1:O2.g .nin (st μ k (.d D) us) (.str r.2.1) (.obj k)=_:=qsn (neg:=true) (y:=r.2.1) (qgU (us:=us) (s:=.d D) aw);have ix:=qj3 (y:=r.2.1) (qgU (us:=us) (s:=.d D) aw);have p:=λus=>qj5 (y:=r.2.1) (v:=r.2.2) (qgU (us:=us) (s:=.d D) aw) (by omega);have lv:=λus=>qcR (us:=us) (s:=.d D) aw (qgE _);have ap:=qk0 (μ:=μ) (k:=k) (s:=.d D) (x:=r) hu;have ap:nvR false (Bm.g .append (st μ k (.d D) us) [.obj μ.l.length,.tup [.int r.1,.str r.2.1,.int r.2.2]]) (st μ k (.d D) us)=_:=ap;cases q:get D r.2.1 with
 |none=>rw[q] at i1;have i1:O2.g .nin (st μ k (.d D) us) (.str r.2.1) (.obj k)=some (.v (.bl true)):=i1;simp[qkY,i1,qbR qnh,ap,p,lv,qbo aw,qiS,q]
 |some v=>
  rw[q] at i1 ix;have i1:O2.g .nin (st μ k (.d D) us) (.str r.2.1) (.obj k)=some (.v (.bl false)):=i1;by_cases c:v=r.2.2
  ·simp[qkY,i1,ix,c,p,lv,qbo aw,qiS,q]
  ·simp[qkY,i1,ix,c,qbR qnh,ap,p,lv,qbo aw,qiS,q]
theorem qbp{μ:Mu}{c:Fcd}{ts:List T}{m:Mu}(hl:ts.length=c.n)(h:(runSs F c.b (ts.map some++List.replicate (c.N - c.n) none) μ).bind outT= .ok t m)(hm:m.l.length=μ.l.length):c.run F ts μ= .ok t m:=by
 unfold Fcd.run fnR;rw[if_pos hl,h];unfold NV.lv;split
 ·rfl
 ·exact if_pos hm
noncomputable def qaQ(many:Int)(c:Option Int)(rs:List Row):List Row×Option Int:=(rs.take (max (many - c.getD 0) 0).toNat,some (c.getD 0+rs.length))
theorem qsl(h:μ.l[k]? =some (ct (.n c))):Bm.g .get μ [.obj k,.str "came",.int 0]=some (.v (.int (c.getD 0)))/\(∀v,qlb μ (.obj k) (.str "came") (.int v)=some (k,ct (.n (some v))))/\qfg μ (.obj k)= "dict" :=by
 cases c with
 |none=>have h:μ.l[k]? =some (ct (.d [])):=h;exact⟨qpG h,λv=>qj5 h (by simp),quV h⟩
 |some c=>
  have h:μ.l[k]? =some (ct (.d [("came",c)])):=h;refine⟨?_,λv=> ?_,quV h⟩
  ·rw[qpG h];simp[get]
  ·rw[qj5 h (by simp)];simp[put,ct]
noncomputable def qeJ:Fcd:=⟨false,3,4,[.set 3 (.bm false .get (.v 2) [(.c (.str "came")),(.c (.int 0))]),.put (.v 2) (.c (.str "came")) (.o2 false .add (.v 3) (.bn false .len [(.v 0)])),.ret (.sl false (.v 0) none (some (.bn false .max [(.o2 false .sub (.v 1) (.v 3)),(.c (.int 0))])))]⟩
theorem qmr{μ:Mu}{rs:List Row}{many:Int}(hk:μ.l[k]? =some (ct (.n c))):qeJ.run F [.lst (rs.map qac),.int many,.obj k] μ= .ok (.lst ((qaQ many c rs).1.map qac)) (μ.put k (ct (.n (qaQ many c rs).2))):=by
 obtain⟨g,p,m⟩:=qsl hk;have lv:μ.live k=true:=qbS hk (qgE _);have sl:=qt6 (μ:=μ.put k (ct (.n (some (c.getD 0+rs.length))))) (t:=.lst (rs.map qac)) ql8 (m:=max (many - c.getD 0) 0) (by omega);have e:(runSs F qeJ.b [some (.lst (rs.map qac)),some (.int many),some (.obj k),none] μ).bind outT= .ok (.lst ((qaQ many c rs).1.map qac)) (μ.put k (ct (.n (qaQ many c rs).2))):=by simp[qeJ,m,g,p,lv,sl,qaQ,List.map_take]
 exact qbp rfl e (by simp)
end
section
noncomputable def qcj(many:Int)(c:Option Int)(rs:List Row):List Row×Option Int:=(RH.pickL rs (some (many - 1 - c.getD 0)) none (some many),some ((c.getD 0+rs.length) % many))
theorem qjp(f:α->β)(xs:List α)(lo hi st:Option Int):RH.pickL (xs.map f) lo hi st=(RH.pickL xs lo hi st).map f:=by
 unfold RH.pickL;rw[List.length_map,List.map_filterMap]
 congr 1
 funext i
 rw[List.getElem?_map]
noncomputable def qhH:Fcd:=⟨false,3,4,[.set 3 (.bm false .get (.v 2) [(.c (.str "came")),(.c (.int 0))]),.put (.v 2) (.c (.str "came")) (.o2 false .mod (.o2 false .add (.v 3) (.bn false .len [(.v 0)])) (.v 1)),.ret (.sl3 false (.v 0) (some (.o2 false .sub (.o2 false .sub (.v 1) (.c (.int 1))) (.v 3))) none (.v 1))]⟩
theorem qq3:qab F (.sl3 ow a lo hi e) ρ μ=(qab F a ρ μ).bind λx μ=>(runO F lo ρ μ).bind λl μ=>(runO F hi ρ μ).bind λh μ=>(runO F (some e) ρ μ).bind λt μ=>nvR ow (qsp μ x l h t) μ:=rfl
theorem qpM(hm:0<many)(hk:μ.l[k]? =some (ct (.n c))):qhH.run F [.lst (rs.map qac),.int many,.obj k] μ= .ok (.lst ((qcj many c rs).1.map qac)) (μ.put k (ct (.n (qcj many c rs).2))):=by
 obtain⟨g,p,m⟩:=qsl hk;have lv:μ.live k=true:=qbS hk (qgE _);have sl: ∀μ:Mu,qsp μ (.lst (rs.map qac)) (some (many - 1 - c.getD 0)) none (some many)=some (.l ((RH.pickL rs (some (many - 1 - c.getD 0)) none (some many)).map qac)):=λμ=>by show(if some many≠some 0 then _ else _)=_;rw[if_pos (by intro h;injection h with h;omega),qjp]
 have e:(runSs F qhH.b [some (.lst (rs.map qac)),some (.int many),some (.obj k),none] μ).bind outT= .ok (.lst ((qcj many c rs).1.map qac)) (μ.put k (ct (.n (qcj many c rs).2))):=by simp[qhH,m,g,p,lv,hm,qq3,sl,qcj]
 exact qbp rfl e (by simp)
abbrev EE:=List (Pl×Int)
noncomputable def kP(p:Pl):List PL.Ky:=[.i p.1,.s p.2]
noncomputable def qni(E:EE):EE:=SR.srt (λx=>SR.rank PL.ltKs (E.map λx=>kP x.1) (kP x.1)) E
noncomputable def qtt(size:Int)(p:Pl×Int):Row:=((p.1.1+1)*size - 1,p.1.2,p.2)
noncomputable def qaO(size:Int)(E:EE):List Row:=(qni E).map (qtt size)
abbrev dW(E:EE):List (List Key×T):=E.map λp=>(kS p.1,.int p.2)
noncomputable def plT(p:Pl):T:=.tup [.int p.1,.str p.2]
theorem qnv(h:kS p=kS q):p=q:=by obtain⟨a,b⟩:=p;obtain⟨c,d⟩:=q;simp only[kS,List.cons.injEq,Sum.inl.injEq,Sum.inr.injEq,and_true] at h;rw[h.1,h.2]
theorem kdW(a p:Pl):decide (kS a=kS p)=decide (a=p):=decide_eq_decide.mpr ⟨qnv,λh=>by rw[h]⟩
noncomputable def qf1(E:EE)(p:Pl):Option Int:=(E.find? λx=>decide (x.1=p)).map (·.2)
noncomputable def qcq(E:EE)(p:Pl)(v:Int):EE:=if(E.any λx=>decide (x.1=p))=true then E.map (λx=>if x.1=p then(x.1,v) else x) else E++[(p,v)]
theorem qne(E:EE)(p:Pl):qf4 (dW E) (kS p)=(qf1 E p).map T.int:=by unfold qf4 qf1;rw[List.find?_map,Option.map_map,Option.map_map];have:((λkv:List Key×T=>decide (kv.1=kS p))∘λx:Pl×Int=>(kS x.1,T.int x.2))=λx=>decide (x.1=p):=funext λx=>kdW x.1 p;rw[this];rfl
theorem qq8(E:EE)(p:Pl)(v:Int):qk8 (dW E) (kS p) (.int v)=dW (qcq E p v):=by
 have ha:((dW E).any λkv=>decide (kv.1=kS p))=E.any λx=>decide (x.1=p):=by rw[List.any_map];congr 1;exact funext λx=>kdW x.1 p
 unfold qk8 qcq;rw[ha];by_cases c:(E.any λx=>decide (x.1=p))=true
 ·rw[if_pos c,if_pos c];simp only[dW,List.map_map];refine List.map_congr_left λx _=> ?_;show(if kS x.1=kS p then(kS x.1,T.int v) else(kS x.1,.int x.2))=(kS (if x.1=p then(x.1,v) else x).1,T.int (if x.1=p then(x.1,v) else x).2)
  by_cases q:x.1=p
  ·rw[if_pos (by rw[q]),if_pos q]
  ·rw[if_neg (λh=>q (qnv h)),if_neg q]
 ·rw[if_neg c,if_neg c];simp[dW]
theorem qjk(E:EE)(p:Pl)(v:Int):qcq E p v≠[]:=by
 unfold qcq;split
 ·rename_i h;cases E with
  |nil=>cases h
  |cons _ _=>simp
 ·simp
theorem qs5(h:E≠[]):ct (.w E)= .du (dW E):=by
 cases E with
 |nil=>exact absurd rfl h
 |cons x E=>rfl
theorem qlz(E:EE):qja (E.map λx=>plT x.1)=(qni E).map λx=>plT x.1:=by show SR.srt (λt=>SR.rank PL.ltKs ((E.map λx=>plT x.1).map qil) (qil t)) (E.map λx=>plT x.1)=_;unfold qni;rw[<-SR.srt_map (k':=λx:Pl×Int=>SR.rank PL.ltKs (E.map λx=>kP x.1) (kP x.1)) (f:=λx:Pl×Int=>plT x.1)];intro x;rw[List.map_map];rfl
theorem qe1(E:EE):qbZ (E.map λx=>plT x.1)=true:=by
 cases E with
 |nil=>rfl
 |cons x E=>show(PL.okShape [2,0,1]&&(E.map λx=>plT x.1).all λu=>qbH u==[2,0,1])=true;rw[List.all_map];exact List.all_eq_true.mpr λy _=>rfl
theorem qt2(h:μ.l[k]? =some (ct (.w E)))(hl:E.length<64):Bn.g .srt μ [.obj k]=some (.l ((qni E).map λx=>plT x.1)):=by
 have e0:qcb μ (.obj k)=none:=by
  have:qcn μ (.obj k)=none:=by show sqv μ (.obj k)=_;cases E<;>simp only[sqv,h,ct]
  simp only[qcb,this]
 have e:qqP μ (.obj k)=some (E.map λx=>plT x.1):=by
  unfold qqP;rw[e0];cases E with
  |nil=>simp only[dkv,h,ct];rfl
  |cons x E=>
   have e2:dkv μ (.obj k)=none:=by simp only[dkv,h,ct]
   have e3:duv μ (.obj k)=some (dW (x::E)):=by simp only[duv,h,ct]
   rw[e2,e3];show some ((dW (x::E)).map λp=>T.tup (p.1.map qfn))=_;simp only[dW,List.map_map];rfl
 show(qqP μ (.obj k)).bind _=_;rw[e];rw[Option.bind_some,if_pos ⟨by rw[List.length_map];exact hl,qe1 E⟩,qlz]
noncomputable def qcl:Fcd:=⟨false,2,2,[.ret (.comp false false 1 [0,1] (.n 0) (.gen (.bn false .srt [(.v 1)])) none (.tup [(.o2 false .sub (.o2 false .mul (.o2 false .add (.o2 false .ix (.v 0) (.c (.int 0))) (.c (.int 1))) (.v 1)) (.c (.int 1))),(.o2 false .ix (.v 0) (.c (.int 1))),(.o2 false .ix (.v 2) (.v 0))]))]⟩
theorem qvz{E:EE}(nd:(E.map (·.1)).Nodup){x:Pl×Int}(hx:x∈E):E.find? (λy=>decide (y.1=x.1))=some x:=by
 induction E with
 |nil=>cases hx
 |cons y E ih=>
  rw[List.map_cons,List.nodup_cons] at nd
  rcases List.mem_cons.mp hx with rfl|hx
  ·rw[List.find?_cons_of_pos (by simp)]
  ·rw[List.find?_cons_of_neg,ih nd.2 hx];intro e;exact nd.1 (List.mem_map.mpr ⟨x,hx,(of_decide_eq_true e).symm⟩)
theorem qdZ{μ:Mu}{E:EE}{size:Int}(h:μ.l[k]? =some (ct (.w E)))(hl:E.length<64)(nd:(E.map (·.1)).Nodup)(hs:0<size/\size<=4294967296):qcl.run F [.int size,.obj k] μ= .ok (.lst ((qaO size E).map qac)) μ:=by
 refine qav rfl ?_;have m: -4294967296<=size/\size<=4294967296:=by omega
 have cm:=qhy (F:=F) (μ:=μ) (ρ:=[some (.int size),some (.obj k)]) (x:=false) (fr:=[0,1]) (ci:=.gen (.bn false .srt [(.v 1)])) (e:=.tup [(.o2 false .sub (.o2 false .mul (.o2 false .add (.o2 false .ix (.v 0) (.c (.int 0))) (.c (.int 1))) (.v 1)) (.c (.int 1))),(.o2 false .ix (.v 0) (.c (.int 1))),(.o2 false .ix (.v 2) (.v 0))]) (qni E) (λx=>plT x.1) (λx=>qac (qtt size x)) (qb4 (t:=.lst ((qni E).map λx=>plT x.1)) (by simp[qt2 h hl]) rfl) λx hx=>by
  have hx:x∈E:=(SR.mem_srt _).mp hx;have hn:E≠[]:=λz=>by rw[z] at hx;cases hx
  rw[qs5 hn] at h;have ix:=qvc h (show qnu (plT x.1)=some (kS x.1) from rfl);rw[qne] at ix;unfold qf1 at ix;rw[qvz nd hx] at ix;have i0:O2.g .ix μ (plT x.1) (.int 0)=some (.v (.int x.1.1)):=rfl;have i1:O2.g .ix μ (plT x.1) (.int 1)=some (.v (.str x.1.2)):=rfl;simp[i0,i1,ix,m,qac,qtt]
 have e:((qni E).map λx=>qac (qtt size x))=(qaO size E).map qac:=by unfold qaO;rw[List.map_map];rfl
 rw[e] at cm;simp only[qcl,qaj,qaW];show(((qab F _ [some (.int size),some (.obj k)] μ).bind _).bind _).bind _=_;rw[cm];rfl
end
noncomputable def qtJ(E:EE)(w:Int):Bool:=match E with|x::_=>decide (x.1.1<w)|[]=>false
noncomputable def qbc(size:Int)(E:EE)(r:Row):List Row×EE:=
 if qtJ E (r.1 / size)=true then(qaO size E,qcq [] (r.1 / size,r.2.1) r.2.2) else([],qcq E (r.1 / size,r.2.1) ((qf1 E (r.1 / size,r.2.1)).getD 0+r.2.2))
structure WI(size:Int)(E:EE)(m:Int):Prop where
 nd:(E.map (·.1)).Nodup
 one: ∃w,(∀x∈E,x.1.1=w)/\w<=m / size
theorem qg9(h:x∈qcq E p v):x.1=p\/∃y∈E,y.1=x.1:=by
 unfold qcq at h;split at h
 ·obtain⟨y,hy,rfl⟩:=List.mem_map.mp h;by_cases c:y.1=p
  ·rw[if_pos c];exact .inl c
  ·rw[if_neg c];exact .inr ⟨y,hy,rfl⟩
 ·rcases List.mem_append.mp h with h|h
  ·exact .inr ⟨x,h,rfl⟩
  ·simp at h;exact .inl (by rw[h])
theorem qjl(nd:(E.map (·.1)).Nodup):((qcq E p v).map (·.1)).Nodup:=by
 unfold qcq;split
 ·rw[List.map_map];have:((λx:Pl×Int=>x.1)∘λx:Pl×Int=>if x.1=p then(x.1,v) else x)=λx=>x.1:=funext λx=>by
   show(if x.1=p then(x.1,v) else x).1=x.1
   split<;>rfl
  rw[this];exact nd
 ·rename_i c;rw[List.map_append,List.nodup_append];refine⟨nd,by simp,λa ha b hb q=>c ?_⟩;obtain⟨y,hy,rfl⟩:=List.mem_map.mp ha;simp at hb;subst hb;exact List.any_eq_true.mpr ⟨y,hy,Vw q⟩
theorem qha(E:EE)(p:Pl)(v:Int):(qcq E p v).length<=E.length+1:=by unfold qcq;split<;>simp
theorem WI.step(hs:0<size)(h:WI size E m)(hm:m<=r.1):WI size (qbc size E r).2 r.1:=by
 obtain⟨w,hw,le⟩:=h.one;have mono:m / size<=r.1 / size:=Int.ediv_le_ediv hs hm;unfold qbc;by_cases c:qtJ E (r.1 / size)=true
 ·rw[if_pos c];refine⟨qjl (E:=[]) List.nodup_nil,r.1 / size,λx hx=> ?_,Int.le_refl _⟩
  rcases qg9 (E:=[]) hx with e|⟨y,hy,_⟩
  ·rw[e]
  ·cases hy
 ·rw[if_neg c];refine⟨qjl h.nd,r.1 / size,λx hx=> ?_,Int.le_refl _⟩
  rcases qg9 hx with e|⟨y,hy,e⟩
  ·rw[e]
  ·rw[<-e];cases E with
   |nil=>cases hy
   |cons z E=>have c: ¬(z.1.1<r.1 / size):=λq=>c (Vw q);have:=hw z Vk;have:=hw y hy;omega
section
theorem quZ(h:μ.l[k]? =some (ct (.w E))):Bn.g .len μ [.obj k]=some (.v (.int E.length)):=by
 have e0:qcn μ (.obj k)=none:=by show sqv μ (.obj k)=_;cases E<;>simp only[sqv,h,ct]
 show gOr qqv qip μ [.obj k]=_;cases E with
 |nil=>
  have e1:dkv μ (.obj k)=some []:=by simp only[dkv,h,ct]
  simp only[gOr,qqv,e0,e1];rfl
 |cons x E=>
  have e1:dkv μ (.obj k)=none:=by simp only[dkv,h,ct]
  have e2:duv μ (.obj k)=some (dW (x::E)):=by simp only[duv,h,ct]
  simp only[gOr,qqv,qip,e0,e1,e2,Option.map_none,Option.map_some,List.length_map]
theorem quX(h:μ.l[k]? =some (ct (.w E)))(hn:E≠[])(hw: ∀x∈E,x.1.1=w): ∃y:Str,Bn.g .max μ [.obj k]=some (.v (.tup [.int w,.str y])):=by
 rw[qs5 hn] at h;have e0:qcb μ (.obj k)=none:=by
  have:qcn μ (.obj k)=none:=by show sqv μ (.obj k)=_;simp only[sqv,h]
  simp only[qcb,this]
 have e2:duv μ (.obj k)=some (dW E):=by simp only[duv,h]
 have em:(dW E).map (λkv=>PL.isOf kv.1)=E.map (·.1):=by simp only[dW,List.map_map];rfl
 have aH:E.map (·.1)≠[]:=by simpa using hn
 have hb:=DH.bestIS_lt aH;have hx:(E.map (·.1)).getD (DH.bestIS (E.map (·.1))) ((0, ""):DH.IS)∈E.map (·.1):=by rw[List.getD_eq_getElem?_getD,List.getElem?_eq_getElem hb];exact List.getElem_mem hb
 obtain⟨x,hx,ex⟩:=List.mem_map.mp hx;refine⟨x.1.2,?_⟩;show gOr qss qj7 μ [.obj k]=_;have g1:qss μ [.obj k]=none:=by show((qcb μ (.obj k)).bind qb9).bind _=_;rw[e0];rfl
 have g2:qj7 μ [.obj k]=some (.v (.tup [.int w,.str x.1.2])):=by show(duv μ (.obj k)).bind _=_;rw[e2,Option.bind_some,if_pos ⟨by simpa using hn,by rw[List.all_map];exact List.all_eq_true.mpr λ_ _=>rfl⟩,em,<-ex];show some (Nv.v (isN x.1))=_;rw[<-hw x hx];rfl
 unfold gOr;rw[g1];exact g2
noncomputable def qm6(wr:Nat):List CS:=[.set 7 (.tup [(.o2 false .div (.v 4) (.v 1)),(.v 5)]),.ife (.and (.o2 false .gt (.bn false .len [(.v 2)]) (.c (.int 0))) (.o2 false .lt (.o2 false .ix (.bn false .max [(.v 2)]) (.c (.int 0))) (.o2 false .ix (.v 7) (.c (.int 0))))) [.exp (.bm false .extend (.v 3) [(.call wr [(.v 1),(.v 2)])]),.exp (.alt (.bm false .clear (.v 2) []) (.bm false .dclear (.v 2) []))] [],.put (.v 2) (.v 7) (.o2 false .add (.bm false .get (.v 2) [(.v 7),(.c (.int 0))]) (.v 6))]
theorem qsw(h1:us.length<=900)(h2:vs.length<=900):nvR false (Bm.g .extend (st μ k s us) [.obj μ.l.length,.lst (vs.map qac)]) (st μ k s us)= .ok .non (st μ k s (us++vs)):=by
 have e:Bm.g .extend (st μ k s us) [.obj μ.l.length,.lst (vs.map qac)]=some (.p μ.l.length (.ls ((us++vs).map qac)) .non):=by show(qf0 (st μ k s us) (.obj μ.l.length)).bind _=_;simp only[qf0,qnh,Option.bind_some];show(if _ then some (Nv.p μ.l.length (.ls (us.map qac++vs.map qac)) .non) else none)=_;rw[if_pos ⟨by simp;omega,by simp;omega⟩,List.map_append]
 rw[e,qrV (qbS qnh (by simp)),qi8]
theorem quu(hk:k<μ.l.length)(hl:E.length<=900)(h2:ρ[2]? =some (some (.obj k)))(h7:ρ[7]? =some (some (plT p)))(h6:ρ[6]? =some (some (.int n))):qaP F (.put (.v 2) (.v 7) (.o2 false .add (.bm false .get (.v 2) [(.v 7),(.c (.int 0))]) (.v 6))) ρ (st μ k (.w E) us)= .ok (.nx ρ) (st μ k (.w (qcq E p ((qf1 E p).getD 0+n))) us):=by
 have a:=qgU (us:=us) (s:=.w E) hk;have ky:qnu (plT p)=some (kS p):=rfl;have lv:=qcR (us:=us) (s:=.w E) hk (qgE _);have fin: ∀(E:EE) (v:Int),E.length<=900->∀m:Mu,m.l[k]? =some (.du (dW E))->m.put k (.du (dW (qcq E p v)))=st μ k (.w (qcq E p v)) us->qlb m (.obj k) (plT p) (.int v)=some (k,.du (dW (qcq E p v))):=λE v hE m hm _=>by
  have e0:qf0 m (.obj k)=none:=by simp only[qf0,hm]
  have e1:qk9 m (.obj k)=none:=by simp only[qk9,hm]
  have e2:qtC m (.obj k)=some (k,dW E):=by simp only[qtC,hm]
  unfold qlb;rw[e0,e1,e2,ky];show(if(dW E).length<=1000 then some (k,Ct.du (qk8 (dW E) (kS p) (.int v))) else none)=_;rw[if_pos (by rw[List.length_map];omega),qq8]
 have mk:qfg (st μ k (.w E) us) (.obj k)= "dict" :=by
  have e0:qcb (st μ k (.w E) us) (.obj k)=none:=by
   have:qcn (st μ k (.w E) us) (.obj k)=none:=by show sqv _ (.obj k)=_;cases E<;>simp only[sqv,a,ct]
   simp only[qcb,this]
  unfold qfg;rw[e0];cases E with
  |nil=>simp[dkv,a,ct]
  |cons x E=>simp[dkv,duv,a,ct]
 have up: ∀v,(st μ k (.w E) us).put k (.du (dW (qcq E p v)))=st μ k (.w (qcq E p v)) us:=λv=>by rw[<-qs5 (qjk E p v)];exact qbo hk
 by_cases hn:E=[]
 ·subst hn;have h0:(st μ k (.w []) us).l[k]? =some (.dk []):=a;have g:Bm.g .get (st μ k (.w []) us) [.obj k,plT p,.int 0]=some (.p k (.du []) (.int 0)):=by
   have e1:dkv (st μ k (.w []) us) (.obj k)=some []:=by simp only[dkv,h0]
   have e2:duv (st μ k (.w []) us) (.obj k)=none:=by simp only[duv,h0]
   have e3:qdO (st μ k (.w []) us) (.obj k) (plT p)=none:=by unfold qdO;rw[e1,e2];rfl
   show gOr qmp qft _ _=_;have g1:qmp (st μ k (.w []) us) [.obj k,plT p,.int 0]=none:=by show(qdO _ _ _).map _=_;rw[e3];rfl
   have g2:qft (st μ k (.w []) us) [.obj k,plT p,.int 0]=some (.p k (.du []) (.int 0)):=by simp only[qft,h0,ky]
   unfold gOr;rw[g1];exact g2
  have s1:(st μ k (.w []) us).put k (.du [])=⟨μ.l.set k (.du [])++[.ls (us.map qac)],μ.k⟩:=by rw[Mu.put_k (Nat.zero_le _)];show Mu.mk ((μ.l.set k _++_).set k _) _=_;rw[List.set_append_left _ _ (by simpa using hk),List.set_set];rfl
  have a1:((st μ k (.w []) us).put k (.du [])).l[k]? =some (.du (dW [])):=by rw[s1];show(μ.l.set k _++_)[k]? =_;rw[List.getElem?_append_left (by simpa using hk),List.getElem?_set_self hk];rfl
  have up1: ∀v,((st μ k (.w []) us).put k (.du [])).put k (.du (dW (qcq [] p v)))=st μ k (.w (qcq [] p v)) us:=λv=>by rw[<-qs5 (qjk [] p v),s1,Mu.put_k (by rw[qd5];exact Nat.zero_le _)];show Mu.mk ((μ.l.set k _++_).set k _) _=_;rw[List.set_append_left _ _ (by simpa using hk),List.set_set];rfl
  have lv1:((st μ k (.w []) us).put k (.du [])).live k=true:=qbS a1 (by simp);have pt:=fin [] (0+n) (by simp) _ a1 (up1 _);have gw:qf1 [] p=none:=rfl;simp only[qnn,qej,qlG,qlF,h2,h7,h6,qes,qaa,mk,qiT,if_true,qaF,qcp,qwr,g,qrV lv,qso,qtF,pt,lv1,up1,gw,Option.getD_none]
 ·have h0:(st μ k (.w E) us).l[k]? =some (.du (dW E)):=by rw[<-qs5 hn];exact a
  have g:Bm.g .get (st μ k (.w E) us) [.obj k,plT p,.int 0]=some (.v (.int ((qf1 E p).getD 0))):=by
   have e1:dkv (st μ k (.w E) us) (.obj k)=none:=by simp only[dkv,h0]
   have e2:duv (st μ k (.w E) us) (.obj k)=some (dW E):=by simp only[duv,h0]
   have e3:qdO (st μ k (.w E) us) (.obj k) (plT p)=some ((qf1 E p).map T.int):=by unfold qdO;rw[e1,e2,ky,<-qne]
   show gOr qmp qft _ _=_;have g1:qmp (st μ k (.w E) us) [.obj k,plT p,.int 0]=some (.v (.int ((qf1 E p).getD 0))):=by show(qdO _ _ _).map _=_;rw[e3];cases qf1 E p<;>rfl
   unfold gOr;rw[g1]
  have pt:=fin E ((qf1 E p).getD 0+n) hl _ h0 (up _);simp only[qnn,qej,qlG,qlF,h2,h7,h6,qes,qaa,mk,qiT,if_true,qaF,qcp,qwr,g,qso,qtF,pt,lv,up]
end
theorem qly(E:EE):(qni E).length=E.length:=SR.length_srt _
theorem qbX(size:Int)(E:EE):(qaO size E).length=E.length:=by unfold qaO;rw[List.length_map,qly]
theorem qiJ(size:Int)(E:EE)(r:Row):(qbc size E r).1.length+(qbc size E r).2.length<=E.length+1:=by
 unfold qbc;split
 ·have:=qha [] (r.1 / size,r.2.1) r.2.2;simp only[qbX,List.length_nil] at*;omega
 ·have:=qha E (r.1 / size,r.2.1) ((qf1 E (r.1 / size,r.2.1)).getD 0+r.2.2);simp only[List.length_nil];omega
theorem qd0(size:Int): ∀(d:List Row) (E:EE),(fo (qbc size) E d).1.length+(fo (qbc size) E d).2.length<=E.length+d.length
 |[],E=>by simp[fo]
 |r::d,E=>by have h1:=qiJ size E r;have h2:=qd0 size d (qbc size E r).2;simp only[fo,List.length_append,List.length_cons];omega
noncomputable def qqd(wr:Nat):Fcd:=⟨false,3,8,[.set 3 (.lst true []),.for_ (.tup [(.n 4),(.n 5),(.n 6)]) (.gen (.v 0)) (qm6 wr),.ret (.v 3)]⟩
section
theorem qld (hw: ∀{μ:Mu} {E:EE},μ.l[k]? =some (ct (.w E))->E.length<64->(E.map (·.1)).Nodup->F wr [.int size,.obj k] μ= .ok (.lst ((qaO size E).map qac)) μ) (hs:0<size/\size<1073741824) (hk:k<μ.l.length) (W:WI size E m) (hm:m<=r.1) (hE:E.length<64) (hu:us.length<=900) (x7:Option T):
  runSs F (qm6 wr) [some a,some (.int size),some (.obj k),some (.obj μ.l.length),some (.int r.1),some (.str r.2.1),some (.int r.2.2),x7] (st μ k (.w E) us)= .ok (.nx [some a,some (.int size),some (.obj k),some (.obj μ.l.length),some (.int r.1),some (.str r.2.1),some (.int r.2.2),some (plT (r.1 / size,r.2.1))]) (st μ k (.w (qbc size E r).2) (us++(qbc size E r).1)):=by
 have a0:=qgU (us:=us) (s:=.w E) hk;have ln:=quZ a0;have s7:qaP F (.set 7 (.tup [(.o2 false .div (.v 4) (.v 1)),(.v 5)])) [some a,some (.int size),some (.obj k),some (.obj μ.l.length),some (.int r.1),some (.str r.2.1),some (.int r.2.2),x7] (st μ k (.w E) us)= .ok (.nx [some a,some (.int size),some (.obj k),some (.obj μ.l.length),some (.int r.1),some (.str r.2.1),some (.int r.2.2),some (plT (r.1 / size,r.2.1))]) (st μ k (.w E) us):=by simp[hs.1,hs.2,plT]
 have last: ∀(E:EE) (us:List Row),E.length<=900->runSs F [.put (.v 2) (.v 7) (.o2 false .add (.bm false .get (.v 2) [(.v 7),(.c (.int 0))]) (.v 6))] [some a,some (.int size),some (.obj k),some (.obj μ.l.length),some (.int r.1),some (.str r.2.1),some (.int r.2.2),some (plT (r.1 / size,r.2.1))] (st μ k (.w E) us)= .ok (.nx [some a,some (.int size),some (.obj k),some (.obj μ.l.length),some (.int r.1),some (.str r.2.1),some (.int r.2.2),some (plT (r.1 / size,r.2.1))]) (st μ k (.w (qcq E (r.1 / size,r.2.1) ((qf1 E (r.1 / size,r.2.1)).getD 0+r.2.2))) us):=λE us hE=>by rw[qaj,quu hk hE rfl rfl rfl];rfl
 unfold qm6;rw[qaj,s7,qaa,qaT,qaj];have i7:O2.g .ix (st μ k (.w E) us) (plT (r.1 / size,r.2.1)) (.int 0)=some (.v (.int (r.1 / size))):=rfl;cases E with
 |nil=>have hl:=last [] us (by simp);simp[ln];rw[show qbc size [] r=([],qcq [] (r.1 / size,r.2.1) ((qf1 [] (r.1 / size,r.2.1)).getD 0+r.2.2)) from rfl,List.append_nil];simpa using hl
 |cons z E=>
  obtain⟨w,iH,_⟩:=W.one;obtain⟨y,mx⟩:=quX a0 (by simp) iH;have pos:(0:Int)<((z::E).length:Int):=by simp
  have ez:=iH z Vk;by_cases c:w<r.1 / size
  ·have cw:qtJ (z::E) (r.1 / size)=true:=Vw (by omega);have wf:qbc size (z::E) r=(qaO size (z::E),qcq [] (r.1 / size,r.2.1) r.2.2):=if_pos cw;have wr1:=hw a0 hE W.nd;have ex:=qsw (μ:=μ) (k:=k) (s:=.w (z::E)) (us:=us) (vs:=qaO size (z::E)) hu (by rw[qbX];omega);have a1:=qgU (us:=us++qaO size (z::E)) (s:=.w (z::E)) hk;have lv:=qcR (us:=us++qaO size (z::E)) (s:=.w (z::E)) hk (qgE _);have mk:qfg (st μ k (.w (z::E)) (us++qaO size (z::E))) (.obj k)= "dict" :=by
    have e0:qcb (st μ k (.w (z::E)) (us++qaO size (z::E))) (.obj k)=none:=by
     have:qcn (st μ k (.w (z::E)) (us++qaO size (z::E))) (.obj k)=none:=by show sqv _ (.obj k)=_;simp only[sqv,a1,ct]
     simp only[qcb,this]
    unfold qfg;rw[e0];simp[dkv,duv,a1,ct]
   have dc:Bm.g .dclear (st μ k (.w (z::E)) (us++qaO size (z::E))) [.obj k]=some (.p k (ct (.w [])) .non):=by
    show gOr qde qbA _ _=_;have g1:qde (st μ k (.w (z::E)) (us++qaO size (z::E))) [.obj k]=none:=by show(qk9 _ (.obj k)).map _=_;simp only[qk9,a1,ct];rfl
    have g2:qbA (st μ k (.w (z::E)) (us++qaO size (z::E))) [.obj k]=some (.p k (ct (.w [])) .non):=by simp only[qbA,a1,ct]
    unfold gOr;rw[g1];exact g2
   have al: ∀ρ:Ro,ρ[2]? =some (some (.obj k))->qab F (.alt (.bm false .clear (.v 2) []) (.bm false .dclear (.v 2) [])) ρ (st μ k (.w (z::E)) (us++qaO size (z::E)))= .ok .non (st μ k (.w []) (us++qaO size (z::E))):=λρ h=>by rw[qoI (by simp[h,mk])];simp[h,mk,dc,qrV lv,qbo hk]
   have hl:=last [] (us++qaO size (z::E)) (by simp);have g0:(qf1 [] (r.1 / size,r.2.1)).getD 0+r.2.2=r.2.2:=by show(0:Int)+_=_;omega
   rw[g0] at hl;rw[wf];have test:qab F (.and (.o2 false .gt (.bn false .len [(.v 2)]) (.c (.int 0))) (.o2 false .lt (.o2 false .ix (.bn false .max [(.v 2)]) (.c (.int 0))) (.o2 false .ix (.v 7) (.c (.int 0))))) [some a,some (.int size),some (.obj k),some (.obj μ.l.length),some (.int r.1),some (.str r.2.1),some (.int r.2.2),some (plT (r.1 / size,r.2.1))] (st μ k (.w (z::E)) us)= .ok (.bl true) (st μ k (.w (z::E)) us):=by simp[ln,mx,i7,c]
   rw[qg8,test,qaa,qi5,qaa,if_pos rfl];simp[qbR qnh];rw[wr1];simp[ex,al];simpa using hl
  ·have cw:qtJ (z::E) (r.1 / size)=false:=Vx (by omega);have wf:qbc size (z::E) r=([],qcq (z::E) (r.1 / size,r.2.1) ((qf1 (z::E) (r.1 / size,r.2.1)).getD 0+r.2.2)):=if_neg (by rw[cw];decide);have hl:=last (z::E) us (by omega);rw[wf,List.append_nil];have test:qab F (.and (.o2 false .gt (.bn false .len [(.v 2)]) (.c (.int 0))) (.o2 false .lt (.o2 false .ix (.bn false .max [(.v 2)]) (.c (.int 0))) (.o2 false .ix (.v 7) (.c (.int 0))))) [some a,some (.int size),some (.obj k),some (.obj μ.l.length),some (.int r.1),some (.str r.2.1),some (.int r.2.2),some (plT (r.1 / size,r.2.1))] (st μ k (.w (z::E)) us)= .ok (.bl false) (st μ k (.w (z::E)) us):=by simp[ln,mx,i7,c]
   rw[qg8,test,qaa,qi5,qaa,if_neg (by decide),qoF,qaa,qaT];exact hl
end
section
theorem qeQ {μ:Mu} {wr:Nat} {size:Int} (hw: ∀{μ:Mu} {E:EE},μ.l[k]? =some (ct (.w E))->E.length<64->(E.map (·.1)).Nodup->F wr [.int size,.obj k] μ= .ok (.lst ((qaO size E).map qac)) μ) (hs:0<size/\size<1073741824) {E0:EE} {rs:List Row} {m0:Int} (hk:μ.l[k]? =some (ct (.w E0))) (W:WI size E0 m0) (hm: ∀r∈rs,m0<=r.1) (hr:rs.Pairwise λa b=>a.1<=b.1) (hd:E0.length+rs.length<64):
  (qqd wr).run F [.lst (rs.map qac),.int size,.obj k] μ= .ok (.lst ((fo (qbc size) E0 rs).1.map qac)) (μ.put k (ct (.w (fo (qbc size) E0 rs).2)))/\∃m,WI size (fo (qbc size) E0 rs).2 m/\(m=m0\/∃x∈rs,m=x.1):=by
 have aw:=(List.getElem?_eq_some_iff.mp hk).1
 obtain⟨ρ',μ',e1,x4,x5,x6,x7,m,rfl,rfl,Wm,gu⟩:=qb6 (F:=F) (ρ:=[some (.lst (rs.map qac)),some (.int size),some (.obj k),some (.obj μ.l.length),none,none,none,none]) (μ:=st μ k (.w E0) []) (g:=.tup [(.n 4),(.n 5),(.n 6)]) (ci:=.gen (.v 0)) (b:=qm6 wr) rs qac
  (λd ρ' μ'=> ∃x4 x5 x6 x7 m,ρ'=[some (.lst (rs.map qac)),some (.int size),some (.obj k),some (.obj μ.l.length),x4,x5,x6,x7]/\μ'=st μ k (.w (fo (qbc size) E0 d).2) (fo (qbc size) E0 d).1/\WI size (fo (qbc size) E0 d).2 m/\(m=m0\/∃x∈d,m=x.1)) rfl (qcv (t:=.lst (rs.map qac)) (by simp) (.inl rfl)) ⟨none,none,none,none,m0,rfl,rfl,W,.inl rfl⟩ (by
   rintro d r q hq ρ' μ' ⟨x4,x5,x6,x7,m,rfl,rfl,Wm,gu⟩;have ll:=qd0 size d E0;have eQ:d.length<rs.length:=by rw[hq];simp
   have le:m<=r.1:=by
    rcases gu with rfl|⟨x,hx,rfl⟩
    ·exact hm r (by rw[hq];simp)
    ·rw[hq,List.pairwise_append] at hr;exact hr.2.2 x hx r Vk
   refine⟨_,_,qld hw hs aw Wm le (by omega) (by omega) x7,_,_,_,_,r.1,rfl,?_,?_,.inr ⟨r,by simp,rfl⟩⟩
   ·rw[qb7];simp[fo]
   ·rw[qb7];simp only[fo];exact Wm.step hs.1 le)
 refine⟨?_,m,Wm,gu⟩;have fin:(runSs F (qqd wr).b [some (.lst (rs.map qac)),some (.int size),some (.obj k),none,none,none,none,none] μ).bind outT= .ok (.obj μ.l.length) (st μ k (.w (fo (qbc size) E0 rs).2) (fo (qbc size) E0 rs).1):=by refine qam (ρ':=[some (.lst (rs.map qac)),some (.int size),some (.obj k),some (.obj μ.l.length),none,none,none,none]) (μ':=st μ k (.w E0) []) ?_ (qam e1 (qeb rfl));rw[<-qn5 hk];rfl
 exact qjc (us:=(fo (qbc size) E0 rs).1.map qac) rfl rfl fin λt ht=>by obtain⟨r,_,rfl⟩:=List.mem_map.mp ht;exact qgP r
noncomputable def qkF:Fcd:=⟨false,2,2,[.ret (.comp false false 1 [1] (.n 0) (.gen (.v 0)) (some (.o2 false .eq (.o2 false .ix (.v 0) (.c (.int 1))) (.v 1))) (.v 0))]⟩
noncomputable def qn0:Fcd:=⟨false,2,2,[.ret (.comp false false 1 [1] (.n 0) (.gen (.v 0)) (some (.o2 false .gt (.o2 false .ix (.v 0) (.c (.int 2))) (.v 1))) (.v 0))]⟩
noncomputable def qkC:Fcd:=⟨false,2,2,[.ret (.comp false false 1 [1] (.n 0) (.gen (.v 0)) (some (.o2 false .lt (.o2 false .ix (.v 0) (.c (.int 2))) (.v 1))) (.v 0))]⟩
noncomputable def qnY:Fcd:=⟨false,2,2,[.ret (.comp false false 3 [1] (.tup [(.n 0),(.n 1),(.n 2)]) (.gen (.v 0)) none (.tup [(.v 0),(.v 1),(.o2 false .add (.v 2) (.v 3))]))]⟩
noncomputable def qkD:Fcd:=⟨false,2,2,[.ret (.comp false false 3 [1] (.tup [(.n 0),(.n 1),(.n 2)]) (.gen (.v 0)) none (.tup [(.v 0),(.v 1),(.o2 false .mul (.v 2) (.v 3))]))]⟩
theorem i1:O2.g .ix μ (qac r) (.int 1)=some (.v (.str r.2.1)):=rfl
theorem i2:O2.g .ix μ (qac r) (.int 2)=some (.v (.int r.2.2)):=rfl
theorem ql0{rs:List Row}:qkF.run F [.lst (rs.map qac),.str y] μ= .ok (.lst ((rs.filter λr=>decide (r.2.1=y)).map qac)) μ:=by
 refine qav rfl ?_;have cm:=qmR (F:=F) (μ:=μ) (ρ:=[some (.lst (rs.map qac)),some (.str y)]) (x:=false) (fr:=[1]) (ci:=.gen (.v 0)) (t:=some (.o2 false .eq (.o2 false .ix (.v 0) (.c (.int 1))) (.v 1))) (e:=.v 0) rs qac (λr=>decide (r.2.1=y)) qac (qb4 (t:=.lst (rs.map qac)) (by simp) rfl) (λr _=>by simp[i1]) λr _ _=>by simp
 exact(qeb (ss:=[]) (by rw[qaW];exact congrArg (λr=>R.bind r λt μ=>R.ok (Out.rt t) μ) cm))
theorem qo2{rs:List Row}{y:Int}:qn0.run F [.lst (rs.map qac),.int y] μ= .ok (.lst ((rs.filter λr=>decide (y<r.2.2)).map qac)) μ:=by
 refine qav rfl ?_;have cm:=qmR (F:=F) (μ:=μ) (ρ:=[some (.lst (rs.map qac)),some (.int y)]) (x:=false) (fr:=[1]) (ci:=.gen (.v 0)) (t:=some (.o2 false .gt (.o2 false .ix (.v 0) (.c (.int 2))) (.v 1))) (e:=.v 0) rs qac (λr=>decide (y<r.2.2)) qac (qb4 (t:=.lst (rs.map qac)) (by simp) rfl) (λr _=>by simp[i2]) λr _ _=>by simp
 exact(qeb (ss:=[]) (by rw[qaW];exact congrArg (λr=>R.bind r λt μ=>R.ok (Out.rt t) μ) cm))
theorem qlk{rs:List Row}{y:Int}:qkC.run F [.lst (rs.map qac),.int y] μ= .ok (.lst ((rs.filter λr=>decide (r.2.2<y)).map qac)) μ:=by
 refine qav rfl ?_;have cm:=qmR (F:=F) (μ:=μ) (ρ:=[some (.lst (rs.map qac)),some (.int y)]) (x:=false) (fr:=[1]) (ci:=.gen (.v 0)) (t:=some (.o2 false .lt (.o2 false .ix (.v 0) (.c (.int 2))) (.v 1))) (e:=.v 0) rs qac (λr=>decide (r.2.2<y)) qac (qb4 (t:=.lst (rs.map qac)) (by simp) rfl) (λr _=>by simp[i2]) λr _ _=>by simp
 exact(qeb (ss:=[]) (by rw[qaW];exact congrArg (λr=>R.bind r λt μ=>R.ok (Out.rt t) μ) cm))
theorem qoR{rs:List Row}{y:Int}:qnY.run F [.lst (rs.map qac),.int y] μ= .ok (.lst ((rs.map λr=>((r.1,r.2.1,r.2.2+y):Row)).map qac)) μ:=by
 refine qav rfl ?_;have cm:=qnV (F:=F) (μ:=μ) (ρ:=[some (.lst (rs.map qac)),some (.int y)]) (x:=false) (fr:=[1]) (ci:=.gen (.v 0)) (e:=.tup [(.v 0),(.v 1),(.o2 false .add (.v 2) (.v 3))]) rs (λr=>qac (r.1,r.2.1,r.2.2+y)) (u:=λr=>.int r.1) (v:=λr=>.str r.2.1) (w:=λr=>.int r.2.2) (qb4 (t:=.lst (rs.map qac)) (by simp) rfl) λr _=>by simp[qac]
 have e:(rs.map λr=>qac (r.1,r.2.1,r.2.2+y))=(rs.map λr=>((r.1,r.2.1,r.2.2+y):Row)).map qac:=by rw[List.map_map];rfl
 rw[e] at cm;exact(qeb (ss:=[]) (by rw[qaW];exact congrArg (λr=>R.bind r λt μ=>R.ok (Out.rt t) μ) cm))
theorem qlt{rs:List Row}{y:Int}(hy: -4294967296<=y/\y<=4294967296):qkD.run F [.lst (rs.map qac),.int y] μ= .ok (.lst ((rs.map λr=>((r.1,r.2.1,r.2.2*y):Row)).map qac)) μ:=by
 refine qav rfl ?_;have cm:=qnV (F:=F) (μ:=μ) (ρ:=[some (.lst (rs.map qac)),some (.int y)]) (x:=false) (fr:=[1]) (ci:=.gen (.v 0)) (e:=.tup [(.v 0),(.v 1),(.o2 false .mul (.v 2) (.v 3))]) rs (λr=>qac (r.1,r.2.1,r.2.2*y)) (u:=λr=>.int r.1) (v:=λr=>.str r.2.1) (w:=λr=>.int r.2.2) (qb4 (t:=.lst (rs.map qac)) (by simp) rfl) λr _=>by simp[qac,hy]
 have e:(rs.map λr=>qac (r.1,r.2.1,r.2.2*y))=(rs.map λr=>((r.1,r.2.1,r.2.2*y):Row)).map qac:=by rw[List.map_map];rfl
 rw[e] at cm;exact(qeb (ss:=[]) (by rw[qaW];exact congrArg (λr=>R.bind r λt μ=>R.ok (Out.rt t) μ) cm))
end
inductive Sp where
 |key (y:Str)|over (n:Int)|under (n:Int)|plus (n:Int)|times (n:Int)
 |first(n:Int)|each (n:Int)|window (n:Int)|running|change|unlike
noncomputable def Sp.k0:Sp->Ks
 |.first _|.each _=>.n none
 |.window _=>.w []
 |_=>.d []
noncomputable def Sp.fit:Sp->Ks->Prop
 |.first _,.n _=>True
 |.each m,.n c=>0<m/\0<=c.getD 0/\c.getD 0<m
 |.window _,.w _=>True
 |.running,.d _|.change,.d _|.unlike,.d _=>True
 |.key _,.d _|.over _,.d _|.under _,.d _|.plus _,.d _|.times _,.d _=>True
 |_,_=>False
noncomputable def Sp.go:Sp->Ks->List Row->List Row×Ks
 |.key y,s,rs=>(rs.filter λr=>decide (r.2.1=y),s)
 |.over n,s,rs=>(rs.filter λr=>decide (n<r.2.2),s)
 |.under n,s,rs=>(rs.filter λr=>decide (r.2.2<n),s)
 |.plus n,s,rs=>(rs.map λr=>((r.1,r.2.1,r.2.2+n):Row),s)
 |.times n,s,rs=>(rs.map λr=>((r.1,r.2.1,r.2.2*n):Row),s)
 |.first m,.n c,rs=>((qaQ m c rs).1,.n (qaQ m c rs).2)
 |.each m,.n c,rs=>((qcj m c rs).1,.n (qcj m c rs).2)
 |.window m,.w E,rs=>((fo (qbc m) E rs).1,.w (fo (qbc m) E rs).2)
 |.running,.d D,rs=>((fo qqs D rs).1,.d (fo qqs D rs).2)
 |.change,.d D,rs=>((fo qlc D rs).1,.d (fo qlc D rs).2)
 |.unlike,.d D,rs=>((fo qiS D rs).1,.d (fo qiS D rs).2)
 |_,s,_=>([],s)
noncomputable def Sp.rest:Sp->Ks->List Row
 |.window m,.w E=>qaO m E
 |_,_=>[]
theorem qkg(m:Int)(c:Option Int)(a b:List Row):qaQ m c (a++b)=((qaQ m c a).1++(qaQ m (qaQ m c a).2 b).1,(qaQ m (qaQ m c a).2 b).2):=by
 simp only[qaQ,Option.getD_some,List.take_append,List.length_append,Prod.mk.injEq,Option.some.injEq,Int.natCast_add];refine⟨?_,by omega⟩
 congr 2
 omega
theorem fmc: ∀{l:List α},(∀a∈l,f a=g a)->l.filterMap f=l.filterMap g
 |[],_=>rfl
 |a::l,h=>by rw[List.filterMap_cons,List.filterMap_cons,h a List.mem_cons_self,fmc λb hb=>h b (List.mem_cons_of_mem _ hb)]
theorem qjo(rs:List α)(lo:Nat){n:Nat}(hn:0<n):RH.pickL rs (some (lo:Int)) none (some (n:Int))=(List.range ((rs.length - lo+n - 1) / n)).filterMap λk=>rs[lo+n*k]? :=by
 unfold RH.pickL;have hp:(n:Int)>0:=by omega
 have e:sliceBounds (some (lo:Int)) none (some (n:Int)) rs.length=(((min lo rs.length:Nat):Int),(rs.length:Int),(n:Int)):=by unfold sliceBounds;simp only[Option.getD_some,hp,if_true,gt_iff_lt];rw[if_neg (by omega)];refine Prod.ext ?_ rfl;show max 0 (min (lo:Int) (rs.length:Int))=_;omega
 rw[e];unfold sliceRange;simp only[hp,if_true,gt_iff_lt];by_cases c:lo<rs.length
 ·rw[Nat.min_eq_left (by omega),if_pos (by omega)];have e2:(rs.length:Int) - (lo:Int)+n - 1=((rs.length - lo+n - 1:Nat):Int):=by omega
  rw[e2,<-Int.natCast_ediv,Int.toNat_natCast,List.filterMap_map];refine fmc λk hk=> ?_;show rs[((lo:Int)+n*(k:Int)).toNat]? =_;refine congrArg (λi=>rs[i]?) ?_;have:((lo:Int)+(n:Int)*(k:Int))=((lo+n*k:Nat):Int):=by push_cast;rfl
  rw[this,Int.toNat_natCast]
 ·rw[Nat.min_eq_right (by omega),if_neg (by omega)];have e3:(rs.length - lo+n - 1) / n=0:=Nat.div_eq_of_lt (by omega);rw[e3];rfl
theorem qoT(x:α)(rs:List α)(lo:Nat){n:Nat}(hn:0<n):RH.pickL (x::rs) (some ((lo+1:Nat):Int)) none (some (n:Int))=RH.pickL rs (some (lo:Int)) none (some (n:Int)):=by
 rw[qjo _ _ hn,qjo _ _ hn];have:(x::rs).length - (lo+1)=rs.length - lo:=by simp
 rw[this];refine fmc λk _=> ?_;have:lo+1+n*k=(lo+n*k)+1:=by omega
 rw[this,List.getElem?_cons_succ]
theorem qoS(x:α)(rs:List α){n:Nat}(hn:0<n):RH.pickL (x::rs) (some ((0:Nat):Int)) none (some (n:Int))=x::RH.pickL rs (some ((n - 1:Nat):Int)) none (some (n:Int)):=by
 rw[qjo _ _ hn,qjo _ _ hn];have e1:((x::rs).length - 0+n - 1) / n=rs.length / n+1:=by
  have:(x::rs).length - 0+n - 1=rs.length+n:=by simp only[List.length_cons];omega
  rw[this,Nat.add_div_right _ hn]
 have e2:(rs.length - (n - 1)+n - 1) / n=rs.length / n:=by
  by_cases c:n - 1<=rs.length
  ·congr 1;omega
  ·rw[Nat.div_eq_of_lt (by omega),Nat.div_eq_of_lt (by omega)]
 rw[e1,e2,List.range_succ_eq_map,List.filterMap_cons,List.filterMap_map];have e4:(x::rs)[0+n*0]? =some x:=rfl;rw[e4];refine congrArg (x:: ·) (fmc λk _=> ?_);show(x::rs)[0+n*(k+1)]? =_;have:0+n*(k+1)=(n - 1+n*k)+1:=by rw[Nat.mul_add];omega
 rw[this,List.getElem?_cons_succ]
noncomputable def qeB(m:Int)(c:Int)(r:Row):List Row×Int:=(if c+1=m then [r] else [],(c+1) % m)
theorem qgy(n:Nat)(hn:0<n): ∀(rs:List Row) (c:Nat),c<n->(RH.pickL rs (some ((n:Int) - 1 - c)) none (some (n:Int)),((c:Int)+rs.length) % n)=fo (qeB n) c rs
 |[],c,hc=>by
  have h:((n:Int) - 1 - c)=((n - 1 - c:Nat):Int):=by omega
  rw[h,qjo _ _ hn];refine Prod.ext ?_ ?_
  ·have:(([]:List Row).length - (n - 1 - c)+n - 1) / n=0:=Nat.div_eq_of_lt (by simp only[List.length_nil];omega);simp only[this];rfl
  ·show((c:Int)+0) % n=c;rw[Int.add_zero,Int.emod_eq_of_lt (by omega) (by omega)]
 |r::rs,c,hc=>by
  by_cases e:c+1=n
  ·have h:((n:Int) - 1 - c)=((0:Nat):Int):=by omega
   have e2:((c:Int)+1) % n=((0:Nat):Int):=by rw[show(c:Int)+1=n by omega,Int.emod_self];rfl
   have ih:=qgy n hn rs 0 hn;have h3:((n:Int) - 1 - (0:Nat))=((n - 1:Nat):Int):=by omega
   rw[h3] at ih;simp only[fo,qeB,e2,<-ih];rw[h,qoS r rs hn,if_pos (by omega)];refine Prod.ext rfl ?_;show((c:Int)+((rs.length+1:Nat):Int)) % n=(((0:Nat):Int)+rs.length) % n;have:(c:Int)+((rs.length+1:Nat):Int)=((0:Nat):Int)+rs.length+n:=by omega
   rw[this,Int.add_emod_right]
  ·have h:((n:Int) - 1 - c)=((n - 1 - (c+1)+1:Nat):Int):=by omega
   have e2:((c:Int)+1) % n=((c+1:Nat):Int):=by rw[Int.emod_eq_of_lt (by omega) (by omega)];rfl
   have ih:=qgy n hn rs (c+1) (by omega);have h3:((n:Int) - 1 - ((c+1:Nat):Int))=((n - 1 - (c+1):Nat):Int):=by omega
   rw[h3] at ih;simp only[fo,qeB,e2,<-ih];rw[h,qoT r rs _ hn,if_neg (by omega)];refine Prod.ext rfl ?_;show((c:Int)+((rs.length+1:Nat):Int)) % n=(((c+1:Nat):Int)+rs.length) % n
   congr 1;omega
theorem qb8(h:0<m/\0<=c.getD 0/\c.getD 0<m)(rs:List Row):qcj m c rs=((fo (qeB m) (c.getD 0) rs).1,some (fo (qeB m) (c.getD 0) rs).2):=by obtain⟨n,rfl⟩:=Int.eq_ofNat_of_zero_le (Int.le_of_lt h.1);obtain⟨d,hd⟩:=Int.eq_ofNat_of_zero_le h.2.1;have h3:=h.2.2;rw[hd] at h3;unfold qcj;rw[hd,<-qgy n (by omega) rs d (by omega)]
theorem qeA(hm:0<m): ∀(rs:List Row) {c:Int},0<=c/\c<m->0<=(fo (qeB m) c rs).2/\(fo (qeB m) c rs).2<m
 |[],_,h=>h
 |r::rs,c,_=>qeA hm rs ⟨Int.emod_nonneg _ (by omega),Int.emod_lt_of_pos _ hm⟩
theorem qnC(p:Sp)(s:Ks)(hf:p.fit s)(a b:List Row):p.go s (a++b)=((p.go s a).1++(p.go (p.go s a).2 b).1,(p.go (p.go s a).2 b).2):=by
 cases p with
 |each m=>
  cases s with
  |n c=>have h:0<m/\0<=c.getD 0/\c.getD 0<m:=hf;have h2:=qeA h.1 a h.2;have e:qcj m (some (fo (qeB m) (c.getD 0) a).2) b=_:=qb8 (c:=some _) ⟨h.1,h2⟩ b;simp only[Sp.go,qb8 h,e,qb7,Option.getD_some]
  |_=>exact hf.elim
 |key y|over y|under y|plus y|times y=>simp[Sp.go]
 |first m=>cases s<;>simp[Sp.go,qkg m]
 |window m|running|change|unlike=>cases s<;>simp[Sp.go,qb7]
theorem qsk(p:Sp)(s:Ks)(hf:p.fit s)(a:List Row):p.fit (p.go s a).2:=by
 cases p<;>cases s<;>first|exact hf.elim|exact trivial|skip
 rename_i m c;have h:0<m/\0<=c.getD 0/\c.getD 0<m:=hf;show 0<m/\0<=(qcj m c a).2.getD 0/\(qcj m c a).2.getD 0<m;rw[qb8 h];exact⟨h.1,qeA h.1 a h.2⟩
noncomputable def wk:List (Sp×Ks)->List Row->List Row×List (Sp×Ks)
 |[],rs=>(rs,[])
 |(p,s)::q,rs=>((wk q (p.go s rs).1).1,(p,(p.go s rs).2)::(wk q (p.go s rs).1).2)
noncomputable def qbv:List (Sp×Ks)->List Row->List Row
 |[],rs=>rs
 |(p,s)::q,rs=>qbv q ((p.go s rs).1++p.rest (p.go s rs).2)
abbrev qqz(q:List (Sp×Ks)):Prop:= ∀x∈q,x.1.fit x.2
theorem qnb: ∀(q:List (Sp×Ks)) (rs:List Row),qqz q->qqz (wk q rs).2
 |[],_,_=>λ_ h=>nomatch h
 |(p,s)::q,rs,h=>λx hx=>by
  rcases List.mem_cons.mp hx with rfl|hx
  ·exact qsk p s (h _ Vk) rs
  ·exact qnb q _ (λy hy=>h y (Vl _ hy)) x hx
theorem qiM: ∀(q:List (Sp×Ks)) (a b:List Row),qqz q->qbv q (a++b)=(wk q a).1++qbv (wk q a).2 b
 |[],_,_,_=>rfl
 |(p,s)::q,a,b,h=>by have e:=qnC p s (h _ Vk) a b;simp only[wk,qbv,e,List.append_assoc];exact qiM q _ _ λy hy=>h y (Vl _ hy)
noncomputable def wrs:List (Sp×Ks)->List Row->List Row×List (Sp×Ks)
 |q,[]=>([],q)
 |q,r::rs=>((wk q [r]).1++(wrs (wk q [r]).2 rs).1,(wrs (wk q [r]).2 rs).2)
theorem qd1: ∀(rs:List Row) (q:List (Sp×Ks)),qqz q->(wrs q rs).1++qbv (wrs q rs).2 []=qbv q rs
 |[],_,_=>rfl
 |r::rs,q,h=>by show((wk q [r]).1++(wrs (wk q [r]).2 rs).1)++qbv (wrs (wk q [r]).2 rs).2 []=_;rw[List.append_assoc,qd1 rs _ (qnb q [r] h)];exact(qiM q [r] rs h).symm
section
noncomputable def qqe(ik:Nat)(fns:List (Str×Nat)):Fcd:=⟨false,3,5,[.set 3 (.o2 false .ix (.v 0) (.c (.int 0))),.ife (.o2 false .eq (.v 3) (.c (.str "key"))) [.ret (.call ik [(.v 1),(.o2 false .ix (.v 0) (.c (.int 1)))])] [],.ife (.topin false [("over", "over"),("under", "under"),("plus", "plus"),("times", "times")] (.v 3)) [.set 4 (.topget [("over", "over"),("under", "under"),("plus", "plus"),("times", "times")] (.v 3)),.ret (.callv fns 4 [(.v 1),(.o2 false .ix (.v 0) (.c (.int 1)))])] [],.ife (.topin false [("first", "first"),("each", "each"),("window", "window")] (.v 3)) [.set 4 (.topget [("first", "first"),("each", "each"),("window", "window")] (.v 3)),.ret (.callv fns 4 [(.v 1),(.o2 false .ix (.v 0) (.c (.int 1))),(.v 2)])] [],.set 4 (.topget [("running", "running"),("change", "change"),("unlike", "unlike")] (.v 3)),.ret (.callv fns 4 [(.v 1),(.v 2)])]⟩
noncomputable def Sp.T:Sp->T
 |.key y=>.tup [.str "key",.str y]
 |.over n=>.tup [.str "over",.int n]
 |.under n=>.tup [.str "under",.int n]
 |.plus n=>.tup [.str "plus",.int n]
 |.times n=>.tup [.str "times",.int n]
 |.first n=>.tup [.str "first",.int n]
 |.each n=>.tup [.str "each",.int n]
 |.window n=>.tup [.str "window",.int n]
 |.running=>.tup [.str "running"]
 |.change=>.tup [.str "change"]
 |.unlike=>.tup [.str "unlike"]
noncomputable def Sp.ix(ik:Nat)(fns:List (Str×Nat)):Sp->Option Nat
 |.key _=>some ik
 |.over _=>fns.lookup ("over" :Str)
 |.under _=>fns.lookup ("under" :Str)
 |.plus _=>fns.lookup ("plus" :Str)
 |.times _=>fns.lookup ("times" :Str)
 |.first _=>fns.lookup ("first" :Str)
 |.each _=>fns.lookup ("each" :Str)
 |.window _=>fns.lookup ("window" :Str)
 |.running=>fns.lookup ("running" :Str)
 |.change=>fns.lookup ("change" :Str)
 |.unlike=>fns.lookup ("unlike" :Str)
noncomputable def Sp.args(a b:NV.T):Sp->List NV.T
 |.key y=>[a,.str y]
 |.over n|.under n|.plus n|.times n=>[a,.int n]
 |.first n|.each n|.window n=>[a,.int n,b]
 |.running|.change|.unlike=>[a,b]
theorem qcF(h:ρ[i]? =some (some (.fn g)))(hj:fi.lookup g=some j):qab F (.callv fi i es) ρ μ=(runA F es ρ μ).bind λts μ=>F j ts μ:=by show qfE _ _ _ ρ μ=_;unfold qfE;rw[h];simp only[hj,Option.map_some];rfl
theorem qfZ(h:qab F e ρ μ= .ok t μ'):(runSs F (.ret e::ss) ρ μ).bind outT= .ok t μ':=qeb (by rw[qaW,h];rfl)
theorem qq1(h:qab F e ρ μ= .ok (.bl true) μ):qaP F (.ife e a b) ρ μ=runSs F a ρ μ:=by rw[qg8,h];rfl
theorem qjj(h:qab F e ρ μ= .ok (.bl false) μ):qaP F (.ife e a b) ρ μ=runSs F b ρ μ:=by rw[qg8,h];rfl
theorem qbg(h:qab F e ρ μ= .ok (.bl true) μ)(h2:runSs F a ρ μ= .ok (.rt t) μ'):(runSs F (.ife e a b::ss) ρ μ).bind outT= .ok t μ':=qeb (by rw[qq1 h,h2])
theorem qag(h:qab F e ρ μ= .ok (.bl false) μ)(h2:(runSs F ss ρ μ).bind outT= .ok t μ'):(runSs F (.ife e a []::ss) ρ μ).bind outT= .ok t μ':=qam (ρ':=ρ) (μ':=μ) (by rw[qjj h];rfl) h2
theorem sq2(h1:qaP F s ρ μ= .ok (.nx ρ') μ)(h2:ρ'[n]? =some (some (.fn g)))(h3:fi.lookup g=some j)(h4:runA F es ρ' μ= .ok ts μ)(h:F j ts μ= .ok t μ'):runSs F [s,.ret (.callv fi n es)] ρ μ= .ok (.rt t) μ':=by rw[qaj,h1,qaa,qaT,qaj,qaW,qcF h2 h3,h4,qaa,h];rfl
theorem qtn(p:Sp)(hi:p.ix ik fns=some i)(h:F i (p.args a b) μ= .ok t μ'):(runSs F (qqe ik fns).b [some p.T,some a,some b,none,none] μ).bind outT= .ok t μ':=by
 cases p with
 |key y=>obtain rfl:ik=i:=Option.some.inj hi;refine qam (ρ':=[some (Sp.T (.key y)),some a,some b,some (.str "key"),none]) (μ':=μ) rfl (qbg rfl ?_);rw[qaj,qaW,qaD];show R.bind (R.bind (F ik [a,.str y] μ) _) _=_;rw[show F ik [a,.str y] μ=_ from h];rfl
 |over n=>refine qam (ρ':=[some (Sp.T (.over n)),some a,some b,some (.str "over"),none]) (μ':=μ) rfl (qag rfl (qbg rfl ?_));exact sq2 (j:=i) (g:= "over") (ts:=[a,.int n]) rfl rfl hi rfl h
 |under n=>refine qam (ρ':=[some (Sp.T (.under n)),some a,some b,some (.str "under"),none]) (μ':=μ) rfl (qag rfl (qbg rfl ?_));exact sq2 (j:=i) (g:= "under") (ts:=[a,.int n]) rfl rfl hi rfl h
 |plus n=>refine qam (ρ':=[some (Sp.T (.plus n)),some a,some b,some (.str "plus"),none]) (μ':=μ) rfl (qag rfl (qbg rfl ?_));exact sq2 (j:=i) (g:= "plus") (ts:=[a,.int n]) rfl rfl hi rfl h
 |times n=>refine qam (ρ':=[some (Sp.T (.times n)),some a,some b,some (.str "times"),none]) (μ':=μ) rfl (qag rfl (qbg rfl ?_));exact sq2 (j:=i) (g:= "times") (ts:=[a,.int n]) rfl rfl hi rfl h
 |first n=>refine qam (ρ':=[some (Sp.T (.first n)),some a,some b,some (.str "first"),none]) (μ':=μ) rfl (qag rfl (qag rfl (qbg rfl ?_)));exact sq2 (j:=i) (g:= "first") (ts:=[a,.int n,b]) rfl rfl hi rfl h
 |each n=>refine qam (ρ':=[some (Sp.T (.each n)),some a,some b,some (.str "each"),none]) (μ':=μ) rfl (qag rfl (qag rfl (qbg rfl ?_)));exact sq2 (j:=i) (g:= "each") (ts:=[a,.int n,b]) rfl rfl hi rfl h
 |window n=>refine qam (ρ':=[some (Sp.T (.window n)),some a,some b,some (.str "window"),none]) (μ':=μ) rfl (qag rfl (qag rfl (qbg rfl ?_)));exact sq2 (j:=i) (g:= "window") (ts:=[a,.int n,b]) rfl rfl hi rfl h
 |running=>refine qam (ρ':=[some (Sp.T .running),some a,some b,some (.str "running"),none]) (μ':=μ) rfl (qag rfl (qag rfl (qag rfl (qam (ρ':=[some (Sp.T .running),some a,some b,some (.str "running"),some (.fn "running")]) (μ':=μ) rfl (qfZ ?_)))));rw[qcF (g:= "running") rfl hi];exact h
 |change=>refine qam (ρ':=[some (Sp.T .change),some a,some b,some (.str "change"),none]) (μ':=μ) rfl (qag rfl (qag rfl (qag rfl (qam (ρ':=[some (Sp.T .change),some a,some b,some (.str "change"),some (.fn "change")]) (μ':=μ) rfl (qfZ ?_)))));rw[qcF (g:= "change") rfl hi];exact h
 |unlike=>refine qam (ρ':=[some (Sp.T .unlike),some a,some b,some (.str "unlike"),none]) (μ':=μ) rfl (qag rfl (qag rfl (qag rfl (qam (ρ':=[some (Sp.T .unlike),some a,some b,some (.str "unlike"),some (.fn "unlike")]) (μ':=μ) rfl (qfZ ?_)))));rw[qcF (g:= "unlike") rfl hi];exact h
end
section
noncomputable def qvV:Fcd:=⟨false,2,6,[.set 2 (.lst true []),.for_ (.tup [(.n 3),(.n 4),(.n 5)]) (.gen (.v 0)) qqk,.ret (.v 2)]⟩
noncomputable def qvW:Fcd:=⟨false,2,6,[.set 2 (.lst true []),.for_ (.tup [(.n 3),(.n 4),(.n 5)]) (.gen (.v 0)) qm7,.ret (.v 2)]⟩
noncomputable def qvU:Fcd:=⟨false,2,6,[.set 2 (.lst true []),.for_ (.tup [(.n 3),(.n 4),(.n 5)]) (.gen (.v 0)) qkY,.ret (.v 2)]⟩
noncomputable def Sp.cd(wr:Nat):Sp->Fcd
 |.key _=>qkF
 |.over _=>qn0
 |.under _=>qkC
 |.plus _=>qnY
 |.times _=>qkD
 |.first _=>qeJ
 |.each _=>qhH
 |.window _=>qqd wr
 |.running=>qvV
 |.change=>qvW
 |.unlike=>qvU
noncomputable def Sp.can(rs:List Row):Sp->Ks->Prop
 |.window n,.w E=>(0<n/\n<1073741824)/\E.length+rs.length<64/\∃m,WI n E m/\(∀r∈rs,m<=r.1)/\rs.Pairwise λa b=>a.1<=b.1
 |.times n,.d _=> -4294967296<=n/\n<=4294967296
 |.key _,.d _|.over _,.d _|.under _,.d _|.plus _,.d _=>True
 |.running,.d D|.change,.d D|.unlike,.d D=>D.length+rs.length<=900
 |.each m,.n _=>0<m
 |.first _,.n _=>True
 |_,_=>False
theorem qb1{μ:Mu}(h:μ.l[k]? =some (ct s)):μ.put k (ct s)=μ:=by rw[Mu.put_k (by rw[qd5];exact Nat.zero_le _),qgV h]
theorem qor {μ:Mu} {wr:Nat} (dw: ∀ts μ,F wr ts μ=qcl.run F1 ts μ) (p:Sp) {rs:List Row} (hk:μ.l[k]? =some (ct s)) (hc:p.can rs s):
  (p.cd wr).run F (p.args (.lst (rs.map qac)) (.obj k)) μ= .ok (.lst ((p.go s rs).1.map qac)) (μ.put k (ct (p.go s rs).2)):=by
 cases p<;>cases s<;>first|exact hc.elim|skip
 ·exact ql0.trans (by rw[show(Sp.go (.key _) (.d _) rs).2= .d _ from rfl,qb1 hk];rfl)
 ·exact qo2.trans (by rw[show(Sp.go (.over _) (.d _) rs).2= .d _ from rfl,qb1 hk];rfl)
 ·exact qlk.trans (by rw[show(Sp.go (.under _) (.d _) rs).2= .d _ from rfl,qb1 hk];rfl)
 ·exact qoR.trans (by rw[show(Sp.go (.plus _) (.d _) rs).2= .d _ from rfl,qb1 hk];rfl)
 ·exact(qlt hc).trans (by rw[show(Sp.go (.times _) (.d _) rs).2= .d _ from rfl,qb1 hk];rfl)
 ·exact qmr hk
 ·exact qpM hc hk
 ·obtain⟨hs,hd,m,W,hm,hr⟩:=hc;exact(qeQ (λh hl nd=>by rw[dw];exact qdZ h hl nd ⟨hs.1,by omega⟩) hs hk W hm hr hd).1
 ·exact qh3 hk hc
 ·exact qkx hk hc
 ·exact qiR hk hc
theorem qn2 (p:Sp) (hi:p.ix ik fns=some i) (hF: ∀ts μ,F i ts μ=(p.cd wr).run F1 ts μ) (dw: ∀ts μ,F1 wr ts μ=qcl.run F2 ts μ) (hk:μ.l[k]? =some (ct s)) (hc:p.can rs s):
  (qqe ik fns).run F [p.T,.lst (rs.map qac),.obj k] μ= .ok (.lst ((p.go s rs).1.map qac)) (μ.put k (ct (p.go s rs).2)):=by refine qbp rfl (qtn p hi (by rw[hF];exact qor dw p hk hc)) ?_;rw[Mu.put_k (by rw[qd5];exact Nat.zero_le _)];simp
end
section
noncomputable def qkJ(bs wr:Nat):Fcd:=⟨false,3,4,[.set 3 (.call bs [(.v 0),(.v 1),(.v 2)]),.ife (.o2 false .eq (.o2 false .ix (.v 0) (.c (.int 0))) (.c (.str "window"))) [.ret (.o2 false .add (.v 3) (.call wr [(.o2 false .ix (.v 0) (.c (.int 1))),(.v 2)]))] [],.ret (.v 3)]⟩
theorem qpr(p:Sp)(hp: ∀n,p≠.window n)(h:F bs [p.T,a,b] μ= .ok t μ'):(runSs F (qkJ bs wr).b [some p.T,some a,some b,none] μ).bind outT= .ok t μ':=by
 refine qam (ρ':=[some p.T,some a,some b,some t]) (μ':=μ') ?_ (qag ?_ (qfZ rfl))
 ·have hA:runA F [(.v 0),(.v 1),(.v 2)] [some p.T,some a,some b,none] μ= .ok [p.T,a,b] μ:=by cases p<;>rfl
  rw[qe9,qaD,hA,qaa,h];rfl
 ·cases p<;>first|exact absurd rfl (hp _)|rfl
theorem qma(h:F bs [Sp.T (.window n),a,b] μ= .ok (.lst xs) μ')(hw:F wr [.int n,b] μ'= .ok (.lst ys) μ')(hl:xs.length+ys.length<=1000):(runSs F (qkJ bs wr).b [some (Sp.T (.window n)),some a,some b,none] μ).bind outT= .ok (.lst (xs++ys)) μ':=by
 refine qam (ρ':=[some (Sp.T (.window n)),some a,some b,some (.lst xs)]) (μ':=μ') ?_ (qbg rfl ?_)
 ·have hA:runA F [(.v 0),(.v 1),(.v 2)] [some (Sp.T (.window n)),some a,some b,none] μ= .ok [Sp.T (.window n),a,b] μ:=rfl;rw[qe9,qaD,hA,qaa,h];rfl
 ·rw[qaj,qaW,qej];show R.bind (R.bind (R.bind (F wr [.int n,b] μ') λy μ=>nvR false (O2.g .add μ (.lst xs) y) μ) _) _=_;rw[hw,qaa];have e:nvR false (O2.g .add μ' (.lst xs) (.lst ys)) μ'= .ok (.lst (xs++ys)) μ':=by show nvR false (if xs.length+ys.length<=1000 then some (Nv.l (xs++ys)) else none) μ'=_;rw[if_pos hl];rfl
  rw[e];rfl
end
section
theorem qra{μ:Mu}(hk:μ.l[k]? =some (ct s)):(μ.put k (ct s')).l[k]? =some (ct s'):=by rw[Mu.put_k (by rw[qd5];exact Nat.zero_le _)];have:=(List.getElem?_eq_some_iff.mp hk).1;simp[this]
theorem qhl{μ:Mu}:(μ.put k (ct s')).l.length=μ.l.length:=by rw[Mu.put_k (by rw[qd5];exact Nat.zero_le _)];simp
theorem qpq {μ:Mu} {bs wr ik i:Nat} (p:Sp) (hB: ∀ts μ,F bs ts μ=(qqe ik fns).run F1 ts μ) (hG: ∀ts μ,F wr ts μ=qcl.run G ts μ) (hi:p.ix ik fns=some i) (hF: ∀ts μ,F1 i ts μ=(p.cd wr).run F2 ts μ) (dw: ∀ts μ,F2 wr ts μ=qcl.run F3 ts μ) {rs:List Row} (hk:μ.l[k]? =some (ct s)) (hc:p.can rs s):
  (qkJ bs wr).run F [p.T,.lst (rs.map qac),.obj k] μ= .ok (.lst (((p.go s rs).1++p.rest (p.go s rs).2).map qac)) (μ.put k (ct (p.go s rs).2)):=by
 have hb:F bs [p.T,.lst (rs.map qac),.obj k] μ=_:=(hB _ _).trans (qn2 p hi hF dw hk hc);by_cases hp: ∀n,p≠.window n
 ·have e:p.rest (p.go s rs).2=[]:=by cases p<;>first|exact absurd rfl (hp _)|rfl
  rw[e,List.append_nil];exact qbp rfl (qpr p hp hb) qhl
 ·obtain ⟨n,rfl⟩: ∃n,p= .window n:=by cases p<;>first|exact⟨_,rfl⟩|exact absurd (λn h=>by cases h) hp
  cases s with
  |w E=>
   obtain⟨hs,hd,m,W,hm,hr⟩:=hc;obtain⟨-,m',W', -⟩:=qeQ (F:=F2) (wr:=wr) (λh hl nd=>by rw[dw];exact qdZ h hl nd ⟨hs.1,by omega⟩) hs hk W hm hr hd;have hl:=qd0 n rs E;have hw:F wr [.int n,.obj k] (μ.put k (ct (.w (fo (qbc n) E rs).2)))= .ok (.lst ((qaO n (fo (qbc n) E rs).2).map qac)) (μ.put k (ct (.w (fo (qbc n) E rs).2))):=by rw[hG];exact qdZ (qra hk) (by omega) W'.nd ⟨hs.1,by omega⟩
   have:=qma (F:=F) (bs:=bs) (wr:=wr) hb hw (by rw[List.length_map,List.length_map,qbX];show(fo (qbc n) E rs).1.length+_<=1000;omega);rw[<-List.map_append] at this;exact qbp rfl this qhl
  |_=>exact hc.elim
end
section
abbrev Sp.z(p:Sp):Sp×Ks:=(p,p.k0)
theorem qgL: ∀(a b:List (Sp×Ks)) (rs:List Row),qbv (a++b) rs=qbv b (qbv a rs)
 |[],_,_=>rfl
 |(_,_)::a,b,_=>qgL a b _
noncomputable def qmW(ra rl bl:Nat):Fcd:=⟨false,2,4,[.exp (.call ra [(.v 0)]),.exp (.call rl [(.v 1)]),.set 2 (.bn false .lst [(.v 1)]),.for_ (.n 3) (.gen (.v 0)) [.set 2 (.call bl [(.v 3),(.v 2),(.dct true)])],.ret (.v 2)]⟩
theorem qs6(p:Sp):ct p.k0= .dk []:=by cases p<;>rfl
theorem qoy:(l++[d]).set l.length c=l++[c]:=by simp
theorem qqD(rs:List Row):ub (.lst (rs.map qac))=0:=qll λt ht=>by obtain⟨r,_,rfl⟩:=List.mem_map.mp ht;exact qgP r
theorem qm9 (h1:F ra [.tup (ps.map Sp.T)] μ= .ok t1 μ) (h2:F rl [.lst (rs.map qac)] μ= .ok t2 μ) (hn:rs.length<=1000) (hL: ∀p∈ps,∀{μ:Mu} {k:Nat} {s:Ks} {rs:List Row},μ.l[k]? =some (ct s)->p.can rs s->F bl [p.T,.lst (rs.map qac),.obj k] μ= .ok (.lst (((p.go s rs).1++p.rest (p.go s rs).2).map qac)) (μ.put k (ct (p.go s rs).2))) (hc: ∀d p r,ps=d++p::r->p.can (qbv (d.map Sp.z) rs) p.k0):
  (qmW ra rl bl).run F [.tup (ps.map Sp.T),.lst (rs.map qac)] μ= .ok (.lst ((qbv (ps.map Sp.z) rs).map qac)) μ:=by
 obtain⟨ρ',μ',e1,x3,cs,rfl,rfl⟩:=qb6 (F:=F) (ρ:=[some (.tup (ps.map Sp.T)),some (.lst (rs.map qac)),some (.lst (rs.map qac)),none]) (μ:=μ) (g:=.n 3) (ci:=.gen (.v 0)) (b:=[.set 2 (.call bl [(.v 3),(.v 2),(.dct true)])]) ps Sp.T
  (λd ρ' μ'=> ∃x3 cs,ρ'=[some (.tup (ps.map Sp.T)),some (.lst (rs.map qac)),some (.lst ((qbv (d.map Sp.z) rs).map qac)),x3]/\μ'=⟨μ.l++cs,μ.k⟩) rfl (qcv (t:=.tup (ps.map Sp.T)) (by simp) (.inr rfl)) ⟨none,[],rfl,by simp⟩ (by
   rintro d p r hq ρ' μ' ⟨x3,cs,rfl,rfl⟩;have hp:p∈ps:=by rw[hq];simp
   have hA:runA F [(.v 3),(.v 2),(.dct true)] [some (.tup (ps.map Sp.T)),some (.lst (rs.map qac)),some (.lst ((qbv (d.map Sp.z) rs).map qac)),some p.T] ⟨μ.l++cs,μ.k⟩= .ok [p.T,.lst ((qbv (d.map Sp.z) rs).map qac),.obj (μ.l++cs).length] ⟨(μ.l++cs)++[.dk []],μ.k⟩:=by simp[Mu.add_on (show ubC (.dk [])=0 from rfl),Mu.on]
   have hb:=hL p hp (μ:=⟨(μ.l++cs)++[.dk []],μ.k⟩) (k:=(μ.l++cs).length) (s:=p.k0) (by rw[qs6];simp) (hc d p r hq);rw[Mu.put_k (by rw[qd5];exact Nat.zero_le _)] at hb;refine⟨_,_,?_,some p.T,cs++[ct (p.go p.k0 (qbv (d.map Sp.z) rs)).2],rfl,rfl⟩;show R.bind (R.ok [some (.tup (ps.map Sp.T)),some (.lst (rs.map qac)),some (.lst ((qbv (d.map Sp.z) rs).map qac)),some p.T] _) _=_;rw[qaa,qaj,qe9,qaD,hA,qaa,hb];simp only[qoy,List.map_append,List.map_cons,List.map_nil,qgL,qbv];simp only[<-List.append_assoc]
   rfl)
 have e0:qaP F (.set 2 (.bn false .lst [(.v 1)])) [some (.tup (ps.map Sp.T)),some (.lst (rs.map qac)),none,none] μ= .ok (.nx [some (.tup (ps.map Sp.T)),some (.lst (rs.map qac)),some (.lst (rs.map qac)),none]) μ:=by rw[qe9];simp
 have fin:(runSs F (qmW ra rl bl).b [some (.tup (ps.map Sp.T)),some (.lst (rs.map qac)),none,none] μ).bind outT= .ok (.lst ((qbv (ps.map Sp.z) rs).map qac)) ⟨μ.l++cs,μ.k⟩:=
  qam (ρ':=[some (.tup (ps.map Sp.T)),some (.lst (rs.map qac)),none,none]) (μ':=μ) (by rw[qcW,qaD];show R.bind (R.bind (R.ok _ μ) _) _=_;rw[qaa,h1];rfl)
  (qam (ρ':=[some (.tup (ps.map Sp.T)),some (.lst (rs.map qac)),none,none]) (μ':=μ) (by rw[qcW,qaD];show R.bind (R.bind (R.ok _ μ) _) _=_;rw[qaa,h2];rfl)
  (qam e0 (qam e1 (qfZ rfl))))
 by_cases c7:cs=[]
 ·subst c7;exact qbp rfl fin (by simp) |>.trans (by simp)
 ·unfold Fcd.run fnR;rw[if_pos (show [T.tup (ps.map Sp.T),T.lst (rs.map qac)].length=(qmW ra rl bl).n from rfl)];show lv false μ ((runSs F (qmW ra rl bl).b [some (.tup (ps.map Sp.T)),some (.lst (rs.map qac)),none,none] μ).bind outT)=_;rw[fin];unfold NV.lv;rw[if_neg (by decide)];exact qfk (m:=⟨μ.l++cs,μ.k⟩) (l':=μ.l) (cs:=cs) rfl rfl rfl c7 (qj9 (by rw[qqD];exact Nat.zero_le _))
end
noncomputable def Sp.gd:Sp->Prop
 |.window n=>0<n/\n<1073741824
 |.times n=> -4294967296<=n/\n<=4294967296
 |.each m=>0<m
 |_=>True
noncomputable def Ks.sz:Ks->Nat
 |.w E=>E.length
 |_=>0
noncomputable def Sp.iv(c:Nat)(m:Int):Sp->Ks->Prop
 |.window n,.w E=>E.length<=c/\WI n E m
 |.running,.d D|.change,.d D|.unlike,.d D=>D.length<=c
 |.key _,.d _|.over _,.d _|.under _,.d _|.plus _,.d _|.times _,.d _=>True
 |.each k,.n o=>0<=o.getD 0/\o.getD 0<k
 |.first _,.n _=>True
 |_,_=>False
noncomputable def Sp.ob(m:Int):Sp->Ks->Int
 |.window n,.w (x::_)=>(x.1.1+1)*n - 1
 |_,_=>m
abbrev Ris(rs:List Row):Prop:=rs.Pairwise λa b=>a.1<=b.1
section
variable {p:Sp}{s:Ks}{c:Nat}{m:Int}{rs:List Row}
theorem qnz(g:p.gd)(h:p.iv c m s)(hl:c+rs.length<64)(hm: ∀r∈rs,m<=r.1)(hr:Ris rs):p.can rs s:=by
 cases p<;>cases s<;>first|exact h.elim|skip
 all_goals simp only[Sp.can,Sp.iv,Sp.gd] at*
 all_goals first|exact trivial|exact g|(first|omega|skip)
 exact⟨g,by omega,m,h.2,hm,hr⟩
theorem qnx(g:p.gd)(h:p.iv c m s):p.fit s:=by cases p<;>cases s<;>first|exact h.elim|exact trivial|exact⟨g,h⟩
theorem qjS(h:p.iv c m s){c':Nat}{m':Int}(hc:c<=c')(hm:m<=m')(g:p.gd):p.iv c' m' s/\p.ob m s<=p.ob m' s:=by
 cases p<;>cases s<;>first|exact h.elim|skip
 all_goals try(first|exact⟨trivial,hm⟩|exact⟨h,hm⟩|exact⟨Vq h hc,hm⟩)
 rename_i n E;obtain⟨h1,nd,w,hw,fE⟩:=h;refine⟨⟨Vq h1 hc,nd,w,hw,Int.le_trans fE (Int.ediv_le_ediv g.1 hm)⟩,?_⟩;cases E with
 |nil=>exact hm
 |cons x E=>exact Int.le_refl _
theorem qxv(g:p.gd)(m:Int):p.iv 0 m p.k0:=by cases p<;>first|exact trivial|exact Vm _|exact⟨Int.le_refl _,g⟩|exact⟨Vm _,List.nodup_nil,m / _,(λx hx=>nomatch hx),Int.le_refl _⟩
theorem qmb(h:p.iv c m s):s.sz<=c:=by cases p<;>cases s<;>first|exact h.elim|exact Nat.zero_le _|exact h.1
theorem qel(D:DD)(k:Str)(v:Int):(put D k v).length<=D.length+1:=by unfold put;split<;>simp
theorem qhb(E:EE)(p:Pl)(v:Int): ∃x∈qcq E p v,x.1=p:=by
 unfold qcq;split
 ·rename_i c;obtain⟨y,hy,e⟩:=List.any_eq_true.mp c;exact⟨_,List.mem_map_of_mem hy,by rw[if_pos (of_decide_eq_true e)];exact of_decide_eq_true e⟩
 ·exact⟨(p,v),by simp,rfl⟩
theorem qse(g:p.gd)(h:p.iv c m s){r:Row}(hm:m<=r.1):p.iv (c+1) r.1 (p.go s [r]).2/\Ris (p.go s [r]).1/\(∀x∈(p.go s [r]).1,p.ob m s<=x.1/\x.1<=p.ob r.1 (p.go s [r]).2)/\p.ob m s<=p.ob r.1 (p.go s [r]).2/\(p.go s [r]).1.length+(p.go s [r]).2.sz<=s.sz+1:=by
 have one: ∀{o:List Row} {s':Ks},o.length<=1->(∀x∈o,x.1=r.1)->s'.sz=0->(∀m,p.ob m s=m)->(∀m,p.ob m s'=m)->Ris o/\(∀x∈o,p.ob m s<=x.1/\x.1<=p.ob r.1 s')/\p.ob m s<=p.ob r.1 s'/\o.length+s'.sz<=s.sz+1:=λ{o s'} h1 h2 h3 h4 h5=>by
  refine⟨?_,λx hx=> ?_,?_,by omega⟩
  ·match o,h1 with
   |[],_=>exact .nil
   |[x],_=>exact List.pairwise_singleton _ _
  ·rw[h4,h5,h2 x hx];exact⟨hm,Int.le_refl _⟩
  ·rw[h4,h5];exact hm
 cases p<;>cases s<;>first|exact h.elim|skip
 case key.d=>exact⟨trivial,one (by simp only[Sp.go];exact List.length_filter_le _ [r]) (λx hx=>by rw[List.mem_singleton.mp (List.mem_filter.mp hx).1]) rfl (λ_=>rfl) λ_=>rfl⟩
 case over.d=>exact⟨trivial,one (by simp only[Sp.go];exact List.length_filter_le _ [r]) (λx hx=>by rw[List.mem_singleton.mp (List.mem_filter.mp hx).1]) rfl (λ_=>rfl) λ_=>rfl⟩
 case under.d=>exact⟨trivial,one (by simp only[Sp.go];exact List.length_filter_le _ [r]) (λx hx=>by rw[List.mem_singleton.mp (List.mem_filter.mp hx).1]) rfl (λ_=>rfl) λ_=>rfl⟩
 case plus.d=>exact⟨trivial,one (by simp[Sp.go]) (λx hx=>by simp[Sp.go] at hx;rw[hx]) rfl (λ_=>rfl) λ_=>rfl⟩
 case times.d=>exact⟨trivial,one (by simp[Sp.go]) (λx hx=>by simp[Sp.go] at hx;rw[hx]) rfl (λ_=>rfl) λ_=>rfl⟩
 case first.n=>exact⟨trivial,one (by simp[Sp.go,qaQ];omega) (λx hx=>by have:=List.mem_of_mem_take hx;simp at this;rw[this]) rfl (λ_=>rfl) λ_=>rfl⟩
 case each.n k o=>
  have h':0<k/\0<=o.getD 0/\o.getD 0<k:=⟨g,h⟩
  have e:qcj k o [r]=(if o.getD 0+1=k then [r] else [],some ((o.getD 0+1) % k)):=by rw[qb8 h'];simp[fo,qeB]
  have e1:Sp.go (.each k) (.n o) [r]=(if o.getD 0+1=k then [r] else [],.n (some ((o.getD 0+1) % k))):=by simp only[Sp.go,e]
  rw[e1];exact⟨⟨Int.emod_nonneg _ (by omega),Int.emod_lt_of_pos _ g⟩,one (by show(if _ then [r] else []).length<=1;split<;>simp) (λx hx=>by simp at hx;rw[hx.2]) rfl (λ_=>rfl) λ_=>rfl⟩
 case running.d D=>exact⟨Vq (qel _ _ _) (Nat.succ_le_succ h),one (Vm _) (λx hx=>by simp[Sp.go,fo,qqs] at hx;rw[hx]) rfl (λ_=>rfl) λ_=>rfl⟩
 case change.d D=>
  refine⟨Vq (qel _ _ _) (Nat.succ_le_succ h),one ?_ (λx hx=> ?_) rfl (λ_=>rfl) λ_=>rfl⟩
  ·simp only[Sp.go,fo,qlc,List.append_nil];cases get D r.2.1<;>simp
  ·simp only[Sp.go,fo,qlc,List.append_nil] at hx;cases e:get D r.2.1<;>rw[e] at hx<;>simp at hx
   rw[hx]
 case unlike.d D=>
  refine⟨Vq (qel _ _ _) (Nat.succ_le_succ h),one ?_ (λx hx=> ?_) rfl (λ_=>rfl) λ_=>rfl⟩
  ·simp only[Sp.go,fo,qiS,List.append_nil];split<;>simp
  ·simp only[Sp.go,fo,qiS,List.append_nil] at hx;split at hx<;>simp at hx
   rw[hx]
 case window.w n E=>
  obtain⟨h1,W⟩:=h;have W':=W.step g.1 hm;have hl:=qiJ n E r;obtain⟨nd,w,hw,fE⟩:=W;have e:Sp.go (.window n) (.w E) [r]=((qbc n E r).1,.w (qbc n E r).2):=by simp[Sp.go,fo]
  rw[e];refine⟨⟨by show(qbc n E r).2.length<=c+1;omega,W'⟩,?_⟩;have at_: ∀x∈qaO n E,x.1=(w+1)*n - 1:=λx hx=>by obtain⟨y,hy,rfl⟩:=List.mem_map.mp hx;show(y.1.1+1)*n - 1=_;rw[hw y ((SR.perm_srt _).mem_iff.mp hy)]
  have up: ∀{a b:Int},a<=b->(a+1)*n - 1<=(b+1)*n - 1:=λ{a b} q=>by have:=Int.mul_le_mul_of_nonneg_right (show a+1<=b+1 by omega) (Int.le_of_lt g.1);omega
  have top: ∀{a:Int},a<=(a / n+1)*n - 1:=λ{a}=>by have:=Int.lt_mul_ediv_self_add (x:=a) (k:=n) g.1;rw[Int.add_mul,Int.one_mul,Int.mul_comm];omega
  have ne: ∃x E',(qbc n E r).2=x::E'/\x.1.1=r.1 / n:=by
   obtain⟨_,w',iI,_⟩:=W';obtain⟨y,hy,ey⟩: ∃y∈(qbc n E r).2,y.1=(r.1 / n,r.2.1):=by
    unfold qbc;split
    ·exact qhb [] (r.1 / n,r.2.1) _
    ·exact qhb E (r.1 / n,r.2.1) _
   cases e3:(qbc n E r).2 with
   |nil=>rw[e3] at hy;cases hy
   |cons x E'=>exact⟨x,E',rfl,by rw[iI x (by rw[e3];exact Vk),<-iI y hy,ey]⟩
  obtain⟨x,E',e2,ex⟩:=ne;have eb:Sp.ob r.1 (.window n) (.w (qbc n E r).2)=(r.1 / n+1)*n - 1:=by rw[e2];show(x.1.1+1)*n - 1=_;rw[ex]
  have mono:m / n<=r.1 / n:=Int.ediv_le_ediv g.1 hm;have le:Sp.ob m (.window n) (.w E)<=(r.1 / n+1)*n - 1:=by
   cases E with
   |nil=>exact Int.le_trans hm top
   |cons y E=>show(y.1.1+1)*n - 1<=_;exact up (by rw[hw y List.mem_cons_self];omega)
  rw[eb];refine⟨?_,λx hx=> ?_,le,hl⟩
  ·show Ris (qbc n E r).1;unfold qbc;split
   ·refine List.pairwise_iff_forall_sublist.mpr λ{a b} hs=> ?_;rw[at_ a (hs.subset (by simp)),at_ b (hs.subset (by simp))];exact Int.le_refl _
   ·exact .nil
  ·have hx:x∈(qbc n E r).1:=hx;unfold qbc at hx;split at hx
   ·rename_i ct;rw[at_ x hx];cases E with
    |nil=>cases ct
    |cons y E=>refine⟨?_,up (by omega)⟩;show(y.1.1+1)*n - 1<=_;rw[hw y List.mem_cons_self];exact Int.le_refl _
   ·cases hx
theorem qmc (g:p.gd): ∀{rs:List Row} {s:Ks} {c:Nat} {m m':Int},p.iv c m s->(∀r∈rs,m<=r.1/\r.1<=m')->m<=m'->Ris rs->
  p.iv (c+rs.length) m' (p.go s rs).2/\Ris (p.go s rs).1/\(∀x∈(p.go s rs).1,p.ob m s<=x.1/\x.1<=p.ob m' (p.go s rs).2)/\p.ob m s<=p.ob m' (p.go s rs).2/\(p.go s rs).1.length+(p.go s rs).2.sz<=s.sz+rs.length
 |[],s,c,m,m',h,_,hm,_=>by
  obtain⟨h1,h2⟩:=qjS h (Vm c) hm g;have same: ∀{o:List Row} {s':Ks},o=[]->s'=s->p.iv (c+0) m' s'/\Ris o/\(∀x∈o,p.ob m s<=x.1/\x.1<=p.ob m' s')/\p.ob m s<=p.ob m' s'/\o.length+s'.sz<=s.sz+0:=λ{o s'} e1 e2=>by rw[e1,e2];exact⟨h1,.nil,(λx hx=>nomatch hx),h2,by simp⟩
  cases p<;>cases s<;>first|exact h.elim|exact same rfl rfl|skip
  ·refine⟨trivial,?_,λx hx=> ?_,hm,?_⟩<;>simp[Sp.go,qaQ,Ks.sz] at*
  ·rename_i k o;have h':0<k/\0<=o.getD 0/\o.getD 0<k:=⟨g,h⟩
   have e:Sp.go (.each k) (.n o) []=([],.n (some (o.getD 0))):=by simp only[Sp.go,qb8 h',fo]
   rw[e];exact⟨h,.nil,(λx hx=>nomatch hx),hm,Vm _⟩
 |r::rs,s,c,m,m',h,hb,hm,hr=>by
  obtain⟨a1,a2,a3,a4,a5⟩:=qse g h (hb r Vk).1;have fw:=List.pairwise_cons.mp hr;obtain⟨b1,b2,b3,b4,b5⟩:=qmc g a1 (m':=m') (λx hx=>⟨fw.1 x hx,(hb x (Vl _ hx)).2⟩) (hb r Vk).2 fw.2;have e:=qnC p s (qnx g h) [r] rs;simp only[List.singleton_append] at e;rw[e];refine⟨by rw[List.length_cons,show c+(rs.length+1)=c+1+rs.length by omega];exact b1,?_,λx hx=> ?_,Int.le_trans a4 b4,by simp only[List.length_append,List.length_cons];omega⟩
  ·exact List.pairwise_append.mpr ⟨a2,b2,λx hx y hy=>Int.le_trans (a3 x hx).2 (b3 y hy).1⟩
  ·rcases List.mem_append.mp hx with hx|hx
   ·exact⟨(a3 x hx).1,Int.le_trans (a3 x hx).2 b4⟩
   ·exact⟨Int.le_trans a4 (b3 x hx).1,(b3 x hx).2⟩
theorem qny (g:p.gd) (h:p.iv c m s) (hb: ∀r∈rs,m<=r.1) (hr:Ris rs):
  Ris ((p.go s rs).1++p.rest (p.go s rs).2)/\(∀x∈(p.go s rs).1++p.rest (p.go s rs).2,p.ob m s<=x.1)/\((p.go s rs).1++p.rest (p.go s rs).2).length<=s.sz+rs.length:=by
 obtain⟨m',fE,bB⟩: ∃m',m<=m'/\∀r∈rs,r.1<=m':=by
  clear hb hr
  induction rs with
  |nil=>exact⟨m,Int.le_refl _,λ_ h=>nomatch h⟩
  |cons r rs ih=>obtain⟨m',h1,h2⟩:=ih;exact⟨max m' r.1,by omega,λx hx=>by rcases List.mem_cons.mp hx with rfl|hx;omega;have:=h2 x hx;omega⟩
 obtain⟨a1,a2,a3,a4,a5⟩:=qmc g h (λr hr=>⟨hb r hr,bB r hr⟩) fE hr;generalize p.go s rs=y at*;obtain⟨o,s'⟩:=y;by_cases hp: ∃n E,p= .window n/\s'= .w E
 ·obtain⟨n,E,rfl,rfl⟩:=hp;obtain⟨_,_,w,hw,_⟩:=a1;have at_: ∀x∈qaO n E,x.1=(w+1)*n - 1/\Sp.ob m' (.window n) (.w E)=x.1:=λx hx=>by
   obtain⟨y,hy,rfl⟩:=List.mem_map.mp hx;have hy:=(SR.perm_srt _).mem_iff.mp hy;refine⟨by show(y.1.1+1)*n - 1=_;rw[hw y hy],?_⟩;cases E with
   |nil=>cases hy
   |cons z E=>show(z.1.1+1)*n - 1=(y.1.1+1)*n - 1;rw[hw y hy,hw z List.mem_cons_self]
  refine⟨List.pairwise_append.mpr ⟨a2,?_,λx hx y hy=> ?_⟩,λx hx=> ?_,?_⟩
  ·refine List.pairwise_iff_forall_sublist.mpr λ{a b} hs=> ?_;rw[(at_ a (hs.subset (by simp))).1,(at_ b (hs.subset (by simp))).1];exact Int.le_refl _
  ·rw[<-(at_ y hy).2];exact(a3 x hx).2
  ·rcases List.mem_append.mp hx with hx|hx
   ·exact(a3 x hx).1
   ·rw[<-(at_ x hx).2];exact a4
  ·rw[List.length_append];show o.length+(qaO n E).length<=_;rw[qbX];exact a5
 ·have e:p.rest s'=[]:=by
   cases p<;>first|rfl|skip
   cases s'<;>first|rfl|exact absurd ⟨_,_,rfl,rfl⟩ hp
  rw[e,List.append_nil];exact⟨a2,λx hx=>(a3 x hx).1,by have:o.length+s'.sz<=_:=a5;show o.length<=_;omega⟩
noncomputable def Ch:Nat->Int->List (Sp×Ks)->Prop
 |_,_,[]=>True
 |c,m,(p,s)::q=>p.gd/\p.iv c m s/\Ch (c - s.sz) (p.ob m s) q
theorem Ch.mono: ∀{q:List (Sp×Ks)} {c c':Nat} {m m':Int},Ch c m q->c<=c'->m<=m'->Ch c' m' q
 |[],_,_,_,_,_,_,_=>trivial
 |(p,s)::q,c,c',m,m',⟨g,h,k⟩,hc,hm=>by obtain⟨h1,h2⟩:=qjS h hc hm g;exact⟨g,h1,k.mono (by omega) h2⟩
theorem Ch.zero: ∀{ps:List Sp} {m:Int},(∀p∈ps,p.gd)->Ch 0 m (ps.map Sp.z)
 |[],_,_=>trivial
 |p::ps,m,h=>⟨h p Vk,qxv (h p Vk) m,(Ch.zero (m:=m) λq hq=>h q (Vl _ hq)).mono (Nat.zero_le _) (by cases p<;>exact Int.le_refl _)⟩
theorem Ch.fits: ∀{q:List (Sp×Ks)} {c:Nat} {m:Int},Ch c m q->qqz q
 |[],_,_,_=>λ_ h=>nomatch h
 |(p,s)::q,_,_,⟨g,h,k⟩=>λx hx=>by
  rcases List.mem_cons.mp hx with rfl|hx
  ·exact qnx g h
  ·exact k.fits x hx
theorem Ch.wk: ∀{q:List (Sp×Ks)} {c:Nat} {m m':Int} {rs:List Row},Ch c m q->(∀r∈rs,m<=r.1/\r.1<=m')->m<=m'->Ris rs->Ch (c+rs.length) m' (wk q rs).2
 |[],_,_,_,_,_,_,_,_=>trivial
 |(p,s)::q,c,m,m',rs,⟨g,h,k⟩,hb,hm,hr=>by obtain⟨a1,a2,a3,a4,a5⟩:=qmc g h hb hm hr;have:=qmb h;exact⟨g,a1,(k.wk a3 a4 a2).mono (by omega) (Int.le_refl _)⟩
theorem Ch.can: ∀{d:List (Sp×Ks)} {p:Sp} {s:Ks} {r:List (Sp×Ks)} {c:Nat} {m m':Int} {rs:List Row},Ch c m (d++(p,s)::r)->(∀r∈rs,m<=r.1/\r.1<=m')->m<=m'->Ris rs->c+rs.length<64->p.can (Wk.wk d rs).1 s
 |[],p,s,r,c,m,m',rs,⟨g,h,k⟩,hb,hm,hr,hl=>qnz g h hl (λr h=>(hb r h).1) hr
 |(p',s')::d,p,s,r,c,m,m',rs,⟨g,h,k⟩,hb,hm,hr,hl=>by obtain⟨a1,a2,a3,a4,a5⟩:=qmc g h hb hm hr;have:=qmb h;show p.can (Wk.wk d (p'.go s' rs).1).1 s;exact Ch.can (d:=d) k a3 a4 a2 (by omega)
theorem Ch.canE: ∀{d:List (Sp×Ks)} {p:Sp} {s:Ks} {r:List (Sp×Ks)} {c:Nat} {m:Int} {rs:List Row},Ch c m (d++(p,s)::r)->(∀r∈rs,m<=r.1)->Ris rs->c+rs.length<64->p.can (qbv d rs) s
 |[],p,s,r,c,m,rs,⟨g,h,k⟩,hb,hr,hl=>qnz g h hl hb hr
 |(p',s')::d,p,s,r,c,m,rs,⟨g,h,k⟩,hb,hr,hl=>by obtain⟨a1,a2,a3⟩:=qny g h hb hr;have:=qmb h;show p.can (qbv d ((p'.go s' rs).1++p'.rest (p'.go s' rs).2)) s;exact Ch.canE (d:=d) k a2 a1 (by omega)
theorem Ch.ris: ∀{q:List (Sp×Ks)} {c:Nat} {m:Int} {rs:List Row},Ch c m q->(∀r∈rs,m<=r.1)->Ris rs->Ris (qbv q rs)/\(qbv q rs).length<=c+rs.length
 |[],c,m,rs,_,hb,hr=>⟨hr,by show rs.length<=_;omega⟩
 |(p,s)::q,c,m,rs,⟨g,h,k⟩,hb,hr=>by obtain⟨a1,a2,a3⟩:=qny g h hb hr;have:=qmb h;obtain⟨b1,b3⟩:=Ch.ris k a2 a1;exact⟨b1,by show(qbv q _).length<=_;omega⟩
end
noncomputable def qdA:List Ct->List (Nat×Ks)->List Ct
 |l,[]=>l
 |l,u::us=>qdA (l.set u.1 (ct u.2)) us
theorem qgN: ∀(us vs:List (Nat×Ks)) (l:List Ct),qdA l (us++vs)=qdA (qdA l us) vs
 |[],_,_=>rfl
 |_::us,vs,_=>qgN us vs _
theorem qcD: ∀(us:List (Nat×Ks)) (l:List Ct),(qdA l us).length=l.length
 |[],_=>rfl
 |u::us,l=>(qcD us _).trans (by simp)
theorem qcM: ∀{us:List (Nat×Ks)} {l:List Ct} {j:Nat},j∉us.map (·.1)->(qdA l us)[j]? =l[j]?
 |[],_,_,_=>rfl
 |u::us,l,j,h=>by simp only[List.map_cons,List.mem_cons,not_or] at h;exact(qcM h.2).trans (List.getElem?_set_ne (λe=>h.1 e.symm))
theorem qiQ: ∀{us:List (Nat×Ks)} {l:List Ct} {u:Nat×Ks},(us.map (·.1)).Nodup->u∈us->u.1<l.length->(qdA l us)[u.1]? =some (ct u.2)
 |v::us,l,u,nd,hu,hl=>by
  rw[List.map_cons,List.nodup_cons] at nd
  rcases List.mem_cons.mp hu with rfl|hu
  ·exact(qcM nd.1).trans (by simp[hl])
  ·show(qdA (l.set v.1 (ct v.2)) us)[u.1]? =_;exact qiQ nd.2 hu (by simpa using hl)
section
theorem qno(ho:qab F o ρ μ= .ok (.obj k) μ)(hk:μ.l[k]? =some (.ins c fs))(hi:ms.lookup c=some i)(hn:fs.lookup m=none):qab F (.mth ms m o es) ρ μ=(runA F es ρ μ).bind λts μ=>F i (.obj k::ts) μ:=by show qiu _ _ _ _ ρ μ=_;unfold qiu dSq;rw[ho,qaa];simp only[qsj,hk,hi,hn,Option.map_some,Option.isNone_none,if_true]
theorem qdf{μ:Mu}{cs:List Str}{k:Nat}{fs:List (Str×NV.T)}(hk:μ.l[k]? =some (.ins c fs))(hc:cs.contains c=true)(hf:fs.lookup f=some t):qnH (λc _=>cs.contains c) f (.obj k) μ= .ok t μ:=by simp only[qnH,hk,hf];rw[if_pos hc]
theorem qci{μ:Mu}{cs:List Str}{k:Nat}{fs:List (Str×NV.T)}(hk:μ.l[k]? =some (.ins c fs))(hc:cs.contains c=true)(hl:fs.length<1000):qqw (λc _=>cs.contains c) f t (.obj k) μ= .ok () (μ.put k (.ins c (qrb f t fs))):=by simp only[qqw,hk];rw[if_pos ⟨hc,hl⟩]
noncomputable def wg(G:Sp->Ks->List Row->List Row×Ks):List (Sp×Ks)->List Row->List Row×List (Sp×Ks)
 |[],rs=>(rs,[])
 |(p,s)::q,rs=>((wg G q (G p s rs).1).1,(p,(G p s rs).2)::(wg G q (G p s rs).1).2)
theorem qiL: ∀(a b:List (Sp×Ks)) (rs:List Row),wg G (a++b) rs=((wg G b (wg G a rs).1).1,(wg G a rs).2++(wg G b (wg G a rs).1).2)
 |[],_,_=>rfl
 |(p,s)::a,b,rs=>by simp only[List.cons_append,wg,qiL a b]
theorem qdy: ∀(a:List (Sp×Ks)) (rs:List Row),(wg G a rs).2.length=a.length
 |[],_=>rfl
 |(p,s)::a,rs=>by simp only[wg,List.length_cons,qdy a]
theorem qnc: ∀(a:List (Sp×Ks)) (rs:List Row),(wg G a rs).2.map (·.1)=a.map (·.1)
 |[],_=>rfl
 |(p,s)::a,rs=>by simp only[wg,List.map_cons,qnc a]
noncomputable def goE(p:Sp)(s:Ks)(rs:List Row):List Row×Ks:=((p.go s rs).1++p.rest (p.go s rs).2,(p.go s rs).2)
theorem qlf: ∀(q:List (Sp×Ks)) (rs:List Row),wg Sp.go q rs=wk q rs
 |[],_=>rfl
 |(p,s)::q,rs=>by simp only[wg,wk,qlf q]
theorem qiK: ∀(q:List (Sp×Ks)) (rs:List Row),(wg goE q rs).1=qbv q rs
 |[],_=>rfl
 |(p,s)::q,rs=>by simp only[wg,qbv,goE,qiK q]
abbrev qbs(q:List (Sp×Ks))(ks:List Nat)(n:Int)(e:Bool):List (Str×NV.T):=[("ask",.tup (q.map λy=>y.1.T)),("kept",.lst (ks.map NV.T.obj)),("newest",.int n),("ended",.bl e)]
structure WS(μ:Mu)(x:Nat)(q:List (Sp×Ks))(ks:List Nat)(n:Int)(e:Bool):Prop where
 ins:μ.l[x]? =some (.ins "Walk" (qbs q ks n e))
 len:ks.length=q.length
 at_: ∀y∈q.zip ks,μ.l[y.2]? =some (ct y.1.2)
 nd:ks.Nodup
theorem WS.nx(w:WS μ x q ks n e):x∉ks:=λh=>by
 obtain⟨i,hi,e⟩:=List.mem_iff_getElem.mp h;have wl:=w.len;have:=w.at_ (q[i]'(by rw[<-w.len];exact hi),ks[i]) (List.mem_iff_getElem.mpr ⟨i,by rw[List.length_zip];omega,by simp⟩);simp only[e] at this;rw[w.ins] at this;revert this;generalize (q[i]'(by rw[<-w.len];exact hi)).2=s;cases s with
 |n c=>cases c<;>(intro h;cases h)
 |d D=>intro h;cases h
 |w E=>cases E<;>(intro h;cases h)
theorem qqA(q:List (Sp×Ks))(ks:List Nat):qiC (q.map λy=>y.1.T) (ks.map NV.T.obj)=(q.zip ks).map λy=>.tup [y.1.1.T,.obj y.2]:=by unfold qiC;rw[List.zip_map,List.map_map];rfl
theorem qnt {μ:Mu} {bs a b c x:Nat} {q:List (Sp×Ks)} {ks:List Nat} {n:Int} {e:Bool} {rs:List Row} (mk:NV.T->Option NV.T->Option NV.T->Ro) (m0: ∀t u v,(mk t u v)[0]? =some (some (.obj x))) (m1: ∀t u v y z,((mk t u v).set a (some y)).set b (some z)=mk t (some y) (some z)) (m2: ∀t u v y,(mk t u v).set c (some y)=mk y u v) (m3: ∀t y z μ,runA F [(.v a),(.v c),(.v b)] (mk t (some y) (some z)) μ= .ok [y,t,z] μ) (w:WS μ x q ks n e) (hB: ∀{p:Sp} {μ:Mu} {k:Nat} {s:Ks} {rs:List Row},p∈q.map (·.1)->μ.l[k]? =some (ct s)->p.can rs s->F bs [p.T,.lst (rs.map qac),.obj k] μ= .ok (.lst ((G p s rs).1.map qac)) (μ.put k (ct (G p s rs).2))) (hc: ∀d p s r,q=d++(p,s)::r->p.can (wg G d rs).1 s):
  ∃u v,qaP F (.for_ (.tup [.n a,.n b]) (.by_ .zip [(.fld ["Walk"] "ask" (.v 0)),(.fld ["Walk"] "kept" (.v 0))]) [.set c (.call bs [(.v a),(.v c),(.v b)])]) (mk (.lst (rs.map qac)) u0 v0) μ
   = .ok (.nx (mk (.lst ((wg G q rs).1.map qac)) u v)) ⟨qdA μ.l (ks.zip ((wg G q rs).2.map (·.2))),μ.k⟩:=by
 have wl:=w.len;have lz:(q.zip ks).map (·.1)=q:=by rw[List.map_fst_zip];omega
 have lk:(q.zip ks).map (·.2)=ks:=by rw[List.map_snd_zip];omega
 obtain⟨ρ',μ',e1,u,v,rfl,rfl⟩:=qb6 (F:=F) (ρ:=mk (.lst (rs.map qac)) u0 v0) (μ:=μ) (g:=.tup [.n a,.n b]) (ci:=.by_ .zip [(.fld ["Walk"] "ask" (.v 0)),(.fld ["Walk"] "kept" (.v 0))]) (b:=[.set c (.call bs [(.v a),(.v c),(.v b)])]) (q.zip ks) (λy=>.tup [y.1.1.T,.obj y.2])
  (λd ρ' μ'=> ∃u v,ρ'=mk (.lst ((wg G (d.map (·.1)) rs).1.map qac)) u v/\μ'=⟨qdA μ.l ((d.map (·.2)).zip ((wg G (d.map (·.1)) rs).2.map (·.2))),μ.k⟩) (qqA q ks)
  ⟨_,by
   show(runA F [(.fld ["Walk"] "ask" (.v 0)),(.fld ["Walk"] "kept" (.v 0))] _ μ).bind qf2=_;have f1:qab F (.fld ["Walk"] "ask" (.v 0)) (mk (.lst (rs.map qac)) u0 v0) μ= .ok (.tup (q.map λy=>y.1.T)) μ:=by rw[qnp,qlF,m0,qes,qaa];exact qdf w.ins rfl rfl
   have f2:qab F (.fld ["Walk"] "kept" (.v 0)) (mk (.lst (rs.map qac)) u0 v0) μ= .ok (.lst (ks.map NV.T.obj)) μ:=by rw[qnp,qlF,m0,qes,qaa];exact qdf w.ins rfl rfl
   rw[qaF,f1,qaa,qaF,f2];rfl,.inl rfl⟩ ⟨u0,v0,rfl,rfl⟩ (by
   rintro d ⟨⟨p,s⟩,k⟩ r hq ρ' μ' ⟨u,v,rfl,rfl⟩;have eE:q=d.map (·.1)++(p,s)::r.map (·.1):=by rw[<-lz,hq];simp
   have hk1:ks=d.map (·.2)++k::r.map (·.2):=by rw[<-lk,hq];simp
   have nd:=w.nd;rw[hk1] at nd;have hk0:μ.l[k]? =some (ct s):=w.at_ ((p,s),k) (by rw[hq];simp);have hnk:k∉((d.map (·.2)).zip ((wg G (d.map (·.1)) rs).2.map (·.2))).map (·.1):=by rw[List.map_fst_zip (by simp[qdy])];intro h;exact(List.nodup_append.mp nd).2.2 k h k Vk rfl
   have hb:=hB (p:=p) (μ:=⟨qdA μ.l ((d.map (·.2)).zip ((wg G (d.map (·.1)) rs).2.map (·.2))),μ.k⟩) (k:=k) (s:=s) (rs:=(wg G (d.map (·.1)) rs).1) (by rw[eE];simp) ((qcM hnk).trans hk0) (hc _ p s _ eE);rw[Mu.put_k (by rw[qd5];exact Nat.zero_le _)] at hb;refine⟨_,_,?_,some p.T,some (.obj k),rfl,rfl⟩;have eG: ∀(t:NV.T) (μ:Mu),qb0 (.tup [.n a,.n b]) (.tup [p.T,.obj k]) (mk t u v) μ= .ok (mk t (some p.T) (some (.obj k))) μ:=λt μ=>by simp[m1]
   show R.bind (qb0 _ _ _ _) _=_;rw[eG,qaa,qaj,qe9,qaD,m3,qaa,hb,qaa,qaa,qaT,m2];have ez:(List.map (·.2) (d++[((p,s),k)])).zip (List.map (·.2) (wg G (List.map (·.1) (d++[((p,s),k)])) rs).2)=(d.map (·.2)).zip ((wg G (d.map (·.1)) rs).2.map (·.2))++[(k,(G p s (wg G (d.map (·.1)) rs).1).2)]:=by rw[List.map_append,List.map_append,qiL,List.map_append,List.zip_append (by simp[qdy])];rfl
   rw[ez,qgN];have e1:(wg G (List.map (·.1) (d++[((p,s),k)])) rs).1=(G p s (wg G (d.map (·.1)) rs).1).1:=by rw[List.map_append,qiL];rfl
   rw[e1];rfl)
 rw[lz,lk] at e1;exact⟨u,v,e1⟩
theorem WS.upd {μ:Mu} {x:Nat} {ks:List Nat} {n n':Int} {e e':Bool} {m:Mu} (w:WS μ x q ks n e) (h:m.l[x]? =some (.ins "Walk" (qbs q ks n' e'))) (hl:m.l.length=μ.l.length) (k:List (Nat×Nat)):WS ⟨qdA m.l (ks.zip ((wg G q rs).2.map (·.2))),k⟩ x (wg G q rs).2 ks n' e':=by
 have lf:(ks.zip ((wg G q rs).2.map (·.2))).map (·.1)=ks:=by rw[List.map_fst_zip];simp[qdy,w.len]
 refine⟨?_,by rw[qdy];exact w.len,λy hy=> ?_,w.nd⟩
 ·show(qdA m.l _)[x]? =_;rw[qcM (by rw[lf];exact w.nx),h];unfold qbs;have:(wg G q rs).2.map (λy=>y.1.T)=q.map λy=>y.1.T:=by have:=congrArg (List.map Sp.T) (qnc (G:=G) q rs);rw[List.map_map,List.map_map] at this;exact this
  rw[this]
 ·have hm:(y.2,y.1.2)∈ks.zip ((wg G q rs).2.map (·.2)):=by
   have:=List.mem_map_of_mem (f:=λy:(Sp×Ks)×Nat=>(y.2,y.1.2)) hy;have e2:((wg G q rs).2.zip ks).map (λy:(Sp×Ks)×Nat=>(y.2,y.1.2))=ks.zip ((wg G q rs).2.map (·.2)):=by
    generalize (wg G q rs).2=a;clear this hy lf;generalize ks=b
    induction a generalizing b with
    |nil=>cases b<;>rfl
    |cons z a ih=>cases b with
     |nil=>rfl
     |cons y b=>simp[ih]
   rw[e2] at this;exact this
  refine qiQ (u:=(y.2,y.1.2)) (by rw[lf];exact w.nd) hm ?_;rw[hl];have:y.2∈ks:=by rw[<-lf];exact List.mem_map_of_mem (f:=(·.1)) hm
  obtain⟨i,hi,e⟩:=List.mem_iff_getElem.mp this;have wl:=w.len;have:=w.at_ (q[i]'(by rw[<-w.len];exact hi),ks[i]) (List.mem_iff_getElem.mpr ⟨i,by rw[List.length_zip];omega,by simp⟩);simp only[e] at this;exact(List.getElem?_eq_some_iff.mp this).1
end
noncomputable def qnX(rt bs:Nat):Fcd:=⟨false,2,5,[.exp (.call rt [(.v 1),(.fld ["Walk"] "ended" (.v 0)),(.fld ["Walk"] "newest" (.v 0))]),.fld ["Walk"] "newest" (.v 0) (.o2 false .ix (.v 1) (.c (.int 0))),.set 2 (.lst false [(.v 1)]),.for_ (.tup [(.n 3),(.n 4)]) (.by_ .zip [(.fld ["Walk"] "ask" (.v 0)),(.fld ["Walk"] "kept" (.v 0))]) [.set 2 (.call bs [(.v 3),(.v 2),(.v 4)])],.ret (.v 2)]⟩
noncomputable def qti(rv bl:Nat):Fcd:=⟨false,1,4,[.exp (.call rv [(.fld ["Walk"] "ended" (.v 0))]),.fld ["Walk"] "ended" (.v 0) (.c (.bl true)),.set 1 (.lst false []),.for_ (.tup [(.n 2),(.n 3)]) (.by_ .zip [(.fld ["Walk"] "ask" (.v 0)),(.fld ["Walk"] "kept" (.v 0))]) [.set 1 (.call bl [(.v 2),(.v 1),(.v 3)])],.ret (.v 1)]⟩
noncomputable def qfQ(ra:Nat):Fcd:=⟨false,2,2,[.exp (.call ra [(.v 1)]),.fld ["Walk"] "ask" (.v 0) (.v 1),.fld ["Walk"] "kept" (.v 0) (.comp false false 1 [] (.n 0) (.gen (.v 1)) none (.dct true)),.fld ["Walk"] "newest" (.v 0) (.c (.int 0)),.fld ["Walk"] "ended" (.v 0) (.c (.bl false))]⟩
section
structure Only(μ μ':Mu)(x:Nat)(ks:List Nat):Prop where
 len:μ'.l.length=μ.l.length
 old: ∀j,j≠x->j∉ks->μ'.l[j]? =μ.l[j]?
theorem qhf(h:us.map (·.1)=ks):Only μ ⟨qdA (μ.put x c).l us,k⟩ x ks:=by refine⟨by show(qdA _ us).length=_;rw[qcD];simp,λj h1 h2=> ?_⟩;show(qdA _ us)[j]? =_;rw[qcM (by rw[h];exact h2)];exact List.getElem?_set_ne λe=>h1 e.symm
theorem WS.put(w:WS μ x q ks n e):(μ.put x (.ins "Walk" (qbs q ks n' e'))).l[x]? =some (.ins "Walk" (qbs q ks n' e'))/\WS (μ.put x (.ins "Walk" (qbs q ks n' e'))) x q ks n' e':=by
 have h:(μ.put x (.ins "Walk" (qbs q ks n' e'))).l[x]? =some (.ins "Walk" (qbs q ks n' e')):=by rw[Mu.put_l];simp[(List.getElem?_eq_some_iff.mp w.ins).1]
 refine⟨h,h,w.len,λy hy=> ?_,w.nd⟩;rw[Mu.put_l,List.getElem?_set_ne,w.at_ y hy];intro z;exact w.nx (by rw[z];exact(Vy hy).2)
theorem qiH(w:WS μ x q ks n e):(ks.zip ((wg G q rs).2.map (·.2))).map (·.1)=ks:=by rw[List.map_fst_zip];simp[qdy,w.len]
theorem qoi (w:WS μ x q ks n false) (hT:F rt [qac r,.bl false,.int n] μ= .ok .non μ) (hB: ∀{p:Sp} {μ:Mu} {k:Nat} {s:Ks} {rs:List Row},p∈q.map (·.1)->μ.l[k]? =some (ct s)->p.can rs s->F bs [p.T,.lst (rs.map qac),.obj k] μ= .ok (.lst ((p.go s rs).1.map qac)) (μ.put k (ct (p.go s rs).2))) (ch:Ch c m q) (hm:m<=r.1) (hc:c<63):
  ∃μ',(qnX rt bs).run F [.obj x,qac r] μ= .ok (.lst ((wk q [r]).1.map qac)) μ'/\WS μ' x (wk q [r]).2 ks r.1 false/\Only μ μ' x ks:=by
 obtain⟨hp,w2⟩:=w.put (n':=r.1) (e':=false)
 obtain⟨u,v,e4⟩:=qnt (F:=F) (G:=Sp.go) (bs:=bs) (a:=3) (b:=4) (c:=2) (rs:=[r]) (u0:=none) (v0:=none) (λt u v=>[some (.obj x),some (qac r),some t,u,v]) (λ_ _ _=>rfl) (λ_ _ _ _ _=>rfl) (λ_ _ _ _=>rfl) (λ_ _ _ _=>rfl) w2 hB
  (λd p s r' hq=>by rw[qlf];rw[hq] at ch;exact ch.can (m':=r.1) (λy hy=>by rw[List.mem_singleton.mp hy];exact⟨hm,Int.le_refl _⟩) hm (List.pairwise_singleton _ _) (by simp;omega))
 refine⟨_,qbp (m:=⟨qdA (μ.put x (.ins "Walk" (qbs q ks r.1 false))).l (ks.zip ((wg Sp.go q [r]).2.map (·.2))),(μ.put x (.ins "Walk" (qbs q ks r.1 false))).k⟩) rfl (qam (ρ':=[some (.obj x),some (qac r),none,none,none]) (μ':=μ) ?_ (qam (ρ':=[some (.obj x),some (qac r),none,none,none]) (μ':=μ.put x (.ins "Walk" (qbs q ks r.1 false))) ?_ (qam (ρ':=[some (.obj x),some (qac r),some (.lst ([r].map qac)),none,none]) (μ':=μ.put x (.ins "Walk" (qbs q ks r.1 false))) ?_ (qam e4 (qfZ ?_))))) ?_,?_,qhf (qiH w)⟩
 ·have f1:qab F (.fld ["Walk"] "ended" (.v 0)) [some (.obj x),some (qac r),none,none,none] μ= .ok (.bl false) μ:=qdf w.ins rfl rfl;have f2:qab F (.fld ["Walk"] "newest" (.v 0)) [some (.obj x),some (qac r),none,none,none] μ= .ok (.int n) μ:=qdf w.ins rfl rfl;have f0:qab F (.v 1) [some (.obj x),some (qac r),none,none,none] μ= .ok (qac r) μ:=rfl
  change qaP F (.exp (.call rt _)) [some (.obj x),some (qac r),none,none,none] μ=_
  rw[qcW,qaD,qaF,f0,qaa,qaF,f1,qaa,qaF,f2];simp only[qaa,qcp,hT]
 ·show qaP F (.fld ["Walk"] "newest" (.v 0) (.o2 false .ix (.v 1) (.c (.int 0)))) _ _=_;rw[qdD];show R.bind (R.ok (NV.T.int r.1) μ) _=_;rw[qaa];show R.bind (R.ok (NV.T.obj x) μ) _=_;rw[qaa,qci w.ins rfl (by show 4<1000;decide)];rfl
 ·rfl
 ·rw[qlf];rfl
 ·show(qdA _ _).length=_;rw[qcD];simp
 ·rw[<-qlf];exact w.upd hp (by simp) _
theorem qsz (w:WS μ x q ks n false) (hT:F rv [.bl false] μ= .ok .non μ) (hB: ∀{p:Sp} {μ:Mu} {k:Nat} {s:Ks} {rs:List Row},p∈q.map (·.1)->μ.l[k]? =some (ct s)->p.can rs s->F bl [p.T,.lst (rs.map qac),.obj k] μ= .ok (.lst (((p.go s rs).1++p.rest (p.go s rs).2).map qac)) (μ.put k (ct (p.go s rs).2))) (ch:Ch c m q) (hc:c<64):
  ∃μ' q',(qti rv bl).run F [.obj x] μ= .ok (.lst ((qbv q []).map qac)) μ'/\WS μ' x q' ks n true/\Only μ μ' x ks:=by
 obtain⟨hp,w2⟩:=w.put (n':=n) (e':=true)
 obtain⟨u,v,e4⟩:=qnt (F:=F) (G:=goE) (bs:=bl) (a:=2) (b:=3) (c:=1) (rs:=[]) (u0:=none) (v0:=none) (λt u v=>[some (.obj x),some t,u,v]) (λ_ _ _=>rfl) (λ_ _ _ _ _=>rfl) (λ_ _ _ _=>rfl) (λ_ _ _ _=>rfl) w2 hB
  (λd p s r' hq=>by rw[qiK];rw[hq] at ch;exact ch.canE (λy hy=>nomatch hy) .nil (by simp;omega))
 refine⟨_,(wg goE q []).2,qbp (m:=⟨qdA (μ.put x (.ins "Walk" (qbs q ks n true))).l (ks.zip ((wg goE q []).2.map (·.2))),(μ.put x (.ins "Walk" (qbs q ks n true))).k⟩) rfl (qam (ρ':=[some (.obj x),none,none,none]) (μ':=μ) ?_ (qam (ρ':=[some (.obj x),none,none,none]) (μ':=μ.put x (.ins "Walk" (qbs q ks n true))) ?_ (qam (ρ':=[some (.obj x),some (.lst []),none,none]) (μ':=μ.put x (.ins "Walk" (qbs q ks n true))) ?_ (qam e4 (qfZ ?_))))) ?_,?_,qhf (qiH w)⟩
 ·have f1:qab F (.fld ["Walk"] "ended" (.v 0)) [some (.obj x),none,none,none] μ= .ok (.bl false) μ:=qdf w.ins rfl rfl
  change qaP F (.exp (.call rv _)) [some (.obj x),none,none,none] μ=_
  rw[qcW,qaD,qaF,f1];simp only[qaa,qcp,hT]
 ·show qaP F (.fld ["Walk"] "ended" (.v 0) (.c (.bl true))) _ _=_;rw[qdD];show R.bind (R.ok (NV.T.bl true) μ) _=_;rw[qaa];show R.bind (R.ok (NV.T.obj x) μ) _=_;rw[qaa,qci w.ins rfl (by show 4<1000;decide)];rfl
 ·rfl
 ·rw[qiK];rfl
 ·show(qdA _ _).length=_;rw[qcD];simp
 ·exact w.upd hp (by simp) _
theorem qfD: ∀(ts:List NV.T) (ρ:Ro) (μ:Mu),ρ≠[]->qfH (qb0 (.n 0)) (runT F none) (qab F (.dct true)) ts ρ μ= .ok ((List.range' μ.l.length ts.length).map NV.T.obj) ⟨μ.l++List.replicate ts.length (.dk []),μ.k⟩
 |[],ρ,μ,_=>by simp[qfH]
 |t::ts,ρ,μ,h=>by simp only[qfH,qxk,qaa,qoE,if_true,qoH,qfD ts _ _ (show ρ.set 0 (some t)≠[] by simpa using h),Mu.add_on (show ubC (.dk [])=0 from rfl),Mu.on,List.length_append,List.length_cons,List.length_nil];rw[List.range'_succ,List.map_cons,List.replicate_succ,List.append_assoc];rfl
theorem ct0(ps:List Sp): ∀y∈ps.map Sp.z,ct y.2= .dk []:=λy hy=>by obtain⟨p,_,rfl⟩:=List.mem_map.mp hy;exact qs6 p
theorem qnf(ps:List Sp):ub (.tup (ps.map Sp.T))=0:=qll λt ht=>by obtain⟨p,_,rfl⟩:=List.mem_map.mp ht;cases p<;>rfl
theorem qgO: ∀(n a:Nat),ubs ((List.range' a (n+1)).map NV.T.obj)=a+n+1
 |0,a=>by simp[List.range',ubs,ub]
 |n+1,a=>by rw[List.range'_succ,List.map_cons];show max (a+1) (ubs _)=_;rw[qgO n (a+1)];omega
theorem qrX {F:Fs} {μ:Mu} {i ra:Nat} {F1:Fs} {ps:List Sp} (hI: ∀ts μ,F i ts μ=(qfQ ra).run F1 ts μ) (hA: ∀μ,F1 ra [.tup (ps.map Sp.T)] μ= .ok .non μ):
  ∃μ',mkR "Walk" (F i) [.tup (ps.map Sp.T)] μ= .ok (.obj μ.l.length) μ'/\WS μ' μ.l.length (ps.map Sp.z) (List.range' (μ.l.length+1) ps.length) 0 false/\μ'.l.length=μ.l.length+1+ps.length/\∀j,j<μ.l.length->μ'.l[j]? =μ.l[j]? :=by
 have ea: ∀{q:List (Sp×Ks)},q=ps.map Sp.z->(q.map λy=>y.1.T)=ps.map Sp.T:=λ{q} e=>by rw[e,List.map_map];rfl
 generalize cW:List.range' (μ.l.length+1) ps.length=ks;let c3:Ct:=.ins "Walk" [("ask",.tup (ps.map Sp.T)),("kept",.lst (ks.map NV.T.obj))];let c4:Ct:=.ins "Walk" [("ask",.tup (ps.map Sp.T)),("kept",.lst (ks.map NV.T.obj)),("newest",.int 0)];let c5:Ct:=.ins "Walk" [("ask",.tup (ps.map Sp.T)),("kept",.lst (ks.map NV.T.obj)),("newest",.int 0),("ended",.bl false)];let m2:Mu:=⟨μ.l++[.ins "Walk" [("ask",.tup (ps.map Sp.T))]],μ.k⟩
 let m3:Mu:=⟨m2.l++List.replicate ps.length (.dk []),μ.k⟩
 let m5:Mu:=((m3.put μ.l.length c3).put μ.l.length c4).put μ.l.length c5;have l3:m3.l.length=μ.l.length+1+ps.length:=by simp[m3,m2];omega
 have at3:m3.l[μ.l.length]? =some (.ins "Walk" [("ask",.tup (ps.map Sp.T))]):=by show((μ.l++[_])++_)[_]? =_;rw[List.getElem?_append_left (by simp)];simp
 have at_: ∀{m:Mu} {c:Ct},m.l.length=m3.l.length->(m.put μ.l.length c).l[μ.l.length]? =some c:=λ{m c} h=>by rw[Mu.put_l,List.getElem?_set_self];omega
 have run:(runSs F1 (qfQ ra).b [some (.obj μ.l.length),some (.tup (ps.map Sp.T))] (μ.on (.ins "Walk" []))).bind outT= .ok .non m5:=by
  refine qam (ρ':=[some (.obj μ.l.length),some (.tup (ps.map Sp.T))]) (μ':=μ.on (.ins "Walk" [])) ?_ (qam (ρ':=[some (.obj μ.l.length),some (.tup (ps.map Sp.T))]) (μ':=m2) ?_ (qam (ρ':=[some (.obj μ.l.length),some (.tup (ps.map Sp.T))]) (μ':=m3.put μ.l.length c3) ?_ (qam (ρ':=[some (.obj μ.l.length),some (.tup (ps.map Sp.T))]) (μ':=(m3.put μ.l.length c3).put μ.l.length c4) ?_ (qam (ρ':=[some (.obj μ.l.length),some (.tup (ps.map Sp.T))]) (μ':=m5) ?_ rfl))))
  ·rw[qcW,qaD];show R.bind (F1 ra [.tup (ps.map Sp.T)] _) _=_;rw[hA];rfl
  ·rw[qdD];show R.bind (R.ok (NV.T.tup (ps.map Sp.T)) _) _=_;rw[qaa];show R.bind (R.ok (NV.T.obj μ.l.length) _) _=_;rw[qaa,qci Mu.on_at rfl (by show 0<1000;decide),qaa];show R.ok _ ((μ.on (.ins "Walk" [])).put μ.l.length (.ins "Walk" [("ask",.tup (ps.map Sp.T))]))=_;rw[Mu.on_put (c':=.ins "Walk" [("ask",.tup (ps.map Sp.T))]) (show max (ub (.tup (ps.map Sp.T))) 0=0 by rw[qnf];rfl)];rfl
  ·rw[qdD];have ec:qab F1 (.comp false false 1 [] (.n 0) (.gen (.v 1)) none (.dct true)) [some (.obj μ.l.length),some (.tup (ps.map Sp.T))] m2= .ok (.lst (ks.map NV.T.obj)) m3:=by
    show R.bind (R.bind (noX (qfH (qb0 (.n 0)) (runT F1 none) (qab F1 (.dct true)) (ps.map Sp.T) [none] m2)) _) _=_;rw[qfD _ _ _ (by simp)];have:List.range' m2.l.length (ps.map Sp.T).length=ks:=by rw[<-cW];simp[m2]
    rw[this,List.length_map];rfl
   rw[ec,qaa];show R.bind (R.ok (NV.T.obj μ.l.length) _) _=_;rw[qaa,qci at3 rfl (by show 1<1000;decide)];rfl
  ·rw[qdD];show R.bind (R.ok (NV.T.int 0) _) _=_;rw[qaa];show R.bind (R.ok (NV.T.obj μ.l.length) _) _=_;rw[qaa,qci (at_ rfl) rfl (by show 2<1000;decide)];rfl
  ·rw[qdD];show R.bind (R.ok (NV.T.bl false) _) _=_;rw[qaa];show R.bind (R.ok (NV.T.obj μ.l.length) _) _=_;rw[qaa,qci (at_ (by simp)) rfl (by show 3<1000;decide)];rfl
 have l5:m5.l.length=μ.l.length+1+ps.length:=by simp[m5,l3]
 have lv:leave (μ.on (.ins "Walk" [])) (.ok .non m5)= .ok .non m5:=by
  have l0:(μ.on (.ins "Walk" [])).l.length=μ.l.length+1:=by simp[Mu.on]
  show(if m5.l.length=(μ.on (.ins "Walk" [])).l.length then R.ok NV.T.non m5 else _)=_;rw[l5,l0];cases hp:ps.length with
  |zero=>rw[if_pos rfl]
  |succ n=>
   rw[if_neg (by omega),if_neg];have hu: ∀c,c=c3\/c=c4\/c=c5->ubC c=μ.l.length+n+2:=λc hc=>by
    have e1:ub (.lst (ks.map NV.T.obj))=μ.l.length+n+2:=by show ubs _=_;rw[<-cW,hp,qgO];omega
    have e2:=qnf ps
    rcases hc with rfl|rfl|rfl
    ·show max (ub (.tup (ps.map Sp.T))) (max (ub (.lst (ks.map NV.T.obj))) 0)=_;omega
    ·show max (ub (.tup (ps.map Sp.T))) (max (ub (.lst (ks.map NV.T.obj))) (max 0 0))=_;omega
    ·show max (ub (.tup (ps.map Sp.T))) (max (ub (.lst (ks.map NV.T.obj))) (max 0 (max 0 0)))=_;omega
   have pk: ∀{m:Mu} {c:Ct},(c=c3\/c=c4\/c=c5)->(m.put μ.l.length c).k=(μ.l.length,μ.l.length+n+2)::m.k:=λ{m c} hc=>by unfold Mu.put;rw[hu c hc,if_neg (by omega)]
   have k5:m5.k=(μ.l.length,μ.l.length+n+2)::(μ.l.length,μ.l.length+n+2)::(μ.l.length,μ.l.length+n+2)::μ.k:=by show(Mu.put _ _ c5).k=_;rw[pk (.inr (.inr rfl)),pk (.inr (.inl rfl)),pk (.inl rfl)]
   unfold Mu.apart Mu.nw;rw[k5,l0];simp[Mu.on];intro _ _;refine⟨μ.l.length,μ.l.length+n+2,?_,by omega,by omega⟩;rw[show μ.k.length+1+1+1 - μ.k.length=3 by omega];exact Vk
 refine⟨m5,?_,⟨?_,by rw[<-cW];simp,λy hy=> ?_,?_⟩,l5,λj hj=> ?_⟩
 ·unfold mkR;rw[Mu.add_on rfl,hI];have:(qfQ ra).run F1 [.obj μ.l.length,.tup (ps.map Sp.T)] (μ.on (.ins "Walk" []))= .ok .non m5:=by unfold Fcd.run fnR;rw[if_pos (show [NV.T.obj μ.l.length,.tup (ps.map Sp.T)].length=(qfQ ra).n from rfl)];show NV.lv false _ ((runSs F1 (qfQ ra).b [some (.obj μ.l.length),some (.tup (ps.map Sp.T))] _).bind outT)=_;rw[run];exact lv
  rw[this];rfl
 ·unfold qbs;rw[ea rfl];exact at_ (by simp)
 ·rw[ct0 ps y.1 (List.of_mem_zip hy).1];have hk:y.2∈ks:=(Vy hy).2;rw[<-cW,List.mem_range'_1] at hk;show(((m3.l.set _ _).set _ _).set _ _)[y.2]? =_;rw[List.getElem?_set_ne (by omega),List.getElem?_set_ne (by omega),List.getElem?_set_ne (by omega)];show(m2.l++_)[y.2]? =_;rw[List.getElem?_append_right (by simp[m2];omega),List.getElem?_replicate,if_pos (by simp[m2];omega)]
 ·rw[<-cW];exact List.nodup_range'
 ·show(((m3.l.set _ _).set _ _).set _ _)[j]? =_;rw[List.getElem?_set_ne (by omega),List.getElem?_set_ne (by omega),List.getElem?_set_ne (by omega)];show((μ.l++_)++_)[j]? =_;rw[List.getElem?_append_left (by simp;omega),List.getElem?_append_left hj]
end
section
noncomputable def qkL:Fcd:=⟨false,1,1,[.ret (.bn false .all [(.comp false false 2 [] (.tup [(.n 0),(.n 1)]) (.by_ .zip [(.v 0),(.sl false (.v 0) (some (.c (.int 1))) none)]) none (.o2 false .le (.o2 false .ix (.v 0) (.c (.int 0))) (.o2 false .ix (.v 1) (.c (.int 0)))))])]⟩
noncomputable def qkE(l:Nat):Fcd:=⟨false,1,1,[.ife (.nt (.call l [(.v 0)])) [.raise "TooLate"] []]⟩
noncomputable def qkH(r o:Nat):Fcd:=⟨false,1,1,[.exp (.call r [(.v 0)]),.exp (.call o [(.v 0)])]⟩
noncomputable def qkO:Fcd:=⟨false,1,1,[.ife (.v 0) [.raise "Ended"] []]⟩
noncomputable def qhG(e r:Nat):Fcd:=⟨false,3,3,[.exp (.call e [(.v 1)]),.exp (.call r [(.lst false [(.v 0)])]),.ife (.o2 false .lt (.o2 false .ix (.v 0) (.c (.int 0))) (.v 2)) [.raise "TooLate"] []]⟩
noncomputable def qmg(rs:List Row):Bool:=(rs.zip (rs.drop 1)).all λp=>decide (p.1.1<=p.2.1)
theorem qfq: ∀{rs:List Row},Ris rs->qmg rs=true
 |[],_=>rfl
 |[_],_=>rfl
 |a::b::rs,h=>by have h1:=List.pairwise_cons.mp h;have:=qfq h1.2;unfold qmg at*;simp only[List.drop_succ_cons,List.drop_zero,List.zip_cons_cons,List.all_cons,Bool.and_eq_true,decide_eq_true_eq] at*;exact⟨h1.1 b Vk,this⟩
theorem qqU(h:qcb μ t=some ts):gSl μ t (some 1) none=some (.l (ts.drop 1)):=by
 have e:qiw ts (some 1) none=ts.drop 1:=by
  unfold qiw;rw[HT.sIx_none,show(some 1:Option Int)=some ((1:Nat):Int) from rfl,HT.sIx_nat];cases ts with
  |nil=>rfl
  |cons x ts=>rw[Nat.min_eq_left (by simp),List.take_of_length_le (by simp)]
 have e2:qcn μ t=some (true,ts):=by
  unfold qcb at h;split at h
  ·rename_i q;cases h;exact q
  ·cases h
 unfold gSl;split
 ·cases e2
 ·cases e2
 ·rw[e2];show some (Nv.l (qiw ts (some 1) none))=_;rw[e]
theorem qmd(hl:rs.length<=900):qkL.run F [.lst (rs.map qac)] μ= .ok (.bl (qmg rs)) μ:=by
 refine qav rfl ?_;have sl:qab F (.sl false (.v 0) (some (.c (.int 1))) none) [some (.lst (rs.map qac))] μ= .ok (.lst ((rs.drop 1).map qac)) μ:=by rw[List.map_drop];show nvR false (gSl μ (.lst (rs.map qac)) (some 1) none) μ=_;rw[qqU rfl];rfl
 have z:qdq F (.by_ .zip [(.v 0),(.sl false (.v 0) (some (.c (.int 1))) none)]) [some (.lst (rs.map qac))] μ ((rs.zip (rs.drop 1)).map λp=>.tup [qac p.1,qac p.2]):=by have:=qsh (F:=F) (μ:=μ) (ρ:=[some (.lst (rs.map qac))]) (e:=.v 0) (ts:=rs.map qac) rfl sl;unfold qiC at this;rw[List.zip_map,List.map_map] at this;exact this
 have cm:=qs8 (F:=F) (μ:=μ) (ρ:=[some (.lst (rs.map qac))]) (x:=false) (fr:=[]) (e:=.o2 false .le (.o2 false .ix (.v 0) (.c (.int 0))) (.o2 false .ix (.v 1) (.c (.int 0)))) (rs.zip (rs.drop 1)) (λp:Row×Row=>.bl (decide (p.1.1<=p.2.1))) (u:=λp:Row×Row=>qac p.1) (v:=λp=>qac p.2) z λp _=>by simp[qac,ixT]
 simp[qkL,cm,qhK,qmg]
theorem qlX(h:F l [t] μ= .ok (.bl true) μ):(qkE l).run F [t] μ= .ok .non μ:=qav rfl (by simp[qkE,h])
theorem ql2(h:F r [t] μ= .ok .non μ)(h':F o [t] μ= .ok .non μ):(qkH r o).run F [t] μ= .ok .non μ:=qav rfl (by simp[qkH,h,h'])
theorem qmu:qkO.run F [.bl false] μ= .ok .non μ:=qav rfl (by simp[qkO])
theorem qi4(h:F e [.bl false] μ= .ok .non μ)(h':F r [.lst [qac x]] μ= .ok .non μ)(hn:n<=x.1):(qhG e r).run F [qac x,.bl false,.int n] μ= .ok .non μ:=qav rfl (by
 have: ¬x.1<n:=by omega
 have h':F r [.lst [.tup [.int x.1,.str x.2.1,.int x.2.2]]] μ= .ok .non μ:=h';simp[qhG,h,h',qac,ixT,this])
noncomputable def Sp.fine:Sp->Prop
 |.key y=>keyOk y
 |.over n|.under n|.plus n|.times n=> -20<=n/\n<=20
 |.first n|.each n|.window n=>1<=n/\n<=20
 |_=>True
theorem Sp.fine.gd{p:Sp}(h:p.fine):p.gd:=by cases p<;>simp only[Sp.fine,Sp.gd] at* <;>omega
noncomputable def qth(k w:Nat):Fcd:=⟨false,1,2,[.ife (.or (.nt (.inst "tuple" (.v 0))) (.or (.o2 false .eq (.bn false .len [(.v 0)]) (.c (.int 0))) (.nt (.inst "str" (.o2 false .ix (.v 0) (.c (.int 0))))))) [.ret (.c (.bl false))] [],.set 1 (.o2 false .ix (.v 0) (.c (.int 0))),.ife (.topin false [("running", "running"),("change", "change"),("unlike", "unlike")] (.v 1)) [.ret (.o2 false .eq (.bn false .len [(.v 0)]) (.c (.int 1)))] [],.ife (.o2 false .ne (.bn false .len [(.v 0)]) (.c (.int 2))) [.ret (.c (.bl false))] [],.ife (.o2 false .eq (.v 1) (.c (.str "key"))) [.ret (.call k [(.o2 false .ix (.v 0) (.c (.int 1)))])] [],.ife (.topin false [("over", "over"),("under", "under"),("plus", "plus"),("times", "times")] (.v 1)) [.ret (.call w [(.o2 false .ix (.v 0) (.c (.int 1))),(.neg (.c (.int 20))),(.c (.int 20))])] [],.ret (.and (.topin false [("first", "first"),("each", "each"),("window", "window")] (.v 1)) (.call w [(.o2 false .ix (.v 0) (.c (.int 1))),(.c (.int 1)),(.c (.int 20))]))]⟩
noncomputable def qkN(s:Nat):Fcd:=⟨false,1,1,[.ife (.or (.nt (.inst "tuple" (.v 0))) (.o2 false .gt (.bn false .len [(.v 0)]) (.c (.int 5)))) [.ret (.c (.bl false))] [],.ret (.bn false .all [(.comp false false 1 [] (.n 0) (.gen (.v 0)) none (.call s [(.v 0)]))])]⟩
noncomputable def qkI(a:Nat):Fcd:=⟨false,1,1,[.ife (.nt (.call a [(.v 0)])) [.raise "NoAsk"] []]⟩
theorem qos{k w:Nat}{p:Sp}(h:p.fine)(hw: ∀i a b:Int,F w [.int i,.int a,.int b] μ= .ok (.bl (decide (a<=i)&&decide (i<=b))) μ)(hk: ∀x:Str,keyOk x->F k [.str x] μ= .ok (.bl true) μ):(qth k w).run F [p.T] μ= .ok (.bl true) μ:=by
 have num: ∀{a b i:Int},a<=i/\i<=b->F w [.int i,.int a,.int b] μ= .ok (.bl true) μ:=λ{a b i} q=>by rw[hw,decide_eq_true q.1,decide_eq_true q.2];rfl
 refine qav rfl ?_;cases p with
 |key y=>exact qag rfl (qam rfl (qag rfl (qag rfl (qbg rfl (by rw[qaj,qaW,qaD];show R.bind (R.bind (F k [.str y] μ) _) _=_;rw[hk y h];rfl)))))
 |over n|under n|plus n|times n=>exact qag rfl (qam rfl (qag rfl (qag rfl (qag rfl (qbg rfl (by rw[qaj,qaW,qaD];show R.bind (R.bind (F w [.int n,.int (-20),.int 20] μ) _) _=_;rw[num h];rfl))))))
 |first n|each n|window n=>exact qag rfl (qam rfl (qag rfl (qag rfl (qag rfl (qag rfl (qfZ (show F w [.int n,.int 1,.int 20] μ=_ from num h)))))))
 |running|change|unlike=>exact qag rfl (qam rfl (qbg rfl rfl))
theorem qtq{s:Nat}{ps:List Sp}(hl:ps.length<=5)(h: ∀p∈ps,F s [p.T] μ= .ok (.bl true) μ):(qkN s).run F [.tup (ps.map Sp.T)] μ= .ok (.bl true) μ:=by
 refine qav rfl ?_;have cm:=qhy (F:=F) (μ:=μ) (ρ:=[some (.tup (ps.map Sp.T))]) (x:=false) (fr:=[]) (ci:=.gen (.v 0)) (e:=.call s [(.v 0)]) ps Sp.T (λ_=>.bl true) (qb4 (t:=.tup (ps.map Sp.T)) (by simp) rfl) λx hx=>by simp[h x hx]
 change (runSs F (qkN s).b [some (.tup (ps.map Sp.T))] μ).bind outT=_
 refine qag ?_ (qfZ (by rw[qus,qaF,cm];simp[qhK,qeN]));have: ¬(5:Int)<ps.length:=by omega
 have gi:qdd "tuple" (.tup (ps.map Sp.T)) μ= .ok (.bl true) μ:=rfl;simp[this,gi]
theorem ql3(h:F a [t] μ= .ok (.bl true) μ):(qkI a).run F [t] μ= .ok .non μ:=qav rfl (by simp[qkI,h])
end
section
theorem WS.mono(w:WS μ x q ks n e)(h: ∀j,j<μ.l.length->μ'.l[j]? =μ.l[j]?):WS μ' x q ks n e:=
 ⟨(h x (List.getElem?_eq_some_iff.mp w.ins).1).trans w.ins,w.len,λy hy=>(h _ (List.getElem?_eq_some_iff.mp (w.at_ y hy)).1).trans (w.at_ y hy),w.nd⟩
theorem qtp(h:μ.l[k]? =some (.ls ts))(h1:ts.length<=900)(h2:us.length<=900):nvR ow (Bm.g .extend μ [.obj k,.lst us]) μ= .ok .non (μ.put k (.ls (ts++us))):=by
 have e:Bm.g .extend μ [.obj k,.lst us]=some (.p k (.ls (ts++us)) .non):=by show(qf0 μ (.obj k)).bind _=_;simp only[qf0,h,Option.bind_some];show(if _ then some (Nv.p k (.ls (ts++us)) .non) else none)=_;rw[if_pos ⟨by omega,by omega⟩]
 rw[e,qrV (qbS h (by simp))]
theorem Ris.snoc(h:Ris (d++a::r)):(∀y∈d,y.1<=a.1)/\∀y∈r,a.1<=y.1:=
 ⟨λy hy=>(List.pairwise_append.mp h).2.2 y hy a Vk,(List.pairwise_cons.mp (List.pairwise_append.mp h).2.1).1⟩
theorem qbW: ∀(d:List Row) (a:Row) (q:List (Sp×Ks)),wrs q (d++[a])=((wrs q d).1++(wk (wrs q d).2 [a]).1,(wk (wrs q d).2 [a]).2)
 |[],a,q=>by simp[wrs]
 |r::d,a,q=>by simp only[List.cons_append,wrs,qbW d a,List.append_assoc]
theorem qf3: ∀(d:List Row) {q:List (Sp×Ks)} {c:Nat} {m:Int},Ch c m q->(∀r∈d,m<=r.1)->Ris d->(wrs q d).1.length<=c+d.length:=λd {q c m} ch hm hr=>by have:=qd1 d q ch.fits;have h2:=(ch.ris hm hr).2;rw[<-this,List.length_append] at h2;omega
structure Fed(μ:Mu)(x t:Nat)(q:List (Sp×Ks))(ks:List Nat)(d:List Row)(n:Int):Prop where
 w:WS μ x (wrs q d).2 ks n false
 told:μ.l[t]? =some (.ls ((wrs q d).1.map qac))
 nt:t≠x/\t∉ks
 ch:Ch d.length n (wrs q d).2
theorem Fed.take (h:Fed μ x t q ks d n) (h1:ρ[it]? =some (some (.obj t))) (h2:ρ[iw]? =some (some (.obj x))) (h3:ρ[ir]? =some (some (qac r))) (hF: ∀ts μ,F ia ts μ=(qnX rt bs).run F1 ts μ) (hT: ∀μ,F1 rt [qac r,.bl false,.int n] μ= .ok .non μ) (hB: ∀{p:Sp} {μ:Mu} {k:Nat} {s:Ks} {rs:List Row},μ.l[k]? =some (ct s)->p.can rs s->F1 bs [p.T,.lst (rs.map qac),.obj k] μ= .ok (.lst ((p.go s rs).1.map qac)) (μ.put k (ct (p.go s rs).2))) (hn:n<=r.1) (hd:d.length<60) (hl:(wrs q d).1.length<=900) (eL:(wk (wrs q d).2 [r]).1.length<=900):
  ∃μ',qaP F (.exp (.bm false .extend (.v it) [(.mth [("Walk",ia)] "take" (.v iw) [(.v ir)])])) ρ μ= .ok (.nx ρ) μ'/\Fed μ' x t q ks (d++[r]) r.1/\μ'.l.length=μ.l.length/\∀j,j≠x->j∉ks->j≠t->μ'.l[j]? =μ.l[j]? :=by
 obtain⟨aa,e1,w1,o1⟩:=qoi (F:=F1) (rt:=rt) (bs:=bs) h.w (hT μ) (λ_ a b=>hB a b) h.ch hn (by omega);have t1:aa.l[t]? =some (.ls ((wrs q d).1.map qac)):=(o1.old t h.nt.1 h.nt.2).trans h.told;have ev:qab F (.v it) ρ μ= .ok (.obj t) μ:=by rw[qlF,h1];rfl
 have em:qab F (.mth [("Walk",ia)] "take" (.v iw) [(.v ir)]) ρ μ= .ok (.lst ((wk (wrs q d).2 [r]).1.map qac)) aa:=by rw[qno (F:=F) (i:=ia) (k:=x) (by rw[qlF,h2];rfl) h.w.ins rfl rfl,qaF,qlF,h3];show F ia [.obj x,qac r] μ=_;rw[hF,e1]
 have lt:t<aa.l.length:=(List.getElem?_eq_some_iff.mp t1).1;refine⟨aa.put t (.ls ((wrs q d).1.map qac++(wk (wrs q d).2 [r]).1.map qac)),?_,⟨?_,?_,h.nt,?_⟩,by rw[Mu.put_l,List.length_set];exact o1.len,λj a b c=> ?_⟩
 ·rw[qcW,qlG,ev,qaa,if_pos (show qfg μ (.obj t)=Bm.ty .extend from qbR h.told),qaF,em];simp only[qaa,qcp];rw[qtp t1 (by rw[List.length_map];exact hl) (by rw[List.length_map];exact eL)];rfl
 ·rw[qbW];refine⟨?_,w1.len,λy hy=> ?_,w1.nd⟩
  ·rw[Mu.put_l,List.getElem?_set_ne h.nt.1];exact w1.ins
  ·rw[Mu.put_l,List.getElem?_set_ne (λz=>h.nt.2 (by rw[z];exact(Vy hy).2))];exact w1.at_ y hy
 ·rw[Mu.put_l,List.getElem?_set_self lt,qbW,List.map_append]
 ·rw[qbW,List.length_append];exact h.ch.wk (rs:=[r]) (λy hy=>by rw[List.mem_singleton.mp hy];exact⟨hn,Int.le_refl _⟩) hn (List.pairwise_singleton _ _)
 ·rw[Mu.put_l,List.getElem?_set_ne (λz=>c z.symm)];exact o1.old j a b
theorem Fed.end_ (h:Fed μ x t q ks d n) (h1:ρ[it]? =some (some (.obj t))) (h2:ρ[iw]? =some (some (.obj x))) (hF: ∀ts μ,F ia ts μ=(qti rt bl).run F1 ts μ) (hT: ∀μ,F1 rt [.bl false] μ= .ok .non μ) (hB: ∀{p:Sp} {μ:Mu} {k:Nat} {s:Ks} {rs:List Row},μ.l[k]? =some (ct s)->p.can rs s->F1 bl [p.T,.lst (rs.map qac),.obj k] μ= .ok (.lst (((p.go s rs).1++p.rest (p.go s rs).2).map qac)) (μ.put k (ct (p.go s rs).2))) (hq:qqz q) (hd:d.length<60) (hl:(wrs q d).1.length<=900):
  ∃μ',qaP F (.exp (.bm false .extend (.v it) [(.mth [("Walk",ia)] "end" (.v iw) [])])) ρ μ= .ok (.nx ρ) μ'/\μ'.l[t]? =some (.ls ((qbv q d).map qac))/\μ'.l.length=μ.l.length/\∀j,j≠x->j∉ks->j≠t->μ'.l[j]? =μ.l[j]? :=by
 obtain⟨aa,q',e1,w1,o1⟩:=qsz (F:=F1) (rv:=rt) (bl:=bl) h.w (hT μ) (λ_ a b=>hB a b) h.ch (by omega);have t1:aa.l[t]? =some (.ls ((wrs q d).1.map qac)):=(o1.old t h.nt.1 h.nt.2).trans h.told;have ev:qab F (.v it) ρ μ= .ok (.obj t) μ:=by rw[qlF,h1];rfl
 have em:qab F (.mth [("Walk",ia)] "end" (.v iw) []) ρ μ= .ok (.lst ((qbv (wrs q d).2 []).map qac)) aa:=by rw[qno (F:=F) (i:=ia) (k:=x) (by rw[qlF,h2];rfl) h.w.ins rfl rfl,qcp];show F ia [.obj x] μ=_;rw[hF,e1]
 have lt:t<aa.l.length:=(List.getElem?_eq_some_iff.mp t1).1;have bV:=(h.ch.ris (rs:=[]) (λr hr=>nomatch hr) .nil).2;refine⟨aa.put t (.ls ((wrs q d).1.map qac++(qbv (wrs q d).2 []).map qac)),?_,?_,by rw[Mu.put_l,List.length_set];exact o1.len,λj a b c=> ?_⟩
 ·rw[qcW,qlG,ev,qaa,if_pos (show qfg μ (.obj t)=Bm.ty .extend from qbR h.told),qaF,em];simp only[qaa,qcp];rw[qtp t1 (by rw[List.length_map];exact hl) (by rw[List.length_map];simp at bV;omega)];rfl
 ·rw[Mu.put_l,List.getElem?_set_self lt,<-List.map_append,qd1 d q hq]
 ·rw[Mu.put_l,List.getElem?_set_ne (λz=>c z.symm)];exact o1.old j a b
theorem qeq(rs:List Row):okT 8 (.lst (rs.map qac))=true:=by show(rs.map qac).all (okT 7)=true;rw[List.all_eq_true];intro t ht;obtain⟨r,_,rfl⟩:=List.mem_map.mp ht;rfl
theorem qsK(h:μ.l[k]? =some (.ls ts)):dr1 μ (.obj k)= .lst ts:=by simp only[dr1,h]
end
end Wk
namespace K97
open PySem NV
noncomputable def top(i:Nat):Stmt:=PySem.Challenge.pw_rowasks_k97_whole_edges_by_hand.main.body.getD i (.Pass ⟨0,0,0,0⟩)
noncomputable def mth(i j:Nat):Stmt:=(qqa (top i)).getD j (.Pass ⟨0,0,0,0⟩)
noncomputable def gx:Gx where
 fs:=[(("_wall" :Str),top 0),(("is_whole" :Str),top 11),(("is_whole_within" :Str),top 12),(("is_word" :Str),top 13),(("is_key" :Str),top 14),(("is_row" :Str),top 15),(("is_log" :Str),top 16),(("refuse_what_is_no_row" :Str),top 17),(("refuse_out_of_order" :Str),top 18),(("refuse_what_is_no_log" :Str),top 19),(("refuse_when_ended" :Str),top 20),(("refuse_to_take" :Str),top 21),(("of_key" :Str),top 25),(("over" :Str),top 26),(("under" :Str),top 27),(("plus" :Str),top 28),(("times" :Str),top 29),(("first" :Str),top 30),(("each" :Str),top 31),(("window" :Str),top 32),(("window_rows" :Str),top 33),(("running" :Str),top 34),(("change" :Str),top 35),(("unlike" :Str),top 36),(("is_step" :Str),top 40),(("is_ask" :Str),top 41),(("refuse_what_is_no_ask" :Str),top 42),(("behind_step" :Str),top 43),(("behind_last_rows" :Str),top 44),(("asked" :Str),top 45),(("Walk.__init__" :Str),mth 47 0),(("Walk.take" :Str),mth 47 1),(("Walk.end" :Str),mth 47 2),(("Walk.room" :Str),mth 47 3),(("keep_nothing" :Str),top 49),(("is_empty" :Str),top 50),(("_law_cell" :Str),top 52),(("_law_pick" :Str),top 53),(("law" :Str),top 54)]
 cs:=[("GREATEST_MOMENT",.int (99)),("GREATEST_NUMBER",.int (99)),("LONGEST_KEY",.int (2)),("MOST_STEPS",.int (5)),("GREATEST_STEP_NUMBER",.int (20))]
 ex:=[("AskError",["AskError", "ValueError"]),("NoRow",["NoRow", "AskError", "ValueError"]),("NoAsk",["NoAsk", "AskError", "ValueError"]),("TooLate",["TooLate", "AskError", "ValueError"]),("Ended",["Ended", "AskError", "ValueError"])]
 cl:=[("Walk",["ask", "kept", "newest", "ended"])]
 ow:=[(76,11),(87,11),(93,11),(100,11),(151,44),(159,21),(210,52)]
 fz:=[]
 xc:=[]
 kp:=[]
 lm:=[]
 wd:=[]
 dt:=[("NUMBER_STEPS",[("over", "over"),("under", "under"),("plus", "plus"),("times", "times")]),("COUNT_STEPS",[("first", "first"),("each", "each"),("window", "window")]),("BARE_STEPS",[("running", "running"),("change", "change"),("unlike", "unlike")])]
noncomputable def qdk:Fcd:=⟨false,1,1,[.ret (.and (.inst "int" (.v 0)) (.nt (.inst "bool" (.v 0))))]⟩
theorem qf5(k:Nat):TTf gx (k+1) 1=qdk.run (TTf gx k):=congrArg (Fcd.run (TTf gx k)) (show cFn gx ("is_whole",top 11)=qdk by kernel_rfl)
noncomputable def qa2:Fcd:=⟨false,3,3,[.ret (.and (.call 1 [(.v 0)]) (.chain .le .le (.v 1) (.v 0) (.v 2)))]⟩
theorem qbY(k:Nat):TTf gx (k+1) 2=qa2.run (TTf gx k):=congrArg (Fcd.run (TTf gx k)) (show cFn gx ("is_whole_within",top 12)=qa2 by kernel_rfl)
noncomputable def qdU:Fcd:=⟨false,2,2,[.ife (.or (.nt (.inst "str" (.v 0))) (.nt (.chain .le .le (.c (.int 1)) (.bn false .len [(.v 0)]) (.v 1)))) [.ret (.c (.bl false))] [],.ret (.bn false .all [(.comp false false 1 [] (.n 0) (.gen (.v 0)) none (.chain .le .le (.c (.str "a")) (.v 0) (.c (.str "z"))))])]⟩
theorem qhW(k:Nat):TTf gx (k+1) 3=qdU.run (TTf gx k):=congrArg (Fcd.run (TTf gx k)) (show cFn gx ("is_word",top 13)=qdU by kernel_rfl)
noncomputable def qfN:Fcd:=⟨false,1,1,[.ret (.call 3 [(.v 0),(.c (.int 2))])]⟩
theorem qi1(k:Nat):TTf gx (k+1) 4=qfN.run (TTf gx k):=congrArg (Fcd.run (TTf gx k)) (show cFn gx ("is_key",top 14)=qfN by kernel_rfl)
noncomputable def qfL:Fcd:=⟨false,1,1,[.ife (.or (.nt (.inst "tuple" (.v 0))) (.o2 false .ne (.bn false .len [(.v 0)]) (.c (.int 3)))) [.ret (.c (.bl false))] [],.ife (.or (.nt (.call 2 [(.o2 false .ix (.v 0) (.c (.int 0))),(.c (.int 0)),(.c (.int 99))])) (.nt (.call 4 [(.o2 false .ix (.v 0) (.c (.int 1)))]))) [.ret (.c (.bl false))] [],.ret (.call 2 [(.o2 false .ix (.v 0) (.c (.int 2))),(.neg (.c (.int 99))),(.c (.int 99))])]⟩
theorem qiZ(k:Nat):TTf gx (k+1) 5=qfL.run (TTf gx k):=congrArg (Fcd.run (TTf gx k)) (show cFn gx ("is_row",top 15)=qfL by kernel_rfl)
noncomputable def qfM:Fcd:=⟨false,1,1,[.ret (.bn false .all [(.comp false false 2 [] (.tup [(.n 0),(.n 1)]) (.by_ .zip [(.v 0),(.sl false (.v 0) (some (.c (.int 1))) none)]) none (.o2 false .le (.o2 false .ix (.v 0) (.c (.int 0))) (.o2 false .ix (.v 1) (.c (.int 0)))))])]⟩
theorem qi0(k:Nat):TTf gx (k+1) 6=qfM.run (TTf gx k):=congrArg (Fcd.run (TTf gx k)) (show cFn gx ("is_log",top 16)=qfM by kernel_rfl)
noncomputable def qaG:Fcd:=⟨false,1,1,[.ife (.nt (.bn false .all [(.comp false false 1 [] (.n 0) (.gen (.v 0)) none (.call 5 [(.v 0)]))])) [.raise "NoRow"] []]⟩
theorem qa6(k:Nat):TTf gx (k+1) 7=qaG.run (TTf gx k):=congrArg (Fcd.run (TTf gx k)) (show cFn gx ("refuse_what_is_no_row",top 17)=qaG by kernel_rfl)
noncomputable def qaN:Fcd:=⟨false,1,1,[.ife (.nt (.call 6 [(.v 0)])) [.raise "TooLate"] []]⟩
theorem qbn(k:Nat):TTf gx (k+1) 8=qaN.run (TTf gx k):=congrArg (Fcd.run (TTf gx k)) (show cFn gx ("refuse_out_of_order",top 18)=qaN by kernel_rfl)
noncomputable def qaH:Fcd:=⟨false,1,1,[.exp (.call 7 [(.v 0)]),.exp (.call 8 [(.v 0)])]⟩
theorem qa7(k:Nat):TTf gx (k+1) 9=qaH.run (TTf gx k):=congrArg (Fcd.run (TTf gx k)) (show cFn gx ("refuse_what_is_no_log",top 19)=qaH by kernel_rfl)
noncomputable def qaS:Fcd:=⟨false,1,1,[.ife (.v 0) [.raise "Ended"] []]⟩
theorem qbC(k:Nat):TTf gx (k+1) 10=qaS.run (TTf gx k):=congrArg (Fcd.run (TTf gx k)) (show cFn gx ("refuse_when_ended",top 20)=qaS by kernel_rfl)
noncomputable def qba:Fcd:=⟨false,3,3,[.exp (.call 10 [(.v 1)]),.exp (.call 7 [(.lst false [(.v 0)])]),.ife (.o2 false .lt (.o2 false .ix (.v 0) (.c (.int 0))) (.v 2)) [.raise "TooLate"] []]⟩
theorem qcd(k:Nat):TTf gx (k+1) 11=qba.run (TTf gx k):=congrArg (Fcd.run (TTf gx k)) (show cFn gx ("refuse_to_take",top 21)=qba by kernel_rfl)
noncomputable def qfK:Fcd:=⟨false,2,2,[.ret (.comp false false 1 [1] (.n 0) (.gen (.v 0)) (some (.o2 false .eq (.o2 false .ix (.v 0) (.c (.int 1))) (.v 1))) (.v 0))]⟩
theorem qiY(k:Nat):TTf gx (k+1) 12=qfK.run (TTf gx k):=congrArg (Fcd.run (TTf gx k)) (show cFn gx ("of_key",top 25)=qfK by kernel_rfl)
noncomputable def qkz:Fcd:=⟨false,2,2,[.ret (.comp false false 1 [1] (.n 0) (.gen (.v 0)) (some (.o2 false .gt (.o2 false .ix (.v 0) (.c (.int 2))) (.v 1))) (.v 0))]⟩
theorem qof(k:Nat):TTf gx (k+1) 13=qkz.run (TTf gx k):=congrArg (Fcd.run (TTf gx k)) (show cFn gx ("over",top 26)=qkz by kernel_rfl)
noncomputable def qhB:Fcd:=⟨false,2,2,[.ret (.comp false false 1 [1] (.n 0) (.gen (.v 0)) (some (.o2 false .lt (.o2 false .ix (.v 0) (.c (.int 2))) (.v 1))) (.v 0))]⟩
theorem qlp(k:Nat):TTf gx (k+1) 14=qhB.run (TTf gx k):=congrArg (Fcd.run (TTf gx k)) (show cFn gx ("under",top 27)=qhB by kernel_rfl)
noncomputable def qky:Fcd:=⟨false,2,2,[.ret (.comp false false 3 [1] (.tup [(.n 0),(.n 1),(.n 2)]) (.gen (.v 0)) none (.tup [(.v 0),(.v 1),(.o2 false .add (.v 2) (.v 3))]))]⟩
theorem qoe(k:Nat):TTf gx (k+1) 15=qky.run (TTf gx k):=congrArg (Fcd.run (TTf gx k)) (show cFn gx ("plus",top 28)=qky by kernel_rfl)
noncomputable def qhC:Fcd:=⟨false,2,2,[.ret (.comp false false 3 [1] (.tup [(.n 0),(.n 1),(.n 2)]) (.gen (.v 0)) none (.tup [(.v 0),(.v 1),(.o2 false .mul (.v 2) (.v 3))]))]⟩
theorem qlq(k:Nat):TTf gx (k+1) 16=qhC.run (TTf gx k):=congrArg (Fcd.run (TTf gx k)) (show cFn gx ("times",top 29)=qhC by kernel_rfl)
noncomputable def qhD:Fcd:=⟨false,3,4,[.set 3 (.bm false .get (.v 2) [(.c (.str "came")),(.c (.int 0))]),.put (.v 2) (.c (.str "came")) (.o2 false .add (.v 3) (.bn false .len [(.v 0)])),.ret (.sl false (.v 0) none (some (.bn false .max [(.o2 false .sub (.v 1) (.v 3)),(.c (.int 0))])))]⟩
theorem qlr(k:Nat):TTf gx (k+1) 17=qhD.run (TTf gx k):=congrArg (Fcd.run (TTf gx k)) (show cFn gx ("first",top 30)=qhD by kernel_rfl)
noncomputable def qkA:Fcd:=⟨false,3,4,[.set 3 (.bm false .get (.v 2) [(.c (.str "came")),(.c (.int 0))]),.put (.v 2) (.c (.str "came")) (.o2 false .mod (.o2 false .add (.v 3) (.bn false .len [(.v 0)])) (.v 1)),.ret (.sl3 false (.v 0) (some (.o2 false .sub (.o2 false .sub (.v 1) (.c (.int 1))) (.v 3))) none (.v 1))]⟩
theorem qog(k:Nat):TTf gx (k+1) 18=qkA.run (TTf gx k):=congrArg (Fcd.run (TTf gx k)) (show cFn gx ("each",top 31)=qkA by kernel_rfl)
noncomputable def qfI:Fcd:=⟨false,3,8,[.set 3 (.lst true []),.for_ (.tup [(.n 4),(.n 5),(.n 6)]) (.gen (.v 0)) [.set 7 (.tup [(.o2 false .div (.v 4) (.v 1)),(.v 5)]),.ife (.and (.o2 false .gt (.bn false .len [(.v 2)]) (.c (.int 0))) (.o2 false .lt (.o2 false .ix (.bn false .max [(.v 2)]) (.c (.int 0))) (.o2 false .ix (.v 7) (.c (.int 0))))) [.exp (.bm false .extend (.v 3) [(.call 20 [(.v 1),(.v 2)])]),.exp (.alt (.bm false .clear (.v 2) []) (.bm false .dclear (.v 2) []))] [],.put (.v 2) (.v 7) (.o2 false .add (.bm false .get (.v 2) [(.v 7),(.c (.int 0))]) (.v 6))],.ret (.v 3)]⟩
theorem qiW(k:Nat):TTf gx (k+1) 19=qfI.run (TTf gx k):=congrArg (Fcd.run (TTf gx k)) (show cFn gx ("window",top 32)=qfI by kernel_rfl)
noncomputable def qbL:Fcd:=⟨false,2,2,[.ret (.comp false false 1 [0,1] (.n 0) (.gen (.bn false .srt [(.v 1)])) none (.tup [(.o2 false .sub (.o2 false .mul (.o2 false .add (.o2 false .ix (.v 0) (.c (.int 0))) (.c (.int 1))) (.v 1)) (.c (.int 1))),(.o2 false .ix (.v 0) (.c (.int 1))),(.o2 false .ix (.v 2) (.v 0))]))]⟩
theorem qa3(k:Nat):TTf gx (k+1) 20=qbL.run (TTf gx k):=congrArg (Fcd.run (TTf gx k)) (show cFn gx ("window_rows",top 33)=qbL by kernel_rfl)
noncomputable def qdS:Fcd:=⟨false,2,6,[.set 2 (.lst true []),.for_ (.tup [(.n 3),(.n 4),(.n 5)]) (.gen (.v 0)) [.put (.v 1) (.v 4) (.o2 false .add (.bm false .get (.v 1) [(.v 4),(.c (.int 0))]) (.v 5)),.exp (.bm false .append (.v 2) [(.tup [(.v 3),(.v 4),(.o2 false .ix (.v 1) (.v 4))])])],.ret (.v 2)]⟩
theorem qhV(k:Nat):TTf gx (k+1) 21=qdS.run (TTf gx k):=congrArg (Fcd.run (TTf gx k)) (show cFn gx ("running",top 34)=qdS by kernel_rfl)
noncomputable def qfP:Fcd:=⟨false,2,6,[.set 2 (.lst true []),.for_ (.tup [(.n 3),(.n 4),(.n 5)]) (.gen (.v 0)) [.ife (.o2 false .in_ (.v 4) (.v 1)) [.exp (.bm false .append (.v 2) [(.tup [(.v 3),(.v 4),(.o2 false .sub (.v 5) (.o2 false .ix (.v 1) (.v 4)))])])] [],.put (.v 1) (.v 4) (.v 5)],.ret (.v 2)]⟩
theorem qi3(k:Nat):TTf gx (k+1) 22=qfP.run (TTf gx k):=congrArg (Fcd.run (TTf gx k)) (show cFn gx ("change",top 35)=qfP by kernel_rfl)
noncomputable def qfJ:Fcd:=⟨false,2,6,[.set 2 (.lst true []),.for_ (.tup [(.n 3),(.n 4),(.n 5)]) (.gen (.v 0)) [.ife (.or (.o2 false .nin (.v 4) (.v 1)) (.o2 false .ne (.o2 false .ix (.v 1) (.v 4)) (.v 5))) [.exp (.bm false .append (.v 2) [(.tup [(.v 3),(.v 4),(.v 5)])])] [],.put (.v 1) (.v 4) (.v 5)],.ret (.v 2)]⟩
theorem qiX(k:Nat):TTf gx (k+1) 23=qfJ.run (TTf gx k):=congrArg (Fcd.run (TTf gx k)) (show cFn gx ("unlike",top 36)=qfJ by kernel_rfl)
noncomputable def qdV:Fcd:=⟨false,1,2,[.ife (.or (.nt (.inst "tuple" (.v 0))) (.or (.o2 false .eq (.bn false .len [(.v 0)]) (.c (.int 0))) (.nt (.inst "str" (.o2 false .ix (.v 0) (.c (.int 0))))))) [.ret (.c (.bl false))] [],.set 1 (.o2 false .ix (.v 0) (.c (.int 0))),.ife (.topin false [("running", "running"),("change", "change"),("unlike", "unlike")] (.v 1)) [.ret (.o2 false .eq (.bn false .len [(.v 0)]) (.c (.int 1)))] [],.ife (.o2 false .ne (.bn false .len [(.v 0)]) (.c (.int 2))) [.ret (.c (.bl false))] [],.ife (.o2 false .eq (.v 1) (.c (.str "key"))) [.ret (.call 4 [(.o2 false .ix (.v 0) (.c (.int 1)))])] [],.ife (.topin false [("over", "over"),("under", "under"),("plus", "plus"),("times", "times")] (.v 1)) [.ret (.call 2 [(.o2 false .ix (.v 0) (.c (.int 1))),(.neg (.c (.int 20))),(.c (.int 20))])] [],.ret (.and (.topin false [("first", "first"),("each", "each"),("window", "window")] (.v 1)) (.call 2 [(.o2 false .ix (.v 0) (.c (.int 1))),(.c (.int 1)),(.c (.int 20))]))]⟩
theorem qhX(k:Nat):TTf gx (k+1) 24=qdV.run (TTf gx k):=congrArg (Fcd.run (TTf gx k)) (show cFn gx ("is_step",top 40)=qdV by kernel_rfl)
noncomputable def qfO:Fcd:=⟨false,1,1,[.ife (.or (.nt (.inst "tuple" (.v 0))) (.o2 false .gt (.bn false .len [(.v 0)]) (.c (.int 5)))) [.ret (.c (.bl false))] [],.ret (.bn false .all [(.comp false false 1 [] (.n 0) (.gen (.v 0)) none (.call 24 [(.v 0)]))])]⟩
theorem qi2(k:Nat):TTf gx (k+1) 25=qfO.run (TTf gx k):=congrArg (Fcd.run (TTf gx k)) (show cFn gx ("is_ask",top 41)=qfO by kernel_rfl)
noncomputable def qaI:Fcd:=⟨false,1,1,[.ife (.nt (.call 25 [(.v 0)])) [.raise "NoAsk"] []]⟩
theorem qa8(k:Nat):TTf gx (k+1) 26=qaI.run (TTf gx k):=congrArg (Fcd.run (TTf gx k)) (show cFn gx ("refuse_what_is_no_ask",top 42)=qaI by kernel_rfl)
noncomputable def qbM:Fcd:=⟨false,3,5,[.set 3 (.o2 false .ix (.v 0) (.c (.int 0))),.ife (.o2 false .eq (.v 3) (.c (.str "key"))) [.ret (.call 12 [(.v 1),(.o2 false .ix (.v 0) (.c (.int 1)))])] [],.ife (.topin false [("over", "over"),("under", "under"),("plus", "plus"),("times", "times")] (.v 3)) [.set 4 (.topget [("over", "over"),("under", "under"),("plus", "plus"),("times", "times")] (.v 3)),.ret (.callv gx.fns 4 [(.v 1),(.o2 false .ix (.v 0) (.c (.int 1)))])] [],.ife (.topin false [("first", "first"),("each", "each"),("window", "window")] (.v 3)) [.set 4 (.topget [("first", "first"),("each", "each"),("window", "window")] (.v 3)),.ret (.callv gx.fns 4 [(.v 1),(.o2 false .ix (.v 0) (.c (.int 1))),(.v 2)])] [],.set 4 (.topget [("running", "running"),("change", "change"),("unlike", "unlike")] (.v 3)),.ret (.callv gx.fns 4 [(.v 1),(.v 2)])]⟩
theorem qbG(k:Nat):TTf gx (k+1) 27=qbM.run (TTf gx k):=congrArg (Fcd.run (TTf gx k)) (show cFn gx ("behind_step",top 43)=qbM by kernel_rfl)
noncomputable def qaY:Fcd:=⟨false,3,4,[.set 3 (.call 27 [(.v 0),(.v 1),(.v 2)]),.ife (.o2 false .eq (.o2 false .ix (.v 0) (.c (.int 0))) (.c (.str "window"))) [.ret (.o2 false .add (.v 3) (.call 20 [(.o2 false .ix (.v 0) (.c (.int 1))),(.v 2)]))] [],.ret (.v 3)]⟩
theorem qbN(k:Nat):TTf gx (k+1) 28=qaY.run (TTf gx k):=congrArg (Fcd.run (TTf gx k)) (show cFn gx ("behind_last_rows",top 44)=qaY by kernel_rfl)
noncomputable def qhE:Fcd:=⟨false,2,4,[.exp (.call 26 [(.v 0)]),.exp (.call 9 [(.v 1)]),.set 2 (.bn false .lst [(.v 1)]),.for_ (.n 3) (.gen (.v 0)) [.set 2 (.call 28 [(.v 3),(.v 2),(.dct true)])],.ret (.v 2)]⟩
theorem qls(k:Nat):TTf gx (k+1) 29=qhE.run (TTf gx k):=congrArg (Fcd.run (TTf gx k)) (show cFn gx ("asked",top 45)=qhE by kernel_rfl)
noncomputable def qbm:Fcd:=⟨false,2,2,[.exp (.call 26 [(.v 1)]),.fld ["Walk"] "ask" (.v 0) (.v 1),.fld ["Walk"] "kept" (.v 0) (.comp false false 1 [] (.n 0) (.gen (.v 1)) none (.dct true)),.fld ["Walk"] "newest" (.v 0) (.c (.int 0)),.fld ["Walk"] "ended" (.v 0) (.c (.bl false))]⟩
theorem qcB(k:Nat):TTf gx (k+1) 30=qbm.run (TTf gx k):=congrArg (Fcd.run (TTf gx k)) (show cFn gx ("Walk.__init__",mth 47 0)=qbm by kernel_rfl)
noncomputable def qcA:Fcd:=⟨false,2,5,[.exp (.call 11 [(.v 1),(.fld ["Walk"] "ended" (.v 0)),(.fld ["Walk"] "newest" (.v 0))]),.fld ["Walk"] "newest" (.v 0) (.o2 false .ix (.v 1) (.c (.int 0))),.set 2 (.lst false [(.v 1)]),.for_ (.tup [(.n 3),(.n 4)]) (.by_ .zip [(.fld ["Walk"] "ask" (.v 0)),(.fld ["Walk"] "kept" (.v 0))]) [.set 2 (.call 27 [(.v 3),(.v 2),(.v 4)])],.ret (.v 2)]⟩
theorem qeV(k:Nat):TTf gx (k+1) 31=qcA.run (TTf gx k):=congrArg (Fcd.run (TTf gx k)) (show cFn gx ("Walk.take",mth 47 1)=qcA by kernel_rfl)
noncomputable def qdm:Fcd:=⟨false,1,4,[.exp (.call 10 [(.fld ["Walk"] "ended" (.v 0))]),.fld ["Walk"] "ended" (.v 0) (.c (.bl true)),.set 1 (.lst false []),.for_ (.tup [(.n 2),(.n 3)]) (.by_ .zip [(.fld ["Walk"] "ask" (.v 0)),(.fld ["Walk"] "kept" (.v 0))]) [.set 1 (.call 28 [(.v 2),(.v 1),(.v 3)])],.ret (.v 1)]⟩
theorem qf6(k:Nat):TTf gx (k+1) 32=qdm.run (TTf gx k):=congrArg (Fcd.run (TTf gx k)) (show cFn gx ("Walk.end",mth 47 2)=qdm by kernel_rfl)
noncomputable def qbt:Fcd:=⟨false,2,2,[.ife (.and (.o2 false .eq (.o2 false .ix (.v 0) (.c (.int 0))) (.c (.str "key"))) (.o2 false .eq (.o2 false .ix (.v 1) (.c (.int 0))) (.c (.str "key")))) [.ret (.o2 false .ne (.o2 false .ix (.v 0) (.c (.int 1))) (.o2 false .ix (.v 1) (.c (.int 1))))] [],.ife (.and (.o2 false .eq (.o2 false .ix (.v 0) (.c (.int 0))) (.c (.str "over"))) (.o2 false .eq (.o2 false .ix (.v 1) (.c (.int 0))) (.c (.str "under")))) [.ret (.o2 false .le (.o2 false .ix (.v 1) (.c (.int 1))) (.o2 false .add (.o2 false .ix (.v 0) (.c (.int 1))) (.c (.int 1))))] [],.ife (.and (.o2 false .eq (.o2 false .ix (.v 0) (.c (.int 0))) (.c (.str "under"))) (.o2 false .eq (.o2 false .ix (.v 1) (.c (.int 0))) (.c (.str "over")))) [.ret (.o2 false .le (.o2 false .ix (.v 0) (.c (.int 1))) (.o2 false .add (.o2 false .ix (.v 1) (.c (.int 1))) (.c (.int 1))))] [],.ret (.c (.bl false))]⟩
theorem qaK(k:Nat):TTf gx (k+1) 34=qbt.run (TTf gx k):=congrArg (Fcd.run (TTf gx k)) (show cFn gx ("keep_nothing",top 49)=qbt by kernel_rfl)
noncomputable def qdl:Fcd:=⟨false,1,1,[.exp (.call 26 [(.v 0)]),.ret (.bn false .any [(.comp false false 2 [] (.tup [(.n 0),(.n 1)]) (.by_ .zip [(.v 0),(.sl false (.v 0) (some (.c (.int 1))) none)]) none (.call 34 [(.v 0),(.v 1)]))])]⟩
theorem qcN(k:Nat):TTf gx (k+1) 35=qdl.run (TTf gx k):=congrArg (Fcd.run (TTf gx k)) (show cFn gx ("is_empty",top 50)=qdl by kernel_rfl)
noncomputable def qcz:Fcd:=⟨false,2,2,[.ife (.o2 false .lt (.v 1) (.bn false .len [(.v 0)])) [.ret (.o2 false .ix (.v 0) (.v 1))] [],.ife (.o2 false .eq (.v 0) (.lst false [])) [.ret (.c (.int 0))] [],.ret (.o2 false .add (.o2 false .mul (.o2 false .ix (.v 0) (.o2 false .mod (.v 1) (.bn false .len [(.v 0)]))) (.c (.int 31))) (.v 1))]⟩
theorem qeU(k:Nat):TTf gx (k+1) 36=qcz.run (TTf gx k):=congrArg (Fcd.run (TTf gx k)) (show cFn gx ("_law_cell",top 52)=qcz by kernel_rfl)
noncomputable def qcy:Fcd:=⟨false,3,4,[.set 3 (.o2 false .mod (.o2 false .mul (.o2 false .add (.call 36 [(.v 0),(.v 1)]) (.o2 false .mul (.c (.int 6151)) (.o2 false .add (.v 1) (.c (.int 1))))) (.c (.int 40692))) (.c (.int 2147483399))),.ret (.o2 false .mod (.o2 false .mod (.o2 false .add (.o2 false .mul (.v 3) (.v 3)) (.o2 false .div (.v 3) (.c (.int 31)))) (.c (.int 2147483629))) (.v 2))]⟩
theorem qeT(k:Nat):TTf gx (k+1) 37=qcy.run (TTf gx k):=congrArg (Fcd.run (TTf gx k)) (show cFn gx ("_law_pick",top 53)=qcy by kernel_rfl)
noncomputable def qdT:Fcd:=⟨false,1,16,[.par [1,2] [(.o2 false .add (.c (.int 1)) (.call 37 [(.v 0),(.c (.int 0)),(.c (.int 9))])),(.o2 false .add (.c (.int 1)) (.call 37 [(.v 0),(.c (.int 1)),(.c (.int 9))]))],.set 3 (.lst false [(.tup [(.c (.int 3)),(.c (.str "a")),(.o2 false .add (.c (.int 1)) (.call 37 [(.v 0),(.c (.int 2)),(.c (.int 9))]))]),(.tup [(.c (.int 3)),(.c (.str "b")),(.c (.int 2))]),(.tup [(.o2 false .add (.c (.int 3)) (.call 37 [(.v 0),(.c (.int 3)),(.c (.int 2))])),(.c (.str "b")),(.c (.int 5))])]),.set 4 (.lst false [(.tup [(.c (.str "plus")),(.v 2)]),(.tup [(.c (.str "times")),(.c (.int 2))]),(.tup [(.c (.str "running"))]),(.tup [(.c (.str "over")),(.v 2)]),(.tup [(.c (.str "key")),(.c (.str "b"))]),(.tup [(.c (.str "window")),(.v 2)]),(.tup [(.c (.str "first")),(.c (.int 1))])]),.for_ (.n 5) (.gen (.v 4)) [.par [6,7] [(.tup [(.c (.str "window")),(.v 1)]),(.tup [(.c (.str "plus")),(.c (.int 1))])],.for_ (.n 8) (.gen (.tup [(.tup [(.v 6),(.v 5)]),(.tup [(.v 6),(.v 7),(.v 5)]),(.tup [(.v 6),(.v 5),(.v 7)])])) [.par [9,10] [(.make "Walk" 30 [(.v 8)]),(.lst true [])],.for_ (.n 11) (.gen (.v 3)) [.exp (.bm false .extend (.v 10) [(.mth [("Walk",31)] "take" (.v 9) [(.v 11)])])],.exp (.bm false .extend (.v 10) [(.mth [("Walk",32)] "end" (.v 9) [])]),.ife (.o2 false .ne (.v 10) (.call 29 [(.v 8),(.v 3)])) [.ret (.c (.bl false))] []]],.set 12 (.o2 false .sub (.call 37 [(.v 0),(.c (.int 4)),(.c (.int 37))]) (.c (.int 20))),.for_ (.n 13) (.gen (.tup [(.c (.int 1)),(.c (.int 2)),(.c (.int 3))])) [.for_ (.n 8) (.gen (.tup [(.tup [(.tup [(.c (.str "over")),(.v 12)]),(.tup [(.c (.str "under")),(.o2 false .add (.v 12) (.v 13))])]),(.tup [(.tup [(.c (.str "under")),(.o2 false .add (.v 12) (.v 13))]),(.tup [(.c (.str "over")),(.v 12)])])])) [.ife (.or (.o2 false .ne (.call 35 [(.v 8)]) (.o2 false .eq (.v 13) (.c (.int 1)))) (.o2 false .ne (.call 35 [(.o2 false .add (.tup [(.tup [(.c (.str "running"))])]) (.v 8))]) (.o2 false .eq (.v 13) (.c (.int 1))))) [.ret (.c (.bl false))] []]],.set 14 (.lst false [(.tup [(.c (.int 0)),(.c (.str "a")),(.o2 false .add (.v 12) (.c (.int 1)))])]),.ife (.o2 false .ne (.call 29 [(.tup [(.tup [(.c (.str "over")),(.v 12)]),(.tup [(.c (.str "under")),(.o2 false .add (.v 12) (.c (.int 2)))])]),(.v 14)]) (.v 14)) [.ret (.c (.bl false))] [],.set 15 (.lst false [(.tup [(.o2 false .sub (.o2 false .add (.o2 false .mul (.o2 false .div (.c (.int 3)) (.v 1)) (.v 1)) (.v 1)) (.c (.int 1))),(.c (.str "a")),(.o2 false .add (.o2 false .ix (.o2 false .ix (.v 3) (.c (.int 0))) (.c (.int 2))) (.v 2))])]),.ret (.o2 false .eq (.call 29 [(.tup [(.tup [(.c (.str "window")),(.v 1)]),(.tup [(.c (.str "plus")),(.v 2)])]),(.sl false (.v 3) none (some (.c (.int 1))))]) (.v 15))]⟩
theorem qqF(k:Nat):TTf gx (k+1) 38=qdT.run (TTf gx k):=congrArg (Fcd.run (TTf gx k)) (show cFn gx ("law",top 54)=qdT by kernel_rfl)
open Wk
noncomputable def S0:CS:=.par [1,2] [(.o2 false .add (.c (.int 1)) (.call 37 [(.v 0),(.c (.int 0)),(.c (.int 9))])),(.o2 false .add (.c (.int 1)) (.call 37 [(.v 0),(.c (.int 1)),(.c (.int 9))]))]
noncomputable def S1:CS:=.set 3 (.lst false [(.tup [(.c (.int 3)),(.c (.str "a")),(.o2 false .add (.c (.int 1)) (.call 37 [(.v 0),(.c (.int 2)),(.c (.int 9))]))]),(.tup [(.c (.int 3)),(.c (.str "b")),(.c (.int 2))]),(.tup [(.o2 false .add (.c (.int 3)) (.call 37 [(.v 0),(.c (.int 3)),(.c (.int 2))])),(.c (.str "b")),(.c (.int 5))])])
noncomputable def S2:CS:=.set 4 (.lst false [(.tup [(.c (.str "plus")),(.v 2)]),(.tup [(.c (.str "times")),(.c (.int 2))]),(.tup [(.c (.str "running"))]),(.tup [(.c (.str "over")),(.v 2)]),(.tup [(.c (.str "key")),(.c (.str "b"))]),(.tup [(.c (.str "window")),(.v 2)]),(.tup [(.c (.str "first")),(.c (.int 1))])])
noncomputable def S3:CS:=.for_ (.n 5) (.gen (.v 4)) [.par [6,7] [(.tup [(.c (.str "window")),(.v 1)]),(.tup [(.c (.str "plus")),(.c (.int 1))])],.for_ (.n 8) (.gen (.tup [(.tup [(.v 6),(.v 5)]),(.tup [(.v 6),(.v 7),(.v 5)]),(.tup [(.v 6),(.v 5),(.v 7)])])) [.par [9,10] [(.make "Walk" 30 [(.v 8)]),(.lst true [])],.for_ (.n 11) (.gen (.v 3)) [.exp (.bm false .extend (.v 10) [(.mth [("Walk",31)] "take" (.v 9) [(.v 11)])])],.exp (.bm false .extend (.v 10) [(.mth [("Walk",32)] "end" (.v 9) [])]),.ife (.o2 false .ne (.v 10) (.call 29 [(.v 8),(.v 3)])) [.ret (.c (.bl false))] []]]
noncomputable def S4:CS:=.set 12 (.o2 false .sub (.call 37 [(.v 0),(.c (.int 4)),(.c (.int 37))]) (.c (.int 20)))
noncomputable def S5:CS:=.for_ (.n 13) (.gen (.tup [(.c (.int 1)),(.c (.int 2)),(.c (.int 3))])) [.for_ (.n 8) (.gen (.tup [(.tup [(.tup [(.c (.str "over")),(.v 12)]),(.tup [(.c (.str "under")),(.o2 false .add (.v 12) (.v 13))])]),(.tup [(.tup [(.c (.str "under")),(.o2 false .add (.v 12) (.v 13))]),(.tup [(.c (.str "over")),(.v 12)])])])) [.ife (.or (.o2 false .ne (.call 35 [(.v 8)]) (.o2 false .eq (.v 13) (.c (.int 1)))) (.o2 false .ne (.call 35 [(.o2 false .add (.tup [(.tup [(.c (.str "running"))])]) (.v 8))]) (.o2 false .eq (.v 13) (.c (.int 1))))) [.ret (.c (.bl false))] []]]
noncomputable def S6:CS:=.set 14 (.lst false [(.tup [(.c (.int 0)),(.c (.str "a")),(.o2 false .add (.v 12) (.c (.int 1)))])])
noncomputable def S7:CS:=.ife (.o2 false .ne (.call 29 [(.tup [(.tup [(.c (.str "over")),(.v 12)]),(.tup [(.c (.str "under")),(.o2 false .add (.v 12) (.c (.int 2)))])]),(.v 14)]) (.v 14)) [.ret (.c (.bl false))] []
noncomputable def S8:CS:=.set 15 (.lst false [(.tup [(.o2 false .sub (.o2 false .add (.o2 false .mul (.o2 false .div (.c (.int 3)) (.v 1)) (.v 1)) (.v 1)) (.c (.int 1))),(.c (.str "a")),(.o2 false .add (.o2 false .ix (.o2 false .ix (.v 3) (.c (.int 0))) (.c (.int 2))) (.v 2))])])
noncomputable def S9:CS:=.ret (.o2 false .eq (.call 29 [(.tup [(.tup [(.c (.str "window")),(.v 1)]),(.tup [(.c (.str "plus")),(.v 2)])]),(.sl false (.v 3) none (some (.c (.int 1))))]) (.v 15))
theorem qu0:qdT.b=[S0,S1,S2,S3,S4,S5,S6,S7,S8,S9]:=rfl
variable {μ:Mu}{k:Nat}
theorem qoC{i:Int}:TTf gx (k+1) 1 [.int i] μ= .ok (.bl true) μ:=by rw[qf5];exact qle
theorem qg7{i a b:Int}:TTf gx (k+2) 2 [.int i,.int a,.int b] μ= .ok (.bl (decide (a<=i)&&decide (i<=b))) μ:=by rw[qbY];exact qiI qoC
theorem qqY{x:Str}(h:keyOk x):TTf gx (k+1) 3 [.str x,.int 2] μ= .ok (.bl true) μ:=by rw[qhW];exact qn8 h
theorem qqZ{x:Str}(h:keyOk x):TTf gx (k+2) 4 [.str x] μ= .ok (.bl true) μ:=by rw[qi1];exact qmh (qqY h)
theorem qt9{r:Row}(h:rowOk r):TTf gx (k+3) 5 [qac r] μ= .ok (.bl true) μ:=by rw[qiZ];exact qmf h (λ_ _ _=>qg7) λ_=>qqZ
theorem qjh{rs:List Row}(h: ∀x∈rs,rowOk x):TTf gx (k+4) 7 [.lst (rs.map qac)] μ= .ok .non μ:=by rw[qa6];exact ql4 rfl h λ_=>qt9
theorem qoD{rs:List Row}(h: ∀x∈rs,rowOk x)(hr:Ris rs)(hl:rs.length<=900):TTf gx (k+5) 9 [.lst (rs.map qac)] μ= .ok .non μ:=by rw[qa7];refine ql2 (qjh h) ?_;rw[qbn];refine qlX ?_;rw[qi0];exact(qmd hl).trans (by rw[qfq hr])
theorem qji:TTf gx (k+1) 10 [.bl false] μ= .ok .non μ:=by rw[qbC];exact qmu
theorem qlE{r:Row}{n:Int}(h:rowOk r)(hn:n<=r.1):TTf gx (k+5) 11 [qac r,.bl false,.int n] μ= .ok .non μ:=by rw[qcd];exact qi4 qji (qjh (rs:=[r]) λx hx=>by rw[List.mem_singleton.mp hx];exact h) hn
theorem qei{ps:List Sp}(hl:ps.length<=5)(h: ∀p∈ps,p.fine):TTf gx (k+5) 26 [.tup (ps.map Sp.T)] μ= .ok .non μ:=by rw[qa8];refine ql3 ?_;rw[qi2];refine qtq hl λp hp=> ?_;rw[qhX];exact qos (h p hp) (λ_ _ _=>qg7) λ_=>qqZ
noncomputable def ixP:Sp->Nat
 |.key _=>12|.over _=>13|.under _=>14|.plus _=>15|.times _=>16|.first _=>17|.each _=>18|.window _=>19|.running=>21|.change=>22|.unlike=>23
theorem qnw(p:Sp):p.ix 12 gx.fns=some (ixP p):=by cases p<;>(show _=some _;kernel_rfl)
theorem qtg(p:Sp)(k:Nat):TTf gx (k+1) (ixP p)=(p.cd 20).run (TTf gx k):=by
 cases p
 ·exact qiY k
 ·exact qof k
 ·exact qlp k
 ·exact qoe k
 ·exact qlq k
 ·exact qlr k
 ·exact qog k
 ·exact qiW k
 ·exact qhV k
 ·exact qi3 k
 ·exact qiX k
theorem qua{p:Sp}{μ:Mu}{j:Nat}{s:Ks}{rs:List Row}(hk:μ.l[j]? =some (ct s))(hc:p.can rs s):TTf gx (k+3) 27 [p.T,.lst (rs.map qac),.obj j] μ= .ok (.lst ((p.go s rs).1.map qac)) (μ.put j (ct (p.go s rs).2)):=by rw[qbG];exact qn2 (wr:=20) (ik:=12) (fns:=gx.fns) (F1:=TTf gx (k+1)) (F2:=TTf gx k) p (qnw p) (λ_ _=>by rw[qtg]) (λ_ _=>by rw[qa3];rfl) hk hc
theorem qnm{p:Sp}{μ:Mu}{j:Nat}{s:Ks}{rs:List Row}(hk:μ.l[j]? =some (ct s))(hc:p.can rs s):TTf gx (k+4) 28 [p.T,.lst (rs.map qac),.obj j] μ= .ok (.lst (((p.go s rs).1++p.rest (p.go s rs).2).map qac)) (μ.put j (ct (p.go s rs).2)):=by rw[qbN];exact qpq (bs:=27) (wr:=20) (ik:=12) (fns:=gx.fns) (F1:=TTf gx (k+2)) (F2:=TTf gx (k+1)) (F3:=TTf gx k) (G:=TTf gx (k+2)) p (λ_ _=>by rw[qbG];rfl) (λ_ _=>by rw[qa3];rfl) (qnw p) (λ_ _=>by rw[qtg]) (λ_ _=>by rw[qa3];rfl) hk hc
theorem qgc{ps:List Sp}{rs:List Row}(hl:ps.length<=5)(hp: ∀p∈ps,p.fine)(h: ∀x∈rs,rowOk x)(hr:Ris rs)(hn:rs.length<64):TTf gx (k+6) 29 [.tup (ps.map Sp.T),.lst (rs.map qac)] μ= .ok (.lst ((qbv (ps.map Sp.z) rs).map qac)) μ:=by rw[qls];refine qm9 (ra:=26) (rl:=9) (bl:=28) (qei hl hp) (qoD h hr (by omega)) (by omega) (λp _ {_ _ _ _} h1 h2=>qnm h1 h2) λd p r hq=> ?_;have ch:Ch 0 0 (ps.map Sp.z):=Ch.zero λp aj=>(hp p aj).gd;rw[hq,List.map_append,List.map_cons] at ch;exact ch.canE (λr fw=>(h r fw).1.1) hr (by omega)
variable {ns:List Int}
theorem qe8{i m:Int}(h0:0<=i)(hm:0<m):TTf gx (k+2) 37 [.scr ns,.int i,.int m] μ= .ok (.int (qbE ns i m)) μ:=by rw[qeT];exact qoU (by rw[qeU];exact qqc h0) hm
abbrev F6:Fs:=TTf gx 6
variable {ns:List Int}
abbrev rho(ns:List Int)(s m:Int)(rs:List Row)(st:List Sp)(x5 x6 x7 x8 x9 aB ay:Option T):Ro:=[some (.scr ns),some (.int s),some (.int m),some (.lst (rs.map qac)),some (.lst (st.map Sp.T)),x5,x6,x7,x8,x9,aB,ay,none,none,none,none]
abbrev bIn:List CS:=[.par [9,10] [(.make "Walk" 30 [(.v 8)]),(.lst true [])],.for_ (.n 11) (.gen (.v 3)) [.exp (.bm false .extend (.v 10) [(.mth [("Walk",31)] "take" (.v 9) [(.v 11)])])],.exp (.bm false .extend (.v 10) [(.mth [("Walk",32)] "end" (.v 9) [])]),.ife (.o2 false .ne (.v 10) (.call 29 [(.v 8),(.v 3)])) [.ret (.c (.bl false))] []]
theorem qu7 {s m:Int} {rs:List Row} {st ps:List Sp} {x5 x6 x7 x9 aB ay:Option T} {μ:Mu} (h: ∀x∈rs,rowOk x) (hr:Ris rs) (hn:rs.length<60) (hl:ps.length<=5) (hp: ∀p∈ps,p.fine):
  ∃dI bM aG μ',runSs F6 bIn (rho ns s m rs st x5 x6 x7 (some (.tup (ps.map Sp.T))) x9 aB ay) μ= .ok (.nx (rho ns s m rs st x5 x6 x7 (some (.tup (ps.map Sp.T))) dI bM aG)) μ':=by
 obtain⟨aa,e1,w1,l1,o1⟩:=qrX (F:=F6) (μ:=μ) (i:=30) (ra:=26) (F1:=TTf gx 5) (ps:=ps) (λ_ _=>congrFun (congrFun (qcB 5) _) _) (λ_=>qei hl hp);generalize hx:μ.l.length=x at*;generalize cW:List.range' (x+1) ps.length=ks at*;generalize ht:aa.l.length=t at*;have e8:Ch 0 0 (ps.map Sp.z):=Ch.zero λp aj=>(hp p aj).gd;have fd0:Fed (aa.on (.ls [])) x t (ps.map Sp.z) ks [] 0:=by
  refine⟨w1.mono λj hj=> ?_,?_,⟨by omega,λhm=> ?_⟩,e8⟩
  ·show(aa.l++_)[j]? =_;rw[List.getElem?_append_left hj]
  ·show(aa.l++_)[t]? =_;rw[<-ht];simp[wrs]
  ·rw[<-cW,List.mem_range'_1] at hm;omega
 have s0:qaP F6 (.par [9,10] [(.make "Walk" 30 [(.v 8)]),(.lst true [])]) (rho ns s m rs st x5 x6 x7 (some (.tup (ps.map Sp.T))) x9 aB ay) μ= .ok (.nx (rho ns s m rs st x5 x6 x7 (some (.tup (ps.map Sp.T))) (some (.obj x)) (some (.obj t)) ay)) (aa.on (.ls [])):=by have em:qab F6 (.make "Walk" 30 [(.v 8)]) (rho ns s m rs st x5 x6 x7 (some (.tup (ps.map Sp.T))) x9 aB ay) μ= .ok (.obj x) aa:=e1;rw[qq0,qaF,em,qaa,qaF];show R.bind (R.bind (R.bind (R.ok (T.obj aa.l.length) (aa.add (.ls []))) _) _) _=_;rw[Mu.add_on rfl,ht];rfl
 have bQ: ∀d r,rs=d++r->Ris d/\(∀y∈d,(0:Int)<=y.1):=λd r e=>by rw[e] at hr h;exact⟨(List.pairwise_append.mp hr).1,λy hy=>(h y (Vs _ hy)).1.1⟩
 obtain⟨ρ',af,e2,n2,aG,rfl,f2,eJ⟩:=qb6 (F:=F6) (ρ:=rho ns s m rs st x5 x6 x7 (some (.tup (ps.map Sp.T))) (some (.obj x)) (some (.obj t)) ay) (μ:=aa.on (.ls [])) (g:=.n 11) (ci:=.gen (.v 3)) (b:=[.exp (.bm false .extend (.v 10) [(.mth [("Walk",31)] "take" (.v 9) [(.v 11)])])]) rs qac
  (λd ρ' μ'=> ∃n aG,ρ'=rho ns s m rs st x5 x6 x7 (some (.tup (ps.map Sp.T))) (some (.obj x)) (some (.obj t)) aG/\Fed μ' x t (ps.map Sp.z) ks d n/\∀y r,rs=d++y::r->n<=y.1) rfl (qcv (t:=.lst (rs.map qac)) rfl (.inl rfl)) ⟨0,ay,rfl,fd0,λy r e=>(h y (by rw[e];simp)).1.1⟩ (by
   rintro d a r hq ρ' μ' ⟨n,aG,rfl,fd,hb⟩;have q1:=bQ d (a::r) hq;have q2:=bQ (d++[a]) r (by rw[hq];simp);have hlen:rs.length=d.length+1+r.length:=by rw[hq];simp;omega
   have k1:=qf3 (m:=0) (c:=0) d e8 q1.2 q1.1;have k2:=qf3 (m:=0) (c:=0) (d++[a]) e8 q2.2 q2.1;rw[qbW,List.length_append,List.length_append] at k2;simp only[List.length_singleton] at k2;obtain⟨cg,e3,f3,l3,o3⟩:=fd.take (F:=F6) (F1:=TTf gx 5) (ρ:=rho ns s m rs st x5 x6 x7 (some (.tup (ps.map Sp.T))) (some (.obj x)) (some (.obj t)) (some (qac a))) (it:=10) (iw:=9) (ir:=11) (ia:=31) (rt:=11) (bs:=27) (r:=a) rfl rfl rfl (λ_ _=>congrFun (congrFun (qeV 5) _) _) (λ_=>qlE (h a (by rw[hq];simp)) (hb a r hq)) (λa b=>qua a b) (hb a r hq) (by omega) (by omega) (by omega);refine⟨_,_,?_,a.1,some (qac a),rfl,f3,λy r' e=> ?_⟩
   ·show R.bind (R.ok (rho ns s m rs st x5 x6 x7 (some (.tup (ps.map Sp.T))) (some (.obj x)) (some (.obj t)) (some (qac a))) μ') _=_;rw[qaa,qaj,e3];rfl
   ·have e:rs=d++a::y::r':=by rw[e];simp
    rw[e] at hr;exact(Ris.snoc hr).2 y Vk)
 have q1:=bQ rs [] (by simp);have k1:=qf3 (m:=0) (c:=0) rs e8 q1.2 q1.1;obtain⟨aq,e3,t3,l3,o3⟩:=f2.end_ (F:=F6) (F1:=TTf gx 5) (ρ:=rho ns s m rs st x5 x6 x7 (some (.tup (ps.map Sp.T))) (some (.obj x)) (some (.obj t)) aG) (it:=10) (iw:=9) (ia:=32) (rt:=10) (bl:=28) rfl rfl (λ_ _=>congrFun (congrFun (qf6 5) _) _) (λ_=>qji) (λa b=>qnm a b) e8.fits (by omega) (by omega);refine⟨some (.obj x),some (.obj t),aG,aq,?_⟩;rw[qaj,s0,qaa,qaT,qaj,e2,qaa,qaT,qaj,e3,qaa,qaT,qaj,qjj]
 ·rfl
 ·have ea:F6 29 [.tup (ps.map Sp.T),.lst (rs.map qac)] aq=_:=qgc (k:=0) hl hp h hr (by omega);rw[qej];show R.bind (R.ok (T.obj t) aq) _=_;rw[qaa,qaD];show R.bind (F6 29 [.tup (ps.map Sp.T),.lst (rs.map qac)] aq) _=_;rw[ea,qaa,qpD (qeq _) (qsK t3) rfl];rfl
variable {ns:List Int}
theorem mid {s m:Int} {rs:List Row} {st:List Sp} {p:Sp} {x5 x6 x7 x8 x9 aB ay:Option T} {μ:Mu} (h: ∀x∈rs,rowOk x) (hr:Ris rs) (hn:rs.length<60) (hs:1<=s/\s<=20) (hp:p.fine):
  ∃x6' x7' bF dI bM aG μ',runSs F6 [.par [6,7] [(.tup [(.c (.str "window")),(.v 1)]),(.tup [(.c (.str "plus")),(.c (.int 1))])],.for_ (.n 8) (.gen (.tup [(.tup [(.v 6),(.v 5)]),(.tup [(.v 6),(.v 7),(.v 5)]),(.tup [(.v 6),(.v 5),(.v 7)])])) bIn] (rho ns s m rs st (some p.T) x6 x7 x8 x9 aB ay) μ= .ok (.nx (rho ns s m rs st (some p.T) x6' x7' bF dI bM aG)) μ':=by
 obtain⟨ρ',μ',e,bF,dI,bM,aG,rfl⟩:=qb6 (F:=F6) (ρ:=rho ns s m rs st (some p.T) (some (Sp.T (.window s))) (some (Sp.T (.plus 1))) x8 x9 aB ay) (μ:=μ) (g:=.n 8) (ci:=.gen (.tup [(.tup [(.v 6),(.v 5)]),(.tup [(.v 6),(.v 7),(.v 5)]),(.tup [(.v 6),(.v 5),(.v 7)])])) (b:=bIn)
  [[.window s,p],[.window s,.plus 1,p],[.window s,p,.plus 1]] (λps:List Sp=>.tup (ps.map Sp.T)) (λ_ ρ' _=> ∃x8 x9 aB ay,ρ'=rho ns s m rs st (some p.T) (some (Sp.T (.window s))) (some (Sp.T (.plus 1))) x8 x9 aB ay)
  rfl (qcv rfl (.inr rfl)) ⟨x8,x9,aB,ay,rfl⟩ (by
   rintro d ps r hq ρ' μ' ⟨x8,x9,aB,ay,rfl⟩;have hm:ps∈[[.window s,p],[.window s,.plus 1,p],[.window s,p,.plus 1]]:=by rw[hq];simp
   have hl:ps.length<=5/\∀p∈ps,p.fine:=by
    have h1:Sp.fine (.window s):=hs;have h2:Sp.fine (.plus 1):=by show(-20:Int)<=1/\(1:Int)<=20;omega
    simp only[List.mem_cons,List.not_mem_nil,or_false] at hm
    rcases hm with rfl|rfl|rfl<;>refine⟨by simp,λq hq=> ?_⟩<;>simp only[List.mem_cons,List.not_mem_nil,or_false] at hq
    ·rcases hq with rfl|rfl<;>assumption
    ·rcases hq with rfl|rfl|rfl<;>assumption
    ·rcases hq with rfl|rfl|rfl<;>assumption
   obtain⟨y9,fN,fM,af,e⟩:=qu7 (ns:=ns) (s:=s) (m:=m) (st:=st) (x5:=some p.T) (x6:=some (Sp.T (.window s))) (x7:=some (Sp.T (.plus 1))) (x9:=x9) (aB:=aB) (ay:=ay) (μ:=μ') h hr hn hl.1 hl.2;exact⟨_,af,e,some (.tup (ps.map Sp.T)),y9,fN,fM,rfl⟩)
 refine⟨some (Sp.T (.window s)),some (Sp.T (.plus 1)),bF,dI,bM,aG,μ',?_⟩;have e0:qaP F6 (.par [6,7] [(.tup [(.c (.str "window")),(.v 1)]),(.tup [(.c (.str "plus")),(.c (.int 1))])]) (rho ns s m rs st (some p.T) x6 x7 x8 x9 aB ay) μ= .ok (.nx (rho ns s m rs st (some p.T) (some (Sp.T (.window s))) (some (Sp.T (.plus 1))) x8 x9 aB ay)) μ:=rfl;rw[qaj,e0,qaa,qaT,qaj,e];rfl
theorem st3 {s m:Int} {rs:List Row} {st:List Sp} {μ:Mu} (h: ∀x∈rs,rowOk x) (hr:Ris rs) (hn:rs.length<60) (hs:1<=s/\s<=20) (hp: ∀p∈st,p.fine):
  ∃x5 x6 x7 x8 x9 aB ay μ',qaP F6 S3 (rho ns s m rs st none none none none none none none) μ= .ok (.nx (rho ns s m rs st x5 x6 x7 x8 x9 aB ay)) μ':=by
 obtain⟨ρ',μ',e,x5,x6,x7,x8,x9,aB,ay,rfl⟩:=qb6 (F:=F6) (ρ:=rho ns s m rs st none none none none none none none) (μ:=μ) (g:=.n 5) (ci:=.gen (.v 4)) (b:=[.par [6,7] [(.tup [(.c (.str "window")),(.v 1)]),(.tup [(.c (.str "plus")),(.c (.int 1))])],.for_ (.n 8) (.gen (.tup [(.tup [(.v 6),(.v 5)]),(.tup [(.v 6),(.v 7),(.v 5)]),(.tup [(.v 6),(.v 5),(.v 7)])])) bIn]) st Sp.T
  (λ_ ρ' _=> ∃x5 x6 x7 x8 x9 aB ay,ρ'=rho ns s m rs st x5 x6 x7 x8 x9 aB ay) rfl (qcv (t:=.lst (st.map Sp.T)) rfl (.inl rfl)) ⟨_,_,_,_,_,_,_,rfl⟩ (by
   rintro d p r hq ρ' μ' ⟨x5,x6,x7,x8,x9,aB,ay,rfl⟩;obtain⟨y6,y7,y8,y9,fN,fM,af,e⟩:=mid (ns:=ns) (s:=s) (m:=m) (st:=st) (p:=p) (x5:=x5) (x6:=x6) (x7:=x7) (x8:=x8) (x9:=x9) (aB:=aB) (ay:=ay) (μ:=μ') h hr hn hs (hp p (by rw[hq];simp));exact⟨_,_,e,some p.T,y6,y7,y8,y9,fN,fM,rfl⟩)
 exact⟨x5,x6,x7,x8,x9,aB,ay,μ',e⟩
theorem qpv{k:Nat}{μ:Mu}(a b:Int):TTf gx (k+1) 34 [Sp.T (.over a),Sp.T (.under b)] μ= .ok (.bl (decide (b<=a+1))) μ:=by rw[qaK];exact qav rfl (qag rfl (qbg rfl rfl))
theorem qps{k:Nat}{μ:Mu}(a b:Int):TTf gx (k+1) 34 [Sp.T (.under a),Sp.T (.over b)] μ= .ok (.bl (decide (a<=b+1))) μ:=by rw[qaK];exact qav rfl (qag rfl (qag rfl (qbg rfl rfl)))
theorem qpu{k:Nat}{μ:Mu}(b:Int):TTf gx (k+1) 34 [Sp.T .running,Sp.T (.over b)] μ= .ok (.bl false) μ:=by rw[qaK];exact qav rfl (qag rfl (qag rfl (qag rfl (qfZ rfl))))
theorem qpt{k:Nat}{μ:Mu}(b:Int):TTf gx (k+1) 34 [Sp.T .running,Sp.T (.under b)] μ= .ok (.bl false) μ:=by rw[qaK];exact qav rfl (qag rfl (qag rfl (qag rfl (qfZ rfl))))
theorem qnL{μ:Mu}{p q:Sp}{b:Bool}(hp:p.fine)(hq:q.fine)(h:TTf gx 5 34 [p.T,q.T] μ= .ok (.bl b) μ):F6 35 [.tup [p.T,q.T]] μ= .ok (.bl b) μ:=by
 show TTf gx 6 35 _ _=_;rw[qcN];have ha:TTf gx 5 26 [.tup [p.T,q.T]] μ= .ok .non μ:=qei (k:=0) (ps:=[p,q]) (by simp) (by simp[hp,hq]);refine qav rfl (qam (ρ':=[some (.tup [p.T,q.T])]) (μ':=μ) ?_ (qfZ ?_))
 ·show R.bind (TTf gx 5 26 [.tup [p.T,q.T]] μ) _=_;rw[ha];rfl
 ·show R.bind (R.bind (R.bind (R.bind (noX (R.bind (TTf gx 5 34 [p.T,q.T] μ) _)) _) _) _) _=_;rw[h];cases b<;>rfl
theorem qnK{μ:Mu}{p q:Sp}{b:Bool}(hp:p.fine)(hq:q.fine)(h:TTf gx 5 34 [p.T,q.T] μ= .ok (.bl b) μ)(h':TTf gx 5 34 [Sp.T .running,p.T] μ= .ok (.bl false) μ):F6 35 [.tup [Sp.T .running,p.T,q.T]] μ= .ok (.bl b) μ:=by
 show TTf gx 6 35 _ _=_;rw[qcN];have ha:TTf gx 5 26 [.tup [Sp.T .running,p.T,q.T]] μ= .ok .non μ:=qei (k:=0) (ps:=[.running,p,q]) (by simp) (λx hx=>by simp only[List.mem_cons,List.not_mem_nil,or_false] at hx;rcases hx with rfl|rfl|rfl;exact trivial;exact hp;exact hq);refine qav rfl (qam (ρ':=[some (.tup [Sp.T .running,p.T,q.T])]) (μ':=μ) ?_ (qfZ ?_))
 ·show R.bind (TTf gx 5 26 [.tup [Sp.T .running,p.T,q.T]] μ) _=_;rw[ha];rfl
 ·show R.bind (R.bind (R.bind (R.bind (noX (R.bind (TTf gx 5 34 [Sp.T .running,p.T] μ) _)) _) _) _) _=_;rw[h'];show R.bind (R.bind (R.bind (R.bind (noX (R.bind (R.bind (TTf gx 5 34 [p.T,q.T] μ) _) _)) _) _) _) _=_;rw[h];cases b<;>rfl
variable {ns:List Int}
abbrev rh2(a0 a1 a2 a3 a4 a5 a6 a7 x8 a9 bq bo:Option T)(l:Int)(bL x14 x15:Option T):Ro:=[a0,a1,a2,a3,a4,a5,a6,a7,x8,a9,bq,bo,some (.int l),bL,x14,x15]
theorem st5{a0 a1 a2 a3 a4 a5 a6 a7 x8 a9 bq bo:Option T}{l:Int}{μ:Mu}(hl: -20<=l/\l<=16): ∃bF bL,qaP F6 S5 (rh2 a0 a1 a2 a3 a4 a5 a6 a7 x8 a9 bq bo l none none none) μ= .ok (.nx (rh2 a0 a1 a2 a3 a4 a5 a6 a7 bF a9 bq bo l bL none none)) μ:=by
 obtain⟨ρ',μ',e,bF,bL,rfl,rfl⟩:=qb6 (F:=F6) (ρ:=rh2 a0 a1 a2 a3 a4 a5 a6 a7 x8 a9 bq bo l none none none) (μ:=μ) (g:=.n 13) (ci:=.gen (.tup [(.c (.int 1)),(.c (.int 2)),(.c (.int 3))])) (b:=[.for_ (.n 8) (.gen (.tup [(.tup [(.tup [(.c (.str "over")),(.v 12)]),(.tup [(.c (.str "under")),(.o2 false .add (.v 12) (.v 13))])]),(.tup [(.tup [(.c (.str "under")),(.o2 false .add (.v 12) (.v 13))]),(.tup [(.c (.str "over")),(.v 12)])])])) [.ife (.or (.o2 false .ne (.call 35 [(.v 8)]) (.o2 false .eq (.v 13) (.c (.int 1)))) (.o2 false .ne (.call 35 [(.o2 false .add (.tup [(.tup [(.c (.str "running"))])]) (.v 8))]) (.o2 false .eq (.v 13) (.c (.int 1))))) [.ret (.c (.bl false))] []]])
  [(1:Int),2,3] T.int (λ_ ρ' μ'=> ∃x8 bL,ρ'=rh2 a0 a1 a2 a3 a4 a5 a6 a7 x8 a9 bq bo l bL none none/\μ'=μ) rfl (qcv rfl (.inr rfl)) ⟨x8,none,rfl,rfl⟩ (by
   rintro d g r hq ρ' μ' ⟨x8,bL,rfl,rfl⟩;have hg:g∈[(1:Int),2,3]:=by rw[hq];simp
   have hg:1<=g/\g<=3:=by simp at hg;omega
   have f1:Sp.fine (.over l):=by show -20<=l/\l<=20;omega
   have f2:Sp.fine (.under (l+g)):=by show -20<=l+g/\l+g<=20;omega
   have dg: ∀{a b:Int},(a<=b↔g=1)->decide (a<=b)=decide (g=1):=λh=>decide_eq_decide.mpr h
   obtain⟨ρ',cg,e,bF,rfl,rfl⟩:=qb6 (F:=F6) (ρ:=rh2 a0 a1 a2 a3 a4 a5 a6 a7 x8 a9 bq bo l (some (.int g)) none none) (μ:=μ') (g:=.n 8) (ci:=.gen (.tup [(.tup [(.tup [(.c (.str "over")),(.v 12)]),(.tup [(.c (.str "under")),(.o2 false .add (.v 12) (.v 13))])]),(.tup [(.tup [(.c (.str "under")),(.o2 false .add (.v 12) (.v 13))]),(.tup [(.c (.str "over")),(.v 12)])])])) (b:=[.ife (.or (.o2 false .ne (.call 35 [(.v 8)]) (.o2 false .eq (.v 13) (.c (.int 1)))) (.o2 false .ne (.call 35 [(.o2 false .add (.tup [(.tup [(.c (.str "running"))])]) (.v 8))]) (.o2 false .eq (.v 13) (.c (.int 1))))) [.ret (.c (.bl false))] []])
    [(Sp.over l,Sp.under (l+g)),(Sp.under (l+g),Sp.over l)] (λy:Sp×Sp=>.tup [y.1.T,y.2.T]) (λ_ ρ' af=> ∃x8,ρ'=rh2 a0 a1 a2 a3 a4 a5 a6 a7 x8 a9 bq bo l (some (.int g)) none none/\af=μ') rfl (qcv rfl (.inr rfl)) ⟨x8,rfl,rfl⟩ (by
     rintro d y r hq ρ' af ⟨x8,rfl,rfl⟩;have hy:y∈[(Sp.over l,Sp.under (l+g)),(Sp.under (l+g),Sp.over l)]:=by rw[hq];simp
     have key:F6 35 [.tup [y.1.T,y.2.T]] af= .ok (.bl (decide (g=1))) af/\F6 35 [.tup [Sp.T .running,y.1.T,y.2.T]] af= .ok (.bl (decide (g=1))) af:=by
      simp only[List.mem_cons,List.not_mem_nil,or_false] at hy
      rcases hy with rfl|rfl
      ·have k1:=qpv (k:=4) (μ:=af) l (l+g);rw[dg (show l+g<=l+1↔g=1 by omega)] at k1;exact⟨qnL f1 f2 k1,qnK f1 f2 k1 (qpu _)⟩
      ·have k1:=qps (k:=4) (μ:=af) (l+g) l;rw[dg (show l+g<=l+1↔g=1 by omega)] at k1;exact⟨qnL f2 f1 k1,qnK f2 f1 k1 (qpt _)⟩
     refine⟨_,_,?_,some (.tup [y.1.T,y.2.T]),rfl,rfl⟩;show R.bind (R.ok (rh2 a0 a1 a2 a3 a4 a5 a6 a7 (some (.tup [y.1.T,y.2.T])) a9 bq bo l (some (.int g)) none none) af) _=_;rw[qaa,qaj,qjj]
     ·rfl
     ·have e1:O2.g .ne af (.bl (decide (g=1))) (.bl (decide (g=1)))=some (.v (.bl false)):=qpD rfl rfl rfl;have e2:O2.g .eq af (.int g) (.int 1)=some (.v (.bl (decide (g=1)))):=qvh;have eg:qab F6 (.o2 false .eq (.v 13) (.c (.int 1))) (rh2 a0 a1 a2 a3 a4 a5 a6 a7 (some (.tup [y.1.T,y.2.T])) a9 bq bo l (some (.int g)) none none) af= .ok (.bl (decide (g=1))) af:=by rw[qej];show R.bind (R.ok (T.int g) af) _=_;rw[qaa];show R.bind (R.ok (T.int 1) af) _=_;rw[qaa,e2];rfl
      have c1:qab F6 (.call 35 [(.v 8)]) (rh2 a0 a1 a2 a3 a4 a5 a6 a7 (some (.tup [y.1.T,y.2.T])) a9 bq bo l (some (.int g)) none none) af= .ok (.bl (decide (g=1))) af:=key.1;have c2:qab F6 (.call 35 [(.o2 false .add (.tup [(.tup [(.c (.str "running"))])]) (.v 8))]) (rh2 a0 a1 a2 a3 a4 a5 a6 a7 (some (.tup [y.1.T,y.2.T])) a9 bq bo l (some (.int g)) none none) af= .ok (.bl (decide (g=1))) af:=key.2;rw[qum,qej,c1,qaa,eg,qaa,e1,qtF,qaa,qi5,qaa,if_neg (by decide),qej,c2,qaa,eg,qaa,e1,qtF])
   refine⟨_,_,?_,bF,some (.int g),rfl,rfl⟩;show R.bind (R.ok (rh2 a0 a1 a2 a3 a4 a5 a6 a7 x8 a9 bq bo l (some (.int g)) none none) _) _=_;rw[qaa,qaj,e];rfl)
 exact⟨bF,bL,e⟩
theorem qlh{l:Int}:qbv ([.over l,.under (l+2)].map Sp.z) [((0, "a",l+1):Row)]=[((0, "a",l+1):Row)]:=by
 have h1:l<l+1:=by omega
 have h2:l+1<l+2:=by omega
 simp[qbv,Sp.go,Sp.rest,Sp.k0,h1,h2]
theorem qlg{s m n:Int}:qbv ([.window s,.plus m].map Sp.z) [((3, "a",n):Row)]=[(((3 / s+1)*s - 1, "a",0+n+m):Row)]:=rfl
theorem qjM{μ:Mu}{b:Bool}(m:Mu): ∃m',leave μ (.ok (.bl b) m)= .ok (.bl b) m':=by
 unfold leave;simp only[qj9 (show ub (.bl b)<=μ.l.length from Nat.zero_le _)];split
 ·exact⟨_,rfl⟩
 ·split<;>exact⟨_,rfl⟩
theorem law_true(ns:List Int): ∃m,TTf gx 7 38 [.scr ns] ⟨[],[]⟩= .ok (.bl true) m:=by
 have p0:=qcX (ns:=ns) (k:=0) (many:=9) (by decide);have q0:=qcY (ns:=ns) (k:=0) (many:=9) (by decide);have p1:=qcX (ns:=ns) (k:=1) (many:=9) (by decide);have q1:=qcY (ns:=ns) (k:=1) (many:=9) (by decide);have p2:=qcX (ns:=ns) (k:=2) (many:=9) (by decide);have q2:=qcY (ns:=ns) (k:=2) (many:=9) (by decide);have p3:=qcX (ns:=ns) (k:=3) (many:=2) (by decide);have q3:=qcY (ns:=ns) (k:=3) (many:=2) (by decide);have p4:=qcX (ns:=ns) (k:=4) (many:=37) (by decide);have q4:=qcY (ns:=ns) (k:=4) (many:=37) (by decide);have k0: ∀μ,F6 37 [.scr ns,.int 0,.int 9] μ= .ok (.int (qbE ns 0 9)) μ:=λμ=>qe8 (k:=4) (by decide) (by decide);have k1: ∀μ,F6 37 [.scr ns,.int 1,.int 9] μ= .ok (.int (qbE ns 1 9)) μ:=λμ=>qe8 (k:=4) (by decide) (by decide);have k2: ∀μ,F6 37 [.scr ns,.int 2,.int 9] μ= .ok (.int (qbE ns 2 9)) μ:=λμ=>qe8 (k:=4) (by decide) (by decide);have k3: ∀μ,F6 37 [.scr ns,.int 3,.int 2] μ= .ok (.int (qbE ns 3 2)) μ:=λμ=>qe8 (k:=4) (by decide) (by decide);have k4: ∀μ,F6 37 [.scr ns,.int 4,.int 37] μ= .ok (.int (qbE ns 4 37)) μ:=λμ=>qe8 (k:=4) (by decide) (by decide);generalize qbE ns 0 9=v0 at*;generalize qbE ns 1 9=v1 at*;generalize qbE ns 2 9=v2 at*;generalize qbE ns 3 2=v3 at*;generalize qbE ns 4 37=v4 at*;have ka:keyOk "a" /\keyOk "b" :=⟨⟨⟨by decide,by decide⟩,by decide⟩,⟨by decide,by decide⟩,by decide⟩
 let rs:List Row:=[(3, "a",1+v2),(3, "b",2),(3+v3, "b",5)]
 let st:List Sp:=[.plus (1+v1),.times 2,.running,.over (1+v1),.key "b",.window (1+v1),.first 1]
 have hok: ∀x∈rs,rowOk x:=λx hx=>by
  simp only[rs,List.mem_cons,List.not_mem_nil,or_false] at hx
  rcases hx with rfl|rfl|rfl
  ·exact⟨⟨by show(0:Int)<=3;decide,by show(3:Int)<=99;decide⟩,ka.1,by show -99<=1+v2;omega,by show 1+v2<=99;omega⟩
  ·exact⟨⟨by decide,by decide⟩,ka.2,by decide,by decide⟩
  ·exact⟨⟨by show 0<=3+v3;omega,by show 3+v3<=99;omega⟩,ka.2,by show(-99:Int)<=5;decide,by show(5:Int)<=99;decide⟩
 have gc:Ris rs:=by simp only[rs,Ris,List.pairwise_cons,List.mem_cons,List.not_mem_nil,or_false,List.Pairwise.nil];refine⟨λa h=>by rcases h with rfl|rfl;exact Int.le_refl _;show 3<=3+v3;omega,λa h=>by rw[h];show 3<=3+v3;omega,(λa h=>h.elim),trivial⟩
 have aD: ∀p∈st,p.fine:=λp hp=>by
  simp only[st,List.mem_cons,List.not_mem_nil,or_false] at hp
  rcases hp with rfl|rfl|rfl|rfl|rfl|rfl|rfl
  ·show -20<=1+v1/\1+v1<=20;omega
  ·show(-20:Int)<=2/\(2:Int)<=20;omega
  ·trivial
  ·show -20<=1+v1/\1+v1<=20;omega
  ·exact ka.2
  ·show 1<=1+v1/\1+v1<=20;omega
  ·show(1:Int)<=1/\(1:Int)<=20;omega
 obtain⟨x5,x6,x7,x8,x9,aB,ay,aq,e3⟩:=st3 (ns:=ns) (s:=1+v0) (m:=1+v1) (rs:=rs) (st:=st) (μ:=⟨[],[]⟩) hok gc (by show 3<60;decide) (by omega) aD;obtain⟨bF,bL,e5⟩:=st5 (a0:=some (.scr ns)) (a1:=some (.int (1+v0))) (a2:=some (.int (1+v1))) (a3:=some (.lst (rs.map qac))) (a4:=some (.lst (st.map Sp.T))) (a5:=x5) (a6:=x6) (a7:=x7) (x8:=x8) (a9:=x9) (bq:=aB) (bo:=ay) (l:=v4 - 20) (μ:=aq) (by omega);have fin:(runSs F6 qdT.b [some (.scr ns),none,none,none,none,none,none,none,none,none,none,none,none,none,none,none] ⟨[],[]⟩).bind outT= .ok (.bl true) aq:=by
  rw[qu0];refine qam (ρ':=[some (.scr ns),some (.int (1+v0)),some (.int (1+v1)),none,none,none,none,none,none,none,none,none,none,none,none,none]) (μ':=⟨[],[]⟩) ?_ (qam (ρ':=[some (.scr ns),some (.int (1+v0)),some (.int (1+v1)),some (.lst (rs.map qac)),none,none,none,none,none,none,none,none,none,none,none,none]) (μ':=⟨[],[]⟩) ?_ (qam (ρ':=rho ns (1+v0) (1+v1) rs st none none none none none none none) (μ':=⟨[],[]⟩) rfl (qam e3 (qam (ρ':=rh2 (some (.scr ns)) (some (.int (1+v0))) (some (.int (1+v1))) (some (.lst (rs.map qac))) (some (.lst (st.map Sp.T))) x5 x6 x7 x8 x9 aB ay (v4 - 20) none none none) (μ':=aq) ?_ (qam e5 (qam (ρ':=rh2 (some (.scr ns)) (some (.int (1+v0))) (some (.int (1+v1))) (some (.lst (rs.map qac))) (some (.lst (st.map Sp.T))) x5 x6 x7 bF x9 aB ay (v4 - 20) bL (some (.lst ([((0, "a",v4 - 20+1):Row)].map qac))) none) (μ':=aq) rfl (qag ?_ (qam (ρ':=rh2 (some (.scr ns)) (some (.int (1+v0))) (some (.int (1+v1))) (some (.lst (rs.map qac))) (some (.lst (st.map Sp.T))) x5 x6 x7 bF x9 aB ay (v4 - 20) bL (some (.lst ([((0, "a",v4 - 20+1):Row)].map qac))) (some (.lst ([((3 / (1+v0)*(1+v0)+(1+v0) - 1, "a",1+v2+(1+v1)):Row)].map qac)))) (μ':=aq) ?_ (qfZ ?_)))))))))
  ·simp[S0,k0,k1]
  ·simp[S1,k2,k3,rs,qac]
  ·simp[S4,k4]
  ·have ea:F6 29 [.tup ([.over (v4 - 20),.under (v4 - 20+2)].map Sp.T),.lst ([((0, "a",v4 - 20+1):Row)].map qac)] aq=_:=qgc (k:=0) (by show 2<=5; decide) (λp hp=>by
    simp only[List.mem_cons,List.not_mem_nil,or_false] at hp
    rcases hp with rfl|rfl
    ·show -20<=v4 - 20/\v4 - 20<=20;omega
    ·show -20<=v4 - 20+2/\v4 - 20+2<=20;omega) (λx hx=>by
    rw[List.mem_singleton.mp hx];exact⟨⟨by show(0:Int)<=0;decide,by show(0:Int)<=99;decide⟩,ka.1,by show -99<=v4 - 20+1;omega,by show v4 - 20+1<=99;omega⟩) (List.pairwise_singleton _ _) (by show 1<64;decide)
   rw[qlh] at ea;rw[qej];show R.bind (F6 29 [.tup ([.over (v4 - 20),.under (v4 - 20+2)].map Sp.T),.lst ([((0, "a",v4 - 20+1):Row)].map qac)] aq) _=_;rw[ea,qaa];show nvR false (O2.g .ne aq (.lst ([((0, "a",v4 - 20+1):Row)].map qac)) (.lst ([((0, "a",v4 - 20+1):Row)].map qac))) aq=_;rw[qpD (qeq _) rfl rfl];rfl
  ·simp only[S8];have b1:0<1+v0/\1+v0<1073741824:=by omega
   have b2:(-4294967296<=3 / (1+v0)/\3 / (1+v0)<=4294967296)\/(-4294967296<=1+v0/\1+v0<=4294967296):=by omega
   simp[rs,qac,ixT,if_pos b1,if_pos b2]
  ·have ea:F6 29 [.tup ([.window (1+v0),.plus (1+v1)].map Sp.T),.lst ([((3, "a",1+v2):Row)].map qac)] aq=_:=qgc (k:=0) (by show 2<=5; decide) (λp hp=>by
    simp only[List.mem_cons,List.not_mem_nil,or_false] at hp
    rcases hp with rfl|rfl
    ·show 1<=1+v0/\1+v0<=20;omega
    ·show -20<=1+v1/\1+v1<=20;omega) (λx hx=>hok x (by rw[List.mem_singleton.mp hx];exact Vk)) (List.pairwise_singleton _ _) (by show 1<64;decide)
   rw[qlg] at ea;have e1:(3 / (1+v0)+1)*(1+v0) - 1=3 / (1+v0)*(1+v0)+(1+v0) - 1:=by rw[Int.add_mul,Int.one_mul]
   rw[e1,Int.zero_add] at ea;rw[qej];show R.bind (F6 29 [.tup ([.window (1+v0),.plus (1+v1)].map Sp.T),.lst ([((3, "a",1+v2):Row)].map qac)] aq) _=_;rw[ea,qaa];show nvR false (O2.g .eq aq (.lst ([((3 / (1+v0)*(1+v0)+(1+v0) - 1, "a",1+v2+(1+v1)):Row)].map qac)) (.lst ([((3 / (1+v0)*(1+v0)+(1+v0) - 1, "a",1+v2+(1+v1)):Row)].map qac))) aq=_;rw[qvf (qeq _) rfl rfl];rfl
 obtain⟨m',hm⟩:=qjM (μ:=⟨[],[]⟩) (b:=true) aq;refine⟨m',?_⟩;rw[qqF];unfold Fcd.run fnR;rw[if_pos (show [T.scr ns].length=qdT.n from rfl)];show lv false _ ((runSs F6 qdT.b [some (.scr ns),none,none,none,none,none,none,none,none,none,none,none,none,none,none,none] ⟨[],[]⟩).bind outT)=_;rw[fin];exact hm
end K97
namespace NV
open PySem L2
theorem qbT{N:List Str}{x:Str}{i:Nat}(h:qla N x=some i):N[i]? =some x:=by obtain⟨hi,h1,_⟩:=List.findIdx?_eq_some_iff_getElem.mp h;rw[List.getElem?_eq_getElem hi,of_decide_eq_true h1]
structure Gf(M:Md)(g:Gx)(F:Fs)(k:Nat)(P:Program)(w:World)(mg:Str->Option Value)(base:Heap):Prop where
 fn: ∀x i,g.fi x=some i->x.cps.contains 46=false->∃f fd ps,mg x=some (.ref f)/\W.keepIn M.K (.ref f)=true/\qa0 M.K fd ps []/\qcL P w M.K mg base (CXE P w) (8*k) f fd ps (spF M (F i))
 nb: ∀x,qcK.contains x=true->mg x=none
 cs: ∀x t,g.cs.lookup x=some t->∃v u,mg x=some u/\RelV v u/\∀B,Rep M.K B t v
 ex: ∀c bs,(c,bs)∈g.ex->mg c=some (.ref (clA M.K c))/\∃bm,qiG base (clA M.K c) bm/\∀x∈bs,(g.ex.map (·.1)).contains x=true->(Value.ref (clA M.K c)::bm).contains (.ref (clA M.K x))=true
 mt: ∀m c i,(c,i)∈g.ms m->∃f fd ps,Cls M.K (clA M.K c)/\qts M.K (clA M.K c) m f/\qcL P w M.K mg base (CXE P w) (8*k) f fd ps (spF M (F i))/\qa0 M.K fd ps []
 mkc: ∀c i,(g.cl.map (·.1)).contains c=true->g.fi (qaR c "__init__")=some i->∃f fd ps,mg c=some (.ref (clA M.K c))/\Mk M.K (clA M.K c) f/\qcL P w M.K mg base (CXE P w) (8*k) f fd ps (spF M (F i))/\qa0 M.K fd ps []
 fl: ∀f c,(g.fls f).contains c=true->Cls M.K (clA M.K c)/\qbb M.K (clA M.K c) f
 dt: ∀D tbl,g.dt.lookup D=some tbl->PL.TopT M.K mg w D tbl
structure Tp(M:Md)(g:Gx)(X:Cx)(E:XK):Prop where
 st:X.stack=X.env::X.outer
 fr:X.env.frame=some X.env.locals
 ex:X.ex=[]
 xe: ∀a s',wpAny (model X.prog X.w) X.A (leaving X.env (.ref a)) (λ_ s''=>CXE X.prog X.w X.outer X.H₀ X.s₀ E (.ref a) s'') (λ_ _=>False) s'->X.xe (.ref a) s'
 ow:PassesOwn (model X.prog X.w) X.A X.env X.xe
 rs: ∀(x msg:Str) (j:Nat) (np p1 cpos pos:Pos),(g.ex.map (·.1)).contains x=true->Gl X x->(x==("__debug__" :Str))=false->PS X (.Raise (some (.Call (.Name x np) [.Constant (.str msg) j p1] [] cpos)) none pos) (qi6 (clA M.K x) E)
structure Cok(M:Md)(g:Gx)(F:Fs)(k:Nat)(C:Cc)(X:Cx)(E:XK):Prop where
 gf:Gf M g F k X.prog X.w X.mg X.base
 K:X.K=M.K
 N:X.N=C.N
 nd:C.N.Nodup
 sc:X.env.scope=C.sc
 fn: ∀x,qqt C x=true->X.fn x=true\/C.sc.names.lookup x=some .local
 un:X.A.units+8<cLine
 cm:C.calm=true->X.calm=true/\qbu (8*k+1) X.A/\qaJ (CXE X.prog X.w) X E
 tp:C.top=true->Tp M g X E
 lm:C.lam=true->qbu (8*k+4) X.A/\∃c P q,Lm M X c P q
 cf:C.cf=true->∀x,X.fn x=true
section
variable {M:Md}{g:Gx}{F:Fs}{k n:Nat}{C:Cc}{X:Cx}{E:XK}{x:Str}{pos p:Pos}
theorem Cok.gl(c:Cok M g F k C X E)(h:qim C x=true):Gl X x/\(x==("__debug__" :Str))=false:=by unfold qim at h;rw[Bool.and_eq_true] at h;refine⟨?_,by simpa using h.2⟩;show X.env.scope.names.lookup x=_;rw[c.sc];exact of_decide_eq_true h.1
theorem Cok.blt(c:Cok M g F k C X E)(h:qdb C x=true):Gl X x/\X.mg x=none/\(x==("__debug__" :Str))=false:=by unfold qdb at h;rw[Bool.and_eq_true] at h;exact⟨(c.gl h.1).1,c.gf.nb x h.2,(c.gl h.1).2⟩
theorem qnd{sc:Scope}(h:qme sc x=true):Vis sc x:=by
 unfold qme at h;split at h
 ·rename_i e;exact .inl e
 ·rename_i e;exact .inr (.inl e)
 ·rename_i e;exact .inr (.inr e)
 ·cases h
theorem qr2{sc:Scope}(h:qpA sc x=true):Loc sc x:=by
 unfold qpA at h;split at h
 ·rename_i e;exact .inl e
 ·rename_i e;exact .inr e
 ·cases h
theorem qqO(h:qqt C x=true):Loc C.sc x:=by
 unfold qqt at h;split at h
 ·rename_i e;exact .inl e
 ·rename_i e;exact .inr e
 ·cases h
theorem qpi(c:Cok M g F k C X E):PE X (.Name x pos) (tE M E (qab F (qqg g C x))):=by
 unfold qqg;split
 ·exact qak
 ·rename_i hd;have h1:(x==("__debug__" :Str))=false/\(x==("__classdict__" :Str))=false:=by simpa using hd
  split
  ·rename_i hv;split
   ·rename_i i hi;exact qsP (qnq (by rw[c.N];exact qbT hi) (by rw[c.sc];exact qnd hv) h1.1 h1.2)
   ·exact qak
  ·split
   ·rename_i hg;split
    ·rename_i t ht;obtain⟨v,u,m,r,rt⟩:=c.gf.cs x t ht;exact qsU (qcf (c.gl hg).1 m r h1.1) rt
    ·exact qak
   ·exact qak
theorem qaZ{f:Expr->CE}: ∀{es:List Expr},(∀e∈es,PE X e (tE M E (qab F (f e))))->es.all qao=true->PA X es (tA M E (runA F (es.map f)))
 |[],_,_=>qsY
 |e::es,h,hp=>by rw[List.all_cons,Bool.and_eq_true] at hp;exact qp3 (h e Vk) (qaZ (λe he=>h e (Vl _ he)) hp.2) (qbD hp.1)
theorem qlv(c:Cok M g F k C X E): ∀(n:Nat) (e:Expr),PG X e (tG M E (qb0 (cG C n e)))
 |0,e=>qko
 |n+1,e=>by
  have many: ∀es:List Expr,es.all qao=true->PGs X es (tGs M E (runGs (es.map (cG C n)))):=λes=>by
   induction es with
   |nil=>exactλ_=>qpW
   |cons e es ih=>intro h;rw[List.all_cons,Bool.and_eq_true] at h;exact qmB (qlv c n e) (ih h.2) (qqm h.1)
  cases e with
  |Name y p=>
   show PG X _ (tG M E (qb0 (if qqt C y then(match qla C.N y with|some i=>.n i|none=>.no) else .no)));split
   ·rename_i hl;split
    ·rename_i i hi;exact qvF (qoW (by rw[c.N];exact c.nd) (by rw[c.N];exact qbT hi) (by rw[c.sc];exact qqO hl) (by rw[c.sc];exact c.fn y hl))
    ·exact qko
   ·exact qko
  |Tuple ts kk p=>
   show PG X _ (tG M E (qb0 (if C.calm&&ts.all qao then .tup (ts.map (cG C n)) else .no)));split
   ·rename_i h;rw[Bool.and_eq_true] at h;have q:=qsN (k:=kk) (pos:=p) (c.cm h.1).1 (many ts h.2) c.K (n:=ts.length) qdW (qfX h.2);have e:(ts.map (cG C n)).length=ts.length:=List.length_map _;show PG X _ (tG M E (gT (ts.map (cG C n)).length _));rw[e];exact q
   ·exact qko
  |_=>exact qko
end
theorem qcG{M:Md}{g:Mu->T->T->Option Nv}:OkO M (rB M g) g:=λμ H B x y a b n Q h ra rb e k=>⟨μ,B,a,b,n,h,ra,rb,e,k⟩
section
variable {M:Md}{E:XK}{X:Cx}{a b c:Expr}{da db dc:DS0 T}{pos:Pos}{ow:Bool}
theorem bin_ok(hK:X.K=M.K){op:Operator}{o:O2}(h:quP op=some o):OpR X (binaryOp op) (rB M o.g):=by
 cases op<;>first|(cases h;done)|skip
 ·cases h;exact OpR.ok qpc (qrU hK)
 ·cases h;exact OpR.ok qrA qrM
 ·cases h;exact OpR.ok qo8 (qrO hK)
 ·cases h;exact OpR.ok qrE qrP
 ·cases h;exact OpR.ok qpa qrT
theorem qdP(hu:X.A.units+8<cLine)(hK:X.K=M.K)(op:CmpOp):OpR X (compareOp op) (rB M (qn1 op).g):=by
 cases op with
 |Eq=>exact OpR.ok (qrJ hu) (qrS hK)
 |NotEq=>exact OpR.ok (qrC hu) (qrS hK)
 |Lt=>exact OpR.ok qrF quK
 |LtE=>exact OpR.ok qrG quL
 |Gt=>exact OpR.ok quI quM
 |GtE=>exact OpR.ok quJ quN
 |Is=>exact OpR.ok qo9 (qrQ (neg:=false))
 |IsNot=>exact OpR.ok qh5 (qrQ (neg:=true))
 |In=>exact OpR.ok (qrI hu) (qrR hK)
 |NotIn=>exact OpR.ok (qjy hu) (qrR hK)
theorem qrN:OkU M (rU λi=>.int (-i)) qsr:=by
 refine⟨λt μ c m e=>(by cases t<;>cases e),λμ H B x t u μ' Q h r e k=> ?_⟩;cases t with
 |int i=>cases e;exact⟨i,qaf r,k _ H B h .refl qaL⟩
 |_=>cases e
theorem qsS(h:PE X a (tE M E da)):PE X (.UnaryOp .USub a pos) (tE M E (dU qsr da)):=PE.weak (quw qqC h) λσ H Q q=>qoc qrN q
theorem qdR{o p:O2}{σ:St}{H:Hp}{Q:VK}(h:tE M E (qnT o p da db dc) σ H Q):qi7 (rB M o.g) (rB M p.g) (tE M E da) (tE M E db) (tE M E dc) σ H Q:=by
 obtain⟨ρ,μ,B,ev,w⟩:=h;refine tE.of ev ((Wn.bind w).mono λx aa w1 v H1 B1 h1 l1 r1=> ?_);refine tE.of (ev.on h1 l1.le) ((Wn.bind w1).lift l1 λy af w2 u H2 B2 h2 l2 r2=> ?_);have d7:=l1.trans l2;have w2:=Wn.bind w2;obtain⟨z,m,q,w2⟩:=Wn.pl w2 (λc m=>qgn c m);have w2:=Wn.bind w2;obtain⟨kk,m',q',w3⟩:=Wn.pl w2 (λc m e=>by cases z<;>cases e);cases z with
 |bl z=>
  cases q';have kv:KE M H2 B2 (λz H3=> ∃k,z= .bl k/\if k=true then tE M E dc σ H3 λw' H4=>rB M p.g u w' H4 Q else Q (.bl false) H3) (.bl kk) m:=λzv H3 B3 h3 l3 r3=>by
   refine⟨kk,qbI r3,?_⟩;have w3:Wn M E H B (KE M H B Q) (if kk=true then _ else _):=w3;split at w3
   ·rename_i hk;rw[if_pos hk];have d6:=d7.trans l3;refine tE.of (ev.on h3 d6.le) ((Wn.bind w3).lift d6 λw' aZ w4 v4 H4 B4 h4 l4 r4=> ?_);obtain⟨c4,m4,q4,w5⟩:=Wn.pl w4 (λc m=>qgn c m);obtain⟨n,e,kv⟩:=qgm q4 (KE.le w5 (d6.trans l4));exact⟨aZ,B4,y,w',n,h4,(r2.mono l3.le).mono l4.le,r4,e,kv⟩
   ·rename_i hk;rw[if_neg hk];exact w3 _ H3 B3 h3 (d7.trans l3) qa4
  obtain⟨n,e,kv⟩:=qgm q kv;exact⟨af,B2,x,y,n,h2,r1.mono l2.le,r2,e,kv⟩
 |_=>cases q'
theorem qre{tc ta tb:TT}(hc:PT X c tc)(ha:PT X a ta)(hb:PT X b tb):PT X (.IfExp c a b pos) (λσ H Q=>tc σ H λk H1=>if k=true then ta σ H1 Q else tb σ H1 Q):=by
 intro pins s σ H Q I h;show wpAny _ _ (isTrue c X.env (eval c X.env)>>=λk=>if k=true then isTrue a X.env (eval a X.env) else isTrue b X.env (eval b X.env)) _ _ _;refine Va (thn (hc pins s σ H _ I h) λk s1 ⟨H1,I1,q⟩=> ?_);cases k with
 |true=>exact ha pins s1 σ H1 Q I1 q
 |false=>exact hb pins s1 σ H1 Q I1 q
theorem qqH:dTB (qmJ da)=qwL (dTB da):=by
 funext ρ μ
 show R.bind (R.bind (R.bind (da ρ μ) tbO) λc μ=>.ok (.bl (!c)) μ) tbO=R.bind (R.bind (da ρ μ) tbO) λc μ=>.ok (!c) μ;cases da ρ μ with
 |no|ex c m=>rfl
 |ok t m=>cases t<;>rfl
theorem qqI:dTB (qmL da db)=qwP (dTB da) (dTB db):=by
 funext ρ μ
 show R.bind (R.bind (R.bind (da ρ μ) tbO) λc μ=>(if c=true then db else dC (.bl false)) ρ μ) tbO=R.bind (R.bind (da ρ μ) tbO) λc μ=>(if c=true then dTB db else dBl false) ρ μ;cases da ρ μ with
 |no|ex c m=>rfl
 |ok t m=>cases t<;>first|rfl|(rename_i z;cases z<;>rfl)
theorem qtQ:dTB (qtI da db)=dOr (dTB da) (dTB db):=by
 funext ρ μ
 show R.bind (R.bind (R.bind (da ρ μ) tbO) λc μ=>(if c=true then dC (.bl true) else db) ρ μ) tbO=R.bind (R.bind (da ρ μ) tbO) λc μ=>(if c=true then dBl true else dTB db) ρ μ;cases da ρ μ with
 |no|ex c m=>rfl
 |ok t m=>cases t<;>first|rfl|(rename_i z;cases z<;>rfl)
theorem qtR{dt:DS0 Bool}:dTB (qiv dt da db)=qiv dt (dTB da) (dTB db):=by
 funext ρ μ
 show R.bind (R.bind (dt ρ μ) λc μ=>(if c=true then da else db) ρ μ) tbO=R.bind (dt ρ μ) λc μ=>(if c=true then dTB da else dTB db) ρ μ;cases dt ρ μ with
 |no|ex c m=>rfl
 |ok t m=>cases t<;>rfl
theorem qjF {env:Env} {o:Expr} {es:List Expr} {m:Str} {apos pos:Pos} (hb:qc0 o=true) (hp:es.all qao=true) (hl:es.length<30) (he:(apos.endLine==pos.line)=true):
  eval (.Call (.Attribute o m apos) es [] pos) env=(do
   let ov <-eval o env
   standAt apos.atName
   let (f,fi) <-holding [ov] (getMethod ov m (do return (<-importBound o env).getD true))
   callWith pos f fi (backTo pos (starEach es env)) (backToKw pos (keywordEach [] env))):=by
 have hf:methodCallForm (es.length+([]:List Keyword).length) (backTo pos (starEach es env)) (backToKw pos (keywordEach [] env))=true:=by have:=qnI (pos:=pos) (env:=env) hp hl;unfold methodCallForm;exact this
 show(attributeBase o m env (eval o env)>>=λov=>standAt apos.atName>>=λ_=>methodCall o m apos pos env ov (es.length+([]:List Keyword).length) (backTo pos (starEach es env)) (backToKw pos (keywordEach [] env)))=_;rw[qeL hb];unfold methodCall calleeOf methodCallPos;rw[hf];simp only[he,Bool.not_true,Bool.false_or,if_true];rfl
end
theorem qo1{X:Cx}:qaJ (CXE X.prog X.w) X E0:=λpins σ H s e s' I ⟨_,_,_,_,_,_,_,q⟩=>q.elim
structure Eo(M:Md)(g:Gx)(F:Fs)(k n:Nat):Prop where
 e: ∀C X E,Cok M g F k C X E->∀e,PE X e (tE M E (qab F (cE g n C e)))
 t: ∀C X E,Cok M g F k C X E->∀e,PT X e (tT M E (dTB (qab F (cE g n C e))))
 c: ∀C X E,Cok M g F k C X E->C.calm=true->∀f es p pp,es.all qao=true->qim C f=true->PE X (.Call (.Name f pp) es [] p) (tE M E (qab F (cCall g n C f es p)))
 i: ∀C X E,Cok M g F k C X E->∀tg it,PI X tg it (tI M E (runI F (cI g n C tg it)))
section
variable {M:Md}{g:Gx}{F:Fs}{k n:Nat}{C:Cc}{X:Cx}{E:XK}
theorem qmQ{C:Cc}{sc:Scope}:(qah C sc).1.N=(sc.names.filter λy=>decide (y.2= .local)&&y.1 != (".0" :Str)).map (·.1)++(qah C sc).2.map (·.1):=rfl
theorem qcx {sc:Scope} (h:qhv C sc=true):sc.kind= .function/\(∀y∈sc.names,y.2≠.cell)/\(∀y∈sc.names,y.2= .local->sc.names.lookup y.1=some .local)/\
  (∀y∈sc.names,y.2= .free->(C.sc.names.lookup y.1=some .cell\/C.sc.names.lookup y.1=some .free)/\sc.names.lookup y.1=some .free)/\(qah C sc).1.N.Nodup:=by unfold qhv at h;simp only[Bool.and_eq_true,List.all_eq_true,Bool.or_eq_true,decide_eq_true_eq] at h;obtain⟨⟨⟨⟨h1,h2⟩,h3⟩,h4⟩,h5⟩:=h;exact⟨h1,h2,λy hy e=>(h3 y hy).elim (λz=>absurd e z) id,λy hy e=>(h4 y hy).elim (λz=>absurd e z) id,h5⟩
theorem qmS {E':XK} {Y:Cx} {sc:Scope} (c:Cok M g F k C X E) (hc:C.calm=true) (h:qhv C sc=true) (hY: ∃fp s3 H3 xe,Y=(qas X sc ((sc.names.filter λy=>decide (y.2= .local)&&y.1 != (".0" :Str)).map (·.1)) (qah C sc).2 fp s3 H3).wish xe) (hp:qaJ (CXE X.prog X.w) Y E'):Cok M g F k (qah C sc).1 Y E':=by
 obtain⟨fp,s3,H3,xe,rfl⟩:=hY;obtain⟨h1,h2,h3,h4,h5⟩:=qcx h;refine⟨c.gf,c.K,rfl,h5,?_,λx hx=> ?_,c.un,λ_=>⟨(c.cm hc).1,(c.cm hc).2.1,hp⟩,(λz=>by cases z),λz=> ?_,λz=>by cases z⟩
 ·show relabel sc X.env=qty C sc;unfold relabel qty Env.kindOf;rw[c.sc]
 ·have hx:(match(qty C sc).names.lookup x with|some .local=>true|some .cell=>false|_=>false)=true:=hx;split at hx
  ·rename_i e;exact .inr e
  ·cases hx
  ·cases hx
 ·obtain⟨r,cc,P,q,l⟩:=c.lm z;exact⟨r,cc,P,q,l.cd,l.hd,l.bm,l.q,l.t,l.t'⟩
theorem qp5 (IH:Eo M g F k n) (c:Cok M g F k C X E) {x:Bool} (hx:x=false) {elt tg iter:Expr} {ifs:List Expr} {sc:Scope} {p:Pos}:
  PE X (.ListComp elt [⟨tg,iter,ifs,0⟩] sc p) (tE M E (qab F (cComp g (n+1) C x elt tg iter ifs sc p)))/\
  ∀(i:Nat) (y:Str) (py spos:Pos),x=false->X.N[i]? =some y->C.sc.names.lookup y=some .local->swapsWith (.ListComp elt [⟨tg,iter,ifs,0⟩] sc p) (some (.Name y py)) spos.line X.env=pure true->
   PS X (.Assign [.Name y py] (.ListComp elt [⟨tg,iter,ifs,0⟩] sc p) spos) (tS M E (qmI i (qab F (cComp g (n+1) C x elt tg iter ifs sc p)))):=by
 have no:PE X (.ListComp elt [⟨tg,iter,ifs,0⟩] sc p) (tE M E (qab F .no))/\∀(i:Nat) (y:Str) (py spos:Pos),x=false->X.N[i]? =some y->C.sc.names.lookup y=some .local->swapsWith (.ListComp elt [⟨tg,iter,ifs,0⟩] sc p) (some (.Name y py)) spos.line X.env=pure true->
   PS X (.Assign [.Name y py] (.ListComp elt [⟨tg,iter,ifs,0⟩] sc p) spos) (tS M E (qmI i (qab F .no))):=⟨qak,λ_ _ _ _ _ _ _ _ _ _ _ _ _ _ ⟨_,_,_,_,w⟩=>w.elim⟩
 unfold cComp;split
 case isFalse=>exact no
 rename_i cA;rw[Bool.and_eq_true] at cA;obtain⟨h1,h2,h3,h4,h5⟩:=qcx cA.2;obtain⟨cm,hr,ps⟩:=c.cm cA.1;have bj: ∀q∈(qah C sc).2,X.N[q.2]? =some q.1/\sc.names.lookup q.1=some .free:=λq hq=>by
  obtain⟨y,hy,e⟩:=List.mem_filterMap.mp hq;split at e
  ·rename_i hf;obtain⟨i,hi,rfl⟩:=qap e;exact⟨by rw[c.N];exact qbT hi,(h4 y hy hf).2⟩
  ·cases e
 have ah: ∀y∈sc.names,y.2= .free->X.env.kindOf y.1=some .cell\/X.env.kindOf y.1=some .free:=λy hy e=>by show X.env.scope.names.lookup _=_\/X.env.scope.names.lookup _=_;rw[c.sc];exact(h4 y hy e).1
 have hn:(qah C sc).1.N.length - (qah C sc).2.length=((sc.names.filter λy=>decide (y.2= .local)&&y.1 != (".0" :Str)).map (·.1)).length:=by rw[qmQ,List.length_append,List.length_map (f:=λx=>x.1) (as:=(qah C sc).2)];omega
 have go: ∀(tt:Option CE),(∀Y E',Cok M g F k (qah C sc).1 Y E'->qiE Y ifs (tT M E' (runT F tt)))->
   PE X (.ListComp elt [⟨tg,iter,ifs,0⟩] sc p) (tE M E (qab F (.comp (g.own p) x ((qah C sc).1.N.length - (qah C sc).2.length) ((qah C sc).2.map (·.2)) (cG (qah C sc).1 n tg) (cI g n C tg iter) tt (cE g n (qah C sc).1 elt))))/\
   ∀(i:Nat) (y:Str) (py spos:Pos),x=false->X.N[i]? =some y->C.sc.names.lookup y=some .local->swapsWith (.ListComp elt [⟨tg,iter,ifs,0⟩] sc p) (some (.Name y py)) spos.line X.env=pure true->
    PS X (.Assign [.Name y py] (.ListComp elt [⟨tg,iter,ifs,0⟩] sc p) spos) (tS M E (qmI i (qab F (.comp (g.own p) x ((qah C sc).1.N.length - (qah C sc).2.length) ((qah C sc).2.map (·.2)) (cG (qah C sc).1 n tg) (cI g n C tg iter) tt (cE g n (qah C sc).1 elt))))):=λtt ht=>by
  have bw:qbF iter=true\/cI g n C tg iter= .no:=by
   cases n with
   |zero=>exact .inr rfl
   |succ n=>
    cases z:qbF iter with
    |true=>exact .inl rfl
    |false=>exact .inr (by unfold cI;rw[z];exact if_neg (by decide))
  rw[hn]
  rcases bw with bw|bw
  ·have hi:=IH.i C X E c tg iter;have iR: ∀(fp:List Addr) (s3:Shared) (H3:Hp),PG (qas X sc ((sc.names.filter λy=>decide (y.2= .local)&&y.1 != (".0" :Str)).map (·.1)) (qah C sc).2 fp s3 H3) tg (tG M E0 (qb0 (cG (qah C sc).1 n tg)))/\qiE (qas X sc ((sc.names.filter λy=>decide (y.2= .local)&&y.1 != (".0" :Str)).map (·.1)) (qah C sc).2 fp s3 H3) ifs (tT M E0 (runT F tt))/\PE (qas X sc ((sc.names.filter λy=>decide (y.2= .local)&&y.1 != (".0" :Str)).map (·.1)) (qah C sc).2 fp s3 H3) elt (tE M E0 (qab F (cE g n (qah C sc).1 elt))):=λfp s3 H3=>by have cc:=qmS (E':=E0) (Y:=qas X sc ((sc.names.filter λy=>decide (y.2= .local)&&y.1 != (".0" :Str)).map (·.1)) (qah C sc).2 fp s3 H3) c cA.1 cA.2 ⟨fp,s3,H3,λ_ _=>False,rfl⟩ qo1;exact⟨qlv cc n tg,ht _ _ cc,IH.e _ _ _ cc elt⟩
   refine⟨?_,λi y py spos hx0 hy hl bu=> ?_⟩
   ·show PE X _ (tE M E (qit (g.own p) _));have dn:PE X (.ListComp elt [⟨tg,iter,ifs,0⟩] sc p) (tN M E (qck x ((sc.names.filter λy=>decide (y.2= .local)&&y.1 != (".0" :Str)).map (·.1)).length ((qah C sc).2.map (·.2)) (runI F (cI g n C tg iter)) (qb0 (cG (qah C sc).1 n tg)) (runT F tt) (qab F (cE g n (qah C sc).1 elt)))):=by
     cases x with
     |false=>exact qpT cm hi h1 h2 h3 ah bj iR (qer bw)
     |true=>cases hx
    unfold qit;split
    ·exact qpX dn
    ·exact qp1 dn
   ·subst hx0;have:=qis (ow:=g.own p) (py:=py) (spos:=spos) cm hi h1 h2 h3 ah bj iR (by rw[c.N];exact c.nd) hy (by rw[c.sc];exact hl) bu (qer bw);exact this
  ·rw[bw];have e: ∀ow,(qit ow (qck x ((sc.names.filter λy=>decide (y.2= .local)&&y.1 != (".0" :Str)).map (·.1)).length ((qah C sc).2.map (·.2)) dNo (qb0 (cG (qah C sc).1 n tg)) (runT F tt) (qab F (cE g n (qah C sc).1 elt))))=dNo:=λow=>by
    unfold qit
    split<;>rfl
   show PE X _ (tE M E (qit _ (qck x _ _ dNo _ _ _)))/\∀(i:Nat) (y:Str) (py spos:Pos),_->_->_->_->PS X _ (tS M E (qmI i (qit _ (qck x _ _ dNo _ _ _))));rw[e];exact no
 rcases ifs with _|⟨t,_|⟨u,r⟩⟩
 ·exact go none λY E' cc=>qlL
 ·exact go (some (cE g n (qah C sc).1 t)) λY E' cc=>qrn (IH.t _ _ _ cc t)
 ·exact no
end
section
variable {M:Md}{g:Gx}{F:Fs}{k n:Nat}{C:Cc}{X:Cx}{E:XK}
theorem qvZ{x:Str}{b:Bn}(h:qtk x=some b):x=b.nm:=by have:=List.find?_some h;exact(eq_of_beq this).symm
theorem qm4{x:Str}{ty:String}{b:Bm}(h:qqj x ty=some b):x=b.nm:=by have:=List.find?_some h;rw[Bool.and_eq_true] at this;exact(eq_of_beq this.1).symm
theorem qtO{x:Str}{N:String}(h:qv7 x=some N):x=Str.ofString N/\N∈["int", "bool", "str", "tuple", "list"]:=⟨(eq_of_beq (List.find?_some (p:=λN=>Str.ofString N==x) h)).symm,List.mem_of_find?_eq_some h⟩
theorem quU{m c:Str}{i:Nat}(h:(g.ms m).lookup c=some i):(c,i)∈g.ms m:=by
 generalize g.ms m=l at h⊢
 induction l with
 |nil=>cases h
 |cons q l ih=>
  obtain⟨y,j⟩:=q;rw[List.lookup_cons] at h;cases z:c==y with
  |true=>rw[z] at h;cases h;rw[eq_of_beq z];exact Vk
  |false=>rw[z] at h;exact Vl _ (ih h)
theorem qqf(IH:Eo M g F k n)(c:Cok M g F k C X E)(hc:C.calm=true){f:Str}{es:List Expr}{p pp:Pos}(hp:es.all qao=true)(hg:qim C f=true):PE X (.Call (.Name f pp) es [] p) (tE M E (qab F (cCall g (n+1) C f es p))):=by
 obtain⟨cm,hr,ps⟩:=c.cm hc;obtain⟨gl,hd⟩:=c.gl hg;have args: ∀es:List Expr,es.all qao=true->PA X es (tA M E (runA F (es.map (cE g n C)))):=λes h=>qaZ (λe _=>IH.e C X E c e) h;have bn: ∀{es:List Expr},es.all qao=true->es≠[]->qdb C f=true->PE X (.Call (.Name f pp) es [] p) (tE M E (qab F (match qtk f with|some b=>.bn (g.own p) b (es.map (cE g n C))|none=>.no))):=λ{es} hp hn hb=>by
  split
  ·rename_i b eb;have e:=qvZ eb;subst e;cases es with
   |nil=>exact absurd rfl hn
   |cons e es=>have aj:=hp;rw[List.all_cons,Bool.and_eq_true] at aj;obtain⟨b1,b2,b3⟩:=c.blt hb;exact qvJ b c.un cm c.K b1 b2 (args _ hp) (qbD aj.1) (qbf aj.2)
  ·exact qak
 unfold cCall;split
 ·rename_i hf;have hf:=eq_of_beq hf;subst hf;split
  ·rename_i a body sc lp;split
   ·rename_i ht;rw[Bool.and_eq_true,Bool.not_eq_true'] at ht;exact qak
   ·exact qak
  ·exact qak
 split
 ·exact qak
 ·rename_i cZ;have cZ:f.cps.contains 46=false:=by simpa using cZ
  split
  ·rename_i i hi;obtain⟨fa,fd,cL,m,kp,bd,fo⟩:=c.gf.fn f i hi cZ;have eY:qcL X.prog X.w X.K X.mg X.base (CXE X.prog X.w) (8*k) fa fd cL (spF M (F i)):=by rw[c.K];exact fo
   cases es with
   |nil=>exact qmH eY (hr.mono (by omega)) gl m (by rw[c.K];exact kp) (by rw[c.K];exact bd) ps hd
   |cons e es=>have aj:=hp;rw[List.all_cons,Bool.and_eq_true] at aj;exact qp2 eY (hr.mono (by omega)) gl m (by rw[c.K];exact kp) (by rw[c.K];exact bd) ps (args _ hp) hd (qbD aj.1) (qbf aj.2)
  ·split
   ·rename_i c8;split
    ·rename_i i hi;obtain⟨fa,fd,cL,m,mk,fo,bd⟩:=c.gf.mkc f i c8 hi;have eY:qcL X.prog X.w X.K X.mg X.base (CXE X.prog X.w) (8*k) fa fd cL (spF M (F i)):=by rw[c.K];exact fo
     cases es with
     |nil=>exact qmF rfl (by rw[c.K];exact mk) eY hr gl m (by rw[c.K];exact bd) ps hd
     |cons e es=>have aj:=hp;rw[List.all_cons,Bool.and_eq_true] at aj;exact qpZ rfl (by rw[c.K];exact mk) eY hr gl m (by rw[c.K];exact bd) ps (args _ hp) hd (qbD aj.1) (qbf aj.2)
    ·exact qak
   ·split
    ·rename_i hb;split
     ·rename_i e x xp;split
      ·rename_i hf;have hf:=eq_of_beq hf;subst hf;split
       ·rename_i N hN;split
        ·rename_i hb2;obtain⟨e1,e2⟩:=qtO hN;obtain⟨b1,b2,b3⟩:=c.blt hb;obtain⟨d1,d2,d3⟩:=c.blt hb2;rw[List.all_cons,Bool.and_eq_true] at hp;exact qp0 e2 e1 c.K b1 b2 d1 d2 (IH.e C X E c e) (qbD hp.1) (qbD rfl) (qbf hp.2)
        ·exact qak
       ·exact qak
      ·exact bn hp (by simp) hb
     ·rename_i s sp a ap;split
      ·rename_i hs;simp only[Bool.and_eq_true] at hs;have es:=eq_of_beq hs.1.1;subst es;obtain⟨d1,d2,d3⟩:=c.blt hs.1.2;obtain⟨b1,b2,b3⟩:=c.blt hb;split
       ·rename_i hf;have hf:=eq_of_beq hf;subst hf;exact qak
       ·split
        ·rename_i hf;have hf:=eq_of_beq hf;subst hf;exact qak
        ·exact qak
      ·exact bn hp (by simp) hb
     ·exact qak
     ·rename_i h1 h2 h3;exact bn hp h3 hb
    ·exact qak
theorem qu6(IH:Eo M g F k n)(c:Cok M g F k C X E)(tg e:Expr):PI X tg e (tI M E (runI F (cI g (n+1) C tg e))):=by
 have gen:PI X tg e (tI M E (runI F (.gen (cE g n C e)))):=qsM (IH.e C X E c e) c.K;unfold cI;split
 case isFalse=>exact qeD
 split
 ·rename_i f fp es p _;split
  ·rename_i hf;have hf:=eq_of_beq hf;subst hf;split
   ·rename_i hb;rw[Bool.and_eq_true] at hb;obtain⟨b1,b2,b3⟩:=c.blt hb.1;have args:PA X es (tA M E (runA F (es.map (cE g n C)))):=qaZ (λe _=>IH.e C X E c e) hb.2;have hp:=hb.2;split
    ·rename_i a;rw[List.all_cons,Bool.and_eq_true] at hp;exact qkn b1 b2 args (qbD hp.1)
    ·rename_i a b;rw[List.all_cons,Bool.and_eq_true,List.all_cons,Bool.and_eq_true] at hp;exact qkm b1 b2 args (by rw[qbD hp.1,qbD hp.2.1];rfl) (by rw[qbD hp.2.1];rfl)
    ·exact qeD
   ·exact qeD
  ·split
   ·rename_i hf;have hf:=eq_of_beq hf;subst hf;split
    ·rename_i hb;simp only[Bool.and_eq_true] at hb;obtain⟨b1,b2,b3⟩:=c.blt hb.1.1;have args:PA X es (tA M E (runA F (es.map (cE g n C)))):=qaZ (λe _=>IH.e C X E c e) hb.1.2;have hp:=hb.1.2;have ht:=hb.2;cases tg with
     |Tuple ts kk tp=>
      split
      ·rename_i a;rw[List.all_cons,Bool.and_eq_true] at hp;exact qeD
      ·exact qeD
     |_=>cases ht
    ·exact qeD
   ·split
    ·rename_i hf;have hf:=eq_of_beq hf;subst hf;split
     ·rename_i hb;simp only[Bool.and_eq_true] at hb;obtain⟨b1,b2,b3⟩:=c.blt hb.1.1;have args:PA X es (tA M E (runA F (es.map (cE g n C)))):=qaZ (λe _=>IH.e C X E c e) hb.1.2;have hp:=hb.1.2;have ht:=hb.2;cases tg with
      |Tuple ts kk tp=>
       split
       ·rename_i a b;rw[List.all_cons,Bool.and_eq_true] at hp;exact qsL b1 b2 args c.K (qbD hp.1) (qbf hp.2)
       ·exact qeD
      |_=>cases ht
     ·exact qeD
    ·exact gen
 ·exact gen
end
section
variable {M:Md}{g:Gx}{F:Fs}{k n:Nat}{C:Cc}{X:Cx}{E:XK}
theorem qn3{f:Expr->CE}{pos:Pos}(h: ∀e,PE X e (tE M E (qab F (f e)))): ∀es:List Expr,PE X (.BoolOp .And es pos) (tE M E (qab F (qhN (es.map f))))
 |[]=>qak
 |[a]=>h a
 |a::b::r=>qsW (h a) (qn3 h (b::r))
theorem qrz{f:Expr->CE}{pos:Pos}(h: ∀e,PE X e (tE M E (qab F (f e)))): ∀es:List Expr,PE X (.BoolOp .Or es pos) (tE M E (qab F (qlY (es.map f))))
 |[]=>qak
 |[a]=>h a
 |a::b::r=>qvH (h a) (qrz h (b::r))
theorem qk1{f:Expr->CE}{pos:Pos}(h: ∀e,PT X e (tT M E (dTB (qab F (f e))))): ∀es:List Expr,PW X (.BoolOp .And es pos) (tT M E (dTB (qab F (qhN (es.map f)))))
 |[]=>λ_ _ _ _ _ _ _ ⟨_,_,_,_,w⟩=>w.elim
 |[a]=>qpN (h a)
 |a::b::r=>by show PW X _ (tT M E (dTB (qmL _ _)));rw[qqI];exact qsB (h a) (qk1 h (b::r))
theorem qns{f:Expr->CE}{pos:Pos}(h: ∀e,PT X e (tT M E (dTB (qab F (f e))))): ∀es:List Expr,PW X (.BoolOp .Or es pos) (tT M E (dTB (qab F (qlY (es.map f)))))
 |[]=>λ_ _ _ _ _ _ _ ⟨_,_,_,_,w⟩=>w.elim
 |[a]=>qsA (h a)
 |a::b::r=>by show PW X _ (tT M E (dTB (qtI _ _)));rw[qtQ];exact qvC (h a) (qns h (b::r))
theorem qhe{f:Expr->CE}(h: ∀e,PE X e (tE M E (qab F (f e)))): ∀o:Option Expr,PO X o (tO M E (runO F (o.map f)))
 |none=>qpS
 |some e=>qkk (h e)
theorem qpn (IH:Eo M g F k n) (c:Cok M g F k C X E) {o:Expr} {m:Str} {ap p:Pos} {es:List Expr} (h:(qc0 o&&es.all qao&&decide (es.length<30))=true) (hl:(ap.endLine==p.line)=true):
  PE X (.Call (.Attribute o m ap) es [] p) (tE M E (qab F (match qqj m "list",qqj m "dict" with
     |some b,some d=>.alt (.bm (g.own p) b (cE g n C o) (es.map (cE g n C))) (.bm (g.own p) d (cE g n C o) (es.map (cE g n C)))
     |some b,none=>.bm (g.own p) b (cE g n C o) (es.map (cE g n C))
     |none,some d=>.bm (g.own p) d (cE g n C o) (es.map (cE g n C))
     |none,none=>if C.calm then .mth (g.ms m) m (cE g n C o) (es.map (cE g n C)) else .no))):=by
 simp only[Bool.and_eq_true,decide_eq_true_eq] at h;obtain⟨⟨h1,h2⟩,h3⟩:=h;have args:PA X es (tA M E (runA F (es.map (cE g n C)))):=qaZ (λe _=>IH.e C X E c e) h2;have bm: ∀b:Bm,m=b.nm->PE X (.Call (.Attribute o m ap) es [] p) (tE M E (qab F (.bm (g.own p) b (cE g n C o) (es.map (cE g n C))))):=λb e=>by
  subst e;cases es with
  |nil=>exact qsV b c.un c.K (IH.e C X E c o) (qeL h1) hl
  |cons e es=>have aj:=h2;rw[List.all_cons,Bool.and_eq_true] at aj;exact qvK b c.un c.K (IH.e C X E c o) args (qeL h1) (qnI h2 h3) hl (qbD aj.1) (qbf aj.2)
 split
 ·rename_i e1 e2;exact qsX (bm _ (qm4 e1)) (bm _ (qm4 e2))
 ·rename_i e1 e2;exact bm _ (qm4 e1)
 ·rename_i e1 e2;exact bm _ (qm4 e2)
 ·split
  ·rename_i hc;obtain⟨cm,hr,ps⟩:=c.cm hc;have hM: ∀c' f,((g.ms m).lookup c').map F=some f->qds X (CXE X.prog X.w) (clA M.K c') m (spF M f):=λc' f e=>by obtain⟨i,e1,rfl⟩:=qap e;obtain⟨fa,fd,cL,a1,a2,a3,a4⟩:=c.gf.mt m c' i (quU e1);exact⟨fa,fd,cL,8*k,by rw[c.K];exact a1,by rw[c.K];exact a2,by rw[c.K];exact a3,hr.mono (by omega),by rw[c.K];exact a4⟩
   cases es with
   |nil=>exact qmE hM (IH.e C X E c o) ps (qjF h1 h2 h3 hl)
   |cons e es=>have aj:=h2;rw[List.all_cons,Bool.and_eq_true] at aj;exact qpY hM (IH.e C X E c o) ps args (qbD aj.1) (qbf aj.2) (qjF h1 h2 h3 hl)
  ·exact qak
theorem qcO{b:Expr}{tbl:List (Str×Str)}(h:qoh g C b=some tbl): ∃D p,b= .Name D p/\qim C D=true/\g.dt.lookup D=some tbl:=by
 cases b with
 |Name D p=>
  have h:(if qim C D then g.dt.lookup D else none)=some tbl:=h;split at h
  ·rename_i q;exact⟨D,p,rfl,q,h⟩
  ·cases h
 |_=>cases h
theorem qfd{o:CmpOp}{neg:Bool}(h:qrY o=some neg):o=if neg=true then .NotIn else .In:=by cases o<;>first|(cases h;done)|(cases h;rfl)
theorem qp9(c:Cok M g F k C X E){o:CmpOp}{a b:Expr}{ca cb:CE}{pos:Pos}(ha:PE X a (tE M E (qab F ca)))(hb:PE X b (tE M E (qab F cb)))(h:qbF b=true):PE X (.Compare a [o] [b] pos) (tE M E (qab F (qqh g C o b ca cb))):=by
 unfold qqh;split
 ·rename_i tbl neg e1 e2;obtain⟨D,p,rfl,hg,hd⟩:=qcO e1;obtain⟨gl,aC⟩:=c.gl hg;rw[qfd e2];exact qmC (by rw[c.K];exact c.gf.dt D tbl hd) gl ha aC neg
 ·exact PE.weak (qgh (qdP c.un c.K _) ha hb (qhi h)) λ_ _ _ q=>qep qcG.b q
theorem qmU(c:Cok M g F k C X E){o:CmpOp}{a b:Expr}{ca cb:CE}{pos:Pos}(ha:PE X a (tE M E (qab F ca)))(hb:PE X b (tE M E (qab F cb)))(h:qbF b=true):PT X (.Compare a [o] [b] pos) (tT M E (dTB (qab F (qqh g C o b ca cb)))):=by
 unfold qqh;split
 ·rename_i tbl neg e1 e2;obtain⟨D,p,rfl,hg,hd⟩:=qcO e1;obtain⟨gl,aC⟩:=c.gl hg;rw[qfd e2];exact qmv (by rw[c.K];exact c.gf.dt D tbl hd) gl ha aC neg
 ·exact PT.weak (qge (qdP c.un c.K o) ha hb (qhi h)) λ_ _ _ q=>qep qcG.b (qcP q)
theorem qsd(c:Cok M g F k C X E){ow:Bool}{a b:Expr}{ca cb:CE}{pos:Pos}(ha:PE X a (tE M E (qab F ca)))(hb:PE X b (tE M E (qab F cb)))(h:qjC b=true):PE X (.Subscript a b pos) (tE M E (qab F (cIx g C ow a b ca cb))):=by
 unfold cIx;split
 ·rename_i tbl e1;obtain⟨D,p,rfl,hg,hd⟩:=qcO e1;obtain⟨gl,aC⟩:=c.gl hg;exact qkp (by rw[c.K];exact c.gf.dt D tbl hd) gl hb c.K (λ_ _=>by cases b<;>first|rfl|cases h) aC
 ·exact PE.weak (quz (qxr (by have:=c.un;omega) c.K) ha hb (qh7 h)) λ_ _ _ q=>qep qcG.b q
theorem qsu{x:Str}{i:Nat}(h:g.fns.lookup x=some i):g.fi x=some i/\x.cps.contains 46=false:=by
 have hm:(x,i)∈g.fns:=by
  generalize g.fns=l at h
  induction l with
  |nil=>cases h
  |cons q l ih=>
   obtain⟨y,j⟩:=q;rw[List.lookup_cons] at h;cases z:x==y with
   |true=>rw[z] at h;cases h;rw[eq_of_beq z];exact Vk
   |false=>rw[z] at h;exact Vl _ (ih h)
 obtain⟨j,_,e⟩:=List.mem_filterMap.mp hm;obtain⟨p,e1,e2⟩:=bind_some e;split at e2
 ·cases e2
 ·rename_i hn;split at e2
  ·rename_i hf;cases e2;exact⟨hf,by simpa using hn⟩
  ·cases e2
theorem qmZ(IH:Eo M g F k n)(c:Cok M g F k C X E){f:Str}{es:List Expr}{p pp:Pos}(hp:es.all qao=true)(hc:C.calm=true):PE X (.Call (.Name f pp) es [] p) (tE M E (qab F (qhJ g C f (es.map (cE g n C))))):=by
 obtain⟨cm,hr,ps⟩:=c.cm hc;unfold qhJ;split
 ·exact qak
 ·rename_i hd;have hd:((f==("__debug__" :Str))=false/\(f==("__classdict__" :Str))=false)/\(es.map (cE g n C)).isEmpty=false:=by simpa only[Bool.or_eq_true,not_or,Bool.not_eq_true] using hd
  split
  ·rename_i hv;split
   ·rename_i i hi;cases es with
    |nil=>cases hd.2
    |cons e es=>have aj:=hp;rw[List.all_cons,Bool.and_eq_true] at aj;refine qmG (kk:=8*k) (λy fT e=> ?_) c.K (hr.mono (by omega)) (qnq (by rw[c.N];exact qbT hi) (by rw[c.sc];exact qnd hv) hd.1.1 hd.1.2) ps (qaZ (λe _=>IH.e C X E c e) hp) (qbD aj.1) (qbf aj.2);obtain⟨j,e1,rfl⟩:=qap e;obtain⟨h1,h2⟩:=qsu e1;obtain⟨fa,fd,cL,m,kp,bd,fo⟩:=c.gf.fn y j h1 h2;exact⟨fa,fd,cL,m,by rw[c.K];exact kp,by rw[c.K];exact bd,by rw[c.K];exact fo⟩
   ·exact qak
  ·exact qak
theorem qxX(IH:Eo M g F k n)(eV: ∀C X E,Cok M g F k C X E->∀(x:Bool),x=false->∀elt tg iter ifs sc p,PE X (.ListComp elt [⟨tg,iter,ifs,0⟩] sc p) (tE M E (qab F (cComp g n C x elt tg iter ifs sc p))))(c:Cok M g F k C X E)(e:Expr):PE X e (tE M E (qab F (cE g (n+1) C e))):=by
 have ih:=IH.e C X E c;have cx:=IH.t C X E c;cases e with
 |Constant cc kk p=>
  cases cc with
  |none=>exact qsU qrs λB=>qct
  |bool b=>exact qsU quB λB=>qa4
  |int i=>exact qsU qru λB=>qaL
  |str s=>exact qsU qnr λB=>qcs
  |_=>exact qak
 |Name x p=>exact qpi c
 |Tuple es kk p=>
  show PE X _ (tE M E (qab F (if es.all qao then .tup (es.map (cE g n C)) else .no)));split
  ·rename_i h;exact qsQ (qaZ (λe _=>ih e) h)
  ·exact qak
 |List es p=>
  show PE X _ (tE M E (qab F (if es.all qao then .lst (g.own p) (es.map (cE g n C)) else .no)));split
  ·rename_i h;show PE X _ (tE M E (qit _ _));unfold qit;split
   ·exact qpX (qnN (qaZ (λe _=>ih e) h))
   ·exact qp1 (qnN (qaZ (λe _=>ih e) h))
  ·exact qak
 |Dict ks vs p=>
  cases ks with
  |nil=>
   cases vs with
   |nil=>
    show PE X _ (tE M E (qit _ _));unfold qit;split
    ·exact qpX qkl
    ·exact qp1 qkl
   |cons _ _=>exact qak
  |cons _ _=>exact qak
 |BinOp a op b p=>
  show PE X _ (tE M E (qab F (match quP op with|some o=>.o2 (g.own p) o (cE g n C a) (cE g n C b)|none=>.no)));split
  ·rename_i o ho;exact PE.weak (quy (bin_ok c.K ho) (ih _) (ih _)) λ_ _ _ q=>qep qcG.b q
  ·exact qak
 |UnaryOp op a p=>
  cases op with
  |Not=>exact qsR (ih _)
  |USub=>exact qsS (ih _)
  |_=>exact qak
 |BoolOp op es p=>
  cases op with
  |And=>exact qn3 ih _
  |Or=>exact qrz ih _
 |IfExp t a b p=>exact qvI (cx _) (ih _) (ih _)
 |Compare a ops bs p=>
  match ops,bs with
  |[o],[b]=>
   show PE X _ (tE M E (qab F (if qbF b then qqh g C o b (cE g n C a) (cE g n C b) else .no)));split
   ·rename_i h;exact qp9 c (ih _) (ih _) h
   ·exact qak
  |[o,q],[b,d]=>
   show PE X _ (tE M E (qab F (if qbF d then .chain (qn1 o) (qn1 q) (cE g n C a) (cE g n C b) (cE g n C d) else .no)));split
   ·rename_i h;exact PE.weak (qlV (qdP c.un c.K _) (qdP c.un c.K _) (ih _) (ih _) (ih _) (qdF h)) λ_ _ _ q=>qdR q
   ·exact qak
  |[],_=>exact qak
  |[o],[]=>exact qak
  |[o],_::_::_=>exact qak
  |[o,q],[]=>exact qak
  |[o,q],[_]=>exact qak
  |[o,q],_::_::_::_=>exact qak
  |_::_::_::_,_=>exact qak
 |Subscript a b p=>
  cases b with
  |Slice lo hi st q=>
   cases st with
   |none=>exact qmD c.K (ih _) (qhe ih _) (qhe ih _)
   |some st=>exact qkq c.K (ih _) (qhe ih _) (qhe ih _) (qkk (ih _))
  |_=>exact qsd c (ih _) (ih _) rfl
 |Attribute a f p=>
  show PE X _ (tE M E (qab F (if qc0 a then .fld (g.fls f) f (cE g n C a) else .no)));split
  ·rename_i h;exact qsT c.K (λc' cB=>c.gf.fl _ c' cB) (ih _) (qeL h)
  ·exact qak
 |Call f es cv p=>
  cases f with
  |Attribute o m ap=>
   cases cv with
   |nil=>
    show PE X _ (tE M E (qab F (if(qc0 o&&es.all qao&&decide (es.length<30))&&ap.endLine==p.line then
    (match qqj m "list",qqj m "dict" with
     |some b,some d=>.alt (.bm (g.own p) b (cE g n C o) (es.map (cE g n C))) (.bm (g.own p) d (cE g n C o) (es.map (cE g n C)))
     |some b,none=>.bm (g.own p) b (cE g n C o) (es.map (cE g n C))
     |none,some d=>.bm (g.own p) d (cE g n C o) (es.map (cE g n C))
     |none,none=>if C.calm then .mth (g.ms m) m (cE g n C o) (es.map (cE g n C)) else .no) else .no)))
    split
    ·rename_i h;rw[Bool.and_eq_true] at h;exact qpn IH c h.1 h.2
    ·exact qak
   |cons _ _=>exact qak
  |Name f fp=>
   cases cv with
   |nil=>
    have go:PE X (.Call (.Name f fp) es [] p) (tE M E (qab F (if(es.all qao&&C.calm)&&qim C f then cCall g n C f es p else if es.all qao&&C.calm then qhJ g C f (es.map (cE g n C)) else .no))):=by
     split
     ·rename_i h;simp only[Bool.and_eq_true] at h;exact IH.c C X E c h.1.2 _ _ _ _ h.1.1 h.2
     ·split
      ·rename_i h;rw[Bool.and_eq_true] at h;exact qmZ IH c h.1 h.2
      ·exact qak
    match es,go with
    |[],go=>exact go
    |[_],go=>exact go
    |_::_::_,go=>exact go
   |cons kw cv=>
    obtain⟨ka,v,kp⟩:=kw
    match es with
    |[]=>exact qak
    |_::_::_=>exact qak
    |[e]=>
     cases ka with
     |none=>cases cv<;>exact qak
     |some kw=>
      cases v with
      |Lambda a body sc lp=>
       cases cv with
       |nil=>
        show PE X _ (tE M E (qab F (if f== "sorted" &&kw== "key" &&qdb C f&&qao e then(match qjN C a sc with
    |some x=>(match qwA x body with|some b=>.no|none=>.no)
    | none=>.no) else .no)))
        split
        ·rename_i h;split
         ·rename_i x hx;split
          ·rename_i b hb;exact qak
          ·exact qak
         ·exact qak
        ·exact qak
       |cons _ _=>exact qak
      |_=>cases cv<;>exact qak
  |_=>exact qak
 |ListComp elt gs sc p=>
  cases gs with
  |nil=>exact qak
  |cons gg gs=>
   obtain⟨tg,iter,ifs,as⟩:=gg;cases gs with
   |nil=>
    cases as with
    |ofNat m=>
     cases m with
     |zero=>exact eV C X E c _ rfl _ _ _ _ _ _
     |succ m=>exact qak
    |negSucc m=>exact qak
   |cons _ _=>
    cases as with
    |ofNat m=>cases m<;>exact qak
    |negSucc m=>exact qak
 |_=>exact qak
theorem qw2(IH:Eo M g F k n)(he:PE X e (tE M E (qab F (cE g (n+1) C e))))(c:Cok M g F k C X E):PT X e (tT M E (dTB (qab F (cE g (n+1) C e)))):=by
 have ih:=IH.e C X E c;have cx:=IH.t C X E c;cases e with
 |UnaryOp op a p=>
  cases op with
  |Not=>show PT X _ (tT M E (dTB (qmJ _)));rw[qqH];exact qsD (cx a)
  |_=>exact qnM he λ_=>rfl
 |BoolOp op es p=>
  cases op with
  |And=>exact(qk1 cx es).pt
  |Or=>exact(qns cx es).pt
 |IfExp t a b p=>show PT X _ (tT M E (dTB (qiv _ _ _)));rw[qtR];exact PT.weak (qre (cx t) (cx a) (cx b)) λ_ _ _ q=>qex q
 |Compare a ops bs p=>
  have no:PT X (.Compare a ops bs p) (tT M E (dTB (qab F .no))):=λ_ _ _ _ _ _ ⟨_,_,_,_,w⟩=>w.elim
  match ops,bs,no with
  |[o],[b],no=>
   show PT X _ (tT M E (dTB (qab F (if qbF b then qqh g C o b (cE g n C a) (cE g n C b) else .no))));split
   ·rename_i h;exact qmU c (ih a) (ih b) h
   ·exact no
  |[o,q],[b,d],no=>
   show PT X _ (tT M E (dTB (qab F (if qbF d then .chain (qn1 o) (qn1 q) (cE g n C a) (cE g n C b) (cE g n C d) else .no))));split
   ·rename_i h;exact PT.weak (qlH (qdP c.un c.K o) (qdP c.un c.K q) (ih a) (ih b) (ih d) (qdF h)) λ_ _ _ q=>qdR (qcP q)
   ·exact no
  |[],_,no=>exact no
  |[o],[],no=>exact no
  |[o],_::_::_,no=>exact no
  |[o,q],[],no=>exact no
  |[o,q],[_],no=>exact no
  |[o,q],_::_::_::_,no=>exact no
  |_::_::_::_,_,no=>exact no
 |_=>exact qnM he λ_=>rfl
theorem qki (M:Md) (g:Gx) (F:Fs) (k:Nat): ∀n,Eo M g F k n/\(∀C X E,Cok M g F k C X E->∀(x:Bool),x=false->∀elt tg iter ifs sc p,PE X (.ListComp elt [⟨tg,iter,ifs,0⟩] sc p) (tE M E (qab F (cComp g n C x elt tg iter ifs sc p)))/\
  ∀(i:Nat) (y:Str) (py spos:Pos),x=false->X.N[i]? =some y->C.sc.names.lookup y=some .local->swapsWith (.ListComp elt [⟨tg,iter,ifs,0⟩] sc p) (some (.Name y py)) spos.line X.env=pure true->
   PS X (.Assign [.Name y py] (.ListComp elt [⟨tg,iter,ifs,0⟩] sc p) spos) (tS M E (qmI i (qab F (cComp g n C x elt tg iter ifs sc p)))))
 |0=>⟨⟨λC X E c e=>qak,λC X E c e _ _ _ _ _ _ ⟨_,_,_,_,w⟩=>w.elim,λC X E c _ f es p pp _ _=>qak,λC X E c tg it=>qeD⟩,λC X E c x hx elt tg iter ifs sc p=>⟨qak,λ_ _ _ _ _ _ _ _ _ _ _ _ _ _ ⟨_,_,_,_,w⟩=>w.elim⟩⟩
 |n+1=>by obtain⟨IH,hc⟩:=qki M g F k n;have he: ∀C X E,Cok M g F k C X E->∀e,PE X e (tE M E (qab F (cE g (n+1) C e))):=λC X E c e=>qxX IH (λC X E c x hx elt tg iter ifs sc p=>(hc C X E c x hx elt tg iter ifs sc p).1) c e;exact⟨⟨he,λC X E c e=>qw2 IH (he C X E c e) c,λC X E c hc f es p pp hp hg=>qqf IH c hc hp hg,λC X E c tg it=>qu6 IH c tg it⟩,λC X E c x hx elt tg iter ifs sc p=>qp5 IH c hx⟩
end
section
variable {M:Md}{g:Gx}{F:Fs}{k n:Nat}{C:Cc}{X:Cx}{E:XK}
theorem qvA{x:Str}(h:(g.ex.map (·.1)).contains x=true): ∃bs,(x,bs)∈g.ex:=by rw[List.contains_iff_mem] at h;obtain⟨p,hp,rfl⟩:=List.mem_map.mp h;exact⟨p.2,hp⟩
theorem qgW{is:List Nat}{ts:List T}{ρ ρ':Ro}(h:qbh is ts ρ=some ρ'):is.length=ts.length:=by
 induction is generalizing ts ρ with
 |nil=>cases ts with
  |nil=>rfl
  |cons _ _=>cases h
 |cons i is ih=>cases ts with
  |nil=>cases h
  |cons t ts=>simp[ih h]
theorem qjQ{N:List Str}: ∀{xs:List Str} {is:List Nat},qpw N xs=some is->is.length=xs.length/\∀(j:Nat) (x:Str) (i:Nat),xs[j]? =some x->is[j]? =some i->N[i]? =some x
 |[],is,h=>by cases h;exact⟨rfl,λj x i e=>by simp at e⟩
 |x::xs,is,h=>by
  obtain⟨i,e1,e2⟩:=bind_some h;obtain⟨bR,e3,rfl⟩:=qap e2;obtain⟨a,b⟩:=qjQ e3;refine⟨by simp[a],λj y q e4 e5=> ?_⟩;cases j with
  |zero=>cases e4;cases e5;exact qbT e1
  |succ j=>exact b j y q (by simpa using e4) (by simpa using e5)
theorem qjL{line:Nat}: ∀{ts:List Expr} {xs:List Str},qbz C line ts=some xs->ts.length=xs.length/\(∀x∈xs,C.sc.names.lookup x=some .local)/\∃ps:List Pos,ps.length=xs.length/\ts=(xs.zip ps).map (λq=>Expr.Name q.1 q.2)/\∀p∈ps,p.line=line
 |[],xs,h=>by cases h;exact⟨rfl,(λ_ h=>nomatch h),[],rfl,rfl,λ_ h=>nomatch h⟩
 |e::ts,xs,h=>by
  cases e with
  |Name x p=>
   have h:(if decide (C.sc.names.lookup x=some .local)&&p.line==line then(qbz C line ts).map (x:: ·) else none)=some xs:=h;split at h
   ·rename_i hc;rw[Bool.and_eq_true] at hc;obtain⟨ys,e1,rfl⟩:=qap h;obtain⟨a,b,ps,d,e,f⟩:=qjL e1;refine⟨by simp[a],λy hy=> ?_,p::ps,by simp[d],by rw[e];rfl,λq hq=> ?_⟩
    ·rcases List.mem_cons.mp hy with rfl|hy
     ·exact of_decide_eq_true hc.1
     ·exact b y hy
    ·rcases List.mem_cons.mp hq with rfl|hq
     ·exact eq_of_beq hc.2
     ·exact f q hq
   ·cases h
  |_=>cases h
theorem qeK{env:Env}{sc:Scope}(h:env.scope=sc)(hk:sc.kind= .function):env.blockKind= .function:=by unfold Env.blockKind;rw[h,hk];rfl
theorem qbx{vs:List Expr}(hp:vs.all qao=true){v:Expr}(hv:v∈vs): ∀a b,v≠.Starred a b:=λa b e=>by have:=List.all_eq_true.mp hp v hv;rw[e] at this;cases this
theorem qlx {x y:Str} {px py pt pv:Pos} {a b:Expr} {kt kv:Nat} (cy:X.env.scope=C.sc) (hk:C.sc.kind= .function) (hp:[a,b].all qao=true) (hx:C.sc.names.lookup x=some .local) (hy:C.sc.names.lookup y=some .local) (hl:py.line=px.line) (hd:([x,y].eraseDups.length==[x,y].length)=true)
  (hf:[a,b].all (foldedForSure 8)=false) (hc:[a,b].all (constantsAlone 8)=false):swappedStores [.Tuple [.Name x px,.Name y py] kt pt] (.Tuple [a,b] kv pv) X.env=pure (some [x,y]):=by
 have e1:X.env.kindOf x=some .local:=by unfold Env.kindOf;rw[cy];exact hx
 have e2:X.env.kindOf y=some .local:=by unfold Env.kindOf;rw[cy];exact hy
 have hb:=qeK cy hk;have s1: ∀p q,a≠.Starred p q:=qbx hp (by simp);have s2: ∀p q,b≠.Starred p q:=qbx hp (by simp);have hs:([a,b].any λ| .Starred .. =>true|_=>false)=false:=by rw[List.any_eq_false];intro e he h;have ne:=qbx hp he;cases e<;>first|(cases h;done)|exact absurd rfl (ne _ _)
 unfold swappedStores;simp only[List.head?_cons,Option.map_some,Option.getD_some,Expr.pos,hb,List.length_cons,List.length_nil,List.filterMap_cons,List.filterMap_nil,e1,e2,hl,beq_self_eq_true,Bool.and_self,if_true];have c6:([x,y].eraseDups.length != 2)=false:=by have:([x,y].eraseDups.length==2)=true:=hd;simp only[bne,this,Bool.not_true]
 rw[if_neg (by decide),if_neg (λh=>by have h':([a,b].any λ| .Starred .. =>true|_=>false)=true:=h;rw[hs] at h';cases h'),if_neg (λh=>by
  have h':(false||([x,y].eraseDups.length != 2))=true:=h;rw[c6] at h';cases h'),hf,hc]
 rfl
theorem qlw {x y z:Str} {px py pz pt pv:Pos} {a b d:Expr} {kt kv:Nat} (cy:X.env.scope=C.sc) (hk:C.sc.kind= .function) (hp:[a,b,d].all qao=true) (hx:C.sc.names.lookup x=some .local) (hy:C.sc.names.lookup y=some .local) (hz:C.sc.names.lookup z=some .local) (hl:py.line=px.line) (bV:pz.line=px.line) (hd:([x,y,z].eraseDups.length==[x,y,z].length)=true)
  (hf:[a,b,d].all (foldedForSure 8)=false) (hc:[a,b,d].all (constantsAlone 8)=false):swappedStores [.Tuple [.Name x px,.Name y py,.Name z pz] kt pt] (.Tuple [a,b,d] kv pv) X.env=pure (some [x,y,z]):=by
 have e1:X.env.kindOf x=some .local:=by unfold Env.kindOf;rw[cy];exact hx
 have e2:X.env.kindOf y=some .local:=by unfold Env.kindOf;rw[cy];exact hy
 have e3:X.env.kindOf z=some .local:=by unfold Env.kindOf;rw[cy];exact hz
 have hb:=qeK cy hk;have st: ∀v:Expr,v∈[a,b,d]->(match v with|.Starred .. =>true|_=>false)=false:=λv hv=>by have:=qbx hp hv;cases v<;>first|rfl|exact absurd rfl (this _ _)
 have hs:([a,b,d].any λ| .Starred .. =>true|_=>false)=false:=by rw[List.any_eq_false];intro v hv;rw[st v hv];decide
 unfold swappedStores;simp only[List.head?_cons,Option.map_some,Option.getD_some,Expr.pos,hb,List.length_cons,List.length_nil,List.filterMap_cons,List.filterMap_nil,e1,e2,e3,hl,bV,beq_self_eq_true,Bool.and_self,if_true];have c6:([x,y,z].eraseDups.length != 3)=false:=by have:([x,y,z].eraseDups.length==3)=true:=hd;simp only[bne,this,Bool.not_true]
 rw[if_neg (by decide),if_neg (λh=>by have h':([a,b,d].any λ| .Starred .. =>true|_=>false)=true:=h;rw[hs] at h';cases h'),if_neg (λh=>by
  have h':(false||([x,y,z].eraseDups.length != 3))=true:=h;rw[c6] at h';cases h'),hf,hc]
 rfl
theorem qeu{α:Type}{l:List α}(h:l.length=2): ∃a b,l=[a,b]:=match l,h with|[a,b],_=>⟨a,b,rfl⟩
theorem qet{α:Type}{l:List α}(h:l.length=3): ∃a b c,l=[a,b,c]:=match l,h with|[a,b,c],_=>⟨a,b,c,rfl⟩
theorem qry{is:List Nat}{es:List CE}{ts vs:List Expr}{kt kv:Nat}{pt pv pos:Pos}{cs:CS}(c:Cok M g F k C X E)(he: ∀e,PE X e (tE M E (qab F (cE g n C e))))(h:qtj g n C ts vs=some cs):PS X (.Assign [.Tuple ts kt pt] (.Tuple vs kv pv) pos) (tS M E (qaP F cs)):=by
 unfold qtj at h;split at h
 case isFalse=>cases h
 rename_i hc;simp only[Bool.and_eq_true,Bool.not_eq_true'] at hc;obtain⟨⟨⟨⟨⟨⟨h1,h2⟩,h3⟩,h4⟩,h5⟩,h6⟩,h7⟩:=hc;obtain⟨xs,e1,e2⟩:=bind_some h;split at e2
 case isFalse=>cases e2
 rename_i iP;rw[Bool.and_eq_true] at iP;obtain⟨hd,nd⟩:=iP;have nd:xs.Nodup:=of_decide_eq_true nd;obtain⟨is,e3,rfl⟩:=qap e2;obtain⟨l1,bA,ps,l2,rfl,ak⟩:=qjL e1;obtain⟨l3,hN⟩:=qjQ e3;have hv:=eq_of_beq h2;have args:PA X vs (tA M E (runA F (vs.map (cE g n C)))):=qaZ (λe _=>he e) h3;have iL:X.N.Nodup:=by rw[c.N];exact c.nd
 have inj: ∀{i j:Nat} {x y:Str},X.N[i]? =some x->X.N[j]? =some y->x≠y->i≠j:=λe1 e2 n z=>by subst z;rw[e1] at e2;exact n (Option.some.inj e2)
 have lk: ∀x,x∈xs->X.env.scope.names.lookup x=some .local:=λx hx=>by rw[c.sc];exact bA x hx
 have h23:xs.length=2\/xs.length=3:=by rw[Bool.or_eq_true] at h1;rw[<-l1];exact h1.imp eq_of_beq eq_of_beq
 rw[l1] at hv;obtain⟨cm,_,_⟩:=c.cm h4
 rcases h23 with z2|z2
 ·obtain⟨x,y,rfl⟩:=qeu z2;obtain⟨px,py,rfl⟩:=qeu (l2.trans z2);obtain⟨i,j,rfl⟩:=qeu (l3.trans z2);obtain⟨a,b,rfl⟩:=qeu (hv.trans z2);have nx:X.N[i]? =some x:=by rw[c.N];exact hN 0 x i rfl rfl
  have ny:X.N[j]? =some y:=by rw[c.N];exact hN 1 y j rfl rfl
  have gB:py.line=px.line:=(ak py (by simp)).trans (ak px (by simp)).symm;refine PS.weak (qri cm iL nx ny (inj nx ny (by simp at nd;exact nd)) (lk _ (by simp)) (lk _ (by simp)) args (qlx c.sc (of_decide_eq_true h5) h3 (bA x (by simp)) (bA y (by simp)) gB hd h7 h6)) λD σ H ⟨ρ,μ,B,ev,w⟩=>⟨ρ,μ,B,ev,(Wn.bind w).mono λts m w1 us H1 B1 h1 g1 r1=> ?_⟩
  change Wn M E H B (KS M H B D) (match qbh [i,j] ts ρ with|some ρ'=>.ok (.nx ρ') m|none=>.no) at w1
  split at w1
  ·rename_i ρ' er;have lt:=qgW er
   match ts,lt,er,r1 with
   |[t,u],_,er,r1=>obtain⟨v,v',rfl,a1,a2⟩:=qe5 r1;cases er;exact⟨v,v',rfl,w1 _ H1 B1 (((ev.on h1 g1.le).set a1).set a2) g1⟩
  ·exact w1.elim
 ·obtain⟨x,y,z,rfl⟩:=qet z2;obtain⟨px,py,pz,rfl⟩:=qet (l2.trans z2);obtain⟨i,j,q,rfl⟩:=qet (l3.trans z2);obtain⟨a,b,d,rfl⟩:=qet (hv.trans z2);have nx:X.N[i]? =some x:=by rw[c.N];exact hN 0 x i rfl rfl
  have ny:X.N[j]? =some y:=by rw[c.N];exact hN 1 y j rfl rfl
  have nz:X.N[q]? =some z:=by rw[c.N];exact hN 2 z q rfl rfl
  have gB:py.line=px.line:=(ak py (by simp)).trans (ak px (by simp)).symm;have gA:pz.line=px.line:=(ak pz (by simp)).trans (ak px (by simp)).symm;have n3:x≠y/\x≠z/\y≠z:=by simp at nd;exact⟨nd.1.1,nd.1.2,nd.2⟩
  refine PS.weak (PL.ps_par3 cm iL nx ny nz (inj nx ny n3.1) (inj nx nz n3.2.1) (inj ny nz n3.2.2) (lk _ (by simp)) (lk _ (by simp)) (lk _ (by simp)) args (qlw c.sc (of_decide_eq_true h5) h3 (bA x (by simp)) (bA y (by simp)) (bA z (by simp)) gB gA hd h7 h6)) λD σ H ⟨ρ,μ,B,ev,w⟩=>⟨ρ,μ,B,ev,(Wn.bind w).mono λts m w1 us H1 B1 h1 g1 r1=> ?_⟩
  change Wn M E H B (KS M H B D) (match qbh [i,j,q] ts ρ with|some ρ'=>.ok (.nx ρ') m|none=>.no) at w1
  split at w1
  ·rename_i ρ' er;have lt:=qgW er
   match ts,lt,er,r1 with
   |[t,u,v0],_,er,r1=>obtain⟨v,v',v'',rfl,a1,a2,a3⟩:=qoz r1;cases er;exact⟨v,v',v'',rfl,w1 _ H1 B1 ((((ev.on h1 g1.le).set a1).set a2).set a3) g1⟩
  ·exact w1.elim
end
section
variable {M:Md}{g:Gx}{F:Fs}{k n:Nat}{C:Cc}{X:Cx}{E:XK}
theorem qgQ {elt:Expr} {gs:List Comprehension} {sc:Scope} {q p:Pos} {x:Str} {line:Nat} (c:Cok M g F k C X E) (hk:decide (C.sc.kind= .function)=true):
  swapsWith (.ListComp elt gs sc q) (some (.Name x p)) line X.env=pure (qd9 C (.ListComp elt gs sc q) x p):=by
 show(pure (X.env.blockKind== .function&&X.env.kindOf x==some .local&&p.line==q.line&& !(sc.names.any λ(n,k)=>n==x&&(k== .local||k== .cell))):Sem Bool)=_;unfold qd9;rw[qeK c.sc (of_decide_eq_true hk),hk];unfold Env.kindOf;rw[c.sc];have hb:(C.sc.names.lookup x==some NameKind.local)=decide (C.sc.names.lookup x=some .local):=by rw[Bool.eq_iff_iff];simp
 rw[hb];rfl
theorem qqV(c:Cok M g F k C X E){x:Str}{p pos:Pos}{e:Expr}:PS X (.Assign [.Name x p] e pos) (tS M E (qaP F (qvY g n C x p e))):=by
 obtain⟨eo,hc⟩:=qki M g F k n;unfold qvY;split
 case isFalse=>exact qaX
 rename_i hs;split
 ·exact qaX
 ·rename_i i hi;have hN:X.N[i]? =some x:=by rw[c.N];exact qbT hi
  have st:swapsWith e (some (.Name x p)) pos.line X.env=pure false->PS X (.Assign [.Name x p] e pos) (tS M E (qaP F (.set i (cE g n C e)))):=λh=>
   qsE (by rw[c.N];exact c.nd) hN (by rw[c.sc];exact qqO hs) (eo.e C X E c e) h (by rw[c.sc];exact c.fn x hs)
  split
  ·split
   ·rename_i hk;split
    ·rename_i bu;refine(hc C X E c false rfl _ _ _ _ _ _).2 i x p pos rfl hN ?_ (by rw[qgQ c hk,bu]);unfold qd9 at bu;simp only[Bool.and_eq_true,decide_eq_true_eq] at bu;exact bu.1.1.2
    ·rename_i bu;exact st (by rw[qgQ c hk];simp only[Bool.not_eq_true] at bu;rw[bu])
   ·exact qaX
  ·split
   ·rename_i h;exact st (qd8 h)
   ·exact qaX
theorem qt8(IH: ∀C X E,Cok M g F k C X E->∀aV,PSs X aV (tS M E (runSs F (cSs g n C aV))))(c:Cok M g F k C X E)(st:Stmt):PS X st (tS M E (qaP F (cS1 g (n+1) C st))):=by
 obtain⟨eo,hc⟩:=qki M g F k n;have ih:=eo.e C X E c;have hn: ∀e:Expr,PE X e (tE M E (qab F (cE g n C e))):=ih;cases st with
 |Return v p=>
  cases v with
  |none=>exact qpP
  |some e=>exact qsF (ih _)
 |Pass p=>exact qpQ
 |Break p=>exact qmy
 |Continue p=>exact qgA
 |Expr e p=>
  show PS X _ (tS M E (qaP F (if qgS e then .nx else if qdG e then .exp (cE g n C e) else .no)));split
  ·rename_i h;cases e with
   |Constant cc j q=>
    cases cc with
    |str s=>exact PS.weak qrl λD σ H ⟨ρ,μ,B,ev,w⟩=>w σ H B ev .refl
    |_=>cases h
   |_=>cases h
  ·split
   ·rename_i h;exact qpR (ih _) (qd8 h)
   ·exact qaX
 |If t a b p=>exact qvE (eo.t C X E c _) (IH C X E c _) (IH C X E c _)
 |For tg it b els p=>
  cases els with
  |nil=>
   show PS X _ (tS M E (qaP F (if(C.top&&C.calm)&&qbF it then .for_ (cG C n tg) (cI g n C tg it) (cSs g n C b) else .no)));split
   ·rename_i h;simp only[Bool.and_eq_true] at h;exact qsH (c.tp h.1.1).ow (c.cm h.1.2).1 (eo.i C X E c _ _) (qlv c n _) (IH C X E c _) (qer h.2)
   ·exact qaX
  |cons _ _=>exact qaX
 |Assign ts e p=>
  match ts with
  |[]=>exact qaX
  |t::_::_=>cases t<;>exact qaX
  |[t]=>
   cases t with
   |Name x px=>exact qqV c
   |Attribute o f q=>exact qsI c.K (λc' cB=>c.gf.fl _ c' cB) (ih _) (ih _) (qgR λ_ _ z=>by cases z)
   |Subscript o i q=>exact qsG (by have:=c.un;omega) (ih _) (ih _) (ih _) (qgR λ_ _ z=>by cases z)
   |Tuple ts kt pt=>
    have other:(∀vs kv pv,e≠.Tuple vs kv pv)->PS X (.Assign [.Tuple ts kt pt] e p) (tS M E (qaP F (if qdG e then .asg (cG C n (.Tuple ts kt pt)) (cE g n C e) else .no))):=λaH=>by
     split
     ·rename_i h;refine qsJ (ih _) (qlv c n _) (qd8 (t:=some (.Tuple ts kt pt)) (l:=p.line) (env:=X.env) h) ?_ rfl;cases e<;>first|rfl|exact(aH _ _ _ rfl).elim
     ·exact qaX
    cases e with
    |Tuple vs kv pv=>
     show PS X _ (tS M E (qaP F ((qtj g n C ts vs).getD .no)));cases hp:qtj g n C ts vs with
     |none=>exact qaX
     |some cs=>exact qry (is:=[]) (es:=[]) c ih hp
    |_=>exact other λ_ _ _ z=>by cases z
   |_=>exact qaX
 |Raise a b p=>
  cases a with
  |none=>exact qaX
  |some a=>
   cases a with
   |Call f es cv q=>
    cases f with
    |Name x np=>
     match es,cv,b with
     |[a],[],none=>
      show PS X _ (tS M E (qaP F (if C.top&&qim C x&&(g.ex.map (·.1)).contains x&&qgS a then .raise x else .no)));split
      ·rename_i h;simp only[Bool.and_eq_true] at h;obtain⟨⟨⟨h1,h2⟩,h3⟩,h4⟩:=h;obtain⟨gl,hd⟩:=c.gl h2;cases a with
       |Constant cc j q1=>
        cases cc with
        |str s=>exact qmx ((c.tp h1).rs x s j np q1 q p h3 gl hd)
        |_=>cases h4
       |_=>cases h4
      ·exact qaX
     |[],_,_=>exact qaX
     |_::_::_,_,_=>exact qaX
     |[_],_::_,_=>exact qaX
     |[_],[],some _=>exact qaX
    |_=>exact qaX
   |_=>exact qaX
 |_=>exact qaX
theorem qwe: ∀n,(∀C X E,Cok M g F k C X E->∀st,PS X st (tS M E (qaP F (cS g n C st))))/\(∀C X E,Cok M g F k C X E->∀st,PS X st (tS M E (qaP F (cS1 g n C st))))/\∀C X E,Cok M g F k C X E->∀aV,PSs X aV (tS M E (runSs F (cSs g n C aV)))
 |0=>⟨λC X E c st=>qaX,λC X E c st=>qaX,λC X E c aV=>λ_ _ _ _ _ _ ⟨_,_,_,_,w⟩=>w.elim⟩
 |n+1=>by
  obtain⟨h1,h2,h3⟩:=qwe n;refine⟨λC X E c st=>h2 C X E c st,λC X E c st=>qt8 h3 c st,λC X E c aV=> ?_⟩;show PSs X aV (tS M E (runSs F (aV.map (cS g n C))))
  induction aV with
  |nil=>exact qpO
  |cons st aV ih=>exact qmw (h1 C X E c st) ih
end
noncomputable def LmK(M:Md)(g:Gx)(mg:Str->Option Value)(base:Heap)(q:Str)(fd:FuncData):Prop:=g.lm.contains q=true->∃c P,fd.code= .ref c/\W.CodeHd base c P/\qfY mg base/\(∀H,M.G.P H->qk4 P (q++(".<locals>." :Str)++("<lambda>" :Str)) H)/\∀H H2,M.G.P H->qk5 P H H2->(∀b,H b≠none->H2 b≠none)->qk4 P (q++(".<locals>." :Str)++("<lambda>" :Str)) H2->M.G.P H2
structure Kf(M:Md)(g:Gx)(P:Program)(w:World)(mg:Str->Option Value)(base:Heap):Prop where
 fn: ∀(x:Str) (i:Nat) (st:Stmt),g.fi x=some i->x.cps.contains 46=false->g.fs[i]? =some (x,st)->∃f fd,Fun M.K x x st f fd/\mg x=some (.ref f)/\LmK M g mg base x fd
 nb: ∀x,qcK.contains x=true->mg x=none
 cs: ∀x t,g.cs.lookup x=some t->∃v u,mg x=some u/\RelV v u/\∀B,Rep M.K B t v
 ex: ∀c bs,(c,bs)∈g.ex->mg c=some (.ref (clA M.K c))/\∃bm,qiG base (clA M.K c) bm/\∀x∈bs,(g.ex.map (·.1)).contains x=true->(Value.ref (clA M.K c)::bm).contains (.ref (clA M.K x))=true
 mt: ∀(c m:Str) (i:Nat) (st:Stmt),(g.cl.map (·.1)).contains c=true->g.fi (qaR c m)=some i->g.fs[i]? =some (qaR c m,st)->∃f fd,Fun M.K m (qaR c m) st f fd/\Cls M.K (clA M.K c)/\qts M.K (clA M.K c) m f/\LmK M g mg base (qaR c m) fd
 mkc: ∀c,(g.cl.map (·.1)).contains c=true->mg c=some (.ref (clA M.K c))/\W.makesIn M.K (clA M.K c)=true/\W.keepIn M.K (.ref (clA M.K c))=true
 fl: ∀f c,(g.fls f).contains c=true->Cls M.K (clA M.K c)/\qbb M.K (clA M.K c) f
 ok: ∀p∈g.fs,qgw p.2=true
 dt: ∀D tbl,g.dt.lookup D=some tbl->PL.TopT M.K mg w D tbl
theorem qpI{g:Gx}{x:Str}{i:Nat}(h:g.fi x=some i): ∃st,g.fs[i]? =some (x,st):=by have:=qbT h;rw[List.getElem?_map] at this;obtain⟨p,e1,e2⟩:=qap this;exact⟨p.2,by rw[e1,<-e2]⟩
section
variable {M:Md}{g:Gx}{P:Program}{w:World}{mg:Str->Option Value}{base:Heap}{st:Stmt}{f:Addr}{fd:FuncData}{x q:Str}{k i:Nat}
structure FnB(st:Stmt):Prop where
 sc:qdt (qfc st) (qgg st) (qae st)
 po:(qar st).posonlyargs=[]
 va:(qar st).vararg=none
 ko:(qar st).kwonlyargs=[]
 kw:(qar st).kwarg=none
theorem qkf(h:qgw st=true):FnB st:=by
 unfold qgw at h;simp only[Bool.and_eq_true,decide_eq_true_eq,Bool.not_eq_true',Option.isNone_iff_eq_none,List.length_eq_zero_iff] at h;obtain⟨⟨⟨⟨⟨⟨⟨⟨⟨⟨⟨h1,h2⟩,h3⟩,h4⟩,h5⟩,h6⟩,h7⟩,h8⟩,h9⟩,h10⟩,h11⟩,h12⟩:=h;refine⟨⟨h1,h2,h3,h4,?_,λy hy=> ?_,λy hy=> ?_⟩,h7,h8,h9,h11⟩
 ·unfold qfc;exact List.take_left
 ·exact qr2 (List.all_eq_true.mp h5 y hy)
 ·exact of_decide_eq_true (List.all_eq_true.mp h6 y hy)
theorem qm5(F:Fun M.K x q st f fd)(h:FnB st):qa0 M.K fd (qgg st) []:=F.binds λkV doc pm an cdv ct us hl=>by
 have nd:(qgg st).Nodup:=by have:=h.sc.nd;unfold qfc at this;exact(List.nodup_append.mp this).1
 exact qdn (fd:=W.fnOf x q (qar st) (qay st) (qae st) .none kV doc pm an cdv ct) h.po h.va h.ko h.kw rfl nd hl
theorem qs9 {lam:Bool} (gf:Gf M g F k P w mg base) (h:FnB st) {qual:Str} {cdv:Value} (eK:lam=true->∃c P,cdv= .ref c/\W.CodeHd base c P/\qfY mg base/\(∀H,M.G.P H->qk4 P (qual++(".<locals>." :Str)++("<lambda>" :Str)) H)/\∀H H2,M.G.P H->qk5 P H H2->(∀b,H b≠none->H2 b≠none)->qk4 P (qual++(".<locals>." :Str)++("<lambda>" :Str)) H2->M.G.P H2) {A:Around} {outer:List Env} {s:Shared} {H:Hp} {E:XK} (hr:qbu (8*k+7) (A.deeper (PyProof.Rows.envOfC qual (qae st) s.heap.objs.size f cdv))):
  Cok M g F k (qvX lam st) (qhu (CXE P w) P w M.K mg base (qfc st) qual (qae st) f cdv A outer s H E) E:=by
 refine⟨gf,rfl,rfl,h.sc.nd,rfl,λ_ _=>.inl rfl,PL.hu8 hr,λ_=>⟨rfl,hr.mono (by omega),PL.passI⟩,λ_=>⟨rfl,rfl,rfl,λa s' h=>Vc h (λ_ _ x=>x) λ_ _ x=>x.elim,PassesOwn.leaving,λx msg j np p1 cpos pos hx gl hd=> ?_⟩,λz=> ?_,λ_ _=>rfl⟩
 ·obtain⟨bs,hb⟩:=qvA hx;obtain⟨m,bm,e,_⟩:=gf.ex x bs hb;exact qlJ e m gl hd
 ·obtain⟨c,P,e1,e2,e3,e4,e5⟩:=eK z;exact⟨hr.mono (by omega),c,P,_,e1,e2,e3,rfl,e4,e5⟩
theorem qsv(lk:LmK M g mg base q fd)(gf:Gf M g (TTf g k) k P w mg base)(F:Fun M.K x q st f fd)(hb:qgw st=true)(e:g.fs[i]? =some (q,st)):qcL P w M.K mg base (CXE P w) (8*(k+1)) f fd (qgg st) (spF M (TTf g (k+1) i)):=by
 have B:=qkf hb;have e1:TTf g (k+1) i=fnR (g.kp.contains q) (qgg st).length (qfc st).length (runSs (TTf g k) (cSs g 60 (qvX (g.lm.contains q) st) (qay st))):=by show(match g.fs[i]? with|some p=>(cFn g p).run (TTf g k)|none=>λ_ _=>.no)=_;rw[e];show(cFn g (q,st)).run (TTf g k)=_;unfold cFn;rw[if_pos hb];rfl
 rw[e1];exact qvv (k:=8*k+7) F B.sc λcdv hc A outer s H E hr=>(qwe 60).2.2 _ _ _ (qs9 gf B (λz=>by rw[<-hc];exact lk z) hr) _
theorem qpH{ps:List Str}:qcL P w M.K mg base (CXE P w) 0 f fd ps (spF M λ_ _=>.no):=⟨λvs H Q E ⟨_,_,_,_,_,z⟩=>z.elim,λA outer s H args us vs Q E _ _ _ _ ⟨_,_,_,_,_,z⟩=>z.elim⟩
theorem qnE(kf:Kf M g P w mg base): ∀k,Gf M g (TTf g k) k P w mg base
 |k=>by
  have ih: ∀{x q:Str} {st:Stmt} {f:Addr} {fd:FuncData} {i:Nat},Fun M.K x q st f fd->LmK M g mg base q fd->g.fs[i]? =some (q,st)->qcL P w M.K mg base (CXE P w) (8*k) f fd (qgg st) (spF M (TTf g k i))/\qa0 M.K fd (qgg st) []:=λ{x q st f fd i} F lk e=>by
   have hb:=kf.ok _ (Vu e);refine⟨?_,qm5 F (qkf hb)⟩;cases k with
   |zero=>exact qpH
   |succ k=>exact qsv lk (qnE kf k) F hb e
  refine⟨λx i hi hd=> ?_,kf.nb,kf.cs,kf.ex,λm c i hm=> ?_,λc i hc hi=> ?_,kf.fl,kf.dt⟩
  ·obtain⟨st,e⟩:=qpI hi;obtain⟨f,fd,F,m,lk⟩:=kf.fn x i st hi hd e;obtain⟨a,b⟩:=ih F lk e;exact⟨f,fd,_,m,F.kp,b,a⟩
  ·obtain⟨q,hq,e⟩:=List.mem_filterMap.mp hm;obtain⟨i',e1,e2⟩:=qap e;cases e2;obtain⟨st,e3⟩:=qpI e1;obtain⟨f,fd,F,c1,m1,lk⟩:=kf.mt q.1 m i st (by rw[List.contains_iff_mem];exact List.mem_map.mpr ⟨q,hq,rfl⟩) e1 e3;obtain⟨a,b⟩:=ih F lk e3;exact⟨f,fd,_,c1,m1,a,b⟩
  ·obtain⟨st,e3⟩:=qpI hi;obtain⟨f,fd,F,c1,m1,lk⟩:=kf.mt c "__init__" i st hc hi e3;obtain⟨a,b⟩:=ih F lk e3;obtain⟨z1,z2,z3⟩:=kf.mkc c hc;exact⟨f,fd,_,z1,⟨z2,m1.at_,m1.fn,z3⟩,a,b⟩
end
open HD
noncomputable def qh8(x:Str):Bool:= !x.cps.contains 46
noncomputable def Gx.tb(g:Gx):List (Str×Stmt):=g.fs.filter λp=>qh8 p.1
noncomputable def mOf(c q:Str):Option Str:=if(qaR c "").cps.toList.isPrefixOf q.cps.toList then some ⟨(q.cps.toList.drop (qaR c "").cps.toList.length).toArray⟩ else none
noncomputable def Gx.mtl(g:Gx):List (Str×Str×Str×Stmt):=g.cl.flatMap λc=>g.fs.filterMap λp=>(mOf c.1 p.1).map λm=>(c.1,m,p.1,p.2)
noncomputable def qwx(K:W.Frag)(c:Str×T):Bool:=match W.nsIn K mainGlobals c.1,c.2 with
 |some (some (.int n _)),.int m=>n==m
 |some (some (.str n _)),.str m=>n==m
 |_,_=>false
noncomputable def bmX(K:W.Frag)(bs:List Str):List Value:=(bs.tail.filter λx=>x != ("ValueError" :Str)).map (λx=>Value.ref (clA K x))++bmV
noncomputable def qww(K:W.Frag)(ns:List Str)(c:Str×List Str):Bool:=nsC K c.1&&qfy K (clA K c.1) (bmX K c.2)&&c.2.all λx=> !ns.contains x||(Value.ref (clA K c.1)::bmX K c.2).contains (.ref (clA K x))
theorem qoq{a b:Str}(h:a.cps.toList=b.cps.toList):a=b:=by cases a;cases b;simp only[Str.mk.injEq];exact Array.toList_inj.mp h
theorem qaV(a b:Str):(a++b).cps.toList=a.cps.toList++b.cps.toList:=by show(a.cps++b.cps).toList=_;simp
theorem qig(c m:Str):mOf c (qaR c m)=some m:=by
 have e:(qaR c m).cps.toList=(qaR c "").cps.toList++m.cps.toList:=by unfold qaR;rw[qaV,qaV];show _=(c++("." :Str)++("" :Str)).cps.toList++_;rw[qaV];show _=(_++([]:List Nat))++_;rw[List.append_nil,qaV]
 unfold mOf;rw[e];rw[if_pos (by simp)]
 congr 1
 exact qoq (by simp)
noncomputable def gQ(m:List (Addr×Str)):Gam where
 P:=λH=> ∀p∈m,qk4 p.1 p.2 H
 st:=λH H' k h p hp=>by obtain⟨ps,h1,h2,h3⟩:=h p hp;refine⟨ps,k _ _ h1 (λ_ z=>by cases z) (λ_ z=>by cases z) (λ_ z=>by cases z) (λ_ _ _ z=>by cases z),h2,λpos v e=> ?_⟩;obtain⟨c,e1,e2⟩:=h3 pos v e;exact⟨c,e1,k _ _ e2 (λ_ z=>by cases z) (λ_ z=>by cases z) (λ_ z=>by cases z) (λ_ _ _ z=>by cases z)⟩
theorem qsq{m:List (Addr×Str)}{P:Addr}{qual:Str}(h:(P,qual)∈m)(nd:(m.map (·.1)).Nodup): ∀H H2,(gQ m).P H->qk5 P H H2->qk4 P qual H2->(gQ m).P H2:=λH H2 g same t p hp=>by
 obtain⟨ps,hP,_⟩:=g _ h;by_cases e:p.1=P
 ·have:=PL.nodup_fst nd hp h e;subst this;exact t
 ·exact PL.tabq_same (g p hp) hP e same
theorem qqQ{K:W.Frag}{qz:List Str}{Ts:List Addr}{H:Hp}{a:Addr}{ns:List Int}{t:List T->Mu->R T}(ht: ∃m,t [.scr ns] ⟨[],[]⟩= .ok (.bl true) m)(hO:qhO Ts H)(hS:SqL K H a (ns.map V.int)):spF ⟨K,gQ (Ts.zip qz)⟩ t [.ref a] H (λv _=>v= .bl true) λ_ _ _=>False:=by
 obtain⟨m,ht⟩:=ht;have tb:(gQ (Ts.zip qz)).P H:=λp hp=>qtS hO.1 hp;have fin: ∀B:Hp,(∀a o,B a=some o->H a=some o)->(∀a ps,B a≠some (.tbl ps))->SqL K B a (ns.map V.int)->spF ⟨K,gQ (Ts.zip qz)⟩ t [.ref a] H (λv _=>v= .bl true) λ_ _ _=>False:=λB le bt sq=>by
  refine⟨⟨[],[]⟩,⟨B,λ_=>none⟩,[.scr ns],⟨le,bt,tb,(λk c e=>by simp at e),(λ_ _ _ e=>by cases e),(λ_ _ e=>by cases e),(λk c e=>by simp at e),λ_ h=>nomatch h⟩,.cons (by unfold Rep;exact⟨a,rfl,sq⟩) .nil,?_⟩;rw[ht]
  exactλv H' B' _ _ r=>qbI r
 have cut: ∀{o:HO},H a=some o->(∀ps,o≠.tbl ps)->SqL K (λb=>if b=a then H a else none) a (ns.map V.int)->spF ⟨K,gQ (Ts.zip qz)⟩ t [.ref a] H (λv _=>v= .bl true) λ_ _ _=>False:=λ{o} ho n sq=>
  fin _ (λb o z=>by
   by_cases c:b=a
   ·subst c;simpa using z
   ·simp[c] at z) (λb ps z=>by
   by_cases c:b=a
   ·subst c;simp[ho] at z;exact n ps z
   ·simp[c] at z) sq
 rcases hS with(hS|⟨o,hS⟩)|hS
 ·exact cut hS (λps z=>by cases z) (.inl (.inl (by simp[hS])))
 ·exact cut hS (λps z=>by cases z) (.inl (.inr ⟨o,by simp[hS]⟩))
 ·exact fin (λ_=>none) (λ_ _ z=>by cases z) (λ_ _ z=>by cases z) (.inr hS)
noncomputable def lq(q:Str):Str:=q++(".<locals>." :Str)++("<lambda>" :Str)
structure qwV(K:W.Frag)(g:Gx)(w:World):Prop where
 h1:(g.tb.all λp=>okD K p.1)=true
 h2:g.tb.map (λp=>qpJ K p.1)=g.tb.map λp=>(qpJ K p.1).map (due p.1 p.2)
 h3:g.cs.all (qwx K)=true
 h4:qcK.all (okN K)=true
 h5:HD.okT K g.lm=true
 h6:g.ex.all (qww K (g.ex.map (·.1)))=true
 h7:g.cl.all (λc=>quO K c.1 c.2)=true
 h8:(g.mtl.all λq=>okM K (clA K q.1) q.2.1 q.2.2.1)=true
 h10:(g.dt.all λp=>PL.topB K p.1 p.2)=true
 h11:g.dt.map (λp=>(PL.esOf K p.1).map λes=>es.map (·.hash))=g.dt.map λp=>some (p.2.map λq=>PyData.keyHash w.params q.1)
 h9:g.mtl.map (λq=>qr0 K (clA K q.1) q.2.1)=g.mtl.map λq=>(qr0 K (clA K q.1) q.2.1).map (qvD q.2.1 q.2.2.1 q.2.2.2)
theorem qu3 {K:W.Frag} {h base:Heap} {g:Gx} {P:Program} {w:World} {mg:Str->Option Value} (X:K.In h) (G:h.Ns mainGlobals mg) (S:qwV K g w) (hok:(g.fs.all λp=>qgw p.2)=true) (eK:g.lm.all qh8=true) (KI:K.In base) (hb:qfY mg base)
  (hC: ∀y∈g.lm,∃c,W.tabIn K y=some (c,tOf K y)/\W.CodeHd base c (tOf K y)) (nd:(g.lm.map (tOf K)).Nodup):
  Kf ⟨K,gQ ((g.lm.map (tOf K)).zip (g.lm.map lq))⟩ g P w mg base:=by
 have D:=qnP X G S.h1 S.h2;have hX: ∀c fs,(c,fs)∈g.cl->mg c=some (.ref (clA K c))/\Cls K (clA K c)/\W.makesIn K (clA K c)=true/\W.keepIn K (.ref (clA K c))=true/\∀f∈fs,qbb K (clA K c) f:=λc fs hm=>qvT X G (List.all_eq_true.mp S.h7 _ hm);have i6: ∀c,(g.cl.map (·.1)).contains c=true->∃fs,(c,fs)∈g.cl:=λc hc=>by rw[List.contains_iff_mem] at hc;obtain⟨p,hp,rfl⟩:=List.mem_map.mp hc;exact⟨p.2,hp⟩
 have mem: ∀y∈g.lm,(tOf K y,lq y)∈(g.lm.map (tOf K)).zip (g.lm.map lq):=λy hy=>by obtain⟨j,hj,rfl⟩:=List.mem_iff_getElem.mp hy;refine List.mem_iff_getElem?.mpr ⟨j,?_⟩;rw[List.getElem?_zip_eq_some];simp[hj]
 have nd2:(((g.lm.map (tOf K)).zip (g.lm.map lq)).map (·.1)).Nodup:=by
  have:((g.lm.map (tOf K)).zip (g.lm.map lq)).map (·.1)=g.lm.map (tOf K):=by rw[List.map_fst_zip (by simp)]
  rw[this];exact nd
 refine⟨λx i st hi hd e=> ?_,λx hx=>quQ X G S.h4 x (by rwa [List.contains_iff_mem] at hx),λx t hx=> ?_,λc bs hm=> ?_,λc m i st hc hi e=> ?_,λc hc=> ?_,λf c hf=> ?_,λp hp=>List.all_eq_true.mp hok p hp,λD tbl hD=> ?_⟩
 ·have hm:(x,st)∈g.tb:=List.mem_filter.mpr ⟨Vu e,by unfold qh8;rw[hd];rfl⟩;obtain⟨j,hj⟩:=List.mem_iff_getElem?.mp hm;obtain⟨f,oc,od,osl,kV,doc,pm,an,cdv,ct,lk,ba,kp,m,n0⟩:=D j _ _ hj;refine⟨f,_,qka lk ba kp,m,λhl=> ?_⟩;have eL:x∈g.lm:=by rwa [List.contains_iff_mem] at hl
  obtain⟨c,tc,hc⟩:=hC x eL;refine⟨c,tOf K x,?_,hc,hb,λH gp=>gp _ (mem x eL),λH H2 gp same _ t=>qsq (mem x eL) nd2 H H2 gp same t⟩;show cdv= .ref c;unfold W.tabIn at tc;rw[n0] at tc;simp only[lk] at tc;cases cdv with
  |ref c'=>
   dsimp only at tc;split at tc
   ·split at tc
    ·cases tc;rfl
    ·cases tc
   ·cases tc
  |_=>cases tc
 ·have hm:(x,t)∈g.cs:=by
   have go: ∀l:List (Str×T),l.lookup x=some t->(x,t)∈l:=λl=>by
    induction l with
    |nil=>intro h;cases h
    |cons p l ih=>
     intro h;obtain⟨y,u⟩:=p;rw[List.lookup_cons] at h;cases q:x==y with
     |true=>rw[q] at h;cases h;rw[eq_of_beq q];exact Vk
     |false=>rw[q] at h;exact Vl _ (ih h)
   exact go _ hx
  have a:=List.all_eq_true.mp S.h3 _ hm;unfold qwx at a;split at a
  ·rename_i n tk m e1 e2;have e2:t= .int m:=e2;have:n=m:=by simpa using a
   subst this e2;exact⟨.int n,_,W.mg_of X G e1,⟨_,rfl⟩,λB=>qaL⟩
  ·rename_i n tk m e1 e2;have e2:t= .str m:=e2;have:n=m:=by simpa using a
   subst this e2;exact⟨.str n,_,W.mg_of X G e1,⟨_,rfl⟩,λB=>qcs⟩
  ·cases a
 ·have a:=List.all_eq_true.mp S.h6 _ hm;unfold qww at a;simp only[Bool.and_eq_true,List.all_eq_true,Bool.or_eq_true,Bool.not_eq_true'] at a;obtain⟨⟨a1,a2⟩,a3⟩:=a;refine⟨qrW X G a1,_,qir KI a2,λx hx hn=> ?_⟩
  rcases a3 x hx with z|z
  ·rw[hn] at z;cases z
  ·exact z
 ·obtain⟨fs,hm⟩:=i6 c hc;have hq:(c,m,qaR c m,st)∈g.mtl:=List.mem_flatMap.mpr ⟨_,hm,List.mem_filterMap.mpr ⟨_,Vu e,by rw[qig];rfl⟩⟩;obtain⟨j,hj⟩:=List.mem_iff_getElem?.mp hq;have e9:=congrArg (λl=>l[j]?) S.h9;simp only[List.getElem?_map,hj,Option.map_some] at e9;obtain⟨f,oc,od,osl,kV,doc,pm,an,cdv,ct,lk,ba,M1⟩:=qsO (List.all_eq_true.mp S.h8 _ hq) (Option.some.inj e9);refine⟨f,_,qka lk ba M1.kp,(hX c fs hm).2.1,M1,λhl=> ?_⟩;have:=List.all_eq_true.mp eK _ (by rwa [List.contains_iff_mem] at hl);exfalso;unfold qh8 at this;have dt:(qaR c m).cps.contains 46=true:=by rw[Array.contains_iff_mem,<-Array.mem_toList_iff];unfold qaR;rw[qaV,qaV];exact Vs _ (Vt _ (by decide))
  rw[dt] at this;cases this
 ·obtain⟨fs,hm⟩:=i6 c hc;obtain⟨z1,z2,z3,z4,z5⟩:=hX c fs hm;exact⟨z1,z3,z4⟩
 ·rw[List.contains_iff_mem] at hf;obtain⟨p,hp,rfl⟩:=List.mem_map.mp hf;obtain⟨eF,b9⟩:=List.mem_filter.mp hp;obtain⟨z1,z2,z3,z4,z5⟩:=hX p.1 p.2 eF;exact⟨z2,z5 f (by simpa using b9)⟩
 ·have hm:(D,tbl)∈g.dt:=by
   have go: ∀l:List (Str×List (Str×Str)),l.lookup D=some tbl->(D,tbl)∈l:=λl=>by
    induction l with
    |nil=>intro h;cases h
    |cons p l ih=>
     intro h;obtain⟨y,u⟩:=p;rw[List.lookup_cons] at h;cases q:D==y with
     |true=>rw[q] at h;cases h;rw[eq_of_beq q];exact Vk
     |false=>rw[q] at h;exact Vl _ (ih h)
   exact go _ hD
  obtain⟨j,hj⟩:=List.mem_iff_getElem?.mp hm;have e:=congrArg (λl=>l[j]?) S.h11;simp only[List.getElem?_map,hj,Option.map_some] at e;exact PL.topT_of X G (List.all_eq_true.mp S.h10 _ hm) (Option.some.inj e)
theorem walkN {l:W.OpenLaw} {q:Program} {loose:List Str} {XP:(Str->Option Value)->Heap->Prop} {YP:World->Heap->Prop} {d:DefRec} {K:Params->W.Frag} {g:Gx} {kk i:Nat} {sl:Stmt}
  (hn:l.most=some 63) (eR:d.params.defaults=[]) (hd:d.name= "law") (hY: ∀(w:World) (h:Heap),YP w h->(K w.params).In h) (cT: ∀y∈g.lm,∃dx,(PyProof.Rows.recsOf q).find? (λe=>e.name==y)=some dx) (hR:qbu (8*(kk+1)) callerA)
  (S: ∀w:World,qwV (K w.params) g w) (hok:(g.fs.all λp=>qgw p.2)=true) (eK:g.lm.all qh8=true) (hi:g.fi "law" =some i) (hs:g.fs[i]? =some (("law" :Str),sl)) (hp:qgg sl=[("_law_script" :Str)])
  (hT: ∀ns:List Int,ns.length<=63->∃m,TTf g (kk+1) i [.scr ns] ⟨[],[]⟩= .ok (.bl true) m):
  W.WalkO q loose XP YP l.row.toRowW d [] (λf vs=>PySem.call f vs):=by
 refine L2.walk_ofTs (n:=63) (k:=8*(kk+1)) (x:= "_law_script") (ys:=g.lm) (CX:=λw=>CXE l.prog w) (sp:=λw aA=>spF ⟨K w.params,gQ ((aA.map (·.2)).zip (g.lm.map lq))⟩ (TTf g (kk+1) i)) hn (by decide) eR hR hY cT ?_ (λ_ _ _ a ns hl hO hS=>qqQ (hT ns hl) hO hS) λ_ _ _ _ _ ⟨_,_,_,_,_,_,_,z⟩=>z;intro w mg fa h X G hm;have D:=qnP X G (S w).h1 (S w).h2;have hm0:(("law" :Str),sl)∈g.tb:=List.mem_filter.mpr ⟨Vu hs,by show qh8 ("law" :Str)=true;decide+kernel⟩;obtain⟨j,hj⟩:=List.mem_iff_getElem?.mp hm0;obtain⟨f,oc,od,osl,kV,doc,pm,an,cdv,ct,lk,ba,kp,m,n0⟩:=D j _ _ hj;rw[hd] at hm;have e:=hm.symm.trans m;cases e;obtain⟨t1,t2,nd⟩:=qmN (S w).h5;have em:(qgD (K w.params) g.lm).map (·.2)=g.lm.map (tOf (K w.params)):=by unfold qgD;rw[List.map_map];rfl
 have hb:=List.all_eq_true.mp hok _ (Vu hs);have B:=qkf hb;refine⟨W.fnOf "law" "law" (qar sl) (qay sl) (qae sl) .none kV doc pm an cdv ct,qgD (K w.params) g.lm,t1,t2,λs u=>.of_eq ?_,λbase KI _ hC gR=> ?_⟩
 ·have nd:(qgg sl).Nodup:=by rw[hp];simp
  have hu:[u].length=(qgg sl).length:=by rw[hp];rfl
  have hbs:=qdn (fd:=W.fnOf "law" "law" (qar sl) (qay sl) (qae sl) .none kV doc pm an cdv ct) (us:=[u]) B.po B.va B.ko B.kw rfl nd hu;rw[hbs];show pure ((qgg sl).zip [u])=_;rw[hp];rfl
 ·rw[em];have kf:=qu3 (P:=l.prog) (w:=w) X G (S w) hok eK KI gR (λy hy=>by
   have e1:some ((W.tabIn (K w.params) y).getD (0,0))=W.tabIn (K w.params) y:=by obtain⟨j,hj,ej⟩:=List.mem_iff_getElem.mp hy;have:=congrArg (λl=>l[j]?) t1;unfold qgD at this;simp only[List.getElem?_map,List.getElem?_eq_getElem hj,ej,Option.map_some] at this;exact(Option.some.inj this).symm
   exact⟨((W.tabIn (K w.params) y).getD (0,0)).1,e1.symm,hC _ (List.mem_map.mpr ⟨y,hy,rfl⟩)⟩) nd
  obtain⟨f',fd',F',m',lk'⟩:=kf.fn "law" i sl hi (by decide+kernel) hs;have ef:f'=fa:=by rw[m] at m';cases m';rfl
  subst ef;have F:=qka lk ba kp;obtain⟨oc2,od2,kV2,hV,pm2,an2,hZ,ct2,osl2,rfl,lk2,_⟩:=F'.ex;have e2:=lk.symm.trans lk2;have e3:W.fnOf "law" "law" (qar sl) (qay sl) (qae sl) .none kV doc pm an cdv ct=W.fnOf "law" "law" (qar sl) (qay sl) (qae sl) .none kV2 hV pm2 an2 hZ ct2:=by
   injection e2 with e2
   injection e2 with _ _ e2
   injection e2
  rw[e3];have:=qsv (i:=i) lk' (qnE kf kk) F' hb hs;rw[hp] at this;exact this
end NV
section
open PySem PySem.W PyProof.Rows
set_option maxRecDepth 100000 in
set_option maxHeartbeats 0 in
theorem PySem.Challenge.cw_rowasks_k97_whole_edges_by_hand_holds : PySem.Challenge.rw_rowasks_k97_whole_edges_by_hand.Holds := by
 w_on;o_law
 refine holds_open (q:=K97.vq) (loose:=K97.lo) (Xt:=K97.xt) (XP:=XL K97.vq []) (Yf:=Hook.obs K97.hk) (Ya:=Hook.val K97.hk) (YP:=Hook.says K97.hk) (N:=20000) (HD.left_parts "special-get-raises" K97.rXF K97.rYF K97.rXT K97.rYT) (Hook.of K97.hk) (Hook.keeps K97.hk) (λs e=>xl_of s (Bool.and_eq_true_iff.mp e).1) XL.keeps (by rfl) (by rfl) (by rfl) (λs e=>recFacts_of (Bool.and_eq_true_iff.mp e).2) (by rfl) (by first|assumption|decide+kernel) (by decide+kernel) ⟨rfl,rfl,rfl,rfl,rfl,by decide+kernel⟩ ?hw ?hc
 (case hw=>w_witness2)
 k_fill
 refine' NV.walkN (l:=PySem.Challenge.rw_rowasks_k97_whole_edges_by_hand) (g:=K97.gx) (kk:=6) (i:=38) rfl rfl rfl (λw h Y=>Y) ?_ ⟨rfl,by decide,by decide⟩ (λw=>⟨by kernel_rfl,by kernel_rfl,by kernel_rfl,by kernel_rfl,by kernel_rfl,by kernel_rfl,by kernel_rfl,by kernel_rfl,by kernel_rfl,by kernel_rfl,by kernel_rfl⟩) (by kernel_rfl) (by kernel_rfl) (by kernel_rfl) rfl rfl (λns hl=>K97.law_true ns);intro y hy;have hy:y∈K97.gx.lm:=hy;simp only[K97.gx,List.mem_append,List.mem_cons,List.not_mem_nil,or_false,false_or] at hy
end
