import PyProof.Rows.All
import KE.KNestM
import OpenK.KLine
import Wide.Once
import Wide.Line
import Open.Line
import KE.KIsAll
import KE.KItemsList
import KE.KLam
import Flt.Sum
import Flt.WordCanon
import Wide.FinOn
import Lean
import PyProof.EqAt
import PyProof.EqKinds
import PyProof.TupleCall
import KE.KSortTup
import KE.KSortKey
import PyProof.ExcBaseAll.ValueError
import PyProof.ExcAttrAll.ValueError
import KE.KTryOn
import OpenK.KOwn
import PyProof.NeData
import PyProof.SetKind
import PyProof.Rows.SetFrom
import PyProof.CollectWalk
import KE.KDictOf
import KE.KDictList
import KE.KNest
import PyProof.FString5
import KE.KDictSum
import PyProof.WalksEnum
import PyProof.EnumMake
import PyProof.Draws
import PyProof.WalksMore
import KE.KEqDict
import PyProof.AutoSeq1
import PyProof.ListMulRoad
import PyProof.FactsAll.tuple_2
import KE.KDictLaws
import PyProof.Conv_int_bool
import PySem.Challenge.RW_rowasks_k21_whole_pieces
set_option Elab.async false
set_option linter.all false
set_option genSizeOf false
set_option compiler.extract_closed false
noncomputable section
set_option maxRecDepth 100000
set_option maxHeartbeats 8000000
section
open PySem PySem.Spec PyProof.Rows
abbrev Va:=@wpAny_bind
abbrev Vb:=@wpAny_pure
abbrev Vc:=@wpAny_mono
abbrev Vd:=@wpAny_truthy_bool
abbrev Ve:=@wpAny_Call_Name_kw
abbrev Vf:=@wpAny_pyIter_list
abbrev Vg:=@Heap.get?_push_of_some
abbrev Vh:=@Heap.get?_push_size
abbrev Vi:=@Heap.lt_size
abbrev Vj:=@Heap.get?_update_other
abbrev Vk:=@List.mem_cons_self
abbrev Vl:=@List.mem_cons_of_mem
abbrev Vm:=@Nat.le_refl
abbrev Vn:=@Nat.lt_of_lt_of_le
abbrev Vo:=@Nat.ne_of_lt
abbrev Vp:=@Nat.le_trans
abbrev Vq:=@Bool.false_ne_true
abbrev Vr:=@List.mem_append_left
abbrev Vs:=@List.mem_append_right
abbrev Vt:=@List.mem_of_getElem?
abbrev Vu:=@PySem.mem_of_lookup
abbrev Vv:=@decide_eq_true
abbrev Vw:=@decide_eq_false
abbrev Vx:=@List.of_mem_zip
abbrev Vy:=@List.getElem?_eq_getElem
abbrev Vz:=@Nat.lt_succ_self
abbrev Wa:=@Nat.le_succ
end
namespace HD
open PySem PySem.W
noncomputable def qyM:Stmt->Bool
 |.Assign (targets:=[.Name x _]) .. =>x== "__name__"
 |_=>false
noncomputable def vw(p:Program):Program:={ p with main:={ p.main with body:=p.main.body.filter λs=> !qyM s } }
theorem qmG{p q:Program}{loose:List Str}{Xt:Shared->Bool}{α:Type}{Yf:Shared->α}{Ya:World->α}{N:Nat}(row:String)(hf: ∀w:World,((fencedOpening treeTable p w N).bind (topFrom treeTable p (w.withFollow row false) N)).map (λs=>(openSeen q loose (importedModules p.main.body) Xt true s,Yf s))=some (openGood q loose,Ya (w.withFollow row false)))(ht: ∀w:World,((fencedOpening treeTable p w N).bind (topFrom treeTable p (w.withFollow row true) N)).map (λs=>(openSeen q loose (importedModules p.main.body) Xt true s,Yf s))=some (openGood q loose,Ya (w.withFollow row true))):
  LeftO p q loose Xt Yf Ya N:=λw=>by
 have e:=World.withFollow_self w row;cases hb:w.params.followText row<;>rw[hb] at e
 ·have:=hf w;rw[e] at this;exact this
 ·have:=ht w;rw[e] at this;exact this
noncomputable def quJ(p:Program)(row:String)(N:Nat)(b:Bool)(w:World):Option Shared:=(fencedOpening treeTable p w N).bind (topFrom treeTable p (w.withFollow row b) N)
noncomputable def qsY(p q:Program)(loose:List Str)(Xt:Shared->Bool)(s:Shared):=openSeen q loose (importedModules p.main.body) Xt true s
noncomputable def PartX(p q:Program)(loose:List Str)(Xt:Shared->Bool)(row:String)(N:Nat)(b:Bool):Prop:= ∀w:World,(quJ p row N b w).map (λs=>(qsY p q loose Xt s).2)=some (openGood q loose).2
noncomputable def PartY(p q:Program)(loose:List Str)(Xt:Shared->Bool)(H:Hook)(row:String)(N:Nat)(b:Bool):Prop:= ∀w:World,(quJ p row N b w).map (λs=>((qsY p q loose Xt s).1,H.obs s))=some ((openGood q loose).1,H.val (w.withFollow row b))
theorem parts{p q:Program}{loose:List Str}{Xt:Shared->Bool}{H:Hook}{row:String}{N:Nat}{b:Bool}(hx:PartX p q loose Xt row N b)(hy:PartY p q loose Xt H row N b):
  ∀w:World,((fencedOpening treeTable p w N).bind (topFrom treeTable p (w.withFollow row b) N)).map (λs=>(openSeen q loose (importedModules p.main.body) Xt true s,Hook.obs H s))=some (openGood q loose,Hook.val H (w.withFollow row b)):=λw=>by
 have hx:=hx w;have hy:=hy w;have e:((fencedOpening _ p w N).bind _)=quJ p row N b w:=rfl;rw[e];cases r:quJ p row N b w with
 |none=>rw[r] at hx;cases hx
 |some s=>rw[r] at hx hy;have y:=Prod.mk.inj (Option.some.inj hy);exact congrArg some (Prod.ext (Prod.ext y.1 (Option.some.inj hx)) y.2)
theorem left_parts{p q:Program}{loose:List Str}{Xt:Shared->Bool}{H:Hook}{N:Nat}(row:String)(x0:PartX p q loose Xt row N false)(y0:PartY p q loose Xt H row N false)(x1:PartX p q loose Xt row N true)(y1:PartY p q loose Xt H row N true):
  LeftO p q loose Xt (Hook.obs H) (Hook.val H) N:=qmG row (parts x0 y0) (parts x1 y1)
end HD
section
open PySem PySem.W PyProof.Rows
namespace K21
abbrev vq:Program:=HD.vw PySem.Challenge.pw_rowasks_k21_whole_pieces
abbrev lo:List Str:=["NUMBER_STEPS", "COUNT_STEPS", "BARE_STEPS"]
abbrev xt:Shared->Bool:=λs=>xlAt vq [] s&&recOk (RowW.records PySem.Challenge.rw_rowasks_k21_whole_pieces.row.toRowW) s
set_option maxRecDepth 100000 in
set_option maxHeartbeats 0 in
theorem rXF:HD.PartX PySem.Challenge.pw_rowasks_k21_whole_pieces vq lo xt "special-get-raises" 20000 false:=λw=>by kernel_rfl
set_option maxRecDepth 100000 in
set_option maxHeartbeats 0 in
theorem rXT:HD.PartX PySem.Challenge.pw_rowasks_k21_whole_pieces vq lo xt "special-get-raises" 20000 true:=λw=>by kernel_rfl
section
local macro_rules
 |`(tactic| o_head $H)=> `(tactic| (exact False.elim (by assumption);exact $H))
set_option maxRecDepth 100000 in
set_option maxHeartbeats 0 in
noncomputable def hk:Hook:=by
 refine(λ(_:False->PySem.Challenge.rw_rowasks_k21_whole_pieces.row.Holds)=> ?H) ?pf
 rotate_left
 intro hp
 k_head
end
set_option maxRecDepth 100000 in
set_option maxHeartbeats 0 in
theorem rYF:HD.PartY PySem.Challenge.pw_rowasks_k21_whole_pieces vq lo xt hk "special-get-raises" 20000 false:=λw=>by kernel_rfl
set_option maxRecDepth 100000 in
set_option maxHeartbeats 0 in
theorem rYT:HD.PartY PySem.Challenge.pw_rowasks_k21_whole_pieces vq lo xt hk "special-get-raises" 20000 true:=λw=>by kernel_rfl
end K21
end
namespace L2
open PySem PySem.Spec PyProof.Rows
abbrev Key:=Sum Int Str
noncomputable def keyIs:Key->Value->Bool
 |.inl k,v=>Value.isInt k v
 |.inr x,v=>Value.isStrOf x v
noncomputable def qyF(w:World):Key->Int
 |.inl k=>hashInt k
 |.inr x=>hashStr w x
theorem qaz: ∀{k:Key}{v:Value},keyIs k v=true->(∃i t,k=Sum.inl i/\v=Value.int i t)\/(∃x t,k=Sum.inr x/\v=Value.str x t)
 |.inl i,v,h=>by obtain⟨t,e⟩:=Value.isInt_shape h;exact .inl ⟨i,t,rfl,e⟩
 |.inr x,v,h=>by obtain⟨t,e⟩:=Value.isStrOf_shape h;exact .inr ⟨x,t,rfl,e⟩
theorem qki(i:Int)(t:Tok):keyIs (.inl i) (.int i t)=true:=by simp[keyIs,Value.isInt]
theorem qkh(x:Str)(t:Tok):keyIs (.inr x) (.str x t)=true:=by simp[keyIs,Value.isStrOf]
theorem qs8(a b:Int):decide ((Sum.inl a:Key)=Sum.inl b)=(a==b):=by
 grind
theorem qs4(a b:Str):decide ((Sum.inr a:Key)=Sum.inr b)=decide (a=b):=by simp
theorem qs7(a:Int)(b:Str):decide ((Sum.inl a:Key)=Sum.inr b)=false:=Vw (λq=>nomatch q)
theorem qs5(a:Str)(b:Int):decide ((Sum.inr a:Key)=Sum.inl b)=false:=Vw (λq=>nomatch q)
noncomputable def qaq(prog:Program)(w:World):PySem.KeyKind prog w Key where
 is:=keyIs
 hash:=qyF w
 inj:=λv a b ha hb=>by
  rcases qaz ha with⟨i,t,rfl,rfl⟩|⟨x,t,rfl,rfl⟩
  ·rcases qaz hb with⟨j,u,rfl,e⟩|⟨y,u,rfl,e⟩
   ·injection e with e1 _;rw[e1]
   ·exact nomatch e
  ·rcases qaz hb with⟨j,u,rfl,e⟩|⟨y,u,rfl,e⟩
   ·exact nomatch e
   ·injection e with e1 _;rw[e1]
 byValue:=λk v h=>by
  rcases qaz h with⟨i,t,rfl,rfl⟩|⟨x,t,rfl,rfl⟩<;>rfl
 pyHash:=λhv h=>by
  rcases qaz hv with⟨i,t,rfl,rfl⟩|⟨x,t,rfl,rfl⟩
  ·exact wpAny_pyHash_int h
  ·exact wpAny_pyHash_str h
 eqBool:=λhu hv h=>by
  rcases qaz hu with⟨i,t,rfl,rfl⟩|⟨x,t,rfl,rfl⟩
  ·rcases qaz hv with⟨j,u,rfl,rfl⟩|⟨y,u,rfl,rfl⟩
   ·rw[qs8] at h;exact wpAny_eqBool_int h
   ·rw[qs7] at h;exact SeqAt.EqAt.int_str i t y u _ _ _ _ h
  ·rcases qaz hv with⟨j,u,rfl,rfl⟩|⟨y,u,rfl,rfl⟩
   ·rw[qs5] at h;exact SeqAt.EqAt.str_int x t j u _ _ _ _ h
   ·rw[qs4] at h;exact wpAny_eqBool_str h
 «strs» :=λk x t v h=>by
  rcases qaz h with⟨i,u,rfl,e⟩|⟨y,u,rfl,e⟩
  ·exact nomatch e
  ·injection e with e1 _
   subst e1;cases v<;>rfl
theorem qf8(prog:Program)(w:World)(i:Int)(t:Tok):(qaq prog w).is (.inl i) (.int i t)=true:=qki i t
theorem qf7(prog:Program)(w:World)(x:Str)(t:Tok):(qaq prog w).is (.inr x) (.str x t)=true:=qkh x t
inductive V where
 |non|bl (b:Bool)|int (i:Int)|str (x:Str)|byt (b:Array UInt8)|flt (b:UInt64)|ref (a:Addr)|ty (n:String)
 deriving DecidableEq
noncomputable def RelV:V->Value->Prop
 |.non,u=>u=Value.none
 |.bl b,u=>u=Value.bool b
 |.int i,u=> ∃t,u=Value.int i t
 |.str x,u=> ∃t,u=Value.str x t
 |.byt b,u=> ∃t,u=Value.bytes b t
 |.flt b,u=> ∃t,u=Value.float b t
 |.ref a,u=>u=Value.ref a
 |.ty n,u=>u=Value.type n
abbrev Vals:List V->List Value->Prop:=Paired RelV
theorem Vals.length(r:Vals xs us):xs.length=us.length:=Paired.length r
theorem Vals.get: ∀{xs:List V}{us:List Value}{i:Nat}{x:V},Vals xs us->xs[i]? =some x->∃u,us[i]? =some u/\RelV x u
 |_,_,_,_,.nil,e=>by simp at e
 |_,_,0,_,.cons r _,e=>by simp_all
 |_,_,i+1,x,.cons _ t,e=>by
  obtain⟨u,h1,h2⟩:=Vals.get t (by simpa using e)
  simp_all
theorem Vals.set(r:RelV x u): ∀{xs:List V}{us:List Value}(i:Nat),Vals xs us->Vals (xs.set i x) (us.set i u)
 |_,_,_,.nil=>.nil
 |_,_,0,.cons _ t=>.cons r t
 |_,_,i+1,.cons q t=>.cons q (Vals.set r i t)
theorem Vals.append: ∀{xs ys:List V}{us ws:List Value},Vals xs us->Vals ys ws->Vals (xs++ys) (us++ws)
 |_,_,_,_,.nil,s=>s
 |_,_,_,_,.cons r t,s=>.cons r (Vals.append t s)
theorem Vals.take: ∀{xs:List V}{us:List Value}(n:Nat),Vals xs us->Vals (xs.take n) (us.take n)
 |_,_,0,_=>.nil
 |_,_,_+1,.nil=>.nil
 |_,_,n+1,.cons r t=>.cons r (Vals.take n t)
theorem Vals.drop: ∀{xs:List V}{us:List Value}(n:Nat),Vals xs us->Vals (xs.drop n) (us.drop n)
 |_,_,0,r=>r
 |_,_,_+1,.nil=>.nil
 |_,_,n+1,.cons _ t=>Vals.drop n t
noncomputable def qfH:Option V->Option Value->Prop
 |some v,some u=>RelV v u
 |none,none=>True
 |_,_=>False
noncomputable def KV{κ:Type}:List (κ×V)->List (κ×Value)->Prop:=Paired λ(p:κ×V)(q:κ×Value)=>p.1=q.1/\RelV p.2 q.2
noncomputable def kV:Key->V
 |.inl i=>.int i
 |.inr x=>.str x
inductive HO where
 |lst (xs:List V)
 |tup (xs:List V)
 |dK (kvs:List (Key×V))|dT (kvs:List (List Key×V))
 |set (S:Int->Bool) (n:Nat)
 |ins (C dx:Addr) (fs:List (Str×V))
 |own (x:Addr)
 |xd (fs:List (Str×V))
 |met (f x:Addr)
 |rng (lo hi:Int)
 |frz (o:Obj) (u:HO)
 |tbl (ps:Array Value)
 |ext (φ:Heap->Prop)
abbrev Hp:=Addr->Option HO
noncomputable def upd(H:Hp)(a:Addr)(o:HO):Hp:=λb=>if b=a then some o else H b
theorem qae:upd H a o a=some o:=by unfold upd;rw[if_pos rfl]
theorem qad(h:b≠a):upd H a o b=H b:=by unfold upd;rw[if_neg h]
theorem qfP:upd (upd H a o) a u=upd H a u:=by
 funext b;unfold upd;split<;>rfl
theorem qwa{H:Hp}{a b:Addr}{o u:HO}(h:H a=some o)(h':H b=some u)(d:o≠u):a≠b:=by
 grind
theorem qao{H:Hp}{a b:Addr}{o:HO}(h:H a=some o)(h':H b=none):a≠b:=by
 grind
section
variable(P:Program)(w:World)
noncomputable def qaG(H:Hp)(h:Heap)(a:Addr):HO->Prop
 |.lst xs=>xs.length<=sizeLine/\∃(its:List Value)(n:Nat),Vals xs its/\h.get? a=some { cls:=.type "list",data:=.seq its.toArray n }
 |.tup xs=>xs.length<=sizeLine/\∃its:List Value,Vals xs its/\IsTup h a its.toArray
 |.dK kvs=>kvs.length<=sizeLine/\(a==sysModules)=false/\∃vs,KV kvs vs/\h.DictOf (qaq P w) a vs
 | .dT kvs=>kvs.length<=sizeLine/\(a==sysModules)=false/\∃xs:List (List Key×Addr×Value),
   Paired (λ(p:List Key×V)(q:List Key×Addr×Value)=>p.1=q.1/\H q.2.1=some (.tup (p.1.map kV))/\RelV p.2 q.2.2) kvs xs/\
   ∃o es ep,h.get? a=some o/\o.ExactDict/\o.data= .dict es ep/\es.toList=xs.map (entryOfKey (tupleKind (qaq P w)))/\(xs.map (·.1)).Nodup
 |.set S n=>h.SetOf (intKind P w) a S n
 | .ins C dx fs=>H dx=some (.own a)/\fs.length<=1000/\dx≠a/\h.get? a=some (W.instObj C dx)/\
   ∃mA,h.Ns1 dx mA/\(∀f,qfH (fs.lookup f) (mA f))/\PySem.Within mA (fs.map (·.1))
 |.own _=> ∃o,h.get? a=some o
 |.xd fs=> ∃mA,h.Ns1 a mA/\∀f,qfH (fs.lookup f) (mA f)
 |.rng lo hi=> ∃t u v,h.get? a=some { cls:=.type "range",data:=.fields #[.int lo t,.int hi u,.int 1 v] }
 |.frz o u=>h.get? a=some o/\qaG H h a u
 |.tbl ps=>h.get? a=some { cls:=.none,data:=.fields ps }
 |.met f x=>h.get? a=some (W.methodObj (.ref f) (.ref x))
 |.ext φ=>φ h/\(∃o,h.get? a=some o)/\∀h1 h2:Heap,φ h1->(∀o,h1.get? a=some o->h2.get? a=some o)->φ h2
noncomputable def HOk(H:Hp)(h:Heap):Prop:= ∀a o,H a=some o->qaG P w H h a o
end
section
variable{P:Program}{w:World}{H H':Hp}{h h':Heap}{a:Addr}{o:HO}
theorem qaG.lt(x:qaG P w H h a o):a<h.objs.size:=by
 cases o with
 |lst xs=>obtain⟨_,_,_,_,e⟩:=x;exact Vi e
 |tup xs=>obtain⟨_,_,_,p⟩:=x;exact p.lt
 |dK kvs|dT kvs=>obtain⟨_,_,_,_,o,_,_,e,_⟩:=x;exact Vi e
 |set S n=>obtain⟨o,_,_,_,e,_⟩:=x;exact Vi e
 |ins C dx fs=>obtain⟨_,_,_,e,_⟩:=x;exact Vi e
 |own y=>obtain⟨_,e⟩:=x;exact Vi e
 |xd fs=>obtain⟨_,⟨_,_,_,e,_⟩,_⟩:=x;exact Vi e
 |rng lo hi=>obtain⟨_,_,_,e⟩:=x;exact Vi e
 |frz ob u=>obtain⟨e,_⟩:=x;exact Vi e
 |tbl ps|met f y=>exact Vi (x)
 |ext φ=>obtain⟨_,⟨_,e⟩,_⟩:=x;exact Vi e
theorem Paired.mapP{α β:Type}{F G:α->β->Prop}: ∀{eK:List α}{l₂:List β},Paired F eK l₂->(∀a b,F a b->G a b)->Paired G eK l₂
 |_,_,.nil,_=>.nil
 |_,_,.cons r t,f=>.cons (f _ _ r) (Paired.mapP t f)
theorem qaG.stay(x:qaG P w H h a o)(k: ∀b u,(b=a\/H b=some (.own a))->h.get? b=some u->h'.get? b=some u)(ho: ∀b,H b=some (.own a)->H' b=some (.own a))(ht: ∀b xs,H b=some (.tup xs)->H' b=some (.tup xs)):qaG P w H' h' a o:=by
 induction o with
 |lst xs=>obtain⟨z,its,n,r,e⟩:=x;exact⟨z,its,n,r,k _ _ (.inl rfl) e⟩
 |tup xs=>obtain⟨z,its,r,ob,e,c⟩:=x;exact⟨z,its,r,ob,k _ _ (.inl rfl) e,c⟩
 |dK kvs=>obtain⟨z,y,vs,r,ob,es,ep,e,c⟩:=x;exact⟨z,y,vs,r,ob,es,ep,k _ _ (.inl rfl) e,c⟩
 |dT kvs=>obtain⟨z,y,xs,r,ob,es,ep,e,c⟩:=x;exact⟨z,y,xs,Paired.mapP r λp q z=>⟨z.1,ht _ _ z.2.1,z.2.2⟩,ob,es,ep,k _ _ (.inl rfl) e,c⟩
 |set S n=>obtain⟨ob,es,ep,t,e,c⟩:=x;exact⟨ob,es,ep,t,k _ _ (.inl rfl) e,c⟩
 |ins C dx fs=>obtain⟨d,z,ne,e,mA,⟨od,es,ep,e2,c⟩,r⟩:=x;exact⟨ho _ d,z,ne,k _ _ (.inl rfl) e,mA,⟨od,es,ep,k _ _ (.inr d) e2,c⟩,r⟩
 |own y=>obtain⟨ob,e⟩:=x;exact⟨ob,k _ _ (.inl rfl) e⟩
 |xd fs=>obtain⟨mA,⟨od,es,ep,e,c⟩,r⟩:=x;exact⟨mA,⟨od,es,ep,k _ _ (.inl rfl) e,c⟩,r⟩
 |rng lo hi=>obtain⟨t,u,v,e⟩:=x;exact⟨t,u,v,k _ _ (.inl rfl) e⟩
 |frz ob u ih=>obtain⟨e,q⟩:=x;exact⟨k _ _ (.inl rfl) e,ih q⟩
 |tbl ps|met f y=>have e:=x;exact k a _ (.inl rfl) e
 |ext φ=>obtain⟨p,⟨o,e⟩,st⟩:=x;exact⟨st _ _ p λo q=>k _ _ (.inl rfl) q,⟨o,k _ _ (.inl rfl) e⟩,st⟩
theorem HOk.lt(x:HOk P w H h)(e:H a=some o):a<h.objs.size:=(x a o e).lt
theorem HOk.fresh(x:HOk P w H h)(e:h.objs.size<=a):H a=none:=by
 cases q:H a with
 |none=>rfl
 |some u=>exact absurd (Vn (x.lt q) e) (Nat.lt_irrefl _)
theorem HOk.kept(x:HOk P w H h)(k: ∀b u,h.get? b=some u->h'.get? b=some u):HOk P w H h':=λa o e=>
 (x a o e).stay (λb u _ q=>k b u q) (λ_ q=>q) λ_ _ q=>q
theorem HOk.laid(x:HOk P w H h)(k: ∀b u,h.get? b=some u->h'.get? b=some u)(hp:h.objs.size<=a)(new:qaG P w (upd H a o) h' a o):HOk P w (upd H a o) h':=λb u e=>by
 have hn:=x.fresh hp;by_cases hb:b=a
 ·subst hb;rw[qae] at e;cases e;exact new
 ·rw[qad hb] at e;exact(x b u e).stay (λc v _ q=>k c v q) (λc q=>by rw[qad (qao q hn)];exact q) λc xs q=>by rw[qad (qao q hn)];exact q
end
noncomputable def Rd(H:Hp)(a:Addr)(u:HO):Prop:=H a=some u\/∃o,H a=some (.frz o u)
theorem Rd.of{H:Hp}{a:Addr}{u:HO}(h:H a=some u):Rd H a u:=.inl h
theorem Rd.ok(r:Rd H a u)(x:HOk P w H h):qaG P w H h a u:=by
 rcases r with r|⟨o,r⟩
 ·exact x a u r
 ·obtain⟨_,q⟩:=x a _ r;exact q
noncomputable def Mut:Option HO->Prop
 |some (.lst _)=>True
 |some (.dK _)=>True
 |some (.dT _)=>True
 |some (.set _ _)=>True
 |some (.ins _ _ _)=>True
 |some (.ext _)=>True
 |_=>False
section
theorem HOk.write(ok:HOk P w H h)(mu:Mut (H x))(he:e=x\/H e=some (.own x))(k: ∀b u,b≠e->h.get? b=some u->h'.get? b=some u)(dZ: ∃u,h'.get? e=some u)(new:qaG P w (upd H x o') h' x o'):HOk P w (upd H x o') h':=λb u q=>by
 have gG: ∀c y,H c=some (.own y)->c≠x:=λc y r z=>by subst z;rw[r] at mu;exact mu
 have gF: ∀c xs,H c=some (.tup xs)->c≠x:=λc xs r z=>by subst z;rw[r] at mu;exact mu
 by_cases hb:b=x
 ·subst hb;rw[qae] at q;cases q;exact new
 ·rw[qad hb] at q;by_cases fZ:b=e
  ·have q':H b=some (.own x):=by
    grind
   rw[q] at q';cases q';obtain⟨v,hv⟩:=dZ;exact⟨v,by rw[fZ];exact hv⟩
  ·refine(ok b u q).stay (λc v hc r=>k c v ?_ r) (λc r=>by rw[qad (gG c b r)];exact r) λc xs r=>by rw[qad (gF c xs r)];exact r
   grind
end
structure Un(fs ex:List Addr)(H H':Hp)(h h':Heap):Prop where
 keep: ∀b o,h.get? b=some o->H b=none->b∉fs->b∉ex->h'.get? b=some o
 slot: ∀b o,h.get? b=some o->H b=none->b∈fs->b∉ex->∃sl,h'.get? b=some { o with slots:=sl }
 free: ∀b o,h.get? b=some o->H b=none->b∉ex->H' b=none
 there: ∀b o,h.get? b=some o->b∉ex->∃o',h'.get? b=some o'
 tups: ∀b xs,H b=some (.tup xs)->H' b=some (.tup xs)
 frzs: ∀b o u,H b=some (.frz o u)->H' b=some (.frz o u)
 tbls: ∀b ps,H b=some (.tbl ps)->∃more,H' b=some (.tbl (ps++more))
section
theorem Un.any(u:Un fs ex H H1 h h1)(q:h.get? b=some ob)(n:H b=none)(hx:b∉ex): ∃sl,h1.get? b=some { ob with slots:=sl }:=by
 by_cases hb:b∈fs
 ·exact u.slot b ob q n hb hx
 ·exact⟨ob.slots,u.keep b ob q n hb hx⟩
theorem Un.kept(k: ∀b u,h.get? b=some u->h'.get? b=some u):Un fs ex H H h h':=
 ⟨λb ob q _ _ _=>k b ob q,λb ob q _ _ _=>⟨ob.slots,k b ob q⟩,λ_ _ _ n _=>n,λb ob q _=>⟨ob,k b ob q⟩,λ_ _ q=>q,λ_ _ _ q=>q,λ_ ps q=>⟨#[],by rw[q];simp⟩⟩
theorem Un.refl:Un fs ex H H h h:=Un.kept λ_ _ q=>q
theorem Un.laid{fs:List Addr}{ex:List Addr}{H:Hp}{h:Heap}{h':Heap}{a:Addr}{o:HO}(k: ∀b u,h.get? b=some u->h'.get? b=some u)(hp:h.objs.size<=a)(hn:H a=none):Un fs ex H (upd H a o) h h' where
 keep:=λb u q _ _ _=>k b u q
 slot:=λb u q _ _ _=>⟨u.slots,k b u q⟩
 free:=λb u q n _=>by rw[qad (Nat.ne_of_lt (Nat.lt_of_lt_of_le (Heap.lt_size q) hp))];exact n
 there:=λb u q _=>⟨u,k b u q⟩
 tups:=λb xs q=>by rw[qad (qao q hn)];exact q
 frzs:=λb u xs q=>by rw[qad (qao q hn)];exact q
 tbls:=λb ps q=>⟨#[],by rw[qad (qao q hn),q];simp⟩
theorem Un.write(mu:Mut (H x))(he:e=x\/H e=some (.own x))(k: ∀b u,b≠e->h.get? b=some u->h'.get? b=some u)(dZ: ∃u,h'.get? e=some u):Un fs ex H (upd H x o) h h':=by
 have hx: ∀b,H b=none->b≠x:=λb n z=>by subst z;rw[n] at mu;exact mu
 have hb: ∀b,H b=none->b≠e:=λb n z=>by
  grind
 have hm: ∀b u,H b=some u->¬Mut (some u)->b≠x:=λb u q nm z=>by grind
 refine⟨λb u q n _ _=>k b u (hb b n) q,λb u q n _ _=>⟨u.slots,k b u (hb b n) q⟩,λb u q n _=>by rw[qad (hx b n)];exact n,λb u q _=> ?_,
  λb xs q=>by rw[qad (hm b _ q λz=>z)];exact q,λb u xs q=>by rw[qad (hm b _ q λz=>z)];exact q,λb ps q=>⟨#[],by rw[qad (hm b _ q λz=>z),q];simp⟩⟩
 by_cases fZ:b=e
 ·subst fZ;exact dZ
 ·exact⟨u,k b u fZ q⟩
end
noncomputable def trk(h:Heap)(H:Hp):List Addr:=(List.range h.objs.size).filter λa=>(H a).isSome
noncomputable def qku(h:Heap)(H:Hp):Heap:=W.hideAll h (trk h H)
theorem qkt(h:Heap)(H:Hp):(qku h H).objs.size=h.objs.size:=W.hideAll_size _ _
theorem qmW(e:h.get? b=some o)(n:H b=none):(qku h H).get? b=some o:=
 W.hideAll_get _ e λhm=>by have q:=(List.mem_filter.mp hm).2;rw[n] at q;simp at q
theorem qpX(e:(qku h H).get? b=some o):h.get? b=some o/\H b=none:=by
 have e':=W.of_hideAll _ e;refine⟨e',?_⟩;cases q:H b with
 |none=>rfl
 |some x=>have hm:b∈trk h H:=List.mem_filter.mpr ⟨List.mem_range.mpr (Vi e'),by simp[q]⟩;have z:(qku h H).get? b=none:=W.hideAll_none _ hm;rw[z] at e;cases e
noncomputable def qrd(g h:Heap)(L:Addr):List (Addr×Obj):=(List.range h.objs.size).filterMap λa=>if a=L\/(g.get? a).isSome=true then none else(h.get? a).map λo=>(a,o)
noncomputable def rest(g h:Heap)(L d:Addr):List (Addr×Obj):=(qrd g h L).filter λp=>decide (p.1≠d)
structure Mod(K:W.Frag)(mg:Str->Option Value)(base:Heap):Prop where
 kin:K.In base
 glob:base.Ns mainGlobals mg
 blt: ∃mb,base.Ns builtinsNs mb/\∀x:Str,x≠ "__name__" ->mb x=bootBuiltins x
 nolimit:base.NoLimit
structure Cx where
 prog:Program
 w:World
 K:W.Frag
 mg:Str->Option Value
 base:Heap
 A:Around
 N:List Str
 s₀:Shared
 H₀:Hp
 env:Env
 outer:List Env
 stack:List Env
 ex:List Addr
 fn:Str->Bool
 calm:Bool
 pn:List (Addr×Obj)
 xe:Value->Shared->Prop
noncomputable def frs(l:List Env):List Addr:=l.filterMap (·.frame)
abbrev Cx.fs(X:Cx):List Addr:=frs X.outer
noncomputable def Vis(sc:Scope)(x:Str):Prop:=sc.names.lookup x=some .local\/sc.names.lookup x=some .cell\/sc.names.lookup x=some .free
noncomputable def Loc(sc:Scope)(x:Str):Prop:=sc.names.lookup x=some .local\/sc.names.lookup x=some .cell
noncomputable def qzl(env:Env)(h:Heap)(m:Str->Option Value)(x:Str)(u:Value):Prop:=
 (env.kindOf x=some .local/\m x=some u)\/((env.kindOf x=some .cell\/env.kindOf x=some .free)/\∃c,env.cells.lookup x=some c/\h.IsCell c (some u))
structure Cx.Ok(X:Cx):Prop where
 mod:Mod X.K X.mg X.base
 kind:X.env.scope.kind= .function
 glob:X.env.globals=mainGlobals
 blt:X.env.builtins=builtinsNs
 above:X.s₀.heap.objs.size<=X.env.locals
 inj: ∀x y c,X.env.cells.lookup x=some c->X.env.cells.lookup y=some c->x=y
 has: ∀x,(X.env.kindOf x=some .cell\/X.env.kindOf x=some .free)->∃c,X.env.cells.lookup x=some c
 cab: ∀x c,X.fn x=true->X.env.cells.lookup x=some c->X.s₀.heap.objs.size<=c
 hd:X.calm=true->X.A.handled=none
 frames:X.A.frames=some X.stack
 stk:X.stack=X.outer\/(X.stack=X.env::X.outer/\X.env.frame=some X.env.locals)
 exf: ∀b∈X.ex,b≠X.env.locals/\∀x c,X.env.cells.lookup x=some c->c≠b
 bs: ∀b o,X.base.get? b=some o->X.s₀.heap.get? b=some o/\X.H₀ b=none
 bsz:X.base.objs.size<=X.s₀.heap.objs.size
 noex: ∀b o,X.base.get? b=some o->b∉X.ex
 exfs: ∀b∈X.ex,b∉X.fs
 funs:X.s₀.heap.FunFrames X.base X.outer
 frf: ∀b∈X.fs,X.H₀ b=none
structure Inv(X:Cx)(U:List (Addr×Obj))(O:List (Option V))(H:Hp)(s:Shared):Prop where
 ok:X.Ok
 os:s.os=X.s₀.os
 bare:AllBare s.gens
 base:Un X.fs X.ex X.H₀ H X.s₀.heap s.heap
 loc: ∃m,s.heap.Ns X.env.locals m/\∀(i:Nat)(x:Str)(v:V),X.N[i]? =some x->O[i]? =some (some v)->Vis X.env.scope x->∃u,RelV v u/\qzl X.env s.heap m x u
 cell: ∀x c,X.env.cells.lookup x=some c->∃v,s.heap.IsCell c v
 free:H X.env.locals=none
 freeC: ∀x c,X.env.cells.lookup x=some c->H c=none
 pin: ∀p∈X.pn++U,s.heap.get? p.1=some p.2/\H p.1=none/\p.1≠X.env.locals/\p.1∉X.fs/\∀v,p.2.data≠.cell v
 hok:HOk X.prog X.w H s.heap
 len:O.length=X.N.length
section
theorem Cx.Ok.nofr{X:Cx}(ok:X.Ok)(e:X.base.get? b=some o):b∉X.fs:=λhb=>by
 have:=(ok.funs.mem hb).1
 grind
theorem Inv.bs{X:Cx}{s:Shared}(I:Inv X U O H s): ∀b o,X.base.get? b=some o->s.heap.get? b=some o/\H b=none:=λb o e=>
 ⟨I.base.keep b o (I.ok.bs b o e).1 (I.ok.bs b o e).2 (I.ok.nofr e) (I.ok.noex b o e),I.base.free b o (I.ok.bs b o e).1 (I.ok.bs b o e).2 (I.ok.noex b o e)⟩
theorem Inv.bk(I:Inv X U O H s): ∀b o,X.base.get? b=some o->s.heap.get? b=some o:=λb o e=>(I.bs b o e).1
theorem Inv.mod(I:Inv X U O H s):Mod X.K X.mg X.base:=I.ok.mod
theorem Inv.kIn(I:Inv X U O H s):X.K.In s.heap:=I.ok.mod.kin.keeps I.bk
theorem Inv.lt(I:Inv X U O H s):X.env.locals<s.heap.objs.size:=let ⟨_,hn,_⟩:=I.loc;hn.lt
theorem Inv.sz(I:Inv X U O H s):X.s₀.heap.objs.size<=s.heap.objs.size:=Vp I.ok.above (Nat.le_of_lt I.lt)
theorem Inv.nofs(I:Inv X U O H s)(h:s.heap.objs.size<=a):a∉X.fs:=λhb=>by obtain⟨_,o,ho,_⟩:=I.ok.funs.mem hb;exact absurd (Vn (Vi ho) (Vp I.sz h)) (Nat.lt_irrefl _)
theorem Inv.cne(I:Inv X U O H s): ∀x c,X.env.cells.lookup x=some c->c≠X.env.locals:=λx c e z=>by
 obtain⟨v,o,ho,hd⟩:=I.cell x c e;obtain⟨m,⟨o',es,ep,ba,dA,_⟩,_⟩:=I.loc
 grind
theorem Inv.funs(I:Inv X U O H s):s.heap.FunFrames X.base X.outer:=by
 have all: ∀(l:List Env),(∀b∈frs l,b∈X.fs)->X.s₀.heap.FunFrames X.base l->s.heap.FunFrames X.base l:=by
  intro l
  induction l with
  |nil=>intro _ _;trivial
  |cons env r ih=>intro hs hl;obtain⟨hk,⟨L,o,hf,hn,ho,hd⟩,hr⟩:=hl;have hL:=hs L (by unfold frs;simp_all);obtain⟨sl,e⟩:=I.base.slot L o ho (I.ok.frf L hL) hL λz=>I.ok.exfs L z hL;exact⟨hk,⟨L,_,hf,hn,e,hd⟩,ih (λb hb=>hs b (by unfold frs;rw[List.filterMap_cons,hf];exact Vl _ hb)) hr⟩
 exact all _ (λ_ hb=>hb) I.ok.funs
theorem Inv.stack(I:Inv X U O H s):s.heap.FunFrames X.base X.stack:=by
 rcases I.ok.stk with e|⟨e,hf⟩
 ·rw[e];exact I.funs
 ·rw[e];obtain⟨m,hn,_⟩:=I.loc;refine .cons (by rw[I.ok.kind];decide) hf hn ?_ I.funs;exact Heap.get?_none_of_le (Vp I.ok.bsz I.ok.above)
theorem Inv.stkSub(I:Inv X U O H s): ∀b∈frs X.stack,b∈X.env.locals::X.fs:=λb hb=>by
 rcases I.ok.stk with e|⟨e,hf⟩
 ·grind
 ·rw[e] at hb;unfold frs at hb;rw[List.filterMap_cons,hf] at hb;exact hb
theorem Inv.stkFree(I:Inv X U O H s): ∀b∈frs X.stack,H b=none:=λb hb=>by
 rcases List.mem_cons.mp (I.stkSub b hb) with e|hb
 ·rw[e];exact I.free
 ·obtain⟨_,o,ho,_⟩:=I.ok.funs.mem hb;exact I.base.free b o ho (I.ok.frf b hb) λz=>I.ok.exfs b z hb
theorem Inv.step{X:Cx}{U:List (Addr×Obj)}{O:List (Option V)}{H:Hp}{H':Hp}{s:Shared}{h':Heap}{g':Array GenState}{t':Nat}{d':Drawn}{ch:List Addr}(I:Inv X U O H s)(aO: ∀b∈ch,(b∈X.ex\/X.s₀.heap.objs.size<=b)/\b≠X.env.locals/\(∀x c,X.env.cells.lookup x=some c->c≠b)/\∀p∈X.pn++U,p.1≠b)(keep: ∀b o,b≠X.env.locals->b∉X.fs->b∉ch->s.heap.get? b=some o->H b=none->h'.get? b=some o)(slot: ∀b o,b≠X.env.locals->b∈X.fs->b∉ch->s.heap.get? b=some o->H b=none->∃sl,h'.get? b=some { o with slots:=sl })(free: ∀b o,b∉ch->s.heap.get? b=some o->H b=none->H' b=none)(there: ∀b o,b∉ch->s.heap.get? b=some o->∃o',h'.get? b=some o')(tups: ∀b xs,H b=some (.tup xs)->H' b=some (.tup xs))(frzs: ∀b o u,H b=some (.frz o u)->H' b=some (.frz o u))(tbls: ∀b ps,H b=some (.tbl ps)->∃more,H' b=some (.tbl (ps++more)))(ns: ∀m,s.heap.Ns X.env.locals m->h'.Ns X.env.locals m)(hok:HOk X.prog X.w H' h')(hg:AllBare g'):
  Inv X U O H' { s with heap:=h',gens:=g',drawn:=d',toks:=t' }:=by
 have gI: ∀b o,X.s₀.heap.get? b=some o->b≠X.env.locals:=λb o e=>Vo (Vn (Vi e) I.ok.above);have fR: ∀b o,X.s₀.heap.get? b=some o->b∉X.ex->b∉ch:=λb o e hx hb=>by
  rcases(aO b hb).1 with z|z
  ·exact hx z
  ·exact absurd (Vn (Vi e) z) (Nat.lt_irrefl _)
 have cellK: ∀x c,X.env.cells.lookup x=some c->∀v,s.heap.IsCell c v->h'.IsCell c v:=by
  rintro x c e v ⟨o,ho,hd⟩;have cT:c∉ch:=λz=>(aO c z).2.2.1 x c e rfl;by_cases hc:c∈X.fs
  ·obtain⟨sl,q⟩:=slot c o (I.cne x c e) hc cT ho (I.freeC x c e);exact⟨_,q,hd⟩
  ·exact⟨o,keep c o (I.cne x c e) hc cT ho (I.freeC x c e),hd⟩
 refine⟨I.ok,I.os,hg,⟨λb o e n hb hx=> ?_,λb o e n hb hx=> ?_,λb o e n hx=> ?_,λb o e hx=> ?_,λb xs e=>tups b xs (I.base.tups b xs e),λb o xs e=>frzs b o xs (I.base.frzs b o xs e),λb ps e=> ?_⟩,?_,λx c e=> ?_,?_,λx c e=> ?_,λp hp=> ?_,hok,I.len⟩
 ·exact keep b o (gI b o e) hb (fR b o e hx) (I.base.keep b o e n hb hx) (I.base.free b o e n hx)
 ·obtain⟨sl,e1⟩:=I.base.slot b o e n hb hx;obtain⟨eD,e2⟩:=slot b _ (gI b o e) hb (fR b o e hx) e1 (I.base.free b o e n hx);exact⟨eD,e2⟩
 ·obtain⟨o',e1⟩:=I.base.there b o e hx;exact free b o' (fR b o e hx) e1 (I.base.free b o e n hx)
 ·obtain⟨o',e1⟩:=I.base.there b o e hx;exact there b o' (fR b o e hx) e1
 ·obtain⟨m1,e1⟩:=I.base.tbls b ps e
  grind
 ·obtain⟨m,hn,hl⟩:=I.loc;refine⟨m,ns m hn,λi x v e1 e2 e3=> ?_⟩;obtain⟨u,r,l⟩:=hl i x v e1 e2 e3;refine⟨u,r,?_⟩
  rcases l with l|⟨k,c,e,z⟩
  ·exact .inl l
  ·exact .inr ⟨k,c,e,cellK x c e _ z⟩
 ·obtain⟨v,z⟩:=I.cell x c e;exact⟨v,cellK x c e v z⟩
 ·obtain⟨m,⟨o,_,_,ho,_⟩,_⟩:=I.loc;exact free _ o (λz=>(aO _ z).2.1 rfl) ho I.free
 ·obtain⟨v,o,ho,hd⟩:=I.cell x c e;exact free c o (λz=>(aO c z).2.2.1 x c e rfl) ho (I.freeC x c e)
 ·obtain⟨e,n,ne,nf,d⟩:=I.pin p hp;have cT:p.1∉ch:=λz=>(aO p.1 z).2.2.2 p hp rfl;exact⟨keep p.1 p.2 ne nf cT e n,free p.1 p.2 cT e n,ne,nf,d⟩
theorem Inv.un{X:Cx}{U:List (Addr×Obj)}{O:List (Option V)}{H:Hp}{H':Hp}{s:Shared}{h':Heap}{t':Nat}(I:Inv X U O H s)(u:Un X.fs [] H H' s.heap h')(hok:HOk X.prog X.w H' h'):Inv X U O H' { s with heap:=h',toks:=t' }:=by
 obtain⟨m,⟨o,es,ep,ho,r⟩,_⟩:=id I.loc;obtain⟨sl,hL⟩:=u.any ho I.free (by simp);exact I.step (ch:=[]) (λ_ z=>nomatch z) (λb o _ hb _ e n=>u.keep b o e n hb (by simp)) (λb o _ hb _ e n=>u.slot b o e n hb (by simp)) (λb o _ e n=>u.free b o e n (by simp)) (λb o _ e=>u.there b o e (by simp)) u.tups u.frzs u.tbls (λm' hm=>by
  obtain⟨o',bj,gn,ba,r'⟩:=hm;rw[ho] at ba;cases ba;exact⟨_,bj,gn,hL,r'⟩) hok I.bare
theorem Inv.call{X:Cx}{U:List (Addr×Obj)}{O:List (Option V)}{H:Hp}{H':Hp}{s:Shared}{h':Heap}{g':Array GenState}{t':Nat}{d':Drawn}{ch:List Addr}(I:Inv X U O H s)(u:Un (frs X.stack) ch H H' s.heap h')(hok:HOk X.prog X.w H' h')(hg:AllBare g')(aO: ∀b∈ch,(b∈X.ex\/X.s₀.heap.objs.size<=b)/\b≠X.env.locals/\(∀x c,X.env.cells.lookup x=some c->c≠b)/\∀p∈X.pn++U,p.1≠b):
  Inv X U O H' { s with heap:=h',gens:=g',drawn:=d',toks:=t' }:=by
 obtain⟨m,⟨o,es,ep,ho,r⟩,_⟩:=id I.loc;obtain⟨sl,hL⟩:=u.any ho I.free λz=>(aO _ z).2.1 rfl;exact I.step aO (λb o hL hb hc e n=>u.keep b o e n (λz=>(List.mem_cons.mp (I.stkSub b z)).elim hL hb) hc) (λb o _ _ hc e n=>u.any e n hc) (λb o hc e n=>u.free b o e n hc) (λb o hc e=>u.there b o e hc) u.tups u.frzs u.tbls (λm' hm=>by
  obtain⟨o',bj,gn,ba,r'⟩:=hm;rw[ho] at ba;cases ba;exact⟨_,bj,gn,hL,r'⟩) hok hg
theorem Inv.turned{X:Cx}{U:List (Addr×Obj)}{O:List (Option V)}{H:Hp}{s:Shared}{h':Heap}{t':Nat}{it:Addr}(I:Inv X U O H s)(k: ∀b o,b≠it->s.heap.get? b=some o->h'.get? b=some o)(hn:H it=none)(hL:it≠X.env.locals)(h1:it∈X.ex\/X.s₀.heap.objs.size<=it)(h2: ∀x c,X.env.cells.lookup x=some c->c≠it)(h3: ∀p∈X.pn++U,p.1≠it):Inv X U O H { s with heap:=h',toks:=t' }:=by
 have gH: ∀b u,H b=some u->b≠it:=λb u e z=>by grind
 refine I.step (ch:=[it]) (λb hb=> ?_) (λb o _ _ hc e _=>k b o (λz=>hc (by simp[z])) e) (λb o _ _ hc e _=>⟨o.slots,k b o (λz=>hc (by simp[z])) e⟩) (λ_ _ _ _ n=>n)
  (λb o hc e=>⟨o,k b o (λz=>hc (by simp[z])) e⟩) (λ_ _ e=>e) (λ_ _ _ e=>e) (λb ps e=>⟨#[],by rw[e];simp⟩) (λm hm=> ?_) (λb u e=> ?_) I.bare
 ·have e:=by simpa using hb
  subst e;exact⟨h1,hL,h2,h3⟩
 ·obtain⟨o,es,ep,ho,r⟩:=hm;exact⟨o,es,ep,k _ o (Ne.symm hL) ho,r⟩
 ·refine(I.hok b u e).stay (λc v hc q=>k c v ?_ q) (λ_ q=>q) λ_ _ q=>q
  grind
theorem Inv.tok(I:Inv X U O H s)(t:Nat):Inv X U O H { s with toks:=t }:=I.un Un.refl I.hok
theorem Inv.kept(I:Inv X U O H s)(k: ∀b u,s.heap.get? b=some u->h'.get? b=some u):Inv X U O H { s with heap:=h',toks:=t' }:=I.un (Un.kept k) (I.hok.kept k)
theorem Inv.laid(I:Inv X U O H s)(k: ∀b u,s.heap.get? b=some u->h'.get? b=some u)(hp:s.heap.objs.size<=a)(new:qaG X.prog X.w (upd H a o) h' a o):
  Inv X U O (upd H a o) { s with heap:=h',toks:=t' }:=I.un (Un.laid k hp (I.hok.fresh hp)) (I.hok.laid k hp new)
theorem Inv.write(I:Inv X U O H s)(mu:Mut (H x))(he:e=x\/H e=some (.own x))(k: ∀b u,b≠e->s.heap.get? b=some u->h'.get? b=some u)(dZ: ∃u,h'.get? e=some u)(new:qaG X.prog X.w (upd H x o) h' x o):Inv X U O (upd H x o) { s with heap:=h',toks:=t' }:=I.un (Un.write mu he k dZ) (I.hok.write mu he k dZ new)
theorem Inv.pins_of(I:Inv X U O H s)(h: ∀p∈eF,s.heap.get? p.1=some p.2/\H p.1=none/\p.1≠X.env.locals/\p.1∉X.fs/\∀v,p.2.data≠.cell v):Inv X eF O H s:=
 ⟨I.ok,I.os,I.bare,I.base,I.loc,I.cell,I.free,I.freeC,λp hp=>(List.mem_append.mp hp).elim (λz=>I.pin p (Vr _ z)) (h p),I.hok,I.len⟩
theorem qhm{N:List Str}(hN:N.Nodup){i j:Nat}{x:Str}(a:N[i]? =some x)(b:N[j]? =some x):i=j:=by obtain⟨h1,e1⟩:=List.getElem?_eq_some_iff.mp a;obtain⟨h2,e2⟩:=List.getElem?_eq_some_iff.mp b;exact(List.getElem_inj hN).mp (e1.trans e2.symm)
theorem qeI{X:Cx}{O:List (Option V)}{s:Shared}{i:Nat}{x:Str}(I:Inv X U O H s)(hN:X.N.Nodup)(hi:X.N[i]? =some x)(hx:Loc X.env.scope x)(r:RelV v u)(h: ∀s',Inv X U (O.set i (some v)) H s'->(∃a,Heap.SameBut a s.heap s'.heap/\(a=X.env.locals\/X.env.cells.lookup x=some a))->Q () s')(hf:X.fn x=true\/X.env.scope.names.lookup x=some .local:=by first|exact .inl rfl|exact .inr rfl|assumption):wpAny M A (storeName X.env x u) Q E s:=by
 obtain⟨m,hn,hl⟩:=id I.loc;have iA:(X.env.scope.kind== .class||(X.env.scope.kind== .module&&X.env.locals != X.env.globals))=false:=by rw[I.ok.kind];rfl
 have fj:i<O.length:=by rw[I.len];exact(List.getElem?_eq_some_iff.mp hi).1
 have cne:=I.cne;have tracked: ∀{a:Addr}{h':Heap},(∃o,s.heap.get? a=some o/\H a=none)->Heap.SameBut a s.heap h'->HOk X.prog X.w H h':=λ{a h'} ha hs b ob e=>by
  obtain⟨_,_,ah⟩:=ha;refine(I.hok b ob e).stay (λc w' hc q=>(hs.2 c ?_).trans q) (λ_ q=>q) λ_ _ q=>q;rintro rfl
  rcases hc with rfl|hc
  ·rw[ah] at e;cases e
  ·rw[ah] at hc;cases hc
 rcases hx with hk|hk
 ·refine wpAny_storeName_local hk hn (λh' hV hs=> ?_) iA;obtain⟨oL,_,_,hoL,_⟩:=id hn;refine h _ ⟨I.ok,I.os,I.bare,⟨λb o e n hb hx=> ?_,λb o e n hb hx=> ?_,I.base.free,λb o e hx=> ?_,I.base.tups,I.base.frzs,I.base.tbls⟩,⟨_,hV,λj y v' e1 e2 e3=> ?_⟩,λy c e=> ?_,I.free,I.freeC,λp hp=> ?_,tracked ⟨oL,hoL,I.free⟩ hs,by simpa using I.len⟩ ⟨_,hs,.inl rfl⟩
  ·exact(hs.2 b (Vo (Vn (Vi e) I.ok.above))).trans (I.base.keep b o e n hb hx)
  ·obtain⟨sl,e1⟩:=I.base.slot b o e n hb hx;exact⟨sl,(hs.2 b (Vo (Vn (Vi e) I.ok.above))).trans e1⟩
  ·obtain⟨o',e1⟩:=I.base.there b o e hx;exact⟨o',(hs.2 b (Vo (Vn (Vi e) I.ok.above))).trans e1⟩
  ·by_cases hj:j=i
   ·subst hj;rw[hi] at e1;cases e1;rw[List.getElem?_set_self fj] at e2;cases e2;exact⟨u,r,.inl ⟨hk,by simp⟩⟩
   ·rw[List.getElem?_set_ne (Ne.symm hj)] at e2;obtain⟨u',r',q⟩:=hl j y v' e1 e2 e3;refine⟨u',r',?_⟩
    rcases q with⟨k,e⟩|⟨k,c,e,z⟩
    ·refine .inl ⟨k,?_⟩;have:y≠x:=λe=>hj (qhm hN e1 (e▸hi));simp[this,e]
    ·exact .inr ⟨k,c,e,z.sameBut hs (cne y c e)⟩
  ·obtain⟨w',z⟩:=I.cell y c e;exact⟨w',z.sameBut hs (cne y c e)⟩
  ·obtain⟨e,n,ne,nf,d⟩:=I.pin p hp;exact⟨(hs.2 p.1 ne).trans e,n,ne,nf,d⟩
 ·have iq:X.fn x=true:=by
   rcases hf with z|z
   ·exact z
   ·rw[z] at hk;cases hk
  obtain⟨c,hc⟩:=I.ok.has x (.inl hk);obtain⟨w',z⟩:=I.cell x c hc;refine wpAny_storeName_cell I.ok.kind hk hc z (λh' cK hs=> ?_);obtain⟨oc,dR,hU⟩:=id z;refine h { s with heap:=h' } ⟨I.ok,I.os,I.bare,⟨λb o e n hb hx=> ?_,λb o e n hb hx=> ?_,I.base.free,λb o e hx=> ?_,I.base.tups,I.base.frzs,I.base.tbls⟩,⟨m,hn.sameBut hs (Ne.symm (cne x c hc)),λj y v' e1 e2 e3=> ?_⟩,λy c' e=> ?_,I.free,I.freeC,λp hp=> ?_,tracked ⟨oc,dR,I.freeC x c hc⟩ hs,by simpa using I.len⟩ ⟨c,hs,.inr hc⟩
  ·exact(hs.2 b (Vo (Vn (Vi e) (I.ok.cab x c iq hc)))).trans (I.base.keep b o e n hb hx)
  ·obtain⟨sl,e1⟩:=I.base.slot b o e n hb hx;exact⟨sl,(hs.2 b (Vo (Vn (Vi e) (I.ok.cab x c iq hc)))).trans e1⟩
  ·obtain⟨o',e1⟩:=I.base.there b o e hx;exact⟨o',(hs.2 b (Vo (Vn (Vi e) (I.ok.cab x c iq hc)))).trans e1⟩
  ·by_cases hj:j=i
   ·subst hj;rw[hi] at e1;cases e1;rw[List.getElem?_set_self fj] at e2;cases e2;exact⟨u,r,.inr ⟨.inl hk,c,hc,cK⟩⟩
   ·rw[List.getElem?_set_ne (Ne.symm hj)] at e2;obtain⟨u',r',q⟩:=hl j y v' e1 e2 e3;refine⟨u',r',?_⟩
    rcases q with q|⟨k,c',e,z'⟩
    ·exact .inl q
    ·refine .inr ⟨k,c',e,z'.sameBut hs ?_⟩;rintro rfl;exact hj (qhm hN e1 (I.ok.inj _ _ _ e hc▸hi))
  ·by_cases cJ:c'=c
   ·subst cJ;exact⟨_,cK⟩
   ·obtain⟨w2,z2⟩:=I.cell y c' e;exact⟨w2,z2.sameBut hs cJ⟩
  ·obtain⟨e,n,ne,nf,d⟩:=I.pin p hp;refine⟨(hs.2 p.1 ?_).trans e,n,ne,nf,d⟩;intro q;rw[q,dR] at e;have q':oc=p.2:=Option.some.inj e;exact d w' (by rw[<-q'];exact hU)
theorem qcr{X:Cx}{U:List (Addr×Obj)}{O:List (Option V)}{H:Hp}{s:Shared}{M:Model}{A:Around}{E:Value->Shared->Prop}{i:Nat}{x:Str}{v:V}{u:Value}{Q:Unit->Shared->Prop}(I:Inv X U O H s)(hN:X.N.Nodup)(hi:X.N[i]? =some x)(hx:Loc X.env.scope x)(r:RelV v u)(h: ∀s',Inv X U (O.set i (some v)) H s'->Q () s')(hf:X.fn x=true\/X.env.scope.names.lookup x=some .local:=by first|exact .inl rfl|exact .inr rfl|assumption):wpAny M A (storeName X.env x u) Q E s:=
 qeI I hN hi hx r (λs' I' _=>h s' I') hf
theorem Inv.call'(I:Inv X U O H s)(ho:s'.os=s.os)(u:Un (frs X.stack) ch H H' s.heap s'.heap)(hok:HOk X.prog X.w H' s'.heap)(hg:AllBare s'.gens)(aO: ∀b∈ch,(b∈X.ex\/X.s₀.heap.objs.size<=b)/\b≠X.env.locals/\(∀x c,X.env.cells.lookup x=some c->c≠b)/\∀p∈X.pn++U,p.1≠b):Inv X U O H' s':=by obtain⟨h',g',d',t',o'⟩:=s';have e:=ho;subst e;exact I.call u hok hg aO
end
abbrev XK:=Value->Option Addr->Hp->Prop
abbrev St:=List (Option V)
abbrev VK:=V->Hp->Prop
abbrev TE:=St->Hp->VK->Prop
abbrev TT:=St->Hp->(Bool->Hp->Prop)->Prop
abbrev TA:=St->Hp->(List V->Hp->Prop)->Prop
structure quE where
 nx:St->Hp->Prop
 rt:VK
 bk:St->Hp->Prop:=λ_ _=>False
 ct:St->Hp->Prop:=λ_ _=>False
abbrev TS:=quE->St->Hp->Prop
noncomputable def EP(X:Cx)(U:List (Addr×Obj))(O:St)(Q:VK)(u:Value)(s':Shared):Prop:= ∃v H',Inv X U O H' s'/\RelV v u/\Q v H'
noncomputable def TP(X:Cx)(U:List (Addr×Obj))(O:St)(Q:Bool->Hp->Prop)(b:Bool)(s':Shared):Prop:= ∃H',Inv X U O H' s'/\Q b H'
noncomputable def AP(X:Cx)(U:List (Addr×Obj))(O:St)(Q:List V->Hp->Prop)(us:List Value)(s':Shared):Prop:= ∃vs H',Inv X U O H' s'/\Vals vs us/\Q vs H'
noncomputable def SP(X:Cx)(U:List (Addr×Obj))(D:quE)(f:Flow)(s':Shared):Prop:=
 match f with
 |.next=> ∃ag H',Inv X U ag H' s'/\D.nx ag H'
 |.brk=> ∃ag H',Inv X U ag H' s'/\D.bk ag H'
 |.cont=> ∃ag H',Inv X U ag H' s'/\D.ct ag H'
 |.ret u=> ∃v ag H',Inv X U ag H' s'/\RelV v u/\D.rt v H'
noncomputable def PE(X:Cx)(e:Expr)(t:TE):Prop:=
 ∀(U:List (Addr×Obj))(s:Shared)(O:St)(H:Hp)(Q:VK),Inv X U O H s->t O H Q->wpAny (model X.prog X.w) X.A (eval e X.env) (EP X U O Q) X.xe s
noncomputable def PT(X:Cx)(e:Expr)(t:TT):Prop:=
 ∀(U:List (Addr×Obj))(s:Shared)(O:St)(H:Hp)(Q:Bool->Hp->Prop),Inv X U O H s->t O H Q->wpAny (model X.prog X.w) X.A (isTrue e X.env (eval e X.env)) (TP X U O Q) X.xe s
noncomputable def PW(X:Cx)(e:Expr)(t:TT):Prop:=
 ∀(whole:Sem Value)(U:List (Addr×Obj))(s:Shared)(O:St)(H:Hp)(Q:Bool->Hp->Prop),Inv X U O H s->t O H Q->wpAny (model X.prog X.w) X.A (isTrue e X.env whole) (TP X U O Q) X.xe s
theorem PW.pt{X:Cx}{e:Expr}{t:TT}(h:PW X e t):PT X e t:=h _
noncomputable def PA(X:Cx)(es:List Expr)(t:TA):Prop:=
 ∀(pos:Pos)(U:List (Addr×Obj))(s:Shared)(O:St)(H:Hp)(Q:List V->Hp->Prop),Inv X U O H s->t O H Q->wpAny (model X.prog X.w) X.A (spliced (backTo pos (starEach es X.env))) (AP X U O Q) X.xe s
noncomputable def PS(X:Cx)(st:Stmt)(t:TS):Prop:=
 ∀(U:List (Addr×Obj))(s:Shared)(O:St)(H:Hp)(D:quE),Inv X U O H s->t D O H->wpAny (model X.prog X.w) X.A (exec st X.env) (SP X U D) X.xe s
noncomputable def PSs(X:Cx)(st:List Stmt)(t:TS):Prop:=
 ∀(U:List (Addr×Obj))(s:Shared)(O:St)(H:Hp)(D:quE),Inv X U O H s->t D O H->wpAny (model X.prog X.w) X.A (execs st X.env) (SP X U D) X.xe s
theorem thn{α:Type}{t:Sem α}{Q Q':α->Shared->Prop}{M:Model}{A:Around}{E:Value->Shared->Prop}{s:Shared}(h:wpAny M A t Q E s)(hQ: ∀a s,Q a s->Q' a s):wpAny M A t Q' E s:=Vc h hQ λ_ _ x=>x
section
variable{X:Cx}
theorem bin{a b:Expr}{ta tb:TE}(ha:PE X a ta)(hb:PE X b tb){U:List (Addr×Obj)}{s:Shared}{O:St}{H:Hp}{R:V->V->Hp->Prop}(I:Inv X U O H s)(h:ta O H λx H1=>tb O H1 λy H2=>R x y H2){α:Type}{Q:α->Shared->Prop}{f:Value->Value->Sem α}(hf: ∀v u s2 x y H2,Inv X U O H2 s2->RelV x v->RelV y u->R x y H2->wpAny (model X.prog X.w) X.A (f v u) Q X.xe s2):
  wpAny (model X.prog X.w) X.A (eval a X.env) (λv ae=>wpAny (model X.prog X.w) X.A (eval b X.env) (λu aP=>wpAny (model X.prog X.w) X.A (f v u) Q X.xe aP) X.xe ae) X.xe s:=by refine thn (ha _ s O H _ I h) ?_;rintro v s1 ⟨x,H1,I1,r1,q1⟩;refine thn (hb _ s1 O H1 _ I1 q1) ?_;rintro u s2 ⟨y,H2,I2,r2,q2⟩;exact hf v u s2 x y H2 I2 r1 r2 q2
noncomputable def qu5(i:Nat):TE:=λO H Q=> ∃v,O[i]? =some (some v)/\Q v H
noncomputable def tC(v:V):TE:=λ_ H Q=>Q v H
theorem qn7{x:Str}(hN:X.N[i]? =some x)(hv:Vis X.env.scope x)(hd:(x==("__debug__" :Str))=false:=by decide)(bg:(x==("__classdict__" :Str))=false:=by decide):PE X (.Name x pos) (qu5 i):=by
 intro U s O H Q I h;obtain⟨v,e,h⟩:=h;obtain⟨m,hn,hl⟩:=I.loc;obtain⟨u,r,l⟩:=hl i x v hN e hv;have fin:EP X U O Q u s:=⟨v,H,I,r,h⟩
 rcases l with⟨hk,hm⟩|⟨hk,c,hc,ai⟩
 ·exact wpAny_Name (wpAny_loadName_local I.ok.kind hk hn hm fin) hd
 ·rcases hk with hk|hk
  ·exact wpAny_Name (wpAny_loadName_cell I.ok.kind hk hc ai fin) hd
  ·exact wpAny_Name (wpAny_loadName_free I.ok.kind hk hc ai fin bg) hd
theorem qsr{i j pos}:PE X (.Constant (.int i) j pos) (tC (.int i)):=λ_ _ _ H _ I h=>wpAny_Constant_int ⟨.int i,H,I.tok _,⟨_,rfl⟩,h⟩
theorem qvO{b j pos}:PE X (.Constant (.bool b) j pos) (tC (.bl b)):=λ_ _ _ H _ I h=>Constant_bool ⟨.bl b,H,I,rfl,h⟩
theorem qsp{j pos}:PE X (.Constant .none j pos) (tC .non):=λ_ _ _ H _ I h=>Constant_none ⟨.non,H,I,rfl,h⟩
theorem qn8{x j pos}:PE X (.Constant (.str x) j pos) (tC (.str x)):=λ_ _ _ H _ I h=>Calls.Constant_str ⟨.str x,H,I.tok _,⟨_,rfl⟩,h⟩
noncomputable def Gl(X:Cx)(x:Str):Prop:=X.env.kindOf x=some .globalImplicit
theorem qb5{x:Str}(I:Inv X U O H s)(hg:Gl X x)(hm:X.mg x=some u)(h:Q u s)(hd:(x==("__debug__" :Str))=false:=by decide):wpAny (model X.prog X.w) X.A (eval (.Name x pos) X.env) Q E s:=
 Calls.Name_function_global I.ok.kind hg (Calls.loadGlobal_global (by rw[I.ok.glob];exact I.mod.glob.keeps I.bk) hm h) hd
theorem qcV{E:Value->Shared->Prop}{U:List (Addr×Obj)}{s:Shared}{O:St}{H:Hp}{x:Str}{u:Value}{pos:Pos}{Q:Value->Shared->Prop}(I:Inv X U O H s)(hg:Gl X x)(hm:X.mg x=none)(hv:bootBuiltins x=some u)(h:Q u s)(hn:x≠ "__name__" :=by decide)(hd:(x==("__debug__" :Str))=false:=by decide):wpAny (model X.prog X.w) X.A (eval (.Name x pos) X.env) Q E s:=by obtain⟨mb,h1,h2⟩:=I.mod.blt;exact Calls.Name_function_global I.ok.kind hg (Calls.loadGlobal_builtin (by rw[I.ok.glob];exact I.mod.glob.keeps I.bk) hm (by rw[I.ok.blt];exact h1.keeps I.bk) ((h2 x hn).trans hv) h) hd
theorem qb4{x:Str}(hg:Gl X x)(hm:X.mg x=some u)(r:RelV v u)(hd:(x==("__debug__" :Str))=false:=by decide):PE X (.Name x pos) (tC v):=
 λ_ _ _ H _ I h=>qb5 I hg hm ⟨v,H,I,r,h⟩ hd
theorem qpL{x:Str}(hg:Gl X x)(hm:X.mg x=none)(hv:bootBuiltins x=some u)(r:RelV v u)(hn:x≠ "__name__" :=by decide)(hd:(x==("__debug__" :Str))=false:=by decide):PE X (.Name x pos) (tC v):=
 λ_ _ _ H _ I h=>qcV I hg hm hv ⟨v,H,I,r,h⟩ hn hd
variable{a b:Expr}{ta tb:TE}{pos:Pos}
noncomputable def PC(X:Cx)(op:CmpOp)(a b:Expr)(t:TE):Prop:=
 ∀(U:List (Addr×Obj))(s:Shared)(O:St)(H:Hp)(Q:VK),Inv X U O H s->t O H Q->
  wpAny (model X.prog X.w) X.A (eval a X.env) (λv ae=>wpAny (model X.prog X.w) X.A (eval b X.env) (λu aP=>wpAny (model X.prog X.w) X.A (compareOp op v u) (EP X U O Q) X.xe aP) X.xe ae) X.xe s
noncomputable def tB(t:TE):TT:=λO H Q=>t O H λx H1=> ∃c,x= .bl c/\Q c H1
theorem qxH{op:CmpOp}{t:TE}(h:PC X op a b t)(h1:behindInMarks op b=false:=by first|exact nobehind _ (by decide) (by decide)|rfl):PT X (.Compare a [op] [b] pos) (tB t):=by intro U s O H Q I hw;refine wpAny_isTrue_Compare1 (thn (h _ s O H _ I hw) λv s1 h1=>thn h1 λu s2 h2=>thn h2 λc s3 z0=> ?_) h1;obtain ⟨x,H1,I1,r1,q1⟩:=z0;obtain⟨d,rfl,q⟩:=q1;cases r1;exact Vd ⟨H1,I1,q⟩
theorem qr8{e:Expr}{t:TE}(h:PE X e t)(he: ∀whole,isTrue e X.env whole=(do let v <-whole;standAt e.pos;holding [v] (truthy v)):=by intro _;rfl):PT X e (tB t):=by intro U s O H Q I hw;refine isTrue_plain (thn (h _ s O H _ I hw) λv s1 z0=> ?_) (he _);obtain ⟨x,H1,I1,r1,q1⟩:=z0;obtain⟨d,rfl,q⟩:=q1;cases r1;exact Vd ⟨H1,I1,q⟩
variable{tA fG:TT}{rest:List Expr}
noncomputable def qys(t u:TT):TT:=λO H Q=>t O H λc H1=>if c=true then u O H1 Q else Q false H1
noncomputable def tOr(t u:TT):TT:=λO H Q=>t O H λc H1=>if c=true then Q true H1 else u O H1 Q
noncomputable def qyn(t:TT):TT:=λO H Q=>t O H λc H1=>Q (!c) H1
theorem qpv(ha:PT X a tA):PW X (.BoolOp .And [a] pos) tA:=by
 intro wh U s O H Q I h;refine isTrue_and (thn (ha _ s O H Q I h) λc s1 e=> ?_);cases c with
 |true=>exact isTrue_and_nil e
 |false=>exact e
theorem qr1(ha:PT X a tA):PW X (.BoolOp .Or [a] pos) tA:=by
 intro wh U s O H Q I h;refine isTrue_or (thn (ha _ s O H Q I h) λc s1 e=> ?_);cases c with
 |false=>exact isTrue_or_nil e
 |true=>exact e
theorem qr2(ha:PT X a tA)(hb:PW X (.BoolOp .And (b::rest) pos) fG):PW X (.BoolOp .And (a::b::rest) pos) (qys tA fG):=by
 intro wh U s O H Q I h;refine isTrue_and (thn (ha _ s O H _ I h) λc s1 z0=> ?_);obtain ⟨H1,I1,q1⟩:=z0;cases c with
 |true=>exact hb wh _ s1 O H1 Q I1 q1
 |false=>exact⟨H1,I1,q1⟩
theorem qvG(ha:PT X a tA)(hb:PW X (.BoolOp .Or (b::rest) pos) fG):PW X (.BoolOp .Or (a::b::rest) pos) (tOr tA fG):=by
 intro wh U s O H Q I h;refine isTrue_or (thn (ha _ s O H _ I h) λc s1 z0=> ?_);obtain ⟨H1,I1,q1⟩:=z0;cases c with
 |true=>exact⟨H1,I1,q1⟩
 |false=>exact hb wh _ s1 O H1 Q I1 q1
theorem qr9(ha:PT X a tA):PT X (.UnaryOp .Not a pos) (qyn tA):=by intro U s O H Q I h;exact isTrue_not (ha _ s O H _ I h)
noncomputable def qvd(ta tb:TE):TE:=λO H Q=>ta O H λx H1=> ∃c,x= .bl c/\if c=true then tb O H1 Q else Q (.bl false) H1
noncomputable def qym(ta tb:TE):TE:=λO H Q=>ta O H λx H1=> ∃c,x= .bl c/\if c=true then Q (.bl true) H1 else tb O H1 Q
noncomputable def qu8(ta:TE):TE:=λO H Q=>ta O H λx H1=> ∃c,x= .bl c/\Q (.bl (!c)) H1
theorem qsu(ha:PE X a ta)(hb:PE X (.BoolOp .And (b::rest) pos) tb):PE X (.BoolOp .And (a::b::rest) pos) (qvd ta tb):=by
 intro U s O H Q I h;refine BoolOp_and (thn (ha _ s O H _ I h) λv s1 z0=> ?_);obtain ⟨x,H1,I1,r1,q1⟩:=z0;obtain⟨c,rfl,q1⟩:=q1;cases r1;refine Vd ?_;cases c with
 |true=>exact hb _ s1 O H1 Q I1 q1
 |false=>exact⟨.bl _,H1,I1,rfl,q1⟩
theorem qvK(ha:PE X a ta)(hb:PE X (.BoolOp .Or (b::rest) pos) tb):PE X (.BoolOp .Or (a::b::rest) pos) (qym ta tb):=by
 intro U s O H Q I h;refine BoolOp_or (thn (ha _ s O H _ I h) λv s1 z0=> ?_);obtain ⟨x,H1,I1,r1,q1⟩:=z0;obtain⟨c,rfl,q1⟩:=q1;cases r1;refine Vd ?_;cases c with
 |false=>exact hb _ s1 O H1 Q I1 q1
 |true=>exact⟨.bl _,H1,I1,rfl,q1⟩
theorem qso(ha:PE X a ta):PE X (.UnaryOp .Not a pos) (qu8 ta):=by intro U s O H Q I h;refine UnaryOp_ (thn (ha _ s O H _ I h) λv s1 z0=> ?_);obtain ⟨x,H1,I1,r1,q1⟩:=z0;obtain⟨c,rfl,q1⟩:=q1;cases r1;exact not_of (Vd ⟨.bl _,H1,I1,rfl,q1⟩)
noncomputable def tIf(t:TT)(ta tb:TE):TE:=λO H Q=>t O H λc H1=>if c=true then ta O H1 Q else tb O H1 Q
theorem qmn{c:Expr}(hc:PT X c tA)(ha:PE X a ta)(hb:PE X b tb):PE X (.IfExp c a b pos) (tIf tA ta tb):=by
 intro U s O H Q I h;refine wpAny_IfExp (thn (hc _ s O H _ I h) λd s1 z0=> ?_);obtain ⟨H1,I1,q1⟩:=z0;cases d with
 |true=>exact ha _ s1 O H1 Q I1 q1
 |false=>exact hb _ s1 O H1 Q I1 q1
end
noncomputable def SqL(K:W.Frag)(H:Hp)(a:Addr)(xs:List V):Prop:=
 Rd H a (.lst xs)\/
  ∃(o:Obj)(its:Array Value)(n:Nat),K.lookup a=some o/\o.cls= .type "list" /\o.dict=none/\o.data= .seq its n/\its.size<=sizeLine/\Vals xs its.toList
noncomputable def SqT(K:W.Frag)(H:Hp)(a:Addr)(xs:List V):Prop:=
 Rd H a (.tup xs)\/
  ∃(o:Obj)(its:Array Value)(n:Nat),K.lookup a=some o/\o.cls= .type "tuple" /\o.data= .seq its n/\its.size<=sizeLine/\Vals xs its.toList
noncomputable def qzi:Value->Option V
 |.none=>some .non
 |.bool b=>some (.bl b)
 |.int i _=>some (.int i)
 |.str x _=>some (.str x)
 |.bytes b _=>some (.byt b)
 |.float b _=>some (.flt b)
 |.ref a=>some (.ref a)
 |.type n=>some (.ty n)
 |_=>none
theorem RelV.abs(r:RelV x u):qzi u=some x:=by
 cases x with
 |non|bl _=>cases r;rfl
 |int _|str _|byt _|flt _=>obtain⟨t,rfl⟩:=r;rfl
 |ref _|ty _=>cases r;rfl
theorem RelV.inj(r:RelV x u)(q:RelV y u):x=y:=Option.some.inj (r.abs.symm.trans q.abs)
theorem Vals.inj: ∀{xs ys:List V}{us:List Value},Vals xs us->Vals ys us->xs=ys
 |_,_,_,.nil,.nil=>rfl
 |_,_,_,.cons r t,.cons r' t'=>by rw[r.inj r',Vals.inj t t']
section
theorem SqL.of{H:Hp}{a:Addr}{xs:List V}{K:W.Frag}(h:H a=some (.lst xs)):SqL K H a xs:=.inl (.inl h)
theorem SqT.of{H:Hp}{a:Addr}{xs:List V}{K:W.Frag}(h:H a=some (.tup xs)):SqT K H a xs:=.inl (.inl h)
theorem Inv.list(I:Inv X U O H s)(h:SqL X.K H a xs): ∃its:List Value,Vals xs its/\PlainL s.heap a its.toArray/\xs.length<=sizeLine:=by
 rcases h with h|⟨o,its,n,hk,hc,hd,hs,hz,r⟩
 ·obtain⟨z,its,n,r,e⟩:=h.ok I.hok;exact⟨its,r,⟨_,n,e,rfl,rfl,rfl⟩,z⟩
 ·refine⟨its.toList,r,⟨o,n,I.kIn a o hk,hc,hd,by simpa using hs⟩,?_⟩;have e:=r.length
  grind
theorem Inv.tuple{X:Cx}{U:List (Addr×Obj)}{O:St}{H:Hp}{s:Shared}{a:Addr}{xs:List V}(I:Inv X U O H s)(h:SqT X.K H a xs): ∃its:List Value,Vals xs its/\IsTup s.heap a its.toArray/\xs.length<=sizeLine:=by
 rcases h with h|⟨o,its,n,hk,hc,hs,hz,r⟩
 ·obtain⟨z,its,r,p⟩:=h.ok I.hok;exact⟨its,r,p,z⟩
 ·refine⟨its.toList,r,⟨o,I.kIn a o hk,hc,n,by simpa using hs⟩,?_⟩;have e:=r.length
  grind
theorem Inv.list_inj(I:Inv X U O H s)(h:SqL X.K H a xs)(h':SqL X.K H a ys):xs=ys:=by
 obtain⟨its,r,⟨o,n,e,_,_,d⟩,_⟩:=I.list h;obtain⟨aD,r',⟨o',n',e',_,_,d'⟩,_⟩:=I.list h';rw[e] at e';have:its=aD:=by grind
 subst this;exact r.inj r'
theorem Inv.tuple_inj(I:Inv X U O H s)(h:SqT X.K H a xs)(h':SqT X.K H a ys):xs=ys:=by
 obtain⟨its,r,⟨o,e,_,n,d⟩,_⟩:=I.tuple h;obtain⟨aD,r',⟨o',e',_,n',d'⟩,_⟩:=I.tuple h';rw[e] at e';have:its=aD:=by grind
 subst this;exact r.inj r'
end
abbrev Cx.wish(X:Cx)(E:Value->Shared->Prop):Cx:={ X with xe:=E }
section
variable{X:Cx}{st:Stmt}{rest:List Stmt}{t u:TS}{e:Expr}{te:TE}{pos:Pos}
noncomputable def qo5:TS:=λD O H=>D.nx O H
noncomputable def qxr(t u:TS):TS:=λD O H=>t { D with nx:=u D } O H
theorem qpw:PSs X [] qo5:=λ_ _ O H _ I h=>wpAny_execs_nil ⟨O,H,I,h⟩
theorem qmd(h1:PS X st t)(h2:PSs X rest u):PSs X (st::rest) (qxr t u):=by
 intro U s O H D I h;refine wpAny_execs_cons (thn (h1 _ s O H _ I h) λf s1 q=> ?_);cases f with
 |next=>obtain⟨ag,H',I',q⟩:=q;exact h2 _ s1 ag H' D I' q
 |ret v|brk|cont=>exact q
noncomputable def qrC:TS:=λD O H=>D.bk O H
noncomputable def qvb:TS:=λD O H=>D.ct O H
theorem qpy:PS X (.Pass pos) qo5:=λ_ _ O H _ I h=>wpAny_Pass ⟨O,H,I,h⟩
theorem qmf:PS X (.Break pos) qrC:=λ_ _ O H _ I h=>wpAny_Break ⟨O,H,I,h⟩
theorem qf0:PS X (.Continue pos) qvb:=λ_ _ O H _ I h=>wpAny_Continue ⟨O,H,I,h⟩
theorem Inv.quiet(I:Inv X U O H s):interactive X.env=false:=by simp[interactive,I.ok.kind]
theorem qsh{x j pos pos'}:PS X (.Expr (.Constant (.str x) j pos) pos') qo5:=λ_ s O H _ I h=>wpAny_Expr (Calls.Constant_str (⟨O,H,I.tok _,h⟩)) I.quiet
noncomputable def qva(te:TE):TS:=λD O H=>te O H λ_ H1=>D.nx O H1
theorem qpz(he:PE X e te)(hs:swapsWith e none pos.line X.env=pure false:=by rfl):PS X (.Expr e pos) (qva te):=by intro U s O H D I h;exact wpAny_Expr_any (thn (he _ s O H _ I h) (by rintro v s1 ⟨x,H1,I1,r1,q1⟩;exact⟨O,H1,I1,q1⟩)) I.quiet hs
noncomputable def qyk(te:TE):TS:=λD O H=>te O H D.rt
theorem qsc(he:PE X e te):PS X (.Return (some e) pos) (qyk te):=by intro U s O H D I h;exact wpAny_Return_some (thn (he _ s O H _ I h) (by rintro v s1 ⟨x,H1,I1,r1,q1⟩;exact⟨x,O,H1,I1,r1,q1⟩))
noncomputable def qu6:TS:=λD _ H=>D.rt .non H
theorem qpx:PS X (.Return none pos) qu6:=λ_ _ O H _ I h=>wpAny_Return_none ⟨.non,O,H,I,rfl,h⟩
noncomputable def qyp(c:TT)(t u:TS):TS:=λD O H=>c O H λb H1=>if b=true then t D O H1 else u D O H1
theorem qvI{c:Expr}{a b:List Stmt}{tc:TT}(hc:PT X c tc)(ha:PSs X a t)(hb:PSs X b u):PS X (.If c a b pos) (qyp tc t u):=by
 intro U s O H D I h;refine wpAny_If (thn (hc _ s O H _ I h) λd s1 z0=> ?_);obtain ⟨H1,I1,q1⟩:=z0;cases d with
 |true=>exact ha _ s1 O H1 D I1 q1
 |false=>exact hb _ s1 O H1 D I1 q1
end
abbrev TG:=V->St->Hp->(St->Hp->Prop)->Prop
abbrev TGs:=List V->St->Hp->(St->Hp->Prop)->Prop
noncomputable def PG(X:Cx)(target:Expr)(t:TG):Prop:=
 ∀(U:List (Addr×Obj))(s:Shared)(O:St)(H:Hp)(v:V)(u:Value)(Q:St->Hp->Prop),Inv X U O H s->RelV v u->t v O H Q->
  wpAny (model X.prog X.w) X.A (assign target X.env u) (λ_ s'=> ∃ag H',Inv X U ag H' s'/\Q ag H') X.xe s
noncomputable def PGs(X:Cx)(ts:List Expr)(t:TGs):Prop:=
 ∀(U:List (Addr×Obj))(s:Shared)(O:St)(H:Hp)(vs:List V)(us:List Value)(Q:St->Hp->Prop),Inv X U O H s->Vals vs us->t vs O H Q->
  wpAny (model X.prog X.w) X.A (assignInOrder ((assignEach ts X.env).map (·.2)) us) (λ_ s'=> ∃ag H',Inv X U ag H' s'/\Q ag H') X.xe s
abbrev qxk:=V->V->V->Hp->(Hp->Prop)->Prop
noncomputable def qxm(X:Cx)(t:qxk):Prop:=
 ∀(U:List (Addr×Obj))(s:Shared)(O:St)(H:Hp)(o i v:V)(ov iv u:Value)(Q:Hp->Prop),Inv X U O H s->RelV o ov->RelV i iv->RelV v u->t o i v H Q->
  wpAny (model X.prog X.w) X.A (setItem ov iv u) (λ_ s'=> ∃H',Inv X U O H' s'/\Q H') X.xe s
section
variable{X:Cx}{pos:Pos}
noncomputable def qqp(i:Nat):TG:=λv O H Q=>Q (O.set i (some v)) H
theorem qpH{x:Str}(hN:X.N.Nodup)(hi:X.N[i]? =some x)(hx:Loc X.env.scope x)(hf:X.fn x=true\/X.env.scope.names.lookup x=some .local:=by first|exact .inl rfl|exact .inr rfl|assumption):PG X (.Name x pos) (qqp i):=by intro U s O H v u Q I r h;exact wpAny_assign_Name (qcr I hN hi hx r (λs' I'=>⟨_,H,I',h⟩) hf)
noncomputable def qza:TGs:=λvs O H Q=>vs=[]/\Q O H
noncomputable def qwG(t:TG)(u:TGs):TGs:=λvs O H Q=> ∃v r,vs=v::r/\t v O H λag H'=>u r ag H' Q
theorem qpG:PGs X [] qza:=by intro U s O H vs us Q I r h;obtain⟨e,h⟩:=h;subst e;exact assignInOrder_nil ⟨O,H,I,h⟩
theorem qmj{e:Expr}{es:List Expr}{t:TG}{u:TGs}(h1:PG X e t)(h2:PGs X es u)(hs:(assignEach (e::es) X.env).map (·.2)=assign e X.env::(assignEach es X.env).map (·.2):=by rfl):PGs X (e::es) (qwG t u):=by
 intro U s O H vs us Q I r h;obtain⟨v,vr,e1,h⟩:=h;subst e1;cases r with
 |cons r rr=>rw[hs];refine assignInOrder_cons (thn (h1 _ s O H _ _ _ I r h) λ_ s1 z0=> ?_);obtain ⟨cM,H1,I1,q1⟩:=z0;exact h2 _ s1 cM H1 _ _ Q I1 rr q1
noncomputable def qy8(K:W.Frag)(n:Nat)(t:TGs):TG:=λv O H Q=> ∃a xs,v= .ref a/\SqT K H a xs/\xs.length=n/\t xs O H Q
theorem qsm(hc:X.calm=true)(h:PGs X es t)(hn:(assignEach es X.env).length=n:=by rfl)(aG:(assignEach es X.env).findIdx? (·.1)=none:=by rfl):PG X (.Tuple es k pos) (qy8 X.K n t):=by intro U s O H v u Q I r hw;obtain⟨a,xs,e1,hq,hl,hw⟩:=hw;subst e1;cases r;obtain⟨its,rv,ht,hz⟩:=I.tuple hq;refine assign_Tuple_tuple (I.ok.hd hc) ht (by simp[hn,<-hl,rv.length]) aG λh' hx=> ?_;have I1:=I.kept (t':=s.toks) λb o e=>hx b o (Vo (Vi e)) e;exact h _ _ O H xs _ Q I1 (by simpa using rv) hw
noncomputable def gSub(to ti:TE)(t:qxk):TG:=λv O H Q=>to O H λo H1=>ti O H1 λi H2=>t o i v H2 λH3=>Q O H3
noncomputable def qxt(te:TE)(g:TG):TS:=λD O H=>te O H λx H1=>g x O H1 D.nx
theorem qsi{tg e:Expr}{te:TE}{g:TG}(he:PE X e te)(hg:PG X tg g)(hs:swapsWithSole [tg] e pos.line X.env=pure false:=by rfl)(hw:swappedStores [tg] e X.env=pure none:=by rfl)(h1:(assignEach [tg] X.env).map (·.2)=[assign tg X.env]:=by rfl):PS X (.Assign [tg] e pos) (qxt te g):=by intro U s O H D I h;refine wpAny_Assign_stores (thn (he _ s O H _ I h) λv s1 z0=> ?_) hs hw;obtain ⟨x,H1,I1,r1,q1⟩:=z0;rw[h1];exact thn (hg _ s1 O H1 x v _ I1 r1 q1) λ_ s2 q=>q
theorem qsb{i:Nat}{x:Str}{e:Expr}{te:TE}{pos':Pos}(hN:X.N.Nodup)(hi:X.N[i]? =some x)(hx:Loc X.env.scope x)(he:PE X e te)(hs:swapsWith e (some (.Name x pos')) pos.line X.env=pure false:=by rfl)(hf:X.fn x=true\/X.env.scope.names.lookup x=some .local:=by first | exact .inl rfl | exact .inr rfl | assumption):
  PS X (.Assign [.Name x pos'] e pos) (qxt te (qqp i)):=by intro U s O H D I h;refine wpAny_Assign_Name (thn (he _ s O H _ I h) λv s1 z0=> ?_) hs;obtain ⟨y,H1,I1,r1,q1⟩:=z0;exact qcr I1 hN hi hx r1 (λs2 I2=>⟨_,H1,I2,q1⟩) hf
noncomputable def qyl(i j:Nat)(ta:TA):TS:=λD O H=>ta O H λvs H1=> ∃v w,vs=[v,w]/\D.nx ((O.set i (some v)).set j (some w)) H1
theorem qse{i j:Nat}{x y:Str}{a b:Expr}{ta:TA}{px py pt:Pos} {kt k2 pt2} (hc:X.calm=true) (hN:X.N.Nodup) (hi:X.N[i]? =some x) (hj:X.N[j]? =some y) (aI:i≠j) (hx:X.env.scope.names.lookup x=some .local) (hy:X.env.scope.names.lookup y=some .local) (ha:PA X [a,b] ta) (hw:swappedStores [.Tuple [.Name x px,.Name y py] kt pt] (.Tuple [a,b] k2 pt2) X.env=pure (some [x,y])) (hs:swapsWithSole [.Tuple [.Name x px,.Name y py] kt pt] (.Tuple [a,b] k2 pt2) pos.line X.env=pure false:=by rfl):
  PS X (.Assign [.Tuple [.Name x px,.Name y py] kt pt] (.Tuple [a,b] k2 pt2) pos) (qyl i j ta):=by
 intro U s O H D I h;rw[exec_Assign_arm];refine Va (wpAny_standAt ?_);rw[hs];refine Va (Vb ?_);rw[if_neg (by decide)];refine Va (Tuple_ (thn (ha _ U s O H _ I h) λus s1 z0=> ?_));obtain ⟨vs,H1,I1,r1,q1⟩:=z0;obtain⟨v,w,e1,q1⟩:=q1;subst e1;obtain⟨u1,u2,rfl,rv,aq⟩: ∃u1 u2,us=[u1,u2]/\RelV v u1/\RelV w u2:=by
  cases r1 with
  |cons p q=>
   cases q with
   |cons p' q'=>cases q';exact⟨_,_,rfl,p,p'⟩
 refine wpAny_newObj_type ?_ (by show 2<=sizeLine;decide);have I2:Inv X U O H1 { s1 with heap:=s1.heap.push { cls:=.type "tuple",data:=.seq [u1,u2].toArray } }:=I1.kept (t':=s1.toks) λb o e=>Vg _ e;rw[hw];refine Va (Vb ?_);refine Va (wpAny_rule (Va (unpackItems_tuple (items:= #[u1,u2]) (I.ok.hd hc) (IsTup.new s1.heap _) λh' bZ=> ?_)));have I3:=I2.kept (h':=h') (t':=s1.toks) λb o e=>bZ b o (Vo (Vi e)) e;refine Va (assignInOrder_cons (wpAny_bindName (qcr I3 hN hj (.inl hy) aq (λs2 I4=> ?_) (.inr hy))));refine assignInOrder_cons (wpAny_bindName (qcr I4 hN hi (.inl hx) rv (λs3 I5=>assignInOrder_nil (Vb ?_)) (.inr hx)));rw[List.set_comm _ _ (Ne.symm aI)] at I5;exact⟨_,H1,I5,q1⟩
end
structure It where
 go:Nat->Hp->Prop
 yld:Nat->Hp->V->Hp->Prop
 stop:Nat->Hp->Prop
noncomputable def qgL(X:Cx)(U:List (Addr×Obj))(H:Hp)(b:Addr):Prop:=
 H b=none/\b≠X.env.locals/\b∉X.fs/\(b∈X.ex\/X.s₀.heap.objs.size<=b)/\(∀x c,X.env.cells.lookup x=some c->c≠b)/\∀p∈X.pn++U,p.1≠b
theorem Inv.fpOk(I:Inv X U O H s)(hb:s.heap.objs.size<=b)(hn:H' b=none):qgL X U H' b:=by
 refine⟨hn,Nat.ne_of_gt (Vn I.lt hb),I.nofs hb,.inr (Vp I.sz hb),λx c e z=> ?_,λp hp z=> ?_⟩
 ·obtain⟨v,q⟩:=I.cell x c e;exact absurd (Vn q.lt (by rw[z];exact hb)) (Nat.lt_irrefl _)
 ·exact absurd (Vn (Vi (I.pin p hp).1) (by rw[z];exact hb)) (Nat.lt_irrefl _)
structure qre(P:Program)(w:World)(K:W.Frag)(tg:Expr)(J:It)(fp:List Addr)(it:Addr)(tn:Nat->Heap->Prop):Prop where
 mem:it∈fp
 obj: ∀i h,tn i h->∀b∈fp,∃o,h.get? b=some o/\∀v,o.data≠.cell v
 keep: ∀i h h',tn i h->(∀b∈fp,∀o,h.get? b=some o->h'.get? b=some o)->tn i h'
 item: ∀(X:Cx),X.prog=P->X.w=w->X.K=K->X.calm=true->∀(i:Nat)(U:List (Addr×Obj))(s:Shared)(O:St)(H:Hp)(E:Value->Shared->Prop),Inv X U O H s->(∀b∈fp,qgL X U H b)->tn i s.heap->J.go i H->
  wpAny (model P w) X.A (pyNext (.ref it)) (λr s1=> ∃u,r=some u/\
   wpAny (model P w) X.A (letOwnedTupleGo tg (.ref it) u) (λ_ s2=> ∃x H',Inv X U O H' s2/\RelV x u/\J.yld i H x H'/\tn (i+1) s2.heap/\∀b∈fp,H' b=none) E s1) E s
 done: ∀(X:Cx),X.prog=P->X.w=w->X.K=K->X.calm=true->∀(i:Nat)(U:List (Addr×Obj))(s:Shared)(O:St)(H:Hp)(E:Value->Shared->Prop),Inv X U O H s->(∀b∈fp,qgL X U H b)->tn i s.heap->J.stop i H->
  wpAny (model P w) X.A (pyNext (.ref it)) (λr s1=>r=none/\Inv X U O H s1) E s
 self: ∀(A:Around)(i:Nat)(s:Shared)(Q:Value->Shared->Prop)(E:Value->Shared->Prop),tn i s.heap->Q (.ref it) s->wpAny (model P w) A (pyIter (.ref it)) Q E s
abbrev TI:=St->Hp->(It->Hp->Prop)->Prop
noncomputable def PIE(X:Cx)(U:List (Addr×Obj))(O:St)(tg:Expr)(R:It->Hp->Prop)(itv:Value)(s2:Shared):Prop:=
 ∃(it:Addr)(fp:List Addr)(tn:Nat->Heap->Prop)(J:It)(H':Hp),itv= .ref it/\Inv X U O H' s2/\qre X.prog X.w X.K tg J fp it tn/\tn 0 s2.heap/\(∀b∈fp,qgL X U H' b)/\R J H'
noncomputable def PI(X:Cx)(tg iter:Expr)(wi:TI):Prop:=
 ∀(U:List (Addr×Obj))(s:Shared)(O:St)(H:Hp)(R:It->Hp->Prop),Inv X U O H s->wi O H R->
  wpAny (model X.prog X.w) X.A (eval iter X.env) (λv s1=>wpAny (model X.prog X.w) X.A (pyIter v) (PIE X U O tg R) X.xe s1) X.xe s
theorem qky{n:String}(ho:s.heap.get? it=some o)(hc:o.cls= .type n)(hd:o.data= .fields vs)(hn:["enumerate", "zip", "dict_itemiterator", "dict_reverseitemiterator", "odict_iterator", "itertools.zip_longest", "itertools.pairwise"].contains n=false)(hQ:Q () s):wpAny M A (letOwnedTupleGo tg (.ref it) u) Q E s:=by
 unfold letOwnedTupleGo
 cases tg<;>first
  |exact Vb hQ
  | (cases u<;>first
    |exact Vb hQ
    | (refine Va (wpAny_load ho ?_)
       rw[hc,hd];show wpAny M A (if(["enumerate", "zip", "dict_itemiterator", "dict_reverseitemiterator", "odict_iterator", "itertools.zip_longest", "itertools.pairwise"].contains n&&vs[0]? ==some (rawInt _))=true then _ else _) Q E s;rw[if_neg (by intro h;rw[hn,Bool.false_and] at h;cases h)];exact Vb hQ))
noncomputable def Itl(K:W.Frag)(a:Addr):It:=
 ⟨λi H=> ∃xs x,SqL K H a xs/\xs[i]? =some x,λi H x H'=>H'=H/\∀xs,SqL K H a xs->xs[i]? =some x,λi H=> ∃xs,SqL K H a xs/\xs.length<=i⟩
noncomputable def Itt(K:W.Frag)(a:Addr):It:=
 ⟨λi H=> ∃xs x,SqT K H a xs/\xs[i]? =some x,λi H x H'=>H'=H/\∀xs,SqT K H a xs->xs[i]? =some x,λi H=> ∃xs,SqT K H a xs/\xs.length<=i⟩
noncomputable def Itr(lo:Int)(n:Nat):It:=⟨λi _=>i<n,λi H x H'=>H'=H/\x= .int (lo+i),λi _=>n<=i⟩
theorem qjd{P:Program}{w:World}{K:W.Frag}{tg:Expr}(a it:Addr):qre P w K tg (Itl K a) [it] it (λi h=>h.IsListIter it a i) where
 mem:=by simp
 obj:=λi h st b hb=>by
  have e:b=it:=by simpa using hb
  subst e;obtain⟨o,e,c,d⟩:=st;exact⟨o,e,λv z=>by rw[d] at z;cases z⟩
 keep:=λi h h' st k=>st.at λo e=>k it (by simp) o e
 item:=by intro X hP hw hK hc i U s O H E I hf st hg;subst hP hw hK;obtain⟨xs,x,hq,hx⟩:=hg;obtain⟨its,rv,p,hz⟩:=I.list hq;obtain⟨u,hu,ru⟩:=rv.get hx;obtain⟨f0,f1,f2,f3,f4,f5⟩:=hf it (by simp);refine wpAny_pyNext_list_item st p.isList (x:=u) (by simpa using hu) λh' aF sb=> ?_;have I1:Inv X U O H { s with heap:=h' }:=I.turned (t':=s.toks) (λb o hb e=>(sb.2 b hb).trans e) f0 f1 f3 f4 f5;obtain⟨o,e,c,d⟩:=id aF;exact⟨u,rfl,qky (s:={ s with heap:=h' }) e c d (by decide) ⟨x,H,I1,ru,⟨rfl,λys hy=>by rw[I.list_inj hy hq];exact hx⟩,aF,λb hb=>(hf b hb).1⟩⟩
 done:=by intro X hP hw hK hc i U s O H E I hf st hg;subst hP hw hK;obtain⟨xs,hq,hx⟩:=hg;obtain⟨its,rv,p,hz⟩:=I.list hq;obtain⟨f0,f1,f2,f3,f4,f5⟩:=hf it (by simp);have hl:=rv.length;exact wpAny_pyNext_list_end (I.ok.hd hc) st p.isList (by simp;omega) λh' eb=>⟨rfl,I.turned (t':=s.toks) (λb o hb e=>eb b o hb e) f0 f1 f3 f4 f5⟩
 self:=λ_ _ _ _ _ st h=>wpAny_pyIter_listiter st h
theorem qhW{P:Program}{w:World}{K:W.Frag}{tg:Expr}(a it:Addr):qre P w K tg (Itt K a) [it] it (λi h=>h.IsTupleIter it a i) where
 mem:=by simp
 obj:=λi h st b hb=>by
  have e:b=it:=by simpa using hb
  subst e;obtain⟨o,e,c,d⟩:=st;exact⟨o,e,λv z=>by rw[d] at z;cases z⟩
 keep:=λi h h' st k=>st.at λo e=>k it (by simp) o e
 item:=by intro X hP hw hK hc i U s O H E I hf st hg;subst hP hw hK;obtain⟨xs,x,hq,hx⟩:=hg;obtain⟨its,rv,p,hz⟩:=I.tuple hq;obtain⟨u,hu,ru⟩:=rv.get hx;obtain⟨f0,f1,f2,f3,f4,f5⟩:=hf it (by simp);refine wpAny_pyNext_tuple_item st (show s.heap.IsTuple a its.toArray from p) (x:=u) (by simpa using hu) λh' aF sb=> ?_;have I1:Inv X U O H { s with heap:=h' }:=I.turned (t':=s.toks) (λb o hb e=>(sb.2 b hb).trans e) f0 f1 f3 f4 f5;obtain⟨o,e,c,d⟩:=id aF;exact⟨u,rfl,qky (s:={ s with heap:=h' }) e c d (by decide) ⟨x,H,I1,ru,⟨rfl,λys hy=>by rw[I.tuple_inj hy hq];exact hx⟩,aF,λb hb=>(hf b hb).1⟩⟩
 done:=by intro X hP hw hK hc i U s O H E I hf st hg;subst hP hw hK;obtain⟨xs,hq,hx⟩:=hg;obtain⟨its,rv,p,hz⟩:=I.tuple hq;obtain⟨f0,f1,f2,f3,f4,f5⟩:=hf it (by simp);have hl:=rv.length;exact wpAny_pyNext_tuple_end (I.ok.hd hc) st (show s.heap.IsTuple a its.toArray from p) (by simp;omega) λh' eb=>⟨rfl,I.turned (t':=s.toks) (λb o hb e=>eb b o hb e) f0 f1 f3 f4 f5⟩
 self:=λ_ _ _ _ _ st h=>wpAny_pyIter_tupleiter st h
theorem qhX{P:Program}{w:World}{K:PySem.W.Frag}{tg:Expr}(it:Addr)(lo:Int)(n:Nat):qre P w K tg (Itr lo n) [it] it (λi h=>IsRangeIter h it (lo+(i:Nat)*1) ((n:Int) - (i:Nat)) 1) where
 mem:=by simp
 obj:=λi h st b hb=>by
  have e:b=it:=by simpa using hb
  subst e;exact⟨_,st,λv z=>by
   have z':Data.fields _=Data.cell v:=z;cases z'⟩
 keep:=λi h h' st k=>k it (by simp) _ st
 item:=by intro X hP hw hK hc i U s O H E I hf st hg;subst hP hw hK;obtain⟨f0,f1,f2,f3,f4,f5⟩:=hf it (by simp);have W:=Walks.range (prog:=X.prog) (w:=X.w) (I.ok.hd hc) it lo 1 n;refine W.item i s _ _ hg st λv h' tk hv aF kk=> ?_;obtain⟨t,rfl⟩:=hv;have I1:Inv X U O H { s with heap:=h',toks:=tk }:=I.turned (λb o hb e=>kk b o (by simpa using hb) e) f0 f1 f3 f4 f5;refine⟨_,rfl,qky (s:={ s with heap:=h',toks:=tk }) (n:= "range_iterator") aF rfl rfl (by decide) ⟨.int (lo+i),H,I1,⟨t,?_⟩,⟨rfl,rfl⟩,aF,λb hb=>(hf b hb).1⟩⟩;rw[Int.mul_one]
 done:=by intro X hP hw hK hc i U s O H E I hf st hg;subst hP hw hK;obtain⟨f0,f1,f2,f3,f4,f5⟩:=hf it (by simp);exact wpAny_pyNext_range_end (I.ok.hd hc) st (by have:n<=i:=hg;omega) λh' eb=>⟨rfl,I.turned (t':=s.toks) (λb o hb e=>eb b o hb e) f0 f1 f3 f4 f5⟩
 self:=λ_ _ _ _ _ st h=>wpAny_pyIter_rangeiter st h
section
variable{X:Cx}{tg:Expr}
theorem ql9{U:List (Addr×Obj)}{O:St}{H:Hp}{s:Shared}{R:It->Hp->Prop}{E:Value->Shared->Prop}{lo hi:Int}{t u v:Tok}{tk:Nat}(I:Inv X U O H s)(h1: -(2 ^ 62)<=lo)(h2:lo<2 ^ 62)(h3: -(2 ^ 62)<=hi)(h4:hi<2 ^ 62)(q:R (Itr lo (hi - lo).toNat) H):wpAny (model X.prog X.w) X.A (pyIter (.ref s.heap.objs.size)) (PIE X U O tg R) E { s with heap:=s.heap.push { cls:=.type "range",data:=.fields #[.int lo t,.int hi u,.int 1 v] },toks:=tk }:=by
 refine wpAny_pyIter_range (IsRange.new ..) (small_one h1 h2 h3 h4) ?_;have I1:Inv X _ O H { s with heap:=s.heap.push { cls:=.type "range",data:=.fields #[.int lo t,.int hi u,.int 1 v] },toks:=tk }:=I.kept λb o e=>Vg _ e
 refine⟨(s.heap.push _).objs.size,[(s.heap.push _).objs.size],_,_,H,rfl,
  I1.kept λb o e=>Vg _ e,qhX _ lo _,?_,λb hb=> ?_,q⟩
 ·have e1:lo+((0:Nat))*1=lo:=by simp
  have e2:(((hi - lo).toNat)) - ((0:Nat))=Builtin.Range.rangeSize lo hi 1:=by rw[rangeSize_one];split<;>omega
  rw[e1,e2];exact Vh _ rfl
 ·have e:b=(s.heap.push { cls:=.type "range",data:=.fields #[.int lo t,.int hi u,.int 1 v] }).objs.size:=by simpa using hb
  subst e;exact I1.fpOk (Vm _) (I1.hok.fresh (Vm _))
noncomputable def qwq(ta:TA):TI:=λO H R=>ta O H λvs H1=> ∃j:Int,vs=[.int j]/\ -(2 ^ 62)<=j/\j<2 ^ 62/\R (Itr 0 j.toNat) H1
theorem qjO{a:Expr}{ta:TA}{p pos:Pos}(hg:Gl X "range")(hm:X.mg "range" =none)(ha:PA X [a] ta)(hs:starEach [a] X.env=[(false,eval a X.env)]:=by rfl):PI X tg (.Call (.Name "range" p) [a] [] pos) (qwq ta):=by
 intro U s O H R I h;refine Call_ (qcV I hg hm boot_range (PyProof.Rows.callWith_type1 (thn (ha pos U s O H _ I h) λus s1 z0=> ?_) hs rfl));obtain ⟨vs,H1,I1,r1,q1⟩:=z0;obtain⟨j,e,q1,q2,q⟩:=q1;subst e;cases r1 with
 |cons r rr=>cases rr;obtain⟨t,rfl⟩:=r;exact call_range_1 (ql9 I1 (by omega) (by omega) q1 q2 (by simpa using q))
noncomputable def qyq(wi:TI)(g:TG)(tb:TS):TS:=λD O H=>wi O H λJ H1=> ∃W:Nat->Nat->St->Hp->Prop,(∃m,W 0 m O H1)/\∀i m O H,W i m O H->
 (J.stop i H/\D.nx O H)\/(J.go i H/\∃N:St->Hp->Prop,(∀ag H',N ag H'->∃m',m'<m/\W (i+1) m' ag H')/\∀x H',J.yld i H x H'->g x O H' λaE H2=>tb { D with nx:=N,ct:=N,bk:=D.nx } aE H2)
noncomputable def qeX(fp:List Addr)(h:Heap):List (Addr×Obj):=fp.filterMap λb=>(h.get? b).map λo=>(b,o)
theorem qbq{fp:List Addr}{h:Heap}{b:Addr}{o:Obj}(hb:b∈fp)(e:h.get? b=some o):(b,o)∈qeX fp h:=List.mem_filterMap.mpr ⟨b,hb,by rw[e];rfl⟩
theorem qjV(hp:p∈qeX fp h):p.1∈fp/\h.get? p.1=some p.2:=by
 obtain⟨b,hb,e⟩:=List.mem_filterMap.mp hp;cases q:h.get? b with
 |none=>rw[q] at e;cases e
 |some o=>rw[q] at e;have e':=Option.some.inj e;subst e';exact⟨hb,q⟩
theorem Inv.pinned(I:Inv X U O H s)(hf: ∀b∈fp,qgL X U H b)(ho: ∀b∈fp,∃o,s.heap.get? b=some o/\∀v,o.data≠.cell v):Inv X (U++qeX fp s.heap) O H s:=
 I.pins_of λp hp=>(List.mem_append.mp hp).elim (λz=>I.pin p (Vs _ z)) λz=>by
  obtain⟨hb,e⟩:=qjV z;obtain⟨f0,f1,f2,_⟩:=hf p.1 hb;obtain⟨o,e',d⟩:=ho p.1 hb
  simp_all
theorem Inv.unpinned(I:Inv X (U++pl) O H s):Inv X U O H s:=I.pins_of λp hp=>I.pin p (Vs _ (Vr _ hp))
theorem qsf{iter:Expr}{body:List Stmt}{wi:TI}{g:TG}{tb:TS}{pos:Pos}(hp:PassesOwn (model X.prog X.w) X.A X.env X.xe)(hc:X.calm=true)(hi:PI X tg iter wi)(hg:PG X tg g)(hb:PSs X body tb)(hs: ∀x,foldedSetIterable iter X.env x=pure x:=by intro _;rfl):PS X (.For tg iter body [] pos) (qyq wi g tb):=by
 intro U s O H D I h;refine wpAny_For (thn (hi U s O H _ I h) λv s1 h1=>thn h1 λitv s2 h2=> ?_) hs;obtain⟨it,fp,tn,J,H2,e,I2,T,fJ,f2,W,⟨m0,w0⟩,turn⟩:=h2;subst e;have cO: ∀{H':Hp},(∀b∈fp,H' b=none)->∀b∈fp,qgL X U H' b:=λhn b hb=>⟨hn b hb,(f2 b hb).2⟩
 refine codeAny_forLoop_any (λn s'=> ∃i ag H',Inv X U ag H' s'/\tn i s'.heap/\(∀b∈fp,H' b=none)/\W i n ag H') ?_ m0 ⟨0,O,H2,I2,fJ,λb hb=>(f2 b hb).1,w0⟩;rintro n s3 ⟨i,d7,H3,I3,eB,jt,w3⟩
 rcases turn i n d7 H3 w3 with⟨stop,qn⟩|⟨go,N,hN,step⟩
 ·refine wpAny_passesOwn hp (thn (T.done X rfl rfl rfl hc i U s3 d7 H3 X.xe I3 (cO jt) eB stop) λr s4 z0=> ?_);obtain ⟨hr,I4⟩:=z0;subst hr;exact wpAny_execs_nil ⟨d7,H3,I4,qn⟩
 ·refine wpAny_passesOwn hp (thn (T.item X rfl rfl rfl hc i U s3 d7 H3 X.xe I3 (cO jt) eB go) λr s4 z0=> ?_);obtain ⟨u,hr,h4⟩:=z0;subst hr;refine wpAny_passesOwn hp (thn h4 λ_ s5 z0=> ?_);obtain ⟨x,H5,I5,r5,y5,dM,gj⟩:=z0;have I5':=I5.pinned (cO gj) (T.obj _ _ dM);refine wpAny_passesOwn hp (thn (hg _ s5 d7 H5 x u _ I5' r5 (step x H5 y5)) λ_ s6 z0=> ?_);obtain ⟨σ6,H6,I6,q6⟩:=z0;refine wpAny_passesOwn hp (thn (hb _ s6 σ6 H6 _ I6 q6) λf s7 q7=> ?_);have again: ∀{bL:St}{H7:Hp},Inv X (U++qeX fp s5.heap) bL H7 s7->N bL H7->∃m,m<n/\∃i ag H',Inv X U ag H' s7/\tn i s7.heap/\(∀b∈fp,H' b=none)/\W i m ag H':=λ{bL H7} I7 n7=>by obtain⟨m',hm,w7⟩:=hN bL H7 n7;refine⟨m',hm,i+1,bL,H7,I7.unpinned,T.keep _ _ _ dM λb hb o e=>(I7.pin (b,o) (Vs _ (Vs _ (qbq hb e)))).1,λb hb=> ?_,w7⟩;obtain⟨o,e,d⟩:=T.obj _ _ dM b hb;exact(I7.pin (b,o) (Vs _ (Vs _ (qbq hb e)))).2.1
  cases f with
  |next|cont=>obtain⟨bL,H7,I7,n7⟩:=q7;exact again I7 n7
  |brk=>obtain⟨bL,H7,I7,q7⟩:=q7;exact⟨bL,H7,I7.unpinned,q7⟩
  |ret v=>obtain⟨x7,bL,H7,I7,r7,q7⟩:=q7;exact⟨x7,bL,H7,I7.unpinned,r7,q7⟩
end
abbrev R2:=V->V->Hp->VK->Prop
noncomputable def OpR(X:Cx)(f:Value->Value->Sem Value)(r:R2):Prop:=
 ∀(U:List (Addr×Obj))(s:Shared)(O:St)(H:Hp)(x y:V)(v u:Value)(Q:VK),Inv X U O H s->RelV x v->RelV y u->r x y H Q->
  wpAny (model X.prog X.w) X.A (f v u) (EP X U O Q) X.xe s
noncomputable def UnR(X:Cx)(f:Value->Sem Value)(r:V->Hp->VK->Prop):Prop:=
 ∀(U:List (Addr×Obj))(s:Shared)(O:St)(H:Hp)(x:V)(v:Value)(Q:VK),Inv X U O H s->RelV x v->r x H Q->
  wpAny (model X.prog X.w) X.A (f v) (EP X U O Q) X.xe s
noncomputable def qau(X:Cx)(f:Value)(r:List V->Hp->VK->Prop):Prop:=
 ∀(U:List (Addr×Obj))(s:Shared)(O:St)(H:Hp)(xs:List V)(us:List Value)(Q:VK),Inv X U O H s->Vals xs us->r xs H Q->
  wpAny (model X.prog X.w) X.A (call f us) (EP X U O Q) X.xe s
noncomputable def qzk(X:Cx)(r:V->Hp->(Bool->Hp->Prop)->Prop):Prop:=
 ∀(U:List (Addr×Obj))(s:Shared)(O:St)(H:Hp)(x:V)(v:Value)(Q:Bool->Hp->Prop),Inv X U O H s->RelV x v->r x H Q->
  wpAny (model X.prog X.w) X.A (truthy v) (TP X U O Q) X.xe s
noncomputable def tOp(r:R2)(ta tb:TE):TE:=λO H Q=>ta O H λx H1=>tb O H1 λy H2=>r x y H2 Q
noncomputable def tUn(r:V->Hp->VK->Prop)(ta:TE):TE:=λO H Q=>ta O H λx H1=>r x H1 Q
noncomputable def rI(C:Int->Int->Prop)(g:Int->Int->V):R2:=λx y H Q=> ∃i j,x= .int i/\y= .int j/\C i j/\Q (g i j) H
noncomputable def rI0(g:Int->Int->V):R2:=λx y H Q=> ∃i j,x= .int i/\y= .int j/\Q (g i j) H
noncomputable def rU(g:Int->V):V->Hp->VK->Prop:=λx H Q=> ∃i,x= .int i/\Q (g i) H
section
variable{X:Cx}{a b c:Expr}{ta tb tc:TE}{pos:Pos}
theorem qxd(ha:PE X a ta)(hb:PE X b tb){U:List (Addr×Obj)}{s:Shared}{O:St}{H:Hp}{R:V->V->Hp->Prop}(I:Inv X U O H s)(h:ta O H λx H1=>tb O H1 λy H2=>R x y H2){Q:Value->Shared->Prop}{f:Value->Value->Sem Value}(hf: ∀v u s2 x y H2,Inv X U O H2 s2->RelV x v->RelV y u->R x y H2->wpAny (model X.prog X.w) X.A (f v u) Q X.xe s2):
  wpAny (model X.prog X.w) X.A (eval a X.env) (λv ae=>wpAny (model X.prog X.w) X.A (eval b X.env) (λu aP=>wpAny (model X.prog X.w) X.A (f v u) Q X.xe aP) X.xe ae) X.xe s:=by refine thn (ha _ s O H _ I h) λv s1 z0=> ?_;obtain ⟨x,H1,I1,r1,q1⟩:=z0;refine thn (hb _ s1 O H1 _ I1 q1) λu s2 z0=> ?_;obtain ⟨y,H2,I2,r2,q2⟩:=z0;exact hf v u s2 x y H2 I2 r1 r2 q2
theorem qvL{op:Operator}{r:R2}(ho:OpR X (binaryOp op) r)(ha:PE X a ta)(hb:PE X b tb):PE X (.BinOp a op b pos) (tOp r ta tb):=by intro U s O H Q I h;exact wpAny_BinOp (qxd ha hb I h λv u s2 x y H2 I2 rx ry q=>ho _ s2 O H2 x y v u Q I2 rx ry q)
theorem qvJ{op:UnaryOp}{r:V->Hp->VK->Prop}(ho:UnR X (unaryOp op) r)(ha:PE X a ta):PE X (.UnaryOp op a pos) (tUn r ta):=by intro U s O H Q I h;exact UnaryOp_ (thn (ha _ s O H _ I h) (by rintro v s1 ⟨x,H1,I1,r1,q1⟩;exact ho _ s1 O H1 x v Q I1 r1 q1))
theorem opI{f:Value->Value->Sem Value}{C:Int->Int->Prop}{g:Int->Int->Int}(rule: ∀(i j:Int)(t u:Tok)(s:Shared)(Q:Value->Shared->Prop)(E:Value->Shared->Prop),C i j->Q (.int (g i j) s.toks) { s with toks:=s.toks+1 }->wpAny (model X.prog X.w) X.A (f (.int i t) (.int j u)) Q E s):
  OpR X f (rI C λi j=>.int (g i j)):=by intro U s O H x y v u Q I rx ry h;obtain⟨i,j,rfl,rfl,hc,q⟩:=h;obtain⟨t,rfl⟩:=rx;obtain⟨t',rfl⟩:=ry;exact rule i j t t' s _ _ hc ⟨.int _,H,I.tok _,⟨_,rfl⟩,q⟩
theorem qxI{f:Value->Value->Sem Value}{g:Int->Int->Int}(rule: ∀(i j:Int)(t u:Tok)(s:Shared)(Q:Value->Shared->Prop)(E:Value->Shared->Prop),Q (.int (g i j) s.toks) { s with toks:=s.toks+1 }->wpAny (model X.prog X.w) X.A (f (.int i t) (.int j u)) Q E s):
  OpR X f (rI0 λi j=>.int (g i j)):=by intro U s O H x y v u Q I rx ry h;obtain⟨i,j,rfl,rfl,q⟩:=h;obtain⟨t,rfl⟩:=rx;obtain⟨t',rfl⟩:=ry;exact rule i j t t' s _ _ ⟨.int _,H,I.tok _,⟨_,rfl⟩,q⟩
theorem quQ{f:Value->Value->Sem Value}{g:Int->Int->Bool}(rule: ∀(i j:Int)(t u:Tok)(s:Shared)(Q:Value->Shared->Prop)(E:Value->Shared->Prop),Q (.bool (g i j)) s->wpAny (model X.prog X.w) X.A (f (.int i t) (.int j u)) Q E s):
  OpR X f (rI0 λi j=>.bl (g i j)):=by intro U s O H x y v u Q I rx ry h;obtain⟨i,j,rfl,rfl,q⟩:=h;obtain⟨t,rfl⟩:=rx;obtain⟨t',rfl⟩:=ry;exact rule i j t t' s _ _ ⟨.bl _,H,I,rfl,q⟩
noncomputable def qyf(i j:Int):Prop:=0<j/\j<1073741824
noncomputable def quW(i j:Int):Prop:=(-(2 ^ 64)<i/\i<2 ^ 64)\/(-(2 ^ 64)<j/\j<2 ^ 64)
theorem quW.ok(h:quW i j):IntMulOk i j:=by
 rcases h with⟨h1,h2⟩|⟨h1,h2⟩
 ·exact .of_left (intBits_le_64 h1 h2)
 ·exact .of_right (intBits_le_64 h1 h2)
theorem qsH:OpR X (binaryOp .Add) (rI0 λi j=>.int (i+j)):=qxI λ_ _ _ _ _ _ _ q=>add_int q
theorem qsx:OpR X (binaryOp .Sub) (rI0 λi j=>.int (i - j)):=qxI λ_ _ _ _ _ _ _ q=>sub_int q
theorem qsz:OpR X (binaryOp .Mult) (rI quW λi j=>.int (i*j)):=opI λ_ _ _ _ _ _ _ hc q=>mul_int q hc.ok
theorem qpS:OpR X (binaryOp .FloorDiv) (rI qyf λi j=>.int (i / j)):=opI λi j _ _ _ _ _ hc q=>by have h1:(0:Int)<j:=hc.1;have h2:j<1073741824:=hc.2;exact floordiv_int (by omega) (by rw[Int.fdiv_eq_ediv_of_nonneg i (by omega)];exact q) (.inl (PyProof.noPylong_small (by omega)))
theorem qsA:OpR X (binaryOp .Mod) (rI (λ_ j=>0<j) λi j=>.int (i % j)):=opI λi j _ _ _ _ _ hc q=>by have h1:(0:Int)<j:=hc;exact mod_int' (by omega) (by rw[Int.fmod_eq_emod_of_nonneg i (by omega)];exact q)
theorem unI{f:Value->Sem Value}{g:Int->Int}(rule: ∀(i:Int)(t:Tok)(s:Shared)(Q:Value->Shared->Prop)(E:Value->Shared->Prop),Q (.int (g i) s.toks) { s with toks:=s.toks+1 }->wpAny (model X.prog X.w) X.A (f (.int i t)) Q E s):
  UnR X f (rU λi=>.int (g i)):=by intro U s O H x v Q I rx h;obtain⟨i,rfl,q⟩:=h;obtain⟨t,rfl⟩:=rx;exact rule i t s _ _ ⟨.int _,H,I.tok _,⟨_,rfl⟩,q⟩
theorem qrt:UnR X (unaryOp .USub) (rU λi=>.int (-i)):=unI λ_ _ _ _ _ q=>neg_int q
end
section
variable{X:Cx}{a b c:Expr}{ta tb tc:TE}{pos:Pos}
theorem qkP(I:Inv X U O H s)(q:Q (.bl k) H)(e:k=k'):EP X U O Q (.bool k') s:=by subst e;exact⟨.bl k,H,I,rfl,q⟩
theorem qvV:OpR X (compareOp .Lt) (rI0 λi j=>.bl (decide (i<j))):=quQ λ_ _ _ _ _ _ _ q=>lt_int q
theorem qvW:OpR X (compareOp .LtE) (rI0 λi j=>.bl (decide (i<=j))):=quQ λ_ _ _ _ _ _ _ q=>le_int q
theorem qvX:OpR X (compareOp .Gt) (rI0 λi j=>.bl (decide (j<i))):=quQ λ_ _ _ _ _ _ _ q=>gt_int q
theorem qvY:OpR X (compareOp .GtE) (rI0 λi j=>.bl (decide (j<=i))):=quQ λ_ _ _ _ _ _ _ q=>ge_int q
theorem qjT:OpR X (compareOp .Lt) (λx y H Q=> ∃i j,x= .str i/\y= .str j/\Q (.bl (decide (i.cps.toList<j.cps.toList))) H):=by intro U s O H x y v u Q I rx ry h;obtain⟨i,j,rfl,rfl,q⟩:=h;obtain⟨t,rfl⟩:=rx;obtain⟨t',rfl⟩:=ry;exact lt_str (qkP I q rfl)
theorem qsD:OpR X (compareOp .Is) (λx y H Q=>y= .non/\Q (.bl (decide (x= .non))) H):=by
 intro U s O H x y v u Q I rx ry h;obtain⟨rfl,q⟩:=h;cases ry;refine is_none_gen (qkP I q ?_)
 cases x<;>first
  |(rfl)
  |(obtain⟨t,rfl⟩:=rx;rfl)
theorem qpP:OpR X (compareOp .IsNot) (λx y H Q=>y= .non/\Q (.bl (!decide (x= .non))) H):=by
 intro U s O H x y v u Q I rx ry h;obtain⟨rfl,q⟩:=h;cases ry;refine isnot_none_gen (qkP I q ?_)
 cases x<;>first
  |(rfl)
  |(obtain⟨t,rfl⟩:=rx;rfl)
theorem qf1{op:CmpOp}{r:R2}(ho:OpR X (compareOp op) r)(ha:PE X a ta)(hb:PE X b tb)(hm:behindInMarks op b=false):PE X (.Compare a [op] [b] pos) (tOp r ta tb):=by intro U s O H Q I h;exact wpAny_Compare1 (qxd ha hb I h λv u s2 x y H2 I2 rx ry q=>ho _ s2 O H2 x y v u Q I2 rx ry q) hm
noncomputable def qrA(t:TE):TT:=λO H Q=>t O H λx H'=> ∃k,x= .bl k/\Q k H'
theorem qfZ{op:CmpOp}{r:R2}(ho:OpR X (compareOp op) r)(ha:PE X a ta)(hb:PE X b tb)(hm:behindInMarks op b=false):PT X (.Compare a [op] [b] pos) (qrA (tOp r ta tb)):=by
 intro U s O H Q I h;refine wpAny_isTrue_Compare1 (thn (ha _ s O H _ I h) λv s1 ⟨x,H1,I1,r1,q1⟩=>thn (hb _ s1 O H1 _ I1 q1) λu s2 ⟨y,H2,I2,r2,q2⟩=>
  thn (ho _ s2 O H2 x y v u _ I2 r1 r2 q2) λc s3 ⟨z,H3,I3,r3,k,e,q3⟩=> ?_) hm
 subst e;cases r3;exact Vd ⟨H3,I3,q3⟩
noncomputable def qjk(r r':R2)(ta tb tc:TE):TE:=λO H Q=>ta O H λx H1=>tb O H1 λy H2=>r x y H2 λz H3=> ∃k,z= .bl k/\
 (if k=true then tc O H3 λw' H4=>r' y w' H4 Q else Q (.bl false) H3)
theorem qmp{op cR:CmpOp}{r r':R2}(ho:OpR X (compareOp op) r)(ba:OpR X (compareOp cR) r')(ha:PE X a ta)(hb:PE X b tb)(hc:PE X c tc)(hm:lastMarks [op,cR] [b,c]=false:=by with_unfolding_all rfl):PE X (.Compare a [op,cR] [b,c] pos) (qjk r r' ta tb tc):=by
 intro U s O H Q I h;refine Compare_chain (thn (ha _ s O H _ I h) λv s1 ⟨x,H1,I1,r1,q1⟩=>chain_link (thn (hb _ s1 O H1 _ I1 q1) λu s2 ⟨y,H2,I2,r2,q2⟩=>
  thn (ho _ s2 O H2 x y v u _ I2 r1 r2 q2) λd s3 ⟨z,H3,I3,r3,k,e,q3⟩=> ?_)) hm
 subst e;cases r3;refine Vd ?_;cases k with
 |false=>exact ite_ff ⟨.bl _,H3,I3,rfl,q3⟩
 |true=>exact ite_tt (chain_last (thn (hc _ s3 O H3 _ I3 q3) (by rintro w' s4 ⟨z',H4,I4,r4,q4⟩;exact ba _ s4 O H4 y z' u w' Q I4 r2 r4 q4)))
theorem qmc{op cR:CmpOp}{r r':R2}(ho:OpR X (compareOp op) r)(ba:OpR X (compareOp cR) r')(ha:PE X a ta)(hb:PE X b tb)(hc:PE X c tc)(hm:lastMarks [op,cR] [b,c]=false:=by with_unfolding_all rfl):PT X (.Compare a [op,cR] [b,c] pos) (qrA (qjk r r' ta tb tc)):=by
 intro U s O H Q I h;refine isTrue_chain (thn (ha U s O H _ I h) λv s1 ⟨x,H1,I1,r1,q1⟩=>test_link (thn (hb U s1 O H1 _ I1 q1) λu s2 ⟨y,H2,I2,r2,q2⟩=>
  thn (ho U s2 O H2 x y v u _ I2 r1 r2 q2) λd s3 ⟨z,H3,I3,r3,k,e,q3⟩=> ?_)) hm
 subst e;cases r3;refine Vd ?_;cases k with
 |false=>obtain⟨k',e',q'⟩:=q3;cases e';exact ite_ff ⟨H3,I3,q'⟩
 |true=>refine ite_tt (test_last (thn (hc U s3 O H3 _ I3 q3) λw' s4 ⟨z',H4,I4,r4,q4⟩=>thn (ba U s4 O H4 y z' u w' _ I4 r2 r4 q4) λd' s5 z0=> ?_));obtain ⟨z2,H5,I5,r5,k2,e2,q5⟩:=z0;subst e2;cases r5;exact Vd ⟨H5,I5,q5⟩
noncomputable def qzj(K:W.Frag)(x:V)(H:Hp)(k:Bool):Prop:=
 match x with
 |.non=>k=false
 |.bl b=>k=b
 |.int i=>k=(i != 0)
 |.str y=>y.length<=sizeLine/\k=((y.length:Int) != 0)
 |.byt y=>y.size<=sizeLine/\k=((y.size:Int) != 0)
 |.ref p=>(∃xs,SqL K H p xs/\k= !xs.isEmpty)\/(∃xs,SqT K H p xs/\k= !xs.isEmpty)\/∃kvs,H p=some (.dK kvs)/\k= !kvs.isEmpty
 |_=>False
theorem qiz{κ:Type}{kvs:List (κ×V)}{vs:List (κ×Value)}(r:KV kvs vs):(!vs.isEmpty)= !kvs.isEmpty:=by cases r<;>rfl
theorem qdC{xs:List V}{its:List Value}(r:Vals xs its):(!its.toArray.isEmpty)= !xs.isEmpty:=by cases r<;>simp
theorem qfa:(sizeLine:Nat)<2 ^ 63:=by decide
theorem qxq:qzk X (λx H Q=> ∃k,qzj X.K x H k/\Q k H):=by
 intro U s O H x v Q I rx h;obtain⟨k,e,q⟩:=h;have hl:=qfa;have hs:sizeLine=16777216:=sizeLine_eq;cases x with
 |non=>cases rx;have e':k=false:=e;subst e';exact truthy_none ⟨H,I,q⟩
 |bl b=>cases rx;have e':k=b:=e;subst e';exact Vd ⟨H,I,q⟩
 |int i=>obtain⟨t,rfl⟩:=rx;have e':k=(i != 0):=e;subst e';exact P.truthy_int ⟨H,I,q⟩
 |str y=>obtain⟨t,rfl⟩:=rx;obtain⟨hy,e'⟩:y.length<=sizeLine/\k=((y.length:Int) != 0):=e;subst e';exact P.truthy_str (by omega) ⟨H,I.tok _,q⟩
 |byt y=>obtain⟨t,rfl⟩:=rx;obtain⟨hy,e'⟩:y.size<=sizeLine/\k=((y.size:Int) != 0):=e;subst e';exact W.truthy_bytes (by omega) ⟨H,I.tok _,q⟩
 |ref p=>
  cases rx;have e':(∃xs,SqL X.K H p xs/\k= !xs.isEmpty)\/(∃xs,SqT X.K H p xs/\k= !xs.isEmpty)\/∃kvs,H p=some (.dK kvs)/\k= !kvs.isEmpty:=e
  rcases e' with⟨xs,hx,e'⟩|⟨xs,hx,e'⟩|⟨kvs,hx,e'⟩
  ·subst e';obtain⟨its,r,pl,hz⟩:=I.list hx;have hlen:=r.length;exact wpAny_truthy_list pl.isList (by simp only[List.size_toArray];omega) ⟨H,I.tok _,by rw[qdC r];exact q⟩
  ·subst e';obtain⟨its,r,pl,hz⟩:=I.tuple hx;have hlen:=r.length;exact truthy_tuple pl (by simp only[List.size_toArray];omega) ⟨H,I.tok _,by rw[qdC r];exact q⟩
  ·subst e';obtain⟨hz,hS,vs,r,m⟩:kvs.length<=sizeLine/\(p==sysModules)=false/\∃vs,KV kvs vs/\s.heap.DictOf (qaq X.prog X.w) p vs:=I.hok p _ hx;have hlen:kvs.length=vs.length:=Paired.length r;exact wpAny_truthy_dict hS m (by omega) ⟨H,I.tok _,by rw[qiz r];exact q⟩
 |_=>exact(show False from e).elim
theorem qic:OpR X (binaryOp .Add) (λx y H Q=> ∃i j,x= .str i/\y= .str j/\i.length+j.length<=sizeLine/\Q (.str (i++j)) H):=by intro U s O H x y v u Q I rx ry h;obtain⟨i,j,rfl,rfl,hz,q⟩:=h;obtain⟨t,rfl⟩:=rx;obtain⟨t',rfl⟩:=ry;exact add_str (λt' tk=>⟨.str (i++j),H,I.tok _,⟨_,rfl⟩,q⟩) hz
theorem qdT(r:Vals [x] us): ∃u,us=[u]/\RelV x u:=by
 cases r with
 |cons r1 r2=>cases r2;exact⟨_,rfl,r1⟩
theorem qhT(r:Vals [x,y] us): ∃u w',us=[u,w']/\RelV x u/\RelV y w':=by
 cases r with
 |cons r1 r2=>
  cases r2 with
  |cons r3 r4=>cases r4;exact⟨_,_,rfl,r1,r3⟩
theorem qlo(hc:X.calm=true):qau X (.builtin "max") (λxs H Q=> ∃i j,xs=[.int i,.int j]/\Q (.int (if j>i then j else i)) H):=by
 intro U s O H xs us Q I r h;obtain⟨i,j,rfl,q⟩:=h;obtain⟨u,w',rfl,⟨t,rfl⟩,⟨t',rfl⟩⟩:=qhT r;refine max_two_ints (I.ok.hd hc) λh' tk k=>⟨_,H,I.kept k,?_,q⟩
 by_cases hj:j>i
 ·rw[if_pos hj,if_pos hj];exact⟨_,rfl⟩
 ·rw[if_neg hj,if_neg hj];exact⟨_,rfl⟩
theorem qlm(hc:X.calm=true):qau X (.builtin "min") (λxs H Q=> ∃i j,xs=[.int i,.int j]/\Q (.int (if j<i then j else i)) H):=by
 intro U s O H xs us Q I r h;obtain⟨i,j,rfl,q⟩:=h;obtain⟨u,w',rfl,⟨t,rfl⟩,⟨t',rfl⟩⟩:=qhT r;refine min_two_ints (I.ok.hd hc) λh' tk k=>⟨_,H,I.kept k,?_,q⟩
 by_cases hj:j<i
 ·rw[if_pos hj,if_pos hj];exact⟨_,rfl⟩
 ·rw[if_neg hj,if_neg hj];exact⟨_,rfl⟩
noncomputable def qzm(K:W.Frag)(x:V)(H:Hp)(n:Nat):Prop:=
 match x with
 |.str y=>y.length<=sizeLine/\n=y.length
 |.byt y=>y.size<=sizeLine/\n=y.size
 |.ref p=>(∃xs,SqL K H p xs/\n=xs.length)\/∃xs,SqT K H p xs/\n=xs.length
 |_=>False
theorem qnA:qau X (.builtin "len") (λxs H Q=> ∃x n,xs=[x]/\qzm X.K x H n/\Q (.int n) H):=by
 intro U s O H xs us Q I r h;obtain⟨x,n,rfl,e,q⟩:=h;obtain⟨u,rfl,rx⟩:=qdT r;have hs:=sizeLine_eq;cases x with
 |str y=>obtain⟨t,rfl⟩:=rx;obtain⟨hy,e'⟩:y.length<=sizeLine/\n=y.length:=e;subst e';exact len_str (by omega) ⟨.int _,H,I.tok _,⟨_,rfl⟩,q⟩
 |byt y=>obtain⟨t,rfl⟩:=rx;obtain⟨hy,e'⟩:y.size<=sizeLine/\n=y.size:=e;subst e';exact W.len_bytes (by omega) ⟨.int _,H,I.tok _,⟨_,rfl⟩,q⟩
 |ref p=>
  cases rx;have e':=e
  rcases e' with⟨xs,hx,e'⟩|⟨xs,hx,e'⟩
  ·subst e';obtain⟨its,r',pl,hz⟩:=I.list hx;have hlen:=r'.length;exact Calls.call_len_list pl.isList (by simp only[List.size_toArray];omega) ⟨.int _,H,I.tok _,⟨_,by simp only[List.size_toArray];rw[hlen]⟩,q⟩
  ·subst e';obtain⟨its,r',pl,hz⟩:=I.tuple hx;have hlen:=r'.length;exact len_tuple pl (by simp only[List.size_toArray];omega) ⟨.int _,H,I.tok _,⟨_,by simp only[List.size_toArray];rw[hlen]⟩,q⟩
 |_=>exact(e).elim
end
structure qrf(h:Heap)(x dx C:Addr)(mA:Str->Option Value):Prop where
 obj:h.get? x=some (W.instObj C dx)
 ns:h.Ns1 dx mA
 ne:dx≠x
theorem qj9{h:Heap}(n:h.Ns1 dx mA): ∃od,h.get? dx=some od/\∀name,W.lookIn name od=some (mA name):=by
 obtain⟨o,es,ep,ho,hd,hk,_,hm⟩:=n;refine⟨o,ho,λname=> ?_⟩;have e:=hm name;unfold nsFind findBy at e;rw[<-Array.find?_toList] at e;unfold W.lookIn;rw[hd];dsimp only;split
 ·simp_all
 ·have a:es.toList.any (·.refKey)=false:=by rw[List.any_eq_false];intro y hy;obtain⟨z,t,ic⟩:=hk y (Array.mem_toList_iff.mp hy);simp[DictEntry.refKey,ic]
  grind
theorem qrf.look(I:qrf h x dx C mA): ∃od,W.InstAt h x (W.instObj C dx) C (some od)/\∀name,W.lookIn name od=some (mA name):=
 let ⟨od,ho,hl⟩:=qj9 I.ns
 ⟨od,⟨I.obj,rfl,rfl,ho⟩,hl⟩
section
variable{name:Str}
theorem qqo{s:Shared}{K:W.Frag}{expr:Bool}(X:K.In s.heap)(I:qrf s.heap x dx C mA)(hg:W.plainGet K C name=true)(hh:W.hasDictIn K C=true)(ha:W.findIn K (.ref C) name=some none)(hv:mA name=some v)(b7:W.handedIn v=true)(h:Q v { s with toks:=s.toks+1 }):
  wpAny (model prog w) A (getAttr (.ref x) name expr) Q E s:=by obtain⟨od,J,hl⟩:=I.look;exact W.get_value X J (W.plainGet_of hg).1 (W.findObj_own hh ha rfl (by rw[hl,hv])) b7 h
theorem qmX{s:Shared}{K:W.Frag}(X:K.In s.heap)(I:qrf s.heap x dx C mA)(hg:W.plainGet K C name=true)(hf:W.findIn K (.ref C) name=some (some (.ref f)))(ht:W.isFn K (.ref f)=true)(hv:mA name=none)(h:Q (.ref f,[.ref x]) s):
  wpAny (model prog w) A (getMethod (.ref x) name pl) Q E s:=by obtain⟨od,J,hl⟩:=I.look;exact W.method_fn X J (W.plainGet_of hg).1 (W.plainGet_of hg).2 hf (beq_iff_eq.mp ht) (by show(W.lookIn _ od).map _=some _;rw[hl,hv];rfl) h
theorem qph{s:Shared}{K:W.Frag}{ns:List Str}(X:K.In s.heap)(I:qrf s.heap x dx C mA)(hs:W.findIn K (.ref C) "__setattr__" =some (some (.builtin "object.__setattr__")))(hp:W.plainOver K C=true)(ht:W.takerIn K C name=some none)(hh:W.hasDictIn K C=true)(hw:PySem.Within mA ns)(hsz:ns.length<=sizeLine)(h: ∀h',qrf h' x dx C (λy=>if y=name then some v else mA y)->Heap.SameBut dx s.heap h'->Q () { s with heap:=h',toks:=s.toks+2 }):
  wpAny (model prog w) A (setAttr (.ref x) name v) Q E s:=by obtain⟨od,J,hl⟩:=I.look;refine W.set_plain X J hs (W.osa_open (r:=none) X J hp ht λb=> ?_);obtain⟨cd,hc,dA⟩:=W.any_some hh;have hx:=I.obj;refine Va (Vb (Va (Va (wpAny_loadPart hx (Va (W.Looks.here (W.looks_clsIn X hc) ?_))))));rw[dA];refine Vb (Va (Vb (Va ?_)));refine wpAny_nsSet1 I.ns λh' fV c7=> ?_;obtain⟨oD,esD,epD,df,iz,hcD⟩:=fV.count (PySem.Within.cons name v hw);refine Va (wpAny_lookBehind df (by rw[iz];exact pastItsLine_dict (Vp hcD (by grind))) ?_);exact Vb (h _ ⟨(c7.2 _ (Ne.symm I.ne)).trans I.obj,fV,I.ne⟩ c7)
theorem qmC{A:Around}{s:Shared}{K:W.Frag}(X:K.In s.heap)(hm:W.makesIn K C=true)(hi:W.findIn K (.ref C) "__init__" =some (some (.ref f)))(hf:W.typeIn K (.ref f)=some (.type "function"))(h:codeAny (model prog w) (A.under (.builtin "type.__call__" ⟨.ref C::vs,kw⟩)) (.call (.ref f) ⟨.ref (s.heap.objs.size+1)::vs,kw⟩) (W.InitBack (s.heap.objs.size+1) R)
   { s with heap:=(s.heap.push W.emptyDict).push (W.instObj C s.heap.objs.size) }):
  codeAny (model prog w) A (.call (.ref C) ⟨vs,kw⟩) R s:=by exact W.make_core (W.makes_of X hm) (W.looks_findIn X hi) (λself=>W.bind_fn X _ hf) (.inl rfl) h
end
noncomputable def qeA(f:Str)(v:V):List (Str×V)->List (Str×V)
 |[]=>[(f,v)]
 |(g,x)::r=>if g=f then(g,v)::r else(g,x)::qeA f v r
theorem qcS(f g:Str)(v:V): ∀fs:List (Str×V),(qeA f v fs).lookup g=if g=f then some v else fs.lookup g
 |[]=>by
  show List.lookup g [(f,v)]=_;by_cases h:g=f
  ·simp_all
  simp_all
 |(k,x)::r=>by
  have ih:=qcS f g v r;rw[show qeA f v _=(if k=f then(k,v)::r else(k,x)::qeA f v r) from rfl];by_cases hk:k=f
  ·rw[if_pos hk];by_cases h:g=k
   ·simp_all
   ·have hb:=beq_eq_false_iff_ne.mpr h;simp only[List.lookup,hb,if_neg (λe:g=f=>h (e.trans hk.symm))]
  ·rw[if_neg hk];by_cases h:g=k
   ·simp_all
   ·have hb:=beq_eq_false_iff_ne.mpr h;simp only[List.lookup,hb];exact ih
theorem qcW(f:Str)(v:V): ∀fs:List (Str×V),f∈(qeA f v fs).map (·.1)/\∀g,g∈fs.map (·.1)->g∈(qeA f v fs).map (·.1)
 |[]=>⟨by simp[qeA],λg h=>by simp at h⟩
 |(k,x)::r=>by
  obtain⟨i1,i2⟩:=qcW f v r;rw[show qeA f v _=(if k=f then(k,v)::r else(k,x)::qeA f v r) from rfl]
  grind
theorem qcU(f:Str)(v:V): ∀fs:List (Str×V),(qeA f v fs).length<=fs.length+1
 |[]=>by simp[qeA]
 |(k,x)::r=>by
  have ih:=qcU f v r;rw[show qeA f v _=(if k=f then(k,v)::r else(k,x)::qeA f v r) from rfl]
  grind
theorem qfH.some_of(r:qfH (some v) o): ∃u,o=some u/\RelV v u:=by
 cases o with
 |none=>exact(r).elim
 |some u=>exact⟨u,rfl,r⟩
theorem qfH.none_of(r:qfH none o):o=none:=by
 cases o with
 |none=>rfl
 |some u=>exact(r).elim
theorem qkw(r:RelV v u):W.handedIn u=true:=by
 cases v with
 |non|bl b=>cases(r);rfl
 |int i|str x|byt b|flt b=>obtain⟨t,e⟩:=(r);cases e;rfl
 |ref a|ty n=>cases(r);rfl
section
theorem qeh(hok:HOk P w H h)(e:H a=some (.ins C dx fs)): ∃mA,qrf h a dx C mA/\(∀f,qfH (fs.lookup f) (mA f))/\PySem.Within mA (fs.map (·.1))/\fs.length<=1000/\H dx=some (.own a):=by
 obtain⟨d,z,ne,ob,mA,n,r,q⟩:=(hok a _ e)
 exact⟨mA,⟨ob,n,ne⟩,r,q,z,d⟩
end
structure Cls(K:W.Frag)(C:Addr):Prop where
 pg:W.plainGet K C Str.empty=true
 hd:W.hasDictIn K C=true
 po:W.plainOver K C=true
 sa:W.findIn K (.ref C) "__setattr__" =some (some (.builtin "object.__setattr__"))
theorem Cls.get{K:W.Frag}{C:Addr}(c:Cls K C)(f:Str):W.plainGet K C f=true:=c.pg
noncomputable def qa5(K:W.Frag)(C:Addr)(f:Str):Prop:=W.findIn K (.ref C) f=some none
theorem qa5.taker{K:W.Frag}{C:Addr}{f:Str}(n:qa5 K C f):W.takerIn K C f=some none:=by unfold W.takerIn;rw[n];rfl
structure Con(K:W.Frag)(C:Addr)(f:Str)(v:V)(u:Value):Prop where
 at_:W.findIn K (.ref C) f=some (some u)
 rel:RelV v u
 get:W.specialIn K u "__get__" =some none
 cp:W.copiedNames.contains f=false
structure quC(K:W.Frag)(C:Addr)(m:Str)(f:Addr):Prop where
 at_:W.findIn K (.ref C) m=some (some (.ref f))
 fn:W.isFn K (.ref f)=true
 kp:W.keepIn K (.ref f)=true
section
variable{f:Str}
theorem qiA(I:Inv X U O H s)(e:H a=some (.ins C dx fs))(c:Cls X.K C)(n:qa5 X.K C f)(l:fs.lookup f=some v)(h: ∀u s',Inv X U O H s'->RelV v u->Q u s'):wpAny (model X.prog X.w) A (getAttr (.ref a) f b) Q E s:=by obtain⟨mA,be,r,_,_,_⟩:=qeh I.hok e;obtain⟨u,hu,ru⟩:=qfH.some_of (by rw[<-l];exact r f);exact qqo I.kIn be (c.get f) c.hd n hu (qkw ru) (h u _ (I.tok _) ru)
theorem qdF{m:Str}(I:Inv X U O H s)(e:H a=some (.ins C dx fs))(c:Cls X.K C)(k:quC X.K C m g)(l:fs.lookup m=none)(h:Q (.ref g,[.ref a]) s):wpAny (model X.prog X.w) A (getMethod (.ref a) m pl) Q E s:=by obtain⟨mA,be,r,_,_,_⟩:=qeh I.hok e;have hn:=qfH.none_of (by rw[<-l];exact r m);exact qmX I.kIn be (c.get m) k.at_ k.fn hn h
theorem qh7(I:Inv X U O H s)(e:H a=some (.ins C dx fs))(c:Cls X.K C)(n:qa5 X.K C f)(hl:fs.length<1000)(ry:RelV y u)(h: ∀s',Inv X U O (upd H a (.ins C dx (qeA f y fs))) s'->Q () s'):wpAny (model X.prog X.w) A (setAttr (.ref a) f u) Q E s:=by
 obtain⟨mA,be,r,wi,_,ho⟩:=qeh I.hok e;have hz:(fs.map (·.1)).length<=sizeLine:=by rw[List.length_map,sizeLine_eq];omega
 refine qph I.kIn be c.sa c.po n.taker c.hd wi hz λh' O' sb=>h _ ?_;have hd: ∃o,h'.get? dx=some o:=let ⟨o,_,_,e',_⟩:=O'.ns;⟨o,e'⟩
 refine I.write (x:=a) (e:=dx) (by rw[e];exact True.intro) (.inr ho) (λb q hb z=>(sb.2 b hb).trans z) hd ?_;refine⟨by rw[qad be.ne];exact ho,?_,be.ne,O'.obj,_,O'.ns,λg=> ?_,λg hg=> ?_⟩
 ·have:=qcU f y fs;omega
 ·rw[qcS];by_cases q:g=f
  ·rw[if_pos q,if_pos q];exact ry
  grind
 ·by_cases q:g=f
  ·rw[q];exact(qcW f y fs).1
  ·refine(qcW f y fs).2 g (wi g λz=>hg ?_)
   grind
theorem Inv.made(I:Inv X U O H s):Inv X U O (upd (upd H s.heap.objs.size (.own (s.heap.objs.size+1))) (s.heap.objs.size+1) (.ins C s.heap.objs.size []))
  { s with heap:=(s.heap.push W.emptyDict).push (W.instObj C s.heap.objs.size) }:=by
 have e1:(s.heap.push W.emptyDict).get? _=some _:=Vh _ rfl;have e2:=by
  have:=Vh (s.heap.push W.emptyDict) (o:=W.instObj C s.heap.objs.size) rfl
  rwa [Heap.size_push] at this
 have e3:(s.heap.push _).Ns _ _:=⟨W.emptyDict, #[],_,e1,rfl,(λe he=>absurd he (by simp)),λ_=>rfl⟩
 have I1:=I.laid (o:=.own (s.heap.objs.size+1)) (t':=s.toks) (λb u q=>Vg _ q) (Vm _) ⟨_,e1⟩;refine I1.laid (λb u q=>Vg _ q) (Nat.le_of_eq (Heap.size_push _ _)) ?_;have ne:s.heap.objs.size≠s.heap.objs.size+1:=Vo (Vz _);refine⟨by rw[qad ne,qae],Nat.zero_le _,ne,e2,λ_=>none,(Heap.Ns1.of_empty e3).at λo q=>Vg _ q,λ_=>True.intro,λy hy=>absurd rfl hy⟩
theorem qrb{f:Str}(hb:attributeBase e f env (eval e env)=eval e env)(h:wpAny (model prog w) A (eval e env) (λo ae=>wpAny (model prog w) A (getAttr o f true) Q E ae) E s):wpAny (model prog w) A (eval (.Attribute e f pos) env) Q E s:=
 Attribute_any_ h (by rw[arm_eval_Attribute,hb])
end
noncomputable def qxs(K:W.Frag)(ta:TE)(f:Str):TE:=λO H Q=>ta O H λx H1=> ∃a C dx fs v,x= .ref a/\H1 a=some (.ins C dx fs)/\Cls K C/\qa5 K C f/\fs.lookup f=some v/\Q v H1
noncomputable def qyu(K:W.Frag)(ta tv:TE)(f:Str):TS:=λD O H=>tv O H λy H1=>ta O H1 λx H2=> ∃a C dx fs,x= .ref a/\H2 a=some (.ins C dx fs)/\Cls K C/\qa5 K C f/\fs.length<1000/\
 D.nx O (upd H2 a (.ins C dx (qeA f y fs)))
section
variable{f:Str}
theorem qss{X:Cx}{e:Expr}{pos:Pos}{ta:TE}(he:PE X e ta)(hb:attributeBase e f X.env (eval e X.env)=eval e X.env):PE X (.Attribute e f pos) (qxs X.K ta f):=by intro U s O H Q I h;refine qrb hb (thn (he _ s O H _ I h) λu s1 z0=> ?_);obtain ⟨x,H1,I1,rx,a,C,dx,fs,v,ex,ea,c,n,l,q⟩:=z0;subst ex;obtain rfl:u=Value.ref a:=rx;exact qiA I1 ea c n l λu' s2 I2 ru=>⟨v,H1,I2,ru,q⟩
theorem qsg{X:Cx}{o:Expr}{value:Expr}{pos:Pos}{pos':Pos}{ta:TE}{tv:TE}(ha:PE X o ta)(hv:PE X value tv)(hs:swapsWith value (some (.Attribute o f pos')) pos.line X.env=pure false):PS X (.Assign [.Attribute o f pos'] value pos) (qyu X.K ta tv f):=by intro U s O H D I h;refine plainObj_wpAny_Assign_Attribute (thn (hv _ s O H _ I h) λu s1 ⟨y,H1,I1,ry,q⟩=>thn (ha _ s1 O H1 _ I1 q) λov s2 z0=> ?_) hs;obtain ⟨x,H2,I2,rx,a,C,dx,fs,ex,ea,c,n,l,q2⟩:=z0;subst ex;obtain rfl:ov=Value.ref a:=rx;exact qh7 I2 ea c n l ry λs3 I3=>⟨O,_,I3,q2⟩
noncomputable def rAdd:V->V->Hp->VK->Prop:=λx y H Q=> ∃i j,x= .int i/\y= .int j/\Q (.int (i+j)) H
end
section
inductive qgK(K:W.Frag)(H:Hp):V->Value->Prop where
 |non:qgK K H .non (.type "NoneType")
 |bl (x:Bool):qgK K H (.bl x) (.type "bool")
 |int (i:Int):qgK K H (.int i) (.type "int")
 |str (x:Str):qgK K H (.str x) (.type "str")
 |flt (x:UInt64):qgK K H (.flt x) (.type "float")
 |lst {a:Addr} {xs:List V} (e:H a=some (.lst xs)):qgK K H (.ref a) (.type "list")
 |frz {a:Addr} {o:Obj} {xs:List V} (e:H a=some (.frz o (.lst xs))):qgK K H (.ref a) (.type "list")
 |tup {a:Addr} {xs:List V} (e:H a=some (.tup xs)):qgK K H (.ref a) (.type "tuple")
 |dK {a:Addr} {kvs:List (Key×V)} (e:H a=some (.dK kvs)):qgK K H (.ref a) (.type "dict")
 |dT {a:Addr} {kvs:List (List Key×V)} (e:H a=some (.dT kvs)):qgK K H (.ref a) (.type "dict")
 | ins {a C dx:Addr} {fs:List (Str×V)} (e:H a=some (.ins C dx fs)) (cl:Cls K C) (ha:W.findIn K (.ref C) "__class__" =some (some (.builtin "object.__class__")))
   (hn:W.specialIn K (.builtin "object.__class__") "__get__" =some (some (.builtin "getset_descriptor.__get__"))) (jb:W.takesIn K (.builtin "object.__class__")=some true)
   (hm:W.mroIn K C (.type "object")=some true):qgK K H (.ref a) (.ref C)
theorem qkn(I:Inv X U O H s)(rx:RelV x u)(ty:qgK X.K H x t)(e:W.kitOne X.K t c=some b)(h: ∀tk,Q (.bool b) { s with toks:=tk }):
  wpAny (model X.prog X.w) A (call (.builtin "isinstance") [u,c]) Q E s:=by
 cases ty with
 |non=>cases(show u=Value.none from rx);exact W.kia_one W.kitx_none I.kIn True.intro e (λz=>nomatch z) h
 |bl y=>cases(show u=Value.bool y from rx);exact W.kia_one W.kitx_bool I.kIn True.intro e (λz=>nomatch z) h
 |int i=>obtain⟨t,q⟩:=(show ∃t,u=Value.int i t from rx);cases q;exact W.kia_one W.kitx_int I.kIn True.intro e (λz=>nomatch z) h
 |str y=>obtain⟨t,q⟩:=(show ∃t,u=Value.str y t from rx);cases q;exact W.kia_one W.kitx_str I.kIn True.intro e (λz=>nomatch z) h
 |flt y=>obtain⟨t,q⟩:=(show ∃t,u=Value.float y t from rx);cases q;exact W.kia_one W.kitx_float I.kIn True.intro e (λz=>nomatch z) h
 |@lst a xs ea=>
  cases(show u=Value.ref a from rx);obtain⟨_,_,n,_,h1⟩:=(show qaG X.prog X.w H s.heap a (.lst xs) from I.hok a _ ea)
  exact W.kia_one W.kitx_list I.kIn ⟨_,h1,rfl⟩ e (λz=>nomatch z) h
 |@frz a ob xs ea=>
  cases(show u=Value.ref a from rx);obtain⟨_,_,_,n,_,h1⟩:=(show qaG X.prog X.w H s.heap a (.frz ob (.lst xs)) from I.hok a _ ea)
  exact W.kia_one W.kitx_list I.kIn ⟨_,h1,rfl⟩ e (λz=>nomatch z) h
 |@tup a xs ea=>
  cases(show u=Value.ref a from rx);obtain⟨_,_,_,p⟩:=(show qaG X.prog X.w H s.heap a (.tup xs) from I.hok a _ ea)
  obtain⟨o,h1,h2,_⟩:=p;exact W.kia_one W.kitx_tuple I.kIn ⟨o,h1,h2⟩ e (λz=>nomatch z) h
 |@dK a kvs ea=>
  cases(show u=Value.ref a from rx);obtain⟨_,_,vs,_,p⟩:=(show qaG X.prog X.w H s.heap a (.dK kvs) from I.hok a _ ea)
  obtain⟨o,es,ep,h1,h2,_⟩:=p;exact W.kia_one W.kitx_dict I.kIn ⟨o,h1,h2.1⟩ e (λz=>nomatch z) h
 |@dT a kvs ea=>
  cases(show u=Value.ref a from rx);obtain⟨_,_,xs,_,o,es,ep,h1,h2,_⟩:=(show qaG X.prog X.w H s.heap a (.dT kvs) from I.hok a _ ea)
  exact W.kia_one W.kitx_dict I.kIn ⟨o,h1,h2.1⟩ e (λz=>nomatch z) h
 |@ins a C dx fs ea cl ha hn jb hm=>cases(show u=Value.ref a from rx);obtain⟨mA,be,_⟩:=qeh I.hok ea;obtain⟨od,J,_⟩:=be.look;exact W.kia_one (W.kitx_own (cl.get _) cl.hd ha hn jb hm) I.kIn J e (λz=>nomatch z) h
end
structure qbl(k:Nat)(A:Around):Prop where
 hd:A.handled=none
 dp:A.depth+3*k+5<recursionLimit
 un:A.units+16*k+200<cLine
theorem qbl.mono(r:qbl k A)(h:j<=k):qbl j A:=⟨r.hd,by have:=r.dp;omega,by have:=r.un;omega⟩
theorem qbl.deeper(r:qbl (k+1) A)(env:Env):qbl k (A.deeper env):=
 ⟨r.hd,by have:=r.dp;show A.depth+1+3*k+5<_;omega,by have:=r.un;show A.units+3+16*k+200<_;omega⟩
theorem qio{A:Around}:(A.under (.builtin "type.__call__" ⟨.ref C::us,kw⟩)).depth=A.depth+1:=rfl
theorem qin{A:Around}:(A.under (.builtin "type.__call__" ⟨.ref C::us,kw⟩)).units=A.units+1:=rfl
theorem qbl.make(r:qbl (k+1) A)(C:Addr)(us:List Value)(kw:List (Str×Value)):qbl k (A.under (.builtin "type.__call__" ⟨.ref C::us,kw⟩)):=
 ⟨r.hd,by have:=r.dp;rw[qio];omega,by have:=r.un;rw[qin];omega⟩
theorem qbl.depth(r:qbl k A):A.depth<recursionLimit:=by have:=r.dp;omega
theorem qbl.units(r:qbl k A):A.units+64<cLine:=by have:=r.un;omega
noncomputable def qu9:TA:=λ_ H Q=>Q [] H
noncomputable def qvc(ta:TE)(tr:TA):TA:=λO H Q=>ta O H λx H1=>tr O H1 λxs H2=>Q (x::xs) H2
section
theorem qhg:PA X [] qu9:=λ_ _ _ _ H Q I h=>Calls.spliced_nil ⟨[],H,I,.nil,h⟩
theorem qcQ{X:Cx}{e:Expr}{es:List Expr}{te:TE}{t:TA}(ha:PE X e te)(hr:PA X es t)(hs:starEach (e::es) X.env=(false,eval e X.env)::starEach es X.env:=by rfl):PA X (e::es) (qvc te t):=by intro pos U s O H Q I h;rw[hs];refine Calls.spliced_cons (thn (ha _ s O H _ I h) λu s1 z0=> ?_);obtain ⟨x,H1,I1,r1,q1⟩:=z0;exact thn (hr pos _ s1 O H1 _ I1 q1) (by rintro us s2 ⟨xs,H2,I2,r2,q2⟩;exact⟨x::xs,H2,I2,.cons r1 r2,q2⟩)
noncomputable def qyj(t:TA):TE:=λO H Q=>t O H λxs H1=>xs.length<=sizeLine/\∀p,H1 p=none->Q (.ref p) (upd H1 p (.tup xs))
noncomputable def qyo(t:TA):TE:=λO H Q=>t O H λxs H1=>xs.length<=sizeLine/\∀p,H1 p=none->Q (.ref p) (upd H1 p (.lst xs))
theorem qsn{x1}(h:PA X es t):PE X (.Tuple es x1 pos) (qyj t):=by intro U s O H Q I hq;refine wpAny_Tuple_spliced (thn (h pos _ s O H _ I hq) λus s1 ⟨xs,H1,I1,r,z,q⟩=>⟨by rw[<-r.length];exact z,?_⟩);have hf:=I1.hok.fresh (Vm _);refine⟨.ref _,upd H1 _ _,I1.laid (λb u e=>Vg _ e) (Vm _) ?_,rfl,q _ hf⟩;exact⟨z,us,r,⟨_,Vh _ rfl,rfl,_,rfl⟩⟩
theorem qsq(h:PA X es t):PE X (.List es pos) (qyo t):=by intro U s O H Q I hq;refine wpAny_List_spliced (thn (h pos _ s O H _ I hq) λus s1 ⟨xs,H1,I1,r,z,q⟩=>⟨by rw[<-r.length];exact z,?_⟩);have hf:=I1.hok.fresh (Vm _);refine⟨.ref _,upd H1 _ _,I1.laid (λb u e=>Vg _ e) (Vm _) ?_,rfl,q _ hf⟩;exact⟨z,us,0,r,Vh _ rfl⟩
end
abbrev Sp:=List V->Hp->VK->XK->Prop
abbrev CXT:=List Env->Hp->Shared->XK->Value->Shared->Prop
structure qoQ(P:Program)(w:World)(K:W.Frag)(mg:Str->Option Value)(base:Heap)(A:Around)(outer:List Env)(s:Shared)(H:Hp):Prop where
 frames:A.frames=some outer
 mod:Mod K mg base
 bs: ∀b o,base.get? b=some o->s.heap.get? b=some o/\H b=none
 bsz:base.objs.size<=s.heap.objs.size
 funs:s.heap.FunFrames base outer
 frf: ∀b∈frs outer,H b=none
 hok:HOk P w H s.heap
 bare:AllBare s.gens
noncomputable def CE(outer:List Env)(P:Program)(w:World)(H:Hp)(s:Shared)(Q:VK)(u:Value)(s':Shared):Prop:=
 ∃v H',s'.os=s.os/\AllBare s'.gens/\Un (frs outer) [] H H' s.heap s'.heap/\HOk P w H' s'.heap/\RelV v u/\Q v H'
noncomputable def CR(CX:CXT)(outer:List Env)(P:Program)(w:World)(H:Hp)(s:Shared)(Q:VK)(E:XK)(r:Result)(s':Shared):Prop:=
 match r with
 |.ok (.ret u)=>CE outer P w H s Q u s'
 |.ok _=>False
 |.error e=>CX outer H s E e s'
structure qcC(P:Program)(w:World)(K:W.Frag)(mg:Str->Option Value)(base:Heap)(CX:CXT)(k:Nat)(f:Addr)(fd:FuncData)(ps:List Str)(sp:Sp):Prop where
 len: ∀vs H Q E,sp vs H Q E->vs.length=ps.length
 run: ∀(A:Around)(outer:List Env)(s:Shared)(H:Hp)(args:Args)(us:List Value)(vs:List V)(Q:VK)(E:XK),qbl k A->qoQ P w K mg base A outer s H->BindsTo s fd args (ps.zip us)->Vals vs us->sp vs H Q E->
  codeAny (model P w) A (.call (.ref f) args) (CR CX outer P w H s Q E) s
theorem qoQ.make{P:Program}{w:World}{K:W.Frag}{mg:Str->Option Value}{base:Heap}{A:Around}{outer:List Env}{s:Shared}{H:Hp}(e:qoQ P w K mg base A outer s H)(C:Addr)(us:List Value)(kw:List (Str×Value)):
  qoQ P w K mg base (A.under (.builtin "type.__call__" ⟨.ref C::us,kw⟩)) outer s H:=⟨by first|exact e.frames|simp,e.mod,e.bs,e.bsz,e.funs,e.frf,e.hok,e.bare⟩
section
theorem Inv.env0(I:Inv X U O H s):qoQ X.prog X.w X.K X.mg X.base X.A X.stack s H:=
 ⟨I.ok.frames,I.ok.mod,I.bs,Vp I.ok.bsz I.sz,I.stack,I.stkFree,I.hok,I.bare⟩
theorem Inv.after(I:Inv X U O H s)(h:CE X.stack X.prog X.w H s Q u s'):EP X U O Q u s':=by obtain⟨v,H',os,bare,un,hok,r,q⟩:=h;obtain⟨hh,g,d,t,gE⟩:=s';obtain rfl:gE=s.os:=os;exact⟨v,H',I.call un hok bare (λb z=>absurd z (by simp)),r,q⟩
end
noncomputable def qo7(sp:Sp)(aX:List V)(E:XK)(t:TA):TE:=λO H Q=>t O H λvs H1=>sp (vs++aX) H1 Q E
noncomputable def qo6(C:Addr)(sp:Sp)(aX:List V)(E:XK)(t:TA):TE:=λO H Q=>t O H λvs H1=> ∀x dx,H1 x=none->H1 dx=none->dx≠x->
 sp (.ref x::(vs++aX)) (upd (upd H1 dx (.own x)) x (.ins C dx [])) (λv H2=>v= .non/\Q (.ref x) H2) E
noncomputable def qaW(K:W.Frag)(fd:FuncData)(ps:List Str)(ds:List Value):Prop:=
 ∀(s:Shared)(us:List Value),K.In s.heap->(us++ds).length=ps.length->BindsTo s fd ⟨us,[]⟩ (ps.zip (us++ds))
theorem qaW.all{K:W.Frag}{fd:FuncData}{ps:List Str}(h: ∀us:List Value,us.length=ps.length->bindArgs fd ⟨us,[]⟩=pure (ps.zip us)):qaW K fd ps []:=λs us _ hl=>by rw[List.append_nil] at hl⊢;exact .of_eq (h us hl)
noncomputable def qaJ(CX:CXT)(X:Cx)(E:XK):Prop:= ∀(U:List (Addr×Obj))(O:St)(H:Hp)(s:Shared)(e:Value)(s':Shared),Inv X U O H s->CX X.stack H s E e s'->X.xe e s'
section
variable{ps:List Str}{x m:Str}
theorem qeP(F:qcC X.prog X.w X.K X.mg X.base CX k f fd ps sp)(hr:qbl k X.A)(hb:qaW X.K fd ps ds)(hd:Vals aX ds)(hx:qaJ CX X E)(I:Inv X U O H s)(r:Vals vs us)(h:sp (vs++aX) H Q E):wpAny (model X.prog X.w) X.A (call (.ref f) us) (EP X U O Q) X.xe s:=by
 have r2:=r.append hd;have hl:(us++ds).length=ps.length:=by rw[<-r2.length];exact F.len _ _ _ _ h
 refine wpAny_call (codeAny_mono (F.run X.A _ s H _ _ _ Q E hr I.env0 (hb s us I.kIn hl) r2 h) λr s' hq=> ?_);cases r with
 |error e=>exact hx _ O H s e s' I hq
 |ok fl=>
  cases fl with
  |ret u=>exact I.after hq
  |next|brk|cont=>exact False.elim hq
theorem qpK{X:Cx}(F:qcC X.prog X.w X.K X.mg X.base CX k f fd ps sp)(hr:qbl k X.A)(hg:Gl X x)(hm:X.mg x=some (.ref f))(hk:W.keepIn X.K (.ref f)=true)(hb:qaW X.K fd ps ds)(hd:Vals aX ds)(hx:qaJ CX X E)(ha:PA X (e::es) t)(aA:(x==("__debug__" :Str))=false:=by decide)(he:starEach (e::es) X.env=(false,eval e X.env)::starEach es X.env:=by rfl)(ak:(backTo pos (starEach es X.env)).any (·.1)=false:=by rfl):
  PE X (.Call (.Name x p) (e::es) [] pos) (qo7 sp aX E t):=by intro U s O H Q I h;refine Ve (qb5 I hg hm ?_ aA);refine W.callWith_K I.ok.mod.kin hk (thn (ha pos _ s O H _ I h) λus s1 ⟨vs,H1,I1,r,q⟩=>⟨I1.kIn,?_⟩) he ak;exact qeP F hr hb hd hx I1 r q
theorem qmq(F:qcC X.prog X.w X.K X.mg X.base CX k f fd ps sp)(hr:qbl k X.A)(hg:Gl X x)(hm:X.mg x=some (.ref f))(hk:W.keepIn X.K (.ref f)=true)(hb:qaW X.K fd ps ds)(hd:Vals aX ds)(hx:qaJ CX X E)(aA:(x==("__debug__" :Str))=false:=by decide):PE X (.Call (.Name x p) [] [] pos) (qo7 sp aX E qu9):=by intro U s O H Q I h;refine Ve (qb5 I hg hm ?_ aA);exact W.callWith_K0 I.kIn hk (qeP F hr hb hd hx I .nil h)
structure Mk(K:W.Frag)(C f:Addr):Prop where
 makes:W.makesIn K C=true
 init:W.findIn K (.ref C) "__init__" =some (some (.ref f))
 fn:W.isFn K (.ref f)=true
 kp:W.keepIn K (.ref C)=true
theorem qg3(M:Mk X.K C f)(F:qcC X.prog X.w X.K X.mg X.base CX k f fd ps sp)(hr:qbl (k+1) X.A)(hb:qaW X.K fd ps ds)(hd:Vals aX ds)(hx:qaJ CX X E)(I:Inv X U O H s)(r:Vals vs us)(h: ∀x dx,H x=none->H dx=none->dx≠x->sp (.ref x::(vs++aX)) (upd (upd H dx (.own x)) x (.ins C dx [])) (λv H2=>v= .non/\Q (.ref x) H2) E):
  wpAny (model X.prog X.w) X.A (call (.ref C) us) (EP X U O Q) X.xe s:=by
 have hq:=h _ _ (I.hok.fresh (Wa _)) (I.hok.fresh (Vm _)) (Vo (Vz _));have I2:=Inv.made (C:=C) I;have r2:Vals (V.ref (s.heap.objs.size+1)::(vs++aX)) _:=.cons rfl (r.append hd);have hl:=by have e:=r2.length;rw[F.len _ _ _ _ hq] at e;exact e.symm
 refine wpAny_call (qmC I.kIn M.makes M.init (beq_iff_eq.mp M.fn) (codeAny_mono (F.run _ _ _ _ _ _ _ _ E (hr.make C us [])
  (I2.env0.make C us []) (hb _ _ I2.kIn hl) r2 hq) λr s' cD=> ?_))
 cases r with
 |error e=>exact hx _ O _ _ e s' I2 cD
 |ok fl=>
  cases fl with
  |ret u=>obtain⟨v,H',I3,rv,ev,q3⟩:=I2.after cD;subst ev;exact⟨rv,⟨V.ref _,H',I3,rfl,q3⟩⟩
  |next|brk|cont=>exact False.elim cD
theorem qpI{X:Cx}(M:Mk X.K C f)(F:qcC X.prog X.w X.K X.mg X.base CX k f fd ps sp)(hr:qbl (k+1) X.A)(hg:Gl X x)(hm:X.mg x=some (.ref C))(hb:qaW X.K fd ps ds)(hd:Vals aX ds)(hx:qaJ CX X E)(ha:PA X (e::es) t)(aA:(x==("__debug__" :Str))=false:=by decide)(he:starEach (e::es) X.env=(false,eval e X.env)::starEach es X.env:=by rfl)(ak:(backTo pos (starEach es X.env)).any (·.1)=false:=by rfl):
  PE X (.Call (.Name x p) (e::es) [] pos) (qo6 C sp aX E t):=by intro U s O H Q I h;refine Ve (qb5 I hg hm ?_ aA);refine W.callWith_K I.ok.mod.kin M.kp (thn (ha pos _ s O H _ I h) λus s1 ⟨vs,H1,I1,r,q⟩=>⟨I1.kIn,?_⟩) he ak;exact qg3 M F hr hb hd hx I1 r q
theorem qmm(M:Mk X.K C f)(F:qcC X.prog X.w X.K X.mg X.base CX k f fd ps sp)(hr:qbl (k+1) X.A)(hg:Gl X x)(hm:X.mg x=some (.ref C))(hb:qaW X.K fd ps ds)(hd:Vals aX ds)(hx:qaJ CX X E)(aA:(x==("__debug__" :Str))=false:=by decide):PE X (.Call (.Name x p) [] [] pos) (qo6 C sp aX E qu9):=by intro U s O H Q I h;refine Ve (qb5 I hg hm ?_ aA);exact W.callWith_K0 I.kIn M.kp (qg3 M F hr hb hd hx I .nil h)
end
section
variable{ps ks:List Str}{x m:Str}
structure qye(K:W.Frag)(fd:FuncData)(ps ks:List Str)(g:List Value->List Value->List Value)(gV:List V->List V->List V):Prop where
 to: ∀(s:Shared)(us ws:List Value),K.In s.heap->(g us ws).length=ps.length->BindsTo s fd ⟨us,ks.zip ws⟩ (ps.zip (g us ws))
 rel: ∀{vs:List V}{us:List Value}{zs:List V}{ws:List Value},Vals vs us->Vals zs ws->Vals (gV vs zs) (g us ws)
end
structure qdi(N P:List Str)(sc:Scope):Prop where
 kind:sc.kind= .function
 co:sc.isCoroutine=false
 gen:sc.isGenerator=false
 nd:N.Nodup
 pre:N.take P.length=P
 par: ∀x∈P,sc.names.lookup x=some .local\/sc.names.lookup x=some .cell
 nofree: ∀y∈sc.names,y.2≠.free
theorem qfB{kindOf:Str->Option NameKind}{x:Str}: ∀{binds:List (Str×Value)}{m:Str->Option Value},(∀v,(x,v)∉binds)->bindL kindOf binds m x=m x
 |[],_,_=>rfl
 |(n,v)::r,m,h=>by
  unfold bindL;rw[qfB λw hw=>h w (List.mem_cons_of_mem _ hw)];split
  ·grind
  ·rfl
theorem qfD{kindOf:Str->Option NameKind}{x:Str}: ∀{binds:List (Str×Value)}{m:Str->Option Value},(∀v,(x,v)∉binds)->bindC kindOf binds m x=m x
 |[],_,_=>rfl
 |(n,v)::r,m,h=>by
  unfold bindC;rw[qfD λw hw=>h w (List.mem_cons_of_mem _ hw)];split
  ·rfl
  grind
theorem qfC{kindOf:Str->Option NameKind}{x:Str}{v:Value}: ∀{P:List Str}{vs:List Value}{i:Nat}{m:Str->Option Value},P.Nodup->P[i]? =some x->vs[i]? =some v->kindOf x=some .local->
  bindL kindOf (P.zip vs) m x=some v
 |[],_,_,_,_,h,_,_=>by simp at h
 |_::_,[],_,_,_,_,h,_=>by simp at h
 |p::P,w::vs,0,m,nd,h1,h2,hk=>by simp at h1 h2;subst h1;subst h2;show bindL _ ((p,w)::P.zip vs) m p=_;unfold bindL;rw[qfB λv hv=>(List.nodup_cons.mp nd).1 (List.of_mem_zip hv).1,if_pos hk];simp
 |p::P,w::vs,i+1,m,nd,h1,h2,hk=>by unfold bindL;exact qfC (List.nodup_cons.mp nd).2 (by simpa using h1) (by simpa using h2) hk
theorem qfE{kindOf:Str->Option NameKind}{x:Str}{v:Value}: ∀{P:List Str}{vs:List Value}{i:Nat}{m:Str->Option Value},P.Nodup->P[i]? =some x->vs[i]? =some v->kindOf x≠some .local->
  bindC kindOf (P.zip vs) m x=some v
 |[],_,_,_,_,h,_,_=>by simp at h
 |_::_,[],_,_,_,_,h,_=>by simp at h
 |p::P,w::vs,0,m,nd,h1,h2,hk=>by simp at h1 h2;subst h1;subst h2;show bindC _ ((p,w)::P.zip vs) m p=_;unfold bindC;rw[qfD λv hv=>(List.nodup_cons.mp nd).1 (List.of_mem_zip hv).1,if_neg hk];simp
 |p::P,w::vs,i+1,m,nd,h1,h2,hk=>by unfold bindC;exact qfE (List.nodup_cons.mp nd).2 (by simpa using h1) (by simpa using h2) hk
noncomputable def start(N:List Str)(vs:List V):St:=vs.map some++List.replicate (N.length - vs.length) none
noncomputable def qiT(CX:CXT)(P:Program)(w:World)(K:W.Frag)(mg:Str->Option Value)(base:Heap)(N:List Str)(qual:Str)(scope:Scope)(f:Addr)(cd:Value)(A:Around)(outer:List Env)(s:Shared)(H:Hp)(E:XK):Cx where
 prog:=P
 w:=w
 K:=K
 mg:=mg
 base:=base
 A:=A.deeper (envOfC qual scope s.heap.objs.size f cd)
 N:=N
 s₀:=s
 H₀:=H
 env:=envOfC qual scope s.heap.objs.size f cd
 outer:=outer
 stack:=envOfC qual scope s.heap.objs.size f cd::outer
 ex:=[]
 calm:=true
 fn:=λ_=>true
 pn:=[]
 xe:=λe s'=>wpAny (model P w) (A.deeper (envOfC qual scope s.heap.objs.size f cd)) (leaving (envOfC qual scope s.heap.objs.size f cd) e) (λ_ s''=>CX outer H s E e s'') (λe' s''=>CX outer H s E e' s'') s'
theorem qhG{sc:Scope}{n:Nat}{x:Str}(h:sc.names.lookup x=some .cell): ∃c,(cellsFrom n sc.names []).lookup x=some c:=by have q:=W.cellsFrom_some _ n [] (.inl h);exact Option.isSome_iff_exists.mp q
theorem qkp{CX:CXT}{P:Program}{w:World}{K:W.Frag}{mg:Str->Option Value}{base:Heap}{N ps:List Str}{qual:Str}{scope:Scope}{f:Addr}{cd:Value}{A:Around}{outer:List Env}{s s1:Shared}{H:Hp}{E:XK}{us:List Value}{vs:List V}(S:qdi N ps scope)(hd:A.handled=none)(e0:qoQ P w K mg base A outer s H)(hl:vs.length=ps.length)(r:Vals vs us)(x:InCallC s s.heap.objs.size (bindL (envOfC qual scope s.heap.objs.size f cd).kindOf (ps.zip us) λ_=>none) (cellsFrom (s.heap.objs.size+1) scope.names []) (bindC (envOfC qual scope s.heap.objs.size f cd).kindOf (ps.zip us) λ_=>none) s1):
  Inv (qiT CX P w K mg base N qual scope f cd A outer s H E) [] (start N vs) H s1:=by
 have ak:ps.length<=N.length:=by have:=congrArg List.length S.pre;rw[List.length_take] at this;omega
 obtain⟨h1,tk,rfl,hk⟩:=x.done;have eI: ∀b:Addr,b∉(qiT CX P w K mg base N qual scope f cd A outer s H E).ex:=λb z=>absurd (show b∈([]:List Addr) from z) (by simp)
 refine⟨⟨e0.mod,S.kind,rfl,rfl,Vm _,λy z c h1 h2=> ?_,λy hy=> ?_,λy c _ h=> ?_,λ_=>hd,Around.frames_deeper e0.frames,.inr ⟨rfl,rfl⟩,λb z=>absurd z (eI b),e0.bs,e0.bsz,λb _ _=>eI b,λb z=>absurd z (eI b),e0.funs,e0.frf⟩,
  rfl,e0.bare,Un.kept hk,⟨_,x.toInCall.ns,λi y v h1 h2 h3=> ?_⟩,λy c h=>⟨_,x.cell y c h⟩,e0.hok.fresh (Vm _),λy c h=> ?_,λp hp=>absurd (show p∈([]:List (Addr×Obj)) from hp) (by simp),e0.hok.kept hk,?_⟩
 ·exact name_of_addr x.apart (Vu h1) (Vu h2)
 ·rcases hy with hy|hy
  ·exact qhG hy
  ·exact absurd rfl (S.nofree _ (Vu hy))
 ·exact Nat.le_of_lt (x.above y c (Vu h))
 ·have hi:i<vs.length:=by
   unfold start at h2;by_cases hi:i<vs.length
   ·exact hi
   ·rw[List.getElem?_append_right (by simpa using hi)] at h2;rw[List.getElem?_replicate] at h2;split at h2<;>cases h2
  have ha:vs[i]? =some v:=by
   unfold start at h2;rw[List.getElem?_append_left (by simpa using hi),List.getElem?_map] at h2
   simp_all
  obtain⟨u,hu,rv⟩:=r.get ha;have hp:ps[i]? =some y:=by rw[<-S.pre,List.getElem?_take_of_lt (by omega)];exact h1
  have iY:ps.Nodup:=by rw[<-S.pre];exact S.nd.sublist (List.take_sublist _ _)
  refine⟨u,rv,?_⟩
  rcases S.par y (Vt hp) with k|k
  ·exact .inl ⟨k,qfC iY hp hu k⟩
  ·obtain⟨c,e⟩:=qhG (n:=s.heap.objs.size+1) k;refine .inr ⟨.inl k,c,e,?_⟩;have q:=x.cell y c e;rw[qfE iY hp hu (by show scope.names.lookup y≠_;rw[k];decide)] at q;exact q
 ·exact e0.hok.fresh (Nat.le_of_lt (x.above y c (Vu h)))
 ·unfold start;show _=N.length;rw[List.length_append,List.length_map,List.length_replicate];omega
theorem qwL{CX:CXT}{P:Program}{w:World}{K:W.Frag}{mg:Str->Option Value}{base:Heap}{k:Nat}{f:Addr}{name qual:Str}{params:Arguments}{body:List Stmt}{scope:Scope}{dV kV doc pm cdv ct oc:Value}{an od:Option Addr}{osl:Array (Option Value)}{N ps:List Str}{sp:Sp}(lk:K.lookup f=some ⟨oc,od,.func (W.fnOf name qual params body scope dV kV doc pm an cdv ct),osl⟩)(bg:W.codeIn K cdv qual=true)(S:qdi N ps scope)(len: ∀vs H Q E,sp vs H Q E->vs.length=ps.length)(bR: ∀(A:Around)(outer:List Env)(s:Shared)(H:Hp)(vs:List V)(Q:VK)(E:XK),qbl k (A.deeper (envOfC qual scope s.heap.objs.size f cdv))->sp vs H Q E->
   ∃t,PSs (qiT CX P w K mg base N qual scope f cdv A outer s H E) body t/\t { nx:=λ_ H'=>Q .non H',rt:=Q } (start N vs) H):
  qcC P w K mg base CX (k+1) f (W.fnOf name qual params body scope dV kV doc pm an cdv ct) ps sp:=by
 refine⟨len,λA outer s H args us vs Q E hr e0 hb r dQ=> ?_⟩;have hl:=len _ _ _ _ dQ;have KX:=e0.mod.kin.keeps λb o e=>(e0.bs b o e).1;have lim:=e0.mod.nolimit.keeps λb o e=>(e0.bs b o e).1;have fg: ∀y∈ps.zip us,scope.names.lookup y.1=some _\/(scope.names.lookup y.1=some _/\((cellsFrom (s.heap.objs.size+1) _ []).lookup y.1).isSome=true):=(by
  rintro⟨n,v⟩ hy
  rcases S.par n (Vx hy).1 with q|q
  ·exact .inl q
  ·exact .inr ⟨q,W.cellsFrom_some _ _ _ (.inl q)⟩)
 refine codeAny_call_function hr.depth (KX _ _ lk) rfl S.co S.gen rfl (W.codeRec_of KX bg) (hb _ _ _ _ ?_);refine wpAny_newFunctionEnv_cells S.kind fg λenv he s1 x=> ?_;subst he;refine⟨lim.keeps x.toInCall.keep,codeAny_func ?_⟩;obtain⟨t,ht,hq⟩:=bR A _ s H vs Q E (hr.deeper _) dQ;have I:Inv (qiT CX P w K mg _ N _ _ f cdv A _ s H E) [] _ H s1:=qkp S hr.hd e0 hl r x;refine Vc (ht [] s1 _ H _ I hq) (λfl s' hs=> ?_) λe s' hs=>hs
 have fin: ∀{ag } {H' } {v } {u },Inv (qiT CX P w K mg base N qual scope f cdv A _ s H E) [] ag H' s'->RelV v u->Q v H'->CE outer P w H s Q u s':=
  λ{ag H' v u} J rv q=>⟨v,H',J.os,J.bare,J.base,J.hok,rv,q⟩
 cases fl with
 |ret u=>obtain⟨v,ag,H',J,rv,q⟩:=hs;exact fin J rv q
 |next=>obtain⟨ag,H',J,q⟩:=hs;exact fin (v:=V.non) J rfl q
 |brk|cont=>obtain⟨_,_,_,q⟩:=hs;exact False.elim q
section
variable{x:Str}{id T:String}
noncomputable def tCB(r:List V->Hp->VK->Prop)(t:TA):TE:=λO H Q=>t O H λvs H1=>r vs H1 Q
theorem qaS(hc:qau X (.builtin id) r)(hg:Gl X x)(hm:X.mg x=none)(hv:bootBuiltins x=some (.builtin id))(ha:PA X (e::es) t)(hn:x≠ "__name__" :=by decide)(aA:(x==("__debug__" :Str))=false:=by decide)(he:starEach (e::es) X.env=(false,eval e X.env)::starEach es X.env:=by rfl)(ak:(backTo pos (starEach es X.env)).any (·.1)=false:=by rfl):PE X (.Call (.Name x p) (e::es) [] pos) (tCB r t):=by intro U s O H Q I h;refine Ve (qcV I hg hm hv ?_ hn aA);exact PyProof.Rows.callWith_builtin1 (thn (ha pos _ s O H _ I h) (by rintro us s1 ⟨vs,H1,I1,r1,q1⟩;exact hc _ s1 O H1 vs us Q I1 r1 q1)) he ak
theorem qbR(hc:qau X (.type T) r)(hg:Gl X x)(hm:X.mg x=none)(hv:bootBuiltins x=some (.type T))(ha:PA X (e::es) t)(hn:x≠ "__name__" :=by decide)(aA:(x==("__debug__" :Str))=false:=by decide)(he:starEach (e::es) X.env=(false,eval e X.env)::starEach es X.env:=by rfl)(ak:(backTo pos (starEach es X.env)).any (·.1)=false:=by rfl):PE X (.Call (.Name x p) (e::es) [] pos) (tCB r t):=by intro U s O H Q I h;refine Ve (qcV I hg hm hv ?_ hn aA);exact PyProof.Rows.callWith_type1 (thn (ha pos _ s O H _ I h) λus s1 ⟨vs,H1,I1,r1,q1⟩=>hc _ s1 O H1 vs us Q I1 r1 q1) he ak
end
end L2
namespace HT
open PySem PyProof.Rows
section
theorem cat_tup(ht:IsTup s.heap t vs.toArray)(hb:IsTup s.heap b ws.toArray)(hv:vs≠[])(h1:ws=[]->Q (.ref t) s)(h2:ws≠[]->Q (.ref s.heap.objs.size) { s with heap:=s.heap.push { cls:=.type "tuple",data:=.seq (vs++ws).toArray } })(hsz:vs.length+ws.length<=sizeLine):wpAny (model prog w) A (binaryOp .Add (.ref t) (.ref b)) Q E s:=by
 obtain⟨⟨cls,dd,data,sl⟩,ho,hc,n,hd⟩:=id ht;obtain⟨⟨iM,gq,data2,fK⟩,bG,d6,n2,hd2⟩:=id hb;subst hc hd d6 hd2;have e:vs.toArray++ws.toArray=(vs++ws).toArray:=by simp
 by_cases hw:ws=[]
 ·exact concat_meets ⟨_,ho,rfl⟩ ⟨_,bG,rfl⟩ noFill_tuple_add seq_tuple_add F.slot_tuple_add F.entry_tuple_add (F.args_tuple_add_2 _ _)
   (tuple_addW1 t b _ _ n n2 dd gq sl fK (by simpa using hv) (by simp[hw])) ⟨ho,bG,h1 hw⟩
 ·refine concat_meets ⟨_,ho,rfl⟩ ⟨_,bG,rfl⟩ noFill_tuple_add seq_tuple_add F.slot_tuple_add F.entry_tuple_add (F.args_tuple_add_2 _ _)
   (tuple_addW2 t b _ _ n n2 dd gq sl fK (by simpa using hv) (by simpa using hw) (by omega)) ⟨ho,bG,?_⟩
  rw[e];exact h2 hw
noncomputable def sIx(n d:Nat):Option Int->Nat
 |none=>d
 |some v=>if v<0 then(v+(n:Int)).toNat else min v.toNat n
theorem sIx_none(n d:Nat):sIx n d none=d:=rfl
theorem sIx_nat(n d k:Nat):sIx n d (some (k:Int))=min k n:=rfl
end
end HT
namespace L2
open PySem PySem.Spec PyProof.Rows
abbrev TO:=St->Hp->(Option Int->Hp->Prop)->Prop
noncomputable def PO(X:Cx)(e:Option Expr)(t:TO):Prop:=
 ∀(U:List (Addr×Obj))(s:Shared)(O:St)(H:Hp)(Q:Option Int->Hp->Prop),Inv X U O H s->t O H Q->
  wpAny (model X.prog X.w) X.A (evalPart e X.env) (λu s'=> ∃o H',Inv X U O H' s'/\IsPart u o/\Q o H') X.xe s
noncomputable def qo4:TO:=λ_ H Q=>Q none H
noncomputable def qu7(t:TE):TO:=λO H Q=>t O H λx H1=> ∃i,x= .int i/\Q (some i) H1
section
theorem qpB:PO X none qo4:=by intro U s O H Q I h;exact Vb ⟨none,H,I,.none,h⟩
theorem qpA(h:PE X e te):PO X (some e) (qu7 te):=by intro U s O H Q I hw;refine thn (h _ s O H _ I hw) ?_;rintro u s1 ⟨x,H1,I1,r1,q1⟩;obtain⟨i,rfl,q⟩:=q1;obtain⟨t,rfl⟩:=r1;exact⟨some i,H1,I1,.int i t,q⟩
noncomputable def SlR(X:Cx)(r:V->Option Int->Option Int->Hp->VK->Prop):Prop:=
 ∀(U:List (Addr×Obj))(s:Shared)(O:St)(H:Hp)(x:V)(v vl vu:Value)(lo hi:Option Int)(sl:Addr)(Q:VK),Inv X U O H s->RelV x v->s.heap.IsSliceOf sl vl vu .none->IsPart vl lo->IsPart vu hi->r x lo hi H Q->
  ∃T id,typeLookup (.type T) "__getitem__" =pure (some (.builtin id))/\s.TypeIs v T/\wpAny (model X.prog X.w) X.A (getItem v (.ref sl)) (EP X U O Q) X.xe s
noncomputable def tSl(r:V->Option Int->Option Int->Hp->VK->Prop)(te:TE)(tl th:TO):TE:=λO H Q=>te O H λx H1=>tl O H1 λl H2=>th O H2 λu H3=>r x l u H3 Q
theorem qmk{X:Cx}{e:Expr}{te:TE}{lo:Option Expr}{hi:Option Expr}{tl:TO}{th:TO}{pos:Pos}{p2:Pos}{r:V->Option Int->Option Int->Hp->VK->Prop}(hr:SlR X r)(he:PE X e te)(hl:PO X lo tl)(hu:PO X hi th):PE X (.Subscript e (.Slice lo hi none p2) pos) (tSl r te tl th):=by intro U s O H Q I h;refine Subscript_ (thn (he _ s O H _ I h) λv s1 z0=> ?_);obtain ⟨x,H1,I1,r1,q1⟩:=z0;refine wpAny_Slice (thn (hl _ s1 O H1 _ I1 q1) λvl s2 ⟨l,H2,I2,pl,q2⟩=>thn (hu _ s2 O H2 _ I2 q2) λvu s3 z0=> ?_);obtain ⟨u,H3,I3,pu,q3⟩:=z0;refine Vb ?_;have I4:Inv X _ O H3 { s3 with heap:=s3.heap.push { cls:=.type "slice",data:=.fields #[vl,vu,.none] } }:=I3.kept λb ob q=>Vg _ q;obtain⟨T,id,hT,ht,hg⟩:=hr _ _ O H3 x v vl vu l u _ Q I4 r1 (Heap.IsSliceOf.new ..) pl pu q3;exact tail_any ht hT hg (rfl)
noncomputable def quc(xs:List V)(lo hi:Option Int):List V:=(xs.drop (HT.sIx xs.length 0 lo)).take (HT.sIx xs.length xs.length hi - HT.sIx xs.length 0 lo)
theorem qgq(xs:List V)(lo hi:Option Int):(quc xs lo hi).length<=xs.length:=by unfold quc;rw[List.length_take,List.length_drop];omega
noncomputable def qr0(K:W.Frag):R2:=λx y H Q=> ∃a b xs ys,x= .ref a/\y= .ref b/\SqT K H a xs/\SqT K H b ys/\xs≠[]/\xs.length+ys.length<=sizeLine/\
 (ys=[]->Q (.ref a) H)/\(ys≠[]->∀p,H p=none->Q (.ref p) (upd H p (.tup (xs++ys))))
theorem Vals.nil_iff(r:Vals xs us):us=[]↔xs=[]:=by
 cases r with
 |nil|cons _ _=>simp
theorem qpT:OpR X (binaryOp .Add) (qr0 X.K):=by intro U s O H x y v u Q I rx ry h;obtain⟨a,b,xs,ys,rfl,rfl,ha,hb,hx,hz,q1,q2⟩:=h;cases rx;cases ry;obtain⟨its,r1,p1,_⟩:=I.tuple ha;obtain⟨aY,r2,p2,_⟩:=I.tuple hb;refine HT.cat_tup p1 p2 (λz=>hx (r1.nil_iff.mp z)) (λz=>⟨.ref a,H,I,rfl,q1 (r2.nil_iff.mp z)⟩) (λz=> ?_) (by rw[<-r1.length,<-r2.length];exact hz);refine⟨.ref _,_,I.laid (λb ob q=>Vg _ q) (Vm _) ?_,rfl,q2 (λw=>z (r2.nil_iff.mpr w)) _ (I.hok.fresh (Vm _))⟩;exact⟨by simp_all,_,r1.append r2,IsTup.new _ _⟩
end
noncomputable def ixN(n:Nat)(i:Int):Option Nat:=if 0<=i then(if i<n then some i.toNat else none) else if -(n:Int)<=i then some (i+n).toNat else none
noncomputable def atI{α:Type}(xs:List α)(i:Int):Option α:=(ixN xs.length i).bind λj=>xs[j]?
theorem qkk(h:ixN n i=some j):seqIndex? i n=some j/\j<n/\ -(n:Int)<=i/\i<n:=by
 unfold ixN at h;by_cases h0:0<=i
 ·rw[if_pos h0] at h;by_cases h1:i<n
  ·rw[if_pos h1] at h;have e:i.toNat=j:=Option.some.inj h;exact⟨by rw[seqIndex_of h0 h1,e],by omega,by omega,h1⟩
  grind
 ·rw[if_neg h0] at h;by_cases h1: -(n:Int)<=i
  ·rw[if_pos h1] at h;have e:(i+n).toNat=j:=Option.some.inj h;exact⟨by rw[seqIndex_neg (by omega) h1,e],by omega,h1,by omega⟩
  grind
theorem qgH{α:Type}{xs:List α}{i:Int}{v:α}(h:atI xs i=some v): ∃j,seqIndex? i xs.length=some j/\xs[j]? =some v/\j<xs.length/\ -(xs.length:Int)<=i/\i<xs.length:=by
 unfold atI at h;cases e:ixN _ i with
 |none=>rw[e] at h;cases h
 |some j=>
  obtain⟨h1,h2,h3,h4⟩:=qkk e
  simp_all
noncomputable def qlB(b:Expr):Prop:= ∀o i,subscripted b false o i=operate [o,i] (getItem o i)
noncomputable def IxR(X:Cx)(r:R2):Prop:=
 ∀(value slice:Expr)(U:List (Addr×Obj))(s:Shared)(O:St)(H:Hp)(x y:V)(v u:Value)(Q:VK),Inv X U O H s->RelV x v->RelV y u->r x y H Q->
  subscripted slice false v u=operate [v,u] (getItem v u)->wpAny (model X.prog X.w) X.A (subscriptTail value slice v u) (EP X U O Q) X.xe s
noncomputable def MtR(X:Cx)(id:String)(r:V->List V->Hp->VK->Prop):Prop:=
 ∀(U:List (Addr×Obj))(s:Shared)(O:St)(H:Hp)(x:V)(xs:List V)(v:Value)(us:List Value)(Q:VK),Inv X U O H s->RelV x v->Vals xs us->r x xs H Q->
  wpAny (model X.prog X.w) X.A (call (.builtin id) (v::us)) (EP X U O Q) X.xe s
section
variable{X:Cx}{a b:Expr}{ta tb:TE}{pos:Pos}
theorem IxR.or(h:IxR X r)(h':IxR X r'):IxR X (λx y H Q=>r x y H Q\/r' x y H Q):=by
 intro value slice U s O H x y v u Q I rx ry q hs
 rcases q with q|q
 ·exact h _ _ _ s O H x y v u Q I rx ry q hs
 ·exact h' _ _ _ s O H x y v u Q I rx ry q hs
theorem qvM(hr:IxR X r)(ha:PE X a ta)(hb:PE X b tb)(hs:qlB b):PE X (.Subscript a b pos) (tOp r ta tb):=by intro U s O H Q I h;exact Subscript_ (qxd ha hb I h λv u s2 x y H2 I2 rx ry q=>hr a b _ s2 O H2 x y v u Q I2 rx ry q (hs _ _))
noncomputable def qxD(K:W.Frag):R2:=λx y H Q=> ∃p xs i v,x= .ref p/\y= .int i/\SqL K H p xs/\atI xs i=some v/\Q v H
noncomputable def qxB(K:W.Frag):R2:=λx y H Q=> ∃p xs i v,x= .ref p/\y= .int i/\SqT K H p xs/\atI xs i=some v/\Q v H
noncomputable def qxC:R2:=λx y H Q=> ∃z i c,x= .str z/\y= .int i/\z.length<=sizeLine/\atI z.cps.toList i=some c/\Q (.str ⟨#[c]⟩) H
theorem qqg:IxR X (qxD X.K):=by
 intro value slice U s O H x y v u Q I rx ry h hs;obtain⟨p,xs,i,z,rfl,rfl,hq,he,q⟩:=h;cases rx;obtain⟨t,rfl⟩:=ry;obtain⟨its,r,pl,hz⟩:=I.list hq;obtain⟨j,h1,h2,h3,h4,h5⟩:=qgH he;obtain⟨w,ew,aq⟩:=r.get h2;have hl:=r.length;have hn:=qfa;have fin:EP X U O Q w s:=⟨z,H,I,aq,q⟩
 by_cases h0:0<=i
 ·have hj:i.toNat=j:=by rw[seqIndex_of h0 h5] at h1;exact Option.some.inj h1
  exact item_listR pl.isList h0 (by omega) (by rw[hj];simpa using ew) fin hs
 ·have hj:(i+(its.toArray.size:Int)).toNat=j:=by rw[seqIndex_neg (by omega) h4] at h1;rw[List.size_toArray,<-hl];exact Option.some.inj h1
  exact subscriptTail_builtinR (x:=w) pl.isList.typeIs slot_list_getitem.lookup
   (wpAny_getItem_list_neg (Q:=λr s'=>r=w/\EP X U O Q r s') pl.isList (by omega) (by rw[List.size_toArray]<;>omega) (by omega) (by rw[hj];simpa using ew) ⟨rfl,fin⟩) hs
theorem qs9:IxR X (qxB X.K):=by
 intro value slice U s O H x y v u Q I rx ry h hs;obtain⟨p,xs,i,z,rfl,rfl,hq,he,q⟩:=h;cases rx;obtain⟨t,rfl⟩:=ry;obtain⟨its,r,pl,hz⟩:=I.tuple hq;obtain⟨j,h1,h2,h3,h4,h5⟩:=qgH he;obtain⟨w,ew,aq⟩:=r.get h2;have hl:=r.length;have hn:=qfa;have fin:EP X _ O Q w s:=⟨z,H,I,aq,q⟩
 exact subscriptTail_builtinR pl.typeIs slot_tuple_getitem.lookup
  (getItem_tuple (j:=j) pl (by omega) (by omega) (by simp_all) (by simpa using ew) ⟨rfl,fin⟩) hs
theorem qta:IxR X qxC:=by
 intro value slice U s O H x y v u Q I rx ry h hs;obtain⟨z,i,c,rfl,rfl,hz,he,q⟩:=h;obtain⟨t,rfl⟩:=rx;obtain⟨t',rfl⟩:=ry;obtain⟨j,h1,h2,h3,h4,h5⟩:=qgH he;have hl:z.cps.toList.length=z.length:=by simp[Str.length]
 rw[hl] at h1 h4 h5;have hn:=qfa;exact tail_any (typeIs_str s z t) slot_str_getitem.lookup (getItem_str (c:=c) (by
  have e1:decide (i< -(2 ^ 63:Int))=false:=Vw (by omega);have e2:decide (i≥2 ^ 63)=false:=Vw (by omega);rw[e1,e2,Bool.or_false]) (by rw[h1];simpa using h2) ⟨.str ⟨#[c]⟩,H,I.tok _,⟨_,rfl⟩,q⟩) hs
noncomputable def rIx(K:W.Frag):R2:=λx y H Q=>qxD K x y H Q\/qxB K x y H Q\/qxC x y H Q
theorem qtb:IxR X (rIx X.K):=qqg.or (qs9.or qta)
theorem qim(its:List Value)(n j:Nat)(u:Value):Obj.mapSeq (·.setIfInBounds j u) { cls:=.type "list",data:=.seq its.toArray n }={ cls:=.type "list",data:=.seq (its.set j u).toArray n }:=by simp[Obj.mapSeq]
theorem Inv.lst{U:List (Addr×Obj)}{O:St}{H:Hp}{s:Shared}{p:Addr}{xs:List V}(I:Inv X U O H s)(h:H p=some (.lst xs)):
  ∃(its:List Value)(n:Nat),Vals xs its/\s.heap.get? p=some { cls:=.type "list",data:=.seq its.toArray n }/\xs.length<=sizeLine:=by obtain⟨z,its,n,r,e⟩:=I.hok p _ h;exact⟨its,n,r,e,z⟩
theorem Inv.lstUpd{s:Shared}{ys:List V}{its aD:List Value}{n n':Nat}(I:Inv X U O H s)(h:H p=some (.lst xs))(ho:s.heap.get? p=some { cls:=.type "list",data:=.seq its.toArray n })(hf:f { cls:=.type "list",data:=.seq its.toArray n }={ cls:=.type "list",data:=.seq aD.toArray n' })(r:Vals ys aD)(hz:ys.length<=sizeLine)(t:Nat):
  Inv X U O (upd H p (.lst ys)) { s with heap:=s.heap.update p f,toks:=t }:=by
 have e:(s.heap.update p f).get? p=some { cls:=.type "list",data:=.seq aD.toArray n' }:=by rw[Heap.get?_update_self f ho (by rw[hf]<;>rfl),hf]
 refine I.write (by rw[h];trivial) (.inl rfl) (λb u hb q=>(Vj _ _ (Ne.symm hb)).trans q) ⟨_,e⟩ ?_;exact⟨hz,aD,n',r,e⟩
noncomputable def qvu:V->V->V->Hp->(Hp->Prop)->Prop:=λo i v H Q=> ∃p xs k j,o= .ref p/\i= .int k/\H p=some (.lst xs)/\ixN xs.length k=some j/\Q (upd H p (.lst (xs.set j v)))
theorem ql1:qxm X qvu:=by
 intro U s O H o i v ov iv u Q I ro ri rv h;obtain⟨p,xs,k,j,rfl,rfl,hp,hj,q⟩:=h;cases ro;obtain⟨t,rfl⟩:=ri;obtain⟨its,n,r,ho,hz⟩:=I.lst hp;obtain⟨h1,h2,h3,h4⟩:=qkk hj;have hl:=r.length;have hn:=qfa
 have I':=
  I.lstUpd hp ho (qim its n j u) (r.set rv j) (by rw[List.length_set];exact hz) s.toks
 by_cases h0:0<=k
 ·have hk:k.toNat=j:=by rw[seqIndex_of h0 h4] at h1;exact Option.some.inj h1
  exact W.ki_setAt ho h0 (by omega) (by rw[List.size_toArray,<-hl];exact h4) (by rw[hk];exact⟨_,I',q⟩)
 ·have hk:(k+(its.toArray.size:Int)).toNat=j:=by
   rw[seqIndex_neg (by omega) h3] at h1
   grind
  exact W.ki_setBack ho (by omega) (by rw[List.size_toArray,<-hl];exact h3) (by omega) (by rw[hk];exact⟨_,I',q⟩)
theorem qeO(lo hi:Option Int)(n:Nat):(sliceBounds lo hi none n).1=((HT.sIx n 0 lo:Nat):Int)/\(sliceBounds lo hi none n).2.1=((HT.sIx n n hi:Nat):Int)/\(sliceBounds lo hi none n).2.2=1:=by
 refine⟨?_,?_,rfl⟩
 ·cases lo with
  |none=>simp[sliceBounds,HT.sIx]
  |some i=>
   simp only[sliceBounds,HT.sIx,Option.getD_none,show(1:Int)>0 by decide,if_true];by_cases h:i<0
   ·simp only[h,if_true]<;>omega
   ·simp only[h,if_false]<;>omega
 ·cases hi with
  |none=>simp[sliceBounds,HT.sIx]
  |some i=>
   simp only[sliceBounds,HT.sIx,Option.getD_none,show(1:Int)>0 by decide,if_true];by_cases h:i<0
   ·simp only[h,if_true]<;>omega
   ·simp only[h,if_false]<;>omega
theorem qd0(its:List Value)(lo hi:Option Int):slicePick its.toArray lo hi none=((its.drop (HT.sIx its.length 0 lo)).take (HT.sIx its.length its.length hi - HT.sIx its.length 0 lo)).toArray:=by obtain⟨h1,h2,h3⟩:=qeO lo hi _;unfold slicePick;rw[h1,h2,h3];simp only[sliceRange_one,pick_run]<;>rfl
noncomputable def qyv(K:W.Frag):V->Option Int->Option Int->Hp->VK->Prop:=λx lo hi H Q=> ∃a xs,x= .ref a/\SqL K H a xs/\∀p,H p=none->Q (.ref p) (upd H p (.lst (quc xs lo hi)))
theorem qpe:SlR X (qyv X.K):=by intro U s O H x v vl vu lo hi sl Q I rx hs pl pu h;obtain⟨a,xs,rfl,hx,q⟩:=h;cases rx;obtain⟨its,r,ht,hz⟩:=I.list hx;have hlen:=r.length;refine⟨"list",_,slot_list_getitem.lookup,ht.isList.typeIs,?_⟩;refine wpAny_getItem_list_slice ht.isList hs pl pu .none (by simp) ?_ (by grind);rw[qd0,<-hlen];refine⟨.ref _,_,I.laid (λb ob q=>Vg _ q) (Vm _) ?_,rfl,q _ (I.hok.fresh (Vm _))⟩;exact⟨Vp (qgq xs lo hi) hz,_,0,(r.drop _).take _,Vh _ rfl⟩
noncomputable def qgi:V->Bool
 |.non=>true
 |.bl _=>true
 |.int _=>true
 |.str _=>true
 |_=>false
noncomputable def eqV:V->V->Bool
 |.non,.non=>true
 |.bl a,.bl b=>a==b
 |.bl a,.int b=>(if a then 1 else 0)==b
 |.int a,.bl b=>a==(if b then 1 else 0)
 |.int a,.int b=>a==b
 |.str a,.str b=>a==b
 |_,_=>false
theorem qov{A:Around}{s:Shared}{y x:V}{u v:Value}(ry:RelV y u)(rx:RelV x v)(fy:qgi y=true)(fx:qgi x=true):SeqAt.EqAt A s u v (eqV y x):=by
 cases y with
 |non=>
  cases ry;cases x with
  |non=>cases rx;exact SeqAt.EqAt.same _
  |bl b=>cases rx;exact SeqAt.EqAt.none_bool b
  |int b=>obtain⟨t,rfl⟩:=rx;exact SeqAt.EqAt.none_int b t
  |str b=>obtain⟨t,rfl⟩:=rx;exact SeqAt.EqAt.none_str b t
  |_=>exact absurd (show false=true from fx) Vq
 |bl a=>
  cases ry;cases x with
  |non=>cases rx;exact SeqAt.EqAt.bool_none a
  |bl b=>cases rx;exact SeqAt.EqAt.bool_bool a b
  |int b=>obtain⟨t,rfl⟩:=rx;exact SeqAt.EqAt.bool_int a b t
  |str b=>obtain⟨t,rfl⟩:=rx;exact SeqAt.EqAt.bool_str a b t
  |_=>exact absurd (show false=true from fx) Vq
 |int a=>
  obtain⟨t',rfl⟩:=ry;cases x with
  |non=>cases rx;exact SeqAt.EqAt.int_none a t'
  |bl b=>cases rx;exact SeqAt.EqAt.int_bool a t' b
  |int b=>obtain⟨t,rfl⟩:=rx;exact SeqAt.EqAt.int_int a t' b t
  |str b=>obtain⟨t,rfl⟩:=rx;exact SeqAt.EqAt.int_str a t' b t
  |_=>exact absurd (show false=true from fx) Vq
 |str a=>
  obtain⟨t',rfl⟩:=ry;cases x with
  |non=>cases rx;exact SeqAt.EqAt.str_none a t'
  |bl b=>cases rx;exact SeqAt.EqAt.str_bool a t' b
  |int b=>obtain⟨t,rfl⟩:=rx;exact SeqAt.EqAt.str_int a t' b t
  |str b=>obtain⟨t,rfl⟩:=rx;exact SeqAt.EqAt.str_str a t' b t
  |_=>exact absurd (show false=true from fx) Vq
 |_=>exact absurd (show false=true from fy) Vq
theorem qau.or(h:qau X f r)(h':qau X f r'):qau X f (λxs H Q=>r xs H Q\/r' xs H Q):=by
 intro U s O H xs us Q I rs q
 rcases q with q|q
 ·exact h _ s O H xs us Q I rs q
 ·exact h' _ s O H xs us Q I rs q
theorem qfA:qau X (.type "list") (λxs H Q=> ∃p ys,xs=[.ref p]/\(SqL X.K H p ys\/SqT X.K H p ys)/\∀l,H l=none->Q (.ref l) (upd H l (.lst ys))):=by
 intro U s O H xs us Q I r h;obtain⟨p,ys,rfl,hq,q⟩:=h;obtain⟨u,rfl,rx⟩:=qdT r;cases rx
 have fin: ∀(its:List _),Vals ys its->ys.length<=sizeLine->∀(h':Heap)(c':Nat),(∀b o',s.heap.get? b=some o'->h'.get? b=some o')->
   h'.get? _=some _->EP X _ O Q _ _:=λits r' hz h' c' kp e=>
  ⟨.ref _,_,I.laid (t':=s.toks) kp (Vm _) (show qaG _ X.w _ h' _ (.lst ys) from⟨hz,its,c',r',e⟩),rfl,q _ (I.hok.fresh (Vm _))⟩
 rcases hq with hq|hq
 ·obtain⟨its,r',pl,hz⟩:=I.list hq;have hlen:=r'.length;obtain⟨o,ho,hc,n,hd⟩:=pl.isList;exact call_list_seq p (.inl rfl) ho hc hd (λh' c' kp e=>fin its r' hz h' c' kp e) (by simp_all)
 ·obtain⟨its,r',pl,hz⟩:=I.tuple hq;have hlen:=r'.length;obtain⟨o,ho,hc,n,hd⟩:=pl;exact call_list_seq p (.inr rfl) ho hc hd (λh' c' kp e=>fin its r' hz h' c' kp e) (by simp_all)
theorem qev:qau X (.type "tuple") (λxs H Q=> ∃p ys,xs=[.ref p]/\((SqL X.K H p ys/\∀l,H l=none->Q (.ref l) (upd H l (.tup ys)))\/(SqT X.K H p ys/\Q (.ref p) H))):=by
 intro U s O H xs us Q I r h;obtain⟨p,ys,rfl,h⟩:=h;obtain⟨u,rfl,rx⟩:=qdT r;cases rx
 rcases h with⟨hq,q⟩|⟨hq,q⟩
 ·obtain⟨its,r',pl,hz⟩:=I.list hq;have hlen:=r'.length;refine call_tuple_list pl.isList (λh' kp=> ?_) (by simp_all);have I1:=I.kept (t':=s.toks) kp
  have I2:=
   I1.laid (t':=s.toks) (λb o e=>Vg _ e) (Vm _) (show qaG _ X.w _ _ _ (.tup ys) from⟨hz,its,r',IsTup.new _ _⟩)
  exact⟨.ref _,_,I2,rfl,q _ (I1.hok.fresh (Vm _))⟩
 ·obtain⟨its,r',pl,hz⟩:=I.tuple hq;exact call_tuple_same pl ⟨.ref p,H,I,rfl,q⟩
noncomputable def tyV(K:W.Frag)(T:String)(x:V)(H:Hp):Prop:=match x with
 |.str _=>T= "str"
 |.int _=>T= "int"
 | .ref p=>(T= "list" /\∃xs,SqL K H p xs)\/(T= "tuple" /\∃o,K.lookup p=some o/\o.cls= .type "tuple" /\o.dict=none)\/
   (T= "dict" /\((∃kvs,H p=some (.dK kvs))\/∃kvs,H p=some (.dT kvs)))\/(T= "set" /\∃S n,H p=some (.set S n))
 |_=>False
theorem qnV{T:String}(I:Inv X U O H s)(r:RelV x v)(ty:tyV X.K T x H):
  s.TypeIs v T/\∀a,v= .ref a->∃ob,s.heap.get? a=some ob/\ob.dict=none:=by
 cases x with
 |str z=>obtain⟨t,rfl⟩:=r;cases(show T= "str" from ty);exact⟨typeIs_str s z t,λ_ e=>nomatch e⟩
 |int i=>obtain⟨t,rfl⟩:=r;cases(show T= "int" from ty);exact⟨typeIs_int s i t,λ_ e=>nomatch e⟩
 |ref p=>
  cases r
  rcases ty with⟨rfl,xs,hq⟩|⟨rfl,o,hk,hc,hd⟩|⟨rfl,hk⟩|⟨rfl,S,n,hk⟩
  ·obtain⟨its,_,pl,_⟩:=I.list hq;refine⟨pl.isList.typeIs,λa e=> ?_⟩;cases e;obtain⟨o,n,e,c,hd,_⟩:=pl;exact⟨o,e,hd⟩
  ·refine⟨⟨o,I.kIn p o hk,hc⟩,λa e=> ?_⟩;cases e;exact⟨o,I.kIn _ o hk,hd⟩
  ·have z: ∃o,s.heap.get? p=some o/\o.ExactDict:=by
    rcases hk with⟨kvs,hk⟩|⟨kvs,hk⟩
    ·obtain⟨_,_,_,_,o,_,_,e,ex,_⟩:=I.hok p _ hk;exact⟨o,e,ex⟩
    ·obtain⟨_,_,_,_,o,_,_,e,ex,_⟩:=I.hok p _ hk;exact⟨o,e,ex⟩
   obtain⟨o,e,ex⟩:=z;refine⟨⟨o,e,ex.1⟩,λa e2=> ?_⟩;cases e2;exact⟨o,e,ex.2.1⟩
  ·obtain⟨o,_,_,_,e,ex,_⟩:=I.hok p _ hk;refine⟨⟨o,e,ex.1⟩,λa e2=> ?_⟩;cases e2;exact⟨o,e,ex.2.1⟩
 |_=>exact False.elim ty
noncomputable def qyr(K:W.Frag)(T:String)(r:V->List V->Hp->VK->Prop)(to:TE):TE:=λO H Q=>to O H λx H1=>tyV K T x H1/\r x [] H1 Q
noncomputable def tBM(K:W.Frag)(T:String)(r:V->List V->Hp->VK->Prop)(to:TE)(t:TA):TE:=λO H Q=>to O H λx H1=>tyV K T x H1/\t O H1 λxs H2=>r x xs H2 Q
variable{name:Str}{T id:String}
theorem qst(pa:PlainAttrs T)(slot:Slot T name id)(b8:typeOf (.builtin id)=pure (.type "method_descriptor"))(hm:MtR X id r)(ho:PE X o to)(aJ:attributeBase o name X.env (eval o X.env)=eval o X.env:=by rfl)(ax:(apos.endLine==cpos.line)=true:=by rfl):PE X (.Call (.Attribute o name apos) [] [] cpos) (qyr X.K T r to):=by intro U s O H Q I h;refine wpAny_Call_method0_late aJ ax (thn (ho _ s O H _ I h) λv s1 z0=> ?_);obtain ⟨x,H1,I1,r1,ty,q1⟩:=z0;obtain⟨h1,h2⟩:=qnV I1 r1 ty;exact⟨T,id,pa,slot,b8,h1,h2,Calls.callWith_builtin rfl (PySem.evalArgs_none (hm _ s1 O H1 x [] v [] Q I1 r1 .nil q1))⟩
theorem qvN(pa:PlainAttrs T)(slot:Slot T name id)(b8:typeOf (.builtin id)=pure (.type "method_descriptor"))(hm:MtR X id r)(ho:PE X o to)(ha:PA X (e::es) t)(aJ:attributeBase o name X.env (eval o X.env)=eval o X.env:=by rfl)(dy:((backTo cpos (starEach (e::es) X.env)).all (λx=> !x.1)&&(backToKw cpos (keywordEach [] X.env)).all (λx=>x.1.isSome)
   &&decide ((e::es).length+([]:List Keyword).length+(if([]:List Keyword).isEmpty then 0 else 1)<30))=true:=by rfl)(ax:(apos.endLine==cpos.line)=true:=by rfl)(hs:starEach (e::es) X.env=(false,eval e X.env)::starEach es X.env:=by rfl)(aZ:(backTo cpos (starEach es X.env)).any (·.1)=false:=by rfl):
  PE X (.Call (.Attribute o name apos) (e::es) [] cpos) (tBM X.K T r to t):=by intro U s O H Q I h;refine wpAny_Call_method_late aJ dy ax rfl (thn (ho _ s O H _ I h) λv s1 z0=> ?_);obtain ⟨x,H1,I1,r1,ty,q1⟩:=z0;obtain⟨h1,h2⟩:=qnV I1 r1 ty;refine⟨T,id,pa,slot,b8,h1,h2,?_⟩;have hA:=ha cpos _ s1 O H1 _ I1 q1;rw[hs] at hA⊢;refine Calls.callWith_builtin (by show(false||(backTo _ _).any _)=false;rw[aZ]<;>rfl) (Calls.evalArgs_plain ?_);exact thn hA (by rintro us s2 ⟨vs,H2,I2,r2,q2⟩;exact hm _ s2 O H2 x vs v us Q I2 r1 r2 q2)
end
noncomputable def MtM(X:Cx)(id:String)(r:V->List V->Hp->VK->Prop):Prop:=
 ∀(U:List (Addr×Obj))(s:Shared)(O:St)(H:Hp)(x:V)(xs:List V)(v:Value)(us:List Value)(Q:VK),Inv X U O H s->RelV x v->Vals xs us->r x xs H Q->
  wpAny (model X.prog X.w) X.A (call (.builtin id) (v::us)) (EP X U O Q) X.xe s
theorem Vals.one: ∀{x:V}{us:List Value},Vals [x] us->∃u,us=[u]/\RelV x u
 |_,_,.cons r .nil=>⟨_,rfl,r⟩
section
theorem Inv.lset{s:Shared}{ys:List V}{its aD:List Value}{n:Nat}{t':Nat}(I:Inv X U O H s)(hH:H l=some (.lst xs))(e:s.heap.get? l=some { cls:=.type "list",data:=.seq its.toArray n })(hf:f its.toArray=aD.toArray)(hv:Vals ys aD)(hz:ys.length<=sizeLine):
  Inv X U O (upd H l (.lst ys)) { s with heap:=s.heap.update l (Obj.mapSeq f),toks:=t' }:=by have q:=PySem.IsL.update e f;rw[hf] at q;refine I.write (by rw[hH];exact trivial) (.inl rfl) (λb' u hb hu=>(Vj _ _ (Ne.symm hb)).trans hu) ⟨_,q⟩ ?_;exact⟨hz,aD,_,hv,q⟩
theorem Inv.lnew(I:Inv X U O H s)(hv:Vals ys its)(hz:ys.length<=sizeLine):
  Inv X U O (upd H s.heap.objs.size (.lst ys)) { s with heap:=s.heap.push { cls:=.type "list",data:=.seq its.toArray },toks:=t' }:=
 I.laid (λ_ _ q=>Vg _ q) (Vm _) ⟨hz,its,0,hv,Vh _ rfl⟩
theorem Inv.fresh(I:Inv X U O H s):H s.heap.objs.size=none:=I.hok.fresh (Vm _)
theorem Inv.lstM(I:Inv X U O H s)(hH:H l=some (.lst xs)):xs.length<=sizeLine/\∃(its:List Value)(n:Nat),Vals xs its/\xs.length=its.length/\s.heap.get? l=some { cls:=.type "list",data:=.seq its.toArray n }:=by obtain⟨z,its,n,r,e⟩:=I.hok l _ hH;exact⟨z,its,n,r,r.length,e⟩
theorem qmw(h:n<=sizeLine):Builtin.List.listTooLong n=false:=by exact Vw (by omega)
end
section
noncomputable def qpu:V->List V->Hp->VK->Prop:=λx vs H Q=> ∃l xs y,x= .ref l/\vs=[y]/\H l=some (.lst xs)/\xs.length<sizeLine/\Q .non (upd H l (.lst (xs++[y])))
theorem qe5:MtM X "list.append" qpu:=by
 intro U s O H x vs v us Q I rx rv h;obtain⟨l,xs,y,rfl,rfl,hH,hz,q⟩:=h;cases rx;obtain⟨u,rfl,ru⟩:=rv.one;obtain⟨z,its,n,r,hl,e⟩:=I.lstM hH;refine call_meets F.slot_list_append ⟨_,e,rfl⟩ F.entry_list_append (F.args_list_append_2 _ _) (PySem.list_append l _ n u (by grind)) ⟨e,?_⟩;refine⟨.non,_,I.lset hH e (by simp) (r.append (.cons ru .nil)) ?_,rfl,q⟩
 grind
noncomputable def qpp:V->List V->Hp->VK->Prop:=λx vs H Q=> ∃l b xs zs,x= .ref l/\vs=[.ref b]/\H l=some (.lst xs)/\H b=some (.lst zs)/\xs.length+zs.length<=sizeLine/\Q .non (upd H l (.lst (xs++zs)))
theorem qj0:MtM X "list.extend" qpp:=by
 intro U s O H x vs v us Q I rx rv h;obtain⟨l,b,xs,zs,rfl,rfl,hH,hB,hz,q⟩:=h;cases rx;obtain⟨u,rfl,ru⟩:=rv.one;cases ru;obtain⟨z,its,n,r,hl,e⟩:=I.lstM hH;obtain⟨z2,aY,n2,r2,dq,e2⟩:=I.lstM hB;have hsz:its.toArray.size+aY.toArray.size<=sizeLine:=by grind
 have e8: ¬(!its.toArray.isEmpty&&Builtin.List.listTooLong (its.toArray.size+aY.toArray.size))=true:=by rw[qmw hsz];simp
 refine call_meets F.slot_list_extend ⟨_,e,rfl⟩ F.entry_list_extend (F.args_list_extend_2 _ _)
  (AutoSeq1.list_extend_list_list_0 l _ n b _ n2 e8 (by omega) (by omega)) ⟨e,e2,?_⟩
 refine⟨.non,_,I.lset hH e (by simp) (r.append r2) ?_,rfl,q⟩
 grind
noncomputable def qxG:R2:=λx y H Q=> ∃l b xs zs,x= .ref l/\y= .ref b/\H l=some (.lst xs)/\H b=some (.lst zs)/\xs.length+zs.length<=sizeLine/\∀p,H p=none->Q (.ref p) (upd H p (.lst (xs++zs)))
theorem qsG:OpR X (binaryOp .Add) qxG:=by
 intro U s O H x y v u Q I rx ry h;obtain⟨l,b,xs,zs,rfl,rfl,hH,hB,hz,q⟩:=h;cases rx;cases ry;obtain⟨z,its,n,r,hl,e⟩:=I.lstM hH;obtain⟨z2,aY,n2,r2,dq,e2⟩:=I.lstM hB;refine P.add_list e e2 ?_ (by simp_all);have ea:its.toArray++aY.toArray=(its++aY).toArray:=by simp
 rw[ea];exact⟨.ref _,_,I.lnew (r.append r2) (by simp_all),rfl,q _ I.fresh⟩
end
end L2
namespace Att
open PySem PySem.W PySem.Calls PyProof.Rows
theorem qc1: ∀(ns:List Int)(vs:List Value),WellAll P h vs (ns.map WData.int)->IntsAre vs ns:=by
 intro ns
 induction ns with
 |nil=>intro vs w;cases w;exact .nil
 |cons n ns ih=>
  intro vs w;cases w with
  |cons a b=>cases a;exact .cons _ _ (ih _ b)
theorem qjs{l:OpenLaw}{n:Nat}(hn:l.most=some n){h:Heap}(cv:l.row.toRowW.claim.pre args=true)(gW:WellAll P h vals args):
  ∃a vs ns,vals=[Value.ref a]/\args=[WData.list (ns.map WData.int)]/\h.get? a=some { cls:=.type "list",data:=.seq vs.toArray }/\IntsAre vs ns/\ns.length<=n:=by
 have hsh:=(pre_splitW cv).1;have hc:l.pre.holds [] _=true:=(pre_splitW cv).2;obtain⟨d,r,rfl,h1,h2⟩:=hasAllW_cons hsh;obtain rfl:=hasAllW_nil h2;obtain⟨xs,rfl,h3⟩:=hasW_list h1;obtain⟨ns,rfl⟩:=items_int h3;have hlen:ns.length<=n:=by
  have h4:=by have h4:=(holds_andW hc).1;rw[hn] at h4;exact h4
  have h5:=condW_of h4 (w_not (w_lt w_lit (w_len_list (w_arg rfl))))
  simp_all
 cases gW with
 |cons w1 w2=>
  cases w2;cases w1 with
  |list ho dD=>exact⟨_,_,ns,rfl,rfl,ho,qc1 ns _ dD,hlen⟩
theorem qjL(l:OpenLaw)(args:List WData):l.row.toRowW.claim.post args (.bool true) args=true:=
 postW_of
  (show WShape.has [] _ _=true by first|rfl|decide|simp)
  (w_eq_bool (w_res rfl) w_lit) rfl
theorem attach_call{l:OpenLaw}{n:Nat}{loose:List Str}{d:DefRec}(hn:l.most=some n)(fm:d.params.defaults=[])(call: ∀(w:World)(s₀ ae:Shared)(mg mb:Str->Option Value)(fa:Addr)(o:Obj)(pm cd doc:Value)(a:Addr)(vs:List Value)(ns:List Int),
   Ground q loose [] XP w s₀ mg mb ae.heap->YP w ae.heap->
   ae.heap.get? fa=some o->o.data= .func (docDef d.name d.params d.body d.scope pm cd doc)->ae.heap.CodeRec cd d.name->mg d.name=some (.ref fa)->
   ae.heap.get? a=some { cls:=.type "list",data:=.seq vs.toArray }->IntsAre vs ns->ns.length<=n->ae.gens= #[]->
   codeAny (model l.prog w) callerA (.call (.ref fa) ⟨[.ref a],[]⟩) (λr s'=>r= .ok (.ret (.bool true))/\OldK ae.heap s'.heap/\s'.os=ae.os/\AllBare s'.gens) ae):
  WalkO q loose XP YP l.row.toRowW d [] (λf vs=>PySem.call f vs):=by intro w s₀ ae mg mb G Y fa o pm cd doc dV kV ho hd bg hD hX hg args vals as cv hlay hrd gW hlo;obtain rfl:dV= .none:=Dflts.none hD fm;obtain rfl:kV= .none:=Dflts.noKw hD;obtain⟨a,vs,ns,rfl,rfl,c9,hints,hlen⟩:=qjs hn cv gW;refine enter_call (codeAny_mono (call w _ _ mg mb fa o pm cd doc a vs ns G Y ho (fd_plain hd) bg hX c9 hints hlen hg) λr s' hq=> ?_);obtain⟨rfl,h2,h3,h4⟩:=hq;exact⟨.inl ⟨.bool _,.bool _,[],rfl,λ_=>rfl,.bool _,qjL l _,λ_=>⟨List.Pairwise.nil,λ_ hm=>(nomatch hm)⟩⟩,h2,h3,h4⟩
section
noncomputable def qxL(h:Heap)(L d:Addr):List (Addr×Obj):=(List.range h.objs.size).filterMap λa=>if a=L\/a=d then none else(h.get? a).map λo=>(a,o)
end
end Att
namespace L2
open PySem PySem.Spec PyProof.Rows
theorem qeD: ∀{vs:List Value}{ns:List Int},IntsAre vs ns->Vals (ns.map V.int) vs
 |_,_,.nil=>.nil
 |_,_,.cons n t h=>.cons ⟨t,rfl⟩ (qeD h)
noncomputable def Only(H:Hp):Prop:= ∀b,H b=none\/∃o xs,H b=some (.frz o (.lst xs))
abbrev KOf{K:W.Frag}{h:Heap}(_:K.In h):W.Frag:=K
noncomputable def qas(s:Stmt):Arguments:=match s with
 |.FunctionDef _ a _ _ _ _ _ _ _ _=>a
 |_=>{ posonlyargs:=[],args:=[],vararg:=none,kwonlyargs:=[],kw_defaults:=[],kwarg:=none,defaults:=[] }
noncomputable def qaF(s:Stmt):List Stmt:=match s with
 |.FunctionDef _ _ b _ _ _ _ _ _ _=>b
 |_=>[]
noncomputable def qaf(s:Stmt):Scope:=match s with
 |.FunctionDef _ _ _ _ _ _ sc _ _ _=>sc
 |_=>{ kind:=.function,names:=[],isGenerator:=false,isCoroutine:=false }
abbrev CX0:CXT:=λ_ _ _ _ _ _=>False
abbrev E0:XK:=λ_ _ _=>False
structure Fun(K:W.Frag)(x qual:Str)(st:Stmt)(f:Addr)(fd:FuncData):Prop where
 ex: ∃(oc:Value)(od:Option Addr)(kV doc pm:Value)(an:Option Addr)(cdv ct:Value)(osl:Array (Option Value)),
  fd=W.fnOf x qual (qas st) (qaF st) (qaf st) .none kV doc pm an cdv ct/\K.lookup f=some ⟨oc,od,.func fd,osl⟩/\W.codeIn K cdv qual=true
 kp:W.keepIn K (.ref f)=true
section
theorem Fun.binds{K:W.Frag}{x qual:Str}{st:Stmt}{f:Addr}{fd:FuncData}{ps:List Str}(F:Fun K x qual st f fd)(h: ∀(kV doc pm:Value)(an:Option Addr)(cdv ct:Value)(us:List Value),us.length=ps.length->bindArgs (W.fnOf x qual (qas st) (qaF st) (qaf st) .none kV doc pm an cdv ct) ⟨us,[]⟩=pure (ps.zip us)):qaW K fd ps []:=by obtain⟨oc,od,kV,doc,pm,an,cdv,ct,osl,rfl,lk,bg⟩:=F.ex;exact .all (h kV doc pm an cdv ct)
theorem qkI{K:W.Frag}{x qual:Str}{st:Stmt}{f:Addr}{oc:Value}{od an:Option Addr}{osl:Array (Option Value)}{kV doc pm cdv ct:Value}(l:K.lookup f=some ⟨oc,od,.func (W.fnOf x qual (qas st) (qaF st) (qaf st) .none kV doc pm an cdv ct),osl⟩)(c:W.codeIn K cdv qual=true)(k:W.keepIn K (.ref f)=true):Fun K x qual st f (W.fnOf x qual (qas st) (qaF st) (qaf st) .none kV doc pm an cdv ct):=⟨⟨oc,od,kV,doc,pm,an,cdv,ct,osl,rfl,l,c⟩,k⟩
end
theorem qeM(h:n<=1000):n<sizeLine:=Nat.lt_of_le_of_lt h (by decide)
theorem qyL{A B:Prop}(h:B):if false=true then A else B:=by
 grind
theorem qyK{A B:Prop}(h:A):if true=true then A else B:=by
 grind
noncomputable def clOf(env:Env):List (Str×NameKind)->List (Str×Addr)->List (Str×Addr)
 |[],acc=>acc
 |x::r,acc=>clOf env r (if x.2== .free then(match env.cells.lookup x.1 with|some a=>(x.1,a)::acc|none=>acc) else acc)
theorem qdK: ∀(names:List (Str×NameKind))(acc:List (Str×Addr)),(∀x∈names,x.2= .free->∃c,env.cells.lookup x.1=some c)->
  (forIn names acc λx r=>(match x with|(name,kind)=>if(kind==NameKind.free)=true then do let a <-cellOf env name;pure (ForInStep.yield ((name,a)::r)) else pure (ForInStep.yield r):Sem (ForInStep (List (Str×Addr)))))=pure (clOf env names acc)
 |[],acc,_=>rfl
 |(n,k)::r,acc,h=>by
  rw[List.forIn_cons];have ih:=λbH=>qdK r bH λx hx=>h x (Vl _ hx);by_cases hk:(k==NameKind.free)=true
  ·have ie:=by simpa using hk
   obtain⟨c,hc⟩:=h (n,k) Vk ie;simp only[hk,cellOf,hc,clOf];exact ih _
  ·simp only[hk,clOf];exact ih _
theorem qiJ(h: ∀x∈scope.names,x.2= .free->∃c,env.cells.lookup x.1=some c):closureFor scope env=pure (clOf env scope.names []):=by have e:=qdK _ [] h;exact(congrArg (λm=>m>>=λr=>pure r) e)
theorem qhF{x:Str}: ∀(names:List (Str×NameKind))(acc:List (Str×Addr)),(∀y d,acc.lookup y=some d->env.cells.lookup y=some d)->
  (clOf env names acc).lookup x=some c->env.cells.lookup x=some c
 |[],acc,ha,h=>ha x c h
 |(n,k)::r,acc,ha,h=>by
  refine qhF r _ (λy d hy=> ?_) h;by_cases hk:(k==NameKind.free)=true
  ·rw[if_pos hk] at hy;cases e:env.cells.lookup n with
   |none=>simp_all
   |some a=>
    rw[e] at hy;rw[List.lookup_cons] at hy;cases hb:y==n with
    |true=>
     simp_all
    |false=>simp_all
  simp_all
theorem qc9{x:Str}: ∀(names:List (Str×NameKind))(acc:List (Str×Addr)),env.cells.lookup x=some c->(acc.lookup x=some c\/(x,NameKind.free)∈names)->
  (clOf env names acc).lookup x=some c
 |[],acc,hc,h=>by
  rcases h with h|h
  ·exact h
  ·cases h
 |(n,k)::r,acc,hc,h=>by
  refine qc9 r _ hc ?_;by_cases hk:(k==NameKind.free)=true
  ·rw[if_pos hk];by_cases hn:x=n
   ·simp_all
   ·cases e:env.cells.lookup n with
    |none=>
     grind
    |some a=>
     grind
  ·grind
theorem qbi{env:Env}{x:Str}{k:NameKind}: ∀{names:List (Str×NameKind)},(∀y∈names,y.2≠.cell)->k= .cell\/k= .free->
  (names.map λ(n,k)=>if(k==NameKind.free&&env.scope.kind== .function&&env.kindOf n==some .cell) then(n,NameKind.cell) else(n,k)).lookup x=some k->names.lookup x=some .free
 |[],_,_,h=>by simp at h
 |(n,k')::r,hc,hk,h=>by
  have ih:=@qbi env x k r (λy hy=>hc y (Vl _ hy)) hk;rw[List.map_cons] at h;dsimp only at h;by_cases hf:(k'==NameKind.free&&env.scope.kind== .function&&env.kindOf n==some .cell)=true
  ·rw[if_pos hf] at h;have ie:k'= .free:=by
    grind
   subst ie;cases hx:x==n with
   |true=>simp[List.lookup_cons,hx]
   |false=>simp only[List.lookup_cons,hx] at h⊢;exact ih h
  ·rw[if_neg hf] at h;cases hx:x==n with
   |true=>
    simp_all
   |false=>simp only[List.lookup_cons,hx] at h⊢;exact ih h
theorem qca{env:Env}{x:Str}: ∀{names:List (Str×NameKind)},names.lookup x=some .free->
  let m:=(names.map λ(n,k)=>if(k==NameKind.free&&env.scope.kind== .function&&env.kindOf n==some .cell) then(n,NameKind.cell) else(n,k)).lookup x
  m=some .cell\/m=some .free
 |[],h=>by simp at h
 |(n,k)::r,h=>by
  have ih:=@qca env x r;dsimp only at ih⊢;rw[List.map_cons];dsimp only;cases hx:x==n with
  |true=>
   simp only[List.lookup_cons,hx] at h;cases h;by_cases hf:(NameKind.free==NameKind.free&&env.scope.kind== .function&&env.kindOf n==some .cell)=true
   ·rw[if_pos hf];exact .inl (by simp[List.lookup_cons,hx])
   ·rw[if_neg hf];exact .inr (by simp[List.lookup_cons,hx])
  |false=>
   simp only[List.lookup_cons,hx] at h;by_cases hf:(k==NameKind.free&&env.scope.kind== .function&&env.kindOf n==some .cell)=true
   ·rw[if_pos hf];simp only[List.lookup_cons,hx];exact ih h
   ·rw[if_neg hf];simp only[List.lookup_cons,hx];exact ih h
noncomputable def qat(X:Cx)(scope:Scope)(own:List Str)(fr:List (Str×Nat))(fp:List Addr)(s3:Shared)(H3:Hp):Cx where
 prog:=X.prog
 w:=X.w
 K:=X.K
 mg:=X.mg
 base:=X.base
 A:=X.A
 N:=own++fr.map (·.1)
 s₀:=s3
 H₀:=H3
 env:=compEnvC scope (clOf X.env scope.names []) s3.heap.objs.size X.env
 outer:=X.stack
 stack:=X.stack
 ex:=fp
 calm:=X.calm
 fn:=λ_=>false
 pn:=[]
 xe:=λ_ _=>False
noncomputable def qeJ(own:List Str)(fr:List (Str×Nat))(O:St):St:=own.map (λ_=>none)++fr.map λp=>(O[p.2]?).join
noncomputable def qiU(Y:Cx)(ifs:List Expr)(tt:TT):Prop:=
 ∀(U:List (Addr×Obj))(s:Shared)(O:St)(H:Hp)(Q:Bool->Hp->Prop),Inv Y U O H s->tt O H Q->
  wpAny (model Y.prog Y.w) Y.A (forIn ifs true λc r=>if r=true then do let ok <-isTrue c Y.env (eval c Y.env);pure (ForInStep.yield ok) else pure (ForInStep.yield r)) (TP Y U O Q) Y.xe s
noncomputable def qo8:TT:=λ_ H Q=>Q true H
theorem qmi:qiU Y [] qo8:=λ_ _ _ H _ I h=>wpAny_tests_nil ⟨H,I,h⟩
theorem qmh(h:PT Y c t):qiU Y [c] t:=λU s O H Q I q=>wpAny_tests_one (h _ s O H Q I q)
section
theorem qiM(hE: ∀e s',Ex e s'->notedBy (model prog w) A env (λe s'=>R (.error e) s') e s')(J:Nat->Shared->Prop)(turn: ∀n s,J n s->wpAny (model prog w) A (pyNext it) (λr s1=>match r with
   |none=>R (.ok .next) s1
   | some v=>wpAny (model prog w) A (letOwnedTupleGo tg it v) (λ_ s2=>wpAny (model prog w) A (assign tg env v) (λ_ s3=>
     wpAny (model prog w) A (forIn ifs true λc r=>if r=true then do let ok <-isTrue c env (eval c env);pure (ForInStep.yield ok) else pure (ForInStep.yield r)) (λok s4=>
      if ok=true then wpAny (model prog w) A (eval elt env) (λx s5=>wpAny (model prog w) A (call (.builtin "list.append") [acc,x]) (λ_ s6=> ∃m,m<n/\J m s6) Ex s5) Ex s4
      else ∃m,m<n/\J m s4) Ex s3) Ex s2) Ex s1) Ex s)(n:Nat)(h:J n s):codeAny (model prog w) A (.compLoop (.ListComp elt [⟨tg,iter,ifs,0⟩] scope pos) 0 it acc env) R s:=by
 refine codeAny_loop rfl J (λn s hJ=> ?_) n h;refine wpAny_noted ?_;rw[compTurn_list];have go: ∀{α:Type}{t:Sem α}{Q Q':α->Shared->Prop}{s:Shared},wpAny (model prog w) A t Q Ex s->(∀a s,Q a s->Q' a s)->wpAny (model prog w) A t Q' (notedBy (model prog w) A env λe s'=>R (.error e) s') s:=λh hQ=>Vc h hQ hE;refine Va (wpAny_standAt (Va (go (turn n s hJ) λr s1 h1=> ?_)));cases r with
 |none=>exact Vb h1
 |some v=>
  refine Va (go h1 λ_ s2 h2=>Va (go h2 λ_ s3 h3=>Va (go h3 λok s4 h4=> ?_)));cases ok with
  |false=>exact Vb ⟨rfl,h4⟩
  |true=>exact Va (Va (go h4 λx s5 h5=>Va (go h5 λ_ s6 h6=>Vb (Vb ⟨rfl,h6⟩))))
end
noncomputable def qxn(J:It)(D:Addr)(g:TG)(tt:TT)(te:TE)(σ0:St)(H0:Hp)(Q:Addr->Hp->Prop):Prop:=
 ∃W:Nat->Nat->St->Hp->Prop,(∃m,W 0 m σ0 H0)/\∀i m cM H2,W i m cM H2->
  (J.stop i H2/\Q D H2)\/(J.go i H2/\∃(Ny:St->V->Hp->Prop)(Nn:St->Hp->Prop),
   (∀aE y H6,Ny aE y H6->∃ys,H6 D=some (.lst ys)/\ys.length<sizeLine/\∃m',m'<m/\W (i+1) m' aE (upd H6 D (.lst (ys++[y]))))/\
   (∀aE H5,Nn aE H5->∃m',m'<m/\W (i+1) m' aE H5)/\
   ∀x H3,J.yld i H2 x H3->g x cM H3 λaE H4=>tt aE H4 λb H5=>if b=true then te aE H5 (Ny aE) else Nn aE H5)
noncomputable def qeH(wi:TI)(g:TG)(tt:TT)(te:TE)(own:List Str)(fr:List (Str×Nat))(O:St)(H:Hp)(Q:Addr->Hp->Prop):Prop:=
 wi O H λJ H1=> ∀D,H1 D=none->qxn J D g tt te (qeJ own fr O) (upd H1 D (.lst [])) Q
section
variable{own:List Str}
theorem qns{X:Cx}{elt:Expr}{tg:Expr}{iter:Expr}{ifs:List Expr}{scope:Scope}{pos:Pos}{fr:List (Str×Nat)}{wi:TI}{g:TG}{tt:TT}{te:TE}{R:Value->Env->Result->Shared->Prop}{xe:List Addr->Shared->Hp->Value->Shared->Prop}{U:List (Addr×Obj)}{O:St}{H:Hp}{s:Shared}{Q:Addr->Hp->Prop}(hc:X.calm=true)(hi:PI X tg iter wi)(hk:scope.kind= .function)(ai: ∀y∈scope.names,y.2≠.cell)(ah: ∀y∈scope.names,y.2= .free->X.env.kindOf y.1=some .cell\/X.env.kindOf y.1=some .free)(bu: ∀p∈fr,X.N[p.2]? =some p.1/\scope.names.lookup p.1=some .free)(hb: ∀(fp:List Addr)(s3:Shared)(H3:Hp),PG ((qat X scope own fr fp s3 H3).wish (xe fp s3 H3)) tg g/\qiU ((qat X scope own fr fp s3 H3).wish (xe fp s3 H3)) ifs tt/\PE ((qat X scope own fr fp s3 H3).wish (xe fp s3 H3)) elt te)(I:Inv X U O H s)(h:qeH wi g tt te own fr O H Q)(fin: ∀(D:Addr)(ce:Env)(H':Hp)(s':Shared)(m:Str->Option Value),Inv X U O H' s'->qgL X U H' ce.locals->s'.heap.Ns ce.locals m->Q D H'->R (.ref D) ce (.ok .next) s')(iJ: ∀(D:Addr)(fp:List Addr)(s3:Shared)(H3:Hp)(e:Value)(s':Shared),Inv X U O H3 s3->(∀b∈fp,b<s3.heap.objs.size/\qgL X U H3 b)->xe fp s3 H3 e s'->
   notedBy (model X.prog X.w) X.A (compEnvC scope (clOf X.env scope.names []) s3.heap.objs.size X.env) (λx s''=>R (.ref D) (compEnvC scope (clOf X.env scope.names []) s3.heap.objs.size X.env) (.error x) s'') e s'):
  wpAny (model X.prog X.w) X.A (eval iter X.env) (λx s1=>wpAny (model X.prog X.w) X.A (pyIter x) (λit s2=>wpAny (model X.prog X.w) X.A (newList []) (λacc s3=>
   wpAny (model X.prog X.w) X.A (newFunctionEnv scope X.env.globals (clOf X.env scope.names []) [] X.env.qual none .none (some X.env)) (λce s4=>
    codeAny (model X.prog X.w) X.A (.compStart (.ListComp elt [⟨tg,iter,ifs,0⟩] scope pos) 0 it acc { ce with scope:=relabel scope X.env }) (R acc { ce with scope:=relabel scope X.env }) s4) X.xe s3) X.xe s2) X.xe s1) X.xe s:=by
 have iB: ∀x∈scope.names,x.2= .free->∃c,X.env.cells.lookup x.1=some c:=λx hx e=>I.ok.has x.1 (ah x hx e);refine thn (hi U s O H _ I h) λxv s1 h1=>thn h1 λitv s2 h2=> ?_;obtain⟨it,fp,tn,J,H2,rfl,I2,T,fJ,f2,h2⟩:=h2;refine wpAny_newObj_type (hd:=by size_fits) ?_;generalize hD:s2.heap.objs.size=D;have I3:Inv X U O (upd H2 D (.lst [])) { s2 with heap:=s2.heap.push { cls:=.type "list",dict:=none,data:=.seq ([]:List Value).toArray } }:=by rw[<-hD];exact I2.lnew (its:=[]) (ys:=[]) (t':=s2.toks) .nil (Nat.zero_le _)
 have nD:H2 D=none:=I2.hok.fresh (Nat.le_of_eq hD);obtain⟨W,⟨m0,w0⟩,turn⟩:=h2 D nD;have f3: ∀b∈fp,b<s2.heap.objs.size/\qgL X U (upd H2 D (.lst [])) b:=λb hb=>by obtain⟨o,e,_⟩:=T.obj _ _ fJ b hb;have lt:=Vi e;exact⟨lt,by rw[qad (by rw[<-hD];exact Vo lt)];exact(f2 b hb).1,(f2 b hb).2⟩
 have eB:tn 0 (s2.heap.push { cls:=.type "list",dict:=none,data:=.seq ([]:List Value).toArray }):=T.keep _ _ _ fJ λb _ o e=>Vg _ e;generalize hs3:({ s2 with heap:=s2.heap.push { cls:=.type "list",dict:=none,data:=.seq ([]:List Value).toArray } }:Shared)=s3 at I3⊢;have fW:s3.heap=s2.heap.push { cls:=.type "list",dict:=none,data:=.seq ([]:List Value).toArray }:=by rw[<-hs3]
 rw[<-fW] at eB;have iU:s3.heap.objs.size=s2.heap.objs.size+1:=by rw[fW,Heap.size_push]
 generalize iF:upd H2 D (.lst [])=H3 at I3 w0 f3;refine wpAny_newFunctionEnv ai (by intro y hy;simp at hy) (λh4 hn4 hs4=> ?_) hk;have bO: ∀b o,s3.heap.get? b=some o->h4.get? b=some o:=λb o e=>
  (hs4.2 b (Vo (Vi e))).trans (Vg _ e)
 generalize c6:({ s3 with heap:=h4,toks:=s3.toks+([]:List (Str×Value)).length }:Shared)=s4;have dY:s4.heap=h4:=by rw[<-c6]
 have aK: ∀x c,(clOf X.env scope.names []).lookup x=some c->X.env.cells.lookup x=some c:=λx c=>qhF _ _ (λ_ _ z=>by cases z);have Y0:Inv ((qat X scope own fr fp s3 H3).wish (xe fp s3 H3)) [] (qeJ own fr O) H3 s4:=by
  refine⟨⟨I3.ok.mod,hk,I3.ok.glob,I3.ok.blt,Vm _,λx y c h1 h2=>I3.ok.inj x y c (aK x c h1) (aK y c h2),λx hx=> ?_,λx c z=>absurd (show false=true from z) Vq,I3.ok.hd,I3.ok.frames,.inl rfl,λb hb=>⟨?_,λx c e=>(f3 b hb).2.2.2.2.2.1 x c (aK x c e)⟩,
   I3.bs,Vp I3.ok.bsz I3.sz,λb o e hb=> ?_,λb hb z=> ?_,I3.stack,I3.stkFree⟩,by rw[<-c6];rfl,by rw[<-c6];exact I3.bare,?_,⟨_,by rw[dY];exact hn4,λi x v e1 e2 e3=> ?_⟩,λx c e=> ?_,I3.hok.fresh (Vm _),λx c e=>I3.freeC x c (aK x c e),λp hp=>absurd (show p∈([]:List (Addr×Obj)) from hp) (by simp),?_,?_⟩
  ·have bZ:(relabel scope X.env).names.lookup x=some .cell\/(relabel scope X.env).names.lookup x=some .free:=hx;have hf:scope.names.lookup x=some .free:=by
    rcases bZ with z|z
    ·exact qbi ai (.inl rfl) z
    ·exact qbi ai (.inr rfl) z
   obtain⟨c,hc⟩:=iB (x,.free) (Vu hf) rfl;exact⟨c,qc9 _ _ hc (.inr (Vu hf))⟩
  ·have:=(f3 b hb).1;exact Vo (Vn this (show s2.heap.objs.size<=s3.heap.objs.size by rw[iU];exact Wa _))
  ·rcases(f3 b hb).2.2.2.2.1 with z|z
   ·exact I3.ok.noex b o e z
   ·exact absurd (Vn (Vi (I3.ok.bs b o e).1) z) (Nat.lt_irrefl _)
  ·rcases List.mem_cons.mp (I3.stkSub b z) with q|q
   ·exact(f3 b hb).2.2.1 q
   ·exact(f3 b hb).2.2.2.1 q
  ·exact Un.kept (by rw[dY];exact bO)
  ·
   have aV:own.length<=i:=by
    by_cases q:own.length<=i
    ·exact q
    ·exfalso;have bU:(own.map (λ_=>(none:Option V))++fr.map λp=>(O[p.2]?).join)[i]? =some (some v):=e2;rw[List.getElem?_append_left (by simpa using q),List.getElem?_map] at bU;cases q2:own[i]? with
     |none|some z=>rw[q2] at bU;cases bU
   have bU:(own.map (λ_=>(none:Option V))++fr.map λp=>(O[p.2]?).join)[i]? =some (some v):=e2;rw[List.getElem?_append_right (by simpa using aV),List.getElem?_map,List.length_map] at bU;have iK:(own++fr.map (·.1))[i]? =some x:=e1;rw[List.getElem?_append_right aV,List.getElem?_map] at iK;cases q2:fr[i - own.length]? with
   |none=>rw[q2] at bU;cases bU
   |some p=>
    rw[q2] at iK bU;obtain rfl:p.1=x:=Option.some.inj iK;have e4:(O[p.2]?).join=some v:=Option.some.inj bU;have e5:O[p.2]? =some (some v):=by
     cases q3:O[p.2]? with
     |none=>rw[q3] at e4;cases e4
     |some z=>rw[q3] at e4;exact congrArg some e4
    obtain⟨g1,g2⟩:=bu p (Vt q2);have kx:=ah (p.1,.free) (Vu g2) rfl;obtain⟨mX,hnX,hlX⟩:=I3.loc;obtain⟨u,ru,lu⟩:=hlX p.2 p.1 v g1 e5 (kx.elim (λz=>.inr (.inl z)) λz=>.inr (.inr z));refine⟨u,ru,.inr ⟨qca g2,?_⟩⟩
    rcases lu with⟨z,_⟩|⟨_,c,e6,e7⟩
    ·rcases kx with kx|kx
     ·rw[kx] at z;cases z
     ·rw[kx] at z;cases z
    ·obtain⟨oc,dR,hd⟩:=e7;exact⟨c,qc9 _ _ e6 (.inr (Vu g2)),oc,by rw[dY];exact bO _ _ dR,hd⟩
  ·obtain⟨v,oc,dR,hd⟩:=I3.cell x c (aK x c e);exact⟨v,oc,by rw[dY];exact bO _ _ dR,hd⟩
  ·exact I3.hok.kept (by rw[dY];exact bO)
  ·show(own.map (λ_=>(none:Option V))++fr.map λp=>(O[p.2]?).join).length=(own++fr.map (·.1)).length;simp
 have fY: ∀{H':Hp},(∀b∈fp,H' b=none)->∀b∈fp,qgL ((qat X scope own fr fp s3 H3).wish (xe fp s3 H3)) [] H' b:=λ{H'} hn b hb=>
  ⟨hn b hb,(Y0.ok.exf b hb).1,Y0.ok.exfs b hb,.inl hb,(Y0.ok.exf b hb).2,λp hp=>absurd (show p∈([]:List (Addr×Obj)) from hp) (by simp)⟩
 have iV:tn 0 s4.heap:=T.keep _ _ _ eB (by rw[dY];exactλb _ o e=>bO b o e);have ji:((qat X scope own fr fp s3 H3).wish (xe fp s3 H3)).calm=true:=hc;obtain⟨hg,ht,he⟩:=hb fp s3 H3;have loop:codeAny (model X.prog X.w) X.A (.compLoop (.ListComp elt [⟨tg,iter,ifs,0⟩] scope pos) 0 (.ref it) (.ref D) (compEnvC scope (clOf X.env scope.names []) s3.heap.objs.size X.env)) (R (.ref D) (compEnvC scope (clOf X.env scope.names []) s3.heap.objs.size X.env)) s4:=by
  refine qiM (Ex:=xe fp s3 H3) (λe s' q=>iJ D fp s3 H3 e s' I3 (λb hb=>⟨Vn (f3 b hb).1 (by rw[iU];exact Wa _),(f3 b hb).2⟩) q) (λn s'=> ∃i ag H',Inv ((qat X scope own fr fp s3 H3).wish (xe fp s3 H3)) [] ag H' s'/\tn i s'.heap/\(∀b∈fp,H' b=none)/\W i n ag H') ?_ m0 ⟨0,_,_,Y0,iV,λb hb=>(f3 b hb).2.1,w0⟩;rintro n s5 ⟨i,cy,H5,I5,dM,gj,w5⟩
  rcases turn i n cy H5 w5 with⟨stop,q⟩|⟨go,Ny,Nn,hNy,hNn,step⟩
  ·refine thn (T.done ((qat X scope own fr fp s3 H3).wish (xe fp s3 H3)) rfl rfl rfl ji i [] s5 cy H5 _ I5 (fY gj) dM stop) λr s6 eW=> ?_;obtain⟨hr,I6⟩:=eW;subst hr;have IX:Inv X U O H5 s6:=I3.call' (ch:=fp) I6.os I6.base I6.hok I6.bare λb hb=>⟨(f3 b hb).2.2.2.2.1,(f3 b hb).2.2.1,(f3 b hb).2.2.2.2.2.1,(f3 b hb).2.2.2.2.2.2⟩
   obtain⟨m6,hn6,_⟩:=I6.loc;exact fin D _ H5 s6 m6 IX (I3.fpOk (Vm _) I6.free) hn6 q
  ·refine thn (T.item ((qat X scope own fr fp s3 H3).wish (xe fp s3 H3)) rfl rfl rfl ji i [] s5 cy H5 _ I5 (fY gj) dM go) λr s6 eV=> ?_;obtain⟨u,hr,h6⟩:=eV;subst hr;refine thn h6 λ_ s7 eU=> ?_;obtain⟨x,H7,I7,r7,y7,gB,fr7⟩:=eU;have I7':=I7.pinned (fY fr7) (T.obj _ _ gB);refine thn (hg _ s7 cy H7 x u _ I7' r7 (step x H7 y7)) λ_ s8 eT=> ?_;obtain⟨bI,H8,I8,q8⟩:=eT;refine thn (ht _ s8 bI H8 _ I8 q8) λb s9 eR=> ?_;obtain⟨H9,I9,q9⟩:=eR;have again: ∀{s':Shared}{H':Hp}{m':Nat},Inv ((qat X scope own fr fp s3 H3).wish (xe fp s3 H3)) ([]++qeX fp s7.heap) bI H' s'->m'<n->W (i+1) m' bI H'->∃m,m<n/\∃i ag H',Inv ((qat X scope own fr fp s3 H3).wish (xe fp s3 H3)) [] ag H' s'/\tn i s'.heap/\(∀b∈fp,H' b=none)/\W i m ag H':=λ{s' H' m'} I' hm w'=>by refine⟨m',hm,i+1,bI,H',I'.unpinned,T.keep _ _ _ gB λb hb o e=>(I'.pin (b,o) (Vs _ (Vs _ (qbq hb e)))).1,λb hb=> ?_,w'⟩;obtain⟨o,e,d⟩:=T.obj _ _ gB b hb;exact(I'.pin (b,o) (Vs _ (Vs _ (qbq hb e)))).2.1
   cases b with
   |false=>obtain⟨m',hm,w'⟩: ∃m',m'<n/\W (i+1) m' bI H9:=hNn bI H9 (by simpa using q9);show ∃m,_;exact again I9 hm w'
   |true=>
    have q9':te bI H9 (Ny bI):=by simpa using q9
    show wpAny _ _ _ _ _ _;refine thn (he _ s9 bI H9 _ I9 q9') λxv s10 eQ=> ?_;obtain⟨y,jD,I10,r10,q10⟩:=eQ;obtain⟨ys,hys,hlen,m',hm,w'⟩:=hNy bI y jD q10;refine thn (qe5 _ s10 bI jD (.ref D) [y] (.ref D) [xv] (λ_ H'=> ∃m',m'<n/\W (i+1) m' bI H') I10 rfl (.cons r10 .nil) ⟨D,ys,y,rfl,rfl,hys,hlen,m',hm,w'⟩) λ_ s11 eP=> ?_;obtain⟨_,H11,I11,_,m2,hZ,w2⟩:=eP;exact again I11 hZ w2
 refine codeAny_compStart_list ?_ ?_
 ·exact loop
 ·exact T.self X.A 0 s4 _ _ iV loop
theorem comp_core{X:Cx}{elt:Expr}{tg:Expr}{iter:Expr}{ifs:List Expr}{scope:Scope}{pos:Pos}{gC:Pos}{fr:List (Str×Nat)}{wi:TI}{g:TG}{tt:TT}{te:TE}{use:Option (Value->Sem Unit)}{Qf:Value->Shared->Prop}{U:List (Addr×Obj)}{O:St}{H:Hp}{s:Shared}{Q:Addr->Hp->Prop}(hc:X.calm=true)(hi:PI X tg iter wi)(hk:scope.kind= .function)(ai: ∀y∈scope.names,y.2≠.cell)(ao: ∀y∈scope.names,y.2= .local->scope.names.lookup y.1=some .local)(ah: ∀y∈scope.names,y.2= .free->X.env.kindOf y.1=some .cell\/X.env.kindOf y.1=some .free)(bu: ∀p∈fr,X.N[p.2]? =some p.1/\scope.names.lookup p.1=some .free)(hb: ∀(fp:List Addr)(s3:Shared)(H3:Hp),PG (qat X scope own fr fp s3 H3) tg g/\qiU (qat X scope own fr fp s3 H3) ifs tt/\PE (qat X scope own fr fp s3 H3) elt te)(hs: ∀x,foldedSetIterable iter X.env x=pure x)(I:Inv X U O H s)(h:qeH wi g tt te own fr O H Q)(fin: ∀(D C:Addr)(H':Hp)(s':Shared)(m:Str->Option Value),Inv X U O H' s'->qgL X U H' C->s'.heap.Ns C m->Q D H'->compPost (model X.prog X.w) X.A X.xe use Qf (.ref D) C (.ok .next) s'):
  wpAny (model X.prog X.w) X.A (comprehension (.ListComp elt [⟨tg,iter,ifs,0⟩] scope pos) scope X.env gC (newList []) false (eval iter X.env) use) Qf X.xe s:=
 wpAny_comprehension_free rfl hs (qiJ λx hx e=>I.ok.has x.1 (ah x hx e)) hk ao
  (qns (R:=λacc ce=>compPost _ X.A _ use Qf acc ce.locals) hc hi hk ai ah bu hb I h (λD ce=>fin D _) λ_ _ _ _ _ _ _ _ z=>z.elim)
theorem qpJ(hc:X.calm=true)(hi:PI X tg iter wi)(hk:scope.kind= .function)(ai: ∀y∈scope.names,y.2≠.cell)(ao: ∀y∈scope.names,y.2= .local->scope.names.lookup y.1=some .local)(ah: ∀y∈scope.names,y.2= .free->X.env.kindOf y.1=some .cell\/X.env.kindOf y.1=some .free)(bu: ∀p∈fr,X.N[p.2]? =some p.1/\scope.names.lookup p.1=some .free)(hb: ∀(fp:List Addr)(s3:Shared)(H3:Hp),PG (qat X scope own fr fp s3 H3) tg g/\qiU (qat X scope own fr fp s3 H3) ifs tt/\PE (qat X scope own fr fp s3 H3) elt te)(hs: ∀x,foldedSetIterable iter X.env x=pure x:=by intro _; rfl):
  PE X (.ListComp elt [⟨tg,iter,ifs,0⟩] scope pos) (λO H Q=>qeH wi g tt te own fr O H λD H'=>Q (.ref D) H'):=by intro U s O H Q I h;refine comp_core hc hi hk ai ao ah bu hb hs I h λD C H' s' m I' f' hn q=> ?_;obtain⟨f0,f1,f2,f3,f4,f5⟩:=f';exact⟨m,hn,λh' br=>⟨.ref D,H',I'.turned (λb o hb e=>(br.2 b hb).trans e) f0 f1 f3 f4 f5,rfl,q⟩⟩
theorem ps_setcomp{y:Str}(hc:X.calm=true)(hi:PI X tg iter wi)(hk:scope.kind= .function)(ai: ∀y∈scope.names,y.2≠.cell)(ao: ∀y∈scope.names,y.2= .local->scope.names.lookup y.1=some .local)(ah: ∀y∈scope.names,y.2= .free->X.env.kindOf y.1=some .cell\/X.env.kindOf y.1=some .free)(bu: ∀p∈fr,X.N[p.2]? =some p.1/\scope.names.lookup p.1=some .free)(hb: ∀(fp:List Addr)(s3:Shared)(H3:Hp),PG (qat X scope own fr fp s3 H3) tg g/\qiU (qat X scope own fr fp s3 H3) ifs tt/\PE (qat X scope own fr fp s3 H3) elt te)(hN:X.N.Nodup)(il:X.N[i]? =some y)(hy:X.env.scope.names.lookup y=some .local)(bE:swapsWith (.ListComp elt [⟨tg,iter,ifs,0⟩] scope pos) (some (.Name y py)) spos.line X.env=pure true)(hs: ∀x,foldedSetIterable iter X.env x=pure x:=by intro _; rfl):
  PS X (.Assign [.Name y py] (.ListComp elt [⟨tg,iter,ifs,0⟩] scope pos) spos) (λD O H=>qeH wi g tt te own fr O H λd H'=>D.nx (O.set i (some (.ref d))) H'):=by
 intro U s O H D I h;rw[exec_Assign_Name_used _ _ _ _ bE];refine Va (wpAny_standAt (Va ?_));refine Va (thn (comp_core (use:=some (assign (.Name y py) X.env)) (Qf:=λ_ s'=>SP X U D .next s') hc hi hk ai ao ah bu hb hs I h λd C H' s' m I' f' hn q=> ?_) λ_ s' hq=>Vb (Vb hq));obtain⟨f0,f1,f2,f3,f4,f5⟩:=id f';show wpAny _ _ (assign (.Name y py) X.env (.ref d)) _ _ s';refine wpAny_assign_Name (qeI I' hN il (.inl hy) (v:=.ref d) rfl (λs'' I'' z0=> ?_) (.inr hy));obtain ⟨a,sb,ha⟩:=z0;have aN:C≠a:=by
  rcases ha with rfl|ha
  ·exact f1
  ·exactλz=>f4 y a ha z.symm
 refine⟨m,hn.sameBut sb aN,λh' br=>⟨_,H',I''.turned (t':=s''.toks) (λb o hb e=>(br.2 b hb).trans e) f0 f1 f3 f4 f5,q⟩⟩
end
end L2
namespace St
open PySem.W PyProof.Rows
noncomputable def qdE{α:Type}(N:Nat)(ask:Nat->Nat->Bool):KasT α->(α->Prop)->Prop
 |.ret a,Q=>Q a
 |.ask i j k,Q=>i<N/\j<N/\qdE N ask (k (ask i j)) Q
theorem qa4{α β:Type}{N:Nat}{ask:Nat->Nat->Bool}{f:α->KasT β}{Q:β->Prop}: ∀{t:KasT α},qdE N ask t (λa=>qdE N ask (f a) Q)->qdE N ask (t.bind f) Q
 |.ret _,h=>h
 |.ask _ _ _,⟨h1,h2,h⟩=>⟨h1,h2,qa4 h⟩
theorem qaL{α:Type}{N:Nat}{ask:Nat->Nat->Bool}{Q Q':α->Prop}(hq: ∀a,Q a->Q' a): ∀{t:KasT α},qdE N ask t Q->qdE N ask t Q'
 |.ret _,h=>hq _ h
 |.ask _ _ _,⟨h1,h2,h⟩=>⟨h1,h2,qaL hq h⟩
noncomputable def g(p:Array Nat)(i:Nat):Nat:=p.getD i 0
theorem qto(h:p[i]? =q[j]?):g p i=g q j:=by
 unfold g
 simp_all
theorem qmY(hj:j<=p.size)(t:Nat):g (kas_rev p i j) t=if i<=t/\t<j then g p (i+j - 1 - t) else g p t:=by
 have e:=getElem?_mirror_all (i:=i) hj t;by_cases h1:i<=t/\t<j
 ·rw[if_pos h1] at e⊢;exact qto e
 ·rw[if_neg h1] at e⊢;exact qto e
theorem qwz(hk:k<p.size)(hl:l<=k)(t:Nat):g (bubble p k (k - l)) t=if t=l then g p k else if l<t/\t<=k then g p (t - 1) else g p t:=by
 have e:=getElem?_bubble hk (k - l) (Nat.sub_le _ _) t;rw[show k - (k - l)=l by lia] at e;by_cases h1:t=l
 ·rw[if_pos h1] at e⊢;exact qto e
 ·rw[if_neg h1] at e⊢;by_cases h2:l<t/\t<=k
  ·rw[if_pos h2] at e⊢;exact qto e
  ·rw[if_neg h2] at e⊢;exact qto e
theorem qd3(p:Array Nat)(i j:Nat):(kas_rev p i j).size=p.size:=mirror_size _ _ _ _
section
variable(N:Nat)(k:Nat->Int)
noncomputable def L(a b:Nat):Prop:=k a<k b\/(k a=k b/\a<b)
structure Pre(n:Nat)(p:Array Nat):Prop where
 sz:p.size=N
 lo: ∀i,i<n->g p i<n
 hi: ∀i,n<=i->i<N->g p i=i
noncomputable def Srt(p:Array Nat)(n:Nat):Prop:= ∀i j,i<j->j<n->L k (g p i) (g p j)
noncomputable def Dsc(p:Array Nat)(n:Nat):Prop:= ∀i j,i<j->j<n->L k (g p j) (g p i)
structure qrh(p:Array Nat)(n q:Nat):Prop where
 pre:Pre N n p
 q1:q+1<=n
 a: ∀i j,i<j->j<n - (q+1)->L k (g p j) (g p i)
 b: ∀i j,i<n - (q+1)->n - (q+1)<=j->j<n->k (g p j)<k (g p i)
 c: ∀i j,n - (q+1)<=i->i<j->j<n->k (g p i)=k (g p j)/\g p i<g p j
noncomputable def qbW:Nat->Nat->Bool:=λi j=>decide (k i<k j)
end
section
theorem Pre.lt(h:Pre N n p)(hn:n<=N)(hi:i<N):g p i<N:=by
 by_cases q:i<n
 ·exact Vn (h.lo i q) hn
 ·rw[h.hi i (by lia) hi];exact hi
theorem L.le(h:L k a b):k a<=k b:=by
 rcases h with h|h
 ·lia
 ·lia
theorem Pre.more(h:Pre N n p)(hn:n<N):Pre N (n+1) p:=
 ⟨h.sz,λi hi=>by
  by_cases q:i<n
  ·exact Nat.lt_succ_of_lt (h.lo i q)
  ·have e:i=n:=by lia
   subst e;rw[h.hi i (Nat.le_refl _) hn];lia,λi h1 h2=>h.hi i (by lia) h2⟩
theorem qlu{N:Nat}{k:Nat->Int}{p:Array Nat}: ∀(f n:Nat),1<=n->n+f<=N->Pre N n p->Srt k p n->
  qdE N (qbW k) (kas_asc p f n) λm=>n<=m/\m<=n+f/\Pre N m p/\Srt k p m/\(m=n+f\/k (g p m)<k (g p (m - 1)))
 |0,n,h1,hf,hp,hs=>⟨Vm _,Vm _,hp,hs,.inl rfl⟩
 |f+1,n,h1,hf,hp,hs=>by
  refine⟨hp.lt (by lia) (by lia),hp.lt (by lia) (by lia),?_⟩;show qdE N (qbW k) (if qbW k (g p n) (g p (n - 1))=true then .ret n else kas_asc p f (n+1)) _;by_cases hc:k (g p n)<k (g p (n - 1))
  ·rw[if_pos (by simpa [qbW] using hc)];exact⟨Vm _,by lia,hp,hs,.inr hc⟩
  ·rw[if_neg (by simpa [qbW] using hc)];have br:Srt k p (n+1):=λi j aI hj=>by
    by_cases q:j<n
    ·exact hs i j aI q
    ·have e:j=n:=by lia
     subst e;have en:=hp.hi j (Vm _) (by lia);have lt:=hp.lo i aI;have le:k (g p i)<=k (g p (j - 1)):=by
      by_cases q2:i=j - 1
      ·rw[q2];exact Int.le_refl _
      ·exact(hs i (j - 1) (by lia) (by lia)).le
     unfold L;rw[en] at hc⊢;lia
   refine qaL (λm h=> ?_) (qlu f (n+1) (by lia) (by lia) (hp.more (by lia)) br);obtain⟨a,b,c,d,e⟩:=h;exact⟨by lia,by lia,c,d,e.elim (λz=>.inl (by lia)) .inr⟩
noncomputable def fin(p:Array Nat)(n q:Nat):Array Nat:=if q>0 then kas_rev p (n - (q+1)) n else p
theorem qrh.fin(h:qrh N k p n q)(hn:n<=N):Pre N n (fin p n q)/\Dsc k (fin p n q) n:=by
 unfold St.fin;by_cases hq:q>0
 ·rw[if_pos hq];have gr:=qmY (p:=p) (i:=n - (q+1)) (j:=n) (by rw[h.pre.sz];exact hn);refine⟨⟨by rw[qd3];exact h.pre.sz,λi hi=> ?_,λi h1 h2=> ?_⟩,λi j aI hj=> ?_⟩
  ·rw[gr];split
   ·exact h.pre.lo _ (by lia)
   ·exact h.pre.lo _ hi
  ·rw[gr,if_neg (by lia)];exact h.pre.hi i h1 h2
  ·rw[gr,gr];have eX:=h.q1;by_cases q1:n - (q+1)<=j
   ·rw[if_pos (show n - (q+1)<=j/\j<n from⟨q1,hj⟩)];by_cases q2:n - (q+1)<=i
    ·rw[if_pos (show n - (q+1)<=i/\i<n from⟨q2,by lia⟩)];have e:=h.c (n - (q+1)+n - 1 - j) (n - (q+1)+n - 1 - i) (by lia) (by lia) (by lia);exact .inr e
    ·rw[if_neg (by lia)];exact .inl (h.b i _ (by lia) (by lia) (by lia))
   ·rw[if_neg (by lia),if_neg (by lia)];exact h.a i j aI (by lia)
 ·rw[if_neg hq];have e:q=0:=by lia
  subst e;refine⟨h.pre,λi j aI hj=> ?_⟩;have eX:=h.q1;by_cases q1:j<n - (0+1)
  ·exact h.a i j aI q1
  ·exact .inl (h.b i j (by lia) (by lia) hj)
theorem qgp{N:Nat}{k:Nat->Int}: ∀(f:Nat)(p:Array Nat)(n q:Nat),n+f<=N->qrh N k p n q->
  qdE N (qbW k) (kas_desc f p n q) λr=>n<=r.2.1/\r.2.1<=n+f/\qrh N k r.1 r.2.1 r.2.2
 |0,p,n,q,hf,h=>⟨Vm _,Vm _,h⟩
 |f+1,p,n,q,hf,h=>by
  have eX:=h.q1;have lt: ∀{i},i<N->g p i<N:=λhi=>h.pre.lt (by lia) hi;refine⟨lt (by lia),lt (by lia),?_⟩;have en:=h.pre.hi n (Vm _) (by lia)
  show qdE N (qbW k) (if qbW k (g p n) (g p (n - 1))=true then(if q>0 then kas_desc f (kas_rev p (n - (q+1)) n) (n+1) 0 else kas_desc f p (n+1) 0)
   else .ask (g p (n - 1)) (g p n) λd=>if d=true then .ret (p,n,q) else kas_desc f p (n+1) (q+1)) _
  have kle: ∀i,i<n->k (g p (n - 1))<=k (g p i):=λi hi=>by
   by_cases q1:i<n - (q+1)
   ·exact Int.le_of_lt (h.b i (n - 1) q1 (by lia) (by lia))
   ·by_cases q2:i=n - 1
    ·rw[q2];exact Int.le_refl _
    ·exact Int.le_of_eq (h.c i (n - 1) (by lia) (by lia) (by lia)).1.symm
  by_cases hc:k (g p n)<k (g p (n - 1))
  ·rw[if_pos (by simpa [qbW] using hc)];have key:qrh N k (fin p n q) (n+1) 0:=by
    obtain⟨fp,fd⟩:=h.fin (by lia);have e2:=fp.hi n (Vm _) (by lia);refine⟨fp.more (by lia),by lia,λi j aI hj=>fd i j aI (by lia),λi j hi h1 h2=> ?_,λi j h1 h2 h3=>by lia⟩;have ej:j=n:=by lia
    subst ej;rw[e2];rw[en] at hc;refine Int.lt_of_lt_of_le hc ?_;have: ∃i',i'<j/\g (fin p j q) i=g p i':=by
     unfold St.fin;by_cases hq:q>0
     ·rw[if_pos hq,qmY (by rw[h.pre.sz];lia)];split
      ·exact⟨_,by lia,rfl⟩
      ·exact⟨i,by lia,rfl⟩
     ·rw[if_neg hq];exact⟨i,by lia,rfl⟩
    obtain⟨i',aV,e3⟩:=this;rw[e3];exact kle i' aV
   have e:(if q>0 then kas_desc f (kas_rev p (n - (q+1)) n) (n+1) 0 else kas_desc f p (n+1) 0)=kas_desc f (fin p n q) (n+1) 0:=by
    unfold St.fin
    split<;>rfl
   rw[e];refine qaL (λr hr=>⟨by lia,by lia,hr.2.2⟩) (qgp f (fin p n q) (n+1) 0 (by lia) key)
  ·rw[if_neg (by simpa [qbW] using hc)];refine⟨lt (by lia),lt (by lia),?_⟩;show qdE N (qbW k) (if qbW k (g p (n - 1)) (g p n)=true then .ret (p,n,q) else kas_desc f p (n+1) (q+1)) _;by_cases hd:k (g p (n - 1))<k (g p n)
   ·rw[if_pos (by simpa [qbW] using hd)];exact⟨Vm _,Nat.le_add_right _ _,h⟩
   ·rw[if_neg (by simpa [qbW] using hd)];have ek:k (g p n)=k (g p (n - 1)):=by lia
    have key:qrh N k p (n+1) (q+1):=by
     refine⟨h.pre.more (by lia),by lia,λi j aI hj=>h.a i j aI (by lia),λi j hi h1 h2=> ?_,λi j h1 h2 h3=> ?_⟩
     ·by_cases e:j=n
      ·subst e;rw[ek];exact h.b i (j - 1) (by lia) (by lia) (by lia)
      ·exact h.b i j (by lia) (by lia) (by lia)
     ·by_cases e:j=n
      ·subst e;refine⟨?_,?_⟩
       ·rw[ek];by_cases e2:i=j - 1
        ·rw[e2]
        ·exact(h.c i (j - 1) (by lia) (by lia) (by lia)).1
       ·rw[en];exact h.pre.lo i h2
      ·exact h.c i j (by lia) h2 (by lia)
    exact qaL (λr hr=>⟨by lia,by lia,hr.2.2⟩) (qgp f p (n+1) (q+1) (by lia) key)
noncomputable def Out(N:Nat)(k:Nat->Int)(r:Nat×Array Nat):Prop:=1<=r.1/\r.1<=N/\Pre N r.1 r.2/\Srt k r.2 r.1
theorem qo3{N:Nat}{k:Nat->Int}{p:Array Nat}{n:Nat}(h1:1<=n)(hn:n<=N)(hp:Pre N n p)(hd:Dsc k p n):qdE N (qbW k) (kas_tail3 n N p) (Out N k):=by
 have gr:=qmY (p:=p) (i:=0) (j:=n) (by rw[hp.sz];exact hn);refine qa4 (qaL (λm h=> ?_) (qlu (p:=kas_rev p 0 n) (N - n) n h1 (by lia) ⟨by rw[qd3];exact hp.sz,λi hi=> ?_,λi h2 h3=> ?_⟩ λi j aI hj=> ?_))
 ·exact⟨by lia,by lia,h.2.2.1,h.2.2.2.1⟩
 ·rw[gr,if_pos ⟨Nat.zero_le _,hi⟩];exact hp.lo _ (by lia)
 ·rw[gr,if_neg (by lia)];exact hp.hi i h2 h3
 ·rw[gr,gr,if_pos ⟨Nat.zero_le _,by lia⟩,if_pos ⟨Nat.zero_le _,hj⟩];exact hd _ _ (by lia) (by lia)
theorem qc7{N:Nat}{k:Nat->Int}{p:Array Nat}{n:Nat}(hn:n+1<=N)(h:qrh N k p (n+1) 0):qdE N (qbW k) (kas_descPart n N p) (Out N k):=by
 refine qa4 (qaL (λr hr=> ?_) (qgp (N - (n+1)) p (n+1) 0 (by lia) h));obtain⟨h1,h2,h3⟩:=hr;obtain⟨f1,f2⟩:=h3.fin (by lia);have e:(if r.2.2>0 then kas_tail3 r.2.1 N (kas_rev r.1 (r.2.1 - (r.2.2+1)) r.2.1) else kas_tail3 r.2.1 N r.1)=kas_tail3 r.2.1 N (fin r.1 r.2.1 r.2.2):=by
  unfold St.fin
  split<;>rfl
 rw[e];exact qo3 (by lia) (by lia) f1 f2
theorem qnr{N:Nat}{k:Nat->Int}{p:Array Nat}(hN:1<=N)(hp:Pre N 1 p):qdE N (qbW k) (kas_count N p) (Out N k):=by
 refine qa4 (qaL (λn h=> ?_) (qlu (p:=p) (N - 1) 1 (Vm _) (by lia) hp λi j h1 h2=>by lia));obtain⟨h1,h2,h3,h4,h5⟩:=h;by_cases e:n=N
 ·rw[if_pos (by simpa using e)];exact⟨h1,by lia,h3,h4⟩
 ·rw[if_neg (by simpa using e)];have au:k (g p n)<k (g p (n - 1)):=h5.resolve_left (by lia);by_cases hg:n>1
  ·rw[if_pos hg];refine⟨h3.lt (by lia) (by lia),h3.lt (by lia) (by lia),?_⟩;show qdE N (qbW k) (if qbW k (g p 0) (g p (n - 1))=true then .ret (n,p) else kas_descPart n N (kas_rev p 0 n)) _;by_cases hc:k (g p 0)<k (g p (n - 1))
   ·rw[if_pos (by simpa [qbW] using hc)];exact⟨h1,by lia,h3,h4⟩
   ·rw[if_neg (by simpa [qbW] using hc)];have gr:=qmY (p:=p) (i:=0) (j:=n) (by rw[h3.sz];lia);have gJ: ∀i,i<n->k (g p i)=k (g p (n - 1)):=λi hi=>by
     have a1:k (g p 0)<=k (g p i):=by
      by_cases q:i=0
      ·rw[q];exact Int.le_refl _
      ·exact(h4 0 i (by lia) hi).le
     have a2:k (g p i)<=k (g p (n - 1)):=by
      by_cases q:i=n - 1
      ·rw[q];exact Int.le_refl _
      ·exact(h4 i (n - 1) (by lia) (by lia)).le
     lia
    refine qc7 (by lia) ⟨Pre.more ⟨by rw[qd3];exact h3.sz,λi hi=> ?_,λi q1 q2=> ?_⟩ (by lia),by lia,λi j aI hj=> ?_,λi j hi q1 q2=> ?_,λi j q1 q2 q3=>by lia⟩
    ·rw[gr,if_pos ⟨Nat.zero_le _,hi⟩];exact h3.lo _ (by lia)
    ·rw[gr,if_neg (by lia)];exact h3.hi i q1 q2
    ·rw[gr,gr,if_pos ⟨Nat.zero_le _,by lia⟩,if_pos ⟨Nat.zero_le _,by lia⟩];exact h4 _ _ (by lia) (by lia)
    ·have ej:j=n:=by lia
     subst ej;have aV:i<j:=by simpa using hi
     have e1:g (kas_rev p 0 j) j=g p j:=by rw[gr,if_neg (by lia)]
     have e2:g (kas_rev p 0 j) i=g p (0+j - 1 - i):=by rw[gr,if_pos ⟨Nat.zero_le _,aV⟩]
     rw[e1,e2,gJ (0+j - 1 - i) (by lia)];exact au
  ·rw[if_neg hg];have e1:n=1:=by lia
   subst e1;refine qc7 (by lia) ⟨h3.more (by lia),by lia,λi j aI hj=>by lia,λi j hi q1 q2=> ?_,λi j q1 q2 q3=>by lia⟩;have ei:i=0:=by lia
   have ej:j=1:=by lia
   subst ei ej;exact au
theorem qd9(hn:n<N)(hp:Pre N n p)(hs:Srt k p n): ∀(f l r:Nat),l<=r->r<=n->r - l<=f->(∀i,i<l->k (g p i)<=k (g p n))->(∀i,r<=i->i<n->k (g p n)<k (g p i))->
  qdE N (qbW k) (kas_place p n f l r) λm=>m<=n/\(∀i,i<m->k (g p i)<=k (g p n))/\∀i,m<=i->i<n->k (g p n)<k (g p i)
 |0,l,r,h1,h2,h3,hl,hr=>⟨by lia,hl,λi q1 q2=>hr i (by lia) q2⟩
 |f+1,l,r,h1,h2,h3,hl,hr=>by
  unfold kas_place;by_cases jf:l≥r
  ·rw[if_pos jf];exact⟨by lia,hl,λi q1 q2=>hr i (by lia) q2⟩
  ·rw[if_neg jf];refine⟨hp.lt (by lia) hn,hp.lt (by lia) (by lia),?_⟩;show qdE N (qbW k) (if qbW k (g p n) (g p ((l+r) / 2))=true then kas_place p n f l ((l+r) / 2) else kas_place p n f ((l+r) / 2+1) r) _;have srt: ∀i j,i<=j->j<n->k (g p i)<=k (g p j):=λi j aI hj=>by
    by_cases q:i=j
    ·rw[q];exact Int.le_refl _
    ·exact(hs i j (by lia) hj).le
   by_cases hc:k (g p n)<k (g p ((l+r) / 2))
   ·rw[if_pos (by simpa [qbW] using hc)];exact qd9 hn hp hs f l _ (by lia) (by lia) (by lia) hl λi q1 q2=>Int.lt_of_lt_of_le hc (srt _ _ q1 q2)
   ·rw[if_neg (by simpa [qbW] using hc)];refine qd9 hn hp hs f _ r (by lia) (by lia) (by lia) (λi q1=> ?_) hr;have:=srt i ((l+r) / 2) (by lia) (by lia);lia
theorem bin_ok{N:Nat}{k:Nat->Int}: ∀(f:Nat)(p:Array Nat)(n:Nat),n+f=N->Pre N n p->Srt k p n->qdE N (qbW k) (kas_bin f p n) λp'=>Pre N N p'/\Srt k p' N
 |0,p,n,hf,hp,hs=>by
  have e:n=N:=by lia
  subst e;exact⟨hp,hs⟩
 |f+1,p,n,hf,hp,hs=>by
  refine qa4 (qaL (λl h=> ?_) (qd9 (by lia) hp hs n 0 n (by lia) (Vm _) (by lia) (λi q=>by lia) λi q1 q2=>by lia));obtain⟨h1,h2,h3⟩:=h;have gb:=qwz (p:=p) (k:=n) (l:=l) (by rw[hp.sz];lia) h1;have en:=hp.hi n (Vm _) (by lia);refine bin_ok f _ (n+1) (by lia) ⟨by rw[bubble_size];exact hp.sz,λi hi=> ?_,λi q1 q2=> ?_⟩ λi j aI hj=> ?_
  ·rw[gb];split
   ·rw[en];lia
   ·split
    ·exact Nat.lt_succ_of_lt (hp.lo _ (by lia))
    ·exact Nat.lt_succ_of_lt (hp.lo _ (by lia))
  ·rw[gb,if_neg (by lia),if_neg (by lia)];exact hp.hi i (by lia) q2
  ·rw[gb,gb];by_cases c1:j=l
   ·rw[if_pos c1,if_neg (by lia),if_neg (by lia)];have a1:=h2 i (by lia);have a2:=hp.lo i (by lia);unfold L;rw[en] at a1⊢;lia
   ·rw[if_neg c1];by_cases c2:l<j/\j<=n
    ·rw[if_pos c2];by_cases c3:i=l
     ·rw[if_pos c3];exact .inl (h3 _ (by lia) (by lia))
     ·rw[if_neg c3];by_cases c4:l<i/\i<=n
      ·rw[if_pos c4];exact hs _ _ (by lia) (by lia)
      ·rw[if_neg c4];exact hs _ _ (by lia) (by lia)
    ·rw[if_neg c2,if_neg (by lia),if_neg (by lia)];exact hs _ _ aI (by lia)
theorem qpd{N:Nat}{k:Nat->Int}(hN:1<=N):qdE N (qbW k) (kas_sort N) λp=>Pre N N p/\Srt k p N:=by
 have gr: ∀i,i<N->g (List.toArray (List.range N)) i=i:=λi hi=>by
  unfold g
  simp_all
 refine qa4 (qaL (λr h=> ?_) (qnr hN ⟨by simp,λi hi=> ?_,λi h1 h2=>gr i h2⟩))
 ·obtain⟨h1,h2,h3,h4⟩:=h;by_cases c:r.1<N
  ·rw[if_pos c,show max r.1 1=r.1 by lia];exact bin_ok _ _ _ (by lia) h3 h4
  ·rw[if_neg c];have e:r.1=N:=by lia
   rw[e] at h3 h4;exact⟨h3,h4⟩
 ·rw[gr i (by lia)];exact hi
end
open PySem PySem.Calls
theorem qkx{α:Type}{N:Nat}{ask:Nat->Nat->Bool}{cmp:Nat->Nat->(Bool->Shared->Prop)->Shared->Prop}{Q:α->Shared->Prop}{Q':α->Prop}{s:Shared}(hc: ∀i j (C:Bool->Shared->Prop),i<N->j<N->C (ask i j) s->cmp i j C s)(hq: ∀a,Q' a->Q a s): ∀{t:KasT α},qdE N ask t Q'->t.kasWp cmp Q s
 |.ret a,h=>hq a h
 |.ask i j k,⟨h1,h2,h⟩=>hc i j _ h1 h2 (qkx hc hq h)
noncomputable def qdg(kz:List Int)(n:Nat)(p:Array Nat):Prop:=Pre n n p/\Srt (λi=>kz.getD i 0) p n
abbrev Kp(h h':Heap):Prop:= ∀b o,h.get? b=some o->h'.get? b=some o
section
theorem get_none{h:Heap}(x:h.objs.size<=a):h.get? a=none:=Heap.get?_none_of_le x
end
end St
namespace L2
open PySem PySem.Spec PyProof.Rows
noncomputable def qw7(c:Addr)(qual:Str):HO:=.ext λh=>h.CodeRec (.ref c) qual
noncomputable def qlA(P:Addr)(H H':Hp):Prop:= ∀b o,H b=some o->b≠P->H' b=some o
theorem qeE(r:Vals xs us)(j:Nat):RelV (xs.getD j .non) (us.getD j .none):=by
 induction r generalizing j with
 |nil=>exact rfl
 |cons a t ih=>
  cases j with
  |zero=>exact a
  |succ j=>simpa using ih j
theorem vals_pick(r:Vals xs us): ∀l:List Nat,Vals (l.map λj=>xs.getD j .non) (l.map λj=>us.getD j .none)
 |[]=>.nil
 |j::l=>.cons (qeE r j) (vals_pick r l)
section
theorem qmt:OpR X (compareOp .Is) (λx y H Q=> ∃c d,x= .bl c/\y= .bl d/\Q (.bl (c==d)) H):=by intro U s O H x y v u Q I rx ry h;obtain⟨c,d,rfl,rfl,q⟩:=h;cases rx;cases ry;exact is_bool ⟨.bl _,H,I,rfl,q⟩
theorem qf5:OpR X (compareOp .IsNot) (λx y H Q=> ∃c d,x= .bl c/\y= .bl d/\Q (.bl (c != d)) H):=by intro U s O H x y v u Q I rx ry h;obtain⟨c,d,rfl,rfl,q⟩:=h;cases rx;cases ry;exact isnot_bool ⟨.bl _,H,I,rfl,q⟩
theorem qjU:OpR X (compareOp .LtE) (λx y H Q=> ∃i j,x= .str i/\y= .str j/\Q (.bl (!decide (j.cps.toList<i.cps.toList))) H):=by intro U s O H x y v u Q I rx ry h;obtain⟨i,j,rfl,rfl,q⟩:=h;obtain⟨t,rfl⟩:=rx;obtain⟨t',rfl⟩:=ry;exact P.le_str ⟨.bl _,H,I,rfl,q⟩
theorem qgG:qau X (.builtin "isinstance") (λxs H Q=> ∃x t T b,xs=[x,.ty T]/\qgK X.K H x t/\W.kitOne X.K t (.type T)=some b/\Q (.bl b) H):=by intro U s O H xs us Q I r h;obtain⟨x,t,T,b,rfl,ty,e,q⟩:=h;obtain⟨u,w',rfl,ru,aq⟩:=qhT r;cases aq;exact qkn I ru ty e λtk=>⟨.bl b,H,I.tok tk,rfl,q⟩
theorem qgO: ∀{bs:List Bool}{us:List Value},Vals (bs.map V.bl) us->us=bs.map Value.bool
 |[],_,.nil=>rfl
 |b::bs,_,.cons r t=>by have e:=r;rw[e,qgO t];rfl
theorem qjx(bs:List Bool):(List.range bs.length).all (λi=>bs.getD i false)=bs.all id:=by
 rw[Bool.eq_iff_iff,List.all_eq_true,List.all_eq_true];constructor
 ·intro h b hb;obtain⟨i,hi,rfl⟩:=List.mem_iff_getElem.mp hb
  simp_all
 ·intro h i hi;have aV:=List.mem_range.mp hi;have:=h _ (List.getElem_mem aV)
  simp_all
theorem qnB(hc:X.calm=true):qau X (.builtin "all") (λxs H Q=> ∃(a:Addr)(bs:List Bool),xs=[.ref a]/\SqL X.K H a (bs.map V.bl)/\Q (.bl (bs.all id)) H):=by
 intro U s O H xs us Q I r h;obtain⟨a,bs,rfl,hS,q⟩:=h;obtain⟨u,rfl,ru⟩:=qdT r;cases ru;obtain⟨its,rv,pl,hz⟩:=I.list hS;have e:=qgO rv;have au:=Vi pl.isList.choose_spec.1;have hh:X.A.in1.handled=none:=I.ok.hd hc;refine call_all_walk (Vf pl.isList ?_);refine⟨s.heap.objs.size,_,_,its.toArray.size,_,_,λi=>bs.getD i false,rfl,Walks.list hh _ a (Vo au) its.toArray,⟨⟨_,Vh _ rfl,rfl,rfl⟩,pl.isList.at λo e=>Vg _ e⟩,λi v s' Q' E' hv hq=> ?_,λh' tk k=> ?_⟩
 ·rw[e] at hv;have b7:(bs.map Value.bool)[i]? =some v:=by simpa using hv
  rw[List.getElem?_map] at b7;cases z:bs[i]? with
  |none=>simp_all
  |some b=>
   rw[z] at b7;cases b7;have eb:bs.getD i false=b:=by simp[z]
   have cD:Q' (bs.getD i false) s':=hq;rw[eb] at cD;exact Vd cD
 ·have en:its.toArray.size=bs.length:=by rw[e];simp
  rw[en,qjx];refine⟨.bl (bs.all id),H,?_,rfl,q⟩;refine I.kept (t':=tk) λb o eo=>k b o ?_ (Vg _ eo);intro z;have:=by simpa using z
  exact Vo (Vi eo) this
noncomputable def VEq(X:Cx)(H:Hp)(x y:V)(b:Bool):Prop:= ∀(U:List (Addr×Obj))(O:St)(s:Shared)(u v:Value),Inv X U O H s->RelV x u->RelV y v->SeqAt.EqAt X.A.in1 s u v b
theorem qf6(hu:X.A.units<cLine):OpR X (compareOp .Eq) (λx y H Q=> ∃a b xs ys,x= .ref a/\y= .ref b/\SqL X.K H a xs/\SqL X.K H b ys/\
  ((xs.length≠ys.length/\Q (.bl false) H)\/(xs.length=ys.length/\∃e:Nat->Bool,(∀i x y,xs[i]? =some x->ys[i]? =some y->VEq X H x y (e i))/\Q (.bl ((List.range xs.length).all e)) H))):=by
 intro U s O H x y v u Q I rx ry h;obtain⟨a,b,xs,ys,rfl,rfl,ha,hb,h⟩:=h;cases rx;cases ry;obtain⟨i1,r1,p1,z1⟩:=I.list ha;obtain⟨i2,r2,p2,z2⟩:=I.list hb;have l1:=r1.length;have l2:=r2.length
 rcases h with⟨aN,q⟩|⟨heq,e,he,q⟩
 ·exact SeqAt.eq_list_lengthsAt p1.isList p2.isList (by simp;lia) hu ⟨.bl false,H,I,rfl,q⟩
 ·refine SeqAt.eq_listAt (e:=e) p1.isList p2.isList (by simp;lia) hu (λj h1 h2=> ?_) ⟨.bl _,H,I,rfl,?_⟩
  ·have bx:j<i1.length:=by simpa using h1
   have bw:j<i2.length:=by simpa using h2
   have hx:xs[j]? =some xs[j]:=Vy (by lia);have hy:ys[j]? =some ys[j]:=Vy (by lia);obtain⟨u1,e1,q1⟩:=r1.get hx;obtain⟨u2,e2,q2⟩:=r2.get hy;have e3:i1.toArray[j]=u1:=by rw[List.getElem?_eq_getElem bx] at e1;simpa using Option.some.inj e1
   have e4:i2.toArray[j]=u2:=by rw[List.getElem?_eq_getElem bw] at e2;simpa using Option.some.inj e2
   rw[e3,e4];exact he j _ _ hx hy U O s u1 u2 I q1 q2
  ·rw[List.size_toArray,<-l1];exact q
end
noncomputable def Its(z:Str):It:=⟨λi _=>i<z.cps.size,λi H x H'=>H'=H/\∃c,z.cps[i]? =some c/\x= .str ⟨#[c]⟩,λi _=>z.cps.size<=i⟩
theorem qlT{P:Program}{w:World}{K:W.Frag}{tg:Expr}{z:Str}{it:Addr}{ty:String}{t:Tok}(b8:ty= "str_ascii_iterator" \/ty= "str_iterator"):qre P w K tg (Its z) [it] it (λi h=>h.IsStrIter it ty z t i) where
 mem:=by simp
 obj:=λi h st b hb=>by
  have e:b=it:=by simpa using hb
  subst e;obtain⟨o,e,c,d⟩:=st;exact⟨o,e,λv q=>by rw[d] at q;cases q⟩
 keep:=λi h h' st k=>by obtain⟨o,e,r⟩:=st;exact⟨o,k it (by simp) _ e,r⟩
 item:=by
  intro X hP hw hK hc i U s O H E I hf st hg;subst hP hw hK;obtain⟨f0,f1,f2,f3,f4,f5⟩:=hf it (by simp);have d5:z.cps[i]? =some z.cps[i]:=Array.getElem?_eq_getElem hg;have fin: ∀h',h'.IsStrIter it ty z t (i+1)->Heap.SameBut it s.heap h'->∃u,some (Value.str ⟨#[z.cps[i]]⟩ s.toks)=some u/\wpAny (model X.prog X.w) X.A (letOwnedTupleGo tg (.ref it) u) (λ_ s2=> ∃x H',Inv X U O H' s2/\RelV x u/\(Its z).yld i H x H'/\s2.heap.IsStrIter it ty z t (i+1)/\∀b∈[it],H' b=none) E { s with heap:=h',toks:=s.toks+1 }:=λh' aF sb=>by
   have I1:Inv X U O H { s with heap:=h',toks:=s.toks+1 }:=I.turned (λb o hb e=>(sb.2 b hb).trans e) f0 f1 f3 f4 f5;obtain⟨o,e,c,d⟩:=id aF;refine⟨_,rfl,qky (s:={ s with heap:=h',toks:=s.toks+1 }) e c d ?_ ⟨.str ⟨#[z.cps[i]]⟩,H,I1,⟨_,rfl⟩,⟨rfl,_,d5,rfl⟩,aF,λb hb=>(hf b hb).1⟩⟩
   rcases b8 with rfl|rfl<;>decide
  rcases b8 with rfl|rfl
  ·exact wpAny_pyNext_ascii_item st d5 λh' aF sb=>fin h' aF sb
  ·exact wpAny_pyNext_wide_item st d5 λh' aF sb=>fin h' aF sb
 done:=by
  intro X hP hw hK hc i U s O H E I hf st hg;subst hP hw hK;obtain⟨f0,f1,f2,f3,f4,f5⟩:=hf it (by simp);have d5:z.cps[i]? =none:=Array.getElem?_eq_none hg
  rcases b8 with rfl|rfl
  ·exact wpAny_pyNext_ascii_end (I.ok.hd hc) st d5 λh' eb=>⟨rfl,I.turned (t':=s.toks) (λb o hb e=>eb b o hb e) f0 f1 f3 f4 f5⟩
  ·exact wpAny_pyNext_wide_end (I.ok.hd hc) st d5 λh' eb=>⟨rfl,I.turned (t':=s.toks) (λb o hb e=>eb b o hb e) f0 f1 f3 f4 f5⟩
 self:=λA i s Q E st h=>by
  rcases b8 with rfl|rfl
  ·exact wpAny_pyIter_striter_ascii st h
  ·exact wpAny_pyIter_striter_wide st h
noncomputable def qyS(te:TE):TI:=λO H R=>te O H λx H1=> ∃z,x= .str z/\R (Its z) H1
theorem qsl{X:Cx}{tg e:Expr}{te:TE}(he:PE X e te):PI X tg e (qyS te):=by
 intro U s O H R I h;refine thn (he U s O H _ I h) λv s1 g7=> ?_;obtain⟨x,H1,I1,r1,z,hz,q⟩:=g7;subst hz;obtain⟨t,rfl⟩:=r1;have fin: ∀ty:String,(ty= "str_ascii_iterator" \/ty= "str_iterator")->PIE X U O tg R (.ref s1.heap.objs.size) { s1 with heap:=s1.heap.push { cls:=.type ty,data:=.fields #[.str z t,.int 0 0] } }:=λty b8=>
  ⟨_,_,_,Its z,H1,rfl,I1.kept (t':=s1.toks) λb o e=>Vg _ e,qlT (t:=t) b8,⟨_,Vh _ rfl,rfl,rfl⟩,λb hb=>by
   have e:b=s1.heap.objs.size:=by simpa using hb
   subst e;exact I1.fpOk (Vm _) (I1.hok.fresh (Vm _)),q⟩
 cases ha:z.cps.all (· <128)
 ·exact wpAny_pyIter_wide ha (fin _ (.inr rfl))
 ·exact wpAny_pyIter_ascii ha (fin _ (.inl rfl))
theorem Inv.turnT{X:Cx}{U:List (Addr×Obj)}{O:St}{H:Hp}{s:Shared}{h':Heap}{t':Nat}{ch:List Addr}{T:Addr}{xs:List V}(I:Inv X U O H s)(aO: ∀b∈ch,qgL X U H b)(k: ∀b o,b∉ch->s.heap.get? b=some o->h'.get? b=some o)(hT:s.heap.objs.size<=T)(new:qaG X.prog X.w (upd H T (.tup xs)) h' T (.tup xs)):Inv X U O (upd H T (.tup xs)) { s with heap:=h',toks:=t' }:=by
 have nT: ∀b o,s.heap.get? b=some o->b≠T:=λb o e=>Vo (Vn (Vi e) hT);have eJ: ∀b u,H b=some u->b≠T:=λb u e z=>by rw[z,I.hok.fresh hT] at e;cases e
 have cT: ∀b u,H b=some u->b∉ch:=λb u e z=>by rw[(aO b z).1] at e;cases e
 refine I.step (λb hb=> ?_) (λb o _ _ hc e _=>k b o hc e) (λb o _ _ hc e _=>⟨o.slots,k b o hc e⟩) (λb o _ e n=>by rw[qad (nT b o e)];exact n) (λb o hc e=>⟨o,k b o hc e⟩)
  (λb ys e=>by rw[qad (eJ b _ e)];exact e) (λb o u e=>by rw[qad (eJ b _ e)];exact e) (λb ps e=>⟨#[],by rw[qad (eJ b _ e),e];simp⟩) (λm hm=> ?_) (λb u e=> ?_) I.bare
 ·obtain⟨_,f1,_,f3,f4,f5⟩:=aO b hb;exact⟨f3,f1,f4,f5⟩
 ·obtain⟨o,es,ep,ho,r⟩:=hm;exact⟨o,es,ep,k _ o (λz=>(aO _ z).2.1 rfl) ho,r⟩
 ·by_cases z:b=T
  ·subst z;rw[qae] at e;cases e;exact new
  ·rw[qad z] at e;refine(I.hok b u e).stay (λc v hc q=>k c v ?_ q) (λc q=>by rw[qad (eJ c _ q)];exact q) λc ys q=>by rw[qad (eJ c _ q)];exact q
   grind
theorem Inv.turnL{X:Cx}{U:List (Addr×Obj)}{O:St}{H:Hp}{s:Shared}{h':Heap}{t':Nat}{ch:List Addr}(I:Inv X U O H s)(aO: ∀b∈ch,qgL X U H b)(k: ∀b o,b∉ch->s.heap.get? b=some o->h'.get? b=some o):
  Inv X U O H { s with heap:=h',toks:=t' }:=by
 have cT: ∀b u,H b=some u->b∉ch:=λb u e z=>by rw[(aO b z).1] at e;cases e
 refine I.step (λb hb=> ?_) (λb o _ _ hc e _=>k b o hc e) (λb o _ _ hc e _=>⟨o.slots,k b o hc e⟩) (λb o _ e n=>n) (λb o hc e=>⟨o,k b o hc e⟩)
  (λb ys e=>e) (λb o u e=>e) (λb ps e=>⟨#[],by rw[e];simp⟩) (λm hm=> ?_) (λb u e=> ?_) I.bare
 ·obtain⟨_,f1,_,f3,f4,f5⟩:=aO b hb;exact⟨f3,f1,f4,f5⟩
 ·obtain⟨o,es,ep,ho,r⟩:=hm;exact⟨o,es,ep,k _ o (λz=>(aO _ z).2.1 rfl) ho,r⟩
 ·refine(I.hok b u e).stay (λc v hc q=>k c v ?_ q) (λc q=>q) λc ys q=>q
  grind
noncomputable def qfI(mg:Str->Option Value)(base:Heap):Prop:= ∃bm ob,mg "__builtins__" =some (.ref bm)/\bm≠builtinsNs/\base.get? bm=some ob/\ob.cls= .type "module" /\ob.dict=some builtinsNs/\ob.data= .plain
open PySem.Calls
theorem qaG.obj(x:qaG P w H h a o): ∃u,h.get? a=some u:=by
 cases o with
 |lst xs=>obtain⟨_,_,_,_,e⟩:=x;exact⟨_,e⟩
 |tup xs=>obtain⟨_,_,_,p⟩:=x;exact p.imp λ_ q=>q.1
 |dK kvs|dT kvs=>obtain⟨_,_,_,_,o,_,_,e,_⟩:=x;exact⟨_,e⟩
 |set S n=>obtain⟨o,_,_,_,e,_⟩:=x;exact⟨_,e⟩
 |ins C dx fs=>obtain⟨_,_,_,e,_⟩:=x;exact⟨_,e⟩
 |own y=>obtain⟨_,e⟩:=x;exact⟨_,e⟩
 |xd fs=>obtain⟨_,⟨_,_,_,e,_⟩,_⟩:=x;exact⟨_,e⟩
 |rng lo hi=>obtain⟨_,_,_,e⟩:=x;exact⟨_,e⟩
 |frz ob u=>obtain⟨e,_⟩:=x;exact⟨_,e⟩
 |tbl ps|met f y=>exact⟨_,(x)⟩
 |ext φ=>obtain⟨_,⟨_,e⟩,_⟩:=x;exact⟨_,e⟩
structure qlC(P:Program)(w:World)(outer:List Env)(H:Hp)(s:Shared)(H':Hp)(B h':Heap):Prop where
 hok:HOk P w H' B
 st:B.StaysIn h'
 bk: ∀b o,s.heap.get? b=some o->H b=none->b∉frs outer->B.get? b=some o
 th: ∀b o,s.heap.get? b=some o->b∉frs outer->∃o',B.get? b=some o'
 sl: ∀b o,s.heap.get? b=some o->b∈frs outer->(∀vs,o.data≠.fields vs)/\∃sl,h'.get? b=some { o with slots:=sl }
 free: ∀b o,s.heap.get? b=some o->H b=none->H' b=none
 tups: ∀b xs,H b=some (.tup xs)->H' b=some (.tup xs)
 frzs: ∀b o u,H b=some (.frz o u)->H' b=some (.frz o u)
 tbls: ∀b ps,H b=some (.tbl ps)->∃more,H' b=some (.tbl (ps++more))
section
theorem qlC.on(L:qlC P w outer H s H' B h')(st:B.StaysIn gc)(up:h'.UpToSlots gc):qlC P w outer H s H' B gc:=
 { L with
  st:=st
  sl:=λb o e hb=>by
   obtain⟨nf,sl,q⟩:=L.sl b o e hb;obtain⟨eD,q'⟩:=up b _ q nf;exact⟨nf,eD,q'⟩ }
end
section
theorem qfj{X:Cx}(aG:X.stack=X.env::X.outer)(hf:X.env.frame=some X.env.locals):frs X.stack=X.env.locals::frs X.outer:=by rw[aG];show((X.env::X.outer).filterMap _)=_;rw[List.filterMap_cons,hf];rfl
theorem qlC.leave{X:Cx}(aG:X.stack=X.env::X.outer)(hf:X.env.frame=some X.env.locals)(hex:X.ex=[])(I:Inv X U O H s)(L:qlC X.prog X.w X.stack H s H' B h'):qlC X.prog X.w X.outer X.H₀ X.s₀ H' B h':=by
 have nx: ∀b,b∉X.ex:=λb z=>by rw[hex] at z;cases z
 have gI: ∀b o,X.s₀.heap.get? b=some o->b≠X.env.locals:=λb o e=>Vo (Vn (Vi e) I.ok.above);have out: ∀b o,X.s₀.heap.get? b=some o->b∉frs X.outer->b∉frs _:=λb o e nb z=>by
  rw[qfj aG hf] at z
  grind
 refine⟨L.hok,L.st,λb o e n nb=> ?_,λb o e nb=> ?_,λb o e hb=> ?_,λb o e n=> ?_,λb xs q=>L.tups b xs (I.base.tups b xs q),λb o u q=>L.frzs b o u (I.base.frzs b o u q),λb ps q=> ?_⟩
 ·exact L.bk b o (I.base.keep b o e n nb (nx b)) (I.base.free b o e n (nx b)) (out b o e nb)
 ·obtain⟨o',e'⟩:=I.base.there b o e (nx b);exact L.th b o' e' (out b o e nb)
 ·obtain⟨sl,e1⟩:=I.base.slot b o e (I.ok.frf b hb) hb (nx b);obtain⟨nf,eD,e2⟩:=L.sl b _ e1 (by rw[qfj aG hf];simp_all);exact⟨nf,eD,e2⟩
 ·obtain⟨sl,e1⟩:=I.base.any e n (nx b);exact L.free b _ e1 (I.base.free b o e n (nx b))
 ·obtain⟨m1,e1⟩:=I.base.tbls b ps q;obtain⟨m2,e2⟩:=L.tbls b _ e1;exact⟨m1++m2,by simp_all⟩
theorem qlC.made(I:Inv X U O H s)(k: ∀b o,s.heap.get? b=some o->h'.get? b=some o):qlC X.prog X.w X.stack H s H (W.hideAll s.heap (frs X.stack)) h' where
 hok:=λa o e=>(I.hok a o e).stay (λb u hb r=>W.hideAll_get _ r λz=>by
   have n:=I.stkFree b z
   rcases hb with q|q
   ·rw[q,e] at n;cases n
   ·rw[q] at n;cases n) (λ_ r=>r) λ_ _ r=>r
 st:=λb o e=>k b o (W.of_hideAll _ e)
 bk:=λb o e n nb=>W.hideAll_get _ e nb
 th:=λb o e nb=>⟨o,W.hideAll_get _ e nb⟩
 sl:=λb o e hb=>by obtain⟨_,o',e',nf⟩:=I.stack.mem hb;rw[e] at e';cases e';exact⟨nf,o.slots,k b o e⟩
 free:=λ_ _ _ n=>n
 tups:=λ_ _ q=>q
 frzs:=λ_ _ _ q=>q
 tbls:=λ_ ps q=>⟨#[],by rw[q];simp⟩
end
structure Fly(P:Program)(w:World)(outer:List Env)(H:Hp)(s:Shared)(C:Addr)(H':Hp)(a t:Addr)(B:Heap)(s':Shared):Prop where
 os:s'.os=s.os
 bare:AllBare s'.gens
 fly:Heap.FlyingW B outer a (.ref C) (.ref t) s'.heap
 lies:qlC P w outer H s H' B s'.heap
 new:H' a=none
structure qzw(P:Program)(w:World)(outer:List Env)(H:Hp)(s:Shared)(C:Addr)(H':Hp)(a t L:Addr)(B:Heap)(s':Shared):Prop where
 os:s'.os=s.os
 bare:AllBare s'.gens
 held:Heap.HeldW B outer a (.ref C) (.ref t) L s'.heap
 lies:qlC P w outer H s H' B s'.heap
 new:H' a=none
section
theorem Fly.leave(aG:X.stack=X.env::X.outer)(hf:X.env.frame=some X.env.locals)(hex:X.ex=[])(I:Inv X U O H s)(F:Fly X.prog X.w X.stack H s C H' a t B s'):
  wpAny M X.A (leaving X.env (.ref a)) (λ_ s''=>Fly X.prog X.w X.outer X.H₀ X.s₀ C H' a t B s'') E s':=by refine wpAny_leaves_onW (I.ok.frames.trans (congrArg _ aG)) hf (aG▸F.fly) λgc fl up=> ?_;exact⟨F.os.trans I.os,F.bare,fl,(F.lies.on fl.1 up).leave aG hf hex I,F.new⟩
theorem Fly.made(aG:X.stack=X.env::X.outer)(hf:X.env.frame=some X.env.locals)(hex:X.ex=[])(I:Inv X U O H s)(hm:Heap.MadeExcOf s.heap h' a (.ref C) args):
  wpAny M X.A (leaving X.env (.ref a)) (λ_ s''=> ∃t B,Fly X.prog X.w X.outer X.H₀ X.s₀ C H a t B s'') E { s with heap:=h' }:=by
 have hin: ∀env∈X.stack,∀b,env.frame=some b->b∈frs _:=λenv he b hb=>List.mem_filterMap.mpr ⟨env,he,hb⟩;have L:=qlC.made I hm.keeps;refine wpAny_leaves_madeW (base:=W.hideAll _ (frs X.stack)) (I.ok.frames.trans (congrArg _ aG)) hf (λb o q=>W.of_hideAll _ q) (aG▸W.funFrames_hide I.stack hin) hm λgc t fl _ _ up=> ?_;refine⟨t,_,I.os,I.bare,fl,(L.on fl.1 up).leave aG hf hex I,?_⟩;cases q:H a with
 |none=>rfl
 |some o=>obtain⟨u,hu⟩:=(I.hok a o q).obj;rw[hm.new] at hu;cases hu
end
noncomputable def CXE(P:Program)(w:World):CXT:=λouter H s E e s'=> ∃C H' a t B,e= .ref a/\Fly P w outer H s C H' a t B s'/\E (.ref C) none H'
theorem qvP{P:Program}{w:World}{K:W.Frag}{mg:Str->Option Value}{base:Heap}{N:List Str}{qual:Str}{scope:Scope}{f:Addr}{cd:Value}{A:Around}{outer:List Env}{s:Shared}{H:Hp}{E E1:XK}(h: ∀C H',E1 (.ref C) none H'->E (.ref C) none H'):qaJ (CXE P w) (qiT (CXE P w) P w K mg base N qual scope f cd A outer s H E) E1:=
 by rintro U O H1 s1 e s' I ⟨C,H',a,t,B,he,F,q⟩;subst he;exact Vc (Fly.leave rfl rfl rfl I F) (λ_ s'' F'=>⟨C,H',a,t,B,rfl,F',h C H' q⟩) λ_ _ x=>x
noncomputable def bmV:List Value:=[.type "ValueError",.type "Exception",.type "BaseException",.type "object"]
noncomputable def quP:List Str:=["__init__", "__getattribute__", "__getattr__", "__class__"]
inductive qdn(h:Heap)(bmB:List Value):List Value->Prop
 |base:qdn h bmB bmB
 | own {A:Addr} {c0:Value} {dd:Option Addr} {cd:ClassData} {sl:Array (Option Value)} {mA:Str->Option Value} {tl:List Value}:
   h.get? A=some { cls:=c0,dict:=dd,data:=.cls cd,slots:=sl }->h.Ns cd.ns mA->(∀n∈quP,mA n=none)->qdn h bmB tl->qdn h bmB (.ref A::tl)
theorem qdn.tail(T:qdn h bmB tl):OwnTail h bmB tl:=by
 induction T with
 |base=>exact .base
 |own hA hN hq _ ih=>exact .own hA hN (hq _ (.head _)) ih
theorem qdn.keeps(T:qdn h bmB tl)(hk: ∀b o,h.get? b=some o->h'.get? b=some o):qdn h' bmB tl:=by
 induction T with
 |base=>exact .base
 |own hA hN hq _ ih=>exact .own (hk _ _ hA) (hN.keeps hk) hq ih
noncomputable def qiW(h:Heap)(C:Addr)(bm:List Value):Prop:=
 ∃N nm q bs hdct sn sub ab col dd k0 k1 k2 k3 k5 mN,h.get? C=some (excClassObj nm q C N bs bm hdct sn sub ab col dd k0 k1 k2 k3 k5 "ValueError.__new__")/\h.Ns N mN/\(∀n∈quP,mN n=none)/\qdn h bmV bm
theorem qiW.keeps(x:qiW h C bm)(k: ∀b o,h.get? b=some o->h'.get? b=some o):qiW h' C bm:=
 let ⟨N,nm,q,bs,hdct,sn,sub,ab,col,dd,k0,k1,k2,k3,k5,mN,e,n,i,T⟩:=x
 ⟨N,nm,q,bs,hdct,sn,sub,ab,col,dd,k0,k1,k2,k3,k5,mN,k _ _ e,n.keeps k,i,T.keeps k⟩
theorem qiW.base(x:qiW h C bm):bm.contains (.type "BaseException")=true:=by obtain ⟨_,_,_,_,_,_,_,_,_,_,_,_,_,_,_,_,_,_,_,T⟩:=x;exact T.tail.hasType (rfl)
noncomputable def qjj(C:Addr)(E:XK):TS:=λ_ _ H=>E (.ref C) none H
theorem qme{P:Program}{w:World}{K:W.Frag}{mg:Str->Option Value}{base:Heap}{N:List Str}{qual:Str}{scope:Scope}{f:Addr}{cd:Value}{A:Around}{outer:List Env}{s:Shared}{H:Hp}{E:XK}{x msg:Str}{C:Addr}{bm:List Value} {j np p1 cpos pos} (hC:qiW base C bm) (hm:mg x=some (.ref C)) (hg:Gl (qiT (CXE P w) P w K mg base N qual scope f cd A outer s H E) x) (aA:(x==("__debug__" :Str))=false:=by decide):
  PS (qiT (CXE P w) P w K mg base N qual scope f cd A outer s H E) (.Raise (some (.Call (.Name x np) [.Constant (.str msg) j p1] [] cpos)) none pos) (qjj C E):=by
 intro U s1 O H1 D I h;obtain⟨Nn,nm,q,bs,hdct,sn,sub,ab,col,dd,k0,k1,k2,k3,k5,mN,e,n,i,T⟩:=id hC;refine wpAny_Raise_call_subT (C:=C) (nm:=nm) (q:=q) (N:=Nn) (bs:=bs) (bm:=bm) (hdct:=hdct) (sn:=sn) (sub:=sub) (ab:=ab) (col:=col) (dd:=dd) (k0:=k0) (k1:=k1) (k2:=k2) (k3:=k3) (k5:=k5) F.excBase_ValueError hC.base (I.ok.hd rfl) (by rfl) (i _ (.head _)) ?_;refine qb5 I hg hm ⟨rfl,?_⟩ aA;refine Calls.evalArgs_plain ?_;have hp:PA (qiT (CXE P w) P w K mg base N qual scope f cd A outer s H E) [.Constant (.str msg) j p1] _:=qcQ qn8 qhg;refine thn (hp cpos U s1 O H1 (λvs H2=>H2=H1/\vs.length=1) I ⟨rfl,rfl⟩) λus s2 eO=> ?_;obtain⟨vs,H2,I2,r,eH,el⟩:=eO;subst eH;have ul:us.length=1:=by rw[<-r.length];exact el
 refine⟨rfl,by rw[ul];decide,I2.bk _ _ e,n.keeps I2.bk,T.tail.keeps I2.bk,λh' a hx=> ?_⟩;exact Vc (Fly.made rfl rfl rfl I2 hx) ((by rintro _ s'' ⟨t,B,F'⟩;exact⟨C,H2,a,t,B,rfl,F',h⟩)) λ_ _ x=>x
abbrev Cx.hold(X:Cx)(U:List (Addr×Obj))(E:Value->Shared->Prop):Cx:={ X with pn:=X.pn++U,xe:=E }
abbrev Cx.within(X:Cx)(a:Addr):Cx:={ X with A:=X.A.mark (some (.ref a)),calm:=false,xe:=λ_ _=>False }
section
noncomputable def ExO(a C:Addr):HO:=.ext λh=> ∃o,h.get? a=some o/\o.cls= .ref C
end
end L2
namespace L2
open PySem PySem.Spec PyProof.Rows
section
variable{κ:Type}[DecidableEq κ]
noncomputable def qhU(kvs:List (κ×V))(k:κ):Option V:=(kvs.find? λkv=>decide (kv.1=k)).map (·.2)
noncomputable def qiS(kvs:List (κ×V))(k:κ)(v:V):List (κ×V):=
 if(kvs.any λkv=>decide (kv.1=k))=true then kvs.map (λkv=>if kv.1=k then(kv.1,v) else kv) else kvs++[(k,v)]
theorem qdU{p:κ×V}{r:List (κ×V)}{k:κ}(e:p.1=k):qhU (p::r) k=some p.2:=by simp[qhU,e]
theorem qdV{p:κ×V}{r:List (κ×V)}{k:κ}(e: ¬p.1=k):qhU (p::r) k=qhU r k:=by simp[qhU,e]
theorem qgP(k:κ): ∀kvs:List (κ×V),(kvs.any λkv=>decide (kv.1=k))=(qhU kvs k).isSome
 |[]=>rfl
 |p::r=>by
  rw[List.any_cons];by_cases e:p.1=k
  ·simp only[qdU e,decide_eq_true e,Bool.true_or,Option.isSome_some]
  ·rw[qdV e,decide_eq_false e];exact qgP k r
theorem qcT(kvs:List (κ×V))(k:κ)(v:V):(qiS kvs k v).length<=kvs.length+1:=by
 unfold qiS
 grind
theorem qfH.isSome_eq(r:qfH o u):o.isSome=u.isSome:=by
 cases o with
 |none=>cases u with
  |none=>rfl
  |some _=>exact(r).elim
 |some _=>cases u with
  |none=>exact(r).elim
  |some _=>rfl
theorem qfH.getD(r:qfH o u)(rd:RelV d d'):RelV (o.getD d) (u.getD d'):=by
 cases o with
 |none=>cases u with
  |none=>exact rd
  |some _=>exact(r).elim
 |some _=>cases u with
  |none=>exact(r).elim
  |some _=>exact r
theorem KV.val(r:KV kvs vs)(k:κ):qfH (qhU kvs k) (valueAt vs k):=by
 induction r with
 |nil=>exact True.intro
 |@cons p q ps qs h t ih=>
  obtain⟨h1,h2⟩:=h;by_cases e:p.1=k
  ·have e':=h1.symm.trans e;have b:valueAt (q::qs) k=some q.2:=by simp[valueAt,e']
   rw[qdU e,b];exact h2
  ·have e': ¬q.1=k:=λz=>e (h1.trans z);have b:valueAt (q::qs) k=valueAt qs k:=by simp[valueAt,e']
   rw[qdV e,b];exact ih
theorem KV.any(r:KV kvs vs)(k:κ):(kvs.any λkv=>decide (kv.1=k))=vs.any λkv=>decide (kv.1=k):=by
 induction r with
 |nil=>rfl
 |cons h t ih=>simp_all
theorem KV.repl(r:KV kvs vs)(k:κ)(ry:RelV y u):
  KV (kvs.map λkv=>if kv.1=k then(kv.1,y) else kv) (vs.map λkv=>if kv.1=k then(kv.1,u) else kv):=by
 induction r with
 |nil=>exact .nil
 |@cons p q ps qs h t ih=>
  refine .cons ?_ ih;by_cases e:p.1=k
  ·simp_all
  simp_all
theorem KV.put(r:KV kvs vs)(k:κ)(ry:RelV y u):KV (qiS kvs k y) (stored vs k u):=by
 unfold qiS stored;rw[r.any k];by_cases e:(vs.any λkv=>decide (kv.1=k))=true
 ·rw[if_pos e,if_pos e];exact r.repl k ry
 ·rw[if_neg e,if_neg e];exact Paired.snoc r ⟨rfl,ry⟩
theorem KV.length(r:KV kvs vs):kvs.length=vs.length:=Paired.length r
end
theorem qcZ(r:RelV (kV k) u):(qaq P w).is k u=true:=by
 cases k with
 |inl i=>obtain⟨t,e⟩:=(r);subst e;exact qf8 P w i t
 |inr x=>obtain⟨t,e⟩:=(r);subst e;exact qf7 P w x t
theorem qff: ∀{ks:List Key}{us:List Value},Vals (ks.map kV) us->ItemsAre (qaq P w) ks us
 |[],_,r=>by cases r;exact .nil
 |k::ks,_,r=>by
  cases r with
  |cons h t=>exact .cons (qcZ h) (qff t)
abbrev KT(H:Hp):List (List Key×V)->List (List Key×Addr×Value)->Prop:=Paired λp q=>p.1=q.1/\H q.2.1=some (.tup (p.1.map kV))/\RelV p.2 q.2.2
theorem KT.val(r:KT H kvs xs)(k:List Key):qfH (qhU kvs k) ((atKey xs k).map (·.2)):=by
 induction r with
 |nil=>exact True.intro
 |@cons p q ps qs h t ih=>
  obtain⟨h1,_,h2⟩:=h;by_cases e:p.1=k
  ·have e':=h1.symm.trans e;have b:atKey (q::qs) k=some q.2:=by simp[atKey,e']
   rw[qdU e,b];exact h2
  ·have e': ¬q.1=k:=λz=>e (h1.trans z);have b:atKey (q::qs) k=atKey qs k:=by simp[atKey,e']
   rw[qdV e,b];exact ih
theorem KT.repl(r:KT H kvs xs)(k:List Key)(ry:RelV y u):
  KT H (kvs.map λkv=>if kv.1=k then(kv.1,y) else kv) (xs.map (putAt k u)):=by
 induction r with
 |nil=>exact .nil
 |@cons p q ps qs h t ih=>
  refine .cons ?_ ih;unfold putAt;by_cases e:p.1=k
  ·simp_all
  simp_all
theorem KT.put(r:KT H kvs xs)(k:List Key)(hb:H b=some (.tup (k.map kV)))(ry:RelV y u):
  KT H (qiS kvs k y) (storedH xs k b u):=by
 have e:(kvs.any λkv=>decide (kv.1=k))=(atKey xs k).isSome:=by rw[qgP,(r.val k).isSome_eq,Option.isSome_map]
 unfold qiS storedH;rw[e];by_cases q:(atKey xs k).isSome=true
 ·rw[if_pos q,if_pos q];exact r.repl k ry
 ·rw[if_neg q,if_neg q];exact Paired.snoc r ⟨rfl,hb,ry⟩
theorem KT.keeps(r:KT H kvs xs)(ht: ∀b ys,H b=some (.tup ys)->H' b=some (.tup ys)):KT H' kvs xs:=
 Paired.mapP r λ_ _ z=>⟨z.1,ht _ _ z.2.1,z.2.2⟩
section
theorem qrP(ok:HOk P w H h)(e:Rd H a u):qaG P w H h a u:=e.ok ok
theorem qen(ok:HOk P w H h)(e:Rd H a (.dK kvs)):kvs.length<=sizeLine/\(a==sysModules)=false/\∃vs,KV kvs vs/\h.DictOf (qaq P w) a vs:=
 qrP ok e
theorem qqH(ok:HOk P w H h)(e:H a=some (.dK kvs)):kvs.length<=sizeLine/\(a==sysModules)=false/\∃vs,KV kvs vs/\h.DictOf (qaq P w) a vs:=qen ok (.inl e)
theorem qcX(ok:HOk P w H h)(e:H a=some (.tup (ks.map kV))):(tupleKind (qaq P w)).is h ks a:=by
 obtain⟨_,its,r,o,h1,h2,n,h3⟩:=(ok a _ e)
 exact⟨o,its.toArray,n,h1,h2,h3,by simpa using qff r⟩
theorem qgl(ok:HOk P w H h)(e:Rd H a (.dT kvs)):kvs.length<=sizeLine/\(a==sysModules)=false/\
  ∃xs,KT H kvs xs/\h.DictOfH (tupleKind (qaq P w)) a xs:=by
 obtain⟨z,y,xs,r,o,es,ep,h1,h2,h3,h4,h5⟩:=(qrP ok e)
 refine⟨z,y,xs,r,o,es,ep,h1,h2,h3,h4,λx hx=> ?_,h5⟩;have all: ∀{l } {m },KT H l m->∀x∈m,(tupleKind (qaq P w)).is h x.1 x.2.1:=by
  intro l m q
  induction q with
  |nil=>simp
  |@cons p q ps qs hq t ih=>
   intro x hx
   rcases List.mem_cons.mp hx with e|hx
   ·exact qcX ok (by grind)
   ·exact ih x hx
 exact all r x hx
theorem qtK(ok:HOk P w H h)(e:H a=some (.dT kvs)):kvs.length<=sizeLine/\(a==sysModules)=false/\
  ∃xs,KT H kvs xs/\h.DictOfH (tupleKind (qaq P w)) a xs:=qgl ok (.inl e)
end
noncomputable def qhQ(H:Hp)(a:Addr)(y:V)(r:Option V):Prop:=
 (∃kvs k,Rd H a (.dK kvs)/\y=kV k/\r=qhU kvs k)\/∃kvs k b,Rd H a (.dT kvs)/\y= .ref b/\H b=some (.tup (k.map kV))/\r=qhU kvs k
noncomputable def qzo(H:Hp)(a:Addr)(y v:V)(H':Hp):Prop:=
 (∃kvs k,H a=some (.dK kvs)/\y=kV k/\kvs.length<sizeLine/\H'=upd H a (.dK (qiS kvs k v)))\/
 ∃kvs k b,H a=some (.dT kvs)/\y= .ref b/\H b=some (.tup (k.map kV))/\kvs.length<sizeLine/\H'=upd H a (.dT (qiS kvs k v))
section
theorem Inv.big(I:Inv X U O H s):sysModules<s.heap.objs.size:=by have h:=(I.mod.glob.keeps I.bk).lt;exact Nat.lt_trans (by decide) h
theorem qk3(hu:A.units+1<cLine)(I:Inv X U O H s)(g:qhQ H a y (some v))(ry:RelV y u)(h: ∀w' s',Inv X U O H s'->RelV v w'->Q w' s'):
  wpAny (model X.prog X.w) A (getItem (.ref a) u) Q E s:=by
 rcases g with⟨kvs,k,e,ey,l⟩|⟨kvs,k,b,e,ey,eb,l⟩
 ·subst ey;obtain⟨z,hd,vs,rel,dd⟩:=qen I.hok e;obtain⟨w',hw,aq⟩:=qfH.some_of (by rw[l];exact rel.val k);exact wpAny_getItem_of (qcZ ry) dd.mapOf hw (h w' _ (I.tok _) aq)
 ·subst ey;cases(ry);obtain⟨z,hd,xs,rel,dd⟩:=qgl I.hok e;obtain⟨w',hw,aq⟩:=qfH.some_of (by rw[l];exact rel.val k);obtain⟨p,hp,cx⟩:=Option.map_eq_some_iff.mp hw;refine wpAny_getItem_heap (tupleKind_room_in1 hu) (qcX I.hok eb) dd hp ?_;rw[cx];exact h w' _ (I.tok _) aq
theorem qxT(hu:A.units+1<cLine)(I:Inv X U O H s)(g:qhQ H a y o)(ry:RelV y u)(h: ∀s',Inv X U O H s'->Q (.bool o.isSome) s'):
  wpAny (model X.prog X.w) A (compareOp .In u (.ref a)) Q E s:=by
 rcases g with⟨kvs,k,e,ey,l⟩|⟨kvs,k,b,e,ey,eb,l⟩
 ·subst ey;obtain⟨z,hd,vs,rel,dd⟩:=qen I.hok e;refine wpAny_in_of (qcZ ry) hd dd.mapOf ?_;rw[<-(rel.val k).isSome_eq,<-l];exact h _ (I.tok _)
 ·subst ey;cases(ry);obtain⟨z,hd,xs,rel,dd⟩:=qgl I.hok e;refine wpAny_in_heap (tupleKind_room_in1 hu) (qcX I.hok eb) hd dd ?_;have q:=(rel.val k).isSome_eq;rw[Option.isSome_map] at q;rw[<-q,<-l];exact h _ (I.tok _)
theorem qk2(hu:A.units+1<cLine)(I:Inv X U O H s)(g:qhQ H a y o)(ry:RelV y u)(h: ∀s',Inv X U O H s'->Q (.bool (!o.isSome)) s'):
  wpAny (model X.prog X.w) A (compareOp .NotIn u (.ref a)) Q E s:=by
 rcases g with⟨kvs,k,e,ey,l⟩|⟨kvs,k,b,e,ey,eb,l⟩
 ·subst ey;obtain⟨z,hd,vs,rel,dd⟩:=qen I.hok e;refine wpAny_notIn_of (qcZ ry) hd dd.mapOf ?_;rw[<-(rel.val k).isSome_eq,<-l];exact h _ (I.tok _)
 ·subst ey;cases(show u=Value.ref b from ry);obtain⟨z,hd,xs,rel,dd⟩:=qgl I.hok e;refine wpAny_notIn_heap (tupleKind_room_in1 hu) (qcX I.hok eb) hd dd ?_;have q:=(rel.val k).isSome_eq;rw[Option.isSome_map] at q;rw[<-q,<-l];exact h _ (I.tok _)
theorem qeo(I:Inv X U O H s)(mu:Mut (H a))(hs:Heap.SameBut a s.heap h')(he: ∃q,h'.get? a=some q)(new:qaG X.prog X.w (upd H a ob) h' a ob):
  Inv X U O (upd H a ob) { s with heap:=h',toks:=t' }:=
 I.write mu (.inl rfl) (λb q hb z=>(hs.2 b hb).trans z) he new
theorem qoB(z:kvs.length<=sizeLine)(hd:(a==sysModules)=false)(rel:KV kvs vs)(dd:h'.DictOf (qaq P w) a vs):
  qaG P w H' h' a (.dK kvs):=⟨z,hd,vs,rel,dd⟩
theorem qc8(hu:A.units+1<cLine)(I:Inv X U O H s)(g:qzo H a y v H')(ry:RelV y u)(rv:RelV v r)(h: ∀s',Inv X U O H' s'->Q () s'):
  wpAny (model X.prog X.w) A (setItem (.ref a) u r) Q E s:=by
 rcases g with⟨kvs,k,e,ey,l,eH⟩|⟨kvs,k,b,e,ey,eb,l,eH⟩
 ·subst ey eH;obtain⟨z,hd,vs,rel,dd⟩:=qqH I.hok e;have hz:vs.length<=sizeLine:=by rw[<-rel.length];exact z
  have hl:(qiS kvs k v).length<=sizeLine:=by have:=qcT kvs k v;omega
  refine wpAny_setItem_pairs (hsz:=hz) (qcZ ry) dd λh' dG hs=>h _ ?_;have he: ∃q,h'.get? a=some q:=let ⟨q,_,_,hq,_⟩:=dG;⟨q,hq⟩
  exact qeo I (by rw[e];exact True.intro) hs he (qoB hl hd (rel.put k rv) dG)
 ·subst ey eH;cases(show u=Value.ref b from ry);obtain⟨z,hd,xs,rel,dd⟩:=qtK I.hok e;have hz:xs.length<=sizeLine:=by rw[<-Paired.length rel];exact z
  have hl:(qiS kvs k v).length<=sizeLine:=by have:=qcT kvs k v;omega
  refine wpAny_setItem_heap (hsz:=hz) (tupleKind_room_in1 hu) (qcX I.hok eb) dd λh' dG hs=>h _ ?_;obtain⟨q,es,ep,hq,h2,h3,h4,_,h5⟩:=dG;refine qeo I (by rw[e];exact True.intro) hs ⟨q,hq⟩ ⟨hl,hd,_,(rel.put k eb rv).keeps λc ys ec=> ?_,q,es,ep,hq,h2,h3,h4,h5⟩;rw[qad (qwa ec e (λz=>nomatch z))];exact ec
end
section
theorem qqT(I:Inv X U O H s)(e:H a=some (.dK kvs))(h: ∀s',Inv X U O (upd H a (.dK [])) s'->Q .none s'):wpAny (model X.prog X.w) A (call (.builtin "dict.clear") [.ref a]) Q E s:=by
 obtain⟨z,hd,vs,rel,dd⟩:=qqH I.hok e;refine call_meetsIn F.slot_dict_clear dd.typeIs F.entry_dict_clear (F.args_dict_clear_1 _) (meets_dict_clear _ a) ⟨vs,dd,by rw[<-rel.length];exact z,λh' dG hs=>h _ ?_⟩;have he: ∃q,h'.get? a=some q:=let ⟨q,_,_,hq,_⟩:=dG;⟨q,hq⟩
 exact qeo I (by rw[e];exact True.intro) hs he (qoB (Nat.zero_le _) hd .nil dG)
theorem qw0(I:Inv X U O H s)(e:Rd H a (.dK kvs))(h: ∀t s',Inv X U O H s'->Q (.int kvs.length t) s'):wpAny (model X.prog X.w) A (call (.builtin "len") [.ref a]) Q E s:=by obtain⟨z,hd,vs,rel,dd⟩:=qen I.hok e;refine call_len_dict hd dd (by rw[<-rel.length];rw[sizeLine_eq] at z;omega) ?_;rw[<-rel.length];exact h _ _ (I.tok _)
end
noncomputable def qyc(i:Expr):Prop:= ∀ov iv,subscripted i false ov iv=operate [ov,iv] (getItem ov iv)
theorem qo9{T id:String}(hl:typeLookup (.type T) "__getitem__" =pure (some (.builtin id)))(hs:qyc slice)(h:wpAny (model prog w) A (eval value env) (λo ae=>wpAny (model prog w) A (eval slice env) (λi aP=>aP.TypeIs o T/\wpAny (model prog w) A (getItem o i) Q E aP) E ae) E s):
  wpAny (model prog w) A (eval (.Subscript value slice pos) env) Q E s:=by
 refine Subscript_ (Vc h (λo ae gU=>Vc gU (λi aP cV=> ?_) λ_ _ x=>x) λ_ _ x=>x);obtain⟨hT,cV⟩:=cV;refine Va ?_;refine Va (wpAny_specialOf hT hl ?_);have fin:wpAny (model prog w) A (subscripted slice false o i) (λr eA=>wpAny (model prog w) A (letTemporaryGo value o r>>=λ_=>pure r) Q E eA) E aP:=by rw[hs o i];exact wpAny_operating (Vc cV (λr eA gR=>Va (wpAny_letTemporaryGo (Vb gR))) λ_ _ x=>x)
 first
  |exact Vb (Va fin)
  |simp
  |exact Va fin
theorem qgn(I:Inv X U O H s)(g:qhQ H a y o):s.TypeIs (.ref a) "dict" :=by
 rcases g with⟨kvs,k,e,_,_⟩|⟨kvs,k,b,e,_,_,_⟩
 ·obtain⟨_,_,vs,_,dd⟩:=qen I.hok e;exact dd.typeIs
 ·obtain⟨_,_,xs,_,dd⟩:=qgl I.hok e;exact dd.typeIs
theorem qne(h:Heap)(hb:sysModules<h.objs.size):qaG P w H (h.push { cls:=.type "dict",data:=.dict #[] }) h.objs.size (.dK []):=
 ⟨Nat.zero_le _,beq_eq_false_iff_ne.mpr (Ne.symm (Vo hb)),[],.nil,Heap.DictOf.new h⟩
noncomputable def qrB:TE:=λ_ H Q=> ∀p,H p=none->Q (.ref p) (upd H p (.dK []))
section
theorem qmo:PE X (.Dict [] [] pos) qrB:=λU s O H Q I h=>
 wpAny_Dict_empty ⟨.ref _,_,I.laid (λ_ _ q=>Vg _ q) (Vm _) (qne _ I.big),rfl,h _ (I.hok.fresh (Vm _))⟩
end
structure M1(X:Cx)(o:Expr)(m:Str)(apos:Pos)(e:Expr)(cpos:Pos):Prop where
 base:attributeBase o m X.env (eval o X.env)=eval o X.env
 few:((backTo cpos (starEach [e] X.env)).all (λx=> !x.1)&&(backToKw cpos (keywordEach [] X.env)).all (λx=>x.1.isSome)
  &&decide (([e]:List Expr).length+([]:List Keyword).length+(if([]:List Keyword).isEmpty then 0 else 1)<30))=true
 line:(apos.endLine==cpos.line)=true
 trees:backTo cpos (starEach [e] X.env)=[(false,eval e X.env)]
structure M2(X:Cx)(o:Expr)(m:Str)(apos:Pos)(e f:Expr)(cpos:Pos):Prop where
 base:attributeBase o m X.env (eval o X.env)=eval o X.env
 few:((backTo cpos (starEach [e,f] X.env)).all (λx=> !x.1)&&(backToKw cpos (keywordEach [] X.env)).all (λx=>x.1.isSome)
  &&decide (([e,f]:List Expr).length+([]:List Keyword).length+(if([]:List Keyword).isEmpty then 0 else 1)<30))=true
 line:(apos.endLine==cpos.line)=true
 trees:backTo cpos (starEach [e,f] X.env)=[(false,eval e X.env),(false,eval f X.env)]
noncomputable def IsD(H:Hp)(a:Addr):Prop:=(∃kvs,Rd H a (.dK kvs))\/∃kvs,Rd H a (.dT kvs)
section
theorem qt5(hu:A.units+1<cLine)(I:Inv X U O H s)(g:qhQ H a y o)(ry:RelV y u)(h: ∀w' s',Inv X U O H s'->RelV (o.getD .non) w'->Q w' s'):
  wpAny (model X.prog X.w) A (call (.builtin "dict.get") [.ref a,u]) Q E s:=by
 rcases g with⟨kvs,k,e,ey,l⟩|⟨kvs,k,b,e,ey,eb,l⟩
 ·subst ey;obtain⟨z,hd,vs,rel,dd⟩:=qen I.hok e;refine call_meetsIn F.slot_dict_get dd.typeIs F.entry_dict_get (F.args_dict_get_2 _ _) (meets_dict_get (qaq X.prog X.w) a (qcZ ry) hd) ⟨_,dd.mapOf,h _ _ (I.tok _) ?_⟩;rw[l];exact(rel.val k).getD rfl
 ·subst ey;cases(show u=Value.ref b from ry);obtain⟨z,hd,xs,rel,dd⟩:=qgl I.hok e;refine call_meetsIn F.slot_dict_get dd.typeIs F.entry_dict_get (F.args_dict_get_2 _ _) (meetsH_dict_get (tupleKind (qaq X.prog X.w)) a b hd) ⟨tupleKind_room_in1 hu,k,xs,qcX I.hok eb,dd,h _ _ (I.tok _) ?_⟩;rw[l];exact(rel.val k).getD rfl
theorem qoD(hu:A.units+1<cLine)(I:Inv X U O H s)(g:qhQ H a y o)(ry:RelV y u)(rd:RelV d r)(h: ∀w' s',Inv X U O H s'->RelV (o.getD d) w'->Q w' s'):
  wpAny (model X.prog X.w) A (call (.builtin "dict.get") [.ref a,u,r]) Q E s:=by
 rcases g with⟨kvs,k,e,ey,l⟩|⟨kvs,k,b,e,ey,eb,l⟩
 ·subst ey;obtain⟨z,hd,vs,rel,dd⟩:=qen I.hok e;refine call_meetsIn F.slot_dict_get dd.typeIs F.entry_dict_get (F.args_dict_get_3 _ _ _) (meets_dict_get_default (qaq X.prog X.w) a (qcZ ry) hd r) ⟨_,dd.mapOf,h _ _ (I.tok _) ?_⟩;rw[l];exact(rel.val k).getD rd
 ·subst ey;cases(ry);obtain⟨z,hd,xs,rel,dd⟩:=qgl I.hok e;refine call_meetsIn F.slot_dict_get dd.typeIs F.entry_dict_get (F.args_dict_get_3 _ _ _) (meetsH_dict_get_default _ a b hd r) ⟨tupleKind_room_in1 hu,k,xs,qcX I.hok eb,dd,h _ _ (I.tok _) ?_⟩;rw[l];exact(rel.val k).getD rd
end
end L2
namespace RH
open PySem L2
abbrev Rw:=Int×Str×Int
noncomputable def qzh(rs:List Rw)(k:Str):List Int:=(rs.filter λr=>decide (r.2.1=k)).map (·.2.2)
noncomputable def outT(g:List Int->Rw->Option Rw)(rs:List Rw)(i:Nat):List Rw:=(List.range i).filterMap λj=>(rs[j]?).bind λr=>g (qzh (rs.take j) r.2.1) r
open PySem.Spec PyProof.Rows
noncomputable def pickL{α:Type}(xs:List α)(lo hi st:Option Int):List α:=(sliceRange (sliceBounds lo hi st xs.length).1 (sliceBounds lo hi st xs.length).2.1 (sliceBounds lo hi st xs.length).2.2).filterMap (xs[·]?)
theorem qoW(r:Vals xs us)(i:Nat):(xs[i]? =none/\us[i]? =none)\/∃x u,xs[i]? =some x/\us[i]? =some u/\RelV x u:=by
 induction r generalizing i with
 |nil=>exact .inl ⟨rfl,rfl⟩
 |cons h _ ih=>
  cases i with
  |zero=>exact .inr ⟨_,_,rfl,rfl,h⟩
  |succ i=>exact ih i
theorem vals_pick(r:Vals xs us): ∀l:List Nat,Vals (l.filterMap (xs[·]?)) (l.filterMap (us[·]?))
 |[]=>.nil
 |i::l=>by
  rcases qoW r i with⟨e1,e2⟩|⟨x,u,e1,e2,h⟩
  ·rw[List.filterMap_cons_none e1,List.filterMap_cons_none e2];exact vals_pick r l
  ·rw[List.filterMap_cons_some e1,List.filterMap_cons_some e2];exact .cons h (vals_pick r l)
theorem pe_slice3{X:Cx}{e fI:Expr}{lo hi:Option Expr}{te:TE}{tl th ts:TO}{p2 pos:Pos}(he:PE X e te)(hl:PO X lo tl)(hu:PO X hi th)(aG:PO X (some fI) ts):
  PE X (.Subscript e (.Slice lo hi (some fI) p2) pos) (λO H Q=>te O H λx H1=>tl O H1 λl H2=>th O H2 λu H3=>ts O H3 λst H4=>st≠some 0/\∃a xs,x= .ref a/\SqL X.K H4 a xs/\∀p,H4 p=none->Q (.ref p) (upd H4 p (.lst (pickL xs l u st)))):=by
 intro U s O H Q I h;refine Subscript_ (thn (he U s O H _ I h) λv s1 z0=> ?_);obtain ⟨x,H1,I1,r1,q1⟩:=z0;refine wpAny_Slice (thn (hl U s1 O H1 _ I1 q1) λvl s2 ⟨l,H2,I2,pl,q2⟩=>thn (hu U s2 O H2 _ I2 q2) λvu s3 ⟨u,H3,I3,pu,q3⟩=>thn (aG U s3 O H3 _ I3 q3) λvs s4 z0=> ?_);obtain ⟨st,H4,I4,ps,n0,a,xs,ex,hx,q4⟩:=z0;subst ex;cases r1;have I5:Inv X U O H4 { s4 with heap:=s4.heap.push { cls:=.type "slice",data:=.fields #[vl,vu,vs] } }:=I4.kept (t':=s4.toks) λb ob q=>Vg _ q;obtain⟨its,r,ht,hz⟩:=I5.list hx;have hlen:=r.length;refine tail_any (ops:=[.ref a,.ref s4.heap.objs.size]) (T:= "list") ht.isList.typeIs slot_list_getitem.lookup ?_ (by with_unfolding_all rfl);refine wpAny_getItem_list_slice ht.isList (Heap.IsSliceOf.new ..) pl pu ps n0 ?_ (by rw[List.size_toArray]<;>lia);have ep:slicePick its.toArray l u st=(pickL its l u st).toArray:=by unfold slicePick pickL;simp
 rw[ep];refine⟨.ref _,_,I5.laid (t':=s4.toks) (o:=.lst (pickL xs l u st)) (λb ob q=>Vg _ q) (Vm _) ?_,rfl,q4 _ (I5.hok.fresh (Vm _))⟩;have rv:Vals (pickL xs l u st) (pickL its l u st):=by unfold pickL;rw[hlen];exact vals_pick r _
 have sz:(pickL its l u st).length<=its.length:=by have:=slicePick_size_le its.toArray l u st;rw[ep] at this;simpa using this
 exact⟨by rw[rv.length];lia,_,0,rv,Vh _ rfl⟩
end RH
namespace L2
open PySem PySem.Spec PyProof.Rows
end L2
namespace RH
open PySem L2
open PySem.Spec PyProof.Rows
end RH
namespace St
open PySem PySem.W PySem.Calls PyProof.Rows
section
theorem qfW(h:n<2):qdg kz n (List.toArray (List.range n)):=by
 refine⟨⟨by simp,λi hi=> ?_,λi q1 q2=>by lia⟩,λi j aI hj=>by lia⟩;unfold g
 simp_all
theorem lsort_p{s:Shared}{vs:List Value}{kz:List Int}{h0:Heap}{n:Nat}(ho:s.heap.get? D=some (seqObj "list" vs.toArray n))(hlen:kz.length=vs.length)(bS:vs.length<64)(kp:Kp h0 s.heap)(jo:h0.get? D=none)(kind: ∀s':Shared,Kp h0 s'.heap->2<=vs.length->∀Q:SortKind->Shared->Prop,Q κ s'->wpAny (model prog w) A (keyKind' vs.toArray) Q E s')(cmp: ∀s':Shared,Kp h0 s'.heap->∀i j,i<vs.length->j<vs.length->∀C:Bool->Shared->Prop,C (decide (kz.getD i 0<kz.getD j 0)) s'->wpAny (model prog w) A (keyLt' κ (vs.getD i Value.none) (vs.getD j Value.none)) C (λ_ _=>False) s')(h: ∀h' tk c (p:Array Nat),Kp h0 h'->qdg kz vs.length p->h'.get? D=some (seqObj "list" (List.toArray (p.toList.map λi=>vs.getD i Value.none)) c)->P (.done (.ret .none)) { s with heap:=h',toks:=tk }):
  wpAny (model prog w) A (Builtin.«list.sort» ⟨[.ref D],[]⟩) P E s:=by
 rw[list_sort_plain];have s1:=Heap.SameBut.update s.heap D (Obj.mapSeq λ_=>(#[]:Array Value));obtain⟨e1,cF⟩: ∃e1,(s.heap.update D (Obj.mapSeq λ_=>(#[]:Array Value))).get? D=some (seqObj "list" #[] e1):=⟨_,get?_update_seq ho λ_=> #[]⟩
 refine Va (listItems_at ho rfl ?_);refine Va (listUpdate_at ho rfl ?_ (by rw[List.size_toArray,sizeLine_eq];lia) (Nat.zero_le _));refine Va (seqEpoch_at cF rfl ?_);generalize hH2:s.heap.update D (Obj.mapSeq λ_=>(#[]:Array Value))=H2 at cF s1⊢;have kp3:Kp h0 H2:=λb o z=>(s1.2 b (λq=>by rw[q,jo] at z;cases z)).trans (kp b o z);refine Va (wpAny_newTuple ?_ (by show vs.length<=_;rw[sizeLine_eq];lia));refine Va (wpAny_newList ?_ (Nat.zero_le _));refine wpAny_holding ?_;generalize iF:(H2.push (seqObj "tuple" vs.toArray 0)).push (seqObj "list" #[] 0)=H3;have iG:H3.get? D=some (seqObj "list" #[] e1):=by rw[<-iF];exact Vg _ (Vg _ cF)
 have gO:Kp h0 H3:=λb o z=>by rw[<-iF];exact Vg _ (Vg _ (kp3 b o z))
 have fin: ∀(st:SortSt)(p:Array Nat),qdg kz vs.length p->(arrOf st).map (·.2)=List.toArray (p.toList.map λi=>vs.getD i Value.none)->failedOf st=none->
   wpAny (model prog w) A (do
    let touched:=(<-seqEpoch D) != e1
    Builtin.List.listUpdate (.ref D) λ_=>(arrOf st).map (·.2)
    if let some e:=failedOf st then rule "list.sort.comparison-raised";throw e
    if touched then rule "list.sort.modified";raiseError "ValueError" "list modified during sort"
    ret .none) P E { s with heap:=H3 }:=λst p ba iD hfl=>by
  have hsz:(p.toList.map λi=>vs.getD i Value.none).length=vs.length:=by rw[List.length_map,Array.length_toList,ba.1.sz]
  refine Va (seqEpoch_at iG rfl ?_);rw[iD];refine Va (listUpdate_at iG rfl ?_ (Nat.zero_le _) (by show(List.toArray _).size<=_;rw[List.size_toArray,hsz,sizeLine_eq];lia));rw[hfl];simp only[bne_self_eq_false,Bool.false_eq_true,if_false];have iu: ∃c,(H3.update D (Obj.mapSeq λ_=>List.toArray (p.toList.map λi=>vs.getD i Value.none))).get? D=some (seqObj "list" (List.toArray (p.toList.map λi=>vs.getD i Value.none)) c):=⟨_,get?_update_seq iG λ_=>List.toArray (p.toList.map λi=>vs.getD i Value.none)⟩
  obtain⟨c,hc⟩:=iu;refine Vb (h _ _ c p (λb o q=> ?_) ba hc);have nD:b≠D:=λz=>by rw[z,jo] at q;cases q
  exact((Heap.SameBut.update H3 D _).2 b nD).trans (gO b o q)
 by_cases h2:vs.toArray.size<2
 ·rw[if_pos h2,if_pos h2];refine Va (Vb ?_);dsimp only;rw[StateT.run_pure];refine Va (Vb ?_);rw[List.size_toArray] at h2;refine fin _ _ (qfW h2) ?_ rfl;show(vs.toArray.zip vs.toArray).map (·.2)=_;apply Array.toList_inj.mp;rw[Array.toList_map,ksk_zip,List.toList_toArray,List.toList_toArray];rw[show(vs.zip vs).map (λx:Value×Value=>x.2)=vs from List.map_snd_zip (by lia)];apply List.ext_getElem
  ·simp
  ·intro i h3 h4;simp[List.getElem?_eq_getElem h3]
 ·rw[if_neg h2,if_neg h2];rw[List.size_toArray] at h2;refine Va (kind { s with heap:=H3 } gO (by lia) _ ?_)
  have run:=kat_run (prog:=prog) (w:=w) (A:=A) (E:=E) (s:={ s with heap:=H3 }) (κ:=κ) (ks:=vs) (vs:=vs) (Q:=λst s'=>s'={ s with heap:=H3 }/\∃p,qdg kz vs.length p/\(arrOf st).map (·.2)=List.toArray (p.toList.map λi=>vs.getD i Value.none)/\failedOf st=none)
   (G:=λp s'=>s'={ s with heap:=H3 }/\qdg kz vs.length p) rfl (by lia) bS (λp aF s' a1 a2 a3 a4=>⟨a4.1,p,a4.2,kat_snds rfl a2,a3⟩)
   (qkx (ask:=qbW λi=>kz.getD i 0) (N:=vs.length) (λi j C hi hj hc=>cmp { s with heap:=H3 } gO i j hi hj C hc) (λp hp=>⟨rfl,hp⟩) (qpd (by lia)))
  refine Va (Vc run (λr s' hr=> ?_) λ_ _ x=>x);obtain⟨rfl,p,ba,iD,hf⟩:=hr;exact fin _ p ba iD hf
end
end St
namespace SR
section
noncomputable def ins{α:Type}(k:α->Int)(r:α):List α->List α
 |[]=>[r]
 |x::l=>if k x<=k r then x::ins k r l else r::x::l
noncomputable def srt{α:Type}(k:α->Int)(l:List α):List α:=l.foldl (λa r=>ins k r a) []
theorem qdY:srt k (l++[r])=ins k r (srt k l):=by unfold srt;simp
theorem qkr{α:Type}{β:Type}{k:α->Int}{k':β->Int}{f:β->α}(h: ∀b,k' b=k (f b))(r:β): ∀l:List β,(ins k' r l).map f=ins k (f r) (l.map f)
 |[]=>rfl
 |x::l=>by
  show List.map f (if k' x<=k' r then x::ins k' r l else r::x::l)=(if k _<=k _ then f x::ins k _ _ else f r::f x::l.map f)
  rw[h x,h r];by_cases c:k (f x)<=k (f r)
  ·rw[if_pos c,if_pos c,List.map_cons,qkr h r l]
  ·rw[if_neg c,if_neg c,List.map_cons,List.map_cons]
theorem srt_map{α:Type}{β:Type}{k:α->Int}{k':β->Int}{f:β->α}(h: ∀b,k' b=k (f b))(l:List β):(srt k' l).map f=srt k (l.map f):=by
 have go: ∀(l a:List β),(l.foldl (λa r=>ins k' r a) a).map f=(l.map f).foldl (λa r=>ins k r a) (a.map f):=by
  intro l
  induction l with
  |nil=>intro a;rfl
  |cons x l ih=>intro a;rw[List.foldl_cons,ih,List.map_cons,List.foldl_cons,qkr h]
 exact go l []
theorem mem_ins: ∀{l:List α},x∈ins k r l↔x=r\/x∈l
 |[]=>by simp[ins]
 |y::l=>by
  unfold ins;by_cases c:k y<=k r
  ·rw[if_pos c,List.mem_cons,mem_ins];constructor
   ·grind
   grind
  ·rw[if_neg c,List.mem_cons]
theorem qdz: ∀{l:List α},(ins k r l).length=l.length+1
 |[]=>rfl
 |y::l=>by
  unfold ins;by_cases c:k y<=k r
  ·rw[if_pos c,List.length_cons,qdz,List.length_cons]
  ·rw[if_neg c];rfl
theorem mem_srt(l:List α):x∈srt k l↔x∈l:=by
 have go: ∀(l a:List α),x∈l.foldl (λa r=>ins k r a) a↔x∈a\/x∈l:=by
  intro l
  induction l with
  |nil=>simp
  |cons y l ih=>
   intro a;rw[List.foldl_cons,ih,mem_ins,List.mem_cons];constructor
   ·rintro((h|h)|h)
    ·exact .inr (.inl h)
    ·exact .inl h
    ·exact .inr (.inr h)
   ·rintro(h|h|h)
    ·exact .inl (.inr h)
    ·exact .inl (.inl h)
    ·exact .inr h
 rw[show srt k l=l.foldl _ [] from rfl,go];simp
theorem length_srt(l:List α):(srt k l).length=l.length:=by
 have go: ∀(l a:List α),(l.foldl (λa r=>ins k r a) a).length=a.length+l.length:=by
  intro l
  induction l with
  |nil=>simp
  |cons y l ih=>intro a;rw[List.foldl_cons,ih,qdz,List.length_cons];lia
 have:=go l [];simpa [srt] using this
noncomputable def Ris{α:Type}(k:α->Int)(l:List α):Prop:=l.Pairwise λa b=>k a<=k b
theorem ris_ins: ∀{l:List α},Ris k l->Ris k (ins k r l)
 |[],_=>by simp[ins,Ris]
 |y::l,h=>by
  have h':=List.pairwise_cons.mp h;unfold ins;by_cases c:k y<=k r
  ·rw[if_pos c];refine List.pairwise_cons.mpr ⟨λz hz=> ?_,ris_ins h'.2⟩
   rcases mem_ins.mp hz with q|q
   ·rw[q];exact c
   ·exact h'.1 z q
  ·rw[if_neg c];refine List.pairwise_cons.mpr ⟨λz hz=> ?_,h⟩
   grind
theorem qju(l:List α):Ris k (srt k l):=by
 have go: ∀(l a:List α),Ris k a->Ris k (l.foldl (λa r=>ins k r a) a):=by
  intro l
  induction l with
  |nil=>intro a h;exact h
  |cons y l ih=>intro a h;exact ih _ (ris_ins h)
 exact go l [] List.Pairwise.nil
end
section
structure Ord(lt:α->α->Bool):Prop where
 irr: ∀a,lt a a=false
 tr: ∀a b c,lt a b=true->lt b c=true->lt a c=true
 tot: ∀a b,lt a b=false->lt b a=false->a=b
noncomputable def rank{α:Type}(lt:α->α->Bool)(as:List α)(a:α):Int:=(as.countP λx=>lt x a:Nat)
theorem qfv{α:Type}{p q:α->Bool}(h: ∀x,p x=true->q x=true): ∀l:List α,l.countP p<=l.countP q
 |[]=>Vm _
 |x::l=>by
  have ih:=qfv h l;rw[List.countP_cons,List.countP_cons];cases e:p x with
  |true=>simp_all
  |false=>lia
theorem qfu{α:Type}{p q:α->Bool}(h: ∀x,p x=true->q x=true){a:α}(ha:p a=false)(hb:q a=true): ∀{l:List α},a∈l->l.countP p<l.countP q
 |x::l,hm=>by
  rw[List.countP_cons,List.countP_cons];have le:=qfv h l
  rcases List.mem_cons.mp hm with rfl|hm
  ·lia
  ·have ih:=qfu h ha hb hm;cases e:p x with
   |true=>simp_all
   |false=>lia
theorem rank_lt{α:Type}{lt:α->α->Bool}(o:Ord lt){as:List α}{a b:α}(ha:a∈as)(hb:b∈as):decide (rank lt as a<rank lt as b)=lt a b:=by
 have up: ∀{a b },a∈as->lt a b=true->rank lt as a<rank lt as b:=λ{a b} ha h=>by unfold rank;have:=qfu (λx hx=>o.tr x a b hx h) (o.irr a) h ha;lia
 cases h:lt a b with
 |true=>simp_all
 |false=>
  cases h2:lt b a with
  |true=>have:=up hb h2;lia
  |false=>have:=o.tot a b h h2;lia
theorem ql7(o:Ord lt)(ha:a∈as)(hb:b∈as)(h:rank lt as a=rank lt as b):a=b:=by
 refine o.tot a b ?_ ?_
 ·rw[<-rank_lt o ha hb];grind
 ·rw[<-rank_lt o hb ha];grind
noncomputable def sortA{α:Type}(lt:α->α->Bool)(as:List α):List α:=srt (rank lt as) as
theorem qhf: ∀l:List α,List.Perm (ins k r l) (r::l)
 |[]=>List.Perm.refl _
 |x::l=>by
  show List.Perm (if k x<=k r then x::ins k r l else r::x::l) _;by_cases c:k x<=k r
  ·rw[if_pos c];exact((qhf l).cons x).trans (List.Perm.swap r x l)
  ·rw[if_neg c]
theorem perm_srt(l:List α):List.Perm (srt k l) l:=by
 have go: ∀(l a:List α),List.Perm (l.foldl (λa r=>ins k r a) a) (a++l):=by
  intro l
  induction l with
  |nil=>simp
  |cons x l ih=>intro a;refine(ih _).trans ?_;refine((qhf a).append_right l).trans ?_;exact List.perm_middle.symm
 exact go l []
theorem qfm: ∀{l l':List α},(∀a∈l,∀b∈l,k a=k b->a=b)->Ris k l->Ris k l'->List.Perm l l'->l=l'
 |[],l',_,_,_,p=>(List.Perm.eq_nil p.symm).symm
 |x::l,[],_,_,_,p=>absurd (List.Perm.eq_nil p) (by simp)
 |x::l,y::l',hi,h1,h2,p=>by
  have a1:=List.pairwise_cons.mp h1;have a2:=List.pairwise_cons.mp h2;have hy:=p.symm.subset Vk;have hx:=p.subset Vk;have e:x=y:=by
   rcases List.mem_cons.mp hy with q|q
   ·exact q.symm
   ·rcases List.mem_cons.mp hx with r|r
    ·exact r
    ·have b2:=a2.1 x r
     grind
  subst e;rw[qfm (λa ha b hb=>hi a (List.mem_cons_of_mem _ ha) b (List.mem_cons_of_mem _ hb)) a1.2 a2.2 (p.cons_inv)]
theorem qh4(o:Ord lt)(p:List.Perm as bs):sortA lt as=sortA lt bs:=by
 have e:rank lt as=rank lt bs:=funext λa=>by unfold rank;rw[p.countP_eq]
 unfold sortA;rw[<-e];refine qfm (λa ha b hb h=>ql7 o ((mem_srt _).mp ha) ((mem_srt _).mp hb) h) (qju _) (qju _) ?_;exact(perm_srt as).trans (p.trans (perm_srt bs).symm)
end
end SR
namespace L2
open PySem PySem.Spec PySem.Calls PyProof.Rows PySem.W
noncomputable def qd7(K:Frag)(N:Addr):Bool:=nsOkIn K N&&quP.all λn=>nsIn K N n==some none
theorem qa8{K:Frag}{h:Heap}(X:K.In h)(e:qd7 K N=true):h.Ns N (h.nsMap N)/\∀n∈quP,h.nsMap N n=none:=by unfold qd7 at e;rw[Bool.and_eq_true] at e;exact⟨.of_isNs (isNs_of_in X e.1),λn hn=>nsMap_none_of_in X e.1 (beq_iff_eq.mp (List.all_eq_true.mp e.2 n hn))⟩
noncomputable def qfR(K:Frag)(bmB:List Value):List Value->Bool
 |[]=>bmB==[]
 |v::r=>(v::r)==bmB||match v with
  |.ref A=>(match K.lookup A with
   |some ⟨_,_,.cls cd,_⟩=>qd7 K cd.ns&&qfR K bmB r
   |_=>false)
  |_=>false
theorem qcI{K:Frag}(X:K.In h): ∀{l:List Value},qfR K bmB l=true->qdn h bmB l
 |[],e=>by rw[<-beq_iff_eq.mp e];exact .base
 |v::r,e=>by
  rcases Bool.or_eq_true_iff.mp e with q|q
  ·rw[beq_iff_eq.mp q];exact .base
  ·split at q
   ·split at q
    ·rename_i ho;rw[Bool.and_eq_true] at q;exact .own (X _ _ ho) (qa8 X q.1).1 (qa8 X q.1).2 (qcI X q.2)
    ·cases q
   ·cases q
noncomputable def qkR(K:Frag)(C:Addr)(bm:List Value):Bool:=match K.lookup C with
 |some ⟨.type "type",_,.cls cd,sl⟩=>(match cd.mro,sl.toList with
  |.ref C'::jB,[_,_,_,_,some (.builtin n),_]=>C'==C&&jB==bm&&n== "ValueError.__new__" && !cd.hasDel&&qfR K bmV bm&&qd7 K cd.ns
  |_,_=>false)
 |_=>false
theorem qiC{K:Frag}(X:K.In h)(q:qkR K C bm=true):qiW h C bm:=by
 unfold qkR at q;split at q
 ·rename_i dd cd sl ho;split at q
  ·rename_i C' jB k0 k1 k2 k3 n k5 hm hs;simp only[Bool.and_eq_true,beq_iff_eq,Bool.not_eq_true'] at q;obtain⟨⟨⟨⟨⟨rfl,rfl⟩,rfl⟩,iy⟩,ht⟩,hok⟩:=q;obtain⟨nm,bs,mro,ns,qn,hd,sn,sub,ab,col,del⟩:=cd;subst hm iy;have hsl:sl= #[k0,k1,k2,k3,some (.builtin "ValueError.__new__"),k5]:=by
    obtain⟨l⟩:=sl
    grind
   subst hsl;exact⟨ns,nm,qn,bs,hd,sn,sub,ab,col,dd,k0,k1,k2,k3,k5,_,X _ _ ho,(qa8 X hok).1,(qa8 X hok).2,qcI X ht⟩
  ·cases q
 ·cases q
end L2
namespace NV
open PySem L2
inductive T where
 |non|bl (b:Bool)|int (i:Int)|str (s:Str)|tup (ts:List T)|lst (ts:List T)|dct (kvs:List (Key×T))|fn (x:Str)|scr (ns:List Int)|obj (k:Nat)|exc (c:Str)
inductive Ct where
 |ls (ts:List T)|dk (kvs:List (Key×T))|du (kvs:List (List Key×T))|ins (c:Str) (fs:List (Str×T))|gone
structure Mu where
 l:List Ct
 k:List (Nat×Nat)
mutual
noncomputable def ub:T->Nat
 |.obj k=>k+1
 |.tup ts=>ubs ts
 |.lst ts=>ubs ts
 |.dct kvs=>ubd kvs
 |_=>0
noncomputable def ubs:List T->Nat
 |[]=>0
 |t::ts=>max (ub t) (ubs ts)
noncomputable def ubd:List (Key×T)->Nat
 |[]=>0
 |(_,t)::ts=>max (ub t) (ubd ts)
end
noncomputable def ubf{κ:Type}:List (κ×T)->Nat
 |[]=>0
 |(_,t)::ts=>max (ub t) (ubf ts)
noncomputable def ubC:Ct->Nat
 |.ls ts=>ubs ts
 |.dk kvs=>ubf kvs
 |.du kvs=>ubf kvs
 |.ins _ fs=>ubf fs
 |.gone=>0
noncomputable def Mu.put(m:Mu)(k:Nat)(c:Ct):Mu:=⟨m.l.set k c,if ubC c<=k then m.k else(k,ubC c)::m.k⟩
noncomputable def Mu.add(m:Mu)(c:Ct):Mu:=⟨m.l++[c],if ubC c<=m.l.length then m.k else(m.l.length,ubC c)::m.k⟩
inductive R(α:Type) where
 |no|ok (a:α) (m:Mu)|ex (c:Str) (m:Mu)
noncomputable def R.bind{α β:Type}:R α->(α->Mu->R β)->R β
 |.no,_=>.no
 |.ok a m,f=>f a m
 |.ex c m,_=>.ex c m
@[simp] theorem qaa{α β:Type}(a:α)(m:Mu)(f:α->Mu->R β):(R.ok a m).bind f=f a m:=rfl
@[simp] theorem qv7{α β:Type}(f:α->Mu->R β):(R.no:R α).bind f= .no:=rfl
@[simp] theorem qwQ{α β:Type}(c:Str)(m:Mu)(f:α->Mu->R β):(R.ex c m:R α).bind f= .ex c m:=rfl
structure qaI where
 hp:Hp
 ad:Nat->Option Addr
instance:CoeFun qaI λ_=>Addr->Option HO:=⟨qaI.hp⟩
noncomputable def clA(K:PySem.W.Frag)(x:Str):Addr:=match PySem.W.nsIn K mainGlobals x with
 |some (some (.ref C))=>C
 |_=>0
mutual
noncomputable def Rep(K:PySem.W.Frag)(B:qaI):T->V->Prop
 |.non,v=>v= .non
 |.bl b,v=>v= .bl b
 |.int i,v=>v= .int i
 |.str s,v=>v= .str s
 |.tup ts,v=> ∃p vs,v= .ref p/\B p=some (.tup vs)/\Reps K B ts vs
 |.lst ts,v=> ∃p vs,v= .ref p/\B p=some (.lst vs)/\Reps K B ts vs
 |.dct kvs,v=> ∃p o us,v= .ref p/\B p=some (.frz o (.dK us))/\RepD K B kvs us
 |.fn x,v=> ∃f,v= .ref f/\PySem.W.nsIn K mainGlobals x=some (some (.ref f))
 |.scr ns,v=> ∃p,v= .ref p/\SqL K B.hp p (ns.map V.int)
 |.obj k,v=> ∃a,v= .ref a/\B.ad k=some a
 |.exc c,v=> ∃a,v= .ref a/\B a=some (ExO a (clA K c))
noncomputable def Reps(K:PySem.W.Frag)(B:qaI):List T->List V->Prop
 |[],vs=>vs=[]
 |t::ts,vs=> ∃v r,vs=v::r/\Rep K B t v/\Reps K B ts r
noncomputable def RepD(K:PySem.W.Frag)(B:qaI):List (Key×T)->List (Key×V)->Prop
 |[],vs=>vs=[]
 |(k,t)::ts,vs=> ∃v r,vs=(k,v)::r/\Rep K B t v/\RepD K B ts r
end
noncomputable def qbc(K:PySem.W.Frag)(B:qaI){κ:Type}:List (κ×T)->List (κ×V)->Prop
 |[],vs=>vs=[]
 |(k,t)::ts,vs=> ∃v r,vs=(k,v)::r/\Rep K B t v/\qbc K B ts r
structure Le(B B':qaI):Prop where
 h: ∀a o,B a=some o->B' a=some o
 d: ∀k a,B.ad k=some a->B'.ad k=some a
theorem Le.refl(B:qaI):Le B B:=⟨λ_ _ h=>h,λ_ _ h=>h⟩
theorem Le.trans(h:Le A B)(h':Le B C):Le A C:=⟨λa o e=>h'.h a o (h.h a o e),λa o e=>h'.d a o (h.d a o e)⟩
theorem qjo(h: ∀a o,B a=some o->B' a=some o)(q:SqL K B p vs):SqL K B' p vs:=by
 rcases q with(q|⟨o,q⟩)|q
 ·exact .inl (.inl (h _ _ q))
 ·exact .inl (.inr ⟨o,h _ _ q⟩)
 ·exact .inr q
mutual
theorem Rep.mono(h:Le B B'): ∀{t:T}{v:V},Rep K B t v->Rep K B' t v
 |.non,_,r=>r
 |.bl _,_,r=>r
 |.int _,_,r=>r
 |.str _,_,r=>r
 |.fn _,_,r=>by unfold Rep at r⊢;exact r
 |.tup _,_,r=>by unfold Rep at r⊢;obtain⟨p,vs,e,q,rs⟩:=r;exact⟨p,vs,e,h.h _ _ q,Reps.mono h rs⟩
 |.lst _,_,r=>by unfold Rep at r⊢;obtain⟨p,vs,e,q,rs⟩:=r;exact⟨p,vs,e,h.h _ _ q,Reps.mono h rs⟩
 |.dct _,_,r=>by unfold Rep at r⊢;obtain⟨p,o,vs,e,q,rs⟩:=r;exact⟨p,o,vs,e,h.h _ _ q,RepD.mono h rs⟩
 |.obj _,_,r=>by unfold Rep at r⊢;obtain⟨a,e,q⟩:=r;exact⟨a,e,h.d _ _ q⟩
 |.exc _,_,r=>by unfold Rep at r⊢;obtain⟨a,e,q⟩:=r;exact⟨a,e,h.h _ _ q⟩
 |.scr _,_,r=>by unfold Rep at r⊢;obtain⟨p,e,q⟩:=r;exact⟨p,e,qjo h.h q⟩
theorem Reps.mono(h:Le B B'): ∀{ts:List T}{vs:List V},Reps K B ts vs->Reps K B' ts vs
 |[],_,r=>r
 |_::_,_,r=>by unfold Reps at r⊢;obtain⟨v,r',e,a,b⟩:=r;exact⟨v,r',e,Rep.mono h a,Reps.mono h b⟩
theorem RepD.mono(h:Le B B'): ∀{ts:List (Key×T)}{vs:List (Key×V)},RepD K B ts vs->RepD K B' ts vs
 |[],_,r=>r
 |(_,_)::_,_,r=>by unfold RepD at r⊢;obtain⟨v,r',e,a,b⟩:=r;exact⟨v,r',e,Rep.mono h a,RepD.mono h b⟩
end
section
theorem qbc.mono{κ:Type}(h:Le B B'): ∀{ts:List (κ×T)}{vs:List (κ×V)},qbc K B ts vs->qbc K B' ts vs
 |[],_,r=>r
 |(_,_)::_,_,⟨v,r',e,a,b⟩=>⟨v,r',e,a.mono h,b.mono h⟩
theorem qg7: ∀{ts:List (Key×T)}{vs:List (Key×V)},qbc K B ts vs↔RepD K B ts vs
 |[],_=>by exact Iff.rfl
 |(_,_)::_,_=>by exact⟨(by rintro⟨v,r,e,a,b⟩;exact⟨v,r,e,a,qg7.mp b⟩),(by rintro⟨v,r,e,a,b⟩;exact⟨v,r,e,a,qg7.mpr b⟩)⟩
theorem Reps.nil:Reps K B [] []:=by unfold Reps;rfl
theorem Reps.cons{K:PySem.W.Frag}{B:qaI}{t:T}{v:V}{ts:List T}{vs:List V}(h:Rep K B t v)(r:Reps K B ts vs):Reps K B (t::ts) (v::vs):=by exact⟨v,vs,rfl,h,r⟩
theorem Reps.inv(h:Reps K B (t::ts) vs): ∃v r,vs=v::r/\Rep K B t v/\Reps K B ts r:=by exact h
theorem Reps.inv0(h:Reps K B [] vs):vs=[]:=by exact h
theorem Reps.length: ∀{ts:List T}{vs:List V},Reps K B ts vs->vs.length=ts.length
 |[],_,h=>by rw[h.inv0];rfl
 |_::_,_,h=>by obtain⟨v,r,rfl,_,h'⟩:=h.inv;simp[Reps.length h']
theorem Reps.get: ∀{ts:List T}{vs:List V}{i:Nat}{t:T},Reps K B ts vs->ts[i]? =some t->∃v,vs[i]? =some v/\Rep K B t v
 |[],_,_,_,_,e=>by simp at e
 |_::_,_,0,_,h,e=>by obtain⟨v,r,rfl,a,_⟩:=h.inv;simp_all
 |_::_,_,i+1,t,h,e=>by
  obtain⟨v,r,rfl,_,h'⟩:=h.inv;obtain⟨u,e1,e2⟩:=Reps.get h' (by simpa using e)
  simp_all
theorem Reps.of_get(hl:vs.length=ts.length)(h: ∀(i:Nat)(t:T)(v:V),ts[i]? =some t->vs[i]? =some v->Rep K B t v):Reps K B ts vs:=by
 induction ts generalizing vs with
 |nil=>cases vs with
  |nil=>exact .nil
  |cons _ _=>cases hl
 |cons t ts ih=>cases vs with
  |nil=>cases hl
  |cons v vs=>exact .cons (h 0 t v rfl rfl) (ih (by simpa using hl) λi t' v' a b=>h (i+1) t' v' (by simpa using a) (by simpa using b))
theorem Reps.append: ∀{ts us:List T}{vs ws:List V},Reps K B ts vs->Reps K B us ws->Reps K B (ts++us) (vs++ws)
 |[],_,_,_,h,h'=>by rw[h.inv0];exact h'
 |_::_,_,_,_,h,h'=>by obtain⟨v,r,rfl,a,b⟩:=h.inv;exact .cons a (Reps.append b h')
theorem Reps.one(r:Rep K B t v):Reps K B [t] [v]:=.cons r .nil
theorem Reps.take(n:Nat)(h:Reps K B ts vs):Reps K B (ts.take n) (vs.take n):=by
 refine .of_get (by simp[h.length]) λi t v a b=> ?_;rw[List.getElem?_take] at a b;split at a
 ·obtain⟨u,e1,e2⟩:=h.get a
  grind
 ·cases a
theorem Reps.drop(n:Nat)(h:Reps K B ts vs):Reps K B (ts.drop n) (vs.drop n):=by
 refine .of_get (by simp[h.length]) λi t v a b=> ?_;rw[List.getElem?_drop] at a b;obtain⟨u,e1,e2⟩:=h.get a
 grind
theorem Reps.set(n:Nat)(h:Reps K B ts vs)(r:Rep K B t v):Reps K B (ts.set n t) (vs.set n v):=by
 refine .of_get (by simp[h.length]) λi t' v' a b=> ?_;rw[List.getElem?_set] at a b;by_cases hi:n=i
 ·grind
 ·rw[if_neg hi] at a b;obtain⟨u,e1,e2⟩:=h.get a
  grind
theorem Reps.getD(h:Reps K B ts vs)(j:Nat)(hj:j<ts.length):Rep K B (ts.getD j .non) (vs.getD j .non):=by
 obtain⟨u,e1,e2⟩:=h.get (Vy hj)
 simp_all
theorem qbc.length{κ:Type}: ∀{ts:List (κ×T)}{vs:List (κ×V)},qbc K B ts vs->vs.length=ts.length
 |[],_,h=>by rw[h];rfl
 |(_,_)::_,_,⟨v,r,e,_,h⟩=>by rw[e];simp[qbc.length h]
theorem qbx(r:Rep K B (.bl b) v):v= .bl b:=by exact r
theorem qag(r:Rep K B (.int b) v):v= .int b:=by exact r
theorem qaB{b:Str}(r:Rep K B (.str b) v):v= .str b:=by exact r
theorem qcM(r:Rep K B .non v):v= .non:=by exact r
theorem qaw(r:Rep K B (.tup ts) v): ∃p vs,v= .ref p/\B p=some (.tup vs)/\Reps K B ts vs:=by exact r
theorem qaC(r:Rep K B (.lst ts) v): ∃p vs,v= .ref p/\B p=some (.lst vs)/\Reps K B ts vs:=by exact r
theorem qfU(r:Rep K B (.dct ts) v): ∃p o vs,v= .ref p/\B p=some (.frz o (.dK vs))/\qbc K B ts vs:=by obtain⟨p,o,vs,a,b,c⟩:=r;exact⟨p,o,vs,a,b,qg7.mpr c⟩
theorem qax(r:Rep K B (.obj k) v): ∃a,v= .ref a/\B.ad k=some a:=by exact r
theorem qpk{c:Str}(r:Rep K B (.exc c) v): ∃a,v= .ref a/\B a=some (ExO a (clA K c)):=by exact r
theorem qa2:Rep K B (.bl b) (.bl b):=rfl
theorem qaN:Rep K B (.int b) (.int b):=rfl
theorem qce{b:Str}:Rep K B (.str b) (.str b):=rfl
theorem qcf:Rep K B .non .non:=by unfold Rep;rfl
theorem qcd(h:B p=some (.tup vs))(r:Reps K B ts vs):Rep K B (.tup ts) (.ref p):=by unfold Rep;simp_all
theorem qcg(h:B p=some (.lst vs))(r:Reps K B ts vs):Rep K B (.lst ts) (.ref p):=by unfold Rep;simp_all
theorem qoa(h:B p=some (.frz o (.dK vs)))(r:qbc K B ts vs):Rep K B (.dct ts) (.ref p):=by exact⟨p,o,vs,rfl,h,qg7.mp r⟩
theorem qdv(h:B.ad k=some a):Rep K B (.obj k) (.ref a):=by exact⟨a,rfl,h⟩
end
noncomputable def qeg:Key->T
 |.inl i=>.int i
 |.inr s=>.str s
theorem qcY(k:Key):Rep K B (qeg k) (kV k):=by cases k<;>first|exact qaN|exact qce
section
noncomputable def qaI.cut(B:qaI)(n:Nat):qaI:=⟨B.hp,λj=>if j<n then B.ad j else none⟩
mutual
theorem Rep.cut: ∀{t:T}{v:V},Rep K B t v->ub t<=n->Rep K (B.cut n) t v
 |.non,_,r,_=>r
 |.bl _,_,r,_=>r
 |.int _,_,r,_=>r
 |.str _,_,r,_=>r
 |.fn _,_,r,_=>by unfold Rep at r⊢;exact r
 |.tup _,_,r,h=>by unfold Rep at r⊢;unfold ub at h;obtain⟨p,vs,e,q,rs⟩:=r;exact⟨p,vs,e,q,Reps.cut rs h⟩
 |.lst _,_,r,h=>by unfold Rep at r⊢;unfold ub at h;obtain⟨p,vs,e,q,rs⟩:=r;exact⟨p,vs,e,q,Reps.cut rs h⟩
 |.dct _,_,r,h=>by unfold Rep at r⊢;unfold ub at h;obtain⟨p,o,vs,e,q,rs⟩:=r;exact⟨p,o,vs,e,q,RepD.cut rs h⟩
 |.obj _,_,r,h=>by unfold Rep at r⊢;unfold ub at h;obtain⟨a,e,q⟩:=r;exact⟨a,e,by show(if _ then _ else _)=_;rw[if_pos (show _<n from h)];exact q⟩
 |.exc _,_,r,_=>by unfold Rep at r⊢;exact r
 |.scr _,_,r,_=>by unfold Rep at r⊢;exact r
theorem Reps.cut: ∀{ts:List T}{vs:List V},Reps K B ts vs->ubs ts<=n->Reps K (B.cut n) ts vs
 |[],_,r,_=>r
 |_::_,_,r,h=>by unfold Reps at r⊢;unfold ubs at h;obtain⟨v,r',e,a,b⟩:=r;exact⟨v,r',e,Rep.cut a (Vp (Nat.le_max_left _ _) h),Reps.cut b (Vp (Nat.le_max_right _ _) h)⟩
theorem RepD.cut: ∀{ts:List (Key×T)}{vs:List (Key×V)},RepD K B ts vs->ubd ts<=n->RepD K (B.cut n) ts vs
 |[],_,r,_=>r
 |(_,_)::_,_,r,h=>by unfold RepD at r⊢;unfold ubd at h;obtain⟨v,r',e,a,b⟩:=r;exact⟨v,r',e,Rep.cut a (Vp (Nat.le_max_left _ _) h),RepD.cut b (Vp (Nat.le_max_right _ _) h)⟩
end
theorem qbc.cut{κ:Type}: ∀{ts:List (κ×T)}{vs:List (κ×V)},qbc K B ts vs->ubf ts<=n->qbc K (B.cut n) ts vs
 |[],_,r,_=>r
 |(_,_)::_,_,⟨v,r',e,a,b⟩,h=>by exact⟨v,r',e,Rep.cut a (Vp (Nat.le_max_left _ _) h),qbc.cut b (Vp (Nat.le_max_right _ _) h)⟩
mutual
theorem Rep.ub(hd: ∀k a,B.ad k=some a->k<n): ∀{t:T}{v:V},Rep K B t v->ub t<=n
 |.non,_,_=>Nat.zero_le _
 |.bl _,_,_=>Nat.zero_le _
 |.int _,_,_=>Nat.zero_le _
 |.str _,_,_=>Nat.zero_le _
 |.fn _,_,_=>Nat.zero_le _
 |.tup _,_,r=>by unfold Rep at r;unfold NV.ub;obtain⟨p,vs,e,q,rs⟩:=r;exact Reps.ub hd rs
 |.lst _,_,r=>by unfold NV.ub;obtain⟨p,vs,e,q,rs⟩:=r;exact Reps.ub hd rs
 |.dct _,_,r=>by unfold NV.ub;obtain⟨p,o,vs,e,q,rs⟩:=r;exact RepD.ub hd rs
 |.obj _,_,r=>by unfold Rep at r;unfold NV.ub;obtain⟨a,e,q⟩:=r;exact hd _ _ q
 |.exc _,_,_=>Nat.zero_le _
 |.scr _,_,_=>Nat.zero_le _
theorem Reps.ub(hd: ∀k a,B.ad k=some a->k<n): ∀{ts:List T}{vs:List V},Reps K B ts vs->ubs ts<=n
 |[],_,_=>Nat.zero_le _
 |_::_,_,r=>by unfold ubs;obtain⟨v,r',e,a,b⟩:=r;exact Nat.max_le.mpr ⟨Rep.ub hd a,Reps.ub hd b⟩
theorem RepD.ub(hd: ∀k a,B.ad k=some a->k<n): ∀{ts:List (Key×T)}{vs:List (Key×V)},RepD K B ts vs->ubd ts<=n
 |[],_,_=>Nat.zero_le _
 |(_,_)::_,_,r=>by unfold ubd;obtain⟨v,r',e,a,b⟩:=r;exact Nat.max_le.mpr ⟨Rep.ub hd a,RepD.ub hd b⟩
end
theorem qbc.ub{κ:Type}(hd: ∀k a,B.ad k=some a->k<n): ∀{ts:List (κ×T)}{vs:List (κ×V)},qbc K B ts vs->ubf ts<=n
 |[],_,_=>Nat.zero_le _
 |(_,_)::_,_,⟨v,r',e,a,b⟩=>by exact Nat.max_le.mpr ⟨Rep.ub hd a,qbc.ub hd b⟩
end
end NV
namespace PL
open PySem L2
inductive T where
 |non|bl (b:Bool)|int (i:Int)|str (s:Str)|tup (ts:List T)|lst (ts:List T)|dct (kvs:List (Key×T))|dcf (kvs:List (Key×T))|dtu (kvs:List (List Key×T))|fn (x:Str)|scr (ns:List Int)|obj (a:Addr)
inductive Rs(α:Type) where
 |no|ok (a:α)|ex (c:Str)
structure GX(H H':Hp):Prop where
 hh: ∀a o,H a=some o->(∀ps,o≠.tbl ps)->H' a=some o
 dm: ∀a,H a≠none->H' a≠none
inductive Sl where
 |no|fz (t:T)|ow (ts:List T)|od (kvs:List (Key×T))|ou (kvs:List (List Key×T))|pd (kvs:List (Key×T))|pu (kvs:List (List Key×T))
section
noncomputable def qyT(K:W.Frag)(tl:TE):TI:=λO H R=>tl O H λx H1=> ∃a,x= .ref a/\(((∃xs,SqL K H1 a xs/\(xs.length<=sizeLine->R (Itl K a) H1)))\/(∃xs,SqT K H1 a xs/\(xs.length<=sizeLine->R (Itt K a) H1)))
theorem pi_seq(hl:PE X l tl):PI X tg l (qyT X.K tl):=by
 intro U s O H R I h;refine thn (hl _ s O H _ I h) λv s1 eN=> ?_;obtain⟨x,H1,I1,r1,q1⟩:=eN;obtain⟨a,e,q⟩:=q1;subst e;cases r1
 rcases q with⟨xs,hq,q⟩|⟨xs,hq,q⟩
 ·obtain⟨its,rv,p,hz⟩:=I1.list hq;have q:=q hz;refine Vf p.isList ?_;refine⟨s1.heap.objs.size,[s1.heap.objs.size],_,_,H1,rfl,I1.kept λb o e=>Vg _ e,qjd a _,⟨_,Vh _ rfl,rfl,rfl⟩,λb hb=> ?_,q⟩;have e:=by simpa using hb
  subst e;exact I1.fpOk (Vm _) (I1.hok.fresh (Vm _))
 ·obtain⟨its,rv,p,hz⟩:=I1.tuple hq;have q:=q hz;refine wpAny_pyIter_tuple p ?_;refine⟨s1.heap.objs.size,[s1.heap.objs.size],_,_,H1,rfl,I1.kept λb o e=>Vg _ e,qhW a _,⟨_,Vh _ rfl,rfl,rfl⟩,λb hb=> ?_,q⟩;have e:=by simpa using hb
  subst e;exact I1.fpOk (Vm _) (I1.hok.fresh (Vm _))
end
theorem line1M:(1000000:Nat)<=sizeLine:=by decide
end PL
namespace Mir
open St
theorem qed: ∀{l:List Nat}{x:Nat},x∈l->(l.erase x).length+1=l.length
 |[],_,h=>by cases h
 |y::l,x,h=>by
  grind
theorem qe7{l:List Nat}{x y:Nat}(h:y∈l)(aN:y≠x):y∈l.erase x:=by
 grind
theorem qhl: ∀{l l':List Nat},l.Nodup->(∀x∈l,x∈l')->l.length<=l'.length
 |[],_,_,_=>Nat.zero_le _
 |x::l,l',nd,h=>by
  have hx:=h x Vk;have hn:=List.nodup_cons.mp nd;have:=qhl (l':=l'.erase x) hn.2 λy hy=>qe7 (h y (Vl _ hy)) λz=>hn.1 (z▸hy);have e:=qed hx
  grind
theorem qzb{l:List Nat}{n:Nat}(nd:l.Nodup)(lt: ∀x∈l,x<n)(hl:l.length=n): ∀j,j<n->j∈l:=by
 intro j hj;by_cases q:j∈l
 ·exact q
 ·have h1:=qhl (l':=List.range n) (List.nodup_cons.mpr ⟨q,nd⟩) λx hx=>by
   rcases List.mem_cons.mp hx with e|e
   ·simp_all
   simp_all
  grind
theorem qbz(dH: ∀a b,R a b->¬R b a): ∀{l l':List Nat},l.Pairwise R->l'.Pairwise R->(∀x,x∈l↔x∈l')->l=l'
 |[],[],_,_,_=>rfl
 |[],y::l',_,_,h=>by have:=(h y).mpr Vk;cases this
 |x::l,[],_,_,h=>by have:=(h x).mp Vk;cases this
 |x::l,y::l',h1,h2,h=>by
  obtain⟨a1,b1⟩:=List.pairwise_cons.mp h1;obtain⟨a2,b2⟩:=List.pairwise_cons.mp h2;have exy:x=y:=by
   rcases List.mem_cons.mp ((h x).mp Vk) with e|e
   ·exact e
   ·rcases List.mem_cons.mp ((h y).mpr Vk) with e'|e'
    ·exact e'.symm
    grind
  subst exy;have n1:=λq=>dH x x (a1 x q) (a1 x q);have n2:=λq=>dH x x (a2 x q) (a2 x q);rw[qbz dH b1 b2 λz=>⟨λq=>((List.mem_cons.mp ((h z).mp (List.mem_cons_of_mem _ q))).resolve_left λe=>n1 (e▸q)),λq=>((List.mem_cons.mp ((h z).mpr (List.mem_cons_of_mem _ q))).resolve_left λe=>n2 (e▸q))⟩]
theorem qoP(a b:Nat)(h:L k a b): ¬L k b a:=by
 intro h'
 rcases h with h|h<;>rcases h' with h'|h'<;>lia
theorem qby(h:qdg ms n p):p.toList.Pairwise (L λi=>ms.getD i 0):=by
 rw[List.pairwise_iff_getElem];intro i j hi hj aI;have aV:=by simpa using hi
 have jd:=by simpa using hj
 have e:=h.2 i j aI (by rw[h.1.sz] at jd;exact jd);have e1:g p i=p.toList[i]:=by unfold g;simp_all
 have e2:g p j=p.toList[j]:=by unfold g;simp_all
 simp_all
theorem qhh(h:qdg ms n p): ∀x∈p.toList,x<n:=by
 intro x hx;obtain⟨i,hi,rfl⟩:=List.mem_iff_getElem.mp hx;have aV:=by simpa using hi
 have e:=h.1.lo i (by rw[h.1.sz] at aV;exact aV);have e1:g p i=p.toList[i]:=by unfold g;simp_all
 rw[e1] at e;exact e
theorem qf3(h:qdg ms n p):p.toList.Nodup:=by refine List.Pairwise.imp ?_ (qby h);intro a b jk e;subst e;exact qoP a a jk jk
theorem order_mem{p:Array Nat}(h:qdg ms n p)(x:Nat):x∈p.toList↔x<n:=
 ⟨qhh h x,qzb (qf3 h) (qhh h) (by exact h.1.sz) x⟩
noncomputable def qvj(ms:List Int)(n:Nat)(m:Int):List Nat:=(List.range n).filter λj=>decide (ms.getD j 0=m)
noncomputable def due(ms:List Int)(n t:Nat):List Nat:=(List.range t).flatMap λm=>qvj ms n (m:Nat)
theorem map_range_getD{α:Type}(xs:List α)(d:α):(List.range xs.length).map (λj=>xs.getD j d)=xs:=by
 apply List.ext_getElem
 ·simp
 simp_all
end Mir
namespace SR
open PySem L2 RH St Mir
theorem qtj: ∀{l:List Nat},(∀x∈l,x<n)->l.Pairwise (L k)->(ins k n l).Pairwise (L k)
 |[],_,_=>by simp[ins]
 |y::l,hl,h=>by
  have h':=List.pairwise_cons.mp h;have hy:y<n:=hl y Vk;show(if k y<=k n then y::ins k n l else n::y::l).Pairwise (L k);by_cases c:k y<=k n
  ·rw[if_pos c];refine List.pairwise_cons.mpr ⟨λz hz=> ?_,qtj (λx hx=>hl x (Vl _ hx)) h'.2⟩
   rcases mem_ins.mp hz with q|q
   ·unfold L;lia
   ·exact h'.1 z q
  ·rw[if_neg c];refine List.pairwise_cons.mpr ⟨λz hz=> ?_,h⟩
   rcases List.mem_cons.mp hz with q|q
   ·exact .inl (by lia)
   ·have:=h'.1 z q;unfold L at this⊢;lia
theorem qeU(k:Nat->Int): ∀n,(srt k (List.range n)).Pairwise (L k)
 |0=>List.Pairwise.nil
 |n+1=>by rw[List.range_succ,qdY];exact qtj (λx hx=>List.mem_range.mp ((mem_srt _).mp hx)) (qeU k n)
theorem qeZ(h:qdg ms n p):p.toList=srt (λi=>ms.getD i 0) (List.range n):=
 qbz qoP (qby h) (qeU _ _) λx=>by rw[order_mem h,mem_srt,List.mem_range]
end SR
namespace RH
open PySem PySem.Spec PyProof.Rows L2 SR
section
noncomputable def eqT(us vs:List V):Bool:=(List.range us.length).all λj=>eqV (us.getD j .non) (vs.getD j .non)
theorem valsArr(r:Vals us is)(h:j<is.toArray.size):RelV (us.getD j .non) is.toArray[j]:=by
 have hj:j<us.length:=by rw[r.length];simpa using h
 obtain⟨u,e,q⟩:=r.get (Vy hj);rw[List.getD_eq_getElem?_getD,List.getElem?_eq_getElem hj];have:is.toArray[j]=u:=by
  rw[List.getElem?_eq_getElem (by simpa using h)] at e
  simp_all
 rw[this];exact q
end
end RH
namespace PL
open PySem L2
section kinds
open SeqAt
variable{A:Around}{s:Shared}{x:V}{u:Value}{l b:Addr}{is js:Array Value}
theorem eq_fl(r:RelV x u)(f:qgi x=true)(h:s.heap.IsList l is)(c:A.units<cLine):EqAt A s u (.ref l) false/\EqAt A s (.ref l) u false/\RcAt A s u (.ref l) false/\RcAt A s (.ref l) u false/\RcNeAt A s u (.ref l) true/\RcNeAt A s (.ref l) u true:=by
 cases x with
 |non=>cases r;exact⟨.none_list h c,.list_none h c,.none_list h c,.list_none h c,.none_list h c,.list_none h c⟩
 |bl k=>cases r;exact⟨.bool_list k h c,.list_bool k h c,.bool_list k h c,.list_bool k h c,.bool_list k h c,.list_bool k h c⟩
 |int k=>obtain⟨t,rfl⟩:=r;exact⟨.int_list k t h c,.list_int k t h c,.int_list k t h c,.list_int k t h c,.int_list k t h c,.list_int k t h c⟩
 |str k=>obtain⟨t,rfl⟩:=r;exact⟨.str_list k t h c,.list_str k t h c,.str_list k t h c,.list_str k t h c,.str_list k t h c,.list_str k t h c⟩
 |_=>cases f
theorem eq_ft(r:RelV x u)(f:qgi x=true)(h:s.heap.IsTuple l is)(c:A.units<cLine):EqAt A s u (.ref l) false/\EqAt A s (.ref l) u false/\RcAt A s u (.ref l) false/\RcAt A s (.ref l) u false/\RcNeAt A s u (.ref l) true/\RcNeAt A s (.ref l) u true:=by
 cases x with
 |non=>cases r;exact⟨.none_tuple h c,.tuple_none h c,.none_tuple h c,.tuple_none h c,.none_tuple h c,.tuple_none h c⟩
 |bl k=>cases r;exact⟨.bool_tuple k h c,.tuple_bool k h c,.bool_tuple k h c,.tuple_bool k h c,.bool_tuple k h c,.tuple_bool k h c⟩
 |int k=>obtain⟨t,rfl⟩:=r;exact⟨.int_tuple k t h c,.tuple_int k t h c,.int_tuple k t h c,.tuple_int k t h c,.int_tuple k t h c,.tuple_int k t h c⟩
 |str k=>obtain⟨t,rfl⟩:=r;exact⟨.str_tuple k t h c,.tuple_str k t h c,.str_tuple k t h c,.tuple_str k t h c,.str_tuple k t h c,.tuple_str k t h c⟩
 |_=>cases f
theorem rc_ff{y:V}{v:Value}(r:RelV x u)(f:qgi x=true)(r':RelV y v)(f':qgi y=true):RcAt A s u v (eqV x y)/\RcNeAt A s u v (!eqV x y):=by
 cases x with
 |non=>
  cases r;cases y with
  |non=>cases r';exact⟨.none_none,.none_none⟩
  |bl k=>cases r';exact⟨.none_bool k,.none_bool k⟩
  |int k=>obtain⟨t,rfl⟩:=r';exact⟨.none_int k t,.none_int k t⟩
  |str k=>obtain⟨t,rfl⟩:=r';exact⟨.none_str k t,.none_str k t⟩
  |_=>cases f'
 |bl i=>
  cases r;cases y with
  |non=>cases r';exact⟨.bool_none i,.bool_none i⟩
  |bl k=>cases r';exact⟨.bool_bool i k,.bool_bool i k⟩
  |int k=>obtain⟨t,rfl⟩:=r';exact⟨.bool_int i k t,.bool_int i k t⟩
  |str k=>obtain⟨t,rfl⟩:=r';exact⟨.bool_str i k t,.bool_str i k t⟩
  |_=>cases f'
 |int i=>
  obtain⟨t0,rfl⟩:=r;cases y with
  |non=>cases r';exact⟨.int_none i t0,.int_none i t0⟩
  |bl k=>cases r';exact⟨.int_bool i t0 k,.int_bool i t0 k⟩
  |int k=>obtain⟨t,rfl⟩:=r';exact⟨.int_int i t0 k t,.int_int i t0 k t⟩
  |str k=>obtain⟨t,rfl⟩:=r';exact⟨.int_str i t0 k t,.int_str i t0 k t⟩
  |_=>cases f'
 |str i=>
  obtain⟨t0,rfl⟩:=r;cases y with
  |non=>cases r';exact⟨.str_none i t0,.str_none i t0⟩
  |bl k=>cases r';exact⟨.str_bool i t0 k,.str_bool i t0 k⟩
  |int k=>obtain⟨t,rfl⟩:=r';exact⟨.str_int i t0 k t,.str_int i t0 k t⟩
  |str k=>obtain⟨t,rfl⟩:=r';exact⟨.str_str i t0 k t,.str_str i t0 k t⟩
  |_=>cases f'
 |_=>cases f
end kinds
end PL
namespace SetL
open PySem
noncomputable def Ri(xs:Array Nat):Prop:=xs.toList.Pairwise (· < ·)
theorem Ri.lt(h:Ri xs)(aI:i<j)(hj:j<xs.size):xs.getD i 0<xs.getD j 0:=by have:=List.pairwise_iff_getElem.mp h i j (by rw[Array.length_toList];lia) (by grind) aI;simpa [hj,show i<xs.size by lia] using this
theorem qqn(h:Ri xs): ∀(fuel lo hi:Nat),lo<=hi->hi<=xs.size->hi - lo<=fuel->(∀i,i<lo->xs.getD i 0<j)->(∀i,hi<=i->i<xs.size->j<=xs.getD i 0)->
  SetTable.below.go xs j fuel lo hi<=xs.size/\(∀i,i<SetTable.below.go xs j fuel lo hi->xs.getD i 0<j)/\∀i,SetTable.below.go xs j fuel lo hi<=i->i<xs.size->j<=xs.getD i 0
 |0,lo,hi,h1,h2,h3,a,b=>by unfold SetTable.below.go;exact⟨by lia,a,λi aV=>b i (by lia)⟩
 |fuel+1,lo,hi,h1,h2,h3,a,b=>by
  unfold SetTable.below.go;by_cases c:lo<hi
  ·rw[if_pos c];dsimp only;have hm:(lo+hi) / 2<xs.size:=by lia
   have em:xs.getD ((lo+hi) / 2) j=xs.getD ((lo+hi) / 2) 0:=by simp[Array.getD,hm]
   rw[em];by_cases d:xs.getD ((lo+hi) / 2) 0<j
   ·rw[if_pos d];refine qqn h fuel _ _ (by lia) h2 (by lia) (λi aV=> ?_) b;by_cases e:i=(lo+hi) / 2
    ·rw[e];exact d
    ·have:=h.lt (i:=i) (j:=(lo+hi) / 2) (by lia) hm;lia
   ·rw[if_neg d];refine qqn h fuel _ _ (by lia) (by lia) (by lia) a λi aV hs=> ?_;by_cases e:i=(lo+hi) / 2
    ·rw[e];lia
    ·have:=h.lt (i:=(lo+hi) / 2) (j:=i) (by lia) hs;lia
  ·rw[if_neg c];exact⟨by lia,a,λi aV=>b i (by lia)⟩
theorem qew(h:Ri xs)(j:Nat):SetTable.below xs j<=xs.size/\(∀i,i<SetTable.below xs j->xs.getD i 0<j)/\∀i,SetTable.below xs j<=i->i<xs.size->j<=xs.getD i 0:=
 qqn h _ _ _ (Nat.zero_le _) (Vm _) (by lia) (λi hi=>absurd hi (Nat.not_lt_zero _)) λi hi hs=>absurd hs (by lia)
theorem qiO(h:Ri xs)(hi:i<xs.size):SetTable.below xs (xs.getD i 0+1)=i+1:=by
 obtain⟨b1,b2,b3⟩:=qew h (xs.getD i 0+1)
 rcases Nat.lt_trichotomy (SetTable.below xs (xs.getD i 0+1)) (i+1) with c|c|c
 ·have:=b3 i (by lia) hi;lia
 ·exact c
 ·have:=b2 (i+1) c;have:=h.lt (i:=i) (j:=i+1) (by lia) (by lia);lia
theorem qiN(h:Ri xs):SetTable.below xs 0=0:=by
 obtain⟨b1,b2,b3⟩:=qew h 0;by_cases c:SetTable.below xs 0=0
 ·exact c
 ·have:=b2 0 (by lia);lia
theorem qgb{α:Type}(xs:Array α)(p:Nat)(x:α)(hp:p<=xs.size):(SetTable.insertAt xs p x).toList=xs.toList.take p++x::xs.toList.drop p:=by unfold SetTable.insertAt;simp[List.extract_eq_drop_take];exact List.take_of_length_le (by simp)
theorem qkq(h:Ri xs)(hn:xs[SetTable.below xs j]? ≠some j):Ri (SetTable.insertAt xs (SetTable.below xs j) j):=by
 obtain⟨b1,b2,b3⟩:=qew h j;unfold Ri;rw[qgb _ _ _ b1];have g: ∀{i:Nat}(hi:i<xs.toList.length),xs.toList[i]=xs.getD i 0:=λ{i} hi=>by
  have:i<xs.size:=by rw[Array.length_toList] at hi;exact hi
  simp[Array.getD,this]
 have gt: ∀i,SetTable.below xs j<=i->i<xs.size->j<xs.getD i 0:=λi h1 h2=>by
  have e0:=b3 i h1 h2;by_cases c:i=SetTable.below xs j
  ·have:xs[SetTable.below xs j]? =some (xs.getD (SetTable.below xs j) 0):=by
    have hs:SetTable.below xs j<xs.size:=by lia
    simp[Array.getD,hs]
   rw[this] at hn;subst c;have:xs.getD (SetTable.below xs j) 0≠j:=λz=>hn (by rw[z]);lia
  ·have e1:=b3 (SetTable.below xs j) (Vm _) (by lia);have:=h.lt (i:=SetTable.below xs j) (j:=i) (by lia) h2;lia
 refine List.pairwise_append.mpr ⟨List.Pairwise.sublist (List.take_sublist _ _) h,List.pairwise_cons.mpr ⟨λy hy=> ?_,List.Pairwise.sublist (List.drop_sublist _ _) h⟩,λx hx y hy=> ?_⟩
 ·obtain⟨k,hk,rfl⟩:=List.mem_iff_getElem.mp hy;rw[List.getElem_drop,g];rw[List.length_drop,Array.length_toList] at hk;exact gt _ (by lia) (by lia)
 ·obtain⟨k,hk,rfl⟩:=List.mem_iff_getElem.mp hx;rw[List.getElem_take,g];rw[List.length_take] at hk;have a:=b2 k (by lia)
  rcases List.mem_cons.mp hy with z|z
  ·rw[z];exact a
  ·obtain⟨m,hm,rfl⟩:=List.mem_iff_getElem.mp z;rw[List.getElem_drop,g];rw[List.length_drop,Array.length_toList] at hm;have:=gt (SetTable.below xs j+m) (by lia) (by lia);lia
theorem ql8(n:Nat):Ri (Array.range n):=by unfold Ri;rw[Array.toList_range];exact List.pairwise_lt_range
noncomputable def qdo(t:SetTable):Prop:=Ri t.place/\t.dummies= #[]
theorem qih(a b:Nat)(l:Bool):qdo (.fresh a b l):=⟨List.Pairwise.nil,rfl⟩
theorem qbp(t:SetTable)(n:Nat):qdo (t.standIn n):=⟨ql8 n,rfl⟩
theorem qig(h:qdo t)(b:Bool):qdo { t with plain:=b }:=h
theorem qkv(j:Nat):SetTable.has #[] j=false:=rfl
theorem qjr(h:qdo t)(j:Nat):t.slot j≠.dummy:=by
 unfold SetTable.slot;dsimp only;rw[h.2,qkv];split
 ·intro z;cases z
 simp
theorem qhe(h:qdo t)(ha:Nat->Int)(x:Int): ∀(fuel:Nat)(p:SetTable.Probe)(j:Nat)(d:Option Nat),p.dummy=none->SetTable.probe.go t ha x fuel p=some (.empty j d)->d=none/\t.slot j= .empty
 |0,p,j,d,hp,e=>by cases e
 |fuel+1,p,j,d,hp,e=>by
  have adv:(t.advance p).dummy=none:=by
   unfold SetTable.advance
   grind
  unfold SetTable.probe.go at e;split at e
  ·grind
  ·rename_i es;exact absurd es (qjr h _)
  ·split at e
   ·cases e
   ·exact qhe h ha x _ _ j d adv e
theorem qh5{t:SetTable}{j:Nat}(h:t.slot j= .empty):t.place[SetTable.below t.place j]? ≠some j:=by
 unfold SetTable.slot at h
 grind
theorem qmB{t:SetTable}(h:qdo t){j:Nat}(hj:t.slot j= .empty):qdo (t.put j).1:=by unfold SetTable.put;refine⟨qkq h.1 (qh5 hj),?_⟩;rw[h.2,qkv,if_neg (by decide)]
theorem qe3(h:qdo t)(n:Nat):qdo (t.orStandIn n):=by
 unfold SetTable.orStandIn;split
 ·exact h
 ·exact qbp _ _
theorem qmI(h:qdo t)(es:Array (Int×Value))(x:Int)(v:Value):qdo (layNew t es x v).2.1:=by
 unfold layNew;split
 ·rename_i slot wd e;unfold SetTable.freeSlot at e;split at e
  ·rename_i j d e2;obtain⟨rfl,e3⟩:=qhe h _ _ _ _ j d rfl e2;cases e;exact qe3 (qmB h e3) _
  ·cases e
 ·exact qbp _ _
theorem qht(ow:Array (Option Nat)): ∀l:List Nat,l.Pairwise (· < ·)->((l.filterMap λj=>(ow.getD j none).map (j, ·)).map (·.1)).Pairwise (· < ·)/\∀x∈((l.filterMap λj=>(ow.getD j none).map (j, ·)).map (·.1)),x∈l
 |[],_=>⟨List.Pairwise.nil,λ_ h=>by cases h⟩
 |y::l,h=>by
  have h':=List.pairwise_cons.mp h;obtain⟨i1,i2⟩:=qht ow l h'.2;cases e:ow.getD y none with
  |none=>rw[List.filterMap_cons,e];exact⟨i1,λx hx=>Vl _ (i2 x hx)⟩
  |some k=>
   rw[List.filterMap_cons,e];dsimp only[Option.map];rw[List.map_cons];refine⟨List.pairwise_cons.mpr ⟨λx hx=>h'.1 x (i2 x hx),i1⟩,λx hx=> ?_⟩
   rcases List.mem_cons.mp hx with z|z
   ·rw[z];exact Vk
   ·exact Vl _ (i2 x z)
theorem qfV{t:SetTable}{n:Nat}(e:t.relaid hs n=some (t',o)):qdo t':=by
 unfold SetTable.relaid SetTable.laid at e;cases q:SetTable.layClean _ hs with
 |none=>rw[q] at e;cases e
 |some ow=>rw[q] at e;have e':=Option.some.inj e;have e1:=(Prod.mk.inj e').1;subst e1;exact⟨(qht ow _ List.pairwise_lt_range).1,rfl⟩
theorem qh9(t:SetTable)(es:Array (Int×Value))(n:Nat):qdo (relayAll t es n).2.1:=by
 unfold relayAll;split
 ·rename_i t' o e;dsimp only;split
  ·exact qfV e
  ·exact qbp _ _
 ·exact qbp _ _
theorem qf4{t:SetTable}{n:Nat}:(t.orStandIn n).led=t.led:=by
 unfold SetTable.orStandIn
 split<;>rfl
theorem qqa{t:SetTable}{h:Int}:(layNew t es h x).2.1.led=t.led:=by
 unfold layNew;split
 ·exact qf4
 ·rfl
theorem qia{t t':SetTable}{n:Nat}(e:t.relaid hs n=some (t',o)):t'.led=t.led:=by
 unfold SetTable.relaid SetTable.laid at e;cases q:SetTable.layClean _ hs with
 |none=>rw[q] at e;cases e
 |some ow=>rw[q] at e;have e':=Option.some.inj e;exact(congrArg (λp=>p.1.led) e').symm
theorem qjv{t:SetTable}{n:Nat}:(relayAll t es n).2.1.led=t.led:=by
 unfold relayAll;split
 ·rename_i t' o e;dsimp only;split
  ·exact qia e
  ·rfl
 ·rfl
section
variable{prog:Program}{w:World}{K:Type}[DecidableEq K](knd:KeyKind prog w K)
noncomputable def qiQ(h:Heap)(a:Addr)(S:K->Bool)(n:Nat):Prop:=
 ∃o es ep t,h.get? a=some o/\o.ExactSet/\o.data= .set es ep t/\ElemsOf knd es.toList/\(∀k,S k=true↔∃e∈es.toList,knd.is k e.2=true)/\es.size<scanBound/\t.fits es.size=true/\es.size=n/\qdo t/\t.led= !w.params.followText "set-order"
variable {knd}{A:Around}{E:Value->Shared->Prop}{s:Shared}
theorem qiQ.keep{h h':Heap}{a:Addr}{S:K->Bool}{n:Nat}(x:qiQ knd h a S n)(k: ∀o,h.get? a=some o->h'.get? a=some o):qiQ knd h' a S n:=
 let ⟨o,es,ep,t,ho,r⟩:=x
 ⟨o,es,ep,t,k _ ho,r⟩
theorem qkz(b:Bool)(hq:Q' () ae):wpAny (model prog w) A (match b with|true=>rule "set.scan.the-table-gave-way" | false=>pure ()) Q' E ae:=by
 cases b with
 |true=>exact wpAny_rule hq
 |false=>exact Vb hq
theorem qjl{a:Addr}{o:Obj}{es bj:Array (Int×Value)}{ep:Nat}{t t':SetTable}{S':K->Bool}{Q:Unit->Shared->Prop}(ho:s.heap.get? a=some o)(hx:o.ExactSet)(hd:o.data= .set es ep t)(el:ElemsOf knd bj.toList)(me: ∀k,S' k=true↔∃e∈bj.toList,knd.is k e.2=true)(hb:bj.size<scanBound)(hf:t'.fits bj.size=true)(hp:qdo t')(hl:t'.led= !w.params.followText "set-order")(h: ∀h',Heap.SameBut a s.heap h'->h'.get? a=some { o with data:=.set bj (ep+1) t' }->qiQ knd h' a S' bj.size->Q () { s with heap:=h' }):wpAny (model prog w) A (storeSet a bj t') Q E s:=by refine wpAny_storeSet_of ho hd ?_ (fits_of_scanBound hb);obtain⟨g,_⟩:=SetOf_store ho hx hd el me hb hf;exact h _ (Heap.SameBut.update _ a _) g ⟨_,bj,ep+1,t',g,hx,rfl,el,me,hb,hf,rfl,hp,hl⟩
theorem qxi{a:Addr}{S:K->Bool}{n:Nat}{k:K}{x:Value}{Q:Bool->Shared->Prop}(hk:knd.is k x=true)(cj:x.scannable=true)(hS:qiQ knd s.heap a S n)(room:n+1<scanBound)(h: ∀h',Heap.SameBut a s.heap h'->qiQ knd h' a (λk'=>S k'||decide (k'=k)) (if S k then n else n+1)->Q (!S k) { s with heap:=h' }):wpAny (model prog w) A (setAddHashed a x (knd.hash k)) Q E s:=by
 obtain⟨o,es,ep,t,ho,hx,hd,el,me,hb,hf,hn,pl,ld⟩:=hS;unfold setAddHashed setAddHashedIn;refine wpAny_holding (Va (wpAny_setState_of ho hd hf ?_));dsimp only;rw[byScan_of cj hb el,if_pos rfl];unfold setAddByScan;refine Va (Va (wpAny_rule (Va (wpAny_setScan_of hk ho hd hf el ?_))));cases fr:List.findIdx? (λe=>knd.is k e.2) es.toList with
 |some j=>
  obtain⟨hj,pj,_⟩:=List.findIdx?_eq_some_iff_getElem.mp fr;have Sk:S k=true:=(me k).mpr ⟨_,List.getElem_mem hj,pj⟩;refine Vb (Vb ?_);have z:=h s.heap (Heap.SameBut.refl a s.heap) ⟨o,es,ep,t,ho,hx,hd,el,λk'=> ?_,hb,hf,by rw[if_pos Sk];exact hn,pl,ld⟩
  ·rw[Sk] at z;exact z
  ·rw[Bool.or_eq_true,decide_eq_true_eq,<-me k'];exact⟨λq=>q.elim id λe=>by rw[e];exact Sk,.inl⟩
 |none=>
  have Sk:S k=false:=by
   cases q:S k with
   |false=>rfl
   |true=>obtain⟨e,he,p⟩:=(me k).mp q;rw[List.findIdx?_eq_none_iff.mp fr e he] at p;cases p
  have pm:=layNew_perm t es (knd.hash k) x;have ft:=layNew_fits t es (knd.hash k) x;have lp:=qmI pl es (knd.hash k) x;have ll:=qqa (es:=es) (h:=knd.hash k) (x:=x) (t:=t);generalize layNew t es (knd.hash k) x=L at pm ft lp ll⊢;obtain⟨ay,t1,wd,gv⟩:=L;dsimp only at pm ft lp ll⊢;rw[Array.toList_push] at pm;have jx:ElemsOf knd ay.toList:=(el.push hk cj).perm pm;have iZ:=mem_push_iff (S:=S) hk me pm;have sz:ay.size=n+1:=by rw[<-Array.length_toList,pm.length_eq,List.length_append,Array.length_toList,hn];rfl
  refine Va (qkz _ ?_)
  have go: ∀t2:SetTable,t2.fits ay.size=true->qdo t2->t2.led=(!w.params.followText "set-order")->wpAny (model prog w) A (do
    storeSet a ay t2
    if(!wd&&t2.tooFull)=true then do
     (match(relayAll t2 ay (SetTable.grown ay.size)).2.2 with|true=>rule "set.scan.the-table-gave-way" | false=>pure ())
     storeSet a (relayAll t2 ay (SetTable.grown ay.size)).1 (relayAll t2 ay (SetTable.grown ay.size)).2.1
     pure (some true)
    else pure (some true):Sem (Option Bool)) (λr s'=> ∃h',s'={ s with heap:=h' }/\r=some true/\Q true { s with heap:=h' }) E s:=λt2 f2 p2 l2=>by
   refine Va (qjl (knd:=knd) (S':=λk'=>S k'||decide (k'=k)) ho hx hd jx iZ (by lia) f2 p2 l2 λh1 sb g1 S1=> ?_);split
   ·have cz:=relayAll_perm t2 ay (SetTable.grown ay.size);have iI:=relayAll_fits t2 ay (SetTable.grown ay.size);have rp:=qh9 t2 ay (SetTable.grown ay.size);have rl:=qjv (es:=ay) (n:=SetTable.grown ay.size) (t:=t2);generalize relayAll t2 ay (SetTable.grown ay.size)=R at cz iI rp rl⊢;obtain⟨es2,t3,g2⟩:=R;dsimp only at cz iI rp rl⊢;have sz2:es2.size=ay.size:=by rw[<-Array.length_toList,cz.length_eq,Array.length_toList]
    refine Va (qkz _ (Va (qjl (knd:=knd) (S':=λk'=>S k'||decide (k'=k)) (s:={ s with heap:=h1 }) g1 hx rfl (jx.perm cz) (λk'=>(iZ k').trans ⟨λ⟨e,he,q⟩=>⟨e,cz.mem_iff.mpr he,q⟩,λ⟨e,he,q⟩=>⟨e,cz.mem_iff.mp he,q⟩⟩) (by lia) iI rp (rl.trans l2) λh2 sb2 _ S2=> ?_)));have z:=h h2 (sb.trans sb2) (by rw[Sk,if_neg (by decide)];rw[sz2,sz] at S2;exact S2);rw[Sk] at z;exact Vb ⟨h2,rfl,rfl,z⟩
   ·have z:=h h1 sb (by rw[Sk,if_neg (by decide)];rw[sz] at S1;exact S1);rw[Sk] at z;exact Vb ⟨h1,rfl,rfl,z⟩
  have both: ∀c:Bool,wpAny (model prog w) A (do
    let t2:SetTable:=if c=true then t1 else{ t1 with plain:=false }
    storeSet a ay t2
    if(!wd&&t2.tooFull)=true then do
     (match(relayAll t2 ay (SetTable.grown ay.size)).2.2 with|true=>rule "set.scan.the-table-gave-way" | false=>pure ())
     storeSet a (relayAll t2 ay (SetTable.grown ay.size)).1 (relayAll t2 ay (SetTable.grown ay.size)).2.1
     pure (some true)
    else pure (some true):Sem (Option Bool)) (λr s'=> ∃h',s'={ s with heap:=h' }/\r=some true/\Q true { s with heap:=h' }) E s:=λc=>by
   cases c with
   |true=>exact go t1 ft lp (ll.trans ld)
   |false=>exact go { t1 with plain:=false } (SetTable.fits_plain_off ft) (qig lp false) (ll.trans ld)
  by_cases tp:t1.plain=true
  ·rw[if_pos tp,hashByValue_scannable 8 cj];refine Va (Vb ?_);refine Vc (both (plainKind x)) (λr s' z0=> ?_) λ_ _ z=>z;obtain ⟨h',e1,e2,q⟩:=z0;subst e1 e2;exact Vb q
  ·rw[if_neg tp];refine Va (Vb ?_);refine Vc (both true) (λr s' z0=> ?_) λ_ _ z=>z;obtain ⟨h',e1,e2,q⟩:=z0;subst e1 e2;exact Vb q
end
theorem qk8(hn:n≠0)(h: ∀i d,i<n->Q i { s with drawn:=d }):wpAny M A (choose src n) Q E s:=
 λΓ p hΓ=>⟨hn,h _ _ (Nat.mod_lt _ (Nat.pos_of_ne_zero hn))⟩
theorem qb3{α:Type}: ∀{xs:List α}{i:Nat}{x:α},xs[i]? =some x->List.Perm (x::xs.eraseIdx i) xs
 |[],i,x,h=>by simp at h
 |y::ys,0,x,h=>by
  simp_all
 |y::ys,i+1,x,h=>by have:=qb3 (by simpa using h);exact(List.Perm.swap y x _).trans (this.cons y)
theorem qkT{α:Type}: ∀(n:Nat)(xs:List α)(s:Shared)(Q:List α->Shared->Prop),xs.length=n->(∀ys d,List.Perm ys xs->Q ys { s with drawn:=d })->wpAny M A (drawOrder n xs) Q E s
 |0,xs,s,Q,hl,h=>by have e:=List.length_eq_zero_iff.mp hl;subst e;exact Vb (h [] _ (List.Perm.refl _))
 |n+1,[],s,Q,hl,h=>by cases hl
 |n+1,x::xs,s,Q,hl,h=>by
  refine Va (qk8 (by simp) λi d hi=> ?_);obtain⟨y,hy⟩: ∃y,(x::xs)[i]? =some y:=⟨_,Vy hi⟩
  rw[hy];have hp:=qb3 hy;refine Va (qkT n _ _ _ ?_ λys d' pm=>Vb (h _ d' ((pm.cons y).trans hp)));have:=hp.length_eq
  grind
theorem qeY{α:Type}(next:Nat->Nat): ∀(fuel k:Nat)(left:List α)(out:Array α),left.length=fuel->List.Perm (pickOrder.go next fuel k left out).toList (out.toList++left)
 |0,k,left,out,h=>by have e:=List.length_eq_zero_iff.mp h;subst e;simp[pickOrder.go]
 |n+1,k,left,out,h=>by
  unfold pickOrder.go;have au:next k % left.length<left.length:=Nat.mod_lt _ (by lia)
  rw[List.getElem?_eq_getElem au];have hp:=qb3 (Vy au);have hl:=hp.length_eq;simp only[List.length_cons] at hl;refine(qeY _ n _ _ _ (by lia)).trans ?_;rw[Array.toList_push,List.append_assoc];exact List.Perm.append_left _ hp
theorem qdj{α:Type}(next:Nat->Nat)(xs:Array α):List.Perm (pickOrder next xs).toList xs.toList:=by
 unfold pickOrder;have:=qeY next xs.size 0 xs.toList #[] (by simp)
 simpa using this
noncomputable def qga(first:Value)(i:Nat)(a:Addr)(n ep:Nat):Obj:={ cls:=.type "set_iterator",data:=.fields #[first,rawInt i,.ref a,rawInt n,rawInt ep] }
inductive Way(w:World)(h:Heap)(a:Addr)(es:Array (Int×Value))(ep:Nat)(t:SetTable):List Addr->(Nat->Value)->List Value->Prop
 |drawn {tp:Addr} {ot:Obj} {pl:List Nat} {k:Nat}:h.get? tp=some ot->ot.data= .seq (List.toArray (pl.map λ(i:Nat)=>rawInt i)) k->(∀i∈pl,i<es.size)->Way w h a es ep t [tp] (λ_=>.ref tp) (pl.map λi=>(es.toList.map (·.2)).getD i .none)
 |text:w.params.followText "set-order" =true->Way w h a es ep t [] (λ_=>rawInt 0) ((pickOrder (w.params.setOrder a ep) es).toList.map (·.2))
 |small:w.params.followText "set-order" =false->(!t.plain&&decide (es.size>1))=false->t.led=true->qdo t->Way w h a es ep t [] (λi=>if i=0 then rawInt 0 else rawInt (t.place.getD (i - 1) 0+1:Nat)) (es.toList.map (·.2))
theorem Way.keep(x:Way w h a es ep t tl f vs)(k: ∀b∈tl,∀o,h.get? b=some o->h'.get? b=some o):Way w h' a es ep t tl f vs:=by
 cases x with
 |drawn e d b=>exact .drawn (k _ (List.mem_singleton.mpr rfl) _ e) d b
 |text e=>exact .text e
 |small e1 e2 e3 e4=>exact .small e1 e2 e3 e4
theorem qbO:Slot "set_iterator" "__next__" "set_iterator.__next__" :=
 .of (owner:= "set_iterator") (n:= "__next__") (by rw[typeLookup_type,builtinLookup_eq_fast];kernel_rfl) (by decide+kernel) (by decide+kernel)
  (by decide+kernel) (by first|exact .inl (by decide+kernel)|exact .inr (by decide+kernel)) (by rw[isSubtype_type];kernel_rfl)
theorem qeN:Slot "set_iterator" "__iter__" "set_iterator.__iter__" :=
 .of (owner:= "set_iterator") (n:= "__iter__") (by rw[typeLookup_type,builtinLookup_eq_fast];kernel_rfl) (by decide+kernel) (by decide+kernel)
  (by decide+kernel) (by first|exact .inl (by decide+kernel)|exact .inr (by decide+kernel)) (by rw[isSubtype_type];kernel_rfl)
theorem qiD:entryFor table "set_iterator.__next__" =some Builtin.«set_iterator.__next__» :=entryFor_of_fast (rfl)
theorem qek:entryFor table "set.__iter__" =some Builtin.«frozenset.__iter__» :=
 entryFor_alias (id':= "frozenset.__iter__") (by kernel_rfl) rfl (by decide+kernel) (by kernel_rfl)
theorem qlv(a:Value):argsOk "set_iterator.__next__" ⟨[a],[]⟩:=by unfold argsOk;kernel_rfl
section
theorem qfQ(h:Q (w.params.followText "set-order") s):wpAny (model prog w) A setsByText Q E s:=by exact Va (wpAny_askSetting (Vb h))
theorem qiE(ho:s.heap.get? a=some o)(hd:o.data= .set es ep t)(hf:t.fits es.size=true)(h:Q es.size s):wpAny (model prog w) A (Builtin.Frozenset.sizeOf a) Q E s:=by exact Va (wpAny_setEntries_of ho hd hf (Vb h))
theorem qnd(ho:s.heap.get? a=some o)(hd:o.data= .set es ep t)(hf:t.fits es.size=true)(h:Q (!w.params.followText "set-order" &&(!t.plain&&decide (es.size>1))) s):wpAny (model prog w) A (setDrawn a) Q E s:=by exact Va (wpAny_setState_of ho hd hf (Va (qfQ (Vb h))))
theorem qmO(ho:s.heap.get? a=some o)(hx:o.ExactSet)(hd:o.data= .set es ep t)(hf:t.fits es.size=true)(hb:es.size<scanBound)(pl:qdo t)(ld:t.led= !w.params.followText "set-order")(h: ∀(it:Addr)(h':Heap)(d:Drawn)(tl:List Addr)(f:Nat->Value)(vs:List Value),s.heap.objs.size<=it->(∀b∈tl,s.heap.objs.size<=b/\b≠it)->(∀b u,s.heap.get? b=some u->h'.get? b=some u)->h'.get? it=some (qga (f 0) 0 a es.size ep)->Way w h' a es ep t tl f vs->List.Perm vs (es.toList.map (·.2))->
   Q (.ref it) { s with heap:=h',drawn:=d }):wpAny (model prog w) A (pyIter (.ref a)) Q E s:=by
 have ty:s.TypeIs (.ref a) "set" :=⟨o,ho,hx.1⟩
 refine wpAny_pyIter_slot ty F.slot_set_iter (wpAny_call_entry F.slot_set_iter ty qek ?_ (F.args_set_iter_1 _));unfold Builtin.«frozenset.__iter__» Builtin.Frozenset.slot0 slotArgs;refine Va (Vb (Va (qiE ho hd hf ?_)));refine Va (qnd ho hd hf ?_)
 have fin: ∀(s1:Shared)(first:Value)(tl:List Addr)(f:Nat->Value)(vs:List Value),s1.gens=s.gens->s1.os=s.os->s1.toks=s.toks->s.heap.objs.size<=s1.heap.objs.size->(∀b u,s.heap.get? b=some u->s1.heap.get? b=some u)->(∀b∈tl,s.heap.objs.size<=b/\b<s1.heap.objs.size)->f 0=first->(∀h',(∀b u,s1.heap.get? b=some u->h'.get? b=some u)->Way w h' a es ep t tl f vs)->List.Perm vs (es.toList.map (·.2))->
   wpAny (model prog w) A.in1 (do ret (<-newFields "set_iterator" [first,rawInt 0,.ref a,rawInt (es.size:Nat),rawInt (<-setEpoch a)])) (λr s'=> ∃v,r= .done (.ret v)/\∃(T':String)(r':Value),s'.TypeIs v T'/\typeLookup (.type T') "__next__" =pure (some r')/\Q v s') E s1:=λs1 first tl f vs e1 e2 e3 sz kp tb ef wy pm=>by refine Va (wpAny_setEpoch_of (kp _ _ ho) hd hf ?_);refine Va (wpAny_newObj_type ?_ (by size_fits));refine Vb ⟨_,rfl, "set_iterator",_,⟨_,Vh _ rfl,rfl⟩,qbO.lookup,?_⟩;have bJ: ∀b u,s1.heap.get? b=some u->(s1.heap.push (qga first 0 a es.size ep)).get? b=some u:=λb u q=>Vg _ q;have:=h s1.heap.objs.size (s1.heap.push (qga first 0 a es.size ep)) s1.drawn tl f vs sz (λb hb=>⟨(tb b hb).1,Vo (tb b hb).2⟩) (λb u q=>bJ b u (kp b u q)) (by rw[ef];exact Vh _ rfl) (wy _ bJ) pm;obtain⟨hh,g,d,tk,os⟩:=s1;dsimp only at e1 e2 e3 this⊢;subst e1 e2 e3;exact this
 have dD: ∀{α:Type}(d:α)(l:List α),(List.range l.length).map (λi=>l.getD i d)=l:=λd l=>by
  apply List.ext_getElem
  ·simp
  ·intro i h1 h2;simp[List.getElem?_eq_getElem h2]
 cases bt:w.params.followText "set-order" with
 |true=>rw[if_neg (by simp)];refine Va (Vb ?_);refine fin s (rawInt 0) [] (λ_=>rawInt 0) _ rfl rfl rfl (Vm _) (λ_ _ q=>q) (λb hb=>nomatch hb) rfl (λh' _=>.text bt) ?_;exact(qdj _ _).map _
 |false=>
  by_cases h1:(!t.plain&&decide (es.size>1))=true
  ·rw[if_pos (by rw[h1];rfl)];refine Va (qkT es.size (List.range es.size) s _ (by simp) λys d pm=> ?_);refine Va (wpAny_newObj_type ?_ (by
    have:=pm.length_eq;have h2:scanBound=4096:=rfl;show(List.toArray (ys.map λ(i:Nat)=>rawInt i)).size<=sizeLine;rw[List.size_toArray,List.length_map,this,List.length_range,sizeLine_eq]
    lia))
   refine fin _ (.ref s.heap.objs.size) [s.heap.objs.size] (λ_=>.ref s.heap.objs.size) (ys.map λi=>(es.toList.map (·.2)).getD i .none) rfl rfl rfl (by show _<=(s.heap.push _).objs.size;rw[Heap.size_push];exact Wa _) (λb u q=>Vg _ q) (λb hb=> ?_) rfl (λh' kp=> ?_) ?_
   ·rw[List.mem_singleton.mp hb];refine⟨Vm _,?_⟩;show _<(s.heap.push _).objs.size;rw[Heap.size_push];exact Vz _
   ·refine .drawn (kp _ _ (Vh _ rfl)) rfl λi hi=> ?_;have:=pm.mem_iff.mp hi;simpa using this
   ·have q:=pm.map λi=>(es.toList.map (·.2)).getD i Value.none;have e:es.size=(es.toList.map (·.2)).length:=by simp
    rw[e,dD] at q;exact q
  ·have bx:(!t.plain&&decide (es.size>1))=false:=by simpa using h1
   rw[if_neg (by rw[bx];decide)];refine Va (Vb ?_);exact fin s (rawInt 0) [] _ _ rfl rfl rfl (Vm _) (λ_ _ q=>q) (λb hb=>nomatch hb) (if_pos rfl) (λh' _=>.small bt bx (by rw[ld,bt];rfl) pl) (List.Perm.refl _)
end
section
theorem qp0(ho:s.heap.get? a=some o)(hd:o.data= .set es ep t)(hf:t.fits es.size=true)(W:Way w s.heap a es ep t tl f vs)(hs:f i=rawInt (slot:Nat))(hi:i<=vs.length)(h:Q (vs[i]?.map λv=>(v,if w.params.followText "set-order" =true then slot else t.place.getD i 0+1)) s):wpAny (model prog w) A (setNext a slot i ep) Q E s:=by
 unfold setNext;refine Va (wpAny_setState_of ho hd hf ?_);dsimp only;refine Va (qfQ ?_);cases W with
 |drawn _ _ _=>cases hs
 |text e=>
  rw[if_pos e,if_neg (by simp)];refine Va ?_;unfold setWalk;refine Va (wpAny_setState_of ho hd hf ?_);dsimp only;refine Va (qfQ ?_);rw[if_pos e];refine Va (wpAny_askSetting (Vb (Vb ?_)));have e2:(if w.params.followText "set-order" =true then slot else t.place.getD i 0+1)=slot:=if_pos e;rw[e2] at h;have e3:((pickOrder (w.params.setOrder a ep) es).toList.map (·.2))[i]?.map (λv=>(v,slot))=((pickOrder (w.params.setOrder a ep) es)[i]?).map λe=>(e.2,slot):=by rw[List.getElem?_map,Array.getElem?_toList,Option.map_map];rfl
  rw[e3] at h;exact h
 |small e ndr hl ip=>
  rw[e,if_neg (by decide)];split
  ·rename_i z;have z':(!t.plain&&decide (es.size>1))=true:=z;rw[ndr] at z';cases z'
  have led:(!t.led&& !es.isEmpty)=false:=by rw[hl];rfl
  refine Va ?_;show wpAny _ _ (if(!t.led&& !es.isEmpty)=true then _ else _) _ _ _;rw[if_neg (by rw[led];decide)];refine Vb (Vb ?_);have e2:(if w.params.followText "set-order" =true then slot else t.place.getD i 0+1)=t.place.getD i 0+1:=if_neg (by rw[e];decide);rw[e2] at h;have psz:t.place.size=es.size:=by have:=hf;simp only[SetTable.fits,Bool.and_eq_true,beq_iff_eq] at this;exact this.1
  have aV:i<=es.size:=by simpa using hi
  have eb:SetTable.below t.place slot=i:=by
   cases i with
   |zero=>
    have:slot=0:=by
     have br:rawInt 0=rawInt (slot:Nat):=by simpa using hs
     unfold rawInt at br;injection br with q _
     lia
    rw[this];exact qiN ip.1
   |succ i=>
    have:slot=t.place.getD i 0+1:=by
     have br:rawInt ((t.place.getD i 0+1:Nat):Int)=rawInt (slot:Nat):=by simpa using hs
     unfold rawInt at br;injection br with q _
     lia
    rw[this];exact qiO ip.1 (by lia)
  have e3:((es.toList.map (·.2))[i]?.map λv=>(v,t.place.getD i 0+1))=(es[i]?).map λe=>(e.2,t.place.getD i 0+1):=by rw[List.getElem?_map,Array.getElem?_toList,Option.map_map];rfl
  rw[e3] at h;rw[eb];by_cases c:i<es.size
  ·have c1:es[i]? =some es[i]:=by simp[c]
   have c2:t.place[i]? =some (t.place.getD i 0):=by simp[Array.getD,psz,c]
   rw[c1] at h⊢;rw[c2];exact h
  ·have c1:es[i]? =none:=by simp;lia
   rw[c1] at h⊢;exact h
theorem qpa(hh:A.handled=none)(h: ∀h',(∀b u,s.heap.get? b=some u->h'.get? b=some u)->Q none { s with heap:=h' }):
  wpAny (model prog w) A.in1 (do raiseNew (<-newExc (.type "StopIteration") []):Sem Fin) (λr s'=> ∃v,r=Fin.done (.ret v)/\Q (some v) s') (λe s'=>wpAny (model prog w) A (do if <-isInstance e (.type "StopIteration") then pure none else throw e) Q E s') s:=by refine Va ?_;simp only[newExc,newTuple];refine Va (wpAny_newObj_type ?_ (by size_fits));refine Va (m:=firstArgMember _ _) (wpAny_of_eq (a:=Value.none) (by first|rfl|(simp only[firstArgMember];rfl)) ?_);refine wpAny_newObj_type ?_ (by size_fits);simp only[raiseNew];refine Va (wpAny_handled ?_);rw[show A.in1.handled=none from hh];refine Va (Vb (wpAny_throw ?_));refine Va (wpAny_isInstance (T:= "StopIteration") (b:=true) ⟨_,Vh _ rfl,rfl⟩ isSubtype_stop ?_);exact Vb (h _ λb u q=>Vg _ (Vg _ q))
theorem qhA{i n:Nat}{j:Nat}{h:Heap}(ho:h.get? it=some (qga first i a n ep)):(h.update it (Obj.mapFields (·.setIfInBounds j x))).get? it=some { cls:=.type "set_iterator",data:=.fields (#[first,rawInt i,.ref a,rawInt n,rawInt ep].setIfInBounds j x) }:=
 Heap.get?_update_self _ ho rfl
theorem turn{A:Around}{s:Shared}{o:Obj}{es:Array (Int×Value)}{t:SetTable}{vs:List Value}{i:Nat}(hh:A.handled=none)(aN:a≠it)(cY:it∉tl)(hit:s.heap.get? it=some (qga (f i) i a es.size ep))(ho:s.heap.get? a=some o)(hd:o.data= .set es ep t)(hf:t.fits es.size=true)(W:Way w s.heap a es ep t tl f vs)(hv:vs.length=es.size)(hi:i<=vs.length)(h1: ∀v h',vs[i]? =some v->Heap.SameBut it s.heap h'->h'.get? it=some (qga (f (i+1)) (i+1) a es.size ep)->Q (some v) { s with heap:=h' })(h0: ∀h',vs[i]? =none->(∀b u,b≠it->s.heap.get? b=some u->h'.get? b=some u)->Q none { s with heap:=h' }):wpAny (model prog w) A (pyNext (.ref it)) Q E s:=by
 have ty:s.TypeIs (.ref it) "set_iterator" :=⟨_,hit,rfl⟩
 unfold pyNext;refine Va (wpAny_attempt (wpAny_callSpecial?_slot (name:=Str.ofString "__next__") ty qbO (wpAny_call_entry qbO ty qiD ?_ (qlv _))));unfold Builtin.«set_iterator.__next__» slotArgs;refine Va (Vb (Va (wpAny_fieldsOf hit rfl ?_)));refine Va (wpAny_setEntries_of ho hd hf ?_);dsimp only;rw[if_neg (by simp)];have one: ∀(v:Value)(s2:Shared),Q (some v) s2->∃v',Fin.done (Flow.ret v)=Fin.done (Flow.ret v')/\wpAny (model prog w) A (match (Except.ok (some v'):Except Value (Option Value)) with
      |Except.ok (some v)=>pure (some v)
      |Except.ok none=>unsupported "iter:the-iterator's-class-has-lost-its-__next__-amid-the-walk"
      |Except.error e=>do
       let b <-isInstance e (Value.type "StopIteration")
       if b=true then pure none else throw e) Q E s2:=λv s2 q=>⟨v,rfl,Vb q⟩
 have stop: ∀s2:Shared,(∀h',(∀b u,s2.heap.get? b=some u->h'.get? b=some u)->Q none { s2 with heap:=h' })->wpAny (model prog w) A.in1 (do raiseNew (<-newExc (.type "StopIteration") []):Sem Fin) (λfin s'=> ∃v,fin=Fin.done (Flow.ret v)/\wpAny (model prog w) A (match (Except.ok (some v):Except Value (Option Value)) with
      |Except.ok (some v)=>pure (some v)
      |Except.ok none=>unsupported "iter:the-iterator's-class-has-lost-its-__next__-amid-the-walk"
      |Except.error e=>do
       let b <-isInstance e (Value.type "StopIteration")
       if b=true then pure none else throw e) Q E s') (λe s'=>wpAny (model prog w) A (do
       let b <-isInstance e (Value.type "StopIteration")
       if b=true then pure none else throw e) Q E s') s2:=λs2 q=>Vc (qpa (Q:=Q) (E:=E) hh q) (λr s' ⟨v,e,q'⟩=>⟨v,e,Vb q'⟩) λ_ _ z=>z
 have bV: ∀slot:Nat,f i=rawInt (slot:Nat)->(∀v,vs[i]? =some v->f (i+1)=rawInt ((if w.params.followText "set-order" =true then slot else t.place.getD i 0+1:Nat):Int))->
   wpAny (model prog w) A.in1 (do
    let r <-setNext a ((slot:Nat):Int).toNat ((i:Nat):Int).toNat ((ep:Nat):Int).toNat
    match r with
     |some (x,next)=>do
      setField (Value.ref it) 0 (rawInt (next:Nat))
      setField (Value.ref it) 1 (rawInt ((i:Nat)+1))
      ret x
     |none=>do
      setField (Value.ref it) 2 Value.none
      let e <-newExc (Value.type "StopIteration") []
      raiseNew e) (λfin s'=> ∃v,fin=Fin.done (Flow.ret v)/\wpAny (model prog w) A (match(Except.ok (some v):Except Value (Option Value)) with
      |Except.ok (some v)=>pure (some v)
      |Except.ok none=>unsupported "iter:the-iterator's-class-has-lost-its-__next__-amid-the-walk"
      |Except.error e=>do
       let b <-isInstance e (Value.type "StopIteration")
       if b=true then pure none else throw e) Q E s') (λe s'=>wpAny (model prog w) A (do
       let b <-isInstance e (Value.type "StopIteration")
       if b=true then pure none else throw e) Q E s') s:=λslot hs hnx=>by
  rw[Int.toNat_natCast,Int.toNat_natCast,Int.toNat_natCast];refine Va (qp0 (slot:=slot) ho hd hf W hs hi ?_);cases q:vs[i]? with
  |some v=>dsimp only[Option.map];refine Va (wpAny_setField (i:=0) hit rfl (by simp) ?_);refine Va (wpAny_setField (i:=1) (qhA hit) rfl (by simp) (Vb (one v _ (h1 v _ q ((Heap.SameBut.update ..).trans (Heap.SameBut.update ..)) ?_))));rw[hnx v q];exact Heap.get?_update_self _ (qhA hit) rfl
  |none=>dsimp only[Option.map];refine Va (wpAny_setField (i:=2) hit rfl (by simp) (stop _ λh' kp=>h0 h' q λb u hb e=>kp b u ?_));exact(Vj _ _ (Ne.symm hb)).trans e
 cases id W with
 |drawn et dt bd=>
  rename_i tp ot pl k;show wpAny _ _ (seqItems? (.ref tp)>>=_) _ _ _;refine Va (wpAny_seqItems et dt ?_);dsimp only;rw[Int.toNat_natCast];cases q:pl[i]? with
  |some j=>
   have e1:(List.toArray (pl.map λ(i:Nat)=>rawInt i))[i]? =some (rawInt (j:Nat)):=by simp[q]
   rw[e1];have hj:=bd j (Vt q);show wpAny _ _ (setNextDrawn a ((j:Nat):Int).toNat ((ep:Nat):Int).toNat>>=_) _ _ _;rw[Int.toNat_natCast,Int.toNat_natCast];have ej:es[j]? =some es[j]:=by simp[hj]
   refine Va ?_;unfold setNextDrawn;refine Va (wpAny_setState_of ho hd hf ?_);dsimp only;rw[if_neg (by simp),ej];refine Vb ?_;have ev:(pl.map λi=>(es.toList.map (·.2)).getD i Value.none)[i]? =some es[j].2:=by rw[List.getElem?_map,q];simp[hj]
   exact Va (wpAny_setField hit rfl (by simp) (Vb (one _ _ (h1 _ _ ev (Heap.SameBut.update ..) (qhA hit)))))
  |none=>
   have e1:(List.toArray (pl.map λ(i:Nat)=>rawInt i))[i]? =none:=by simp[List.getElem?_eq_none_iff.mp q]
   rw[e1];have ev:(pl.map λi=>(es.toList.map (·.2)).getD i Value.none)[i]? =none:=by rw[List.getElem?_map,q];rfl
   refine Va (wpAny_setField hit rfl (by simp) ?_);refine Va (wpAny_setField (qhA hit) rfl (by simp) (stop _ λh' kp=>h0 h' ev λb u hb e=>kp b u ?_));exact(Vj _ _ (Ne.symm hb)).trans ((Vj _ _ (Ne.symm hb)).trans e)
 |text e=>exact bV 0 rfl λv _=>by rw[if_pos e];rfl
 |small e hn hl ip=>
  cases i with
  |zero=>exact bV 0 rfl λv _=>by rw[if_neg (by rw[e];decide)];rfl
  |succ i=>
   have:=bV (t.place.getD i 0+1) rfl λv _=>by rw[if_neg (by rw[e];decide)];rfl
   exact this
end
theorem qfn:entryFor table "set_iterator.__iter__" =some Builtin.«dict_keyiterator.__iter__» :=
 entryFor_alias (id':= "dict_keyiterator.__iter__") (by kernel_rfl) rfl (by decide+kernel) (by kernel_rfl)
theorem qgI(a:Value):argsOk "set_iterator.__iter__" ⟨[a],[]⟩:=by unfold argsOk;kernel_rfl
section
noncomputable def qzn(w:World)(it a:Addr)(o:Obj)(es:Array (Int×Value))(ep:Nat)(t:SetTable)(tl:List Addr)(f:Nat->Value)(vs:List Value)(i:Nat)(h:Heap):Prop:=h.get? it=some (qga (f i) i a es.size ep)/\h.get? a=some o/\Way w h a es ep t tl f vs/\i<=vs.length
theorem quX{prog:Program}{w:World}{A:Around}{it:Addr}{a:Addr}{o:Obj}{es:Array (Int×Value)}{ep:Nat}{t:SetTable}{tl:List Addr}{f:Nat->Value}{vs:List Value}(hh:A.handled=none)(aN:a≠it)(cY:it∉tl)(hd:o.data= .set es ep t)(hf:t.fits es.size=true)(hv:vs.length=es.size):Walks prog w A it (it::a::tl) [it] vs.length (λi v=>vs[i]? =some v) (qzn w it a o es ep t tl f vs) where
 sub:=λb hb=>by rw[List.mem_singleton.mp hb];exact Vk
 frame:=λi h h' st k=>⟨k it Vk _ st.1,k a (Vl _ Vk) _ st.2.1,st.2.2.1.keep λb hb u e=>k b (Vl _ (Vl _ hb)) u e,st.2.2.2⟩
 item:=λi s Q E hi st hQ=>by
  refine turn hh aN cY st.1 st.2.1 hd hf st.2.2.1 hv st.2.2.2 (λv h' ev sb g=> ?_) λh' ev _=> ?_
  ·have e:s={ s with toks:=s.toks }:=rfl;refine hQ v h' s.toks ev ⟨g,(sb.2 a aN).trans st.2.1,st.2.2.1.keep λb hb u q=>(sb.2 b (λz=>cY (by rw[<-z];exact hb))).trans q,hi⟩ λb u hb q=>(sb.2 b (λz=>hb (by rw[z];exact List.mem_singleton.mpr rfl))).trans q
  ·rw[List.getElem?_eq_getElem hi] at ev;cases ev
 done:=λs Q E st hQ=>by
  refine turn hh aN cY st.1 st.2.1 hd hf st.2.2.1 hv st.2.2.2 (λv h' ev sb g=> ?_) λh' ev kp=> ?_
  ·rw[List.getElem?_eq_none_iff.mpr (Nat.le_refl _)] at ev;cases ev
  ·exact hQ h' s.toks λb u hb q=>kp b u (λz=>hb (by rw[z];exact List.mem_singleton.mpr rfl)) q
 self:=λi s Q E st hQ=>by
  have ty:s.TypeIs (.ref it) "set_iterator" :=⟨_,st.1,rfl⟩
  refine wpAny_pyIter_slot ty qeN (wpAny_call_entry qeN ty qfn ?_ (qgI _));show wpAny _ _ (ret (.ref it)) _ _ s;exact Vb ⟨_,rfl, "set_iterator",_,ty,qbO.lookup,hQ⟩
end
section
variable{prog:Program}{w:World}{A:Around}{E:Value->Shared->Prop}{s:Shared}
theorem qjp:splitId "set.__len__" =some ("set", "__len__"):=rfl
theorem qtg{α:Type}{M:Model}{c:Bool}{x y:Sem α}{Q:α->Shared->Prop}(hc:c=true)(h:wpAny M A x Q E s):wpAny M A (if c=true then x else y) Q E s:=by rw[if_pos hc];exact h
theorem qwn{α:Type}{M:Model}{c:Bool}{x y:Sem α}{Q:α->Shared->Prop}(hc:c=false)(h:wpAny M A y Q E s):wpAny M A (if c=true then x else y) Q E s:=by grind
theorem qgu{a:Addr}{o:Obj}{es:Array (Int×Value)}{ep:Nat}{t:SetTable}{Q:List Value->Shared->Prop}(hh:A.handled=none)(ho:s.heap.get? a=some o)(hx:o.ExactSet)(hd:o.data= .set es ep t)(hf:t.fits es.size=true)(hb:es.size<scanBound)(pl:qdo t)(ld:t.led= !w.params.followText "set-order")(h: ∀(vs:List Value)(h':Heap)(d:Drawn)(tk:Nat),List.Perm vs (es.toList.map (·.2))->(∀b u,s.heap.get? b=some u->h'.get? b=some u)->Q vs { s with heap:=h',drawn:=d,toks:=tk }):wpAny (model prog w) A (collect (.ref a)) Q E s:=by
 have ha:=Vi ho;unfold collect;refine Va (wpAny_runValue (codeAny_builtin F.entry_proto_collect ?_));rw[Around.under_plainId F.plain_proto_collect _];refine Va (wpAny_newObj_type ?_ (by size_fits));refine Vb ⟨plainId_quiet F.plain_list_iadd _,codeAny_builtin F.entry_list_iadd ?_⟩;rw[Around.under_plainId F.plain_list_iadd _];have hL:(s.heap.push { cls:=.type "list",data:=.seq ([]:List Value).toArray }).get? s.heap.objs.size=some { cls:=.type "list",data:=.seq ([]:List Value).toArray }:=Vh _ rfl;have cF:(s.heap.push { cls:=.type "list",data:=.seq ([]:List Value).toArray }).get? a=some o:=Vg _ ho;have ty:({ s with heap:=s.heap.push { cls:=.type "list",data:=.seq ([]:List Value).toArray } }:Shared).TypeIs (.ref a) "set" :=⟨o,cF,hx.1⟩
 show wpAny _ A.in1 (Builtin.List.listExtendWith (.ref s.heap.objs.size) (.ref a) (.ref s.heap.objs.size)) _ _ _;unfold Builtin.List.listExtendWith;refine Va (wpAny_typeOf ty ?_);have ns:Builtin.List.listSameRef (.ref s.heap.objs.size) (.ref a)=false:=by simp[Builtin.List.listSameRef];exact(Vo ha).symm
 rw[if_neg (by rw[ns];decide)];refine Va (qmO (s:={ s with heap:=s.heap.push { cls:=.type "list",data:=.seq ([]:List Value).toArray } }) cF hx hd hf hb pl ld λit h1 d tl f vs hit cY kp g W pm=> ?_);have dI:({ s with heap:=h1,drawn:=d }:Shared).TypeIs (.ref a) "set" :=⟨o,kp _ _ cF,hx.1⟩
 refine Va (wpAny_holding ?_);unfold Builtin.List.listLengthHint;refine Va (wpAny_specialOf dI F.slot_set_len.lookup ?_);dsimp only;rw[qjp];dsimp only;refine Va (wpAny_isInstance (b:=true) dI (by rw[isSubtype_type];kernel_rfl) ?_);refine qwn rfl (qtg (by decide+kernel) ?_);refine Va (wpAny_typeOf dI (Vb ?_));refine qtg (by decide+kernel) ?_;refine Va (wpAny_rule ?_);have g1:h1.get? s.heap.objs.size=some { cls:=.type "list",data:=.seq ([]:List Value).toArray }:=kp _ _ hL;refine Va ?_;show wpAny _ A.in1 (updateSeq s.heap.objs.size (·.push .none)>>=λ_=>updateSeq s.heap.objs.size (·.pop)) _ _ _;refine Va (wpAny_updateSeq g1 rfl ?_);have g2:=Heap.get?_update_self (Obj.mapSeq (·.push Value.none)) g1 rfl;refine wpAny_updateSeq g2 rfl ?_;have g3:=Heap.get?_update_self (Obj.mapSeq (·.pop)) g2 rfl
 have fN: ∀b u,b≠s.heap.objs.size->h1.get? b=some u->((h1.update s.heap.objs.size (Obj.mapSeq (·.push Value.none))).update s.heap.objs.size (Obj.mapSeq (·.pop))).get? b=some u:=
  λb u hb e=>(Vj _ _ (Ne.symm hb)).trans ((Vj _ _ (Ne.symm hb)).trans e)
 have fH:s.heap.objs.size<({ s with heap:=s.heap.push { cls:=.type "list",data:=.seq ([]:List Value).toArray } }:Shared).heap.objs.size:=by show _<(s.heap.push _).objs.size;rw[Heap.size_push];exact Vz _
 have gH:it≠s.heap.objs.size:=λz=>by rw[z] at hit;exact absurd (Vn fH hit) (Nat.lt_irrefl _)
 have nia:a≠it:=λz=>by rw[<-z] at hit;exact absurd (Vn (Nat.lt_trans ha fH) hit) (Nat.lt_irrefl _)
 have ntl:it∉tl:=λz=>(cY it z).2 rfl;have lt:s.heap.objs.size∉(it::a::tl):=λz=>by
  rcases List.mem_cons.mp z with z|z
  ·exact gH z.symm
  ·rcases List.mem_cons.mp z with z|z
   ·exact absurd ha (by rw[<-z];exact Nat.lt_irrefl _)
   ·exact absurd (Vn fH (cY _ z).1) (Nat.lt_irrefl _)
 have lv:vs.length=es.size:=by rw[pm.length_eq];simp
 have hh2:A.in1.handled=none:=hh;have Wk:=quX (prog:=prog) (w:=w) (A:=A.in1) (f:=f) hh2 nia ntl hd hf lv;refine Vb ⟨plainId_quiet F.plain_extend_loop _,codeAny_extend_loopS Wk.toS (by rw[lv];exact fits_of_scanBound hb) _ lt _ vs.length 0 _ _ _ rfl (Nat.zero_le _) ?_ g3 (ItemsOf.nil _) λs' bH c' hm hS' dE=> ?_⟩
 ·exact⟨fN _ _ gH g,fN _ _ (Vo ha) (kp _ _ cF),W.keep λb aW u e=>fN b u (λz=>lt (by rw[<-z];exact Vl _ (Vl _ aW))) e,Nat.zero_le _⟩
 ·show wpAny _ A (load s.heap.objs.size>>=_) _ _ s';refine Va (wpAny_load hS' (Vb ?_));have ev:bH.toList=vs:=by
   apply List.ext_getElem?;intro j;by_cases hj:j<vs.length
   ·have h2:j<bH.size:=by rw[dE.1];exact hj
    have:=dE.2 j bH[j] (by simp[h2]);rw[this];simp[h2]
   ·have q1:bH.toList[j]? =none:=List.getElem?_eq_none_iff.mpr (by rw[Array.length_toList,dE.1];lia);have q2:vs[j]? =none:=List.getElem?_eq_none_iff.mpr (by lia);rw[q1,q2]
  rw[ev];obtain⟨hh',gg,dd,tk,os⟩:=s';have e1:gg=s.gens:=hm.gens;have e2:dd=d:=hm.drawn;have e3:os=s.os:=hm.os;subst e1 e2 e3;refine h vs hh' dd tk pm λb u e=> ?_;have nb:b<s.heap.objs.size:=Vi e;refine hm.heap b u (λz=> ?_) (fN b u (Vo nb) (kp b u (Vg _ e)))
  rcases List.mem_cons.mp z with z|z
  ·exact absurd nb (by rw[z];exact Nat.lt_irrefl _)
  ·rw[List.mem_singleton.mp z] at nb;exact absurd (Vn (Nat.lt_trans nb fH) hit) (Nat.lt_irrefl _)
end
section
variable{K:Type}[DecidableEq K]
noncomputable def mem(key:Nat->K)(i:Nat)(k:K):Bool:=(List.range i).any λj=>decide (k=key j)
noncomputable def cnt(key:Nat->K):Nat->Nat
 |0=>0
 |i+1=>if mem key i (key i)=true then cnt key i else cnt key i+1
theorem qhp(key:Nat->K)(i:Nat)(k:K):mem key (i+1) k=(mem key i k||decide (k=key i)):=by unfold mem;rw[List.range_succ];simp
theorem qoH(key:Nat->K): ∀i,cnt key i<=i
 |0=>Vm _
 |i+1=>by
  have:=qoH key i;unfold cnt
  split<;>lia
end
section
variable[DecidableEq K]
theorem qsX{knd:KeyKind prog w K}{A:Around}(W:WalksS prog w A.in1 I fp wr G n P Sx)(S:Addr)(jl:S∉fp)(key:Nat->K)(cW: ∀i v,P i v->knd.is (key i) v=true/\v.scannable=true)(hb:n+1<scanBound):
  ∀(k i:Nat)(s:Shared),n - i=k->i<=n->Sx i s->qiQ knd s.heap S (mem key i) (cnt key i)->(∀s',Moved (S::wr) G s s'->qiQ knd s'.heap S (mem key n) (cnt key n)->R (.ok (.ret .none)) s')->
   codeAny (model prog w) A (.builtin "set.update.loop" ⟨[.ref S,.ref I],[]⟩) R s:=by
 have nw:S∉wr:=λz=>jl (W.sub _ z);have sub: ∀b∈wr,b∈S::wr:=λb z=>Vl _ z;intro k
 induction k with
 |zero=>
  intro i s hk hi st hS fin;obtain rfl:i=n:=by lia
  refine codeAny_builtin PyProof.Rows.F.entry_set_update_loop ?_;rw[Around.under_plainId PyProof.Rows.F.plain_set_update_loop _];refine Va (W.done s _ _ st λs' mv=>Vb (fin s' (mv.mono sub) (hS.keep λo e=>mv.heap S o nw e)))
 |succ k ih=>
  intro i s hk hi st hS fin;have lt:i<n:=by lia
  refine codeAny_builtin PyProof.Rows.F.entry_set_update_loop ?_;rw[Around.under_plainId PyProof.Rows.F.plain_set_update_loop _];refine Va (W.item i s _ _ lt st λv s' hP aF mv=> ?_);obtain⟨v1,v2⟩:=cW i v hP;refine Va (wpAny_holding ?_);unfold setAdd;refine wpAny_holding (Va (knd.pyHash (k:=key i) v1 ?_));have cl:=qoH key i;refine qxi (knd:=knd) (s:={ s' with toks:=s'.toks+1 }) v1 v2 (hS.keep λo e=>mv.heap S o nw e) (by lia) λh' sb S2=> ?_;refine Vb ⟨plainId_quiet PyProof.Rows.F.plain_set_update_loop _,ih (i+1) _ (by lia) lt (W.frame _ s' _ _ aF (Wa _) λb aW o e=> ?_) ?_ λs'' mv2 S3=> ?_⟩
  ·rw[sb.2 b λz=>jl (by rw[<-z];exact aW)];exact e
  ·obtain⟨o,es,ep,t,a1,a2,a3,a4,a5,a6,a7,a8,a9,a10⟩:=S2;exact⟨o,es,ep,t,a1,a2,a3,a4,λk'=>by rw[qhp];exact a5 k',a6,a7,a8,a9,a10⟩
  ·refine fin s'' (Moved.trans W.gtrans ((mv.mono sub).then_heap (Wa _) λb o aW e=> ?_) mv2) S3;rw[sb.2 b λz=>aW (by rw[z];exact Vk)];exact e
end
section
variable[DecidableEq K]
theorem qp1(x:Value)(h:Q₁ (.ref s.heap.objs.size) { s with heap:=s.heap.push { cls:=.type "set",dict:=none,data:=.set #[] 0 (.fresh 0 0 (!w.params.followText "set-order")) } }):
  codeAny (model prog w) A (.call (.builtin "set.__new__") ⟨[.type "set",x],[]⟩) (PySem.wants Q₁ E) s:=by
 refine codeAny_of_tree ?_;show wpAny _ A.in1 (do checkBuiltinCall "set.__new__" ⟨[.type "set",x],[]⟩;again (.builtin "set.__new__" ⟨[.type "set",x],[]⟩)) _ _ s;refine Va (wpAny_of_eq (F.newCall_set_1 x) (Vb ⟨plainId_quiet F.plain_set_new _,codeAny_builtin F.entry_set_new ?_⟩));rw[Around.under_plainId F.plain_set_new _];unfold Builtin.«set.__new__»;unfold Builtin.Frozenset.newClass;have sb:=PySem.sub_set_self;obtain⟨hp,g,d,tk,os⟩:=s;dsimp only
 wp_walk
 exact wpAny_askSetting (Vb (by
  dsimp only;simp only[newObj];exact Va (wpAny_alloc (Vb (Vb h)))))
set_option maxHeartbeats 8000000 in
theorem qus{knd:KeyKind prog w K}{A:Around}{s:Shared}{items:Array Value}(hh:A.handled=none)(hl:s.heap.IsList l items)(cW: ∀i v,items[i]? =some v->knd.is (key i) v=true/\v.scannable=true)(hb:items.size+1<scanBound)(h: ∀(h':Heap)(tk:Nat),qiQ knd h' s.heap.objs.size (mem key items.size) (cnt key items.size)->(∀b o,s.heap.get? b=some o->h'.get? b=some o)->Q (.ref s.heap.objs.size) { s with heap:=h',toks:=tk }):
  wpAny (model prog w) A (call (.type "set") [.ref l]) Q E s:=by
 obtain⟨c,tl,mro⟩:=F.called_set.mro;have md:=F.called_set.made;have sb:=F.called_set.sub;refine wpAny_call (codeAny_of_tree ?_);show wpAny _ _ (callAny (.type "set") _) _ _ _;refine Vb ⟨Code.quiet_builtin _ (by decide+kernel),codeAny_builtin F.entry_type_call ?_⟩;rw[Around.under_plain (weight_type_call_type "set" [.ref l] []) rfl];have q1:=F.called_set.notType;have q2:=F.called_set.canCreate;have q3:=F.typeCall_set_1 (.ref l)
 repeat (any_goals(first|assumption|wp_step))
 refine codeAny_mono (qp1 (.ref l) (E:=E) (Q₁:=λv s1=>v= .ref s.heap.objs.size/\s1={ s with heap:=s.heap.push { cls:=.type "set",dict:=none,data:=.set #[] 0 (.fresh 0 0 (!w.params.followText "set-order")) } }) ⟨rfl,rfl⟩) λr s1 hr=> ?_;cases r with
 |error e=>exact hr
 |ok fl=>cases fl with
  |ret obj=>
   obtain⟨rfl,rfl⟩:=hr;have gS:(s.heap.push { cls:=.type "set",dict:=none,data:=.set #[] 0 (.fresh 0 0 (!w.params.followText "set-order")) }).get? s.heap.objs.size=some { cls:=.type "set",dict:=none,data:=.set #[] 0 (.fresh 0 0 (!w.params.followText "set-order")) }:=Vh _ rfl;have tS:Shared.TypeIs { s with heap:=s.heap.push { cls:=.type "set",dict:=none,data:=.set #[] 0 (.fresh 0 0 (!w.params.followText "set-order")) } } (.ref s.heap.objs.size) "set" :=⟨_,gS,rfl⟩
   have li:=F.called_set.init.lookup;have bi:=F.called_set.init.bind (.ref s.heap.objs.size)
   repeat (any_goals(first|assumption|wp_step))
   refine codeAny_mono (codeAny_call_builtin (R:=PySem.wants (λr s2=>r= .none/\∃h' tk,s2={ s with heap:=h',toks:=tk }/\qiQ knd h' s.heap.objs.size (mem key items.size) (cnt key items.size)/\∀b o,s.heap.get? b=some o->h'.get? b=some o) E) F.called_set.init.plain F.entry_set_init (PySem.check_set_init_1 tS ?_)) λr2 s2 gZ=> ?_
   ·obtain⟨⟨oc,od,odt,osl⟩,gl,cl,nl,dl⟩:=hl;simp only at cl dl;subst cl dl;have gl':(s.heap.push { cls:=.type "set",dict:=none,data:=.set #[] 0 (.fresh 0 0 (!w.params.followText "set-order")) }).get? l=some { cls:=.type "list",dict:=od,data:=.seq items nl,slots:=osl }:=Vg _ gl;have u1:=F.sub_list_set;have u2:=F.sub_list_frozenset;have u3:(Value.type "list" ==Value.type "dict")=false:=by decide
    have l1:(s.heap.push { cls:=.type "set",dict:=none,data:=.set #[] 0 (.fresh 0 0 (!w.params.followText "set-order")) }).IsList l items:=⟨_,gl',rfl,nl,rfl⟩
    unfold Builtin.«set.__init__» noKeywords;unfold Builtin.Frozenset.updateFrom;generalize pie:pyIter=PI
    wp_walk
    subst pie;refine Vf l1 (Va (wpAny_runValue ?_));have lS:l<s.heap.objs.size:=Vi gl;have sz:(s.heap.push { cls:=.type "set",dict:=none,data:=.set #[] 0 (.fresh 0 0 (!w.params.followText "set-order")) }).objs.size=s.heap.objs.size+1:=Heap.size_push ..;have n1:l≠(s.heap.push { cls:=.type "set",dict:=none,data:=.set #[] 0 (.fresh 0 0 (!w.params.followText "set-order")) }).objs.size:=by rw[sz];exact Vo (Nat.lt_succ_of_lt lS)
    have n2:s.heap.objs.size∉[(s.heap.push { cls:=.type "set",dict:=none,data:=.set #[] 0 (.fresh 0 0 (!w.params.followText "set-order")) }).objs.size,l]:=λz=>by
     rw[sz] at z
     rcases List.mem_cons.mp z with z|z
     ·exact absurd z (Vo (Vz _))
     ·exact absurd (List.mem_singleton.mp z) (Nat.ne_of_gt lS)
    have fW:A.in1.in1.in1.handled=none:=hh;refine qsX (knd:=knd) ((Walks.list fW _ l n1 items).toS) s.heap.objs.size n2 key (λi v hv=>cW i v hv) hb (items.size - 0) 0 _ (by lia) (Nat.zero_le _) ⟨⟨_,Vh _ rfl,rfl,rfl⟩,l1.push _⟩ ?_ λs' mv S'=> ?_
    ·exact⟨_, #[],0,_,Vg _ gS,⟨rfl,rfl,rfl⟩,rfl,λe he=>by simp at he,λk=>by simp[mem],by decide,by rfl,rfl,qih _ _ _,rfl⟩
    ·obtain⟨h',g',d',tk',gE⟩:=s';have e1:g'=s.gens:=mv.gens;have e2:d'=s.drawn:=mv.drawn;have e3:gE=s.os:=mv.os;subst e1 e2 e3;refine Vb (Vb ⟨rfl,h',tk',rfl,S',λb o e=> ?_⟩);have lb:=Vi e;refine mv.heap b o (λz=> ?_) (Vg _ (Vg _ e))
     rcases List.mem_cons.mp z with z|z
     ·exact absurd z (Vo lb)
     ·have z':=List.mem_singleton.mp z;rw[sz] at z';exact absurd z' (Vo (Nat.lt_succ_of_lt lb))
   ·cases r2 with
    |error e=>exact gZ
    |ok f2=>cases f2 with
     |ret r=>
      obtain⟨rfl,h',tk,rfl,S',kp⟩:=gZ
      repeat (any_goals(first|assumption|wp_step))
      exact h _ _ S' kp
     |_=>exact gZ.elim
  |_=>exact hr.elim
end
end SetL
namespace SR
theorem ql0{α:Type}{P:List α->Prop}(h0:P [])(hs: ∀l a,P l->P (l++[a])): ∀l,P l:=by
 intro l;have: ∀r:List α,P r.reverse:=by
  intro r
  induction r with
  |nil=>exact h0
  |cons a r ih=>simp_all
 rw[<-List.reverse_reverse l];exact this _
section
variable{κ:Type}[DecidableEq κ]
abbrev T4(κ:Type):=Int×κ×Int×Int
noncomputable def hit(w:Int)(r a:T4 κ):Bool:=decide (r.1 - a.1<=w)&&(decide (a.2.2.2≠r.2.2.2)&&decide (a.2.1=r.2.1))
end
section
variable{κ:Type}[DecidableEq κ]
abbrev R3(κ:Type):=Int×κ×Int
noncomputable def un(t:T4 κ):R3 κ:=(t.1,t.2.1,t.2.2.1)
noncomputable def mat(w:Int)(a b:R3 κ):Bool:=decide (a.2.1=b.2.1)&&(decide (a.1 - b.1<=w)&&decide (b.1 - a.1<=w))
noncomputable def cp(a b:R3 κ):T4 κ:=(max a.1 b.1,a.2.1,a.2.2,b.2.2)
noncomputable def pr(w:Int)(A B:List (R3 κ)):List (T4 κ):=A.flatMap λa=>(B.filter (mat w a)).map (cp a)
noncomputable def keyIs(k:κ):R3 κ->Bool:=λr=>decide (r.2.1=k)
end
theorem qfh{α:Type}{k k':α->Int}{r:α}(hr:k r=k' r): ∀l:List α,(∀x∈l,k x=k' x)->ins k r l=ins k' r l
 |[],_=>rfl
 |x::l,h=>by
  show(if k x<=k r then x::ins k r l else r::x::l)=(if k' x<=k' r then x::ins k' r l else r::x::l)
  rw[hr,h x List.mem_cons_self,qfh hr l λy hy=>h y (List.mem_cons_of_mem _ hy)]
theorem srt_congr{α:Type}{k k':α->Int}(l:List α):(∀x∈l,k x=k' x)->srt k l=srt k' l:=by refine ql0 (P:=λl=>(∀x∈l,k x=k' x)->srt k l=srt k' l) (λ_=>rfl) (λl a ih h=> ?_) l;rw[qdY,qdY,ih λx hx=>h x (List.mem_append_left _ hx)];exact qfh (h a (Vs _ Vk)) _ λx hx=>h x (Vr _ ((mem_srt _).mp hx))
end SR
namespace RH
open PySem PySem.Spec PyProof.Rows L2 SR
noncomputable def ltS(x y:Str):Bool:=decide (x.cps.toList<y.cps.toList)
theorem qrD{x y:Str}(h:x.cps.toList=y.cps.toList):x=y:=by cases x;simp_all
theorem ordS:Ord ltS where
 irr:=λa=>Vw (List.lt_irrefl _)
 tr:=λa b c h1 h2=>Vv (List.lt_trans (of_decide_eq_true h1) (of_decide_eq_true h2))
 tot:=λa b h1 h2=>qrD (List.le_antisymm (List.not_lt.mp (of_decide_eq_false h2)) (List.not_lt.mp (of_decide_eq_false h1)))
end RH
namespace SetL
section
variable{α:Type}[DecidableEq α]
noncomputable def dd:List α->List α
 |[]=>[]
 |x::xs=>if x∈dd xs then dd xs else x::dd xs
theorem qj4{x:α}: ∀{l:List α},x∈dd l↔x∈l
 |[]=>Iff.rfl
 |y::l=>by
  have ih:=qj4 (x:=x) (l:=l);show x∈(if y∈dd l then dd l else y::dd l)↔_;by_cases c:y∈dd l
  ·rw[if_pos c,ih,List.mem_cons];refine⟨.inr,λh=> ?_⟩
   grind
  simp_all
theorem qcu: ∀l:List α,(dd l).Nodup
 |[]=>List.nodup_nil
 |y::l=>by
  show(if y∈dd l then dd l else y::dd l).Nodup;by_cases c:y∈dd l
  ·rw[if_pos c];exact qcu l
  ·rw[if_neg c];exact List.nodup_cons.mpr ⟨c,qcu l⟩
theorem qqR: ∀l:List α,(dd l).length<=l.length
 |[]=>Vm _
 |y::l=>by
  have ih:=qqR l;show(if y∈dd l then dd l else y::dd l).length<=_;split
  ·exact Nat.le_succ_of_le ih
  simp_all
theorem qcP: ∀{D L:List α},D.Nodup->(∀x∈D,x∈L)->L.length=D.length->List.Perm L D
 |[],L,_,_,hl=>by simp_all
 |d::D,L,hn,hm,hl=>by
  have hd:=hm d Vk;have hV:=List.nodup_cons.mp hn;refine(List.perm_cons_erase hd).trans (List.Perm.cons d (qcP hV.2 (λx hx=> ?_) ?_))
  ·grind
  simp_all
noncomputable def dl(key:Nat->α):Nat->List α
 |0=>[]
 |i+1=>if mem key i (key i)=true then dl key i else dl key i++[key i]
theorem qoA(key:Nat->α): ∀i,(dl key i).length=cnt key i
 |0=>rfl
 |i+1=>by
  have ih:=qoA key i;show(if mem key i _=true then dl key i else dl key i++[key i]).length=if mem key i _=true then cnt key i else cnt key i+1
  split
  ·exact ih
  simp_all
theorem qj3(key:Nat->α)(x:α): ∀i,x∈dl key i↔mem key i x=true
 |0=>by simp[dl,mem]
 |i+1=>by
  have ih:=qj3 key x i;rw[qhp];show x∈(if mem key i _=true then dl key i else dl key i++[key i])↔_;by_cases c:mem key i (key i)=true
  ·simp_all
  simp_all
theorem qhn(key:Nat->α): ∀i,(dl key i).Nodup
 |0=>List.nodup_nil
 |i+1=>by
  have ih:=qhn key i;show(if mem key i _=true then dl key i else dl key i++[key i]).Nodup;by_cases c:mem key i (key i)=true
  ·rw[if_pos c];exact ih
  ·rw[if_neg c,List.nodup_append];refine⟨ih,by simp,λa ha b hb=> ?_⟩;rw[List.mem_singleton] at hb;subst hb;intro z;subst z;exact c ((qj3 key _ i).mp ha)
theorem qhq{l:List α}:mem (λi=>l.getD i d) l.length x=true↔x∈l:=by
 unfold mem;rw[List.any_eq_true];constructor
 ·simp_all
 ·intro h;obtain⟨j,hj,e⟩:=List.mem_iff_getElem.mp h;refine⟨j,List.mem_range.mpr hj,Vv ?_⟩
  simp_all
theorem qwT{l:List α}:List.Perm (dl (λi=>l.getD i d) l.length) (dd l):=
 (List.perm_ext_iff_of_nodup (qhn _ _) (qcu _)).mpr λx=>by rw[qj3,qhq,qj4]
theorem qoI{l:List α}:cnt (λi=>l.getD i d) l.length=(dd l).length:=by rw[<-qoA,qwT.length_eq]
end
open PySem PySem.W PySem.Calls PyProof.Rows SR
structure Kd(prog:Program)(w:World)(α:Type)[DecidableEq α] where
 knd:PySem.KeyKind prog w α
 up:α->L2.V
 d:α
 of:Value->α
 lt:α->α->Bool
 ord:Ord lt
 isv: ∀x u,L2.RelV (up x) u->knd.is x u=true/\u.scannable=true
 vis: ∀x u,knd.is x u=true->L2.RelV (up x) u
 ofv: ∀x u,L2.RelV (up x) u->of u=x
 kind: ∀v1 v2 vs,(∀v∈v1::v2::vs,∃x,L2.RelV (up x) v)->keyKind' (v1::v2::vs).toArray=pure oneType'
 lts: ∀{A:Around}{E:Value->Shared->Prop}{s:Shared}{Q:Bool->Shared->Prop}(x y:α)(u v:Value),L2.RelV (up x) u->L2.RelV (up y) v->Q (lt x y) s->wpAny (model prog w) A (keyLt' oneType' u v) Q E s
section
variable{prog:Program}{w:World}{A:Around}{E:Value->Shared->Prop}{s:Shared}{α:Type}[DecidableEq α](k:Kd prog w α)
theorem qm7{h:Heap}{a:Addr}{ss:List α}(S:qiQ k.knd h a (mem (λi=>ss.getD i k.d) ss.length) (cnt (λi=>ss.getD i k.d) ss.length)):
  ∃o es ep t,h.get? a=some o/\o.ExactSet/\o.data= .set es ep t/\es.size<scanBound/\t.fits es.size=true/\qdo t/\t.led=(!w.params.followText "set-order")/\es.size=(dd ss).length/\
   (∀v∈es.toList.map (·.2),∃x,L2.RelV (k.up x) v)/\List.Perm ((es.toList.map (·.2)).map k.of) (dd ss):=by
 obtain⟨o,es,ep,t,ho,hx,hd,hel,hme,hb,hf,hn,hp,hl⟩:=S;have hv: ∀v∈es.toList.map (·.2),∃x,L2.RelV (k.up x) v:=λv hv=>by obtain⟨e,he,rfl⟩:=List.mem_map.mp hv;obtain⟨⟨x,hk,_⟩,_⟩:=hel e he;exact⟨x,k.vis x _ hk⟩
 refine⟨o,es,ep,t,ho,hx,hd,hb,hf,hp,hl,by rw[hn,qoI],hv,?_⟩;refine qcP (qcu ss) (λx hx=> ?_) (by rw[List.length_map,List.length_map,Array.length_toList,hn,qoI]);have bZ:=qj4.mp hx;obtain⟨e,he,ek⟩:=(hme x).mp (qhq.mpr bZ);exact List.mem_map.mpr ⟨e.2,List.mem_map.mpr ⟨e,he,rfl⟩,k.ofv x _ (k.vis x _ ek)⟩
theorem qh3(hh:A.handled=none)(S:qiQ k.knd s.heap a (mem (λi=>ss.getD i k.d) ss.length) (cnt (λi=>ss.getD i k.d) ss.length))(bS:ss.length<64)(h: ∀h1 D h' d tk c vs,St.Kp s.heap h1->h1.objs.size<=D->St.Kp h1 h'->h'.get? D=some (seqObj "list" (List.toArray vs) c)->L2.Vals ((sortA k.lt (dd ss)).map k.up) vs->Q (.ref D) { s with heap:=h',drawn:=d,toks:=tk }):
  wpAny (model prog w) A (call (.builtin "sorted") [.ref a]) Q E s:=by
 obtain⟨o,es,ep,t,ho,hx,hd,hb,hf,hp,hl,hn,hv,pm⟩:=qm7 k S;refine Calls.call_function_entry kind_sorted plain_sorted entry_sorted (args_sorted1 _) ?_;unfold Builtin.«sorted»;refine Va (m:=checkCount "sorted" 1 1 _) (Vb ?_);refine Va (qgu (by exact hh) ho hx hd hf hb hp hl λvs H1 d1 tk1 pv i5=> ?_);have le:vs.length=(dd ss).length:=by rw[pv.length_eq,List.length_map,Array.length_toList,hn]
 have l64:vs.length<64:=by have:=qqR ss;lia
 have b7: ∀v∈vs,∃x,L2.RelV (k.up x) v:=λv z=>hv v (pv.mem_iff.mp z);have pm':List.Perm (vs.map k.of) (dd ss):=(pv.map k.of).trans pm;refine Va (wpAny_newList ?_ (by rw[sizeLine_eq];show vs.length<=_;lia));have bJ:St.Kp H1 (H1.push (seqObj "list" vs.toArray 0)):=λb o q=>Vg _ q;have df:(H1.push (seqObj "list" vs.toArray 0)).get? H1.objs.size=some (seqObj "list" vs.toArray 0):=Vh _ rfl;refine Va (wpAny_holding (wpAny_call_entry slot_list_sort ⟨_,df,rfl⟩ entry_list_sort ?body (args_list_sort _)))
 case body=>
  have at_: ∀{m:Nat},m<vs.length->L2.RelV (k.up ((vs.map k.of).getD m k.d)) (vs.getD m Value.none)/\(vs.map k.of).getD m k.d∈vs.map k.of:=λ{m} hm=>by
   obtain⟨x,e⟩:=b7 vs[m] (List.getElem_mem hm);have e1:(vs.map k.of).getD m k.d=x:=by rw[List.getD_eq_getElem?_getD,List.getElem?_map,List.getElem?_eq_getElem hm];exact k.ofv x _ e
   refine⟨?_,?_⟩
   ·rw[e1,List.getD_eq_getElem?_getD,List.getElem?_eq_getElem hm];exact e
   ·rw[e1];exact List.mem_map.mpr ⟨_,List.getElem_mem hm,k.ofv x _ e⟩
  refine St.lsort_p (h0:=H1) (kz:=(vs.map k.of).map (rank k.lt (vs.map k.of))) (κ:=oneType') (s:={ s with heap:=H1.push (seqObj "list" vs.toArray 0),drawn:=d1,toks:=tk1 }) df (by simp) l64 bJ (St.get_none (Vm _)) (λs' kk h2 Q' hq=> ?_) (λs' kk i j hi hj C hc=> ?_) λh' tk c p a1 a2 a3=>⟨_,rfl,?_⟩
  ·match vs,h2,b7 with
   |v1::v2::vs,_,b7=>rw[k.kind v1 v2 vs b7];exact Vb hq
  ·have e1: ∀{m:Nat},m<vs.length->((vs.map k.of).map (rank k.lt (vs.map k.of))).getD m 0=rank k.lt (vs.map k.of) ((vs.map k.of).getD m k.d):=λ{m} hm=>by
    have dX:m<(vs.map k.of).length:=by rw[List.length_map];exact hm
    rw[List.getD_eq_getElem?_getD,List.getD_eq_getElem?_getD,List.getElem?_map,List.getElem?_eq_getElem dX];rfl
   obtain⟨f1,m1⟩:=at_ hi;obtain⟨f2,m2⟩:=at_ hj;rw[e1 hi,e1 hj,rank_lt k.ord m1 m2] at hc;exact k.lts _ _ _ _ f1 f2 hc
  ·refine Vb ⟨_,rfl,h _ _ h' d1 tk c _ i5 (Vm _) a1 a3 ?_⟩;have ep:=qeZ a2;have e:sortA k.lt (dd ss)=p.toList.map λj=>(vs.map k.of).getD j k.d:=by
    rw[<-qh4 k.ord pm',ep,SR.srt_congr (k':=λj=>rank k.lt (vs.map k.of) ((vs.map k.of).getD j k.d)),srt_map (k:=rank k.lt (vs.map k.of)) (f:=λj=>(vs.map k.of).getD j k.d) (λb=>rfl),show vs.length=(vs.map k.of).length by simp,Mir.map_range_getD]
    ·rfl
    ·intro b aW;have f6:b<(vs.map k.of).length:=by rw[List.length_map];exact List.mem_range.mp aW
     rw[List.getD_eq_getElem?_getD,List.getElem?_map,List.getElem?_eq_getElem f6,List.getD_eq_getElem?_getD,List.getElem?_eq_getElem f6];rfl
   rw[e,List.map_map];have go: ∀l:List Nat,(∀j∈l,j<vs.length)->L2.Vals (l.map (k.up∘λj=>(vs.map k.of).getD j k.d)) (l.map λi=>vs.getD i Value.none):=λl=>by
    induction l with
    |nil=>exactλ_=>.nil
    |cons j l ih=>intro hl;exact .cons (at_ (hl j Vk)).1 (ih λi hi=>hl i (Vl _ hi))
   exact go _ λj hj=>(Mir.order_mem a2 j).mp hj
end
noncomputable def qvg:Value->Str
 |.str x _=>x
 |_=> ""
noncomputable def qti:Value->Int
 |.int x _=>x
 |_=>0
theorem qyB:Ord λa b:Int=>decide (a<b) where
 irr:=λa=>Vw (Int.lt_irrefl a)
 tr:=λa b c h1 h2=>Vv (Int.lt_trans (of_decide_eq_true h1) (of_decide_eq_true h2))
 tot:=λa b h1 h2=>by have:=of_decide_eq_false h1;have:=of_decide_eq_false h2;lia
noncomputable def qvh(prog:Program)(w:World):Kd prog w Str where
 knd:=PySem.strKind prog w
 up:=L2.V.str
 d:= ""
 of:=qvg
 lt:=RH.ltS
 ord:=RH.ordS
 isv:=λx u ⟨t,e⟩=>by subst e;exact⟨by show Value.isStrOf x (Value.str x t)=true;simp[Value.isStrOf],rfl⟩
 vis:=λx u h=>Value.isStrOf_shape h
 ofv:=λx u ⟨t,e⟩=>by subst e;rfl
 kind:=λv1 v2 vs h=>keyKind_strs (strsAre_map _ λv hv=>by obtain⟨x,t,e⟩:=h v hv;exact⟨x,t,e⟩)
 lts:=λx y u v ⟨t,e⟩ ⟨t',e'⟩ h=>by subst e e';exact W.kas_lt_str h
theorem qc2: ∀(vs:List Value),(∀v∈vs,∃x t,v= .int x t)->IntsAre vs (vs.map qti)
 |[],_=>.nil
 |v::vs,h=>by obtain⟨x,t,rfl⟩:=h v Vk;exact .cons _ _ (qc2 vs λu hu=>h u (Vl _ hu))
noncomputable def qwp(prog:Program)(w:World):Kd prog w Int where
 knd:=PySem.intKind prog w
 up:=L2.V.int
 d:=0
 of:=qti
 lt:=λa b=>decide (a<b)
 ord:=qyB
 isv:=λx u ⟨t,e⟩=>by subst e;exact⟨by show Value.isInt x (Value.int x t)=true;simp[Value.isInt],rfl⟩
 vis:=λx u h=>Value.isInt_shape h
 ofv:=λx u ⟨t,e⟩=>by subst e;rfl
 kind:=λv1 v2 vs h=>keyKind_ints (qc2 _ λv hv=>by obtain⟨x,t,e⟩:=h v hv;exact⟨x,t,e⟩)
 lts:=λx y u v ⟨t,e⟩ ⟨t',e'⟩ h=>by subst e e';rw[keyLt'_oneType];exact oneLt_int h
end SetL
namespace SetL
open PySem L2 SR
theorem boot_sorted:bootBuiltins "sorted" =some (.builtin "sorted"):=by decide+kernel
theorem qnD:bootBuiltins "set" =some (.type "set"):=by decide+kernel
section
variable{X:Cx}{a:Expr}{t:TE}{p1 p2 p3 pos:Pos}{α:Type}[DecidableEq α](k:Kd X.prog X.w α)
theorem qwk(I:Inv X U O H s)(k: ∀b u,s.heap.get? b=some u->h'.get? b=some u):Inv X U O H { s with heap:=h',drawn:=d,toks:=tk }:=by have J:=I.kept (t':=tk) k;exact⟨J.ok,J.os,J.bare,J.base,J.loc,J.cell,J.free,J.freeC,J.pin,J.hok,J.len⟩
theorem qoV(ss:List α)(r:Vals (ss.map k.up) is)(i:Nat)(v:Value)(h:is[i]? =some v):RelV (k.up (ss.getD i k.d)) v:=by
 have hl:=r.length;rw[List.length_map] at hl;obtain⟨hi,_⟩:=List.getElem?_eq_some_iff.mp h;have aV:i<ss.length:=by lia
 obtain⟨u,e,ru⟩:=r.get (i:=i) (x:=k.up ss[i]) (by simp_all)
 simp_all
theorem ql2{U:List (Addr×Obj)}{O:St}{H:Hp}{s:Shared}{Q:Addr->List α->Hp->Prop}(hc:X.calm=true)(gt:Gl X "set")(mt:X.mg "set" =none)(ha:PE X a t)(bP: ∀O H (Q Q':VK),(∀v H1,Q v H1->Q' v H1)->t O H Q->t O H Q')(he:starEach [a] X.env=(false,eval a X.env)::starEach [] X.env)(I:Inv X U O H s)(h:t O H λv H1=> ∃l ss,v= .ref l/\SqL X.K H1 l (ss.map k.up)/\ss.length<64/\Q l ss H1):
  wpAny (model X.prog X.w) X.A (eval (.Call (.Name "set" p2) [a] [] p3) X.env) (λu s'=> ∃S l ss H1,u= .ref S/\Inv X U O H1 s'/\ss.length<64/\qiQ k.knd s'.heap S (mem (λi=>ss.getD i k.d) ss.length) (cnt (λi=>ss.getD i k.d) ss.length)/\Q l ss H1) X.xe s:=by
 refine Ve (qcV I gt mt qnD ?_);refine PyProof.Rows.callWith_type1 ?_ he rfl;refine thn (qcQ ha qhg he p3 U s O H (λvs H1=> ∃l ss,vs=[.ref l]/\SqL X.K H1 l (ss.map k.up)/\ss.length<64/\Q l ss H1) I (bP O H _ _ (λv H1 ⟨l,ss,e,r⟩=>⟨l,ss,by rw[e],r⟩) h)) λus s1 g8=> ?_;obtain⟨vs,H1,I1,r1,q1⟩:=g8;obtain⟨l,ss,rfl,hS,bS,q⟩:=q1;cases r1 with
 |cons r rr=>
  cases rr;cases r;obtain⟨its,rv,pl,hz⟩:=I1.list hS;have hl:=rv.length;rw[List.length_map] at hl;have hh:X.A.handled=none:=I1.ok.hd hc;refine qus (knd:=k.knd) (key:=λi=>ss.getD i k.d) hh pl.isList (λi v hv=> ?_) ?_ λh' tk S' kp=> ?_
  ·exact k.isv _ _ (qoV k ss rv i v (by simpa using hv))
  ·rw[List.size_toArray];have:scanBound=2 ^ 24\/100<scanBound:=.inr (by decide)
   rcases this with z|z<;>lia
  ·refine⟨_,l,ss,H1,rfl,I1.kept kp,bS,?_,q⟩;have e:its.toArray.size=ss.length:=by rw[List.size_toArray];lia
   rw[e] at S';exact S'
noncomputable def tSS(k:Kd X.prog X.w α)(t:TE):TE:=λO H Q=>t O H λv H1=> ∃l ss,v= .ref l/\SqL X.K H1 l (ss.map k.up)/\ss.length<64/\∀D,H1 D=none->Q (.ref D) (upd H1 D (.lst ((sortA k.lt (dd ss)).map k.up)))
theorem qbQ(hc:X.calm=true)(gs:Gl X "sorted")(ms:X.mg "sorted" =none)(gt:Gl X "set")(mt:X.mg "set" =none)(ha:PE X a t)(bP: ∀O H (Q Q':VK),(∀v H1,Q v H1->Q' v H1)->t O H Q->t O H Q')(he:starEach [a] X.env=(false,eval a X.env)::starEach [] X.env:=by rfl):
  PE X (.Call (.Name "sorted" p1) [.Call (.Name "set" p2) [a] [] p3] [] pos) (tSS k t):=by
 intro U s O H Q I h;refine Ve (qcV I gs ms boot_sorted ?_);refine PyProof.Rows.callWith_builtin1 (Calls.spliced_cons (thn (ql2 k (Q:=λl ss H1=> ∀D,H1 D=none->Q (.ref D) (upd H1 D (.lst ((sortA k.lt (dd ss)).map k.up)))) hc gt mt ha bP he I h) λu s1 z0=> ?_)) rfl rfl;obtain ⟨S,l,ss,H1,eu,I1,bS,hS,q⟩:=z0;subst eu;refine Calls.spliced_nil ?_;have hh:X.A.handled=none:=I1.ok.hd hc;refine qh3 k (ss:=ss) hh hS bS λh1 D h' d tk c vs k1 hD k2 hg rv=> ?_;have I2:=qwk (d:=d) (tk:=tk) I1 k1;have fD:H1 D=none:=I2.hok.fresh hD;have I3:Inv X U O (upd H1 D (.lst ((sortA k.lt (dd ss)).map k.up))) { s1 with heap:=h',drawn:=d,toks:=tk }:=by refine I2.laid (h':=h') (t':=tk) k2 hD ⟨?_,_,c,rv,hg⟩;rw[List.length_map,sizeLine_eq];have:=(perm_srt (k:=rank k.lt (dd ss)) (dd ss)).length_eq;have e:(sortA k.lt (dd ss)).length=(dd ss).length:=this;have:=qqR ss;lia
 exact⟨.ref D,_,I3,rfl,q D fD⟩
end
end SetL
namespace PL
open PySem L2 SR SetL
inductive Ky where
 |i (n:Int)|s (x:Str)
 deriving DecidableEq
noncomputable def qmD:Ky->Ky->Bool
 |.i a,.i b=>decide (a<b)
 |.i _,.s _=>true
 |.s _,.i _=>false
 |.s a,.s b=>RH.ltS a b
theorem qpO:Ord qmD where
 irr:=λa=>by
  cases a with
  |i n=>exact Vw (Int.lt_irrefl n)
  |s x=>exact RH.ordS.irr x
 tr:=λa b c h1 h2=>match a,b,c,h1,h2 with
  |.i _,.i _,.i _,h1,h2=>Vv (Int.lt_trans (of_decide_eq_true h1) (of_decide_eq_true h2))
  |.i _,.i _,.s _,_,_=>rfl
  |.i _,.s _,.i _,_,h2=>nomatch h2
  |.i _,.s _,.s _,_,_=>rfl
  |.s _,.i _,_,h1,_=>nomatch h1
  |.s _,.s _,.i _,_,h2=>nomatch h2
  |.s _,.s _,.s _,h1,h2=>RH.ordS.tr _ _ _ h1 h2
 tot:=λa b h1 h2=>match a,b,h1,h2 with
  |.i x,.i y,h1,h2=>by
   have e1: ¬x<y:=of_decide_eq_false h1;have e2: ¬y<x:=of_decide_eq_false h2
   congr 1;lia
  |.i _,.s _,h1,_=>nomatch h1
  |.s _,.i _,_,h2=>nomatch h2
  |.s x,.s y,h1,h2=>congrArg Ky.s (RH.ordS.tot x y h1 h2)
noncomputable def ltKs:List Ky->List Ky->Bool
 |[],[]=>false
 |[],_::_=>true
 |_::_,[]=>false
 |a::as,b::bs=>if a=b then ltKs as bs else qmD a b
theorem qhs: ∀a,ltKs a a=false
 |[]=>rfl
 |a::as=>by show(if a=a then ltKs as as else qmD a a)=false;rw[if_pos rfl];exact qhs as
theorem qj7: ∀a b c,ltKs a b=true->ltKs b c=true->ltKs a c=true
 |[],[],_,h,_=>by cases h
 |[],_::_,[],_,h=>by cases h
 |[],_::_,_::_,_,_=>rfl
 |_::_,[],_,h,_=>by cases h
 |_::_,_::_,[],_,h=>by cases h
 |a::as,b::bs,c::cs,h1,h2=>by
  have bx:(if a=b then ltKs as bs else qmD a b)=true:=h1;have bw:(if b=c then ltKs bs cs else qmD b c)=true:=h2;show(if a=c then ltKs as cs else qmD a c)=true;by_cases e1:a=b
  ·subst e1;rw[if_pos rfl] at bx;by_cases e2:a=c
   ·rw[if_pos e2] at bw⊢;exact qj7 as bs cs bx bw
   grind
  ·rw[if_neg e1] at bx;by_cases e2:b=c
   ·grind
   ·rw[if_neg e2] at bw;have t:=qpO.tr _ _ _ bx bw;by_cases e3:a=c
    ·subst e3;rw[qpO.irr] at t;cases t
    grind
theorem qhr: ∀a b,ltKs a b=false->ltKs b a=false->a=b
 |[],[],_,_=>rfl
 |[],_::_,h,_=>by cases h
 |_::_,[],_,h=>by cases h
 |a::as,b::bs,h1,h2=>by
  have bx:(if a=b then ltKs as bs else qmD a b)=false:=h1;have bw:(if b=a then ltKs bs as else qmD b a)=false:=h2;by_cases e:a=b
  ·subst e;rw[if_pos rfl] at bx bw;rw[qhr as bs bx bw]
  ·rw[if_neg e] at bx;rw[if_neg (Ne.symm e)] at bw;exact absurd (qpO.tot _ _ bx bw) e
theorem ordKs:Ord ltKs:=⟨qhs,qj7,qhr⟩
noncomputable def okShape:List Nat->Bool
 |[0]=>true
 |[1]=>true
 |2::x::r=>(x::r).all λn=>n==0||n==1
 |_=>false
noncomputable def sortBy{α:Type}(f:α->List Ky)(ts:List α):List α:=srt (λt=>rank ltKs (ts.map f) (f t)) ts
section
open PySem.W PyProof.Rows
noncomputable def kyV:Ky->V
 |.i n=>.int n
 |.s x=>.str x
noncomputable def shK:Ky->Nat
 |.i _=>0
 |.s _=>1
theorem qwf: ∀(as bs:List Ky)(us vs:List Value)(i:Nat),Vals (as.map kyV) us->Vals (bs.map kyV) vs->as.map shK=bs.map shK->C (ltKs as bs) s->KatLex prog w A true false C (us.zip vs) i s
 |[],[],_,_,i,.nil,.nil,_,h=>kat_nil h
 |[],_::_,_,_,_,_,_,hs,_=>by cases hs
 |_::_,[],_,_,_,_,_,hs,_=>by cases hs
 |a::as,b::bs,_,_,i,.cons (l₂:=us) ra rs,.cons (l₂:=vs) rb rt,hs,h=>by
  have jc:shK a=shK b:=(List.cons.inj hs).1;have c7:as.map shK=bs.map shK:=(List.cons.inj hs).2;have h':C (if a=b then ltKs as bs else qmD a b) s:=h;have go: ∀{p q:Value}{rr:List (Value×Value)}{e:Bool},MeetsSeq.EqGives p q e->(e=true->KatLex prog w A true false C rr (i+1) s)->(e=false->wpAny (model prog w) A (oneLt' (true&&i==0) p q) C (λ_ _=>False) s)->KatLex prog w A true false C ((p,q)::rr) i s:=λ{p q rr e} he h1 h2=>by
   refine kat_cons (he prog w A _ s _ ?_);cases e with
   |true=>exact kat_yes (h1 rfl)
   |false=>exact kat_no (h2 rfl)
  cases a with
  |i x=>
   cases b with
   |i y=>
    obtain⟨t1,rfl⟩:=ra;obtain⟨t2,rfl⟩:=rb;refine go (MeetsSeq.EqGives.int _ _ _ _) (λe=> ?_) (λe=> ?_)
    ·have e':=eq_of_beq e;rw[if_pos (by rw[e'])] at h';exact qwf as bs us vs (i+1) rs rt c7 h'
    ·have e': ¬Ky.i x=Ky.i y:=λz=>by cases z;rw[beq_self_eq_true] at e;cases e
     rw[if_neg e'] at h';cases z:(i==0) with
     |true=>exact oneLt_int h'
     |false=>exact kat_one _ _ (lt_int (show W.BoolBack C (.bool _) s from h'))
   |s y=>cases jc
  |s x=>
   cases b with
   |i y=>cases jc
   |s y=>
    obtain⟨t1,rfl⟩:=ra;obtain⟨t2,rfl⟩:=rb;have es:MeetsSeq.EqGives (.str x t1) (.str y t2) (decide (x=y)):=λ_ _ _ _ _ _ hq=>wpAny_eqBool_str hq;refine go es (λe=> ?_) (λe=> ?_)
    ·have e':=of_decide_eq_true e;rw[if_pos (by rw[e'])] at h';exact qwf as bs us vs (i+1) rs rt c7 h'
    ·have e': ¬Ky.s x=Ky.s y:=λz=>by cases z;simp at e
     rw[if_neg e'] at h';cases z:(i==0) with
     |true=>exact oneLt_str h'
     |false=>exact kat_one _ _ (P.lt_str (show W.BoolBack C (.bool _) s from h'))
end
theorem okShape_cases(h:okShape s0=true):s0=[0]\/s0=[1]\/∃x r,s0=2::x::r/\(x::r).all (λn=>n==0||n==1)=true:=by
 unfold okShape at h;split at h
 ·exact .inl rfl
 ·exact .inr (.inl rfl)
 ·exact .inr (.inr ⟨_,_,rfl,h⟩)
 ·cases h
open PySem.W PyProof.Rows in
theorem kind_strs(its:List Value)(h2:2<=its.length)(hv: ∀v∈its,∃x t,v= .str x t)(hq:Q oneType' s):wpAny (model prog w) A (keyKind' its.toArray) Q E s:=
 match its,h2,hv with
 |v1::v2::cg,_,hv=>by rw[keyKind_strs (strsAre_map _ hv)];exact Vb hq
theorem qdB{h:Heap}{P:Value->Prop}: ∀(l:List Value),(∀v∈l,∃f,(∃a o xs n,v= .ref a/\h.get? a=some o/\o.cls= .type "tuple" /\o.data= .seq xs n/\xs[0]? =some f)/\P f)->∃fs,W.KatTups h l fs/\fs.length=l.length/\∀f∈fs,P f
 |[],_=>⟨[],trivial,rfl,λ_ hf=>nomatch hf⟩
 |v::l,hl=>by
  obtain⟨f,h1,h2⟩:=hl v Vk;obtain⟨fs,h3,h4,h5⟩:=qdB l λu hu=>hl u (Vl _ hu);refine⟨f::fs,⟨h1,h3⟩,by simp[h4],λg hg=> ?_⟩
  grind
end PL
namespace PL
open PySem L2 SR SetL
theorem hu8(r:qbl k A):A.units+8<cLine:=by have:=r.units;lia
abbrev Row:=Int×Str×Int
noncomputable def keyOk(x:Str):Prop:=(1<=x.length/\x.length<=2)/\∀c∈x.cps.toList,97<=c/\c<=122
noncomputable def rowOk(r:Row):Prop:=(0<=r.1/\r.1<=99)/\keyOk r.2.1/\ -99<=r.2.2/\r.2.2<=99
end PL
namespace PL
open PySem L2
end PL
namespace St
open PySem PySem.W PySem.Calls PyProof.Rows
end St
namespace L2
open PySem PySem.Spec PyProof.Rows
structure qyd(x:Str)(v:Value)(env:Env)(h:Heap):Prop where
 kind:env.scope.kind= .function
 loc:env.kindOf x=some .local
 ns: ∃m,h.Ns env.locals m/\m x=some v
end L2
namespace PL
open PySem L2 SR SetL
section
open PySem.W PyProof.Rows
noncomputable def KeyTup(h:Heap)(kl:List Ky)(v:Value):Prop:= ∃p its,v= .ref p/\IsTup h p (List.toArray its)/\Vals (kl.map kyV) its
theorem kind_tups(its:List Value)(hx:x=0\/x=1)(h2:2<=its.length)(hk: ∀v∈its,∃kl,KeyTup s.heap kl v/\kl.map shK=x::r)(hq:Q (tuples' true) s):wpAny (model prog w) A (keyKind' its.toArray) Q E s:=by
 have fst: ∀v∈its,∃f,(∃a o xs n,v= .ref a/\s.heap.get? a=some o/\o.cls= .type "tuple" /\o.data= .seq xs n/\xs[0]? =some f)/\((x=0/\∃i t,f=Value.int i t)\/(x=1/\∃i t,f=Value.str i t)):=λv hv=>by
  obtain⟨kl,⟨p,w1,g1,i1,v1⟩,k1⟩:=hk v hv;obtain⟨o1,e1,c1,n1,d1⟩:=i1;cases kl with
  |nil=>cases k1
  |cons ky kr=>
   cases v1 with
   |cons r0 rr=>
    have ks:shK ky=x:=(List.cons.inj k1).1;cases ky with
    |i n=>obtain⟨tk,rfl⟩:=r0;exact⟨_,⟨p,o1,_,n1,g1,e1,c1,d1,rfl⟩,.inl ⟨ks.symm,n,tk,rfl⟩⟩
    |s n=>obtain⟨tk,rfl⟩:=r0;exact⟨_,⟨p,o1,_,n1,g1,e1,c1,d1,rfl⟩,.inr ⟨ks.symm,n,tk,rfl⟩⟩
 obtain⟨fs,k1,k2,k3⟩:=qdB its fst
 rcases hx with rfl|rfl
 ·refine W.kat_kind k1 (by lia) (T:=.type "int") (λv hv=> ?_) (by decide) ?_
  ·rcases k3 v hv with⟨_,i,t,rfl⟩|⟨z,_⟩
   ·exact W.Looks.of_pure rfl
   ·cases z
  ·exact hq
 ·refine W.kat_kind k1 (by lia) (T:=.type "str") (λv hv=> ?_) (by decide) ?_
  ·rcases k3 v hv with⟨z,_⟩|⟨_,i,t,rfl⟩
   ·cases z
   ·exact W.Looks.of_pure rfl
  ·exact hq
theorem lt_tups(h1:KeyTup s.heap a u)(h2:KeyTup s.heap b v)(hs:a.map shK=b.map shK)(hc:C (ltKs a b) s):wpAny (model prog w) A (keyLt' (tuples' true) u v) C (λ_ _=>False) s:=by
 obtain⟨p1,w1,rfl,i1,v1⟩:=h1;obtain⟨p2,w2,rfl,i2,v2⟩:=h2;obtain⟨o1,e1,_,n1,d1⟩:=i1;obtain⟨o2,e2,_,n2,d2⟩:=i2;refine kat_lt e1 d1 e2 d2 ?_;have hl:w1.length=w2.length:=by
  have h1:=v1.length;have h2:=v2.length;have h3:=congrArg List.length hs
  grind
 rw[show decide _=false by simp[hl]];exact qwf _ _ _ _ 0 v1 v2 hs hc
end
theorem boot_sum':bootBuiltins "sum" =some (.builtin "sum"):=by decide+kernel
end PL
namespace PL
open PySem L2
end PL
namespace St
open PySem PySem.W PySem.Calls PyProof.Rows
section
theorem sorted_c(bQ:wpAny (model prog w) A.in1 (collect v) (λvs s1=> ∃(h1:Heap)(t1:Nat)(κ:SortKind)(kz:List Int),s1={ s with heap:=h1,toks:=t1 }/\Kp s.heap h1/\kz.length=vs.length/\vs.length<64/\
   (∀s':Shared,Kp h1 s'.heap->2<=vs.length->∀(Q:SortKind->Shared->Prop)(E:Value->Shared->Prop),Q κ s'->wpAny (model prog w) A.in1.in1 (keyKind' vs.toArray) Q E s')/\
   (∀s':Shared,Kp h1 s'.heap->∀i j,i<vs.length->j<vs.length->∀C:Bool->Shared->Prop,C (decide (kz.getD i 0<kz.getD j 0)) s'->wpAny (model prog w) A.in1.in1 (keyLt' κ (vs.getD i Value.none) (vs.getD j Value.none)) C (λ_ _=>False) s')/\
   ∀D h' tk c (p:Array Nat),h1.objs.size<=D->Kp h1 h'->qdg kz vs.length p->h'.get? D=some (seqObj "list" (List.toArray (p.toList.map λi=>vs.getD i Value.none)) c)->Q (.ref D) { s with heap:=h',toks:=tk }) E s):
  wpAny (model prog w) A (call (.builtin "sorted") [v]) Q E s:=by
 refine Calls.call_function_entry kind_sorted plain_sorted entry_sorted (args_sorted1 _) ?_;unfold Builtin.«sorted»;refine Va (m:=checkCount "sorted" 1 1 _) (Vb ?_);refine Va (Vc bQ (λvs s1 h=> ?_) λ_ _ x=>x);obtain⟨H1,t1,κ,kz,rfl,i5,hlen,bS,kind,cmp,h⟩:=h;refine Va (wpAny_newList ?_ (by rw[sizeLine_eq];lia));have bJ:Kp H1 (H1.push (seqObj "list" vs.toArray 0)):=λb o q=>Vg _ q;have df:(H1.push (seqObj "list" vs.toArray 0)).get? H1.objs.size=some (seqObj "list" vs.toArray 0):=Vh _ rfl;refine Va (wpAny_holding (wpAny_call_entry slot_list_sort ⟨_,df,rfl⟩ entry_list_sort ?body (args_list_sort _)))
 case body=>
  refine lsort_p (h0:=H1) (kz:=kz) (κ:=κ) df hlen bS bJ (get_none (Vm _)) (λs' k h2 Q hq=>kind s' k h2 Q _ hq) cmp λh' tk c p a1 a2 a3=>⟨_,rfl,?_⟩
  exact Vb ⟨_,rfl,h _ h' tk c p (Vm _) a1 a2 a3⟩
end
end St
namespace L2
open PySem PySem.Spec PyProof.Rows
theorem is_kV(h:(qaq P w).is k u=true):RelV (kV k) u:=by
 cases k with
 |inl i=>
  cases u with
  |int j t=>
   have:=by simpa [qaq,keyIs,Value.isInt] using h
   subst this;exact⟨t,rfl⟩
  |_=>simp[qaq,keyIs,Value.isInt] at h
 |inr x=>
  cases u with
  |str j t=>
   have:=by simpa [qaq,keyIs,Value.isStrOf] using h
   subst this;exact⟨t,rfl⟩
  |_=>simp[qaq,keyIs,Value.isStrOf] at h
theorem KV.get(r:KV us vs): ∀{j:Nat}{k:Key}{x:Value},vs[j]? =some (k,x)->∃v,us[j]? =some (k,v)/\RelV v x:=by
 induction r with
 |nil=>simp
 |cons h t ih=>
  intro j k x e;cases j with
  |zero=>
   rename_i p q _ _;simp at e;obtain⟨p1,p2⟩:=p
   simp_all
  |succ j=>
   simp_all
end L2
namespace PL
open PySem L2 SR SetL
end PL
namespace SetL
open PySem
noncomputable def its(mask:Nat):Nat->Nat×Nat->Nat×Nat
 |0,x=>x
 |t+1,x=>its mask t (SetTable.leap mask x.1 x.2)
end SetL
namespace PL
open PySem L2 SR SetL
end PL
namespace St
open PySem PySem.W PySem.Calls PyProof.Rows
end St
namespace PL
open PySem L2 SR SetL
end PL
namespace L2
open PySem PySem.Spec PyProof.Rows
noncomputable def qhP(Ts:List Addr)(H:Hp):Prop:=(∀T∈Ts,H T=some (.tbl #[]))/\∀b,b∉Ts->H b=none\/∃o xs,H b=some (.frz o (.lst xs))
theorem qiu{K:W.Frag}{k:Nat}{aw:List (Addr×Addr)}{x:Str}{ae:Shared}{vs:List Value}{ns:List Int}(KX:K.In ae.heap)(fU:ae.heap.Ns mainGlobals mg)(hb:ae.heap.Ns builtinsNs mb)(hbb: ∀x:Str,x≠ "__name__" ->mb x=bootBuiltins x)(ib:ae.heap.NoLimit)(hg:ae.gens= #[])(ha:ae.heap.get? a=some { cls:=.type "list",data:=.seq vs.toArray })(hi:IntsAre vs ns)(hl:ns.length<=sizeLine)(hr:qbl k callerA)(hC: ∀p∈aw,W.CodeHd ae.heap p.1 p.2)(hT: ∀T∈aw.map (·.2),ae.heap.get? T=some (W.tabObj #[]))(hKT: ∀T∈aw.map (·.2),K.lookup T=none)(iC:qfI mg ae.heap)(F: ∀base:Heap,K.In base->base.Ns mainGlobals mg->(∀p∈aw,W.CodeHd base p.1 p.2)->qfI mg base->qcC P w K mg base CX k fa fd [x] sp)(fv: ∀(s:Shared)(u:Value),BindsTo s fd ⟨[u],[]⟩ [(x,u)])(dQ: ∀H:Hp,qhP (aw.map (·.2)) H->SqL K H a (ns.map V.int)->sp [.ref a] H (λv _=>v= .bl true) λ_ _ _=>False)(iH: ∀H e s',CX [] H ae (λ_ _ _=>False) e s'->False):
  codeAny (model P w) callerA (.call (.ref fa) ⟨[.ref a],[]⟩) (λr s'=>r= .ok (.ret (.bool true))/\OldK ae.heap s'.heap/\s'.os=ae.os/\AllBare s'.gens) ae:=by
 have rv:=qeD hi;have gL:=hi.length
 have core: ∀H:Hp,qhP (aw.map (·.2)) H->SqL K H a (ns.map V.int)->HOk P w H ae.heap->(∀b,H b≠none->b=a\/b∈aw.map (·.2))->(H a≠none->K.lookup a=none)->
   codeAny (model P w) callerA (.call (.ref fa) ⟨[.ref a],[]⟩) (λr s'=>r= .ok (.ret (.bool true))/\OldK ae.heap s'.heap/\s'.os=ae.os/\AllBare s'.gens) ae:=by
  intro H hO hS hok hA hK;have aH: ∀{b:Addr}{o:Obj},ae.heap.get? b=some o->H b=none->(qku ae.heap H).get? b=some o:=λe n=>qmW e n;have other: ∀{b:Addr}{o:Obj},ae.heap.get? b=some o->(∀xs n,o.data≠.seq xs n)->(o.cls≠.none)->H b=none:=λ{b o} e d d2=>by
   cases q:H b with
   |none=>rfl
   |some u=>
    rcases hA b (by rw[q];simp) with z|z
    ·subst z;rw[ha] at e;cases e;exact absurd rfl (d _ _)
    ·rw[hT b z] at e;cases e;exact absurd rfl d2
  have eI: ∀{b:Addr}{o:Obj}{es:Array DictEntry}{ep:Nat},ae.heap.get? b=some o->o.data= .dict es ep->H b=none:=λ{b o es ep} e d=>by
   cases q:H b with
   |none=>rfl
   |some u=>
    rcases hA b (by rw[q];simp) with z|z
    ·subst z;rw[ha] at e;cases e;have d':Data.seq vs.toArray _=Data.dict es ep:=d;cases d'
    ·rw[hT b z] at e;cases e;have d':Data.fields _=Data.dict es ep:=d;cases d'
  have fQ: ∀{b:Addr}{m:Str->Option Value},ae.heap.Ns b m->(qku ae.heap H).Ns b m:=λ{b m} ⟨o,es,ep,e,d,r⟩=>⟨o,es,ep,aH e (eI e d),d,r⟩
  have jm:K.In (qku ae.heap H):=λb o e=>aH (KX b o e) (by
   cases q:H b with
   |none=>rfl
   |some u=>
    rcases hA b (by rw[q];simp) with z|z
    ·subst z;rw[hK (by rw[q];simp)] at e;cases e
    ·rw[hKT b z] at e;cases e)
  have hM:Mod K mg (qku ae.heap H):=⟨jm,fQ fU,⟨mb,fQ hb,hbb⟩,let ⟨mc,h1,h2⟩:=ib;⟨mc,fQ h1,h2⟩⟩
  have hCb: ∀p∈aw,W.CodeHd (qku ae.heap H) p.1 p.2:=λp hp=>by obtain⟨o,cg,file,tf,flags,tg,inF,text,tt,e1,e2,e3,r⟩:=hC p hp;exact⟨o,cg,file,tf,flags,tg,inF,text,tt,aH e1 (other e1 (λxs n z=>by rw[e3] at z;cases z) (λz=>by rw[e2] at z;cases z)),e2,e3,r⟩
  have hBb:qfI mg (qku ae.heap H):=by obtain⟨bm,ob,b1,b2,b3,b4,b5,b6⟩:=iC;exact⟨bm,ob,b1,b2,aH b3 (other b3 (λxs n z=>by rw[b6] at z;cases z) (λz=>by rw[b4] at z;cases z)),b4,b5,b6⟩
  have e0:qoQ P w K mg (qku ae.heap H) callerA [] ae H:=⟨rfl,hM,λb o e=>qpX e,Nat.le_of_eq (qkt _ _),trivial,λb hb=>absurd (show b∈([]:List Addr) from hb) (by simp),hok,.of_eq hg⟩
  refine codeAny_mono ((F _ jm (fQ fU) hCb hBb).run callerA [] ae H ⟨[.ref a],[]⟩ [.ref a] [.ref a] _ _ hr e0 (fv ae (.ref a)) (.cons rfl .nil) (dQ H hO hS)) λr s' h=> ?_;cases r with
  |error e=>exact(iH H e s' h).elim
  |ok fl=>
   cases fl with
   |next|brk|cont=>exact False.elim h
   |ret u=>
    obtain⟨v,H',os,bare,un,eZ,r',q⟩:=h;have q':v= .bl true:=q;subst q';obtain rfl:u=Value.bool true:=r';have old: ∀b o,b∉aw.map (·.2)->ae.heap.get? b=some o->s'.heap.get? b=some o:=λb o bK e=>by
     cases q:H b with
     |none=>exact un.keep b o e q (by intro z;exact absurd (show b∈([]:List Addr) from z) (by simp)) (by simp)
     |some u=>
      rcases hO.2 b bK with z|⟨ob,xs,z⟩
      ·rw[q] at z;cases z
      ·have z2:=un.frzs b ob _ z;obtain⟨e1,_⟩:=hok b _ z;obtain⟨e2,_⟩:=eZ b _ z2;rw[e] at e1;cases e1;exact e2
    have tb: ∀T∈aw.map (·.2),∃more,s'.heap.get? T=some (W.tabObj (#[]++more)):=λT dF=>by obtain⟨more,hT'⟩:=un.tbls T _ (hO.1 T dF);exact⟨more,eZ T _ hT'⟩
    refine⟨rfl,⟨λb o e=> ?_,λb o e=> ?_⟩,os,bare⟩
    ·by_cases z:b∈aw.map (·.2)
     ·obtain⟨more,iE⟩:=tb b z;rw[hT b z] at e;cases e;obtain⟨p,hp,rfl⟩:=List.mem_map.mp z;exact .inr (.inl ⟨((hC p hp).tab (hT _ z)).isCodeTable,rfl, #[],more,rfl,iE⟩)
     ·exact .inl (old b o z e)
    ·by_cases z:b∈aw.map (·.2)
     ·obtain⟨more,iE⟩:=tb b z;exact⟨_,iE⟩
     ·exact⟨o,old b o z e⟩
 have aT:a∉aw.map (·.2):=λz=>by rw[hT a z] at ha;cases ha
 cases hk:K.lookup a with
 |some o=>
  have e:=KX a o hk;rw[ha] at e;cases e;refine core (λb=>if b∈aw.map (·.2) then some (.tbl #[]) else none) ⟨λT dF=>if_pos dF,λb hb=>.inl (if_neg hb)⟩ (.inr ⟨_,vs.toArray,_,hk,rfl,rfl,rfl,by rw[List.size_toArray,gL];exact hl,by simpa using rv⟩) (λb u z=> ?_) (λb z=> ?_) λz=>absurd (if_neg aT) z
  ·by_cases hb:b∈aw.map (·.2)
   ·have z':=(if_pos hb).symm.trans z;cases z';exact hT b hb
   ·have z':=(if_neg hb).symm.trans z;cases z'
  ·by_cases hb:b∈aw.map (·.2)
   ·exact .inr hb
   ·exact absurd (if_neg hb) z
 |none=>
  refine core (λb=>if b∈aw.map (·.2) then some (.tbl #[]) else if b=a then some (.frz { cls:=.type "list",data:=.seq vs.toArray } (.lst (ns.map V.int))) else none) ⟨λT dF=>if_pos dF,λb bK=> ?_⟩ (.inl (.inr ⟨{ cls:=.type "list",data:=.seq vs.toArray },(if_neg aT).trans (if_pos rfl)⟩)) (λb u z=> ?_) (λb z=> ?_) λ_=>hk
  ·by_cases hb:b=a
   ·exact .inr ⟨_,_,(if_neg bK).trans (if_pos hb)⟩
   ·exact .inl ((if_neg bK).trans (if_neg hb))
  ·by_cases bK:b∈aw.map (·.2)
   ·have z':=(if_pos bK).symm.trans z;cases z';exact hT b bK
   ·by_cases hb:b=a
    ·have z':=((if_neg bK).trans (if_pos hb)).symm.trans z;cases z';subst hb;exact⟨ha,by rw[List.length_map];exact hl,vs,_,rv,ha⟩
    ·have z':=((if_neg bK).trans (if_neg hb)).symm.trans z;cases z'
  ·by_cases bK:b∈aw.map (·.2)
   ·exact .inr bK
   ·by_cases hb:b=a
    ·exact .inl hb
    ·exact absurd ((if_neg bK).trans (if_neg hb)) z
theorem walk_ofTs{l:W.OpenLaw}{n k:Nat}{q:Program}{loose:List Str}{XP:(Str->Option Value)->Heap->Prop}{YP:World->Heap->Prop}{d:DefRec}{K:Params->W.Frag}{CX:World->CXT}{sp:World->List (Addr×Addr)->Sp}{x:Str}{ys:List Str}(hn:l.most=some n)(fV:n<=sizeLine)(fm:d.params.defaults=[])(hr:qbl k callerA)(hY: ∀(w:World)(h:Heap),YP w h->(K w.params).In h)(c8: ∀y∈ys,∃dx,(recsOf q).find? (λe=>e.name==y)=some dx)(F: ∀(w:World)(mg:Str->Option Value)(fa:Addr)(h:Heap),(K w.params).In h->h.Ns mainGlobals mg->mg d.name=some (.ref fa)->
   ∃(fd:FuncData)(aw:List (Addr×Addr)),ys.map (W.tabIn (K w.params))=aw.map some/\(∀T∈aw.map (·.2),(K w.params).lookup T=none)/\(∀(s:Shared)(u:Value),BindsTo s fd ⟨[u],[]⟩ [(x,u)])/\
    (∀base:Heap,(K w.params).In base->base.Ns mainGlobals mg->(∀p∈aw,W.CodeHd base p.1 p.2)->qfI mg base->qcC l.prog w (K w.params) mg base (CX w) k fa fd [x] (sp w aw)))(dQ: ∀(w:World)(aw:List (Addr×Addr))(H:Hp)(a:Addr)(ns:List Int),ns.length<=n->qhP (aw.map (·.2)) H->SqL (K w.params) H a (ns.map V.int)->sp w aw [.ref a] H (λv _=>v= .bl true) λ_ _ _=>False)(iH: ∀(w:World)(H:Hp)(s:Shared)(e:Value)(s':Shared),CX w [] H s (λ_ _ _=>False) e s'->False):
  W.WalkO q loose XP YP l.row.toRowW d [] (λf vs=>PySem.call f vs):=by
 refine Att.attach_call hn fm λw s₀ ae mg mb fa o pm cd doc a vs ns G Y ho hd bg hX c9 hints hlen hg=> ?_;have KX:=hY w _ Y;obtain⟨fd,aw,ht,hkt,hb,hF⟩:=F w mg fa _ KX G.T.g hX;have each: ∀p∈aw,W.CodeHd _ p.1 p.2/\ae.heap.get? p.2=some _:=λp hp=>by
  have hm:some p∈ys.map (W.tabIn (K w.params)):=by grind
  obtain⟨y,hy,ey⟩:=List.mem_map.mp hm;obtain⟨dx,fX⟩:=c8 y hy;exact W.tab_of G.T KX fX ey
 have hC:=λp hp=>(each p hp).1;have hT: ∀T∈aw.map (·.2),ae.heap.get? T=some _:=λT dF=>by obtain⟨p,hp,rfl⟩:=List.mem_map.mp dF;exact(each p hp).2
 exact qiu KX G.T.g G.T.b G.T.builtins G.T.nolimit hg c9 hints (Vp hlen fV) hr hC hT hkt G.T.bmain hF hb (λH hO hS=>dQ w aw H a ns hlen hO hS) λH e s'=>iH w H _ e s'
end L2
namespace PL
open PySem L2 SR SetL
theorem nodup_fst{β:Type}: ∀{l:List (Addr×β)},(l.map (·.1)).Nodup->∀{a b:Addr×β},a∈l->b∈l->a.1=b.1->a=b
 |[],_,_,_,h,_,_=>by cases h
 |x::l,nd,a,b,ha,hb,e=>by
  rw[List.map_cons,List.nodup_cons] at nd
  rcases List.mem_cons.mp ha with rfl|f7
  ·grind
  ·rcases List.mem_cons.mp hb with rfl|aW
   ·exact absurd (by rw[<-e];exact List.mem_map.mpr ⟨a,f7,rfl⟩) nd.1
   ·exact nodup_fst nd.2 f7 aW e
theorem boot_any':bootBuiltins "any" =some (.builtin "any"):=by decide+kernel
end PL
namespace PySem
end PySem
namespace PL
open PySem L2 SR SetL
end PL
namespace PL
open PySem L2
theorem qpY{P:Program}{w:World}{H:Hp}{h:Heap}{p:Addr}(hp:H p=some (.dK [])): ∀(o:HO)(a:Addr),qaG P w H h a o->qaG P w (upd H p (.dT [])) h a o:=by
 intro o
 induction o with
 |lst xs|tup xs|dK kvs=>exactλa h=>h
 |dT kvs=>
  intro a h;obtain⟨z,y,xs,r,rest⟩:=h;refine⟨z,y,xs,?_,rest⟩;clear rest z y
  induction r with
  |nil=>exact .nil
  |cons c _ ih=>refine .cons ⟨c.1,?_,c.2.2⟩ ih;rw[qad (λz=>by rw[z,hp] at c;cases c.2.1)];exact c.2.1
 |set S n=>exactλa h=>h
 |ins C dx fs=>intro a h;obtain⟨h1,r⟩:=h;exact⟨by rw[qad (λz=>by rw[z,hp] at h1;cases h1)];exact h1,r⟩
 |own x|xd fs|rng lo hi=>exactλa h=>h
 |frz o u ih=>exactλa h=>⟨h.1,ih a h.2⟩
 |_=>exactλa h=>h
theorem Inv.asT{X:Cx}{U:List (Addr×Obj)}{O:St}{H:Hp}{s:Shared}{p:Addr}(I:L2.Inv X U O H s)(hp:H p=some (.dK [])):L2.Inv X U O (upd H p (.dT [])) s:=by
 have no: ∀{b:Addr},H b=none->upd H p (.dT []) b=none:=λ{b} h=>by rw[qad (λz=>by rw[z,hp] at h;cases h)];exact h
 have same: ∀{b:Addr}{o:HO},H b=some o->o≠.dK []->upd H p (.dT []) b=some o:=λ{b o} h n=>by rw[qad (λz=>n (by rw[z,hp] at h;exact(Option.some.inj h).symm))];exact h
 refine⟨I.ok,I.os,I.bare,⟨I.base.keep,I.base.slot,λb o a h e=>no (I.base.free b o a h e),I.base.there,λb xs h=>same (I.base.tups b xs h) (by simp),λb o u h=>same (I.base.frzs b o u h) (by simp),λb ps h=> ?_⟩,I.loc,I.cell,no I.free,λx c h=>no (I.freeC x c h),λq hq=> ?_,λa o h=> ?_,I.len⟩
 ·obtain⟨more,e⟩:=I.base.tbls b ps h;exact⟨more,same e (by simp)⟩
 ·obtain⟨a,b,c⟩:=I.pin q hq;exact⟨a,no b,c⟩
 ·by_cases z:a=p
  ·subst z;rw[qae] at h;cases h;obtain⟨z1,z2,vs,kv,d⟩:=(show qaG X.prog X.w H s.heap a (.dK []) from I.hok a _ hp)
   cases kv;obtain⟨o,es,ep,h1,h2,h3,h4,h5,h6⟩:=d;exact⟨z1,z2,[],.nil,o,es,ep,h1,h2,h3,by generalize es.toList=l at h5⊢;cases h5;rfl,List.nodup_nil⟩
  ·rw[qad z] at h;exact qpY hp o a (I.hok a o h)
open PySem.Spec PyProof.Rows SR SetL
theorem Inv.freeze{X:Cx}{U:List (Addr×Obj)}{O:L2.St}{H:Hp}{s:Shared}{p:Addr}{us:List (Key×V)}(I:Inv X U O H s)(e:H p=some (.dK us)): ∃o,Inv X U O (upd H p (.frz o (.dK us))) s:=by
 obtain⟨hz,hs,vs,kv,o,es,ep,ho,hd⟩:=qqH I.hok e;have nn: ∀b,H b=none->(upd H p (.frz o (.dK us))) b=none:=λb n=>by rw[qad (λz=>by rw[z,e] at n;cases n)];exact n
 have nk: ∀b u,H b=some u->(∀ks,u≠.dK ks)->(upd H p (.frz o (.dK us))) b=some u:=λb u n d=>by rw[qad (λz=>by rw[z,e] at n;cases n;exact d us rfl)];exact n
 have st: ∀b u,qaG X.prog X.w H s.heap b u->qaG X.prog X.w (upd H p (.frz o (.dK us))) s.heap b u:=λb u q=>q.stay (λ_ _ _ q=>q) (λc q=>nk c _ q (by intro _ z;cases z)) λc xs q=>nk c _ q (by intro _ z;cases z)
 refine⟨o,⟨I.ok,I.os,I.bare,⟨I.base.keep,I.base.slot,λb ob a n hx=>nn b (I.base.free b ob a n hx),I.base.there,λb xs q=>nk b _ (I.base.tups b xs q) (by intro _ z;cases z),λb ob u q=>nk b _ (I.base.frzs b ob u q) (by intro _ z;cases z),λb ps q=> ?_⟩,
  I.loc,I.cell,nn _ I.free,λx c q=>nn _ (I.freeC x c q),λq hq=> ?_,λb u q=> ?_,I.len⟩⟩
 ·obtain⟨more,q⟩:=I.base.tbls b ps q;exact⟨more,nk b _ q (by intro _ z;cases z)⟩
 ·obtain⟨a,b,c⟩:=I.pin q hq;exact⟨a,nn _ b,c⟩
 ·by_cases z:b=p
  ·subst z;rw[qae] at q;cases q;exact⟨ho,st _ _ (I.hok _ _ e)⟩
  ·rw[qad z] at q;exact st _ _ (I.hok b u q)
noncomputable def Itd(a:Addr)(o:Obj)(us:List (Key×V)):It:=
 ⟨λi H=>H a=some (.frz o (.dK us))/\i<us.length,λi H x H'=>H'=H/\∃k v,us[i]? =some (k,v)/\x=kV k,λi H=>H a=some (.frz o (.dK us))/\us.length<=i⟩
theorem qgo{P:Program}{w:World}{H:Hp}{h:Heap}{a:Addr}{o:Obj}{us:List (Key×V)}{es:Array DictEntry}{ep:Nat}(hok:HOk P w H h)(e:H a=some (.frz o (.dK us)))(hd:o.data= .dict es ep):
  ∃vs,KV us vs/\h.DictAt (qaq P w) a vs ep/\(a==sysModules)=false/\us.length<=sizeLine:=by obtain⟨h1,hz,hs,vs,kv,o',bj,gn,h2,hx,dA,r⟩:=hok a _ e;rw[h1] at h2;cases h2;rw[hd] at dA;cases dA;exact⟨vs,kv,⟨o,es,h1,hx,hd,r⟩,hs,hz⟩
theorem qje{P:Program}{w:World}{K:W.Frag}{tg:Expr}{a it:Addr}{o:Obj}{us:List (Key×V)}{es:Array DictEntry}{ep:Nat}(hd:o.data= .dict es ep):qre P w K tg (Itd a o us) [it] it (λi h=>h.IsKeyIter it a i us.length ep) where
 mem:=by simp
 obj:=λi h st b hb=>by
  have e:b=it:=by simpa using hb
  subst e;obtain⟨o,e,c,d⟩:=st;exact⟨o,e,λv z=>by rw[d] at z;cases z⟩
 keep:=λi h h' st k=>st.at λo e=>k it (by simp) o e
 item:=by
  intro X hP hw hK hc i U s O H E I hf st hg;subst hP hw hK;obtain⟨ha,hi⟩:=hg;obtain⟨vs,kv,hA,_,_⟩:=qgo I.hok ha hd;have lv:=kv.length;rw[lv] at st;obtain⟨⟨k,x⟩,hx⟩: ∃p,vs[i]? =some p:=⟨vs[i]'(by omega),by simp⟩
  obtain⟨v,hu,_⟩:=kv.get hx;obtain⟨f0,f1,f2,f3,f4,f5⟩:=hf it (by simp);refine wpAny_pyNext_dict_item st hA hx λkey h' hk aF sb=> ?_;have I1:Inv X U O H { s with heap:=h' }:=I.turned (t':=s.toks) (λb o hb e=>(sb.2 b hb).trans e) f0 f1 f3 f4 f5;obtain⟨o',e,c,d⟩:=id aF;rw[<-lv] at aF;exact⟨key,rfl,qky (s:={ s with heap:=h' }) e c d (by decide) ⟨kV k,H,I1,is_kV hk,⟨rfl,k,v,hu,rfl⟩,aF,λb hb=>(hf b hb).1⟩⟩
 done:=by intro X hP hw hK hc i U s O H E I hf st hg;subst hP hw hK;obtain⟨ha,hi⟩:=hg;obtain⟨vs,kv,hA,_,_⟩:=qgo I.hok ha hd;have lv:=kv.length;rw[lv] at st;obtain⟨f0,f1,f2,f3,f4,f5⟩:=hf it (by simp);exact wpAny_pyNext_dict_end (I.ok.hd hc) st hA (by simp;omega) λh' eb=>⟨rfl,I.turned (t':=s.toks) (λb o hb e=>eb b o hb e) f0 f1 f3 f4 f5⟩
 self:=λ_ _ _ _ _ st h=>wpAny_pyIter_keyiter st h
noncomputable def qyU(tl:TE):TI:=λO H R=>tl O H λx H1=> ∃a o us,x= .ref a/\H1 a=some (.frz o (.dK us))/\(us.length<=sizeLine->R (Itd a o us) H1)
section
variable{X:Cx}{tg e l:Expr}{tl:TE}
theorem pi_dict(hl:PE X l tl):PI X tg l (qyU tl):=by
 intro U s O H R I h;refine thn (hl U s O H _ I h) λv s1 hq=> ?_;obtain⟨x,H1,I1,r1,a,o,us,e,ha,q⟩:=hq;subst e;cases r1;obtain⟨h1,hz,hs,vs0,kv0,o',es,ep,h2,hx,hd,_⟩:=I1.hok a _ ha;rw[h1] at h2;cases h2;obtain⟨vs,kv,hA,_,_⟩:=qgo I1.hok ha hd;refine wpAny_pyIter_dict hs hA ?_;have lv:=kv.length;refine⟨s1.heap.objs.size,[s1.heap.objs.size],_,_,H1,rfl,I1.kept (t':=s1.toks) λb o e=>Vg _ e,qje hd,⟨_,Vh _ rfl,rfl,by rw[lv];rfl⟩,λb hb=> ?_,q hz⟩;have e:b=s1.heap.objs.size:=by simpa using hb
 subst e;exact I1.fpOk (Vm _) (I1.hok.fresh (Vm _))
end
end PL
namespace NV
open PySem L2
structure Gam where
 P:Hp->Prop
 st: ∀H H':Hp,(∀a o,H a=some o->(∀xs,o≠.lst xs)->(∀xs,o≠.dK xs)->(∀xs,o≠.dT xs)->(∀C dx fs,o≠.ins C dx fs)->H' a=some o)->P H->P H'
structure Md where
 K:W.Frag
 G:Gam
noncomputable def qeB(K:W.Frag)(B:qaI):Ct->HO->Prop
 |.ls ts,o=> ∃vs,o= .lst vs/\Reps K B ts vs
 |.dk kvs,o=> ∃us,o= .dK us/\qbc K B kvs us
 |.du kvs,o=> ∃us,o= .dT us/\qbc K B kvs us
 |.ins c fs,o=> ∃dx vs,o= .ins (clA K c) dx vs/\qbc K B fs vs
 |.gone,_=>True
theorem qeB.mono(h:qeB K B c o)(le:Le B B'):qeB K B' c o:=by
 cases c with
 |ls ts|dk ts|du ts=>obtain⟨vs,e,r⟩:=h;exact⟨vs,e,r.mono le⟩
 |ins c ts=>obtain⟨dx,vs,e,r⟩:=h;exact⟨dx,vs,e,r.mono le⟩
 |gone=>trivial
noncomputable def Mb(o:HO):Prop:=(∃xs,o= .lst xs)\/(∃xs,o= .dK xs)\/(∃xs,o= .dT xs)\/∃C dx fs,o= .ins C dx fs
theorem qeB.mb(h:qeB K B c o)(n:c≠.gone):Mb o:=by
 cases c with
 |ls ts=>obtain⟨vs,e,r⟩:=h;exact .inl ⟨_,e⟩
 |dk ts=>obtain⟨vs,e,r⟩:=h;exact .inr (.inl ⟨_,e⟩)
 |du ts=>obtain⟨vs,e,r⟩:=h;exact .inr (.inr (.inl ⟨_,e⟩))
 |ins c ts=>obtain⟨dx,vs,e,r⟩:=h;exact .inr (.inr (.inr ⟨_,_,_,e⟩))
 |gone=>exact absurd rfl n
structure Hs(M:Md)(Z:Mu)(H:Hp)(B:qaI):Prop where
 bh: ∀a o,B a=some o->H a=some o
 bt: ∀a ps,B a≠some (.tbl ps)
 gm:M.G.P H
 st: ∀k c,Z.l[k]? =some c->c≠.gone->∃a o,B.ad k=some a/\B a=none/\H a=some o/\qeB M.K B c o
 ij: ∀j k a,B.ad j=some a->B.ad k=some a->j=k
 dm: ∀k a,B.ad k=some a->k<Z.l.length/\H a≠none
 lk: ∀k c,Z.l[k]? =some c->ubC c<=k\/∃p∈Z.k,p.1=k/\ubC c<=p.2
 ln: ∀p∈Z.k,p.2<=Z.l.length
noncomputable def qaI.upd(B:qaI)(p:Addr)(o:HO):qaI:=⟨L2.upd B.hp p o,B.ad⟩
noncomputable def qaI.add(B:qaI)(k:Nat)(p:Addr):qaI:=⟨B.hp,λj=>if j=k then some p else B.ad j⟩
section
theorem Hs.fr(h:Hs M Z H B)(hp:H p=none):B p=none:=by
 cases e:B p with
 |none=>rfl
 |some u=>rw[h.bh _ _ e] at hp;cases hp
theorem Hs.upd_le(h:Hs M Z H B)(hp:B p=none):Le B (B.upd p o):=⟨λa u e=>by show L2.upd _ p o a=_;rw[qad (qao e hp)];exact e,λ_ _ e=>e⟩
theorem qoo{M:Md}(h:M.G.P H)(hp:H p=none):M.G.P (L2.upd H p o):=M.G.st H _ (λa u e _ _ _ _=>by rw[qad (qao e hp)];exact e) h
theorem Hs.more(h:Hs M Z H B)(k: ∀a o,H a=some o->H' a=some o):Hs M Z H' B:=
 ⟨λa o e=>k a o (h.bh a o e),h.bt,M.G.st H H' (λa o e _ _ _ _=>k a o e) h.gm,λj c e n=>by
  obtain⟨a,o,e1,e2,e3,e4⟩:=h.st j c e n
  simp_all,h.ij,λj a e=>⟨(h.dm j a e).1,λz=>by
  cases q:H a with
  |none=>exact(h.dm j a e).2 q
  |some u=>grind⟩,h.lk,h.ln⟩
theorem Hs.new{B:qaI}(h:Hs M Z H B)(hp:H p=none)(ho: ∀ps,o≠.tbl ps):Hs M Z (L2.upd H p o) (B.upd p o):=by
 have bp:=h.fr hp;have le:=h.upd_le (o:=o) bp;refine⟨λa u e=> ?_,λa ps e=> ?_,qoo h.gm hp,λj c e n=> ?_,h.ij,λj a e=>⟨(h.dm j a e).1,?_⟩,h.lk,h.ln⟩
 ·have e:L2.upd _ p o a=some u:=e;by_cases q:a=p
  ·subst q;rw[qae] at e⊢;exact e
  ·rw[qad q] at e⊢;exact h.bh _ _ e
 ·have e:L2.upd _ p o a=some _:=e;by_cases q:a=p
  ·subst q;rw[qae] at e;grind
  ·rw[qad q] at e;exact h.bt a ps e
 ·obtain⟨a,u,e1,e2,e3,e4⟩:=h.st j c e n;have ne:=qao e3 hp;exact⟨a,u,e1,by show L2.upd _ p o a=_;rw[qad ne];exact e2,by rw[qad ne];exact e3,e4.mono le⟩
 ·have:=(h.dm j a e).2;rw[qad (λz=>this (by rw[z];exact hp))];exact this
theorem qeB.ub(h:qeB K B c o)(hd: ∀k a,B.ad k=some a->k<n):ubC c<=n:=by
 cases c with
 |ls ts|dk ts|du ts=>obtain⟨vs,e,r⟩:=h;exact r.ub hd
 |ins c ts=>obtain⟨dx,vs,e,r⟩:=h;exact r.ub hd
 |gone=>exact Nat.zero_le _
theorem qeB.cut(h:qeB K B c o)(hu:ubC c<=n):qeB K (B.cut n) c o:=by
 cases c with
 |ls ts|dk ts|du ts=>obtain⟨vs,e,r⟩:=h;exact⟨vs,e,r.cut hu⟩
 |ins c ts=>obtain⟨dx,vs,e,r⟩:=h;exact⟨dx,vs,e,r.cut hu⟩
 |gone=>trivial
theorem Hs.own{M:Md}{Z:Mu}{B:qaI}(h:Hs M Z H B)(hp:H p=none)(hc:qeB M.K (B.add Z.l.length p) c o):Hs M (Z.add c) (L2.upd H p o) (B.add Z.l.length p)/\Le B (B.add Z.l.length p):=by
 have le:Le B (B.add Z.l.length p):=⟨λ_ _ e=>e,λj a e=>by
  show(if j=Z.l.length then some p else B.ad j)=_;rw[if_neg (Nat.ne_of_lt (h.dm j a e).1)];exact e⟩
 have iX: ∀j,B.ad j≠some p:=λj e=>(h.dm j p e).2 hp;have ad: ∀{j a},(B.add Z.l.length p).ad j=some a->(j=Z.l.length/\a=p)\/(B.ad j=some a/\j<Z.l.length):=λ{j a} e=>by
  have e:(if j=Z.l.length then some p else B.ad j)=some a:=e;split at e
  ·rename_i q;cases e;exact .inl ⟨q,rfl⟩
  ·exact .inr ⟨e,(h.dm j a e).1⟩
 have hd: ∀j a,(B.add Z.l.length p).ad j=some a->j<Z.l.length+1:=λj a e=>by rcases ad e with⟨z,_⟩|⟨_,z⟩<;>omega
 have uc:=hc.ub hd;have ga: ∀{j:Nat}{d:Ct},(Z.l++[c])[j]? =some d->(j<Z.l.length/\Z.l[j]? =some d)\/(j=Z.l.length/\d=c):=λ{j d} e=>by
  by_cases q:j<Z.l.length
  ·rw[List.getElem?_append_left q] at e;exact .inl ⟨q,e⟩
  ·rw[List.getElem?_append_right (by omega)] at e;have:=(List.getElem?_eq_some_iff.mp e).1;have q':j=Z.l.length:=by simp at this;omega
   subst q';simp at e;exact .inr ⟨rfl,e.symm⟩
 refine⟨⟨λa u e=> ?_,h.bt,qoo h.gm hp,λj d e n=> ?_,λi j a e1 e2=> ?_,λj a e=> ?_,λj d e=> ?_,λq hq=> ?_⟩,le⟩
 ·rw[qad (qao (h.bh a u e) hp)];exact h.bh a u e
 ·rcases ga e with⟨q,e⟩|⟨rfl,rfl⟩
  ·obtain⟨a,u,e1,e2,e3,e4⟩:=h.st j d e n;exact⟨a,u,le.d _ _ e1,e2,by rw[qad (qao e3 hp)];exact e3,e4.mono le⟩
  ·exact⟨p,o,by show(if Z.l.length=Z.l.length then some p else _)=_;rw[if_pos rfl],h.fr hp,qae,hc⟩
 ·rcases ad e1 with⟨rfl,rfl⟩|⟨e1,l1⟩
  ·rcases ad e2 with⟨rfl,_⟩|⟨e2,l2⟩
   ·rfl
   ·exact absurd e2 (iX j)
  ·rcases ad e2 with⟨_,z⟩|⟨e2,l2⟩
   ·rw[z] at e1;exact absurd e1 (iX i)
   ·exact h.ij i j a e1 e2
 ·show j<(Z.l++[c]).length/\_;rw[List.length_append,List.length_singleton]
  rcases ad e with⟨z1,z⟩|⟨e,l⟩
  ·rw[z];exact⟨by omega,by rw[qae];simp⟩
  ·have:=(h.dm j a e).2;exact⟨by omega,by rw[qad (λz=>this (by rw[z];exact hp))];exact this⟩
 ·show ubC d<=j\/∃q∈(if ubC c<=Z.l.length then Z.k else(Z.l.length,ubC c)::Z.k),_
  rcases ga e with⟨q,e⟩|⟨rfl,rfl⟩
  ·rcases h.lk j d e with z|⟨q,hq,z⟩
   ·exact .inl z
   ·exact .inr ⟨q,by split<;>simp[hq],z⟩
  ·split
   ·rename_i z;exact .inl z
   ·exact .inr ⟨_,Vk,rfl,Vm _⟩
 ·have hq:q∈(if ubC c<=Z.l.length then Z.k else(Z.l.length,ubC c)::Z.k):=hq;show q.2<=(Z.l++[c]).length;rw[List.length_append,List.length_singleton];split at hq
  ·exact Nat.le_succ_of_le (h.ln q hq)
  ·rcases List.mem_cons.mp hq with rfl|hq
   ·exact uc
   ·exact Nat.le_succ_of_le (h.ln q hq)
theorem Hs.at(h:Hs M Z H B)(e:Z.l[k]? =some c)(n:c≠.gone)(ha:B.ad k=some a): ∃o,B a=none/\H a=some o/\qeB M.K B c o:=by
 obtain⟨a',o,e1,e2,e3,e4⟩:=h.st k c e n
 simp_all
theorem Hs.put(h:Hs M Z H B)(e:Z.l[k]? =some c)(n:c≠.gone)(ha:B.ad k=some a)(hc:qeB M.K B c' o):Hs M (Z.put k c') (L2.upd H a o) B:=by
 obtain⟨u,b0,hu,cu⟩:=h.at e n ha;have mb:=cu.mb n;have hk:k<Z.l.length:=(List.getElem?_eq_some_iff.mp e).1;have uc:=hc.ub λj a e=>(h.dm j a e).1;have ga: ∀{j:Nat}{d:Ct},(Z.l.set k c')[j]? =some d->(k≠j/\Z.l[j]? =some d)\/(k=j/\d=c'):=λ{j d} e=>by
  rw[List.getElem?_set] at e;split at e
  ·rename_i q
   (try rw[if_pos hk] at e);cases e;exact .inr ⟨q,rfl⟩
  ·rename_i q;exact .inl ⟨q,e⟩
 refine⟨λb v z=> ?_,h.bt,M.G.st H _ (λb v z n1 n2 n3 n4=> ?_) h.gm,λj d ej nj=> ?_,h.ij,λj b z=> ?_,λj d ej=> ?_,λq hq=> ?_⟩
 ·rw[qad (λq=>by rw[q,b0] at z;cases z)];exact h.bh b v z
 ·refine(qad λq=> ?_).trans z;rw[q,hu] at z;cases z
  rcases mb with⟨_,rfl⟩|⟨_,rfl⟩|⟨_,rfl⟩|⟨_,_,_,rfl⟩
  ·exact n1 _ rfl
  ·exact n2 _ rfl
  ·exact n3 _ rfl
  ·exact n4 _ _ _ rfl
 ·rcases ga ej with⟨q,ej⟩|⟨rfl,rfl⟩
  ·obtain⟨b,v,e1,e2,e3,e4⟩:=h.st j d ej nj;exact⟨b,v,e1,e2,by rw[qad (λz=>q (h.ij k j a ha (by rw[<-z];exact e1)))];exact e3,e4⟩
  ·exact⟨a,o,ha,b0,qae,hc⟩
 ·show j<(Z.l.set k c').length/\_;rw[List.length_set];refine⟨(h.dm j b z).1,?_⟩;by_cases q:b=a
  ·rw[q,qae];simp
  ·rw[qad q];exact(h.dm j b z).2
 ·show ubC d<=j\/∃q∈(if ubC c'<=k then Z.k else(k,ubC c')::Z.k),_
  rcases ga ej with⟨_,ej⟩|⟨rfl,rfl⟩
  ·rcases h.lk j d ej with z|⟨q,hq,z⟩
   ·exact .inl z
   ·exact .inr ⟨q,by split<;>simp[hq],z⟩
  ·split
   ·rename_i z;exact .inl z
   ·exact .inr ⟨_,Vk,rfl,Vm _⟩
 ·have hq:q∈(if ubC c'<=k then Z.k else(k,ubC c')::Z.k):=hq;show q.2<=(Z.l.set k c').length;rw[List.length_set];split at hq
  ·exact h.ln q hq
  ·rcases List.mem_cons.mp hq with rfl|hq
   ·exact uc
   ·exact h.ln q hq
theorem Hs.cut(h:Hs M Z H B)(ks:List (Nat×Nat))(hn: ∀q∈Z.k,n<=q.1\/(q∈ks/\q.2<=n))(hk: ∀q∈ks,q.2<=n)(hl:n<=Z.l.length):Hs M ⟨Z.l.take n,ks⟩ H (B.cut n):=by
 have ad: ∀{j a},(B.cut n).ad j=some a->j<n/\B.ad j=some a:=λ{j a} e=>by
  have e:(if j<n then B.ad j else none)=some a:=e;split at e
  ·rename_i q;exact⟨q,e⟩
  ·cases e
 have ga: ∀{j:Nat}{d:Ct},(Z.l.take n)[j]? =some d->j<n/\Z.l[j]? =some d:=λ{j d} e=>by
  rw[List.getElem?_take] at e;split at e
  ·rename_i q;exact⟨q,e⟩
  ·cases e
 have uu: ∀{j:Nat}{d:Ct},j<n->Z.l[j]? =some d->ubC d<=n:=λ{j d} hj e=>by
  rcases h.lk j d e with z|⟨q,hq,z1,z2⟩
  ·omega
  grind
 refine⟨h.bh,h.bt,h.gm,λj d e nj=> ?_,λi j a e1 e2=>h.ij i j a (ad e1).2 (ad e2).2,λj a e=> ?_,λj d e=> ?_,λq hq=> ?_⟩
 ·obtain⟨hj,e⟩:=ga e;obtain⟨a,u,e1,e2,e3,e4⟩:=h.st j d e nj;exact⟨a,u,by show(if j<n then B.ad j else none)=_;rw[if_pos hj];exact e1,e2,e3,e4.cut (uu hj e)⟩
 ·obtain⟨hj,e⟩:=ad e;exact⟨by show j<(Z.l.take n).length;rw[List.length_take];omega,(h.dm j a e).2⟩
 ·obtain⟨hj,e⟩:=ga e
  rcases h.lk j d e with z|⟨q,hq,z1,z2⟩
  ·exact .inl z
  ·rcases hn q hq with y|⟨y,_⟩
   ·omega
   ·exact .inr ⟨q,y,z1,z2⟩
 grind
end
structure Go(H:Hp)(B:qaI)(H':Hp)(B':qaI):Prop where
 le:Le B B'
 un: ∀a o,H a=some o->(∀k,B.ad k≠some a)->(∀ps,o≠.tbl ps)->H' a=some o
 nw: ∀k a,B'.ad k=some a->B.ad k=some a\/H a=none
 dm: ∀a,H a≠none->H' a≠none
 nb: ∀a o,H a=some o->(∀k,B.ad k≠some a)->(∀vs,o≠.tup vs)->(∀ps,o≠.tbl ps)->B' a=B a
theorem Go.refl:Go H B H B:=⟨.refl _,λ_ _ e _ _=>e,λ_ _ e=>.inl e,λ_ e=>e,λ_ _ _ _ _ _=>rfl⟩
theorem Go.off(g:Go H B H1 B1)(e:H a≠none)(n: ∀k,B.ad k≠some a): ∀k,B1.ad k≠some a:=λk z=>by
 rcases g.nw k a z with q|q
 ·exact n k q
 ·exact e q
theorem Go.trans(g:Go H B H1 B1)(g':Go H1 B1 H2 B2):Go H B H2 B2:=
 ⟨g.le.trans g'.le,λa o e n t=>g'.un a o (g.un a o e n t) (g.off (by rw[e];simp) n) t,λk a z=>by
  rcases g'.nw k a z with q|q
  ·exact g.nw k a q
  ·exact .inr (by
   cases y:H a with
   |none=>rfl
   |some o=>exact absurd q (g.dm a (by rw[y];simp))),λa e=>g'.dm a (g.dm a e),
  λa o e n t1 t2=>(g'.nb a o (g.un a o e n t2) (g.off (by rw[e];simp) n) t1 t2).trans (g.nb a o e n t1 t2)⟩
section
theorem Go.more(k: ∀a o,H a=some o->H' a=some o):Go H B H' B:=by
 refine⟨.refl _,λa o e _ _=>k a o e,λ_ _ e=>.inl e,λa e z=> ?_,λ_ _ _ _ _ _=>rfl⟩;cases y:H a with
 |none=>exact e y
 |some o=>grind
theorem Hs.gnew(h:Hs M Z H B)(hp:H p=none):Go H B (L2.upd H p o) (B.upd p o):=
 ⟨h.upd_le (h.fr hp),λa u e _ _=>by rw[qad (qao e hp)];exact e,λ_ _ e=>.inl e,λa e z=>by
  by_cases q:a=p
  ·subst q;exact e hp
  ·rw[qad q] at z;exact e z,λa u e _ _ _=>by show L2.upd _ p o a=_;rw[qad (qao e hp)]⟩
theorem Hs.gown(h:Hs M Z H B)(hp:H p=none):Go H B (L2.upd H p o) (B.add Z.l.length p):=
 ⟨(h.own (c:=.gone) (o:=o) hp trivial).2,λa u e _ _=>by rw[qad (qao e hp)];exact e,λj a e=>by
  have e:(if j=Z.l.length then some p else B.ad j)=some a:=e
  grind,λa e z=>by
  by_cases q:a=p
  ·subst q;exact e hp
  ·rw[qad q] at z;exact e z,λ_ _ _ _ _ _=>rfl⟩
theorem qws(ha:B.ad k=some a):Go H B (L2.upd H a o) B:=
 ⟨.refl _,λb u e n _=>by rw[qad (λz=>n k (by rw[z];exact ha))];exact e,λ_ _ e=>.inl e,λb e z=>by
  by_cases q:b=a
  ·rw[q,qae] at z;cases z
  ·rw[qad q] at z;exact e z,λ_ _ _ _ _ _=>rfl⟩
noncomputable def hid(D:Addr)(H:Hp):Hp:=λa=>if a=D then none else H a
theorem qch(h:a≠D):hid D H a=H a:=if_neg h
theorem qfi:hid D H D=none:=if_pos rfl
theorem qks(h:hid D H a=some o):H a=some o/\a≠D:=by
 unfold hid at h
 grind
theorem Go.hid(g:Go H B H' B'):Go (hid D H) B (NV.hid D H') B':=
 ⟨g.le,λa o e n t=>by obtain⟨e,q⟩:=qks e;rw[qch q];exact g.un a o e n t,λk a z=>(g.nw k a z).imp id λz=>by unfold NV.hid;grind,
  λa e=>by
   by_cases q:a=D
   ·rw[q,qfi] at e;exact absurd rfl e
   ·rw[qch q] at e⊢;exact g.dm a e,λa o e n t1 t2=>g.nb a o (qks e).1 n t1 t2⟩
theorem Hs.loose(h:Hs M Z H B)(hb:B D=none)(hn: ∀k,B.ad k≠some D)(ho: ∀a,a≠D->H' a=H a)(hm: ∀u,H D=some u->Mb u):Hs M Z H' B:=
 ⟨λa o e=>by rw[ho a (λz=>by grind)];exact h.bh a o e,h.bt,M.G.st H H' (λa o e n1 n2 n3 n4=>by
  rw[ho a (λz=>by
   rw[z] at e
   rcases hm o e with⟨_,rfl⟩|⟨_,rfl⟩|⟨_,rfl⟩|⟨_,_,_,rfl⟩
   ·exact n1 _ rfl
   ·exact n2 _ rfl
   ·exact n3 _ rfl
   ·exact n4 _ _ _ rfl)];exact e) h.gm,λj c e n=>by
  obtain⟨a,o,e1,e2,e3,e4⟩:=h.st j c e n;exact⟨a,o,e1,e2,by grind,e4⟩,h.ij,λj a e=>⟨(h.dm j a e).1,by rw[ho a (λz=>hn j (by rw[<-z];exact e))];exact(h.dm j a e).2⟩,h.lk,h.ln⟩
end
abbrev Ro:=List (Option T)
structure Ev(M:Md)(ρ:Ro)(Z:Mu)(O:St)(H:Hp)(B:qaI):Prop where
 hs:Hs M Z H B
 len:ρ.length=O.length
 sl: ∀(i:Nat)(t:T),ρ[i]? =some (some t)->∃v,O[i]? =some (some v)/\Rep M.K B t v
section
theorem Ev.on(v:Ev M ρ Z O H B)(h:Hs M μ' H' B')(le:Le B B'):Ev M ρ μ' O H' B':=
 ⟨h,v.len,λi t e=>by obtain⟨x,a,b⟩:=v.sl i t e;exact⟨x,a,b.mono le⟩⟩
theorem Ev.set(v:Ev M ρ Z O H B)(r:Rep M.K B t x):Ev M (ρ.set i (some t)) Z (O.set i (some x)) H B:=by
 refine⟨v.hs,by simp[v.len],λj u e=> ?_⟩;rw[List.getElem?_set] at e⊢;split at e
 ·rename_i q;split at e
  ·rename_i l;cases e;rw[if_pos q,if_pos (v.len▸l)];exact⟨x,rfl,r⟩
  ·cases e
 ·rename_i q;rw[if_neg q];exact v.sl j u e
end
noncomputable def Wn(M:Md)(E:XK)(H:Hp)(B:qaI){α:Type}(k:α->Mu->Prop):R α->Prop
 |.no=>False
 |.ok a Z=>k a Z
 |.ex c Z=> ∀H' B',Hs M Z H' B'->Go H B H' B'->E (.ref (clA M.K c)) none H'
section
theorem Wn.bind(h:Wn M E H B k (r.bind f)):Wn M E H B (λa Z=>Wn M E H B k (f a Z)) r:=by cases r<;>exact h
theorem Wn.mono(h:Wn M E H B k r)(f: ∀a Z,k a Z->k' a Z):Wn M E H B k' r:=by
 cases r with
 |no=>exact h
 |ok a m=>exact f _ _ h
 |ex c m=>exact h
theorem Wn.le(h:Wn M E H B k r)(g:Go H B H1 B1):Wn M E H1 B1 k r:=by
 cases r with
 |no|ok a m=>exact h
 |ex c m=>exactλH' B' hs l=>h H' B' hs (g.trans l)
theorem Wn.pl(h:Wn M E H B k r)(p: ∀c m,r≠.ex c m): ∃a m,r= .ok a m/\k a m:=by
 cases r with
 |no=>exact h.elim
 |ok a m=>exact⟨a,m,rfl,h⟩
 |ex c m=>simp_all
theorem Wn.lift(h:Wn M E H B k r)(g:Go H B H1 B1)(f: ∀a Z,k a Z->k' a Z):Wn M E H1 B1 k' r:=(h.le g).mono f
end
noncomputable def KE(M:Md)(H:Hp)(B:qaI)(Q:VK):T->Mu->Prop:=λt Z=> ∀v H' B',Hs M Z H' B'->Go H B H' B'->Rep M.K B' t v->Q v H'
noncomputable def KA(M:Md)(H:Hp)(B:qaI)(Q:List V->Hp->Prop):List T->Mu->Prop:=λt Z=> ∀v H' B',Hs M Z H' B'->Go H B H' B'->Reps M.K B' t v->Q v H'
noncomputable def KT(M:Md)(H:Hp)(B:qaI)(Q:Bool->Hp->Prop):Bool->Mu->Prop:=λt Z=> ∀H' B',Hs M Z H' B'->Go H B H' B'->Q t H'
noncomputable def KN(M:Md)(H:Hp)(B:qaI)(Q:VK):Ct->Mu->Prop:=λc Z=> ∀p o H' B',Hs M Z H' B'->Go H B H' B'->H' p=none->qeB M.K B' c o->Q (.ref p) (upd H' p o)
abbrev DS0(α:Type):=Ro->Mu->R α
noncomputable def tE(M:Md)(E:XK)(d:DS0 T):TE:=λO H Q=> ∃ρ Z B,Ev M ρ Z O H B/\Wn M E H B (KE M H B Q) (d ρ Z)
noncomputable def tA(M:Md)(E:XK)(d:DS0 (List T)):TA:=λO H Q=> ∃ρ Z B,Ev M ρ Z O H B/\Wn M E H B (KA M H B Q) (d ρ Z)
noncomputable def tT(M:Md)(E:XK)(d:DS0 Bool):TT:=λO H Q=> ∃ρ Z B,Ev M ρ Z O H B/\Wn M E H B (KT M H B Q) (d ρ Z)
noncomputable def tN(M:Md)(E:XK)(d:DS0 Ct):TE:=λO H Q=> ∃ρ Z B,Ev M ρ Z O H B/\Wn M E H B (KN M H B Q) (d ρ Z)
theorem PE.weak(h:PE X e t)(w: ∀O H Q,t' O H Q->t O H Q):PE X e t':=λU s O H Q I q=>h _ s O H Q I (w O H Q q)
theorem PT.weak(h:PT X e t)(w: ∀O H Q,t' O H Q->t O H Q):PT X e t':=λU s O H Q I q=>h _ s O H Q I (w O H Q q)
theorem PW.weak(h:PW X e t)(w: ∀O H Q,t' O H Q->t O H Q):PW X e t':=λwh U s O H Q I q=>h wh _ s O H Q I (w O H Q q)
theorem PA.weak(h:PA X e t)(w: ∀O H Q,t' O H Q->t O H Q):PA X e t':=λpos U s O H Q I q=>h pos _ s O H Q I (w O H Q q)
theorem PS.weak(h:PS X e t)(w: ∀D O H,t' D O H->t D O H):PS X e t':=λU s O H D I q=>h _ s O H D I (w D O H q)
theorem PSs.weak(h:PSs X e t)(w: ∀D O H,t' D O H->t D O H):PSs X e t':=λU s O H D I q=>h _ s O H D I (w D O H q)
theorem PG.weak(h:PG X e t)(w: ∀v O H Q,t' v O H Q->t v O H Q):PG X e t':=λU s O H v u Q I r q=>h _ s O H v u Q I r (w v O H Q q)
theorem PGs.weak(h:PGs X e t)(w: ∀v O H Q,t' v O H Q->t v O H Q):PGs X e t':=λU s O H v u Q I r q=>h _ s O H v u Q I r (w v O H Q q)
theorem PI.weak(h:PI X tg e t)(w: ∀O H Q,t' O H Q->t O H Q):PI X tg e t':=λU s O H Q I q=>h _ s O H Q I (w O H Q q)
theorem PO.weak(h:PO X e t)(w: ∀O H Q,t' O H Q->t O H Q):PO X e t':=λU s O H Q I q=>h _ s O H Q I (w O H Q q)
section
theorem tE.of(ev:Ev M ρ Z O H B)(h:Wn M E H B (KE M H B Q) (d ρ Z)):tE M E d O H Q:=⟨ρ,Z,B,ev,h⟩
theorem KE.le(h:KE M H B Q t Z)(g:Go H B H1 B1):KE M H1 B1 Q t Z:=λv H' B' hs l r=>h v H' B' hs (g.trans l) r
theorem KT.le(h:KT M H B Q t Z)(g:Go H B H1 B1):KT M H1 B1 Q t Z:=λH' B' hs l=>h H' B' hs (g.trans l)
end
noncomputable def FQ(Q:VK):VK:=λv H=>Q v H\/∃p us,v= .ref p/\H p=some (.dK us)/\∀o,Q v (upd H p (.frz o (.dK us)))
noncomputable def Cl(Q:VK):Prop:= ∀H p us,H p=some (.dK us)->(∀o,Q (.ref p) (upd H p (.frz o (.dK us))))->Q (.ref p) H
theorem qw9:Cl (FQ Q):=λH p us e h=>.inr ⟨p,us,rfl,e,λo=>by
 rcases h o with q|⟨p',us',e1,e2,_⟩
 ·exact q
 ·cases e1;rw[qae] at e2;cases e2⟩
theorem qq2{R:Bool->Hp->Prop}:Cl (λz H=> ∃k,z= .bl k/\R k H):=λH p us e h=>by
 simp_all
theorem PE.cl(h: ∀(U:List (Addr×Obj))(s:Shared)(O:St)(H:Hp)(Q:VK),Cl Q->Inv X U O H s->tE M E d O H Q->wpAny (model X.prog X.w) X.A (eval e X.env) (EP X U O Q) X.xe s):PE X e (tE M E d):=by
 rintro U s O H Q I ⟨ρ,Z,B,ev,q⟩;refine thn (h _ s O H _ qw9 I ⟨ρ,Z,B,ev,q.mono λt Z k v H' B' a b c=>.inl (k v H' B' a b c)⟩) λu s1 h1=> ?_;obtain⟨x,H1,I1,r1,q|⟨p,us,rfl,e,q⟩⟩:=h1
 ·exact⟨x,H1,I1,r1,q⟩
 ·obtain⟨o,I2⟩:=PL.Inv.freeze I1 e;exact⟨_,_,I2,r1,q o⟩
theorem PE.weakF(h:PE X e t)(w: ∀O H Q,Cl Q->tE M E d O H Q->t O H Q):PE X e (tE M E d):=PE.cl λU s O H Q c I q=>h _ s O H Q I (w O H Q c q)
noncomputable def dNo{α:Type}:DS0 α:=λ_ _=>.no
noncomputable def dV(i:Nat):DS0 T:=λρ Z=>match ρ[i]? with|some (some t)=>.ok t Z|_=>.no
noncomputable def dC(t:T):DS0 T:=λ_ Z=>.ok t Z
noncomputable def dSq{α β:Type}(d:DS0 α)(f:α->DS0 β):DS0 β:=λρ Z=>(d ρ Z).bind λa μ'=>f a ρ μ'
noncomputable def qrn:DS0 (List T):=λ_ Z=>.ok [] Z
noncomputable def qua(da:DS0 T)(ds:DS0 (List T)):DS0 (List T):=dSq da λx=>dSq ds λxs _ Z=>.ok (x::xs) Z
noncomputable def dB(g:T->T->Mu->R T)(da db:DS0 T):DS0 T:=dSq da λx=>dSq db λy _ Z=>g x y Z
noncomputable def dU(g:T->Mu->R T)(da:DS0 T):DS0 T:=dSq da λx _ Z=>g x Z
noncomputable def qxV(ds:DS0 (List T)):DS0 T:=dSq ds λxs _ Z=>if xs.length<=1000 then .ok (.tup xs) Z else .no
noncomputable def qxZ(ds:DS0 (List T)):DS0 Ct:=dSq ds λxs _ Z=>if xs.length<=1000 then .ok (.ls xs) Z else .no
noncomputable def fzC:Ct->Mu->R T
 |.ls ts,Z=>.ok (.lst ts) Z
 |.dk kvs,Z=>.ok (.dct kvs) Z
 |_,_=>.no
noncomputable def dFz(d:DS0 Ct):DS0 T:=dSq d λc _ Z=>fzC c Z
noncomputable def dOw(d:DS0 Ct):DS0 T:=dSq d λc _ Z=>.ok (.obj Z.l.length) (Z.add c)
noncomputable def tbO:T->Mu->R Bool
 |.bl b,Z=>.ok b Z
 |_,_=>.no
noncomputable def dTB(da:DS0 T):DS0 Bool:=dSq da λt _ Z=>tbO t Z
noncomputable def qiI{α:Type}(dt:DS0 Bool)(d e:DS0 α):DS0 α:=dSq dt λc=>if c=true then d else e
noncomputable def qxY(d:DS0 Bool):DS0 Bool:=dSq d λc _ Z=>.ok (!c) Z
noncomputable def qxU:DS0 Bool:=λ_ Z=>.ok true Z
noncomputable def dBl(b:Bool):DS0 Bool:=λ_ Z=>.ok b Z
noncomputable def qx2(d e:DS0 Bool):DS0 Bool:=qiI d e (dBl false)
noncomputable def dOr(d e:DS0 Bool):DS0 Bool:=qiI d (dBl true) e
noncomputable def qnp(d e:DS0 T):DS0 T:=qiI (dTB d) e (dC (.bl false))
noncomputable def quT(d e:DS0 T):DS0 T:=qiI (dTB d) (dC (.bl true)) e
noncomputable def qnn(d:DS0 T):DS0 T:=dSq (dTB d) λc _ Z=>.ok (.bl (!c)) Z
noncomputable def OkB(M:Md)(r:R2)(g:T->T->Mu->R T):Prop:=(∀a b Z c m,g a b Z≠.ex c m)/\
 ∀(Z:Mu)(H:Hp)(B:qaI)(x y:V)(a b t:T)(μ':Mu)(Q:VK),Cl Q->Hs M Z H B->Rep M.K B a x->Rep M.K B b y->g a b Z= .ok t μ'->KE M H B Q t μ'->r x y H Q
noncomputable def OkU(M:Md)(r:V->Hp->VK->Prop)(g:T->Mu->R T):Prop:=(∀a Z c m,g a Z≠.ex c m)/\
 ∀(Z:Mu)(H:Hp)(B:qaI)(x:V)(a t:T)(μ':Mu)(Q:VK),Hs M Z H B->Rep M.K B a x->g a Z= .ok t μ'->KE M H B Q t μ'->r x H Q
section
theorem Ev.get(ev:Ev M ρ Z O H B)(w:Wn M E H B k (dV i ρ Z)): ∃t v,O[i]? =some (some v)/\Rep M.K B t v/\ρ[i]? =some (some t)/\k t Z:=by
 unfold dV at w;split at w
 ·rename_i t e1;obtain⟨x,e2,r⟩:=ev.sl i t e1;exact⟨t,x,e2,r,e1,w⟩
 ·exact w.elim
theorem qan:PE X e (tE M E dNo):=(by rintro _ _ _ _ _ _ ⟨_,_,_,_,w⟩;exact w.elim)
theorem qtV(h:PE X e (qu5 i)):PE X e (tE M E (dV i)):=PE.weak h (by
 rintro O H Q ⟨ρ,Z,B,ev,w⟩;obtain⟨t,x,e2,r,_,w⟩:=ev.get w;exact⟨x,e2,w x H B ev.hs .refl r⟩)
theorem qt0(h:PE X e (tC v))(r: ∀B,Rep M.K B t v):PE X e (tE M E (dC t)):=
 PE.weak h (by rintro O H Q ⟨ρ,Z,B,ev,w⟩;exact w v H B ev.hs .refl (r B))
theorem qea(ho:OkB M r g)(cq:Cl Q)(h:tE M E (dB g da db) O H Q):tOp r (tE M E da) (tE M E db) O H Q:=by obtain⟨ρ,Z,B,ev,w⟩:=h;refine tE.of ev ((Wn.bind w).mono λx aa w1 v H1 B1 h1 l1 r1=> ?_);refine tE.of (ev.on h1 l1.le) ((Wn.bind w1).lift l1 λy af w2 u H2 B2 h2 l2 r2=> ?_);obtain⟨t,m,q,w2⟩:=Wn.pl w2 (ho.1 x y af);exact ho.2 af H2 B2 v u x y t m Q cq h2 (r1.mono l2.le) r2 q (KE.le w2 (l1.trans l2))
theorem qoX(ho:OkU M r g)(h:tE M E (dU g da) O H Q):tE M E da O H λx H1=>r x H1 Q:=by obtain⟨ρ,Z,B,ev,w⟩:=h;refine tE.of ev ((Wn.bind w).mono λx aa w1 v H1 B1 h1 l1 r1=> ?_);obtain⟨t,m,q,w1⟩:=Wn.pl w1 (ho.1 x aa);exact ho.2 aa H1 B1 v x t m Q h1 r1 q (KE.le w1 l1)
theorem qt4:PA X [] (tA M E qrn):=PA.weak qhg (by rintro O H Q ⟨ρ,Z,B,ev,w⟩;exact w [] H B ev.hs .refl .nil)
theorem qqS(ha:PE X e (tE M E da))(hs:PA X es (tA M E ds))(aG:starEach (e::es) X.env=(false,eval e X.env)::starEach es X.env):PA X (e::es) (tA M E (qua da ds)):=
 PA.weak (qcQ ha hs aG) (by
  rintro O H Q ⟨ρ,Z,B,ev,w⟩;refine tE.of ev ((Wn.bind w).mono λx aa w1 v H1 B1 h1 l1 r1=> ?_);exact⟨ρ,aa,B1,ev.on h1 l1.le,(Wn.bind w1).lift l1 λxs af w2 vs H2 B2 h2 l2 r2=>w2 _ H2 B2 h2 (l1.trans l2) (.cons (r1.mono l2.le) r2)⟩)
theorem qtW{x1}(hs:PA X es (tA M E ds)):PE X (.Tuple es x1 pos) (tE M E (qxV ds)):=PE.weak (qsn hs) (by
 rintro O H Q ⟨ρ,Z,B,ev,w⟩;refine⟨ρ,Z,B,ev,(Wn.bind w).mono λxs aa w1 vs H1 B1 h1 l1 r1=> ?_⟩;have w1:Wn M E H B _ (if xs.length<=1000 then _ else _):=w1;split at w1
 ·have l0:1000<=sizeLine:=by decide
  refine⟨by rw[r1.length];omega,λp hp=> ?_⟩;have h2:=h1.new (o:=.tup vs) hp (λps z=>by cases z);exact w1 _ _ _ h2 (l1.trans (h1.gnew hp)) (qcd qae (r1.mono (h1.upd_le (h1.fr hp))))
 ·exact w1.elim)
theorem qoz(hs:PA X es (tA M E ds)):PE X (.List es pos) (tN M E (qxZ ds)):=PE.weak (qsq hs) (by
 rintro O H Q ⟨ρ,Z,B,ev,w⟩;refine⟨ρ,Z,B,ev,(Wn.bind w).mono λxs aa w1 vs H1 B1 h1 l1 r1=> ?_⟩;have w1:Wn M E H B _ (if xs.length<=1000 then _ else _):=w1;split at w1
 ·have l0:1000<=sizeLine:=by decide
  exact⟨by rw[r1.length];omega,λp hp=>w1 _ _ _ _ h1 l1 hp ⟨_,rfl,r1⟩⟩
 ·exact w1.elim)
theorem qqs(cq:Cl Q)(h:tE M E (dFz dn) O H Q):tN M E dn O H Q:=by
 obtain⟨ρ,Z,B,ev,w⟩:=h;refine⟨ρ,Z,B,ev,(Wn.bind w).mono λc aa w1 p o H1 B1 h1 l1 hp r1=> ?_⟩;have b1:=h1.fr hp;cases c with
 |ls ts=>obtain⟨vs,rfl,r⟩:=r1;have le:=h1.upd_le (o:=.lst vs) b1;exact w1 _ _ _ (h1.new hp (λps z=>by cases z)) (l1.trans (h1.gnew hp)) (qcg qae (r.mono le))
 |dk ts=>obtain⟨vs,rfl,r⟩:=r1;refine cq _ p vs qae λo=> ?_;rw[qfP];have le:=h1.upd_le (o:=.frz o (.dK vs)) b1;exact w1 _ _ _ (h1.new hp (λps z=>by cases z)) (l1.trans (h1.gnew hp)) (qoa qae (r.mono le))
 |_=>exact w1.elim
theorem quw{α β:Type}{r:R α}{f:α->Mu->R β}{b:β}{m:Mu}(h:r.bind f= .ok b m): ∃a m1,r= .ok a m1/\f a m1= .ok b m:=by
 cases r with
 |ok a m1=>exact⟨a,m1,rfl,h⟩
 |_=>cases h
theorem qm1(hd: ∀ρ Z c m,dn ρ Z= .ok c m->∃ts,c= .ls ts)(h:tE M E (dFz dn) O H Q):tN M E dn O H Q:=by
 obtain⟨ρ,Z,B,ev,w⟩:=h;refine⟨ρ,Z,B,ev,?_⟩;have w:=Wn.bind w;cases q:dn ρ Z with
 |no|ex c m=>rw[q] at w;exact w
 |ok c m=>rw[q] at w;obtain⟨ts,rfl⟩:=hd _ _ _ _ q;intro p o H1 B1 h1 l1 hp ⟨vs,eo,r⟩;subst eo;exact w _ _ _ (h1.new hp (λps z=>by cases z)) (l1.trans (h1.gnew hp)) (qcg qae (r.mono (h1.upd_le (h1.fr hp))))
theorem qjR(h:tE M E (dOw dn) O H Q):tN M E dn O H Q:=by obtain⟨ρ,Z,B,ev,w⟩:=h;refine⟨ρ,Z,B,ev,(Wn.bind w).mono λc aa w1 p o H1 B1 h1 l1 hp r1=> ?_⟩;have le:=(h1.own (c:=.gone) (o:=o) hp trivial).2;obtain⟨h2,_⟩:=h1.own hp (r1.mono le);exact w1 _ _ _ h2 (l1.trans (h1.gown hp)) (qdv (by show(if aa.l.length=aa.l.length then some p else _)=_;rw[if_pos rfl]))
theorem qqP(h:PE X e (tN M E dn)):PE X e (tE M E (dFz dn)):=PE.weakF h λ_ _ _ c h=>qqs c h
theorem qqL(h:PE X e (tN M E dn)):PE X e (tE M E (dOw dn)):=PE.weak h λ_ _ _ h=>qjR h
theorem qcH(h:tT M E (dTB da) O H Q):tE M E da O H λx H1=> ∃c,x= .bl c/\Q c H1:=by
 obtain⟨ρ,Z,B,ev,w⟩:=h;refine tE.of ev ((Wn.bind w).mono λt aa w1 v H1 B1 h1 l1 r1=> ?_);cases t with
 |bl b=>exact⟨b,qbx r1,w1 H1 B1 h1 l1⟩
 |_=>exact w1.elim
theorem qow(h:PE X e (tE M E da))(he: ∀whole,isTrue e X.env whole=(do let v <-whole;standAt e.pos;holding [v] (truthy v))):PT X e (tT M E (dTB da)):=PT.weak (qr8 h he) λO H Q h=>qcH h
theorem qtL(h:PT X a (tT M E dt)):PT X (.UnaryOp .Not a pos) (tT M E (qxY dt)):=PT.weak (qr9 h) (by rintro O H Q ⟨ρ,Z,B,ev,w⟩;exact⟨ρ,Z,B,ev,(Wn.bind w).mono λc aa w1=>w1⟩)
theorem qei(h:tT M E (qiI dt d1 d2) O H Q):tT M E dt O H λc H1=>if c=true then tT M E d1 O H1 Q else tT M E d2 O H1 Q:=by
 obtain⟨ρ,Z,B,ev,w⟩:=h;refine⟨ρ,Z,B,ev,(Wn.bind w).mono λc aa w1 H1 B1 h1 l1=> ?_⟩;cases c with
 |true|false=>exact⟨ρ,aa,B1,ev.on h1 l1.le,w1.lift l1 λ_ _ q=>KT.le q l1⟩
theorem qmV(h:tE M E (qiI dt d1 d2) O H Q):tT M E dt O H λc H1=>if c=true then tE M E d1 O H1 Q else tE M E d2 O H1 Q:=by
 obtain⟨ρ,Z,B,ev,w⟩:=h;refine⟨ρ,Z,B,ev,(Wn.bind w).mono λc aa w1 H1 B1 h1 l1=> ?_⟩;cases c with
 |true|false=>exact⟨ρ,aa,B1,ev.on h1 l1.le,w1.lift l1 λ_ _ q=>KE.le q l1⟩
theorem qls(h:tT M E (dBl b) O H Q):Q b H:=by obtain⟨ρ,Z,B,ev,w⟩:=h;exact w H B ev.hs .refl
theorem qgF(h:tE M E (dC (.bl b)) O H Q):Q (.bl b) H:=by obtain⟨ρ,Z,B,ev,w⟩:=h;exact w _ H B ev.hs .refl qa2
theorem qqA(h:PT X a (tT M E dt)):PW X (.BoolOp .And [a] pos) (tT M E dt):=qpv h
theorem qtI(h:PT X a (tT M E dt)):PW X (.BoolOp .Or [a] pos) (tT M E dt):=qr1 h
theorem qtJ{rest}(h:PT X a (tT M E dt))(h':PW X (.BoolOp .And (b::rest) pos) (tT M E du)):PW X (.BoolOp .And (a::b::rest) pos) (tT M E (qx2 dt du)):=PW.weak (qr2 h h') λO H Q q=>by
 have q:=qei q;obtain⟨ρ,Z,B,ev,w⟩:=q;refine⟨ρ,Z,B,ev,w.mono λc aa w1 H1 B1 h1 l1=> ?_⟩;have z:=w1 H1 B1 h1 l1;cases c with
 |true=>exact z
 |false=>exact qls z
theorem qwR{rest}(h:PT X a (tT M E dt))(h':PW X (.BoolOp .Or (b::rest) pos) (tT M E du)):PW X (.BoolOp .Or (a::b::rest) pos) (tT M E (dOr dt du)):=PW.weak (qvG h h') λO H Q q=>by
 have q:=qei q;obtain⟨ρ,Z,B,ev,w⟩:=q;refine⟨ρ,Z,B,ev,w.mono λc aa w1 H1 B1 h1 l1=> ?_⟩;have z:=w1 H1 B1 h1 l1;cases c with
 |true=>exact qls z
 |false=>exact z
theorem qdW(h:tE M E (dSq (dTB da) f) O H Q):tE M E da O H λx H1=> ∃c,x= .bl c/\tE M E (f c) O H1 Q:=by
 obtain⟨ρ,Z,B,ev,w⟩:=h;refine tE.of ev ((Wn.bind (Wn.bind w)).mono λt aa w1 v H1 B1 h1 l1 r1=> ?_);cases t with
 |bl b=>exact⟨b,qbx r1,ρ,aa,B1,ev.on h1 l1.le,Wn.lift w1 l1 λ_ _ q=>KE.le q l1⟩
 |_=>exact w1.elim
theorem tE.imp(h:tE M E da O H Q)(f: ∀v H1,Q v H1->Q' v H1):tE M E da O H Q':=by obtain⟨ρ,Z,B,ev,w⟩:=h;exact⟨ρ,Z,B,ev,w.mono λt aa w1 v H1 B1 h1 l1 r1=>f _ _ (w1 v H1 B1 h1 l1 r1)⟩
theorem qt2{rest}(h:PE X a (tE M E da))(h':PE X (.BoolOp .And (b::rest) pos) (tE M E db)):PE X (.BoolOp .And (a::b::rest) pos) (tE M E (qnp da db)):=PE.weak (qsu h h') λO H Q q=>
 (qdW q).imp (by rintro v H1 ⟨c,e,z⟩;exact⟨c,e,by cases c with|true=>exact z|false=>exact qgF z⟩)
theorem qwW{rest}(h:PE X a (tE M E da))(h':PE X (.BoolOp .Or (b::rest) pos) (tE M E db)):PE X (.BoolOp .Or (a::b::rest) pos) (tE M E (quT da db)):=PE.weak (qvK h h') λO H Q q=>
 (qdW q).imp (by rintro v H1 ⟨c,e,z⟩;exact⟨c,e,by cases c with|true=>exact qgF z|false=>exact z⟩)
theorem qtX(h:PE X a (tE M E da)):PE X (.UnaryOp .Not a pos) (tE M E (qnn da)):=PE.weak (qso h) λO H Q q=>
 (qdW q).imp (by rintro v H1 ⟨c,e,z⟩;exact⟨c,e,qgF z⟩)
theorem qwX(hc:PT X c (tT M E dt))(ha:PE X a (tE M E da))(hb:PE X b (tE M E db)):PE X (.IfExp c a b pos) (tE M E (qiI dt da db)):=PE.weak (qmn hc ha hb) λO H Q q=>qmV q
end
noncomputable def fzT(n:Nat)(l:List Ct):Nat->T->Option T
 |0,t=>if ub t<=n then some t else none
 |d+1,t=>if ub t<=n then some t else match t with
  |.obj k=>(match l[k]? with
   |some (.ls ts)=>(ts.mapM (fzT n l d)).map .lst
   |_=>none)
  |.tup ts=>(ts.mapM (fzT n l d)).map .tup
  |.lst ts=>(ts.mapM (fzT n l d)).map .lst
  |_=>none
noncomputable def Mu.nw(m0 m:Mu):List (Nat×Nat):=m.k.take (m.k.length - m0.k.length)
noncomputable def Mu.back(m0 m:Mu):Mu:=⟨m.l.take m0.l.length,(m0.nw m).filter (λp=>decide (p.1<m0.l.length))++m0.k⟩
noncomputable def Mu.apart(m0 m:Mu):Bool:=decide (m0.l.length<=m.l.length)&&decide (m.k.drop (m.k.length - m0.k.length)=m0.k)&&(m0.nw m).all λp=>decide (m0.l.length<=p.1\/p.2<=m0.l.length)
noncomputable def leave(m0:Mu):R T->R T
 |.ok t m=>if m.l.length=m0.l.length then .ok t m else if m0.apart m=true then(match fzT m0.l.length m.l 3 t with|some t'=>.ok t' (m0.back m)|none=>.no) else .ok t m
 |.ex c m=>if m.l.length=m0.l.length then .ex c m else if m0.apart m=true then .ex c (m0.back m) else .ex c m
 |.no=>.no
open Classical in
noncomputable def qaI.fz(B:qaI)(H:Hp)(l:List Ct)(n:Nat):qaI:=⟨λa=>if ∃k,n<=k/\B.ad k=some a/\(∃ts,l[k]? =some (.ls ts)) then H a else B a,(B.cut n).ad⟩
theorem qe8{α β:Type}{f:α->Option β}: ∀{xs:List α}{ys:List β},xs.mapM f=some ys->xs.length=ys.length/\∀(i:Nat)(x:α)(y:β),xs[i]? =some x->ys[i]? =some y->f x=some y
 |[],ys,h=>by grind
 |x::xs,ys,h=>by
  rw[List.mapM_cons] at h;cases e1:f x with
  |none=>rw[e1] at h;cases h
  |some y=>
   cases e2:xs.mapM f with
   |none=>simp_all
   |some zs=>
    rw[e1,e2] at h;cases h;obtain⟨hl,hi⟩:=qe8 e2;refine⟨by simp[hl],λi a b ea eb=> ?_⟩;cases i with
    |zero=>grind
    |succ i=>exact hi i a b (by simpa using ea) (by simpa using eb)
section
open Classical
theorem qaI.fz_le(h:Hs M Z H B):Le (B.cut n) (B.fz H Z.l n):=⟨λa o e=>by
 show(if _ then H a else B a)=_;split
 ·exact h.bh a o e
 ·exact e,λ_ _ e=>e⟩
theorem qd6{κ:Type}: ∀{ts:List (κ×T)}{vs:List (κ×V)}{i:Nat}{p:κ×T},qbc K B ts vs->ts[i]? =some p->∃v,vs[i]? =some (p.1,v)/\Rep K B p.2 v
 |[],_,_,_,_,e=>by simp at e
 |(k,t)::ts,_,0,p,⟨v,r,e',a,b⟩,e=>by grind
 |(k,t)::ts,_,i+1,p,⟨v,r,e',a,b⟩,e=>by
  obtain⟨u,e1,e2⟩:=qd6 b (by simpa using e)
  simp_all
theorem qty{M:Md}{Z:Mu}{H:Hp}{B:qaI}{n:Nat}(h:Hs M Z H B): ∀(d:Nat)(t t':T)(v:V),fzT n Z.l d t=some t'->Rep M.K B t v->Rep M.K (B.fz H Z.l n) t' v:=by
 intro d
 induction d with
 |zero=>
  intro t t' v e r;unfold fzT at e;split at e
  ·rename_i q;cases e;exact(r.cut q).mono (qaI.fz_le h)
  ·cases e
 |succ d ih=>
  intro t t' v e r;unfold fzT at e;split at e
  ·rename_i q;cases e;exact(r.cut q).mono (qaI.fz_le h)
  rename_i q;have many: ∀{ts dJ:List T}{vs:List V},ts.mapM (fzT n Z.l d)=some dJ->Reps M.K B ts vs->Reps M.K (B.fz H Z.l n) dJ vs:=λ{ts dJ vs} e r=>by
   obtain⟨hl,hi⟩:=qe8 e;refine .of_get (by rw[r.length,hl]) λi t' v e1 e2=> ?_;obtain⟨t,et⟩: ∃t,ts[i]? =some t:=⟨ts[i]'(by rw[hl];exact(List.getElem?_eq_some_iff.mp e1).1),Vy _⟩
   obtain⟨v',ev,rv⟩:=r.get et;rw[e2] at ev;cases ev;exact ih t t' v (hi i t t' et e1) rv
  split at e
  ·rename_i k;obtain⟨a,rfl,ea⟩:=qax r;have hk:n<=k:=by unfold ub at q;omega
   split at e
   ·rename_i ts el;cases e2:ts.mapM (fzT n Z.l d) with
    |none=>rw[e2] at e;cases e
    |some dJ=>rw[e2] at e;cases e;obtain⟨o,b0,ho,vs,rfl,rv⟩:=h.at el (by simp) ea;refine qcg ?_ (many e2 rv);show(if _ then H a else B a)=_;rw[if_pos ⟨k,hk,ea,ts,el⟩];exact ho
   ·cases e
  ·rename_i ts;cases e2:ts.mapM (fzT n Z.l d) with
   |none=>rw[e2] at e;cases e
   |some dJ=>rw[e2] at e;cases e;obtain⟨p,vs,rfl,bp,rv⟩:=qaw r;exact qcd ((qaI.fz_le (n:=n) h).h p _ bp) (many e2 rv)
  ·rename_i ts;cases e2:ts.mapM (fzT n Z.l d) with
   |none=>rw[e2] at e;cases e
   |some dJ=>rw[e2] at e;cases e;obtain⟨p,vs,rfl,bp,rv⟩:=qaC r;exact qcg ((qaI.fz_le (n:=n) h).h p _ bp) (many e2 rv)
  ·cases e
theorem Hs.back(h0:Hs M m0 H0 B0)(h:Hs M Z H B)(ha:m0.apart Z=true)(g:Go H0 B0 H B):
  Hs M (m0.back Z) H (B.fz H Z.l m0.l.length)/\Go H0 B0 H (B.fz H Z.l m0.l.length):=by
 unfold Mu.apart at ha;simp only[Bool.and_eq_true,decide_eq_true_eq] at ha;obtain⟨⟨hl,hd⟩,ha⟩:=ha;have hk:Z.k=m0.nw Z++m0.k:=by unfold Mu.nw;conv=>lhs;rw[<-List.take_append_drop (Z.k.length - m0.k.length) Z.k,hd]
 have new: ∀q∈m0.nw Z,m0.l.length<=q.1\/q.2<=m0.l.length:=λq hq=>of_decide_eq_true (List.all_eq_true.mp ha q hq);have hc:Hs M (m0.back Z) H (B.cut m0.l.length):=h.cut _ (n:=m0.l.length) (λq hq=>by
  rw[hk] at hq
  rcases List.mem_append.mp hq with hq|hq
  ·grind
  ·exact .inr ⟨Vs _ hq,h0.ln q hq⟩) (λq hq=>by
  rcases List.mem_append.mp hq with hq|hq
  ·obtain⟨hq,z⟩:=List.mem_filter.mp hq
   rcases new q hq with y|y
   ·have:=of_decide_eq_true z;omega
   ·exact y
  ·exact h0.ln q hq) hl
 have at': ∀{a o},(B.fz H Z.l m0.l.length) a=some o->H a=some o:=λ{a o} e=>by
  have e:(if _ then H a else B a)=some o:=e;split at e
  ·exact e
  ·exact h.bh a o e
 refine⟨⟨λa o e=>at' e,λa ps e=> ?_,h.gm,λj d e nj=> ?_,hc.ij,hc.dm,hc.lk,hc.ln⟩,⟨⟨λa o e=>(qaI.fz_le h).h a o (g.le.h a o e),λj a e=> ?_⟩,g.un,λj a e=> ?_,g.dm,λa o e n t1 t2=> ?_⟩⟩
 ·have e:(if _ then H a else B a)=some (.tbl ps):=e;split at e
  ·rename_i q;obtain⟨k,_,ek,ts,q⟩:=q;obtain⟨o,_,ho,vs,rfl,_⟩:=h.at q (by simp) ek;rw[ho] at e;cases e
  ·exact h.bt a ps e
 ·obtain⟨a,u,e1,e2,e3,e4⟩:=hc.st j d e nj;refine⟨a,u,e1,?_,e3,e4.mono (qaI.fz_le h)⟩;show(if _ then H a else B a)=_;split
  ·rename_i q;obtain⟨k,hk,ek,_⟩:=q;have e1:(if j<m0.l.length then B.ad j else none)=some a:=e1;split at e1
   ·have:=h.ij j k a e1 ek;omega
   ·cases e1
  ·exact e2
 ·show(if j<m0.l.length then B.ad j else none)=_;rw[if_pos (h0.dm j a e).1];exact g.le.d j a e
 ·have e:(if j<m0.l.length then B.ad j else none)=some a:=e;split at e
  ·exact g.nw j a e
  ·cases e
 ·show(if _ then H a else B a)=_;rw[if_neg ((by rintro⟨k,_,ek,_⟩;exact g.off (by rw[e];simp) n k ek))];exact g.nb a o e n t1 t2
end
end NV
namespace NV
open PySem L2
inductive Out where
 |nx (ρ:Ro)|rt (t:T)|bk (ρ:Ro)|ct (ρ:Ro)
noncomputable def KS(M:Md)(H:Hp)(B:qaI)(D:quE):Out->Mu->Prop
 |.nx ρ,Z=> ∀ag H' B',Ev M ρ Z ag H' B'->Go H B H' B'->D.nx ag H'
 |.bk ρ,Z=> ∀ag H' B',Ev M ρ Z ag H' B'->Go H B H' B'->D.bk ag H'
 |.ct ρ,Z=> ∀ag H' B',Ev M ρ Z ag H' B'->Go H B H' B'->D.ct ag H'
 |.rt t,Z=>KE M H B D.rt t Z
theorem KS.le(h:KS M H B D o Z)(le:Go H B H1 B1):KS M H1 B1 D o Z:=by
 cases o with
 |nx ρ|bk ρ|ct ρ=>exactλag H' B' e l=>h ag H' B' e (le.trans l)
 |rt t=>exact KE.le h le
noncomputable def tS(M:Md)(E:XK)(d:DS0 Out):TS:=λD O H=> ∃ρ Z B,Ev M ρ Z O H B/\Wn M E H B (KS M H B D) (d ρ Z)
noncomputable def qno:DS0 Out:=λρ Z=>.ok (.nx ρ) Z
noncomputable def qhY(e:DS0 Out):Out->Mu->R Out
 |.nx ρ,Z=>e ρ Z
 |o,Z=>.ok o Z
noncomputable def qw3(d e:DS0 Out):DS0 Out:=λρ Z=>(d ρ Z).bind (qhY e)
noncomputable def qw4(da:DS0 T):DS0 Out:=dSq da λt _ Z=>.ok (.rt t) Z
noncomputable def qnm(i:Nat)(da:DS0 T):DS0 Out:=dSq da λt ρ Z=>.ok (.nx (ρ.set i (some t))) Z
noncomputable def qt9(da:DS0 T):DS0 Out:=dSq da λ_ ρ Z=>.ok (.nx ρ) Z
section
variable{x:Str}
theorem qaU:PS X st (tS M E dNo):=(by rintro _ _ _ _ _ _ ⟨_,_,_,_,w⟩;exact w.elim)
theorem qqB:PSs X [] (tS M E qno):=PSs.weak qpw (by rintro D O H ⟨ρ,Z,B,ev,w⟩;exact w O H B ev .refl)
theorem ql4(h:tS M E (qw3 d d') D O H):qxr (tS M E d) (tS M E d') D O H:=by
 obtain⟨ρ,Z,B,ev,w⟩:=h;refine⟨ρ,Z,B,ev,(Wn.bind w).mono λo aa w1=> ?_⟩;cases o with
 |nx ρ'=>exactλag H' B' e l=>⟨ρ',aa,B',e,Wn.lift w1 l λ_ _ q=>KS.le q l⟩
 |bk ρ'|ct ρ'|rt t=>exact w1
theorem qm9{M:Md}{E:XK}{X:Cx}{st:Stmt}{rest:List Stmt}{d:DS0 Out}{d':DS0 Out}(h:PS X st (tS M E d))(h':PSs X rest (tS M E d')):PSs X (st::rest) (tS M E (qw3 d d')):=PSs.weak (qmd h h') λD O H q=>ql4 q
theorem qtN(h:PE X e (tE M E da)):PS X (.Return (some e) pos) (tS M E (qw4 da)):=PS.weak (qsc h) (by rintro D O H ⟨ρ,Z,B,ev,w⟩;exact tE.of ev ((Wn.bind w).mono λt aa w1=>w1))
theorem qqC:PS X (.Return none pos) (tS M E (qw4 (dC .non))):=PS.weak qpx (by rintro D O H ⟨ρ,Z,B,ev,w⟩;exact w _ H B ev.hs .refl qcf)
theorem qqD:PS X (.Pass pos) (tS M E qno):=PS.weak qpy (by rintro D O H ⟨ρ,Z,B,ev,w⟩;exact w O H B ev .refl)
theorem qnb:PS X (.Break pos) (tS M E λρ Z=>.ok (.bk ρ) Z):=PS.weak qmf (by rintro D O H ⟨ρ,Z,B,ev,w⟩;exact w O H B ev .refl)
theorem qgm:PS X (.Continue pos) (tS M E λρ Z=>.ok (.ct ρ) Z):=PS.weak qf0 (by rintro D O H ⟨ρ,Z,B,ev,w⟩;exact w O H B ev .refl)
theorem qqE(h:PE X e (tE M E da))(hs:swapsWith e none pos.line X.env=pure false):PS X (.Expr e pos) (tS M E (qt9 da)):=PS.weak (qpz h hs) (by rintro D O H ⟨ρ,Z,B,ev,w⟩;exact tE.of ev ((Wn.bind w).mono λt aa w1 v H1 B1 h1 l1 _=>w1 O H1 B1 (ev.on h1 l1.le) l1))
theorem qwS(hc:PT X c (tT M E dt))(h:PSs X bB (tS M E d))(h':PSs X sts' (tS M E d')):PS X (.If c bB sts' pos) (tS M E (qiI dt d d')):=PS.weak (qvI hc h h') (by
 rintro D O H ⟨ρ,Z,B,ev,w⟩;refine⟨ρ,Z,B,ev,(Wn.bind w).mono λc aa w1 H1 B1 h1 l1=> ?_⟩;cases c with
 |true=>exact⟨ρ,aa,B1,ev.on h1 l1.le,Wn.lift w1 l1 λ_ _ q=>KS.le q l1⟩
 |false=>exact⟨ρ,aa,B1,ev.on h1 l1.le,Wn.lift w1 l1 λ_ _ q=>KS.le q l1⟩)
theorem qtM(hN:X.N.Nodup)(hi:X.N[i]? =some x)(hx:Loc X.env.scope x)(h:PE X e (tE M E da))(hs:swapsWith e (some (.Name x pos')) pos.line X.env=pure false)(hf:X.fn x=true\/X.env.scope.names.lookup x=some .local):
  PS X (.Assign [.Name x pos'] e pos) (tS M E (qnm i da)):=PS.weak (qsb hN hi hx h hs hf) (by rintro D O H ⟨ρ,Z,B,ev,w⟩;exact tE.of ev ((Wn.bind w).mono λt aa w1 v H1 B1 h1 l1 r1=>w1 _ H1 B1 ((ev.on h1 l1.le).set r1) l1))
end
noncomputable def tG(M:Md)(E:XK)(dg:T->DS0 Ro):TG:=λv O H Q=> ∃ρ Z B t,Ev M ρ Z O H B/\Rep M.K B t v/\Wn M E H B (λρ' μ'=> ∀ag H' B',Ev M ρ' μ' ag H' B'->Go H B H' B'->Q ag H') (dg t ρ Z)
noncomputable def tGs(M:Md)(E:XK)(dg:List T->DS0 Ro):TGs:=λv O H Q=> ∃ρ Z B t,Ev M ρ Z O H B/\Reps M.K B t v/\Wn M E H B (λρ' μ'=> ∀ag H' B',Ev M ρ' μ' ag H' B'->Go H B H' B'->Q ag H') (dg t ρ Z)
noncomputable def gN(i:Nat):T->DS0 Ro:=λt ρ Z=>.ok (ρ.set i (some t)) Z
noncomputable def gsN:List T->DS0 Ro:=λts ρ Z=>match ts with|[]=>.ok ρ Z|_=>.no
noncomputable def gsC(dg:T->DS0 Ro)(dr:List T->DS0 Ro):List T->DS0 Ro:=λts ρ Z=>match ts with|t::r=>(dg t ρ Z).bind (dr r)|[]=>.no
noncomputable def gT(n:Nat)(dr:List T->DS0 Ro):T->DS0 Ro:=λt ρ Z=>match t with|.tup ts=>if ts.length=n then dr ts ρ Z else .no|_=>.no
noncomputable def qx1(dg:T->DS0 Ro)(da:DS0 T):DS0 Out:=dSq da λt ρ Z=>(dg t ρ Z).bind λρ' μ'=>.ok (.nx ρ') μ'
section
theorem qkZ:PG X e (tG M E λ_=>dNo):=(by rintro _ _ _ _ _ _ _ _ _ ⟨_,_,_,_,_,_,w⟩;exact w.elim)
theorem qwU(h:PG X e (qqp i)):PG X e (tG M E (gN i)):=PG.weak h (by rintro v O H Q ⟨ρ,Z,B,t,ev,r,w⟩;exact w _ _ _ (ev.set r) .refl)
theorem qqJ:PGs X [] (tGs M E gsN):=PGs.weak qpG (by
 rintro v O H Q ⟨ρ,Z,B,t,ev,r,w⟩;cases t with
 |nil=>exact⟨r.inv0,w O H B ev .refl⟩
 |cons _ _=>exact w.elim)
theorem qnf(h1:PG X e (tG M E dg))(h2:PGs X es (tGs M E dr))(hs:(assignEach (e::es) X.env).map (·.2)=assign e X.env::(assignEach es X.env).map (·.2)):PGs X (e::es) (tGs M E (gsC dg dr)):=
 PGs.weak (qmj h1 h2 hs) (by
  rintro v O H Q ⟨ρ,Z,B,t,ev,r,w⟩;cases t with
  |nil=>exact w.elim
  |cons t ts=>
   obtain⟨v',r',rfl,a,b⟩:=r.inv;refine⟨v',r',rfl,ρ,Z,B,t,ev,a,(Wn.bind w).mono λav aa w1 cM H1 B1 e1 l1=> ?_⟩;exact⟨av,aa,B1,ts,e1,b.mono l1.le,Wn.lift w1 l1 λar af q aE H2 B2 e2 l2=>q aE H2 B2 e2 (l1.trans l2)⟩)
theorem qtT(hc:X.calm=true)(h:PGs X es (tGs M E dr))(hK:X.K=M.K)(hn:(assignEach es X.env).length=n)(aG:(assignEach es X.env).findIdx? (·.1)=none):PG X (.Tuple es k pos) (tG M E (gT n dr)):=
 PG.weak (qsm hc h hn aG) (by
  rintro v O H Q ⟨ρ,Z,B,t,ev,r,w⟩;cases t with
  |tup ts=>
   obtain⟨p,vs,rfl,bp,rv⟩:=qaw r;have w:Wn M E H B _ (if ts.length=n then _ else _):=w;split at w
   ·rename_i hl;exact⟨p,vs,rfl,.inl (.inl (ev.hs.bh _ _ bp)),by rw[rv.length];exact hl,ρ,Z,B,ts,ev,rv,w⟩
   ·exact w.elim
  |_=>exact w.elim)
theorem qox(h:PE X e (tE M E da))(hg:PG X tg (tG M E dg))(hs:swapsWithSole [tg] e pos.line X.env=pure false)(hw:swappedStores [tg] e X.env=pure none)(h1:(assignEach [tg] X.env).map (·.2)=[assign tg X.env]):PS X (.Assign [tg] e pos) (tS M E (qx1 dg da)):=
 PS.weak (qsi h hg hs hw h1) (by rintro D O H ⟨ρ,Z,B,ev,w⟩;exact tE.of ev ((Wn.bind w).mono λt aa w1 v H1 B1 h1 l1 r1=>⟨ρ,aa,B1,t,ev.on h1 l1.le,r1,(Wn.bind w1).lift l1 λar af w2 aE H2 B2 e2 l2=>w2 aE H2 B2 e2 (l1.trans l2)⟩))
end
noncomputable def spF(M:Md)(f:List T->Mu->R T):Sp:=λvs H Q E=> ∃Z B ts,Hs M Z H B/\Reps M.K B ts vs/\Wn M E H B (KE M H B Q) (f ts Z)
noncomputable def outT:Out->Mu->R T
 |.rt t,Z=>.ok t Z
 |.nx _,Z=>.ok .non Z
 |_,_=>.no
noncomputable def lv(kp:Bool)(Z:Mu)(r:R T):R T:=if kp=true then r else leave Z r
noncomputable def fnR(kp:Bool)(n N:Nat)(d:DS0 Out):List T->Mu->R T:=λts Z=>if ts.length=n then lv kp Z ((d (ts.map some++List.replicate (N - n) none) Z).bind outT) else .no
section
theorem qis(h:Hs M Z H B)(w:Wn M E H B (KE M H B Q) (leave Z r)):Wn M E H B (KE M H B Q) r:=by
 cases r with
 |no=>exact w
 |ok t m=>
  have w:Wn M E H B _ (if m.l.length=Z.l.length then .ok t m else if Z.apart m=true then(match fzT _ m.l 3 t with|some t'=>.ok t' _|none=>.no) else .ok t m):=w;split at w
  ·exact w
  ·split at w
   ·rename_i ha;split at w
    ·rename_i t' e
     exactλv H' B' h' l r=>w v H' _ (h.back h' ha l).1 (h.back h' ha l).2 (qty h' 3 t t' v e r)
    ·exact w.elim
   ·exact w
 |ex c m=>
  have w:Wn M E H B _ (if m.l.length=Z.l.length then .ex c m else if Z.apart m=true then .ex c _ else .ex c m):=w;split at w
  ·exact w
  ·split at w
   ·rename_i ha
    exactλH' B' h' l=>w H' _ (h.back h' ha l).1 (h.back h' ha l).2
   ·exact w
theorem qp8(h:Hs M Z H B)(w:Wn M E H B (KE M H B Q) (lv kp Z r)):Wn M E H B (KE M H B Q) r:=by
 cases kp with
 |true=>exact w
 |false=>exact qis h w
theorem qm4{N:List Str}(h:Hs M Z H B)(r:Reps M.K B ts vs)(hN:ts.length<=N.length):Ev M (ts.map some++List.replicate (N.length - ts.length) none) Z (start N vs) H B:=by
 have hl:=r.length;refine⟨h,by unfold L2.start;simp[hl],λi t e=> ?_⟩;by_cases hi:i<ts.length
 ·rw[List.getElem?_append_left (by simpa using hi),List.getElem?_map] at e;cases q:ts[i]? with
  |none=>rw[q] at e;cases e
  |some u=>rw[q] at e;cases e;obtain⟨v,e1,e2⟩:=r.get q;refine⟨v,?_,e2⟩;unfold L2.start;rw[List.getElem?_append_left (by simp_all),List.getElem?_map,e1];rfl
 ·rw[List.getElem?_append_right (by simpa using hi),List.getElem?_replicate] at e;split at e<;>cases e
theorem qwK{x qual:Str}{N ps:List Str}(F:Fun M.K x qual st f fd)(S:qdi N ps (qaf st))(bR: ∀(cdv:Value),fd.code=cdv->∀(A:Around)(outer:List Env)(s:Shared)(H:Hp)(E:XK),qbl k (A.deeper (PyProof.Rows.envOfC qual (qaf st) s.heap.objs.size f cdv))->
   PSs (qiT (CXE P w) P w M.K mg base N qual (qaf st) f cdv A outer s H E) (qaF st) (tS M E d)):qcC P w M.K mg base (CXE P w) (k+1) f fd ps (spF M (fnR kp ps.length N.length d)):=by
 have ak:ps.length<=N.length:=by have:=congrArg List.length S.pre;grind
 have len: ∀vs H Q E,spF M (fnR kp _ N.length d) vs H Q E->∃Z B ts,Hs M Z H B/\Reps M.K B ts vs/\ts.length=ps.length/\Wn M E H B _ _:=λvs H Q E h=>by
  obtain⟨Z,B,ts,h1,h2,h3⟩:=h;unfold fnR at h3;split at h3
  ·rename_i hl;exact⟨Z,B,ts,h1,h2,hl,h3⟩
  ·exact h3.elim
 obtain⟨oc,od,kV,doc,pm,an,cdv,ct,osl,rfl,lk,bg⟩:=F.ex;refine qwL lk bg S (λvs H Q E h=> ?_) λA outer s H vs Q E hr h=>⟨_,bR cdv rfl A outer s H E hr,?_⟩
 ·obtain⟨Z,B,ts,h1,h2,hl,h3⟩:=len vs H Q E h;rw[h2.length];exact hl
 ·obtain⟨Z,B,ts,h1,h2,hl,h3⟩:=len vs H Q E h;refine⟨_,Z,B,qm4 h1 h2 (by omega),?_⟩;rw[hl];refine(Wn.bind (qp8 h1 h3)).mono λo aa w1=> ?_;cases o with
  |rt t=>exact w1
  |nx ρ=>exactλag H' B' e l=>w1 .non H' B' e.hs l qcf
  |bk ρ|ct ρ=>exact w1.elim
end
noncomputable def qeq(f:List T->Mu->R T)(ds:DS0 (List T)):DS0 T:=dSq ds λts _ Z=>f ts Z
section
variable{M:Md}{E:XK}{X:Cx}{k:Nat}{f C:Addr}{fd:FuncData}{ps:List Str}{x m:Str}{p pos apos:Pos}{e o:Expr}{es:List Expr}{da:DS0 T}{ds:DS0 (List T)}{fT:List T->Mu->R T}
theorem qfz(h:tE M E (qeq fT ds) O H Q):qo7 (spF M fT) [] E (tA M E ds) O H Q:=by obtain⟨ρ,Z,B,ev,w⟩:=h;refine⟨ρ,Z,B,ev,(Wn.bind w).mono λts aa w1 vs H1 B1 h1 l1 r1=> ?_⟩;show spF M fT _ H1 Q E;rw[List.append_nil];exact⟨aa,B1,ts,h1,r1,Wn.lift w1 l1 λ_ _ q=>KE.le q l1⟩
theorem qqQ(F:qcC X.prog X.w X.K X.mg X.base (CXE X.prog X.w) k f fd ps (spF M fT))(hr:qbl k X.A)(hg:Gl X x)(hm:X.mg x=some (.ref f))(hk:W.keepIn X.K (.ref f)=true)(hb:qaW X.K fd ps [])(hx:qaJ (CXE X.prog X.w) X E)(ha:PA X (e::es) (tA M E ds))(aA:(x==("__debug__" :Str))=false)(he:starEach (e::es) X.env=(false,eval e X.env)::starEach es X.env)(ak:(backTo pos (starEach es X.env)).any (·.1)=false):
  PE X (.Call (.Name x p) (e::es) [] pos) (tE M E (qeq fT ds)):=PE.weak (qpK F hr hg hm hk hb .nil hx ha aA he ak) λ_ _ _ h=>qfz h
theorem qnl(F:qcC X.prog X.w X.K X.mg X.base (CXE X.prog X.w) k f fd ps (spF M fT))(hr:qbl k X.A)(hg:Gl X x)(hm:X.mg x=some (.ref f))(hk:W.keepIn X.K (.ref f)=true)(hb:qaW X.K fd ps [])(hx:qaJ (CXE X.prog X.w) X E)(aA:(x==("__debug__" :Str))=false):PE X (.Call (.Name x p) [] [] pos) (tE M E (qeq fT qrn)):=PE.weak (qmq F hr hg hm hk hb .nil hx aA) λO H Q h=>by obtain⟨ρ,Z,B,ev,w⟩:=h;exact⟨Z,B,[],ev.hs,.nil,w⟩
noncomputable def mkR(c:Str)(fT:List T->Mu->R T)(ts:List T)(Z:Mu):R T:=(fT (.obj Z.l.length::ts) (Z.add (.ins c []))).bind λt m=>match t with|.non=>.ok (.obj Z.l.length) m|_=>.no
theorem qe9{c:Str}(hC:C=clA M.K c)(h:tE M E (qeq (mkR c fT) ds) O H Q):qo6 C (spF M fT) [] E (tA M E ds) O H Q:=by
 obtain⟨ρ,Z,B,ev,w⟩:=h;refine⟨ρ,Z,B,ev,(Wn.bind w).mono λts aa w1 vs H1 B1 h1 l1 r1 x dx hx fX ne=> ?_⟩;rw[List.append_nil];have h2:=h1.more (H':=upd H1 dx (.own x)) λa o e=>by rw[qad (qao e fX)];exact e
 have bZ:upd H1 dx (.own x) x=none:=by rw[qad (λz=>ne z.symm)];exact hx
 obtain⟨h3,_⟩:=h2.own (c:=.ins c []) (o:=.ins C dx []) bZ ⟨dx,[],by rw[hC],rfl⟩;have l3:Go H1 B1 (upd _ x (.ins C dx [])) _:=(Go.more (λa o e=>by rw[qad (qao e fX)];exact e)).trans (h2.gown bZ);have ad:(B1.add aa.l.length x).ad aa.l.length=some x:=by show(if aa.l.length=aa.l.length then some x else _)=_;rw[if_pos rfl]
 refine⟨_,_,_::ts,h3,.cons (qdv ad) (r1.mono l3.le),(Wn.bind w1).lift (l1.trans l3) λt af w2 v H2 B2 h4 l4 r4=> ?_⟩;cases t with
 |non=>exact⟨qcM r4,w2 _ H2 B2 h4 ((l1.trans l3).trans l4) (qdv (l4.le.d _ _ ad))⟩
 |_=>exact w2.elim
theorem qqN{c:Str}(hC:C=clA M.K c)(iP:Mk X.K C f)(F:qcC X.prog X.w X.K X.mg X.base (CXE X.prog X.w) k f fd ps (spF M fT))(hr:qbl (k+1) X.A)(hg:Gl X x)(hm:X.mg x=some (.ref C))(hb:qaW X.K fd ps [])(hx:qaJ (CXE X.prog X.w) X E)(ha:PA X (e::es) (tA M E ds))(aA:(x==("__debug__" :Str))=false)(he:starEach (e::es) X.env=(false,eval e X.env)::starEach es X.env)(ak:(backTo pos (starEach es X.env)).any (·.1)=false):
  PE X (.Call (.Name x p) (e::es) [] pos) (tE M E (qeq (mkR c fT) ds)):=PE.weak (qpI iP F hr hg hm hb .nil hx ha aA he ak) λ_ _ _ h=>qe9 hC h
theorem qnj{c:Str}(hC:C=clA M.K c)(iP:Mk X.K C f)(F:qcC X.prog X.w X.K X.mg X.base (CXE X.prog X.w) k f fd ps (spF M fT))(hr:qbl (k+1) X.A)(hg:Gl X x)(hm:X.mg x=some (.ref C))(hb:qaW X.K fd ps [])(hx:qaJ (CXE X.prog X.w) X E)(aA:(x==("__debug__" :Str))=false):PE X (.Call (.Name x p) [] [] pos) (tE M E (qeq (mkR c fT) qrn)):=PE.weak (qmm iP F hr hg hm hb .nil hx aA) λO H Q h=>by have:=qe9 hC h;obtain⟨ρ,Z,B,ev,w⟩:=this;exact w [] H B ev.hs .refl .nil
noncomputable def qot(ok:Str->Str->Bool)(f:Str):T->Mu->R T
 |.obj k,Z=>(match Z.l[k]? with
  |some (.ins c fs)=>if ok c f=true then(match fs.lookup f with|some t=>.ok t Z|none=>.no) else .no
  |_=>.no)
 |_,_=>.no
theorem qbD{f:Str}: ∀{fs:List (Str×T)}{vs:List (Str×V)},qbc K B fs vs->(∀t,fs.lookup f=some t->∃v,vs.lookup f=some v/\Rep K B t v)/\(fs.lookup f=none->vs.lookup f=none)
 |[],vs,r=>by have r:vs=[]:=r;grind
 |(g,t)::fs,_,⟨v,r,e,a,b⟩=>by
  have ih:=qbD (f:=f) b;rw[e,List.lookup_cons,List.lookup_cons];cases q:f==g with
  |true=>grind
  |false=>exact ih
theorem qm2{ok:Str->Str->Bool}{f:Str}(hK:X.K=M.K)(hok: ∀c,ok c f=true->Cls M.K (clA M.K c)/\qa5 M.K (clA M.K c) f){O:St}{H:Hp}{Q:VK}(h:tE M E (dU (qot ok f) da) O H Q):qxs X.K (tE M E da) f O H Q:=by
 obtain⟨ρ,Z,B,ev,w⟩:=h;refine tE.of ev ((Wn.bind w).mono λx aa w1 v H1 B1 h1 l1 r1=> ?_);have w1:Wn M E H B (KE M H B Q) (qot ok f x aa):=w1;unfold qot at w1;split at w1
 ·rename_i k;obtain⟨a,rfl,ea⟩:=qax r1;split at w1
  ·rename_i c fs el;split at w1
   ·rename_i hc;obtain⟨h2,h3⟩:=hok c hc;split at w1
    ·rename_i t et;obtain⟨o,b0,ho,dx,vs,rfl,rv⟩:=h1.at el (by simp) ea;obtain⟨v,bT,dO⟩:=(qbD rv).1 t et;rw[hK];exact⟨a,_,dx,vs,v,rfl,ho,h2,h3,bT,w1 v H1 B1 h1 l1 dO⟩
    ·exact w1.elim
   ·exact w1.elim
  ·exact w1.elim
 ·exact w1.elim
theorem qtZ{ok:Str->Str->Bool}{f:Str}(hK:X.K=M.K)(hok: ∀c,ok c f=true->Cls M.K (clA M.K c)/\qa5 M.K (clA M.K c) f)(he:PE X e (tE M E da))(hb:attributeBase e f X.env (eval e X.env)=eval e X.env):PE X (.Attribute e f pos) (tE M E (dU (qot ok f) da)):=
 PE.weak (qss he hb) λ_ _ _ h=>qm2 hK hok h
noncomputable def qr7(f:Str)(t:T):List (Str×T)->List (Str×T)
 |[]=>[(f,t)]
 |(g,u)::r=>if g=f then(g,t)::r else(g,u)::qr7 f t r
noncomputable def qtC(ok:Str->Str->Bool)(f:Str)(t:T):T->Mu->R Unit
 |.obj k,Z=>(match Z.l[k]? with
  |some (.ins c fs)=>if ok c f=true/\fs.length<1000 then .ok () (Z.put k (.ins c (qr7 f t fs))) else .no
  |_=>.no)
 |_,_=>.no
noncomputable def qt8(ok:Str->Str->Bool)(f:Str)(bo dv:DS0 T):DS0 Out:=dSq dv λt=>dSq bo λo ρ Z=>(qtC ok f t o Z).bind λ_ μ'=>.ok (.nx ρ) μ'
theorem qg4{f:Str}(r:Rep K B t v): ∀{fs:List (Str×T)}{vs:List (Str×V)},qbc K B fs vs->qbc K B (qr7 f t fs) (qeA f v vs)
 |[],_,h=>by rw[h];exact⟨v,[],rfl,r,rfl⟩
 |(g,u)::fs,_,⟨w,r',e,a,b⟩=>by
  rw[e];unfold qr7 qeA;by_cases q:g=f
  ·rw[if_pos q,if_pos q];exact⟨v,r',rfl,r,b⟩
  ·rw[if_neg q,if_neg q];exact⟨w,_,rfl,a,qg4 r b⟩
theorem qtQ{ok:Str->Str->Bool}{f:Str}{o value:Expr}{pos':Pos}{dv:DS0 T}(hK:X.K=M.K)(hok: ∀c,ok c f=true->Cls M.K (clA M.K c)/\qa5 M.K (clA M.K c) f)(ho:PE X o (tE M E da))(hv:PE X value (tE M E dv))(hs:swapsWith value (some (.Attribute o f pos')) pos.line X.env=pure false):
  PS X (.Assign [.Attribute o f pos'] value pos) (tS M E (qt8 ok f da dv)):=PS.weak (qsg ho hv hs) (by
 rintro D O H ⟨ρ,Z,B,ev,w⟩;refine tE.of ev ((Wn.bind w).mono λt aa w1 v H1 B1 h1 l1 r1=> ?_);refine tE.of (ev.on h1 l1.le) ((Wn.bind w1).lift l1 λx af w2 u H2 B2 h2 l2 r2=> ?_);have w2:=Wn.bind w2;unfold qtC at w2;split at w2
 ·rename_i k;obtain⟨a,rfl,ea⟩:=qax r2;split at w2
  ·rename_i c fs el;split at w2
   ·rename_i hc;obtain⟨g2,g3⟩:=hok c hc.1;obtain⟨o,b0,ho,dx,vs,rfl,rv⟩:=h2.at el (by simp) ea;rw[hK];refine⟨a,_,dx,vs,rfl,ho,g2,g3,by rw[rv.length];exact hc.2,?_⟩;have g:=(l1.trans l2).trans (qws (H:=H2) (o:=.ins (clA M.K c) dx (qeA f v vs)) ea);exact w2 O _ B2 (ev.on (h2.put el (by simp) ea ⟨dx,_,rfl,qg4 (r1.mono l2.le) rv⟩) g.le) g
   ·exact w2.elim
  ·exact w2.elim
 ·exact w2.elim)
end
end NV
namespace L2
open PySem PySem.Spec PySem.Calls PyProof.Rows
noncomputable def qlz(P:Addr)(qual:Str)(H:Hp):Prop:=
 ∃ps,H P=some (.tbl ps)/\PySem.TriplesOk ps.toList/\∀pos v,PySem.codeAmong pos ps.toList=some v->∃c,v= .ref c/\H c=some (qw7 c qual)
structure qxl(k:Nat)(A:Around):Prop where
 dp:A.depth+3*k+5<recursionLimit
 un:A.units+16*k+200<cLine
structure FnN(P:Program)(w:World)(K:W.Frag)(mg:Str->Option Value)(base:Heap)(k:Nat)(f:Addr)(fd:FuncData)(ps:List Str)(sp:List V->Hp->VK->Prop):Prop where
 len: ∀vs H Q,sp vs H Q->vs.length=ps.length
 run: ∀(A:Around)(outer:List Env)(s:Shared)(H:Hp)(args:Args)(us:List Value)(vs:List V)(Q:VK),qxl k A->qoQ P w K mg base A outer s H->BindsTo s fd args (ps.zip us)->Vals vs us->sp vs H Q->
  codeAny (model P w) A (.call (.ref f) args) (CR CX0 outer P w H s Q (λ_ _ _=>False)) s
noncomputable def qvk(base:Heap)(wd:Addr->Option Str):List V->Hp->VK->Prop:=λvs H Q=> ∃a C bm x,vs=[.ref a]/\H a=some (ExO a C)/\qiW base C bm/\wd C=some x/\∀H':Hp,(∀b o,H b=some o->H' b=some o)->Q (.str x) H'
structure qxj(z:Str)(st:Stmt):Prop where
 sc:qdi [z, "e"] [z] (qaf st)
 bd: ∃p1 p2 p3 p4 p5 p6 p7 p8 p9 p10,qaF st=[.Try [.Return (some (.Call (.Name z p1) [] [] p2)) p3] [.ExceptHandler (some (.Name "AskError" p4)) (some "e") [.Return (some (.Call (.Name "_law_class" p5) [.Name "e" p6] [] p7)) p8] p9] [] [] p10]
 d:(qaf st).names.lookup z=some .local
 e:(qaf st).names.lookup ("e" :Str)=some .local
 a:(qaf st).names.lookup ("AskError" :Str)=some .globalImplicit
 c:(qaf st).names.lookup ("_law_class" :Str)=some .globalImplicit
end L2
namespace PL
open PySem L2 SR SetL
theorem passI{N:List Str}{qual:Str}:qaJ (CXE P w) (qiT (CXE P w) P w K mg base N qual scope f cd A outer s H E) E:=qvP λ_ _ h=>h
section
variable{qual:Str}
theorem tabq_same(h:qlz Q qual H)(hP:H P=some (.tbl ps))(ne:Q≠P)(s:qlA P H H2):qlz Q qual H2:=by obtain⟨qs,h1,h2,h3⟩:=h;refine⟨qs,s _ _ h1 ne,h2,λpos v e=> ?_⟩;obtain⟨c,e1,e2⟩:=h3 pos v e;exact⟨c,e1,s _ _ e2 λz=>by rw[z,hP] at e2;cases e2⟩
end
end PL
namespace HD
open PySem L2 PL
abbrev e2(x:Str)(s:Stmt):Str×Stmt:=(x,s)
abbrev c2(x:Str)(n:Int):Str×Int:=(x,n)
noncomputable def qwM(K:W.Frag)(x:Str):Option (Addr×Obj):=match W.nsIn K mainGlobals x with
 |some (some (.ref f))=>(match K.lookup f with|some o=>some (f,o)|none=>none)
 |_=>none
noncomputable def qqw(K:W.Frag)(x:Str):Option FuncData:=match qwM K x with
 |some (_,⟨_,_,.func fd,_⟩)=>some fd
 |_=>none
noncomputable def okD(K:W.Frag)(x:Str):Bool:=match qwM K x with
 |some (f,⟨_,_,.func fd,_⟩)=>W.codeIn K fd.code x&&W.keepIn K (.ref f)
 |_=>false
noncomputable def due(x:Str)(st:Stmt)(fd:FuncData):FuncData:=W.fnOf x x (qas st) (qaF st) (qaf st) .none fd.kwdefaults fd.doc fd.pyModule fd.annotations fd.code fd.closureTuple
noncomputable def okN(K:W.Frag)(x:Str):Bool:=match W.nsIn K mainGlobals x with
 |some none=>true
 |_=>false
noncomputable def Df(K:W.Frag)(mg:Str->Option Value)(x:Str)(st:Stmt):Prop:=
 ∃(f:Addr)(oc:Value)(od:Option Addr)(osl:Array (Option Value))(kV doc pm:Value)(an:Option Addr)(cdv ct:Value),
  K.lookup f=some ⟨oc,od,.func (W.fnOf x x (qas st) (qaF st) (qaf st) .none kV doc pm an cdv ct),osl⟩/\W.codeIn K cdv x=true/\W.keepIn K (.ref f)=true/\mg x=some (.ref f)/\
   W.nsIn K mainGlobals x=some (some (.ref f))
section
variable{x:Str}
theorem qwV(X:K.In h)(G:h.Ns mainGlobals mg)(a:okD K x=true)(e:qqw K x=(qqw K x).map (due x st)):Df K mg x st:=by
 unfold okD at a;unfold qqw at e;split at a
 ·rename_i f oc od fd osl q;rw[q] at e;have e:=Option.some.inj e;unfold qwM at q;split at q
  ·rename_i f' n;split at q
   ·rename_i o lk;cases q;have a:=Bool.and_eq_true_iff.mp a;exact⟨_,_,_,_,fd.kwdefaults,fd.doc,fd.pyModule,fd.annotations,fd.code,fd.closureTuple,by rw[lk,show W.fnOf x x _ _ _ _ _ _ _ _ _ _=fd from e.symm],a.1,a.2,W.mg_of X G n,n⟩
   ·cases q
  ·cases q
 ·cases a
theorem qoC{K:W.Frag}{h:Heap}{tb:List (Str×Stmt)}(X:K.In h)(G:h.Ns mainGlobals mg)(a:(tb.all λp=>okD K p.1)=true)(e:tb.map (λp=>qqw K p.1)=tb.map λp=>(qqw K p.1).map (due p.1 p.2)): ∀(i:Nat)(x:Str)(st:Stmt),tb[i]? =some (x,st)->Df K mg x st:=λi x st hi=>by have a:=List.all_eq_true.mp a _ (Vt hi);have e:=congrArg (λl=>l[i]?) e;simp only[List.getElem?_map,hi] at e;exact qwV X G a (Option.some.inj e)
theorem qv6(X:K.In h)(G:h.Ns mainGlobals mg){l:List Str}(a:l.all (okN K)=true): ∀x∈l,mg x=none:=λx hx=>by
 have a:=List.all_eq_true.mp a x hx;unfold okN at a;split at a
 ·rename_i q;exact W.mg_none_of X G q
 ·cases a
end
noncomputable def tOf(K:W.Frag)(y:Str):Addr:=((W.tabIn K y).getD (0,0)).2
noncomputable def qgr(K:W.Frag)(ys:List Str):List (Addr×Addr):=ys.map λy=>(W.tabIn K y).getD (0,0)
noncomputable def okT(K:W.Frag)(ys:List Str):Bool:=decide (ys.map (tOf K)).Nodup&&ys.all λy=>match W.tabIn K y with
 |some (_,T)=>(match K.lookup T with|none=>true|some _=>false)
 |none=>false
theorem qnq{ys:List Str}(h:okT K ys=true):ys.map (W.tabIn K)=(qgr K ys).map some/\(∀T∈(qgr K ys).map (·.2),K.lookup T=none)/\(ys.map (tOf K)).Nodup:=by
 have h:=Bool.and_eq_true_iff.mp h;have nd:=of_decide_eq_true h.1;have h:=List.all_eq_true.mp h.2;refine⟨?_,?_,nd⟩
 ·unfold qgr;rw[List.map_map];refine List.map_congr_left λy hy=> ?_;have:=h y hy;show W.tabIn K y=some ((W.tabIn K y).getD _);cases q:W.tabIn K y with
  |none=>simp_all
  |some p=>rfl
 ·intro T hT;obtain⟨p,hp,rfl⟩:=List.mem_map.mp hT;obtain⟨y,hy,rfl⟩:=List.mem_map.mp hp;have:=h y hy;cases q:W.tabIn K y with
  |none=>simp_all
  |some p=>
   rw[q] at this;dsimp only at this;split at this
   ·assumption
   ·cases this
end HD
namespace DH
open PySem PySem.Spec PyProof.Rows PySem.W
noncomputable def RawD(h:Heap)(d:Addr)(es:Array DictEntry)(ep:Nat):Prop:= ∃o,h.get? d=some o/\o.ExactDict/\o.data= .dict es ep
theorem RawD.at(x:RawD h d es ep)(k: ∀o,h.get? d=some o->h'.get? d=some o):RawD h' d es ep:=let ⟨o,a,b⟩:=x;⟨o,k o a,b⟩
theorem RawD.lt(x:RawD h d es ep):d<h.objs.size:=let ⟨_,a,_⟩:=x;Vi a
theorem RawD.ty{s:Shared}{ep:Nat}(x:RawD s.heap d es ep):s.TypeIs (.ref d) "dict" :=let ⟨o,a,b,_⟩:=x;⟨o,a,b.1⟩
theorem qtf{s:Shared}{es:Array DictEntry}{ep:Nat}(lo:(d==sysModules)=false)(x:RawD s.heap d es ep)(q:Q (.ref s.heap.objs.size) { s with heap:=s.heap.push { cls:=.type "dict_keyiterator",data:=.fields #[.ref d,.int 0 0,.int es.size 0,.int ep 0] } }):wpAny (model prog w) A (pyIter (.ref d)) Q E s:=by obtain⟨o,ho,hx,hd⟩:=id x;have ty:=x.ty;refine wpAny_pyIter_slot ty F.slot_dict_iter (wpAny_call_entry F.slot_dict_iter ty F.entry_dict_iter ?_ (F.args_dict_iter_1 _));refine Va ?_;refine Va (wpAny_notOrdered_dict ty ?_);refine Vb ?_;show wpAny _ _ (Builtin.Dict.showsAll d>>=_) _ _ s;unfold Builtin.Dict.showsAll;rw[if_neg (by grind)];refine Va (Vb ?_);refine Va (wpAny_dictEntries ho hd (Va (wpAny_dictEpoch ho hd ?_)));exact Va (wpAny_newObj_type (Vb ⟨_,rfl, "dict_keyiterator",_,⟨_,Vh _ rfl,rfl⟩,F.slot_dict_keyiterator_next.lookup,by simpa [rawInt] using q⟩))
theorem qv8(hi:s.heap.IsKeyIter it d i es.size ep)(x:RawD s.heap d es ep)(lt:i<es.size)(q: ∀h',h'.IsKeyIter it d (i+1) es.size ep->Heap.SameBut it s.heap h'->Q (some es[i].key) { s with heap:=h' }):wpAny (model prog w) A (pyNext (.ref it)) Q E s:=by
 obtain⟨o,ho,hc,hd⟩:=id hi;obtain⟨od,bG,hx2,hd2⟩:=id x;have ty:=hi.typeIs;unfold pyNext;refine Va (wpAny_attempt (wpAny_callSpecial?_slot (name:=Str.ofString "__next__") ty F.slot_dict_keyiterator_next (wpAny_call_entry F.slot_dict_keyiterator_next ty F.entry_dict_keyiterator_next ?_ (F.args_dict_keyiterator_next_1 _))));refine Va (Vb ?_);refine Va ?_;refine Va ?_
 first|refine Va (wpAny_typeNameOfWhole_keyiter ty (Vb ?_))|refine Va (wpAny_typeNameOf_keyiter ty (Vb ?_))
 refine Va (wpAny_fieldsOf ho hd ?_);have ow:Builtin.Dict_items.ownsTuple "dict_keyiterator" =false:=by decide
 simp only[ow,Bool.false_eq_true,if_false];show wpAny _ _ (if(Value.ref d==Value.none)=true then _ else _) _ _ s;rw[if_neg (show ¬((Value.ref d==Value.none)=true) from Bool.false_ne_true)];refine Va (Vb ?_);refine Va (wpAny_dictEntries bG hd2 ?_);rw[if_neg (by simp)];refine Va (Vb ?_);refine Va (wpAny_dictEpoch bG hd2 ?_);rw[if_neg (by simp)];refine Vb ?_;simp only[show ¬((i:Int)<0) from by omega,if_false,Int.toNat_natCast,Array.getElem?_eq_getElem lt];refine Va ?_
 first|refine Va (wpAny_typeNameOfWhole_keyiter ty (Vb ?_))|refine Va (wpAny_typeNameOf_keyiter ty (Vb ?_))
 refine Va (wpAny_isOneOf_keyiter ty ?_);show wpAny _ _ (setField (.ref it) 1 (rawInt ((i:Int)+1))>>=_) _ _ s;refine Va (wpAny_setField ho hd (by simp) ?_);have je:(s.heap.update it (Obj.mapFields (·.setIfInBounds 1 (rawInt ((i:Int)+1))))).IsKeyIter it d (i+1) es.size ep:=⟨_,Heap.get?_update_self _ ho (Obj.isFreed_of_fields (Obj.data_mapFields hd _)),(Obj.cls_mapFields ..).trans hc,by rw[Obj.data_mapFields hd];simp[rawInt]⟩
 refine Va (wpAny_holding ?_);refine Va (wpAny_isOneOf_keyiter (s:={ s with heap:=s.heap.update it (Obj.mapFields (·.setIfInBounds 1 (rawInt ((i:Int)+1)))) }) je.typeIs ?_);show wpAny _ _ (pure es[i].key) _ _ _;exact Vb (Vb ⟨_,rfl,Vb (q _ je (Heap.SameBut.update ..))⟩)
theorem qzc(hh:A.handled=none)(hi:s.heap.IsKeyIter it d i es.size ep)(x:RawD s.heap d es ep)(ge:es.size<=i)(q: ∀h',Heap.ExtBut it s.heap h'->Q none { s with heap:=h' }):wpAny (model prog w) A (pyNext (.ref it)) Q E s:=by
 obtain⟨o,ho,hc,hd⟩:=id hi;obtain⟨od,bG,hx2,hd2⟩:=id x;have ty:=hi.typeIs;unfold pyNext;refine Va (wpAny_attempt (wpAny_callSpecial?_slot (name:=Str.ofString "__next__") ty F.slot_dict_keyiterator_next (wpAny_call_entry F.slot_dict_keyiterator_next ty F.entry_dict_keyiterator_next ?_ (F.args_dict_keyiterator_next_1 _))));refine Va (Vb ?_);refine Va ?_;refine Va ?_
 first|refine Va (wpAny_typeNameOfWhole_keyiter ty (Vb ?_))|refine Va (wpAny_typeNameOf_keyiter ty (Vb ?_))
 refine Va (wpAny_fieldsOf ho hd ?_);have ow:Builtin.Dict_items.ownsTuple "dict_keyiterator" =false:=by decide
 simp only[ow,Bool.false_eq_true,if_false];show wpAny _ _ (if(Value.ref d==Value.none)=true then _ else _) _ _ s;rw[if_neg (show ¬((Value.ref d==Value.none)=true) from Bool.false_ne_true)];refine Va (Vb ?_);refine Va (wpAny_dictEntries bG hd2 ?_);rw[if_neg (by simp)];refine Va (Vb ?_);refine Va (wpAny_dictEpoch bG hd2 ?_);rw[if_neg (by simp)];refine Vb ?_;simp only[show ¬((i:Int)<0) from by omega,if_false,Int.toNat_natCast,Array.getElem?_eq_none ge];refine Va ?_
 first|refine Va (wpAny_typeNameOfWhole_keyiter ty (Vb ?_))|refine Va (wpAny_typeNameOf_keyiter ty (Vb ?_))
 show wpAny _ _ (setField (.ref it) 0 .none>>=_) _ _ s;refine Va (wpAny_setField ho hd (by simp) ?_);show wpAny _ _ (newExc (.type "StopIteration") []>>=_) _ _ _;refine Va ?_;simp only[newExc,newTuple];refine Va (wpAny_newObj_type ?_ (by size_fits));refine Va (m:=firstArgMember _ _) (wpAny_of_eq (a:=Value.none) (by first|rfl|(simp only[firstArgMember];rfl)) ?_);refine wpAny_newObj_type ?_ (by size_fits);simp only[raiseNew];refine Va (wpAny_handled ?_);rw[show A.in1.handled=none from hh];refine Va (Vb (wpAny_throw ?_));refine Va (wpAny_isInstance (T:= "StopIteration") (b:=true) ⟨_,Vh _ rfl,rfl⟩ isSubtype_stop ?_);exact Vb (q _ (((Heap.SameBut.update ..).extBut.push _).push _))
theorem qrs(hh:A.handled=none)(I d:Addr)(ne:d≠I)(es:Array DictEntry)(ep:Nat):
  Walks prog w A I [I,d] [I] es.size (λi v=> ∃e,es[i]? =some e/\v=e.key) (λi h=>h.IsKeyIter I d i es.size ep/\RawD h d es ep) where
 sub:=λb hb=>by simp at hb;simp[hb]
 frame:=λ_ _ _ st hk=>⟨st.1.at λo e=>hk I (by simp) o e,st.2.at λo e=>hk d (by simp) o e⟩
 item:=λi s Q E hi st hQ=>qv8 st.1 st.2 hi λh' a b=>hQ _ h' s.toks ⟨es[i],by simp[hi],rfl⟩ ⟨a,st.2.at λo e=>b.extBut d o ne e⟩ λc o hc e=>b.extBut c o (λz=>hc (by simp[z])) e
 done:=λs Q E st hQ=>qzc hh st.1 st.2 (Vm _) λh' b=>hQ h' s.toks λc o hc e=>b c o (λz=>hc (by simp[z])) e
 self:=λ_ _ _ _ st hQ=>wpAny_pyIter_keyiter st.1 hQ
theorem qyt{es:Array DictEntry}{ep:Nat}(lo:(d==sysModules)=false):KdlSrc prog w "dict" d d es.size (λi v=> ∃e,es[i]? =some e/\v=e.key) (λh=>RawD h d es ep) where
 type:=λ_ m=>m.ty
 there:=λ_ m=>⟨m.lt,m.lt⟩
 keep:=λ_ _ m k=>m.at λo e=>k d (.inl rfl) o e
 notList:=by decide
 notTuple:=by decide
 hint:=λ_ _ _ _ m q=>kdl_hint_dict m.ty q
 iter:=λ_ _ hh m=>⟨_,_,λ_ _ q=>qtf lo m q,qrs hh _ d (Vo m.lt) es ep,⟨⟨_,Vh _ rfl,rfl,rfl⟩,m.at λo e=>Vg _ e⟩⟩
theorem collectD(hh:A.handled=none)(lo:(d==sysModules)=false)(m:RawD s.heap d es ep)(hn:es.size<=sizeLine)(h: ∀(h':Heap)(tk:Nat),(∀b o,s.heap.get? b=some o->h'.get? b=some o)->R (es.toList.map (·.key)) { s with heap:=h',toks:=tk }):wpAny (model prog w) A (collect (.ref d)) R E s:=by
 refine kdu_collect (qyt lo) hh m hn λh' tk acc k hI=> ?_;have:acc.toList=es.toList.map (·.key):=by
  refine List.ext_getElem? λj=> ?_;rw[List.getElem?_map,Array.getElem?_toList];by_cases c:j<acc.size
  ·obtain⟨e,h1,h2⟩:=hI.2 j acc[j] (by simp[c])
   simp_all
  ·have: ¬j<es.size:=by rw[<-hI.1];exact c
   grind
 simp_all
open L2
variable{prog:Program}{w:World}{A:Around}{E:Value->Shared->Prop}{s:Shared}
abbrev IS:=Int×Str
noncomputable def qrl(x y:IS):Bool:=if x.1=y.1 then(if x.2=y.2 then false else decide (y.2.cps.toList<x.2.cps.toList)) else decide (y.1<x.1)
noncomputable def qrg(h:Heap)(x:IS)(p:Addr):Prop:= ∃t u,IsTup h p #[.int x.1 t,.str x.2 u]
theorem qrg.keep(a:qrg h x p)(k: ∀o,h.get? p=some o->h'.get? p=some o):qrg h' x p:=by obtain⟨t,u,o,e,r⟩:=a;exact⟨t,u,o,k o e,r⟩
theorem qwr(hp:qrg s.heap x p)(hq:qrg s.heap y q)(hu:A.units<cLine)(h:Q (.bool (qrl x y)) s):wpAny (model prog w) A (richCompare .Gt (.ref p) (.ref q)) Q E s:=by
 obtain⟨t1,t2,o1,e1,c1,n1,d1⟩:=hp;obtain⟨t3,t4,o2,e2,c2,n2,d2⟩:=hq;have dI:s.TypeIs (.ref p) "tuple" :=⟨o1,e1,c1⟩
 have iS:s.TypeIs (.ref q) "tuple" :=⟨o2,e2,c2⟩
 refine wpAny_richCompare_same_room (op:=.Gt) dI iS F.slot_tuple_gt (wpAny_call_entry F.slot_tuple_gt dI F.entry_tuple_gt ?_ (F.args_tuple_gt_2 _ _)) hu;show wpAny _ _ (isInstance (.ref q) (.type "tuple")>>=_) _ _ s;refine Va (wpAny_isInstance iS isSubtype_tuple_tuple ?_);simp only[Bool.not_true,Bool.false_eq_true,if_false];refine Va (wpAny_tupleItemsOf e1 d1 (Va (wpAny_tupleItemsOf e2 d2 ?_)));simp only[List.zip_cons_cons,List.zip_nil_left,List.forIn_cons,List.forIn_nil];refine Va (Va (Va ((qaq prog w).eqBool (a:=.inl x.1) (b:=.inl y.1) (qcZ (k:=.inl x.1) ⟨t1,rfl⟩) (qcZ (k:=.inl y.1) ⟨t3,rfl⟩) ?_)));unfold qrl at h;by_cases c:x.1=y.1
 ·rw[if_pos c] at h;rw[decide_eq_true (show(Sum.inl x.1:Key)= .inl y.1 by rw[c])];simp only[Bool.not_true,Bool.false_eq_true,if_false];refine Vb (Va (Va ((qaq prog w).eqBool (a:=.inr x.2) (b:=.inr y.2) (qcZ (k:=.inr x.2) ⟨t2,rfl⟩) (qcZ (k:=.inr y.2) ⟨t4,rfl⟩) ?_)));by_cases c2:x.2=y.2
  ·rw[if_pos c2] at h;rw[decide_eq_true (show(Sum.inr x.2:Key)= .inr y.2 by rw[c2])];simp only[Bool.not_true,Bool.false_eq_true,if_false];refine Vb (Vb ?_);exact Vb ⟨_,rfl,(λz=>nomatch z),h⟩
  ·rw[if_neg c2] at h;rw[decide_eq_false (show ¬(Sum.inr x.2:Key)= .inr y.2 fromλz=>c2 (Sum.inr.inj z))];simp only[Bool.not_false,if_true];refine Va (wpAny_rule ?_);refine Va (P.gt_str ?_);exact Vb (Vb (Vb ⟨_,rfl,(λz=>nomatch z),h⟩))
 ·rw[if_neg c] at h;rw[decide_eq_false (show ¬(Sum.inl x.1:Key)= .inl y.1 fromλz=>c (Sum.inl.inj z))];simp only[Bool.not_false,if_true];refine Va (wpAny_rule ?_);refine Va (P.gt_int ?_);exact Vb (Vb (Vb ⟨_,rfl,(λz=>nomatch z),h⟩))
section
variable{R:Result->Shared->Prop}{I:Addr}{fp wr:List Addr}{n:Nat}{P:Nat->Value->Prop}{St:Nat->Heap->Prop}
noncomputable def qxo(prog:Program)(w:World)(A:Around)(P:Nat->Value->Prop)(St:Nat->Heap->Prop)(bt:Nat->Nat->Bool):Prop:=
 ∀i j k a b (s:Shared) (Q:Value->Shared->Prop) (E:Value->Shared->Prop),St k s.heap->P i a->P j b->Q (.bool (bt i j)) s->wpAny (model prog w) A (richCompare .Gt a b) Q E s
theorem qbS:(toString "max" ++toString ".loop" :String)= "max.loop" :=rfl
theorem qj5(W:Walks prog w A.in1 I fp wr n P St)(bt:Nat->Nat->Bool)(cm:qxo prog w A.in1 P St bt)(S:Addr)(nf:S∉fp): ∀(m j:Nat)(s:Shared)(x:Value)(c:Nat),n - (j+1)=m->j+1<=n->St (j+1) s.heap->P (argBest bt j) x->
  s.heap.get? S=some { cls:=.type "list",dict:=none,data:=.seq #[x,x] c,slots:= #[] }->
  (∀v h' tk,P (argBest bt (n - 1)) v->(∀b o,b∉wr->b≠S->s.heap.get? b=some o->h'.get? b=some o)->R (.ok (.ret v)) { s with heap:=h',toks:=tk })->codeAny (model prog w) A (.builtin "max.loop" ⟨[.ref I,.none,.ref S],[]⟩) R s:=by
 have nw:S∉wr:=λh=>nf (W.sub _ h);intro m
 induction m with
 |zero=>
  intro j s x c e1 e2 st px eS k;have jn:j+1=n:=by omega
  refine codeAny_builtin F.entry_max_loop ?_;rw[Around.under_plainId F.plain_max_loop _];show wpAny _ A.in1 (seqItems? (.ref S)>>=_) _ _ s;refine Va (wpAny_seqItems eS rfl ?_);show wpAny _ A.in1 (tryCatch (pyNext (.ref I)) _>>=_) _ _ s;refine Va (wpAny_tryCatch (W.done s _ _ (jn▸st) λh1 t1 kp=> ?_));have cL:=kp S _ nw eS;show wpAny _ A.in1 (updateSeq S (λ_=> #[])>>=_) _ _ _;refine Va ?_;refine wpAny_updateSeq cL rfl (Va (wpAny_letGo (Vb ?_)));exact k x _ t1 (by rw[<-jn];exact px) λb o nb ns eb=>(Vj _ _ (Ne.symm ns)).trans (kp b o nb eb)
 |succ m ih=>
  intro j s x c e1 e2 st px eS k;have lt:j+1<n:=by omega
  refine codeAny_builtin F.entry_max_loop ?_;rw[Around.under_plainId F.plain_max_loop _];show wpAny _ A.in1 (seqItems? (.ref S)>>=_) _ _ s;refine Va (wpAny_seqItems eS rfl ?_);show wpAny _ A.in1 (tryCatch (pyNext (.ref I)) _>>=_) _ _ s;refine Va (wpAny_tryCatch (W.item (j+1) s _ _ lt st λv h1 t1 pv eC kp=> ?_));have cL:=kp S _ nw eS;show wpAny _ A.in1 (tryCatch (holding [v,v] (richCompare .Gt v x>>=_)) _>>=_) _ _ _;refine Va (wpAny_tryCatch (wpAny_holding (Va (cm (j+1) (argBest bt j) _ v x _ _ _ eC pv px ?_))));refine Va (wpAny_holding (Vd ?_));refine Va (wpAny_letGo (Vb ?_));cases eb:bt (j+1) (argBest bt j) with
  |true=>
   simp only[if_true];refine Va ?_;refine wpAny_updateSeq cL rfl (Va (wpAny_letGo ?_));rw[qbS];refine Vb ⟨plainId_quiet F.plain_max_loop _,ih (j+1) _ v _ (by omega) lt (W.frame _ _ _ eC λb bf o ob=> ?_) (by simp only[argBest,eb,if_true];exact pv) (Heap.get?_update_self _ cL rfl) λv2 h2 t2 eE bJ=> ?_⟩
   ·exact(Vj _ _ (λz:S=b=>nf (by rw[z];exact bf))).trans ob
   ·exact k v2 h2 t2 eE λb o nb ns ob=>bJ b o nb ns ((Vj _ _ (Ne.symm ns)).trans (kp b o nb ob))
  |false=>simp only[Bool.false_eq_true,if_false];refine Va (wpAny_letGo ?_);rw[qbS];exact Vb ⟨plainId_quiet F.plain_max_loop _,ih (j+1) _ x c (by omega) lt eC (by simp only[argBest,eb,Bool.false_eq_true,if_false];exact px) cL λv2 h2 t2 eE bJ=>k v2 h2 t2 eE λb o nb ns ob=>bJ b o nb ns (kp b o nb ob)⟩
theorem qj6(W:Walks prog w A.in1 I fp wr n P St)(bt:Nat->Nat->Bool)(cm:qxo prog w A.in1 P St bt)(S:Addr)(nf:S∉fp)(hn:0<n){s:Shared}{c:Nat}(st:St 0 s.heap)(eS:s.heap.get? S=some { cls:=.type "list",dict:=none,data:=.seq #[] c,slots:= #[] })(k: ∀v h' tk,P (argBest bt (n - 1)) v->(∀b o,b∉wr->b≠S->s.heap.get? b=some o->h'.get? b=some o)->R (.ok (.ret v)) { s with heap:=h',toks:=tk }):codeAny (model prog w) A (.builtin "max.loop" ⟨[.ref I,.none,.ref S],[]⟩) R s:=by
 have nw:S∉wr:=λh=>nf (W.sub _ h);refine codeAny_builtin F.entry_max_loop ?_;rw[Around.under_plainId F.plain_max_loop _];show wpAny _ A.in1 (seqItems? (.ref S)>>=_) _ _ s;refine Va (wpAny_seqItems eS rfl ?_);show wpAny _ A.in1 (tryCatch (pyNext (.ref I)) _>>=_) _ _ s;refine Va (wpAny_tryCatch (W.item 0 s _ _ hn st λv h1 t1 pv eC kp=> ?_));have cL:=kp S _ nw eS;show wpAny _ A.in1 (updateSeq S (λ_=> #[v,v])>>=_) _ _ _;refine Va ?_;refine wpAny_updateSeq cL rfl ?_;rw[qbS];refine Vb ⟨plainId_quiet F.plain_max_loop _,qj5 W bt cm S nf _ 0 _ v _ rfl hn (W.frame _ _ _ eC λb bf o ob=> ?_) pv (Heap.get?_update_self _ cL rfl) λv2 h2 t2 eE bJ=> ?_⟩
 ·exact(Vj _ _ (λz:S=b=>nf (by rw[z];exact bf))).trans ob
 ·exact k v2 h2 t2 eE λb o nb ns ob=>bJ b o nb ns ((Vj _ _ (Ne.symm ns)).trans (kp b o nb ob))
theorem qln(h:wpAny (model prog w) A.in1 (pyIter x) (λit s1=> ∃I fp wr n P St bt,it= .ref I/\Walks prog w A.in1 I fp wr n P St/\St 0 s1.heap/\(∀b∈fp,b<s1.heap.objs.size)/\0<n/\qxo prog w A.in1 P St bt/\
   ∀v h' tk,P (argBest bt (n - 1)) v->(∀b o,b∉wr->s1.heap.get? b=some o->h'.get? b=some o)->Q v { s1 with heap:=h',toks:=tk }) E s):wpAny (model prog w) A (call (.builtin "max") [x]) Q E s:=by refine call_function_tree F.kind_max F.plain_max F.entry_max (F.args_max1 _) ?_;refine Va (wpAny_of_eq (rfl) ?_);refine Va (Vb ?_);refine Va (Vc h (λit s1 hq=> ?_) λ_ _ z=>z);obtain⟨I,fp,wr,n,P,St,bt,rfl,W,st,lo,hn,cm,k⟩:=hq;refine Va (wpAny_newObj_type ?_);have nf:s1.heap.objs.size∉fp:=λm=>Nat.lt_irrefl _ (lo _ m);rw[qbS];refine Vb ⟨plainId_quiet F.plain_max_loop _,qj6 W bt cm s1.heap.objs.size nf hn (W.frame _ _ _ st λb _ o ob=>Vg _ ob) (Vh _ rfl) λv h' tk pv kp=> ?_⟩;exact k v h' tk pv λb o nb ob=>kp b o nb (Vo (Vi ob)) (Vg _ ob)
end
theorem quY{prog:Program}{w:World}{A:Around}{I:Addr}{fp wr more:List Addr}{n:Nat}{P:Nat->Value->Prop}{St:Nat->Heap->Prop}{T:Heap->Prop}(W:Walks prog w A I fp wr n P St)(nw: ∀b∈more,b∉wr)(hT: ∀h h':Heap,T h->(∀b∈more,∀o,h.get? b=some o->h'.get? b=some o)->T h'):Walks prog w A I (fp++more) wr n P (λi h=>St i h/\T h) where
 sub:=λb hb=>List.mem_append.mpr (.inl (W.sub b hb))
 frame:=λi h h' st k=>⟨W.frame i h h' st.1 λb hb o e=>k b (List.mem_append.mpr (.inl hb)) o e,hT _ _ st.2 λb hb o e=>k b (List.mem_append.mpr (.inr hb)) o e⟩
 item:=λi s Q E hi st hQ=>W.item i s Q E hi st.1 λv h' tk pv aF k=>hQ v h' tk pv ⟨aF,hT _ _ st.2 λb hb o e=>k b o (nw b hb) e⟩ k
 done:=λs Q E st hQ=>W.done s Q E st.1 hQ
 self:=λi s Q E st hQ=>W.self i s Q E st.1 hQ
noncomputable def bestIS(xs:List IS):Nat:=argBest (λi j=>qrl (xs.getD i (0, "")) (xs.getD j (0, ""))) (xs.length - 1)
theorem qdO(bt:Nat->Nat->Bool): ∀k,argBest bt k<=k
 |0=>Vm _
 |k+1=>by
  unfold argBest;split
  ·exact Vm _
  ·exact Nat.le_succ_of_le (qdO bt k)
theorem bestIS_lt(h:xs≠[]):bestIS xs<xs.length:=by have:=qdO (λi j=>qrl (xs.getD i (0, "")) (xs.getD j (0, ""))) (xs.length - 1);have:=List.length_pos_iff.mpr h;unfold bestIS;omega
theorem call_maxD{A:Around}{s:Shared}{es:Array DictEntry}{ep:Nat}{xs:List IS}{qs:List Addr}(hh:A.in1.handled=none)(hu:A.in1.units<cLine)(lo:(d==sysModules)=false)(m:RawD s.heap d es ep)(hk:es.toList.map (·.key)=qs.map Value.ref)(hl:xs.length=qs.length)(aN:xs≠[])(ht: ∀j q,qs[j]? =some q->qrg s.heap (xs.getD j (0, "")) q)(h: ∀(h':Heap)(tk:Nat),(∀b o,s.heap.get? b=some o->h'.get? b=some o)->Q (.ref (qs.getD (bestIS xs) 0)) { s with heap:=h',toks:=tk }):wpAny (model prog w) A (call (.builtin "max") [.ref d]) Q E s:=by
 have n1:es.size=qs.length:=by have:=congrArg List.length hk;simpa using this
 have key: ∀{i:Nat}{v:Value},(∃e,es[i]? =some e/\v=e.key)->∃q,qs[i]? =some q/\v= .ref q:=λ{i v} hv=>by
  obtain⟨e,h1,h2⟩:=hv;have h3:=congrArg (λl=>l[i]?) hk;simp only[List.getElem?_map,Array.getElem?_toList,h1,Option.map_some] at h3;cases q:qs[i]? with
  |none=>rw[q] at h3;cases h3
  |some a=>rw[q] at h3;exact⟨a,rfl,h2.trans (Option.some.inj h3)⟩
 have lq: ∀q∈qs,q<s.heap.objs.size:=λq hq=>by obtain⟨j,hj⟩:=List.mem_iff_getElem?.mp hq;obtain⟨t,u,o,e,_⟩:=ht j q hj;exact Vi e
 refine qln (qtf lo m ?_)
 refine⟨_,_,_,es.size,_,_,λi j=>qrl (xs.getD i (0, "")) (xs.getD j (0, "")),rfl,quY (more:=qs) (T:=λh=> ∀j q,qs[j]? =some q->qrg h (xs.getD j (0, "")) q) (qrs hh _ d (Vo m.lt) es ep) (λb hb z=> ?_) (λh h' t k j q hj=>(t j q hj).keep λo e=>k q (Vt hj) o e),
  ⟨⟨⟨_,Vh _ rfl,rfl,rfl⟩,m.at λo e=>Vg _ e⟩,λj q hj=>(ht j q hj).keep λo e=>Vg _ e⟩,λb hb=> ?_,?_,λi j k a b s1 Q1 E1 st pa pb hq=> ?_,λv h' tk pv kp=> ?_⟩
 ·have e:b=s.heap.objs.size:=by simpa using z
  exact absurd (lq b hb) (by rw[e];exact Nat.lt_irrefl _)
 ·show b<(Heap.push _ _).objs.size;rw[PyProof.Rows.size_push']
  rcases List.mem_append.mp hb with hb|hb
  ·have aW:b=s.heap.objs.size\/b=d:=by simpa using hb
   rcases aW with rfl|rfl
   ·exact Vz _
   ·exact Nat.lt_succ_of_lt m.lt
  ·exact Nat.lt_succ_of_lt (lq b hb)
 ·rw[n1,<-hl];exact List.length_pos_iff.mpr aN
 ·obtain⟨q1,e1,rfl⟩:=key pa;obtain⟨q2,e2,rfl⟩:=key pb;exact qwr (st.2 i q1 e1) (st.2 j q2 e2) hu hq
 ·obtain⟨q,e1,rfl⟩:=key pv;have e2:argBest (λi j=>qrl (xs.getD i (0, "")) (xs.getD j (0, ""))) (es.size - 1)=bestIS xs:=by unfold bestIS;rw[n1,hl]
  rw[e2] at e1;have:qs.getD (bestIS xs) 0=q:=by rw[List.getD_eq_getElem?_getD,e1];rfl
  rw[<-this];refine h h' tk λb o ob=>kp b o (λz=> ?_) (Vg _ ob);have:b=s.heap.objs.size:=by simpa using z
  exact Vo (Vi ob) this
theorem call_lenR(lo:(d==sysModules)=false)(m:RawD s.heap d es ep)(hz:es.size<=sizeLine)(h:Q (.int es.size (s.toks+1)) { s with toks:=s.toks+1+1 }):wpAny (model prog w) A (call (.builtin "len") [.ref d]) Q E s:=by obtain⟨o,ho,hx,hd⟩:=id m;have ty:=m.ty;rw[sizeLine_eq] at hz;refine Calls.call_function_entry kind_len plain_len entry_len (args_len1 _) ?_;unfold Builtin.«len»;refine Va (m:=oneArg "len" _) (Vb ?_);refine Va (m:=callSpecial? (.ref d) (Str.ofString "__len__")) (wpAny_callSpecial?_slot (name:=Str.ofString "__len__") ty F.slot_dict_len (wpAny_call_entry F.slot_dict_len ty F.entry_dict_len ?_ (F.args_dict_len_1 _)));show wpAny _ _ (dictSize d>>=_) _ _ s;unfold dictSize;refine Va (Va (wpAny_dictEntries ho hd (Vb ?_)));show wpAny _ _ (Builtin.Dict.pendingCount d>>=_) _ _ s;refine Va (wpAny_pendingCount_other lo ?_);refine wpAny_ret_mkInt ?_;rw[show((es.size:Int)+((0:Nat):Int))=(es.size:Int) by simp];refine Va (wpAny_holding (Vb ?_));refine Va (wpAny_letGo ?_);show wpAny _ _ (if((es.size:Nat):Int)<0 then _ else _) _ _ _;rw[if_neg (by omega)];show wpAny _ _ (if((es.size:Nat):Int)≥2 ^ 63 then _ else _) _ _ _;rw[if_neg (by omega)];exact Va (wpAny_mkInt (Vb ⟨_,rfl,h⟩))
theorem call_clearR(m:RawD s.heap d es ep)(hz:es.size<=sizeLine)(h: ∀h',RawD h' d #[] (ep+1)->Heap.SameBut d s.heap h'->Q .none { s with heap:=h' }):wpAny (model prog w) A (call (.builtin "dict.clear") [.ref d]) Q E s:=by
 obtain⟨o,ho,hx,hd⟩:=id m;have ty:=m.ty;refine wpAny_call_entry F.slot_dict_clear ty F.entry_dict_clear ?_ (F.args_dict_clear_1 _);refine Va ?_;refine Va (wpAny_notOrdered_dict ty ?_);refine Vb (a:=d) ?_;refine Va (wpAny_dictEntries ho hd ?_);refine Va ?_;refine Va (wpAny_load ho (Vb ?_));refine Va (wpAny_updateDictKeys ho hd ?_);have nw:RawD (s.heap.update d (Obj.mapDictKeys λ_=> #[])) d #[] (ep+1):=⟨_,Heap.get?_update_self _ ho (Obj.isFreed_of_dict (Obj.data_mapDictKeys hd _)),hx.mapDictKeys _,Obj.data_mapDictKeys hd _⟩
 split
 ·exact Va (wpAny_letGo (Vb ⟨.none,rfl,h _ nw (Heap.SameBut.update ..)⟩))
 ·exact Va (Vb (Vb ⟨.none,rfl,h _ nw (Heap.SameBut.update ..)⟩))
end DH
namespace PL
open PySem L2
section
variable{X:Cx}{U:List (Addr×Obj)}{O:St}{H:Hp}{s:Shared}
theorem dt_keys(I:L2.Inv X U O H s)(hp:H p=some (.dT us)): ∃(qs:List Addr)(es:Array DictEntry)(ep:Nat),DH.RawD s.heap p es ep/\(p==sysModules)=false/\us.length<=sizeLine/\es.toList.map (·.key)=qs.map Value.ref/\es.size=us.length/\qs.length=us.length/\
  ∀(j:Nat)(q:Addr),qs[j]? =some q->∃k v,us[j]? =some (k,v)/\H q=some (.tup (k.map kV)):=by
 obtain⟨hz,lo,xs,kt,o,es,ep,ho,hx,hd,he,hk,nd⟩:=qtK I.hok hp;have lx:=Paired.length kt;refine⟨xs.map (·.2.1),es,ep,⟨o,ho,hx,hd⟩,lo,hz,by rw[he,List.map_map,List.map_map];rfl,?_,by rw[List.length_map,lx],λj q e=> ?_⟩
 ·have:=congrArg List.length he
  grind
 ·have go: ∀{us:List (List Key×V)} {xs } {j:Nat} {q:Addr},KT H us xs->(xs.map (·.2.1))[j]? =some q->∃k v,us[j]? =some (k,v)/\H q=some (.tup (k.map kV)):=λ{us xs j q} kt=>by
   induction kt generalizing j with
   |nil=>intro e;cases j<;>cases e
   |cons c _ ih=>
    intro e;cases j with
    |zero=>have e:=Option.some.inj e;refine⟨_,_,List.getElem?_cons_zero,?_⟩;rw[<-e];exact c.2.1
    |succ j=>obtain⟨k,v,e1,e2⟩:=ih (j:=j) (by simpa using e);simp_all
  exact go kt e
end
section
variable{X:Cx}{o e a:Expr}{pos p p1 apos cpos:Pos}{i:Nat}
theorem clr_obj{P:Program}{w:World}{H':Hp}{h':Heap}{p:Addr}{ep:Nat}(lo:(p==sysModules)=false)(r:DH.RawD h' p #[] ep):qaG P w H' h' p (.dK [])/\qaG P w H' h' p (.dT []):=by obtain⟨o,ho,hx,hd⟩:=r;exact⟨⟨Nat.zero_le _,lo,[],.nil,o, #[],ep,ho,hx,hd,λ_ he=>by simp at he,.nil,List.nodup_nil⟩,⟨Nat.zero_le _,lo,[],.nil,o, #[],ep,ho,hx,hd,rfl,List.nodup_nil⟩⟩
end
noncomputable def isIS:List Key->Bool
 |[.inl _,.inr _]=>true
 |_=>false
noncomputable def isOf:List Key->DH.IS
 |[.inl i,.inr s]=>(i,s)
 |_=>(0, "")
theorem isIS_inv{k:List Key}(h:isIS k=true):k.map kV=[.int (isOf k).1,.str (isOf k).2]:=by
 unfold isIS at h;split at h
 ·rfl
 ·cases h
open SR SetL
end PL
namespace PL
open PySem L2
noncomputable def luS{α:Type}(tbl:List (Str×α))(z:Str):Option α:=(tbl.find? λp=>decide (p.1=z)).map (·.2)
noncomputable def TopT(K:W.Frag)(mg:Str->Option Value)(w:World)(D:Str)(tbl:List (Str×Str)):Prop:=
 ∃(a:Addr)(es:Array DictEntry)(n:Nat),mg D=some (.ref a)/\K.lookup a=some ⟨.type "dict",none,.dict es n, #[]⟩/\W.KeysLit w.params es.toList/\(a==sysModules)=false/\
  ∀z,match luS tbl z with|none=>findBy Value.isStrOf es z=none|some g=> ∃f,findBy Value.isStrOf es z=some (.ref f)/\W.nsIn K mainGlobals g=some (some (.ref f))
noncomputable def esOf(K:W.Frag)(D:Str):Option (List DictEntry):=match W.nsIn K mainGlobals D with
 |some (some (.ref a))=>(match K.lookup a with|some ⟨.type "dict",none,.dict es _,sl⟩=>if(a==sysModules)=false/\sl.size=0 then some es.toList else none|_=>none)
 |_=>none
noncomputable def qtG(K:W.Frag):List DictEntry->List (Str×Str)->Bool
 |[],[]=>true
 |e::es,(k,g)::tb=>(match e.key,e.val,W.nsIn K mainGlobals g with|.str x _,.ref f,some (some (.ref f'))=>x==k&&f==f'|_,_,_=>false)&&qtG K es tb
 |_,_=>false
noncomputable def topB(K:W.Frag)(D:Str)(tbl:List (Str×Str)):Bool:=match esOf K D with
 |some es=>qtG K es tbl
 |none=>false
theorem qfo: ∀{es:List DictEntry}{tbl:List (Str×Str)},qtG K es tbl=true->es.map (·.hash)=tbl.map (λp=>PyData.keyHash P p.1)->W.KeysLit P es
 |[],[],_,_=>True.intro
 |e::es,(k,g)::tb,h,hh=>by
  have h:=Bool.and_eq_true_iff.mp h;have h1:=h.1;split at h1
  ·rename_i x t f f' e1 e2 e3;have h1:=Bool.and_eq_true_iff.mp h1;have:=by simpa using h1.1
   subst this;exact⟨⟨x,t,e1,(List.cons.inj hh).1⟩,qfo h.2 (List.cons.inj hh).2⟩
  ·cases h1
 |[],_::_,h,_=>by cases h
 |_::_,[],h,_=>by cases h
theorem qfp(z:Str): ∀{es:List DictEntry}{tbl:List (Str×Str)},qtG K es tbl=true->
  match luS tbl z with|none=>(es.find? λe=>Value.isStrOf z e.key).map (·.val)=none|some g=> ∃f,(es.find? λe=>Value.isStrOf z e.key).map (·.val)=some (.ref f)/\W.nsIn K mainGlobals g=some (some (.ref f))
 |[],[],_=>rfl
 |e::es,(k,g)::tb,h=>by
  unfold qtG at h;have h:=Bool.and_eq_true_iff.mp h;have h1:=h.1;split at h1
  ·rename_i x t f f' e1 e2 e3;have h1:=Bool.and_eq_true_iff.mp h1;have:x=k:=by simpa using h1.1
   subst this;have:f=f':=by simpa using h1.2
   subst this;by_cases c:x=z
   ·subst c;have l:luS ((x,g)::tb) x=some g:=by simp[luS,List.find?_cons]
    rw[l];refine⟨f,?_,e3⟩;have:Value.isStrOf x e.key=true:=by rw[e1];show(x==x)=true;simp
    rw[List.find?_cons,this];exact congrArg some e2
   ·have l:luS ((x,g)::tb) z=luS tb z:=by simp[luS,List.find?_cons,c]
    have n:Value.isStrOf z e.key=false:=by rw[e1];show(x==z)=false;exact beq_eq_false_iff_ne.mpr c
    rw[l,List.find?_cons,n];exact qfp z h.2
  ·cases h1
 |[],_::_,h=>by cases h
 |_::_,[],h=>by cases h
theorem topT_of{D:Str}(X:K.In h)(G:h.Ns mainGlobals mg)(b:topB K D tbl=true)(hh:(esOf K D).map (λes=>es.map (·.hash))=some (tbl.map λp=>PyData.keyHash w.params p.1)):TopT K mg w D tbl:=by
 unfold topB at b;split at b
 ·rename_i es e;rw[e] at hh;have hh:=Option.some.inj hh;unfold esOf at e;split at e
  ·rename_i a n;split at e
   ·rename_i bj m sl l;split at e
    ·rename_i c;cases e;have:=by simpa using c.2
     subst this;refine⟨a,bj,m,W.mg_of X G n,l,qfo b hh,c.1,λz=> ?_⟩;have:=qfp z b;unfold findBy
     simp_all
    ·cases e
   ·cases e
  ·cases e
 ·cases b
section
variable{x D:Str}
theorem op_topin(hl:X.K.lookup a=some ⟨.type "dict",none,.dict es n, #[]⟩)(hk:W.KeysLit X.w.params es.toList)(lo:(a==sysModules)=false)(hz: ∀z,match luS tbl z with | none=>findBy Value.isStrOf es z=none | some g=> ∃f,findBy Value.isStrOf es z=some (.ref f)/\W.nsIn X.K mainGlobals g=some (some (.ref f))):
  OpR X (compareOp .In) (λx y H Q=> ∃z,x= .str z/\y= .ref a/\Q (.bl (luS tbl z).isSome) H):=by
 intro U s O H x y v u Q I rx ry q;obtain⟨z,rfl,rfl,q⟩:=q;obtain⟨t,rfl⟩:=rx;cases ry;refine PySem.wpAny_in_of (PySem.strKind_is _ X.w z t) lo (W.mapOf_K I.kIn hl hk) ?_;have:(findBy Value.isStrOf es z).isSome=(luS tbl z).isSome:=by
  have:=hz z;split at this
  ·simp_all
  ·rename_i g e;obtain⟨f,h1,_⟩:=this;rw[h1,e];rfl
 rw[this];exact⟨.bl _,H,I.tok _,rfl,q⟩
end
section
variable{x D:Str}
theorem fn_same{g:Str}(I:L2.Inv X U O H s)(h:W.nsIn X.K mainGlobals g=some (some (.ref f)))(m:X.mg g=some (.ref f')):f=f':=by
 have:=W.mg_of I.ok.mod.kin I.ok.mod.glob h
 grind
end
end PL
namespace HD
open PySem L2 PL
noncomputable def clOf(K:W.Frag)(x:Str):Addr:=match W.nsIn K mainGlobals x with
 |some (some (.ref C))=>C
 |_=>0
noncomputable def noB(K:W.Frag)(C:Addr)(f:Str):Bool:=match W.findIn K (.ref C) f with
 |some none=>true
 |_=>false
noncomputable def qv3(K:W.Frag)(x:Str)(fs:List Str):Bool:=match W.nsIn K mainGlobals x with
 |some (some (.ref C))=>W.plainGet K C Str.empty&&(W.hasDictIn K C&&(W.plainOver K C&&((match W.findIn K (.ref C) "__setattr__" with|some (some (.builtin n))=>n== "object.__setattr__" | _=>false)&&(W.makesIn K C&&(W.keepIn K (.ref C)&&fs.all (noB K C))))))
 |_=>false
theorem qw8{x:Str}{fs:List Str}(X:K.In h)(G:h.Ns mainGlobals mg)(a:qv3 K x fs=true):
  mg x=some (.ref (clOf K x))/\Cls K (clOf K x)/\W.makesIn K (clOf K x)=true/\W.keepIn K (.ref (clOf K x))=true/\∀f∈fs,qa5 K (clOf K x) f:=by
 unfold qv3 at a;split at a
 ·rename_i C n;have e:clOf K x=C:=by unfold clOf;rw[n]
  rw[e];simp only[Bool.and_eq_true] at a;obtain⟨a1,a2,a3,a4,a5,a6,a7⟩:=a;refine⟨W.mg_of X G n,⟨a1,a2,a3,?_⟩,a5,a6,λf hf=> ?_⟩
  ·split at a4
   ·grind
   ·cases a4
  ·have:=List.all_eq_true.mp a7 f hf;unfold noB at this;split at this
   ·assumption
   ·cases this
 ·cases a
noncomputable def qwd(K:W.Frag)(C:Addr)(m:Str):Option (Addr×Obj):=match W.findIn K (.ref C) m with
 |some (some (.ref f))=>(match K.lookup f with|some o=>some (f,o)|none=>none)
 |_=>none
noncomputable def qsW(K:W.Frag)(C:Addr)(m:Str):Option FuncData:=match qwd K C m with
 |some (_,⟨_,_,.func fd,_⟩)=>some fd
 |_=>none
noncomputable def okM(K:W.Frag)(C:Addr)(m q:Str):Bool:=match qwd K C m with
 |some (f,⟨_,_,.func fd,_⟩)=>W.isFn K (.ref f)&&(W.codeIn K fd.code q&&W.keepIn K (.ref f))
 |_=>false
noncomputable def qxS(m q:Str)(st:Stmt)(fd:FuncData):FuncData:=W.fnOf m q (qas st) (qaF st) (qaf st) .none fd.kwdefaults fd.doc fd.pyModule fd.annotations fd.code fd.closureTuple
noncomputable def DfM(K:W.Frag)(C:Addr)(m q:Str)(st:Stmt):Prop:=
 ∃(f:Addr)(oc:Value)(od:Option Addr)(osl:Array (Option Value))(kV doc pm:Value)(an:Option Addr)(cdv ct:Value),
  K.lookup f=some ⟨oc,od,.func (W.fnOf m q (qas st) (qaF st) (qaf st) .none kV doc pm an cdv ct),osl⟩/\W.codeIn K cdv q=true/\quC K C m f
theorem qtU{m q:Str}(a:okM K C m q=true)(e:qsW K C m=(qsW K C m).map (qxS m q st)):DfM K C m q st:=by
 unfold okM at a;unfold qsW at e;split at a
 ·rename_i f oc od fd osl z;rw[z] at e;have e:=Option.some.inj e;unfold qwd at z;split at z
  ·rename_i f' n;split at z
   ·rename_i o lk;cases z;simp only[Bool.and_eq_true] at a;exact⟨_,_,_,_,fd.kwdefaults,fd.doc,fd.pyModule,fd.annotations,fd.code,fd.closureTuple,by rw[lk,show W.fnOf m q _ _ _ _ _ _ _ _ _ _=fd from e.symm],a.2.1,⟨n,a.1,a.2.2⟩⟩
   ·cases z
  ·cases z
 ·cases a
end HD
namespace PL
open PySem L2 SR SetL
end PL
namespace HD
open PySem L2 PL
noncomputable def nsC(K:W.Frag)(x:Str):Bool:=match W.nsIn K mainGlobals x with
 |some (some (.ref _))=>true
 |_=>false
theorem qsS{x:Str}(X:K.In h)(G:h.Ns mainGlobals mg)(a:nsC K x=true):mg x=some (.ref (clOf K x)):=by
 unfold nsC at a;split at a
 ·rename_i C n;have e:clOf K x=C:=by unfold clOf;rw[n]
  rw[e];exact W.mg_of X G n
 ·cases a
theorem qu4{Ts:List Addr}{qz:List Str}{p:Addr×Str}(h: ∀T∈Ts,H T=some (.tbl #[]))(hp:p∈Ts.zip qz):qlz p.1 p.2 H:=⟨#[],h _ (Vx hp).1,trivial,λpos v e=>by cases e⟩
end HD
namespace L2
open PySem PySem.Spec PySem.Calls PyProof.Rows
end L2
namespace PL
open PySem L2 SR SetL
end PL
namespace L2
open PySem PySem.Spec PyProof.Rows
end L2
namespace PL
open PySem L2
end PL
section
set_option maxHeartbeats 1000000
namespace TM
open PySem Builtin PySem.Spec
section
theorem qjZ(hit:s.heap.IsTupleIter it t i)(ht:s.heap.IsTuple t items)(hx:items[i]? =some x)(hQ: ∀h',h'.IsTupleIter it t (i+1)->Heap.SameBut it s.heap h'->Q x { s with heap:=h' }):wpAny (model prog w) A (SmallTypes.nextOf (.ref it)) Q E s:=by obtain⟨o,ho,hc,hd⟩:=id hit;obtain⟨ol,g9,_,nl,d4⟩:=ht;refine Va (wpAny_callSpecial?_slot hit.typeIs F.slot_tuple_iterator_next (wpAny_call_entry F.slot_tuple_iterator_next hit.typeIs F.entry_tuple_iterator_next ?_ (F.args_tuple_iterator_next_1 _)));show wpAny _ _ (field _ 0>>=_) _ _ s;refine Va (wpAny_field ho hd rfl ?_);refine Va (wpAny_field ho hd rfl ?_);refine Va (wpAny_seqItems g9 d4 ?_);simp only[Int.toNat_natCast,hx];refine Va (wpAny_setField ho hd (by simp) ?_);refine Vb ⟨x,rfl,Vb (hQ _ ⟨_,Heap.get?_update_self _ ho (Obj.isFreed_of_fields (Obj.data_mapFields hd _)),(Obj.cls_mapFields ..).trans hc,?_⟩ (Heap.SameBut.update ..))⟩;rw[Obj.data_mapFields hd];simp[rawInt]
theorem qmA(hh:A.handled=none)(hit:s.heap.IsTupleIter it t i)(ht:s.heap.IsTuple t items)(hx:items[i]? =none)(hE: ∀h' e,Heap.ExtBut it s.heap h'->(∃o,h'.get? e=some o/\o.cls= .type "StopIteration")->E (.ref e) { s with heap:=h' }):wpAny (model prog w) A (SmallTypes.nextOf (.ref it)) Q E s:=by
 obtain⟨o,ho,hc,hd⟩:=id hit;obtain⟨ol,g9,_,nl,d4⟩:=ht;unfold SmallTypes.nextOf;refine Va (wpAny_callSpecial?_slot (name:=Str.ofString "__next__") hit.typeIs F.slot_tuple_iterator_next (wpAny_call_entry F.slot_tuple_iterator_next hit.typeIs F.entry_tuple_iterator_next ?_ (F.args_tuple_iterator_next_1 _)));show wpAny _ _ (field (.ref it) 0>>=_) _ _ s;refine Va (wpAny_field ho hd (x:=.ref t) rfl ?_);show wpAny _ _ (if(Value.ref t==Value.none)=true then _ else _) _ _ s;rw[if_neg (show ¬((Value.ref t==Value.none)=true) from Bool.false_ne_true)];refine Va (m:=field (.ref it) 1) (wpAny_field ho hd (x:=.int i 0) rfl ?_);refine Va (m:=seqItems? (.ref t)) (wpAny_seqItems g9 d4 ?_);simp only[Int.toNat_natCast,hx];refine Va (wpAny_rule ?_);refine Va (wpAny_setField ho hd (by simp) ?_);obtain⟨hp,g,d,tk,os⟩:=s;unfold SmallTypes.stopIteration
 wp_walk
 refine wpAny_raiseNew_none hh (hE _ _ (λb o' hb e=>Vg _ (Vg _ (((Heap.SameBut.update ..).2 b hb).trans e))) ⟨_,Vh _ rfl,rfl⟩)
theorem draws_tup(hh:A.handled=none)(it t:Addr)(aN:t≠it)(items:Array Value):Draws prog w A it [it,t] items.size (λi v=>items[i]? =some v) (λi h=>h.IsTupleIter it t i/\h.IsTuple t items) where
 live:=λ_ _ st=>let ⟨o,ho,_⟩:=st.1;⟨o,ho⟩
 frame:=λ_ _ _ st hk=>⟨let ⟨o,ho,r⟩:=st.1;⟨o,hk it (by simp) o ho,r⟩,let ⟨o,ho,r⟩:=st.2;⟨o,hk t (by simp) o ho,r⟩⟩
 item:=λi s Q E hi st hQ=>by refine qjZ st.1 st.2 (x:=items[i]) (by simp[hi]) λh' ig br=> ?_;exact hQ _ h' s.toks (by simp[hi]) ⟨ig,st.2.extBut br.extBut aN⟩ br
 done:=λs Q E st hE=>qmA hh st.1 st.2 (by simp) hE
end
end TM
namespace L2
open PySem PySem.Spec PyProof.Rows
end L2
namespace PL
open PySem L2
end PL
end
namespace NV
open PySem L2
inductive Ito where
 |fx (ts:List T)|lv (k:Nat)
noncomputable def nxt:Ito->Mu->Nat->Option (Option T)
 |.fx ts,_,i=>some ts[i]?
 |.lv k,Z,i=>match Z.l[k]? with|some (.ls ts)=>some ts[i]?|_=>none
noncomputable def qbT:Ito->Mu->Nat
 |.fx ts,_=>ts.length
 |.lv k,Z=>match Z.l[k]? with|some (.ls ts)=>ts.length|_=>0
noncomputable def qgJ(M:Md)(J:It)(B1:qaI)(it:Ito):Prop:= ∀μ' H' B',Hs M μ' H' B'->Le B1 B'->∀i:Nat,
 (∀t,nxt it μ' i=some (some t)->J.go i H'/\∀x bA,J.yld i H' x bA->∃iQ,Hs M μ' bA iQ/\Go H' B' bA iQ/\Rep M.K iQ t x)/\((∀ts,it= .fx ts->i<=ts.length)->nxt it μ' i=some none->J.stop i H')
noncomputable def KI(M:Md)(H:Hp)(B:qaI)(R:It->Hp->Prop):Ito->Mu->Prop:=λit Z=> ∀J H1 B1,Hs M Z H1 B1->Go H B H1 B1->qbT it Z<=sizeLine->qgJ M J B1 it->R J H1
noncomputable def tI(M:Md)(E:XK)(d:DS0 Ito):TI:=λO H R=> ∃ρ Z B,Ev M ρ Z O H B/\Wn M E H B (KI M H B R) (d ρ Z)
noncomputable def qrj:T->Mu->R Ito
 |.lst ts,Z=>.ok (.fx ts) Z
 |.tup ts,Z=>.ok (.fx ts) Z
 |.obj k,Z=>(match Z.l[k]? with|some (.ls _)=>.ok (.lv k) Z|_=>.no)
 |.dct kvs,Z=>.ok (.fx (kvs.map λp=>qeg p.1)) Z
 |.str z,Z=>if z.length<=1000 then .ok (.fx (z.cps.toList.map λc=>.str ⟨#[c]⟩)) Z else .no
 |_,_=>.no
noncomputable def dIt(da:DS0 T):DS0 Ito:=dSq da λt _ Z=>qrj t Z
noncomputable def qyh(lo hi:Int):List T:=(List.range (hi - lo).toNat).map λk=>.int (lo+(k:Nat))
noncomputable def qcb:List T->Mu->R Ito
 |[.int n],Z=>if n<=1000000/\ -1000000<=n then .ok (.fx ((List.range n.toNat).map λk=>.int (k:Nat))) Z else .no
 |_,_=>.no
noncomputable def qrQ:List T->Mu->R Ito
 |[.int m,.int n],Z=>if(n<=1000000/\ -1000000<=n)/\m<=1000000/\ -1000000<=m then .ok (.fx (qyh m n)) Z else .no
 |_,_=>.no
noncomputable def sqv(Z:Mu):T->Option (Bool×List T)
 |.lst ts=>some (true,ts)
 |.tup ts=>some (false,ts)
 |.obj k=>(match Z.l[k]? with|some (.ls ts)=>some (true,ts)|_=>none)
 |_=>none
noncomputable def qtE(xs:List T):List T:=xs.zipIdx.map λp=>.tup [.int (p.2:Nat),p.1]
noncomputable def qtF:List T->Mu->R Ito
 |[.lst xs],Z=>.ok (.fx (qtE xs)) Z
 |[.tup xs],Z=>.ok (.fx (qtE xs)) Z
 |_,_=>.no
noncomputable def dIA(g:List T->Mu->R Ito)(ds:DS0 (List T)):DS0 Ito:=dSq ds λts _ Z=>g ts Z
section
theorem PI.or(h:PI X tg e t)(h':PI X tg e t'):PI X tg e (λO H R=>t O H R\/t' O H R):=λU s O H R I q=>q.elim (h _ s O H R I) (h' _ s O H R I)
theorem qdm:PI X tg e (tI M E dNo):=(by rintro _ _ _ _ _ _ ⟨_,_,_,_,w⟩;exact w.elim)
theorem qi5(hp:B1 p=some (.lst vs))(r:Reps M.K B1 ts vs):qgJ M (Itl M.K p) B1 (.fx ts):=λμ' H' B' h le i=>by
 have q:SqL M.K H' p vs:=SqL.of (h.bh _ _ (le.h _ _ hp));refine⟨λt et=> ?_,λhl hi=> ?_⟩
 ·obtain⟨x,ex,rx⟩:=r.get (Option.some.inj et);refine⟨⟨vs,x,q,ex⟩,λy bA ⟨e1,e2⟩=> ?_⟩;subst e1;have:=e2 vs q;rw[ex] at this;cases this;exact⟨B',h,.refl,rx.mono le⟩
 ·exact⟨vs,q,by rw[r.length];exact List.getElem?_eq_none_iff.mp (Option.some.inj hi)⟩
theorem qlO(hp:B1 p=some (.tup vs))(r:Reps M.K B1 ts vs):qgJ M (Itt M.K p) B1 (.fx ts):=λμ' H' B' h le i=>by
 have q:SqT M.K H' p vs:=SqT.of (h.bh _ _ (le.h _ _ hp));refine⟨λt et=> ?_,λhl hi=> ?_⟩
 ·obtain⟨x,ex,rx⟩:=r.get (Option.some.inj et);refine⟨⟨vs,x,q,ex⟩,λy bA ⟨e1,e2⟩=> ?_⟩;subst e1;have:=e2 vs q;rw[ex] at this;cases this;exact⟨B',h,.refl,rx.mono le⟩
 ·exact⟨vs,q,by rw[r.length];exact List.getElem?_eq_none_iff.mp (Option.some.inj hi)⟩
theorem qoU(hp:B1.ad k=some p):qgJ M (Itl M.K p) B1 (.lv k):=λμ' H' B' h le i=>by
 have go: ∀{o:Option T},nxt (.lv k) μ' i=some o->∃ts vs,o=ts[i]? /\SqL M.K H' p vs/\Reps M.K B' ts vs:=λ{o} e=>by
  have e:(match μ'.l[k]? with|some (.ls ts)=>some ts[i]?|_=>none)=some o:=e;split at e
  ·rename_i ts el;cases e;obtain⟨u,_,hu,vs,rfl,rv⟩:=h.at el (by simp) (le.d _ _ hp);exact⟨ts,vs,rfl,SqL.of hu,rv⟩
  ·cases e
 refine⟨λt et=> ?_,λhl hi=> ?_⟩
 ·obtain⟨ts,vs,e,q,r⟩:=go et;obtain⟨x,ex,rx⟩:=r.get e.symm;refine⟨⟨vs,x,q,ex⟩,λy bA ⟨e1,e2⟩=> ?_⟩;subst e1;have:=e2 vs q;rw[ex] at this;cases this;exact⟨B',h,.refl,rx⟩
 ·obtain⟨ts,vs,e,q,r⟩:=go hi;exact⟨vs,q,by rw[r.length];grind⟩
theorem qlP{z:Str}(hJ:J=⟨λi _=>i<z.cps.size,λi H x H'=>H'=H/\∃c,z.cps[i]? =some c/\x= .str ⟨#[c]⟩,λi _=>z.cps.size<=i⟩):qgJ M J B1 (.fx (z.cps.toList.map λc=>.str ⟨#[c]⟩)):=λμ' H' B' h le i=>by
 subst hJ;refine⟨λt et=> ?_,λhl hi=> ?_⟩
 ·have et:=Option.some.inj et;rw[List.getElem?_map] at et;cases q:z.cps.toList[i]? with
  |none=>rw[q] at et;cases et
  |some c=>rw[q] at et;cases et;have hi:=(List.getElem?_eq_some_iff.mp q).1;refine⟨show i<z.cps.size by simpa using hi,λy bA ⟨e1,c',e2,e3⟩=> ?_⟩;subst e1 e3;rw[Array.getElem?_toList] at q;rw[q] at e2;cases e2;exact⟨B',h,.refl,qce⟩
 ·have hi:=List.getElem?_eq_none_iff.mp (Option.some.inj hi)
  simp_all
theorem qlQ(hp:B1 p=some (.frz o (.dK us)))(rd:qbc M.K B1 kvs us):qgJ M (PL.Itd p o us) B1 (.fx (kvs.map λp=>qeg p.1)):=λμ' H' B' h le i=>by
 have lk:=rd.length;have hH:=h.bh _ _ (le.h _ _ hp);refine⟨λt et=> ?_,λhl hi=> ?_⟩
 ·have et:=Option.some.inj et;rw[List.getElem?_map] at et;obtain⟨pr,q,rfl⟩:=Option.map_eq_some_iff.mp et;obtain⟨v,q2,_⟩:=qd6 rd q;have hi:=(List.getElem?_eq_some_iff.mp q2).1;refine⟨⟨hH,hi⟩,λy bA ⟨e1,k,v',e2,e3⟩=> ?_⟩;subst e1 e3;rw[q2] at e2;cases e2;exact⟨B',h,.refl,qcY _⟩
 ·have hi:=List.getElem?_eq_none_iff.mp (Option.some.inj hi);rw[List.length_map] at hi;exact⟨hH,by omega⟩
theorem qtS(h:PE X e (tE M E da))(hK:X.K=M.K):PI X tg e (tI M E (dIt da)):=by
 refine PI.weak (PI.or (PL.pi_seq h) (PI.or (qsl h) (PL.pi_dict h))) λO H R hq=> ?_;obtain⟨ρ,Z,B,ev,w⟩:=hq;rw[hK];have w:Wn M E H B (KI M H B R) ((da ρ Z).bind qrj):=w;cases q:da ρ Z with
 |no=>rw[q] at w;exact w.elim
 |ex c m=>rw[q] at w;exact .inl ⟨ρ,Z,B,ev,by rw[q];exact w⟩
 |ok t m=>
  rw[q] at w;have w:Wn M E H B (KI M H B R) (qrj t m):=w;cases t with
  | lst ts=>exact .inl ⟨ρ,Z,B,ev,by
    rw[q];intro v H1 B1 h1 g1 r1;obtain⟨p,vs,rfl,hp,r⟩:=qaC r1;exact⟨p,rfl,.inl ⟨vs,SqL.of (h1.bh _ _ hp),λhz=>w _ H1 B1 h1 g1 (by show ts.length<=_;rw[<-r.length];exact hz) (qi5 hp r)⟩⟩⟩
  | tup ts=>exact .inl ⟨ρ,Z,B,ev,by
    rw[q];intro v H1 B1 h1 g1 r1;obtain⟨p,vs,rfl,hp,r⟩:=qaw r1;exact⟨p,rfl,.inr ⟨vs,SqT.of (h1.bh _ _ hp),λhz=>w _ H1 B1 h1 g1 (by show ts.length<=_;rw[<-r.length];exact hz) (qlO hp r)⟩⟩⟩
  | obj k=>exact .inl ⟨ρ,Z,B,ev,by
    rw[q];intro v H1 B1 h1 g1 r1;obtain⟨p,rfl,ep⟩:=qax r1;unfold qrj at w;dsimp only at w;split at w
    ·rename_i ts el;obtain⟨u,_,hu,vs,rfl,rv⟩:=h1.at el (by simp) ep;exact⟨p,rfl,.inl ⟨vs,SqL.of hu,λhz=>w _ H1 B1 h1 g1 (by show(match m.l[k]? with|some (.ls ts)=>ts.length|_=>0)<=_;rw[el];show ts.length<=_;rw[<-rv.length];exact hz) (qoU ep)⟩⟩
    ·exact w.elim⟩
  | dct kvs=>exact .inr (.inr ⟨ρ,Z,B,ev,by
    rw[q];intro v H1 B1 h1 g1 r1;obtain⟨p,o,us,rfl,hp,rd⟩:=qfU r1;exact⟨p,o,us,rfl,h1.bh _ _ hp,λhz=>w _ H1 B1 h1 g1 (by show(kvs.map _).length<=_;rw[List.length_map,<-rd.length];exact hz) (qlQ hp rd)⟩⟩)
  | str z=>exact .inr (.inl ⟨ρ,Z,B,ev,by
    rw[q];intro v H1 B1 h1 g1 r1;cases qaB r1;have w:Wn M E H B (KI M H B R) (if z.length<=1000 then _ else _):=w;split at w
    ·rename_i hz;exact⟨z,rfl,w _ H1 B1 h1 g1 (by show(z.cps.toList.map _).length<=_;rw[List.length_map,Array.length_toList];exact Nat.le_of_lt (qeM hz)) (qlP rfl)⟩
    ·exact w.elim⟩)
  |_=>exact w.elim
theorem qhS:qgJ M (L2.Itr lo n) B1 (.fx ((List.range n).map λk=>.int (lo+(k:Nat)))):=λμ' H' B' h le i=>by
 refine⟨λt et=> ?_,λhl hi=> ?_⟩
 ·have et:=Option.some.inj et;rw[List.getElem?_map] at et;cases q:(List.range n)[i]? with
  |none=>rw[q] at et;cases et
  |some j=>rw[q] at et;cases et;obtain⟨hi,ej⟩:=List.getElem?_eq_some_iff.mp q;rw[List.getElem_range] at ej;subst ej;refine⟨show i<n by simpa using hi,λy bA ⟨e1,e2⟩=> ?_⟩;subst e1 e2;exact⟨B',h,.refl,qaN⟩
 ·have hi:=List.getElem?_eq_none_iff.mp (Option.some.inj hi);rw[List.length_map,List.length_range] at hi;exact hi
theorem qkY(hg:Gl X "range")(hm:X.mg "range" =none)(ha:PA X [a] (tA M E ds))(hs:starEach [a] X.env=[(false,eval a X.env)]):PI X tg (.Call (.Name "range" p) [a] [] pos) (tI M E (dIA qcb ds)):=by
 refine PI.weak (qjO hg hm ha hs) λO H R ⟨ρ,Z,B,ev,w⟩=>⟨ρ,Z,B,ev,(Wn.bind w).mono λts m w1 vs H1 B1 h1 g1 r1=> ?_⟩
 change Wn M E H B (KI M H B R) (qcb ts m) at w1
 unfold qcb at w1;split at w1
 ·rename_i n;obtain⟨v,r,rfl,a1,b1⟩:=r1.inv;cases b1.inv0;cases qag a1;split at w1
  ·rename_i hn;have l0:=PL.line1M;refine⟨n,rfl,by omega,by omega,w1 _ H1 B1 h1 g1 (by show(List.map _ _).length<=_;rw[List.length_map,List.length_range];omega) ?_⟩;have:=qhS (M:=M) (lo:=0) (n:=n.toNat) (B1:=B1);simpa using this
  ·exact w1.elim
 ·exact w1.elim
end
noncomputable def qrw(k:DS0 Out):Out->Mu->R Out
 |.nx ρ,Z=>k ρ Z
 |.ct ρ,Z=>k ρ Z
 |.bk ρ,Z=>.ok (.nx ρ) Z
 |.rt t,Z=>.ok (.rt t) Z
noncomputable def qhz(it:Ito)(dg:T->DS0 Ro)(db:DS0 Out):Nat->Nat->DS0 Out
 |0,i=>λρ Z=>match nxt it Z i with|some none=>.ok (.nx ρ) Z|_=>.no
 |n+1,i=>λρ Z=>match nxt it Z i with
  |some none=>.ok (.nx ρ) Z
  |some (some t)=>(dg t ρ Z).bind λav aa=>(db av aa).bind (qrw (qhz it dg db n (i+1)))
  |none=>.no
noncomputable def qwI(dg:T->DS0 Ro)(db:DS0 Out):List T->DS0 Out
 |[]=>λρ Z=>.ok (.nx ρ) Z
 |t::ts=>λρ Z=>(dg t ρ Z).bind λav aa=>(db av aa).bind (qrw (qwI dg db ts))
theorem qkL: ∀(n i:Nat),ts.length<=n+i->qhz (.fx ts) dg db n i=qwI dg db (ts.drop i)
 |0,i,h=>by
  have e:ts[i]? =none:=List.getElem?_eq_none_iff.mpr (by omega)
  funext ρ Z
  rw[List.drop_eq_nil_of_le (by omega)];show(match some ts[i]? with|some none=>R.ok _ Z|_=>.no)=_;rw[e];rfl
 |n+1,i,h=>by
  funext ρ Z
  show(match some ts[i]? with|some none=>R.ok _ Z|some (some t)=>_|none=>.no)=_;cases q:ts[i]? with
  |none=>rw[List.drop_eq_nil_of_le (List.getElem?_eq_none_iff.mp q)];rfl
  |some t=>obtain⟨hi,et⟩:=List.getElem?_eq_some_iff.mp q;rw[List.drop_eq_getElem_cons hi,et];rw[qkL n _ (by omega)];rfl
noncomputable def qwJ(dg:T->DS0 Ro)(db:DS0 Out):Ito->DS0 Out
 |.fx ts=>qwI dg db ts
 |.lv k=>λρ Z=>qhz (.lv k) dg db (qbT (.lv k) Z) 0 ρ Z
noncomputable def qx0(di:DS0 Ito)(dg:T->DS0 Ro)(db:DS0 Out):DS0 Out:=dSq di (qwJ dg db)
theorem qkM:qwJ dg db it ρ Z=qhz it dg db (qbT it Z) 0 ρ Z:=by
 cases it with
 |fx ts=>rw[qkL _ 0 (by exact Nat.le_refl _)];rfl
 |lv k=>rfl
section
theorem qtP(hp:PassesOwn (model X.prog X.w) X.A X.env X.xe)(hc:X.calm=true)(hi:PI X tg iter (tI M E di))(hg:PG X tg (tG M E dg))(hb:PSs X body (tS M E db))(hs: ∀x,foldedSetIterable iter X.env x=pure x):PS X (.For tg iter body [] pos) (tS M E (qx0 di dg db)):=by
 refine PS.weak (qsf hp hc hi hg hb hs) λD O H ⟨ρ,Z,B,ev,w⟩=>⟨ρ,Z,B,ev,(Wn.bind w).mono λit m w1 J H1 B1 h1 g1 hz wk=> ?_⟩
 rw[qkM] at w1;refine⟨λi n ag H'=> ∃ρ' μ' B',Ev M ρ' μ' ag H' B'/\Go H1 B1 H' B'/\(∀ts,it= .fx ts->i<=ts.length)/\Wn M E H B (KS M H B D) (qhz it dg db n i ρ' μ'),⟨_,ρ,m,B1,ev.on h1 g1.le,.refl,λ_ _=>Nat.zero_le _,w1⟩,?_⟩;rintro i n ag H' ⟨ρ',μ',B',bT,g',hl,w2⟩;have stop:nxt it μ' i=some none->(R.ok (Out.nx ρ') μ'=qhz it dg db n i ρ' μ')->J.stop i H'/\D.nx ag H':=λe q=>by rw[<-q] at w2;exact⟨(wk μ' H' B' bT.hs g'.le i).2 hl e,w2 ag H' B' bT (g1.trans g')⟩
 cases q:nxt it μ' i with
 |none=>cases n<;>(unfold qhz at w2;rw[q] at w2;exact w2.elim)
 |some o=>
  cases o with
  |none=>exact .inl (stop q (by cases n<;>(unfold qhz;rw[q])))
  |some t=>
   cases n with
   |zero=>unfold qhz at w2;rw[q] at w2;exact w2.elim
   |succ n=>
    have w2:=by unfold qhz at w2;rw[q] at w2;exact w2
    obtain⟨go,yl⟩:=(wk μ' H' B' bT.hs g'.le i).1 t q;refine .inr ⟨go,λd8 bA=> ∃ar af B2,Ev M ar af d8 bA B2/\Go H1 B1 bA B2/\(∀ts,it= .fx ts->i+1<=ts.length)/\Wn M E H B (KS M H B D) (qhz it dg db n (i+1) ar af),λd8 bA h=>⟨n,Vz n,h⟩,λx H3 y=> ?_⟩;obtain⟨B3,h3,g3,r3⟩:=yl x H3 y;have gg:=g1.trans (g'.trans g3);have dq: ∀ts,it= .fx ts->i+1<=ts.length:=λts e=>by subst e;exact(List.getElem?_eq_some_iff.mp (Option.some.inj q)).1
    refine⟨ρ',μ',B3,t,bT.on h3 g3.le,r3,(Wn.bind w2).lift gg λav aa w3 cM H4 B4 e4 g4=> ?_⟩;refine⟨av,aa,B4,e4,(Wn.bind w3).lift (gg.trans g4) λo af w4=> ?_⟩;cases o with
    |nx ar|ct ar=>exactλcy H5 B5 e5 g5=>⟨ar,af,B5,e5,((g'.trans g3).trans g4).trans g5,dq,w4⟩
    |bk ar=>exactλcy H5 B5 e5 g5=>w4 cy H5 B5 e5 ((gg.trans g4).trans g5)
    |rt t'=>exact KE.le w4 (gg.trans g4)
end
noncomputable def qbh(n:Nat)(fr:List Nat)(ρ:Ro):Ro:=List.replicate n none++fr.map λi=>(ρ[i]?).join
noncomputable def qba(it:Ito)(dg:T->DS0 Ro)(dt:DS0 Bool)(de:DS0 T):Nat->Nat->DS0 (List T)
 |0,i=>λρ Z=>match nxt it Z i with|some none=>.ok [] Z|_=>.no
 |n+1,i=>λρ Z=>match nxt it Z i with
  |some none=>.ok [] Z
  |some (some t)=>(dg t ρ Z).bind λav aa=>(dt av aa).bind λc af=>if c=true then(de av af).bind λy aQ=>(qba it dg dt de n (i+1) av aQ).bind λys aR=>.ok (y::ys) aR else qba it dg dt de n (i+1) av af
  |none=>.no
noncomputable def qfw(dg:T->DS0 Ro)(dt:DS0 Bool)(de:DS0 T):List T->DS0 (List T)
 |[]=>λρ Z=>.ok [] Z
 |t::ts=>λρ Z=>(dg t ρ Z).bind λav aa=>(dt av aa).bind λc af=>if c=true then(de av af).bind λy aQ=>(qfw dg dt de ts av aQ).bind λys aR=>.ok (y::ys) aR else qfw dg dt de ts av af
theorem qhD: ∀(n i:Nat),ts.length<=n+i->qba (.fx ts) dg dt de n i=qfw dg dt de (ts.drop i)
 |0,i,h=>by
  have e:ts[i]? =none:=List.getElem?_eq_none_iff.mpr (by omega)
  funext ρ Z
  rw[List.drop_eq_nil_of_le (by omega)];show(match some ts[i]? with|some none=>R.ok _ Z|_=>.no)=_;rw[e];rfl
 |n+1,i,h=>by
  funext ρ Z
  show(match some ts[i]? with|some none=>R.ok _ Z|some (some t)=>_|none=>.no)=_;cases q:ts[i]? with
  |none=>rw[List.drop_eq_nil_of_le (List.getElem?_eq_none_iff.mp q)];rfl
  |some t=>obtain⟨hi,et⟩:=List.getElem?_eq_some_iff.mp q;rw[List.drop_eq_getElem_cons hi,et];rw[qhD n _ (by omega)];rfl
noncomputable def qk5(dg:T->DS0 Ro)(dt:DS0 Bool)(de:DS0 T):Ito->DS0 (List T)
 |.fx ts=>qfw dg dt de ts
 |.lv k=>λρ Z=>qba (.lv k) dg dt de (qbT (.lv k) Z) 0 ρ Z
theorem qhE:qk5 dg dt de it ρ Z=qba it dg dt de (qbT it Z) 0 ρ Z:=by
 cases it with
 |fx ts=>rw[qhD _ 0 (by exact Nat.le_refl _)];rfl
 |lv k=>rfl
noncomputable def noX{α:Type}:R α->R α
 |.ok a m=>.ok a m
 |_=>.no
noncomputable def quf(x:Bool)(n:Nat)(fr:List Nat)(dg:T->DS0 Ro)(dt:DS0 Bool)(de:DS0 T)(it:Ito):DS0 Ct:=λρ Z=>
 (if x=true then qk5 dg dt de it (qbh n fr ρ) Z else noX (qk5 dg dt de it (qbh n fr ρ) Z)).bind λys μ'=>.ok (.ls ys) μ'
noncomputable def qcm(x:Bool)(n:Nat)(fr:List Nat)(di:DS0 Ito)(dg:T->DS0 Ro)(dt:DS0 Bool)(de:DS0 T):DS0 Ct:=dSq di (quf x n fr dg dt de)
section
variable{own:List Str}
theorem qqx(ev:Ev M ρ Z O H B):Ev M (qbh own.length (fr.map (·.2)) ρ) Z (qeJ own fr O) H B:=by
 refine⟨ev.hs,by unfold qbh qeJ;simp,λi t e=> ?_⟩;unfold qbh at e;by_cases hi:i<own.length
 ·rw[List.getElem?_append_left (by simpa using hi),List.getElem?_replicate] at e;split at e<;>cases e
 ·rw[List.getElem?_append_right (by simpa using hi),List.length_replicate,List.getElem?_map,List.getElem?_map] at e;cases q:fr[i - own.length]? with
  |none=>rw[q] at e;cases e
  |some p=>
   rw[q] at e;have e:(ρ[p.2]?).join=some t:=Option.some.inj e;have e':ρ[p.2]? =some (some t):=by
    cases z:ρ[p.2]? with
    |none=>rw[z] at e;cases e
    |some o=>simp_all
   obtain⟨v,e1,e2⟩:=ev.sl _ _ e';unfold qeJ;rw[List.getElem?_append_right (by simpa using hi),List.length_map,List.getElem?_map]
   simp_all
theorem comp_core(hE:x=true->E'=E)(ev:Ev M ρ Z O H B)(w:Wn M E H B (KN M H B Q) (qcm x own.length (fr.map (·.2)) di dg dt de ρ Z)):
  qeH (tI M E di) (tG M E' dg) (tT M E' dt) (tE M E' de) own fr O H λD H'=>Q (.ref D) H':=by
 refine⟨ρ,Z,B,ev,(Wn.bind w).mono λit m w1 J H1 B1 h1 g1 hz wk D hD=> ?_⟩;have w2:Wn M E' H B (λys μ'=>KN M H B Q (.ls ys) μ') (qba it dg dt de (qbT it m) 0 (qbh own.length (fr.map (·.2)) ρ) m):=by
  have w1:Wn M E H B (KN M H B Q) ((if x=true then qk5 dg dt de it (qbh own.length (fr.map (·.2)) ρ) m else noX (qk5 dg dt de it (qbh own.length (fr.map (·.2)) ρ) m)).bind λys μ'=>.ok (.ls ys) μ'):=w1;rw[qhE] at w1;cases x with
  |true=>rw[if_pos rfl] at w1;rw[hE rfl];exact Wn.bind w1
  |false=>
   rw[if_neg (by decide)] at w1;cases q:qba it dg dt de (qbT it m) 0 (qbh own.length (fr.map (·.2)) ρ) m with
   |no|ex c m'=>rw[q] at w1;exact w1.elim
   |ok ys m'=>rw[q] at w1;exact w1
 have bD:=h1.fr hD;have ofD: ∀k,B1.ad k≠some D:=λk e=>(h1.dm k D e).2 hD;have iz:hid D (upd H1 D (.lst []))=H1:=by
  funext a
  by_cases q:a=D
  ·subst q;rw[qfi,hD]
  ·rw[qch q,qad q]
 have gY:Hs M m (upd H1 D (.lst [])) B1:=h1.more λa o e=>by rw[qad (qao e hD)];exact e
 refine⟨λi n ag H'=> ∃ρ' μ' B' dn ys,Ev M ρ' μ' ag H' B'/\Go H1 B1 (hid D H') B'/\H' D=some (.lst ys)/\B' D=none/\(∀k,B'.ad k≠some D)/\Reps M.K B' dn ys/\ys.length<=i/\n+i=qbT it m/\(∀ts,it= .fx ts->i<=ts.length)/\
  Wn M E' H B (λrs μ'=>KN M H B Q (.ls (dn++rs)) μ') (qba it dg dt de n i ρ' μ'),⟨_,_,m,B1,[],[],qqx (ev.on gY g1.le),by rw[iz];exact .refl,qae,bD,ofD,.nil,Vm _,Nat.add_zero _,λ_ _=>Nat.zero_le _,w2⟩,?_⟩
 rintro i n ag H' ⟨ρ',μ',B',dn,ys,bT,g',fw,jC,fP,rd,hy,hn,hl,w3⟩;have stop:nxt it μ' i=some none->(R.ok ([]:List T) μ'=qba it dg dt de n i ρ' μ')->J.stop i H'/\Q (.ref D) H':=λe q=>by
  rw[<-q] at w3;refine⟨(wk μ' H' B' bT.hs g'.le i).2 hl e,?_⟩;have w3:KN M H B Q (.ls (dn++[])) μ':=w3;rw[List.append_nil] at w3;have:=w3 D (.lst ys) (hid D H') B' (bT.hs.loose jC fP (λa q=>qch q) λu hu=>by rw[fw] at hu;cases hu;exact .inl ⟨_,rfl⟩) (g1.trans g') qfi ⟨ys,rfl,rd⟩;have e2:upd (hid D H') D (.lst ys)=H':=by
   funext a
   by_cases q:a=D
   ·subst q;rw[qae,fw]
   ·rw[qad q,qch q]
  rw[e2] at this;exact this
 cases q:nxt it μ' i with
 |none=>cases n<;>(unfold qba at w3;rw[q] at w3;exact w3.elim)
 |some o=>
  cases o with
  |none=>exact .inl (stop q (by cases n<;>(unfold qba;rw[q])))
  |some t=>
   cases n with
   |zero=>unfold qba at w3;rw[q] at w3;exact w3.elim
   |succ n=>
    have w3:Wn M E' H B (λrs μ'=>KN M H B Q (.ls (dn++rs)) μ') ((dg t ρ' μ').bind λav aa=>(dt av aa).bind λc af=>if c=true then(de av af).bind λy aQ=>(qba it dg dt de n (i+1) av aQ).bind λys aR=>.ok (y::ys) aR else qba it dg dt de n (i+1) av af):=by unfold qba at w3;rw[q] at w3;exact w3
    obtain⟨go,yl⟩:=(wk μ' H' B' bT.hs g'.le i).1 t q;have dq: ∀ts,it= .fx ts->i+1<=ts.length:=λts e=>by subst e;exact(List.getElem?_eq_some_iff.mp (Option.some.inj q)).1
    let NN:List T->List V->St->Hp->Prop:=λjy iR aE H2=> ∃ar af B2,Ev M ar af aE H2 B2/\Go H1 B1 (hid D H2) B2/\H2 D=some (.lst ys)/\B2 D=none/\(∀k,B2.ad k≠some D)/\Reps M.K B2 jy iR/\Wn M E' H B (λrs μ'=>KN M H B Q (.ls (jy++rs)) μ') (qba it dg dt de n (i+1) ar af);refine .inr ⟨go,λaE v H2=> ∃y,NN (dn++[y]) (ys++[v]) aE H2,λaE H2=>NN dn ys aE H2,λaE v H6 ⟨y,ar,af,B2,e2,g2,f9,gu,fO,r2,w⟩=> ?_,λaE H5 ⟨ar,af,B2,e2,g2,f9,gu,fO,r2,w⟩=> ?_,λy H3 yy=> ?_⟩
    ·have l0:qbT it m<=sizeLine:=hz;refine⟨ys,f9,by omega,n,Vz n,ar,af,B2,dn++[y],ys++[v],⟨e2.hs.loose gu fO (λa q=>qad q) (λu hu=>by rw[f9] at hu;cases hu;exact .inl ⟨_,rfl⟩),e2.len,e2.sl⟩,?_,qae,gu,fO,r2,by rw[List.length_append,List.length_singleton];omega,by omega,dq,w⟩;have e3:hid D (upd H6 D (.lst (ys++[v])))=hid D H6:=by
      funext a
      by_cases q:a=D
      ·subst q;rw[qfi,qfi]
      ·rw[qch q,qch q,qad q]
     rw[e3];exact g2
    ·exact⟨n,Vz n,ar,af,B2,dn,ys,e2,g2,f9,gu,fO,r2,by omega,by omega,dq,w⟩
    ·obtain⟨B3,h3,g3,r3⟩:=yl y H3 yy;have st: ∀{H4:Hp}{B4:qaI},Go H' B' H4 B4->Go H1 B1 (hid D H4) B4/\H4 D=some (.lst ys)/\B4 D=none/\∀k,B4.ad k≠some D:=λ{H4 B4} g=>by refine⟨g'.trans g.hid,g.un D _ fw fP (by simp),?_,g.off (by rw[fw];simp) fP⟩;rw[g.nb D _ fw fP (by simp) (by simp)];exact jC
     have gb: ∀{H4:Hp}{B4:qaI},Go H' B' H4 B4->∀{H5:Hp}{B5:qaI},Go H4 B4 H5 B5->True:=λ_ _ _ _=>trivial;have up: ∀{H4:Hp}{B4:qaI}{α:Type}{k k':α->Mu->Prop}{r:R α},Go H' B' H4 B4->Wn M E' H B k r->(∀a Z,k a Z->k' a Z)->Wn M E' H4 B4 k' r:=λ{H4 B4 α k k' r} g w f=>by
      cases r with
      |no=>exact w
      |ok a m=>exact f _ _ w
      |ex c m=>
       intro H5 B5 h5 g5;have gg:=g.trans g5;obtain⟨z1,z2,z3,z4⟩:=st gg;have h6:Hs M m (hid D H5) B5:=h5.loose z3 z4 (λa q=>qch q) λu hu=>by rw[z2] at hu;cases hu;exact .inl ⟨_,rfl⟩
       have:Go H B H5 B5:=(g1.trans z1).trans (Go.more λa o e=>(qks e).1);exact w H5 B5 h5 this
     refine⟨ρ',μ',B3,t,bT.on h3 g3.le,r3,up g3 (Wn.bind w3) λav aa w4 cM H4 B4 e4 g4=> ?_⟩;have jr:=g3.trans g4;refine⟨av,aa,B4,e4,up jr (Wn.bind w4) λc af w5 H5 B5 h5 g5=> ?_⟩;have gh:=jr.trans g5;have e5:=e4.on h5 g5.le;cases c with
     |false=>obtain⟨z1,z2,z3,z4⟩:=st gh;refine qyL ⟨av,af,B5,e5,z1,z2,z3,z4,rd.mono gh.le,?_⟩;exact w5
     |true=>refine qyK ⟨av,af,B5,e5,up gh (Wn.bind w5) λy aQ w6 v H6 B6 h6 g6 r6=> ?_⟩;have jq:=gh.trans g6;obtain⟨z1,z2,z3,z4⟩:=st jq;refine⟨y,av,aQ,B6,e5.on h6 g6.le,z1,z2,z3,z4,(rd.mono jq.le).append (.one r6),(Wn.bind w6).mono λrs aR w7=> ?_⟩;have w7:KN M H B Q (.ls (dn++y::rs)) aR:=w7;show KN M H B Q (.ls (dn++[y]++rs)) aR;rw[List.append_assoc];exact w7
theorem qmg:qiU Y [] (tT M E qxU):=(by rintro U s O H Q I ⟨ρ,Z,B,ev,w⟩;exact qmi _ s O H Q I (w H B ev.hs .refl))
theorem qsk(h:PT Y c (tT M E dt)):qiU Y [c] (tT M E dt):=qmh h
theorem qqG(hc:X.calm=true)(hi:PI X tg iter (tI M E di))(hk:scope.kind= .function)(ai: ∀y∈scope.names,y.2≠.cell)(ao: ∀y∈scope.names,y.2= .local->scope.names.lookup y.1=some .local)(ah: ∀y∈scope.names,y.2= .free->X.env.kindOf y.1=some .cell\/X.env.kindOf y.1=some .free)(bu: ∀p∈fr,X.N[p.2]? =some p.1/\scope.names.lookup p.1=some .free)(hb: ∀(fp:List Addr)(s3:Shared)(H3:Hp),PG (qat X scope own fr fp s3 H3) tg (tG M E0 dg)/\qiU (qat X scope own fr fp s3 H3) ifs (tT M E0 dt)/\PE (qat X scope own fr fp s3 H3) elt (tE M E0 de))(hs: ∀x,foldedSetIterable iter X.env x=pure x):PE X (.ListComp elt [⟨tg,iter,ifs,0⟩] scope pos) (tN M E (qcm false own.length (fr.map (·.2)) di dg dt de)):=
 PE.weak (qpJ hc hi hk ai ao ah bu hb hs) (by rintro O H Q ⟨ρ,Z,B,ev,w⟩;exact comp_core (λz=>by cases z) ev w)
noncomputable def qw2(ow:Bool)(i:Nat)(dn:DS0 Ct):DS0 Out:=qnm i (if ow=true then dOw dn else dFz dn)
theorem qiF{y:Str}(hc:X.calm=true)(hi:PI X tg iter (tI M E di))(hk:scope.kind= .function)(ai: ∀y∈scope.names,y.2≠.cell)(ao: ∀y∈scope.names,y.2= .local->scope.names.lookup y.1=some .local)(ah: ∀y∈scope.names,y.2= .free->X.env.kindOf y.1=some .cell\/X.env.kindOf y.1=some .free)(bu: ∀p∈fr,X.N[p.2]? =some p.1/\scope.names.lookup p.1=some .free)(hb: ∀(fp:List Addr)(s3:Shared)(H3:Hp),PG (qat X scope own fr fp s3 H3) tg (tG M E0 dg)/\qiU (qat X scope own fr fp s3 H3) ifs (tT M E0 dt)/\PE (qat X scope own fr fp s3 H3) elt (tE M E0 de))(hN:X.N.Nodup)(il:X.N[i]? =some y)(hy:X.env.scope.names.lookup y=some .local)(bE:swapsWith (.ListComp elt [⟨tg,iter,ifs,0⟩] scope pos) (some (.Name y py)) spos.line X.env=pure true)(hs: ∀x,foldedSetIterable iter X.env x=pure x):
  PS X (.Assign [.Name y py] (.ListComp elt [⟨tg,iter,ifs,0⟩] scope pos) spos) (tS M E (qw2 ow i (qcm false own.length (fr.map (·.2)) di dg dt de))):=
 PS.weak (L2.ps_setcomp hc hi hk ai ao ah bu hb hN il hy bE hs) (by
  rintro D O H ⟨ρ,Z,B,ev,w⟩;have key: ∀{d:DS0 T},tS M E (qnm i d) D O H->tE M E d O H _:=λ⟨ρ,Z,B,ev,w⟩=>tE.of ev ((Wn.bind w).mono λt aa w1 v H1 B1 h1 l1 r1=>w1 _ H1 B1 ((ev.on h1 l1.le).set r1) l1);have h1:=by
   cases ow with
   |true=>exact qjR (key ⟨ρ,Z,B,ev,w⟩)
   |false=>exact qm1 (λρ Z c m e=>by obtain⟨it,m1,_,e⟩:=quw e;obtain⟨ys,m2,_,e⟩:=quw e;cases e;exact⟨_,rfl⟩) (key ⟨ρ,Z,B,ev,w⟩)
  obtain⟨ρ,Z,B,ev,w⟩:=h1;exact comp_core (λz=>by cases z) ev w)
end
end NV
namespace PL
open PySem L2 SR SetL
end PL
namespace L2
open PySem PySem.Spec PySem.Calls PyProof.Rows
section
variable{m:Str}
noncomputable def qdh(X:Cx)(CX:CXT)(C:Addr)(m:Str)(sp:Sp):Prop:= ∃(f:Addr)(fd:FuncData)(ps:List Str)(k:Nat),Cls X.K C/\quC X.K C m f/\qcC X.prog X.w X.K X.mg X.base CX k f fd ps sp/\qbl k X.A/\qaW X.K fd ps []
theorem qml(he:PE X o ta)(hx:qaJ CX X E)(ha:PA X (e::es) t)(aG:starEach (e::es) X.env=(false,eval e X.env)::starEach es X.env)(ak:(backTo pos (starEach es X.env)).any (·.1)=false)(ht:eval (.Call (.Attribute o m apos) (e::es) [] pos) X.env=(do
   let ov <-eval o X.env
   standAt apos.atName
   let (f,fi) <-holding [ov] (getMethod ov m pl)
   callWith pos f fi (backTo pos (starEach (e::es) X.env)) (backToKw pos (keywordEach [] X.env)))):
  PE X (.Call (.Attribute o m apos) (e::es) [] pos) (λO H Q=>ta O H λx H1=> ∃a C dx fs sp,x= .ref a/\H1 a=some (.ins C dx fs)/\fs.lookup m=none/\qdh X CX C m sp/\t O H1 λvs H2=>sp (x::vs) H2 Q E):=by intro U s O H Q I h;refine W.methodCall_KW (thn (he _ s O H _ I h) λu s1 z0=> ?_) ht;obtain ⟨x,H1,I1,rx,a,C,dx,fs,sp,ex,ea,l,⟨f,fd,ps,k,c,hm,F,hr,hb⟩,q⟩:=z0;subst ex;obtain rfl:u=Value.ref a:=rx;refine qdF I1 ea c hm l ?_;refine W.callWith_K I.ok.mod.kin hm.kp (thn (ha pos _ s1 O H1 _ I1 q) λus s2 ⟨vs,H2,I2,r,q2⟩=>⟨I2.kIn,?_⟩) aG ak;exact qeP (vs:=.ref a::vs) F hr hb .nil hx I2 (.cons rfl r) (by grind)
theorem qjP(he:PE X o ta)(hx:qaJ CX X E)(ht:eval (.Call (.Attribute o m apos) [] [] pos) X.env=(do
   let ov <-eval o X.env
   standAt apos.atName
   let (f,fi) <-holding [ov] (getMethod ov m pl)
   callWith pos f fi (backTo pos (starEach [] X.env)) (backToKw pos (keywordEach [] X.env)))):
  PE X (.Call (.Attribute o m apos) [] [] pos) (λO H Q=>ta O H λx H1=> ∃a C dx fs sp,x= .ref a/\H1 a=some (.ins C dx fs)/\fs.lookup m=none/\qdh X CX C m sp/\sp [x] H1 Q E):=by intro U s O H Q I h;refine W.methodCall_KW (thn (he _ s O H _ I h) λu s1 z0=> ?_) ht;obtain ⟨x,H1,I1,rx,a,C,dx,fs,sp,ex,ea,l,⟨f,fd,ps,k,c,hm,F,hr,hb⟩,q⟩:=z0;subst ex;obtain rfl:u=Value.ref a:=rx;refine qdF I1 ea c hm l ?_;exact W.callWith_K0 I1.kIn hm.kp (qeP (vs:=[.ref a]) F hr hb .nil hx I1 (.cons rfl .nil) q)
end
end L2
namespace NV
open PySem L2
theorem PE.or(h:PE X e t)(h':PE X e t'):PE X e (λO H Q=>t O H Q\/t' O H Q):=λU s O H Q I q=>q.elim (h _ s O H Q I) (h' _ s O H Q I)
noncomputable def qtk(o:T)(Z:Mu):Option (Nat×Str×List (Str×T)):=match o with
 |.obj k=>(match Z.l[k]? with|some (.ins c fs)=>some (k,c,fs)|_=>none)
 |_=>none
noncomputable def qiH(mt:Str->Option (List T->Mu->R T))(m:Str)(bo:DS0 T)(ds:DS0 (List T)):DS0 T:=dSq bo λo ρ Z=>match qtk o Z with
 |some (_,c,fs)=>(match mt c with
  |some f=>if(fs.lookup m).isNone=true then(ds ρ Z).bind λts μ'=>f (o::ts) μ' else .no
  |none=>.no)
 |none=>.no
section
variable{m:Str}
theorem qmU{c:Str}(h:qtk t Z=some (k,c,fs)):t= .obj k/\Z.l[k]? =some (.ins c fs):=by
 unfold qtk at h;split at h
 ·split at h
  ·grind
  ·cases h
 ·cases h
theorem qe6{M:Md}{E:XK}{X:Cx}{da:DS0 T}{ds:DS0 (List T)}{mt:Str->Option (List T->Mu->R T)}(hM: ∀c f,mt c=some f->qdh X (CXE X.prog X.w) (clA M.K c) m (spF M f)){O:St}{H:Hp}{Q:VK}(h:tE M E (qiH mt m da ds) O H Q):
  tE M E da O H λx H1=> ∃a C dx fs sp,x= .ref a/\H1 a=some (.ins C dx fs)/\fs.lookup m=none/\qdh X (CXE X.prog X.w) C m sp/\tA M E ds O H1 λvs H2=>sp (x::vs) H2 Q E:=by
 obtain⟨ρ,Z,B,ev,w⟩:=h;refine tE.of ev ((Wn.bind w).mono λx aa w1 v H1 B1 h1 g1 r1=> ?_)
 change Wn M E H B _ (match qtk x aa with|some (_,c,fs)=>(match mt c with|some f=>if(fs.lookup m).isNone=true then(ds ρ aa).bind _ else .no|none=>.no)|none=>.no) at w1
 split at w1
 ·rename_i k c fs e;obtain⟨rfl,el⟩:=qmU e;split at w1
  ·rename_i f ef;split at w1
   ·rename_i hn;obtain⟨a,rfl,ea⟩:=qax r1;obtain⟨u,b0,hu,dx,vs,rfl,rv⟩:=h1.at el (by simp) ea;refine⟨a,_,dx,vs,spF M f,rfl,hu,(qbD rv).2 (Option.isNone_iff_eq_none.mp hn),hM c f ef,ρ,aa,B1,ev.on h1 g1.le,(Wn.bind w1).lift g1 λts af w2 ws H2 B2 h2 g2 r2=> ?_⟩;exact⟨af,B2,.obj k::ts,h2,.cons (qdv (g2.le.d _ _ ea)) r2,Wn.lift w2 (g1.trans g2) λ_ _ q=>KE.le q (g1.trans g2)⟩
   ·exact w1.elim
  ·exact w1.elim
 ·exact w1.elim
theorem qqM{M:Md}{E:XK}{X:Cx}{pos:Pos}{apos:Pos}{e:Expr}{o:Expr}{es:List Expr}{da:DS0 T}{ds:DS0 (List T)}{mt:Str->Option (List T->Mu->R T)}{pl:Sem Bool}(hM: ∀c f,mt c=some f->qdh X (CXE X.prog X.w) (clA M.K c) m (spF M f))(ho:PE X o (tE M E da))(hx:qaJ (CXE X.prog X.w) X E)(ha:PA X (e::es) (tA M E ds))(aG:starEach (e::es) X.env=(false,eval e X.env)::starEach es X.env)(ak:(backTo pos (starEach es X.env)).any (·.1)=false)(ht:eval (.Call (.Attribute o m apos) (e::es) [] pos) X.env=(do
   let ov <-eval o X.env
   standAt apos.atName
   let (f,fi) <-holding [ov] (getMethod ov m pl)
   callWith pos f fi (backTo pos (starEach (e::es) X.env)) (backToKw pos (keywordEach [] X.env)))):
  PE X (.Call (.Attribute o m apos) (e::es) [] pos) (tE M E (qiH mt m da ds)):=PE.weak (qml ho hx ha aG ak ht) λ_ _ _ h=>qe6 hM h
theorem qni{M:Md}{E:XK}{X:Cx}{pos:Pos}{apos:Pos}{o:Expr}{da:DS0 T}{mt:Str->Option (List T->Mu->R T)}{pl:Sem Bool}(hM: ∀c f,mt c=some f->qdh X (CXE X.prog X.w) (clA M.K c) m (spF M f))(ho:PE X o (tE M E da))(hx:qaJ (CXE X.prog X.w) X E)(ht:eval (.Call (.Attribute o m apos) [] [] pos) X.env=(do
   let ov <-eval o X.env
   standAt apos.atName
   let (f,fi) <-holding [ov] (getMethod ov m pl)
   callWith pos f fi (backTo pos (starEach [] X.env)) (backToKw pos (keywordEach [] X.env)))):
  PE X (.Call (.Attribute o m apos) [] [] pos) (tE M E (qiH mt m da qrn)):=PE.weak (qjP ho hx ht) λO H Q h=>by
 refine(qe6 hM h).imp λv H1 ⟨a,C,dx,fs,sp,e1,e2,e3,e4,q⟩=>⟨a,C,dx,fs,sp,e1,e2,e3,e4,?_⟩
 obtain⟨ρ,Z,B,ev,w⟩:=q;exact w [] H1 B ev.hs .refl .nil
end
noncomputable def qoE(x:Str):DS0 Out:=λ_ Z=>.ex x Z
section
theorem qna{x:Str}(h:PS X st (qjj (clA M.K x) E)):PS X st (tS M E (qoE x)):=PS.weak h (by rintro D O H ⟨ρ,Z,B,ev,w⟩;exact w H B ev.hs .refl)
noncomputable def unO(i:Nat):Out->Mu->R Out
 |.nx ρ,Z=>.ok (.nx (ρ.set i none)) Z
 |.bk ρ,Z=>.ok (.bk (ρ.set i none)) Z
 |.ct ρ,Z=>.ok (.ct (ρ.set i none)) Z
 |.rt t,Z=>.ok (.rt t) Z
noncomputable def qze(cl:Str->Bool)(n:Nat)(nm:Option Nat)(db dh:DS0 Out):DS0 Out:=λρ Z=>match db ρ Z with
 |.ex c m=>if cl c=true then(match nm with
  |some i=>((noX (dh ((List.replicate n none).set i (some (.exc c))) m))).bind (unO i)
  |none=>noX (dh (List.replicate n none) m)) else .no
 |r=>r
variable{x n:Str}
end
noncomputable def qxR(i:Nat)(ρ:Ro)(Z:Mu):Ro×Mu:=match ρ[i]? with
 |some (some (.obj k))=>(match Z.l[k]? with
  |some (.ls ts)=>(ρ.set i (some (.lst ts)),Z.put k .gone)
  |some (.dk kvs)=>(ρ.set i (some (.dct kvs)),Z.put k .gone)
  |_=>(ρ,Z))
 |_=>(ρ,Z)
noncomputable def qzg(i:Nat)(d:DS0 Out):DS0 Out:=λρ Z=>d (qxR i ρ Z).1 (qxR i ρ Z).2
noncomputable def qyg(kvs:List (Key×T))(k:Key):Option T:=(kvs.find? λkv=>decide (kv.1=k)).map (·.2)
mutual
noncomputable def eqT:T->T->Bool
 |.non,.non=>true
 |.bl a,.bl b=>a==b
 |.bl a,.int b=>(if a then 1 else 0)==b
 |.int a,.bl b=>a==(if b then 1 else 0)
 |.int a,.int b=>a==b
 |.str a,.str b=>a==b
 |.tup xs,.tup ys=>eqTs xs ys
 |.lst xs,.lst ys=>eqTs xs ys
 |.dct xs,.dct ys=>xs.length==ys.length&&eqTd xs ys
 |_,_=>false
noncomputable def eqTs:List T->List T->Bool
 |[],[]=>true
 |x::xs,y::ys=>eqT x y&&eqTs xs ys
 |_,_=>false
noncomputable def eqTd:List (Key×T)->List (Key×T)->Bool
 |[],_=>true
 |(k,x)::xs,ys=>(match qyg ys k with|some y=>eqT x y|none=>false)&&eqTd xs ys
end
noncomputable def okT:Nat->T->Bool
 |_,.non=>true
 |_,.bl _=>true
 |_,.int _=>true
 |_,.str _=>true
 |n+1,.tup ts=>ts.all (okT n)
 |n+1,.lst ts=>ts.all (okT n)
 |_,_=>false
noncomputable def qej:T->Bool
 |.non=>true
 |.bl _=>true
 |.int _=>true
 |.str _=>true
 |_=>false
noncomputable def vOf:T->V
 |.bl b=>.bl b
 |.int b=>.int b
 |.str b=>.str b
 |_=>.non
noncomputable def LeH(B:qaI)(H:Hp):Prop:= ∀a o,B a=some o->H a=some o
abbrev qlD(xs ys:List T)(j:Nat):Bool:=eqT (xs.getD j .non) (ys.getD j .non)
theorem qcy: ∀xs ys:List T,eqTs xs ys=((List.range (min xs.length ys.length)).all (qlD xs ys)&&xs.length==ys.length)
 |[],[]=>rfl
 |[],_::_=>rfl
 |_::_,[]=>rfl
 |x::xs,y::ys=>by
  rw[eqTs,qcy xs ys];have m:min (x::xs).length (y::ys).length=(min xs.length ys.length).succ:=by simp
  rw[m,List.range_succ_eq_map,List.all_cons,List.all_map,<-Bool.and_assoc];have e:(qlD (x::xs) (y::ys)∘Nat.succ)=qlD xs ys:=rfl;rw[e,show qlD _ _ 0=eqT x y from rfl];simp
theorem qm5(h:xs.length=ys.length):eqTs xs ys=(List.range xs.length).all (qlD xs ys):=by rw[qcy,h,Nat.min_self,beq_self_eq_true,Bool.and_true]
theorem qqy(h:xs.length≠ys.length):eqTs xs ys=false:=by rw[qcy];simp[h]
section
theorem qbd(f:qej t=true)(r:Rep K B t x):x=vOf t:=by cases t<;>first|exact qcM r|exact qbx r|exact qag r|exact qaB r|cases f
theorem qaY(f:qej t=true):qgi (vOf t)=true:=by cases t<;>first|rfl|cases f
theorem qhB(ft:qej t=true)(fu:qej u=true):eqT t u=eqV (vOf t) (vOf u):=by cases t<;>cases u<;>first|rfl|(cases ft;done)|(cases fu)
theorem qi7(ft:qej t=true)(fu:qej u=true)(e:vOf t=vOf u):t=u:=by cases t<;>cases u<;>first|rfl|(cases e;rfl)|(cases e;done)|(cases ft;done)|(cases fu)
theorem qbY(ft:qej t=true)(e:vOf t= .ref p):False:=by cases t<;>first|cases e|cases ft
theorem qbt(f:qej t=true):eqT t (.lst ts)=false/\eqT (.lst ts) t=false/\eqT t (.tup ts)=false/\eqT (.tup ts) t=false:=by cases t<;>first|exact⟨rfl,rfl,rfl,rfl⟩|cases f
theorem qbE{n:Nat}{ts:List T}(h:ts.all (okT n)=true){j:Nat}(hj:j<ts.length):okT n (ts.getD j .non)=true:=by
 simp_all
theorem qpW(h:okT n (.lst ts)=true): ∃m,n=m+1/\ts.all (okT m)=true:=by
 cases n with
 |zero=>cases h
 |succ m=>exact⟨m,rfl,h⟩
theorem qpV(h:okT n (.tup ts)=true): ∃m,n=m+1/\ts.all (okT m)=true:=by
 cases n with
 |zero=>cases h
 |succ m=>exact⟨m,rfl,h⟩
theorem qaH(h:okT n t=true):qej t=true\/(∃ts m,t= .lst ts/\n=m+1/\ts.all (okT m)=true)\/∃ts m,t= .tup ts/\n=m+1/\ts.all (okT m)=true:=by
 cases t with
 |lst ts=>obtain⟨m,a,b⟩:=qpW h;simp_all
 |tup ts=>obtain⟨m,a,b⟩:=qpV h;simp_all
 |_=>first|exact .inl rfl|(cases n<;>cases h)
theorem qcz: ∀(n:Nat)(t:T),okT n t=true->eqT t t=true:=by
 intro n
 induction n with
 |zero=>intro t h;cases t<;>first|(simp[eqT];done)|cases h
 |succ n ih=>
  have many: ∀ts:List T,ts.all (okT n)=true->eqTs ts ts=true:=λts=>by
   induction ts with
   |nil=>intro _;rfl
   |cons t ts it=>intro h;rw[List.all_cons,Bool.and_eq_true] at h;rw[eqTs,ih t h.1,it h.2];rfl
  intro t h;cases t<;>first|(simp[eqT];done)|(rw[eqT];exact many _ h)|cases h
end
section
theorem qfT(I:Inv X U O H s)(le:LeH B H): ∀(n m:Nat)(t u:T)(x:V),okT n t=true->okT m u=true->Rep X.K B t x->Rep X.K B u x->t=u:=by
 intro n
 induction n with
 |zero=>
  intro m t u x ht hu r r'
  rcases qaH ht with f|⟨_,_,_,e,_⟩|⟨_,_,_,e,_⟩
  ·have e1:=qbd f r
   rcases qaH hu with g|⟨us,m',rfl,_,_⟩|⟨us,m',rfl,_,_⟩
   ·exact qi7 f g (e1.symm.trans (qbd g r'))
   ·obtain⟨p,vs,rfl,_⟩:=qaC r';exact(qbY f e1.symm).elim
   ·obtain⟨p,vs,rfl,_⟩:=qaw r';exact(qbY f e1.symm).elim
  ·cases e
  ·cases e
 |succ n ih=>
  have many: ∀(m:Nat)(ts us:List T)(vs:List V),ts.all (okT n)=true->us.all (okT m)=true->Reps X.K B ts vs->Reps X.K B us vs->ts=us:=λm ts=>by
   induction ts with
   |nil=>
    intro us vs _ _ r r';cases r.inv0;cases us with
    |nil=>rfl
    |cons _ _=>obtain⟨_,_,e,_⟩:=r'.inv;cases e
   |cons t ts it=>
    intro us vs ht hu r r';obtain⟨v,cg,rfl,a,b⟩:=r.inv;cases us with
    |nil=>cases r'.inv0
    |cons u us=>obtain⟨v',vs'',e,a',b'⟩:=r'.inv;cases e;rw[List.all_cons,Bool.and_eq_true] at ht hu;rw[ih m t u v ht.1 hu.1 a a',it us cg ht.2 hu.2 b b']
  intro m t u x ht hu r r'
  rcases qaH ht with f|⟨ts,n',rfl,e,cZ⟩|⟨ts,n',rfl,e,cZ⟩
  ·have e1:=qbd f r
   rcases qaH hu with g|⟨us,m',rfl,_,_⟩|⟨us,m',rfl,_,_⟩
   ·exact qi7 f g (e1.symm.trans (qbd g r'))
   ·obtain⟨p,vs,rfl,_⟩:=qaC r';exact(qbY f e1.symm).elim
   ·obtain⟨p,vs,rfl,_⟩:=qaw r';exact(qbY f e1.symm).elim
  ·cases e;obtain⟨p,vs,rfl,hp,rs⟩:=qaC r
   rcases qaH hu with g|⟨us,m',rfl,_,cX⟩|⟨us,m',rfl,_,_⟩
   ·exact(qbY g (qbd g r').symm).elim
   ·obtain⟨p',cg,e,aj,bC⟩:=qaC r';cases e;rw[hp] at aj;cases aj;rw[many m' ts us vs cZ cX rs bC]
   ·obtain⟨p',cg,e,aj,_⟩:=qaw r';cases e;rw[hp] at aj;cases aj
  ·cases e;obtain⟨p,vs,rfl,hp,rs⟩:=qaw r
   rcases qaH hu with g|⟨us,m',rfl,_,_⟩|⟨us,m',rfl,_,cX⟩
   ·exact(qbY g (qbd g r').symm).elim
   ·obtain⟨p',cg,e,aj,_⟩:=qaC r';cases e;rw[hp] at aj;cases aj
   ·obtain⟨p',cg,e,aj,bC⟩:=qaw r';cases e;rw[hp] at aj;cases aj;rw[many m' ts us vs cZ cX rs bC]
open SeqAt in
theorem qnZ(hA:A.units<cLine)(rv:Vals vs is)(dO:Vals ws bY)(l3:vs.length=ts.length)(l4:ws.length=us.length)(it: ∀j (a1:j<(List.toArray is).size) (a2:j<(List.toArray bY).size),EqAt A.in1 s (List.toArray is)[j] (List.toArray bY)[j] (qlD ts us j)):
  (s.heap.IsList p (List.toArray is)->s.heap.IsList p' (List.toArray bY)->RcAt A s (.ref p) (.ref p') (eqTs ts us)/\RcNeAt A s (.ref p) (.ref p') (!eqTs ts us))/\
  (s.heap.IsTuple p (List.toArray is)->s.heap.IsTuple p' (List.toArray bY)->RcAt A s (.ref p) (.ref p') (eqTs ts us)/\RcNeAt A s (.ref p) (.ref p') (!eqTs ts us)):=by
 have l1:=rv.length;have l2:=dO.length;have e1:(List.toArray is).size=ts.length:=by simp;lia
 have e2:(List.toArray bY).size=us.length:=by simp;lia
 refine⟨λpl aU=> ?_,λpl aU=> ?_⟩
 ·by_cases hl:ts.length=us.length
  ·rw[qm5 hl];have q1:=RcAt.lists (A:=A) (s:=s) (e:=qlD ts us) pl aU (by simp;lia) hA it;have q2:=RcNeAt.lists (A:=A) (s:=s) (e:=qlD ts us) pl aU (by simp;lia) hA it;rw[e1] at q1 q2;exact⟨q1,q2⟩
  ·rw[qqy hl];exact⟨RcAt.lists_lengths pl aU (by simp;lia) hA,RcNeAt.lists_lengths pl aU (by simp;lia) hA⟩
 ·rw[qcy];have q1:=RcAt.tuples (A:=A) (s:=s) (e:=qlD ts us) pl aU hA it;have q2:=RcNeAt.tuples (A:=A) (s:=s) (e:=qlD ts us) pl aU hA it;rw[e1,e2] at q1 q2;exact⟨q1,q2⟩
open SeqAt in
theorem qjw{X:Cx}(I:Inv X U O H s)(le:LeH B H): ∀(n m:Nat)(A:Around)(t u:T)(x y:V)(v w:Value),okT n t=true->okT m u=true->A.units+n<cLine->Rep X.K B t x->Rep X.K B u y->RelV x v->RelV y w->
  EqAt A s v w (eqT t u)/\RcAt A s v w (eqT t u)/\RcNeAt A s v w (!eqT t u):=by
 intro n
 induction n with
 |zero=>
  intro m A t u x y v w ht hu hc r r' rv aq;have hA:A.units<cLine:=by lia
  rcases qaH ht with f|⟨_,_,_,e,_⟩|⟨_,_,_,e,_⟩
  ·cases qbd f r;have fx:=qaY f
   rcases qaH hu with g|⟨us,m',rfl,_,_⟩|⟨us,m',rfl,_,_⟩
   ·cases qbd g r';rw[qhB f g];exact⟨qov rv aq fx (qaY g),PL.rc_ff rv fx aq (qaY g)⟩
   ·obtain⟨p,vs,rfl,hp,_⟩:=qaC r';cases aq;obtain⟨is,_,pl,_⟩:=I.list (SqL.of (le _ _ hp));have q:=PL.eq_fl rv fx pl.isList hA;rw[(qbt f).1];exact⟨q.1,q.2.2.1,q.2.2.2.2.1⟩
   ·obtain⟨p,vs,rfl,hp,_⟩:=qaw r';cases aq;obtain⟨is,_,pl,_⟩:=I.tuple (SqT.of (le _ _ hp));have q:=PL.eq_ft rv fx pl hA;rw[(qbt f).2.2.1];exact⟨q.1,q.2.2.1,q.2.2.2.2.1⟩
  ·cases e
  ·cases e
 |succ n ih=>
  intro m A t u x y v w ht hu hc r r' rv aq;have hA:A.units<cLine:=by lia
  rcases qaH ht with f|⟨ts,n',rfl,e,cZ⟩|⟨ts,n',rfl,e,cZ⟩
  ·cases qbd f r;have fx:=qaY f
   rcases qaH hu with g|⟨us,m',rfl,_,_⟩|⟨us,m',rfl,_,_⟩
   ·cases qbd g r';rw[qhB f g];exact⟨qov rv aq fx (qaY g),PL.rc_ff rv fx aq (qaY g)⟩
   ·obtain⟨p,vs,rfl,hp,_⟩:=qaC r';cases aq;obtain⟨is,_,pl,_⟩:=I.list (SqL.of (le _ _ hp));have q:=PL.eq_fl rv fx pl.isList hA;rw[(qbt f).1];exact⟨q.1,q.2.2.1,q.2.2.2.2.1⟩
   ·obtain⟨p,vs,rfl,hp,_⟩:=qaw r';cases aq;obtain⟨is,_,pl,_⟩:=I.tuple (SqT.of (le _ _ hp));have q:=PL.eq_ft rv fx pl hA;rw[(qbt f).2.2.1];exact⟨q.1,q.2.2.1,q.2.2.2.2.1⟩
  ·cases e;obtain⟨p,vs,rfl,hp,rs⟩:=qaC r;cases rv;obtain⟨is,cP,pl,_⟩:=I.list (SqL.of (le _ _ hp))
   rcases qaH hu with g|⟨us,m',rfl,_,cX⟩|⟨us,m',rfl,_,_⟩
   ·cases qbd g r';have q:=PL.eq_fl aq (qaY g) pl.isList hA;rw[(qbt g).2.1];exact⟨q.2.1,q.2.2.2.1,q.2.2.2.2.2⟩
   ·obtain⟨p',ws,rfl,aj,bC⟩:=qaC r';cases aq;obtain⟨bY,aS,aU,_⟩:=I.list (SqL.of (le _ _ aj));have q:=(qnZ (p:=p) (p':=p') hA cP aS rs.length bC.length λj a1 a2=>by
     have b1:j<ts.length:=by have:=cP.length;have:=rs.length;simp at a1;lia
     have b2:j<us.length:=by have:=aS.length;have:=bC.length;simp at a2;lia
     exact(ih m' A.in1 _ _ _ _ _ _ (qbE cZ b1) (qbE cX b2) (by show A.units+1+n<cLine;lia) (rs.getD j b1) (bC.getD j b2) (RH.valsArr cP a1) (RH.valsArr aS a2)).1).1 pl.isList aU.isList
    refine⟨?_,q⟩;by_cases z:p=p'
    ·subst z;have e:=qfT I le (n+1) m _ _ _ ht hu r r';rw[<-e,qcz _ _ ht];exact EqAt.same _
    ·exact EqAt.of_refs z q.1
   ·obtain⟨p',ws,rfl,aj,bC⟩:=qaw r';cases aq;obtain⟨bY,aS,aU,_⟩:=I.tuple (SqT.of (le _ _ aj));exact⟨EqAt.list_tuple pl.isList aU hA,RcAt.list_tuple pl.isList aU hA,RcNeAt.list_tuple pl.isList aU hA⟩
  ·cases e;obtain⟨p,vs,rfl,hp,rs⟩:=qaw r;cases rv;obtain⟨is,cP,pl,_⟩:=I.tuple (SqT.of (le _ _ hp))
   rcases qaH hu with g|⟨us,m',rfl,_,_⟩|⟨us,m',rfl,_,cX⟩
   ·cases qbd g r';have q:=PL.eq_ft aq (qaY g) pl hA;rw[(qbt g).2.2.2];exact⟨q.2.1,q.2.2.2.1,q.2.2.2.2.2⟩
   ·obtain⟨p',ws,rfl,aj,bC⟩:=qaC r';cases aq;obtain⟨bY,aS,aU,_⟩:=I.list (SqL.of (le _ _ aj));exact⟨EqAt.tuple_list pl aU.isList hA,RcAt.tuple_list pl aU.isList hA,RcNeAt.tuple_list pl aU.isList hA⟩
   ·obtain⟨p',ws,rfl,aj,bC⟩:=qaw r';cases aq;obtain⟨bY,aS,aU,_⟩:=I.tuple (SqT.of (le _ _ aj));have q:=(qnZ (p:=p) (p':=p') hA cP aS rs.length bC.length λj a1 a2=>by
     have b1:j<ts.length:=by have:=cP.length;have:=rs.length;simp at a1;lia
     have b2:j<us.length:=by have:=aS.length;have:=bC.length;simp at a2;lia
     exact(ih m' A.in1 _ _ _ _ _ _ (qbE cZ b1) (qbE cX b2) (by show A.units+1+n<cLine;lia) (rs.getD j b1) (bC.getD j b2) (RH.valsArr cP a1) (RH.valsArr aS a2)).1).2 pl aU
    refine⟨?_,q⟩;by_cases z:p=p'
    ·subst z;have e:=qfT I le (n+1) m _ _ _ ht hu r r';rw[<-e,qcz _ _ ht];exact EqAt.same _
    ·exact EqAt.of_refs z q.1
end
noncomputable def qgQ{κ:Type}[DecidableEq κ](kvs:List (κ×T))(k:κ):Option T:=(kvs.find? λkv=>decide (kv.1=k)).map (·.2)
theorem qd5{κ:Type}[DecidableEq κ](k:κ): ∀{ts:List (κ×T)}{vs:List (κ×V)},qbc K B ts vs->(∀t,qgQ ts k=some t->∃v,qhU vs k=some v/\Rep K B t v)/\(qgQ ts k=none->qhU vs k=none)
 |[],vs,r=>by have r:vs=[]:=r;rw[r];exact⟨(λt e=>by cases e),λ_=>rfl⟩
 |(k',t)::ts,_,⟨v,r,e,a,b⟩=>by
  have ih:=qd5 k b;subst e;unfold qgQ qhU;rw[List.find?_cons,List.find?_cons];by_cases c:k'=k
  ·simp_all
  ·rw[decide_eq_false c];exact ih
section
noncomputable def Far(xs ys:Array Value)(e:Nat->Bool)(r:List (Value×Value)):Prop:= ∃i,i<=min xs.size ys.size/\r=(xs.toList.zip ys.toList).drop i/\((List.range (min xs.size ys.size)).take i).all e=true
end
end NV
namespace TM
open PySem Builtin
end TM
namespace PL
open PySem L2 SR SetL PySem.Spec PyProof.Rows
section
noncomputable def rCat0(K:W.Frag):R2:=λx y H Q=> ∃a b ys,x= .ref a/\y= .ref b/\SqT K H a []/\SqT K H b ys/\Q (.ref b) H
theorem op_cat0:OpR X (binaryOp .Add) (rCat0 X.K):=by
 intro U s O H x y v u Q I rx ry h;obtain⟨a,b,ys,rfl,rfl,ha,hb,q⟩:=h;cases rx;cases ry;obtain⟨its,r1,p1,_⟩:=I.tuple ha;obtain⟨aY,r2,p2,_⟩:=I.tuple hb;cases r1;obtain⟨⟨cls,dd,data,sl⟩,ho,hc,n,hd⟩:=id p1;obtain⟨⟨iM,gq,data2,fK⟩,bG,d6,n2,hd2⟩:=id p2;subst hc hd d6 hd2
 exact concat_meets ⟨_,ho,rfl⟩ ⟨_,bG,rfl⟩ noFill_tuple_add seq_tuple_add F.slot_tuple_add F.entry_tuple_add (F.args_tuple_add_2 _ _)
  (tuple_addW0 a b _ _ n n2 dd gq sl fK rfl) ⟨ho,bG,⟨.ref b,H,I,rfl,q⟩⟩
end
end PL
namespace TM
open PySem Builtin
end TM
namespace PL
open PySem L2 SR SetL PySem.Spec PyProof.Rows
end PL
namespace NV
open PySem L2
inductive Nv where
 |v (t:T)|t (ts:List T)|l (ts:List T)|d (kvs:List (Key×T))|p (k:Nat) (c:Ct) (t:T)
noncomputable def Mu.live(Z:Mu)(k:Nat):Bool:=match Z.l[k]? with
 |some .gone=>false
 |some _=>true
 |none=>false
theorem Mu.live_at{Z:Mu}{k:Nat}(h:Z.live k=true): ∃c,Z.l[k]? =some c/\c≠.gone:=by
 unfold Mu.live at h;split at h
 ·cases h
 ·simp_all
 ·cases h
noncomputable def nvR(ow:Bool):Option Nv->Mu->R T
 |some (.v t),Z=>.ok t Z
 |some (.t ts),Z=>.ok (.tup ts) Z
 |some (.l ts),Z=>if ow=true then .ok (.obj Z.l.length) (Z.add (.ls ts)) else .ok (.lst ts) Z
 |some (.d ts),Z=>if ow=true then .ok (.obj Z.l.length) (Z.add (.dk ts)) else .ok (.dct ts) Z
 |some (.p k c t),Z=>if Z.live k=true then .ok t (Z.put k c) else .no
 |none,_=>.no
noncomputable def KV(M:Md)(Z:Mu)(H:Hp)(B:qaI)(Q:VK):Nv->Prop
 |.v t=> ∀B' x,Hs M Z H B'->Go H B H B'->Rep M.K B' t x->Q x H
 |.t ts=> ∀B' p vs,Hs M Z H B'->Go H B H B'->H p=none->Reps M.K B' ts vs->Q (.ref p) (upd H p (.tup vs))
 |.l ts=> ∀B' p vs,Hs M Z H B'->Go H B H B'->H p=none->Reps M.K B' ts vs->Q (.ref p) (upd H p (.lst vs))
 |.d ts=> ∀B' p vs,Hs M Z H B'->Go H B H B'->H p=none->qbc M.K B' ts vs->Q (.ref p) (upd H p (.dK vs))
 |.p k c t=>Z.live k=true/\∀B' a o x,Hs M Z H B'->Go H B H B'->B'.ad k=some a->qeB M.K B' c o->Rep M.K B' t x->Q x (upd H a o)
section
theorem qe1(c:Str)(m:Mu):nvR ow o Z≠.ex c m:=λe=>by unfold nvR at e;split at e<;>first|cases e|grind
theorem qdk{ow:Bool}(cq:Cl Q)(e:nvR ow o Z= .ok t m)(k:KE M H B Q t m): ∃n,o=some n/\KV M Z H B Q n:=by
 unfold nvR at e;split at e
 ·cases e;exact⟨_,rfl,λB' x h g r=>k x H B' h g r⟩
 ·cases e;exact⟨_,rfl,λB' p vs h g hp r=>k _ _ _ (h.new hp (λps z=>by cases z)) (g.trans (h.gnew hp)) (qcd qae (r.mono (h.upd_le (h.fr hp))))⟩
 ·refine⟨_,rfl,λB' p vs h g hp r=> ?_⟩;split at e
  ·cases e;have le:Le B' (B'.add Z.l.length p):=(h.gown (o:=.lst vs) hp).le;exact k _ _ _ (h.own (c:=.ls _) (o:=.lst vs) hp ⟨vs,rfl,r.mono le⟩).1 (g.trans (h.gown hp)) (qdv (by show(if Z.l.length=Z.l.length then some p else _)=_;rw[if_pos rfl]))
  ·cases e;exact k _ _ _ (h.new hp (λps z=>by cases z)) (g.trans (h.gnew hp)) (qcg qae (r.mono (h.upd_le (h.fr hp))))
 ·refine⟨_,rfl,λB' p vs h g hp r=> ?_⟩;split at e
  ·cases e;have le:Le B' (B'.add Z.l.length p):=(h.gown (o:=.dK vs) hp).le;exact k _ _ _ (h.own (c:=.dk _) (o:=.dK vs) hp ⟨vs,rfl,r.mono le⟩).1 (g.trans (h.gown hp)) (qdv (by show(if Z.l.length=Z.l.length then some p else _)=_;rw[if_pos rfl]))
  ·cases e;refine cq _ p vs qae λob=> ?_;rw[qfP];exact k _ _ _ (h.new hp (λps z=>by cases z)) (g.trans (h.gnew hp)) (qoa qae (r.mono (h.upd_le (h.fr hp))))
 ·split at e
  ·rename_i hl;cases e;obtain⟨c0,e0,n0⟩:=Mu.live_at hl;exact⟨_,rfl,hl,λB' a o x h g ha hc r=>k x _ B' (h.put e0 n0 ha hc) (g.trans (qws ha)) r⟩
  ·cases e
 ·cases e
end
noncomputable def OkO(M:Md)(r:R2)(g:Mu->T->T->Option Nv):Prop:= ∀(Z:Mu)(H:Hp)(B:qaI)(x y:V)(a b:T)(n:Nv)(Q:VK),Hs M Z H B->Rep M.K B a x->Rep M.K B b y->g Z a b=some n->KV M Z H B Q n->r x y H Q
noncomputable def OkN(M:Md)(r:List V->Hp->VK->Prop)(g:Mu->List T->Option Nv):Prop:= ∀(Z:Mu)(H:Hp)(B:qaI)(vs:List V)(ts:List T)(n:Nv)(Q:VK),Hs M Z H B->Reps M.K B ts vs->g Z ts=some n->KV M Z H B Q n->r vs H Q
theorem OkO.b(h:OkO M r g):OkB M r (λa b Z=>nvR ow (g Z a b) Z):=
 ⟨λ_ _ _ c m=>qe1 c m,λZ H B x y a b t μ' Q cq hs ra rb e k=>by obtain⟨n,e',kv⟩:=qdk cq e k;exact h Z H B x y a b n Q hs ra rb e' kv⟩
noncomputable def dr1(Z:Mu):T->T
 |.obj k=>(match Z.l[k]? with|some (.ls ts)=>.lst ts|_=>.obj k)
 |t=>t
noncomputable def dr2(Z:Mu)(t:T):T:=match dr1 Z t with
 |.lst ts=>.lst (ts.map (dr1 Z))
 |t=>t
open Classical in
noncomputable def qaI.all(B:qaI)(H:Hp)(Z:Mu):qaI:=⟨λa=>if ∃k c,B.ad k=some a/\Z.l[k]? =some c/\c≠.gone then H a else B a,B.ad⟩
section
open Classical
theorem qdd(h:Hs M Z H B):Le B (B.all H Z)/\LeH (B.all H Z) H:=by
 refine⟨⟨λa o e=> ?_,λ_ _ e=>e⟩,λa o e=> ?_⟩
 ·show(if _ then H a else B a)=_;split
  ·exact h.bh a o e
  ·exact e
 ·have e:(if _ then H a else B a)=some o:=e;split at e
  ·exact e
  ·exact h.bh a o e
theorem quB(h:Hs M Z H B)(e:Z.l[k]? =some c)(n:c≠.gone)(ha:B.ad k=some a): ∃o,(B.all H Z) a=some o/\qeB M.K (B.all H Z) c o:=by obtain⟨o,_,ho,hc⟩:=h.at e n ha;refine⟨o,?_,hc.mono (qdd h).1⟩;show(if _ then H a else B a)=_;rw[if_pos ⟨k,c,ha,e,n⟩];exact ho
theorem qem(h:Hs M Z H B)(r:Rep M.K B t v):Rep M.K (B.all H Z) (dr1 Z t) v:=by
 unfold dr1;split
 ·obtain⟨a,rfl,ea⟩:=qax r;split
  ·rename_i ts el;obtain⟨o,e1,vs,rfl,rv⟩:=quB h el (by simp) ea;exact qcg e1 rv
  ·exact r.mono (qdd h).1
 ·exact r.mono (qdd h).1
theorem qkU(h:Hs M Z H B)(r:Rep M.K B t v):Rep M.K (B.all H Z) (dr2 Z t) v:=by
 have many: ∀{ts:List T}{vs:List V},Reps M.K B ts vs->Reps M.K (B.all H Z) (ts.map (dr1 Z)) vs:=λ{ts vs} r=>
  .of_get (by rw[r.length,List.length_map]) λi t' v e1 e2=>by
   rw[List.getElem?_map] at e1;cases q:ts[i]? with
   |none=>rw[q] at e1;cases e1
   |some u=>rw[q] at e1;cases e1;obtain⟨v',ev,rv⟩:=r.get q;rw[e2] at ev;cases ev;exact qem h rv
 have r0:=qem h r;unfold dr2;split
 ·rename_i ts e;unfold dr1 at e;split at e
  ·rename_i k;obtain⟨a,rfl,ea⟩:=qax r;split at e
   ·rename_i us el;cases e;obtain⟨o,_,ho,vs,rfl,rv⟩:=h.at el (by simp) ea;refine qcg (vs:=vs) ?_ (many rv);show(if _ then H a else B a)=_;rw[if_pos ⟨k,_,ea,el,by simp⟩];exact ho
   ·cases e
  ·subst e;obtain⟨p,vs,rfl,hp,rv⟩:=qaC r;exact qcg ((qdd h).1.h _ _ hp) (many rv)
 ·exact r0
theorem qbw(h:Hs M Z H B)(e:sqv Z t=some (b,ts))(r:Rep M.K B t v): ∃p vs,v= .ref p/\Reps M.K B ts vs/\(if b=true then H p=some (.lst vs) else B p=some (.tup vs)/\H p=some (.tup vs)):=by
 unfold sqv at e;split at e
 ·cases e;obtain⟨p,vs,rfl,hp,rv⟩:=qaC r;exact⟨p,vs,rfl,rv,by exact h.bh _ _ hp⟩
 ·cases e;obtain⟨p,vs,rfl,hp,rv⟩:=qaw r;exact⟨p,vs,rfl,rv,by exact⟨hp,h.bh _ _ hp⟩⟩
 ·split at e
  ·rename_i k us el;obtain⟨a,rfl,ea⟩:=qax r;obtain⟨o,_,ho,vs,rfl,rv⟩:=h.at el (by simp) ea
   simp_all
  ·cases e
 ·cases e
end
noncomputable def qtx(Z:Mu)(a b:T):Option Nv:=match a,b with
 |.int i,.int j=>some (.v (.int (i+j)))
 |.str i,.str j=>if i.length+j.length<=100000 then some (.v (.str (i++j))) else none
 |a,b=>(match sqv Z a,sqv Z b with
  |some (true,xs),some (true,ys)=>if xs.length+ys.length<=1000 then some (.l (xs++ys)) else none
  |some (false,[]),some (false,ys)=>some (.v (.tup ys))
  |some (false,x::xs),some (false,[])=>if xs.length<=900 then some (.v (.tup (x::xs))) else none
  |some (false,x::xs),some (false,y::ys)=>if xs.length+ys.length<=900 then some (.t (x::xs++y::ys)) else none
  |_,_=>none)
noncomputable def gSub(_:Mu):T->T->Option Nv
 |.int i,.int j=>some (.v (.int (i - j)))
 |_,_=>none
noncomputable def qwC(Z:Mu)(a b:T):Option Nv:=match a,b with
 |.int i,.int j=>if(-4294967296<=i/\i<=4294967296)\/(-4294967296<=j/\j<=4294967296) then some (.v (.int (i*j))) else none
 |_,_=>none
noncomputable def qwF(_:Mu):T->T->Option Nv
 |.int i,.int j=>if 0<j/\j<1073741824 then some (.v (.int (i / j))) else none
 |_,_=>none
noncomputable def qwD(_:Mu):T->T->Option Nv
 |.int i,.int j=>if 0<j then some (.v (.int (i % j))) else none
 |_,_=>none
noncomputable def qy9(_:Mu):T->T->Option Nv
 |.int i,.int j=>if(0<=j/\j<=100)/\ -1000<=i/\i<=1000 then some (.v (.int (i ^ j.toNat))) else none
 |_,_=>none
theorem OpR.or(h:OpR X f r)(h':OpR X f r'):OpR X f (λx y H Q=>r x y H Q\/r' x y H Q):=λU s O H x y v u Q I rx ry q=>q.elim (h _ s O H x y v u Q I rx ry) (h' _ s O H x y v u Q I rx ry)
section
noncomputable def rAdd(K:W.Frag):R2:=λx y H Q=>(rI0 (λi j=>.int (i+j)) x y H Q\/(∃i j,x= .str i/\y= .str j/\i.length+j.length<=sizeLine/\Q (.str (i++j)) H))\/(qxG x y H Q\/(PL.rCat0 K x y H Q\/qr0 K x y H Q))
theorem qpU:OpR X (binaryOp .Add) (rAdd X.K):=OpR.or (OpR.or qsH qic) (OpR.or qsG (OpR.or PL.op_cat0 qpT))
theorem qsQ{M:Md}{X:Cx}(hK:X.K=M.K):OkO M (rAdd X.K) qtx:=by
 intro Z H B x y a b n Q h ra rb e k;rw[hK];unfold qtx at e;split at e
 ·cases e;rw[qag ra,qag rb];exact .inl (.inl ⟨_,_,rfl,rfl,k B _ h .refl qaN⟩)
 ·split at e
  ·rename_i hz;cases e;have l0:100000<=sizeLine:=by decide
   rw[qaB ra,qaB rb];exact .inl (.inr ⟨_,_,rfl,rfl,by omega,k B _ h .refl qce⟩)
  ·cases e
 ·have l0:1000<=sizeLine:=by decide
  split at e
  ·rename_i xs ys e1 e2;split at e
   ·rename_i hz;cases e;obtain⟨p,vs,rfl,r1,h1⟩:=qbw h e1 ra;obtain⟨q,ws,rfl,r2,h2⟩:=qbw h e2 rb;rw[if_pos rfl] at h1 h2;exact .inr (.inl ⟨p,q,vs,ws,rfl,rfl,h1,h2,by rw[r1.length,r2.length];omega,λd hd=>k B d _ h .refl hd (r1.append r2)⟩)
   ·cases e
  ·rename_i ys e1 e2;cases e;obtain⟨p,vs,rfl,r1,h1⟩:=qbw h e1 ra;obtain⟨q,ws,rfl,r2,h2⟩:=qbw h e2 rb;rw[if_neg (by decide)] at h1 h2;cases r1.inv0;exact .inr (.inr (.inl ⟨p,q,ws,rfl,rfl,SqT.of h1.2,SqT.of h2.2,k B _ h .refl (qcd h2.1 r2)⟩))
  ·rename_i x xs e1 e2;split at e
   ·rename_i hz;cases e;obtain⟨p,vs,rfl,r1,h1⟩:=qbw h e1 ra;obtain⟨q,ws,rfl,r2,h2⟩:=qbw h e2 rb;rw[if_neg (by decide)] at h1 h2;cases r2.inv0;have l1:=r1.length;rw[List.length_cons] at l1;exact .inr (.inr (.inr ⟨p,q,vs,[],rfl,rfl,SqT.of h1.2,SqT.of h2.2,(λz=>by rw[z] at l1;cases l1),by simp;omega,(λ_=>k B _ h .refl (qcd h1.1 r1)),λz=>absurd rfl z⟩))
   ·cases e
  ·rename_i x xs y ys e1 e2;split at e
   ·rename_i hz;cases e;obtain⟨p,vs,rfl,r1,h1⟩:=qbw h e1 ra;obtain⟨q,ws,rfl,r2,h2⟩:=qbw h e2 rb;rw[if_neg (by decide)] at h1 h2;have l1:=r1.length;have l2:=r2.length;rw[List.length_cons] at l1 l2;exact .inr (.inr (.inr ⟨p,q,vs,ws,rfl,rfl,SqT.of h1.2,SqT.of h2.2,(λz=>by rw[z] at l1;cases l1),by omega,(λz=>by rw[z] at l2;cases l2),λ_ d hd=>k B d _ h .refl hd (r1.append r2)⟩))
   ·cases e
  ·cases e
theorem qsI:OkO M (rI0 λi j=>.int (i - j)) gSub:=by
 intro Z H B x y a b n Q h ra rb e k;unfold gSub at e;split at e
 ·cases e;exact⟨_,_,qag ra,qag rb,k B _ h .refl qaN⟩
 ·cases e
noncomputable def qxA(K:W.Frag):R2:=λx y H Q=>rI quW (λi j=>.int (i*j)) x y H Q
theorem qpQ:OpR X (binaryOp .Mult) (qxA X.K):=qsz
theorem qsK{M:Md}{X:Cx}(hK:X.K=M.K):OkO M (qxA X.K) qwC:=by
 intro Z H B x y a b n Q h ra rb e k;unfold qwC at e;split at e
 ·split at e
  ·rename_i hz;cases e;refine⟨_,_,qag ra,qag rb,?_,k B _ h .refl qaN⟩
   rcases hz with hz|hz
   ·exact .inl ⟨by lia,by lia⟩
   ·exact .inr ⟨by lia,by lia⟩
  ·cases e
 ·cases e
theorem qsP:OkO M (rI qyf λi j=>.int (i / j)) qwF:=by
 intro Z H B x y a b n Q h ra rb e k;unfold qwF at e;split at e
 ·split at e
  ·rename_i hz;cases e;exact⟨_,_,qag ra,qag rb,hz,k B _ h .refl qaN⟩
  ·cases e
 ·cases e
theorem qsL:OkO M (rI (λ_ j=>0<j) λi j=>.int (i % j)) qwD:=by
 intro Z H B x y a b n Q h ra rb e k;unfold qwD at e;split at e
 ·split at e
  ·rename_i hz;cases e;exact⟨_,_,qag ra,qag rb,hz,k B _ h .refl qaN⟩
  ·cases e
 ·cases e
end
noncomputable def qh0(x y:Str):Bool:=decide (x.cps.toList<y.cps.toList)
noncomputable def gLt(_:Mu):T->T->Option Nv
 |.int i,.int j=>some (.v (.bl (decide (i<j))))
 |.str i,.str j=>some (.v (.bl (qh0 i j)))
 |_,_=>none
noncomputable def gLe(_:Mu):T->T->Option Nv
 |.int i,.int j=>some (.v (.bl (decide (i<=j))))
 |.str i,.str j=>some (.v (.bl (!qh0 j i)))
 |_,_=>none
noncomputable def gGt(_:Mu):T->T->Option Nv
 |.int i,.int j=>some (.v (.bl (decide (j<i))))
 |_,_=>none
noncomputable def gGe(_:Mu):T->T->Option Nv
 |.int i,.int j=>some (.v (.bl (decide (j<=i))))
 |_,_=>none
noncomputable def qos(neg:Bool)(Z:Mu)(a b:T):Option Nv:=
 if okT 8 (dr1 Z a)=true/\okT 8 (dr1 Z b)=true then some (.v (.bl (if neg then !eqT (dr1 Z a) (dr1 Z b) else eqT (dr1 Z a) (dr1 Z b))))
 else if okT 8 (dr2 Z a)=true/\okT 8 (dr2 Z b)=true then some (.v (.bl (if neg then !eqT (dr2 Z a) (dr2 Z b) else eqT (dr2 Z a) (dr2 Z b)))) else(match neg,a,b with
  |false,.scr ns,.lst []=>some (.v (.bl ns.isEmpty))
  |_,_,_=>none)
noncomputable def qqk:T->Option Bool
 |.non=>some true
 |_=>some false
noncomputable def gIs(neg:Bool)(_:Mu):T->T->Option Nv
 |.bl i,.bl j=>some (.v (.bl (if neg then i != j else i==j)))
 |t,.non=>(qqk t).map λb=>.v (.bl (if neg then !b else b))
 |_,_=>none
section
theorem qsB:OpR X (compareOp .Lt) (λx y H Q=>rI0 (λi j=>.bl (decide (i<j))) x y H Q\/∃i j,x= .str i/\y= .str j/\Q (.bl (decide (i.cps.toList<j.cps.toList))) H):=OpR.or qvV qjT
theorem qsC:OpR X (compareOp .LtE) (λx y H Q=>rI0 (λi j=>.bl (decide (i<=j))) x y H Q\/∃i j,x= .str i/\y= .str j/\Q (.bl (!decide (j.cps.toList<i.cps.toList))) H):=OpR.or qvW qjU
theorem qvZ:OkO M (λx y H Q=>rI0 (λi j=>.bl (decide (i<j))) x y H Q\/∃i j,x= .str i/\y= .str j/\Q (.bl (decide (i.cps.toList<j.cps.toList))) H) gLt:=by
 intro Z H B x y a b n Q h ra rb e k;unfold gLt at e;split at e
 ·cases e;exact .inl ⟨_,_,qag ra,qag rb,k B _ h .refl qa2⟩
 ·cases e;exact .inr ⟨_,_,qaB ra,qaB rb,k B _ h .refl qa2⟩
 ·cases e
theorem qv0:OkO M (λx y H Q=>rI0 (λi j=>.bl (decide (i<=j))) x y H Q\/∃i j,x= .str i/\y= .str j/\Q (.bl (!decide (j.cps.toList<i.cps.toList))) H) gLe:=by
 intro Z H B x y a b n Q h ra rb e k;unfold gLe at e;split at e
 ·cases e;exact .inl ⟨_,_,qag ra,qag rb,k B _ h .refl qa2⟩
 ·cases e;exact .inr ⟨_,_,qaB ra,qaB rb,k B _ h .refl qa2⟩
 ·cases e
theorem qv1:OkO M (rI0 λi j=>.bl (decide (j<i))) gGt:=by
 intro Z H B x y a b n Q h ra rb e k;unfold gGt at e;split at e
 ·cases e;exact⟨_,_,qag ra,qag rb,k B _ h .refl qa2⟩
 ·cases e
theorem qv2:OkO M (rI0 λi j=>.bl (decide (j<=i))) gGe:=by
 intro Z H B x y a b n Q h ra rb e k;unfold gGe at e;split at e
 ·cases e;exact⟨_,_,qag ra,qag rb,k B _ h .refl qa2⟩
 ·cases e
noncomputable def qvy(K:W.Frag)(neg:Bool):R2:=λx y H Q=>(∃B t u,LeH B H/\Rep K B t x/\Rep K B u y/\okT 8 t=true/\okT 8 u=true/\Q (.bl (if neg then !eqT t u else eqT t u)) H)\/(neg=false/\∃(a b:Addr)(ns:List Int),x= .ref a/\y= .ref b/\SqL K H a (ns.map V.int)/\SqL K H b []/\Q (.bl ns.isEmpty) H)
theorem qsF(hu:X.A.units+8<cLine):OpR X (compareOp .Eq) (qvy X.K false):=by
 intro U s O H x y v u Q I rx ry q
 rcases q with⟨B,t,u',le,ra,rb,o1,o2,q⟩|⟨_,a,b,ns,rfl,rfl,h1,h2,q⟩
 ·exact(qjw I le 8 8 X.A t u' x y v u o1 o2 hu ra rb rx ry).2.1 _ _ _ _ ⟨.bl _,H,I,rfl,q⟩
 ·refine qf6 (by omega) _ s O H _ _ v u Q I rx ry ⟨a,b,_,_,rfl,rfl,h1,h2,?_⟩;cases ns with
  |nil|cons n ns=>simp_all
theorem qsy(hu:X.A.units+8<cLine):OpR X (compareOp .NotEq) (qvy X.K true):=by
 intro U s O H x y v u Q I rx ry q
 rcases q with⟨B,t,u',le,ra,rb,o1,o2,q⟩|⟨e,_⟩
 ·exact(qjw I le 8 8 X.A t u' x y v u o1 o2 hu ra rb rx ry).2.2 _ _ _ _ ⟨.bl _,H,I,rfl,q⟩
 ·cases e
theorem qsO{M:Md}{X:Cx}{neg:Bool}(hK:X.K=M.K):OkO M (qvy X.K neg) (qos neg):=by
 intro Z H B x y a b n Q h ra rb e k;rw[hK];have le:=(qdd h).2;unfold qos at e;split at e
 ·rename_i o;cases e;exact .inl ⟨_,_,_,le,qem h ra,qem h rb,o.1,o.2,k B _ h .refl qa2⟩
 ·split at e
  ·rename_i o;cases e;exact .inl ⟨_,_,_,le,qkU h ra,qkU h rb,o.1,o.2,k B _ h .refl qa2⟩
  ·split at e
   ·cases e;obtain⟨p,vs,rfl,r1,r2⟩:=qaC rb;cases r2.inv0;unfold Rep at ra;obtain⟨q,rfl,r3⟩:=ra;exact .inr ⟨rfl,_,_,_,rfl,rfl,qjo (λa o e=>le _ _ ((qdd h).1.h a o e)) r3,SqL.of (le _ _ ((qdd h).1.h _ _ r1)),k B _ h .refl qa2⟩
   ·cases e
theorem qko(r:Rep K B t v)(e:qqk t=some c):decide (v= .non)=c:=by
 cases t with
 |non=>cases e;rw[qcM r];rfl
 |bl _=>cases e;rw[qbx r];rfl
 |int _=>cases e;rw[qag r];rfl
 |str _=>cases e;rw[qaB r];rfl
 |tup _=>cases e;obtain⟨_,_,rfl,_⟩:=qaw r;rfl
 |lst _=>cases e;obtain⟨_,_,rfl,_⟩:=qaC r;rfl
 |dct _=>cases e;obtain⟨_,_,_,rfl,_⟩:=qfU r;rfl
 |obj _=>cases e;obtain⟨_,rfl,_⟩:=qax r;rfl
 |exc _=>cases e;obtain⟨_,rfl,_⟩:=qpk r;rfl
 |fn _|scr _=>cases e;unfold Rep at r;grind
theorem qpR:OpR X (compareOp .Is) (λx y H Q=>(y= .non/\Q (.bl (decide (x= .non))) H)\/∃c d,x= .bl c/\y= .bl d/\Q (.bl (c==d)) H):=OpR.or qsD qmt
theorem qib:OpR X (compareOp .IsNot) (λx y H Q=>(y= .non/\Q (.bl (!decide (x= .non))) H)\/∃c d,x= .bl c/\y= .bl d/\Q (.bl (c != d)) H):=OpR.or qpP qf5
theorem qsM:OkO M (λx y H Q=>(y= .non/\Q (.bl (if neg then !decide (x= .non) else decide (x= .non))) H)\/∃c d,x= .bl c/\y= .bl d/\Q (.bl (if neg then c != d else c==d)) H) (gIs neg):=by
 intro Z H B x y a b n Q h ra rb e k;unfold gIs at e;split at e
 ·cases e;exact .inr ⟨_,_,qbx ra,qbx rb,k B _ h .refl qa2⟩
 ·cases q:qqk a with
  |none=>rw[q] at e;cases e
  |some c=>rw[q] at e;cases e;rw[qko ra q];exact .inl ⟨qcM rb,k B _ h .refl qa2⟩
 ·cases e
end
end NV
namespace PL
open PySem L2
end PL
namespace HT
open PySem PySem.Spec PyProof.Rows L2
end HT
namespace L2
open PySem PySem.Spec PyProof.Rows
end L2
namespace PL
open PySem L2
end PL
namespace NV
open PySem L2
noncomputable def rB(M:Md)(g:Mu->T->T->Option Nv):R2:=λx y H Q=> ∃Z B a b n,Hs M Z H B/\Rep M.K B a x/\Rep M.K B b y/\g Z a b=some n/\KV M Z H B Q n
noncomputable def rN(M:Md)(g:Mu->List T->Option Nv):List V->Hp->VK->Prop:=λvs H Q=> ∃Z B ts n,Hs M Z H B/\Reps M.K B ts vs/\g Z ts=some n/\KV M Z H B Q n
theorem OpR.weak(h:OpR X f r)(w: ∀x y H Q,r' x y H Q->r x y H Q):OpR X f r':=λU s O H x y v u Q I rx ry q=>h _ s O H x y v u Q I rx ry (w _ _ _ _ q)
theorem qau.weak(h:qau X f r)(w: ∀xs H Q,r' xs H Q->r xs H Q):qau X f r':=λU s O H xs us Q I r q=>h _ s O H xs us Q I r (w _ _ _ q)
theorem IxR.weak(h:IxR X r)(w: ∀x y H Q,r' x y H Q->r x y H Q):IxR X r':=λvalue slice U s O H x y v u Q I rx ry q hs=>h _ _ _ s O H x y v u Q I rx ry (w _ _ _ _ q) hs
theorem OpR.ok(h:OpR X f r)(o:OkO M r g):OpR X f (rB M g):=OpR.weak h (by rintro _ _ _ Q ⟨_,_,_,_,_,hs,ra,rb,e,k⟩;exact o _ _ _ _ _ _ _ _ Q hs ra rb e k)
theorem qau.ok(h:qau X f r)(o:OkN M r g):qau X f (rN M g):=qau.weak h (by rintro _ _ Q ⟨_,_,_,_,hs,ra,e,k⟩;exact o _ _ _ _ _ _ Q hs ra e k)
theorem ql6(r:Reps K B ts vs)(h:atI ts i=some t): ∃v,atI vs i=some v/\Rep K B t v:=by
 unfold atI at h⊢;rw[r.length];cases e:ixN _ i with
 |none=>rw[e] at h;cases h
 |some j=>rw[e] at h;exact r.get h
noncomputable def dkv(Z:Mu):T->Option (List (Key×T))
 |.dct kvs=>some kvs
 |.obj k=>(match Z.l[k]? with|some (.dk kvs)=>some kvs|_=>none)
 |_=>none
noncomputable def duv(Z:Mu):T->Option (List (List Key×T))
 |.obj k=>(match Z.l[k]? with|some (.du kvs)=>some kvs|_=>none)
 |_=>none
noncomputable def qix:T->Option Key
 |.int i=>some (.inl i)
 |.str s=>some (.inr s)
 |_=>none
noncomputable def qfd:List T->Option (List Key)
 |[]=>some []
 |t::ts=>(qix t).bind λk=>(qfd ts).map (k:: ·)
noncomputable def qog:T->Option (List Key)
 |.tup ts=>qfd ts
 |_=>none
theorem qf9(h:qix t=some k)(r:Rep K B t v):v=kV k:=by
 cases t with
 |int i=>cases h;exact qag r
 |str s=>cases h;exact qaB r
 |_=>cases h
theorem qhu: ∀{ts:List T}{ks:List Key}{vs:List V},qfd ts=some ks->Reps K B ts vs->vs=ks.map kV
 |[],ks,vs,h,r=>by cases h;exact r.inv0
 |t::ts,ks,vs,h,r=>by
  obtain⟨v,cg,rfl,a,b⟩:=r.inv;unfold qfd at h;cases e:qix t with
  |none=>rw[e] at h;cases h
  |some k=>
   cases e2:qfd ts with
   |none=>grind
   |some i4=>rw[e,e2] at h;cases h;rw[qf9 e a,qhu e2 b];rfl
section
theorem qkX(h:Hs M Z H B)(e:dkv Z t=some kvs)(r:Rep M.K B t v): ∃p us,v= .ref p/\Rd H p (.dK us)/\qbc M.K B kvs us:=by
 unfold dkv at e;split at e
 ·cases e;obtain⟨p,o,us,rfl,hp,ru⟩:=qfU r;exact⟨p,us,rfl,.inr ⟨o,h.bh _ _ hp⟩,ru⟩
 ·split at e
  ·rename_i gM el;cases e;obtain⟨a,rfl,ea⟩:=qax r;obtain⟨o,_,ho,us,rfl,ru⟩:=h.at el (by simp) ea;exact⟨a,us,rfl,.inl ho,ru⟩
  ·cases e
 ·cases e
theorem qfr(h:Hs M Z H B)(e:duv Z t=some kvs)(r:Rep M.K B t v): ∃p us,v= .ref p/\H p=some (.dT us)/\qbc M.K B kvs us:=by
 unfold duv at e;split at e
 ·split at e
  ·rename_i gM el;obtain⟨a,rfl,ea⟩:=qax r;obtain⟨o,_,ho,us,rfl,ru⟩:=h.at el (by simp) ea
   simp_all
  ·cases e
 ·cases e
theorem qef(h:Hs M Z H B)(e:qog t=some ks)(r:Rep M.K B t v): ∃b,v= .ref b/\H b=some (.tup (ks.map kV)):=by
 cases t with
 |tup ts=>obtain⟨p,vs,rfl,hp,rv⟩:=qaw r;rw[qhu e rv] at hp;exact⟨p,rfl,h.bh _ _ hp⟩
 |_=>cases e
noncomputable def qdH(Z:Mu)(d y:T):Option (Option T):=match dkv Z d,qix y with
 |some kvs,some k=>some (qgQ kvs k)
 |_,_=>(match duv Z d,qog y with
  |some kvs,some k=>some (qgQ kvs k)
  |_,_=>none)
theorem qep(h:Hs M Z H B)(e:qdH Z d y=some o)(r:Rep M.K B d x)(ry:Rep M.K B y u): ∃a ov,x= .ref a/\IsD H a/\qhQ H a u ov/\(∀t,o=some t->∃v,ov=some v/\Rep M.K B t v)/\(o=none->ov=none):=by
 unfold qdH at e;split at e
 ·rename_i kvs k e1 e2;cases e;obtain⟨p,us,rfl,hp,ru⟩:=qkX h e1 r;have:=qd5 k ru;exact⟨p,_,rfl,.inl ⟨us,hp⟩,.inl ⟨us,k,hp,qf9 e2 ry,rfl⟩,this.1,this.2⟩
 ·split at e
  ·rename_i kvs k e1 e2;cases e;obtain⟨p,us,rfl,hp,ru⟩:=qfr h e1 r;obtain⟨b,rfl,hb⟩:=qef h e2 ry;have:=qd5 k ru;exact⟨p,_,rfl,.inr ⟨us,.of hp⟩,.inr ⟨us,k,b,.of hp,rfl,hb,rfl⟩,this.1,this.2⟩
  ·cases e
end
noncomputable def qck(Z:Mu):T->Option (Bool×List T)
 |.scr ns=>some (true,ns.map .int)
 |t=>sqv Z t
noncomputable def gDG(Z:Mu)(a b:T):Option Nv:=(qdH Z a b).bind λo=>o.map .v
noncomputable def gIx(Z:Mu)(a b:T):Option Nv:=match b with
 |.int i=>(match a with
  |.str z=>if z.length<=1000 then(atI z.cps.toList i).map λc=>.v (.str ⟨#[c]⟩) else none
  |a=>(match qck Z a with
   |some q=>(atI q.2 i).map .v
   |none=>gDG Z a (.int i)))
 |b=>gDG Z a b
section
open PySem.Spec PyProof.Rows in
theorem qqh(hu:X.A.units+1<cLine):IxR X (λx y H Q=> ∃a v,x= .ref a/\qhQ H a y (some v)/\Q v H):=by intro value slice U s O H x y v u Q I rx ry h hs;obtain⟨a,z,rfl,g,q⟩:=h;cases rx;exact tail_any (qgn I g) F.slot_dict_getitem.lookup (qk3 hu I g ry λw' s3 I3 aq=>⟨z,H,I3,aq,q⟩) hs
theorem qd4: ∀ns:List Int,Reps K B (ns.map T.int) (ns.map V.int)
 |[]=>.nil
 |_::ns=>.cons qaN (qd4 ns)
theorem qbZ(h:Hs M Z H B)(e:qck Z t=some (b,ts))(r:Rep M.K B t v): ∃p vs,v= .ref p/\Reps M.K B ts vs/\(if b=true then SqL M.K H p vs else SqT M.K H p vs):=by
 unfold qck at e;split at e
 ·cases e;obtain⟨p,rfl,q⟩:=r;exact⟨p,_,rfl,qd4 _,by exact qjo h.bh q⟩
 ·obtain⟨p,vs,rfl,rv,q⟩:=qbw h e r;refine⟨p,vs,rfl,rv,?_⟩;cases b with
  |true=>exact SqL.of q
  |false=>exact SqT.of q.2
theorem qd1(h:Hs M Z H B)(e:qck Z t=some (b,ts))(r:Rep M.K B t v): ∃p vs,v= .ref p/\Reps M.K B ts vs/\(SqL M.K H p vs\/SqT M.K H p vs):=by
 obtain⟨p,vs,rfl,rv,q⟩:=qbZ h e r;refine⟨p,vs,rfl,rv,?_⟩;split at q
 ·exact .inl q
 ·exact .inr q
theorem qyG(hu:X.A.units+1<cLine)(hK:X.K=M.K):IxR X (rB M gIx):=IxR.weak (IxR.or qtb (qqh hu)) (by
 rintro x y H Q ⟨Z,B,a,b,n,h,ra,rb,e,k⟩;rw[hK];have dg:gDG Z a b=some n->(rIx M.K x y H Q\/∃a v,x= .ref a/\qhQ H a y (some v)/\Q v H):=λe=>by
  unfold gDG at e;cases q:qdH Z a b with
  |none=>rw[q] at e;cases e
  |some o=>
   cases o with
   |none=>rw[q] at e;cases e
   |some t=>rw[q] at e;cases e;obtain⟨p,ov,rfl,_,g,h1,_⟩:=qep h q ra rb;obtain⟨v,rfl,rv⟩:=h1 t rfl;exact .inr ⟨p,v,rfl,g,k B v h .refl rv⟩
 cases b with
 |int i=>
  have sq:(match qck Z a with|some q=>(atI q.2 i).map Nv.v|none=>gDG Z a (.int i))=some n->(rIx M.K x y H Q\/∃a v,x= .ref a/\qhQ H a y (some v)/\Q v H):=λe=>by
   cases es:qck Z a with
   |none=>rw[es] at e;exact dg e
   |some p=>
    obtain⟨bb,ts⟩:=p;rw[es] at e;have e:(atI ts i).map Nv.v=some n:=e;cases q:atI ts i with
    |none=>rw[q] at e;cases e
    |some t=>
     rw[q] at e;cases e;obtain⟨p,vs,rfl,rv,hs⟩:=qd1 h es ra;obtain⟨v,ev,dO⟩:=ql6 rv q
     rcases hs with hs|hs
     ·exact .inl (.inl ⟨p,vs,i,v,rfl,qag rb,hs,ev,k B v h .refl dO⟩)
     ·exact .inl (.inr (.inl ⟨p,vs,i,v,rfl,qag rb,hs,ev,k B v h .refl dO⟩))
  cases a with
  |str z=>
   have e:(if z.length<=1000 then(atI z.cps.toList i).map λc=>Nv.v (.str ⟨#[c]⟩) else none)=some n:=e;split at e
   ·rename_i hz;cases q:atI z.cps.toList i with
    |none=>rw[q] at e;cases e
    |some c=>rw[q] at e;cases e;rw[qaB ra,qag rb];exact .inl (.inr (.inr ⟨z,i,c,rfl,rfl,Nat.le_of_lt (qeM hz),q,k B _ h .refl qce⟩))
   ·cases e
  |_=>exact sq e
 |_=>exact dg e)
noncomputable def tO(M:Md)(E:XK)(d:DS0 (Option Int)):TO:=λO H Q=> ∃ρ Z B,Ev M ρ Z O H B/\Wn M E H B (λo μ'=> ∀H' B',Hs M μ' H' B'->Go H B H' B'->Q o H') (d ρ Z)
noncomputable def dON:DS0 (Option Int):=λ_ Z=>.ok none Z
noncomputable def dOS(da:DS0 T):DS0 (Option Int):=dSq da λt _ Z=>match t with|.int i=>.ok (some i) Z|_=>.no
theorem qqF:PO X none (tO M E dON):=PO.weak qpB (by rintro O H Q ⟨ρ,Z,B,ev,w⟩;exact w H B ev.hs .refl)
theorem qkV(h:PE X e (tE M E da)):PO X (some e) (tO M E (dOS da)):=PO.weak (qpA h) (by rintro O H Q ⟨ρ,Z,B,ev,w⟩;exact tE.of ev ((Wn.bind w).mono λt aa w1 v H1 B1 h1 l1 r1=>by
 cases t with
 |int i=>exact⟨i,qag r1,w1 H1 B1 h1 l1⟩
 |_=>exact w1.elim))
noncomputable def qqU(ts:List T)(lo hi:Option Int):List T:=(ts.drop (HT.sIx ts.length 0 lo)).take (HT.sIx ts.length ts.length hi - HT.sIx ts.length 0 lo)
theorem ql5(r:Reps K B ts vs)(lo hi:Option Int):Reps K B (qqU ts lo hi) (quc vs lo hi):=by unfold qqU quc;rw[r.length];exact(r.drop _).take _
noncomputable def gSl(Z:Mu)(a:T)(lo hi:Option Int):Option Nv:=match a with
 |a=>(match qck Z a with
  |some (true,ts)=>some (.l (qqU ts lo hi))
  |_=>none)
noncomputable def dSl(ow:Bool)(da:DS0 T)(dl dh:DS0 (Option Int)):DS0 T:=dSq da λa=>dSq dl λl=>dSq dh λh _ Z=>nvR ow (gSl Z a l h) Z
theorem qnh(hK:X.K=M.K)(ha:PE X a (tE M E da))(hl:PO X lo (tO M E dl))(hh:PO X hi (tO M E dh)):PE X (.Subscript a (.Slice lo hi none p2) pos) (tE M E (dSl ow da dl dh)):=by
 refine PE.weakF (qmk qpe ha hl hh) ?_;rintro O H Q cq ⟨ρ,Z,B,ev,w⟩;refine tE.of ev ((Wn.bind w).mono λt aa w1 v H1 B1 h1 l1 r1=> ?_);refine⟨ρ,aa,B1,ev.on h1 l1.le,(Wn.bind w1).lift l1 λl af w2 H2 B2 h2 l2=> ?_⟩;refine⟨ρ,af,B2,(ev.on h1 l1.le).on h2 l2.le,(Wn.bind w2).lift (l1.trans l2) λu aQ w3 H3 B3 h3 l3=> ?_⟩;obtain⟨c,m,q,w3⟩:=Wn.pl w3 (λc m=>qe1 c m);obtain⟨n,e,kv⟩:=qdk cq q (KE.le w3 ((l1.trans l2).trans l3));have r3:=r1.mono (l2.trans l3).le;rw[hK];unfold gSl at e;dsimp only at e;split at e
 ·rename_i ts es;cases e;obtain⟨p,vs,rfl,rv,hs⟩:=qbZ h3 es r3;exact⟨p,vs,rfl,hs,λd hd=>kv B3 d _ h3 .refl hd (ql5 rv l u)⟩
 ·cases e
noncomputable def quR(Z:Mu)(a:T)(lo hi st:Option Int):Option Nv:=match qck Z a with
 |some (true,ts)=>if st≠some 0 then some (.l (RH.pickL ts lo hi st)) else none
 |_=>none
theorem qb1(r:Reps K B ts vs): ∀l:List Nat,Reps K B (l.filterMap (ts[·]?)) (l.filterMap (vs[·]?))
 |[]=>.nil
 |i::l=>by
  cases e:ts[i]? with
  |none=>
   have e2:vs[i]? =none:=by rw[List.getElem?_eq_none_iff] at e⊢;rw[r.length];exact e
   rw[List.filterMap_cons_none e,List.filterMap_cons_none e2];exact qb1 r l
  |some t=>obtain⟨v,e2,rv⟩:=r.get e;rw[List.filterMap_cons_some e,List.filterMap_cons_some e2];exact .cons rv (qb1 r l)
noncomputable def qxW(ow:Bool)(da:DS0 T)(dl dh dt:DS0 (Option Int)):DS0 T:=dSq da λa=>dSq dl λl=>dSq dh λh=>dSq dt λst _ Z=>nvR ow (quR Z a l h st) Z
theorem qk1(hK:X.K=M.K)(ha:PE X a (tE M E da))(hl:PO X lo (tO M E dl))(hh:PO X hi (tO M E dh))(ht:PO X (some fI) (tO M E dt)):PE X (.Subscript a (.Slice lo hi (some fI) p2) pos) (tE M E (qxW ow da dl dh dt)):=by
 refine PE.weakF (RH.pe_slice3 ha hl hh ht) ?_;rintro O H Q cq ⟨ρ,Z,B,ev,w⟩;refine tE.of ev ((Wn.bind w).mono λt aa w1 v H1 B1 h1 l1 r1=> ?_);refine⟨ρ,aa,B1,ev.on h1 l1.le,(Wn.bind w1).lift l1 λl af w2 H2 B2 h2 l2=> ?_⟩;have jw:=(ev.on h1 l1.le).on h2 l2.le;refine⟨ρ,af,B2,jw,(Wn.bind w2).lift (l1.trans l2) λu aQ w3 H3 B3 h3 l3=> ?_⟩;refine⟨ρ,aQ,B3,jw.on h3 l3.le,(Wn.bind w3).lift ((l1.trans l2).trans l3) λst aR w4 H4 B4 h4 l4=> ?_⟩;obtain⟨c,m,q,w4⟩:=Wn.pl w4 (λc m=>qe1 c m);obtain⟨n,e,kv⟩:=qdk cq q (KE.le w4 (((l1.trans l2).trans l3).trans l4));have r4:=r1.mono ((l2.trans l3).trans l4).le;rw[hK];unfold quR at e;split at e
 ·rename_i ts es;split at e
  ·rename_i h0;cases e;obtain⟨p,vs,rfl,rv,hs⟩:=qbZ h4 es r4;refine⟨h0,p,vs,rfl,hs,λd hd=>kv B4 d _ h4 .refl hd ?_⟩;unfold RH.pickL;rw[rv.length];exact qb1 rv _
  ·cases e
 ·cases e
end
end NV
namespace PL
open PySem PySem.Spec L2
end PL
namespace NV
open PySem L2
section
open SeqAt in
theorem qcw(hu:X.A.units+8<cLine)(I:Inv X U O H s)(le:LeH B H)(ra:Rep X.K B t x)(rx:RelV x v)(ot:okT 7 t=true)(gD:ts.all (okT 7)=true)(rs:Reps X.K B ts vs)(rv:Vals vs is):
  is.length=ts.length/\∃e:Value->Bool,(∀y,y∈is.toArray->EqAt X.A.in1 s y v (e y))/\∀(j:Nat)(h:j<is.length),e is[j]=eqT (ts.getD j .non) t:=by
 have l1:=rv.length;have l2:=rs.length;have at_: ∀(j:Nat)(h:j<is.toArray.size),EqAt X.A.in1 s is.toArray[j] v (eqT (ts.getD j .non) t):=λj h=>by
  have hj:j<ts.length:=by simp at h;lia
  exact(qjw I le 7 7 X.A.in1 _ _ _ _ _ _ (qbE gD hj) ot (by show X.A.units+1+7<cLine;lia) (rs.getD j hj) ra (RH.valsArr rv h) rx).1
 have one: ∀(j k:Nat)(h:j<is.toArray.size)(h':k<is.toArray.size),is.toArray[j]=is.toArray[k]->ts.getD j .non=ts.getD k .non:=λj k h h' e=>by
  have hj:j<ts.length:=by simp at h;lia
  have hk:k<ts.length:=by simp at h';lia
  have r1:=RH.valsArr rv h;have r2:=RH.valsArr rv h';rw[<-e] at r2;have:=r1.inj r2;refine qfT I le 7 7 _ _ _ (qbE gD hj) (qbE gD hk) (rs.getD j hj) ?_;rw[this];exact rs.getD k hk
 classical
 have key: ∀(j:Nat)(hj:j<is.toArray.size),decide (∃(j':Nat)(h:j'<is.toArray.size),is.toArray[j']=is.toArray[j]/\eqT (ts.getD j' .non) t=true)=eqT (ts.getD j .non) t:=λj hj=>by
  cases z:eqT (ts.getD j .non) t with
  |true=>exact Vv ⟨j,hj,rfl,z⟩
  |false=>exact Vw ((by rintro⟨k,hk,e,ek⟩;rw[one k j hk hj e,z] at ek;cases ek))
 refine⟨by lia,λy=>decide (∃(j:Nat)(h:j<is.toArray.size),is.toArray[j]=y/\eqT (ts.getD j .non) t=true),λy hy=> ?_,λj hj=> ?_⟩
 ·obtain⟨j,hj,rfl⟩:=Array.mem_iff_getElem.mp hy;show EqAt X.A.in1 s is.toArray[j] v (decide (∃(j':Nat)(h:j'<is.toArray.size),is.toArray[j']=is.toArray[j]/\eqT (ts.getD j' .non) t=true));rw[key j hj];exact at_ j hj
 ·have:=key j (by simpa using hj);simpa using this
theorem qhN{is:List Value}{ts:List T}(hl:is.length=ts.length)(h: ∀(j:Nat)(h:j<is.length),f is[j]=g (ts.getD j .non)):is.map f=ts.map g:=by
 refine List.ext_getElem (by simp[hl]) λj h1 h2=> ?_;have hj:=by simpa using h1
 simp_all
end
theorem qhM{α β:Type}{f:α->Bool}{g:β->Bool}{is:List α}{ts:List β}(h:is.map f=ts.map g):is.any f=ts.any g:=by have:=congrArg (List.any · id) h;simpa [List.any_map] using this
noncomputable def qyx(K:W.Frag)(neg:Bool):R2:=λx y H Q=> ∃B t p vs ts,LeH B H/\Rep K B t x/\y= .ref p/\(SqL K H p vs\/SqT K H p vs)/\Reps K B ts vs/\okT 7 t=true/\ts.all (okT 7)=true/\Q (.bl (if neg then !ts.any (λu=>eqT u t) else ts.any (λu=>eqT u t))) H
noncomputable def qyy(neg:Bool):R2:=λx y H Q=>(∃a o,y= .ref a/\qhQ H a x o/\Q (.bl (if neg then !o.isSome else o.isSome)) H)\/∃a b,∃k:List Key,y= .ref a/\H a=some (.dK [])/\x= .ref b/\H b=some (.tup (k.map kV))/\Q (.bl neg) (upd H a (.dT []))
noncomputable def qvw(K:W.Frag)(neg:Bool):R2:=λx y H Q=>qyx K neg x y H Q\/qyy neg x y H Q
noncomputable def gIn(neg:Bool)(Z:Mu)(t c:T):Option Nv:=match qck Z c with
 |some q=>if okT 7 t=true/\q.2.all (okT 7)=true then some (.v (.bl (if neg then !q.2.any (λu=>eqT u t) else q.2.any (λu=>eqT u t)))) else none
 |none=>(match qdH Z c t with
  |some o=>some (.v (.bl (if neg then !o.isSome else o.isSome)))
  |none=>(match c with
   |.obj k=>(match Z.l[k]?,qog t with
    |some (.dk []),some _=>some (.p k (.du []) (.bl neg))
    |_,_=>none)
   |_=>none))
section
theorem qsE{X:Cx}(hu:X.A.units+8<cLine):OpR X (compareOp .In) (qvw X.K false):=by
 intro U s O H x y v u Q I rx ry hq
 rcases hq with⟨B,t,p,vs,ts,le,ra,ey,hp,rs,o1,o2,q⟩|⟨a,o,rfl,g,q⟩|⟨a,b,k,rfl,ha,rfl,hb,q⟩
 ·subst ey;cases ry
  rcases hp with hp|hp
  ·obtain⟨is,rv,pl,_⟩:=I.list hp;obtain⟨hl,e,h1,h2⟩:=qcw hu I le ra rx o1 o2 rs rv;refine SeqAt.in_listAt e pl.isList h1 ⟨.bl _,H,I,rfl,?_⟩;rw[show is.toArray.any e=is.any e by simp,qhM (qhN (g:=λu=>eqT u t) hl h2)];exact q
  ·obtain⟨is,rv,pl,_⟩:=I.tuple hp;obtain⟨hl,e,h1,h2⟩:=qcw hu I le ra rx o1 o2 rs rv;refine SeqAt.in_tupleAt e pl h1 ⟨.bl _,H,I,rfl,?_⟩;rw[show is.toArray.any e=is.any e by simp,qhM (qhN (g:=λu=>eqT u t) hl h2)];exact q
 ·cases ry;exact qxT (by lia) I g rx λs3 I3=>⟨.bl o.isSome,H,I3,rfl,q⟩
 ·cases ry;have I':=PL.Inv.asT I ha;have g:qhQ (upd H a (.dT [])) a (.ref b) none:=.inr ⟨[],k,b,.of qae,rfl,by rw[qad (λz=>by rw[z,ha] at hb;cases hb)];exact hb,rfl⟩;exact qxT (by lia) I' g rx λs3 I3=>⟨.bl false,_,I3,rfl,q⟩
theorem qjS{X:Cx}(hu:X.A.units+8<cLine):OpR X (compareOp .NotIn) (qvw X.K true):=by
 intro U s O H x y v u Q I rx ry hq
 rcases hq with⟨B,t,p,vs,ts,le,ra,ey,hp,rs,o1,o2,q⟩|⟨a,o,rfl,g,q⟩|⟨a,b,k,rfl,ha,rfl,hb,q⟩
 ·subst ey;cases ry
  rcases hp with hp|hp
  ·obtain⟨is,rv,pl,_⟩:=I.list hp;obtain⟨hl,e,h1,h2⟩:=qcw hu I le ra rx o1 o2 rs rv;refine SeqAt.notIn_listAt e pl.isList h1 ⟨.bl _,H,I,rfl,?_⟩;rw[show is.toArray.any e=is.any e by simp,qhM (qhN (g:=λu=>eqT u t) hl h2)];exact q
  ·obtain⟨is,rv,pl,_⟩:=I.tuple hp;obtain⟨hl,e,h1,h2⟩:=qcw hu I le ra rx o1 o2 rs rv;refine SeqAt.notIn_tupleAt e pl h1 ⟨.bl _,H,I,rfl,?_⟩;rw[show is.toArray.any e=is.any e by simp,qhM (qhN (g:=λu=>eqT u t) hl h2)];exact q
 ·cases ry;exact qk2 (by lia) I g rx λs3 I3=>⟨.bl (!o.isSome),H,I3,rfl,q⟩
 ·cases ry;have I':=PL.Inv.asT I ha;have g:qhQ (upd H a (.dT [])) a (.ref b) none:=.inr ⟨[],k,b,.of qae,rfl,by rw[qad (λz=>by rw[z,ha] at hb;cases hb)];exact hb,rfl⟩;exact qk2 (by lia) I' g rx λs3 I3=>⟨.bl true,_,I3,rfl,q⟩
theorem qsN{X:Cx}{M:Md}{neg:Bool}(hK:X.K=M.K):OkO M (qvw X.K neg) (gIn neg):=by
 intro Z H B x y a b n Q h ra rb e k;rw[hK];unfold gIn at e;split at e
 ·rename_i q es;split at e
  ·rename_i o;cases e;obtain⟨p,vs,rfl,rv,hs⟩:=qd1 (b:=q.1) (ts:=q.2) h es rb;exact .inl ⟨B,a,p,vs,q.2,h.bh,ra,rfl,hs,rv,o.1,o.2,k B _ h .refl qa2⟩
  ·cases e
 ·split at e
  ·rename_i o eo;cases e;obtain⟨p,ov,rfl,_,g,h1,h2⟩:=qep h eo rb ra;refine .inr (.inl ⟨p,ov,rfl,g,?_⟩);have:ov.isSome=o.isSome:=by
    cases o with
    |none=>rw[h2 rfl];rfl
    |some t=>obtain⟨v,rfl,_⟩:=h1 t rfl;rfl
   rw[this];exact k B _ h .refl qa2
  ·split at e
   ·rename_i j;split at e
    ·rename_i el ek;cases e;obtain⟨p,rfl,ea⟩:=qax rb;obtain⟨o,_,ho,us,rfl,ru⟩:=h.at el (by simp) ea;have:us=[]:=ru;subst this;obtain⟨b,rfl,hb⟩:=qef h ek ra;exact .inr (.inr ⟨p,b,_,rfl,ho,rfl,hb,k.2 B p _ _ h .refl ea ⟨[],rfl,rfl⟩ qa2⟩)
    ·cases e
   ·cases e
end
noncomputable def dN(ow:Bool)(g:Mu->List T->Option Nv)(ds:DS0 (List T)):DS0 T:=dSq ds λts _ Z=>nvR ow (g Z ts) Z
noncomputable def qrm(Z:Mu):List T->Option Nv
 |[.str z]=>if z.length<=100000 then some (.v (.int z.length)) else none
 |[t]=>(match qck Z t with
  |some q=>some (.v (.int q.2.length))
  |none=>(dkv Z t).map λkvs=>.v (.int kvs.length))
 |_=>none
noncomputable def qde:List T->Option (List Int)
 |[]=>some []
 |.int i::ts=>(qde ts).map (i:: ·)
 |_::_=>none
noncomputable def qbA:List T->Option (List Str)
 |[]=>some []
 |.str i::ts=>(qbA ts).map (i:: ·)
 |_::_=>none
noncomputable def qez:List T->Option (List Bool)
 |[]=>some []
 |.bl i::ts=>(qez ts).map (i:: ·)
 |_::_=>none
noncomputable def qcv(Z:Mu)(t:T):Option (List T):=match qck Z t with
 |some (true,ts)=>some ts
 |_=>none
noncomputable def qwH(Z:Mu):List T->Option Nv
 |[t]=>((qcv Z t).bind qez).map λbs=>.v (.bl (bs.all id))
 |_=>none
noncomputable def qtw(Z:Mu):List T->Option Nv
 |[.int i,.int j]=>some (.v (.int (if j>i then j else i)))
 |_=>none
noncomputable def qwE(_:Mu):List T->Option Nv
 |[.int i,.int j]=>some (.v (.int (if j<i then j else i)))
 |_=>none
noncomputable def qqq(Z:Mu):List T->Option Nv
 |[t]=>(qck Z t).map λq=>.l q.2
 |_=>none
noncomputable def qkB(Z:Mu):List T->Option Nv
 |[t]=>(match qck Z t with
  |some (true,ts)=>some (.t ts)
  |some (false,ts)=>some (.v t)
  |none=>none)
 |_=>none
section
variable{M:Md}{X:Cx}{K:W.Frag}{B:qaI}{Z:Mu}{H:Hp}
theorem qdQ: ∀{ts:List T}{ns:List Int}{vs:List V},qde ts=some ns->Reps K B ts vs->vs=ns.map V.int
 |[],_,_,e,r=>by cases e;exact r.inv0
 |t::ts,ns,vs,e,r=>by
  obtain⟨v,rr,rfl,a,b⟩:=r.inv;cases t with
  |int i=>
   cases q:qde ts with
   |none=>rw[qde,q] at e;cases e
   |some ms=>rw[qde,q] at e;cases e;rw[qag a,qdQ q b];rfl
  |_=>cases e
theorem qdP: ∀{ts:List T}{ns:List Str}{vs:List V},qbA ts=some ns->Reps K B ts vs->vs=ns.map V.str
 |[],_,_,e,r=>by cases e;exact r.inv0
 |t::ts,ns,vs,e,r=>by
  obtain⟨v,rr,rfl,a,b⟩:=r.inv;cases t with
  |str i=>
   cases q:qbA ts with
   |none=>rw[qbA,q] at e;cases e
   |some ms=>rw[qbA,q] at e;cases e;rw[qaB a,qdP q b];rfl
  |_=>cases e
theorem qfG: ∀{ts:List T}{ns:List Bool}{vs:List V},qez ts=some ns->Reps K B ts vs->vs=ns.map V.bl
 |[],_,_,e,r=>by cases e;exact r.inv0
 |t::ts,ns,vs,e,r=>by
  obtain⟨v,rr,rfl,a,b⟩:=r.inv;cases t with
  |bl i=>
   cases q:qez ts with
   |none=>rw[qez,q] at e;cases e
   |some ms=>rw[qez,q] at e;cases e;rw[qbx a,qfG q b];rfl
  |_=>cases e
theorem qcL{t:T}{vs:List V}(r:Reps K B [t] vs): ∃v,vs=[v]/\Rep K B t v:=by obtain⟨v,rr,rfl,a,b⟩:=r.inv;cases b.inv0;exact⟨v,rfl,a⟩
theorem qeS(r:Reps K B [t,u] vs): ∃v w,vs=[v,w]/\Rep K B t v/\Rep K B u w:=by obtain⟨v,rr,rfl,a,b⟩:=r.inv;obtain⟨w,rfl,c⟩:=qcL b;exact⟨v,w,rfl,a,c⟩
theorem qcR(h:Hs M Z H B){t:T}{v:V}{ts:List T}(e:qcv Z t=some ts)(r:Rep M.K B t v): ∃p vs,v= .ref p/\Reps M.K B ts vs/\SqL M.K H p vs:=by
 unfold qcv at e;split at e
 ·rename_i es;cases e;obtain⟨p,vs,rfl,rv,hs⟩:=qbZ h es r;exact⟨p,vs,rfl,rv,hs⟩
 ·cases e
theorem bind_some{α β:Type}{o:Option α}{f:α->Option β}{b:β}(e:o.bind f=some b): ∃a,o=some a/\f a=some b:=by
 cases o with
 |none=>cases e
 |some a=>exact⟨a,rfl,e⟩
theorem qar{α β:Type}{o:Option α}{f:α->β}{b:β}(e:o.map f=some b): ∃a,o=some a/\f a=b:=by
 simp_all
theorem qiK:qau X (.builtin "len") (λxs H Q=> ∃a kvs,xs=[V.ref a]/\Rd H a (.dK kvs)/\Q (.int kvs.length) H):=by intro U s O H xs us Q I r h;obtain⟨a,kvs,rfl,ha,q⟩:=h;obtain⟨u,rfl,ru⟩:=qdT r;cases ru;exact qw0 I ha λt s' I'=>⟨.int _,H,I',⟨t,rfl⟩,q⟩
theorem qul(hK:X.K=M.K):qau X (.builtin "len") (rN M qrm):=qau.ok (qau.or qnA qiK) λZ H B vs ts n Q h r e k=>by
 rw[hK];have l0:100000<=sizeLine:=by decide
 unfold qrm at e;split at e
 ·obtain⟨v,rfl,a⟩:=qcL r;split at e
  ·cases e;rw[qaB a];exact .inl ⟨_,_,rfl,⟨by omega,rfl⟩,k B _ h .refl qaN⟩
  ·cases e
 ·obtain⟨v,rfl,a⟩:=qcL r;split at e
  ·rename_i q es;cases e;obtain⟨p,vs,rfl,rv,hs⟩:=qd1 (b:=q.1) (ts:=q.2) h es a;refine .inl ⟨_,_,rfl,?_,k B _ h .refl qaN⟩;rw[<-rv.length]
   rcases hs with hs|hs
   ·exact .inl ⟨vs,hs,rfl⟩
   ·exact .inr ⟨vs,hs,rfl⟩
  ·obtain⟨kvs,e1,rfl⟩:=qar e;obtain⟨p,us,rfl,hp,ru⟩:=qkX h e1 a;exact .inr ⟨p,us,rfl,hp,by rw[ru.length];exact k B _ h .refl qaN⟩
 ·cases e
theorem qum(hc:X.calm=true)(hK:X.K=M.K):qau X (.builtin "all") (rN M qwH):=qau.ok (qnB hc) λZ H B vs ts n Q h r e k=>by
 unfold qwH at e;split at e
 ·obtain⟨v,rfl,a⟩:=qcL r;obtain⟨bs,e1,rfl⟩:=qar e;obtain⟨ts,e2,e3⟩:=bind_some e1;obtain⟨p,vs,rfl,rv,hs⟩:=qcR h e2 a;rw[qfG e3 rv] at hs;exact⟨p,bs,rfl,by rw[hK];exact hs,k B _ h .refl qa2⟩
 ·cases e
theorem quk(hc:X.calm=true)(hK:X.K=M.K):qau X (.builtin "max") (rN M qtw):=qau.ok (qlo hc) λZ H B vs ts n Q h r e k=>by
 unfold qtw at e;split at e
 ·cases e;obtain⟨v,w,rfl,a,b⟩:=qeS r;rw[qag a,qag b];exact⟨_,_,rfl,k B _ h .refl qaN⟩
 ·cases e
theorem quj(hc:X.calm=true):qau X (.builtin "min") (rN M qwE):=qau.ok (qlm hc) λZ H B vs ts n Q h r e k=>by
 unfold qwE at e;split at e
 ·cases e;obtain⟨v,w,rfl,a,b⟩:=qeS r;rw[qag a,qag b];exact⟨_,_,rfl,k B _ h .refl qaN⟩
 ·cases e
theorem qqY(hK:X.K=M.K):qau X (.type "list") (rN M qqq):=qau.ok qfA λZ H B vs ts n Q h r e k=>by
 rw[hK];unfold qqq at e;split at e
 ·obtain⟨v,rfl,a⟩:=qcL r;obtain⟨q,es,rfl⟩:=qar e;obtain⟨p,vs,rfl,rv,hs⟩:=qd1 h es a;exact⟨p,vs,rfl,hs,λl hl=>k B l vs h .refl hl rv⟩
 ·cases e
theorem qnv(hK:X.K=M.K):qau X (.type "tuple") (rN M qkB):=qau.ok qev λZ H B vs ts n Q h r e k=>by
 rw[hK];unfold qkB at e;split at e
 ·obtain⟨v,rfl,a⟩:=qcL r;split at e
  ·rename_i ts es;cases e;obtain⟨p,vs,rfl,rv,hs⟩:=qbZ h es a;exact⟨p,vs,rfl,.inl ⟨hs,λl hl=>k B l vs h .refl hl rv⟩⟩
  ·rename_i ts es;cases e;obtain⟨p,vs,rfl,rv,hs⟩:=qbZ h es a;exact⟨p,vs,rfl,.inr ⟨hs,k B _ h .refl a⟩⟩
  ·cases e
 ·cases e
end
open SR SetL
noncomputable def kyN:T->PL.Ky
 |.int i=>.i i
 |.str x=>.s x
 |_=>.i 0
noncomputable def qlF:T->List PL.Ky
 |.int i=>[.i i]
 |.str x=>[.s x]
 |.tup ts=>ts.map kyN
 |_=>[]
noncomputable def shN:T->Nat
 |.int _=>0
 |.str _=>1
 |_=>9
noncomputable def qdq:T->List Nat
 |.int _=>[0]
 |.str _=>[1]
 |.tup ts=>2::ts.map shN
 |_=>[9]
noncomputable def qbN:List T->Bool
 |[]=>true
 |t::ts=>PL.okShape (qdq t)&&ts.all λu=>qdq u==qdq t
noncomputable def qjq(ts:List T):List T:=PL.sortBy qlF ts
section
open PySem.W PyProof.Rows
noncomputable def qbX(h:Heap)(sh:List Nat)(k:List PL.Ky)(v:Value):Prop:=match sh with
 |[0]=> ∃n t,k=[.i n]/\v= .int n t
 |[1]=> ∃n t,k=[.s n]/\v= .str n t
 |2::r=>PL.KeyTup h k v/\k.map PL.shK=r
 |_=>False
theorem qbX.keep(kp:St.Kp h h')(x:qbX h sh k v):qbX h' sh k v:=by
 unfold qbX at x⊢;split at x
 ·exact x
 ·exact x
 ·obtain⟨⟨p,its,e,⟨o,ho,c⟩,r⟩,s⟩:=x;exact⟨⟨p,its,e,⟨o,kp _ _ ho,c⟩,r⟩,s⟩
 ·exact x.elim
noncomputable def qxv(sh:List Nat):SortKind:=match sh with|2::_=>tuples' true|_=>oneType'
theorem qs6(ok:PL.okShape sh=true)(ki:qbX s.heap sh a u)(kj:qbX s.heap sh b v)(hC:C (PL.ltKs a b) s):
  wpAny (model prog w) A (keyLt' (qxv sh) u v) C (λ_ _=>False) s:=by
 rcases PL.okShape_cases ok with rfl|rfl|⟨x,r,rfl,hr⟩
 ·obtain⟨n1,t1,f1,g1⟩:=ki;obtain⟨n2,t2,f2,g2⟩:=kj;rw[g1,g2];rw[f1,f2] at hC;refine kat_lt_int ?_;have e:PL.ltKs [.i n1] [.i n2]=decide (n1<n2):=by
   show(if PL.Ky.i n1=PL.Ky.i n2 then false else decide (n1<n2))=_;by_cases c:n1=n2
   ·subst c;rw[if_pos rfl];exact(Vw (Int.lt_irrefl _)).symm
   ·rw[if_neg (λz=>c (by cases z;rfl))]
  rw[<-e];exact hC
 ·obtain⟨n1,t1,f1,g1⟩:=ki;obtain⟨n2,t2,f2,g2⟩:=kj;rw[g1,g2];rw[f1,f2] at hC;refine kas_lt_str ?_;have e:PL.ltKs [.s n1] [.s n2]=decide (n1.cps.toList<n2.cps.toList):=by
   show(if PL.Ky.s n1=PL.Ky.s n2 then false else RH.ltS n1 n2)=_;by_cases c:n1=n2
   ·subst c;rw[if_pos rfl];exact(RH.ordS.irr n1).symm
   ·rw[if_neg (λz=>c (by cases z;rfl))];rfl
  rw[<-e];exact hC
 ·exact PL.lt_tups ki.1 kj.1 (ki.2.trans kj.2.symm) hC
theorem qfS{A:Around}{s:Shared}{its:List Value}{ks:List (List PL.Ky)}(ok:PL.okShape sh=true)(hl:ks.length=its.length)(bS:its.length<64)(bQ: ∀R:List Value->Shared->Prop,(∀h1 t1,St.Kp s.heap h1->R its { s with heap:=h1,toks:=t1 })->wpAny (model prog w) A.in1 (collect v) R E s)(hk: ∀j,j<its.length->qbX s.heap sh (ks.getD j []) (its.getD j Value.none))(h: ∀h1 D h' tk c (p:Array Nat),St.Kp s.heap h1->h1.objs.size<=D->St.Kp h1 h'->p.toList=srt (λj=>rank PL.ltKs ks (ks.getD j [])) (List.range its.length)->h'.get? D=some (seqObj "list" (List.toArray (p.toList.map λi=>its.getD i Value.none)) c)->Q (.ref D) { s with heap:=h',toks:=tk }):
  wpAny (model prog w) A (call (.builtin "sorted") [v]) Q E s:=by
 have cU: ∀{m:Nat},m<its.length->(ks.map (rank PL.ltKs ks)).getD m 0=rank PL.ltKs ks (ks.getD m []):=λ{m} hm=>by rw[List.getD_eq_getElem?_getD,List.getElem?_map,List.getElem?_eq_getElem (by omega),List.getD_eq_getElem?_getD,List.getElem?_eq_getElem (by omega)];rfl
 have mem: ∀{m:Nat},m<its.length->ks.getD m []∈ks:=λ{m} hm=>by rw[List.getD_eq_getElem?_getD,List.getElem?_eq_getElem (by omega)];exact List.getElem_mem _
 have kv: ∀{h':Heap},St.Kp s.heap h'->∀u∈its,∃k,qbX h' sh k u:=λ{h'} kp u hu=>by obtain⟨m,hm,rfl⟩:=List.mem_iff_getElem.mp hu;have:=(hk m hm).keep kp;rw[List.getD_eq_getElem?_getD (l:=its),List.getElem?_eq_getElem hm] at this;exact⟨_,this⟩
 refine St.sorted_c (bQ _ λh1 t1 kp=> ?_);refine⟨h1,t1,qxv sh,ks.map (rank PL.ltKs ks),rfl,kp,by simp[hl],bS,λs' k2 h2 Q' E' hq=> ?_,λs' k2 i j hi hj C hC=> ?_,λD h' tk c p hD k2 ho dw=> ?_⟩
 ·have gP:St.Kp s.heap s'.heap:=λb o e=>k2 _ _ (kp _ _ e)
  rcases PL.okShape_cases ok with rfl|rfl|⟨x,r,rfl,hr⟩
  ·have hI: ∀l:List Value,(∀v∈l,∃n t,v= .int n t)->∃ns,IntsAre l ns:=λl=>by
    induction l with
    |nil=>exactλ_=>⟨[],.nil⟩
    |cons v l ih=>intro hl;obtain⟨n,t,rfl⟩:=hl v Vk;obtain⟨ns,hn⟩:=ih λu hu=>hl u (Vl _ hu);exact⟨n::ns,.cons n t hn⟩
   obtain⟨ns,fU⟩:=hI its λv hv=>by obtain⟨k,n,t,_,e⟩:=kv gP v hv;exact⟨n,t,e⟩
   rw[ksk_kind (keys:=its.toArray) (by simpa using fU) (by simpa using h2)];exact Vb hq
  ·exact PL.kind_strs its h2 (λv hv=>by obtain⟨k,n,t,_,e⟩:=kv gP v hv;exact⟨n,t,e⟩) hq
  ·have hx:x=0\/x=1:=by rw[List.all_cons,Bool.and_eq_true] at hr;simpa using hr.1
   exact PL.kind_tups its hx h2 (λv hv=>by obtain⟨k,e1,e2⟩:=kv gP v hv;exact⟨k,e1,e2⟩) hq
 ·rw[cU hi,cU hj,rank_lt PL.ordKs (mem hi) (mem hj)] at hC;have ki:=(hk i hi).keep (λb o e=>k2 _ _ (kp _ _ e));have kj:=(hk j hj).keep (λb o e=>k2 _ _ (kp _ _ e));exact qs6 ok ki kj hC
 ·refine h h1 D h' tk c p kp hD k2 ?_ dw;rw[qeZ ho];exact srt_congr _ λb hb=>cU (List.mem_range.mp hb)
end
noncomputable def qrG(Z:Mu)(t:T):Option (List T):=match qcv Z t with
 |some ts=>some ts
 |none=>(match dkv Z t with
  |some kvs=>some (kvs.map λp=>qeg p.1)
  |none=>(duv Z t).map λkvs=>kvs.map λp=>.tup (p.1.map qeg))
noncomputable def qgd(Z:Mu):List T->Option Nv
 |[t]=>(qrG Z t).bind λts=>if ts.length<64/\qbN ts=true then some (.l (qjq ts)) else none
 |_=>none
theorem qdA: ∀ks:List Key,Reps K B (ks.map qeg) (ks.map kV)
 |[]=>.nil
 |k::ks=>.cons (qcY k) (qdA ks)
open Classical in
noncomputable def qaI.abs(B:qaI)(H:Hp)(qs:List Addr):qaI:=⟨λa=>if a∈qs then H a else B a,B.ad⟩
section
open Classical
theorem Hs.abs(h:Hs M Z H B)(ht: ∀q∈qs,∃vs,H q=some (.tup vs)):Hs M Z H (B.abs H qs)/\Go H B H (B.abs H qs):=by
 have le:Le B (B.abs H qs):=⟨λa o e=>by
  show(if a∈qs then H a else B a)=_;split
  ·exact h.bh a o e
  ·exact e,λ_ _ e=>e⟩
 refine⟨⟨λa o e=> ?_,λa ps e=> ?_,h.gm,λk c e n=> ?_,h.ij,h.dm,h.lk,h.ln⟩,⟨le,λ_ _ e _ _=>e,λ_ _ e=>.inl e,λ_ e=>e,λa o e n t1 t2=> ?_⟩⟩
 ·have e:(if a∈qs then H a else B a)=some o:=e;split at e
  ·exact e
  ·exact h.bh a o e
 ·have e:(if a∈qs then H a else B a)=some _:=e;split at e
  ·grind
  ·exact h.bt a ps e
 ·obtain⟨a,o,e1,e2,e3,e4⟩:=h.st k c e n;refine⟨a,o,e1,?_,e3,e4.mono le⟩;show(if a∈qs then H a else B a)=_;rw[if_neg (λm=> ?_)]
  ·exact e2
  ·obtain⟨vs,z⟩:=ht a m;rw[e3] at z;cases z
   rcases e4.mb n with⟨_,e⟩|⟨_,e⟩|⟨_,e⟩|⟨_,_,_,e⟩<;>cases e
 ·show(if a∈qs then H a else B a)=_;rw[if_neg (λm=>by grind)]
end
section
theorem qfl: ∀{us:List T}{ws:List V},us.all (λt=>shN t==0||shN t==1)=true->Reps K B us ws->ws=(us.map kyN).map PL.kyV/\(us.map kyN).map PL.shK=us.map shN
 |[],_,_,r=>⟨r.inv0,rfl⟩
 |u::us,_,h,r=>by
  obtain⟨v,rr,rfl,a,b⟩:=r.inv;rw[List.all_cons,Bool.and_eq_true] at h;obtain⟨e1,e2⟩:=qfl h.2 b;cases u with
  |int i=>rw[qag a,e1];exact⟨rfl,by rw[List.map_cons,List.map_cons,e2];rfl⟩
  |str i=>rw[qaB a,e1];exact⟨rfl,by rw[List.map_cons,List.map_cons,e2];rfl⟩
  |_=>cases h.1
theorem qiw(I:Inv X U O H s)(le:LeH B H)(ok:PL.okShape (qdq t)=true)(r:Rep X.K B t x)(rv:RelV x v):qbX s.heap (qdq t) (qlF t) v:=by
 cases t with
 |int i=>rw[qag r] at rv;obtain⟨t,rfl⟩:=rv;exact⟨i,t,rfl,rfl⟩
 |str i=>rw[qaB r] at rv;obtain⟨t,rfl⟩:=rv;exact⟨i,t,rfl,rfl⟩
 |tup us=>
  obtain⟨p,ws,rfl,hp,rs⟩:=qaw r;cases rv;obtain⟨its,bN,pl2,_⟩:=I.tuple (SqT.of (le _ _ hp));have fl:us.all (λt=>shN t==0||shN t==1)=true:=by
   rcases PL.okShape_cases ok with e|e|⟨x,r,e,ho⟩
   ·cases e
   ·cases e
   ·have e:=(List.cons.inj e).2;rw[<-e,List.all_map] at ho;exact ho
  obtain⟨e1,e2⟩:=qfl fl rs;exact⟨⟨p,its,rfl,pl2,e1▸bN⟩,e2⟩
 |_=>cases ok
theorem qeL(h:qbN ts=true): ∃sh,PL.okShape sh=true/\∀t∈ts,qdq t=sh:=by
 cases ts with
 |nil=>exact⟨[0],rfl,λ_ h=>nomatch h⟩
 |cons t ts=>
  have h:(PL.okShape _&&ts.all _)=true:=h;rw[Bool.and_eq_true] at h;refine⟨_,h.1,λu hu=> ?_⟩
  rcases List.mem_cons.mp hu with rfl|hu
  ·rfl
  simp_all
theorem qds(r:Reps K B ts vs): ∀l:List Nat,(∀j∈l,j<ts.length)->Reps K B (l.map λj=>ts.getD j .non) (l.map λj=>vs.getD j .non)
 |[],_=>.nil
 |j::l,h=>.cons (r.getD j (h j Vk)) (qds r l λi hi=>h i (Vl _ hi))
open PySem.W PyProof.Rows in
theorem qbB{X:Cx}{U:List (Addr×Obj)}{s:Shared}{O:L2.St}{H:Hp}{B:qaI}{u:Value}{Q:VK}{ts:List T}{vs:List V}{its:List Value}(I:Inv X U O H s)(le:LeH B H)(r:Reps X.K B ts vs)(rv:Vals vs its)(bS:ts.length<64)(so:qbN ts=true)(bQ: ∀R:List Value->Shared->Prop,(∀h1 t1,St.Kp s.heap h1->R its { s with heap:=h1,toks:=t1 })->wpAny (model X.prog X.w) X.A.in1 (collect u) R X.xe s)(q: ∀D ys,H D=none->Reps X.K B (qjq ts) ys->Q (.ref D) (upd H D (.lst ys))):wpAny (model X.prog X.w) X.A (call (.builtin "sorted") [u]) (EP X U O Q) X.xe s:=by
 obtain⟨sh,ok,hs⟩:=qeL so;have l1:=rv.length;have l2:=r.length;have kg: ∀j,j<ts.length->(ts.map qlF).getD j []=qlF (ts.getD j .non)/\ts.getD j .non∈ts:=λj hj=>by
  simp_all
 refine qfS (ks:=ts.map qlF) ok (by simp;omega) (by omega) bQ (λj hj=> ?_) λh1 D h' tk c p kp hD k2 ep dw=> ?_
 ·obtain⟨e1,e2⟩:=kg j (by omega);have e3:=hs _ e2;rw[e1,<-e3];exact qiw I le (by rw[e3];exact ok) (r.getD j (by omega)) (qeE rv j)
 ·have I2:Inv X U O H { s with heap:=h1,toks:=s.toks }:=I.kept (t':=s.toks) kp;have fD:H D=none:=I2.hok.fresh hD;have pm: ∀j∈p.toList,j<ts.length:=λj hj=>by rw[ep] at hj;have:=List.mem_range.mp ((mem_srt _).mp hj);omega
  have e:qjq ts=p.toList.map λj=>ts.getD j .non:=by
   unfold qjq PL.sortBy;rw[ep,srt_congr (k':=λj=>rank PL.ltKs (ts.map qlF) (qlF (ts.getD j .non))),srt_map (k:=λt=>rank PL.ltKs (ts.map qlF) (qlF t)) (f:=λj=>ts.getD j .non) (λb=>rfl),show its.length=ts.length by omega,Mir.map_range_getD]
   grind
  have I3:Inv X U O (upd H D (.lst (p.toList.map λj=>vs.getD j .non))) { s with heap:=h',toks:=tk }:=by refine I2.laid k2 hD ⟨?_,_,c,L2.vals_pick rv p.toList,dw⟩;rw[List.length_map,ep,length_srt,List.length_range,sizeLine_eq];omega
  refine⟨.ref D,_,I3,rfl,q D _ fD ?_⟩;rw[e];exact qds r _ pm
theorem qqI(I:Inv X U O H s)(hp:Rd H p (.dK us)): ∃(es:Array DictEntry)(ep:Nat),DH.RawD s.heap p es ep/\(p==sysModules)=false/\es.size<=sizeLine/\Vals (us.map λp=>kV p.1) (es.toList.map (·.key)):=by
 obtain⟨hz,lo,vs,kv,o,es,ep,ho,hx,hd,h4,h5,h6⟩:=qen I.hok hp;have l1:=h5.length;have l2:=kv.length;refine⟨es,ep,⟨o,ho,hx,hd⟩,lo,?_,?_⟩
 ·simp_all
 ·have go: ∀{us } {vs } {es },L2.KV us vs->Pairs (qaq X.prog X.w) es vs->Vals (us.map λp=>kV p.1) (es.map _):=λ{us vs es} kv=>by
   induction kv generalizing es with
   |nil=>intro h;cases h;exact .nil
   |cons c _ ih=>
    intro h;cases h with
    |cons c2 _ h2=>exact .cons (by show RelV (kV _) _;rw[c.1];exact L2.is_kV c2) (ih h2)
  exact go kv h5
open PySem.W PyProof.Rows in
theorem qk6{M:Md}{X:Cx}(hc:X.calm=true)(hK:X.K=M.K):qau X (.builtin "sorted") (rN M qgd):=by
 intro U s O H xs us Q I r ⟨Z,B,ts,n,h,rt,e,k⟩;unfold qgd at e;split at e
 case h_2=>cases e
 rename_i t;obtain⟨v,rfl,a⟩:=qcL rt;obtain⟨u,rfl,ru⟩:=qdT r;obtain⟨its,e1,e2⟩:=bind_some e;split at e2
 case isFalse=>cases e2
 rename_i hs;cases e2;have hh:X.A.in1.handled=none:=I.ok.hd hc;unfold qrG at e1;split at e1
 ·rename_i ts el;cases e1;obtain⟨p,vs,rfl,rv,sq⟩:=qcR h el a;cases ru;obtain⟨its,bN,pl,hz⟩:=I.list (by rw[hK];exact sq);have l1:=bN.length;rw[<-hK] at rv;refine qbB I (B:=B) h.bh rv bN hs.1 hs.2 (λR hR=>collect_list pl.isList (hR _ _ λb o q=>by
   have au:b<s.heap.objs.size:=Vi q;rw[Heap.get?_update_ne _ _ _ _ (Nat.ne_of_lt au),Heap.get?_push_ne _ _ _ (Nat.ne_of_lt au)];exact q) (by omega)) λD ys hD ry=>k B D ys h .refl hD (by rw[<-hK];exact ry)
 ·split at e1
  ·rename_i kvs el;cases e1;obtain⟨p,us,rfl,hp,fL⟩:=qkX h el a;cases ru;obtain⟨es,ep,r1,lo,hz,bN⟩:=qqI I hp;have rv:Reps X.K B (kvs.map λp=>qeg p.1) (us.map λp=>kV p.1):=by
    have go: ∀{kvs:List (Key×T)}{us:List (Key×V)},qbc M.K B kvs us->Reps X.K B (kvs.map λp=>qeg p.1) (us.map λp=>kV p.1):=λ{kvs}=>by
     induction kvs with
     |nil=>intro us r;rw[show us=[] from r];exact .nil
     |cons kv kvs ih=>intro us ⟨v,r,e,_,b⟩;rw[e];exact .cons (qcY kv.1) (ih b)
    exact go fL
   exact qbB I (B:=B) h.bh rv bN hs.1 hs.2 (λR hR=>DH.collectD hh lo r1 hz λh' tk kp=>hR h' tk kp) λD ys hD ry=>k B D ys h .refl hD (by rw[<-hK];exact ry)
  ·obtain⟨kvs,el,rfl⟩:=qar e1;obtain⟨p,us,rfl,hp,fL⟩:=qfr h el a;cases ru;obtain⟨qs,es,ep,r1,lo,hz,hk,h1,h2,h3⟩:=PL.dt_keys I hp;obtain⟨ha,ga⟩:=h.abs (qs:=qs) λq hq=>by obtain⟨j,hj⟩:=List.mem_iff_getElem?.mp hq;obtain⟨k,v,_,z⟩:=h3 j q hj;exact⟨_,z⟩
   have l3:=fL.length;have rv:Reps X.K (B.abs H qs) (kvs.map λp=>.tup (p.1.map qeg)) (qs.map V.ref):=by
    refine .of_get (by simp;omega) λj t' v' z1 z2=> ?_;rw[List.getElem?_map] at z1 z2;cases y:qs[j]? with
    |none=>rw[y] at z2;cases z2
    |some b=>
     rw[y] at z2;cases z2;obtain⟨k,v,y1,y2⟩:=h3 j b y;cases y3:kvs[j]? with
     |none=>rw[y3] at z1;cases z1
     |some kv=>rw[y3] at z1;cases z1;obtain⟨v3,y4,_⟩:=qd6 fL y3;rw[y1] at y4;cases y4;refine qcd (vs:=kv.1.map kV) ?_ (qdA _);show(if b∈qs then H b else _)=_;rw[if_pos (List.mem_of_getElem? y)];exact y2
   have bN:Vals (qs.map V.ref) (es.toList.map (·.key)):=by
    rw[hk];have go: ∀l:List Addr,Vals (l.map V.ref) (l.map Value.ref):=λl=>by
     induction l with
     |nil=>exact .nil
     |cons b l ih=>exact .cons rfl ih
    exact go qs
   exact qbB I (B:=B.abs H qs) ha.bh rv bN hs.1 hs.2 (λR hR=>DH.collectD hh lo r1 (by omega) λh' tk kp=>hR h' tk kp) λD ys hD ry=>k _ D ys ha ga hD (by rw[<-hK];exact ry)
end
end NV
namespace NV
open PySem L2
noncomputable def qfJ(Z:Mu):T->Option (Nat×List T)
 |.obj k=>(match Z.l[k]? with|some (.ls ts)=>some (k,ts)|_=>none)
 |_=>none
noncomputable def qlE(Z:Mu):T->Option (Nat×List (Key×T))
 |.obj k=>(match Z.l[k]? with|some (.dk ts)=>some (k,ts)|_=>none)
 |_=>none
noncomputable def quO(Z:Mu):T->Option (Nat×List (List Key×T))
 |.obj k=>(match Z.l[k]? with|some (.du ts)=>some (k,ts)|some (.dk [])=>some (k,[])|_=>none)
 |_=>none
noncomputable def qmb{κ:Type}[DecidableEq κ](kvs:List (κ×T))(k:κ)(t:T):List (κ×T):=if(kvs.any λkv=>decide (kv.1=k))=true then kvs.map (λkv=>if kv.1=k then(kv.1,t) else kv) else kvs++[(k,t)]
noncomputable def qgg(Z:Mu):List T->Option Nv
 |[o,x]=>(qfJ Z o).bind λq=>if q.2.length<=1000 then some (.p q.1 (.ls (q.2++[x])) .non) else none
 |_=>none
noncomputable def qgf(Z:Mu):List T->Option Nv
 |[o,y]=>(qfJ Z o).bind λq=>(match sqv Z y with
  |some (true,ys)=>if q.2.length<=1000/\ys.length<=1000 then some (.p q.1 (.ls (q.2++ys)) .non) else none
  |_=>none)
 |_=>none
noncomputable def qzv(Z:Mu):List T->Option Nv
 |[o]=>(qfJ Z o).bind λq=>(q.2[q.2.length - 1]?).map λt=>.p q.1 (.ls q.2.dropLast) t
 |_=>none
noncomputable def qor(Z:Mu):List T->Option Nv
 |[d,k]=>(qdH Z d k).map λo=>.v (o.getD .non)
 |[d,k,x]=>(qdH Z d k).map λo=>.v (o.getD x)
 |_=>none
noncomputable def qc4(Z:Mu):List T->Option Nv
 |[d]=>(qlE Z d).map λq=>.p q.1 (.dk []) .non
 |_=>none
noncomputable def rM(M:Md)(g:Mu->List T->Option Nv):V->List V->Hp->VK->Prop:=λx vs H Q=>rN M g (x::vs) H Q
theorem MtR.weak{id:String}(h:MtR X id r)(w: ∀x xs H Q,r' x xs H Q->r x xs H Q):MtR X id r':=λU s O H x xs v us Q I rx rs q=>h _ s O H x xs v us Q I rx rs (w _ _ _ _ q)
section
theorem qf2(h:Hs M Z H B)(e:qfJ Z t=some q)(r:Rep M.K B t v): ∃a vs,v= .ref a/\B.ad q.1=some a/\H a=some (.lst vs)/\Reps M.K B q.2 vs:=by
 unfold qfJ at e;split at e
 ·split at e
  ·rename_i el;cases e;obtain⟨a,rfl,ea⟩:=qax r;obtain⟨o,_,ho,vs,rfl,rv⟩:=h.at el (by simp) ea
   simp_all
  ·cases e
 ·cases e
theorem qjQ(h:Hs M Z H B)(e:qlE Z t=some q)(r:Rep M.K B t v): ∃a vs,v= .ref a/\B.ad q.1=some a/\H a=some (.dK vs)/\qbc M.K B q.2 vs:=by
 unfold qlE at e;split at e
 ·split at e
  ·rename_i el;cases e;obtain⟨a,rfl,ea⟩:=qax r;obtain⟨o,_,ho,vs,rfl,rv⟩:=h.at el (by simp) ea
   simp_all
  ·cases e
 ·cases e
theorem qrO(r:Reps K B [t,u,w] vs): ∃a b c,vs=[a,b,c]/\Rep K B t a/\Rep K B u b/\Rep K B w c:=by obtain⟨v,rr,rfl,a,b⟩:=r.inv;obtain⟨x,y,rfl,c,d⟩:=qeS b;exact⟨v,x,y,rfl,a,c,d⟩
theorem qil:MtR X "list.append" (rM M qgg):=MtR.weak qe5 (by
 rintro x xs H Q ⟨Z,B,ts,n,h,r,e,k⟩;unfold qgg at e;split at e
 ·obtain⟨a,b,eq,ra,rb⟩:=qeS r;cases eq;obtain⟨q,e1,e2⟩:=bind_some e;split at e2
  ·cases e2;obtain⟨p,vs,rfl,ea,hp,rv⟩:=qf2 h e1 ra;have l0:1001<sizeLine:=by decide
   exact⟨p,vs,b,rfl,rfl,hp,by rw[rv.length];omega,k.2 B p _ _ h .refl ea ⟨_,rfl,rv.append (.one rb)⟩ qcf⟩
  ·cases e2
 ·cases e)
theorem qii:MtR X "list.extend" (rM M qgf):=MtR.weak qj0 (by
 rintro x xs H Q ⟨Z,B,ts,n,h,r,e,k⟩;unfold qgf at e;split at e
 ·obtain⟨a,b,eq,ra,rb⟩:=qeS r;cases eq;obtain⟨q,e1,e2⟩:=bind_some e;split at e2
  ·rename_i ys es;split at e2
   ·cases e2;obtain⟨p,vs,rfl,ea,hp,rv⟩:=qf2 h e1 ra;obtain⟨p2,vs2,rfl,bN,cx⟩:=qbw h es rb;have l0:2001<sizeLine:=by decide
    exact⟨p,p2,vs,vs2,rfl,rfl,hp,cx,by rw[rv.length,bN.length];omega,k.2 B p _ _ h .refl ea ⟨_,rfl,rv.append bN⟩ qcf⟩
   ·cases e2
  ·cases e2
 ·cases e)
end
section
variable{K:W.Frag}{B:qaI}{κ:Type}[DecidableEq κ]
theorem qg6(k:κ): ∀{ts:List (κ×T)}{vs:List (κ×V)},qbc K B ts vs->(vs.any λkv=>decide (kv.1=k))=ts.any λkv=>decide (kv.1=k)
 |[],vs,r=>by rw[r];rfl
 |(k',t)::ts,_,⟨v,r,e,_,b⟩=>by rw[e,List.any_cons,List.any_cons,qg6 k b]
theorem qeT(h:Rep K B t v): ∀{ts:List (κ×T)}{vs:List (κ×V)},qbc K B ts vs->qbc K B (ts++[(k,t)]) (vs++[(k,v)])
 |[],vs,r=>by rw[r];exact⟨v,[],rfl,h,rfl⟩
 |(k',t')::ts,_,⟨w,r,e,a,b⟩=>by rw[e];exact⟨w,_,rfl,a,qeT h b⟩
theorem qcN(k:κ)(h:Rep K B t v): ∀{ts:List (κ×T)}{vs:List (κ×V)},qbc K B ts vs->qbc K B (ts.map λkv=>if kv.1=k then(kv.1,t) else kv) (vs.map λkv=>if kv.1=k then(kv.1,v) else kv)
 |[],vs,r=>by rw[r];rfl
 |(k',t')::ts,_,⟨w,r,e,a,b⟩=>by
  rw[e,List.map_cons,List.map_cons];by_cases c:k'=k
  ·rw[if_pos c,if_pos c];exact⟨v,_,rfl,h,qcN k h b⟩
  ·rw[if_neg c,if_neg c];exact⟨w,_,rfl,a,qcN k h b⟩
theorem qcO{k:κ}{t:T}{v:V}{ts:List (κ×T)}{vs:List (κ×V)}(r:qbc K B ts vs)(h:Rep K B t v):qbc K B (qmb ts k t) (qiS vs k v):=by
 unfold qmb qiS;rw[qg6 k r];split
 ·exact qcN k h r
 ·exact qeT h r
end
section
theorem qp4(hu:X.A.units+1<cLine):MtR X "dict.get" (rM M qor):=by
 intro U s O H x vs v us Q I rx rv ⟨Z,B,ts,n,h,r,e,k⟩;unfold qor at e;split at e
 ·obtain⟨a,b,eq,ra,rb⟩:=qeS r;cases eq;obtain⟨o,e1,rfl⟩:=qar e;obtain⟨p,ov,rfl,_,g,h1,h2⟩:=qep h e1 ra rb;cases rx;obtain⟨u,rfl,ru⟩:=qdT rv;refine qt5 hu I g ru λw' s3 I3 aq=>⟨_,H,I3,aq,k B _ h .refl ?_⟩
  cases o with
  |none=>rw[h2 rfl];exact qcf
  |some t=>grind
 ·obtain⟨a,b,c,eq,ra,rb,rc⟩:=qrO r;cases eq;obtain⟨o,e1,rfl⟩:=qar e;obtain⟨p,ov,rfl,_,g,h1,h2⟩:=qep h e1 ra rb;cases rx;obtain⟨u,w,rfl,ru,rw⟩:=qhT rv;refine qoD hu I g ru rw λw' s3 I3 aq=>⟨_,H,I3,aq,k B _ h .refl ?_⟩
  cases o with
  |none=>rw[h2 rfl];exact rc
  |some t=>grind
 ·cases e
theorem qik:MtR X "dict.clear" (rM M qc4):=by
 intro U s O H x vs v us Q I rx rv ⟨Z,B,ts,n,h,r,e,k⟩;unfold qc4 at e;split at e
 ·obtain⟨a,eq,ra⟩:=qcL r;cases eq;obtain⟨q,e1,rfl⟩:=qar e;obtain⟨p,ws,rfl,ea,hp,rw⟩:=qjQ h e1 ra;cases rx;cases rv;exact qqT I hp λs3 I3=>⟨.non,_,I3,rfl,k.2 B p _ _ h .refl ea ⟨[],rfl,rfl⟩ qcf⟩
 ·cases e
noncomputable def qlI(Z:Mu)(o i v:T):Option (Nat×Ct):=match qfJ Z o,i with
 |some q,.int k=>(ixN q.2.length k).map λj=>(q.1,.ls (q.2.set j v))
 |_,_=>(match qlE Z o,qix i with
  |some q,some k=>if q.2.length<=1000 then some (q.1,.dk (qmb q.2 k v)) else none
  |_,_=>(match quO Z o,qog i with
   |some q,some k=>if q.2.length<=1000 then some (q.1,.du (qmb q.2 k v)) else none
   |_,_=>none))
noncomputable def qvv(M:Md):qxk:=λo i v H Q=> ∃Z B to ti tv q,Hs M Z H B/\Rep M.K B to o/\Rep M.K B ti i/\Rep M.K B tv v/\qlI Z to ti tv=some q/\Z.live q.1=true/\∀a ob,B.ad q.1=some a->qeB M.K B q.2 ob->Q (upd H a ob)
theorem qvm{M:Md}{X:Cx}(hu:X.A.units+1<cLine):qxm X (qvv M):=by
 intro U s O H o i v ov iv u Q I ro ri rv ⟨Z,B,to,ti,tv,q,h,r1,r2,r3,e,lv,k⟩;have l0:1001<=sizeLine:=by decide
 unfold qlI at e;split at e
 ·rename_i p kk e1;obtain⟨j,e2,rfl⟩:=qar e;obtain⟨a,vs,rfl,ea,hp,rw⟩:=qf2 h e1 r1;rw[qag r2] at ri;have hl:=rw.length;exact ql1 U s O H _ _ v ov iv u Q I ro ri rv ⟨a,vs,kk,j,rfl,rfl,hp,by rw[hl];exact e2,k a _ ea ⟨_,rfl,rw.set j r3⟩⟩
 ·split at e
  ·rename_i p ky e1 e2;split at e
   ·rename_i hz;cases e;obtain⟨a,vs,rfl,ea,hp,rw⟩:=qjQ h e1 r1;have hl:=rw.length;cases ro;exact qc8 hu I (.inl ⟨vs,ky,hp,qf9 e2 r2,by omega,rfl⟩) ri rv λs' I'=>⟨_,I',k a _ ea ⟨_,rfl,qcO rw r3⟩⟩
   ·cases e
  ·split at e
   ·rename_i p ky e1 e2;split at e
    ·rename_i hz;cases e;obtain⟨b,rfl,hb⟩:=qef h e2 r2;unfold quO at e1;split at e1
     ·rename_i kk;obtain⟨a,rfl,ea⟩:=qax r1;cases ro;split at e1
      ·rename_i el;cases e1;obtain⟨ob,_,ho,us,rfl,ru⟩:=h.at el (by simp) ea;have hl:=ru.length;have hz:_<=1000:=hz;dsimp only at hz;exact qc8 hu I (.inr ⟨us,ky,b,ho,rfl,hb,by rw[hl];omega,rfl⟩) ri rv λs' I'=>⟨_,I',k a _ ea ⟨_,rfl,qcO ru r3⟩⟩
      ·rename_i el;cases e1;obtain⟨ob,_,ho,us,rfl,ru⟩:=h.at el (by simp) ea;have:us=[]:=ru;subst this;have I':=PL.Inv.asT I ho;have aW:upd H a (.dT []) b=some (.tup (ky.map kV)):=by rw[qad (λz=>by rw[z,ho] at hb;cases hb)];exact hb
       refine qc8 hu I' (.inr ⟨[],ky,b,qae,rfl,aW,by show 0<sizeLine;omega,rfl⟩) ri rv λs' I'=>⟨_,I',?_⟩
       rw[qfP];exact k a _ ea ⟨_,rfl,qcO (ts:=[]) (vs:=[]) rfl r3⟩
      ·cases e1
     ·cases e1
    ·cases e
   ·cases e
theorem qsd(gY:qxm X t)(ho:PE X o td)(hi:PE X i ty)(hv:PE X value tv)(hs:swapsWith value (some (.Subscript o i pos')) pos.line X.env=pure false):
  PS X (.Assign [.Subscript o i pos'] value pos) (λD O H=>tv O H λv H1=>td O H1 λx H2=>ty O H2 λy H3=>t x y v H3 λH4=>D.nx O H4):=by intro U s O H D I h;exact wpAny_Assign_Subscript (thn (hv _ s O H _ I h) λr s1 ⟨v,H1,I1,rv,q1⟩=>thn (ho _ s1 O H1 _ I1 q1) λu s2 ⟨x,H2,I2,rx,q2⟩=>thn (hi _ s2 O H2 _ I2 q2) (by rintro iv s3 ⟨y,H3,I3,ry,q3⟩;exact thn (gY _ s3 O H3 x y v u iv r _ I3 rx ry rv q3) λ_ s4 ⟨H4,I4,q4⟩=>⟨O,H4,I4,q4⟩)) hs
noncomputable def qxX(bo di dv:DS0 T):DS0 Out:=dSq dv λv=>dSq bo λo=>dSq di λi ρ Z=>match qlI Z o i v with
 |some q=>if Z.live q.1=true then .ok (.nx ρ) (Z.put q.1 q.2) else .no
 |none=>.no
theorem qtO(hu:X.A.units+1<cLine)(ho:PE X o (tE M E bo))(hi:PE X i (tE M E di))(hv:PE X value (tE M E dv))(hs:swapsWith value (some (.Subscript o i pos')) pos.line X.env=pure false):
  PS X (.Assign [.Subscript o i pos'] value pos) (tS M E (qxX bo di dv)):=PS.weak (qsd (qvm hu) ho hi hv hs) (by
 rintro D O H ⟨ρ,Z,B,ev,w⟩;refine tE.of ev ((Wn.bind w).mono λt aa w1 v H1 B1 h1 l1 r1=> ?_);refine tE.of (ev.on h1 l1.le) ((Wn.bind w1).lift l1 λx af w2 u H2 B2 h2 l2 r2=> ?_);have eM:=l1.trans l2;refine tE.of ((ev.on h1 l1.le).on h2 l2.le) ((Wn.bind w2).lift eM λy aQ w3 z H3 B3 h3 l3 r3=> ?_);have eL:=eM.trans l3;have w3:Wn M E H B (KS M H B D) (match qlI aQ x y t with|some q=>if aQ.live q.1=true then .ok _ _ else .no|none=>.no):=w3;split at w3
 ·rename_i q eq;split at w3
  ·rename_i lv;refine⟨aQ,B3,x,y,t,q,h3,r2.mono l3.le,r3,r1.mono (l2.trans l3).le,eq,lv,λa ob ea hc=> ?_⟩;obtain⟨c0,e0,n0⟩:=Mu.live_at lv;have g:=eL.trans (qws (o:=ob) ea);exact w3 O _ B3 (ev.on (h3.put e0 n0 ea hc) g.le) g
  ·exact w3.elim
 ·exact w3.elim)
theorem qkW:PE X (.Dict [] [] pos) (tN M E λ_ Z=>.ok (.dk []) Z):=PE.weak qmo (by rintro O H Q ⟨ρ,Z,B,ev,w⟩ p hp;exact w p _ H B ev.hs .refl hp ⟨[],rfl,rfl⟩)
end
noncomputable def gOr(g g':Mu->List T->Option Nv):Mu->List T->Option Nv:=λZ ts=>match g Z ts with
 |some n=>some n
 |none=>g' Z ts
theorem qkF(h:gOr g g' Z ts=some n):g Z ts=some n\/g' Z ts=some n:=by
 unfold gOr at h;split at h
 ·grind
 ·exact .inr h
section
theorem qui(h:qau X f (rN M g))(h':qau X f (rN M g')):qau X f (rN M (gOr g g')):=(by rintro U s O H xs us Q I r ⟨Z,B,ts,n,hs,rr,e,k⟩;exact(qkF e).elim (λe=>h _ s O H xs us Q I r ⟨Z,B,ts,n,hs,rr,e,k⟩) λe=>h' _ s O H xs us Q I r ⟨Z,B,ts,n,hs,rr,e,k⟩)
theorem qsV{i:String}(h:MtR X i (rM M g))(h':MtR X i (rM M g')):MtR X i (rM M (gOr g g')):=(by rintro U s O H x xs v us Q I rx r ⟨Z,B,ts,n,hs,rr,e,k⟩;exact(qkF e).elim (λe=>h _ s O H x xs v us Q I rx r ⟨Z,B,ts,n,hs,rr,e,k⟩) λe=>h' _ s O H x xs v us Q I rx r ⟨Z,B,ts,n,hs,rr,e,k⟩)
noncomputable def qkG(Z:Mu):List T->Option Nv
 |[t]=>(duv Z t).map λkvs=>.v (.int kvs.length)
 |_=>none
theorem qqZ:qau X (.builtin "len") (rN M qkG):=by
 intro U s O H xs us Q I r ⟨Z,B,ts,n,h,rr,e,k⟩;unfold qkG at e;split at e
 ·obtain⟨x,rfl,a⟩:=qcL rr;obtain⟨kvs,e1,rfl⟩:=qar e;obtain⟨p,ws,rfl,hp,rw⟩:=qfr h e1 a;obtain⟨v,rfl,rv⟩:=qdT r;cases rv;obtain⟨qs,es,ep,r1,lo,hz,_,e2,_,_⟩:=PL.dt_keys I hp;have hl:=rw.length;exact DH.call_lenR lo r1 (by omega) ⟨.int _,H,I.tok _,⟨_,by rw[e2,hl]⟩,k B _ h .refl qaN⟩
 ·cases e
noncomputable def isN(x:DH.IS):T:=.tup [.int x.1,.str x.2]
noncomputable def qm0(Z:Mu):List T->Option Nv
 |[t]=>(duv Z t).bind λkvs=>if kvs≠[]/\(kvs.all λkv=>PL.isIS kv.1)=true then some (.v (isN ((kvs.map λkv=>PL.isOf kv.1).getD (DH.bestIS (kvs.map λkv=>PL.isOf kv.1)) (0, "")))) else none
 |_=>none
theorem qg5{κ:Type}: ∀{kvs:List (κ×T)}{us:List (κ×V)}{j:Nat}{k:κ}{v:V},qbc K B kvs us->us[j]? =some (k,v)->∃t,kvs[j]? =some (k,t)
 |[],us,_,_,_,r,e=>by rw[r] at e;simp at e
 |(k0,t0)::kvs,_,0,k,v,r,e=>by
  obtain⟨x,r',rfl,a,b⟩:=r
  simp_all
 |(k0,t0)::kvs,_,j+1,k,v,r,e=>by
  obtain⟨x,r',rfl,a,b⟩:=r;obtain⟨t,h⟩:=qg5 b (by simpa using e)
  simp_all
theorem qqX(hc:X.calm=true)(hu:X.A.units+8<cLine):qau X (.builtin "max") (rN M qm0):=by
 intro U s O H xs us Q I r ⟨Z,B,ts,n,h,rr,e,k⟩;unfold qm0 at e;split at e
 ·obtain⟨x,rfl,a⟩:=qcL rr;obtain⟨kvs,e1,e2⟩:=bind_some e;split at e2
  ·rename_i d6;cases e2;obtain⟨p,ws,rfl,hp,rw⟩:=qfr h e1 a;obtain⟨v,rfl,rv⟩:=qdT r;cases rv;obtain⟨qs,es,ep,r1,lo,hz,hk,h1,h2,h3⟩:=PL.dt_keys I hp;have hl:ws.length=kvs.length:=rw.length;have at_: ∀(j:Nat)(q:Addr),qs[j]? =some q->H q=some (.tup [.int ((kvs.map λkv=>PL.isOf kv.1).getD j (0, "")).1,.str ((kvs.map λkv=>PL.isOf kv.1).getD j (0, "")).2]):=λj q e=>by obtain⟨ky,v,f1,f2⟩:=h3 j q e;obtain⟨t,f3⟩:=qg5 rw f1;have:=List.all_eq_true.mp d6.2 _ (Vt f3);rw[PL.isIS_inv this] at f2;rw[List.getD_eq_getElem?_getD,List.getElem?_map,f3];exact f2
   have hh:X.A.in1.handled=none:=I.ok.hd hc;have aN:(kvs.map λkv=>PL.isOf kv.1)≠[]:=λz=>d6.1 (List.map_eq_nil_iff.mp z);have hb:=DH.bestIS_lt aN;rw[List.length_map] at hb;refine DH.call_maxD (xs:=kvs.map λkv=>PL.isOf kv.1) (qs:=qs) hh (by show X.A.units+1<cLine;omega) lo r1 hk (by rw[List.length_map,h2,hl]) aN (λj q e=> ?_) λh' tk kk=> ?_
   ·obtain⟨its,rv,pl,_⟩:=I.tuple (SqT.of (at_ j q e));cases rv with
    |cons a r=>
     obtain⟨t,rfl⟩:=a;cases r with
     |cons a r=>obtain⟨u,rfl⟩:=a;cases r;exact⟨t,u,pl⟩
   ·have e1:qs[DH.bestIS (kvs.map λkv=>PL.isOf kv.1)]? =some (qs.getD (DH.bestIS (kvs.map λkv=>PL.isOf kv.1)) 0):=by rw[List.getD_eq_getElem?_getD,List.getElem?_eq_getElem (by omega)];rfl
    obtain⟨ha,ga⟩:=h.abs (qs:=qs) λq hq=>by obtain⟨j,hj⟩:=List.mem_iff_getElem?.mp hq;exact⟨_,at_ j q hj⟩
    refine⟨.ref _,H,I.kept (t':=tk) kk,rfl,k _ _ ha ga (qcd (B:=B.abs H qs) ?_ (.cons qaN (.cons qce .nil)))⟩;show(open Classical in if _∈qs then H _ else B _)=_;rw[if_pos (List.mem_of_getElem? e1)];exact at_ _ _ e1
  ·cases e2
 ·cases e
noncomputable def qbs(Z:Mu):List T->Option Nv
 |[.obj j]=>(match Z.l[j]? with|some (.du _)=>some (.p j (.dk []) .non)|_=>none)
 |_=>none
theorem qij:MtR X "dict.clear" (rM M qbs):=by
 intro U s O H x vs v us Q I rx rv ⟨Z,B,ts,n,h,r,e,k⟩;unfold qbs at e;split at e
 ·split at e
  ·rename_i kvs el;cases e;obtain⟨x',eq,ra⟩:=qcL r;cases eq;obtain⟨p,rfl,ea⟩:=qax ra;obtain⟨o,_,ho,ws,rfl,rw⟩:=h.at el (by simp) ea;cases rx;cases rv;obtain⟨qs,es,ep,r1,lo,hz,_,e2,_,_⟩:=PL.dt_keys I ho;refine DH.call_clearR r1 (by omega) λh' r' sb=> ?_;have hw: ∃q,h'.get? p=some q:=let ⟨q,hq,_⟩:=r';⟨q,hq⟩
   exact⟨.non,_,qeo I (by rw[ho];exact True.intro) sb hw (PL.clr_obj lo r').1,rfl,k.2 B p _ _ h .refl ea ⟨[],rfl,rfl⟩ qcf⟩
  ·cases e
 ·cases e
noncomputable def qge(Z:Mu):List T->Option Nv
 |[.obj j,y,x]=>(match Z.l[j]?,qog y with|some (.dk []),some _=>some (.p j (.du []) x)|_,_=>none)
 |_=>none
theorem qp3(hu:X.A.units+1<cLine):MtR X "dict.get" (rM M qge):=by
 intro U s O H x vs v us Q I rx rv ⟨Z,B,ts,n,h,r,e,k⟩;unfold qge at e;split at e
 ·split at e
  ·rename_i ky el ek;cases e;obtain⟨a,b,c,eq,ra,rb,rc⟩:=qrO r;cases eq;obtain⟨p,rfl,ea⟩:=qax ra;obtain⟨o,_,ho,ws,rfl,rw⟩:=h.at el (by simp) ea;subst rw;cases rx;obtain⟨u,w,rfl,ru,rw⟩:=qhT rv;obtain⟨q,rfl,hq⟩:=qef h ek rb;have I':=PL.Inv.asT I ho;have g:qhQ (upd H p _) p _ _:=.inr ⟨[],ky,q,.of qae,rfl,by rw[qad (λz=>by grind)];exact hq,rfl⟩;exact qoD hu I' g ru rw λw' s3 I3 aq=>⟨_,_,I3,aq,k.2 B p _ _ h .refl ea ⟨[],rfl,rfl⟩ rc⟩
  ·cases e
 ·cases e
end
noncomputable def kT:Key->T
 |.inl i=>.int i
 |.inr s=>.str s
noncomputable def qvS(p:Key×T):T:=.tup [kT p.1,p.2]
noncomputable def qt6(d:DS0 T):DS0 T:=dSq d λt _ Z=>match dkv Z t with
 |some kvs=>.ok (.lst (kvs.map qvS)) Z
 |none=>.no
noncomputable def qub{α:Type}(d e:DS0 α):DS0 α:=λρ Z=>match d ρ Z with|.no=>e ρ Z|r=>r
noncomputable def qbI:Mu->List T->Option Nv:=λ_ _=>none
inductive Bm where
 |append|extend|insert|pop|clear|reverse|count|index|get|dpop|dclear|setdef
noncomputable def Bm.ty:Bm->String
 |.get|.dpop|.dclear|.setdef=> "dict"
 |_=> "list"
noncomputable def Bm.nm:Bm->Str
 |.append=> "append" | .extend=> "extend" | .insert=> "insert" | .pop=> "pop" | .clear=> "clear" | .reverse=> "reverse" | .count=> "count" | .index=> "index" | .get=> "get" | .dpop=> "pop" | .dclear=> "clear" | .setdef=> "setdefault"
noncomputable def Bm.id:Bm->String
 |.append=> "list.append" | .extend=> "list.extend" | .insert=> "list.insert" | .pop=> "list.pop" | .clear=> "list.clear" | .reverse=> "list.reverse" | .count=> "list.count" | .index=> "list.index" | .get=> "dict.get" | .dpop=> "dict.pop" | .dclear=> "dict.clear" | .setdef=> "dict.setdefault"
noncomputable def Bm.g:Bm->Mu->List T->Option Nv
 |.append=>qgg|.extend=>qgf|.insert=>qbI|.pop=>qbI|.clear=>qbI|.reverse=>qbI|.count=>qbI|.index=>qbI|.get=>gOr qor qge|.dpop=>qbI|.dclear=>gOr qc4 qbs|.setdef=>qbI
noncomputable def Bm.all:List Bm:=[.append,.extend,.insert,.pop,.clear,.reverse,.count,.index,.get,.dpop,.dclear,.setdef]
noncomputable def dkO(Z:Mu):T->Option (List (Key×T))
 |.obj k=>(match Z.l[k]? with|some (.dk kvs)=>some kvs|_=>none)
 |_=>none
noncomputable def qfL(Z:Mu)(t:T):String:=if(qcv Z t).isSome=true then "list" else if(dkO Z t).isSome=true\/(duv Z t).isSome=true then "dict" else ""
noncomputable def dBM(ow:Bool)(b:Bm)(bo:DS0 T)(ds:DS0 (List T)):DS0 T:=dSq bo λo ρ Z=>if qfL Z o=b.ty then(ds ρ Z).bind λts μ'=>nvR ow (b.g μ' (o::ts)) μ' else .no
section
theorem qt3(h:PE X e (tE M E da))(h':PE X e (tE M E db)):PE X e (tE M E (qub da db)):=PE.weak (PE.or h h') (by
 rintro O H Q ⟨ρ,Z,B,ev,w⟩;unfold qub at w;cases q:da ρ Z with
 |no=>rw[q] at w;exact .inr ⟨ρ,Z,B,ev,w⟩
 |ok a m=>rw[q] at w;exact .inl ⟨ρ,Z,B,ev,by rw[q];exact w⟩
 |ex a m=>rw[q] at w;exact .inl ⟨ρ,Z,B,ev,by rw[q];exact w⟩)
theorem qk7:qau X f (rN M qbI):=(by rintro _ _ _ _ _ _ _ _ _ ⟨_,_,_,_,_,_,e,_⟩;exact nomatch e)
theorem qe4{i:String}:MtR X i (rM M qbI):=(by rintro _ _ _ _ _ _ _ _ _ _ _ _ ⟨_,_,_,_,_,_,e,_⟩;exact nomatch e)
theorem qb8(b:Bm):PlainAttrs b.ty/\Slot b.ty b.nm b.id/\typeOf (.builtin b.id)=pure (.type "method_descriptor"):=by
 cases b with
 |append=>exact⟨F.plainAttrs_list,F.slot_list_append,F.type_list_append⟩
 |extend=>exact⟨F.plainAttrs_list,F.slot_list_extend,F.type_list_extend⟩
 |insert=>exact⟨F.plainAttrs_list,F.slot_list_insert,F.type_list_insert⟩
 |pop=>exact⟨F.plainAttrs_list,F.slot_list_pop,F.type_list_pop⟩
 |clear=>exact⟨F.plainAttrs_list,F.slot_list_clear,F.type_list_clear⟩
 |reverse=>exact⟨F.plainAttrs_list,F.slot_list_reverse,F.type_list_reverse⟩
 |count=>exact⟨F.plainAttrs_list,F.slot_list_count,F.type_list_count⟩
 |index=>exact⟨F.plainAttrs_list,F.slot_list_index,F.type_list_index⟩
 |get=>exact⟨F.plainAttrs_dict,F.slot_dict_get,F.type_dict_get⟩
 |dpop=>exact⟨F.plainAttrs_dict,F.slot_dict_pop,F.type_dict_pop⟩
 |dclear=>exact⟨F.plainAttrs_dict,F.slot_dict_clear,F.type_dict_clear⟩
 |setdef=>exact⟨F.plainAttrs_dict,F.slot_dict_setdefault,F.type_dict_setdefault⟩
theorem quu(hu:X.A.units+8<cLine)(hK:X.K=M.K)(b:Bm):MtR X b.id (rM M b.g):=by
 cases b with
 |append=>exact qil
 |extend=>exact qii
 |insert|pop|clear|reverse|count|index=>exact qe4
 |get=>exact qsV (qp4 (by omega)) (qp3 (by omega))
 |dpop=>exact qe4
 |dclear=>exact qsV qik qij
 |setdef=>exact qe4
theorem qp6{M:Md}(h:Hs M Z H B){b:Bm}(e:qfL Z t=b.ty)(r:Rep M.K B t v):tyV M.K b.ty v H:=by
 have nl:b.ty≠ "" :=by cases b<;>decide
 unfold qfL at e;split at e
 ·rename_i hs;obtain⟨ts,hs⟩:=Option.isSome_iff_exists.mp hs;obtain⟨p,vs,rfl,_,sq⟩:=qcR h hs r;exact .inl ⟨e.symm,vs,sq⟩
 ·split at e
  ·rename_i hs
   rcases hs with hs|hs
   ·obtain ⟨p,vs,rfl,hp⟩: ∃p vs,v= .ref p/\H p=some (.dK vs):=by
     unfold dkO at hs;split at hs
     ·split at hs
      ·rename_i el;obtain⟨a,rfl,ea⟩:=qax r;obtain⟨o,_,ho,us,rfl,_⟩:=h.at el (by simp) ea;simp_all
      ·cases hs
     ·cases hs
    exact .inr (.inr (.inl ⟨e.symm,.inl ⟨_,hp⟩⟩))
   ·obtain⟨ts,hs⟩:=Option.isSome_iff_exists.mp hs;obtain⟨p,vs,rfl,hp,_⟩:=qfr h hs r;exact .inr (.inr (.inl ⟨e.symm,.inr ⟨_,hp⟩⟩))
  grind
theorem qlr{M:Md}{X:Cx}(b:Bm)(hK:X.K=M.K)(cq:Cl Q)(h:tE M E (dBM ow b bo ds) O H Q):tBM X.K b.ty (rM M b.g) (tE M E bo) (tA M E ds) O H Q:=by
 obtain⟨ρ,Z,B,ev,w⟩:=h;refine tE.of ev ((Wn.bind w).mono λx aa w1 v H1 B1 h1 g1 r1=> ?_)
 change Wn M E H B _ (if qfL aa x=b.ty then(ds ρ aa).bind _ else .no) at w1
 split at w1
 ·rename_i ht;rw[hK];refine⟨qp6 h1 ht r1,ρ,aa,B1,ev.on h1 g1.le,(Wn.bind w1).lift g1 λts af w2 vs H2 B2 h2 g2 r2=> ?_⟩;obtain⟨c,m,q,w2⟩:=Wn.pl w2 (λc m=>qe1 c m);obtain⟨n,e,kv⟩:=qdk cq q (KE.le w2 (g1.trans g2));exact⟨af,B2,x::ts,n,h2,.cons (r1.mono g2.le) r2,e,kv⟩
 ·exact w1.elim
theorem qwZ(b:Bm)(hu:X.A.units+8<cLine)(hK:X.K=M.K)(ho:PE X o (tE M E bo))(ha:PA X (e::es) (tA M E ds))(aJ:attributeBase o b.nm X.env (eval o X.env)=eval o X.env)(dy:((backTo cpos (starEach (e::es) X.env)).all (λx=> !x.1)&&(backToKw cpos (keywordEach [] X.env)).all (λx=>x.1.isSome)&&decide ((e::es).length+([]:List Keyword).length+(if ([]:List Keyword).isEmpty then 0 else 1)<30))=true)(ax:(apos.endLine==cpos.line)=true)(hs:starEach (e::es) X.env=(false,eval e X.env)::starEach es X.env)(aZ:(backTo cpos (starEach es X.env)).any (·.1)=false):
  PE X (.Call (.Attribute o b.nm apos) (e::es) [] cpos) (tE M E (dBM ow b bo ds)):=
 PE.weakF (qvN (qb8 b).1 (qb8 b).2.1 (qb8 b).2.2 (quu hu hK b) ho ha aJ dy ax hs aZ) λ_ _ _ cq h=>qlr b hK cq h
theorem qt1(b:Bm)(hu:X.A.units+8<cLine)(hK:X.K=M.K)(ho:PE X o (tE M E bo))(aJ:attributeBase o b.nm X.env (eval o X.env)=eval o X.env)(ax:(apos.endLine==cpos.line)=true):
  PE X (.Call (.Attribute o b.nm apos) [] [] cpos) (tE M E (dBM ow b bo qrn)):=
 PE.weakF (qst (qb8 b).1 (qb8 b).2.1 (qb8 b).2.2 (quu hu hK b) ho aJ ax) λO H Q cq h=>by refine(qlr b hK cq h).imp (by rintro v H1 ⟨a,ρ,Z,B,ev,w⟩;exact⟨a,w [] H1 B ev.hs .refl .nil⟩)
inductive Bn where
 |len|all|any|sum|max|min|abs|lst|tup|srt|dct|int
noncomputable def Bn.nm:Bn->Str
 |.len=> "len" | .all=> "all" | .any=> "any" | .sum=> "sum" | .max=> "max" | .min=> "min" | .abs=> "abs" | .lst=> "list" | .tup=> "tuple" | .srt=> "sorted" | .dct=> "dict" | .int=> "int"
noncomputable def Bn.g:Bn->Mu->List T->Option Nv
 |.len=>gOr qrm qkG|.all=>qwH|.any=>qbI|.sum=>qbI|.max=>gOr qtw qm0|.min=>qwE|.abs=>qbI|.lst=>qqq|.tup=>qkB|.srt=>qgd|.dct=>qbI|.int=>qbI
noncomputable def Bn.list:List Bn:=[.len,.all,.any,.sum,.max,.min,.abs,.lst,.tup,.srt,.dct,.int]
theorem qq8(b:Bn)(cq:Cl Q)(h:tE M E (dN ow b.g ds) O H Q):tCB (rN M b.g) (tA M E ds) O H Q:=by obtain⟨ρ,Z,B,ev,w⟩:=h;refine⟨ρ,Z,B,ev,(Wn.bind w).mono λts aa w1 vs H1 B1 h1 g1 r1=> ?_⟩;obtain⟨c,m,q,w1⟩:=Wn.pl w1 (λc m=>qe1 c m);obtain⟨n,e,kv⟩:=qdk cq q (KE.le w1 g1);exact⟨aa,B1,ts,n,h1,r1,e,kv⟩
theorem qnI:bootBuiltins "abs" =some (.builtin "abs"):=by decide+kernel
theorem qlp:bootBuiltins "list" =some (.type "list"):=by decide+kernel
theorem qlq:bootBuiltins "dict" =some (.type "dict"):=by decide+kernel
theorem qnG:bootBuiltins "int" =some (.type "int"):=by decide+kernel
theorem qiL:bootBuiltins "tuple" =some (.type "tuple"):=by decide+kernel
theorem qnH:bootBuiltins "all" =some (.builtin "all"):=by decide+kernel
theorem qnF:bootBuiltins "max" =some (.builtin "max"):=by decide+kernel
theorem qnE:bootBuiltins "min" =some (.builtin "min"):=by decide+kernel
theorem qwY(b:Bn)(hu:X.A.units+8<cLine)(hc:X.calm=true)(hK:X.K=M.K)(hg:Gl X b.nm)(hm:X.mg b.nm=none)(ha:PA X (e::es) (tA M E ds))(he:starEach (e::es) X.env=(false,eval e X.env)::starEach es X.env)(ak:(backTo pos (starEach es X.env)).any (·.1)=false):
  PE X (.Call (.Name b.nm p) (e::es) [] pos) (tE M E (dN ow b.g ds)):=by
 have hn:b.nm≠ "__name__" :=by cases b<;>decide
 have hd:(b.nm==("__debug__" :Str))=false:=by cases b<;>decide
 refine PE.weakF ?_ λ_ _ _ cq h=>qq8 b cq h;cases b with
 |len=>exact qaS (qui (qul hK) qqZ) hg hm PySem.boot_len ha hn hd he ak
 |all=>exact qaS (qum hc hK) hg hm qnH ha hn hd he ak
 |any=>exact qaS qk7 hg hm PL.boot_any' ha hn hd he ak
 |sum=>exact qaS qk7 hg hm PL.boot_sum' ha hn hd he ak
 |max=>exact qaS (qui (quk hc hK) (qqX hc hu)) hg hm qnF ha hn hd he ak
 |min=>exact qaS (quj hc) hg hm qnE ha hn hd he ak
 |abs=>exact qaS qk7 hg hm qnI ha hn hd he ak
 |lst=>exact qbR (qqY hK) hg hm qlp ha hn hd he ak
 |tup=>exact qbR (qnv hK) hg hm qiL ha hn hd he ak
 |srt=>exact qaS (qk6 hc hK) hg hm SetL.boot_sorted ha hn hd he ak
 |dct=>exact qbR qk7 hg hm qlq ha hn hd he ak
 |int=>exact qbR qk7 hg hm qnG ha hn hd he ak
end
end NV
section
set_option maxHeartbeats 1000000
namespace ZP
open PySem Builtin PySem.Spec
section
structure Apt(z TI TO a b:Addr)(f g:List Addr):Prop where
 tiz:TI≠z
 toz:TO≠z
 az:a≠z
 bz:b≠z
 tito:TI≠TO
 tia:TI≠a
 tib:TI≠b
 toa:TO≠a
 tob:TO≠b
 ab:a≠b
 fz:z∉f
 fo:TO∉f
 fb:b∉f
 gz:z∉g
 go:TO∉g
 ga:a∉g
theorem qb6(D:Draws prog w A it fp n P S)(st:S i h)(hc:c∉fp)(x:Heap.ExtBut c h h'):S i h':=
 D.frame i h h' st λq hq o e=>x q o (λz=>hc (z▸hq)) e
theorem qmv{prog:Program}{w:World}{A:Around}{z:Addr}{TI:Addr}{TO:Addr}{a:Addr}{b:Addr}{f:List Addr}{g:List Addr}{n:Nat}{m:Nat}{P:Nat->Value->Prop}{R:Nat->Value->Prop}{S:Nat->Heap->Prop}{am:Nat->Heap->Prop}{s:Shared}(D:Draws prog w A a f n P S)(G:Draws prog w A b g m R am)(p:Apt z TI TO a b f g){k:Nat}(hn:k<n)(hm:k<m){u v:Value}{Q:Value->Shared->Prop}{E:Value->Shared->Prop}(hz:IsZip s.heap z TI TO .none)(ti:IsPair s.heap TI (.ref a) (.ref b))(to:IsPair s.heap TO u v)(sd:S k s.heap)(sg:am k s.heap)(hQ: ∀h' tk x y,P k x->R k y->IsZip h' z TI TO (rawInt s.heap.objs.size)->IsPair h' TO x y->S (k+1) h'->am (k+1) h'->IsPair h' s.heap.objs.size x y->(∀c o,c∉[z,TO,a,b]->s.heap.get? c=some o->h'.get? c=some o)->Q (.ref s.heap.objs.size) { s with heap:=h',toks:=tk }):
  wpAny (model prog w) A (Builtin.«zip.__next__» ⟨[.ref z],[]⟩) (λfin s'=> ∃v,fin= .done (.ret v)/\Q v s') E s:=by
 show wpAny _ _ (field (.ref z) 2>>=_) _ _ _;refine Va (wpAny_field hz rfl (x:=.bool false) rfl ?_);show wpAny _ _ (field (.ref z) 3>>=_) _ _ _;refine Va (wpAny_field hz rfl (x:=.ref TI) rfl (Va (wpAny_seqItems ti rfl ?_)));show wpAny _ _ (SmallTypes.ownedTupleIsFree (.ref z)>>=_) _ _ _;refine Va ?_;unfold SmallTypes.ownedTupleIsFree;refine Va (wpAny_field hz rfl (x:=.none) rfl (Vb ?_));simp only[if_true];refine Va (wpAny_rule (Va (wpAny_field hz rfl (x:=.ref TO) rfl (Va (wpAny_setField_rec hz (by simp) λy1 z1 x1=> ?_)))));have z1:IsZip y1 z TI TO .ellipsis:=z1;refine Va ?_;simp only[List.zipIdx_cons,List.zipIdx_nil,List.forIn_cons,List.forIn_nil];refine Va (Va (wpAny_onRaise ?_));show wpAny _ _ (SmallTypes.nextOf (.ref a)>>=_) _ _ _;refine Va (D.item k _ _ _ hn (qb6 D sd p.fz x1.extBut) λx y2 t2 px iW x2=>Vb ?_);have to2:IsPair y2 TO u v:=x2.extBut _ _ p.toa (x1.extBut _ _ p.toz to);refine Va (wpAny_seqItems to2 rfl (Va (wpAny_updateSeq_pair to2 λy3 to3 x3=> ?_)));have to3:IsPair y3 TO x v:=to3;refine Va (wpAny_letGo (Vb ?_));refine Va (Va (wpAny_onRaise ?_));show wpAny _ _ (SmallTypes.nextOf (.ref b)>>=_) _ _ _;refine Va (G.item k _ _ _ hm (qb6 G (qb6 G (qb6 G sg p.gz x1.extBut) p.ga x2.extBut) p.go x3.extBut) λy y4 t4 py sg4 x4=>Vb ?_);have iT:IsPair y4 TO x v:=x4.extBut _ _ p.tob to3;refine Va (wpAny_seqItems iT rfl (Va (wpAny_updateSeq_pair iT λy5 fF x5=> ?_)));have fF:IsPair y5 TO x y:=fF;refine Va (wpAny_letGo (Vb (Vb ?_)));refine Va (wpAny_seqItems fF rfl (Va (wpAny_newTuple ?_)));have sz:y5.objs.size=s.heap.objs.size:=by rw[x5.1,x4.1,x3.1,x2.1,x1.1]
 have z5:IsZip y5 z TI TO .ellipsis:=x5.extBut _ _ p.toz.symm (x4.extBut _ _ p.bz.symm (x3.extBut _ _ p.toz.symm (x2.extBut _ _ p.az.symm z1)));have sd5:S (k+1) y5:=qb6 D (qb6 D (qb6 D iW p.fo x3.extBut) p.fb x4.extBut) p.fo x5.extBut;have sg5:am (k+1) y5:=qb6 G sg4 p.go x5.extBut;have zl:z<y5.objs.size:=Vi z5;show wpAny _ _ (SmallTypes.ownedTupleHandOut (.ref z) (.ref y5.objs.size)>>=_) _ _ _;refine Va ?_;unfold SmallTypes.ownedTupleHandOut;have z6:IsZip (y5.push { cls:=.type "tuple",data:=.seq #[x,y] }) z TI TO .ellipsis:=Vg _ z5;refine Va (wpAny_setField_rec z6 (by simp) λy7 z7 x7=> ?_);have z7:IsZip y7 z TI TO (rawInt y5.objs.size):=z7;refine wpAny_setField_rec z7 (by simp) λy8 z8 x8=> ?_;have z8:IsZip y8 z TI TO (rawInt y5.objs.size):=z8;have up: ∀c o,c≠z->y5.get? c=some o->y8.get? c=some o:=λc o n e=>x8.extBut _ _ n (x7.extBut _ _ n (Vg _ e));have nw:IsPair y8 y5.objs.size x y:=x8.extBut _ _ (Nat.ne_of_gt zl) (x7.extBut _ _ (Nat.ne_of_gt zl) (Vh _ rfl));rw[sz] at z8 nw;refine Vb ⟨_,rfl,?_⟩;show Q (.ref y5.objs.size) _;rw[sz];refine hQ y8 t4 x y px py z8 (up _ _ p.toz fF) (D.frame _ _ _ sd5 λq hq o e=>up q o (λi=>p.fz (i▸hq)) e) (G.frame _ _ _ sg5 λq hq o e=>up q o (λi=>p.gz (i▸hq)) e) nw λc o hc e=> ?_;have c1:c≠z:=λi=>hc (by simp[i]);have c2:c≠TO:=λi=>hc (by simp[i]);have c3:c≠a:=λi=>hc (by simp[i]);have c4:c≠b:=λi=>hc (by simp[i]);exact up c o c1 (x5.extBut _ _ c2 (x4.extBut _ _ c4 (x3.extBut _ _ c2 (x2.extBut _ _ c3 (x1.extBut _ _ c1 e)))))
theorem qpZ(D:Draws prog w A a f n P S)(G:Draws prog w A b g m R am)(p:Apt z TI TO a b f g)(hz:IsZip s.heap z TI TO .none)(ti:IsPair s.heap TI (.ref a) (.ref b))(to:IsPair s.heap TO u v)(sd:S (min n m) s.heap)(sg:am (min n m) s.heap)(hE: ∀h' tk e,(∀c o,c∉[z,TO,a,b]->s.heap.get? c=some o->h'.get? c=some o)->(∃o,h'.get? e=some o/\o.cls= .type "StopIteration")->E (.ref e) { s with heap:=h',toks:=tk }):wpAny (model prog w) A (Builtin.«zip.__next__» ⟨[.ref z],[]⟩) Q E s:=by
 show wpAny _ _ (field (.ref z) 2>>=_) _ _ _;refine Va (wpAny_field hz rfl (x:=.bool false) rfl ?_);show wpAny _ _ (field (.ref z) 3>>=_) _ _ _;refine Va (wpAny_field hz rfl (x:=.ref TI) rfl (Va (wpAny_seqItems ti rfl ?_)));show wpAny _ _ (SmallTypes.ownedTupleIsFree (.ref z)>>=_) _ _ _;refine Va ?_;unfold SmallTypes.ownedTupleIsFree;refine Va (wpAny_field hz rfl (x:=.none) rfl (Vb ?_));simp only[if_true];refine Va (wpAny_rule (Va (wpAny_field hz rfl (x:=.ref TO) rfl (Va (wpAny_setField_rec hz (by simp) λy1 z1 x1=> ?_)))));have z1:IsZip y1 z TI TO .ellipsis:=z1;refine Va ?_;simp only[List.zipIdx_cons,List.zipIdx_nil,List.forIn_cons,List.forIn_nil];refine Va (Va (wpAny_onRaise ?_));show wpAny _ _ (SmallTypes.nextOf (.ref a)>>=_) _ _ _;have ne: ∀{h:Heap}{e:Addr}{f0:Value},IsZip h z TI TO f0->(∃o,h.get? e=some o/\o.cls= .type "StopIteration")->e≠z:=λ{h e f0} hz ⟨o,ho,hc⟩ q=>by rw[q] at ho;rw[show h.get? z=_ from hz] at ho;cases ho;simp at hc
 by_cases c:n<=m
 ·rw[Nat.min_eq_left c] at sd;refine Va (D.done _ _ _ (qb6 D sd p.fz x1.extBut) λy2 e x2 he=> ?_);have z2:IsZip y2 z TI TO .ellipsis:=x2 _ _ p.az.symm z1;have nz:=ne z2 he;obtain⟨o,ho,hc⟩:=he;refine wpAny_setField_rec z2 (by simp) λy3 _ x3=>hE y3 _ e (λq o hq i=> ?_) ⟨o,x3.extBut _ _ nz ho,hc⟩;have q1:q≠z:=λi=>hq (by simp[i]);have q3:q≠a:=λi=>hq (by simp[i]);exact x3.extBut _ _ q1 (x2 _ _ q3 (x1.extBut _ _ q1 i))
 ·rw[Nat.min_eq_right (Nat.le_of_not_le c)] at sd sg;refine Va (D.item m _ _ _ (by omega) (qb6 D sd p.fz x1.extBut) λx y2 t2 px iW x2=>Vb ?_);have to2:IsPair y2 TO u v:=x2.extBut _ _ p.toa (x1.extBut _ _ p.toz to);refine Va (wpAny_seqItems to2 rfl (Va (wpAny_updateSeq_pair to2 λy3 to3 x3=> ?_)));refine Va (wpAny_letGo (Vb ?_));refine Va (Va (wpAny_onRaise ?_));show wpAny _ _ (SmallTypes.nextOf (.ref b)>>=_) _ _ _;refine Va (G.done _ _ _ (qb6 G (qb6 G (qb6 G sg p.gz x1.extBut) p.ga x2.extBut) p.go x3.extBut) λy4 e x4 he=> ?_);have z4:IsZip y4 z TI TO .ellipsis:=x4 _ _ p.bz.symm (x3.extBut _ _ p.toz.symm (x2.extBut _ _ p.az.symm z1));have nz:=ne z4 he;obtain⟨o,ho,hc⟩:=he;refine wpAny_setField_rec z4 (by simp) λy5 _ x5=>hE y5 _ e (λq o hq i=> ?_) ⟨o,x5.extBut _ _ nz ho,hc⟩;have q1:q≠z:=λi=>hq (by simp[i]);have q2:q≠TO:=λi=>hq (by simp[i]);have q3:q≠a:=λi=>hq (by simp[i]);have q4:q≠b:=λi=>hq (by simp[i]);exact x5.extBut _ _ q1 (x4 _ _ q4 (x3.extBut _ _ q2 (x2.extBut _ _ q3 (x1.extBut _ _ q1 i))))
end
end ZP
end
section
set_option maxHeartbeats 1000000
namespace ZP
open PySem Builtin PySem.Spec L2
noncomputable def Sq(K:W.Frag)(t:Bool)(H:Hp)(l:Addr)(xs:List V):Prop:=match t with|true=>SqL K H l xs|false=>SqT K H l xs
noncomputable def qnO(t:Bool)(h:Heap)(it l:Addr)(k:Nat):Prop:=match t with|true=>h.IsListIter it l k|false=>h.IsTupleIter it l k
noncomputable def qiV(t:Bool)(h:Heap)(l:Addr)(xs:Array Value):Prop:=match t with|true=>h.IsList l xs|false=>h.IsTuple l xs
theorem qnO.at_(x:qnO t h it l k)(e: ∀o,h.get? it=some o->h'.get? it=some o):qnO t h' it l k:=by
 cases t with
 |true=>exact Heap.IsListIter.at x e
 |false=>obtain⟨o,ho,r⟩:=x;exact⟨o,e o ho,r⟩
theorem qnO.obj(x:qnO t h it l k): ∃o,h.get? it=some o/\∀v,o.data≠.cell v:=by
 cases t with
 |true|false=>obtain⟨o,ho,_,d⟩:=x;simp_all
theorem qnc(hh:A.handled=none)(t:Bool)(it l:Addr)(aN:l≠it)(items:Array Value):Draws prog w A it [it,l] items.size (λi v=>items[i]? =some v) (λi h=>qnO t h it l i/\qiV t h l items):=by
 cases t with
 |true=>exact Draws.list hh it l aN _
 |false=>exact TM.draws_tup hh it l aN _
theorem qh2(I:L2.Inv X U O H s)(h:Sq X.K t H l xs): ∃its:List Value,Vals xs its/\qiV t s.heap l its.toArray/\xs.length<=sizeLine:=by
 cases t with
 |true=>obtain⟨its,r,p,z⟩:=I.list h;exact⟨its,r,p.isList,z⟩
 |false=>obtain⟨its,r,p,z⟩:=I.tuple h;exact⟨its,r,p,z⟩
theorem qnX(I:L2.Inv X U O H s)(h:Sq X.K t H l xs)(h':Sq X.K t H l ys):xs=ys:=by
 cases t with
 |true=>exact I.list_inj h h'
 |false=>exact I.tuple_inj h h'
theorem qiV.lt(x:qiV t h l xs):l<h.objs.size:=by
 cases t with
 |true|false=>obtain⟨o,ho,_⟩:=x;exact Vi ho
noncomputable def Itx(K:W.Frag)(t u:Bool)(l m:Addr):It:=
 ⟨λi H=> ∃xs ys,Sq K t H l xs/\Sq K u H m ys/\i<xs.length/\i<ys.length,
   λi H v H'=> ∃T x y,v= .ref T/\H T=none/\H'=upd H T (.tup [x,y])/\(∀xs,Sq K t H l xs->xs[i]? =some x)/\∀ys,Sq K u H m ys->ys[i]? =some y,
   λi H=> ∃xs ys,Sq K t H l xs/\Sq K u H m ys/\i=min xs.length ys.length⟩
noncomputable def ZAt(t u:Bool)(z TI TO a b l m:Addr)(i:Nat)(h:Heap):Prop:=IsZip h z TI TO .none/\IsPair h TI (.ref a) (.ref b)/\(∃x y,IsPair h TO x y)/\qnO t h a l i/\qnO u h b m i
structure Far(z TI TO a b l m:Addr):Prop where
 p:Apt z TI TO a b [a,l] [b,m]
 la:l≠a
 mb:m≠b
theorem qwN{P:Addr->Prop}{z TI TO a b:Addr}(h1:P z)(h2:P TI)(h3:P TO)(h4:P a)(h5:P b): ∀c∈[z,TI,TO,a,b],P c:=λc hc=>by
 have hc:=by simpa using hc
 rcases hc with rfl|rfl|rfl|rfl|rfl<;>assumption
theorem qjc{P:Program}{w:World}{K:W.Frag}{elts:List Expr}{kk:Nat}{pos:Pos}{t u:Bool}{z TI TO a b l m:Addr}(D:Far z TI TO a b l m):qre P w K (.Tuple elts kk pos) (Itx K t u l m) [z,TI,TO,a,b] z (ZAt t u z TI TO a b l m) where
 mem:=by simp
 obj:=λi h ⟨q1,q2,⟨x,y,q3⟩,q4,q5⟩=>qwN ⟨_,q1,λv q=>by have q':Data.fields _=Data.cell v:=q;cases q'⟩ ⟨_,q2,λv q=>by have q':Data.seq _ _=Data.cell v:=q;cases q'⟩ ⟨_,q3,λv q=>by have q':Data.seq _ _=Data.cell v:=q;cases q'⟩ q4.obj q5.obj
 keep:=λi h h' ⟨q1,q2,⟨x,y,q3⟩,q4,q5⟩ k=>⟨k z (by simp) _ q1,k TI (by simp) _ q2,⟨x,y,k TO (by simp) _ q3⟩,q4.at_ λo e=>k a (by simp) o e,q5.at_ λo e=>k b (by simp) o e⟩
 item:=by
  intro X hP hw hK hc i U s O H E I hf ⟨q1,q2,⟨x0,y0,q3⟩,q4,q5⟩ ⟨xs,ys,h1,h2,g1,g2⟩;subst hP hw hK;obtain⟨is,r1,p1,_⟩:=qh2 I h1;obtain⟨js,r2,p2,_⟩:=qh2 I h2;have e1:=r1.length;have e2:=r2.length;have hh:=I.ok.hd hc;have hT:s.TypeIs (.ref z) "zip" :=⟨_,q1,rfl⟩
  unfold pyNext;refine Va (wpAny_attempt (wpAny_callSpecial?_slot (name:=Str.ofString "__next__") hT F.slot_zip_next (wpAny_call_entry F.slot_zip_next hT F.entry_zip_next (qmv (qnc (A:=X.A.in1) hh t a l D.la is.toArray) (qnc (A:=X.A.in1) hh u b m D.mb js.toArray) D.p (k:=i) (by simp;omega) (by simp;omega) q1 q2 q3 ⟨q4,p1⟩ ⟨q5,p2⟩ λh' tk x y px py z' to' s' g' nw kp=>Vb ?_) (F.args_zip_next_1 _))));have lt: ∀{c:Addr}{o:Obj},s.heap.get? c=some o->s.heap.objs.size≠c:=λe=>Nat.ne_of_gt (Vi e);have ti':IsPair h' TI (.ref a) (.ref b):=kp _ _ (by simp[D.p.tiz,D.p.tito,D.p.tia,D.p.tib]) q2;refine⟨_,rfl,wpAny_letOwnedTupleGo_zip z' λbw z2 x2=> ?_⟩;have i8:xs[i]? =some xs[i]:=Vy g1;have i6:ys[i]? =some ys[i]:=Vy g2;obtain⟨w1,jv,rw1⟩:=r1.get i8;obtain⟨w2,ju,rw2⟩:=r2.get i6;have eu1:is[i]? =some x:=by simpa using px
  have eu2:js[i]? =some y:=by simpa using py
  rw[eu1] at jv;cases jv;rw[eu2] at ju;cases ju;obtain⟨oa,ha,_⟩:=q4.obj;obtain⟨ob,hb,_⟩:=q5.obj;have nw2:IsPair bw s.heap.objs.size x y:=x2.extBut _ _ (lt q1) nw;have aO: ∀c∈[z,TO,a,b],qgL X U H c:=λc hc=>hf c (by
   have hc:c=z\/c=TO\/c=a\/c=b:=by simpa using hc
   rcases hc with rfl|rfl|rfl|rfl<;>simp)
  have I1:L2.Inv X U O (upd H s.heap.objs.size (.tup [xs[i],ys[i]])) { s with heap:=bw,toks:=tk }:=
   I.turnT aO (λc o hc e=>x2.extBut _ _ (λq=>hc (by simp[q])) (kp c o hc e)) (Vm _) ⟨by show 2<=sizeLine;decide,[x,y],.cons rw1 (.cons rw2 .nil),_,nw2,rfl,_,rfl⟩
  refine⟨.ref s.heap.objs.size,_,I1,rfl,⟨_,_,_,rfl,I.hok.fresh (Vm _),rfl,λxs' bZ=>by rw[qnX I bZ h1];exact i8,λiR hy'=>by rw[qnX I hy' h2];exact i6⟩,⟨z2,x2.extBut _ _ D.p.tiz ti',⟨x,y,x2.extBut _ _ D.p.toz to'⟩,s'.1.at_ λo e=>x2.extBut _ _ D.p.az e,g'.1.at_ λo e=>x2.extBut _ _ D.p.bz e⟩,λc hc=> ?_⟩;rw[qad (qwN (P:=λc=>c≠s.heap.objs.size) (lt q1).symm (lt q2).symm (lt q3).symm (lt ha).symm (lt hb).symm c hc)];exact(hf c hc).1
 done:=by
  intro X hP hw hK hc i U s O H E I hf ⟨q1,q2,⟨x0,y0,q3⟩,q4,q5⟩ ⟨xs,ys,h1,h2,g1⟩;subst hP hw hK;obtain⟨is,r1,p1,_⟩:=qh2 I h1;obtain⟨js,r2,p2,_⟩:=qh2 I h2;have e1:=r1.length;have e2:=r2.length;have hh:=I.ok.hd hc;have hT:s.TypeIs (.ref z) "zip" :=⟨_,q1,rfl⟩
  have en:i=min is.toArray.size js.toArray.size:=by simp;omega
  subst en;have aO: ∀c∈[z,TO,a,b],qgL X U H c:=λc hc=>hf c (by
   have hc:c=z\/c=TO\/c=a\/c=b:=by simpa using hc
   rcases hc with rfl|rfl|rfl|rfl<;>simp)
  unfold pyNext;refine Va (wpAny_attempt (wpAny_callSpecial?_slot (name:=Str.ofString "__next__") hT F.slot_zip_next (wpAny_call_entry F.slot_zip_next hT F.entry_zip_next (qpZ (qnc (A:=X.A.in1) hh t a l D.la is.toArray) (qnc (A:=X.A.in1) hh u b m D.mb js.toArray) D.p q1 q2 q3 ⟨q4,p1⟩ ⟨q5,p2⟩ λh' tk e kp he=> ?_) (F.args_zip_next_1 _))));obtain⟨o,ho,cK⟩:=he;exact Va (wpAny_isInstance (T:= "StopIteration") (b:=true) ⟨o,ho,cK⟩ isSubtype_stop (Vb ⟨rfl,I.turnL aO kp⟩))
 self:=λA i s Q E st h=>wpAny_pyIter_zip st.1 h
end ZP
end
section
set_option maxHeartbeats 1000000
namespace ZP
open PySem Builtin PySem.Spec L2
noncomputable def nmI:Bool->String
 |true=> "list_iterator"
 |false=> "tuple_iterator"
abbrev obI(t:Bool)(l:Addr):Obj:={ cls:=.type (nmI t),data:=.fields #[.ref l,.int 0 0] }
abbrev g1(h:Heap)(t:Bool)(l:Addr):Heap:=h.push (obI t l)
abbrev g2(h:Heap)(t u:Bool)(l m:Addr):Heap:=(g1 h t l).push (obI u m)
abbrev g3(h:Heap)(t u:Bool)(l m:Addr):Heap:=(g2 h t u l m).push { cls:=.type "tuple",data:=.seq #[.ref h.objs.size,.ref (g1 h t l).objs.size] }
abbrev g4(h:Heap)(t u:Bool)(l m:Addr):Heap:=(g3 h t u l m).push { cls:=.type "tuple",data:=.seq #[.none,.none] }
abbrev g5(h:Heap)(t u:Bool)(l m:Addr):Heap:=(g4 h t u l m).push { cls:=.type "zip",data:=.fields #[.none,.bool false,.bool false,.ref (g2 h t u l m).objs.size,.ref (g3 h t u l m).objs.size] }
theorem qiV.psh(x:qiV t h l xs)(o:Obj):qiV t (h.push o) l xs:=by
 cases t with
 |true=>exact Heap.IsList.push x o
 |false=>obtain⟨q,hq,r⟩:=x;exact⟨q,Vg _ hq,r⟩
theorem made(t u:Bool)(l m:Addr)(xs ys:Array Value):Meets (Builtin.«zip.__new__» ⟨[.type "zip",.ref l,.ref m],[]⟩) (λ_ R s=>qiV t s.heap l xs/\qiV u s.heap m ys/\R (.ok (.ret (.ref (g4 s.heap t u l m).objs.size))) { s with heap:=g5 s.heap t u l m }):=
 .of_wp λprog w A R s h=>by
  obtain⟨hp,gg,d,tk,os⟩:=s;obtain⟨a1,a2,h⟩:=h;have hsub:=sub_zip;have a3:qiV u (hp.push (obI t l)) m ys:=a2.psh _;cases t with
  |true=>
   have b1:Heap.IsList (Shared.heap ⟨hp,gg,d,tk,os⟩) l xs:=a1;cases u with
   |true=>
    have b2:Heap.IsList (Shared.heap ⟨hp.push { cls:=.type "list_iterator",data:=.fields #[.ref l,.int 0 0] },gg,d,tk,os⟩) m ys:=a3
    wp_walk using Vf b1,Vf b2
    exact⟨_,rfl,h⟩
   |false=>
    have b2:Heap.IsTuple (Shared.heap ⟨hp.push { cls:=.type "list_iterator",data:=.fields #[.ref l,.int 0 0] },gg,d,tk,os⟩) m ys:=a3
    wp_walk using Vf b1,wpAny_pyIter_tuple b2
    exact⟨_,rfl,h⟩
  |false=>
   have b1:Heap.IsTuple (Shared.heap ⟨hp,gg,d,tk,os⟩) l xs:=a1;cases u with
   |true=>
    have b2:Heap.IsList (Shared.heap ⟨hp.push { cls:=.type "tuple_iterator",data:=.fields #[.ref l,.int 0 0] },gg,d,tk,os⟩) m ys:=a3
    wp_walk using wpAny_pyIter_tuple b1,Vf b2
    exact⟨_,rfl,h⟩
   |false=>
    have b2:Heap.IsTuple (Shared.heap ⟨hp.push { cls:=.type "tuple_iterator",data:=.fields #[.ref l,.int 0 0] },gg,d,tk,os⟩) m ys:=a3
    wp_walk using wpAny_pyIter_tuple b1,wpAny_pyIter_tuple b2
    exact⟨_,rfl,h⟩
section
theorem qhw(e:h.get? a=some (obI t l)):qnO t h a l 0:=by
 cases t with
 |true|false=>exact⟨_,e,rfl,rfl⟩
theorem qll(a1:qiV t s.heap l xs)(a2:qiV u s.heap m ys)(h: ∀h',ZAt t u (s.heap.objs.size+4) (s.heap.objs.size+2) (s.heap.objs.size+3) s.heap.objs.size (s.heap.objs.size+1) l m 0 h'->(∀c o,s.heap.get? c=some o->h'.get? c=some o)->Q (.ref (s.heap.objs.size+4)) { s with heap:=h' }):wpAny (model prog w) A (call (.type "zip") [.ref l,.ref m]) Q E s:=by
 refine callType_new F.called_zip (by decide) (F.typeCall_zip_2 _ _) (F.newCall_zip_2 _ _) (λobj=>F.args_object_init_3 obj _ _) F.entry_zip_new (made t u l m xs ys) ⟨a1,a2,?_⟩;have z1:(g1 s.heap t l).objs.size=s.heap.objs.size+1:=Heap.size_push ..;have z2:(g2 s.heap t u l m).objs.size=s.heap.objs.size+2:=by rw[Heap.size_push,z1]
 have z3:(g3 s.heap t u l m).objs.size=s.heap.objs.size+3:=by rw[Heap.size_push,z2]
 have z4:(g4 s.heap t u l m).objs.size=s.heap.objs.size+4:=by rw[Heap.size_push,z3]
 have up: ∀{h:Heap}{c:Addr}{o q:Obj},h.get? c=some o->(h.push q).get? c=some o:=λe=>Vg _ e;have e5:(g5 s.heap t u l m).get? (g4 s.heap t u l m).objs.size=some _:=Vh _ rfl;have e4:(g5 s.heap t u l m).get? (g3 s.heap t u l m).objs.size=some _:=up (Vh _ rfl);have e3:(g5 s.heap t u l m).get? (g2 s.heap t u l m).objs.size=some _:=up (up (Vh _ rfl));have e2:(g5 s.heap t u l m).get? (g1 s.heap t l).objs.size=some (obI u m):=up (up (up (Vh _ rfl)));have e1:(g5 s.heap t u l m).get? s.heap.objs.size=some (obI t l):=up (up (up (up (Vh _ rfl))));show _/\_;rw[z2,z3,z4] at e5;rw[z1,z2] at e3;rw[z3] at e4;rw[z1] at e2;rw[z4];exact⟨⟨_,e5,rfl⟩,h _ ⟨e5,e3,⟨_,_,e4⟩,qhw e1,qhw e2⟩ λc o x=>up (up (up (up (up x))))⟩
end
theorem far(hl:l<n)(hm:m<n):Far (n+4) (n+2) (n+3) n (n+1) l m:=by
 have e: ∀{i j },i≠j->(n+i)≠n+j:=λ{i j} h q=>h (Nat.add_left_cancel q);have ol: ∀i,(n+i)≠l:=λi q=>Nat.not_le_of_lt hl (by rw[<-q];simp);have om: ∀i,(n+i)≠m:=λi q=>Nat.not_le_of_lt hm (by rw[<-q];simp);have nn: ∀{c x y:Addr},c≠x->c≠y->c∉[x,y]:=λh h' q=>by grind
 exact⟨⟨e (by decide),e (by decide),e (i:=0) (by decide),e (by decide),e (by decide),e (j:=0) (by decide),e (by decide),e (j:=0) (by decide),e (by decide),e (i:=0) (by decide),
  nn (e (j:=0) (by decide)) (ol 4),nn (e (j:=0) (by decide)) (ol 3),nn (e (j:=0) (by decide)) (ol 1),nn (e (by decide)) (om 4),nn (e (by decide)) (om 3),nn (e (i:=0) (by decide)) (om 0)⟩,(ol 0).symm,(om 1).symm⟩
theorem pi_zipX(hg:Gl X "zip")(hm:X.mg "zip" =none)(ha:PA X [a,b] ta)(hs:starEach [a,b] X.env=(false,eval a X.env)::starEach [b] X.env)(ak:(backTo pos (starEach [b] X.env)).any (·.1)=false):
  PI X (.Tuple elts kk tpos) (.Call (.Name "zip" p) [a,b] [] pos) (λO H R=>ta O H λvs H1=> ∃t u l1 l2 xs ys,vs=[.ref l1,.ref l2]/\Sq X.K t H1 l1 xs/\Sq X.K u H1 l2 ys/\(xs.length<=sizeLine->ys.length<=sizeLine->R (Itx X.K t u l1 l2) H1)):=by intro U s O H R I h;refine Ve (qcV I hg hm PyProof.Rows.boot_zip ?_);refine PyProof.Rows.callWith_type1 (thn (ha pos U s O H _ I h) λus s1 hq=> ?_) hs ak;obtain⟨vs,H1,I1,r1,t,u,l1,l2,xs,ys,e,h1,h2,q⟩:=hq;subst e;obtain⟨u1,u2,rfl,ru1,ru2⟩:=qhT r1;cases ru1;cases ru2;obtain⟨is,_,p1,z1⟩:=qh2 I1 h1;obtain⟨js,_,p2,z2⟩:=qh2 I1 h2;refine qll p1 p2 λh' za kp=>wpAny_pyIter_zip za.1 ?_;refine⟨_,_,_,Itx X.K t u l1 l2,H1,rfl,I1.kept (t':=s1.toks) kp,qjc (far p1.lt p2.lt),za,λc hc=> ?_,q z1 z2⟩;have hle:s1.heap.objs.size<=c:=qwN (Nat.le_add_right _ _) (Nat.le_add_right _ _) (Nat.le_add_right _ _) (Vm _) (Nat.le_add_right _ _) c hc;exact I1.fpOk hle (I1.hok.fresh hle)
end ZP
end
namespace NV
open PySem L2 SR SetL
noncomputable def tyN(Z:Mu):T->Option String
 |.non=>some "NoneType" | .bl _=>some "bool" | .int _=>some "int" | .str _=>some "str" | .tup _=>some "tuple" | .lst _=>some "list"
 |.obj k=>(match Z.l[k]? with|some (.ls _)=>some "list" | some (.dk _)=>some "dict" | some (.du _)=>some "dict" | _=>none)
 |_=>none
noncomputable def qlH(N m:String):Bool:=m==N||(N== "int" &&m== "bool")
noncomputable def qc3(N:String)(t:T)(Z:Mu):R T:=match tyN Z t with
 |some m=>.ok (.bl (qlH N m)) Z
 |none=>.no
noncomputable def qt7(N:String)(da:DS0 T):DS0 T:=dU (qc3 N) da
theorem qs3(K:W.Frag){N m:String}(hN:N∈["int", "bool", "str", "tuple", "list"])(hm:m∈["NoneType", "bool", "int", "str", "tuple", "list", "dict"]):W.kitOne K (.type m) (.type N)=some (qlH N m):=by
 simp only[List.mem_cons,List.not_mem_nil,or_false] at hN hm
 rcases hN with rfl|rfl|rfl|rfl|rfl<;>rcases hm with rfl|rfl|rfl|rfl|rfl|rfl|rfl<;>rfl
section
theorem qrv(h:Hs M Z H B){m:String}(e:tyN Z t=some m)(r:Rep M.K B t v):qgK M.K H v (.type m)/\m∈["NoneType", "bool", "int", "str", "tuple", "list", "dict"]:=by
 unfold tyN at e;split at e
 ·cases e;rw[qcM r];exact⟨.non,by simp⟩
 ·cases e;rw[qbx r];exact⟨.bl _,by simp⟩
 ·cases e;rw[qag r];exact⟨.int _,by simp⟩
 ·cases e;rw[qaB r];exact⟨.str _,by simp⟩
 ·cases e;obtain⟨p,vs,rfl,hp,_⟩:=qaw r;exact⟨.tup (h.bh _ _ hp),by simp⟩
 ·cases e;obtain⟨p,vs,rfl,hp,_⟩:=qaC r;exact⟨.lst (h.bh _ _ hp),by simp⟩
 ·obtain⟨p,rfl,ea⟩:=qax r;split at e
  ·rename_i el;cases e;obtain⟨o,_,ho,vs,rfl,_⟩:=h.at el (by simp) ea;exact⟨.lst ho,by simp⟩
  ·rename_i el;cases e;obtain⟨o,_,ho,vs,rfl,_⟩:=h.at el (by simp) ea;exact⟨.dK ho,by simp⟩
  ·rename_i el;cases e;obtain⟨o,_,ho,vs,rfl,_⟩:=h.at el (by simp) ea;exact⟨.dT ho,by simp⟩
  ·cases e
 ·cases e
theorem qqO{N:String}{x:Str}(hN:N∈["int", "bool", "str", "tuple", "list"])(hx:x=Str.ofString N)(hK:X.K=M.K)(hg:Gl X "isinstance")(hm:X.mg "isinstance" =none)(hg2:Gl X x)(hZ:X.mg x=none)(he:PE X e (tE M E da))(hs:starEach [e,.Name x p2] X.env=(false,eval e X.env)::starEach [.Name x p2] X.env)(c7:starEach [.Name x p2] X.env=(false,eval (.Name x p2) X.env)::starEach [] X.env)(ak:(backTo pos (starEach [.Name x p2] X.env)).any (·.1)=false):
  PE X (.Call (.Name "isinstance" p) [e,.Name x p2] [] pos) (tE M E (qt7 N da)):=by
 have bt:bootBuiltins x=some (.type N)/\x≠ "__name__" /\(x==("__debug__" :Str))=false:=by
  subst hx;simp only[List.mem_cons,List.not_mem_nil,or_false] at hN
  rcases hN with rfl|rfl|rfl|rfl|rfl<;>exact⟨by decide+kernel,by decide,by decide⟩
 refine PE.weak (qaS (r:=λxs H Q=> ∃x t T b,xs=[x,.ty T]/\qgK X.K H x t/\W.kitOne X.K t (.type T)=some b/\Q (.bl b) H) qgG hg hm (by decide+kernel) (qcQ he (qcQ (qpL (v:=.ty N) hg2 hZ bt.1 rfl bt.2.1 bt.2.2) qhg c7) hs) (by decide) (by decide) hs ak) ?_;rintro O H Q ⟨ρ,Z,B,ev,w⟩;refine tE.of ev ((Wn.bind w).mono λt aa w1 v H1 B1 h1 g1 r1=> ?_);have w1:Wn M E H B (KE M H B Q) (qc3 N t aa):=w1;unfold qc3 at w1;split at w1
 ·rename_i m em;obtain⟨ty,hm⟩:=qrv h1 em r1;rw[hK];exact⟨v,_,N,_,rfl,ty,qs3 M.K hN hm,w1 _ H1 B1 h1 g1 qa2⟩
 ·exact w1.elim
noncomputable def qkD(Z:Mu):T->Option Nv:=λt=>(qcv Z t).bind λts=>if ts.length<64 then(match qbA ts with
 |some ss=>some (.l ((sortA RH.ltS (dd ss)).map T.str))
 |none=>(qde ts).map λss=>.l ((sortA (λa b=>decide (a<b)) (dd ss)).map T.int)) else none
noncomputable def qkC(Z:Mu):T->Option Nv:=λt=>(qcv Z t).bind λts=>if ts.length<64 then(match qbA ts with
 |some ss=>some (.v (.int (dd ss).length))
 |none=>(qde ts).map λss=>.v (.int (dd ss).length)) else none
noncomputable def dNu(ow:Bool)(g:Mu->T->Option Nv)(da:DS0 T):DS0 T:=dU (λt Z=>nvR ow (g Z t) Z) da
theorem qeR: ∀ss:List Str,Reps K B (ss.map T.str) (ss.map V.str)
 |[]=>.nil
 |_::ns=>.cons qce (qeR ns)
theorem qqK(hc:X.calm=true)(hK:X.K=M.K)(gs:Gl X "sorted")(ms:X.mg "sorted" =none)(gt:Gl X "set")(mt:X.mg "set" =none)(ha:PE X a (tE M E da))(he:starEach [a] X.env=(false,eval a X.env)::starEach [] X.env):
  PE X (.Call (.Name "sorted" p1) [.Call (.Name "set" p2) [a] [] p3] [] pos) (tE M E (dNu ow qkD da)):=by
 have mn: ∀O H (Q Q':VK),(∀v H1,Q v H1->Q' v H1)->tE M E da O H Q->tE M E da O H Q':=λO H Q Q' f h=>h.imp f;refine PE.weakF (PE.or (qbQ (qvh X.prog X.w) hc gs ms gt mt ha mn he) (qbQ (qwp X.prog X.w) hc gs ms gt mt ha mn he)) λO H Q cq z0=> ?_;obtain ⟨ρ,Z,B,ev,w⟩:=z0;have w:Wn M E H B (KE M H B Q) ((da ρ Z).bind λt μ'=>nvR ow (qkD μ' t) μ'):=w;cases q:da ρ Z with
 |no=>rw[q] at w;exact w.elim
 |ex c m=>rw[q] at w;exact .inl ⟨ρ,Z,B,ev,by rw[q];exact w⟩
 |ok t m=>
  rw[q] at w;have w:Wn M E H B (KE M H B Q) (nvR ow (qkD m t) m):=w;obtain⟨c,m',e,w⟩:=Wn.pl w (λc m=>qe1 c m);obtain⟨n,e,kv⟩:=qdk cq e w;obtain⟨ts,e1,e2⟩:=bind_some e;split at e2
  case isFalse=>cases e2
  rename_i hl;cases es:qbA ts with
  |some ss=>rw[es] at e2;cases e2;refine .inl ⟨ρ,Z,B,ev,?_⟩;rw[q];intro v H1 B1 h1 g1 r1;obtain⟨n,e,kv⟩:=qdk (M:=M) (H:=H1) (B:=B1) (Q:=Q) (ow:=ow) (Z:=m) (o:=qkD m t) cq (by assumption) (KE.le w g1);rw[show qkD m t=some (.l ((sortA RH.ltS (dd ss)).map T.str)) by assumption] at e;cases e;obtain⟨p,vs,rfl,rv,sq⟩:=qcR h1 e1 r1;have hv:=qdP es rv;have l1:=rv.length;rw[hv] at sq l1;rw[List.length_map] at l1;exact⟨p,ss,rfl,by rw[hK];exact sq,by omega,λD hD=>kv B1 D _ h1 .refl hD (qeR _)⟩
  |none=>rw[es] at e2;obtain⟨ss,e3,rfl⟩:=qar e2;refine .inr ⟨ρ,Z,B,ev,?_⟩;rw[q];intro v H1 B1 h1 g1 r1;obtain⟨n,e,kv⟩:=qdk (M:=M) (H:=H1) (B:=B1) (Q:=Q) (ow:=ow) (Z:=m) (o:=qkD m t) cq (by assumption) (KE.le w g1);rw[show qkD m t=some (.l ((sortA (λa b=>decide (a<b)) (dd ss)).map T.int)) by assumption] at e;cases e;obtain⟨p,vs,rfl,rv,sq⟩:=qcR h1 e1 r1;have hv:=qdQ e3 rv;have l1:=rv.length;rw[hv] at sq l1;rw[List.length_map] at l1;exact⟨p,ss,rfl,by rw[hK];exact sq,by omega,λD hD=>kv B1 D _ h1 .refl hD (qd4 _)⟩
end
noncomputable def qiY(xs ys:List T):List T:=(xs.zip ys).map λp=>.tup [p.1,p.2]
def sq2:T->Option (Bool×List T)
 |.lst xs=>some (true,xs)
 |.tup xs=>some (false,xs)
 |_=>none
noncomputable def sqO(t:Bool)(vs:List V):HO:=match t with|true=>.lst vs|false=>.tup vs
theorem qnY(e:sq2 a=some (t,xs))(r:Rep K B a v): ∃p us,v= .ref p/\B p=some (sqO t us)/\Reps K B xs us:=by
 cases a with
 |lst _=>cases e;exact qaC r
 |tup _=>cases e;exact qaw r
 |_=>cases e
noncomputable def qfN:List T->Mu->R Ito
 |[a,b],Z=>(match sq2 a,sq2 b with|some p,some q=>.ok (.fx (qiY p.2 q.2)) Z|_,_=>.no)
 |_,_=>.no
section
theorem qtR(hg:Gl X "zip")(hm:X.mg "zip" =none)(ha:PA X [a,b] (tA M E ds))(hK:X.K=M.K)(hs:starEach [a,b] X.env=(false,eval a X.env)::starEach [b] X.env)(ak:(backTo pos (starEach [b] X.env)).any (·.1)=false):
  PI X (.Tuple elts kk tpos) (.Call (.Name "zip" p) [a,b] [] pos) (tI M E (dIA qfN ds)):=by
 refine PI.weak (ZP.pi_zipX hg hm ha hs ak) λO H R ⟨ρ,Z,B,ev,w⟩=>⟨ρ,Z,B,ev,(Wn.bind w).mono λts m w1 vs H1 B1 h1 g1 r1=> ?_⟩
 change Wn M E H B (KI M H B R) (qfN ts m) at w1
 unfold qfN at w1;split at w1
 ·rename_i x0 y0;split at w1
  case h_2=>exact w1.elim
  rename_i p q ea eb;obtain⟨t,xs⟩:=p;obtain⟨u,ys⟩:=q;obtain⟨v,v',rfl,a1,a2⟩:=qeS r1;obtain⟨p1,us,rfl,eY,ra⟩:=qnY ea a1;obtain⟨p2,ws,rfl,cx,rb⟩:=qnY eb a2;have sq: ∀{H':Hp}{B':qaI}{t:Bool}{p:Addr}{us:List V},(∀a o,B' a=some o->H' a=some o)->B' p=some (sqO t us)->ZP.Sq M.K t H' p us:=λ{H' B' t p us} le e=>by
   cases t with
   |true=>exact SqL.of (le _ _ e)
   |false=>exact SqT.of (le _ _ e)
  have l1:=ra.length;have l2:=rb.length;have lz:(qiY xs ys).length=min us.length ws.length:=by unfold qiY;rw[List.length_map,List.length_zip,l1,l2]
  rw[hK];refine⟨t,u,p1,p2,us,ws,rfl,sq h1.bh eY,sq h1.bh cx,λz1 z2=> ?_⟩;refine w1 _ H1 B1 h1 g1 (by show(qiY xs ys).length<=_;omega) λμ' H' B' h' le i=>⟨λt et=> ?_,λhl hi=> ?_⟩
  ·have q1:=sq h'.bh (le.h _ _ eY);have q2:=sq h'.bh (le.h _ _ cx);have et:=Option.some.inj et;unfold qiY at et;rw[List.getElem?_map] at et;cases q:(xs.zip ys)[i]? with
   |none=>rw[q] at et;cases et
   |some c=>rw[q] at et;cases et;have hi:=(List.getElem?_eq_some_iff.mp q).1;rw[List.length_zip] at hi;obtain⟨c1,c2⟩:=c;obtain⟨qa,qb⟩:=List.getElem?_zip_eq_some.mp q;obtain⟨u,eu,ru⟩:=ra.get qa;obtain⟨w',ew,aq⟩:=rb.get qb;refine⟨⟨us,ws,q1,q2,by omega,by omega⟩,λy bA ⟨T',x,y',e1,e2,e3,e4,e5⟩=> ?_⟩;have z1:=e4 us q1;have z2:=e5 ws q2;rw[eu] at z1;cases z1;rw[ew] at z2;cases z2;subst e1 e3;have i3:=le.trans (h'.upd_le (o:=.tup [u,w']) (h'.fr e2));exact⟨_,h'.new e2 (λps z=>by cases z),h'.gnew e2,qcd qae (.cons (ru.mono i3) (.cons (aq.mono i3) .nil))⟩
  ·have hi:=List.getElem?_eq_none_iff.mp (Option.some.inj hi);have hl:=hl _ rfl;have hi:(qiY xs ys).length<=i:=hi;have hl:i<=(qiY xs ys).length:=hl;exact⟨us,ws,sq h'.bh (le.h _ _ eY),sq h'.bh (le.h _ _ cx),by omega⟩
 ·exact w1.elim
end
end NV
namespace NV
open PySem L2
noncomputable def qap:Expr->Bool
 |.Starred _ _=>false
 |_=>true
noncomputable def qdx:Expr->Bool
 |.ListComp _ _ _ _=>false
 |.SetComp _ _ _ _=>false
 |.DictComp _ _ _ _ _=>false
 |_=>true
noncomputable def qcc:Expr->Bool
 |.Call (.Name _ _) [] [] _=>false
 |_=>true
noncomputable def qbu:Expr->Bool
 |.Set _ _ _=>false
 |_=>true
noncomputable def qjY:Expr->Bool
 |.Slice _ _ _ _=>false
 |_=>true
section
variable{env:Env}{e:Expr}{es:List Expr}{pos:Pos}
theorem qbM(h:qap e=true):starEach (e::es) env=(false,eval e env)::starEach es env:=by cases e<;>first|rfl|cases h
theorem qa6: ∀{es:List Expr},es.all qap=true->(backTo pos (starEach es env)).any (·.1)=false
 |[],_=>rfl
 |e::es,h=>by rw[List.all_cons,Bool.and_eq_true] at h;rw[qbM h.1];show(false||(backTo pos _).any _)=false;rw[qa6 h.2];rfl
theorem qgZ: ∀{es:List Expr},es.all qap=true->(backTo pos (starEach es env)).all (λx=> !x.1)=true
 |[],_=>rfl
 |e::es,h=>by rw[List.all_cons,Bool.and_eq_true] at h;rw[qbM h.1];show(!false&&(backTo pos _).all _)=true;rw[qgZ h.2];rfl
theorem qou(h:es.all qap=true)(hl:es.length<30):((backTo pos (starEach es env)).all (λx=> !x.1)&&(backToKw pos (keywordEach [] env)).all (λx=>x.1.isSome)&&decide (es.length+([]:List Keyword).length+(if([]:List Keyword).isEmpty then 0 else 1)<30))=true:=by rw[qgZ h];show(true&&true&&decide _)=true;simp[hl]
theorem qex{m:Str}(h:qcc o=true):attributeBase o m env w=w:=by
 unfold attributeBase;split
 ·cases h
 ·rfl
theorem qrc(h:qap e=true):(assignEach (e::es) env).map (·.2)=assign e env::(assignEach es env).map (·.2):=by cases e<;>first|rfl|cases h
theorem qdN: ∀{es:List Expr},(assignEach es env).length=es.length
 |[]=>rfl
 |e::es=>by cases e<;>(show _+1=_;rw[qdN];rfl)
theorem qfF: ∀{es:List Expr},es.all qap=true->(assignEach es env).findIdx? (·.1)=none
 |[],_=>rfl
 |e::es,h=>by
  rw[List.all_cons,Bool.and_eq_true] at h;have ih:=qfF h.2;have e1:assignEach (e::es) env=(false,assign e env)::assignEach es env:=by have h1:=h.1;cases e<;>first|rfl|cases h1
  grind
theorem qcq(h:qdx e=true):swapsWith e t l env=pure false:=by cases e<;>first|rfl|cases h
theorem qgX(h: ∀x p,t≠.Name x p):swapsWith e (some t) l env=pure false:=by cases e<;>first|rfl|(cases t<;>first|rfl|simp_all)
theorem qhk(h:qbu e=true):behindInMarks op e=false:=by cases e<;>first|rfl|cases h
theorem qdw(h:qbu c=true):lastMarks [o,p] [b,c]=false:=by cases c<;>first|rfl|cases h
theorem qeb(h:qbu e=true)(x:Value):foldedSetIterable e env x=pure x:=by cases e<;>first|rfl|cases h
theorem qid(h:qjY e=true):qlB e:=λo i=>by cases e<;>first|rfl|cases h
end
theorem qhR{ns:List Str}(hl:us.length=ns.length)(nd:ns.Nodup):(∀n∈ns,((ns.zip us).lookup n).isNone=false)/\ns.filterMap (λn=>((ns.zip us).lookup n).map (n, ·))=ns.zip us:=by
 induction ns generalizing us with
 |nil=>simp
 |cons x ns ih=>
  cases us with
  |nil=>cases hl
  |cons u us=>
   obtain⟨nx,nd⟩:=List.nodup_cons.mp nd;obtain⟨h1,h2⟩:=ih (us:=us) (by simpa using hl) nd;have ne: ∀n∈ns,(n==x)=false:=λn hn=>by
    grind
   refine⟨λn hn=> ?_,?_⟩
   ·rw[List.zip_cons_cons,List.lookup_cons]
    rcases List.mem_cons.mp hn with rfl|hn
    ·simp
    ·rw[ne n hn];exact h1 n hn
   ·rw[List.zip_cons_cons,List.filterMap_cons,List.lookup_cons];simp only[beq_self_eq_true,Option.map_some]
    congr 1
    refine Eq.trans ?_ h2;have go: ∀l:List Str,(∀n∈l,(n==x)=false)->l.filterMap (λn=>(((x,u)::ns.zip us).lookup n).map (n, ·))=l.filterMap (λn=>((ns.zip us).lookup n).map (n, ·)):=λl=>by
     induction l with
     |nil=>exactλ_=>rfl
     |cons y l ihl=>intro h;rw[List.filterMap_cons,List.filterMap_cons,ihl (λn hn=>h n (List.mem_cons_of_mem _ hn)),List.lookup_cons,h y List.mem_cons_self]
    exact go ns ne
theorem qdb(h1:fd.params.posonlyargs=[])(h2:fd.params.vararg=none)(h3:fd.params.kwonlyargs=[])(h4:fd.params.kwarg=none)(h5:fd.defaults= .none)(nd:(fd.params.args.map (·.arg)).Nodup)(hl:us.length=(fd.params.args.map (·.arg)).length):
  bindArgs fd ⟨us,[]⟩=pure ((fd.params.args.map (·.arg)).zip us):=by
 obtain⟨z1,z2⟩:=qhR hl nd;have e1:seqItems? Value.none=pure none:=rfl;unfold bindArgs;simp only[h1,h2,h3,h4,h5,e1,List.map_nil,List.nil_append,List.forIn_nil,pure_bind,List.append_nil,Option.isNone_none,Bool.and_true,Option.getD_none];have hm:(List.filter (λn=>(List.lookup n ((List.map (λx=>x.arg) fd.params.args).zip us)).isNone) (List.map (λx=>x.arg) fd.params.args))=[]:=by
  simp_all
 rw[if_neg (by simp only[decide_eq_true_eq];omega)];simp only[List.drop_nil,List.length_nil,Nat.sub_zero,List.take_length,hm,List.isEmpty_nil,Bool.not_true,List.zip_nil_right,List.forIn_nil,pure_bind,z2];rfl
open SR SetL
inductive KB where
 |one (i:Nat)|parts (l:List (Bool×Nat))
noncomputable def qvR(us:List T)(p:Bool×Nat):Option T:=(us[p.2]?).bind λt=>if p.1=true then(match t with|.int n=>some (.int (-n))|_=>none) else some t
noncomputable def qxM:KB->T->Option T
 |.one i,.tup us=>us[i]?
 |.parts l,.tup us=>(l.mapM (qvR us)).map .tup
 |_,_=>none
noncomputable def qoq(b:KB)(Z:Mu)(t:T):Option Nv:=(qcv Z t).bind λts=>(ts.mapM (qxM b)).bind λks=>if ts.length<64/\qbN ks=true then some (.l (PL.sortBy (λt=>qlF ((qxM b t).getD .non)) ts)) else none
noncomputable def qve(x:Str):Expr->Option Nat
 |.Subscript (.Name y _) (.Constant (.int i) _ _) _=>if y=x/\0<=i then some i.toNat else none
 |_=>none
noncomputable def qvQ(x:Str):Expr->Option (Bool×Nat)
 |.UnaryOp .USub e _=>(qve x e).map λi=>(true,i)
 |e=>(qve x e).map λi=>(false,i)
noncomputable def qxN(x:Str):Expr->Option KB
 |.Tuple es _ _=>if es.length<=100 then(es.mapM (qvQ x)).map .parts else none
 |e=>(qve x e).map .one
structure Lm(M:Md)(X:Cx)(c P:Addr)(qual:Str):Prop where
 cd:X.env.code= .ref c
 hd:W.CodeHd X.base c P
 bm:qfI X.mg X.base
 q:X.env.qual++("<lambda>" :Str)=qual
 t: ∀H,M.G.P H->qlz P qual H
 t': ∀H H2,M.G.P H->qlA P H H2->(∀b,H b≠none->H2 b≠none)->qlz P qual H2->M.G.P H2
end NV
namespace NV
open PySem L2
noncomputable def qw1(wd:Str->Option Str)(fr:List Nat)(d:DS0 T):DS0 T:=λρ Z=>match d (qbh 0 fr ρ) Z with
 |.ok t m=>.ok t m
 |.ex c m=>(match wd c with|some x=>.ok (.str x) m|none=>.no)
 |.no=>.no
structure Td(z:Str)(M:Md)(P:Program)(w:World)(mg:Str->Option Value)(base:Heap)(wd:Str->Option Str)(st:Stmt)(fT fC CA:Addr)(fdT fdC:FuncData)(bmA:List Value)(wa:Addr->Option Str):Prop where
 tx:qxj z st
 f:Fun M.K "_law_told" "_law_told" st fT fdT
 nz:(z==("__debug__" :Str))=false/\(z==("__classdict__" :Str))=false
 m:mg "_law_told" =some (.ref fT)
 b:qaW M.K fdT [z] []
 a:mg "AskError" =some (.ref CA)
 e:qiW base CA bmA
 g:FnN P w M.K mg base 1 fC fdC ["_law_kept"] (qvk base wa)
 mc:mg "_law_class" =some (.ref fC)
 kc:W.keepIn M.K (.ref fC)=true
 bc:qaW M.K fdC ["_law_kept"] []
 wd: ∀c x,wd c=some x->∃bm,qiW base (clA M.K c) bm/\(Value.ref (clA M.K c)::bm).contains (.ref CA)=true/\wa (clA M.K c)=some x
open PL (luS TopT)
noncomputable def qgV(neg:Bool)(tbl:List (Str×Str)):T->Mu->R T
 |.str z,Z=>.ok (.bl (if neg=true then !(luS tbl z).isSome else(luS tbl z).isSome)) Z
 |_,_=>.no
noncomputable def qjg(tbl:List (Str×Str)):T->Mu->R T
 |.str z,Z=>(match luS tbl z with|some g=>.ok (.fn g) Z|none=>.no)
 |_,_=>.no
noncomputable def qft(Fn:Str->Option (List T->Mu->R T))(i:Nat)(ds:DS0 (List T)):DS0 T:=λρ Z=>match ρ[i]? with
 |some (some (.fn g))=>(match Fn g with|some f=>qeq f ds ρ Z|none=>.no)
 |_=>.no
section
variable{M:Md}{E:XK}{X:Cx}{e a k value:Expr}{es:List Expr}{pos p dp:Pos}{i n:Nat}{x D:Str}{da:DS0 T}{ds:DS0 (List T)}{tbl:List (Str×Str)}
theorem qe0{a:Addr}{es:Array DictEntry}{n:Nat}(hl:X.K.lookup a=some ⟨.type "dict",none,.dict es n, #[]⟩)(hk:W.KeysLit X.w.params es.toList)(lo:(a==sysModules)=false)(hz: ∀z,match luS tbl z with | none=>findBy Value.isStrOf es z=none | some g=> ∃f,findBy Value.isStrOf es z=some (.ref f)/\W.nsIn X.K mainGlobals g=some (some (.ref f))):
  OpR X (compareOp .NotIn) (λx y H Q=> ∃z,x= .str z/\y= .ref a/\Q (.bl (!(luS tbl z).isSome)) H):=by
 intro U s O H x y v u Q I rx ry q;obtain⟨z,rfl,rfl,q⟩:=q;obtain⟨t,rfl⟩:=rx;cases ry;refine PySem.wpAny_notIn_of (PySem.strKind_is _ X.w z t) lo (W.mapOf_K I.kIn hl hk) ?_;have:(findBy Value.isStrOf es z).isSome=(luS tbl z).isSome:=by
  have:=hz z;split at this
  ·simp_all
  ·rename_i g e;obtain⟨f,h1,_⟩:=this;rw[h1,e];rfl
 rw[this];exact⟨.bl _,H,I.tok _,rfl,q⟩
theorem qbm{neg:Bool}{ad:Addr}{O:St}{H:Hp}{Q:VK}(h:tE M E (dU (qgV neg tbl) da) O H Q):tE M E da O H λx H1=> ∃z,x= .str z/\Q (.bl (if neg=true then !(luS tbl z).isSome else(luS tbl z).isSome)) H1:=by
 obtain⟨ρ,Z,B,ev,w⟩:=h;refine tE.of ev ((Wn.bind w).mono λt aa w1 v H1 B1 h1 g1 r1=> ?_);cases t with
 |str z=>exact⟨z,qaB r1,w1 _ H1 B1 h1 g1 qa2⟩
 |_=>exact w1.elim
theorem qng(T0:TopT X.K X.mg X.w D tbl)(hg:Gl X D)(ha:PE X e (tE M E da))(hd:(D==("__debug__" :Str))=false)(neg:Bool):PE X (.Compare e [if neg=true then .NotIn else .In] [.Name D dp] pos) (tE M E (dU (qgV neg tbl) da)):=by
 obtain⟨ad,es,n,mD,hl,hk,lo,hz⟩:=T0;cases neg with
 |false=>refine PE.weak (qf1 (PL.op_topin hl hk lo hz) ha (qb4 hg mD (v:=.ref ad) rfl hd) rfl) λO H Q hq=> ?_;obtain⟨ρ,Z,B,ev,w⟩:=qbm (ad:=ad) hq;exact⟨ρ,Z,B,ev,w.mono λt aa w1 v H1 B1 h1 g1 r1=>let ⟨z,e1,q⟩:=w1 v H1 B1 h1 g1 r1;⟨z,e1,rfl,q⟩⟩
 |true=>refine PE.weak (qf1 (qe0 hl hk lo hz) ha (qb4 hg mD (v:=.ref ad) rfl hd) rfl) λO H Q hq=> ?_;obtain⟨ρ,Z,B,ev,w⟩:=qbm (ad:=ad) hq;exact⟨ρ,Z,B,ev,w.mono λt aa w1 v H1 B1 h1 g1 r1=>let ⟨z,e1,q⟩:=w1 v H1 B1 h1 g1 r1;⟨z,e1,rfl,q⟩⟩
theorem qm8(T0:TopT X.K X.mg X.w D tbl)(hg:Gl X D)(ha:PE X e (tE M E da))(hd:(D==("__debug__" :Str))=false)(neg:Bool):PT X (.Compare e [if neg=true then .NotIn else .In] [.Name D dp] pos) (tT M E (dTB (dU (qgV neg tbl) da))):=by
 obtain⟨ad,es,n,mD,hl,hk,lo,hz⟩:=T0;cases neg with
 |false=>refine PT.weak (qfZ (PL.op_topin hl hk lo hz) ha (qb4 hg mD (v:=.ref ad) rfl hd) rfl) λO H Q hq=> ?_;obtain⟨ρ,Z,B,ev,w⟩:=qbm (ad:=ad) (qcH hq);exact⟨ρ,Z,B,ev,w.mono λt aa w1 v H1 B1 h1 g1 r1=>let ⟨z,e1,q⟩:=w1 v H1 B1 h1 g1 r1;⟨z,e1,rfl,q⟩⟩
 |true=>refine PT.weak (qfZ (qe0 hl hk lo hz) ha (qb4 hg mD (v:=.ref ad) rfl hd) rfl) λO H Q hq=> ?_;obtain⟨ρ,Z,B,ev,w⟩:=qbm (ad:=ad) (qcH hq);exact⟨ρ,Z,B,ev,w.mono λt aa w1 v H1 B1 h1 g1 r1=>let ⟨z,e1,q⟩:=w1 v H1 B1 h1 g1 r1;⟨z,e1,rfl,q⟩⟩
theorem qk0(T0:TopT X.K X.mg X.w D tbl)(hg:Gl X D)(ha:PE X k (tE M E da))(hK:X.K=M.K)(hs:qyc k)(hd:(D==("__debug__" :Str))=false):PE X (.Subscript (.Name D dp) k pos) (tE M E (dU (qjg tbl) da)):=by
 obtain⟨ad,es,n,mD,hl,hk,lo,hz⟩:=T0;intro U s O H Q I hq;have pa:tE M E da O H λy H1=> ∃z g f,y=V.str z/\luS tbl z=some g/\findBy Value.isStrOf es z=some (.ref f)/\Q (.ref f) H1:=by
  obtain⟨ρ,Z,B,ev,w⟩:=hq;refine tE.of ev ((Wn.bind w).mono λt aa w1 v H1 B1 h1 g1 r1=> ?_);cases t with
  |str z=>
   have w1:Wn M E H B (KE M H B Q) (match luS tbl z with|some g=>.ok _ aa|none=>.no):=w1;cases q:luS tbl z with
   |none=>rw[q] at w1;exact w1.elim
   |some g=>rw[q] at w1;have:=hz z;rw[q] at this;obtain⟨f,e1,e2⟩:=this;exact⟨z,g,f,qaB r1,q,e1,w1 _ H1 B1 h1 g1 (by unfold Rep;grind)⟩
  |_=>exact w1.elim
 refine qo9 F.slot_dict_getitem.lookup hs (thn (qb4 hg mD (v:=.ref ad) rfl hd U s O H (λx H1=>x= .ref ad/\H1=H) I ⟨rfl,rfl⟩) λu s1 hu=> ?_);obtain⟨x,H1,I1,rx,rfl,rfl⟩:=hu;obtain rfl:u=Value.ref ad:=rx;refine thn (ha U s1 O H1 _ I1 pa) λiv s2 hv=> ?_;obtain⟨y,H2,I2,ry,z,g,f,rfl,_,hf,q⟩:=hv;obtain⟨t,rfl⟩:=ry;have hm:=W.mapOf_K (prog:=X.prog) I2.kIn hl hk;exact⟨hm.typeIs,PySem.wpAny_getItem_of (PySem.strKind_is _ X.w z t) hm hf ⟨.ref f,H2,I2.tok _,rfl,q⟩⟩
theorem qnk(hF: ∀g fT,Fn g=some fT->∃f fd ps,X.mg g=some (.ref f)/\W.keepIn X.K (.ref f)=true/\qaW X.K fd ps []/\qcC X.prog X.w X.K X.mg X.base (CXE X.prog X.w) kk f fd ps (spF M fT))(hK:X.K=M.K)(hr:qbl kk X.A)(hv:PE X (.Name x p) (qu5 i))(hx:qaJ (CXE X.prog X.w) X E)(ha:PA X (e::es) (tA M E ds))(he:starEach (e::es) X.env=(false,eval e X.env)::starEach es X.env)(ak:(backTo pos (starEach es X.env)).any (·.1)=false):PE X (.Call (.Name x p) (e::es) [] pos) (tE M E (qft Fn i ds)):=by
 intro U s O H Q I hq;obtain⟨ρ,Z,B,ev,w⟩:=hq;unfold qft at w;split at w
 ·rename_i g e1;split at w
  ·rename_i fT e2;obtain⟨f,fd,ps,m,kp,bd,fo⟩:=hF g fT e2;obtain⟨v,e3,r⟩:=ev.sl i _ e1;obtain⟨f',rfl,hn⟩:=r;have:=PL.fn_same I (by rw[hK];exact hn) m;subst this;refine Ve (thn (hv _ s O H (λv H1=>v= .ref f'/\H1=H) I ⟨.ref f',e3,rfl,rfl⟩) λu s1 hu=> ?_);obtain⟨v,H1,I1,rv,rfl,rfl⟩:=hu;obtain rfl:u=Value.ref f':=rv;refine W.callWith_K I1.ok.mod.kin kp (thn (ha pos _ s1 O H1 _ I1 (qfz ⟨ρ,Z,B,ev,w⟩)) λus s2 hq=> ?_) he ak;obtain⟨vs,H2,I2,r,q⟩:=hq;exact⟨I2.kIn,qeP fo hr bd .nil hx I2 r q⟩
  ·exact w.elim
 ·exact w.elim
end
end NV
namespace NV
open PySem L2
inductive O2 where
 |add|sub|mul|div|mod|pow|lt|le|gt|ge|eq|ne|is|isn|in_|nin|ix
noncomputable def O2.g:O2->Mu->T->T->Option Nv
 |.add=>qtx|.sub=>gSub|.mul=>qwC|.div=>qwF|.mod=>qwD|.pow=>qy9|.lt=>gLt|.le=>gLe|.gt=>gGt|.ge=>gGe
 |.eq=>qos false|.ne=>qos true|.is=>gIs false|.isn=>gIs true|.in_=>gIn false|.nin=>gIn true|.ix=>gIx
inductive CG where
 |no|n (i:Nat)|tup (gs:List CG)
inductive Iw where
 |rng1|rng2|enum|zip
mutual
inductive CE where
 |no|v (i:Nat)|c (t:T)|tup (es:List CE)|lst (ow:Bool) (es:List CE)|dct (ow:Bool)
 |o2 (ow:Bool) (o:O2) (a b:CE)|neg (a:CE)|nt (a:CE)|and (a b:CE)|or (a b:CE)|ife (t a b:CE)|chain (o p:O2) (a b c:CE)
 |bn (ow:Bool) (b:Bn) (es:List CE)|bm (ow:Bool) (b:Bm) (o:CE) (es:List CE)|alt (a b:CE)|inst (N:String) (a:CE)|sset (ow:Bool) (a:CE)|slen (a:CE)|litems (a:CE)
 |sl (ow:Bool) (a:CE) (lo hi:Option CE)|sl3 (ow:Bool) (a:CE) (lo hi:Option CE) (st:CE)
 |call (i:Nat) (es:List CE)|make (c:Str) (i:Nat) (es:List CE)|mth (ms:List (Str×Nat)) (m:Str) (o:CE) (es:List CE)|fld (cs:List Str) (f:Str) (o:CE)
 |srtK (ow:Bool) (b:KB) (a:CE)|told (wd:List (Str×Str)) (fr:List Nat) (e:CE)
 |topin (neg:Bool) (tbl:List (Str×Str)) (a:CE)|topget (tbl:List (Str×Str)) (a:CE)|callv (fi:List (Str×Nat)) (i:Nat) (es:List CE)
 |comp (ow x:Bool) (n:Nat) (fr:List Nat) (g:CG) (it:CI) (t:Option CE) (e:CE)
inductive CI where
 |no|gen (e:CE)|by_ (w:Iw) (es:List CE)
end
inductive CS where
 |no|nx|ret (e:CE)|set (i:Nat) (e:CE)|asg (g:CG) (e:CE)|par (is:List Nat) (es:List CE)|fld (cs:List Str) (f:Str) (o e:CE)|put (o i e:CE)|exp (e:CE)|ife (t:CE) (a b:List CS)|for_ (g:CG) (it:CI) (b:List CS)
 |brk|cnt|raise (c:Str)|try_ (cl:List Str) (n:Nat) (nm:Option Nat) (b h:List CS)|frz (i:Nat) (s:CS)
noncomputable def Iw.g:Iw->List T->Mu->R Ito
 |.rng1=>qcb|.rng2=>qrQ|.enum=>qtF|.zip=>qfN
abbrev Fs:=Nat->List T->Mu->R T
mutual
noncomputable def qb0:CG->T->DS0 Ro
 |.no=>λ_=>dNo
 |.n i=>gN i
 |.tup gs=>gT gs.length (runGs gs)
noncomputable def runGs:List CG->List T->DS0 Ro
 |[]=>gsN
 |g::gs=>gsC (qb0 g) (runGs gs)
end
noncomputable def qoF(o p:O2)(da db dc:DS0 T):DS0 T:=dSq da λx=>dSq db λy ρ Z=>(nvR false (o.g Z x y) Z).bind λz μ'=>(tbO z μ').bind λk μ'=>if k=true then(dc ρ μ').bind λw eh=>nvR false (p.g eh y w) eh else .ok (.bl false) μ'
noncomputable def qiG(ow:Bool)(d:DS0 Ct):DS0 T:=if ow=true then dOw d else dFz d
noncomputable def qtv:T->Mu->R T
 |.int i,Z=>.ok (.int (-i)) Z
 |_,_=>.no
mutual
noncomputable def qab(F:Fs):CE->DS0 T
 |.no=>dNo
 |.v i=>dV i
 |.c t=>dC t
 |.tup es=>qxV (runA F es)
 |.lst ow es=>qiG ow (qxZ (runA F es))
 |.dct ow=>qiG ow λ_ Z=>.ok (.dk []) Z
 |.o2 ow o a b=>dB (λx y Z=>nvR ow (o.g Z x y) Z) (qab F a) (qab F b)
 |.neg a=>dU qtv (qab F a)
 |.nt a=>qnn (qab F a)
 |.and a b=>qnp (qab F a) (qab F b)
 |.or a b=>quT (qab F a) (qab F b)
 |.ife t a b=>qiI (dTB (qab F t)) (qab F a) (qab F b)
 |.chain o p a b c=>qoF o p (qab F a) (qab F b) (qab F c)
 |.bn ow b es=>dN ow b.g (runA F es)
 |.bm ow b o es=>dBM ow b (qab F o) (runA F es)
 |.alt a b=>qub (qab F a) (qab F b)
 |.inst N a=>qt7 N (qab F a)
 |.sset ow a=>dNu ow qkD (qab F a)
 |.litems a=>qt6 (qab F a)
 |.slen a=>dNu false qkC (qab F a)
 |.sl ow a lo hi=>dSl ow (qab F a) (runO F lo) (runO F hi)
 |.sl3 ow a lo hi st=>qxW ow (qab F a) (runO F lo) (runO F hi) (dOS (qab F st))
 |.call i es=>qeq (F i) (runA F es)
 |.make c i es=>qeq (mkR c (F i)) (runA F es)
 |.mth ms m o es=>qiH (λc=>(ms.lookup c).map F) m (qab F o) (runA F es)
 |.fld cs f o=>dU (qot (λc _=>cs.contains c) f) (qab F o)
 |.srtK ow b a=>dNu ow (qoq b) (qab F a)
 |.told wd fr e=>qw1 (λc=>wd.lookup c) fr (qab F e)
 |.topin neg tbl a=>dU (qgV neg tbl) (qab F a)
 |.topget tbl a=>dU (qjg tbl) (qab F a)
 |.callv fi i es=>qft (λg=>(fi.lookup g).map F) i (runA F es)
 |.comp ow x n fr g it t e=>qiG ow (qcm x n fr (runI F it) (qb0 g) (runT F t) (qab F e))
noncomputable def runA(F:Fs):List CE->DS0 (List T)
 |[]=>qrn
 |e::es=>qua (qab F e) (runA F es)
noncomputable def runO(F:Fs):Option CE->DS0 (Option Int)
 |none=>dON
 |some e=>dOS (qab F e)
noncomputable def runT(F:Fs):Option CE->DS0 Bool
 |none=>qxU
 |some e=>dTB (qab F e)
noncomputable def runI(F:Fs):CI->DS0 Ito
 |.no=>dNo
 |.gen e=>dIt (qab F e)
 |.by_ w es=>dIA w.g (runA F es)
end
noncomputable def qbf:List Nat->List T->Ro->Option Ro
 |[],[],ρ=>some ρ
 |i::is,t::ts,ρ=>qbf is ts (ρ.set i (some t))
 |_,_,_=>none
noncomputable def qzf(is:List Nat)(ds:DS0 (List T)):DS0 Out:=dSq ds λts ρ Z=>match qbf is ts ρ with|some ρ'=>.ok (.nx ρ') Z|none=>.no
mutual
noncomputable def qaM(F:Fs):CS->DS0 Out
 |.no=>dNo
 |.nx=>qno
 |.ret e=>qw4 (qab F e)
 |.set i e=>qnm i (qab F e)
 |.asg g e=>qx1 (qb0 g) (qab F e)
 |.par is es=>qzf is (runA F es)
 |.fld cs f o e=>qt8 (λc _=>cs.contains c) f (qab F o) (qab F e)
 |.put o i e=>qxX (qab F o) (qab F i) (qab F e)
 |.exp e=>qt9 (qab F e)
 |.ife t a b=>qiI (dTB (qab F t)) (runSs F a) (runSs F b)
 |.for_ g it b=>qx0 (runI F it) (qb0 g) (runSs F b)
 |.brk=>λρ Z=>.ok (.bk ρ) Z
 |.cnt=>λρ Z=>.ok (.ct ρ) Z
 |.raise c=>qoE c
 |.try_ cl n nm b h=>qze (λc=>cl.contains c) n nm (runSs F b) (runSs F h)
 |.frz i s=>qzg i (qaM F s)
noncomputable def runSs(F:Fs):List CS->DS0 Out
 |[]=>qno
 |s::ss=>qw3 (qaM F s) (runSs F ss)
end
structure Gx where
 fs:List (Str×Stmt)
 cs:List (Str×T)
 ex:List (Str×List Str)
 cl:List (Str×List Str)
 ow:List (Nat×Nat)
 fz:List (Nat×Str)
 xc:List (Nat×Nat)
 kp:List Str
 lm:List Str
 wd:List (Str×Str)
 dt:List (Str×List (Str×Str)):=[]
structure Cc where
 N:List Str
 sc:Scope
 calm:Bool
 top:Bool
 cf:Bool
 lam:Bool
noncomputable def qcB:List Str:=["len", "all", "any", "sum", "max", "min", "abs", "list", "tuple", "sorted", "set", "isinstance", "range", "enumerate", "zip", "int", "bool", "str", "dict"]
noncomputable def qlG(N:List Str)(x:Str):Option Nat:=N.findIdx? λy=>decide (y=x)
noncomputable def qiy(C:Cc)(x:Str):Bool:=decide (C.sc.names.lookup x=some .globalImplicit)&&x != "__debug__"
noncomputable def qc0(C:Cc)(x:Str):Bool:=qiy C x&&qcB.contains x
noncomputable def qmQ(sc:Scope)(x:Str):Bool:=match sc.names.lookup x with|some .local=>true|some .cell=>true|some .free=>true|_=>false
noncomputable def qql(sc:Scope)(x:Str):Bool:=match sc.names.lookup x with|some .local=>true|some .cell=>true|_=>false
noncomputable def qrk(C:Cc)(x:Str):Bool:=match C.sc.names.lookup x with|some .local=>true|some .cell=>C.cf|_=>false
noncomputable def Gx.fi(g:Gx)(x:Str):Option Nat:=qlG (g.fs.map (·.1)) x
noncomputable def qaP(c m:Str):Str:=c++("." :Str)++m
noncomputable def Gx.ms(g:Gx)(m:Str):List (Str×Nat):=g.cl.filterMap λc=>(g.fi (qaP c.1 m)).map λi=>(c.1,i)
noncomputable def Gx.fls(g:Gx)(f:Str):List Str:=(g.cl.filter λc=>c.2.contains f).map (·.1)
noncomputable def Gx.own(g:Gx)(p:Pos):Bool:=g.ow.contains (p.line,p.col)
noncomputable def qq6(g:Gx)(C:Cc)(x:Str):CE:=
 if x== "__debug__" ||x== "__classdict__" then .no else
 if qmQ C.sc x then(match qlG C.N x with|some i=>.v i|none=>.no) else
 if qiy C x then(match g.cs.lookup x with|some t=>.c t|none=>.no) else .no
noncomputable def qv4:Operator->Option O2
 |.Add=>some .add|.Sub=>some .sub|.Mult=>some .mul|.FloorDiv=>some .div|.Mod=>some .mod|_=>none
noncomputable def qoL:CmpOp->O2
 |.Lt=>.lt|.LtE=>.le|.Gt=>.gt|.GtE=>.ge|.Eq=>.eq|.NotEq=>.ne|.Is=>.is|.IsNot=>.isn|.In=>.in_|.NotIn=>.nin
noncomputable def qrp(x:Str):Option Bn:=Bn.list.find? λb=>b.nm==x
noncomputable def qq9(x:Str)(ty:String):Option Bm:=Bm.all.find? λb=>b.nm==x&&b.ty==ty
noncomputable def qxp(x:Str):Option String:=["int", "bool", "str", "tuple", "list"].find? λN=>Str.ofString N==x
noncomputable def qhO:List CE->CE
 |[]=>.no
 |[a]=>a
 |a::b::r=>.and a (qhO (b::r))
noncomputable def qms:List CE->CE
 |[]=>.no
 |[a]=>a
 |a::b::r=>.or a (qms (b::r))
noncomputable def cG(C:Cc):Nat->Expr->CG
 |0,_=>.no
 |n+1,e=>match e with
  |.Name x _=>if qrk C x then(match qlG C.N x with|some i=>.n i|none=>.no) else .no
  |.Tuple ts _ _=>if C.calm&&ts.all qap then .tup (ts.map (cG C n)) else .no
  |_=>.no
noncomputable def quK(C:Cc)(sc:Scope):Scope:={ sc with names:=sc.names.map λ(n,k)=>if(k==NameKind.free&&C.sc.kind== .function&&C.sc.names.lookup n==some .cell) then(n,NameKind.cell) else(n,k) }
noncomputable def qaj(C:Cc)(sc:Scope):Cc×List (Str×Nat):=
 let own:=(sc.names.filter λy=>decide (y.2= .local)&&y.1 != (".0" :Str)).map (·.1);let fr:=sc.names.filterMap λy=>if y.2= .free then(qlG C.N y.1).map λi=>(y.1,i) else none
 (⟨own++fr.map (·.1),quK C sc,C.calm,false,false,C.lam⟩,fr)
noncomputable def qhC(C:Cc)(sc:Scope):Bool:=
 decide (sc.kind= .function)&&sc.names.all (λy=>decide (y.2≠.cell))&&sc.names.all (λy=>decide (y.2≠.local)||decide (sc.names.lookup y.1=some .local))
  &&sc.names.all (λy=>decide (y.2≠.free)||(decide (C.sc.names.lookup y.1=some .cell)||decide (C.sc.names.lookup y.1=some .free))&&decide (sc.names.lookup y.1=some .free))
  &&decide ((qaj C sc).1.N.Nodup)
noncomputable def qwh(C:Cc)(sc:Scope):List (Str×Nat):=sc.names.filterMap λy=>if y.2= .free then(qlG C.N y.1).map λi=>(y.1,i) else none
noncomputable def qwi(C:Cc)(sc:Scope):Cc:=⟨(qwh C sc).map (·.1),sc,true,false,false,false⟩
noncomputable def qh6(a:Arguments):Bool:=decide (a.posonlyargs.length=0)&&a.vararg.isNone&&decide (a.kwonlyargs.length=0)&&decide (a.kw_defaults.length=0)&&a.kwarg.isNone&&decide (a.defaults.length=0)
noncomputable def qs0(C:Cc)(a:Arguments)(sc:Scope):Bool:=qh6 a&&decide (sc.kind= .function)&& !sc.isCoroutine&& !sc.isGenerator&&sc.names.all (λy=>decide (y.2≠.cell))&&C.lam&&C.calm
noncomputable def qrx(C:Cc)(a:Arguments)(sc:Scope):Bool:=qs0 C a sc&&decide (a.args.length=0)&&C.cf&&decide ((qwi C sc).N.Nodup)
 &&sc.names.all (λy=>decide (y.2≠.free)||(decide (C.sc.names.lookup y.1=some .cell)||decide (C.sc.names.lookup y.1=some .free))&&decide (sc.names.lookup y.1=some .free))
noncomputable def qkg(C:Cc)(a:Arguments)(sc:Scope):Option Str:=match a.args with
 |[x]=>if qs0 C a sc&&decide (sc.names.lookup x.arg=some .local)&&sc.names.all (λy=>decide (y.2≠.free))&&x.arg != "__debug__" then some x.arg else none
 |_=>none
noncomputable def qo0(g:Gx)(C:Cc):Expr->Option (List (Str×Str))
 |.Name D _=>if qiy C D then g.dt.lookup D else none
 |_=>none
noncomputable def qsU:CmpOp->Option Bool
 |.In=>some false
 |.NotIn=>some true
 |_=>none
noncomputable def qq7(g:Gx)(C:Cc)(o:CmpOp)(b:Expr)(ca cb:CE):CE:=match qo0 g C b,qsU o with
 |some tbl,some neg=>.topin neg tbl ca
 |_,_=>.o2 false (qoL o) ca cb
noncomputable def cIx(g:Gx)(C:Cc)(ow:Bool)(a b:Expr)(ca cb:CE):CE:=match qo0 g C a with
 |some tbl=>.topget tbl cb
 |none=>.o2 ow .ix ca cb
noncomputable def Gx.fns(g:Gx):List (Str×Nat):=((List.range g.fs.length).filterMap λi=>(g.fs[i]?).bind λp=>if p.1.cps.contains 46 then none else if g.fi p.1=some i then some (p.1,i) else none)
noncomputable def qhI(g:Gx)(C:Cc)(f:Str)(jA:List CE):CE:=if(f== "__debug__" ||f== "__classdict__")||jA.isEmpty then .no else if qmQ C.sc f then(match qlG C.N f with|some i=>.callv g.fns i jA|none=>.no) else .no
noncomputable def qol:Expr->Bool
 |.Tuple _ _ _=>true
 |_=>false
mutual
noncomputable def cE(g:Gx):Nat->Cc->Expr->CE
 |0,_,_=>.no
 |n+1,C,e=>match e with
  |.Constant c _ _=>(match c with|.none=>.c .non|.bool b=>.c (.bl b)|.int i=>.c (.int i)|.str s=>.c (.str s)|_=>.no)
  |.Name x _=>qq6 g C x
  |.Tuple es _ _=>if es.all qap then .tup (es.map (cE g n C)) else .no
  |.List es p=>if es.all qap then .lst (g.own p) (es.map (cE g n C)) else .no
  |.Dict [] [] p=>.dct (g.own p)
  |.BinOp a op b p=>(match qv4 op with|some o=>.o2 (g.own p) o (cE g n C a) (cE g n C b)|none=>.no)
  |.UnaryOp .Not a _=>.nt (cE g n C a)
  |.UnaryOp .USub a _=>.neg (cE g n C a)
  |.BoolOp .And es _=>qhO (es.map (cE g n C))
  |.BoolOp .Or es _=>qms (es.map (cE g n C))
  |.IfExp t a b _=>.ife (cE g n C t) (cE g n C a) (cE g n C b)
  |.Compare a [o] [b] _=>if qbu b then qq7 g C o b (cE g n C a) (cE g n C b) else .no
  |.Compare a [o,p] [b,c] _=>if qbu c then .chain (qoL o) (qoL p) (cE g n C a) (cE g n C b) (cE g n C c) else .no
  |.Subscript a (.Slice lo hi none _) p=>.sl (g.own p) (cE g n C a) (lo.map (cE g n C)) (hi.map (cE g n C))
  |.Subscript a (.Slice lo hi (some st) _) p=>.sl3 (g.own p) (cE g n C a) (lo.map (cE g n C)) (hi.map (cE g n C)) (cE g n C st)
  |.Subscript a b p=>cIx g C (g.own p) a b (cE g n C a) (cE g n C b)
  |.Attribute a f _=>if qcc a then .fld (g.fls f) f (cE g n C a) else .no
  | .Call (.Attribute o m ap) es [] p=>if (qcc o&&es.all qap&&decide (es.length<30))&&ap.endLine==p.line then
    (match qq9 m "list",qq9 m "dict" with
     |some b,some d=>.alt (.bm (g.own p) b (cE g n C o) (es.map (cE g n C))) (.bm (g.own p) d (cE g n C o) (es.map (cE g n C)))
     |some b,none=>.bm (g.own p) b (cE g n C o) (es.map (cE g n C))
     |none,some d=>.bm (g.own p) d (cE g n C o) (es.map (cE g n C))
     |none,none=>if C.calm then .mth (g.ms m) m (cE g n C o) (es.map (cE g n C)) else .no) else .no
  | .Call (.Name f _) [e] [⟨some kw,.Lambda a body sc _,_⟩] p=>if f== "sorted" &&kw== "key" &&qc0 C f&&qap e then (match qkg C a sc with
    |some x=>(match qxN x body with|some b=>.no|none=>.no)
    |none=>.no) else .no
  |.Call (.Name f _) es [] p=>if(es.all qap&&C.calm)&&qiy C f then cCall g n C f es p else if es.all qap&&C.calm then qhI g C f (es.map (cE g n C)) else .no
  |.ListComp elt [⟨tg,iter,ifs,0⟩] sc p=>cComp g n C false elt tg iter ifs sc p
  |_=>.no
noncomputable def cCall(g:Gx):Nat->Cc->Str->List Expr->Pos->CE
 |0,_,_,_,_=>.no
 | n+1,C,f,es,p=>if f== "_law_told" then (match es with
   |[.Lambda a body sc _]=>if qrx C a sc&& !g.wd.isEmpty then .no else .no
   |_=>.no) else if f.cps.contains 46 then .no else match g.fi f with
  |some i=>.call i (es.map (cE g n C))
  |none=>if(g.cl.map (·.1)).contains f then(match g.fi (qaP f "__init__") with|some i=>.make f i (es.map (cE g n C))|none=>.no) else
   if qc0 C f then(match es with
    |[e,.Name x _]=>if f== "isinstance" then(match qxp x with|some N=>if qc0 C x then .inst N (cE g n C e) else .no|none=>.no) else
     (match qrp f with|some b=>.bn (g.own p) b (es.map (cE g n C))|none=>.no)
    |[.Call (.Name s _) [a] [] _]=>if s== "set" &&qc0 C s&&qap a then(if f== "sorted" then .sset (g.own p) (cE g n C a) else if f== "len" then .no else .no) else
     (match qrp f with|some b=>.bn (g.own p) b (es.map (cE g n C))|none=>.no)
    |[.Call (.Attribute o m ap) [] [] q]=>if f== "list" &&m== "items" &&qcc o&&ap.endLine==q.line then .no else
     (match qrp f with|some b=>.bn (g.own p) b (es.map (cE g n C))|none=>.no)
    |[]=>.no
    |_=>(match qrp f with|some b=>.bn (g.own p) b (es.map (cE g n C))|none=>.no)) else .no
noncomputable def cI(g:Gx):Nat->Cc->Expr->Expr->CI
 |0,_,_,_=>.no
 |n+1,C,tg,e=>if qbu e then(match e with
  | .Call (.Name f _) es [] _=>if f== "range" then (if qc0 C f&&es.all qap then (match es with
     |[a]=>.by_ .rng1 [cE g n C a]
     |[a,b]=>.no
     |_=>.no) else .no)
    else if f== "enumerate" then(if qc0 C f&&es.all qap&&qol tg then(match es with|[a]=>.no|_=>.no) else .no)
    else if f== "zip" then(if qc0 C f&&es.all qap&&qol tg then(match es with|[a,b]=>.by_ .zip [cE g n C a,cE g n C b]|_=>.no) else .no)
    else .gen (cE g n C e)
  |_=>.gen (cE g n C e)) else .no
noncomputable def cComp(g:Gx):Nat->Cc->Bool->Expr->Expr->Expr->List Expr->Scope->Pos->CE
 |0,_,_,_,_,_,_,_,_=>.no
 | n+1,C,x,elt,tg,iter,ifs,sc,p=>if C.calm&&qhC C sc then
   (match ifs with
    |[]=>.comp (g.own p) x ((qaj C sc).1.N.length - (qaj C sc).2.length) ((qaj C sc).2.map (·.2)) (cG (qaj C sc).1 n tg) (cI g n C tg iter) none (cE g n (qaj C sc).1 elt)
    |[t]=>.comp (g.own p) x ((qaj C sc).1.N.length - (qaj C sc).2.length) ((qaj C sc).2.map (·.2)) (cG (qaj C sc).1 n tg) (cI g n C tg iter) (some (cE g n (qaj C sc).1 t)) (cE g n (qaj C sc).1 elt)
    |_=>.no) else .no
end
noncomputable def qq1:Stmt->List Stmt
 |.ClassDef _ _ _ b _ _ _ _ _ _ _=>b
 |_=>[]
noncomputable def qbr(C:Cc)(line:Nat):List Expr->Option (List Str)
 |[]=>some []
 |.Name x p::r=>if decide (C.sc.names.lookup x=some .local)&&p.line==line then(qbr C line r).map (x:: ·) else none
 |_::_=>none
noncomputable def qqf(N:List Str):List Str->Option (List Nat)
 |[]=>some []
 |x::r=>(qlG N x).bind λi=>(qqf N r).map (i:: ·)
noncomputable def qdX(C:Cc)(e:Expr)(x:Str)(p:Pos):Bool:=match e with
 |.ListComp _ _ s q=>decide (C.sc.kind= .function)&&decide (C.sc.names.lookup x=some .local)&&p.line==q.line&& !(s.names.any λ(n,k)=>n==x&&(k== .local||k== .cell))
 |_=>false
noncomputable def qxb(g:Gx)(n:Nat)(C:Cc)(x:Str)(p:Pos)(e:Expr):CS:=if qrk C x then (match qlG C.N x with
  |none=>.no
  |some i=>(match e with
   |.ListComp elt [⟨tg,iter,ifs,0⟩] sc q=>if decide (C.sc.kind= .function) then(if qdX C (.ListComp elt [⟨tg,iter,ifs,0⟩] sc q) x p then .set i (cComp g n C false elt tg iter ifs sc q) else .set i (cE g n C (.ListComp elt [⟨tg,iter,ifs,0⟩] sc q))) else .no
   |e=>if qdx e then .set i (cE g n C e) else .no)) else .no
noncomputable def qut(g:Gx)(n:Nat)(C:Cc)(ts vs:List Expr):Option CS:=if ts.length==2&&vs.length==ts.length&&vs.all qap&&C.calm&&decide (C.sc.kind= .function)&& !vs.all (constantsAlone 8)&& !vs.all (foldedForSure 8) then
  (qbr C ((ts.head?.map (·.pos.line)).getD 0) ts).bind λxs=>if xs.eraseDups.length==xs.length&&decide xs.Nodup then(qqf C.N xs).map λis=>.par is (vs.map (cE g n C)) else none else none
noncomputable def qjX(C:Cc):Expr->Bool
 |.Name x _=> !decide (C.sc.names.lookup x=some .local)
 |_=>true
noncomputable def qgY:Expr->Bool
 |.Constant (.str _) _ _=>true
 |_=>false
mutual
noncomputable def cS(g:Gx):Nat->Cc->Stmt->CS
 |0,_,_=>.no
 |n+1,C,st=>cS1 g n C st
noncomputable def cS1(g:Gx):Nat->Cc->Stmt->CS
 |0,_,_=>.no
 |n+1,C,st=>match st with
  |.Pass _=>.nx
  |.Break _=>.brk
  |.Continue _=>.cnt
  |.Return none _=>.ret (.c .non)
  |.Return (some e) _=>.ret (cE g n C e)
  |.Expr e _=>if qgY e then .nx else if qdx e then .exp (cE g n C e) else .no
  |.If t a b _=>.ife (cE g n C t) (cSs g n C a) (cSs g n C b)
  |.For tg it b [] _=>if(C.top&&C.calm)&&qbu it then .for_ (cG C n tg) (cI g n C tg it) (cSs g n C b) else .no
  |.Assign [.Name x p] e _=>qxb g n C x p e
  |.Assign [.Attribute o f _] e _=>.fld (g.fls f) f (cE g n C o) (cE g n C e)
  |.Assign [.Subscript o i _] e _=>.put (cE g n C o) (cE g n C i) (cE g n C e)
  |.Assign [.Tuple ts k p] e _=>(match e with
   |.Tuple vs kv pv=>if ts.any (qjX C) then .asg (cG C n (.Tuple ts k p)) (cE g n C (.Tuple vs kv pv)) else(qut g n C ts vs).getD .no
   |e=>if qdx e then .asg (cG C n (.Tuple ts k p)) (cE g n C e) else .no)
  |.Raise (some (.Call (.Name x _) [a] [] _)) none _=>if C.top&&qiy C x&&(g.ex.map (·.1)).contains x&&qgY a then .raise x else .no
  |_=>.no
noncomputable def cSs(g:Gx):Nat->Cc->List Stmt->List CS
 |0,_,_=>[.no]
 |n+1,C,bB=>bB.map (cS g n C)
end
noncomputable def qhd(st:Stmt):List Str:=(qas st).args.map (·.arg)
noncomputable def qif(st:Stmt):List Str:=qhd st++((qaf st).names.filter λy=>(decide (y.2= .local)||decide (y.2= .cell))&& !(qhd st).contains y.1).map (·.1)
noncomputable def qxa(lam:Bool)(st:Stmt):Cc:=⟨qif st,qaf st,true,true,true,lam⟩
noncomputable def qgh(st:Stmt):Bool:=decide ((qaf st).kind= .function)&& !(qaf st).isCoroutine&& !(qaf st).isGenerator&&decide ((qif st).Nodup)&&(qhd st).all (qql (qaf st))&&(qaf st).names.all (λy=>decide (y.2≠.free))
 &&decide ((qas st).posonlyargs.length=0)&&(qas st).vararg.isNone&&decide ((qas st).kwonlyargs.length=0)&&decide ((qas st).kw_defaults.length=0)&&(qas st).kwarg.isNone&&decide ((qas st).defaults.length=0)
structure Fcd where
 kp:Bool
 n:Nat
 N:Nat
 b:List CS
noncomputable def cFn(g:Gx)(p:Str×Stmt):Fcd:=if qgh p.2 then⟨g.kp.contains p.1,(qhd p.2).length,(qif p.2).length,cSs g 60 (qxa (g.lm.contains p.1) p.2) (qaF p.2)⟩ else⟨true,0,0,[.no]⟩
noncomputable def Fcd.run(F:Fs)(c:Fcd):List T->Mu->R T:=fnR c.kp c.n c.N (runSs F c.b)
noncomputable def TTf(g:Gx):Nat->Fs
 |0,_=>λ_ _=>.no
 |k+1,i=>match g.fs[i]? with
  |some p=>(cFn g p).run (TTf g k)
  |none=>λ_ _=>.no
section
variable{F:Fs}{ρ:Ro}{Z:Mu}
noncomputable def lk:Option (Option T)->Mu->R T
 |some (some t),Z=>.ok t Z
 |_,_=>.no
@[simp] theorem qec(t:T)(Z:Mu):lk (some (some t)) Z= .ok t Z:=rfl
@[simp] theorem quv{α β γ:Type}{r:R α}{f:α->Mu->R β}{g:β->Mu->R γ}:(r.bind f).bind g=r.bind λa m=>(f a m).bind g:=by cases r<;>rfl
@[simp] theorem qpo:runSs F [] ρ Z= .ok (.nx ρ) Z:=rfl
@[simp] theorem qah:runSs F (s::ss) ρ Z=(qaM F s ρ Z).bind (qhY (runSs F ss)):=rfl
@[simp] theorem qaR:qhY e (.nx ρ) Z=e ρ Z:=rfl
@[simp] theorem quG:qhY e (.rt t) Z= .ok (.rt t) Z:=rfl
@[simp] theorem quI:qhY e (.bk ρ) Z= .ok (.bk ρ) Z:=rfl
@[simp] theorem quH:qhY e (.ct ρ) Z= .ok (.ct ρ) Z:=rfl
@[simp] theorem qvT:outT (.rt t) Z= .ok t Z:=rfl
@[simp] theorem qvU:outT (.nx ρ) Z= .ok .non Z:=rfl
@[simp] theorem qeG:tbO (.bl b) Z= .ok b Z:=rfl
@[simp] theorem qyw:qaM F .nx ρ Z= .ok (.nx ρ) Z:=rfl
@[simp] theorem qa0:qaM F (.ret e) ρ Z=(qab F e ρ Z).bind λt Z=>.ok (.rt t) Z:=rfl
@[simp] theorem qaX:qaM F (.set i e) ρ Z=(qab F e ρ Z).bind λt Z=>.ok (.nx (ρ.set i (some t))) Z:=rfl
@[simp] theorem qxz:qaM F (.asg g e) ρ Z=(qab F e ρ Z).bind λt Z=>(qb0 g t ρ Z).bind λρ' μ'=>.ok (.nx ρ') μ':=rfl
@[simp] theorem qdu:qaM F (.exp e) ρ Z=(qab F e ρ Z).bind λ_ Z=>.ok (.nx ρ) Z:=rfl
theorem qhv{α:Type}{c:Prop}[Decidable c]{f g:Ro->Mu->R α}:(if c then f else g) ρ Z=if c then f ρ Z else g ρ Z:=by split<;>rfl
@[simp] theorem qeV{t:CE}{a b:List CS}:qaM F (.ife t a b) ρ Z=(qab F t ρ Z).bind λx Z=>(tbO x Z).bind λc Z=>if c=true then runSs F a ρ Z else runSs F b ρ Z:=by
 show((qab F t ρ Z).bind _).bind _=_;cases qab F t ρ Z with
 |ok x m=>congr 1;funext c m';exact qhv
 |_=>rfl
@[simp] theorem qxy:qaM F .brk ρ Z= .ok (.bk ρ) Z:=rfl
@[simp] theorem qxx:qaM F .cnt ρ Z= .ok (.ct ρ) Z:=rfl
@[simp] theorem quL{c:Str}:qaM F (.raise c) ρ Z= .ex c Z:=rfl
@[simp] theorem qn1:qaM F (.put o i e) ρ Z=(qab F e ρ Z).bind λv Z=>(qab F o ρ Z).bind λo Z=>(qab F i ρ Z).bind λi Z=>match qlI Z o i v with
 |some q=>if Z.live q.1=true then .ok (.nx ρ) (Z.put q.1 q.2) else .no
 |none=>.no:=rfl
@[simp] theorem qn2:qaM F (.par is es) ρ Z=(runA F es ρ Z).bind λts Z=>match qbf is ts ρ with|some ρ'=>.ok (.nx ρ') Z|none=>.no:=rfl
@[simp] theorem qdt{cs:List Str}{f:Str}:qaM F (.fld cs f o e) ρ Z=(qab F e ρ Z).bind λt Z=>(qab F o ρ Z).bind λo Z=>(qtC (λc _=>cs.contains c) f t o Z).bind λ_ Z=>.ok (.nx ρ) Z:=rfl
theorem qrU:qaM F (.for_ g it b) ρ Z=(runI F it ρ Z).bind λit Z=>qwJ (qb0 g) (runSs F b) it ρ Z:=rfl
@[simp] theorem qxu:qbf [] [] ρ=some ρ:=rfl
@[simp] theorem qvl:qbf (i::is) (t::ts) ρ=qbf is ts (ρ.set i (some t)):=rfl
@[simp] theorem qyz:qb0 (.n i) t ρ Z= .ok (ρ.set i (some t)) Z:=rfl
@[simp] theorem qxE:qb0 (.tup gs) (.tup ts) ρ Z=if ts.length=gs.length then runGs gs ts ρ Z else .no:=rfl
@[simp] theorem qvx:runGs [] [] ρ Z= .ok ρ Z:=rfl
@[simp] theorem quM:runGs (g::gs) (t::ts) ρ Z=(qb0 g t ρ Z).bind (runGs gs ts):=rfl
@[simp] theorem qa1:runA F [] ρ Z= .ok [] Z:=rfl
@[simp] theorem qai:runA F (e::es) ρ Z=(qab F e ρ Z).bind λx Z=>(runA F es ρ Z).bind λxs Z=>.ok (x::xs) Z:=rfl
@[simp] theorem qeW{i:Nat}:qab F (.v i) ρ Z=lk ρ[i]? Z:=by
 show dV i ρ Z=_;unfold dV
 rcases ρ[i]? with _|_|_<;>rfl
@[simp] theorem qn6:qab F (.c t) ρ Z= .ok t Z:=rfl
@[simp] theorem qjG:qab F (.tup es) ρ Z=(runA F es ρ Z).bind λxs Z=>if xs.length<=1000 then .ok (.tup xs) Z else .no:=rfl
@[simp] theorem qvD:qab F (.lst false es) ρ Z=(runA F es ρ Z).bind λxs Z=>if xs.length<=1000 then .ok (.lst xs) Z else .no:=by
 show((runA F es ρ Z).bind _).bind fzC=_;cases runA F es ρ Z with
 |ok x m=>show(if x.length<=1000 then R.ok _ m else .no).bind fzC=if x.length<=1000 then R.ok _ m else .no;split<;>rfl
 |_=>rfl
@[simp] theorem qfX:qab F (.lst true es) ρ Z=(runA F es ρ Z).bind λxs Z=>if xs.length<=1000 then .ok (.obj Z.l.length) (Z.add (.ls xs)) else .no:=by
 show((runA F es ρ Z).bind _).bind _=_;cases runA F es ρ Z with
 |ok x m=>show(if x.length<=1000 then R.ok _ m else .no).bind _=if x.length<=1000 then R.ok _ _ else .no;split<;>rfl
 |_=>rfl
@[simp] theorem qpr:qab F (.dct true) ρ Z= .ok (.obj Z.l.length) (Z.add (.dk [])):=rfl
@[simp] theorem qvF:qab F (.dct false) ρ Z= .ok (.dct []) Z:=rfl
@[simp] theorem qa7:qab F (.o2 ow o a b) ρ Z=(qab F a ρ Z).bind λx Z=>(qab F b ρ Z).bind λy Z=>nvR ow (o.g Z x y) Z:=rfl
@[simp] theorem qxF:qab F (.neg a) ρ Z=(qab F a ρ Z).bind qtv:=rfl
@[simp] theorem quS:qtv (.int i) Z= .ok (.int (-i)) Z:=rfl
@[simp] theorem qyA:qab F (.nt a) ρ Z=(qab F a ρ Z).bind λx Z=>(tbO x Z).bind λc Z=>.ok (.bl (!c)) Z:=by show((qab F a ρ Z).bind _).bind _=_;simp
@[simp] theorem qrY{a b:CE}:qab F (.and a b) ρ Z=(qab F a ρ Z).bind λx Z=>(tbO x Z).bind λc Z=>if c=true then qab F b ρ Z else .ok (.bl false) Z:=by
 show((qab F a ρ Z).bind _).bind _=_;cases qab F a ρ Z with
 |ok x m=>congr 1;funext c m';exact qhv
 |_=>rfl
@[simp] theorem qvB{a b:CE}:qab F (.or a b) ρ Z=(qab F a ρ Z).bind λx Z=>(tbO x Z).bind λc Z=>if c=true then .ok (.bl true) Z else qab F b ρ Z:=by
 show((qab F a ρ Z).bind _).bind _=_;cases qab F a ρ Z with
 |ok x m=>congr 1;funext c m';exact qhv
 |_=>rfl
@[simp] theorem qrX{t a b:CE}:qab F (.ife t a b) ρ Z=(qab F t ρ Z).bind λx Z=>(tbO x Z).bind λc Z=>if c=true then qab F a ρ Z else qab F b ρ Z:=by
 show((qab F t ρ Z).bind _).bind _=_;cases qab F t ρ Z with
 |ok x m=>congr 1;funext c m';exact qhv
 |_=>rfl
@[simp] theorem quN:qab F (.chain o p a b c) ρ Z=(qab F a ρ Z).bind λx Z=>(qab F b ρ Z).bind λy Z=>(nvR false (o.g Z x y) Z).bind λz Z=>(tbO z Z).bind λk Z=>if k=true then(qab F c ρ Z).bind λw Z=>nvR false (p.g Z y w) Z else .ok (.bl false) Z:=rfl
@[simp] theorem qjH:qab F (.bn ow b es) ρ Z=(runA F es ρ Z).bind λts Z=>nvR ow (b.g Z ts) Z:=rfl
@[simp] theorem qps:qab F (.bm ow b o es) ρ Z=(qab F o ρ Z).bind λo Z=>if qfL Z o=b.ty then(runA F es ρ Z).bind λts Z=>nvR ow (b.g Z (o::ts)) Z else .no:=rfl
@[simp] theorem qvE{N:String}:qab F (.inst N a) ρ Z=(qab F a ρ Z).bind λx Z=>qc3 N x Z:=rfl
@[simp] theorem qpq:qab F (.sset ow a) ρ Z=(qab F a ρ Z).bind λx Z=>nvR ow (qkD Z x) Z:=rfl
@[simp] theorem qvA:qab F (.slen a) ρ Z=(qab F a ρ Z).bind λx Z=>nvR false (qkC Z x) Z:=rfl
@[simp] theorem qrW:qab F (.sl ow a lo hi) ρ Z=(qab F a ρ Z).bind λx Z=>(runO F lo ρ Z).bind λl Z=>(runO F hi ρ Z).bind λh Z=>nvR ow (gSl Z x l h) Z:=rfl
@[simp] theorem qjF:runO F none ρ Z= .ok none Z:=rfl
noncomputable def asI:T->Mu->R (Option Int)
 |.int i,Z=>.ok (some i) Z
 |_,_=>.no
@[simp] theorem qxh{i:Int}:asI (.int i) Z= .ok (some i) Z:=rfl
@[simp] theorem qjE{e:CE}:runO F (some e) ρ Z=(qab F e ρ Z).bind asI:=by
 show(qab F e ρ Z).bind _=_
 congr 1;funext t m;cases t<;>rfl
@[simp] theorem qay:qab F (.call i es) ρ Z=(runA F es ρ Z).bind λts Z=>F i ts Z:=rfl
@[simp] theorem qvC{c:Str}:qab F (.make c i es) ρ Z=(runA F es ρ Z).bind λts Z=>mkR c (F i) ts Z:=rfl
@[simp] theorem qn5{cs:List Str}{f:Str}:qab F (.fld cs f o) ρ Z=(qab F o ρ Z).bind λo Z=>qot (λc _=>cs.contains c) f o Z:=rfl
@[simp] theorem qvz:qab F (.srtK ow b a) ρ Z=(qab F a ρ Z).bind λx Z=>nvR ow (qoq b Z x) Z:=rfl
theorem qrZ:qab F (.alt a b) ρ Z=qub (qab F a) (qab F b) ρ Z:=rfl
theorem qpt(h:qab F a ρ Z= .no):qab F (.alt a b) ρ Z=qab F b ρ Z:=by rw[qrZ];unfold qub;rw[h]
@[simp] theorem qv5:nvR ow (some (.v t)) Z= .ok t Z:=rfl
@[simp] theorem qzp:nvR ow (some (.t ts)) Z= .ok (.tup ts) Z:=rfl
@[simp] theorem qyD:nvR false (some (.l ts)) Z= .ok (.lst ts) Z:=rfl
@[simp] theorem qyC:nvR true (some (.l ts)) Z= .ok (.obj Z.l.length) (Z.add (.ls ts)):=rfl
@[simp] theorem qyE:nvR false (some (.d ts)) Z= .ok (.dct ts) Z:=rfl
theorem qsR(h:Z.live k=true):nvR ow (some (.p k c t)) Z= .ok t (Z.put k c):=by show(if Z.live k=true then _ else _)=_;rw[if_pos h]
@[simp] theorem qtt:O2.g .add Z (.int i) (.int j)=some (.v (.int (i+j))):=rfl
@[simp] theorem qyW:O2.g .sub Z (.int i) (.int j)=some (.v (.int (i - j))):=rfl
@[simp] theorem qyZ:O2.g .mul Z (.int i) (.int j)=if(-4294967296<=i/\i<=4294967296)\/(-4294967296<=j/\j<=4294967296) then some (.v (.int (i*j))) else none:=rfl
@[simp] theorem qy7:O2.g .div Z (.int i) (.int j)=if 0<j/\j<1073741824 then some (.v (.int (i / j))) else none:=rfl
@[simp] theorem qy0:O2.g .mod Z (.int i) (.int j)=if 0<j then some (.v (.int (i % j))) else none:=rfl
@[simp] theorem qzr:O2.g .lt Z (.int i) (.int j)=some (.v (.bl (decide (i<j)))):=rfl
@[simp] theorem qzs:O2.g .le Z (.int i) (.int j)=some (.v (.bl (decide (i<=j)))):=rfl
@[simp] theorem qzt:O2.g .gt Z (.int i) (.int j)=some (.v (.bl (decide (j<i)))):=rfl
@[simp] theorem qzu:O2.g .ge Z (.int i) (.int j)=some (.v (.bl (decide (j<=i)))):=rfl
@[simp] theorem qy1{i j:Str}:O2.g .lt Z (.str i) (.str j)=some (.v (.bl (qh0 i j))):=rfl
@[simp] theorem qy2{i j:Str}:O2.g .le Z (.str i) (.str j)=some (.v (.bl (!qh0 j i))):=rfl
@[simp] theorem qxQ{i j:Str}:O2.g .add Z (.str i) (.str j)=if i.length+j.length<=100000 then some (.v (.str (i++j))) else none:=rfl
@[simp] theorem qxP:O2.g .add Z (.tup (x::xs)) (.tup (y::ys))=if xs.length+ys.length<=900 then some (.t (x::xs++y::ys)) else none:=rfl
@[simp] theorem qwB:O2.g .add Z (.tup []) (.tup ys)=some (.v (.tup ys)):=rfl
@[simp] theorem qwA:O2.g .add Z (.tup (x::xs)) (.tup [])=if xs.length<=900 then some (.v (.tup (x::xs))) else none:=rfl
theorem qts(h:sqv Z a=some (true,xs))(h':sqv Z b=some (true,ys))(hl:xs.length+ys.length<=1000):O2.g .add Z a b=some (.l (xs++ys)):=by
 show qtx Z a b=_;unfold qtx;split
 ·cases h
 ·cases h
 simp_all
theorem qy6(h:okT 8 (dr1 Z a)=true)(h':okT 8 (dr1 Z b)=true):O2.g .eq Z a b=some (.v (.bl (eqT (dr1 Z a) (dr1 Z b)))):=by show qos _ Z a b=_;unfold qos;simp_all
theorem qyY(h:okT 8 (dr1 Z a)=true)(h':okT 8 (dr1 Z b)=true):O2.g .ne Z a b=some (.v (.bl (!eqT (dr1 Z a) (dr1 Z b)))):=by show qos _ Z a b=_;unfold qos;simp_all
theorem qtq(h:okT 8 t=true)(ha:dr1 Z a=t)(hb:dr1 Z b=t):O2.g .eq Z a b=some (.v (.bl true)):=by rw[qy6 (by rw[ha];exact h) (by rw[hb];exact h),ha,hb,qcz _ _ h]
theorem qmZ(h:okT 8 t=true)(ha:dr1 Z a=t)(hb:dr1 Z b=t):O2.g .ne Z a b=some (.v (.bl false)):=by rw[qyY (by rw[ha];exact h) (by rw[hb];exact h),ha,hb,qcz _ _ h];rfl
theorem qxe{α:Type}[BEq α][LawfulBEq α][DecidableEq α](a b:α):(a==b)=decide (a=b):=by grind
@[simp] theorem qtr:O2.g .eq Z (.int i) (.int j)=some (.v (.bl (decide (i=j)))):=rfl
@[simp] theorem qyX:O2.g .ne Z (.int i) (.int j)=some (.v (.bl (!decide (i=j)))):=rfl
@[simp] theorem qy5{i j:Str}:O2.g .eq Z (.str i) (.str j)=some (.v (.bl (decide (i=j)))):=rfl
@[simp] theorem qwy:O2.g .eq Z (.scr ns) (.lst [])=some (.v (.bl ns.isEmpty)):=rfl
noncomputable def ixT{α:Type}(ts:List α)(i:Int):Option α:=if 0<=i then ts[i.toNat]? else if 0<=(ts.length:Int)+i then ts[((ts.length:Int)+i).toNat]? else none
theorem qdc{α:Type}(ts:List α)(i:Int):atI ts i=ixT ts i:=by
 unfold atI ixN ixT
 grind
@[simp] theorem qy3:O2.g .ix Z (.tup ts) (.int i)=(ixT ts i).map .v:=by rw[<-qdc];rfl
@[simp] theorem qww:O2.g .ix Z (.lst ts) (.int i)=(ixT ts i).map .v:=by rw[<-qdc];rfl
@[simp] theorem qwu:O2.g .ix Z (.scr ns) (.int i)=(ixT ns i).map λn=>.v (.int n):=by
 show(atI _ i).map _=_;rw[qdc];unfold ixT;simp only[List.getElem?_map,List.length_map];split
 ·rw[Option.map_map];rfl
 ·split
  ·rw[Option.map_map];rfl
  ·rfl
theorem qqi{k:Nat}:ixT ts (k:Int)=ts[k]? :=rfl
theorem qbj{α:Type}{ts:List α}{i:Int}(h:0<=i):ixT ts i=ts[i.toNat]? :=by unfold ixT;rw[if_pos h]
@[simp] theorem qyJ{α:Type}{ts:List α}:ixT ts 0=ts[0]? :=qbj (by omega)
@[simp] theorem qyI{α:Type}{ts:List α}:ixT ts 1=ts[1]? :=qbj (by omega)
@[simp] theorem qyH{α:Type}{ts:List α}:ixT ts 2=ts[2]? :=qbj (by omega)
theorem qwv{z:Str}(h:z.length<=1000):O2.g .ix Z (.str z) (.int i)=(ixT z.cps.toList i).map λc=>.v (.str ⟨#[c]⟩):=by show(if z.length<=1000 then _ else _)=_;rw[if_pos h,qdc]
theorem qy4(h:Z.l[k]? =some (.ls ts)):O2.g .ix Z (.obj k) (.int i)=(ixT ts i).map .v:=by
 show(match qck Z _ with|some q=>(atI q.2 i).map _|none=>gDG Z _ _)=_;have e:qck Z (.obj k)=some (true,ts):=by show sqv Z (.obj k)=_;simp only[sqv,h]
 rw[e];show(atI ts i).map _=_;rw[qdc]
theorem qwt(h:Z.l[k]? =some (.du kvs))(hk:qog y=some q):O2.g .ix Z (.obj k) y=(qgQ kvs q).map .v:=by
 have e1:dkv Z (.obj k)=none:=by simp only[dkv,h]
 have e2:duv Z (.obj k)=some kvs:=by simp only[duv,h]
 have e:gDG Z (.obj k) y=(qgQ kvs q).map .v:=by unfold gDG qdH;rw[e1,e2,hk];rfl
 cases y with
 |tup ts=>exact e
 |_=>cases hk
theorem qwx(h:Z.l[k]? =some (.dk kvs))(hk:qix y=some q):O2.g .ix Z (.obj k) y=(qgQ kvs q).map .v:=by
 have e1:dkv Z (.obj k)=some kvs:=by simp only[dkv,h]
 have e:gDG Z (.obj k) y=(qgQ kvs q).map .v:=by unfold gDG qdH;rw[e1,hk];rfl
 cases y with
 |int i=>
  show(match qck Z _ with|some q=>(atI q.2 i).map _|none=>gDG Z _ _)=_;have e2:qck Z (.obj k)=none:=by show sqv Z (.obj k)=_;simp only[sqv,h]
  rw[e2];exact e
 |str s=>exact e
 |_=>cases hk
@[simp] theorem qya:Bn.g .len Z [.lst ts]=some (.v (.int ts.length)):=rfl
@[simp] theorem qx9:Bn.g .len Z [.tup ts]=some (.v (.int ts.length)):=rfl
@[simp] theorem quU:Bn.g .len Z [.scr ns]=some (.v (.int ns.length)):=by show some _=_;rw[List.length_map]
theorem quy{z:Str}(h:z.length<=100000):Bn.g .len Z [.str z]=some (.v (.int z.length)):=by show(match(if z.length<=100000 then some _ else none) with|some n=>some n|none=>qkG Z _)=_;rw[if_pos h]
theorem quz(h:Z.l[k]? =some (.ls ts)):Bn.g .len Z [.obj k]=some (.v (.int ts.length)):=by
 have e:qck Z (.obj k)=some (true,ts):=by show sqv Z (.obj k)=_;simp only[sqv,h]
 show gOr _ _ Z _=_;simp only[gOr,qrm,e]
@[simp] theorem qx6:Bn.g .max Z [.int i,.int j]=some (.v (.int (max i j))):=by
 show some _=_
 grind
@[simp] theorem qx5:Bn.g .min Z [.int i,.int j]=some (.v (.int (min i j))):=by
 show some _=_
 grind
theorem qiP(xs:List Str):qbA (xs.map T.str)=some xs:=by
 induction xs with
 |nil=>rfl
 |cons x xs ih=>show(qbA _).map _=_;rw[ih];rfl
theorem qly(xs:List Bool):qez (xs.map T.bl)=some xs:=by
 induction xs with
 |nil=>rfl
 |cons x xs ih=>show(qez _).map _=_;rw[ih];rfl
@[simp] theorem qxg{bs:List Bool}:Bn.g .all Z [.lst (bs.map T.bl)]=some (.v (.bl (bs.all id))):=by show((qez _)).map _=_;rw[qly];rfl
@[simp] theorem qx4:Bn.g .tup Z [.lst ts]=some (.t ts):=rfl
@[simp] theorem qx3:Bn.g .tup Z [.tup ts]=some (.v (.tup ts)):=rfl
@[simp] theorem qx8:Bn.g .lst Z [.lst ts]=some (.l ts):=rfl
@[simp] theorem qx7:Bn.g .lst Z [.tup ts]=some (.l ts):=rfl
@[simp] theorem qyR{N:String}:qc3 N (.int i) Z= .ok (.bl (qlH N "int")) Z:=rfl
@[simp] theorem qzq{N:String}:qc3 N (.bl i) Z= .ok (.bl (qlH N "bool")) Z:=rfl
@[simp] theorem qyO{N:String}{i:Str}:qc3 N (.str i) Z= .ok (.bl (qlH N "str")) Z:=rfl
@[simp] theorem qyN{N:String}:qc3 N (.tup i) Z= .ok (.bl (qlH N "tuple")) Z:=rfl
@[simp] theorem qyQ{N:String}:qc3 N (.lst i) Z= .ok (.bl (qlH N "list")) Z:=rfl
@[simp] theorem qyP{N:String}:qc3 N .non Z= .ok (.bl (qlH N "NoneType")) Z:=rfl
end
section
theorem qit:leave Z (.ok t Z)= .ok t Z:=if_pos rfl
theorem qav{c:Fcd}{ts:List T}(hl:ts.length=c.n)(h:(runSs F c.b (ts.map some++List.replicate (c.N - c.n) none) Z).bind outT= .ok t Z):c.run F ts Z= .ok t Z:=by
 unfold Fcd.run fnR;rw[if_pos hl,h];unfold lv;split
 ·rfl
 ·exact qit
theorem qkb(hl:m.l=Z.l++cs)(hk:m.k=ks++Z.k)(hc:cs≠[])(cH: ∀p∈ks,Z.l.length<=p.1)(hz:fzT Z.l.length m.l 3 t=some t'):leave Z (.ok t m)= .ok t' Z:=by
 have e0:m.l.length≠Z.l.length:=by simp_all
 have e1:Z.nw m=ks:=by unfold Mu.nw;simp_all
 have e2:Z.apart m=true:=by unfold Mu.apart;rw[e1,hk,hl];simp only[Bool.and_eq_true,decide_eq_true_eq,List.length_append,List.all_eq_true];refine⟨⟨by omega,by simp⟩,λp hp=>.inl (cH p hp)⟩
 have e3:Z.back m=Z:=by
  unfold Mu.back;rw[e1,hl];have:ks.filter (λp=>decide (p.1<Z.l.length))=[]:=List.filter_eq_nil_iff.mpr λp hp=>by have:=cH p hp;simp;omega
  rw[this];simp
 show(if m.l.length=Z.l.length then _ else _)=_
 simp_all
theorem qkH(h:ub t<=n):fzT n l d t=some t:=by cases d<;>(unfold fzT;rw[if_pos h])
end
section
variable{F:Fs}{ρ:Ro}{Z:Mu}
noncomputable def Its(Z:Mu)(it:Ito)(ts:List T):Prop:=(∀i,nxt it Z i=some ts[i]?)/\qbT it Z=ts.length
noncomputable def qdf(F:Fs)(ci:CI)(ρ:Ro)(Z:Mu)(ts:List T):Prop:= ∃it,runI F ci ρ Z= .ok it Z/\Its Z it ts
noncomputable def itv(Z:Mu):T->Option (List T)
 |.lst ts=>some ts
 |.tup ts=>some ts
 |.obj k=>(match Z.l[k]? with|some (.ls ts)=>some ts|_=>none)
 |.str z=>if z.length<=1000 then some (z.cps.toList.map λc=>.str ⟨#[c]⟩) else none
 |_=>none
@[simp] theorem qwm:itv Z (.lst ts)=some ts:=rfl
@[simp] theorem qwl:itv Z (.tup ts)=some ts:=rfl
theorem qfe:Its Z (.fx ts) ts:=⟨λ_=>rfl,rfl⟩
theorem qte(h:Z.l[k]? =some (.ls ts)):Its Z (.lv k) ts:=⟨λi=>by simp only[nxt,h],by simp only[qbT,h]⟩
theorem qa3(he:qab F e ρ Z= .ok t Z)(ht:itv Z t=some ts):qdf F (.gen e) ρ Z ts:=by
 have e0:runI F (.gen e) ρ Z=qrj t Z:=by show(qab F e ρ Z).bind _=_;rw[he];rfl
 unfold qdf;rw[e0];cases t with
 |lst _|tup _=>cases ht;exact⟨_,rfl,qfe⟩
 |str z=>
  simp only[itv] at ht;split at ht
  ·rename_i hz;cases ht;exact⟨_,if_pos hz,qfe⟩
  ·cases ht
 |obj k=>
  simp only[itv] at ht;split at ht
  ·rename_i q;cases ht;exact⟨.lv k,by simp only[qrj,q],qte q⟩
  ·cases ht
 |_=>cases ht
theorem qqj{n:Nat}(he:qab F e ρ Z= .ok (.int n) Z)(hn:n<=1000000):qdf F (.by_ .rng1 [e]) ρ Z ((List.range n).map λk=>.int (k:Nat)):=by refine⟨.fx _,?_,qfe⟩;show(runA F [e] ρ Z).bind (λts Z=>qcb ts Z)=_;simp only[qai,qa1,he,qaa,qcb];rw[if_pos ⟨by omega,by omega⟩];rfl
theorem qth(he:qab F e ρ Z= .ok (.lst ts) Z)(he':qab F e' ρ Z= .ok (.lst us) Z):qdf F (.by_ .zip [e,e']) ρ Z (qiY ts us):=by refine⟨.fx _,?_,qfe⟩;show(runA F _ ρ Z).bind (λts Z=>qfN ts Z)=_;simp only[qai,qa1,he,he',qaa,qfN,sq2]
section
variable{α:Type}{l:List α}{f:α->T}{p:α->Bool}{h:α->T}
theorem qes{dg:T->DS0 Ro}{dt:DS0 Bool}{de:DS0 T}{I:Ro->Prop}{it:Ito}(hn: ∀i,nxt it Z i=some (l.map f)[i]?)(hs: ∀a∈l,∀ρ,I ρ->∃ρ',I ρ'/\dg (f a) ρ Z= .ok ρ' Z/\dt ρ' Z= .ok (p a) Z/\(p a=true->de ρ' Z= .ok (h a) Z)):
  ∀(n i:Nat)(ρ:Ro),l.length<=n+i->I ρ->qba it dg dt de n i ρ Z= .ok (((l.drop i).filter p).map h) Z
 |0,i,ρ,hl,hI=>by have e:(l.map f)[i]? =none:=List.getElem?_eq_none_iff.mpr (by grind);simp only[qba,hn,e];rw[List.drop_eq_nil_of_le (by omega)];rfl
 |n+1,i,ρ,hl,hI=>by
  simp only[qba,hn];by_cases hi:i<l.length
  ·rw[List.getElem?_map,List.getElem?_eq_getElem hi];obtain⟨ρ',i1,e1,e2,e3⟩:=hs l[i] (List.getElem_mem hi) ρ hI;simp only[Option.map_some,e1,e2,qaa];rw[List.drop_eq_getElem_cons hi];cases q:p l[i] with
   |true=>rw[e3 q,qaa,qes hn hs n (i+1) ρ' (by omega) i1,List.filter_cons_of_pos q];rfl
   |false=>rw[if_neg (by decide),qes hn hs n (i+1) ρ' (by omega) i1,List.filter_cons_of_neg (by rw[q];decide)]
  ·rw[List.getElem?_eq_none_iff.mpr (by grind),List.drop_eq_nil_of_le (by omega)];rfl
theorem qer{x:Bool}{n:Nat}{fr:List Nat}{g:CG}{ci:CI}{t:Option CE}{e:CE}{I:Ro->Prop}(hi:qdf F ci ρ Z (l.map f))(h0:I (qbh n fr ρ))(hs: ∀a∈l,∀ρ,I ρ->∃ρ',I ρ'/\qb0 g (f a) ρ Z= .ok ρ' Z/\runT F t ρ' Z= .ok (p a) Z/\(p a=true->qab F e ρ' Z= .ok (h a) Z)):
  qcm x n fr (runI F ci) (qb0 g) (runT F t) (qab F e) ρ Z= .ok (.ls ((l.filter p).map h)) Z:=by obtain⟨it,e1,hn,hl⟩:=hi;unfold qcm dSq;rw[e1,qaa];unfold quf;rw[qhE,qes hn hs _ 0 _ (by grind) h0];cases x<;>rfl
theorem qk4(h:qcm x n fr (runI F ci) (qb0 g) (runT F t) (qab F e) ρ Z= .ok (.ls ts) Z):qab F (.comp false x n fr g ci t e) ρ Z= .ok (.lst ts) Z:=by show(qcm x n fr _ _ _ _ ρ Z).bind _=_;rw[h];rfl
abbrev frO(fr:List Nat)(ρ:Ro):Ro:=fr.map λi=>(ρ[i]?).join
variable (l f p h)
theorem qgt{x:Bool}{fr:List Nat}{ci:CI}{t:Option CE}{e:CE}(hi:qdf F ci ρ Z (l.map f))(ht: ∀a∈l,runT F t (some (f a)::frO fr ρ) Z= .ok (p a) Z)(he: ∀a∈l,p a=true->qab F e (some (f a)::frO fr ρ) Z= .ok (h a) Z):
  qab F (.comp false x 1 fr (.n 0) ci t e) ρ Z= .ok (.lst ((l.filter p).map h)) Z:=
 qk4 (qer (I:=λO=> ∃y,O=y::frO fr ρ) hi ⟨none,rfl⟩ (by rintro a ha O ⟨y,e⟩;exact⟨_,⟨_,rfl⟩,by rw[e];rfl,ht a ha,he a ha⟩))
theorem qdI{x:Bool}{fr:List Nat}{ci:CI}{e:CE}(hi:qdf F ci ρ Z (l.map f))(he: ∀a∈l,qab F e (some (f a)::frO fr ρ) Z= .ok (h a) Z):
  qab F (.comp false x 1 fr (.n 0) ci none e) ρ Z= .ok (.lst (l.map h)) Z:=by
 have:=qgt l f _ h (x:=x) (t:=none) hi (λ_ _=>rfl) λa ha _=>he a ha
 rwa [List.filter_eq_self.mpr λ_ _=>rfl] at this
theorem qw6{x:Bool}{fr:List Nat}{ci:CI}{t:Option CE}{e:CE}{u v:α->T}(hi:qdf F ci ρ Z (l.map λa=>.tup [u a,v a]))(ht: ∀a∈l,runT F t (some (u a)::some (v a)::frO fr ρ) Z= .ok (p a) Z)(he: ∀a∈l,p a=true->qab F e (some (u a)::some (v a)::frO fr ρ) Z= .ok (h a) Z):
  qab F (.comp false x 2 fr (.tup [.n 0,.n 1]) ci t e) ρ Z= .ok (.lst ((l.filter p).map h)) Z:=
 qk4 (qer (I:=λO=> ∃y z,O=y::z::frO fr ρ) hi ⟨none,none,rfl⟩ (by rintro a ha O ⟨y,z,e⟩;exact⟨_,⟨_,_,rfl⟩,by rw[e];rfl,ht a ha,he a ha⟩))
theorem qug{x:Bool}{fr:List Nat}{ci:CI}{e:CE}{u v:α->T}(hi:qdf F ci ρ Z (l.map λa=>.tup [u a,v a]))(he: ∀a∈l,qab F e (some (u a)::some (v a)::frO fr ρ) Z= .ok (h a) Z):
  qab F (.comp false x 2 fr (.tup [.n 0,.n 1]) ci none e) ρ Z= .ok (.lst (l.map h)) Z:=by
 have:=qw6 l _ h (x:=x) (t:=none) hi (λ_ _=>rfl) λa ha _=>he a ha
 rwa [List.filter_eq_self.mpr λ_ _=>rfl] at this
theorem qw5{x:Bool}{fr:List Nat}{ci:CI}{t:Option CE}{e:CE}{u v w:α->T}(hi:qdf F ci ρ Z (l.map λa=>.tup [u a,v a,w a]))(ht: ∀a∈l,runT F t (some (u a)::some (v a)::some (w a)::frO fr ρ) Z= .ok (p a) Z)(he: ∀a∈l,p a=true->qab F e (some (u a)::some (v a)::some (w a)::frO fr ρ) Z= .ok (h a) Z):
  qab F (.comp false x 3 fr (.tup [.n 0,.n 1,.n 2]) ci t e) ρ Z= .ok (.lst ((l.filter p).map h)) Z:=
 qk4 (qer (I:=λO=> ∃y z o,O=y::z::o::frO fr ρ) hi ⟨none,none,none,rfl⟩ (by rintro a ha O ⟨y,z,o,e⟩;exact⟨_,⟨_,_,_,rfl⟩,by rw[e];rfl,ht a ha,he a ha⟩))
theorem qoG{x:Bool}{fr:List Nat}{ci:CI}{e:CE}{u v w:α->T}(hi:qdf F ci ρ Z (l.map λa=>.tup [u a,v a,w a]))(he: ∀a∈l,qab F e (some (u a)::some (v a)::some (w a)::frO fr ρ) Z= .ok (h a) Z):
  qab F (.comp false x 3 fr (.tup [.n 0,.n 1,.n 2]) ci none e) ρ Z= .ok (.lst (l.map h)) Z:=by
 have:=qw5 l _ h (x:=x) (t:=none) hi (λ_ _=>rfl) λa ha _=>he a ha
 rwa [List.filter_eq_self.mpr λ_ _=>rfl] at this
end
@[simp] theorem qpn:runT F none ρ Z= .ok true Z:=rfl
@[simp] theorem qjD:runT F (some e) ρ Z=(qab F e ρ Z).bind tbO:=rfl
noncomputable def qyV:Out->Option Ro
 |.nx ρ=>some ρ
 |.ct ρ=>some ρ
 |_=>none
theorem qkK{α:Type}{l:List α}{f:α->T}{dg:T->DS0 Ro}{db:DS0 Out}{it:Ito}(J:List α->Ro->Mu->Prop)(hn: ∀d r ρ Z,l=d++r->J d ρ Z->nxt it Z d.length=some (r.map f)[0]?)(hs: ∀d a r,l=d++a::r->∀ρ Z,J d ρ Z->∃av aa o af ar,dg (f a) ρ Z= .ok av aa/\db av aa= .ok o af/\qyV o=some ar/\J (d++[a]) ar af):
  ∀(r d:List α)(n:Nat)(ρ:Ro)(Z:Mu),l=d++r->r.length<=n->J d ρ Z->∃ρ' μ',qhz it dg db n d.length ρ Z= .ok (.nx ρ') μ'/\J l ρ' μ'
 |[],d,n,ρ,Z,hl,hr,hJ=>by have e:=hn d [] ρ Z hl hJ;refine⟨ρ,Z,?_,by rw[hl,List.append_nil];exact hJ⟩;cases n<;>(simp only[qhz,e];rfl)
 |a::r,d,n,ρ,Z,hl,hr,hJ=>by
  have e:=hn d (a::r) ρ Z hl hJ;obtain⟨n,rfl⟩: ∃k,n=k+1:=⟨n - 1,by simp at hr;omega⟩
  obtain⟨av,aa,o,af,ar,e1,e2,e3,j2⟩:=hs d a r hl ρ Z hJ;obtain⟨ρ',μ',e4,j3⟩:=qkK J hn hs r (d++[a]) n ar af (by rw[hl];simp) (by simpa using hr) j2;refine⟨ρ',μ',?_,j3⟩;rw[List.length_append] at e4;simp only[qhz,e,List.map_cons,List.getElem?_cons_zero,e1,e2,qaa];cases o with
  |nx _|ct _=>cases e3;exact e4
  |rt _|bk _=>cases e3
theorem qkJ{α:Type}(l:List α)(f:α->T)(J:List α->Ro->Mu->Prop){g:CG}{ci:CI}{b:List CS}{β:Type}{k:Out->Mu->R β}{r:R β}{ts:List T}(ht:ts=l.map f)(hi: ∃it,runI F ci ρ Z= .ok it Z/\(it= .fx ts\/∃q,it= .lv q/\Z.l[q]? =some (.ls ts)/\∀d ρ' μ',J d ρ' μ'->μ'.l[q]? =some (.ls ts)))(h0:J [] ρ Z)(hs: ∀d a r,l=d++a::r->∀ρ Z,J d ρ Z->∃ar af,((qb0 g (f a) ρ Z).bind (runSs F b)= .ok (.nx ar) af\/(qb0 g (f a) ρ Z).bind (runSs F b)= .ok (.ct ar) af)/\J (d++[a]) ar af)(hk: ∀ρ' μ',J l ρ' μ'->k (.nx ρ') μ'=r):(qaM F (.for_ g ci b) ρ Z).bind k=r:=by
 obtain⟨it,e1,e2⟩:=hi;subst ht;rw[qrU,e1,qaa,qkM];have hlen:qbT it Z=l.length:=by
  rcases e2 with rfl|⟨q,rfl,hq,_⟩
  ·exact List.length_map ..
  ·simp only[qbT,hq,List.length_map]
 obtain⟨ρ',μ',e3,j⟩:=qkK (l:=l) (f:=f) (it:=it) J (λd r ρ' μ' hl hJ=>by
  have:(l.map f)[d.length]? =(r.map f)[0]? :=by rw[hl];cases r<;>simp
  rcases e2 with rfl|⟨q,rfl,_,hq⟩
  ·show some (l.map f)[d.length]? =_;rw[this]
  ·simp only[nxt,hq d ρ' μ' hJ,this]) (λd a r hl ρ Z hJ=>by
  obtain⟨ar,af,e,j⟩:=hs d a r hl ρ Z hJ;cases q:qb0 g (f a) ρ Z with
  |ok av aa=>
   rw[q,qaa] at e
   rcases e with e|e<;>exact⟨av,aa,_,af,ar,q,e,rfl,j⟩
  |no=>simp_all
  |ex c m=>simp_all) l [] (qbT it Z) ρ Z rfl (by omega) h0
 simp_all
theorem qcx{α:Type}(l:List α)(f:α->T)(J:List α->Ro->Mu->Prop){g:CG}{ci:CI}{b:List CS}{β:Type}{k:Out->Mu->R β}{r:R β}{ts:List T}(ht:ts=l.map f)(hi: ∃it,runI F ci ρ Z= .ok it Z/\(it= .fx ts\/∃q,it= .lv q/\Z.l[q]? =some (.ls ts)/\∀d ρ' μ',J d ρ' μ'->μ'.l[q]? =some (.ls ts)))(h0:J [] ρ Z)(hs: ∀d a r,l=d++a::r->∀ρ Z,J d ρ Z->∃ar af,(qb0 g (f a) ρ Z).bind (runSs F b)= .ok (.nx ar) af/\J (d++[a]) ar af)(hk: ∀ρ' μ',J l ρ' μ'->k (.nx ρ') μ'=r):(qaM F (.for_ g ci b) ρ Z).bind k=r:=
 qkJ l f J ht hi h0 (λd a r hl ρ Z hJ=>by obtain⟨ar,af,e,j⟩:=hs d a r hl ρ Z hJ;exact⟨ar,af,.inl e,j⟩) hk
theorem qdG{e:CE}{t:T}{ts:List T}(he:qab F e ρ Z= .ok t Z)(ht:t= .lst ts\/t= .tup ts){Q:Ito->Prop}: ∃it,runI F (.gen e) ρ Z= .ok it Z/\(it= .fx ts\/Q it):=by
 refine⟨.fx ts,?_,.inl rfl⟩;show(qab F e ρ Z).bind _=_
 rcases ht with rfl|rfl<;>rw[he]<;>rfl
theorem qqt{e:CE}{n:Nat}(he:qab F e ρ Z= .ok (.int n) Z)(hn:n<=1000000){Q:Ito->Prop}: ∃it,runI F (.by_ .rng1 [e]) ρ Z= .ok it Z/\(it= .fx ((List.range n).map λk=>.int (k:Nat))\/Q it):=by refine⟨.fx _,?_,.inl rfl⟩;show(runA F [e] ρ Z).bind (λts Z=>qcb ts Z)=_;simp only[qai,qa1,he,qaa,qcb];rw[if_pos ⟨by omega,by omega⟩];rfl
@[simp] theorem Mu.add_l{c:Ct}:(Z.add c).l=Z.l++[c]:=rfl
@[simp] theorem Mu.put_l{c:Ct}{k:Nat}:(Z.put k c).l=Z.l.set k c:=rfl
theorem Mu.add_k{c:Ct}(h:ubC c<=Z.l.length):Z.add c=⟨Z.l++[c],Z.k⟩:=by unfold Mu.add;rw[if_pos h]
theorem Mu.put_k{c:Ct}{k:Nat}(h:ubC c<=k):Z.put k c=⟨Z.l.set k c,Z.k⟩:=by unfold Mu.put;rw[if_pos h]
theorem qbG{k:Nat}{c:Ct}(h:Z.l[k]? =some c)(n:c≠.gone):Z.live k=true:=by simp only[Mu.live,h]
theorem qlS: ∀{ts:List T},(∀t∈ts,ub t=0)->ubs ts=0
 |[],_=>rfl
 |t::ts,h=>by unfold ubs;rw[h t List.mem_cons_self,qlS λu hu=>h u (List.mem_cons_of_mem _ hu)];rfl
theorem qoY{κ:Type}: ∀{ts:List (κ×T)},(∀p∈ts,ub p.2=0)->ubf ts=0
 |[],_=>rfl
 |(k,t)::ts,h=>by unfold ubf;rw[h _ List.mem_cons_self,qoY λu hu=>h u (List.mem_cons_of_mem _ hu)];rfl
noncomputable def Mu.on(Z:Mu)(c:Ct):Mu:=⟨Z.l++[c],Z.k⟩
theorem Mu.add_on{c:Ct}(h:ubC c=0):Z.add c=Z.on c:=Mu.add_k (by omega)
@[simp] theorem Mu.on_at{c:Ct}:(Z.on c).l[Z.l.length]? =some c:=by show(Z.l++[c])[_]? =_;simp
theorem Mu.on_put{c c':Ct}(h:ubC c'=0):(Z.on c).put Z.l.length c'=Z.on c':=by rw[Mu.put_k (by omega)];show Mu.mk _ _=_;simp[Mu.on]
theorem qmH(h:fzT Z.l.length (Z.on c).l 3 t=some t'):leave Z (.ok t (Z.on c))= .ok t' Z:=qkb (ks:=[]) rfl rfl (by simp) (by simp) h
theorem qrL{c:Fcd}{ts:List T}(hl:ts.length=c.n)(hk:c.kp=false)(h:(runSs F c.b (ts.map some++List.replicate (c.N - c.n) none) Z).bind outT= .ok t (Z.on d))(hz:fzT Z.l.length (Z.on d).l 3 t=some t'):c.run F ts Z= .ok t' Z:=by unfold Fcd.run fnR;rw[if_pos hl,h];rw[hk];exact qmH hz
theorem qrM{c:Fcd}{ts:List T}(hl:ts.length=c.n)(hk:c.kp=true)(h:(runSs F c.b (ts.map some++List.replicate (c.N - c.n) none) Z).bind outT=r):c.run F ts Z=r:=by unfold Fcd.run fnR;rw[if_pos hl,h];unfold lv;rw[hk,if_pos rfl]
end
abbrev Row:=Int×Str×Int
noncomputable def qac(r:Row):T:=.tup [.int r.1,.str r.2.1,.int r.2.2]
abbrev keyOk:=PL.keyOk
abbrev rowOk:=PL.rowOk
noncomputable def qnx(ns:List Int)(k:Int):Int:=if k<(ns.length:Int) then ns.getD k.toNat 0 else if ns=[] then 0 else ns.getD (k % (ns.length:Int)).toNat 0*31+k
noncomputable def qci(ns:List Int)(k:Int):Int:=(qnx ns k+6151*(k+1))*40692 % 2147483399
noncomputable def qam(ns:List Int)(k many:Int):Int:=(qci ns k*qci ns k+qci ns k / 31) % 2147483629 % many
theorem qaD(h:0<many):0<=qam ns k many:=Int.emod_nonneg _ (by omega)
theorem qaE(h:0<many):qam ns k many<many:=Int.emod_lt_of_pos _ h
abbrev Oo:=CE.o2 false
abbrev Ci(i:Int):=CE.c (.int i)
abbrev Cs(i:Str):=CE.c (.str i)
abbrev vA0:=CE.v 0
abbrev vA1:=CE.v 1
abbrev vA2:=CE.v 2
abbrev vA3:=CE.v 3
abbrev vA4:=CE.v 4
abbrev v5:=CE.v 5
abbrev v6:=CE.v 6
abbrev v7:=CE.v 7
abbrev v8:=CE.v 8
abbrev v9:=CE.v 9
abbrev v10:=CE.v 10
abbrev v11:=CE.v 11
abbrev v12:=CE.v 12
abbrev v13:=CE.v 13
abbrev v14:=CE.v 14
noncomputable def qfy:Fcd:=⟨false,2,2,[.ife (Oo .lt vA1 (.bn false .len [vA0])) [.ret (Oo .ix vA0 vA1)] [],.ife (Oo .eq vA0 (.lst false [])) [.ret (Ci 0)] [],.ret (Oo .add (Oo .mul (Oo .ix vA0 (Oo .mod vA1 (.bn false .len [vA0]))) (Ci 31)) vA1)]⟩
noncomputable def qlf(c:Nat):Fcd:=⟨false,3,4,[.set 3 (Oo .mod (Oo .mul (Oo .add (.call c [vA0,vA1]) (Oo .mul (Ci 6151) (Oo .add vA1 (Ci 1)))) (Ci 40692)) (Ci 2147483399)),.ret (Oo .mod (Oo .mod (Oo .add (Oo .mul vA3 vA3) (Oo .div vA3 (Ci 31))) (Ci 2147483629)) vA2)]⟩
noncomputable def qlh(p:Nat):Fcd:=⟨false,2,5,[.set 2 (Cs "abcdefghijklmnopqrstuvwxyz"),.set 3 (.call p [vA0,vA1,(Ci 16)]),.ife (Oo .gt vA3 (Ci 0)) [.ret (Oo .ix (.lst false [(Cs "a"),(Cs "b"),(Cs "ab")]) (Oo .mod vA3 (Ci 3)))] [],.set 4 (Oo .ix vA2 (.call p [vA0,(Oo .add vA1 (Ci 1)),(Ci 26)])),.ife (Oo .eq (.call p [vA0,(Oo .add vA1 (Ci 2)),(Ci 2)]) (Ci 0)) [.ret vA4] [],.ret (Oo .add vA4 (Oo .ix vA2 (.call p [vA0,(Oo .add vA1 (Ci 3)),(Ci 26)])))]⟩
noncomputable def qcA(p:Nat):Fcd:=⟨false,3,3,[.ife (Oo .eq (.call p [vA0,vA1,(Ci 8)]) (Ci 0)) [.ret (Oo .sub (.call p [vA0,(Oo .add vA1 (Ci 1)),(Oo .add (Oo .mul (Ci 2) vA2) (Ci 1))]) vA2)] [],.ret (Oo .sub (.call p [vA0,(Oo .add vA1 (Ci 1)),(Ci 9)]) (Ci 4))]⟩
noncomputable def qld(p k n:Nat):Fcd:=⟨true,3,8,[.set 3 (.lst true []),.set 4 (.call p [vA0,vA1,(Ci 9)]),.set 5 (Oo .ix (.lst false [(Ci 1),(Ci 3),(Ci 6),(Ci 14)]) (.call p [vA0,(Oo .add vA1 (Ci 1)),(Ci 4)])),.for_ (.n 6) (.by_ .rng1 [(.call p [vA0,(Oo .add vA1 (Ci 2)),(Oo .add vA2 (Ci 1))])]) [.set 7 (Oo .add (Oo .add vA1 (Ci 10)) (Oo .mul (Ci 8) v6)),.set 4 (.bn false .min [(Ci 99),(Oo .add vA4 (.call p [vA0,v7,v5]))]),.exp (.bm false .append vA3 [(.tup [vA4,(.call k [vA0,(Oo .add v7 (Ci 1))]),(.call n [vA0,(Oo .add v7 (Ci 5)),(Ci 99)])])])],.ret vA3]⟩
section
theorem qq3(h0:0<=k):qfy.run F [.scr ns,.int k] Z= .ok (.int (qnx ns k)) Z:=by
 refine qav rfl ?_;unfold qnx;by_cases c1:k<(ns.length:Int)
 ·have e:ixT ns k=some (ns.getD k.toNat 0):=by rw[qbj h0,List.getElem?_eq_getElem (by omega),List.getD_eq_getElem?_getD,List.getElem?_eq_getElem (by omega)];rfl
  simp[qfy,c1,e]
 ·by_cases c2:ns=[]
  ·subst c2;have c1: ¬k<0:=by omega
   simp[qfy,c1]
  ·have hl:=List.length_pos_iff.mpr c2;have m0:0<=k % (ns.length:Int):=Int.emod_nonneg _ (by omega);have m1:k % (ns.length:Int)<(ns.length:Int):=Int.emod_lt_of_pos _ (by omega);have e:ixT ns (k % (ns.length:Int))=some (ns.getD (k % (ns.length:Int)).toNat 0):=by rw[qbj m0,List.getElem?_eq_getElem (by omega),List.getD_eq_getElem?_getD,List.getElem?_eq_getElem (by omega)];rfl
   simp[qfy,c1,c2,e,hl]
theorem qpF(hc:F c [.scr ns,.int k] Z= .ok (.int (qnx ns k)) Z)(hm:0<m):(qlf c).run F [.scr ns,.int k,.int m] Z= .ok (.int (qam ns k m)) Z:=by
 refine qav rfl ?_;have d0:0<=qci ns k:=Int.emod_nonneg _ (by decide);have d1:qci ns k<2147483399:=Int.emod_lt_of_pos _ (by decide);have d2: -4294967296<=qci ns k/\qci ns k<=4294967296:=⟨by omega,by omega⟩
 unfold qam;unfold qci at*;simp[qlf,hc,hm,d2]
structure Drw(F:Fs)(p:Nat)(ns:List Int):Prop where
 p: ∀{Z:Mu}{k m:Int},0<=k->0<m->F p [.scr ns,.int k,.int m] Z= .ok (.int (qam ns k m)) Z
noncomputable def qp9:Str:= "abcdefghijklmnopqrstuvwxyz"
theorem qir: ∀i:Nat,i<26->qp9.cps.toList[i]? =some (97+i):=by decide+kernel
noncomputable def qa9(i:Int):Str:=⟨#[97+i.toNat]⟩
theorem qhy(h:0<=i/\i<26):O2.g .ix Z (.str "abcdefghijklmnopqrstuvwxyz") (.int i)=some (.v (.str (qa9 i))):=by rw[qwv (by decide),qbj h.1];rw[show(Str.cps "abcdefghijklmnopqrstuvwxyz").toList[i.toNat]? =some _ from qir _ (by omega)];rfl
noncomputable def qkf(ns:List Int)(k:Int):Str:=
 if 0<qam ns k 16 then(([("a" :Str), "b", "ab"].getD (qam ns k 16 % 3).toNat "a"))
 else if qam ns (k+2) 2=0 then qa9 (qam ns (k+1) 26) else qa9 (qam ns (k+1) 26)++qa9 (qam ns (k+3) 26)
noncomputable def qfK(ns:List Int)(k most:Int):Int:=if qam ns k 8=0 then qam ns (k+1) (2*most+1) - most else qam ns (k+1) 9 - 4
theorem qof(D:Drw F p ns)(h0:0<=k):(qlh p).run F [.scr ns,.int k] Z= .ok (.str (qkf ns k)) Z:=by
 refine qav rfl ?_;unfold qkf;have p0:=D.p (Z:=Z) (k:=k) (m:=16) h0 (by decide);have p1:=D.p (Z:=Z) (k:=k+1) (m:=26) (by omega) (by decide);have p2:=D.p (Z:=Z) (k:=k+2) (m:=2) (by omega) (by decide);have p3:=D.p (Z:=Z) (k:=k+3) (m:=26) (by omega) (by decide);have g1:=qhy (Z:=Z) ⟨qaD (ns:=ns) (k:=k+1) (many:=26) (by decide),qaE (by decide)⟩;have g3:=qhy (Z:=Z) ⟨qaD (ns:=ns) (k:=k+3) (many:=26) (by decide),qaE (by decide)⟩;have z: ∀i j:Int,(qa9 i).length+(qa9 j).length<=100000:=λ_ _=>by show 1+1<=100000;decide
 by_cases c:0<qam ns k 16
 ·have a0:0<=qam ns k 16 % 3:=by omega
  have a1:qam ns k 16 % 3<3:=by omega
  have e:ixT [T.str "a",.str "b",.str "ab"] (qam ns k 16 % 3)=some (.str ([("a" :Str), "b", "ab"].getD (qam ns k 16 % 3).toNat "a")):=by
   generalize qam ns k 16 % 3=v at*;rw[qbj a0];have:v=0\/v=1\/v=2:=by omega
   rcases this with rfl|rfl|rfl<;>rfl
  simp[qlh,p0,c,e]
 ·by_cases c2:qam ns (k+2) 2=0
  ·simp[qlh,p0,c,p1,p2,c2,g1]
  ·simp[qlh,p0,c,p1,p2,c2,g1,p3,g3,z]
theorem qke(ns:List Int)(k:Int):keyOk (qkf ns k):=by
 unfold qkf;have b1:=qaD (ns:=ns) (k:=k+1) (many:=26) (by decide);have b2:=qaE (ns:=ns) (k:=k+1) (many:=26) (by decide);have b3:=qaD (ns:=ns) (k:=k+3) (many:=26) (by decide);have b4:=qaE (ns:=ns) (k:=k+3) (many:=26) (by decide);split
 ·have: ∀v:Nat,keyOk ([("a" :Str), "b", "ab"].getD v "a"):=λv=>by
   have a:keyOk "a" :=⟨by decide,λc hc=>by revert c;decide⟩
   have b:keyOk "b" :=⟨by decide,λc hc=>by revert c;decide⟩
   have d:keyOk "ab" :=⟨by decide,λc hc=>by revert c;decide⟩
   match v with
   |0=>exact a
   |1=>exact b
   |2=>exact d
   |_+3=>exact a
  exact this _
 ·split
  ·refine⟨⟨Vm 1,by show 1<=2;decide⟩,λc hc=> ?_⟩;have:c=97+(qam ns (k+1) 26).toNat:=by simpa [qa9] using hc
   omega
  ·refine⟨⟨by show 1<=2;decide,Vm 2⟩,λc hc=> ?_⟩;have hc:c∈[97+(qam ns (k+1) 26).toNat,97+(qam ns (k+3) 26).toNat]:=hc;simp at hc;omega
theorem qob(D:Drw F p ns)(h0:0<=k)(hm:0<=most):(qcA p).run F [.scr ns,.int k,.int most] Z= .ok (.int (qfK ns k most)) Z:=by
 refine qav rfl ?_;unfold qfK;have p0:=D.p (Z:=Z) (k:=k) (m:=8) h0 (by decide);have p1:=D.p (Z:=Z) (k:=k+1) (m:=2*most+1) (by omega) (by omega);have p2:=D.p (Z:=Z) (k:=k+1) (m:=9) (by omega) (by decide);by_cases c:qam ns k 8=0
 ·simp[qcA,p0,p1,c]
 ·simp[qcA,p0,p2,c]
theorem qjW(hm:4<=most): -most<=qfK ns k most/\qfK ns k most<=most:=by
 unfold qfK;have b1:=qaD (ns:=ns) (k:=k+1) (many:=2*most+1) (by omega);have b2:=qaE (ns:=ns) (k:=k+1) (many:=2*most+1) (by omega);have b3:=qaD (ns:=ns) (k:=k+1) (many:=9) (by decide);have b4:=qaE (ns:=ns) (k:=k+1) (many:=9) (by decide)
 split<;>omega
noncomputable def qbC(ns:List Int)(k far:Int):Nat->Int->Nat->List Row
 |0,_,_=>[]
 |n+1,m,i=>
  let b:=k+10+8*(i:Int);let m':=min 99 (m+qam ns b far)
  (m',qkf ns (b+1),qfK ns (b+5) 99)::qbC ns k far n m' (i+1)
noncomputable def qfM(ns:List Int)(k:Int):Int:=[(1:Int),3,6,14].getD (qam ns (k+1) 4).toNat 0
theorem qkQ(ns:List Int)(k:Int):1<=qfM ns k:=by
 unfold qfM;have b1:=qaD (ns:=ns) (k:=k+1) (many:=4) (by decide);have b2:=qaE (ns:=ns) (k:=k+1) (many:=4) (by decide);generalize qam ns (k+1) 4=v at*;have:v=0\/v=1\/v=2\/v=3:=by omega
 rcases this with rfl|rfl|rfl|rfl<;>decide
noncomputable def qb9(ns:List Int)(k most:Int):List Row:=qbC ns k (qfM ns k) (qam ns (k+2) (most+1)).toNat (qam ns k 9) 0
theorem qcK(k far:Int): ∀(n:Nat)(m:Int)(i:Nat),(qbC ns k far n m i).length=n
 |0,_,_=>rfl
 |n+1,m,i=>by simp[qbC,qcK k far n]
theorem qd2(hf:1<=far): ∀(n:Nat)(m:Int)(i:Nat),0<=m->∀r∈qbC ns k far n m i,rowOk r/\(m<=99->m<=r.1)
 |0,_,_,_,r,hr=>by cases hr
 |n+1,m,i,hm,r,hr=>by
  have b1:=qaD (ns:=ns) (k:=k+10+8*i) (many:=far) (by omega)
  rcases List.mem_cons.mp hr with rfl|hr
  ·refine⟨⟨⟨by simp only[];omega,by omega⟩,qke _ _,qjW (by decide)⟩,λh=>by omega⟩
  ·obtain⟨h1,h2⟩:=qd2 hf n _ _ (by omega) r hr
   grind
noncomputable def qri(ns:List Int)(k far:Int):Nat->Int->Nat->Int
 |0,m,_=>m
 |n+1,m,i=>qri ns k far n (min 99 (m+qam ns (k+10+8*(i:Int)) far)) (i+1)
theorem qdr(k far:Int): ∀(n:Nat)(m:Int)(i:Nat),qri ns k far (n+1) m i=min 99 (qri ns k far n m i+qam ns (k+10+8*((i+n:Nat):Int)) far)/\
  qbC ns k far (n+1) m i=qbC ns k far n m i++[(qri ns k far (n+1) m i,qkf ns (k+10+8*((i+n:Nat):Int)+1),qfK ns (k+10+8*((i+n:Nat):Int)+5) 99)]
 |0,m,i=>⟨rfl,rfl⟩
 |n+1,m,i=>by obtain⟨h1,h2⟩:=qdr k far n _ _;rw[show i+1+n=i+(n+1) by omega] at h1 h2;refine⟨h1,?_⟩;show _::qbC ns k far _ _ _=_;rw[h2];rfl
theorem qbF(h:m.l[k]? =some (.ls ts)):qfL m (.obj k)= "list" :=by
 have e:qcv m (.obj k)=some ts:=by
  have:qck m (.obj k)=some (true,ts):=by show sqv m (.obj k)=_;simp only[sqv,h]
  simp only[qcv,this]
 unfold qfL;rw[e];rfl
@[simp] theorem qu0:Bm.ty .append= "list" /\Bm.ty .extend= "list" /\Bm.ty .insert= "list" /\Bm.ty .pop= "list" /\Bm.ty .clear= "list" /\Bm.ty .reverse= "list" /\Bm.ty .count= "list" /\Bm.ty .index= "list" :=⟨rfl,rfl,rfl,rfl,rfl,rfl,rfl,rfl⟩
theorem qhK(h:m.l[k]? =some (.ls ts))(hl:ts.length<=1000):nvR ow (Bm.g .append m [.obj k,x]) m= .ok .non (m.put k (.ls (ts++[x]))):=by
 have e:Bm.g .append m [.obj k,x]=some (.p k (.ls (ts++[x])) .non):=by show(qfJ m _).bind _=_;simp only[qfJ,h];exact if_pos hl
 rw[e,qsR (qbG h (by simp))]
theorem qgT(r:Row):ub (qac r)=0:=rfl
theorem qgU(rs:List Row):ubC (.ls (rs.map qac))=0:=qlS λt ht=>by obtain⟨r,_,rfl⟩:=List.mem_map.mp ht;exact qgT r
theorem qpj(D:Drw F p ns)(hq: ∀{Z:Mu}{k:Int},0<=k->F q [.scr ns,.int k] Z= .ok (.str (qkf ns k)) Z)(hn: ∀{Z:Mu}{k most:Int},0<=k->0<=most->F n [.scr ns,.int k,.int most] Z= .ok (.int (qfK ns k most)) Z)(h0:0<=k)(hm:0<=most/\most<=900):
  (qld p q n).run F [.scr ns,.int k,.int most] Z= .ok (.obj Z.l.length) (Z.on (.ls ((qb9 ns k most).map qac))):=by
 have p0:=D.p (Z:=Z.on (.ls [])) (k:=k) (m:=9) h0 (by decide);have p1:=D.p (Z:=Z.on (.ls [])) (k:=k+1) (m:=4) (by omega) (by decide);have p2:=D.p (Z:=Z.on (.ls [])) (k:=k+2) (m:=most+1) (by omega) (by omega);have b1:=qaD (ns:=ns) (k:=k+1) (many:=4) (by decide);have b2:=qaE (ns:=ns) (k:=k+1) (many:=4) (by decide);have b3:=qaD (ns:=ns) (k:=k+2) (many:=most+1) (by omega);have b4:=qaE (ns:=ns) (k:=k+2) (many:=most+1) (by omega);have e5:ixT [T.int 1,.int 3,.int 6,.int 14] (qam ns (k+1) 4)=some (.int (qfM ns k)):=by
  unfold qfM;generalize qam ns (k+1) 4=v at*;rw[qbj b1];have:v=0\/v=1\/v=2\/v=3:=by omega
  rcases this with rfl|rfl|rfl|rfl<;>rfl
 have hf:=qkQ ns k;refine qrM rfl rfl ?_;simp only[qld,qah,qaX,qfX,qa1,qaa,List.length_nil,Nat.zero_le,if_true,Mu.add_on (show ubC (.ls [])=0 from rfl),qaR];simp[p0,p1,e5];refine qcx (List.range (qam ns (k+2) (most+1)).toNat) (λi:Nat=>.int (i:Int)) (λd ρ' μ'=> ∃x6 x7,ρ'=[some (.scr ns),some (.int k),some (.int most),some (.obj Z.l.length),some (.int (qri ns k (qfM ns k) d.length (qam ns k 9) 0)),some (.int (qfM ns k)),x6,x7]/\μ'=Z.on (.ls ((qbC ns k (qfM ns k) d.length (qam ns k 9) 0).map qac))) rfl (qqt ?_ ?_) ?_ ?_ ?_
 ·simp[p2];omega
 ·omega
 ·exact⟨none,none,rfl,rfl⟩
 ·rintro d a r hl ρ' μ' ⟨x6,x7,rfl,rfl⟩;have hda:a=d.length:=by have:=congrArg (λz=>z[d.length]?) hl;simp only[List.getElem?_append_right (Nat.le_refl _),Nat.sub_self,List.getElem?_cons_zero] at this;have:=List.getElem?_eq_some_iff.mp this;obtain⟨h,e⟩:=this;rw[List.getElem_range] at e;exact e.symm
  have d4:d.length<1000:=by have:=congrArg List.length hl;simp at this;omega
  subst hda;obtain⟨s1,s2⟩:=qdr (ns:=ns) k (qfM ns k) d.length (qam ns k 9) 0;rw[Nat.zero_add] at s1 s2;rw[List.length_append,List.length_singleton,s2];have q1:=D.p (Z:=Z.on (.ls ((qbC ns k (qfM ns k) d.length (qam ns k 9) 0).map qac))) (k:=k+10+8*(d.length:Int)) (m:=qfM ns k) (by omega) (by omega);have q2:=hq (Z:=Z.on (.ls ((qbC ns k (qfM ns k) d.length (qam ns k 9) 0).map qac))) (k:=k+10+8*(d.length:Int)+1) (by omega);have q3:=hn (Z:=Z.on (.ls ((qbC ns k (qfM ns k) d.length (qam ns k 9) 0).map qac))) (k:=k+10+8*(d.length:Int)+5) (most:=99) (by omega) (by decide);have ap:=λx=>qhK (x:=x) (ow:=false) (Mu.on_at (Z:=Z) (c:=.ls ((qbC ns k (qfM ns k) d.length (qam ns k 9) 0).map qac))) (by rw[List.length_map,qcK];omega);refine⟨_,_,?_,some (.int d.length),some (.int (k+10+8*(d.length:Int))),rfl,rfl⟩;simp[q1,q2,q3,ap,qbF Mu.on_at,<-s1];have z:=qgU (qbC ns k (qfM ns k) d.length (qam ns k 9) 0++[(qri ns k (qfM ns k) (d.length+1) (qam ns k 9) 0,qkf ns (k+10+8*(d.length:Int)+1),qfK ns (k+10+8*(d.length:Int)+5) 99)]);rw[List.map_append] at z;exact Mu.on_put z
 ·rintro ρ' μ' ⟨x6,x7,rfl,rfl⟩;simp[qb9]
end
noncomputable def qlb:Fcd:=⟨false,1,1,[.ret (.and (.inst "int" vA0) (.nt (.inst "bool" vA0)))]⟩
noncomputable def qet(w:Nat):Fcd:=⟨false,3,3,[.ret (.and (.call w [vA0]) (.chain .le .le vA1 vA0 vA2))]⟩
noncomputable def qla:Fcd:=⟨false,2,2,[.ife (.or (.nt (.inst "str" vA0)) (.nt (.chain .le .le (Ci 1) (.bn false .len [vA0]) vA1))) [.ret (.c (.bl false))] [],.ret (.bn false .all [(.comp false false 1 [] (.n 0) (.gen vA0) none (.chain .le .le (Cs "a") vA0 (Cs "z")))])]⟩
noncomputable def qgE(w:Nat):Fcd:=⟨false,1,1,[.ret (.call w [vA0,(Ci 2)])]⟩
noncomputable def qgC(w k:Nat):Fcd:=⟨false,1,1,[.ife (.or (.nt (.inst "tuple" vA0)) (Oo .ne (.bn false .len [vA0]) (Ci 3))) [.ret (.c (.bl false))] [],.ife (.or (.nt (.call w [(Oo .ix vA0 (Ci 0)),(Ci 0),(Ci 99)])) (.nt (.call k [(Oo .ix vA0 (Ci 1))]))) [.ret (.c (.bl false))] [],.ret (.call w [(Oo .ix vA0 (Ci 2)),(.neg (Ci 99)),(Ci 99)])]⟩
noncomputable def qgz(r:Nat):Fcd:=⟨false,1,1,[.ife (.nt (.bn false .all [(.comp false false 1 [] (.n 0) (.gen vA0) none (.call r [vA0]))])) [.raise "NoRow"] []]⟩
section
theorem qhL{Z:Mu}{α:Type}{l:List α}{p:α->Bool}:Bn.g .all Z [.lst (l.map λa=>.bl (p a))]=some (.v (.bl (l.all p))):=by
 have:(l.map λa=>T.bl (p a))=(l.map p).map T.bl:=by rw[List.map_map];rfl
 rw[this,qxg,List.all_map];rfl
theorem quV{α:Type}(l:List α):(l.all λ_=>true)=true:=List.all_eq_true.mpr λ_ _=>rfl
theorem qlM:qlb.run F [.int i] Z= .ok (.bl true) Z:=qav rfl (rfl)
theorem qiZ(h:F w [.int i] Z= .ok (.bl true) Z):(qet w).run F [.int i,.int a,.int b] Z= .ok (.bl (decide (a<=i)&&decide (i<=b))) Z:=by refine qav rfl ?_;by_cases c:a<=i<;>simp[qet,h,c]
theorem qpg(h:97<=c/\c<=122):qh0 ⟨#[c]⟩ "a" =false/\qh0 "z" ⟨#[c]⟩=false:=by
 have e1:("a" :Str).cps.toList=[97]:=rfl;have e2:("z" :Str).cps.toList=[122]:=rfl;have n1: ¬([c])<[97]:=by
  rw[List.cons_lt_cons_iff]
  grind
 have n2: ¬([122])<[c]:=by
  rw[List.cons_lt_cons_iff]
  grind
 constructor
 ·show decide _=_
  grind
 ·show decide _=_
  grind
theorem qoT{F:Fs}{Z:Mu}{x:Str}(h:keyOk x):qla.run F [.str x,.int 2] Z= .ok (.bl true) Z:=by
 have l1:(1:Int)<=x.length:=by have:=h.1.1;omega
 have l2:(x.length:Int)<=2:=by have:=h.1.2;omega
 have l3:x.length<=1000:=by omega
 refine qav rfl ?_;have cm:=qdI (F:=F) (Z:=Z) (ρ:=[some (.str x),some (.int 2)]) (x:=false) (fr:=[]) (ci:=.gen vA0) (e:=.chain .le .le (Cs "a") vA0 (Cs "z")) _ _ (λ_=>.bl true) (qa3 (t:=.str x) (by simp) (if_pos l3)) λc hc=>by have:=qpg (h.2 c hc);simp[this]
 simp[qla,qlH,l1,l2,quy (show x.length<=100000 by omega),cm,qhL]
theorem qmT{x:Str}(h:F w [.str x,.int 2] Z= .ok (.bl true) Z):(qgE w).run F [.str x] Z= .ok (.bl true) Z:=qav rfl (by simp[qgE,h])
theorem qmR(h:rowOk r)(hw: ∀i a b:Int,F w [.int i,.int a,.int b] Z= .ok (.bl (decide (a<=i)&&decide (i<=b))) Z)(hk: ∀x:Str,keyOk x->F k [.str x] Z= .ok (.bl true) Z):(qgC w k).run F [qac r] Z= .ok (.bl true) Z:=by obtain⟨⟨h1,h2⟩,h3,h4,h5⟩:=h;exact qav rfl (by simp[qgC,qac,qlH,hw,hk _ h3,h1,h2,h4,h5])
theorem qmz{F:Fs}{Z:Mu}{r:Nat}{t:T}{rs:List Row}(ht:itv Z t=some (rs.map qac))(h: ∀x∈rs,rowOk x)(hr: ∀x:Row,rowOk x->F r [qac x] Z= .ok (.bl true) Z):(qgz r).run F [t] Z= .ok .non Z:=by
 refine qav rfl ?_;have cm:=qdI (F:=F) (ρ:=[some t]) (x:=false) (fr:=[]) (ci:=.gen vA0) (e:=.call r [vA0]) rs _ (λ_=>.bl true) (qa3 (by simp) ht) λx hx=>by simp[hr x (h x hx)]
 simp[qgz,cm,qhL]
end
theorem qak(h:qaM F s ρ Z= .ok (.nx ρ') μ')(h':(runSs F ss ρ' μ').bind k=r):(runSs F (s::ss) ρ Z).bind k=r:=by simp_all
theorem qdZ(h:qaM F s ρ Z= .ok (.rt t) μ'):(runSs F (s::ss) ρ Z).bind outT= .ok t μ':=by simp_all
theorem qc5{α:Type}(l:List α)(f:α->T)(J:List α->Ro->Mu->Prop)(ht:ts=l.map f)(hi: ∃it,runI F ci ρ Z= .ok it Z/\(it= .fx ts\/∃q,it= .lv q/\Z.l[q]? =some (.ls ts)/\∀d ρ' μ',J d ρ' μ'->μ'.l[q]? =some (.ls ts)))(h0:J [] ρ Z)(hs: ∀d a r,l=d++a::r->∀ρ Z,J d ρ Z->∃ar af,(qb0 g (f a) ρ Z).bind (runSs F b)= .ok (.nx ar) af/\J (d++[a]) ar af): ∃ρ' μ',qaM F (.for_ g ci b) ρ Z= .ok (.nx ρ') μ'/\J l ρ' μ':=by
 refine Classical.byContradiction λhc=> ?_;cases q:qaM F (.for_ g ci b) ρ Z with
 |no=>
  have:=qcx (k:=λ_ m=>R.ok () ⟨[],[]⟩) l f J ht hi h0 hs (λρ' μ' j=>rfl)
  simp_all
 |ex c m=>
  have:=qcx (k:=λ_ m=>R.ok () ⟨[],[]⟩) l f J ht hi h0 hs (λρ' μ' j=>rfl)
  simp_all
 |ok o m=>
  have:=qcx (k:=λo m=>match o with|.nx ρ'=>(open Classical in if J l ρ' m then R.ok () ⟨[],[]⟩ else R.no)|_=>R.no) (r:=R.ok () ⟨[],[]⟩) l f J ht hi h0 hs (λρ' μ' j=>by simp[j]);rw[q] at this;cases o with
  |nx ρ'=>
   simp_all
  |_=>cases this
structure Sto(Z m:Mu)(cs:List Ct):Prop where
 l:m.l=Z.l++cs
 k: ∃ks,m.k=ks++Z.k/\∀p∈ks,Z.l.length<=p.1
namespace Sto
end Sto
section
theorem qrH(h:Z.l[k]? =some (.ls ts)):sqv Z (.obj k)=some (true,ts):=by simp only[sqv,h]
theorem qp5(h:Z.l[k]? =some (.dk ts)):qfL Z (.obj k)= "dict" :=by
 have e:qcv Z (.obj k)=none:=by
  have:qck Z (.obj k)=none:=by show sqv Z (.obj k)=_;simp only[sqv,h]
  simp only[qcv,this]
 have e2:dkO Z (.obj k)=some ts:=by simp only[dkO,h]
 unfold qfL;rw[e,e2];rfl
@[simp] theorem qjb:Bm.ty .get= "dict" /\Bm.ty .dpop= "dict" /\Bm.ty .dclear= "dict" /\Bm.ty .setdef= "dict" :=⟨rfl,rfl,rfl,rfl⟩
theorem qpf(h:qcv Z t=some ts)(hm:0<=m):gSl Z t none (some m)=some (.l (ts.take m.toNat)):=by
 have e:qqU ts none (some m)=ts.take m.toNat:=by unfold qqU;rw[HT.sIx_none,show(some m)=some (m.toNat:Int) by rw[Int.toNat_of_nonneg hm],HT.sIx_nat,Nat.sub_zero];simp
 have e2:=by
  unfold qcv at h;split at h
  ·rename_i q;cases h;exact q
  ·cases h
 unfold gSl
 simp_all
theorem qjn{ss:List Str}(h:qcv Z t=some (ss.map T.str))(hl:ss.length<64):qkD Z t=some (.l ((SR.sortA RH.ltS (SetL.dd ss)).map T.str)):=by unfold qkD;rw[h,Option.bind_some,if_pos (by simp_all),qiP]
@[simp] theorem qmE:qcv Z (.lst ts)=some ts:=rfl
end
end NV
namespace Wk
open PySem NV L2
theorem qu1{g:Gx}{cds:List (Nat×Fcd)}(ok:(cds.map λp=>(g.fs[p.1]?).map (cFn g))=cds.map λp=>some p.2){j i:Nat}{c:Fcd}(h:cds[j]? =some (i,c))(k:Nat):TTf g (k+1) i=c.run (TTf g k):=by have e:=congrArg (λl=>l[j]?) ok;simp only[List.getElem?_map,h,Option.map_some] at e;obtain⟨p,e1,e2⟩:=Option.map_eq_some_iff.mp (Option.some.inj e);show(match g.fs[i]? with|some p=>(cFn g p).run _|none=>λ_ _=>.no)=_;rw[e1,<-e2]
section
theorem kd(a k:Str):decide ((Sum.inr a:Key)= .inr k)=decide (a=k):=decide_eq_decide.mpr ⟨λh=>by injection h,λh=>by rw[h]⟩
theorem qbg{Z:Mu}{c:Fcd}{ts:List T}{m:Mu}(hl:ts.length=c.n)(h:(runSs F c.b (ts.map some++List.replicate (c.N - c.n) none) Z).bind outT= .ok t m)(hm:m.l.length=Z.l.length):c.run F ts Z= .ok t m:=by
 unfold Fcd.run fnR;rw[if_pos hl,h];unfold NV.lv;split
 ·rfl
 ·exact if_pos hm
inductive Sp where
 |key (y:Str)|over (n:Int)|under (n:Int)|plus (n:Int)|times (n:Int)
 |first(n:Int)|each (n:Int)|window (n:Int)|running|change|unlike
noncomputable def Sp.T:Sp->T
 |.key y=>.tup [.str "key",.str y]
 |.over n=>.tup [.str "over",.int n]
 |.under n=>.tup [.str "under",.int n]
 |.plus n=>.tup [.str "plus",.int n]
 |.times n=>.tup [.str "times",.int n]
 |.first n=>.tup [.str "first",.int n]
 |.each n=>.tup [.str "each",.int n]
 |.window n=>.tup [.str "window",.int n]
 |.running=>.tup [.str "running"]
 |.change=>.tup [.str "change"]
 |.unlike=>.tup [.str "unlike"]
theorem qg1(h:qab F e ρ Z= .ok t μ'):(runSs F (.ret e::ss) ρ Z).bind outT= .ok t μ':=qdZ (by rw[qa0,h];rfl)
theorem qn3(h:qab F e ρ Z= .ok (.bl true) Z):qaM F (.ife e a b) ρ Z=runSs F a ρ Z:=by rw[qeV,h];rfl
theorem qg9(h:qab F e ρ Z= .ok (.bl false) Z):qaM F (.ife e a b) ρ Z=runSs F b ρ Z:=by rw[qeV,h];rfl
theorem qaZ(h:qab F e ρ Z= .ok (.bl true) Z)(h2:runSs F a ρ Z= .ok (.rt t) μ'):(runSs F (.ife e a b::ss) ρ Z).bind outT= .ok t μ':=qdZ (by rw[qn3 h,h2])
theorem qal(h:qab F e ρ Z= .ok (.bl false) Z)(h2:(runSs F ss ρ Z).bind outT= .ok t μ'):(runSs F (.ife e a []::ss) ρ Z).bind outT= .ok t μ':=qak (by rw[qg9 h];rfl) h2
theorem qru(rs:List Row):ub (.lst (rs.map qac))=0:=qlS λt ht=>by obtain⟨r,_,rfl⟩:=List.mem_map.mp ht;exact qgT r
abbrev Ris(rs:List Row):Prop:=rs.Pairwise λa b=>a.1<=b.1
section
theorem qn4{m c:Str}(ho:qab F o ρ Z= .ok (.obj k) Z)(hk:Z.l[k]? =some (.ins c fs))(hi:ms.lookup c=some i)(hn:fs.lookup m=none):qab F (.mth ms m o es) ρ Z=(runA F es ρ Z).bind λts Z=>F i (.obj k::ts) Z:=by show qiH _ _ _ _ ρ Z=_;unfold qiH dSq;rw[ho,qaa];simp only[qtk,hk,hi,hn,Option.map_some,Option.isNone_none,if_true]
theorem qc6{cs:List Str}{f c:Str}(hk:Z.l[k]? =some (.ins c fs))(hc:cs.contains c=true)(hf:fs.lookup f=some t):qot (λc _=>cs.contains c) f (.obj k) Z= .ok t Z:=by simp only[qot,hk,hf];rw[if_pos hc]
theorem qb7{cs:List Str}{f c:Str}(hk:Z.l[k]? =some (.ins c fs))(hc:cs.contains c=true)(hl:fs.length<1000):qtC (λc _=>cs.contains c) f t (.obj k) Z= .ok () (Z.put k (.ins c (qr7 f t fs))):=by simp only[qtC,hk];simp_all
end
noncomputable def qgD:Fcd:=⟨false,1,1,[.ret (.bn false .all [(.comp false false 2 [] (.tup [(.n 0),(.n 1)]) (.by_ .zip [vA0,(.sl false vA0 (some (Ci 1)) none)]) none (Oo .le (Oo .ix vA0 (Ci 0)) (Oo .ix vA1 (Ci 0))))])]⟩
noncomputable def qgx(l:Nat):Fcd:=⟨false,1,1,[.ife (.nt (.call l [vA0])) [.raise "TooLate"] []]⟩
noncomputable def qgA(r o:Nat):Fcd:=⟨false,1,1,[.exp (.call r [vA0]),.exp (.call o [vA0])]⟩
noncomputable def qmS(rs:List Row):Bool:=(rs.zip (rs.drop 1)).all λp=>decide (p.1.1<=p.2.1)
theorem qfg: ∀{rs:List Row},Ris rs->qmS rs=true
 |[],_=>rfl
 |[_],_=>rfl
 |a::b::rs,h=>by have h1:=List.pairwise_cons.mp h;have:=qfg h1.2;unfold qmS at*;simp only[List.drop_succ_cons,List.drop_zero,List.zip_cons_cons,List.all_cons,Bool.and_eq_true,decide_eq_true_eq] at*;exact⟨h1.1 b Vk,this⟩
theorem qrJ(h:qcv Z t=some ts):gSl Z t (some 1) none=some (.l (ts.drop 1)):=by
 have e:qqU ts (some 1) none=ts.drop 1:=by
  unfold qqU;rw[HT.sIx_none,show(some 1)=some ((1:Nat):Int) from rfl,HT.sIx_nat];cases ts with
  |nil=>rfl
  |cons x ts=>simp
 have e2:=by
  unfold qcv at h;split at h
  ·rename_i q;cases h;exact q
  ·cases h
 unfold gSl
 simp_all
theorem qmP(hl:rs.length<=900):qgD.run F [.lst (rs.map qac)] Z= .ok (.bl (qmS rs)) Z:=by
 refine qav rfl ?_;have sl:qab F (.sl false vA0 (some (Ci 1)) none) [some (.lst (rs.map qac))] Z= .ok (.lst ((rs.drop 1).map qac)) Z:=by rw[List.map_drop];show nvR false (gSl Z (.lst _) _ _) Z=_;rw[qrJ rfl];rfl
 have z:=by have:=qth (e:=.v 0) rfl sl;unfold qiY at this;rw[List.zip_map,List.map_map] at this;exact this
 have cm:=qug (x:=false) (fr:=[]) (e:=Oo .le (Oo .ix vA0 (Ci 0)) (Oo .ix vA1 (Ci 0))) _ (λp=>.bl (decide _)) z λp _=>rfl;simp[qgD,cm,qhL,qmS]
theorem qmr(h:F l [t] Z= .ok (.bl true) Z):(qgx l).run F [t] Z= .ok .non Z:=qav rfl (by simp[qgx,h])
theorem qmx(h:F r [t] Z= .ok .non Z)(h':F o [t] Z= .ok .non Z):(qgA r o).run F [t] Z= .ok .non Z:=qav rfl (by simp[qgA,h,h'])
noncomputable def Sp.fine:Sp->Prop
 |.key y=>keyOk y
 |.over n|.under n|.plus n|.times n=> -20<=n/\n<=20
 |.first n|.each n|.window n=>1<=n/\n<=20
 |_=>True
noncomputable def qoJ(k w:Nat):Fcd:=⟨false,1,2,[.ife (.or (.nt (.inst "tuple" vA0)) (.or (Oo .eq (.bn false .len [vA0]) (Ci 0)) (.nt (.inst "str" (Oo .ix vA0 (Ci 0)))))) [.ret (.c (.bl false))] [],.set 1 (Oo .ix vA0 (Ci 0)),.ife (.topin false [("running", "running"),("change", "change"),("unlike", "unlike")] vA1) [.ret (Oo .eq (.bn false .len [vA0]) (Ci 1))] [],.ife (Oo .ne (.bn false .len [vA0]) (Ci 2)) [.ret (.c (.bl false))] [],.ife (Oo .eq vA1 (Cs "key")) [.ret (.call k [(Oo .ix vA0 (Ci 1))])] [],.ife (.topin false [("over", "over"),("under", "under"),("plus", "plus"),("times", "times")] vA1) [.ret (.call w [(Oo .ix vA0 (Ci 1)),(.neg (Ci 20)),(Ci 20)])] [],.ret (.and (.topin false [("first", "first"),("each", "each"),("window", "window")] vA1) (.call w [(Oo .ix vA0 (Ci 1)),(Ci 1),(Ci 20)]))]⟩
noncomputable def qli(s:Nat):Fcd:=⟨false,1,1,[.ife (.or (.nt (.inst "tuple" vA0)) (Oo .gt (.bn false .len [vA0]) (Ci 5))) [.ret (.c (.bl false))] [],.ret (.bn false .all [(.comp false false 1 [] (.n 0) (.gen vA0) none (.call s [vA0]))])]⟩
noncomputable def qgB(a:Nat):Fcd:=⟨false,1,1,[.ife (.nt (.call a [vA0])) [.raise "NoAsk"] []]⟩
theorem qpc{k w:Nat}{p:Sp}(h:p.fine)(hw: ∀i a b:Int,F w [.int i,.int a,.int b] Z= .ok (.bl (decide (a<=i)&&decide (i<=b))) Z)(hk: ∀x:Str,keyOk x->F k [.str x] Z= .ok (.bl true) Z):(qoJ k w).run F [p.T] Z= .ok (.bl true) Z:=by
 have num: ∀{a b i:Int},a<=i/\i<=b->F w [.int i,.int a,.int b] Z= .ok (.bl true) Z:=λ{a b i} q=>by rw[hw,decide_eq_true q.1,decide_eq_true q.2];rfl
 refine qav rfl ?_;cases p with
 |key y=>exact qal rfl (qak rfl (qal rfl (qal rfl (qaZ rfl (by rw[qah,qa0,qay];show R.bind (R.bind (F k [.str y] Z) _) _=_;rw[hk y h];rfl)))))
 |over n|under n|plus n|times n=>exact qal rfl (qak rfl (qal rfl (qal rfl (qal rfl (qaZ rfl (by rw[qah,qa0,qay];show R.bind (R.bind (F w [.int n,.int (-20),.int 20] Z) _) _=_;rw[num h];rfl))))))
 |first n|each n|window n=>exact qal rfl (qak rfl (qal rfl (qal rfl (qal rfl (qal rfl (qg1 (show F w [.int n,.int 1,.int 20] Z=_ from num h)))))))
 |running|change|unlike=>exact qal rfl (qak rfl (qaZ rfl rfl))
theorem quA{s:Nat}{ps:List Sp}(hl:ps.length<=5)(h: ∀p∈ps,F s [p.T] Z= .ok (.bl true) Z):(qli s).run F [.tup (ps.map Sp.T)] Z= .ok (.bl true) Z:=by
 refine qav rfl ?_;have cm:=qdI (F:=F) (Z:=Z) (ρ:=[some (.tup (ps.map Sp.T))]) (x:=false) (fr:=[]) (ci:=.gen vA0) (e:=.call s [vA0]) ps Sp.T (λ_=>.bl true) (qa3 (t:=.tup _) (by simp) rfl) λx hx=>by simp[h x hx]
 change (runSs F _ [some _] Z).bind _=_
 refine qal ?_ (qg1 (by rw[qjH,qai,cm];simp[qhL]));have: ¬(5:Int)<ps.length:=by omega
 have gi:qc3 "tuple" (.tup (ps.map Sp.T)) Z= .ok (.bl true) Z:=rfl;simp[this,gi]
theorem qmy(h:F a [t] Z= .ok (.bl true) Z):(qgB a).run F [t] Z= .ok .non Z:=qav rfl (by simp[qgB,h])
end
abbrev Pl:=Int×Str
inductive Ks where
 |n (c:Option Int)|d (D:List (Str×Int))|w (E:List (Pl×Int))
noncomputable def kS(p:Pl):List Key:=[.inl p.1,.inr p.2]
noncomputable def ct:Ks->Ct
 |.n none=>.dk []
 |.n (some c)=>.dk [(.inr "came",.int c)]
 |.d D=>.dk (D.map λp=>(.inr p.1,.int p.2))
 |.w []=>.dk []
 |.w (x::E)=>.du ((x::E).map λp=>(kS p.1,.int p.2))
section
theorem qhV(s:Ks):ubC (ct s)=0:=by
 cases s with
 |n c=>cases c<;>rfl
 |d D=>exact qoY λp hp=>by obtain⟨y,_,rfl⟩:=List.mem_map.mp hp;rfl
 |w E=>cases E with
  |nil=>rfl
  |cons x E=>exact qoY λp hp=>by obtain⟨y,_,rfl⟩:=List.mem_map.mp hp;rfl
theorem qfb(hl:m.l=l'++cs)(hn:l'.length=Z.l.length)(hk:m.k=Z.k)(hc:cs≠[])(hz:fzT Z.l.length m.l 3 t=some t'):leave Z (.ok t m)= .ok t' ⟨l',Z.k⟩:=by
 have e0:m.l.length≠Z.l.length:=by simp_all
 have e1:Z.nw m=[]:=by unfold Mu.nw;rw[hk];simp
 have e2:Z.apart m=true:=by unfold Mu.apart;simp_all
 have e3:Z.back m=⟨l',Z.k⟩:=by
  unfold Mu.back
  simp_all
 show(if m.l.length=Z.l.length then _ else _)=_
 simp_all
theorem qjt{Z:Mu}{c:Fcd}{ts:List T}{k:Nat}(hl:ts.length=c.n)(hk:c.kp=false)(h:(runSs F c.b (ts.map some++List.replicate (c.N - c.n) none) Z).bind outT= .ok (.obj Z.l.length) ⟨Z.l.set k (ct s)++[.ls us],Z.k⟩)(hu: ∀t∈us,ub t=0):c.run F ts Z= .ok (.lst us) (Z.put k (ct s)):=by
 unfold Fcd.run fnR;rw[if_pos hl,h];unfold lv;rw[hk,if_neg (by decide)];have e:(Z.l.set k (ct s)++[Ct.ls us])[Z.l.length]? =some (.ls us):=by rw[List.getElem?_append_right (by simp)];simp
 have em:us.mapM (fzT Z.l.length (Z.l.set k (ct s)++[Ct.ls us]) 2)=some us:=by
  generalize Z.l.set k (ct s)++[Ct.ls us]=l at*;clear e h
  induction us with
  |nil=>rfl
  |cons u us ih=>rw[List.mapM_cons,qkH (by rw[hu u List.mem_cons_self];exact Nat.zero_le _),ih λt ht=>hu t (Vl _ ht)];rfl
 have hz:fzT Z.l.length (Z.l.set k (ct s)++[Ct.ls us]) 3 (.obj Z.l.length)=some (.lst us):=by unfold fzT;rw[if_neg (by show ¬(Z.l.length+1<=_);omega)];simp only[e];rw[em];rfl
 rw[Mu.put_k (by rw[qhV];exact Nat.zero_le _)];exact qfb (m:=⟨Z.l.set k (ct s)++[Ct.ls us],Z.k⟩) (l':=Z.l.set k (ct s)) (cs:=[.ls us]) rfl (by simp) rfl (by simp) hz
noncomputable def get(D:List (Str×Int))(k:Str):Option Int:=(D.find? λp=>decide (p.1=k)).map (·.2)
noncomputable def put(D:List (Str×Int))(k:Str)(v:Int):List (Str×Int):=if(D.any λp=>decide (p.1=k))=true then D.map (λp=>if p.1=k then(p.1,v) else p) else D++[(k,v)]
abbrev dS(D:List (Str×Int)):List (Key×T):=D.map λp=>(.inr p.1,.int p.2)
theorem qi6(D:List (Str×Int))(k:Str):qgQ (dS D) (.inr k)=(get D k).map T.int:=by unfold qgQ get;rw[List.find?_map,Option.map_map,Option.map_map];have:((λkv=>decide (kv.1= .inr k))∘λp:Str×Int=>((.inr p.1:Key),T.int p.2))=λp=>decide _:=funext λp=>kd p.1 k;rw[this];rfl
theorem qr5(D:List (Str×Int))(k:Str)(v:Int):qmb (dS D) (.inr k) (.int v)=dS (put D k v):=by
 have ha:((dS D).any λkv=>decide (kv.1= .inr k))=D.any λp=>decide (p.1=k):=by rw[List.any_map];congr 1;exact funext λp=>kd p.1 k
 unfold qmb put;rw[ha];by_cases c:(D.any λp=>decide (p.1=k))=true
 ·rw[if_pos c,if_pos c];simp only[dS,List.map_map];refine List.map_congr_left λp _=> ?_;show(if(Sum.inr p.1)= .inr k then((.inr p.1),T.int v) else(.inr p.1,.int p.2))=((.inr (if p.1=k then(p.1,v) else p).1:Key),T.int (if p.1=k then(p.1,v) else p).2)
  by_cases q:p.1=k
  ·simp_all
  simp_all
 simp_all
theorem qgc(D:List (Str×Int))(k:Str)(v:Int):get (put D k v) k=some v:=by
 unfold put get;by_cases c:(D.any λp=>decide (p.1=k))=true
 ·rw[if_pos c]
  induction D with
  |nil=>cases c
  |cons p D ih=>
   rw[List.map_cons];by_cases q:p.1=k
   ·simp_all
   ·rw[if_neg q,List.find?_cons_of_neg (by simp[q])];exact ih (by simpa [q] using c)
 ·rw[if_neg c,List.find?_append];have:=List.find?_eq_none.mpr λp hp e=>c (List.any_eq_true.mpr ⟨p,hp,e⟩);rw[this];simp
theorem qfY(D:List (Str×Int))(k:Str)(v:Int):(put D k v).length<=D.length+1:=by unfold put;split<;>simp
theorem qqr{y:Str}(h:Z.l[k]? =some (ct (.d D))):Bm.g .get Z [.obj k,.str y,.int x]=some (.v (.int ((get D y).getD x))):=by
 have e1:dkv Z (.obj k)=some (dS D):=by simp only[dkv,h,ct]
 have e:qdH Z (.obj k) (.str y)=some (qgQ (dS D) (.inr y)):=by unfold qdH;rw[e1];rfl
 show gOr _ _ Z _=_;unfold gOr;have:qor Z [.obj k,.str y,.int x]=some (.v (.int ((get D y).getD x))):=by show(qdH Z _ _).map _=_;rw[e,qi6];cases get D y<;>rfl
 rw[this]
theorem qkE{y:Str}(h:Z.l[k]? =some (ct (.d D)))(hl:D.length<=1000):qlI Z (.obj k) (.str y) (.int v)=some (k,ct (.d (put D y v))):=by
 have e1:qfJ Z (.obj k)=none:=by simp only[qfJ,h,ct]
 have e2:qlE Z (.obj k)=some (k,dS D):=by simp only[qlE,h,ct]
 unfold qlI;rw[e1,e2];show(if(dS D).length<=1000 then some _ else none)=_;rw[if_pos (by simp_all),qr5];rfl
theorem qkA{y:Str}(h:Z.l[k]? =some (ct (.d D))):O2.g .ix Z (.obj k) (.str y)=(get D y).map λv=>.v (.int v):=by rw[qwx h (rfl),qi6 D y,Option.map_map];rfl
end
noncomputable def fo{S:Type}(f:S->Row->List Row×S):S->List Row->List Row×S
 |s,[]=>([],s)
 |s,r::rs=>((f s r).1++(fo f (f s r).2 rs).1,(fo f (f s r).2 rs).2)
theorem qbU{S:Type}(f:S->Row->List Row×S): ∀(s:S)(a b:List Row),fo f s (a++b)=((fo f s a).1++(fo f (fo f s a).2 b).1,(fo f (fo f s a).2 b).2)
 |_,[],_=>rfl
 |s,r::a,b=>by simp only[List.cons_append,fo,qbU f _ a b,List.append_assoc]
abbrev DD:=List (Str×Int)
noncomputable def qrN(D:DD)(r:Row):List Row×DD:=([(r.1,r.2.1,(get D r.2.1).getD 0+r.2.2)],put D r.2.1 ((get D r.2.1).getD 0+r.2.2))
noncomputable def qlK(D:DD)(r:Row):List Row×DD:=(match get D r.2.1 with|some v=>[(r.1,r.2.1,r.2.2 - v)]|none=>[],put D r.2.1 r.2.2)
noncomputable def qja(D:DD)(r:Row):List Row×DD:=(if get D r.2.1=some r.2.2 then [] else [r],put D r.2.1 r.2.2)
noncomputable def st(Z:Mu)(k:Nat)(s:Ks)(us:List Row):Mu:=⟨Z.l.set k (ct s)++[.ls (us.map qac)],Z.k⟩
section
theorem qg0(hk:k<Z.l.length):(st Z k s us).l[k]? =some (ct s):=by show(Z.l.set k _++_)[k]? =_;rw[List.getElem?_append_left (by simpa using hk),List.getElem?_set_self hk]
theorem qnW:(st Z k s us).l[Z.l.length]? =some (.ls (us.map qac)):=by show(Z.l.set k _++_)[Z.l.length]? =_;simp
theorem qbe(hk:k<Z.l.length):(st Z k s us).put k (ct s')=st Z k s' us:=by rw[Mu.put_k (by rw[qhV];exact Nat.zero_le _)];show Mu.mk ((Z.l.set k _++_).set k _) _=_;rw[List.set_append_left _ _ (by simpa using hk),List.set_set];rfl
theorem qjm:(st Z k s us).put Z.l.length (.ls (vs.map qac))=st Z k s vs:=by rw[Mu.put_k (by rw[qgU];exact Nat.zero_le _)];show Mu.mk _ _=_;simp[st]
theorem qcJ(hk:k<Z.l.length)(hn:ct s≠.gone):(st Z k s us).live k=true:=qbG (qg0 hk) hn
theorem qgs(s:Ks):ct s≠.gone:=by
 cases s with
 |n c=>cases c<;>(intro h;cases h)
 |d D=>intro h;cases h
 |w E=>cases E<;>(intro h;cases h)
theorem qg2{Z:Mu}(h:Z.l[k]? =some (ct s)):Z.l.set k (ct s)=Z.l:=by obtain⟨hk,e⟩:=List.getElem?_eq_some_iff.mp h;rw[<-e,List.set_getElem_self]
theorem qoO{Z:Mu}(h:Z.l[k]? =some (ct s)):Z.add (.ls [])=st Z k s []:=by unfold st;rw[qg2 h];rfl
theorem qj8(hk:Z.l[k]? =some (ct (.d D0)))(hd:D0.length+rs.length<=900)(ha:itv Z a=some (rs.map qac))(hfx:a= .lst (rs.map qac))(hf: ∀D r,(f D r).1.length<=1)(hp: ∀D r,(f D r).2.length<=D.length+1)(hb: ∀(D:DD)(us:List Row)(r:Row),D.length<=900->us.length<=900->runSs F body [some a,some (.obj k),some (.obj Z.l.length),some (.int r.1),some (.str r.2.1),some (.int r.2.2)] (st Z k (.d D) us)= .ok (.nx [some a,some (.obj k),some (.obj Z.l.length),some (.int r.1),some (.str r.2.1),some (.int r.2.2)]) (st Z k (.d (f D r).2) (us++(f D r).1))):
  Fcd.run F ⟨false,2,6,[.set 2 (.lst true []),.for_ (.tup [(.n 3),(.n 4),(.n 5)]) (.gen vA0) body,.ret vA2]⟩ [a,.obj k] Z= .ok (.lst ((fo f D0 rs).1.map qac)) (Z.put k (ct (.d (fo f D0 rs).2))):=by
 have gK: ∀(d:List Row)(D:DD),(fo f D d).1.length<=d.length/\(fo f D d).2.length<=D.length+d.length:=by
  intro d
  induction d with
  |nil=>intro D;exact⟨Vm _,Vm _⟩
  |cons r d ih=>intro D;obtain⟨i1,i2⟩:=ih (f D r).2;have:=hf D r;have:=hp D r;refine⟨?_,?_⟩<;>simp only[fo,List.length_append,List.length_cons]<;>omega
 have fin:(runSs F [.set 2 (.lst true []),.for_ (.tup [(.n 3),(.n 4),(.n 5)]) (.gen vA0) body,.ret vA2] [some a,some (.obj k),none,none,none,none] Z).bind outT= .ok (.obj Z.l.length) (st Z k (.d (fo f D0 rs).2) (fo f D0 rs).1):=by
  refine qak (ρ':=[some a,some (.obj k),some (.obj Z.l.length),none,none,none]) (μ':=st Z k (.d D0) []) ?_ ?_
  ·rw[<-qoO hk];rfl
  obtain⟨ρ',μ',e1,x3,x4,x5,rfl,rfl⟩:=qc5 (F:=F) (Z:=st Z k (.d D0) []) (g:=.tup [(.n 3),(.n 4),(.n 5)]) (ci:=.gen vA0) (b:=body) rs qac (λd ρ' μ'=> ∃x3 x4 x5,ρ'=[some a,some (.obj k),some (.obj Z.l.length),x3,x4,x5]/\μ'=st Z k (.d (fo f D0 d).2) (fo f D0 d).1) rfl (qdG (t:=a) (by simp) (.inl hfx)) ⟨none,none,none,rfl,rfl⟩ (by
   rintro d r q hq ρ' μ' ⟨x3,x4,x5,rfl,rfl⟩;obtain⟨l1,l2⟩:=gK d D0;have d4:d.length<rs.length:=by rw[hq];simp
   refine⟨_,_,hb (fo f D0 d).2 (fo f D0 d).1 r (by omega) (by omega),_,_,_,rfl,?_⟩;rw[qbU];simp[fo])
  exact qak e1 (qdZ rfl)
 exact qjt (us:=(fo f D0 rs).1.map qac) rfl rfl fin λt ht=>by obtain⟨r,_,rfl⟩:=List.mem_map.mp ht;exact qgT r
noncomputable def qra:List CS:=[.put vA1 vA4 (Oo .add (.bm false .get vA1 [vA4,(Ci 0)]) v5),.exp (.bm false .append vA2 [(.tup [vA3,vA4,(Oo .ix vA1 vA4)])])]
noncomputable def qnM:List CS:=[.ife (Oo .in_ vA4 vA1) [.exp (.bm false .append vA2 [(.tup [vA3,vA4,(Oo .sub v5 (Oo .ix vA1 vA4))])])] [],.put vA1 vA4 v5]
noncomputable def qlt:List CS:=[.ife (.or (Oo .nin vA4 vA1) (Oo .ne (Oo .ix vA1 vA4) v5)) [.exp (.bm false .append vA2 [(.tup [vA3,vA4,v5])])] [],.put vA1 vA4 v5]
theorem qwc(h:Z.l[k]? =some (ct (.d D))):qfL Z (.obj k)= "dict" :=qp5 h
theorem qlw(hl:us.length<=900):nvR false (Bm.g .append (st Z k s us) [.obj Z.l.length,qac x]) (st Z k s us)= .ok .non (st Z k s (us++[x])):=by
 have e:us.map qac++[qac x]=(us++[x]).map qac:=by simp
 rw[qhK qnW (by grind),e,qjm]
theorem qh8(hk:Z.l[k]? =some (ct (.d D0)))(hd:D0.length+rs.length<=900):Fcd.run F ⟨false,2,6,[.set 2 (.lst true []),.for_ (.tup [(.n 3),(.n 4),(.n 5)]) (.gen vA0) qra,.ret vA2]⟩ [.lst (rs.map qac),.obj k] Z= .ok (.lst ((fo qrN D0 rs).1.map qac)) (Z.put k (ct (.d (fo qrN D0 rs).2))):=by refine qj8 hk hd rfl rfl (λ_ _=>Vm _) (λD r=>qfY D _ _) λD us r hD hu=> ?_;have au:=(List.getElem?_eq_some_iff.mp hk).1;have g:=qqr (x:=0) (y:=r.2.1) (qg0 (us:=us) (s:=.d D) au);have p:=qkE (y:=r.2.1) (v:=(get D r.2.1).getD 0+r.2.2) (qg0 (us:=us) (s:=.d D) au) (by omega);have lv:=qcJ (us:=us) (s:=.d D) au (qgs _);have ix:=qkA (y:=r.2.1) (qg0 (us:=us) (s:=.d (put D r.2.1 ((get D r.2.1).getD 0+r.2.2))) au);rw[qgc] at ix;have ap:=qlw (Z:=Z) (k:=k) (s:=.d (put D r.2.1 ((get D r.2.1).getD 0+r.2.2))) (x:=(r.1,r.2.1,(get D r.2.1).getD 0+r.2.2)) hu;simp[qra,qwc (qg0 au),g,p,lv,qbe au,qbF qnW,ix];exact congrArg (λr=>R.bind r _) ap
theorem qtp{y:Str}(h:Z.l[k]? =some (ct (.d D))):gIn neg Z (.str y) (.obj k)=some (.v (.bl (if neg then !(get D y).isSome else(get D y).isSome))):=by
 have e0:qck Z (.obj k)=none:=by show sqv Z (.obj k)=_;simp only[sqv,h,ct]
 have e1:dkv Z (.obj k)=some (dS D):=by simp only[dkv,h,ct]
 have e:qdH Z (.obj k) (.str y)=some ((get D y).map T.int):=by unfold qdH;rw[e1,<-qi6];rfl
 unfold gIn
 simp_all
theorem qk9(hk:Z.l[k]? =some (ct (.d D0)))(hd:D0.length+rs.length<=900):Fcd.run F ⟨false,2,6,[.set 2 (.lst true []),.for_ (.tup [(.n 3),(.n 4),(.n 5)]) (.gen vA0) qnM,.ret vA2]⟩ [.lst (rs.map qac),.obj k] Z= .ok (.lst ((fo qlK D0 rs).1.map qac)) (Z.put k (ct (.d (fo qlK D0 rs).2))):=by
 refine qj8 (f:=qlK) hk hd rfl rfl (λD r=>by unfold qlK;split<;>simp) (λD r=>qfY D _ _) λD us r hD hu=> ?_;have au:=(List.getElem?_eq_some_iff.mp hk).1;have i1:O2.g .in_ (st Z k (.d D) us) (.str r.2.1) (.obj k)=_:=qtp (neg:=false) (y:=r.2.1) (qg0 (us:=us) (s:=.d D) au);have ix:=qkA (y:=r.2.1) (qg0 (us:=us) (s:=.d D) au);have p:=λus=>qkE (y:=r.2.1) (v:=r.2.2) (qg0 (us:=us) (s:=.d D) au) (by omega);have lv:=λus=>qcJ (us:=us) (s:=.d D) au (qgs _);cases q:get D r.2.1 with
 |none=>rw[q] at i1;simp[qnM,i1,p,lv,qbe au,qlK,q]
 |some v=>rw[q] at i1 ix;have ap:=qlw (Z:=Z) (k:=k) (s:=.d D) (x:=(r.1,r.2.1,r.2.2 - v)) hu;have ap:nvR false (Bm.g .append (st Z k (.d D) us) [.obj Z.l.length,.tup _]) (st Z k (.d D) us)=_:=ap;simp[qnM,i1,ix,qbF qnW,ap,p,lv,qbe au,qlK,q]
theorem qi9(hk:Z.l[k]? =some (ct (.d D0)))(hd:D0.length+rs.length<=900):Fcd.run F ⟨false,2,6,[.set 2 (.lst true []),.for_ (.tup [(.n 3),(.n 4),(.n 5)]) (.gen vA0) qlt,.ret vA2]⟩ [.lst (rs.map qac),.obj k] Z= .ok (.lst ((fo qja D0 rs).1.map qac)) (Z.put k (ct (.d (fo qja D0 rs).2))):=by
 refine qj8 (f:=qja) hk hd rfl rfl (λD r=>by unfold qja;simp only;split<;>simp) (λD r=>qfY D _ _) λD us r hD hu=> ?_;have au:=(List.getElem?_eq_some_iff.mp hk).1;have i1:O2.g .nin (st Z k (.d D) us) (.str r.2.1) (.obj k)=_:=qtp (neg:=true) (y:=r.2.1) (qg0 (us:=us) (s:=.d D) au);have ix:=qkA (y:=r.2.1) (qg0 (us:=us) (s:=.d D) au);have p:=λus=>qkE (y:=r.2.1) (v:=r.2.2) (qg0 (us:=us) (s:=.d D) au) (by omega);have lv:=λus=>qcJ (us:=us) (s:=.d D) au (qgs _);have ap:=qlw (Z:=Z) (k:=k) (s:=.d D) (x:=r) hu;have ap:nvR false (Bm.g .append (st Z k (.d D) us) [.obj Z.l.length,.tup [.int r.1,.str r.2.1,.int r.2.2]]) (st Z k (.d D) us)=_:=ap;cases q:get D r.2.1 with
 |none=>rw[q] at i1;simp[qlt,i1,qbF qnW,ap,p,lv,qbe au,qja,q]
 |some v=>
  rw[q] at i1 ix;by_cases c:v=r.2.2
  ·simp[qlt,i1,ix,c,p,lv,qbe au,qja,q]
  ·simp[qlt,i1,ix,c,qbF qnW,ap,p,lv,qbe au,qja,q]
noncomputable def qaO(many:Int)(c:Option Int)(rs:List Row):List Row×Option Int:=(rs.take (max (many - c.getD 0) 0).toNat,some (c.getD 0+rs.length))
theorem qtm(h:Z.l[k]? =some (ct (.n c))):Bm.g .get Z [.obj k,.str "came",.int 0]=some (.v (.int (c.getD 0)))/\(∀v,qlI Z (.obj k) (.str "came") (.int v)=some (k,ct (.n (some v))))/\qfL Z (.obj k)= "dict" :=by
 cases c with
 |none=>have h:Z.l[k]? =some (ct (.d [])):=h;exact⟨qqr h,λv=>qkE h (by simp),qwc h⟩
 |some c=>
  have h:Z.l[k]? =some (ct (.d [("came",c)])):=h;refine⟨?_,λv=> ?_,qwc h⟩
  ·rw[qqr h];simp[get]
  ·rw[qkE h (by simp)];simp[put,ct]
noncomputable def qda:Fcd:=⟨false,3,4,[.set 3 (.bm false .get vA2 [(Cs "came"),(Ci 0)]),.put vA2 (Cs "came") (Oo .add vA3 (.bn false .len [vA0])),.ret (.sl false vA0 none (some (.bn false .max [(Oo .sub vA1 vA3),(Ci 0)])))]⟩
theorem qm3(hk:Z.l[k]? =some (ct (.n c))):qda.run F [.lst (rs.map qac),.int many,.obj k] Z= .ok (.lst ((qaO many c rs).1.map qac)) (Z.put k (ct (.n (qaO many c rs).2))):=by
 obtain⟨g,p,m⟩:=qtm hk;have lv:=qbG hk (qgs _);have sl:=qpf (Z:=Z.put k (ct (.n (some (c.getD 0+rs.length))))) (t:=.lst (rs.map qac)) qmE (m:=max (many - c.getD 0) 0) (by omega);have e:(runSs F qda.b [some (.lst (rs.map qac)),some (.int many),some (.obj k),none] Z).bind outT= .ok (.lst ((qaO many c rs).1.map qac)) (Z.put k (ct (.n (qaO many c rs).2))):=by simp[qda,m,g,p,lv,sl,qaO]
 exact qbg rfl e (by simp)
end
section
noncomputable def qcl(many:Int)(c:Option Int)(rs:List Row):List Row×Option Int:=(RH.pickL rs (some (many - 1 - c.getD 0)) none (some many),some ((c.getD 0+rs.length) % many))
theorem qjN{α β:Type}(f:α->β)(xs:List α)(lo hi st:Option Int):RH.pickL (xs.map f) lo hi st=(RH.pickL xs lo hi st).map f:=by unfold RH.pickL;rw[List.map_filterMap];simp
noncomputable def qfx:Fcd:=⟨false,3,4,[.set 3 (.bm false .get vA2 [(Cs "came"),(Ci 0)]),.put vA2 (Cs "came") (Oo .mod (Oo .add vA3 (.bn false .len [vA0])) vA1),.ret (.sl3 false vA0 (some (Oo .sub (Oo .sub vA1 (Ci 1)) vA3)) none vA1)]⟩
theorem qrV:qab F (.sl3 ow a lo hi e) ρ Z=(qab F a ρ Z).bind λx Z=>(runO F lo ρ Z).bind λl Z=>(runO F hi ρ Z).bind λh Z=>(runO F (some e) ρ Z).bind λt Z=>nvR ow (quR Z x l h t) Z:=rfl
theorem qqz(hm:0<many)(hk:Z.l[k]? =some (ct (.n c))):qfx.run F [.lst (rs.map qac),.int many,.obj k] Z= .ok (.lst ((qcl many c rs).1.map qac)) (Z.put k (ct (.n (qcl many c rs).2))):=by
 obtain⟨g,p,m⟩:=qtm hk;have lv:=qbG hk (qgs _);have sl: ∀Z,quR Z (.lst (rs.map qac)) (some (many - 1 - c.getD 0)) none _=some _:=λZ=>by show(if some many≠some 0 then _ else _)=_;rw[if_pos (by grind),qjN]
 have e:(runSs F qfx.b [some (.lst (rs.map qac)),some (.int many),some (.obj k),none] Z).bind outT= .ok (.lst ((qcl many c rs).1.map qac)) (Z.put k (ct (.n (qcl many c rs).2))):=by simp[qfx,m,g,p,lv,hm,qrV,sl,qcl]
 exact qbg rfl e (by simp)
abbrev EE:=List (Pl×Int)
noncomputable def kP(p:Pl):List PL.Ky:=[.i p.1,.s p.2]
noncomputable def qiR(E:EE):EE:=SR.srt (λx=>SR.rank PL.ltKs (E.map λx=>kP x.1) (kP x.1)) E
noncomputable def quF(size:Int)(p:Pl×Int):Row:=((p.1.1+1)*size - 1,p.1.2,p.2)
noncomputable def qaA(size:Int)(E:EE):List Row:=(qiR E).map (quF size)
abbrev dW(E:EE):List (List Key×T):=E.map λp=>(kS p.1,.int p.2)
noncomputable def plT(p:Pl):T:=.tup [.int p.1,.str p.2]
theorem qoh(h:kS p=kS q):p=q:=by obtain⟨a,b⟩:=p;simp only[kS,List.cons.injEq,Sum.inl.injEq,Sum.inr.injEq,and_true] at h;rw[h.1,h.2]
theorem kdW(a p:Pl):decide (kS a=kS p)=decide (a=p):=decide_eq_decide.mpr ⟨qoh,λh=>by rw[h]⟩
noncomputable def qdl(E:EE)(p:Pl):Option Int:=(E.find? λx=>decide (x.1=p)).map (·.2)
noncomputable def qbn(E:EE)(p:Pl)(v:Int):EE:=if(E.any λx=>decide (x.1=p))=true then E.map (λx=>if x.1=p then(x.1,v) else x) else E++[(p,v)]
theorem qnT(E:EE)(p:Pl):qgQ (dW E) (kS p)=(qdl E p).map T.int:=by unfold qgQ qdl;rw[List.find?_map,Option.map_map,Option.map_map];have:((λkv=>decide (kv.1=kS p))∘λx:Pl×Int=>(kS x.1,T.int x.2))=λx=>decide _:=funext λx=>kdW x.1 p;rw[this];rfl
theorem qr4(E:EE)(p:Pl)(v:Int):qmb (dW E) (kS p) (.int v)=dW (qbn E p v):=by
 have ha:((dW E).any λkv=>decide (kv.1=kS p))=E.any λx=>decide (x.1=p):=by rw[List.any_map];congr 1;exact funext λx=>kdW x.1 p
 unfold qmb qbn;rw[ha];by_cases c:(E.any λx=>decide (x.1=p))=true
 ·rw[if_pos c,if_pos c];simp only[dW,List.map_map];refine List.map_congr_left λx _=> ?_;show(if kS x.1=kS p then(kS x.1,T.int v) else(kS x.1,.int x.2))=(kS (if x.1=p then(x.1,v) else x).1,T.int (if x.1=p then(x.1,v) else x).2)
  by_cases q:x.1=p
  ·simp_all
  ·rw[if_neg (λh=>q (qoh h)),if_neg q]
 simp_all
theorem qjJ(E:EE)(p:Pl)(v:Int):qbn E p v≠[]:=by
 unfold qbn;split
 ·rename_i h;cases E with
  |nil=>cases h
  |cons _ _=>simp
 ·simp
theorem qud(h:E≠[]):ct (.w E)= .du (dW E):=by
 cases E with
 |nil=>exact absurd rfl h
 |cons x E=>rfl
theorem qlZ(E:EE):qjq (E.map λx=>plT x.1)=(qiR E).map λx=>plT x.1:=by show SR.srt _ _=_;unfold qiR;rw[<-SR.srt_map];intro x;rw[List.map_map];rfl
theorem qeK(E:EE):qbN (E.map λx=>plT x.1)=true:=by
 cases E with
 |nil=>rfl
 |cons x E=>show(PL.okShape [2,0,1]&&(E.map _).all _)=true;rw[List.all_map];exact List.all_eq_true.mpr λy _=>rfl
theorem qvi(h:Z.l[k]? =some (ct (.w E)))(hl:E.length<64):Bn.g .srt Z [.obj k]=some (.l ((qiR E).map λx=>plT x.1)):=by
 have e0:qcv Z (.obj k)=none:=by
  have:qck Z (.obj k)=none:=by show sqv Z (.obj k)=_;cases E<;>simp only[sqv,h,ct]
  simp only[qcv,this]
 have e:qrG Z (.obj k)=some (E.map λx=>plT x.1):=by
  unfold qrG;rw[e0];cases E with
  |nil=>simp only[dkv,h,ct];rfl
  |cons x E=>
   have e2:dkv Z (.obj k)=none:=by simp only[dkv,h,ct]
   have e3:duv Z (.obj k)=some (dW (x::E)):=by simp only[duv,h,ct]
   rw[e2,e3];show some _=_;simp only[dW,List.map_map];rfl
 show(qrG Z (.obj k)).bind _=_;rw[e];rw[Option.bind_some,if_pos ⟨by simp_all,qeK E⟩,qlZ]
noncomputable def qbJ:Fcd:=⟨false,2,2,[.ret (.comp false false 1 [0,1] (.n 0) (.gen (.bn false .srt [vA1])) none (.tup [(Oo .sub (Oo .mul (Oo .add (Oo .ix vA0 (Ci 0)) (Ci 1)) vA1) (Ci 1)),(Oo .ix vA0 (Ci 1)),(Oo .ix vA2 vA0)]))]⟩
theorem qwO{E:EE}(nd:(E.map (·.1)).Nodup){x:Pl×Int}(hx:x∈E):E.find? (λy=>decide (y.1=x.1))=some x:=by
 induction E with
 |nil=>cases hx
 |cons y E ih=>
  rw[List.map_cons,List.nodup_cons] at nd
  rcases List.mem_cons.mp hx with rfl|hx
  ·simp
  ·rw[List.find?_cons_of_neg,ih nd.2 hx];intro e
   simp_all
theorem qdR{Z:Mu}{E:EE}{size:Int}(h:Z.l[k]? =some (ct (.w E)))(hl:E.length<64)(nd:(E.map (·.1)).Nodup)(hs:0<size/\size<=4294967296):qbJ.run F [.int size,.obj k] Z= .ok (.lst ((qaA size E).map qac)) Z:=by
 refine qav rfl ?_;have m: -4294967296<=size/\size<=4294967296:=by omega
 have cm:=qdI (F:=F) (Z:=Z) (ρ:=[some (.int size),some (.obj k)]) (x:=false) (fr:=[0,1]) (ci:=.gen (.bn false .srt [vA1])) (e:=.tup [(Oo .sub (Oo .mul (Oo .add (Oo .ix vA0 (Ci 0)) (Ci 1)) vA1) (Ci 1)),(Oo .ix vA0 (Ci 1)),(Oo .ix vA2 vA0)]) (qiR E) (λx=>plT x.1) (λx=>qac (quF size x)) (qa3 (t:=.lst ((qiR E).map λx=>plT x.1)) (by simp[qvi h hl]) rfl) λx hx=>by
  have hx:x∈E:=(SR.mem_srt _).mp hx;have hn:E≠[]:=λz=>by rw[z] at hx;cases hx
  rw[qud hn] at h;have ix:=qwt h (show qog (plT x.1)=some (kS x.1) from rfl);rw[qnT] at ix;unfold qdl at ix;rw[qwO nd hx] at ix;have i0:O2.g .ix Z (plT x.1) (.int 0)=some (.v (.int x.1.1)):=rfl;have i1:O2.g .ix Z (plT x.1) (.int 1)=some (.v (.str x.1.2)):=rfl;simp[i0,i1,ix,m,qac,quF]
 have e:((qiR E).map λx=>qac (quF size x))=(qaA size E).map qac:=by unfold qaA;rw[List.map_map];rfl
 rw[e] at cm;simp only[qbJ,qah,qa0]
 simp_all
end
noncomputable def qro(E:EE)(w:Int):Bool:=match E with|x::_=>decide (x.1.1<w)|[]=>false
noncomputable def qaQ(size:Int)(E:EE)(r:Row):List Row×EE:=
 if qro E (r.1 / size)=true then(qaA size E,qbn [] (r.1 / size,r.2.1) r.2.2) else([],qbn E (r.1 / size,r.2.1) ((qdl E (r.1 / size,r.2.1)).getD 0+r.2.2))
structure WI(size:Int)(E:EE)(m:Int):Prop where
 nd:(E.map (·.1)).Nodup
 one: ∃w,(∀x∈E,x.1.1=w)/\w<=m / size
theorem qha(h:x∈qbn E p v):x.1=p\/∃y∈E,y.1=x.1:=by
 unfold qbn at h;split at h
 ·obtain⟨y,hy,rfl⟩:=List.mem_map.mp h;by_cases c:y.1=p
  ·rw[if_pos c];exact .inl c
  ·rw[if_neg c];exact .inr ⟨y,hy,rfl⟩
 ·rcases List.mem_append.mp h with h|h
  ·exact .inr ⟨x,h,rfl⟩
  ·simp at h;exact .inl (by rw[h])
theorem qjK(nd:(E.map (·.1)).Nodup):((qbn E p v).map (·.1)).Nodup:=by
 unfold qbn;split
 ·rw[List.map_map];have:((λx=>x.1)∘λx=>if x.1=p then(x.1,v) else x)=λx=>x.1:=funext λx=>by
   show(if x.1=p then(x.1,v) else x).1=x.1
   split<;>rfl
  rw[this];exact nd
 ·rename_i c;rw[List.map_append,List.nodup_append];refine⟨nd,by simp,λa ha b hb q=>c ?_⟩
  simp_all
theorem qhb(E:EE)(p:Pl)(v:Int):(qbn E p v).length<=E.length+1:=by unfold qbn;split<;>simp
theorem WI.step(hs:0<size)(h:WI size E m)(hm:m<=r.1):WI size (qaQ size E r).2 r.1:=by
 obtain⟨w,hw,le⟩:=h.one;have mono:=Int.ediv_le_ediv hs hm;unfold qaQ;by_cases c:qro E (r.1 / size)=true
 ·rw[if_pos c];refine⟨qjK (E:=[]) List.nodup_nil,r.1 / size,λx hx=> ?_,Int.le_refl _⟩
  rcases qha (E:=[]) hx with e|⟨y,hy,_⟩
  ·rw[e]
  ·cases hy
 ·rw[if_neg c];refine⟨qjK h.nd,r.1 / size,λx hx=> ?_,Int.le_refl _⟩
  rcases qha hx with e|⟨y,hy,e⟩
  ·rw[e]
  ·cases E with
   |nil=>cases hy
   |cons z E=>
    have c:=λq=>c (Vv q)
    grind
section
theorem qwg(h:Z.l[k]? =some (ct (.w E))):Bn.g .len Z [.obj k]=some (.v (.int E.length)):=by
 have e0:qck Z (.obj k)=none:=by show sqv Z (.obj k)=_;cases E<;>simp only[sqv,h,ct]
 show gOr _ _ Z _=_;cases E with
 |nil=>
  have e1:dkv Z (.obj k)=some []:=by simp only[dkv,h,ct]
  simp only[gOr,qrm,e0,e1];rfl
 |cons x E=>
  have e1:dkv Z (.obj k)=none:=by simp only[dkv,h,ct]
  have e2:duv Z (.obj k)=some (dW (x::E)):=by simp only[duv,h,ct]
  simp only[gOr,qrm,qkG,e0,e1,e2,Option.map_none,Option.map_some,List.length_map]
theorem qwe(h:Z.l[k]? =some (ct (.w E)))(hn:E≠[])(hw: ∀x∈E,x.1.1=w): ∃y:Str,Bn.g .max Z [.obj k]=some (.v (.tup [.int w,.str y])):=by
 rw[qud hn] at h;have e2:duv Z (.obj k)=some (dW E):=by simp only[duv,h]
 have em:(dW E).map (λkv=>PL.isOf kv.1)=E.map (·.1):=by simp only[List.map_map];rfl
 have aN:E.map (·.1)≠[]:=by simpa using hn
 have hb:=DH.bestIS_lt aN;have hx:(E.map (·.1)).getD (DH.bestIS (E.map (·.1))) ((0, ""):DH.IS)∈E.map (·.1):=by rw[List.getD_eq_getElem?_getD,List.getElem?_eq_getElem hb];exact List.getElem_mem hb
 obtain⟨x,hx,ex⟩:=List.mem_map.mp hx;refine⟨x.1.2,?_⟩;show gOr qtw _ Z [.obj k]=_;have g1:qtw Z [.obj k]=none:=rfl;have g2:qm0 Z [.obj k]=some (.v (.tup [.int w,.str x.1.2])):=by show(duv Z _).bind _=_;rw[e2,Option.bind_some,if_pos ⟨by simpa using hn,by rw[List.all_map];exact List.all_eq_true.mpr λ_ _=>rfl⟩,em,<-ex];rw[<-hw x hx];rfl
 unfold gOr;exact g2
noncomputable def qnL(wr:Nat):List CS:=[.set 7 (.tup [(Oo .div vA4 vA1),v5]),.ife (.and (Oo .gt (.bn false .len [vA2]) (Ci 0)) (Oo .lt (Oo .ix (.bn false .max [vA2]) (Ci 0)) (Oo .ix v7 (Ci 0)))) [.exp (.bm false .extend vA3 [(.call wr [vA1,vA2])]),.exp (.alt (.bm false .clear vA2 []) (.bm false .dclear vA2 []))] [],.put vA2 v7 (Oo .add (.bm false .get vA2 [v7,(Ci 0)]) v6)]
theorem qtD(h1:us.length<=900)(h2:vs.length<=900):nvR false (Bm.g .extend (st Z k s us) [.obj Z.l.length,.lst (vs.map qac)]) (st Z k s us)= .ok .non (st Z k s (us++vs)):=by
 have e:Bm.g .extend (st Z k s us) [.obj Z.l.length,.lst (vs.map qac)]=some (.p Z.l.length (.ls ((us++vs).map qac)) .non):=by
  show(qfJ _ _).bind _=_;simp only[qfJ,qnW];show(if _ then some _ else none)=_
  grind
 rw[e,qsR (qbG qnW (by simp)),qjm]
theorem qvH(hk:k<Z.l.length)(hl:E.length<=900)(h2:ρ[2]? =some (some (.obj k)))(h7:ρ[7]? =some (some (plT p)))(h6:ρ[6]? =some (some (.int n))):qaM F (.put vA2 v7 (Oo .add (.bm false .get vA2 [v7,(Ci 0)]) v6)) ρ (st Z k (.w E) us)= .ok (.nx ρ) (st Z k (.w (qbn E p ((qdl E p).getD 0+n))) us):=by
 have a:=qg0 (us:=us) (s:=.w E) hk;have ky:qog (plT p)=some (kS p):=rfl;have lv:=qcJ (us:=us) (s:=.w E) hk (qgs _);have fin: ∀(E:EE)(v:Int),E.length<=900->∀m:Mu,m.l[k]? =some (.du (dW E))->m.put k (.du (dW (qbn E p v)))=st Z k (.w (qbn E p v)) us->qlI m (.obj k) (plT p) (.int v)=some (k,.du (dW (qbn E p v))):=λE v hE m hm _=>by
  have e0:qfJ m (.obj k)=none:=by simp only[qfJ,hm]
  have e1:qlE m (.obj k)=none:=by simp only[qlE,hm]
  have e2:quO m (.obj k)=some (k,dW E):=by simp only[quO,hm]
  unfold qlI;rw[e0,e1,e2,ky];show(if(dW E).length<=1000 then some (k,Ct.du (qmb (dW E) (kS p) (.int v))) else none)=_;rw[if_pos (by rw[List.length_map];omega),qr4]
 have mk:qfL (st Z k (.w E) us) (.obj k)= "dict" :=by
  have e0:qcv (st Z k (.w E) us) (.obj k)=none:=by
   have:qck (st Z k (.w E) us) (.obj k)=none:=by show sqv _ (.obj k)=_;cases E<;>simp only[sqv,a,ct]
   simp only[qcv,this]
  unfold qfL;rw[e0];cases E with
  |nil=>simp[dkO,a,ct]
  |cons x E=>simp[dkO,duv,a,ct]
 have up: ∀v,(st Z k (.w E) us).put k (.du (dW (qbn E p v)))=st Z k (.w (qbn E p v)) us:=λv=>by rw[<-qud (qjJ E p v)];exact qbe hk
 by_cases hn:E=[]
 ·subst hn;have h0:(st Z k (.w []) us).l[k]? =some (.dk []):=a;have g:Bm.g .get (st Z k (.w []) us) [.obj k,plT p,.int 0]=some (.p k (.du []) (.int 0)):=by
   have e1:dkv (st Z k (.w []) us) (.obj k)=some []:=by simp only[dkv,h0]
   have e2:duv (st Z k (.w []) us) (.obj k)=none:=by simp only[duv,h0]
   have e3:qdH (st Z k (.w []) us) (.obj k) (plT p)=none:=by unfold qdH;rw[e1,e2];rfl
   show gOr qor qge _ _=_;have g1:qor (st Z k (.w []) us) [.obj k,plT p,.int 0]=none:=by show(qdH _ _ _).map _=_;rw[e3];rfl
   have g2:qge (st Z k (.w []) us) [.obj k,plT p,.int 0]=some (.p k (.du []) (.int 0)):=by simp only[qge,h0,ky]
   unfold gOr;rw[g1];exact g2
  have s1:(st Z k (.w []) us).put k (.du [])=⟨Z.l.set k (.du [])++[.ls (us.map qac)],Z.k⟩:=by rw[Mu.put_k (Nat.zero_le _)];show Mu.mk ((Z.l.set k _++_).set k _) _=_;rw[List.set_append_left _ _ (by simpa using hk),List.set_set];rfl
  have a1:((st Z k (.w []) us).put k (.du [])).l[k]? =some (.du (dW [])):=by rw[s1];show(Z.l.set k _++_)[k]? =_;rw[List.getElem?_append_left (by simpa using hk),List.getElem?_set_self hk];rfl
  have up1: ∀v,((st Z k (.w []) us).put k (.du [])).put k (.du (dW (qbn [] p v)))=st Z k (.w (qbn [] p v)) us:=λv=>by rw[<-qud (qjJ [] p v),s1,Mu.put_k (by rw[qhV];exact Nat.zero_le _)];show Mu.mk ((Z.l.set k _++_).set k _) _=_;rw[List.set_append_left _ _ (by simpa using hk),List.set_set];rfl
  have lv1:((st Z k (.w []) us).put k (.du [])).live k=true:=qbG a1 (by simp);have pt:=fin [] (0+n) (by simp) _ a1 (up1 _);have gw:qdl [] p=none:=rfl;simp only[qn1,qa7,qps,qeW,h2,h7,h6,qec,qaa,mk,qjb,if_true,qai,qa1,qn6,g,qsR lv,qtt,qv5,pt,lv1,up1,gw,Option.getD_none]
 ·have h0:(st Z k (.w E) us).l[k]? =some (.du (dW E)):=by rw[<-qud hn];exact a
  have g:Bm.g .get (st Z k (.w E) us) [.obj k,plT p,.int 0]=some (.v (.int ((qdl E p).getD 0))):=by
   have e1:dkv (st Z k (.w E) us) (.obj k)=none:=by simp only[dkv,h0]
   have e2:duv (st Z k (.w E) us) (.obj k)=some (dW E):=by simp only[duv,h0]
   have e3:qdH (st Z k (.w E) us) (.obj k) (plT p)=some ((qdl E p).map T.int):=by unfold qdH;rw[e1,e2,ky,<-qnT]
   show gOr qor qge _ _=_;have g1:qor (st Z k (.w E) us) [.obj k,plT p,.int 0]=some (.v (.int ((qdl E p).getD 0))):=by show(qdH _ _ _).map _=_;rw[e3];cases qdl E p<;>rfl
   unfold gOr;rw[g1]
  have pt:=fin E ((qdl E p).getD 0+n) hl _ h0 (up _);simp only[qn1,qa7,qps,qeW,h2,h7,h6,qec,qaa,mk,qjb,if_true,qai,qa1,qn6,g,qtt,qv5,pt,lv,up]
end
theorem qlY(E:EE):(qiR E).length=E.length:=SR.length_srt _
theorem qbL(size:Int)(E:EE):(qaA size E).length=E.length:=by unfold qaA;rw[List.length_map,qlY]
theorem qi1(size:Int)(E:EE)(r:Row):(qaQ size E r).1.length+(qaQ size E r).2.length<=E.length+1:=by
 unfold qaQ;split
 ·have:=qhb [] (r.1 / size,r.2.1) r.2.2;simp only[qbL,List.length_nil] at*;omega
 ·have:=qhb E (r.1 / size,r.2.1) ((qdl E (r.1 / size,r.2.1)).getD 0+r.2.2)
  grind
theorem qdS(size:Int): ∀(d:List Row)(E:EE),(fo (qaQ size) E d).1.length+(fo (qaQ size) E d).2.length<=E.length+d.length
 |[],E=>by simp[fo]
 |r::d,E=>by have h1:=qi1 size E r;have h2:=qdS size d (qaQ size E r).2;simp only[fo,List.length_append,List.length_cons];omega
noncomputable def qny(wr:Nat):Fcd:=⟨false,3,8,[.set 3 (.lst true []),.for_ (.tup [(.n 4),(.n 5),(.n 6)]) (.gen vA0) (qnL wr),.ret vA3]⟩
section
theorem qlL(hw: ∀{Z:Mu}{E:EE},Z.l[k]? =some (ct (.w E))->E.length<64->(E.map (·.1)).Nodup->F wr [.int size,.obj k] Z= .ok (.lst ((qaA size E).map qac)) Z)(hs:0<size/\size<1073741824)(hk:k<Z.l.length)(W:WI size E m)(hm:m<=r.1)(hE:E.length<64)(hu:us.length<=900)(x7:Option T):
  runSs F (qnL wr) [some a,some (.int size),some (.obj k),some (.obj Z.l.length),some (.int r.1),some (.str r.2.1),some (.int r.2.2),x7] (st Z k (.w E) us)= .ok (.nx [some a,some (.int size),some (.obj k),some (.obj Z.l.length),some (.int r.1),some (.str r.2.1),some (.int r.2.2),some (plT (r.1 / size,r.2.1))]) (st Z k (.w (qaQ size E r).2) (us++(qaQ size E r).1)):=by
 have a0:=qg0 (us:=us) (s:=.w E) hk;have ln:=qwg a0;have s7:qaM F (.set 7 (.tup [(Oo .div vA4 vA1),v5])) [some a,some (.int size),some (.obj k),some (.obj Z.l.length),some (.int r.1),some (.str r.2.1),some (.int r.2.2),x7] (st Z k (.w E) us)= .ok (.nx [some a,some (.int size),some (.obj k),some (.obj Z.l.length),some (.int r.1),some (.str r.2.1),some (.int r.2.2),some (plT (r.1 / size,r.2.1))]) (st Z k (.w E) us):=by simp[hs.1,hs.2,plT]
 have last: ∀(E:EE)(us:List Row),E.length<=900->runSs F [.put vA2 v7 (Oo .add (.bm false .get vA2 [v7,(Ci 0)]) v6)] [some a,some (.int size),some (.obj k),some (.obj Z.l.length),some (.int r.1),some (.str r.2.1),some (.int r.2.2),some (plT (r.1 / size,r.2.1))] (st Z k (.w E) us)= .ok (.nx [some a,some (.int size),some (.obj k),some (.obj Z.l.length),some (.int r.1),some (.str r.2.1),some (.int r.2.2),some (plT (r.1 / size,r.2.1))]) (st Z k (.w (qbn E (r.1 / size,r.2.1) ((qdl E (r.1 / size,r.2.1)).getD 0+r.2.2))) us):=λE us hE=>by rw[qah,qvH hk hE rfl rfl rfl];rfl
 unfold qnL;rw[qah,s7,qaa,qaR,qah];have i7:O2.g .ix (st Z k (.w E) us) (plT (r.1 / size,r.2.1)) (.int 0)=some (.v (.int (r.1 / size))):=rfl;cases E with
 |nil=>have hl:=last [] us (by simp);simp[ln];rw[show qaQ size [] r=([],qbn [] (r.1 / size,r.2.1) ((qdl [] (r.1 / size,r.2.1)).getD 0+r.2.2)) from rfl,List.append_nil];simpa using hl
 |cons z E=>
  obtain⟨w,i9,_⟩:=W.one;obtain⟨y,mx⟩:=qwe a0 (by simp) i9;have pos:(0:Int)<((z::E).length:Int):=by simp
  have ez:=i9 z Vk;by_cases c:w<r.1 / size
  ·have cw:qro (z::E) (r.1 / size)=true:=Vv (by omega);have wf:qaQ size (z::E) r=(qaA size (z::E),qbn [] (r.1 / size,r.2.1) r.2.2):=if_pos cw;have wr1:=hw a0 hE W.nd;have ex:=qtD (Z:=Z) (k:=k) (s:=.w (z::E)) (us:=us) (vs:=qaA size (z::E)) hu (by rw[qbL];omega);have a1:=qg0 (us:=us++qaA size (z::E)) (s:=.w (z::E)) hk;have lv:=qcJ (us:=us++qaA size (z::E)) (s:=.w (z::E)) hk (qgs _);have mk:qfL (st Z k (.w (z::E)) (us++qaA size (z::E))) (.obj k)= "dict" :=by
    have e0:qcv (st Z k (.w (z::E)) (us++qaA size (z::E))) (.obj k)=none:=by
     have:qck (st Z k (.w (z::E)) (us++qaA size (z::E))) (.obj k)=none:=by show sqv _ (.obj k)=_;simp only[sqv,a1,ct]
     simp only[qcv,this]
    unfold qfL;rw[e0];simp[dkO,duv,a1,ct]
   have dc:Bm.g .dclear (st Z k (.w (z::E)) (us++qaA size (z::E))) [.obj k]=some (.p k (ct (.w [])) .non):=by
    show gOr qc4 qbs _ _=_;have g1:qc4 (st Z k (.w (z::E)) (us++qaA size (z::E))) [.obj k]=none:=by show(qlE _ (.obj k)).map _=_;simp only[qlE,a1,ct];rfl
    have g2:qbs (st Z k (.w (z::E)) (us++qaA size (z::E))) [.obj k]=some (.p k (ct (.w [])) .non):=by simp only[qbs,a1,ct]
    unfold gOr;rw[g1];exact g2
   have al: ∀ρ:Ro,ρ[2]? =some (some (.obj k))->qab F (.alt (.bm false .clear vA2 []) (.bm false .dclear vA2 [])) ρ (st Z k (.w (z::E)) (us++qaA size (z::E)))= .ok .non (st Z k (.w []) (us++qaA size (z::E))):=λρ h=>by rw[qpt (by simp[h,mk])];simp[h,mk,dc,qsR lv,qbe hk]
   have hl:=last [] (us++qaA size (z::E)) (by simp);have g0:(qdl [] (r.1 / size,r.2.1)).getD 0+r.2.2=r.2.2:=by show(0:Int)+_=_;omega
   rw[g0] at hl;rw[wf];have test:qab F (.and (Oo .gt (.bn false .len [vA2]) (Ci 0)) (Oo .lt (Oo .ix (.bn false .max [vA2]) (Ci 0)) (Oo .ix v7 (Ci 0)))) [some a,some (.int size),some (.obj k),some (.obj Z.l.length),some (.int r.1),some (.str r.2.1),some (.int r.2.2),some (plT (r.1 / size,r.2.1))] (st Z k (.w (z::E)) us)= .ok (.bl true) (st Z k (.w (z::E)) us):=by simp[ln,mx,i7,c]
   rw[qeV,test,qaa,qeG,qaa,if_pos rfl];simp[qbF qnW];rw[wr1];simp[ex,al];simpa using hl
  ·have cw:qro (z::E) (r.1 / size)=false:=Vw (by omega);have wf:qaQ size (z::E) r=([],qbn (z::E) (r.1 / size,r.2.1) ((qdl (z::E) (r.1 / size,r.2.1)).getD 0+r.2.2)):=if_neg (by rw[cw];decide);have hl:=last (z::E) us (by omega);rw[wf,List.append_nil];have test:qab F (.and (Oo .gt (.bn false .len [vA2]) (Ci 0)) (Oo .lt (Oo .ix (.bn false .max [vA2]) (Ci 0)) (Oo .ix v7 (Ci 0)))) [some a,some (.int size),some (.obj k),some (.obj Z.l.length),some (.int r.1),some (.str r.2.1),some (.int r.2.2),some (plT (r.1 / size,r.2.1))] (st Z k (.w (z::E)) us)= .ok (.bl false) (st Z k (.w (z::E)) us):=by simp[ln,mx,i7,c]
   rw[qeV,test,qaa,qeG,qaa,if_neg (by decide),qpo,qaa,qaR];exact hl
end
section
theorem qeC{Z:Mu}{wr:Nat}{size:Int}(hw: ∀{Z:Mu}{E:EE},Z.l[k]? =some (ct (.w E))->E.length<64->(E.map (·.1)).Nodup->F wr [.int size,.obj k] Z= .ok (.lst ((qaA size E).map qac)) Z)(hs:0<size/\size<1073741824){E0:EE}{rs:List Row}{m0:Int}(hk:Z.l[k]? =some (ct (.w E0)))(W:WI size E0 m0)(hm: ∀r∈rs,m0<=r.1)(hr:rs.Pairwise λa b=>a.1<=b.1)(hd:E0.length+rs.length<64):
  (qny wr).run F [.lst (rs.map qac),.int size,.obj k] Z= .ok (.lst ((fo (qaQ size) E0 rs).1.map qac)) (Z.put k (ct (.w (fo (qaQ size) E0 rs).2)))/\∃m,WI size (fo (qaQ size) E0 rs).2 m/\(m=m0\/∃x∈rs,m=x.1):=by
 have au:=(List.getElem?_eq_some_iff.mp hk).1
 obtain⟨ρ',μ',e1,x4,x5,x6,x7,m,rfl,rfl,Wm,hW⟩:=qc5 (F:=F) (Z:=st Z k (.w E0) []) (g:=.tup [(.n 4),(.n 5),(.n 6)]) (ci:=.gen vA0) (b:=qnL wr) rs qac
  (λd ρ' μ'=> ∃x4 x5 x6 x7 m,ρ'=[some (.lst (rs.map qac)),some (.int size),some (.obj k),some (.obj Z.l.length),x4,x5,x6,x7]/\μ'=st Z k (.w (fo (qaQ size) E0 d).2) (fo (qaQ size) E0 d).1/\WI size (fo (qaQ size) E0 d).2 m/\(m=m0\/∃x∈d,m=x.1)) rfl (qdG (t:=.lst (rs.map qac)) (by simp) (.inl rfl)) ⟨none,none,none,none,m0,rfl,rfl,W,.inl rfl⟩ (by
   rintro d r q hq ρ' μ' ⟨x4,x5,x6,x7,m,rfl,rfl,Wm,hW⟩;have ll:=qdS size d E0;have d4:d.length<rs.length:=by rw[hq];simp
   have le:m<=r.1:=by
    rcases hW with rfl|⟨x,hx,rfl⟩
    ·exact hm r (by rw[hq];simp)
    ·rw[hq,List.pairwise_append] at hr;exact hr.2.2 x hx r Vk
   refine⟨_,_,qlL hw hs au Wm le (by omega) (by omega) x7,_,_,_,_,r.1,rfl,?_,?_,.inr ⟨r,by simp,rfl⟩⟩
   ·rw[qbU];simp[fo]
   ·rw[qbU];simp only[fo];exact Wm.step hs.1 le)
 refine⟨?_,m,Wm,hW⟩;have fin:(runSs F (qny wr).b [some (.lst (rs.map qac)),some (.int size),some (.obj k),none,none,none,none,none] Z).bind outT= .ok (.obj Z.l.length) (st Z k (.w (fo (qaQ size) E0 rs).2) (fo (qaQ size) E0 rs).1):=by refine qak (μ':=st Z k (.w E0) []) ?_ (qak e1 (qdZ rfl));rw[<-qoO hk];rfl
 exact qjt (us:=(fo (qaQ size) E0 rs).1.map qac) rfl rfl fin λt ht=>by obtain⟨r,_,rfl⟩:=List.mem_map.mp ht;exact qgT r
noncomputable def qgy:Fcd:=⟨false,2,2,[.ret (.comp false false 1 [1] (.n 0) (.gen vA0) (some (Oo .eq (Oo .ix vA0 (Ci 1)) vA1)) vA0)]⟩
noncomputable def qlg:Fcd:=⟨false,2,2,[.ret (.comp false false 1 [1] (.n 0) (.gen vA0) (some (Oo .gt (Oo .ix vA0 (Ci 2)) vA1)) vA0)]⟩
noncomputable def qgv:Fcd:=⟨false,2,2,[.ret (.comp false false 1 [1] (.n 0) (.gen vA0) (some (Oo .lt (Oo .ix vA0 (Ci 2)) vA1)) vA0)]⟩
noncomputable def qle:Fcd:=⟨false,2,2,[.ret (.comp false false 3 [1] (.tup [(.n 0),(.n 1),(.n 2)]) (.gen vA0) none (.tup [vA0,vA1,(Oo .add vA2 vA3)]))]⟩
noncomputable def qgw:Fcd:=⟨false,2,2,[.ret (.comp false false 3 [1] (.tup [(.n 0),(.n 1),(.n 2)]) (.gen vA0) none (.tup [vA0,vA1,(Oo .mul vA2 vA3)]))]⟩
theorem i1:O2.g .ix Z (qac r) (.int 1)=some (.v (.str r.2.1)):=rfl
theorem i2:O2.g .ix Z (qac r) (.int 2)=some (.v (.int r.2.2)):=rfl
theorem qmu{rs:List Row}{y:Str}:qgy.run F [.lst (rs.map qac),.str y] Z= .ok (.lst ((rs.filter λr=>decide (r.2.1=y)).map qac)) Z:=by
 refine qav rfl ?_;have cm:=qgt (F:=F) (Z:=Z) (ρ:=[some (.lst (rs.map qac)),some (.str y)]) (x:=false) (fr:=[1]) (ci:=.gen vA0) (t:=some (Oo .eq (Oo .ix vA0 (Ci 1)) vA1)) (e:=.v 0) rs qac (λr=>decide (r.2.1=y)) qac (qa3 (t:=.lst _) (by simp) rfl) (λr _=>rfl) λr _ _=>by simp
 exact(qdZ (by exact congrArg (λr=>R.bind r _) cm))
theorem qpN{rs:List Row}{y:Int}:qlg.run F [.lst (rs.map qac),.int y] Z= .ok (.lst ((rs.filter λr=>decide (y<r.2.2)).map qac)) Z:=by
 refine qav rfl ?_;have cm:=qgt (F:=F) (Z:=Z) (ρ:=[some (.lst (rs.map qac)),some (.int y)]) (x:=false) (fr:=[1]) (ci:=.gen vA0) (t:=some (Oo .gt (Oo .ix vA0 (Ci 2)) vA1)) (e:=.v 0) rs qac (λr=>decide (y<r.2.2)) qac (qa3 (t:=.lst _) (by simp) rfl) (λr _=>rfl) λr _ _=>by simp
 exact(qdZ (by exact congrArg (λr=>R.bind r _) cm))
theorem qlR{rs:List Row}{y:Int}:qgv.run F [.lst (rs.map qac),.int y] Z= .ok (.lst ((rs.filter λr=>decide (r.2.2<y)).map qac)) Z:=by
 refine qav rfl ?_;have cm:=qgt (F:=F) (Z:=Z) (ρ:=[some (.lst (rs.map qac)),some (.int y)]) (x:=false) (fr:=[1]) (ci:=.gen vA0) (t:=some (Oo .lt (Oo .ix vA0 (Ci 2)) vA1)) (e:=.v 0) rs qac (λr=>decide (r.2.2<y)) qac (qa3 (t:=.lst _) (by simp) rfl) (λr _=>rfl) λr _ _=>by simp
 exact(qdZ (by exact congrArg (λr=>R.bind r _) cm))
theorem qpC{rs:List Row}{y:Int}:qle.run F [.lst (rs.map qac),.int y] Z= .ok (.lst ((rs.map λr=>((r.1,r.2.1,r.2.2+y):Row)).map qac)) Z:=by
 refine qav rfl ?_;have cm:=qoG (F:=F) (Z:=Z) (ρ:=[some (.lst (rs.map qac)),some (.int y)]) (x:=false) (fr:=[1]) (ci:=.gen vA0) (e:=.tup [vA0,vA1,(Oo .add vA2 vA3)]) rs (λr=>qac (r.1,r.2.1,r.2.2+y)) (qa3 (t:=.lst (rs.map qac)) (by simp) rfl) λr _=>rfl;have e:(rs.map λr=>qac (r.1,r.2.1,r.2.2+y))=(rs.map λr=>((r.1,r.2.1,r.2.2+y))).map qac:=by rw[List.map_map];rfl
 rw[e] at cm;exact(qdZ (by exact congrArg (λr=>R.bind r _) cm))
theorem qlV{rs:List Row}{y:Int}(hy: -4294967296<=y/\y<=4294967296):qgw.run F [.lst (rs.map qac),.int y] Z= .ok (.lst ((rs.map λr=>((r.1,r.2.1,r.2.2*y):Row)).map qac)) Z:=by
 refine qav rfl ?_;have cm:=qoG (F:=F) (Z:=Z) (ρ:=[some (.lst (rs.map qac)),some (.int y)]) (x:=false) (fr:=[1]) (ci:=.gen vA0) (e:=.tup [vA0,vA1,(Oo .mul vA2 vA3)]) rs (λr=>qac (r.1,r.2.1,r.2.2*y)) (qa3 (t:=.lst (rs.map qac)) (by simp) rfl) λr _=>by simp[qac,hy]
 have e:(rs.map λr=>qac (r.1,r.2.1,r.2.2*y))=(rs.map λr=>((r.1,r.2.1,r.2.2*y))).map qac:=by rw[List.map_map];rfl
 rw[e] at cm;exact(qdZ (by exact congrArg (λr=>R.bind r _) cm))
end
noncomputable def Sp.k0:Sp->Ks
 |.first _|.each _=>.n none
 |.window _=>.w []
 |_=>.d []
noncomputable def Sp.fit:Sp->Ks->Prop
 |.first _,.n _=>True
 |.each m,.n c=>0<m/\0<=c.getD 0/\c.getD 0<m
 |.window _,.w _=>True
 |.running,.d _|.change,.d _|.unlike,.d _=>True
 |.key _,.d _|.over _,.d _|.under _,.d _|.plus _,.d _|.times _,.d _=>True
 |_,_=>False
noncomputable def Sp.go:Sp->Ks->List Row->List Row×Ks
 |.key y,s,rs=>(rs.filter λr=>decide (r.2.1=y),s)
 |.over n,s,rs=>(rs.filter λr=>decide (n<r.2.2),s)
 |.under n,s,rs=>(rs.filter λr=>decide (r.2.2<n),s)
 |.plus n,s,rs=>(rs.map λr=>((r.1,r.2.1,r.2.2+n):Row),s)
 |.times n,s,rs=>(rs.map λr=>((r.1,r.2.1,r.2.2*n):Row),s)
 |.first m,.n c,rs=>((qaO m c rs).1,.n (qaO m c rs).2)
 |.each m,.n c,rs=>((qcl m c rs).1,.n (qcl m c rs).2)
 |.window m,.w E,rs=>((fo (qaQ m) E rs).1,.w (fo (qaQ m) E rs).2)
 |.running,.d D,rs=>((fo qrN D rs).1,.d (fo qrN D rs).2)
 |.change,.d D,rs=>((fo qlK D rs).1,.d (fo qlK D rs).2)
 |.unlike,.d D,rs=>((fo qja D rs).1,.d (fo qja D rs).2)
 |_,s,_=>([],s)
noncomputable def Sp.rest:Sp->Ks->List Row
 |.window m,.w E=>qaA m E
 |_,_=>[]
theorem qkO(m:Int)(c:Option Int)(a b:List Row):qaO m c (a++b)=((qaO m c a).1++(qaO m (qaO m c a).2 b).1,(qaO m (qaO m c a).2 b).2):=by
 simp only[qaO,Option.getD_some,List.take_append,List.length_append,Int.natCast_add]
 grind
theorem fmc{α β:Type}{f g:α->Option β}: ∀{l:List α},(∀a∈l,f a=g a)->l.filterMap f=l.filterMap g
 |[],_=>rfl
 |a::l,h=>by rw[List.filterMap_cons,List.filterMap_cons,h a List.mem_cons_self,fmc λb hb=>h b (List.mem_cons_of_mem _ hb)]
theorem qjM{α:Type}(rs:List α)(lo:Nat){n:Nat}(hn:0<n):RH.pickL rs (some (lo:Int)) none (some (n:Int))=(List.range ((rs.length - lo+n - 1) / n)).filterMap λk=>rs[lo+n*k]? :=by
 unfold RH.pickL;have hp:(n:Int)>0:=by omega
 have e:sliceBounds (some (lo:Int)) none (some (n:Int)) rs.length=(((min lo rs.length:Nat):Int),(rs.length:Int),(n:Int)):=by
  unfold sliceBounds
  grind
 rw[e];unfold sliceRange;simp only[hp,if_true,gt_iff_lt];by_cases c:lo<rs.length
 ·rw[Nat.min_eq_left (by omega),if_pos (by omega)];have e2:(rs.length:Int) - (lo:Int)+n - 1=((rs.length - lo+n - 1:Nat):Int):=by omega
  rw[e2,<-Int.natCast_ediv,Int.toNat_natCast,List.filterMap_map];refine fmc λk hk=> ?_;show rs[((lo:Int)+n*(k:Int)).toNat]? =_;refine congrArg (λi=>rs[i]?) ?_;have:((lo:Int)+(n:Int)*(k:Int))=((lo+n*k:Nat):Int):=by push_cast;rfl
  rw[this,Int.toNat_natCast]
 ·rw[Nat.min_eq_right (by omega),if_neg (by omega)];have e3:(rs.length - lo+n - 1) / n=0:=Nat.div_eq_of_lt (by omega);rw[e3];rfl
theorem qpE{α:Type}(x:α)(rs:List α)(lo:Nat){n:Nat}(hn:0<n):RH.pickL (x::rs) (some ((lo+1:Nat):Int)) none (some (n:Int))=RH.pickL rs (some (lo:Int)) none (some (n:Int)):=by
 rw[qjM _ _ hn,qjM _ _ hn];have:(x::rs).length - (lo+1)=rs.length - lo:=by simp
 grind
theorem qpD{α:Type}(x:α)(rs:List α){n:Nat}(hn:0<n):RH.pickL (x::rs) (some ((0:Nat):Int)) none (some (n:Int))=x::RH.pickL rs (some ((n - 1:Nat):Int)) none (some (n:Int)):=by
 rw[qjM _ _ hn,qjM _ _ hn];have e1:((x::rs).length - 0+n - 1) / n=rs.length / n+1:=by
  simp_all
 have e2:(rs.length - (n - 1)+n - 1) / n=rs.length / n:=by
  by_cases c:n - 1<=rs.length
  ·congr 1;omega
  ·rw[Nat.div_eq_of_lt (by omega),Nat.div_eq_of_lt (by omega)]
 rw[e1,e2,List.range_succ_eq_map,List.filterMap_cons,List.filterMap_map];have e4:(x::rs)[0+n*0]? =some x:=rfl;rw[e4];refine congrArg (x:: ·) (fmc λk _=> ?_);show(x::rs)[0+n*(k+1)]? =_;have:0+n*(k+1)=(n - 1+n*k)+1:=by rw[Nat.mul_add];omega
 rw[this,List.getElem?_cons_succ]
noncomputable def qfq(m:Int)(c:Int)(r:Row):List Row×Int:=(if c+1=m then [r] else [],(c+1) % m)
theorem qgk(n:Nat)(hn:0<n): ∀(rs:List Row)(c:Nat),c<n->(RH.pickL rs (some ((n:Int) - 1 - c)) none (some (n:Int)),((c:Int)+rs.length) % n)=fo (qfq n) c rs
 |[],c,hc=>by
  have h:((n:Int) - 1 - c)=((n - 1 - c:Nat):Int):=by omega
  rw[h,qjM _ _ hn];refine Prod.ext ?_ ?_
  ·have:(([]:List Row).length - (n - 1 - c)+n - 1) / n=0:=Nat.div_eq_of_lt (by simp only[List.length_nil];omega);simp only[this];rfl
  ·show((c:Int)+0) % n=c;rw[Int.add_zero,Int.emod_eq_of_lt (by omega) (by omega)]
 |r::rs,c,hc=>by
  by_cases e:c+1=n
  ·have h:((n:Int) - 1 - c)=((0:Nat):Int):=by omega
   have e2:((c:Int)+1) % n=((0:Nat):Int):=by rw[show(c:Int)+1=n by omega,Int.emod_self];rfl
   have ih:=qgk n hn rs 0 hn;have h3:((n:Int) - 1 - (0:Nat))=((n - 1:Nat):Int):=by omega
   rw[h3] at ih;simp only[fo,qfq,e2,<-ih];rw[h,qpD r rs hn,if_pos (by omega)];refine Prod.ext rfl ?_;show((c:Int)+((rs.length+1:Nat):Int)) % n=(((0:Nat):Int)+rs.length) % n;have:(c:Int)+((rs.length+1:Nat):Int)=((0:Nat):Int)+rs.length+n:=by omega
   rw[this,Int.add_emod_right]
  ·have h:((n:Int) - 1 - c)=((n - 1 - (c+1)+1:Nat):Int):=by omega
   have e2:((c:Int)+1) % n=((c+1:Nat):Int):=by rw[Int.emod_eq_of_lt (by omega) (by omega)];rfl
   have ih:=qgk n hn rs (c+1) (by omega);have h3:((n:Int) - 1 - ((c+1:Nat):Int))=((n - 1 - (c+1):Nat):Int):=by omega
   rw[h3] at ih;simp only[fo,qfq,e2,<-ih];rw[h,qpE r rs _ hn,if_neg (by omega)];refine Prod.ext rfl ?_;show((c:Int)+((rs.length+1:Nat):Int)) % n=(((c+1:Nat):Int)+rs.length) % n
   congr 1;omega
theorem qbV(h:0<m/\0<=c.getD 0/\c.getD 0<m)(rs:List Row):qcl m c rs=((fo (qfq m) (c.getD 0) rs).1,some (fo (qfq m) (c.getD 0) rs).2):=by obtain⟨n,rfl⟩:=Int.eq_ofNat_of_zero_le (Int.le_of_lt h.1);obtain⟨d,hd⟩:=Int.eq_ofNat_of_zero_le h.2.1;have h3:=h.2.2;unfold qcl;rw[hd,<-qgk n (by omega) rs d (by omega)]
theorem qel(hm:0<m): ∀(rs:List Row){c:Int},0<=c/\c<m->0<=(fo (qfq m) c rs).2/\(fo (qfq m) c rs).2<m
 |[],_,h=>h
 |r::rs,c,_=>qel hm rs ⟨Int.emod_nonneg _ (by omega),Int.emod_lt_of_pos _ hm⟩
theorem qon(p:Sp)(s:Ks)(hf:p.fit s)(a b:List Row):p.go s (a++b)=((p.go s a).1++(p.go (p.go s a).2 b).1,(p.go (p.go s a).2 b).2):=by
 cases p with
 |each m=>
  cases s with
  |n c=>have h:=hf;have h2:=qel h.1 a h.2;have e:=qbV (c:=some _) ⟨h.1,h2⟩ b;simp only[Sp.go,qbV h,e,qbU,Option.getD_some]
  |_=>exact hf.elim
 |key y|over y|under y|plus y|times y=>simp[Sp.go]
 |first m=>cases s<;>simp[Sp.go,qkO m]
 |window m|running|change|unlike=>cases s<;>simp[Sp.go,qbU]
theorem qtl(p:Sp)(s:Ks)(hf:p.fit s)(a:List Row):p.fit (p.go s a).2:=by
 cases p<;>cases s<;>first|exact hf.elim|exact trivial|skip
 rename_i m c;have h:=hf;show 0<m/\0<=(qcl m c a).2.getD 0/\(qcl m c a).2.getD 0<m;rw[qbV h];exact⟨h.1,qel h.1 a h.2⟩
noncomputable def wk:List (Sp×Ks)->List Row->List Row×List (Sp×Ks)
 |[],rs=>(rs,[])
 |(p,s)::q,rs=>((wk q (p.go s rs).1).1,(p,(p.go s rs).2)::(wk q (p.go s rs).1).2)
noncomputable def qaK:List (Sp×Ks)->List Row->List Row
 |[],rs=>rs
 |(p,s)::q,rs=>qaK q ((p.go s rs).1++p.rest (p.go s rs).2)
abbrev quD(q:List (Sp×Ks)):Prop:= ∀x∈q,x.1.fit x.2
theorem qnQ: ∀(q:List (Sp×Ks))(rs:List Row),quD q->quD (wk q rs).2
 |[],_,_=>λ_ h=>nomatch h
 |(p,s)::q,rs,h=>λx hx=>by
  rcases List.mem_cons.mp hx with rfl|hx
  ·exact qtl p s (h _ Vk) rs
  ·exact qnQ q _ (λy hy=>h y (Vl _ hy)) x hx
theorem qi4: ∀(q:List (Sp×Ks))(a b:List Row),quD q->qaK q (a++b)=(wk q a).1++qaK (wk q a).2 b
 |[],_,_,_=>rfl
 |(p,s)::q,a,b,h=>by have e:=qon p s (h _ Vk) a b;simp only[qaK,e,List.append_assoc];exact qi4 q _ _ λy hy=>h y (Vl _ hy)
noncomputable def wrs:List (Sp×Ks)->List Row->List Row×List (Sp×Ks)
 |q,[]=>([],q)
 |q,r::rs=>((wk q [r]).1++(wrs (wk q [r]).2 rs).1,(wrs (wk q [r]).2 rs).2)
theorem qcn: ∀(rs:List Row)(q:List (Sp×Ks)),quD q->(wrs q rs).1++qaK (wrs q rs).2 []=qaK q rs
 |[],_,_=>rfl
 |r::rs,q,h=>by show((wk q [r]).1++(wrs _ rs).1)++qaK (wrs _ rs).2 []=_;rw[List.append_assoc,qcn rs _ (qnQ q [r] h)];exact(qi4 q [r] rs h).symm
section
noncomputable def qnz(ik:Nat)(fns:List (Str×Nat)):Fcd:=⟨false,3,5,[.set 3 (Oo .ix vA0 (Ci 0)),.ife (Oo .eq vA3 (Cs "key")) [.ret (.call ik [vA1,(Oo .ix vA0 (Ci 1))])] [],.ife (.topin false [("over", "over"),("under", "under"),("plus", "plus"),("times", "times")] vA3) [.set 4 (.topget [("over", "over"),("under", "under"),("plus", "plus"),("times", "times")] vA3),.ret (.callv fns 4 [vA1,(Oo .ix vA0 (Ci 1))])] [],.ife (.topin false [("first", "first"),("each", "each"),("window", "window")] vA3) [.set 4 (.topget [("first", "first"),("each", "each"),("window", "window")] vA3),.ret (.callv fns 4 [vA1,(Oo .ix vA0 (Ci 1)),vA2])] [],.set 4 (.topget [("running", "running"),("change", "change"),("unlike", "unlike")] vA3),.ret (.callv fns 4 [vA1,vA2])]⟩
noncomputable def Sp.ix(ik:Nat)(fns:List (Str×Nat)):Sp->Option Nat
 |.key _=>some ik
 |.over _=>fns.lookup ("over" :Str)
 |.under _=>fns.lookup ("under" :Str)
 |.plus _=>fns.lookup ("plus" :Str)
 |.times _=>fns.lookup ("times" :Str)
 |.first _=>fns.lookup ("first" :Str)
 |.each _=>fns.lookup ("each" :Str)
 |.window _=>fns.lookup ("window" :Str)
 |.running=>fns.lookup ("running" :Str)
 |.change=>fns.lookup ("change" :Str)
 |.unlike=>fns.lookup ("unlike" :Str)
noncomputable def Sp.args(a b:NV.T):Sp->List NV.T
 |.key y=>[a,.str y]
 |.over n|.under n|.plus n|.times n=>[a,.int n]
 |.first n|.each n|.window n=>[a,.int n,b]
 |.running|.change|.unlike=>[a,b]
theorem qcs{g:Str}(h:ρ[i]? =some (some (.fn g)))(hj:fi.lookup g=some j):qab F (.callv fi i es) ρ Z=(runA F es ρ Z).bind λts Z=>F j ts Z:=by show qft _ _ _ ρ Z=_;unfold qft;rw[h];simp only[hj];rfl
theorem sq2{g:Str}(h1:qaM F s ρ Z= .ok (.nx ρ') Z)(h2:ρ'[n]? =some (some (.fn g)))(h3:fi.lookup g=some j)(h4:runA F es ρ' Z= .ok ts Z)(h:F j ts Z= .ok t μ'):runSs F [s,.ret (.callv fi n es)] ρ Z= .ok (.rt t) μ':=by rw[qah,h1,qaa,qaR,qah,qa0,qcs h2 h3,h4,qaa,h];rfl
theorem qux(p:Sp)(hi:p.ix ik fns=some i)(h:F i (p.args a b) Z= .ok t μ'):(runSs F (qnz ik fns).b [some p.T,some a,some b,none,none] Z).bind outT= .ok t μ':=by
 cases p with
 |key y=>obtain rfl:ik=i:=Option.some.inj hi;refine qak (ρ':=[some (Sp.T (.key y)),some a,some b,some (.str "key"),none]) (μ':=Z) rfl (qaZ rfl ?_);rw[qah,qa0,qay];show R.bind (R.bind (F ik [a,.str y] Z) _) _=_;rw[show F ik [a,.str y] Z=_ from h];rfl
 |over n=>refine qak (ρ':=[some (Sp.T (.over n)),some a,some b,some (.str "over"),none]) (μ':=Z) rfl (qal rfl (qaZ rfl ?_));exact sq2 (j:=i) (g:= "over") (ts:=[a,.int n]) rfl rfl hi rfl h
 |under n=>refine qak (ρ':=[some (Sp.T (.under n)),some a,some b,some (.str "under"),none]) (μ':=Z) rfl (qal rfl (qaZ rfl ?_));exact sq2 (j:=i) (g:= "under") (ts:=[a,.int n]) rfl rfl hi rfl h
 |plus n=>refine qak (ρ':=[some (Sp.T (.plus n)),some a,some b,some (.str "plus"),none]) (μ':=Z) rfl (qal rfl (qaZ rfl ?_));exact sq2 (j:=i) (g:= "plus") (ts:=[a,.int n]) rfl rfl hi rfl h
 |times n=>refine qak (ρ':=[some (Sp.T (.times n)),some a,some b,some (.str "times"),none]) (μ':=Z) rfl (qal rfl (qaZ rfl ?_));exact sq2 (j:=i) (g:= "times") (ts:=[a,.int n]) rfl rfl hi rfl h
 |first n=>refine qak (ρ':=[some (Sp.T (.first n)),some a,some b,some (.str "first"),none]) (μ':=Z) rfl (qal rfl (qal rfl (qaZ rfl ?_)));exact sq2 (j:=i) (g:= "first") (ts:=[a,.int n,b]) rfl rfl hi rfl h
 |each n=>refine qak (ρ':=[some (Sp.T (.each n)),some a,some b,some (.str "each"),none]) (μ':=Z) rfl (qal rfl (qal rfl (qaZ rfl ?_)));exact sq2 (j:=i) (g:= "each") (ts:=[a,.int n,b]) rfl rfl hi rfl h
 |window n=>refine qak (ρ':=[some (Sp.T (.window n)),some a,some b,some (.str "window"),none]) (μ':=Z) rfl (qal rfl (qal rfl (qaZ rfl ?_)));exact sq2 (j:=i) (g:= "window") (ts:=[a,.int n,b]) rfl rfl hi rfl h
 |running=>refine qak (ρ':=[some (Sp.T .running),some a,some b,some (.str "running"),none]) (μ':=Z) rfl (qal rfl (qal rfl (qal rfl (qak (ρ':=[some (Sp.T .running),some a,some b,some (.str "running"),some (.fn "running")]) (μ':=Z) rfl (qg1 ?_)))));rw[qcs (g:= "running") rfl hi];exact h
 |change=>refine qak (ρ':=[some (Sp.T .change),some a,some b,some (.str "change"),none]) (μ':=Z) rfl (qal rfl (qal rfl (qal rfl (qak (ρ':=[some (Sp.T .change),some a,some b,some (.str "change"),some (.fn "change")]) (μ':=Z) rfl (qg1 ?_)))));rw[qcs (g:= "change") rfl hi];exact h
 |unlike=>refine qak (ρ':=[some (Sp.T .unlike),some a,some b,some (.str "unlike"),none]) (μ':=Z) rfl (qal rfl (qal rfl (qal rfl (qak (ρ':=[some (Sp.T .unlike),some a,some b,some (.str "unlike"),some (.fn "unlike")]) (μ':=Z) rfl (qg1 ?_)))));rw[qcs (g:= "unlike") rfl hi];exact h
end
section
noncomputable def qup:Fcd:=⟨false,2,6,[.set 2 (.lst true []),.for_ (.tup [(.n 3),(.n 4),(.n 5)]) (.gen vA0) qra,.ret vA2]⟩
noncomputable def qur:Fcd:=⟨false,2,6,[.set 2 (.lst true []),.for_ (.tup [(.n 3),(.n 4),(.n 5)]) (.gen vA0) qnM,.ret vA2]⟩
noncomputable def quo:Fcd:=⟨false,2,6,[.set 2 (.lst true []),.for_ (.tup [(.n 3),(.n 4),(.n 5)]) (.gen vA0) qlt,.ret vA2]⟩
noncomputable def Sp.cd(wr:Nat):Sp->Fcd
 |.key _=>qgy
 |.over _=>qlg
 |.under _=>qgv
 |.plus _=>qle
 |.times _=>qgw
 |.first _=>qda
 |.each _=>qfx
 |.window _=>qny wr
 |.running=>qup
 |.change=>qur
 |.unlike=>quo
noncomputable def Sp.can(rs:List Row):Sp->Ks->Prop
 |.window n,.w E=>(0<n/\n<1073741824)/\E.length+rs.length<64/\∃m,WI n E m/\(∀r∈rs,m<=r.1)/\rs.Pairwise λa b=>a.1<=b.1
 |.times n,.d _=> -4294967296<=n/\n<=4294967296
 |.key _,.d _|.over _,.d _|.under _,.d _|.plus _,.d _=>True
 |.running,.d D|.change,.d D|.unlike,.d D=>D.length+rs.length<=900
 |.each m,.n _=>0<m
 |.first _,.n _=>True
 |_,_=>False
theorem qbP{Z:Mu}(h:Z.l[k]? =some (ct s)):Z.put k (ct s)=Z:=by rw[Mu.put_k (by rw[qhV];exact Nat.zero_le _),qg2 h]
theorem qpb{Z:Mu}{wr:Nat}(dP: ∀ts Z,F wr ts Z=qbJ.run F1 ts Z)(p:Sp){rs:List Row}(hk:Z.l[k]? =some (ct s))(hc:p.can rs s):
  (p.cd wr).run F (p.args (.lst (rs.map qac)) (.obj k)) Z= .ok (.lst ((p.go s rs).1.map qac)) (Z.put k (ct (p.go s rs).2)):=by
 cases p<;>cases s<;>first|exact hc.elim|skip
 ·exact qmu.trans (by rw[show(Sp.go (.key _) (.d _) rs).2= .d _ from rfl,qbP hk];rfl)
 ·exact qpN.trans (by rw[show(Sp.go (.over _) (.d _) rs).2= .d _ from rfl,qbP hk];rfl)
 ·exact qlR.trans (by rw[show(Sp.go (.under _) (.d _) rs).2= .d _ from rfl,qbP hk];rfl)
 ·exact qpC.trans (by rw[show(Sp.go (.plus _) (.d _) rs).2= .d _ from rfl,qbP hk];rfl)
 ·exact(qlV hc).trans (by rw[show(Sp.go (.times _) (.d _) rs).2= .d _ from rfl,qbP hk];rfl)
 ·exact qm3 hk
 ·exact qqz hc hk
 ·obtain⟨hs,hd,m,W,hm,hr⟩:=hc;exact(qeC (λh hl nd=>by rw[dP];exact qdR h hl nd ⟨hs.1,by omega⟩) hs hk W hm hr hd).1
 ·exact qh8 hk hc
 ·exact qk9 hk hc
 ·exact qi9 hk hc
theorem qoM(p:Sp)(hi:p.ix ik fns=some i)(hF: ∀ts Z,F i ts Z=(p.cd wr).run F1 ts Z)(dP: ∀ts Z,F1 wr ts Z=qbJ.run F2 ts Z)(hk:Z.l[k]? =some (ct s))(hc:p.can rs s):
  (qnz ik fns).run F [p.T,.lst (rs.map qac),.obj k] Z= .ok (.lst ((p.go s rs).1.map qac)) (Z.put k (ct (p.go s rs).2)):=by refine qbg rfl (qux p hi (by rw[hF];exact qpb dP p hk hc)) ?_;simp
end
section
noncomputable def qhH(bs wr:Nat):Fcd:=⟨false,3,4,[.set 3 (.call bs [vA0,vA1,vA2]),.ife (Oo .eq (Oo .ix vA0 (Ci 0)) (Cs "window")) [.ret (Oo .add vA3 (.call wr [(Oo .ix vA0 (Ci 1)),vA2]))] [],.ret vA3]⟩
theorem qqc(p:Sp)(hp: ∀n,p≠.window n)(h:F bs [p.T,a,b] Z= .ok t μ'):(runSs F (qhH bs wr).b [some p.T,some a,some b,none] Z).bind outT= .ok t μ':=by
 refine qak (ρ':=[some p.T,some a,some b,some t]) ?_ (qal ?_ (qg1 rfl))
 ·simp_all
 ·cases p<;>first|exact absurd rfl (hp _)|rfl
theorem qmJ(h:F bs [Sp.T (.window n),a,b] Z= .ok (.lst xs) μ')(hw:F wr [.int n,b] μ'= .ok (.lst ys) μ')(hl:xs.length+ys.length<=1000):(runSs F (qhH bs wr).b [some (Sp.T (.window n)),some a,some b,none] Z).bind outT= .ok (.lst (xs++ys)) μ':=by
 refine qak (ρ':=[some (Sp.T (.window n)),some a,some b,some (.lst xs)]) (μ':=μ') ?_ (qaZ rfl ?_)
 ·have hA:runA F [vA0,vA1,vA2] [some (Sp.T (.window n)),some a,some b,none] Z= .ok _ Z:=rfl;rw[qaX,qay,hA,qaa,h];rfl
 ·rw[qah,qa0,qa7];show R.bind (R.bind (R.bind (F wr _ μ') _) _) _=_;rw[hw,qaa];have e:nvR false (O2.g .add μ' (.lst xs) (.lst ys)) μ'= .ok (.lst (xs++ys)) μ':=by show nvR false (if xs.length+ys.length<=1000 then some _ else none) μ'=_;rw[if_pos hl];rfl
  rw[e];rfl
end
section
theorem qr6{Z:Mu}(hk:Z.l[k]? =some (ct s)):(Z.put k (ct s')).l[k]? =some (ct s'):=by have:=(List.getElem?_eq_some_iff.mp hk).1;simp[this]
theorem qho{Z:Mu}:(Z.put k (ct s')).l.length=Z.l.length:=by simp
theorem qqb{Z:Mu}{bs wr ik i:Nat}(p:Sp)(hB: ∀ts Z,F bs ts Z=(qnz ik fns).run F1 ts Z)(hG: ∀ts Z,F wr ts Z=qbJ.run G ts Z)(hi:p.ix ik fns=some i)(hF: ∀ts Z,F1 i ts Z=(p.cd wr).run F2 ts Z)(dP: ∀ts Z,F2 wr ts Z=qbJ.run F3 ts Z){rs:List Row}(hk:Z.l[k]? =some (ct s))(hc:p.can rs s):
  (qhH bs wr).run F [p.T,.lst (rs.map qac),.obj k] Z= .ok (.lst (((p.go s rs).1++p.rest (p.go s rs).2).map qac)) (Z.put k (ct (p.go s rs).2)):=by
 have hb:=(hB _ _).trans (qoM p hi hF dP hk hc);by_cases hp: ∀n,p≠.window n
 ·have e:p.rest (p.go s rs).2=[]:=by cases p<;>first|exact absurd rfl (hp _)|rfl
  rw[e,List.append_nil];exact qbg rfl (qqc p hp hb) qho
 ·obtain ⟨n,rfl⟩: ∃n,p= .window n:=by
   grind
  cases s with
  |w E=>
   obtain⟨hs,hd,m,W,hm,hr⟩:=hc;obtain⟨-,m',W', -⟩:=qeC (F:=F2) (wr:=wr) (λh hl nd=>by rw[dP];exact qdR h hl nd ⟨hs.1,by omega⟩) hs hk W hm hr hd;have hl:=qdS n rs E;have hw:F wr [.int n,.obj k] (Z.put k (ct (.w (fo (qaQ n) E rs).2)))= .ok (.lst ((qaA n (fo (qaQ n) E rs).2).map qac)) (Z.put k (ct (.w (fo (qaQ n) E rs).2))):=by rw[hG];exact qdR (qr6 hk) (by omega) W'.nd ⟨hs.1,by omega⟩
   have:=qmJ (F:=F) (bs:=bs) (wr:=wr) hb hw (by rw[List.length_map,List.length_map,qbL];show(fo (qaQ n) E rs).1.length+_<=1000;omega);rw[<-List.map_append] at this;exact qbg rfl this qho
  |_=>exact hc.elim
end
section
abbrev Sp.z(p:Sp):Sp×Ks:=(p,p.k0)
theorem qgN: ∀(a b:List (Sp×Ks))(rs:List Row),qaK (a++b) rs=qaK b (qaK a rs)
 |[],_,_=>rfl
 |(_,_)::a,b,_=>qgN a b _
noncomputable def qlk(ra rl bl:Nat):Fcd:=⟨false,2,4,[.exp (.call ra [vA0]),.exp (.call rl [vA1]),.set 2 (.bn false .lst [vA1]),.for_ (.n 3) (.gen vA0) [.set 2 (.call bl [vA3,vA2,(.dct true)])],.ret vA2]⟩
theorem que(p:Sp):ct p.k0= .dk []:=by cases p<;>rfl
theorem qpi:(l++[d]).set l.length c=l++[c]:=by simp
theorem qnN(h1:F ra [.tup (ps.map Sp.T)] Z= .ok t1 Z)(h2:F rl [.lst (rs.map qac)] Z= .ok t2 Z)(hn:rs.length<=1000)(hL: ∀p∈ps,∀{Z:Mu}{k:Nat}{s:Ks}{rs:List Row},Z.l[k]? =some (ct s)->p.can rs s->F bl [p.T,.lst (rs.map qac),.obj k] Z= .ok (.lst (((p.go s rs).1++p.rest (p.go s rs).2).map qac)) (Z.put k (ct (p.go s rs).2)))(hc: ∀d p r,ps=d++p::r->p.can (qaK (d.map Sp.z) rs) p.k0):
  (qlk ra rl bl).run F [.tup (ps.map Sp.T),.lst (rs.map qac)] Z= .ok (.lst ((qaK (ps.map Sp.z) rs).map qac)) Z:=by
 obtain⟨ρ',μ',e1,x3,cs,rfl,rfl⟩:=qc5 (F:=F) (ρ:=[some (.tup (ps.map Sp.T)),some (.lst (rs.map qac)),some (.lst (rs.map qac)),none]) (Z:=Z) (g:=.n 3) (ci:=.gen vA0) (b:=[.set 2 (.call bl [vA3,vA2,(.dct true)])]) ps Sp.T
  (λd ρ' μ'=> ∃x3 cs,ρ'=[some (.tup (ps.map Sp.T)),some (.lst (rs.map qac)),some (.lst ((qaK (d.map Sp.z) rs).map qac)),x3]/\μ'=⟨Z.l++cs,Z.k⟩) rfl (qdG (t:=.tup (ps.map Sp.T)) (by simp) (.inr rfl)) ⟨none,[],rfl,by simp⟩ (by
   rintro d p r hq ρ' μ' ⟨x3,cs,rfl,rfl⟩;have hp:p∈ps:=by rw[hq];simp
   have hA:runA F [vA3,vA2,(.dct true)] [some (.tup (ps.map Sp.T)),some (.lst (rs.map qac)),some (.lst ((qaK (d.map Sp.z) rs).map qac)),some p.T] ⟨Z.l++cs,Z.k⟩= .ok [p.T,.lst ((qaK (d.map Sp.z) rs).map qac),.obj (Z.l++cs).length] ⟨(Z.l++cs)++[.dk []],Z.k⟩:=by simp[Mu.add_on (show ubC (.dk [])=0 from rfl),Mu.on]
   have hb:=hL p hp (Z:=⟨(Z.l++cs)++[.dk []],Z.k⟩) (k:=(Z.l++cs).length) (s:=p.k0) (by rw[que];simp) (hc d p r hq);rw[Mu.put_k (by rw[qhV];exact Nat.zero_le _)] at hb;refine⟨_,_,?_,some p.T,cs++[ct (p.go p.k0 (qaK (d.map Sp.z) rs)).2],rfl,rfl⟩;show R.bind (R.ok [some (.tup (ps.map Sp.T)),some (.lst (rs.map qac)),some (.lst ((qaK (d.map Sp.z) rs).map qac)),some p.T] _) _=_;rw[qaa,qah,qaX,qay,hA,qaa,hb];simp only[qpi,List.map_append,List.map_cons,List.map_nil,qgN,qaK];simp only[<-List.append_assoc]
   rfl)
 have e0:qaM F (.set 2 (.bn false .lst [vA1])) [some (.tup (ps.map Sp.T)),some (.lst (rs.map qac)),none,none] Z= .ok (.nx [some (.tup (ps.map Sp.T)),some (.lst (rs.map qac)),some (.lst (rs.map qac)),none]) Z:=by rw[qaX];simp
 have fin:(runSs F (qlk ra rl bl).b [some (.tup (ps.map Sp.T)),some (.lst (rs.map qac)),none,none] Z).bind outT= .ok (.lst ((qaK (ps.map Sp.z) rs).map qac)) ⟨Z.l++cs,Z.k⟩:=
  qak (ρ':=[some (.tup (ps.map Sp.T)),some (.lst (rs.map qac)),none,none]) (μ':=Z) (by rw[qdu,qay];show R.bind (R.bind (R.ok _ Z) _) _=_;rw[qaa,h1];rfl)
  (qak (ρ':=[some (.tup (ps.map Sp.T)),some (.lst (rs.map qac)),none,none]) (μ':=Z) (by rw[qdu,qay];show R.bind (R.bind (R.ok _ Z) _) _=_;rw[qaa,h2];rfl)
  (qak e0 (qak e1 (qg1 rfl))))
 by_cases jh:cs=[]
 ·subst jh;exact qbg rfl fin (by simp) |>.trans (by simp)
 ·unfold Fcd.run fnR;rw[if_pos (show [T.tup (ps.map Sp.T),T.lst (rs.map qac)].length=(qlk ra rl bl).n from rfl)];show lv false Z ((runSs F (qlk ra rl bl).b [some (.tup (ps.map Sp.T)),some (.lst (rs.map qac)),none,none] Z).bind outT)=_;rw[fin];unfold NV.lv;rw[if_neg (by decide)];exact qfb (m:=⟨Z.l++cs,Z.k⟩) (l':=Z.l) (cs:=cs) rfl rfl rfl jh (qkH (by rw[qru];exact Nat.zero_le _))
end
noncomputable def Sp.gd:Sp->Prop
 |.window n=>0<n/\n<1073741824
 |.times n=> -4294967296<=n/\n<=4294967296
 |.each m=>0<m
 |_=>True
noncomputable def Ks.sz:Ks->Nat
 |.w E=>E.length
 |_=>0
noncomputable def Sp.iv(c:Nat)(m:Int):Sp->Ks->Prop
 |.window n,.w E=>E.length<=c/\WI n E m
 |.running,.d D|.change,.d D|.unlike,.d D=>D.length<=c
 |.key _,.d _|.over _,.d _|.under _,.d _|.plus _,.d _|.times _,.d _=>True
 |.each k,.n o=>0<=o.getD 0/\o.getD 0<k
 |.first _,.n _=>True
 |_,_=>False
noncomputable def Sp.ob(m:Int):Sp->Ks->Int
 |.window n,.w (x::_)=>(x.1.1+1)*n - 1
 |_,_=>m
section
variable{p:Sp}{s:Ks}{c:Nat}{m:Int}{rs:List Row}
theorem qok(g:p.gd)(h:p.iv c m s)(hl:c+rs.length<64)(hm: ∀r∈rs,m<=r.1)(hr:Ris rs):p.can rs s:=by
 cases p<;>cases s<;>first|exact h.elim|skip
 all_goals simp only[Sp.can,Sp.iv,Sp.gd] at*
 all_goals first|exact trivial|exact g|(first|omega|skip)
 exact⟨g,by omega,m,h.2,hm,hr⟩
theorem qoj(g:p.gd)(h:p.iv c m s):p.fit s:=by cases p<;>cases s<;>first|exact h.elim|exact trivial|exact⟨g,h⟩
theorem qkl(h:p.iv c m s){c':Nat}{m':Int}(hc:c<=c')(hm:m<=m')(g:p.gd):p.iv c' m' s/\p.ob m s<=p.ob m' s:=by
 cases p<;>cases s<;>first|exact h.elim|skip
 all_goals try(first|exact⟨trivial,hm⟩|exact⟨h,hm⟩|exact⟨Vp h hc,hm⟩)
 rename_i n E;obtain⟨h1,nd,w,hw,dX⟩:=h;refine⟨⟨Vp h1 hc,nd,w,hw,Int.le_trans dX (Int.ediv_le_ediv g.1 hm)⟩,?_⟩;cases E with
 |nil=>exact hm
 |cons x E=>exact Int.le_refl _
theorem qxO(g:p.gd)(m:Int):p.iv 0 m p.k0:=by cases p<;>first|exact trivial|exact Vm _|exact⟨Int.le_refl _,g⟩|exact⟨Vm _,List.nodup_nil,m / _,(λx hx=>nomatch hx),Int.le_refl _⟩
theorem qmM(h:p.iv c m s):s.sz<=c:=by cases p<;>cases s<;>first|exact h.elim|exact Nat.zero_le _|exact h.1
theorem qd8(D:DD)(k:Str)(v:Int):(put D k v).length<=D.length+1:=by unfold put;split<;>simp
theorem qhc(E:EE)(p:Pl)(v:Int): ∃x∈qbn E p v,x.1=p:=by
 unfold qbn;split
 ·rename_i c;obtain⟨y,hy,e⟩:=List.any_eq_true.mp c;exact⟨_,List.mem_map_of_mem hy,by simp_all⟩
 simp
theorem qtd(g:p.gd)(h:p.iv c m s){r:Row}(hm:m<=r.1):p.iv (c+1) r.1 (p.go s [r]).2/\Ris (p.go s [r]).1/\(∀x∈(p.go s [r]).1,p.ob m s<=x.1/\x.1<=p.ob r.1 (p.go s [r]).2)/\p.ob m s<=p.ob r.1 (p.go s [r]).2/\(p.go s [r]).1.length+(p.go s [r]).2.sz<=s.sz+1:=by
 have one: ∀{o:List Row}{s':Ks},o.length<=1->(∀x∈o,x.1=r.1)->s'.sz=0->(∀m,p.ob m s=m)->(∀m,p.ob m s'=m)->Ris o/\(∀x∈o,p.ob m s<=x.1/\x.1<=p.ob r.1 s')/\p.ob m s<=p.ob r.1 s'/\o.length+s'.sz<=s.sz+1:=λ{o s'} h1 h2 h3 h4 h5=>by
  refine⟨?_,λx hx=> ?_,?_,by omega⟩
  ·match o,h1 with
   |[],_=>exact .nil
   |[x],_=>exact List.pairwise_singleton _ _
  ·rw[h4,h5,h2 x hx];exact⟨hm,Int.le_refl _⟩
  ·rw[h4,h5];exact hm
 cases p<;>cases s<;>first|exact h.elim|skip
 case key.d=>exact⟨trivial,one (by simp only[Sp.go];exact List.length_filter_le _ [r]) (λx hx=>by rw[List.mem_singleton.mp (List.mem_filter.mp hx).1]) rfl (λ_=>rfl) λ_=>rfl⟩
 case over.d=>exact⟨trivial,one (by simp only[Sp.go];exact List.length_filter_le _ [r]) (λx hx=>by rw[List.mem_singleton.mp (List.mem_filter.mp hx).1]) rfl (λ_=>rfl) λ_=>rfl⟩
 case under.d=>exact⟨trivial,one (by simp only[Sp.go];exact List.length_filter_le _ [r]) (λx hx=>by rw[List.mem_singleton.mp (List.mem_filter.mp hx).1]) rfl (λ_=>rfl) λ_=>rfl⟩
 case plus.d=>exact⟨trivial,one (by simp[Sp.go]) (λx hx=>by simp[Sp.go] at hx;rw[hx]) rfl (λ_=>rfl) λ_=>rfl⟩
 case times.d=>exact⟨trivial,one (by simp[Sp.go]) (λx hx=>by simp[Sp.go] at hx;rw[hx]) rfl (λ_=>rfl) λ_=>rfl⟩
 case first.n=>exact⟨trivial,one (by simp[Sp.go,qaO];omega) (λx hx=>by have:=List.mem_of_mem_take hx;simp at this;rw[this]) rfl (λ_=>rfl) λ_=>rfl⟩
 case each.n k o=>
  have h':0<k/\0<=o.getD 0/\o.getD 0<k:=⟨g,h⟩
  have e:qcl k o [r]=(if o.getD 0+1=k then [r] else [],some ((o.getD 0+1) % k)):=by rw[qbV h'];simp[fo,qfq]
  have e1:Sp.go (.each k) (.n o) [r]=(if o.getD 0+1=k then [r] else [],.n (some ((o.getD 0+1) % k))):=by simp only[Sp.go,e]
  rw[e1];exact⟨⟨Int.emod_nonneg _ (by omega),Int.emod_lt_of_pos _ g⟩,one (by show(if _ then [r] else []).length<=1;split<;>simp) (λx hx=>by simp at hx;rw[hx.2]) rfl (λ_=>rfl) λ_=>rfl⟩
 case running.d D=>exact⟨Vp (qd8 _ _ _) (Nat.succ_le_succ h),one (Vm _) (λx hx=>by simp[Sp.go,fo,qrN] at hx;rw[hx]) rfl (λ_=>rfl) λ_=>rfl⟩
 case change.d D=>
  refine⟨Vp (qd8 _ _ _) (Nat.succ_le_succ h),one ?_ (λx hx=> ?_) rfl (λ_=>rfl) λ_=>rfl⟩
  ·simp only[Sp.go,fo,qlK,List.append_nil];cases get D r.2.1<;>simp
  ·simp only[Sp.go,fo,qlK,List.append_nil] at hx;cases e:get D r.2.1<;>rw[e] at hx<;>simp at hx
   rw[hx]
 case unlike.d D=>
  refine⟨Vp (qd8 _ _ _) (Nat.succ_le_succ h),one ?_ (λx hx=> ?_) rfl (λ_=>rfl) λ_=>rfl⟩
  ·simp only[Sp.go,fo,qja,List.append_nil];split<;>simp
  ·simp only[Sp.go,fo,qja,List.append_nil] at hx;split at hx<;>simp at hx
   rw[hx]
 case window.w n E=>
  obtain⟨h1,W⟩:=h;have W':=W.step g.1 hm;have hl:=qi1 n E r;obtain⟨nd,w,hw,dX⟩:=W;have e:Sp.go (.window n) (.w E) [r]=((qaQ n E r).1,.w (qaQ n E r).2):=by simp[Sp.go,fo]
  rw[e];refine⟨⟨by show(qaQ n E r).2.length<=c+1;omega,W'⟩,?_⟩;have at_: ∀x∈qaA n E,x.1=(w+1)*n - 1:=λx hx=>by obtain⟨y,hy,rfl⟩:=List.mem_map.mp hx;show(y.1.1+1)*n - 1=_;rw[hw y ((SR.perm_srt _).mem_iff.mp hy)]
  have up: ∀{a b:Int},a<=b->(a+1)*n - 1<=(b+1)*n - 1:=λ{a b} q=>by have:=Int.mul_le_mul_of_nonneg_right (show a+1<=b+1 by omega) (Int.le_of_lt g.1);omega
  have top: ∀{a:Int},a<=(a / n+1)*n - 1:=λ{a}=>by have:=Int.lt_mul_ediv_self_add (x:=a) (k:=n) g.1;rw[Int.add_mul,Int.one_mul,Int.mul_comm];omega
  have ne: ∃x E',(qaQ n E r).2=x::E'/\x.1.1=r.1 / n:=by
   obtain⟨_,w',ja,_⟩:=W';obtain⟨y,hy,ey⟩: ∃y∈(qaQ n E r).2,y.1=(r.1 / n,r.2.1):=by
    unfold qaQ;split
    ·exact qhc [] (r.1 / n,r.2.1) _
    ·exact qhc E (r.1 / n,r.2.1) _
   cases e3:(qaQ n E r).2 with
   |nil=>rw[e3] at hy;cases hy
   |cons x E'=>exact⟨x,E',rfl,by rw[ja x (by rw[e3];exact Vk),<-ja y hy,ey]⟩
  obtain⟨x,E',e2,ex⟩:=ne;have eb:Sp.ob r.1 (.window n) (.w (qaQ n E r).2)=(r.1 / n+1)*n - 1:=by rw[e2];show(x.1.1+1)*n - 1=_;rw[ex]
  have mono:m / n<=r.1 / n:=Int.ediv_le_ediv g.1 hm;have le:Sp.ob m (.window n) (.w E)<=(r.1 / n+1)*n - 1:=by
   cases E with
   |nil=>exact Int.le_trans hm top
   |cons y E=>show(y.1.1+1)*n - 1<=_;exact up (by rw[hw y List.mem_cons_self];omega)
  rw[eb];refine⟨?_,λx hx=> ?_,le,hl⟩
  ·show Ris (qaQ n E r).1;unfold qaQ;split
   ·refine List.pairwise_iff_forall_sublist.mpr λ{a b} hs=> ?_;rw[at_ a (hs.subset (by simp)),at_ b (hs.subset (by simp))];exact Int.le_refl _
   ·exact .nil
  ·have hx:x∈(qaQ n E r).1:=hx;unfold qaQ at hx;split at hx
   ·rename_i ct;rw[at_ x hx];cases E with
    |nil=>cases ct
    |cons y E=>refine⟨?_,up (by omega)⟩;show(y.1.1+1)*n - 1<=_;rw[hw y List.mem_cons_self];exact Int.le_refl _
   ·cases hx
theorem qmN(g:p.gd): ∀{rs:List Row}{s:Ks}{c:Nat}{m m':Int},p.iv c m s->(∀r∈rs,m<=r.1/\r.1<=m')->m<=m'->Ris rs->
  p.iv (c+rs.length) m' (p.go s rs).2/\Ris (p.go s rs).1/\(∀x∈(p.go s rs).1,p.ob m s<=x.1/\x.1<=p.ob m' (p.go s rs).2)/\p.ob m s<=p.ob m' (p.go s rs).2/\(p.go s rs).1.length+(p.go s rs).2.sz<=s.sz+rs.length
 |[],s,c,m,m',h,_,hm,_=>by
  obtain⟨h1,h2⟩:=qkl h (Vm c) hm g;have same: ∀{o:List Row}{s':Ks},o=[]->s'=s->p.iv (c+0) m' s'/\Ris o/\(∀x∈o,p.ob m s<=x.1/\x.1<=p.ob m' s')/\p.ob m s<=p.ob m' s'/\o.length+s'.sz<=s.sz+0:=λ{o s'} e1 e2=>by rw[e1,e2];exact⟨h1,.nil,(λx hx=>nomatch hx),h2,by simp⟩
  cases p<;>cases s<;>first|exact h.elim|exact same rfl rfl|skip
  ·refine⟨trivial,?_,λx hx=> ?_,hm,?_⟩<;>simp[Sp.go,qaO,Ks.sz] at*
  ·rename_i k o;have h':0<k/\0<=o.getD 0/\o.getD 0<k:=⟨g,h⟩
   have e:Sp.go (.each k) (.n o) []=([],.n (some (o.getD 0))):=by simp only[Sp.go,qbV h',fo]
   rw[e];exact⟨h,.nil,(λx hx=>nomatch hx),hm,Vm _⟩
 |r::rs,s,c,m,m',h,hb,hm,hr=>by
  obtain⟨a1,a2,a3,a4,a5⟩:=qtd g h (hb r Vk).1;have cC:=List.pairwise_cons.mp hr;obtain⟨b1,b2,b3,b4,b5⟩:=qmN g a1 (m':=m') (λx hx=>⟨cC.1 x hx,(hb x (Vl _ hx)).2⟩) (hb r Vk).2 cC.2;have e:=qon p s (qoj g h) [r] rs;simp only[List.singleton_append] at e;rw[e];refine⟨by rw[List.length_cons,show c+(rs.length+1)=c+1+rs.length by omega];exact b1,?_,λx hx=> ?_,Int.le_trans a4 b4,by simp only[List.length_append,List.length_cons];omega⟩
  ·exact List.pairwise_append.mpr ⟨a2,b2,λx hx y hy=>Int.le_trans (a3 x hx).2 (b3 y hy).1⟩
  ·rcases List.mem_append.mp hx with hx|hx
   ·exact⟨(a3 x hx).1,Int.le_trans (a3 x hx).2 b4⟩
   ·exact⟨Int.le_trans a4 (b3 x hx).1,(b3 x hx).2⟩
theorem qkm(g:p.gd)(h:p.iv c m s)(hb: ∀r∈rs,m<=r.1)(hr:Ris rs):
  Ris ((p.go s rs).1++p.rest (p.go s rs).2)/\(∀x∈(p.go s rs).1++p.rest (p.go s rs).2,p.ob m s<=x.1)/\((p.go s rs).1++p.rest (p.go s rs).2).length<=s.sz+rs.length:=by
 obtain⟨m',dX,aW⟩: ∃m',m<=m'/\∀r∈rs,r.1<=m':=by
  clear hb hr
  induction rs with
  |nil=>exact⟨m,Int.le_refl _,λ_ h=>nomatch h⟩
  |cons r rs ih=>obtain⟨m',h1,h2⟩:=ih;exact⟨max m' r.1,by omega,λx hx=>by rcases List.mem_cons.mp hx with rfl|hx;omega;have:=h2 x hx;omega⟩
 obtain⟨a1,a2,a3,a4,a5⟩:=qmN g h (λr hr=>⟨hb r hr,aW r hr⟩) dX hr;generalize p.go s rs=y at*;obtain⟨o,s'⟩:=y;by_cases hp: ∃n E,p= .window n/\s'= .w E
 ·obtain⟨n,E,rfl,rfl⟩:=hp;obtain⟨_,_,w,hw,_⟩:=a1;have at_: ∀x∈qaA n E,x.1=(w+1)*n - 1/\Sp.ob m' (.window n) (.w E)=x.1:=λx hx=>by
   obtain⟨y,hy,rfl⟩:=List.mem_map.mp hx;have hy:=(SR.perm_srt _).mem_iff.mp hy;refine⟨by show(y.1.1+1)*n - 1=_;rw[hw y hy],?_⟩;cases E with
   |nil=>cases hy
   |cons z E=>show(z.1.1+1)*n - 1=(y.1.1+1)*n - 1;rw[hw y hy,hw z List.mem_cons_self]
  refine⟨List.pairwise_append.mpr ⟨a2,?_,λx hx y hy=> ?_⟩,λx hx=> ?_,?_⟩
  ·refine List.pairwise_iff_forall_sublist.mpr λ{a b} hs=> ?_;rw[(at_ a (hs.subset (by simp))).1,(at_ b (hs.subset (by simp))).1];exact Int.le_refl _
  ·rw[<-(at_ y hy).2];exact(a3 x hx).2
  ·rcases List.mem_append.mp hx with hx|hx
   ·exact(a3 x hx).1
   ·rw[<-(at_ x hx).2];exact a4
  ·rw[List.length_append];show o.length+(qaA n E).length<=_;rw[qbL];exact a5
 ·have e:p.rest s'=[]:=by
   cases p<;>first|rfl|skip
   cases s'<;>first|rfl|exact absurd ⟨_,_,rfl,rfl⟩ hp
  grind
noncomputable def Ch:Nat->Int->List (Sp×Ks)->Prop
 |_,_,[]=>True
 |c,m,(p,s)::q=>p.gd/\p.iv c m s/\Ch (c - s.sz) (p.ob m s) q
theorem Ch.mono: ∀{q:List (Sp×Ks)}{c c':Nat}{m m':Int},Ch c m q->c<=c'->m<=m'->Ch c' m' q
 |[],_,_,_,_,_,_,_=>trivial
 |(p,s)::q,c,c',m,m',⟨g,h,k⟩,hc,hm=>by obtain⟨h1,h2⟩:=qkl h hc hm g;exact⟨g,h1,k.mono (by omega) h2⟩
theorem Ch.zero: ∀{ps:List Sp}{m:Int},(∀p∈ps,p.gd)->Ch 0 m (ps.map Sp.z)
 |[],_,_=>trivial
 |p::ps,m,h=>⟨h p Vk,qxO (h p Vk) m,(Ch.zero (m:=m) λq hq=>h q (Vl _ hq)).mono (Nat.zero_le _) (by cases p<;>exact Int.le_refl _)⟩
theorem Ch.fits: ∀{q:List (Sp×Ks)}{c:Nat}{m:Int},Ch c m q->quD q
 |[],_,_,_=>λ_ h=>nomatch h
 |(p,s)::q,_,_,⟨g,h,k⟩=>λx hx=>by
  rcases List.mem_cons.mp hx with rfl|hx
  ·exact qoj g h
  ·exact k.fits x hx
theorem Ch.wk: ∀{q:List (Sp×Ks)}{c:Nat}{m m':Int}{rs:List Row},Ch c m q->(∀r∈rs,m<=r.1/\r.1<=m')->m<=m'->Ris rs->Ch (c+rs.length) m' (wk q rs).2
 |[],_,_,_,_,_,_,_,_=>trivial
 |(p,s)::q,c,m,m',rs,⟨g,h,k⟩,hb,hm,hr=>by obtain⟨a1,a2,a3,a4,a5⟩:=qmN g h hb hm hr;have:=qmM h;exact⟨g,a1,(k.wk a3 a4 a2).mono (by omega) (Int.le_refl _)⟩
theorem Ch.can: ∀{d:List (Sp×Ks)}{p:Sp}{s:Ks}{r:List (Sp×Ks)}{c:Nat}{m m':Int}{rs:List Row},Ch c m (d++(p,s)::r)->(∀r∈rs,m<=r.1/\r.1<=m')->m<=m'->Ris rs->c+rs.length<64->p.can (Wk.wk d rs).1 s
 |[],p,s,r,c,m,m',rs,⟨g,h,k⟩,hb,hm,hr,hl=>qok g h hl (λr h=>(hb r h).1) hr
 |(p',s')::d,p,s,r,c,m,m',rs,⟨g,h,k⟩,hb,hm,hr,hl=>by obtain⟨a1,a2,a3,a4,a5⟩:=qmN g h hb hm hr;have:=qmM h;exact Ch.can (d:=d) k a3 a4 a2 (by omega)
theorem Ch.canE: ∀{d:List (Sp×Ks)}{p:Sp}{s:Ks}{r:List (Sp×Ks)}{c:Nat}{m:Int}{rs:List Row},Ch c m (d++(p,s)::r)->(∀r∈rs,m<=r.1)->Ris rs->c+rs.length<64->p.can (qaK d rs) s
 |[],p,s,r,c,m,rs,⟨g,h,k⟩,hb,hr,hl=>qok g h hl hb hr
 |(p',s')::d,p,s,r,c,m,rs,⟨g,h,k⟩,hb,hr,hl=>by obtain⟨a1,a2,a3⟩:=qkm g h hb hr;have:=qmM h;exact Ch.canE (d:=d) k a2 a1 (by omega)
theorem Ch.ris: ∀{q:List (Sp×Ks)}{c:Nat}{m:Int}{rs:List Row},Ch c m q->(∀r∈rs,m<=r.1)->Ris rs->Ris (qaK q rs)/\(qaK q rs).length<=c+rs.length
 |[],c,m,rs,_,hb,hr=>⟨hr,by show rs.length<=_;omega⟩
 |(p,s)::q,c,m,rs,⟨g,h,k⟩,hb,hr=>by obtain⟨a1,a2,a3⟩:=qkm g h hb hr;have:=qmM h;obtain⟨b1,b3⟩:=Ch.ris k a2 a1;exact⟨b1,by show(qaK q _).length<=_;omega⟩
end
noncomputable def qeF:List Ct->List (Nat×Ks)->List Ct
 |l,[]=>l
 |l,u::us=>qeF (l.set u.1 (ct u.2)) us
theorem qgR: ∀(us vs:List (Nat×Ks))(l:List Ct),qeF l (us++vs)=qeF (qeF l us) vs
 |[],_,_=>rfl
 |_::us,vs,_=>qgR us vs _
theorem qco: ∀(us:List (Nat×Ks))(l:List Ct),(qeF l us).length=l.length
 |[],_=>rfl
 |u::us,l=>(qco us _).trans (by simp)
theorem qcF: ∀{us:List (Nat×Ks)}{l:List Ct}{j:Nat},j∉us.map (·.1)->(qeF l us)[j]? =l[j]?
 |[],_,_,_=>rfl
 |u::us,l,j,h=>by simp only[List.map_cons,List.mem_cons,not_or] at h;exact(qcF h.2).trans (List.getElem?_set_ne (λe=>h.1 e.symm))
theorem qi8: ∀{us:List (Nat×Ks)}{l:List Ct}{u:Nat×Ks},(us.map (·.1)).Nodup->u∈us->u.1<l.length->(qeF l us)[u.1]? =some (ct u.2)
 |v::us,l,u,nd,hu,hl=>by
  rw[List.map_cons,List.nodup_cons] at nd
  rcases List.mem_cons.mp hu with rfl|hu
  ·exact(qcF nd.1).trans (by simp[hl])
  ·show(qeF _ us)[u.1]? =_;exact qi8 nd.2 hu (by simpa using hl)
section
noncomputable def wg(G:Sp->Ks->List Row->List Row×Ks):List (Sp×Ks)->List Row->List Row×List (Sp×Ks)
 |[],rs=>(rs,[])
 |(p,s)::q,rs=>((wg G q (G p s rs).1).1,(p,(G p s rs).2)::(wg G q (G p s rs).1).2)
theorem qi3: ∀(a b:List (Sp×Ks))(rs:List Row),wg G (a++b) rs=((wg G b (wg G a rs).1).1,(wg G a rs).2++(wg G b (wg G a rs).1).2)
 |[],_,_=>rfl
 |(p,s)::a,b,rs=>by simp only[List.cons_append,wg,qi3 a b]
theorem qdp: ∀(a:List (Sp×Ks))(rs:List Row),(wg G a rs).2.length=a.length
 |[],_=>rfl
 |(p,s)::a,rs=>by simp only[wg,List.length_cons,qdp a]
theorem qnR: ∀(a:List (Sp×Ks))(rs:List Row),(wg G a rs).2.map (·.1)=a.map (·.1)
 |[],_=>rfl
 |(p,s)::a,rs=>by simp only[wg,List.map_cons,qnR a]
noncomputable def goE(p:Sp)(s:Ks)(rs:List Row):List Row×Ks:=((p.go s rs).1++p.rest (p.go s rs).2,(p.go s rs).2)
theorem qlN: ∀(q:List (Sp×Ks))(rs:List Row),wg Sp.go q rs=wk q rs
 |[],_=>rfl
 |(p,s)::q,rs=>by simp only[wg,wk,qlN q]
theorem qi2: ∀(q:List (Sp×Ks))(rs:List Row),(wg goE q rs).1=qaK q rs
 |[],_=>rfl
 |(p,s)::q,rs=>by simp only[wg,qaK,goE,qi2 q]
abbrev qbk(q:List (Sp×Ks))(ks:List Nat)(n:Int)(e:Bool):List (Str×NV.T):=[("ask",.tup (q.map λy=>y.1.T)),("kept",.lst (ks.map NV.T.obj)),("newest",.int n),("ended",.bl e)]
structure WS(Z:Mu)(x:Nat)(q:List (Sp×Ks))(ks:List Nat)(n:Int)(e:Bool):Prop where
 ins:Z.l[x]? =some (.ins "Walk" (qbk q ks n e))
 len:ks.length=q.length
 at_: ∀y∈q.zip ks,Z.l[y.2]? =some (ct y.1.2)
 nd:ks.Nodup
theorem WS.nx(w:WS Z x q ks n e):x∉ks:=λh=>by
 obtain⟨i,hi,e⟩:=List.mem_iff_getElem.mp h;have wl:=w.len;have:=w.at_ (q[i]'(by rw[<-w.len];exact hi),ks[i]) (List.mem_iff_getElem.mpr ⟨i,by grind,by simp⟩);simp only[e] at this;rw[w.ins] at this;revert this;generalize (q[i]'(by rw[<-w.len];exact hi)).2=s;cases s with
 |n c=>cases c<;>(intro h;cases h)
 |d D=>intro h;cases h
 |w E=>cases E<;>(intro h;cases h)
theorem qrq(q:List (Sp×Ks))(ks:List Nat):qiY (q.map λy=>y.1.T) (ks.map NV.T.obj)=(q.zip ks).map λy=>.tup [y.1.1.T,.obj y.2]:=by unfold qiY;rw[List.zip_map,List.map_map];rfl
theorem qoc(mk:NV.T->Option NV.T->Option NV.T->Ro)(m0: ∀t u v,(mk t u v)[0]? =some (some (.obj x)))(m1: ∀t u v y z,((mk t u v).set a (some y)).set b (some z)=mk t (some y) (some z))(m2: ∀t u v y,(mk t u v).set c (some y)=mk y u v)(m3: ∀t y z Z,runA F [(.v a),(.v c),(.v b)] (mk t (some y) (some z)) Z= .ok [y,t,z] Z)(w:WS Z x q ks n e)(hB: ∀{p:Sp}{Z:Mu}{k:Nat}{s:Ks}{rs:List Row},p∈q.map (·.1)->Z.l[k]? =some (ct s)->p.can rs s->F bs [p.T,.lst (rs.map qac),.obj k] Z= .ok (.lst ((G p s rs).1.map qac)) (Z.put k (ct (G p s rs).2)))(hc: ∀d p s r,q=d++(p,s)::r->p.can (wg G d rs).1 s):
  ∃u v,qaM F (.for_ (.tup [.n a,.n b]) (.by_ .zip [(.fld ["Walk"] "ask" vA0),(.fld ["Walk"] "kept" vA0)]) [.set c (.call bs [(.v a),(.v c),(.v b)])]) (mk (.lst (rs.map qac)) u0 v0) Z
   = .ok (.nx (mk (.lst ((wg G q rs).1.map qac)) u v)) ⟨qeF Z.l (ks.zip ((wg G q rs).2.map (·.2))),Z.k⟩:=by
 have wl:=w.len;have lz:(q.zip ks).map (·.1)=q:=by rw[List.map_fst_zip];omega
 have lk:(q.zip ks).map (·.2)=ks:=by rw[List.map_snd_zip];omega
 obtain⟨ρ',μ',e1,u,v,rfl,rfl⟩:=qc5 (F:=F) (ρ:=mk (.lst (rs.map qac)) u0 v0) (Z:=Z) (g:=.tup [.n a,.n b]) (ci:=.by_ .zip [(.fld ["Walk"] "ask" vA0),(.fld ["Walk"] "kept" vA0)]) (b:=[.set c (.call bs [(.v a),(.v c),(.v b)])]) (q.zip ks) (λy=>.tup [y.1.1.T,.obj y.2])
  (λd ρ' μ'=> ∃u v,ρ'=mk (.lst ((wg G (d.map (·.1)) rs).1.map qac)) u v/\μ'=⟨qeF Z.l ((d.map (·.2)).zip ((wg G (d.map (·.1)) rs).2.map (·.2))),Z.k⟩) (qrq q ks)
  ⟨_,by
   show(runA F [(.fld ["Walk"] "ask" vA0),(.fld ["Walk"] "kept" vA0)] _ Z).bind qfN=_;have f1:qab F (.fld ["Walk"] "ask" vA0) (mk (.lst (rs.map qac)) u0 v0) Z= .ok (.tup (q.map λy=>y.1.T)) Z:=by rw[qn5,qeW,m0,qec,qaa];exact qc6 w.ins rfl rfl
   have f2:qab F (.fld ["Walk"] "kept" vA0) (mk (.lst (rs.map qac)) u0 v0) Z= .ok (.lst (ks.map NV.T.obj)) Z:=by rw[qn5,qeW,m0,qec,qaa];exact qc6 w.ins rfl rfl
   rw[qai,f1,qaa,qai,f2];rfl,.inl rfl⟩ ⟨u0,v0,rfl,rfl⟩ (by
   rintro d ⟨⟨p,s⟩,k⟩ r hq ρ' μ' ⟨u,v,rfl,rfl⟩;have eX:q=d.map (·.1)++(p,s)::r.map (·.1):=by rw[<-lz,hq];simp
   have fh:ks=d.map (·.2)++k::r.map (·.2):=by rw[<-lk,hq];simp
   have nd:=w.nd;rw[fh] at nd;have hk0:Z.l[k]? =some (ct s):=w.at_ ((p,s),k) (by rw[hq];simp);have hnk:k∉((d.map (·.2)).zip ((wg G (d.map (·.1)) rs).2.map (·.2))).map (·.1):=by rw[List.map_fst_zip (by simp[qdp])];intro h;exact(List.nodup_append.mp nd).2.2 k h k Vk rfl
   have hb:=hB (p:=p) (Z:=⟨qeF Z.l ((d.map (·.2)).zip ((wg G (d.map (·.1)) rs).2.map (·.2))),Z.k⟩) (k:=k) (s:=s) (rs:=(wg G (d.map (·.1)) rs).1) (by rw[eX];simp) ((qcF hnk).trans hk0) (hc _ p s _ eX);rw[Mu.put_k (by rw[qhV];exact Nat.zero_le _)] at hb;refine⟨_,_,?_,some p.T,some (.obj k),rfl,rfl⟩;have eG: ∀(t:NV.T)(Z:Mu),qb0 (.tup [.n a,.n b]) (.tup [p.T,.obj k]) (mk t u v) Z= .ok (mk t (some p.T) (some (.obj k))) Z:=λt Z=>by simp[m1]
   show R.bind (qb0 _ _ _ _) _=_;rw[eG,qaa,qah,qaX,qay,m3,qaa,hb,qaa,qaa,qaR,m2];have ez:(List.map (·.2) (d++[((p,s),k)])).zip (List.map (·.2) (wg G (List.map (·.1) (d++[((p,s),k)])) rs).2)=(d.map (·.2)).zip ((wg G (d.map (·.1)) rs).2.map (·.2))++[(k,(G p s (wg G (d.map (·.1)) rs).1).2)]:=by rw[List.map_append,List.map_append,qi3,List.map_append,List.zip_append (by simp[qdp])];rfl
   rw[ez,qgR];have e1:(wg G (List.map (·.1) (d++[((p,s),k)])) rs).1=(G p s (wg G (d.map (·.1)) rs).1).1:=by rw[List.map_append,qi3];rfl
   rw[e1];rfl)
 rw[lz,lk] at e1;exact⟨u,v,e1⟩
theorem WS.upd{Z:Mu}{x:Nat}{ks:List Nat}{n n':Int}{e e':Bool}{m:Mu}(w:WS Z x q ks n e)(h:m.l[x]? =some (.ins "Walk" (qbk q ks n' e')))(hl:m.l.length=Z.l.length)(k:List (Nat×Nat)):WS ⟨qeF m.l (ks.zip ((wg G q rs).2.map (·.2))),k⟩ x (wg G q rs).2 ks n' e':=by
 have lf:(ks.zip ((wg G q rs).2.map (·.2))).map (·.1)=ks:=by rw[List.map_fst_zip];simp[qdp,w.len]
 refine⟨?_,by rw[qdp];exact w.len,λy hy=> ?_,w.nd⟩
 ·rw[qcF (by rw[lf];exact w.nx),h];unfold qbk;have:(wg G q rs).2.map (λy=>y.1.T)=q.map λy=>y.1.T:=by have:=congrArg (List.map Sp.T) (qnR (G:=G) q rs);rw[List.map_map,List.map_map] at this;exact this
  rw[this]
 ·have hm:=by
   have:=List.mem_map_of_mem (f:=λy:(Sp×Ks)×Nat=>(y.2,y.1.2)) hy;have e2:((wg G q rs).2.zip ks).map (λy:(Sp×Ks)×Nat=>(y.2,y.1.2))=ks.zip ((wg G q rs).2.map (·.2)):=by
    generalize (wg G q rs).2=a;clear this hy lf;generalize ks=b
    induction a generalizing b with
    |nil=>cases b<;>rfl
    |cons z a ih=>cases b with
     |nil=>rfl
     |cons y b=>simp[ih]
   rw[e2] at this;exact this
  refine qi8 (u:=(y.2,y.1.2)) (by rw[lf];exact w.nd) hm ?_;rw[hl];have:y.2∈ks:=by rw[<-lf];exact List.mem_map_of_mem (f:=(·.1)) hm
  obtain⟨i,hi,e⟩:=List.mem_iff_getElem.mp this;have wl:=w.len;have:=w.at_ (q[i]'(by rw[<-w.len];exact hi),ks[i]) (List.mem_iff_getElem.mpr ⟨i,by rw[List.length_zip];omega,by simp⟩);simp only[e] at this;exact(List.getElem?_eq_some_iff.mp this).1
end
noncomputable def qlc(rt bs:Nat):Fcd:=⟨false,2,5,[.exp (.call rt [vA1,(.fld ["Walk"] "ended" vA0),(.fld ["Walk"] "newest" vA0)]),.fld ["Walk"] "newest" vA0 (Oo .ix vA1 (Ci 0)),.set 2 (.lst false [vA1]),.for_ (.tup [(.n 3),(.n 4)]) (.by_ .zip [(.fld ["Walk"] "ask" vA0),(.fld ["Walk"] "kept" vA0)]) [.set 2 (.call bs [vA3,vA2,vA4])],.ret vA2]⟩
noncomputable def quq(rv bl:Nat):Fcd:=⟨false,1,4,[.exp (.call rv [(.fld ["Walk"] "ended" vA0)]),.fld ["Walk"] "ended" vA0 (.c (.bl true)),.set 1 (.lst false []),.for_ (.tup [(.n 2),(.n 3)]) (.by_ .zip [(.fld ["Walk"] "ask" vA0),(.fld ["Walk"] "kept" vA0)]) [.set 1 (.call bl [vA2,vA1,vA3])],.ret vA1]⟩
noncomputable def qdM(ra:Nat):Fcd:=⟨false,2,2,[.exp (.call ra [vA1]),.fld ["Walk"] "ask" vA0 vA1,.fld ["Walk"] "kept" vA0 (.comp false false 1 [] (.n 0) (.gen vA1) none (.dct true)),.fld ["Walk"] "newest" vA0 (Ci 0),.fld ["Walk"] "ended" vA0 (.c (.bl false))]⟩
section
structure Only(Z μ':Mu)(x:Nat)(ks:List Nat):Prop where
 len:μ'.l.length=Z.l.length
 old: ∀j,j≠x->j∉ks->μ'.l[j]? =Z.l[j]?
theorem qhj(h:us.map (·.1)=ks):Only Z ⟨qeF (Z.put x c).l us,k⟩ x ks:=by refine⟨by rw[qco];simp,λj h1 h2=> ?_⟩;rw[qcF (by rw[h];exact h2)];exact List.getElem?_set_ne λe=>h1 e.symm
theorem WS.put(w:WS Z x q ks n e):(Z.put x (.ins "Walk" (qbk q ks n' e'))).l[x]? =some (.ins "Walk" (qbk q ks n' e'))/\WS (Z.put x (.ins "Walk" (qbk q ks n' e'))) x q ks n' e':=by
 have h:(Z.put x (.ins "Walk" (qbk q ks n' e'))).l[x]? =some (.ins "Walk" (qbk q ks n' e')):=by simp[(List.getElem?_eq_some_iff.mp w.ins).1]
 refine⟨h,h,w.len,λy hy=> ?_,w.nd⟩;rw[Mu.put_l,List.getElem?_set_ne,w.at_ y hy];intro z;exact w.nx (by rw[z];exact(Vx hy).2)
theorem qiX(w:WS Z x q ks n e):(ks.zip ((wg G q rs).2.map (·.2))).map (·.1)=ks:=by rw[List.map_fst_zip];simp[qdp,w.len]
theorem qo1(w:WS Z x q ks n false)(hT:F rt [qac r,.bl false,.int n] Z= .ok .non Z)(hB: ∀{p:Sp}{Z:Mu}{k:Nat}{s:Ks}{rs:List Row},p∈q.map (·.1)->Z.l[k]? =some (ct s)->p.can rs s->F bs [p.T,.lst (rs.map qac),.obj k] Z= .ok (.lst ((p.go s rs).1.map qac)) (Z.put k (ct (p.go s rs).2)))(ch:Ch c m q)(hm:m<=r.1)(hc:c<63):
  ∃μ',(qlc rt bs).run F [.obj x,qac r] Z= .ok (.lst ((wk q [r]).1.map qac)) μ'/\WS μ' x (wk q [r]).2 ks r.1 false/\Only Z μ' x ks:=by
 obtain⟨hp,w2⟩:=w.put (n':=r.1) (e':=false)
 obtain⟨u,v,e4⟩:=qoc (F:=F) (G:=Sp.go) (bs:=bs) (a:=3) (b:=4) (c:=2) (rs:=[r]) (u0:=none) (v0:=none) (λt u v=>[some (.obj x),some (qac r),some t,u,v]) (λ_ _ _=>rfl) (λ_ _ _ _ _=>rfl) (λ_ _ _ _=>rfl) (λ_ _ _ _=>rfl) w2 hB
  (λd p s r' hq=>by rw[qlN];rw[hq] at ch;exact ch.can (m':=r.1) (λy hy=>by rw[List.mem_singleton.mp hy];exact⟨hm,Int.le_refl _⟩) hm (List.pairwise_singleton _ _) (by simp;omega))
 refine⟨_,qbg (m:=⟨qeF (Z.put x (.ins "Walk" (qbk q ks r.1 false))).l (ks.zip ((wg Sp.go q [r]).2.map (·.2))),(Z.put x (.ins "Walk" (qbk q ks r.1 false))).k⟩) rfl (qak (ρ':=[some (.obj x),some (qac r),none,none,none]) (μ':=Z) ?_ (qak (ρ':=[some (.obj x),some (qac r),none,none,none]) (μ':=Z.put x (.ins "Walk" (qbk q ks r.1 false))) ?_ (qak (ρ':=[some (.obj x),some (qac r),some (.lst ([r].map qac)),none,none]) (μ':=Z.put x (.ins "Walk" (qbk q ks r.1 false))) ?_ (qak e4 (qg1 ?_))))) ?_,?_,qhj (qiX w)⟩
 ·have f1:qab F (.fld ["Walk"] "ended" vA0) [some (.obj x),some (qac r),none,none,none] Z= .ok (.bl false) Z:=qc6 w.ins rfl rfl;have f2:qab F (.fld ["Walk"] "newest" vA0) [some (.obj x),some (qac r),none,none,none] Z= .ok (.int n) Z:=qc6 w.ins rfl rfl;have f0:qab F vA1 [some (.obj x),some (qac r),none,none,none] Z= .ok (qac r) Z:=rfl
  change qaM F (.exp (.call rt _)) [some (.obj x),some (qac r),none,none,none] Z=_
  rw[qdu,qay,qai,f0,qaa,qai,f1,qaa,qai,f2];simp only[qaa,qa1,hT]
 ·show qaM F (.fld ["Walk"] "newest" vA0 (Oo .ix vA1 (Ci 0))) _ _=_;rw[qdt];show R.bind (R.ok (NV.T.int r.1) Z) _=_;rw[qaa];show R.bind (R.ok (NV.T.obj x) Z) _=_;rw[qaa,qb7 w.ins rfl (by show 4<1000;decide)];rfl
 ·rfl
 ·rw[qlN];rfl
 ·show(qeF _ _).length=_;rw[qco];simp
 ·rw[<-qlN];exact w.upd hp (by simp) _
theorem qtH(w:WS Z x q ks n false)(hT:F rv [.bl false] Z= .ok .non Z)(hB: ∀{p:Sp}{Z:Mu}{k:Nat}{s:Ks}{rs:List Row},p∈q.map (·.1)->Z.l[k]? =some (ct s)->p.can rs s->F bl [p.T,.lst (rs.map qac),.obj k] Z= .ok (.lst (((p.go s rs).1++p.rest (p.go s rs).2).map qac)) (Z.put k (ct (p.go s rs).2)))(ch:Ch c m q)(hc:c<64):
  ∃μ' q',(quq rv bl).run F [.obj x] Z= .ok (.lst ((qaK q []).map qac)) μ'/\WS μ' x q' ks n true/\Only Z μ' x ks:=by
 obtain⟨hp,w2⟩:=w.put (n':=n) (e':=true)
 obtain⟨u,v,e4⟩:=qoc (F:=F) (G:=goE) (bs:=bl) (a:=2) (b:=3) (c:=1) (rs:=[]) (u0:=none) (v0:=none) (λt u v=>[some (.obj x),some t,u,v]) (λ_ _ _=>rfl) (λ_ _ _ _ _=>rfl) (λ_ _ _ _=>rfl) (λ_ _ _ _=>rfl) w2 hB
  (λd p s r' hq=>by rw[qi2];rw[hq] at ch;exact ch.canE (λy hy=>nomatch hy) .nil (by simp;omega))
 refine⟨_,(wg goE q []).2,qbg (m:=⟨qeF (Z.put x (.ins "Walk" (qbk q ks n true))).l (ks.zip ((wg goE q []).2.map (·.2))),(Z.put x (.ins "Walk" (qbk q ks n true))).k⟩) rfl (qak (ρ':=[some (.obj x),none,none,none]) (μ':=Z) ?_ (qak (ρ':=[some (.obj x),none,none,none]) (μ':=Z.put x (.ins "Walk" (qbk q ks n true))) ?_ (qak (ρ':=[some (.obj x),some (.lst []),none,none]) (μ':=Z.put x (.ins "Walk" (qbk q ks n true))) ?_ (qak e4 (qg1 ?_))))) ?_,?_,qhj (qiX w)⟩
 ·have f1:qab F (.fld ["Walk"] "ended" vA0) [some (.obj x),none,none,none] Z= .ok (.bl false) Z:=qc6 w.ins rfl rfl
  change qaM F (.exp (.call rv _)) [some (.obj x),none,none,none] Z=_
  rw[qdu,qay,qai,f1];simp only[qaa,qa1,hT]
 ·show qaM F (.fld ["Walk"] "ended" vA0 (.c (.bl true))) _ _=_;rw[qdt];show R.bind (R.ok (NV.T.bl true) Z) _=_;rw[qaa];show R.bind (R.ok (NV.T.obj x) Z) _=_;rw[qaa,qb7 w.ins rfl (by show 4<1000;decide)];rfl
 ·rfl
 ·rw[qi2];rfl
 ·show(qeF _ _).length=_;rw[qco];simp
 ·exact w.upd hp (by simp) _
theorem qfs: ∀(ts:List NV.T)(ρ:Ro)(Z:Mu),ρ≠[]->qfw (qb0 (.n 0)) (runT F none) (qab F (.dct true)) ts ρ Z= .ok ((List.range' Z.l.length ts.length).map NV.T.obj) ⟨Z.l++List.replicate ts.length (.dk []),Z.k⟩
 |[],ρ,Z,_=>by simp[qfw]
 |t::ts,ρ,Z,h=>by simp only[qfw,qyz,qaa,qpn,if_true,qpr,qfs ts _ _ (show ρ.set 0 (some t)≠[] by simpa using h),Mu.add_on (show ubC (.dk [])=0 from rfl),Mu.on,List.length_append,List.length_cons];rw[List.range'_succ,List.append_assoc];rfl
theorem ct0(ps:List Sp): ∀y∈ps.map Sp.z,ct y.2= .dk []:=λy hy=>by obtain⟨p,_,rfl⟩:=List.mem_map.mp hy;exact que p
theorem qnU(ps:List Sp):ub (.tup (ps.map Sp.T))=0:=qlS λt ht=>by obtain⟨p,_,rfl⟩:=List.mem_map.mp ht;cases p<;>rfl
theorem qgS: ∀(n a:Nat),ubs ((List.range' a (n+1)).map NV.T.obj)=a+n+1
 |0,a=>rfl
 |n+1,a=>by show max (a+1) _=_;rw[qgS n _];omega
theorem qsT{F:Fs}{Z:Mu}{i ra:Nat}{F1:Fs}{ps:List Sp}(hI: ∀ts Z,F i ts Z=(qdM ra).run F1 ts Z)(hA: ∀Z,F1 ra [.tup (ps.map Sp.T)] Z= .ok .non Z):
  ∃μ',mkR "Walk" (F i) [.tup (ps.map Sp.T)] Z= .ok (.obj Z.l.length) μ'/\WS μ' Z.l.length (ps.map Sp.z) (List.range' (Z.l.length+1) ps.length) 0 false/\μ'.l.length=Z.l.length+1+ps.length/\∀j,j<Z.l.length->μ'.l[j]? =Z.l[j]? :=by
 have ea: ∀{q:List (Sp×Ks)},q=ps.map Sp.z->(q.map λy=>y.1.T)=ps.map Sp.T:=λ{q} e=>by rw[e,List.map_map];rfl
 generalize cH:List.range' (Z.l.length+1) ps.length=ks;let c3:Ct:=.ins "Walk" [("ask",.tup (ps.map Sp.T)),("kept",.lst (ks.map NV.T.obj))];let c4:Ct:=.ins "Walk" [("ask",.tup (ps.map Sp.T)),("kept",.lst (ks.map NV.T.obj)),("newest",.int 0)];let c5:Ct:=.ins "Walk" [("ask",.tup (ps.map Sp.T)),("kept",.lst (ks.map NV.T.obj)),("newest",.int 0),("ended",.bl false)];let m2:Mu:=⟨Z.l++[.ins "Walk" [("ask",.tup (ps.map Sp.T))]],Z.k⟩
 let m3:Mu:=⟨m2.l++List.replicate ps.length (.dk []),Z.k⟩
 let m5:Mu:=((m3.put Z.l.length c3).put Z.l.length c4).put Z.l.length c5;have l3:m3.l.length=Z.l.length+1+ps.length:=by simp[m3,m2];omega
 have at3:m3.l[Z.l.length]? =some (.ins "Walk" [("ask",.tup (ps.map Sp.T))]):=by show((Z.l++[_])++_)[_]? =_;rw[List.getElem?_append_left (by simp)];simp
 have at_: ∀{m:Mu}{c:Ct},m.l.length=m3.l.length->(m.put Z.l.length c).l[Z.l.length]? =some c:=λ{m c} h=>by rw[Mu.put_l,List.getElem?_set_self];omega
 have run:(runSs F1 (qdM ra).b [some (.obj Z.l.length),some (.tup (ps.map Sp.T))] (Z.on (.ins "Walk" []))).bind outT= .ok .non m5:=by
  refine qak (ρ':=[some (.obj Z.l.length),some (.tup (ps.map Sp.T))]) (μ':=Z.on (.ins "Walk" [])) ?_ (qak (ρ':=[some (.obj Z.l.length),some (.tup (ps.map Sp.T))]) (μ':=m2) ?_ (qak (ρ':=[some (.obj Z.l.length),some (.tup (ps.map Sp.T))]) (μ':=m3.put Z.l.length c3) ?_ (qak (ρ':=[some (.obj Z.l.length),some (.tup (ps.map Sp.T))]) (μ':=(m3.put Z.l.length c3).put Z.l.length c4) ?_ (qak (ρ':=[some (.obj Z.l.length),some (.tup (ps.map Sp.T))]) (μ':=m5) ?_ rfl))))
  ·rw[qdu,qay];show R.bind (F1 ra [.tup (ps.map Sp.T)] _) _=_;rw[hA];rfl
  ·rw[qdt];show R.bind (R.ok (NV.T.tup (ps.map Sp.T)) _) _=_;rw[qaa];show R.bind (R.ok (NV.T.obj Z.l.length) _) _=_;rw[qaa,qb7 Mu.on_at rfl (by show 0<1000;decide),qaa];show R.ok _ ((Z.on (.ins "Walk" [])).put Z.l.length (.ins "Walk" [("ask",.tup (ps.map Sp.T))]))=_;rw[Mu.on_put (c':=.ins "Walk" [("ask",.tup (ps.map Sp.T))]) (show max (ub (.tup (ps.map Sp.T))) 0=0 by rw[qnU];rfl)];rfl
  ·rw[qdt];have ec:qab F1 (.comp false false 1 [] (.n 0) (.gen vA1) none (.dct true)) [some (.obj Z.l.length),some (.tup (ps.map Sp.T))] m2= .ok (.lst (ks.map NV.T.obj)) m3:=by
    show R.bind (R.bind (noX (qfw (qb0 (.n 0)) (runT F1 none) (qab F1 (.dct true)) (ps.map Sp.T) [none] m2)) _) _=_;rw[qfs _ _ _ (by simp)];have:List.range' m2.l.length (ps.map Sp.T).length=ks:=by rw[<-cH];simp[m2]
    rw[this,List.length_map];rfl
   rw[ec,qaa];show R.bind (R.ok (NV.T.obj Z.l.length) _) _=_;rw[qaa,qb7 at3 rfl (by show 1<1000;decide)];rfl
  ·rw[qdt];show R.bind (R.ok (NV.T.int 0) _) _=_;rw[qaa];show R.bind (R.ok (NV.T.obj Z.l.length) _) _=_;rw[qaa,qb7 (at_ rfl) rfl (by show 2<1000;decide)];rfl
  ·rw[qdt];show R.bind (R.ok (NV.T.bl false) _) _=_;rw[qaa];show R.bind (R.ok (NV.T.obj Z.l.length) _) _=_;rw[qaa,qb7 (at_ (by simp)) rfl (by show 3<1000;decide)];rfl
 have l5:m5.l.length=Z.l.length+1+ps.length:=by simp[m5,l3]
 have lv:leave (Z.on (.ins "Walk" [])) (.ok .non m5)= .ok .non m5:=by
  have l0:(Z.on (.ins "Walk" [])).l.length=Z.l.length+1:=by simp[Mu.on]
  show(if m5.l.length=(Z.on (.ins "Walk" [])).l.length then R.ok NV.T.non m5 else _)=_;rw[l5,l0];cases hp:ps.length with
  |zero=>rw[if_pos rfl]
  |succ n=>
   rw[if_neg (by omega),if_neg];have hu: ∀c,c=c3\/c=c4\/c=c5->ubC c=Z.l.length+n+2:=λc hc=>by
    have e1:ub (.lst (ks.map NV.T.obj))=Z.l.length+n+2:=by show ubs _=_;rw[<-cH,hp,qgS];omega
    have e2:=qnU ps
    rcases hc with rfl|rfl|rfl
    ·show max (ub (.tup (ps.map Sp.T))) (max (ub (.lst (ks.map NV.T.obj))) 0)=_;omega
    ·show max (ub (.tup (ps.map Sp.T))) (max (ub (.lst (ks.map NV.T.obj))) (max 0 0))=_;omega
    ·show max (ub (.tup (ps.map Sp.T))) (max (ub (.lst (ks.map NV.T.obj))) (max 0 (max 0 0)))=_;omega
   have pk: ∀{m:Mu}{c:Ct},(c=c3\/c=c4\/c=c5)->(m.put Z.l.length c).k=(Z.l.length,Z.l.length+n+2)::m.k:=λ{m c} hc=>by unfold Mu.put;rw[hu c hc,if_neg (by omega)]
   have k5:m5.k=(Z.l.length,Z.l.length+n+2)::(Z.l.length,Z.l.length+n+2)::(Z.l.length,Z.l.length+n+2)::Z.k:=by show(Mu.put _ _ c5).k=_;rw[pk (.inr (.inr rfl)),pk (.inr (.inl rfl)),pk (.inl rfl)]
   unfold Mu.apart Mu.nw;rw[k5,l0];simp[Mu.on];intro _ _;refine⟨Z.l.length,Z.l.length+n+2,?_,by omega,by omega⟩;rw[show Z.k.length+1+1+1 - Z.k.length=3 by omega];exact Vk
 refine⟨m5,?_,⟨?_,by rw[<-cH];simp,λy hy=> ?_,?_⟩,l5,λj hj=> ?_⟩
 ·unfold mkR;rw[Mu.add_on rfl,hI];have:(qdM ra).run F1 [.obj Z.l.length,.tup (ps.map Sp.T)] (Z.on (.ins "Walk" []))= .ok .non m5:=by unfold Fcd.run fnR;rw[if_pos (show [NV.T.obj Z.l.length,.tup (ps.map Sp.T)].length=(qdM ra).n from rfl)];show NV.lv false _ ((runSs F1 (qdM ra).b [some (.obj Z.l.length),some (.tup (ps.map Sp.T))] _).bind outT)=_;rw[run];exact lv
  rw[this];rfl
 ·unfold qbk;rw[ea rfl];exact at_ (by simp)
 ·rw[ct0 ps y.1 (List.of_mem_zip hy).1];have hk:y.2∈ks:=(Vx hy).2;rw[<-cH,List.mem_range'_1] at hk;show(((m3.l.set _ _).set _ _).set _ _)[y.2]? =_;rw[List.getElem?_set_ne (by omega),List.getElem?_set_ne (by omega),List.getElem?_set_ne (by omega)];show(m2.l++_)[y.2]? =_;rw[List.getElem?_append_right (by simp[m2];omega),List.getElem?_replicate,if_pos (by simp[m2];omega)]
 ·rw[<-cH];exact List.nodup_range'
 ·show(((m3.l.set _ _).set _ _).set _ _)[j]? =_;rw[List.getElem?_set_ne (by omega),List.getElem?_set_ne (by omega),List.getElem?_set_ne (by omega)];show((Z.l++_)++_)[j]? =_;rw[List.getElem?_append_left (by simp;omega),List.getElem?_append_left hj]
end
section
noncomputable def qlj:Fcd:=⟨false,1,1,[.ife vA0 [.raise "Ended"] []]⟩
noncomputable def qeu(e r:Nat):Fcd:=⟨false,3,3,[.exp (.call e [vA1]),.exp (.call r [(.lst false [vA0])]),.ife (Oo .lt (Oo .ix vA0 (Ci 0)) vA2) [.raise "TooLate"] []]⟩
theorem qm6:qlj.run F [.bl false] Z= .ok .non Z:=qav rfl (rfl)
theorem qjh(h:F e [.bl false] Z= .ok .non Z)(h':F r [.lst [qac x]] Z= .ok .non Z)(hn:n<=x.1):(qeu e r).run F [qac x,.bl false,.int n] Z= .ok .non Z:=qav rfl (by
 have: ¬x.1<n:=by omega
 have h':F r [.lst [.tup _]] Z= .ok _ Z:=h';simp[qeu,h,h',qac,this])
theorem Sp.fine.gd{p:Sp}(h:p.fine):p.gd:=by cases p<;>simp only[Sp.fine,Sp.gd] at* <;>omega
end
section
theorem WS.mono(w:WS Z x q ks n e)(h: ∀j,j<Z.l.length->μ'.l[j]? =Z.l[j]?):WS μ' x q ks n e:=
 ⟨(h x (List.getElem?_eq_some_iff.mp w.ins).1).trans w.ins,w.len,λy hy=>(h _ (List.getElem?_eq_some_iff.mp (w.at_ y hy)).1).trans (w.at_ y hy),w.nd⟩
theorem qxf(h:Z.l[k]? =some (.ls ts))(h1:ts.length<=900)(h2:us.length<=900):nvR ow (Bm.g .extend Z [.obj k,.lst us]) Z= .ok .non (Z.put k (.ls (ts++us))):=by
 have e:Bm.g .extend Z [.obj k,.lst us]=some (.p k (.ls (ts++us)) .non):=by
  show(qfJ Z _).bind _=_;simp only[qfJ,h];show(if _ then some _ else none)=_
  grind
 rw[e,qsR (qbG h (by simp))]
theorem Ris.snoc(h:Ris (d++a::r)):(∀y∈d,y.1<=a.1)/\∀y∈r,a.1<=y.1:=
 ⟨λy hy=>(List.pairwise_append.mp h).2.2 y hy a Vk,(List.pairwise_cons.mp (List.pairwise_append.mp h).2.1).1⟩
theorem qbK: ∀(d:List Row)(a:Row)(q:List (Sp×Ks)),wrs q (d++[a])=((wrs q d).1++(wk (wrs q d).2 [a]).1,(wk (wrs q d).2 [a]).2)
 |[],a,q=>by simp[wrs]
 |r::d,a,q=>by simp only[List.cons_append,wrs,qbK d a,List.append_assoc]
theorem qoS: ∀(d:List Row){q:List (Sp×Ks)}{c:Nat}{m:Int},Ch c m q->(∀r∈d,m<=r.1)->Ris d->(wrs q d).1.length<=c+d.length:=λd {q c m} ch hm hr=>by
 have:=qcn d q ch.fits;have h2:=(ch.ris hm hr).2
 grind
structure Fed(Z:Mu)(x t:Nat)(q:List (Sp×Ks))(ks:List Nat)(d:List Row)(n:Int):Prop where
 w:WS Z x (wrs q d).2 ks n false
 told:Z.l[t]? =some (.ls ((wrs q d).1.map qac))
 nt:t≠x/\t∉ks
 ch:Ch d.length n (wrs q d).2
theorem Fed.take(h:Fed Z x t q ks d n)(h1:ρ[it]? =some (some (.obj t)))(h2:ρ[iw]? =some (some (.obj x)))(h3:ρ[ir]? =some (some (qac r)))(hF: ∀ts Z,F ia ts Z=(qlc rt bs).run F1 ts Z)(hT: ∀Z,F1 rt [qac r,.bl false,.int n] Z= .ok .non Z)(hB: ∀{p:Sp}{Z:Mu}{k:Nat}{s:Ks}{rs:List Row},Z.l[k]? =some (ct s)->p.can rs s->F1 bs [p.T,.lst (rs.map qac),.obj k] Z= .ok (.lst ((p.go s rs).1.map qac)) (Z.put k (ct (p.go s rs).2)))(hn:n<=r.1)(hd:d.length<60)(hl:(wrs q d).1.length<=900)(ff:(wk (wrs q d).2 [r]).1.length<=900):
  ∃μ',qaM F (.exp (.bm false .extend (.v it) [(.mth [("Walk",ia)] "take" (.v iw) [(.v ir)])])) ρ Z= .ok (.nx ρ) μ'/\Fed μ' x t q ks (d++[r]) r.1/\μ'.l.length=Z.l.length/\∀j,j≠x->j∉ks->j≠t->μ'.l[j]? =Z.l[j]? :=by
 obtain⟨aa,e1,w1,o1⟩:=qo1 (F:=F1) (rt:=rt) (bs:=bs) h.w (hT Z) (λ_ a b=>hB a b) h.ch hn (by omega);have t1:aa.l[t]? =some (.ls ((wrs q d).1.map qac)):=(o1.old t h.nt.1 h.nt.2).trans h.told;have ev:qab F (.v it) ρ Z= .ok (.obj t) Z:=by rw[qeW,h1];rfl
 have em:qab F (.mth [("Walk",ia)] "take" (.v iw) [(.v ir)]) ρ Z= .ok (.lst ((wk (wrs q d).2 [r]).1.map qac)) aa:=by rw[qn4 (F:=F) (i:=ia) (k:=x) (by rw[qeW,h2];rfl) h.w.ins rfl rfl,qai,qeW,h3];show F ia [.obj x,qac r] Z=_;rw[hF,e1]
 have lt:t<aa.l.length:=(List.getElem?_eq_some_iff.mp t1).1;refine⟨aa.put t (.ls ((wrs q d).1.map qac++(wk (wrs q d).2 [r]).1.map qac)),?_,⟨?_,?_,h.nt,?_⟩,by rw[Mu.put_l,List.length_set];exact o1.len,λj a b c=> ?_⟩
 ·rw[qdu,qps,ev,qaa,if_pos (show qfL Z (.obj t)=Bm.ty .extend from qbF h.told),qai,em];simp only[qaa,qa1];rw[qxf t1 (by rw[List.length_map];exact hl) (by rw[List.length_map];exact ff)];rfl
 ·rw[qbK];refine⟨?_,w1.len,λy hy=> ?_,w1.nd⟩
  ·rw[Mu.put_l,List.getElem?_set_ne h.nt.1];exact w1.ins
  ·rw[Mu.put_l,List.getElem?_set_ne (λz=>h.nt.2 (by rw[z];exact(Vx hy).2))];exact w1.at_ y hy
 ·rw[Mu.put_l,List.getElem?_set_self lt,qbK,List.map_append]
 ·rw[qbK,List.length_append];exact h.ch.wk (rs:=[r]) (λy hy=>by rw[List.mem_singleton.mp hy];exact⟨hn,Int.le_refl _⟩) hn (List.pairwise_singleton _ _)
 ·rw[Mu.put_l,List.getElem?_set_ne (λz=>c z.symm)];exact o1.old j a b
theorem qbo(rs:List Row):okT 8 (.lst (rs.map qac))=true:=by show(rs.map _).all _=true;rw[List.all_eq_true];intro t ht;obtain⟨r,_,rfl⟩:=List.mem_map.mp ht;rfl
theorem qoy(h:Z.l[k]? =some (.ls ts)):dr1 Z (.obj k)= .lst ts:=by simp only[dr1,h]
end
noncomputable def kp(y:Str)(rs:List Row):List Row:=rs.filter λr=>decide (r.2.1=y)
theorem qod{y:Str}(h:r.2.1=y):kp y (r::rs)=r::kp y rs:=by unfold kp;simp_all
theorem qs1{y:Str}(h: ¬r.2.1=y):kp y (r::rs)=kp y rs:=by unfold kp;simp_all
theorem qoe{y:Str}(a b:List Row):kp y (a++b)=kp y a++kp y b:=List.filter_append ..
theorem qs2{y:Str}(h: ∀x∈a,x.2.1=y):kp y a=a:=List.filter_eq_self.mpr λx hx=>Vv (h x hx)
theorem qqe{y:Str}(h: ∀x∈a,¬x.2.1=y):kp y a=[]:=List.filter_eq_nil_iff.mpr λx hx=>by simpa using h x hx
theorem qiB{k y:Str}(h: ¬k=y):get (put D k v) y=get D y:=by
 unfold put;split
 ·unfold get;rw[List.find?_map];have q:((λp=>decide (p.1=y))∘λp=>if p.1=k then(p.1,v) else p)=λp=>decide _:=funext λp=>by
   show decide ((if p.1=k then(p.1,v) else p).1=y)=_
   split<;>rfl
  rw[q];cases e:D.find? _ with
  |none=>rfl
  |some p=>
   have e1:=of_decide_eq_true (List.find?_some (p:=λp:Str×Int=>decide _) e);show some _=some p.2
   grind
 ·unfold get
  simp_all
theorem qfk{o:Option Int->Row->List Row}{v:Option Int->Row->Int}{f:DD->Row->List Row×DD}(hf: ∀D r,f D r=(o (get D r.2.1) r,put D r.2.1 (v (get D r.2.1) r)))(ho: ∀g r,∀x∈o g r,x.2.1=r.2.1)(y:Str): ∀(rs:List Row)(D D':DD),get D' y=get D y->(fo f D' (kp y rs)).1=kp y (fo f D rs).1
 |[],_,_,_=>rfl
 |r::rs,D,D',h=>by
  show _=kp y ((f D r).1++(fo f (f D r).2 rs).1);rw[qoe];by_cases c:r.2.1=y
  ·rw[qod c];show(f D' r).1++(fo f (f D' r).2 (kp y rs)).1=_;rw[qfk hf ho y rs (f D r).2 (f D' r).2 (by rw[hf,hf,c];rw[qgc,qgc,h])];rw[hf,hf,c,h,qs2 λx hx=>(ho _ _ x hx).trans c]
  ·rw[qs1 c,qfk hf ho y rs (f D r).2 D' (by rw[hf];rw[qiB c,h]),hf,qqe λx hx z=>c ((ho _ _ x hx).symm.trans z)];rfl
theorem qom{α:Type}{k k':α->Int}{r:α}: ∀{l:List α},(∀a∈l,(k a<=k r↔k' a<=k' r))->SR.ins k r l=SR.ins k' r l
 |[],_=>rfl
 |x::l,h=>by
  unfold SR.ins;rw[qom λa ha=>h a (List.mem_cons_of_mem _ ha)]
  simp_all
theorem qrF{α:Type}{k k':α->Int}(L:List α)(h: ∀a∈L,∀b∈L,(k a<=k b↔k' a<=k' b)):SR.srt k L=SR.srt k' L:=by
 have go: ∀l:List α,(∀a∈l,a∈L)->∀acc,(∀a∈acc,a∈L)->l.foldl (λa r=>SR.ins k r a) acc=l.foldl (λa r=>SR.ins k' r a) acc:=λl=>by
  induction l with
  |nil=>exactλ_ _ _=>rfl
  |cons x l ih=>
   intro hl acc ha;rw[List.foldl_cons,qom λa q=>h a (ha a q) x (hl x List.mem_cons_self)];refine ih (λa q=>hl a (Vl _ q)) _ λa q=> ?_
   rcases SR.mem_ins.mp q with rfl|q
   ·grind
   ·exact ha a q
 exact go L (λ_ h=>h) [] λ_ h=>nomatch h
theorem qdD{α:Type}{k:α->Int}{p:α->Bool}{r:α}: ∀{l:List α},SR.Ris k l->(SR.ins k r l).filter p=if p r=true then SR.ins k r (l.filter p) else l.filter p
 |[],_=>by cases e:p r<;>simp[SR.ins,e]
 |x::l,h=>by
  have h':=List.pairwise_cons.mp h;have ih:=qdD (p:=p) (r:=r) h'.2;have e0: ∀{x:α}{l:List α},SR.ins k r (x::l)=if k x<=k r then x::SR.ins k r l else r::x::l:=rfl
  rw[e0];by_cases c:k x<=k r
  ·rw[if_pos c]
   grind
  ·rw[if_neg c];cases e:p r with
   |true=>
    rw[List.filter_cons_of_pos e,if_pos rfl];cases m:(x::l).filter p with
    |nil=>rfl
    |cons z m=>
     have hz:z∈x::l:=(List.mem_filter.mp (by rw[m];simp)).1
     grind
   |false=>grind
theorem qh1{α:Type}{k:α->Int}{p:α->Bool}(l:List α):(SR.srt k l).filter p=SR.srt k (l.filter p):=by
 have go: ∀(l acc:List α),SR.Ris k acc->(l.foldl (λa r=>SR.ins k r a) acc).filter p=(l.filter p).foldl (λa r=>SR.ins k r a) (acc.filter p):=λl=>by
  induction l with
  |nil=>exactλ_ _=>rfl
  |cons x l ih=>
   intro acc h;rw[List.foldl_cons,ih _ (SR.ris_ins h),qdD h]
   grind
 exact go l [] .nil
noncomputable def kE(y:Str)(E:EE):EE:=E.filter λx=>decide (x.1.2=y)
theorem qcD(n:Int)(y:Str)(E:EE):qaA n (kE y E)=kp y (qaA n E):=by
 have e:qiR (kE y E)=(qiR E).filter λx=>decide (x.1.2=y):=by
  unfold qiR;rw[qh1];refine qrF _ λa ha b hb=> ?_;have f7:=(List.mem_filter.mp ha).1;have aW:=(List.mem_filter.mp hb).1;have r1:=SR.rank_lt PL.ordKs (as:=(kE y E).map λx=>kP x.1) (List.mem_map_of_mem hb) (List.mem_map_of_mem ha);have r2:=SR.rank_lt PL.ordKs (as:=E.map λx=>kP x.1) (List.mem_map_of_mem aW) (List.mem_map_of_mem f7)
  grind
 unfold qaA kp;rw[e,List.filter_map];rfl
theorem qtn{y:Str}(E:EE):qdl (kE y E) (v,y)=qdl E (v,y):=by
 unfold qdl kE;rw[List.find?_filter]
 congr 1
 congr 1
 funext x
 simp_all
theorem qr3{y:Str}(E:EE):kE y (qbn E (v,y) z)=qbn (kE y E) (v,y) z:=by
 have a:((kE y E).any λx=>decide (x.1=(v,y)))=E.any λx=>decide (x.1=(v,y)):=by
  unfold kE;rw[List.any_filter]
  congr 1
  funext x
  by_cases c:x.1=(v,y)
  ·rw[c];simp
  ·simp[c]
 unfold qbn;rw[a];split
 ·unfold kE;rw[List.filter_map]
  congr 1
  congr 1
  funext x
  show decide ((if x.1=(v,y) then(x.1,z) else x).1.2=y)=_
  split<;>rfl
 ·unfold kE;rw[List.filter_append];simp
theorem qjI{y k:Str}(h: ¬k=y)(E:EE):kE y (qbn E (v,k) z)=kE y E:=by
 unfold qbn;split
 ·unfold kE;rw[List.filter_map];have q:((λx=>decide (x.1.2=y))∘λx=>if x.1=(v,k) then(x.1,z) else x)=λx=>decide _:=funext λx=>by
   show decide ((if x.1=(v,k) then(x.1,z) else x).1.2=y)=_
   split<;>rfl
  rw[q];refine(List.map_congr_left λx hx=> ?_).trans (List.map_id _);have:=of_decide_eq_true (List.mem_filter.mp hx).2;rw[if_neg λc=>h (by grind)];rfl
 ·unfold kE;simp[h]
noncomputable def tot(n:Int)(E:EE)(rs:List Row):List Row:=(fo (qaQ n) E rs).1++qaA n (fo (qaQ n) E rs).2
theorem qcp(n:Int)(E:EE)(r:Row)(rs:List Row):tot n E (r::rs)=(qaQ n E r).1++tot n (qaQ n E r).2 rs:=by show((qaQ n E r).1++(fo _ _ rs).1)++_=_;rw[List.append_assoc];rfl
theorem qcE(hw: ∀x∈E,x.1.1=w)(h:w<r.1 / n):qaQ n E r=(qaA n E,[((r.1 / n,r.2.1),r.2.2)]):=by
 unfold qaQ;cases E with
 |nil=>simp[qbn,qdl,qaA,qiR,SR.srt]
 |cons x E=>have:qro (x::E) (r.1 / n)=true:=Vv (by simp_all);rw[if_pos this];rfl
theorem qi0(hw: ∀x∈E,x.1.1=w)(h: ¬w<r.1 / n):qaQ n E r=([],qbn E (r.1 / n,r.2.1) ((qdl E (r.1 / n,r.2.1)).getD 0+r.2.2)):=by
 unfold qaQ;cases E with
 |nil=>rfl
 |cons x E=>have: ¬qro (x::E) _=true:=λz=>h (by rw[<-hw x List.mem_cons_self];exact of_decide_eq_true z);rw[if_neg this]
theorem qoZ(hw: ∀x∈E,x.1.1=w): ∀{rs:List Row},(∀r∈rs,w<r.1 / n)->tot n E rs=qaA n E++tot n [] rs
 |[],_=>by show qaA n E=qaA n E++qaA n [];rw[show qaA n []=[] from rfl,List.append_nil]
 |r::rs,h=>by rw[qcp,qcp,qcE hw (h r List.mem_cons_self),qcE (E:=[]) (λ_ h=>nomatch h) (h r Vk)];rfl
theorem qjf(hn:0<n)(y:Str): ∀{rs:List Row}{E:EE}{m:Int},WI n E m->(∀r∈rs,m<=r.1)->Ris rs->tot n (kE y E) (kp y rs)=kp y (tot n E rs)
 |[],E,_,_,_,_=>qcD n y E
 |r::rs,E,m,W,hm,hr=>by
  have cC:=List.pairwise_cons.mp hr;have hr0:=hm r Vk;have ih:=qjf hn y (W.step hn hr0) (λx hx=>cC.1 x hx) cC.2;obtain⟨_,w,hw,le⟩:=W;have gX: ∀x∈kE y E,x.1.1=w:=λx hx=>hw x (List.mem_filter.mp hx).1;rw[qcp,qoe,<-ih];by_cases c:r.2.1=y
  ·rw[qod c,qcp];by_cases v:w<r.1 / n
   ·rw[qcE hw v,qcE gX v,qcD];have e:kE y [((r.1 / n,r.2.1),r.2.2)]=[((r.1 / n,r.2.1),r.2.2)]:=List.filter_eq_self.mpr λx hx=>by rw[List.mem_singleton.mp hx];exact Vv c
    rw[e]
   ·rw[qi0 hw v,qi0 gX v,c,qtn,qr3];rfl
  ·rw[qs1 c];by_cases v:w<r.1 / n
   ·rw[qcE hw v];have e:kE y [((r.1 / n,r.2.1),r.2.2)]=[]:=List.filter_eq_nil_iff.mpr λx hx=>by rw[List.mem_singleton.mp hx];simpa using c
    rw[e,<-qcD,qoZ gX];intro x hx;have:=Int.ediv_le_ediv hn (cC.1 x (List.mem_filter.mp hx).1);omega
   ·rw[qi0 hw v];show _=kp y []++tot n (kE y (qbn E _ _)) _;rw[qjI c];rfl
theorem Fed.other(f:Fed Z x t q ks d n)(h: ∀j,j=x\/j∈ks\/j=t->μ'.l[j]? =Z.l[j]?):Fed μ' x t q ks d n:=
 ⟨⟨(h x (.inl rfl)).trans f.w.ins,f.w.len,λy hy=>(h y.2 (.inr (.inl (Vx hy).2))).trans (f.w.at_ y hy),f.w.nd⟩,(h t (.inr (.inr rfl))).trans f.told,f.nt,f.ch⟩
noncomputable def qbv(D:List Row):Int:=((D.getLast?).map λr:Row=>r.1).getD 0
theorem qiv(D:List Row)(r:Row):qbv (D++[r])=r.1:=by unfold qbv;simp
theorem qmK(h:Ris (D++a::r))(ha:rowOk a):qbv D<=a.1:=by
 unfold qbv;cases e:D.getLast? with
 |none=>exact ha.1.1
 |some y=>exact(Ris.snoc h).1 y (List.mem_of_getLast? e)
noncomputable def Sp.byk:Sp->Bool
 |.first _=>false
 |.each _=>false
 |_=>true
theorem qlX{p:Sp}(hb:p.byk=true)(g:p.gd)(y:Str){rs:List Row}(hr:Ris rs):(p.go p.k0 (kp y rs)).1++p.rest (p.go p.k0 (kp y rs)).2=kp y ((p.go p.k0 rs).1++p.rest (p.go p.k0 rs).2):=by
 have nil: ∀{a b:List Row},a=kp y b->a++[]=kp y (b++[]):=λ{a b} h=>by rw[List.append_nil,List.append_nil,h]
 have fl: ∀q:Row->Bool,(kp y rs).filter q=kp y (rs.filter q):=λq=>by unfold kp;rw[List.filter_filter,List.filter_filter];congr 1;funext x;exact Bool.and_comm ..
 have mp: ∀f:Row->Row,(∀r,(f r).2.1=r.2.1)->(kp y rs).map f=kp y (rs.map f):=λf hf=>by unfold kp;rw[List.filter_map];congr 1;congr 1;funext x;show _=decide ((f x).2.1=y);rw[hf]
 cases p with
 |key _|over _|under _=>exact nil (fl _)
 |plus _|times _=>exact nil (mp _ λ_=>rfl)
 |first _|each _=>cases hb
 |running=>exact nil (qfk (o:=λg r=>[(r.1,r.2.1,g.getD 0+r.2.2)]) (v:=λg r=>g.getD 0+r.2.2) (λ_ _=>rfl) (λg r x hx=>by rw[List.mem_singleton.mp hx]) y rs [] [] rfl)
 |change=>exact nil (qfk (o:=λg r=>match g with|some v=>[(r.1,r.2.1,r.2.2 - v)]|none=>[]) (v:=λ_ r=>r.2.2) (λ_ _=>rfl) (λg r x hx=>by cases g with|none=>cases hx|some v=>rw[List.mem_singleton.mp hx]) y rs [] [] rfl)
 | unlike=>exact nil (qfk (o:=λg r=>if g=some r.2.2 then [] else [r]) (v:=λ_ r=>r.2.2) (λ_ _=>rfl) (λg r x hx=>by
   split at hx
   ·cases hx
   ·rw[List.mem_singleton.mp hx]) y rs [] [] rfl)
 |window n=>
  cases rs with
  |nil=>rfl
  | cons r rs=>exact qjf g.1 y (E:=[]) (m:=r.1) ⟨List.nodup_nil,r.1 / n,(λ_ h=>nomatch h),Int.le_refl _⟩ (λx hx=>by
    rcases List.mem_cons.mp hx with rfl|hx
    ·exact Int.le_refl _
    ·exact(List.pairwise_cons.mp hr).1 x hx) hr
theorem qgM(y:Str): ∀{ps:List Sp}{rs:List Row}{m:Int},(∀p∈ps,p.byk=true/\p.gd)->(∀r∈rs,m<=r.1)->Ris rs->qaK (ps.map Sp.z) (kp y rs)=kp y (qaK (ps.map Sp.z) rs)
 |[],_,_,_,_,_=>rfl
 |p::ps,rs,m,h,hm,hr=>by have hp:=h p Vk;obtain⟨a1,a2,_⟩:=qkm hp.2 (qxO hp.2 m) hm hr;show qaK (ps.map _) _=kp y _;rw[qlX hp.1 hp.2 y hr];exact qgM y (λq hq=>h q (Vl _ hq)) a2 a1
end Wk
namespace Dk
open PySem NV L2 Wk
section
noncomputable def qlJ(ns:List Int)(k:Int):Int:=if 1+qam ns (k+1) 4=4 then 1+qam ns (k+2) 20 else 1+qam ns (k+1) 4
noncomputable def qdy(ns:List Int)(k:Int):Wk.Sp:=match(qam ns k 11).toNat with
 |0=>.key (qkf ns (k+1))
 |1=>.over (qfK ns (k+1) 20)
 |2=>.under (qfK ns (k+1) 20)
 |3=>.plus (qfK ns (k+1) 20)
 |4=>.times (qfK ns (k+1) 20)
 |5=>.first (qlJ ns k)
 |6=>.each (qlJ ns k)
 |7=>.window (qlJ ns k)
 |8=>.running
 |9=>.change
 |_=>.unlike
theorem qqW(ns:List Int)(k:Int):1<=qlJ ns k/\qlJ ns k<=20:=by
 have a:=qaD (ns:=ns) (k:=k+1) (many:=4) (by omega);have b:=qaE (ns:=ns) (k:=k+1) (many:=4) (by omega);have c:=qaD (ns:=ns) (k:=k+2) (many:=20) (by omega);have d:=qaE (ns:=ns) (k:=k+2) (many:=20) (by omega);unfold qlJ
 split<;>omega
theorem qiq(ns:List Int)(k:Int):(qdy ns k).fine:=by
 have n20:=qjW (ns:=ns) (k:=k+1) (most:=20) (by omega);have c:=qqW ns k;unfold qdy
 split<;>first|exact qke _ _|exact n20|exact c|trivial
noncomputable def qbb(p k n:Nat):Fcd:=⟨false,2,4,[.set 2 (.lst false [(Cs "key"),(Cs "over"),(Cs "under"),(Cs "plus"),(Cs "times"),(Cs "first"),(Cs "each"),(Cs "window"),(Cs "running"),(Cs "change"),(Cs "unlike")]),.set 2 (Oo .ix vA2 (.call p [vA0,vA1,(Ci 11)])),.ife (Oo .eq vA2 (Cs "key")) [.ret (.tup [vA2,(.call k [vA0,(Oo .add vA1 (Ci 1))])])] [],.ife (Oo .in_ vA2 (.tup [(Cs "over"),(Cs "under"),(Cs "plus"),(Cs "times")])) [.ret (.tup [vA2,(.call n [vA0,(Oo .add vA1 (Ci 1)),(Ci 20)])])] [],.ife (Oo .in_ vA2 (.tup [(Cs "first"),(Cs "each"),(Cs "window")])) [.set 3 (Oo .add (Ci 1) (.call p [vA0,(Oo .add vA1 (Ci 1)),(Ci 4)])),.ret (.tup [vA2,(.ife (Oo .eq vA3 (Ci 4)) (Oo .add (Ci 1) (.call p [vA0,(Oo .add vA1 (Ci 2)),(Ci 20)])) vA3)])] [],.ret (.tup [vA2])]⟩
theorem qmF(D:Drw F p ns)(hq: ∀{Z:Mu}{k:Int},0<=k->F q [.scr ns,.int k] Z= .ok (.str (qkf ns k)) Z)(hn: ∀{Z:Mu}{k most:Int},0<=k->0<=most->F n [.scr ns,.int k,.int most] Z= .ok (.int (qfK ns k most)) Z)(h0:0<=k):(qbb p q n).run F [.scr ns,.int k] Z= .ok (qdy ns k).T Z:=by
 refine qav rfl ?_
 change (runSs F (qbb p q n).b [some (.scr ns),some (.int k),none,none] Z).bind outT=_
 have key: ∀{w:Str},(w== "key")=true->(runSs F ((qbb p q n).b.drop 2) [some (.scr ns),some (.int k),some (.str w),none] Z).bind outT= .ok (.tup [.str w,.str (qkf ns (k+1))]) Z:=λ{w} h=>by
  have e:w= "key" :=by simpa using h
  subst e;refine qaZ rfl ?_;rw[qah,qa0,qjG];show R.bind (R.bind (R.bind (R.bind (R.bind (F q [.scr ns,.int (k+1)] Z) _) _) _) _) _=_;rw[hq (by omega)];rfl
 have num: ∀{w:Str},w∈[("over" :Str), "under", "plus", "times"]->(runSs F ((qbb p q n).b.drop 2) [some (.scr ns),some (.int k),some (.str w),none] Z).bind outT= .ok (.tup [.str w,.int (qfK ns (k+1) 20)]) Z:=λ{w} h=>by
  have fin:runSs F [.ret (.tup [vA2,(.call n [vA0,(Oo .add vA1 (Ci 1)),(Ci 20)])])] [some (.scr ns),some (.int k),some (.str w),none] Z= .ok (.rt (.tup [.str w,.int (qfK ns (k+1) 20)])) Z:=by rw[qah,qa0,qjG];show R.bind (R.bind (R.bind (R.bind (R.bind (F n [.scr ns,.int (k+1),.int 20] Z) _) _) _) _) _=_;rw[hn (by omega) (by omega)];rfl
  simp only[List.mem_cons,List.not_mem_nil,or_false] at h
  rcases h with rfl|rfl|rfl|rfl<;>exact qal rfl (qaZ rfl fin)
 have cnt: ∀{w:Str},w∈[("first" :Str), "each", "window"]->(runSs F ((qbb p q n).b.drop 2) [some (.scr ns),some (.int k),some (.str w),none] Z).bind outT= .ok (.tup [.str w,.int (qlJ ns k)]) Z:=λ{w} h=>by
  have s1:qaM F (.set 3 (Oo .add (Ci 1) (.call p [vA0,(Oo .add vA1 (Ci 1)),(Ci 4)]))) [some (.scr ns),some (.int k),some (.str w),none] Z= .ok (.nx [some (.scr ns),some (.int k),some (.str w),some (.int (1+qam ns (k+1) 4))]) Z:=by rw[qaX,qa7,qn6,qaa];show R.bind (R.bind (F p [.scr ns,.int (k+1),.int 4] Z) _) _=_;rw[D.p (by omega) (by omega)];rfl
  have s2:qab F (.ife (Oo .eq vA3 (Ci 4)) (Oo .add (Ci 1) (.call p [vA0,(Oo .add vA1 (Ci 2)),(Ci 20)])) vA3) [some (.scr ns),some (.int k),some (.str w),some (.int (1+qam ns (k+1) 4))] Z= .ok (.int (qlJ ns k)) Z:=by
   have e3:qab F vA3 [some (.scr ns),some (.int k),some (.str w),some (.int (1+qam ns (k+1) 4))] Z= .ok (.int (1+qam ns (k+1) 4)) Z:=rfl;rw[qrX,qa7,e3];simp only[qaa,qn6,qtr,qv5,qeG];unfold qlJ;by_cases z:1+qam ns (k+1) 4=4
   ·rw[if_pos (decide_eq_true z),if_pos z,qa7,qn6,qaa];show R.bind (F p [.scr ns,.int (k+2),.int 20] Z) _=_;rw[D.p (by omega) (by omega)];rfl
   ·rw[if_neg (by simp[z]),if_neg z];exact e3
  have fin:runSs F [.set 3 (Oo .add (Ci 1) (.call p [vA0,(Oo .add vA1 (Ci 1)),(Ci 4)])),.ret (.tup [vA2,(.ife (Oo .eq vA3 (Ci 4)) (Oo .add (Ci 1) (.call p [vA0,(Oo .add vA1 (Ci 2)),(Ci 20)])) vA3)])] [some (.scr ns),some (.int k),some (.str w),none] Z= .ok (.rt (.tup [.str w,.int (qlJ ns k)])) Z:=by rw[qah,s1,qaa,qaR,qah,qa0,qjG,qai,qeW];show R.bind (R.bind (R.bind (R.bind (R.ok (NV.T.str w) Z) _) _) _) _=_;rw[qaa,qai,s2];rfl
  simp only[List.mem_cons,List.not_mem_nil,or_false] at h
  rcases h with rfl|rfl|rfl<;>exact qal rfl (qal rfl (qaZ rfl fin))
 have bare: ∀{w:Str},w∈[("running" :Str), "change", "unlike"]->(runSs F ((qbb p q n).b.drop 2) [some (.scr ns),some (.int k),some (.str w),none] Z).bind outT= .ok (.tup [.str w]) Z:=λ{w} h=>by
  simp only[List.mem_cons,List.not_mem_nil,or_false] at h
  rcases h with rfl|rfl|rfl<;>exact qal rfl (qal rfl (qal rfl (qg1 rfl)))
 have a:=qaD (ns:=ns) (k:=k) (many:=11) (by omega);have b:=qaE (ns:=ns) (k:=k) (many:=11) (by omega);generalize hw:(qam ns k 11).toNat=w;have pw:qam ns k 11=(w:Int):=by omega
 have lw:w<11:=by omega
 have st: ∀{z:Str}{r:R NV.T},([("key" :Str), "over", "under", "plus", "times", "first", "each", "window", "running", "change", "unlike"]:List Str)[w]? =some z->(runSs F ((qbb p q n).b.drop 2) [some (.scr ns),some (.int k),some (.str z),none] Z).bind outT=r->(runSs F (qbb p q n).b [some (.scr ns),some (.int k),none,none] Z).bind outT=r:=λ{z r} hz h=>by refine qak (ρ':=[some (.scr ns),some (.int k),some (.lst (([("key" :Str), "over", "under", "plus", "times", "first", "each", "window", "running", "change", "unlike"]:List Str).map NV.T.str)),none]) (μ':=Z) rfl (qak (ρ':=[some (.scr ns),some (.int k),some (.str z),none]) (μ':=Z) ?_ h);have e2:qab F vA2 [some (.scr ns),some (.int k),some (.lst (([("key" :Str), "over", "under", "plus", "times", "first", "each", "window", "running", "change", "unlike"]:List Str).map NV.T.str)),none] Z= .ok (.lst (([("key" :Str), "over", "under", "plus", "times", "first", "each", "window", "running", "change", "unlike"]:List Str).map NV.T.str)) Z:=rfl;rw[qaX,qa7,e2,qaa];show R.bind (R.bind (F p [.scr ns,.int k,.int 11] Z) _) _=_;rw[D.p h0 (by omega),qaa,qww,pw,qqi,List.getElem?_map,hz];rfl
 unfold qdy;rw[hw]
 match w,lw with
 |0,_=>exact st rfl (key rfl)
 |1,_=>exact st rfl (num (by simp))
 |2,_=>exact st rfl (num (by simp))
 |3,_=>exact st rfl (num (by simp))
 |4,_=>exact st rfl (num (by simp))
 |5,_=>exact st rfl (cnt (by simp))
 |6,_=>exact st rfl (cnt (by simp))
 |7,_=>exact st rfl (cnt (by simp))
 |8,_=>exact st rfl (bare (by simp))
 |9,_=>exact st rfl (bare (by simp))
 |10,_=>exact st rfl (bare (by simp))
noncomputable def qfc(ns:List Int)(k most:Int):List Wk.Sp:=(List.range (qam ns (k+60) (most+1)).toNat).map λj=>qdy ns (k+6*(j:Nat))
theorem qkd(ns:List Int)(k most:Int): ∀p∈qfc ns k most,p.fine:=λp hp=>by obtain⟨j,_,rfl⟩:=List.mem_map.mp hp;exact qiq _ _
theorem qmL(hm:0<=most):((qfc ns k most).length:Int)<=most:=by
 have b:=qaE (ns:=ns) (k:=k+60) (many:=most+1) (by omega);unfold qfc
 grind
noncomputable def qoK(p s:Nat):Fcd:=⟨false,3,3,[.ret (.bn false .tup [(.comp false false 1 [1,0] (.n 0) (.by_ .rng1 [(.call p [vA0,(Oo .add vA1 (Ci 60)),(Oo .add vA2 (Ci 1))])]) none (.call s [vA2,(Oo .add vA1 (Oo .mul (Ci 6) vA0))]))])]⟩
theorem qqd(D:Drw F p ns)(hs: ∀{Z:Mu}{k:Int},0<=k->F s [.scr ns,.int k] Z= .ok (qdy ns k).T Z)(h0:0<=k)(hm:0<=most/\most<=900):(qoK p s).run F [.scr ns,.int k,.int most] Z= .ok (.tup ((qfc ns k most).map Sp.T)) Z:=by
 refine qav rfl (qg1 ?_);have b:=qaE (ns:=ns) (k:=k+60) (many:=most+1) (by omega);have a:=qaD (ns:=ns) (k:=k+60) (many:=most+1) (by omega);generalize hn:(qam ns (k+60) (most+1)).toNat=n;have pn:qam ns (k+60) (most+1)=(n:Int):=by omega
 have cm:=qdI (F:=F) (Z:=Z) (ρ:=[some (.scr ns),some (.int k),some (.int most)]) (x:=false) (fr:=[1,0]) (ci:=.by_ .rng1 [(.call p [vA0,(Oo .add vA1 (Ci 60)),(Oo .add vA2 (Ci 1))])]) (e:=.call s [vA2,(Oo .add vA1 (Oo .mul (Ci 6) vA0))]) (List.range n) _ _
  (qqj (n:=n) (by
   show F p _ Z=_;rw[D.p (by omega) (by omega),pn]) (by omega)) λj hj=>by have e:qab F (Oo .add vA1 (Oo .mul (Ci 6) vA0)) (some (.int (j:Nat))::frO [1,0] [some (.scr ns),some (.int k),some (.int most)]) Z= .ok _ Z:=rfl;have e0:qab F vA2 (some (.int (j:Nat))::frO [1,0] [some (.scr ns),some (.int k),some (.int most)]) Z= .ok (.scr ns) Z:=rfl;exact hs (by omega)
 rw[qjH,qai]
 change R.bind (R.bind (qab F _ [some (.scr ns),some (.int k),some (.int most)] Z) _) _=_
 rw[cm];unfold qfc;rw[hn,List.map_map];rfl
end
end Dk
namespace K21
open PySem NV
noncomputable def top(i:Nat):Stmt:=PySem.Challenge.pw_rowasks_k21_whole_pieces.main.body.getD i (.Pass ⟨0,0,0,0⟩)
noncomputable def mth(i j:Nat):Stmt:=(qq1 (top i)).getD j (.Pass ⟨0,0,0,0⟩)
noncomputable def gx:Gx where
 fs:=[(("is_whole" :Str),top 11),(("is_whole_within" :Str),top 12),(("is_word" :Str),top 13),(("is_key" :Str),top 14),(("is_row" :Str),top 15),(("is_log" :Str),top 16),(("refuse_what_is_no_row" :Str),top 17),(("refuse_out_of_order" :Str),top 18),(("refuse_what_is_no_log" :Str),top 19),(("refuse_when_ended" :Str),top 20),(("refuse_to_take" :Str),top 21),(("of_key" :Str),top 25),(("over" :Str),top 26),(("under" :Str),top 27),(("plus" :Str),top 28),(("times" :Str),top 29),(("first" :Str),top 30),(("each" :Str),top 31),(("window" :Str),top 32),(("window_rows" :Str),top 33),(("running" :Str),top 34),(("change" :Str),top 35),(("unlike" :Str),top 36),(("is_step" :Str),top 40),(("is_ask" :Str),top 41),(("refuse_what_is_no_ask" :Str),top 42),(("behind_step" :Str),top 43),(("behind_last_rows" :Str),top 44),(("asked" :Str),top 45),(("Walk.__init__" :Str),mth 47 0),(("Walk.take" :Str),mth 47 1),(("Walk.end" :Str),mth 47 2),(("_law_cell" :Str),top 49),(("_law_pick" :Str),top 50),(("_law_key" :Str),top 51),(("_law_number" :Str),top 52),(("_law_rows" :Str),top 53),(("_law_step" :Str),top 54),(("_law_ask" :Str),top 55),(("law" :Str),top 60)]
 cs:=[("GREATEST_MOMENT",.int (99)),("GREATEST_NUMBER",.int (99)),("LONGEST_KEY",.int (2)),("MOST_STEPS",.int (5)),("GREATEST_STEP_NUMBER",.int (20))]
 ex:=[("AskError",["AskError", "ValueError"]),("NoRow",["NoRow", "AskError", "ValueError"]),("NoAsk",["NoAsk", "AskError", "ValueError"]),("TooLate",["TooLate", "AskError", "ValueError"]),("Ended",["Ended", "AskError", "ValueError"])]
 cl:=[("Walk",["ask", "kept", "newest", "ended"])]
 ow:=[(76,11),(87,11),(93,11),(100,11),(151,44),(159,21),(205,16),(274,28),(274,32),(286,17)]
 fz:=[]
 xc:=[]
 kp:=[]
 lm:=[]
 wd:=[]
 dt:=[("NUMBER_STEPS",[("over", "over"),("under", "under"),("plus", "plus"),("times", "times")]),("COUNT_STEPS",[("first", "first"),("each", "each"),("window", "window")]),("BARE_STEPS",[("running", "running"),("change", "change"),("unlike", "unlike")])]
open Wk Dk
noncomputable def pk(ns:List Int)(r:Row):Bool:=decide (qam ns (300+r.1) 2=0)
abbrev xK:CE:=Oo .ix vA0 (Ci 1)
abbrev xPk(s r:Nat):CE:=Oo .eq (.call 33 [(.v s),(Oo .add (Ci 300) (Oo .ix (.v r) (Ci 0))),(Ci 2)]) (Ci 0)
abbrev qoR(j:Nat):CE:=.comp false false 1 [5] (.n 0) (.gen (.v j)) (some (Oo .eq xK vA1)) vA0
noncomputable def S0:CS:=.set 1 (.bn false .tup [(.comp false false 1 [] (.n 0) (.gen (.call 38 [vA0,(Ci 0),(Ci 3)])) (some (Oo .nin (Oo .ix vA0 (Ci 0)) (.tup [(Cs "first"),(Cs "each")]))) vA0)])
noncomputable def S1:CS:=.set 2 (.call 36 [vA0,(Ci 100),(Ci 10)])
noncomputable def S2:CS:=.set 3 (.call 28 [vA1,vA2])
noncomputable def A0:CS:=.set 6 (.call 28 [vA1,qoR 2])
noncomputable def A1:CS:=.ife (Oo .ne v6 (qoR 3)) [.ret (.c (.bl false))] []
noncomputable def S3:CS:=.for_ (.n 5) (.gen (.sset false (.comp false false 1 [] (.n 0) (.gen vA2) none xK))) [A0,A1]
noncomputable def S4:CS:=.par [7,8] [(.make "Walk" 29 [vA1]),(.make "Walk" 29 [vA1])]
noncomputable def S5:CS:=.par [9,10] [(.lst true []),(.lst true [])]
noncomputable def X0:CS:=.exp (.bm false .extend v9 [(.mth [("Walk",30)] "take" v7 [vA4])])
noncomputable def X1:CS:=.exp (.bm false .extend v10 [(.mth [("Walk",30)] "take" v8 [vA4])])
noncomputable def X2:CS:=.ife (xPk 0 4) [X1] []
noncomputable def X3:CS:=.ife (Oo .ne v9 (.sl false vA3 none (some (.bn false .len [v9])))) [.ret (.c (.bl false))] []
noncomputable def S6:CS:=.for_ (.n 4) (.gen vA2) [X0,X2,X3]
noncomputable def S7:CS:=.set 11 (.comp false false 1 [0] (.n 0) (.gen vA2) (some (xPk 1 0)) vA0)
abbrev qnP(t w:Nat):CE:=Oo .add (.v t) (.mth [("Walk",31)] "end" (.v w) [])
noncomputable def S8:CS:=.ife (.or (Oo .ne (qnP 10 8) (.call 28 [vA1,v11])) (Oo .ne (qnP 9 7) vA3)) [.ret (.c (.bl false))] []
noncomputable def S9:CS:=.set 12 (.call 33 [vA0,(Ci 80),(Oo .add (.bn false .len [vA2]) (Ci 1))])
noncomputable def S10:CS:=.set 13 (.make "Walk" 29 [vA1])
noncomputable def S11:CS:=.set 14 (.lst true [])
noncomputable def X4:CS:=.exp (.bm false .extend v14 [(.mth [("Walk",30)] "take" v13 [vA4])])
abbrev qrr:CE:=.sl false vA2 none (some v12)
noncomputable def S12:CS:=.for_ (.n 4) (.gen qrr) [X4]
abbrev xE1:CE:=Oo .eq v14 (.sl false vA3 none (some (.bn false .len [v14])))
abbrev xE2:CE:=Oo .eq (qnP 14 13) (.call 28 [vA1,qrr])
noncomputable def S13:CS:=.ret (.and xE1 xE2)
noncomputable def qq4(p k n:Nat):Fcd:={ qld p k n with kp:=false }
noncomputable def cds:List (Nat×Fcd):=[(0,qlb),(1,qet 0),(2,qla),(3,qgE 2),(4,qgC 1 3),(5,qgD),(6,qgz 4),(7,qgx 5),(8,qgA 6 7),(9,qlj),(10,qeu 9 6),(11,qgy),(12,qlg),(13,qgv),(14,qle),(15,qgw),(16,qda),(17,qfx),(18,qny 19),(19,qbJ),(20,qup),(21,qur),(22,quo),(23,qoJ 3 1),(24,qli 23),(25,qgB 24),(26,qnz 11 gx.fns),(27,qhH 26 19),(28,qlk 25 8 27),(29,qdM 25),(30,qlc 10 26),(31,quq 9 27),(32,qfy),(33,qlf 32),(34,qlh 33),(35,qcA 33),(36,qq4 33 34 35),(37,qbb 33 34 35),(38,qoK 33 37),(39,⟨false,1,15,[S0,S1,S2,S3,S4,S5,S6,S7,S8,S9,S10,S11,S12,S13]⟩)]
theorem tt{j i:Nat}{c:Fcd}(h:cds[j]? =some (i,c))(k:Nat):TTf gx (k+1) i=c.run (TTf gx k):=qu1 (show(cds.map _)=cds.map λp=>some p.2 by kernel_rfl) h k
variable{Z:Mu}{k:Nat}
theorem tn(i:Nat){c:Fcd}(h:cds[i]? =some (i,c)):TTf gx (k+1) i=c.run (TTf gx k):=tt h k
theorem qpl{i:Int}:TTf gx (k+1) 0 [.int i] Z= .ok (.bl true) Z:=by rw[tn 0 rfl];exact qlM
theorem qg8{i a b:Int}:TTf gx (k+2) 1 [.int i,.int a,.int b] Z= .ok (.bl (decide (a<=i)&&decide (i<=b))) Z:=by rw[tn 1 rfl];exact qiZ qpl
theorem qrR{x:Str}(h:keyOk x):TTf gx (k+1) 2 [.str x,.int 2] Z= .ok (.bl true) Z:=by rw[tn 2 rfl];exact qoT h
theorem qrT{x:Str}(h:keyOk x):TTf gx (k+2) 3 [.str x] Z= .ok (.bl true) Z:=by rw[tn 3 rfl];exact qmT (qrR h)
theorem qvr{r:Row}(h:rowOk r):TTf gx (k+3) 4 [qac r] Z= .ok (.bl true) Z:=by rw[tn 4 rfl];exact qmR h (λ_ _ _=>qg8) λ_=>qrT
theorem qjz{rs:List Row}(h: ∀x∈rs,rowOk x):TTf gx (k+4) 6 [.lst (rs.map qac)] Z= .ok .non Z:=by rw[tn 6 rfl];exact qmz rfl h λ_=>qvr
theorem qpm{rs:List Row}(h: ∀x∈rs,rowOk x)(hr:Ris rs)(hl:rs.length<=900):TTf gx (k+5) 8 [.lst (rs.map qac)] Z= .ok .non Z:=by rw[tn 8 rfl];refine qmx (qjz h) ?_;rw[tn 7 rfl];refine qmr ?_;rw[tn 5 rfl];exact(qmP hl).trans (by rw[qfg hr])
theorem qjB:TTf gx (k+1) 9 [.bl false] Z= .ok .non Z:=by exact qm6
theorem qma{r:Row}{n:Int}(h:rowOk r)(hn:n<=r.1):TTf gx (k+5) 10 [qac r,.bl false,.int n] Z= .ok .non Z:=by rw[tn 10 rfl];exact qjh qjB (qjz (rs:=[r]) λx hx=>by grind) hn
theorem qjA{ps:List Sp}(hl:ps.length<=5)(h: ∀p∈ps,p.fine):TTf gx (k+5) 25 [.tup (ps.map Sp.T)] Z= .ok .non Z:=by rw[tn 25 rfl];refine qmy ?_;rw[tn 24 rfl];refine quA hl λp hp=> ?_;rw[tn 23 rfl];exact qpc (h p hp) (λ_ _ _=>qg8) λ_=>qrT
noncomputable def ixP:Sp->Nat
 |.key _=>11|.over _=>12|.under _=>13|.plus _=>14|.times _=>15|.first _=>16|.each _=>17|.window _=>18|.running=>20|.change=>21|.unlike=>22
theorem qoi(p:Sp):p.ix 11 gx.fns=some (ixP p):=by cases p<;>(kernel_rfl)
theorem qun(p:Sp)(k:Nat):TTf gx (k+1) (ixP p)=(p.cd 19).run (TTf gx k):=by cases p<;>exact tn _ rfl
theorem qvs{p:Sp}{Z:Mu}{j:Nat}{s:Ks}{rs:List Row}(hk:Z.l[j]? =some (ct s))(hc:p.can rs s):TTf gx (k+3) 26 [p.T,.lst (rs.map qac),.obj j] Z= .ok (.lst ((p.go s rs).1.map qac)) (Z.put j (ct (p.go s rs).2)):=by rw[tn 26 rfl];exact qoM p (qoi p) (λ_ _=>by rw[qun]) (λ_ _=>by rw[tn 19 rfl]) hk hc
theorem qn0{p:Sp}{Z:Mu}{j:Nat}{s:Ks}{rs:List Row}(hk:Z.l[j]? =some (ct s))(hc:p.can rs s):TTf gx (k+4) 27 [p.T,.lst (rs.map qac),.obj j] Z= .ok (.lst (((p.go s rs).1++p.rest (p.go s rs).2).map qac)) (Z.put j (ct (p.go s rs).2)):=by rw[tn 27 rfl];exact qqb p (λ_ _=>by rw[tn 26 rfl]) (λ_ _=>by rw[tn 19 rfl]) (qoi p) (λ_ _=>by rw[qun]) (λ_ _=>by rw[tn 19 rfl]) hk hc
theorem qjC{ps:List Sp}{rs:List Row}(hl:ps.length<=5)(hp: ∀p∈ps,p.fine)(h: ∀x∈rs,rowOk x)(hr:Ris rs)(hn:rs.length<64):TTf gx (k+6) 28 [.tup (ps.map Sp.T),.lst (rs.map qac)] Z= .ok (.lst ((qaK (ps.map Sp.z) rs).map qac)) Z:=by rw[tn 28 rfl];refine qnN (qjA hl hp) (qpm h hr (by omega)) (by omega) (λp _ {_ _ _ _} h1 h2=>qn0 h1 h2) λd p r hq=> ?_;have ch:Ch 0 0 _:=Ch.zero λp aj=>(hp p aj).gd;rw[hq,List.map_append] at ch;exact ch.canE (λr cC=>(h r cC).1.1) hr (by omega)
variable{ns:List Int}
theorem qjy{i m:Int}(h0:0<=i)(hm:0<m):TTf gx (k+2) 33 [.scr ns,.int i,.int m] Z= .ok (.int (qam ns i m)) Z:=by rw[tn 33 rfl];exact qpF (by rw[tn 32 rfl];exact qq3 h0) hm
theorem qeQ{a far:Int}(hf:1<=far): ∀(n:Nat)(m:Int)(i:Nat),0<=m->m<=99->Ris (qbC ns a far n m i)
 |0,_,_,_,_=>.nil
 |n+1,m,i,h0,h1=>by
  have p0:=qaD (ns:=ns) (k:=a+10+8*i) (many:=far) (by omega);have q:0<=min 99 (m+qam ns (a+10+8*i) far)/\min 99 (m+qam ns (a+10+8*i) far)<=99:=by omega
  exact List.pairwise_cons.mpr ⟨λr hr=>(qd2 hf n _ _ q.1 r hr).2 q.2,qeQ hf n _ _ q.1 q.2⟩
theorem drw:Drw (TTf gx (k+2)) 33 ns:=⟨λh h'=>qjy h h'⟩
theorem qrS{a most:Int}(h0:0<=a)(hm:0<=most/\most<=900):TTf gx (k+4) 36 [.scr ns,.int a,.int most] Z= .ok (.lst ((qb9 ns a most).map qac)) Z:=by
 rw[tn 36 rfl];have r:=qpj (Z:=Z) (ns:=ns) (p:=33) (q:=34) (n:=35) (drw (k:=k+1)) (λh=>by rw[tn 34 rfl];exact qof drw h) (λh h'=>by rw[tn 35 rfl];exact qob drw h h') h0 hm;exact qrL rfl rfl (r) (by
  unfold fzT;rw[if_neg (by show ¬(Z.l.length+1<=_);omega)];simp only[Mu.on_at];rw[show ∀l:List Row,(l.map qac).mapM _=some (l.map qac) fromλl=>by
   induction l with
   |nil=>rfl
   |cons r l ih=>rw[List.map_cons,List.mapM_cons,ih];rfl]
  rfl)
theorem qvt{a most:Int}(h0:0<=a)(hm:0<=most/\most<=900):TTf gx (k+5) 38 [.scr ns,.int a,.int most] Z= .ok (.tup ((qfc ns a most).map Sp.T)) Z:=by rw[tn 38 rfl];refine qqd (p:=33) (s:=37) (drw (k:=k+2)) (λh=> ?_) h0 hm;rw[tn 37 rfl];exact qmF (p:=33) (q:=34) (n:=35) (drw (k:=k+1)) (λh=>by rw[tn 34 rfl];exact qof drw h) (λh h'=>by rw[tn 35 rfl];exact qob drw h h') h
theorem qkc{b:Bool}(m:Mu): ∃m',leave Z (.ok (.bl b) m)= .ok (.bl b) m':=by
 unfold leave;simp only[qkH _];split
 ·exact⟨_,rfl⟩
 ·split<;>exact⟨_,rfl⟩
abbrev F6:Fs:=TTf gx 6
abbrev ro(ns:List Int)(ps:List Sp)(rs wh:List Row)(x4 x5 x6 x7 x8 x9 bM aM aL aC aB:Option NV.T):Ro:=[some (.scr ns),some (.tup (ps.map Sp.T)),some (.lst (rs.map qac)),some (.lst (wh.map qac)),x4,x5,x6,x7,x8,x9,bM,aM,aL,aC,aB]
theorem qvq{ps:List Sp}(h:F6 38 [.scr ns,.int 0,.int 3] Z= .ok (.tup (ps.map Sp.T)) Z){ρ:Ro}(hρ:ρ[0]? =some (some (.scr ns))):qaM F6 S0 ρ Z= .ok (.nx (ρ.set 1 (some (.tup ((ps.filter Sp.byk).map Sp.T))))) Z:=by
 have e0:qab F6 (.call 38 [vA0,(Ci 0),(Ci 3)]) ρ Z= .ok (.tup (ps.map Sp.T)) Z:=by rw[qay,qai,qeW,hρ];exact h
 have cm:=qgt (F:=F6) (Z:=Z) (ρ:=ρ) (x:=false) (fr:=[]) (ci:=.gen (.call 38 [vA0,(Ci 0),(Ci 3)])) (t:=some (Oo .nin (Oo .ix vA0 (Ci 0)) (.tup [(Cs "first"),(Cs "each")]))) (e:=.v 0) (l:=ps) (f:=Sp.T) (p:=Sp.byk) (h:=Sp.T) (qa3 e0 rfl) (λp _=>by cases p<;>rfl) (λp _ _=>rfl);unfold S0;rw[qaX,qjH,qai,cm];rfl
theorem qj1{y:Str}(hj:ρ[j]? =some (some (.lst (L.map qac))))(h5:ρ[5]? =some (some (.str y))):qab F6 (qoR j) ρ Z= .ok (.lst ((kp y L).map qac)) Z:=by
 have hf:frO [5] ρ=[some (.str y)]:=by show [(ρ[5]?).join]=_;rw[h5];rfl
 refine qgt (F:=F6) (Z:=Z) (ρ:=ρ) (x:=false) (fr:=[5]) (ci:=.gen (.v j)) (t:=some (Oo .eq xK vA1)) (e:=.v 0) (l:=L) (f:=qac) (p:=λr=>decide (r.2.1=y)) (h:=qac) (qa3 (t:=.lst (L.map qac)) (by rw[qeW,hj];rfl) rfl) (λr _=> ?_) (λr _ _=> ?_)
 ·rw[hf,qjD,qa7];show R.bind (R.bind (R.ok (NV.T.str r.2.1) Z) _) _=_;rw[qaa];show R.bind (nvR false (O2.g .eq Z (.str r.2.1) (.str y)) Z) _=_;simp
 ·rw[hf];rfl
theorem qvo(hb: ∀p∈ps,p.byk=true)(hl:ps.length<=5)(hp: ∀p∈ps,p.fine)(hk: ∀r∈rs,rowOk r)(hr:Ris rs)(hn:rs.length<=10):
  ∃gA gy,qaM F6 S3 (ro ns ps rs (qaK (ps.map Sp.z) rs) x4 x5 x6 x7 x8 x9 bM aM aL aC aB) Z= .ok (.nx (ro ns ps rs (qaK (ps.map Sp.z) rs) x4 gA gy x7 x8 x9 bM aM aL aC aB)) Z:=by
 let ks:=SR.sortA RH.ltS (SetL.dd (rs.map λr=>r.2.1));have cm:=qdI (F:=F6) (Z:=Z) (ρ:=ro ns ps rs (qaK (ps.map Sp.z) rs) x4 x5 x6 x7 x8 x9 bM aM aL aC aB) (x:=false) (fr:=[]) (ci:=.gen vA2) (e:=xK) (l:=rs) (f:=qac) (h:=λr=>.str r.2.1) (qa3 rfl rfl) (λr _=>rfl);have es:qab F6 (.sset false (.comp false false 1 [] (.n 0) (.gen vA2) none xK)) (ro ns ps rs (qaK (ps.map Sp.z) rs) x4 x5 x6 x7 x8 x9 bM aM aL aC aB) Z= .ok (.lst (ks.map NV.T.str)) Z:=by rw[qpq,cm,qaa,qjn (ss:=rs.map λr=>r.2.1) (by rw[List.map_map];rfl) (by rw[List.length_map];omega)];rfl
 obtain⟨ρ',μ',e,gA,gy,rfl,rfl⟩:=qc5 (F:=F6) (ρ:=ro ns ps rs (qaK (ps.map Sp.z) rs) x4 x5 x6 x7 x8 x9 bM aM aL aC aB) (Z:=Z) (g:=.n 5) (ci:=.gen (.sset false (.comp false false 1 [] (.n 0) (.gen vA2) none xK))) (b:=[A0,A1]) ks NV.T.str
  (λ_ ρ' μ'=> ∃x5 x6,ρ'=ro ns ps rs (qaK (ps.map Sp.z) rs) x4 x5 x6 x7 x8 x9 bM aM aL aC aB/\μ'=Z) rfl (qdG es (.inl rfl)) ⟨x5,x6,rfl,rfl⟩ (by
   rintro d y r hq ρ' μ' ⟨x5,x6,rfl,rfl⟩;have kk: ∀r∈kp y rs,rowOk r:=λr hr=>hk r (List.mem_filter.mp hr).1;have kr:Ris (kp y rs):=List.Pairwise.filter _ hr;have kl:(kp y rs).length<=10:=Vp (List.length_filter_le _ _) hn;have ea:F6 28 [.tup (ps.map Sp.T),.lst ((kp y rs).map qac)] μ'=_:=qjC (k:=0) hl hp kk kr (by omega);rw[qgM y (λp h=>⟨hb p h,(hp p h).gd⟩) (m:=0) (λr h=>(hk r h).1.1) hr] at ea;refine⟨_,_,?_,some (.str y),some (.lst ((kp y (qaK (ps.map Sp.z) rs)).map qac)),rfl,rfl⟩;show R.bind (R.ok (ro ns ps rs (qaK (ps.map Sp.z) rs) x4 (some (.str y)) x6 x7 x8 x9 bM aM aL aC aB) μ') _=_;have a0:qaM F6 A0 (ro ns ps rs (qaK (ps.map Sp.z) rs) x4 (some (.str y)) x6 x7 x8 x9 bM aM aL aC aB) μ'= .ok (.nx (ro ns ps rs (qaK (ps.map Sp.z) rs) x4 (some (.str y)) (some (.lst ((kp y (qaK (ps.map Sp.z) rs)).map qac))) x7 x8 x9 bM aM aL aC aB)) μ':=by unfold A0;rw[qaX,qay,qai];show R.bind (R.bind (R.bind (R.ok (NV.T.tup (ps.map Sp.T)) μ') _) _) _=_;rw[qaa,qai,qj1 (L:=rs) (y:=y) rfl rfl];show R.bind (F6 28 [.tup (ps.map Sp.T),.lst ((kp y rs).map qac)] μ') _=_;rw[ea];rfl
   rw[qaa,qah,a0,qaa,qaR,qah];unfold A1;rw[qg9]
   ·rfl
   rw[qa7];show R.bind (R.ok (NV.T.lst ((kp y (qaK (ps.map Sp.z) rs)).map qac)) μ') _=_;rw[qaa,qj1 (L:=qaK (ps.map Sp.z) rs) (y:=y) rfl rfl,qaa,qmZ (qbo _) rfl rfl];rfl)
 exact⟨gA,gy,by unfold S3;exact e⟩
theorem ch0{ps:List Sp}(hp: ∀p∈ps,p.fine):Ch 0 0 (ps.map Sp.z):=Ch.zero λp h=>(hp p h).gd
theorem qlU{ps:List Sp}{d:List Row}(hp: ∀p∈ps,p.fine)(hk: ∀r∈d,rowOk r)(hr:Ris d):(wrs (ps.map Sp.z) d).1.length<=d.length:=by have:=qoS (m:=0) (c:=0) d (ch0 hp) (λz hz=>(hk z hz).1.1) hr;omega
theorem qo2{Z:Mu}{ps:List Sp}{d:List Row}(hp: ∀p∈ps,p.fine)(f:Fed Z x t (ps.map Sp.z) ks d (qbv d))(hr:Ris (d++[a]))(hk: ∀r∈d++[a],rowOk r)(hl:d.length<50)(h1:ρ[it]? =some (some (.obj t)))(h2:ρ[iw]? =some (some (.obj x)))(h3:ρ[4]? =some (some (qac a))):
  ∃μ',qaM F6 (.exp (.bm false .extend (.v it) [(.mth [("Walk",30)] "take" (.v iw) [vA4])])) ρ Z= .ok (.nx ρ) μ'/\Fed μ' x t (ps.map Sp.z) ks (d++[a]) (qbv (d++[a]))/\μ'.l.length=Z.l.length/\∀j,j≠x->j∉ks->j≠t->μ'.l[j]? =Z.l[j]? :=by have ha:rowOk a:=hk a (by simp);have hn:=qmK (r:=[]) hr ha;have k2:=qlU hp hk hr;rw[qbK] at k2;simp only[List.length_append,List.length_singleton] at k2;obtain⟨μ',e,g,l,o⟩:=f.take (F:=F6) (F1:=TTf gx 5) (ρ:=ρ) (it:=it) (iw:=iw) (ir:=4) (ia:=30) (rt:=10) (bs:=26) (r:=a) h1 h2 h3 (λ_ _=>congrFun (congrFun (tn 30 rfl) _) _) (λ_=>qma ha hn) (λa b=>qvs a b) hn (by omega) (by omega) (by omega);exact⟨μ',e,by rw[qiv];exact g,l,o⟩
theorem qv9{Z:Mu}{ps:List Sp}(hl:ps.length<=5)(hp: ∀p∈ps,p.fine)(h:ρ[1]? =some (some (.tup (ps.map Sp.T)))):
  ∃μ',qab F6 (.make "Walk" 29 [vA1]) ρ Z= .ok (.obj Z.l.length) μ'/\WS μ' Z.l.length (ps.map Sp.z) (List.range' (Z.l.length+1) ps.length) 0 false/\μ'.l.length=Z.l.length+1+ps.length/\∀j,j<Z.l.length->μ'.l[j]? =Z.l[j]? :=by
 obtain⟨aa,e1,w1,l1,o1⟩:=qsT (F:=F6) (Z:=Z) (i:=29) (ra:=25) (F1:=TTf gx 5) (ps:=ps) (λ_ _=>congrFun (congrFun (tn 29 rfl) _) _) (λ_=>qjA hl hp)
 simp_all
theorem qfO{Z:Mu}{ps:List Sp}{d:List Row}(hp: ∀p∈ps,p.fine)(f:Fed Z x t (ps.map Sp.z) ks d (qbv d))(hr:Ris d)(hk: ∀r∈d,rowOk r)(hl:d.length<50)(h1:ρ[it]? =some (some (.obj t)))(h2:ρ[iw]? =some (some (.obj x))):
  ∃μ',qab F6 (qnP it iw) ρ Z= .ok (.lst ((qaK (ps.map Sp.z) d).map qac)) μ'/\μ'.l.length=Z.l.length/\∀j,j≠x->j∉ks->μ'.l[j]? =Z.l[j]? :=by
 obtain⟨aa,q',e1,w1,o1⟩:=qtH (F:=TTf gx 5) (rv:=9) (bl:=27) f.w qjB (λ_ a b=>qn0 a b) f.ch (by omega);have t1:=(o1.old t f.nt.1 f.nt.2).trans f.told;refine⟨aa,?_,o1.len,o1.old⟩;have em:qab F6 (.mth [("Walk",31)] "end" (.v iw) []) ρ Z= .ok (.lst ((qaK (wrs (ps.map Sp.z) d).2 []).map qac)) aa:=by rw[qn4 (F:=F6) (i:=31) (k:=x) (by rw[qeW,h2];rfl) f.w.ins rfl rfl,qa1];show F6 31 [.obj x] Z=_;rw[show F6 31=_ from tn 31 rfl,e1]
 have wl:=qcn d (ps.map Sp.z) (ch0 hp).fits;have ln:=((ch0 hp).ris (rs:=d) (λz hz=>(hk z hz).1.1) hr).2;rw[qa7,qeW,h1];show R.bind (R.ok (NV.T.obj t) Z) _=_;rw[qaa,em,qaa,qts (qrH t1) rfl (by
  rw[List.length_map,List.length_map,<-List.length_append,wl];omega),<-List.map_append,wl];rfl
theorem qqm{ps:List Sp}(hp: ∀p∈ps,p.fine)(e:rs=d++r):(qaK (ps.map Sp.z) rs).take (wrs (ps.map Sp.z) d).1.length=(wrs (ps.map Sp.z) d).1:=by
 have app: ∀(a b:List Row)(q:List _),(wrs q (a++b)).1=(wrs q a).1++(wrs (wrs q a).2 b).1:=λa=>by
  induction a with
  |nil=>exactλ_ _=>rfl
  |cons x a ih=>intro b q;simp only[List.cons_append,wrs,ih,List.append_assoc]
 rw[<-qcn rs _ (ch0 hp).fits,e,app,List.append_assoc,List.take_left' rfl]
theorem qhx{ps:List Sp}{wh:List Row}(hp: ∀p∈ps,p.fine)(f:Fed Z x t (ps.map Sp.z) ks d (qbv d))(e:rs=d++r)(hw:wh=qaK (ps.map Sp.z) rs)(h1:ρ[it]? =some (some (.obj t)))(h3:ρ[3]? =some (some (.lst (wh.map qac)))):
  qab F6 (.sl false vA3 none (some (.bn false .len [(.v it)]))) ρ Z= .ok (.lst ((wrs (ps.map Sp.z) d).1.map qac)) Z:=by
 have el:qab F6 (.bn false .len [(.v it)]) ρ Z= .ok (.int ((wrs (ps.map Sp.z) d).1.length:Nat)) Z:=by rw[qjH,qai,qeW,h1];show R.bind (R.bind (R.bind (R.ok (NV.T.obj t) Z) _) _) _=_;simp only[qaa,qa1];rw[quz f.told,List.length_map];rfl
 rw[qrW,qeW,h3];show R.bind (R.ok (NV.T.lst (wh.map qac)) Z) _=_;rw[qaa,qjF,qaa,qjE,el,qaa];show R.bind (R.ok (some (((wrs (ps.map Sp.z) d).1.length:Nat):Int)) Z) _=_;rw[qaa,qpf (ts:=wh.map qac) rfl (by omega),Int.toNat_natCast,<-List.map_take,hw,qqm hp e];rfl
noncomputable def In(x t:Nat)(ks:List Nat)(j:Nat):Prop:=j=x\/j∈ks\/j=t
theorem Fed.keep(f:Fed Z x t q ks d n)(o: ∀j,j≠x'->j∉i4->j≠t'->μ'.l[j]? =Z.l[j]?)(h: ∀j,In x t ks j->¬In x' t' i4 j):Fed μ' x t q ks d n:=
 Wk.Fed.other f λj hj=>o j (λz=>h j hj (.inl z)) (λz=>h j hj (.inr (.inl z))) (λz=>h j hj (.inr (.inr z)))
theorem qsj(h1:ρ[s]? =some (some (.scr ns)))(h2:ρ[r]? =some (some (qac a)))(ha:rowOk a):qab F6 (xPk s r) ρ Z= .ok (.bl (pk ns a)) Z:=by
 have e1:qab F6 (Oo .add (Ci 300) (Oo .ix (.v r) (Ci 0))) ρ Z= .ok (.int (300+a.1)) Z:=by rw[qa7,qn6,qaa,qa7,qeW,h2];rfl
 have ep:qab F6 (.call 33 [(.v s),(Oo .add (Ci 300) (Oo .ix (.v r) (Ci 0))),(Ci 2)]) ρ Z= .ok (.int (qam ns (300+a.1) 2)) Z:=by rw[qay,qai,qeW,h1];show R.bind (R.bind (R.ok (NV.T.scr ns) Z) _) _=_;rw[qaa,qai,e1];exact qjy (by have:=ha.1.1;omega) (by omega)
 rw[qa7,ep,qaa,qn6,qaa,qtr];rfl
theorem qvn{ps:List Sp}{rs:List Row}{x1 t1 x2 t2:Nat}(hp: ∀p∈ps,p.fine)(hk: ∀r∈rs,rowOk r)(hr:Ris rs)(hn:rs.length<=10)(f1:Fed Z x1 t1 (ps.map Sp.z) k1 [] 0)(f2:Fed Z x2 t2 (ps.map Sp.z) k2 [] 0)(di: ∀j,In x1 t1 k1 j->¬In x2 t2 k2 j):
  ∃b9 μ',qaM F6 S6 (ro ns ps rs (qaK (ps.map Sp.z) rs) x4 x5 x6 (some (.obj x1)) (some (.obj x2)) (some (.obj t1)) (some (.obj t2)) aM aL aC aB) Z= .ok (.nx (ro ns ps rs (qaK (ps.map Sp.z) rs) b9 x5 x6 (some (.obj x1)) (some (.obj x2)) (some (.obj t1)) (some (.obj t2)) aM aL aC aB)) μ'/\
   Fed μ' x1 t1 (ps.map Sp.z) k1 rs (qbv rs)/\Fed μ' x2 t2 (ps.map Sp.z) k2 (rs.filter (pk ns)) (qbv (rs.filter (pk ns))):=by
 obtain⟨ρ',μ',e,b9,rfl,g1,g2⟩:=qc5 (F:=F6) (ρ:=ro ns ps rs (qaK (ps.map Sp.z) rs) x4 x5 x6 (some (.obj x1)) (some (.obj x2)) (some (.obj t1)) (some (.obj t2)) aM aL aC aB) (Z:=Z) (g:=.n 4) (ci:=.gen vA2) (b:=[X0,X2,X3]) rs qac
  (λd ρ' μ'=> ∃x4,ρ'=ro ns ps rs (qaK (ps.map Sp.z) rs) x4 x5 x6 (some (.obj x1)) (some (.obj x2)) (some (.obj t1)) (some (.obj t2)) aM aL aC aB/\Fed μ' x1 t1 (ps.map Sp.z) k1 d (qbv d)/\Fed μ' x2 t2 (ps.map Sp.z) k2 (d.filter (pk ns)) (qbv (d.filter (pk ns)))) rfl (qdG (t:=.lst (rs.map qac)) rfl (.inl rfl)) ⟨x4,rfl,f1,f2⟩ (by
   rintro d a r hq ρ' μ' ⟨x4,rfl,g1,g2⟩;have q':rs=(d++[a])++r:=by rw[hq];simp
   have ha:rowOk a:=hk a (by rw[hq];simp);have len:=congrArg List.length q';simp only[List.length_append,List.length_singleton] at len;have da:Ris (d++[a]):=by rw[q'] at hr;exact(List.pairwise_append.mp hr).1
   have dk: ∀r∈d++[a],rowOk r:=λr h=>hk r (by rw[q'];exact Vr _ h);obtain⟨aa,e1,h1,l1,o1⟩:=qo2 (ρ:=ro ns ps rs (qaK (ps.map Sp.z) rs) (some (qac a)) x5 x6 (some (.obj x1)) (some (.obj x2)) (some (.obj t1)) (some (.obj t2)) aM aL aC aB) (it:=9) (iw:=7) hp g1 da dk (by omega) rfl rfl rfl;have h2:=Fed.keep g2 o1 λj hj hi=>di j hi hj;have gk:=qsj (Z:=aa) (ρ:=ro ns ps rs (qaK (ps.map Sp.z) rs) (some (qac a)) x5 x6 (some (.obj x1)) (some (.obj x2)) (some (.obj t1)) (some (.obj t2)) aM aL aC aB) (ns:=ns) (s:=0) (r:=4) (a:=a) rfl rfl ha;have s2: ∃af,qaM F6 X2 (ro ns ps rs (qaK (ps.map Sp.z) rs) (some (qac a)) x5 x6 (some (.obj x1)) (some (.obj x2)) (some (.obj t1)) (some (.obj t2)) aM aL aC aB) aa= .ok (.nx (ro ns ps rs (qaK (ps.map Sp.z) rs) (some (qac a)) x5 x6 (some (.obj x1)) (some (.obj x2)) (some (.obj t1)) (some (.obj t2)) aM aL aC aB)) af/\Fed af x1 t1 (ps.map Sp.z) k1 (d++[a]) (qbv (d++[a]))/\Fed af x2 t2 (ps.map Sp.z) k2 ((d++[a]).filter (pk ns)) (qbv ((d++[a]).filter (pk ns))):=by
    unfold X2;cases c:pk ns a with
    |true=>
     rw[c] at gk;have ef:(d++[a]).filter (pk ns)=d.filter (pk ns)++[a]:=by rw[List.filter_append];simp[c]
     obtain⟨af,e2,h3,l3,o3⟩:=qo2 (ρ:=ro ns ps rs (qaK (ps.map Sp.z) rs) (some (qac a)) x5 x6 (some (.obj x1)) (some (.obj x2)) (some (.obj t1)) (some (.obj t2)) aM aL aC aB) (it:=10) (iw:=8) hp h2 (by rw[<-ef];exact List.Pairwise.filter _ da) (λr h=>dk r (by rw[<-ef] at h;exact(List.mem_filter.mp h).1)) (by have:=List.length_filter_le (pk ns) d;omega) rfl rfl rfl;refine⟨af,?_,Fed.keep h1 o3 di,by rw[ef];exact h3⟩;rw[qn3 gk,qah];unfold X1;rw[e2];rfl
    |false=>
     rw[c] at gk;have ef:(d++[a]).filter (pk ns)=d.filter (pk ns):=by rw[List.filter_append];simp[c]
     exact⟨aa,by rw[qg9 gk];rfl,h1,by rw[ef];exact h2⟩
   obtain⟨af,e2,h3,h4⟩:=s2;refine⟨_,af,?_,some (qac a),rfl,h3,h4⟩;show R.bind (R.ok (ro ns ps rs (qaK (ps.map Sp.z) rs) (some (qac a)) x5 x6 (some (.obj x1)) (some (.obj x2)) (some (.obj t1)) (some (.obj t2)) aM aL aC aB) μ') _=_;rw[qaa,qah];unfold X0;rw[e1,qaa,qaR,qah,e2,qaa,qaR,qah];unfold X3;rw[qg9]
   ·rfl
   rw[qa7];show R.bind (R.ok (NV.T.obj t1) af) _=_;rw[qaa,qhx (rs:=rs) (wh:=qaK (ps.map Sp.z) rs) hp h3 q' rfl rfl rfl,qaa,qmZ (qbo _) (qoy h3.told) rfl];rfl)
 exact⟨b9,μ',by unfold S6;exact e,g1,g2⟩
theorem qgj{ps:List Sp}{aa μ':Mu}{x t:Nat}(hp: ∀p∈ps,p.fine)(w:WS aa x (ps.map Sp.z) ks 0 false)(h: ∀j,j<aa.l.length->μ'.l[j]? =aa.l[j]?)(ht:μ'.l[t]? =some (.ls []))(hl:aa.l.length<=t):Fed μ' x t (ps.map Sp.z) ks [] 0:=
 ⟨w.mono h,ht,⟨λz=>by have:=(List.getElem?_eq_some_iff.mp w.ins).1;omega,λhm=>by
  obtain⟨i,hi,e⟩:=List.mem_iff_getElem.mp hm;have hz:i<(ps.map Sp.z).length:=by rw[<-w.len];exact hi
  have:=w.at_ ((ps.map Sp.z)[i],ks[i]) (List.mem_iff_getElem.mpr ⟨i,by simp[<-w.len,hi],by simp⟩)
  grind⟩,ch0 hp⟩
theorem qey{ps:List Sp}{rs:List Row}(hl:ps.length<=5)(hp: ∀p∈ps,p.fine)(hk: ∀r∈rs,rowOk r)(hr:Ris rs)(hn:rs.length<=10)(h1:ρ[1]? =some (some (.tup (ps.map Sp.T))))(he:qab F6 e ρ m= .ok (.lst (rs.map qac)) m):qab F6 (.call 28 [vA1,e]) ρ m= .ok (.lst ((qaK (ps.map Sp.z) rs).map qac)) m:=by rw[qay,qai,qeW,h1];show R.bind (R.bind (R.ok (NV.T.tup (ps.map Sp.T)) m) _) _=_;rw[qaa,qai,he];show TTf gx (0+6) 28 [.tup (ps.map Sp.T),.lst (rs.map qac)] m=_;exact qjC hl hp hk hr (by omega)
theorem law_true(ns:List Int): ∃m,TTf gx 7 39 [.scr ns] ⟨[],[]⟩= .ok (.bl true) m:=by
 have e0:=qvt (k:=1) (ns:=ns) (Z:=⟨[],[]⟩) (a:=0) (most:=3) (by omega) (by omega);have e1:=qrS (k:=2) (ns:=ns) (Z:=⟨[],[]⟩) (a:=100) (most:=10) (by omega) (by omega);have f1:=qkQ ns 100;have m0:=qaD (ns:=ns) (k:=100) (many:=9) (by omega);have m1:=qaE (ns:=ns) (k:=100) (many:=9) (by omega);have hk: ∀r∈qb9 ns 100 10,rowOk r:=λr hr=>(qd2 f1 _ _ 0 m0 r hr).1;have hr:Ris (qb9 ns 100 10):=qeQ f1 _ _ 0 m0 (by omega);have hn:(qb9 ns 100 10).length<=10:=by have a:=qaD (ns:=ns) (k:=100+2) (many:=10+1) (by omega);have b:=qaE (ns:=ns) (k:=100+2) (many:=10+1) (by omega);unfold qb9;rw[qcK];omega
 have ak:(qfc ns 0 3).length<=5:=by have:=qmL (ns:=ns) (k:=0) (most:=3) (by omega);omega
 have hpf:=qkd ns 0 3;generalize qb9 ns 100 10=rs at*;generalize qfc ns 0 3=fM at*;have hl:(fM.filter Sp.byk).length<=5:=Vp (List.length_filter_le _ _) ak;have hp: ∀p∈fM.filter Sp.byk,p.fine:=λp h=>hpf p (List.mem_filter.mp h).1;have hb: ∀p∈fM.filter Sp.byk,p.byk=true:=λp h=>(List.mem_filter.mp h).2;have s0:=qvq (Z:=⟨[],[]⟩) (ns:=ns) e0 (ρ:=[some (.scr ns),none,none,none,none,none,none,none,none,none,none,none,none,none,none]) rfl;generalize fM.filter Sp.byk=ps at*;generalize fS:qaK (ps.map Sp.z) rs=wh at*;obtain⟨x5,x6,s3⟩:=qvo (ns:=ns) (Z:=⟨[],[]⟩) (x4:=none) (x5:=none) (x6:=none) (x7:=none) (x8:=none) (x9:=none) (bM:=none) (aM:=none) (aL:=none) (aC:=none) (aB:=none) hb hl hp hk hr hn;obtain⟨aa,ea,w1,l1,_⟩:=qv9 (Z:=⟨[],[]⟩) (ρ:=ro ns ps rs wh none x5 x6 none none none none none none none none) hl hp rfl;obtain⟨af,eb,w2,l2,o2⟩:=qv9 (Z:=aa) (ρ:=ro ns ps rs wh none x5 x6 none none none none none none none none) hl hp rfl;have l1:aa.l.length=1+ps.length:=by rw[l1];show 0+1+_=_;omega
 generalize fh:List.range' (([]:List Ct).length+1) ps.length=k1 at*;have fh:k1=List.range' 1 ps.length:=fh.symm;let aQ:=(af.on (.ls [])).on (.ls []);have l3:(af.on (.ls [])).l.length=af.l.length+1:=by simp[Mu.on]
 have o3: ∀j,j<af.l.length->aQ.l[j]? =af.l[j]? :=λj hj=>by show((af.l++_)++_)[j]? =_;rw[List.getElem?_append_left (by simp;omega),List.getElem?_append_left hj]
 have fa:Fed aQ 0 af.l.length (ps.map Sp.z) k1 [] 0:=qgj hp w1 (λj hj=>(o3 j (by omega)).trans (o2 j hj)) (by
  show((af.l++_)++_)[_]? =_;rw[List.getElem?_append_left (by simp)];simp) (by omega)
 have fb:Fed aQ aa.l.length (af.l.length+1) (ps.map Sp.z) (List.range' (aa.l.length+1) ps.length) [] 0:=qgj hp w2 (λj hj=>o3 j hj) (by
  show((af.l++_)++_)[_]? =_;rw[List.getElem?_append_right (by simp)];simp) (by omega)
 have di: ∀j,In 0 af.l.length k1 j->¬In aa.l.length (af.l.length+1) (List.range' (aa.l.length+1) ps.length) j:=λj h1 h2=>by unfold In at h1 h2;rw[fh,List.mem_range'_1] at h1;rw[List.mem_range'_1] at h2;omega
 have s4:qaM F6 S4 (ro ns ps rs wh none x5 x6 none none none none none none none none) ⟨[],[]⟩= .ok (.nx (ro ns ps rs wh none x5 x6 (some (.obj 0)) (some (.obj aa.l.length)) none none none none none none)) af:=by unfold S4;rw[qn2,qai,ea,qaa,qai,eb];rfl
 have s5:qaM F6 S5 (ro ns ps rs wh none x5 x6 (some (.obj 0)) (some (.obj aa.l.length)) none none none none none none) af= .ok (.nx (ro ns ps rs wh none x5 x6 (some (.obj 0)) (some (.obj aa.l.length)) (some (.obj af.l.length)) (some (.obj (af.l.length+1))) none none none none)) aQ:=by
  have n1: ∀(m:Mu)(ρ:Ro),qab F6 (.lst true []) ρ m= .ok (.obj m.l.length) (m.on (.ls [])):=λm ρ=>by rw[qfX,qa1,qaa,if_pos (by decide),Mu.add_on rfl]
  unfold S5;rw[qn2,qai,n1,qaa,qai,n1,l3];rfl
 obtain⟨x4,aR,s6,g1,g2⟩:=qvn (ns:=ns) (Z:=aQ) (ps:=ps) (rs:=rs) (x4:=none) (x5:=x5) (x6:=x6) (aM:=none) (aL:=none) (aC:=none) (aB:=none) hp hk hr hn fa fb di;rw[fS] at s3 s6;have fk: ∀r∈rs.filter (pk ns),rowOk r:=λr h=>hk r (List.mem_filter.mp h).1;have fr:Ris (rs.filter (pk ns)):=List.Pairwise.filter _ hr;have fn:(rs.filter (pk ns)).length<=10:=Vp (List.length_filter_le _ _) hn;have s7:qaM F6 S7 (ro ns ps rs wh x4 x5 x6 (some (.obj 0)) (some (.obj aa.l.length)) (some (.obj af.l.length)) (some (.obj (af.l.length+1))) none none none none) aR= .ok (.nx (ro ns ps rs wh x4 x5 x6 (some (.obj 0)) (some (.obj aa.l.length)) (some (.obj af.l.length)) (some (.obj (af.l.length+1))) (some (.lst ((rs.filter (pk ns)).map qac))) none none none)) aR:=by
  have cm:=qgt (F:=F6) (Z:=aR) (ρ:=ro ns ps rs wh x4 x5 x6 (some (.obj 0)) (some (.obj aa.l.length)) (some (.obj af.l.length)) (some (.obj (af.l.length+1))) none none none none) (x:=false) (fr:=[0]) (ci:=.gen vA2) (t:=some (xPk 1 0)) (e:=.v 0) (l:=rs) (f:=qac) (p:=pk ns) (h:=qac) (qa3 rfl rfl) (λa ha=>by
   show runT F6 _ [some (qac a),some (.scr ns)] aR=_;rw[qjD,qsj (ns:=ns) (a:=a) rfl rfl (hk a ha)];rfl) (λa _ _=>rfl)
  unfold S7;rw[qaX,cm];rfl
 let r8:=ro ns ps rs wh x4 x5 x6 (some (.obj 0)) (some (.obj aa.l.length)) (some (.obj af.l.length)) (some (.obj (af.l.length+1))) (some (.lst ((rs.filter (pk ns)).map qac))) none none none;obtain⟨fE,ec,l5,o5⟩:=qfO (ρ:=r8) (it:=10) (iw:=8) hp g2 fr fk (by omega) rfl rfl;have g1':Fed fE 0 af.l.length (ps.map Sp.z) k1 rs (qbv rs):=Wk.Fed.other g1 λj hj=>o5 j (λz=>di j hj (.inl z)) (λz=>di j hj (.inr (.inl z)));obtain⟨bq,ed,l6,o6⟩:=qfO (ρ:=r8) (it:=9) (iw:=7) hp g1' hr hk (by omega) rfl rfl;have s8:qaM F6 S8 r8 aR= .ok (.nx r8) bq:=by
  have ee:=qey (ps:=ps) (ρ:=r8) (e:=.v 11) (m:=fE) hl hp fk fr fn rfl rfl;unfold S8;have q1:qab F6 (Oo .ne (qnP 10 8) (.call 28 [vA1,v11])) r8 aR= .ok (.bl false) fE:=by rw[qa7,ec,qaa,ee,qaa,qmZ (qbo _) rfl rfl];rfl
  have q2:qab F6 (Oo .ne (qnP 9 7) vA3) r8 fE= .ok (.bl false) bq:=by rw[qa7,ed,qaa,fS];show R.bind (R.ok (NV.T.lst (wh.map qac)) bq) _=_;rw[qaa,qmZ (qbo _) rfl rfl];rfl
  have q:qab F6 (.or (Oo .ne (qnP 10 8) (.call 28 [vA1,v11])) (Oo .ne (qnP 9 7) vA3)) r8 aR= .ok (.bl false) bq:=by rw[qvB,q1,qaa,qeG,qaa,if_neg (by decide),q2]
  rw[qeV,q];rfl
 have b0:=qaD (ns:=ns) (k:=80) (many:=(rs.length:Int)+1) (by omega);have b1:=qaE (ns:=ns) (k:=80) (many:=(rs.length:Int)+1) (by omega);have ep:=qjy (k:=4) (ns:=ns) (Z:=bq) (i:=80) (m:=(rs.length:Int)+1) (by omega) (by omega);generalize qam ns 80 ((rs.length:Int)+1)=cut at*;let r9:=ro ns ps rs wh x4 x5 x6 (some (.obj 0)) (some (.obj aa.l.length)) (some (.obj af.l.length)) (some (.obj (af.l.length+1))) (some (.lst ((rs.filter (pk ns)).map qac))) (some (.int cut)) none none;have s9:qaM F6 S9 r8 bq= .ok (.nx r9) bq:=by
  have el:qab F6 (Oo .add (.bn false .len [vA2]) (Ci 1)) r8 bq= .ok (.int ((rs.length:Int)+1)) bq:=by rw[qa7,qjH,qai];show R.bind (R.bind (R.bind (R.bind (R.ok (NV.T.lst (rs.map qac)) bq) _) _) _) _=_;simp
  unfold S9;rw[qaX,qay,qai];show R.bind (R.bind (R.bind (R.ok (NV.T.scr ns) bq) _) _) _=_;rw[qaa,qai,qn6,qaa,qai,el];show R.bind (TTf gx (4+2) 33 [.scr ns,.int 80,.int ((rs.length:Int)+1)] bq) _=_;rw[ep];rfl
 obtain⟨bW,ef,w7,l7,o7⟩:=qv9 (Z:=bq) (ρ:=r9) hl hp rfl;generalize hx3:bq.l.length=x3 at*;generalize hk3:List.range' (x3+1) ps.length=k3 at*;have fc:Fed (bW.on (.ls [])) x3 bW.l.length (ps.map Sp.z) k3 [] 0:=qgj hp w7 (λj hj=>by
  show(bW.l++_)[j]? =_;rw[List.getElem?_append_left hj]) (by show(bW.l++_)[_]? =_;simp) (Vm _)
 let cs:=rs.take cut.toNat;have eq:rs=cs++rs.drop cut.toNat:=(List.take_append_drop _ _).symm;have ck: ∀r∈cs,rowOk r:=λr h=>hk r (List.mem_of_mem_take h);have cr:Ris cs:=List.Pairwise.sublist (List.take_sublist _ _) hr;have cn:cs.length<=10:=by have:=List.length_take_le cut.toNat rs;show(rs.take _).length<=_;omega
 have fB: ∀{x4 aC aB:Option NV.T}{m:Mu},qab F6 qrr (ro ns ps rs wh x4 x5 x6 (some (.obj 0)) (some (.obj aa.l.length)) (some (.obj af.l.length)) (some (.obj (af.l.length+1))) (some (.lst ((rs.filter (pk ns)).map qac))) (some (.int cut)) aC aB) m= .ok (.lst (cs.map qac)) m:=λ{x4 aC aB m}=>by rw[qrW];show R.bind (R.ok (NV.T.lst (rs.map qac)) m) _=_;rw[qaa,qjF,qaa,qjE];show R.bind (R.ok (some cut) m) _=_;rw[qaa,qpf (ts:=rs.map qac) rfl b0,<-List.map_take];rfl
 let bX:Option NV.T->Ro:=λx4=>ro ns ps rs wh x4 x5 x6 (some (.obj 0)) (some (.obj aa.l.length)) (some (.obj af.l.length)) (some (.obj (af.l.length+1))) (some (.lst ((rs.filter (pk ns)).map qac))) (some (.int cut)) (some (.obj x3)) (some (.obj bW.l.length))
 obtain⟨ρ',d9,s12,b9,rfl,g3⟩:=qc5 (F:=F6) (ρ:=bX x4) (Z:=bW.on (.ls [])) (g:=.n 4) (ci:=.gen qrr) (b:=[X4]) cs qac
  (λd ρ' μ'=> ∃x4,ρ'=bX x4/\Fed μ' x3 bW.l.length (ps.map Sp.z) k3 d (qbv d)) rfl (qdG fB (.inl rfl)) ⟨x4,rfl,fc⟩ (by
   rintro d a r hq ρ' μ' ⟨x4,rfl,g⟩;have q':cs=(d++[a])++r:=by rw[hq];simp
   have len:=congrArg List.length q';simp only[List.length_append,List.length_singleton] at len;obtain⟨cN,e9,h9,_,_⟩:=qo2 (ρ:=bX (some (qac a))) (it:=14) (iw:=13) hp g (by rw[q'] at cr;exact(List.pairwise_append.mp cr).1) (λr h=>ck r (by rw[q'];exact Vr _ h)) (by omega) rfl rfl rfl;refine⟨_,cN,?_,some (qac a),rfl,h9⟩;show R.bind (R.ok (bX (some (qac a))) μ') _=_;rw[qaa,qah];unfold X4;rw[e9];rfl)
 obtain⟨cN,eg,_,_⟩:=qfO (ρ:=bX b9) (it:=14) (iw:=13) hp g3 cr ck (by omega) rfl rfl;have e13:qab F6 (.and xE1 xE2) (bX b9) d9= .ok (.bl true) cN:=by
  have q1:qab F6 xE1 (bX b9) d9= .ok (.bl true) d9:=by rw[qa7];show R.bind (R.ok (NV.T.obj bW.l.length) d9) _=_;rw[qaa,qhx (rs:=rs) (wh:=wh) hp g3 eq fS.symm rfl rfl,qaa,qtq (qbo _) (qoy g3.told) rfl];rfl
  have q2:qab F6 xE2 (bX b9) d9= .ok (.bl true) cN:=by rw[qa7,eg,qaa,qey (ps:=ps) (ρ:=bX b9) (e:=qrr) (m:=cN) hl hp ck cr cn rfl fB,qaa,qtq (qbo _) rfl rfl];rfl
  rw[qrY,q1,qaa,qeG,qaa,if_pos rfl,q2]
 have fin:(runSs F6 [S0,S1,S2,S3,S4,S5,S6,S7,S8,S9,S10,S11,S12,S13] [some (.scr ns),none,none,none,none,none,none,none,none,none,none,none,none,none,none] ⟨[],[]⟩).bind outT= .ok (.bl true) cN:=by
  refine qak s0 (qak (ρ':=[some (.scr ns),some (.tup (ps.map Sp.T)),some (.lst (rs.map qac)),none,none,none,none,none,none,none,none,none,none,none,none]) (μ':=⟨[],[]⟩) ?_ (qak (ρ':=ro ns ps rs wh none none none none none none none none none none none) (μ':=⟨[],[]⟩) ?_ (qak s3 (qak s4 (qak s5 (qak s6 (qak s7 (qak s8 (qak s9 (qak (ρ':=ro ns ps rs wh x4 x5 x6 (some (.obj 0)) (some (.obj aa.l.length)) (some (.obj af.l.length)) (some (.obj (af.l.length+1))) (some (.lst ((rs.filter (pk ns)).map qac))) (some (.int cut)) (some (.obj x3)) none) (μ':=bW) ?_ (qak (ρ':=bX x4) (μ':=bW.on (.ls [])) ?_ (qak s12 (qg1 e13)))))))))))))
  ·show R.bind (TTf gx (2+4) 36 [.scr ns,.int 100,.int 10] ⟨[],[]⟩) _=_;rw[e1];rfl
  ·have:=qey (ps:=ps) (ρ:=[some (.scr ns),some (.tup (ps.map Sp.T)),some (.lst (rs.map qac)),none,none,none,none,none,none,none,none,none,none,none,none]) (e:=.v 2) (m:=⟨[],[]⟩) hl hp hk hr hn rfl rfl;unfold S2;rw[qaX,this,fS];rfl
  ·unfold S10;rw[qaX,ef];rfl
  ·unfold S11;rw[qaX,qfX,qa1,qaa,if_pos (by decide),Mu.add_on rfl];rfl
 obtain⟨m',hm⟩:=qkc (Z:=⟨[],[]⟩) (b:=true) cN;refine⟨m',?_⟩;rw[tn 39 rfl];unfold Fcd.run fnR;rw[if_pos (show [NV.T.scr ns].length=1 from rfl)];show NV.lv false _ ((runSs F6 [S0,S1,S2,S3,S4,S5,S6,S7,S8,S9,S10,S11,S12,S13] [some (.scr ns),none,none,none,none,none,none,none,none,none,none,none,none,none,none] ⟨[],[]⟩).bind outT)=_;rw[fin];exact hm
end K21
namespace NV
open PySem L2
theorem qbH{N:List Str}{x:Str}(h:qlG N x=some i):N[i]? =some x:=by
 obtain⟨hi,h1,_⟩:=List.findIdx?_eq_some_iff_getElem.mp h
 simp_all
structure Gf(M:Md)(g:Gx)(F:Fs)(k:Nat)(P:Program)(w:World)(mg:Str->Option Value)(base:Heap):Prop where
 fn: ∀x i,g.fi x=some i->x.cps.contains 46=false->∃f fd ps,mg x=some (.ref f)/\W.keepIn M.K (.ref f)=true/\qaW M.K fd ps []/\qcC P w M.K mg base (CXE P w) (8*k) f fd ps (spF M (F i))
 nb: ∀x,qcB.contains x=true->mg x=none
 cs: ∀x t,g.cs.lookup x=some t->∃v u,mg x=some u/\RelV v u/\∀B,Rep M.K B t v
 ex: ∀c bs,(c,bs)∈g.ex->mg c=some (.ref (clA M.K c))/\∃bm,qiW base (clA M.K c) bm/\∀x∈bs,(g.ex.map (·.1)).contains x=true->(Value.ref (clA M.K c)::bm).contains (.ref (clA M.K x))=true
 mt: ∀m c i,(c,i)∈g.ms m->∃f fd ps,Cls M.K (clA M.K c)/\quC M.K (clA M.K c) m f/\qcC P w M.K mg base (CXE P w) (8*k) f fd ps (spF M (F i))/\qaW M.K fd ps []
 mkc: ∀c i,(g.cl.map (·.1)).contains c=true->g.fi (qaP c "__init__")=some i->∃f fd ps,mg c=some (.ref (clA M.K c))/\Mk M.K (clA M.K c) f/\qcC P w M.K mg base (CXE P w) (8*k) f fd ps (spF M (F i))/\qaW M.K fd ps []
 fl: ∀f c,(g.fls f).contains c=true->Cls M.K (clA M.K c)/\qa5 M.K (clA M.K c) f
 dt: ∀D tbl,g.dt.lookup D=some tbl->PL.TopT M.K mg w D tbl
structure Tp(M:Md)(g:Gx)(X:Cx)(E:XK):Prop where
 st:X.stack=X.env::X.outer
 fr:X.env.frame=some X.env.locals
 ex:X.ex=[]
 xe: ∀a s',wpAny (model X.prog X.w) X.A (leaving X.env (.ref a)) (λ_ s''=>CXE X.prog X.w X.outer X.H₀ X.s₀ E (.ref a) s'') (λ_ _=>False) s'->X.xe (.ref a) s'
 ow:PassesOwn (model X.prog X.w) X.A X.env X.xe
 rs: ∀(x msg:Str)(j:Nat)(np p1 cpos pos:Pos),(g.ex.map (·.1)).contains x=true->Gl X x->(x==("__debug__" :Str))=false->PS X (.Raise (some (.Call (.Name x np) [.Constant (.str msg) j p1] [] cpos)) none pos) (qjj (clA M.K x) E)
structure Cok(M:Md)(g:Gx)(F:Fs)(k:Nat)(C:Cc)(X:Cx)(E:XK):Prop where
 gf:Gf M g F k X.prog X.w X.mg X.base
 K:X.K=M.K
 N:X.N=C.N
 nd:C.N.Nodup
 sc:X.env.scope=C.sc
 fn: ∀x,qrk C x=true->X.fn x=true\/C.sc.names.lookup x=some .local
 un:X.A.units+8<cLine
 cm:C.calm=true->X.calm=true/\qbl (8*k+1) X.A/\qaJ (CXE X.prog X.w) X E
 tp:C.top=true->Tp M g X E
 lm:C.lam=true->qbl (8*k+4) X.A/\∃c P q,Lm M X c P q
 cf:C.cf=true->∀x,X.fn x=true
section
variable{x:Str}
theorem Cok.gl(c:Cok M g F k C X E)(h:qiy C x=true):Gl X x/\(x==("__debug__" :Str))=false:=by unfold qiy at h;rw[Bool.and_eq_true] at h;refine⟨?_,by simpa using h.2⟩;show X.env.scope.names.lookup x=_;rw[c.sc];simp_all
theorem Cok.blt(c:Cok M g F k C X E)(h:qc0 C x=true):Gl X x/\X.mg x=none/\(x==("__debug__" :Str))=false:=by unfold qc0 at h;rw[Bool.and_eq_true] at h;exact⟨(c.gl h.1).1,c.gf.nb x h.2,(c.gl h.1).2⟩
theorem qnS(h:qmQ sc x=true):Vis sc x:=by
 unfold qmQ at h;split at h
 ·rename_i e;exact .inl e
 ·rename_i e;exact .inr (.inl e)
 ·rename_i e;exact .inr (.inr e)
 ·cases h
theorem qsZ(h:qql sc x=true):Loc sc x:=by
 unfold qql at h;split at h
 ·rename_i e;exact .inl e
 ·rename_i e;exact .inr e
 ·cases h
theorem qrE(h:qrk C x=true):Loc C.sc x:=by
 unfold qrk at h;split at h
 ·rename_i e;exact .inl e
 ·rename_i e;exact .inr e
 ·cases h
theorem qp2(c:Cok M g F k C X E):PE X (.Name x pos) (tE M E (qab F (qq6 g C x))):=by
 unfold qq6;split
 ·exact qan
 ·rename_i hd;have h1:(x==("__debug__" :Str))=false/\(x==("__classdict__" :Str))=false:=by simpa using hd
  split
  ·rename_i hv;split
   ·rename_i i hi;exact qtV (qn7 (by rw[c.N];exact qbH hi) (by rw[c.sc];exact qnS hv) h1.1 h1.2)
   ·exact qan
  ·split
   ·rename_i hg;split
    ·rename_i t ht;obtain⟨v,u,m,r,rt⟩:=c.gf.cs x t ht;exact qt0 (qb4 (c.gl hg).1 m r h1.1) rt
    ·exact qan
   ·exact qan
theorem qaV: ∀{es:List Expr},(∀e∈es,PE X e (tE M E (qab F (f e))))->es.all qap=true->PA X es (tA M E (runA F (es.map f)))
 |[],_,_=>qt4
 |e::es,h,hp=>by rw[List.all_cons,Bool.and_eq_true] at hp;exact qqS (h e Vk) (qaV (λe he=>h e (Vl _ he)) hp.2) (qbM hp.1)
theorem qji(c:Cok M g F k C X E): ∀(n:Nat)(e:Expr),PG X e (tG M E (qb0 (cG C n e)))
 |0,e=>qkZ
 |n+1,e=>by
  have many: ∀es:List Expr,es.all qap=true->PGs X es (tGs M E (runGs (es.map (cG C n)))):=λes=>by
   induction es with
   |nil=>exactλ_=>qqJ
   |cons e es ih=>intro h;rw[List.all_cons,Bool.and_eq_true] at h;exact qnf (qji c n e) (ih h.2) (qrc h.1)
  cases e with
  |Name y p=>
   show PG X _ (tG M E (qb0 (if qrk C y then(match qlG C.N y with|some i=>.n i|none=>.no) else .no)));split
   ·rename_i hl;split
    ·rename_i i hi;exact qwU (qpH (by rw[c.N];exact c.nd) (by rw[c.N];exact qbH hi) (by rw[c.sc];exact qrE hl) (by rw[c.sc];exact c.fn y hl))
    ·exact qkZ
   ·exact qkZ
  |Tuple ts kk p=>
   show PG X _ (tG M E (qb0 (if C.calm&&ts.all qap then .tup (ts.map (cG C n)) else .no)));split
   ·rename_i h;rw[Bool.and_eq_true] at h;have q:=qtT (k:=kk) (pos:=p) (c.cm h.1).1 (many ts h.2) c.K (n:=ts.length) qdN (qfF h.2);have e:(ts.map (cG C n)).length=ts.length:=List.length_map _;show PG X _ (tG M E (gT (ts.map (cG C n)).length _));rw[e];exact q
   ·exact qkZ
  |_=>exact qkZ
end
theorem qct:OkO M (rB M g) g:=λZ H B x y a b n Q h ra rb e k=>⟨Z,B,a,b,n,h,ra,rb,e,k⟩
section
theorem bin_ok(hK:X.K=M.K)(h:qv4 op=some o):OpR X (binaryOp op) (rB M o.g):=by
 cases op<;>first|(cases h;done)|skip
 ·cases h;exact OpR.ok qpU (qsQ hK)
 ·cases h;exact OpR.ok qsx qsI
 ·cases h;exact OpR.ok qpQ (qsK hK)
 ·cases h;exact OpR.ok qsA qsL
 ·cases h;exact OpR.ok qpS qsP
theorem qdJ(hu:X.A.units+8<cLine)(hK:X.K=M.K)(op:CmpOp):OpR X (compareOp op) (rB M (qoL op).g):=by
 cases op with
 |Eq=>exact OpR.ok (qsF hu) (qsO hK)
 |NotEq=>exact OpR.ok (qsy hu) (qsO hK)
 |Lt=>exact OpR.ok qsB qvZ
 |LtE=>exact OpR.ok qsC qv0
 |Gt=>exact OpR.ok qvX qv1
 |GtE=>exact OpR.ok qvY qv2
 |Is=>exact OpR.ok qpR (qsM)
 |IsNot=>exact OpR.ok qib (qsM)
 |In=>exact OpR.ok (qsE hu) (qsN hK)
 |NotIn=>exact OpR.ok (qjS hu) (qsN hK)
theorem qsJ:OkU M (rU λi=>.int (-i)) qtv:=by
 refine⟨λt Z c m e=>(by cases t<;>cases e),λZ H B x t u μ' Q h r e k=> ?_⟩;cases t with
 |int i=>cases e;exact⟨i,qag r,k _ H B h .refl qaN⟩
 |_=>cases e
theorem qtY(h:PE X a (tE M E da)):PE X (.UnaryOp .USub a pos) (tE M E (dU qtv da)):=PE.weak (qvJ qrt h) λO H Q q=>qoX qsJ q
theorem qdL(cq:Cl Q)(h:tE M E (qoF o p da db dc) O H Q):qjk (rB M o.g) (rB M p.g) (tE M E da) (tE M E db) (tE M E dc) O H Q:=by
 obtain⟨ρ,Z,B,ev,w⟩:=h;refine tE.of ev ((Wn.bind w).mono λx aa w1 v H1 B1 h1 l1 r1=> ?_);refine tE.of (ev.on h1 l1.le) ((Wn.bind w1).lift l1 λy af w2 u H2 B2 h2 l2 r2=> ?_);have eM:=l1.trans l2;have w2:=Wn.bind w2;obtain⟨z,m,q,w2⟩:=Wn.pl w2 (λc m=>qe1 c m);have w2:=Wn.bind w2;obtain⟨kk,m',q',w3⟩:=Wn.pl w2 (λc m e=>by cases z<;>cases e);cases z with
 |bl z=>
  cases q';have kv:KE M H2 B2 (λz H3=> ∃k,z= .bl k/\if k=true then tE M E dc O H3 λw' H4=>rB M p.g u w' H4 Q else Q _ H3) _ m:=λzv H3 B3 h3 l3 r3=>by
   refine⟨kk,qbx r3,?_⟩;split at w3
   ·rename_i hk;rw[if_pos hk];have eL:=eM.trans l3;refine tE.of (ev.on h3 eL.le) ((Wn.bind w3).lift eL λw' aR w4 v4 H4 B4 h4 l4 r4=> ?_);obtain⟨c4,m4,q4,w5⟩:=Wn.pl w4 (λc m=>qe1 c m);obtain⟨n,e,kv⟩:=qdk cq q4 (KE.le w5 (eL.trans l4));exact⟨aR,B4,y,w',n,h4,(r2.mono l3.le).mono l4.le,r4,e,kv⟩
   ·rename_i hk;rw[if_neg hk];exact w3 _ H3 B3 h3 (eM.trans l3) qa2
  obtain⟨n,e,kv⟩:=qdk qq2 q kv;exact⟨af,B2,x,y,n,h2,r1.mono l2.le,r2,e,kv⟩
 |_=>cases q'
theorem qsa(hc:PT X c tc)(ha:PT X a ta)(hb:PT X b tb):PT X (.IfExp c a b pos) (λO H Q=>tc O H λk H1=>if k=true then ta O H1 Q else tb O H1 Q):=by
 intro U s O H Q I h;refine Va (thn (hc _ s O H _ I h) λk s1 z0=> ?_);obtain ⟨H1,I1,q⟩:=z0;cases k with
 |true=>exact ha _ s1 O H1 Q I1 q
 |false=>exact hb _ s1 O H1 Q I1 q
theorem qry:dTB (qnn da)=qxY (dTB da):=by
 funext ρ Z
 show R.bind (R.bind (R.bind _ tbO) _) tbO=R.bind (R.bind _ tbO) _;cases da ρ Z with
 |no|ex c m=>rfl
 |ok t m=>cases t<;>rfl
theorem qrz:dTB (qnp da db)=qx2 (dTB da) (dTB db):=by
 funext ρ Z
 show R.bind (R.bind (R.bind _ tbO) _) tbO=R.bind (R.bind _ tbO) _;cases da ρ Z with
 |no|ex c m=>rfl
 |ok t m=>cases t<;>first|rfl|(rename_i z;cases z<;>rfl)
theorem qu2:dTB (quT da db)=dOr (dTB da) (dTB db):=by
 funext ρ Z
 show R.bind (R.bind (R.bind _ tbO) _) tbO=R.bind (R.bind _ tbO) _;cases da ρ Z with
 |no|ex c m=>rfl
 |ok t m=>cases t<;>first|rfl|(rename_i z;cases z<;>rfl)
theorem qu3:dTB (qiI dt da db)=qiI dt (dTB da) (dTB db):=by
 funext ρ Z
 show R.bind (R.bind _ _) tbO=R.bind _ _;cases dt ρ Z with
 |no|ex c m=>rfl
 |ok t m=>cases t<;>rfl
theorem qj2{m:Str}(hb:qcc o=true)(hp:es.all qap=true)(hl:es.length<30)(he:(apos.endLine==pos.line)=true):
  eval (.Call (.Attribute o m apos) es [] pos) env=(do
   let ov <-eval o env
   standAt apos.atName
   let (f,fi) <-holding [ov] (getMethod ov m (do return (<-importBound o env).getD true))
   callWith pos f fi (backTo pos (starEach es env)) (backToKw pos (keywordEach [] env))):=by
 have hf:methodCallForm (es.length+([]:List Keyword).length) (backTo pos (starEach es env)) (backToKw pos (keywordEach [] env))=true:=by have:=qou (pos:=pos) (env:=env) hp hl;exact this
 show(attributeBase o m env _>>=λov=>standAt _>>=λ_=>methodCall o m _ pos env ov _ _ _)=_;rw[qex hb];unfold methodCall calleeOf methodCallPos
 simp_all
end
theorem qpM:qaJ (CXE X.prog X.w) X E0:=(by rintro U O H s e s' I ⟨_,_,_,_,_,_,_,q⟩;exact q.elim)
structure Eo(M:Md)(g:Gx)(F:Fs)(k n:Nat):Prop where
 e: ∀C X E,Cok M g F k C X E->∀e,PE X e (tE M E (qab F (cE g n C e)))
 t: ∀C X E,Cok M g F k C X E->∀e,PT X e (tT M E (dTB (qab F (cE g n C e))))
 c: ∀C X E,Cok M g F k C X E->C.calm=true->∀f es p pp,es.all qap=true->qiy C f=true->PE X (.Call (.Name f pp) es [] p) (tE M E (qab F (cCall g n C f es p)))
 i: ∀C X E,Cok M g F k C X E->∀tg it,PI X tg it (tI M E (runI F (cI g n C tg it)))
section
theorem qnt:(qaj C sc).1.N=(sc.names.filter λy=>decide (y.2= .local)&&y.1 != (".0" :Str)).map (·.1)++(qaj C sc).2.map (·.1):=rfl
theorem qcj(h:qhC C sc=true):sc.kind= .function/\(∀y∈sc.names,y.2≠.cell)/\(∀y∈sc.names,y.2= .local->sc.names.lookup y.1=some .local)/\
  (∀y∈sc.names,y.2= .free->(C.sc.names.lookup y.1=some .cell\/C.sc.names.lookup y.1=some .free)/\sc.names.lookup y.1=some .free)/\(qaj C sc).1.N.Nodup:=by unfold qhC at h;simp only[Bool.and_eq_true,List.all_eq_true,Bool.or_eq_true,decide_eq_true_eq] at h;obtain⟨⟨⟨⟨h1,h2⟩,h3⟩,h4⟩,h5⟩:=h;exact⟨h1,h2,λy hy e=>(h3 y hy).elim (λz=>absurd e z) id,λy hy e=>(h4 y hy).elim (λz=>absurd e z) id,h5⟩
theorem qnu(c:Cok M g F k C X E)(hc:C.calm=true)(h:qhC C sc=true)(hY: ∃fp s3 H3 xe,Y=(qat X sc ((sc.names.filter λy=>decide (y.2= .local)&&y.1 != (".0" :Str)).map (·.1)) (qaj C sc).2 fp s3 H3).wish xe)(hp:qaJ (CXE X.prog X.w) Y E'):Cok M g F k (qaj C sc).1 Y E':=by
 obtain⟨fp,s3,H3,xe,rfl⟩:=hY;obtain⟨h1,h2,h3,h4,h5⟩:=qcj h;refine⟨c.gf,c.K,rfl,h5,?_,λx hx=> ?_,c.un,λ_=>⟨(c.cm hc).1,(c.cm hc).2.1,hp⟩,(λz=>by cases z),λz=> ?_,λz=>by cases z⟩
 ·show relabel sc _=quK C sc;unfold relabel quK Env.kindOf;rw[c.sc]
 ·have hx:(match(quK C sc).names.lookup x with|some .local=>true|some .cell=>false|_=>false)=true:=hx;split at hx
  ·rename_i e;exact .inr e
  ·cases hx
  ·cases hx
 ·obtain⟨r,cc,P,q,l⟩:=c.lm z;exact⟨r,cc,P,q,l.cd,l.hd,l.bm,l.q,l.t,l.t'⟩
theorem qqV(IH:Eo M g F k n)(c:Cok M g F k C X E)(hx:x=false):
  PE X (.ListComp elt [⟨tg,iter,ifs,0⟩] sc p) (tE M E (qab F (cComp g (n+1) C x elt tg iter ifs sc p)))/\
  ∀(i:Nat)(y:Str)(py spos:Pos),x=false->X.N[i]? =some y->C.sc.names.lookup y=some .local->swapsWith (.ListComp elt [⟨tg,iter,ifs,0⟩] sc p) (some (.Name y py)) spos.line X.env=pure true->
   PS X (.Assign [.Name y py] (.ListComp elt [⟨tg,iter,ifs,0⟩] sc p) spos) (tS M E (qnm i (qab F (cComp g (n+1) C x elt tg iter ifs sc p)))):=by
 have no:PE X (.ListComp elt [⟨tg,iter,ifs,0⟩] sc p) (tE M E (qab F .no))/\∀(i:Nat)(y:Str)(py spos:Pos),x=false->X.N[i]? =some y->C.sc.names.lookup y=some .local->swapsWith (.ListComp elt [⟨tg,iter,ifs,0⟩] sc p) (some (.Name y py)) spos.line X.env=pure true->
   PS X (.Assign [.Name y py] (.ListComp elt [⟨tg,iter,ifs,0⟩] sc p) spos) (tS M E (qnm i (qab F .no))):=⟨qan,(by rintro _ _ _ _ _ _ _ _ _ _ _ _ _ _ ⟨_,_,_,_,w⟩;exact w.elim)⟩
 unfold cComp;split
 case isFalse=>exact no
 rename_i cJ;rw[Bool.and_eq_true] at cJ;obtain⟨h1,h2,h3,h4,h5⟩:=qcj cJ.2;obtain⟨cm,hr,ps⟩:=c.cm cJ.1;have bu: ∀q∈(qaj C sc).2,X.N[q.2]? =some q.1/\sc.names.lookup q.1=some .free:=λq hq=>by
  obtain⟨y,hy,e⟩:=List.mem_filterMap.mp hq;split at e
  ·rename_i hf;obtain⟨i,hi,rfl⟩:=qar e;exact⟨by rw[c.N];exact qbH hi,(h4 y hy hf).2⟩
  ·cases e
 have ah: ∀y∈sc.names,y.2= .free->X.env.kindOf y.1=some .cell\/X.env.kindOf y.1=some .free:=λy hy e=>by show X.env.scope.names.lookup _=_\/X.env.scope.names.lookup _=_;rw[c.sc];exact(h4 y hy e).1
 have hn:(qaj C sc).1.N.length - (qaj C sc).2.length=((sc.names.filter λy=>decide (y.2= .local)&&y.1 != (".0" :Str)).map (·.1)).length:=by rw[qnt,List.length_append,List.length_map (f:=λx=>x.1) (as:=(qaj C sc).2)];omega
 have go: ∀(tt:Option CE),(∀Y E',Cok M g F k (qaj C sc).1 Y E'->qiU Y ifs (tT M E' (runT F tt)))->
   PE X (.ListComp elt [⟨tg,iter,ifs,0⟩] sc p) (tE M E (qab F (.comp (g.own p) x ((qaj C sc).1.N.length - (qaj C sc).2.length) ((qaj C sc).2.map (·.2)) (cG (qaj C sc).1 n tg) (cI g n C tg iter) tt (cE g n (qaj C sc).1 elt))))/\
   ∀(i:Nat)(y:Str)(py spos:Pos),x=false->X.N[i]? =some y->C.sc.names.lookup y=some .local->swapsWith (.ListComp elt [⟨tg,iter,ifs,0⟩] sc p) (some (.Name y py)) spos.line X.env=pure true->
    PS X (.Assign [.Name y py] (.ListComp elt [⟨tg,iter,ifs,0⟩] sc p) spos) (tS M E (qnm i (qab F (.comp (g.own p) x ((qaj C sc).1.N.length - (qaj C sc).2.length) ((qaj C sc).2.map (·.2)) (cG (qaj C sc).1 n tg) (cI g n C tg iter) tt (cE g n (qaj C sc).1 elt))))):=λtt ht=>by
  have bF:qbu iter=true\/cI g n C tg iter= .no:=by
   cases n with
   |zero=>exact .inr rfl
   |succ n=>
    cases z:qbu iter with
    |true=>exact .inl rfl
    |false=>exact .inr (by unfold cI;rw[z];exact if_neg (by decide))
  rw[hn]
  rcases bF with bF|bF
  ·have hi:=IH.i C X E c tg iter;have jj: ∀(fp:List Addr)(s3:Shared)(H3:Hp),PG (qat X sc ((sc.names.filter λy=>decide (y.2= .local)&&y.1 != (".0" :Str)).map (·.1)) (qaj C sc).2 fp s3 H3) tg (tG M E0 (qb0 (cG (qaj C sc).1 n tg)))/\qiU (qat X sc ((sc.names.filter λy=>decide (y.2= .local)&&y.1 != (".0" :Str)).map (·.1)) (qaj C sc).2 fp s3 H3) ifs (tT M E0 (runT F tt))/\PE (qat X sc ((sc.names.filter λy=>decide (y.2= .local)&&y.1 != (".0" :Str)).map (·.1)) (qaj C sc).2 fp s3 H3) elt (tE M E0 (qab F (cE g n (qaj C sc).1 elt))):=λfp s3 H3=>by have cc:=qnu (E':=E0) (Y:=qat X sc ((sc.names.filter λy=>decide (y.2= .local)&&y.1 != (".0" :Str)).map (·.1)) (qaj C sc).2 fp s3 H3) c cJ.1 cJ.2 ⟨fp,s3,H3,λ_ _=>False,rfl⟩ qpM;exact⟨qji cc n tg,ht _ _ cc,IH.e _ _ _ cc elt⟩
   refine⟨?_,λi y py spos hx0 hy hl bE=> ?_⟩
   ·show PE X _ (tE M E (qiG (g.own p) _));have dn:PE X (.ListComp elt [⟨tg,iter,ifs,0⟩] sc p) (tN M E (qcm x ((sc.names.filter λy=>decide (y.2= .local)&&y.1 != (".0" :Str)).map (·.1)).length ((qaj C sc).2.map (·.2)) (runI F (cI g n C tg iter)) (qb0 (cG (qaj C sc).1 n tg)) (runT F tt) (qab F (cE g n (qaj C sc).1 elt)))):=by
     cases x with
     |false=>exact qqG cm hi h1 h2 h3 ah bu jj (qeb bF)
     |true=>cases hx
    unfold qiG;split
    ·exact qqL dn
    ·exact qqP dn
   ·subst hx0;have:=qiF (ow:=g.own p) (py:=py) (spos:=spos) cm hi h1 h2 h3 ah bu jj (by rw[c.N];exact c.nd) hy (by rw[c.sc];exact hl) bE (qeb bF);exact this
  ·rw[bF];have e: ∀ow,(qiG ow (qcm x ((sc.names.filter λy=>decide (y.2= .local)&&y.1 != (".0" :Str)).map (·.1)).length ((qaj C sc).2.map (·.2)) dNo (qb0 (cG (qaj C sc).1 n tg)) (runT F tt) (qab F (cE g n (qaj C sc).1 elt))))=dNo:=λow=>by
    unfold qiG
    split<;>rfl
   show PE X _ (tE M E (qiG _ (qcm x _ _ dNo _ _ _)))/\∀(i:Nat)(y:Str)(py spos:Pos),_->_->_->_->PS X _ (tS M E (qnm i (qiG _ (qcm x _ _ dNo _ _ _))));rw[e];exact no
 rcases ifs with _|⟨t,_|⟨u,r⟩⟩
 ·exact go none λY E' cc=>qmg
 ·exact go (some (cE g n (qaj C sc).1 t)) λY E' cc=>qsk (IH.t _ _ _ cc t)
 ·exact no
end
section
theorem qxc{x:Str}(h:qrp x=some b):x=b.nm:=by
 have:=List.find?_some h
 grind
theorem qnJ{x:Str}{ty:String}(h:qq9 x ty=some b):x=b.nm:=by
 have:=List.find?_some h
 simp_all
theorem quZ{x:Str}{N:String}(h:qxp x=some N):x=Str.ofString N/\N∈["int", "bool", "str", "tuple", "list"]:=⟨(eq_of_beq (List.find?_some (p:=λN=>Str.ofString N==x) h)).symm,List.mem_of_find?_eq_some h⟩
theorem qwb{g:Gx}{m c:Str}{i:Nat}(h:(g.ms m).lookup c=some i):(c,i)∈g.ms m:=by
 generalize g.ms m=l at h⊢
 induction l with
 |nil=>cases h
 |cons q l ih=>
  obtain⟨y,j⟩:=q;rw[List.lookup_cons] at h;cases z:c==y with
  |true|false=>simp_all
theorem qq5(IH:Eo M g F k n)(c:Cok M g F k C X E)(hc:C.calm=true){f:Str}(hp:es.all qap=true)(hg:qiy C f=true):PE X (.Call (.Name f pp) es [] p) (tE M E (qab F (cCall g (n+1) C f es p))):=by
 obtain⟨cm,hr,ps⟩:=c.cm hc;obtain⟨gl,hd⟩:=c.gl hg;have args: ∀es:List Expr,es.all qap=true->PA X es (tA M E (runA F (es.map (cE g n C)))):=λes h=>qaV (λe _=>IH.e C X E c e) h;have bn: ∀{es:List Expr},es.all qap=true->es≠[]->qc0 C f=true->PE X (.Call (.Name f pp) es [] p) (tE M E (qab F (match qrp f with|some b=>.bn (g.own p) b (es.map (cE g n C))|none=>.no))):=λ{es} hp hn hb=>by
  split
  ·rename_i b eb;have e:=qxc eb;subst e;cases es with
   |nil=>exact absurd rfl hn
   |cons e es=>have aj:=hp;rw[List.all_cons,Bool.and_eq_true] at aj;obtain⟨b1,b2,b3⟩:=c.blt hb;exact qwY b c.un cm c.K b1 b2 (args _ hp) (qbM aj.1) (qa6 aj.2)
  ·exact qan
 unfold cCall;split
 ·rename_i hf;have hf:=eq_of_beq hf;subst hf;split
  ·rename_i a body sc lp;split
   ·rename_i ht;rw[Bool.and_eq_true,Bool.not_eq_true'] at ht;exact qan
   ·exact qan
  ·exact qan
 split
 ·exact qan
 ·rename_i dz;have dz:f.cps.contains 46=false:=by simpa using dz
  split
  ·rename_i i hi;obtain⟨fa,fd,cQ,m,kp,bd,fo⟩:=c.gf.fn f i hi dz;have fA:qcC X.prog X.w X.K X.mg X.base (CXE X.prog X.w) (8*k) fa fd cQ (spF M (F i)):=by rw[c.K];exact fo
   cases es with
   |nil=>exact qnl fA (hr.mono (by omega)) gl m (by rw[c.K];exact kp) (by rw[c.K];exact bd) ps hd
   |cons e es=>have aj:=hp;rw[List.all_cons,Bool.and_eq_true] at aj;exact qqQ fA (hr.mono (by omega)) gl m (by rw[c.K];exact kp) (by rw[c.K];exact bd) ps (args _ hp) hd (qbM aj.1) (qa6 aj.2)
  ·split
   ·rename_i hcl;split
    ·rename_i i hi;obtain⟨fa,fd,cQ,m,mk,fo,bd⟩:=c.gf.mkc f i hcl hi;have fA:qcC X.prog X.w X.K X.mg X.base (CXE X.prog X.w) (8*k) fa fd cQ (spF M (F i)):=by rw[c.K];exact fo
     cases es with
     |nil=>exact qnj rfl (by rw[c.K];exact mk) fA hr gl m (by rw[c.K];exact bd) ps hd
     |cons e es=>have aj:=hp;rw[List.all_cons,Bool.and_eq_true] at aj;exact qqN rfl (by rw[c.K];exact mk) fA hr gl m (by rw[c.K];exact bd) ps (args _ hp) hd (qbM aj.1) (qa6 aj.2)
    ·exact qan
   ·split
    ·rename_i hb;split
     ·rename_i e x xp;split
      ·rename_i hf;have hf:=eq_of_beq hf;subst hf;split
       ·rename_i N hN;split
        ·rename_i f6;obtain⟨e1,e2⟩:=quZ hN;obtain⟨b1,b2,b3⟩:=c.blt hb;obtain⟨d1,d2,d3⟩:=c.blt f6;rw[List.all_cons,Bool.and_eq_true] at hp;exact qqO e2 e1 c.K b1 b2 d1 d2 (IH.e C X E c e) (qbM hp.1) (qbM rfl) (qa6 hp.2)
        ·exact qan
       ·exact qan
      ·exact bn hp (by simp) hb
     ·rename_i s sp a ap;split
      ·rename_i hs;simp only[Bool.and_eq_true] at hs;have es:=eq_of_beq hs.1.1;subst es;obtain⟨d1,d2,d3⟩:=c.blt hs.1.2;obtain⟨b1,b2,b3⟩:=c.blt hb;split
       ·rename_i hf;have hf:=eq_of_beq hf;subst hf;exact qqK cm c.K b1 b2 d1 d2 (IH.e C X E c a) (qbM hs.2)
       ·split
        ·rename_i hf;have hf:=eq_of_beq hf;subst hf;exact qan
        ·exact qan
      ·exact bn hp (by simp) hb
     ·rename_i o m ap q;split
      ·rename_i hs;simp only[Bool.and_eq_true] at hs;obtain⟨⟨⟨h1,h2⟩,h3⟩,h4⟩:=hs;have h1:=eq_of_beq h1;have h2:=eq_of_beq h2;subst h1;subst h2;obtain⟨b1,b2,b3⟩:=c.blt hb;exact qan
      ·exact bn hp (by simp) hb
     ·exact qan
     ·rename_i h1 h2 h3 h4;exact bn hp h4 hb
    ·exact qan
theorem qwo(IH:Eo M g F k n)(c:Cok M g F k C X E)(tg e:Expr):PI X tg e (tI M E (runI F (cI g (n+1) C tg e))):=by
 have gen:PI X tg e (tI M E (runI F (.gen (cE g n C e)))):=qtS (IH.e C X E c e) c.K;unfold cI;split
 case isFalse=>exact qdm
 split
 ·rename_i f fp es p _;split
  ·rename_i hf;have hf:=eq_of_beq hf;subst hf;split
   ·rename_i hb;rw[Bool.and_eq_true] at hb;obtain⟨b1,b2,b3⟩:=c.blt hb.1;have args:PA X es (tA M E (runA F (es.map (cE g n C)))):=qaV (λe _=>IH.e C X E c e) hb.2;have hp:=hb.2;split
    ·rename_i a;rw[List.all_cons,Bool.and_eq_true] at hp;exact qkY b1 b2 args (qbM hp.1)
    ·rename_i a b;rw[List.all_cons,Bool.and_eq_true,List.all_cons,Bool.and_eq_true] at hp;exact qdm
    ·exact qdm
   ·exact qdm
  ·split
   ·rename_i hf;have hf:=eq_of_beq hf;subst hf;split
    ·rename_i hb;simp only[Bool.and_eq_true] at hb;obtain⟨b1,b2,b3⟩:=c.blt hb.1.1;have args:PA X es (tA M E (runA F (es.map (cE g n C)))):=qaV (λe _=>IH.e C X E c e) hb.1.2;have hp:=hb.1.2;have ht:=hb.2;cases tg with
     |Tuple ts kk tp=>
      split
      ·rename_i a;rw[List.all_cons,Bool.and_eq_true] at hp;exact qdm
      ·exact qdm
     |_=>cases ht
    ·exact qdm
   ·split
    ·rename_i hf;have hf:=eq_of_beq hf;subst hf;split
     ·rename_i hb;simp only[Bool.and_eq_true] at hb;obtain⟨b1,b2,b3⟩:=c.blt hb.1.1;have args:PA X es (tA M E (runA F (es.map (cE g n C)))):=qaV (λe _=>IH.e C X E c e) hb.1.2;have hp:=hb.1.2;have ht:=hb.2;cases tg with
      |Tuple ts kk tp=>
       split
       ·rename_i a b;rw[List.all_cons,Bool.and_eq_true] at hp;exact qtR b1 b2 args c.K (qbM hp.1) (qa6 hp.2)
       ·exact qdm
      |_=>cases ht
     ·exact qdm
    ·exact gen
 ·exact gen
end
section
theorem qoN(h: ∀e,PE X e (tE M E (qab F (f e)))): ∀es:List Expr,PE X (.BoolOp .And es pos) (tE M E (qab F (qhO (es.map f))))
 |[]=>qan
 |[a]=>h a
 |a::b::r=>qt2 (h a) (qoN h _)
theorem qsw(h: ∀e,PE X e (tE M E (qab F (f e)))): ∀es:List Expr,PE X (.BoolOp .Or es pos) (tE M E (qab F (qms (es.map f))))
 |[]=>qan
 |[a]=>h a
 |a::b::r=>qwW (h a) (qsw h _)
theorem qlx(h: ∀e,PT X e (tT M E (dTB (qab F (f e))))): ∀es:List Expr,PW X (.BoolOp .And es pos) (tT M E (dTB (qab F (qhO (es.map f)))))
 |[]=>(by rintro _ _ _ _ _ _ _ ⟨_,_,_,_,w⟩;exact w.elim)
 |[a]=>qqA (h a)
 |a::b::r=>by show PW X _ (tT M E (dTB (qnp _ _)));rw[qrz];exact qtJ (h a) (qlx h _)
theorem qn9(h: ∀e,PT X e (tT M E (dTB (qab F (f e))))): ∀es:List Expr,PW X (.BoolOp .Or es pos) (tT M E (dTB (qab F (qms (es.map f)))))
 |[]=>(by rintro _ _ _ _ _ _ _ ⟨_,_,_,_,w⟩;exact w.elim)
 |[a]=>qtI (h a)
 |a::b::r=>by show PW X _ (tT M E (dTB (quT _ _)));rw[qu2];exact qwR (h a) (qn9 h _)
theorem qhi(h: ∀e,PE X e (tE M E (qab F (f e)))): ∀o:Option Expr,PO X o (tO M E (runO F (o.map f)))
 |none=>qqF
 |some e=>qkV (h e)
theorem qp7(IH:Eo M g F k n)(c:Cok M g F k C X E){m:Str}(h:(qcc o&&es.all qap&&decide (es.length<30))=true)(hl:(ap.endLine==p.line)=true):
  PE X (.Call (.Attribute o m ap) es [] p) (tE M E (qab F (match qq9 m "list",qq9 m "dict" with
     |some b,some d=>.alt (.bm (g.own p) b (cE g n C o) (es.map (cE g n C))) (.bm (g.own p) d (cE g n C o) (es.map (cE g n C)))
     |some b,none=>.bm (g.own p) b (cE g n C o) (es.map (cE g n C))
     |none,some d=>.bm (g.own p) d (cE g n C o) (es.map (cE g n C))
     |none,none=>if C.calm then .mth (g.ms m) m (cE g n C o) (es.map (cE g n C)) else .no))):=by
 simp only[Bool.and_eq_true,decide_eq_true_eq] at h;obtain⟨⟨h1,h2⟩,h3⟩:=h;have args:PA X es (tA M E (runA F (es.map (cE g n C)))):=qaV (λe _=>IH.e C X E c e) h2;have bm: ∀b:Bm,m=b.nm->PE X (.Call (.Attribute o m ap) es [] p) (tE M E (qab F (.bm (g.own p) b (cE g n C o) (es.map (cE g n C))))):=λb e=>by
  subst e;cases es with
  |nil=>exact qt1 b c.un c.K (IH.e C X E c o) (qex h1) hl
  |cons e es=>have aj:=h2;rw[List.all_cons,Bool.and_eq_true] at aj;exact qwZ b c.un c.K (IH.e C X E c o) args (qex h1) (qou h2 h3) hl (qbM aj.1) (qa6 aj.2)
 split
 ·rename_i e1 e2;exact qt3 (bm _ (qnJ e1)) (bm _ (qnJ e2))
 ·rename_i e1 e2;exact bm _ (qnJ e1)
 ·rename_i e1 e2;exact bm _ (qnJ e2)
 ·split
  ·rename_i hc;obtain⟨cm,hr,ps⟩:=c.cm hc;have hM: ∀c' f,((g.ms m).lookup c').map F=some f->qdh X (CXE X.prog X.w) (clA M.K c') m (spF M f):=λc' f e=>by obtain⟨i,e1,rfl⟩:=qar e;obtain⟨fa,fd,cQ,a1,a2,a3,a4⟩:=c.gf.mt m c' i (qwb e1);exact⟨fa,fd,cQ,8*k,by rw[c.K];exact a1,by rw[c.K];exact a2,by rw[c.K];exact a3,hr.mono (by omega),by rw[c.K];exact a4⟩
   cases es with
   |nil=>exact qni hM (IH.e C X E c o) ps (qj2 h1 h2 h3 hl)
   |cons e es=>have aj:=h2;rw[List.all_cons,Bool.and_eq_true] at aj;exact qqM hM (IH.e C X E c o) ps args (qbM aj.1) (qa6 aj.2) (qj2 h1 h2 h3 hl)
  ·exact qan
theorem qcG(h:qo0 g C b=some tbl): ∃D p,b= .Name D p/\qiy C D=true/\g.dt.lookup D=some tbl:=by
 cases b with
 |Name D p=>
  have h:(if qiy C D then g.dt.lookup D else none)=some tbl:=h
  simp_all
 |_=>cases h
theorem qe2(h:qsU o=some neg):o=if neg=true then .NotIn else .In:=by cases o<;>first|(cases h;done)|(cases h;rfl)
theorem qq0(c:Cok M g F k C X E)(ha:PE X a (tE M E (qab F ca)))(hb:PE X b (tE M E (qab F cb)))(h:qbu b=true):PE X (.Compare a [o] [b] pos) (tE M E (qab F (qq7 g C o b ca cb))):=by
 unfold qq7;split
 ·rename_i tbl neg e1 e2;obtain⟨D,p,rfl,hg,hd⟩:=qcG e1;obtain⟨gl,aA⟩:=c.gl hg;rw[qe2 e2];exact qng (by rw[c.K];exact c.gf.dt D tbl hd) gl ha aA neg
 ·exact PE.weakF (qf1 (qdJ c.un c.K _) ha hb (qhk h)) λ_ _ _ cq q=>qea qct.b cq q
theorem qnw(c:Cok M g F k C X E)(ha:PE X a (tE M E (qab F ca)))(hb:PE X b (tE M E (qab F cb)))(h:qbu b=true):PT X (.Compare a [o] [b] pos) (tT M E (dTB (qab F (qq7 g C o b ca cb)))):=by
 unfold qq7;split
 ·rename_i tbl neg e1 e2;obtain⟨D,p,rfl,hg,hd⟩:=qcG e1;obtain⟨gl,aA⟩:=c.gl hg;rw[qe2 e2];exact qm8 (by rw[c.K];exact c.gf.dt D tbl hd) gl ha aA neg
 ·exact PT.weak (qfZ (qdJ c.un c.K o) ha hb (qhk h)) λ_ _ _ q=>qea qct.b qq2 (qcH q)
theorem qtc(c:Cok M g F k C X E)(ha:PE X a (tE M E (qab F ca)))(hb:PE X b (tE M E (qab F cb)))(h:qjY b=true):PE X (.Subscript a b pos) (tE M E (qab F (cIx g C ow a b ca cb))):=by
 unfold cIx;split
 ·rename_i tbl e1;obtain⟨D,p,rfl,hg,hd⟩:=qcG e1;obtain⟨gl,aA⟩:=c.gl hg;exact qk0 (by rw[c.K];exact c.gf.dt D tbl hd) gl hb c.K (λ_ _=>by cases b<;>first|rfl|cases h) aA
 ·exact PE.weakF (qvM (qyG (by have:=c.un;omega) c.K) ha hb (qid h)) λ_ _ _ cq q=>qea qct.b cq q
theorem qtz{g:Gx}{x:Str}{i:Nat}(h:g.fns.lookup x=some i):g.fi x=some i/\x.cps.contains 46=false:=by
 have hm:(x,i)∈g.fns:=by
  generalize g.fns=l at h
  induction l with
  |nil=>cases h
  |cons q l ih=>
   obtain⟨y,j⟩:=q;rw[List.lookup_cons] at h;cases z:x==y with
   |true|false=>simp_all
 obtain⟨j,_,e⟩:=List.mem_filterMap.mp hm;obtain⟨p,e1,e2⟩:=bind_some e
 grind
theorem qnC{C:Cc}(IH:Eo M g F k n)(c:Cok M g F k C X E){f:Str}{es:List Expr}(hp:es.all qap=true)(hc:C.calm=true):PE X (.Call (.Name f pp) es [] p) (tE M E (qab F (qhI g C f (es.map (cE g n C))))):=by
 obtain⟨cm,hr,ps⟩:=c.cm hc;unfold qhI;split
 ·exact qan
 ·rename_i hd;have hd:=by simpa only[Bool.or_eq_true,not_or,Bool.not_eq_true] using hd
  split
  ·rename_i hv;split
   ·rename_i i hi;cases es with
    |nil=>cases hd.2
    |cons e es=>have aj:=hp;rw[List.all_cons,Bool.and_eq_true] at aj;refine qnk (kk:=8*k) (λy fT e=> ?_) c.K (hr.mono (by omega)) (qn7 (by rw[c.N];exact qbH hi) (by rw[c.sc];exact qnS hv) hd.1.1 hd.1.2) ps (qaV (λe _=>IH.e C X E c e) hp) (qbM aj.1) (qa6 aj.2);obtain⟨j,e1,rfl⟩:=qar e;obtain⟨h1,h2⟩:=qtz e1;obtain⟨fa,fd,cQ,m,kp,bd,fo⟩:=c.gf.fn y j h1 h2;exact⟨fa,fd,cQ,m,by rw[c.K];exact kp,by rw[c.K];exact bd,by rw[c.K];exact fo⟩
   ·exact qan
  ·exact qan
theorem qzd(IH:Eo M g F k n)(fq: ∀C X E,Cok M g F k C X E->∀(x:Bool),x=false->∀elt tg iter ifs sc p,PE X (.ListComp elt [⟨tg,iter,ifs,0⟩] sc p) (tE M E (qab F (cComp g n C x elt tg iter ifs sc p))))(c:Cok M g F k C X E)(e:Expr):PE X e (tE M E (qab F (cE g (n+1) C e))):=by
 have ih:=IH.e C X E c;have cB:=IH.t C X E c;cases e with
 |Constant cc kk p=>
  cases cc with
  |none=>exact qt0 qsp λB=>qcf
  |bool b=>exact qt0 qvO λB=>qa2
  |int i=>exact qt0 qsr λB=>qaN
  |str s=>exact qt0 qn8 λB=>qce
  |_=>exact qan
 |Name x p=>exact qp2 c
 |Tuple es kk p=>
  show PE X _ (tE M E (qab F (if es.all qap then .tup (es.map (cE g n C)) else .no)));split
  ·rename_i h;exact qtW (qaV (λe _=>ih e) h)
  ·exact qan
 |List es p=>
  show PE X _ (tE M E (qab F (if es.all qap then .lst (g.own p) (es.map (cE g n C)) else .no)));split
  ·rename_i h;show PE X _ (tE M E (qiG _ _));unfold qiG;split
   ·exact qqL (qoz (qaV (λe _=>ih e) h))
   ·exact qqP (qoz (qaV (λe _=>ih e) h))
  ·exact qan
 |Dict ks vs p=>
  cases ks with
  |nil=>
   cases vs with
   |nil=>
    show PE X _ (tE M E (qiG _ _));unfold qiG;split
    ·exact qqL qkW
    ·exact qqP qkW
   |cons _ _=>exact qan
  |cons _ _=>exact qan
 |BinOp a op b p=>
  show PE X _ (tE M E (qab F (match qv4 op with|some o=>.o2 (g.own p) o (cE g n C a) (cE g n C b)|none=>.no)));split
  ·rename_i o ho;exact PE.weakF (qvL (bin_ok c.K ho) (ih _) (ih _)) λ_ _ _ cq q=>qea qct.b cq q
  ·exact qan
 |UnaryOp op a p=>
  cases op with
  |Not=>exact qtX (ih _)
  |USub=>exact qtY (ih _)
  |_=>exact qan
 |BoolOp op es p=>
  cases op with
  |And=>exact qoN ih _
  |Or=>exact qsw ih _
 |IfExp t a b p=>exact qwX (cB _) (ih _) (ih _)
 |Compare a ops bs p=>
  match ops,bs with
  |[o],[b]=>
   show PE X _ (tE M E (qab F (if qbu b then qq7 g C o b (cE g n C a) (cE g n C b) else .no)));split
   ·rename_i h;exact qq0 c (ih _) (ih _) h
   ·exact qan
  |[o,q],[b,d]=>
   show PE X _ (tE M E (qab F (if qbu d then .chain (qoL o) (qoL q) (cE g n C a) (cE g n C b) (cE g n C d) else .no)));split
   ·rename_i h;exact PE.weakF (qmp (qdJ c.un c.K _) (qdJ c.un c.K _) (ih _) (ih _) (ih _) (qdw h)) λ_ _ _ cq q=>qdL cq q
   ·exact qan
  |[],_=>exact qan
  |[o],[]=>exact qan
  |[o],_::_::_=>exact qan
  |[o,q],[]=>exact qan
  |[o,q],[_]=>exact qan
  |[o,q],_::_::_::_=>exact qan
  |_::_::_::_,_=>exact qan
 |Subscript a b p=>
  cases b with
  |Slice lo hi st q=>
   cases st with
   |none=>exact qnh c.K (ih _) (qhi ih _) (qhi ih _)
   |some st=>exact qk1 c.K (ih _) (qhi ih _) (qhi ih _) (qkV (ih _))
  |_=>exact qtc c (ih _) (ih _) rfl
 |Attribute a f p=>
  show PE X _ (tE M E (qab F (if qcc a then .fld (g.fls f) f (cE g n C a) else .no)));split
  ·rename_i h;exact qtZ c.K (λc' cK=>c.gf.fl _ c' cK) (ih _) (qex h)
  ·exact qan
 |Call f es cA p=>
  cases f with
  |Attribute o m ap=>
   cases cA with
   |nil=>
    show PE X _ (tE M E (qab F (if(qcc o&&es.all qap&&decide (es.length<30))&&ap.endLine==p.line then
    (match qq9 m "list",qq9 m "dict" with
     |some b,some d=>.alt (.bm (g.own p) b (cE g n C o) (es.map (cE g n C))) (.bm (g.own p) d (cE g n C o) (es.map (cE g n C)))
     |some b,none=>.bm (g.own p) b (cE g n C o) (es.map (cE g n C))
     |none,some d=>.bm (g.own p) d (cE g n C o) (es.map (cE g n C))
     |none,none=>if C.calm then .mth (g.ms m) m (cE g n C o) (es.map (cE g n C)) else .no) else .no)))
    split
    ·rename_i h;rw[Bool.and_eq_true] at h;exact qp7 IH c h.1 h.2
    ·exact qan
   |cons _ _=>exact qan
  |Name f fp=>
   cases cA with
   |nil=>
    have go:PE X (.Call (.Name f fp) es [] p) (tE M E (qab F (if(es.all qap&&C.calm)&&qiy C f then cCall g n C f es p else if es.all qap&&C.calm then qhI g C f (es.map (cE g n C)) else .no))):=by
     split
     ·rename_i h;simp only[Bool.and_eq_true] at h;exact IH.c C X E c h.1.2 _ _ _ _ h.1.1 h.2
     ·split
      ·rename_i h;rw[Bool.and_eq_true] at h;exact qnC IH c h.1 h.2
      ·exact qan
    match es,go with
    |[],go=>exact go
    |[_],go=>exact go
    |_::_::_,go=>exact go
   |cons kw cA=>
    obtain⟨ka,v,kp⟩:=kw
    match es with
    |[]=>exact qan
    |_::_::_=>exact qan
    |[e]=>
     cases ka with
     |none=>cases cA<;>exact qan
     |some kw=>
      cases v with
      |Lambda a body sc lp=>
       cases cA with
       |nil=>
        show PE X _ (tE M E (qab F (if f== "sorted" &&kw== "key" &&qc0 C f&&qap e then(match qkg C a sc with
    |some x=>(match qxN x body with|some b=>.no|none=>.no)
    | none=>.no) else .no)))
        split
        ·rename_i h;split
         ·rename_i x hx;split
          ·rename_i b hb;exact qan
          ·exact qan
         ·exact qan
        ·exact qan
       |cons _ _=>exact qan
      |_=>cases cA<;>exact qan
  |_=>exact qan
 |ListComp elt gs sc p=>
  cases gs with
  |nil=>exact qan
  |cons gg gs=>
   obtain⟨tg,iter,ifs,as⟩:=gg;cases gs with
   |nil=>
    cases as with
    |ofNat m=>
     cases m with
     |zero=>exact fq C X E c _ rfl _ _ _ _ _ _
     |succ m=>exact qan
    |negSucc m=>exact qan
   |cons _ _=>
    cases as with
    |ofNat m=>cases m<;>exact qan
    |negSucc m=>exact qan
 |_=>exact qan
theorem qyi(IH:Eo M g F k n)(he:PE X e (tE M E (qab F (cE g (n+1) C e))))(c:Cok M g F k C X E):PT X e (tT M E (dTB (qab F (cE g (n+1) C e)))):=by
 have ih:=IH.e C X E c;have cB:=IH.t C X E c;cases e with
 |UnaryOp op a p=>
  cases op with
  |Not=>show PT X _ (tT M E (dTB (qnn _)));rw[qry];exact qtL (cB a)
  |_=>exact qow he λ_=>rfl
 |BoolOp op es p=>
  cases op with
  |And=>exact(qlx cB es).pt
  |Or=>exact(qn9 cB es).pt
 |IfExp t a b p=>show PT X _ (tT M E (dTB (qiI _ _ _)));rw[qu3];exact PT.weak (qsa (cB t) (cB a) (cB b)) λ_ _ _ q=>qei q
 |Compare a ops bs p=>
  have no:PT X (.Compare a ops bs p) (tT M E (dTB (qab F .no))):=(by rintro _ _ _ _ _ _ ⟨_,_,_,_,w⟩;exact w.elim)
  match ops,bs,no with
  |[o],[b],no=>
   show PT X _ (tT M E (dTB (qab F (if qbu b then qq7 g C o b (cE g n C a) (cE g n C b) else .no))));split
   ·rename_i h;exact qnw c (ih a) (ih b) h
   ·exact no
  |[o,q],[b,d],no=>
   show PT X _ (tT M E (dTB (qab F (if qbu d then .chain (qoL o) (qoL q) (cE g n C a) (cE g n C b) (cE g n C d) else .no))));split
   ·rename_i h;exact PT.weak (qmc (qdJ c.un c.K o) (qdJ c.un c.K q) (ih a) (ih b) (ih d) (qdw h)) λ_ _ _ q=>qdL qq2 (qcH q)
   ·exact no
  |[],_,no=>exact no
  |[o],[],no=>exact no
  |[o],_::_::_,no=>exact no
  |[o,q],[],no=>exact no
  |[o,q],[_],no=>exact no
  |[o,q],_::_::_::_,no=>exact no
  |_::_::_::_,_,no=>exact no
 |_=>exact qow he λ_=>rfl
theorem qkS(M:Md)(g:Gx)(F:Fs)(k:Nat): ∀n,Eo M g F k n/\(∀C X E,Cok M g F k C X E->∀(x:Bool),x=false->∀elt tg iter ifs sc p,PE X (.ListComp elt [⟨tg,iter,ifs,0⟩] sc p) (tE M E (qab F (cComp g n C x elt tg iter ifs sc p)))/\
  ∀(i:Nat)(y:Str)(py spos:Pos),x=false->X.N[i]? =some y->C.sc.names.lookup y=some .local->swapsWith (.ListComp elt [⟨tg,iter,ifs,0⟩] sc p) (some (.Name y py)) spos.line X.env=pure true->
   PS X (.Assign [.Name y py] (.ListComp elt [⟨tg,iter,ifs,0⟩] sc p) spos) (tS M E (qnm i (qab F (cComp g n C x elt tg iter ifs sc p)))))
 |0=>⟨⟨λC X E c e=>qan,(by rintro C X E c e _ _ _ _ _ _ ⟨_,_,_,_,w⟩;exact w.elim),λC X E c _ f es p pp _ _=>qan,λC X E c tg it=>qdm⟩,λC X E c x hx elt tg iter ifs sc p=>⟨qan,(by rintro _ _ _ _ _ _ _ _ _ _ _ _ _ _ ⟨_,_,_,_,w⟩;exact w.elim)⟩⟩
 |n+1=>by obtain⟨IH,hc⟩:=qkS M g F k n;have he: ∀C X E,Cok M g F k C X E->∀e,PE X e _:=λC X E c e=>qzd IH (λC X E c x hx elt tg iter ifs sc p=>(hc C X E c x hx elt tg _ ifs sc p).1) c e;exact⟨⟨he,λC X E c e=>qyi IH (he C X E c e) c,λC X E c hc f es p pp hp hg=>qq5 IH c hc hp hg,λC X E c tg it=>qwo IH c tg it⟩,λC X E c x hx elt tg iter ifs sc p=>qqV IH c hx⟩
end
section
variable{M:Md}{g:Gx}{F:Fs}{k n:Nat}{C:Cc}{X:Cx}{E:XK}
theorem qwP{x:Str}(h:(g.ex.map (·.1)).contains x=true): ∃bs,(x,bs)∈g.ex:=by
 simp_all
theorem ql3{is:List Nat}{ts:List T}{ρ ρ':Ro}(h:qbf is ts ρ=some ρ'):is.length=ts.length:=by
 induction is generalizing ts ρ with
 |nil=>cases ts with
  |nil=>rfl
  |cons _ _=>cases h
 |cons i is ih=>cases ts with
  |nil=>cases h
  |cons t ts=>simp[ih h]
theorem qkj{N:List Str}: ∀{xs:List Str}{is:List Nat},qqf N xs=some is->is.length=xs.length/\∀(j:Nat)(x:Str)(i:Nat),xs[j]? =some x->is[j]? =some i->N[i]? =some x
 |[],is,h=>by cases h;simp
 |x::xs,is,h=>by
  obtain⟨i,e1,e2⟩:=bind_some h;obtain⟨bY,e3,rfl⟩:=qar e2;obtain⟨a,b⟩:=qkj e3;refine⟨by simp[a],λj y q e4 e5=> ?_⟩;cases j with
  |zero=>cases e4;cases e5;exact qbH e1
  |succ j=>exact b j y q (by simpa using e4) (by simpa using e5)
theorem qka{line:Nat}: ∀{ts:List Expr}{xs:List Str},qbr C line ts=some xs->ts.length=xs.length/\(∀x∈xs,C.sc.names.lookup x=some .local)/\∃ps:List Pos,ps.length=xs.length/\ts=(xs.zip ps).map (λq=>Expr.Name q.1 q.2)/\∀p∈ps,p.line=line
 |[],xs,h=>by cases h;exact⟨rfl,(λ_ h=>nomatch h),[],rfl,rfl,λ_ h=>nomatch h⟩
 |e::ts,xs,h=>by
  cases e with
  |Name x p=>
   have h:(if decide (C.sc.names.lookup x=some .local)&&p.line==line then(qbr C line ts).map (x:: ·) else none)=some xs:=h;split at h
   ·rename_i hc;rw[Bool.and_eq_true] at hc;obtain⟨ys,e1,rfl⟩:=qar h;obtain⟨a,b,ps,d,e,f⟩:=qka e1;refine⟨by simp[a],λy hy=> ?_,p::ps,by simp[d],by rw[e];rfl,λq hq=> ?_⟩
    ·grind
    grind
   ·cases h
  |_=>cases h
theorem qhJ{env:Env}{sc:Scope}(h:env.scope=sc)(hk:sc.kind= .function):env.blockKind= .function:=by unfold Env.blockKind;rw[h,hk];rfl
theorem qb2{vs:List Expr}(hp:vs.all qap=true)(hv:v∈vs): ∀a b,v≠.Starred a b:=λa b e=>by have:=List.all_eq_true.mp hp v hv;rw[e] at this;cases this
theorem qtB{α β:Type}{f:α->Option β}: ∀{l:List α},(∃a∈l,f a=none)->(l.filterMap f).length<l.length
 |[],⟨_,h,_⟩=>nomatch h
 |b::l,⟨a,h,e⟩=>by
  have le:=List.length_filterMap_le f l
  rcases List.mem_cons.mp h with rfl|h
  ·grind
  ·have:=qtB ⟨a,h,e⟩
   grind
theorem qhZ{ts vs:List Expr}{kt kv:Nat}{pt pv:Pos}(cj:X.env.scope=C.sc)(h:ts.any (qjX C)=true):swappedStores [.Tuple ts kt pt] (.Tuple vs kv pv) X.env=pure none:=by
 obtain⟨a,ha,hn⟩:=List.any_eq_true.mp h;unfold swappedStores;dsimp only;split
 ·rfl
 split
 ·rfl
 rw[if_pos];refine Bool.or_eq_true_iff.mpr (.inl (bne_iff_ne.mpr (Vo (qtB ⟨a,ha,?_⟩))));cases a with
 |Name x p=>
  have e:(X.env.kindOf x==some NameKind.local)=false:=by show(X.env.scope.names.lookup x==some NameKind.local)=false;rw[cj];have hn:(!decide (C.sc.names.lookup x=some .local))=true:=hn;simpa using hn
  simp only[e,Bool.false_and,Bool.false_eq_true,if_false]
 |_=>rfl
theorem qlW{x y:Str}{px py pt pv:Pos}{a b:Expr}{kt kv:Nat}(cj:X.env.scope=C.sc)(hk:C.sc.kind= .function)(hp:[a,b].all qap=true)(hx:C.sc.names.lookup x=some .local)(hy:C.sc.names.lookup y=some .local)(hl:py.line=px.line)(hd:([x,y].eraseDups.length==[x,y].length)=true)(hf:[a,b].all (foldedForSure 8)=false)(hc:[a,b].all (constantsAlone 8)=false):swappedStores [.Tuple [.Name x px,.Name y py] kt pt] (.Tuple [a,b] kv pv) X.env=pure (some [x,y]):=by
 have e1:X.env.kindOf x=some .local:=by unfold Env.kindOf;rw[cj];exact hx
 have e2:X.env.kindOf y=some .local:=by unfold Env.kindOf;rw[cj];exact hy
 have hb:=qhJ cj hk;have s1: ∀p q,a≠.Starred p q:=qb2 hp (by simp);have s2: ∀p q,b≠.Starred p q:=qb2 hp (by simp);have hs:([a,b].any λ| .Starred .. =>true|_=>false)=false:=by rw[List.any_eq_false];intro e he h;have ne:=qb2 hp he;cases e<;>first|(cases h;done)|exact absurd rfl (ne _ _)
 unfold swappedStores;simp only[List.head?_cons,Option.map_some,Option.getD_some,Expr.pos,hb,List.length_cons,List.length_nil,List.filterMap_cons,List.filterMap_nil,e1,e2,hl,beq_self_eq_true,Bool.and_self,if_true];have dA:([x,y].eraseDups.length != 2)=false:=by have:([x,y].eraseDups.length==2)=true:=hd;simp only[bne,this,Bool.not_true]
 rw[if_neg (by decide),if_neg (λh=>by have h':([a,b].any λ| .Starred .. =>true|_=>false)=true:=h;rw[hs] at h';cases h'),if_neg (λh=>by
  have h':(false||([x,y].eraseDups.length != 2))=true:=h;rw[dA] at h';cases h'),hf,hc]
 rfl
theorem qee{α:Type}{l:List α}(h:l.length=2): ∃a b,l=[a,b]:=match l,h with|[a,b],_=>⟨a,b,rfl⟩
theorem qsv{is:List Nat}{es:List CE}{ts vs:List Expr}{kt kv:Nat}{pt pv pos:Pos}{cs:CS}(c:Cok M g F k C X E)(he: ∀e,PE X e (tE M E (qab F (cE g n C e))))(h:qut g n C ts vs=some cs):PS X (.Assign [.Tuple ts kt pt] (.Tuple vs kv pv) pos) (tS M E (qaM F cs)):=by
 unfold qut at h;split at h
 case isFalse=>cases h
 rename_i hc;simp only[Bool.and_eq_true,Bool.not_eq_true'] at hc;obtain⟨⟨⟨⟨⟨⟨h1,h2⟩,h3⟩,h4⟩,h5⟩,h6⟩,h7⟩:=hc;obtain⟨xs,e1,e2⟩:=bind_some h;split at e2
 case isFalse=>cases e2
 rename_i jg;rw[Bool.and_eq_true] at jg;obtain⟨hd,nd⟩:=jg;have nd:xs.Nodup:=of_decide_eq_true nd;obtain⟨is,e3,rfl⟩:=qar e2;obtain⟨l1,dj,ps,l2,rfl,ax⟩:=qka e1;obtain⟨l3,hN⟩:=qkj e3;have hv:=eq_of_beq h2;have args:PA X vs (tA M E (runA F (vs.map (cE g n C)))):=qaV (λe _=>he e) h3;have hnd:X.N.Nodup:=by rw[c.N];exact c.nd
 have inj: ∀{i j:Nat}{x y:Str},X.N[i]? =some x->X.N[j]? =some y->x≠y->i≠j:=λe1 e2 n z=>by subst z;rw[e1] at e2;exact n (Option.some.inj e2)
 have lk: ∀x,x∈xs->X.env.scope.names.lookup x=some .local:=λx hx=>by rw[c.sc];exact dj x hx
 have z2:xs.length=2:=by rw[<-l1];exact eq_of_beq h1
 rw[l1] at hv;obtain⟨cm,_,_⟩:=c.cm h4
 ·obtain⟨x,y,rfl⟩:=qee z2;obtain⟨px,py,rfl⟩:=qee (l2.trans z2);obtain⟨i,j,rfl⟩:=qee (l3.trans z2);obtain⟨a,b,rfl⟩:=qee (hv.trans z2);have nx:X.N[i]? =some x:=by rw[c.N];exact hN 0 x i rfl rfl
  have ny:X.N[j]? =some y:=by rw[c.N];exact hN 1 y j rfl rfl
  have hln:py.line=px.line:=(ax py (by simp)).trans (ax px (by simp)).symm;refine PS.weak (qse cm hnd nx ny (inj nx ny (by simp at nd;exact nd)) (lk _ (by simp)) (lk _ (by simp)) args (qlW c.sc (of_decide_eq_true h5) h3 (dj x (by simp)) (dj y (by simp)) hln hd h7 h6)) λD O H ⟨ρ,Z,B,ev,w⟩=>⟨ρ,Z,B,ev,(Wn.bind w).mono λts m w1 us H1 B1 h1 g1 r1=> ?_⟩
  change Wn M E H B (KS M H B D) (match qbf [i,j] ts ρ with|some ρ'=>.ok (.nx ρ') m|none=>.no) at w1
  split at w1
  ·rename_i ρ' er;have lt:=ql3 er
   match ts,lt,er,r1 with
   |[t,u],_,er,r1=>obtain⟨v,v',rfl,a1,a2⟩:=qeS r1;cases er;exact⟨v,v',rfl,w1 _ H1 B1 (((ev.on h1 g1.le).set a1).set a2) g1⟩
  ·exact w1.elim
end
section
theorem qgW{x:Str}(c:Cok M g F k C X E)(hk:decide (C.sc.kind= .function)=true):
  swapsWith (.ListComp elt gs sc q) (some (.Name x p)) line X.env=pure (qdX C (.ListComp elt gs sc q) x p):=by
 show(pure _)=_;unfold qdX;rw[qhJ c.sc (of_decide_eq_true hk),hk];unfold Env.kindOf;rw[c.sc];have hb:(C.sc.names.lookup x==some NameKind.local)=decide (C.sc.names.lookup x=some .local):=by grind
 rw[hb];rfl
theorem qrK(c:Cok M g F k C X E){x:Str}:PS X (.Assign [.Name x p] e pos) (tS M E (qaM F (qxb g n C x p e))):=by
 obtain⟨eo,hc⟩:=qkS M g F k n;unfold qxb;split
 case isFalse=>exact qaU
 rename_i hs;split
 ·exact qaU
 ·rename_i i hi;have hN:X.N[i]? =some x:=by rw[c.N];exact qbH hi
  have st:swapsWith e (some (.Name x p)) pos.line X.env=pure false->PS X (.Assign [.Name x p] e pos) (tS M E (qaM F (.set i (cE g n C e)))):=λh=>
   qtM (by rw[c.N];exact c.nd) hN (by rw[c.sc];exact qrE hs) (eo.e C X E c e) h (by rw[c.sc];exact c.fn x hs)
  split
  ·split
   ·rename_i hk;split
    ·rename_i bE;refine(hc C X E c false rfl _ _ _ _ _ _).2 i x p pos rfl hN ?_ (by rw[qgW c hk,bE]);unfold qdX at bE;simp only[Bool.and_eq_true,decide_eq_true_eq] at bE;exact bE.1.1.2
    ·rename_i bE;exact st (by rw[qgW c hk];simp only[Bool.not_eq_true] at bE;rw[bE])
   ·exact qaU
  ·split
   ·rename_i h;exact st (qcq h)
   ·exact qaU
theorem qvp(IH: ∀C X E,Cok M g F k C X E->∀bB,PSs X bB (tS M E (runSs F (cSs g n C bB))))(c:Cok M g F k C X E)(st:Stmt):PS X st (tS M E (qaM F (cS1 g (n+1) C st))):=by
 obtain⟨eo,hc⟩:=qkS M g F k n;have ih:=eo.e C X E c;have hn: ∀e:Expr,PE X e (tE M E (qab F (cE g n C e))):=ih;cases st with
 |Return v p=>
  cases v with
  |none=>exact qqC
  |some e=>exact qtN (ih _)
 |Pass p=>exact qqD
 |Break p=>exact qnb
 |Continue p=>exact qgm
 |Expr e p=>
  show PS X _ (tS M E (qaM F (if qgY e then .nx else if qdx e then .exp (cE g n C e) else .no)));split
  ·rename_i h;cases e with
   |Constant cc j q=>
    cases cc with
    |str s=>exact PS.weak qsh (by rintro D O H ⟨ρ,Z,B,ev,w⟩;exact w O H B ev .refl)
    |_=>cases h
   |_=>cases h
  ·split
   ·rename_i h;exact qqE (ih _) (qcq h)
   ·exact qaU
 |If t a b p=>exact qwS (eo.t C X E c _) (IH C X E c _) (IH C X E c _)
 |For tg it b els p=>
  cases els with
  |nil=>
   show PS X _ (tS M E (qaM F (if(C.top&&C.calm)&&qbu it then .for_ (cG C n tg) (cI g n C tg it) (cSs g n C b) else .no)));split
   ·rename_i h;simp only[Bool.and_eq_true] at h;exact qtP (c.tp h.1.1).ow (c.cm h.1.2).1 (eo.i C X E c _ _) (qji c n _) (IH C X E c _) (qeb h.2)
   ·exact qaU
  |cons _ _=>exact qaU
 |Assign ts e p=>
  match ts with
  |[]=>exact qaU
  |t::_::_=>cases t<;>exact qaU
  |[t]=>
   cases t with
   |Name x px=>exact qrK c
   |Attribute o f q=>exact qtQ c.K (λc' cK=>c.gf.fl _ c' cK) (ih _) (ih _) (qgX λ_ _ z=>by cases z)
   |Subscript o i q=>exact qtO (by have:=c.un;omega) (ih _) (ih _) (ih _) (qgX λ_ _ z=>by cases z)
   |Tuple ts kt pt=>
    have other:(∀vs kv pv,e≠.Tuple vs kv pv)->PS X (.Assign [.Tuple ts kt pt] e p) (tS M E (qaM F (if qdx e then .asg (cG C n (.Tuple ts kt pt)) (cE g n C e) else .no))):=λaN=>by
     split
     ·rename_i h;refine qox (ih _) (qji c n _) (qcq (t:=some (.Tuple ts kt pt)) (l:=p.line) (env:=X.env) h) ?_ rfl;cases e<;>first|rfl|exact(aN _ _ _ rfl).elim
     ·exact qaU
    cases e with
    |Tuple vs kv pv=>
     show PS X _ (tS M E (qaM F (if ts.any (qjX C) then .asg (cG C n (.Tuple ts kt pt)) (cE g n C (.Tuple vs kv pv)) else(qut g n C ts vs).getD .no)));split
     ·rename_i hn;exact qox (ih _) (qji c n _) (qcq (e:=.Tuple vs kv pv) (t:=some (.Tuple ts kt pt)) (l:=p.line) (env:=X.env) rfl) (qhZ c.sc hn) rfl
     cases hp:qut g n C ts vs with
     |none=>exact qaU
     |some cs=>exact qsv (is:=[]) (es:=[]) c ih hp
    |_=>exact other λ_ _ _ z=>by cases z
   |_=>exact qaU
 |Raise a b p=>
  cases a with
  |none=>exact qaU
  |some a=>
   cases a with
   |Call f es cA q=>
    cases f with
    |Name x np=>
     match es,cA,b with
     |[a],[],none=>
      show PS X _ (tS M E (qaM F (if C.top&&qiy C x&&(g.ex.map (·.1)).contains x&&qgY a then .raise x else .no)));split
      ·rename_i h;simp only[Bool.and_eq_true] at h;obtain⟨⟨⟨h1,h2⟩,h3⟩,h4⟩:=h;obtain⟨gl,hd⟩:=c.gl h2;cases a with
       |Constant cc j q1=>
        cases cc with
        |str s=>exact qna ((c.tp h1).rs x s j np q1 q p h3 gl hd)
        |_=>cases h4
       |_=>cases h4
      ·exact qaU
     |[],_,_=>exact qaU
     |_::_::_,_,_=>exact qaU
     |[_],_::_,_=>exact qaU
     |[_],[],some _=>exact qaU
    |_=>exact qaU
   |_=>exact qaU
 |_=>exact qaU
theorem qxw: ∀n,(∀C X E,Cok M g F k C X E->∀st,PS X st (tS M E (qaM F (cS g n C st))))/\(∀C X E,Cok M g F k C X E->∀st,PS X st (tS M E (qaM F (cS1 g n C st))))/\∀C X E,Cok M g F k C X E->∀bB,PSs X bB (tS M E (runSs F (cSs g n C bB)))
 |0=>⟨λC X E c st=>qaU,λC X E c st=>qaU,λC X E c bB=>(by rintro _ _ _ _ _ _ ⟨_,_,_,_,w⟩;exact w.elim)⟩
 |n+1=>by
  obtain⟨h1,h2,h3⟩:=qxw n;refine⟨λC X E c st=>h2 C X E c st,λC X E c st=>qvp h3 c st,λC X E c bB=> ?_⟩
  induction bB with
  |nil=>exact qqB
  |cons st bB ih=>exact qm9 (h1 C X E c st) ih
end
noncomputable def LmK(M:Md)(g:Gx)(mg:Str->Option Value)(base:Heap)(q:Str)(fd:FuncData):Prop:=g.lm.contains q=true->∃c P,fd.code= .ref c/\W.CodeHd base c P/\qfI mg base/\(∀H,M.G.P H->qlz P (q++(".<locals>." :Str)++("<lambda>" :Str)) H)/\∀H H2,M.G.P H->qlA P H H2->(∀b,H b≠none->H2 b≠none)->qlz P (q++(".<locals>." :Str)++("<lambda>" :Str)) H2->M.G.P H2
structure Kf(M:Md)(g:Gx)(P:Program)(w:World)(mg:Str->Option Value)(base:Heap):Prop where
 fn: ∀(x:Str)(i:Nat)(st:Stmt),g.fi x=some i->x.cps.contains 46=false->g.fs[i]? =some (x,st)->∃f fd,Fun M.K x x st f fd/\mg x=some (.ref f)/\LmK M g mg base x fd
 nb: ∀x,qcB.contains x=true->mg x=none
 cs: ∀x t,g.cs.lookup x=some t->∃v u,mg x=some u/\RelV v u/\∀B,Rep M.K B t v
 ex: ∀c bs,(c,bs)∈g.ex->mg c=some (.ref (clA M.K c))/\∃bm,qiW base (clA M.K c) bm/\∀x∈bs,(g.ex.map (·.1)).contains x=true->(Value.ref (clA M.K c)::bm).contains (.ref (clA M.K x))=true
 mt: ∀(c m:Str)(i:Nat)(st:Stmt),(g.cl.map (·.1)).contains c=true->g.fi (qaP c m)=some i->g.fs[i]? =some (qaP c m,st)->∃f fd,Fun M.K m (qaP c m) st f fd/\Cls M.K (clA M.K c)/\quC M.K (clA M.K c) m f/\LmK M g mg base (qaP c m) fd
 mkc: ∀c,(g.cl.map (·.1)).contains c=true->mg c=some (.ref (clA M.K c))/\W.makesIn M.K (clA M.K c)=true/\W.keepIn M.K (.ref (clA M.K c))=true
 fl: ∀f c,(g.fls f).contains c=true->Cls M.K (clA M.K c)/\qa5 M.K (clA M.K c) f
 ok: ∀p∈g.fs,qgh p.2=true
 dt: ∀D tbl,g.dt.lookup D=some tbl->PL.TopT M.K mg w D tbl
theorem qqv{g:Gx}{x:Str}{i:Nat}(h:g.fi x=some i): ∃st,g.fs[i]? =some (x,st):=by
 have:=qbH h
 simp_all
section
variable{x q:Str}
structure FnB(st:Stmt):Prop where
 sc:qdi (qif st) (qhd st) (qaf st)
 po:(qas st).posonlyargs=[]
 va:(qas st).vararg=none
 ko:(qas st).kwonlyargs=[]
 kw:(qas st).kwarg=none
theorem qkN(h:qgh st=true):FnB st:=by
 unfold qgh at h;simp only[Bool.and_eq_true,decide_eq_true_eq,Bool.not_eq_true',Option.isNone_iff_eq_none,List.length_eq_zero_iff] at h;obtain⟨⟨⟨⟨⟨⟨⟨⟨⟨⟨⟨h1,h2⟩,h3⟩,h4⟩,h5⟩,h6⟩,h7⟩,h8⟩,h9⟩,h10⟩,h11⟩,h12⟩:=h;refine⟨⟨h1,h2,h3,h4,?_,λy hy=> ?_,λy hy=> ?_⟩,h7,h8,h9,h11⟩
 ·exact List.take_left
 ·exact qsZ (List.all_eq_true.mp h5 y hy)
 ·exact of_decide_eq_true (List.all_eq_true.mp h6 y hy)
theorem qnK{M:Md}(F:Fun M.K x q st f fd)(h:FnB st):qaW M.K fd (qhd st) []:=F.binds λkV doc pm an cdv ct us hl=>by
 have nd:=by have:=h.sc.nd;exact(List.nodup_append.mp this).1
 exact qdb h.po h.va h.ko h.kw rfl nd hl
theorem quh(gf:Gf M g F k P w mg base)(h:FnB st){qual:Str}(fe:lam=true->∃c P,cdv= .ref c/\W.CodeHd base c P/\qfI mg base/\(∀H,M.G.P H->qlz P (qual++(".<locals>." :Str)++("<lambda>" :Str)) H)/\∀H H2,M.G.P H->qlA P H H2->(∀b,H b≠none->H2 b≠none)->qlz P (qual++(".<locals>." :Str)++("<lambda>" :Str)) H2->M.G.P H2)(hr:qbl (8*k+7) (A.deeper (PyProof.Rows.envOfC qual (qaf st) s.heap.objs.size f cdv))):
  Cok M g F k (qxa lam st) (qiT (CXE P w) P w M.K mg base (qif st) qual (qaf st) f cdv A outer s H E) E:=by
 refine⟨gf,rfl,rfl,h.sc.nd,rfl,λ_ _=>.inl rfl,PL.hu8 hr,λ_=>⟨rfl,hr.mono (by omega),PL.passI⟩,λ_=>⟨rfl,rfl,rfl,λa s' h=>Vc h (λ_ _ x=>x) λ_ _ x=>x.elim,PassesOwn.leaving,λx msg j np p1 cpos pos hx gl hd=> ?_⟩,λz=> ?_,λ_ _=>rfl⟩
 ·obtain⟨bs,hb⟩:=qwP hx;obtain⟨m,bm,e,_⟩:=gf.ex x bs hb;exact qme e m gl hd
 ·obtain⟨c,P,e1,e2,e3,e4,e5⟩:=fe z;exact⟨hr.mono (by omega),c,P,_,e1,e2,e3,rfl,e4,e5⟩
theorem qtA(lk:LmK M g mg base q fd)(gf:Gf M g (TTf g k) k P w mg base)(F:Fun M.K x q st f fd)(hb:qgh st=true)(e:g.fs[i]? =some (q,st)):qcC P w M.K mg base (CXE P w) (8*(k+1)) f fd (qhd st) (spF M (TTf g (k+1) i)):=by
 have B:=qkN hb;have e1:TTf g (k+1) i=fnR (g.kp.contains q) (qhd st).length (qif st).length (runSs (TTf g k) (cSs g 60 (qxa (g.lm.contains q) st) (qaF st))):=by show(match g.fs[i]? with|some p=>(cFn g p).run _|none=>λ_ _=>.no)=_;rw[e];show(cFn g _).run _=_;unfold cFn;rw[if_pos hb];rfl
 rw[e1];exact qwK F B.sc λcdv hc A outer s H E hr=>(qxw 60).2.2 _ _ _ (quh gf B (λz=>by rw[<-hc];exact lk z) hr) _
theorem qqu{ps:List Str}:qcC P w M.K mg base (CXE P w) 0 f fd ps (spF M λ_ _=>.no):=⟨(by rintro vs H Q E ⟨_,_,_,_,_,z⟩;exact z.elim),(by rintro A outer s H args us vs Q E _ _ _ _ ⟨_,_,_,_,_,z⟩;exact z.elim)⟩
theorem qop{M:Md}{g:Gx}(kf:Kf M g P w mg base): ∀k,Gf M g (TTf g k) k P w mg base
 |k=>by
  have ih: ∀{x q:Str}{st:Stmt}{f:Addr}{fd:FuncData}{i:Nat},Fun M.K x q st f fd->LmK M g mg base q fd->g.fs[i]? =some (q,st)->qcC P w M.K mg base (CXE P w) (8*k) f fd (qhd st) (spF M (TTf g k i))/\qaW M.K fd (qhd st) []:=λ{x q st f fd i} F lk e=>by
   have hb:=kf.ok _ (Vt e);refine⟨?_,qnK F (qkN hb)⟩;cases k with
   |zero=>exact qqu
   |succ k=>exact qtA lk (qop kf k) F hb e
  refine⟨λx i hi hd=> ?_,kf.nb,kf.cs,kf.ex,λm c i hm=> ?_,λc i hc hi=> ?_,kf.fl,kf.dt⟩
  ·obtain⟨st,e⟩:=qqv hi;obtain⟨f,fd,F,m,lk⟩:=kf.fn x i st hi hd e;obtain⟨a,b⟩:=ih F lk e;exact⟨f,fd,_,m,F.kp,b,a⟩
  ·obtain⟨q,hq,e⟩:=List.mem_filterMap.mp hm;obtain⟨i',e1,e2⟩:=qar e;cases e2;obtain⟨st,e3⟩:=qqv e1;obtain⟨f,fd,F,c1,m1,lk⟩:=kf.mt q.1 m i st (by rw[List.contains_iff_mem];exact List.mem_map.mpr ⟨q,hq,rfl⟩) e1 e3;obtain⟨a,b⟩:=ih F lk e3;exact⟨f,fd,_,c1,m1,a,b⟩
  ·obtain⟨st,e3⟩:=qqv hi;obtain⟨f,fd,F,c1,m1,lk⟩:=kf.mt c "__init__" i st hc hi e3;obtain⟨a,b⟩:=ih F lk e3;obtain⟨z1,z2,z3⟩:=kf.mkc c hc;exact⟨f,fd,_,z1,⟨z2,m1.at_,m1.fn,z3⟩,a,b⟩
end
open HD
noncomputable def qie(x:Str):Bool:= !x.cps.contains 46
noncomputable def Gx.tb(g:Gx):List (Str×Stmt):=g.fs.filter λp=>qie p.1
noncomputable def mOf(c q:Str):Option Str:=if(qaP c "").cps.toList.isPrefixOf q.cps.toList then some ⟨(q.cps.toList.drop (qaP c "").cps.toList.length).toArray⟩ else none
noncomputable def Gx.mtl(g:Gx):List (Str×Str×Str×Stmt):=g.cl.flatMap λc=>g.fs.filterMap λp=>(mOf c.1 p.1).map λm=>(c.1,m,p.1,p.2)
noncomputable def qxK(K:W.Frag)(c:Str×T):Bool:=match W.nsIn K mainGlobals c.1,c.2 with
 |some (some (.int n _)),.int m=>n==m
 |some (some (.str n _)),.str m=>n==m
 |_,_=>false
noncomputable def bmX(K:W.Frag)(bs:List Str):List Value:=(bs.tail.filter λx=>x != ("ValueError" :Str)).map (λx=>Value.ref (clA K x))++bmV
noncomputable def qxJ(K:W.Frag)(ns:List Str)(c:Str×List Str):Bool:=nsC K c.1&&qkR K (clA K c.1) (bmX K c.2)&&c.2.all λx=> !ns.contains x||(Value.ref (clA K c.1)::bmX K c.2).contains (.ref (clA K x))
theorem qvf{a b:Str}(h:a.cps.toList=b.cps.toList):a=b:=by cases a;simp_all
theorem qaT(a b:Str):(a++b).cps.toList=a.cps.toList++b.cps.toList:=by show(a.cps++b.cps).toList=_;simp
theorem qip(c m:Str):mOf c (qaP c m)=some m:=by
 have e:(qaP c m).cps.toList=(qaP c "").cps.toList++m.cps.toList:=by unfold qaP;rw[qaT,qaT];rw[qaT];show _=(_++([]))++_;rw[List.append_nil,qaT]
 unfold mOf
 simp_all
noncomputable def gQ(m:List (Addr×Str)):Gam where
 P:=λH=> ∀p∈m,qlz p.1 p.2 H
 st:=λH H' k h p hp=>by obtain⟨ps,h1,h2,h3⟩:=h p hp;refine⟨ps,k _ _ h1 (λ_ z=>by cases z) (λ_ z=>by cases z) (λ_ z=>by cases z) (λ_ _ _ z=>by cases z),h2,λpos v e=> ?_⟩;obtain⟨c,e1,e2⟩:=h3 pos v e;exact⟨c,e1,k _ _ e2 (λ_ z=>by cases z) (λ_ z=>by cases z) (λ_ z=>by cases z) (λ_ _ _ z=>by cases z)⟩
theorem qtu{qual:Str}(h:(P,qual)∈m)(nd:(m.map (·.1)).Nodup): ∀H H2,(gQ m).P H->qlA P H H2->qlz P qual H2->(gQ m).P H2:=λH H2 g same t p hp=>by
 obtain⟨ps,hP,_⟩:=g _ h;by_cases e:p.1=P
 ·have:=PL.nodup_fst nd hp h e;subst this;exact t
 ·exact PL.tabq_same (g p hp) hP e same
theorem qrI{qz:List Str}(ht: ∃m,t [.scr ns] ⟨[],[]⟩= .ok (.bl true) m)(hO:qhP Ts H)(hS:SqL K H a (ns.map V.int)):spF ⟨K,gQ (Ts.zip qz)⟩ t [.ref a] H (λv _=>v= .bl true) λ_ _ _=>False:=by
 obtain⟨m,ht⟩:=ht;have tb:(gQ (Ts.zip qz)).P H:=λp hp=>qu4 hO.1 hp;have fin: ∀B,(∀a o,B a=some o->H a=some o)->(∀a ps,B a≠some _)->SqL K B a _->spF ⟨K,gQ _⟩ t _ H _ λ_ _ _=>False:=λB le bt sq=>by
  refine⟨⟨[],[]⟩,⟨B,λ_=>none⟩,[.scr ns],⟨le,bt,tb,(λk c e=>by simp at e),(λ_ _ _ e=>by cases e),(λ_ _ e=>by cases e),(λk c e=>by simp at e),λ_ h=>nomatch h⟩,.cons (by exact⟨a,rfl,sq⟩) .nil,?_⟩;rw[ht]
  exactλv H' B' _ _ r=>qbx r
 have cut: ∀{o },H a=some o->(∀ps,o≠.tbl ps)->SqL K (λb=>if b=a then H a else none) a _->spF _ t _ H _ _:=λ{o} ho n sq=>
  fin _ (λb o z=>by
   grind) (λb ps z=>by
   grind) sq
 rcases hS with(hS|⟨o,hS⟩)|hS
 ·exact cut hS (λps z=>by cases z) (.inl (.inl (by simp[hS])))
 ·exact cut hS (λps z=>by cases z) (.inl (.inr ⟨o,by simp[hS]⟩))
 ·exact fin (λ_=>none) (λ_ _ z=>by cases z) (λ_ _ z=>by cases z) (.inr hS)
noncomputable def lq(q:Str):Str:=q++(".<locals>." :Str)++("<lambda>" :Str)
structure qyb(K:W.Frag)(g:Gx)(w:World):Prop where
 h1:(g.tb.all λp=>okD K p.1)=true
 h2:g.tb.map (λp=>qqw K p.1)=g.tb.map λp=>(qqw K p.1).map (due p.1 p.2)
 h3:g.cs.all (qxK K)=true
 h4:qcB.all (okN K)=true
 h5:HD.okT K g.lm=true
 h6:g.ex.all (qxJ K (g.ex.map (·.1)))=true
 h7:g.cl.all (λc=>qv3 K c.1 c.2)=true
 h8:(g.mtl.all λq=>okM K (clA K q.1) q.2.1 q.2.2.1)=true
 h10:(g.dt.all λp=>PL.topB K p.1 p.2)=true
 h11:g.dt.map (λp=>(PL.esOf K p.1).map λes=>es.map (·.hash))=g.dt.map λp=>some (p.2.map λq=>PyData.keyHash w.params q.1)
 h9:g.mtl.map (λq=>qsW K (clA K q.1) q.2.1)=g.mtl.map λq=>(qsW K (clA K q.1) q.2.1).map (qxS q.2.1 q.2.2.1 q.2.2.2)
theorem qwj(X:K.In h)(G:h.Ns mainGlobals mg)(S:qyb K g w)(hok:(g.fs.all λp=>qgh p.2)=true)(fe:g.lm.all qie=true)(KI:K.In base)(hb:qfI mg base)(hC: ∀y∈g.lm,∃c,W.tabIn K y=some (c,tOf K y)/\W.CodeHd base c (tOf K y))(nd:(g.lm.map (tOf K)).Nodup):
  Kf ⟨K,gQ ((g.lm.map (tOf K)).zip (g.lm.map lq))⟩ g P w mg base:=by
 have D:=qoC X G S.h1 S.h2;have iN: ∀c fs,(c,fs)∈g.cl->mg c=some (.ref (clA K c))/\Cls K (clA K c)/\W.makesIn K (clA K c)=true/\W.keepIn K (.ref (clA K c))=true/\∀f∈fs,qa5 K (clA K c) f:=λc fs hm=>qw8 X G (List.all_eq_true.mp S.h7 _ hm);have jz: ∀c,(g.cl.map (·.1)).contains c=true->∃fs,(c,fs)∈g.cl:=λc hc=>by rw[List.contains_iff_mem] at hc;obtain⟨p,hp,rfl⟩:=List.mem_map.mp hc;exact⟨p.2,hp⟩
 have mem: ∀y∈g.lm,(tOf K y,lq y)∈(g.lm.map (tOf K)).zip (g.lm.map lq):=λy hy=>by obtain⟨j,hj,rfl⟩:=List.mem_iff_getElem.mp hy;refine List.mem_iff_getElem?.mpr ⟨j,?_⟩;rw[List.getElem?_zip_eq_some];simp[hj]
 have nd2:(((g.lm.map (tOf K)).zip (g.lm.map lq)).map (·.1)).Nodup:=by
  have:((g.lm.map (tOf K)).zip (g.lm.map lq)).map (·.1)=g.lm.map (tOf K):=by rw[List.map_fst_zip (by simp)]
  rw[this];exact nd
 refine⟨λx i st hi hd e=> ?_,λx hx=>qv6 X G S.h4 x (by rwa [List.contains_iff_mem] at hx),λx t hx=> ?_,λc bs hm=> ?_,λc m i st hc hi e=> ?_,λc hc=> ?_,λf c hf=> ?_,λp hp=>List.all_eq_true.mp hok p hp,λD tbl hD=> ?_⟩
 ·have hm:(x,st)∈g.tb:=List.mem_filter.mpr ⟨Vt e,by unfold qie;rw[hd];rfl⟩;obtain⟨j,hj⟩:=List.mem_iff_getElem?.mp hm;obtain⟨f,oc,od,osl,kV,doc,pm,an,cdv,ct,lk,bg,kp,m,n0⟩:=D j _ _ hj;refine⟨f,_,qkI lk bg kp,m,λhl=> ?_⟩;have ff:x∈g.lm:=by rwa [List.contains_iff_mem] at hl
  obtain⟨c,tc,hc⟩:=hC x ff;refine⟨c,tOf K x,?_,hc,hb,λH gp=>gp _ (mem x ff),λH H2 gp same _ t=>qtu (mem x ff) nd2 H H2 gp same t⟩;show cdv= .ref c;unfold W.tabIn at tc;rw[n0] at tc;simp only[lk] at tc;cases cdv with
  |ref c'=>
   dsimp only at tc;split at tc
   ·split at tc
    ·cases tc;rfl
    ·cases tc
   ·cases tc
  |_=>cases tc
 ·have hm:(x,t)∈g.cs:=by
   have go: ∀l:List (Str×T),l.lookup x=some t->(x,t)∈l:=λl=>by
    induction l with
    |nil=>intro h;cases h
    |cons p l ih=>
     intro h;obtain⟨y,u⟩:=p;rw[List.lookup_cons] at h;cases q:x==y with
     |true=>rw[q] at h;cases h;rw[eq_of_beq q];exact Vk
     |false=>rw[q] at h;exact Vl _ (ih h)
   exact go _ hx
  have a:=List.all_eq_true.mp S.h3 _ hm;unfold qxK at a;split at a
  ·rename_i n tk m e1 e2;have e2:t= .int m:=e2;have:n=m:=by simpa using a
   subst this e2;exact⟨.int n,_,W.mg_of X G e1,⟨_,rfl⟩,λB=>qaN⟩
  ·rename_i n tk m e1 e2;have e2:t= .str m:=e2;have:n=m:=by simpa using a
   subst this e2;exact⟨.str n,_,W.mg_of X G e1,⟨_,rfl⟩,λB=>qce⟩
  ·cases a
 ·have a:=List.all_eq_true.mp S.h6 _ hm;unfold qxJ at a;simp only[Bool.and_eq_true,List.all_eq_true,Bool.or_eq_true,Bool.not_eq_true'] at a;obtain⟨⟨a1,a2⟩,a3⟩:=a;refine⟨qsS X G a1,_,qiC KI a2,λx hx hn=> ?_⟩
  rcases a3 x hx with z|z
  ·rw[hn] at z;cases z
  ·exact z
 ·obtain⟨fs,hm⟩:=jz c hc;have hq:(c,m,qaP c m,st)∈g.mtl:=List.mem_flatMap.mpr ⟨_,hm,List.mem_filterMap.mpr ⟨_,Vt e,by rw[qip];rfl⟩⟩;obtain⟨j,hj⟩:=List.mem_iff_getElem?.mp hq;have e9:=congrArg (λl=>l[j]?) S.h9;simp only[List.getElem?_map,hj,Option.map_some] at e9;obtain⟨f,oc,od,osl,kV,doc,pm,an,cdv,ct,lk,bg,M1⟩:=qtU (List.all_eq_true.mp S.h8 _ hq) (Option.some.inj e9);refine⟨f,_,qkI lk bg M1.kp,(iN c fs hm).2.1,M1,λhl=> ?_⟩;have:=List.all_eq_true.mp fe _ (by rwa [List.contains_iff_mem] at hl);exfalso;unfold qie at this;have dt:(qaP c m).cps.contains 46=true:=by rw[Array.contains_iff_mem,<-Array.mem_toList_iff];unfold qaP;rw[qaT,qaT];exact Vr _ (Vs _ (by decide))
  rw[dt] at this;cases this
 ·obtain⟨fs,hm⟩:=jz c hc;obtain⟨z1,z2,z3,z4,z5⟩:=iN c fs hm;exact⟨z1,z3,z4⟩
 ·rw[List.contains_iff_mem] at hf;obtain⟨p,hp,rfl⟩:=List.mem_map.mp hf;obtain⟨eY,cx⟩:=List.mem_filter.mp hp;obtain⟨z1,z2,z3,z4,z5⟩:=iN p.1 p.2 eY;exact⟨z2,z5 f (by simpa using cx)⟩
 ·have hm:(D,tbl)∈g.dt:=by
   have go: ∀l:List (Str×List (Str×Str)),l.lookup D=some tbl->(D,tbl)∈l:=λl=>by
    induction l with
    |nil=>intro h;cases h
    |cons p l ih=>
     intro h;obtain⟨y,u⟩:=p;rw[List.lookup_cons] at h;cases q:D==y with
     |true=>rw[q] at h;cases h;rw[eq_of_beq q];exact Vk
     |false=>rw[q] at h;exact Vl _ (ih h)
   exact go _ hD
  obtain⟨j,hj⟩:=List.mem_iff_getElem?.mp hm;have e:=congrArg (λl=>l[j]?) S.h11;simp only[List.getElem?_map,hj,Option.map_some] at e;exact PL.topT_of X G (List.all_eq_true.mp S.h10 _ hm) (Option.some.inj e)
theorem walkN{l:W.OpenLaw}{q:Program}{loose:List Str}{XP:(Str->Option Value)->Heap->Prop}{YP:World->Heap->Prop}{d:DefRec}{K:Params->W.Frag}{g:Gx}{kk i:Nat}{sl:Stmt}(hn:l.most=some 63)(fm:d.params.defaults=[])(hd:d.name= "law")(hY: ∀(w:World)(h:Heap),YP w h->(K w.params).In h)(c8: ∀y∈g.lm,∃dx,(PyProof.Rows.recsOf q).find? (λe=>e.name==y)=some dx)(hR:qbl (8*(kk+1)) callerA)(S: ∀w:World,qyb (K w.params) g w)(hok:(g.fs.all λp=>qgh p.2)=true)(fe:g.lm.all qie=true)(hi:g.fi "law" =some i)(hs:g.fs[i]? =some (("law" :Str),sl))(hp:qhd sl=[("_law_script" :Str)])(hT: ∀ns:List Int,ns.length<=63->∃m,TTf g (kk+1) i [.scr ns] ⟨[],[]⟩= .ok (.bl true) m):
  W.WalkO q loose XP YP l.row.toRowW d [] (λf vs=>PySem.call f vs):=by
 refine L2.walk_ofTs (n:=63) (k:=8*(kk+1)) (x:= "_law_script") (ys:=g.lm) (CX:=λw=>CXE l.prog w) (sp:=λw aw=>spF ⟨K w.params,gQ ((aw.map (·.2)).zip (g.lm.map lq))⟩ (TTf g (kk+1) i)) hn (by decide) fm hR hY c8 ?_ (λ_ _ _ a ns hl hO hS=>qrI (hT ns hl) hO hS) (by rintro _ _ _ _ _ ⟨_,_,_,_,_,_,_,z⟩;exact z);intro w mg fa h X G hm;have D:=qoC X G (S w).h1 (S w).h2;have hm0:(("law" :Str),sl)∈g.tb:=List.mem_filter.mpr ⟨Vt hs,by show qie ("law" :Str)=true;decide+kernel⟩;obtain⟨j,hj⟩:=List.mem_iff_getElem?.mp hm0;obtain⟨f,oc,od,osl,kV,doc,pm,an,cdv,ct,lk,bg,kp,m,n0⟩:=D j _ _ hj;rw[hd] at hm;have e:=hm.symm.trans m;cases e;obtain⟨t1,t2,nd⟩:=qnq (S w).h5;have em:(qgr (K w.params) g.lm).map (·.2)=g.lm.map (tOf (K w.params)):=by unfold qgr;rw[List.map_map];rfl
 have hb:=List.all_eq_true.mp hok _ (Vt hs);have B:=qkN hb;refine⟨W.fnOf "law" "law" (qas sl) (qaF sl) (qaf sl) .none kV doc pm an cdv ct,qgr (K w.params) g.lm,t1,t2,λs u=>.of_eq ?_,λbase KI _ hC iC=> ?_⟩
 ·have nd:(qhd sl).Nodup:=by rw[hp];simp
  have hu:[u].length=(qhd sl).length:=by rw[hp];rfl
  have hbs:=qdb (fd:=W.fnOf "law" "law" (qas sl) (qaF sl) (qaf sl) .none kV doc pm an cdv ct) (us:=[u]) B.po B.va B.ko B.kw rfl nd hu;rw[hbs];show pure ((qhd sl).zip [u])=_;rw[hp];rfl
 ·rw[em];have kf:=qwj (P:=l.prog) (w:=w) X G (S w) hok fe KI iC (λy hy=>by
   have e1:some ((W.tabIn (K w.params) y).getD (0,0))=W.tabIn (K w.params) y:=by obtain⟨j,hj,ej⟩:=List.mem_iff_getElem.mp hy;have:=congrArg (λl=>l[j]?) t1;unfold qgr at this;simp only[List.getElem?_map,List.getElem?_eq_getElem hj,ej,Option.map_some] at this;exact(Option.some.inj this).symm
   exact⟨((W.tabIn (K w.params) y).getD (0,0)).1,e1.symm,hC _ (List.mem_map.mpr ⟨y,hy,rfl⟩)⟩) nd
  obtain⟨f',fd',F',m',lk'⟩:=kf.fn "law" i sl hi (by decide+kernel) hs;have ef:f'=fa:=by rw[m] at m';cases m';rfl
  subst ef;have F:=qkI lk bg kp;obtain⟨oc2,od2,kV2,iL,cz,an2,iO,ct2,osl2,rfl,lk2,_⟩:=F'.ex;have e2:=lk.symm.trans lk2;have e3:W.fnOf "law" "law" (qas sl) (qaF sl) (qaf sl) .none kV doc pm an cdv ct=W.fnOf "law" "law" (qas sl) (qaF sl) (qaf sl) .none kV2 iL cz an2 iO ct2:=by
   injection e2 with e2
   injection e2 with _ _ e2
   injection e2
  rw[e3];have:=qtA (i:=i) lk' (qop kf kk) F' hb hs;rw[hp] at this;exact this
end NV
section
open PySem PySem.W PyProof.Rows
set_option maxRecDepth 100000 in
set_option maxHeartbeats 0 in
theorem K21.said:PySem.Challenge.rw_rowasks_k21_whole_pieces.wellSaid=true:=by kernel_rfl
set_option maxRecDepth 100000 in
set_option maxHeartbeats 0 in
theorem PySem.Challenge.cw_rowasks_k21_whole_pieces_holds : PySem.Challenge.rw_rowasks_k21_whole_pieces.Holds := by
 w_on
 refine holds_law K21.said ?_;intro said;refine holds_open (q:=K21.vq) (loose:=K21.lo) (Xt:=K21.xt) (XP:=XL K21.vq []) (Yf:=Hook.obs K21.hk) (Ya:=Hook.val K21.hk) (YP:=Hook.says K21.hk) (N:=20000) (HD.left_parts "special-get-raises" K21.rXF K21.rYF K21.rXT K21.rYT) (Hook.of K21.hk) (Hook.keeps K21.hk) (λs e=>xl_of s (Bool.and_eq_true_iff.mp e).1) XL.keeps (by rfl) (by rfl) (by rfl) (λs e=>recFacts_of (Bool.and_eq_true_iff.mp e).2) (by rfl) (by first|assumption|decide+kernel) (by decide+kernel) ⟨rfl,rfl,rfl,rfl,rfl,by decide+kernel⟩ ?hw ?hc
 (case hw=>w_witness2)
 k_fill
 refine' NV.walkN (l:=PySem.Challenge.rw_rowasks_k21_whole_pieces) (g:=K21.gx) (kk:=6) (i:=39) rfl rfl rfl (λw h Y=>Y) ?_ ⟨rfl,by decide,by decide⟩ (λw=>⟨by kernel_rfl,by kernel_rfl,by kernel_rfl,by kernel_rfl,by kernel_rfl,by kernel_rfl,by kernel_rfl,by kernel_rfl,by kernel_rfl,by kernel_rfl,by kernel_rfl⟩) (by kernel_rfl) (by kernel_rfl) (by kernel_rfl) rfl rfl (λns hl=>K21.law_true ns);intro y hy;have hy:y∈K21.gx.lm:=hy;simp only[K21.gx,List.mem_append,List.mem_cons,List.not_mem_nil,or_false,false_or] at hy
end
