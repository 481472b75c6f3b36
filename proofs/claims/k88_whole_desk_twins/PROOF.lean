import PyProof.Rows.All
import KE.KNestM
import OpenK.KLine
import Wide.Once
import Wide.Line
import Open.Line
import KE.KIsAll
import KE.KItemsList
import KE.KLam
import Flt.Sum
import Flt.WordCanon
import Wide.FinOn
import Lean
import PyProof.EqAt
import PyProof.EqKinds
import PyProof.TupleCall
import KE.KSortTup
import KE.KSortKey
import PyProof.ExcBaseAll.ValueError
import PyProof.ExcAttrAll.ValueError
import KE.KTryOn
import OpenK.KOwn
import PyProof.NeData
import PyProof.SetKind
import PyProof.Rows.SetFrom
import PyProof.CollectWalk
import KE.KDictOf
import KE.KDictList
import KE.KNest
import PyProof.FString5
import KE.KDictSum
import PyProof.WalksEnum
import PyProof.EnumMake
import PyProof.Draws
import PyProof.WalksMore
import KE.KEqDict
import PyProof.AutoSeq1
import PyProof.ListMulRoad
import PyProof.FactsAll.tuple_2
import KE.KDictLaws
import PyProof.Conv_int_bool
import PySem.Challenge.RW_rowasks_k88_whole_desk_twins
set_option Elab.async false
set_option linter.all false
set_option genSizeOf false
set_option compiler.extract_closed false
noncomputable section
set_option maxRecDepth 100000
set_option maxHeartbeats 8000000
local macro_rules|`(tactic| trivial)=> `(tactic| first|exact Or.inl rfl|exact Or.inr rfl|exact⟨rfl,rfl,rfl,by decide+kernel,rfl,by decide+kernel,by decide+kernel⟩|(intro p hp;simp only[List.mem_cons,List.not_mem_nil,or_false] at hp;subst hp;exact⟨rfl,rfl⟩))
section
open PySem PySem.Spec PyProof.Rows
abbrev Va:=@wpAny_bind
abbrev Vb:=@wpAny_pure
abbrev Vc:=@wpAny_mono
abbrev Vd:=@wpAny_truthy_bool
abbrev Ve:=@wpAny_loadPart_at
abbrev Vf:=@wpAny_Call_Name_kw
abbrev Vg:=@Heap.get?_push_of_some
abbrev Vh:=@Heap.get?_push_size
abbrev Vi:=@Heap.lt_size
abbrev Vj:=@List.mem_cons_self
abbrev Vk:=@List.mem_cons_of_mem
abbrev Vl:=@Nat.le_refl
abbrev Vm:=@Nat.lt_of_lt_of_le
abbrev Vn:=@Nat.ne_of_lt
abbrev Vo:=@Nat.le_of_lt
abbrev Vp:=@Nat.le_trans
abbrev Vq:=@Bool.false_ne_true
abbrev Vr:=@List.mem_append_left
abbrev Vs:=@List.mem_append_right
abbrev Vt:=@List.mem_of_getElem?
abbrev Vu:=@PySem.mem_of_lookup
abbrev Vv:=@decide_eq_false
abbrev Vw:=@List.getElem?_eq_getElem
abbrev Vx:=@call_meets
abbrev Vy:=@Nat.lt_succ_self
end
namespace HD
open PySem PySem.W
noncomputable def qyh:Stmt->Bool
 |.Assign (targets:=[.Name x _]) .. =>x== "__name__"
 |_=>false
noncomputable def vw(p:Program):Program:={ p with main:={ p.main with body:=p.main.body.filter λs=> !qyh s } }
theorem qmf{p q:Program}{loose:List Str}{Xt:Shared->Bool}{α:Type}{Yf:Shared->α}{Ya:World->α}{N:Nat}(row:String)(hf: ∀w:World,((fencedOpening treeTable p w N).bind (topFrom treeTable p (w.withFollow row false) N)).map (λs=>(openSeen q loose (importedModules p.main.body) Xt true s,Yf s))=some (openGood q loose,Ya (w.withFollow row false)))(ht: ∀w:World,((fencedOpening treeTable p w N).bind (topFrom treeTable p (w.withFollow row true) N)).map (λs=>(openSeen q loose (importedModules p.main.body) Xt true s,Yf s))=some (openGood q loose,Ya (w.withFollow row true))):
  LeftO p q loose Xt Yf Ya N:=λw=>by
 have e:=World.withFollow_self w row;cases hb:w.params.followText row<;>rw[hb] at e
 ·have:=hf w;rw[e] at this;exact this
 ·have:=ht w;rw[e] at this;exact this
noncomputable def qqW(p:Program)(row:String)(N:Nat)(b:Bool)(w:World):Option Shared:=(fencedOpening treeTable p w N).bind (topFrom treeTable p (w.withFollow row b) N)
noncomputable def qme(p q:Program)(loose:List Str)(Xt:Shared->Bool)(s:Shared):=openSeen q loose (importedModules p.main.body) Xt true s
noncomputable def qnp(p q:Program)(loose:List Str)(Xt:Shared->Bool)(row:String)(N:Nat)(b:Bool):Prop:= ∀w:World,(qqW p row N b w).map (λs=>(qme p q loose Xt s).2)=some (openGood q loose).2
noncomputable def qno(p q:Program)(loose:List Str)(Xt:Shared->Bool)(H:Hook)(row:String)(N:Nat)(b:Bool):Prop:= ∀w:World,(qqW p row N b w).map (λs=>((qme p q loose Xt s).1,H.obs s))=some ((openGood q loose).1,H.val (w.withFollow row b))
theorem parts{p q:Program}{loose:List Str}{Xt:Shared->Bool}{H:Hook}{row:String}{N:Nat}{b:Bool}(hx:qnp p q loose Xt row N b)(hy:qno p q loose Xt H row N b):
  ∀w:World,((fencedOpening treeTable p w N).bind (topFrom treeTable p (w.withFollow row b) N)).map (λs=>(openSeen q loose (importedModules p.main.body) Xt true s,Hook.obs H s))=some (openGood q loose,Hook.val H (w.withFollow row b)):=λw=>by
 have hx:=hx w;have hy:=hy w;have e:((fencedOpening _ p w N).bind _)=qqW p row N b w:=rfl;rw[e];cases r:qqW p row N b w with
 |none=>rw[r] at hx;cases hx
 |some s=>rw[r] at hx hy;have y:=Prod.mk.inj (Option.some.inj hy);exact congrArg some (Prod.ext (Prod.ext y.1 (Option.some.inj hx)) y.2)
theorem qip{p q:Program}{loose:List Str}{Xt:Shared->Bool}{H:Hook}{N:Nat}(row:String)(x0:qnp p q loose Xt row N false)(y0:qno p q loose Xt H row N false)(x1:qnp p q loose Xt row N true)(y1:qno p q loose Xt H row N true):
  LeftO p q loose Xt (Hook.obs H) (Hook.val H) N:=qmf row (parts x0 y0) (parts x1 y1)
end HD
namespace FR
open PySem PySem.W
inductive Tr where
 |e
 |n (l:Tr) (o:Obj) (r:Tr)
noncomputable def Tr.get:Tr->Nat->Option Obj
 |.e,_=>none
 |.n l o r,a=>match Nat.beq a 0 with
  |true=>some o
  |false=>match Nat.beq (a % 2) 1 with
   |true=>l.get (a / 2)
   |false=>r.get (a / 2 - 1)
noncomputable def Tr.mod:Tr->Nat->(Obj->Obj)->Tr
 |.e,_,_=>.e
 |.n l o r,a,f=>match Nat.beq a 0 with
  |true=>.n l (f o) r
  |false=>match Nat.beq (a % 2) 1 with
   |true=>.n (l.mod (a / 2) f) o r
   |false=>.n l o (r.mod (a / 2 - 1) f)
noncomputable def Tr.put:Tr->Nat->Obj->Tr
 |.e,_,o=>.n .e o .e
 |.n l v r,a,o=>match Nat.beq (a % 2) 1 with
  |true=>.n (l.put (a / 2) o) v r
  |false=>.n l v (r.put (a / 2 - 1) o)
theorem bf(h:a≠b):Nat.beq a b=false:=by
 cases q:Nat.beq a b with
 |false=>rfl
 |true=>simp_all
theorem qbZ:(Tr.n l o r).get a=if a=0 then some o else if a % 2=1 then l.get (a / 2) else r.get (a / 2 - 1):=by
 show(match Nat.beq a 0 with|true=>some o|false=>match Nat.beq _ 1 with|true=>l.get _|false=>r.get _)=_;by_cases h:a=0
 ·subst h;rfl
 ·rw[if_neg h,bf h];by_cases h2:a % 2=1
  ·rw[if_pos h2,h2]
  simp_all
theorem qvR:(Tr.n l o r).mod a f=if a=0 then .n l (f o) r else if a % 2=1 then .n (l.mod (a / 2) f) o r else .n l o (r.mod (a / 2 - 1) f):=by
 show(match Nat.beq a 0 with|true=>_|false=>match Nat.beq _ 1 with|true=>_|false=>_)=_;by_cases h:a=0
 ·subst h;rfl
 ·rw[if_neg h,bf h];by_cases h2:a % 2=1
  ·rw[if_pos h2,h2]
  simp_all
theorem qvr:(Tr.n l v r).put a o=if a % 2=1 then .n (l.put (a / 2) o) v r else .n l v (r.put (a / 2 - 1) o):=by
 show(match Nat.beq _ 1 with|true=>_|false=>_)=_;by_cases h2:a % 2=1
 ·rw[if_pos h2,h2]
 simp_all
theorem qgd: ∀(t:Tr)(a i:Nat),(t.mod a f).get i=if i=a then(t.get i).map f else t.get i
 |.e,a,i=>by
  show none=_
  split<;>rfl
 |.n l o r,a,i=>by
  rw[qvR];by_cases h:a=0
  ·subst h;rw[if_pos rfl,qbZ,qbZ];by_cases h1:i=0
   ·rw[if_pos h1,if_pos h1,if_pos h1];rfl
   ·rw[if_neg h1,if_neg h1,if_neg h1]
  ·rw[if_neg h];by_cases h2:a % 2=1
   ·rw[if_pos h2,qbZ,qbZ];by_cases h1:i=0
    ·rw[if_pos h1,if_pos h1,if_neg (by omega)]
    ·rw[if_neg h1,if_neg h1];by_cases h3:i % 2=1
     ·rw[if_pos h3,if_pos h3,qgd l (a / 2) (i / 2)];by_cases h4:i=a
      ·rw[if_pos h4,if_pos (by omega)]
      ·rw[if_neg h4,if_neg (by omega)]
     ·rw[if_neg h3,if_neg h3,if_neg (by omega)]
   ·rw[if_neg h2,qbZ,qbZ];by_cases h1:i=0
    ·rw[if_pos h1,if_pos h1,if_neg (by omega)]
    ·rw[if_neg h1,if_neg h1];by_cases h3:i % 2=1
     ·rw[if_pos h3,if_pos h3,if_neg (by omega)]
     ·rw[if_neg h3,if_neg h3,qgd r (a / 2 - 1) (i / 2 - 1)];by_cases h4:i=a
      ·rw[if_pos h4,if_pos (by omega)]
      ·rw[if_neg h4,if_neg (by omega)]
theorem qgc: ∀(t:Tr)(a i:Nat),(∀k<a,(t.get k).isSome=true)->t.get a=none->(t.put a o).get i=if i=a then some o else t.get i
 |.e,a,i,hf,_=>by
  have h0:a=0:=by
   cases a with
   |zero=>rfl
   |succ a=>exact absurd (hf 0 (Nat.succ_pos _)) (by simp[Tr.get])
  subst h0;show(Tr.n .e o .e).get i=_;rw[qbZ];by_cases h:i=0
  ·rw[if_pos h,if_pos h]
  ·rw[if_neg h,if_neg h]
   split<;>rfl
 |.n l v r,a,i,hf,hn=>by
  have ha:a≠0:=λz=>by subst z;rw[qbZ,if_pos rfl] at hn;cases hn
  have g:=λk hk=>hf k hk;rw[qbZ,if_neg ha] at hn;rw[qvr];by_cases h2:a % 2=1
  ·rw[if_pos h2] at hn;rw[if_pos h2,qbZ,qbZ];by_cases h1:i=0
   ·rw[if_pos h1,if_pos h1,if_neg (by omega)]
   ·rw[if_neg h1,if_neg h1];by_cases h3:i % 2=1
    ·rw[if_pos h3,if_pos h3,qgc l (a / 2) (i / 2) (λk hk=>by
      have:=hf (2*k+1) (by omega);rw[qbZ,if_neg (by omega),if_pos (by omega),show(2*k+1) / 2=k by omega] at this;exact this) hn]
     by_cases h4:i=a
     ·rw[if_pos h4,if_pos (by omega)]
     ·rw[if_neg h4,if_neg (by omega)]
    ·rw[if_neg h3,if_neg h3,if_neg (by omega)]
  ·rw[if_neg h2] at hn;rw[if_neg h2,qbZ,qbZ];by_cases h1:i=0
   ·rw[if_pos h1,if_pos h1,if_neg (by omega)]
   ·rw[if_neg h1,if_neg h1];by_cases h3:i % 2=1
    ·rw[if_pos h3,if_pos h3,if_neg (by omega)]
    ·rw[if_neg h3,if_neg h3,qgc r (a / 2 - 1) (i / 2 - 1) (λk hk=>by
      have:=hf (2*k+2) (by omega);rw[qbZ,if_neg (by omega),if_neg (by omega),show(2*k+2) / 2 - 1=k by omega] at this;exact this) hn]
     by_cases h4:i=a
     ·rw[if_pos h4,if_pos (by omega)]
     ·rw[if_neg h4,if_neg (by omega)]
noncomputable def Lay(t:Tr)(n:Nat)(xs:Array Obj):Prop:=n=xs.size/\∀i,t.get i=xs[i]?
theorem Lay.mod(h:Lay t n xs)(a:Nat)(f:Obj->Obj):Lay (t.mod a f) n (xs.modify a f):=
 ⟨by rw[Array.size_modify];exact h.1,λi=>by
  rw[qgd,h.2 i,Array.getElem?_modify];by_cases q:i=a
  ·simp_all
  ·rw[if_neg q,if_neg (Ne.symm q)]⟩
theorem Lay.put(h:Lay t n xs)(o:Obj):Lay (t.put n o) (n+1) (xs.push o):=by obtain⟨rfl,h2⟩:=h;refine⟨by rw[Array.size_push],λi=> ?_⟩;rw[qgc t _ i (λk hk=>by simp_all) (by simp_all),Array.getElem?_push,h2 i]
noncomputable def ofL:List Obj->Nat->Tr->Tr
 |[],_,t=>t
 |o::r,n,t=>ofL r (n+1) (t.put n o)
theorem qjM: ∀(l:List Obj)(n:Nat)(t:Tr)(xs:Array Obj),Lay t n xs->Lay (ofL l n t) (n+l.length) (xs++l.toArray)
 |[],n,t,xs,h=>by exact h
 |o::r,n,t,xs,h=>by have:=qjM r _ _ _ (h.put o);rw[show xs.push o++r.toArray=xs++(o::r).toArray by simp] at this;rw[List.length_cons,show n+(r.length+1)=n+1+r.length by omega];exact this
noncomputable def qqY(t:Tr):Nat->Nat->List Obj
 |0,_=>[]
 |n+1,i=>match t.get i with
  |some o=>o::qqY t n (i+1)
  |none=>[]
theorem qjn{t:Tr}{xs:Array Obj}(h: ∀i,t.get i=xs[i]?): ∀(n i:Nat),i+n=xs.size->qqY t n i=xs.toList.drop i
 |0,i,e=>by rw[List.drop_eq_nil_of_le (by simp;omega)];rfl
 |n+1,i,e=>by
  have hi:i<xs.size:=by omega
  unfold qqY;rw[h i,Array.getElem?_eq_getElem hi];rw[qjn h n _ (by omega),List.drop_eq_getElem_cons (i:=i) _];rfl
theorem Lay.out{n:Nat}(h:Lay t n xs):(qqY t n 0).toArray=xs:=by obtain⟨rfl,h2⟩:=h;rw[qjn h2 _ 0 (by omega)];simp
structure FS where
 t:Tr
 n:Nat
 life:Life
 gens:Array GenState
 drawn:Drawn
 toks:Nat
 os:OsState
noncomputable def qnl:Option Obj->Option Obj
 |some ⟨_,_,.freed,_⟩=>none
 |o=>o
noncomputable def qgf(den:Code->Sem Fin)(p:Program)(w:World):FS->Thread->Option (FS×Thread)
 |⟨t,n,life,gens,drawn,toks,os⟩,⟨cur,code,pos,stack⟩=>match cur with
  |.load a _ k=>(match qnl (t.get a) with
   |some o=>some (⟨t,n,life,gens,drawn,toks,os⟩,⟨k o,code,pos,stack⟩)
   |none=>none)
  |.update a _ f k=>(match qnl (t.get a) with
   |some _=>some (⟨t.mod a f,n,life,gens,drawn,toks,os⟩,⟨k (),code,pos,stack⟩)
   |none=>none)
  |.alloc o k=>some (⟨t.put n o,n+1,life,gens,drawn,toks,os⟩,⟨k n,code,pos,stack⟩)
  |.loadIfAlive a k=>some (⟨t,n,life,gens,drawn,toks,os⟩,⟨k (qnl (t.get a)),code,pos,stack⟩)
  |c=>(match step den p w ⟨⟨#[],life⟩,gens,drawn,toks,os⟩ ⟨c,code,pos,stack⟩ with
   |.go ⟨_,g,d,tk,o⟩ th=>some (⟨t,n,life,g,d,tk,o⟩,th)
   |.halt _ _=>none)
noncomputable def qq7(S:FS)(s:Shared):Prop:=Lay S.t S.n s.heap.objs/\s.heap.life=S.life/\s.gens=S.gens/\s.drawn=S.drawn/\s.toks=S.toks/\s.os=S.os
noncomputable def hOf(c:Sem Fin):Bool:=match c with
 |.load .. =>true
 |.update .. =>true
 |.alloc .. =>true
 |.loadIfAlive .. =>true
 |_=>false
noncomputable def Step.heap(h:Heap):Step->Step
 |.go s t=>.go { s with heap:=h } t
 |.halt o s=>.halt o { s with heap:=h }
theorem qiZ{den:Code->Sem Fin}{p:Program}{w:World}{h h':Heap}{gens:Array GenState}{drawn:Drawn}{toks:Nat}{os:OsState}{cur:Sem Fin}{code:Code}{pos:Pos}{stack:List Frame}(hc:hOf cur=false):
  step den p w ⟨h,gens,drawn,toks,os⟩ ⟨cur,code,pos,stack⟩=Step.heap h (step den p w ⟨h',gens,drawn,toks,os⟩ ⟨cur,code,pos,stack⟩):=by
 cases cur<;>first
  |(cases hc;done)
  |(simp only[step,finish];first|rfl|((repeat' split)<;>first|rfl|simp_all [Step.heap]))
theorem qmy(R:qq7 S s)(h:qgf den p w S t=some (S',t')): ∃s',step den p w s t= .go s' t'/\qq7 S' s':=by
 obtain⟨T,n,life,gens,drawn,toks,os⟩:=S;obtain⟨⟨objs,aI⟩,bM,ba,bH,eZ⟩:=s;obtain⟨L,e1,e2,e3,e4,e5⟩:=R;dsimp only at L e1 e2 e3 e4 e5;subst e1 e2 e3 e4 e5;obtain⟨cur,code,pos,stack⟩:=t;have al: ∀a,qnl (T.get a)=Heap.get? ⟨objs,aI⟩ a:=λa=>by rw[L.2 a];rfl
 by_cases hc:hOf cur=true
 ·cases cur<;>first
   |(cases hc;done)
   |skip
  case load a part k=>
   unfold qgf at h;dsimp only at h;rw[al] at h;unfold step;dsimp only;cases q:Heap.get? ⟨objs,aI⟩ a with
   |none=>rw[q] at h;cases h
   |some o=>rw[q] at h;cases h;exact⟨_,rfl,L,rfl,rfl,rfl,rfl,rfl⟩
  case update a part f k=>
   unfold qgf at h;dsimp only at h;rw[al] at h;unfold step;dsimp only;cases q:Heap.get? ⟨objs,aI⟩ a with
   |none=>rw[q] at h;cases h
   |some o=>rw[q] at h;cases h;exact⟨_,rfl,L.mod a f,rfl,rfl,rfl,rfl,rfl⟩
  case alloc o k=>
   unfold qgf at h;cases h;have e:n=objs.size:=L.1;subst e;exact⟨_,rfl,L.put o,rfl,rfl,rfl,rfl,rfl⟩
  case loadIfAlive a k=>
   unfold qgf at h;dsimp only at h;rw[al] at h;cases h;exact⟨_,rfl,L,rfl,rfl,rfl,rfl,rfl⟩
 ·have hc:hOf cur=false:=by simpa using hc
  have h:(match step den p w ⟨⟨#[],aI⟩,bM,ba,bH,eZ⟩ ⟨cur,code,pos,stack⟩ with
   |.go ⟨_,g,d,tk,o⟩ th=>some ((⟨T,n,aI,g,d,tk,o⟩:FS),th)
   |.halt _ _=>none)=some (S',t'):=by
   cases cur<;>first
    |(cases hc;done)
    |exact h
  rw[qiZ (h':=⟨#[],aI⟩) hc];cases q:step den p w ⟨⟨#[],aI⟩,bM,ba,bH,eZ⟩ ⟨cur,code,pos,stack⟩ with
  |halt o s=>rw[q] at h;cases h
  |go s th=>rw[q] at h;obtain⟨hh,g,d,tk,o⟩:=s;cases h;exact⟨_,rfl,L,rfl,rfl,rfl,rfl,rfl⟩
noncomputable def qti(tb:String->Option Builtin)(p:Program)(w:World)(cJ:Nat)(ann:Option Value):Nat->FS->Thread->Option FS
 |0,_,_=>none
 |n+1,S,t=>match through t with
  |true=>some S
  |false=>match stepOk cJ ann t with
   |false=>none
   |true=>match qgf (denote tb) p w S t with
    |some (S',t')=>qti tb p w cJ ann n S' t'
    |none=>none
theorem qku: ∀(n:Nat)(S:FS)(s:Shared)(t:Thread),qq7 S s->qti tb p w cJ ann n S t=some S'->∃s',topRun tb p w cJ ann n s t=some s'/\qq7 S' s'
 |0,_,_,_,_,h=>by cases h
 |n+1,S,s,t,R,h=>by
  unfold qti at h;unfold topRun;cases q:through t with
  |true=>grind
  |false=>
   rw[q] at h;cases q2:stepOk _ ann t with
   |false=>rw[q2] at h;cases h
   |true=>
    rw[q2] at h;cases q3:qgf _ p w S t with
    |none=>rw[q3] at h;cases h
    |some x=>obtain⟨S1,t1⟩:=x;rw[q3] at h;obtain⟨s1,e,R1⟩:=qmy R q3;rw[e];exact qku n S1 s1 t1 R1 h
noncomputable def ofS(s:Shared):FS:=⟨ofL s.heap.objs.toList 0 .e,s.heap.objs.size,s.heap.life,s.gens,s.drawn,s.toks,s.os⟩
noncomputable def toS:FS->Shared
 |⟨t,n,life,gens,drawn,toks,os⟩=>⟨⟨(qqY t n 0).toArray,life⟩,gens,drawn,toks,os⟩
theorem qry(s:Shared):qq7 (ofS s) s:=by refine⟨?_,rfl,rfl,rfl,rfl,rfl⟩;have:=qjM s.heap.objs.toList 0 .e #[] ⟨rfl,λi=>rfl⟩;simpa [ofS] using this
theorem qrx(R:qq7 S s):toS S=s:=by obtain⟨T,n,life,gens,drawn,toks,os⟩:=S;obtain⟨⟨objs,aI⟩,bM,ba,bH,eZ⟩:=s;obtain⟨L,e1,e2,e3,e4,e5⟩:=R;dsimp only at L e1 e2 e3 e4 e5;subst e1 e2 e3 e4 e5;show(⟨⟨(qqY T n 0).toArray,aI⟩,bM,ba,bH,eZ⟩:Shared)=_;rw[L.out]
noncomputable def qmC(tb:String->Option Builtin)(p:Program)(w:World)(N:Nat)(s₀:Shared):Option Shared:=
 match s₀.heap.isNs mainGlobals&&s₀.gens.size==0 with
 | true=>(qti tb p w s₀.heap.objs.size (s₀.heap.nsMap mainGlobals "__annotations__") N (ofS s₀) (topStub p)).bind λcB=>match staticsOk (importedModules p.main.body) s₀.heap (toS cB).heap&&namesBound p (toS cB).heap&&gensDone (toS cB)&&laidKept s₀.heap (toS cB).heap with
   |true=>some (toS cB)
   |false=>none
 |false=>none
theorem qmB(h:qmC tb p w N s₀=some s):topFrom tb p w N s₀=some s:=by
 unfold qmC at h;unfold topFrom;cases q:s₀.heap.isNs _&&s₀.gens.size==0 with
 |false=>rw[q] at h;cases h
 |true=>
  rw[q] at h;cases q2:qti tb p w _ _ N _ _ with
  |none=>rw[q2] at h;cases h
  |some S=>rw[q2] at h;obtain⟨s1,e,R⟩:=qku N _ _ _ (qry _) q2;rw[e];have e2:=qrx R;dsimp only[Option.bind_some] at h⊢;rw[e2] at h;exact h
end FR
namespace HD
open PySem PySem.W
end HD
namespace FR
open PySem PySem.W HD
noncomputable def qqV(p:Program)(row:String)(N:Nat)(b:Bool)(w:World):Option Shared:=(fencedOpening treeTable p w N).bind (qmC treeTable p (w.withFollow row b) N)
noncomputable def runG(p:Program)(N:Nat)(w:World):Option Shared:=(fencedOpening treeTable p w N).bind (qmC treeTable p w N)
theorem qi3{row:String}(h:qqV p row N b w=some s):qqW p row N b w=some s:=by
 unfold qqV at h;unfold qqW;cases q:fencedOpening _ p w N with
 |none=>rw[q] at h;cases h
 |some s0=>rw[q] at h;exact qmB h
noncomputable def LookFX(p q:Program)(loose:List Str)(Xt:Shared->Bool)(row:String)(N:Nat)(b:Bool):Prop:= ∀w:World,(qqV p row N b w).map (λs=>(qme p q loose Xt s).2)=some (openGood q loose).2
noncomputable def LookFY(p q:Program)(loose:List Str)(Xt:Shared->Bool)(H:Hook)(row:String)(N:Nat)(b:Bool):Prop:= ∀w:World,(qqV p row N b w).map (λs=>((qme p q loose Xt s).1,H.obs s))=some ((openGood q loose).1,H.val (w.withFollow row b))
theorem qnF{loose:List Str}{row:String}(h:LookFX p q loose Xt row N b):qnp p q loose Xt row N b:=λw=>by
 have h:=h w;cases r:qqV p row N b w with
 |none=>rw[r] at h;cases h
 |some s=>rw[r] at h;rw[qi3 r];exact h
theorem qnE{loose:List Str}{row:String}(h:LookFY p q loose Xt H row N b):qno p q loose Xt H row N b:=λw=>by
 have h:=h w;cases r:qqV p row N b w with
 |none=>rw[r] at h;cases h
 |some s=>rw[r] at h;rw[qi3 r];exact h
theorem left_fp{loose:List Str}(row:String)(x0:LookFX p q loose Xt row N false)(y0:LookFY p q loose Xt H row N false)(x1:LookFX p q loose Xt row N true)(y1:LookFY p q loose Xt H row N true):
  LeftO p q loose Xt (Hook.obs H) (Hook.val H) N:=qip row (qnF x0) (qnE y0) (qnF x1) (qnE y1)
end FR
section
open PySem PySem.W PyProof.Rows
namespace K88
abbrev vq:Program:=HD.vw PySem.Challenge.pw_rowasks_k88_whole_desk_twins
abbrev lo:List Str:=["NUMBER_STEPS", "COUNT_STEPS", "BARE_STEPS"]
abbrev xt:Shared->Bool:=λs=>xlAt vq [] s&&recOk (RowW.records PySem.Challenge.rw_rowasks_k88_whole_desk_twins.row.toRowW) s
set_option maxRecDepth 100000 in
set_option maxHeartbeats 0 in
theorem rXF:FR.LookFX PySem.Challenge.pw_rowasks_k88_whole_desk_twins vq lo xt "special-get-raises" 20000 false:=λw=>by kernel_rfl
set_option maxRecDepth 100000 in
set_option maxHeartbeats 0 in
theorem rXT:FR.LookFX PySem.Challenge.pw_rowasks_k88_whole_desk_twins vq lo xt "special-get-raises" 20000 true:=λw=>by kernel_rfl
section
local macro_rules
 |`(tactic| o_head $H)=> `(tactic| (exact False.elim (by assumption);exact $H))
set_option maxRecDepth 100000 in
set_option maxHeartbeats 0 in
noncomputable def hk:Hook:=by
 refine(λ(_:False->PySem.Challenge.rw_rowasks_k88_whole_desk_twins.row.Holds)=> ?H) ?pf
 rotate_left
 intro hp
 k_head
end
set_option maxRecDepth 100000 in
set_option maxHeartbeats 0 in
theorem rYF:FR.LookFY PySem.Challenge.pw_rowasks_k88_whole_desk_twins vq lo xt hk "special-get-raises" 20000 false:=λw=>by kernel_rfl
set_option maxRecDepth 100000 in
set_option maxHeartbeats 0 in
theorem rYT:FR.LookFY PySem.Challenge.pw_rowasks_k88_whole_desk_twins vq lo xt hk "special-get-raises" 20000 true:=λw=>by kernel_rfl
end K88
end
namespace L2
open PySem PySem.Spec PyProof.Rows
abbrev Key:=Sum Int Str
noncomputable def keyIs:Key->Value->Bool
 |.inl k,v=>Value.isInt k v
 |.inr x,v=>Value.isStrOf x v
noncomputable def qyb(w:World):Key->Int
 |.inl k=>hashInt k
 |.inr x=>hashStr w x
theorem qaE: ∀{k:Key}{v:Value},keyIs k v=true->(∃i t,k=Sum.inl i/\v=Value.int i t)\/(∃x t,k=Sum.inr x/\v=Value.str x t)
 |.inl i,v,h=>by obtain⟨t,e⟩:=Value.isInt_shape h;exact .inl ⟨i,t,rfl,e⟩
 |.inr x,v,h=>by obtain⟨t,e⟩:=Value.isStrOf_shape h;exact .inr ⟨x,t,rfl,e⟩
theorem qjW(i:Int)(t:Tok):keyIs (.inl i) (.int i t)=true:=by simp[keyIs,Value.isInt]
theorem qjV(x:Str)(t:Tok):keyIs (.inr x) (.str x t)=true:=by simp[keyIs,Value.isStrOf]
theorem qsO(a b:Int):decide ((Sum.inl a:Key)=Sum.inl b)=(a==b):=by
 grind
theorem qsJ(a b:Str):decide ((Sum.inr a:Key)=Sum.inr b)=decide (a=b):=by simp
theorem qsN(a:Int)(b:Str):decide ((Sum.inl a:Key)=Sum.inr b)=false:=Vv (λq=>nomatch q)
theorem qsK(a:Str)(b:Int):decide ((Sum.inr a:Key)=Sum.inl b)=false:=Vv (λq=>nomatch q)
noncomputable def qas(prog:Program)(w:World):PySem.KeyKind prog w Key where
 is:=keyIs
 hash:=qyb w
 inj:=λv a b ha hb=>by
  rcases qaE ha with⟨i,t,rfl,rfl⟩|⟨x,t,rfl,rfl⟩
  ·rcases qaE hb with⟨j,u,rfl,e⟩|⟨y,u,rfl,e⟩
   ·injection e with e1 _;rw[e1]
   ·exact nomatch e
  ·rcases qaE hb with⟨j,u,rfl,e⟩|⟨y,u,rfl,e⟩
   ·exact nomatch e
   ·injection e with e1 _;rw[e1]
 byValue:=λk v h=>by
  rcases qaE h with⟨i,t,rfl,rfl⟩|⟨x,t,rfl,rfl⟩<;>rfl
 pyHash:=λhv h=>by
  rcases qaE hv with⟨i,t,rfl,rfl⟩|⟨x,t,rfl,rfl⟩
  ·exact wpAny_pyHash_int h
  ·exact wpAny_pyHash_str h
 eqBool:=λhu hv h=>by
  rcases qaE hu with⟨i,t,rfl,rfl⟩|⟨x,t,rfl,rfl⟩
  ·rcases qaE hv with⟨j,u,rfl,rfl⟩|⟨y,u,rfl,rfl⟩
   ·rw[qsO] at h;exact wpAny_eqBool_int h
   ·rw[qsN] at h;exact SeqAt.EqAt.int_str i t y u _ _ _ _ h
  ·rcases qaE hv with⟨j,u,rfl,rfl⟩|⟨y,u,rfl,rfl⟩
   ·rw[qsK] at h;exact SeqAt.EqAt.str_int x t j u _ _ _ _ h
   ·rw[qsJ] at h;exact wpAny_eqBool_str h
 «strs» :=λk x t v h=>by
  rcases qaE h with⟨i,u,rfl,e⟩|⟨y,u,rfl,e⟩
  ·exact nomatch e
  ·injection e with e1 _
   subst e1;cases v<;>rfl
theorem qf4(prog:Program)(w:World)(i:Int)(t:Tok):(qas prog w).is (.inl i) (.int i t)=true:=qjW i t
theorem qf3(prog:Program)(w:World)(x:Str)(t:Tok):(qas prog w).is (.inr x) (.str x t)=true:=qjV x t
inductive V where
 |non|bl (b:Bool)|int (i:Int)|str (x:Str)|byt (b:Array UInt8)|flt (b:UInt64)|ref (a:Addr)|ty (n:String)
 deriving DecidableEq
noncomputable def RelV:V->Value->Prop
 |.non,u=>u=Value.none
 |.bl b,u=>u=Value.bool b
 |.int i,u=> ∃t,u=Value.int i t
 |.str x,u=> ∃t,u=Value.str x t
 |.byt b,u=> ∃t,u=Value.bytes b t
 |.flt b,u=> ∃t,u=Value.float b t
 |.ref a,u=>u=Value.ref a
 |.ty n,u=>u=Value.type n
abbrev qau:List V->List Value->Prop:=Paired RelV
theorem qau.length(r:qau xs us):xs.length=us.length:=Paired.length r
theorem qau.get: ∀{xs:List V}{us:List Value}{i:Nat}{x:V},qau xs us->xs[i]? =some x->∃u,us[i]? =some u/\RelV x u
 |_,_,_,_,.nil,e=>by simp at e
 |_,_,0,_,.cons r _,e=>by simp_all
 |_,_,i+1,x,.cons _ t,e=>by
  obtain⟨u,h1,h2⟩:=qau.get t (by simpa using e)
  simp_all
theorem qau.set(r:RelV x u): ∀{xs:List V}{us:List Value}(i:Nat),qau xs us->qau (xs.set i x) (us.set i u)
 |_,_,_,.nil=>.nil
 |_,_,0,.cons _ t=>.cons r t
 |_,_,i+1,.cons q t=>.cons q (qau.set r i t)
theorem qau.append: ∀{xs ys:List V}{us ws:List Value},qau xs us->qau ys ws->qau (xs++ys) (us++ws)
 |_,_,_,_,.nil,s=>s
 |_,_,_,_,.cons r t,s=>.cons r (qau.append t s)
theorem qau.take: ∀{xs:List V}{us:List Value}(n:Nat),qau xs us->qau (xs.take n) (us.take n)
 |_,_,0,_=>.nil
 |_,_,_+1,.nil=>.nil
 |_,_,n+1,.cons r t=>.cons r (qau.take n t)
theorem qau.drop: ∀{xs:List V}{us:List Value}(n:Nat),qau xs us->qau (xs.drop n) (us.drop n)
 |_,_,0,r=>r
 |_,_,_+1,.nil=>.nil
 |_,_,n+1,.cons _ t=>qau.drop n t
noncomputable def qeB:Option V->Option Value->Prop
 |some v,some u=>RelV v u
 |none,none=>True
 |_,_=>False
noncomputable def KV{κ:Type}:List (κ×V)->List (κ×Value)->Prop:=Paired λ(p:κ×V)(q:κ×Value)=>p.1=q.1/\RelV p.2 q.2
noncomputable def kV:Key->V
 |.inl i=>.int i
 |.inr x=>.str x
inductive HO where
 |lst (xs:List V)
 |tup (xs:List V)
 |dK (kvs:List (Key×V))|dT (kvs:List (List Key×V))
 |set (S:Int->Bool) (n:Nat)
 |ins (C dx:Addr) (fs:List (Str×V))
 |own (x:Addr)
 |xd (fs:List (Str×V))
 |met (f x:Addr)
 |rng (lo hi:Int)
 |frz (o:Obj) (u:HO)
 |tbl (ps:Array Value)
 |ext (φ:Heap->Prop)
abbrev Hp:=Addr->Option HO
noncomputable def upd(H:Hp)(a:Addr)(o:HO):Hp:=λb=>if b=a then some o else H b
theorem qae:upd H a o a=some o:=by unfold upd;rw[if_pos rfl]
theorem qac(h:b≠a):upd H a o b=H b:=by unfold upd;rw[if_neg h]
theorem qfP:upd (upd H a o) a u=upd H a u:=by
 funext b;unfold upd;split<;>rfl
theorem qvP{H:Hp}{a b:Addr}{o u:HO}(h:H a=some o)(h':H b=some u)(d:o≠u):a≠b:=by
 grind
theorem qaj{H:Hp}{a b:Addr}{o:HO}(h:H a=some o)(h':H b=none):a≠b:=by
 grind
section
variable(P:Program)(w:World)
noncomputable def qaG(H:Hp)(h:Heap)(a:Addr):HO->Prop
 |.lst xs=>xs.length<=sizeLine/\∃(its:List Value)(n:Nat),qau xs its/\h.get? a=some { cls:=.type "list",data:=.seq its.toArray n }
 |.tup xs=>xs.length<=sizeLine/\∃its:List Value,qau xs its/\IsTup h a its.toArray
 |.dK kvs=>kvs.length<=sizeLine/\(a==sysModules)=false/\∃vs,KV kvs vs/\h.DictOf (qas P w) a vs
 | .dT kvs=>kvs.length<=sizeLine/\(a==sysModules)=false/\∃xs:List (List Key×Addr×Value),
   Paired (λ(p:List Key×V)(q:List Key×Addr×Value)=>p.1=q.1/\H q.2.1=some (.tup (p.1.map kV))/\RelV p.2 q.2.2) kvs xs/\
   ∃o es ep,h.get? a=some o/\o.ExactDict/\o.data= .dict es ep/\es.toList=xs.map (entryOfKey (tupleKind (qas P w)))/\(xs.map (·.1)).Nodup
 |.set S n=>h.SetOf (intKind P w) a S n
 | .ins C dx fs=>H dx=some (.own a)/\fs.length<=1000/\dx≠a/\h.get? a=some (W.instObj C dx)/\
   ∃mA,h.Ns1 dx mA/\(∀f,qeB (fs.lookup f) (mA f))/\PySem.Within mA (fs.map (·.1))
 |.own _=> ∃o,h.get? a=some o
 |.xd fs=> ∃mA,h.Ns1 a mA/\∀f,qeB (fs.lookup f) (mA f)
 |.rng lo hi=> ∃t u v,h.get? a=some { cls:=.type "range",data:=.fields #[.int lo t,.int hi u,.int 1 v] }
 |.frz o u=>h.get? a=some o/\qaG H h a u
 |.tbl ps=>h.get? a=some { cls:=.none,data:=.fields ps }
 |.met f x=>h.get? a=some (W.methodObj (.ref f) (.ref x))
 |.ext φ=>φ h/\(∃o,h.get? a=some o)/\∀h1 h2:Heap,φ h1->(∀o,h1.get? a=some o->h2.get? a=some o)->φ h2
noncomputable def HOk(H:Hp)(h:Heap):Prop:= ∀a o,H a=some o->qaG P w H h a o
end
section
variable{P:Program}{w:World}{H H':Hp}{h h':Heap}{a:Addr}{o:HO}
theorem qaG.lt(x:qaG P w H h a o):a<h.objs.size:=by
 cases o with
 |lst xs=>obtain⟨_,_,_,_,e⟩:=x;exact Vi e
 |tup xs=>obtain⟨_,_,_,p⟩:=x;exact p.lt
 |dK kvs|dT kvs=>obtain⟨_,_,_,_,o,_,_,e,_⟩:=x;exact Vi e
 |set S n=>obtain⟨o,_,_,_,e,_⟩:=x;exact Vi e
 |ins C dx fs=>obtain⟨_,_,_,e,_⟩:=x;exact Vi e
 |own y=>obtain⟨_,e⟩:=x;exact Vi e
 |xd fs=>obtain⟨_,⟨_,_,_,e,_⟩,_⟩:=x;exact Vi e
 |rng lo hi=>obtain⟨_,_,_,e⟩:=x;exact Vi e
 |frz ob u=>obtain⟨e,_⟩:=x;exact Vi e
 |tbl ps|met f y=>exact Vi (x)
 |ext φ=>obtain⟨_,⟨_,e⟩,_⟩:=x;exact Vi e
theorem Paired.mapP{α β:Type}{F G:α->β->Prop}: ∀{fI:List α}{l₂:List β},Paired F fI l₂->(∀a b,F a b->G a b)->Paired G fI l₂
 |_,_,.nil,_=>.nil
 |_,_,.cons r t,f=>.cons (f _ _ r) (Paired.mapP t f)
theorem qaG.stay(x:qaG P w H h a o)(k: ∀b u,(b=a\/H b=some (.own a))->h.get? b=some u->h'.get? b=some u)(ho: ∀b,H b=some (.own a)->H' b=some (.own a))(ht: ∀b xs,H b=some (.tup xs)->H' b=some (.tup xs)):qaG P w H' h' a o:=by
 induction o with
 |lst xs=>obtain⟨z,its,n,r,e⟩:=x;exact⟨z,its,n,r,k _ _ (.inl rfl) e⟩
 |tup xs=>obtain⟨z,its,r,ob,e,c⟩:=x;exact⟨z,its,r,ob,k _ _ (.inl rfl) e,c⟩
 |dK kvs=>obtain⟨z,y,vs,r,ob,es,ep,e,c⟩:=x;exact⟨z,y,vs,r,ob,es,ep,k _ _ (.inl rfl) e,c⟩
 |dT kvs=>obtain⟨z,y,xs,r,ob,es,ep,e,c⟩:=x;exact⟨z,y,xs,Paired.mapP r λp q z=>⟨z.1,ht _ _ z.2.1,z.2.2⟩,ob,es,ep,k _ _ (.inl rfl) e,c⟩
 |set S n=>obtain⟨ob,es,ep,t,e,c⟩:=x;exact⟨ob,es,ep,t,k _ _ (.inl rfl) e,c⟩
 |ins C dx fs=>obtain⟨d,z,ne,e,mA,⟨od,es,ep,e2,c⟩,r⟩:=x;exact⟨ho _ d,z,ne,k _ _ (.inl rfl) e,mA,⟨od,es,ep,k _ _ (.inr d) e2,c⟩,r⟩
 |own y=>obtain⟨ob,e⟩:=x;exact⟨ob,k _ _ (.inl rfl) e⟩
 |xd fs=>obtain⟨mA,⟨od,es,ep,e,c⟩,r⟩:=x;exact⟨mA,⟨od,es,ep,k _ _ (.inl rfl) e,c⟩,r⟩
 |rng lo hi=>obtain⟨t,u,v,e⟩:=x;exact⟨t,u,v,k _ _ (.inl rfl) e⟩
 |frz ob u ih=>obtain⟨e,q⟩:=x;exact⟨k _ _ (.inl rfl) e,ih q⟩
 |tbl ps|met f y=>have e:=x;exact k a _ (.inl rfl) e
 |ext φ=>obtain⟨p,⟨o,e⟩,st⟩:=x;exact⟨st _ _ p λo q=>k _ _ (.inl rfl) q,⟨o,k _ _ (.inl rfl) e⟩,st⟩
theorem HOk.lt(x:HOk P w H h)(e:H a=some o):a<h.objs.size:=(x a o e).lt
theorem HOk.fresh(x:HOk P w H h)(e:h.objs.size<=a):H a=none:=by
 cases q:H a with
 |none=>rfl
 |some u=>exact absurd (Vm (x.lt q) e) (Nat.lt_irrefl _)
theorem HOk.kept(x:HOk P w H h)(k: ∀b u,h.get? b=some u->h'.get? b=some u):HOk P w H h':=λa o e=>
 (x a o e).stay (λb u _ q=>k b u q) (λ_ q=>q) λ_ _ q=>q
theorem HOk.laid(x:HOk P w H h)(k: ∀b u,h.get? b=some u->h'.get? b=some u)(hp:h.objs.size<=a)(new:qaG P w (upd H a o) h' a o):HOk P w (upd H a o) h':=λb u e=>by
 have hn:=x.fresh hp;by_cases hb:b=a
 ·subst hb;rw[qae] at e;cases e;exact new
 ·rw[qac hb] at e;exact(x b u e).stay (λc v _ q=>k c v q) (λc q=>by rw[qac (qaj q hn)];exact q) λc xs q=>by rw[qac (qaj q hn)];exact q
end
noncomputable def Rd(H:Hp)(a:Addr)(u:HO):Prop:=H a=some u\/∃o,H a=some (.frz o u)
theorem Rd.of{H:Hp}{a:Addr}{u:HO}(h:H a=some u):Rd H a u:=.inl h
theorem Rd.ok(r:Rd H a u)(x:HOk P w H h):qaG P w H h a u:=by
 rcases r with r|⟨o,r⟩
 ·exact x a u r
 ·obtain⟨_,q⟩:=x a _ r;exact q
noncomputable def Mut:Option HO->Prop
 |some (.lst _)=>True
 |some (.dK _)=>True
 |some (.dT _)=>True
 |some (.set _ _)=>True
 |some (.ins _ _ _)=>True
 |some (.ext _)=>True
 |_=>False
section
theorem HOk.write(ok:HOk P w H h)(mu:Mut (H x))(he:e=x\/H e=some (.own x))(k: ∀b u,b≠e->h.get? b=some u->h'.get? b=some u)(fg: ∃u,h'.get? e=some u)(new:qaG P w (upd H x o') h' x o'):HOk P w (upd H x o') h':=λb u q=>by
 have iy: ∀c y,H c=some (.own y)->c≠x:=λc y r z=>by subst z;rw[r] at mu;exact mu
 have iw: ∀c xs,H c=some (.tup xs)->c≠x:=λc xs r z=>by subst z;rw[r] at mu;exact mu
 by_cases hb:b=x
 ·subst hb;rw[qae] at q;cases q;exact new
 ·rw[qac hb] at q;by_cases gZ:b=e
  ·have q':H b=some (.own x):=by
    grind
   rw[q] at q';cases q';obtain⟨v,hv⟩:=fg;exact⟨v,by rw[gZ];exact hv⟩
  ·refine(ok b u q).stay (λc v hc r=>k c v ?_ r) (λc r=>by rw[qac (iy c b r)];exact r) λc xs r=>by rw[qac (iw c xs r)];exact r
   grind
end
structure Un(fs ex:List Addr)(H H':Hp)(h h':Heap):Prop where
 keep: ∀b o,h.get? b=some o->H b=none->b∉fs->b∉ex->h'.get? b=some o
 slot: ∀b o,h.get? b=some o->H b=none->b∈fs->b∉ex->∃sl,h'.get? b=some { o with slots:=sl }
 free: ∀b o,h.get? b=some o->H b=none->b∉ex->H' b=none
 there: ∀b o,h.get? b=some o->b∉ex->∃o',h'.get? b=some o'
 tups: ∀b xs,H b=some (.tup xs)->H' b=some (.tup xs)
 frzs: ∀b o u,H b=some (.frz o u)->H' b=some (.frz o u)
 tbls: ∀b ps,H b=some (.tbl ps)->∃more,H' b=some (.tbl (ps++more))
section
theorem Un.any(u:Un fs ex H H1 h h1)(q:h.get? b=some ob)(n:H b=none)(hx:b∉ex): ∃sl,h1.get? b=some { ob with slots:=sl }:=by
 by_cases hb:b∈fs
 ·exact u.slot b ob q n hb hx
 ·exact⟨ob.slots,u.keep b ob q n hb hx⟩
theorem Un.kept(k: ∀b u,h.get? b=some u->h'.get? b=some u):Un fs ex H H h h':=
 ⟨λb ob q _ _ _=>k b ob q,λb ob q _ _ _=>⟨ob.slots,k b ob q⟩,λ_ _ _ n _=>n,λb ob q _=>⟨ob,k b ob q⟩,λ_ _ q=>q,λ_ _ _ q=>q,λ_ ps q=>⟨#[],by rw[q];simp⟩⟩
theorem Un.refl:Un fs ex H H h h:=Un.kept λ_ _ q=>q
theorem Un.laid{fs:List Addr}{ex:List Addr}{H:Hp}{h:Heap}{h':Heap}{a:Addr}{o:HO}(k: ∀b u,h.get? b=some u->h'.get? b=some u)(hp:h.objs.size<=a)(hn:H a=none):Un fs ex H (upd H a o) h h' where
 keep:=λb u q _ _ _=>k b u q
 slot:=λb u q _ _ _=>⟨u.slots,k b u q⟩
 free:=λb u q n _=>by rw[qac (Nat.ne_of_lt (Nat.lt_of_lt_of_le (Heap.lt_size q) hp))];exact n
 there:=λb u q _=>⟨u,k b u q⟩
 tups:=λb xs q=>by rw[qac (qaj q hn)];exact q
 frzs:=λb u xs q=>by rw[qac (qaj q hn)];exact q
 tbls:=λb ps q=>⟨#[],by rw[qac (qaj q hn),q];simp⟩
theorem Un.write(mu:Mut (H x))(he:e=x\/H e=some (.own x))(k: ∀b u,b≠e->h.get? b=some u->h'.get? b=some u)(fg: ∃u,h'.get? e=some u):Un fs ex H (upd H x o) h h':=by
 have hx: ∀b,H b=none->b≠x:=λb n z=>by subst z;rw[n] at mu;exact mu
 have hb: ∀b,H b=none->b≠e:=λb n z=>by
  grind
 have hm: ∀b u,H b=some u->¬Mut (some u)->b≠x:=λb u q nm z=>by grind
 refine⟨λb u q n _ _=>k b u (hb b n) q,λb u q n _ _=>⟨u.slots,k b u (hb b n) q⟩,λb u q n _=>by rw[qac (hx b n)];exact n,λb u q _=> ?_,
  λb xs q=>by rw[qac (hm b _ q λz=>z)];exact q,λb u xs q=>by rw[qac (hm b _ q λz=>z)];exact q,λb ps q=>⟨#[],by rw[qac (hm b _ q λz=>z),q];simp⟩⟩
 by_cases gZ:b=e
 ·subst gZ;exact fg
 ·exact⟨u,k b u gZ q⟩
end
noncomputable def trk(h:Heap)(H:Hp):List Addr:=(List.range h.objs.size).filter λa=>(H a).isSome
noncomputable def qj7(h:Heap)(H:Hp):Heap:=W.hideAll h (trk h H)
theorem qj6(h:Heap)(H:Hp):(qj7 h H).objs.size=h.objs.size:=W.hideAll_size _ _
theorem qmt(e:h.get? b=some o)(n:H b=none):(qj7 h H).get? b=some o:=
 W.hideAll_get _ e λhm=>by have q:=(List.mem_filter.mp hm).2;rw[n] at q;simp at q
theorem qpg(e:(qj7 h H).get? b=some o):h.get? b=some o/\H b=none:=by
 have e':=W.of_hideAll _ e;refine⟨e',?_⟩;cases q:H b with
 |none=>rfl
 |some x=>have hm:b∈trk h H:=List.mem_filter.mpr ⟨List.mem_range.mpr (Vi e'),by simp[q]⟩;have z:(qj7 h H).get? b=none:=W.hideAll_none _ hm;rw[z] at e;cases e
noncomputable def qqM(g h:Heap)(L:Addr):List (Addr×Obj):=(List.range h.objs.size).filterMap λa=>if a=L\/(g.get? a).isSome=true then none else(h.get? a).map λo=>(a,o)
noncomputable def qbT(g h:Heap)(L d:Addr):List (Addr×Obj):=(qqM g h L).filter λp=>decide (p.1≠d)
structure Mod(K:W.Frag)(mg:Str->Option Value)(base:Heap):Prop where
 kin:K.In base
 glob:base.Ns mainGlobals mg
 blt: ∃mb,base.Ns builtinsNs mb/\∀x:Str,x≠ "__name__" ->mb x=bootBuiltins x
 nolimit:base.NoLimit
structure Cx where
 prog:Program
 w:World
 K:W.Frag
 mg:Str->Option Value
 base:Heap
 A:Around
 N:List Str
 s₀:Shared
 H₀:Hp
 env:Env
 outer:List Env
 stack:List Env
 ex:List Addr
 fn:Str->Bool
 calm:Bool
 pn:List (Addr×Obj)
 xe:Value->Shared->Prop
noncomputable def frs(l:List Env):List Addr:=l.filterMap (·.frame)
abbrev Cx.fs(X:Cx):List Addr:=frs X.outer
noncomputable def Vis(sc:Scope)(x:Str):Prop:=sc.names.lookup x=some .local\/sc.names.lookup x=some .cell\/sc.names.lookup x=some .free
noncomputable def Loc(sc:Scope)(x:Str):Prop:=sc.names.lookup x=some .local\/sc.names.lookup x=some .cell
noncomputable def qyN(env:Env)(h:Heap)(m:Str->Option Value)(x:Str)(u:Value):Prop:=
 (env.kindOf x=some .local/\m x=some u)\/((env.kindOf x=some .cell\/env.kindOf x=some .free)/\∃c,env.cells.lookup x=some c/\h.IsCell c (some u))
structure Cx.Ok(X:Cx):Prop where
 mod:Mod X.K X.mg X.base
 kind:X.env.scope.kind= .function
 glob:X.env.globals=mainGlobals
 blt:X.env.builtins=builtinsNs
 above:X.s₀.heap.objs.size<=X.env.locals
 inj: ∀x y c,X.env.cells.lookup x=some c->X.env.cells.lookup y=some c->x=y
 has: ∀x,(X.env.kindOf x=some .cell\/X.env.kindOf x=some .free)->∃c,X.env.cells.lookup x=some c
 cab: ∀x c,X.fn x=true->X.env.cells.lookup x=some c->X.s₀.heap.objs.size<=c
 hd:X.calm=true->X.A.handled=none
 frames:X.A.frames=some X.stack
 stk:X.stack=X.outer\/(X.stack=X.env::X.outer/\X.env.frame=some X.env.locals)
 exf: ∀b∈X.ex,b≠X.env.locals/\∀x c,X.env.cells.lookup x=some c->c≠b
 bs: ∀b o,X.base.get? b=some o->X.s₀.heap.get? b=some o/\X.H₀ b=none
 bsz:X.base.objs.size<=X.s₀.heap.objs.size
 noex: ∀b o,X.base.get? b=some o->b∉X.ex
 exfs: ∀b∈X.ex,b∉X.fs
 funs:X.s₀.heap.FunFrames X.base X.outer
 frf: ∀b∈X.fs,X.H₀ b=none
structure Inv(X:Cx)(Z:List (Addr×Obj))(σ:List (Option V))(H:Hp)(s:Shared):Prop where
 ok:X.Ok
 os:s.os=X.s₀.os
 bare:AllBare s.gens
 base:Un X.fs X.ex X.H₀ H X.s₀.heap s.heap
 loc: ∃m,s.heap.Ns X.env.locals m/\∀(i:Nat)(x:Str)(v:V),X.N[i]? =some x->σ[i]? =some (some v)->Vis X.env.scope x->∃u,RelV v u/\qyN X.env s.heap m x u
 cell: ∀x c,X.env.cells.lookup x=some c->∃v,s.heap.IsCell c v
 free:H X.env.locals=none
 freeC: ∀x c,X.env.cells.lookup x=some c->H c=none
 pin: ∀p∈X.pn++Z,s.heap.get? p.1=some p.2/\H p.1=none/\p.1≠X.env.locals/\p.1∉X.fs/\∀v,p.2.data≠.cell v
 hok:HOk X.prog X.w H s.heap
 len:σ.length=X.N.length
section
theorem Cx.Ok.nofr{X:Cx}(ok:X.Ok)(e:X.base.get? b=some o):b∉X.fs:=λhb=>by
 have:=(ok.funs.mem hb).1
 grind
theorem Inv.bs{X:Cx}{s:Shared}(I:Inv X Z σ H s): ∀b o,X.base.get? b=some o->s.heap.get? b=some o/\H b=none:=λb o e=>
 ⟨I.base.keep b o (I.ok.bs b o e).1 (I.ok.bs b o e).2 (I.ok.nofr e) (I.ok.noex b o e),I.base.free b o (I.ok.bs b o e).1 (I.ok.bs b o e).2 (I.ok.noex b o e)⟩
theorem Inv.bk(I:Inv X Z σ H s): ∀b o,X.base.get? b=some o->s.heap.get? b=some o:=λb o e=>(I.bs b o e).1
theorem Inv.mod(I:Inv X Z σ H s):Mod X.K X.mg X.base:=I.ok.mod
theorem Inv.kIn(I:Inv X Z σ H s):X.K.In s.heap:=I.ok.mod.kin.keeps I.bk
theorem Inv.lt(I:Inv X Z σ H s):X.env.locals<s.heap.objs.size:=let ⟨_,hn,_⟩:=I.loc;hn.lt
theorem Inv.sz(I:Inv X Z σ H s):X.s₀.heap.objs.size<=s.heap.objs.size:=Vp I.ok.above (Vo I.lt)
theorem Inv.nofs(I:Inv X Z σ H s)(h:s.heap.objs.size<=a):a∉X.fs:=λhb=>by obtain⟨_,o,ho,_⟩:=I.ok.funs.mem hb;exact absurd (Vm (Vi ho) (Vp I.sz h)) (Nat.lt_irrefl _)
theorem Inv.cne(I:Inv X Z σ H s): ∀x c,X.env.cells.lookup x=some c->c≠X.env.locals:=λx c e z=>by
 obtain⟨v,o,ho,hd⟩:=I.cell x c e;obtain⟨m,⟨o',es,ep,bE,eO,_⟩,_⟩:=I.loc
 grind
theorem Inv.funs(I:Inv X Z σ H s):s.heap.FunFrames X.base X.outer:=by
 have all: ∀(l:List Env),(∀b∈frs l,b∈X.fs)->X.s₀.heap.FunFrames X.base l->s.heap.FunFrames X.base l:=by
  intro l
  induction l with
  |nil=>intro _ _;trivial
  |cons env r ih=>intro hs hl;obtain⟨hk,⟨L,o,hf,hn,ho,hd⟩,hr⟩:=hl;have hL:=hs L (by unfold frs;simp_all);obtain⟨sl,e⟩:=I.base.slot L o ho (I.ok.frf L hL) hL λz=>I.ok.exfs L z hL;exact⟨hk,⟨L,_,hf,hn,e,hd⟩,ih (λb hb=>hs b (by unfold frs;rw[List.filterMap_cons,hf];exact Vk _ hb)) hr⟩
 exact all _ (λ_ hb=>hb) I.ok.funs
theorem Inv.stack(I:Inv X Z σ H s):s.heap.FunFrames X.base X.stack:=by
 rcases I.ok.stk with e|⟨e,hf⟩
 ·rw[e];exact I.funs
 ·rw[e];obtain⟨m,hn,_⟩:=I.loc;refine .cons (by rw[I.ok.kind];decide) hf hn ?_ I.funs;exact Heap.get?_none_of_le (Vp I.ok.bsz I.ok.above)
theorem Inv.stkSub(I:Inv X Z σ H s): ∀b∈frs X.stack,b∈X.env.locals::X.fs:=λb hb=>by
 rcases I.ok.stk with e|⟨e,hf⟩
 ·grind
 ·rw[e] at hb;unfold frs at hb;rw[List.filterMap_cons,hf] at hb;exact hb
theorem Inv.stkFree(I:Inv X Z σ H s): ∀b∈frs X.stack,H b=none:=λb hb=>by
 rcases List.mem_cons.mp (I.stkSub b hb) with e|hb
 ·rw[e];exact I.free
 ·obtain⟨_,o,ho,_⟩:=I.ok.funs.mem hb;exact I.base.free b o ho (I.ok.frf b hb) λz=>I.ok.exfs b z hb
theorem Inv.step{X:Cx}{Z:List (Addr×Obj)}{σ:List (Option V)}{H:Hp}{H':Hp}{s:Shared}{h':Heap}{g':Array GenState}{t':Nat}{d':Drawn}{ch:List Addr}(I:Inv X Z σ H s)(aU: ∀b∈ch,(b∈X.ex\/X.s₀.heap.objs.size<=b)/\b≠X.env.locals/\(∀x c,X.env.cells.lookup x=some c->c≠b)/\∀p∈X.pn++Z,p.1≠b)(keep: ∀b o,b≠X.env.locals->b∉X.fs->b∉ch->s.heap.get? b=some o->H b=none->h'.get? b=some o)(slot: ∀b o,b≠X.env.locals->b∈X.fs->b∉ch->s.heap.get? b=some o->H b=none->∃sl,h'.get? b=some { o with slots:=sl })(free: ∀b o,b∉ch->s.heap.get? b=some o->H b=none->H' b=none)(there: ∀b o,b∉ch->s.heap.get? b=some o->∃o',h'.get? b=some o')(tups: ∀b xs,H b=some (.tup xs)->H' b=some (.tup xs))(frzs: ∀b o u,H b=some (.frz o u)->H' b=some (.frz o u))(tbls: ∀b ps,H b=some (.tbl ps)->∃more,H' b=some (.tbl (ps++more)))(ns: ∀m,s.heap.Ns X.env.locals m->h'.Ns X.env.locals m)(hok:HOk X.prog X.w H' h')(hg:AllBare g'):
  Inv X Z σ H' { s with heap:=h',gens:=g',drawn:=d',toks:=t' }:=by
 have dG: ∀b o,X.s₀.heap.get? b=some o->b≠X.env.locals:=λb o e=>Vn (Vm (Vi e) I.ok.above);have gK: ∀b o,X.s₀.heap.get? b=some o->b∉X.ex->b∉ch:=λb o e hx hb=>by
  rcases(aU b hb).1 with z|z
  ·exact hx z
  ·exact absurd (Vm (Vi e) z) (Nat.lt_irrefl _)
 have cellK: ∀x c,X.env.cells.lookup x=some c->∀v,s.heap.IsCell c v->h'.IsCell c v:=by
  rintro x c e v ⟨o,ho,hd⟩;have dH:c∉ch:=λz=>(aU c z).2.2.1 x c e rfl;by_cases hc:c∈X.fs
  ·obtain⟨sl,q⟩:=slot c o (I.cne x c e) hc dH ho (I.freeC x c e);exact⟨_,q,hd⟩
  ·exact⟨o,keep c o (I.cne x c e) hc dH ho (I.freeC x c e),hd⟩
 refine⟨I.ok,I.os,hg,⟨λb o e n hb hx=> ?_,λb o e n hb hx=> ?_,λb o e n hx=> ?_,λb o e hx=> ?_,λb xs e=>tups b xs (I.base.tups b xs e),λb o xs e=>frzs b o xs (I.base.frzs b o xs e),λb ps e=> ?_⟩,?_,λx c e=> ?_,?_,λx c e=> ?_,λp hp=> ?_,hok,I.len⟩
 ·exact keep b o (dG b o e) hb (gK b o e hx) (I.base.keep b o e n hb hx) (I.base.free b o e n hx)
 ·obtain⟨sl,e1⟩:=I.base.slot b o e n hb hx;obtain⟨eY,e2⟩:=slot b _ (dG b o e) hb (gK b o e hx) e1 (I.base.free b o e n hx);exact⟨eY,e2⟩
 ·obtain⟨o',e1⟩:=I.base.there b o e hx;exact free b o' (gK b o e hx) e1 (I.base.free b o e n hx)
 ·obtain⟨o',e1⟩:=I.base.there b o e hx;exact there b o' (gK b o e hx) e1
 ·obtain⟨m1,e1⟩:=I.base.tbls b ps e
  grind
 ·obtain⟨m,hn,hl⟩:=I.loc;refine⟨m,ns m hn,λi x v e1 e2 e3=> ?_⟩;obtain⟨u,r,l⟩:=hl i x v e1 e2 e3;refine⟨u,r,?_⟩
  rcases l with l|⟨k,c,e,z⟩
  ·exact .inl l
  ·exact .inr ⟨k,c,e,cellK x c e _ z⟩
 ·obtain⟨v,z⟩:=I.cell x c e;exact⟨v,cellK x c e v z⟩
 ·obtain⟨m,⟨o,_,_,ho,_⟩,_⟩:=I.loc;exact free _ o (λz=>(aU _ z).2.1 rfl) ho I.free
 ·obtain⟨v,o,ho,hd⟩:=I.cell x c e;exact free c o (λz=>(aU c z).2.2.1 x c e rfl) ho (I.freeC x c e)
 ·obtain⟨e,n,ne,nf,d⟩:=I.pin p hp;have dH:p.1∉ch:=λz=>(aU p.1 z).2.2.2 p hp rfl;exact⟨keep p.1 p.2 ne nf dH e n,free p.1 p.2 dH e n,ne,nf,d⟩
theorem Inv.un{X:Cx}{Z:List (Addr×Obj)}{σ:List (Option V)}{H:Hp}{H':Hp}{s:Shared}{h':Heap}{t':Nat}(I:Inv X Z σ H s)(u:Un X.fs [] H H' s.heap h')(hok:HOk X.prog X.w H' h'):Inv X Z σ H' { s with heap:=h',toks:=t' }:=by
 obtain⟨m,⟨o,es,ep,ho,r⟩,_⟩:=id I.loc;obtain⟨sl,hL⟩:=u.any ho I.free (by simp);exact I.step (ch:=[]) (λ_ z=>nomatch z) (λb o _ hb _ e n=>u.keep b o e n hb (by simp)) (λb o _ hb _ e n=>u.slot b o e n hb (by simp)) (λb o _ e n=>u.free b o e n (by simp)) (λb o _ e=>u.there b o e (by simp)) u.tups u.frzs u.tbls (λm' hm=>by
  obtain⟨o',fk,hG,bE,r'⟩:=hm;rw[ho] at bE;cases bE;exact⟨_,fk,hG,hL,r'⟩) hok I.bare
theorem Inv.call{X:Cx}{Z:List (Addr×Obj)}{σ:List (Option V)}{H:Hp}{H':Hp}{s:Shared}{h':Heap}{g':Array GenState}{t':Nat}{d':Drawn}{ch:List Addr}(I:Inv X Z σ H s)(u:Un (frs X.stack) ch H H' s.heap h')(hok:HOk X.prog X.w H' h')(hg:AllBare g')(aU: ∀b∈ch,(b∈X.ex\/X.s₀.heap.objs.size<=b)/\b≠X.env.locals/\(∀x c,X.env.cells.lookup x=some c->c≠b)/\∀p∈X.pn++Z,p.1≠b):
  Inv X Z σ H' { s with heap:=h',gens:=g',drawn:=d',toks:=t' }:=by
 obtain⟨m,⟨o,es,ep,ho,r⟩,_⟩:=id I.loc;obtain⟨sl,hL⟩:=u.any ho I.free λz=>(aU _ z).2.1 rfl;exact I.step aU (λb o hL hb hc e n=>u.keep b o e n (λz=>(List.mem_cons.mp (I.stkSub b z)).elim hL hb) hc) (λb o _ _ hc e n=>u.any e n hc) (λb o hc e n=>u.free b o e n hc) (λb o hc e=>u.there b o e hc) u.tups u.frzs u.tbls (λm' hm=>by
  obtain⟨o',fk,hG,bE,r'⟩:=hm;rw[ho] at bE;cases bE;exact⟨_,fk,hG,hL,r'⟩) hok hg
theorem Inv.turned{X:Cx}{Z:List (Addr×Obj)}{σ:List (Option V)}{H:Hp}{s:Shared}{h':Heap}{t':Nat}{it:Addr}(I:Inv X Z σ H s)(k: ∀b o,b≠it->s.heap.get? b=some o->h'.get? b=some o)(hn:H it=none)(hL:it≠X.env.locals)(h1:it∈X.ex\/X.s₀.heap.objs.size<=it)(h2: ∀x c,X.env.cells.lookup x=some c->c≠it)(h3: ∀p∈X.pn++Z,p.1≠it):Inv X Z σ H { s with heap:=h',toks:=t' }:=by
 have nit: ∀b u,H b=some u->b≠it:=λb u e z=>by grind
 refine I.step (ch:=[it]) (λb hb=> ?_) (λb o _ _ hc e _=>k b o (λz=>hc (by simp[z])) e) (λb o _ _ hc e _=>⟨o.slots,k b o (λz=>hc (by simp[z])) e⟩) (λ_ _ _ _ n=>n)
  (λb o hc e=>⟨o,k b o (λz=>hc (by simp[z])) e⟩) (λ_ _ e=>e) (λ_ _ _ e=>e) (λb ps e=>⟨#[],by rw[e];simp⟩) (λm hm=> ?_) (λb u e=> ?_) I.bare
 ·have e:=by simpa using hb
  subst e;exact⟨h1,hL,h2,h3⟩
 ·obtain⟨o,es,ep,ho,r⟩:=hm;exact⟨o,es,ep,k _ o (Ne.symm hL) ho,r⟩
 ·refine(I.hok b u e).stay (λc v hc q=>k c v ?_ q) (λ_ q=>q) λ_ _ q=>q
  grind
theorem Inv.tok(I:Inv X Z σ H s)(t:Nat):Inv X Z σ H { s with toks:=t }:=I.un Un.refl I.hok
theorem Inv.kept(I:Inv X Z σ H s)(k: ∀b u,s.heap.get? b=some u->h'.get? b=some u):Inv X Z σ H { s with heap:=h',toks:=t' }:=I.un (Un.kept k) (I.hok.kept k)
theorem Inv.laid(I:Inv X Z σ H s)(k: ∀b u,s.heap.get? b=some u->h'.get? b=some u)(hp:s.heap.objs.size<=a)(new:qaG X.prog X.w (upd H a o) h' a o):
  Inv X Z σ (upd H a o) { s with heap:=h',toks:=t' }:=I.un (Un.laid k hp (I.hok.fresh hp)) (I.hok.laid k hp new)
theorem Inv.write(I:Inv X Z σ H s)(mu:Mut (H x))(he:e=x\/H e=some (.own x))(k: ∀b u,b≠e->s.heap.get? b=some u->h'.get? b=some u)(fg: ∃u,h'.get? e=some u)(new:qaG X.prog X.w (upd H x o) h' x o):Inv X Z σ (upd H x o) { s with heap:=h',toks:=t' }:=I.un (Un.write mu he k fg) (I.hok.write mu he k fg new)
theorem Inv.pins_of(I:Inv X Z σ H s)(h: ∀p∈br,s.heap.get? p.1=some p.2/\H p.1=none/\p.1≠X.env.locals/\p.1∉X.fs/\∀v,p.2.data≠.cell v):Inv X br σ H s:=
 ⟨I.ok,I.os,I.bare,I.base,I.loc,I.cell,I.free,I.freeC,λp hp=>(List.mem_append.mp hp).elim (λz=>I.pin p (Vr _ z)) (h p),I.hok,I.len⟩
theorem qec{N:List Str}(hN:N.Nodup){i j:Nat}{x:Str}(a:N[i]? =some x)(b:N[j]? =some x):i=j:=by obtain⟨h1,e1⟩:=List.getElem?_eq_some_iff.mp a;obtain⟨h2,e2⟩:=List.getElem?_eq_some_iff.mp b;exact(List.getElem_inj hN).mp (e1.trans e2.symm)
theorem qeI{X:Cx}{σ:List (Option V)}{s:Shared}{i:Nat}{x:Str}(I:Inv X Z σ H s)(hN:X.N.Nodup)(hi:X.N[i]? =some x)(hx:Loc X.env.scope x)(r:RelV v u)(h: ∀s',Inv X Z (σ.set i (some v)) H s'->(∃a,Heap.SameBut a s.heap s'.heap/\(a=X.env.locals\/X.env.cells.lookup x=some a))->Q () s')(hf:X.fn x=true\/X.env.scope.names.lookup x=some .local:=by first|exact .inl rfl|exact .inr rfl|assumption):wpAny M A (storeName X.env x u) Q E s:=by
 obtain⟨m,hn,hl⟩:=id I.loc;have eP:(X.env.scope.kind== .class||(X.env.scope.kind== .module&&X.env.locals != X.env.globals))=false:=by rw[I.ok.kind];rfl
 have cO:i<σ.length:=by rw[I.len];exact(List.getElem?_eq_some_iff.mp hi).1
 have cne:=I.cne;have tracked: ∀{a:Addr}{h':Heap},(∃o,s.heap.get? a=some o/\H a=none)->Heap.SameBut a s.heap h'->HOk X.prog X.w H h':=λ{a h'} ha hs b ob e=>by
  obtain⟨_,_,ag⟩:=ha;refine(I.hok b ob e).stay (λc w' hc q=>(hs.2 c ?_).trans q) (λ_ q=>q) λ_ _ q=>q;rintro rfl
  rcases hc with rfl|hc
  ·rw[ag] at e;cases e
  ·rw[ag] at hc;cases hc
 rcases hx with hk|hk
 ·refine wpAny_storeName_local hk hn (λh' c8 hs=> ?_) eP;obtain⟨oL,_,_,hoL,_⟩:=id hn;refine h _ ⟨I.ok,I.os,I.bare,⟨λb o e n hb hx=> ?_,λb o e n hb hx=> ?_,I.base.free,λb o e hx=> ?_,I.base.tups,I.base.frzs,I.base.tbls⟩,⟨_,c8,λj y v' e1 e2 e3=> ?_⟩,λy c e=> ?_,I.free,I.freeC,λp hp=> ?_,tracked ⟨oL,hoL,I.free⟩ hs,by simpa using I.len⟩ ⟨_,hs,.inl rfl⟩
  ·exact(hs.2 b (Vn (Vm (Vi e) I.ok.above))).trans (I.base.keep b o e n hb hx)
  ·obtain⟨sl,e1⟩:=I.base.slot b o e n hb hx;exact⟨sl,(hs.2 b (Vn (Vm (Vi e) I.ok.above))).trans e1⟩
  ·obtain⟨o',e1⟩:=I.base.there b o e hx;exact⟨o',(hs.2 b (Vn (Vm (Vi e) I.ok.above))).trans e1⟩
  ·by_cases hj:j=i
   ·subst hj;rw[hi] at e1;cases e1;rw[List.getElem?_set_self cO] at e2;cases e2;exact⟨u,r,.inl ⟨hk,by simp⟩⟩
   ·rw[List.getElem?_set_ne (Ne.symm hj)] at e2;obtain⟨u',r',q⟩:=hl j y v' e1 e2 e3;refine⟨u',r',?_⟩
    rcases q with⟨k,e⟩|⟨k,c,e,z⟩
    ·refine .inl ⟨k,?_⟩;have:y≠x:=λe=>hj (qec hN e1 (e▸hi));simp[this,e]
    ·exact .inr ⟨k,c,e,z.sameBut hs (cne y c e)⟩
  ·obtain⟨w',z⟩:=I.cell y c e;exact⟨w',z.sameBut hs (cne y c e)⟩
  ·obtain⟨e,n,ne,nf,d⟩:=I.pin p hp;exact⟨(hs.2 p.1 ne).trans e,n,ne,nf,d⟩
 ·have eJ:X.fn x=true:=by
   rcases hf with z|z
   ·exact z
   ·rw[z] at hk;cases hk
  obtain⟨c,hc⟩:=I.ok.has x (.inl hk);obtain⟨w',z⟩:=I.cell x c hc;refine wpAny_storeName_cell I.ok.kind hk hc z (λh' bS hs=> ?_);obtain⟨oc,fc,iJ⟩:=id z;refine h { s with heap:=h' } ⟨I.ok,I.os,I.bare,⟨λb o e n hb hx=> ?_,λb o e n hb hx=> ?_,I.base.free,λb o e hx=> ?_,I.base.tups,I.base.frzs,I.base.tbls⟩,⟨m,hn.sameBut hs (Ne.symm (cne x c hc)),λj y v' e1 e2 e3=> ?_⟩,λy c' e=> ?_,I.free,I.freeC,λp hp=> ?_,tracked ⟨oc,fc,I.freeC x c hc⟩ hs,by simpa using I.len⟩ ⟨c,hs,.inr hc⟩
  ·exact(hs.2 b (Vn (Vm (Vi e) (I.ok.cab x c eJ hc)))).trans (I.base.keep b o e n hb hx)
  ·obtain⟨sl,e1⟩:=I.base.slot b o e n hb hx;exact⟨sl,(hs.2 b (Vn (Vm (Vi e) (I.ok.cab x c eJ hc)))).trans e1⟩
  ·obtain⟨o',e1⟩:=I.base.there b o e hx;exact⟨o',(hs.2 b (Vn (Vm (Vi e) (I.ok.cab x c eJ hc)))).trans e1⟩
  ·by_cases hj:j=i
   ·subst hj;rw[hi] at e1;cases e1;rw[List.getElem?_set_self cO] at e2;cases e2;exact⟨u,r,.inr ⟨.inl hk,c,hc,bS⟩⟩
   ·rw[List.getElem?_set_ne (Ne.symm hj)] at e2;obtain⟨u',r',q⟩:=hl j y v' e1 e2 e3;refine⟨u',r',?_⟩
    rcases q with q|⟨k,c',e,z'⟩
    ·exact .inl q
    ·refine .inr ⟨k,c',e,z'.sameBut hs ?_⟩;rintro rfl;exact hj (qec hN e1 (I.ok.inj _ _ _ e hc▸hi))
  ·by_cases dj:c'=c
   ·subst dj;exact⟨_,bS⟩
   ·obtain⟨w2,z2⟩:=I.cell y c' e;exact⟨w2,z2.sameBut hs dj⟩
  ·obtain⟨e,n,ne,nf,d⟩:=I.pin p hp;refine⟨(hs.2 p.1 ?_).trans e,n,ne,nf,d⟩;intro q;rw[q,fc] at e;have q':oc=p.2:=Option.some.inj e;exact d w' (by rw[<-q'];exact iJ)
theorem qb1{X:Cx}{Z:List (Addr×Obj)}{σ:List (Option V)}{H:Hp}{s:Shared}{M:Model}{A:Around}{E:Value->Shared->Prop}{i:Nat}{x:Str}{v:V}{u:Value}{Q:Unit->Shared->Prop}(I:Inv X Z σ H s)(hN:X.N.Nodup)(hi:X.N[i]? =some x)(hx:Loc X.env.scope x)(r:RelV v u)(h: ∀s',Inv X Z (σ.set i (some v)) H s'->Q () s')(hf:X.fn x=true\/X.env.scope.names.lookup x=some .local:=by first|exact .inl rfl|exact .inr rfl|assumption):wpAny M A (storeName X.env x u) Q E s:=
 qeI I hN hi hx r (λs' I' _=>h s' I') hf
theorem Inv.call'(I:Inv X Z σ H s)(ho:s'.os=s.os)(u:Un (frs X.stack) ch H H' s.heap s'.heap)(hok:HOk X.prog X.w H' s'.heap)(hg:AllBare s'.gens)(aU: ∀b∈ch,(b∈X.ex\/X.s₀.heap.objs.size<=b)/\b≠X.env.locals/\(∀x c,X.env.cells.lookup x=some c->c≠b)/\∀p∈X.pn++Z,p.1≠b):Inv X Z σ H' s':=by obtain⟨h',g',d',t',o'⟩:=s';have e:=ho;subst e;exact I.call u hok hg aU
end
abbrev XK:=Value->Option Addr->Hp->Prop
abbrev St:=List (Option V)
abbrev VK:=V->Hp->Prop
abbrev TE:=St->Hp->VK->Prop
abbrev TT:=St->Hp->(Bool->Hp->Prop)->Prop
abbrev TA:=St->Hp->(List V->Hp->Prop)->Prop
structure qra where
 nx:St->Hp->Prop
 rt:VK
 bk:St->Hp->Prop:=λ_ _=>False
 ct:St->Hp->Prop:=λ_ _=>False
abbrev TS:=qra->St->Hp->Prop
noncomputable def EP(X:Cx)(Z:List (Addr×Obj))(σ:St)(Q:VK)(u:Value)(s':Shared):Prop:= ∃v H',Inv X Z σ H' s'/\RelV v u/\Q v H'
noncomputable def TP(X:Cx)(Z:List (Addr×Obj))(σ:St)(Q:Bool->Hp->Prop)(b:Bool)(s':Shared):Prop:= ∃H',Inv X Z σ H' s'/\Q b H'
noncomputable def AP(X:Cx)(Z:List (Addr×Obj))(σ:St)(Q:List V->Hp->Prop)(us:List Value)(s':Shared):Prop:= ∃vs H',Inv X Z σ H' s'/\qau vs us/\Q vs H'
noncomputable def SP(X:Cx)(Z:List (Addr×Obj))(D:qra)(f:Flow)(s':Shared):Prop:=
 match f with
 |.next=> ∃ae H',Inv X Z ae H' s'/\D.nx ae H'
 |.brk=> ∃ae H',Inv X Z ae H' s'/\D.bk ae H'
 |.cont=> ∃ae H',Inv X Z ae H' s'/\D.ct ae H'
 |.ret u=> ∃v ae H',Inv X Z ae H' s'/\RelV v u/\D.rt v H'
noncomputable def PE(X:Cx)(e:Expr)(t:TE):Prop:=
 ∀(Z:List (Addr×Obj))(s:Shared)(σ:St)(H:Hp)(Q:VK),Inv X Z σ H s->t σ H Q->wpAny (model X.prog X.w) X.A (eval e X.env) (EP X Z σ Q) X.xe s
noncomputable def PT(X:Cx)(e:Expr)(t:TT):Prop:=
 ∀(Z:List (Addr×Obj))(s:Shared)(σ:St)(H:Hp)(Q:Bool->Hp->Prop),Inv X Z σ H s->t σ H Q->wpAny (model X.prog X.w) X.A (isTrue e X.env (eval e X.env)) (TP X Z σ Q) X.xe s
noncomputable def PW(X:Cx)(e:Expr)(t:TT):Prop:=
 ∀(whole:Sem Value)(Z:List (Addr×Obj))(s:Shared)(σ:St)(H:Hp)(Q:Bool->Hp->Prop),Inv X Z σ H s->t σ H Q->wpAny (model X.prog X.w) X.A (isTrue e X.env whole) (TP X Z σ Q) X.xe s
theorem PW.pt{X:Cx}{e:Expr}{t:TT}(h:PW X e t):PT X e t:=h _
noncomputable def PA(X:Cx)(es:List Expr)(t:TA):Prop:=
 ∀(pos:Pos)(Z:List (Addr×Obj))(s:Shared)(σ:St)(H:Hp)(Q:List V->Hp->Prop),Inv X Z σ H s->t σ H Q->wpAny (model X.prog X.w) X.A (spliced (backTo pos (starEach es X.env))) (AP X Z σ Q) X.xe s
noncomputable def PS(X:Cx)(st:Stmt)(t:TS):Prop:=
 ∀(Z:List (Addr×Obj))(s:Shared)(σ:St)(H:Hp)(D:qra),Inv X Z σ H s->t D σ H->wpAny (model X.prog X.w) X.A (exec st X.env) (SP X Z D) X.xe s
noncomputable def PSs(X:Cx)(st:List Stmt)(t:TS):Prop:=
 ∀(Z:List (Addr×Obj))(s:Shared)(σ:St)(H:Hp)(D:qra),Inv X Z σ H s->t D σ H->wpAny (model X.prog X.w) X.A (execs st X.env) (SP X Z D) X.xe s
theorem thn{α:Type}{t:Sem α}{Q Q':α->Shared->Prop}{M:Model}{A:Around}{E:Value->Shared->Prop}{s:Shared}(h:wpAny M A t Q E s)(hQ: ∀a s,Q a s->Q' a s):wpAny M A t Q' E s:=Vc h hQ λ_ _ x=>x
section
variable{X:Cx}
theorem bin{a b:Expr}{ta tb:TE}(ha:PE X a ta)(hb:PE X b tb){Z:List (Addr×Obj)}{s:Shared}{σ:St}{H:Hp}{R:V->V->Hp->Prop}(I:Inv X Z σ H s)(h:ta σ H λx H1=>tb σ H1 λy H2=>R x y H2){α:Type}{Q:α->Shared->Prop}{f:Value->Value->Sem α}(hf: ∀v u s2 x y H2,Inv X Z σ H2 s2->RelV x v->RelV y u->R x y H2->wpAny (model X.prog X.w) X.A (f v u) Q X.xe s2):
  wpAny (model X.prog X.w) X.A (eval a X.env) (λv aa=>wpAny (model X.prog X.w) X.A (eval b X.env) (λu bA=>wpAny (model X.prog X.w) X.A (f v u) Q X.xe bA) X.xe aa) X.xe s:=by refine thn (ha _ s σ H _ I h) ?_;rintro v s1 ⟨x,H1,I1,r1,q1⟩;refine thn (hb _ s1 σ H1 _ I1 q1) ?_;rintro u s2 ⟨y,H2,I2,r2,q2⟩;exact hf v u s2 x y H2 I2 r1 r2 q2
noncomputable def qqT(i:Nat):TE:=λσ H Q=> ∃v,σ[i]? =some (some v)/\Q v H
noncomputable def tC(v:V):TE:=λ_ H Q=>Q v H
theorem qg9{x:Str}(hN:X.N[i]? =some x)(hv:Vis X.env.scope x)(hd:(x==("__debug__" :Str))=false:=by decide)(aK:(x==("__classdict__" :Str))=false:=by decide):PE X (.Name x pos) (qqT i):=by
 intro Z s σ H Q I h;obtain⟨v,e,h⟩:=h;obtain⟨m,hn,hl⟩:=I.loc;obtain⟨u,r,l⟩:=hl i x v hN e hv;have fin:EP X Z σ Q u s:=⟨v,H,I,r,h⟩
 rcases l with⟨hk,hm⟩|⟨hk,c,hc,ai⟩
 ·exact wpAny_Name (wpAny_loadName_local I.ok.kind hk hn hm fin) hd
 ·rcases hk with hk|hk
  ·exact wpAny_Name (wpAny_loadName_cell I.ok.kind hk hc ai fin) hd
  ·exact wpAny_Name (wpAny_loadName_free I.ok.kind hk hc ai fin aK) hd
theorem qnD{i j pos}:PE X (.Constant (.int i) j pos) (tC (.int i)):=λ_ _ _ H _ I h=>wpAny_Constant_int ⟨.int i,H,I.tok _,⟨_,rfl⟩,h⟩
theorem qo3{b j pos}:PE X (.Constant (.bool b) j pos) (tC (.bl b)):=λ_ _ _ H _ I h=>Constant_bool ⟨.bl b,H,I,rfl,h⟩
theorem qr4{j pos}:PE X (.Constant .none j pos) (tC .non):=λ_ _ _ H _ I h=>Constant_none ⟨.non,H,I,rfl,h⟩
theorem qha{x j pos}:PE X (.Constant (.str x) j pos) (tC (.str x)):=λ_ _ _ H _ I h=>Calls.Constant_str ⟨.str x,H,I.tok _,⟨_,rfl⟩,h⟩
noncomputable def Gl(X:Cx)(x:Str):Prop:=X.env.kindOf x=some .globalImplicit
theorem qbi{x:Str}(I:Inv X Z σ H s)(hg:Gl X x)(hm:X.mg x=some u)(h:Q u s)(hd:(x==("__debug__" :Str))=false:=by decide):wpAny (model X.prog X.w) X.A (eval (.Name x pos) X.env) Q E s:=
 Calls.Name_function_global I.ok.kind hg (Calls.loadGlobal_global (by rw[I.ok.glob];exact I.mod.glob.keeps I.bk) hm h) hd
theorem qdD{E:Value->Shared->Prop}{Z:List (Addr×Obj)}{s:Shared}{σ:St}{H:Hp}{x:Str}{u:Value}{pos:Pos}{Q:Value->Shared->Prop}(I:Inv X Z σ H s)(hg:Gl X x)(hm:X.mg x=none)(hv:bootBuiltins x=some u)(h:Q u s)(hn:x≠ "__name__" :=by decide)(hd:(x==("__debug__" :Str))=false:=by decide):wpAny (model X.prog X.w) X.A (eval (.Name x pos) X.env) Q E s:=by obtain⟨mb,h1,h2⟩:=I.mod.blt;exact Calls.Name_function_global I.ok.kind hg (Calls.loadGlobal_builtin (by rw[I.ok.glob];exact I.mod.glob.keeps I.bk) hm (by rw[I.ok.blt];exact h1.keeps I.bk) ((h2 x hn).trans hv) h) hd
theorem qcg{x:Str}(hg:Gl X x)(hm:X.mg x=some u)(r:RelV v u)(hd:(x==("__debug__" :Str))=false:=by decide):PE X (.Name x pos) (tC v):=
 λ_ _ _ H _ I h=>qbi I hg hm ⟨v,H,I,r,h⟩ hd
theorem qjk{x:Str}{v:V}{u:Value}{pos:Pos}(hg:Gl X x)(hm:X.mg x=none)(hv:bootBuiltins x=some u)(r:RelV v u)(hn:x≠ "__name__" :=by decide)(hd:(x==("__debug__" :Str))=false:=by decide):PE X (.Name x pos) (tC v):=
 λ_ _ _ H _ I h=>qdD I hg hm hv ⟨v,H,I,r,h⟩ hn hd
variable{a b:Expr}{ta tb:TE}{pos:Pos}
noncomputable def PC(X:Cx)(op:CmpOp)(a b:Expr)(t:TE):Prop:=
 ∀(Z:List (Addr×Obj))(s:Shared)(σ:St)(H:Hp)(Q:VK),Inv X Z σ H s->t σ H Q->
  wpAny (model X.prog X.w) X.A (eval a X.env) (λv aa=>wpAny (model X.prog X.w) X.A (eval b X.env) (λu bA=>wpAny (model X.prog X.w) X.A (compareOp op v u) (EP X Z σ Q) X.xe bA) X.xe aa) X.xe s
noncomputable def tB(t:TE):TT:=λσ H Q=>t σ H λx H1=> ∃c,x= .bl c/\Q c H1
theorem qxe{op:CmpOp}{t:TE}(h:PC X op a b t)(h1:behindInMarks op b=false:=by first|exact nobehind _ (by decide) (by decide)|rfl):PT X (.Compare a [op] [b] pos) (tB t):=by intro Z s σ H Q I hw;refine wpAny_isTrue_Compare1 (thn (h _ s σ H _ I hw) λv s1 h1=>thn h1 λu s2 h2=>thn h2 λc s3 ⟨x,H1,I1,r1,q1⟩=> ?_) h1;obtain⟨d,rfl,q⟩:=q1;cases r1;exact Vd ⟨H1,I1,q⟩
theorem qnB{e:Expr}{t:TE}(h:PE X e t)(he: ∀whole,isTrue e X.env whole=(do let v <-whole;standAt e.pos;holding [v] (truthy v)):=by intro _;rfl):PT X e (tB t):=by intro Z s σ H Q I hw;refine isTrue_plain (thn (h _ s σ H _ I hw) λv s1 ⟨x,H1,I1,r1,q1⟩=> ?_) (he _);obtain⟨d,rfl,q⟩:=q1;cases r1;exact Vd ⟨H1,I1,q⟩
variable{tA gE:TT}{qbT:List Expr}
noncomputable def qxZ(t u:TT):TT:=λσ H Q=>t σ H λc H1=>if c=true then u σ H1 Q else Q false H1
noncomputable def tOr(t u:TT):TT:=λσ H Q=>t σ H λc H1=>if c=true then Q true H1 else u σ H1 Q
noncomputable def qxU(t:TT):TT:=λσ H Q=>t σ H λc H1=>Q (!c) H1
theorem qoM(ha:PT X a tA):PW X (.BoolOp .And [a] pos) tA:=by
 intro wh Z s σ H Q I h;refine isTrue_and (thn (ha _ s σ H Q I h) λc s1 e=> ?_);cases c with
 |true=>exact isTrue_and_nil e
 |false=>exact e
theorem qnz(ha:PT X a tA):PW X (.BoolOp .Or [a] pos) tA:=by
 intro wh Z s σ H Q I h;refine isTrue_or (thn (ha _ s σ H Q I h) λc s1 e=> ?_);cases c with
 |false=>exact isTrue_or_nil e
 |true=>exact e
theorem qrO(ha:PT X a tA)(hb:PW X (.BoolOp .And (b::qbT) pos) gE):PW X (.BoolOp .And (a::b::qbT) pos) (qxZ tA gE):=by
 intro wh Z s σ H Q I h;refine isTrue_and (thn (ha _ s σ H _ I h) λc s1 ⟨H1,I1,q1⟩=> ?_);cases c with
 |true=>exact hb wh _ s1 σ H1 Q I1 q1
 |false=>exact⟨H1,I1,q1⟩
theorem qrN(ha:PT X a tA)(hb:PW X (.BoolOp .Or (b::qbT) pos) gE):PW X (.BoolOp .Or (a::b::qbT) pos) (tOr tA gE):=by
 intro wh Z s σ H Q I h;refine isTrue_or (thn (ha _ s σ H _ I h) λc s1 ⟨H1,I1,q1⟩=> ?_);cases c with
 |true=>exact⟨H1,I1,q1⟩
 |false=>exact hb wh _ s1 σ H1 Q I1 q1
theorem qnC(ha:PT X a tA):PT X (.UnaryOp .Not a pos) (qxU tA):=by intro Z s σ H Q I h;exact isTrue_not (ha _ s σ H _ I h)
noncomputable def quU(ta tb:TE):TE:=λσ H Q=>ta σ H λx H1=> ∃c,x= .bl c/\if c=true then tb σ H1 Q else Q (.bl false) H1
noncomputable def qxT(ta tb:TE):TE:=λσ H Q=>ta σ H λx H1=> ∃c,x= .bl c/\if c=true then Q (.bl true) H1 else tb σ H1 Q
noncomputable def quR(ta:TE):TE:=λσ H Q=>ta σ H λx H1=> ∃c,x= .bl c/\Q (.bl (!c)) H1
theorem qr8(ha:PE X a ta)(hb:PE X (.BoolOp .And (b::qbT) pos) tb):PE X (.BoolOp .And (a::b::qbT) pos) (quU ta tb):=by
 intro Z s σ H Q I h;refine BoolOp_and (thn (ha _ s σ H _ I h) λv s1 ⟨x,H1,I1,r1,q1⟩=> ?_);obtain⟨c,rfl,q1⟩:=q1;cases r1;refine Vd ?_;cases c with
 |true=>exact hb _ s1 σ H1 Q I1 q1
 |false=>exact⟨.bl _,H1,I1,rfl,q1⟩
theorem qvt(ha:PE X a ta)(hb:PE X (.BoolOp .Or (b::qbT) pos) tb):PE X (.BoolOp .Or (a::b::qbT) pos) (qxT ta tb):=by
 intro Z s σ H Q I h;refine BoolOp_or (thn (ha _ s σ H _ I h) λv s1 ⟨x,H1,I1,r1,q1⟩=> ?_);obtain⟨c,rfl,q1⟩:=q1;cases r1;refine Vd ?_;cases c with
 |false=>exact hb _ s1 σ H1 Q I1 q1
 |true=>exact⟨.bl _,H1,I1,rfl,q1⟩
theorem qr3(ha:PE X a ta):PE X (.UnaryOp .Not a pos) (quR ta):=by intro Z s σ H Q I h;refine UnaryOp_ (thn (ha _ s σ H _ I h) λv s1 ⟨x,H1,I1,r1,q1⟩=> ?_);obtain⟨c,rfl,q1⟩:=q1;cases r1;exact not_of (Vd ⟨.bl _,H1,I1,rfl,q1⟩)
noncomputable def tIf(t:TT)(ta tb:TE):TE:=λσ H Q=>t σ H λc H1=>if c=true then ta σ H1 Q else tb σ H1 Q
theorem qlW{c:Expr}(hc:PT X c tA)(ha:PE X a ta)(hb:PE X b tb):PE X (.IfExp c a b pos) (tIf tA ta tb):=by
 intro Z s σ H Q I h;refine wpAny_IfExp (thn (hc _ s σ H _ I h) λd s1 ⟨H1,I1,q1⟩=> ?_);cases d with
 |true=>exact ha _ s1 σ H1 Q I1 q1
 |false=>exact hb _ s1 σ H1 Q I1 q1
end
noncomputable def SqL(K:W.Frag)(H:Hp)(a:Addr)(xs:List V):Prop:=
 Rd H a (.lst xs)\/
  ∃(o:Obj)(its:Array Value)(n:Nat),K.lookup a=some o/\o.cls= .type "list" /\o.dict=none/\o.data= .seq its n/\its.size<=sizeLine/\qau xs its.toList
noncomputable def SqT(K:W.Frag)(H:Hp)(a:Addr)(xs:List V):Prop:=
 Rd H a (.tup xs)\/
  ∃(o:Obj)(its:Array Value)(n:Nat),K.lookup a=some o/\o.cls= .type "tuple" /\o.data= .seq its n/\its.size<=sizeLine/\qau xs its.toList
noncomputable def qyJ:Value->Option V
 |.none=>some .non
 |.bool b=>some (.bl b)
 |.int i _=>some (.int i)
 |.str x _=>some (.str x)
 |.bytes b _=>some (.byt b)
 |.float b _=>some (.flt b)
 |.ref a=>some (.ref a)
 |.type n=>some (.ty n)
 |_=>none
theorem RelV.abs(r:RelV x u):qyJ u=some x:=by
 cases x with
 |non|bl _=>cases r;rfl
 |int _|str _|byt _|flt _=>obtain⟨t,rfl⟩:=r;rfl
 |ref _|ty _=>cases r;rfl
theorem RelV.inj(r:RelV x u)(q:RelV y u):x=y:=Option.some.inj (r.abs.symm.trans q.abs)
theorem qau.inj: ∀{xs ys:List V}{us:List Value},qau xs us->qau ys us->xs=ys
 |_,_,_,.nil,.nil=>rfl
 |_,_,_,.cons r t,.cons r' t'=>by rw[r.inj r',qau.inj t t']
section
theorem SqL.of{H:Hp}{a:Addr}{xs:List V}{K:W.Frag}(h:H a=some (.lst xs)):SqL K H a xs:=.inl (.inl h)
theorem SqT.of{H:Hp}{a:Addr}{xs:List V}{K:W.Frag}(h:H a=some (.tup xs)):SqT K H a xs:=.inl (.inl h)
theorem Inv.list(I:Inv X Z σ H s)(h:SqL X.K H a xs): ∃its:List Value,qau xs its/\PlainL s.heap a its.toArray/\xs.length<=sizeLine:=by
 rcases h with h|⟨o,its,n,hk,hc,hd,hs,hz,r⟩
 ·obtain⟨z,its,n,r,e⟩:=h.ok I.hok;exact⟨its,r,⟨_,n,e,rfl,rfl,rfl⟩,z⟩
 ·refine⟨its.toList,r,⟨o,n,I.kIn a o hk,hc,hd,by simpa using hs⟩,?_⟩;have e:=r.length
  grind
theorem Inv.tuple{X:Cx}{Z:List (Addr×Obj)}{σ:St}{H:Hp}{s:Shared}{a:Addr}{xs:List V}(I:Inv X Z σ H s)(h:SqT X.K H a xs): ∃its:List Value,qau xs its/\IsTup s.heap a its.toArray/\xs.length<=sizeLine:=by
 rcases h with h|⟨o,its,n,hk,hc,hs,hz,r⟩
 ·obtain⟨z,its,r,p⟩:=h.ok I.hok;exact⟨its,r,p,z⟩
 ·refine⟨its.toList,r,⟨o,I.kIn a o hk,hc,n,by simpa using hs⟩,?_⟩;have e:=r.length
  grind
theorem Inv.list_inj(I:Inv X Z σ H s)(h:SqL X.K H a xs)(h':SqL X.K H a ys):xs=ys:=by
 obtain⟨its,r,⟨o,n,e,_,_,d⟩,_⟩:=I.list h;obtain⟨aO,r',⟨o',n',e',_,_,d'⟩,_⟩:=I.list h';rw[e] at e';have:its=aO:=by grind
 subst this;exact r.inj r'
theorem Inv.tuple_inj(I:Inv X Z σ H s)(h:SqT X.K H a xs)(h':SqT X.K H a ys):xs=ys:=by
 obtain⟨its,r,⟨o,e,_,n,d⟩,_⟩:=I.tuple h;obtain⟨aO,r',⟨o',e',_,n',d'⟩,_⟩:=I.tuple h';rw[e] at e';have:its=aO:=by grind
 subst this;exact r.inj r'
end
abbrev Cx.wish(X:Cx)(E:Value->Shared->Prop):Cx:={ X with xe:=E }
abbrev Cx.nox(X:Cx):Cx:=X.wish λ_ _=>False
theorem Cx.Ok.wish{X:Cx}(ok:X.Ok)(E:Value->Shared->Prop):(X.wish E).Ok:=
 ⟨ok.mod,ok.kind,ok.glob,ok.blt,ok.above,ok.inj,ok.has,ok.cab,ok.hd,ok.frames,ok.stk,ok.exf,ok.bs,ok.bsz,ok.noex,ok.exfs,ok.funs,ok.frf⟩
theorem Cx.Ok.unwish{X:Cx}(ok:(X.wish E).Ok):X.Ok:=
 ⟨ok.mod,ok.kind,ok.glob,ok.blt,ok.above,ok.inj,ok.has,ok.cab,ok.hd,ok.frames,ok.stk,ok.exf,ok.bs,ok.bsz,ok.noex,ok.exfs,ok.funs,ok.frf⟩
section
theorem Inv.wish{X:Cx}(I:Inv X Z σ H s)(E:Value->Shared->Prop):Inv (X.wish E) Z σ H s:=⟨I.ok.wish E,I.os,I.bare,I.base,I.loc,I.cell,I.free,I.freeC,I.pin,I.hok,I.len⟩
theorem Inv.unwish{X:Cx}(I:Inv (X.wish E) Z σ H s):Inv X Z σ H s:=⟨I.ok.unwish,I.os,I.bare,I.base,I.loc,I.cell,I.free,I.freeC,I.pin,I.hok,I.len⟩
theorem SP.unwish(h:SP (X.wish E) Z D f s'):SP X Z D f s':=by
 cases f with
 |next|brk|cont=>obtain⟨ae,H',I,q⟩:=h;exact⟨ae,H',I.unwish,q⟩
 |ret u=>obtain⟨v,ae,H',I,r,q⟩:=h;exact⟨v,ae,H',I.unwish,r,q⟩
theorem PSs.nox{X:Cx}{st:List Stmt}{t:TS}(h:PSs X.nox st t):PSs X st t:=λZ s σ H D I hw=>
 Vc (h _ s σ H D (I.wish _) hw) (λ_ _ q=>q.unwish) λ_ _ z=>False.elim z
end
section
variable{X:Cx}{st:Stmt}{qbT:List Stmt}{t u:TS}{e:Expr}{te:TE}{pos:Pos}
noncomputable def qoq:TS:=λD σ H=>D.nx σ H
noncomputable def qwX(t u:TS):TS:=λD σ H=>t { D with nx:=u D } σ H
theorem qje:PSs X [] qoq:=λ_ _ σ H _ I h=>wpAny_execs_nil ⟨σ,H,I,h⟩
theorem qbE(h1:PS X st t)(h2:PSs X qbT u):PSs X (st::qbT) (qwX t u):=by
 intro Z s σ H D I h;refine wpAny_execs_cons (thn (h1 _ s σ H _ I h) λf s1 q=> ?_);cases f with
 |next=>obtain⟨ae,H',I',q⟩:=q;exact h2 _ s1 ae H' D I' q
 |ret v|brk|cont=>exact q
theorem qcU(h1:PS X st t):PSs X [st] t:=by
 intro Z s σ H D I h;refine wpAny_execs_cons (thn (h1 _ s σ H D I h) λf s1 q=> ?_);cases f with
 |next=>exact wpAny_execs_nil q
 |ret v|brk|cont=>exact q
noncomputable def qrq:TS:=λD σ H=>D.bk σ H
noncomputable def quT:TS:=λD σ H=>D.ct σ H
theorem qoP:PS X (.Pass pos) qoq:=λ_ _ σ H _ I h=>wpAny_Pass ⟨σ,H,I,h⟩
theorem qlO:PS X (.Break pos) qrq:=λ_ _ σ H _ I h=>wpAny_Break ⟨σ,H,I,h⟩
theorem qfU:PS X (.Continue pos) quT:=λ_ _ σ H _ I h=>wpAny_Continue ⟨σ,H,I,h⟩
theorem Inv.quiet(I:Inv X Z σ H s):interactive X.env=false:=by simp[interactive,I.ok.kind]
theorem qrW{x j pos pos'}:PS X (.Expr (.Constant (.str x) j pos) pos') qoq:=λ_ s σ H _ I h=>wpAny_Expr (Calls.Constant_str (⟨σ,H,I.tok _,h⟩)) I.quiet
noncomputable def quS(te:TE):TS:=λD σ H=>te σ H λ_ H1=>D.nx σ H1
theorem qoQ(he:PE X e te)(hs:swapsWith e none pos.line X.env=pure false:=by rfl):PS X (.Expr e pos) (quS te):=by intro Z s σ H D I h;exact wpAny_Expr_any (thn (he _ s σ H _ I h) (by rintro v s1 ⟨x,H1,I1,r1,q1⟩;exact⟨σ,H1,I1,q1⟩)) I.quiet hs
noncomputable def qxR(te:TE):TS:=λD σ H=>te σ H D.rt
theorem qeV(he:PE X e te):PS X (.Return (some e) pos) (qxR te):=by intro Z s σ H D I h;exact wpAny_Return_some (thn (he _ s σ H _ I h) (by rintro v s1 ⟨x,H1,I1,r1,q1⟩;exact⟨x,σ,H1,I1,r1,q1⟩))
noncomputable def quP:TS:=λD _ H=>D.rt .non H
theorem qoO:PS X (.Return none pos) quP:=λ_ _ σ H _ I h=>wpAny_Return_none ⟨.non,σ,H,I,rfl,h⟩
noncomputable def qxW(c:TT)(t u:TS):TS:=λD σ H=>c σ H λb H1=>if b=true then t D σ H1 else u D σ H1
theorem qrT{c:Expr}{a b:List Stmt}{tc:TT}(hc:PT X c tc)(ha:PSs X a t)(hb:PSs X b u):PS X (.If c a b pos) (qxW tc t u):=by
 intro Z s σ H D I h;refine wpAny_If (thn (hc _ s σ H _ I h) λd s1 ⟨H1,I1,q1⟩=> ?_);cases d with
 |true=>exact ha _ s1 σ H1 D I1 q1
 |false=>exact hb _ s1 σ H1 D I1 q1
end
abbrev TG:=V->St->Hp->(St->Hp->Prop)->Prop
abbrev TGs:=List V->St->Hp->(St->Hp->Prop)->Prop
noncomputable def PG(X:Cx)(target:Expr)(t:TG):Prop:=
 ∀(Z:List (Addr×Obj))(s:Shared)(σ:St)(H:Hp)(v:V)(u:Value)(Q:St->Hp->Prop),Inv X Z σ H s->RelV v u->t v σ H Q->
  wpAny (model X.prog X.w) X.A (assign target X.env u) (λ_ s'=> ∃ae H',Inv X Z ae H' s'/\Q ae H') X.xe s
noncomputable def PGs(X:Cx)(ts:List Expr)(t:TGs):Prop:=
 ∀(Z:List (Addr×Obj))(s:Shared)(σ:St)(H:Hp)(vs:List V)(us:List Value)(Q:St->Hp->Prop),Inv X Z σ H s->qau vs us->t vs σ H Q->
  wpAny (model X.prog X.w) X.A (assignInOrder ((assignEach ts X.env).map (·.2)) us) (λ_ s'=> ∃ae H',Inv X Z ae H' s'/\Q ae H') X.xe s
abbrev qwQ:=V->V->V->Hp->(Hp->Prop)->Prop
noncomputable def qwS(X:Cx)(t:qwQ):Prop:=
 ∀(Z:List (Addr×Obj))(s:Shared)(σ:St)(H:Hp)(o i v:V)(ov iv u:Value)(Q:Hp->Prop),Inv X Z σ H s->RelV o ov->RelV i iv->RelV v u->t o i v H Q->
  wpAny (model X.prog X.w) X.A (setItem ov iv u) (λ_ s'=> ∃H',Inv X Z σ H' s'/\Q H') X.xe s
section
variable{X:Cx}{pos:Pos}
noncomputable def qpO(i:Nat):TG:=λv σ H Q=>Q (σ.set i (some v)) H
theorem qoV{x:Str}(hN:X.N.Nodup)(hi:X.N[i]? =some x)(hx:Loc X.env.scope x)(hf:X.fn x=true\/X.env.scope.names.lookup x=some .local:=by first|exact .inl rfl|exact .inr rfl|assumption):PG X (.Name x pos) (qpO i):=by intro Z s σ H v u Q I r h;exact wpAny_assign_Name (qb1 I hN hi hx r (λs' I'=>⟨_,H,I',h⟩) hf)
noncomputable def qyA:TGs:=λvs σ H Q=>vs=[]/\Q σ H
noncomputable def qwf(t:TG)(u:TGs):TGs:=λvs σ H Q=> ∃v r,vs=v::r/\t v σ H λae H'=>u r ae H' Q
theorem qoU:PGs X [] qyA:=by intro Z s σ H vs us Q I r h;obtain⟨e,h⟩:=h;subst e;exact assignInOrder_nil ⟨σ,H,I,h⟩
theorem qlS{e:Expr}{es:List Expr}{t:TG}{u:TGs}(h1:PG X e t)(h2:PGs X es u)(hs:(assignEach (e::es) X.env).map (·.2)=assign e X.env::(assignEach es X.env).map (·.2):=by rfl):PGs X (e::es) (qwf t u):=by
 intro Z s σ H vs us Q I r h;obtain⟨v,vr,e1,h⟩:=h;subst e1;cases r with
 |cons r rr=>rw[hs];refine assignInOrder_cons (thn (h1 _ s σ H _ _ _ I r h) λ_ s1 ⟨cU,H1,I1,q1⟩=> ?_);exact h2 _ s1 cU H1 _ _ Q I1 rr q1
noncomputable def qyx(K:W.Frag)(n:Nat)(t:TGs):TG:=λv σ H Q=> ∃a xs,v= .ref a/\SqT K H a xs/\xs.length=n/\t xs σ H Q
theorem qr1(hc:X.calm=true)(h:PGs X es t)(hn:(assignEach es X.env).length=n:=by rfl)(aG:(assignEach es X.env).findIdx? (·.1)=none:=by rfl):PG X (.Tuple es k pos) (qyx X.K n t):=by intro Z s σ H v u Q I r hw;obtain⟨a,xs,e1,hq,hl,hw⟩:=hw;subst e1;cases r;obtain⟨its,rv,ht,hz⟩:=I.tuple hq;refine assign_Tuple_tuple (I.ok.hd hc) ht (by simp[hn,<-hl,rv.length]) aG λh' hx=> ?_;have I1:=I.kept (t':=s.toks) λb o e=>hx b o (Vn (Vi e)) e;exact h _ _ σ H xs _ Q I1 (by simpa using rv) hw
noncomputable def gSub(to ti:TE)(t:qwQ):TG:=λv σ H Q=>to σ H λo H1=>ti σ H1 λi H2=>t o i v H2 λH3=>Q σ H3
noncomputable def qw0(te:TE)(g:TG):TS:=λD σ H=>te σ H λx H1=>g x σ H1 D.nx
theorem qrX{tg e:Expr}{te:TE}{g:TG}(he:PE X e te)(hg:PG X tg g)(hs:swapsWithSole [tg] e pos.line X.env=pure false:=by rfl)(hw:swappedStores [tg] e X.env=pure none:=by rfl)(h1:(assignEach [tg] X.env).map (·.2)=[assign tg X.env]:=by rfl):PS X (.Assign [tg] e pos) (qw0 te g):=by intro Z s σ H D I h;refine wpAny_Assign_stores (thn (he _ s σ H _ I h) λv s1 ⟨x,H1,I1,r1,q1⟩=> ?_) hs hw;rw[h1];exact thn (hg _ s1 σ H1 x v _ I1 r1 q1) λ_ s2 q=>q
theorem qeU{i:Nat}{x:Str}{e:Expr}{te:TE}{pos':Pos}(hN:X.N.Nodup)(hi:X.N[i]? =some x)(hx:Loc X.env.scope x)(he:PE X e te)(hs:swapsWith e (some (.Name x pos')) pos.line X.env=pure false:=by rfl)(hf:X.fn x=true\/X.env.scope.names.lookup x=some .local:=by first | exact .inl rfl | exact .inr rfl | assumption):
  PS X (.Assign [.Name x pos'] e pos) (qw0 te (qpO i)):=by intro Z s σ H D I h;refine wpAny_Assign_Name (thn (he _ s σ H _ I h) λv s1 ⟨y,H1,I1,r1,q1⟩=> ?_) hs;exact qb1 I1 hN hi hx r1 (λs2 I2=>⟨_,H1,I2,q1⟩) hf
noncomputable def qxS(i j:Nat)(ta:TA):TS:=λD σ H=>ta σ H λvs H1=> ∃v w,vs=[v,w]/\D.nx ((σ.set i (some v)).set j (some w)) H1
theorem qrS{i j:Nat}{x y:Str}{a b:Expr}{ta:TA}{px py pt:Pos} {kt k2 pt2} (hc:X.calm=true) (hN:X.N.Nodup) (hi:X.N[i]? =some x) (hj:X.N[j]? =some y) (aW:i≠j) (hx:X.env.scope.names.lookup x=some .local) (hy:X.env.scope.names.lookup y=some .local) (ha:PA X [a,b] ta) (hw:swappedStores [.Tuple [.Name x px,.Name y py] kt pt] (.Tuple [a,b] k2 pt2) X.env=pure (some [x,y])) (hs:swapsWithSole [.Tuple [.Name x px,.Name y py] kt pt] (.Tuple [a,b] k2 pt2) pos.line X.env=pure false:=by rfl):
  PS X (.Assign [.Tuple [.Name x px,.Name y py] kt pt] (.Tuple [a,b] k2 pt2) pos) (qxS i j ta):=by
 intro Z s σ H D I h;rw[exec_Assign_arm];refine Va (wpAny_standAt ?_);rw[hs];refine Va (Vb ?_);rw[if_neg (by decide)];refine Va (Tuple_ (thn (ha _ Z s σ H _ I h) λus s1 ⟨vs,H1,I1,r1,q1⟩=> ?_));obtain⟨v,w,e1,q1⟩:=q1;subst e1;obtain⟨u1,u2,rfl,rv,ar⟩: ∃u1 u2,us=[u1,u2]/\RelV v u1/\RelV w u2:=by
  cases r1 with
  |cons p q=>
   cases q with
   |cons p' q'=>cases q';exact⟨_,_,rfl,p,p'⟩
 refine wpAny_newObj_type ?_ (by show 2<=sizeLine;decide);have I2:Inv X Z σ H1 { s1 with heap:=s1.heap.push { cls:=.type "tuple",data:=.seq [u1,u2].toArray } }:=I1.kept (t':=s1.toks) λb o e=>Vg _ e;rw[hw];refine Va (Vb ?_);refine Va (wpAny_rule (Va (unpackItems_tuple (items:= #[u1,u2]) (I.ok.hd hc) (IsTup.new s1.heap _) λh' cZ=> ?_)));have I3:=I2.kept (h':=h') (t':=s1.toks) λb o e=>cZ b o (Vn (Vi e)) e;refine Va (assignInOrder_cons (wpAny_bindName (qb1 I3 hN hj (.inl hy) ar (λs2 I4=> ?_) (.inr hy))));refine assignInOrder_cons (wpAny_bindName (qb1 I4 hN hi (.inl hx) rv (λs3 I5=>assignInOrder_nil (Vb ?_)) (.inr hx)));rw[List.set_comm _ _ (Ne.symm aW)] at I5;exact⟨_,H1,I5,q1⟩
end
structure It where
 go:Nat->Hp->Prop
 yld:Nat->Hp->V->Hp->Prop
 stop:Nat->Hp->Prop
noncomputable def qgI(X:Cx)(Z:List (Addr×Obj))(H:Hp)(b:Addr):Prop:=
 H b=none/\b≠X.env.locals/\b∉X.fs/\(b∈X.ex\/X.s₀.heap.objs.size<=b)/\(∀x c,X.env.cells.lookup x=some c->c≠b)/\∀p∈X.pn++Z,p.1≠b
theorem Inv.fpOk(I:Inv X Z σ H s)(hb:s.heap.objs.size<=b)(hn:H' b=none):qgI X Z H' b:=by
 refine⟨hn,Nat.ne_of_gt (Vm I.lt hb),I.nofs hb,.inr (Vp I.sz hb),λx c e z=> ?_,λp hp z=> ?_⟩
 ·obtain⟨v,q⟩:=I.cell x c e;exact absurd (Vm q.lt (by rw[z];exact hb)) (Nat.lt_irrefl _)
 ·exact absurd (Vm (Vi (I.pin p hp).1) (by rw[z];exact hb)) (Nat.lt_irrefl _)
structure qqO(P:Program)(w:World)(K:W.Frag)(tg:Expr)(J:It)(fp:List Addr)(it:Addr)(tn:Nat->Heap->Prop):Prop where
 mem:it∈fp
 obj: ∀i h,tn i h->∀b∈fp,∃o,h.get? b=some o/\∀v,o.data≠.cell v
 keep: ∀i h h',tn i h->(∀b∈fp,∀o,h.get? b=some o->h'.get? b=some o)->tn i h'
 item: ∀(X:Cx),X.prog=P->X.w=w->X.K=K->X.calm=true->∀(i:Nat)(Z:List (Addr×Obj))(s:Shared)(σ:St)(H:Hp)(E:Value->Shared->Prop),Inv X Z σ H s->(∀b∈fp,qgI X Z H b)->tn i s.heap->J.go i H->
  wpAny (model P w) X.A (pyNext (.ref it)) (λr s1=> ∃u,r=some u/\
   wpAny (model P w) X.A (letOwnedTupleGo tg (.ref it) u) (λ_ s2=> ∃x H',Inv X Z σ H' s2/\RelV x u/\J.yld i H x H'/\tn (i+1) s2.heap/\∀b∈fp,H' b=none) E s1) E s
 done: ∀(X:Cx),X.prog=P->X.w=w->X.K=K->X.calm=true->∀(i:Nat)(Z:List (Addr×Obj))(s:Shared)(σ:St)(H:Hp)(E:Value->Shared->Prop),Inv X Z σ H s->(∀b∈fp,qgI X Z H b)->tn i s.heap->J.stop i H->
  wpAny (model P w) X.A (pyNext (.ref it)) (λr s1=>r=none/\Inv X Z σ H s1) E s
 self: ∀(A:Around)(i:Nat)(s:Shared)(Q:Value->Shared->Prop)(E:Value->Shared->Prop),tn i s.heap->Q (.ref it) s->wpAny (model P w) A (pyIter (.ref it)) Q E s
abbrev TI:=St->Hp->(It->Hp->Prop)->Prop
noncomputable def PIE(X:Cx)(Z:List (Addr×Obj))(σ:St)(tg:Expr)(R:It->Hp->Prop)(itv:Value)(s2:Shared):Prop:=
 ∃(it:Addr)(fp:List Addr)(tn:Nat->Heap->Prop)(J:It)(H':Hp),itv= .ref it/\Inv X Z σ H' s2/\qqO X.prog X.w X.K tg J fp it tn/\tn 0 s2.heap/\(∀b∈fp,qgI X Z H' b)/\R J H'
noncomputable def PI(X:Cx)(tg iter:Expr)(wi:TI):Prop:=
 ∀(Z:List (Addr×Obj))(s:Shared)(σ:St)(H:Hp)(R:It->Hp->Prop),Inv X Z σ H s->wi σ H R->
  wpAny (model X.prog X.w) X.A (eval iter X.env) (λv s1=>wpAny (model X.prog X.w) X.A (pyIter v) (PIE X Z σ tg R) X.xe s1) X.xe s
theorem qka{n:String}(ho:s.heap.get? it=some o)(hc:o.cls= .type n)(hd:o.data= .fields vs)(hn:["enumerate", "zip", "dict_itemiterator", "dict_reverseitemiterator", "odict_iterator", "itertools.zip_longest", "itertools.pairwise"].contains n=false)(hQ:Q () s):wpAny M A (letOwnedTupleGo tg (.ref it) u) Q E s:=by
 unfold letOwnedTupleGo
 cases tg<;>first
  |exact Vb hQ
  | (cases u<;>first
    |exact Vb hQ
    | (refine Va (wpAny_load ho ?_)
       rw[hc,hd];show wpAny M A (if(["enumerate", "zip", "dict_itemiterator", "dict_reverseitemiterator", "odict_iterator", "itertools.zip_longest", "itertools.pairwise"].contains n&&vs[0]? ==some (rawInt _))=true then _ else _) Q E s;rw[if_neg (by intro h;rw[hn,Bool.false_and] at h;cases h)];exact Vb hQ))
noncomputable def Itl(K:W.Frag)(a:Addr):It:=
 ⟨λi H=> ∃xs x,SqL K H a xs/\xs[i]? =some x,λi H x H'=>H'=H/\∀xs,SqL K H a xs->xs[i]? =some x,λi H=> ∃xs,SqL K H a xs/\xs.length<=i⟩
noncomputable def Itt(K:W.Frag)(a:Addr):It:=
 ⟨λi H=> ∃xs x,SqT K H a xs/\xs[i]? =some x,λi H x H'=>H'=H/\∀xs,SqT K H a xs->xs[i]? =some x,λi H=> ∃xs,SqT K H a xs/\xs.length<=i⟩
noncomputable def Itr(lo:Int)(n:Nat):It:=⟨λi _=>i<n,λi H x H'=>H'=H/\x= .int (lo+i),λi _=>n<=i⟩
theorem qiS{P:Program}{w:World}{K:W.Frag}{tg:Expr}(a it:Addr):qqO P w K tg (Itl K a) [it] it (λi h=>h.IsListIter it a i) where
 mem:=by simp
 obj:=λi h st b hb=>by
  have e:b=it:=by simpa using hb
  subst e;obtain⟨o,e,c,d⟩:=st;exact⟨o,e,λv z=>by rw[d] at z;cases z⟩
 keep:=λi h h' st k=>st.at λo e=>k it (by simp) o e
 item:=by intro X hP hw hK hc i Z s σ H E I hf st hg;subst hP hw hK;obtain⟨xs,x,hq,hx⟩:=hg;obtain⟨its,rv,p,hz⟩:=I.list hq;obtain⟨u,hu,ru⟩:=rv.get hx;obtain⟨f0,f1,f2,f3,f4,f5⟩:=hf it (by simp);refine wpAny_pyNext_list_item st p.isList (x:=u) (by simpa using hu) λh' aR sb=> ?_;have I1:Inv X Z σ H { s with heap:=h' }:=I.turned (t':=s.toks) (λb o hb e=>(sb.2 b hb).trans e) f0 f1 f3 f4 f5;obtain⟨o,e,c,d⟩:=id aR;exact⟨u,rfl,qka (s:={ s with heap:=h' }) e c d (by decide) ⟨x,H,I1,ru,⟨rfl,λys hy=>by rw[I.list_inj hy hq];exact hx⟩,aR,λb hb=>(hf b hb).1⟩⟩
 done:=by intro X hP hw hK hc i Z s σ H E I hf st hg;subst hP hw hK;obtain⟨xs,hq,hx⟩:=hg;obtain⟨its,rv,p,hz⟩:=I.list hq;obtain⟨f0,f1,f2,f3,f4,f5⟩:=hf it (by simp);have hl:=rv.length;exact wpAny_pyNext_list_end (I.ok.hd hc) st p.isList (by simp;omega) λh' eb=>⟨rfl,I.turned (t':=s.toks) (λb o hb e=>eb b o hb e) f0 f1 f3 f4 f5⟩
 self:=λ_ _ _ _ _ st h=>wpAny_pyIter_listiter st h
theorem qhX{P:Program}{w:World}{K:W.Frag}{tg:Expr}(a it:Addr):qqO P w K tg (Itt K a) [it] it (λi h=>h.IsTupleIter it a i) where
 mem:=by simp
 obj:=λi h st b hb=>by
  have e:b=it:=by simpa using hb
  subst e;obtain⟨o,e,c,d⟩:=st;exact⟨o,e,λv z=>by rw[d] at z;cases z⟩
 keep:=λi h h' st k=>st.at λo e=>k it (by simp) o e
 item:=by intro X hP hw hK hc i Z s σ H E I hf st hg;subst hP hw hK;obtain⟨xs,x,hq,hx⟩:=hg;obtain⟨its,rv,p,hz⟩:=I.tuple hq;obtain⟨u,hu,ru⟩:=rv.get hx;obtain⟨f0,f1,f2,f3,f4,f5⟩:=hf it (by simp);refine wpAny_pyNext_tuple_item st (show s.heap.IsTuple a its.toArray from p) (x:=u) (by simpa using hu) λh' aR sb=> ?_;have I1:Inv X Z σ H { s with heap:=h' }:=I.turned (t':=s.toks) (λb o hb e=>(sb.2 b hb).trans e) f0 f1 f3 f4 f5;obtain⟨o,e,c,d⟩:=id aR;exact⟨u,rfl,qka (s:={ s with heap:=h' }) e c d (by decide) ⟨x,H,I1,ru,⟨rfl,λys hy=>by rw[I.tuple_inj hy hq];exact hx⟩,aR,λb hb=>(hf b hb).1⟩⟩
 done:=by intro X hP hw hK hc i Z s σ H E I hf st hg;subst hP hw hK;obtain⟨xs,hq,hx⟩:=hg;obtain⟨its,rv,p,hz⟩:=I.tuple hq;obtain⟨f0,f1,f2,f3,f4,f5⟩:=hf it (by simp);have hl:=rv.length;exact wpAny_pyNext_tuple_end (I.ok.hd hc) st (show s.heap.IsTuple a its.toArray from p) (by simp;omega) λh' eb=>⟨rfl,I.turned (t':=s.toks) (λb o hb e=>eb b o hb e) f0 f1 f3 f4 f5⟩
 self:=λ_ _ _ _ _ st h=>wpAny_pyIter_tupleiter st h
theorem qhY{P:Program}{w:World}{K:PySem.W.Frag}{tg:Expr}(it:Addr)(lo:Int)(n:Nat):qqO P w K tg (Itr lo n) [it] it (λi h=>IsRangeIter h it (lo+(i:Nat)*1) ((n:Int) - (i:Nat)) 1) where
 mem:=by simp
 obj:=λi h st b hb=>by
  have e:b=it:=by simpa using hb
  subst e;exact⟨_,st,λv z=>by
   have z':Data.fields _=Data.cell v:=z;cases z'⟩
 keep:=λi h h' st k=>k it (by simp) _ st
 item:=by intro X hP hw hK hc i Z s σ H E I hf st hg;subst hP hw hK;obtain⟨f0,f1,f2,f3,f4,f5⟩:=hf it (by simp);have W:=Walks.range (prog:=X.prog) (w:=X.w) (I.ok.hd hc) it lo 1 n;refine W.item i s _ _ hg st λv h' tk hv aR kk=> ?_;obtain⟨t,rfl⟩:=hv;have I1:Inv X Z σ H { s with heap:=h',toks:=tk }:=I.turned (λb o hb e=>kk b o (by simpa using hb) e) f0 f1 f3 f4 f5;refine⟨_,rfl,qka (s:={ s with heap:=h',toks:=tk }) (n:= "range_iterator") aR rfl rfl (by decide) ⟨.int (lo+i),H,I1,⟨t,?_⟩,⟨rfl,rfl⟩,aR,λb hb=>(hf b hb).1⟩⟩;rw[Int.mul_one]
 done:=by intro X hP hw hK hc i Z s σ H E I hf st hg;subst hP hw hK;obtain⟨f0,f1,f2,f3,f4,f5⟩:=hf it (by simp);exact wpAny_pyNext_range_end (I.ok.hd hc) st (by have:n<=i:=hg;omega) λh' eb=>⟨rfl,I.turned (t':=s.toks) (λb o hb e=>eb b o hb e) f0 f1 f3 f4 f5⟩
 self:=λ_ _ _ _ _ st h=>wpAny_pyIter_rangeiter st h
section
variable{X:Cx}{tg:Expr}
theorem qlG{Z:List (Addr×Obj)}{σ:St}{H:Hp}{s:Shared}{R:It->Hp->Prop}{E:Value->Shared->Prop}{lo hi:Int}{t u v:Tok}{tk:Nat}(I:Inv X Z σ H s)(h1: -(2 ^ 62)<=lo)(h2:lo<2 ^ 62)(h3: -(2 ^ 62)<=hi)(h4:hi<2 ^ 62)(q:R (Itr lo (hi - lo).toNat) H):wpAny (model X.prog X.w) X.A (pyIter (.ref s.heap.objs.size)) (PIE X Z σ tg R) E { s with heap:=s.heap.push { cls:=.type "range",data:=.fields #[.int lo t,.int hi u,.int 1 v] },toks:=tk }:=by
 refine wpAny_pyIter_range (IsRange.new ..) (small_one h1 h2 h3 h4) ?_;have I1:Inv X _ σ H { s with heap:=s.heap.push { cls:=.type "range",data:=.fields #[.int lo t,.int hi u,.int 1 v] },toks:=tk }:=I.kept λb o e=>Vg _ e
 refine⟨(s.heap.push _).objs.size,[(s.heap.push _).objs.size],_,_,H,rfl,
  I1.kept λb o e=>Vg _ e,qhY _ lo _,?_,λb hb=> ?_,q⟩
 ·have e1:lo+((0:Nat))*1=lo:=by simp
  have e2:(((hi - lo).toNat)) - ((0:Nat))=Builtin.Range.rangeSize lo hi 1:=by rw[rangeSize_one];split<;>omega
  rw[e1,e2];exact Vh _ rfl
 ·have e:b=(s.heap.push { cls:=.type "range",data:=.fields #[.int lo t,.int hi u,.int 1 v] }).objs.size:=by simpa using hb
  subst e;exact I1.fpOk (Vl _) (I1.hok.fresh (Vl _))
noncomputable def qv1(ta:TA):TI:=λσ H R=>ta σ H λvs H1=> ∃j:Int,vs=[.int j]/\ -(2 ^ 62)<=j/\j<2 ^ 62/\R (Itr 0 j.toNat) H1
theorem qjh{a:Expr}{ta:TA}{p pos:Pos}(hg:Gl X "range")(hm:X.mg "range" =none)(ha:PA X [a] ta)(hs:starEach [a] X.env=[(false,eval a X.env)]:=by rfl):PI X tg (.Call (.Name "range" p) [a] [] pos) (qv1 ta):=by
 intro Z s σ H R I h;refine Call_ (qdD I hg hm boot_range (PyProof.Rows.callWith_type1 (thn (ha pos Z s σ H _ I h) λus s1 ⟨vs,H1,I1,r1,q1⟩=> ?_) hs rfl));obtain⟨j,e,q1,q2,q⟩:=q1;subst e;cases r1 with
 |cons r rr=>cases rr;obtain⟨t,rfl⟩:=r;exact call_range_1 (qlG I1 (by omega) (by omega) q1 q2 (by simpa using q))
noncomputable def qxX(wi:TI)(g:TG)(tb:TS):TS:=λD σ H=>wi σ H λJ H1=> ∃W:Nat->Nat->St->Hp->Prop,(∃m,W 0 m σ H1)/\∀i m σ H,W i m σ H->
 (J.stop i H/\D.nx σ H)\/(J.go i H/\∃N:St->Hp->Prop,(∀ae H',N ae H'->∃m',m'<m/\W (i+1) m' ae H')/\∀x H',J.yld i H x H'->g x σ H' λaP H2=>tb { D with nx:=N,ct:=N,bk:=D.nx } aP H2)
noncomputable def qeW(fp:List Addr)(h:Heap):List (Addr×Obj):=fp.filterMap λb=>(h.get? b).map λo=>(b,o)
theorem qbF{fp:List Addr}{h:Heap}{b:Addr}{o:Obj}(hb:b∈fp)(e:h.get? b=some o):(b,o)∈qeW fp h:=List.mem_filterMap.mpr ⟨b,hb,by rw[e];rfl⟩
theorem qju(hp:p∈qeW fp h):p.1∈fp/\h.get? p.1=some p.2:=by
 obtain⟨b,hb,e⟩:=List.mem_filterMap.mp hp;cases q:h.get? b with
 |none=>rw[q] at e;cases e
 |some o=>rw[q] at e;have e':=Option.some.inj e;subst e';exact⟨hb,q⟩
theorem Inv.pinned(I:Inv X Z σ H s)(hf: ∀b∈fp,qgI X Z H b)(ho: ∀b∈fp,∃o,s.heap.get? b=some o/\∀v,o.data≠.cell v):Inv X (Z++qeW fp s.heap) σ H s:=
 I.pins_of λp hp=>(List.mem_append.mp hp).elim (λz=>I.pin p (Vs _ z)) λz=>by
  obtain⟨hb,e⟩:=qju z;obtain⟨f0,f1,f2,_⟩:=hf p.1 hb;obtain⟨o,e',d⟩:=ho p.1 hb
  simp_all
theorem Inv.unpinned(I:Inv X (Z++pl) σ H s):Inv X Z σ H s:=I.pins_of λp hp=>I.pin p (Vs _ (Vr _ hp))
theorem qrU{iter:Expr}{body:List Stmt}{wi:TI}{g:TG}{tb:TS}{pos:Pos}(hp:PassesOwn (model X.prog X.w) X.A X.env X.xe)(hc:X.calm=true)(hi:PI X tg iter wi)(hg:PG X tg g)(hb:PSs X body tb)(hs: ∀x,foldedSetIterable iter X.env x=pure x:=by intro _;rfl):PS X (.For tg iter body [] pos) (qxX wi g tb):=by
 intro Z s σ H D I h;refine wpAny_For (thn (hi Z s σ H _ I h) λv s1 h1=>thn h1 λitv s2 h2=> ?_) hs;obtain⟨it,fp,tn,J,H2,e,I2,T,st2,f2,W,⟨m0,w0⟩,turn⟩:=h2;subst e;have dz: ∀{H':Hp},(∀b∈fp,H' b=none)->∀b∈fp,qgI X Z H' b:=λhn b hb=>⟨hn b hb,(f2 b hb).2⟩
 refine codeAny_forLoop_any (λn s'=> ∃i ae H',Inv X Z ae H' s'/\tn i s'.heap/\(∀b∈fp,H' b=none)/\W i n ae H') ?_ m0 ⟨0,σ,H2,I2,st2,λb hb=>(f2 b hb).1,w0⟩;rintro n s3 ⟨i,fq,H3,I3,st3,j4,w3⟩
 rcases turn i n fq H3 w3 with⟨stop,qn⟩|⟨go,N,hN,step⟩
 ·refine wpAny_passesOwn hp (thn (T.done X rfl rfl rfl hc i Z s3 fq H3 X.xe I3 (dz j4) st3 stop) λr s4 ⟨hr,I4⟩=> ?_);subst hr;exact wpAny_execs_nil ⟨fq,H3,I4,qn⟩
 ·refine wpAny_passesOwn hp (thn (T.item X rfl rfl rfl hc i Z s3 fq H3 X.xe I3 (dz j4) st3 go) λr s4 ⟨u,hr,h4⟩=> ?_);subst hr;refine wpAny_passesOwn hp (thn h4 λ_ s5 ⟨x,H5,I5,r5,y5,eX,g9⟩=> ?_);have I5':=I5.pinned (dz g9) (T.obj _ _ eX);refine wpAny_passesOwn hp (thn (hg _ s5 fq H5 x u _ I5' r5 (step x H5 y5)) λ_ s6 ⟨σ6,H6,I6,q6⟩=> ?_);refine wpAny_passesOwn hp (thn (hb _ s6 σ6 H6 _ I6 q6) λf s7 q7=> ?_);have again: ∀{b8:St}{H7:Hp},Inv X (Z++qeW fp s5.heap) b8 H7 s7->N b8 H7->∃m,m<n/\∃i ae H',Inv X Z ae H' s7/\tn i s7.heap/\(∀b∈fp,H' b=none)/\W i m ae H':=λ{b8 H7} I7 n7=>by obtain⟨m',hm,w7⟩:=hN b8 H7 n7;refine⟨m',hm,i+1,b8,H7,I7.unpinned,T.keep _ _ _ eX λb hb o e=>(I7.pin (b,o) (Vs _ (Vs _ (qbF hb e)))).1,λb hb=> ?_,w7⟩;obtain⟨o,e,d⟩:=T.obj _ _ eX b hb;exact(I7.pin (b,o) (Vs _ (Vs _ (qbF hb e)))).2.1
  cases f with
  |next|cont=>obtain⟨b8,H7,I7,n7⟩:=q7;exact again I7 n7
  |brk=>obtain⟨b8,H7,I7,q7⟩:=q7;exact⟨b8,H7,I7.unpinned,q7⟩
  |ret v=>obtain⟨x7,b8,H7,I7,r7,q7⟩:=q7;exact⟨x7,b8,H7,I7.unpinned,r7,q7⟩
end
abbrev R2:=V->V->Hp->VK->Prop
noncomputable def OpR(X:Cx)(f:Value->Value->Sem Value)(r:R2):Prop:=
 ∀(Z:List (Addr×Obj))(s:Shared)(σ:St)(H:Hp)(x y:V)(v u:Value)(Q:VK),Inv X Z σ H s->RelV x v->RelV y u->r x y H Q->
  wpAny (model X.prog X.w) X.A (f v u) (EP X Z σ Q) X.xe s
noncomputable def UnR(X:Cx)(f:Value->Sem Value)(r:V->Hp->VK->Prop):Prop:=
 ∀(Z:List (Addr×Obj))(s:Shared)(σ:St)(H:Hp)(x:V)(v:Value)(Q:VK),Inv X Z σ H s->RelV x v->r x H Q->
  wpAny (model X.prog X.w) X.A (f v) (EP X Z σ Q) X.xe s
noncomputable def qat(X:Cx)(f:Value)(r:List V->Hp->VK->Prop):Prop:=
 ∀(Z:List (Addr×Obj))(s:Shared)(σ:St)(H:Hp)(xs:List V)(us:List Value)(Q:VK),Inv X Z σ H s->qau xs us->r xs H Q->
  wpAny (model X.prog X.w) X.A (call f us) (EP X Z σ Q) X.xe s
noncomputable def qyL(X:Cx)(r:V->Hp->(Bool->Hp->Prop)->Prop):Prop:=
 ∀(Z:List (Addr×Obj))(s:Shared)(σ:St)(H:Hp)(x:V)(v:Value)(Q:Bool->Hp->Prop),Inv X Z σ H s->RelV x v->r x H Q->
  wpAny (model X.prog X.w) X.A (truthy v) (TP X Z σ Q) X.xe s
noncomputable def tOp(r:R2)(ta tb:TE):TE:=λσ H Q=>ta σ H λx H1=>tb σ H1 λy H2=>r x y H2 Q
noncomputable def tUn(r:V->Hp->VK->Prop)(ta:TE):TE:=λσ H Q=>ta σ H λx H1=>r x H1 Q
noncomputable def rI(C:Int->Int->Prop)(g:Int->Int->V):R2:=λx y H Q=> ∃i j,x= .int i/\y= .int j/\C i j/\Q (g i j) H
noncomputable def rI0(g:Int->Int->V):R2:=λx y H Q=> ∃i j,x= .int i/\y= .int j/\Q (g i j) H
noncomputable def rU(g:Int->V):V->Hp->VK->Prop:=λx H Q=> ∃i,x= .int i/\Q (g i) H
section
variable{X:Cx}{a b c:Expr}{ta tb tc:TE}{pos:Pos}
theorem qwK(ha:PE X a ta)(hb:PE X b tb){Z:List (Addr×Obj)}{s:Shared}{σ:St}{H:Hp}{R:V->V->Hp->Prop}(I:Inv X Z σ H s)(h:ta σ H λx H1=>tb σ H1 λy H2=>R x y H2){Q:Value->Shared->Prop}{f:Value->Value->Sem Value}(hf: ∀v u s2 x y H2,Inv X Z σ H2 s2->RelV x v->RelV y u->R x y H2->wpAny (model X.prog X.w) X.A (f v u) Q X.xe s2):
  wpAny (model X.prog X.w) X.A (eval a X.env) (λv aa=>wpAny (model X.prog X.w) X.A (eval b X.env) (λu bA=>wpAny (model X.prog X.w) X.A (f v u) Q X.xe bA) X.xe aa) X.xe s:=by refine thn (ha _ s σ H _ I h) λv s1 ⟨x,H1,I1,r1,q1⟩=> ?_;refine thn (hb _ s1 σ H1 _ I1 q1) λu s2 ⟨y,H2,I2,r2,q2⟩=> ?_;exact hf v u s2 x y H2 I2 r1 r2 q2
theorem qoX{op:Operator}{r:R2}(ho:OpR X (binaryOp op) r)(ha:PE X a ta)(hb:PE X b tb):PE X (.BinOp a op b pos) (tOp r ta tb):=by intro Z s σ H Q I h;exact wpAny_BinOp (qwK ha hb I h λv u s2 x y H2 I2 rx ry q=>ho _ s2 σ H2 x y v u Q I2 rx ry q)
theorem qvs{op:UnaryOp}{r:V->Hp->VK->Prop}(ho:UnR X (unaryOp op) r)(ha:PE X a ta):PE X (.UnaryOp op a pos) (tUn r ta):=by intro Z s σ H Q I h;exact UnaryOp_ (thn (ha _ s σ H _ I h) (by rintro v s1 ⟨x,H1,I1,r1,q1⟩;exact ho _ s1 σ H1 x v Q I1 r1 q1))
theorem opI{f:Value->Value->Sem Value}{C:Int->Int->Prop}{g:Int->Int->Int}(rule: ∀(i j:Int)(t u:Tok)(s:Shared)(Q:Value->Shared->Prop)(E:Value->Shared->Prop),C i j->Q (.int (g i j) s.toks) { s with toks:=s.toks+1 }->wpAny (model X.prog X.w) X.A (f (.int i t) (.int j u)) Q E s):
  OpR X f (rI C λi j=>.int (g i j)):=by intro Z s σ H x y v u Q I rx ry h;obtain⟨i,j,rfl,rfl,hc,q⟩:=h;obtain⟨t,rfl⟩:=rx;obtain⟨t',rfl⟩:=ry;exact rule i j t t' s _ _ hc ⟨.int _,H,I.tok _,⟨_,rfl⟩,q⟩
theorem qxg{f:Value->Value->Sem Value}{g:Int->Int->Int}(rule: ∀(i j:Int)(t u:Tok)(s:Shared)(Q:Value->Shared->Prop)(E:Value->Shared->Prop),Q (.int (g i j) s.toks) { s with toks:=s.toks+1 }->wpAny (model X.prog X.w) X.A (f (.int i t) (.int j u)) Q E s):
  OpR X f (rI0 λi j=>.int (g i j)):=by intro Z s σ H x y v u Q I rx ry h;obtain⟨i,j,rfl,rfl,q⟩:=h;obtain⟨t,rfl⟩:=rx;obtain⟨t',rfl⟩:=ry;exact rule i j t t' s _ _ ⟨.int _,H,I.tok _,⟨_,rfl⟩,q⟩
theorem qur{f:Value->Value->Sem Value}{g:Int->Int->Bool}(rule: ∀(i j:Int)(t u:Tok)(s:Shared)(Q:Value->Shared->Prop)(E:Value->Shared->Prop),Q (.bool (g i j)) s->wpAny (model X.prog X.w) X.A (f (.int i t) (.int j u)) Q E s):
  OpR X f (rI0 λi j=>.bl (g i j)):=by intro Z s σ H x y v u Q I rx ry h;obtain⟨i,j,rfl,rfl,q⟩:=h;obtain⟨t,rfl⟩:=rx;obtain⟨t',rfl⟩:=ry;exact rule i j t t' s _ _ ⟨.bl _,H,I,rfl,q⟩
noncomputable def qxN(i j:Int):Prop:=0<j/\j<1073741824
noncomputable def quC(i j:Int):Prop:=(-(2 ^ 64)<i/\i<2 ^ 64)\/(-(2 ^ 64)<j/\j<2 ^ 64)
theorem quC.ok(h:quC i j):IntMulOk i j:=by
 rcases h with⟨h1,h2⟩|⟨h1,h2⟩
 ·exact .of_left (intBits_le_64 h1 h2)
 ·exact .of_right (intBits_le_64 h1 h2)
theorem qsm:OpR X (binaryOp .Add) (rI0 λi j=>.int (i+j)):=qxg λ_ _ _ _ _ _ _ q=>add_int q
theorem qsc:OpR X (binaryOp .Sub) (rI0 λi j=>.int (i - j)):=qxg λ_ _ _ _ _ _ _ q=>sub_int q
theorem qsf:OpR X (binaryOp .Mult) (rI quC λi j=>.int (i*j)):=opI λ_ _ _ _ _ _ _ hc q=>mul_int q hc.ok
theorem qpa:OpR X (binaryOp .FloorDiv) (rI qxN λi j=>.int (i / j)):=opI λi j _ _ _ _ _ hc q=>by have h1:(0:Int)<j:=hc.1;have h2:j<1073741824:=hc.2;exact floordiv_int (by omega) (by rw[Int.fdiv_eq_ediv_of_nonneg i (by omega)];exact q) (.inl (PyProof.noPylong_small (by omega)))
theorem qsg:OpR X (binaryOp .Mod) (rI (λ_ j=>0<j) λi j=>.int (i % j)):=opI λi j _ _ _ _ _ hc q=>by have h1:(0:Int)<j:=hc;exact mod_int' (by omega) (by rw[Int.fmod_eq_emod_of_nonneg i (by omega)];exact q)
theorem unI{f:Value->Sem Value}{g:Int->Int}(rule: ∀(i:Int)(t:Tok)(s:Shared)(Q:Value->Shared->Prop)(E:Value->Shared->Prop),Q (.int (g i) s.toks) { s with toks:=s.toks+1 }->wpAny (model X.prog X.w) X.A (f (.int i t)) Q E s):
  UnR X f (rU λi=>.int (g i)):=by intro Z s σ H x v Q I rx h;obtain⟨i,rfl,q⟩:=h;obtain⟨t,rfl⟩:=rx;exact rule i t s _ _ ⟨.int _,H,I.tok _,⟨_,rfl⟩,q⟩
theorem qrf:UnR X (unaryOp .USub) (rU λi=>.int (-i)):=unI λ_ _ _ _ _ q=>neg_int q
end
noncomputable def qx1:V->V->Bool
 |.non,.non=>true|.non,.int _=>true|.int _,.non=>true|.non,.bl _=>true|.bl _,.non=>true|.non,.str _=>true|.str _,.non=>true
 |.int _,.int _=>true|.bl _,.bl _=>true|.str _,.str _=>true|.byt _,.byt _=>true
 |.int _,.str _=>true|.str _,.int _=>true|.bl _,.str _=>true|.str _,.bl _=>true
 |_,_=>false
noncomputable def rNe:R2:=λx y H Q=>qx1 x y=true/\Q (.bl (!decide (x=y))) H
theorem qqg:decide (V.int i=V.int j)=(i==j):=by rw[Bool.eq_iff_iff];simp
theorem qtE:decide (V.bl i=V.bl j)=(i==j):=by rw[Bool.eq_iff_iff];simp
theorem qqf{i j:Str}:decide (V.str i=V.str j)=(i==j):=by rw[Bool.eq_iff_iff];simp
theorem qqh:decide (V.byt i=V.byt j)=(i.toList==j.toList):=by rw[Bool.eq_iff_iff];simp
section
variable{X:Cx}{a b c:Expr}{ta tb tc:TE}{pos:Pos}
theorem qaP(I:Inv X Z σ H s)(q:Q (.bl k) H)(e:k=k'):EP X Z σ Q (.bool k') s:=by subst e;exact⟨.bl k,H,I,rfl,q⟩
theorem qvA:OpR X (compareOp .NotEq) rNe:=by
 intro Z s σ H x y v u Q I rx ry h;obtain⟨hs,q⟩:=h;cases x with
 |non=>
  cases rx;cases y with
  |non=>cases ry;exact PySem.EqNone.ne_none_none (qaP I q (by simp))
  |bl j=>cases ry;exact PySem.EqNone.ne_none_bool (qaP I q (by simp))
  |int j=>obtain⟨t',rfl⟩:=ry;exact PySem.EqNone.ne_none_int (qaP I q (by simp))
  |str j=>obtain⟨t',rfl⟩:=ry;exact PySem.EqNone.ne_none_str (qaP I q (by simp))
  |_=>exact absurd (show false=true from hs) Vq
 |bl i=>
  cases rx;cases y with
  |non=>cases ry;exact PySem.EqNone.ne_bool_none (qaP I q (by simp))
  |bl j=>cases ry;exact ne_bool (qaP I q (congrArg not qtE))
  |str j=>obtain⟨t',rfl⟩:=ry;exact PySem.EqMixed.ne_bool_str (qaP I q (by simp))
  |_=>exact absurd (show false=true from hs) Vq
 |int i=>
  obtain⟨t,rfl⟩:=rx;cases y with
  |non=>cases ry;exact PySem.EqNone.ne_int_none (qaP I q (by simp))
  |int j=>obtain⟨t',rfl⟩:=ry;exact ne_int (qaP I q (congrArg not qqg))
  |str j=>obtain⟨t',rfl⟩:=ry;exact PySem.EqMixed.ne_int_str (qaP I q (by simp))
  |_=>exact absurd (show false=true from hs) Vq
 |str i=>
  obtain⟨t,rfl⟩:=rx;cases y with
  |non=>cases ry;exact PySem.EqNone.ne_str_none (qaP I q (by simp))
  |bl j=>cases ry;exact PySem.EqMixed.ne_str_bool (qaP I q (by simp))
  |int j=>obtain⟨t',rfl⟩:=ry;exact PySem.EqMixed.ne_str_int (qaP I q (by simp))
  |str j=>obtain⟨t',rfl⟩:=ry;exact ne_str (qaP I q (congrArg not qqf))
  |_=>exact absurd (show false=true from hs) Vq
 |byt i=>
  obtain⟨t,rfl⟩:=rx;cases y with
  |byt j=>obtain⟨t',rfl⟩:=ry;exact W.ne_bytes (qaP I q (congrArg not qqh))
  |_=>exact absurd (show false=true from hs) Vq
 |_=>cases y<;>exact absurd (show false=true from hs) Vq
theorem qvB:OpR X (compareOp .Lt) (rI0 λi j=>.bl (decide (i<j))):=qur λ_ _ _ _ _ _ _ q=>lt_int q
theorem qvC:OpR X (compareOp .LtE) (rI0 λi j=>.bl (decide (i<=j))):=qur λ_ _ _ _ _ _ _ q=>le_int q
theorem qvD:OpR X (compareOp .Gt) (rI0 λi j=>.bl (decide (j<i))):=qur λ_ _ _ _ _ _ _ q=>gt_int q
theorem qvE:OpR X (compareOp .GtE) (rI0 λi j=>.bl (decide (j<=i))):=qur λ_ _ _ _ _ _ _ q=>ge_int q
theorem qjr:OpR X (compareOp .Lt) (λx y H Q=> ∃i j,x= .str i/\y= .str j/\Q (.bl (decide (i.cps.toList<j.cps.toList))) H):=by intro Z s σ H x y v u Q I rx ry h;obtain⟨i,j,rfl,rfl,q⟩:=h;obtain⟨t,rfl⟩:=rx;obtain⟨t',rfl⟩:=ry;exact lt_str (qaP I q rfl)
theorem qsj:OpR X (compareOp .Is) (λx y H Q=>y= .non/\Q (.bl (decide (x= .non))) H):=by
 intro Z s σ H x y v u Q I rx ry h;obtain⟨rfl,q⟩:=h;cases ry;refine is_none_gen (qaP I q ?_)
 cases x<;>first
  |(rfl)
  |(obtain⟨t,rfl⟩:=rx;rfl)
theorem qo7:OpR X (compareOp .IsNot) (λx y H Q=>y= .non/\Q (.bl (!decide (x= .non))) H):=by
 intro Z s σ H x y v u Q I rx ry h;obtain⟨rfl,q⟩:=h;cases ry;refine isnot_none_gen (qaP I q ?_)
 cases x<;>first
  |(rfl)
  |(obtain⟨t,rfl⟩:=rx;rfl)
theorem qsz(b:Expr)(h:op≠.In:=by decide)(h2:op≠.NotIn:=by decide):behindInMarks op b=false:=by
 have e1:(op==CmpOp.In)=false:=by grind
 have e2:(op==CmpOp.NotIn)=false:=by grind
 cases b<;>simp[behindInMarks,e1,e2]
theorem qfX{op:CmpOp}{r:R2}(ho:OpR X (compareOp op) r)(ha:PE X a ta)(hb:PE X b tb)(hm:behindInMarks op b=false):PE X (.Compare a [op] [b] pos) (tOp r ta tb):=by intro Z s σ H Q I h;exact wpAny_Compare1 (qwK ha hb I h λv u s2 x y H2 I2 rx ry q=>ho _ s2 σ H2 x y v u Q I2 rx ry q) hm
noncomputable def qrn(t:TE):TT:=λσ H Q=>t σ H λx H'=> ∃k,x= .bl k/\Q k H'
theorem qd6{op:CmpOp}{r:R2}(ho:OpR X (compareOp op) r)(ha:PE X a ta)(hb:PE X b tb)(hm:behindInMarks op b=false):PT X (.Compare a [op] [b] pos) (qrn (tOp r ta tb)):=by
 intro Z s σ H Q I h;refine wpAny_isTrue_Compare1 (thn (ha _ s σ H _ I h) λv s1 ⟨x,H1,I1,r1,q1⟩=>thn (hb _ s1 σ H1 _ I1 q1) λu s2 ⟨y,H2,I2,r2,q2⟩=>
  thn (ho _ s2 σ H2 x y v u _ I2 r1 r2 q2) λc s3 ⟨z,H3,I3,r3,k,e,q3⟩=> ?_) hm
 subst e;cases r3;exact Vd ⟨H3,I3,q3⟩
noncomputable def qiX(r r':R2)(ta tb tc:TE):TE:=λσ H Q=>ta σ H λx H1=>tb σ H1 λy H2=>r x y H2 λz H3=> ∃k,z= .bl k/\
 (if k=true then tc σ H3 λw' H4=>r' y w' H4 Q else Q (.bl false) H3)
theorem qlY{op dF:CmpOp}{r r':R2}(ho:OpR X (compareOp op) r)(bE:OpR X (compareOp dF) r')(ha:PE X a ta)(hb:PE X b tb)(hc:PE X c tc)(hm:lastMarks [op,dF] [b,c]=false:=by with_unfolding_all rfl):PE X (.Compare a [op,dF] [b,c] pos) (qiX r r' ta tb tc):=by
 intro Z s σ H Q I h;refine Compare_chain (thn (ha _ s σ H _ I h) λv s1 ⟨x,H1,I1,r1,q1⟩=>chain_link (thn (hb _ s1 σ H1 _ I1 q1) λu s2 ⟨y,H2,I2,r2,q2⟩=>
  thn (ho _ s2 σ H2 x y v u _ I2 r1 r2 q2) λd s3 ⟨z,H3,I3,r3,k,e,q3⟩=> ?_)) hm
 subst e;cases r3;refine Vd ?_;cases k with
 |false=>exact ite_ff ⟨.bl _,H3,I3,rfl,q3⟩
 |true=>exact ite_tt (chain_last (thn (hc _ s3 σ H3 _ I3 q3) (by rintro w' s4 ⟨z',H4,I4,r4,q4⟩;exact bE _ s4 σ H4 y z' u w' Q I4 r2 r4 q4)))
theorem qlM{op dF:CmpOp}{r r':R2}(ho:OpR X (compareOp op) r)(bE:OpR X (compareOp dF) r')(ha:PE X a ta)(hb:PE X b tb)(hc:PE X c tc)(hm:lastMarks [op,dF] [b,c]=false:=by with_unfolding_all rfl):PT X (.Compare a [op,dF] [b,c] pos) (qrn (qiX r r' ta tb tc)):=by
 intro Z s σ H Q I h;refine isTrue_chain (thn (ha Z s σ H _ I h) λv s1 ⟨x,H1,I1,r1,q1⟩=>test_link (thn (hb Z s1 σ H1 _ I1 q1) λu s2 ⟨y,H2,I2,r2,q2⟩=>
  thn (ho Z s2 σ H2 x y v u _ I2 r1 r2 q2) λd s3 ⟨z,H3,I3,r3,k,e,q3⟩=> ?_)) hm
 subst e;cases r3;refine Vd ?_;cases k with
 |false=>obtain⟨k',e',q'⟩:=q3;cases e';exact ite_ff ⟨H3,I3,q'⟩
 |true=>refine ite_tt (test_last (thn (hc Z s3 σ H3 _ I3 q3) λw' s4 ⟨z',H4,I4,r4,q4⟩=>thn (bE Z s4 σ H4 y z' u w' _ I4 r2 r4 q4) λd' s5 ⟨z2,H5,I5,r5,k2,e2,q5⟩=> ?_));subst e2;cases r5;exact Vd ⟨H5,I5,q5⟩
noncomputable def qyK(K:W.Frag)(x:V)(H:Hp)(k:Bool):Prop:=
 match x with
 |.non=>k=false
 |.bl b=>k=b
 |.int i=>k=(i != 0)
 |.str y=>y.length<=sizeLine/\k=((y.length:Int) != 0)
 |.byt y=>y.size<=sizeLine/\k=((y.size:Int) != 0)
 |.ref p=>(∃xs,SqL K H p xs/\k= !xs.isEmpty)\/(∃xs,SqT K H p xs/\k= !xs.isEmpty)\/∃kvs,H p=some (.dK kvs)/\k= !kvs.isEmpty
 |_=>False
theorem qiw{κ:Type}{kvs:List (κ×V)}{vs:List (κ×Value)}(r:KV kvs vs):(!vs.isEmpty)= !kvs.isEmpty:=by cases r<;>rfl
theorem qdH{xs:List V}{its:List Value}(r:qau xs its):(!its.toArray.isEmpty)= !xs.isEmpty:=by cases r<;>simp
theorem qe8:(sizeLine:Nat)<2 ^ 63:=by decide
theorem qwW:qyL X (λx H Q=> ∃k,qyK X.K x H k/\Q k H):=by
 intro Z s σ H x v Q I rx h;obtain⟨k,e,q⟩:=h;have hl:=qe8;have hs:sizeLine=16777216:=sizeLine_eq;cases x with
 |non=>cases rx;have e':k=false:=e;subst e';exact truthy_none ⟨H,I,q⟩
 |bl b=>cases rx;have e':k=b:=e;subst e';exact Vd ⟨H,I,q⟩
 |int i=>obtain⟨t,rfl⟩:=rx;have e':k=(i != 0):=e;subst e';exact P.truthy_int ⟨H,I,q⟩
 |str y=>obtain⟨t,rfl⟩:=rx;obtain⟨hy,e'⟩:y.length<=sizeLine/\k=((y.length:Int) != 0):=e;subst e';exact P.truthy_str (by omega) ⟨H,I.tok _,q⟩
 |byt y=>obtain⟨t,rfl⟩:=rx;obtain⟨hy,e'⟩:y.size<=sizeLine/\k=((y.size:Int) != 0):=e;subst e';exact W.truthy_bytes (by omega) ⟨H,I.tok _,q⟩
 |ref p=>
  cases rx;have e':(∃xs,SqL X.K H p xs/\k= !xs.isEmpty)\/(∃xs,SqT X.K H p xs/\k= !xs.isEmpty)\/∃kvs,H p=some (.dK kvs)/\k= !kvs.isEmpty:=e
  rcases e' with⟨xs,hx,e'⟩|⟨xs,hx,e'⟩|⟨kvs,hx,e'⟩
  ·subst e';obtain⟨its,r,pl,hz⟩:=I.list hx;have hlen:=r.length;exact wpAny_truthy_list pl.isList (by simp only[List.size_toArray];omega) ⟨H,I.tok _,by rw[qdH r];exact q⟩
  ·subst e';obtain⟨its,r,pl,hz⟩:=I.tuple hx;have hlen:=r.length;exact truthy_tuple pl (by simp only[List.size_toArray];omega) ⟨H,I.tok _,by rw[qdH r];exact q⟩
  ·subst e';obtain⟨hz,hS,vs,r,m⟩:kvs.length<=sizeLine/\(p==sysModules)=false/\∃vs,KV kvs vs/\s.heap.DictOf (qas X.prog X.w) p vs:=I.hok p _ hx;have hlen:kvs.length=vs.length:=Paired.length r;exact wpAny_truthy_dict hS m (by omega) ⟨H,I.tok _,by rw[qiw r];exact q⟩
 |_=>exact(show False from e).elim
theorem qib:OpR X (binaryOp .Add) (λx y H Q=> ∃i j,x= .str i/\y= .str j/\i.length+j.length<=sizeLine/\Q (.str (i++j)) H):=by intro Z s σ H x y v u Q I rx ry h;obtain⟨i,j,rfl,rfl,hz,q⟩:=h;obtain⟨t,rfl⟩:=rx;obtain⟨t',rfl⟩:=ry;exact add_str (λt' tk=>⟨.str (i++j),H,I.tok _,⟨_,rfl⟩,q⟩) hz
theorem qcd(r:qau [x] us): ∃u,us=[u]/\RelV x u:=by
 cases r with
 |cons r1 r2=>cases r2;exact⟨_,rfl,r1⟩
theorem qiO(r:qau [x,y] us): ∃u w',us=[u,w']/\RelV x u/\RelV y w':=by
 cases r with
 |cons r1 r2=>
  cases r2 with
  |cons r3 r4=>cases r4;exact⟨_,_,rfl,r1,r3⟩
theorem qkX(hc:X.calm=true):qat X (.builtin "max") (λxs H Q=> ∃i j,xs=[.int i,.int j]/\Q (.int (if j>i then j else i)) H):=by
 intro Z s σ H xs us Q I r h;obtain⟨i,j,rfl,q⟩:=h;obtain⟨u,w',rfl,⟨t,rfl⟩,⟨t',rfl⟩⟩:=qiO r;refine max_two_ints (I.ok.hd hc) λh' tk k=>⟨_,H,I.kept k,?_,q⟩
 by_cases hj:j>i
 ·rw[if_pos hj,if_pos hj];exact⟨_,rfl⟩
 ·rw[if_neg hj,if_neg hj];exact⟨_,rfl⟩
theorem qkW(hc:X.calm=true):qat X (.builtin "min") (λxs H Q=> ∃i j,xs=[.int i,.int j]/\Q (.int (if j<i then j else i)) H):=by
 intro Z s σ H xs us Q I r h;obtain⟨i,j,rfl,q⟩:=h;obtain⟨u,w',rfl,⟨t,rfl⟩,⟨t',rfl⟩⟩:=qiO r;refine min_two_ints (I.ok.hd hc) λh' tk k=>⟨_,H,I.kept k,?_,q⟩
 by_cases hj:j<i
 ·rw[if_pos hj,if_pos hj];exact⟨_,rfl⟩
 ·rw[if_neg hj,if_neg hj];exact⟨_,rfl⟩
noncomputable def qyO(K:W.Frag)(x:V)(H:Hp)(n:Nat):Prop:=
 match x with
 |.str y=>y.length<=sizeLine/\n=y.length
 |.byt y=>y.size<=sizeLine/\n=y.size
 |.ref p=>(∃xs,SqL K H p xs/\n=xs.length)\/∃xs,SqT K H p xs/\n=xs.length
 |_=>False
theorem qm8:qat X (.builtin "len") (λxs H Q=> ∃x n,xs=[x]/\qyO X.K x H n/\Q (.int n) H):=by
 intro Z s σ H xs us Q I r h;obtain⟨x,n,rfl,e,q⟩:=h;obtain⟨u,rfl,rx⟩:=qcd r;have hs:=sizeLine_eq;cases x with
 |str y=>obtain⟨t,rfl⟩:=rx;obtain⟨hy,e'⟩:y.length<=sizeLine/\n=y.length:=e;subst e';exact len_str (by omega) ⟨.int _,H,I.tok _,⟨_,rfl⟩,q⟩
 |byt y=>obtain⟨t,rfl⟩:=rx;obtain⟨hy,e'⟩:y.size<=sizeLine/\n=y.size:=e;subst e';exact W.len_bytes (by omega) ⟨.int _,H,I.tok _,⟨_,rfl⟩,q⟩
 |ref p=>
  cases rx;have e':=e
  rcases e' with⟨xs,hx,e'⟩|⟨xs,hx,e'⟩
  ·subst e';obtain⟨its,r',pl,hz⟩:=I.list hx;have hlen:=r'.length;exact Calls.call_len_list pl.isList (by simp only[List.size_toArray];omega) ⟨.int _,H,I.tok _,⟨_,by simp only[List.size_toArray];rw[hlen]⟩,q⟩
  ·subst e';obtain⟨its,r',pl,hz⟩:=I.tuple hx;have hlen:=r'.length;exact len_tuple pl (by simp only[List.size_toArray];omega) ⟨.int _,H,I.tok _,⟨_,by simp only[List.size_toArray];rw[hlen]⟩,q⟩
 |_=>exact(e).elim
end
structure qqP(h:Heap)(x dx C:Addr)(mA:Str->Option Value):Prop where
 obj:h.get? x=some (W.instObj C dx)
 ns:h.Ns1 dx mA
 ne:dx≠x
theorem qjJ{h:Heap}(n:h.Ns1 dx mA): ∃od,h.get? dx=some od/\∀name,W.lookIn name od=some (mA name):=by
 obtain⟨o,es,ep,ho,hd,hk,_,hm⟩:=n;refine⟨o,ho,λname=> ?_⟩;have e:=hm name;unfold nsFind findBy at e;rw[<-Array.find?_toList] at e;unfold W.lookIn;rw[hd];dsimp only;split
 ·simp_all
 ·have a:es.toList.any (·.refKey)=false:=by rw[List.any_eq_false];intro y hy;obtain⟨z,t,iP⟩:=hk y (Array.mem_toList_iff.mp hy);simp[DictEntry.refKey,iP]
  grind
theorem qqP.look(I:qqP h x dx C mA): ∃od,W.InstAt h x (W.instObj C dx) C (some od)/\∀name,W.lookIn name od=some (mA name):=
 let ⟨od,ho,hl⟩:=qjJ I.ns
 ⟨od,⟨I.obj,rfl,rfl,ho⟩,hl⟩
section
variable{name:Str}
theorem qpJ{s:Shared}{K:W.Frag}{expr:Bool}(X:K.In s.heap)(I:qqP s.heap x dx C mA)(hg:W.plainGet K C name=true)(hh:W.hasDictIn K C=true)(ha:W.findIn K (.ref C) name=some none)(hv:mA name=some v)(dP:W.handedIn v=true)(h:Q v { s with toks:=s.toks+1 }):
  wpAny (model prog w) A (getAttr (.ref x) name expr) Q E s:=by obtain⟨od,J,hl⟩:=I.look;exact W.get_value X J (W.plainGet_of hg).1 (W.findObj_own hh ha rfl (by rw[hl,hv])) dP h
theorem qmv{s:Shared}{K:W.Frag}(X:K.In s.heap)(I:qqP s.heap x dx C mA)(hg:W.plainGet K C name=true)(hf:W.findIn K (.ref C) name=some (some (.ref f)))(ht:W.isFn K (.ref f)=true)(hv:mA name=none)(h:Q (.ref f,[.ref x]) s):
  wpAny (model prog w) A (getMethod (.ref x) name pl) Q E s:=by obtain⟨od,J,hl⟩:=I.look;exact W.method_fn X J (W.plainGet_of hg).1 (W.plainGet_of hg).2 hf (beq_iff_eq.mp ht) (by show(W.lookIn _ od).map _=some _;rw[hl,hv];rfl) h
theorem qoA{s:Shared}{K:W.Frag}{ns:List Str}(X:K.In s.heap)(I:qqP s.heap x dx C mA)(hs:W.findIn K (.ref C) "__setattr__" =some (some (.builtin "object.__setattr__")))(hp:W.plainOver K C=true)(ht:W.takerIn K C name=some none)(hh:W.hasDictIn K C=true)(hw:PySem.Within mA ns)(hsz:ns.length<=sizeLine)(h: ∀h',qqP h' x dx C (λy=>if y=name then some v else mA y)->Heap.SameBut dx s.heap h'->Q () { s with heap:=h',toks:=s.toks+2 }):
  wpAny (model prog w) A (setAttr (.ref x) name v) Q E s:=by obtain⟨od,J,hl⟩:=I.look;refine W.set_plain X J hs (W.osa_open (r:=none) X J hp ht λb=> ?_);obtain⟨cd,hc,eO⟩:=W.any_some hh;have hx:=I.obj;refine Va (Vb (Va (Va (wpAny_loadPart hx (Va (W.Looks.here (W.looks_clsIn X hc) ?_))))));rw[eO];refine Vb (Va (Vb (Va ?_)));refine wpAny_nsSet1 I.ns λh' gS dX=> ?_;obtain⟨oD,esD,epD,gP,iV,hcD⟩:=gS.count (PySem.Within.cons name v hw);refine Va (wpAny_lookBehind gP (by rw[iV];exact pastItsLine_dict (Vp hcD (by grind))) ?_);exact Vb (h _ ⟨(dX.2 _ (Ne.symm I.ne)).trans I.obj,gS,I.ne⟩ dX)
theorem qmb{A:Around}{s:Shared}{K:W.Frag}(X:K.In s.heap)(hm:W.makesIn K C=true)(hi:W.findIn K (.ref C) "__init__" =some (some (.ref f)))(hf:W.typeIn K (.ref f)=some (.type "function"))(h:codeAny (model prog w) (A.under (.builtin "type.__call__" ⟨.ref C::vs,kw⟩)) (.call (.ref f) ⟨.ref (s.heap.objs.size+1)::vs,kw⟩) (W.InitBack (s.heap.objs.size+1) R)
   { s with heap:=(s.heap.push W.emptyDict).push (W.instObj C s.heap.objs.size) }):
  codeAny (model prog w) A (.call (.ref C) ⟨vs,kw⟩) R s:=by exact W.make_core (W.makes_of X hm) (W.looks_findIn X hi) (λself=>W.bind_fn X _ hf) (.inl rfl) h
end
noncomputable def qeA(f:Str)(v:V):List (Str×V)->List (Str×V)
 |[]=>[(f,v)]
 |(g,x)::r=>if g=f then(g,v)::r else(g,x)::qeA f v r
theorem qcW(f g:Str)(v:V): ∀fs:List (Str×V),(qeA f v fs).lookup g=if g=f then some v else fs.lookup g
 |[]=>by
  show List.lookup g [(f,v)]=_;by_cases h:g=f
  ·simp_all
  simp_all
 |(k,x)::r=>by
  have ih:=qcW f g v r;rw[show qeA f v _=(if k=f then(k,v)::r else(k,x)::qeA f v r) from rfl];by_cases hk:k=f
  ·rw[if_pos hk];by_cases h:g=k
   ·simp_all
   ·have hb:=beq_eq_false_iff_ne.mpr h;simp only[List.lookup,hb,if_neg (λe:g=f=>h (e.trans hk.symm))]
  ·rw[if_neg hk];by_cases h:g=k
   ·simp_all
   ·have hb:=beq_eq_false_iff_ne.mpr h;simp only[List.lookup,hb];exact ih
theorem qc0(f:Str)(v:V): ∀fs:List (Str×V),f∈(qeA f v fs).map (·.1)/\∀g,g∈fs.map (·.1)->g∈(qeA f v fs).map (·.1)
 |[]=>⟨by simp[qeA],λg h=>by simp at h⟩
 |(k,x)::r=>by
  obtain⟨i1,i2⟩:=qc0 f v r;rw[show qeA f v _=(if k=f then(k,v)::r else(k,x)::qeA f v r) from rfl]
  grind
theorem qcZ(f:Str)(v:V): ∀fs:List (Str×V),(qeA f v fs).length<=fs.length+1
 |[]=>by simp[qeA]
 |(k,x)::r=>by
  have ih:=qcZ f v r;rw[show qeA f v _=(if k=f then(k,v)::r else(k,x)::qeA f v r) from rfl]
  grind
theorem qeB.some_of(r:qeB (some v) o): ∃u,o=some u/\RelV v u:=by
 cases o with
 |none=>exact(r).elim
 |some u=>exact⟨u,rfl,r⟩
theorem qeB.none_of(r:qeB none o):o=none:=by
 cases o with
 |none=>rfl
 |some u=>exact(r).elim
theorem qj8(r:RelV v u):W.handedIn u=true:=by
 cases v with
 |non|bl b=>cases(r);rfl
 |int i|str x|byt b|flt b=>obtain⟨t,e⟩:=(r);cases e;rfl
 |ref a|ty n=>cases(r);rfl
section
theorem qek(hok:HOk P w H h)(e:H a=some (.ins C dx fs)): ∃mA,qqP h a dx C mA/\(∀f,qeB (fs.lookup f) (mA f))/\PySem.Within mA (fs.map (·.1))/\fs.length<=1000/\H dx=some (.own a):=by
 obtain⟨d,z,ne,ob,mA,n,r,q⟩:=(hok a _ e)
 exact⟨mA,⟨ob,n,ne⟩,r,q,z,d⟩
end
structure Cls(K:W.Frag)(C:Addr):Prop where
 pg:W.plainGet K C Str.empty=true
 hd:W.hasDictIn K C=true
 po:W.plainOver K C=true
 sa:W.findIn K (.ref C) "__setattr__" =some (some (.builtin "object.__setattr__"))
theorem Cls.get{K:W.Frag}{C:Addr}(c:Cls K C)(f:Str):W.plainGet K C f=true:=c.pg
noncomputable def qbe(K:W.Frag)(C:Addr)(f:Str):Prop:=W.findIn K (.ref C) f=some none
theorem qbe.taker{K:W.Frag}{C:Addr}{f:Str}(n:qbe K C f):W.takerIn K C f=some none:=by unfold W.takerIn;rw[n];rfl
structure Con(K:W.Frag)(C:Addr)(f:Str)(v:V)(u:Value):Prop where
 at_:W.findIn K (.ref C) f=some (some u)
 rel:RelV v u
 get:W.specialIn K u "__get__" =some none
 cp:W.copiedNames.contains f=false
structure quh(K:W.Frag)(C:Addr)(m:Str)(f:Addr):Prop where
 at_:W.findIn K (.ref C) m=some (some (.ref f))
 fn:W.isFn K (.ref f)=true
 kp:W.keepIn K (.ref f)=true
section
variable{f:Str}
theorem qix(I:Inv X Z σ H s)(e:H a=some (.ins C dx fs))(c:Cls X.K C)(n:qbe X.K C f)(l:fs.lookup f=some v)(h: ∀u s',Inv X Z σ H s'->RelV v u->Q u s'):wpAny (model X.prog X.w) A (getAttr (.ref a) f b) Q E s:=by obtain⟨mA,am,r,_,_,_⟩:=qek I.hok e;obtain⟨u,hu,ru⟩:=qeB.some_of (by rw[<-l];exact r f);exact qpJ I.kIn am (c.get f) c.hd n hu (qj8 ru) (h u _ (I.tok _) ru)
theorem qdJ{m:Str}(I:Inv X Z σ H s)(e:H a=some (.ins C dx fs))(c:Cls X.K C)(k:quh X.K C m g)(l:fs.lookup m=none)(h:Q (.ref g,[.ref a]) s):wpAny (model X.prog X.w) A (getMethod (.ref a) m pl) Q E s:=by obtain⟨mA,am,r,_,_,_⟩:=qek I.hok e;have hn:=qeB.none_of (by rw[<-l];exact r m);exact qmv I.kIn am (c.get m) k.at_ k.fn hn h
theorem qh5(I:Inv X Z σ H s)(e:H a=some (.ins C dx fs))(c:Cls X.K C)(n:qbe X.K C f)(hl:fs.length<1000)(ry:RelV y u)(h: ∀s',Inv X Z σ (upd H a (.ins C dx (qeA f y fs))) s'->Q () s'):wpAny (model X.prog X.w) A (setAttr (.ref a) f u) Q E s:=by
 obtain⟨mA,am,r,wi,_,ho⟩:=qek I.hok e;have hz:(fs.map (·.1)).length<=sizeLine:=by rw[List.length_map,sizeLine_eq];omega
 refine qoA I.kIn am c.sa c.po n.taker c.hd wi hz λh' O' sb=>h _ ?_;have hd: ∃o,h'.get? dx=some o:=let ⟨o,_,_,e',_⟩:=O'.ns;⟨o,e'⟩
 refine I.write (x:=a) (e:=dx) (by rw[e];exact True.intro) (.inr ho) (λb q hb z=>(sb.2 b hb).trans z) hd ?_;refine⟨by rw[qac am.ne];exact ho,?_,am.ne,O'.obj,_,O'.ns,λg=> ?_,λg hg=> ?_⟩
 ·have:=qcZ f y fs;omega
 ·rw[qcW];by_cases q:g=f
  ·rw[if_pos q,if_pos q];exact ry
  grind
 ·by_cases q:g=f
  ·rw[q];exact(qc0 f y fs).1
  ·refine(qc0 f y fs).2 g (wi g λz=>hg ?_)
   grind
theorem Inv.made(I:Inv X Z σ H s):Inv X Z σ (upd (upd H s.heap.objs.size (.own (s.heap.objs.size+1))) (s.heap.objs.size+1) (.ins C s.heap.objs.size []))
  { s with heap:=(s.heap.push W.emptyDict).push (W.instObj C s.heap.objs.size) }:=by
 have e1:(s.heap.push W.emptyDict).get? _=some _:=Vh _ rfl;have e2:=by
  have:=Vh (s.heap.push W.emptyDict) (o:=W.instObj C s.heap.objs.size) rfl
  rwa [Heap.size_push] at this
 have e3:(s.heap.push _).Ns _ _:=⟨W.emptyDict, #[],_,e1,rfl,(λe he=>absurd he (by simp)),λ_=>rfl⟩
 have I1:=I.laid (o:=.own (s.heap.objs.size+1)) (t':=s.toks) (λb u q=>Vg _ q) (Vl _) ⟨_,e1⟩;refine I1.laid (λb u q=>Vg _ q) (Nat.le_of_eq (Heap.size_push _ _)) ?_;have ne:s.heap.objs.size≠s.heap.objs.size+1:=Vn (Vy _);refine⟨by rw[qac ne,qae],Nat.zero_le _,ne,e2,λ_=>none,(Heap.Ns1.of_empty e3).at λo q=>Vg _ q,λ_=>True.intro,λy hy=>absurd rfl hy⟩
theorem qqJ{f:Str}(hb:attributeBase e f env (eval e env)=eval e env)(h:wpAny (model prog w) A (eval e env) (λo aa=>wpAny (model prog w) A (getAttr o f true) Q E aa) E s):wpAny (model prog w) A (eval (.Attribute e f pos) env) Q E s:=
 Attribute_any_ h (by rw[arm_eval_Attribute,hb])
end
noncomputable def qwZ(K:W.Frag)(ta:TE)(f:Str):TE:=λσ H Q=>ta σ H λx H1=> ∃a C dx fs v,x= .ref a/\H1 a=some (.ins C dx fs)/\Cls K C/\qbe K C f/\fs.lookup f=some v/\Q v H1
noncomputable def qx2(K:W.Frag)(ta tv:TE)(f:Str):TS:=λD σ H=>tv σ H λy H1=>ta σ H1 λx H2=> ∃a C dx fs,x= .ref a/\H2 a=some (.ins C dx fs)/\Cls K C/\qbe K C f/\fs.length<1000/\
 D.nx σ (upd H2 a (.ins C dx (qeA f y fs)))
section
variable{f:Str}
theorem qr6{X:Cx}{e:Expr}{pos:Pos}{ta:TE}(he:PE X e ta)(hb:attributeBase e f X.env (eval e X.env)=eval e X.env):PE X (.Attribute e f pos) (qwZ X.K ta f):=by intro Z s σ H Q I h;refine qqJ hb (thn (he _ s σ H _ I h) λu s1 ⟨x,H1,I1,rx,a,C,dx,fs,v,ex,ea,c,n,l,q⟩=> ?_);subst ex;obtain rfl:u=Value.ref a:=rx;exact qix I1 ea c n l λu' s2 I2 ru=>⟨v,H1,I2,ru,q⟩
theorem qrV{X:Cx}{o:Expr}{value:Expr}{pos:Pos}{pos':Pos}{ta:TE}{tv:TE}(ha:PE X o ta)(hv:PE X value tv)(hs:swapsWith value (some (.Attribute o f pos')) pos.line X.env=pure false):PS X (.Assign [.Attribute o f pos'] value pos) (qx2 X.K ta tv f):=by intro Z s σ H D I h;refine plainObj_wpAny_Assign_Attribute (thn (hv _ s σ H _ I h) λu s1 ⟨y,H1,I1,ry,q⟩=>thn (ha _ s1 σ H1 _ I1 q) λov s2 ⟨x,H2,I2,rx,a,C,dx,fs,ex,ea,c,n,l,q2⟩=> ?_) hs;subst ex;obtain rfl:ov=Value.ref a:=rx;exact qh5 I2 ea c n l ry λs3 I3=>⟨σ,_,I3,q2⟩
noncomputable def rAdd:V->V->Hp->VK->Prop:=λx y H Q=> ∃i j,x= .int i/\y= .int j/\Q (.int (i+j)) H
end
section
inductive qgG(K:W.Frag)(H:Hp):V->Value->Prop where
 |non:qgG K H .non (.type "NoneType")
 |bl (x:Bool):qgG K H (.bl x) (.type "bool")
 |int (i:Int):qgG K H (.int i) (.type "int")
 |str (x:Str):qgG K H (.str x) (.type "str")
 |flt (x:UInt64):qgG K H (.flt x) (.type "float")
 |lst {a:Addr} {xs:List V} (e:H a=some (.lst xs)):qgG K H (.ref a) (.type "list")
 |frz {a:Addr} {o:Obj} {xs:List V} (e:H a=some (.frz o (.lst xs))):qgG K H (.ref a) (.type "list")
 |tup {a:Addr} {xs:List V} (e:H a=some (.tup xs)):qgG K H (.ref a) (.type "tuple")
 |dK {a:Addr} {kvs:List (Key×V)} (e:H a=some (.dK kvs)):qgG K H (.ref a) (.type "dict")
 |dT {a:Addr} {kvs:List (List Key×V)} (e:H a=some (.dT kvs)):qgG K H (.ref a) (.type "dict")
 | ins {a C dx:Addr} {fs:List (Str×V)} (e:H a=some (.ins C dx fs)) (cl:Cls K C) (ha:W.findIn K (.ref C) "__class__" =some (some (.builtin "object.__class__")))
   (hn:W.specialIn K (.builtin "object.__class__") "__get__" =some (some (.builtin "getset_descriptor.__get__"))) (jG:W.takesIn K (.builtin "object.__class__")=some true)
   (hm:W.mroIn K C (.type "object")=some true):qgG K H (.ref a) (.ref C)
theorem qj1(I:Inv X Z σ H s)(rx:RelV x u)(ty:qgG X.K H x t)(e:W.kitOne X.K t c=some b)(h: ∀tk,Q (.bool b) { s with toks:=tk }):
  wpAny (model X.prog X.w) A (call (.builtin "isinstance") [u,c]) Q E s:=by
 cases ty with
 |non=>cases(show u=Value.none from rx);exact W.kia_one W.kitx_none I.kIn True.intro e (λz=>nomatch z) h
 |bl y=>cases(show u=Value.bool y from rx);exact W.kia_one W.kitx_bool I.kIn True.intro e (λz=>nomatch z) h
 |int i=>obtain⟨t,q⟩:=(show ∃t,u=Value.int i t from rx);cases q;exact W.kia_one W.kitx_int I.kIn True.intro e (λz=>nomatch z) h
 |str y=>obtain⟨t,q⟩:=(show ∃t,u=Value.str y t from rx);cases q;exact W.kia_one W.kitx_str I.kIn True.intro e (λz=>nomatch z) h
 |flt y=>obtain⟨t,q⟩:=(show ∃t,u=Value.float y t from rx);cases q;exact W.kia_one W.kitx_float I.kIn True.intro e (λz=>nomatch z) h
 |@lst a xs ea=>
  cases(show u=Value.ref a from rx);obtain⟨_,_,n,_,h1⟩:=(show qaG X.prog X.w H s.heap a (.lst xs) from I.hok a _ ea)
  exact W.kia_one W.kitx_list I.kIn ⟨_,h1,rfl⟩ e (λz=>nomatch z) h
 |@frz a ob xs ea=>
  cases(show u=Value.ref a from rx);obtain⟨_,_,_,n,_,h1⟩:=(show qaG X.prog X.w H s.heap a (.frz ob (.lst xs)) from I.hok a _ ea)
  exact W.kia_one W.kitx_list I.kIn ⟨_,h1,rfl⟩ e (λz=>nomatch z) h
 |@tup a xs ea=>
  cases(show u=Value.ref a from rx);obtain⟨_,_,_,p⟩:=(show qaG X.prog X.w H s.heap a (.tup xs) from I.hok a _ ea)
  obtain⟨o,h1,h2,_⟩:=p;exact W.kia_one W.kitx_tuple I.kIn ⟨o,h1,h2⟩ e (λz=>nomatch z) h
 |@dK a kvs ea=>
  cases(show u=Value.ref a from rx);obtain⟨_,_,vs,_,p⟩:=(show qaG X.prog X.w H s.heap a (.dK kvs) from I.hok a _ ea)
  obtain⟨o,es,ep,h1,h2,_⟩:=p;exact W.kia_one W.kitx_dict I.kIn ⟨o,h1,h2.1⟩ e (λz=>nomatch z) h
 |@dT a kvs ea=>
  cases(show u=Value.ref a from rx);obtain⟨_,_,xs,_,o,es,ep,h1,h2,_⟩:=(show qaG X.prog X.w H s.heap a (.dT kvs) from I.hok a _ ea)
  exact W.kia_one W.kitx_dict I.kIn ⟨o,h1,h2.1⟩ e (λz=>nomatch z) h
 |@ins a C dx fs ea cl ha hn jG hm=>cases(show u=Value.ref a from rx);obtain⟨mA,am,_⟩:=qek I.hok ea;obtain⟨od,J,_⟩:=am.look;exact W.kia_one (W.kitx_own (cl.get _) cl.hd ha hn jG hm) I.kIn J e (λz=>nomatch z) h
end
structure qbb(k:Nat)(A:Around):Prop where
 hd:A.handled=none
 dp:A.depth+3*k+5<recursionLimit
 un:A.units+16*k+200<cLine
theorem qbb.mono(r:qbb k A)(h:j<=k):qbb j A:=⟨r.hd,by have:=r.dp;omega,by have:=r.un;omega⟩
theorem qbb.deeper(r:qbb (k+1) A)(env:Env):qbb k (A.deeper env):=
 ⟨r.hd,by have:=r.dp;show A.depth+1+3*k+5<_;omega,by have:=r.un;show A.units+3+16*k+200<_;omega⟩
theorem qik{A:Around}:(A.under (.builtin "type.__call__" ⟨.ref C::us,kw⟩)).depth=A.depth+1:=rfl
theorem qij{A:Around}:(A.under (.builtin "type.__call__" ⟨.ref C::us,kw⟩)).units=A.units+1:=rfl
theorem qbb.make(r:qbb (k+1) A)(C:Addr)(us:List Value)(kw:List (Str×Value)):qbb k (A.under (.builtin "type.__call__" ⟨.ref C::us,kw⟩)):=
 ⟨r.hd,by have:=r.dp;rw[qik];omega,by have:=r.un;rw[qij];omega⟩
theorem qbb.depth(r:qbb k A):A.depth<recursionLimit:=by have:=r.dp;omega
theorem qbb.units(r:qbb k A):A.units+64<cLine:=by have:=r.un;omega
noncomputable def qqU:TA:=λ_ H Q=>Q [] H
noncomputable def qeG(ta:TE)(tr:TA):TA:=λσ H Q=>ta σ H λx H1=>tr σ H1 λxs H2=>Q (x::xs) H2
section
theorem qbp:PA X [] qqU:=λ_ _ _ _ H Q I h=>Calls.spliced_nil ⟨[],H,I,.nil,h⟩
theorem qaW{X:Cx}{e:Expr}{es:List Expr}{te:TE}{t:TA}(ha:PE X e te)(hr:PA X es t)(hs:starEach (e::es) X.env=(false,eval e X.env)::starEach es X.env:=by rfl):PA X (e::es) (qeG te t):=by intro pos Z s σ H Q I h;rw[hs];refine Calls.spliced_cons (thn (ha _ s σ H _ I h) λu s1 ⟨x,H1,I1,r1,q1⟩=> ?_);exact thn (hr pos _ s1 σ H1 _ I1 q1) (by rintro us s2 ⟨xs,H2,I2,r2,q2⟩;exact⟨x::xs,H2,I2,.cons r1 r2,q2⟩)
noncomputable def qxQ(t:TA):TE:=λσ H Q=>t σ H λxs H1=>xs.length<=sizeLine/\∀p,H1 p=none->Q (.ref p) (upd H1 p (.tup xs))
noncomputable def qxV(t:TA):TE:=λσ H Q=>t σ H λxs H1=>xs.length<=sizeLine/\∀p,H1 p=none->Q (.ref p) (upd H1 p (.lst xs))
theorem qr2{x1}(h:PA X es t):PE X (.Tuple es x1 pos) (qxQ t):=by intro Z s σ H Q I hq;refine wpAny_Tuple_spliced (thn (h pos _ s σ H _ I hq) λus s1 ⟨xs,H1,I1,r,z,q⟩=>⟨by rw[<-r.length];exact z,?_⟩);have hf:=I1.hok.fresh (Vl _);refine⟨.ref _,upd H1 _ _,I1.laid (λb u e=>Vg _ e) (Vl _) ?_,rfl,q _ hf⟩;exact⟨z,us,r,⟨_,Vh _ rfl,rfl,_,rfl⟩⟩
theorem qeX{X:Cx}{es:List Expr}{t:TA}{pos:Pos}(h:PA X es t):PE X (.List es pos) (qxV t):=by intro Z s σ H Q I hq;refine wpAny_List_spliced (thn (h pos _ s σ H _ I hq) λus s1 ⟨xs,H1,I1,r,z,q⟩=>⟨by rw[<-r.length];exact z,?_⟩);have hf:=I1.hok.fresh (Vl _);refine⟨.ref _,upd H1 _ _,I1.laid (λb u e=>Vg _ e) (Vl _) ?_,rfl,q _ hf⟩;exact⟨z,us,0,r,Vh _ rfl⟩
end
abbrev Sp:=List V->Hp->VK->XK->Prop
abbrev CXT:=List Env->Hp->Shared->XK->Value->Shared->Prop
structure qlf(P:Program)(w:World)(K:W.Frag)(mg:Str->Option Value)(base:Heap)(A:Around)(outer:List Env)(s:Shared)(H:Hp):Prop where
 frames:A.frames=some outer
 mod:Mod K mg base
 bs: ∀b o,base.get? b=some o->s.heap.get? b=some o/\H b=none
 bsz:base.objs.size<=s.heap.objs.size
 funs:s.heap.FunFrames base outer
 frf: ∀b∈frs outer,H b=none
 hok:HOk P w H s.heap
 bare:AllBare s.gens
noncomputable def CE(outer:List Env)(P:Program)(w:World)(H:Hp)(s:Shared)(Q:VK)(u:Value)(s':Shared):Prop:=
 ∃v H',s'.os=s.os/\AllBare s'.gens/\Un (frs outer) [] H H' s.heap s'.heap/\HOk P w H' s'.heap/\RelV v u/\Q v H'
noncomputable def CR(CX:CXT)(outer:List Env)(P:Program)(w:World)(H:Hp)(s:Shared)(Q:VK)(E:XK)(r:Result)(s':Shared):Prop:=
 match r with
 |.ok (.ret u)=>CE outer P w H s Q u s'
 |.ok _=>False
 |.error e=>CX outer H s E e s'
structure qdl(P:Program)(w:World)(K:W.Frag)(mg:Str->Option Value)(base:Heap)(CX:CXT)(k:Nat)(f:Addr)(fd:FuncData)(ps:List Str)(sp:Sp):Prop where
 len: ∀vs H Q E,sp vs H Q E->vs.length=ps.length
 run: ∀(A:Around)(outer:List Env)(s:Shared)(H:Hp)(args:Args)(us:List Value)(vs:List V)(Q:VK)(E:XK),qbb k A->qlf P w K mg base A outer s H->BindsTo s fd args (ps.zip us)->qau vs us->sp vs H Q E->
  codeAny (model P w) A (.call (.ref f) args) (CR CX outer P w H s Q E) s
theorem qlf.make{P:Program}{w:World}{K:W.Frag}{mg:Str->Option Value}{base:Heap}{A:Around}{outer:List Env}{s:Shared}{H:Hp}(e:qlf P w K mg base A outer s H)(C:Addr)(us:List Value)(kw:List (Str×Value)):
  qlf P w K mg base (A.under (.builtin "type.__call__" ⟨.ref C::us,kw⟩)) outer s H:=⟨by first|exact e.frames|simp,e.mod,e.bs,e.bsz,e.funs,e.frf,e.hok,e.bare⟩
section
theorem Inv.env0(I:Inv X Z σ H s):qlf X.prog X.w X.K X.mg X.base X.A X.stack s H:=
 ⟨I.ok.frames,I.ok.mod,I.bs,Vp I.ok.bsz I.sz,I.stack,I.stkFree,I.hok,I.bare⟩
theorem Inv.after(I:Inv X Z σ H s)(h:CE X.stack X.prog X.w H s Q u s'):EP X Z σ Q u s':=by obtain⟨v,H',os,bare,un,hok,r,q⟩:=h;obtain⟨hh,g,d,t,eZ⟩:=s';obtain rfl:eZ=s.os:=os;exact⟨v,H',I.call un hok bare (λb z=>absurd z (by simp)),r,q⟩
end
noncomputable def qos(sp:Sp)(bz:List V)(E:XK)(t:TA):TE:=λσ H Q=>t σ H λvs H1=>sp (vs++bz) H1 Q E
noncomputable def qor(C:Addr)(sp:Sp)(bz:List V)(E:XK)(t:TA):TE:=λσ H Q=>t σ H λvs H1=> ∀x dx,H1 x=none->H1 dx=none->dx≠x->
 sp (.ref x::(vs++bz)) (upd (upd H1 dx (.own x)) x (.ins C dx [])) (λv H2=>v= .non/\Q (.ref x) H2) E
noncomputable def qa0(K:W.Frag)(fd:FuncData)(ps:List Str)(ds:List Value):Prop:=
 ∀(s:Shared)(us:List Value),K.In s.heap->(us++ds).length=ps.length->BindsTo s fd ⟨us,[]⟩ (ps.zip (us++ds))
theorem qa0.all{K:W.Frag}{fd:FuncData}{ps:List Str}(h: ∀us:List Value,us.length=ps.length->bindArgs fd ⟨us,[]⟩=pure (ps.zip us)):qa0 K fd ps []:=λs us _ hl=>by rw[List.append_nil] at hl⊢;exact .of_eq (h us hl)
noncomputable def qaI(CX:CXT)(X:Cx)(E:XK):Prop:= ∀(Z:List (Addr×Obj))(σ:St)(H:Hp)(s:Shared)(e:Value)(s':Shared),Inv X Z σ H s->CX X.stack H s E e s'->X.xe e s'
section
variable{ps:List Str}{x m:Str}
theorem qgT(F:qdl X.prog X.w X.K X.mg X.base CX k f fd ps sp)(hr:qbb k X.A)(hb:qa0 X.K fd ps ds)(hd:qau bz ds)(hx:qaI CX X E)(I:Inv X Z σ H s)(r:qau vs us)(h:sp (vs++bz) H Q E):wpAny (model X.prog X.w) X.A (call (.ref f) us) (EP X Z σ Q) X.xe s:=by
 have r2:=r.append hd;have hl:(us++ds).length=ps.length:=by rw[<-r2.length];exact F.len _ _ _ _ h
 refine wpAny_call (codeAny_mono (F.run X.A _ s H _ _ _ Q E hr I.env0 (hb s us I.kIn hl) r2 h) λr s' hq=> ?_);cases r with
 |error e=>exact hx _ σ H s e s' I hq
 |ok fl=>
  cases fl with
  |ret u=>exact I.after hq
  |next|brk|cont=>exact False.elim hq
theorem qo1{X:Cx}(F:qdl X.prog X.w X.K X.mg X.base CX k f fd ps sp)(hr:qbb k X.A)(hg:Gl X x)(hm:X.mg x=some (.ref f))(hk:W.keepIn X.K (.ref f)=true)(hb:qa0 X.K fd ps ds)(hd:qau bz ds)(hx:qaI CX X E)(ha:PA X (e::es) t)(aJ:(x==("__debug__" :Str))=false:=by decide)(he:starEach (e::es) X.env=(false,eval e X.env)::starEach es X.env:=by rfl)(az:(backTo pos (starEach es X.env)).any (·.1)=false:=by rfl):
  PE X (.Call (.Name x p) (e::es) [] pos) (qos sp bz E t):=by intro Z s σ H Q I h;refine Vf (qbi I hg hm ?_ aJ);refine W.callWith_K I.ok.mod.kin hk (thn (ha pos _ s σ H _ I h) λus s1 ⟨vs,H1,I1,r,q⟩=>⟨I1.kIn,?_⟩) he az;exact qgT F hr hb hd hx I1 r q
theorem ql0(F:qdl X.prog X.w X.K X.mg X.base CX k f fd ps sp)(hr:qbb k X.A)(hg:Gl X x)(hm:X.mg x=some (.ref f))(hk:W.keepIn X.K (.ref f)=true)(hb:qa0 X.K fd ps ds)(hd:qau bz ds)(hx:qaI CX X E)(aJ:(x==("__debug__" :Str))=false:=by decide):PE X (.Call (.Name x p) [] [] pos) (qos sp bz E qqU):=by intro Z s σ H Q I h;refine Vf (qbi I hg hm ?_ aJ);exact W.callWith_K0 I.kIn hk (qgT F hr hb hd hx I .nil h)
structure Mk(K:W.Frag)(C f:Addr):Prop where
 makes:W.makesIn K C=true
 init:W.findIn K (.ref C) "__init__" =some (some (.ref f))
 fn:W.isFn K (.ref f)=true
 kp:W.keepIn K (.ref C)=true
theorem qgS(M:Mk X.K C f)(F:qdl X.prog X.w X.K X.mg X.base CX k f fd ps sp)(hr:qbb (k+1) X.A)(hb:qa0 X.K fd ps ds)(hd:qau bz ds)(hx:qaI CX X E)(I:Inv X Z σ H s)(r:qau vs us)(h: ∀x dx,H x=none->H dx=none->dx≠x->sp (.ref x::(vs++bz)) (upd (upd H dx (.own x)) x (.ins C dx [])) (λv H2=>v= .non/\Q (.ref x) H2) E):
  wpAny (model X.prog X.w) X.A (call (.ref C) us) (EP X Z σ Q) X.xe s:=by
 have hq:=h _ _ (I.hok.fresh (Nat.le_succ _)) (I.hok.fresh (Vl _)) (Vn (Vy _));have I2:=Inv.made (C:=C) I;have r2:qau (V.ref (s.heap.objs.size+1)::(vs++bz)) _:=.cons rfl (r.append hd);have hl:=by have e:=r2.length;rw[F.len _ _ _ _ hq] at e;exact e.symm
 refine wpAny_call (qmb I.kIn M.makes M.init (beq_iff_eq.mp M.fn) (codeAny_mono (F.run _ _ _ _ _ _ _ _ E (hr.make C us [])
  (I2.env0.make C us []) (hb _ _ I2.kIn hl) r2 hq) λr s' bx=> ?_))
 cases r with
 |error e=>exact hx _ σ _ _ e s' I2 bx
 |ok fl=>
  cases fl with
  |ret u=>obtain⟨v,H',I3,rv,ev,q3⟩:=I2.after bx;subst ev;exact⟨rv,⟨V.ref _,H',I3,rfl,q3⟩⟩
  |next|brk|cont=>exact False.elim bx
theorem qoY{X:Cx}(M:Mk X.K C f)(F:qdl X.prog X.w X.K X.mg X.base CX k f fd ps sp)(hr:qbb (k+1) X.A)(hg:Gl X x)(hm:X.mg x=some (.ref C))(hb:qa0 X.K fd ps ds)(hd:qau bz ds)(hx:qaI CX X E)(ha:PA X (e::es) t)(aJ:(x==("__debug__" :Str))=false:=by decide)(he:starEach (e::es) X.env=(false,eval e X.env)::starEach es X.env:=by rfl)(az:(backTo pos (starEach es X.env)).any (·.1)=false:=by rfl):
  PE X (.Call (.Name x p) (e::es) [] pos) (qor C sp bz E t):=by intro Z s σ H Q I h;refine Vf (qbi I hg hm ?_ aJ);refine W.callWith_K I.ok.mod.kin M.kp (thn (ha pos _ s σ H _ I h) λus s1 ⟨vs,H1,I1,r,q⟩=>⟨I1.kIn,?_⟩) he az;exact qgS M F hr hb hd hx I1 r q
theorem qlV(M:Mk X.K C f)(F:qdl X.prog X.w X.K X.mg X.base CX k f fd ps sp)(hr:qbb (k+1) X.A)(hg:Gl X x)(hm:X.mg x=some (.ref C))(hb:qa0 X.K fd ps ds)(hd:qau bz ds)(hx:qaI CX X E)(aJ:(x==("__debug__" :Str))=false:=by decide):PE X (.Call (.Name x p) [] [] pos) (qor C sp bz E qqU):=by intro Z s σ H Q I h;refine Vf (qbi I hg hm ?_ aJ);exact W.callWith_K0 I.kIn M.kp (qgS M F hr hb hd hx I .nil h)
end
section
variable{ps ks:List Str}{x m:Str}
structure qxL(K:W.Frag)(fd:FuncData)(ps ks:List Str)(g:List Value->List Value->List Value)(gV:List V->List V->List V):Prop where
 to: ∀(s:Shared)(us ws:List Value),K.In s.heap->(g us ws).length=ps.length->BindsTo s fd ⟨us,ks.zip ws⟩ (ps.zip (g us ws))
 rel: ∀{vs:List V}{us:List Value}{zs:List V}{ws:List Value},qau vs us->qau zs ws->qau (gV vs zs) (g us ws)
end
structure qbz(N P:List Str)(sc:Scope):Prop where
 kind:sc.kind= .function
 co:sc.isCoroutine=false
 gen:sc.isGenerator=false
 nd:N.Nodup
 pre:N.take P.length=P
 par: ∀x∈P,sc.names.lookup x=some .local\/sc.names.lookup x=some .cell
 nofree: ∀y∈sc.names,y.2≠.free
theorem qfF{kindOf:Str->Option NameKind}{x:Str}: ∀{binds:List (Str×Value)}{m:Str->Option Value},(∀v,(x,v)∉binds)->bindL kindOf binds m x=m x
 |[],_,_=>rfl
 |(n,v)::r,m,h=>by
  unfold bindL;rw[qfF λw hw=>h w (List.mem_cons_of_mem _ hw)];split
  ·grind
  ·rfl
theorem qfH{kindOf:Str->Option NameKind}{x:Str}: ∀{binds:List (Str×Value)}{m:Str->Option Value},(∀v,(x,v)∉binds)->bindC kindOf binds m x=m x
 |[],_,_=>rfl
 |(n,v)::r,m,h=>by
  unfold bindC;rw[qfH λw hw=>h w (List.mem_cons_of_mem _ hw)];split
  ·rfl
  grind
theorem qfG{kindOf:Str->Option NameKind}{x:Str}{v:Value}: ∀{P:List Str}{vs:List Value}{i:Nat}{m:Str->Option Value},P.Nodup->P[i]? =some x->vs[i]? =some v->kindOf x=some .local->
  bindL kindOf (P.zip vs) m x=some v
 |[],_,_,_,_,h,_,_=>by simp at h
 |_::_,[],_,_,_,_,h,_=>by simp at h
 |p::P,w::vs,0,m,nd,h1,h2,hk=>by simp at h1 h2;subst h1;subst h2;show bindL _ ((p,w)::P.zip vs) m p=_;unfold bindL;rw[qfF λv hv=>(List.nodup_cons.mp nd).1 (List.of_mem_zip hv).1,if_pos hk];simp
 |p::P,w::vs,i+1,m,nd,h1,h2,hk=>by unfold bindL;exact qfG (List.nodup_cons.mp nd).2 (by simpa using h1) (by simpa using h2) hk
theorem qfI{kindOf:Str->Option NameKind}{x:Str}{v:Value}: ∀{P:List Str}{vs:List Value}{i:Nat}{m:Str->Option Value},P.Nodup->P[i]? =some x->vs[i]? =some v->kindOf x≠some .local->
  bindC kindOf (P.zip vs) m x=some v
 |[],_,_,_,_,h,_,_=>by simp at h
 |_::_,[],_,_,_,_,h,_=>by simp at h
 |p::P,w::vs,0,m,nd,h1,h2,hk=>by simp at h1 h2;subst h1;subst h2;show bindC _ ((p,w)::P.zip vs) m p=_;unfold bindC;rw[qfH λv hv=>(List.nodup_cons.mp nd).1 (List.of_mem_zip hv).1,if_neg hk];simp
 |p::P,w::vs,i+1,m,nd,h1,h2,hk=>by unfold bindC;exact qfI (List.nodup_cons.mp nd).2 (by simpa using h1) (by simpa using h2) hk
noncomputable def start(N:List Str)(vs:List V):St:=vs.map some++List.replicate (N.length - vs.length) none
noncomputable def qfv(CX:CXT)(P:Program)(w:World)(K:W.Frag)(mg:Str->Option Value)(base:Heap)(N:List Str)(qual:Str)(scope:Scope)(f:Addr)(cd:Value)(A:Around)(outer:List Env)(s:Shared)(H:Hp)(E:XK):Cx where
 prog:=P
 w:=w
 K:=K
 mg:=mg
 base:=base
 A:=A.deeper (envOfC qual scope s.heap.objs.size f cd)
 N:=N
 s₀:=s
 H₀:=H
 env:=envOfC qual scope s.heap.objs.size f cd
 outer:=outer
 stack:=envOfC qual scope s.heap.objs.size f cd::outer
 ex:=[]
 calm:=true
 fn:=λ_=>true
 pn:=[]
 xe:=λe s'=>wpAny (model P w) (A.deeper (envOfC qual scope s.heap.objs.size f cd)) (leaving (envOfC qual scope s.heap.objs.size f cd) e) (λ_ s''=>CX outer H s E e s'') (λe' s''=>CX outer H s E e' s'') s'
theorem qhH{sc:Scope}{n:Nat}{x:Str}(h:sc.names.lookup x=some .cell): ∃c,(cellsFrom n sc.names []).lookup x=some c:=by have q:=W.cellsFrom_some _ n [] (.inl h);exact Option.isSome_iff_exists.mp q
theorem qc4{CX:CXT}{P:Program}{w:World}{K:W.Frag}{mg:Str->Option Value}{base:Heap}{N ps:List Str}{qual:Str}{scope:Scope}{f:Addr}{cd:Value}{A:Around}{outer:List Env}{s s1:Shared}{H:Hp}{E:XK}{us:List Value}{vs:List V}(S:qbz N ps scope)(hd:A.handled=none)(e0:qlf P w K mg base A outer s H)(hl:vs.length=ps.length)(r:qau vs us)(x:InCallC s s.heap.objs.size (bindL (envOfC qual scope s.heap.objs.size f cd).kindOf (ps.zip us) λ_=>none) (cellsFrom (s.heap.objs.size+1) scope.names []) (bindC (envOfC qual scope s.heap.objs.size f cd).kindOf (ps.zip us) λ_=>none) s1):
  Inv (qfv CX P w K mg base N qual scope f cd A outer s H E) [] (start N vs) H s1:=by
 have az:ps.length<=N.length:=by have:=congrArg List.length S.pre;rw[List.length_take] at this;omega
 obtain⟨h1,tk,rfl,hk⟩:=x.done;have cK: ∀b:Addr,b∉(qfv CX P w K mg base N qual scope f cd A outer s H E).ex:=λb z=>absurd (show b∈([]:List Addr) from z) (by simp)
 refine⟨⟨e0.mod,S.kind,rfl,rfl,Vl _,λy z c h1 h2=> ?_,λy hy=> ?_,λy c _ h=> ?_,λ_=>hd,Around.frames_deeper e0.frames,.inr ⟨rfl,rfl⟩,λb z=>absurd z (cK b),e0.bs,e0.bsz,λb _ _=>cK b,λb z=>absurd z (cK b),e0.funs,e0.frf⟩,
  rfl,e0.bare,Un.kept hk,⟨_,x.toInCall.ns,λi y v h1 h2 h3=> ?_⟩,λy c h=>⟨_,x.cell y c h⟩,e0.hok.fresh (Vl _),λy c h=> ?_,λp hp=>absurd (show p∈([]:List (Addr×Obj)) from hp) (by simp),e0.hok.kept hk,?_⟩
 ·exact name_of_addr x.apart (Vu h1) (Vu h2)
 ·rcases hy with hy|hy
  ·exact qhH hy
  ·exact absurd rfl (S.nofree _ (Vu hy))
 ·exact Vo (x.above y c (Vu h))
 ·have hi:i<vs.length:=by
   unfold start at h2;by_cases hi:i<vs.length
   ·exact hi
   ·rw[List.getElem?_append_right (by simpa using hi)] at h2;rw[List.getElem?_replicate] at h2;split at h2<;>cases h2
  have ha:vs[i]? =some v:=by
   unfold start at h2;rw[List.getElem?_append_left (by simpa using hi),List.getElem?_map] at h2
   simp_all
  obtain⟨u,hu,rv⟩:=r.get ha;have hp:ps[i]? =some y:=by rw[<-S.pre,List.getElem?_take_of_lt (by omega)];exact h1
  have jA:ps.Nodup:=by rw[<-S.pre];exact S.nd.sublist (List.take_sublist _ _)
  refine⟨u,rv,?_⟩
  rcases S.par y (Vt hp) with k|k
  ·exact .inl ⟨k,qfG jA hp hu k⟩
  ·obtain⟨c,e⟩:=qhH (n:=s.heap.objs.size+1) k;refine .inr ⟨.inl k,c,e,?_⟩;have q:=x.cell y c e;rw[qfI jA hp hu (by show scope.names.lookup y≠_;rw[k];decide)] at q;exact q
 ·exact e0.hok.fresh (Vo (x.above y c (Vu h)))
 ·unfold start;show _=N.length;rw[List.length_append,List.length_map,List.length_replicate];omega
theorem qwk{CX:CXT}{P:Program}{w:World}{K:W.Frag}{mg:Str->Option Value}{base:Heap}{k:Nat}{f:Addr}{name qual:Str}{params:Arguments}{body:List Stmt}{scope:Scope}{dV kV doc pm cdv ct oc:Value}{an od:Option Addr}{osl:Array (Option Value)}{N ps:List Str}{sp:Sp}(lk:K.lookup f=some ⟨oc,od,.func (W.fnOf name qual params body scope dV kV doc pm an cdv ct),osl⟩)(aK:W.codeIn K cdv qual=true)(S:qbz N ps scope)(len: ∀vs H Q E,sp vs H Q E->vs.length=ps.length)(au: ∀(A:Around)(outer:List Env)(s:Shared)(H:Hp)(vs:List V)(Q:VK)(E:XK),qbb k (A.deeper (envOfC qual scope s.heap.objs.size f cdv))->sp vs H Q E->
   ∃t,PSs (qfv CX P w K mg base N qual scope f cdv A outer s H E) body t/\t { nx:=λ_ H'=>Q .non H',rt:=Q } (start N vs) H):
  qdl P w K mg base CX (k+1) f (W.fnOf name qual params body scope dV kV doc pm an cdv ct) ps sp:=by
 refine⟨len,λA outer s H args us vs Q E hr e0 hb r cL=> ?_⟩;have hl:=len _ _ _ _ cL;have KX:=e0.mod.kin.keeps λb o e=>(e0.bs b o e).1;have lim:=e0.mod.nolimit.keeps λb o e=>(e0.bs b o e).1;have bw: ∀y∈ps.zip us,scope.names.lookup y.1=some _\/(scope.names.lookup y.1=some _/\((cellsFrom (s.heap.objs.size+1) _ []).lookup y.1).isSome=true):=(by
  rintro⟨n,v⟩ hy
  rcases S.par n (List.of_mem_zip hy).1 with q|q
  ·exact .inl q
  ·exact .inr ⟨q,W.cellsFrom_some _ _ _ (.inl q)⟩)
 refine codeAny_call_function hr.depth (KX _ _ lk) rfl S.co S.gen rfl (W.codeRec_of KX aK) (hb _ _ _ _ ?_);refine wpAny_newFunctionEnv_cells S.kind bw λenv he s1 x=> ?_;subst he;refine⟨lim.keeps x.toInCall.keep,codeAny_func ?_⟩;obtain⟨t,ht,hq⟩:=au A _ s H vs Q E (hr.deeper _) cL;have I:Inv (qfv CX P w K mg _ N _ _ f cdv A _ s H E) [] _ H s1:=qc4 S hr.hd e0 hl r x;refine Vc (ht [] s1 _ H _ I hq) (λfl s' hs=> ?_) λe s' hs=>hs
 have fin: ∀{ae } {H' } {v } {u },Inv (qfv CX P w K mg base N qual scope f cdv A _ s H E) [] ae H' s'->RelV v u->Q v H'->CE outer P w H s Q u s':=
  λ{ae H' v u} J rv q=>⟨v,H',J.os,J.bare,J.base,J.hok,rv,q⟩
 cases fl with
 |ret u=>obtain⟨v,ae,H',J,rv,q⟩:=hs;exact fin J rv q
 |next=>obtain⟨ae,H',J,q⟩:=hs;exact fin (v:=V.non) J rfl q
 |brk|cont=>obtain⟨_,_,_,q⟩:=hs;exact False.elim q
section
variable{x:Str}{id T:String}
noncomputable def tCB(r:List V->Hp->VK->Prop)(t:TA):TE:=λσ H Q=>t σ H λvs H1=>r vs H1 Q
theorem qaS(hc:qat X (.builtin id) r)(hg:Gl X x)(hm:X.mg x=none)(hv:bootBuiltins x=some (.builtin id))(ha:PA X (e::es) t)(hn:x≠ "__name__" :=by decide)(aJ:(x==("__debug__" :Str))=false:=by decide)(he:starEach (e::es) X.env=(false,eval e X.env)::starEach es X.env:=by rfl)(az:(backTo pos (starEach es X.env)).any (·.1)=false:=by rfl):PE X (.Call (.Name x p) (e::es) [] pos) (tCB r t):=by intro Z s σ H Q I h;refine Vf (qdD I hg hm hv ?_ hn aJ);exact PyProof.Rows.callWith_builtin1 (thn (ha pos _ s σ H _ I h) (by rintro us s1 ⟨vs,H1,I1,r1,q1⟩;exact hc _ s1 σ H1 vs us Q I1 r1 q1)) he az
theorem qb6(hc:qat X (.type T) r)(hg:Gl X x)(hm:X.mg x=none)(hv:bootBuiltins x=some (.type T))(ha:PA X (e::es) t)(hn:x≠ "__name__" :=by decide)(aJ:(x==("__debug__" :Str))=false:=by decide)(he:starEach (e::es) X.env=(false,eval e X.env)::starEach es X.env:=by rfl)(az:(backTo pos (starEach es X.env)).any (·.1)=false:=by rfl):PE X (.Call (.Name x p) (e::es) [] pos) (tCB r t):=by intro Z s σ H Q I h;refine Vf (qdD I hg hm hv ?_ hn aJ);exact PyProof.Rows.callWith_type1 (thn (ha pos _ s σ H _ I h) λus s1 ⟨vs,H1,I1,r1,q1⟩=>hc _ s1 σ H1 vs us Q I1 r1 q1) he az
end
end L2
namespace HT
open PySem PyProof.Rows
section
theorem cat_tup(ht:IsTup s.heap t vs.toArray)(hb:IsTup s.heap b ws.toArray)(hv:vs≠[])(h1:ws=[]->Q (.ref t) s)(h2:ws≠[]->Q (.ref s.heap.objs.size) { s with heap:=s.heap.push { cls:=.type "tuple",data:=.seq (vs++ws).toArray } })(hsz:vs.length+ws.length<=sizeLine):wpAny (model prog w) A (binaryOp .Add (.ref t) (.ref b)) Q E s:=by
 obtain⟨⟨cls,dd,data,sl⟩,ho,hc,n,hd⟩:=id ht;obtain⟨⟨jj,fm,data2,gF⟩,aV,b7,n2,hd2⟩:=id hb;subst hc hd b7 hd2;have e:vs.toArray++ws.toArray=(vs++ws).toArray:=by simp
 by_cases hw:ws=[]
 ·exact concat_meets ⟨_,ho,rfl⟩ ⟨_,aV,rfl⟩ noFill_tuple_add seq_tuple_add F.slot_tuple_add F.entry_tuple_add (F.args_tuple_add_2 _ _)
   (tuple_addW1 t b _ _ n n2 dd fm sl gF (by simpa using hv) (by simp[hw])) ⟨ho,aV,h1 hw⟩
 ·refine concat_meets ⟨_,ho,rfl⟩ ⟨_,aV,rfl⟩ noFill_tuple_add seq_tuple_add F.slot_tuple_add F.entry_tuple_add (F.args_tuple_add_2 _ _)
   (tuple_addW2 t b _ _ n n2 dd fm sl gF (by simpa using hv) (by simpa using hw) (by omega)) ⟨ho,aV,?_⟩
  rw[e];exact h2 hw
noncomputable def sIx(n d:Nat):Option Int->Nat
 |none=>d
 |some v=>if v<0 then(v+(n:Int)).toNat else min v.toNat n
theorem sIx_none(n d:Nat):sIx n d none=d:=rfl
theorem sIx_nat(n d k:Nat):sIx n d (some (k:Int))=min k n:=rfl
end
end HT
namespace L2
open PySem PySem.Spec PyProof.Rows
abbrev TO:=St->Hp->(Option Int->Hp->Prop)->Prop
noncomputable def PO(X:Cx)(e:Option Expr)(t:TO):Prop:=
 ∀(Z:List (Addr×Obj))(s:Shared)(σ:St)(H:Hp)(Q:Option Int->Hp->Prop),Inv X Z σ H s->t σ H Q->
  wpAny (model X.prog X.w) X.A (evalPart e X.env) (λu s'=> ∃o H',Inv X Z σ H' s'/\IsPart u o/\Q o H') X.xe s
noncomputable def qop:TO:=λ_ H Q=>Q none H
noncomputable def quQ(t:TE):TO:=λσ H Q=>t σ H λx H1=> ∃i,x= .int i/\Q (some i) H1
section
theorem qoS:PO X none qop:=by intro Z s σ H Q I h;exact Vb ⟨none,H,I,.none,h⟩
theorem qoR(h:PE X e te):PO X (some e) (quQ te):=by intro Z s σ H Q I hw;refine thn (h _ s σ H _ I hw) ?_;rintro u s1 ⟨x,H1,I1,r1,q1⟩;obtain⟨i,rfl,q⟩:=q1;obtain⟨t,rfl⟩:=r1;exact⟨some i,H1,I1,.int i t,q⟩
noncomputable def SlR(X:Cx)(r:V->Option Int->Option Int->Hp->VK->Prop):Prop:=
 ∀(Z:List (Addr×Obj))(s:Shared)(σ:St)(H:Hp)(x:V)(v vl vu:Value)(lo hi:Option Int)(sl:Addr)(Q:VK),Inv X Z σ H s->RelV x v->s.heap.IsSliceOf sl vl vu .none->IsPart vl lo->IsPart vu hi->r x lo hi H Q->
  ∃T id,typeLookup (.type T) "__getitem__" =pure (some (.builtin id))/\s.TypeIs v T/\wpAny (model X.prog X.w) X.A (getItem v (.ref sl)) (EP X Z σ Q) X.xe s
noncomputable def tSl(r:V->Option Int->Option Int->Hp->VK->Prop)(te:TE)(tl th:TO):TE:=λσ H Q=>te σ H λx H1=>tl σ H1 λl H2=>th σ H2 λu H3=>r x l u H3 Q
theorem qlT{X:Cx}{e:Expr}{te:TE}{lo:Option Expr}{hi:Option Expr}{tl:TO}{th:TO}{pos:Pos}{p2:Pos}{r:V->Option Int->Option Int->Hp->VK->Prop}(hr:SlR X r)(he:PE X e te)(hl:PO X lo tl)(hu:PO X hi th):PE X (.Subscript e (.Slice lo hi none p2) pos) (tSl r te tl th):=by intro Z s σ H Q I h;refine Subscript_ (thn (he _ s σ H _ I h) λv s1 ⟨x,H1,I1,r1,q1⟩=> ?_);refine wpAny_Slice (thn (hl _ s1 σ H1 _ I1 q1) λvl s2 ⟨l,H2,I2,pl,q2⟩=>thn (hu _ s2 σ H2 _ I2 q2) λvu s3 ⟨u,H3,I3,pu,q3⟩=> ?_);refine Vb ?_;have I4:Inv X _ σ H3 { s3 with heap:=s3.heap.push { cls:=.type "slice",data:=.fields #[vl,vu,.none] } }:=I3.kept λb ob q=>Vg _ q;obtain⟨T,id,hT,ht,hg⟩:=hr _ _ σ H3 x v vl vu l u _ Q I4 r1 (Heap.IsSliceOf.new ..) pl pu q3;exact tail_any ht hT hg (rfl)
noncomputable def qtV(xs:List V)(lo hi:Option Int):List V:=(xs.drop (HT.sIx xs.length 0 lo)).take (HT.sIx xs.length xs.length hi - HT.sIx xs.length 0 lo)
theorem qgq(xs:List V)(lo hi:Option Int):(qtV xs lo hi).length<=xs.length:=by unfold qtV;rw[List.length_take,List.length_drop];omega
noncomputable def qrM(K:W.Frag):R2:=λx y H Q=> ∃a b xs ys,x= .ref a/\y= .ref b/\SqT K H a xs/\SqT K H b ys/\xs≠[]/\xs.length+ys.length<=sizeLine/\
 (ys=[]->Q (.ref a) H)/\(ys≠[]->∀p,H p=none->Q (.ref p) (upd H p (.tup (xs++ys))))
theorem qau.nil_iff(r:qau xs us):us=[]↔xs=[]:=by
 cases r with
 |nil|cons _ _=>simp
theorem qpb:OpR X (binaryOp .Add) (qrM X.K):=by intro Z s σ H x y v u Q I rx ry h;obtain⟨a,b,xs,ys,rfl,rfl,ha,hb,hx,hz,q1,q2⟩:=h;cases rx;cases ry;obtain⟨its,r1,p1,_⟩:=I.tuple ha;obtain⟨aF,r2,p2,_⟩:=I.tuple hb;refine HT.cat_tup p1 p2 (λz=>hx (r1.nil_iff.mp z)) (λz=>⟨.ref a,H,I,rfl,q1 (r2.nil_iff.mp z)⟩) (λz=> ?_) (by rw[<-r1.length,<-r2.length];exact hz);refine⟨.ref _,_,I.laid (λb ob q=>Vg _ q) (Vl _) ?_,rfl,q2 (λw=>z (r2.nil_iff.mpr w)) _ (I.hok.fresh (Vl _))⟩;exact⟨by simp_all,_,r1.append r2,IsTup.new _ _⟩
end
noncomputable def ixN(n:Nat)(i:Int):Option Nat:=if 0<=i then(if i<n then some i.toNat else none) else if -(n:Int)<=i then some (i+n).toNat else none
noncomputable def atI{α:Type}(xs:List α)(i:Int):Option α:=(ixN xs.length i).bind λj=>xs[j]?
theorem qj0(h:ixN n i=some j):seqIndex? i n=some j/\j<n/\ -(n:Int)<=i/\i<n:=by
 unfold ixN at h;by_cases h0:0<=i
 ·rw[if_pos h0] at h;by_cases h1:i<n
  ·rw[if_pos h1] at h;have e:i.toNat=j:=Option.some.inj h;exact⟨by rw[seqIndex_of h0 h1,e],by omega,by omega,h1⟩
  grind
 ·rw[if_neg h0] at h;by_cases h1: -(n:Int)<=i
  ·rw[if_pos h1] at h;have e:(i+n).toNat=j:=Option.some.inj h;exact⟨by rw[seqIndex_neg (by omega) h1,e],by omega,h1,by omega⟩
  grind
theorem qgE{α:Type}{xs:List α}{i:Int}{v:α}(h:atI xs i=some v): ∃j,seqIndex? i xs.length=some j/\xs[j]? =some v/\j<xs.length/\ -(xs.length:Int)<=i/\i<xs.length:=by
 unfold atI at h;cases e:ixN _ i with
 |none=>rw[e] at h;cases h
 |some j=>
  obtain⟨h1,h2,h3,h4⟩:=qj0 e
  simp_all
theorem qqK{j:Nat}(h:xs[j]? =some v):atI xs (j:Int)=some v:=by
 have hj:j<xs.length:=(List.getElem?_eq_some_iff.mp h).1;have e:ixN xs.length (j:Int)=some j:=by unfold ixN;rw[if_pos (by omega),if_pos (by omega)];simp
 unfold atI;rw[e];exact h
noncomputable def qld(b:Expr):Prop:= ∀o i,subscripted b false o i=operate [o,i] (getItem o i)
noncomputable def IxR(X:Cx)(r:R2):Prop:=
 ∀(value slice:Expr)(Z:List (Addr×Obj))(s:Shared)(σ:St)(H:Hp)(x y:V)(v u:Value)(Q:VK),Inv X Z σ H s->RelV x v->RelV y u->r x y H Q->
  subscripted slice false v u=operate [v,u] (getItem v u)->wpAny (model X.prog X.w) X.A (subscriptTail value slice v u) (EP X Z σ Q) X.xe s
noncomputable def MtR(X:Cx)(id:String)(r:V->List V->Hp->VK->Prop):Prop:=
 ∀(Z:List (Addr×Obj))(s:Shared)(σ:St)(H:Hp)(x:V)(xs:List V)(v:Value)(us:List Value)(Q:VK),Inv X Z σ H s->RelV x v->qau xs us->r x xs H Q->
  wpAny (model X.prog X.w) X.A (call (.builtin id) (v::us)) (EP X Z σ Q) X.xe s
section
variable{X:Cx}{a b:Expr}{ta tb:TE}{pos:Pos}
theorem IxR.or(h:IxR X r)(h':IxR X r'):IxR X (λx y H Q=>r x y H Q\/r' x y H Q):=by
 intro value slice Z s σ H x y v u Q I rx ry q hs
 rcases q with q|q
 ·exact h _ _ _ s σ H x y v u Q I rx ry q hs
 ·exact h' _ _ _ s σ H x y v u Q I rx ry q hs
theorem qr5{r:R2}(hr:IxR X r)(ha:PE X a ta)(hb:PE X b tb)(hs:qld b):PE X (.Subscript a b pos) (tOp r ta tb):=by intro Z s σ H Q I h;exact Subscript_ (qwK ha hb I h λv u s2 x y H2 I2 rx ry q=>hr a b _ s2 σ H2 x y v u Q I2 rx ry q (hs _ _))
noncomputable def qxa(K:W.Frag):R2:=λx y H Q=> ∃p xs i v,x= .ref p/\y= .int i/\SqL K H p xs/\atI xs i=some v/\Q v H
noncomputable def qw8(K:W.Frag):R2:=λx y H Q=> ∃p xs i v,x= .ref p/\y= .int i/\SqT K H p xs/\atI xs i=some v/\Q v H
noncomputable def qw9:R2:=λx y H Q=> ∃z i c,x= .str z/\y= .int i/\z.length<=sizeLine/\atI z.cps.toList i=some c/\Q (.str ⟨#[c]⟩) H
theorem qjY:IxR X (qxa X.K):=by
 intro value slice Z s σ H x y v u Q I rx ry h hs;obtain⟨p,xs,i,z,rfl,rfl,hq,he,q⟩:=h;cases rx;obtain⟨t,rfl⟩:=ry;obtain⟨its,r,pl,hz⟩:=I.list hq;obtain⟨j,h1,h2,h3,h4,h5⟩:=qgE he;obtain⟨w,ew,ar⟩:=r.get h2;have hl:=r.length;have hn:=qe8;have fin:EP X Z σ Q w s:=⟨z,H,I,ar,q⟩
 by_cases h0:0<=i
 ·have hj:i.toNat=j:=by rw[seqIndex_of h0 h5] at h1;exact Option.some.inj h1
  exact item_listR pl.isList h0 (by omega) (by rw[hj];simpa using ew) fin hs
 ·have hj:(i+(its.toArray.size:Int)).toNat=j:=by rw[seqIndex_neg (by omega) h4] at h1;rw[List.size_toArray,<-hl];exact Option.some.inj h1
  exact subscriptTail_builtinR (x:=w) pl.isList.typeIs slot_list_getitem.lookup
   (wpAny_getItem_list_neg (Q:=λr s'=>r=w/\EP X Z σ Q r s') pl.isList (by omega) (by rw[List.size_toArray]<;>omega) (by omega) (by rw[hj];simpa using ew) ⟨rfl,fin⟩) hs
theorem qsP:IxR X (qw8 X.K):=by
 intro value slice Z s σ H x y v u Q I rx ry h hs;obtain⟨p,xs,i,z,rfl,rfl,hq,he,q⟩:=h;cases rx;obtain⟨t,rfl⟩:=ry;obtain⟨its,r,pl,hz⟩:=I.tuple hq;obtain⟨j,h1,h2,h3,h4,h5⟩:=qgE he;obtain⟨w,ew,ar⟩:=r.get h2;have hl:=r.length;have hn:=qe8;have fin:EP X _ σ Q w s:=⟨z,H,I,ar,q⟩
 exact subscriptTail_builtinR pl.typeIs slot_tuple_getitem.lookup
  (getItem_tuple (j:=j) pl (by omega) (by omega) (by simp_all) (by simpa using ew) ⟨rfl,fin⟩) hs
theorem qsQ:IxR X qw9:=by
 intro value slice Z s σ H x y v u Q I rx ry h hs;obtain⟨z,i,c,rfl,rfl,hz,he,q⟩:=h;obtain⟨t,rfl⟩:=rx;obtain⟨t',rfl⟩:=ry;obtain⟨j,h1,h2,h3,h4,h5⟩:=qgE he;have hl:z.cps.toList.length=z.length:=by simp[Str.length]
 rw[hl] at h1 h4 h5;have hn:=qe8;exact tail_any (typeIs_str s z t) slot_str_getitem.lookup (getItem_str (c:=c) (by
  have e1:decide (i< -(2 ^ 63:Int))=false:=Vv (by omega);have e2:decide (i≥2 ^ 63)=false:=Vv (by omega);rw[e1,e2,Bool.or_false]) (by rw[h1];simpa using h2) ⟨.str ⟨#[c]⟩,H,I.tok _,⟨_,rfl⟩,q⟩) hs
noncomputable def rIx(K:W.Frag):R2:=λx y H Q=>qxa K x y H Q\/qw8 K x y H Q\/qw9 x y H Q
theorem qsR:IxR X (rIx X.K):=qjY.or (qsP.or qsQ)
theorem qii(its:List Value)(n j:Nat)(u:Value):Obj.mapSeq (·.setIfInBounds j u) { cls:=.type "list",data:=.seq its.toArray n }={ cls:=.type "list",data:=.seq (its.set j u).toArray n }:=by simp[Obj.mapSeq]
theorem Inv.lst{Z:List (Addr×Obj)}{σ:St}{H:Hp}{s:Shared}{p:Addr}{xs:List V}(I:Inv X Z σ H s)(h:H p=some (.lst xs)):
  ∃(its:List Value)(n:Nat),qau xs its/\s.heap.get? p=some { cls:=.type "list",data:=.seq its.toArray n }/\xs.length<=sizeLine:=by obtain⟨z,its,n,r,e⟩:=I.hok p _ h;exact⟨its,n,r,e,z⟩
theorem Inv.lstUpd{s:Shared}{ys:List V}{its aO:List Value}{n n':Nat}(I:Inv X Z σ H s)(h:H p=some (.lst xs))(ho:s.heap.get? p=some { cls:=.type "list",data:=.seq its.toArray n })(hf:f { cls:=.type "list",data:=.seq its.toArray n }={ cls:=.type "list",data:=.seq aO.toArray n' })(r:qau ys aO)(hz:ys.length<=sizeLine)(t:Nat):
  Inv X Z σ (upd H p (.lst ys)) { s with heap:=s.heap.update p f,toks:=t }:=by
 have e:(s.heap.update p f).get? p=some { cls:=.type "list",data:=.seq aO.toArray n' }:=by rw[Heap.get?_update_self f ho (by rw[hf]<;>rfl),hf]
 refine I.write (by rw[h];trivial) (.inl rfl) (λb u hb q=>(Heap.get?_update_other _ _ (Ne.symm hb)).trans q) ⟨_,e⟩ ?_;exact⟨hz,aO,n',r,e⟩
noncomputable def qvb:V->V->V->Hp->(Hp->Prop)->Prop:=λo i v H Q=> ∃p xs k j,o= .ref p/\i= .int k/\H p=some (.lst xs)/\ixN xs.length k=some j/\Q (upd H p (.lst (xs.set j v)))
theorem qly:qwS X qvb:=by
 intro Z s σ H o i v ov iv u Q I ro ri rv h;obtain⟨p,xs,k,j,rfl,rfl,hp,hj,q⟩:=h;cases ro;obtain⟨t,rfl⟩:=ri;obtain⟨its,n,r,ho,hz⟩:=I.lst hp;obtain⟨h1,h2,h3,h4⟩:=qj0 hj;have hl:=r.length;have hn:=qe8
 have I':=
  I.lstUpd hp ho (qii its n j u) (r.set rv j) (by rw[List.length_set];exact hz) s.toks
 by_cases h0:0<=k
 ·have hk:k.toNat=j:=by rw[seqIndex_of h0 h4] at h1;exact Option.some.inj h1
  exact W.ki_setAt ho h0 (by omega) (by rw[List.size_toArray,<-hl];exact h4) (by rw[hk];exact⟨_,I',q⟩)
 ·have hk:(k+(its.toArray.size:Int)).toNat=j:=by
   rw[seqIndex_neg (by omega) h3] at h1
   grind
  exact W.ki_setBack ho (by omega) (by rw[List.size_toArray,<-hl];exact h3) (by omega) (by rw[hk];exact⟨_,I',q⟩)
theorem qeN(lo hi:Option Int)(n:Nat):(sliceBounds lo hi none n).1=((HT.sIx n 0 lo:Nat):Int)/\(sliceBounds lo hi none n).2.1=((HT.sIx n n hi:Nat):Int)/\(sliceBounds lo hi none n).2.2=1:=by
 refine⟨?_,?_,rfl⟩
 ·cases lo with
  |none=>simp[sliceBounds,HT.sIx]
  |some i=>
   simp only[sliceBounds,HT.sIx,Option.getD_none,show(1:Int)>0 by decide,if_true];by_cases h:i<0
   ·simp only[h,if_true]<;>omega
   ·simp only[h,if_false]<;>omega
 ·cases hi with
  |none=>simp[sliceBounds,HT.sIx]
  |some i=>
   simp only[sliceBounds,HT.sIx,Option.getD_none,show(1:Int)>0 by decide,if_true];by_cases h:i<0
   ·simp only[h,if_true]<;>omega
   ·simp only[h,if_false]<;>omega
theorem qd1(its:List Value)(lo hi:Option Int):slicePick its.toArray lo hi none=((its.drop (HT.sIx its.length 0 lo)).take (HT.sIx its.length its.length hi - HT.sIx its.length 0 lo)).toArray:=by obtain⟨h1,h2,h3⟩:=qeN lo hi _;unfold slicePick;rw[h1,h2,h3];simp only[sliceRange_one,pick_run]<;>rfl
noncomputable def qx4(K:W.Frag):V->Option Int->Option Int->Hp->VK->Prop:=λx lo hi H Q=> ∃a xs,x= .ref a/\SqL K H a xs/\∀p,H p=none->Q (.ref p) (upd H p (.lst (qtV xs lo hi)))
theorem qoy:SlR X (qx4 X.K):=by intro Z s σ H x v vl vu lo hi sl Q I rx hs pl pu h;obtain⟨a,xs,rfl,hx,q⟩:=h;cases rx;obtain⟨its,r,ht,hz⟩:=I.list hx;have hlen:=r.length;refine⟨"list",_,slot_list_getitem.lookup,ht.isList.typeIs,?_⟩;refine wpAny_getItem_list_slice ht.isList hs pl pu .none (by simp) ?_ (by grind);rw[qd1,<-hlen];refine⟨.ref _,_,I.laid (λb ob q=>Vg _ q) (Vl _) ?_,rfl,q _ (I.hok.fresh (Vl _))⟩;exact⟨Vp (qgq xs lo hi) hz,_,0,(r.drop _).take _,Vh _ rfl⟩
noncomputable def qgh:V->Bool
 |.non=>true
 |.bl _=>true
 |.int _=>true
 |.str _=>true
 |_=>false
noncomputable def eqV:V->V->Bool
 |.non,.non=>true
 |.bl a,.bl b=>a==b
 |.bl a,.int b=>(if a then 1 else 0)==b
 |.int a,.bl b=>a==(if b then 1 else 0)
 |.int a,.int b=>a==b
 |.str a,.str b=>a==b
 |_,_=>false
theorem qnU{A:Around}{s:Shared}{y x:V}{u v:Value}(ry:RelV y u)(rx:RelV x v)(fy:qgh y=true)(fx:qgh x=true):SeqAt.EqAt A s u v (eqV y x):=by
 cases y with
 |non=>
  cases ry;cases x with
  |non=>cases rx;exact SeqAt.EqAt.same _
  |bl b=>cases rx;exact SeqAt.EqAt.none_bool b
  |int b=>obtain⟨t,rfl⟩:=rx;exact SeqAt.EqAt.none_int b t
  |str b=>obtain⟨t,rfl⟩:=rx;exact SeqAt.EqAt.none_str b t
  |_=>exact absurd (show false=true from fx) Vq
 |bl a=>
  cases ry;cases x with
  |non=>cases rx;exact SeqAt.EqAt.bool_none a
  |bl b=>cases rx;exact SeqAt.EqAt.bool_bool a b
  |int b=>obtain⟨t,rfl⟩:=rx;exact SeqAt.EqAt.bool_int a b t
  |str b=>obtain⟨t,rfl⟩:=rx;exact SeqAt.EqAt.bool_str a b t
  |_=>exact absurd (show false=true from fx) Vq
 |int a=>
  obtain⟨t',rfl⟩:=ry;cases x with
  |non=>cases rx;exact SeqAt.EqAt.int_none a t'
  |bl b=>cases rx;exact SeqAt.EqAt.int_bool a t' b
  |int b=>obtain⟨t,rfl⟩:=rx;exact SeqAt.EqAt.int_int a t' b t
  |str b=>obtain⟨t,rfl⟩:=rx;exact SeqAt.EqAt.int_str a t' b t
  |_=>exact absurd (show false=true from fx) Vq
 |str a=>
  obtain⟨t',rfl⟩:=ry;cases x with
  |non=>cases rx;exact SeqAt.EqAt.str_none a t'
  |bl b=>cases rx;exact SeqAt.EqAt.str_bool a t' b
  |int b=>obtain⟨t,rfl⟩:=rx;exact SeqAt.EqAt.str_int a t' b t
  |str b=>obtain⟨t,rfl⟩:=rx;exact SeqAt.EqAt.str_str a t' b t
  |_=>exact absurd (show false=true from fx) Vq
 |_=>exact absurd (show false=true from fy) Vq
theorem qat.or(h:qat X f r)(h':qat X f r'):qat X f (λxs H Q=>r xs H Q\/r' xs H Q):=by
 intro Z s σ H xs us Q I rs q
 rcases q with q|q
 ·exact h _ s σ H xs us Q I rs q
 ·exact h' _ s σ H xs us Q I rs q
theorem qfD:qat X (.type "list") (λxs H Q=> ∃p ys,xs=[.ref p]/\(SqL X.K H p ys\/SqT X.K H p ys)/\∀l,H l=none->Q (.ref l) (upd H l (.lst ys))):=by
 intro Z s σ H xs us Q I r h;obtain⟨p,ys,rfl,hq,q⟩:=h;obtain⟨u,rfl,rx⟩:=qcd r;cases rx
 have fin: ∀(its:List _),qau ys its->ys.length<=sizeLine->∀(h':Heap)(c':Nat),(∀b o',s.heap.get? b=some o'->h'.get? b=some o')->
   h'.get? _=some _->EP X _ σ Q _ _:=λits r' hz h' c' kp e=>
  ⟨.ref _,_,I.laid (t':=s.toks) kp (Vl _) (show qaG _ X.w _ h' _ (.lst ys) from⟨hz,its,c',r',e⟩),rfl,q _ (I.hok.fresh (Vl _))⟩
 rcases hq with hq|hq
 ·obtain⟨its,r',pl,hz⟩:=I.list hq;have hlen:=r'.length;obtain⟨o,ho,hc,n,hd⟩:=pl.isList;exact call_list_seq p (.inl rfl) ho hc hd (λh' c' kp e=>fin its r' hz h' c' kp e) (by simp_all)
 ·obtain⟨its,r',pl,hz⟩:=I.tuple hq;have hlen:=r'.length;obtain⟨o,ho,hc,n,hd⟩:=pl;exact call_list_seq p (.inr rfl) ho hc hd (λh' c' kp e=>fin its r' hz h' c' kp e) (by simp_all)
theorem qex:qat X (.type "tuple") (λxs H Q=> ∃p ys,xs=[.ref p]/\((SqL X.K H p ys/\∀l,H l=none->Q (.ref l) (upd H l (.tup ys)))\/(SqT X.K H p ys/\Q (.ref p) H))):=by
 intro Z s σ H xs us Q I r h;obtain⟨p,ys,rfl,h⟩:=h;obtain⟨u,rfl,rx⟩:=qcd r;cases rx
 rcases h with⟨hq,q⟩|⟨hq,q⟩
 ·obtain⟨its,r',pl,hz⟩:=I.list hq;have hlen:=r'.length;refine call_tuple_list pl.isList (λh' kp=> ?_) (by simp_all);have I1:=I.kept (t':=s.toks) kp
  have I2:=
   I1.laid (t':=s.toks) (λb o e=>Vg _ e) (Vl _) (show qaG _ X.w _ _ _ (.tup ys) from⟨hz,its,r',IsTup.new _ _⟩)
  exact⟨.ref _,_,I2,rfl,q _ (I1.hok.fresh (Vl _))⟩
 ·obtain⟨its,r',pl,hz⟩:=I.tuple hq;exact call_tuple_same pl ⟨.ref p,H,I,rfl,q⟩
noncomputable def tyV(K:W.Frag)(T:String)(x:V)(H:Hp):Prop:=match x with
 |.str _=>T= "str"
 |.int _=>T= "int"
 | .ref p=>(T= "list" /\∃xs,SqL K H p xs)\/(T= "tuple" /\∃o,K.lookup p=some o/\o.cls= .type "tuple" /\o.dict=none)\/
   (T= "dict" /\((∃kvs,H p=some (.dK kvs))\/∃kvs,H p=some (.dT kvs)))\/(T= "set" /\∃S n,H p=some (.set S n))
 |_=>False
theorem qnr{T:String}(I:Inv X Z σ H s)(r:RelV x v)(ty:tyV X.K T x H):
  s.TypeIs v T/\∀a,v= .ref a->∃ob,s.heap.get? a=some ob/\ob.dict=none:=by
 cases x with
 |str z=>obtain⟨t,rfl⟩:=r;cases(show T= "str" from ty);exact⟨typeIs_str s z t,λ_ e=>nomatch e⟩
 |int i=>obtain⟨t,rfl⟩:=r;cases(show T= "int" from ty);exact⟨typeIs_int s i t,λ_ e=>nomatch e⟩
 |ref p=>
  cases r
  rcases ty with⟨rfl,xs,hq⟩|⟨rfl,o,hk,hc,hd⟩|⟨rfl,hk⟩|⟨rfl,S,n,hk⟩
  ·obtain⟨its,_,pl,_⟩:=I.list hq;refine⟨pl.isList.typeIs,λa e=> ?_⟩;cases e;obtain⟨o,n,e,c,hd,_⟩:=pl;exact⟨o,e,hd⟩
  ·refine⟨⟨o,I.kIn p o hk,hc⟩,λa e=> ?_⟩;cases e;exact⟨o,I.kIn _ o hk,hd⟩
  ·have z: ∃o,s.heap.get? p=some o/\o.ExactDict:=by
    rcases hk with⟨kvs,hk⟩|⟨kvs,hk⟩
    ·obtain⟨_,_,_,_,o,_,_,e,ex,_⟩:=I.hok p _ hk;exact⟨o,e,ex⟩
    ·obtain⟨_,_,_,_,o,_,_,e,ex,_⟩:=I.hok p _ hk;exact⟨o,e,ex⟩
   obtain⟨o,e,ex⟩:=z;refine⟨⟨o,e,ex.1⟩,λa e2=> ?_⟩;cases e2;exact⟨o,e,ex.2.1⟩
  ·obtain⟨o,_,_,_,e,ex,_⟩:=I.hok p _ hk;refine⟨⟨o,e,ex.1⟩,λa e2=> ?_⟩;cases e2;exact⟨o,e,ex.2.1⟩
 |_=>exact False.elim ty
noncomputable def qxY(K:W.Frag)(T:String)(r:V->List V->Hp->VK->Prop)(to:TE):TE:=λσ H Q=>to σ H λx H1=>tyV K T x H1/\r x [] H1 Q
noncomputable def tBM(K:W.Frag)(T:String)(r:V->List V->Hp->VK->Prop)(to:TE)(t:TA):TE:=λσ H Q=>to σ H λx H1=>tyV K T x H1/\t σ H1 λxs H2=>r x xs H2 Q
variable{name:Str}{T id:String}
theorem qr7(pa:PlainAttrs T)(slot:Slot T name id)(cF:typeOf (.builtin id)=pure (.type "method_descriptor"))(hm:MtR X id r)(ho:PE X o to)(aB:attributeBase o name X.env (eval o X.env)=eval o X.env:=by rfl)(aq:(apos.endLine==cpos.line)=true:=by rfl):PE X (.Call (.Attribute o name apos) [] [] cpos) (qxY X.K T r to):=by intro Z s σ H Q I h;refine wpAny_Call_method0_late aB aq (thn (ho _ s σ H _ I h) λv s1 ⟨x,H1,I1,r1,ty,q1⟩=> ?_);obtain⟨h1,h2⟩:=qnr I1 r1 ty;exact⟨T,id,pa,slot,cF,h1,h2,Calls.callWith_builtin rfl (PySem.evalArgs_none (hm _ s1 σ H1 x [] v [] Q I1 r1 .nil q1))⟩
theorem qo2{o:Expr}{e:Expr}{es:List Expr}{to:TE}{t:TA}{apos:Pos}{cpos:Pos}{r:V->List V->Hp->VK->Prop}(pa:PlainAttrs T)(slot:Slot T name id)(cF:typeOf (.builtin id)=pure (.type "method_descriptor"))(hm:MtR X id r)(ho:PE X o to)(ha:PA X (e::es) t)(aB:attributeBase o name X.env (eval o X.env)=eval o X.env:=by rfl)(eK:((backTo cpos (starEach (e::es) X.env)).all (λx=> !x.1)&&(backToKw cpos (keywordEach [] X.env)).all (λx=>x.1.isSome)
   &&decide ((e::es).length+([]:List Keyword).length+(if([]:List Keyword).isEmpty then 0 else 1)<30))=true:=by rfl)(aq:(apos.endLine==cpos.line)=true:=by rfl)(hs:starEach (e::es) X.env=(false,eval e X.env)::starEach es X.env:=by rfl)(bB:(backTo cpos (starEach es X.env)).any (·.1)=false:=by rfl):
  PE X (.Call (.Attribute o name apos) (e::es) [] cpos) (tBM X.K T r to t):=by intro Z s σ H Q I h;refine wpAny_Call_method_late aB eK aq rfl (thn (ho _ s σ H _ I h) λv s1 ⟨x,H1,I1,r1,ty,q1⟩=> ?_);obtain⟨h1,h2⟩:=qnr I1 r1 ty;refine⟨T,id,pa,slot,cF,h1,h2,?_⟩;have hA:=ha cpos _ s1 σ H1 _ I1 q1;rw[hs] at hA⊢;refine Calls.callWith_builtin (by show(false||(backTo _ _).any _)=false;rw[bB]<;>rfl) (Calls.evalArgs_plain ?_);exact thn hA λus s2 ⟨vs,H2,I2,r2,q2⟩=>hm _ s2 σ H2 x vs v us Q I2 r1 r2 q2
end
noncomputable def MtM(X:Cx)(id:String)(r:V->List V->Hp->VK->Prop):Prop:=
 ∀(Z:List (Addr×Obj))(s:Shared)(σ:St)(H:Hp)(x:V)(xs:List V)(v:Value)(us:List Value)(Q:VK),Inv X Z σ H s->RelV x v->qau xs us->r x xs H Q->
  wpAny (model X.prog X.w) X.A (call (.builtin id) (v::us)) (EP X Z σ Q) X.xe s
theorem qau.one: ∀{x:V}{us:List Value},qau [x] us->∃u,us=[u]/\RelV x u
 |_,_,.cons r .nil=>⟨_,rfl,r⟩
theorem qau.zero: ∀{us:List Value},qau [] us->us=[]
 |_,.nil=>rfl
theorem qau.dropLast(h:qau xs us):qau xs.dropLast us.dropLast:=by
 induction h with
 |nil=>exact .nil
 |cons r t ih=>
  cases t with
  |nil=>exact .nil
  |cons q t'=>exact .cons r ih
theorem qau.rep(h:qau xs us): ∀k:Nat,qau (List.replicate k xs).flatten (List.replicate k us).flatten
 |0=>.nil
 |k+1=>by exact qau.append h (qau.rep h k)
theorem qq2{α:Type}(l:List α):l.eraseIdx (l.length - 1)=l.dropLast:=by simp
theorem qfm(its:List Value): ∀(k:Nat)(acc:List Value),
  List.foldl (λx1 x2=>x1++x2) acc.toArray (List.replicate k its.toArray)=(acc++(List.replicate k its).flatten).toArray
 |0,acc=>by simp
 |k+1,acc=>by
  have e:acc.toArray++its.toArray=(acc++its).toArray:=by simp
  have e2:(acc++its)++(List.replicate k its).flatten=acc++(List.replicate (k+1) its).flatten:=by
   grind
  rw[<-e2,<-qfm its k _,<-e,List.replicate_succ,List.foldl_cons]
section
theorem Inv.lset{s:Shared}{ys:List V}{its aO:List Value}{n:Nat}{t':Nat}(I:Inv X Z σ H s)(hH:H l=some (.lst xs))(e:s.heap.get? l=some { cls:=.type "list",data:=.seq its.toArray n })(hf:f its.toArray=aO.toArray)(hv:qau ys aO)(hz:ys.length<=sizeLine):
  Inv X Z σ (upd H l (.lst ys)) { s with heap:=s.heap.update l (Obj.mapSeq f),toks:=t' }:=by have q:=PySem.IsL.update e f;rw[hf] at q;refine I.write (by rw[hH];exact trivial) (.inl rfl) (λb' u hb hu=>(Heap.get?_update_other _ _ (Ne.symm hb)).trans hu) ⟨_,q⟩ ?_;exact⟨hz,aO,_,hv,q⟩
theorem Inv.lnew(I:Inv X Z σ H s)(hv:qau ys its)(hz:ys.length<=sizeLine):
  Inv X Z σ (upd H s.heap.objs.size (.lst ys)) { s with heap:=s.heap.push { cls:=.type "list",data:=.seq its.toArray },toks:=t' }:=
 I.laid (λ_ _ q=>Vg _ q) (Vl _) ⟨hz,its,0,hv,Vh _ rfl⟩
theorem Inv.fresh(I:Inv X Z σ H s):H s.heap.objs.size=none:=I.hok.fresh (Vl _)
theorem Inv.lstM(I:Inv X Z σ H s)(hH:H l=some (.lst xs)):xs.length<=sizeLine/\∃(its:List Value)(n:Nat),qau xs its/\xs.length=its.length/\s.heap.get? l=some { cls:=.type "list",data:=.seq its.toArray n }:=by obtain⟨z,its,n,r,e⟩:=I.hok l _ hH;exact⟨z,its,n,r,r.length,e⟩
theorem qhf(h:n<=sizeLine):Builtin.List.listTooLong n=false:=by exact Vv (by omega)
end
section
noncomputable def qoL:V->List V->Hp->VK->Prop:=λx vs H Q=> ∃l xs y,x= .ref l/\vs=[y]/\H l=some (.lst xs)/\xs.length<sizeLine/\Q .non (upd H l (.lst (xs++[y])))
theorem qe2:MtM X "list.append" qoL:=by
 intro Z s σ H x vs v us Q I rx rv h;obtain⟨l,xs,y,rfl,rfl,hH,hz,q⟩:=h;cases rx;obtain⟨u,rfl,ru⟩:=rv.one;obtain⟨z,its,n,r,hl,e⟩:=I.lstM hH;refine Vx F.slot_list_append ⟨_,e,rfl⟩ F.entry_list_append (F.args_list_append_2 _ _) (PySem.list_append l _ n u (by grind)) ⟨e,?_⟩;refine⟨.non,_,I.lset hH e (by simp) (r.append (.cons ru .nil)) ?_,rfl,q⟩
 grind
noncomputable def qoJ:V->List V->Hp->VK->Prop:=λx vs H Q=> ∃l b xs zs,x= .ref l/\vs=[.ref b]/\H l=some (.lst xs)/\H b=some (.lst zs)/\xs.length+zs.length<=sizeLine/\Q .non (upd H l (.lst (xs++zs)))
theorem qsD:MtM X "list.extend" qoJ:=by
 intro Z s σ H x vs v us Q I rx rv h;obtain⟨l,b,xs,zs,rfl,rfl,hH,hB,hz,q⟩:=h;cases rx;obtain⟨u,rfl,ru⟩:=rv.one;cases ru;obtain⟨z,its,n,r,hl,e⟩:=I.lstM hH;obtain⟨z2,aF,n2,r2,eC,e2⟩:=I.lstM hB;have hsz:its.toArray.size+aF.toArray.size<=sizeLine:=by grind
 have cy: ¬(!its.toArray.isEmpty&&Builtin.List.listTooLong (its.toArray.size+aF.toArray.size))=true:=by rw[qhf hsz];simp
 refine Vx F.slot_list_extend ⟨_,e,rfl⟩ F.entry_list_extend (F.args_list_extend_2 _ _)
  (AutoSeq1.list_extend_list_list_0 l _ n b _ n2 cy (by omega) (by omega)) ⟨e,e2,?_⟩
 refine⟨.non,_,I.lset hH e (by simp) (r.append r2) ?_,rfl,q⟩
 grind
noncomputable def qx6:V->List V->Hp->VK->Prop:=λx vs H Q=> ∃l xs y,x= .ref l/\vs=[]/\H l=some (.lst xs)/\xs[xs.length - 1]? =some y/\Q y (upd H l (.lst xs.dropLast))
theorem qsC:MtM X "list.pop" qx6:=by
 intro Z s σ H x vs v us Q I rx rv h;obtain⟨l,xs,y,rfl,rfl,hH,hy,q⟩:=h;cases rx;have iG:=rv.zero;subst iG;obtain⟨z,its,n,r,hl,e⟩:=I.lstM hH;obtain⟨u,hu,ru⟩:=r.get hy;have dO:its.toArray[its.toArray.size - 1]? =some u:=by
  simp_all
 refine Vx F.slot_list_pop ⟨_,e,rfl⟩ F.entry_list_pop (F.args_list_pop_1 _) (MeetsSeq.list_pop_last l _ n u dO (by simp_all)) ⟨e,?_⟩;refine⟨y,_,I.lset hH e ?_ r.dropLast ?_,ru,q⟩
 ·simp
 ·rw[List.length_dropLast];omega
noncomputable def qrL:V->List V->Hp->VK->Prop:=λx vs H Q=> ∃l xs,x= .ref l/\vs=[]/\H l=some (.lst xs)/\Q .non (upd H l (.lst []))
theorem qma:MtM X "list.clear" qrL:=by intro Z s σ H x vs v us Q I rx rv h;obtain⟨l,xs,rfl,rfl,hH,q⟩:=h;cases rx;have iG:=rv.zero;subst iG;obtain⟨z,its,n,r,hl,e⟩:=I.lstM hH;refine Vx F.slot_list_clear ⟨_,e,rfl⟩ F.entry_list_clear (F.args_list_clear_1 _) (AutoSeq1.list_clear_list_0 l _ n (by simp_all)) ⟨e,?_⟩;exact⟨.non,_,I.lset hH e rfl .nil (Nat.zero_le _),rfl,q⟩
noncomputable def qxd:R2:=λx y H Q=> ∃l b xs zs,x= .ref l/\y= .ref b/\H l=some (.lst xs)/\H b=some (.lst zs)/\xs.length+zs.length<=sizeLine/\∀p,H p=none->Q (.ref p) (upd H p (.lst (xs++zs)))
theorem qjt:OpR X (binaryOp .Add) qxd:=by
 intro Z s σ H x y v u Q I rx ry h;obtain⟨l,b,xs,zs,rfl,rfl,hH,hB,hz,q⟩:=h;cases rx;cases ry;obtain⟨z,its,n,r,hl,e⟩:=I.lstM hH;obtain⟨z2,aF,n2,r2,eC,e2⟩:=I.lstM hB;refine P.add_list e e2 ?_ (by simp_all);have ea:its.toArray++aF.toArray=(its++aF).toArray:=by simp
 rw[ea];exact⟨.ref _,_,I.lnew (r.append r2) (by simp_all),rfl,q _ I.fresh⟩
noncomputable def qw6:R2:=λx y H Q=> ∃l k xs,x= .ref l/\y= .int k/\H l=some (.lst xs)/\ -(2 ^ 63)<=k/\k<2 ^ 63/\xs.length*k.toNat<=sizeLine/\
 ∀p,H p=none->Q (.ref p) (upd H p (.lst (List.replicate k.toNat xs).flatten))
theorem qpv{α:Type}(xs:List α)(k:Nat):(List.replicate k xs).flatten.length=k*xs.length:=by simp
theorem qsd:OpR X (binaryOp .Mult) qw6:=by
 intro Z s σ H x y v u Q I rx ry h;obtain⟨l,k,xs,rfl,rfl,hH,h1,h2,hz,q⟩:=h;cases rx;obtain⟨t,rfl⟩:=ry;obtain⟨z,its,n,r,hl,e⟩:=I.lstM hH;have hlen:its.toArray.size*k.toNat<=sizeLine:=by rw[List.size_toArray,<-hl];exact hz
 have iY: ¬its.toArray.size*k.toNat>(2 ^ 63 - 1) / 8:=by
  have:(sizeLine:Nat)<=(2 ^ 63 - 1) / 8:=by decide
  omega
 have iS: ¬(!Builtin.List.listFitsIndex k)=true:=by rw[fitsIndex_both h1 h2];exact Vq
 have cy: ¬Builtin.List.listTooLong (its.toArray.size*k.toNat)=true:=by rw[qhf hlen];exact Vq
 have cw:List.foldl (λx1 x2=>x1++x2) #[] (List.replicate (if its.toArray.isEmpty=true then 0 else k.toNat) its.toArray)=(List.replicate k.toNat its).flatten.toArray:=by
  have f0:=λm=>by have:=qfm its m [];rw[List.nil_append] at this;exact this
  rw[f0];cases its with
  |nil=>simp
  |cons a r'=>rw[if_neg (by simp)]
 refine wpAny_binaryOp_repeat_ref (T:= "list") (U:= "int") (by decide) ⟨_,e,rfl⟩ (λs'=>typeIs_int s' k t) noFill_list_mul F.fills_int_mul F.slot_int_rmul repeat_list F.slot_int_index.lookup
  (Vx F.slot_int_rmul (typeIs_int s k t) F.entry_int_rmul (F.args_int_rmul_2 _ _) (int___rmul___int_list k t l its.toArray n)
   ⟨e,rfl,⟨_,e,rfl⟩,Vx F.slot_list_mul ⟨_,e,rfl⟩ F.entry_list_mul (F.args_list_mul_2 _ _) (AutoListH.list___mul___list_int_3 l its.toArray n k t iS iY cy) ⟨e,?_⟩⟩)
 rw[cw];exact⟨.ref _,_,I.lnew (t':=s.toks) (r.rep k.toNat) (by rw[qpv,Nat.mul_comm];exact hz),rfl,q _ I.fresh⟩
end
end L2
namespace Att
open PySem PySem.W PySem.Calls PyProof.Rows
theorem qc5: ∀(ns:List Int)(vs:List Value),WellAll P h vs (ns.map WData.int)->IntsAre vs ns:=by
 intro ns
 induction ns with
 |nil=>intro vs w;cases w;exact .nil
 |cons n ns ih=>
  intro vs w;cases w with
  |cons a b=>cases a;exact .cons _ _ (ih _ b)
theorem qi2{l:OpenLaw}{n:Nat}(hn:l.most=some n){h:Heap}(cM:l.row.toRowW.claim.pre args=true)(iF:WellAll P h vals args):
  ∃a vs ns,vals=[Value.ref a]/\args=[WData.list (ns.map WData.int)]/\h.get? a=some { cls:=.type "list",data:=.seq vs.toArray }/\IntsAre vs ns/\ns.length<=n:=by
 have hsh:=(pre_splitW cM).1;have hc:l.pre.holds [] _=true:=(pre_splitW cM).2;obtain⟨d,r,rfl,h1,h2⟩:=hasAllW_cons hsh;obtain rfl:=hasAllW_nil h2;obtain⟨xs,rfl,h3⟩:=hasW_list h1;obtain⟨ns,rfl⟩:=items_int h3;have hlen:ns.length<=n:=by
  have h4:=by have h4:=(holds_andW hc).1;rw[hn] at h4;exact h4
  have h5:=condW_of h4 (w_not (w_lt w_lit (w_len_list (w_arg rfl))))
  simp_all
 cases iF with
 |cons w1 w2=>
  cases w2;cases w1 with
  |list ho ja=>exact⟨_,_,ns,rfl,rfl,ho,qc5 ns _ ja,hlen⟩
theorem qjg(l:OpenLaw)(args:List WData):l.row.toRowW.claim.post args (.bool true) args=true:=
 postW_of
  (show WShape.has [] _ _=true by first|rfl|decide|simp)
  (w_eq_bool (w_res rfl) w_lit) rfl
theorem attach_call{l:OpenLaw}{n:Nat}{loose:List Str}{d:DefRec}(hn:l.most=some n)(eN:d.params.defaults=[])(call: ∀(w:World)(s₀ aa:Shared)(mg mb:Str->Option Value)(fa:Addr)(o:Obj)(pm cd doc:Value)(a:Addr)(vs:List Value)(ns:List Int),
   Ground q loose [] XP w s₀ mg mb aa.heap->YP w aa.heap->
   aa.heap.get? fa=some o->o.data= .func (docDef d.name d.params d.body d.scope pm cd doc)->aa.heap.CodeRec cd d.name->mg d.name=some (.ref fa)->
   aa.heap.get? a=some { cls:=.type "list",data:=.seq vs.toArray }->IntsAre vs ns->ns.length<=n->aa.gens= #[]->
   codeAny (model l.prog w) callerA (.call (.ref fa) ⟨[.ref a],[]⟩) (λr s'=>r= .ok (.ret (.bool true))/\OldK aa.heap s'.heap/\s'.os=aa.os/\AllBare s'.gens) aa):
  WalkO q loose XP YP l.row.toRowW d [] (λf vs=>PySem.call f vs):=by intro w s₀ aa mg mb G Y fa o pm cd doc dV kV ho hd aK hD iL hg args vals as cM hlay hrd iF hlo;obtain rfl:dV= .none:=Dflts.none hD eN;obtain rfl:kV= .none:=Dflts.noKw hD;obtain⟨a,vs,ns,rfl,rfl,d8,hints,hlen⟩:=qi2 hn cM iF;refine enter_call (codeAny_mono (call w _ _ mg mb fa o pm cd doc a vs ns G Y ho (fd_plain hd) aK iL d8 hints hlen hg) λr s' hq=> ?_);obtain⟨rfl,h2,h3,h4⟩:=hq;exact⟨.inl ⟨.bool _,.bool _,[],rfl,λ_=>rfl,.bool _,qjg l _,λ_=>⟨List.Pairwise.nil,λ_ hm=>(nomatch hm)⟩⟩,h2,h3,h4⟩
section
noncomputable def qxk(h:Heap)(L d:Addr):List (Addr×Obj):=(List.range h.objs.size).filterMap λa=>if a=L\/a=d then none else(h.get? a).map λo=>(a,o)
end
end Att
namespace L2
open PySem PySem.Spec PyProof.Rows
theorem qeD: ∀{vs:List Value}{ns:List Int},IntsAre vs ns->qau (ns.map V.int) vs
 |_,_,.nil=>.nil
 |_,_,.cons n t h=>.cons ⟨t,rfl⟩ (qeD h)
abbrev KOf{K:W.Frag}{h:Heap}(_:K.In h):W.Frag:=K
noncomputable def qap(s:Stmt):Arguments:=match s with
 |.FunctionDef _ a _ _ _ _ _ _ _ _=>a
 |_=>{ posonlyargs:=[],args:=[],vararg:=none,kwonlyargs:=[],kw_defaults:=[],kwarg:=none,defaults:=[] }
noncomputable def qaA(s:Stmt):List Stmt:=match s with
 |.FunctionDef _ _ b _ _ _ _ _ _ _=>b
 |_=>[]
noncomputable def qad(s:Stmt):Scope:=match s with
 |.FunctionDef _ _ _ _ _ _ sc _ _ _=>sc
 |_=>{ kind:=.function,names:=[],isGenerator:=false,isCoroutine:=false }
abbrev CX0:CXT:=λ_ _ _ _ _ _=>False
abbrev E0:XK:=λ_ _ _=>False
structure Fun(K:W.Frag)(x qual:Str)(st:Stmt)(f:Addr)(fd:FuncData):Prop where
 ex: ∃(oc:Value)(od:Option Addr)(kV doc pm:Value)(an:Option Addr)(cdv ct:Value)(osl:Array (Option Value)),
  fd=W.fnOf x qual (qap st) (qaA st) (qad st) .none kV doc pm an cdv ct/\K.lookup f=some ⟨oc,od,.func fd,osl⟩/\W.codeIn K cdv qual=true
 kp:W.keepIn K (.ref f)=true
section
theorem Fun.binds{K:W.Frag}{x qual:Str}{st:Stmt}{f:Addr}{fd:FuncData}{ps:List Str}(F:Fun K x qual st f fd)(h: ∀(kV doc pm:Value)(an:Option Addr)(cdv ct:Value)(us:List Value),us.length=ps.length->bindArgs (W.fnOf x qual (qap st) (qaA st) (qad st) .none kV doc pm an cdv ct) ⟨us,[]⟩=pure (ps.zip us)):qa0 K fd ps []:=by obtain⟨oc,od,kV,doc,pm,an,cdv,ct,osl,rfl,lk,aK⟩:=F.ex;exact .all (h kV doc pm an cdv ct)
theorem qfi{K:W.Frag}{x qual:Str}{st:Stmt}{f:Addr}{oc:Value}{od an:Option Addr}{osl:Array (Option Value)}{kV doc pm cdv ct:Value}(l:K.lookup f=some ⟨oc,od,.func (W.fnOf x qual (qap st) (qaA st) (qad st) .none kV doc pm an cdv ct),osl⟩)(c:W.codeIn K cdv qual=true)(k:W.keepIn K (.ref f)=true):Fun K x qual st f (W.fnOf x qual (qap st) (qaA st) (qad st) .none kV doc pm an cdv ct):=⟨⟨oc,od,kV,doc,pm,an,cdv,ct,osl,rfl,l,c⟩,k⟩
end
theorem qeM(h:n<=1000):n<sizeLine:=Nat.lt_of_le_of_lt h (by decide)
section
theorem pv{X:Cx}(i:Nat){x:Str}{pos:Pos}(hN:X.N[i]? =some x:=by rfl)(hv:Vis X.env.scope x:=by first|exact Or.inl rfl|exact Or.inr (Or.inl rfl)|exact Or.inr (Or.inr rfl))(hd:(x==("__debug__" :Str))=false:=by decide)(aK:(x==("__classdict__" :Str))=false:=by decide):PE X (.Name x pos) (qqT i):=qg9 hN hv hd aK
end
theorem qvY{A B:Prop}(h:B):if false=true then A else B:=by
 grind
theorem qyg{A B:Prop}(h:A):if true=true then A else B:=by
 grind
noncomputable def clOf(env:Env):List (Str×NameKind)->List (Str×Addr)->List (Str×Addr)
 |[],acc=>acc
 |x::r,acc=>clOf env r (if x.2== .free then(match env.cells.lookup x.1 with|some a=>(x.1,a)::acc|none=>acc) else acc)
theorem qdM: ∀(names:List (Str×NameKind))(acc:List (Str×Addr)),(∀x∈names,x.2= .free->∃c,env.cells.lookup x.1=some c)->
  (forIn names acc λx r=>(match x with|(name,kind)=>if(kind==NameKind.free)=true then do let a <-cellOf env name;pure (ForInStep.yield ((name,a)::r)) else pure (ForInStep.yield r):Sem (ForInStep (List (Str×Addr)))))=pure (clOf env names acc)
 |[],acc,_=>rfl
 |(n,k)::r,acc,h=>by
  rw[List.forIn_cons];have ih:=λjm=>qdM r jm λx hx=>h x (Vk _ hx);by_cases hk:(k==NameKind.free)=true
  ·have cN:=by simpa using hk
   obtain⟨c,hc⟩:=h (n,k) Vj cN;simp only[hk,cellOf,hc,clOf];exact ih _
  ·simp only[hk,clOf];exact ih _
theorem qdN(h: ∀x∈scope.names,x.2= .free->∃c,env.cells.lookup x.1=some c):closureFor scope env=pure (clOf env scope.names []):=by have e:=qdM _ [] h;exact(congrArg (λm=>m>>=λr=>pure r) e)
theorem qeu{x:Str}: ∀(names:List (Str×NameKind))(acc:List (Str×Addr)),(∀y d,acc.lookup y=some d->env.cells.lookup y=some d)->
  (clOf env names acc).lookup x=some c->env.cells.lookup x=some c
 |[],acc,ha,h=>ha x c h
 |(n,k)::r,acc,ha,h=>by
  refine qeu r _ (λy d hy=> ?_) h;by_cases hk:(k==NameKind.free)=true
  ·rw[if_pos hk] at hy;cases e:env.cells.lookup n with
   |none=>simp_all
   |some a=>
    rw[e] at hy;rw[List.lookup_cons] at hy;cases hb:y==n with
    |true=>
     simp_all
    |false=>simp_all
  simp_all
theorem qbx{x:Str}: ∀(names:List (Str×NameKind))(acc:List (Str×Addr)),env.cells.lookup x=some c->(acc.lookup x=some c\/(x,NameKind.free)∈names)->
  (clOf env names acc).lookup x=some c
 |[],acc,hc,h=>by
  rcases h with h|h
  ·exact h
  ·cases h
 |(n,k)::r,acc,hc,h=>by
  refine qbx r _ hc ?_;by_cases hk:(k==NameKind.free)=true
  ·rw[if_pos hk];by_cases hn:x=n
   ·simp_all
   ·cases e:env.cells.lookup n with
    |none=>
     grind
    |some a=>
     grind
  ·grind
theorem qbv{env:Env}{x:Str}{k:NameKind}: ∀{names:List (Str×NameKind)},(∀y∈names,y.2≠.cell)->k= .cell\/k= .free->
  (names.map λ(n,k)=>if(k==NameKind.free&&env.scope.kind== .function&&env.kindOf n==some .cell) then(n,NameKind.cell) else(n,k)).lookup x=some k->names.lookup x=some .free
 |[],_,_,h=>by simp at h
 |(n,k')::r,hc,hk,h=>by
  have ih:=@qbv env x k r (λy hy=>hc y (Vk _ hy)) hk;rw[List.map_cons] at h;dsimp only at h;by_cases hf:(k'==NameKind.free&&env.scope.kind== .function&&env.kindOf n==some .cell)=true
  ·rw[if_pos hf] at h;have cN:k'= .free:=by
    grind
   subst cN;cases hx:x==n with
   |true=>simp[List.lookup_cons,hx]
   |false=>simp only[List.lookup_cons,hx] at h⊢;exact ih h
  ·rw[if_neg hf] at h;cases hx:x==n with
   |true=>
    simp_all
   |false=>simp only[List.lookup_cons,hx] at h⊢;exact ih h
theorem qco{env:Env}{x:Str}: ∀{names:List (Str×NameKind)},names.lookup x=some .free->
  let m:=(names.map λ(n,k)=>if(k==NameKind.free&&env.scope.kind== .function&&env.kindOf n==some .cell) then(n,NameKind.cell) else(n,k)).lookup x
  m=some .cell\/m=some .free
 |[],h=>by simp at h
 |(n,k)::r,h=>by
  have ih:=@qco env x r;dsimp only at ih⊢;rw[List.map_cons];dsimp only;cases hx:x==n with
  |true=>
   simp only[List.lookup_cons,hx] at h;cases h;by_cases hf:(NameKind.free==NameKind.free&&env.scope.kind== .function&&env.kindOf n==some .cell)=true
   ·rw[if_pos hf];exact .inl (by simp[List.lookup_cons,hx])
   ·rw[if_neg hf];exact .inr (by simp[List.lookup_cons,hx])
  |false=>
   simp only[List.lookup_cons,hx] at h;by_cases hf:(k==NameKind.free&&env.scope.kind== .function&&env.kindOf n==some .cell)=true
   ·rw[if_pos hf];simp only[List.lookup_cons,hx];exact ih h
   ·rw[if_neg hf];simp only[List.lookup_cons,hx];exact ih h
noncomputable def qav(X:Cx)(scope:Scope)(own:List Str)(fr:List (Str×Nat))(fp:List Addr)(s3:Shared)(H3:Hp):Cx where
 prog:=X.prog
 w:=X.w
 K:=X.K
 mg:=X.mg
 base:=X.base
 A:=X.A
 N:=own++fr.map (·.1)
 s₀:=s3
 H₀:=H3
 env:=compEnvC scope (clOf X.env scope.names []) s3.heap.objs.size X.env
 outer:=X.stack
 stack:=X.stack
 ex:=fp
 calm:=X.calm
 fn:=λ_=>false
 pn:=[]
 xe:=λ_ _=>False
noncomputable def qbs(own:List Str)(fr:List (Str×Nat))(σ:St):St:=own.map (λ_=>none)++fr.map λp=>(σ[p.2]?).join
noncomputable def qiL(Y:Cx)(ifs:List Expr)(tt:TT):Prop:=
 ∀(Z:List (Addr×Obj))(s:Shared)(σ:St)(H:Hp)(Q:Bool->Hp->Prop),Inv Y Z σ H s->tt σ H Q->
  wpAny (model Y.prog Y.w) Y.A (forIn ifs true λc r=>if r=true then do let ok <-isTrue c Y.env (eval c Y.env);pure (ForInStep.yield ok) else pure (ForInStep.yield r)) (TP Y Z σ Q) Y.xe s
noncomputable def qot:TT:=λ_ H Q=>Q true H
theorem qlR:qiL Y [] qot:=λ_ _ _ H _ I h=>wpAny_tests_nil ⟨H,I,h⟩
theorem qlQ(h:PT Y c t):qiL Y [c] t:=λZ s σ H Q I q=>wpAny_tests_one (h _ s σ H Q I q)
section
theorem qiH(hE: ∀e s',Ex e s'->notedBy (model prog w) A env (λe s'=>R (.error e) s') e s')(J:Nat->Shared->Prop)(turn: ∀n s,J n s->wpAny (model prog w) A (pyNext it) (λr s1=>match r with
   |none=>R (.ok .next) s1
   | some v=>wpAny (model prog w) A (letOwnedTupleGo tg it v) (λ_ s2=>wpAny (model prog w) A (assign tg env v) (λ_ s3=>
     wpAny (model prog w) A (forIn ifs true λc r=>if r=true then do let ok <-isTrue c env (eval c env);pure (ForInStep.yield ok) else pure (ForInStep.yield r)) (λok s4=>
      if ok=true then wpAny (model prog w) A (eval elt env) (λx s5=>wpAny (model prog w) A (call (.builtin "list.append") [acc,x]) (λ_ s6=> ∃m,m<n/\J m s6) Ex s5) Ex s4
      else ∃m,m<n/\J m s4) Ex s3) Ex s2) Ex s1) Ex s)(n:Nat)(h:J n s):codeAny (model prog w) A (.compLoop (.ListComp elt [⟨tg,iter,ifs,0⟩] scope pos) 0 it acc env) R s:=by
 refine codeAny_loop rfl J (λn s hJ=> ?_) n h;refine wpAny_noted ?_;rw[compTurn_list];have go: ∀{α:Type}{t:Sem α}{Q Q':α->Shared->Prop}{s:Shared},wpAny (model prog w) A t Q Ex s->(∀a s,Q a s->Q' a s)->wpAny (model prog w) A t Q' (notedBy (model prog w) A env λe s'=>R (.error e) s') s:=λh hQ=>Vc h hQ hE;refine Va (wpAny_standAt (Va (go (turn n s hJ) λr s1 h1=> ?_)));cases r with
 |none=>exact Vb h1
 |some v=>
  refine Va (go h1 λ_ s2 h2=>Va (go h2 λ_ s3 h3=>Va (go h3 λok s4 h4=> ?_)));cases ok with
  |false=>exact Vb ⟨rfl,h4⟩
  |true=>exact Va (Va (go h4 λx s5 h5=>Va (go h5 λ_ s6 h6=>Vb (Vb ⟨rfl,h6⟩))))
end
noncomputable def qwU(J:It)(D:Addr)(g:TG)(tt:TT)(te:TE)(σ0:St)(H0:Hp)(Q:Addr->Hp->Prop):Prop:=
 ∃W:Nat->Nat->St->Hp->Prop,(∃m,W 0 m σ0 H0)/\∀i m cU H2,W i m cU H2->
  (J.stop i H2/\Q D H2)\/(J.go i H2/\∃(Ny:St->V->Hp->Prop)(Nn:St->Hp->Prop),
   (∀aP y H6,Ny aP y H6->∃ys,H6 D=some (.lst ys)/\ys.length<sizeLine/\∃m',m'<m/\W (i+1) m' aP (upd H6 D (.lst (ys++[y]))))/\
   (∀aP H5,Nn aP H5->∃m',m'<m/\W (i+1) m' aP H5)/\
   ∀x H3,J.yld i H2 x H3->g x cU H3 λaP H4=>tt aP H4 λb H5=>if b=true then te aP H5 (Ny aP) else Nn aP H5)
noncomputable def qeH(wi:TI)(g:TG)(tt:TT)(te:TE)(own:List Str)(fr:List (Str×Nat))(σ:St)(H:Hp)(Q:Addr->Hp->Prop):Prop:=
 wi σ H λJ H1=> ∀D,H1 D=none->qwU J D g tt te (qbs own fr σ) (upd H1 D (.lst [])) Q
section
variable{own:List Str}
theorem qmY{X:Cx}{elt:Expr}{tg:Expr}{iter:Expr}{ifs:List Expr}{scope:Scope}{pos:Pos}{fr:List (Str×Nat)}{wi:TI}{g:TG}{tt:TT}{te:TE}{R:Value->Env->Result->Shared->Prop}{xe:List Addr->Shared->Hp->Value->Shared->Prop}{Z:List (Addr×Obj)}{σ:St}{H:Hp}{s:Shared}{Q:Addr->Hp->Prop}(hc:X.calm=true)(hi:PI X tg iter wi)(hk:scope.kind= .function)(ai: ∀y∈scope.names,y.2≠.cell)(ag: ∀y∈scope.names,y.2= .free->X.env.kindOf y.1=some .cell\/X.env.kindOf y.1=some .free)(aY: ∀p∈fr,X.N[p.2]? =some p.1/\scope.names.lookup p.1=some .free)(hb: ∀(fp:List Addr)(s3:Shared)(H3:Hp),PG ((qav X scope own fr fp s3 H3).wish (xe fp s3 H3)) tg g/\qiL ((qav X scope own fr fp s3 H3).wish (xe fp s3 H3)) ifs tt/\PE ((qav X scope own fr fp s3 H3).wish (xe fp s3 H3)) elt te)(I:Inv X Z σ H s)(h:qeH wi g tt te own fr σ H Q)(fin: ∀(D:Addr)(ce:Env)(H':Hp)(s':Shared)(m:Str->Option Value),Inv X Z σ H' s'->qgI X Z H' ce.locals->s'.heap.Ns ce.locals m->Q D H'->R (.ref D) ce (.ok .next) s')(jg: ∀(D:Addr)(fp:List Addr)(s3:Shared)(H3:Hp)(e:Value)(s':Shared),Inv X Z σ H3 s3->(∀b∈fp,b<s3.heap.objs.size/\qgI X Z H3 b)->xe fp s3 H3 e s'->
   notedBy (model X.prog X.w) X.A (compEnvC scope (clOf X.env scope.names []) s3.heap.objs.size X.env) (λx s''=>R (.ref D) (compEnvC scope (clOf X.env scope.names []) s3.heap.objs.size X.env) (.error x) s'') e s'):
  wpAny (model X.prog X.w) X.A (eval iter X.env) (λx s1=>wpAny (model X.prog X.w) X.A (pyIter x) (λit s2=>wpAny (model X.prog X.w) X.A (newList []) (λacc s3=>
   wpAny (model X.prog X.w) X.A (newFunctionEnv scope X.env.globals (clOf X.env scope.names []) [] X.env.qual none .none (some X.env)) (λce s4=>
    codeAny (model X.prog X.w) X.A (.compStart (.ListComp elt [⟨tg,iter,ifs,0⟩] scope pos) 0 it acc { ce with scope:=relabel scope X.env }) (R acc { ce with scope:=relabel scope X.env }) s4) X.xe s3) X.xe s2) X.xe s1) X.xe s:=by
 have iW: ∀x∈scope.names,x.2= .free->∃c,X.env.cells.lookup x.1=some c:=λx hx e=>I.ok.has x.1 (ag x hx e);refine thn (hi Z s σ H _ I h) λxv s1 h1=>thn h1 λitv s2 h2=> ?_;obtain⟨it,fp,tn,J,H2,rfl,I2,T,st2,f2,h2⟩:=h2;refine wpAny_newObj_type (hd:=by size_fits) ?_;generalize hD:s2.heap.objs.size=D;have I3:Inv X Z σ (upd H2 D (.lst [])) { s2 with heap:=s2.heap.push { cls:=.type "list",dict:=none,data:=.seq ([]:List Value).toArray } }:=by rw[<-hD];exact I2.lnew (its:=[]) (ys:=[]) (t':=s2.toks) .nil (Nat.zero_le _)
 have nD:H2 D=none:=I2.hok.fresh (Nat.le_of_eq hD);obtain⟨W,⟨m0,w0⟩,turn⟩:=h2 D nD;have f3: ∀b∈fp,b<s2.heap.objs.size/\qgI X Z (upd H2 D (.lst [])) b:=λb hb=>by obtain⟨o,e,_⟩:=T.obj _ _ st2 b hb;have lt:=Vi e;exact⟨lt,by rw[qac (by rw[<-hD];exact Vn lt)];exact(f2 b hb).1,(f2 b hb).2⟩
 have st3:tn 0 (s2.heap.push { cls:=.type "list",dict:=none,data:=.seq ([]:List Value).toArray }):=T.keep _ _ _ st2 λb _ o e=>Vg _ e;generalize hs3:({ s2 with heap:=s2.heap.push { cls:=.type "list",dict:=none,data:=.seq ([]:List Value).toArray } }:Shared)=s3 at I3⊢;have jL:s3.heap=s2.heap.push { cls:=.type "list",dict:=none,data:=.seq ([]:List Value).toArray }:=by rw[<-hs3]
 rw[<-jL] at st3;have ju:s3.heap.objs.size=s2.heap.objs.size+1:=by rw[jL,Heap.size_push]
 generalize gz:upd H2 D (.lst [])=H3 at I3 w0 f3;refine wpAny_newFunctionEnv ai (by intro y hy;simp at hy) (λh4 hn4 hs4=> ?_) hk;have cj: ∀b o,s3.heap.get? b=some o->h4.get? b=some o:=λb o e=>
  (hs4.2 b (Vn (Vi e))).trans (Vg _ e)
 generalize dW:({ s3 with heap:=h4,toks:=s3.toks+([]:List (Str×Value)).length }:Shared)=s4;have ff:s4.heap=h4:=by rw[<-dW]
 have ay: ∀x c,(clOf X.env scope.names []).lookup x=some c->X.env.cells.lookup x=some c:=λx c=>qeu _ _ (λ_ _ z=>by cases z);have Y0:Inv ((qav X scope own fr fp s3 H3).wish (xe fp s3 H3)) [] (qbs own fr σ) H3 s4:=by
  refine⟨⟨I3.ok.mod,hk,I3.ok.glob,I3.ok.blt,Vl _,λx y c h1 h2=>I3.ok.inj x y c (ay x c h1) (ay y c h2),λx hx=> ?_,λx c z=>absurd (show false=true from z) Vq,I3.ok.hd,I3.ok.frames,.inl rfl,λb hb=>⟨?_,λx c e=>(f3 b hb).2.2.2.2.2.1 x c (ay x c e)⟩,
   I3.bs,Vp I3.ok.bsz I3.sz,λb o e hb=> ?_,λb hb z=> ?_,I3.stack,I3.stkFree⟩,by rw[<-dW];rfl,by rw[<-dW];exact I3.bare,?_,⟨_,by rw[ff];exact hn4,λi x v e1 e2 e3=> ?_⟩,λx c e=> ?_,I3.hok.fresh (Vl _),λx c e=>I3.freeC x c (ay x c e),λp hp=>absurd (show p∈([]:List (Addr×Obj)) from hp) (by simp),?_,?_⟩
  ·have cZ:(relabel scope X.env).names.lookup x=some .cell\/(relabel scope X.env).names.lookup x=some .free:=hx;have hf:scope.names.lookup x=some .free:=by
    rcases cZ with z|z
    ·exact qbv ai (.inl rfl) z
    ·exact qbv ai (.inr rfl) z
   obtain⟨c,hc⟩:=iW (x,.free) (Vu hf) rfl;exact⟨c,qbx _ _ hc (.inr (Vu hf))⟩
  ·have:=(f3 b hb).1;exact Vn (Vm this (show s2.heap.objs.size<=s3.heap.objs.size by rw[ju];exact Nat.le_succ _))
  ·rcases(f3 b hb).2.2.2.2.1 with z|z
   ·exact I3.ok.noex b o e z
   ·exact absurd (Vm (Vi (I3.ok.bs b o e).1) z) (Nat.lt_irrefl _)
  ·rcases List.mem_cons.mp (I3.stkSub b z) with q|q
   ·exact(f3 b hb).2.2.1 q
   ·exact(f3 b hb).2.2.2.1 q
  ·exact Un.kept (by rw[ff];exact cj)
  ·
   have bK:own.length<=i:=by
    by_cases q:own.length<=i
    ·exact q
    ·exfalso;have a9:(own.map (λ_=>(none:Option V))++fr.map λp=>(σ[p.2]?).join)[i]? =some (some v):=e2;rw[List.getElem?_append_left (by simpa using q),List.getElem?_map] at a9;cases q2:own[i]? with
     |none|some z=>rw[q2] at a9;cases a9
   have a9:(own.map (λ_=>(none:Option V))++fr.map λp=>(σ[p.2]?).join)[i]? =some (some v):=e2;rw[List.getElem?_append_right (by simpa using bK),List.getElem?_map,List.length_map] at a9;have cR:(own++fr.map (·.1))[i]? =some x:=e1;rw[List.getElem?_append_right bK,List.getElem?_map] at cR;cases q2:fr[i - own.length]? with
   |none=>rw[q2] at a9;cases a9
   |some p=>
    rw[q2] at cR a9;obtain rfl:p.1=x:=Option.some.inj cR;have e4:(σ[p.2]?).join=some v:=Option.some.inj a9;have e5:σ[p.2]? =some (some v):=by
     cases q3:σ[p.2]? with
     |none=>rw[q3] at e4;cases e4
     |some z=>rw[q3] at e4;exact congrArg some e4
    obtain⟨g1,g2⟩:=aY p (Vt q2);have kx:=ag (p.1,.free) (Vu g2) rfl;obtain⟨mX,hnX,hlX⟩:=I3.loc;obtain⟨u,ru,lu⟩:=hlX p.2 p.1 v g1 e5 (kx.elim (λz=>.inr (.inl z)) λz=>.inr (.inr z));refine⟨u,ru,.inr ⟨qco g2,?_⟩⟩
    rcases lu with⟨z,_⟩|⟨_,c,e6,e7⟩
    ·rcases kx with kx|kx
     ·rw[kx] at z;cases z
     ·rw[kx] at z;cases z
    ·obtain⟨oc,fc,hd⟩:=e7;exact⟨c,qbx _ _ e6 (.inr (Vu g2)),oc,by rw[ff];exact cj _ _ fc,hd⟩
  ·obtain⟨v,oc,fc,hd⟩:=I3.cell x c (ay x c e);exact⟨v,oc,by rw[ff];exact cj _ _ fc,hd⟩
  ·exact I3.hok.kept (by rw[ff];exact cj)
  ·show(own.map (λ_=>(none:Option V))++fr.map λp=>(σ[p.2]?).join).length=(own++fr.map (·.1)).length;simp
 have fY: ∀{H':Hp},(∀b∈fp,H' b=none)->∀b∈fp,qgI ((qav X scope own fr fp s3 H3).wish (xe fp s3 H3)) [] H' b:=λ{H'} hn b hb=>
  ⟨hn b hb,(Y0.ok.exf b hb).1,Y0.ok.exfs b hb,.inl hb,(Y0.ok.exf b hb).2,λp hp=>absurd (show p∈([]:List (Addr×Obj)) from hp) (by simp)⟩
 have st4:tn 0 s4.heap:=T.keep _ _ _ st3 (by rw[ff];exactλb _ o e=>cj b o e);have jP:((qav X scope own fr fp s3 H3).wish (xe fp s3 H3)).calm=true:=hc;obtain⟨hg,ht,he⟩:=hb fp s3 H3;have loop:codeAny (model X.prog X.w) X.A (.compLoop (.ListComp elt [⟨tg,iter,ifs,0⟩] scope pos) 0 (.ref it) (.ref D) (compEnvC scope (clOf X.env scope.names []) s3.heap.objs.size X.env)) (R (.ref D) (compEnvC scope (clOf X.env scope.names []) s3.heap.objs.size X.env)) s4:=by
  refine qiH (Ex:=xe fp s3 H3) (λe s' q=>jg D fp s3 H3 e s' I3 (λb hb=>⟨Vm (f3 b hb).1 (by rw[ju];exact Nat.le_succ _),(f3 b hb).2⟩) q) (λn s'=> ∃i ae H',Inv ((qav X scope own fr fp s3 H3).wish (xe fp s3 H3)) [] ae H' s'/\tn i s'.heap/\(∀b∈fp,H' b=none)/\W i n ae H') ?_ m0 ⟨0,_,_,Y0,st4,λb hb=>(f3 b hb).2.1,w0⟩;rintro n s5 ⟨i,cT,H5,I5,eX,g9,w5⟩
  rcases turn i n cT H5 w5 with⟨stop,q⟩|⟨go,Ny,Nn,hNy,hNn,step⟩
  ·refine thn (T.done ((qav X scope own fr fp s3 H3).wish (xe fp s3 H3)) rfl rfl rfl jP i [] s5 cT H5 _ I5 (fY g9) eX stop) λr s6 f9=> ?_;obtain⟨hr,I6⟩:=f9;subst hr;have IX:Inv X Z σ H5 s6:=I3.call' (ch:=fp) I6.os I6.base I6.hok I6.bare λb hb=>⟨(f3 b hb).2.2.2.2.1,(f3 b hb).2.2.1,(f3 b hb).2.2.2.2.2.1,(f3 b hb).2.2.2.2.2.2⟩
   obtain⟨m6,hn6,_⟩:=I6.loc;exact fin D _ H5 s6 m6 IX (I3.fpOk (Vl _) I6.free) hn6 q
  ·refine thn (T.item ((qav X scope own fr fp s3 H3).wish (xe fp s3 H3)) rfl rfl rfl jP i [] s5 cT H5 _ I5 (fY g9) eX go) λr s6 fZ=> ?_;obtain⟨u,hr,h6⟩:=fZ;subst hr;refine thn h6 λ_ s7 fX=> ?_;obtain⟨x,H7,I7,r7,y7,ib,fr7⟩:=fX;have I7':=I7.pinned (fY fr7) (T.obj _ _ ib);refine thn (hg _ s7 cT H7 x u _ I7' r7 (step x H7 y7)) λ_ s8 fW=> ?_;obtain⟨bW,H8,I8,q8⟩:=fW;refine thn (ht _ s8 bW H8 _ I8 q8) λb s9 fV=> ?_;obtain⟨H9,I9,q9⟩:=fV;have again: ∀{s':Shared}{H':Hp}{m':Nat},Inv ((qav X scope own fr fp s3 H3).wish (xe fp s3 H3)) ([]++qeW fp s7.heap) bW H' s'->m'<n->W (i+1) m' bW H'->∃m,m<n/\∃i ae H',Inv ((qav X scope own fr fp s3 H3).wish (xe fp s3 H3)) [] ae H' s'/\tn i s'.heap/\(∀b∈fp,H' b=none)/\W i m ae H':=λ{s' H' m'} I' hm w'=>by refine⟨m',hm,i+1,bW,H',I'.unpinned,T.keep _ _ _ ib λb hb o e=>(I'.pin (b,o) (Vs _ (Vs _ (qbF hb e)))).1,λb hb=> ?_,w'⟩;obtain⟨o,e,d⟩:=T.obj _ _ ib b hb;exact(I'.pin (b,o) (Vs _ (Vs _ (qbF hb e)))).2.1
   cases b with
   |false=>obtain⟨m',hm,w'⟩: ∃m',m'<n/\W (i+1) m' bW H9:=hNn bW H9 (by simpa using q9);show ∃m,_;exact again I9 hm w'
   |true=>
    have q9':te bW H9 (Ny bW):=by simpa using q9
    show wpAny _ _ _ _ _ _;refine thn (he _ s9 bW H9 _ I9 q9') λxv aX fU=> ?_;obtain⟨y,kE,I10,r10,q10⟩:=fU;obtain⟨ys,hys,hlen,m',hm,w'⟩:=hNy bW y kE q10;refine thn (qe2 _ aX bW kE (.ref D) [y] (.ref D) [xv] (λ_ H'=> ∃m',m'<n/\W (i+1) m' bW H') I10 rfl (.cons r10 .nil) ⟨D,ys,y,rfl,rfl,hys,hlen,m',hm,w'⟩) λ_ aH fS=> ?_;obtain⟨_,H11,I11,_,m2,cH,w2⟩:=fS;exact again I11 cH w2
 refine codeAny_compStart_list ?_ ?_
 ·exact loop
 ·exact T.self X.A 0 s4 _ _ st4 loop
theorem comp_core{X:Cx}{elt:Expr}{tg:Expr}{iter:Expr}{ifs:List Expr}{scope:Scope}{pos:Pos}{il:Pos}{fr:List (Str×Nat)}{wi:TI}{g:TG}{tt:TT}{te:TE}{use:Option (Value->Sem Unit)}{Qf:Value->Shared->Prop}{Z:List (Addr×Obj)}{σ:St}{H:Hp}{s:Shared}{Q:Addr->Hp->Prop}(hc:X.calm=true)(hi:PI X tg iter wi)(hk:scope.kind= .function)(ai: ∀y∈scope.names,y.2≠.cell)(ax: ∀y∈scope.names,y.2= .local->scope.names.lookup y.1=some .local)(ag: ∀y∈scope.names,y.2= .free->X.env.kindOf y.1=some .cell\/X.env.kindOf y.1=some .free)(aY: ∀p∈fr,X.N[p.2]? =some p.1/\scope.names.lookup p.1=some .free)(hb: ∀(fp:List Addr)(s3:Shared)(H3:Hp),PG (qav X scope own fr fp s3 H3) tg g/\qiL (qav X scope own fr fp s3 H3) ifs tt/\PE (qav X scope own fr fp s3 H3) elt te)(hs: ∀x,foldedSetIterable iter X.env x=pure x)(I:Inv X Z σ H s)(h:qeH wi g tt te own fr σ H Q)(fin: ∀(D C:Addr)(H':Hp)(s':Shared)(m:Str->Option Value),Inv X Z σ H' s'->qgI X Z H' C->s'.heap.Ns C m->Q D H'->compPost (model X.prog X.w) X.A X.xe use Qf (.ref D) C (.ok .next) s'):
  wpAny (model X.prog X.w) X.A (comprehension (.ListComp elt [⟨tg,iter,ifs,0⟩] scope pos) scope X.env il (newList []) false (eval iter X.env) use) Qf X.xe s:=
 wpAny_comprehension_free rfl hs (qdN λx hx e=>I.ok.has x.1 (ag x hx e)) hk ax
  (qmY (R:=λacc ce=>compPost _ X.A _ use Qf acc ce.locals) hc hi hk ai ag aY hb I h (λD ce=>fin D _) λ_ _ _ _ _ _ _ _ z=>z.elim)
theorem qo0(hc:X.calm=true)(hi:PI X tg iter wi)(hk:scope.kind= .function)(ai: ∀y∈scope.names,y.2≠.cell)(ax: ∀y∈scope.names,y.2= .local->scope.names.lookup y.1=some .local)(ag: ∀y∈scope.names,y.2= .free->X.env.kindOf y.1=some .cell\/X.env.kindOf y.1=some .free)(aY: ∀p∈fr,X.N[p.2]? =some p.1/\scope.names.lookup p.1=some .free)(hb: ∀(fp:List Addr)(s3:Shared)(H3:Hp),PG (qav X scope own fr fp s3 H3) tg g/\qiL (qav X scope own fr fp s3 H3) ifs tt/\PE (qav X scope own fr fp s3 H3) elt te)(hs: ∀x,foldedSetIterable iter X.env x=pure x:=by intro _; rfl):
  PE X (.ListComp elt [⟨tg,iter,ifs,0⟩] scope pos) (λσ H Q=>qeH wi g tt te own fr σ H λD H'=>Q (.ref D) H'):=by intro Z s σ H Q I h;refine comp_core hc hi hk ai ax ag aY hb hs I h λD C H' s' m I' f' hn q=> ?_;obtain⟨f0,f1,f2,f3,f4,f5⟩:=f';exact⟨m,hn,λh' fP=>⟨.ref D,H',I'.turned (λb o hb e=>(fP.2 b hb).trans e) f0 f1 f3 f4 f5,rfl,q⟩⟩
theorem ps_setcomp{y:Str}(hc:X.calm=true)(hi:PI X tg iter wi)(hk:scope.kind= .function)(ai: ∀y∈scope.names,y.2≠.cell)(ax: ∀y∈scope.names,y.2= .local->scope.names.lookup y.1=some .local)(ag: ∀y∈scope.names,y.2= .free->X.env.kindOf y.1=some .cell\/X.env.kindOf y.1=some .free)(aY: ∀p∈fr,X.N[p.2]? =some p.1/\scope.names.lookup p.1=some .free)(hb: ∀(fp:List Addr)(s3:Shared)(H3:Hp),PG (qav X scope own fr fp s3 H3) tg g/\qiL (qav X scope own fr fp s3 H3) ifs tt/\PE (qav X scope own fr fp s3 H3) elt te)(hN:X.N.Nodup)(iQ:X.N[i]? =some y)(hy:X.env.scope.names.lookup y=some .local)(bQ:swapsWith (.ListComp elt [⟨tg,iter,ifs,0⟩] scope pos) (some (.Name y py)) spos.line X.env=pure true)(hs: ∀x,foldedSetIterable iter X.env x=pure x:=by intro _; rfl):
  PS X (.Assign [.Name y py] (.ListComp elt [⟨tg,iter,ifs,0⟩] scope pos) spos) (λD σ H=>qeH wi g tt te own fr σ H λd H'=>D.nx (σ.set i (some (.ref d))) H'):=by
 intro Z s σ H D I h;rw[exec_Assign_Name_used _ _ _ _ bQ];refine Va (wpAny_standAt (Va ?_));refine Va (thn (comp_core (use:=some (assign (.Name y py) X.env)) (Qf:=λ_ s'=>SP X Z D .next s') hc hi hk ai ax ag aY hb hs I h λd C H' s' m I' f' hn q=> ?_) λ_ s' hq=>Vb (Vb hq));obtain⟨f0,f1,f2,f3,f4,f5⟩:=id f';show wpAny _ _ (assign (.Name y py) X.env (.ref d)) _ _ s';refine wpAny_assign_Name (qeI I' hN iQ (.inl hy) (v:=.ref d) rfl (λs'' I'' ⟨a,sb,ha⟩=> ?_) (.inr hy));have d9:C≠a:=by
  rcases ha with rfl|ha
  ·exact f1
  ·exactλz=>f4 y a ha z.symm
 refine⟨m,hn.sameBut sb d9,λh' fP=>⟨_,H',I''.turned (t':=s''.toks) (λb o hb e=>(fP.2 b hb).trans e) f0 f1 f3 f4 f5,q⟩⟩
end
end L2
namespace St
open PySem.W PyProof.Rows
noncomputable def qdI{α:Type}(N:Nat)(ask:Nat->Nat->Bool):KasT α->(α->Prop)->Prop
 |.ret a,Q=>Q a
 |.ask i j k,Q=>i<N/\j<N/\qdI N ask (k (ask i j)) Q
theorem qbd{α β:Type}{N:Nat}{ask:Nat->Nat->Bool}{f:α->KasT β}{Q:β->Prop}: ∀{t:KasT α},qdI N ask t (λa=>qdI N ask (f a) Q)->qdI N ask (t.bind f) Q
 |.ret _,h=>h
 |.ask _ _ _,⟨h1,h2,h⟩=>⟨h1,h2,qbd h⟩
theorem qaN{α:Type}{N:Nat}{ask:Nat->Nat->Bool}{Q Q':α->Prop}(hq: ∀a,Q a->Q' a): ∀{t:KasT α},qdI N ask t Q->qdI N ask t Q'
 |.ret _,h=>hq _ h
 |.ask _ _ _,⟨h1,h2,h⟩=>⟨h1,h2,qaN hq h⟩
noncomputable def g(p:Array Nat)(i:Nat):Nat:=p.getD i 0
theorem qsZ(h:p[i]? =q[j]?):g p i=g q j:=by
 unfold g
 simp_all
theorem qmw(hj:j<=p.size)(t:Nat):g (kas_rev p i j) t=if i<=t/\t<j then g p (i+j - 1 - t) else g p t:=by
 have e:=getElem?_mirror_all (i:=i) hj t;by_cases h1:i<=t/\t<j
 ·rw[if_pos h1] at e⊢;exact qsZ e
 ·rw[if_neg h1] at e⊢;exact qsZ e
theorem qv7(hk:k<p.size)(hl:l<=k)(t:Nat):g (bubble p k (k - l)) t=if t=l then g p k else if l<t/\t<=k then g p (t - 1) else g p t:=by
 have e:=getElem?_bubble hk (k - l) (Nat.sub_le _ _) t;rw[show k - (k - l)=l by lia] at e;by_cases h1:t=l
 ·rw[if_pos h1] at e⊢;exact qsZ e
 ·rw[if_neg h1] at e⊢;by_cases h2:l<t/\t<=k
  ·rw[if_pos h2] at e⊢;exact qsZ e
  ·rw[if_neg h2] at e⊢;exact qsZ e
theorem qd4(p:Array Nat)(i j:Nat):(kas_rev p i j).size=p.size:=mirror_size _ _ _ _
section
variable(N:Nat)(k:Nat->Int)
noncomputable def L(a b:Nat):Prop:=k a<k b\/(k a=k b/\a<b)
structure Pre(n:Nat)(p:Array Nat):Prop where
 sz:p.size=N
 lo: ∀i,i<n->g p i<n
 hi: ∀i,n<=i->i<N->g p i=i
noncomputable def Srt(p:Array Nat)(n:Nat):Prop:= ∀i j,i<j->j<n->L k (g p i) (g p j)
noncomputable def Dsc(p:Array Nat)(n:Nat):Prop:= ∀i j,i<j->j<n->L k (g p j) (g p i)
structure qqQ(p:Array Nat)(n q:Nat):Prop where
 pre:Pre N n p
 q1:q+1<=n
 a: ∀i j,i<j->j<n - (q+1)->L k (g p j) (g p i)
 b: ∀i j,i<n - (q+1)->n - (q+1)<=j->j<n->k (g p j)<k (g p i)
 c: ∀i j,n - (q+1)<=i->i<j->j<n->k (g p i)=k (g p j)/\g p i<g p j
noncomputable def asks:Nat->Nat->Bool:=λi j=>decide (k i<k j)
end
section
theorem Pre.lt(h:Pre N n p)(hn:n<=N)(hi:i<N):g p i<N:=by
 by_cases q:i<n
 ·exact Vm (h.lo i q) hn
 ·rw[h.hi i (by lia) hi];exact hi
theorem L.le(h:L k a b):k a<=k b:=by
 rcases h with h|h
 ·lia
 ·lia
theorem Pre.more(h:Pre N n p)(hn:n<N):Pre N (n+1) p:=
 ⟨h.sz,λi hi=>by
  by_cases q:i<n
  ·exact Nat.lt_succ_of_lt (h.lo i q)
  ·have e:i=n:=by lia
   subst e;rw[h.hi i (Nat.le_refl _) hn];lia,λi h1 h2=>h.hi i (by lia) h2⟩
theorem qk6{N:Nat}{k:Nat->Int}{p:Array Nat}: ∀(f n:Nat),1<=n->n+f<=N->Pre N n p->Srt k p n->
  qdI N (asks k) (kas_asc p f n) λm=>n<=m/\m<=n+f/\Pre N m p/\Srt k p m/\(m=n+f\/k (g p m)<k (g p (m - 1)))
 |0,n,h1,hf,hp,hs=>⟨Vl _,Vl _,hp,hs,.inl rfl⟩
 |f+1,n,h1,hf,hp,hs=>by
  refine⟨hp.lt (by lia) (by lia),hp.lt (by lia) (by lia),?_⟩;show qdI N (asks k) (if asks k (g p n) (g p (n - 1))=true then .ret n else kas_asc p f (n+1)) _;by_cases hc:k (g p n)<k (g p (n - 1))
  ·rw[if_pos (by simpa [asks] using hc)];exact⟨Vl _,by lia,hp,hs,.inr hc⟩
  ·rw[if_neg (by simpa [asks] using hc)];have fP:Srt k p (n+1):=λi j aW hj=>by
    by_cases q:j<n
    ·exact hs i j aW q
    ·have e:j=n:=by lia
     subst e;have en:=hp.hi j (Vl _) (by lia);have lt:=hp.lo i aW;have le:k (g p i)<=k (g p (j - 1)):=by
      by_cases q2:i=j - 1
      ·rw[q2];exact Int.le_refl _
      ·exact(hs i (j - 1) (by lia) (by lia)).le
     unfold L;rw[en] at hc⊢;lia
   refine qaN (λm h=> ?_) (qk6 f (n+1) (by lia) (by lia) (hp.more (by lia)) fP);obtain⟨a,b,c,d,e⟩:=h;exact⟨by lia,by lia,c,d,e.elim (λz=>.inl (by lia)) .inr⟩
noncomputable def fin(p:Array Nat)(n q:Nat):Array Nat:=if q>0 then kas_rev p (n - (q+1)) n else p
theorem qqQ.fin(h:qqQ N k p n q)(hn:n<=N):Pre N n (fin p n q)/\Dsc k (fin p n q) n:=by
 unfold St.fin;by_cases hq:q>0
 ·rw[if_pos hq];have gr:=qmw (p:=p) (i:=n - (q+1)) (j:=n) (by rw[h.pre.sz];exact hn);refine⟨⟨by rw[qd4];exact h.pre.sz,λi hi=> ?_,λi h1 h2=> ?_⟩,λi j aW hj=> ?_⟩
  ·rw[gr];split
   ·exact h.pre.lo _ (by lia)
   ·exact h.pre.lo _ hi
  ·rw[gr,if_neg (by lia)];exact h.pre.hi i h1 h2
  ·rw[gr,gr];have jJ:=h.q1;by_cases q1:n - (q+1)<=j
   ·rw[if_pos (show n - (q+1)<=j/\j<n from⟨q1,hj⟩)];by_cases q2:n - (q+1)<=i
    ·rw[if_pos (show n - (q+1)<=i/\i<n from⟨q2,by lia⟩)];have e:=h.c (n - (q+1)+n - 1 - j) (n - (q+1)+n - 1 - i) (by lia) (by lia) (by lia);exact .inr e
    ·rw[if_neg (by lia)];exact .inl (h.b i _ (by lia) (by lia) (by lia))
   ·rw[if_neg (by lia),if_neg (by lia)];exact h.a i j aW (by lia)
 ·rw[if_neg hq];have e:q=0:=by lia
  subst e;refine⟨h.pre,λi j aW hj=> ?_⟩;have jJ:=h.q1;by_cases q1:j<n - (0+1)
  ·exact h.a i j aW q1
  ·exact .inl (h.b i j (by lia) (by lia) hj)
theorem qgm{N:Nat}{k:Nat->Int}: ∀(f:Nat)(p:Array Nat)(n q:Nat),n+f<=N->qqQ N k p n q->
  qdI N (asks k) (kas_desc f p n q) λr=>n<=r.2.1/\r.2.1<=n+f/\qqQ N k r.1 r.2.1 r.2.2
 |0,p,n,q,hf,h=>⟨Vl _,Vl _,h⟩
 |f+1,p,n,q,hf,h=>by
  have jJ:=h.q1;have lt: ∀{i},i<N->g p i<N:=λhi=>h.pre.lt (by lia) hi;refine⟨lt (by lia),lt (by lia),?_⟩;have en:=h.pre.hi n (Vl _) (by lia)
  show qdI N (asks k) (if asks k (g p n) (g p (n - 1))=true then(if q>0 then kas_desc f (kas_rev p (n - (q+1)) n) (n+1) 0 else kas_desc f p (n+1) 0)
   else .ask (g p (n - 1)) (g p n) λd=>if d=true then .ret (p,n,q) else kas_desc f p (n+1) (q+1)) _
  have kle: ∀i,i<n->k (g p (n - 1))<=k (g p i):=λi hi=>by
   by_cases q1:i<n - (q+1)
   ·exact Int.le_of_lt (h.b i (n - 1) q1 (by lia) (by lia))
   ·by_cases q2:i=n - 1
    ·rw[q2];exact Int.le_refl _
    ·exact Int.le_of_eq (h.c i (n - 1) (by lia) (by lia) (by lia)).1.symm
  by_cases hc:k (g p n)<k (g p (n - 1))
  ·rw[if_pos (by simpa [asks] using hc)];have key:qqQ N k (fin p n q) (n+1) 0:=by
    obtain⟨fp,fd⟩:=h.fin (by lia);have e2:=fp.hi n (Vl _) (by lia);refine⟨fp.more (by lia),by lia,λi j aW hj=>fd i j aW (by lia),λi j hi h1 h2=> ?_,λi j h1 h2 h3=>by lia⟩;have ej:j=n:=by lia
    subst ej;rw[e2];rw[en] at hc;refine Int.lt_of_lt_of_le hc ?_;have: ∃i',i'<j/\g (fin p j q) i=g p i':=by
     unfold St.fin;by_cases hq:q>0
     ·rw[if_pos hq,qmw (by rw[h.pre.sz];lia)];split
      ·exact⟨_,by lia,rfl⟩
      ·exact⟨i,by lia,rfl⟩
     ·rw[if_neg hq];exact⟨i,by lia,rfl⟩
    obtain⟨i',bK,e3⟩:=this;rw[e3];exact kle i' bK
   have e:(if q>0 then kas_desc f (kas_rev p (n - (q+1)) n) (n+1) 0 else kas_desc f p (n+1) 0)=kas_desc f (fin p n q) (n+1) 0:=by
    unfold St.fin
    split<;>rfl
   rw[e];refine qaN (λr hr=>⟨by lia,by lia,hr.2.2⟩) (qgm f (fin p n q) (n+1) 0 (by lia) key)
  ·rw[if_neg (by simpa [asks] using hc)];refine⟨lt (by lia),lt (by lia),?_⟩;show qdI N (asks k) (if asks k (g p (n - 1)) (g p n)=true then .ret (p,n,q) else kas_desc f p (n+1) (q+1)) _;by_cases hd:k (g p (n - 1))<k (g p n)
   ·rw[if_pos (by simpa [asks] using hd)];exact⟨Vl _,Nat.le_add_right _ _,h⟩
   ·rw[if_neg (by simpa [asks] using hd)];have ek:k (g p n)=k (g p (n - 1)):=by lia
    have key:qqQ N k p (n+1) (q+1):=by
     refine⟨h.pre.more (by lia),by lia,λi j aW hj=>h.a i j aW (by lia),λi j hi h1 h2=> ?_,λi j h1 h2 h3=> ?_⟩
     ·by_cases e:j=n
      ·subst e;rw[ek];exact h.b i (j - 1) (by lia) (by lia) (by lia)
      ·exact h.b i j (by lia) (by lia) (by lia)
     ·by_cases e:j=n
      ·subst e;refine⟨?_,?_⟩
       ·rw[ek];by_cases e2:i=j - 1
        ·rw[e2]
        ·exact(h.c i (j - 1) (by lia) (by lia) (by lia)).1
       ·rw[en];exact h.pre.lo i h2
      ·exact h.c i j (by lia) h2 (by lia)
    exact qaN (λr hr=>⟨by lia,by lia,hr.2.2⟩) (qgm f p (n+1) (q+1) (by lia) key)
noncomputable def Out(N:Nat)(k:Nat->Int)(r:Nat×Array Nat):Prop:=1<=r.1/\r.1<=N/\Pre N r.1 r.2/\Srt k r.2 r.1
theorem qoo{N:Nat}{k:Nat->Int}{p:Array Nat}{n:Nat}(h1:1<=n)(hn:n<=N)(hp:Pre N n p)(hd:Dsc k p n):qdI N (asks k) (kas_tail3 n N p) (Out N k):=by
 have gr:=qmw (p:=p) (i:=0) (j:=n) (by rw[hp.sz];exact hn);refine qbd (qaN (λm h=> ?_) (qk6 (p:=kas_rev p 0 n) (N - n) n h1 (by lia) ⟨by rw[qd4];exact hp.sz,λi hi=> ?_,λi h2 h3=> ?_⟩ λi j aW hj=> ?_))
 ·exact⟨by lia,by lia,h.2.2.1,h.2.2.2.1⟩
 ·rw[gr,if_pos ⟨Nat.zero_le _,hi⟩];exact hp.lo _ (by lia)
 ·rw[gr,if_neg (by lia)];exact hp.hi i h2 h3
 ·rw[gr,gr,if_pos ⟨Nat.zero_le _,by lia⟩,if_pos ⟨Nat.zero_le _,hj⟩];exact hd _ _ (by lia) (by lia)
theorem qdb{N:Nat}{k:Nat->Int}{p:Array Nat}{n:Nat}(hn:n+1<=N)(h:qqQ N k p (n+1) 0):qdI N (asks k) (kas_descPart n N p) (Out N k):=by
 refine qbd (qaN (λr hr=> ?_) (qgm (N - (n+1)) p (n+1) 0 (by lia) h));obtain⟨h1,h2,h3⟩:=hr;obtain⟨f1,f2⟩:=h3.fin (by lia);have e:(if r.2.2>0 then kas_tail3 r.2.1 N (kas_rev r.1 (r.2.1 - (r.2.2+1)) r.2.1) else kas_tail3 r.2.1 N r.1)=kas_tail3 r.2.1 N (fin r.1 r.2.1 r.2.2):=by
  unfold St.fin
  split<;>rfl
 rw[e];exact qoo (by lia) (by lia) f1 f2
theorem qmX{N:Nat}{k:Nat->Int}{p:Array Nat}(hN:1<=N)(hp:Pre N 1 p):qdI N (asks k) (kas_count N p) (Out N k):=by
 refine qbd (qaN (λn h=> ?_) (qk6 (p:=p) (N - 1) 1 (Vl _) (by lia) hp λi j h1 h2=>by lia));obtain⟨h1,h2,h3,h4,h5⟩:=h;by_cases e:n=N
 ·rw[if_pos (by simpa using e)];exact⟨h1,by lia,h3,h4⟩
 ·rw[if_neg (by simpa using e)];have bJ:k (g p n)<k (g p (n - 1)):=h5.resolve_left (by lia);by_cases hg:n>1
  ·rw[if_pos hg];refine⟨h3.lt (by lia) (by lia),h3.lt (by lia) (by lia),?_⟩;show qdI N (asks k) (if asks k (g p 0) (g p (n - 1))=true then .ret (n,p) else kas_descPart n N (kas_rev p 0 n)) _;by_cases hc:k (g p 0)<k (g p (n - 1))
   ·rw[if_pos (by simpa [asks] using hc)];exact⟨h1,by lia,h3,h4⟩
   ·rw[if_neg (by simpa [asks] using hc)];have gr:=qmw (p:=p) (i:=0) (j:=n) (by rw[h3.sz];lia);have iA: ∀i,i<n->k (g p i)=k (g p (n - 1)):=λi hi=>by
     have a1:k (g p 0)<=k (g p i):=by
      by_cases q:i=0
      ·rw[q];exact Int.le_refl _
      ·exact(h4 0 i (by lia) hi).le
     have a2:k (g p i)<=k (g p (n - 1)):=by
      by_cases q:i=n - 1
      ·rw[q];exact Int.le_refl _
      ·exact(h4 i (n - 1) (by lia) (by lia)).le
     lia
    refine qdb (by lia) ⟨Pre.more ⟨by rw[qd4];exact h3.sz,λi hi=> ?_,λi q1 q2=> ?_⟩ (by lia),by lia,λi j aW hj=> ?_,λi j hi q1 q2=> ?_,λi j q1 q2 q3=>by lia⟩
    ·rw[gr,if_pos ⟨Nat.zero_le _,hi⟩];exact h3.lo _ (by lia)
    ·rw[gr,if_neg (by lia)];exact h3.hi i q1 q2
    ·rw[gr,gr,if_pos ⟨Nat.zero_le _,by lia⟩,if_pos ⟨Nat.zero_le _,by lia⟩];exact h4 _ _ (by lia) (by lia)
    ·have ej:j=n:=by lia
     subst ej;have bK:i<j:=by simpa using hi
     have e1:g (kas_rev p 0 j) j=g p j:=by rw[gr,if_neg (by lia)]
     have e2:g (kas_rev p 0 j) i=g p (0+j - 1 - i):=by rw[gr,if_pos ⟨Nat.zero_le _,bK⟩]
     rw[e1,e2,iA (0+j - 1 - i) (by lia)];exact bJ
  ·rw[if_neg hg];have e1:n=1:=by lia
   subst e1;refine qdb (by lia) ⟨h3.more (by lia),by lia,λi j aW hj=>by lia,λi j hi q1 q2=> ?_,λi j q1 q2 q3=>by lia⟩;have ei:i=0:=by lia
   have ej:j=1:=by lia
   subst ei ej;exact bJ
theorem qd7(hn:n<N)(hp:Pre N n p)(hs:Srt k p n): ∀(f l r:Nat),l<=r->r<=n->r - l<=f->(∀i,i<l->k (g p i)<=k (g p n))->(∀i,r<=i->i<n->k (g p n)<k (g p i))->
  qdI N (asks k) (kas_place p n f l r) λm=>m<=n/\(∀i,i<m->k (g p i)<=k (g p n))/\∀i,m<=i->i<n->k (g p n)<k (g p i)
 |0,l,r,h1,h2,h3,hl,hr=>⟨by lia,hl,λi q1 q2=>hr i (by lia) q2⟩
 |f+1,l,r,h1,h2,h3,hl,hr=>by
  unfold kas_place;by_cases eI:l≥r
  ·rw[if_pos eI];exact⟨by lia,hl,λi q1 q2=>hr i (by lia) q2⟩
  ·rw[if_neg eI];refine⟨hp.lt (by lia) hn,hp.lt (by lia) (by lia),?_⟩;show qdI N (asks k) (if asks k (g p n) (g p ((l+r) / 2))=true then kas_place p n f l ((l+r) / 2) else kas_place p n f ((l+r) / 2+1) r) _;have srt: ∀i j,i<=j->j<n->k (g p i)<=k (g p j):=λi j aW hj=>by
    by_cases q:i=j
    ·rw[q];exact Int.le_refl _
    ·exact(hs i j (by lia) hj).le
   by_cases hc:k (g p n)<k (g p ((l+r) / 2))
   ·rw[if_pos (by simpa [asks] using hc)];exact qd7 hn hp hs f l _ (by lia) (by lia) (by lia) hl λi q1 q2=>Int.lt_of_lt_of_le hc (srt _ _ q1 q2)
   ·rw[if_neg (by simpa [asks] using hc)];refine qd7 hn hp hs f _ r (by lia) (by lia) (by lia) (λi q1=> ?_) hr;have:=srt i ((l+r) / 2) (by lia) (by lia);lia
theorem bin_ok{N:Nat}{k:Nat->Int}: ∀(f:Nat)(p:Array Nat)(n:Nat),n+f=N->Pre N n p->Srt k p n->qdI N (asks k) (kas_bin f p n) λp'=>Pre N N p'/\Srt k p' N
 |0,p,n,hf,hp,hs=>by
  have e:n=N:=by lia
  subst e;exact⟨hp,hs⟩
 |f+1,p,n,hf,hp,hs=>by
  refine qbd (qaN (λl h=> ?_) (qd7 (by lia) hp hs n 0 n (by lia) (Vl _) (by lia) (λi q=>by lia) λi q1 q2=>by lia));obtain⟨h1,h2,h3⟩:=h;have gb:=qv7 (p:=p) (k:=n) (l:=l) (by rw[hp.sz];lia) h1;have en:=hp.hi n (Vl _) (by lia);refine bin_ok f _ (n+1) (by lia) ⟨by rw[bubble_size];exact hp.sz,λi hi=> ?_,λi q1 q2=> ?_⟩ λi j aW hj=> ?_
  ·rw[gb];split
   ·rw[en];lia
   ·split
    ·exact Nat.lt_succ_of_lt (hp.lo _ (by lia))
    ·exact Nat.lt_succ_of_lt (hp.lo _ (by lia))
  ·rw[gb,if_neg (by lia),if_neg (by lia)];exact hp.hi i (by lia) q2
  ·rw[gb,gb];by_cases c1:j=l
   ·rw[if_pos c1,if_neg (by lia),if_neg (by lia)];have a1:=h2 i (by lia);have a2:=hp.lo i (by lia);unfold L;rw[en] at a1⊢;lia
   ·rw[if_neg c1];by_cases c2:l<j/\j<=n
    ·rw[if_pos c2];by_cases c3:i=l
     ·rw[if_pos c3];exact .inl (h3 _ (by lia) (by lia))
     ·rw[if_neg c3];by_cases c4:l<i/\i<=n
      ·rw[if_pos c4];exact hs _ _ (by lia) (by lia)
      ·rw[if_neg c4];exact hs _ _ (by lia) (by lia)
    ·rw[if_neg c2,if_neg (by lia),if_neg (by lia)];exact hs _ _ aW (by lia)
theorem qox{N:Nat}{k:Nat->Int}(hN:1<=N):qdI N (asks k) (kas_sort N) λp=>Pre N N p/\Srt k p N:=by
 have gr: ∀i,i<N->g (List.toArray (List.range N)) i=i:=λi hi=>by
  unfold g
  simp_all
 refine qbd (qaN (λr h=> ?_) (qmX hN ⟨by simp,λi hi=> ?_,λi h1 h2=>gr i h2⟩))
 ·obtain⟨h1,h2,h3,h4⟩:=h;by_cases c:r.1<N
  ·rw[if_pos c,show max r.1 1=r.1 by lia];exact bin_ok _ _ _ (by lia) h3 h4
  ·rw[if_neg c];have e:r.1=N:=by lia
   rw[e] at h3 h4;exact⟨h3,h4⟩
 ·rw[gr i (by lia)];exact hi
end
open PySem PySem.Calls
theorem qj9{α:Type}{N:Nat}{ask:Nat->Nat->Bool}{cmp:Nat->Nat->(Bool->Shared->Prop)->Shared->Prop}{Q:α->Shared->Prop}{Q':α->Prop}{s:Shared}(hc: ∀i j (C:Bool->Shared->Prop),i<N->j<N->C (ask i j) s->cmp i j C s)(hq: ∀a,Q' a->Q a s): ∀{t:KasT α},qdI N ask t Q'->t.kasWp cmp Q s
 |.ret a,h=>hq a h
 |.ask i j k,⟨h1,h2,h⟩=>hc i j _ h1 h2 (qj9 hc hq h)
noncomputable def qdj(kz:List Int)(n:Nat)(p:Array Nat):Prop:=Pre n n p/\Srt (λi=>kz.getD i 0) p n
abbrev Kp(h h':Heap):Prop:= ∀b o,h.get? b=some o->h'.get? b=some o
section
theorem qmu{h:Heap}(x:h.objs.size<=a):h.get? a=none:=Heap.get?_none_of_le x
end
end St
namespace L2
open PySem PySem.Spec PyProof.Rows
theorem Inv.grow(I:Inv X Z σ H s)(hP:H P=some (.tbl ps))(hx:Heap.ExtBut P s.heap h')(jV:h'.get? P=some (W.tabObj (ps++more)))(hc:s.heap.objs.size<=c')(hφ:qaG X.prog X.w (upd (upd H P (.tbl (ps++more))) c' (.ext φ)) h' c' (.ext φ)):
  Inv X Z σ (upd (upd H P (.tbl (ps++more))) c' (.ext φ)) { s with heap:=h',toks:=t' }:=by
 have nc: ∀b o,s.heap.get? b=some o->b≠c':=λb o e=>Vn (Vm (Vi e) hc);have fb: ∀b u,H b=some u->b≠c':=λb u e z=>by rw[z,I.hok.fresh hc] at e;cases e
 have nP: ∀b,H b=none->b≠P:=λb e z=>by rw[z,hP] at e;cases e
 have hPl:=(I.hok P _ hP).lt;have cP:P≠c':=fb P _ hP
 refine I.step (g':=s.gens) (d':=s.drawn) (ch:=[]) (λ_ z=>nomatch z) (λb o _ _ _ e n=>hx b o (nP b n) e) (λb o _ _ _ e n=>⟨o.slots,hx b o (nP b n) e⟩) (λb o _ e n=>by rw[qac (nc b o e),qac (nP b n)];exact n)
  (λb o _ e=> ?_) (λb xs e=> ?_) (λb o u e=> ?_) (λb qs e=> ?_) (λm hm=> ?_) (λb u e=> ?_) I.bare
 ·by_cases z:b=P
  ·exact⟨_,by rw[z];exact jV⟩
  ·exact⟨o,hx b o z e⟩
 ·rw[qac (fb b _ e),qac (λz=>by rw[z,hP] at e;cases e)];exact e
 ·rw[qac (fb b _ e),qac (λz=>by rw[z,hP] at e;cases e)];exact e
 ·by_cases z:b=P
  ·subst z;rw[hP] at e;cases e;exact⟨more,by rw[qac cP,qae]⟩
  ·exact⟨#[],by rw[qac (fb b _ e),qac z,e];simp⟩
 ·exact hm.extBut hx (nP _ I.free)
 ·by_cases z:b=c'
  ·subst z;rw[qae] at e;cases e;exact hφ
  ·rw[qac z] at e;by_cases z2:b=P
   ·subst z2;rw[qae] at e;cases e;exact jV
   ·rw[qac z2] at e;refine(I.hok b u e).stay (λc v b7 q=>hx c v ?_ q) (λc q=> ?_) λc xs q=> ?_
    ·grind
    ·rw[qac (fb c _ q),qac (λz3=>by rw[z3,hP] at q;cases q)];exact q
    ·rw[qac (fb c _ q),qac (λz3=>by rw[z3,hP] at q;cases q)];exact q
noncomputable def qdq(c:Addr)(qual:Str):HO:=.ext λh=>h.CodeRec (.ref c) qual
theorem qcm(ha:a= .int la ta)(hb:b= .int lb tb): ∀(l:List Value),PySem.TriplesOk l->PySem.TriplesOk (l++[a,b,c])
 |[],_=>by subst ha hb;exact trivial
 |[_],h=>by cases ‹Value› <;>exact h.elim
 |[x,y],h=>by cases x<;>first|exact h.elim|(cases y<;>exact h.elim)
 |x::y::z::r,h=>by
  cases x<;>first|exact h.elim|skip
  cases y<;>first|exact h.elim|skip
  exact qcm ha hb r h
theorem qgs{qual:Str}{h h':Heap}(x:h.CodeRec (.ref c) qual)(k: ∀o,h.get? c=some o->h'.get? c=some o):h'.CodeRec (.ref c) qual:=by obtain⟨c2,oc,vs,tq,e,ho,hd,hq⟩:=x;cases e;exact⟨c,oc,vs,tq,rfl,k _ ho,hd,hq⟩
noncomputable def qfL(P:Addr)(H H':Hp):Prop:= ∀b o,H b=some o->b≠P->H' b=some o
theorem qeE(r:qau xs us)(j:Nat):RelV (xs.getD j .non) (us.getD j .none):=by
 induction r generalizing j with
 |nil=>exact rfl
 |cons a t ih=>
  cases j with
  |zero=>exact a
  |succ j=>simpa using ih j
theorem vals_pick(r:qau xs us): ∀l:List Nat,qau (l.map λj=>xs.getD j .non) (l.map λj=>us.getD j .none)
 |[]=>.nil
 |j::l=>.cons (qeE r j) (vals_pick r l)
section
theorem ql4:OpR X (compareOp .Is) (λx y H Q=> ∃c d,x= .bl c/\y= .bl d/\Q (.bl (c==d)) H):=by intro Z s σ H x y v u Q I rx ry h;obtain⟨c,d,rfl,rfl,q⟩:=h;cases rx;cases ry;exact is_bool ⟨.bl _,H,I,rfl,q⟩
theorem qfZ:OpR X (compareOp .IsNot) (λx y H Q=> ∃c d,x= .bl c/\y= .bl d/\Q (.bl (c != d)) H):=by intro Z s σ H x y v u Q I rx ry h;obtain⟨c,d,rfl,rfl,q⟩:=h;cases rx;cases ry;exact isnot_bool ⟨.bl _,H,I,rfl,q⟩
theorem qjs:OpR X (compareOp .LtE) (λx y H Q=> ∃i j,x= .str i/\y= .str j/\Q (.bl (!decide (j.cps.toList<i.cps.toList))) H):=by intro Z s σ H x y v u Q I rx ry h;obtain⟨i,j,rfl,rfl,q⟩:=h;obtain⟨t,rfl⟩:=rx;obtain⟨t',rfl⟩:=ry;exact P.le_str ⟨.bl _,H,I,rfl,q⟩
theorem qgD:qat X (.builtin "isinstance") (λxs H Q=> ∃x t T b,xs=[x,.ty T]/\qgG X.K H x t/\W.kitOne X.K t (.type T)=some b/\Q (.bl b) H):=by intro Z s σ H xs us Q I r h;obtain⟨x,t,T,b,rfl,ty,e,q⟩:=h;obtain⟨u,w',rfl,ru,ar⟩:=qiO r;cases ar;exact qj1 I ru ty e λtk=>⟨.bl b,H,I.tok tk,rfl,q⟩
theorem qcB: ∀{bs:List Bool}{us:List Value},qau (bs.map V.bl) us->us=bs.map Value.bool
 |[],_,.nil=>rfl
 |b::bs,_,.cons r t=>by have e:=r;rw[e,qcB t];rfl
theorem qi5(bs:List Bool):(List.range bs.length).all (λi=>bs.getD i false)=bs.all id:=by
 rw[Bool.eq_iff_iff,List.all_eq_true,List.all_eq_true];constructor
 ·intro h b hb;obtain⟨i,hi,rfl⟩:=List.mem_iff_getElem.mp hb
  simp_all
 ·intro h i hi;have bK:=List.mem_range.mp hi;have:=h _ (List.getElem_mem bK)
  simp_all
theorem qm9(hc:X.calm=true):qat X (.builtin "all") (λxs H Q=> ∃(a:Addr)(bs:List Bool),xs=[.ref a]/\SqL X.K H a (bs.map V.bl)/\Q (.bl (bs.all id)) H):=by
 intro Z s σ H xs us Q I r h;obtain⟨a,bs,rfl,hS,q⟩:=h;obtain⟨u,rfl,ru⟩:=qcd r;cases ru;obtain⟨its,rv,pl,hz⟩:=I.list hS;have e:=qcB rv;have bJ:=Vi pl.isList.choose_spec.1;have hh:X.A.in1.handled=none:=I.ok.hd hc;refine call_all_walk (wpAny_pyIter_list pl.isList ?_);refine⟨s.heap.objs.size,_,_,its.toArray.size,_,_,λi=>bs.getD i false,rfl,Walks.list hh _ a (Vn bJ) its.toArray,⟨⟨_,Vh _ rfl,rfl,rfl⟩,pl.isList.at λo e=>Vg _ e⟩,λi v s' Q' E' hv hq=> ?_,λh' tk k=> ?_⟩
 ·rw[e] at hv;have dP:(bs.map Value.bool)[i]? =some v:=by simpa using hv
  rw[List.getElem?_map] at dP;cases z:bs[i]? with
  |none=>simp_all
  |some b=>
   rw[z] at dP;cases dP;have eb:bs.getD i false=b:=by simp[z]
   have bx:Q' (bs.getD i false) s':=hq;rw[eb] at bx;exact Vd bx
 ·have en:its.toArray.size=bs.length:=by rw[e];simp
  rw[en,qi5];refine⟨.bl (bs.all id),H,?_,rfl,q⟩;refine I.kept (t':=tk) λb o eo=>k b o ?_ (Vg _ eo);intro z;have:=by simpa using z
  exact Vn (Vi eo) this
noncomputable def VEq(X:Cx)(H:Hp)(x y:V)(b:Bool):Prop:= ∀(Z:List (Addr×Obj))(σ:St)(s:Shared)(u v:Value),Inv X Z σ H s->RelV x u->RelV y v->SeqAt.EqAt X.A.in1 s u v b
theorem qf0(hu:X.A.units<cLine):OpR X (compareOp .Eq) (λx y H Q=> ∃a b xs ys,x= .ref a/\y= .ref b/\SqL X.K H a xs/\SqL X.K H b ys/\
  ((xs.length≠ys.length/\Q (.bl false) H)\/(xs.length=ys.length/\∃e:Nat->Bool,(∀i x y,xs[i]? =some x->ys[i]? =some y->VEq X H x y (e i))/\Q (.bl ((List.range xs.length).all e)) H))):=by
 intro Z s σ H x y v u Q I rx ry h;obtain⟨a,b,xs,ys,rfl,rfl,ha,hb,h⟩:=h;cases rx;cases ry;obtain⟨i1,r1,p1,z1⟩:=I.list ha;obtain⟨i2,r2,p2,z2⟩:=I.list hb;have l1:=r1.length;have l2:=r2.length
 rcases h with⟨d9,q⟩|⟨heq,e,he,q⟩
 ·exact SeqAt.eq_list_lengthsAt p1.isList p2.isList (by simp;lia) hu ⟨.bl false,H,I,rfl,q⟩
 ·refine SeqAt.eq_listAt (e:=e) p1.isList p2.isList (by simp;lia) hu (λj h1 h2=> ?_) ⟨.bl _,H,I,rfl,?_⟩
  ·have bT:j<i1.length:=by simpa using h1
   have bF:j<i2.length:=by simpa using h2
   have hx:xs[j]? =some xs[j]:=Vw (by lia);have hy:ys[j]? =some ys[j]:=Vw (by lia);obtain⟨u1,e1,q1⟩:=r1.get hx;obtain⟨u2,e2,q2⟩:=r2.get hy;have e3:i1.toArray[j]=u1:=by rw[List.getElem?_eq_getElem bT] at e1;simpa using Option.some.inj e1
   have e4:i2.toArray[j]=u2:=by rw[List.getElem?_eq_getElem bF] at e2;simpa using Option.some.inj e2
   rw[e3,e4];exact he j _ _ hx hy Z σ s u1 u2 I q1 q2
  ·rw[List.size_toArray,<-l1];exact q
end
noncomputable def Its(z:Str):It:=⟨λi _=>i<z.cps.size,λi H x H'=>H'=H/\∃c,z.cps[i]? =some c/\x= .str ⟨#[c]⟩,λi _=>z.cps.size<=i⟩
theorem qlu{P:Program}{w:World}{K:W.Frag}{tg:Expr}{z:Str}{it:Addr}{ty:String}{t:Tok}(cF:ty= "str_ascii_iterator" \/ty= "str_iterator"):qqO P w K tg (Its z) [it] it (λi h=>h.IsStrIter it ty z t i) where
 mem:=by simp
 obj:=λi h st b hb=>by
  have e:b=it:=by simpa using hb
  subst e;obtain⟨o,e,c,d⟩:=st;exact⟨o,e,λv q=>by rw[d] at q;cases q⟩
 keep:=λi h h' st k=>by obtain⟨o,e,r⟩:=st;exact⟨o,k it (by simp) _ e,r⟩
 item:=by
  intro X hP hw hK hc i Z s σ H E I hf st hg;subst hP hw hK;obtain⟨f0,f1,f2,f3,f4,f5⟩:=hf it (by simp);have fh:z.cps[i]? =some z.cps[i]:=Array.getElem?_eq_getElem hg;have fin: ∀h',h'.IsStrIter it ty z t (i+1)->Heap.SameBut it s.heap h'->∃u,some (Value.str ⟨#[z.cps[i]]⟩ s.toks)=some u/\wpAny (model X.prog X.w) X.A (letOwnedTupleGo tg (.ref it) u) (λ_ s2=> ∃x H',Inv X Z σ H' s2/\RelV x u/\(Its z).yld i H x H'/\s2.heap.IsStrIter it ty z t (i+1)/\∀b∈[it],H' b=none) E { s with heap:=h',toks:=s.toks+1 }:=λh' aR sb=>by
   have I1:Inv X Z σ H { s with heap:=h',toks:=s.toks+1 }:=I.turned (λb o hb e=>(sb.2 b hb).trans e) f0 f1 f3 f4 f5;obtain⟨o,e,c,d⟩:=id aR;refine⟨_,rfl,qka (s:={ s with heap:=h',toks:=s.toks+1 }) e c d ?_ ⟨.str ⟨#[z.cps[i]]⟩,H,I1,⟨_,rfl⟩,⟨rfl,_,fh,rfl⟩,aR,λb hb=>(hf b hb).1⟩⟩
   rcases cF with rfl|rfl<;>decide
  rcases cF with rfl|rfl
  ·exact wpAny_pyNext_ascii_item st fh λh' aR sb=>fin h' aR sb
  ·exact wpAny_pyNext_wide_item st fh λh' aR sb=>fin h' aR sb
 done:=by
  intro X hP hw hK hc i Z s σ H E I hf st hg;subst hP hw hK;obtain⟨f0,f1,f2,f3,f4,f5⟩:=hf it (by simp);have fh:z.cps[i]? =none:=Array.getElem?_eq_none hg
  rcases cF with rfl|rfl
  ·exact wpAny_pyNext_ascii_end (I.ok.hd hc) st fh λh' eb=>⟨rfl,I.turned (t':=s.toks) (λb o hb e=>eb b o hb e) f0 f1 f3 f4 f5⟩
  ·exact wpAny_pyNext_wide_end (I.ok.hd hc) st fh λh' eb=>⟨rfl,I.turned (t':=s.toks) (λb o hb e=>eb b o hb e) f0 f1 f3 f4 f5⟩
 self:=λA i s Q E st h=>by
  rcases cF with rfl|rfl
  ·exact wpAny_pyIter_striter_ascii st h
  ·exact wpAny_pyIter_striter_wide st h
noncomputable def qyn(te:TE):TI:=λσ H R=>te σ H λx H1=> ∃z,x= .str z/\R (Its z) H1
theorem qr0{X:Cx}{tg e:Expr}{te:TE}(he:PE X e te):PI X tg e (qyn te):=by
 intro Z s σ H R I h;refine thn (he Z s σ H _ I h) λv s1 dY=> ?_;obtain⟨x,H1,I1,r1,z,hz,q⟩:=dY;subst hz;obtain⟨t,rfl⟩:=r1;have fin: ∀ty:String,(ty= "str_ascii_iterator" \/ty= "str_iterator")->PIE X Z σ tg R (.ref s1.heap.objs.size) { s1 with heap:=s1.heap.push { cls:=.type ty,data:=.fields #[.str z t,.int 0 0] } }:=λty cF=>
  ⟨_,_,_,Its z,H1,rfl,I1.kept (t':=s1.toks) λb o e=>Vg _ e,qlu (t:=t) cF,⟨_,Vh _ rfl,rfl,rfl⟩,λb hb=>by
   have e:b=s1.heap.objs.size:=by simpa using hb
   subst e;exact I1.fpOk (Vl _) (I1.hok.fresh (Vl _)),q⟩
 cases ha:z.cps.all (· <128)
 ·exact wpAny_pyIter_wide ha (fin _ (.inr rfl))
 ·exact wpAny_pyIter_ascii ha (fin _ (.inl rfl))
theorem Inv.turnT{X:Cx}{Z:List (Addr×Obj)}{σ:St}{H:Hp}{s:Shared}{h':Heap}{t':Nat}{ch:List Addr}{T:Addr}{xs:List V}(I:Inv X Z σ H s)(aU: ∀b∈ch,qgI X Z H b)(k: ∀b o,b∉ch->s.heap.get? b=some o->h'.get? b=some o)(hT:s.heap.objs.size<=T)(new:qaG X.prog X.w (upd H T (.tup xs)) h' T (.tup xs)):Inv X Z σ (upd H T (.tup xs)) { s with heap:=h',toks:=t' }:=by
 have nT: ∀b o,s.heap.get? b=some o->b≠T:=λb o e=>Vn (Vm (Vi e) hT);have fH: ∀b u,H b=some u->b≠T:=λb u e z=>by rw[z,I.hok.fresh hT] at e;cases e
 have dH: ∀b u,H b=some u->b∉ch:=λb u e z=>by rw[(aU b z).1] at e;cases e
 refine I.step (λb hb=> ?_) (λb o _ _ hc e _=>k b o hc e) (λb o _ _ hc e _=>⟨o.slots,k b o hc e⟩) (λb o _ e n=>by rw[qac (nT b o e)];exact n) (λb o hc e=>⟨o,k b o hc e⟩)
  (λb ys e=>by rw[qac (fH b _ e)];exact e) (λb o u e=>by rw[qac (fH b _ e)];exact e) (λb ps e=>⟨#[],by rw[qac (fH b _ e),e];simp⟩) (λm hm=> ?_) (λb u e=> ?_) I.bare
 ·obtain⟨_,f1,_,f3,f4,f5⟩:=aU b hb;exact⟨f3,f1,f4,f5⟩
 ·obtain⟨o,es,ep,ho,r⟩:=hm;exact⟨o,es,ep,k _ o (λz=>(aU _ z).2.1 rfl) ho,r⟩
 ·by_cases z:b=T
  ·subst z;rw[qae] at e;cases e;exact new
  ·rw[qac z] at e;refine(I.hok b u e).stay (λc v hc q=>k c v ?_ q) (λc q=>by rw[qac (fH c _ q)];exact q) λc ys q=>by rw[qac (fH c _ q)];exact q
   grind
theorem Inv.turnL{X:Cx}{Z:List (Addr×Obj)}{σ:St}{H:Hp}{s:Shared}{h':Heap}{t':Nat}{ch:List Addr}(I:Inv X Z σ H s)(aU: ∀b∈ch,qgI X Z H b)(k: ∀b o,b∉ch->s.heap.get? b=some o->h'.get? b=some o):
  Inv X Z σ H { s with heap:=h',toks:=t' }:=by
 have dH: ∀b u,H b=some u->b∉ch:=λb u e z=>by rw[(aU b z).1] at e;cases e
 refine I.step (λb hb=> ?_) (λb o _ _ hc e _=>k b o hc e) (λb o _ _ hc e _=>⟨o.slots,k b o hc e⟩) (λb o _ e n=>n) (λb o hc e=>⟨o,k b o hc e⟩)
  (λb ys e=>e) (λb o u e=>e) (λb ps e=>⟨#[],by rw[e];simp⟩) (λm hm=> ?_) (λb u e=> ?_) I.bare
 ·obtain⟨_,f1,_,f3,f4,f5⟩:=aU b hb;exact⟨f3,f1,f4,f5⟩
 ·obtain⟨o,es,ep,ho,r⟩:=hm;exact⟨o,es,ep,k _ o (λz=>(aU _ z).2.1 rfl) ho,r⟩
 ·refine(I.hok b u e).stay (λc v hc q=>k c v ?_ q) (λc q=>q) λc ys q=>q
  grind
noncomputable def Itz(K:W.Frag)(l1 l2:Addr):It:=
 ⟨λi H=> ∃xs ys,SqL K H l1 xs/\SqL K H l2 ys/\i<xs.length/\i<ys.length,
   λi H v H'=> ∃T x y,v= .ref T/\H T=none/\H'=upd H T (.tup [x,y])/\(∀xs,SqL K H l1 xs->xs[i]? =some x)/\∀ys,SqL K H l2 ys->ys[i]? =some y,
   λi H=> ∃xs ys,SqL K H l1 xs/\SqL K H l2 ys/\i=min xs.length ys.length⟩
noncomputable def qwP(z TI TO i1 i2 l1 l2:Addr)(i:Nat)(h:Heap):Prop:=
 IsZip h z TI TO .none/\IsPair h TI (.ref i1) (.ref i2)/\(∃a b,IsPair h TO a b)/\h.IsListIter i1 l1 i/\h.IsListIter i2 l2 i
theorem qlt{P:Program}{w:World}{K:PySem.W.Frag}{elts:List Expr}{k:Nat}{pos:Pos}{z TI TO i1 i2 l1 l2:Addr}(D:ZipApart z TI TO i1 i2 l1 l2):qqO P w K (.Tuple elts k pos) (Itz K l1 l2) [z,TI,TO,i1,i2] z (qwP z TI TO i1 i2 l1 l2) where
 mem:=by simp
 obj:=λi h st b hb=>by
  obtain⟨a1,a2,⟨x,y,a3⟩,⟨o4,a4,c4,d4⟩,⟨o5,a5,c5,d5⟩⟩:=st;have a8:b=z\/b=TI\/b=TO\/b=i1\/b=i2:=by simpa using hb
  rcases a8 with rfl|rfl|rfl|rfl|rfl
  ·exact⟨_,a1,λv q=>by have q':Data.fields _=Data.cell v:=q;cases q'⟩
  ·exact⟨_,a2,λv q=>by have q':Data.seq _ _=Data.cell v:=q;cases q'⟩
  ·exact⟨_,a3,λv q=>by have q':Data.seq _ _=Data.cell v:=q;cases q'⟩
  ·exact⟨o4,a4,λv q=>by rw[d4] at q;cases q⟩
  ·exact⟨o5,a5,λv q=>by rw[d5] at q;cases q⟩
 keep:=λi h h' st kk=>by obtain⟨a1,a2,⟨x,y,a3⟩,a4,a5⟩:=st;exact⟨kk z (by simp) _ a1,kk TI (by simp) _ a2,⟨x,y,kk TO (by simp) _ a3⟩,a4.at λo e=>kk i1 (by simp) o e,a5.at λo e=>kk i2 (by simp) o e⟩
 item:=by
  intro X hP hw hK hc i Z s σ H E I hf st hg;subst hP hw hK;obtain⟨xs,ys,h1,h2,g1,g2⟩:=hg;obtain⟨bP,r1,p1,z1⟩:=I.list h1;obtain⟨aF,r2,p2,z2⟩:=I.list h2;have e1:=r1.length;have e2:=r2.length;have W:=WalksT.zip2 (prog:=X.prog) (w:=X.w) (I.ok.hd hc) z TI TO i1 i2 l1 l2 D bP.toArray aF.toArray;obtain⟨a1,a2,a3,a4,a5⟩:=st;have aU: ∀b∈[z,TO,i1,i2],qgI X Z H b:=λb hb=>hf b (by
   have a8:b=z\/b=TO\/b=i1\/b=i2:=by simpa using hb
   rcases a8 with rfl|rfl|rfl|rfl<;>simp)
  refine W.item i s _ E (by simp;lia) ⟨a1,a2,a3,a4,a5,p1.isList,p2.isList⟩ λT vals h' tk hv hT hti gq kp=> ?_;obtain⟨u1,u2,q1,q2,rfl⟩:=hv;refine⟨_,rfl,W.go elts k pos i T _ _ E gq λbF aR dI=> ?_⟩;obtain⟨b1,b2,b3,b4,b5,_,_⟩:=aR;have nT:T∉[z,TO,i1,i2]:=W.apart i T h' gq;obtain⟨ox,hox,rox⟩:=hti;have fL:xs[i]? =some xs[i]:=Vw g1;have jE:ys[i]? =some ys[i]:=Vw g2;obtain⟨w1,j7,rw1⟩:=r1.get fL;obtain⟨w2,j6,rw2⟩:=r2.get jE;have eu1:bP[i]? =some u1:=by simpa using q1
  have eu2:aF[i]? =some u2:=by simpa using q2
  rw[eu1] at j7;cases j7;rw[eu2] at j6;cases j6;have I1:Inv X Z σ (upd H T (.tup [xs[i],ys[i]])) { s with heap:=bF,toks:=tk }:=by refine I.turnT aU (λb o hb e=>dI b o hb (kp b o hb e)) hT ⟨by show 2<=sizeLine;decide,[u1,u2],.cons rw1 (.cons rw2 .nil),ox,dI T ox nT hox,rox⟩
  refine⟨.ref T,_,I1,rfl,⟨T,_,_,rfl,I.hok.fresh hT,rfl,λxs' cZ=>by rw[I.list_inj cZ h1];exact fL,λjt dO=>by rw[I.list_inj dO h2];exact jE⟩,⟨b1,b2,b3,b4,b5⟩,λb hb=> ?_⟩;obtain⟨o,eo,_⟩: ∃o,s.heap.get? b=some o/\True:=by
   have a8:b=z\/b=TI\/b=TO\/b=i1\/b=i2:=by simpa using hb
   obtain⟨x,y,a3'⟩:=a3;obtain⟨o4,a4',_⟩:=a4;obtain⟨o5,a5',_⟩:=a5
   rcases a8 with rfl|rfl|rfl|rfl|rfl
   ·exact⟨_,a1,trivial⟩
   ·exact⟨_,a2,trivial⟩
   ·exact⟨_,a3',trivial⟩
   ·exact⟨_,a4',trivial⟩
   ·exact⟨_,a5',trivial⟩
  rw[qac (Nat.ne_of_lt (Nat.lt_of_lt_of_le (Heap.lt_size eo) hT))];exact(hf b hb).1
 done:=by
  intro X hP hw hK hc i Z s σ H E I hf st hg;subst hP hw hK;obtain⟨xs,ys,h1,h2,g1⟩:=hg;obtain⟨bP,r1,p1,z1⟩:=I.list h1;obtain⟨aF,r2,p2,z2⟩:=I.list h2;have e1:=r1.length;have e2:=r2.length;have W:=WalksT.zip2 (prog:=X.prog) (w:=X.w) (I.ok.hd hc) z TI TO i1 i2 l1 l2 D bP.toArray aF.toArray;have aU: ∀b∈[z,TO,i1,i2],qgI X Z H b:=λb hb=>hf b (by
   have a8:b=z\/b=TO\/b=i1\/b=i2:=by simpa using hb
   rcases a8 with rfl|rfl|rfl|rfl<;>simp)
  obtain⟨a1,a2,a3,a4,a5⟩:=st;have en:min bP.toArray.size aF.toArray.size=i:=by simp;lia
  rw[en] at W;exact W.done s _ E ⟨a1,a2,a3,a4,a5,p1.isList,p2.isList⟩ λh' tk kp=>⟨rfl,I.turnL aU kp⟩
 self:=λA i s Q E st h=>wpAny_pyIter_zip st.1 h
noncomputable def qfM(mg:Str->Option Value)(base:Heap):Prop:= ∃bm ob,mg "__builtins__" =some (.ref bm)/\bm≠builtinsNs/\base.get? bm=some ob/\ob.cls= .type "module" /\ob.dict=some builtinsNs/\ob.data= .plain
open PySem.Calls
theorem qaG.obj(x:qaG P w H h a o): ∃u,h.get? a=some u:=by
 cases o with
 |lst xs=>obtain⟨_,_,_,_,e⟩:=x;exact⟨_,e⟩
 |tup xs=>obtain⟨_,_,_,p⟩:=x;exact p.imp λ_ q=>q.1
 |dK kvs|dT kvs=>obtain⟨_,_,_,_,o,_,_,e,_⟩:=x;exact⟨_,e⟩
 |set S n=>obtain⟨o,_,_,_,e,_⟩:=x;exact⟨_,e⟩
 |ins C dx fs=>obtain⟨_,_,_,e,_⟩:=x;exact⟨_,e⟩
 |own y=>obtain⟨_,e⟩:=x;exact⟨_,e⟩
 |xd fs=>obtain⟨_,⟨_,_,_,e,_⟩,_⟩:=x;exact⟨_,e⟩
 |rng lo hi=>obtain⟨_,_,_,e⟩:=x;exact⟨_,e⟩
 |frz ob u=>obtain⟨e,_⟩:=x;exact⟨_,e⟩
 |tbl ps|met f y=>exact⟨_,(x)⟩
 |ext φ=>obtain⟨_,⟨_,e⟩,_⟩:=x;exact⟨_,e⟩
structure qiJ(P:Program)(w:World)(outer:List Env)(H:Hp)(s:Shared)(H':Hp)(B h':Heap):Prop where
 hok:HOk P w H' B
 st:B.StaysIn h'
 bk: ∀b o,s.heap.get? b=some o->H b=none->b∉frs outer->B.get? b=some o
 th: ∀b o,s.heap.get? b=some o->b∉frs outer->∃o',B.get? b=some o'
 sl: ∀b o,s.heap.get? b=some o->b∈frs outer->(∀vs,o.data≠.fields vs)/\∃sl,h'.get? b=some { o with slots:=sl }
 free: ∀b o,s.heap.get? b=some o->H b=none->H' b=none
 tups: ∀b xs,H b=some (.tup xs)->H' b=some (.tup xs)
 frzs: ∀b o u,H b=some (.frz o u)->H' b=some (.frz o u)
 tbls: ∀b ps,H b=some (.tbl ps)->∃more,H' b=some (.tbl (ps++more))
section
theorem qiJ.un(L:qiJ P w outer H s H' B h'):Un (frs outer) [] H H' s.heap h' where
 keep:=λb o e n nb _=>L.st b o (L.bk b o e n nb)
 slot:=λb o e _ hb _=>(L.sl b o e hb).2
 free:=λb o e n _=>L.free b o e n
 there:=λb o e _=>by
  by_cases hb:b∈frs outer
  ·obtain⟨sl,q⟩:=(L.sl b o e hb).2;exact⟨_,q⟩
  ·obtain⟨o',q⟩:=L.th b o e hb;exact⟨o',L.st b o' q⟩
 tups:=L.tups
 frzs:=L.frzs
 tbls:=L.tbls
theorem qiJ.on(L:qiJ P w outer H s H' B h')(st:B.StaysIn dw)(up:h'.UpToSlots dw):qiJ P w outer H s H' B dw:=
 { L with
  st:=st
  sl:=λb o e hb=>by
   obtain⟨nf,sl,q⟩:=L.sl b o e hb;obtain⟨eY,q'⟩:=up b _ q nf;exact⟨nf,eY,q'⟩ }
end
section
theorem qfk{X:Cx}(aG:X.stack=X.env::X.outer)(hf:X.env.frame=some X.env.locals):frs X.stack=X.env.locals::frs X.outer:=by rw[aG];show((X.env::X.outer).filterMap _)=_;rw[List.filterMap_cons,hf];rfl
theorem qiJ.leave{X:Cx}(aG:X.stack=X.env::X.outer)(hf:X.env.frame=some X.env.locals)(hex:X.ex=[])(I:Inv X Z σ H s)(L:qiJ X.prog X.w X.stack H s H' B h'):qiJ X.prog X.w X.outer X.H₀ X.s₀ H' B h':=by
 have nx: ∀b,b∉X.ex:=λb z=>by rw[hex] at z;cases z
 have dG: ∀b o,X.s₀.heap.get? b=some o->b≠X.env.locals:=λb o e=>Vn (Vm (Vi e) I.ok.above);have out: ∀b o,X.s₀.heap.get? b=some o->b∉frs X.outer->b∉frs _:=λb o e nb z=>by
  rw[qfk aG hf] at z
  grind
 refine⟨L.hok,L.st,λb o e n nb=> ?_,λb o e nb=> ?_,λb o e hb=> ?_,λb o e n=> ?_,λb xs q=>L.tups b xs (I.base.tups b xs q),λb o u q=>L.frzs b o u (I.base.frzs b o u q),λb ps q=> ?_⟩
 ·exact L.bk b o (I.base.keep b o e n nb (nx b)) (I.base.free b o e n (nx b)) (out b o e nb)
 ·obtain⟨o',e'⟩:=I.base.there b o e (nx b);exact L.th b o' e' (out b o e nb)
 ·obtain⟨sl,e1⟩:=I.base.slot b o e (I.ok.frf b hb) hb (nx b);obtain⟨nf,eY,e2⟩:=L.sl b _ e1 (by rw[qfk aG hf];simp_all);exact⟨nf,eY,e2⟩
 ·obtain⟨sl,e1⟩:=I.base.any e n (nx b);exact L.free b _ e1 (I.base.free b o e n (nx b))
 ·obtain⟨m1,e1⟩:=I.base.tbls b ps q;obtain⟨m2,e2⟩:=L.tbls b _ e1;exact⟨m1++m2,by simp_all⟩
theorem qiJ.made(I:Inv X Z σ H s)(k: ∀b o,s.heap.get? b=some o->h'.get? b=some o):qiJ X.prog X.w X.stack H s H (W.hideAll s.heap (frs X.stack)) h' where
 hok:=λa o e=>(I.hok a o e).stay (λb u hb r=>W.hideAll_get _ r λz=>by
   have n:=I.stkFree b z
   rcases hb with q|q
   ·rw[q,e] at n;cases n
   ·rw[q] at n;cases n) (λ_ r=>r) λ_ _ r=>r
 st:=λb o e=>k b o (W.of_hideAll _ e)
 bk:=λb o e n nb=>W.hideAll_get _ e nb
 th:=λb o e nb=>⟨o,W.hideAll_get _ e nb⟩
 sl:=λb o e hb=>by obtain⟨_,o',e',nf⟩:=I.stack.mem hb;rw[e] at e';cases e';exact⟨nf,o.slots,k b o e⟩
 free:=λ_ _ _ n=>n
 tups:=λ_ _ q=>q
 frzs:=λ_ _ _ q=>q
 tbls:=λ_ ps q=>⟨#[],by rw[q];simp⟩
end
structure Fly(P:Program)(w:World)(outer:List Env)(H:Hp)(s:Shared)(C:Addr)(H':Hp)(a t:Addr)(B:Heap)(s':Shared):Prop where
 os:s'.os=s.os
 bare:AllBare s'.gens
 fly:Heap.FlyingW B outer a (.ref C) (.ref t) s'.heap
 lies:qiJ P w outer H s H' B s'.heap
 new:H' a=none
structure qyX(P:Program)(w:World)(outer:List Env)(H:Hp)(s:Shared)(C:Addr)(H':Hp)(a t L:Addr)(B:Heap)(s':Shared):Prop where
 os:s'.os=s.os
 bare:AllBare s'.gens
 held:Heap.HeldW B outer a (.ref C) (.ref t) L s'.heap
 lies:qiJ P w outer H s H' B s'.heap
 new:H' a=none
section
theorem Fly.leave(aG:X.stack=X.env::X.outer)(hf:X.env.frame=some X.env.locals)(hex:X.ex=[])(I:Inv X Z σ H s)(F:Fly X.prog X.w X.stack H s C H' a t B s'):
  wpAny M X.A (leaving X.env (.ref a)) (λ_ s''=>Fly X.prog X.w X.outer X.H₀ X.s₀ C H' a t B s'') E s':=by refine wpAny_leaves_onW (I.ok.frames.trans (congrArg _ aG)) hf (aG▸F.fly) λdw fl up=> ?_;exact⟨F.os.trans I.os,F.bare,fl,(F.lies.on fl.1 up).leave aG hf hex I,F.new⟩
theorem Fly.made(aG:X.stack=X.env::X.outer)(hf:X.env.frame=some X.env.locals)(hex:X.ex=[])(I:Inv X Z σ H s)(hm:Heap.MadeExcOf s.heap h' a (.ref C) args):
  wpAny M X.A (leaving X.env (.ref a)) (λ_ s''=> ∃t B,Fly X.prog X.w X.outer X.H₀ X.s₀ C H a t B s'') E { s with heap:=h' }:=by
 have hin: ∀env∈X.stack,∀b,env.frame=some b->b∈frs _:=λenv he b hb=>List.mem_filterMap.mpr ⟨env,he,hb⟩;have L:=qiJ.made I hm.keeps;refine wpAny_leaves_madeW (base:=W.hideAll _ (frs X.stack)) (I.ok.frames.trans (congrArg _ aG)) hf (λb o q=>W.of_hideAll _ q) (aG▸W.funFrames_hide I.stack hin) hm λdw t fl _ _ up=> ?_;refine⟨t,_,I.os,I.bare,fl,(L.on fl.1 up).leave aG hf hex I,?_⟩;cases q:H a with
 |none=>rfl
 |some o=>obtain⟨u,hu⟩:=(I.hok a o q).obj;rw[hm.new] at hu;cases hu
theorem Fly.look(aG:X.stack=X.env::X.outer)(hf:X.env.frame=some X.env.locals)(I:Inv X Z σ H s)(F:Fly X.prog X.w X.stack H s C H' a t B s')(h: ∀s'',Fly X.prog X.w X.stack H s C H' a t B s''->Q () s''):
  wpAny M X.A (noteFrame (.ref a) X.env) (λ_ bA=>wpAny M X.A (setFlight (.ref a) none) Q E bA) E s':=by refine wpAny_looks_onW (I.ok.frames.trans (congrArg _ aG)) hf (aG▸F.fly) λh4 hh up=> ?_;refine wpAny_landsW hh λh5 fl up5=> ?_;exact h _ ⟨F.os,F.bare,aG▸fl,(F.lies.on (hh.1) up).on fl.1 up5,F.new⟩
theorem Fly.land(F:Fly P w outer H s C H' a t B s')(h: ∀s'',Fly P w outer H s C H' a t B s''->Q () s''):wpAny M A (setFlight (.ref a) none) Q E s':=
 lands_againW F.fly λh5 fl up=>h _ ⟨F.os,F.bare,fl,F.lies.on fl.1 up,F.new⟩
end
noncomputable def CXE(P:Program)(w:World):CXT:=λouter H s E e s'=> ∃C H' a t B,e= .ref a/\Fly P w outer H s C H' a t B s'/\E (.ref C) none H'
theorem qvv{P:Program}{w:World}{K:W.Frag}{mg:Str->Option Value}{base:Heap}{N:List Str}{qual:Str}{scope:Scope}{f:Addr}{cd:Value}{A:Around}{outer:List Env}{s:Shared}{H:Hp}{E E1:XK}(h: ∀C H',E1 (.ref C) none H'->E (.ref C) none H'):qaI (CXE P w) (qfv (CXE P w) P w K mg base N qual scope f cd A outer s H E) E1:=
 by rintro Z σ H1 s1 e s' I ⟨C,H',a,t,B,he,F,q⟩;subst he;exact Vc (Fly.leave rfl rfl rfl I F) (λ_ s'' F'=>⟨C,H',a,t,B,rfl,F',h C H' q⟩) λ_ _ x=>x
noncomputable def bmV:List Value:=[.type "ValueError",.type "Exception",.type "BaseException",.type "object"]
noncomputable def qh9:List Str:=["__init__", "__getattribute__", "__getattr__", "__class__"]
inductive qby(h:Heap)(bmB:List Value):List Value->Prop
 |base:qby h bmB bmB
 | own {A:Addr} {c0:Value} {dd:Option Addr} {cd:ClassData} {sl:Array (Option Value)} {mA:Str->Option Value} {tl:List Value}:
   h.get? A=some { cls:=c0,dict:=dd,data:=.cls cd,slots:=sl }->h.Ns cd.ns mA->(∀n∈qh9,mA n=none)->qby h bmB tl->qby h bmB (.ref A::tl)
theorem qby.tail(T:qby h bmB tl):OwnTail h bmB tl:=by
 induction T with
 |base=>exact .base
 |own hA hN hq _ ih=>exact .own hA hN (hq _ (.head _)) ih
theorem qby.keeps(T:qby h bmB tl)(hk: ∀b o,h.get? b=some o->h'.get? b=some o):qby h' bmB tl:=by
 induction T with
 |base=>exact .base
 |own hA hN hq _ ih=>exact .own (hk _ _ hA) (hN.keeps hk) hq ih
noncomputable def qdm(h:Heap)(C:Addr)(bm:List Value):Prop:=
 ∃N nm q bs hdct sn sub ab col dd k0 k1 k2 k3 k5 mN,h.get? C=some (excClassObj nm q C N bs bm hdct sn sub ab col dd k0 k1 k2 k3 k5 "ValueError.__new__")/\h.Ns N mN/\(∀n∈qh9,mN n=none)/\qby h bmV bm
theorem qdm.keeps(x:qdm h C bm)(k: ∀b o,h.get? b=some o->h'.get? b=some o):qdm h' C bm:=
 let ⟨N,nm,q,bs,hdct,sn,sub,ab,col,dd,k0,k1,k2,k3,k5,mN,e,n,i,T⟩:=x
 ⟨N,nm,q,bs,hdct,sn,sub,ab,col,dd,k0,k1,k2,k3,k5,mN,k _ _ e,n.keeps k,i,T.keeps k⟩
theorem qdm.base(x:qdm h C bm):bm.contains (.type "BaseException")=true:=
 let ⟨_,_,_,_,_,_,_,_,_,_,_,_,_,_,_,_,_,_,_,T⟩:=x
 T.tail.hasType (rfl)
noncomputable def qiW(C:Addr)(E:XK):TS:=λ_ _ H=>E (.ref C) none H
theorem qlN{P:Program}{w:World}{K:W.Frag}{mg:Str->Option Value}{base:Heap}{N:List Str}{qual:Str}{scope:Scope}{f:Addr}{cd:Value}{A:Around}{outer:List Env}{s:Shared}{H:Hp}{E:XK}{x msg:Str}{C:Addr}{bm:List Value} {j np p1 cpos pos} (hC:qdm base C bm) (hm:mg x=some (.ref C)) (hg:Gl (qfv (CXE P w) P w K mg base N qual scope f cd A outer s H E) x) (aJ:(x==("__debug__" :Str))=false:=by decide):
  PS (qfv (CXE P w) P w K mg base N qual scope f cd A outer s H E) (.Raise (some (.Call (.Name x np) [.Constant (.str msg) j p1] [] cpos)) none pos) (qiW C E):=by
 intro Z s1 σ H1 D I h;obtain⟨Nn,nm,q,bs,hdct,sn,sub,ab,col,dd,k0,k1,k2,k3,k5,mN,e,n,i,T⟩:=id hC;refine wpAny_Raise_call_subT (C:=C) (nm:=nm) (q:=q) (N:=Nn) (bs:=bs) (bm:=bm) (hdct:=hdct) (sn:=sn) (sub:=sub) (ab:=ab) (col:=col) (dd:=dd) (k0:=k0) (k1:=k1) (k2:=k2) (k3:=k3) (k5:=k5) F.excBase_ValueError hC.base (I.ok.hd rfl) (by rfl) (i _ (.head _)) ?_;refine qbi I hg hm ⟨rfl,?_⟩ aJ;refine Calls.evalArgs_plain ?_;have hp:PA (qfv (CXE P w) P w K mg base N qual scope f cd A outer s H E) [.Constant (.str msg) j p1] _:=qaW qha qbp;refine thn (hp cpos Z s1 σ H1 (λvs H2=>H2=H1/\vs.length=1) I ⟨rfl,rfl⟩) λus s2 fR=> ?_;obtain⟨vs,H2,I2,r,eH,el⟩:=fR;subst eH;have ul:us.length=1:=by rw[<-r.length];exact el
 refine⟨rfl,by rw[ul];decide,I2.bk _ _ e,n.keeps I2.bk,T.tail.keeps I2.bk,λh' a hx=> ?_⟩;exact Vc (Fly.made rfl rfl rfl I2 hx) ((by rintro _ s'' ⟨t,B,F'⟩;exact⟨C,H2,a,t,B,rfl,F',h⟩)) λ_ _ x=>x
abbrev Cx.hold(X:Cx)(Z:List (Addr×Obj))(E:Value->Shared->Prop):Cx:={ X with pn:=X.pn++Z,xe:=E }
abbrev Cx.within(X:Cx)(a:Addr):Cx:={ X with A:=X.A.mark (some (.ref a)),calm:=false,xe:=λ_ _=>False }
section
theorem Cx.Ok.hold{X:Cx}(ok:X.Ok):(X.hold Z E).Ok:=⟨ok.mod,ok.kind,ok.glob,ok.blt,ok.above,ok.inj,ok.has,ok.cab,ok.hd,ok.frames,ok.stk,ok.exf,ok.bs,ok.bsz,ok.noex,ok.exfs,ok.funs,ok.frf⟩
theorem Cx.Ok.unhold{X:Cx}(ok:(X.hold Z E).Ok):X.Ok:=⟨ok.mod,ok.kind,ok.glob,ok.blt,ok.above,ok.inj,ok.has,ok.cab,ok.hd,ok.frames,ok.stk,ok.exf,ok.bs,ok.bsz,ok.noex,ok.exfs,ok.funs,ok.frf⟩
theorem Inv.hold{X:Cx}(I:Inv X Z σ H s):Inv (X.hold Z E) [] σ H s:=⟨I.ok.hold,I.os,I.bare,I.base,I.loc,I.cell,I.free,I.freeC,λp hp=>I.pin p (by simp_all),I.hok,I.len⟩
theorem Inv.unhold{X:Cx}(I:Inv (X.hold Z E) br σ H s):Inv X Z σ H s:=⟨I.ok.unhold,I.os,I.bare,I.base,I.loc,I.cell,I.free,I.freeC,λp hp=>I.pin p (Vr _ hp),I.hok,I.len⟩
theorem SP.unhold(h:SP (X.hold Z E) br D f s'):SP X Z D f s':=by
 cases f with
 |next|brk|cont=>obtain⟨ae,H',I,q⟩:=h;exact⟨ae,H',I.unhold,q⟩
 |ret u=>obtain⟨v,ae,H',I,r,q⟩:=h;exact⟨v,ae,H',I.unhold,r,q⟩
theorem Cx.Ok.within{X:Cx}(ok:X.Ok):(X.within a).Ok:=⟨ok.mod,ok.kind,ok.glob,ok.blt,ok.above,ok.inj,ok.has,ok.cab,(λz=>by cases z),ok.frames,ok.stk,ok.exf,ok.bs,ok.bsz,ok.noex,ok.exfs,ok.funs,ok.frf⟩
theorem Inv.within{X:Cx}(I:Inv X Z σ H s):Inv (X.within a) Z σ H s:=⟨I.ok.within,I.os,I.bare,I.base,I.loc,I.cell,I.free,I.freeC,I.pin,I.hok,I.len⟩
theorem Inv.unwithin(ok:X.Ok)(I:Inv (X.within a) Z σ H s):Inv X Z σ H s:=⟨ok,I.os,I.bare,I.base,I.loc,I.cell,I.free,I.freeC,I.pin,I.hok,I.len⟩
theorem Fly.inv(I:Inv X Z σ H s)(F:Fly X.prog X.w X.stack H s C H' a t B s'):Inv X Z σ H' s':=
 I.call' F.os F.lies.un (F.lies.hok.kept F.lies.st) F.bare λb z=>absurd z (by simp)
noncomputable def ExO(a C:Addr):HO:=.ext λh=> ∃o,h.get? a=some o/\o.cls= .ref C
theorem Fly.gone{X:Cx}{s:Shared}(F:Fly X.prog X.w X.stack H s C H' a t B s'):s.heap.get? a=none:=by
 cases q:s.heap.get? a with
 |none=>rfl
 |some o=>
  by_cases hb:a∈frs X.stack
  ·obtain⟨nf,sl,e⟩:=F.lies.sl a o q hb;obtain⟨oe,ws,he,hc,hd,h0⟩:=F.fly.first
   grind
  ·obtain⟨o',e⟩:=F.lies.th a o q hb;rw[F.fly.2.1] at e;cases e
theorem Fly.invX{X:Cx}(I:Inv X Z σ H s)(F:Fly X.prog X.w X.stack H s C H' a t B s'):Inv X Z σ (upd H' a (ExO a C)) s':=by
 have u:=F.lies.un;have g:=F.gone;have hok:=F.lies.hok.kept F.lies.st;have ne: ∀b o,H' b=some o->b≠a:=λb o e z=>by rw[z,F.new] at e;cases e
 refine I.call' F.os ⟨u.keep,u.slot,λb o e n hx=> ?_,u.there,λb xs q=> ?_,λb o w q=> ?_,λb ps q=> ?_⟩ (λb o e=> ?_) F.bare λb z=>absurd z (by simp)
 ·rw[qac (λz=>by rw[z,g] at e;cases e)];exact u.free b o e n hx
 ·have q':=u.tups b xs q;rw[qac (ne _ _ q')];exact q'
 ·have q':=u.frzs b o w q;rw[qac (ne _ _ q')];exact q'
 ·obtain⟨m,q'⟩:=u.tbls b ps q;exact⟨m,by rw[qac (ne _ _ q')];exact q'⟩
 ·by_cases z:b=a
  ·subst z;rw[qae] at e;cases e;obtain⟨oe,ws,he,hc,hd,h0⟩:=F.fly.first;exact⟨⟨oe,he,hc⟩,⟨oe,he⟩,λh1 h2 ⟨o,e1,e2⟩ k=>⟨o,k o e1,e2⟩⟩
  ·rw[qac z] at e;exact(hok b o e).stay (λ_ _ _ r=>r) (λc r=>by rw[qac (ne _ _ r)];exact r) λc xs r=>by rw[qac (ne _ _ r)];exact r
end
section
theorem qdo(hC:qdm s.heap C bm)(hD:qdm s.heap D bmD)(he:s.heap.get? e=some oe)(eP:oe.cls= .ref C)(hq:Q ((Value.ref C::bm).contains (.ref D)) s):wpAny M A (excMatches (.ref e) (.ref D)) Q E s:=by
 have gw:(Value.ref D::bmD).contains (.type "BaseException")=true:=by rw[List.contains_cons,hD.base,Bool.or_true]
 obtain⟨N,nm,q,bs,hdct,sn,sub,ab,col,dd,k0,k1,k2,k3,k5,mN,hC,_⟩:=hC;obtain⟨N',jz,q',bs',jO,sn',sub',ab',col',bV,k0',k1',k2',k3',k5',mN',hD,_⟩:=hD;have f:=tc_notTuple;obtain⟨h,g,d,t,os⟩:=s;unfold excMatches
 repeat (first|(with_reducible refine Ve he ?_;rw[eP])|with_reducible refine Ve hD ?_|(with_reducible refine wpAny_isSubtype_exc hD ?_;rw[gw])|with_reducible refine wpAny_isSubtype_exc hC ?_|wp_step)
 cases hb:(Value.ref C::bm).contains (.ref D)<;>(rw[hb] at hq;first|exact hq|(wp_walk;exact hq))
end
noncomputable def XE(X:Cx)(Z:List (Addr×Obj))(W:St->Addr->Hp->Prop):Value->Shared->Prop:=λe s'=>
 ∃σ H s C H' a t B,e= .ref a/\Inv X Z σ H s/\Fly X.prog X.w X.stack H s C H' a t B s'/\W σ C H'
noncomputable def eW(W:St->Addr->Hp->Prop)(σ:St):XK:=λv _ H'=> ∃C,v= .ref C/\W σ C H'
noncomputable def quF(base:Heap)(CH:Addr)(i:Nat)(ts:TS)(D:qra):St->Addr->Hp->Prop:=λσ C H=> ∃bm,qdm base C bm/\(Value.ref C::bm).contains (.ref CH)=true/\
 ∀a,H a=none->ts { nx:=λae H'=>D.nx (ae.set i none) H',rt:=D.rt,bk:=λae H'=>D.bk (ae.set i none) H',ct:=λae H'=>D.ct (ae.set i none) H' } (σ.set i (some (.ref a))) (upd H a (ExO a C))
noncomputable def quN(base:Heap)(CH:Addr)(i:Nat)(tb:(St->Addr->Hp->Prop)->TS)(ts:TS):TS:=λD σ H=>tb (quF base CH i ts D) D σ H
section
variable{x n:Str}
theorem qcC(I:Inv X Z σ H s)(hN:X.N.Nodup)(hi:X.N[i]? =some n)(hk:X.env.kindOf n=some .local)(h: ∀s',Inv X Z (σ.set i none) H s'->Q () s'):wpAny M A (do bindName X.env n .none;unbindBehindTheSuite X.env n pos) Q Ex s:=by
 obtain⟨m,hn,hl⟩:=id I.loc;refine wpAny_nameGoes_keeps hk hn (by rw[I.ok.kind];rfl) λh' v c8 hs=> ?_;have cne:=I.cne;have dG: ∀b o,X.s₀.heap.get? b=some o->b≠X.env.locals:=λb o e=>Vn (Vm (Vi e) I.ok.above);refine h _ ⟨I.ok,I.os,I.bare,⟨λb o e n hb hx=> ?_,λb o e n hb hx=> ?_,I.base.free,λb o e hx=> ?_,I.base.tups,I.base.frzs,I.base.tbls⟩,⟨_,c8,λj y v' e1 e2 e3=> ?_⟩,λy c e=> ?_,I.free,I.freeC,λp hp=> ?_,λb ob e=> ?_,?_⟩
 ·exact(hs.2 b (dG b o e)).trans (I.base.keep b o e n hb hx)
 ·obtain⟨sl,e1⟩:=I.base.slot b o e n hb hx;exact⟨sl,(hs.2 b (dG b o e)).trans e1⟩
 ·obtain⟨o',e1⟩:=I.base.there b o e hx;exact⟨o',(hs.2 b (dG b o e)).trans e1⟩
 ·by_cases hj:j=i
  ·subst hj;have cO:j<σ.length:=by rw[I.len];exact(List.getElem?_eq_some_iff.mp hi).1
   rw[List.getElem?_set_self cO] at e2;cases e2
  ·rw[List.getElem?_set_ne (Ne.symm hj)] at e2;obtain⟨u',r',q⟩:=hl j y v' e1 e2 e3;refine⟨u',r',?_⟩
   rcases q with⟨k,e⟩|⟨k,c,e,z⟩
   ·refine .inl ⟨k,?_⟩;have:y≠n:=λe=>hj (qec hN e1 (e▸hi));simp[this,e]
   ·exact .inr ⟨k,c,e,z.sameBut hs (cne y c e)⟩
 ·obtain⟨w',z⟩:=I.cell y c e;exact⟨w',z.sameBut hs (cne y c e)⟩
 ·obtain⟨e,n,ne,nf,d⟩:=I.pin p hp;exact⟨(hs.2 p.1 ne).trans e,n,ne,nf,d⟩
 ·refine(I.hok b ob e).stay (λc w' hc q=>(hs.2 c ?_).trans q) (λ_ q=>q) λ_ _ q=>q;intro z
  rcases hc with hc|hc
  ·rw[<-hc,z,I.free] at e;cases e
  ·rw[z,I.free] at hc;cases hc
 ·rw[List.length_set];exact I.len
theorem qoN(aG:X.stack=X.env::X.outer)(hf:X.env.frame=some X.env.locals)(hN:X.N.Nodup)(hi:X.N[i]? =some n)(hk:X.env.kindOf n=some .local)(hg:Gl X x)(hm:X.mg x=some (.ref CH))(hH:qdm X.base CH bmH)(hb: ∀Z W,PSs (X.hold Z (XE X Z W)) body (tb W))(hs: ∀a,PSs (X.within a) (jl::suite) ts)(aJ:(x==("__debug__" :Str))=false:=by decide):
  PS X (.Try body [.ExceptHandler (some (.Name x np)) (some n) (jl::suite) hpos] [] [] pos) (quN X.base CH i tb ts):=by
 intro Z s σ H D I h;refine wpAny_Try_except ?_;refine Vc (hb Z _ [] s σ H D I.hold h) (λf s1 hq=> ?_) (λe s1 hq=> ?_)
 ·have bx:=hq.unhold;cases f with
  |next=>exact wpAny_execs_nil bx
  |brk|cont|ret u=>exact bx
 ·obtain⟨cU,H1,s0,C,H',a,t,B,rfl,I1,F,bm,hC,eQ,w⟩:=hq;refine F.look aG hf I1 λs2 F2=> ?_;have I2:=F2.inv I1;obtain⟨oe,ws,he,hc,hd,h0⟩:=F2.fly.first;refine wpAny_handleBy_cons (codeAny_handlers_test ?_) (by intro q;cases q);refine qbi (X:=X.within a) I2.within hg hm ?_ aJ;refine qdo (hC.keeps I2.bk) (hH.keeps I2.bk) he hc ?_;rw[eQ];refine codeAny_handlers_suite_as ?_;refine F2.land λs3 F3=> ?_;refine qb1 (X:=X.within a) (v:=.ref a) (F3.invX I1).within hN hi (Or.inl hk) rfl (λs4 I4=> ?_) (.inr hk);refine Vc (hs a Z s4 _ _ _ I4 (w a F3.new)) (λf s5 q=> ?_) (λ_ _ z=>z.elim);cases f with
  |next|brk|cont=>obtain⟨ae,H5,J,z⟩:=q;exact qcC (J.unwithin I.ok) hN hi hk λs6 J6=>⟨_,_,J6,z⟩
  |ret u=>obtain⟨v,ae,H5,J,r,z⟩:=q;exact qcC (J.unwithin I.ok) hN hi hk λs6 J6=>⟨v,_,_,J6,r,z⟩
end
section
theorem qef{M:Model}{A:Around}{E:Value->Shared->Prop}{h:Heap}{g:Array GenState}{d:Drawn}{t:Nat}{os:OsState}{tl:List Value}{n:Str}{y:Option Value}{Q:Option Value->Shared->Prop}(hn:n∈qh9)(T:qby h bmV tl)(cn:lookupAlong bmV n=pure y)(hq:Q y ⟨h,g,d,t,os⟩):
  wpAny M A (lookupAlong tl n) Q E ⟨h,g,d,t,os⟩:=by
 induction T with
 |base=>rw[cn];exact Vb hq
 |own hA hN hni _ ih=>
  rw[lookupAlong_cons];refine Va (wpAny_classOwn_cls hA hN ?_)
  simp_all
variable{nm q:Str}{sn:List Str}{newId:String}
theorem qbq{M:Model}{A:Around}{E:Value->Shared->Prop}{h:Heap}{g:Array GenState}{d:Drawn}{t:Nat}{os:OsState}{C:Addr}{N:Addr}{bs:List Value}{bm:List Value}{hdct:Bool}{sub:List Value}{ab:Bool}{col:Option Bool}{dd:Option Addr}{k0:Option Value}{k1:Option Value}{k2:Option Value}{k3:Option Value}{k5:Option Value}{mN:Str->Option Value}{n:Str}{y:Option Value}{Q:Option Value->Shared->Prop}(hn:n∈qh9)(hC:h.get? C=some (excClassObj nm q C N bs bm hdct sn sub ab col dd k0 k1 k2 k3 k5 newId))(hN:h.Ns N mN)(cx: ∀n∈qh9,mN n=none)(T:qby h bmV bm)(hB:typeLookup (.type "ValueError") n=pure y)(hq:Q y ⟨h,g,d,t,os⟩):wpAny M A (typeLookup (.ref C) n) Q E ⟨h,g,d,t,os⟩:=by
 have cn:lookupAlong bmV n=pure y:=by have e:=F.attrBase_ValueError.mro;rw[typeLookup_eq,e] at hB;exact hB
 rw[typeLookup_eq];refine Va (wpAny_mroOf_exc hC ?_);rw[lookupAlong_cons];refine Va (wpAny_classOwn_exc hC hN ?_);rw[cx n hn];exact qef hn T cn hq
end
theorem qf8:typeLookup (.type "ValueError") "__class__" =pure (some (.builtin "object.__class__")):=by kernel_rfl
section
variable{nm q:Str}{sn:List Str}{newId:String}
theorem qet{prog:Program}{w:World}{A:Around}{h:Heap}{g:Array GenState}{d:Drawn}{t:Nat}{os:OsState}{a:Addr}{o:Obj}{C:Addr}{N:Addr}{bs:List Value}{bm:List Value}{hdct:Bool}{sub:List Value}{ab:Bool}{col:Option Bool}{dd:Option Addr}{k0:Option Value}{k1:Option Value}{k2:Option Value}{k3:Option Value}{k5:Option Value}{R:Result->Shared->Prop}(hC:h.get? C=some (excClassObj nm q C N bs bm hdct sn sub ab col dd k0 k1 k2 k3 k5 newId))(T:qby h bmV bm)(hx:h.get? a=some o)(hc:o.cls= .ref C)(hq:R (.ok (.ret (.ref C))) ⟨h,g,d,t,os⟩):
  codeAny (model prog w) A (.call (.builtin "getset_descriptor.__get__") ⟨[.builtin "object.__class__",.ref a,.ref C],[]⟩) R ⟨h,g,d,t,os⟩:=by
 have hT5:(⟨h,g,d,t,os⟩:Shared).TypeIs (.builtin "object.__class__") "getset_descriptor" :=F.typeOf_object_class;have gw:(Value.ref C::bm).contains (.type (".".intercalate ("object.__class__".cutAt '.').dropLast))=true:=by rw[F.owner_object_class,List.contains_cons,T.tail.hasType (b:=true) (by decide)];rfl
 refine codeAny_call_builtin F.slot_gs_get.plain F.entry_gs_get (F.slot_gs_get.check _ _ _ _ _ _ _ _ hT5 (F.args_gs_get _ _ _) ?_)
 repeat (any_goals(first|assumption|(with_reducible refine Ve hx ?_;rw[hc])|(with_reducible refine wpAny_isSubtype_exc hC ?_;rw[gw])|wp_step))
 refine⟨Code.quiet_builtin _ (by decide+kernel),codeAny_builtin F.entry_object_class ?_⟩
 repeat (any_goals(first|assumption|(with_reducible refine Ve hx ?_;rw[hc])|wp_step))
theorem qdd{prog:Program}{w:World}{A:Around}{E:Value->Shared->Prop}{h:Heap}{g:Array GenState}{d:Drawn}{t:Nat}{os:OsState}{a:Addr}{o:Obj}{C:Addr}{N:Addr}{bs:List Value}{bm:List Value}{hdct:Bool}{sub:List Value}{ab:Bool}{col:Option Bool}{dd:Option Addr}{k0:Option Value}{k1:Option Value}{k2:Option Value}{k3:Option Value}{k5:Option Value}{mN:Str->Option Value}{tk:Tok}{Q:Fin->Shared->Prop}(hC:h.get? C=some (excClassObj nm q C N bs bm hdct sn sub ab col dd k0 k1 k2 k3 k5 newId))(hN:h.Ns N mN)(cx: ∀n∈qh9,mN n=none)(T:qby h bmV bm)(hx:h.get? a=some o)(hc:o.cls= .ref C)(hq:Q (.done (.ret (.ref C))) ⟨h,g,d,t,os⟩):
  wpAny (model prog w) A (Builtin.«object.__getattribute__» ⟨[.ref a,.str "__class__" tk],[]⟩) Q E ⟨h,g,d,t,os⟩:=by
 have f5:=F.typeOf_object_class;have f6:=F.slot_gs_get.lookup;have f7:=F.slot_gs_set.lookup;have hmA:("__class__" :Str)∈qh9:=.tail _ (.tail _ (.tail _ (.head _)))
 repeat (any_goals(first|assumption|(with_reducible refine Ve hx ?_;rw[hc])|with_reducible refine qbq hmA hC hN cx T qf8 ?_|wp_step))
 refine qet hC T hx hc ?_
 repeat (any_goals(first|assumption|wp_step))
theorem qfA{A:Around}{E:Value->Shared->Prop}{h:Heap}{g:Array GenState}{d:Drawn}{t:Nat}{os:OsState}{a:Addr}{o:Obj}{C:Addr}{N:Addr}{bs:List Value}{bm:List Value}{hdct:Bool}{sub:List Value}{ab:Bool}{col:Option Bool}{dd:Option Addr}{k0:Option Value}{k1:Option Value}{k2:Option Value}{k3:Option Value}{k5:Option Value}{M:Model}{cW:Value}{Q:Unit->Shared->Prop}(hC:h.get? C=some (excClassObj nm q C N bs bm hdct sn sub ab col dd k0 k1 k2 k3 k5 newId))(T:qby h bmV bm)(hx:h.get? a=some o)(hc:o.cls= .ref C)(hq:Q () ⟨h,g,d,t,os⟩):wpAny M A (checkBuiltinCall "BaseException.__getattribute__" ⟨[.ref a,cW],[]⟩) Q E ⟨h,g,d,t,os⟩:=by
 have hk:builtinKind "BaseException.__getattribute__" =some .slot:=by decide+kernel
 have dS:splitId "BaseException.__getattribute__" =some ("BaseException", "__getattribute__"):=by decide+kernel
 have gw:(Value.ref C::bm).contains (.type "BaseException")=true:=by rw[List.contains_cons,T.tail.hasType (b:=true) (by decide)];rfl
 have ha:=F.args_bexc_ga (.ref a) cW;simp only[checkBuiltinCall,hk,dS];refine Va ?_
 ·unfold isInstance
  repeat (first|(with_reducible refine Ve hx ?_;rw[hc])|(with_reducible refine wpAny_isSubtype_exc hC ?_;rw[gw])|wp_step)
  exact hq
theorem qdr{prog:Program}{w:World}{A:Around}{h:Heap}{g:Array GenState}{d:Drawn}{t:Nat}{os:OsState}{a:Addr}{o:Obj}{C:Addr}{N:Addr}{bs:List Value}{bm:List Value}{hdct:Bool}{sub:List Value}{ab:Bool}{col:Option Bool}{dd:Option Addr}{k0:Option Value}{k1:Option Value}{k2:Option Value}{k3:Option Value}{k5:Option Value}{mN:Str->Option Value}{tk:Tok}{R:Result->Shared->Prop}(hC:h.get? C=some (excClassObj nm q C N bs bm hdct sn sub ab col dd k0 k1 k2 k3 k5 newId))(hN:h.Ns N mN)(cx: ∀n∈qh9,mN n=none)(T:qby h bmV bm)(hx:h.get? a=some o)(hc:o.cls= .ref C)(hq:R (.ok (.ret (.ref C))) ⟨h,g,d,t,os⟩):
  codeAny (model prog w) A (.call (.builtin "BaseException.__getattribute__") ⟨[.ref a,.str "__class__" tk],[]⟩) R ⟨h,g,d,t,os⟩:=
 codeAny_call_builtin PySem.F.attrBase_ValueError.ga.plain F.entry_bexc_ga (qfA hC T hx hc (qdd hC hN cx T hx hc hq))
theorem qfz{prog:Program}{w:World}{A:Around}{E:Value->Shared->Prop}{h:Heap}{g:Array GenState}{d:Drawn}{t:Nat}{os:OsState}{a:Addr}{o:Obj}{C:Addr}{N:Addr}{bs:List Value}{bm:List Value}{hdct:Bool}{sub:List Value}{ab:Bool}{col:Option Bool}{dd:Option Addr}{k0:Option Value}{k1:Option Value}{k2:Option Value}{k3:Option Value}{k5:Option Value}{mN:Str->Option Value}{tk:Tok}{Q:Value->Shared->Prop}(hC:h.get? C=some (excClassObj nm q C N bs bm hdct sn sub ab col dd k0 k1 k2 k3 k5 newId))(hN:h.Ns N mN)(cx: ∀n∈qh9,mN n=none)(T:qby h bmV bm)(hx:h.get? a=some o)(hc:o.cls= .ref C)(hq:Q (.ref C) ⟨h,g,d,t,os⟩):
  wpAny (model prog w) A (getAttrBy (.ref a) (.str "__class__" tk) false) Q E ⟨h,g,d,t,os⟩:=by
 have f3:=F.attrBase_ValueError.ga.bind (.ref a);have fe:("__getattribute__" :Str)∈qh9:=.tail _ (.head _);have cH:("__getattr__" :Str)∈qh9:=.tail _ (.tail _ (.head _))
 repeat (any_goals(first|assumption|(with_reducible refine Ve hx ?_;rw[hc])|with_reducible refine qbq fe hC hN cx T F.attrBase_ValueError.ga.lookup ?_|with_reducible refine qbq cH hC hN cx T F.attrBase_ValueError.noGetattr ?_|wp_step))
 refine qdr hC hN cx T hx hc ?_
 repeat (any_goals(first|assumption|wp_step))
theorem qds{prog:Program}{w:World}{A:Around}{E:Value->Shared->Prop}{h:Heap}{g:Array GenState}{d:Drawn}{t:Nat}{os:OsState}{a:Addr}{o:Obj}{C:Addr}{bm:List Value}{Q:Option Value->Shared->Prop}(hX:qdm h C bm)(hx:h.get? a=some o)(hc:o.cls= .ref C)(hq:Q (some (.ref C)) ⟨h,g,d,t+1,os⟩):
  wpAny (model prog w) A (getAttr? (.ref a) "__class__") Q E ⟨h,g,d,t,os⟩:=by
 obtain⟨N,nm,q,bs,hdct,sn,sub,ab,col,dd,k0,k1,k2,k3,k5,mN,hC,hN,cx,T⟩:=hX;unfold getAttr? getAttrBy?
 repeat (any_goals(first|assumption|with_reducible apply qfz hC hN cx T hx hc|wp_step))
end
theorem qmj{K:W.Frag}{a C:Addr}{bm:List Value}(hK:(W.clsIn K C).isSome=true):W.KitX K (.ref a) (.ref C) (λh=>qdm h C bm/\∃o,h.get? a=some o/\o.cls= .ref C) where
 ty:=λM h _ p=>by obtain⟨_,o,h1,h2⟩:=p;exact h2▸(W.Looks.ld h1).andThen .now
 it:=λM h _ p=>by obtain⟨⟨N,nm,q,bs,hdct,sn,sub,ab,col,dd,k0,k1,k2,k3,k5,mN,hC,_⟩,_⟩:=p;intro A' Q' E' s' k q;unfold isType loadHead;exact Va (wpAny_loadPart (k _ _ hC) (Vb q))
 ne:=λh tp dd its n sl X htp=>by
  refine Bool.eq_false_iff.mpr λq=> ?_;have e:C=tp:=Value.ref.inj (beq_iff_eq.mp q);subst e;unfold W.clsIn at hK;split at hK
  ·rename_i c' d' cd' eY ho;have z:=(X _ _ ho).symm.trans htp;cases z
  ·cases hK
 ca:=λ{_ _ _ _ _ s} X p k=>by obtain⟨h,g,d,t,os⟩:=s;obtain⟨hX,o,h1,h2⟩:=p;exact qds hX h1 h2 k
section
theorem qfE:qat X (.builtin "isinstance") (λxs H Q=> ∃a C bm y c b,xs=[.ref a,y]/\H a=some (ExO a C)/\qdm X.base C bm/\(W.clsIn X.K C).isSome=true/\(∀u,RelV y u->u=c)/\W.kitOne X.K (.ref C) c=some b/\Q (.bl b) H):=by
 intro Z s σ H xs us Q I r h;obtain⟨a,C,bm,y,c,b,rfl,ha,hX,hK,hc,e,q⟩:=h;obtain⟨u,w',rfl,ru,ar⟩:=qiO r;obtain rfl:=hc _ ar;cases(ru);obtain⟨⟨o,e1,e2⟩,_⟩:=(I.hok a _ ha)
 exact W.kia_one (qmj hK) I.kIn ⟨hX.keeps I.bk,o,e1,e2⟩ e (λz=>nomatch z) λtk=>⟨.bl b,H,I.tok tk,rfl,q⟩
end
section
theorem qdK(k:Bool): ∀bs:List Bool,(bs.map Value.bool).countP (PyProof.Rows.isBoolOf k)=bs.countP (· ==k)
 |[]=>rfl
 |b::bs=>by rw[List.map_cons,List.countP_cons,List.countP_cons,qdK k bs];rfl
theorem qjC:MtR X "list.count" (λx vs H Q=> ∃(l:Addr)(bs:List Bool)(k:Bool),x= .ref l/\vs=[.bl k]/\H l=some (.lst (bs.map V.bl))/\Q (.int (bs.countP (· ==k):Nat)) H):=by
 intro Z s σ H x vs v us Q I rx rv h;obtain⟨l,bs,k,rfl,rfl,hH,q⟩:=h;cases rx;obtain⟨u,rfl,ru⟩:=qcd rv;cases ru;obtain⟨z,its,n,r,hl,e⟩:=I.lstM hH;have ei:=qcB r;subst ei;refine Vx F.slot_list_count ⟨_,e,rfl⟩ F.entry_list_count (F.args_list_count_2 _ _) (SeqAt.list_countAt l _ n _ _ _ (PyProof.Rows.isBoolOf k)) ⟨e,λy hy=> ?_,?_⟩
 ·have dO:y∈bs.map Value.bool:=by simpa using hy
  obtain⟨b,_,rfl⟩:=List.mem_map.mp dO;exact SeqAt.EqAt.bool_bool b k
 ·refine⟨.int _,H,I.tok _,⟨_,rfl⟩,?_⟩;rw[qdK];exact q
theorem qjB:MtR X "list.index" (λx vs H Q=> ∃(l:Addr)(bs:List Bool)(k:Bool)(j:Nat),x= .ref l/\vs=[.bl k]/\H l=some (.lst (bs.map V.bl))/\bs.length<=1000/\bs[j]? =some k/\(∀i,i<j->bs[i]? =some (!k))/\Q (.int (j:Nat)) H):=by
 intro Z s σ H x vs v us Q I rx rv h;obtain⟨l,bs,k,j,rfl,rfl,hH,hz,hj,hn,q⟩:=h;cases rx;obtain⟨u,rfl,ru⟩:=qcd rv;cases ru;obtain⟨z,its,n,r,hl,e⟩:=I.lstM hH;have ei:=qcB r;subst ei;have eF:j<bs.length:=(List.getElem?_eq_some_iff.mp hj).1;have at_: ∀i (hi:i<(bs.map Value.bool).toArray.size),(bs.map Value.bool).toArray[i]=Value.bool (bs.getD i false):=λi hi=>by
  have bK:i<bs.length:=by simpa using hi
  simp[List.getD_eq_getElem?_getD,bK]
 refine Vx F.slot_list_index ⟨_,e,rfl⟩ F.entry_list_index (F.args_list_index_2 _ _) (SeqAt.list_indexAt l _ n _ _ (.bool k) (PyProof.Rows.isBoolOf k) j (by simpa using eF) (by lia) ?_ ?_) ⟨e,λy hy=> ?_,?_⟩
 ·rw[at_ j (by simpa using eF)];simp[PyProof.Rows.isBoolOf,List.getD_eq_getElem?_getD,hj]
 ·intro m hm bJ;rw[at_ m hm];simp[PyProof.Rows.isBoolOf,List.getD_eq_getElem?_getD,hn m bJ]
 ·have dO:y∈bs.map Value.bool:=by simpa using hy
  obtain⟨b,_,rfl⟩:=List.mem_map.mp dO;exact SeqAt.EqAt.bool_bool b k
 ·exact⟨.int _,H,I.tok _,⟨_,rfl⟩,q⟩
end
end L2
namespace L2
open PySem PySem.Spec PyProof.Rows
section
variable{κ:Type}[DecidableEq κ]
noncomputable def qfO(kvs:List (κ×V))(k:κ):Option V:=(kvs.find? λkv=>decide (kv.1=k)).map (·.2)
noncomputable def qg4(kvs:List (κ×V))(k:κ)(v:V):List (κ×V):=
 if(kvs.any λkv=>decide (kv.1=k))=true then kvs.map (λkv=>if kv.1=k then(kv.1,v) else kv) else kvs++[(k,v)]
noncomputable def qgj(kvs:List (κ×V))(k:κ):List (κ×V):=kvs.filter λkv=>decide (kv.1≠k)
theorem qdT{p:κ×V}{r:List (κ×V)}{k:κ}(e:p.1=k):qfO (p::r) k=some p.2:=by simp[qfO,e]
theorem qdU{p:κ×V}{r:List (κ×V)}{k:κ}(e: ¬p.1=k):qfO (p::r) k=qfO r k:=by simp[qfO,e]
theorem qgK(k:κ): ∀kvs:List (κ×V),(kvs.any λkv=>decide (kv.1=k))=(qfO kvs k).isSome
 |[]=>rfl
 |p::r=>by
  rw[List.any_cons];by_cases e:p.1=k
  ·simp only[qdT e,decide_eq_true e,Bool.true_or,Option.isSome_some]
  ·rw[qdU e,decide_eq_false e];exact qgK k r
theorem qbX(kvs:List (κ×V))(k:κ)(v:V):(qg4 kvs k v).length<=kvs.length+1:=by
 unfold qg4
 grind
theorem qeB.isSome_eq(r:qeB o u):o.isSome=u.isSome:=by
 cases o with
 |none=>cases u with
  |none=>rfl
  |some _=>exact(r).elim
 |some _=>cases u with
  |none=>exact(r).elim
  |some _=>rfl
theorem KV.val(r:KV kvs vs)(k:κ):qeB (qfO kvs k) (valueAt vs k):=by
 induction r with
 |nil=>exact True.intro
 |@cons p q ps qs h t ih=>
  obtain⟨h1,h2⟩:=h;by_cases e:p.1=k
  ·have e':=h1.symm.trans e;have b:valueAt (q::qs) k=some q.2:=by simp[valueAt,e']
   rw[qdT e,b];exact h2
  ·have e': ¬q.1=k:=λz=>e (h1.trans z);have b:valueAt (q::qs) k=valueAt qs k:=by simp[valueAt,e']
   rw[qdU e,b];exact ih
theorem KV.any(r:KV kvs vs)(k:κ):(kvs.any λkv=>decide (kv.1=k))=vs.any λkv=>decide (kv.1=k):=by
 induction r with
 |nil=>rfl
 |cons h t ih=>simp_all
theorem KV.repl(r:KV kvs vs)(k:κ)(ry:RelV y u):
  KV (kvs.map λkv=>if kv.1=k then(kv.1,y) else kv) (vs.map λkv=>if kv.1=k then(kv.1,u) else kv):=by
 induction r with
 |nil=>exact .nil
 |@cons p q ps qs h t ih=>
  refine .cons ?_ ih;by_cases e:p.1=k
  ·simp_all
  simp_all
theorem KV.put(r:KV kvs vs)(k:κ)(ry:RelV y u):KV (qg4 kvs k y) (stored vs k u):=by
 unfold qg4 stored;rw[r.any k];by_cases e:(vs.any λkv=>decide (kv.1=k))=true
 ·rw[if_pos e,if_pos e];exact r.repl k ry
 ·rw[if_neg e,if_neg e];exact Paired.snoc r ⟨rfl,ry⟩
theorem KV.drop(r:KV kvs vs)(k:κ):KV (qgj kvs k) (without vs k):=by
 unfold qgj without
 induction r with
 |nil=>exact .nil
 |@cons p q ps qs h t ih=>
  obtain⟨h1,h2⟩:=h;rw[List.filter_cons,List.filter_cons];by_cases e:p.1=k
  ·simp_all
  ·have e': ¬q.1=k:=λz=>e (h1.trans z);have a:decide (p.1≠k)=true:=by simp[e]
   have b:decide (q.1≠k)=true:=by simp[e']
   rw[if_pos a,if_pos b];exact .cons ⟨h1,h2⟩ ih
theorem KV.length(r:KV kvs vs):kvs.length=vs.length:=Paired.length r
theorem qhB(kvs:List (κ×V))(k:κ):(qgj kvs k).length<=kvs.length:=List.length_filter_le _ _
end
theorem qfd(r:RelV (kV k) u):(qas P w).is k u=true:=by
 cases k with
 |inl i=>obtain⟨t,e⟩:=(r);subst e;exact qf4 P w i t
 |inr x=>obtain⟨t,e⟩:=(r);subst e;exact qf3 P w x t
theorem qfe: ∀{ks:List Key}{us:List Value},qau (ks.map kV) us->ItemsAre (qas P w) ks us
 |[],_,r=>by cases r;exact .nil
 |k::ks,_,r=>by
  cases r with
  |cons h t=>exact .cons (qfd h) (qfe t)
abbrev KT(H:Hp):List (List Key×V)->List (List Key×Addr×Value)->Prop:=Paired λp q=>p.1=q.1/\H q.2.1=some (.tup (p.1.map kV))/\RelV p.2 q.2.2
theorem KT.val(r:KT H kvs xs)(k:List Key):qeB (qfO kvs k) ((atKey xs k).map (·.2)):=by
 induction r with
 |nil=>exact True.intro
 |@cons p q ps qs h t ih=>
  obtain⟨h1,_,h2⟩:=h;by_cases e:p.1=k
  ·have e':=h1.symm.trans e;have b:atKey (q::qs) k=some q.2:=by simp[atKey,e']
   rw[qdT e,b];exact h2
  ·have e': ¬q.1=k:=λz=>e (h1.trans z);have b:atKey (q::qs) k=atKey qs k:=by simp[atKey,e']
   rw[qdU e,b];exact ih
theorem KT.repl(r:KT H kvs xs)(k:List Key)(ry:RelV y u):
  KT H (kvs.map λkv=>if kv.1=k then(kv.1,y) else kv) (xs.map (putAt k u)):=by
 induction r with
 |nil=>exact .nil
 |@cons p q ps qs h t ih=>
  refine .cons ?_ ih;unfold putAt;by_cases e:p.1=k
  ·simp_all
  simp_all
theorem KT.put(r:KT H kvs xs)(k:List Key)(hb:H b=some (.tup (k.map kV)))(ry:RelV y u):
  KT H (qg4 kvs k y) (storedH xs k b u):=by
 have e:(kvs.any λkv=>decide (kv.1=k))=(atKey xs k).isSome:=by rw[qgK,(r.val k).isSome_eq,Option.isSome_map]
 unfold qg4 storedH;rw[e];by_cases q:(atKey xs k).isSome=true
 ·rw[if_pos q,if_pos q];exact r.repl k ry
 ·rw[if_neg q,if_neg q];exact Paired.snoc r ⟨rfl,hb,ry⟩
theorem KT.keeps(r:KT H kvs xs)(ht: ∀b ys,H b=some (.tup ys)->H' b=some (.tup ys)):KT H' kvs xs:=
 Paired.mapP r λ_ _ z=>⟨z.1,ht _ _ z.2.1,z.2.2⟩
section
theorem qrC(ok:HOk P w H h)(e:Rd H a u):qaG P w H h a u:=e.ok ok
theorem qcz(ok:HOk P w H h)(e:Rd H a (.dK kvs)):kvs.length<=sizeLine/\(a==sysModules)=false/\∃vs,KV kvs vs/\h.DictOf (qas P w) a vs:=
 qrC ok e
theorem qmJ(ok:HOk P w H h)(e:H a=some (.dK kvs)):kvs.length<=sizeLine/\(a==sysModules)=false/\∃vs,KV kvs vs/\h.DictOf (qas P w) a vs:=qcz ok (.inl e)
theorem qfb(ok:HOk P w H h)(e:H a=some (.tup (ks.map kV))):(tupleKind (qas P w)).is h ks a:=by
 obtain⟨_,its,r,o,h1,h2,n,h3⟩:=(ok a _ e)
 exact⟨o,its.toArray,n,h1,h2,h3,by simpa using qfe r⟩
theorem qky(ok:HOk P w H h)(e:Rd H a (.dT kvs)):kvs.length<=sizeLine/\(a==sysModules)=false/\
  ∃xs,KT H kvs xs/\h.DictOfH (tupleKind (qas P w)) a xs:=by
 obtain⟨z,y,xs,r,o,es,ep,h1,h2,h3,h4,h5⟩:=(qrC ok e)
 refine⟨z,y,xs,r,o,es,ep,h1,h2,h3,h4,λx hx=> ?_,h5⟩;have all: ∀{l } {m },KT H l m->∀x∈m,(tupleKind (qas P w)).is h x.1 x.2.1:=by
  intro l m q
  induction q with
  |nil=>simp
  |@cons p q ps qs hq t ih=>
   intro x hx
   rcases List.mem_cons.mp hx with e|hx
   ·exact qfb ok (by grind)
   ·exact ih x hx
 exact all r x hx
theorem qtp(ok:HOk P w H h)(e:H a=some (.dT kvs)):kvs.length<=sizeLine/\(a==sysModules)=false/\
  ∃xs,KT H kvs xs/\h.DictOfH (tupleKind (qas P w)) a xs:=qky ok (.inl e)
end
noncomputable def qlg(H:Hp)(a:Addr)(y:V)(r:Option V):Prop:=
 (∃kvs k,Rd H a (.dK kvs)/\y=kV k/\r=qfO kvs k)\/∃kvs k b,Rd H a (.dT kvs)/\y= .ref b/\H b=some (.tup (k.map kV))/\r=qfO kvs k
noncomputable def qyP(H:Hp)(a:Addr)(y v:V)(H':Hp):Prop:=
 (∃kvs k,H a=some (.dK kvs)/\y=kV k/\kvs.length<sizeLine/\H'=upd H a (.dK (qg4 kvs k v)))\/
 ∃kvs k b,H a=some (.dT kvs)/\y= .ref b/\H b=some (.tup (k.map kV))/\kvs.length<sizeLine/\H'=upd H a (.dT (qg4 kvs k v))
section
theorem Inv.big(I:Inv X Z σ H s):sysModules<s.heap.objs.size:=by have h:=(I.mod.glob.keeps I.bk).lt;exact Nat.lt_trans (by decide) h
theorem qkI(hu:A.units+1<cLine)(I:Inv X Z σ H s)(g:qlg H a y (some v))(ry:RelV y u)(h: ∀w' s',Inv X Z σ H s'->RelV v w'->Q w' s'):
  wpAny (model X.prog X.w) A (getItem (.ref a) u) Q E s:=by
 rcases g with⟨kvs,k,e,ey,l⟩|⟨kvs,k,b,e,ey,eb,l⟩
 ·subst ey;obtain⟨z,hd,vs,rel,dd⟩:=qcz I.hok e;obtain⟨w',hw,ar⟩:=qeB.some_of (by rw[l];exact rel.val k);exact wpAny_getItem_of (qfd ry) dd.mapOf hw (h w' _ (I.tok _) ar)
 ·subst ey;cases(ry);obtain⟨z,hd,xs,rel,dd⟩:=qky I.hok e;obtain⟨w',hw,ar⟩:=qeB.some_of (by rw[l];exact rel.val k);obtain⟨p,hp,dZ⟩:=Option.map_eq_some_iff.mp hw;refine wpAny_getItem_heap (tupleKind_room_in1 hu) (qfb I.hok eb) dd hp ?_;rw[dZ];exact h w' _ (I.tok _) ar
theorem qxs(hu:A.units+1<cLine)(I:Inv X Z σ H s)(g:qlg H a y o)(ry:RelV y u)(h: ∀s',Inv X Z σ H s'->Q (.bool o.isSome) s'):
  wpAny (model X.prog X.w) A (compareOp .In u (.ref a)) Q E s:=by
 rcases g with⟨kvs,k,e,ey,l⟩|⟨kvs,k,b,e,ey,eb,l⟩
 ·subst ey;obtain⟨z,hd,vs,rel,dd⟩:=qcz I.hok e;refine wpAny_in_of (qfd ry) hd dd.mapOf ?_;rw[<-(rel.val k).isSome_eq,<-l];exact h _ (I.tok _)
 ·subst ey;cases(ry);obtain⟨z,hd,xs,rel,dd⟩:=qky I.hok e;refine wpAny_in_heap (tupleKind_room_in1 hu) (qfb I.hok eb) hd dd ?_;have q:=(rel.val k).isSome_eq;rw[Option.isSome_map] at q;rw[<-q,<-l];exact h _ (I.tok _)
theorem qkH(hu:A.units+1<cLine)(I:Inv X Z σ H s)(g:qlg H a y o)(ry:RelV y u)(h: ∀s',Inv X Z σ H s'->Q (.bool (!o.isSome)) s'):
  wpAny (model X.prog X.w) A (compareOp .NotIn u (.ref a)) Q E s:=by
 rcases g with⟨kvs,k,e,ey,l⟩|⟨kvs,k,b,e,ey,eb,l⟩
 ·subst ey;obtain⟨z,hd,vs,rel,dd⟩:=qcz I.hok e;refine wpAny_notIn_of (qfd ry) hd dd.mapOf ?_;rw[<-(rel.val k).isSome_eq,<-l];exact h _ (I.tok _)
 ·subst ey;cases(show u=Value.ref b from ry);obtain⟨z,hd,xs,rel,dd⟩:=qky I.hok e;refine wpAny_notIn_heap (tupleKind_room_in1 hu) (qfb I.hok eb) hd dd ?_;have q:=(rel.val k).isSome_eq;rw[Option.isSome_map] at q;rw[<-q,<-l];exact h _ (I.tok _)
theorem qeq(I:Inv X Z σ H s)(mu:Mut (H a))(hs:Heap.SameBut a s.heap h')(he: ∃q,h'.get? a=some q)(new:qaG X.prog X.w (upd H a ob) h' a ob):
  Inv X Z σ (upd H a ob) { s with heap:=h',toks:=t' }:=
 I.write mu (.inl rfl) (λb q hb z=>(hs.2 b hb).trans z) he new
theorem qfu(z:kvs.length<=sizeLine)(hd:(a==sysModules)=false)(rel:KV kvs vs)(dd:h'.DictOf (qas P w) a vs):
  qaG P w H' h' a (.dK kvs):=⟨z,hd,vs,rel,dd⟩
theorem qdc(hu:A.units+1<cLine)(I:Inv X Z σ H s)(g:qyP H a y v H')(ry:RelV y u)(rv:RelV v r)(h: ∀s',Inv X Z σ H' s'->Q () s'):
  wpAny (model X.prog X.w) A (setItem (.ref a) u r) Q E s:=by
 rcases g with⟨kvs,k,e,ey,l,eH⟩|⟨kvs,k,b,e,ey,eb,l,eH⟩
 ·subst ey eH;obtain⟨z,hd,vs,rel,dd⟩:=qmJ I.hok e;have hz:vs.length<=sizeLine:=by rw[<-rel.length];exact z
  have hl:(qg4 kvs k v).length<=sizeLine:=by have:=qbX kvs k v;omega
  refine wpAny_setItem_pairs (hsz:=hz) (qfd ry) dd λh' bV hs=>h _ ?_;have he: ∃q,h'.get? a=some q:=let ⟨q,_,_,hq,_⟩:=bV;⟨q,hq⟩
  exact qeq I (by rw[e];exact True.intro) hs he (qfu hl hd (rel.put k rv) bV)
 ·subst ey eH;cases(show u=Value.ref b from ry);obtain⟨z,hd,xs,rel,dd⟩:=qtp I.hok e;have hz:xs.length<=sizeLine:=by rw[<-Paired.length rel];exact z
  have hl:(qg4 kvs k v).length<=sizeLine:=by have:=qbX kvs k v;omega
  refine wpAny_setItem_heap (hsz:=hz) (tupleKind_room_in1 hu) (qfb I.hok eb) dd λh' bV hs=>h _ ?_;obtain⟨q,es,ep,hq,h2,h3,h4,_,h5⟩:=bV;refine qeq I (by rw[e];exact True.intro) hs ⟨q,hq⟩ ⟨hl,hd,_,(rel.put k eb rv).keeps λc ys ec=> ?_,q,es,ep,hq,h2,h3,h4,h5⟩;rw[qac (qvP ec e (λz=>nomatch z))];exact ec
end
section
theorem qtP(I:Inv X Z σ H s)(e:H a=some (.dK kvs))(ry:RelV (kV k) u)(l:(qfO kvs k).isSome=true)(h: ∀s',Inv X Z σ (upd H a (.dK (qgj kvs k))) s'->Q () s'):
  wpAny (model X.prog X.w) A (delItem (.ref a) u) Q E s:=by
 obtain⟨z,hd,vs,rel,dd⟩:=qmJ I.hok e
 refine wpAny_delItem_slot dd.typeIs (by decide) F.slot_dict_delitem
  (call_meetsIn F.slot_dict_delitem dd.typeIs F.entry_dict_delitem (F.args_dict_delitem_2 _ _) (meets_dict_delitem_pairs _ a (qfd ry)) ⟨vs,dd,by rw[<-rel.length];exact z,by rw[<-(rel.val k).isSome_eq];exact l,λh' bV hs=>h _ ?_⟩)
 have he: ∃q,h'.get? a=some q:=let ⟨q,_,_,hq,_⟩:=bV;⟨q,hq⟩
 exact qeq I (by rw[e];exact True.intro) hs he (qfu (Vp (qhB kvs k) z) hd (rel.drop k) bV)
theorem qww(I:Inv X Z σ H s)(e:H a=some (.dK kvs))(ry:RelV (kV k) u)(l:qfO kvs k=some v)(hm:more=[]\/∃x,more=[x])(h: ∀w' s',Inv X Z σ (upd H a (.dK (qgj kvs k))) s'->RelV v w'->Q w' s'):wpAny (model X.prog X.w) A (call (.builtin "dict.pop") (.ref a::u::more)) Q E s:=by
 obtain⟨z,hd,vs,rel,dd⟩:=qmJ I.hok e;obtain⟨w',hw,ar⟩:=qeB.some_of (v:=v) (o:=valueAt vs k) (by rw[<-l];exact rel.val k);have hp:(keyPart u).isSome=true:=by
  cases k with
  |inl i|inr x=>obtain⟨t,q⟩:=(ry);subst q;rfl
 have ha:argsOk "dict.pop" ⟨.ref a::u::more,[]⟩:=by
  rcases hm with q|⟨x,q⟩
  ·subst q;exact F.args_dict_pop_2 _ _
  ·subst q;exact F.args_dict_pop_3 _ _ _
 refine call_meetsIn F.slot_dict_pop dd.typeIs F.entry_dict_pop ha (meets_dict_pop_there (qas X.prog X.w) a (qfd ry) more hm hp)
  ⟨vs,w',dd,by rw[<-rel.length];exact z,hw,λh' bV hs=>h w' _ ?_ ar⟩
 have he: ∃q,h'.get? a=some q:=let ⟨q,_,_,hq,_⟩:=bV;⟨q,hq⟩
 exact qeq I (by rw[e];exact True.intro) hs he (qfu (Vp (qhB kvs k) z) hd (rel.drop k) bV)
theorem qwx(I:Inv X Z σ H s)(e:Rd H a (.dK kvs))(h: ∀t s',Inv X Z σ H s'->Q (.int kvs.length t) s'):wpAny (model X.prog X.w) A (call (.builtin "len") [.ref a]) Q E s:=by obtain⟨z,hd,vs,rel,dd⟩:=qcz I.hok e;refine call_len_dict hd dd (by rw[<-rel.length];rw[sizeLine_eq] at z;omega) ?_;rw[<-rel.length];exact h _ _ (I.tok _)
end
theorem qgk(I:Inv X Z σ H s)(g:qlg H a y o):s.TypeIs (.ref a) "dict" :=by
 rcases g with⟨kvs,k,e,_,_⟩|⟨kvs,k,b,e,_,_,_⟩
 ·obtain⟨_,_,vs,_,dd⟩:=qcz I.hok e;exact dd.typeIs
 ·obtain⟨_,_,xs,_,dd⟩:=qky I.hok e;exact dd.typeIs
theorem qmK(h:Heap)(hb:sysModules<h.objs.size):qaG P w H (h.push { cls:=.type "dict",data:=.dict #[] }) h.objs.size (.dK []):=
 ⟨Nat.zero_le _,beq_eq_false_iff_ne.mpr (Ne.symm (Vn hb)),[],.nil,Heap.DictOf.new h⟩
noncomputable def qrp:TE:=λ_ H Q=> ∀p,H p=none->Q (.ref p) (upd H p (.dK []))
section
theorem qlX:PE X (.Dict [] [] pos) qrp:=λZ s σ H Q I h=>
 wpAny_Dict_empty ⟨.ref _,_,I.laid (λ_ _ q=>Vg _ q) (Vl _) (qmK _ I.big),rfl,h _ (I.hok.fresh (Vl _))⟩
end
structure M1(X:Cx)(o:Expr)(m:Str)(apos:Pos)(e:Expr)(cpos:Pos):Prop where
 base:attributeBase o m X.env (eval o X.env)=eval o X.env
 few:((backTo cpos (starEach [e] X.env)).all (λx=> !x.1)&&(backToKw cpos (keywordEach [] X.env)).all (λx=>x.1.isSome)
  &&decide (([e]:List Expr).length+([]:List Keyword).length+(if([]:List Keyword).isEmpty then 0 else 1)<30))=true
 line:(apos.endLine==cpos.line)=true
 trees:backTo cpos (starEach [e] X.env)=[(false,eval e X.env)]
structure M2(X:Cx)(o:Expr)(m:Str)(apos:Pos)(e f:Expr)(cpos:Pos):Prop where
 base:attributeBase o m X.env (eval o X.env)=eval o X.env
 few:((backTo cpos (starEach [e,f] X.env)).all (λx=> !x.1)&&(backToKw cpos (keywordEach [] X.env)).all (λx=>x.1.isSome)
  &&decide (([e,f]:List Expr).length+([]:List Keyword).length+(if([]:List Keyword).isEmpty then 0 else 1)<30))=true
 line:(apos.endLine==cpos.line)=true
 trees:backTo cpos (starEach [e,f] X.env)=[(false,eval e X.env),(false,eval f X.env)]
noncomputable def IsD(H:Hp)(a:Addr):Prop:=(∃kvs,Rd H a (.dK kvs))\/∃kvs,Rd H a (.dT kvs)
section
theorem qmR(I:Inv X Z σ H s)(e:Rd H a (.dK kvs))(h: ∀p s',H p=none->Inv X Z σ (upd H p (.dK kvs)) s'->Q (.ref p) s'):wpAny (model X.prog X.w) A (call (.type "dict") [.ref a]) Q E s:=by obtain⟨z,hd,vs,rel,dd⟩:=qcz I.hok e;refine kt_call_dict hd dd (by rw[<-rel.length];exact z) λh' bV hs=> ?_;refine h _ _ (I.hok.fresh (Vl _)) (I.laid (λb q hq=> ?_) (Vl _) (qfu z (beq_eq_false_iff_ne.mpr (Ne.symm (Vn I.big))) rel bV));exact(hs.2 b (Vn (Vi hq))).trans (Vg _ hq)
end
end L2
namespace RH
open PySem L2
abbrev Rw:=Int×Str×Int
noncomputable def qyI(rs:List Rw)(k:Str):List Int:=(rs.filter λr=>decide (r.2.1=k)).map (·.2.2)
noncomputable def outT(g:List Int->Rw->Option Rw)(rs:List Rw)(i:Nat):List Rw:=(List.range i).filterMap λj=>(rs[j]?).bind λr=>g (qyI (rs.take j) r.2.1) r
open PySem.Spec PyProof.Rows
noncomputable def pickL{α:Type}(xs:List α)(lo hi st:Option Int):List α:=(sliceRange (sliceBounds lo hi st xs.length).1 (sliceBounds lo hi st xs.length).2.1 (sliceBounds lo hi st xs.length).2.2).filterMap (xs[·]?)
end RH
namespace L2
open PySem PySem.Spec PyProof.Rows
end L2
namespace RH
open PySem L2
open PySem.Spec PyProof.Rows
end RH
namespace St
open PySem PySem.W PySem.Calls PyProof.Rows
section
theorem qfT(h:n<2):qdj kz n (List.toArray (List.range n)):=by
 refine⟨⟨by simp,λi hi=> ?_,λi q1 q2=>by lia⟩,λi j aW hj=>by lia⟩;unfold g
 simp_all
theorem qpr{s:Shared}{vs:List Value}{kz:List Int}{h0:Heap}{n:Nat}(ho:s.heap.get? D=some (seqObj "list" vs.toArray n))(hlen:kz.length=vs.length)(fj:vs.length<64)(kp:Kp h0 s.heap)(g7:h0.get? D=none)(kind: ∀s':Shared,Kp h0 s'.heap->2<=vs.length->∀Q:SortKind->Shared->Prop,Q κ s'->wpAny (model prog w) A (keyKind' vs.toArray) Q E s')(cmp: ∀s':Shared,Kp h0 s'.heap->∀i j,i<vs.length->j<vs.length->∀C:Bool->Shared->Prop,C (decide (kz.getD i 0<kz.getD j 0)) s'->wpAny (model prog w) A (keyLt' κ (vs.getD i Value.none) (vs.getD j Value.none)) C (λ_ _=>False) s')(h: ∀h' tk c (p:Array Nat),Kp h0 h'->qdj kz vs.length p->h'.get? D=some (seqObj "list" (List.toArray (p.toList.map λi=>vs.getD i Value.none)) c)->P (.done (.ret .none)) { s with heap:=h',toks:=tk }):
  wpAny (model prog w) A (Builtin.«list.sort» ⟨[.ref D],[]⟩) P E s:=by
 rw[list_sort_plain];have s1:=Heap.SameBut.update s.heap D (Obj.mapSeq λ_=>(#[]:Array Value));obtain⟨e1,gj⟩: ∃e1,(s.heap.update D (Obj.mapSeq λ_=>(#[]:Array Value))).get? D=some (seqObj "list" #[] e1):=⟨_,get?_update_seq ho λ_=> #[]⟩
 refine Va (listItems_at ho rfl ?_);refine Va (listUpdate_at ho rfl ?_ (by rw[List.size_toArray,sizeLine_eq];lia) (Nat.zero_le _));refine Va (seqEpoch_at gj rfl ?_);generalize jY:s.heap.update D (Obj.mapSeq λ_=>(#[]:Array Value))=H2 at gj s1⊢;have kp3:Kp h0 H2:=λb o z=>(s1.2 b (λq=>by rw[q,g7] at z;cases z)).trans (kp b o z);refine Va (wpAny_newTuple ?_ (by show vs.length<=_;rw[sizeLine_eq];lia));refine Va (wpAny_newList ?_ (Nat.zero_le _));refine wpAny_holding ?_;generalize gz:(H2.push (seqObj "tuple" vs.toArray 0)).push (seqObj "list" #[] 0)=H3;have je:H3.get? D=some (seqObj "list" #[] e1):=by rw[<-gz];exact Vg _ (Vg _ gj)
 have iD:Kp h0 H3:=λb o z=>by rw[<-gz];exact Vg _ (Vg _ (kp3 b o z))
 have fin: ∀(st:SortSt)(p:Array Nat),qdj kz vs.length p->(arrOf st).map (·.2)=List.toArray (p.toList.map λi=>vs.getD i Value.none)->failedOf st=none->
   wpAny (model prog w) A (do
    let touched:=(<-seqEpoch D) != e1
    Builtin.List.listUpdate (.ref D) λ_=>(arrOf st).map (·.2)
    if let some e:=failedOf st then rule "list.sort.comparison-raised";throw e
    if touched then rule "list.sort.modified";raiseError "ValueError" "list modified during sort"
    ret .none) P E { s with heap:=H3 }:=λst p bE i9 hfl=>by
  have hsz:(p.toList.map λi=>vs.getD i Value.none).length=vs.length:=by rw[List.length_map,Array.length_toList,bE.1.sz]
  refine Va (seqEpoch_at je rfl ?_);rw[i9];refine Va (listUpdate_at je rfl ?_ (Nat.zero_le _) (by show(List.toArray _).size<=_;rw[List.size_toArray,hsz,sizeLine_eq];lia));rw[hfl];simp only[bne_self_eq_false,Bool.false_eq_true,if_false];have iT: ∃c,(H3.update D (Obj.mapSeq λ_=>List.toArray (p.toList.map λi=>vs.getD i Value.none))).get? D=some (seqObj "list" (List.toArray (p.toList.map λi=>vs.getD i Value.none)) c):=⟨_,get?_update_seq je λ_=>List.toArray (p.toList.map λi=>vs.getD i Value.none)⟩
  obtain⟨c,hc⟩:=iT;refine Vb (h _ _ c p (λb o q=> ?_) bE hc);have nD:b≠D:=λz=>by rw[z,g7] at q;cases q
  exact((Heap.SameBut.update H3 D _).2 b nD).trans (iD b o q)
 by_cases h2:vs.toArray.size<2
 ·rw[if_pos h2,if_pos h2];refine Va (Vb ?_);dsimp only;rw[StateT.run_pure];refine Va (Vb ?_);rw[List.size_toArray] at h2;refine fin _ _ (qfT h2) ?_ rfl;show(vs.toArray.zip vs.toArray).map (·.2)=_;apply Array.toList_inj.mp;rw[Array.toList_map,ksk_zip,List.toList_toArray,List.toList_toArray];rw[show(vs.zip vs).map (λx:Value×Value=>x.2)=vs from List.map_snd_zip (by lia)];apply List.ext_getElem
  ·simp
  ·intro i h3 h4;simp[List.getElem?_eq_getElem h3]
 ·rw[if_neg h2,if_neg h2];rw[List.size_toArray] at h2;refine Va (kind { s with heap:=H3 } iD (by lia) _ ?_)
  have run:=kat_run (prog:=prog) (w:=w) (A:=A) (E:=E) (s:={ s with heap:=H3 }) (κ:=κ) (ks:=vs) (vs:=vs) (Q:=λst s'=>s'={ s with heap:=H3 }/\∃p,qdj kz vs.length p/\(arrOf st).map (·.2)=List.toArray (p.toList.map λi=>vs.getD i Value.none)/\failedOf st=none)
   (G:=λp s'=>s'={ s with heap:=H3 }/\qdj kz vs.length p) rfl (by lia) fj (λp aR s' a1 a2 a3 a4=>⟨a4.1,p,a4.2,kat_snds rfl a2,a3⟩)
   (qj9 (ask:=asks λi=>kz.getD i 0) (N:=vs.length) (λi j C hi hj hc=>cmp { s with heap:=H3 } iD i j hi hj C hc) (λp hp=>⟨rfl,hp⟩) (qox (by lia)))
  refine Va (Vc run (λr s' hr=> ?_) λ_ _ x=>x);obtain⟨rfl,p,bE,i9,hf⟩:=hr;exact fin _ p bE i9 hf
end
end St
namespace SR
section
noncomputable def ins{α:Type}(k:α->Int)(r:α):List α->List α
 |[]=>[r]
 |x::l=>if k x<=k r then x::ins k r l else r::x::l
noncomputable def srt{α:Type}(k:α->Int)(l:List α):List α:=l.foldl (λa r=>ins k r a) []
theorem qdY:srt k (l++[r])=ins k r (srt k l):=by unfold srt;simp
theorem qj3{α:Type}{β:Type}{k:α->Int}{k':β->Int}{f:β->α}(h: ∀b,k' b=k (f b))(r:β): ∀l:List β,(ins k' r l).map f=ins k (f r) (l.map f)
 |[]=>rfl
 |x::l=>by
  show List.map f (if k' x<=k' r then x::ins k' r l else r::x::l)=(if k _<=k _ then f x::ins k _ _ else f r::f x::l.map f)
  rw[h x,h r];by_cases c:k (f x)<=k (f r)
  ·rw[if_pos c,if_pos c,List.map_cons,qj3 h r l]
  ·rw[if_neg c,if_neg c,List.map_cons,List.map_cons]
theorem qov{α:Type}{β:Type}{k:α->Int}{k':β->Int}{f:β->α}(h: ∀b,k' b=k (f b))(l:List β):(srt k' l).map f=srt k (l.map f):=by
 have go: ∀(l a:List β),(l.foldl (λa r=>ins k' r a) a).map f=(l.map f).foldl (λa r=>ins k r a) (a.map f):=by
  intro l
  induction l with
  |nil=>intro a;rfl
  |cons x l ih=>intro a;rw[List.foldl_cons,ih,List.map_cons,List.foldl_cons,qj3 h]
 exact go l []
theorem qf5: ∀{l:List α},x∈ins k r l↔x=r\/x∈l
 |[]=>by simp[ins]
 |y::l=>by
  unfold ins;by_cases c:k y<=k r
  ·rw[if_pos c,List.mem_cons,qf5];constructor
   ·grind
   grind
  ·rw[if_neg c,List.mem_cons]
theorem qdB: ∀{l:List α},(ins k r l).length=l.length+1
 |[]=>rfl
 |y::l=>by
  unfold ins;by_cases c:k y<=k r
  ·rw[if_pos c,List.length_cons,qdB,List.length_cons]
  ·rw[if_neg c];rfl
theorem qee(l:List α):x∈srt k l↔x∈l:=by
 have go: ∀(l a:List α),x∈l.foldl (λa r=>ins k r a) a↔x∈a\/x∈l:=by
  intro l
  induction l with
  |nil=>simp
  |cons y l ih=>
   intro a;rw[List.foldl_cons,ih,qf5,List.mem_cons];constructor
   ·rintro((h|h)|h)
    ·exact .inr (.inl h)
    ·exact .inl h
    ·exact .inr (.inr h)
   ·rintro(h|h|h)
    ·exact .inl (.inr h)
    ·exact .inl (.inl h)
    ·exact .inr h
 rw[show srt k l=l.foldl _ [] from rfl,go];simp
theorem qio(l:List α):(srt k l).length=l.length:=by
 have go: ∀(l a:List α),(l.foldl (λa r=>ins k r a) a).length=a.length+l.length:=by
  intro l
  induction l with
  |nil=>simp
  |cons y l ih=>intro a;rw[List.foldl_cons,ih,qdB,List.length_cons];lia
 have:=go l [];simpa [srt] using this
noncomputable def Ris{α:Type}(k:α->Int)(l:List α):Prop:=l.Pairwise λa b=>k a<=k b
end
section
structure Ord(lt:α->α->Bool):Prop where
 irr: ∀a,lt a a=false
 tr: ∀a b c,lt a b=true->lt b c=true->lt a c=true
 tot: ∀a b,lt a b=false->lt b a=false->a=b
noncomputable def qh7{α:Type}(lt:α->α->Bool)(as:List α)(a:α):Int:=(as.countP λx=>lt x a:Nat)
theorem qfx{α:Type}{p q:α->Bool}(h: ∀x,p x=true->q x=true): ∀l:List α,l.countP p<=l.countP q
 |[]=>Vl _
 |x::l=>by
  have ih:=qfx h l;rw[List.countP_cons,List.countP_cons];cases e:p x with
  |true=>simp_all
  |false=>lia
theorem qfw{α:Type}{p q:α->Bool}(h: ∀x,p x=true->q x=true){a:α}(ha:p a=false)(hb:q a=true): ∀{l:List α},a∈l->l.countP p<l.countP q
 |x::l,hm=>by
  rw[List.countP_cons,List.countP_cons];have le:=qfx h l
  rcases List.mem_cons.mp hm with rfl|hm
  ·lia
  ·have ih:=qfw h ha hb hm;cases e:p x with
   |true=>simp_all
   |false=>lia
theorem qoE{α:Type}{lt:α->α->Bool}(o:Ord lt){as:List α}{a b:α}(ha:a∈as)(hb:b∈as):decide (qh7 lt as a<qh7 lt as b)=lt a b:=by
 have up: ∀{a b },a∈as->lt a b=true->qh7 lt as a<qh7 lt as b:=λ{a b} ha h=>by unfold qh7;have:=qfw (λx hx=>o.tr x a b hx h) (o.irr a) h ha;lia
 cases h:lt a b with
 |true=>simp_all
 |false=>
  cases h2:lt b a with
  |true=>have:=up hb h2;lia
  |false=>have:=o.tot a b h h2;lia
noncomputable def qrv{α:Type}(lt:α->α->Bool)(as:List α):List α:=srt (qh7 lt as) as
theorem qg8: ∀l:List α,List.Perm (ins k r l) (r::l)
 |[]=>List.Perm.refl _
 |x::l=>by
  show List.Perm (if k x<=k r then x::ins k r l else r::x::l) _;by_cases c:k x<=k r
  ·rw[if_pos c];exact((qg8 l).cons x).trans (List.Perm.swap r x l)
  ·rw[if_neg c]
theorem perm_srt(l:List α):List.Perm (srt k l) l:=by
 have go: ∀(l a:List α),List.Perm (l.foldl (λa r=>ins k r a) a) (a++l):=by
  intro l
  induction l with
  |nil=>simp
  |cons x l ih=>intro a;refine(ih _).trans ?_;refine((qg8 a).append_right l).trans ?_;exact List.perm_middle.symm
 exact go l []
end
end SR
namespace L2
open PySem PySem.Spec PySem.Calls PyProof.Rows PySem.W
noncomputable def qd5(K:Frag)(N:Addr):Bool:=nsOkIn K N&&qh9.all λn=>nsIn K N n==some none
theorem qbf{K:Frag}{h:Heap}(X:K.In h)(e:qd5 K N=true):h.Ns N (h.nsMap N)/\∀n∈qh9,h.nsMap N n=none:=by unfold qd5 at e;rw[Bool.and_eq_true] at e;exact⟨.of_isNs (isNs_of_in X e.1),λn hn=>nsMap_none_of_in X e.1 (beq_iff_eq.mp (List.all_eq_true.mp e.2 n hn))⟩
noncomputable def qfQ(K:Frag)(bmB:List Value):List Value->Bool
 |[]=>bmB==[]
 |v::r=>(v::r)==bmB||match v with
  |.ref A=>(match K.lookup A with
   |some ⟨_,_,.cls cd,_⟩=>qd5 K cd.ns&&qfQ K bmB r
   |_=>false)
  |_=>false
theorem qcM{K:Frag}(X:K.In h): ∀{l:List Value},qfQ K bmB l=true->qby h bmB l
 |[],e=>by rw[<-beq_iff_eq.mp e];exact .base
 |v::r,e=>by
  rcases Bool.or_eq_true_iff.mp e with q|q
  ·rw[beq_iff_eq.mp q];exact .base
  ·split at q
   ·split at q
    ·rename_i ho;rw[Bool.and_eq_true] at q;exact .own (X _ _ ho) (qbf X q.1).1 (qbf X q.1).2 (qcM X q.2)
    ·cases q
   ·cases q
noncomputable def qc8(K:Frag)(C:Addr)(bm:List Value):Bool:=match K.lookup C with
 |some ⟨.type "type",_,.cls cd,sl⟩=>(match cd.mro,sl.toList with
  |.ref C'::ku,[_,_,_,_,some (.builtin n),_]=>C'==C&&ku==bm&&n== "ValueError.__new__" && !cd.hasDel&&qfQ K bmV bm&&qd5 K cd.ns
  |_,_=>false)
 |_=>false
theorem qci{K:Frag}(X:K.In h)(q:qc8 K C bm=true):qdm h C bm:=by
 unfold qc8 at q;split at q
 ·rename_i dd cd sl ho;split at q
  ·rename_i C' ku k0 k1 k2 k3 n k5 hm hs;simp only[Bool.and_eq_true,beq_iff_eq,Bool.not_eq_true'] at q;obtain⟨⟨⟨⟨⟨rfl,rfl⟩,rfl⟩,iU⟩,ht⟩,hok⟩:=q;obtain⟨nm,bs,mro,ns,qn,hd,sn,sub,ab,col,del⟩:=cd;subst hm iU;have hsl:sl= #[k0,k1,k2,k3,some (.builtin "ValueError.__new__"),k5]:=by
    obtain⟨l⟩:=sl
    grind
   subst hsl;exact⟨ns,nm,qn,bs,hd,sn,sub,ab,col,dd,k0,k1,k2,k3,k5,_,X _ _ ho,(qbf X hok).1,(qbf X hok).2,qcM X ht⟩
  ·cases q
 ·cases q
end L2
namespace NV
open PySem L2
inductive T where
 |non|bl (b:Bool)|int (i:Int)|str (s:Str)|tup (ts:List T)|lst (ts:List T)|dct (kvs:List (Key×T))|fn (x:Str)|scr (ns:List Int)|obj (k:Nat)|exc (c:Str)
inductive Ct where
 |ls (ts:List T)|dk (kvs:List (Key×T))|du (kvs:List (List Key×T))|ins (c:Str) (fs:List (Str×T))|gone
structure Mu where
 l:List Ct
 k:List (Nat×Nat)
mutual
noncomputable def ub:T->Nat
 |.obj k=>k+1
 |.tup ts=>ubs ts
 |.lst ts=>ubs ts
 |.dct kvs=>ubd kvs
 |_=>0
noncomputable def ubs:List T->Nat
 |[]=>0
 |t::ts=>max (ub t) (ubs ts)
noncomputable def ubd:List (Key×T)->Nat
 |[]=>0
 |(_,t)::ts=>max (ub t) (ubd ts)
end
noncomputable def ubf{κ:Type}:List (κ×T)->Nat
 |[]=>0
 |(_,t)::ts=>max (ub t) (ubf ts)
noncomputable def ubC:Ct->Nat
 |.ls ts=>ubs ts
 |.dk kvs=>ubf kvs
 |.du kvs=>ubf kvs
 |.ins _ fs=>ubf fs
 |.gone=>0
noncomputable def Mu.put(m:Mu)(k:Nat)(c:Ct):Mu:=⟨m.l.set k c,if ubC c<=k then m.k else(k,ubC c)::m.k⟩
noncomputable def Mu.add(m:Mu)(c:Ct):Mu:=⟨m.l++[c],if ubC c<=m.l.length then m.k else(m.l.length,ubC c)::m.k⟩
inductive R(α:Type) where
 |no|ok (a:α) (m:Mu)|ex (c:Str) (m:Mu)
noncomputable def R.bind{α β:Type}:R α->(α->Mu->R β)->R β
 |.no,_=>.no
 |.ok a m,f=>f a m
 |.ex c m,_=>.ex c m
@[simp] theorem qaa{α β:Type}(a:α)(m:Mu)(f:α->Mu->R β):(R.ok a m).bind f=f a m:=rfl
@[simp] theorem qvN{α β:Type}(f:α->Mu->R β):(R.no:R α).bind f= .no:=rfl
@[simp] theorem qwn{α β:Type}(c:Str)(m:Mu)(f:α->Mu->R β):(R.ex c m:R α).bind f= .ex c m:=rfl
structure qaF where
 hp:Hp
 ad:Nat->Option Addr
instance:CoeFun qaF λ_=>Addr->Option HO:=⟨qaF.hp⟩
noncomputable def clA(K:PySem.W.Frag)(x:Str):Addr:=match PySem.W.nsIn K mainGlobals x with
 |some (some (.ref C))=>C
 |_=>0
mutual
noncomputable def Rep(K:PySem.W.Frag)(B:qaF):T->V->Prop
 |.non,v=>v= .non
 |.bl b,v=>v= .bl b
 |.int i,v=>v= .int i
 |.str s,v=>v= .str s
 |.tup ts,v=> ∃p vs,v= .ref p/\B p=some (.tup vs)/\Reps K B ts vs
 |.lst ts,v=> ∃p vs,v= .ref p/\B p=some (.lst vs)/\Reps K B ts vs
 |.dct kvs,v=> ∃p o us,v= .ref p/\B p=some (.frz o (.dK us))/\RepD K B kvs us
 |.fn x,v=> ∃f,v= .ref f/\PySem.W.nsIn K mainGlobals x=some (some (.ref f))
 |.scr ns,v=> ∃p,v= .ref p/\SqL K B.hp p (ns.map V.int)
 |.obj k,v=> ∃a,v= .ref a/\B.ad k=some a
 |.exc c,v=> ∃a,v= .ref a/\B a=some (ExO a (clA K c))
noncomputable def Reps(K:PySem.W.Frag)(B:qaF):List T->List V->Prop
 |[],vs=>vs=[]
 |t::ts,vs=> ∃v r,vs=v::r/\Rep K B t v/\Reps K B ts r
noncomputable def RepD(K:PySem.W.Frag)(B:qaF):List (Key×T)->List (Key×V)->Prop
 |[],vs=>vs=[]
 |(k,t)::ts,vs=> ∃v r,vs=(k,v)::r/\Rep K B t v/\RepD K B ts r
end
noncomputable def qaY(K:PySem.W.Frag)(B:qaF){κ:Type}:List (κ×T)->List (κ×V)->Prop
 |[],vs=>vs=[]
 |(k,t)::ts,vs=> ∃v r,vs=(k,v)::r/\Rep K B t v/\qaY K B ts r
structure Le(B B':qaF):Prop where
 h: ∀a o,B a=some o->B' a=some o
 d: ∀k a,B.ad k=some a->B'.ad k=some a
theorem Le.refl(B:qaF):Le B B:=⟨λ_ _ h=>h,λ_ _ h=>h⟩
theorem Le.trans(h:Le A B)(h':Le B C):Le A C:=⟨λa o e=>h'.h a o (h.h a o e),λa o e=>h'.d a o (h.d a o e)⟩
theorem qi1(h: ∀a o,B a=some o->B' a=some o)(q:SqL K B p vs):SqL K B' p vs:=by
 rcases q with(q|⟨o,q⟩)|q
 ·exact .inl (.inl (h _ _ q))
 ·exact .inl (.inr ⟨o,h _ _ q⟩)
 ·exact .inr q
mutual
theorem Rep.mono(h:Le B B'): ∀{t:T}{v:V},Rep K B t v->Rep K B' t v
 |.non,_,r=>r
 |.bl _,_,r=>r
 |.int _,_,r=>r
 |.str _,_,r=>r
 |.fn _,_,r=>by unfold Rep at r⊢;exact r
 |.tup _,_,r=>by unfold Rep at r⊢;obtain⟨p,vs,e,q,rs⟩:=r;exact⟨p,vs,e,h.h _ _ q,Reps.mono h rs⟩
 |.lst _,_,r=>by unfold Rep at r⊢;obtain⟨p,vs,e,q,rs⟩:=r;exact⟨p,vs,e,h.h _ _ q,Reps.mono h rs⟩
 |.dct _,_,r=>by unfold Rep at r⊢;obtain⟨p,o,vs,e,q,rs⟩:=r;exact⟨p,o,vs,e,h.h _ _ q,RepD.mono h rs⟩
 |.obj _,_,r=>by unfold Rep at r⊢;obtain⟨a,e,q⟩:=r;exact⟨a,e,h.d _ _ q⟩
 |.exc _,_,r=>by unfold Rep at r⊢;obtain⟨a,e,q⟩:=r;exact⟨a,e,h.h _ _ q⟩
 |.scr _,_,r=>by unfold Rep at r⊢;obtain⟨p,e,q⟩:=r;exact⟨p,e,qi1 h.h q⟩
theorem Reps.mono(h:Le B B'): ∀{ts:List T}{vs:List V},Reps K B ts vs->Reps K B' ts vs
 |[],_,r=>r
 |_::_,_,r=>by unfold Reps at r⊢;obtain⟨v,r',e,a,b⟩:=r;exact⟨v,r',e,Rep.mono h a,Reps.mono h b⟩
theorem RepD.mono(h:Le B B'): ∀{ts:List (Key×T)}{vs:List (Key×V)},RepD K B ts vs->RepD K B' ts vs
 |[],_,r=>r
 |(_,_)::_,_,r=>by unfold RepD at r⊢;obtain⟨v,r',e,a,b⟩:=r;exact⟨v,r',e,Rep.mono h a,RepD.mono h b⟩
end
section
theorem qaY.mono{κ:Type}(h:Le B B'): ∀{ts:List (κ×T)}{vs:List (κ×V)},qaY K B ts vs->qaY K B' ts vs
 |[],_,r=>r
 |(_,_)::_,_,⟨v,r',e,a,b⟩=>⟨v,r',e,a.mono h,b.mono h⟩
theorem qgZ: ∀{ts:List (Key×T)}{vs:List (Key×V)},qaY K B ts vs↔RepD K B ts vs
 |[],_=>by exact Iff.rfl
 |(_,_)::_,_=>by exact⟨(by rintro⟨v,r,e,a,b⟩;exact⟨v,r,e,a,qgZ.mp b⟩),(by rintro⟨v,r,e,a,b⟩;exact⟨v,r,e,a,qgZ.mpr b⟩)⟩
theorem Reps.nil:Reps K B [] []:=by unfold Reps;rfl
theorem Reps.cons{K:PySem.W.Frag}{B:qaF}{t:T}{v:V}{ts:List T}{vs:List V}(h:Rep K B t v)(r:Reps K B ts vs):Reps K B (t::ts) (v::vs):=by exact⟨v,vs,rfl,h,r⟩
theorem Reps.inv(h:Reps K B (t::ts) vs): ∃v r,vs=v::r/\Rep K B t v/\Reps K B ts r:=by exact h
theorem Reps.inv0(h:Reps K B [] vs):vs=[]:=by exact h
theorem Reps.length: ∀{ts:List T}{vs:List V},Reps K B ts vs->vs.length=ts.length
 |[],_,h=>by rw[h.inv0];rfl
 |_::_,_,h=>by obtain⟨v,r,rfl,_,h'⟩:=h.inv;simp[Reps.length h']
theorem Reps.get: ∀{ts:List T}{vs:List V}{i:Nat}{t:T},Reps K B ts vs->ts[i]? =some t->∃v,vs[i]? =some v/\Rep K B t v
 |[],_,_,_,_,e=>by simp at e
 |_::_,_,0,_,h,e=>by obtain⟨v,r,rfl,a,_⟩:=h.inv;simp_all
 |_::_,_,i+1,t,h,e=>by
  obtain⟨v,r,rfl,_,h'⟩:=h.inv;obtain⟨u,e1,e2⟩:=Reps.get h' (by simpa using e)
  simp_all
theorem Reps.of_get(hl:vs.length=ts.length)(h: ∀(i:Nat)(t:T)(v:V),ts[i]? =some t->vs[i]? =some v->Rep K B t v):Reps K B ts vs:=by
 induction ts generalizing vs with
 |nil=>cases vs with
  |nil=>exact .nil
  |cons _ _=>cases hl
 |cons t ts ih=>cases vs with
  |nil=>cases hl
  |cons v vs=>exact .cons (h 0 t v rfl rfl) (ih (by simpa using hl) λi t' v' a b=>h (i+1) t' v' (by simpa using a) (by simpa using b))
theorem Reps.append: ∀{ts us:List T}{vs ws:List V},Reps K B ts vs->Reps K B us ws->Reps K B (ts++us) (vs++ws)
 |[],_,_,_,h,h'=>by rw[h.inv0];exact h'
 |_::_,_,_,_,h,h'=>by obtain⟨v,r,rfl,a,b⟩:=h.inv;exact .cons a (Reps.append b h')
theorem Reps.one(r:Rep K B t v):Reps K B [t] [v]:=.cons r .nil
theorem Reps.take(n:Nat)(h:Reps K B ts vs):Reps K B (ts.take n) (vs.take n):=by
 refine .of_get (by simp[h.length]) λi t v a b=> ?_;rw[List.getElem?_take] at a b;split at a
 ·obtain⟨u,e1,e2⟩:=h.get a
  grind
 ·cases a
theorem Reps.drop(n:Nat)(h:Reps K B ts vs):Reps K B (ts.drop n) (vs.drop n):=by
 refine .of_get (by simp[h.length]) λi t v a b=> ?_;rw[List.getElem?_drop] at a b;obtain⟨u,e1,e2⟩:=h.get a
 grind
theorem Reps.set(n:Nat)(h:Reps K B ts vs)(r:Rep K B t v):Reps K B (ts.set n t) (vs.set n v):=by
 refine .of_get (by simp[h.length]) λi t' v' a b=> ?_;rw[List.getElem?_set] at a b;by_cases hi:n=i
 ·grind
 ·rw[if_neg hi] at a b;obtain⟨u,e1,e2⟩:=h.get a
  grind
theorem Reps.getD(h:Reps K B ts vs)(j:Nat)(hj:j<ts.length):Rep K B (ts.getD j .non) (vs.getD j .non):=by
 obtain⟨u,e1,e2⟩:=h.get (Vw hj)
 simp_all
theorem qaY.length{κ:Type}: ∀{ts:List (κ×T)}{vs:List (κ×V)},qaY K B ts vs->vs.length=ts.length
 |[],_,h=>by rw[h];rfl
 |(_,_)::_,_,⟨v,r,e,_,h⟩=>by rw[e];simp[qaY.length h]
theorem qbu(r:Rep K B (.bl b) v):v= .bl b:=by exact r
theorem qah(r:Rep K B (.int b) v):v= .int b:=by exact r
theorem qaH{b:Str}(r:Rep K B (.str b) v):v= .str b:=by exact r
theorem qcR(r:Rep K B .non v):v= .non:=by exact r
theorem qay(r:Rep K B (.tup ts) v): ∃p vs,v= .ref p/\B p=some (.tup vs)/\Reps K B ts vs:=by exact r
theorem qaB(r:Rep K B (.lst ts) v): ∃p vs,v= .ref p/\B p=some (.lst vs)/\Reps K B ts vs:=by exact r
theorem qcS(r:Rep K B (.dct ts) v): ∃p o vs,v= .ref p/\B p=some (.frz o (.dK vs))/\qaY K B ts vs:=by obtain⟨p,o,vs,a,b,c⟩:=r;exact⟨p,o,vs,a,b,qgZ.mpr c⟩
theorem qaD(r:Rep K B (.obj k) v): ∃a,v= .ref a/\B.ad k=some a:=by exact r
theorem qoB{c:Str}(r:Rep K B (.exc c) v): ∃a,v= .ref a/\B a=some (ExO a (clA K c)):=by exact r
theorem qa9:Rep K B (.bl b) (.bl b):=rfl
theorem qaO:Rep K B (.int b) (.int b):=rfl
theorem qcs{b:Str}:Rep K B (.str b) (.str b):=rfl
theorem qeZ:Rep K B .non .non:=by unfold Rep;rfl
theorem qcr(h:B p=some (.tup vs))(r:Reps K B ts vs):Rep K B (.tup ts) (.ref p):=by unfold Rep;simp_all
theorem qbP(h:B p=some (.lst vs))(r:Reps K B ts vs):Rep K B (.lst ts) (.ref p):=by unfold Rep;simp_all
theorem qjv(h:B p=some (.frz o (.dK vs)))(r:qaY K B ts vs):Rep K B (.dct ts) (.ref p):=by exact⟨p,o,vs,rfl,h,qgZ.mp r⟩
theorem qdy(h:B.ad k=some a):Rep K B (.obj k) (.ref a):=by exact⟨a,rfl,h⟩
end
noncomputable def qej:Key->T
 |.inl i=>.int i
 |.inr s=>.str s
theorem qc2(k:Key):Rep K B (qej k) (kV k):=by cases k<;>first|exact qaO|exact qcs
section
noncomputable def qaF.cut(B:qaF)(n:Nat):qaF:=⟨B.hp,λj=>if j<n then B.ad j else none⟩
mutual
theorem Rep.cut: ∀{t:T}{v:V},Rep K B t v->ub t<=n->Rep K (B.cut n) t v
 |.non,_,r,_=>r
 |.bl _,_,r,_=>r
 |.int _,_,r,_=>r
 |.str _,_,r,_=>r
 |.fn _,_,r,_=>by unfold Rep at r⊢;exact r
 |.tup _,_,r,h=>by unfold Rep at r⊢;unfold ub at h;obtain⟨p,vs,e,q,rs⟩:=r;exact⟨p,vs,e,q,Reps.cut rs h⟩
 |.lst _,_,r,h=>by unfold Rep at r⊢;unfold ub at h;obtain⟨p,vs,e,q,rs⟩:=r;exact⟨p,vs,e,q,Reps.cut rs h⟩
 |.dct _,_,r,h=>by unfold Rep at r⊢;unfold ub at h;obtain⟨p,o,vs,e,q,rs⟩:=r;exact⟨p,o,vs,e,q,RepD.cut rs h⟩
 |.obj _,_,r,h=>by unfold Rep at r⊢;unfold ub at h;obtain⟨a,e,q⟩:=r;exact⟨a,e,by show(if _ then _ else _)=_;rw[if_pos (show _<n from h)];exact q⟩
 |.exc _,_,r,_=>by unfold Rep at r⊢;exact r
 |.scr _,_,r,_=>by unfold Rep at r⊢;exact r
theorem Reps.cut: ∀{ts:List T}{vs:List V},Reps K B ts vs->ubs ts<=n->Reps K (B.cut n) ts vs
 |[],_,r,_=>r
 |_::_,_,r,h=>by unfold Reps at r⊢;unfold ubs at h;obtain⟨v,r',e,a,b⟩:=r;exact⟨v,r',e,Rep.cut a (Vp (Nat.le_max_left _ _) h),Reps.cut b (Vp (Nat.le_max_right _ _) h)⟩
theorem RepD.cut: ∀{ts:List (Key×T)}{vs:List (Key×V)},RepD K B ts vs->ubd ts<=n->RepD K (B.cut n) ts vs
 |[],_,r,_=>r
 |(_,_)::_,_,r,h=>by unfold RepD at r⊢;unfold ubd at h;obtain⟨v,r',e,a,b⟩:=r;exact⟨v,r',e,Rep.cut a (Vp (Nat.le_max_left _ _) h),RepD.cut b (Vp (Nat.le_max_right _ _) h)⟩
end
theorem qaY.cut{κ:Type}: ∀{ts:List (κ×T)}{vs:List (κ×V)},qaY K B ts vs->ubf ts<=n->qaY K (B.cut n) ts vs
 |[],_,r,_=>r
 |(_,_)::_,_,⟨v,r',e,a,b⟩,h=>by exact⟨v,r',e,Rep.cut a (Vp (Nat.le_max_left _ _) h),qaY.cut b (Vp (Nat.le_max_right _ _) h)⟩
mutual
theorem Rep.ub(hd: ∀k a,B.ad k=some a->k<n): ∀{t:T}{v:V},Rep K B t v->ub t<=n
 |.non,_,_=>Nat.zero_le _
 |.bl _,_,_=>Nat.zero_le _
 |.int _,_,_=>Nat.zero_le _
 |.str _,_,_=>Nat.zero_le _
 |.fn _,_,_=>Nat.zero_le _
 |.tup _,_,r=>by unfold Rep at r;unfold NV.ub;obtain⟨p,vs,e,q,rs⟩:=r;exact Reps.ub hd rs
 |.lst _,_,r=>by unfold NV.ub;obtain⟨p,vs,e,q,rs⟩:=r;exact Reps.ub hd rs
 |.dct _,_,r=>by unfold NV.ub;obtain⟨p,o,vs,e,q,rs⟩:=r;exact RepD.ub hd rs
 |.obj _,_,r=>by unfold Rep at r;unfold NV.ub;obtain⟨a,e,q⟩:=r;exact hd _ _ q
 |.exc _,_,_=>Nat.zero_le _
 |.scr _,_,_=>Nat.zero_le _
theorem Reps.ub(hd: ∀k a,B.ad k=some a->k<n): ∀{ts:List T}{vs:List V},Reps K B ts vs->ubs ts<=n
 |[],_,_=>Nat.zero_le _
 |_::_,_,r=>by unfold ubs;obtain⟨v,r',e,a,b⟩:=r;exact Nat.max_le.mpr ⟨Rep.ub hd a,Reps.ub hd b⟩
theorem RepD.ub(hd: ∀k a,B.ad k=some a->k<n): ∀{ts:List (Key×T)}{vs:List (Key×V)},RepD K B ts vs->ubd ts<=n
 |[],_,_=>Nat.zero_le _
 |(_,_)::_,_,r=>by unfold ubd;obtain⟨v,r',e,a,b⟩:=r;exact Nat.max_le.mpr ⟨Rep.ub hd a,RepD.ub hd b⟩
end
theorem qaY.ub{κ:Type}(hd: ∀k a,B.ad k=some a->k<n): ∀{ts:List (κ×T)}{vs:List (κ×V)},qaY K B ts vs->ubf ts<=n
 |[],_,_=>Nat.zero_le _
 |(_,_)::_,_,⟨v,r',e,a,b⟩=>by exact Nat.max_le.mpr ⟨Rep.ub hd a,qaY.ub hd b⟩
end
end NV
namespace PL
open PySem L2
inductive T where
 |non|bl (b:Bool)|int (i:Int)|str (s:Str)|tup (ts:List T)|lst (ts:List T)|dct (kvs:List (Key×T))|dcf (kvs:List (Key×T))|dtu (kvs:List (List Key×T))|fn (x:Str)|scr (ns:List Int)|obj (a:Addr)
inductive Rs(α:Type) where
 |no|ok (a:α)|ex (c:Str)
structure GX(H H':Hp):Prop where
 hh: ∀a o,H a=some o->(∀ps,o≠.tbl ps)->H' a=some o
 dm: ∀a,H a≠none->H' a≠none
inductive Sl where
 |no|fz (t:T)|ow (ts:List T)|od (kvs:List (Key×T))|ou (kvs:List (List Key×T))|pd (kvs:List (Key×T))|pu (kvs:List (List Key×T))
section
noncomputable def qyo(K:W.Frag)(tl:TE):TI:=λσ H R=>tl σ H λx H1=> ∃a,x= .ref a/\(((∃xs,SqL K H1 a xs/\(xs.length<=sizeLine->R (Itl K a) H1)))\/(∃xs,SqT K H1 a xs/\(xs.length<=sizeLine->R (Itt K a) H1)))
theorem pi_seq(hl:PE X l tl):PI X tg l (qyo X.K tl):=by
 intro Z s σ H R I h;refine thn (hl _ s σ H _ I h) λv s1 fQ=> ?_;obtain⟨x,H1,I1,r1,q1⟩:=fQ;obtain⟨a,e,q⟩:=q1;subst e;cases r1
 rcases q with⟨xs,hq,q⟩|⟨xs,hq,q⟩
 ·obtain⟨its,rv,p,hz⟩:=I1.list hq;have q:=q hz;refine wpAny_pyIter_list p.isList ?_;refine⟨s1.heap.objs.size,[s1.heap.objs.size],_,_,H1,rfl,I1.kept λb o e=>Vg _ e,qiS a _,⟨_,Vh _ rfl,rfl,rfl⟩,λb hb=> ?_,q⟩;have e:=by simpa using hb
  subst e;exact I1.fpOk (Vl _) (I1.hok.fresh (Vl _))
 ·obtain⟨its,rv,p,hz⟩:=I1.tuple hq;have q:=q hz;refine wpAny_pyIter_tuple p ?_;refine⟨s1.heap.objs.size,[s1.heap.objs.size],_,_,H1,rfl,I1.kept λb o e=>Vg _ e,qhX a _,⟨_,Vh _ rfl,rfl,rfl⟩,λb hb=> ?_,q⟩;have e:=by simpa using hb
  subst e;exact I1.fpOk (Vl _) (I1.hok.fresh (Vl _))
end
theorem line1M:(1000000:Nat)<=sizeLine:=by decide
open PySem.Spec PyProof.Rows in
theorem pi_zipZ(hg:Gl X "zip")(hm:X.mg "zip" =none)(ha:PA X [a,b] ta)(hs:starEach [a,b] X.env=(false,eval a X.env)::starEach [b] X.env:=by rfl)(az:(backTo pos (starEach [b] X.env)).any (·.1)=false:=by rfl):
  PI X (.Tuple elts kk tpos) (.Call (.Name "zip" p) [a,b] [] pos) (λσ H R=>ta σ H λvs H1=> ∃l1 l2 xs ys,vs=[.ref l1,.ref l2]/\SqL X.K H1 l1 xs/\SqL X.K H1 l2 ys/\(xs.length<=sizeLine->ys.length<=sizeLine->R (Itz X.K l1 l2) H1)):=by
 intro Z s σ H R I h;refine Vf (qdD I hg hm PyProof.Rows.boot_zip ?_);refine PyProof.Rows.callWith_type1 (thn (ha pos Z s σ H _ I h) λus s1 ⟨vs,H1,I1,r1,l1,l2,xs,ys,e,h1,h2,q⟩=> ?_) hs az;subst e;obtain⟨u1,u2,rfl,ru1,ru2⟩:=qiO r1;cases ru1;cases ru2;obtain⟨bP,rr1,p1,z1⟩:=I1.list h1;obtain⟨aF,rr2,p2,z2⟩:=I1.list h2;have q:=q z1 z2;obtain⟨o1,gj,_⟩:=p1.isList;obtain⟨o2,aV,_⟩:=p2.isList;have lt1:l1<s1.heap.objs.size:=Vi gj;have lt2:l2<s1.heap.objs.size:=Vi aV;refine call_zip_2 p1.isList p2.isList λh' hz hTI hTO hi1 gW hsz kp=>wpAny_pyIter_zip hz ?_;have D:ZipApart (s1.heap.objs.size+4) (s1.heap.objs.size+2) (s1.heap.objs.size+3) s1.heap.objs.size (s1.heap.objs.size+1) l1 l2:=W.ktu_apart _ _ _ lt1 lt2;refine⟨_,_,_,Itz X.K l1 l2,H1,rfl,I1.kept (t':=s1.toks) kp,qlt D,⟨hz,hTI,⟨_,_,hTO⟩,hi1,gW⟩,λb hb=> ?_,q⟩;have hle:s1.heap.objs.size<=b:=by
  have a8:b=s1.heap.objs.size+4\/b=s1.heap.objs.size+2\/b=s1.heap.objs.size+3\/b=s1.heap.objs.size\/b=s1.heap.objs.size+1:=by simpa using hb
  rcases a8 with rfl|rfl|rfl|rfl|rfl
  ·exact Nat.le_add_right _ _
  ·exact Nat.le_add_right _ _
  ·exact Nat.le_add_right _ _
  ·exact Vl _
  ·exact Nat.le_add_right _ _
 exact I1.fpOk hle (I1.hok.fresh hle)
end PL
namespace PL
open PySem L2
end PL
namespace Mir
open St
theorem qeh: ∀{l:List Nat}{x:Nat},x∈l->(l.erase x).length+1=l.length
 |[],_,h=>by cases h
 |y::l,x,h=>by
  grind
theorem qe4{l:List Nat}{x y:Nat}(h:y∈l)(d9:y≠x):y∈l.erase x:=by
 grind
theorem qhh: ∀{l l':List Nat},l.Nodup->(∀x∈l,x∈l')->l.length<=l'.length
 |[],_,_,_=>Nat.zero_le _
 |x::l,l',nd,h=>by
  have hx:=h x Vj;have hn:=List.nodup_cons.mp nd;have:=qhh (l':=l'.erase x) hn.2 λy hy=>qe4 (h y (Vk _ hy)) λz=>hn.1 (z▸hy);have e:=qeh hx
  grind
theorem full{l:List Nat}{n:Nat}(nd:l.Nodup)(lt: ∀x∈l,x<n)(hl:l.length=n): ∀j,j<n->j∈l:=by
 intro j hj;by_cases q:j∈l
 ·exact q
 ·have h1:=qhh (l':=List.range n) (List.nodup_cons.mpr ⟨q,nd⟩) λx hx=>by
   rcases List.mem_cons.mp hx with e|e
   ·simp_all
   simp_all
  grind
theorem qbQ(eU: ∀a b,R a b->¬R b a): ∀{l l':List Nat},l.Pairwise R->l'.Pairwise R->(∀x,x∈l↔x∈l')->l=l'
 |[],[],_,_,_=>rfl
 |[],y::l',_,_,h=>by have:=(h y).mpr Vj;cases this
 |x::l,[],_,_,h=>by have:=(h x).mp Vj;cases this
 |x::l,y::l',h1,h2,h=>by
  obtain⟨a1,b1⟩:=List.pairwise_cons.mp h1;obtain⟨a2,b2⟩:=List.pairwise_cons.mp h2;have exy:x=y:=by
   rcases List.mem_cons.mp ((h x).mp Vj) with e|e
   ·exact e
   ·rcases List.mem_cons.mp ((h y).mpr Vj) with e'|e'
    ·exact e'.symm
    grind
  subst exy;have n1:=λq=>eU x x (a1 x q) (a1 x q);have n2:=λq=>eU x x (a2 x q) (a2 x q);rw[qbQ eU b1 b2 λz=>⟨λq=>((List.mem_cons.mp ((h z).mp (List.mem_cons_of_mem _ q))).resolve_left λe=>n1 (e▸q)),λq=>((List.mem_cons.mp ((h z).mpr (List.mem_cons_of_mem _ q))).resolve_left λe=>n2 (e▸q))⟩]
theorem qoc(a b:Nat)(h:L k a b): ¬L k b a:=by
 intro h'
 rcases h with h|h<;>rcases h' with h'|h'<;>lia
theorem qbO(h:qdj ms n p):p.toList.Pairwise (L λi=>ms.getD i 0):=by
 rw[List.pairwise_iff_getElem];intro i j hi hj aW;have bK:=by simpa using hi
 have eF:=by simpa using hj
 have e:=h.2 i j aW (by rw[h.1.sz] at eF;exact eF);have e1:g p i=p.toList[i]:=by unfold g;simp_all
 have e2:g p j=p.toList[j]:=by unfold g;simp_all
 simp_all
theorem qhd(h:qdj ms n p): ∀x∈p.toList,x<n:=by
 intro x hx;obtain⟨i,hi,rfl⟩:=List.mem_iff_getElem.mp hx;have bK:=by simpa using hi
 have e:=h.1.lo i (by rw[h.1.sz] at bK;exact bK);have e1:g p i=p.toList[i]:=by unfold g;simp_all
 rw[e1] at e;exact e
theorem qfY(h:qdj ms n p):p.toList.Nodup:=by refine List.Pairwise.imp ?_ (qbO h);intro a b jS e;subst e;exact qoc a a jS jS
theorem qjp{p:Array Nat}(h:qdj ms n p)(x:Nat):x∈p.toList↔x<n:=
 ⟨qhd h x,full (qfY h) (qhd h) (by exact h.1.sz) x⟩
noncomputable def quY(ms:List Int)(n:Nat)(m:Int):List Nat:=(List.range n).filter λj=>decide (ms.getD j 0=m)
noncomputable def due(ms:List Int)(n t:Nat):List Nat:=(List.range t).flatMap λm=>quY ms n (m:Nat)
theorem map_range_getD{α:Type}(xs:List α)(d:α):(List.range xs.length).map (λj=>xs.getD j d)=xs:=by
 apply List.ext_getElem
 ·simp
 simp_all
end Mir
namespace SR
open PySem L2 RH St Mir
theorem qsV: ∀{l:List Nat},(∀x∈l,x<n)->l.Pairwise (L k)->(ins k n l).Pairwise (L k)
 |[],_,_=>by simp[ins]
 |y::l,hl,h=>by
  have h':=List.pairwise_cons.mp h;have hy:y<n:=hl y Vj;show(if k y<=k n then y::ins k n l else n::y::l).Pairwise (L k);by_cases c:k y<=k n
  ·rw[if_pos c];refine List.pairwise_cons.mpr ⟨λz hz=> ?_,qsV (λx hx=>hl x (Vk _ hx)) h'.2⟩
   rcases qf5.mp hz with q|q
   ·unfold L;lia
   ·exact h'.1 z q
  ·rw[if_neg c];refine List.pairwise_cons.mpr ⟨λz hz=> ?_,h⟩
   rcases List.mem_cons.mp hz with q|q
   ·exact .inl (by lia)
   ·have:=h'.1 z q;unfold L at this⊢;lia
theorem qeT(k:Nat->Int): ∀n,(srt k (List.range n)).Pairwise (L k)
 |0=>List.Pairwise.nil
 |n+1=>by rw[List.range_succ,qdY];exact qsV (λx hx=>List.mem_range.mp ((qee _).mp hx)) (qeT k n)
theorem qjo(h:qdj ms n p):p.toList=srt (λi=>ms.getD i 0) (List.range n):=
 qbQ qoc (qbO h) (qeT _ _) λx=>by rw[qjp h,qee,List.mem_range]
end SR
namespace RH
open PySem PySem.Spec PyProof.Rows L2 SR
section
noncomputable def eqT(us vs:List V):Bool:=(List.range us.length).all λj=>eqV (us.getD j .non) (vs.getD j .non)
theorem valsArr(r:qau us is)(h:j<is.toArray.size):RelV (us.getD j .non) is.toArray[j]:=by
 have hj:j<us.length:=by rw[r.length];simpa using h
 obtain⟨u,e,q⟩:=r.get (Vw hj);rw[List.getD_eq_getElem?_getD,List.getElem?_eq_getElem hj];have:is.toArray[j]=u:=by
  rw[List.getElem?_eq_getElem (by simpa using h)] at e
  simp_all
 rw[this];exact q
end
end RH
namespace PL
open PySem L2
section kinds
open SeqAt
variable{A:Around}{s:Shared}{x:V}{u:Value}{l b:Addr}{is js:Array Value}
theorem eq_fl(r:RelV x u)(f:qgh x=true)(h:s.heap.IsList l is)(c:A.units<cLine):EqAt A s u (.ref l) false/\EqAt A s (.ref l) u false/\RcAt A s u (.ref l) false/\RcAt A s (.ref l) u false/\RcNeAt A s u (.ref l) true/\RcNeAt A s (.ref l) u true:=by
 cases x with
 |non=>cases r;exact⟨.none_list h c,.list_none h c,.none_list h c,.list_none h c,.none_list h c,.list_none h c⟩
 |bl k=>cases r;exact⟨.bool_list k h c,.list_bool k h c,.bool_list k h c,.list_bool k h c,.bool_list k h c,.list_bool k h c⟩
 |int k=>obtain⟨t,rfl⟩:=r;exact⟨.int_list k t h c,.list_int k t h c,.int_list k t h c,.list_int k t h c,.int_list k t h c,.list_int k t h c⟩
 |str k=>obtain⟨t,rfl⟩:=r;exact⟨.str_list k t h c,.list_str k t h c,.str_list k t h c,.list_str k t h c,.str_list k t h c,.list_str k t h c⟩
 |_=>cases f
theorem eq_ft(r:RelV x u)(f:qgh x=true)(h:s.heap.IsTuple l is)(c:A.units<cLine):EqAt A s u (.ref l) false/\EqAt A s (.ref l) u false/\RcAt A s u (.ref l) false/\RcAt A s (.ref l) u false/\RcNeAt A s u (.ref l) true/\RcNeAt A s (.ref l) u true:=by
 cases x with
 |non=>cases r;exact⟨.none_tuple h c,.tuple_none h c,.none_tuple h c,.tuple_none h c,.none_tuple h c,.tuple_none h c⟩
 |bl k=>cases r;exact⟨.bool_tuple k h c,.tuple_bool k h c,.bool_tuple k h c,.tuple_bool k h c,.bool_tuple k h c,.tuple_bool k h c⟩
 |int k=>obtain⟨t,rfl⟩:=r;exact⟨.int_tuple k t h c,.tuple_int k t h c,.int_tuple k t h c,.tuple_int k t h c,.int_tuple k t h c,.tuple_int k t h c⟩
 |str k=>obtain⟨t,rfl⟩:=r;exact⟨.str_tuple k t h c,.tuple_str k t h c,.str_tuple k t h c,.tuple_str k t h c,.str_tuple k t h c,.tuple_str k t h c⟩
 |_=>cases f
theorem rc_ff{y:V}{v:Value}(r:RelV x u)(f:qgh x=true)(r':RelV y v)(f':qgh y=true):RcAt A s u v (eqV x y)/\RcNeAt A s u v (!eqV x y):=by
 cases x with
 |non=>
  cases r;cases y with
  |non=>cases r';exact⟨.none_none,.none_none⟩
  |bl k=>cases r';exact⟨.none_bool k,.none_bool k⟩
  |int k=>obtain⟨t,rfl⟩:=r';exact⟨.none_int k t,.none_int k t⟩
  |str k=>obtain⟨t,rfl⟩:=r';exact⟨.none_str k t,.none_str k t⟩
  |_=>cases f'
 |bl i=>
  cases r;cases y with
  |non=>cases r';exact⟨.bool_none i,.bool_none i⟩
  |bl k=>cases r';exact⟨.bool_bool i k,.bool_bool i k⟩
  |int k=>obtain⟨t,rfl⟩:=r';exact⟨.bool_int i k t,.bool_int i k t⟩
  |str k=>obtain⟨t,rfl⟩:=r';exact⟨.bool_str i k t,.bool_str i k t⟩
  |_=>cases f'
 |int i=>
  obtain⟨t0,rfl⟩:=r;cases y with
  |non=>cases r';exact⟨.int_none i t0,.int_none i t0⟩
  |bl k=>cases r';exact⟨.int_bool i t0 k,.int_bool i t0 k⟩
  |int k=>obtain⟨t,rfl⟩:=r';exact⟨.int_int i t0 k t,.int_int i t0 k t⟩
  |str k=>obtain⟨t,rfl⟩:=r';exact⟨.int_str i t0 k t,.int_str i t0 k t⟩
  |_=>cases f'
 |str i=>
  obtain⟨t0,rfl⟩:=r;cases y with
  |non=>cases r';exact⟨.str_none i t0,.str_none i t0⟩
  |bl k=>cases r';exact⟨.str_bool i t0 k,.str_bool i t0 k⟩
  |int k=>obtain⟨t,rfl⟩:=r';exact⟨.str_int i t0 k t,.str_int i t0 k t⟩
  |str k=>obtain⟨t,rfl⟩:=r';exact⟨.str_str i t0 k t,.str_str i t0 k t⟩
  |_=>cases f'
 |_=>cases f
end kinds
end PL
namespace SetL
open PySem
noncomputable def Ri(xs:Array Nat):Prop:=xs.toList.Pairwise (· < ·)
noncomputable def qyM(t:SetTable):Prop:=Ri t.place/\t.dummies= #[]
inductive Way(w:World)(h:Heap)(a:Addr)(es:Array (Int×Value))(ep:Nat)(t:SetTable):List Addr->(Nat->Value)->List Value->Prop
 |drawn {tp:Addr} {ot:Obj} {pl:List Nat} {k:Nat}:h.get? tp=some ot->ot.data= .seq (List.toArray (pl.map λ(i:Nat)=>rawInt i)) k->(∀i∈pl,i<es.size)->Way w h a es ep t [tp] (λ_=>.ref tp) (pl.map λi=>(es.toList.map (·.2)).getD i .none)
 |text:w.params.followText "set-order" =true->Way w h a es ep t [] (λ_=>rawInt 0) ((pickOrder (w.params.setOrder a ep) es).toList.map (·.2))
 |small:w.params.followText "set-order" =false->(!t.plain&&decide (es.size>1))=false->t.led=true->qyM t->Way w h a es ep t [] (λi=>if i=0 then rawInt 0 else rawInt (t.place.getD (i - 1) 0+1:Nat)) (es.toList.map (·.2))
section
variable{K:Type}[DecidableEq K]
noncomputable def mem(key:Nat->K)(i:Nat)(k:K):Bool:=(List.range i).any λj=>decide (k=key j)
noncomputable def cnt(key:Nat->K):Nat->Nat
 |0=>0
 |i+1=>if mem key i (key i)=true then cnt key i else cnt key i+1
end
end SetL
namespace SR
theorem qlx{α:Type}{P:List α->Prop}(h0:P [])(hs: ∀l a,P l->P (l++[a])): ∀l,P l:=by
 intro l;have: ∀r:List α,P r.reverse:=by
  intro r
  induction r with
  |nil=>exact h0
  |cons a r ih=>simp_all
 rw[<-List.reverse_reverse l];exact this _
section
variable{κ:Type}[DecidableEq κ]
abbrev T4(κ:Type):=Int×κ×Int×Int
noncomputable def hit(w:Int)(r a:T4 κ):Bool:=decide (r.1 - a.1<=w)&&(decide (a.2.2.2≠r.2.2.2)&&decide (a.2.1=r.2.1))
end
section
variable{κ:Type}[DecidableEq κ]
abbrev R3(κ:Type):=Int×κ×Int
noncomputable def un(t:T4 κ):R3 κ:=(t.1,t.2.1,t.2.2.1)
noncomputable def mat(w:Int)(a b:R3 κ):Bool:=decide (a.2.1=b.2.1)&&(decide (a.1 - b.1<=w)&&decide (b.1 - a.1<=w))
noncomputable def cp(a b:R3 κ):T4 κ:=(max a.1 b.1,a.2.1,a.2.2,b.2.2)
noncomputable def pr(w:Int)(A B:List (R3 κ)):List (T4 κ):=A.flatMap λa=>(B.filter (mat w a)).map (cp a)
noncomputable def keyIs(k:κ):R3 κ->Bool:=λr=>decide (r.2.1=k)
end
theorem qfg{α:Type}{k k':α->Int}{r:α}(hr:k r=k' r): ∀l:List α,(∀x∈l,k x=k' x)->ins k r l=ins k' r l
 |[],_=>rfl
 |x::l,h=>by
  show(if k x<=k r then x::ins k r l else r::x::l)=(if k' x<=k' r then x::ins k' r l else r::x::l)
  rw[hr,h x List.mem_cons_self,qfg hr l λy hy=>h y (List.mem_cons_of_mem _ hy)]
theorem qeJ{α:Type}{k k':α->Int}(l:List α):(∀x∈l,k x=k' x)->srt k l=srt k' l:=by refine qlx (P:=λl=>(∀x∈l,k x=k' x)->srt k l=srt k' l) (λ_=>rfl) (λl a ih h=> ?_) l;rw[qdY,qdY,ih λx hx=>h x (List.mem_append_left _ hx)];exact qfg (h a (Vs _ Vj)) _ λx hx=>h x (Vr _ ((qee _).mp hx))
end SR
namespace RH
open PySem PySem.Spec PyProof.Rows L2 SR
noncomputable def ltS(x y:Str):Bool:=decide (x.cps.toList<y.cps.toList)
theorem qrr{x y:Str}(h:x.cps.toList=y.cps.toList):x=y:=by cases x;simp_all
theorem ordS:Ord ltS where
 irr:=λa=>Vv (List.lt_irrefl _)
 tr:=λa b c h1 h2=>decide_eq_true (List.lt_trans (of_decide_eq_true h1) (of_decide_eq_true h2))
 tot:=λa b h1 h2=>qrr (List.le_antisymm (List.not_lt.mp (of_decide_eq_false h2)) (List.not_lt.mp (of_decide_eq_false h1)))
end RH
namespace SetL
section
variable{α:Type}[DecidableEq α]
noncomputable def dd:List α->List α
 |[]=>[]
 |x::xs=>if x∈dd xs then dd xs else x::dd xs
noncomputable def dl(key:Nat->α):Nat->List α
 |0=>[]
 |i+1=>if mem key i (key i)=true then dl key i else dl key i++[key i]
end
open PySem PySem.W PySem.Calls PyProof.Rows SR
structure Kd(prog:Program)(w:World)(α:Type)[DecidableEq α] where
 knd:PySem.KeyKind prog w α
 up:α->L2.V
 d:α
 of:Value->α
 lt:α->α->Bool
 ord:Ord lt
 isv: ∀x u,L2.RelV (up x) u->knd.is x u=true/\u.scannable=true
 vis: ∀x u,knd.is x u=true->L2.RelV (up x) u
 ofv: ∀x u,L2.RelV (up x) u->of u=x
 kind: ∀v1 v2 vs,(∀v∈v1::v2::vs,∃x,L2.RelV (up x) v)->keyKind' (v1::v2::vs).toArray=pure oneType'
 lts: ∀{A:Around}{E:Value->Shared->Prop}{s:Shared}{Q:Bool->Shared->Prop}(x y:α)(u v:Value),L2.RelV (up x) u->L2.RelV (up y) v->Q (lt x y) s->wpAny (model prog w) A (keyLt' oneType' u v) Q E s
end SetL
namespace SetL
open PySem L2 SR
theorem boot_sorted:bootBuiltins "sorted" =some (.builtin "sorted"):=by decide+kernel
end SetL
namespace PL
open PySem L2 SR SetL
inductive Ky where
 |i (n:Int)|s (x:Str)
 deriving DecidableEq
noncomputable def qmc:Ky->Ky->Bool
 |.i a,.i b=>decide (a<b)
 |.i _,.s _=>true
 |.s _,.i _=>false
 |.s a,.s b=>RH.ltS a b
theorem qo5:Ord qmc where
 irr:=λa=>by
  cases a with
  |i n=>exact Vv (Int.lt_irrefl n)
  |s x=>exact RH.ordS.irr x
 tr:=λa b c h1 h2=>match a,b,c,h1,h2 with
  |.i _,.i _,.i _,h1,h2=>decide_eq_true (Int.lt_trans (of_decide_eq_true h1) (of_decide_eq_true h2))
  |.i _,.i _,.s _,_,_=>rfl
  |.i _,.s _,.i _,_,h2=>nomatch h2
  |.i _,.s _,.s _,_,_=>rfl
  |.s _,.i _,_,h1,_=>nomatch h1
  |.s _,.s _,.i _,_,h2=>nomatch h2
  |.s _,.s _,.s _,h1,h2=>RH.ordS.tr _ _ _ h1 h2
 tot:=λa b h1 h2=>match a,b,h1,h2 with
  |.i x,.i y,h1,h2=>by
   have e1: ¬x<y:=of_decide_eq_false h1;have e2: ¬y<x:=of_decide_eq_false h2
   congr 1;lia
  |.i _,.s _,h1,_=>nomatch h1
  |.s _,.i _,_,h2=>nomatch h2
  |.s x,.s y,h1,h2=>congrArg Ky.s (RH.ordS.tot x y h1 h2)
noncomputable def ltKs:List Ky->List Ky->Bool
 |[],[]=>false
 |[],_::_=>true
 |_::_,[]=>false
 |a::as,b::bs=>if a=b then ltKs as bs else qmc a b
theorem qhk: ∀a,ltKs a a=false
 |[]=>rfl
 |a::as=>by show(if a=a then ltKs as as else qmc a a)=false;rw[if_pos rfl];exact qhk as
theorem qjH: ∀a b c,ltKs a b=true->ltKs b c=true->ltKs a c=true
 |[],[],_,h,_=>by cases h
 |[],_::_,[],_,h=>by cases h
 |[],_::_,_::_,_,_=>rfl
 |_::_,[],_,h,_=>by cases h
 |_::_,_::_,[],_,h=>by cases h
 |a::as,b::bs,c::cs,h1,h2=>by
  have bT:(if a=b then ltKs as bs else qmc a b)=true:=h1;have bF:(if b=c then ltKs bs cs else qmc b c)=true:=h2;show(if a=c then ltKs as cs else qmc a c)=true;by_cases e1:a=b
  ·subst e1;rw[if_pos rfl] at bT;by_cases e2:a=c
   ·rw[if_pos e2] at bF⊢;exact qjH as bs cs bT bF
   grind
  ·rw[if_neg e1] at bT;by_cases e2:b=c
   ·grind
   ·rw[if_neg e2] at bF;have t:=qo5.tr _ _ _ bT bF;by_cases e3:a=c
    ·subst e3;rw[qo5.irr] at t;cases t
    grind
theorem qhj: ∀a b,ltKs a b=false->ltKs b a=false->a=b
 |[],[],_,_=>rfl
 |[],_::_,h,_=>by cases h
 |_::_,[],_,h=>by cases h
 |a::as,b::bs,h1,h2=>by
  have bT:(if a=b then ltKs as bs else qmc a b)=false:=h1;have bF:(if b=a then ltKs bs as else qmc b a)=false:=h2;by_cases e:a=b
  ·subst e;rw[if_pos rfl] at bT bF;rw[qhj as bs bT bF]
  ·rw[if_neg e] at bT;rw[if_neg (Ne.symm e)] at bF;exact absurd (qo5.tot _ _ bT bF) e
theorem ordKs:Ord ltKs:=⟨qhk,qjH,qhj⟩
noncomputable def okShape:List Nat->Bool
 |[0]=>true
 |[1]=>true
 |2::x::r=>(x::r).all λn=>n==0||n==1
 |_=>false
noncomputable def sortBy{α:Type}(f:α->List Ky)(ts:List α):List α:=srt (λt=>qh7 ltKs (ts.map f) (f t)) ts
section
open PySem.W PyProof.Rows
noncomputable def kyV:Ky->V
 |.i n=>.int n
 |.s x=>.str x
noncomputable def shK:Ky->Nat
 |.i _=>0
 |.s _=>1
theorem qvT: ∀(as bs:List Ky)(us vs:List Value)(i:Nat),qau (as.map kyV) us->qau (bs.map kyV) vs->as.map shK=bs.map shK->C (ltKs as bs) s->KatLex prog w A true false C (us.zip vs) i s
 |[],[],_,_,i,.nil,.nil,_,h=>kat_nil h
 |[],_::_,_,_,_,_,_,hs,_=>by cases hs
 |_::_,[],_,_,_,_,_,hs,_=>by cases hs
 |a::as,b::bs,_,_,i,.cons (l₂:=us) ra rs,.cons (l₂:=vs) rb rt,hs,h=>by
  have jH:shK a=shK b:=(List.cons.inj hs).1;have dX:as.map shK=bs.map shK:=(List.cons.inj hs).2;have h':C (if a=b then ltKs as bs else qmc a b) s:=h;have go: ∀{p q:Value}{rr:List (Value×Value)}{e:Bool},MeetsSeq.EqGives p q e->(e=true->KatLex prog w A true false C rr (i+1) s)->(e=false->wpAny (model prog w) A (oneLt' (true&&i==0) p q) C (λ_ _=>False) s)->KatLex prog w A true false C ((p,q)::rr) i s:=λ{p q rr e} he h1 h2=>by
   refine kat_cons (he prog w A _ s _ ?_);cases e with
   |true=>exact kat_yes (h1 rfl)
   |false=>exact kat_no (h2 rfl)
  cases a with
  |i x=>
   cases b with
   |i y=>
    obtain⟨t1,rfl⟩:=ra;obtain⟨t2,rfl⟩:=rb;refine go (MeetsSeq.EqGives.int _ _ _ _) (λe=> ?_) (λe=> ?_)
    ·have e':=eq_of_beq e;rw[if_pos (by rw[e'])] at h';exact qvT as bs us vs (i+1) rs rt dX h'
    ·have e': ¬Ky.i x=Ky.i y:=λz=>by cases z;rw[beq_self_eq_true] at e;cases e
     rw[if_neg e'] at h';cases z:(i==0) with
     |true=>exact oneLt_int h'
     |false=>exact kat_one _ _ (lt_int (show W.BoolBack C (.bool _) s from h'))
   |s y=>cases jH
  |s x=>
   cases b with
   |i y=>cases jH
   |s y=>
    obtain⟨t1,rfl⟩:=ra;obtain⟨t2,rfl⟩:=rb;have es:MeetsSeq.EqGives (.str x t1) (.str y t2) (decide (x=y)):=λ_ _ _ _ _ _ hq=>wpAny_eqBool_str hq;refine go es (λe=> ?_) (λe=> ?_)
    ·have e':=of_decide_eq_true e;rw[if_pos (by rw[e'])] at h';exact qvT as bs us vs (i+1) rs rt dX h'
    ·have e': ¬Ky.s x=Ky.s y:=λz=>by cases z;simp at e
     rw[if_neg e'] at h';cases z:(i==0) with
     |true=>exact oneLt_str h'
     |false=>exact kat_one _ _ (P.lt_str (show W.BoolBack C (.bool _) s from h'))
end
theorem okShape_cases(h:okShape s0=true):s0=[0]\/s0=[1]\/∃x r,s0=2::x::r/\(x::r).all (λn=>n==0||n==1)=true:=by
 unfold okShape at h;split at h
 ·exact .inl rfl
 ·exact .inr (.inl rfl)
 ·exact .inr (.inr ⟨_,_,rfl,h⟩)
 ·cases h
open PySem.W PyProof.Rows in
theorem kind_strs(its:List Value)(h2:2<=its.length)(hv: ∀v∈its,∃x t,v= .str x t)(hq:Q oneType' s):wpAny (model prog w) A (keyKind' its.toArray) Q E s:=
 match its,h2,hv with
 |v1::v2::cC,_,hv=>by rw[keyKind_strs (strsAre_map _ hv)];exact Vb hq
theorem qdF{h:Heap}{P:Value->Prop}: ∀(l:List Value),(∀v∈l,∃f,(∃a o xs n,v= .ref a/\h.get? a=some o/\o.cls= .type "tuple" /\o.data= .seq xs n/\xs[0]? =some f)/\P f)->∃fs,W.KatTups h l fs/\fs.length=l.length/\∀f∈fs,P f
 |[],_=>⟨[],trivial,rfl,λ_ hf=>nomatch hf⟩
 |v::l,hl=>by
  obtain⟨f,h1,h2⟩:=hl v Vj;obtain⟨fs,h3,h4,h5⟩:=qdF l λu hu=>hl u (Vk _ hu);refine⟨f::fs,⟨h1,h3⟩,by simp[h4],λg hg=> ?_⟩
  grind
end PL
namespace PL
open PySem L2 SR SetL
theorem hu8(r:qbb k A):A.units+8<cLine:=by have:=r.units;lia
abbrev Row:=Int×Str×Int
noncomputable def keyOk(x:Str):Prop:=(1<=x.length/\x.length<=2)/\∀c∈x.cps.toList,97<=c/\c<=122
noncomputable def rowOk(r:Row):Prop:=(0<=r.1/\r.1<=99)/\keyOk r.2.1/\ -99<=r.2.2/\r.2.2<=99
end PL
namespace PL
open PySem L2
end PL
namespace St
open PySem PySem.W PySem.Calls PyProof.Rows
end St
namespace L2
open PySem PySem.Spec PyProof.Rows
structure qxK(x:Str)(v:Value)(env:Env)(h:Heap):Prop where
 kind:env.scope.kind= .function
 loc:env.kindOf x=some .local
 ns: ∃m,h.Ns env.locals m/\m x=some v
end L2
namespace PL
open PySem L2 SR SetL
section
open PySem.W PyProof.Rows
noncomputable def KeyTup(h:Heap)(kl:List Ky)(v:Value):Prop:= ∃p its,v= .ref p/\IsTup h p (List.toArray its)/\qau (kl.map kyV) its
theorem kind_tups(its:List Value)(hx:x=0\/x=1)(h2:2<=its.length)(hk: ∀v∈its,∃kl,KeyTup s.heap kl v/\kl.map shK=x::r)(hq:Q (tuples' true) s):wpAny (model prog w) A (keyKind' its.toArray) Q E s:=by
 have fst: ∀v∈its,∃f,(∃a o xs n,v= .ref a/\s.heap.get? a=some o/\o.cls= .type "tuple" /\o.data= .seq xs n/\xs[0]? =some f)/\((x=0/\∃i t,f=Value.int i t)\/(x=1/\∃i t,f=Value.str i t)):=λv hv=>by
  obtain⟨kl,⟨p,w1,g1,i1,v1⟩,k1⟩:=hk v hv;obtain⟨o1,e1,c1,n1,d1⟩:=i1;cases kl with
  |nil=>cases k1
  |cons ky kr=>
   cases v1 with
   |cons r0 rr=>
    have ks:shK ky=x:=(List.cons.inj k1).1;cases ky with
    |i n=>obtain⟨tk,rfl⟩:=r0;exact⟨_,⟨p,o1,_,n1,g1,e1,c1,d1,rfl⟩,.inl ⟨ks.symm,n,tk,rfl⟩⟩
    |s n=>obtain⟨tk,rfl⟩:=r0;exact⟨_,⟨p,o1,_,n1,g1,e1,c1,d1,rfl⟩,.inr ⟨ks.symm,n,tk,rfl⟩⟩
 obtain⟨fs,k1,k2,k3⟩:=qdF its fst
 rcases hx with rfl|rfl
 ·refine W.kat_kind k1 (by lia) (T:=.type "int") (λv hv=> ?_) (by decide) ?_
  ·rcases k3 v hv with⟨_,i,t,rfl⟩|⟨z,_⟩
   ·exact W.Looks.of_pure rfl
   ·cases z
  ·exact hq
 ·refine W.kat_kind k1 (by lia) (T:=.type "str") (λv hv=> ?_) (by decide) ?_
  ·rcases k3 v hv with⟨z,_⟩|⟨_,i,t,rfl⟩
   ·cases z
   ·exact W.Looks.of_pure rfl
  ·exact hq
theorem lt_tups(h1:KeyTup s.heap a u)(h2:KeyTup s.heap b v)(hs:a.map shK=b.map shK)(hc:C (ltKs a b) s):wpAny (model prog w) A (keyLt' (tuples' true) u v) C (λ_ _=>False) s:=by
 obtain⟨p1,w1,rfl,i1,v1⟩:=h1;obtain⟨p2,w2,rfl,i2,v2⟩:=h2;obtain⟨o1,e1,_,n1,d1⟩:=i1;obtain⟨o2,e2,_,n2,d2⟩:=i2;refine kat_lt e1 d1 e2 d2 ?_;have hl:w1.length=w2.length:=by
  have h1:=v1.length;have h2:=v2.length;have h3:=congrArg List.length hs
  grind
 rw[show decide _=false by simp[hl]];exact qvT _ _ _ _ 0 v1 v2 hs hc
end
theorem boot_sum':bootBuiltins "sum" =some (.builtin "sum"):=by decide+kernel
end PL
namespace PL
open PySem L2
end PL
namespace St
open PySem PySem.W PySem.Calls PyProof.Rows
section
theorem sorted_c(cA:wpAny (model prog w) A.in1 (collect v) (λvs s1=> ∃(h1:Heap)(t1:Nat)(κ:SortKind)(kz:List Int),s1={ s with heap:=h1,toks:=t1 }/\Kp s.heap h1/\kz.length=vs.length/\vs.length<64/\
   (∀s':Shared,Kp h1 s'.heap->2<=vs.length->∀(Q:SortKind->Shared->Prop)(E:Value->Shared->Prop),Q κ s'->wpAny (model prog w) A.in1.in1 (keyKind' vs.toArray) Q E s')/\
   (∀s':Shared,Kp h1 s'.heap->∀i j,i<vs.length->j<vs.length->∀C:Bool->Shared->Prop,C (decide (kz.getD i 0<kz.getD j 0)) s'->wpAny (model prog w) A.in1.in1 (keyLt' κ (vs.getD i Value.none) (vs.getD j Value.none)) C (λ_ _=>False) s')/\
   ∀D h' tk c (p:Array Nat),h1.objs.size<=D->Kp h1 h'->qdj kz vs.length p->h'.get? D=some (seqObj "list" (List.toArray (p.toList.map λi=>vs.getD i Value.none)) c)->Q (.ref D) { s with heap:=h',toks:=tk }) E s):
  wpAny (model prog w) A (call (.builtin "sorted") [v]) Q E s:=by
 refine Calls.call_function_entry kind_sorted plain_sorted entry_sorted (args_sorted1 _) ?_;unfold Builtin.«sorted»;refine Va (m:=checkCount "sorted" 1 1 _) (Vb ?_);refine Va (Vc cA (λvs s1 h=> ?_) λ_ _ x=>x);obtain⟨H1,t1,κ,kz,rfl,gL,hlen,fj,kind,cmp,h⟩:=h;refine Va (wpAny_newList ?_ (by rw[sizeLine_eq];lia));have dI:Kp H1 (H1.push (seqObj "list" vs.toArray 0)):=λb o q=>Vg _ q;have gP:(H1.push (seqObj "list" vs.toArray 0)).get? H1.objs.size=some (seqObj "list" vs.toArray 0):=Vh _ rfl;refine Va (wpAny_holding (wpAny_call_entry slot_list_sort ⟨_,gP,rfl⟩ entry_list_sort ?body (args_list_sort _)))
 case body=>
  refine qpr (h0:=H1) (kz:=kz) (κ:=κ) gP hlen fj dI (qmu (Vl _)) (λs' k h2 Q hq=>kind s' k h2 Q _ hq) cmp λh' tk c p a1 a2 a3=>⟨_,rfl,?_⟩
  exact Vb ⟨_,rfl,h _ h' tk c p (Vl _) a1 a2 a3⟩
end
end St
namespace L2
open PySem PySem.Spec PyProof.Rows
noncomputable def ovl(F ex:Hp):Hp:=λb=>match ex b with|some o=>some o|none=>F b
theorem qb8(h:ex b=some o):ovl F ex b=some o:=by unfold ovl;rw[h]
theorem qaZ(h:ex b=none):ovl F ex b=F b:=by unfold ovl;rw[h]
theorem Inv.laidF(I:Inv X Z σ H s)(k: ∀b u,s.heap.get? b=some u->h'.get? b=some u)(hp: ∀b o,ex b=some o->s.heap.objs.size<=b)(new: ∀b o,ex b=some o->qaG X.prog X.w (ovl H ex) h' b o):
  Inv X Z σ (ovl H ex) { s with heap:=h',toks:=t' }:=by
 have old: ∀b,b<s.heap.objs.size->ex b=none:=λb hb=>by
  cases e:ex b with
  |none=>rfl
  |some o=>exact absurd (hp b o e) (by exact Nat.not_le_of_lt hb)
 have cg: ∀b o,H b=some o->ovl H ex b=some o:=λb o e=>by rw[qaZ (old b (I.hok b o e).lt)];exact e
 refine I.step (ch:=[]) (λ_ z=>nomatch z) (λb o _ _ _ e n=>k b o e) (λb o _ _ _ e n=>⟨o.slots,k b o e⟩) (λb o _ e n=>by rw[qaZ (old b (Heap.lt_size e))];exact n)
  (λb o _ e=>⟨o,k b o e⟩) (λb xs e=>cg b _ e) (λb o u e=>cg b _ e) (λb qs e=>⟨#[],by rw[cg b _ e];simp⟩) (λm hm=>hm.keeps k) (λb u e=> ?_) I.bare
 cases z:ex b with
 |some o=>rw[qb8 z] at e;grind
 |none=>rw[qaZ z] at e;exact(I.hok b u e).stay (λc v _ q=>k c v q) (λc q=>cg c _ q) λc xs q=>cg c _ q
theorem is_kV(h:(qas P w).is k u=true):RelV (kV k) u:=by
 cases k with
 |inl i=>
  cases u with
  |int j t=>
   have:=by simpa [qas,keyIs,Value.isInt] using h
   subst this;exact⟨t,rfl⟩
  |_=>simp[qas,keyIs,Value.isInt] at h
 |inr x=>
  cases u with
  |str j t=>
   have:=by simpa [qas,keyIs,Value.isStrOf] using h
   subst this;exact⟨t,rfl⟩
  |_=>simp[qas,keyIs,Value.isStrOf] at h
theorem qiu(ho:s.heap.get? a=some o)(hx:o.ExactDict)(hs:(a==sysModules)=false)(h:Q (.ref s.heap.objs.size) { s with heap:=s.heap.push { cls:=.type "dict_items",data:=.fields #[.ref a] } }):wpAny (model prog w) A (call (.builtin "dict.items") [.ref a]) Q E s:=by
 refine wpAny_call_entry F.slot_dict_items ⟨o,ho,hx.1⟩ F.entry_dict_items ?_ (F.args_dict_items_1 _);unfold Builtin.«dict.items» Builtin.Dict.noArgs;have ty:s.TypeIs (.ref a) "dict" :=⟨o,ho,hx.1⟩
 repeat (any_goals(first|assumption|wp_step))
 rw[hx.1,if_neg (by decide)];refine Vb ?_;show wpAny _ _ (Builtin.Dict.nameIsSure "items" _ false>>=λ_=>(selfOnly _ _>>=λx=>Builtin.Dict.addrOf x)) _ _ _;have e1:Builtin.Dict.nameIsSure "items" { pos:=[Value.ref a] } false=pure ():=rfl;rw[e1];refine Va (Vb ?_);refine Va (m:=selfOnly _ _) (Vb ?_);refine Vb (?_);have e2:Builtin.Dict.showsAll a=pure ():=by unfold Builtin.Dict.showsAll;rw[if_neg (by rw[hs];decide)]
 rw[e2];refine Va (Vb ?_);refine Va (wpAny_newObj_type ?_);exact Vb ⟨_,rfl,h⟩
theorem KV.get(r:KV us vs): ∀{j:Nat}{k:Key}{x:Value},vs[j]? =some (k,x)->∃v,us[j]? =some (k,v)/\RelV v x:=by
 induction r with
 |nil=>simp
 |cons h t ih=>
  intro j k x e;cases j with
  |zero=>
   rename_i p q _ _;simp at e;obtain⟨p1,p2⟩:=p
   simp_all
  |succ j=>
   simp_all
theorem qhx{α:Type}: ∀{as:List Addr}{us:List α}{j:Nat}{a:Addr}{u:α},as.Pairwise (λx y=>x<y)->as[j]? =some a->us[j]? =some u->(as.zip us).find? (λq=>q.1==a)=some (a,u)
 |[],_,_,_,_,_,e,_=>by simp at e
 |_::_,[],_,_,_,_,_,e=>by simp at e
 |b::as,w::us,0,a,u,_,e1,e2=>by
  simp_all
 |b::as,w::us,j+1,a,u,pw,e1,e2=>by
  have pw:=List.pairwise_cons.mp pw;have bJ:=pw.1 a (Vt e1);rw[List.zip_cons_cons,List.find?_cons];have:(b==a)=false:=by grind
  simp only[this];exact qhx pw.2 e1 e2
end L2
namespace PL
open PySem L2 SR SetL
end PL
namespace SetL
open PySem
noncomputable def its(mask:Nat):Nat->Nat×Nat->Nat×Nat
 |0,x=>x
 |t+1,x=>its mask t (SetTable.leap mask x.1 x.2)
end SetL
namespace PL
open PySem L2 SR SetL
end PL
namespace St
open PySem PySem.W PySem.Calls PyProof.Rows
end St
namespace PL
open PySem L2 SR SetL
end PL
namespace L2
open PySem PySem.Spec PyProof.Rows
noncomputable def qhT(Ts:List Addr)(H:Hp):Prop:=(∀T∈Ts,H T=some (.tbl #[]))/\∀b,b∉Ts->H b=none\/∃o xs,H b=some (.frz o (.lst xs))
theorem qis{K:W.Frag}{k:Nat}{aD:List (Addr×Addr)}{x:Str}{aa:Shared}{vs:List Value}{ns:List Int}(KX:K.In aa.heap)(gR:aa.heap.Ns mainGlobals mg)(hb:aa.heap.Ns builtinsNs mb)(hbb: ∀x:Str,x≠ "__name__" ->mb x=bootBuiltins x)(iM:aa.heap.NoLimit)(hg:aa.gens= #[])(ha:aa.heap.get? a=some { cls:=.type "list",data:=.seq vs.toArray })(hi:IntsAre vs ns)(hl:ns.length<=sizeLine)(hr:qbb k callerA)(hC: ∀p∈aD,W.CodeHd aa.heap p.1 p.2)(hT: ∀T∈aD.map (·.2),aa.heap.get? T=some (W.tabObj #[]))(hKT: ∀T∈aD.map (·.2),K.lookup T=none)(iZ:qfM mg aa.heap)(F: ∀base:Heap,K.In base->base.Ns mainGlobals mg->(∀p∈aD,W.CodeHd base p.1 p.2)->qfM mg base->qdl P w K mg base CX k fa fd [x] sp)(gy: ∀(s:Shared)(u:Value),BindsTo s fd ⟨[u],[]⟩ [(x,u)])(cL: ∀H:Hp,qhT (aD.map (·.2)) H->SqL K H a (ns.map V.int)->sp [.ref a] H (λv _=>v= .bl true) λ_ _ _=>False)(jf: ∀H e s',CX [] H aa (λ_ _ _=>False) e s'->False):
  codeAny (model P w) callerA (.call (.ref fa) ⟨[.ref a],[]⟩) (λr s'=>r= .ok (.ret (.bool true))/\OldK aa.heap s'.heap/\s'.os=aa.os/\AllBare s'.gens) aa:=by
 have rv:=qeD hi;have iB:=hi.length
 have core: ∀H:Hp,qhT (aD.map (·.2)) H->SqL K H a (ns.map V.int)->HOk P w H aa.heap->(∀b,H b≠none->b=a\/b∈aD.map (·.2))->(H a≠none->K.lookup a=none)->
   codeAny (model P w) callerA (.call (.ref fa) ⟨[.ref a],[]⟩) (λr s'=>r= .ok (.ret (.bool true))/\OldK aa.heap s'.heap/\s'.os=aa.os/\AllBare s'.gens) aa:=by
  intro H hO hS hok hA hK;have aQ: ∀{b:Addr}{o:Obj},aa.heap.get? b=some o->H b=none->(qj7 aa.heap H).get? b=some o:=λe n=>qmt e n;have other: ∀{b:Addr}{o:Obj},aa.heap.get? b=some o->(∀xs n,o.data≠.seq xs n)->(o.cls≠.none)->H b=none:=λ{b o} e d d2=>by
   cases q:H b with
   |none=>rfl
   |some u=>
    rcases hA b (by rw[q];simp) with z|z
    ·subst z;rw[ha] at e;cases e;exact absurd rfl (d _ _)
    ·rw[hT b z] at e;cases e;exact absurd rfl d2
  have cK: ∀{b:Addr}{o:Obj}{es:Array DictEntry}{ep:Nat},aa.heap.get? b=some o->o.data= .dict es ep->H b=none:=λ{b o es ep} e d=>by
   cases q:H b with
   |none=>rfl
   |some u=>
    rcases hA b (by rw[q];simp) with z|z
    ·subst z;rw[ha] at e;cases e;have d':Data.seq vs.toArray _=Data.dict es ep:=d;cases d'
    ·rw[hT b z] at e;cases e;have d':Data.fields _=Data.dict es ep:=d;cases d'
  have gJ: ∀{b:Addr}{m:Str->Option Value},aa.heap.Ns b m->(qj7 aa.heap H).Ns b m:=λ{b m} ⟨o,es,ep,e,d,r⟩=>⟨o,es,ep,aQ e (cK e d),d,r⟩
  have jW:K.In (qj7 aa.heap H):=λb o e=>aQ (KX b o e) (by
   cases q:H b with
   |none=>rfl
   |some u=>
    rcases hA b (by rw[q];simp) with z|z
    ·subst z;rw[hK (by rw[q];simp)] at e;cases e
    ·rw[hKT b z] at e;cases e)
  have hM:Mod K mg (qj7 aa.heap H):=⟨jW,gJ gR,⟨mb,gJ hb,hbb⟩,let ⟨mc,h1,h2⟩:=iM;⟨mc,gJ h1,h2⟩⟩
  have hCb: ∀p∈aD,W.CodeHd (qj7 aa.heap H) p.1 p.2:=λp hp=>by obtain⟨o,cC,file,tf,flags,tg,inF,text,tt,e1,e2,e3,r⟩:=hC p hp;exact⟨o,cC,file,tf,flags,tg,inF,text,tt,aQ e1 (other e1 (λxs n z=>by rw[e3] at z;cases z) (λz=>by rw[e2] at z;cases z)),e2,e3,r⟩
  have hBb:qfM mg (qj7 aa.heap H):=by obtain⟨bm,ob,b1,b2,b3,b4,b5,b6⟩:=iZ;exact⟨bm,ob,b1,b2,aQ b3 (other b3 (λxs n z=>by rw[b6] at z;cases z) (λz=>by rw[b4] at z;cases z)),b4,b5,b6⟩
  have e0:qlf P w K mg (qj7 aa.heap H) callerA [] aa H:=⟨rfl,hM,λb o e=>qpg e,Nat.le_of_eq (qj6 _ _),trivial,λb hb=>absurd (show b∈([]:List Addr) from hb) (by simp),hok,.of_eq hg⟩
  refine codeAny_mono ((F _ jW (gJ gR) hCb hBb).run callerA [] aa H ⟨[.ref a],[]⟩ [.ref a] [.ref a] _ _ hr e0 (gy aa (.ref a)) (.cons rfl .nil) (cL H hO hS)) λr s' h=> ?_;cases r with
  |error e=>exact(jf H e s' h).elim
  |ok fl=>
   cases fl with
   |next|brk|cont=>exact False.elim h
   |ret u=>
    obtain⟨v,H',os,bare,un,gh,r',q⟩:=h;have q':v= .bl true:=q;subst q';obtain rfl:u=Value.bool true:=r';have old: ∀b o,b∉aD.map (·.2)->aa.heap.get? b=some o->s'.heap.get? b=some o:=λb o bL e=>by
     cases q:H b with
     |none=>exact un.keep b o e q (by intro z;exact absurd (show b∈([]:List Addr) from z) (by simp)) (by simp)
     |some u=>
      rcases hO.2 b bL with z|⟨ob,xs,z⟩
      ·rw[q] at z;cases z
      ·have z2:=un.frzs b ob _ z;obtain⟨e1,_⟩:=hok b _ z;obtain⟨e2,_⟩:=gh b _ z2;rw[e] at e1;cases e1;exact e2
    have tb: ∀T∈aD.map (·.2),∃more,s'.heap.get? T=some (W.tabObj (#[]++more)):=λT eR=>by obtain⟨more,hT'⟩:=un.tbls T _ (hO.1 T eR);exact⟨more,gh T _ hT'⟩
    refine⟨rfl,⟨λb o e=> ?_,λb o e=> ?_⟩,os,bare⟩
    ·by_cases z:b∈aD.map (·.2)
     ·obtain⟨more,jc⟩:=tb b z;rw[hT b z] at e;cases e;obtain⟨p,hp,rfl⟩:=List.mem_map.mp z;exact .inr (.inl ⟨((hC p hp).tab (hT _ z)).isCodeTable,rfl, #[],more,rfl,jc⟩)
     ·exact .inl (old b o z e)
    ·by_cases z:b∈aD.map (·.2)
     ·obtain⟨more,jc⟩:=tb b z;exact⟨_,jc⟩
     ·exact⟨o,old b o z e⟩
 have aT:a∉aD.map (·.2):=λz=>by rw[hT a z] at ha;cases ha
 cases hk:K.lookup a with
 |some o=>
  have e:=KX a o hk;rw[ha] at e;cases e;refine core (λb=>if b∈aD.map (·.2) then some (.tbl #[]) else none) ⟨λT eR=>if_pos eR,λb hb=>.inl (if_neg hb)⟩ (.inr ⟨_,vs.toArray,_,hk,rfl,rfl,rfl,by rw[List.size_toArray,iB];exact hl,by simpa using rv⟩) (λb u z=> ?_) (λb z=> ?_) λz=>absurd (if_neg aT) z
  ·by_cases hb:b∈aD.map (·.2)
   ·have z':=(if_pos hb).symm.trans z;cases z';exact hT b hb
   ·have z':=(if_neg hb).symm.trans z;cases z'
  ·by_cases hb:b∈aD.map (·.2)
   ·exact .inr hb
   ·exact absurd (if_neg hb) z
 |none=>
  refine core (λb=>if b∈aD.map (·.2) then some (.tbl #[]) else if b=a then some (.frz { cls:=.type "list",data:=.seq vs.toArray } (.lst (ns.map V.int))) else none) ⟨λT eR=>if_pos eR,λb bL=> ?_⟩ (.inl (.inr ⟨{ cls:=.type "list",data:=.seq vs.toArray },(if_neg aT).trans (if_pos rfl)⟩)) (λb u z=> ?_) (λb z=> ?_) λ_=>hk
  ·by_cases hb:b=a
   ·exact .inr ⟨_,_,(if_neg bL).trans (if_pos hb)⟩
   ·exact .inl ((if_neg bL).trans (if_neg hb))
  ·by_cases bL:b∈aD.map (·.2)
   ·have z':=(if_pos bL).symm.trans z;cases z';exact hT b bL
   ·by_cases hb:b=a
    ·have z':=((if_neg bL).trans (if_pos hb)).symm.trans z;cases z';subst hb;exact⟨ha,by rw[List.length_map];exact hl,vs,_,rv,ha⟩
    ·have z':=((if_neg bL).trans (if_neg hb)).symm.trans z;cases z'
  ·by_cases bL:b∈aD.map (·.2)
   ·exact .inr bL
   ·by_cases hb:b=a
    ·exact .inl hb
    ·exact absurd ((if_neg bL).trans (if_neg hb)) z
theorem walk_ofTs{l:W.OpenLaw}{n k:Nat}{q:Program}{loose:List Str}{XP:(Str->Option Value)->Heap->Prop}{YP:World->Heap->Prop}{d:DefRec}{K:Params->W.Frag}{CX:World->CXT}{sp:World->List (Addr×Addr)->Sp}{x:Str}{ys:List Str}(hn:l.most=some n)(gS:n<=sizeLine)(eN:d.params.defaults=[])(hr:qbb k callerA)(hY: ∀(w:World)(h:Heap),YP w h->(K w.params).In h)(bu: ∀y∈ys,∃dx,(recsOf q).find? (λe=>e.name==y)=some dx)(F: ∀(w:World)(mg:Str->Option Value)(fa:Addr)(h:Heap),(K w.params).In h->h.Ns mainGlobals mg->mg d.name=some (.ref fa)->
   ∃(fd:FuncData)(aD:List (Addr×Addr)),ys.map (W.tabIn (K w.params))=aD.map some/\(∀T∈aD.map (·.2),(K w.params).lookup T=none)/\(∀(s:Shared)(u:Value),BindsTo s fd ⟨[u],[]⟩ [(x,u)])/\
    (∀base:Heap,(K w.params).In base->base.Ns mainGlobals mg->(∀p∈aD,W.CodeHd base p.1 p.2)->qfM mg base->qdl l.prog w (K w.params) mg base (CX w) k fa fd [x] (sp w aD)))(cL: ∀(w:World)(aD:List (Addr×Addr))(H:Hp)(a:Addr)(ns:List Int),ns.length<=n->qhT (aD.map (·.2)) H->SqL (K w.params) H a (ns.map V.int)->sp w aD [.ref a] H (λv _=>v= .bl true) λ_ _ _=>False)(jf: ∀(w:World)(H:Hp)(s:Shared)(e:Value)(s':Shared),CX w [] H s (λ_ _ _=>False) e s'->False):
  W.WalkO q loose XP YP l.row.toRowW d [] (λf vs=>PySem.call f vs):=by
 refine Att.attach_call hn eN λw s₀ aa mg mb fa o pm cd doc a vs ns G Y ho hd aK iL d8 hints hlen hg=> ?_;have KX:=hY w _ Y;obtain⟨fd,aD,ht,hkt,hb,hF⟩:=F w mg fa _ KX G.T.g iL;have each: ∀p∈aD,W.CodeHd _ p.1 p.2/\aa.heap.get? p.2=some _:=λp hp=>by
  have hm:some p∈ys.map (W.tabIn (K w.params)):=by grind
  obtain⟨y,hy,ey⟩:=List.mem_map.mp hm;obtain⟨dx,gX⟩:=bu y hy;exact W.tab_of G.T KX gX ey
 have hC:=λp hp=>(each p hp).1;have hT: ∀T∈aD.map (·.2),aa.heap.get? T=some _:=λT eR=>by obtain⟨p,hp,rfl⟩:=List.mem_map.mp eR;exact(each p hp).2
 exact qis KX G.T.g G.T.b G.T.builtins G.T.nolimit hg d8 hints (Vp hlen gS) hr hC hT hkt G.T.bmain hF hb (λH hO hS=>cL w aD H a ns hlen hO hS) λH e s'=>jf w H _ e s'
end L2
namespace PL
open PySem L2 SR SetL
theorem len1{α:Type}: ∀{us:List α},us.length=1->∃a,us=[a]
 |[a],_=>⟨a,rfl⟩
theorem nodup_fst{β:Type}: ∀{l:List (Addr×β)},(l.map (·.1)).Nodup->∀{a b:Addr×β},a∈l->b∈l->a.1=b.1->a=b
 |[],_,_,_,h,_,_=>by cases h
 |x::l,nd,a,b,ha,hb,e=>by
  rw[List.map_cons,List.nodup_cons] at nd
  rcases List.mem_cons.mp ha with rfl|jT
  ·grind
  ·rcases List.mem_cons.mp hb with rfl|a8
   ·exact absurd (by rw[<-e];exact List.mem_map.mpr ⟨a,jT,rfl⟩) nd.1
   ·exact nodup_fst nd.2 jT a8 e
theorem boot_any':bootBuiltins "any" =some (.builtin "any"):=by decide+kernel
end PL
namespace PySem
section
theorem qe7:typeLookup (.type "list") "keys" =pure none:=by kernel_rfl
theorem qcX:typeLookup (.type "list") "__getattr__" =pure none:=by kernel_rfl
theorem qiY:isSubtype (.type "AttributeError") (.type "AttributeError")=pure true:=rfl
noncomputable def qwT(h:Heap)(g:Array GenState)(d:Drawn)(os:OsState)(E:Value->Shared->Prop):Prop:= ∀(e:Addr)(h':Heap)(t':Nat),(∀b u,h.get? b=some u->h'.get? b=some u)->(∃o,h'.get? e=some o/\o.cls= .type "AttributeError")->E (.ref e) ⟨h',g,d,t',os⟩
theorem qjS{prog:Program}{w:World}{A:Around}{E:Value->Shared->Prop}{h:Heap}{g:Array GenState}{d:Drawn}{t:Nat}{os:OsState}{a:Addr}{items:Array Value}{c:Nat}{tk:Tok}{Q:Fin->Shared->Prop}(hh:A.handled=none)(hx:h.get? a=some { cls:=.type "list",dict:=none,data:=.seq items c,slots:= #[] })(hE:qwT h g d os E):
  wpAny (model prog w) A (Builtin.«object.__getattribute__» ⟨[.ref a,.str "keys" tk],[]⟩) Q E ⟨h,g,d,t,os⟩:=by
 have hT:(⟨h,g,d,t,os⟩:Shared).TypeIs (.ref a) "list" :=⟨_,hx,rfl⟩
 have f4:=qe7
 repeat (any_goals(first|assumption|wp_step))
 have em:(Str.ofString (toString "'" ++toString ((Manifest.find? "list").elim "list" λx=>x.tpName)++toString "' object has no attribute '")++Str.ofString "keys" ++Str.ofString "'").length<=sizeLine:=by
  have:(Manifest.find? "list").elim "list" (λx=>x.tpName)= "list" :=by decide+kernel
  rw[this]
  decide+kernel
 generalize (Str.ofString (toString "'" ++toString ((Manifest.find? "list").elim "list" λx=>x.tpName)++toString "' object has no attribute '")++Str.ofString "keys" ++Str.ofString "'")=msg at em⊢;unfold raiseAttrError;simp only[newExc,newTuple]
 repeat (any_goals(first|assumption|wp_step))
 have eo:ownMembersOf (Value.type "AttributeError") [Value.str msg t]= #[unsetMember,unsetMember]:=rfl;have ei:((Manifest.find? "AttributeError").elim false λt=>t.mro.contains "StopIteration" ||t.mro.contains "SystemExit")=false:=by decide+kernel
 rw[eo,ei];refine wpAny_of_eq qiY ?_
 repeat (any_goals(first|assumption|wp_step))
 unfold raiseNew;refine Va (wpAny_handled ?_);rw[hh];refine Va (Vb (wpAny_throw ?_));refine hE _ _ _ (λb u q=> ?_) ⟨_,Heap.get?_update_self _ (Vh _ rfl) rfl,rfl⟩;have q1:=Vg { cls:=Value.type "tuple",data:=Data.seq #[Value.str msg t] } q;rw[Heap.get?_update_other _ _ (Nat.ne_of_gt (Heap.lt_size q1))];exact Vg _ q1
theorem qjT{prog:Program}{w:World}{A:Around}{h:Heap}{g:Array GenState}{d:Drawn}{t:Nat}{os:OsState}{a:Addr}{items:Array Value}{c:Nat}{tk:Tok}{R:Result->Shared->Prop}(hh:A.handled=none)(hx:h.get? a=some { cls:=.type "list",dict:=none,data:=.seq items c,slots:= #[] })(hE:qwT h g d os λe s=>R (.error e) s):
  codeAny (model prog w) A (.call (.builtin "list.__getattribute__") ⟨[.ref a,.str "keys" tk],[]⟩) R ⟨h,g,d,t,os⟩:=
 codeAny_call_builtin F.slot_list_getattribute.plain F.entry_list_ga (F.slot_list_getattribute.check _ _ _ _ _ _ _ _ (⟨_,hx,rfl⟩) (F.args_list_getattribute_2 _ _) (qjS hh hx hE))
theorem qpz{prog:Program}{w:World}{A:Around}{E:Value->Shared->Prop}{h:Heap}{g:Array GenState}{d:Drawn}{t:Nat}{os:OsState}{a:Addr}{items:Array Value}{c:Nat}{tk:Tok}{Q:Value->Shared->Prop}(hh:A.handled=none)(hx:h.get? a=some { cls:=.type "list",dict:=none,data:=.seq items c,slots:= #[] })(hE:qwT h g d os E):wpAny (model prog w) A (getAttrBy (.ref a) (.str "keys" tk) false) Q E ⟨h,g,d,t,os⟩:=by
 have hT:(⟨h,g,d,t,os⟩:Shared).TypeIs (.ref a) "list" :=⟨_,hx,rfl⟩
 have f2:=F.slot_list_getattribute.lookup;have f3:=F.slot_list_getattribute.bind (.ref a)
 repeat (any_goals(first|assumption|wp_step))
 refine qjT hh hx λe h' t' kp dY=> ?_;obtain⟨o,ho,hc⟩:=dY;show wpAny _ _ (getattributeRaised (Value.ref a) (Value.str (Str.ofString "keys") tk) (Value.type "list") (.ref e) none false false) _ _ _;unfold getattributeRaised;refine Va (wpAny_isInstance (b:=true) ⟨o,ho,hc⟩ qiY ?_);rw[if_pos rfl];unfold hookBehind;refine Va (wpAny_of_eq (show(if onTheHeap (Value.type "list")=true then pure none else typeLookup (Value.type "list") "__getattr__")=pure none from qcX) ?_);exact wpAny_throw (hE e h' t' kp ⟨o,ho,hc⟩)
theorem qjR{prog:Program}{w:World}{A:Around}{E:Value->Shared->Prop}{h:Heap}{g:Array GenState}{d:Drawn}{t:Nat}{os:OsState}{a:Addr}{items:Array Value}{c:Nat}{Q:Option Value->Shared->Prop}(hh:A.handled=none)(hx:h.get? a=some { cls:=.type "list",dict:=none,data:=.seq items c,slots:= #[] })(hq: ∀h' t',(∀b u,h.get? b=some u->h'.get? b=some u)->Q none ⟨h',g,d,t',os⟩):wpAny (model prog w) A (getAttr? (.ref a) "keys") Q E ⟨h,g,d,t,os⟩:=by refine Va (wpAny_mkText ?_);refine Va (wpAny_attempt (qpz hh hx λe h' t' kp ⟨o,ho,hc⟩=> ?_));refine Va (wpAny_isInstance ⟨o,ho,hc⟩ qiY ?_);exact Vb (hq h' t' kp)
end
section
variable{prog:Program}{w:World}{K:Type}[DecidableEq K]{knd:KeyKind prog w K}{A:Around}{E:Value->Shared->Prop}{s:Shared}
theorem qfq:entryFor table "dict.update.loop" =some Builtin.«dict.update.loop» :=entryFor_of_fast (rfl)
theorem qb5:plainId "dict.update.loop" =true:=by decide+kernel
noncomputable def qle(knd:KeyKind prog w K)(h:Heap)(p:K×Value)(v:Value):Prop:= ∃a k,v= .ref a/\PyProof.Rows.IsTup h a #[k,p.2]/\knd.is p.1 k=true
noncomputable def qi0(kvs:List (K×Value)):List (K×Value)->List (K×Value)
 |[]=>kvs
 |p::ps=>qi0 (stored kvs p.1 p.2) ps
theorem qh2(kvs:List (K×Value))(k:K)(v:Value):(stored kvs k v).length<=kvs.length+1:=by
 unfold stored
 split<;>simp
theorem qmE{h0:Heap}{D I l:Addr}{vs:List Value}{R:Result->Shared->Prop}(hh:A.in1.handled=none)(hl:h0.IsList l vs.toArray)(jd:D≠I)(hDl:D≠l)(hlI:l≠I)(jX:h0.get? I=none)(g7:h0.get? D=none):
  ∀(ps:List (K×Value))(j:Nat)(h:Heap)(tk:Nat)(kvs:List (K×Value)),j+ps.length=vs.length->(∀i p,ps[i]? =some p->∃v,vs[j+i]? =some v/\qle knd h0 p v)->kvs.length+ps.length<=1000->(∀b o,h0.get? b=some o->h.get? b=some o)->h.IsListIter I l j->h.DictOf knd D kvs->
   (∀h' cV,(∀b o,h0.get? b=some o->h'.get? b=some o)->h'.DictOf knd D (qi0 kvs ps)->R (.ok (.ret .none)) { s with heap:=h',toks:=cV })->
   codeAny (model prog w) A (.builtin "dict.update.loop" ⟨[.ref D,.ref I,rawInt (j:Nat),.none],[]⟩) R { s with heap:=h,toks:=tk }:=by
 have W:=Walks.list (prog:=prog) (w:=w) (A:=A.in1) hh I l hlI vs.toArray;have jC: ∀h:Heap,(∀b o,h0.get? b=some o->h.get? b=some o)->h.IsList l vs.toArray:=λh k=>hl.at λo e=>k _ _ e;intro ps
 induction ps with
 |nil=>
  intro j h tk kvs hj hp hz kp hI hD fin;have eF:j=vs.toArray.size:=by rw[List.size_toArray];simpa using hj
  refine codeAny_builtin qfq ?_;rw[Around.under_plainId qb5 _];unfold Builtin.«dict.update.loop»;show wpAny _ _ (pyNext (.ref I)>>=_) _ _ _;refine Va (W.done _ _ _ (by rw[<-eF];exact⟨hI,jC h kp⟩) λh' cV k2=> ?_);show wpAny _ _ (Builtin.Dict.addKeywords D []>>=_) _ _ _;refine Va (Vb (Vb ?_));refine fin h' cV (λb o e=>k2 b o (λz=>by rw[List.mem_singleton.mp z,jX] at e;cases e) (kp b o e)) (hD.at λo e=>k2 D o (by simpa using jd) e)
 |cons p ps ih=>
  intro j h tk kvs hj hp hz kp hI hD fin;have bJ:j<vs.toArray.size:=by rw[List.size_toArray];rw[List.length_cons] at hj;lia
  refine codeAny_builtin qfq ?_;rw[Around.under_plainId qb5 _];unfold Builtin.«dict.update.loop»;show wpAny _ _ (pyNext (.ref I)>>=_) _ _ _;refine Va (W.item j _ _ _ bJ ⟨hI,jC h kp⟩ λv h' cV hv st k2=> ?_);have dJ: ∀b o,h0.get? b=some o->h'.get? b=some o:=λb o e=>k2 b o (λz=>by rw[List.mem_singleton.mp z,jX] at e;cases e) (kp b o e);have eS:h'.DictOf knd D kvs:=hD.at λo e=>k2 D o (by simpa using jd) e;obtain⟨v',ev,a,k,ea,⟨oa,ga,ca,na,da⟩,hk⟩:=hp 0 p rfl;have dP:vs[j]? =some v:=by simpa using hv
  have:v'=v:=by rw[Nat.add_zero,dP] at ev;exact(Option.some.inj ev).symm
  subst this;subst ea;dsimp only;refine Va (wpAny_holding ?_);have ty:({ s with heap:=h',toks:=cV }:Shared).TypeIs (.ref a) "tuple" :=⟨oa,dJ _ _ ga,ca⟩
  refine Va (wpAny_tryCatch ?_);unfold Builtin.Dict.pairItems;refine Va (wpAny_typeOf ty ?_);rw[if_pos (by decide)];refine Va (wpAny_seqItems (dJ _ _ ga) da (Vb ?_));show wpAny _ _ (holding [k,p.2] (dictSet D k p.2)) _ _ _;refine wpAny_holding (wpAny_dictSet_pairs (s:={ s with heap:=h',toks:=cV }) hk eS (λh2 dq sb=> ?_) (by rw[List.length_cons] at hz;have:=sizeLine_eq;lia));refine Vb ⟨plainId_quiet qb5 _,?_⟩;have hI2:h2.IsListIter I l (j+1):=by obtain⟨oi,gi,ri⟩:=st.1;exact⟨oi,by rw[sb.2 I (Ne.symm jd)];exact gi,ri⟩
  have sl:=qh2 kvs p.1 p.2;refine ih (j+1) h2 _ (stored kvs p.1 p.2) (by rw[List.length_cons] at hj;lia) (λi q hq=> ?_) (by rw[List.length_cons] at hz;lia) (λb o e=> ?_) hI2 dq fin
  ·obtain⟨v,e1,e2⟩:=hp (i+1) q (by simpa using hq);exact⟨v,by rw[<-e1];congr 1;lia,e2⟩
  ·rw[sb.2 b (λz=>by rw[z,g7] at e;cases e)];exact dJ b o e
theorem qiE{l:Addr}{vs:List Value}{c:Nat}{ps:List (K×Value)}{Q:Value->Shared->Prop}(hh:A.handled=none)(hl:s.heap.get? l=some { cls:=.type "list",dict:=none,data:=.seq vs.toArray c,slots:= #[] })(hn:ps.length=vs.length)(hz:ps.length<=1000)(hp: ∀(i:Nat)(p:K×Value),ps[i]? =some p->∃v,vs[i]? =some v/\qle knd s.heap p v)(h: ∀h' tk,h'.DictOf knd s.heap.objs.size (qi0 [] ps)->(∀b o,s.heap.get? b=some o->h'.get? b=some o)->Q (.ref s.heap.objs.size) { s with heap:=h',toks:=tk }):
  wpAny (model prog w) A (call (.type "dict") [.ref l]) Q E s:=by
 refine callType_codes (Q₁:=λobj aa=>obj= .ref s.heap.objs.size/\aa={ s with heap:=s.heap.push { cls:=.type "dict",data:=.dict #[] } }) F.kt_called_dict (F.kt_typeCall_dict_1 _) F.entry_dict_init (kt_code_dict_new _ ⟨rfl,rfl⟩) ?_;rintro obj aa ⟨rfl,rfl⟩;have cw:(s.heap.push { cls:=.type "dict",data:=.dict #[] }).DictOf knd s.heap.objs.size []:=Heap.DictOf.new s.heap;have bZ:(s.heap.push { cls:=.type "dict",data:=.dict #[] }).get? l=some { cls:=.type "list",dict:=none,data:=.seq vs.toArray c,slots:= #[] }:=Vg _ hl;have ll:=Vi hl;refine⟨cw.typeIs,F.args_dict_init_2 _ _,?_⟩;unfold Builtin.«dict.__init__»;refine Va ?_;unfold Builtin.Dict.selfAndRest;refine Va (wpAny_notOrdered_dict cw.typeIs ?_);show wpAny _ _ (pure (s.heap.objs.size,[Value.ref l])) _ _ _;refine Vb ?_;show wpAny _ _ (Builtin.Dict.updateFrom "dict.__init__" s.heap.objs.size (.ref l) [] .none) _ _ _;unfold Builtin.Dict.updateFrom;have tl:({ s with heap:=s.heap.push { cls:=.type "dict",data:=.dict #[] } }:Shared).TypeIs (.ref l) "list" :=⟨_,bZ,rfl⟩
 refine Va (wpAny_typeOf tl ?_);rw[if_pos (by decide)];refine Va ?_;obtain⟨d7,g,d,tk,os⟩:=s;refine qjR (by exact hh) bZ λh1 t1 gL=> ?_;rw[if_pos (show(none:Option Value).isNone=true from rfl)];refine Va (wpAny_rule ?_);have hl1:=gL _ _ bZ;refine Va (wpAny_pyIter_list (s:=⟨h1,g,d,t1,os⟩) ⟨_,hl1,rfl,_,rfl⟩ ?_);have jZ:h1.DictOf knd d7.objs.size []:=cw.at λo e=>gL _ _ e;have lD:d7.objs.size<h1.objs.size:=by obtain⟨o,_,_,e,_⟩:=jZ;exact Vi e
 have kp0: ∀b o,d7.get? b=some o->h1.get? b=some o:=λb o e=>gL b o (Vg _ e);have gn: ∀{b:Addr},d7.objs.size<=b->d7.get? b=none:=λ{b} hb=>by
  cases q:d7.get? b with
  |none=>rfl
  |some o=>exact absurd (Vi q) (Nat.not_lt.mpr hb)
 refine Vb ⟨plainId_quiet qb5 _,?_⟩;refine qmE (A:=A.in1) (knd:=knd) (s:=⟨h1,g,d,t1,os⟩) (h0:=d7) (vs:=vs) (by exact hh) ⟨_,hl,rfl,_,rfl⟩ (Vn lD) (Nat.ne_of_gt ll) (Vn (Nat.lt_trans ll lD)) (gn (Vo lD)) (gn (Vl _)) ps 0 _ t1 [] (by rw[Nat.zero_add];exact hn) (λi p hi=> ?_) (by simpa using hz) (λb o e=>Vg _ (kp0 b o e)) ⟨_,Vh _ rfl,rfl,rfl⟩ (jZ.push _) λh' cV k2 dq=>⟨rfl,h h' cV dq k2⟩
 obtain⟨v,e1,e2⟩:=hp i p hi;exact⟨v,by rw[Nat.zero_add];exact e1,e2⟩
end
end PySem
namespace PL
open PySem L2 SR SetL
end PL
namespace PL
open PySem L2
theorem qph{P:Program}{w:World}{H:Hp}{h:Heap}{p:Addr}(hp:H p=some (.dK [])): ∀(o:HO)(a:Addr),qaG P w H h a o->qaG P w (upd H p (.dT [])) h a o:=by
 intro o
 induction o with
 |lst xs|tup xs|dK kvs=>exactλa h=>h
 |dT kvs=>
  intro a h;obtain⟨z,y,xs,r,qbT⟩:=h;refine⟨z,y,xs,?_,qbT⟩;clear qbT z y
  induction r with
  |nil=>exact .nil
  |cons c _ ih=>refine .cons ⟨c.1,?_,c.2.2⟩ ih;rw[qac (λz=>by rw[z,hp] at c;cases c.2.1)];exact c.2.1
 |set S n=>exactλa h=>h
 |ins C dx fs=>intro a h;obtain⟨h1,r⟩:=h;exact⟨by rw[qac (λz=>by rw[z,hp] at h1;cases h1)];exact h1,r⟩
 |own x|xd fs|rng lo hi=>exactλa h=>h
 |frz o u ih=>exactλa h=>⟨h.1,ih a h.2⟩
 |_=>exactλa h=>h
theorem Inv.asT{X:Cx}{Z:List (Addr×Obj)}{σ:St}{H:Hp}{s:Shared}{p:Addr}(I:L2.Inv X Z σ H s)(hp:H p=some (.dK [])):L2.Inv X Z σ (upd H p (.dT [])) s:=by
 have no: ∀{b:Addr},H b=none->upd H p (.dT []) b=none:=λ{b} h=>by rw[qac (λz=>by rw[z,hp] at h;cases h)];exact h
 have same: ∀{b:Addr}{o:HO},H b=some o->o≠.dK []->upd H p (.dT []) b=some o:=λ{b o} h n=>by rw[qac (λz=>n (by rw[z,hp] at h;exact(Option.some.inj h).symm))];exact h
 refine⟨I.ok,I.os,I.bare,⟨I.base.keep,I.base.slot,λb o a h e=>no (I.base.free b o a h e),I.base.there,λb xs h=>same (I.base.tups b xs h) (by simp),λb o u h=>same (I.base.frzs b o u h) (by simp),λb ps h=> ?_⟩,I.loc,I.cell,no I.free,λx c h=>no (I.freeC x c h),λq hq=> ?_,λa o h=> ?_,I.len⟩
 ·obtain⟨more,e⟩:=I.base.tbls b ps h;exact⟨more,same e (by simp)⟩
 ·obtain⟨a,b,c⟩:=I.pin q hq;exact⟨a,no b,c⟩
 ·by_cases z:a=p
  ·subst z;rw[qae] at h;cases h;obtain⟨z1,z2,vs,kv,d⟩:=(show qaG X.prog X.w H s.heap a (.dK []) from I.hok a _ hp)
   cases kv;obtain⟨o,es,ep,h1,h2,h3,h4,h5,h6⟩:=d;exact⟨z1,z2,[],.nil,o,es,ep,h1,h2,h3,by generalize es.toList=l at h5⊢;cases h5;rfl,List.nodup_nil⟩
  ·rw[qac z] at h;exact qph hp o a (I.hok a o h)
open PySem.Spec PyProof.Rows SR SetL
theorem Inv.freeze{X:Cx}{Z:List (Addr×Obj)}{σ:L2.St}{H:Hp}{s:Shared}{p:Addr}{us:List (Key×V)}(I:Inv X Z σ H s)(e:H p=some (.dK us)): ∃o,Inv X Z σ (upd H p (.frz o (.dK us))) s:=by
 obtain⟨hz,hs,vs,kv,o,es,ep,ho,hd⟩:=qmJ I.hok e;have nn: ∀b,H b=none->(upd H p (.frz o (.dK us))) b=none:=λb n=>by rw[qac (λz=>by rw[z,e] at n;cases n)];exact n
 have nk: ∀b u,H b=some u->(∀ks,u≠.dK ks)->(upd H p (.frz o (.dK us))) b=some u:=λb u n d=>by rw[qac (λz=>by rw[z,e] at n;cases n;exact d us rfl)];exact n
 have st: ∀b u,qaG X.prog X.w H s.heap b u->qaG X.prog X.w (upd H p (.frz o (.dK us))) s.heap b u:=λb u q=>q.stay (λ_ _ _ q=>q) (λc q=>nk c _ q (by intro _ z;cases z)) λc xs q=>nk c _ q (by intro _ z;cases z)
 refine⟨o,⟨I.ok,I.os,I.bare,⟨I.base.keep,I.base.slot,λb ob a n hx=>nn b (I.base.free b ob a n hx),I.base.there,λb xs q=>nk b _ (I.base.tups b xs q) (by intro _ z;cases z),λb ob u q=>nk b _ (I.base.frzs b ob u q) (by intro _ z;cases z),λb ps q=> ?_⟩,
  I.loc,I.cell,nn _ I.free,λx c q=>nn _ (I.freeC x c q),λq hq=> ?_,λb u q=> ?_,I.len⟩⟩
 ·obtain⟨more,q⟩:=I.base.tbls b ps q;exact⟨more,nk b _ q (by intro _ z;cases z)⟩
 ·obtain⟨a,b,c⟩:=I.pin q hq;exact⟨a,nn _ b,c⟩
 ·by_cases z:b=p
  ·subst z;rw[qae] at q;cases q;exact⟨ho,st _ _ (I.hok _ _ e)⟩
  ·rw[qac z] at q;exact st _ _ (I.hok b u q)
noncomputable def Itd(a:Addr)(o:Obj)(us:List (Key×V)):It:=
 ⟨λi H=>H a=some (.frz o (.dK us))/\i<us.length,λi H x H'=>H'=H/\∃k v,us[i]? =some (k,v)/\x=kV k,λi H=>H a=some (.frz o (.dK us))/\us.length<=i⟩
theorem qgl{P:Program}{w:World}{H:Hp}{h:Heap}{a:Addr}{o:Obj}{us:List (Key×V)}{es:Array DictEntry}{ep:Nat}(hok:HOk P w H h)(e:H a=some (.frz o (.dK us)))(hd:o.data= .dict es ep):
  ∃vs,KV us vs/\h.DictAt (qas P w) a vs ep/\(a==sysModules)=false/\us.length<=sizeLine:=by obtain⟨h1,hz,hs,vs,kv,o',fk,hG,h2,hx,eO,r⟩:=hok a _ e;rw[h1] at h2;cases h2;rw[hd] at eO;cases eO;exact⟨vs,kv,⟨o,es,h1,hx,hd,r⟩,hs,hz⟩
theorem qiT{P:Program}{w:World}{K:W.Frag}{tg:Expr}{a it:Addr}{o:Obj}{us:List (Key×V)}{es:Array DictEntry}{ep:Nat}(hd:o.data= .dict es ep):qqO P w K tg (Itd a o us) [it] it (λi h=>h.IsKeyIter it a i us.length ep) where
 mem:=by simp
 obj:=λi h st b hb=>by
  have e:b=it:=by simpa using hb
  subst e;obtain⟨o,e,c,d⟩:=st;exact⟨o,e,λv z=>by rw[d] at z;cases z⟩
 keep:=λi h h' st k=>st.at λo e=>k it (by simp) o e
 item:=by
  intro X hP hw hK hc i Z s σ H E I hf st hg;subst hP hw hK;obtain⟨ha,hi⟩:=hg;obtain⟨vs,kv,hA,_,_⟩:=qgl I.hok ha hd;have lv:=kv.length;rw[lv] at st;obtain⟨⟨k,x⟩,hx⟩: ∃p,vs[i]? =some p:=⟨vs[i]'(by omega),by simp⟩
  obtain⟨v,hu,_⟩:=kv.get hx;obtain⟨f0,f1,f2,f3,f4,f5⟩:=hf it (by simp);refine wpAny_pyNext_dict_item st hA hx λkey h' hk aR sb=> ?_;have I1:Inv X Z σ H { s with heap:=h' }:=I.turned (t':=s.toks) (λb o hb e=>(sb.2 b hb).trans e) f0 f1 f3 f4 f5;obtain⟨o',e,c,d⟩:=id aR;rw[<-lv] at aR;exact⟨key,rfl,qka (s:={ s with heap:=h' }) e c d (by decide) ⟨kV k,H,I1,is_kV hk,⟨rfl,k,v,hu,rfl⟩,aR,λb hb=>(hf b hb).1⟩⟩
 done:=by intro X hP hw hK hc i Z s σ H E I hf st hg;subst hP hw hK;obtain⟨ha,hi⟩:=hg;obtain⟨vs,kv,hA,_,_⟩:=qgl I.hok ha hd;have lv:=kv.length;rw[lv] at st;obtain⟨f0,f1,f2,f3,f4,f5⟩:=hf it (by simp);exact wpAny_pyNext_dict_end (I.ok.hd hc) st hA (by simp;omega) λh' eb=>⟨rfl,I.turned (t':=s.toks) (λb o hb e=>eb b o hb e) f0 f1 f3 f4 f5⟩
 self:=λ_ _ _ _ _ st h=>wpAny_pyIter_keyiter st h
noncomputable def qyp(tl:TE):TI:=λσ H R=>tl σ H λx H1=> ∃a o us,x= .ref a/\H1 a=some (.frz o (.dK us))/\(us.length<=sizeLine->R (Itd a o us) H1)
section
variable{X:Cx}{tg e l:Expr}{tl:TE}
theorem pi_dict(hl:PE X l tl):PI X tg l (qyp tl):=by
 intro Z s σ H R I h;refine thn (hl Z s σ H _ I h) λv s1 hq=> ?_;obtain⟨x,H1,I1,r1,a,o,us,e,ha,q⟩:=hq;subst e;cases r1;obtain⟨h1,hz,hs,vs0,kv0,o',es,ep,h2,hx,hd,_⟩:=I1.hok a _ ha;rw[h1] at h2;cases h2;obtain⟨vs,kv,hA,_,_⟩:=qgl I1.hok ha hd;refine wpAny_pyIter_dict hs hA ?_;have lv:=kv.length;refine⟨s1.heap.objs.size,[s1.heap.objs.size],_,_,H1,rfl,I1.kept (t':=s1.toks) λb o e=>Vg _ e,qiT hd,⟨_,Vh _ rfl,rfl,by rw[lv];rfl⟩,λb hb=> ?_,q hz⟩;have e:b=s1.heap.objs.size:=by simpa using hb
 subst e;exact I1.fpOk (Vl _) (I1.hok.fresh (Vl _))
end
end PL
namespace NV
open PySem L2
structure Gam where
 P:Hp->Prop
 st: ∀H H':Hp,(∀a o,H a=some o->(∀xs,o≠.lst xs)->(∀xs,o≠.dK xs)->(∀xs,o≠.dT xs)->(∀C dx fs,o≠.ins C dx fs)->H' a=some o)->P H->P H'
structure Md where
 K:W.Frag
 G:Gam
noncomputable def qeC(K:W.Frag)(B:qaF):Ct->HO->Prop
 |.ls ts,o=> ∃vs,o= .lst vs/\Reps K B ts vs
 |.dk kvs,o=> ∃us,o= .dK us/\qaY K B kvs us
 |.du kvs,o=> ∃us,o= .dT us/\qaY K B kvs us
 |.ins c fs,o=> ∃dx vs,o= .ins (clA K c) dx vs/\qaY K B fs vs
 |.gone,_=>True
theorem qeC.mono(h:qeC K B c o)(le:Le B B'):qeC K B' c o:=by
 cases c with
 |ls ts|dk ts|du ts=>obtain⟨vs,e,r⟩:=h;exact⟨vs,e,r.mono le⟩
 |ins c ts=>obtain⟨dx,vs,e,r⟩:=h;exact⟨dx,vs,e,r.mono le⟩
 |gone=>trivial
noncomputable def Mb(o:HO):Prop:=(∃xs,o= .lst xs)\/(∃xs,o= .dK xs)\/(∃xs,o= .dT xs)\/∃C dx fs,o= .ins C dx fs
theorem qeC.mb(h:qeC K B c o)(n:c≠.gone):Mb o:=by
 cases c with
 |ls ts=>obtain⟨vs,e,r⟩:=h;exact .inl ⟨_,e⟩
 |dk ts=>obtain⟨vs,e,r⟩:=h;exact .inr (.inl ⟨_,e⟩)
 |du ts=>obtain⟨vs,e,r⟩:=h;exact .inr (.inr (.inl ⟨_,e⟩))
 |ins c ts=>obtain⟨dx,vs,e,r⟩:=h;exact .inr (.inr (.inr ⟨_,_,_,e⟩))
 |gone=>exact absurd rfl n
structure Hs(M:Md)(O:Mu)(H:Hp)(B:qaF):Prop where
 bh: ∀a o,B a=some o->H a=some o
 bt: ∀a ps,B a≠some (.tbl ps)
 gm:M.G.P H
 st: ∀k c,O.l[k]? =some c->c≠.gone->∃a o,B.ad k=some a/\B a=none/\H a=some o/\qeC M.K B c o
 ij: ∀j k a,B.ad j=some a->B.ad k=some a->j=k
 dm: ∀k a,B.ad k=some a->k<O.l.length/\H a≠none
 lk: ∀k c,O.l[k]? =some c->ubC c<=k\/∃p∈O.k,p.1=k/\ubC c<=p.2
 ln: ∀p∈O.k,p.2<=O.l.length
noncomputable def qaF.upd(B:qaF)(p:Addr)(o:HO):qaF:=⟨L2.upd B.hp p o,B.ad⟩
noncomputable def qaF.add(B:qaF)(k:Nat)(p:Addr):qaF:=⟨B.hp,λj=>if j=k then some p else B.ad j⟩
section
theorem Hs.fr(h:Hs M O H B)(hp:H p=none):B p=none:=by
 cases e:B p with
 |none=>rfl
 |some u=>rw[h.bh _ _ e] at hp;cases hp
theorem Hs.upd_le(h:Hs M O H B)(hp:B p=none):Le B (B.upd p o):=⟨λa u e=>by show L2.upd _ p o a=_;rw[qac (qaj e hp)];exact e,λ_ _ e=>e⟩
theorem qnN{M:Md}(h:M.G.P H)(hp:H p=none):M.G.P (L2.upd H p o):=M.G.st H _ (λa u e _ _ _ _=>by rw[qac (qaj e hp)];exact e) h
theorem Hs.more(h:Hs M O H B)(k: ∀a o,H a=some o->H' a=some o):Hs M O H' B:=
 ⟨λa o e=>k a o (h.bh a o e),h.bt,M.G.st H H' (λa o e _ _ _ _=>k a o e) h.gm,λj c e n=>by
  obtain⟨a,o,e1,e2,e3,e4⟩:=h.st j c e n
  simp_all,h.ij,λj a e=>⟨(h.dm j a e).1,λz=>by
  cases q:H a with
  |none=>exact(h.dm j a e).2 q
  |some u=>grind⟩,h.lk,h.ln⟩
theorem Hs.new{B:qaF}(h:Hs M O H B)(hp:H p=none)(ho: ∀ps,o≠.tbl ps):Hs M O (L2.upd H p o) (B.upd p o):=by
 have bp:=h.fr hp;have le:=h.upd_le (o:=o) bp;refine⟨λa u e=> ?_,λa ps e=> ?_,qnN h.gm hp,λj c e n=> ?_,h.ij,λj a e=>⟨(h.dm j a e).1,?_⟩,h.lk,h.ln⟩
 ·have e:L2.upd _ p o a=some u:=e;by_cases q:a=p
  ·subst q;rw[qae] at e⊢;exact e
  ·rw[qac q] at e⊢;exact h.bh _ _ e
 ·have e:L2.upd _ p o a=some _:=e;by_cases q:a=p
  ·subst q;rw[qae] at e;grind
  ·rw[qac q] at e;exact h.bt a ps e
 ·obtain⟨a,u,e1,e2,e3,e4⟩:=h.st j c e n;have ne:=qaj e3 hp;exact⟨a,u,e1,by show L2.upd _ p o a=_;rw[qac ne];exact e2,by rw[qac ne];exact e3,e4.mono le⟩
 ·have:=(h.dm j a e).2;rw[qac (λz=>this (by rw[z];exact hp))];exact this
theorem qeC.ub(h:qeC K B c o)(hd: ∀k a,B.ad k=some a->k<n):ubC c<=n:=by
 cases c with
 |ls ts|dk ts|du ts=>obtain⟨vs,e,r⟩:=h;exact r.ub hd
 |ins c ts=>obtain⟨dx,vs,e,r⟩:=h;exact r.ub hd
 |gone=>exact Nat.zero_le _
theorem qeC.cut(h:qeC K B c o)(hu:ubC c<=n):qeC K (B.cut n) c o:=by
 cases c with
 |ls ts|dk ts|du ts=>obtain⟨vs,e,r⟩:=h;exact⟨vs,e,r.cut hu⟩
 |ins c ts=>obtain⟨dx,vs,e,r⟩:=h;exact⟨dx,vs,e,r.cut hu⟩
 |gone=>trivial
theorem Hs.own{M:Md}{O:Mu}{B:qaF}(h:Hs M O H B)(hp:H p=none)(hc:qeC M.K (B.add O.l.length p) c o):Hs M (O.add c) (L2.upd H p o) (B.add O.l.length p)/\Le B (B.add O.l.length p):=by
 have le:Le B (B.add O.l.length p):=⟨λ_ _ e=>e,λj a e=>by
  show(if j=O.l.length then some p else B.ad j)=_;rw[if_neg (Nat.ne_of_lt (h.dm j a e).1)];exact e⟩
 have jy: ∀j,B.ad j≠some p:=λj e=>(h.dm j p e).2 hp;have ad: ∀{j a},(B.add O.l.length p).ad j=some a->(j=O.l.length/\a=p)\/(B.ad j=some a/\j<O.l.length):=λ{j a} e=>by
  have e:(if j=O.l.length then some p else B.ad j)=some a:=e;split at e
  ·rename_i q;cases e;exact .inl ⟨q,rfl⟩
  ·exact .inr ⟨e,(h.dm j a e).1⟩
 have hd: ∀j a,(B.add O.l.length p).ad j=some a->j<O.l.length+1:=λj a e=>by rcases ad e with⟨z,_⟩|⟨_,z⟩<;>omega
 have uc:=hc.ub hd;have ga: ∀{j:Nat}{d:Ct},(O.l++[c])[j]? =some d->(j<O.l.length/\O.l[j]? =some d)\/(j=O.l.length/\d=c):=λ{j d} e=>by
  by_cases q:j<O.l.length
  ·rw[List.getElem?_append_left q] at e;exact .inl ⟨q,e⟩
  ·rw[List.getElem?_append_right (by omega)] at e;have:=(List.getElem?_eq_some_iff.mp e).1;have q':j=O.l.length:=by simp at this;omega
   subst q';simp at e;exact .inr ⟨rfl,e.symm⟩
 refine⟨⟨λa u e=> ?_,h.bt,qnN h.gm hp,λj d e n=> ?_,λi j a e1 e2=> ?_,λj a e=> ?_,λj d e=> ?_,λq hq=> ?_⟩,le⟩
 ·rw[qac (qaj (h.bh a u e) hp)];exact h.bh a u e
 ·rcases ga e with⟨q,e⟩|⟨rfl,rfl⟩
  ·obtain⟨a,u,e1,e2,e3,e4⟩:=h.st j d e n;exact⟨a,u,le.d _ _ e1,e2,by rw[qac (qaj e3 hp)];exact e3,e4.mono le⟩
  ·exact⟨p,o,by show(if O.l.length=O.l.length then some p else _)=_;rw[if_pos rfl],h.fr hp,qae,hc⟩
 ·rcases ad e1 with⟨rfl,rfl⟩|⟨e1,l1⟩
  ·rcases ad e2 with⟨rfl,_⟩|⟨e2,l2⟩
   ·rfl
   ·exact absurd e2 (jy j)
  ·rcases ad e2 with⟨_,z⟩|⟨e2,l2⟩
   ·rw[z] at e1;exact absurd e1 (jy i)
   ·exact h.ij i j a e1 e2
 ·show j<(O.l++[c]).length/\_;rw[List.length_append,List.length_singleton]
  rcases ad e with⟨z1,z⟩|⟨e,l⟩
  ·rw[z];exact⟨by omega,by rw[qae];simp⟩
  ·have:=(h.dm j a e).2;exact⟨by omega,by rw[qac (λz=>this (by rw[z];exact hp))];exact this⟩
 ·show ubC d<=j\/∃q∈(if ubC c<=O.l.length then O.k else(O.l.length,ubC c)::O.k),_
  rcases ga e with⟨q,e⟩|⟨rfl,rfl⟩
  ·rcases h.lk j d e with z|⟨q,hq,z⟩
   ·exact .inl z
   ·exact .inr ⟨q,by split<;>simp[hq],z⟩
  ·split
   ·rename_i z;exact .inl z
   ·exact .inr ⟨_,Vj,rfl,Vl _⟩
 ·have hq:q∈(if ubC c<=O.l.length then O.k else(O.l.length,ubC c)::O.k):=hq;show q.2<=(O.l++[c]).length;rw[List.length_append,List.length_singleton];split at hq
  ·exact Nat.le_succ_of_le (h.ln q hq)
  ·rcases List.mem_cons.mp hq with rfl|hq
   ·exact uc
   ·exact Nat.le_succ_of_le (h.ln q hq)
theorem Hs.at(h:Hs M O H B)(e:O.l[k]? =some c)(n:c≠.gone)(ha:B.ad k=some a): ∃o,B a=none/\H a=some o/\qeC M.K B c o:=by
 obtain⟨a',o,e1,e2,e3,e4⟩:=h.st k c e n
 simp_all
theorem Hs.put(h:Hs M O H B)(e:O.l[k]? =some c)(n:c≠.gone)(ha:B.ad k=some a)(hc:qeC M.K B c' o):Hs M (O.put k c') (L2.upd H a o) B:=by
 obtain⟨u,b0,hu,cu⟩:=h.at e n ha;have mb:=cu.mb n;have hk:k<O.l.length:=(List.getElem?_eq_some_iff.mp e).1;have uc:=hc.ub λj a e=>(h.dm j a e).1;have ga: ∀{j:Nat}{d:Ct},(O.l.set k c')[j]? =some d->(k≠j/\O.l[j]? =some d)\/(k=j/\d=c'):=λ{j d} e=>by
  rw[List.getElem?_set] at e;split at e
  ·rename_i q
   (try rw[if_pos hk] at e);cases e;exact .inr ⟨q,rfl⟩
  ·rename_i q;exact .inl ⟨q,e⟩
 refine⟨λb v z=> ?_,h.bt,M.G.st H _ (λb v z n1 n2 n3 n4=> ?_) h.gm,λj d ej nj=> ?_,h.ij,λj b z=> ?_,λj d ej=> ?_,λq hq=> ?_⟩
 ·rw[qac (λq=>by rw[q,b0] at z;cases z)];exact h.bh b v z
 ·refine(qac λq=> ?_).trans z;rw[q,hu] at z;cases z
  rcases mb with⟨_,rfl⟩|⟨_,rfl⟩|⟨_,rfl⟩|⟨_,_,_,rfl⟩
  ·exact n1 _ rfl
  ·exact n2 _ rfl
  ·exact n3 _ rfl
  ·exact n4 _ _ _ rfl
 ·rcases ga ej with⟨q,ej⟩|⟨rfl,rfl⟩
  ·obtain⟨b,v,e1,e2,e3,e4⟩:=h.st j d ej nj;exact⟨b,v,e1,e2,by rw[qac (λz=>q (h.ij k j a ha (by rw[<-z];exact e1)))];exact e3,e4⟩
  ·exact⟨a,o,ha,b0,qae,hc⟩
 ·show j<(O.l.set k c').length/\_;rw[List.length_set];refine⟨(h.dm j b z).1,?_⟩;by_cases q:b=a
  ·rw[q,qae];simp
  ·rw[qac q];exact(h.dm j b z).2
 ·show ubC d<=j\/∃q∈(if ubC c'<=k then O.k else(k,ubC c')::O.k),_
  rcases ga ej with⟨_,ej⟩|⟨rfl,rfl⟩
  ·rcases h.lk j d ej with z|⟨q,hq,z⟩
   ·exact .inl z
   ·exact .inr ⟨q,by split<;>simp[hq],z⟩
  ·split
   ·rename_i z;exact .inl z
   ·exact .inr ⟨_,Vj,rfl,Vl _⟩
 ·have hq:q∈(if ubC c'<=k then O.k else(k,ubC c')::O.k):=hq;show q.2<=(O.l.set k c').length;rw[List.length_set];split at hq
  ·exact h.ln q hq
  ·rcases List.mem_cons.mp hq with rfl|hq
   ·exact uc
   ·exact h.ln q hq
theorem Hs.cut(h:Hs M O H B)(ks:List (Nat×Nat))(hn: ∀q∈O.k,n<=q.1\/(q∈ks/\q.2<=n))(hk: ∀q∈ks,q.2<=n)(hl:n<=O.l.length):Hs M ⟨O.l.take n,ks⟩ H (B.cut n):=by
 have ad: ∀{j a},(B.cut n).ad j=some a->j<n/\B.ad j=some a:=λ{j a} e=>by
  have e:(if j<n then B.ad j else none)=some a:=e;split at e
  ·rename_i q;exact⟨q,e⟩
  ·cases e
 have ga: ∀{j:Nat}{d:Ct},(O.l.take n)[j]? =some d->j<n/\O.l[j]? =some d:=λ{j d} e=>by
  rw[List.getElem?_take] at e;split at e
  ·rename_i q;exact⟨q,e⟩
  ·cases e
 have uu: ∀{j:Nat}{d:Ct},j<n->O.l[j]? =some d->ubC d<=n:=λ{j d} hj e=>by
  rcases h.lk j d e with z|⟨q,hq,z1,z2⟩
  ·omega
  grind
 refine⟨h.bh,h.bt,h.gm,λj d e nj=> ?_,λi j a e1 e2=>h.ij i j a (ad e1).2 (ad e2).2,λj a e=> ?_,λj d e=> ?_,λq hq=> ?_⟩
 ·obtain⟨hj,e⟩:=ga e;obtain⟨a,u,e1,e2,e3,e4⟩:=h.st j d e nj;exact⟨a,u,by show(if j<n then B.ad j else none)=_;rw[if_pos hj];exact e1,e2,e3,e4.cut (uu hj e)⟩
 ·obtain⟨hj,e⟩:=ad e;exact⟨by show j<(O.l.take n).length;rw[List.length_take];omega,(h.dm j a e).2⟩
 ·obtain⟨hj,e⟩:=ga e
  rcases h.lk j d e with z|⟨q,hq,z1,z2⟩
  ·exact .inl z
  ·rcases hn q hq with y|⟨y,_⟩
   ·omega
   ·exact .inr ⟨q,y,z1,z2⟩
 grind
end
structure Go(H:Hp)(B:qaF)(H':Hp)(B':qaF):Prop where
 le:Le B B'
 un: ∀a o,H a=some o->(∀k,B.ad k≠some a)->(∀ps,o≠.tbl ps)->H' a=some o
 nw: ∀k a,B'.ad k=some a->B.ad k=some a\/H a=none
 dm: ∀a,H a≠none->H' a≠none
 nb: ∀a o,H a=some o->(∀k,B.ad k≠some a)->(∀vs,o≠.tup vs)->(∀ps,o≠.tbl ps)->B' a=B a
theorem Go.refl:Go H B H B:=⟨.refl _,λ_ _ e _ _=>e,λ_ _ e=>.inl e,λ_ e=>e,λ_ _ _ _ _ _=>rfl⟩
theorem Go.off(g:Go H B H1 B1)(e:H a≠none)(n: ∀k,B.ad k≠some a): ∀k,B1.ad k≠some a:=λk z=>by
 rcases g.nw k a z with q|q
 ·exact n k q
 ·exact e q
theorem Go.trans(g:Go H B H1 B1)(g':Go H1 B1 H2 B2):Go H B H2 B2:=
 ⟨g.le.trans g'.le,λa o e n t=>g'.un a o (g.un a o e n t) (g.off (by rw[e];simp) n) t,λk a z=>by
  rcases g'.nw k a z with q|q
  ·exact g.nw k a q
  ·exact .inr (by
   cases y:H a with
   |none=>rfl
   |some o=>exact absurd q (g.dm a (by rw[y];simp))),λa e=>g'.dm a (g.dm a e),
  λa o e n t1 t2=>(g'.nb a o (g.un a o e n t2) (g.off (by rw[e];simp) n) t1 t2).trans (g.nb a o e n t1 t2)⟩
section
theorem Go.more(k: ∀a o,H a=some o->H' a=some o):Go H B H' B:=by
 refine⟨.refl _,λa o e _ _=>k a o e,λ_ _ e=>.inl e,λa e z=> ?_,λ_ _ _ _ _ _=>rfl⟩;cases y:H a with
 |none=>exact e y
 |some o=>grind
theorem Hs.gnew(h:Hs M O H B)(hp:H p=none):Go H B (L2.upd H p o) (B.upd p o):=
 ⟨h.upd_le (h.fr hp),λa u e _ _=>by rw[qac (qaj e hp)];exact e,λ_ _ e=>.inl e,λa e z=>by
  by_cases q:a=p
  ·subst q;exact e hp
  ·rw[qac q] at z;exact e z,λa u e _ _ _=>by show L2.upd _ p o a=_;rw[qac (qaj e hp)]⟩
theorem Hs.gown(h:Hs M O H B)(hp:H p=none):Go H B (L2.upd H p o) (B.add O.l.length p):=
 ⟨(h.own (c:=.gone) (o:=o) hp trivial).2,λa u e _ _=>by rw[qac (qaj e hp)];exact e,λj a e=>by
  have e:(if j=O.l.length then some p else B.ad j)=some a:=e
  grind,λa e z=>by
  by_cases q:a=p
  ·subst q;exact e hp
  ·rw[qac q] at z;exact e z,λ_ _ _ _ _ _=>rfl⟩
theorem qsX(ha:B.ad k=some a):Go H B (L2.upd H a o) B:=
 ⟨.refl _,λb u e n _=>by rw[qac (λz=>n k (by rw[z];exact ha))];exact e,λ_ _ e=>.inl e,λb e z=>by
  by_cases q:b=a
  ·rw[q,qae] at z;cases z
  ·rw[qac q] at z;exact e z,λ_ _ _ _ _ _=>rfl⟩
noncomputable def hid(D:Addr)(H:Hp):Hp:=λa=>if a=D then none else H a
theorem qct(h:a≠D):hid D H a=H a:=if_neg h
theorem qfh:hid D H D=none:=if_pos rfl
theorem qj5(h:hid D H a=some o):H a=some o/\a≠D:=by
 unfold hid at h
 grind
theorem Go.hid(g:Go H B H' B'):Go (hid D H) B (NV.hid D H') B':=
 ⟨g.le,λa o e n t=>by obtain⟨e,q⟩:=qj5 e;rw[qct q];exact g.un a o e n t,λk a z=>(g.nw k a z).imp id λz=>by unfold NV.hid;grind,
  λa e=>by
   by_cases q:a=D
   ·rw[q,qfh] at e;exact absurd rfl e
   ·rw[qct q] at e⊢;exact g.dm a e,λa o e n t1 t2=>g.nb a o (qj5 e).1 n t1 t2⟩
theorem Hs.loose(h:Hs M O H B)(hb:B D=none)(hn: ∀k,B.ad k≠some D)(ho: ∀a,a≠D->H' a=H a)(hm: ∀u,H D=some u->Mb u):Hs M O H' B:=
 ⟨λa o e=>by rw[ho a (λz=>by grind)];exact h.bh a o e,h.bt,M.G.st H H' (λa o e n1 n2 n3 n4=>by
  rw[ho a (λz=>by
   rw[z] at e
   rcases hm o e with⟨_,rfl⟩|⟨_,rfl⟩|⟨_,rfl⟩|⟨_,_,_,rfl⟩
   ·exact n1 _ rfl
   ·exact n2 _ rfl
   ·exact n3 _ rfl
   ·exact n4 _ _ _ rfl)];exact e) h.gm,λj c e n=>by
  obtain⟨a,o,e1,e2,e3,e4⟩:=h.st j c e n;exact⟨a,o,e1,e2,by grind,e4⟩,h.ij,λj a e=>⟨(h.dm j a e).1,by rw[ho a (λz=>hn j (by rw[<-z];exact e))];exact(h.dm j a e).2⟩,h.lk,h.ln⟩
end
abbrev Ro:=List (Option T)
structure Ev(M:Md)(ρ:Ro)(O:Mu)(σ:St)(H:Hp)(B:qaF):Prop where
 hs:Hs M O H B
 len:ρ.length=σ.length
 sl: ∀(i:Nat)(t:T),ρ[i]? =some (some t)->∃v,σ[i]? =some (some v)/\Rep M.K B t v
section
theorem Ev.on(v:Ev M ρ O σ H B)(h:Hs M μ' H' B')(le:Le B B'):Ev M ρ μ' σ H' B':=
 ⟨h,v.len,λi t e=>by obtain⟨x,a,b⟩:=v.sl i t e;exact⟨x,a,b.mono le⟩⟩
theorem Ev.set(v:Ev M ρ O σ H B)(r:Rep M.K B t x):Ev M (ρ.set i (some t)) O (σ.set i (some x)) H B:=by
 refine⟨v.hs,by simp[v.len],λj u e=> ?_⟩;rw[List.getElem?_set] at e⊢;split at e
 ·rename_i q;split at e
  ·rename_i l;cases e;rw[if_pos q,if_pos (v.len▸l)];exact⟨x,rfl,r⟩
  ·cases e
 ·rename_i q;rw[if_neg q];exact v.sl j u e
end
noncomputable def Wn(M:Md)(E:XK)(H:Hp)(B:qaF){α:Type}(k:α->Mu->Prop):R α->Prop
 |.no=>False
 |.ok a O=>k a O
 |.ex c O=> ∀H' B',Hs M O H' B'->Go H B H' B'->E (.ref (clA M.K c)) none H'
section
theorem Wn.bind(h:Wn M E H B k (r.bind f)):Wn M E H B (λa O=>Wn M E H B k (f a O)) r:=by cases r<;>exact h
theorem Wn.mono(h:Wn M E H B k r)(f: ∀a O,k a O->k' a O):Wn M E H B k' r:=by
 cases r with
 |no=>exact h
 |ok a m=>exact f _ _ h
 |ex c m=>exact h
theorem Wn.le(h:Wn M E H B k r)(g:Go H B H1 B1):Wn M E H1 B1 k r:=by
 cases r with
 |no|ok a m=>exact h
 |ex c m=>exactλH' B' hs l=>h H' B' hs (g.trans l)
theorem Wn.pl(h:Wn M E H B k r)(p: ∀c m,r≠.ex c m): ∃a m,r= .ok a m/\k a m:=by
 cases r with
 |no=>exact h.elim
 |ok a m=>exact⟨a,m,rfl,h⟩
 |ex c m=>simp_all
theorem Wn.imp(h:Wn M E H B k r)(f: ∀v o H',E v o H'->E' v o H'):Wn M E' H B k r:=by
 cases r with
 |no|ok a m=>exact h
 |ex c m=>exactλH' B' hs l=>f _ _ _ (h H' B' hs l)
theorem Wn.lift(h:Wn M E H B k r)(g:Go H B H1 B1)(f: ∀a O,k a O->k' a O):Wn M E H1 B1 k' r:=(h.le g).mono f
end
noncomputable def KE(M:Md)(H:Hp)(B:qaF)(Q:VK):T->Mu->Prop:=λt O=> ∀v H' B',Hs M O H' B'->Go H B H' B'->Rep M.K B' t v->Q v H'
noncomputable def KA(M:Md)(H:Hp)(B:qaF)(Q:List V->Hp->Prop):List T->Mu->Prop:=λt O=> ∀v H' B',Hs M O H' B'->Go H B H' B'->Reps M.K B' t v->Q v H'
noncomputable def KT(M:Md)(H:Hp)(B:qaF)(Q:Bool->Hp->Prop):Bool->Mu->Prop:=λt O=> ∀H' B',Hs M O H' B'->Go H B H' B'->Q t H'
noncomputable def KN(M:Md)(H:Hp)(B:qaF)(Q:VK):Ct->Mu->Prop:=λc O=> ∀p o H' B',Hs M O H' B'->Go H B H' B'->H' p=none->qeC M.K B' c o->Q (.ref p) (upd H' p o)
abbrev DS0(α:Type):=Ro->Mu->R α
noncomputable def tE(M:Md)(E:XK)(d:DS0 T):TE:=λσ H Q=> ∃ρ O B,Ev M ρ O σ H B/\Wn M E H B (KE M H B Q) (d ρ O)
noncomputable def tA(M:Md)(E:XK)(d:DS0 (List T)):TA:=λσ H Q=> ∃ρ O B,Ev M ρ O σ H B/\Wn M E H B (KA M H B Q) (d ρ O)
noncomputable def tT(M:Md)(E:XK)(d:DS0 Bool):TT:=λσ H Q=> ∃ρ O B,Ev M ρ O σ H B/\Wn M E H B (KT M H B Q) (d ρ O)
noncomputable def tN(M:Md)(E:XK)(d:DS0 Ct):TE:=λσ H Q=> ∃ρ O B,Ev M ρ O σ H B/\Wn M E H B (KN M H B Q) (d ρ O)
theorem PE.weak(h:PE X e t)(w: ∀σ H Q,t' σ H Q->t σ H Q):PE X e t':=λZ s σ H Q I q=>h _ s σ H Q I (w σ H Q q)
theorem PT.weak(h:PT X e t)(w: ∀σ H Q,t' σ H Q->t σ H Q):PT X e t':=λZ s σ H Q I q=>h _ s σ H Q I (w σ H Q q)
theorem PW.weak(h:PW X e t)(w: ∀σ H Q,t' σ H Q->t σ H Q):PW X e t':=λwh Z s σ H Q I q=>h wh _ s σ H Q I (w σ H Q q)
theorem PA.weak(h:PA X e t)(w: ∀σ H Q,t' σ H Q->t σ H Q):PA X e t':=λpos Z s σ H Q I q=>h pos _ s σ H Q I (w σ H Q q)
theorem PS.weak(h:PS X e t)(w: ∀D σ H,t' D σ H->t D σ H):PS X e t':=λZ s σ H D I q=>h _ s σ H D I (w D σ H q)
theorem PSs.weak(h:PSs X e t)(w: ∀D σ H,t' D σ H->t D σ H):PSs X e t':=λZ s σ H D I q=>h _ s σ H D I (w D σ H q)
theorem PG.weak(h:PG X e t)(w: ∀v σ H Q,t' v σ H Q->t v σ H Q):PG X e t':=λZ s σ H v u Q I r q=>h _ s σ H v u Q I r (w v σ H Q q)
theorem PGs.weak(h:PGs X e t)(w: ∀v σ H Q,t' v σ H Q->t v σ H Q):PGs X e t':=λZ s σ H v u Q I r q=>h _ s σ H v u Q I r (w v σ H Q q)
theorem PI.weak(h:PI X tg e t)(w: ∀σ H Q,t' σ H Q->t σ H Q):PI X tg e t':=λZ s σ H Q I q=>h _ s σ H Q I (w σ H Q q)
theorem PO.weak(h:PO X e t)(w: ∀σ H Q,t' σ H Q->t σ H Q):PO X e t':=λZ s σ H Q I q=>h _ s σ H Q I (w σ H Q q)
section
theorem tE.of(ev:Ev M ρ O σ H B)(h:Wn M E H B (KE M H B Q) (d ρ O)):tE M E d σ H Q:=⟨ρ,O,B,ev,h⟩
theorem KE.le(h:KE M H B Q t O)(g:Go H B H1 B1):KE M H1 B1 Q t O:=λv H' B' hs l r=>h v H' B' hs (g.trans l) r
theorem KT.le(h:KT M H B Q t O)(g:Go H B H1 B1):KT M H1 B1 Q t O:=λH' B' hs l=>h H' B' hs (g.trans l)
end
theorem qre(h:H a=some o):upd H a o=H:=by
 funext b
 by_cases q:b=a
 ·subst q;rw[qae,h]
 ·rw[qac q]
noncomputable def FQ(Q:VK):VK:=λv H=>Q v H\/∃p us,v= .ref p/\H p=some (.dK us)/\∀o,Q v (upd H p (.frz o (.dK us)))
noncomputable def Cl(Q:VK):Prop:= ∀H p us,H p=some (.dK us)->(∀o,Q (.ref p) (upd H p (.frz o (.dK us))))->Q (.ref p) H
theorem qwE:Cl (FQ Q):=λH p us e h=>.inr ⟨p,us,rfl,e,λo=>by
 rcases h o with q|⟨p',us',e1,e2,_⟩
 ·exact q
 ·cases e1;rw[qae] at e2;cases e2⟩
theorem qqy{R:Bool->Hp->Prop}:Cl (λz H=> ∃k,z= .bl k/\R k H):=λH p us e h=>by
 simp_all
theorem PE.cl(h: ∀(Z:List (Addr×Obj))(s:Shared)(σ:St)(H:Hp)(Q:VK),Cl Q->Inv X Z σ H s->tE M E d σ H Q->wpAny (model X.prog X.w) X.A (eval e X.env) (EP X Z σ Q) X.xe s):PE X e (tE M E d):=by
 rintro Z s σ H Q I ⟨ρ,O,B,ev,q⟩;refine thn (h _ s σ H _ qwE I ⟨ρ,O,B,ev,q.mono λt O k v H' B' a b c=>.inl (k v H' B' a b c)⟩) λu s1 h1=> ?_;obtain⟨x,H1,I1,r1,q|⟨p,us,rfl,e,q⟩⟩:=h1
 ·exact⟨x,H1,I1,r1,q⟩
 ·obtain⟨o,I2⟩:=PL.Inv.freeze I1 e;exact⟨_,_,I2,r1,q o⟩
theorem PE.weakF(h:PE X e t)(w: ∀σ H Q,Cl Q->tE M E d σ H Q->t σ H Q):PE X e (tE M E d):=PE.cl λZ s σ H Q c I q=>h _ s σ H Q I (w σ H Q c q)
noncomputable def dNo{α:Type}:DS0 α:=λ_ _=>.no
noncomputable def dV(i:Nat):DS0 T:=λρ O=>match ρ[i]? with|some (some t)=>.ok t O|_=>.no
noncomputable def dC(t:T):DS0 T:=λ_ O=>.ok t O
noncomputable def dSq{α β:Type}(d:DS0 α)(f:α->DS0 β):DS0 β:=λρ O=>(d ρ O).bind λa μ'=>f a ρ μ'
noncomputable def qq3:DS0 (List T):=λ_ O=>.ok [] O
noncomputable def qtT(da:DS0 T)(ds:DS0 (List T)):DS0 (List T):=dSq da λx=>dSq ds λxs _ O=>.ok (x::xs) O
noncomputable def dB(g:T->T->Mu->R T)(da db:DS0 T):DS0 T:=dSq da λx=>dSq db λy _ O=>g x y O
noncomputable def dU(g:T->Mu->R T)(da:DS0 T):DS0 T:=dSq da λx _ O=>g x O
noncomputable def qxu(ds:DS0 (List T)):DS0 T:=dSq ds λxs _ O=>if xs.length<=1000 then .ok (.tup xs) O else .no
noncomputable def qxx(ds:DS0 (List T)):DS0 Ct:=dSq ds λxs _ O=>if xs.length<=1000 then .ok (.ls xs) O else .no
noncomputable def fzC:Ct->Mu->R T
 |.ls ts,O=>.ok (.lst ts) O
 |.dk kvs,O=>.ok (.dct kvs) O
 |_,_=>.no
noncomputable def dFz(d:DS0 Ct):DS0 T:=dSq d λc _ O=>fzC c O
noncomputable def dOw(d:DS0 Ct):DS0 T:=dSq d λc _ O=>.ok (.obj O.l.length) (O.add c)
noncomputable def tbO:T->Mu->R Bool
 |.bl b,O=>.ok b O
 |_,_=>.no
noncomputable def dTB(da:DS0 T):DS0 Bool:=dSq da λt _ O=>tbO t O
noncomputable def qiB{α:Type}(dt:DS0 Bool)(d e:DS0 α):DS0 α:=dSq dt λc=>if c=true then d else e
noncomputable def qxw(d:DS0 Bool):DS0 Bool:=dSq d λc _ O=>.ok (!c) O
noncomputable def qxt:DS0 Bool:=λ_ O=>.ok true O
noncomputable def dBl(b:Bool):DS0 Bool:=λ_ O=>.ok b O
noncomputable def qxB(d e:DS0 Bool):DS0 Bool:=qiB d e (dBl false)
noncomputable def dOr(d e:DS0 Bool):DS0 Bool:=qiB d (dBl true) e
noncomputable def qmV(d e:DS0 T):DS0 T:=qiB (dTB d) e (dC (.bl false))
noncomputable def quz(d e:DS0 T):DS0 T:=qiB (dTB d) (dC (.bl true)) e
noncomputable def qmT(d:DS0 T):DS0 T:=dSq (dTB d) λc _ O=>.ok (.bl (!c)) O
noncomputable def OkB(M:Md)(r:R2)(g:T->T->Mu->R T):Prop:=(∀a b O c m,g a b O≠.ex c m)/\
 ∀(O:Mu)(H:Hp)(B:qaF)(x y:V)(a b t:T)(μ':Mu)(Q:VK),Cl Q->Hs M O H B->Rep M.K B a x->Rep M.K B b y->g a b O= .ok t μ'->KE M H B Q t μ'->r x y H Q
noncomputable def OkU(M:Md)(r:V->Hp->VK->Prop)(g:T->Mu->R T):Prop:=(∀a O c m,g a O≠.ex c m)/\
 ∀(O:Mu)(H:Hp)(B:qaF)(x:V)(a t:T)(μ':Mu)(Q:VK),Hs M O H B->Rep M.K B a x->g a O= .ok t μ'->KE M H B Q t μ'->r x H Q
section
theorem Ev.get(ev:Ev M ρ O σ H B)(w:Wn M E H B k (dV i ρ O)): ∃t v,σ[i]? =some (some v)/\Rep M.K B t v/\ρ[i]? =some (some t)/\k t O:=by
 unfold dV at w;split at w
 ·rename_i t e1;obtain⟨x,e2,r⟩:=ev.sl i t e1;exact⟨t,x,e2,r,e1,w⟩
 ·exact w.elim
theorem qak:PE X e (tE M E dNo):=(by rintro _ _ _ _ _ _ ⟨_,_,_,_,w⟩;exact w.elim)
theorem qtF(h:PE X e (qqT i)):PE X e (tE M E (dV i)):=PE.weak h (by
 rintro σ H Q ⟨ρ,O,B,ev,w⟩;obtain⟨t,x,e2,r,_,w⟩:=ev.get w;exact⟨x,e2,w x H B ev.hs .refl r⟩)
theorem qtK(h:PE X e (tC v))(r: ∀B,Rep M.K B t v):PE X e (tE M E (dC t)):=
 PE.weak h (by rintro σ H Q ⟨ρ,O,B,ev,w⟩;exact w v H B ev.hs .refl (r B))
theorem qd9(ho:OkB M r g)(cq:Cl Q)(h:tE M E (dB g da db) σ H Q):tOp r (tE M E da) (tE M E db) σ H Q:=by obtain⟨ρ,O,B,ev,w⟩:=h;refine tE.of ev ((Wn.bind w).mono λx af w1 v H1 B1 h1 l1 r1=> ?_);refine tE.of (ev.on h1 l1.le) ((Wn.bind w1).lift l1 λy ah w2 u H2 B2 h2 l2 r2=> ?_);obtain⟨t,m,q,w2⟩:=Wn.pl w2 (ho.1 x y ah);exact ho.2 ah H2 B2 v u x y t m Q cq h2 (r1.mono l2.le) r2 q (KE.le w2 (l1.trans l2))
theorem qoi(ho:OkU M r g)(h:tE M E (dU g da) σ H Q):tE M E da σ H λx H1=>r x H1 Q:=by obtain⟨ρ,O,B,ev,w⟩:=h;refine tE.of ev ((Wn.bind w).mono λx af w1 v H1 B1 h1 l1 r1=> ?_);obtain⟨t,m,q,w1⟩:=Wn.pl w1 (ho.1 x af);exact ho.2 af H1 B1 v x t m Q h1 r1 q (KE.le w1 l1)
theorem qtO:PA X [] (tA M E qq3):=PA.weak qbp (by rintro σ H Q ⟨ρ,O,B,ev,w⟩;exact w [] H B ev.hs .refl .nil)
theorem qqp(ha:PE X e (tE M E da))(hs:PA X es (tA M E ds))(aG:starEach (e::es) X.env=(false,eval e X.env)::starEach es X.env):PA X (e::es) (tA M E (qtT da ds)):=
 PA.weak (qaW ha hs aG) (by
  rintro σ H Q ⟨ρ,O,B,ev,w⟩;refine tE.of ev ((Wn.bind w).mono λx af w1 v H1 B1 h1 l1 r1=> ?_);exact⟨ρ,af,B1,ev.on h1 l1.le,(Wn.bind w1).lift l1 λxs ah w2 vs H2 B2 h2 l2 r2=>w2 _ H2 B2 h2 (l1.trans l2) (.cons (r1.mono l2.le) r2)⟩)
theorem qtG{x1}(hs:PA X es (tA M E ds)):PE X (.Tuple es x1 pos) (tE M E (qxu ds)):=PE.weak (qr2 hs) (by
 rintro σ H Q ⟨ρ,O,B,ev,w⟩;refine⟨ρ,O,B,ev,(Wn.bind w).mono λxs af w1 vs H1 B1 h1 l1 r1=> ?_⟩;have w1:Wn M E H B _ (if xs.length<=1000 then _ else _):=w1;split at w1
 ·have l0:1000<=sizeLine:=by decide
  refine⟨by rw[r1.length];omega,λp hp=> ?_⟩;have h2:=h1.new (o:=.tup vs) hp (λps z=>by cases z);exact w1 _ _ _ h2 (l1.trans (h1.gnew hp)) (qcr qae (r1.mono (h1.upd_le (h1.fr hp))))
 ·exact w1.elim)
theorem qnX(hs:PA X es (tA M E ds)):PE X (.List es pos) (tN M E (qxx ds)):=PE.weak (qeX hs) (by
 rintro σ H Q ⟨ρ,O,B,ev,w⟩;refine⟨ρ,O,B,ev,(Wn.bind w).mono λxs af w1 vs H1 B1 h1 l1 r1=> ?_⟩;have w1:Wn M E H B _ (if xs.length<=1000 then _ else _):=w1;split at w1
 ·have l0:1000<=sizeLine:=by decide
  exact⟨by rw[r1.length];omega,λp hp=>w1 _ _ _ _ h1 l1 hp ⟨_,rfl,r1⟩⟩
 ·exact w1.elim)
theorem qpS(cq:Cl Q)(h:tE M E (dFz dn) σ H Q):tN M E dn σ H Q:=by
 obtain⟨ρ,O,B,ev,w⟩:=h;refine⟨ρ,O,B,ev,(Wn.bind w).mono λc af w1 p o H1 B1 h1 l1 hp r1=> ?_⟩;have b1:=h1.fr hp;cases c with
 |ls ts=>obtain⟨vs,rfl,r⟩:=r1;have le:=h1.upd_le (o:=.lst vs) b1;exact w1 _ _ _ (h1.new hp (λps z=>by cases z)) (l1.trans (h1.gnew hp)) (qbP qae (r.mono le))
 |dk ts=>obtain⟨vs,rfl,r⟩:=r1;refine cq _ p vs qae λo=> ?_;rw[qfP];have le:=h1.upd_le (o:=.frz o (.dK vs)) b1;exact w1 _ _ _ (h1.new hp (λps z=>by cases z)) (l1.trans (h1.gnew hp)) (qjv qae (r.mono le))
 |_=>exact w1.elim
theorem qua{α β:Type}{r:R α}{f:α->Mu->R β}{b:β}{m:Mu}(h:r.bind f= .ok b m): ∃a m1,r= .ok a m1/\f a m1= .ok b m:=by
 cases r with
 |ok a m1=>exact⟨a,m1,rfl,h⟩
 |_=>cases h
theorem qmx(hd: ∀ρ O c m,dn ρ O= .ok c m->∃ts,c= .ls ts)(h:tE M E (dFz dn) σ H Q):tN M E dn σ H Q:=by
 obtain⟨ρ,O,B,ev,w⟩:=h;refine⟨ρ,O,B,ev,?_⟩;have w:=Wn.bind w;cases q:dn ρ O with
 |no|ex c m=>rw[q] at w;exact w
 |ok c m=>rw[q] at w;obtain⟨ts,rfl⟩:=hd _ _ _ _ q;intro p o H1 B1 h1 l1 hp ⟨vs,eo,r⟩;subst eo;exact w _ _ _ (h1.new hp (λps z=>by cases z)) (l1.trans (h1.gnew hp)) (qbP qae (r.mono (h1.upd_le (h1.fr hp))))
theorem qjm(h:tE M E (dOw dn) σ H Q):tN M E dn σ H Q:=by obtain⟨ρ,O,B,ev,w⟩:=h;refine⟨ρ,O,B,ev,(Wn.bind w).mono λc af w1 p o H1 B1 h1 l1 hp r1=> ?_⟩;have le:=(h1.own (c:=.gone) (o:=o) hp trivial).2;obtain⟨h2,_⟩:=h1.own hp (r1.mono le);exact w1 _ _ _ h2 (l1.trans (h1.gown hp)) (qdy (by show(if af.l.length=af.l.length then some p else _)=_;rw[if_pos rfl]))
theorem qqn(h:PE X e (tN M E dn)):PE X e (tE M E (dFz dn)):=PE.weakF h λ_ _ _ c h=>qpS c h
theorem qqj(h:PE X e (tN M E dn)):PE X e (tE M E (dOw dn)):=PE.weak h λ_ _ _ h=>qjm h
theorem qcK(h:tT M E (dTB da) σ H Q):tE M E da σ H λx H1=> ∃c,x= .bl c/\Q c H1:=by
 obtain⟨ρ,O,B,ev,w⟩:=h;refine tE.of ev ((Wn.bind w).mono λt af w1 v H1 B1 h1 l1 r1=> ?_);cases t with
 |bl b=>exact⟨b,qbu r1,w1 H1 B1 h1 l1⟩
 |_=>exact w1.elim
theorem qnV(h:PE X e (tE M E da))(he: ∀whole,isTrue e X.env whole=(do let v <-whole;standAt e.pos;holding [v] (truthy v))):PT X e (tT M E (dTB da)):=PT.weak (qnB h he) λσ H Q h=>qcK h
theorem qtq(h:PT X a (tT M E dt)):PT X (.UnaryOp .Not a pos) (tT M E (qxw dt)):=PT.weak (qnC h) (by rintro σ H Q ⟨ρ,O,B,ev,w⟩;exact⟨ρ,O,B,ev,(Wn.bind w).mono λc af w1=>w1⟩)
theorem qel(h:tT M E (qiB dt d1 d2) σ H Q):tT M E dt σ H λc H1=>if c=true then tT M E d1 σ H1 Q else tT M E d2 σ H1 Q:=by
 obtain⟨ρ,O,B,ev,w⟩:=h;refine⟨ρ,O,B,ev,(Wn.bind w).mono λc af w1 H1 B1 h1 l1=> ?_⟩;cases c with
 |true|false=>exact⟨ρ,af,B1,ev.on h1 l1.le,w1.lift l1 λ_ _ q=>KT.le q l1⟩
theorem qms(h:tE M E (qiB dt d1 d2) σ H Q):tT M E dt σ H λc H1=>if c=true then tE M E d1 σ H1 Q else tE M E d2 σ H1 Q:=by
 obtain⟨ρ,O,B,ev,w⟩:=h;refine⟨ρ,O,B,ev,(Wn.bind w).mono λc af w1 H1 B1 h1 l1=> ?_⟩;cases c with
 |true|false=>exact⟨ρ,af,B1,ev.on h1 l1.le,w1.lift l1 λ_ _ q=>KE.le q l1⟩
theorem qk3(h:tT M E (dBl b) σ H Q):Q b H:=by obtain⟨ρ,O,B,ev,w⟩:=h;exact w H B ev.hs .refl
theorem qgC(h:tE M E (dC (.bl b)) σ H Q):Q (.bl b) H:=by obtain⟨ρ,O,B,ev,w⟩:=h;exact w _ H B ev.hs .refl qa9
theorem qp2(h:PT X a (tT M E dt)):PW X (.BoolOp .And [a] pos) (tT M E dt):=qoM h
theorem qtn(h:PT X a (tT M E dt)):PW X (.BoolOp .Or [a] pos) (tT M E dt):=qnz h
theorem qto{qbT}(h:PT X a (tT M E dt))(h':PW X (.BoolOp .And (b::qbT) pos) (tT M E du)):PW X (.BoolOp .And (a::b::qbT) pos) (tT M E (qxB dt du)):=PW.weak (qrO h h') λσ H Q q=>by
 have q:=qel q;obtain⟨ρ,O,B,ev,w⟩:=q;refine⟨ρ,O,B,ev,w.mono λc af w1 H1 B1 h1 l1=> ?_⟩;have z:=w1 H1 B1 h1 l1;cases c with
 |true=>exact z
 |false=>exact qk3 z
theorem qwo{qbT}(h:PT X a (tT M E dt))(h':PW X (.BoolOp .Or (b::qbT) pos) (tT M E du)):PW X (.BoolOp .Or (a::b::qbT) pos) (tT M E (dOr dt du)):=PW.weak (qrN h h') λσ H Q q=>by
 have q:=qel q;obtain⟨ρ,O,B,ev,w⟩:=q;refine⟨ρ,O,B,ev,w.mono λc af w1 H1 B1 h1 l1=> ?_⟩;have z:=w1 H1 B1 h1 l1;cases c with
 |true=>exact qk3 z
 |false=>exact z
theorem qdW(h:tE M E (dSq (dTB da) f) σ H Q):tE M E da σ H λx H1=> ∃c,x= .bl c/\tE M E (f c) σ H1 Q:=by
 obtain⟨ρ,O,B,ev,w⟩:=h;refine tE.of ev ((Wn.bind (Wn.bind w)).mono λt af w1 v H1 B1 h1 l1 r1=> ?_);cases t with
 |bl b=>exact⟨b,qbu r1,ρ,af,B1,ev.on h1 l1.le,Wn.lift w1 l1 λ_ _ q=>KE.le q l1⟩
 |_=>exact w1.elim
theorem tE.imp(h:tE M E da σ H Q)(f: ∀v H1,Q v H1->Q' v H1):tE M E da σ H Q':=by obtain⟨ρ,O,B,ev,w⟩:=h;exact⟨ρ,O,B,ev,w.mono λt af w1 v H1 B1 h1 l1 r1=>f _ _ (w1 v H1 B1 h1 l1 r1)⟩
theorem qtM{qbT}(h:PE X a (tE M E da))(h':PE X (.BoolOp .And (b::qbT) pos) (tE M E db)):PE X (.BoolOp .And (a::b::qbT) pos) (tE M E (qmV da db)):=PE.weak (qr8 h h') λσ H Q q=>
 (qdW q).imp (by rintro v H1 ⟨c,e,z⟩;exact⟨c,e,by cases c with|true=>exact z|false=>exact qgC z⟩)
theorem qws{qbT}(h:PE X a (tE M E da))(h':PE X (.BoolOp .Or (b::qbT) pos) (tE M E db)):PE X (.BoolOp .Or (a::b::qbT) pos) (tE M E (quz da db)):=PE.weak (qvt h h') λσ H Q q=>
 (qdW q).imp (by rintro v H1 ⟨c,e,z⟩;exact⟨c,e,by cases c with|true=>exact qgC z|false=>exact z⟩)
theorem qtH(h:PE X a (tE M E da)):PE X (.UnaryOp .Not a pos) (tE M E (qmT da)):=PE.weak (qr3 h) λσ H Q q=>
 (qdW q).imp (by rintro v H1 ⟨c,e,z⟩;exact⟨c,e,qgC z⟩)
theorem qwt(hc:PT X c (tT M E dt))(ha:PE X a (tE M E da))(hb:PE X b (tE M E db)):PE X (.IfExp c a b pos) (tE M E (qiB dt da db)):=PE.weak (qlW hc ha hb) λσ H Q q=>qms q
end
noncomputable def fzT(n:Nat)(l:List Ct):Nat->T->Option T
 |0,t=>if ub t<=n then some t else none
 |d+1,t=>if ub t<=n then some t else match t with
  |.obj k=>(match l[k]? with
   |some (.ls ts)=>(ts.mapM (fzT n l d)).map .lst
   |_=>none)
  |.tup ts=>(ts.mapM (fzT n l d)).map .tup
  |.lst ts=>(ts.mapM (fzT n l d)).map .lst
  |_=>none
noncomputable def Mu.nw(m0 m:Mu):List (Nat×Nat):=m.k.take (m.k.length - m0.k.length)
noncomputable def Mu.back(m0 m:Mu):Mu:=⟨m.l.take m0.l.length,(m0.nw m).filter (λp=>decide (p.1<m0.l.length))++m0.k⟩
noncomputable def Mu.apart(m0 m:Mu):Bool:=decide (m0.l.length<=m.l.length)&&decide (m.k.drop (m.k.length - m0.k.length)=m0.k)&&(m0.nw m).all λp=>decide (m0.l.length<=p.1\/p.2<=m0.l.length)
noncomputable def leave(m0:Mu):R T->R T
 |.ok t m=>if m.l.length=m0.l.length then .ok t m else if m0.apart m=true then(match fzT m0.l.length m.l 3 t with|some t'=>.ok t' (m0.back m)|none=>.no) else .ok t m
 |.ex c m=>if m.l.length=m0.l.length then .ex c m else if m0.apart m=true then .ex c (m0.back m) else .ex c m
 |.no=>.no
open Classical in
noncomputable def qaF.fz(B:qaF)(H:Hp)(l:List Ct)(n:Nat):qaF:=⟨λa=>if ∃k,n<=k/\B.ad k=some a/\(∃ts,l[k]? =some (.ls ts)) then H a else B a,(B.cut n).ad⟩
theorem qe5{α β:Type}{f:α->Option β}: ∀{xs:List α}{ys:List β},xs.mapM f=some ys->xs.length=ys.length/\∀(i:Nat)(x:α)(y:β),xs[i]? =some x->ys[i]? =some y->f x=some y
 |[],ys,h=>by grind
 |x::xs,ys,h=>by
  rw[List.mapM_cons] at h;cases e1:f x with
  |none=>rw[e1] at h;cases h
  |some y=>
   cases e2:xs.mapM f with
   |none=>simp_all
   |some zs=>
    rw[e1,e2] at h;cases h;obtain⟨hl,hi⟩:=qe5 e2;refine⟨by simp[hl],λi a b ea eb=> ?_⟩;cases i with
    |zero=>grind
    |succ i=>exact hi i a b (by simpa using ea) (by simpa using eb)
section
open Classical
theorem qaF.fz_le(h:Hs M O H B):Le (B.cut n) (B.fz H O.l n):=⟨λa o e=>by
 show(if _ then H a else B a)=_;split
 ·exact h.bh a o e
 ·exact e,λ_ _ e=>e⟩
theorem qcE{κ:Type}: ∀{ts:List (κ×T)}{vs:List (κ×V)}{i:Nat}{p:κ×T},qaY K B ts vs->ts[i]? =some p->∃v,vs[i]? =some (p.1,v)/\Rep K B p.2 v
 |[],_,_,_,_,e=>by simp at e
 |(k,t)::ts,_,0,p,⟨v,r,e',a,b⟩,e=>by grind
 |(k,t)::ts,_,i+1,p,⟨v,r,e',a,b⟩,e=>by
  obtain⟨u,e1,e2⟩:=qcE b (by simpa using e)
  simp_all
theorem qs8{M:Md}{O:Mu}{H:Hp}{B:qaF}{n:Nat}(h:Hs M O H B): ∀(d:Nat)(t t':T)(v:V),fzT n O.l d t=some t'->Rep M.K B t v->Rep M.K (B.fz H O.l n) t' v:=by
 intro d
 induction d with
 |zero=>
  intro t t' v e r;unfold fzT at e;split at e
  ·rename_i q;cases e;exact(r.cut q).mono (qaF.fz_le h)
  ·cases e
 |succ d ih=>
  intro t t' v e r;unfold fzT at e;split at e
  ·rename_i q;cases e;exact(r.cut q).mono (qaF.fz_le h)
  rename_i q;have many: ∀{ts eV:List T}{vs:List V},ts.mapM (fzT n O.l d)=some eV->Reps M.K B ts vs->Reps M.K (B.fz H O.l n) eV vs:=λ{ts eV vs} e r=>by
   obtain⟨hl,hi⟩:=qe5 e;refine .of_get (by rw[r.length,hl]) λi t' v e1 e2=> ?_;obtain⟨t,et⟩: ∃t,ts[i]? =some t:=⟨ts[i]'(by rw[hl];exact(List.getElem?_eq_some_iff.mp e1).1),Vw _⟩
   obtain⟨v',ev,rv⟩:=r.get et;rw[e2] at ev;cases ev;exact ih t t' v (hi i t t' et e1) rv
  split at e
  ·rename_i k;obtain⟨a,rfl,ea⟩:=qaD r;have hk:n<=k:=by unfold ub at q;omega
   split at e
   ·rename_i ts el;cases e2:ts.mapM (fzT n O.l d) with
    |none=>rw[e2] at e;cases e
    |some eV=>rw[e2] at e;cases e;obtain⟨o,b0,ho,vs,rfl,rv⟩:=h.at el (by simp) ea;refine qbP ?_ (many e2 rv);show(if _ then H a else B a)=_;rw[if_pos ⟨k,hk,ea,ts,el⟩];exact ho
   ·cases e
  ·rename_i ts;cases e2:ts.mapM (fzT n O.l d) with
   |none=>rw[e2] at e;cases e
   |some eV=>rw[e2] at e;cases e;obtain⟨p,vs,rfl,bp,rv⟩:=qay r;exact qcr ((qaF.fz_le (n:=n) h).h p _ bp) (many e2 rv)
  ·rename_i ts;cases e2:ts.mapM (fzT n O.l d) with
   |none=>rw[e2] at e;cases e
   |some eV=>rw[e2] at e;cases e;obtain⟨p,vs,rfl,bp,rv⟩:=qaB r;exact qbP ((qaF.fz_le (n:=n) h).h p _ bp) (many e2 rv)
  ·cases e
theorem Hs.back(h0:Hs M m0 H0 B0)(h:Hs M O H B)(ha:m0.apart O=true)(g:Go H0 B0 H B):
  Hs M (m0.back O) H (B.fz H O.l m0.l.length)/\Go H0 B0 H (B.fz H O.l m0.l.length):=by
 unfold Mu.apart at ha;simp only[Bool.and_eq_true,decide_eq_true_eq] at ha;obtain⟨⟨hl,hd⟩,ha⟩:=ha;have hk:O.k=m0.nw O++m0.k:=by unfold Mu.nw;conv=>lhs;rw[<-List.take_append_drop (O.k.length - m0.k.length) O.k,hd]
 have new: ∀q∈m0.nw O,m0.l.length<=q.1\/q.2<=m0.l.length:=λq hq=>of_decide_eq_true (List.all_eq_true.mp ha q hq);have hc:Hs M (m0.back O) H (B.cut m0.l.length):=h.cut _ (n:=m0.l.length) (λq hq=>by
  rw[hk] at hq
  rcases List.mem_append.mp hq with hq|hq
  ·grind
  ·exact .inr ⟨Vs _ hq,h0.ln q hq⟩) (λq hq=>by
  rcases List.mem_append.mp hq with hq|hq
  ·obtain⟨hq,z⟩:=List.mem_filter.mp hq
   rcases new q hq with y|y
   ·have:=of_decide_eq_true z;omega
   ·exact y
  ·exact h0.ln q hq) hl
 have at': ∀{a o},(B.fz H O.l m0.l.length) a=some o->H a=some o:=λ{a o} e=>by
  have e:(if _ then H a else B a)=some o:=e;split at e
  ·exact e
  ·exact h.bh a o e
 refine⟨⟨λa o e=>at' e,λa ps e=> ?_,h.gm,λj d e nj=> ?_,hc.ij,hc.dm,hc.lk,hc.ln⟩,⟨⟨λa o e=>(qaF.fz_le h).h a o (g.le.h a o e),λj a e=> ?_⟩,g.un,λj a e=> ?_,g.dm,λa o e n t1 t2=> ?_⟩⟩
 ·have e:(if _ then H a else B a)=some (.tbl ps):=e;split at e
  ·rename_i q;obtain⟨k,_,ek,ts,q⟩:=q;obtain⟨o,_,ho,vs,rfl,_⟩:=h.at q (by simp) ek;rw[ho] at e;cases e
  ·exact h.bt a ps e
 ·obtain⟨a,u,e1,e2,e3,e4⟩:=hc.st j d e nj;refine⟨a,u,e1,?_,e3,e4.mono (qaF.fz_le h)⟩;show(if _ then H a else B a)=_;split
  ·rename_i q;obtain⟨k,hk,ek,_⟩:=q;have e1:(if j<m0.l.length then B.ad j else none)=some a:=e1;split at e1
   ·have:=h.ij j k a e1 ek;omega
   ·cases e1
  ·exact e2
 ·show(if j<m0.l.length then B.ad j else none)=_;rw[if_pos (h0.dm j a e).1];exact g.le.d j a e
 ·have e:(if j<m0.l.length then B.ad j else none)=some a:=e;split at e
  ·exact g.nw j a e
  ·cases e
 ·show(if _ then H a else B a)=_;rw[if_neg ((by rintro⟨k,_,ek,_⟩;exact g.off (by rw[e];simp) n k ek))];exact g.nb a o e n t1 t2
end
end NV
namespace NV
open PySem L2
inductive Out where
 |nx (ρ:Ro)|rt (t:T)|bk (ρ:Ro)|ct (ρ:Ro)
noncomputable def KS(M:Md)(H:Hp)(B:qaF)(D:qra):Out->Mu->Prop
 |.nx ρ,O=> ∀ae H' B',Ev M ρ O ae H' B'->Go H B H' B'->D.nx ae H'
 |.bk ρ,O=> ∀ae H' B',Ev M ρ O ae H' B'->Go H B H' B'->D.bk ae H'
 |.ct ρ,O=> ∀ae H' B',Ev M ρ O ae H' B'->Go H B H' B'->D.ct ae H'
 |.rt t,O=>KE M H B D.rt t O
theorem KS.le(h:KS M H B D o O)(le:Go H B H1 B1):KS M H1 B1 D o O:=by
 cases o with
 |nx ρ|bk ρ|ct ρ=>exactλae H' B' e l=>h ae H' B' e (le.trans l)
 |rt t=>exact KE.le h le
noncomputable def tS(M:Md)(E:XK)(d:DS0 Out):TS:=λD σ H=> ∃ρ O B,Ev M ρ O σ H B/\Wn M E H B (KS M H B D) (d ρ O)
noncomputable def qmU:DS0 Out:=λρ O=>.ok (.nx ρ) O
noncomputable def qhZ(e:DS0 Out):Out->Mu->R Out
 |.nx ρ,O=>e ρ O
 |o,O=>.ok o O
noncomputable def qwz(d e:DS0 Out):DS0 Out:=λρ O=>(d ρ O).bind (qhZ e)
noncomputable def qwA(da:DS0 T):DS0 Out:=dSq da λt _ O=>.ok (.rt t) O
noncomputable def qmS(i:Nat)(da:DS0 T):DS0 Out:=dSq da λt ρ O=>.ok (.nx (ρ.set i (some t))) O
noncomputable def qtS(da:DS0 T):DS0 Out:=dSq da λ_ ρ O=>.ok (.nx ρ) O
section
variable{x:Str}
theorem qa6:PS X st (tS M E dNo):=(by rintro _ _ _ _ _ _ ⟨_,_,_,_,w⟩;exact w.elim)
theorem qp4:PSs X [] (tS M E qmU):=PSs.weak qje (by rintro D σ H ⟨ρ,O,B,ev,w⟩;exact w σ H B ev .refl)
theorem qlA(h:tS M E (qwz d d') D σ H):qwX (tS M E d) (tS M E d') D σ H:=by
 obtain⟨ρ,O,B,ev,w⟩:=h;refine⟨ρ,O,B,ev,(Wn.bind w).mono λo af w1=> ?_⟩;cases o with
 |nx ρ'=>exactλae H' B' e l=>⟨ρ',af,B',e,Wn.lift w1 l λ_ _ q=>KS.le q l⟩
 |bk ρ'|ct ρ'|rt t=>exact w1
theorem qmG{M:Md}{E:XK}{X:Cx}{st:Stmt}{qbT:List Stmt}{d:DS0 Out}{d':DS0 Out}(h:PS X st (tS M E d))(h':PSs X qbT (tS M E d')):PSs X (st::qbT) (tS M E (qwz d d')):=PSs.weak (qbE h h') λD σ H q=>qlA q
theorem qts(h:PE X e (tE M E da)):PS X (.Return (some e) pos) (tS M E (qwA da)):=PS.weak (qeV h) (by rintro D σ H ⟨ρ,O,B,ev,w⟩;exact tE.of ev ((Wn.bind w).mono λt af w1=>w1))
theorem qp5:PS X (.Return none pos) (tS M E (qwA (dC .non))):=PS.weak qoO (by rintro D σ H ⟨ρ,O,B,ev,w⟩;exact w _ H B ev.hs .refl qeZ)
theorem qp6:PS X (.Pass pos) (tS M E qmU):=PS.weak qoP (by rintro D σ H ⟨ρ,O,B,ev,w⟩;exact w σ H B ev .refl)
theorem qmI:PS X (.Break pos) (tS M E λρ O=>.ok (.bk ρ) O):=PS.weak qlO (by rintro D σ H ⟨ρ,O,B,ev,w⟩;exact w σ H B ev .refl)
theorem qgi:PS X (.Continue pos) (tS M E λρ O=>.ok (.ct ρ) O):=PS.weak qfU (by rintro D σ H ⟨ρ,O,B,ev,w⟩;exact w σ H B ev .refl)
theorem qp7(h:PE X e (tE M E da))(hs:swapsWith e none pos.line X.env=pure false):PS X (.Expr e pos) (tS M E (qtS da)):=PS.weak (qoQ h hs) (by rintro D σ H ⟨ρ,O,B,ev,w⟩;exact tE.of ev ((Wn.bind w).mono λt af w1 v H1 B1 h1 l1 _=>w1 σ H1 B1 (ev.on h1 l1.le) l1))
theorem qwp(hc:PT X c (tT M E dt))(h:PSs X bN (tS M E d))(h':PSs X sts' (tS M E d')):PS X (.If c bN sts' pos) (tS M E (qiB dt d d')):=PS.weak (qrT hc h h') (by
 rintro D σ H ⟨ρ,O,B,ev,w⟩;refine⟨ρ,O,B,ev,(Wn.bind w).mono λc af w1 H1 B1 h1 l1=> ?_⟩;cases c with
 |true=>exact⟨ρ,af,B1,ev.on h1 l1.le,Wn.lift w1 l1 λ_ _ q=>KS.le q l1⟩
 |false=>exact⟨ρ,af,B1,ev.on h1 l1.le,Wn.lift w1 l1 λ_ _ q=>KS.le q l1⟩)
theorem qtr(hN:X.N.Nodup)(hi:X.N[i]? =some x)(hx:Loc X.env.scope x)(h:PE X e (tE M E da))(hs:swapsWith e (some (.Name x pos')) pos.line X.env=pure false)(hf:X.fn x=true\/X.env.scope.names.lookup x=some .local):
  PS X (.Assign [.Name x pos'] e pos) (tS M E (qmS i da)):=PS.weak (qeU hN hi hx h hs hf) (by rintro D σ H ⟨ρ,O,B,ev,w⟩;exact tE.of ev ((Wn.bind w).mono λt af w1 v H1 B1 h1 l1 r1=>w1 _ H1 B1 ((ev.on h1 l1.le).set r1) l1))
end
noncomputable def tG(M:Md)(E:XK)(dg:T->DS0 Ro):TG:=λv σ H Q=> ∃ρ O B t,Ev M ρ O σ H B/\Rep M.K B t v/\Wn M E H B (λρ' μ'=> ∀ae H' B',Ev M ρ' μ' ae H' B'->Go H B H' B'->Q ae H') (dg t ρ O)
noncomputable def tGs(M:Md)(E:XK)(dg:List T->DS0 Ro):TGs:=λv σ H Q=> ∃ρ O B t,Ev M ρ O σ H B/\Reps M.K B t v/\Wn M E H B (λρ' μ'=> ∀ae H' B',Ev M ρ' μ' ae H' B'->Go H B H' B'->Q ae H') (dg t ρ O)
noncomputable def gN(i:Nat):T->DS0 Ro:=λt ρ O=>.ok (ρ.set i (some t)) O
noncomputable def gsN:List T->DS0 Ro:=λts ρ O=>match ts with|[]=>.ok ρ O|_=>.no
noncomputable def gsC(dg:T->DS0 Ro)(dr:List T->DS0 Ro):List T->DS0 Ro:=λts ρ O=>match ts with|t::r=>(dg t ρ O).bind (dr r)|[]=>.no
noncomputable def gT(n:Nat)(dr:List T->DS0 Ro):T->DS0 Ro:=λt ρ O=>match t with|.tup ts=>if ts.length=n then dr ts ρ O else .no|_=>.no
noncomputable def qxA(dg:T->DS0 Ro)(da:DS0 T):DS0 Out:=dSq da λt ρ O=>(dg t ρ O).bind λρ' μ'=>.ok (.nx ρ') μ'
section
theorem qkD:PG X e (tG M E λ_=>dNo):=(by rintro _ _ _ _ _ _ _ _ _ ⟨_,_,_,_,_,_,w⟩;exact w.elim)
theorem qwq(h:PG X e (qpO i)):PG X e (tG M E (gN i)):=PG.weak h (by rintro v σ H Q ⟨ρ,O,B,t,ev,r,w⟩;exact w _ _ _ (ev.set r) .refl)
theorem qqd:PGs X [] (tGs M E gsN):=PGs.weak qoU (by
 rintro v σ H Q ⟨ρ,O,B,t,ev,r,w⟩;cases t with
 |nil=>exact⟨r.inv0,w σ H B ev .refl⟩
 |cons _ _=>exact w.elim)
theorem qmL(h1:PG X e (tG M E dg))(h2:PGs X es (tGs M E dr))(hs:(assignEach (e::es) X.env).map (·.2)=assign e X.env::(assignEach es X.env).map (·.2)):PGs X (e::es) (tGs M E (gsC dg dr)):=
 PGs.weak (qlS h1 h2 hs) (by
  rintro v σ H Q ⟨ρ,O,B,t,ev,r,w⟩;cases t with
  |nil=>exact w.elim
  |cons t ts=>
   obtain⟨v',r',rfl,a,b⟩:=r.inv;refine⟨v',r',rfl,ρ,O,B,t,ev,a,(Wn.bind w).mono λaw af w1 cU H1 B1 e1 l1=> ?_⟩;exact⟨aw,af,B1,ts,e1,b.mono l1.le,Wn.lift w1 l1 λaA ah q aP H2 B2 e2 l2=>q aP H2 B2 e2 (l1.trans l2)⟩)
theorem qtC(hc:X.calm=true)(h:PGs X es (tGs M E dr))(hK:X.K=M.K)(hn:(assignEach es X.env).length=n)(aG:(assignEach es X.env).findIdx? (·.1)=none):PG X (.Tuple es k pos) (tG M E (gT n dr)):=
 PG.weak (qr1 hc h hn aG) (by
  rintro v σ H Q ⟨ρ,O,B,t,ev,r,w⟩;cases t with
  |tup ts=>
   obtain⟨p,vs,rfl,bp,rv⟩:=qay r;have w:Wn M E H B _ (if ts.length=n then _ else _):=w;split at w
   ·rename_i hl;exact⟨p,vs,rfl,.inl (.inl (ev.hs.bh _ _ bp)),by rw[rv.length];exact hl,ρ,O,B,ts,ev,rv,w⟩
   ·exact w.elim
  |_=>exact w.elim)
theorem qnW(h:PE X e (tE M E da))(hg:PG X tg (tG M E dg))(hs:swapsWithSole [tg] e pos.line X.env=pure false)(hw:swappedStores [tg] e X.env=pure none)(h1:(assignEach [tg] X.env).map (·.2)=[assign tg X.env]):PS X (.Assign [tg] e pos) (tS M E (qxA dg da)):=
 PS.weak (qrX h hg hs hw h1) (by rintro D σ H ⟨ρ,O,B,ev,w⟩;exact tE.of ev ((Wn.bind w).mono λt af w1 v H1 B1 h1 l1 r1=>⟨ρ,af,B1,t,ev.on h1 l1.le,r1,(Wn.bind w1).lift l1 λaA ah w2 aP H2 B2 e2 l2=>w2 aP H2 B2 e2 (l1.trans l2)⟩))
end
noncomputable def spF(M:Md)(f:List T->Mu->R T):Sp:=λvs H Q E=> ∃O B ts,Hs M O H B/\Reps M.K B ts vs/\Wn M E H B (KE M H B Q) (f ts O)
noncomputable def outT:Out->Mu->R T
 |.rt t,O=>.ok t O
 |.nx _,O=>.ok .non O
 |_,_=>.no
noncomputable def lv(kp:Bool)(O:Mu)(r:R T):R T:=if kp=true then r else leave O r
noncomputable def fnR(kp:Bool)(n N:Nat)(d:DS0 Out):List T->Mu->R T:=λts O=>if ts.length=n then lv kp O ((d (ts.map some++List.replicate (N - n) none) O).bind outT) else .no
section
theorem qiq(h:Hs M O H B)(w:Wn M E H B (KE M H B Q) (leave O r)):Wn M E H B (KE M H B Q) r:=by
 cases r with
 |no=>exact w
 |ok t m=>
  have w:Wn M E H B _ (if m.l.length=O.l.length then .ok t m else if O.apart m=true then(match fzT _ m.l 3 t with|some t'=>.ok t' _|none=>.no) else .ok t m):=w;split at w
  ·exact w
  ·split at w
   ·rename_i ha;split at w
    ·rename_i t' e
     exactλv H' B' h' l r=>w v H' _ (h.back h' ha l).1 (h.back h' ha l).2 (qs8 h' 3 t t' v e r)
    ·exact w.elim
   ·exact w
 |ex c m=>
  have w:Wn M E H B _ (if m.l.length=O.l.length then .ex c m else if O.apart m=true then .ex c _ else .ex c m):=w;split at w
  ·exact w
  ·split at w
   ·rename_i ha
    exactλH' B' h' l=>w H' _ (h.back h' ha l).1 (h.back h' ha l).2
   ·exact w
theorem qpp(h:Hs M O H B)(w:Wn M E H B (KE M H B Q) (lv kp O r)):Wn M E H B (KE M H B Q) r:=by
 cases kp with
 |true=>exact w
 |false=>exact qiq h w
theorem qmD{N:List Str}(h:Hs M O H B)(r:Reps M.K B ts vs)(hN:ts.length<=N.length):Ev M (ts.map some++List.replicate (N.length - ts.length) none) O (start N vs) H B:=by
 have hl:=r.length;refine⟨h,by unfold L2.start;simp[hl],λi t e=> ?_⟩;by_cases hi:i<ts.length
 ·rw[List.getElem?_append_left (by simpa using hi),List.getElem?_map] at e;cases q:ts[i]? with
  |none=>rw[q] at e;cases e
  |some u=>rw[q] at e;cases e;obtain⟨v,e1,e2⟩:=r.get q;refine⟨v,?_,e2⟩;unfold L2.start;rw[List.getElem?_append_left (by simp_all),List.getElem?_map,e1];rfl
 ·rw[List.getElem?_append_right (by simpa using hi),List.getElem?_replicate] at e;split at e<;>cases e
theorem qwj{x qual:Str}{N ps:List Str}(F:Fun M.K x qual st f fd)(S:qbz N ps (qad st))(au: ∀(cdv:Value),fd.code=cdv->∀(A:Around)(outer:List Env)(s:Shared)(H:Hp)(E:XK),qbb k (A.deeper (PyProof.Rows.envOfC qual (qad st) s.heap.objs.size f cdv))->
   PSs (qfv (CXE P w) P w M.K mg base N qual (qad st) f cdv A outer s H E) (qaA st) (tS M E d)):qdl P w M.K mg base (CXE P w) (k+1) f fd ps (spF M (fnR kp ps.length N.length d)):=by
 have az:ps.length<=N.length:=by have:=congrArg List.length S.pre;grind
 have len: ∀vs H Q E,spF M (fnR kp _ N.length d) vs H Q E->∃O B ts,Hs M O H B/\Reps M.K B ts vs/\ts.length=ps.length/\Wn M E H B _ _:=λvs H Q E h=>by
  obtain⟨O,B,ts,h1,h2,h3⟩:=h;unfold fnR at h3;split at h3
  ·rename_i hl;exact⟨O,B,ts,h1,h2,hl,h3⟩
  ·exact h3.elim
 obtain⟨oc,od,kV,doc,pm,an,cdv,ct,osl,rfl,lk,aK⟩:=F.ex;refine qwk lk aK S (λvs H Q E h=> ?_) λA outer s H vs Q E hr h=>⟨_,au cdv rfl A outer s H E hr,?_⟩
 ·obtain⟨O,B,ts,h1,h2,hl,h3⟩:=len vs H Q E h;rw[h2.length];exact hl
 ·obtain⟨O,B,ts,h1,h2,hl,h3⟩:=len vs H Q E h;refine⟨_,O,B,qmD h1 h2 (by omega),?_⟩;rw[hl];refine(Wn.bind (qpp h1 h3)).mono λo af w1=> ?_;cases o with
  |rt t=>exact w1
  |nx ρ=>exactλae H' B' e l=>w1 .non H' B' e.hs l qeZ
  |bk ρ|ct ρ=>exact w1.elim
end
noncomputable def qer(f:List T->Mu->R T)(ds:DS0 (List T)):DS0 T:=dSq ds λts _ O=>f ts O
section
variable{M:Md}{E:XK}{X:Cx}{k:Nat}{f C:Addr}{fd:FuncData}{ps:List Str}{x m:Str}{p pos apos:Pos}{e o:Expr}{es:List Expr}{da:DS0 T}{ds:DS0 (List T)}{fT:List T->Mu->R T}
theorem qkV(h:tE M E (qer fT ds) σ H Q):qos (spF M fT) [] E (tA M E ds) σ H Q:=by obtain⟨ρ,O,B,ev,w⟩:=h;refine⟨ρ,O,B,ev,(Wn.bind w).mono λts af w1 vs H1 B1 h1 l1 r1=> ?_⟩;show spF M fT _ H1 Q E;rw[List.append_nil];exact⟨af,B1,ts,h1,r1,Wn.lift w1 l1 λ_ _ q=>KE.le q l1⟩
theorem qqo(F:qdl X.prog X.w X.K X.mg X.base (CXE X.prog X.w) k f fd ps (spF M fT))(hr:qbb k X.A)(hg:Gl X x)(hm:X.mg x=some (.ref f))(hk:W.keepIn X.K (.ref f)=true)(hb:qa0 X.K fd ps [])(hx:qaI (CXE X.prog X.w) X E)(ha:PA X (e::es) (tA M E ds))(aJ:(x==("__debug__" :Str))=false)(he:starEach (e::es) X.env=(false,eval e X.env)::starEach es X.env)(az:(backTo pos (starEach es X.env)).any (·.1)=false):
  PE X (.Call (.Name x p) (e::es) [] pos) (tE M E (qer fT ds)):=PE.weak (qo1 F hr hg hm hk hb .nil hx ha aJ he az) λ_ _ _ h=>qkV h
theorem qmQ(F:qdl X.prog X.w X.K X.mg X.base (CXE X.prog X.w) k f fd ps (spF M fT))(hr:qbb k X.A)(hg:Gl X x)(hm:X.mg x=some (.ref f))(hk:W.keepIn X.K (.ref f)=true)(hb:qa0 X.K fd ps [])(hx:qaI (CXE X.prog X.w) X E)(aJ:(x==("__debug__" :Str))=false):PE X (.Call (.Name x p) [] [] pos) (tE M E (qer fT qq3)):=PE.weak (ql0 F hr hg hm hk hb .nil hx aJ) λσ H Q h=>by obtain⟨ρ,O,B,ev,w⟩:=h;exact⟨O,B,[],ev.hs,.nil,w⟩
noncomputable def mkR(c:Str)(fT:List T->Mu->R T)(ts:List T)(O:Mu):R T:=(fT (.obj O.l.length::ts) (O.add (.ins c []))).bind λt m=>match t with|.non=>.ok (.obj O.l.length) m|_=>.no
theorem qe6{c:Str}(hC:C=clA M.K c)(h:tE M E (qer (mkR c fT) ds) σ H Q):qor C (spF M fT) [] E (tA M E ds) σ H Q:=by
 obtain⟨ρ,O,B,ev,w⟩:=h;refine⟨ρ,O,B,ev,(Wn.bind w).mono λts af w1 vs H1 B1 h1 l1 r1 x dx hx gX ne=> ?_⟩;rw[List.append_nil];have h2:=h1.more (H':=upd H1 dx (.own x)) λa o e=>by rw[qac (qaj e gX)];exact e
 have cZ:upd H1 dx (.own x) x=none:=by rw[qac (λz=>ne z.symm)];exact hx
 obtain⟨h3,_⟩:=h2.own (c:=.ins c []) (o:=.ins C dx []) cZ ⟨dx,[],by rw[hC],rfl⟩;have l3:Go H1 B1 (upd _ x (.ins C dx [])) _:=(Go.more (λa o e=>by rw[qac (qaj e gX)];exact e)).trans (h2.gown cZ);have ad:(B1.add af.l.length x).ad af.l.length=some x:=by show(if af.l.length=af.l.length then some x else _)=_;rw[if_pos rfl]
 refine⟨_,_,_::ts,h3,.cons (qdy ad) (r1.mono l3.le),(Wn.bind w1).lift (l1.trans l3) λt ah w2 v H2 B2 h4 l4 r4=> ?_⟩;cases t with
 |non=>exact⟨qcR r4,w2 _ H2 B2 h4 ((l1.trans l3).trans l4) (qdy (l4.le.d _ _ ad))⟩
 |_=>exact w2.elim
theorem qql{c:Str}(hC:C=clA M.K c)(jn:Mk X.K C f)(F:qdl X.prog X.w X.K X.mg X.base (CXE X.prog X.w) k f fd ps (spF M fT))(hr:qbb (k+1) X.A)(hg:Gl X x)(hm:X.mg x=some (.ref C))(hb:qa0 X.K fd ps [])(hx:qaI (CXE X.prog X.w) X E)(ha:PA X (e::es) (tA M E ds))(aJ:(x==("__debug__" :Str))=false)(he:starEach (e::es) X.env=(false,eval e X.env)::starEach es X.env)(az:(backTo pos (starEach es X.env)).any (·.1)=false):
  PE X (.Call (.Name x p) (e::es) [] pos) (tE M E (qer (mkR c fT) ds)):=PE.weak (qoY jn F hr hg hm hb .nil hx ha aJ he az) λ_ _ _ h=>qe6 hC h
theorem qmP{c:Str}(hC:C=clA M.K c)(jn:Mk X.K C f)(F:qdl X.prog X.w X.K X.mg X.base (CXE X.prog X.w) k f fd ps (spF M fT))(hr:qbb (k+1) X.A)(hg:Gl X x)(hm:X.mg x=some (.ref C))(hb:qa0 X.K fd ps [])(hx:qaI (CXE X.prog X.w) X E)(aJ:(x==("__debug__" :Str))=false):PE X (.Call (.Name x p) [] [] pos) (tE M E (qer (mkR c fT) qq3)):=PE.weak (qlV jn F hr hg hm hb .nil hx aJ) λσ H Q h=>by have:=qe6 hC h;obtain⟨ρ,O,B,ev,w⟩:=this;exact w [] H B ev.hs .refl .nil
noncomputable def qnS(ok:Str->Str->Bool)(f:Str):T->Mu->R T
 |.obj k,O=>(match O.l[k]? with
  |some (.ins c fs)=>if ok c f=true then(match fs.lookup f with|some t=>.ok t O|none=>.no) else .no
  |_=>.no)
 |_,_=>.no
theorem qbU{f:Str}: ∀{fs:List (Str×T)}{vs:List (Str×V)},qaY K B fs vs->(∀t,fs.lookup f=some t->∃v,vs.lookup f=some v/\Rep K B t v)/\(fs.lookup f=none->vs.lookup f=none)
 |[],vs,r=>by have r:vs=[]:=r;grind
 |(g,t)::fs,_,⟨v,r,e,a,b⟩=>by
  have ih:=qbU (f:=f) b;rw[e,List.lookup_cons,List.lookup_cons];cases q:f==g with
  |true=>grind
  |false=>exact ih
theorem qmA{ok:Str->Str->Bool}{f:Str}(hK:X.K=M.K)(hok: ∀c,ok c f=true->Cls M.K (clA M.K c)/\qbe M.K (clA M.K c) f){σ:St}{H:Hp}{Q:VK}(h:tE M E (dU (qnS ok f) da) σ H Q):qwZ X.K (tE M E da) f σ H Q:=by
 obtain⟨ρ,O,B,ev,w⟩:=h;refine tE.of ev ((Wn.bind w).mono λx af w1 v H1 B1 h1 l1 r1=> ?_);have w1:Wn M E H B (KE M H B Q) (qnS ok f x af):=w1;unfold qnS at w1;split at w1
 ·rename_i k;obtain⟨a,rfl,ea⟩:=qaD r1;split at w1
  ·rename_i c fs el;split at w1
   ·rename_i hc;obtain⟨h2,h3⟩:=hok c hc;split at w1
    ·rename_i t et;obtain⟨o,b0,ho,dx,vs,rfl,rv⟩:=h1.at el (by simp) ea;obtain⟨v,bU,bY⟩:=(qbU rv).1 t et;rw[hK];exact⟨a,_,dx,vs,v,rfl,ho,h2,h3,bU,w1 v H1 B1 h1 l1 bY⟩
    ·exact w1.elim
   ·exact w1.elim
  ·exact w1.elim
 ·exact w1.elim
theorem qtJ{ok:Str->Str->Bool}{f:Str}(hK:X.K=M.K)(hok: ∀c,ok c f=true->Cls M.K (clA M.K c)/\qbe M.K (clA M.K c) f)(he:PE X e (tE M E da))(hb:attributeBase e f X.env (eval e X.env)=eval e X.env):PE X (.Attribute e f pos) (tE M E (dU (qnS ok f) da)):=
 PE.weak (qr6 he hb) λ_ _ _ h=>qmA hK hok h
noncomputable def qqX(f:Str)(t:T):List (Str×T)->List (Str×T)
 |[]=>[(f,t)]
 |(g,u)::r=>if g=f then(g,t)::r else(g,u)::qqX f t r
noncomputable def qte(ok:Str->Str->Bool)(f:Str)(t:T):T->Mu->R Unit
 |.obj k,O=>(match O.l[k]? with
  |some (.ins c fs)=>if ok c f=true/\fs.length<1000 then .ok () (O.put k (.ins c (qqX f t fs))) else .no
  |_=>.no)
 |_,_=>.no
noncomputable def qtR(ok:Str->Str->Bool)(f:Str)(bG dv:DS0 T):DS0 Out:=dSq dv λt=>dSq bG λo ρ O=>(qte ok f t o O).bind λ_ μ'=>.ok (.nx ρ) μ'
theorem qgW{f:Str}(r:Rep K B t v): ∀{fs:List (Str×T)}{vs:List (Str×V)},qaY K B fs vs->qaY K B (qqX f t fs) (qeA f v vs)
 |[],_,h=>by rw[h];exact⟨v,[],rfl,r,rfl⟩
 |(g,u)::fs,_,⟨w,r',e,a,b⟩=>by
  rw[e];unfold qqX qeA;by_cases q:g=f
  ·rw[if_pos q,if_pos q];exact⟨v,r',rfl,r,b⟩
  ·rw[if_neg q,if_neg q];exact⟨w,_,rfl,a,qgW r b⟩
theorem qtw{ok:Str->Str->Bool}{f:Str}{o value:Expr}{pos':Pos}{dv:DS0 T}(hK:X.K=M.K)(hok: ∀c,ok c f=true->Cls M.K (clA M.K c)/\qbe M.K (clA M.K c) f)(ho:PE X o (tE M E da))(hv:PE X value (tE M E dv))(hs:swapsWith value (some (.Attribute o f pos')) pos.line X.env=pure false):
  PS X (.Assign [.Attribute o f pos'] value pos) (tS M E (qtR ok f da dv)):=PS.weak (qrV ho hv hs) (by
 rintro D σ H ⟨ρ,O,B,ev,w⟩;refine tE.of ev ((Wn.bind w).mono λt af w1 v H1 B1 h1 l1 r1=> ?_);refine tE.of (ev.on h1 l1.le) ((Wn.bind w1).lift l1 λx ah w2 u H2 B2 h2 l2 r2=> ?_);have w2:=Wn.bind w2;unfold qte at w2;split at w2
 ·rename_i k;obtain⟨a,rfl,ea⟩:=qaD r2;split at w2
  ·rename_i c fs el;split at w2
   ·rename_i hc;obtain⟨g2,g3⟩:=hok c hc.1;obtain⟨o,b0,ho,dx,vs,rfl,rv⟩:=h2.at el (by simp) ea;rw[hK];refine⟨a,_,dx,vs,rfl,ho,g2,g3,by rw[rv.length];exact hc.2,?_⟩;have g:=(l1.trans l2).trans (qsX (H:=H2) (o:=.ins (clA M.K c) dx (qeA f v vs)) ea);exact w2 σ _ B2 (ev.on (h2.put el (by simp) ea ⟨dx,_,rfl,qgW (r1.mono l2.le) rv⟩) g.le) g
   ·exact w2.elim
  ·exact w2.elim
 ·exact w2.elim)
end
end NV
namespace L2
open PySem PySem.Spec PySem.Calls PyProof.Rows
noncomputable def qgH(P:Addr)(qual:Str)(H:Hp):Prop:=
 ∃ps,H P=some (.tbl ps)/\PySem.TriplesOk ps.toList/\∀pos v,PySem.codeAmong pos ps.toList=some v->∃c,v= .ref c/\H c=some (qdq c qual)
theorem qiI(l:List Value)(h:PySem.TriplesOk l)(e:PySem.codeAmong pos (l++[.int a t,.int b u,x])=some v):PySem.codeAmong pos l=some v\/v=x:=by
 fun_induction PySem.TriplesOk l with
 |case1=>
  simp only[List.nil_append,PySem.codeAmong] at e
  simp_all
 |case2 a t b u x qbT ih=>
  simp only[List.cons_append,PySem.codeAmong] at e⊢;split at e
  ·simp_all
  ·rename_i hc;rw[if_neg hc];exact ih h e
 |case3 l h1 h2=>exact h.elim
noncomputable def qqZ(f:Addr)(o:Obj):HO:=.ext λh=>h.get? f=some o
theorem qjP(e:h.get? f=some o):qaG P w H h f (qqZ f o):=⟨e,⟨_,e⟩,λ_ _ p k=>k _ p⟩
noncomputable def qwY(P:Addr)(qual:Str)(ob:Addr->Value->Obj):TE:=λ_ H Q=>qgH P qual H/\∀(f c':Addr)(aE:Value)(H':Hp),qgH P qual H'->qfL P H H'->(∀b,H b≠none->H' b≠none)->H f=none->H' f=some (qqZ f (ob c' aE))->H' c'=some (qdq c' qual)->Q (.ref f) H'
theorem qoZ{qual:Str}(df:X.env.code= .ref c)(C:W.CodeHd X.base c P)(hb: ∃bm ob,X.mg "__builtins__" =some (.ref bm)/\bm≠builtinsNs/\X.base.get? bm=some ob/\ob.cls= .type "module" /\ob.dict=some builtinsNs/\ob.data= .plain)(ag: ∀y∈scope.names,y.2= .free->X.env.kindOf y.1=some .cell\/X.env.kindOf y.1=some .free)(hd:defaultsOf params X.env=([],[]))(hq:X.env.qual++("<lambda>" :Str)=qual):
  PE X (.Lambda params body scope pos) (qwY P qual λc' aE=>W.kla_obj "<lambda>" qual params body scope (clOf X.env scope.names []) ((X.mg "__name__").getD .none) c' aE):=by
 intro Z s σ H Q I hQ;obtain⟨⟨ps,hP,fM,iI⟩,h⟩:=hQ;have hgP:mainGlobals≠P:=λz=>by obtain⟨o,es,ep,e,jN,_⟩:=I.mod.glob;have:=(I.bs _ _ e).2;rw[z,hP] at this;cases this
 have jU:s.heap.get? P=some (W.tabObj ps):=I.hok P _ hP;have CS:W.CodeHd s.heap c P:=C.keeps I.bk;have jQ:s.heap.BuiltinsAt X.mg P:=by
  obtain⟨bm,ob,b1,b2,b3,b4,b5,b6⟩:=hb;refine⟨bm,ob,b1,b2,λz=> ?_,λz=> ?_,I.bk _ _ b3,b4,b5,b6⟩
  ·obtain⟨o,es,ep,e,jN,_⟩:=I.mod.glob;rw[z,e] at b3;cases b3;rw[jN] at b6;cases b6
  ·have:=(I.bs _ _ b3).2;rw[z,hP] at this;cases this
 have hg:s.heap.Ns mainGlobals X.mg:=I.mod.glob.keeps I.bk;have gY:closureFor scope X.env=pure (clOf X.env scope.names []):=qdN λy hy e=>I.ok.has y.1 (ag y hy e);refine W.kla_eval hd ?_;rw[hq];cases hn:PySem.codeAmong pos ps.toList with
 |none=>
  refine W.kla_makeFunction gY I.ok.glob hg df CS jU fM hn hgP jQ λc' aE h' tk hx eI bJ bu htb=> ?_;have I1:Inv X Z σ (upd (upd H P (.tbl (ps++ #[rawInt pos.line,rawInt pos.col,.ref c']))) c' (qdq c' qual)) { s with heap:=h',toks:=tk }:=I.grow hP hx htb eI ⟨bu,by
    obtain⟨c2,oc,vs,tq,e,ho,_⟩:=bu;cases e;exact⟨oc,ho⟩,λh1 h2 p k=>qgs p k⟩
  have nP:P≠c':=Vn (Vm (I.hok P _ hP).lt eI);have I2:=I1.laid (t':=tk) (o:=qqZ h'.objs.size (W.kla_obj "<lambda>" qual params body scope (clOf X.env scope.names []) ((X.mg "__name__").getD .none) c' aE)) (λb u e=>Vg _ e) (Vl _) (qjP (Vh _ rfl));have nf: ∀b o,(upd (upd H P (.tbl (ps++ #[rawInt pos.line,rawInt pos.col,.ref c']))) c' (qdq c' qual)) b=some o->b≠h'.objs.size:=λb o e=>Vn (I1.hok b _ e).lt;have bS:(upd (upd H P (.tbl (ps++ #[rawInt pos.line,rawInt pos.col,.ref c']))) c' (qdq c' qual)) c'=some (qdq c' qual):=qae;have g0:(upd (upd H P (.tbl (ps++ #[rawInt pos.line,rawInt pos.col,.ref c']))) c' (qdq c' qual)) P=some (.tbl (ps++ #[rawInt pos.line,rawInt pos.col,.ref c'])):=by rw[qac nP,qae]
  have old: ∀b o,H b=some o->b≠P->(upd (upd H P (.tbl (ps++ #[rawInt pos.line,rawInt pos.col,.ref c']))) c' (qdq c' qual)) b=some o:=λb o e hb=>by rw[qac (Nat.ne_of_lt (Nat.lt_of_lt_of_le (I.hok b _ e).lt eI)),qac hb];exact e
  refine⟨.ref h'.objs.size,_,I2,rfl,h h'.objs.size c' aE _ ⟨_,by rw[qac (nf _ _ g0)];exact g0,?_,λp v e=> ?_⟩ (λb o e hb=> ?_) (λb e z=> ?_) ?_ qae (by rw[qac (nf _ _ bS)];exact bS)⟩
  ·rw[Array.toList_append];exact qcm rfl rfl _ fM
  ·rw[Array.toList_append] at e
   rcases qiI _ fM e with e|e
   ·obtain⟨c2,rfl,e2⟩:=iI p v e;have e3:=old c2 _ e2 (λz=>by rw[z,hP] at e2;cases e2);exact⟨c2,rfl,by rw[qac (nf _ _ e3)];exact e3⟩
   ·exact⟨c',e,by rw[qac (nf _ _ bS)];exact bS⟩
  ·have e3:=old b o e hb;rw[qac (nf _ _ e3)];exact e3
  ·cases q:H b with
   |none=>exact e q
   |some o=>
    by_cases zb:b=P
    ·subst zb;rw[qac (nf _ _ g0),g0] at z;cases z
    ·have e3:=old b o q zb;rw[qac (nf _ _ e3),e3] at z;cases z
  ·cases q:H h'.objs.size with
   |none=>rfl
   |some o=>exact absurd (Vm (I.hok _ _ q).lt (Vp eI (Vo bJ))) (Nat.lt_irrefl _)
 |some cv=>
  obtain⟨c2,rfl,hH⟩:=iI pos cv hn;refine W.kla_makeFunctionHit (cv:=.ref c2) gY I.ok.glob hg df CS jU fM hn jQ λaE h' tk kp sz=> ?_;have I1:Inv X Z σ H { s with heap:=h',toks:=tk }:=I.kept (t':=tk) kp;have I2:=I1.laid (t':=tk) (o:=qqZ h'.objs.size (W.kla_obj "<lambda>" qual params body scope (clOf X.env scope.names []) ((X.mg "__name__").getD .none) c2 aE)) (λb u e=>Vg _ e) (Vl _) (qjP (Vh _ rfl));have nf: ∀b o,H b=some o->b≠h'.objs.size:=λb o e=>Vn (I1.hok b _ e).lt;refine⟨.ref h'.objs.size,_,I2,rfl,h h'.objs.size c2 aE _ ⟨ps,by rw[qac (nf _ _ hP)];exact hP,fM,λp v e=> ?_⟩ (λb o e hb=>by rw[qac (nf _ _ e)];exact e) (λb e z=> ?_) (I1.hok.fresh (Vl _)) qae (by rw[qac (nf _ _ hH)];exact hH)⟩
  ·obtain⟨c3,rfl,e3⟩:=iI p v e;exact⟨c3,rfl,by rw[qac (nf _ _ e3)];exact e3⟩
  ·cases q:H b with
   |none=>exact e q
   |some o=>rw[qac (nf _ _ q),q] at z;cases z
noncomputable def qgp(P:Program)(w:World)(K:W.Frag)(mg:Str->Option Value)(base:Heap)(N:List Str)(env:Env)(A:Around)(outer:List Env)(s:Shared)(H:Hp)(E:XK):Cx where
 prog:=P
 w:=w
 K:=K
 mg:=mg
 base:=base
 A:=A.deeper env
 N:=N
 s₀:=s
 H₀:=H
 env:=env
 outer:=outer
 stack:=env::outer
 ex:=[]
 calm:=true
 fn:=λ_=>false
 pn:=[]
 xe:=λe s'=>wpAny (model P w) (A.deeper env) (leaving env e) (λ_ s''=>CXE P w outer H s E e s'') (λe' s''=>CXE P w outer H s E e' s'') s'
abbrev qb9(scope:Scope)(L:Addr)(av:List (Str×Addr))(qual:Str)(f c':Addr):Env:=newEnv scope L mainGlobals av (qual++ ".<locals>.") (some f) (.ref c') none builtinsNs
theorem qvu{P:Program}{w:World}{K:W.Frag}{mg:Str->Option Value}{base:Heap}{N:List Str}{scope:Scope}{L:Addr}{av:List (Str×Addr)}{qual:Str}{f c':Addr}{A:Around}{outer:List Env}{s:Shared}{H:Hp}{E E1:XK}(h: ∀C H',E1 (.ref C) none H'->E (.ref C) none H'):qaI (CXE P w) (qgp P w K mg base N (qb9 scope L av qual f c') A outer s H E) E1:=
 λZ σ H1 s1 e s' I ⟨C,H',a,t,B,he,F,q⟩=>by subst he;exact Vc (Fly.leave rfl rfl rfl I F) (λ_ s'' F'=>⟨C,H',a,t,B,rfl,F',h C H' q⟩) λ_ _ x=>x
theorem qpx{P:Program}{w:World}{K:W.Frag}{mg:Str->Option Value}{base:Heap}{k:Nat}{A:Around}{outer:List Env}{s:Shared}{H:Hp}{Q:VK}{E:XK}{f c':Addr}{qual:Str}{params:Arguments}{body:Expr}{scope:Scope}{av:List (Str×Addr)}{pm aE:Value}{N:List Str}{σ:St}{t:TE}(hr:qbb k A)(e0:qlf P w K mg base A outer s H)(hf:s.heap.get? f=some (W.kla_obj "<lambda>" qual params body scope av pm c' aE))(aK:s.heap.CodeRec (.ref c') qual)(hk:scope.kind= .function)(gv:scope.isCoroutine=false)(cz:scope.isGenerator=false)(ai: ∀y∈scope.names,y.2≠.cell)(hb:bindArgs (W.kla_fn "<lambda>" qual params body scope av pm (.ref c') aE) ⟨[],[]⟩=pure [])(inj: ∀x y c,av.lookup x=some c->av.lookup y=some c->x=y)(has: ∀x,scope.names.lookup x=some .free->∃c,av.lookup x=some c)(cl: ∀x c,av.lookup x=some c->(∃v,s.heap.IsCell c v)/\H c=none)(val: ∀(i:Nat)(x:Str)(v:V),N[i]? =some x->σ[i]? =some (some v)->scope.names.lookup x=some .free/\∃c u,av.lookup x=some c/\s.heap.IsCell c (some u)/\RelV v u)(len:σ.length=N.length)(au:PE (qgp P w K mg base N (qb9 scope s.heap.objs.size av qual f c') A outer s H E) body t)(ht:t σ H Q):
  codeAny (model P w) A (.call (.ref f) ⟨[],[]⟩) (CR (CXE P w) outer P w H s Q E) s:=by
 have lim:=e0.mod.nolimit.keeps λb o e=>(e0.bs b o e).1;refine W.kla_callFunE hr.depth hf rfl gv cz rfl aK ?_;rw[hb];refine Vb (wpAny_newFunctionEnv ai (λy hy=>nomatch hy) (λh1 hn hs=> ?_) hk);have kp: ∀b o,s.heap.get? b=some o->h1.get? b=some o:=λb o e=>(hs.2 b (Vn (Vi e))).trans (Vg _ e);refine⟨lim.keeps kp,W.kla_codeExpr ?_⟩;have cK: ∀b:Addr,b∉([]):=λb z=>nomatch z;have I:Inv (qgp P w K mg base N (qb9 scope s.heap.objs.size av qual f c') A outer s H E) [] σ H { s with heap:=h1,toks:=s.toks+([]:List (Str×Value)).length }:=by
  refine⟨⟨e0.mod,hk,rfl,rfl,Vl _,inj,λy hy=> ?_,λy c z=>(by cases z),λ_=>hr.hd,Around.frames_deeper e0.frames,.inr ⟨rfl,rfl⟩,λb z=>absurd z (cK b),e0.bs,e0.bsz,λb _ _=>cK b,λb z=>absurd z (cK b),e0.funs,e0.frf⟩,
   rfl,e0.bare,Un.kept kp,⟨_,hn,λi y v bT h2 h3=> ?_⟩,λy c h=> ?_,e0.hok.fresh (Vl _),λy c h=>(cl y c h).2,λp hp=>absurd (show p∈([]) from hp) (by simp),e0.hok.kept kp,len⟩
  ·rcases hy with hy|hy
   ·exact absurd rfl (ai _ (Vu hy))
   ·exact has y hy
  ·obtain⟨k1,c,u,k2,k3,k4⟩:=val i y v bT h2;exact⟨u,k4,.inr ⟨.inr k1,c,k2,k3.keeps kp⟩⟩
  ·obtain⟨v,q⟩:=(cl y c h).1;exact⟨v,q.keeps kp⟩
 exact Vc (au [] _ σ H Q I ht) (λu s' ⟨v,H',J,r,q⟩=>⟨v,H',J.os,J.bare,J.base,J.hok,r,q⟩) λe s' z=>z
theorem qta{CX:CXT}{P:Program}{w:World}{K:W.Frag}{mg:Str->Option Value}{base:Heap}{k:Nat}{f:Addr}{name qual:Str}{params:Arguments}{body:List Stmt}{scope:Scope}{dV kV doc pm cdv ct oc:Value}{an od:Option Addr}{osl:Array (Option Value)}{N ps:List Str}(lk:K.lookup f=some ⟨oc,od,.func (W.fnOf name qual params body scope dV kV doc pm an cdv ct),osl⟩)(aK:W.codeIn K cdv qual=true)(S:qbz N ps scope){A:Around}{outer:List Env}{s:Shared}{H:Hp}{args:Args}{us:List Value}{vs:List V}{Q:VK}{E:XK}(hr:qbb (k+1) A)(e0:qlf P w K mg base A outer s H)(hb:BindsTo s (W.fnOf name qual params body scope dV kV doc pm an cdv ct) args (ps.zip us))(r:qau vs us)(hl:vs.length=ps.length)(au:qbb k (A.deeper (envOfC qual scope s.heap.objs.size f cdv))->∃t,PSs (qfv CX P w K mg base N qual scope f cdv A outer s H E) body t/\t { nx:=λ_ H'=>Q .non H',rt:=Q } (start N vs) H):
  codeAny (model P w) A (.call (.ref f) args) (CR CX outer P w H s Q E) s:=by
 have KX:=e0.mod.kin.keeps λb o e=>(e0.bs b o e).1;have lim:=e0.mod.nolimit.keeps λb o e=>(e0.bs b o e).1;have bw: ∀y∈ps.zip us,scope.names.lookup y.1=some _\/(scope.names.lookup y.1=some _/\((cellsFrom (s.heap.objs.size+1) _ []).lookup y.1).isSome=true):=λ⟨n,v⟩ hy=>by
  rcases S.par n (List.of_mem_zip hy).1 with q|q
  ·exact .inl q
  ·exact .inr ⟨q,W.cellsFrom_some _ _ _ (.inl q)⟩
 refine codeAny_call_function hr.depth (KX _ _ lk) rfl S.co S.gen rfl (W.codeRec_of KX aK) (hb _ _ _ _ ?_);refine wpAny_newFunctionEnv_cells S.kind bw λenv he s1 x=> ?_;subst he;refine⟨lim.keeps x.toInCall.keep,codeAny_func ?_⟩;obtain⟨t,ht,hq⟩:=au (hr.deeper _);have I:Inv (qfv CX P w K mg _ N _ _ f cdv A _ s H E) [] _ H s1:=qc4 S hr.hd e0 hl r x;refine Vc (ht [] s1 _ H _ I hq) (λfl s' hs=> ?_) λe s' hs=>hs;cases fl with
 |ret u=>obtain⟨v,ae,H',J,rv,q⟩:=hs;exact⟨v,H',J.os,J.bare,J.base,J.hok,rv,q⟩
 |next=>obtain⟨ae,H',J,q⟩:=hs;exact⟨V.non,H',J.os,J.bare,J.base,J.hok,rfl,q⟩
 |brk|cont=>obtain⟨_,_,_,q⟩:=hs;exact False.elim q
structure qnn(k:Nat)(A:Around):Prop where
 dp:A.depth+3*k+5<recursionLimit
 un:A.units+16*k+200<cLine
noncomputable def cxN(P:Program)(w:World)(K:W.Frag)(mg:Str->Option Value)(base:Heap)(N:List Str)(qual:Str)(scope:Scope)(f:Addr)(cd:Value)(A:Around)(outer:List Env)(s:Shared)(H:Hp):Cx:=
 { qfv CX0 P w K mg base N qual scope f cd A outer s H (λ_ _ _=>False) with calm:=false,xe:=λ_ _=>False }
structure FnN(P:Program)(w:World)(K:W.Frag)(mg:Str->Option Value)(base:Heap)(k:Nat)(f:Addr)(fd:FuncData)(ps:List Str)(sp:List V->Hp->VK->Prop):Prop where
 len: ∀vs H Q,sp vs H Q->vs.length=ps.length
 run: ∀(A:Around)(outer:List Env)(s:Shared)(H:Hp)(args:Args)(us:List Value)(vs:List V)(Q:VK),qnn k A->qlf P w K mg base A outer s H->BindsTo s fd args (ps.zip us)->qau vs us->sp vs H Q->
  codeAny (model P w) A (.call (.ref f) args) (CR CX0 outer P w H s Q (λ_ _ _=>False)) s
theorem qtc{P:Program}{w:World}{K:W.Frag}{mg:Str->Option Value}{base:Heap}{k:Nat}{x qual:Str}{st:Stmt}{f:Addr}{fd:FuncData}{N ps:List Str}{sp:List V->Hp->VK->Prop}(F:Fun K x qual st f fd)(S:qbz N ps (qad st))(len: ∀vs H Q,sp vs H Q->vs.length=ps.length)(au: ∀(cdv:Value)(A:Around)(outer:List Env)(s:Shared)(H:Hp)(vs:List V)(Q:VK),qnn k (A.deeper (envOfC qual (qad st) s.heap.objs.size f cdv))->sp vs H Q->
   ∃t,PSs (cxN P w K mg base N qual (qad st) f cdv A outer s H) (qaA st) t/\t { nx:=λ_ H'=>Q .non H',rt:=Q } (start N vs) H):FnN P w K mg base (k+1) f fd ps sp:=by
 obtain⟨oc,od,kV,doc,pm,an,cdv,ct,osl,rfl,lk,aK⟩:=F.ex;refine⟨len,λA outer s H args us vs Q hr e0 hb r cL=> ?_⟩;have hl:=len _ _ _ cL;have KX:K.In s.heap:=e0.mod.kin.keeps λb o e=>(e0.bs b o e).1;have lim:s.heap.NoLimit:=e0.mod.nolimit.keeps λb o e=>(e0.bs b o e).1;have bw: ∀y∈ps.zip us,(qad st).names.lookup y.1=some .local\/((qad st).names.lookup y.1=some .cell/\((cellsFrom (s.heap.objs.size+1) (qad st).names []).lookup y.1).isSome=true):=λ⟨n,v⟩ hy=>by
  rcases S.par n (List.of_mem_zip hy).1 with q|q
  ·exact .inl q
  ·exact .inr ⟨q,W.cellsFrom_some _ _ _ (.inl q)⟩
 refine codeAny_call_function (by have:=hr.dp;omega) (KX _ _ lk) rfl S.co S.gen rfl (W.codeRec_of KX aK) (hb _ _ _ _ ?_);refine wpAny_newFunctionEnv_cells S.kind bw λenv he s1 x=> ?_;subst he;refine⟨lim.keeps x.toInCall.keep,codeAny_func ?_⟩;obtain⟨t,ht,hq⟩:=au cdv A outer s H vs Q ⟨by have:=hr.dp;show A.depth+1+3*k+5<_;omega,by have:=hr.un;show A.units+3+16*k+200<_;omega⟩ cL;have I0:Inv (qfv CX0 P w K mg base N qual (qad st) f cdv { A with handled:=none } outer s H (λ_ _ _=>False)) [] (start N vs) H s1:=qc4 S rfl ⟨e0.frames,e0.mod,e0.bs,e0.bsz,e0.funs,e0.frf,e0.hok,e0.bare⟩ hl r x;have ok:=I0.ok;have I:Inv (cxN P w K mg base N qual (qad st) f cdv A outer s H) [] (start N vs) H s1:=⟨⟨ok.mod,ok.kind,ok.glob,ok.blt,ok.above,ok.inj,ok.has,ok.cab,(λz=>by cases z),Around.frames_deeper e0.frames,ok.stk,ok.exf,ok.bs,ok.bsz,ok.noex,ok.exfs,ok.funs,ok.frf⟩,I0.os,I0.bare,I0.base,I0.loc,I0.cell,I0.free,I0.freeC,I0.pin,I0.hok,I0.len⟩
 refine Vc (ht [] s1 (start N vs) H _ I hq) (λfl s' hs=> ?_) λe s' hs=>hs.elim;cases fl with
 |ret u=>obtain⟨v,ae,H',J,rv,q⟩:=hs;exact⟨v,H',J.os,J.bare,J.base,J.hok,rv,q⟩
 |next=>obtain⟨ae,H',J,q⟩:=hs;exact⟨V.non,H',J.os,J.bare,J.base,J.hok,rfl,q⟩
 |brk|cont=>obtain⟨_,_,_,q⟩:=hs;exact False.elim q
theorem qlZ{ps:List Str}{x:Str}(F:FnN X.prog X.w X.K X.mg X.base k f fd ps sp)(hr:qnn k X.A)(hg:Gl X x)(hm:X.mg x=some (.ref f))(hk:W.keepIn X.K (.ref f)=true)(hb:qa0 X.K fd ps [])(ha:PA X (e::es) t)(aJ:(x==("__debug__" :Str))=false:=by decide)(he:starEach (e::es) X.env=(false,eval e X.env)::starEach es X.env:=by rfl)(az:(backTo pos (starEach es X.env)).any (·.1)=false:=by rfl):
  PE X (.Call (.Name x p) (e::es) [] pos) (λσ H Q=>t σ H λvs H1=>sp vs H1 Q):=by
 intro Z s σ H Q I h;refine Vf (qbi I hg hm ?_ aJ);refine W.callWith_K I.ok.mod.kin hk (thn (ha pos _ s σ H _ I h) λus s1 ⟨vs,H1,I1,r,q⟩=>⟨I1.kIn,?_⟩) he az;have hl:us.length=ps.length:=by rw[<-r.length];exact F.len _ _ _ q
 have a8:=hb s1 us I1.kIn (by grind);rw[List.append_nil] at a8;refine wpAny_call (codeAny_mono (F.run X.A _ s1 H1 _ us vs Q hr I1.env0 a8 r q) λr s' hq=> ?_);cases r with
 |error e=>exact False.elim hq
 |ok fl=>
  cases fl with
  |ret u=>exact I1.after hq
  |next|brk|cont=>exact False.elim hq
noncomputable def qrb(base:Heap)(CA:Addr)(wd:Addr->Option Str)(Q:VK):XK:=λv _ H'=> ∃C bm x,v= .ref C/\qdm base C bm/\(Value.ref C::bm).contains (.ref CA)=true/\wd C=some x/\∀bg:Hp,(∀b o,H' b=some o->bg b=some o)->Q (.str x) bg
noncomputable def qh3(base:Heap)(wd:Addr->Option Str):List V->Hp->VK->Prop:=λvs H Q=> ∃a C bm x,vs=[.ref a]/\H a=some (ExO a C)/\qdm base C bm/\wd C=some x/\∀H':Hp,(∀b o,H b=some o->H' b=some o)->Q (.str x) H'
noncomputable def quO(P:Addr)(qual:Str)(ob:Addr->Value->Obj)(base:Heap)(CA:Addr)(wd:Addr->Option Str)(fr:List (Str×Nat))(t:XK->TE):TE:=λσ H Q=>qgH P qual H/\
 ∀(f c':Addr)(aE:Value)(H':Hp),qgH P qual H'->qfL P H H'->(∀b,H b≠none->H' b≠none)->H f=none->H' f=some (qqZ f (ob c' aE))->H' c'=some (qdq c' qual)->t (qrb base CA wd Q) (qbs [] fr σ) H' Q
structure qlc(z:Str)(st:Stmt):Prop where
 sc:qbz [z, "e"] [z] (qad st)
 bd: ∃p1 p2 p3 p4 p5 p6 p7 p8 p9 jw,qaA st=[.Try [.Return (some (.Call (.Name z p1) [] [] p2)) p3] [.ExceptHandler (some (.Name "AskError" p4)) (some "e") [.Return (some (.Call (.Name "_law_class" p5) [.Name "e" p6] [] p7)) p8] p9] [] [] jw]
 d:(qad st).names.lookup z=some .local
 e:(qad st).names.lookup ("e" :Str)=some .local
 a:(qad st).names.lookup ("AskError" :Str)=some .globalImplicit
 c:(qad st).names.lookup ("_law_class" :Str)=some .globalImplicit
section
variable{qual:Str}
theorem qoW{X:Cx}{st:Stmt}{fT:Addr}{fC:Addr}{CA:Addr}{P:Addr}{fdT:FuncData}{fdC:FuncData}{bmA:List Value}{wd:Addr->Option Str}{params:Arguments}{body:Expr}{scope:Scope}{ck:Pos}{p:Pos}{pos:Pos}{fr:List (Str×Nat)}{t:XK->TE}{k:Nat}{z:Str}(T:qlc z st)(F:Fun X.K "_law_told" "_law_told" st fT fdT)(hmT:X.mg "_law_told" =some (.ref fT))(bL:qa0 X.K fdT [z] [])(iR:Gl X "_law_told")(hA:X.mg "AskError" =some (.ref CA))(hEA:qdm X.base CA bmA)(GC:FnN X.prog X.w X.K X.mg X.base 1 fC fdC ["_law_kept"] (qh3 X.base wd))(mC:X.mg "_law_class" =some (.ref fC))(kC:PySem.W.keepIn X.K (.ref fC)=true)(bC:qa0 X.K fdC ["_law_kept"] [])(iO:PE X (.Lambda params body scope ck) (qwY P qual λc' aE=>PySem.W.kla_obj "<lambda>" qual params body scope (clOf X.env scope.names []) ((X.mg "__name__").getD .none) c' aE))(eJ: ∀x,X.fn x=true)(hk:scope.kind= .function)(gv:scope.isCoroutine=false)(cz:scope.isGenerator=false)(ai: ∀y∈scope.names,y.2≠.cell)(ag: ∀y∈scope.names,y.2= .free->X.env.kindOf y.1=some .cell\/X.env.kindOf y.1=some .free)(aY: ∀p∈fr,X.N[p.2]? =some p.1/\scope.names.lookup p.1=some .free)(hb: ∀(av:List (Str×Addr))(pm cv aE:Value),bindArgs (PySem.W.kla_fn "<lambda>" qual params body scope av pm cv aE) ⟨[],[]⟩=pure [])(hr:qbb (k+3) X.A)(au: ∀(A:Around)(outer:List Env)(s:Shared)(H:Hp)(f c':Addr)(E:XK),qbb k (A.deeper (qb9 scope s.heap.objs.size (clOf X.env scope.names []) qual f c'))->
   PE (qgp X.prog X.w X.K X.mg X.base (fr.map (·.1)) (qb9 scope s.heap.objs.size (clOf X.env scope.names []) qual f c') A outer s H E) body (t E))(tm: ∀E E' σ H Q,(∀v o H',E v o H'->E' v o H')->t E σ H Q->t E' σ H Q)(aG:starEach [.Lambda params body scope ck] X.env=(false,eval (.Lambda params body scope ck) X.env)::starEach [] X.env:=by rfl)(hz:(z==("__debug__" :Str))=false/\(z==("__classdict__" :Str))=false:=by decide):
  PE X (.Call (.Name "_law_told" p) [.Lambda params body scope ck] [] pos) (quO P qual (λc' aE=>PySem.W.kla_obj "<lambda>" qual params body scope (clOf X.env scope.names []) ((X.mg "__name__").getD .none) c' aE) X.base CA wd fr t):=by
 intro Z s σ H Q I h;obtain⟨tab,h⟩:=h;refine Vf (qbi I iR hmT ?_ (by decide))
 refine PySem.W.callWith_K (h₀:=X.base) I.ok.mod.kin F.kp (thn ((qaW iO qbp aG) pos Z s σ H (λvs H1=> ∃f c' aE,vs=[.ref f]/\H1 f=some (qqZ f (PySem.W.kla_obj "<lambda>" qual params body scope (clOf X.env scope.names []) ((X.mg "__name__").getD .none) c' aE))/\H1 c'=some (qdq c' qual)/\t (qrb X.base CA wd Q) (qbs [] fr σ) H1 Q) I
  ⟨tab,λf c' aE H' a1 a2 a3 a4 a5 a6=>⟨f,c',aE,rfl,a5,a6,h f c' aE H' a1 a2 a3 a4 a5 a6⟩⟩) λus s1 ⟨vs,H1,I1,r,q⟩=>⟨I1.kIn,?_⟩) aG rfl
 obtain⟨f,c',aE,rfl,hf,hc,q⟩:=q;obtain⟨u,rfl,ru⟩:=qcd r;cases ru;obtain⟨oc,od,kV,doc,pm,an,cdv,ct,osl,rfl,lk,aK⟩:=F.ex;have a8:=bL s1 [.ref f] I1.kIn rfl;rw[List.append_nil] at a8;obtain⟨p1,p2,p3,p4,p5,p6,p7,p8,p9,jw,hbd⟩:=T.bd;refine wpAny_call (codeAny_mono (qta (CX:=CX0) (E:=λ_ _ _=>False) (Q:=Q) lk aK T.sc hr I1.env0 a8 r rfl λgO=> ?_) λr s' hq=> ?_)
 rotate_left
 ·cases r with
  |error e=>exact False.elim hq
  |ok fl=>
   cases fl with
   |ret u=>exact I1.after hq
   |next|brk|cont=>exact False.elim hq
 rw[hbd];generalize hY:(qfv CX0 X.prog X.w X.K X.mg X.base [z, "e"] "_law_told" (qad st) fT cdv X.A X.stack s1 H1 (λ_ _ _=>False)).nox=Y;have jh: ∀(bq:List (Addr×Obj))(W:St->Addr->Hp->Prop),PE (Y.hold bq (XE Y bq W)) (.Call (.Name z p1) [] [] p2) (λae H' Q'=>ae[0]? =some (some (.ref f))/\H'=H1/\t (eW W ae) (qbs [] fr σ) H1 Q'):=by
  subst hY;intro bq W br s2 ae H2 Q' I2 hq;obtain⟨e0,rfl,ht⟩:=hq;refine Vf (thn (qg9 (i:=0) rfl (.inl T.d) hz.1 hz.2 br s2 ae H2 (λv H3=>v= .ref f/\H3=H2) I2 ⟨_,e0,rfl,rfl⟩) λu s3 ⟨v,H3,I3,rv,ev,eH⟩=> ?_);subst ev eH;cases rv;have ho:s3.heap.get? f=some (PySem.W.kla_obj "<lambda>" qual params body scope (clOf X.env scope.names []) ((X.mg "__name__").getD .none) c' aE):=(I3.hok f _ hf).1;have hcr:s3.heap.CodeRec (.ref c') qual:=(I3.hok c' _ hc).1;refine PySem.W.callWith_F0 ⟨_,_,_,_,ho⟩ ?_;have I0:=I3.unhold;have cs: ∀x c,X.env.cells.lookup x=some c->∀v,s1.heap.IsCell c v->s3.heap.IsCell c v:=λx c e v ⟨o,h1,h2⟩=>by
   refine⟨o,I0.base.keep c o h1 (I1.freeC x c e) (λhb=> ?_) (λz=>nomatch z),h2⟩
   rcases List.mem_cons.mp (I1.stkSub c hb) with z|z
   ·exact I1.cne x c e z
   ·obtain⟨_,o',e',_⟩:=I1.ok.funs.mem z;have:=I1.ok.cab x c (eJ x) e;exact absurd (Vi e') (Nat.not_lt.mpr this)
  have ay: ∀x c,(clOf X.env scope.names []).lookup x=some c->X.env.cells.lookup x=some c:=λx c=>qeu _ _ (λ_ _ z=>by cases z);have hB:=au (X.A.deeper (envOfC "_law_told" (qad st) s1.heap.objs.size fT cdv)) (envOfC "_law_told" (qad st) s1.heap.objs.size fT cdv::X.stack) s3 H3 f c' (eW W ae) ((qbb.deeper gO _).mono (by omega));have e0:qlf X.prog X.w X.K X.mg X.base (X.A.deeper (envOfC "_law_told" (qad st) s1.heap.objs.size fT cdv)) (envOfC "_law_told" (qad st) s1.heap.objs.size fT cdv::X.stack) s3 H3:=I3.env0;refine wpAny_call (codeAny_mono (qpx (k:=k) (σ:=qbs [] fr σ) (Q:=Q') (gO.mono (by omega)) e0 ho hcr hk gv cz ai (hb _ _ _ _) (λx y c h1 h2=>I1.ok.inj x y c (ay _ _ h1) (ay _ _ h2)) (λx hx=> ?_) (λx c h1=> ?_) (λi x v h1 h2=> ?_) ?_ hB ht) λr s' hq=> ?_)
  ·obtain⟨c,hc⟩:=I1.ok.has x (ag _ (Vu hx) rfl);exact⟨c,qbx _ _ hc (.inr (Vu hx))⟩
  ·have e:=ay _ _ h1;obtain⟨v,hv⟩:=I1.cell x c e;exact⟨⟨v,cs x c e v hv⟩,I1.freeC x c e⟩
  ·rw[List.getElem?_map] at h1;cases q1:fr[i]? with
   |none=>rw[q1] at h1;cases h1
   |some pr=>
    rw[q1] at h1;cases h1;obtain⟨g1,g2⟩:=aY pr (Vt q1);unfold qbs at h2;rw[List.map_nil,List.nil_append,List.getElem?_map,q1] at h2;have e2:σ[pr.2]? =some (some v):=by
     have h2:(σ[pr.2]?).join=some v:=Option.some.inj h2;cases q2:σ[pr.2]? with
     |none=>rw[q2] at h2;cases h2
     |some o=>rw[q2] at h2;cases o with
      |none=>cases h2
      |some y=>cases h2;rfl
    have jK:=ag _ (Vu g2) rfl;obtain⟨m,hn,hl⟩:=I1.loc;obtain⟨u,ru,l⟩:=hl pr.2 pr.1 v g1 e2 (.inr jK)
    rcases l with⟨z,_⟩|⟨_,c,e6,hv⟩
    ·rcases jK with y|y<;>(rw[y] at z;cases z)
    ·exact⟨g2,c,u,qbx _ _ e6 (.inr (Vu g2)),cs _ c e6 _ hv,ru⟩
  ·unfold qbs;simp
  ·cases r with
   |error e=>obtain⟨C,H',a,t',B,he,F',C',hC',w⟩:=hq;cases hC';exact⟨ae,_,s3,C,H',a,t',B,he,I0,F',w⟩
   |ok fl=>
    cases fl with
    |ret u=>exact I3.after hq
    |next|brk|cont=>exact False.elim hq
 have cls: ∀a,PE (Y.within a) (.Call (.Name "_law_class" p5) [.Name "e" p6] [] p7) (λae H' Q'=>qeG (qqT 1) qqU ae H' λvs H2=>qh3 X.base wd vs H2 Q'):=λa=>by
  subst hY;have e1:((X.A.deeper (envOfC "_law_told" (qad st) s1.heap.objs.size fT cdv)).mark (some (.ref a))).depth=(X.A.deeper (envOfC "_law_told" (qad st) s1.heap.objs.size fT cdv)).depth:=rfl;have e2:((X.A.deeper (envOfC "_law_told" (qad st) s1.heap.objs.size fT cdv)).mark (some (.ref a))).units=(X.A.deeper (envOfC "_law_told" (qad st) s1.heap.objs.size fT cdv)).units:=rfl;have d1:=gO.dp;have d2:=gO.un;have rn:qnn 1 ((X.A.deeper (envOfC "_law_told" (qad st) s1.heap.objs.size fT cdv)).mark (some (.ref a))):=⟨by rw[e1];omega,by rw[e2];omega⟩
  exact qlZ GC rn T.c mC kC bC (qaW (qg9 (i:=1) rfl (.inl T.e)) qbp)
 have stk:Y.stack=Y.env::Y.outer:=by subst hY;rfl
 have frm:Y.env.frame=some Y.env.locals:=by subst hY;rfl
 have nd:Y.N.Nodup:=by subst hY;exact T.sc.nd
 have n1:Y.N[1]? =some ("e" :Str):=by subst hY;rfl
 have kd:Y.env.kindOf "e" =some .local:=by subst hY;exact T.e
 have ga:Gl Y "AskError" :=by subst hY;exact T.a
 have ma:Y.mg "AskError" =some (.ref CA):=by subst hY;exact hA
 have ea:qdm Y.base CA bmA:=by subst hY;exact hEA
 have bs:Y.base=X.base:=by subst hY;rfl
 refine⟨_,PSs.nox (by rw[hY];exact qcU (qoN (X:=Y) (i:=1) stk frm nd n1 kd ga ma ea (λbq W=>qcU (qeV (jh bq W))) (λa=>qcU (qeV (cls a))))),?_⟩;refine⟨rfl,rfl,?_⟩;refine tm _ _ _ _ _ (λv o H' hx=> ?_) q;obtain⟨C,bm,x,rfl,h1,h2,h3,h4⟩:=hx;refine⟨C,rfl,bm,bs▸h1,h2,λa ha=>⟨.ref a,rfl,a,C,bm,x,rfl,qae,h1,h3,λbg s'=>h4 bg λb u e=>s' b u ?_⟩⟩;rw[qac (qaj e ha)];exact e
end
end L2
namespace PL
open PySem L2 SR SetL
theorem passI{N:List Str}{qual:Str}:qaI (CXE P w) (qfv (CXE P w) P w K mg base N qual scope f cd A outer s H E) E:=qvv λ_ _ h=>h
theorem passLI{N:List Str}{qual:Str}:qaI (CXE P w) (qgp P w K mg base N (qb9 scope L av qual f c') A outer s H E) E:=qvu λ_ _ h=>h
section
variable{qual:Str}
theorem tabq_same(h:qgH Q qual H)(hP:H P=some (.tbl ps))(ne:Q≠P)(s:qfL P H H2):qgH Q qual H2:=by obtain⟨qs,h1,h2,h3⟩:=h;refine⟨qs,s _ _ h1 ne,h2,λpos v e=> ?_⟩;obtain⟨c,e1,e2⟩:=h3 pos v e;exact⟨c,e1,s _ _ e2 λz=>by rw[z,hP] at e2;cases e2⟩
end
end PL
namespace HD
open PySem L2 PL
abbrev e2(x:Str)(s:Stmt):Str×Stmt:=(x,s)
abbrev c2(x:Str)(n:Int):Str×Int:=(x,n)
noncomputable def qwl(K:W.Frag)(x:Str):Option (Addr×Obj):=match W.nsIn K mainGlobals x with
 |some (some (.ref f))=>(match K.lookup f with|some o=>some (f,o)|none=>none)
 |_=>none
noncomputable def qpX(K:W.Frag)(x:Str):Option FuncData:=match qwl K x with
 |some (_,⟨_,_,.func fd,_⟩)=>some fd
 |_=>none
noncomputable def okD(K:W.Frag)(x:Str):Bool:=match qwl K x with
 |some (f,⟨_,_,.func fd,_⟩)=>W.codeIn K fd.code x&&W.keepIn K (.ref f)
 |_=>false
noncomputable def due(x:Str)(st:Stmt)(fd:FuncData):FuncData:=W.fnOf x x (qap st) (qaA st) (qad st) .none fd.kwdefaults fd.doc fd.pyModule fd.annotations fd.code fd.closureTuple
noncomputable def okN(K:W.Frag)(x:Str):Bool:=match W.nsIn K mainGlobals x with
 |some none=>true
 |_=>false
noncomputable def Df(K:W.Frag)(mg:Str->Option Value)(x:Str)(st:Stmt):Prop:=
 ∃(f:Addr)(oc:Value)(od:Option Addr)(osl:Array (Option Value))(kV doc pm:Value)(an:Option Addr)(cdv ct:Value),
  K.lookup f=some ⟨oc,od,.func (W.fnOf x x (qap st) (qaA st) (qad st) .none kV doc pm an cdv ct),osl⟩/\W.codeIn K cdv x=true/\W.keepIn K (.ref f)=true/\mg x=some (.ref f)/\
   W.nsIn K mainGlobals x=some (some (.ref f))
section
variable{x:Str}
theorem qwr(X:K.In h)(G:h.Ns mainGlobals mg)(a:okD K x=true)(e:qpX K x=(qpX K x).map (due x st)):Df K mg x st:=by
 unfold okD at a;unfold qpX at e;split at a
 ·rename_i f oc od fd osl q;rw[q] at e;have e:=Option.some.inj e;unfold qwl at q;split at q
  ·rename_i f' n;split at q
   ·rename_i o lk;cases q;have a:=Bool.and_eq_true_iff.mp a;exact⟨_,_,_,_,fd.kwdefaults,fd.doc,fd.pyModule,fd.annotations,fd.code,fd.closureTuple,by rw[lk,show W.fnOf x x _ _ _ _ _ _ _ _ _ _=fd from e.symm],a.1,a.2,W.mg_of X G n,n⟩
   ·cases q
  ·cases q
 ·cases a
theorem qkE{K:W.Frag}{h:Heap}{tb:List (Str×Stmt)}(X:K.In h)(G:h.Ns mainGlobals mg)(a:(tb.all λp=>okD K p.1)=true)(e:tb.map (λp=>qpX K p.1)=tb.map λp=>(qpX K p.1).map (due p.1 p.2)): ∀(i:Nat)(x:Str)(st:Stmt),tb[i]? =some (x,st)->Df K mg x st:=λi x st hi=>by have a:=List.all_eq_true.mp a _ (Vt hi);have e:=congrArg (λl=>l[i]?) e;simp only[List.getElem?_map,hi] at e;exact qwr X G a (Option.some.inj e)
theorem qpj(X:K.In h)(G:h.Ns mainGlobals mg){l:List Str}(a:l.all (okN K)=true): ∀x∈l,mg x=none:=λx hx=>by
 have a:=List.all_eq_true.mp a x hx;unfold okN at a;split at a
 ·rename_i q;exact W.mg_none_of X G q
 ·cases a
end
noncomputable def tOf(K:W.Frag)(y:Str):Addr:=((W.tabIn K y).getD (0,0)).2
noncomputable def qgr(K:W.Frag)(ys:List Str):List (Addr×Addr):=ys.map λy=>(W.tabIn K y).getD (0,0)
noncomputable def okT(K:W.Frag)(ys:List Str):Bool:=decide (ys.map (tOf K)).Nodup&&ys.all λy=>match W.tabIn K y with
 |some (_,T)=>(match K.lookup T with|none=>true|some _=>false)
 |none=>false
theorem qmW{ys:List Str}(h:okT K ys=true):ys.map (W.tabIn K)=(qgr K ys).map some/\(∀T∈(qgr K ys).map (·.2),K.lookup T=none)/\(ys.map (tOf K)).Nodup:=by
 have h:=Bool.and_eq_true_iff.mp h;have nd:=of_decide_eq_true h.1;have h:=List.all_eq_true.mp h.2;refine⟨?_,?_,nd⟩
 ·unfold qgr;rw[List.map_map];refine List.map_congr_left λy hy=> ?_;have:=h y hy;show W.tabIn K y=some ((W.tabIn K y).getD _);cases q:W.tabIn K y with
  |none=>simp_all
  |some p=>rfl
 ·intro T hT;obtain⟨p,hp,rfl⟩:=List.mem_map.mp hT;obtain⟨y,hy,rfl⟩:=List.mem_map.mp hp;have:=h y hy;cases q:W.tabIn K y with
  |none=>simp_all
  |some p=>
   rw[q] at this;dsimp only at this;split at this
   ·assumption
   ·cases this
end HD
namespace DH
open PySem PySem.Spec PyProof.Rows PySem.W
noncomputable def RawD(h:Heap)(d:Addr)(es:Array DictEntry)(ep:Nat):Prop:= ∃o,h.get? d=some o/\o.ExactDict/\o.data= .dict es ep
theorem RawD.at(x:RawD h d es ep)(k: ∀o,h.get? d=some o->h'.get? d=some o):RawD h' d es ep:=let ⟨o,a,b⟩:=x;⟨o,k o a,b⟩
theorem RawD.lt(x:RawD h d es ep):d<h.objs.size:=let ⟨_,a,_⟩:=x;Vi a
theorem RawD.ty{s:Shared}{ep:Nat}(x:RawD s.heap d es ep):s.TypeIs (.ref d) "dict" :=let ⟨o,a,b,_⟩:=x;⟨o,a,b.1⟩
theorem qvX{s:Shared}{es:Array DictEntry}{ep:Nat}(lo:(d==sysModules)=false)(x:RawD s.heap d es ep)(q:Q (.ref s.heap.objs.size) { s with heap:=s.heap.push { cls:=.type "dict_keyiterator",data:=.fields #[.ref d,.int 0 0,.int es.size 0,.int ep 0] } }):wpAny (model prog w) A (pyIter (.ref d)) Q E s:=by obtain⟨o,ho,hx,hd⟩:=id x;have ty:=x.ty;refine wpAny_pyIter_slot ty F.slot_dict_iter (wpAny_call_entry F.slot_dict_iter ty F.entry_dict_iter ?_ (F.args_dict_iter_1 _));refine Va ?_;refine Va (wpAny_notOrdered_dict ty ?_);refine Vb ?_;show wpAny _ _ (Builtin.Dict.showsAll d>>=_) _ _ s;unfold Builtin.Dict.showsAll;rw[if_neg (by grind)];refine Va (Vb ?_);refine Va (wpAny_dictEntries ho hd (Va (wpAny_dictEpoch ho hd ?_)));exact Va (wpAny_newObj_type (Vb ⟨_,rfl, "dict_keyiterator",_,⟨_,Vh _ rfl,rfl⟩,F.slot_dict_keyiterator_next.lookup,by simpa [rawInt] using q⟩))
theorem qvO(hi:s.heap.IsKeyIter it d i es.size ep)(x:RawD s.heap d es ep)(lt:i<es.size)(q: ∀h',h'.IsKeyIter it d (i+1) es.size ep->Heap.SameBut it s.heap h'->Q (some es[i].key) { s with heap:=h' }):wpAny (model prog w) A (pyNext (.ref it)) Q E s:=by
 obtain⟨o,ho,hc,hd⟩:=id hi;obtain⟨od,aV,gM,hd2⟩:=id x;have ty:=hi.typeIs;unfold pyNext;refine Va (wpAny_attempt (wpAny_callSpecial?_slot (name:=Str.ofString "__next__") ty F.slot_dict_keyiterator_next (wpAny_call_entry F.slot_dict_keyiterator_next ty F.entry_dict_keyiterator_next ?_ (F.args_dict_keyiterator_next_1 _))));refine Va (Vb ?_);refine Va ?_;refine Va ?_
 first|refine Va (wpAny_typeNameOfWhole_keyiter ty (Vb ?_))|refine Va (wpAny_typeNameOf_keyiter ty (Vb ?_))
 refine Va (wpAny_fieldsOf ho hd ?_);have ow:Builtin.Dict_items.ownsTuple "dict_keyiterator" =false:=by decide
 simp only[ow,Bool.false_eq_true,if_false];show wpAny _ _ (if(Value.ref d==Value.none)=true then _ else _) _ _ s;rw[if_neg (show ¬((Value.ref d==Value.none)=true) from Bool.false_ne_true)];refine Va (Vb ?_);refine Va (wpAny_dictEntries aV hd2 ?_);rw[if_neg (by simp)];refine Va (Vb ?_);refine Va (wpAny_dictEpoch aV hd2 ?_);rw[if_neg (by simp)];refine Vb ?_;simp only[show ¬((i:Int)<0) from by omega,if_false,Int.toNat_natCast,Array.getElem?_eq_getElem lt];refine Va ?_
 first|refine Va (wpAny_typeNameOfWhole_keyiter ty (Vb ?_))|refine Va (wpAny_typeNameOf_keyiter ty (Vb ?_))
 refine Va (wpAny_isOneOf_keyiter ty ?_);show wpAny _ _ (setField (.ref it) 1 (rawInt ((i:Int)+1))>>=_) _ _ s;refine Va (wpAny_setField ho hd (by simp) ?_);have gW:(s.heap.update it (Obj.mapFields (·.setIfInBounds 1 (rawInt ((i:Int)+1))))).IsKeyIter it d (i+1) es.size ep:=⟨_,Heap.get?_update_self _ ho (Obj.isFreed_of_fields (Obj.data_mapFields hd _)),(Obj.cls_mapFields ..).trans hc,by rw[Obj.data_mapFields hd];simp[rawInt]⟩
 refine Va (wpAny_holding ?_);refine Va (wpAny_isOneOf_keyiter (s:={ s with heap:=s.heap.update it (Obj.mapFields (·.setIfInBounds 1 (rawInt ((i:Int)+1)))) }) gW.typeIs ?_);show wpAny _ _ (pure es[i].key) _ _ _;exact Vb (Vb ⟨_,rfl,Vb (q _ gW (Heap.SameBut.update ..))⟩)
theorem qyB(hh:A.handled=none)(hi:s.heap.IsKeyIter it d i es.size ep)(x:RawD s.heap d es ep)(ge:es.size<=i)(q: ∀h',Heap.ExtBut it s.heap h'->Q none { s with heap:=h' }):wpAny (model prog w) A (pyNext (.ref it)) Q E s:=by
 obtain⟨o,ho,hc,hd⟩:=id hi;obtain⟨od,aV,gM,hd2⟩:=id x;have ty:=hi.typeIs;unfold pyNext;refine Va (wpAny_attempt (wpAny_callSpecial?_slot (name:=Str.ofString "__next__") ty F.slot_dict_keyiterator_next (wpAny_call_entry F.slot_dict_keyiterator_next ty F.entry_dict_keyiterator_next ?_ (F.args_dict_keyiterator_next_1 _))));refine Va (Vb ?_);refine Va ?_;refine Va ?_
 first|refine Va (wpAny_typeNameOfWhole_keyiter ty (Vb ?_))|refine Va (wpAny_typeNameOf_keyiter ty (Vb ?_))
 refine Va (wpAny_fieldsOf ho hd ?_);have ow:Builtin.Dict_items.ownsTuple "dict_keyiterator" =false:=by decide
 simp only[ow,Bool.false_eq_true,if_false];show wpAny _ _ (if(Value.ref d==Value.none)=true then _ else _) _ _ s;rw[if_neg (show ¬((Value.ref d==Value.none)=true) from Bool.false_ne_true)];refine Va (Vb ?_);refine Va (wpAny_dictEntries aV hd2 ?_);rw[if_neg (by simp)];refine Va (Vb ?_);refine Va (wpAny_dictEpoch aV hd2 ?_);rw[if_neg (by simp)];refine Vb ?_;simp only[show ¬((i:Int)<0) from by omega,if_false,Int.toNat_natCast,Array.getElem?_eq_none ge];refine Va ?_
 first|refine Va (wpAny_typeNameOfWhole_keyiter ty (Vb ?_))|refine Va (wpAny_typeNameOf_keyiter ty (Vb ?_))
 show wpAny _ _ (setField (.ref it) 0 .none>>=_) _ _ s;refine Va (wpAny_setField ho hd (by simp) ?_);show wpAny _ _ (newExc (.type "StopIteration") []>>=_) _ _ _;refine Va ?_;simp only[newExc,newTuple];refine Va (wpAny_newObj_type ?_ (by size_fits));refine Va (m:=firstArgMember _ _) (wpAny_of_eq (a:=Value.none) (by first|rfl|(simp only[firstArgMember];rfl)) ?_);refine wpAny_newObj_type ?_ (by size_fits);simp only[raiseNew];refine Va (wpAny_handled ?_);rw[show A.in1.handled=none from hh];refine Va (Vb (wpAny_throw ?_));refine Va (wpAny_isInstance (T:= "StopIteration") (b:=true) ⟨_,Vh _ rfl,rfl⟩ isSubtype_stop ?_);exact Vb (q _ (((Heap.SameBut.update ..).extBut.push _).push _))
theorem quE(hh:A.handled=none)(I d:Addr)(ne:d≠I)(es:Array DictEntry)(ep:Nat):
  Walks prog w A I [I,d] [I] es.size (λi v=> ∃e,es[i]? =some e/\v=e.key) (λi h=>h.IsKeyIter I d i es.size ep/\RawD h d es ep) where
 sub:=λb hb=>by simp at hb;simp[hb]
 frame:=λ_ _ _ st hk=>⟨st.1.at λo e=>hk I (by simp) o e,st.2.at λo e=>hk d (by simp) o e⟩
 item:=λi s Q E hi st hQ=>qvO st.1 st.2 hi λh' a b=>hQ _ h' s.toks ⟨es[i],by simp[hi],rfl⟩ ⟨a,st.2.at λo e=>b.extBut d o ne e⟩ λc o hc e=>b.extBut c o (λz=>hc (by simp[z])) e
 done:=λs Q E st hQ=>qyB hh st.1 st.2 (Vl _) λh' b=>hQ h' s.toks λc o hc e=>b c o (λz=>hc (by simp[z])) e
 self:=λ_ _ _ _ st hQ=>wpAny_pyIter_keyiter st.1 hQ
theorem qx0{es:Array DictEntry}{ep:Nat}(lo:(d==sysModules)=false):KdlSrc prog w "dict" d d es.size (λi v=> ∃e,es[i]? =some e/\v=e.key) (λh=>RawD h d es ep) where
 type:=λ_ m=>m.ty
 there:=λ_ m=>⟨m.lt,m.lt⟩
 keep:=λ_ _ m k=>m.at λo e=>k d (.inl rfl) o e
 notList:=by decide
 notTuple:=by decide
 hint:=λ_ _ _ _ m q=>kdl_hint_dict m.ty q
 iter:=λ_ _ hh m=>⟨_,_,λ_ _ q=>qvX lo m q,quE hh _ d (Vn m.lt) es ep,⟨⟨_,Vh _ rfl,rfl,rfl⟩,m.at λo e=>Vg _ e⟩⟩
theorem collectD(hh:A.handled=none)(lo:(d==sysModules)=false)(m:RawD s.heap d es ep)(hn:es.size<=sizeLine)(h: ∀(h':Heap)(tk:Nat),(∀b o,s.heap.get? b=some o->h'.get? b=some o)->R (es.toList.map (·.key)) { s with heap:=h',toks:=tk }):wpAny (model prog w) A (collect (.ref d)) R E s:=by
 refine kdu_collect (qx0 lo) hh m hn λh' tk acc k hI=> ?_;have:acc.toList=es.toList.map (·.key):=by
  refine List.ext_getElem? λj=> ?_;rw[List.getElem?_map,Array.getElem?_toList];by_cases c:j<acc.size
  ·obtain⟨e,h1,h2⟩:=hI.2 j acc[j] (by simp[c])
   simp_all
  ·have: ¬j<es.size:=by rw[<-hI.1];exact c
   grind
 simp_all
open L2
end DH
namespace PL
open PySem L2
section
theorem dt_keys(I:L2.Inv X Z σ H s)(hp:H p=some (.dT us)): ∃(qs:List Addr)(es:Array DictEntry)(ep:Nat),DH.RawD s.heap p es ep/\(p==sysModules)=false/\us.length<=sizeLine/\es.toList.map (·.key)=qs.map Value.ref/\es.size=us.length/\qs.length=us.length/\
  ∀(j:Nat)(q:Addr),qs[j]? =some q->∃k v,us[j]? =some (k,v)/\H q=some (.tup (k.map kV)):=by
 obtain⟨hz,lo,xs,kt,o,es,ep,ho,hx,hd,he,hk,nd⟩:=qtp I.hok hp;have lx:=Paired.length kt;refine⟨xs.map (·.2.1),es,ep,⟨o,ho,hx,hd⟩,lo,hz,by rw[he,List.map_map,List.map_map];rfl,?_,by rw[List.length_map,lx],λj q e=> ?_⟩
 ·have:=congrArg List.length he
  grind
 ·have go: ∀{us:List (List Key×V)} {xs } {j:Nat} {q:Addr},KT H us xs->(xs.map (·.2.1))[j]? =some q->∃k v,us[j]? =some (k,v)/\H q=some (.tup (k.map kV)):=λ{us xs j q} kt=>by
   induction kt generalizing j with
   |nil=>intro e;cases j<;>cases e
   |cons c _ ih=>
    intro e;cases j with
    |zero=>have e:=Option.some.inj e;refine⟨_,_,List.getElem?_cons_zero,?_⟩;rw[<-e];exact c.2.1
    |succ j=>obtain⟨k,v,e1,e2⟩:=ih (j:=j) (by simpa using e);simp_all
  exact go kt e
end
open SR SetL
end PL
namespace PL
open PySem L2
noncomputable def luS{α:Type}(tbl:List (Str×α))(z:Str):Option α:=(tbl.find? λp=>decide (p.1=z)).map (·.2)
noncomputable def TopT(K:W.Frag)(mg:Str->Option Value)(w:World)(D:Str)(tbl:List (Str×Str)):Prop:=
 ∃(a:Addr)(es:Array DictEntry)(n:Nat),mg D=some (.ref a)/\K.lookup a=some ⟨.type "dict",none,.dict es n, #[]⟩/\W.KeysLit w.params es.toList/\(a==sysModules)=false/\
  ∀z,match luS tbl z with|none=>findBy Value.isStrOf es z=none|some g=> ∃f,findBy Value.isStrOf es z=some (.ref f)/\W.nsIn K mainGlobals g=some (some (.ref f))
noncomputable def esOf(K:W.Frag)(D:Str):Option (List DictEntry):=match W.nsIn K mainGlobals D with
 |some (some (.ref a))=>(match K.lookup a with|some ⟨.type "dict",none,.dict es _,sl⟩=>if(a==sysModules)=false/\sl.size=0 then some es.toList else none|_=>none)
 |_=>none
noncomputable def qtm(K:W.Frag):List DictEntry->List (Str×Str)->Bool
 |[],[]=>true
 |e::es,(k,g)::tb=>(match e.key,e.val,W.nsIn K mainGlobals g with|.str x _,.ref f,some (some (.ref f'))=>x==k&&f==f'|_,_,_=>false)&&qtm K es tb
 |_,_=>false
noncomputable def topB(K:W.Frag)(D:Str)(tbl:List (Str×Str)):Bool:=match esOf K D with
 |some es=>qtm K es tbl
 |none=>false
theorem qfr: ∀{es:List DictEntry}{tbl:List (Str×Str)},qtm K es tbl=true->es.map (·.hash)=tbl.map (λp=>PyData.keyHash P p.1)->W.KeysLit P es
 |[],[],_,_=>True.intro
 |e::es,(k,g)::tb,h,hh=>by
  have h:=Bool.and_eq_true_iff.mp h;have h1:=h.1;split at h1
  ·rename_i x t f f' e1 e2 e3;have h1:=Bool.and_eq_true_iff.mp h1;have:=by simpa using h1.1
   subst this;exact⟨⟨x,t,e1,(List.cons.inj hh).1⟩,qfr h.2 (List.cons.inj hh).2⟩
  ·cases h1
 |[],_::_,h,_=>by cases h
 |_::_,[],h,_=>by cases h
theorem qfs(z:Str): ∀{es:List DictEntry}{tbl:List (Str×Str)},qtm K es tbl=true->
  match luS tbl z with|none=>(es.find? λe=>Value.isStrOf z e.key).map (·.val)=none|some g=> ∃f,(es.find? λe=>Value.isStrOf z e.key).map (·.val)=some (.ref f)/\W.nsIn K mainGlobals g=some (some (.ref f))
 |[],[],_=>rfl
 |e::es,(k,g)::tb,h=>by
  unfold qtm at h;have h:=Bool.and_eq_true_iff.mp h;have h1:=h.1;split at h1
  ·rename_i x t f f' e1 e2 e3;have h1:=Bool.and_eq_true_iff.mp h1;have:x=k:=by simpa using h1.1
   subst this;have:f=f':=by simpa using h1.2
   subst this;by_cases c:x=z
   ·subst c;have l:luS ((x,g)::tb) x=some g:=by simp[luS,List.find?_cons]
    rw[l];refine⟨f,?_,e3⟩;have:Value.isStrOf x e.key=true:=by rw[e1];show(x==x)=true;simp
    rw[List.find?_cons,this];exact congrArg some e2
   ·have l:luS ((x,g)::tb) z=luS tb z:=by simp[luS,List.find?_cons,c]
    have n:Value.isStrOf z e.key=false:=by rw[e1];show(x==z)=false;exact beq_eq_false_iff_ne.mpr c
    rw[l,List.find?_cons,n];exact qfs z h.2
  ·cases h1
 |[],_::_,h=>by cases h
 |_::_,[],h=>by cases h
theorem topT_of{D:Str}(X:K.In h)(G:h.Ns mainGlobals mg)(b:topB K D tbl=true)(hh:(esOf K D).map (λes=>es.map (·.hash))=some (tbl.map λp=>PyData.keyHash w.params p.1)):TopT K mg w D tbl:=by
 unfold topB at b;split at b
 ·rename_i es e;rw[e] at hh;have hh:=Option.some.inj hh;unfold esOf at e;split at e
  ·rename_i a n;split at e
   ·rename_i fk m sl l;split at e
    ·rename_i c;cases e;have:=by simpa using c.2
     subst this;refine⟨a,fk,m,W.mg_of X G n,l,qfr b hh,c.1,λz=> ?_⟩;have:=qfs z b;unfold findBy
     simp_all
    ·cases e
   ·cases e
  ·cases e
 ·cases b
section
variable{x D:Str}
theorem op_topin(hl:X.K.lookup a=some ⟨.type "dict",none,.dict es n, #[]⟩)(hk:W.KeysLit X.w.params es.toList)(lo:(a==sysModules)=false)(hz: ∀z,match luS tbl z with | none=>findBy Value.isStrOf es z=none | some g=> ∃f,findBy Value.isStrOf es z=some (.ref f)/\W.nsIn X.K mainGlobals g=some (some (.ref f))):
  OpR X (compareOp .In) (λx y H Q=> ∃z,x= .str z/\y= .ref a/\Q (.bl (luS tbl z).isSome) H):=by
 intro Z s σ H x y v u Q I rx ry q;obtain⟨z,rfl,rfl,q⟩:=q;obtain⟨t,rfl⟩:=rx;cases ry;refine PySem.wpAny_in_of (PySem.strKind_is _ X.w z t) lo (W.mapOf_K I.kIn hl hk) ?_;have:(findBy Value.isStrOf es z).isSome=(luS tbl z).isSome:=by
  have:=hz z;split at this
  ·simp_all
  ·rename_i g e;obtain⟨f,h1,_⟩:=this;rw[h1,e];rfl
 rw[this];exact⟨.bl _,H,I.tok _,rfl,q⟩
end
end PL
namespace HD
open PySem L2 PL
noncomputable def clOf(K:W.Frag)(x:Str):Addr:=match W.nsIn K mainGlobals x with
 |some (some (.ref C))=>C
 |_=>0
noncomputable def noB(K:W.Frag)(C:Addr)(f:Str):Bool:=match W.findIn K (.ref C) f with
 |some none=>true
 |_=>false
noncomputable def qvK(K:W.Frag)(x:Str)(fs:List Str):Bool:=match W.nsIn K mainGlobals x with
 |some (some (.ref C))=>W.plainGet K C Str.empty&&(W.hasDictIn K C&&(W.plainOver K C&&((match W.findIn K (.ref C) "__setattr__" with|some (some (.builtin n))=>n== "object.__setattr__" | _=>false)&&(W.makesIn K C&&(W.keepIn K (.ref C)&&fs.all (noB K C))))))
 |_=>false
theorem qwD{x:Str}{fs:List Str}(X:K.In h)(G:h.Ns mainGlobals mg)(a:qvK K x fs=true):
  mg x=some (.ref (clOf K x))/\Cls K (clOf K x)/\W.makesIn K (clOf K x)=true/\W.keepIn K (.ref (clOf K x))=true/\∀f∈fs,qbe K (clOf K x) f:=by
 unfold qvK at a;split at a
 ·rename_i C n;have e:clOf K x=C:=by unfold clOf;rw[n]
  rw[e];simp only[Bool.and_eq_true] at a;obtain⟨a1,a2,a3,a4,a5,a6,a7⟩:=a;refine⟨W.mg_of X G n,⟨a1,a2,a3,?_⟩,a5,a6,λf hf=> ?_⟩
  ·split at a4
   ·grind
   ·cases a4
  ·have:=List.all_eq_true.mp a7 f hf;unfold noB at this;split at this
   ·assumption
   ·cases this
 ·cases a
noncomputable def qvS(K:W.Frag)(C:Addr)(m:Str):Option (Addr×Obj):=match W.findIn K (.ref C) m with
 |some (some (.ref f))=>(match K.lookup f with|some o=>some (f,o)|none=>none)
 |_=>none
noncomputable def qsE(K:W.Frag)(C:Addr)(m:Str):Option FuncData:=match qvS K C m with
 |some (_,⟨_,_,.func fd,_⟩)=>some fd
 |_=>none
noncomputable def okM(K:W.Frag)(C:Addr)(m q:Str):Bool:=match qvS K C m with
 |some (f,⟨_,_,.func fd,_⟩)=>W.isFn K (.ref f)&&(W.codeIn K fd.code q&&W.keepIn K (.ref f))
 |_=>false
noncomputable def qxq(m q:Str)(st:Stmt)(fd:FuncData):FuncData:=W.fnOf m q (qap st) (qaA st) (qad st) .none fd.kwdefaults fd.doc fd.pyModule fd.annotations fd.code fd.closureTuple
noncomputable def DfM(K:W.Frag)(C:Addr)(m q:Str)(st:Stmt):Prop:=
 ∃(f:Addr)(oc:Value)(od:Option Addr)(osl:Array (Option Value))(kV doc pm:Value)(an:Option Addr)(cdv ct:Value),
  K.lookup f=some ⟨oc,od,.func (W.fnOf m q (qap st) (qaA st) (qad st) .none kV doc pm an cdv ct),osl⟩/\W.codeIn K cdv q=true/\quh K C m f
theorem qtD{m q:Str}(a:okM K C m q=true)(e:qsE K C m=(qsE K C m).map (qxq m q st)):DfM K C m q st:=by
 unfold okM at a;unfold qsE at e;split at a
 ·rename_i f oc od fd osl z;rw[z] at e;have e:=Option.some.inj e;unfold qvS at z;split at z
  ·rename_i f' n;split at z
   ·rename_i o lk;cases z;simp only[Bool.and_eq_true] at a;exact⟨_,_,_,_,fd.kwdefaults,fd.doc,fd.pyModule,fd.annotations,fd.code,fd.closureTuple,by rw[lk,show W.fnOf m q _ _ _ _ _ _ _ _ _ _=fd from e.symm],a.2.1,⟨n,a.1,a.2.2⟩⟩
   ·cases z
  ·cases z
 ·cases a
end HD
namespace PL
open PySem L2 SR SetL
end PL
namespace HD
open PySem L2 PL
noncomputable def qdO:List Str:=["Ended", "Full", "NoAsk", "NoBack", "NoName", "NoNumber", "NoRow", "NoText", "TooLate", "Unlike"]
noncomputable def qqR:List Str:=["ended", "full", "no ask", "no back", "no name", "no number", "no row", "no text", "too late", "unlike"]
noncomputable def nsC(K:W.Frag)(x:Str):Bool:=match W.nsIn K mainGlobals x with
 |some (some (.ref _))=>true
 |_=>false
theorem qjx{x:Str}(X:K.In h)(G:h.Ns mainGlobals mg)(a:nsC K x=true):mg x=some (.ref (clOf K x)):=by
 unfold nsC at a;split at a
 ·rename_i C n;have e:clOf K x=C:=by unfold clOf;rw[n]
  rw[e];exact W.mg_of X G n
 ·cases a
noncomputable def isB(K:W.Frag)(x:Str)(c:Value)(b:Bool):Bool:=W.kitOne K (.ref (clOf K x)) c==some b
noncomputable def exB(K:W.Frag):Bool:=nsC K "AskError" &&qc8 K (clOf K "AskError") bmV&&(List.range 10).all λj=>
 nsC K (qdO.getD j "")&&qc8 K (clOf K (qdO.getD j "")) (.ref (clOf K "AskError")::bmV)&&(W.clsIn K (clOf K (qdO.getD j ""))).isSome&&isB K (qdO.getD j "") (.type "ValueError") true&&
  (List.range 10).all λi=>isB K (qdO.getD j "") (.ref (clOf K (qdO.getD i ""))) (i==j)
structure qq9(K:W.Frag)(mg:Str->Option Value):Prop where
 a:mg "AskError" =some (.ref (clOf K "AskError"))
 ea:qc8 K (clOf K "AskError") bmV=true
 m: ∀j<10,mg (qdO.getD j "")=some (.ref (clOf K (qdO.getD j "")))
 e: ∀j<10,qc8 K (clOf K (qdO.getD j "")) (.ref (clOf K "AskError")::bmV)=true
 c: ∀j<10,(W.clsIn K (clOf K (qdO.getD j ""))).isSome=true
 v: ∀j<10,W.kitOne K (.ref (clOf K (qdO.getD j ""))) (.type "ValueError")=some true
 k: ∀j<10,∀i<10,W.kitOne K (.ref (clOf K (qdO.getD j ""))) (.ref (clOf K (qdO.getD i "")))=some (i==j)
theorem qp0(X:K.In h)(G:h.Ns mainGlobals mg)(a:exB K=true):qq9 K mg:=by
 unfold exB at a;simp only[Bool.and_eq_true,List.all_eq_true,List.mem_range] at a;obtain⟨⟨a1,a2⟩,a3⟩:=a;refine⟨qjx X G a1,a2,λj hj=>qjx X G (a3 j hj).1.1.1.1,λj hj=>(a3 j hj).1.1.1.2,λj hj=>(a3 j hj).1.1.2,λj hj=> ?_,λj hj i hi=> ?_⟩
 ·have:=(a3 j hj).1.2;exact eq_of_beq this
 ·have:=(a3 j hj).2 i hi;exact eq_of_beq this
noncomputable def qoh(K:W.Frag)(a:Addr):Option Str:=(List.range 10).findSome? λj=>if a=clOf K (qdO.getD j "") then some (qqR.getD j "") else none
noncomputable def quG(c:Str):Option Str:=(List.range 10).findSome? λj=>if c=qdO.getD j "" then some (qqR.getD j "") else none
theorem qgJ{x:Str}(h:qoh K a=some x): ∃j<10,a=clOf K (qdO.getD j "")/\x=qqR.getD j "" :=by
 obtain⟨j,hj,e⟩:=List.exists_of_findSome?_eq_some h;rw[List.mem_range] at hj;split at e
 ·rename_i q;cases e;exact⟨j,hj,q,rfl⟩
 ·cases e
theorem qm5(be:qq9 K mg)(hi:i<10)(hj:j<10)(e:clOf K (qdO.getD i "")=clOf K (qdO.getD j "")):i=j:=by
 have h1:=be.k j hj i hi;have h2:=be.k j hj j hj
 simp_all
theorem qog(be:qq9 K mg)(hj:j<10):qoh K (clOf K (qdO.getD j ""))=some (qqR.getD j ""):=by
 cases h:qoh K _ with
 |none=>
  have:=List.findSome?_eq_none_iff.mp h j (List.mem_range.mpr hj)
  grind
 |some x=>obtain⟨i,hi,e1,e2⟩:=qgJ h;rw[e2,qm5 be hj hi e1]
theorem qlr{c x:Str}(h:quG c=some x): ∃j<10,c=qdO.getD j "" /\x=qqR.getD j "" :=by
 obtain⟨j,hj,e⟩:=List.exists_of_findSome?_eq_some h;rw[List.mem_range] at hj;split at e
 ·rename_i q;cases e;exact⟨j,hj,q,rfl⟩
 ·cases e
theorem quM{Ts:List Addr}{qz:List Str}{p:Addr×Str}(h: ∀T∈Ts,H T=some (.tbl #[]))(hp:p∈Ts.zip qz):qgH p.1 p.2 H:=⟨#[],h _ (List.of_mem_zip hp).1,trivial,λpos v e=>by cases e⟩
end HD
namespace L2
open PySem PySem.Spec PySem.Calls PyProof.Rows
end L2
namespace PL
open PySem L2 SR SetL
end PL
namespace L2
open PySem PySem.Spec PyProof.Rows
end L2
namespace PL
open PySem L2
end PL
section
set_option maxHeartbeats 1000000
namespace TM
open PySem Builtin PySem.Spec
end TM
namespace L2
open PySem PySem.Spec PyProof.Rows
end L2
namespace PL
open PySem L2
end PL
end
namespace NV
open PySem L2
inductive Ito where
 |fx (ts:List T)|lv (k:Nat)
noncomputable def nxt:Ito->Mu->Nat->Option (Option T)
 |.fx ts,_,i=>some ts[i]?
 |.lv k,O,i=>match O.l[k]? with|some (.ls ts)=>some ts[i]?|_=>none
noncomputable def qca:Ito->Mu->Nat
 |.fx ts,_=>ts.length
 |.lv k,O=>match O.l[k]? with|some (.ls ts)=>ts.length|_=>0
noncomputable def qgF(M:Md)(J:It)(B1:qaF)(it:Ito):Prop:= ∀μ' H' B',Hs M μ' H' B'->Le B1 B'->∀i:Nat,
 (∀t,nxt it μ' i=some (some t)->J.go i H'/\∀x bg,J.yld i H' x bg->∃jo,Hs M μ' bg jo/\Go H' B' bg jo/\Rep M.K jo t x)/\((∀ts,it= .fx ts->i<=ts.length)->nxt it μ' i=some none->J.stop i H')
noncomputable def KI(M:Md)(H:Hp)(B:qaF)(R:It->Hp->Prop):Ito->Mu->Prop:=λit O=> ∀J H1 B1,Hs M O H1 B1->Go H B H1 B1->qca it O<=sizeLine->qgF M J B1 it->R J H1
noncomputable def tI(M:Md)(E:XK)(d:DS0 Ito):TI:=λσ H R=> ∃ρ O B,Ev M ρ O σ H B/\Wn M E H B (KI M H B R) (d ρ O)
noncomputable def qq0:T->Mu->R Ito
 |.lst ts,O=>.ok (.fx ts) O
 |.tup ts,O=>.ok (.fx ts) O
 |.obj k,O=>(match O.l[k]? with|some (.ls _)=>.ok (.lv k) O|_=>.no)
 |.dct kvs,O=>.ok (.fx (kvs.map λp=>qej p.1)) O
 |.str z,O=>if z.length<=1000 then .ok (.fx (z.cps.toList.map λc=>.str ⟨#[c]⟩)) O else .no
 |_,_=>.no
noncomputable def dIt(da:DS0 T):DS0 Ito:=dSq da λt _ O=>qq0 t O
noncomputable def qxO(lo hi:Int):List T:=(List.range (hi - lo).toNat).map λk=>.int (lo+(k:Nat))
noncomputable def qcp:List T->Mu->R Ito
 |[.int n],O=>if n<=1000000/\ -1000000<=n then .ok (.fx ((List.range n.toNat).map λk=>.int (k:Nat))) O else .no
 |_,_=>.no
noncomputable def qrE:List T->Mu->R Ito
 |[.int m,.int n],O=>if(n<=1000000/\ -1000000<=n)/\m<=1000000/\ -1000000<=m then .ok (.fx (qxO m n)) O else .no
 |_,_=>.no
noncomputable def sqv(O:Mu):T->Option (Bool×List T)
 |.lst ts=>some (true,ts)
 |.tup ts=>some (false,ts)
 |.obj k=>(match O.l[k]? with|some (.ls ts)=>some (true,ts)|_=>none)
 |_=>none
noncomputable def qtk(xs:List T):List T:=xs.zipIdx.map λp=>.tup [.int (p.2:Nat),p.1]
noncomputable def qtl:List T->Mu->R Ito
 |[.lst xs],O=>.ok (.fx (qtk xs)) O
 |[.tup xs],O=>.ok (.fx (qtk xs)) O
 |_,_=>.no
noncomputable def dIA(g:List T->Mu->R Ito)(ds:DS0 (List T)):DS0 Ito:=dSq ds λts _ O=>g ts O
section
theorem PI.or(h:PI X tg e t)(h':PI X tg e t'):PI X tg e (λσ H R=>t σ H R\/t' σ H R):=λZ s σ H R I q=>q.elim (h _ s σ H R I) (h' _ s σ H R I)
theorem qdp:PI X tg e (tI M E dNo):=(by rintro _ _ _ _ _ _ ⟨_,_,_,_,w⟩;exact w.elim)
theorem qiN(hp:B1 p=some (.lst vs))(r:Reps M.K B1 ts vs):qgF M (Itl M.K p) B1 (.fx ts):=λμ' H' B' h le i=>by
 have q:SqL M.K H' p vs:=SqL.of (h.bh _ _ (le.h _ _ hp));refine⟨λt et=> ?_,λhl hi=> ?_⟩
 ·obtain⟨x,ex,rx⟩:=r.get (Option.some.inj et);refine⟨⟨vs,x,q,ex⟩,λy bg ⟨e1,e2⟩=> ?_⟩;subst e1;have:=e2 vs q;rw[ex] at this;cases this;exact⟨B',h,.refl,rx.mono le⟩
 ·exact⟨vs,q,by rw[r.length];exact List.getElem?_eq_none_iff.mp (Option.some.inj hi)⟩
theorem qlo(hp:B1 p=some (.tup vs))(r:Reps M.K B1 ts vs):qgF M (Itt M.K p) B1 (.fx ts):=λμ' H' B' h le i=>by
 have q:SqT M.K H' p vs:=SqT.of (h.bh _ _ (le.h _ _ hp));refine⟨λt et=> ?_,λhl hi=> ?_⟩
 ·obtain⟨x,ex,rx⟩:=r.get (Option.some.inj et);refine⟨⟨vs,x,q,ex⟩,λy bg ⟨e1,e2⟩=> ?_⟩;subst e1;have:=e2 vs q;rw[ex] at this;cases this;exact⟨B',h,.refl,rx.mono le⟩
 ·exact⟨vs,q,by rw[r.length];exact List.getElem?_eq_none_iff.mp (Option.some.inj hi)⟩
theorem qof(hp:B1.ad k=some p):qgF M (Itl M.K p) B1 (.lv k):=λμ' H' B' h le i=>by
 have go: ∀{o:Option T},nxt (.lv k) μ' i=some o->∃ts vs,o=ts[i]? /\SqL M.K H' p vs/\Reps M.K B' ts vs:=λ{o} e=>by
  have e:(match μ'.l[k]? with|some (.ls ts)=>some ts[i]?|_=>none)=some o:=e;split at e
  ·rename_i ts el;cases e;obtain⟨u,_,hu,vs,rfl,rv⟩:=h.at el (by simp) (le.d _ _ hp);exact⟨ts,vs,rfl,SqL.of hu,rv⟩
  ·cases e
 refine⟨λt et=> ?_,λhl hi=> ?_⟩
 ·obtain⟨ts,vs,e,q,r⟩:=go et;obtain⟨x,ex,rx⟩:=r.get e.symm;refine⟨⟨vs,x,q,ex⟩,λy bg ⟨e1,e2⟩=> ?_⟩;subst e1;have:=e2 vs q;rw[ex] at this;cases this;exact⟨B',h,.refl,rx⟩
 ·obtain⟨ts,vs,e,q,r⟩:=go hi;exact⟨vs,q,by rw[r.length];grind⟩
theorem qlp{z:Str}(hJ:J=⟨λi _=>i<z.cps.size,λi H x H'=>H'=H/\∃c,z.cps[i]? =some c/\x= .str ⟨#[c]⟩,λi _=>z.cps.size<=i⟩):qgF M J B1 (.fx (z.cps.toList.map λc=>.str ⟨#[c]⟩)):=λμ' H' B' h le i=>by
 subst hJ;refine⟨λt et=> ?_,λhl hi=> ?_⟩
 ·have et:=Option.some.inj et;rw[List.getElem?_map] at et;cases q:z.cps.toList[i]? with
  |none=>rw[q] at et;cases et
  |some c=>rw[q] at et;cases et;have hi:=(List.getElem?_eq_some_iff.mp q).1;refine⟨show i<z.cps.size by simpa using hi,λy bg ⟨e1,c',e2,e3⟩=> ?_⟩;subst e1 e3;rw[Array.getElem?_toList] at q;rw[q] at e2;cases e2;exact⟨B',h,.refl,qcs⟩
 ·have hi:=List.getElem?_eq_none_iff.mp (Option.some.inj hi)
  simp_all
theorem qlq(hp:B1 p=some (.frz o (.dK us)))(rd:qaY M.K B1 kvs us):qgF M (PL.Itd p o us) B1 (.fx (kvs.map λp=>qej p.1)):=λμ' H' B' h le i=>by
 have lk:=rd.length;have hH:=h.bh _ _ (le.h _ _ hp);refine⟨λt et=> ?_,λhl hi=> ?_⟩
 ·have et:=Option.some.inj et;rw[List.getElem?_map] at et;obtain⟨pr,q,rfl⟩:=Option.map_eq_some_iff.mp et;obtain⟨v,q2,_⟩:=qcE rd q;have hi:=(List.getElem?_eq_some_iff.mp q2).1;refine⟨⟨hH,hi⟩,λy bg ⟨e1,k,v',e2,e3⟩=> ?_⟩;subst e1 e3;rw[q2] at e2;cases e2;exact⟨B',h,.refl,qc2 _⟩
 ·have hi:=List.getElem?_eq_none_iff.mp (Option.some.inj hi);rw[List.length_map] at hi;exact⟨hH,by omega⟩
theorem qtB(h:PE X e (tE M E da))(hK:X.K=M.K):PI X tg e (tI M E (dIt da)):=by
 refine PI.weak (PI.or (PL.pi_seq h) (PI.or (qr0 h) (PL.pi_dict h))) λσ H R hq=> ?_;obtain⟨ρ,O,B,ev,w⟩:=hq;rw[hK];have w:Wn M E H B (KI M H B R) ((da ρ O).bind qq0):=w;cases q:da ρ O with
 |no=>rw[q] at w;exact w.elim
 |ex c m=>rw[q] at w;exact .inl ⟨ρ,O,B,ev,by rw[q];exact w⟩
 |ok t m=>
  rw[q] at w;have w:Wn M E H B (KI M H B R) (qq0 t m):=w;cases t with
  | lst ts=>exact .inl ⟨ρ,O,B,ev,by
    rw[q];intro v H1 B1 h1 g1 r1;obtain⟨p,vs,rfl,hp,r⟩:=qaB r1;exact⟨p,rfl,.inl ⟨vs,SqL.of (h1.bh _ _ hp),λhz=>w _ H1 B1 h1 g1 (by show ts.length<=_;rw[<-r.length];exact hz) (qiN hp r)⟩⟩⟩
  | tup ts=>exact .inl ⟨ρ,O,B,ev,by
    rw[q];intro v H1 B1 h1 g1 r1;obtain⟨p,vs,rfl,hp,r⟩:=qay r1;exact⟨p,rfl,.inr ⟨vs,SqT.of (h1.bh _ _ hp),λhz=>w _ H1 B1 h1 g1 (by show ts.length<=_;rw[<-r.length];exact hz) (qlo hp r)⟩⟩⟩
  | obj k=>exact .inl ⟨ρ,O,B,ev,by
    rw[q];intro v H1 B1 h1 g1 r1;obtain⟨p,rfl,ep⟩:=qaD r1;unfold qq0 at w;dsimp only at w;split at w
    ·rename_i ts el;obtain⟨u,_,hu,vs,rfl,rv⟩:=h1.at el (by simp) ep;exact⟨p,rfl,.inl ⟨vs,SqL.of hu,λhz=>w _ H1 B1 h1 g1 (by show(match m.l[k]? with|some (.ls ts)=>ts.length|_=>0)<=_;rw[el];show ts.length<=_;rw[<-rv.length];exact hz) (qof ep)⟩⟩
    ·exact w.elim⟩
  | dct kvs=>exact .inr (.inr ⟨ρ,O,B,ev,by
    rw[q];intro v H1 B1 h1 g1 r1;obtain⟨p,o,us,rfl,hp,rd⟩:=qcS r1;exact⟨p,o,us,rfl,h1.bh _ _ hp,λhz=>w _ H1 B1 h1 g1 (by show(kvs.map _).length<=_;rw[List.length_map,<-rd.length];exact hz) (qlq hp rd)⟩⟩)
  | str z=>exact .inr (.inl ⟨ρ,O,B,ev,by
    rw[q];intro v H1 B1 h1 g1 r1;cases qaH r1;have w:Wn M E H B (KI M H B R) (if z.length<=1000 then _ else _):=w;split at w
    ·rename_i hz;exact⟨z,rfl,w _ H1 B1 h1 g1 (by show(z.cps.toList.map _).length<=_;rw[List.length_map,Array.length_toList];exact Vo (qeM hz)) (qlp rfl)⟩
    ·exact w.elim⟩)
  |_=>exact w.elim
theorem qhW:qgF M (L2.Itr lo n) B1 (.fx ((List.range n).map λk=>.int (lo+(k:Nat)))):=λμ' H' B' h le i=>by
 refine⟨λt et=> ?_,λhl hi=> ?_⟩
 ·have et:=Option.some.inj et;rw[List.getElem?_map] at et;cases q:(List.range n)[i]? with
  |none=>rw[q] at et;cases et
  |some j=>rw[q] at et;cases et;obtain⟨hi,ej⟩:=List.getElem?_eq_some_iff.mp q;rw[List.getElem_range] at ej;subst ej;refine⟨show i<n by simpa using hi,λy bg ⟨e1,e2⟩=> ?_⟩;subst e1 e2;exact⟨B',h,.refl,qaO⟩
 ·have hi:=List.getElem?_eq_none_iff.mp (Option.some.inj hi);rw[List.length_map,List.length_range] at hi;exact hi
theorem qkC(hg:Gl X "range")(hm:X.mg "range" =none)(ha:PA X [a] (tA M E ds))(hs:starEach [a] X.env=[(false,eval a X.env)]):PI X tg (.Call (.Name "range" p) [a] [] pos) (tI M E (dIA qcp ds)):=by
 refine PI.weak (qjh hg hm ha hs) λσ H R ⟨ρ,O,B,ev,w⟩=>⟨ρ,O,B,ev,(Wn.bind w).mono λts m w1 vs H1 B1 h1 g1 r1=> ?_⟩
 change Wn M E H B (KI M H B R) (qcp ts m) at w1
 unfold qcp at w1;split at w1
 ·rename_i n;obtain⟨v,r,rfl,a1,b1⟩:=r1.inv;cases b1.inv0;cases qah a1;split at w1
  ·rename_i hn;have l0:=PL.line1M;refine⟨n,rfl,by omega,by omega,w1 _ H1 B1 h1 g1 (by show(List.map _ _).length<=_;rw[List.length_map,List.length_range];omega) ?_⟩;have:=qhW (M:=M) (lo:=0) (n:=n.toNat) (B1:=B1);simpa using this
  ·exact w1.elim
 ·exact w1.elim
end
noncomputable def qrk(k:DS0 Out):Out->Mu->R Out
 |.nx ρ,O=>k ρ O
 |.ct ρ,O=>k ρ O
 |.bk ρ,O=>.ok (.nx ρ) O
 |.rt t,O=>.ok (.rt t) O
noncomputable def qhu(it:Ito)(dg:T->DS0 Ro)(db:DS0 Out):Nat->Nat->DS0 Out
 |0,i=>λρ O=>match nxt it O i with|some none=>.ok (.nx ρ) O|_=>.no
 |n+1,i=>λρ O=>match nxt it O i with
  |some none=>.ok (.nx ρ) O
  |some (some t)=>(dg t ρ O).bind λaw af=>(db aw af).bind (qrk (qhu it dg db n (i+1)))
  |none=>.no
noncomputable def qwh(dg:T->DS0 Ro)(db:DS0 Out):List T->DS0 Out
 |[]=>λρ O=>.ok (.nx ρ) O
 |t::ts=>λρ O=>(dg t ρ O).bind λaw af=>(db aw af).bind (qrk (qwh dg db ts))
theorem qko: ∀(n i:Nat),ts.length<=n+i->qhu (.fx ts) dg db n i=qwh dg db (ts.drop i)
 |0,i,h=>by
  have e:ts[i]? =none:=List.getElem?_eq_none_iff.mpr (by omega)
  funext ρ O
  rw[List.drop_eq_nil_of_le (by omega)];show(match some ts[i]? with|some none=>R.ok _ O|_=>.no)=_;rw[e];rfl
 |n+1,i,h=>by
  funext ρ O
  show(match some ts[i]? with|some none=>R.ok _ O|some (some t)=>_|none=>.no)=_;cases q:ts[i]? with
  |none=>rw[List.drop_eq_nil_of_le (List.getElem?_eq_none_iff.mp q)];rfl
  |some t=>obtain⟨hi,et⟩:=List.getElem?_eq_some_iff.mp q;rw[List.drop_eq_getElem_cons hi,et];rw[qko n _ (by omega)];rfl
noncomputable def qwi(dg:T->DS0 Ro)(db:DS0 Out):Ito->DS0 Out
 |.fx ts=>qwh dg db ts
 |.lv k=>λρ O=>qhu (.lv k) dg db (qca (.lv k) O) 0 ρ O
noncomputable def qxz(di:DS0 Ito)(dg:T->DS0 Ro)(db:DS0 Out):DS0 Out:=dSq di (qwi dg db)
theorem qkp:qwi dg db it ρ O=qhu it dg db (qca it O) 0 ρ O:=by
 cases it with
 |fx ts=>rw[qko _ 0 (by exact Nat.le_refl _)];rfl
 |lv k=>rfl
section
theorem qtv(hp:PassesOwn (model X.prog X.w) X.A X.env X.xe)(hc:X.calm=true)(hi:PI X tg iter (tI M E di))(hg:PG X tg (tG M E dg))(hb:PSs X body (tS M E db))(hs: ∀x,foldedSetIterable iter X.env x=pure x):PS X (.For tg iter body [] pos) (tS M E (qxz di dg db)):=by
 refine PS.weak (qrU hp hc hi hg hb hs) λD σ H ⟨ρ,O,B,ev,w⟩=>⟨ρ,O,B,ev,(Wn.bind w).mono λit m w1 J H1 B1 h1 g1 hz wk=> ?_⟩
 rw[qkp] at w1;refine⟨λi n ae H'=> ∃ρ' μ' B',Ev M ρ' μ' ae H' B'/\Go H1 B1 H' B'/\(∀ts,it= .fx ts->i<=ts.length)/\Wn M E H B (KS M H B D) (qhu it dg db n i ρ' μ'),⟨_,ρ,m,B1,ev.on h1 g1.le,.refl,λ_ _=>Nat.zero_le _,w1⟩,?_⟩;rintro i n ae H' ⟨ρ',μ',B',bU,g',hl,w2⟩;have stop:nxt it μ' i=some none->(R.ok (Out.nx ρ') μ'=qhu it dg db n i ρ' μ')->J.stop i H'/\D.nx ae H':=λe q=>by rw[<-q] at w2;exact⟨(wk μ' H' B' bU.hs g'.le i).2 hl e,w2 ae H' B' bU (g1.trans g')⟩
 cases q:nxt it μ' i with
 |none=>cases n<;>(unfold qhu at w2;rw[q] at w2;exact w2.elim)
 |some o=>
  cases o with
  |none=>exact .inl (stop q (by cases n<;>(unfold qhu;rw[q])))
  |some t=>
   cases n with
   |zero=>unfold qhu at w2;rw[q] at w2;exact w2.elim
   |succ n=>
    have w2:=by unfold qhu at w2;rw[q] at w2;exact w2
    obtain⟨go,yl⟩:=(wk μ' H' B' bU.hs g'.le i).1 t q;refine .inr ⟨go,λfv bg=> ∃aA ah B2,Ev M aA ah fv bg B2/\Go H1 B1 bg B2/\(∀ts,it= .fx ts->i+1<=ts.length)/\Wn M E H B (KS M H B D) (qhu it dg db n (i+1) aA ah),λfv bg h=>⟨n,Vy n,h⟩,λx H3 y=> ?_⟩;obtain⟨B3,h3,g3,r3⟩:=yl x H3 y;have gg:=g1.trans (g'.trans g3);have eC: ∀ts,it= .fx ts->i+1<=ts.length:=λts e=>by subst e;exact(List.getElem?_eq_some_iff.mp (Option.some.inj q)).1
    refine⟨ρ',μ',B3,t,bU.on h3 g3.le,r3,(Wn.bind w2).lift gg λaw af w3 cU H4 B4 e4 g4=> ?_⟩;refine⟨aw,af,B4,e4,(Wn.bind w3).lift (gg.trans g4) λo ah w4=> ?_⟩;cases o with
    |nx aA|ct aA=>exactλcT H5 B5 e5 g5=>⟨aA,ah,B5,e5,((g'.trans g3).trans g4).trans g5,eC,w4⟩
    |bk aA=>exactλcT H5 B5 e5 g5=>w4 cT H5 B5 e5 ((gg.trans g4).trans g5)
    |rt t'=>exact KE.le w4 (gg.trans g4)
end
noncomputable def qa3(n:Nat)(fr:List Nat)(ρ:Ro):Ro:=List.replicate n none++fr.map λi=>(ρ[i]?).join
noncomputable def qbk(it:Ito)(dg:T->DS0 Ro)(dt:DS0 Bool)(de:DS0 T):Nat->Nat->DS0 (List T)
 |0,i=>λρ O=>match nxt it O i with|some none=>.ok [] O|_=>.no
 |n+1,i=>λρ O=>match nxt it O i with
  |some none=>.ok [] O
  |some (some t)=>(dg t ρ O).bind λaw af=>(dt aw af).bind λc ah=>if c=true then(de aw ah).bind λy bj=>(qbk it dg dt de n (i+1) aw bj).bind λys aZ=>.ok (y::ys) aZ else qbk it dg dt de n (i+1) aw ah
  |none=>.no
noncomputable def qmZ(dg:T->DS0 Ro)(dt:DS0 Bool)(de:DS0 T):List T->DS0 (List T)
 |[]=>λρ O=>.ok [] O
 |t::ts=>λρ O=>(dg t ρ O).bind λaw af=>(dt aw af).bind λc ah=>if c=true then(de aw ah).bind λy bj=>(qmZ dg dt de ts aw bj).bind λys aZ=>.ok (y::ys) aZ else qmZ dg dt de ts aw ah
theorem qhF: ∀(n i:Nat),ts.length<=n+i->qbk (.fx ts) dg dt de n i=qmZ dg dt de (ts.drop i)
 |0,i,h=>by
  have e:ts[i]? =none:=List.getElem?_eq_none_iff.mpr (by omega)
  funext ρ O
  rw[List.drop_eq_nil_of_le (by omega)];show(match some ts[i]? with|some none=>R.ok _ O|_=>.no)=_;rw[e];rfl
 |n+1,i,h=>by
  funext ρ O
  show(match some ts[i]? with|some none=>R.ok _ O|some (some t)=>_|none=>.no)=_;cases q:ts[i]? with
  |none=>rw[List.drop_eq_nil_of_le (List.getElem?_eq_none_iff.mp q)];rfl
  |some t=>obtain⟨hi,et⟩:=List.getElem?_eq_some_iff.mp q;rw[List.drop_eq_getElem_cons hi,et];rw[qhF n _ (by omega)];rfl
noncomputable def qkL(dg:T->DS0 Ro)(dt:DS0 Bool)(de:DS0 T):Ito->DS0 (List T)
 |.fx ts=>qmZ dg dt de ts
 |.lv k=>λρ O=>qbk (.lv k) dg dt de (qca (.lv k) O) 0 ρ O
theorem qhG:qkL dg dt de it ρ O=qbk it dg dt de (qca it O) 0 ρ O:=by
 cases it with
 |fx ts=>rw[qhF _ 0 (by exact Nat.le_refl _)];rfl
 |lv k=>rfl
noncomputable def noX{α:Type}:R α->R α
 |.ok a m=>.ok a m
 |_=>.no
noncomputable def qtX(x:Bool)(n:Nat)(fr:List Nat)(dg:T->DS0 Ro)(dt:DS0 Bool)(de:DS0 T)(it:Ito):DS0 Ct:=λρ O=>
 (if x=true then qkL dg dt de it (qa3 n fr ρ) O else noX (qkL dg dt de it (qa3 n fr ρ) O)).bind λys μ'=>.ok (.ls ys) μ'
noncomputable def qcA(x:Bool)(n:Nat)(fr:List Nat)(di:DS0 Ito)(dg:T->DS0 Ro)(dt:DS0 Bool)(de:DS0 T):DS0 Ct:=dSq di (qtX x n fr dg dt de)
section
variable{own:List Str}
theorem qkv(ev:Ev M ρ O σ H B):Ev M (qa3 own.length (fr.map (·.2)) ρ) O (qbs own fr σ) H B:=by
 refine⟨ev.hs,by unfold qa3 qbs;simp,λi t e=> ?_⟩;unfold qa3 at e;by_cases hi:i<own.length
 ·rw[List.getElem?_append_left (by simpa using hi),List.getElem?_replicate] at e;split at e<;>cases e
 ·rw[List.getElem?_append_right (by simpa using hi),List.length_replicate,List.getElem?_map,List.getElem?_map] at e;cases q:fr[i - own.length]? with
  |none=>rw[q] at e;cases e
  |some p=>
   rw[q] at e;have e:(ρ[p.2]?).join=some t:=Option.some.inj e;have e':ρ[p.2]? =some (some t):=by
    cases z:ρ[p.2]? with
    |none=>rw[z] at e;cases e
    |some o=>simp_all
   obtain⟨v,e1,e2⟩:=ev.sl _ _ e';unfold qbs;rw[List.getElem?_append_right (by simpa using hi),List.length_map,List.getElem?_map]
   simp_all
theorem comp_core(hE:x=true->E'=E)(ev:Ev M ρ O σ H B)(w:Wn M E H B (KN M H B Q) (qcA x own.length (fr.map (·.2)) di dg dt de ρ O)):
  qeH (tI M E di) (tG M E' dg) (tT M E' dt) (tE M E' de) own fr σ H λD H'=>Q (.ref D) H':=by
 refine⟨ρ,O,B,ev,(Wn.bind w).mono λit m w1 J H1 B1 h1 g1 hz wk D hD=> ?_⟩;have w2:Wn M E' H B (λys μ'=>KN M H B Q (.ls ys) μ') (qbk it dg dt de (qca it m) 0 (qa3 own.length (fr.map (·.2)) ρ) m):=by
  have w1:Wn M E H B (KN M H B Q) ((if x=true then qkL dg dt de it (qa3 own.length (fr.map (·.2)) ρ) m else noX (qkL dg dt de it (qa3 own.length (fr.map (·.2)) ρ) m)).bind λys μ'=>.ok (.ls ys) μ'):=w1;rw[qhG] at w1;cases x with
  |true=>rw[if_pos rfl] at w1;rw[hE rfl];exact Wn.bind w1
  |false=>
   rw[if_neg (by decide)] at w1;cases q:qbk it dg dt de (qca it m) 0 (qa3 own.length (fr.map (·.2)) ρ) m with
   |no|ex c m'=>rw[q] at w1;exact w1.elim
   |ok ys m'=>rw[q] at w1;exact w1
 have bD:=h1.fr hD;have ofD: ∀k,B1.ad k≠some D:=λk e=>(h1.dm k D e).2 hD;have iV:hid D (upd H1 D (.lst []))=H1:=by
  funext a
  by_cases q:a=D
  ·subst q;rw[qfh,hD]
  ·rw[qct q,qac q]
 have iH:Hs M m (upd H1 D (.lst [])) B1:=h1.more λa o e=>by rw[qac (qaj e hD)];exact e
 refine⟨λi n ae H'=> ∃ρ' μ' B' dn ys,Ev M ρ' μ' ae H' B'/\Go H1 B1 (hid D H') B'/\H' D=some (.lst ys)/\B' D=none/\(∀k,B'.ad k≠some D)/\Reps M.K B' dn ys/\ys.length<=i/\n+i=qca it m/\(∀ts,it= .fx ts->i<=ts.length)/\
  Wn M E' H B (λrs μ'=>KN M H B Q (.ls (dn++rs)) μ') (qbk it dg dt de n i ρ' μ'),⟨_,_,m,B1,[],[],qkv (ev.on iH g1.le),by rw[iV];exact .refl,qae,bD,ofD,.nil,Vl _,Nat.add_zero _,λ_ _=>Nat.zero_le _,w2⟩,?_⟩
 rintro i n ae H' ⟨ρ',μ',B',dn,ys,bU,g',eS,kA,gI,rd,hy,hn,hl,w3⟩;have stop:nxt it μ' i=some none->(R.ok ([]:List T) μ'=qbk it dg dt de n i ρ' μ')->J.stop i H'/\Q (.ref D) H':=λe q=>by
  rw[<-q] at w3;refine⟨(wk μ' H' B' bU.hs g'.le i).2 hl e,?_⟩;have w3:KN M H B Q (.ls (dn++[])) μ':=w3;rw[List.append_nil] at w3;have:=w3 D (.lst ys) (hid D H') B' (bU.hs.loose kA gI (λa q=>qct q) λu hu=>by rw[eS] at hu;cases hu;exact .inl ⟨_,rfl⟩) (g1.trans g') qfh ⟨ys,rfl,rd⟩;have e2:upd (hid D H') D (.lst ys)=H':=by
   funext a
   by_cases q:a=D
   ·subst q;rw[qae,eS]
   ·rw[qac q,qct q]
  rw[e2] at this;exact this
 cases q:nxt it μ' i with
 |none=>cases n<;>(unfold qbk at w3;rw[q] at w3;exact w3.elim)
 |some o=>
  cases o with
  |none=>exact .inl (stop q (by cases n<;>(unfold qbk;rw[q])))
  |some t=>
   cases n with
   |zero=>unfold qbk at w3;rw[q] at w3;exact w3.elim
   |succ n=>
    have w3:Wn M E' H B (λrs μ'=>KN M H B Q (.ls (dn++rs)) μ') ((dg t ρ' μ').bind λaw af=>(dt aw af).bind λc ah=>if c=true then(de aw ah).bind λy bj=>(qbk it dg dt de n (i+1) aw bj).bind λys aZ=>.ok (y::ys) aZ else qbk it dg dt de n (i+1) aw ah):=by unfold qbk at w3;rw[q] at w3;exact w3
    obtain⟨go,yl⟩:=(wk μ' H' B' bU.hs g'.le i).1 t q;have eC: ∀ts,it= .fx ts->i+1<=ts.length:=λts e=>by subst e;exact(List.getElem?_eq_some_iff.mp (Option.some.inj q)).1
    let NN:List T->List V->St->Hp->Prop:=λkh jt aP H2=> ∃aA ah B2,Ev M aA ah aP H2 B2/\Go H1 B1 (hid D H2) B2/\H2 D=some (.lst ys)/\B2 D=none/\(∀k,B2.ad k≠some D)/\Reps M.K B2 kh jt/\Wn M E' H B (λrs μ'=>KN M H B Q (.ls (kh++rs)) μ') (qbk it dg dt de n (i+1) aA ah);refine .inr ⟨go,λaP v H2=> ∃y,NN (dn++[y]) (ys++[v]) aP H2,λaP H2=>NN dn ys aP H2,λaP v H6 ⟨y,aA,ah,B2,e2,g2,dq,hU,gH,r2,w⟩=> ?_,λaP H5 ⟨aA,ah,B2,e2,g2,dq,hU,gH,r2,w⟩=> ?_,λy H3 yy=> ?_⟩
    ·have l0:qca it m<=sizeLine:=hz;refine⟨ys,dq,by omega,n,Vy n,aA,ah,B2,dn++[y],ys++[v],⟨e2.hs.loose hU gH (λa q=>qac q) (λu hu=>by rw[dq] at hu;cases hu;exact .inl ⟨_,rfl⟩),e2.len,e2.sl⟩,?_,qae,hU,gH,r2,by rw[List.length_append,List.length_singleton];omega,by omega,eC,w⟩;have e3:hid D (upd H6 D (.lst (ys++[v])))=hid D H6:=by
      funext a
      by_cases q:a=D
      ·subst q;rw[qfh,qfh]
      ·rw[qct q,qct q,qac q]
     rw[e3];exact g2
    ·exact⟨n,Vy n,aA,ah,B2,dn,ys,e2,g2,dq,hU,gH,r2,by omega,by omega,eC,w⟩
    ·obtain⟨B3,h3,g3,r3⟩:=yl y H3 yy;have st: ∀{H4:Hp}{B4:qaF},Go H' B' H4 B4->Go H1 B1 (hid D H4) B4/\H4 D=some (.lst ys)/\B4 D=none/\∀k,B4.ad k≠some D:=λ{H4 B4} g=>by refine⟨g'.trans g.hid,g.un D _ eS gI (by simp),?_,g.off (by rw[eS];simp) gI⟩;rw[g.nb D _ eS gI (by simp) (by simp)];exact kA
     have gb: ∀{H4:Hp}{B4:qaF},Go H' B' H4 B4->∀{H5:Hp}{B5:qaF},Go H4 B4 H5 B5->True:=λ_ _ _ _=>trivial;have up: ∀{H4:Hp}{B4:qaF}{α:Type}{k k':α->Mu->Prop}{r:R α},Go H' B' H4 B4->Wn M E' H B k r->(∀a O,k a O->k' a O)->Wn M E' H4 B4 k' r:=λ{H4 B4 α k k' r} g w f=>by
      cases r with
      |no=>exact w
      |ok a m=>exact f _ _ w
      |ex c m=>
       intro H5 B5 h5 g5;have gg:=g.trans g5;obtain⟨z1,z2,z3,z4⟩:=st gg;have h6:Hs M m (hid D H5) B5:=h5.loose z3 z4 (λa q=>qct q) λu hu=>by rw[z2] at hu;cases hu;exact .inl ⟨_,rfl⟩
       have:Go H B H5 B5:=(g1.trans z1).trans (Go.more λa o e=>(qj5 e).1);exact w H5 B5 h5 this
     refine⟨ρ',μ',B3,t,bU.on h3 g3.le,r3,up g3 (Wn.bind w3) λaw af w4 cU H4 B4 e4 g4=> ?_⟩;have j1:=g3.trans g4;refine⟨aw,af,B4,e4,up j1 (Wn.bind w4) λc ah w5 H5 B5 h5 g5=> ?_⟩;have g8:=j1.trans g5;have e5:=e4.on h5 g5.le;cases c with
     |false=>obtain⟨z1,z2,z3,z4⟩:=st g8;refine qvY ⟨aw,ah,B5,e5,z1,z2,z3,z4,rd.mono g8.le,?_⟩;exact w5
     |true=>refine qyg ⟨aw,ah,B5,e5,up g8 (Wn.bind w5) λy bj w6 v H6 B6 h6 g6 r6=> ?_⟩;have j0:=g8.trans g6;obtain⟨z1,z2,z3,z4⟩:=st j0;refine⟨y,aw,bj,B6,e5.on h6 g6.le,z1,z2,z3,z4,(rd.mono j0.le).append (.one r6),(Wn.bind w6).mono λrs aZ w7=> ?_⟩;have w7:KN M H B Q (.ls (dn++y::rs)) aZ:=w7;show KN M H B Q (.ls (dn++[y]++rs)) aZ;rw[List.append_assoc];exact w7
theorem qlP:qiL Y [] (tT M E qxt):=(by rintro Z s σ H Q I ⟨ρ,O,B,ev,w⟩;exact qlR _ s σ H Q I (w H B ev.hs .refl))
theorem qrY(h:PT Y c (tT M E dt)):qiL Y [c] (tT M E dt):=qlQ h
theorem qqb(hc:X.calm=true)(hi:PI X tg iter (tI M E di))(hk:scope.kind= .function)(ai: ∀y∈scope.names,y.2≠.cell)(ax: ∀y∈scope.names,y.2= .local->scope.names.lookup y.1=some .local)(ag: ∀y∈scope.names,y.2= .free->X.env.kindOf y.1=some .cell\/X.env.kindOf y.1=some .free)(aY: ∀p∈fr,X.N[p.2]? =some p.1/\scope.names.lookup p.1=some .free)(hb: ∀(fp:List Addr)(s3:Shared)(H3:Hp),PG (qav X scope own fr fp s3 H3) tg (tG M E0 dg)/\qiL (qav X scope own fr fp s3 H3) ifs (tT M E0 dt)/\PE (qav X scope own fr fp s3 H3) elt (tE M E0 de))(hs: ∀x,foldedSetIterable iter X.env x=pure x):PE X (.ListComp elt [⟨tg,iter,ifs,0⟩] scope pos) (tN M E (qcA false own.length (fr.map (·.2)) di dg dt de)):=
 PE.weak (qo0 hc hi hk ai ax ag aY hb hs) (by rintro σ H Q ⟨ρ,O,B,ev,w⟩;exact comp_core (λz=>by cases z) ev w)
noncomputable def qwy(ow:Bool)(i:Nat)(dn:DS0 Ct):DS0 Out:=qmS i (if ow=true then dOw dn else dFz dn)
theorem qiy{y:Str}(hc:X.calm=true)(hi:PI X tg iter (tI M E di))(hk:scope.kind= .function)(ai: ∀y∈scope.names,y.2≠.cell)(ax: ∀y∈scope.names,y.2= .local->scope.names.lookup y.1=some .local)(ag: ∀y∈scope.names,y.2= .free->X.env.kindOf y.1=some .cell\/X.env.kindOf y.1=some .free)(aY: ∀p∈fr,X.N[p.2]? =some p.1/\scope.names.lookup p.1=some .free)(hb: ∀(fp:List Addr)(s3:Shared)(H3:Hp),PG (qav X scope own fr fp s3 H3) tg (tG M E0 dg)/\qiL (qav X scope own fr fp s3 H3) ifs (tT M E0 dt)/\PE (qav X scope own fr fp s3 H3) elt (tE M E0 de))(hN:X.N.Nodup)(iQ:X.N[i]? =some y)(hy:X.env.scope.names.lookup y=some .local)(bQ:swapsWith (.ListComp elt [⟨tg,iter,ifs,0⟩] scope pos) (some (.Name y py)) spos.line X.env=pure true)(hs: ∀x,foldedSetIterable iter X.env x=pure x):
  PS X (.Assign [.Name y py] (.ListComp elt [⟨tg,iter,ifs,0⟩] scope pos) spos) (tS M E (qwy ow i (qcA false own.length (fr.map (·.2)) di dg dt de))):=
 PS.weak (L2.ps_setcomp hc hi hk ai ax ag aY hb hN iQ hy bQ hs) (by
  rintro D σ H ⟨ρ,O,B,ev,w⟩;have key: ∀{d:DS0 T},tS M E (qmS i d) D σ H->tE M E d σ H _:=λ⟨ρ,O,B,ev,w⟩=>tE.of ev ((Wn.bind w).mono λt af w1 v H1 B1 h1 l1 r1=>w1 _ H1 B1 ((ev.on h1 l1.le).set r1) l1);have h1:=by
   cases ow with
   |true=>exact qjm (key ⟨ρ,O,B,ev,w⟩)
   |false=>exact qmx (λρ O c m e=>by obtain⟨it,m1,_,e⟩:=qua e;obtain⟨ys,m2,_,e⟩:=qua e;cases e;exact⟨_,rfl⟩) (key ⟨ρ,O,B,ev,w⟩)
  obtain⟨ρ,O,B,ev,w⟩:=h1;exact comp_core (λz=>by cases z) ev w)
end
end NV
namespace PL
open PySem L2 SR SetL
end PL
namespace L2
open PySem PySem.Spec PySem.Calls PyProof.Rows
section
variable{m:Str}
noncomputable def qdk(X:Cx)(CX:CXT)(C:Addr)(m:Str)(sp:Sp):Prop:= ∃(f:Addr)(fd:FuncData)(ps:List Str)(k:Nat),Cls X.K C/\quh X.K C m f/\qdl X.prog X.w X.K X.mg X.base CX k f fd ps sp/\qbb k X.A/\qa0 X.K fd ps []
theorem qlU(he:PE X o ta)(hx:qaI CX X E)(ha:PA X (e::es) t)(aG:starEach (e::es) X.env=(false,eval e X.env)::starEach es X.env)(az:(backTo pos (starEach es X.env)).any (·.1)=false)(ht:eval (.Call (.Attribute o m apos) (e::es) [] pos) X.env=(do
   let ov <-eval o X.env
   standAt apos.atName
   let (f,fi) <-holding [ov] (getMethod ov m pl)
   callWith pos f fi (backTo pos (starEach (e::es) X.env)) (backToKw pos (keywordEach [] X.env)))):
  PE X (.Call (.Attribute o m apos) (e::es) [] pos) (λσ H Q=>ta σ H λx H1=> ∃a C dx fs sp,x= .ref a/\H1 a=some (.ins C dx fs)/\fs.lookup m=none/\qdk X CX C m sp/\t σ H1 λvs H2=>sp (x::vs) H2 Q E):=by intro Z s σ H Q I h;refine W.methodCall_KW (thn (he _ s σ H _ I h) λu s1 ⟨x,H1,I1,rx,a,C,dx,fs,sp,ex,ea,l,⟨f,fd,ps,k,c,hm,F,hr,hb⟩,q⟩=> ?_) ht;subst ex;obtain rfl:u=Value.ref a:=rx;refine qdJ I1 ea c hm l ?_;refine W.callWith_K I.ok.mod.kin hm.kp (thn (ha pos _ s1 σ H1 _ I1 q) λus s2 ⟨vs,H2,I2,r,q2⟩=>⟨I2.kIn,?_⟩) aG az;exact qgT (vs:=.ref a::vs) F hr hb .nil hx I2 (.cons rfl r) (by grind)
theorem qji(he:PE X o ta)(hx:qaI CX X E)(ht:eval (.Call (.Attribute o m apos) [] [] pos) X.env=(do
   let ov <-eval o X.env
   standAt apos.atName
   let (f,fi) <-holding [ov] (getMethod ov m pl)
   callWith pos f fi (backTo pos (starEach [] X.env)) (backToKw pos (keywordEach [] X.env)))):
  PE X (.Call (.Attribute o m apos) [] [] pos) (λσ H Q=>ta σ H λx H1=> ∃a C dx fs sp,x= .ref a/\H1 a=some (.ins C dx fs)/\fs.lookup m=none/\qdk X CX C m sp/\sp [x] H1 Q E):=by intro Z s σ H Q I h;refine W.methodCall_KW (thn (he _ s σ H _ I h) λu s1 ⟨x,H1,I1,rx,a,C,dx,fs,sp,ex,ea,l,⟨f,fd,ps,k,c,hm,F,hr,hb⟩,q⟩=> ?_) ht;subst ex;obtain rfl:u=Value.ref a:=rx;refine qdJ I1 ea c hm l ?_;exact W.callWith_K0 I1.kIn hm.kp (qgT (vs:=[.ref a]) F hr hb .nil hx I1 (.cons rfl .nil) q)
end
end L2
namespace NV
open PySem L2
theorem PE.or(h:PE X e t)(h':PE X e t'):PE X e (λσ H Q=>t σ H Q\/t' σ H Q):=λZ s σ H Q I q=>q.elim (h _ s σ H Q I) (h' _ s σ H Q I)
noncomputable def qsW(o:T)(O:Mu):Option (Nat×Str×List (Str×T)):=match o with
 |.obj k=>(match O.l[k]? with|some (.ins c fs)=>some (k,c,fs)|_=>none)
 |_=>none
noncomputable def qiA(mt:Str->Option (List T->Mu->R T))(m:Str)(bG:DS0 T)(ds:DS0 (List T)):DS0 T:=dSq bG λo ρ O=>match qsW o O with
 |some (_,c,fs)=>(match mt c with
  |some f=>if(fs.lookup m).isNone=true then(ds ρ O).bind λts μ'=>f (o::ts) μ' else .no
  |none=>.no)
 |none=>.no
section
variable{m:Str}
theorem qmq{c:Str}(h:qsW t O=some (k,c,fs)):t= .obj k/\O.l[k]? =some (.ins c fs):=by
 unfold qsW at h;split at h
 ·split at h
  ·grind
  ·cases h
 ·cases h
theorem qe3{M:Md}{E:XK}{X:Cx}{da:DS0 T}{ds:DS0 (List T)}{mt:Str->Option (List T->Mu->R T)}(hM: ∀c f,mt c=some f->qdk X (CXE X.prog X.w) (clA M.K c) m (spF M f)){σ:St}{H:Hp}{Q:VK}(h:tE M E (qiA mt m da ds) σ H Q):
  tE M E da σ H λx H1=> ∃a C dx fs sp,x= .ref a/\H1 a=some (.ins C dx fs)/\fs.lookup m=none/\qdk X (CXE X.prog X.w) C m sp/\tA M E ds σ H1 λvs H2=>sp (x::vs) H2 Q E:=by
 obtain⟨ρ,O,B,ev,w⟩:=h;refine tE.of ev ((Wn.bind w).mono λx af w1 v H1 B1 h1 g1 r1=> ?_)
 change Wn M E H B _ (match qsW x af with|some (_,c,fs)=>(match mt c with|some f=>if(fs.lookup m).isNone=true then(ds ρ af).bind _ else .no|none=>.no)|none=>.no) at w1
 split at w1
 ·rename_i k c fs e;obtain⟨rfl,el⟩:=qmq e;split at w1
  ·rename_i f ef;split at w1
   ·rename_i hn;obtain⟨a,rfl,ea⟩:=qaD r1;obtain⟨u,b0,hu,dx,vs,rfl,rv⟩:=h1.at el (by simp) ea;refine⟨a,_,dx,vs,spF M f,rfl,hu,(qbU rv).2 (Option.isNone_iff_eq_none.mp hn),hM c f ef,ρ,af,B1,ev.on h1 g1.le,(Wn.bind w1).lift g1 λts ah w2 ws H2 B2 h2 g2 r2=> ?_⟩;exact⟨ah,B2,.obj k::ts,h2,.cons (qdy (g2.le.d _ _ ea)) r2,Wn.lift w2 (g1.trans g2) λ_ _ q=>KE.le q (g1.trans g2)⟩
   ·exact w1.elim
  ·exact w1.elim
 ·exact w1.elim
theorem qqk{M:Md}{E:XK}{X:Cx}{pos:Pos}{apos:Pos}{e:Expr}{o:Expr}{es:List Expr}{da:DS0 T}{ds:DS0 (List T)}{mt:Str->Option (List T->Mu->R T)}{pl:Sem Bool}(hM: ∀c f,mt c=some f->qdk X (CXE X.prog X.w) (clA M.K c) m (spF M f))(ho:PE X o (tE M E da))(hx:qaI (CXE X.prog X.w) X E)(ha:PA X (e::es) (tA M E ds))(aG:starEach (e::es) X.env=(false,eval e X.env)::starEach es X.env)(az:(backTo pos (starEach es X.env)).any (·.1)=false)(ht:eval (.Call (.Attribute o m apos) (e::es) [] pos) X.env=(do
   let ov <-eval o X.env
   standAt apos.atName
   let (f,fi) <-holding [ov] (getMethod ov m pl)
   callWith pos f fi (backTo pos (starEach (e::es) X.env)) (backToKw pos (keywordEach [] X.env)))):
  PE X (.Call (.Attribute o m apos) (e::es) [] pos) (tE M E (qiA mt m da ds)):=PE.weak (qlU ho hx ha aG az ht) λ_ _ _ h=>qe3 hM h
theorem qmO{M:Md}{E:XK}{X:Cx}{pos:Pos}{apos:Pos}{o:Expr}{da:DS0 T}{mt:Str->Option (List T->Mu->R T)}{pl:Sem Bool}(hM: ∀c f,mt c=some f->qdk X (CXE X.prog X.w) (clA M.K c) m (spF M f))(ho:PE X o (tE M E da))(hx:qaI (CXE X.prog X.w) X E)(ht:eval (.Call (.Attribute o m apos) [] [] pos) X.env=(do
   let ov <-eval o X.env
   standAt apos.atName
   let (f,fi) <-holding [ov] (getMethod ov m pl)
   callWith pos f fi (backTo pos (starEach [] X.env)) (backToKw pos (keywordEach [] X.env)))):
  PE X (.Call (.Attribute o m apos) [] [] pos) (tE M E (qiA mt m da qq3)):=PE.weak (qji ho hx ht) λσ H Q h=>by
 refine(qe3 hM h).imp λv H1 ⟨a,C,dx,fs,sp,e1,e2,e3,e4,q⟩=>⟨a,C,dx,fs,sp,e1,e2,e3,e4,?_⟩
 obtain⟨ρ,O,B,ev,w⟩:=q;exact w [] H1 B ev.hs .refl .nil
end
noncomputable def qnY(x:Str):DS0 Out:=λ_ O=>.ex x O
section
theorem qmH{x:Str}(h:PS X st (qiW (clA M.K x) E)):PS X st (tS M E (qnY x)):=PS.weak h (by rintro D σ H ⟨ρ,O,B,ev,w⟩;exact w H B ev.hs .refl)
noncomputable def unO(i:Nat):Out->Mu->R Out
 |.nx ρ,O=>.ok (.nx (ρ.set i none)) O
 |.bk ρ,O=>.ok (.bk (ρ.set i none)) O
 |.ct ρ,O=>.ok (.ct (ρ.set i none)) O
 |.rt t,O=>.ok (.rt t) O
noncomputable def qyD(cl:Str->Bool)(n:Nat)(nm:Option Nat)(db dh:DS0 Out):DS0 Out:=λρ O=>match db ρ O with
 |.ex c m=>if cl c=true then(match nm with
  |some i=>((noX (dh ((List.replicate n none).set i (some (.exc c))) m))).bind (unO i)
  |none=>noX (dh (List.replicate n none) m)) else .no
 |r=>r
variable{x n:Str}
end
noncomputable def qfN(i:Nat)(ρ:Ro)(O:Mu):Ro×Mu:=match ρ[i]? with
 |some (some (.obj k))=>(match O.l[k]? with
  |some (.ls ts)=>(ρ.set i (some (.lst ts)),O.put k .gone)
  |some (.dk kvs)=>(ρ.set i (some (.dct kvs)),O.put k .gone)
  |_=>(ρ,O))
 |_=>(ρ,O)
noncomputable def qxy(i:Nat)(d:DS0 Out):DS0 Out:=λρ O=>d (qfN i ρ O).1 (qfN i ρ O).2
section
theorem Hs.frz{M:Md}{O:Mu}{H:Hp}{B:qaF}(h:Hs M O H B){k:Nat}{c:Ct}{a:Addr}{o:HO}(e:O.l[k]? =some c)(n:c≠.gone)(ha:B.ad k=some a)(nt: ∀ps,o≠.tbl ps):Hs M (O.put k .gone) (L2.upd H a o) (B.upd a o)/\Go H B (L2.upd H a o) (B.upd a o):=by
 obtain⟨u,b0,hu,cu⟩:=h.at e n ha;have le:=h.upd_le (o:=o) b0;have hk:=(List.getElem?_eq_some_iff.mp e).1;have h':=h.put (c':=.gone) (o:=o) e n ha trivial;have off: ∀{b:Addr}{j:Nat},k≠j->B.ad j=some b->b≠a:=λ{b j} q e1 z=>q (h.ij k j a ha (by rw[<-z];exact e1));refine⟨⟨λb v z=> ?_,λb ps z=> ?_,h'.gm,λj d ej nj=> ?_,h'.ij,h'.dm,h'.lk,h'.ln⟩,⟨le,(qsX ha).un,λ_ _ e=>.inl e,(qsX (H:=H) (o:=o) ha).dm,λb v e n _ _=> ?_⟩⟩
 ·have z:L2.upd B.hp a o b=some v:=z;by_cases q:b=a
  ·subst q;rw[qae] at z⊢;exact z
  ·rw[qac q] at z⊢;exact h.bh b v z
 ·have z:L2.upd B.hp a o b=some (.tbl ps):=z;by_cases q:b=a
  ·subst q;rw[qae] at z;grind
  ·rw[qac q] at z;exact h.bt b ps z
 ·obtain⟨b,v,e1,e2,e3,e4⟩:=h'.st j d ej nj;have q:k≠j:=λz=>by
   subst z;have ej:(O.l.set k .gone)[k]? =some d:=ej
   simp_all
  exact⟨b,v,e1,by show L2.upd B.hp a o b=_;rw[qac (off q e1)];exact e2,e3,e4.mono le⟩
 ·show L2.upd B.hp a o b=_;rw[qac (λz=>n k (by rw[z];exact ha))]
theorem qtu(i:Nat)(h:PS X st (tS M E d)):PS X st (tS M E (qxy i d)):=λZ s σ H D I ⟨ρ,O,B,ev,w⟩=>by
 have go: ∀{H':Hp}{B':qaF}{μ':Mu}{ρ':Ro},Inv X Z σ H' s->Ev M ρ' μ' σ H' B'->Go H B H' B'->qfN i ρ O=(ρ',μ')->wpAny (model X.prog X.w) X.A (exec st X.env) (SP X Z D) X.xe s:=λ{H' B' μ' ρ'} I' bU g e=>by have w:Wn M E H B _ (d (qfN i ρ O).1 (qfN i ρ O).2):=w;rw[e] at w;exact h Z s σ H' D I' ⟨_,_,B',bU,Wn.lift w g λ_ _ q=>KS.le q g⟩
 have fA: ∀{μ':Mu}{H':Hp}{B':qaF}{t:T}{v:V},Hs M μ' H' B'->Go H B H' B'->σ[i]? =some (some v)->Rep M.K B' t v->Ev M (ρ.set i (some t)) μ' σ H' B':=λ{μ' H' B' t v} h g e r=>by
  have:=(ev.on h g.le).set (i:=i) r;have e2:σ.set i (some v)=σ:=by
   refine List.ext_getElem? λj=> ?_;rw[List.getElem?_set];split
   ·rename_i q;subst q;rw[e,if_pos (List.getElem?_eq_some_iff.mp e).1]
   ·rfl
  rw[e2] at this;exact this
 cases q:ρ[i]? with
 |none=>exact go I ev .refl (by unfold qfN;rw[q])
 |some x=>
  cases x with
  |none=>exact go I ev .refl (by unfold qfN;rw[q])
  |some t=>
   cases t with
   |obj k=>
    obtain⟨v,j8,rv⟩:=ev.sl i _ q;obtain⟨a,rfl,ea⟩:=qaD rv;cases el:O.l[k]? with
    |none=>exact go I ev .refl (by unfold qfN;rw[q];dsimp only;rw[el])
    |some c=>
     cases c with
     |ls ts=>obtain⟨o,b0,ho,vs,rfl,r⟩:=ev.hs.at el (by simp) ea;obtain⟨h,g⟩:=ev.hs.frz (o:=.lst vs) el (by simp) ea (λps z=>by cases z);rw[qre ho] at h g;exact go I (fA h g j8 (qbP qae (r.mono g.le))) g (by unfold qfN;rw[q];dsimp only;rw[el])
     |dk ts=>obtain⟨o,b0,ho,vs,rfl,r⟩:=ev.hs.at el (by simp) ea;obtain⟨ob,I2⟩:=PL.Inv.freeze I ho;obtain⟨h,g⟩:=ev.hs.frz (o:=.frz ob (.dK vs)) el (by simp) ea (λps z=>by cases z);exact go I2 (fA h g j8 (qjv qae (r.mono g.le))) g (by unfold qfN;rw[q];dsimp only;rw[el])
     |_=>exact go I ev .refl (by unfold qfN;rw[q];dsimp only;rw[el])
   |_=>exact go I ev .refl (by unfold qfN;rw[q])
end
noncomputable def qui(kvs:List (Key×T))(k:Key):Option T:=(kvs.find? λkv=>decide (kv.1=k)).map (·.2)
mutual
noncomputable def eqT:T->T->Bool
 |.non,.non=>true
 |.bl a,.bl b=>a==b
 |.bl a,.int b=>(if a then 1 else 0)==b
 |.int a,.bl b=>a==(if b then 1 else 0)
 |.int a,.int b=>a==b
 |.str a,.str b=>a==b
 |.tup xs,.tup ys=>eqTs xs ys
 |.lst xs,.lst ys=>eqTs xs ys
 |.dct xs,.dct ys=>xs.length==ys.length&&eqTd xs ys
 |_,_=>false
noncomputable def eqTs:List T->List T->Bool
 |[],[]=>true
 |x::xs,y::ys=>eqT x y&&eqTs xs ys
 |_,_=>false
noncomputable def eqTd:List (Key×T)->List (Key×T)->Bool
 |[],_=>true
 |(k,x)::xs,ys=>(match qui ys k with|some y=>eqT x y|none=>false)&&eqTd xs ys
end
noncomputable def okT:Nat->T->Bool
 |_,.non=>true
 |_,.bl _=>true
 |_,.int _=>true
 |_,.str _=>true
 |n+1,.tup ts=>ts.all (okT n)
 |n+1,.lst ts=>ts.all (okT n)
 |_,_=>false
noncomputable def qep:T->Bool
 |.non=>true
 |.bl _=>true
 |.int _=>true
 |.str _=>true
 |_=>false
noncomputable def vOf:T->V
 |.bl b=>.bl b
 |.int b=>.int b
 |.str b=>.str b
 |_=>.non
noncomputable def LeH(B:qaF)(H:Hp):Prop:= ∀a o,B a=some o->H a=some o
abbrev qjf(xs ys:List T)(j:Nat):Bool:=eqT (xs.getD j .non) (ys.getD j .non)
theorem qcb: ∀xs ys:List T,eqTs xs ys=((List.range (min xs.length ys.length)).all (qjf xs ys)&&xs.length==ys.length)
 |[],[]=>rfl
 |[],_::_=>rfl
 |_::_,[]=>rfl
 |x::xs,y::ys=>by
  rw[eqTs,qcb xs ys];have m:min (x::xs).length (y::ys).length=(min xs.length ys.length).succ:=by simp
  rw[m,List.range_succ_eq_map,List.all_cons,List.all_map,<-Bool.and_assoc];have e:(qjf (x::xs) (y::ys)∘Nat.succ)=qjf xs ys:=rfl;rw[e,show qjf _ _ 0=eqT x y from rfl];simp
theorem qhz(h:xs.length=ys.length):eqTs xs ys=(List.range xs.length).all (qjf xs ys):=by rw[qcb,h,Nat.min_self,beq_self_eq_true,Bool.and_true]
theorem qp1(h:xs.length≠ys.length):eqTs xs ys=false:=by rw[qcb];simp[h]
section
theorem qbm(f:qep t=true)(r:Rep K B t x):x=vOf t:=by cases t<;>first|exact qcR r|exact qbu r|exact qah r|exact qaH r|cases f
theorem qa8(f:qep t=true):qgh (vOf t)=true:=by cases t<;>first|rfl|cases f
theorem qhA(ft:qep t=true)(fu:qep u=true):eqT t u=eqV (vOf t) (vOf u):=by cases t<;>cases u<;>first|rfl|(cases ft;done)|(cases fu)
theorem qiR(ft:qep t=true)(fu:qep u=true)(e:vOf t=vOf u):t=u:=by cases t<;>cases u<;>first|rfl|(cases e;rfl)|(cases e;done)|(cases ft;done)|(cases fu)
theorem qce(ft:qep t=true)(e:vOf t= .ref p):False:=by cases t<;>first|cases e|cases ft
theorem qbH(f:qep t=true):eqT t (.lst ts)=false/\eqT (.lst ts) t=false/\eqT t (.tup ts)=false/\eqT (.tup ts) t=false:=by cases t<;>first|exact⟨rfl,rfl,rfl,rfl⟩|cases f
theorem qbV{n:Nat}{ts:List T}(h:ts.all (okT n)=true){j:Nat}(hj:j<ts.length):okT n (ts.getD j .non)=true:=by
 simp_all
theorem qpe(h:okT n (.lst ts)=true): ∃m,n=m+1/\ts.all (okT m)=true:=by
 cases n with
 |zero=>cases h
 |succ m=>exact⟨m,rfl,h⟩
theorem qpd(h:okT n (.tup ts)=true): ∃m,n=m+1/\ts.all (okT m)=true:=by
 cases n with
 |zero=>cases h
 |succ m=>exact⟨m,rfl,h⟩
theorem qaJ(h:okT n t=true):qep t=true\/(∃ts m,t= .lst ts/\n=m+1/\ts.all (okT m)=true)\/∃ts m,t= .tup ts/\n=m+1/\ts.all (okT m)=true:=by
 cases t with
 |lst ts=>obtain⟨m,a,b⟩:=qpe h;simp_all
 |tup ts=>obtain⟨m,a,b⟩:=qpd h;simp_all
 |_=>first|exact .inl rfl|(cases n<;>cases h)
theorem qbI: ∀(n:Nat)(t:T),okT n t=true->eqT t t=true:=by
 intro n
 induction n with
 |zero=>intro t h;cases t<;>first|(simp[eqT];done)|cases h
 |succ n ih=>
  have many: ∀ts:List T,ts.all (okT n)=true->eqTs ts ts=true:=λts=>by
   induction ts with
   |nil=>intro _;rfl
   |cons t ts it=>intro h;rw[List.all_cons,Bool.and_eq_true] at h;rw[eqTs,ih t h.1,it h.2];rfl
  intro t h;cases t<;>first|(simp[eqT];done)|(rw[eqT];exact many _ h)|cases h
end
section
theorem qcQ(I:Inv X Z σ H s)(le:LeH B H): ∀(n m:Nat)(t u:T)(x:V),okT n t=true->okT m u=true->Rep X.K B t x->Rep X.K B u x->t=u:=by
 intro n
 induction n with
 |zero=>
  intro m t u x ht hu r r'
  rcases qaJ ht with f|⟨_,_,_,e,_⟩|⟨_,_,_,e,_⟩
  ·have e1:=qbm f r
   rcases qaJ hu with g|⟨us,m',rfl,_,_⟩|⟨us,m',rfl,_,_⟩
   ·exact qiR f g (e1.symm.trans (qbm g r'))
   ·obtain⟨p,vs,rfl,_⟩:=qaB r';exact(qce f e1.symm).elim
   ·obtain⟨p,vs,rfl,_⟩:=qay r';exact(qce f e1.symm).elim
  ·cases e
  ·cases e
 |succ n ih=>
  have many: ∀(m:Nat)(ts us:List T)(vs:List V),ts.all (okT n)=true->us.all (okT m)=true->Reps X.K B ts vs->Reps X.K B us vs->ts=us:=λm ts=>by
   induction ts with
   |nil=>
    intro us vs _ _ r r';cases r.inv0;cases us with
    |nil=>rfl
    |cons _ _=>obtain⟨_,_,e,_⟩:=r'.inv;cases e
   |cons t ts it=>
    intro us vs ht hu r r';obtain⟨v,cC,rfl,a,b⟩:=r.inv;cases us with
    |nil=>cases r'.inv0
    |cons u us=>obtain⟨v',vs'',e,a',b'⟩:=r'.inv;cases e;rw[List.all_cons,Bool.and_eq_true] at ht hu;rw[ih m t u v ht.1 hu.1 a a',it us cC ht.2 hu.2 b b']
  intro m t u x ht hu r r'
  rcases qaJ ht with f|⟨ts,n',rfl,e,dR⟩|⟨ts,n',rfl,e,dR⟩
  ·have e1:=qbm f r
   rcases qaJ hu with g|⟨us,m',rfl,_,_⟩|⟨us,m',rfl,_,_⟩
   ·exact qiR f g (e1.symm.trans (qbm g r'))
   ·obtain⟨p,vs,rfl,_⟩:=qaB r';exact(qce f e1.symm).elim
   ·obtain⟨p,vs,rfl,_⟩:=qay r';exact(qce f e1.symm).elim
  ·cases e;obtain⟨p,vs,rfl,hp,rs⟩:=qaB r
   rcases qaJ hu with g|⟨us,m',rfl,_,dQ⟩|⟨us,m',rfl,_,_⟩
   ·exact(qce g (qbm g r').symm).elim
   ·obtain⟨p',cC,e,aj,bo⟩:=qaB r';cases e;rw[hp] at aj;cases aj;rw[many m' ts us vs dR dQ rs bo]
   ·obtain⟨p',cC,e,aj,_⟩:=qay r';cases e;rw[hp] at aj;cases aj
  ·cases e;obtain⟨p,vs,rfl,hp,rs⟩:=qay r
   rcases qaJ hu with g|⟨us,m',rfl,_,_⟩|⟨us,m',rfl,_,dQ⟩
   ·exact(qce g (qbm g r').symm).elim
   ·obtain⟨p',cC,e,aj,_⟩:=qaB r';cases e;rw[hp] at aj;cases aj
   ·obtain⟨p',cC,e,aj,bo⟩:=qay r';cases e;rw[hp] at aj;cases aj;rw[many m' ts us vs dR dQ rs bo]
open SeqAt in
theorem qnt(hA:A.units<cLine)(rv:qau vs is)(bY:qau ws bI)(l3:vs.length=ts.length)(l4:ws.length=us.length)(it: ∀j (a1:j<(List.toArray is).size) (a2:j<(List.toArray bI).size),EqAt A.in1 s (List.toArray is)[j] (List.toArray bI)[j] (qjf ts us j)):
  (s.heap.IsList p (List.toArray is)->s.heap.IsList p' (List.toArray bI)->RcAt A s (.ref p) (.ref p') (eqTs ts us)/\RcNeAt A s (.ref p) (.ref p') (!eqTs ts us))/\
  (s.heap.IsTuple p (List.toArray is)->s.heap.IsTuple p' (List.toArray bI)->RcAt A s (.ref p) (.ref p') (eqTs ts us)/\RcNeAt A s (.ref p) (.ref p') (!eqTs ts us)):=by
 have l1:=rv.length;have l2:=bY.length;have e1:(List.toArray is).size=ts.length:=by simp;lia
 have e2:(List.toArray bI).size=us.length:=by simp;lia
 refine⟨λpl aS=> ?_,λpl aS=> ?_⟩
 ·by_cases hl:ts.length=us.length
  ·rw[qhz hl];have q1:=RcAt.lists (A:=A) (s:=s) (e:=qjf ts us) pl aS (by simp;lia) hA it;have q2:=RcNeAt.lists (A:=A) (s:=s) (e:=qjf ts us) pl aS (by simp;lia) hA it;rw[e1] at q1 q2;exact⟨q1,q2⟩
  ·rw[qp1 hl];exact⟨RcAt.lists_lengths pl aS (by simp;lia) hA,RcNeAt.lists_lengths pl aS (by simp;lia) hA⟩
 ·rw[qcb];have q1:=RcAt.tuples (A:=A) (s:=s) (e:=qjf ts us) pl aS hA it;have q2:=RcNeAt.tuples (A:=A) (s:=s) (e:=qjf ts us) pl aS hA it;rw[e1,e2] at q1 q2;exact⟨q1,q2⟩
open SeqAt in
theorem qeS{X:Cx}(I:Inv X Z σ H s)(le:LeH B H): ∀(n m:Nat)(A:Around)(t u:T)(x y:V)(v w:Value),okT n t=true->okT m u=true->A.units+n<cLine->Rep X.K B t x->Rep X.K B u y->RelV x v->RelV y w->
  EqAt A s v w (eqT t u)/\RcAt A s v w (eqT t u)/\RcNeAt A s v w (!eqT t u):=by
 intro n
 induction n with
 |zero=>
  intro m A t u x y v w ht hu hc r r' rv ar;have hA:A.units<cLine:=by lia
  rcases qaJ ht with f|⟨_,_,_,e,_⟩|⟨_,_,_,e,_⟩
  ·cases qbm f r;have fx:=qa8 f
   rcases qaJ hu with g|⟨us,m',rfl,_,_⟩|⟨us,m',rfl,_,_⟩
   ·cases qbm g r';rw[qhA f g];exact⟨qnU rv ar fx (qa8 g),PL.rc_ff rv fx ar (qa8 g)⟩
   ·obtain⟨p,vs,rfl,hp,_⟩:=qaB r';cases ar;obtain⟨is,_,pl,_⟩:=I.list (SqL.of (le _ _ hp));have q:=PL.eq_fl rv fx pl.isList hA;rw[(qbH f).1];exact⟨q.1,q.2.2.1,q.2.2.2.2.1⟩
   ·obtain⟨p,vs,rfl,hp,_⟩:=qay r';cases ar;obtain⟨is,_,pl,_⟩:=I.tuple (SqT.of (le _ _ hp));have q:=PL.eq_ft rv fx pl hA;rw[(qbH f).2.2.1];exact⟨q.1,q.2.2.1,q.2.2.2.2.1⟩
  ·cases e
  ·cases e
 |succ n ih=>
  intro m A t u x y v w ht hu hc r r' rv ar;have hA:A.units<cLine:=by lia
  rcases qaJ ht with f|⟨ts,n',rfl,e,dR⟩|⟨ts,n',rfl,e,dR⟩
  ·cases qbm f r;have fx:=qa8 f
   rcases qaJ hu with g|⟨us,m',rfl,_,_⟩|⟨us,m',rfl,_,_⟩
   ·cases qbm g r';rw[qhA f g];exact⟨qnU rv ar fx (qa8 g),PL.rc_ff rv fx ar (qa8 g)⟩
   ·obtain⟨p,vs,rfl,hp,_⟩:=qaB r';cases ar;obtain⟨is,_,pl,_⟩:=I.list (SqL.of (le _ _ hp));have q:=PL.eq_fl rv fx pl.isList hA;rw[(qbH f).1];exact⟨q.1,q.2.2.1,q.2.2.2.2.1⟩
   ·obtain⟨p,vs,rfl,hp,_⟩:=qay r';cases ar;obtain⟨is,_,pl,_⟩:=I.tuple (SqT.of (le _ _ hp));have q:=PL.eq_ft rv fx pl hA;rw[(qbH f).2.2.1];exact⟨q.1,q.2.2.1,q.2.2.2.2.1⟩
  ·cases e;obtain⟨p,vs,rfl,hp,rs⟩:=qaB r;cases rv;obtain⟨is,bX,pl,_⟩:=I.list (SqL.of (le _ _ hp))
   rcases qaJ hu with g|⟨us,m',rfl,_,dQ⟩|⟨us,m',rfl,_,_⟩
   ·cases qbm g r';have q:=PL.eq_fl ar (qa8 g) pl.isList hA;rw[(qbH g).2.1];exact⟨q.2.1,q.2.2.2.1,q.2.2.2.2.2⟩
   ·obtain⟨p',ws,rfl,aj,bo⟩:=qaB r';cases ar;obtain⟨bI,aN,aS,_⟩:=I.list (SqL.of (le _ _ aj));have q:=(qnt (p:=p) (p':=p') hA bX aN rs.length bo.length λj a1 a2=>by
     have b1:j<ts.length:=by have:=bX.length;have:=rs.length;simp at a1;lia
     have b2:j<us.length:=by have:=aN.length;have:=bo.length;simp at a2;lia
     exact(ih m' A.in1 _ _ _ _ _ _ (qbV dR b1) (qbV dQ b2) (by show A.units+1+n<cLine;lia) (rs.getD j b1) (bo.getD j b2) (RH.valsArr bX a1) (RH.valsArr aN a2)).1).1 pl.isList aS.isList
    refine⟨?_,q⟩;by_cases z:p=p'
    ·subst z;have e:=qcQ I le (n+1) m _ _ _ ht hu r r';rw[<-e,qbI _ _ ht];exact EqAt.same _
    ·exact EqAt.of_refs z q.1
   ·obtain⟨p',ws,rfl,aj,bo⟩:=qay r';cases ar;obtain⟨bI,aN,aS,_⟩:=I.tuple (SqT.of (le _ _ aj));exact⟨EqAt.list_tuple pl.isList aS hA,RcAt.list_tuple pl.isList aS hA,RcNeAt.list_tuple pl.isList aS hA⟩
  ·cases e;obtain⟨p,vs,rfl,hp,rs⟩:=qay r;cases rv;obtain⟨is,bX,pl,_⟩:=I.tuple (SqT.of (le _ _ hp))
   rcases qaJ hu with g|⟨us,m',rfl,_,_⟩|⟨us,m',rfl,_,dQ⟩
   ·cases qbm g r';have q:=PL.eq_ft ar (qa8 g) pl hA;rw[(qbH g).2.2.2];exact⟨q.2.1,q.2.2.2.1,q.2.2.2.2.2⟩
   ·obtain⟨p',ws,rfl,aj,bo⟩:=qaB r';cases ar;obtain⟨bI,aN,aS,_⟩:=I.list (SqL.of (le _ _ aj));exact⟨EqAt.tuple_list pl aS.isList hA,RcAt.tuple_list pl aS.isList hA,RcNeAt.tuple_list pl aS.isList hA⟩
   ·obtain⟨p',ws,rfl,aj,bo⟩:=qay r';cases ar;obtain⟨bI,aN,aS,_⟩:=I.tuple (SqT.of (le _ _ aj));have q:=(qnt (p:=p) (p':=p') hA bX aN rs.length bo.length λj a1 a2=>by
     have b1:j<ts.length:=by have:=bX.length;have:=rs.length;simp at a1;lia
     have b2:j<us.length:=by have:=aN.length;have:=bo.length;simp at a2;lia
     exact(ih m' A.in1 _ _ _ _ _ _ (qbV dR b1) (qbV dQ b2) (by show A.units+1+n<cLine;lia) (rs.getD j b1) (bo.getD j b2) (RH.valsArr bX a1) (RH.valsArr aN a2)).1).2 pl aS
    refine⟨?_,q⟩;by_cases z:p=p'
    ·subst z;have e:=qcQ I le (n+1) m _ _ _ ht hu r r';rw[<-e,qbI _ _ ht];exact EqAt.same _
    ·exact EqAt.of_refs z q.1
end
noncomputable def qiQ{κ:Type}[DecidableEq κ](kvs:List (κ×T))(k:κ):Option T:=(kvs.find? λkv=>decide (kv.1=k)).map (·.2)
theorem qbD{κ:Type}[DecidableEq κ](k:κ): ∀{ts:List (κ×T)}{vs:List (κ×V)},qaY K B ts vs->(∀t,qiQ ts k=some t->∃v,qfO vs k=some v/\Rep K B t v)/\(qiQ ts k=none->qfO vs k=none)
 |[],vs,r=>by have r:vs=[]:=r;rw[r];exact⟨(λt e=>by cases e),λ_=>rfl⟩
 |(k',t)::ts,_,⟨v,r,e,a,b⟩=>by
  have ih:=qbD k b;subst e;unfold qiQ qfO;rw[List.find?_cons,List.find?_cons];by_cases c:k'=k
  ·simp_all
  ·rw[decide_eq_false c];exact ih
section
noncomputable def EqW(P:Program)(w:World)(A:Around)(s:Shared)(x y:Value)(b:Bool):Prop:= ∀(E:Value->Shared->Prop)(Q:Bool->Shared->Prop),Q b s->wpAny (model P w) A (eqBool x y) Q E s
noncomputable def RcW(P:Program)(w:World)(op:CmpOp)(A:Around)(s:Shared)(x y:Value)(b:Bool):Prop:= ∀(E:Value->Shared->Prop)(Q:Value->Shared->Prop),Q (.bool b) s->wpAny (model P w) A (richCompare op x y) Q E s
noncomputable def Far(xs ys:Array Value)(e:Nat->Bool)(r:List (Value×Value)):Prop:= ∃i,i<=min xs.size ys.size/\r=(xs.toList.zip ys.toList).drop i/\((List.range (min xs.size ys.size)).take i).all e=true
theorem Far.next(h:Far xs ys e (p::r)): ∃i,∃(h1:i<xs.size)(h2:i<ys.size),p=(xs[i],ys[i])/\(e i=true->Far xs ys e r)/\(e i=false->(List.range (min xs.size ys.size)).all e=false):=by
 obtain⟨i,hi,hr,ha⟩:=h;have hZ:(xs.toList.zip ys.toList).length=min xs.size ys.size:=by simp
 have lt:i<(xs.toList.zip ys.toList).length:=by
  grind
 rw[List.drop_eq_getElem_cons lt] at hr;have h1:i<xs.size:=by omega
 have h2:i<ys.size:=by omega
 refine⟨i,h1,h2,?_,λhe=>⟨i+1,by omega,(List.cons.inj hr).2,?_⟩,λhe=> ?_⟩
 ·rw[(List.cons.inj hr).1];simp
 ·rw[List.take_succ,List.all_append,ha,List.getElem?_range (by omega)];simp[he]
 grind
theorem Far.done(h:Far xs ys e []):(List.range (min xs.size ys.size)).all e=true:=by
 obtain⟨i,hi,hr,ha⟩:=h;have:min xs.size ys.size<=i:=by
  simp_all
 rwa [List.take_of_length_le (by simpa using this)] at ha
theorem Far.start:Far xs ys e (xs.toList.zip ys.toList):=⟨0,Nat.zero_le _,rfl,rfl⟩
theorem qoC(hl:s.heap.IsTuple l xs)(hb:s.heap.IsTuple b ys)(hu:A.units<cLine)(he: ∀j (h1:j<xs.size) (h2:j<ys.size),EqW P w A.in1 s xs[j] ys[j] (e j)):
  RcW P w .Eq A s (.ref l) (.ref b) ((List.range (min xs.size ys.size)).all e&&xs.size==ys.size):=λE Q h=>by
 obtain⟨⟨c1,d1,a1,q1⟩,ho,hc,n,hd⟩:=id hl;obtain⟨⟨c2,d2,a2,q2⟩,aV,b7,n2,hd2⟩:=id hb;simp only at hc b7 hd hd2;subst hc b7 hd hd2;have t1:s.TypeIs (.ref l) "tuple" :=⟨_,ho,rfl⟩
 have t2:s.TypeIs (.ref b) "tuple" :=⟨_,aV,rfl⟩
 refine wpAny_richCompare_same_room (op:=.Eq) t1 t2 F.slot_tuple_eq (wpAny_call_entry F.slot_tuple_eq t1 F.entry_tuple_eq ?_ (F.args_tuple_eq_2 _ _)) hu;obtain⟨hp,g,d,tk,os⟩:=s;have f2:=AutoSeq1.sub_tuple_tuple
 wp_walk using wpAny_loadPart' ho,wpAny_loadPart' aV,wpAny_forIn_list _ (λr c s'=>c.1=none/\s'=⟨hp,g,d,tk,os⟩/\Far xs ys e r) _
 case turn=>
  rintro p r c s' ⟨hc,rfl,fr⟩;obtain⟨i,h1,h2,rfl,ht,hf⟩:=fr.next;refine Va (he i h1 h2 _ _ ?_);cases q:e i with
  |true=>wp_walk;exact⟨rfl,rfl,ht q⟩
  |false=>wp_walk;exact⟨_,rfl,λz=>(nomatch z),by rw[hf q] at h;exact h⟩
 case fin=>
  rintro⟨c1,c2⟩ s' ⟨hc,rfl,fr⟩;simp only at hc;subst hc;rw[fr.done] at h
  wp_walk
  exact⟨_,rfl,λz=>(nomatch z),by simpa [Builtin.Tuple.tupleCompareSizes,bne] using h⟩
 case h=>exact⟨rfl,rfl,.start⟩
theorem qlF(hl:s.heap.IsTuple l xs)(hb:s.heap.IsTuple b ys)(hu:A.units<cLine)(he: ∀j (h1:j<xs.size) (h2:j<ys.size),EqW P w A.in1 s xs[j] ys[j] (e j)):
  RcW P w .NotEq A s (.ref l) (.ref b) (!((List.range (min xs.size ys.size)).all e&&xs.size==ys.size)):=λE Q h=>by
 obtain⟨⟨c1,d1,a1,q1⟩,ho,hc,n,hd⟩:=id hl;obtain⟨⟨c2,d2,a2,q2⟩,aV,b7,n2,hd2⟩:=id hb;simp only at hc b7 hd hd2;subst hc b7 hd hd2;have t1:s.TypeIs (.ref l) "tuple" :=⟨_,ho,rfl⟩
 have t2:s.TypeIs (.ref b) "tuple" :=⟨_,aV,rfl⟩
 refine wpAny_richCompare_same_room (op:=.NotEq) t1 t2 F.slot_tuple_ne (wpAny_call_entry F.slot_tuple_ne t1 F.entry_tuple_ne ?_ (F.args_tuple_ne_2 _ _)) hu;obtain⟨hp,g,d,tk,os⟩:=s;have f2:=AutoSeq1.sub_tuple_tuple
 wp_walk using wpAny_loadPart' ho,wpAny_loadPart' aV,wpAny_forIn_list _ (λr c s'=>c.1=none/\s'=⟨hp,g,d,tk,os⟩/\Far xs ys e r) _
 case turn=>
  rintro p r c s' ⟨hc,rfl,fr⟩;obtain⟨i,h1,h2,rfl,ht,hf⟩:=fr.next;refine Va (he i h1 h2 _ _ ?_);cases q:e i with
  |true=>wp_walk;exact⟨rfl,rfl,ht q⟩
  |false=>wp_walk;exact⟨_,rfl,λz=>(nomatch z),by rw[hf q] at h;exact h⟩
 case fin=>
  rintro⟨c1,c2⟩ s' ⟨hc,rfl,fr⟩;simp only at hc;subst hc;rw[fr.done] at h
  wp_walk
  exact⟨_,rfl,λz=>(nomatch z),by simpa [Builtin.Tuple.tupleCompareSizes,bne] using h⟩
 case h=>exact⟨rfl,rfl,.start⟩
theorem qhy(d9:l≠b)(h:RcW P w .Eq A s (.ref l) (.ref b) k):EqW P w A s (.ref l) (.ref b) k:=λE Q hq=>by refine wpAny_holding (wpAny_ite_split (λz=>absurd (by grind) d9) λ_=> ?_);exact Va (h E _ (Vd hq))
theorem qoD{P:Program}{w:World}{A:Around}{s:Shared}{l:Addr}{b:Addr}{K:Type}[DecidableEq K]{knd:KeyKind P w K}{ka kb:List (K×Value)}{r:Bool}(ha:(l==sysModules)=false)(hb:(b==sysModules)=false)(da:s.heap.DictOf knd l ka)(db:s.heap.DictOf knd b kb)(hu:A.units<cLine)(hits:ka.length=kb.length->W.KeqHits A.in1 s kb ka r):
  RcW P w .Eq A s (.ref l) (.ref b) (ka.length==kb.length&&r)/\RcW P w .NotEq A s (.ref l) (.ref b) (!(ka.length==kb.length&&r)):=
 ⟨λE Q h=>W.keq_eq ha hb da db hu hits h,λE Q h=>W.keq_ne ha hb da db hu hits h⟩
end
noncomputable def okP:Nat->T->T->Bool
 |0,_,_=>false
 |n+1,t,u=>(okT 4 t&&okT 4 u)||(match t,u with
  |.tup a,.tup b=>(List.range (min a.length b.length)).all λj=>okP n (a.getD j .non) (b.getD j .non)
  |.dct a,.dct b=>a.all (λp=>okT 3 p.2)&&b.all (λp=>okT 3 p.2)
  |_,_=>false)
section
theorem qrd(kvs:List (Key×T))(k:Key):qui kvs k=qiQ kvs k:=rfl
theorem qj4{X:Cx}{Z:List (Addr×Obj)}{σ:St}{H:Hp}{B:qaF}{s:Shared}(I:Inv X Z σ H s)(le:LeH B H){A:Around}(hA:A.units+3<cLine){b:List (Key×T)}{ub:List (Key×V)}{kb:List (Key×Value)}(rb:qaY X.K B b ub)(vb:L2.KV ub kb)(ob:b.all (λp=>okT 3 p.2)=true):
  ∀{a:List (Key×T)}{ua:List (Key×V)}{ka:List (Key×Value)},qaY X.K B a ua->L2.KV ua ka->a.all (λp=>okT 3 p.2)=true->W.KeqHits A s kb ka (eqTd a b)
 |[],ua,ka,r,v,_=>by subst r;cases v;rw[eqTd];exact .nil
 |(k,t)::a,ua,ka,⟨x,r,e,ht,h⟩,v,o=>by
  subst e;rw[List.all_cons,Bool.and_eq_true] at o;cases v with
  |cons p q=>
   rename_i y ys;obtain⟨k',vx⟩:=y;have ek:k=k':=p.1;subst ek;have ih:=qj4 I le hA rb vb ob h q o.2;have vl:=vb.val k;rw[eqTd,qrd];cases z:qiQ b k with
   |none=>have z2:=(qbD k rb).2 z;rw[z2] at vl;exact .miss (qeB.none_of vl)
   |some u=>
    obtain⟨w,z2,ru⟩:=(qbD k rb).1 u z;rw[z2] at vl;obtain⟨vw,e1,e2⟩:=qeB.some_of vl;have ou:okT 3 u=true:=by obtain⟨kv,e3,e4⟩:=Option.map_eq_some_iff.mp z;rw[<-e4];exact List.all_eq_true.mp ob kv (List.mem_of_find?_eq_some e3)
    exact .hit e1 (qeS I le 3 3 A t u x w vx vw o.1 ou hA ht ru p.2 e2).1 ih
theorem qgX(I:Inv X Z σ H s)(le:LeH B H): ∀{a b:List (Key×T)}{us:List (Key×V)},qaY X.K B a us->qaY X.K B b us->a.all (λp=>okT 3 p.2)=true->b.all (λp=>okT 3 p.2)=true->a=b
 |[],b,us,r,r',_,_=>by
  subst r;cases b with
  |nil=>rfl
  |cons p b=>obtain⟨_,_,e,_⟩:=r';cases e
 |(k,t)::a,b,us,⟨v,r,e,h,h2⟩,r',o,o'=>by
  subst e;cases b with
  |nil=>cases r'
  |cons p b=>obtain⟨k',t'⟩:=p;obtain⟨v',q,e,h',bF⟩:=r';cases e;rw[List.all_cons,Bool.and_eq_true] at o o';rw[qcQ I le 3 3 t t' v o.1 o'.1 h h',qgX I le h2 bF o.2 o'.2]
theorem qc9(nd:(b.map (·.1)).Nodup)(o:b.all (λp=>okT 3 p.2)=true): ∀{a:List (Key×T)},(∀p∈a,p∈b)->eqTd a b=true
 |[],_=>rfl
 |(k,t)::a,h=>by
  have hm:=h _ Vj;have e:qui b k=some t:=by
   unfold qui;have:b.find? (λkv=>decide (kv.1=k))=some (k,t):=by
    clear o h
    induction b with
    |nil=>cases hm
    |cons q b ih=>
     rw[List.map_cons,List.nodup_cons] at nd
     rcases List.mem_cons.mp hm with rfl|hm
     ·simp
     ·rw[List.find?_cons_of_neg (by
       grind)]
      exact ih nd.2 hm
   rw[this];rfl
  rw[eqTd,e,qc9 nd o λp hp=>h p (List.mem_cons_of_mem _ hp)];show(eqT t t&&true)=true;rw[qbI 3 t (List.all_eq_true.mp o _ hm)];rfl
theorem qpy{us:List (Key×V)}{vs:List (Key×Value)}(r:L2.KV us vs):us.map (·.1)=vs.map (·.1):=by
 induction r with
 |nil=>rfl
 |cons p _ ih=>simp_all
theorem qeQ: ∀{a:List (Key×T)}{us:List (Key×V)},qaY K B a us->a.map (·.1)=us.map (·.1)
 |[],us,r=>by rw[r];rfl
 |(k,t)::a,us,⟨v,r,e,_,h⟩=>by rw[e,List.map_cons,List.map_cons,qeQ h]
theorem qrD{X:Cx}{Z:List (Addr×Obj)}{σ:St}{H:Hp}{B:qaF}{s:Shared}(I:Inv X Z σ H s)(le:LeH B H): ∀(n:Nat)(A:Around)(t u:T)(x y:V)(v w:Value),okP n t u=true->A.units+4+n<cLine->Rep X.K B t x->Rep X.K B u y->RelV x v->RelV y w->
  EqW X.prog X.w A s v w (eqT t u)/\RcW X.prog X.w .Eq A s v w (eqT t u)/\RcW X.prog X.w .NotEq A s v w (!eqT t u)/\(x=y->eqT t u=true):=by
 intro n
 induction n with
 |zero=>intro A t u x y v w h;cases h
 |succ n ih=>
  intro A t u x y v w h hu r r' rv ar;unfold okP at h;rw[Bool.or_eq_true] at h
  rcases h with h|h
  ·rw[Bool.and_eq_true] at h;have q:=qeS I le 4 4 A t u x y v w h.1 h.2 (by omega) r r' rv ar;refine⟨λE Q k=>q.1 _ _ E Q k,λE Q k=>q.2.1 _ _ E Q k,λE Q k=>q.2.2 _ _ E Q k,λe=> ?_⟩;subst e;rw[qcQ I le 4 4 t u x h.1 h.2 r r',qbI 4 u h.2]
  split at h
  ·rename_i ts us;obtain⟨p,vs,rfl,hp,rs⟩:=qay r;obtain⟨p',ws,rfl,aj,bo⟩:=qay r';cases rv;cases ar;obtain⟨is,bX,pl,_⟩:=I.tuple (SqT.of (le _ _ hp));obtain⟨bI,aN,aS,_⟩:=I.tuple (SqT.of (le _ _ aj));have l1:=bX.length;have l2:=aN.length;have l3:=rs.length;have l4:=bo.length;have each: ∀j,j<ts.length->j<us.length->okP n (ts.getD j .non) (us.getD j .non)=true:=λj a b=>List.all_eq_true.mp h j (List.mem_range.mpr (by omega));have it: ∀j (a1:j<(List.toArray is).size) (a2:j<(List.toArray bI).size),EqW X.prog X.w A.in1 s (List.toArray is)[j] (List.toArray bI)[j] (qjf ts us j):=λj a1 a2=>by
    have b1:j<ts.length:=by simp at a1;omega
    have b2:j<us.length:=by simp at a2;omega
    exact(ih A.in1 _ _ _ _ _ _ (each j b1 b2) (by show A.units+1+4+n<cLine;omega) (rs.getD j b1) (bo.getD j b2) (RH.valsArr bX a1) (RH.valsArr aN a2)).1
   have e1:(List.toArray is).size=ts.length:=by simp;omega
   have e2:(List.toArray bI).size=us.length:=by simp;omega
   have q1:=qoC pl aS (by omega) it;have q2:=qlF pl aS (by omega) it;rw[e1,e2,<-qcb] at q1 q2;have same:p=p'->eqTs ts us=true:=λz=>by
    subst z;rw[hp] at aj;cases aj;rw[qhz (by omega),List.all_eq_true];intro j hj;have hj:=List.mem_range.mp hj;have b2:j<us.length:=by omega
    have a1:j<(List.toArray is).size:=by simp;omega
    exact(ih A.in1 _ _ _ _ _ _ (each j hj b2) (by show A.units+1+4+n<cLine;omega) (rs.getD j hj) (bo.getD j b2) (RH.valsArr bX a1) (RH.valsArr bX a1)).2.2.2 rfl
   refine⟨?_,q1,q2,λz=>same (by cases z;rfl)⟩;by_cases z:p=p'
   ·have e:=same z;subst z;show EqW X.prog X.w A s _ _ (eqTs ts us);rw[e]
    exactλE Q k=>SeqAt.EqAt.same _ _ _ E Q k
   ·exact qhy z q1
  ·rename_i a b;rw[Bool.and_eq_true] at h;obtain⟨p,oa,ua,rfl,hp,ra⟩:=qcS r;obtain⟨p',ob,ub,rfl,aj,rb⟩:=qcS r';cases rv;cases ar;obtain⟨z1,hd1,va,dE,km⟩:=qcz I.hok (.inr ⟨_,le _ _ hp⟩);obtain⟨z2,hd2,vb,fF,fm⟩:=qcz I.hok (.inr ⟨_,le _ _ aj⟩);obtain⟨q1,q2⟩:=qoD hd1 hd2 km fm (by omega) λ_=>qj4 I le (A:=A.in1) (by show A.units+1+3<cLine;omega) rb fF h.2 ra dE h.1;have e:eqT (.dct a) (.dct b)=(va.length==vb.length&&eqTd a b):=by rw[eqT,<-dE.length,<-fF.length,ra.length,rb.length]
   rw[<-e] at q1 q2;have same:p=p'->eqT (.dct a) (.dct b)=true:=λz=>by subst z;rw[hp] at aj;cases aj;have ab:=qgX I le ra rb h.1 h.2;subst ab;rw[eqT,qc9 ?_ h.1 λ_ h=>h,beq_self_eq_true];rfl;rw[qeQ ra,qpy dE];obtain⟨_,_,_,_,_,_,_,_,hn⟩:=km;exact hn
   refine⟨?_,q1,q2,λz=>same (by cases z;rfl)⟩;by_cases z:p=p'
   ·have e:=same z;subst z;rw[e]
    exactλE Q k=>SeqAt.EqAt.same _ _ _ E Q k
   ·exact qhy z q1
  ·cases h
end
end NV
namespace TM
open PySem Builtin
end TM
namespace PL
open PySem L2 SR SetL PySem.Spec PyProof.Rows
section
noncomputable def rCat0(K:W.Frag):R2:=λx y H Q=> ∃a b ys,x= .ref a/\y= .ref b/\SqT K H a []/\SqT K H b ys/\Q (.ref b) H
theorem op_cat0:OpR X (binaryOp .Add) (rCat0 X.K):=by
 intro Z s σ H x y v u Q I rx ry h;obtain⟨a,b,ys,rfl,rfl,ha,hb,q⟩:=h;cases rx;cases ry;obtain⟨its,r1,p1,_⟩:=I.tuple ha;obtain⟨aF,r2,p2,_⟩:=I.tuple hb;cases r1;obtain⟨⟨cls,dd,data,sl⟩,ho,hc,n,hd⟩:=id p1;obtain⟨⟨jj,fm,data2,gF⟩,aV,b7,n2,hd2⟩:=id p2;subst hc hd b7 hd2
 exact concat_meets ⟨_,ho,rfl⟩ ⟨_,aV,rfl⟩ noFill_tuple_add seq_tuple_add F.slot_tuple_add F.entry_tuple_add (F.args_tuple_add_2 _ _)
  (tuple_addW0 a b _ _ n n2 dd fm sl gF rfl) ⟨ho,aV,⟨.ref b,H,I,rfl,q⟩⟩
end
end PL
namespace TM
open PySem Builtin
end TM
namespace PL
open PySem L2 SR SetL PySem.Spec PyProof.Rows
end PL
namespace NV
open PySem L2
inductive Nv where
 |v (t:T)|t (ts:List T)|l (ts:List T)|d (kvs:List (Key×T))|p (k:Nat) (c:Ct) (t:T)
noncomputable def Mu.live(O:Mu)(k:Nat):Bool:=match O.l[k]? with
 |some .gone=>false
 |some _=>true
 |none=>false
theorem Mu.live_at{O:Mu}{k:Nat}(h:O.live k=true): ∃c,O.l[k]? =some c/\c≠.gone:=by
 unfold Mu.live at h;split at h
 ·cases h
 ·simp_all
 ·cases h
noncomputable def nvR(ow:Bool):Option Nv->Mu->R T
 |some (.v t),O=>.ok t O
 |some (.t ts),O=>.ok (.tup ts) O
 |some (.l ts),O=>if ow=true then .ok (.obj O.l.length) (O.add (.ls ts)) else .ok (.lst ts) O
 |some (.d ts),O=>if ow=true then .ok (.obj O.l.length) (O.add (.dk ts)) else .ok (.dct ts) O
 |some (.p k c t),O=>if O.live k=true then .ok t (O.put k c) else .no
 |none,_=>.no
noncomputable def KV(M:Md)(O:Mu)(H:Hp)(B:qaF)(Q:VK):Nv->Prop
 |.v t=> ∀B' x,Hs M O H B'->Go H B H B'->Rep M.K B' t x->Q x H
 |.t ts=> ∀B' p vs,Hs M O H B'->Go H B H B'->H p=none->Reps M.K B' ts vs->Q (.ref p) (upd H p (.tup vs))
 |.l ts=> ∀B' p vs,Hs M O H B'->Go H B H B'->H p=none->Reps M.K B' ts vs->Q (.ref p) (upd H p (.lst vs))
 |.d ts=> ∀B' p vs,Hs M O H B'->Go H B H B'->H p=none->qaY M.K B' ts vs->Q (.ref p) (upd H p (.dK vs))
 |.p k c t=>O.live k=true/\∀B' a o x,Hs M O H B'->Go H B H B'->B'.ad k=some a->qeC M.K B' c o->Rep M.K B' t x->Q x (upd H a o)
section
theorem qid(c:Str)(m:Mu):nvR ow o O≠.ex c m:=λe=>by unfold nvR at e;split at e<;>first|cases e|grind
theorem qic{ow:Bool}(cq:Cl Q)(e:nvR ow o O= .ok t m)(k:KE M H B Q t m): ∃n,o=some n/\KV M O H B Q n:=by
 unfold nvR at e;split at e
 ·cases e;exact⟨_,rfl,λB' x h g r=>k x H B' h g r⟩
 ·cases e;exact⟨_,rfl,λB' p vs h g hp r=>k _ _ _ (h.new hp (λps z=>by cases z)) (g.trans (h.gnew hp)) (qcr qae (r.mono (h.upd_le (h.fr hp))))⟩
 ·refine⟨_,rfl,λB' p vs h g hp r=> ?_⟩;split at e
  ·cases e;have le:Le B' (B'.add O.l.length p):=(h.gown (o:=.lst vs) hp).le;exact k _ _ _ (h.own (c:=.ls _) (o:=.lst vs) hp ⟨vs,rfl,r.mono le⟩).1 (g.trans (h.gown hp)) (qdy (by show(if O.l.length=O.l.length then some p else _)=_;rw[if_pos rfl]))
  ·cases e;exact k _ _ _ (h.new hp (λps z=>by cases z)) (g.trans (h.gnew hp)) (qbP qae (r.mono (h.upd_le (h.fr hp))))
 ·refine⟨_,rfl,λB' p vs h g hp r=> ?_⟩;split at e
  ·cases e;have le:Le B' (B'.add O.l.length p):=(h.gown (o:=.dK vs) hp).le;exact k _ _ _ (h.own (c:=.dk _) (o:=.dK vs) hp ⟨vs,rfl,r.mono le⟩).1 (g.trans (h.gown hp)) (qdy (by show(if O.l.length=O.l.length then some p else _)=_;rw[if_pos rfl]))
  ·cases e;refine cq _ p vs qae λob=> ?_;rw[qfP];exact k _ _ _ (h.new hp (λps z=>by cases z)) (g.trans (h.gnew hp)) (qjv qae (r.mono (h.upd_le (h.fr hp))))
 ·split at e
  ·rename_i hl;cases e;obtain⟨c0,e0,n0⟩:=Mu.live_at hl;exact⟨_,rfl,hl,λB' a o x h g ha hc r=>k x _ B' (h.put e0 n0 ha hc) (g.trans (qsX ha)) r⟩
  ·cases e
 ·cases e
end
noncomputable def OkO(M:Md)(r:R2)(g:Mu->T->T->Option Nv):Prop:= ∀(O:Mu)(H:Hp)(B:qaF)(x y:V)(a b:T)(n:Nv)(Q:VK),Hs M O H B->Rep M.K B a x->Rep M.K B b y->g O a b=some n->KV M O H B Q n->r x y H Q
noncomputable def OkN(M:Md)(r:List V->Hp->VK->Prop)(g:Mu->List T->Option Nv):Prop:= ∀(O:Mu)(H:Hp)(B:qaF)(vs:List V)(ts:List T)(n:Nv)(Q:VK),Hs M O H B->Reps M.K B ts vs->g O ts=some n->KV M O H B Q n->r vs H Q
theorem OkO.b(h:OkO M r g):OkB M r (λa b O=>nvR ow (g O a b) O):=
 ⟨λ_ _ _ c m=>qid c m,λO H B x y a b t μ' Q cq hs ra rb e k=>by obtain⟨n,e',kv⟩:=qic cq e k;exact h O H B x y a b n Q hs ra rb e' kv⟩
noncomputable def dr1(O:Mu):T->T
 |.obj k=>(match O.l[k]? with|some (.ls ts)=>.lst ts|_=>.obj k)
 |t=>t
noncomputable def dr2(O:Mu)(t:T):T:=match dr1 O t with
 |.lst ts=>.lst (ts.map (dr1 O))
 |t=>t
open Classical in
noncomputable def qaF.all(B:qaF)(H:Hp)(O:Mu):qaF:=⟨λa=>if ∃k c,B.ad k=some a/\O.l[k]? =some c/\c≠.gone then H a else B a,B.ad⟩
section
open Classical
theorem qdi(h:Hs M O H B):Le B (B.all H O)/\LeH (B.all H O) H:=by
 refine⟨⟨λa o e=> ?_,λ_ _ e=>e⟩,λa o e=> ?_⟩
 ·show(if _ then H a else B a)=_;split
  ·exact h.bh a o e
  ·exact e
 ·have e:(if _ then H a else B a)=some o:=e;split at e
  ·exact e
  ·exact h.bh a o e
theorem quf(h:Hs M O H B)(e:O.l[k]? =some c)(n:c≠.gone)(ha:B.ad k=some a): ∃o,(B.all H O) a=some o/\qeC M.K (B.all H O) c o:=by obtain⟨o,_,ho,hc⟩:=h.at e n ha;refine⟨o,?_,hc.mono (qdi h).1⟩;show(if _ then H a else B a)=_;rw[if_pos ⟨k,c,ha,e,n⟩];exact ho
theorem qck(h:Hs M O H B)(r:Rep M.K B t v):Rep M.K (B.all H O) (dr1 O t) v:=by
 unfold dr1;split
 ·obtain⟨a,rfl,ea⟩:=qaD r;split
  ·rename_i ts el;obtain⟨o,e1,vs,rfl,rv⟩:=quf h el (by simp) ea;exact qbP e1 rv
  ·exact r.mono (qdi h).1
 ·exact r.mono (qdi h).1
theorem qkA(h:Hs M O H B)(r:Rep M.K B t v):Rep M.K (B.all H O) (dr2 O t) v:=by
 have many: ∀{ts:List T}{vs:List V},Reps M.K B ts vs->Reps M.K (B.all H O) (ts.map (dr1 O)) vs:=λ{ts vs} r=>
  .of_get (by rw[r.length,List.length_map]) λi t' v e1 e2=>by
   rw[List.getElem?_map] at e1;cases q:ts[i]? with
   |none=>rw[q] at e1;cases e1
   |some u=>rw[q] at e1;cases e1;obtain⟨v',ev,rv⟩:=r.get q;rw[e2] at ev;cases ev;exact qck h rv
 have r0:=qck h r;unfold dr2;split
 ·rename_i ts e;unfold dr1 at e;split at e
  ·rename_i k;obtain⟨a,rfl,ea⟩:=qaD r;split at e
   ·rename_i us el;cases e;obtain⟨o,_,ho,vs,rfl,rv⟩:=h.at el (by simp) ea;refine qbP (vs:=vs) ?_ (many rv);show(if _ then H a else B a)=_;rw[if_pos ⟨k,_,ea,el,by simp⟩];exact ho
   ·cases e
  ·subst e;obtain⟨p,vs,rfl,hp,rv⟩:=qaB r;exact qbP ((qdi h).1.h _ _ hp) (many rv)
 ·exact r0
theorem qbN(h:Hs M O H B)(e:sqv O t=some (b,ts))(r:Rep M.K B t v): ∃p vs,v= .ref p/\Reps M.K B ts vs/\(if b=true then H p=some (.lst vs) else B p=some (.tup vs)/\H p=some (.tup vs)):=by
 unfold sqv at e;split at e
 ·cases e;obtain⟨p,vs,rfl,hp,rv⟩:=qaB r;exact⟨p,vs,rfl,rv,by exact h.bh _ _ hp⟩
 ·cases e;obtain⟨p,vs,rfl,hp,rv⟩:=qay r;exact⟨p,vs,rfl,rv,by exact⟨hp,h.bh _ _ hp⟩⟩
 ·split at e
  ·rename_i k us el;obtain⟨a,rfl,ea⟩:=qaD r;obtain⟨o,_,ho,vs,rfl,rv⟩:=h.at el (by simp) ea
   simp_all
  ·cases e
 ·cases e
end
noncomputable def qs7(O:Mu)(a b:T):Option Nv:=match a,b with
 |.int i,.int j=>some (.v (.int (i+j)))
 |.str i,.str j=>if i.length+j.length<=100000 then some (.v (.str (i++j))) else none
 |a,b=>(match sqv O a,sqv O b with
  |some (true,xs),some (true,ys)=>if xs.length+ys.length<=1000 then some (.l (xs++ys)) else none
  |some (false,[]),some (false,ys)=>some (.v (.tup ys))
  |some (false,x::xs),some (false,[])=>if xs.length<=900 then some (.v (.tup (x::xs))) else none
  |some (false,x::xs),some (false,y::ys)=>if xs.length+ys.length<=900 then some (.t (x::xs++y::ys)) else none
  |_,_=>none)
noncomputable def gSub(_:Mu):T->T->Option Nv
 |.int i,.int j=>some (.v (.int (i - j)))
 |_,_=>none
noncomputable def qwa(O:Mu)(a b:T):Option Nv:=match a,b with
 |.int i,.int j=>if(-4294967296<=i/\i<=4294967296)\/(-4294967296<=j/\j<=4294967296) then some (.v (.int (i*j))) else none
 |a,.int k=>(match sqv O a with
  |some (true,xs)=>if(0<=k/\k<=100)/\xs.length<=10 then some (.l (List.replicate k.toNat xs).flatten) else none
  |_=>none)
 |_,_=>none
noncomputable def qwe(_:Mu):T->T->Option Nv
 |.int i,.int j=>if 0<j/\j<1073741824 then some (.v (.int (i / j))) else none
 |_,_=>none
noncomputable def qwb(_:Mu):T->T->Option Nv
 |.int i,.int j=>if 0<j then some (.v (.int (i % j))) else none
 |_,_=>none
noncomputable def qyz(_:Mu):T->T->Option Nv
 |.int i,.int j=>if(0<=j/\j<=100)/\ -1000<=i/\i<=1000 then some (.v (.int (i ^ j.toNat))) else none
 |_,_=>none
theorem OpR.or(h:OpR X f r)(h':OpR X f r'):OpR X f (λx y H Q=>r x y H Q\/r' x y H Q):=λZ s σ H x y v u Q I rx ry q=>q.elim (h _ s σ H x y v u Q I rx ry) (h' _ s σ H x y v u Q I rx ry)
section
theorem qgV(r:Reps K B ts vs): ∀k:Nat,Reps K B (List.replicate k ts).flatten (List.replicate k vs).flatten
 |0=>.nil
 |k+1=>by exact r.append (qgV r k)
noncomputable def rAdd(K:W.Frag):R2:=λx y H Q=>(rI0 (λi j=>.int (i+j)) x y H Q\/(∃i j,x= .str i/\y= .str j/\i.length+j.length<=sizeLine/\Q (.str (i++j)) H))\/(qxd x y H Q\/(PL.rCat0 K x y H Q\/qrM K x y H Q))
theorem qpc:OpR X (binaryOp .Add) (rAdd X.K):=OpR.or (OpR.or qsm qib) (OpR.or qjt (OpR.or PL.op_cat0 qpb))
theorem qsw{M:Md}{X:Cx}(hK:X.K=M.K):OkO M (rAdd X.K) qs7:=by
 intro O H B x y a b n Q h ra rb e k;rw[hK];unfold qs7 at e;split at e
 ·cases e;rw[qah ra,qah rb];exact .inl (.inl ⟨_,_,rfl,rfl,k B _ h .refl qaO⟩)
 ·split at e
  ·rename_i hz;cases e;have l0:100000<=sizeLine:=by decide
   rw[qaH ra,qaH rb];exact .inl (.inr ⟨_,_,rfl,rfl,by omega,k B _ h .refl qcs⟩)
  ·cases e
 ·have l0:1000<=sizeLine:=by decide
  split at e
  ·rename_i xs ys e1 e2;split at e
   ·rename_i hz;cases e;obtain⟨p,vs,rfl,r1,h1⟩:=qbN h e1 ra;obtain⟨q,ws,rfl,r2,h2⟩:=qbN h e2 rb;rw[if_pos rfl] at h1 h2;exact .inr (.inl ⟨p,q,vs,ws,rfl,rfl,h1,h2,by rw[r1.length,r2.length];omega,λd hd=>k B d _ h .refl hd (r1.append r2)⟩)
   ·cases e
  ·rename_i ys e1 e2;cases e;obtain⟨p,vs,rfl,r1,h1⟩:=qbN h e1 ra;obtain⟨q,ws,rfl,r2,h2⟩:=qbN h e2 rb;rw[if_neg (by decide)] at h1 h2;cases r1.inv0;exact .inr (.inr (.inl ⟨p,q,ws,rfl,rfl,SqT.of h1.2,SqT.of h2.2,k B _ h .refl (qcr h2.1 r2)⟩))
  ·rename_i x xs e1 e2;split at e
   ·rename_i hz;cases e;obtain⟨p,vs,rfl,r1,h1⟩:=qbN h e1 ra;obtain⟨q,ws,rfl,r2,h2⟩:=qbN h e2 rb;rw[if_neg (by decide)] at h1 h2;cases r2.inv0;have l1:=r1.length;rw[List.length_cons] at l1;exact .inr (.inr (.inr ⟨p,q,vs,[],rfl,rfl,SqT.of h1.2,SqT.of h2.2,(λz=>by rw[z] at l1;cases l1),by simp;omega,(λ_=>k B _ h .refl (qcr h1.1 r1)),λz=>absurd rfl z⟩))
   ·cases e
  ·rename_i x xs y ys e1 e2;split at e
   ·rename_i hz;cases e;obtain⟨p,vs,rfl,r1,h1⟩:=qbN h e1 ra;obtain⟨q,ws,rfl,r2,h2⟩:=qbN h e2 rb;rw[if_neg (by decide)] at h1 h2;have l1:=r1.length;have l2:=r2.length;rw[List.length_cons] at l1 l2;exact .inr (.inr (.inr ⟨p,q,vs,ws,rfl,rfl,SqT.of h1.2,SqT.of h2.2,(λz=>by rw[z] at l1;cases l1),by omega,(λz=>by rw[z] at l2;cases l2),λ_ d hd=>k B d _ h .refl hd (r1.append r2)⟩))
   ·cases e
  ·cases e
theorem qso:OkO M (rI0 λi j=>.int (i - j)) gSub:=by
 intro O H B x y a b n Q h ra rb e k;unfold gSub at e;split at e
 ·cases e;exact⟨_,_,qah ra,qah rb,k B _ h .refl qaO⟩
 ·cases e
noncomputable def qw7(K:W.Frag):R2:=λx y H Q=>rI quC (λi j=>.int (i*j)) x y H Q\/qw6 x y H Q
theorem qo8:OpR X (binaryOp .Mult) (qw7 X.K):=OpR.or qsf qsd
theorem qsq{M:Md}{X:Cx}(hK:X.K=M.K):OkO M (qw7 X.K) qwa:=by
 intro O H B x y a b n Q h ra rb e k;rw[hK];have l0:1000<=sizeLine:=by decide
 unfold qwa at e;split at e
 ·split at e
  ·rename_i hz;cases e;refine .inl ⟨_,_,qah ra,qah rb,?_,k B _ h .refl qaO⟩
   rcases hz with hz|hz
   ·exact .inl ⟨by lia,by lia⟩
   ·exact .inr ⟨by lia,by lia⟩
  ·cases e
 ·split at e
  ·rename_i j _ _ xs e1;split at e
   ·rename_i hz;cases e;obtain⟨p,vs,rfl,r1,h1⟩:=qbN h e1 ra;rw[if_pos rfl] at h1;have l1:vs.length*j.toNat<=10*100:=Nat.mul_le_mul (by rw[r1.length];exact hz.2) (by omega);exact .inr ⟨p,_,vs,rfl,qah rb,h1,by omega,by omega,by omega,λd hd=>k B d _ h .refl hd (qgV r1 _)⟩
   ·cases e
  ·cases e
 ·cases e
theorem qsv:OkO M (rI qxN λi j=>.int (i / j)) qwe:=by
 intro O H B x y a b n Q h ra rb e k;unfold qwe at e;split at e
 ·split at e
  ·rename_i hz;cases e;exact⟨_,_,qah ra,qah rb,hz,k B _ h .refl qaO⟩
  ·cases e
 ·cases e
theorem qsr:OkO M (rI (λ_ j=>0<j) λi j=>.int (i % j)) qwb:=by
 intro O H B x y a b n Q h ra rb e k;unfold qwb at e;split at e
 ·split at e
  ·rename_i hz;cases e;exact⟨_,_,qah ra,qah rb,hz,k B _ h .refl qaO⟩
  ·cases e
 ·cases e
end
noncomputable def qh1(x y:Str):Bool:=decide (x.cps.toList<y.cps.toList)
noncomputable def gLt(_:Mu):T->T->Option Nv
 |.int i,.int j=>some (.v (.bl (decide (i<j))))
 |.str i,.str j=>some (.v (.bl (qh1 i j)))
 |_,_=>none
noncomputable def gLe(_:Mu):T->T->Option Nv
 |.int i,.int j=>some (.v (.bl (decide (i<=j))))
 |.str i,.str j=>some (.v (.bl (!qh1 j i)))
 |_,_=>none
noncomputable def gGt(_:Mu):T->T->Option Nv
 |.int i,.int j=>some (.v (.bl (decide (j<i))))
 |_,_=>none
noncomputable def gGe(_:Mu):T->T->Option Nv
 |.int i,.int j=>some (.v (.bl (decide (j<=i))))
 |_,_=>none
noncomputable def qll(neg:Bool)(O:Mu)(a b:T):Option Nv:=
 if okT 8 (dr1 O a)=true/\okT 8 (dr1 O b)=true then some (.v (.bl (if neg then !eqT (dr1 O a) (dr1 O b) else eqT (dr1 O a) (dr1 O b))))
 else if okT 8 (dr2 O a)=true/\okT 8 (dr2 O b)=true then some (.v (.bl (if neg then !eqT (dr2 O a) (dr2 O b) else eqT (dr2 O a) (dr2 O b)))) else(match neg,a,b with
  |false,.scr ns,.lst []=>some (.v (.bl ns.isEmpty))
  |_,_,_=>if okP 3 (dr1 O a) (dr1 O b)=true then some (.v (.bl (if neg then !eqT (dr1 O a) (dr1 O b) else eqT (dr1 O a) (dr1 O b)))) else none)
noncomputable def qpG:T->Option Bool
 |.non=>some true
 |_=>some false
noncomputable def gIs(neg:Bool)(_:Mu):T->T->Option Nv
 |.bl i,.bl j=>some (.v (.bl (if neg then i != j else i==j)))
 |t,.non=>(qpG t).map λb=>.v (.bl (if neg then !b else b))
 |_,_=>none
section
theorem qsh:OpR X (compareOp .Lt) (λx y H Q=>rI0 (λi j=>.bl (decide (i<j))) x y H Q\/∃i j,x= .str i/\y= .str j/\Q (.bl (decide (i.cps.toList<j.cps.toList))) H):=OpR.or qvB qjr
theorem qsi:OpR X (compareOp .LtE) (λx y H Q=>rI0 (λi j=>.bl (decide (i<=j))) x y H Q\/∃i j,x= .str i/\y= .str j/\Q (.bl (!decide (j.cps.toList<i.cps.toList))) H):=OpR.or qvC qjs
theorem qvG:OkO M (λx y H Q=>rI0 (λi j=>.bl (decide (i<j))) x y H Q\/∃i j,x= .str i/\y= .str j/\Q (.bl (decide (i.cps.toList<j.cps.toList))) H) gLt:=by
 intro O H B x y a b n Q h ra rb e k;unfold gLt at e;split at e
 ·cases e;exact .inl ⟨_,_,qah ra,qah rb,k B _ h .refl qa9⟩
 ·cases e;exact .inr ⟨_,_,qaH ra,qaH rb,k B _ h .refl qa9⟩
 ·cases e
theorem qvH:OkO M (λx y H Q=>rI0 (λi j=>.bl (decide (i<=j))) x y H Q\/∃i j,x= .str i/\y= .str j/\Q (.bl (!decide (j.cps.toList<i.cps.toList))) H) gLe:=by
 intro O H B x y a b n Q h ra rb e k;unfold gLe at e;split at e
 ·cases e;exact .inl ⟨_,_,qah ra,qah rb,k B _ h .refl qa9⟩
 ·cases e;exact .inr ⟨_,_,qaH ra,qaH rb,k B _ h .refl qa9⟩
 ·cases e
theorem qvI:OkO M (rI0 λi j=>.bl (decide (j<i))) gGt:=by
 intro O H B x y a b n Q h ra rb e k;unfold gGt at e;split at e
 ·cases e;exact⟨_,_,qah ra,qah rb,k B _ h .refl qa9⟩
 ·cases e
theorem qvJ:OkO M (rI0 λi j=>.bl (decide (j<=i))) gGe:=by
 intro O H B x y a b n Q h ra rb e k;unfold gGe at e;split at e
 ·cases e;exact⟨_,_,qah ra,qah rb,k B _ h .refl qa9⟩
 ·cases e
noncomputable def qvg(K:W.Frag)(neg:Bool):R2:=λx y H Q=>(∃B t u,LeH B H/\Rep K B t x/\Rep K B u y/\okT 8 t=true/\okT 8 u=true/\Q (.bl (if neg then !eqT t u else eqT t u)) H)\/(neg=false/\∃(a b:Addr)(ns:List Int),x= .ref a/\y= .ref b/\SqL K H a (ns.map V.int)/\SqL K H b []/\Q (.bl ns.isEmpty) H)\/∃B t u,LeH B H/\Rep K B t x/\Rep K B u y/\okP 3 t u=true/\Q (.bl (if neg then !eqT t u else eqT t u)) H
theorem qsl(hu:X.A.units+8<cLine):OpR X (compareOp .Eq) (qvg X.K false):=by
 intro Z s σ H x y v u Q I rx ry q
 rcases q with⟨B,t,u',le,ra,rb,o1,o2,q⟩|⟨_,a,b,ns,rfl,rfl,h1,h2,q⟩|⟨B,t,u',le,ra,rb,o,q⟩
 ·exact(qeS I le 8 8 X.A t u' x y v u o1 o2 hu ra rb rx ry).2.1 _ _ _ _ ⟨.bl _,H,I,rfl,q⟩
 ·refine qf0 (by omega) _ s σ H _ _ v u Q I rx ry ⟨a,b,_,_,rfl,rfl,h1,h2,?_⟩;cases ns with
  |nil|cons n ns=>simp_all
 ·exact(qrD I le 3 X.A t u' x y v u o (by omega) ra rb rx ry).2.1 _ _ ⟨.bl _,H,I,rfl,q⟩
theorem qse(hu:X.A.units+8<cLine):OpR X (compareOp .NotEq) (qvg X.K true):=by
 intro Z s σ H x y v u Q I rx ry q
 rcases q with⟨B,t,u',le,ra,rb,o1,o2,q⟩|⟨e,_⟩|⟨B,t,u',le,ra,rb,o,q⟩
 ·exact(qeS I le 8 8 X.A t u' x y v u o1 o2 hu ra rb rx ry).2.2 _ _ _ _ ⟨.bl _,H,I,rfl,q⟩
 ·cases e
 ·exact(qrD I le 3 X.A t u' x y v u o (by omega) ra rb rx ry).2.2.1 _ _ ⟨.bl _,H,I,rfl,q⟩
theorem qsu{M:Md}{X:Cx}{neg:Bool}(hK:X.K=M.K):OkO M (qvg X.K neg) (qll neg):=by
 intro O H B x y a b n Q h ra rb e k;rw[hK];have le:=(qdi h).2;unfold qll at e;split at e
 ·rename_i o;cases e;exact .inl ⟨_,_,_,le,qck h ra,qck h rb,o.1,o.2,k B _ h .refl qa9⟩
 ·split at e
  ·rename_i o;cases e;exact .inl ⟨_,_,_,le,qkA h ra,qkA h rb,o.1,o.2,k B _ h .refl qa9⟩
  ·split at e
   ·cases e;obtain⟨p,vs,rfl,r1,r2⟩:=qaB rb;cases r2.inv0;unfold Rep at ra;obtain⟨q,rfl,r3⟩:=ra;exact .inr (.inl ⟨rfl,_,_,_,rfl,rfl,qi1 (λa o e=>le _ _ ((qdi h).1.h a o e)) r3,SqL.of (le _ _ ((qdi h).1.h _ _ r1)),k B _ h .refl qa9⟩)
   ·split at e
    ·rename_i o;cases e;exact .inr (.inr ⟨_,_,_,le,qck h ra,qck h rb,o,k B _ h .refl qa9⟩)
    ·cases e
theorem qj2(r:Rep K B t v)(e:qpG t=some c):decide (v= .non)=c:=by
 cases t with
 |non=>cases e;rw[qcR r];rfl
 |bl _=>cases e;rw[qbu r];rfl
 |int _=>cases e;rw[qah r];rfl
 |str _=>cases e;rw[qaH r];rfl
 |tup _=>cases e;obtain⟨_,_,rfl,_⟩:=qay r;rfl
 |lst _=>cases e;obtain⟨_,_,rfl,_⟩:=qaB r;rfl
 |dct _=>cases e;obtain⟨_,_,_,rfl,_⟩:=qcS r;rfl
 |obj _=>cases e;obtain⟨_,rfl,_⟩:=qaD r;rfl
 |exc _=>cases e;obtain⟨_,rfl,_⟩:=qoB r;rfl
 |fn _|scr _=>cases e;unfold Rep at r;grind
theorem qo9:OpR X (compareOp .Is) (λx y H Q=>(y= .non/\Q (.bl (decide (x= .non))) H)\/∃c d,x= .bl c/\y= .bl d/\Q (.bl (c==d)) H):=OpR.or qsj ql4
theorem qia:OpR X (compareOp .IsNot) (λx y H Q=>(y= .non/\Q (.bl (!decide (x= .non))) H)\/∃c d,x= .bl c/\y= .bl d/\Q (.bl (c != d)) H):=OpR.or qo7 qfZ
theorem qss:OkO M (λx y H Q=>(y= .non/\Q (.bl (if neg then !decide (x= .non) else decide (x= .non))) H)\/∃c d,x= .bl c/\y= .bl d/\Q (.bl (if neg then c != d else c==d)) H) (gIs neg):=by
 intro O H B x y a b n Q h ra rb e k;unfold gIs at e;split at e
 ·cases e;exact .inr ⟨_,_,qbu ra,qbu rb,k B _ h .refl qa9⟩
 ·cases q:qpG a with
  |none=>rw[q] at e;cases e
  |some c=>rw[q] at e;cases e;rw[qj2 ra q];exact .inl ⟨qcR rb,k B _ h .refl qa9⟩
 ·cases e
end
end NV
namespace PL
open PySem L2
end PL
namespace HT
open PySem PySem.Spec PyProof.Rows L2
end HT
namespace L2
open PySem PySem.Spec PyProof.Rows
end L2
namespace PL
open PySem L2
end PL
namespace NV
open PySem L2
noncomputable def rB(M:Md)(g:Mu->T->T->Option Nv):R2:=λx y H Q=> ∃O B a b n,Hs M O H B/\Rep M.K B a x/\Rep M.K B b y/\g O a b=some n/\KV M O H B Q n
noncomputable def rN(M:Md)(g:Mu->List T->Option Nv):List V->Hp->VK->Prop:=λvs H Q=> ∃O B ts n,Hs M O H B/\Reps M.K B ts vs/\g O ts=some n/\KV M O H B Q n
theorem OpR.weak(h:OpR X f r)(w: ∀x y H Q,r' x y H Q->r x y H Q):OpR X f r':=λZ s σ H x y v u Q I rx ry q=>h _ s σ H x y v u Q I rx ry (w _ _ _ _ q)
theorem qat.weak(h:qat X f r)(w: ∀xs H Q,r' xs H Q->r xs H Q):qat X f r':=λZ s σ H xs us Q I r q=>h _ s σ H xs us Q I r (w _ _ _ q)
theorem IxR.weak(h:IxR X r)(w: ∀x y H Q,r' x y H Q->r x y H Q):IxR X r':=λvalue slice Z s σ H x y v u Q I rx ry q hs=>h _ _ _ s σ H x y v u Q I rx ry (w _ _ _ _ q) hs
theorem OpR.ok(h:OpR X f r)(o:OkO M r g):OpR X f (rB M g):=OpR.weak h (by rintro _ _ _ Q ⟨_,_,_,_,_,hs,ra,rb,e,k⟩;exact o _ _ _ _ _ _ _ _ Q hs ra rb e k)
theorem qat.ok(h:qat X f r)(o:OkN M r g):qat X f (rN M g):=qat.weak h (by rintro _ _ Q ⟨_,_,_,_,hs,ra,e,k⟩;exact o _ _ _ _ _ _ Q hs ra e k)
theorem qlE(r:Reps K B ts vs)(h:atI ts i=some t): ∃v,atI vs i=some v/\Rep K B t v:=by
 unfold atI at h⊢;rw[r.length];cases e:ixN _ i with
 |none=>rw[e] at h;cases h
 |some j=>rw[e] at h;exact r.get h
noncomputable def dkv(O:Mu):T->Option (List (Key×T))
 |.dct kvs=>some kvs
 |.obj k=>(match O.l[k]? with|some (.dk kvs)=>some kvs|_=>none)
 |_=>none
noncomputable def duv(O:Mu):T->Option (List (List Key×T))
 |.obj k=>(match O.l[k]? with|some (.du kvs)=>some kvs|_=>none)
 |_=>none
noncomputable def qfc:T->Option Key
 |.int i=>some (.inl i)
 |.str s=>some (.inr s)
 |_=>none
noncomputable def qfa:List T->Option (List Key)
 |[]=>some []
 |t::ts=>(qfc t).bind λk=>(qfa ts).map (k:: ·)
noncomputable def quw:T->Option (List Key)
 |.tup ts=>qfa ts
 |_=>none
theorem qc1(h:qfc t=some k)(r:Rep K B t v):v=kV k:=by
 cases t with
 |int i=>cases h;exact qah r
 |str s=>cases h;exact qaH r
 |_=>cases h
theorem qhn: ∀{ts:List T}{ks:List Key}{vs:List V},qfa ts=some ks->Reps K B ts vs->vs=ks.map kV
 |[],ks,vs,h,r=>by cases h;exact r.inv0
 |t::ts,ks,vs,h,r=>by
  obtain⟨v,cC,rfl,a,b⟩:=r.inv;unfold qfa at h;cases e:qfc t with
  |none=>rw[e] at h;cases h
  |some k=>
   cases e2:qfa ts with
   |none=>grind
   |some ks'=>rw[e,e2] at h;cases h;rw[qc1 e a,qhn e2 b];rfl
section
theorem qft(h:Hs M O H B)(e:dkv O t=some kvs)(r:Rep M.K B t v): ∃p us,v= .ref p/\Rd H p (.dK us)/\qaY M.K B kvs us:=by
 unfold dkv at e;split at e
 ·cases e;obtain⟨p,o,us,rfl,hp,ru⟩:=qcS r;exact⟨p,us,rfl,.inr ⟨o,h.bh _ _ hp⟩,ru⟩
 ·split at e
  ·rename_i iC el;cases e;obtain⟨a,rfl,ea⟩:=qaD r;obtain⟨o,_,ho,us,rfl,ru⟩:=h.at el (by simp) ea;exact⟨a,us,rfl,.inl ho,ru⟩
  ·cases e
 ·cases e
theorem qkx(h:Hs M O H B)(e:duv O t=some kvs)(r:Rep M.K B t v): ∃p us,v= .ref p/\H p=some (.dT us)/\qaY M.K B kvs us:=by
 unfold duv at e;split at e
 ·split at e
  ·rename_i iC el;obtain⟨a,rfl,ea⟩:=qaD r;obtain⟨o,_,ho,us,rfl,ru⟩:=h.at el (by simp) ea
   simp_all
  ·cases e
 ·cases e
theorem qga(h:Hs M O H B)(e:quw t=some ks)(r:Rep M.K B t v): ∃b,v= .ref b/\H b=some (.tup (ks.map kV)):=by
 cases t with
 |tup ts=>obtain⟨p,vs,rfl,hp,rv⟩:=qay r;rw[qhn e rv] at hp;exact⟨p,rfl,h.bh _ _ hp⟩
 |_=>cases e
noncomputable def qq4(O:Mu)(d y:T):Option (Option T):=match dkv O d,qfc y with
 |some kvs,some k=>some (qiQ kvs k)
 |_,_=>(match duv O d,quw y with
  |some kvs,some k=>some (qiQ kvs k)
  |_,_=>none)
theorem qkJ(h:Hs M O H B)(e:qq4 O d y=some o)(r:Rep M.K B d x)(ry:Rep M.K B y u): ∃a ov,x= .ref a/\IsD H a/\qlg H a u ov/\(∀t,o=some t->∃v,ov=some v/\Rep M.K B t v)/\(o=none->ov=none):=by
 unfold qq4 at e;split at e
 ·rename_i kvs k e1 e2;cases e;obtain⟨p,us,rfl,hp,ru⟩:=qft h e1 r;have:=qbD k ru;exact⟨p,_,rfl,.inl ⟨us,hp⟩,.inl ⟨us,k,hp,qc1 e2 ry,rfl⟩,this.1,this.2⟩
 ·split at e
  ·rename_i kvs k e1 e2;cases e;obtain⟨p,us,rfl,hp,ru⟩:=qkx h e1 r;obtain⟨b,rfl,hb⟩:=qga h e2 ry;have:=qbD k ru;exact⟨p,_,rfl,.inr ⟨us,.of hp⟩,.inr ⟨us,k,b,.of hp,rfl,hb,rfl⟩,this.1,this.2⟩
  ·cases e
end
noncomputable def qd3(O:Mu):T->Option (Bool×List T)
 |.scr ns=>some (true,ns.map .int)
 |t=>sqv O t
noncomputable def gDG(O:Mu)(a b:T):Option Nv:=(qq4 O a b).bind λo=>o.map .v
noncomputable def gIx(O:Mu)(a b:T):Option Nv:=match b with
 |.int i=>(match a with
  |.str z=>if z.length<=1000 then(atI z.cps.toList i).map λc=>.v (.str ⟨#[c]⟩) else none
  |a=>(match qd3 O a with
   |some q=>(atI q.2 i).map .v
   |none=>gDG O a (.int i)))
 |b=>gDG O a b
section
open PySem.Spec PyProof.Rows in
theorem qpC(hu:X.A.units+1<cLine):IxR X (λx y H Q=> ∃a v,x= .ref a/\qlg H a y (some v)/\Q v H):=by intro value slice Z s σ H x y v u Q I rx ry h hs;obtain⟨a,z,rfl,g,q⟩:=h;cases rx;exact tail_any (qgk I g) F.slot_dict_getitem.lookup (qkI hu I g ry λw' s3 I3 ar=>⟨z,H,I3,ar,q⟩) hs
theorem qgU: ∀ns:List Int,Reps K B (ns.map T.int) (ns.map V.int)
 |[]=>.nil
 |_::ns=>.cons qaO (qgU ns)
theorem qcP(h:Hs M O H B)(e:qd3 O t=some (b,ts))(r:Rep M.K B t v): ∃p vs,v= .ref p/\Reps M.K B ts vs/\(if b=true then SqL M.K H p vs else SqT M.K H p vs):=by
 unfold qd3 at e;split at e
 ·cases e;obtain⟨p,rfl,q⟩:=r;exact⟨p,_,rfl,qgU _,by exact qi1 h.bh q⟩
 ·obtain⟨p,vs,rfl,rv,q⟩:=qbN h e r;refine⟨p,vs,rfl,rv,?_⟩;cases b with
  |true=>exact SqL.of q
  |false=>exact SqT.of q.2
theorem qd2(h:Hs M O H B)(e:qd3 O t=some (b,ts))(r:Rep M.K B t v): ∃p vs,v= .ref p/\Reps M.K B ts vs/\(SqL M.K H p vs\/SqT M.K H p vs):=by
 obtain⟨p,vs,rfl,rv,q⟩:=qcP h e r;refine⟨p,vs,rfl,rv,?_⟩;split at q
 ·exact .inl q
 ·exact .inr q
theorem qyc(hu:X.A.units+1<cLine)(hK:X.K=M.K):IxR X (rB M gIx):=IxR.weak (IxR.or qsR (qpC hu)) (by
 rintro x y H Q ⟨O,B,a,b,n,h,ra,rb,e,k⟩;rw[hK];have dg:gDG O a b=some n->(rIx M.K x y H Q\/∃a v,x= .ref a/\qlg H a y (some v)/\Q v H):=λe=>by
  unfold gDG at e;cases q:qq4 O a b with
  |none=>rw[q] at e;cases e
  |some o=>
   cases o with
   |none=>rw[q] at e;cases e
   |some t=>rw[q] at e;cases e;obtain⟨p,ov,rfl,_,g,h1,_⟩:=qkJ h q ra rb;obtain⟨v,rfl,rv⟩:=h1 t rfl;exact .inr ⟨p,v,rfl,g,k B v h .refl rv⟩
 cases b with
 |int i=>
  have sq:(match qd3 O a with|some q=>(atI q.2 i).map Nv.v|none=>gDG O a (.int i))=some n->(rIx M.K x y H Q\/∃a v,x= .ref a/\qlg H a y (some v)/\Q v H):=λe=>by
   cases es:qd3 O a with
   |none=>rw[es] at e;exact dg e
   |some p=>
    obtain⟨bb,ts⟩:=p;rw[es] at e;have e:(atI ts i).map Nv.v=some n:=e;cases q:atI ts i with
    |none=>rw[q] at e;cases e
    |some t=>
     rw[q] at e;cases e;obtain⟨p,vs,rfl,rv,hs⟩:=qd2 h es ra;obtain⟨v,ev,bY⟩:=qlE rv q
     rcases hs with hs|hs
     ·exact .inl (.inl ⟨p,vs,i,v,rfl,qah rb,hs,ev,k B v h .refl bY⟩)
     ·exact .inl (.inr (.inl ⟨p,vs,i,v,rfl,qah rb,hs,ev,k B v h .refl bY⟩))
  cases a with
  |str z=>
   have e:(if z.length<=1000 then(atI z.cps.toList i).map λc=>Nv.v (.str ⟨#[c]⟩) else none)=some n:=e;split at e
   ·rename_i hz;cases q:atI z.cps.toList i with
    |none=>rw[q] at e;cases e
    |some c=>rw[q] at e;cases e;rw[qaH ra,qah rb];exact .inl (.inr (.inr ⟨z,i,c,rfl,rfl,Vo (qeM hz),q,k B _ h .refl qcs⟩))
   ·cases e
  |_=>exact sq e
 |_=>exact dg e)
noncomputable def tO(M:Md)(E:XK)(d:DS0 (Option Int)):TO:=λσ H Q=> ∃ρ O B,Ev M ρ O σ H B/\Wn M E H B (λo μ'=> ∀H' B',Hs M μ' H' B'->Go H B H' B'->Q o H') (d ρ O)
noncomputable def dON:DS0 (Option Int):=λ_ O=>.ok none O
noncomputable def dOS(da:DS0 T):DS0 (Option Int):=dSq da λt _ O=>match t with|.int i=>.ok (some i) O|_=>.no
theorem qqa:PO X none (tO M E dON):=PO.weak qoS (by rintro σ H Q ⟨ρ,O,B,ev,w⟩;exact w H B ev.hs .refl)
theorem qp9(h:PE X e (tE M E da)):PO X (some e) (tO M E (dOS da)):=PO.weak (qoR h) (by rintro σ H Q ⟨ρ,O,B,ev,w⟩;exact tE.of ev ((Wn.bind w).mono λt af w1 v H1 B1 h1 l1 r1=>by
 cases t with
 |int i=>exact⟨i,qah r1,w1 H1 B1 h1 l1⟩
 |_=>exact w1.elim))
noncomputable def qtW(ts:List T)(lo hi:Option Int):List T:=(ts.drop (HT.sIx ts.length 0 lo)).take (HT.sIx ts.length ts.length hi - HT.sIx ts.length 0 lo)
theorem qlD(r:Reps K B ts vs)(lo hi:Option Int):Reps K B (qtW ts lo hi) (qtV vs lo hi):=by unfold qtW qtV;rw[r.length];exact(r.drop _).take _
noncomputable def gSl(O:Mu)(a:T)(lo hi:Option Int):Option Nv:=match a with
 |a=>(match qd3 O a with
  |some (true,ts)=>some (.l (qtW ts lo hi))
  |_=>none)
noncomputable def dSl(ow:Bool)(da:DS0 T)(dl dh:DS0 (Option Int)):DS0 T:=dSq da λa=>dSq dl λl=>dSq dh λh _ O=>nvR ow (gSl O a l h) O
theorem qmN(hK:X.K=M.K)(ha:PE X a (tE M E da))(hl:PO X lo (tO M E dl))(hh:PO X hi (tO M E dh)):PE X (.Subscript a (.Slice lo hi none p2) pos) (tE M E (dSl ow da dl dh)):=by
 refine PE.weakF (qlT qoy ha hl hh) ?_;rintro σ H Q cq ⟨ρ,O,B,ev,w⟩;refine tE.of ev ((Wn.bind w).mono λt af w1 v H1 B1 h1 l1 r1=> ?_);refine⟨ρ,af,B1,ev.on h1 l1.le,(Wn.bind w1).lift l1 λl ah w2 H2 B2 h2 l2=> ?_⟩;refine⟨ρ,ah,B2,(ev.on h1 l1.le).on h2 l2.le,(Wn.bind w2).lift (l1.trans l2) λu bj w3 H3 B3 h3 l3=> ?_⟩;obtain⟨c,m,q,w3⟩:=Wn.pl w3 (λc m=>qid c m);obtain⟨n,e,kv⟩:=qic cq q (KE.le w3 ((l1.trans l2).trans l3));have r3:=r1.mono (l2.trans l3).le;rw[hK];unfold gSl at e;dsimp only at e;split at e
 ·rename_i ts es;cases e;obtain⟨p,vs,rfl,rv,hs⟩:=qcP h3 es r3;exact⟨p,vs,rfl,hs,λd hd=>kv B3 d _ h3 .refl hd (qlD rv l u)⟩
 ·cases e
noncomputable def qyy(O:Mu)(a:T)(lo hi st:Option Int):Option Nv:=match qd3 O a with
 |some (true,ts)=>if st≠some 0 then some (.l (RH.pickL ts lo hi st)) else none
 |_=>none
noncomputable def qyE(ow:Bool)(da:DS0 T)(dl dh dt:DS0 (Option Int)):DS0 T:=dSq da λa=>dSq dl λl=>dSq dh λh=>dSq dt λst _ O=>nvR ow (qyy O a l h st) O
end
end NV
namespace PL
open PySem PySem.Spec L2
end PL
namespace NV
open PySem L2
section
open SeqAt in
theorem qcG(hu:X.A.units+8<cLine)(I:Inv X Z σ H s)(le:LeH B H)(ra:Rep X.K B t x)(rx:RelV x v)(ot:okT 7 t=true)(iq:ts.all (okT 7)=true)(rs:Reps X.K B ts vs)(rv:qau vs is):
  is.length=ts.length/\∃e:Value->Bool,(∀y,y∈is.toArray->EqAt X.A.in1 s y v (e y))/\∀(j:Nat)(h:j<is.length),e is[j]=eqT (ts.getD j .non) t:=by
 have l1:=rv.length;have l2:=rs.length;have at_: ∀(j:Nat)(h:j<is.toArray.size),EqAt X.A.in1 s is.toArray[j] v (eqT (ts.getD j .non) t):=λj h=>by
  have hj:j<ts.length:=by simp at h;lia
  exact(qeS I le 7 7 X.A.in1 _ _ _ _ _ _ (qbV iq hj) ot (by show X.A.units+1+7<cLine;lia) (rs.getD j hj) ra (RH.valsArr rv h) rx).1
 have one: ∀(j k:Nat)(h:j<is.toArray.size)(h':k<is.toArray.size),is.toArray[j]=is.toArray[k]->ts.getD j .non=ts.getD k .non:=λj k h h' e=>by
  have hj:j<ts.length:=by simp at h;lia
  have hk:k<ts.length:=by simp at h';lia
  have r1:=RH.valsArr rv h;have r2:=RH.valsArr rv h';rw[<-e] at r2;have:=r1.inj r2;refine qcQ I le 7 7 _ _ _ (qbV iq hj) (qbV iq hk) (rs.getD j hj) ?_;rw[this];exact rs.getD k hk
 classical
 have key: ∀(j:Nat)(hj:j<is.toArray.size),decide (∃(j':Nat)(h:j'<is.toArray.size),is.toArray[j']=is.toArray[j]/\eqT (ts.getD j' .non) t=true)=eqT (ts.getD j .non) t:=λj hj=>by
  cases z:eqT (ts.getD j .non) t with
  |true=>exact decide_eq_true ⟨j,hj,rfl,z⟩
  |false=>exact Vv ((by rintro⟨k,hk,e,ek⟩;rw[one k j hk hj e,z] at ek;cases ek))
 refine⟨by lia,λy=>decide (∃(j:Nat)(h:j<is.toArray.size),is.toArray[j]=y/\eqT (ts.getD j .non) t=true),λy hy=> ?_,λj hj=> ?_⟩
 ·obtain⟨j,hj,rfl⟩:=Array.mem_iff_getElem.mp hy;show EqAt X.A.in1 s is.toArray[j] v (decide (∃(j':Nat)(h:j'<is.toArray.size),is.toArray[j']=is.toArray[j]/\eqT (ts.getD j' .non) t=true));rw[key j hj];exact at_ j hj
 ·have:=key j (by simpa using hj);simpa using this
theorem qhQ{is:List Value}{ts:List T}(hl:is.length=ts.length)(h: ∀(j:Nat)(h:j<is.length),f is[j]=g (ts.getD j .non)):is.map f=ts.map g:=by
 refine List.ext_getElem (by simp[hl]) λj h1 h2=> ?_;have hj:=by simpa using h1
 simp_all
end
theorem qhP{α β:Type}{f:α->Bool}{g:β->Bool}{is:List α}{ts:List β}(h:is.map f=ts.map g):is.any f=ts.any g:=by have:=congrArg (List.any · id) h;simpa [List.any_map] using this
noncomputable def qx7(K:W.Frag)(neg:Bool):R2:=λx y H Q=> ∃B t p vs ts,LeH B H/\Rep K B t x/\y= .ref p/\(SqL K H p vs\/SqT K H p vs)/\Reps K B ts vs/\okT 7 t=true/\ts.all (okT 7)=true/\Q (.bl (if neg then !ts.any (λu=>eqT u t) else ts.any (λu=>eqT u t))) H
noncomputable def qx8(neg:Bool):R2:=λx y H Q=>(∃a o,y= .ref a/\qlg H a x o/\Q (.bl (if neg then !o.isSome else o.isSome)) H)\/∃a b,∃k:List Key,y= .ref a/\H a=some (.dK [])/\x= .ref b/\H b=some (.tup (k.map kV))/\Q (.bl neg) (upd H a (.dT []))
noncomputable def qve(K:W.Frag)(neg:Bool):R2:=λx y H Q=>qx7 K neg x y H Q\/qx8 neg x y H Q
noncomputable def gIn(neg:Bool)(O:Mu)(t c:T):Option Nv:=match qd3 O c with
 |some q=>if okT 7 t=true/\q.2.all (okT 7)=true then some (.v (.bl (if neg then !q.2.any (λu=>eqT u t) else q.2.any (λu=>eqT u t)))) else none
 |none=>(match qq4 O c t with
  |some o=>some (.v (.bl (if neg then !o.isSome else o.isSome)))
  |none=>(match c with
   |.obj k=>(match O.l[k]?,quw t with
    |some (.dk []),some _=>some (.p k (.du []) (.bl neg))
    |_,_=>none)
   |_=>none))
section
theorem qsk{X:Cx}(hu:X.A.units+8<cLine):OpR X (compareOp .In) (qve X.K false):=by
 intro Z s σ H x y v u Q I rx ry hq
 rcases hq with⟨B,t,p,vs,ts,le,ra,ey,hp,rs,o1,o2,q⟩|⟨a,o,rfl,g,q⟩|⟨a,b,k,rfl,ha,rfl,hb,q⟩
 ·subst ey;cases ry
  rcases hp with hp|hp
  ·obtain⟨is,rv,pl,_⟩:=I.list hp;obtain⟨hl,e,h1,h2⟩:=qcG hu I le ra rx o1 o2 rs rv;refine SeqAt.in_listAt e pl.isList h1 ⟨.bl _,H,I,rfl,?_⟩;rw[show is.toArray.any e=is.any e by simp,qhP (qhQ (g:=λu=>eqT u t) hl h2)];exact q
  ·obtain⟨is,rv,pl,_⟩:=I.tuple hp;obtain⟨hl,e,h1,h2⟩:=qcG hu I le ra rx o1 o2 rs rv;refine SeqAt.in_tupleAt e pl h1 ⟨.bl _,H,I,rfl,?_⟩;rw[show is.toArray.any e=is.any e by simp,qhP (qhQ (g:=λu=>eqT u t) hl h2)];exact q
 ·cases ry;exact qxs (by lia) I g rx λs3 I3=>⟨.bl o.isSome,H,I3,rfl,q⟩
 ·cases ry;have I':=PL.Inv.asT I ha;have g:qlg (upd H a (.dT [])) a (.ref b) none:=.inr ⟨[],k,b,.of qae,rfl,by rw[qac (λz=>by rw[z,ha] at hb;cases hb)];exact hb,rfl⟩;exact qxs (by lia) I' g rx λs3 I3=>⟨.bl false,_,I3,rfl,q⟩
theorem qjq{X:Cx}(hu:X.A.units+8<cLine):OpR X (compareOp .NotIn) (qve X.K true):=by
 intro Z s σ H x y v u Q I rx ry hq
 rcases hq with⟨B,t,p,vs,ts,le,ra,ey,hp,rs,o1,o2,q⟩|⟨a,o,rfl,g,q⟩|⟨a,b,k,rfl,ha,rfl,hb,q⟩
 ·subst ey;cases ry
  rcases hp with hp|hp
  ·obtain⟨is,rv,pl,_⟩:=I.list hp;obtain⟨hl,e,h1,h2⟩:=qcG hu I le ra rx o1 o2 rs rv;refine SeqAt.notIn_listAt e pl.isList h1 ⟨.bl _,H,I,rfl,?_⟩;rw[show is.toArray.any e=is.any e by simp,qhP (qhQ (g:=λu=>eqT u t) hl h2)];exact q
  ·obtain⟨is,rv,pl,_⟩:=I.tuple hp;obtain⟨hl,e,h1,h2⟩:=qcG hu I le ra rx o1 o2 rs rv;refine SeqAt.notIn_tupleAt e pl h1 ⟨.bl _,H,I,rfl,?_⟩;rw[show is.toArray.any e=is.any e by simp,qhP (qhQ (g:=λu=>eqT u t) hl h2)];exact q
 ·cases ry;exact qkH (by lia) I g rx λs3 I3=>⟨.bl (!o.isSome),H,I3,rfl,q⟩
 ·cases ry;have I':=PL.Inv.asT I ha;have g:qlg (upd H a (.dT [])) a (.ref b) none:=.inr ⟨[],k,b,.of qae,rfl,by rw[qac (λz=>by rw[z,ha] at hb;cases hb)];exact hb,rfl⟩;exact qkH (by lia) I' g rx λs3 I3=>⟨.bl true,_,I3,rfl,q⟩
theorem qst{X:Cx}{M:Md}{neg:Bool}(hK:X.K=M.K):OkO M (qve X.K neg) (gIn neg):=by
 intro O H B x y a b n Q h ra rb e k;rw[hK];unfold gIn at e;split at e
 ·rename_i q es;split at e
  ·rename_i o;cases e;obtain⟨p,vs,rfl,rv,hs⟩:=qd2 (b:=q.1) (ts:=q.2) h es rb;exact .inl ⟨B,a,p,vs,q.2,h.bh,ra,rfl,hs,rv,o.1,o.2,k B _ h .refl qa9⟩
  ·cases e
 ·split at e
  ·rename_i o eo;cases e;obtain⟨p,ov,rfl,_,g,h1,h2⟩:=qkJ h eo rb ra;refine .inr (.inl ⟨p,ov,rfl,g,?_⟩);have:ov.isSome=o.isSome:=by
    cases o with
    |none=>rw[h2 rfl];rfl
    |some t=>obtain⟨v,rfl,_⟩:=h1 t rfl;rfl
   rw[this];exact k B _ h .refl qa9
  ·split at e
   ·rename_i j;split at e
    ·rename_i el ek;cases e;obtain⟨p,rfl,ea⟩:=qaD rb;obtain⟨o,_,ho,us,rfl,ru⟩:=h.at el (by simp) ea;have:us=[]:=ru;subst this;obtain⟨b,rfl,hb⟩:=qga h ek ra;exact .inr (.inr ⟨p,b,_,rfl,ho,rfl,hb,k.2 B p _ _ h .refl ea ⟨[],rfl,rfl⟩ qa9⟩)
    ·cases e
   ·cases e
end
noncomputable def dN(ow:Bool)(g:Mu->List T->Option Nv)(ds:DS0 (List T)):DS0 T:=dSq ds λts _ O=>nvR ow (g O ts) O
noncomputable def qs6(O:Mu):List T->Option Nv
 |[.str z]=>if z.length<=100000 then some (.v (.int z.length)) else none
 |[t]=>(match qd3 O t with
  |some q=>some (.v (.int q.2.length))
  |none=>(dkv O t).map λkvs=>.v (.int kvs.length))
 |_=>none
noncomputable def qk9:List T->Option (List Int)
 |[]=>some []
 |.int i::ts=>(qk9 ts).map (i:: ·)
 |_::_=>none
noncomputable def qk8:List T->Option (List Str)
 |[]=>some []
 |.str i::ts=>(qk8 ts).map (i:: ·)
 |_::_=>none
noncomputable def qez:List T->Option (List Bool)
 |[]=>some []
 |.bl i::ts=>(qez ts).map (i:: ·)
 |_::_=>none
noncomputable def qf7(O:Mu)(t:T):Option (List T):=match qd3 O t with
 |some (true,ts)=>some ts
 |_=>none
noncomputable def qwg(O:Mu):List T->Option Nv
 |[t]=>((qf7 O t).bind qez).map λbs=>.v (.bl (bs.all id))
 |_=>none
noncomputable def qwd(O:Mu):List T->Option Nv
 |[.int i,.int j]=>some (.v (.int (if j>i then j else i)))
 |_=>none
noncomputable def qwc(_:Mu):List T->Option Nv
 |[.int i,.int j]=>some (.v (.int (if j<i then j else i)))
 |_=>none
noncomputable def qpP(O:Mu):List T->Option Nv
 |[t]=>(qd3 O t).map λq=>.l q.2
 |_=>none
noncomputable def qkd(O:Mu):List T->Option Nv
 |[t]=>(match qd3 O t with
  |some (true,ts)=>some (.t ts)
  |some (false,ts)=>some (.v t)
  |none=>none)
 |_=>none
section
variable{M:Md}{X:Cx}{K:W.Frag}{B:qaF}{O:Mu}{H:Hp}
theorem qfK: ∀{ts:List T}{ns:List Bool}{vs:List V},qez ts=some ns->Reps K B ts vs->vs=ns.map V.bl
 |[],_,_,e,r=>by cases e;exact r.inv0
 |t::ts,ns,vs,e,r=>by
  obtain⟨v,rr,rfl,a,b⟩:=r.inv;cases t with
  |bl i=>
   cases q:qez ts with
   |none=>rw[qez,q] at e;cases e
   |some ms=>rw[qez,q] at e;cases e;rw[qbu a,qfK q b];rfl
  |_=>cases e
theorem qcy{t:T}{vs:List V}(r:Reps K B [t] vs): ∃v,vs=[v]/\Rep K B t v:=by obtain⟨v,rr,rfl,a,b⟩:=r.inv;cases b.inv0;exact⟨v,rfl,a⟩
theorem qh6(r:Reps K B [t,u] vs): ∃v w,vs=[v,w]/\Rep K B t v/\Rep K B u w:=by obtain⟨v,rr,rfl,a,b⟩:=r.inv;obtain⟨w,rfl,c⟩:=qcy b;exact⟨v,w,rfl,a,c⟩
theorem qf6(h:Hs M O H B){t:T}{v:V}{ts:List T}(e:qf7 O t=some ts)(r:Rep M.K B t v): ∃p vs,v= .ref p/\Reps M.K B ts vs/\SqL M.K H p vs:=by
 unfold qf7 at e;split at e
 ·rename_i es;cases e;obtain⟨p,vs,rfl,rv,hs⟩:=qcP h es r;exact⟨p,vs,rfl,rv,hs⟩
 ·cases e
theorem bind_some{α β:Type}{o:Option α}{f:α->Option β}{b:β}(e:o.bind f=some b): ∃a,o=some a/\f a=some b:=by
 cases o with
 |none=>cases e
 |some a=>exact⟨a,rfl,e⟩
theorem qar{α β:Type}{o:Option α}{f:α->β}{b:β}(e:o.map f=some b): ∃a,o=some a/\f a=b:=by
 simp_all
theorem qiC:qat X (.builtin "len") (λxs H Q=> ∃a kvs,xs=[V.ref a]/\Rd H a (.dK kvs)/\Q (.int kvs.length) H):=by intro Z s σ H xs us Q I r h;obtain⟨a,kvs,rfl,ha,q⟩:=h;obtain⟨u,rfl,ru⟩:=qcd r;cases ru;exact qwx I ha λt s' I'=>⟨.int _,H,I',⟨t,rfl⟩,q⟩
theorem qt3(hK:X.K=M.K):qat X (.builtin "len") (rN M qs6):=qat.ok (qat.or qm8 qiC) λO H B vs ts n Q h r e k=>by
 rw[hK];have l0:100000<=sizeLine:=by decide
 unfold qs6 at e;split at e
 ·obtain⟨v,rfl,a⟩:=qcy r;split at e
  ·cases e;rw[qaH a];exact .inl ⟨_,_,rfl,⟨by omega,rfl⟩,k B _ h .refl qaO⟩
  ·cases e
 ·obtain⟨v,rfl,a⟩:=qcy r;split at e
  ·rename_i q es;cases e;obtain⟨p,vs,rfl,rv,hs⟩:=qd2 (b:=q.1) (ts:=q.2) h es a;refine .inl ⟨_,_,rfl,?_,k B _ h .refl qaO⟩;rw[<-rv.length]
   rcases hs with hs|hs
   ·exact .inl ⟨vs,hs,rfl⟩
   ·exact .inr ⟨vs,hs,rfl⟩
  ·obtain⟨kvs,e1,rfl⟩:=qar e;obtain⟨p,us,rfl,hp,ru⟩:=qft h e1 a;exact .inr ⟨p,us,rfl,hp,by rw[ru.length];exact k B _ h .refl qaO⟩
 ·cases e
theorem qt4(hc:X.calm=true)(hK:X.K=M.K):qat X (.builtin "all") (rN M qwg):=qat.ok (qm9 hc) λO H B vs ts n Q h r e k=>by
 unfold qwg at e;split at e
 ·obtain⟨v,rfl,a⟩:=qcy r;obtain⟨bs,e1,rfl⟩:=qar e;obtain⟨ts,e2,e3⟩:=bind_some e1;obtain⟨p,vs,rfl,rv,hs⟩:=qf6 h e2 a;rw[qfK e3 rv] at hs;exact⟨p,bs,rfl,by rw[hK];exact hs,k B _ h .refl qa9⟩
 ·cases e
theorem qt2(hc:X.calm=true)(hK:X.K=M.K):qat X (.builtin "max") (rN M qwd):=qat.ok (qkX hc) λO H B vs ts n Q h r e k=>by
 unfold qwd at e;split at e
 ·cases e;obtain⟨v,w,rfl,a,b⟩:=qh6 r;rw[qah a,qah b];exact⟨_,_,rfl,k B _ h .refl qaO⟩
 ·cases e
theorem qt1(hc:X.calm=true):qat X (.builtin "min") (rN M qwc):=qat.ok (qkW hc) λO H B vs ts n Q h r e k=>by
 unfold qwc at e;split at e
 ·cases e;obtain⟨v,w,rfl,a,b⟩:=qh6 r;rw[qah a,qah b];exact⟨_,_,rfl,k B _ h .refl qaO⟩
 ·cases e
theorem qqt(hK:X.K=M.K):qat X (.type "list") (rN M qpP):=qat.ok qfD λO H B vs ts n Q h r e k=>by
 rw[hK];unfold qpP at e;split at e
 ·obtain⟨v,rfl,a⟩:=qcy r;obtain⟨q,es,rfl⟩:=qar e;obtain⟨p,vs,rfl,rv,hs⟩:=qd2 h es a;exact⟨p,vs,rfl,hs,λl hl=>k B l vs h .refl hl rv⟩
 ·cases e
theorem qm2(hK:X.K=M.K):qat X (.type "tuple") (rN M qkd):=qat.ok qex λO H B vs ts n Q h r e k=>by
 rw[hK];unfold qkd at e;split at e
 ·obtain⟨v,rfl,a⟩:=qcy r;split at e
  ·rename_i ts es;cases e;obtain⟨p,vs,rfl,rv,hs⟩:=qcP h es a;exact⟨p,vs,rfl,.inl ⟨hs,λl hl=>k B l vs h .refl hl rv⟩⟩
  ·rename_i ts es;cases e;obtain⟨p,vs,rfl,rv,hs⟩:=qcP h es a;exact⟨p,vs,rfl,.inr ⟨hs,k B _ h .refl a⟩⟩
  ·cases e
 ·cases e
end
open SR SetL
noncomputable def kyN:T->PL.Ky
 |.int i=>.i i
 |.str x=>.s x
 |_=>.i 0
noncomputable def qlj:T->List PL.Ky
 |.int i=>[.i i]
 |.str x=>[.s x]
 |.tup ts=>ts.map kyN
 |_=>[]
noncomputable def shN:T->Nat
 |.int _=>0
 |.str _=>1
 |_=>9
noncomputable def qcO:T->List Nat
 |.int _=>[0]
 |.str _=>[1]
 |.tup ts=>2::ts.map shN
 |_=>[9]
noncomputable def qbC:List T->Bool
 |[]=>true
 |t::ts=>PL.okShape (qcO t)&&ts.all λu=>qcO u==qcO t
noncomputable def qeL(ts:List T):List T:=PL.sortBy qlj ts
section
open PySem.W PyProof.Rows
noncomputable def qcc(h:Heap)(sh:List Nat)(k:List PL.Ky)(v:Value):Prop:=match sh with
 |[0]=> ∃n t,k=[.i n]/\v= .int n t
 |[1]=> ∃n t,k=[.s n]/\v= .str n t
 |2::r=>PL.KeyTup h k v/\k.map PL.shK=r
 |_=>False
theorem qcc.keep(kp:St.Kp h h')(x:qcc h sh k v):qcc h' sh k v:=by
 unfold qcc at x⊢;split at x
 ·exact x
 ·exact x
 ·obtain⟨⟨p,its,e,⟨o,ho,c⟩,r⟩,s⟩:=x;exact⟨⟨p,its,e,⟨o,kp _ _ ho,c⟩,r⟩,s⟩
 ·exact x.elim
noncomputable def qw2(sh:List Nat):SortKind:=match sh with|2::_=>tuples' true|_=>oneType'
theorem qsM(ok:PL.okShape sh=true)(ki:qcc s.heap sh a u)(kj:qcc s.heap sh b v)(hC:C (PL.ltKs a b) s):
  wpAny (model prog w) A (keyLt' (qw2 sh) u v) C (λ_ _=>False) s:=by
 rcases PL.okShape_cases ok with rfl|rfl|⟨x,r,rfl,hr⟩
 ·obtain⟨n1,t1,f1,g1⟩:=ki;obtain⟨n2,t2,f2,g2⟩:=kj;rw[g1,g2];rw[f1,f2] at hC;refine kat_lt_int ?_;have e:PL.ltKs [.i n1] [.i n2]=decide (n1<n2):=by
   show(if PL.Ky.i n1=PL.Ky.i n2 then false else decide (n1<n2))=_;by_cases c:n1=n2
   ·subst c;rw[if_pos rfl];exact(Vv (Int.lt_irrefl _)).symm
   ·rw[if_neg (λz=>c (by cases z;rfl))]
  rw[<-e];exact hC
 ·obtain⟨n1,t1,f1,g1⟩:=ki;obtain⟨n2,t2,f2,g2⟩:=kj;rw[g1,g2];rw[f1,f2] at hC;refine kas_lt_str ?_;have e:PL.ltKs [.s n1] [.s n2]=decide (n1.cps.toList<n2.cps.toList):=by
   show(if PL.Ky.s n1=PL.Ky.s n2 then false else RH.ltS n1 n2)=_;by_cases c:n1=n2
   ·subst c;rw[if_pos rfl];exact(RH.ordS.irr n1).symm
   ·rw[if_neg (λz=>c (by cases z;rfl))];rfl
  rw[<-e];exact hC
 ·exact PL.lt_tups ki.1 kj.1 (ki.2.trans kj.2.symm) hC
theorem qfS{A:Around}{s:Shared}{its:List Value}{ks:List (List PL.Ky)}(ok:PL.okShape sh=true)(hl:ks.length=its.length)(fj:its.length<64)(cA: ∀R:List Value->Shared->Prop,(∀h1 t1,St.Kp s.heap h1->R its { s with heap:=h1,toks:=t1 })->wpAny (model prog w) A.in1 (collect v) R E s)(hk: ∀j,j<its.length->qcc s.heap sh (ks.getD j []) (its.getD j Value.none))(h: ∀h1 D h' tk c (p:Array Nat),St.Kp s.heap h1->h1.objs.size<=D->St.Kp h1 h'->p.toList=srt (λj=>qh7 PL.ltKs ks (ks.getD j [])) (List.range its.length)->h'.get? D=some (seqObj "list" (List.toArray (p.toList.map λi=>its.getD i Value.none)) c)->Q (.ref D) { s with heap:=h',toks:=tk }):
  wpAny (model prog w) A (call (.builtin "sorted") [v]) Q E s:=by
 have dM: ∀{m:Nat},m<its.length->(ks.map (qh7 PL.ltKs ks)).getD m 0=qh7 PL.ltKs ks (ks.getD m []):=λ{m} hm=>by rw[List.getD_eq_getElem?_getD,List.getElem?_map,List.getElem?_eq_getElem (by omega),List.getD_eq_getElem?_getD,List.getElem?_eq_getElem (by omega)];rfl
 have mem: ∀{m:Nat},m<its.length->ks.getD m []∈ks:=λ{m} hm=>by rw[List.getD_eq_getElem?_getD,List.getElem?_eq_getElem (by omega)];exact List.getElem_mem _
 have kv: ∀{h':Heap},St.Kp s.heap h'->∀u∈its,∃k,qcc h' sh k u:=λ{h'} kp u hu=>by obtain⟨m,hm,rfl⟩:=List.mem_iff_getElem.mp hu;have:=(hk m hm).keep kp;rw[List.getD_eq_getElem?_getD (l:=its),List.getElem?_eq_getElem hm] at this;exact⟨_,this⟩
 refine St.sorted_c (cA _ λh1 t1 kp=> ?_);refine⟨h1,t1,qw2 sh,ks.map (qh7 PL.ltKs ks),rfl,kp,by simp[hl],fj,λs' k2 h2 Q' E' hq=> ?_,λs' k2 i j hi hj C hC=> ?_,λD h' tk c p hD k2 ho eG=> ?_⟩
 ·have dJ:St.Kp s.heap s'.heap:=λb o e=>k2 _ _ (kp _ _ e)
  rcases PL.okShape_cases ok with rfl|rfl|⟨x,r,rfl,hr⟩
  ·have hI: ∀l:List Value,(∀v∈l,∃n t,v= .int n t)->∃ns,IntsAre l ns:=λl=>by
    induction l with
    |nil=>exactλ_=>⟨[],.nil⟩
    |cons v l ih=>intro hl;obtain⟨n,t,rfl⟩:=hl v Vj;obtain⟨ns,hn⟩:=ih λu hu=>hl u (Vk _ hu);exact⟨n::ns,.cons n t hn⟩
   obtain⟨ns,gR⟩:=hI its λv hv=>by obtain⟨k,n,t,_,e⟩:=kv dJ v hv;exact⟨n,t,e⟩
   rw[ksk_kind (keys:=its.toArray) (by simpa using gR) (by simpa using h2)];exact Vb hq
  ·exact PL.kind_strs its h2 (λv hv=>by obtain⟨k,n,t,_,e⟩:=kv dJ v hv;exact⟨n,t,e⟩) hq
  ·have hx:x=0\/x=1:=by rw[List.all_cons,Bool.and_eq_true] at hr;simpa using hr.1
   exact PL.kind_tups its hx h2 (λv hv=>by obtain⟨k,e1,e2⟩:=kv dJ v hv;exact⟨k,e1,e2⟩) hq
 ·rw[dM hi,dM hj,qoE PL.ordKs (mem hi) (mem hj)] at hC;have ki:=(hk i hi).keep (λb o e=>k2 _ _ (kp _ _ e));have kj:=(hk j hj).keep (λb o e=>k2 _ _ (kp _ _ e));exact qsM ok ki kj hC
 ·refine h h1 D h' tk c p kp hD k2 ?_ eG;rw[qjo ho];exact qeJ _ λb hb=>dM (List.mem_range.mp hb)
end
noncomputable def quX(O:Mu)(t:T):Option (List T):=match qf7 O t with
 |some ts=>some ts
 |none=>(match dkv O t with
  |some kvs=>some (kvs.map λp=>qej p.1)
  |none=>(duv O t).map λkvs=>kvs.map λp=>.tup (p.1.map qej))
noncomputable def qc6(O:Mu):List T->Option Nv
 |[t]=>(quX O t).bind λts=>if ts.length<64/\qbC ts=true then some (.l (qeL ts)) else none
 |_=>none
theorem qdE: ∀ks:List Key,Reps K B (ks.map qej) (ks.map kV)
 |[]=>.nil
 |k::ks=>.cons (qc2 k) (qdE ks)
open Classical in
noncomputable def qaF.abs(B:qaF)(H:Hp)(qs:List Addr):qaF:=⟨λa=>if a∈qs then H a else B a,B.ad⟩
section
open Classical
theorem Hs.abs(h:Hs M O H B)(ht: ∀q∈qs,∃vs,H q=some (.tup vs)):Hs M O H (B.abs H qs)/\Go H B H (B.abs H qs):=by
 have le:Le B (B.abs H qs):=⟨λa o e=>by
  show(if a∈qs then H a else B a)=_;split
  ·exact h.bh a o e
  ·exact e,λ_ _ e=>e⟩
 refine⟨⟨λa o e=> ?_,λa ps e=> ?_,h.gm,λk c e n=> ?_,h.ij,h.dm,h.lk,h.ln⟩,⟨le,λ_ _ e _ _=>e,λ_ _ e=>.inl e,λ_ e=>e,λa o e n t1 t2=> ?_⟩⟩
 ·have e:(if a∈qs then H a else B a)=some o:=e;split at e
  ·exact e
  ·exact h.bh a o e
 ·have e:(if a∈qs then H a else B a)=some _:=e;split at e
  ·grind
  ·exact h.bt a ps e
 ·obtain⟨a,o,e1,e2,e3,e4⟩:=h.st k c e n;refine⟨a,o,e1,?_,e3,e4.mono le⟩;show(if a∈qs then H a else B a)=_;rw[if_neg (λm=> ?_)]
  ·exact e2
  ·obtain⟨vs,z⟩:=ht a m;rw[e3] at z;cases z
   rcases e4.mb n with⟨_,e⟩|⟨_,e⟩|⟨_,e⟩|⟨_,_,_,e⟩<;>cases e
 ·show(if a∈qs then H a else B a)=_;rw[if_neg (λm=>by grind)]
end
section
theorem qfp: ∀{us:List T}{ws:List V},us.all (λt=>shN t==0||shN t==1)=true->Reps K B us ws->ws=(us.map kyN).map PL.kyV/\(us.map kyN).map PL.shK=us.map shN
 |[],_,_,r=>⟨r.inv0,rfl⟩
 |u::us,_,h,r=>by
  obtain⟨v,rr,rfl,a,b⟩:=r.inv;rw[List.all_cons,Bool.and_eq_true] at h;obtain⟨e1,e2⟩:=qfp h.2 b;cases u with
  |int i=>rw[qah a,e1];exact⟨rfl,by rw[List.map_cons,List.map_cons,e2];rfl⟩
  |str i=>rw[qaH a,e1];exact⟨rfl,by rw[List.map_cons,List.map_cons,e2];rfl⟩
  |_=>cases h.1
theorem qit(I:Inv X Z σ H s)(le:LeH B H)(ok:PL.okShape (qcO t)=true)(r:Rep X.K B t x)(rv:RelV x v):qcc s.heap (qcO t) (qlj t) v:=by
 cases t with
 |int i=>rw[qah r] at rv;obtain⟨t,rfl⟩:=rv;exact⟨i,t,rfl,rfl⟩
 |str i=>rw[qaH r] at rv;obtain⟨t,rfl⟩:=rv;exact⟨i,t,rfl,rfl⟩
 |tup us=>
  obtain⟨p,ws,rfl,hp,rs⟩:=qay r;cases rv;obtain⟨its,cD,ip,_⟩:=I.tuple (SqT.of (le _ _ hp));have fl:us.all (λt=>shN t==0||shN t==1)=true:=by
   rcases PL.okShape_cases ok with e|e|⟨x,r,e,ho⟩
   ·cases e
   ·cases e
   ·have e:=(List.cons.inj e).2;rw[<-e,List.all_map] at ho;exact ho
  obtain⟨e1,e2⟩:=qfp fl rs;exact⟨⟨p,its,rfl,ip,e1▸cD⟩,e2⟩
 |_=>cases ok
theorem qeK(h:qbC ts=true): ∃sh,PL.okShape sh=true/\∀t∈ts,qcO t=sh:=by
 cases ts with
 |nil=>exact⟨[0],rfl,λ_ h=>nomatch h⟩
 |cons t ts=>
  have h:(PL.okShape _&&ts.all _)=true:=h;rw[Bool.and_eq_true] at h;refine⟨_,h.1,λu hu=> ?_⟩
  rcases List.mem_cons.mp hu with rfl|hu
  ·rfl
  simp_all
theorem qdv(r:Reps K B ts vs): ∀l:List Nat,(∀j∈l,j<ts.length)->Reps K B (l.map λj=>ts.getD j .non) (l.map λj=>vs.getD j .non)
 |[],_=>.nil
 |j::l,h=>.cons (r.getD j (h j Vj)) (qdv r l λi hi=>h i (Vk _ hi))
open PySem.W PyProof.Rows in
theorem qbS{X:Cx}{Z:List (Addr×Obj)}{s:Shared}{σ:L2.St}{H:Hp}{B:qaF}{u:Value}{Q:VK}{ts:List T}{vs:List V}{its:List Value}(I:Inv X Z σ H s)(le:LeH B H)(r:Reps X.K B ts vs)(rv:qau vs its)(fj:ts.length<64)(so:qbC ts=true)(cA: ∀R:List Value->Shared->Prop,(∀h1 t1,St.Kp s.heap h1->R its { s with heap:=h1,toks:=t1 })->wpAny (model X.prog X.w) X.A.in1 (collect u) R X.xe s)(q: ∀D ys,H D=none->Reps X.K B (qeL ts) ys->Q (.ref D) (upd H D (.lst ys))):wpAny (model X.prog X.w) X.A (call (.builtin "sorted") [u]) (EP X Z σ Q) X.xe s:=by
 obtain⟨sh,ok,hs⟩:=qeK so;have l1:=rv.length;have l2:=r.length;have kg: ∀j,j<ts.length->(ts.map qlj).getD j []=qlj (ts.getD j .non)/\ts.getD j .non∈ts:=λj hj=>by
  simp_all
 refine qfS (ks:=ts.map qlj) ok (by simp;omega) (by omega) cA (λj hj=> ?_) λh1 D h' tk c p kp hD k2 ep eG=> ?_
 ·obtain⟨e1,e2⟩:=kg j (by omega);have e3:=hs _ e2;rw[e1,<-e3];exact qit I le (by rw[e3];exact ok) (r.getD j (by omega)) (qeE rv j)
 ·have I2:Inv X Z σ H { s with heap:=h1,toks:=s.toks }:=I.kept (t':=s.toks) kp;have fD:H D=none:=I2.hok.fresh hD;have pm: ∀j∈p.toList,j<ts.length:=λj hj=>by rw[ep] at hj;have:=List.mem_range.mp ((qee _).mp hj);omega
  have e:qeL ts=p.toList.map λj=>ts.getD j .non:=by
   unfold qeL PL.sortBy;rw[ep,qeJ (k':=λj=>qh7 PL.ltKs (ts.map qlj) (qlj (ts.getD j .non))),qov (k:=λt=>qh7 PL.ltKs (ts.map qlj) (qlj t)) (f:=λj=>ts.getD j .non) (λb=>rfl),show its.length=ts.length by omega,Mir.map_range_getD]
   grind
  have I3:Inv X Z σ (upd H D (.lst (p.toList.map λj=>vs.getD j .non))) { s with heap:=h',toks:=tk }:=by refine I2.laid k2 hD ⟨?_,_,c,L2.vals_pick rv p.toList,eG⟩;rw[List.length_map,ep,qio,List.length_range,sizeLine_eq];omega
  refine⟨.ref D,_,I3,rfl,q D _ fD ?_⟩;rw[e];exact qdv r _ pm
theorem qqc(I:Inv X Z σ H s)(hp:Rd H p (.dK us)): ∃(es:Array DictEntry)(ep:Nat),DH.RawD s.heap p es ep/\(p==sysModules)=false/\es.size<=sizeLine/\qau (us.map λp=>kV p.1) (es.toList.map (·.key)):=by
 obtain⟨hz,lo,vs,kv,o,es,ep,ho,hx,hd,h4,h5,h6⟩:=qcz I.hok hp;have l1:=h5.length;have l2:=kv.length;refine⟨es,ep,⟨o,ho,hx,hd⟩,lo,?_,?_⟩
 ·simp_all
 ·have go: ∀{us } {vs } {es },L2.KV us vs->Pairs (qas X.prog X.w) es vs->qau (us.map λp=>kV p.1) (es.map _):=λ{us vs es} kv=>by
   induction kv generalizing es with
   |nil=>intro h;cases h;exact .nil
   |cons c _ ih=>
    intro h;cases h with
    |cons c2 _ h2=>exact .cons (by show RelV (kV _) _;rw[c.1];exact L2.is_kV c2) (ih h2)
  exact go kv h5
open PySem.W PyProof.Rows in
theorem qkM{M:Md}{X:Cx}(hc:X.calm=true)(hK:X.K=M.K):qat X (.builtin "sorted") (rN M qc6):=by
 intro Z s σ H xs us Q I r ⟨O,B,ts,n,h,rt,e,k⟩;unfold qc6 at e;split at e
 case h_2=>cases e
 rename_i t;obtain⟨v,rfl,a⟩:=qcy rt;obtain⟨u,rfl,ru⟩:=qcd r;obtain⟨its,e1,e2⟩:=bind_some e;split at e2
 case isFalse=>cases e2
 rename_i hs;cases e2;have hh:X.A.in1.handled=none:=I.ok.hd hc;unfold quX at e1;split at e1
 ·rename_i ts el;cases e1;obtain⟨p,vs,rfl,rv,sq⟩:=qf6 h el a;cases ru;obtain⟨its,cD,pl,hz⟩:=I.list (by rw[hK];exact sq);have l1:=cD.length;rw[<-hK] at rv;refine qbS I (B:=B) h.bh rv cD hs.1 hs.2 (λR hR=>collect_list pl.isList (hR _ _ λb o q=>by
   have bJ:b<s.heap.objs.size:=Vi q;rw[Heap.get?_update_ne _ _ _ _ (Nat.ne_of_lt bJ),Heap.get?_push_ne _ _ _ (Nat.ne_of_lt bJ)];exact q) (by omega)) λD ys hD ry=>k B D ys h .refl hD (by rw[<-hK];exact ry)
 ·split at e1
  ·rename_i kvs el;cases e1;obtain⟨p,us,rfl,hp,gG⟩:=qft h el a;cases ru;obtain⟨es,ep,r1,lo,hz,cD⟩:=qqc I hp;have rv:Reps X.K B (kvs.map λp=>qej p.1) (us.map λp=>kV p.1):=by
    have go: ∀{kvs:List (Key×T)}{us:List (Key×V)},qaY M.K B kvs us->Reps X.K B (kvs.map λp=>qej p.1) (us.map λp=>kV p.1):=λ{kvs}=>by
     induction kvs with
     |nil=>intro us r;rw[show us=[] from r];exact .nil
     |cons kv kvs ih=>intro us ⟨v,r,e,_,b⟩;rw[e];exact .cons (qc2 kv.1) (ih b)
    exact go gG
   exact qbS I (B:=B) h.bh rv cD hs.1 hs.2 (λR hR=>DH.collectD hh lo r1 hz λh' tk kp=>hR h' tk kp) λD ys hD ry=>k B D ys h .refl hD (by rw[<-hK];exact ry)
  ·obtain⟨kvs,el,rfl⟩:=qar e1;obtain⟨p,us,rfl,hp,gG⟩:=qkx h el a;cases ru;obtain⟨qs,es,ep,r1,lo,hz,hk,h1,h2,h3⟩:=PL.dt_keys I hp;obtain⟨ha,ga⟩:=h.abs (qs:=qs) λq hq=>by obtain⟨j,hj⟩:=List.mem_iff_getElem?.mp hq;obtain⟨k,v,_,z⟩:=h3 j q hj;exact⟨_,z⟩
   have l3:=gG.length;have rv:Reps X.K (B.abs H qs) (kvs.map λp=>.tup (p.1.map qej)) (qs.map V.ref):=by
    refine .of_get (by simp;omega) λj t' v' z1 z2=> ?_;rw[List.getElem?_map] at z1 z2;cases y:qs[j]? with
    |none=>rw[y] at z2;cases z2
    |some b=>
     rw[y] at z2;cases z2;obtain⟨k,v,y1,y2⟩:=h3 j b y;cases y3:kvs[j]? with
     |none=>rw[y3] at z1;cases z1
     |some kv=>rw[y3] at z1;cases z1;obtain⟨v3,y4,_⟩:=qcE gG y3;rw[y1] at y4;cases y4;refine qcr (vs:=kv.1.map kV) ?_ (qdE _);show(if b∈qs then H b else _)=_;rw[if_pos (List.mem_of_getElem? y)];exact y2
   have cD:qau (qs.map V.ref) (es.toList.map (·.key)):=by
    rw[hk];have go: ∀l:List Addr,qau (l.map V.ref) (l.map Value.ref):=λl=>by
     induction l with
     |nil=>exact .nil
     |cons b l ih=>exact .cons rfl ih
    exact go qs
   exact qbS I (B:=B.abs H qs) ha.bh rv cD hs.1 hs.2 (λR hR=>DH.collectD hh lo r1 (by omega) λh' tk kp=>hR h' tk kp) λD ys hD ry=>k _ D ys ha ga hD (by rw[<-hK];exact ry)
end
end NV
namespace NV
open PySem L2
noncomputable def qhc(O:Mu):T->Option (Nat×List T)
 |.obj k=>(match O.l[k]? with|some (.ls ts)=>some (k,ts)|_=>none)
 |_=>none
noncomputable def ql1(O:Mu):T->Option (Nat×List (Key×T))
 |.obj k=>(match O.l[k]? with|some (.dk ts)=>some (k,ts)|_=>none)
 |_=>none
noncomputable def qxf(O:Mu):T->Option (Nat×List (List Key×T))
 |.obj k=>(match O.l[k]? with|some (.du ts)=>some (k,ts)|some (.dk [])=>some (k,[])|_=>none)
 |_=>none
noncomputable def qlL{κ:Type}[DecidableEq κ](kvs:List (κ×T))(k:κ)(t:T):List (κ×T):=if(kvs.any λkv=>decide (kv.1=k))=true then kvs.map (λkv=>if kv.1=k then(kv.1,t) else kv) else kvs++[(k,t)]
noncomputable def qkz(kvs:List (Key×T))(k:Key):List (Key×T):=kvs.filter λkv=>decide (kv.1≠k)
noncomputable def qge(O:Mu):List T->Option Nv
 |[o,x]=>(qhc O o).bind λq=>if q.2.length<=1000 then some (.p q.1 (.ls (q.2++[x])) .non) else none
 |_=>none
noncomputable def qv9(O:Mu):List T->Option Nv
 |[o]=>(qhc O o).bind λq=>(q.2[q.2.length - 1]?).map λt=>.p q.1 (.ls q.2.dropLast) t
 |_=>none
noncomputable def qkh(O:Mu):List T->Option Nv
 |[o]=>(qhc O o).map λq=>.p q.1 (.ls []) .non
 |_=>none
noncomputable def qpR(O:Mu):List T->Option Nv
 |[d,k]=>(ql1 O d).bind λq=>(qfc k).bind λk=>(qiQ q.2 k).map λt=>.p q.1 (.dk (qkz q.2 k)) t
 |_=>none
noncomputable def rM(M:Md)(g:Mu->List T->Option Nv):V->List V->Hp->VK->Prop:=λx vs H Q=>rN M g (x::vs) H Q
theorem MtR.weak{id:String}(h:MtR X id r)(w: ∀x xs H Q,r' x xs H Q->r x xs H Q):MtR X id r':=λZ s σ H x xs v us Q I rx rs q=>h _ s σ H x xs v us Q I rx rs (w _ _ _ _ q)
section
theorem qd8(h:Hs M O H B)(e:qhc O t=some q)(r:Rep M.K B t v): ∃a vs,v= .ref a/\B.ad q.1=some a/\H a=some (.lst vs)/\Reps M.K B q.2 vs:=by
 unfold qhc at e;split at e
 ·split at e
  ·rename_i el;cases e;obtain⟨a,rfl,ea⟩:=qaD r;obtain⟨o,_,ho,vs,rfl,rv⟩:=h.at el (by simp) ea
   simp_all
  ·cases e
 ·cases e
theorem qjl(h:Hs M O H B)(e:ql1 O t=some q)(r:Rep M.K B t v): ∃a vs,v= .ref a/\B.ad q.1=some a/\H a=some (.dK vs)/\qaY M.K B q.2 vs:=by
 unfold ql1 at e;split at e
 ·split at e
  ·rename_i el;cases e;obtain⟨a,rfl,ea⟩:=qaD r;obtain⟨o,_,ho,vs,rfl,rv⟩:=h.at el (by simp) ea
   simp_all
  ·cases e
 ·cases e
theorem qih:MtR X "list.append" (rM M qge):=MtR.weak qe2 (by
 rintro x xs H Q ⟨O,B,ts,n,h,r,e,k⟩;unfold qge at e;split at e
 ·obtain⟨a,b,eq,ra,rb⟩:=qh6 r;cases eq;obtain⟨q,e1,e2⟩:=bind_some e;split at e2
  ·cases e2;obtain⟨p,vs,rfl,ea,hp,rv⟩:=qd8 h e1 ra;have l0:1001<sizeLine:=by decide
   exact⟨p,vs,b,rfl,rfl,hp,by rw[rv.length];omega,k.2 B p _ _ h .refl ea ⟨_,rfl,rv.append (.one rb)⟩ qeZ⟩
  ·cases e2
 ·cases e)
theorem qpl:MtR X "list.pop" (rM M qv9):=MtR.weak qsC λx xs H Q ⟨O,B,ts,n,h,r,e,k⟩=>by
 unfold qv9 at e;split at e
 ·obtain⟨a,eq,ra⟩:=qcy r;cases eq;obtain⟨q,e1,e2⟩:=bind_some e;obtain⟨t,e3,rfl⟩:=qar e2;obtain⟨p,vs,rfl,ea,hp,rv⟩:=qd8 h e1 ra;obtain⟨v,ev,bY⟩:=rv.get e3;have hl:=rv.length;refine⟨p,vs,v,rfl,rfl,hp,by rw[hl];exact ev,k.2 B p _ _ h .refl ea ⟨_,rfl,?_⟩ bY⟩;rw[List.dropLast_eq_take,List.dropLast_eq_take,hl];exact rv.take _
 ·cases e
theorem qjD:MtR X "list.clear" (rM M qkh):=MtR.weak qma λx xs H Q ⟨O,B,ts,n,h,r,e,k⟩=>by
 unfold qkh at e;split at e
 ·obtain⟨a,eq,ra⟩:=qcy r;cases eq;obtain⟨q,e1,rfl⟩:=qar e;obtain⟨p,vs,rfl,ea,hp,rv⟩:=qd8 h e1 ra;exact⟨p,vs,rfl,rfl,hp,k.2 B p _ _ h .refl ea ⟨_,rfl,.nil⟩ qeZ⟩
 ·cases e
end
section
variable{K:W.Frag}{B:qaF}{κ:Type}[DecidableEq κ]
theorem qgY(k:κ): ∀{ts:List (κ×T)}{vs:List (κ×V)},qaY K B ts vs->(vs.any λkv=>decide (kv.1=k))=ts.any λkv=>decide (kv.1=k)
 |[],vs,r=>by rw[r];rfl
 |(k',t)::ts,_,⟨v,r,e,_,b⟩=>by rw[e,List.any_cons,List.any_cons,qgY k b]
theorem qeP(h:Rep K B t v): ∀{ts:List (κ×T)}{vs:List (κ×V)},qaY K B ts vs->qaY K B (ts++[(k,t)]) (vs++[(k,v)])
 |[],vs,r=>by rw[r];exact⟨v,[],rfl,h,rfl⟩
 |(k',t')::ts,_,⟨w,r,e,a,b⟩=>by rw[e];exact⟨w,_,rfl,a,qeP h b⟩
theorem qcT(k:κ)(h:Rep K B t v): ∀{ts:List (κ×T)}{vs:List (κ×V)},qaY K B ts vs->qaY K B (ts.map λkv=>if kv.1=k then(kv.1,t) else kv) (vs.map λkv=>if kv.1=k then(kv.1,v) else kv)
 |[],vs,r=>by rw[r];rfl
 |(k',t')::ts,_,⟨w,r,e,a,b⟩=>by
  rw[e,List.map_cons,List.map_cons];by_cases c:k'=k
  ·rw[if_pos c,if_pos c];exact⟨v,_,rfl,h,qcT k h b⟩
  ·rw[if_neg c,if_neg c];exact⟨w,_,rfl,a,qcT k h b⟩
theorem qb2{k:κ}{t:T}{v:V}{ts:List (κ×T)}{vs:List (κ×V)}(r:qaY K B ts vs)(h:Rep K B t v):qaY K B (qlL ts k t) (qg4 vs k v):=by
 unfold qlL qg4;rw[qgY k r];split
 ·exact qcT k h r
 ·exact qeP h r
theorem qeR: ∀{ts:List (Key×T)}{vs:List (Key×V)},qaY K B ts vs->qaY K B (qkz ts k) (qgj vs k)
 |[],vs,r=>by rw[r];rfl
 |(k',t')::ts,_,⟨w,r,e,a,b⟩=>by
  have ih:=qeR (k:=k) b;unfold qkz qgj at ih⊢;rw[e,List.filter_cons,List.filter_cons];by_cases c:k'=k
  ·simp_all
  ·rw[if_pos (by simp[c]),if_pos (by simp[c])];exact⟨w,_,rfl,a,ih⟩
end
section
theorem ql9:MtR X "dict.pop" (rM M qpR):=by
 intro Z s σ H x vs v us Q I rx rv ⟨O,B,ts,n,h,r,e,k⟩;unfold qpR at e;split at e
 ·obtain⟨a,b,eq,ra,rb⟩:=qh6 r;cases eq;obtain⟨q,e1,e2⟩:=bind_some e;obtain⟨ky,e3,e4⟩:=bind_some e2;obtain⟨t,e5,rfl⟩:=qar e4;obtain⟨p,ws,rfl,ea,hp,rw⟩:=qjl h e1 ra;obtain⟨v,ev,bY⟩:=(qbD ky rw).1 t e5;cases rx;obtain⟨u,rfl,ru⟩:=qcd rv;rw[qc1 e3 rb] at ru;exact qww I hp ru ev (.inl rfl) λw' s3 I3 ar=>⟨v,_,I3,ar,k.2 B p _ _ h .refl ea ⟨_,rfl,qeR rw⟩ bY⟩
 ·cases e
noncomputable def qpM(O:Mu)(o i v:T):Option (Nat×Ct):=match qhc O o,i with
 |some q,.int k=>(ixN q.2.length k).map λj=>(q.1,.ls (q.2.set j v))
 |_,_=>(match ql1 O o,qfc i with
  |some q,some k=>if q.2.length<=1000 then some (q.1,.dk (qlL q.2 k v)) else none
  |_,_=>(match qxf O o,quw i with
   |some q,some k=>if q.2.length<=1000 then some (q.1,.du (qlL q.2 k v)) else none
   |_,_=>none))
noncomputable def qvc(M:Md):qwQ:=λo i v H Q=> ∃O B to ti tv q,Hs M O H B/\Rep M.K B to o/\Rep M.K B ti i/\Rep M.K B tv v/\qpM O to ti tv=some q/\O.live q.1=true/\∀a ob,B.ad q.1=some a->qeC M.K B q.2 ob->Q (upd H a ob)
theorem qu3{M:Md}{X:Cx}(hu:X.A.units+1<cLine):qwS X (qvc M):=by
 intro Z s σ H o i v ov iv u Q I ro ri rv ⟨O,B,to,ti,tv,q,h,r1,r2,r3,e,lv,k⟩;have l0:1001<=sizeLine:=by decide
 unfold qpM at e;split at e
 ·rename_i p kk e1;obtain⟨j,e2,rfl⟩:=qar e;obtain⟨a,vs,rfl,ea,hp,rw⟩:=qd8 h e1 r1;rw[qah r2] at ri;have hl:=rw.length;exact qly Z s σ H _ _ v ov iv u Q I ro ri rv ⟨a,vs,kk,j,rfl,rfl,hp,by rw[hl];exact e2,k a _ ea ⟨_,rfl,rw.set j r3⟩⟩
 ·split at e
  ·rename_i p ky e1 e2;split at e
   ·rename_i hz;cases e;obtain⟨a,vs,rfl,ea,hp,rw⟩:=qjl h e1 r1;have hl:=rw.length;cases ro;exact qdc hu I (.inl ⟨vs,ky,hp,qc1 e2 r2,by omega,rfl⟩) ri rv λs' I'=>⟨_,I',k a _ ea ⟨_,rfl,qb2 rw r3⟩⟩
   ·cases e
  ·split at e
   ·rename_i p ky e1 e2;split at e
    ·rename_i hz;cases e;obtain⟨b,rfl,hb⟩:=qga h e2 r2;unfold qxf at e1;split at e1
     ·rename_i kk;obtain⟨a,rfl,ea⟩:=qaD r1;cases ro;split at e1
      ·rename_i el;cases e1;obtain⟨ob,_,ho,us,rfl,ru⟩:=h.at el (by simp) ea;have hl:=ru.length;have hz:_<=1000:=hz;dsimp only at hz;exact qdc hu I (.inr ⟨us,ky,b,ho,rfl,hb,by rw[hl];omega,rfl⟩) ri rv λs' I'=>⟨_,I',k a _ ea ⟨_,rfl,qb2 ru r3⟩⟩
      ·rename_i el;cases e1;obtain⟨ob,_,ho,us,rfl,ru⟩:=h.at el (by simp) ea;have:us=[]:=ru;subst this;have I':=PL.Inv.asT I ho;have a8:upd H a (.dT []) b=some (.tup (ky.map kV)):=by rw[qac (λz=>by rw[z,ho] at hb;cases hb)];exact hb
       refine qdc hu I' (.inr ⟨[],ky,b,qae,rfl,a8,by show 0<sizeLine;omega,rfl⟩) ri rv λs' I'=>⟨_,I',?_⟩
       rw[qfP];exact k a _ ea ⟨_,rfl,qb2 (ts:=[]) (vs:=[]) rfl r3⟩
      ·cases e1
     ·cases e1
    ·cases e
   ·cases e
theorem qrR(iH:qwS X t)(ho:PE X o td)(hi:PE X i ty)(hv:PE X value tv)(hs:swapsWith value (some (.Subscript o i pos')) pos.line X.env=pure false):
  PS X (.Assign [.Subscript o i pos'] value pos) (λD σ H=>tv σ H λv H1=>td σ H1 λx H2=>ty σ H2 λy H3=>t x y v H3 λH4=>D.nx σ H4):=by intro Z s σ H D I h;exact wpAny_Assign_Subscript (thn (hv _ s σ H _ I h) λr s1 ⟨v,H1,I1,rv,q1⟩=>thn (ho _ s1 σ H1 _ I1 q1) λu s2 ⟨x,H2,I2,rx,q2⟩=>thn (hi _ s2 σ H2 _ I2 q2) (by rintro iv s3 ⟨y,H3,I3,ry,q3⟩;exact thn (iH _ s3 σ H3 x y v u iv r _ I3 rx ry rv q3) λ_ s4 ⟨H4,I4,q4⟩=>⟨σ,H4,I4,q4⟩)) hs
noncomputable def qxv(bG di dv:DS0 T):DS0 Out:=dSq dv λv=>dSq bG λo=>dSq di λi ρ O=>match qpM O o i v with
 |some q=>if O.live q.1=true then .ok (.nx ρ) (O.put q.1 q.2) else .no
 |none=>.no
theorem qtt(hu:X.A.units+1<cLine)(ho:PE X o (tE M E bG))(hi:PE X i (tE M E di))(hv:PE X value (tE M E dv))(hs:swapsWith value (some (.Subscript o i pos')) pos.line X.env=pure false):
  PS X (.Assign [.Subscript o i pos'] value pos) (tS M E (qxv bG di dv)):=PS.weak (qrR (qu3 hu) ho hi hv hs) (by
 rintro D σ H ⟨ρ,O,B,ev,w⟩;refine tE.of ev ((Wn.bind w).mono λt af w1 v H1 B1 h1 l1 r1=> ?_);refine tE.of (ev.on h1 l1.le) ((Wn.bind w1).lift l1 λx ah w2 u H2 B2 h2 l2 r2=> ?_);have fK:=l1.trans l2;refine tE.of ((ev.on h1 l1.le).on h2 l2.le) ((Wn.bind w2).lift fK λy bj w3 z H3 B3 h3 l3 r3=> ?_);have fJ:=fK.trans l3;have w3:Wn M E H B (KS M H B D) (match qpM bj x y t with|some q=>if bj.live q.1=true then .ok _ _ else .no|none=>.no):=w3;split at w3
 ·rename_i q eq;split at w3
  ·rename_i lv;refine⟨bj,B3,x,y,t,q,h3,r2.mono l3.le,r3,r1.mono (l2.trans l3).le,eq,lv,λa ob ea hc=> ?_⟩;obtain⟨c0,e0,n0⟩:=Mu.live_at lv;have g:=fJ.trans (qsX (o:=ob) ea);exact w3 σ _ B3 (ev.on (h3.put e0 n0 ea hc) g.le) g
  ·exact w3.elim
 ·exact w3.elim)
theorem qkB:PE X (.Dict [] [] pos) (tN M E λ_ O=>.ok (.dk []) O):=PE.weak qlX (by rintro σ H Q ⟨ρ,O,B,ev,w⟩ p hp;exact w p _ H B ev.hs .refl hp ⟨[],rfl,rfl⟩)
end
noncomputable def gOr(g g':Mu->List T->Option Nv):Mu->List T->Option Nv:=λO ts=>match g O ts with
 |some n=>some n
 |none=>g' O ts
theorem qpN(h:gOr g g' O ts=some n):g O ts=some n\/g' O ts=some n:=by
 unfold gOr at h;split at h
 ·grind
 ·exact .inr h
section
theorem qwC(h:qat X f (rN M g))(h':qat X f (rN M g')):qat X f (rN M (gOr g g')):=(by rintro Z s σ H xs us Q I r ⟨O,B,ts,n,hs,rr,e,k⟩;exact(qpN e).elim (λe=>h _ s σ H xs us Q I r ⟨O,B,ts,n,hs,rr,e,k⟩) λe=>h' _ s σ H xs us Q I r ⟨O,B,ts,n,hs,rr,e,k⟩)
end
noncomputable def PrV(H:Hp):List V->List (Key×V)->Prop
 |[],ps=>ps=[]
 |v::vs,ps=> ∃k w r,ps=(k,w)::r/\(∃ta,v= .ref ta/\H ta=some (.tup [kV k,w]))/\PrV H vs r
section
theorem qfW: ∀{vs:List V}{ps:List (Key×V)},PrV H vs ps->ps.length=vs.length
 |[],_,h=>by rw[h];rfl
 |_::_,_,⟨_,_,_,e,_,h⟩=>by rw[e,List.length_cons,List.length_cons,qfW h]
theorem qg6(I:Inv X Z σ H s): ∀{vs:List V}{ps:List (Key×V)}{its:List Value},PrV H vs ps->qau vs its->∃pu:List (Key×Value),L2.KV ps pu/\∀(i:Nat)(pp:Key×Value),pu[i]? =some pp->∃v,its[i]? =some v/\qle (qas X.prog X.w) s.heap pp v
 |[],_,its,h,r=>by have h:_=[]:=h;subst h;cases r;exact⟨[],.nil,λi pp h=>by simp at h⟩
 |_::vs,_,its,⟨k,w,ps,e,⟨ta,ev,ht⟩,h⟩,r=>by
  subst e;subst ev;cases r with
  |cons vy vys=>
   rename_i u us;obtain⟨pu,e2,e4⟩:=qg6 I h vys;cases vy;obtain⟨aF,cD,ip,_⟩:=I.tuple (SqT.of ht);cases cD with
   |cons a1 a2=>
    rename_i uk us2;cases a2 with
    |cons b1 b2=>
     rename_i uv us3;cases b2;refine⟨(k,uv)::pu,.cons ⟨rfl,b1⟩ e2,λi qq hi=> ?_⟩;cases i with
     |zero=>simp at hi;subst hi;exact⟨_,rfl,ta,uk,rfl,ip,qfd a1⟩
     |succ i=>
      simp_all
noncomputable def qgg(ps:List (Key×V))(d:List (Key×V)):List (Key×V):=ps.foldl (λd p=>qg4 d p.1 p.2) d
theorem qfn: ∀(pv dv:List (Key×V)),(qgg pv dv).length<=dv.length+pv.length
 |[],dv=>Vl _
 |p::pv,dv=>by
  have h1:=qfn pv (qg4 dv p.1 p.2);have h2:=qbX dv p.1 p.2;show(qgg pv _).length<=_
  grind
theorem qhw: ∀{pv:List (Key×V)}{pu:List (Key×Value)}{dv:List (Key×V)}{du:List (Key×Value)},L2.KV pv pu->L2.KV dv du->L2.KV (qgg pv dv) (qi0 du pu)
 |[],_,dv,du,k,kd=>by cases k;exact kd
 |p::pv,_,dv,du,k,kd=>by
  cases k with
  |cons a b=>rename_i qq qs;obtain⟨qk,qv⟩:=qq;obtain⟨kk,vv⟩:=p;have ek:=a.1;subst ek;show L2.KV (qgg pv _) (qi0 _ qs);exact qhw b (kd.put kk a.2)
theorem qiD(hc:X.calm=true):qat X (.type "dict") (λxs H Q=> ∃p vs ps,xs=[V.ref p]/\H p=some (.lst vs)/\PrV H vs ps/\ps.length<=1000/\∀l,H l=none->Q (.ref l) (upd H l (.dK (qgg ps [])))):=by
 intro Z s σ H xs us Q I r h;obtain⟨p,vs,ps,rfl,hp,pr,hz,q⟩:=h;obtain⟨u,rfl,ru⟩:=qcd r;cases ru;obtain⟨z,its,n,rv,hl,el⟩:=I.lstM hp;have hh:=I.ok.hd hc;have l1:=qfW pr;obtain⟨pu,f2,f4⟩:=qg6 I pr rv;have lpu:=f2.length;refine qiE hh el (by lia) (by lia) f4 λh' tk hD kp=> ?_;have kD:=qhw f2 .nil;have sm:(s.heap.objs.size==sysModules)=false:=by simpa using Nat.ne_of_gt I.big
 have I3:=by
  refine I.laid (t':=tk) kp (Vl _) (qfu ?_ sm kD hD);have h1:=qfn ps []
  grind
 exact⟨.ref _,_,I3,rfl,q _ (I.hok.fresh (Vl _))⟩
noncomputable def qb7:T->Option (Key×T)
 |.tup [k,v]=>(qfc k).map λq=>(q,v)
 |_=>none
noncomputable def quv(O:Mu):T->Option (List T)
 |.lst ts=>some ts
 |.obj k=>(match O.l[k]? with|some (.ls ts)=>some ts|_=>none)
 |_=>none
theorem qpq(h:Hs M O H B)(e:quv O t=some ts)(r:Rep M.K B t v): ∃p vs,v= .ref p/\H p=some (.lst vs)/\Reps M.K B ts vs:=by
 unfold quv at e;split at e
 ·cases e;obtain⟨p,vs,rfl,hp,rs⟩:=qaB r;exact⟨p,vs,rfl,h.bh _ _ hp,rs⟩
 ·split at e
  ·rename_i el;obtain⟨a,rfl,ea⟩:=qaD r;obtain⟨o,b0,ho,vs,rfl,rv⟩:=h.at el (by simp) ea
   simp_all
  ·cases e
 ·cases e
noncomputable def qkr(ps:List (Key×T))(d:List (Key×T)):List (Key×T):=ps.foldl (λd p=>qlL d p.1 p.2) d
noncomputable def qkf(O:Mu):List T->Option Nv
 |[a]=>(quv O a).bind λts=>if ts.length<=1000/\(ts.all λt=>(qb7 t).isSome)=true then some (.d (qkr (ts.filterMap qb7) [])) else none
 |_=>none
theorem qhb{M:Md}(bh: ∀a o,B a=some o->H a=some o): ∀{ts:List T}{vs:List V},(ts.all λt=>(qb7 t).isSome)=true->Reps M.K B ts vs->∃ps,PrV H vs ps/\qaY M.K B (ts.filterMap qb7) ps
 |[],vs,_,r=>by rw[r.inv0];exact⟨[],rfl,rfl⟩
 |t::ts,vs,ha,r=>by
  obtain⟨v,cC,rfl,a,b⟩:=r.inv;rw[List.all_cons,Bool.and_eq_true] at ha;obtain⟨ps,h1,h2⟩:=qhb bh ha.2 b;have jb:=ha.1;unfold qb7 at jb;split at jb
  ·rename_i k x;cases ek:qfc k with
   |none=>grind
   |some q=>
    obtain⟨p,ws,rfl,hp,rs⟩:=qay a;obtain⟨wk,r',rfl,rk,rr⟩:=rs.inv;obtain⟨wv,r'',rfl,bY,rr'⟩:=rr.inv;rw[rr'.inv0,qc1 ek rk] at hp;refine⟨(q,wv)::ps,⟨q,wv,ps,rfl,⟨p,rfl,bh _ _ hp⟩,h1⟩,?_⟩;have e:qb7 (.tup [k,x])=some (q,x):=by simp only[qb7,ek,Option.map_some]
    rw[List.filterMap_cons,e];exact⟨wv,ps,rfl,bY,h2⟩
  ·cases jb
theorem qhv: ∀{ps:List (Key×T)}{pv:List (Key×V)}{d:List (Key×T)}{dv:List (Key×V)},qaY K B ps pv->qaY K B d dv->qaY K B (qkr ps d) (qgg pv dv)
 |[],_,_,_,r,rd=>by rw[r];exact rd
 |(k,t)::ps,_,d,dv,⟨v,r,e,a,b⟩,rd=>by rw[e];show qaY K B (qkr ps _) (qgg r _);exact qhv b (qb2 rd a)
theorem qm3{X:Cx}(hc:X.calm=true):qat X (.type "dict") (rN M qkf):=qat.ok (qiD hc) λO H B vs ts n Q h r e k=>by
 unfold qkf at e;split at e
 ·obtain⟨v,rfl,a⟩:=qcy r;rename_i t;cases el:quv O t with
  |none=>rw[el] at e;cases e
  |some us=>
   rw[el,Option.bind_some] at e;split at e
   ·rename_i b7;cases e;obtain⟨p,ws,rfl,hp,rs⟩:=qpq h el a;obtain⟨ps,h1,h2⟩:=qhb (M:=M) (H:=H) h.bh b7.2 rs;refine⟨p,ws,ps,rfl,hp,h1,?_,λl hl=>k B l _ h .refl hl (qhv h2 rfl)⟩;have:=qfW h1;have:=rs.length;omega
   ·cases e
 ·cases e
end
noncomputable def qaF.ovl(B:qaF)(ex:Hp):qaF:=⟨L2.ovl B.hp ex,B.ad⟩
section
theorem Hs.many(h:Hs M O H B)(hn: ∀b o,ex b=some o->H b=none)(ht: ∀b ps,ex b≠some (.tbl ps)):Hs M O (L2.ovl H ex) (B.ovl ex)/\Go H B (L2.ovl H ex) (B.ovl ex):=by
 have old: ∀b o,H b=some o->ex b=none:=λb o e=>by
  cases z:ex b with
  |none=>rfl
  |some u=>grind
 have kp: ∀b o,H b=some o->L2.ovl H ex b=some o:=λb o e=>by rw[qaZ (old b o e)];exact e
 have le:Le B (B.ovl ex):=⟨λa o e=>by show L2.ovl _ ex a=_;rw[qaZ (old a o (h.bh _ _ e))];exact e,λ_ _ e=>e⟩
 have h2:=h.more kp;refine⟨⟨λa u e=> ?_,λa ps e=> ?_,h2.gm,λj c e n=> ?_,h.ij,h2.dm,h.lk,h.ln⟩,⟨le,λa o e _ _=>kp a o e,λ_ _ e=>.inl e,λa e z=> ?_,λa o e _ _ _=>by show L2.ovl _ ex a=_;rw[qaZ (old a o e)]⟩⟩
 ·have e:L2.ovl _ ex a=some u:=e;cases z:ex a with
  |none=>rw[qaZ z] at e⊢;exact h.bh _ _ e
  |some w=>rw[qb8 z] at e⊢;exact e
 ·have e:L2.ovl _ ex a=some _:=e;cases z:ex a with
  |none=>rw[qaZ z] at e;exact h.bt a ps e
  |some w=>rw[qb8 z] at e;grind
 ·obtain⟨a,u,e1,e2,e3,e4⟩:=h.st j c e n;exact⟨a,u,e1,by show L2.ovl _ ex a=_;rw[qaZ (old a u e3)];exact e2,kp a u e3,e4.mono le⟩
 ·cases q:H a with
  |none=>exact e q
  |some o=>simp_all
end
noncomputable def qxM(ex:Hp)(us:List (Key×V))(vs:List V):Prop:=vs.length=us.length/\∀(j:Nat)(k:Key)(v:V),us[j]? =some (k,v)->∃b,vs[j]? =some (.ref b)/\ex b=some (.tup [kV k,v])
noncomputable def qro(to:TE):TE:=λσ H Q=>to σ H λx H1=> ∃a us,x= .ref a/\Rd H1 a (.dK us)/\∀(ex:Hp) l vs,(∀b o,ex b=some o->H1 b=none)->(∀b ps,ex b≠some (.tbl ps))->ex l=some (.lst vs)->qxM ex us vs->Q (.ref l) (L2.ovl H1 ex)
section
open PySem.W PyProof.Rows in
theorem qjj(hc:X.calm=true)(gs:Gl X "list")(ms:X.mg "list" =none)(ho:PE X o to)(aB:attributeBase o "items" X.env (eval o X.env)=eval o X.env)(aq:(apos.endLine==cpos.line)=true):
  PE X (.Call (.Name "list" p1) [.Call (.Attribute o "items" apos) [] [] cpos] [] pos) (qro to):=by
 intro Z s σ H Q I hq;refine Vf (qdD I gs ms (show bootBuiltins "list" =some (.type "list") by decide+kernel) ?_);have inner:wpAny (model X.prog X.w) X.A (eval (.Call (.Attribute o "items" apos) [] [] cpos) X.env) (λv s2=> ∃VA a us H1,v= .ref VA/\s2.heap.IsItemsView VA a/\Inv X Z σ H1 s2/\Rd H1 a (.dK us)/\∀(ex:Hp) l vs,(∀b o,ex b=some o->H1 b=none)->(∀b ps,ex b≠some (.tbl ps))->ex l=some (.lst vs)->qxM ex us vs->Q (.ref l) (L2.ovl H1 ex)) X.xe s:=by
  refine wpAny_Call_method0_late aB aq (thn (ho Z s σ H _ I hq) λv s1 ⟨x,H1,I1,r1,a,us,ex,hp,w1⟩=> ?_);subst ex;obtain rfl:v=Value.ref a:=r1;obtain⟨z,fN,vs,rel,od,es,ep,d1,d2,d3⟩:=qcz I1.hok hp;have h1:s1.TypeIs (.ref a) "dict" :=⟨od,d1,d2.1⟩
  have h2: ∀b,Value.ref a= .ref b->∃ob,s1.heap.get? b=some ob/\ob.dict=none:=λb e=>by cases e;exact⟨od,d1,d2.2.1⟩
  refine⟨"dict", "dict.items",F.plainAttrs_dict,F.slot_dict_items,F.type_dict_items,h1,h2,Calls.callWith_builtin rfl (PySem.evalArgs_none (qiu d1 d2 fN ?_))⟩;exact⟨_,a,us,H1,rfl,⟨_,Vh _ rfl,rfl,rfl⟩,I1.kept (t':=s1.toks) λb o e=>Vg _ e,hp,w1⟩
 refine PyProof.Rows.callWith_type1 (Calls.spliced_cons (thn inner λu s2 ⟨VA,a,us,H1,eu,vw,I2,hp,w1⟩=>Calls.spliced_nil ?_)) rfl rfl;subst eu;obtain⟨z,fN,vs,rel,od,es,ep,d1,d2,d3,d4,d5,d6⟩:=qcz I2.hok hp;have hh:X.A.handled=none:=I2.ok.hd hc;have lv:us.length=vs.length:=rel.length;refine kdx_call (knd:=qas X.prog X.w) (kvs:=vs) (ep:=ep) hh vw ⟨od,es,d1,d2,d3,d4,d5,d6⟩ (by rw[<-lv];exact z) λh' tk acc c as kp hS la G ha=> ?_;have pr: ∀{j:Nat}{b:Addr},as[j]? =some b->∃k v key x,us[j]? =some (k,v)/\RelV (kV k) key/\RelV v x/\h'.get? b=some { cls:=Value.type "tuple",data:=Data.seq #[key,x] }:=λ{j b} hb=>by obtain⟨key,k,x,e1,e2,e3⟩:=G.pairs j b hb;obtain⟨v,e4,e5⟩:=rel.get e1;exact⟨k,v,key,x,e4,is_kV e2,e5,e3⟩
 have hi: ∀b∈as,s2.heap.objs.size<b:=λb hb=>G.above b hb;let ex:Hp:=λb=>if b=s2.heap.objs.size then some (.lst (as.map V.ref)) else((as.zip us).find? λq=>q.1==b).map λq=>HO.tup [kV q.2.1,q.2.2]
 have j5:ex s2.heap.objs.size=some (.lst (as.map V.ref)):=if_pos rfl;have gB: ∀{j:Nat}{b:Addr}{k:Key}{v:V},as[j]? =some b->us[j]? =some (k,v)->ex b=some (.tup [kV k,v]):=λ{j b k v} h1 h2=>by have:=hi b (Vt h1);show(if b=s2.heap.objs.size then _ else _)=_;rw[if_neg (Nat.ne_of_gt this),qhx G.rise h1 h2];rfl
 have cQ: ∀b o,ex b=some o->(b=s2.heap.objs.size/\o= .lst (as.map V.ref))\/∃(j:Nat)(k:Key)(v:V),as[j]? =some b/\us[j]? =some (k,v)/\o= .tup [kV k,v]:=λb o e=>by
  have e:(if b=s2.heap.objs.size then _ else _)=some o:=e;split at e
  ·rename_i q;exact .inl ⟨q,(Option.some.inj e).symm⟩
  ·obtain⟨q,hf,e⟩:=Option.map_eq_some_iff.mp e;have qb:q.1=b:=by simpa using List.find?_some hf
   obtain⟨j,hj,eq⟩:=List.mem_iff_getElem.mp (List.mem_of_find?_eq_some hf);rw[List.getElem_zip] at eq;rw[List.length_zip] at hj;refine .inr ⟨j,q.2.1,q.2.2,?_,?_,e.symm⟩
   ·rw[List.getElem?_eq_getElem (by omega),<-qb,<-eq]
   ·rw[List.getElem?_eq_getElem (by omega),<-eq]
 have eT: ∀b o,ex b=some o->s2.heap.objs.size<=b:=λb o e=>by
  rcases cQ b o e with⟨q,_⟩|⟨j,k,v,h1,_,_⟩
  ·rw[q];exact Vl _
  ·exact Vo (hi b (Vt h1))
 have I3:Inv X Z σ (L2.ovl H1 ex) { s2 with heap:=h',toks:=tk }:=I2.laidF (t':=tk) kp eT λb o e=>by
  rcases cQ b o e with⟨q,rfl⟩|⟨j,k,v,h1,h2,rfl⟩
  ·subst q;have va:qau (as.map V.ref) (as.map Value.ref):=by
    clear la G ha pr hi j5 gB cQ eT e
    induction as with
    |nil=>exact .nil
    |cons x as ih=>exact .cons rfl ih
   exact⟨by rw[List.length_map,la,<-lv];exact z,as.map Value.ref,c,va,by rw[hS,<-ha]⟩
  ·obtain⟨k',v',key,x,f1,f4,f5,f6⟩:=pr h1;rw[h2] at f1;cases f1;exact⟨by show 2<=sizeLine;decide,[key,x],.cons f4 (.cons f5 .nil),⟨_,f6,rfl,_,rfl⟩⟩
 refine⟨.ref _,_,I3,rfl,w1 ex _ _ (λb o e=>I2.hok.fresh (eT b o e)) (λb ps e=> ?_) j5 ⟨by rw[List.length_map,la,lv],λj k v h2=> ?_⟩⟩
 ·rcases cQ b _ e with⟨_,q⟩|⟨_,_,_,_,_,q⟩<;>cases q
 ·have hj:j<as.length:=by rw[la,<-lv];exact(List.getElem?_eq_some_iff.mp h2).1
  have h1:as[j]? =some as[j]:=Vw hj;exact⟨as[j],by rw[List.getElem?_map,h1];rfl,gB h1 h2⟩
end
noncomputable def kT:Key->T
 |.inl i=>.int i
 |.inr s=>.str s
noncomputable def qsa(p:Key×T):T:=.tup [kT p.1,p.2]
theorem qrB(k:Key):Rep K B (kT k) (kV k):=by cases k<;>first|exact qaO|exact qcs
noncomputable def qnZ(d:DS0 T):DS0 T:=dSq d λt _ O=>match dkv O t with
 |some kvs=>.ok (.lst (kvs.map qsa)) O
 |none=>.no
section
theorem qkF(hc:X.calm=true)(gs:Gl X "list")(ms:X.mg "list" =none)(ho:PE X o (tE M E da))(aB:attributeBase o "items" X.env (eval o X.env)=eval o X.env)(aq:(apos.endLine==cpos.line)=true):
  PE X (.Call (.Name "list" p1) [.Call (.Attribute o "items" apos) [] [] cpos] [] pos) (tE M E (qnZ da)):=PE.weak (qjj hc gs ms ho aB aq) λσ H Q ⟨ρ,O,B,ev,w⟩=>by
 refine tE.of ev ((Wn.bind w).mono λt af w1 v H1 B1 h1 l1 r1=> ?_);have w1:Wn M E H B (KE M H B Q) (match dkv af t with|some kvs=>.ok (.lst (kvs.map qsa)) af|none=>.no):=w1;cases e:dkv af t with
 |none=>rw[e] at w1;exact w1.elim
 |some kvs=>rw[e] at w1;obtain⟨p,us,rfl,hp,rv⟩:=qft h1 e r1;refine⟨p,us,rfl,hp,λex l vs hn ht hl its=> ?_⟩;obtain⟨h2,g2⟩:=h1.many hn ht;refine w1 _ _ _ h2 (l1.trans g2) (qbP (show L2.ovl B1.hp ex l=_ by rw[qb8 hl]) (.of_get (by rw[its.1,List.length_map,rv.length]) λi t' v' e1 e2=> ?_));rw[List.getElem?_map] at e1;obtain⟨q,e3,rfl⟩:=Option.map_eq_some_iff.mp e1;obtain⟨v0,e4,r4⟩:=qcE rv e3;obtain⟨b,e5,e6⟩:=its.2 i _ _ e4;rw[e5] at e2;cases e2;exact qcr (show L2.ovl B1.hp ex b=_ by rw[qb8 e6]) (.cons (qrB _) (.cons (r4.mono g2.le) .nil))
end
noncomputable def qq5{α:Type}(d e:DS0 α):DS0 α:=λρ O=>match d ρ O with|.no=>e ρ O|r=>r
noncomputable def qch:Mu->List T->Option Nv:=λ_ _=>none
inductive Bm where
 |append|extend|insert|pop|clear|reverse|count|index|get|dpop|dclear|setdef
noncomputable def Bm.ty:Bm->String
 |.get|.dpop|.dclear|.setdef=> "dict"
 |_=> "list"
noncomputable def Bm.nm:Bm->Str
 |.append=> "append" | .extend=> "extend" | .insert=> "insert" | .pop=> "pop" | .clear=> "clear" | .reverse=> "reverse" | .count=> "count" | .index=> "index" | .get=> "get" | .dpop=> "pop" | .dclear=> "clear" | .setdef=> "setdefault"
noncomputable def Bm.id:Bm->String
 |.append=> "list.append" | .extend=> "list.extend" | .insert=> "list.insert" | .pop=> "list.pop" | .clear=> "list.clear" | .reverse=> "list.reverse" | .count=> "list.count" | .index=> "list.index" | .get=> "dict.get" | .dpop=> "dict.pop" | .dclear=> "dict.clear" | .setdef=> "dict.setdefault"
noncomputable def Bm.g:Bm->Mu->List T->Option Nv
 |.append=>qge|.extend=>qch|.insert=>qch|.pop=>qv9|.clear=>qkh|.reverse=>qch|.count=>qch|.index=>qch|.get=>qch|.dpop=>qpR|.dclear=>qch|.setdef=>qch
noncomputable def Bm.all:List Bm:=[.append,.extend,.insert,.pop,.clear,.reverse,.count,.index,.get,.dpop,.dclear,.setdef]
noncomputable def dkO(O:Mu):T->Option (List (Key×T))
 |.obj k=>(match O.l[k]? with|some (.dk kvs)=>some kvs|_=>none)
 |_=>none
noncomputable def qf2(O:Mu)(t:T):String:=if(qf7 O t).isSome=true then "list" else if(dkO O t).isSome=true\/(duv O t).isSome=true then "dict" else ""
noncomputable def dBM(ow:Bool)(b:Bm)(bG:DS0 T)(ds:DS0 (List T)):DS0 T:=dSq bG λo ρ O=>if qf2 O o=b.ty then(ds ρ O).bind λts μ'=>nvR ow (b.g μ' (o::ts)) μ' else .no
section
theorem qtN(h:PE X e (tE M E da))(h':PE X e (tE M E db)):PE X e (tE M E (qq5 da db)):=PE.weak (PE.or h h') (by
 rintro σ H Q ⟨ρ,O,B,ev,w⟩;unfold qq5 at w;cases q:da ρ O with
 |no=>rw[q] at w;exact .inr ⟨ρ,O,B,ev,w⟩
 |ok a m=>rw[q] at w;exact .inl ⟨ρ,O,B,ev,by rw[q];exact w⟩
 |ex a m=>rw[q] at w;exact .inl ⟨ρ,O,B,ev,by rw[q];exact w⟩)
theorem qqs:qat X f (rN M qch):=(by rintro _ _ _ _ _ _ _ _ _ ⟨_,_,_,_,_,_,e,_⟩;exact nomatch e)
theorem qe1{i:String}:MtR X i (rM M qch):=(by rintro _ _ _ _ _ _ _ _ _ _ _ _ ⟨_,_,_,_,_,_,e,_⟩;exact nomatch e)
theorem qcl(b:Bm):PlainAttrs b.ty/\Slot b.ty b.nm b.id/\typeOf (.builtin b.id)=pure (.type "method_descriptor"):=by
 cases b with
 |append=>exact⟨F.plainAttrs_list,F.slot_list_append,F.type_list_append⟩
 |extend=>exact⟨F.plainAttrs_list,F.slot_list_extend,F.type_list_extend⟩
 |insert=>exact⟨F.plainAttrs_list,F.slot_list_insert,F.type_list_insert⟩
 |pop=>exact⟨F.plainAttrs_list,F.slot_list_pop,F.type_list_pop⟩
 |clear=>exact⟨F.plainAttrs_list,F.slot_list_clear,F.type_list_clear⟩
 |reverse=>exact⟨F.plainAttrs_list,F.slot_list_reverse,F.type_list_reverse⟩
 |count=>exact⟨F.plainAttrs_list,F.slot_list_count,F.type_list_count⟩
 |index=>exact⟨F.plainAttrs_list,F.slot_list_index,F.type_list_index⟩
 |get=>exact⟨F.plainAttrs_dict,F.slot_dict_get,F.type_dict_get⟩
 |dpop=>exact⟨F.plainAttrs_dict,F.slot_dict_pop,F.type_dict_pop⟩
 |dclear=>exact⟨F.plainAttrs_dict,F.slot_dict_clear,F.type_dict_clear⟩
 |setdef=>exact⟨F.plainAttrs_dict,F.slot_dict_setdefault,F.type_dict_setdefault⟩
theorem qt8(hu:X.A.units+8<cLine)(hK:X.K=M.K)(b:Bm):MtR X b.id (rM M b.g):=by
 cases b with
 |append=>exact qih
 |extend|insert=>exact qe1
 |pop=>exact qpl
 |clear=>exact qjD
 |reverse|count|index|get=>exact qe1
 |dpop=>exact ql9
 |dclear|setdef=>exact qe1
theorem qpn{M:Md}(h:Hs M O H B){b:Bm}(e:qf2 O t=b.ty)(r:Rep M.K B t v):tyV M.K b.ty v H:=by
 have nl:b.ty≠ "" :=by cases b<;>decide
 unfold qf2 at e;split at e
 ·rename_i hs;obtain⟨ts,hs⟩:=Option.isSome_iff_exists.mp hs;obtain⟨p,vs,rfl,_,sq⟩:=qf6 h hs r;exact .inl ⟨e.symm,vs,sq⟩
 ·split at e
  ·rename_i hs
   rcases hs with hs|hs
   ·obtain ⟨p,vs,rfl,hp⟩: ∃p vs,v= .ref p/\H p=some (.dK vs):=by
     unfold dkO at hs;split at hs
     ·split at hs
      ·rename_i el;obtain⟨a,rfl,ea⟩:=qaD r;obtain⟨o,_,ho,us,rfl,_⟩:=h.at el (by simp) ea;simp_all
      ·cases hs
     ·cases hs
    exact .inr (.inr (.inl ⟨e.symm,.inl ⟨_,hp⟩⟩))
   ·obtain⟨ts,hs⟩:=Option.isSome_iff_exists.mp hs;obtain⟨p,vs,rfl,hp,_⟩:=qkx h hs r;exact .inr (.inr (.inl ⟨e.symm,.inr ⟨_,hp⟩⟩))
  grind
theorem qk2{M:Md}{X:Cx}(b:Bm)(hK:X.K=M.K)(cq:Cl Q)(h:tE M E (dBM ow b bG ds) σ H Q):tBM X.K b.ty (rM M b.g) (tE M E bG) (tA M E ds) σ H Q:=by
 obtain⟨ρ,O,B,ev,w⟩:=h;refine tE.of ev ((Wn.bind w).mono λx af w1 v H1 B1 h1 g1 r1=> ?_)
 change Wn M E H B _ (if qf2 af x=b.ty then(ds ρ af).bind _ else .no) at w1
 split at w1
 ·rename_i ht;rw[hK];refine⟨qpn h1 ht r1,ρ,af,B1,ev.on h1 g1.le,(Wn.bind w1).lift g1 λts ah w2 vs H2 B2 h2 g2 r2=> ?_⟩;obtain⟨c,m,q,w2⟩:=Wn.pl w2 (λc m=>qid c m);obtain⟨n,e,kv⟩:=qic cq q (KE.le w2 (g1.trans g2));exact⟨ah,B2,x::ts,n,h2,.cons (r1.mono g2.le) r2,e,kv⟩
 ·exact w1.elim
theorem qwv(b:Bm)(hu:X.A.units+8<cLine)(hK:X.K=M.K)(ho:PE X o (tE M E bG))(ha:PA X (e::es) (tA M E ds))(aB:attributeBase o b.nm X.env (eval o X.env)=eval o X.env)(eK:((backTo cpos (starEach (e::es) X.env)).all (λx=> !x.1)&&(backToKw cpos (keywordEach [] X.env)).all (λx=>x.1.isSome)&&decide ((e::es).length+([]:List Keyword).length+(if ([]:List Keyword).isEmpty then 0 else 1)<30))=true)(aq:(apos.endLine==cpos.line)=true)(hs:starEach (e::es) X.env=(false,eval e X.env)::starEach es X.env)(bB:(backTo cpos (starEach es X.env)).any (·.1)=false):
  PE X (.Call (.Attribute o b.nm apos) (e::es) [] cpos) (tE M E (dBM ow b bG ds)):=
 PE.weakF (qo2 (qcl b).1 (qcl b).2.1 (qcl b).2.2 (qt8 hu hK b) ho ha aB eK aq hs bB) λ_ _ _ cq h=>qk2 b hK cq h
theorem qtL(b:Bm)(hu:X.A.units+8<cLine)(hK:X.K=M.K)(ho:PE X o (tE M E bG))(aB:attributeBase o b.nm X.env (eval o X.env)=eval o X.env)(aq:(apos.endLine==cpos.line)=true):
  PE X (.Call (.Attribute o b.nm apos) [] [] cpos) (tE M E (dBM ow b bG qq3)):=
 PE.weakF (qr7 (qcl b).1 (qcl b).2.1 (qcl b).2.2 (qt8 hu hK b) ho aB aq) λσ H Q cq h=>by refine(qk2 b hK cq h).imp (by rintro v H1 ⟨a,ρ,O,B,ev,w⟩;exact⟨a,w [] H1 B ev.hs .refl .nil⟩)
theorem qiF:qat X (.type "dict") (λxs H Q=> ∃a kvs,xs=[V.ref a]/\Rd H a (.dK kvs)/\∀p,H p=none->Q (.ref p) (upd H p (.dK kvs))):=by intro Z s σ H xs us Q I r h;obtain⟨a,kvs,rfl,ha,q⟩:=h;obtain⟨u,rfl,ru⟩:=qcd r;cases ru;exact qmR I ha λp s' hp I'=>⟨.ref p,_,I',rfl,q p hp⟩
noncomputable def qkg(O:Mu):List T->Option Nv
 |[a]=>(dkv O a).map .d
 |_=>none
theorem qqv:qat X (.type "dict") (rN M qkg):=qat.ok qiF λO H B vs ts n Q h r e k=>by
 unfold qkg at e;split at e
 ·obtain⟨v,rfl,a⟩:=qcy r;obtain⟨kvs,es,rfl⟩:=qar e;obtain⟨p,us,rfl,hp,rv⟩:=qft h es a;exact⟨p,us,rfl,hp,λl hl=>k B l us h .refl hl rv⟩
 ·cases e
theorem qkY:qat X (.type "int") (λxs H Q=> ∃b,xs=[V.bl b]/\Q (.int (if b=true then 1 else 0)) H):=by intro Z s σ H xs us Q I r h;obtain⟨b,rfl,q⟩:=h;obtain⟨u,rfl,ru⟩:=qcd r;cases ru;exact call_int_bool ⟨.int _,H,I.tok _,⟨_,rfl⟩,q⟩
noncomputable def qpQ(O:Mu):List T->Option Nv
 |[.bl b]=>some (.v (.int (if b=true then 1 else 0)))
 |_=>none
theorem qqu:qat X (.type "int") (rN M qpQ):=qat.ok qkY λO H B vs ts n Q h r e k=>by
 unfold qpQ at e;split at e
 ·obtain⟨v,rfl,a⟩:=qcy r;cases e;exact⟨_,by rw[qbu a],k B _ h .refl qaO⟩
 ·cases e
inductive Bn where
 |len|all|any|sum|max|min|abs|lst|tup|srt|dct|int
noncomputable def Bn.nm:Bn->Str
 |.len=> "len" | .all=> "all" | .any=> "any" | .sum=> "sum" | .max=> "max" | .min=> "min" | .abs=> "abs" | .lst=> "list" | .tup=> "tuple" | .srt=> "sorted" | .dct=> "dict" | .int=> "int"
noncomputable def Bn.g:Bn->Mu->List T->Option Nv
 |.len=>qs6|.all=>qwg|.any=>qch|.sum=>qch|.max=>qwd|.min=>qwc|.abs=>qch|.lst=>qpP|.tup=>qkd|.srt=>qc6|.dct=>gOr qkg qkf|.int=>qpQ
noncomputable def Bn.list:List Bn:=[.len,.all,.any,.sum,.max,.min,.abs,.lst,.tup,.srt,.dct,.int]
theorem qqF(b:Bn)(cq:Cl Q)(h:tE M E (dN ow b.g ds) σ H Q):tCB (rN M b.g) (tA M E ds) σ H Q:=by obtain⟨ρ,O,B,ev,w⟩:=h;refine⟨ρ,O,B,ev,(Wn.bind w).mono λts af w1 vs H1 B1 h1 g1 r1=> ?_⟩;obtain⟨c,m,q,w1⟩:=Wn.pl w1 (λc m=>qid c m);obtain⟨n,e,kv⟩:=qic cq q (KE.le w1 g1);exact⟨af,B1,ts,n,h1,r1,e,kv⟩
theorem qnf:bootBuiltins "abs" =some (.builtin "abs"):=by decide+kernel
theorem qk0:bootBuiltins "list" =some (.type "list"):=by decide+kernel
theorem qk1:bootBuiltins "dict" =some (.type "dict"):=by decide+kernel
theorem qnd:bootBuiltins "int" =some (.type "int"):=by decide+kernel
theorem qiG:bootBuiltins "tuple" =some (.type "tuple"):=by decide+kernel
theorem qne:bootBuiltins "all" =some (.builtin "all"):=by decide+kernel
theorem qnc:bootBuiltins "max" =some (.builtin "max"):=by decide+kernel
theorem qnb:bootBuiltins "min" =some (.builtin "min"):=by decide+kernel
theorem qwu(b:Bn)(hu:X.A.units+8<cLine)(hc:X.calm=true)(hK:X.K=M.K)(hg:Gl X b.nm)(hm:X.mg b.nm=none)(ha:PA X (e::es) (tA M E ds))(he:starEach (e::es) X.env=(false,eval e X.env)::starEach es X.env)(az:(backTo pos (starEach es X.env)).any (·.1)=false):
  PE X (.Call (.Name b.nm p) (e::es) [] pos) (tE M E (dN ow b.g ds)):=by
 have hn:b.nm≠ "__name__" :=by cases b<;>decide
 have hd:(b.nm==("__debug__" :Str))=false:=by cases b<;>decide
 refine PE.weakF ?_ λ_ _ _ cq h=>qqF b cq h;cases b with
 |len=>exact qaS (qt3 hK) hg hm PySem.boot_len ha hn hd he az
 |all=>exact qaS (qt4 hc hK) hg hm qne ha hn hd he az
 |any=>exact qaS qqs hg hm PL.boot_any' ha hn hd he az
 |sum=>exact qaS qqs hg hm PL.boot_sum' ha hn hd he az
 |max=>exact qaS (qt2 hc hK) hg hm qnc ha hn hd he az
 |min=>exact qaS (qt1 hc) hg hm qnb ha hn hd he az
 |abs=>exact qaS qqs hg hm qnf ha hn hd he az
 |lst=>exact qb6 (qqt hK) hg hm qk0 ha hn hd he az
 |tup=>exact qb6 (qm2 hK) hg hm qiG ha hn hd he az
 |srt=>exact qaS (qkM hc hK) hg hm SetL.boot_sorted ha hn hd he az
 |dct=>exact qb6 (qwC qqv (qm3 hc)) hg hm qk1 ha hn hd he az
 |int=>exact qb6 qqu hg hm qnd ha hn hd he az
end
open SR SetL
noncomputable def tyN(O:Mu):T->Option String
 |.non=>some "NoneType" | .bl _=>some "bool" | .int _=>some "int" | .str _=>some "str" | .tup _=>some "tuple" | .lst _=>some "list"
 |.obj k=>(match O.l[k]? with|some (.ls _)=>some "list" | some (.dk _)=>some "dict" | some (.du _)=>some "dict" | _=>none)
 |_=>none
noncomputable def qlk(N m:String):Bool:=m==N||(N== "int" &&m== "bool")
noncomputable def qc7(N:String)(t:T)(O:Mu):R T:=match tyN O t with
 |some m=>.ok (.bl (qlk N m)) O
 |none=>.no
noncomputable def qtQ(N:String)(da:DS0 T):DS0 T:=dU (qc7 N) da
theorem qsI(K:W.Frag){N m:String}(hN:N∈["int", "bool", "str", "tuple", "list"])(hm:m∈["NoneType", "bool", "int", "str", "tuple", "list", "dict"]):W.kitOne K (.type m) (.type N)=some (qlk N m):=by
 simp only[List.mem_cons,List.not_mem_nil,or_false] at hN hm
 rcases hN with rfl|rfl|rfl|rfl|rfl<;>rcases hm with rfl|rfl|rfl|rfl|rfl|rfl|rfl<;>rfl
section
theorem qri(h:Hs M O H B){m:String}(e:tyN O t=some m)(r:Rep M.K B t v):qgG M.K H v (.type m)/\m∈["NoneType", "bool", "int", "str", "tuple", "list", "dict"]:=by
 unfold tyN at e;split at e
 ·cases e;rw[qcR r];exact⟨.non,by simp⟩
 ·cases e;rw[qbu r];exact⟨.bl _,by simp⟩
 ·cases e;rw[qah r];exact⟨.int _,by simp⟩
 ·cases e;rw[qaH r];exact⟨.str _,by simp⟩
 ·cases e;obtain⟨p,vs,rfl,hp,_⟩:=qay r;exact⟨.tup (h.bh _ _ hp),by simp⟩
 ·cases e;obtain⟨p,vs,rfl,hp,_⟩:=qaB r;exact⟨.lst (h.bh _ _ hp),by simp⟩
 ·obtain⟨p,rfl,ea⟩:=qaD r;split at e
  ·rename_i el;cases e;obtain⟨o,_,ho,vs,rfl,_⟩:=h.at el (by simp) ea;exact⟨.lst ho,by simp⟩
  ·rename_i el;cases e;obtain⟨o,_,ho,vs,rfl,_⟩:=h.at el (by simp) ea;exact⟨.dK ho,by simp⟩
  ·rename_i el;cases e;obtain⟨o,_,ho,vs,rfl,_⟩:=h.at el (by simp) ea;exact⟨.dT ho,by simp⟩
  ·cases e
 ·cases e
theorem qqm{N:String}{x:Str}(hN:N∈["int", "bool", "str", "tuple", "list"])(hx:x=Str.ofString N)(hK:X.K=M.K)(hg:Gl X "isinstance")(hm:X.mg "isinstance" =none)(hg2:Gl X x)(cH:X.mg x=none)(he:PE X e (tE M E da))(hs:starEach [e,.Name x p2] X.env=(false,eval e X.env)::starEach [.Name x p2] X.env)(dX:starEach [.Name x p2] X.env=(false,eval (.Name x p2) X.env)::starEach [] X.env)(az:(backTo pos (starEach [.Name x p2] X.env)).any (·.1)=false):
  PE X (.Call (.Name "isinstance" p) [e,.Name x p2] [] pos) (tE M E (qtQ N da)):=by
 have bt:bootBuiltins x=some (.type N)/\x≠ "__name__" /\(x==("__debug__" :Str))=false:=by
  subst hx;simp only[List.mem_cons,List.not_mem_nil,or_false] at hN
  rcases hN with rfl|rfl|rfl|rfl|rfl<;>exact⟨by decide+kernel,by decide,by decide⟩
 refine PE.weak (qaS (r:=λxs H Q=> ∃x t T b,xs=[x,.ty T]/\qgG X.K H x t/\W.kitOne X.K t (.type T)=some b/\Q (.bl b) H) qgD hg hm (by decide+kernel) (qaW he (qaW (qjk (v:=.ty N) hg2 cH bt.1 rfl bt.2.1 bt.2.2) qbp dX) hs) (by decide) (by decide) hs az) ?_;rintro σ H Q ⟨ρ,O,B,ev,w⟩;refine tE.of ev ((Wn.bind w).mono λt af w1 v H1 B1 h1 g1 r1=> ?_);have w1:Wn M E H B (KE M H B Q) (qc7 N t af):=w1;unfold qc7 at w1;split at w1
 ·rename_i m em;obtain⟨ty,hm⟩:=qri h1 em r1;rw[hK];exact⟨v,_,N,_,rfl,ty,qsI M.K hN hm,w1 _ H1 B1 h1 g1 qa9⟩
 ·exact w1.elim
noncomputable def qxp(O:Mu):T->Option Nv:=λt=>(qf7 O t).bind λts=>if ts.length<64 then(match qk8 ts with
 |some ss=>some (.l ((qrv RH.ltS (dd ss)).map T.str))
 |none=>(qk9 ts).map λss=>.l ((qrv (λa b=>decide (a<b)) (dd ss)).map T.int)) else none
noncomputable def qke(O:Mu):T->Option Nv:=λt=>(qf7 O t).bind λts=>if ts.length<64 then(match qk8 ts with
 |some ss=>some (.v (.int (dd ss).length))
 |none=>(qk9 ts).map λss=>.v (.int (dd ss).length)) else none
noncomputable def dNu(ow:Bool)(g:Mu->T->Option Nv)(da:DS0 T):DS0 T:=dU (λt O=>nvR ow (g O t) O) da
end
noncomputable def qod(xs ys:List T):List T:=(xs.zip ys).map λp=>.tup [p.1,p.2]
noncomputable def qhV:List T->Mu->R Ito
 |[.lst xs,.lst ys],O=>.ok (.fx (qod xs ys)) O
 |_,_=>.no
section
theorem qtA(hg:Gl X "zip")(hm:X.mg "zip" =none)(ha:PA X [a,b] (tA M E ds))(hK:X.K=M.K)(hs:starEach [a,b] X.env=(false,eval a X.env)::starEach [b] X.env)(az:(backTo pos (starEach [b] X.env)).any (·.1)=false):
  PI X (.Tuple elts kk tpos) (.Call (.Name "zip" p) [a,b] [] pos) (tI M E (dIA qhV ds)):=by
 refine PI.weak (PL.pi_zipZ hg hm ha hs az) λσ H R ⟨ρ,O,B,ev,w⟩=>⟨ρ,O,B,ev,(Wn.bind w).mono λts m w1 vs H1 B1 h1 g1 r1=> ?_⟩
 change Wn M E H B (KI M H B R) (qhV ts m) at w1
 unfold qhV at w1;split at w1
 ·rename_i xs ys;obtain⟨v,v',rfl,a1,a2⟩:=qh6 r1;obtain⟨p1,us,rfl,gd,ra⟩:=qaB a1;obtain⟨p2,ws,rfl,dZ,rb⟩:=qaB a2;have l1:=ra.length;have l2:=rb.length;have lz:(qod xs ys).length=min us.length ws.length:=by unfold qod;rw[List.length_map,List.length_zip,l1,l2]
  refine⟨p1,p2,us,ws,rfl,SqL.of (h1.bh _ _ gd),SqL.of (h1.bh _ _ dZ),λz1 z2=> ?_⟩;rw[hK];refine w1 _ H1 B1 h1 g1 (by show(qod xs ys).length<=_;omega) λμ' H' B' h' le i=>⟨λt et=> ?_,λhl hi=> ?_⟩
  ·have q1:SqL M.K H' p1 us:=SqL.of (h'.bh _ _ (le.h _ _ gd));have q2:SqL M.K H' p2 ws:=SqL.of (h'.bh _ _ (le.h _ _ dZ));have et:=Option.some.inj et;unfold qod at et;rw[List.getElem?_map] at et;cases q:(xs.zip ys)[i]? with
   |none=>rw[q] at et;cases et
   |some c=>rw[q] at et;cases et;have hi:=(List.getElem?_eq_some_iff.mp q).1;rw[List.length_zip] at hi;obtain⟨c1,c2⟩:=c;obtain⟨qa,qb⟩:=List.getElem?_zip_eq_some.mp q;obtain⟨u,eu,ru⟩:=ra.get qa;obtain⟨w',ew,ar⟩:=rb.get qb;refine⟨⟨us,ws,q1,q2,by omega,by omega⟩,λy bg ⟨T',x,y',e1,e2,e3,e4,e5⟩=> ?_⟩;have z1:=e4 us q1;have z2:=e5 ws q2;rw[eu] at z1;cases z1;rw[ew] at z2;cases z2;subst e1 e3;have jB:=le.trans (h'.upd_le (o:=.tup [u,w']) (h'.fr e2));exact⟨_,h'.new e2 (λps z=>by cases z),h'.gnew e2,qcr qae (.cons (ru.mono jB) (.cons (ar.mono jB) .nil))⟩
  ·have hi:=List.getElem?_eq_none_iff.mp (Option.some.inj hi);have hl:=hl _ rfl;exact⟨us,ws,SqL.of (h'.bh _ _ (le.h _ _ gd)),SqL.of (h'.bh _ _ (le.h _ _ dZ)),by omega⟩
 ·exact w1.elim
end
end NV
namespace NV
open PySem L2
noncomputable def qaq:Expr->Bool
 |.Starred _ _=>false
 |_=>true
noncomputable def qdA:Expr->Bool
 |.ListComp _ _ _ _=>false
 |.SetComp _ _ _ _=>false
 |.DictComp _ _ _ _ _=>false
 |_=>true
noncomputable def qcq:Expr->Bool
 |.Call (.Name _ _) [] [] _=>false
 |_=>true
noncomputable def qbK:Expr->Bool
 |.Set _ _ _=>false
 |_=>true
noncomputable def qjz:Expr->Bool
 |.Slice _ _ _ _=>false
 |_=>true
section
variable{env:Env}{e:Expr}{es:List Expr}{pos:Pos}
theorem qcx(h:qaq e=true):starEach (e::es) env=(false,eval e env)::starEach es env:=by cases e<;>first|rfl|cases h
theorem qbr: ∀{es:List Expr},es.all qaq=true->(backTo pos (starEach es env)).any (·.1)=false
 |[],_=>rfl
 |e::es,h=>by rw[List.all_cons,Bool.and_eq_true] at h;rw[qcx h.1];show(false||(backTo pos _).any _)=false;rw[qbr h.2];rfl
theorem qgQ: ∀{es:List Expr},es.all qaq=true->(backTo pos (starEach es env)).all (λx=> !x.1)=true
 |[],_=>rfl
 |e::es,h=>by rw[List.all_cons,Bool.and_eq_true] at h;rw[qcx h.1];show(!false&&(backTo pos _).all _)=true;rw[qgQ h.2];rfl
theorem qnT(h:es.all qaq=true)(hl:es.length<30):((backTo pos (starEach es env)).all (λx=> !x.1)&&(backToKw pos (keywordEach [] env)).all (λx=>x.1.isSome)&&decide (es.length+([]:List Keyword).length+(if([]:List Keyword).isEmpty then 0 else 1)<30))=true:=by rw[qgQ h];show(true&&true&&decide _)=true;simp[hl]
theorem qdh{m:Str}(h:qcq o=true):attributeBase o m env w=w:=by
 unfold attributeBase;split
 ·cases h
 ·rfl
theorem qqL(h:qaq e=true):(assignEach (e::es) env).map (·.2)=assign e env::(assignEach es env).map (·.2):=by cases e<;>first|rfl|cases h
theorem qdS: ∀{es:List Expr},(assignEach es env).length=es.length
 |[]=>rfl
 |e::es=>by cases e<;>(show _+1=_;rw[qdS];rfl)
theorem qfJ: ∀{es:List Expr},es.all qaq=true->(assignEach es env).findIdx? (·.1)=none
 |[],_=>rfl
 |e::es,h=>by
  rw[List.all_cons,Bool.and_eq_true] at h;have ih:=qfJ h.2;have e1:assignEach (e::es) env=(false,assign e env)::assignEach es env:=by have h1:=h.1;cases e<;>first|rfl|cases h1
  grind
theorem qcD(h:qdA e=true):swapsWith e t l env=pure false:=by cases e<;>first|rfl|cases h
theorem qgO(h: ∀x p,t≠.Name x p):swapsWith e (some t) l env=pure false:=by cases e<;>first|rfl|(cases t<;>first|rfl|simp_all)
theorem qhg(h:qbK e=true):behindInMarks op e=false:=by cases e<;>first|rfl|cases h
theorem qdz(h:qbK c=true):lastMarks [o,p] [b,c]=false:=by cases c<;>first|rfl|cases h
theorem qeb(h:qbK e=true)(x:Value):foldedSetIterable e env x=pure x:=by cases e<;>first|rfl|cases h
theorem qif(h:qjz e=true):qld e:=λo i=>by cases e<;>first|rfl|cases h
end
theorem qhU{ns:List Str}(hl:us.length=ns.length)(nd:ns.Nodup):(∀n∈ns,((ns.zip us).lookup n).isNone=false)/\ns.filterMap (λn=>((ns.zip us).lookup n).map (n, ·))=ns.zip us:=by
 induction ns generalizing us with
 |nil=>simp
 |cons x ns ih=>
  cases us with
  |nil=>cases hl
  |cons u us=>
   obtain⟨nx,nd⟩:=List.nodup_cons.mp nd;obtain⟨h1,h2⟩:=ih (us:=us) (by simpa using hl) nd;have ne: ∀n∈ns,(n==x)=false:=λn hn=>by
    grind
   refine⟨λn hn=> ?_,?_⟩
   ·rw[List.zip_cons_cons,List.lookup_cons]
    rcases List.mem_cons.mp hn with rfl|hn
    ·simp
    ·rw[ne n hn];exact h1 n hn
   ·rw[List.zip_cons_cons,List.filterMap_cons,List.lookup_cons];simp only[beq_self_eq_true,Option.map_some]
    congr 1
    refine Eq.trans ?_ h2;have go: ∀l:List Str,(∀n∈l,(n==x)=false)->l.filterMap (λn=>(((x,u)::ns.zip us).lookup n).map (n, ·))=l.filterMap (λn=>((ns.zip us).lookup n).map (n, ·)):=λl=>by
     induction l with
     |nil=>exactλ_=>rfl
     |cons y l ihl=>intro h;rw[List.filterMap_cons,List.filterMap_cons,ihl (λn hn=>h n (List.mem_cons_of_mem _ hn)),List.lookup_cons,h y List.mem_cons_self]
    exact go ns ne
theorem qb0(h1:fd.params.posonlyargs=[])(h2:fd.params.vararg=none)(h3:fd.params.kwonlyargs=[])(h4:fd.params.kwarg=none)(h5:fd.defaults= .none)(nd:(fd.params.args.map (·.arg)).Nodup)(hl:us.length=(fd.params.args.map (·.arg)).length):
  bindArgs fd ⟨us,[]⟩=pure ((fd.params.args.map (·.arg)).zip us):=by
 obtain⟨z1,z2⟩:=qhU hl nd;have e1:seqItems? Value.none=pure none:=rfl;unfold bindArgs;simp only[h1,h2,h3,h4,h5,e1,List.map_nil,List.nil_append,List.forIn_nil,pure_bind,List.append_nil,Option.isNone_none,Bool.and_true,Option.getD_none];have hm:(List.filter (λn=>(List.lookup n ((List.map (λx=>x.arg) fd.params.args).zip us)).isNone) (List.map (λx=>x.arg) fd.params.args))=[]:=by
  simp_all
 rw[if_neg (by simp only[decide_eq_true_eq];omega)];simp only[List.drop_nil,List.length_nil,Nat.sub_zero,List.take_length,hm,List.isEmpty_nil,Bool.not_true,List.zip_nil_right,List.forIn_nil,pure_bind,z2];rfl
open SR SetL
inductive KB where
 |one (i:Nat)|parts (l:List (Bool×Nat))
noncomputable def qvx(us:List T)(p:Bool×Nat):Option T:=(us[p.2]?).bind λt=>if p.1=true then(match t with|.int n=>some (.int (-n))|_=>none) else some t
noncomputable def qxl:KB->T->Option T
 |.one i,.tup us=>us[i]?
 |.parts l,.tup us=>(l.mapM (qvx us)).map .tup
 |_,_=>none
noncomputable def qnP(b:KB)(O:Mu)(t:T):Option Nv:=(qf7 O t).bind λts=>(ts.mapM (qxl b)).bind λks=>if ts.length<64/\qbC ks=true then some (.l (PL.sortBy (λt=>qlj ((qxl b t).getD .non)) ts)) else none
noncomputable def quV(x:Str):Expr->Option Nat
 |.Subscript (.Name y _) (.Constant (.int i) _ _) _=>if y=x/\0<=i then some i.toNat else none
 |_=>none
noncomputable def qvw(x:Str):Expr->Option (Bool×Nat)
 |.UnaryOp .USub e _=>(quV x e).map λi=>(true,i)
 |e=>(quV x e).map λi=>(false,i)
noncomputable def qxm(x:Str):Expr->Option KB
 |.Tuple es _ _=>if es.length<=100 then(es.mapM (qvw x)).map .parts else none
 |e=>(quV x e).map .one
theorem Hs.sameT(h:Hs M O H B)(hP:H P=some (.tbl ps))(same:qfL P H H2)(ne: ∀b,H b≠none->H2 b≠none)(g:M.G.P H2):Hs M O H2 B/\Go H B H2 B:=by
 have nP: ∀a o,B a=some o->a≠P:=λa o e z=>by subst z;have:=h.bh _ _ e;rw[hP] at this;cases this;exact h.bt _ _ e
 refine⟨⟨λa o e=>same a o (h.bh a o e) (nP a o e),h.bt,g,λk c e n=> ?_,h.ij,λk a e=>⟨(h.dm k a e).1,ne a (h.dm k a e).2⟩,h.lk,h.ln⟩,⟨.refl _,λa o e _ t=>same a o e (λz=>by grind),λ_ _ e=>.inl e,ne,λ_ _ _ _ _ _=>rfl⟩⟩;obtain⟨a,o,e1,e2,e3,e4⟩:=h.st k c e n;refine⟨a,o,e1,e2,same a o e3 (λz=> ?_),e4⟩;rw[z,hP] at e3;cases e3
 rcases e4.mb n with⟨_,e⟩|⟨_,e⟩|⟨_,e⟩|⟨_,_,_,e⟩<;>cases e
structure Lm(M:Md)(X:Cx)(c P:Addr)(qual:Str):Prop where
 cd:X.env.code= .ref c
 hd:W.CodeHd X.base c P
 bm:qfM X.mg X.base
 q:X.env.qual++("<lambda>" :Str)=qual
 t: ∀H,M.G.P H->qgH P qual H
 t': ∀H H2,M.G.P H->qfL P H H2->(∀b,H b≠none->H2 b≠none)->qgH P qual H2->M.G.P H2
end NV
namespace NV
open PySem L2
noncomputable def qgo(wd:Str->Option Str)(fr:List Nat)(d:DS0 T):DS0 T:=λρ O=>match d (qa3 0 fr ρ) O with
 |.ok t m=>.ok t m
 |.ex c m=>(match wd c with|some x=>.ok (.str x) m|none=>.no)
 |.no=>.no
structure Td(z:Str)(M:Md)(P:Program)(w:World)(mg:Str->Option Value)(base:Heap)(wd:Str->Option Str)(st:Stmt)(fT fC CA:Addr)(fdT fdC:FuncData)(bmA:List Value)(wa:Addr->Option Str):Prop where
 tx:qlc z st
 f:Fun M.K "_law_told" "_law_told" st fT fdT
 nz:(z==("__debug__" :Str))=false/\(z==("__classdict__" :Str))=false
 m:mg "_law_told" =some (.ref fT)
 b:qa0 M.K fdT [z] []
 a:mg "AskError" =some (.ref CA)
 e:qdm base CA bmA
 g:FnN P w M.K mg base 1 fC fdC ["_law_kept"] (qh3 base wa)
 mc:mg "_law_class" =some (.ref fC)
 kc:W.keepIn M.K (.ref fC)=true
 bc:qa0 M.K fdC ["_law_kept"] []
 wd: ∀c x,wd c=some x->∃bm,qdm base (clA M.K c) bm/\(Value.ref (clA M.K c)::bm).contains (.ref CA)=true/\wa (clA M.K c)=some x
section
variable{qual:Str}
theorem qqi{M:Md}{X:Cx}{scope:Scope}{p:Pos}{fr:List (Str×Nat)}(hK:X.K=M.K){z:Str}(D:Td z M X.prog X.w X.mg X.base wd st fT fC CA fdT fdC bmA wa)(iR:Gl X "_law_told")(L:Lm M X c P qual)(hd:defaultsOf params X.env=([],[]))(eJ: ∀x,X.fn x=true)(hk:scope.kind= .function)(gv:scope.isCoroutine=false)(cz:scope.isGenerator=false)(ai: ∀y∈scope.names,y.2≠.cell)(ag: ∀y∈scope.names,y.2= .free->X.env.kindOf y.1=some .cell\/X.env.kindOf y.1=some .free)(aY: ∀p∈fr,X.N[p.2]? =some p.1/\scope.names.lookup p.1=some .free)(hb: ∀(av:List (Str×Addr))(pm cv aE:Value),bindArgs (W.kla_fn "<lambda>" qual params body scope av pm cv aE) ⟨[],[]⟩=pure [])(hr:qbb (k+3) X.A)(au: ∀(A:Around)(outer:List Env)(s:Shared)(H:Hp)(f c':Addr)(E:XK),qbb k (A.deeper (qb9 scope s.heap.objs.size (clOf X.env scope.names []) qual f c'))->
   PE (qgp X.prog X.w X.K X.mg X.base (fr.map (·.1)) (qb9 scope s.heap.objs.size (clOf X.env scope.names []) qual f c') A outer s H E) body (tE M E d)):
  PE X (.Call (.Name "_law_told" p) [.Lambda params body scope ck] [] pos) (tE M E (qgo wd (fr.map (·.2)) d)):=by
 refine PE.weak (qoW (t:=λE=>tE M E d) D.tx (by rw[hK];exact D.f) D.m (by rw[hK];exact D.b) iR D.a D.e (by rw[hK];exact D.g) D.mc (by rw[hK];exact D.kc) (by rw[hK];exact D.bc) (qoZ L.cd L.hd L.bm ag hd L.q) eJ hk gv cz ai ag aY hb hr au
  (λE E' σ H Q f ⟨ρ,O,B,ev,w⟩=>⟨ρ,O,B,ev,w.imp f⟩) rfl D.nz) λσ H Q ⟨ρ,O,B,ev,w⟩=> ?_
 have tab:=L.t _ ev.hs.gm;obtain⟨ps,hP,_⟩:=id tab;refine⟨tab,λf c' aE H' tq same dm hf0 hf hc=> ?_⟩;obtain⟨h2,l2⟩:=ev.hs.sameT hP same dm (L.t' _ _ ev.hs.gm same dm tq);have ev2:=qkv (own:=[]) (fr:=fr) (ev.on h2 l2.le);refine⟨_,O,B,ev2,?_⟩;show Wn M _ H' B _ (d (qa3 0 (fr.map (·.2)) ρ) O);unfold qgo at w;cases q:d (qa3 0 (fr.map (·.2)) ρ) O with
 |no=>rw[q] at w;exact w
 |ok t m=>rw[q] at w;exact KE.le w l2
 |ex c0 m=>
  rw[q] at w;intro H3 B3 h3 g3;dsimp only at w;cases q2:wd c0 with
  |none=>rw[q2] at w;exact w.elim
  |some x=>rw[q2] at w;obtain⟨bm,b1,b2,b3⟩:=D.wd c0 x q2;exact⟨_,bm,x,rfl,b1,b2,b3,λH4 s4=>w (.str x) H4 B3 (h3.more s4) ((l2.trans g3).trans (Go.more s4)) qcs⟩
end
open PL (luS TopT)
noncomputable def qgM(neg:Bool)(tbl:List (Str×Str)):T->Mu->R T
 |.str z,O=>.ok (.bl (if neg=true then !(luS tbl z).isSome else(luS tbl z).isSome)) O
 |_,_=>.no
noncomputable def qon(tbl:List (Str×Str)):T->Mu->R T
 |.str z,O=>(match luS tbl z with|some g=>.ok (.fn g) O|none=>.no)
 |_,_=>.no
noncomputable def qtU(Fn:Str->Option (List T->Mu->R T))(i:Nat)(ds:DS0 (List T)):DS0 T:=λρ O=>match ρ[i]? with
 |some (some (.fn g))=>(match Fn g with|some f=>qer f ds ρ O|none=>.no)
 |_=>.no
section
variable{M:Md}{E:XK}{X:Cx}{e a k value:Expr}{es:List Expr}{pos p dp:Pos}{i n:Nat}{x D:Str}{da:DS0 T}{ds:DS0 (List T)}{tbl:List (Str×Str)}
theorem qeY{a:Addr}{es:Array DictEntry}{n:Nat}(hl:X.K.lookup a=some ⟨.type "dict",none,.dict es n, #[]⟩)(hk:W.KeysLit X.w.params es.toList)(lo:(a==sysModules)=false)(hz: ∀z,match luS tbl z with | none=>findBy Value.isStrOf es z=none | some g=> ∃f,findBy Value.isStrOf es z=some (.ref f)/\W.nsIn X.K mainGlobals g=some (some (.ref f))):
  OpR X (compareOp .NotIn) (λx y H Q=> ∃z,x= .str z/\y= .ref a/\Q (.bl (!(luS tbl z).isSome)) H):=by
 intro Z s σ H x y v u Q I rx ry q;obtain⟨z,rfl,rfl,q⟩:=q;obtain⟨t,rfl⟩:=rx;cases ry;refine PySem.wpAny_notIn_of (PySem.strKind_is _ X.w z t) lo (W.mapOf_K I.kIn hl hk) ?_;have:(findBy Value.isStrOf es z).isSome=(luS tbl z).isSome:=by
  have:=hz z;split at this
  ·simp_all
  ·rename_i g e;obtain⟨f,h1,_⟩:=this;rw[h1,e];rfl
 rw[this];exact⟨.bl _,H,I.tok _,rfl,q⟩
theorem qbB{neg:Bool}{ad:Addr}{σ:St}{H:Hp}{Q:VK}(h:tE M E (dU (qgM neg tbl) da) σ H Q):tE M E da σ H λx H1=> ∃z,x= .str z/\Q (.bl (if neg=true then !(luS tbl z).isSome else(luS tbl z).isSome)) H1:=by
 obtain⟨ρ,O,B,ev,w⟩:=h;refine tE.of ev ((Wn.bind w).mono λt af w1 v H1 B1 h1 g1 r1=> ?_);cases t with
 |str z=>exact⟨z,qaH r1,w1 _ H1 B1 h1 g1 qa9⟩
 |_=>exact w1.elim
theorem qmM(T0:TopT X.K X.mg X.w D tbl)(hg:Gl X D)(ha:PE X e (tE M E da))(hd:(D==("__debug__" :Str))=false)(neg:Bool):PE X (.Compare e [if neg=true then .NotIn else .In] [.Name D dp] pos) (tE M E (dU (qgM neg tbl) da)):=by
 obtain⟨ad,es,n,mD,hl,hk,lo,hz⟩:=T0;cases neg with
 |false=>refine PE.weak (qfX (PL.op_topin hl hk lo hz) ha (qcg hg mD (v:=.ref ad) rfl hd) rfl) λσ H Q hq=> ?_;obtain⟨ρ,O,B,ev,w⟩:=qbB (ad:=ad) hq;exact⟨ρ,O,B,ev,w.mono λt af w1 v H1 B1 h1 g1 r1=>let ⟨z,e1,q⟩:=w1 v H1 B1 h1 g1 r1;⟨z,e1,rfl,q⟩⟩
 |true=>refine PE.weak (qfX (qeY hl hk lo hz) ha (qcg hg mD (v:=.ref ad) rfl hd) rfl) λσ H Q hq=> ?_;obtain⟨ρ,O,B,ev,w⟩:=qbB (ad:=ad) hq;exact⟨ρ,O,B,ev,w.mono λt af w1 v H1 B1 h1 g1 r1=>let ⟨z,e1,q⟩:=w1 v H1 B1 h1 g1 r1;⟨z,e1,rfl,q⟩⟩
theorem qmF(T0:TopT X.K X.mg X.w D tbl)(hg:Gl X D)(ha:PE X e (tE M E da))(hd:(D==("__debug__" :Str))=false)(neg:Bool):PT X (.Compare e [if neg=true then .NotIn else .In] [.Name D dp] pos) (tT M E (dTB (dU (qgM neg tbl) da))):=by
 obtain⟨ad,es,n,mD,hl,hk,lo,hz⟩:=T0;cases neg with
 |false=>refine PT.weak (qd6 (PL.op_topin hl hk lo hz) ha (qcg hg mD (v:=.ref ad) rfl hd) rfl) λσ H Q hq=> ?_;obtain⟨ρ,O,B,ev,w⟩:=qbB (ad:=ad) (qcK hq);exact⟨ρ,O,B,ev,w.mono λt af w1 v H1 B1 h1 g1 r1=>let ⟨z,e1,q⟩:=w1 v H1 B1 h1 g1 r1;⟨z,e1,rfl,q⟩⟩
 |true=>refine PT.weak (qd6 (qeY hl hk lo hz) ha (qcg hg mD (v:=.ref ad) rfl hd) rfl) λσ H Q hq=> ?_;obtain⟨ρ,O,B,ev,w⟩:=qbB (ad:=ad) (qcK hq);exact⟨ρ,O,B,ev,w.mono λt af w1 v H1 B1 h1 g1 r1=>let ⟨z,e1,q⟩:=w1 v H1 B1 h1 g1 r1;⟨z,e1,rfl,q⟩⟩
end
end NV
namespace NV
open PySem L2
inductive O2 where
 |add|sub|mul|div|mod|pow|lt|le|gt|ge|eq|ne|is|isn|in_|nin|ix
noncomputable def O2.g:O2->Mu->T->T->Option Nv
 |.add=>qs7|.sub=>gSub|.mul=>qwa|.div=>qwe|.mod=>qwb|.pow=>qyz|.lt=>gLt|.le=>gLe|.gt=>gGt|.ge=>gGe
 |.eq=>qll false|.ne=>qll true|.is=>gIs false|.isn=>gIs true|.in_=>gIn false|.nin=>gIn true|.ix=>gIx
inductive CG where
 |no|n (i:Nat)|tup (gs:List CG)
inductive Iw where
 |rng1|rng2|enum|zip
mutual
inductive CE where
 |no|v (i:Nat)|c (t:T)|tup (es:List CE)|lst (ow:Bool) (es:List CE)|dct (ow:Bool)
 |o2 (ow:Bool) (o:O2) (a b:CE)|neg (a:CE)|nt (a:CE)|and (a b:CE)|or (a b:CE)|ife (t a b:CE)|chain (o p:O2) (a b c:CE)
 |bn (ow:Bool) (b:Bn) (es:List CE)|bm (ow:Bool) (b:Bm) (o:CE) (es:List CE)|alt (a b:CE)|inst (N:String) (a:CE)|sset (ow:Bool) (a:CE)|slen (a:CE)|litems (a:CE)
 |sl (ow:Bool) (a:CE) (lo hi:Option CE)|sl3 (ow:Bool) (a:CE) (lo hi:Option CE) (st:CE)
 |call (i:Nat) (es:List CE)|make (c:Str) (i:Nat) (es:List CE)|mth (ms:List (Str×Nat)) (m:Str) (o:CE) (es:List CE)|fld (cs:List Str) (f:Str) (o:CE)
 |srtK (ow:Bool) (b:KB) (a:CE)|told (wd:List (Str×Str)) (fr:List Nat) (e:CE)
 |topin (neg:Bool) (tbl:List (Str×Str)) (a:CE)|topget (tbl:List (Str×Str)) (a:CE)|callv (fi:List (Str×Nat)) (i:Nat) (es:List CE)
 |comp (ow x:Bool) (n:Nat) (fr:List Nat) (g:CG) (it:CI) (t:Option CE) (e:CE)
inductive CI where
 |no|gen (e:CE)|by_ (w:Iw) (es:List CE)
end
inductive CS where
 |no|nx|ret (e:CE)|set (i:Nat) (e:CE)|asg (g:CG) (e:CE)|par (is:List Nat) (es:List CE)|fld (cs:List Str) (f:Str) (o e:CE)|put (o i e:CE)|exp (e:CE)|ife (t:CE) (a b:List CS)|for_ (g:CG) (it:CI) (b:List CS)
 |brk|cnt|raise (c:Str)|try_ (cl:List Str) (n:Nat) (nm:Option Nat) (b h:List CS)|frz (i:Nat) (s:CS)
noncomputable def Iw.g:Iw->List T->Mu->R Ito
 |.rng1=>qcp|.rng2=>qrE|.enum=>qtl|.zip=>qhV
abbrev Fs:=Nat->List T->Mu->R T
mutual
noncomputable def runG:CG->T->DS0 Ro
 |.no=>λ_=>dNo
 |.n i=>gN i
 |.tup gs=>gT gs.length (runGs gs)
noncomputable def runGs:List CG->List T->DS0 Ro
 |[]=>gsN
 |g::gs=>gsC (runG g) (runGs gs)
end
noncomputable def qn0(o p:O2)(da db dc:DS0 T):DS0 T:=dSq da λx=>dSq db λy ρ O=>(nvR false (o.g O x y) O).bind λz μ'=>(tbO z μ').bind λk μ'=>if k=true then(dc ρ μ').bind λw fw=>nvR false (p.g fw y w) fw else .ok (.bl false) μ'
noncomputable def qiz(ow:Bool)(d:DS0 Ct):DS0 T:=if ow=true then dOw d else dFz d
noncomputable def qs5:T->Mu->R T
 |.int i,O=>.ok (.int (-i)) O
 |_,_=>.no
mutual
noncomputable def qab(F:Fs):CE->DS0 T
 |.no=>dNo
 |.v i=>dV i
 |.c t=>dC t
 |.tup es=>qxu (runA F es)
 |.lst ow es=>qiz ow (qxx (runA F es))
 |.dct ow=>qiz ow λ_ O=>.ok (.dk []) O
 |.o2 ow o a b=>dB (λx y O=>nvR ow (o.g O x y) O) (qab F a) (qab F b)
 |.neg a=>dU qs5 (qab F a)
 |.nt a=>qmT (qab F a)
 |.and a b=>qmV (qab F a) (qab F b)
 |.or a b=>quz (qab F a) (qab F b)
 |.ife t a b=>qiB (dTB (qab F t)) (qab F a) (qab F b)
 |.chain o p a b c=>qn0 o p (qab F a) (qab F b) (qab F c)
 |.bn ow b es=>dN ow b.g (runA F es)
 |.bm ow b o es=>dBM ow b (qab F o) (runA F es)
 |.alt a b=>qq5 (qab F a) (qab F b)
 |.inst N a=>qtQ N (qab F a)
 |.sset ow a=>dNu ow qxp (qab F a)
 |.litems a=>qnZ (qab F a)
 |.slen a=>dNu false qke (qab F a)
 |.sl ow a lo hi=>dSl ow (qab F a) (runO F lo) (runO F hi)
 |.sl3 ow a lo hi st=>qyE ow (qab F a) (runO F lo) (runO F hi) (dOS (qab F st))
 |.call i es=>qer (F i) (runA F es)
 |.make c i es=>qer (mkR c (F i)) (runA F es)
 |.mth ms m o es=>qiA (λc=>(ms.lookup c).map F) m (qab F o) (runA F es)
 |.fld cs f o=>dU (qnS (λc _=>cs.contains c) f) (qab F o)
 |.srtK ow b a=>dNu ow (qnP b) (qab F a)
 |.told wd fr e=>qgo (λc=>wd.lookup c) fr (qab F e)
 |.topin neg tbl a=>dU (qgM neg tbl) (qab F a)
 |.topget tbl a=>dU (qon tbl) (qab F a)
 |.callv fi i es=>qtU (λg=>(fi.lookup g).map F) i (runA F es)
 |.comp ow x n fr g it t e=>qiz ow (qcA x n fr (runI F it) (runG g) (runT F t) (qab F e))
noncomputable def runA(F:Fs):List CE->DS0 (List T)
 |[]=>qq3
 |e::es=>qtT (qab F e) (runA F es)
noncomputable def runO(F:Fs):Option CE->DS0 (Option Int)
 |none=>dON
 |some e=>dOS (qab F e)
noncomputable def runT(F:Fs):Option CE->DS0 Bool
 |none=>qxt
 |some e=>dTB (qab F e)
noncomputable def runI(F:Fs):CI->DS0 Ito
 |.no=>dNo
 |.gen e=>dIt (qab F e)
 |.by_ w es=>dIA w.g (runA F es)
end
noncomputable def qbt:List Nat->List T->Ro->Option Ro
 |[],[],ρ=>some ρ
 |i::is,t::ts,ρ=>qbt is ts (ρ.set i (some t))
 |_,_,_=>none
noncomputable def qyF(is:List Nat)(ds:DS0 (List T)):DS0 Out:=dSq ds λts ρ O=>match qbt is ts ρ with|some ρ'=>.ok (.nx ρ') O|none=>.no
mutual
noncomputable def qaC(F:Fs):CS->DS0 Out
 |.no=>dNo
 |.nx=>qmU
 |.ret e=>qwA (qab F e)
 |.set i e=>qmS i (qab F e)
 |.asg g e=>qxA (runG g) (qab F e)
 |.par is es=>qyF is (runA F es)
 |.fld cs f o e=>qtR (λc _=>cs.contains c) f (qab F o) (qab F e)
 |.put o i e=>qxv (qab F o) (qab F i) (qab F e)
 |.exp e=>qtS (qab F e)
 |.ife t a b=>qiB (dTB (qab F t)) (runSs F a) (runSs F b)
 |.for_ g it b=>qxz (runI F it) (runG g) (runSs F b)
 |.brk=>λρ O=>.ok (.bk ρ) O
 |.cnt=>λρ O=>.ok (.ct ρ) O
 |.raise c=>qnY c
 |.try_ cl n nm b h=>qyD (λc=>cl.contains c) n nm (runSs F b) (runSs F h)
 |.frz i s=>qxy i (qaC F s)
noncomputable def runSs(F:Fs):List CS->DS0 Out
 |[]=>qmU
 |s::ss=>qwz (qaC F s) (runSs F ss)
end
structure Gx where
 fs:List (Str×Stmt)
 cs:List (Str×T)
 ex:List (Str×List Str)
 cl:List (Str×List Str)
 ow:List (Nat×Nat)
 fz:List (Nat×Str)
 xc:List (Nat×Nat)
 kp:List Str
 lm:List Str
 wd:List (Str×Str)
 dt:List (Str×List (Str×Str)):=[]
structure Cc where
 N:List Str
 sc:Scope
 calm:Bool
 top:Bool
 cf:Bool
 lam:Bool
noncomputable def qcJ:List Str:=["len", "all", "any", "sum", "max", "min", "abs", "list", "tuple", "sorted", "set", "isinstance", "range", "enumerate", "zip", "int", "bool", "str", "dict"]
noncomputable def qjZ(N:List Str)(x:Str):Option Nat:=N.findIdx? λy=>decide (y=x)
noncomputable def qiv(C:Cc)(x:Str):Bool:=decide (C.sc.names.lookup x=some .globalImplicit)&&x != "__debug__"
noncomputable def qc3(C:Cc)(x:Str):Bool:=qiv C x&&qcJ.contains x
noncomputable def qmm(sc:Scope)(x:Str):Bool:=match sc.names.lookup x with|some .local=>true|some .cell=>true|some .free=>true|_=>false
noncomputable def qpH(sc:Scope)(x:Str):Bool:=match sc.names.lookup x with|some .local=>true|some .cell=>true|_=>false
noncomputable def qq1(C:Cc)(x:Str):Bool:=match C.sc.names.lookup x with|some .local=>true|some .cell=>C.cf|_=>false
noncomputable def Gx.fi(g:Gx)(x:Str):Option Nat:=qjZ (g.fs.map (·.1)) x
noncomputable def qaX(c m:Str):Str:=c++("." :Str)++m
noncomputable def Gx.ms(g:Gx)(m:Str):List (Str×Nat):=g.cl.filterMap λc=>(g.fi (qaX c.1 m)).map λi=>(c.1,i)
noncomputable def Gx.fls(g:Gx)(f:Str):List Str:=(g.cl.filter λc=>c.2.contains f).map (·.1)
noncomputable def Gx.own(g:Gx)(p:Pos):Bool:=g.ow.contains (p.line,p.col)
noncomputable def qqC(g:Gx)(C:Cc)(x:Str):CE:=
 if x== "__debug__" ||x== "__classdict__" then .no else
 if qmm C.sc x then(match qjZ C.N x with|some i=>.v i|none=>.no) else
 if qiv C x then(match g.cs.lookup x with|some t=>.c t|none=>.no) else .no
noncomputable def qvL:Operator->Option O2
 |.Add=>some .add|.Sub=>some .sub|.Mult=>some .mul|.FloorDiv=>some .div|.Mod=>some .mod|_=>none
noncomputable def qn6:CmpOp->O2
 |.Lt=>.lt|.LtE=>.le|.Gt=>.gt|.GtE=>.ge|.Eq=>.eq|.NotEq=>.ne|.Is=>.is|.IsNot=>.isn|.In=>.in_|.NotIn=>.nin
noncomputable def qq6(x:Str):Option Bn:=Bn.list.find? λb=>b.nm==x
noncomputable def qqG(x:Str)(ty:String):Option Bm:=Bm.all.find? λb=>b.nm==x&&b.ty==ty
noncomputable def qwV(x:Str):Option String:=["int", "bool", "str", "tuple", "list"].find? λN=>Str.ofString N==x
noncomputable def qhR:List CE->CE
 |[]=>.no
 |[a]=>a
 |a::b::r=>.and a (qhR (b::r))
noncomputable def ql3:List CE->CE
 |[]=>.no
 |[a]=>a
 |a::b::r=>.or a (ql3 (b::r))
noncomputable def cG(C:Cc):Nat->Expr->CG
 |0,_=>.no
 |n+1,e=>match e with
  |.Name x _=>if qq1 C x then(match qjZ C.N x with|some i=>.n i|none=>.no) else .no
  |.Tuple ts _ _=>if C.calm&&ts.all qaq then .tup (ts.map (cG C n)) else .no
  |_=>.no
noncomputable def qum(C:Cc)(sc:Scope):Scope:={ sc with names:=sc.names.map λ(n,k)=>if(k==NameKind.free&&C.sc.kind== .function&&C.sc.names.lookup n==some .cell) then(n,NameKind.cell) else(n,k) }
noncomputable def qai(C:Cc)(sc:Scope):Cc×List (Str×Nat):=
 let own:=(sc.names.filter λy=>decide (y.2= .local)&&y.1 != (".0" :Str)).map (·.1);let fr:=sc.names.filterMap λy=>if y.2= .free then(qjZ C.N y.1).map λi=>(y.1,i) else none
 (⟨own++fr.map (·.1),qum C sc,C.calm,false,false,C.lam⟩,fr)
noncomputable def qhE(C:Cc)(sc:Scope):Bool:=
 decide (sc.kind= .function)&&sc.names.all (λy=>decide (y.2≠.cell))&&sc.names.all (λy=>decide (y.2≠.local)||decide (sc.names.lookup y.1=some .local))
  &&sc.names.all (λy=>decide (y.2≠.free)||(decide (C.sc.names.lookup y.1=some .cell)||decide (C.sc.names.lookup y.1=some .free))&&decide (sc.names.lookup y.1=some .free))
  &&decide ((qai C sc).1.N.Nodup)
noncomputable def qjQ(C:Cc)(sc:Scope):List (Str×Nat):=sc.names.filterMap λy=>if y.2= .free then(qjZ C.N y.1).map λi=>(y.1,i) else none
noncomputable def qmi(C:Cc)(sc:Scope):Cc:=⟨(qjQ C sc).map (·.1),sc,true,false,false,false⟩
noncomputable def qbc(a:Arguments):Bool:=decide (a.posonlyargs.length=0)&&a.vararg.isNone&&decide (a.kwonlyargs.length=0)&&decide (a.kw_defaults.length=0)&&a.kwarg.isNone&&decide (a.defaults.length=0)
noncomputable def qmh(C:Cc)(a:Arguments)(sc:Scope):Bool:=qbc a&&decide (sc.kind= .function)&& !sc.isCoroutine&& !sc.isGenerator&&sc.names.all (λy=>decide (y.2≠.cell))&&C.lam&&C.calm
noncomputable def qiU(C:Cc)(a:Arguments)(sc:Scope):Bool:=qmh C a sc&&decide (a.args.length=0)&&C.cf&&decide ((qmi C sc).N.Nodup)
 &&sc.names.all (λy=>decide (y.2≠.free)||(decide (C.sc.names.lookup y.1=some .cell)||decide (C.sc.names.lookup y.1=some .free))&&decide (sc.names.lookup y.1=some .free))
noncomputable def qjU(C:Cc)(a:Arguments)(sc:Scope):Option Str:=match a.args with
 |[x]=>if qmh C a sc&&decide (sc.names.lookup x.arg=some .local)&&sc.names.all (λy=>decide (y.2≠.free))&&x.arg != "__debug__" then some x.arg else none
 |_=>none
noncomputable def qom(g:Gx)(C:Cc):Expr->Option (List (Str×Str))
 |.Name D _=>if qiv C D then g.dt.lookup D else none
 |_=>none
noncomputable def qsA:CmpOp->Option Bool
 |.In=>some false
 |.NotIn=>some true
 |_=>none
noncomputable def qqD(g:Gx)(C:Cc)(o:CmpOp)(b:Expr)(ca cb:CE):CE:=match qom g C b,qsA o with
 |some tbl,some neg=>.topin neg tbl ca
 |_,_=>.o2 false (qn6 o) ca cb
noncomputable def cIx(g:Gx)(C:Cc)(ow:Bool)(a b:Expr)(ca cb:CE):CE:=match qom g C a with
 |some tbl=>.no
 |none=>.o2 ow .ix ca cb
noncomputable def qhK(g:Gx)(C:Cc)(f:Str)(ces:List CE):CE:=if(f== "__debug__" ||f== "__classdict__")||ces.isEmpty then .no else if qmm C.sc f then .no else .no
noncomputable def qnM:Expr->Bool
 |.Tuple _ _ _=>true
 |_=>false
mutual
noncomputable def cE(g:Gx):Nat->Cc->Expr->CE
 |0,_,_=>.no
 |n+1,C,e=>match e with
  |.Constant c _ _=>(match c with|.none=>.c .non|.bool b=>.c (.bl b)|.int i=>.c (.int i)|.str s=>.c (.str s)|_=>.no)
  |.Name x _=>qqC g C x
  |.Tuple es _ _=>if es.all qaq then .tup (es.map (cE g n C)) else .no
  |.List es p=>if es.all qaq then .lst (g.own p) (es.map (cE g n C)) else .no
  |.Dict [] [] p=>.dct (g.own p)
  |.BinOp a op b p=>(match qvL op with|some o=>.o2 (g.own p) o (cE g n C a) (cE g n C b)|none=>.no)
  |.UnaryOp .Not a _=>.nt (cE g n C a)
  |.UnaryOp .USub a _=>.neg (cE g n C a)
  |.BoolOp .And es _=>qhR (es.map (cE g n C))
  |.BoolOp .Or es _=>ql3 (es.map (cE g n C))
  |.IfExp t a b _=>.ife (cE g n C t) (cE g n C a) (cE g n C b)
  |.Compare a [o] [b] _=>if qbK b then qqD g C o b (cE g n C a) (cE g n C b) else .no
  |.Compare a [o,p] [b,c] _=>if qbK c then .chain (qn6 o) (qn6 p) (cE g n C a) (cE g n C b) (cE g n C c) else .no
  |.Subscript a (.Slice lo hi none _) p=>.sl (g.own p) (cE g n C a) (lo.map (cE g n C)) (hi.map (cE g n C))
  |.Subscript a (.Slice lo hi (some st) _) p=>.no
  |.Subscript a b p=>cIx g C (g.own p) a b (cE g n C a) (cE g n C b)
  |.Attribute a f _=>if qcq a then .fld (g.fls f) f (cE g n C a) else .no
  | .Call (.Attribute o m ap) es [] p=>if (qcq o&&es.all qaq&&decide (es.length<30))&&ap.endLine==p.line then
    (match qqG m "list",qqG m "dict" with
     |some b,some d=>.alt (.bm (g.own p) b (cE g n C o) (es.map (cE g n C))) (.bm (g.own p) d (cE g n C o) (es.map (cE g n C)))
     |some b,none=>.bm (g.own p) b (cE g n C o) (es.map (cE g n C))
     |none,some d=>.bm (g.own p) d (cE g n C o) (es.map (cE g n C))
     |none,none=>if C.calm then .mth (g.ms m) m (cE g n C o) (es.map (cE g n C)) else .no) else .no
  | .Call (.Name f _) [e] [⟨some kw,.Lambda a body sc _,_⟩] p=>if f== "sorted" &&kw== "key" &&qc3 C f&&qaq e then (match qjU C a sc with
    |some x=>(match qxm x body with|some b=>.no|none=>.no)
    |none=>.no) else .no
  |.Call (.Name f _) es [] p=>if(es.all qaq&&C.calm)&&qiv C f then cCall g n C f es p else if es.all qaq&&C.calm then qhK g C f (es.map (cE g n C)) else .no
  |.ListComp elt [⟨tg,iter,ifs,0⟩] sc p=>cComp g n C false elt tg iter ifs sc p
  |_=>.no
noncomputable def cCall(g:Gx):Nat->Cc->Str->List Expr->Pos->CE
 |0,_,_,_,_=>.no
 | n+1,C,f,es,p=>if f== "_law_told" then (match es with
   |[.Lambda a body sc _]=>if qiU C a sc&& !g.wd.isEmpty then .told g.wd ((qjQ C sc).map (·.2)) (cE g n (qmi C sc) body) else .no
   |_=>.no) else if f.cps.contains 46 then .no else match g.fi f with
  |some i=>.call i (es.map (cE g n C))
  |none=>if(g.cl.map (·.1)).contains f then(match g.fi (qaX f "__init__") with|some i=>.make f i (es.map (cE g n C))|none=>.no) else
   if qc3 C f then(match es with
    |[e,.Name x _]=>if f== "isinstance" then(match qwV x with|some N=>if qc3 C x then .inst N (cE g n C e) else .no|none=>.no) else
     (match qq6 f with|some b=>.bn (g.own p) b (es.map (cE g n C))|none=>.no)
    |[.Call (.Name s _) [a] [] _]=>if s== "set" &&qc3 C s&&qaq a then(if f== "sorted" then .no else if f== "len" then .no else .no) else
     (match qq6 f with|some b=>.bn (g.own p) b (es.map (cE g n C))|none=>.no)
    |[.Call (.Attribute o m ap) [] [] q]=>if f== "list" &&m== "items" &&qcq o&&ap.endLine==q.line then .litems (cE g n C o) else
     (match qq6 f with|some b=>.bn (g.own p) b (es.map (cE g n C))|none=>.no)
    |[]=>.no
    |_=>(match qq6 f with|some b=>.bn (g.own p) b (es.map (cE g n C))|none=>.no)) else .no
noncomputable def cI(g:Gx):Nat->Cc->Expr->Expr->CI
 |0,_,_,_=>.no
 |n+1,C,tg,e=>if qbK e then(match e with
  | .Call (.Name f _) es [] _=>if f== "range" then (if qc3 C f&&es.all qaq then (match es with
     |[a]=>.by_ .rng1 [cE g n C a]
     |[a,b]=>.no
     |_=>.no) else .no)
    else if f== "enumerate" then(if qc3 C f&&es.all qaq&&qnM tg then(match es with|[a]=>.no|_=>.no) else .no)
    else if f== "zip" then(if qc3 C f&&es.all qaq&&qnM tg then(match es with|[a,b]=>.by_ .zip [cE g n C a,cE g n C b]|_=>.no) else .no)
    else .gen (cE g n C e)
  |_=>.gen (cE g n C e)) else .no
noncomputable def cComp(g:Gx):Nat->Cc->Bool->Expr->Expr->Expr->List Expr->Scope->Pos->CE
 |0,_,_,_,_,_,_,_,_=>.no
 | n+1,C,x,elt,tg,iter,ifs,sc,p=>if C.calm&&qhE C sc then
   (match ifs with
    |[]=>.comp (g.own p) x ((qai C sc).1.N.length - (qai C sc).2.length) ((qai C sc).2.map (·.2)) (cG (qai C sc).1 n tg) (cI g n C tg iter) none (cE g n (qai C sc).1 elt)
    |[t]=>.comp (g.own p) x ((qai C sc).1.N.length - (qai C sc).2.length) ((qai C sc).2.map (·.2)) (cG (qai C sc).1 n tg) (cI g n C tg iter) (some (cE g n (qai C sc).1 t)) (cE g n (qai C sc).1 elt)
    |_=>.no) else .no
end
noncomputable def qqx:Stmt->List Stmt
 |.ClassDef _ _ _ b _ _ _ _ _ _ _=>b
 |_=>[]
noncomputable def qbG(C:Cc)(line:Nat):List Expr->Option (List Str)
 |[]=>some []
 |.Name x p::r=>if decide (C.sc.names.lookup x=some .local)&&p.line==line then(qbG C line r).map (x:: ·) else none
 |_::_=>none
noncomputable def qpB(N:List Str):List Str->Option (List Nat)
 |[]=>some []
 |x::r=>(qjZ N x).bind λi=>(qpB N r).map (i:: ·)
noncomputable def qdX(C:Cc)(e:Expr)(x:Str)(p:Pos):Bool:=match e with
 |.ListComp _ _ s q=>decide (C.sc.kind= .function)&&decide (C.sc.names.lookup x=some .local)&&p.line==q.line&& !(s.names.any λ(n,k)=>n==x&&(k== .local||k== .cell))
 |_=>false
noncomputable def qwG(g:Gx)(n:Nat)(C:Cc)(x:Str)(p:Pos)(e:Expr):CS:=if qq1 C x then (match qjZ C.N x with
  |none=>.no
  |some i=>(match e with
   |.ListComp elt [⟨tg,iter,ifs,0⟩] sc q=>if decide (C.sc.kind= .function) then(if qdX C (.ListComp elt [⟨tg,iter,ifs,0⟩] sc q) x p then .set i (cComp g n C false elt tg iter ifs sc q) else .set i (cE g n C (.ListComp elt [⟨tg,iter,ifs,0⟩] sc q))) else .no
   |e=>if qdA e then .set i (cE g n C e) else .no)) else .no
noncomputable def qt6(g:Gx)(n:Nat)(C:Cc)(ts vs:List Expr):Option CS:=if ts.length==2&&vs.length==ts.length&&vs.all qaq&&C.calm&&decide (C.sc.kind= .function)&& !vs.all (constantsAlone 8)&& !vs.all (foldedForSure 8) then
  (qbG C ((ts.head?.map (·.pos.line)).getD 0) ts).bind λxs=>if xs.eraseDups.length==xs.length&&decide xs.Nodup then(qpB C.N xs).map λis=>.par is (vs.map (cE g n C)) else none else none
noncomputable def qjy(C:Cc):Expr->Bool
 |.Name x _=> !decide (C.sc.names.lookup x=some .local)
 |_=>true
noncomputable def qgP:Expr->Bool
 |.Constant (.str _) _ _=>true
 |_=>false
noncomputable def qfj(C:Cc):List Str->CS->CS
 |[],s=>s
 |x::r,s=>match qjZ C.N x with|some i=>.frz i (qfj C r s)|none=>qfj C r s
mutual
noncomputable def cS(g:Gx):Nat->Cc->Stmt->CS
 |0,_,_=>.no
 |n+1,C,st=>qfj C ((g.fz.filter λp=>p.1==st.pos.line).map (·.2)) (cS1 g n C st)
noncomputable def cS1(g:Gx):Nat->Cc->Stmt->CS
 |0,_,_=>.no
 |n+1,C,st=>match st with
  |.Pass _=>.nx
  |.Break _=>.brk
  |.Continue _=>.cnt
  |.Return none _=>.ret (.c .non)
  |.Return (some e) _=>.ret (cE g n C e)
  |.Expr e _=>if qgP e then .nx else if qdA e then .exp (cE g n C e) else .no
  |.If t a b _=>.ife (cE g n C t) (cSs g n C a) (cSs g n C b)
  |.For tg it b [] _=>if(C.top&&C.calm)&&qbK it then .for_ (cG C n tg) (cI g n C tg it) (cSs g n C b) else .no
  |.Assign [.Name x p] e _=>qwG g n C x p e
  |.Assign [.Attribute o f _] e _=>.fld (g.fls f) f (cE g n C o) (cE g n C e)
  |.Assign [.Subscript o i _] e _=>.put (cE g n C o) (cE g n C i) (cE g n C e)
  |.Assign [.Tuple ts k p] e _=>(match e with
   |.Tuple vs kv pv=>if ts.any (qjy C) then .asg (cG C n (.Tuple ts k p)) (cE g n C (.Tuple vs kv pv)) else(qt6 g n C ts vs).getD .no
   |e=>if qdA e then .asg (cG C n (.Tuple ts k p)) (cE g n C e) else .no)
  |.Raise (some (.Call (.Name x _) [a] [] _)) none _=>if C.top&&qiv C x&&(g.ex.map (·.1)).contains x&&qgP a then .raise x else .no
  |_=>.no
noncomputable def cSs(g:Gx):Nat->Cc->List Stmt->List CS
 |0,_,_=>[.no]
 |n+1,C,bN=>bN.map (cS g n C)
end
noncomputable def qfV(st:Stmt):List Str:=(qap st).args.map (·.arg)
noncomputable def qig(st:Stmt):List Str:=qfV st++((qad st).names.filter λy=>(decide (y.2= .local)||decide (y.2= .cell))&& !(qfV st).contains y.1).map (·.1)
noncomputable def qwF(lam:Bool)(st:Stmt):Cc:=⟨qig st,qad st,true,true,true,lam⟩
noncomputable def qfo(st:Stmt):Bool:=decide ((qad st).kind= .function)&& !(qad st).isCoroutine&& !(qad st).isGenerator&&decide ((qig st).Nodup)&&(qfV st).all (qpH (qad st))&&(qad st).names.all (λy=>decide (y.2≠.free))
 &&decide ((qap st).posonlyargs.length=0)&&(qap st).vararg.isNone&&decide ((qap st).kwonlyargs.length=0)&&decide ((qap st).kw_defaults.length=0)&&(qap st).kwarg.isNone&&decide ((qap st).defaults.length=0)
structure Fcd where
 kp:Bool
 n:Nat
 N:Nat
 b:List CS
noncomputable def cFn(g:Gx)(p:Str×Stmt):Fcd:=if qfo p.2 then⟨g.kp.contains p.1,(qfV p.2).length,(qig p.2).length,cSs g 60 (qwF (g.lm.contains p.1) p.2) (qaA p.2)⟩ else⟨true,0,0,[.no]⟩
noncomputable def Fcd.run(F:Fs)(c:Fcd):List T->Mu->R T:=fnR c.kp c.n c.N (runSs F c.b)
noncomputable def TTf(g:Gx):Nat->Fs
 |0,_=>λ_ _=>.no
 |k+1,i=>match g.fs[i]? with
  |some p=>(cFn g p).run (TTf g k)
  |none=>λ_ _=>.no
section
variable{F:Fs}{ρ:Ro}{O:Mu}
noncomputable def lk:Option (Option T)->Mu->R T
 |some (some t),O=>.ok t O
 |_,_=>.no
@[simp] theorem qeg(t:T)(O:Mu):lk (some (some t)) O= .ok t O:=rfl
@[simp] theorem qt9{α β γ:Type}{r:R α}{f:α->Mu->R β}{g:β->Mu->R γ}:(r.bind f).bind g=r.bind λa m=>(f a m).bind g:=by cases r<;>rfl
@[simp] theorem qi8:runSs F [] ρ O= .ok (.nx ρ) O:=rfl
@[simp] theorem qag:runSs F (s::ss) ρ O=(qaC F s ρ O).bind (qhZ (runSs F ss)):=rfl
@[simp] theorem qaw:qhZ e (.nx ρ) O=e ρ O:=rfl
@[simp] theorem quj:qhZ e (.rt t) O= .ok (.rt t) O:=rfl
@[simp] theorem qul:qhZ e (.bk ρ) O= .ok (.bk ρ) O:=rfl
@[simp] theorem quk:qhZ e (.ct ρ) O= .ok (.ct ρ) O:=rfl
@[simp] theorem qvy:outT (.rt t) O= .ok t O:=rfl
@[simp] theorem qvz:outT (.nx ρ) O= .ok .non O:=rfl
@[simp] theorem qcL:tbO (.bl b) O= .ok b O:=rfl
@[simp] theorem qx5:qaC F .nx ρ O= .ok (.nx ρ) O:=rfl
@[simp] theorem qa7:qaC F (.ret e) ρ O=(qab F e ρ O).bind λt O=>.ok (.rt t) O:=rfl
@[simp] theorem qaK:qaC F (.set i e) ρ O=(qab F e ρ O).bind λt O=>.ok (.nx (ρ.set i (some t))) O:=rfl
@[simp] theorem qnw:qaC F (.asg g e) ρ O=(qab F e ρ O).bind λt O=>(runG g t ρ O).bind λρ' μ'=>.ok (.nx ρ') μ':=rfl
@[simp] theorem qbn:qaC F (.exp e) ρ O=(qab F e ρ O).bind λ_ O=>.ok (.nx ρ) O:=rfl
theorem qhp{α:Type}{c:Prop}[Decidable c]{f g:Ro->Mu->R α}:(if c then f else g) ρ O=if c then f ρ O else g ρ O:=by split<;>rfl
@[simp] theorem qi9{t:CE}{a b:List CS}:qaC F (.ife t a b) ρ O=(qab F t ρ O).bind λx O=>(tbO x O).bind λc O=>if c=true then runSs F a ρ O else runSs F b ρ O:=by
 show((qab F t ρ O).bind _).bind _=_;cases qab F t ρ O with
 |ok x m=>congr 1;funext c m';exact qhp
 |_=>rfl
@[simp] theorem qw5:qaC F .brk ρ O= .ok (.bk ρ) O:=rfl
@[simp] theorem qw4:qaC F .cnt ρ O= .ok (.ct ρ) O:=rfl
@[simp] theorem qun{c:Str}:qaC F (.raise c) ρ O= .ex c O:=rfl
@[simp] theorem qrI:qaC F (.put o i e) ρ O=(qab F e ρ O).bind λv O=>(qab F o ρ O).bind λo O=>(qab F i ρ O).bind λi O=>match qpM O o i v with
 |some q=>if O.live q.1=true then .ok (.nx ρ) (O.put q.1 q.2) else .no
 |none=>.no:=rfl
@[simp] theorem qnv:qaC F (.par is es) ρ O=(runA F es ρ O).bind λts O=>match qbt is ts ρ with|some ρ'=>.ok (.nx ρ') O|none=>.no:=rfl
@[simp] theorem qb4{cs:List Str}{f:Str}:qaC F (.fld cs f o e) ρ O=(qab F e ρ O).bind λt O=>(qab F o ρ O).bind λo O=>(qte (λc _=>cs.contains c) f t o O).bind λ_ O=>.ok (.nx ρ) O:=rfl
theorem qrJ:qaC F (.for_ g it b) ρ O=(runI F it ρ O).bind λit O=>qwi (runG g) (runSs F b) it ρ O:=rfl
@[simp] theorem qw1:qbt [] [] ρ=some ρ:=rfl
@[simp] theorem qu2:qbt (i::is) (t::ts) ρ=qbt is ts (ρ.set i (some t)):=rfl
@[simp] theorem qup:runG (.n i) t ρ O= .ok (ρ.set i (some t)) O:=rfl
@[simp] theorem qxb:runG (.tup gs) (.tup ts) ρ O=if ts.length=gs.length then runGs gs ts ρ O else .no:=rfl
@[simp] theorem qvf:runGs [] [] ρ O= .ok ρ O:=rfl
@[simp] theorem quo:runGs (g::gs) (t::ts) ρ O=(runG g t ρ O).bind (runGs gs ts):=rfl
@[simp] theorem qa5:runA F [] ρ O= .ok [] O:=rfl
@[simp] theorem qaf:runA F (e::es) ρ O=(qab F e ρ O).bind λx O=>(runA F es ρ O).bind λxs O=>.ok (x::xs) O:=rfl
@[simp] theorem qlJ{i:Nat}:qab F (.v i) ρ O=lk ρ[i]? O:=by
 show dV i ρ O=_;unfold dV
 rcases ρ[i]? with _|_|_<;>rfl
@[simp] theorem qiK:qab F (.c t) ρ O= .ok t O:=rfl
@[simp] theorem qbo:qab F (.tup es) ρ O=(runA F es ρ O).bind λxs O=>if xs.length<=1000 then .ok (.tup xs) O else .no:=rfl
@[simp] theorem qvn:qab F (.lst false es) ρ O=(runA F es ρ O).bind λxs O=>if xs.length<=1000 then .ok (.lst xs) O else .no:=by
 show((runA F es ρ O).bind _).bind fzC=_;cases runA F es ρ O with
 |ok x m=>show(if x.length<=1000 then R.ok _ m else .no).bind fzC=if x.length<=1000 then R.ok _ m else .no;split<;>rfl
 |_=>rfl
@[simp] theorem qvm:qab F (.lst true es) ρ O=(runA F es ρ O).bind λxs O=>if xs.length<=1000 then .ok (.obj O.l.length) (O.add (.ls xs)) else .no:=by
 show((runA F es ρ O).bind _).bind _=_;cases runA F es ρ O with
 |ok x m=>show(if x.length<=1000 then R.ok _ m else .no).bind _=if x.length<=1000 then R.ok _ _ else .no;split<;>rfl
 |_=>rfl
@[simp] theorem qvp:qab F (.dct true) ρ O= .ok (.obj O.l.length) (O.add (.dk [])):=rfl
@[simp] theorem qvq:qab F (.dct false) ρ O= .ok (.dct []) O:=rfl
@[simp] theorem qao:qab F (.o2 ow o a b) ρ O=(qab F a ρ O).bind λx O=>(qab F b ρ O).bind λy O=>nvR ow (o.g O x y) O:=rfl
@[simp] theorem qxc:qab F (.neg a) ρ O=(qab F a ρ O).bind qs5:=rfl
@[simp] theorem qux:qs5 (.int i) O= .ok (.int (-i)) O:=rfl
@[simp] theorem qlK:qab F (.nt a) ρ O=(qab F a ρ O).bind λx O=>(tbO x O).bind λc O=>.ok (.bl (!c)) O:=by show((qab F a ρ O).bind _).bind _=_;simp
@[simp] theorem qnx{a b:CE}:qab F (.and a b) ρ O=(qab F a ρ O).bind λx O=>(tbO x O).bind λc O=>if c=true then qab F b ρ O else .ok (.bl false) O:=by
 show((qab F a ρ O).bind _).bind _=_;cases qab F a ρ O with
 |ok x m=>congr 1;funext c m';exact qhp
 |_=>rfl
@[simp] theorem qvk{a b:CE}:qab F (.or a b) ρ O=(qab F a ρ O).bind λx O=>(tbO x O).bind λc O=>if c=true then .ok (.bl true) O else qab F b ρ O:=by
 show((qab F a ρ O).bind _).bind _=_;cases qab F a ρ O with
 |ok x m=>congr 1;funext c m';exact qhp
 |_=>rfl
@[simp] theorem qg3{t a b:CE}:qab F (.ife t a b) ρ O=(qab F t ρ O).bind λx O=>(tbO x O).bind λc O=>if c=true then qab F a ρ O else qab F b ρ O:=by
 show((qab F t ρ O).bind _).bind _=_;cases qab F t ρ O with
 |ok x m=>congr 1;funext c m';exact qhp
 |_=>rfl
@[simp] theorem quq:qab F (.chain o p a b c) ρ O=(qab F a ρ O).bind λx O=>(qab F b ρ O).bind λy O=>(nvR false (o.g O x y) O).bind λz O=>(tbO z O).bind λk O=>if k=true then(qab F c ρ O).bind λw O=>nvR false (p.g O y w) O else .ok (.bl false) O:=rfl
@[simp] theorem qbJ:qab F (.bn ow b es) ρ O=(runA F es ρ O).bind λts O=>nvR ow (b.g O ts) O:=rfl
@[simp] theorem qh8:qab F (.bm ow b o es) ρ O=(qab F o ρ O).bind λo O=>if qf2 O o=b.ty then(runA F es ρ O).bind λts O=>nvR ow (b.g O (o::ts)) O else .no:=rfl
@[simp] theorem qvo{N:String}:qab F (.inst N a) ρ O=(qab F a ρ O).bind λx O=>qc7 N x O:=rfl
@[simp] theorem qvh:qab F (.sset ow a) ρ O=(qab F a ρ O).bind λx O=>nvR ow (qxp O x) O:=rfl
@[simp] theorem qvj:qab F (.slen a) ρ O=(qab F a ρ O).bind λx O=>nvR false (qke O x) O:=rfl
@[simp] theorem qx9:qab F (.sl ow a lo hi) ρ O=(qab F a ρ O).bind λx O=>(runO F lo ρ O).bind λl O=>(runO F hi ρ O).bind λh O=>nvR ow (gSl O x l h) O:=rfl
@[simp] theorem qvd:runO F none ρ O= .ok none O:=rfl
noncomputable def asI:T->Mu->R (Option Int)
 |.int i,O=>.ok (some i) O
 |_,_=>.no
@[simp] theorem qwO{i:Int}:asI (.int i) O= .ok (some i) O:=rfl
@[simp] theorem qa4:qab F (.call i es) ρ O=(runA F es ρ O).bind λts O=>F i ts O:=rfl
@[simp] theorem qvl{c:Str}:qab F (.make c i es) ρ O=(runA F es ρ O).bind λts O=>mkR c (F i) ts O:=rfl
@[simp] theorem qrK{cs:List Str}{f:Str}:qab F (.fld cs f o) ρ O=(qab F o ρ O).bind λo O=>qnS (λc _=>cs.contains c) f o O:=rfl
@[simp] theorem qvi:qab F (.srtK ow b a) ρ O=(qab F a ρ O).bind λx O=>nvR ow (qnP b O x) O:=rfl
theorem qny:qab F (.alt a b) ρ O=qq5 (qab F a) (qab F b) ρ O:=rfl
theorem qja(h:qab F a ρ O= .ok t m):qab F (.alt a b) ρ O= .ok t m:=by rw[qny];unfold qq5;rw[h]
theorem qoK(h:qab F a ρ O= .no):qab F (.alt a b) ρ O=qab F b ρ O:=by rw[qny];unfold qq5;rw[h]
@[simp] theorem qjw:nvR ow (some (.v t)) O= .ok t O:=rfl
@[simp] theorem qyQ:nvR ow (some (.t ts)) O= .ok (.tup ts) O:=rfl
@[simp] theorem qsx:nvR false (some (.l ts)) O= .ok (.lst ts) O:=rfl
@[simp] theorem qvM:nvR true (some (.l ts)) O= .ok (.obj O.l.length) (O.add (.ls ts)):=rfl
@[simp] theorem qya:nvR false (some (.d ts)) O= .ok (.dct ts) O:=rfl
theorem qut(h:O.live k=true):nvR ow (some (.p k c t)) O= .ok t (O.put k c):=by show(if O.live k=true then _ else _)=_;rw[if_pos h]
@[simp] theorem qpL:O2.g .add O (.int i) (.int j)=some (.v (.int (i+j))):=rfl
@[simp] theorem qsY:O2.g .sub O (.int i) (.int j)=some (.v (.int (i - j))):=rfl
@[simp] theorem qs1:O2.g .mul O (.int i) (.int j)=if(-4294967296<=i/\i<=4294967296)\/(-4294967296<=j/\j<=4294967296) then some (.v (.int (i*j))) else none:=rfl
@[simp] theorem qyw:O2.g .div O (.int i) (.int j)=if 0<j/\j<1073741824 then some (.v (.int (i / j))) else none:=rfl
@[simp] theorem qys:O2.g .mod O (.int i) (.int j)=if 0<j then some (.v (.int (i % j))) else none:=rfl
@[simp] theorem qyS:O2.g .lt O (.int i) (.int j)=some (.v (.bl (decide (i<j)))):=rfl
@[simp] theorem qyT:O2.g .le O (.int i) (.int j)=some (.v (.bl (decide (i<=j)))):=rfl
@[simp] theorem qyU:O2.g .gt O (.int i) (.int j)=some (.v (.bl (decide (j<i)))):=rfl
@[simp] theorem qyV:O2.g .ge O (.int i) (.int j)=some (.v (.bl (decide (j<=i)))):=rfl
@[simp] theorem qyt{i j:Str}:O2.g .lt O (.str i) (.str j)=some (.v (.bl (qh1 i j))):=rfl
@[simp] theorem qyu{i j:Str}:O2.g .le O (.str i) (.str j)=some (.v (.bl (!qh1 j i))):=rfl
@[simp] theorem qxo{i j:Str}:O2.g .add O (.str i) (.str j)=if i.length+j.length<=100000 then some (.v (.str (i++j))) else none:=rfl
@[simp] theorem qs3:O2.g .add O (.tup (x::xs)) (.tup (y::ys))=if xs.length+ys.length<=900 then some (.t (x::xs++y::ys)) else none:=rfl
@[simp] theorem qv8:O2.g .add O (.tup []) (.tup ys)=some (.v (.tup ys)):=rfl
@[simp] theorem qpK:O2.g .add O (.tup (x::xs)) (.tup [])=if xs.length<=900 then some (.v (.tup (x::xs))) else none:=rfl
theorem qht(h:sqv O a=some (true,xs))(h':sqv O b=some (true,ys))(hl:xs.length+ys.length<=1000):O2.g .add O a b=some (.l (xs++ys)):=by
 show qs7 O a b=_;unfold qs7;split
 ·cases h
 ·cases h
 simp_all
theorem qyW(h:okT 8 (dr1 O a)=true)(h':okT 8 (dr1 O b)=true):O2.g .eq O a b=some (.v (.bl (eqT (dr1 O a) (dr1 O b)))):=by show qll _ O a b=_;unfold qll;simp_all
theorem qxn(h:okT 8 (dr1 O a)=true)(h':okT 8 (dr1 O b)=true):O2.g .ne O a b=some (.v (.bl (!eqT (dr1 O a) (dr1 O b)))):=by show qll _ O a b=_;unfold qll;simp_all
theorem qs0(h:okT 8 t=true)(ha:dr1 O a=t)(hb:dr1 O b=t):O2.g .ne O a b=some (.v (.bl false)):=by rw[qxn (by rw[ha];exact h) (by rw[hb];exact h),ha,hb,qbI _ _ h];rfl
theorem qwL{α:Type}[BEq α][LawfulBEq α][DecidableEq α](a b:α):(a==b)=decide (a=b):=by grind
@[simp] theorem qs2:O2.g .eq O (.int i) (.int j)=some (.v (.bl (decide (i=j)))):=rfl
@[simp] theorem qyr:O2.g .ne O (.int i) (.int j)=some (.v (.bl (!decide (i=j)))):=rfl
@[simp] theorem qv3{i j:Str}:O2.g .ne O (.str i) (.str j)=some (.v (.bl (!decide (i=j)))):=rfl
@[simp] theorem qv6:O2.g .eq O (.scr ns) (.lst [])=some (.v (.bl ns.isEmpty)):=rfl
noncomputable def ixT{α:Type}(ts:List α)(i:Int):Option α:=if 0<=i then ts[i.toNat]? else if 0<=(ts.length:Int)+i then ts[((ts.length:Int)+i).toNat]? else none
theorem qey{α:Type}(ts:List α)(i:Int):atI ts i=ixT ts i:=by
 unfold atI ixN ixT
 grind
@[simp] theorem qyv:O2.g .ix O (.tup ts) (.int i)=(ixT ts i).map .v:=by rw[<-qey];rfl
@[simp] theorem qkc:O2.g .ix O (.lst ts) (.int i)=(ixT ts i).map .v:=by rw[<-qey];rfl
@[simp] theorem qv4:O2.g .ix O (.scr ns) (.int i)=(ixT ns i).map λn=>.v (.int n):=by
 show(atI _ i).map _=_;rw[qey];unfold ixT;simp only[List.getElem?_map,List.length_map];split
 ·rw[Option.map_map];rfl
 ·split
  ·rw[Option.map_map];rfl
  ·rfl
theorem qpE{k:Nat}:ixT ts (k:Int)=ts[k]? :=rfl
theorem qbw{α:Type}{ts:List α}{i:Int}(h:0<=i):ixT ts i=ts[i.toNat]? :=by unfold ixT;rw[if_pos h]
@[simp] theorem qyf{α:Type}{ts:List α}:ixT ts 0=ts[0]? :=qbw (by omega)
@[simp] theorem qye{α:Type}{ts:List α}:ixT ts 1=ts[1]? :=qbw (by omega)
@[simp] theorem qyd{α:Type}{ts:List α}:ixT ts 2=ts[2]? :=qbw (by omega)
@[simp] theorem qho:ixT ts (-1)=ts.getLast? :=by
 unfold ixT;rw[if_neg (by omega),List.getLast?_eq_getElem?];cases ts with
 |nil=>rfl
 |cons a l=>rw[if_pos (by simp;omega)];congr 1;simp;omega
theorem qv5{z:Str}(h:z.length<=1000):O2.g .ix O (.str z) (.int i)=(ixT z.cps.toList i).map λc=>.v (.str ⟨#[c]⟩):=by show(if z.length<=1000 then _ else _)=_;rw[if_pos h,qey]
@[simp] theorem qxJ:Bn.g .len O [.lst ts]=some (.v (.int ts.length)):=rfl
@[simp] theorem qxI:Bn.g .len O [.tup ts]=some (.v (.int ts.length)):=rfl
@[simp] theorem quA:Bn.g .len O [.scr ns]=some (.v (.int ns.length)):=by show some _=_;rw[List.length_map]
theorem qub{z:Str}(h:z.length<=100000):Bn.g .len O [.str z]=some (.v (.int z.length)):=by exact if_pos h
theorem qhM(h:O.l[k]? =some (.ls ts)):Bn.g .len O [.obj k]=some (.v (.int ts.length)):=by
 have e:qd3 O (.obj k)=some (true,ts):=by show sqv O (.obj k)=_;simp only[sqv,h]
 show qs6 O [.obj k]=_;simp only[qs6,e]
@[simp] theorem qxF:Bn.g .max O [.int i,.int j]=some (.v (.int (max i j))):=by
 show some _=_
 grind
@[simp] theorem qxE:Bn.g .min O [.int i,.int j]=some (.v (.int (min i j))):=by
 show some _=_
 grind
theorem qla(xs:List Bool):qez (xs.map T.bl)=some xs:=by
 induction xs with
 |nil=>rfl
 |cons x xs ih=>show(qez _).map _=_;rw[ih];rfl
@[simp] theorem qwN{bs:List Bool}:Bn.g .all O [.lst (bs.map T.bl)]=some (.v (.bl (bs.all id))):=by show((qez _)).map _=_;rw[qla];rfl
@[simp] theorem qxD:Bn.g .tup O [.lst ts]=some (.t ts):=rfl
@[simp] theorem qxC:Bn.g .tup O [.tup ts]=some (.v (.tup ts)):=rfl
@[simp] theorem qxH:Bn.g .lst O [.lst ts]=some (.l ts):=rfl
@[simp] theorem qxG:Bn.g .lst O [.tup ts]=some (.l ts):=rfl
@[simp] theorem qym{N:String}:qc7 N (.int i) O= .ok (.bl (qlk N "int")) O:=rfl
@[simp] theorem qyR{N:String}:qc7 N (.bl i) O= .ok (.bl (qlk N "bool")) O:=rfl
@[simp] theorem qyj{N:String}{i:Str}:qc7 N (.str i) O= .ok (.bl (qlk N "str")) O:=rfl
@[simp] theorem qyi{N:String}:qc7 N (.tup i) O= .ok (.bl (qlk N "tuple")) O:=rfl
@[simp] theorem qyl{N:String}:qc7 N (.lst i) O= .ok (.bl (qlk N "list")) O:=rfl
@[simp] theorem qyk{N:String}:qc7 N .non O= .ok (.bl (qlk N "NoneType")) O:=rfl
end
section
theorem qir:leave O (.ok t O)= .ok t O:=if_pos rfl
theorem qax{c:Fcd}{ts:List T}(hl:ts.length=c.n)(h:(runSs F c.b (ts.map some++List.replicate (c.N - c.n) none) O).bind outT= .ok t O):c.run F ts O= .ok t O:=by
 unfold Fcd.run fnR;rw[if_pos hl,h];unfold lv;split
 ·rfl
 ·exact qir
theorem qnQ(h:ub t<=n):fzT n l d t=some t:=by cases d<;>(unfold fzT;rw[if_pos h])
end
section
variable{F:Fs}{ρ:Ro}{O:Mu}
noncomputable def Its(O:Mu)(it:Ito)(ts:List T):Prop:=(∀i,nxt it O i=some ts[i]?)/\qca it O=ts.length
noncomputable def qdu(F:Fs)(ci:CI)(ρ:Ro)(O:Mu)(ts:List T):Prop:= ∃it,runI F ci ρ O= .ok it O/\Its O it ts
noncomputable def itv(O:Mu):T->Option (List T)
 |.lst ts=>some ts
 |.tup ts=>some ts
 |.obj k=>(match O.l[k]? with|some (.ls ts)=>some ts|_=>none)
 |.str z=>if z.length<=1000 then some (z.cps.toList.map λc=>.str ⟨#[c]⟩) else none
 |_=>none
@[simp] theorem qvW:itv O (.lst ts)=some ts:=rfl
@[simp] theorem qvV:itv O (.tup ts)=some ts:=rfl
theorem qdG:Its O (.fx ts) ts:=⟨λ_=>rfl,rfl⟩
theorem qsT(h:O.l[k]? =some (.ls ts)):Its O (.lv k) ts:=⟨λi=>by simp only[nxt,h],by simp only[qca,h]⟩
theorem qhq(he:qab F e ρ O= .ok t O)(ht:itv O t=some ts):qdu F (.gen e) ρ O ts:=by
 have e0:runI F (.gen e) ρ O=qq0 t O:=by show(qab F e ρ O).bind _=_;rw[he];rfl
 unfold qdu;rw[e0];cases t with
 |lst _|tup _=>cases ht;exact⟨_,rfl,qdG⟩
 |str z=>
  simp only[itv] at ht;split at ht
  ·rename_i hz;cases ht;exact⟨_,if_pos hz,qdG⟩
  ·cases ht
 |obj k=>
  simp only[itv] at ht;split at ht
  ·rename_i q;cases ht;exact⟨.lv k,by simp only[qq0,q],qsT q⟩
  ·cases ht
 |_=>cases ht
theorem qpF{n:Nat}(he:qab F e ρ O= .ok (.int n) O)(hn:n<=1000000):qdu F (.by_ .rng1 [e]) ρ O ((List.range n).map λk=>.int (k:Nat)):=by refine⟨.fx _,?_,qdG⟩;show(runA F [e] ρ O).bind (λts O=>qcp ts O)=_;simp only[qaf,qa5,he,qaa,qcp];rw[if_pos ⟨by omega,by omega⟩];rfl
theorem qsU(he:qab F e ρ O= .ok (.lst ts) O)(he':qab F e' ρ O= .ok (.lst us) O):qdu F (.by_ .zip [e,e']) ρ O (qod ts us):=by refine⟨.fx _,?_,qdG⟩;show(runA F _ ρ O).bind (λts O=>qhV ts O)=_;simp only[qaf,qa5,he,he',qaa,qhV]
section
variable{α:Type}{l:List α}{f:α->T}{p:α->Bool}{h:α->T}
theorem qes{dg:T->DS0 Ro}{dt:DS0 Bool}{de:DS0 T}{I:Ro->Prop}{it:Ito}(hn: ∀i,nxt it O i=some (l.map f)[i]?)(hs: ∀a∈l,∀ρ,I ρ->∃ρ',I ρ'/\dg (f a) ρ O= .ok ρ' O/\dt ρ' O= .ok (p a) O/\(p a=true->de ρ' O= .ok (h a) O)):
  ∀(n i:Nat)(ρ:Ro),l.length<=n+i->I ρ->qbk it dg dt de n i ρ O= .ok (((l.drop i).filter p).map h) O
 |0,i,ρ,hl,hI=>by have e:(l.map f)[i]? =none:=List.getElem?_eq_none_iff.mpr (by grind);simp only[qbk,hn,e];rw[List.drop_eq_nil_of_le (by omega)];rfl
 |n+1,i,ρ,hl,hI=>by
  simp only[qbk,hn];by_cases hi:i<l.length
  ·rw[List.getElem?_map,List.getElem?_eq_getElem hi];obtain⟨ρ',i1,e1,e2,e3⟩:=hs l[i] (List.getElem_mem hi) ρ hI;simp only[Option.map_some,e1,e2,qaa];rw[List.drop_eq_getElem_cons hi];cases q:p l[i] with
   |true=>rw[e3 q,qaa,qes hn hs n (i+1) ρ' (by omega) i1,List.filter_cons_of_pos q];rfl
   |false=>rw[if_neg (by decide),qes hn hs n (i+1) ρ' (by omega) i1,List.filter_cons_of_neg (by rw[q];decide)]
  ·rw[List.getElem?_eq_none_iff.mpr (by grind),List.drop_eq_nil_of_le (by omega)];rfl
theorem qhD{x:Bool}{n:Nat}{fr:List Nat}{g:CG}{ci:CI}{t:Option CE}{e:CE}{I:Ro->Prop}(hi:qdu F ci ρ O (l.map f))(h0:I (qa3 n fr ρ))(hs: ∀a∈l,∀ρ,I ρ->∃ρ',I ρ'/\runG g (f a) ρ O= .ok ρ' O/\runT F t ρ' O= .ok (p a) O/\(p a=true->qab F e ρ' O= .ok (h a) O)):
  qcA x n fr (runI F ci) (runG g) (runT F t) (qab F e) ρ O= .ok (.ls ((l.filter p).map h)) O:=by obtain⟨it,e1,hn,hl⟩:=hi;unfold qcA dSq;rw[e1,qaa];unfold qtX;rw[qhG,qes hn hs _ 0 _ (by grind) h0];cases x<;>rfl
theorem qn2(h:qcA x n fr (runI F ci) (runG g) (runT F t) (qab F e) ρ O= .ok (.ls ts) O):qab F (.comp false x n fr g ci t e) ρ O= .ok (.lst ts) O:=by show(qcA x n fr _ _ _ _ ρ O).bind _=_;rw[h];rfl
abbrev frO(fr:List Nat)(ρ:Ro):Ro:=fr.map λi=>(ρ[i]?).join
variable (l f p h)
theorem qtZ{x:Bool}{fr:List Nat}{ci:CI}{t:Option CE}{e:CE}(hi:qdu F ci ρ O (l.map f))(ht: ∀a∈l,runT F t (some (f a)::frO fr ρ) O= .ok (p a) O)(he: ∀a∈l,p a=true->qab F e (some (f a)::frO fr ρ) O= .ok (h a) O):
  qab F (.comp false x 1 fr (.n 0) ci t e) ρ O= .ok (.lst ((l.filter p).map h)) O:=
 qn2 (qhD (I:=λσ=> ∃y,σ=y::frO fr ρ) hi ⟨none,rfl⟩ (by rintro a ha σ ⟨y,e⟩;exact⟨_,⟨_,rfl⟩,by rw[e];rfl,ht a ha,he a ha⟩))
theorem qfy{x:Bool}{fr:List Nat}{ci:CI}{e:CE}(hi:qdu F ci ρ O (l.map f))(he: ∀a∈l,qab F e (some (f a)::frO fr ρ) O= .ok (h a) O):
  qab F (.comp false x 1 fr (.n 0) ci none e) ρ O= .ok (.lst (l.map h)) O:=by
 have:=qtZ l f _ h (x:=x) (t:=none) hi (λ_ _=>rfl) λa ha _=>he a ha
 rwa [List.filter_eq_self.mpr λ_ _=>rfl] at this
theorem qwB{x:Bool}{fr:List Nat}{ci:CI}{t:Option CE}{e:CE}{u v:α->T}(hi:qdu F ci ρ O (l.map λa=>.tup [u a,v a]))(ht: ∀a∈l,runT F t (some (u a)::some (v a)::frO fr ρ) O= .ok (p a) O)(he: ∀a∈l,p a=true->qab F e (some (u a)::some (v a)::frO fr ρ) O= .ok (h a) O):
  qab F (.comp false x 2 fr (.tup [.n 0,.n 1]) ci t e) ρ O= .ok (.lst ((l.filter p).map h)) O:=
 qn2 (qhD (I:=λσ=> ∃y z,σ=y::z::frO fr ρ) hi ⟨none,none,rfl⟩ (by rintro a ha σ ⟨y,z,e⟩;exact⟨_,⟨_,_,rfl⟩,by rw[e];rfl,ht a ha,he a ha⟩))
theorem qtY{x:Bool}{fr:List Nat}{ci:CI}{e:CE}{u v:α->T}(hi:qdu F ci ρ O (l.map λa=>.tup [u a,v a]))(he: ∀a∈l,qab F e (some (u a)::some (v a)::frO fr ρ) O= .ok (h a) O):
  qab F (.comp false x 2 fr (.tup [.n 0,.n 1]) ci none e) ρ O= .ok (.lst (l.map h)) O:=by
 have:=qwB l _ h (x:=x) (t:=none) hi (λ_ _=>rfl) λa ha _=>he a ha
 rwa [List.filter_eq_self.mpr λ_ _=>rfl] at this
end
@[simp] theorem qva:runT F none ρ O= .ok true O:=rfl
@[simp] theorem qoI:runT F (some e) ρ O=(qab F e ρ O).bind tbO:=rfl
noncomputable def qyq:Out->Option Ro
 |.nx ρ=>some ρ
 |.ct ρ=>some ρ
 |_=>none
theorem qkn{α:Type}{l:List α}{f:α->T}{dg:T->DS0 Ro}{db:DS0 Out}{it:Ito}(J:List α->Ro->Mu->Prop)(hn: ∀d r ρ O,l=d++r->J d ρ O->nxt it O d.length=some (r.map f)[0]?)(hs: ∀d a r,l=d++a::r->∀ρ O,J d ρ O->∃aw af o ah aA,dg (f a) ρ O= .ok aw af/\db aw af= .ok o ah/\qyq o=some aA/\J (d++[a]) aA ah):
  ∀(r d:List α)(n:Nat)(ρ:Ro)(O:Mu),l=d++r->r.length<=n->J d ρ O->∃ρ' μ',qhu it dg db n d.length ρ O= .ok (.nx ρ') μ'/\J l ρ' μ'
 |[],d,n,ρ,O,hl,hr,hJ=>by have e:=hn d [] ρ O hl hJ;refine⟨ρ,O,?_,by rw[hl,List.append_nil];exact hJ⟩;cases n<;>(simp only[qhu,e];rfl)
 |a::r,d,n,ρ,O,hl,hr,hJ=>by
  have e:=hn d (a::r) ρ O hl hJ;obtain⟨n,rfl⟩: ∃k,n=k+1:=⟨n - 1,by simp at hr;omega⟩
  obtain⟨aw,af,o,ah,aA,e1,e2,e3,j2⟩:=hs d a r hl ρ O hJ;obtain⟨ρ',μ',e4,j3⟩:=qkn J hn hs r (d++[a]) n aA ah (by rw[hl];simp) (by simpa using hr) j2;refine⟨ρ',μ',?_,j3⟩;rw[List.length_append] at e4;simp only[qhu,e,List.map_cons,List.getElem?_cons_zero,e1,e2,qaa];cases o with
  |nx _|ct _=>cases e3;exact e4
  |rt _|bk _=>cases e3
theorem qkm{α:Type}(l:List α)(f:α->T)(J:List α->Ro->Mu->Prop){g:CG}{ci:CI}{b:List CS}{β:Type}{k:Out->Mu->R β}{r:R β}{ts:List T}(ht:ts=l.map f)(hi: ∃it,runI F ci ρ O= .ok it O/\(it= .fx ts\/∃q,it= .lv q/\O.l[q]? =some (.ls ts)/\∀d ρ' μ',J d ρ' μ'->μ'.l[q]? =some (.ls ts)))(h0:J [] ρ O)(hs: ∀d a r,l=d++a::r->∀ρ O,J d ρ O->∃aA ah,((runG g (f a) ρ O).bind (runSs F b)= .ok (.nx aA) ah\/(runG g (f a) ρ O).bind (runSs F b)= .ok (.ct aA) ah)/\J (d++[a]) aA ah)(hk: ∀ρ' μ',J l ρ' μ'->k (.nx ρ') μ'=r):(qaC F (.for_ g ci b) ρ O).bind k=r:=by
 obtain⟨it,e1,e2⟩:=hi;subst ht;rw[qrJ,e1,qaa,qkp];have hlen:qca it O=l.length:=by
  rcases e2 with rfl|⟨q,rfl,hq,_⟩
  ·exact List.length_map ..
  ·simp only[qca,hq,List.length_map]
 obtain⟨ρ',μ',e3,j⟩:=qkn (l:=l) (f:=f) (it:=it) J (λd r ρ' μ' hl hJ=>by
  have:(l.map f)[d.length]? =(r.map f)[0]? :=by rw[hl];cases r<;>simp
  rcases e2 with rfl|⟨q,rfl,_,hq⟩
  ·show some (l.map f)[d.length]? =_;rw[this]
  ·simp only[nxt,hq d ρ' μ' hJ,this]) (λd a r hl ρ O hJ=>by
  obtain⟨aA,ah,e,j⟩:=hs d a r hl ρ O hJ;cases q:runG g (f a) ρ O with
  |ok aw af=>
   rw[q,qaa] at e
   rcases e with e|e<;>exact⟨aw,af,_,ah,aA,q,e,rfl,j⟩
  |no=>simp_all
  |ex c m=>simp_all) l [] (qca it O) ρ O rfl (by omega) h0
 simp_all
theorem qen{α:Type}(l:List α)(f:α->T)(J:List α->Ro->Mu->Prop){g:CG}{ci:CI}{b:List CS}{β:Type}{k:Out->Mu->R β}{r:R β}{ts:List T}(ht:ts=l.map f)(hi: ∃it,runI F ci ρ O= .ok it O/\(it= .fx ts\/∃q,it= .lv q/\O.l[q]? =some (.ls ts)/\∀d ρ' μ',J d ρ' μ'->μ'.l[q]? =some (.ls ts)))(h0:J [] ρ O)(hs: ∀d a r,l=d++a::r->∀ρ O,J d ρ O->∃aA ah,(runG g (f a) ρ O).bind (runSs F b)= .ok (.nx aA) ah/\J (d++[a]) aA ah)(hk: ∀ρ' μ',J l ρ' μ'->k (.nx ρ') μ'=r):(qaC F (.for_ g ci b) ρ O).bind k=r:=
 qkm l f J ht hi h0 (λd a r hl ρ O hJ=>by obtain⟨aA,ah,e,j⟩:=hs d a r hl ρ O hJ;exact⟨aA,ah,.inl e,j⟩) hk
theorem qs9{e:CE}{t:T}{ts:List T}(he:qab F e ρ O= .ok t O)(ht:t= .lst ts\/t= .tup ts){Q:Ito->Prop}: ∃it,runI F (.gen e) ρ O= .ok it O/\(it= .fx ts\/Q it):=by
 refine⟨.fx ts,?_,.inl rfl⟩;show(qab F e ρ O).bind _=_
 rcases ht with rfl|rfl<;>rw[he]<;>rfl
theorem qem{e:CE}{n:Nat}(he:qab F e ρ O= .ok (.int n) O)(hn:n<=1000000){Q:Ito->Prop}: ∃it,runI F (.by_ .rng1 [e]) ρ O= .ok it O/\(it= .fx ((List.range n).map λk=>.int (k:Nat))\/Q it):=by refine⟨.fx _,?_,.inl rfl⟩;show(runA F [e] ρ O).bind (λts O=>qcp ts O)=_;simp only[qaf,qa5,he,qaa,qcp];rw[if_pos ⟨by omega,by omega⟩];rfl
@[simp] theorem Mu.add_l{c:Ct}:(O.add c).l=O.l++[c]:=rfl
@[simp] theorem Mu.put_l{c:Ct}{k:Nat}:(O.put k c).l=O.l.set k c:=rfl
theorem Mu.add_k{c:Ct}(h:ubC c<=O.l.length):O.add c=⟨O.l++[c],O.k⟩:=by unfold Mu.add;rw[if_pos h]
theorem Mu.put_k{c:Ct}{k:Nat}(h:ubC c<=k):O.put k c=⟨O.l.set k c,O.k⟩:=by unfold Mu.put;rw[if_pos h]
theorem qcY{k:Nat}{c:Ct}(h:O.l[k]? =some c)(n:c≠.gone):O.live k=true:=by simp only[Mu.live,h]
theorem qls: ∀{ts:List T},(∀t∈ts,ub t=0)->ubs ts=0
 |[],_=>rfl
 |t::ts,h=>by unfold ubs;rw[h t List.mem_cons_self,qls λu hu=>h u (List.mem_cons_of_mem _ hu)];rfl
theorem qrg{κ:Type}: ∀{ts:List (κ×T)},(∀p∈ts,ub p.2=0)->ubf ts=0
 |[],_=>rfl
 |(k,t)::ts,h=>by unfold ubf;rw[h _ List.mem_cons_self,qrg λu hu=>h u (List.mem_cons_of_mem _ hu)];rfl
noncomputable def Mu.on(O:Mu)(c:Ct):Mu:=⟨O.l++[c],O.k⟩
theorem Mu.add_on{c:Ct}(h:ubC c=0):O.add c=O.on c:=Mu.add_k (by omega)
@[simp] theorem Mu.on_at{c:Ct}:(O.on c).l[O.l.length]? =some c:=by show(O.l++[c])[_]? =_;simp
theorem Mu.on_put{c c':Ct}(h:ubC c'=0):(O.on c).put O.l.length c'=O.on c':=by rw[Mu.put_k (by omega)];show Mu.mk _ _=_;simp[Mu.on]
theorem qrA{c:Fcd}{ts:List T}(hl:ts.length=c.n)(hk:c.kp=true)(h:(runSs F c.b (ts.map some++List.replicate (c.N - c.n) none) O).bind outT=r):c.run F ts O=r:=by unfold Fcd.run fnR;rw[if_pos hl,h];unfold lv;rw[hk,if_pos rfl]
end
abbrev Row:=Int×Str×Int
noncomputable def qaV(r:Row):T:=.tup [.int r.1,.str r.2.1,.int r.2.2]
abbrev keyOk:=PL.keyOk
abbrev rowOk:=PL.rowOk
noncomputable def qm6(ns:List Int)(k:Int):Int:=if k<(ns.length:Int) then ns.getD k.toNat 0 else if ns=[] then 0 else ns.getD (k % (ns.length:Int)).toNat 0*31+k
noncomputable def qcu(ns:List Int)(k:Int):Int:=(qm6 ns k+6151*(k+1))*40692 % 2147483399
noncomputable def qan(ns:List Int)(k many:Int):Int:=(qcu ns k*qcu ns k+qcu ns k / 31) % 2147483629 % many
theorem qaQ(h:0<many):0<=qan ns k many:=Int.emod_nonneg _ (by omega)
theorem qaM(h:0<many):qan ns k many<many:=Int.emod_lt_of_pos _ h
abbrev Oo:=CE.o2 false
abbrev Ci(i:Int):=CE.c (.int i)
abbrev Cs(i:Str):=CE.c (.str i)
abbrev vA0:=CE.v 0
abbrev vA1:=CE.v 1
abbrev vA2:=CE.v 2
abbrev vA3:=CE.v 3
abbrev vA4:=CE.v 4
abbrev v5:=CE.v 5
abbrev v6:=CE.v 6
abbrev v7:=CE.v 7
abbrev v8:=CE.v 8
abbrev v9:=CE.v 9
abbrev v10:=CE.v 10
abbrev v11:=CE.v 11
abbrev v12:=CE.v 12
abbrev v13:=CE.v 13
noncomputable def qfC:Fcd:=⟨false,2,2,[.ife (Oo .lt vA1 (.bn false .len [vA0])) [.ret (Oo .ix vA0 vA1)] [],.ife (Oo .eq vA0 (.lst false [])) [.ret (Ci 0)] [],.ret (Oo .add (Oo .mul (Oo .ix vA0 (Oo .mod vA1 (.bn false .len [vA0]))) (Ci 31)) vA1)]⟩
noncomputable def qkQ(c:Nat):Fcd:=⟨false,3,4,[.set 3 (Oo .mod (Oo .mul (Oo .add (.call c [vA0,vA1]) (Oo .mul (Ci 6151) (Oo .add vA1 (Ci 1)))) (Ci 40692)) (Ci 2147483399)),.ret (Oo .mod (Oo .mod (Oo .add (Oo .mul vA3 vA3) (Oo .div vA3 (Ci 31))) (Ci 2147483629)) vA2)]⟩
noncomputable def qkR(p:Nat):Fcd:=⟨false,2,5,[.set 2 (Cs "abcdefghijklmnopqrstuvwxyz"),.set 3 (.call p [vA0,vA1,(Ci 16)]),.ife (Oo .gt vA3 (Ci 0)) [.ret (Oo .ix (.lst false [(Cs "a"),(Cs "b"),(Cs "ab")]) (Oo .mod vA3 (Ci 3)))] [],.set 4 (Oo .ix vA2 (.call p [vA0,(Oo .add vA1 (Ci 1)),(Ci 26)])),.ife (Oo .eq (.call p [vA0,(Oo .add vA1 (Ci 2)),(Ci 2)]) (Ci 0)) [.ret vA4] [],.ret (Oo .add vA4 (Oo .ix vA2 (.call p [vA0,(Oo .add vA1 (Ci 3)),(Ci 26)])))]⟩
noncomputable def qcI(p:Nat):Fcd:=⟨false,3,3,[.ife (Oo .eq (.call p [vA0,vA1,(Ci 8)]) (Ci 0)) [.ret (Oo .sub (.call p [vA0,(Oo .add vA1 (Ci 1)),(Oo .add (Oo .mul (Ci 2) vA2) (Ci 1))]) vA2)] [],.ret (Oo .sub (.call p [vA0,(Oo .add vA1 (Ci 1)),(Ci 9)]) (Ci 4))]⟩
section
theorem qqz(h0:0<=k):qfC.run F [.scr ns,.int k] O= .ok (.int (qm6 ns k)) O:=by
 refine qax rfl ?_;unfold qm6;by_cases c1:k<(ns.length:Int)
 ·have e:ixT ns k=some (ns.getD k.toNat 0):=by rw[qbw h0,List.getElem?_eq_getElem (by omega),List.getD_eq_getElem?_getD,List.getElem?_eq_getElem (by omega)];rfl
  simp[qfC,c1,e]
 ·by_cases c2:ns=[]
  ·subst c2;have c1: ¬k<0:=by omega
   simp[qfC,c1]
  ·have hl:=List.length_pos_iff.mpr c2;have m0:0<=k % (ns.length:Int):=Int.emod_nonneg _ (by omega);have m1:k % (ns.length:Int)<(ns.length:Int):=Int.emod_lt_of_pos _ (by omega);have e:ixT ns (k % (ns.length:Int))=some (ns.getD (k % (ns.length:Int)).toNat 0):=by rw[qbw m0,List.getElem?_eq_getElem (by omega),List.getD_eq_getElem?_getD,List.getElem?_eq_getElem (by omega)];rfl
   simp[qfC,c1,c2,e,hl]
theorem qoT(hc:F c [.scr ns,.int k] O= .ok (.int (qm6 ns k)) O)(hm:0<m):(qkQ c).run F [.scr ns,.int k,.int m] O= .ok (.int (qan ns k m)) O:=by
 refine qax rfl ?_;have d0:0<=qcu ns k:=Int.emod_nonneg _ (by decide);have d1:qcu ns k<2147483399:=Int.emod_lt_of_pos _ (by decide);have d2: -4294967296<=qcu ns k/\qcu ns k<=4294967296:=⟨by omega,by omega⟩
 unfold qan;unfold qcu at*;simp[qkQ,hc,hm,d2]
structure Drw(F:Fs)(p:Nat)(ns:List Int):Prop where
 p: ∀{O:Mu}{k m:Int},0<=k->0<m->F p [.scr ns,.int k,.int m] O= .ok (.int (qan ns k m)) O
noncomputable def qpu:Str:= "abcdefghijklmnopqrstuvwxyz"
theorem qin: ∀i:Nat,i<26->qpu.cps.toList[i]? =some (97+i):=by decide+kernel
noncomputable def qbh(i:Int):Str:=⟨#[97+i.toNat]⟩
theorem qhs(h:0<=i/\i<26):O2.g .ix O (.str "abcdefghijklmnopqrstuvwxyz") (.int i)=some (.v (.str (qbh i))):=by rw[qv5 (by decide),qbw h.1];rw[show(Str.cps "abcdefghijklmnopqrstuvwxyz").toList[i.toNat]? =some _ from qin _ (by omega)];rfl
noncomputable def qnL(ns:List Int)(k:Int):Str:=
 if 0<qan ns k 16 then(([("a" :Str), "b", "ab"].getD (qan ns k 16 % 3).toNat "a"))
 else if qan ns (k+2) 2=0 then qbh (qan ns (k+1) 26) else qbh (qan ns (k+1) 26)++qbh (qan ns (k+3) 26)
noncomputable def qie(ns:List Int)(k most:Int):Int:=if qan ns k 8=0 then qan ns (k+1) (2*most+1) - most else qan ns (k+1) 9 - 4
theorem qsL(D:Drw F p ns)(h0:0<=k):(qkR p).run F [.scr ns,.int k] O= .ok (.str (qnL ns k)) O:=by
 refine qax rfl ?_;unfold qnL;have p0:=D.p (O:=O) (k:=k) (m:=16) h0 (by decide);have p1:=D.p (O:=O) (k:=k+1) (m:=26) (by omega) (by decide);have p2:=D.p (O:=O) (k:=k+2) (m:=2) (by omega) (by decide);have p3:=D.p (O:=O) (k:=k+3) (m:=26) (by omega) (by decide);have g1:=qhs (O:=O) ⟨qaQ (ns:=ns) (k:=k+1) (many:=26) (by decide),qaM (by decide)⟩;have g3:=qhs (O:=O) ⟨qaQ (ns:=ns) (k:=k+3) (many:=26) (by decide),qaM (by decide)⟩;have z: ∀i j:Int,(qbh i).length+(qbh j).length<=100000:=λ_ _=>by show 1+1<=100000;decide
 by_cases c:0<qan ns k 16
 ·have a0:0<=qan ns k 16 % 3:=by omega
  have a1:qan ns k 16 % 3<3:=by omega
  have e:ixT [T.str "a",.str "b",.str "ab"] (qan ns k 16 % 3)=some (.str ([("a" :Str), "b", "ab"].getD (qan ns k 16 % 3).toNat "a")):=by
   generalize qan ns k 16 % 3=v at*;rw[qbw a0];have:v=0\/v=1\/v=2:=by omega
   rcases this with rfl|rfl|rfl<;>rfl
  simp[qkR,p0,c,e]
 ·by_cases c2:qan ns (k+2) 2=0
  ·simp[qkR,p0,c,p1,p2,c2,g1]
  ·simp[qkR,p0,c,p1,p2,c2,g1,p3,g3,z]
theorem qpA(ns:List Int)(k:Int):keyOk (qnL ns k):=by
 unfold qnL;have b1:=qaQ (ns:=ns) (k:=k+1) (many:=26) (by decide);have b2:=qaM (ns:=ns) (k:=k+1) (many:=26) (by decide);have b3:=qaQ (ns:=ns) (k:=k+3) (many:=26) (by decide);have b4:=qaM (ns:=ns) (k:=k+3) (many:=26) (by decide);split
 ·have: ∀v:Nat,keyOk ([("a" :Str), "b", "ab"].getD v "a"):=λv=>by
   have a:keyOk "a" :=⟨by decide,λc hc=>by revert c;decide⟩
   have b:keyOk "b" :=⟨by decide,λc hc=>by revert c;decide⟩
   have d:keyOk "ab" :=⟨by decide,λc hc=>by revert c;decide⟩
   match v with
   |0=>exact a
   |1=>exact b
   |2=>exact d
   |_+3=>exact a
  exact this _
 ·split
  ·refine⟨⟨Vl 1,by show 1<=2;decide⟩,λc hc=> ?_⟩;have:c=97+(qan ns (k+1) 26).toNat:=by simpa [qbh] using hc
   omega
  ·refine⟨⟨by show 1<=2;decide,Vl 2⟩,λc hc=> ?_⟩;have hc:c∈[97+(qan ns (k+1) 26).toNat,97+(qan ns (k+3) 26).toNat]:=hc;simp at hc;omega
theorem qsy(D:Drw F p ns)(h0:0<=k)(hm:0<=most):(qcI p).run F [.scr ns,.int k,.int most] O= .ok (.int (qie ns k most)) O:=by
 refine qax rfl ?_;unfold qie;have p0:=D.p (O:=O) (k:=k) (m:=8) h0 (by decide);have p1:=D.p (O:=O) (k:=k+1) (m:=2*most+1) (by omega) (by omega);have p2:=D.p (O:=O) (k:=k+1) (m:=9) (by omega) (by decide);by_cases c:qan ns k 8=0
 ·simp[qcI,p0,p1,c]
 ·simp[qcI,p0,p2,c]
theorem qpi(hm:4<=most): -most<=qie ns k most/\qie ns k most<=most:=by
 unfold qie;have b1:=qaQ (ns:=ns) (k:=k+1) (many:=2*most+1) (by omega);have b2:=qaM (ns:=ns) (k:=k+1) (many:=2*most+1) (by omega);have b3:=qaQ (ns:=ns) (k:=k+1) (many:=9) (by decide);have b4:=qaM (ns:=ns) (k:=k+1) (many:=9) (by decide)
 split<;>omega
theorem qed(h:m.l[k]? =some (.ls ts)):qf2 m (.obj k)= "list" :=by
 have e:qf7 m (.obj k)=some ts:=by
  have:qd3 m (.obj k)=some (true,ts):=by show sqv m (.obj k)=_;simp only[sqv,h]
  simp only[qf7,this]
 unfold qf2;rw[e];rfl
theorem qhN(h:m.l[k]? =some (.ls ts))(hl:ts.length<=1000):nvR ow (Bm.g .append m [.obj k,x]) m= .ok .non (m.put k (.ls (ts++[x]))):=by
 have e:Bm.g .append m [.obj k,x]=some (.p k (.ls (ts++[x])) .non):=by show(qhc m _).bind _=_;simp only[qhc,h];exact if_pos hl
 rw[e,qut (qcY h (by simp))]
theorem qrh(r:Row):ub (qaV r)=0:=rfl
end
noncomputable def qkO:Fcd:=⟨false,1,1,[.ret (.and (.inst "int" vA0) (.nt (.inst "bool" vA0)))]⟩
noncomputable def qev(w:Nat):Fcd:=⟨false,3,3,[.ret (.and (.call w [vA0]) (.chain .le .le vA1 vA0 vA2))]⟩
noncomputable def qkN:Fcd:=⟨false,2,2,[.ife (.or (.nt (.inst "str" vA0)) (.nt (.chain .le .le (Ci 1) (.bn false .len [vA0]) vA1))) [.ret (.c (.bl false))] [],.ret (.bn false .all [(.comp false false 1 [] (.n 0) (.gen vA0) none (.chain .le .le (Cs "a") vA0 (Cs "z")))])]⟩
noncomputable def qgB(w:Nat):Fcd:=⟨false,1,1,[.ret (.call w [vA0,(Ci 2)])]⟩
noncomputable def qgz(w k:Nat):Fcd:=⟨false,1,1,[.ife (.or (.nt (.inst "tuple" vA0)) (Oo .ne (.bn false .len [vA0]) (Ci 3))) [.ret (.c (.bl false))] [],.ife (.or (.nt (.call w [(Oo .ix vA0 (Ci 0)),(Ci 0),(Ci 99)])) (.nt (.call k [(Oo .ix vA0 (Ci 1))]))) [.ret (.c (.bl false))] [],.ret (.call w [(Oo .ix vA0 (Ci 2)),(.neg (Ci 99)),(Ci 99)])]⟩
noncomputable def qgv(r:Nat):Fcd:=⟨false,1,1,[.ife (.nt (.bn false .all [(.comp false false 1 [] (.n 0) (.gen vA0) none (.call r [vA0]))])) [.raise "NoRow"] []]⟩
section
theorem qhO{O:Mu}{α:Type}{l:List α}{p:α->Bool}:Bn.g .all O [.lst (l.map λa=>.bl (p a))]=some (.v (.bl (l.all p))):=by
 have:(l.map λa=>T.bl (p a))=(l.map p).map T.bl:=by rw[List.map_map];rfl
 rw[this,qwN,List.all_map];rfl
theorem quB{α:Type}(l:List α):(l.all λ_=>true)=true:=List.all_eq_true.mpr λ_ _=>rfl
theorem qln:qkO.run F [.int i] O= .ok (.bl true) O:=qax rfl (rfl)
theorem qiM(h:F w [.int i] O= .ok (.bl true) O):(qev w).run F [.int i,.int a,.int b] O= .ok (.bl (decide (a<=i)&&decide (i<=b))) O:=by refine qax rfl ?_;by_cases c:a<=i<;>simp[qev,h,c]
theorem qoz(h:97<=c/\c<=122):qh1 ⟨#[c]⟩ "a" =false/\qh1 "z" ⟨#[c]⟩=false:=by
 have e1:("a" :Str).cps.toList=[97]:=rfl;have e2:("z" :Str).cps.toList=[122]:=rfl;have n1: ¬([c])<[97]:=by
  rw[List.cons_lt_cons_iff]
  grind
 have n2: ¬([122])<[c]:=by
  rw[List.cons_lt_cons_iff]
  grind
 constructor
 ·show decide _=_
  grind
 ·show decide _=_
  grind
theorem qoe{F:Fs}{O:Mu}{x:Str}(h:keyOk x):qkN.run F [.str x,.int 2] O= .ok (.bl true) O:=by
 have l1:(1:Int)<=x.length:=by have:=h.1.1;omega
 have l2:(x.length:Int)<=2:=by have:=h.1.2;omega
 have l3:x.length<=1000:=by omega
 refine qax rfl ?_;have cm:=qfy (F:=F) (O:=O) (ρ:=[some (.str x),some (.int 2)]) (x:=false) (fr:=[]) (ci:=.gen vA0) (e:=.chain .le .le (Cs "a") vA0 (Cs "z")) _ _ (λ_=>.bl true) (qhq (t:=.str x) (by simp) (if_pos l3)) λc hc=>by have:=qoz (h.2 c hc);simp[this]
 simp[qkN,qlk,l1,l2,qub (show x.length<=100000 by omega),cm,qhO]
theorem qmo{x:Str}(h:F w [.str x,.int 2] O= .ok (.bl true) O):(qgB w).run F [.str x] O= .ok (.bl true) O:=qax rfl (by simp[qgB,h])
theorem qmn(h:rowOk r)(hw: ∀i a b:Int,F w [.int i,.int a,.int b] O= .ok (.bl (decide (a<=i)&&decide (i<=b))) O)(hk: ∀x:Str,keyOk x->F k [.str x] O= .ok (.bl true) O):(qgz w k).run F [qaV r] O= .ok (.bl true) O:=by obtain⟨⟨h1,h2⟩,h3,h4,h5⟩:=h;exact qax rfl (by simp[qgz,qaV,qlk,hw,hk _ h3,h1,h2,h4,h5])
theorem ql7{F:Fs}{O:Mu}{r:Nat}{t:T}{rs:List Row}(ht:itv O t=some (rs.map qaV))(h: ∀x∈rs,rowOk x)(hr: ∀x:Row,rowOk x->F r [qaV x] O= .ok (.bl true) O):(qgv r).run F [t] O= .ok .non O:=by
 refine qax rfl ?_;have cm:=qfy (F:=F) (ρ:=[some t]) (x:=false) (fr:=[]) (ci:=.gen vA0) (e:=.call r [vA0]) rs _ (λ_=>.bl true) (qhq (by simp) ht) λx hx=>by simp[hr x (h x hx)]
 simp[qgv,cm,qhO]
end
theorem qam(h:qaC F s ρ O= .ok (.nx ρ') μ')(h':(runSs F ss ρ' μ').bind k=r):(runSs F (s::ss) ρ O).bind k=r:=by simp_all
theorem qlw(h:qaC F s ρ O= .ok (.rt t) μ'):(runSs F (s::ss) ρ O).bind outT= .ok t μ':=by simp_all
theorem qfl{α:Type}(l:List α)(f:α->T)(J:List α->Ro->Mu->Prop)(ht:ts=l.map f)(hi: ∃it,runI F ci ρ O= .ok it O/\(it= .fx ts\/∃q,it= .lv q/\O.l[q]? =some (.ls ts)/\∀d ρ' μ',J d ρ' μ'->μ'.l[q]? =some (.ls ts)))(h0:J [] ρ O)(hs: ∀d a r,l=d++a::r->∀ρ O,J d ρ O->∃aA ah,(runG g (f a) ρ O).bind (runSs F b)= .ok (.nx aA) ah/\J (d++[a]) aA ah): ∃ρ' μ',qaC F (.for_ g ci b) ρ O= .ok (.nx ρ') μ'/\J l ρ' μ':=by
 refine Classical.byContradiction λhc=> ?_;cases q:qaC F (.for_ g ci b) ρ O with
 |no=>
  have:=qen (k:=λ_ m=>R.ok () ⟨[],[]⟩) l f J ht hi h0 hs (λρ' μ' j=>rfl)
  simp_all
 |ex c m=>
  have:=qen (k:=λ_ m=>R.ok () ⟨[],[]⟩) l f J ht hi h0 hs (λρ' μ' j=>rfl)
  simp_all
 |ok o m=>
  have:=qen (k:=λo m=>match o with|.nx ρ'=>(open Classical in if J l ρ' m then R.ok () ⟨[],[]⟩ else R.no)|_=>R.no) (r:=R.ok () ⟨[],[]⟩) l f J ht hi h0 hs (λρ' μ' j=>by simp[j]);rw[q] at this;cases o with
  |nx ρ'=>
   simp_all
  |_=>cases this
structure Sto(O m:Mu)(cs:List Ct):Prop where
 l:m.l=O.l++cs
 k: ∃ks,m.k=ks++O.k/\∀p∈ks,O.l.length<=p.1
namespace Sto
end Sto
section
theorem qrt(h:O.l[k]? =some (.ls ts)):sqv O (.obj k)=some (true,ts):=by simp only[sqv,h]
theorem qpm(h:O.l[k]? =some (.dk ts)):qf2 O (.obj k)= "dict" :=by
 have e:qf7 O (.obj k)=none:=by
  have:qd3 O (.obj k)=none:=by show sqv O (.obj k)=_;simp only[sqv,h]
  simp only[qf7,this]
 have e2:dkO O (.obj k)=some ts:=by simp only[dkO,h]
 unfold qf2;rw[e,e2];rfl
theorem qyG(h:xs.length+ys.length<=900):nvR false (O2.g .add O (.tup xs) (.tup ys)) O= .ok (.tup (xs++ys)) O:=by
 cases xs with
 |nil=>rfl
 |cons x xs=>
  cases ys with
  |nil=>rw[qpK,if_pos (by simp at h;omega)];simp
  |cons y ys=>rw[qs3,if_pos (by simp at h;omega)];rfl
@[simp] theorem quu:qf7 O (.lst ts)=some ts:=rfl
end
end NV
namespace Wk
open PySem NV L2
theorem quI{g:Gx}{cds:List (Nat×Fcd)}(ok:(cds.map λp=>(g.fs[p.1]?).map (cFn g))=cds.map λp=>some p.2){j i:Nat}{c:Fcd}(h:cds[j]? =some (i,c))(k:Nat):TTf g (k+1) i=c.run (TTf g k):=by have e:=congrArg (λl=>l[j]?) ok;simp only[List.getElem?_map,h,Option.map_some] at e;obtain⟨p,e1,e2⟩:=Option.map_eq_some_iff.mp (Option.some.inj e);show(match g.fs[i]? with|some p=>(cFn g p).run _|none=>λ_ _=>.no)=_;rw[e1,<-e2]
section
theorem kd(a k:Str):decide ((Sum.inr a:Key)= .inr k)=decide (a=k):=decide_eq_decide.mpr ⟨λh=>by injection h,λh=>by rw[h]⟩
theorem qa2{O:Mu}{c:Fcd}{ts:List T}{m:Mu}(hl:ts.length=c.n)(h:(runSs F c.b (ts.map some++List.replicate (c.N - c.n) none) O).bind outT= .ok t m)(hm:m.l.length=O.l.length):c.run F ts O= .ok t m:=by
 unfold Fcd.run fnR;rw[if_pos hl,h];unfold NV.lv;split
 ·rfl
 ·exact if_pos hm
inductive Sp where
 |key (y:Str)|over (n:Int)|under (n:Int)|plus (n:Int)|times (n:Int)
 |first(n:Int)|each (n:Int)|window (n:Int)|running|change|unlike
noncomputable def Sp.T:Sp->T
 |.key y=>.tup [.str "key",.str y]
 |.over n=>.tup [.str "over",.int n]
 |.under n=>.tup [.str "under",.int n]
 |.plus n=>.tup [.str "plus",.int n]
 |.times n=>.tup [.str "times",.int n]
 |.first n=>.tup [.str "first",.int n]
 |.each n=>.tup [.str "each",.int n]
 |.window n=>.tup [.str "window",.int n]
 |.running=>.tup [.str "running"]
 |.change=>.tup [.str "change"]
 |.unlike=>.tup [.str "unlike"]
theorem qcn(h:qab F e ρ O= .ok t μ'):(runSs F (.ret e::ss) ρ O).bind outT= .ok t μ':=qlw (by rw[qa7,h];rfl)
theorem qb3(h:qab F e ρ O= .ok (.bl true) O):qaC F (.ife e a b) ρ O=runSs F a ρ O:=by rw[qi9,h];rfl
theorem qg2(h:qab F e ρ O= .ok (.bl false) O):qaC F (.ife e a b) ρ O=runSs F b ρ O:=by rw[qi9,h];rfl
theorem qbR(h:qab F e ρ O= .ok (.bl true) O)(h2:runSs F a ρ O= .ok (.rt t) μ'):(runSs F (.ife e a b::ss) ρ O).bind outT= .ok t μ':=qlw (by rw[qb3 h,h2])
theorem qal(h:qab F e ρ O= .ok (.bl false) O)(h2:(runSs F ss ρ O).bind outT= .ok t μ'):(runSs F (.ife e a []::ss) ρ O).bind outT= .ok t μ':=qam (by rw[qg2 h];rfl) h2
theorem qnq(rs:List Row):ub (.lst (rs.map qaV))=0:=qls λt ht=>by obtain⟨r,_,rfl⟩:=List.mem_map.mp ht;exact qrh r
abbrev Ris(rs:List Row):Prop:=rs.Pairwise λa b=>a.1<=b.1
section
theorem qaT{m c:Str}(ho:qab F o ρ O= .ok (.obj k) O)(hk:O.l[k]? =some (.ins c fs))(hi:ms.lookup c=some i)(hn:fs.lookup m=none):qab F (.mth ms m o es) ρ O=(runA F es ρ O).bind λts O=>F i (.obj k::ts) O:=by show qiA _ _ _ _ ρ O=_;unfold qiA dSq;rw[ho,qaa];simp only[qsW,hk,hi,hn,Option.map_some,Option.isNone_none,if_true]
theorem qpV{cs:List Str}{f c:Str}(hk:O.l[k]? =some (.ins c fs))(hc:cs.contains c=true)(hf:fs.lookup f=some t):qnS (λc _=>cs.contains c) f (.obj k) O= .ok t O:=by simp only[qnS,hk,hf];rw[if_pos hc]
theorem qbj{cs:List Str}{f c:Str}(hk:O.l[k]? =some (.ins c fs))(hc:cs.contains c=true)(hl:fs.length<1000):qte (λc _=>cs.contains c) f t (.obj k) O= .ok () (O.put k (.ins c (qqX f t fs))):=by simp only[qte,hk];simp_all
end
noncomputable def qgA:Fcd:=⟨false,1,1,[.ret (.bn false .all [(.comp false false 2 [] (.tup [(.n 0),(.n 1)]) (.by_ .zip [vA0,(.sl false vA0 (some (Ci 1)) none)]) none (Oo .le (Oo .ix vA0 (Ci 0)) (Oo .ix vA1 (Ci 0))))])]⟩
noncomputable def qgu(l:Nat):Fcd:=⟨false,1,1,[.ife (.nt (.call l [vA0])) [.raise "TooLate"] []]⟩
noncomputable def qgw(r o:Nat):Fcd:=⟨false,1,1,[.exp (.call r [vA0]),.exp (.call o [vA0])]⟩
noncomputable def qgb(rs:List Row):Bool:=(rs.zip (rs.drop 1)).all λp=>decide (p.1.1<=p.2.1)
theorem qff: ∀{rs:List Row},Ris rs->qgb rs=true
 |[],_=>rfl
 |[_],_=>rfl
 |a::b::rs,h=>by have h1:=List.pairwise_cons.mp h;have:=qff h1.2;unfold qgb at*;simp only[List.drop_succ_cons,List.drop_zero,List.zip_cons_cons,List.all_cons,Bool.and_eq_true,decide_eq_true_eq] at*;exact⟨h1.1 b Vj,this⟩
theorem qrw(h:qf7 O t=some ts):gSl O t (some 1) none=some (.l (ts.drop 1)):=by
 have e:qtW ts (some 1) none=ts.drop 1:=by
  unfold qtW;rw[HT.sIx_none,show(some 1)=some ((1:Nat):Int) from rfl,HT.sIx_nat];cases ts with
  |nil=>rfl
  |cons x ts=>simp
 have e2:=by
  unfold qf7 at h;split at h
  ·rename_i q;cases h;exact q
  ·cases h
 unfold gSl
 simp_all
theorem qml(hl:rs.length<=900):qgA.run F [.lst (rs.map qaV)] O= .ok (.bl (qgb rs)) O:=by
 refine qax rfl ?_;have sl:qab F (.sl false vA0 (some (Ci 1)) none) [some (.lst (rs.map qaV))] O= .ok (.lst ((rs.drop 1).map qaV)) O:=by rw[List.map_drop];show nvR false (gSl O (.lst _) _ _) O=_;rw[qrw rfl];rfl
 have z:=by have:=qsU (e:=.v 0) rfl sl;unfold qod at this;rw[List.zip_map,List.map_map] at this;exact this
 have cm:=qtY (x:=false) (fr:=[]) (e:=Oo .le (Oo .ix vA0 (Ci 0)) (Oo .ix vA1 (Ci 0))) _ (λp=>.bl (decide _)) z λp _=>rfl;simp[qgA,cm,qhO,qgb]
theorem ql2(h:F l [t] O= .ok (.bl true) O):(qgu l).run F [t] O= .ok .non O:=qax rfl (by simp[qgu,h])
theorem ql5(h:F r [t] O= .ok .non O)(h':F o [t] O= .ok .non O):(qgw r o).run F [t] O= .ok .non O:=qax rfl (by simp[qgw,h,h'])
noncomputable def Sp.fine:Sp->Prop
 |.key y=>keyOk y
 |.over n|.under n|.plus n|.times n=> -20<=n/\n<=20
 |.first n|.each n|.window n=>1<=n/\n<=20
 |_=>True
noncomputable def qn4(k w:Nat):Fcd:=⟨false,1,2,[.ife (.or (.nt (.inst "tuple" vA0)) (.or (Oo .eq (.bn false .len [vA0]) (Ci 0)) (.nt (.inst "str" (Oo .ix vA0 (Ci 0)))))) [.ret (.c (.bl false))] [],.set 1 (Oo .ix vA0 (Ci 0)),.ife (.topin false [("running", "running"),("change", "change"),("unlike", "unlike")] vA1) [.ret (Oo .eq (.bn false .len [vA0]) (Ci 1))] [],.ife (Oo .ne (.bn false .len [vA0]) (Ci 2)) [.ret (.c (.bl false))] [],.ife (Oo .eq vA1 (Cs "key")) [.ret (.call k [(Oo .ix vA0 (Ci 1))])] [],.ife (.topin false [("over", "over"),("under", "under"),("plus", "plus"),("times", "times")] vA1) [.ret (.call w [(Oo .ix vA0 (Ci 1)),(.neg (Ci 20)),(Ci 20)])] [],.ret (.and (.topin false [("first", "first"),("each", "each"),("window", "window")] vA1) (.call w [(Oo .ix vA0 (Ci 1)),(Ci 1),(Ci 20)]))]⟩
noncomputable def qkS(s:Nat):Fcd:=⟨false,1,1,[.ife (.or (.nt (.inst "tuple" vA0)) (Oo .gt (.bn false .len [vA0]) (Ci 5))) [.ret (.c (.bl false))] [],.ret (.bn false .all [(.comp false false 1 [] (.n 0) (.gen vA0) none (.call s [vA0]))])]⟩
noncomputable def qgx(a:Nat):Fcd:=⟨false,1,1,[.ife (.nt (.call a [vA0])) [.raise "NoAsk"] []]⟩
theorem qou{k w:Nat}{p:Sp}(h:p.fine)(hw: ∀i a b:Int,F w [.int i,.int a,.int b] O= .ok (.bl (decide (a<=i)&&decide (i<=b))) O)(hk: ∀x:Str,keyOk x->F k [.str x] O= .ok (.bl true) O):(qn4 k w).run F [p.T] O= .ok (.bl true) O:=by
 have num: ∀{a b i:Int},a<=i/\i<=b->F w [.int i,.int a,.int b] O= .ok (.bl true) O:=λ{a b i} q=>by rw[hw,decide_eq_true q.1,decide_eq_true q.2];rfl
 refine qax rfl ?_;cases p with
 |key y=>exact qal rfl (qam rfl (qal rfl (qal rfl (qbR rfl (by rw[qag,qa7,qa4];show R.bind (R.bind (F k [.str y] O) _) _=_;rw[hk y h];rfl)))))
 |over n|under n|plus n|times n=>exact qal rfl (qam rfl (qal rfl (qal rfl (qal rfl (qbR rfl (by rw[qag,qa7,qa4];show R.bind (R.bind (F w [.int n,.int (-20),.int 20] O) _) _=_;rw[num h];rfl))))))
 |first n|each n|window n=>exact qal rfl (qam rfl (qal rfl (qal rfl (qal rfl (qal rfl (qcn (show F w [.int n,.int 1,.int 20] O=_ from num h)))))))
 |running|change|unlike=>exact qal rfl (qam rfl (qbR rfl rfl))
theorem qud{s:Nat}{ps:List Sp}(hl:ps.length<=5)(h: ∀p∈ps,F s [p.T] O= .ok (.bl true) O):(qkS s).run F [.tup (ps.map Sp.T)] O= .ok (.bl true) O:=by
 refine qax rfl ?_;have cm:=qfy (F:=F) (O:=O) (ρ:=[some (.tup (ps.map Sp.T))]) (x:=false) (fr:=[]) (ci:=.gen vA0) (e:=.call s [vA0]) ps Sp.T (λ_=>.bl true) (qhq (t:=.tup _) (by simp) rfl) λx hx=>by simp[h x hx]
 change (runSs F _ [some _] O).bind _=_
 refine qal ?_ (qcn (by rw[qbJ,qaf,cm];simp[qhO]));have: ¬(5:Int)<ps.length:=by omega
 have gi:qc7 "tuple" (.tup (ps.map Sp.T)) O= .ok (.bl true) O:=rfl;simp[this,gi]
theorem ql6(h:F a [t] O= .ok (.bl true) O):(qgx a).run F [t] O= .ok .non O:=qax rfl (by simp[qgx,h])
end
end Wk
namespace Dk
open PySem NV L2 Wk
abbrev As:=List (Str×NV.T)
abbrev St3:=Str×List Row×As
noncomputable def asT(a:As):NV.T:=.dct (a.map λp=>((.inr p.1:Key),p.2))
noncomputable def qbg(l:List Row):NV.T:=.lst (l.map qaV)
noncomputable def stT(s:St3):NV.T:=.tup [.str s.1,qbg s.2.1,asT s.2.2]
structure Dsk where
 log:List Row
 asks:As
 past:List St3
 coming:List St3
abbrev fD(d:Dsk)(p c:Nat):List (Str×NV.T):=[("log",qbg d.log),("asks",asT d.asks),("past",.obj p),("coming",.obj c)]
structure DS(O:Mu)(x p c:Nat)(d:Dsk):Prop where
 ins:O.l[x]? =some (.ins "Desk" (fD d p c))
 ps:O.l[p]? =some (.ls (d.past.map stT))
 cm:O.l[c]? =some (.ls (d.coming.map stT))
 ne:x≠p/\x≠c/\p≠c
 ua: ∀q∈d.asks,ub q.2=0
 up: ∀s∈d.past,∀q∈s.2.2,ub q.2=0
 uc: ∀s∈d.coming,∀q∈s.2.2,ub q.2=0
structure On(O μ':Mu)(x p c:Nat):Prop where
 len:μ'.l.length=O.l.length
 old: ∀j,j≠x->j≠p->j≠c->μ'.l[j]? =O.l[j]?
 kk: ∃ks,μ'.k=ks++O.k/\∀q∈ks,q.2<=max p c+1
theorem qok: ∀{a:As},(∀q∈a,ub q.2=0)->ub (asT a)=0
 |[],_=>rfl
 |q::a,h=>by
  have ih:=qok λr hr=>h r (Vk _ hr);show max _ (ub (asT a))=0
  simp_all
theorem qgL{ss:List St3}(h: ∀s∈ss,∀q∈s.2.2,ub q.2=0):ubC (.ls (ss.map stT))=0:=qls λt ht=>by obtain⟨s,hs,rfl⟩:=List.mem_map.mp ht;show max 0 (max _ (max _ 0))=0;rw[qok (h s hs),show ub (qbg _)=0 from qnq _];rfl
section
theorem On.refl:On O O x p c:=⟨rfl,λ_ _ _ _=>rfl,[],rfl,λ_ h=>nomatch h⟩
theorem On.trans(a:On O af x p c)(b:On af ah x p c):On O ah x p c:=⟨b.len.trans a.len,λj h1 h2 h3=>(b.old j h1 h2 h3).trans (a.old j h1 h2 h3),by
 obtain⟨k1,e1,q1⟩:=a.kk;obtain⟨k2,e2,q2⟩:=b.kk;refine⟨k2++k1,by simp_all,λq hq=> ?_⟩
 rcases List.mem_append.mp hq with h|h
 ·exact q2 q h
 ·exact q1 q h⟩
theorem qdw{O:Mu}{k:Nat}(h:O.l[k]? =some e):(O.put k f).l[k]? =some f:=by rw[Mu.put_l,List.getElem?_set_self (List.getElem?_eq_some_iff.mp h).1]
theorem qaL{O:Mu}{k j:Nat}(h:k≠j):(O.put k f).l[j]? =O.l[j]? :=by
 simp_all
theorem qjb{O:Mu}{k n:Nat}(h:ubC f<=n): ∃ks,(O.put k f).k=ks++O.k/\∀q∈ks,q.2<=n:=by
 unfold Mu.put;by_cases q:ubC f<=k
 ·simp_all
 ·exact⟨[(k,ubC f)],by simp[q],λr hr=>by simp_all⟩
theorem ubI(ha: ∀q∈a,ub q.2=0):ubC (.ins "Desk" (fD ⟨l,a,ss,tt⟩ p c))<=max p c+1:=by show max _ (max _ (max (p+1) (max (c+1) 0)))<=_;rw[qok ha,show ub (qbg l)=0 from qnq l];omega
theorem DS.put{O:Mu}{d:Dsk}(h:DS O x p c d)(l:List Row)(ha: ∀q∈a,ub q.2=0):DS (O.put x (.ins "Desk" (fD ⟨l,a,d.past,d.coming⟩ p c))) x p c ⟨l,a,d.past,d.coming⟩/\On O (O.put x (.ins "Desk" (fD ⟨l,a,d.past,d.coming⟩ p c))) x p c:=
 ⟨⟨qdw h.ins,(qaL h.ne.1).trans h.ps,(qaL h.ne.2.1).trans h.cm,h.ne,ha,h.up,h.uc⟩,⟨by simp,λj h1 _ _=>qaL (Ne.symm h1),qjb (ubI ha)⟩⟩
theorem DS.putP{O:Mu}(h:DS O x p c d){s:List St3}(hs: ∀y∈s,∀q∈y.2.2,ub q.2=0):DS (O.put p (.ls (s.map stT))) x p c { d with past:=s }/\On O (O.put p (.ls (s.map stT))) x p c:=
 ⟨⟨(qaL h.ne.1.symm).trans h.ins,qdw h.ps,(qaL h.ne.2.2).trans h.cm,h.ne,h.ua,hs,h.uc⟩,⟨by simp,λj _ h2 _=>qaL (Ne.symm h2),qjb (by rw[qgL hs];exact Nat.zero_le _)⟩⟩
theorem DS.putC{O:Mu}(h:DS O x p c d){s:List St3}(hs: ∀y∈s,∀q∈y.2.2,ub q.2=0):DS (O.put c (.ls (s.map stT))) x p c { d with coming:=s }/\On O (O.put c (.ls (s.map stT))) x p c:=
 ⟨⟨(qaL h.ne.2.1.symm).trans h.ins,(qaL h.ne.2.2.symm).trans h.ps,qdw h.cm,h.ne,h.ua,h.up,hs⟩,⟨by simp,λj _ _ h3=>qaL (Ne.symm h3),qjb (by rw[qgL hs];exact Nat.zero_le _)⟩⟩
theorem qea{s:St3}(h: ∀y∈ss,∀q∈y.2.2,ub q.2=0)(h': ∀q∈s.2.2,ub q.2=0): ∀y∈ss++[s],∀q∈y.2.2,ub q.2=0:=λy hy=>by
 rcases List.mem_append.mp hy with z|z
 ·exact h y z
 ·rw[List.mem_singleton.mp z];exact h'
noncomputable def qqA:Fcd:=⟨false,4,4,[.exp (.bm false .append (.fld ["Desk"] "past" vA0) [(.tup [vA1,(.fld ["Desk"] "log" vA0),(.fld ["Desk"] "asks" vA0)])]),.exp (.alt (.bm false .clear (.fld ["Desk"] "coming" vA0) []) (.bm false .dclear (.fld ["Desk"] "coming" vA0) [])),.fld ["Desk"] "log" vA0 vA2,.fld ["Desk"] "asks" vA0 vA3]⟩
theorem flI{f:Str}(h:O.l[x]? =some (.ins "Desk" (fD d p c)))(h0:ρ[0]? =some (some (.obj x)))(hf:(fD d p c).lookup f=some t):qab F (.fld ["Desk"] f vA0) ρ O= .ok t O:=by rw[qrK,qlJ,h0,qeg,qaa];exact qpV h rfl hf
theorem fl{f:Str}(h:DS O x p c d)(h0:ρ[0]? =some (some (.obj x)))(hf:(fD d p c).lookup f=some t):qab F (.fld ["Desk"] f vA0) ρ O= .ok t O:=flI h.ins h0 hf
theorem qqI(h:m.l[k]? =some (.ls ts)):nvR ow (Bm.g .clear m [.obj k]) m= .ok .non (m.put k (.ls [])):=by
 have e:Bm.g .clear m [.obj k]=some (.p k (.ls []) .non):=by show(qhc m _).map _=_;simp[qhc,h]
 rw[e,qut (qcY h (by simp))]
theorem qwM(h:m.l[k]? =some (.ls (ts++[z]))):nvR ow (Bm.g .pop m [.obj k]) m= .ok z (m.put k (.ls ts)):=by
 have e:Bm.g .pop m [.obj k]=some (.p k (.ls ts) z):=by show(qhc m _).bind _=_;simp[qhc,h]
 rw[e,qut (qcY h (by simp))]
theorem qtx{d:Dsk}{w:Str}(h:DS O x p c d)(ha: ∀q∈a,ub q.2=0)(hl:d.past.length<=900): ∃μ',qqA.run F [.obj x,.str w,qbg l,asT a] O= .ok .non μ'/\DS μ' x p c ⟨l,a,d.past++[(w,d.log,d.asks)],[]⟩/\On O μ' x p c:=by
 obtain⟨h1,o1⟩:=h.putP (s:=d.past++[(w,d.log,d.asks)]) (qea h.up h.ua);obtain⟨h2,o2⟩:=h1.putC (s:=[]) (λ_ h=>nomatch h);obtain⟨h3,o3⟩:=h2.put l h.ua;obtain⟨h4,o4⟩:=h3.put l ha;refine⟨_,qa2 rfl (qam (ρ':=[some (.obj x),some (.str w),some (qbg l),some (asT a)]) (μ':=O.put p (.ls ((d.past++[(w,d.log,d.asks)]).map stT))) ?_ (qam (ρ':=[some (.obj x),some (.str w),some (qbg l),some (asT a)]) (μ':=(O.put p (.ls ((d.past++[(w,d.log,d.asks)]).map stT))).put c (.ls (([]:List St3).map stT))) ?_ (qam (ρ':=[some (.obj x),some (.str w),some (qbg l),some (asT a)]) (μ':=((O.put p (.ls ((d.past++[(w,d.log,d.asks)]).map stT))).put c (.ls (([]:List St3).map stT))).put x (.ins "Desk" (fD ⟨l,d.asks,d.past++[(w,d.log,d.asks)],[]⟩ p c))) ?_ (qam (ρ':=[some (.obj x),some (.str w),some (qbg l),some (asT a)]) ?_ rfl)))) ?_,h4,o1.trans (o2.trans (o3.trans o4))⟩
 ·change qaC F (.exp (.bm false .append (.fld ["Desk"] "past" vA0) _)) [some (.obj x),some (.str w),some (qbg l),some (asT a)] O=_
  rw[qbn,qh8,fl h rfl rfl,qaa,if_pos (show qf2 O (.obj p)=Bm.ty .append from qed h.ps),qaf,qbo,qaf,qlJ];simp only[List.getElem?_cons_succ,List.getElem?_cons_zero,qeg,qaa];rw[qaf,fl h rfl rfl,qaa,qaf,fl h rfl rfl];simp only[qaa,qa5];rw[if_pos (by simp),qaa,qaa,qhN h.ps (by rw[List.length_map];omega),List.map_append];rfl
 ·rw[qbn,qja (t:=.non) (m:=(O.put p (.ls ((d.past++[(w,d.log,d.asks)]).map stT))).put c (.ls []))]
  ·rfl
  ·rw[qh8,fl h1 rfl rfl,qaa,if_pos (show qf2 _ (.obj c)=Bm.ty .clear from qed h1.cm),qa5,qaa,qqI h1.cm]
 ·change qaC F (.fld ["Desk"] "log" vA0 vA2) [some (.obj x),some (.str w),some (qbg l),some (asT a)] _=_
  rw[qb4];show R.bind (R.ok (qbg l) _) _=_;rw[qaa];show R.bind (R.ok (NV.T.obj x) _) _=_;rw[qaa,qbj h2.ins rfl (by show 4<1000;decide)];rfl
 ·change qaC F (.fld ["Desk"] "asks" vA0 vA3) [some (.obj x),some (.str w),some (qbg l),some (asT a)] _=_
  rw[qb4];show R.bind (R.ok (asT a) _) _=_;rw[qaa];show R.bind (R.ok (NV.T.obj x) _) _=_;rw[qaa,qbj h3.ins rfl (by show 4<1000;decide)];rfl
 ·simp
noncomputable def qdt:Fcd:=⟨false,3,4,[.ife (Oo .eq (.bn false .len [vA1]) (Ci 0)) [.raise "NoBack"] [],.set 3 (.alt (.bm false .pop vA1 []) (.bm false .dpop vA1 [])),.exp (.bm false .append vA2 [(.tup [(Oo .ix vA3 (Ci 0)),(.fld ["Desk"] "log" vA0),(.fld ["Desk"] "asks" vA0)])]),.fld ["Desk"] "log" vA0 (Oo .ix vA3 (Ci 1)),.fld ["Desk"] "asks" vA0 (Oo .ix vA3 (Ci 2)),.ret (Oo .ix vA3 (Ci 0))]⟩
theorem qt7(h:O.l[q]? =some (.ls [])):qdt.run F [.obj x,.obj q,.obj r] O= .ex "NoBack" O:=by
 have e:qaC F (.ife (Oo .eq (.bn false .len [vA1]) (Ci 0)) [.raise "NoBack"] []) [some (.obj x),some (.obj q),some (.obj r),none] O= .ex "NoBack" O:=by
  rw[qb3]
  ·rfl
  ·simp[qhM h]
 change lv false O ((runSs F _ [some _,some _,some _,none] O).bind _)=_
 rw[show qdt.b=_::_ from rfl,qag,e];show leave O (.ex _ O)=_;unfold leave;simp
theorem qkZ{O:Mu}{d:Dsk}{q r:Nat}{s:St3}{ss tt:List St3}(hx:O.l[x]? =some (.ins "Desk" (fD d p c)))(hq:O.l[q]? =some (.ls ((ss++[s]).map stT)))(hr:O.l[r]? =some (.ls (tt.map stT)))(xq:x≠q)(xr:x≠r)(qr:q≠r)(hl:tt.length<=900):
  qdt.run F [.obj x,.obj q,.obj r] O= .ok (.str s.1) ((((O.put q (.ls (ss.map stT))).put r (.ls ((tt++[(s.1,d.log,d.asks)]).map stT))).put x (.ins "Desk" (fD ⟨s.2.1,d.asks,[],[]⟩ p c))).put x (.ins "Desk" (fD ⟨s.2.1,s.2.2,[],[]⟩ p c))):=by
 have ln: ¬((ss++[s]).length:Int)=0:=by simp;omega
 let jq:Ro:=[some (.obj x),some (.obj q),some (.obj r),none]
 let aw:Ro:=[some (.obj x),some (.obj q),some (.obj r),some (stT s)]
 have x1:=(qaL (O:=O) (f:=.ls (ss.map stT)) xq.symm).trans hx;have r1:=(qaL (O:=O) (f:=.ls (ss.map stT)) qr).trans hr;generalize fe:O.put q (.ls (ss.map stT))=m1 at*;have x2:=(qaL (O:=m1) (f:=.ls ((tt++[(s.1,d.log,d.asks)]).map stT)) xr.symm).trans x1;generalize cH:m1.put r (.ls ((tt++[(s.1,d.log,d.asks)]).map stT))=m2 at*;have x3:(m2.put x (.ins "Desk" (fD ⟨s.2.1,d.asks,[],[]⟩ p c))).l[x]? =_:=qdw x2;generalize gU:m2.put x (.ins "Desk" (fD ⟨s.2.1,d.asks,[],[]⟩ p c))=m3 at*;refine qa2 rfl (qal (ρ:=jq) ?_ (qam (ρ':=aw) (μ':=m1) ?_ (qam (ρ':=aw) (μ':=m2) ?_ (qam (ρ':=aw) (μ':=m3) ?_ (qam (ρ':=aw) (μ':=m3.put x (.ins "Desk" (fD ⟨s.2.1,s.2.2,[],[]⟩ p c))) ?_ (qcn rfl)))))) ?_
 ·have e:=qhM hq;rw[List.length_map] at e;show qab F _ [some (.obj x),some (.obj q),some (.obj r),none] O=_;simp only[qao,qbJ,qaf,qa5,qlJ,qiK,List.getElem?_cons_succ,List.getElem?_cons_zero,qeg,qaa,e,qjw,qs2,decide_eq_false ln]
 ·rw[qaK,qja (t:=stT s) (m:=m1)]
  ·rfl
  ·have ev:qab F vA1 jq O= .ok (.obj q) O:=rfl;rw[List.map_append] at hq;rw[qh8,ev,qaa,if_pos (show qf2 O (.obj q)=Bm.ty .pop from qed hq),qa5,qaa,qwM hq,fe]
 ·have ev:qab F vA2 aw m1= .ok (.obj r) m1:=rfl;have e0:qab F (Oo .ix vA3 (Ci 0)) aw m1= .ok (.str s.1) m1:=rfl;rw[qbn,qh8,ev,qaa,if_pos (show qf2 m1 (.obj r)=Bm.ty .append from qed r1),qaf,qbo,qaf,e0,qaa,qaf,flI x1 rfl rfl,qaa,qaf,flI x1 rfl rfl];simp only[qaa,qa5];rw[if_pos (by simp),qaa,qaa,qhN r1 (by rw[List.length_map];omega),<-cH,List.map_append];rfl
 ·rw[qb4];show R.bind (R.ok (qbg s.2.1) m2) _=_;rw[qaa];show R.bind (R.ok (NV.T.obj x) m2) _=_;rw[qaa,qbj x2 rfl (by show 4<1000;decide),<-gU];rfl
 ·rw[qb4];show R.bind (R.ok (asT s.2.2) m3) _=_;rw[qaa];show R.bind (R.ok (NV.T.obj x) m3) _=_;rw[qaa,qbj x3 rfl (by show 4<1000;decide)];rfl
 ·rw[<-gU,<-cH,<-fe];simp
theorem qqH{d:Dsk}{s:St3}(h:DS O x p c d)(hp:d.past=ss++[s])(hl:d.coming.length<=900): ∃μ',qdt.run F [.obj x,.obj p,.obj c] O= .ok (.str s.1) μ'/\DS μ' x p c ⟨s.2.1,s.2.2,ss,d.coming++[(s.1,d.log,d.asks)]⟩/\On O μ' x p c:=by have hu:=h.up;have gc:=h.ps;rw[hp] at hu gc;obtain⟨h1,o1⟩:=h.putP λy hy=>hu y (Vr _ hy);obtain⟨h2,o2⟩:=h1.putC (s:=d.coming++[(s.1,d.log,d.asks)]) (qea h.uc h.ua);obtain⟨h3,o3⟩:=h2.put _ h.ua;obtain⟨h4,o4⟩:=h3.put _ (hu s (by simp));exact⟨_,qkZ h.ins gc h.cm h.ne.1 h.ne.2.1 h.ne.2.2 hl,h4,o1.trans (o2.trans (o3.trans o4))⟩
theorem qmz{d:Dsk}{s:St3}(h:DS O x p c d)(hp:d.coming=ss++[s])(hl:d.past.length<=900): ∃μ',qdt.run F [.obj x,.obj c,.obj p] O= .ok (.str s.1) μ'/\DS μ' x p c ⟨s.2.1,s.2.2,d.past++[(s.1,d.log,d.asks)],ss⟩/\On O μ' x p c:=by have hu:=h.uc;have gc:=h.cm;rw[hp] at hu gc;obtain⟨h1,o1⟩:=h.putC λy hy=>hu y (Vr _ hy);obtain⟨h2,o2⟩:=h1.putP (s:=d.past++[(s.1,d.log,d.asks)]) (qea h.up h.ua);obtain⟨h3,o3⟩:=h2.put _ h.ua;obtain⟨h4,o4⟩:=h3.put _ (hu s (by simp));exact⟨_,qkZ h.ins gc h.ps h.ne.2.1 h.ne.1 h.ne.2.2.symm hl,h4,o1.trans (o2.trans (o3.trans o4))⟩
noncomputable def qhJ:Fcd:=⟨false,1,1,[.ret (.tup [(.bn false .len [(.fld ["Desk"] "past" vA0)]),(.bn false .len [(.fld ["Desk"] "coming" vA0)])])]⟩
theorem qkK(h:DS O x p c d):qhJ.run F [.obj x] O= .ok (.tup [.int d.past.length,.int d.coming.length]) O:=by
 refine qax rfl (qcn ?_);have e1:=qhM h.ps;have e2:=qhM h.cm;rw[qbo,qaf,qbJ,qaf,fl h rfl rfl];simp only[qaa,qa5,e1,qjw];rw[qaf,qbJ,qaf,fl h rfl rfl]
 simp_all
noncomputable def qgt:Fcd:=⟨false,1,1,[.ret (.bn false .lst [(.fld ["Desk"] "log" vA0)])]⟩
theorem qlB(h:DS O x p c d)(hl:d.log.length<=900):qgt.run F [.obj x] O= .ok (qbg d.log) O:=by refine qax rfl (qcn ?_);rw[qbJ,qaf,fl h rfl rfl];simp[qbg]
end
section
theorem run_ex{cd:Fcd}{ts:List NV.T}{e:Str}(hl:ts.length=cd.n)(h:(runSs F cd.b (ts.map some++List.replicate (cd.N - cd.n) none) O).bind outT= .ex e O):cd.run F ts O= .ex e O:=by
 unfold Fcd.run fnR;rw[if_pos hl,h];unfold lv;split
 ·rfl
 ·unfold leave;simp
theorem qfR{e:Str}(h:qaC F s ρ O= .ex e O):(runSs F (s::ss) ρ O).bind outT= .ex e O:=by rw[qag,h];rfl
noncomputable def qkU(nl ds:Nat):Fcd:=⟨false,2,3,[.set 2 (Oo .add (.fld ["Desk"] "log" vA0) (.lst false [vA1])),.exp (.call nl [vA2]),.ife (Oo .gt (.bn false .len [vA2]) (Ci 12)) [.raise "Full"] [],.exp (.mth [("Desk",ds)] "do_step" vA0 [(Cs "add"),vA2,(.fld ["Desk"] "asks" vA0)])]⟩
theorem qlb(h:DS O x p c d)(hl:d.log.length<=900):qaC F (.set 2 (Oo .add (.fld ["Desk"] "log" vA0) (.lst false [vA1]))) [some (.obj x),some (qaV r),none] O= .ok (.nx [some (.obj x),some (qaV r),some (qbg (d.log++[r]))]) O:=by
 have e1:qab F (.lst false [vA1]) [some (.obj x),some (qaV r),none] O= .ok _ O:=rfl;have ga:O2.g .add O (qbg d.log) (.lst [qaV r])=some (.l ((d.log++[r]).map qaV)):=by rw[List.map_append];exact qht rfl rfl (by grind)
 rw[qaK,qao,fl h rfl rfl,qaa,e1,qaa,ga];rfl
theorem qqN{e:Str}(h:DS O x p c d)(hl:d.log.length<=900)(hn:F nl [qbg (d.log++[r])] O= .ex e O):(qkU nl ds).run F [.obj x,qaV r] O= .ex e O:=by
 refine run_ex rfl (qam (qlb h hl) (qfR ?_))
 simp_all
theorem qnm(h:DS O x p c d)(hn:F nl [qbg (d.log++[r])] O= .ok .non O)(hl:d.log.length=12):(qkU nl ds).run F [.obj x,qaV r] O= .ex "Full" O:=by
 refine run_ex rfl (qam (qlb h (by omega)) (qam (ρ':=[some (.obj x),some (qaV r),some (qbg (d.log++[r]))]) ?_ (qfR ?_)))
 ·simp_all
 ·rw[qb3]
  ·rfl
  ·have:=by omega
   simp[qbg,this]
theorem qug(h:DS O x p c d)(hn:F nl [qbg (d.log++[r])] O= .ok .non O)(hl:d.log.length<12)(hp:d.past.length<=900)(hD: ∀ts O,F ds ts O=qqA.run F1 ts O):
  ∃μ',(qkU nl ds).run F [.obj x,qaV r] O= .ok .non μ'/\DS μ' x p c ⟨d.log++[r],d.asks,d.past++[((("add" :Str),d.log,d.asks):St3)],[]⟩/\On O μ' x p c:=by
 obtain⟨μ',e,h',o⟩:=qtx h h.ua hp;refine⟨μ',qa2 rfl (qam (qlb h (by omega)) (qam (ρ':=[some (.obj x),some (qaV r),some (qbg (d.log++[r]))]) (μ':=O) ?_ (qal ?_ (qam (ρ':=[some (.obj x),some (qaV r),some (qbg (d.log++[r]))]) ?_ rfl)))) o.len,h',o⟩
 ·simp_all
 ·have: ¬(12:Int)<d.log.length+1:=by omega
  simp[qbg,this]
 ·have e0:qab F (.fld _ "asks" vA0) [some _,some (qaV r),some (qbg (d.log++[r]))] O= .ok _ O:=fl h rfl rfl;have ea:runA F [(Cs "add"),vA2,(.fld ["Desk"] "asks" vA0)] [some (.obj x),some (qaV r),some (qbg (d.log++[r]))] O= .ok [.str "add",qbg (d.log++[r]),asT d.asks] O:=by
   simp_all
  rw[qbn,qaT rfl h.ins rfl rfl,ea,qaa,hD,e];rfl
end
section
noncomputable def qbL(a:As)(n:Str):Option NV.T:=(a.find? λq=>decide (q.1=n)).map (·.2)
noncomputable def qdx(a:As)(n:Str)(t:NV.T):As:=if(a.any λq=>decide (q.1=n))=true then a.map (λq=>if q.1=n then(q.1,t) else q) else a++[(n,t)]
noncomputable def qcj(a:As)(n:Str):As:=a.filter λq=>decide (q.1≠n)
abbrev kv(a:As):List (Key×NV.T):=a.map λq=>((.inr q.1:Key),q.2)
theorem qiP(a:As)(n:Str):qiQ (kv a) (.inr n)=qbL a n:=by unfold qiQ qbL;rw[List.find?_map,Option.map_map];have:((λq=>decide (q.1= .inr n))∘λq:Str×NV.T=>((.inr q.1:Key),q.2))=λq=>decide _:=funext λq=>Wk.kd q.1 n;rw[this];rfl
theorem qnA(a:As)(n:Str)(t:NV.T):qlL (kv a) (.inr n) t=kv (qdx a n t):=by
 have ha:((kv a).any λq=>decide (q.1= .inr n))=a.any λq=>decide (q.1=n):=by rw[List.any_map];congr 1;exact funext λq=>Wk.kd q.1 n
 unfold qlL qdx;rw[ha];split
 ·simp only[kv,List.map_map];refine List.map_congr_left λq _=> ?_;show(if(Sum.inr q.1)= .inr n then((.inr q.1),t) else(.inr q.1,q.2))=((.inr (if q.1=n then(q.1,t) else q).1:Key),(if q.1=n then(q.1,t) else q).2)
  by_cases z:q.1=n
  ·simp_all
  simp_all
 ·simp[kv]
theorem qmr(a:As)(n:Str):gIn neg O (.str n) (asT a)=some (.v (.bl (if neg=true then !(qbL a n).isSome else(qbL a n).isSome))):=by
 have e0:qd3 O (asT a)=none:=rfl;have e:qq4 O (asT a) (.str n)=some (qbL a n):=by rw[<-qiP];rfl
 unfold gIn;rw[e0,e]
theorem qpD(a:As)(n:Str):O2.g .ix O (asT a) (.str n)=(qbL a n).map .v:=by rw[<-qiP];rfl
noncomputable def qdg(nm:Nat):Fcd:=⟨false,2,2,[.ife (.or (.nt (.call nm [vA1])) (Oo .nin vA1 (.fld ["Desk"] "asks" vA0))) [.raise "NoName"] [],.ret (Oo .ix (.fld ["Desk"] "asks" vA0) vA1)]⟩
theorem qoa{n:Str}(h:DS O x p c d)(hn:F nm [.str n] O= .ok (.bl true) O):qab F (.or (.nt (.call nm [vA1])) (Oo .nin vA1 (.fld ["Desk"] "asks" vA0))) [some (.obj x),some (.str n)] O= .ok (.bl (!(qbL d.asks n).isSome)) O:=by have e1:qab F (.call nm [vA1]) [some (.obj x),some _] O= .ok _ O:=hn;have e2:qab F vA1 [some (.obj x),some _] O= .ok (.str n) O:=rfl;rw[qvk,qlK,e1];simp only[qaa,qcL,if_false];rw[qao,e2,qaa,fl h rfl rfl,qaa,show O2.g .nin O (.str n) (asT _)=_ from qmr (O:=O) _ n];rfl
theorem qn9{n:Str}(h:DS O x p c d)(hn:F nm [.str n] O= .ok (.bl true) O)(hg:qbL d.asks n=some t):(qdg nm).run F [.obj x,.str n] O= .ok t O:=by have e2:qab F vA1 [some (.obj x),some (.str n)] O= .ok _ O:=rfl;refine qax rfl (qal (ρ:=[some _,some _]) ((qoa h hn).trans (by rw[hg];rfl)) (qcn ?_));rw[qao,fl h rfl rfl,qaa,e2,qaa,qpD,hg];rfl
theorem quc{n:Str}(h:DS O x p c d)(hn:F nm [.str n] O= .ok (.bl true) O)(hg:qbL d.asks n=none):(qdg nm).run F [.obj x,.str n] O= .ex "NoName" O:=by
 refine run_ex rfl (qfR ?_);rw[qb3]
 ·rfl
 ·exact(qoa h hn).trans (by rw[hg];rfl)
end
section
theorem DS.lt(h:DS O x p c d):x<O.l.length/\p<O.l.length/\c<O.l.length:=⟨(List.getElem?_eq_some_iff.mp h.ins).1,(List.getElem?_eq_some_iff.mp h.ps).1,(List.getElem?_eq_some_iff.mp h.cm).1⟩
theorem DS.more(h:DS O x p c d):DS ⟨O.l++[e],O.k⟩ x p c d:=by obtain⟨a,b,k⟩:=h.lt;exact⟨by rw[List.getElem?_append_left a];exact h.ins,by rw[List.getElem?_append_left b];exact h.ps,by rw[List.getElem?_append_left k];exact h.cm,h.ne,h.ua,h.up,h.uc⟩
theorem qdC(h:DS O x p c d)(h':DS m x p c d')(o:On ⟨O.l++[e],O.k⟩ m x p c)(ht:ub t<=O.l.length): ∃m',leave O (.ok t m)= .ok t m'/\DS m' x p c d'/\On O m' x p c:=by
 obtain⟨a,b,k⟩:=h.lt;have ln:m.l.length=O.l.length+1:=by have:=o.len;simpa using this
 obtain⟨ks,ek,hk⟩:=o.kk;have ek:m.k=ks++O.k:=ek;have hb: ∀q∈ks,q.2<=O.l.length:=λq hq=>by have:=hk q hq;omega
 have nw:O.nw m=ks:=by unfold Mu.nw;rw[ek];simp
 have ap:O.apart m=true:=by unfold Mu.apart;rw[nw,ek];simp only[Bool.and_eq_true,decide_eq_true_eq];refine⟨⟨by omega,by simp⟩,?_⟩;rw[List.all_eq_true];intro q hq;exact decide_eq_true (.inr (hb q hq))
 refine⟨O.back m,?_,?_,?_⟩
 ·show(if m.l.length=O.l.length then _ else _)=_;rw[if_neg (by omega),if_pos ap,qnQ ht]
 ·have tk: ∀j,j<O.l.length->(O.back m).l[j]? =m.l[j]? :=λj hj=>by show(m.l.take O.l.length)[j]? =_;rw[List.getElem?_take,if_pos hj]
  exact⟨(tk x a).trans h'.ins,(tk p b).trans h'.ps,(tk c k).trans h'.cm,h'.ne,h'.ua,h'.up,h'.uc⟩
 ·refine⟨by show(m.l.take O.l.length).length=_;rw[List.length_take];omega,λj h1 h2 h3=> ?_,?_⟩
  ·show(m.l.take O.l.length)[j]? =_;rw[List.getElem?_take];split
   ·rename_i hj;rw[o.old j h1 h2 h3];show(O.l++[e])[j]? =_;rw[List.getElem?_append_left hj]
   ·rename_i hj;rw[List.getElem?_eq_none_iff.mpr (by omega)]
  ·exact⟨(O.nw m).filter (λp=>decide (p.1<O.l.length)),rfl,λq hq=>by rw[nw] at hq;exact hk q (List.mem_filter.mp hq).1⟩
theorem qnR{w:Str}(h:DS O x p c d)(ha: ∀q∈a,ub q.2=0)(hl:d.past.length<=900)(hD: ∀ts O,F ds ts O=qqA.run F1 ts O)(h0:ρ[0]? =some (some (.obj x)))(hi:ρ[i]? =some (some (.obj O.l.length)))(i0:i≠0):
  ∃m,qaC F (.frz i (.exp (.mth [("Desk",ds)] "do_step" vA0 [(.c (.str w)),(.fld ["Desk"] "log" vA0),(.v i)]))) ρ ⟨O.l++[.dk (kv a)],O.k⟩= .ok (.nx (ρ.set i (some (asT a)))) m/\DS m x p c ⟨d.log,a,d.past++[((w,d.log,d.asks):St3)],[]⟩/\On ⟨O.l++[.gone],O.k⟩ m x p c:=by
 have hg:DS ⟨O.l++[.gone],O.k⟩ x p c d:=h.more;obtain⟨m,e,h',o⟩:=qtx (F:=F1) (w:=w) (l:=d.log) (a:=a) hg ha hl;refine⟨m,?_,h',o⟩;have ef:qfN i ρ ⟨O.l++[.dk (kv a)],O.k⟩=(ρ.set i (some (asT a)),⟨O.l++[.gone],O.k⟩):=by
  unfold qfN;rw[hi];have:(O.l++[Ct.dk (kv a)])[O.l.length]? =some (.dk (kv a)):=by simp
  simp only[this];have e2:(⟨O.l++[.dk (kv a)],O.k⟩:Mu).put O.l.length .gone=⟨O.l++[.gone],O.k⟩:=by rw[Mu.put_k (show ubC .gone<=_ from Nat.zero_le _)];simp
  rw[e2];rfl
 have li:i<ρ.length:=(List.getElem?_eq_some_iff.mp hi).1;have r0:(ρ.set i (some (asT a)))[0]? =some (some (.obj x)):=by rw[List.getElem?_set_ne i0];exact h0
 have ri:(ρ.set i (some (asT a)))[i]? =some (some (asT a)):=by rw[List.getElem?_set_self li]
 show qaC F (.exp (.mth [("Desk",ds)] "do_step" vA0 [(.c (.str w)),(.fld ["Desk"] "log" vA0),(.v i)])) (qfN i ρ ⟨O.l++[.dk (kv a)],O.k⟩).1 (qfN i ρ ⟨O.l++[.dk (kv a)],O.k⟩).2=_;rw[ef];have ev:qab F vA0 (ρ.set i (some (asT a))) ⟨O.l++[.gone],O.k⟩= .ok (.obj x) ⟨O.l++[.gone],O.k⟩:=by rw[qlJ,r0];rfl
 have ei:qab F (.v i) (ρ.set i (some (asT a))) ⟨O.l++[.gone],O.k⟩= .ok (asT a) ⟨O.l++[.gone],O.k⟩:=by rw[qlJ,ri];rfl
 have ea:runA F [(.c (.str w)),(.fld ["Desk"] "log" vA0),(.v i)] (ρ.set i (some (asT a))) ⟨O.l++[.gone],O.k⟩= .ok [.str w,qbg d.log,asT a] ⟨O.l++[.gone],O.k⟩:=by rw[qaf,qiK,qaa,qaf,fl hg r0 rfl,qaa,qaf,ei];rfl
 show qaC F (.exp _) (ρ.set i (some (asT a))) ⟨O.l++[.gone],O.k⟩=_;rw[qbn,qaT (k:=x) (i:=ds) ev hg.ins rfl rfl,ea,qaa,hD,e];rfl
end
section
noncomputable def qdQ(na nm ds:Nat):Fcd:=⟨false,3,5,[.exp (.call na [vA2]),.ife (.nt (.call nm [vA1])) [.raise "NoName"] [],.set 3 (Oo .in_ vA1 (.fld ["Desk"] "asks" vA0)),.ife (.and (.nt vA3) (Oo .ge (.bn false .len [(.fld ["Desk"] "asks" vA0)]) (Ci 6))) [.raise "Full"] [],.set 4 (.bn true .dct [(.fld ["Desk"] "asks" vA0)]),.put vA4 vA1 vA2,.frz 4 (.exp (.mth [("Desk",ds)] "do_step" vA0 [(Cs "hang"),(.fld ["Desk"] "log" vA0),vA4])),.ret vA3]⟩
theorem qjc{n:Str}(h: ∀q∈a,ub q.2=0)(ht:ub t=0): ∀q∈qdx a n t,ub q.2=0:=λq hq=>by
 unfold qdx at hq;split at hq
 ·obtain⟨r,hr,rfl⟩:=List.mem_map.mp hq;split
  ·exact ht
  ·exact h r hr
 ·rcases List.mem_append.mp hq with z|z
  ·exact h q z
  simp_all
theorem qsG(a:As):Bn.g .len O [asT a]=some (.v (.int a.length)):=by show some (Nv.v _)=_;rw[List.length_map]
theorem qoj(h: ∀q∈a,ub q.2=0):ubC (.dk (kv a))=0:=qrg λq hq=>by obtain⟨r,hr,rfl⟩:=List.mem_map.mp hq;exact h r hr
theorem qn1(h:DS O x p c d)(h0:ρ[0]? =some (some (.obj x))):qaC F (.set i (.bn true .dct [(.fld ["Desk"] "asks" vA0)])) ρ O= .ok (.nx (ρ.set i (some (.obj O.l.length)))) ⟨O.l++[.dk (kv d.asks)],O.k⟩:=by have e:Bn.g .dct O [asT d.asks]=some (.d (kv d.asks)):=rfl;rw[qaK,qbJ,qaf,fl h h0 rfl];simp only[qaa,qa5,e];show R.ok _ (O.add (.dk (kv d.asks)))=_;rw[Mu.add_on (qoj h.ua)];rfl
theorem qpI{n:Str}(h:DS O x p c d)(hA:F na [t] O= .ok .non O)(hN:F nm [.str n] O= .ok (.bl true) O)(hf:(qbL d.asks n).isSome=true\/d.asks.length<6)(ha:d.asks.length<=900)(ht:ub t=0)(hl:d.past.length<=900)(hD: ∀ts O,F ds ts O=qqA.run F1 ts O):
  ∃μ',(qdQ na nm ds).run F [.obj x,.str n,t] O= .ok (.bl (qbL d.asks n).isSome) μ'/\DS μ' x p c ⟨d.log,qdx d.asks n t,d.past++[((("hang" :Str),d.log,d.asks):St3)],[]⟩/\On O μ' x p c:=by
 generalize hb:(qbL d.asks n).isSome=b at*;obtain⟨m,e6,h',o⟩:=qnR (F:=F) (F1:=F1) (ds:=ds) (i:=4) (w:= "hang") (a:=qdx d.asks n t) (ρ:=[some (.obj x),some (.str n),some t,some (.bl b),some (.obj O.l.length)]) h (qjc h.ua ht) hl hD rfl rfl (by decide);obtain⟨m',el,dw,o'⟩:=qdC (t:=.bl b) h h' o (Nat.zero_le _);have fin:(runSs F (qdQ na nm ds).b [some (.obj x),some (.str n),some t,none,none] O).bind outT= .ok (.bl b) m:=by
  refine qam (ρ':=[some (.obj x),some (.str n),some t,none,none]) (μ':=O) ?_ (qal ?_ (qam (ρ':=[some (.obj x),some (.str n),some t,some (.bl b),none]) (μ':=O) ?_ (qal ?_ (qam (qn1 h rfl) (qam (ρ':=[some (.obj x),some (.str n),some t,some (.bl b),some (.obj O.l.length)]) (μ':=⟨O.l++[.dk (kv (qdx d.asks n t))],O.k⟩) ?_ (qam e6 (qcn rfl)))))))
  ·show R.bind (F na [t] O) _=_;rw[hA];rfl
  ·have e1:qab F (.call nm [vA1]) [some (.obj x),some (.str n),some t,none,none] O= .ok (.bl true) O:=hN;rw[qlK,e1];rfl
  ·have e2:qab F vA1 [some (.obj x),some (.str n),some t,none,none] O= .ok (.str n) O:=rfl;rw[qaK,qao,e2,qaa,fl h rfl rfl,qaa,show O2.g .in_ O (.str n) (asT d.asks)=_ from qmr (O:=O) (neg:=false) d.asks n];simp only[hb];rfl
  ·have e3:qab F vA3 [some (.obj x),some (.str n),some t,some (.bl b),none] O= .ok (.bl b) O:=rfl;rw[qnx,qlK,e3];simp only[qaa,qcL];cases b with
   |true=>rfl
   |false=>
    have: ¬(6:Int)<=d.asks.length:=by rcases hf with z|z;cases z;omega
    rw[if_pos (show(!false)=true from rfl),qao,qbJ,qaf,fl h rfl rfl];simp[qsG,this]
  ·have e2:qab F vA2 [some (.obj x),some (.str n),some t,some (.bl b),some (.obj O.l.length)] ⟨O.l++[.dk (kv d.asks)],O.k⟩= .ok t ⟨O.l++[.dk (kv d.asks)],O.k⟩:=rfl;have at_:(⟨O.l++[.dk (kv d.asks)],O.k⟩:Mu).l[O.l.length]? =some (.dk (kv d.asks)):=by simp
   have g:qpM ⟨O.l++[.dk (kv d.asks)],O.k⟩ (.obj O.l.length) (.str n) t=some (O.l.length,.dk (kv (qdx d.asks n t))):=by
    have e1:qhc ⟨O.l++[.dk (kv d.asks)],O.k⟩ (.obj O.l.length)=none:=by simp only[qhc,at_]
    have e2:ql1 ⟨O.l++[.dk (kv d.asks)],O.k⟩ (.obj O.l.length)=some (O.l.length,kv d.asks):=by simp only[ql1,at_]
    unfold qpM;rw[e1,e2];show(if(kv d.asks).length<=1000 then some (O.l.length,Ct.dk (qlL (kv d.asks) (.inr n) t)) else none)=_;rw[if_pos (by rw[List.length_map];omega),qnA]
   change qaC F (.put vA4 vA1 vA2) [some (.obj x),some (.str n),some t,some (.bl b),some (.obj O.l.length)] ⟨O.l++[.dk (kv d.asks)],O.k⟩=_
   rw[qrI,e2,qaa];have e1:qab F vA4 [some (.obj x),some (.str n),some t,some (.bl b),some (.obj O.l.length)] ⟨O.l++[.dk (kv d.asks)],O.k⟩= .ok (.obj O.l.length) ⟨O.l++[.dk (kv d.asks)],O.k⟩:=rfl;have e3:qab F vA1 [some (.obj x),some (.str n),some t,some (.bl b),some (.obj O.l.length)] ⟨O.l++[.dk (kv d.asks)],O.k⟩= .ok (.str n) ⟨O.l++[.dk (kv d.asks)],O.k⟩:=rfl;rw[e1,qaa,e3,qaa];rw[g];dsimp only;rw[if_pos (qcY at_ (by simp)),Mu.put_k (by rw[qoj (qjc h.ua ht)];exact Nat.zero_le _)];simp
 refine⟨m',?_,dw,o'⟩;unfold Fcd.run fnR;rw[if_pos (show [NV.T.obj x,.str n,t].length=(qdQ na nm ds).n from rfl)]
 change lv false O ((runSs F (qdQ na nm ds).b [some (.obj x),some (.str n),some t,none,none] O).bind outT)=_
 rw[fin];exact el
end
section
noncomputable def qde(ao ds:Nat):Fcd:=⟨false,2,4,[.set 2 (.mth [("Desk",ao)] "ask_of" vA0 [vA1]),.set 3 (.bn true .dct [(.fld ["Desk"] "asks" vA0)]),.exp (.alt (.bm false .pop vA3 [vA1]) (.bm false .dpop vA3 [vA1])),.frz 3 (.exp (.mth [("Desk",ds)] "do_step" vA0 [(Cs "lose"),(.fld ["Desk"] "log" vA0),vA3])),.ret vA2]⟩
theorem qpt{n:Str}{e:Str}(h:DS O x p c d)(hO:F ao [.obj x,.str n] O= .ex e O):(qde ao ds).run F [.obj x,.str n] O= .ex e O:=by refine run_ex rfl (qfR ?_);rw[qaK,qaT rfl h.ins rfl rfl];show R.bind (F ao _ O) _=_;rw[hO];rfl
theorem qhC{n:Str}(h: ∀q∈a,ub q.2=0): ∀q∈qcj a n,ub q.2=0:=λq hq=>h q (List.mem_filter.mp hq).1
theorem qp8(a:As)(n:Str):qkz (kv a) (.inr n)=kv (qcj a n):=by
 unfold qkz qcj kv;rw[List.filter_map]
 congr 1
 congr 1
 funext q
 simp
theorem qps{n:Str}(h:DS O x p c d)(hO:F ao [.obj x,.str n] O= .ok t O)(hg:qbL d.asks n=some t)(ht:ub t=0)(hl:d.past.length<=900)(hD: ∀ts O,F ds ts O=qqA.run F1 ts O):
  ∃μ',(qde ao ds).run F [.obj x,.str n] O= .ok t μ'/\DS μ' x p c ⟨d.log,qcj d.asks n,d.past++[((("lose" :Str),d.log,d.asks):St3)],[]⟩/\On O μ' x p c:=by
 obtain⟨m,e6,h',o⟩:=qnR (F:=F) (F1:=F1) (ds:=ds) (i:=3) (w:= "lose") (a:=qcj d.asks n) (ρ:=[some (.obj x),some (.str n),some t,some (.obj O.l.length)]) h (qhC h.ua) hl hD rfl rfl (by decide);obtain⟨m',el,dw,o'⟩:=qdC (t:=t) h h' o (by rw[ht];exact Nat.zero_le _);have fin:(runSs F (qde ao ds).b [some (.obj x),some (.str n),none,none] O).bind outT= .ok t m:=by
  refine qam (ρ':=[some (.obj x),some (.str n),some t,none]) (μ':=O) ?_ (qam (qn1 h rfl) (qam (ρ':=[some (.obj x),some (.str n),some t,some (.obj O.l.length)]) (μ':=⟨O.l++[.dk (kv (qcj d.asks n))],O.k⟩) ?_ (qam e6 (qcn rfl))))
  ·change qaC F (.set 2 (.mth [("Desk",ao)] "ask_of" vA0 [vA1])) [some (.obj x),some (.str n),none,none] O=_
   rw[qaK,qaT (k:=x) (i:=ao) rfl h.ins rfl rfl];show R.bind (F ao [.obj x,.str n] O) _=_;rw[hO];rfl
  ·have at_:(⟨O.l++[.dk (kv d.asks)],O.k⟩:Mu).l[O.l.length]? =some (.dk (kv d.asks)):=by simp
   have e1:qab F vA3 [some (.obj x),some (.str n),some t,some (.obj O.l.length)] ⟨O.l++[.dk (kv d.asks)],O.k⟩= .ok (.obj O.l.length) ⟨O.l++[.dk (kv d.asks)],O.k⟩:=rfl;have e2:qab F vA1 [some (.obj x),some (.str n),some t,some (.obj O.l.length)] ⟨O.l++[.dk (kv d.asks)],O.k⟩= .ok (.str n) ⟨O.l++[.dk (kv d.asks)],O.k⟩:=rfl;have mk:qf2 ⟨O.l++[.dk (kv d.asks)],O.k⟩ (.obj O.l.length)= "dict" :=qpm at_;have g:Bm.g .dpop ⟨O.l++[.dk (kv d.asks)],O.k⟩ [.obj O.l.length,.str n]=some (.p O.l.length (.dk (kv (qcj d.asks n))) t):=by
    have e:ql1 ⟨O.l++[.dk (kv d.asks)],O.k⟩ (.obj O.l.length)=some (O.l.length,kv d.asks):=by unfold ql1;simp only[at_]
    show(ql1 _ _).bind _=_;rw[e];show(qiQ (kv d.asks) (.inr n)).map _=_;rw[qiP,hg,<-qp8];rfl
   change qaC F (.exp (.alt (.bm false .pop vA3 [vA1]) (.bm false .dpop vA3 [vA1]))) [some (.obj x),some (.str n),some t,some (.obj O.l.length)] ⟨O.l++[.dk (kv d.asks)],O.k⟩=_
   rw[qbn,qoK (by rw[qh8,e1,qaa,if_neg (by rw[mk];decide)]),qh8,e1,qaa,if_pos (show qf2 _ _=Bm.ty .dpop from mk),qaf,e2];simp only[qaa,qa5,g];rw[qut (qcY at_ (by simp)),Mu.put_k (by rw[qoj (qhC h.ua)];exact Nat.zero_le _)];simp
 refine⟨m',?_,dw,o'⟩;unfold Fcd.run fnR;rw[if_pos (show [NV.T.obj x,.str n].length=(qde ao ds).n from rfl)]
 change lv false O ((runSs F (qde ao ds).b [some (.obj x),some (.str n),none,none] O).bind outT)=_
 rw[fin];exact el
end
section
noncomputable def qfB:Fcd:=⟨false,1,1,[.fld ["Desk"] "log" vA0 (.lst false []),.fld ["Desk"] "asks" vA0 (.dct false),.fld ["Desk"] "past" vA0 (.lst true []),.fld ["Desk"] "coming" vA0 (.lst true [])]⟩
theorem qnI{F:Fs}{F1:Fs}{O:Mu}{i:Nat}(hI: ∀ts O,F i ts O=qfB.run F1 ts O):
  ∃μ',mkR "Desk" (F i) [] O= .ok (.obj O.l.length) μ'/\DS μ' O.l.length (O.l.length+1) (O.l.length+2) ⟨[],[],[],[]⟩/\μ'.l.length=O.l.length+3/\∀j,j<O.l.length->μ'.l[j]? =O.l[j]? :=by
 let c1:Ct:=.ins "Desk" [("log",.lst [])];let c2:Ct:=.ins "Desk" [("log",.lst []),("asks",.dct [])];let c3:Ct:=.ins "Desk" [("log",.lst []),("asks",.dct []),("past",.obj (O.l.length+1))];let c4:Ct:=.ins "Desk" [("log",.lst []),("asks",.dct []),("past",.obj (O.l.length+1)),("coming",.obj (O.l.length+2))];let m3:Mu:=((O.on c2).on (.ls [])).put O.l.length c3;let m4:Mu:=(m3.on (.ls [])).put O.l.length c4;have l3:m3.l.length=O.l.length+2:=by simp[m3,Mu.on]
 have l4:m4.l.length=O.l.length+3:=by simp[m4,m3,Mu.on]
 have a2:((O.on c2).on (.ls [])).l[O.l.length]? =some c2:=by simp[Mu.on]
 have a3:(m3.on (.ls [])).l[O.l.length]? =some c3:=by show(m3.l++[_])[_]? =_;rw[List.getElem?_append_left (by omega)];show(List.set _ _ _)[_]? =_;rw[List.getElem?_set_self (by simp[Mu.on])]
 have run:(runSs F1 qfB.b [some (.obj O.l.length)] (O.on (.ins "Desk" []))).bind outT= .ok .non m4:=by
  refine qam (ρ':=[some (.obj O.l.length)]) (μ':=O.on c1) ?_ (qam (ρ':=[some (.obj O.l.length)]) (μ':=O.on c2) ?_ (qam (ρ':=[some (.obj O.l.length)]) (μ':=m3) ?_ (qam (ρ':=[some (.obj O.l.length)]) (μ':=m4) ?_ rfl)))
  ·rw[qb4];show R.bind (R.ok (NV.T.lst []) _) _=_;rw[qaa];show R.bind (R.ok (NV.T.obj O.l.length) _) _=_;rw[qaa,qbj Mu.on_at rfl (by show 0<1000;decide),qaa];show R.ok _ ((O.on (.ins "Desk" [])).put O.l.length c1)=_;rw[Mu.on_put (c':=c1) rfl]
  ·rw[qb4];show R.bind (R.ok (NV.T.dct []) _) _=_;rw[qaa];show R.bind (R.ok (NV.T.obj O.l.length) _) _=_;rw[qaa,qbj Mu.on_at rfl (by show 1<1000;decide),qaa];show R.ok _ ((O.on c1).put O.l.length c2)=_;rw[Mu.on_put (c':=c2) rfl]
  ·have e:qab F1 (.lst true []) [some (.obj O.l.length)] (O.on c2)= .ok (.obj (O.l.length+1)) ((O.on c2).on (.ls [])):=by show R.ok (NV.T.obj (O.on c2).l.length) ((O.on c2).add (.ls []))=_;rw[Mu.add_on rfl];simp[Mu.on]
   rw[qb4,e,qaa];show R.bind (R.ok (NV.T.obj O.l.length) _) _=_;rw[qaa,qbj a2 rfl (by show 2<1000;decide)];rfl
  ·have e:qab F1 (.lst true []) [some (.obj O.l.length)] m3= .ok (.obj (O.l.length+2)) (m3.on (.ls [])):=by show R.ok (NV.T.obj m3.l.length) (m3.add (.ls []))=_;rw[Mu.add_on rfl,l3]
   rw[qb4,e,qaa];show R.bind (R.ok (NV.T.obj O.l.length) _) _=_;rw[qaa,qbj a3 rfl (by show 3<1000;decide)];rfl
 have lv:leave (O.on (.ins "Desk" [])) (.ok .non m4)= .ok .non m4:=by
  have l0:(O.on (.ins "Desk" [])).l.length=O.l.length+1:=by simp[Mu.on]
  show(if m4.l.length=(O.on (.ins "Desk" [])).l.length then R.ok NV.T.non m4 else _)=_;rw[l4,l0,if_neg (by omega),if_neg];have k3:m3.k=(O.l.length,O.l.length+2)::O.k:=by show(Mu.put _ _ c3).k=_;unfold Mu.put;rw[show ubC c3=O.l.length+2 by show max 0 (max 0 (max (O.l.length+1+1) 0))=_;omega,if_neg (by omega)];rfl
  have k4:m4.k=(O.l.length,O.l.length+3)::(O.l.length,O.l.length+2)::O.k:=by show(Mu.put _ _ c4).k=_;unfold Mu.put;rw[show ubC c4=O.l.length+3 by show max 0 (max 0 (max (O.l.length+1+1) (max (O.l.length+2+1) 0)))=_;omega,if_neg (by omega)];show _::m3.k=_;rw[k3]
  unfold Mu.apart Mu.nw;rw[k4,l0];simp[Mu.on];intro _ _;refine⟨O.l.length,O.l.length+3,?_,by omega,by omega⟩;rw[show O.k.length+1+1 - O.k.length=2 by omega];exact Vj
 refine⟨m4,?_,⟨?_,?_,?_,⟨by omega,by omega,by omega⟩,(λ_ h=>nomatch h),(λ_ h=>nomatch h),(λ_ h=>nomatch h)⟩,l4,λj hj=> ?_⟩
 ·unfold mkR;rw[Mu.add_on rfl,hI];have:qfB.run F1 [.obj O.l.length] (O.on (.ins "Desk" []))= .ok .non m4:=by unfold Fcd.run fnR;rw[if_pos (show [NV.T.obj O.l.length].length=qfB.n from rfl)];show NV.lv false _ ((runSs F1 qfB.b [some (.obj O.l.length)] _).bind outT)=_;rw[run];exact lv
  rw[this];rfl
 ·show(List.set _ _ _)[_]? =_;rw[List.getElem?_set_self (by show _<(m3.l++[_]).length;simp;omega)];rfl
 ·show(List.set (m3.l++[_]) _ _)[_]? =_;rw[List.getElem?_set_ne (by omega),List.getElem?_append_left (by omega)];show(List.set _ _ _)[_]? =_;rw[List.getElem?_set_ne (by omega)];simp[Mu.on]
 ·show(List.set (m3.l++[_]) _ _)[_]? =_;rw[List.getElem?_set_ne (by omega),List.getElem?_append_right (by omega),l3];simp
 ·show(List.set (m3.l++[_]) _ _)[_]? =_;rw[List.getElem?_set_ne (by omega),List.getElem?_append_left (by omega)];show(List.set _ _ _)[_]? =_;rw[List.getElem?_set_ne (by omega)];show((O.l++[_])++[_])[_]? =_;rw[List.getElem?_append_left (by simp;omega),List.getElem?_append_left hj]
end
section
noncomputable def qgy:Fcd:=⟨false,1,1,[.ret (.bn false .srt [(.fld ["Desk"] "asks" vA0)])]⟩
noncomputable def nmT(a:As):List NV.T:=a.map λq=>.str q.1
theorem qdZ: ∀ss:List Str,qbC (ss.map NV.T.str)=true
 |[]=>rfl
 |s::ss=>by show(PL.okShape (qcO (.str s))&&(ss.map _).all _)=true;rw[Bool.and_eq_true];refine⟨rfl,List.all_eq_true.mpr λu hu=> ?_⟩;obtain⟨r,_,rfl⟩:=List.mem_map.mp hu;rfl
theorem ql8(h:DS O x p c d)(hl:d.asks.length<64):qgy.run F [.obj x] O= .ok (.lst (qeL (nmT d.asks))) O:=by
 have hs:=by have:=qdZ (d.asks.map λq=>q.1);rw[List.map_map] at this;exact this
 have g:Bn.g .srt O [asT d.asks]=some (.l (qeL (nmT d.asks))):=by
  have e:quX O (asT d.asks)=some (nmT d.asks):=by show some _=_;rw[List.map_map];rfl
  show qc6 O [asT _]=_;unfold qc6;simp only[e];show(if(nmT _).length<64/\qbC _=true then _ else _)=_;rw[if_pos ⟨by show(List.map _ _).length<64;simp_all,hs⟩]
 refine qax rfl (qcn ?_);rw[qbJ,qaf,fl h rfl rfl]
 simp_all
end
section
noncomputable def qlm(ns:List Int)(k:Int):Int:=if 1+qan ns (k+1) 4=4 then 1+qan ns (k+2) 20 else 1+qan ns (k+1) 4
noncomputable def qcV(ns:List Int)(k:Int):Wk.Sp:=match(qan ns k 11).toNat with
 |0=>.key (qnL ns (k+1))
 |1=>.over (qie ns (k+1) 20)
 |2=>.under (qie ns (k+1) 20)
 |3=>.plus (qie ns (k+1) 20)
 |4=>.times (qie ns (k+1) 20)
 |5=>.first (qlm ns k)
 |6=>.each (qlm ns k)
 |7=>.window (qlm ns k)
 |8=>.running
 |9=>.change
 |_=>.unlike
theorem qqr(ns:List Int)(k:Int):1<=qlm ns k/\qlm ns k<=20:=by
 have a:=qaQ (ns:=ns) (k:=k+1) (many:=4) (by omega);have b:=qaM (ns:=ns) (k:=k+1) (many:=4) (by omega);have c:=qaQ (ns:=ns) (k:=k+2) (many:=20) (by omega);have d:=qaM (ns:=ns) (k:=k+2) (many:=20) (by omega);unfold qlm
 split<;>omega
theorem qim(ns:List Int)(k:Int):(qcV ns k).fine:=by
 have n20:=qpi (ns:=ns) (k:=k+1) (most:=20) (by omega);have c:=qqr ns k;unfold qcV
 split<;>first|exact qpA _ _|exact n20|exact c|trivial
noncomputable def qbl(p k n:Nat):Fcd:=⟨false,2,4,[.set 2 (.lst false [(Cs "key"),(Cs "over"),(Cs "under"),(Cs "plus"),(Cs "times"),(Cs "first"),(Cs "each"),(Cs "window"),(Cs "running"),(Cs "change"),(Cs "unlike")]),.set 2 (Oo .ix vA2 (.call p [vA0,vA1,(Ci 11)])),.ife (Oo .eq vA2 (Cs "key")) [.ret (.tup [vA2,(.call k [vA0,(Oo .add vA1 (Ci 1))])])] [],.ife (Oo .in_ vA2 (.tup [(Cs "over"),(Cs "under"),(Cs "plus"),(Cs "times")])) [.ret (.tup [vA2,(.call n [vA0,(Oo .add vA1 (Ci 1)),(Ci 20)])])] [],.ife (Oo .in_ vA2 (.tup [(Cs "first"),(Cs "each"),(Cs "window")])) [.set 3 (Oo .add (Ci 1) (.call p [vA0,(Oo .add vA1 (Ci 1)),(Ci 4)])),.ret (.tup [vA2,(.ife (Oo .eq vA3 (Ci 4)) (Oo .add (Ci 1) (.call p [vA0,(Oo .add vA1 (Ci 2)),(Ci 20)])) vA3)])] [],.ret (.tup [vA2])]⟩
theorem qmd(D:Drw F p ns)(hq: ∀{O:Mu}{k:Int},0<=k->F q [.scr ns,.int k] O= .ok (.str (qnL ns k)) O)(hn: ∀{O:Mu}{k most:Int},0<=k->0<=most->F n [.scr ns,.int k,.int most] O= .ok (.int (qie ns k most)) O)(h0:0<=k):(qbl p q n).run F [.scr ns,.int k] O= .ok (qcV ns k).T O:=by
 refine qax rfl ?_
 change (runSs F (qbl p q n).b [some (.scr ns),some (.int k),none,none] O).bind outT=_
 have key: ∀{w:Str},(w== "key")=true->(runSs F ((qbl p q n).b.drop 2) [some (.scr ns),some (.int k),some (.str w),none] O).bind outT= .ok (.tup [.str w,.str (qnL ns (k+1))]) O:=λ{w} h=>by
  have e:w= "key" :=by simpa using h
  subst e;refine qbR rfl ?_;rw[qag,qa7,qbo];show R.bind (R.bind (R.bind (R.bind (R.bind (F q [.scr ns,.int (k+1)] O) _) _) _) _) _=_;rw[hq (by omega)];rfl
 have num: ∀{w:Str},w∈[("over" :Str), "under", "plus", "times"]->(runSs F ((qbl p q n).b.drop 2) [some (.scr ns),some (.int k),some (.str w),none] O).bind outT= .ok (.tup [.str w,.int (qie ns (k+1) 20)]) O:=λ{w} h=>by
  have fin:runSs F [.ret (.tup [vA2,(.call n [vA0,(Oo .add vA1 (Ci 1)),(Ci 20)])])] [some (.scr ns),some (.int k),some (.str w),none] O= .ok (.rt (.tup [.str w,.int (qie ns (k+1) 20)])) O:=by rw[qag,qa7,qbo];show R.bind (R.bind (R.bind (R.bind (R.bind (F n [.scr ns,.int (k+1),.int 20] O) _) _) _) _) _=_;rw[hn (by omega) (by omega)];rfl
  simp only[List.mem_cons,List.not_mem_nil,or_false] at h
  rcases h with rfl|rfl|rfl|rfl<;>exact qal rfl (qbR rfl fin)
 have cnt: ∀{w:Str},w∈[("first" :Str), "each", "window"]->(runSs F ((qbl p q n).b.drop 2) [some (.scr ns),some (.int k),some (.str w),none] O).bind outT= .ok (.tup [.str w,.int (qlm ns k)]) O:=λ{w} h=>by
  have s1:qaC F (.set 3 (Oo .add (Ci 1) (.call p [vA0,(Oo .add vA1 (Ci 1)),(Ci 4)]))) [some (.scr ns),some (.int k),some (.str w),none] O= .ok (.nx [some (.scr ns),some (.int k),some (.str w),some (.int (1+qan ns (k+1) 4))]) O:=by rw[qaK,qao,qiK,qaa];show R.bind (R.bind (F p [.scr ns,.int (k+1),.int 4] O) _) _=_;rw[D.p (by omega) (by omega)];rfl
  have s2:qab F (.ife (Oo .eq vA3 (Ci 4)) (Oo .add (Ci 1) (.call p [vA0,(Oo .add vA1 (Ci 2)),(Ci 20)])) vA3) [some (.scr ns),some (.int k),some (.str w),some (.int (1+qan ns (k+1) 4))] O= .ok (.int (qlm ns k)) O:=by
   have e3:qab F vA3 [some (.scr ns),some (.int k),some (.str w),some (.int (1+qan ns (k+1) 4))] O= .ok (.int (1+qan ns (k+1) 4)) O:=rfl;rw[qg3,qao,e3];simp only[qaa,qiK,qs2,qjw,qcL];unfold qlm;by_cases z:1+qan ns (k+1) 4=4
   ·rw[if_pos (decide_eq_true z),if_pos z,qao,qiK,qaa];show R.bind (F p [.scr ns,.int (k+2),.int 20] O) _=_;rw[D.p (by omega) (by omega)];rfl
   ·rw[if_neg (by simp[z]),if_neg z];exact e3
  have fin:runSs F [.set 3 (Oo .add (Ci 1) (.call p [vA0,(Oo .add vA1 (Ci 1)),(Ci 4)])),.ret (.tup [vA2,(.ife (Oo .eq vA3 (Ci 4)) (Oo .add (Ci 1) (.call p [vA0,(Oo .add vA1 (Ci 2)),(Ci 20)])) vA3)])] [some (.scr ns),some (.int k),some (.str w),none] O= .ok (.rt (.tup [.str w,.int (qlm ns k)])) O:=by rw[qag,s1,qaa,qaw,qag,qa7,qbo,qaf,qlJ];show R.bind (R.bind (R.bind (R.bind (R.ok (NV.T.str w) O) _) _) _) _=_;rw[qaa,qaf,s2];rfl
  simp only[List.mem_cons,List.not_mem_nil,or_false] at h
  rcases h with rfl|rfl|rfl<;>exact qal rfl (qal rfl (qbR rfl fin))
 have bare: ∀{w:Str},w∈[("running" :Str), "change", "unlike"]->(runSs F ((qbl p q n).b.drop 2) [some (.scr ns),some (.int k),some (.str w),none] O).bind outT= .ok (.tup [.str w]) O:=λ{w} h=>by
  simp only[List.mem_cons,List.not_mem_nil,or_false] at h
  rcases h with rfl|rfl|rfl<;>exact qal rfl (qal rfl (qal rfl (qcn rfl)))
 have a:=qaQ (ns:=ns) (k:=k) (many:=11) (by omega);have b:=qaM (ns:=ns) (k:=k) (many:=11) (by omega);generalize hw:(qan ns k 11).toNat=w;have pw:qan ns k 11=(w:Int):=by omega
 have lw:w<11:=by omega
 have st: ∀{z:Str}{r:R NV.T},([("key" :Str), "over", "under", "plus", "times", "first", "each", "window", "running", "change", "unlike"]:List Str)[w]? =some z->(runSs F ((qbl p q n).b.drop 2) [some (.scr ns),some (.int k),some (.str z),none] O).bind outT=r->(runSs F (qbl p q n).b [some (.scr ns),some (.int k),none,none] O).bind outT=r:=λ{z r} hz h=>by refine qam (ρ':=[some (.scr ns),some (.int k),some (.lst (([("key" :Str), "over", "under", "plus", "times", "first", "each", "window", "running", "change", "unlike"]:List Str).map NV.T.str)),none]) (μ':=O) rfl (qam (ρ':=[some (.scr ns),some (.int k),some (.str z),none]) (μ':=O) ?_ h);have e2:qab F vA2 [some (.scr ns),some (.int k),some (.lst (([("key" :Str), "over", "under", "plus", "times", "first", "each", "window", "running", "change", "unlike"]:List Str).map NV.T.str)),none] O= .ok (.lst (([("key" :Str), "over", "under", "plus", "times", "first", "each", "window", "running", "change", "unlike"]:List Str).map NV.T.str)) O:=rfl;rw[qaK,qao,e2,qaa];show R.bind (R.bind (F p [.scr ns,.int k,.int 11] O) _) _=_;rw[D.p h0 (by omega),qaa,qkc,pw,qpE,List.getElem?_map,hz];rfl
 unfold qcV;rw[hw]
 match w,lw with
 |0,_=>exact st rfl (key rfl)
 |1,_=>exact st rfl (num (by simp))
 |2,_=>exact st rfl (num (by simp))
 |3,_=>exact st rfl (num (by simp))
 |4,_=>exact st rfl (num (by simp))
 |5,_=>exact st rfl (cnt (by simp))
 |6,_=>exact st rfl (cnt (by simp))
 |7,_=>exact st rfl (cnt (by simp))
 |8,_=>exact st rfl (bare (by simp))
 |9,_=>exact st rfl (bare (by simp))
 |10,_=>exact st rfl (bare (by simp))
noncomputable def qe9(ns:List Int)(k most:Int):List Wk.Sp:=(List.range (qan ns (k+60) (most+1)).toNat).map λj=>qcV ns (k+6*(j:Nat))
theorem qjO(ns:List Int)(k most:Int): ∀p∈qe9 ns k most,p.fine:=λp hp=>by obtain⟨j,_,rfl⟩:=List.mem_map.mp hp;exact qim _ _
theorem qmg(hm:0<=most):((qe9 ns k most).length:Int)<=most:=by
 have b:=qaM (ns:=ns) (k:=k+60) (many:=most+1) (by omega);unfold qe9
 grind
noncomputable def qn5(p s:Nat):Fcd:=⟨false,3,3,[.ret (.bn false .tup [(.comp false false 1 [1,0] (.n 0) (.by_ .rng1 [(.call p [vA0,(Oo .add vA1 (Ci 60)),(Oo .add vA2 (Ci 1))])]) none (.call s [vA2,(Oo .add vA1 (Oo .mul (Ci 6) vA0))]))])]⟩
theorem qpw(D:Drw F p ns)(hs: ∀{O:Mu}{k:Int},0<=k->F s [.scr ns,.int k] O= .ok (qcV ns k).T O)(h0:0<=k)(hm:0<=most/\most<=900):(qn5 p s).run F [.scr ns,.int k,.int most] O= .ok (.tup ((qe9 ns k most).map Sp.T)) O:=by
 refine qax rfl (qcn ?_);have b:=qaM (ns:=ns) (k:=k+60) (many:=most+1) (by omega);have a:=qaQ (ns:=ns) (k:=k+60) (many:=most+1) (by omega);generalize hn:(qan ns (k+60) (most+1)).toNat=n;have pn:qan ns (k+60) (most+1)=(n:Int):=by omega
 have cm:=qfy (F:=F) (O:=O) (ρ:=[some (.scr ns),some (.int k),some (.int most)]) (x:=false) (fr:=[1,0]) (ci:=.by_ .rng1 [(.call p [vA0,(Oo .add vA1 (Ci 60)),(Oo .add vA2 (Ci 1))])]) (e:=.call s [vA2,(Oo .add vA1 (Oo .mul (Ci 6) vA0))]) (List.range n) _ _
  (qpF (n:=n) (by
   show F p _ O=_;rw[D.p (by omega) (by omega),pn]) (by omega)) λj hj=>by have e:qab F (Oo .add vA1 (Oo .mul (Ci 6) vA0)) (some (.int (j:Nat))::frO [1,0] [some (.scr ns),some (.int k),some (.int most)]) O= .ok _ O:=rfl;have e0:qab F vA2 (some (.int (j:Nat))::frO [1,0] [some (.scr ns),some (.int k),some (.int most)]) O= .ok (.scr ns) O:=rfl;exact hs (by omega)
 rw[qbJ,qaf]
 change R.bind (R.bind (qab F _ [some (.scr ns),some (.int k),some (.int most)] O) _) _=_
 rw[cm];unfold qe9;rw[hn,List.map_map];rfl
end
noncomputable def qbA(t:NV.T):Prop:= ∃ps:List Wk.Sp,t= .tup (ps.map Sp.T)/\ps.length<=3/\∀p∈ps,p.fine
noncomputable def nms:List Str:=["a", "b", "ten", "last"]
structure qlh(a:As):Prop where
 nm: ∀q∈a,q.1∈nms
 nd:(a.map (·.1)).Nodup
 ak: ∀q∈a,qbA q.2
structure qq8(l:List Row):Prop where
 r: ∀x∈l,rowOk x
 s:Ris l
 n:l.length<=12
abbrev Sta:=List Row×As
structure qdn(s:Sta):Prop where
 l:qq8 s.1
 a:qlh s.2
noncomputable def qaz(s:Sta):NV.T:=.tup [.tup (s.1.map qaV),asT s.2]
inductive qaR where
 |add (r:Row)|hang (n:Str) (t:NV.T)|lose (n:Str)
noncomputable def qaR.T:qaR->NV.T
 |.add r=>.tup [.str "add",qaV r]
 |.hang n t=>.tup [.str "hang",.str n,t]
 |.lose n=>.tup [.str "lose",.str n]
noncomputable def qaR.w:qaR->Str
 |.add _=> "add"
 |.hang _ _=> "hang"
 |.lose _=> "lose"
noncomputable def qaR.ok:qaR->Prop
 |.add r=>rowOk r
 |.hang n t=>n∈nms/\qbA t
 |.lose n=>n∈nms
section
variable{F F1 F2:Fs}{O m:Mu}{ns:List Int}
theorem qvF(r:Row):okT (n+1) (qaV r)=true:=by cases n<;>simp[qaV,okT]
theorem qhe(l:List Row):okT (n+2) (.tup (l.map qaV))=true:=by unfold okT;rw[List.all_eq_true];intro t ht;obtain⟨r,_,rfl⟩:=List.mem_map.mp ht;exact qvF r
theorem qnJ(l:List Row):O2.g .ne O (.tup (l.map qaV)) (.tup [])=some (.v (.bl (!l.isEmpty))):=by rw[qxn (qhe l) rfl];cases l<;>rfl
theorem qhm(l:List Row):O2.g .ix O (.tup (l.map qaV)) (.int (-1))=(l.getLast?.map qaV).map .v:=by simp
abbrev rD(ns:List Int)(k:Int)(s:Sta)(a b c:Option NV.T):Ro:=[some (.scr ns),some (.int k),some (qaz s),some (.tup (s.1.map qaV)),some (asT s.2),some (.int (qan ns k 6)),a,b,c]
abbrev xL:CE:=.ife (Oo .ne vA3 (.tup [])) (Oo .ix (Oo .ix vA3 (.neg (Ci 1))) (Ci 0)) (Ci 1)
abbrev xY:List CE:=[(Cs "a"),(Cs "b"),(Cs "ab")]
abbrev xM:CE:=.bn false .max [(Ci 0),(.bn false .min [(Ci 99),v7])]
noncomputable def qhI(p a:Nat):Fcd:=⟨false,3,9,[.asg (.tup [(.n 3),(.n 4)]) vA2,.set 5 (.call p [vA0,vA1,(Ci 6)]),.set 6 (Oo .ix (.lst false [(Cs "a"),(Cs "b"),(Cs "ten"),(Cs "last")]) (.call p [vA0,(Oo .add vA1 (Ci 1)),(Ci 4)])),.ife (Oo .lt v5 (Ci 3)) [.set 7 (Oo .add (Oo .sub (.call p [vA0,(Oo .add vA1 (Ci 2)),(Ci 5)]) (Ci 1)) xL),.set 8 (Oo .ix (.lst false xY) (.call p [vA0,(Oo .add vA1 (Ci 3)),(Ci 3)])),.ret (.tup [(Cs "add"),(.tup [xM,v8,(Oo .sub (.call p [vA0,(Oo .add vA1 (Ci 4)),(Ci 9)]) (Ci 4))])])] [],.ife (Oo .lt v5 (Ci 5)) [.ret (.tup [(Cs "hang"),v6,(.call a [vA0,(Oo .add vA1 (Ci 10)),(Ci 3)])])] [],.ret (.tup [(Cs "lose"),v6])]⟩
theorem qg7{p:Nat}{k:Int}{ρ:Ro}{es:List CE}{zs:List Str}{e1:CE}{k1:Int}(D:Drw F p ns)(h0:ρ[0]? =some (some (.scr ns)))(he:qab F e1 ρ O= .ok (.int k1) O)(hk:0<=k1)(hl:qab F (.lst false es) ρ O= .ok (.lst (zs.map NV.T.str)) O)(hz:0<zs.length): ∃z∈zs,qab F (Oo .ix (.lst false es) (.call p [vA0,e1,(.c (.int zs.length))])) ρ O= .ok (.str z) O:=by
 have a:=qaQ (ns:=ns) (k:=k1) (many:=zs.length) (by omega);have b:=qaM (ns:=ns) (k:=k1) (many:=zs.length) (by omega);have hp:(qan ns k1 zs.length).toNat<zs.length:=by omega
 refine⟨zs[(qan ns k1 zs.length).toNat],List.getElem_mem _,?_⟩;have e0:qab F vA0 ρ O= .ok (.scr ns) O:=by rw[qlJ,h0];rfl
 rw[qao,hl,qaa,qa4,qaf,e0,qaa,qaf,he];show R.bind (F p [.scr ns,.int k1,.int zs.length] O) _=_;rw[D.p hk (by omega),qaa,qkc,qbw a,List.getElem?_map,List.getElem?_eq_getElem hp];rfl
theorem qqe{p a:Nat}{s:Sta}(D:Drw F p ns)(ha: ∀{O:Mu}{k:Int},0<=k->F a [.scr ns,.int k,.int 3] O= .ok (.tup ((qe9 ns k 3).map Sp.T)) O)(hs:qdn s){k:Int}(h0:0<=k): ∃d:qaR,d.ok/\(qhI p a).run F [.scr ns,.int k,qaz s] O= .ok d.T O:=by
 obtain⟨n,hn,e6⟩:=qg7 (F:=F) (O:=O) (p:=p) (ns:=ns) (k:=0) (ρ:=(rD ns k s none none none)) (es:=[(Cs "a"),(Cs "b"),(Cs "ten"),(Cs "last")]) (zs:=nms) (e1:=Oo .add vA1 (Ci 1)) (k1:=k+1) D rfl rfl (by omega) rfl (by decide);have head: ∀{r:R NV.T},(runSs F ((qhI p a).b.drop 3) (rD ns k s (some (.str n)) none none) O).bind outT=r->(runSs F (qhI p a).b [some (.scr ns),some (.int k),some (qaz s),none,none,none,none,none,none] O).bind outT=r:=λ{r} h=>by
  refine qam (ρ':=[some (.scr ns),some (.int k),some (qaz s),some (.tup (s.1.map qaV)),some (asT s.2),none,none,none,none]) (μ':=O) rfl (qam (ρ':=(rD ns k s none none none)) (μ':=O) ?_ (qam (ρ':=(rD ns k s (some (.str n)) none none)) (μ':=O) ?_ h))
  ·rw[qaK];show R.bind (F p [.scr ns,.int k,.int 6] O) _=_;rw[D.p h0 (by omega)];rfl
  ·rw[qaK];exact(congrArg (λx=>R.bind x _) e6).trans rfl
 by_cases w3:qan ns k 6<3
 ·
  have ⟨L,hL,eL⟩: ∃L:Int,(0<=L/\L<=99)/\qab F xL (rD ns k s (some (.str n)) none none) O= .ok (.int L) O:=by
   have e3:qab F vA3 (rD ns k s (some (.str n)) none none) O= .ok (.tup (s.1.map qaV)) O:=rfl;have e0:qab F (.tup []) (rD ns k s (some (.str n)) none none) O= .ok (.tup []) O:=rfl;rw[qg3,qao,e3,qaa,e0,qaa,qnJ];cases q:s.1.getLast? with
   |none=>have:s.1=[]:=List.getLast?_eq_none_iff.mp q;rw[this];exact⟨1,by omega,rfl⟩
   |some x=>
    have hx:x∈s.1:=List.mem_of_getLast? q;have ne:s.1.isEmpty=false:=by cases h:s.1 with|nil=>rw[h] at q;cases q|cons _ _=>rfl
    refine⟨x.1,(hs.l.r x hx).1,?_⟩;rw[ne];show qab F (Oo .ix (Oo .ix vA3 (.neg (Ci 1))) (Ci 0)) _ O=_;rw[qao,qao,e3,qaa];show R.bind (nvR false (O2.g .ix O (.tup (s.1.map qaV)) (.int (-1))) O) _=_;rw[qhm,q];rfl
  have p2:=qaQ (ns:=ns) (k:=k+2) (many:=5) (by omega);have p2':=qaM (ns:=ns) (k:=k+2) (many:=5) (by omega);have p4:=qaQ (ns:=ns) (k:=k+4) (many:=9) (by omega);have p4':=qaM (ns:=ns) (k:=k+4) (many:=9) (by omega);obtain⟨y,hy,e8⟩:=qg7 (F:=F) (O:=O) (p:=p) (ns:=ns) (k:=0) (ρ:=(rD ns k s (some (.str n)) (some (.int (qan ns (k+2) 5 - 1+L))) none)) (es:=xY) (zs:=["a", "b", "ab"]) (e1:=Oo .add vA1 (Ci 3)) (k1:=k+3) D rfl rfl (by omega) rfl (by decide);have ky:keyOk y:=by
   simp only[List.mem_cons,List.not_mem_nil,or_false] at hy
   rcases hy with rfl|rfl|rfl<;>exact⟨by decide+kernel,by decide+kernel⟩
  generalize hM:qan ns (k+2) 5 - 1+L=M at*;refine⟨.add (max 0 (min 99 M),y,qan ns (k+4) 9 - 4),⟨⟨by show(0:Int)<=max 0 (min 99 M);omega,by show max 0 (min 99 M)<=(99:Int);omega⟩,ky,by show(-99:Int)<=qan ns (k+4) 9 - 4;omega,by show qan ns (k+4) 9 - 4<=(99:Int);omega⟩,qax rfl (head (qbR ?_ ?_))⟩
  ·rw[qao];show R.ok (NV.T.bl (decide (qan ns k 6<3))) O=_;rw[decide_eq_true w3]
  ·have c7:qab F (.call p [vA0,(Oo .add vA1 (Ci 2)),(Ci 5)]) (rD ns k s (some (.str n)) none none) O= .ok (.int (qan ns (k+2) 5)) O:=by show F p [.scr ns,.int (k+2),.int 5] O=_;exact D.p (by omega) (by omega)
   have c9:qab F (.call p [vA0,(Oo .add vA1 (Ci 4)),(Ci 9)]) (rD ns k s (some (.str n)) (some (.int M)) (some (.str y))) O= .ok (.int (qan ns (k+4) 9)) O:=by show F p [.scr ns,.int (k+4),.int 9] O=_;exact D.p (by omega) (by omega)
   have e7:qaC F (.set 7 (Oo .add (Oo .sub (.call p [vA0,(Oo .add vA1 (Ci 2)),(Ci 5)]) (Ci 1)) xL)) (rD ns k s (some (.str n)) none none) O= .ok (.nx (rD ns k s (some (.str n)) (some (.int M)) none)) O:=by rw[qaK,qao,qao,c7,qaa,qiK,qaa,qsY,qjw,qaa,eL,qaa,qpL,qjw,hM];rfl
   have e9:qab F xM (rD ns k s (some (.str n)) (some (.int M)) (some (.str y))) O= .ok (.int (max 0 (min 99 M))) O:=by simp
   have e8':qab F v8 (rD ns k s (some (.str n)) (some (.int M)) (some (.str y))) O= .ok (.str y) O:=rfl;have e8s:qaC F (.set 8 (Oo .ix (.lst false xY) (.call p [vA0,(Oo .add vA1 (Ci 3)),(Ci 3)]))) (rD ns k s (some (.str n)) (some (.int M)) none) O= .ok (.nx (rD ns k s (some (.str n)) (some (.int M)) (some (.str y)))) O:=(congrArg (λx=>R.bind x _) e8).trans rfl;rw[qag,e7,qaa,qaw,qag,e8s,qaa,qaw,qag,qa7,qbo,qaf,qiK,qaa,qaf,qbo,qaf,e9,qaa,qaf,e8',qaa,qaf,qao,c9];rfl
 ·by_cases w5:qan ns k 6<5
  ·refine⟨.hang n (.tup ((qe9 ns (k+10) 3).map Sp.T)),⟨hn,_,rfl,by have:=qmg (ns:=ns) (k:=k+10) (most:=3) (by omega);omega,qjO _ _ _⟩,qax rfl (head (qal ?_ (qbR ?_ ?_)))⟩
   ·rw[qao];show R.ok (NV.T.bl (decide (qan ns k 6<3))) O=_;rw[decide_eq_false w3]
   ·rw[qao];show R.ok (NV.T.bl (decide (qan ns k 6<5))) O=_;rw[decide_eq_true w5]
   ·rw[qag,qa7,qbo,qaf,qiK,qaa,qaf];show R.bind (R.bind (R.bind (R.bind (R.bind (R.bind (F a [.scr ns,.int (k+10),.int 3] O) _) _) _) _) _) _=_;rw[ha (by omega)];rfl
  ·refine⟨.lose n,hn,qax rfl (head (qal ?_ (qal ?_ (qcn rfl))))⟩
   ·rw[qao];show R.ok (NV.T.bl (decide (qan ns k 6<3))) O=_;rw[decide_eq_false w3]
   ·rw[qao];show R.ok (NV.T.bl (decide (qan ns k 6<5))) O=_;rw[decide_eq_false w5]
end
noncomputable def late(l:List Row)(r:Row):Bool:=match l.getLast? with
 |some x=>decide (r.1<x.1)
 |none=>false
noncomputable def qaR.go:qaR->Sta->Str ⊕ (Sta×NV.T)
 |.add r,s=>if late s.1 r=true then .inl "too late" else if s.1.length=12 then .inl "full" else .inr ((s.1++[r],s.2),.non)
 |.hang n t,s=>.inr ((s.1,qdx s.2 n t),.bl (qbL s.2 n).isSome)
 |.lose n,s=>match qbL s.2 n with
  |some t=>.inr ((s.1,qcj s.2 n),t)
  |none=>.inl "no name"
noncomputable def qbW(s:Sta):Str ⊕ (Sta×NV.T)->Sta
 |.inl _=>s
 |.inr p=>p.1
noncomputable def qbM:Str ⊕ (Sta×NV.T)->NV.T
 |.inl w=>.str w
 |.inr p=>p.2
noncomputable def qeo(b a:As):As:=b.foldl (λd p=>qdx d p.1 p.2) a
noncomputable def prA(q:Str×NV.T):NV.T:=.tup [.str q.1,q.2]
theorem qkq: ∀(b a:As),qkr (kv b) (kv a)=kv (qeo b a)
 |[],_=>rfl
 |q::b,a=>by show qkr _ (qlL _ _ q.2)=kv _;rw[qnA];exact qkq b _
theorem qg5{n:Str}(h:n∉a.map (·.1)):qdx a n t=a++[(n,t)]:=by
 unfold qdx
 simp_all
theorem qcH: ∀{b a:As},((a++b).map (·.1)).Nodup->qeo b a=a++b
 |[],a,_=>by simp[qeo]
 |q::b,a,h=>by
  have n:=λz=>by rw[List.map_append] at h;exact(List.nodup_append.mp h).2.2 _ z _ Vj rfl
  show qeo b (qdx a q.1 q.2)=_;rw[qg5 n,qcH (by simpa using h)];simp
theorem qks(b c a:As):qeo (b++c) a=qeo c (qeo b a):=List.foldl_append ..
theorem qhr(nd:(a.map (·.1)).Nodup)(h:q∈a):qbL a q.1=some q.2:=by
 unfold qbL
 induction a with
 |nil=>cases h
 |cons x a ih=>
  rw[List.map_cons,List.nodup_cons] at nd
  rcases List.mem_cons.mp h with rfl|h
  ·simp
  ·rw[List.find?_cons_of_neg (by
    intro z
    simp_all)]
   exact ih nd.2 h
theorem qkb{n:Str}(h:qbL a n=some t):(n,t)∈a:=by obtain⟨q,hq,rfl⟩:=Option.map_eq_some_iff.mp h;have:=List.find?_some hq;have e:=of_decide_eq_true this;subst e;exact List.mem_of_find?_eq_some hq
section
theorem qqS(h:qab F a ρ O= .ok x af)(h':qab F b ρ af= .ok y ah):qab F (.tup [a,b]) ρ O= .ok (.tup [x,y]) ah:=by
 simp_all
theorem qkG(hl:b.length<=900):nvR false (Bn.g .dct O [.lst (b.map prA)]) O= .ok (asT (qeo b [])) O:=by
 have e1:(b.map prA).filterMap qb7=kv b:=by rw[List.filterMap_map,kv,<-List.filterMap_eq_map];rfl
 have e2:((b.map prA).all λt=>(qb7 t).isSome)=true:=by rw[List.all_map,List.all_eq_true];intro q _;rfl
 have g:Bn.g .dct O [.lst (b.map prA)]=some (.d (kv (qeo b []))):=by show(if(b.map prA).length<=1000/\((b.map prA).all _)=true then some _ else none)=_;rw[if_pos ⟨by grind,e2⟩,e1];exact congrArg (λx=>some _) (qkq b [])
 rw[g];rfl
theorem qmk(h:qab F e ρ O= .ok (asT a) O):qab F (.litems e) ρ O= .ok (.lst (a.map prA)) O:=by show R.bind _ _=_;rw[h];show R.ok _ O=_;rw[List.map_map];rfl
theorem qv0(h:qab F e ρ O= .ok (asT a) O):qdu F (.gen e) ρ O (a.map λq=>.str q.1):=by refine⟨.fx _,?_,qdG⟩;show(qab F e ρ O).bind _=_;rw[h];show R.ok _ O=_;rw[List.map_map];rfl
abbrev rH(s:Sta)(d:qaR):Ro:=[some (qaz s),some d.T,some (.tup (s.1.map qaV)),some (asT s.2)]
abbrev xN:CE:=Oo .ix vA1 (Ci 1)
abbrev xE:CE:=Oo .ix (Oo .ix vA2 (.neg (Ci 1))) (Ci 0)
abbrev xH:CE:=.bn false .dct [(Oo .add (.litems vA3) (.lst false [(.tup [xN,(Oo .ix vA1 (Ci 2))])]))]
abbrev xC:CE:=.bn false .dct [(.comp false false 1 [1,3] (.n 0) (.gen vA3) (some (Oo .ne vA0 xN)) (.tup [vA0,(Oo .ix vA2 vA0)]))]
abbrev xB:CE:=.and (Oo .ne vA2 (.tup [])) (Oo .lt (Oo .ix xN (Ci 0)) xE)
noncomputable def qew:Fcd:=⟨false,2,4,[.asg (.tup [(.n 2),(.n 3)]) vA0,.ife (Oo .eq (Oo .ix vA1 (Ci 0)) (Cs "add")) [.ife xB [.ret (.tup [vA0,(Cs "too late")])] [],.ife (Oo .eq (.bn false .len [vA2]) (Ci 12)) [.ret (.tup [vA0,(Cs "full")])] [],.ret (.tup [(.tup [(Oo .add vA2 (.tup [xN])),vA3]),(.c .non)])] [],.ife (Oo .eq (Oo .ix vA1 (Ci 0)) (Cs "hang")) [.ret (.tup [(.tup [vA2,xH]),(Oo .in_ xN vA3)])] [],.ife (Oo .nin xN vA3) [.ret (.tup [vA0,(Cs "no name")])] [],.ret (.tup [(.tup [vA2,xC]),(Oo .ix vA3 xN)])]⟩
theorem qk4{s:Sta}{d:qaR}(hl:s.1.length<=12)(nd:(s.2.map (·.1)).Nodup)(ha:s.2.length<=800):qew.run F [qaz s,d.T] O= .ok (.tup [qaz (qbW s (d.go s)),qbM (d.go s)]) O:=by
 refine qax rfl ?_
 change (runSs F qew.b [some (qaz s),some d.T,none,none] O).bind outT=_
 refine qam (ρ':=rH s d) (μ':=O) rfl ?_;cases d with
 |add r=>
  refine qlw ?_;rw[qb3 rfl];have e2:qab F vA2 (rH s (.add r)) O= .ok (.tup (s.1.map qaV)) O:=rfl;have e0:qab F (.tup []) (rH s (.add r)) O= .ok (.tup []) O:=rfl;have t1:qab F xB (rH s (.add r)) O= .ok (.bl (late s.1 r)) O:=by
   rw[qnx,qao,e2,qaa,e0,qaa,qnJ];unfold late;cases q:s.1.getLast? with
   |none=>have:s.1=[]:=List.getLast?_eq_none_iff.mp q;rw[this];rfl
   |some x=>
    have ne:s.1.isEmpty=false:=by cases h:s.1 with|nil=>rw[h] at q;cases q|cons _ _=>rfl
    have f1:qab F (Oo .ix xN (Ci 0)) (rH s (.add r)) O= .ok (.int r.1) O:=rfl;have f2:qab F (.neg (Ci 1)) (rH s (.add r)) O= .ok (.int (-1)) O:=rfl;rw[ne,qjw,qaa,qcL,qaa,if_pos (show(!false)=true from rfl),qao,f1,qaa,qao,qao,e2,qaa,f2,qaa,qhm,q];rfl
  by_cases z:late s.1 r=true
  ·rw[qag,qb3 (t1.trans (by rw[z]))];simp only[qaR.go,z,if_true,qbW,qbM];rfl
  ·have z':late s.1 r=false:=by simpa using z
   rw[qag,qg2 (t1.trans (by rw[z'])),qi8,qaa,qaw,qag];have e3:qab F (Oo .eq (.bn false .len [vA2]) (Ci 12)) (rH s (.add r)) O= .ok (.bl (decide (s.1.length=12))) O:=by have:decide ((s.1.length:Int)=12)=decide (s.1.length=12):=decide_eq_decide.mpr (by omega);simp[this]
   by_cases l:s.1.length=12
   ·rw[qb3 (e3.trans (by rw[decide_eq_true l]))];simp only[qaR.go,z',l,if_true,qbW,qbM,Bool.false_eq_true,if_false];rfl
   ·rw[qg2 (e3.trans (by rw[decide_eq_false l])),qi8,qaa,qaw,qag,qa7,qbo,qaf,qbo,qaf,qao,e2,qaa];rw[show qab F (.tup [xN]) (rH s (.add r)) O= .ok (.tup [qaV r]) O from rfl,qaa,qyG (by simp;omega)];simp only[qaR.go,z',l,qbW,qbM,Bool.false_eq_true,if_false,qaz,List.map_append];rfl
 |hang n t=>
  refine qal rfl (qlw ?_);have e3:qab F vA3 (rH s (.hang n t)) O= .ok (asT s.2) O:=rfl;have el:qab F (.lst false [(.tup [xN,(Oo .ix vA1 (Ci 2))])]) (rH s (.hang n t)) O= .ok (.lst ([(n,t)].map prA)) O:=rfl;have e5:qab F xH (rH s (.hang n t)) O= .ok (asT (qdx s.2 n t)) O:=by rw[qbJ,qaf,qao,qmk e3,qaa,el,qaa,qht (xs:=s.2.map prA) (ys:=[(n,t)].map prA) rfl rfl (by rw[List.length_map];show s.2.length+1<=1000;omega),<-List.map_append];show nvR false (Bn.g .dct O [.lst ((s.2++[(n,t)]).map prA)]) O=_;rw[qkG (by rw[List.length_append];show s.2.length+1<=900;omega),qks,qcH (a:=[]) (b:=s.2) (by simpa using nd)];rfl
  have e6:qab F (Oo .in_ xN vA3) (rH s (.hang n t)) O= .ok (.bl (qbL s.2 n).isSome) O:=by rw[qao,show qab F xN (rH s (.hang n t)) O= .ok (.str n) O from rfl,qaa,e3,qaa,show O2.g .in_ O (.str n) (asT s.2)=_ from qmr (O:=O) (neg:=false) s.2 n];rfl
  rw[qb3 rfl,qag,qa7,qqS (qqS (a:=.v 2) (x:=.tup (s.1.map qaV)) rfl e5) e6];rfl
 |lose n=>
  have e3:qab F vA3 (rH s (.lose n)) O= .ok (asT s.2) O:=rfl;have t1:qab F (Oo .nin xN vA3) (rH s (.lose n)) O= .ok (.bl (!(qbL s.2 n).isSome)) O:=by rw[qao,show qab F xN (rH s (.lose n)) O= .ok (.str n) O from rfl,qaa,e3,qaa,show O2.g .nin O (.str n) (asT s.2)=_ from qmr (O:=O) (neg:=true) s.2 n];rfl
  refine qal rfl (qal rfl ?_);cases q:qbL s.2 n with
  |none=>rw[q] at t1;refine qbR t1 ?_;simp only[qaR.go,q,qbW,qbM];rfl
  |some t=>
   rw[q] at t1;refine qal t1 (qcn ?_);have cm:=qtZ (F:=F) (O:=O) (ρ:=(rH s (.lose n))) (x:=false) (fr:=[1,3]) (ci:=.gen vA3) (t:=some (Oo .ne vA0 xN)) (e:=.tup [vA0,(Oo .ix vA2 vA0)]) s.2 (λq=>.str q.1) (λq=>decide (q.1≠n)) prA (qv0 e3) (λq hq=>by
     rw[qoI,qao];show R.bind (nvR false (O2.g .ne O (.str q.1) (.str n)) O) _=_;rw[qv3,qjw,qaa,qcL];simp) (λq hq hp=>by
     rw[qbo,qaf,qlJ];show R.bind (R.bind (runA F [(Oo .ix vA2 vA0)] _ O) _) _=_;rw[qaf,qao];show R.bind (R.bind (R.bind (nvR false (O2.g .ix O (asT s.2) (.str q.1)) O) _) _) _=_;rw[qpD,qhr nd hq];rfl)
   have e5:qab F xC (rH s (.lose n)) O= .ok (asT (qcj s.2 n)) O:=by
    rw[qbJ,qaf,cm];show nvR false (Bn.g .dct O [.lst ((s.2.filter λq=>decide (q.1≠n)).map prA)]) O=_;rw[qkG (Nat.le_trans (List.length_filter_le _ _) (by omega:s.2.length<=900)),qcH (a:=[]) (by
     show((s.2.filter _).map _).Nodup;exact(List.Sublist.map _ List.filter_sublist).nodup nd)];rfl
   have e6:qab F (Oo .ix vA3 xN) (rH s (.lose n)) O= .ok t O:=by rw[qao,e3,qaa,show qab F xN (rH s (.lose n)) O= .ok (.str n) O from rfl,qaa,qpD,q];rfl
   rw[qqS (qqS (a:=.v 2) (x:=.tup (s.1.map qaV)) rfl e5) e6];simp only[qaR.go,q,qbW,qbM];rfl
end
theorem qnK{α:Type}[DecidableEq α]: ∀{l m:List α},l.Nodup->(∀x∈l,x∈m)->l.length<=m.length
 |[],_,_,_=>Nat.zero_le _
 |x::l,m,nd,h=>by
  rw[List.nodup_cons] at nd;have:=qnK nd.2 λy hy=>(List.mem_erase_of_ne (λz:y=x=>nd.1 (by rw[<-z];exact hy))).mpr (h y (Vk _ hy))
  grind
theorem qlh.len(h:qlh a):a.length<=4:=by
 have:=qnK h.nd λn hn=>by obtain⟨q,hq,rfl⟩:=List.mem_map.mp hn;exact h.nm q hq
 rw[List.length_map] at this;exact this
noncomputable def qm7(w:Nat):Fcd:=⟨false,1,1,[.ret (.call w [vA0,(Ci 6)])]⟩
theorem quZ(p:Wk.Sp):ub p.T=0:=by cases p<;>simp[Sp.T,ub,ubs]
theorem qu0(p:Wk.Sp):okT (n+1) p.T=true:=by cases n<;>cases p<;>simp[Sp.T,okT]
theorem qbA.ub(h:qbA t):NV.ub t=0:=by obtain⟨ps,rfl,_⟩:=h;exact qls λt ht=>by obtain⟨p,_,rfl⟩:=List.mem_map.mp ht;exact quZ p
theorem qbA.okT(h:qbA t):NV.okT (n+2) t=true:=by obtain⟨ps,rfl,_⟩:=h;unfold NV.okT;rw[List.all_eq_true];intro t ht;obtain⟨p,_,rfl⟩:=List.mem_map.mp ht;exact qu0 p
theorem qlh.ub(h:qlh a): ∀q∈a,NV.ub q.2=0:=λq hq=>(h.ak q hq).ub
theorem qjd{n:Str}(h:n∈a.map (·.1)):(qdx a n t).map (·.1)=a.map (·.1):=by
 unfold qdx;obtain⟨q,hq,rfl⟩:=List.mem_map.mp h;rw[if_pos (List.any_eq_true.mpr ⟨q,hq,decide_eq_true rfl⟩),List.map_map];refine List.map_congr_left λr _=> ?_;show(if r.1=q.1 then(r.1,t) else r).1=r.1
 split<;>rfl
theorem qlh.put{n:Str}(h:qlh a)(hn:n∈nms)(ht:qbA t):qlh (qdx a n t):=by
 by_cases z:n∈a.map (·.1)
 ·have e:=qjd (t:=t) z;refine⟨λq hq=> ?_,by rw[e];exact h.nd,λq hq=> ?_⟩
  ·have:q.1∈(qdx a n t).map (·.1):=List.mem_map.mpr ⟨q,hq,rfl⟩;rw[e] at this;obtain⟨r,hr,er⟩:=List.mem_map.mp this;rw[<-er];exact h.nm r hr
  ·unfold qdx at hq;split at hq
   ·obtain⟨r,hr,rfl⟩:=List.mem_map.mp hq;split
    ·exact ht
    ·exact h.ak r hr
   simp_all
 ·rw[qg5 z];refine⟨λq hq=> ?_,?_,λq hq=> ?_⟩
  ·rcases List.mem_append.mp hq with y|y
   ·exact h.nm q y
   ·rw[List.mem_singleton.mp y];exact hn
  ·rw[List.map_append,List.nodup_append];exact⟨h.nd,by simp,λx hx y hy e=>by simp_all⟩
  ·rcases List.mem_append.mp hq with y|y
   ·exact h.ak q y
   ·rw[List.mem_singleton.mp y];exact ht
theorem qlh.drop{n:Str}(h:qlh a):qlh (qcj a n):=
 ⟨λq hq=>h.nm q (List.mem_filter.mp hq).1,(List.Sublist.map _ List.filter_sublist).nodup h.nd,λq hq=>h.ak q (List.mem_filter.mp hq).1⟩
theorem qlC(h:Ris l)(q:l.getLast? =some x): ∀y∈l,y.1<=x.1:=by
 intro y hy;have ne:l≠[]:=λz=>by rw[z] at q;cases q
 have e:=List.dropLast_concat_getLast ne;have ex:=by rw[List.getLast?_eq_some_getLast ne] at q;exact Option.some.inj q
 rw[ex] at e;rw[<-e] at hy h
 rcases List.mem_append.mp hy with z|z
 ·exact(List.pairwise_append.mp h).2.2 y z x (List.mem_singleton.mpr rfl)
 simp_all
theorem qi4(h:Ris l)(hl:late l r=false):Ris (l++[r]):=by
 refine List.pairwise_append.mpr ⟨h,List.pairwise_singleton _ _,λy hy z hz=> ?_⟩;rw[List.mem_singleton.mp hz];cases q:l.getLast? with
 |none=>simp_all
 |some x=>unfold late at hl;rw[q] at hl;have:=of_decide_eq_false hl;have:=qlC h q y hy;omega
theorem qhl: ∀{l:List Row}{r:Row},late l r=true->qgb (l++[r])=false
 |[],_,h=>by cases h
 |[x],r,h=>by
  have h:=h;have h:=of_decide_eq_true h;show(decide _&&true)=false
  grind
 |x::y::l,r,h=>by
  have h':=by exact h
  have ih:=qhl (l:=y::l) h';show(decide _&&qgb (y::l++[r]))=false;rw[ih,Bool.and_false]
theorem qq8.add{l:List Row}{r:Row}(h:qq8 l)(hr:rowOk r)(hl:late l r=false)(hn:l.length≠12):qq8 (l++[r]):=
 ⟨λx hx=>by
  rcases List.mem_append.mp hx with z|z
  ·exact h.r x z
  grind,qi4 h.s hl,by have:=h.n;grind⟩
theorem qv2{s:Sta}{d:qaR}(hs:qdn s)(hd:d.ok):qdn (qbW s (d.go s)):=by
 cases d with
 |add r=>
  show qdn (qbW s (if late s.1 r=true then .inl _ else if s.1.length=12 then .inl _ else .inr _));by_cases z:late s.1 r=true
  ·rw[if_pos z];exact hs
  ·rw[if_neg z];by_cases l:s.1.length=12
   ·rw[if_pos l];exact hs
   ·rw[if_neg l];exact⟨hs.l.add hd (by simpa using z) l,hs.a⟩
 |hang n t=>exact⟨hs.l,hs.a.put hd.1 hd.2⟩
 |lose n=>
  show qdn (qbW s (match qbL s.2 n with|some t=>.inr _|none=>.inl _));cases qbL s.2 n with
  |some t=>exact⟨hs.l,hs.a.drop⟩
  |none=>exact hs
structure qcw(d:Dsk):Prop where
 st:qdn (d.log,d.asks)
 ps: ∀s∈d.past,qdn s.2
 cm: ∀s∈d.coming,qdn s.2
noncomputable def qaR.on(D:qaR)(d:Dsk):Dsk:=match D.go (d.log,d.asks) with
 |.inl _=>d
 |.inr p=>⟨p.1.1,p.1.2,d.past++[(D.w,d.log,d.asks)],[]⟩
theorem qsn{D:qaR}(h:qcw d)(hd:D.ok):qcw (D.on d):=by
 have g:=qv2 h.st hd;unfold qaR.on;cases q:D.go _ with
 |inl w=>exact h
 |inr p=>
  rw[q] at g;refine⟨g,λs hs=> ?_,λs hs=>nomatch hs⟩
  rcases List.mem_append.mp hs with z|z
  ·exact h.ps s z
  ·rw[List.mem_singleton.mp z];exact h.st
structure Dks(F:Fs)(hg ad lo:Nat):Prop where
 hang: ∀{O:Mu}{x p c:Nat}{d:Dsk}{n:Str}{t:NV.T},DS O x p c d->qdn (d.log,d.asks)->d.past.length<=900->n∈nms->qbA t->
  ∃μ',F hg [.obj x,.str n,t] O= .ok (.bl (qbL d.asks n).isSome) μ'/\DS μ' x p c ⟨d.log,qdx d.asks n t,d.past++[((("hang" :Str),d.log,d.asks):St3)],[]⟩/\On O μ' x p c
 late: ∀{O:Mu}{x p c:Nat}{d:Dsk}{r:Row},DS O x p c d->qdn (d.log,d.asks)->rowOk r->late d.log r=true->F ad [.obj x,qaV r] O= .ex "TooLate" O
 full: ∀{O:Mu}{x p c:Nat}{d:Dsk}{r:Row},DS O x p c d->qdn (d.log,d.asks)->rowOk r->Dk.late d.log r=false->d.log.length=12->F ad [.obj x,qaV r] O= .ex "Full" O
 add: ∀{O:Mu}{x p c:Nat}{d:Dsk}{r:Row},DS O x p c d->qdn (d.log,d.asks)->d.past.length<=900->rowOk r->Dk.late d.log r=false->d.log.length≠12->
  ∃μ',F ad [.obj x,qaV r] O= .ok .non μ'/\DS μ' x p c ⟨d.log++[r],d.asks,d.past++[((("add" :Str),d.log,d.asks):St3)],[]⟩/\On O μ' x p c
 no: ∀{O:Mu}{x p c:Nat}{d:Dsk}{n:Str},DS O x p c d->n∈nms->qbL d.asks n=none->F lo [.obj x,.str n] O= .ex "NoName" O
 lose: ∀{O:Mu}{x p c:Nat}{d:Dsk}{n:Str}{t:NV.T},DS O x p c d->qdn (d.log,d.asks)->d.past.length<=900->n∈nms->qbL d.asks n=some t->
  ∃μ',F lo [.obj x,.str n] O= .ok t μ'/\DS μ' x p c ⟨d.log,qcj d.asks n,d.past++[((("lose" :Str),d.log,d.asks):St3)],[]⟩/\On O μ' x p c
section
theorem qty(hH: ∀ts O,F hg ts O=(qdQ na nm ds).run F1 ts O)(hA: ∀ts O,F ad ts O=(qkU nl ds).run F1 ts O)(hL: ∀ts O,F lo ts O=(qde ao ds).run F1 ts O)(hD: ∀ts O,F1 ds ts O=qqA.run F2 ts O)(hO: ∀ts O,F1 ao ts O=(qdg jz).run F2 ts O)(i8: ∀{t:NV.T}{O:Mu},qbA t->F1 na [t] O= .ok .non O)(iK: ∀{n:Str}{O:Mu},n∈nms->F1 nm [.str n] O= .ok (.bl true) O)(gk: ∀{n:Str}{O:Mu},n∈nms->F2 jz [.str n] O= .ok (.bl true) O)(iN: ∀{l:List Row}{r:Row}{O:Mu},qq8 l->rowOk r->F1 nl [qbg (l++[r])] O=if Dk.late l r=true then .ex "TooLate" O else .ok .non O):Dks F hg ad lo where
 hang {O x p c d n t} h hs hp hn ht:=by have l4:d.asks.length<=4:=hs.a.len;obtain⟨μ',e,a,b⟩:=qpI (F:=F1) (F1:=F2) (na:=na) (nm:=nm) (ds:=ds) (n:=n) (t:=t) h (i8 ht) (iK hn) (.inr (by omega)) (by omega) ht.ub hp hD;exact⟨μ',by rw[hH];exact e,a,b⟩
 late {O x p c d r} h hs hr hl:=by rw[hA];exact qqN h (by have:d.log.length<=12:=hs.l.n;omega) (by rw[iN hs.l hr,if_pos hl])
 full {O x p c d r} h hs hr hl hn:=by rw[hA];exact qnm h (by rw[iN hs.l hr,if_neg (by rw[hl];decide)]) hn
 add {O x p c d r} h hs hp hr hl hn:=by obtain⟨μ',e,a,b⟩:=qug (F:=F1) (F1:=F2) (nl:=nl) (ds:=ds) (r:=r) h (by rw[iN hs.l hr,if_neg (by rw[hl];decide)]) (by have:=hs.l.n;have:d.log.length<=12:=this;omega) hp hD;exact⟨μ',by rw[hA];exact e,a,b⟩
 no {O x p c d n} h hn hg:=by rw[hL];exact qpt h (by rw[hO];exact quc h (gk hn) hg)
 lose {O x p c d n t} h hs hp hn hg:=by obtain⟨μ',e,a,b⟩:=qps (F:=F1) (F1:=F2) (ao:=ao) (ds:=ds) (n:=n) (t:=t) h (by rw[hO];exact qn9 h (gk hn) hg) hg (hs.a.ub _ (qkb hg)) hp hD;exact⟨μ',by rw[hL];exact e,a,b⟩
theorem told_ok(h:qab F e (qa3 0 fr ρ) O= .ok t m):qab F (.told wd fr e) ρ O= .ok t m:=by show qgo _ fr _ ρ O=_;unfold qgo;rw[h]
theorem qdV{k w:Str}(h:qab F e (qa3 0 fr ρ) O= .ex k m)(hw:wd.lookup k=some w):qab F (.told wd fr e) ρ O= .ok (.str w) m:=by show qgo _ fr _ ρ O=_;unfold qgo;simp_all
noncomputable def qt5(wd:List (Str×Str))(hg ad lo:Nat):Fcd:=⟨false,2,2,[.ife (Oo .eq (Oo .ix vA1 (Ci 0)) (Cs "hang")) [.ret (.told wd [1,0] (.mth [("Desk",hg)] "hang" vA1 [(Oo .ix vA0 (Ci 1)),(Oo .ix vA0 (Ci 2))]))] [],.ret (.told wd [1,0] (.ife (Oo .eq (Oo .ix vA0 (Ci 0)) (Cs "add")) (.mth [("Desk",ad)] "add" vA1 [(Oo .ix vA0 (Ci 1))]) (.mth [("Desk",lo)] "lose" vA1 [(Oo .ix vA0 (Ci 1))])))]⟩
theorem qtz{d:Dsk}{wd:List (Str×Str)}{hg ad lo:Nat}{D:qaR}(K:Dks F hg ad lo)(h:DS O x p c d)(hs:qdn (d.log,d.asks))(hp:d.past.length<=900)(hd:D.ok)(w1:wd.lookup ("TooLate" :Str)=some "too late")(w2:wd.lookup ("Full" :Str)=some "full")(w3:wd.lookup ("NoName" :Str)=some "no name"):
  ∃μ',(qt5 wd hg ad lo).run F [.obj x,D.T] O= .ok (qbM (D.go (d.log,d.asks))) μ'/\DS μ' x p c (D.on d)/\On O μ' x p c:=by
 cases D with
 |hang n t=>
  obtain⟨μ',e,a,b⟩:=K.hang h hs hp hd.1 hd.2;refine⟨μ',qa2 rfl (qbR rfl ?_) b.len,a,b⟩;have eh:qab F (.mth [("Desk",hg)] "hang" vA1 [(Oo .ix vA0 (Ci 1)),(Oo .ix vA0 (Ci 2))]) [some (qaR.hang n t).T,some (.obj x)] O= .ok (.bl (qbL d.asks n).isSome) μ':=by rw[qaT (k:=x) (i:=hg) rfl h.ins rfl rfl];exact e
  rw[qag,qa7,told_ok eh];rfl
 |add r=>
  have em:qab F (.ife (Oo .eq (Oo .ix vA0 (Ci 0)) (Cs "add")) (.mth [("Desk",ad)] "add" vA1 [(Oo .ix vA0 (Ci 1))]) (.mth [("Desk",lo)] "lose" vA1 [(Oo .ix vA0 (Ci 1))])) [some (qaR.add r).T,some (.obj x)] O=F ad [.obj x,qaV r] O:=by rw[qg3,show qab F (Oo .eq (Oo .ix vA0 (Ci 0)) (Cs "add")) [some (qaR.add r).T,some (.obj x)] O= .ok (.bl true) O from rfl,qaa,qcL,qaa,if_pos rfl,qaT (k:=x) (i:=ad) rfl h.ins rfl rfl];rfl
  by_cases z:late d.log r=true
  ·have eg:(qaR.add r).go (d.log,d.asks)= .inl "too late" :=if_pos z;refine⟨O,qa2 rfl (qal rfl (qcn ?_)) rfl,?_,.refl⟩
   ·rw[qdV (em.trans (K.late h hs hd z)) w1,eg];rfl
   ·unfold qaR.on;rw[eg];exact h
  ·have z':late d.log r=false:=by simpa using z
   by_cases l:d.log.length=12
   ·have eg:(qaR.add r).go (d.log,d.asks)= .inl "full" :=(if_neg z).trans (if_pos l);refine⟨O,qa2 rfl (qal rfl (qcn ?_)) rfl,?_,.refl⟩
    ·rw[qdV (em.trans (K.full h hs hd z' l)) w2,eg];rfl
    ·unfold qaR.on;rw[eg];exact h
   ·have eg:(qaR.add r).go (d.log,d.asks)= .inr ((d.log++[r],d.asks),.non):=(if_neg z).trans (if_neg l);obtain⟨μ',e,a,b⟩:=K.add h hs hp hd z' l;refine⟨μ',qa2 rfl (qal rfl (qcn ?_)) b.len,?_,b⟩
    ·rw[told_ok (em.trans e),eg];rfl
    ·unfold qaR.on;rw[eg];exact a
 |lose n=>
  have em:qab F (.ife (Oo .eq (Oo .ix vA0 (Ci 0)) (Cs "add")) (.mth [("Desk",ad)] "add" vA1 [(Oo .ix vA0 (Ci 1))]) (.mth [("Desk",lo)] "lose" vA1 [(Oo .ix vA0 (Ci 1))])) [some (qaR.lose n).T,some (.obj x)] O=F lo [.obj x,.str n] O:=by rw[qg3,show qab F (Oo .eq (Oo .ix vA0 (Ci 0)) (Cs "add")) [some (qaR.lose n).T,some (.obj x)] O= .ok (.bl false) O from rfl,qaa,qcL,qaa,if_neg (by decide),qaT (k:=x) (i:=lo) rfl h.ins rfl rfl];rfl
  cases q:qbL d.asks n with
  |none=>
   have eg:(qaR.lose n).go (d.log,d.asks)= .inl "no name" :=by show(match qbL d.asks n with|some t=>_|none=>_)=_;rw[q]
   refine⟨O,qa2 rfl (qal rfl (qcn ?_)) rfl,?_,.refl⟩
   ·rw[qdV (em.trans (K.no h hd q)) w3,eg];rfl
   ·unfold qaR.on;rw[eg];exact h
  |some t=>
   have eg:(qaR.lose n).go (d.log,d.asks)= .inr ((d.log,qcj d.asks n),t):=by show(match qbL d.asks n with|some t=>_|none=>_)=_;rw[q]
   obtain⟨μ',e,a,b⟩:=K.lose h hs hp hd q;refine⟨μ',qa2 rfl (qal rfl (qcn ?_)) b.len,?_,b⟩
   ·rw[told_ok (em.trans e),eg];rfl
   ·unfold qaR.on;rw[eg];exact a
end
section
theorem qh4(ts:List NV.T):(qeL ts).Perm ts:=SR.perm_srt _
theorem qow(nd:(a.map (·.1)).Nodup): ∃b:As,b.Perm a/\qeL (nmT a)=nmT b:=by
 have key: ∀(l:List _)(a:As),l.Perm (nmT a)->∃b:As,b.Perm a/\l=nmT b:=λl=>by
  induction l with
  |nil=>
   intro a h;have:=h.symm.eq_nil;have:=List.map_eq_nil_iff.mp this
   simp_all
  |cons t l ih=>
   intro a h;have ht:=h.mem_iff.mp Vj;obtain⟨q,hq,rfl⟩:=List.mem_map.mp ht;obtain⟨a1,a2,rfl⟩:=List.append_of_mem hq;have h2:l.Perm (nmT (a1++a2)):=by
    have e:nmT (a1++q::a2)=nmT a1++NV.T.str q.1::nmT a2:=by unfold nmT;simp
    rw[e] at h;have:=(List.perm_cons _).mp (h.trans List.perm_middle);unfold nmT at this⊢
    grind
   obtain⟨b,hb,e⟩:=ih _ h2;exact⟨q::b,((List.perm_cons q).mpr hb).trans List.perm_middle.symm,by rw[e];rfl⟩
 exact key _ a (qh4 _)
noncomputable def qkT(fE nm ao:Nat):Fcd:=⟨false,1,1,[.ret (.tup [(.bn false .tup [(.mth [("Desk",fE)] "rows" vA0 [])]),(.bn false .dct [(.comp false false 1 [0] (.n 0) (.gen (.mth [("Desk",nm)] "names" vA0 [])) none (.tup [vA0,(.mth [("Desk",ao)] "ask_of" vA1 [vA0])]))])])]⟩
theorem que(hR: ∀ts O,F fE ts O=qgt.run F1 ts O)(hN: ∀ts O,F nm ts O=qgy.run F1 ts O)(hO: ∀ts O,F ao ts O=(qdg nn).run F1 ts O)(iK: ∀{n:Str}{O:Mu},n∈nms->F1 nn [.str n] O= .ok (.bl true) O)(h:DS O x p c d)(hs:qdn (d.log,d.asks)):
  ∃b:As,b.Perm d.asks/\(qkT fE nm ao).run F [.obj x] O= .ok (qaz (d.log,b)) O:=by
 have l1:=hs.l.n;have l2:=hs.a.len;have l1:d.log.length<=12:=l1;have l2:d.asks.length<=4:=l2;obtain⟨b,hb,eb⟩:=qow (a:=d.asks) hs.a.nd;refine⟨b,hb,qax rfl (qcn ?_)⟩;have nd:(b.map (·.1)).Nodup:=(hb.map _).nodup_iff.mpr hs.a.nd;have e1:qab F (.bn false .tup [(.mth [("Desk",fE)] "rows" vA0 [])]) [some (.obj x)] O= .ok (.tup (d.log.map qaV)) O:=by rw[qbJ,qaf,qaT (k:=x) (i:=fE) rfl h.ins rfl rfl,qa5,qaa,hR,qlB h (by omega)];rfl
 have en:qab F (.mth [("Desk",nm)] "names" vA0 []) [some (.obj x)] O= .ok (.lst (b.map λq=>.str q.1)) O:=by rw[qaT (k:=x) (i:=nm) rfl h.ins rfl rfl,qa5,qaa,hN,ql8 h (by omega),eb];rfl
 have cm:=qfy (F:=F) (O:=O) (ρ:=[some (.obj x)]) (x:=false) (fr:=[0]) (ci:=.gen (.mth [("Desk",nm)] "names" vA0 [])) b (λq=>.str q.1) prA (qhq en rfl) λq hq=>by
  have bx:q∈d.asks:=hb.mem_iff.mp hq;have ea:qab F (.mth [("Desk",ao)] "ask_of" vA1 [vA0]) (some (.str q.1)::frO [0] [some (.obj x)]) O= .ok q.2 O:=by rw[qaT (k:=x) (i:=ao) rfl h.ins rfl rfl];show F ao [.obj x,.str q.1] O=_;rw[hO];exact qn9 h (iK (hs.a.nm q bx)) (qhr hs.a.nd bx)
  exact qqS (a:=.v 0) (x:=.str q.1) rfl ea
 have e2:qab F (.bn false .dct [(.comp false false 1 [0] (.n 0) (.gen (.mth [("Desk",nm)] "names" vA0 [])) none (.tup [vA0,(.mth [("Desk",ao)] "ask_of" vA1 [vA0])]))]) [some (.obj x)] O= .ok (asT b) O:=by rw[qbJ,qaf,cm];show nvR false (Bn.g .dct O [.lst (b.map prA)]) O=_;rw[qkG (by rw[hb.length_eq];omega),qcH (a:=[]) (b:=b) nd];rfl
 exact qqS e1 e2
theorem qpf(ha: ∀q∈a,qbA q.2)(hb: ∀q∈b,qbA q.2):okP 3 (qaz (l,a)) (qaz (l',b))=true:=by
 have o1:okP 2 (.tup (l.map qaV)) (.tup (l'.map qaV))=true:=by show((okT 4 _&&okT 4 _)||_)=true;rw[qhe l,qhe l'];rfl
 have o2:okP 2 (asT a) (asT b)=true:=by
  show((okT 4 _&&okT 4 _)||((kv a).all _&&(kv b).all _))=true;have z: ∀{a },(∀q∈a,qbA q.2)->((kv a).all λp=>okT 3 p.2)=true:=λ{a} h=>by
   rw[List.all_map,List.all_eq_true]
   exactλq hq=>(h q hq).okT
  rw[z ha,z hb,Bool.and_self,Bool.or_true]
 show((okT 4 _&&okT 4 _)||([0,1].all _))=true
 simp_all
theorem qtj(hp:a.Perm b)(nd:(b.map (·.1)).Nodup)(hb: ∀q∈b,qbA q.2):eqT (qaz (l,a)) (qaz (l,b))=true:=by
 have e1:=qbI 8 _ (qhe l);have nd':((kv b).map (·.1)).Nodup:=by rw[List.map_map];have:((λx=>x.1)∘λq:Str×NV.T=>((.inr q.1),q.2))=(λn=>(.inr n:Key))∘λq=>q.1:=rfl;rw[this,<-List.map_map];exact List.pairwise_map.mpr (nd.imp λh z=>h (by injection z))
 have e2:eqTd (kv a) _=true:=qc9 nd' (by rw[List.all_map,List.all_eq_true];exactλq hq=>(hb q hq).okT) λq hq=>by
  grind
 show(eqT _ _&&(((kv a).length==(kv b).length&&eqTd _ _)&&true))=true;rw[e1,e2,List.length_map,List.length_map,hp.length_eq,beq_self_eq_true];rfl
theorem qsB(hp:a.Perm b)(nd:(b.map (·.1)).Nodup)(hb: ∀q∈b,qbA q.2):O2.g .ne O (qaz (l,a)) (qaz (l,b))=some (.v (.bl false)):=by
 have ha:=λq hq=>hb q (hp.mem_iff.mp hq);have o:=qpf (l:=l) (l':=l) ha hb;have e:=qtj (l:=l) hp nd hb;have n8: ∀a,okT 8 (qaz (l,a))=false:=λa=>by show(okT 7 _&&(false&&true))=false;simp
 have d1: ∀a,dr1 O (qaz _)=qaz (l,a):=λ_=>rfl;have d2: ∀a,dr2 O (qaz (l,a))=qaz _:=λ_=>rfl;show qll _ O _ _=_;unfold qll
 simp_all
end
section
noncomputable def qdR(sb:Nat):Fcd:=⟨false,1,1,[.ret (.mth [("Desk",sb)] "step_between" vA0 [(.fld ["Desk"] "past" vA0),(.fld ["Desk"] "coming" vA0)])]⟩
noncomputable def qdf(sb:Nat):Fcd:=⟨false,1,1,[.ret (.mth [("Desk",sb)] "step_between" vA0 [(.fld ["Desk"] "coming" vA0),(.fld ["Desk"] "past" vA0)])]⟩
theorem qn7(h:DS O x p c d):qab F (.mth [("Desk",sb)] "step_between" vA0 [(.fld ["Desk"] "past" vA0),(.fld ["Desk"] "coming" vA0)]) [some (.obj x)] O=F sb [.obj x,.obj p,.obj c] O:=by rw[qaT rfl h.ins rfl rfl,qaf,fl h rfl rfl,qaa,qaf,fl h rfl rfl];rfl
theorem qpT(h:DS O x p c d):qab F (.mth [("Desk",sb)] "step_between" vA0 [(.fld ["Desk"] "coming" vA0),(.fld ["Desk"] "past" vA0)]) [some (.obj x)] O=F sb [.obj x,.obj c,.obj p] O:=by rw[qaT rfl h.ins rfl rfl,qaf,fl h rfl rfl,qaa,qaf,fl h rfl rfl];rfl
theorem qnk(hS: ∀ts O,F sb ts O=qdt.run F1 ts O)(h:DS O x p c d)(hp:d.past=[]):(qdR sb).run F [.obj x] O= .ex "NoBack" O:=by refine run_ex rfl (qfR ?_);have:=h.ps;rw[hp] at this;exact(congrArg (λz=>R.bind z _) ((qn7 h).trans ((hS _ _).trans (qt7 this)))).trans rfl
theorem qnj(hS: ∀ts O,F sb ts O=qdt.run F1 ts O)(h:DS O x p c d)(hp:d.past=ss++[s])(hl:d.coming.length<=900): ∃μ',(qdR sb).run F [.obj x] O= .ok (.str s.1) μ'/\DS μ' x p c ⟨s.2.1,s.2.2,ss,d.coming++[(s.1,d.log,d.asks)]⟩/\On O μ' x p c:=by obtain⟨μ',e,a,b⟩:=qqH h hp hl;exact⟨μ',qa2 rfl (qcn ((qn7 h).trans ((hS _ _).trans e))) b.len,a,b⟩
theorem qkl(hS: ∀ts O,F sb ts O=qdt.run F1 ts O)(h:DS O x p c d)(hp:d.coming=ss++[s])(hl:d.past.length<=900): ∃μ',(qdf sb).run F [.obj x] O= .ok (.str s.1) μ'/\DS μ' x p c ⟨s.2.1,s.2.2,d.past++[(s.1,d.log,d.asks)],ss⟩/\On O μ' x p c:=by obtain⟨μ',e,a,b⟩:=qmz h hp hl;exact⟨μ',qa2 rfl (qcn ((qpT h).trans ((hS _ _).trans e))) b.len,a,b⟩
end
noncomputable def Sof(d:Dsk):List Sta:=d.past.map (·.2)++(d.log,d.asks)::d.coming.reverse.map (·.2)
noncomputable def Wof(d:Dsk):List Str:=d.past.map (·.1)++d.coming.reverse.map (·.1)
theorem qns(d:Dsk):(Sof d)[d.past.length]? =some (d.log,d.asks):=by unfold Sof;simp
theorem qaU(d:Dsk):(Wof d).length=d.past.length+d.coming.length:=by simp[Wof]
theorem qcN(d:Dsk):(Sof d).length=d.past.length+d.coming.length+1:=by simp[Sof];omega
theorem qn8(h:d.past=ss++[s]):Sof ⟨s.2.1,s.2.2,ss,d.coming++[(s.1,d.log,d.asks)]⟩=Sof d/\Wof ⟨s.2.1,s.2.2,ss,d.coming++[(s.1,d.log,d.asks)]⟩=Wof d:=by
 unfold Sof Wof
 simp_all
theorem qkk(h:d.coming=ss++[s]):Sof ⟨s.2.1,s.2.2,d.past++[(s.1,d.log,d.asks)],ss⟩=Sof d/\Wof ⟨s.2.1,s.2.2,d.past++[(s.1,d.log,d.asks)],ss⟩=Wof d:=by
 unfold Sof Wof
 simp_all
theorem qxr{w:Str}:Sof ⟨q.1,q.2,d.past++[(w,d.log,d.asks)],[]⟩=(Sof d).take (d.past.length+1)++[q]/\Wof ⟨q.1,q.2,d.past++[(w,d.log,d.asks)],[]⟩=(Wof d).take d.past.length++[w]:=by
 unfold Sof Wof;constructor
 ·rw[List.take_append,List.take_of_length_le (by simp)];simp
 simp
theorem qni(k:qcw d)(h:d.past=ss++[s]):qcw ⟨s.2.1,s.2.2,ss,d.coming++[(s.1,d.log,d.asks)]⟩:=
 ⟨k.ps s (by rw[h];simp),λy hy=>k.ps y (by rw[h];simp[hy]),λy hy=>by
  rcases List.mem_append.mp hy with z|z
  ·exact k.cm y z
  ·rw[List.mem_singleton.mp z];exact k.st⟩
theorem qkj(k:qcw d)(h:d.coming=ss++[s]):qcw ⟨s.2.1,s.2.2,d.past++[(s.1,d.log,d.asks)],ss⟩:=
 ⟨k.cm s (by rw[h];simp),λy hy=>by
  rcases List.mem_append.mp hy with z|z
  ·exact k.ps y z
  ·rw[List.mem_singleton.mp z];exact k.st,λy hy=>k.cm y (by rw[h];simp[hy])⟩
theorem qda(s:Sta)(d:qaR)(hs:qdn s):(∃w,d.go s= .inl w/\w∈[("too late" :Str), "full", "no name"])\/∃p:Sta×NV.T,d.go s= .inr p/\(p.2= .non\/(∃b,p.2= .bl b)\/qbA p.2):=by
 cases d with
 |add r=>
  by_cases z:late s.1 r=true
  ·exact .inl ⟨_,if_pos z,by simp⟩
  ·by_cases l:s.1.length=12
   ·exact .inl ⟨_,(if_neg z).trans (if_pos l),by simp⟩
   ·exact .inr ⟨_,(if_neg z).trans (if_neg l),.inl rfl⟩
 |hang n t=>exact .inr ⟨_,rfl,.inr (.inl ⟨_,rfl⟩)⟩
 |lose n=>
  cases q:qbL s.2 n with
  |none=>exact .inl ⟨"no name",by show(match qbL s.2 n with|some t=>_|none=>_)=_;rw[q],by simp⟩
  |some t=>exact .inr ⟨((s.1,qcj s.2 n),t),by show(match qbL s.2 n with|some t=>_|none=>_)=_;rw[q],.inr (.inr (hs.a.ak _ (qkb q)))⟩
theorem qp3{d:qaR}(hs:qdn s):okT 8 (qbM (d.go s))=true:=by
 rcases qda s d hs with⟨w,e,_⟩|⟨p,e,h⟩
 ·rw[e];rfl
 ·rw[e];show okT 8 p.2=true
  rcases h with h|⟨b,h⟩|h
  ·rw[h];rfl
  ·rw[h];rfl
  ·exact h.okT
abbrev qk5:NV.T:=.tup [.str "too late",.str "full",.str "no name"]
theorem qjA{w:Str}(h:w∈[("too late" :Str), "full", "no name"]):O2.g .nin O (.str w) qk5=some (.v (.bl false)):=by
 simp only[List.mem_cons,List.not_mem_nil,or_false] at h
 rcases h with rfl|rfl|rfl<;>rfl
theorem qhi(h:t= .non\/(∃b,t= .bl b)\/qbA t):O2.g .nin O t qk5=some (.v (.bl true)):=by
 rcases h with rfl|⟨b,rfl⟩|h
 ·rfl
 ·rfl
 ·have o:=h.okT (n:=5);obtain⟨ps,rfl,_⟩:=h;have e:gIn true O (.tup (ps.map Sp.T)) qk5=some (.v (.bl true)):=by show(if okT 7 _=true/\_ then some (Nv.v (.bl true)) else none)=_;rw[if_pos ⟨o,rfl⟩]
  exact e
section
theorem DS.off(h:DS O y q e d')(o:On O m x p c)(a:y≠x/\y≠p/\y≠c)(b:q≠x/\q≠p/\q≠c)(g:e≠x/\e≠p/\e≠c):DS m y q e d':=
 ⟨(o.old y a.1 a.2.1 a.2.2).trans h.ins,(o.old q b.1 b.2.1 b.2.2).trans h.ps,(o.old e g.1 g.2.1 g.2.2).trans h.cm,h.ne,h.ua,h.up,h.uc⟩
theorem DS.old(h:DS O x p c d)(o: ∀j,j<O.l.length->m.l[j]? =O.l[j]?):DS m x p c d:=by obtain⟨a,b,k⟩:=h.lt;exact⟨(o x a).trans h.ins,(o p b).trans h.ps,(o c k).trans h.cm,h.ne,h.ua,h.up,h.uc⟩
theorem quy{f:Str}(h:DS O x p c d)(hv:qab F e ρ dy= .ok t O)(h1:ρ[1]? =some (some (.obj x))):qaC F (.fld ["Desk"] f vA1 e) ρ dy= .ok (.nx ρ) (O.put x (.ins "Desk" (qqX f t (fD d p c)))):=by rw[qb4,hv,qaa,qlJ,h1,qeg,qaa,qbj h.ins rfl (by show 4<1000;decide)];rfl
theorem qjI(he:qab F e ρ O= .ok (.obj k) O)(hk:O.l[k]? =some (.ls ts))(hu:ubC (.ls ts)=0):qab F (.bn true .lst [e]) ρ O= .ok (.obj O.l.length) (O.on (.ls ts)):=by
 have g:Bn.g .lst O [.obj k]=some (.l ts):=by show(qd3 O _).map _=_;rw[show qd3 O (.obj k)=some _ from qrt hk];rfl
 rw[qbJ,qaf,he,qaa,qa5,qaa,qaa,g,qvM,Mu.add_on hu]
noncomputable def qkP(i:Nat):Fcd:=⟨true,1,2,[.set 1 (.make "Desk" i []),.fld ["Desk"] "log" vA1 (.fld ["Desk"] "log" vA0),.fld ["Desk"] "asks" vA1 (.fld ["Desk"] "asks" vA0),.fld ["Desk"] "past" vA1 (.bn true .lst [(.fld ["Desk"] "past" vA0)]),.fld ["Desk"] "coming" vA1 (.bn true .lst [(.fld ["Desk"] "coming" vA0)]),.ret vA1]⟩
theorem qol(hI: ∀ts O,F i ts O=qfB.run F1 ts O)(h:DS O x p c d): ∃μ',(qkP i).run F [.obj x] O= .ok (.obj O.l.length) μ'/\DS μ' O.l.length (O.l.length+3) (O.l.length+4) d/\∀j,j<O.l.length->μ'.l[j]? =O.l[j]? :=by
 obtain⟨m1,e1,h1,l1,o1⟩:=qnI (F:=F) (F1:=F1) (i:=i) (O:=O) hI;generalize hn:O.l.length=n at*;obtain⟨a,b,k⟩:=h.lt;have fL:DS m1 x p c d:=h.old (by rw[hn];exact o1);obtain⟨h2,q2⟩:=h1.put d.log (a:=[]) (λ_ h=>nomatch h);generalize cH:m1.put n (.ins "Desk" (fD ⟨d.log,[],[],[]⟩ (n+1) (n+2)))=m2 at*;have gM:DS m2 x p c d:=fL.off q2 ⟨by omega,by omega,by omega⟩ ⟨by omega,by omega,by omega⟩ ⟨by omega,by omega,by omega⟩;obtain⟨h3,q3⟩:=h2.put d.log (a:=d.asks) h.ua;generalize gU:m2.put n (.ins "Desk" (fD ⟨d.log,d.asks,[],[]⟩ (n+1) (n+2)))=m3 at*;have iE:DS m3 x p c d:=gM.off q3 ⟨by omega,by omega,by omega⟩ ⟨by omega,by omega,by omega⟩ ⟨by omega,by omega,by omega⟩;have l3:m3.l.length=n+3:=by rw[q3.len,q2.len,l1]
 have up:ubC (.ls (d.past.map stT))=0:=qgL h.up;have uc:ubC (.ls (d.coming.map stT))=0:=qgL h.uc;have iu: ∀{m:Mu}{e:Ct}{j:Nat},j<m.l.length->(m.on e).l[j]? =m.l[j]? :=λ{m e j} hj=>by show(m.l++[e])[j]? =_;rw[List.getElem?_append_left hj]
 have g3:DS (m3.on (.ls (d.past.map stT))) n (n+1) (n+2) ⟨d.log,d.asks,[],[]⟩:=h3.old λj hj=>iu hj;have lo3:(m3.on (.ls (d.past.map stT))).l.length=n+4:=by show(m3.l++[_]).length=_;rw[List.length_append,l3];rfl
 let m4:Mu:=(m3.on (.ls (d.past.map stT))).put n (.ins "Desk" (fD ⟨d.log,d.asks,d.past,[]⟩ (n+3) (n+2)));have l4:m4.l.length=n+4:=by show(List.set _ _ _).length=_;rw[List.length_set,lo3]
 have h4:DS m4 n (n+3) (n+2) ⟨d.log,d.asks,d.past,[]⟩:=by refine⟨qdw g3.ins,(qaL (by omega)).trans ?_,(qaL (by omega)).trans g3.cm,⟨by omega,by omega,by omega⟩,h.ua,h.up,(λ_ h=>nomatch h)⟩;show(m3.l++[_])[n+3]? =_;rw[<-l3,List.getElem?_concat_length]
 have jF:DS m4 x p c d:=by have hx:DS (m3.on (.ls (d.past.map stT))) x p c d:=iE.old λj hj=>iu hj;exact⟨(qaL (by omega)).trans hx.ins,(qaL (by omega)).trans hx.ps,(qaL (by omega)).trans hx.cm,h.ne,h.ua,h.up,h.uc⟩
 have g4:DS (m4.on (.ls (d.coming.map stT))) n (n+3) (n+2) ⟨d.log,d.asks,d.past,[]⟩:=h4.old λj hj=>iu hj;let m5:Mu:=(m4.on (.ls (d.coming.map stT))).put n (.ins "Desk" (fD d (n+3) (n+4)));have h5:DS m5 n (n+3) (n+4) d:=by refine⟨qdw g4.ins,(qaL (by omega)).trans g4.ps,(qaL (by omega)).trans ?_,⟨by omega,by omega,by omega⟩,h.ua,h.up,h.uc⟩;show(m4.l++[_])[n+4]? =_;rw[<-l4,List.getElem?_concat_length]
 refine⟨m5,qrA rfl rfl ?_,h5,λj hj=> ?_⟩
 ·refine qam (ρ':=[some (.obj x),some (.obj n)]) (μ':=m1) ?_ (qam (ρ':=[some (.obj x),some (.obj n)]) (μ':=m2) ?_ (qam (ρ':=[some (.obj x),some (.obj n)]) (μ':=m3) ?_ (qam (ρ':=[some (.obj x),some (.obj n)]) (μ':=m4) ?_ (qam (ρ':=[some (.obj x),some (.obj n)]) (μ':=m5) ?_ (qcn rfl)))))
  ·have ed:qab F (.make "Desk" i []) [some (.obj x),none] O= .ok (.obj n) m1:=e1;exact(congrArg (λz=>R.bind z _) ed).trans rfl
  ·rw[quy (d:=⟨[],[],[],[]⟩) h1 (fl fL rfl rfl) rfl,<-cH];rfl
  ·rw[quy (d:=⟨d.log,[],[],[]⟩) h2 (fl gM rfl rfl) rfl,<-gU];rfl
  ·rw[quy (d:=⟨d.log,d.asks,[],[]⟩) g3 (qjI (fl iE rfl rfl) iE.ps up) rfl,l3];rfl
  ·rw[quy (d:=⟨d.log,d.asks,d.past,[]⟩) g4 (qjI (fl jF rfl rfl) jF.cm uc) rfl,l4];rfl
 ·show(List.set (m4.l++[_]) n _)[j]? =_;rw[List.getElem?_set_ne (by omega),List.getElem?_append_left (by omega)];show(List.set (m3.l++[_]) n _)[j]? =_;rw[List.getElem?_set_ne (by omega),List.getElem?_append_left (by omega),q3.old j (by omega) (by omega) (by omega),q2.old j (by omega) (by omega) (by omega)];exact o1 j hj
end
theorem qu1(h:d.past=[]):(Sof d)[0]? =some (d.log,d.asks):=by
 have:=qns d
 simp_all
theorem qjN{d:Dsk}(h:d.past≠[]): ∃s ss,d.past=ss++[s]:=⟨_,_,(List.dropLast_concat_getLast h).symm⟩
theorem qf9{d:Dsk}(h:d.coming≠[]): ∃s ss,d.coming=ss++[s]:=⟨_,_,(List.dropLast_concat_getLast h).symm⟩
end Dk
namespace K88
open PySem NV
noncomputable def top(i:Nat):Stmt:=PySem.Challenge.pw_rowasks_k88_whole_desk_twins.main.body.getD i (.Pass ⟨0,0,0,0⟩)
noncomputable def mth(i j:Nat):Stmt:=(qqx (top i)).getD j (.Pass ⟨0,0,0,0⟩)
noncomputable def gx:Gx where
 fs:=[(("_wall" :Str),top 0),(("is_whole" :Str),top 17),(("is_whole_within" :Str),top 18),(("is_word" :Str),top 19),(("is_key" :Str),top 20),(("is_row" :Str),top 21),(("is_log" :Str),top 22),(("refuse_what_is_no_row" :Str),top 23),(("refuse_out_of_order" :Str),top 24),(("refuse_what_is_no_log" :Str),top 25),(("over" :Str),top 29),(("under" :Str),top 30),(("plus" :Str),top 31),(("times" :Str),top 32),(("first" :Str),top 33),(("each" :Str),top 34),(("window" :Str),top 35),(("window_rows" :Str),top 36),(("running" :Str),top 37),(("change" :Str),top 38),(("unlike" :Str),top 39),(("is_step" :Str),top 43),(("is_ask" :Str),top 44),(("refuse_what_is_no_ask" :Str),top 45),(("is_name" :Str),top 50),(("Desk.__init__" :Str),mth 51 0),(("Desk.add" :Str),mth 51 1),(("Desk.hang" :Str),mth 51 2),(("Desk.lose" :Str),mth 51 3),(("Desk.ask_of" :Str),mth 51 4),(("Desk.answer" :Str),mth 51 5),(("Desk.names" :Str),mth 51 6),(("Desk.rows" :Str),mth 51 7),(("Desk.do_step" :Str),mth 51 8),(("Desk.back" :Str),mth 51 9),(("Desk.forth" :Str),mth 51 10),(("Desk.step_between" :Str),mth 51 11),(("Desk.counts" :Str),mth 51 12),(("Desk.twin" :Str),mth 51 13),(("_law_cell" :Str),top 53),(("_law_pick" :Str),top 54),(("_law_key" :Str),top 55),(("_law_number" :Str),top 56),(("_law_step" :Str),top 58),(("_law_ask" :Str),top 59),(("_law_class" :Str),top 60),(("_law_told" :Str),top 61),(("_law_deed" :Str),top 62),(("_law_behind" :Str),top 63),(("_law_did" :Str),top 64),(("_law_all_of" :Str),top 65),(("law" :Str),top 66)]
 cs:=[("GREATEST_MOMENT",.int (99)),("GREATEST_NUMBER",.int (99)),("LONGEST_KEY",.int (2)),("MOST_STEPS",.int (5)),("GREATEST_STEP_NUMBER",.int (20)),("MOST_ROWS",.int (12)),("MOST_NAMES",.int (6)),("LONGEST_NAME",.int (6))]
 ex:=[("AskError",["AskError", "ValueError"]),("NoRow",["NoRow", "AskError", "ValueError"]),("NoAsk",["NoAsk", "AskError", "ValueError"]),("TooLate",["TooLate", "AskError", "ValueError"]),("Ended",["Ended", "AskError", "ValueError"]),("Unlike",["Unlike", "AskError", "ValueError"]),("NoText",["NoText", "AskError", "ValueError"]),("NoNumber",["NoNumber", "AskError", "ValueError"]),("NoName",["NoName", "AskError", "ValueError"]),("Full",["Full", "AskError", "ValueError"]),("NoBack",["NoBack", "AskError", "ValueError"])]
 cl:=[("Desk",["log", "asks", "past", "coming"])]
 ow:=[(78,11),(89,11),(95,11),(102,11),(142,20),(143,22),(159,15),(166,15),(213,21),(214,23)]
 fz:=[(161, "asks"),(168, "asks")]
 xc:=[]
 kp:=["Desk.twin"]
 lm:=["law", "_law_did"]
 wd:=[("Ended", "ended"),("Full", "full"),("NoAsk", "no ask"),("NoBack", "no back"),("NoName", "no name"),("NoNumber", "no number"),("NoRow", "no row"),("NoText", "no text"),("TooLate", "too late"),("Unlike", "unlike")]
 dt:=[("NUMBER_STEPS",[("over", "over"),("under", "under"),("plus", "plus"),("times", "times")]),("COUNT_STEPS",[("first", "first"),("each", "each"),("window", "window")]),("BARE_STEPS",[("running", "running"),("change", "change"),("unlike", "unlike")])]
open Wk Dk
abbrev xA:CE:=Oo .ix vA2 (.neg (Ci 1))
abbrev xB:CE:=Oo .nin v7 vA3
abbrev xG:CE:=Oo .add (Ci 1000) (Oo .mul (Ci 90) vA4)
abbrev xH:CE:=Oo .add v10 (Oo .mul (Ci 90) vA4)
abbrev xK:CE:=.told gx.wd [13] (.mth [("Desk",34)] "back" vA0 [])
abbrev xM:CS:=.exp (.mth [("Desk",34)] "back" v13 [])
abbrev xN:CS:=.exp (.mth [("Desk",35)] "forth" v13 [])
noncomputable def A0:CS:=.set 5 (.call 47 [vA0,xG,xA])
noncomputable def A1:CS:=.asg (.tup [(.n 6),(.n 7)]) (.call 48 [xA,v5])
noncomputable def A2:CS:=.exp (.call 49 [vA1,v5])
noncomputable def A3:CS:=.set 2 (Oo .add vA2 (Oo .mul (.lst false [v6]) (.bn false .int [xB])))
noncomputable def S0:CS:=.par [1,2] [(.make "Desk" 25 []),(.lst false [(.tup [(.tup []),(.dct false)]),(.tup [(.tup [(.tup [(Ci 0),(Cs "a"),(Ci 1)])]),(.dct false)])])]
noncomputable def S1:CS:=.exp (.mth [("Desk",26)] "add" vA1 [(.tup [(Ci 0),(Cs "a"),(Ci 1)])])
noncomputable def S2:CS:=.set 3 (.tup [(Cs "too late"),(Cs "full"),(Cs "no name")])
noncomputable def S3:CS:=.for_ (.n 4) (.by_ .rng1 [(Ci 10)]) [A0,A1,A2,A3]
noncomputable def S4:CS:=.set 8 (Oo .sub (.bn false .len [vA2]) (Ci 1))
noncomputable def S5:CS:=.exp (.mth [("Desk",34)] "back" vA1 [])
noncomputable def S6:CS:=.set 9 (.mth [("Desk",38)] "twin" vA1 [])
noncomputable def S7:CS:=.ife (.or (Oo .ne (.mth [("Desk",37)] "counts" v9 []) (.tup [(Oo .sub v8 (Ci 1)),(Ci 1)])) (Oo .ne (.call 50 [v9]) (Oo .ix vA2 (.neg (Ci 2))))) [.ret (.c (.bl false))] []
noncomputable def C0:CS:=xN
noncomputable def C1:CS:=.par [11,12] [xA,v8]
noncomputable def C2:CS:=.ife (Oo .ne (.call 50 [v13]) v11) [.ret (.c (.bl false))] []
noncomputable def E0:CS:=.set 5 (.call 47 [vA0,xH,v11])
noncomputable def E1:CS:=.asg (.tup [(.n 11),(.n 7)]) (.call 48 [v11,v5])
noncomputable def E2:CS:=.ife (Oo .ne (.call 49 [v13,v5]) v7) [.ret (.c (.bl false))] []
noncomputable def E3:CS:=.set 12 (Oo .add v12 (.bn false .int [xB]))
noncomputable def C3:CS:=.for_ (.n 4) (.by_ .rng1 [(Ci 4)]) [E0,E1,E2,E3]
noncomputable def C4:CS:=.for_ (.n 4) (.by_ .rng1 [v12]) [xM]
noncomputable def C5:CS:=.ife (.or (Oo .ne (.call 50 [v13]) (.tup [(.tup []),(.dct false)])) (Oo .ne xK (Cs "no back"))) [.ret (.c (.bl false))] []
noncomputable def C6:CS:=.for_ (.n 4) (.by_ .rng1 [v12]) [xN]
noncomputable def C7:CS:=.ife (.or (Oo .ne (.call 50 [v13]) v11) (Oo .ne (.mth [("Desk",37)] "counts" v13 []) (.tup [v12,(Ci 0)]))) [.ret (.c (.bl false))] []
noncomputable def S8:CS:=.for_ (.tup [(.n 13),(.n 10)]) (.gen (.tup [(.tup [vA1,(Ci 3000)]),(.tup [v9,(Ci 4000)])])) [C0,C1,C2,C3,C4,C5,C6,C7]
noncomputable def S9:CS:=.ret (.c (.bl true))
noncomputable def cds:List (Nat×Fcd):=[(1,qkO),(2,qev 1),(3,qkN),(4,qgB 3),(5,qgz 2 4),(6,qgA),(7,qgv 5),(8,qgu 6),(9,qgw 7 8),(21,qn4 4 2),(22,qkS 21),(23,qgx 22),(24,qm7 3),(25,qfB),(26,qkU 9 33),(27,qdQ 23 24 33),(28,qde 29 33),(29,qdg 24),(31,qgy),(32,qgt),(33,qqA),(34,qdR 36),(35,qdf 36),(36,qdt),(37,qhJ),(38,qkP 25),(39,qfC),(40,qkQ 39),(41,qkR 40),(42,qcI 40),(43,qbl 40 41 42),(44,qn5 40 43),(47,qhI 40 44),(48,qew),(49,qt5 gx.wd 27 26 28),(50,qkT 32 31 29),(51,⟨false,1,14,[S0,S1,S2,S3,S4,S5,S6,S7,S8,S9]⟩)]
theorem tt{j i:Nat}{c:Fcd}(h:cds[j]? =some (i,c))(k:Nat):TTf gx (k+1) i=c.run (TTf gx k):=quI (show(cds.map _)=cds.map λp=>some p.2 by kernel_rfl) h k
section
variable{ns:List Int}{k:Nat}{O:Mu}
theorem drw(k:Nat):Drw (TTf gx (k+2)) 40 ns:=⟨λh0 hm=>by
 rw[tt (j:=27) rfl];exact qoT (by rw[tt (j:=26) rfl];exact qqz h0) hm⟩
theorem qu7(k:Nat){O:Mu}{i:Int}(h:0<=i):TTf gx (k+3) 41 [.scr ns,.int i] O= .ok (.str (qnL ns i)) O:=by rw[tt (j:=28) rfl];exact qsL (drw k) h
theorem qu5(k:Nat){O:Mu}{i m:Int}(h:0<=i)(hm:0<=m):TTf gx (k+3) 42 [.scr ns,.int i,.int m] O= .ok (.int (qie ns i m)) O:=by rw[tt (j:=29) rfl];exact qsy (drw k) h hm
theorem qrG(k:Nat){O:Mu}{i:Int}(h:0<=i):TTf gx (k+4) 43 [.scr ns,.int i] O= .ok (qcV ns i).T O:=by rw[tt (j:=30) rfl];exact qmd (drw _) (λh=>qu7 k h) (λh hm=>qu5 k h hm) h
theorem qu8(k:Nat){O:Mu}{i:Int}(h:0<=i):TTf gx (k+5) 44 [.scr ns,.int i,.int 3] O= .ok (.tup ((qe9 ns i 3).map Sp.T)) O:=by rw[tt (j:=31) rfl];exact qpw (drw _) (λh=>qrG k h) h ⟨by omega,by omega⟩
theorem qnu(k:Nat){O:Mu}{s:Sta}{i:Int}(hs:qdn s)(h:0<=i): ∃d:qaR,d.ok/\TTf gx (k+6) 47 [.scr ns,.int i,qaz s] O= .ok d.T O:=by rw[tt (j:=32) rfl];exact qqe (drw _) (λh=>qu8 k h) hs h
theorem qg1(k:Nat){O:Mu}{s:Sta}{d:qaR}(hs:qdn s):TTf gx (k+1) 48 [qaz s,d.T] O= .ok (.tup [qaz (qbW s (d.go s)),qbM (d.go s)]) O:=by rw[tt (j:=33) rfl];exact qk4 hs.l.n hs.a.nd (by have:=hs.a.len;omega)
theorem qrF{k:Nat}{O:Mu}{x:Str}(h:keyOk x):TTf gx (k+1) 3 [.str x,.int 2] O= .ok (.bl true) O:=by rw[tt (j:=2) rfl];exact qoe h
theorem qi7{k:Nat}{O:Mu}{x:Str}(h:keyOk x):TTf gx (k+2) 4 [.str x] O= .ok (.bl true) O:=by rw[tt (j:=3) rfl];exact qmo (qrF h)
theorem qg0{k:Nat}{O:Mu}(i a b:Int):TTf gx (k+2) 2 [.int i,.int a,.int b] O= .ok (.bl (decide (a<=i)&&decide (i<=b))) O:=by rw[tt (j:=1) rfl];exact qiM (by rw[tt (j:=0) rfl];exact qln)
theorem qoH{k:Nat}{O:Mu}{r:Row}(h:rowOk r):TTf gx (k+3) 5 [qaV r] O= .ok (.bl true) O:=by rw[tt (j:=4) rfl];exact qmn h (λi a b=>qg0 i a b) λx h=>qi7 h
theorem qoF{k:Nat}{O:Mu}{t:T}{rs:List Row}(ht:itv O t=some (rs.map qaV))(h: ∀x∈rs,rowOk x):TTf gx (k+4) 7 [t] O= .ok .non O:=by rw[tt (j:=6) rfl];exact ql7 ht h λx h=>qoH h
theorem qlH{k:Nat}{O:Mu}{p:Wk.Sp}(h:p.fine):TTf gx (k+3) 21 [p.T] O= .ok (.bl true) O:=by rw[tt (j:=9) rfl];exact qou h (λi a b=>qg0 i a b) λx h=>qi7 h
theorem qoG{k:Nat}{O:Mu}{t:T}(h:qbA t):TTf gx (k+5) 23 [t] O= .ok .non O:=by obtain⟨ps,rfl,hl,hf⟩:=h;rw[tt (j:=11) rfl];exact ql6 (by rw[tt (j:=10) rfl];exact qud (by omega) λp hp=>qlH (hf p hp))
theorem qi6{k:Nat}{O:Mu}{n:Str}(h:n∈nms):TTf gx (k+2) 24 [.str n] O= .ok (.bl true) O:=by
 rw[tt (j:=12) rfl];have e:TTf gx (k+1) 3 [.str n,.int 6] O= .ok (.bl true) O:=by
  rw[tt (j:=2) rfl];simp only[nms,List.mem_cons,List.not_mem_nil,or_false] at h
  rcases h with rfl|rfl|rfl|rfl<;>exact qax rfl rfl
 exact qax rfl (qcn (show TTf gx (k+1) 3 [.str n,.int 6] O=_ from e))
theorem qu6{k:Nat}{O:Mu}{l:List Row}{r:Row}(h:qq8 l)(hr:rowOk r):TTf gx (k+5) 9 [qbg (l++[r])] O=if late l r=true then .ex "TooLate" O else .ok .non O:=by
 have h1:TTf gx (k+4) 7 [qbg (l++[r])] O= .ok .non O:=qoF (rs:=l++[r]) rfl λx hx=>by
  rcases List.mem_append.mp hx with z|z
  ·exact h.r x z
  ·rw[List.mem_singleton.mp z];exact hr
 have h2:TTf gx (k+3) 6 [qbg (l++[r])] O= .ok (.bl (qgb (l++[r]))) O:=by rw[tt (j:=5) rfl];exact qml (by have:=h.n;simp;omega)
 rw[tt (j:=8) rfl];by_cases z:late l r=true
 ·rw[if_pos z];rw[qhl z] at h2;have h3:TTf gx (k+4) 8 [qbg (l++[r])] O= .ex "TooLate" O:=by
   rw[tt (j:=7) rfl];refine Dk.run_ex rfl (qfR ?_);rw[qb3]
   ·rfl
   ·have e:qab (TTf gx (k+3)) (.call 6 [vA0]) [some (qbg (l++[r]))] O= .ok (.bl false) O:=h2;rw[qlK];exact(congrArg (λz=>R.bind z _) e).trans rfl
  refine Dk.run_ex rfl (qam (ρ':=[some (qbg (l++[r]))]) (μ':=O) ?_ (qfR ?_))
  ·show R.bind (TTf gx (k+4) 7 [qbg (l++[r])] O) _=_;rw[h1];rfl
  ·show R.bind (TTf gx (k+4) 8 [qbg (l++[r])] O) _=_;rw[h3];rfl
 ·rw[if_neg z];rw[qff (qi4 h.s (by simpa using z))] at h2;exact ql5 h1 (by rw[tt (j:=7) rfl];exact ql2 h2)
theorem dks(k:Nat):Dks (TTf gx (k+6)) 27 26 28:=
 qty (nl:=9)
  (λts O=>by rw[tt (j:=15) rfl]) (λts O=>by rw[tt (j:=14) rfl]) (λts O=>by rw[tt (j:=16) rfl]) (λts O=>rfl) (λts O=>by rw[tt (j:=17) rfl])
  (λh=>qoG h) (λh=>qi6 h) (λh=>qi6 h) (λh hr=>qu6 h hr)
variable{x p c:Nat}{d:Dsk}
theorem qrH(k:Nat){D:qaR}(h:DS O x p c d)(hs:qdn (d.log,d.asks))(hp:d.past.length<=900)(hd:D.ok): ∃μ',TTf gx (k+7) 49 [.obj x,D.T] O= .ok (qbM (D.go (d.log,d.asks))) μ'/\DS μ' x p c (D.on d)/\On O μ' x p c:=by rw[tt (j:=34) rfl];exact qtz (dks k) h hs hp hd rfl rfl rfl
theorem qu9(k:Nat)(h:DS O x p c d)(hs:qdn (d.log,d.asks)): ∃b:As,b.Perm d.asks/\TTf gx (k+5) 50 [.obj x] O= .ok (qaz (d.log,b)) O:=by rw[tt (j:=35) rfl];exact que (λts O=>by rw[tt (j:=19) rfl]) (λts O=>by rw[tt (j:=18) rfl]) (λts O=>by rw[tt (j:=17) rfl]) (λh=>qi6 h) h hs
theorem qlI(k:Nat)(h:DS O x p c d):TTf gx (k+1) 37 [.obj x] O= .ok (.tup [.int d.past.length,.int d.coming.length]) O:=by rw[tt (j:=24) rfl];exact qkK h
theorem qth(k:Nat): ∀ts O,TTf gx (k+1) 34 ts O=(qdR 36).run (TTf gx k) ts O:=λts O=>by rw[tt (j:=21) rfl]
theorem qpY(k:Nat): ∀ts O,TTf gx (k+1) 35 ts O=(qdf 36).run (TTf gx k) ts O:=λts O=>by rw[tt (j:=22) rfl]
theorem qpZ(k:Nat): ∀ts O,TTf gx (k+1) 36 ts O=qdt.run (TTf gx k) ts O:=λts O=>by rw[tt (j:=23) rfl]
theorem qtg(k:Nat): ∀ts O,TTf gx (k+1) 25 ts O=qfB.run (TTf gx k) ts O:=λts O=>rfl
theorem qtf(k:Nat): ∀ts O,TTf gx (k+1) 38 ts O=(qkP 25).run (TTf gx k) ts O:=λts O=>by rw[tt (j:=25) rfl]
end
abbrev F7:Fs:=TTf gx 7
section
abbrev rA(ns:List Int)(S:List Sta)(s4 s5 s6 s7:Option T)(x:Nat):Ro:=[some (.scr ns),some (.obj x),some (.lst (S.map qaz)),some qk5,s4,s5,s6,s7,none,none,none,none,none,none]
abbrev rX(ns:List Int)(d:Dsk)(j:Nat)(D:qaR)(nw:Sta)(du:T)(x:Nat):Ro:=rA ns (Sof d) (some (.int (j:Nat))) (some D.T) (some (qaz nw)) (some du) x
theorem qmp(h:qab F e ρ O= .ok (.bl b) O):qab F (.bn false .int [e]) ρ O= .ok (.int (if b=true then 1 else 0)) O:=by rw[qbJ,qaf,h];rfl
theorem qwI(h:DS O x p c d)(hk:qcw d)(hl:d.past.length<=100)(hc:d.coming=[]):
  ∃D:qaR,D.ok/\∃aC aM ig aL μ',(runG (.n 4) (.int (j:Nat)) (rA ns (Sof d) s4 s5 s6 s7 x) O).bind (runSs F7 [A0,A1,A2,A3])= .ok (.nx (rA ns (Sof (D.on d)) aC aM ig aL x)) μ'/\DS μ' x p c (D.on d)/\On O μ' x p c:=by
 have hS:Sof d=d.past.map (·.2)++[(d.log,d.asks)]:=by unfold Sof;rw[hc];rfl
 have lS:(Sof d).getLast? =some (d.log,d.asks):=by rw[hS];simp
 have j9: ∀{s5 s6 s7:Option T}{O:Mu},qab F7 xA (rA ns (Sof d) (some (.int (j:Nat))) s5 s6 s7 x) O= .ok (qaz (d.log,d.asks)) O:=λ{s5 s6 s7 O}=>by have e2:qab F7 vA2 (rA ns (Sof d) (some (.int (j:Nat))) s5 s6 s7 x) O= .ok (.lst ((Sof d).map qaz)) O:=rfl;have e1:qab F7 (.neg (Ci 1)) (rA ns (Sof d) (some (.int (j:Nat))) s5 s6 s7 x) O= .ok (.int (-1)) O:=rfl;rw[qao,e2,qaa,e1,qaa,qkc,qho,List.getLast?_map,lS];rfl
 obtain⟨D,hd,eD⟩:=qnu 1 (ns:=ns) (O:=O) (s:=(d.log,d.asks)) (i:=1000+90*(j:Nat)) hk.st (by omega);obtain⟨μ',eE,h',o⟩:=qrH 0 (D:=D) h hk.st (by omega) hd;refine⟨D,hd,some (.int (j:Nat)),some D.T,some (qaz (qbW (d.log,d.asks) (D.go (d.log,d.asks)))),some (qbM (D.go (d.log,d.asks))),μ',?_,h',o⟩;have i0:qaC F7 A0 (rA ns (Sof d) (some (.int (j:Nat))) s5 s6 s7 x) O= .ok (.nx (rA ns (Sof d) (some (.int (j:Nat))) (some D.T) s6 s7 x)) O:=by
  have ek:qab F7 xG (rA ns (Sof d) (some (.int (j:Nat))) s5 s6 s7 x) O= .ok (.int (1000+90*(j:Nat))) O:=by have e4:qab F7 vA4 (rA ns (Sof d) (some (.int (j:Nat))) s5 s6 s7 x) O= .ok (.int (j:Nat)) O:=rfl;rw[qao,qiK,qaa,qao,qiK,qaa,e4,qaa,qs1,if_pos (.inl ⟨by omega,by omega⟩)];rfl
  have ea:runA F7 [vA0,xG,xA] (rA ns (Sof d) (some (.int (j:Nat))) s5 s6 s7 x) O= .ok [.scr ns,.int (1000+90*(j:Nat)),qaz (d.log,d.asks)] O:=by have e0:qab F7 vA0 (rA ns (Sof d) (some (.int (j:Nat))) s5 s6 s7 x) O= .ok (.scr ns) O:=rfl;rw[qaf,e0,qaa,qaf,ek,qaa,qaf,j9];rfl
  unfold A0;rw[qaK,qa4,ea,qaa,show F7 47 _ O=_ from eD];rfl
 have i1:qaC F7 A1 (rA ns (Sof d) (some (.int (j:Nat))) (some D.T) s6 s7 x) O= .ok (.nx (rA ns (Sof d) (some (.int (j:Nat))) (some D.T) (some (qaz (qbW (d.log,d.asks) (D.go (d.log,d.asks))))) (some (qbM (D.go (d.log,d.asks)))) x)) O:=by
  have ea:runA F7 [xA,v5] (rA ns (Sof d) (some (.int (j:Nat))) (some D.T) s6 s7 x) O= .ok [qaz (d.log,d.asks),D.T] O:=by rw[qaf,j9];rfl
  unfold A1;rw[qnw,qa4,ea,qaa,show F7 48 [qaz (d.log,d.asks),D.T] O=_ from qg1 6 hk.st];rfl
 generalize hn:qbW (d.log,d.asks) (D.go (d.log,d.asks))=nw at*;generalize hu:qbM (D.go (d.log,d.asks))=du at*;have i2:qaC F7 A2 (rX ns d j D nw du x) O= .ok (.nx (rX ns d j D nw du x)) μ':=by have ec:qab F7 (.call 49 [vA1,v5]) (rX ns d j D nw du x) O= .ok du μ':=eE;unfold A2;rw[qbn,ec];rfl
 have i3:qaC F7 A3 (rX ns d j D nw du x) μ'= .ok (.nx (rA ns (Sof (D.on d)) (some (.int (j:Nat))) (some D.T) (some (qaz nw)) (some du) x)) μ':=by
  have e7:qab F7 v7 (rX ns d j D nw du x) μ'= .ok du μ':=rfl;have e3:qab F7 vA3 (rX ns d j D nw du x) μ'= .ok qk5 μ':=rfl;have e2:qab F7 vA2 (rX ns d j D nw du x) μ'= .ok (.lst ((Sof d).map qaz)) μ':=rfl;have e6:qab F7 (.lst false [v6]) (rX ns d j D nw du x) μ'= .ok (.lst [qaz nw]) μ':=rfl;have bZ:((Sof d).map qaz).length<=200:=by rw[List.length_map,qcN,hc];simp;omega
  unfold A3
  rcases qda (d.log,d.asks) D hk.st with⟨w,eg,hw⟩|⟨q,eg,hq⟩
  ·have a9:du= .str w:=by rw[<-hu,eg];rfl
   have eo:D.on d=d:=by unfold qaR.on;rw[eg]
   have eb:qab F7 xB (rX ns d j D nw du x) μ'= .ok (.bl false) μ':=by rw[qao,e7,qaa,e3,qaa,a9,qjA hw];rfl
   have gm:O2.g .mul μ' (.lst [qaz nw]) (.int 0)=some (.l []):=rfl;rw[qaK,qao,e2,qaa,qao,e6,qaa,qmp eb,qaa,if_neg (by decide),gm,qsx,qaa,qht (xs:=(Sof d).map qaz) (ys:=[]) rfl rfl (by show _+0<=1000;omega),List.append_nil,eo];rfl
  ·have cR:nw=q.1:=by rw[<-hn,eg];rfl
   have a9:du=q.2:=by rw[<-hu,eg];rfl
   have eo:D.on d=⟨q.1.1,q.1.2,d.past++[(D.w,d.log,d.asks)],[]⟩:=by unfold qaR.on;rw[eg]
   have hS':Sof (D.on d)=Sof d++[nw]:=by rw[eo,cR,qxr.1,List.take_of_length_le (by rw[qcN,hc];simp)]
   have eb:qab F7 xB (rX ns d j D nw du x) μ'= .ok (.bl true) μ':=by rw[qao,e7,qaa,e3,qaa,qhi (by rw[a9];exact hq)];rfl
   have gm:O2.g .mul μ' (.lst [qaz nw]) (.int 1)=some (.l [qaz nw]):=rfl;rw[qaK,qao,e2,qaa,qao,e6,qaa,qmp eb,qaa,if_pos rfl,gm,qsx,qaa,qht (xs:=(Sof d).map qaz) (ys:=[qaz nw]) rfl rfl (by show _+1<=1000;omega),hS'];unfold rA;rw[List.map_append];rfl
 rw[qup,qaa]
 change runSs F7 [A0,A1,A2,A3] (rA ns (Sof d) (some (.int (j:Nat))) s5 s6 s7 x) O=_
 rw[qag,i0,qaa,qaw,qag,i1,qaa,qaw,qag,i2,qaa,qaw,qag,i3];rfl
end
section
abbrev rB(ns:List Int)(S:List Sta)(mn:Int)(x y z:Nat)(s4 s5 s6 s7 aX aH s12:Option T):Ro:=[some (.scr ns),some (.obj x),some (.lst (S.map qaz)),some qk5,s4,s5,s6,s7,some (.int mn),some (.obj y),aX,aH,s12,some (.obj z)]
theorem qjG(h:DS O z p c d)(he:qab F7 e ρ O= .ok (.obj z) O):qab F7 (.mth [("Desk",34)] "back" e []) ρ O=(qdR 36).run (TTf gx 6) [.obj z] O:=by rw[qaT he h.ins rfl rfl];exact qth 6 _ _
theorem qjF(h:DS O z p c d)(he:qab F7 e ρ O= .ok (.obj z) O):qab F7 (.mth [("Desk",35)] "forth" e []) ρ O=(qdf 36).run (TTf gx 6) [.obj z] O:=by rw[qaT he h.ins rfl rfl];exact qpY 6 _ _
theorem bk1(h:DS O z p c d)(hk:qcw d)(hp:0<d.past.length)(hl:d.coming.length<=900): ∃t d' μ',(qdR 36).run (TTf gx 6) [.obj z] O= .ok t μ'/\DS μ' z p c d'/\qcw d'/\On O μ' z p c/\Sof d'=Sof d/\Wof d'=Wof d/\d'.past.length+1=d.past.length:=by obtain⟨s,ss,e⟩:=qjN (d:=d) (λq=>by grind);obtain⟨μ',e1,a,b⟩:=qnj (qpZ 5) h e hl;exact⟨_,_,μ',e1,a,qni hk e,b,(qn8 e).1,(qn8 e).2,by rw[e];simp⟩
theorem fo1(h:DS O z p c d)(hk:qcw d)(hp:0<d.coming.length)(hl:d.past.length<=900): ∃t d' μ',(qdf 36).run (TTf gx 6) [.obj z] O= .ok t μ'/\DS μ' z p c d'/\qcw d'/\On O μ' z p c/\Sof d'=Sof d/\Wof d'=Wof d/\d'.past.length=d.past.length+1:=by obtain⟨s,ss,e⟩:=qf9 (d:=d) (λq=>by grind);obtain⟨μ',e1,a,b⟩:=qkl (qpZ 5) h e hl;exact⟨_,_,μ',e1,a,qkj hk e,b,(qkk e).1,(qkk e).2,by simp⟩
theorem qwH(h:DS O z p c d)(hk:qcw d)(hl:d.past.length<=100)(hc:d.coming=[])(hA:0<=A):
  ∃D:qaR,D.ok/\∃aC aM aL μ',(runG (.n 4) (.int (j:Nat)) (rB ns S mn x y z s4 s5 s6 s7 (some (.int A)) (some (qaz (d.log,d.asks))) (some (.int d.past.length))) O).bind (runSs F7 [E0,E1,E2,E3])= .ok (.nx (rB ns S mn x y z aC aM s6 aL (some (.int A)) (some (qaz ((D.on d).log,(D.on d).asks))) (some (.int (D.on d).past.length)))) μ'/\DS μ' z p c (D.on d)/\On O μ' z p c:=by
 let R0:Ro:=rB ns S mn x y z (some (.int (j:Nat))) s5 s6 s7 (some (.int A)) (some (qaz (d.log,d.asks))) (some (.int d.past.length));let R1:qaR->Sta->T->Ro:=λD nw du=>rB ns S mn x y z (some (.int (j:Nat))) (some D.T) s6 (some du) (some (.int A)) (some (qaz nw)) (some (.int d.past.length));obtain⟨D,hd,eD⟩:=qnu 1 (ns:=ns) (O:=O) (s:=(d.log,d.asks)) (i:=A+90*(j:Nat)) hk.st (by omega);obtain⟨μ',eE,h',o⟩:=qrH 0 (D:=D) h hk.st (by omega) hd;refine⟨D,hd,some (.int (j:Nat)),some D.T,some (qbM (D.go (d.log,d.asks))),μ',?_,h',o⟩;have i0:qaC F7 E0 R0 O= .ok (.nx (rB ns S mn x y z (some (.int (j:Nat))) (some D.T) s6 s7 (some (.int A)) (some (qaz (d.log,d.asks))) (some (.int d.past.length)))) O:=by
  have ek:qab F7 xH R0 O= .ok (.int (A+90*(j:Nat))) O:=by have e4:qab F7 vA4 R0 O= .ok (.int (j:Nat)) O:=rfl;have e10:qab F7 v10 R0 O= .ok (.int A) O:=rfl;rw[qao,e10,qaa,qao,qiK,qaa,e4,qaa,qs1,if_pos (.inl ⟨by omega,by omega⟩)];rfl
  have ea:runA F7 [vA0,xH,v11] R0 O= .ok [.scr ns,.int (A+90*(j:Nat)),qaz (d.log,d.asks)] O:=by have e0:qab F7 vA0 R0 O= .ok (.scr ns) O:=rfl;rw[qaf,e0,qaa,qaf,ek,qaa];rfl
  unfold E0;rw[qaK,qa4,ea,qaa,show F7 47 _ O=_ from eD];rfl
 have i1:qaC F7 E1 (rB ns S mn x y z (some (.int (j:Nat))) (some D.T) s6 s7 (some (.int A)) (some (qaz (d.log,d.asks))) (some (.int d.past.length))) O= .ok (.nx (rB ns S mn x y z (some (.int (j:Nat))) (some D.T) s6 (some (qbM (D.go (d.log,d.asks)))) (some (.int A)) (some (qaz (qbW (d.log,d.asks) (D.go (d.log,d.asks))))) (some (.int d.past.length)))) O:=by have ea:runA F7 [v11,v5] (rB ns S mn x y z (some (.int (j:Nat))) (some D.T) s6 s7 (some (.int A)) (some (qaz (d.log,d.asks))) (some (.int d.past.length))) O= .ok [qaz (d.log,d.asks),D.T] O:=rfl;unfold E1;rw[qnw,qa4,ea,qaa,show F7 48 [qaz (d.log,d.asks),D.T] O=_ from qg1 6 hk.st];rfl
 have jx:=qp3 (d:=D) hk.st;generalize hn:qbW (d.log,d.asks) (D.go (d.log,d.asks))=nw at*;generalize hu:qbM (D.go (d.log,d.asks))=du at*;have i2:qaC F7 E2 (R1 D nw du) O= .ok (.nx (R1 D nw du)) μ':=by
  have ec:qab F7 (.call 49 [v13,v5]) (R1 D nw du) O= .ok du μ':=eE;have e7:qab F7 v7 (R1 D nw du) μ'= .ok du μ':=rfl;have dr:dr1 μ' du=du:=by cases du<;>first|rfl|(cases jx;done)
  unfold E2;rw[qi9,qao,ec,qaa,e7,qaa,qs0 jx dr dr];rfl
 have i3:qaC F7 E3 (R1 D nw du) μ'= .ok (.nx (rB ns S mn x y z (some (.int (j:Nat))) (some D.T) s6 (some du) (some (.int A)) (some (qaz ((D.on d).log,(D.on d).asks))) (some (.int (D.on d).past.length)))) μ':=by
  have e7:qab F7 v7 (R1 D nw du) μ'= .ok du μ':=rfl;have e3:qab F7 vA3 (R1 D nw du) μ'= .ok qk5 μ':=rfl;have ke:qab F7 v12 (R1 D nw du) μ'= .ok (.int d.past.length) μ':=rfl;unfold E3
  rcases qda (d.log,d.asks) D hk.st with⟨w,eg,hw⟩|⟨q,eg,hq⟩
  ·have cR:nw=(d.log,d.asks):=by rw[<-hn,eg];rfl
   have a9:du= .str w:=by rw[<-hu,eg];rfl
   have eo:D.on d=d:=by unfold qaR.on;rw[eg]
   have eb:qab F7 xB (R1 D nw du) μ'= .ok (.bl false) μ':=by rw[qao,e7,qaa,e3,qaa,a9,qjA hw];rfl
   rw[qaK,qao,ke,qaa,qmp eb,qaa,if_neg (by decide),qpL,qjw,qaa,Int.add_zero,eo,cR];rfl
  ·have cR:nw=q.1:=by rw[<-hn,eg];rfl
   have a9:du=q.2:=by rw[<-hu,eg];rfl
   have eo:D.on d=⟨q.1.1,q.1.2,d.past++[(D.w,d.log,d.asks)],[]⟩:=by unfold qaR.on;rw[eg]
   have hP:((D.on d).past.length:Int)=(d.past.length:Int)+1:=by rw[eo];simp
   have eb:qab F7 xB (R1 D nw du) μ'= .ok (.bl true) μ':=by rw[qao,e7,qaa,e3,qaa,qhi (by rw[a9];exact hq)];rfl
   rw[qaK,qao,ke,qaa,qmp eb,qaa,if_pos rfl,qpL,qjw,qaa,hP,cR,eo];rfl
 rw[qup,qaa]
 change runSs F7 [E0,E1,E2,E3] R0 O=_
 rw[qag,i0,qaa,qaw,qag,i1,qaa,qaw,qag,i2,qaa,qaw,qag,i3];rfl
theorem qxh{D:qaR}(h:(Sof d)[0]? =some s):(Sof (D.on d))[0]? =some s:=by
 unfold qaR.on;split
 ·exact h
 ·rw[qxr.1,List.getElem?_append_left (by rw[List.length_take,qcN];omega),List.getElem?_take];exact h
theorem qus{d:Dsk}{D:qaR}(h:d.coming=[]):(D.on d).coming=[]/\(D.on d).past.length<=d.past.length+1:=by
 unfold qaR.on;split
 ·exact⟨h,by omega⟩
 simp
theorem st3{d:Dsk}{A:Int}(h:DS O z p c d)(hk:qcw d)(hl:d.past.length<=50)(hc:d.coming=[])(hA:0<=A)(h0:(Sof d)[0]? =some ([],[])):
  ∃d' aC aM aL μ',qaC F7 C3 (rB ns S mn x y z s4 s5 s6 s7 (some (.int A)) (some (qaz (d.log,d.asks))) (some (.int d.past.length))) O= .ok (.nx (rB ns S mn x y z aC aM s6 aL (some (.int A)) (some (qaz (d'.log,d'.asks))) (some (.int d'.past.length)))) μ'/\DS μ' z p c d'/\qcw d'/\d'.past.length<=60/\d'.coming=[]/\(Sof d')[0]? =some ([],[])/\On O μ' z p c:=by
 obtain⟨ρ',μ',e,d',aC,aM,aL,rfl,a⟩:=qfl (F:=F7) (ρ:=rB ns S mn x y z s4 s5 s6 s7 (some (.int A)) (some (qaz (d.log,d.asks))) (some (.int d.past.length))) (O:=O) (g:=.n 4) (ci:=.by_ .rng1 [(Ci 4)]) (b:=[E0,E1,E2,E3]) (ts:=(List.range 4).map λk=>.int (k:Nat)) (List.range 4) (λk=>.int (k:Nat))
  (λdn ρ m=> ∃d' aC aM aL,ρ=rB ns S mn x y z aC aM s6 aL (some (.int A)) (some (qaz (d'.log,d'.asks))) (some (.int d'.past.length))/\DS m z p c d'/\qcw d'/\d'.past.length<=50+dn.length/\d'.coming=[]/\(Sof d')[0]? =some ([],[])/\On O m z p c) rfl (qem (n:=4) rfl (by decide)) ⟨d,s4,s5,s7,rfl,h,hk,by show _<=50;omega,hc,h0,.refl⟩ (by
   rintro dn j r hq ρ m ⟨d',aC,aM,aL,rfl,h,hk,hl,hc,h0,o⟩;have hn:dn.length<=4:=by have:=congrArg List.length hq;simp at this;omega
   obtain⟨D,hd,bO,ik,ie,m',e,a,b⟩:=qwH (ns:=ns) (S:=S) (mn:=mn) (x:=x) (y:=y) (A:=A) (j:=j) (s4:=aC) (s5:=aM) (s6:=s6) (s7:=aL) h hk (by omega) hc hA;exact⟨_,m',e,D.on d',bO,ik,ie,rfl,a,qsn hk hd,by rw[List.length_append];show _<=50+(dn.length+1);have:=(qus (D:=D) hc).2;omega,(qus hc).1,qxh h0,o.trans b⟩)
 obtain⟨h',cN,bZ,bS,h0',o'⟩:=a;exact⟨d',aC,aM,aL,μ',e,h',cN,by rw[List.length_range] at bZ;omega,bS,h0',o'⟩
theorem st4(h:DS O z p c d)(hk:qcw d)(hl:d.past.length+d.coming.length<=100):
  ∃d' aC μ',qaC F7 C4 (rB ns S mn x y z s4 s5 s6 s7 aX aH (some (.int d.past.length))) O= .ok (.nx (rB ns S mn x y z aC s5 s6 s7 aX aH (some (.int d.past.length)))) μ'/\DS μ' z p c d'/\qcw d'/\Sof d'=Sof d/\Wof d'=Wof d/\d'.past.length=0/\On O μ' z p c:=by
 have ln: ∀{d':Dsk},Wof d'=Wof d->d'.past.length+d'.coming.length=d.past.length+d.coming.length:=λ{d'} e=>by rw[<-qaU,<-qaU,e]
 obtain⟨ρ',μ',e,d',aC,rfl,a⟩:=qfl (F:=F7) (O:=O) (g:=.n 4) (ci:=.by_ .rng1 [v12]) (b:=[xM]) (ts:=(List.range d.past.length).map λk=>.int (k:Nat)) (List.range d.past.length) (λk=>.int (k:Nat))
  (λdn ρ m=> ∃d' aC,ρ=rB ns S mn x y z aC s5 s6 s7 aX aH (some (.int d.past.length))/\DS m z p c d'/\qcw d'/\Sof d'=Sof d/\Wof d'=Wof d/\d'.past.length+dn.length=d.past.length/\On O m z p c) rfl (qem (n:=d.past.length) rfl (by omega)) ⟨d,s4,rfl,h,hk,rfl,rfl,rfl,.refl⟩ (by
   rintro dn j r hq ρ m ⟨d',aC,rfl,h,hk,hS,hW,hn,o⟩;have hr:dn.length+1<=d.past.length:=by have:=congrArg List.length hq;simp at this;omega
   have l2:=ln hW;obtain⟨t,ji,m',e,a,b,o',q1,q2,q3⟩:=bk1 h hk (by omega) (by omega);refine⟨rB ns S mn x y z (some (.int (j:Nat))) s5 s6 s7 aX aH (some (.int d.past.length)),m',?_,ji,_,rfl,a,b,q1.trans hS,q2.trans hW,by rw[List.length_append];show _+(_+1)=_;omega,o.trans o'⟩;rw[qup,qaa];rw[qag,qbn,qjG h rfl,e];rfl)
 obtain⟨h',cN,hS,hW,hn,o⟩:=a;rw[List.length_range] at hn;exact⟨d',aC,μ',e,h',cN,hS,hW,by omega,o⟩
theorem st6(h:DS O z p c d)(hk:qcw d)(hl:d.past.length=0)(hc:d.coming.length=n)(hn:n<=100):
  ∃d' aC μ',qaC F7 C6 (rB ns S mn x y z s4 s5 s6 s7 aX aH (some (.int n))) O= .ok (.nx (rB ns S mn x y z aC s5 s6 s7 aX aH (some (.int n)))) μ'/\DS μ' z p c d'/\qcw d'/\Sof d'=Sof d/\Wof d'=Wof d/\d'.past.length=n/\On O μ' z p c:=by
 have ln: ∀{d':Dsk},Wof d'=Wof d->d'.past.length+d'.coming.length=d.past.length+d.coming.length:=λ{d'} e=>by rw[<-qaU,<-qaU,e]
 obtain⟨ρ',μ',e,d',aC,rfl,a⟩:=qfl (F:=F7) (ρ:=rB ns S mn x y z s4 s5 s6 s7 aX aH (some (.int n))) (O:=O) (g:=.n 4) (ci:=.by_ .rng1 [v12]) (b:=[xN]) (ts:=(List.range n).map λk=>.int (k:Nat)) (List.range n) (λk=>.int (k:Nat))
  (λdn ρ m=> ∃d' aC,ρ=rB ns S mn x y z aC s5 s6 s7 aX aH (some (.int n))/\DS m z p c d'/\qcw d'/\Sof d'=Sof d/\Wof d'=Wof d/\d'.past.length=dn.length/\On O m z p c) rfl (qem (n:=n) rfl (by omega)) ⟨d,s4,rfl,h,hk,rfl,rfl,hl,.refl⟩ (by
   rintro dn j r hq ρ m ⟨d',aC,rfl,h,hk,hS,hW,c8,o⟩;have hr:dn.length+1<=n:=by have:=congrArg List.length hq;simp at this;omega
   have l2:=ln hW;obtain⟨t,ji,m',e,a,b,o',q1,q2,q3⟩:=fo1 h hk (by omega) (by omega);refine⟨rB ns S mn x y z (some (.int (j:Nat))) s5 s6 s7 aX aH (some (.int n)),m',?_,ji,_,rfl,a,b,q1.trans hS,q2.trans hW,by rw[List.length_append];show _=_+1;omega,o.trans o'⟩;rw[qup,qaa];rw[qag,qbn,qjF h rfl,e];rfl)
 obtain⟨h',cN,hS,hW,c8,o⟩:=a;rw[List.length_range] at c8;exact⟨d',aC,μ',e,h',cN,hS,hW,c8,o⟩
end
section
theorem qhS(h:DS O z p c d)(hk:qcw d)(he:qab F7 e ρ O= .ok (.obj z) O)(hf:qab F7 f ρ O= .ok (qaz (d.log,d.asks)) O):qab F7 (Oo .ne (.call 50 [e]) f) ρ O= .ok (.bl false) O:=by
 obtain⟨b,hb,eA⟩:=qu9 2 h hk.st;have ec:qab F7 (.call 50 [e]) ρ O= .ok (qaz (d.log,b)) O:=by rw[qa4,qaf,he];exact eA
 rw[qao,ec,qaa,hf,qaa,qsB hb hk.st.a.nd hk.st.a.ak];rfl
theorem qn3(h:DS O z p c d)(he:qab F7 e ρ O= .ok (.obj z) O)(hf:qab F7 f ρ O= .ok (.tup [.int d.past.length,.int d.coming.length]) O):qab F7 (Oo .ne (.mth [("Desk",37)] "counts" e []) f) ρ O= .ok (.bl false) O:=by
 have ec:qab F7 (.mth [("Desk",37)] "counts" e []) ρ O= .ok (.tup [.int d.past.length,.int d.coming.length]) O:=by rw[qaT (k:=z) (i:=37) he h.ins rfl rfl];exact qlI 6 h
 rw[qao,ec,qaa,hf,qaa,qs0 (t:=.tup [.int d.past.length,.int d.coming.length]) rfl rfl rfl];rfl
theorem qd0(hc:d.coming.length=0):(Sof d).getLast? =some (d.log,d.asks):=by
 unfold Sof
 simp_all
theorem qo6(h:qab F a ρ O= .ok (.bl false) O)(h':qab F b ρ O= .ok (.bl false) O):qaC F (.ife (.or a b) [.ret (.c (.bl false))] []) ρ O= .ok (.nx ρ) O:=by
 simp_all
theorem qrj(h:DS O z p c d)(hk:qcw d)(hS:Sof d=S)(hm:mn=(d.past.length:Int)+1)(hc:d.coming.length=1)(hl:d.past.length<=40)(hA:0<=A)(h0:S[0]? =some ([],[])):
  ∃aC aM aL dD dA μ',runSs F7 [C0,C1,C2,C3,C4,C5,C6,C7] (rB ns S mn x y z s4 s5 s6 s7 (some (.int A)) aH s12) O= .ok (.nx (rB ns S mn x y z aC aM s6 aL (some (.int A)) dD dA)) μ'/\On O μ' z p c:=by
 obtain⟨t1,d1,m1,f1,g1,k1,o1,S1,W1,n1⟩:=fo1 h hk (by omega) (by omega);have l1:d1.past.length+d1.coming.length=d.past.length+d.coming.length:=by rw[<-qaU,<-qaU,W1]
 have c1:d1.coming.length=0:=by omega
 have las:S.getLast? =some (d1.log,d1.asks):=by rw[<-hS,<-S1];exact qd0 c1
 have i0:qaC F7 C0 (rB ns S mn x y z s4 s5 s6 s7 (some (.int A)) aH s12) O= .ok (.nx (rB ns S mn x y z s4 s5 s6 s7 (some (.int A)) aH s12)) m1:=by unfold C0;rw[qbn,qjF h rfl,f1];rfl
 have fe:mn=(d1.past.length:Int):=by omega
 have i1:qaC F7 C1 (rB ns S mn x y z s4 s5 s6 s7 (some (.int A)) aH s12) m1= .ok (.nx (rB ns S mn x y z s4 s5 s6 s7 (some (.int A)) (some (qaz (d1.log,d1.asks))) (some (.int d1.past.length)))) m1:=by
  have e2:qab F7 vA2 (rB ns S mn x y z s4 s5 s6 s7 (some (.int A)) aH s12) m1= .ok (.lst (S.map qaz)) m1:=rfl;have e1:qab F7 (.neg (Ci 1)) (rB ns S mn x y z s4 s5 s6 s7 (some (.int A)) aH s12) m1= .ok (.int (-1)) m1:=rfl;have el:qab F7 xA (rB ns S mn x y z s4 s5 s6 s7 (some (.int A)) aH s12) m1= .ok (qaz (d1.log,d1.asks)) m1:=by rw[qao,e2,qaa,e1,qaa,qkc,qho,List.getLast?_map,las];rfl
  unfold C1;rw[qnv,qaf,el,qaa,<-fe];rfl
 have i2:qaC F7 C2 (rB ns S mn x y z s4 s5 s6 s7 (some (.int A)) (some (qaz (d1.log,d1.asks))) (some (.int d1.past.length))) m1= .ok (.nx (rB ns S mn x y z s4 s5 s6 s7 (some (.int A)) (some (qaz (d1.log,d1.asks))) (some (.int d1.past.length)))) m1:=by unfold C2;rw[qg2 (qhS g1 k1 rfl rfl)];rfl
 obtain⟨d3,aC,aM,aL,m3,i3,g3,k3,n3,c3,z3,o3⟩:=st3 (ns:=ns) (S:=S) (mn:=mn) (x:=x) (y:=y) (A:=A) (s4:=s4) (s5:=s5) (s6:=s6) (s7:=s7) g1 k1 (by omega) (List.length_eq_zero_iff.mp c1) hA (by rw[S1,hS];exact h0);have c3':d3.coming.length=0:=by rw[c3];rfl
 obtain⟨d4,bO,m4,i4,g4,k4,S4,W4,n4,o4⟩:=st4 (ns:=ns) (S:=S) (mn:=mn) (x:=x) (y:=y) (s4:=aC) (s5:=aM) (s6:=s6) (s7:=aL) (aX:=some (.int A)) (aH:=some (qaz (d3.log,d3.asks))) g3 k3 (by omega);have l4:d4.past.length+d4.coming.length=d3.past.length+d3.coming.length:=by rw[<-qaU,<-qaU,W4]
 have e4:(d4.log,d4.asks)=(([],[]):Sta):=by have:=qu1 (List.length_eq_zero_iff.mp n4);rw[S4,z3] at this;exact(Option.some.inj this).symm
 have i5:qaC F7 C5 (rB ns S mn x y z bO aM s6 aL (some (.int A)) (some (qaz (d3.log,d3.asks))) (some (.int d3.past.length))) m4= .ok (.nx (rB ns S mn x y z bO aM s6 aL (some (.int A)) (some (qaz (d3.log,d3.asks))) (some (.int d3.past.length)))) m4:=by have t1:qab F7 xK (rB ns S mn x y z bO aM s6 aL (some (.int A)) (some (qaz (d3.log,d3.asks))) (some (.int d3.past.length))) m4= .ok (.str "no back") m4:=qdV ((qjG g4 rfl).trans (qnk (qpZ 5) g4 (List.length_eq_zero_iff.mp n4))) rfl;unfold C5;refine qo6 (qhS g4 k4 rfl (by rw[e4];rfl)) ?_;rw[qao,t1,qaa];rfl
 obtain⟨d6,b9,m6,i6,g6,k6,S6,W6,n6,o6⟩:=st6 (ns:=ns) (S:=S) (mn:=mn) (x:=x) (y:=y) (s4:=bO) (s5:=aM) (s6:=s6) (s7:=aL) (aX:=some (.int A)) (aH:=some (qaz (d3.log,d3.asks))) (n:=d3.past.length) g4 k4 n4 (by omega) (by omega);have l6:d6.past.length+d6.coming.length=d4.past.length+d4.coming.length:=by rw[<-qaU,<-qaU,W6]
 have c6:d6.coming.length=0:=by omega
 have e6:(d6.log,d6.asks)=(d3.log,d3.asks):=by have:=qd0 c6;rw[S6,S4,qd0 c3'] at this;exact(Option.some.inj this).symm
 have i7:qaC F7 C7 (rB ns S mn x y z b9 aM s6 aL (some (.int A)) (some (qaz (d3.log,d3.asks))) (some (.int d3.past.length))) m6= .ok (.nx (rB ns S mn x y z b9 aM s6 aL (some (.int A)) (some (qaz (d3.log,d3.asks))) (some (.int d3.past.length)))) m6:=by unfold C7;refine qo6 (qhS g6 k6 rfl (by rw[e6];rfl)) (qn3 g6 rfl ?_);rw[n6,c6];rfl
 refine⟨b9,aM,aL,some (qaz (d3.log,d3.asks)),some (.int d3.past.length),m6,?_,o1.trans (o3.trans (o4.trans o6))⟩;rw[qag,i0,qaa,qaw,qag,i1,qaa,qaw,qag,i2,qaa,qaw,qag,i3,qaa,qaw,qag,i4,qaa,qaw,qag,i5,qaa,qaw,qag,i6,qaa,qaw,qag,i7];rfl
theorem qyH(h:DS O x p c d)(h':DS O y q e d)(hk:qcw d)(hS:Sof d=S)(hm:mn=(d.past.length:Int)+1)(hc:d.coming.length=1)(hl:d.past.length<=40)(h0:S[0]? =some ([],[]))(na:y≠x/\y≠p/\y≠c)(nb:q≠x/\q≠p/\q≠c)(nc:e≠x/\e≠p/\e≠c):
  ∃ρ' μ',qaC F7 S8 [some (.scr ns),some (.obj x),some (.lst (S.map qaz)),some qk5,s4,s5,s6,s7,some (.int mn),some (.obj y),aX,aH,s12,fB] O= .ok (.nx ρ') μ':=by
 obtain⟨ρ',μ',ee, -⟩:=qfl (F:=F7) (ρ:=[some (.scr ns),some (.obj x),some (.lst (S.map qaz)),some qk5,s4,s5,s6,s7,some (.int mn),some (.obj y),aX,aH,s12,fB]) (O:=O) (g:=.tup [(.n 13),(.n 10)]) (ci:=.gen (.tup [(.tup [vA1,(Ci 3000)]),(.tup [v9,(Ci 4000)])])) (b:=[C0,C1,C2,C3,C4,C5,C6,C7]) (ts:=[.tup [.obj x,.int 3000],.tup [.obj y,.int 4000]]) [(x,(3000:Int)),(y,(4000:Int))] (λq=>.tup [.obj q.1,.int q.2])
  (λdn ρ m=>(∃s4 s5 s6 s7 aX aH s12 fB,ρ=[some (.scr ns),some (.obj x),some (.lst (S.map qaz)),some qk5,s4,s5,s6,s7,some (.int mn),some (.obj y),aX,aH,s12,fB])/\(dn.length=0->DS m x p c d)/\(dn.length<=1->DS m y q e d)) rfl (qs9 (t:=.tup [.tup [.obj x,.int 3000],.tup [.obj y,.int 4000]]) rfl (.inr rfl)) ⟨⟨_,_,_,_,_,_,_,_,rfl⟩,λ_=>h,λ_=>h'⟩ (by
   rintro dn w r hq ρ m ⟨⟨s4,s5,s6,s7,aX,aH,s12,fB,rfl⟩,a,b⟩
   match dn,hq with
   |[],hq=>cases hq;obtain⟨aC,aM,aL,dD,dA,m',er,o⟩:=qrj (ns:=ns) (S:=S) (mn:=mn) (x:=x) (y:=y) (z:=x) (A:=3000) (s4:=s4) (s5:=s5) (s6:=s6) (s7:=s7) (aH:=aH) (s12:=s12) (a rfl) hk hS hm hc hl (by omega) h0;exact⟨_,m',er,⟨_,_,_,_,_,_,_,_,rfl⟩,(λz=>absurd z (show ¬(1=0) by decide)),(λ_=>(b (Nat.zero_le 1)).off o na nb nc)⟩
   |[_],hq=>cases hq;obtain⟨aC,aM,aL,dD,dA,m',er,o⟩:=qrj (ns:=ns) (S:=S) (mn:=mn) (x:=x) (y:=y) (z:=y) (A:=4000) (s4:=s4) (s5:=s5) (s6:=s6) (s7:=s7) (aH:=aH) (s12:=s12) (b (Vl 1)) hk hS hm hc hl (by omega) h0;exact⟨_,m',er,⟨_,_,_,_,_,_,_,_,rfl⟩,(λz=>absurd z (show ¬(2=0) by decide)),(λz=>absurd z (show ¬(2<=1) by decide))⟩
   |_::_::dn,hq=>
    have:=congrArg List.length hq;simp at this)
 exact⟨ρ',μ',ee⟩
theorem qjL(m:Mu): ∃m',leave O (.ok (.bl b) m)= .ok (.bl b) m':=by
 unfold leave;simp only[qnQ _];split
 ·exact⟨_,rfl⟩
 ·split<;>exact⟨_,rfl⟩
abbrev d0:Dsk:=⟨[(0, "a",1)],[],[("add",[],[])],[]⟩
abbrev rT(ns:List Int)(d:Dsk)(s4 s5 s6 s7 y:Option T):Ro:=[some (.scr ns),some (.obj 0),some (.lst ((Sof d).map qaz)),some qk5,s4,s5,s6,s7,some (.int d.past.length),y,none,none,none,none]
abbrev rI(ns:List Int):Ro:=[some (.scr ns),some (.obj 0),some (.lst ((Sof d0).map qaz)),none,none,none,none,none,none,none,none,none,none,none]
abbrev rN(ns:List Int):Ro:=[some (.scr ns),none,none,none,none,none,none,none,none,none,none,none,none,none]
theorem law_true(ns:List Int): ∃m,TTf gx 8 51 [.scr ns] ⟨[],[]⟩= .ok (.bl true) m:=by
 obtain⟨dy,e0,h0,l0, -⟩:=qnI (F:=F7) (F1:=TTf gx 6) (i:=25) (O:=⟨[],[]⟩) (qtg 6);have ic:qdn (([],[]):Sta):=⟨⟨(λ_ h=>nomatch h),List.Pairwise.nil,by decide⟩,⟨(λ_ h=>nomatch h),List.nodup_nil,(λ_ h=>nomatch h)⟩⟩
 have r0:rowOk (((0:Int), "a",(1:Int)):Row):=⟨by decide,⟨by decide+kernel,by decide+kernel⟩,by decide,by decide⟩
 obtain⟨af,e1,h1,o1⟩:=(dks 1).add (r:=(0, "a",1)) h0 ic (by decide) r0 rfl (by decide);have k1:qcw d0:=⟨⟨⟨(λx hx=>by rw[List.mem_singleton.mp hx];exact r0),List.pairwise_singleton _ _,by decide⟩,ic.a⟩,(λs hs=>by rw[List.mem_singleton.mp hs];exact ic),(λ_ h=>nomatch h)⟩
 obtain⟨aA,ah,e2,d,s4,s5,s6,s7,rfl,h2,k2,n2,c2,z2,q2,l2⟩:=qfl (F:=F7) (ρ:=rA ns (Sof d0) none none none none 0) (O:=af) (g:=.n 4) (ci:=.by_ .rng1 [(Ci 10)]) (b:=[A0,A1,A2,A3]) (ts:=(List.range 10).map λk=>.int (k:Nat)) (List.range 10) (λk=>.int (k:Nat))
  (λdn ρ m=> ∃d s4 s5 s6 s7,ρ=rA ns (Sof d) s4 s5 s6 s7 0/\DS m 0 1 2 d/\qcw d/\d.past.length<=1+dn.length/\d.coming=[]/\(Sof d)[0]? =some ([],[])/\1<=d.past.length/\m.l.length=3) rfl (qem (n:=10) rfl (by decide)) ⟨_,_,_,_,_,rfl,h1,k1,by decide,rfl,rfl,by decide,by rw[o1.len];exact l0⟩ (by
   rintro dn j r hq ρ m ⟨d,s4,s5,s6,s7,rfl,h,hk,hn,hc,hz,hp,hl⟩;have c8:dn.length<=10:=by have:=congrArg List.length hq;simp at this;omega
   obtain⟨D,hd,aC,aM,ig,aL,m',e,a,o⟩:=qwI (ns:=ns) (j:=j) (s4:=s4) (s5:=s5) (s6:=s6) (s7:=s7) h hk (by omega) hc;refine⟨_,m',e,D.on d,aC,aM,ig,aL,rfl,a,qsn hk hd,by rw[List.length_append];show _<=1+(dn.length+1);have:=(qus (D:=D) hc).2;omega,(qus hc).1,qxh hz,?_,by rw[o.len];exact hl⟩;unfold qaR.on;split
   ·exact hp
   ·simp)
 rw[List.length_range] at n2;have c2':d.coming.length=0:=by rw[c2];rfl
 obtain⟨t3,d3,bj,e3,h3,k3,o3,S3,W3,n3⟩:=bk1 h2 k2 (by omega) (by omega);have l3:d3.past.length+d3.coming.length=d.past.length+d.coming.length:=by rw[<-qaU,<-qaU,W3]
 obtain⟨aZ,e4,h4,o4⟩:=qol (F:=TTf gx 6) (F1:=TTf gx 5) (i:=25) (qtg 5) h3;have n4:bj.l.length=3:=by rw[o3.len];exact l2
 rw[n4] at e4 h4 o4;have h3':DS aZ 0 1 2 d3:=h3.old (by rw[n4];exact o4);obtain⟨ρ5,jr,e5⟩:=qyH (ns:=ns) (S:=Sof d) (mn:=(d.past.length:Int)) (s4:=s4) (s5:=s5) (s6:=s6) (s7:=s7) (aX:=none) (aH:=none) (s12:=none) (fB:=none) h3' h4 k3 S3 (by omega) (by omega) (by omega) z2 (by decide) (by decide) (by decide);obtain⟨m',hm⟩:=qjL (O:=⟨[],[]⟩) (b:=true) jr;refine⟨m',?_⟩;have i0:qaC F7 S0 (rN ns) ⟨[],[]⟩= .ok (.nx (rI ns)) dy:=by have ed:qab F7 (.make "Desk" 25 []) (rN ns) ⟨[],[]⟩= .ok (.obj 0) dy:=e0;unfold S0;rw[qnv,qaf,ed];rfl
 have i1:qaC F7 S1 (rI ns) dy= .ok (.nx (rI ns)) af:=by unfold S1;rw[qbn,qaT (k:=0) (i:=26) rfl h0.ins rfl rfl];show R.bind (F7 26 [.obj 0,qaV (0, "a",1)] dy) _=_;rw[show F7 26 [.obj 0,qaV (0, "a",1)] dy=_ from e1];rfl
 have i4:qaC F7 S4 (rA ns (Sof d) s4 s5 s6 s7 0) ah= .ok (.nx (rT ns d s4 s5 s6 s7 none)) ah:=by have g:Bn.g .len ah [.lst ((Sof d).map qaz)]=some (.v (.int ((Sof d).map qaz).length)):=rfl;have e2:qab F7 vA2 (rA ns (Sof d) s4 s5 s6 s7 0) ah= .ok (.lst ((Sof d).map qaz)) ah:=rfl;unfold S4;rw[qaK,qao,qbJ,qaf,e2,qaa,qa5,qaa,qaa,g,List.length_map,qcN,qjw,qaa,qiK,qaa,qsY,qjw,qaa,show((d.past.length+d.coming.length+1:Nat):Int) - 1=(d.past.length:Int) by omega];rfl
 have i5:qaC F7 S5 (rT ns d s4 s5 s6 s7 none) ah= .ok (.nx (rT ns d s4 s5 s6 s7 none)) bj:=by unfold S5;rw[qbn,qjG h2 rfl,e3];rfl
 have i6:qaC F7 S6 (rT ns d s4 s5 s6 s7 none) bj= .ok (.nx (rT ns d s4 s5 s6 s7 (some (.obj 3)))) aZ:=by unfold S6;rw[qaK,qaT (k:=0) (i:=38) rfl h3.ins rfl rfl];show R.bind (F7 38 [.obj 0] bj) _=_;rw[show F7 38 [.obj 0] bj=_ from(qtf 6 _ _).trans e4];rfl
 have i7:qaC F7 S7 (rT ns d s4 s5 s6 s7 (some (.obj 3))) aZ= .ok (.nx (rT ns d s4 s5 s6 s7 (some (.obj 3)))) aZ:=by
  unfold S7;refine qo6 (qn3 h4 rfl ?_) (qhS h4 k3 rfl ?_)
  ·rw[show(d3.past.length:Int)=(d.past.length:Int) - 1 by omega,show d3.coming.length=1 by omega];rfl
  ·have e2:qab F7 vA2 (rT ns d s4 s5 s6 s7 (some (.obj 3))) aZ= .ok (.lst ((Sof d).map qaz)) aZ:=rfl;have e1:qab F7 (.neg (Ci 2)) (rT ns d s4 s5 s6 s7 (some (.obj 3))) aZ= .ok (.int (-2)) aZ:=rfl;have ix:ixT ((Sof d).map qaz) (-2)=some (qaz (d3.log,d3.asks)):=by unfold ixT;rw[if_neg (by decide),List.length_map,qcN,if_pos (by omega),show(((d.past.length+d.coming.length+1:Nat):Int)+ -2).toNat=d3.past.length by omega,List.getElem?_map,<-S3,qns];rfl
   rw[qao,e2,qaa,e1,qaa,qkc,ix];rfl
 have fin:(runSs F7 [S0,S1,S2,K88.S3,S4,S5,S6,S7,S8,S9] (rN ns) ⟨[],[]⟩).bind outT= .ok (.bl true) jr:=qam i0 (qam i1 (qam (ρ':=rA ns (Sof d0) none none none none 0) (μ':=af) rfl (qam e2 (qam i4 (qam i5 (qam i6 (qam i7 (qam e5 (qcn rfl)))))))));rw[tt (j:=36) rfl];unfold Fcd.run fnR;rw[if_pos (show [T.scr ns].length=1 from rfl)];show lv false _ ((runSs F7 [S0,S1,S2,K88.S3,S4,S5,S6,S7,S8,S9] (rN ns) ⟨[],[]⟩).bind outT)=_;rw[fin];exact hm
end
end K88
namespace NV
open PySem L2
theorem qbY{N:List Str}{x:Str}(h:qjZ N x=some i):N[i]? =some x:=by
 obtain⟨hi,h1,_⟩:=List.findIdx?_eq_some_iff_getElem.mp h
 simp_all
structure Gf(M:Md)(g:Gx)(F:Fs)(k:Nat)(P:Program)(w:World)(mg:Str->Option Value)(base:Heap):Prop where
 fn: ∀x i,g.fi x=some i->x.cps.contains 46=false->∃f fd ps,mg x=some (.ref f)/\W.keepIn M.K (.ref f)=true/\qa0 M.K fd ps []/\qdl P w M.K mg base (CXE P w) (8*k) f fd ps (spF M (F i))
 nb: ∀x,qcJ.contains x=true->mg x=none
 cs: ∀x t,g.cs.lookup x=some t->∃v u,mg x=some u/\RelV v u/\∀B,Rep M.K B t v
 ex: ∀c bs,(c,bs)∈g.ex->mg c=some (.ref (clA M.K c))/\∃bm,qdm base (clA M.K c) bm/\∀x∈bs,(g.ex.map (·.1)).contains x=true->(Value.ref (clA M.K c)::bm).contains (.ref (clA M.K x))=true
 mt: ∀m c i,(c,i)∈g.ms m->∃f fd ps,Cls M.K (clA M.K c)/\quh M.K (clA M.K c) m f/\qdl P w M.K mg base (CXE P w) (8*k) f fd ps (spF M (F i))/\qa0 M.K fd ps []
 mkc: ∀c i,(g.cl.map (·.1)).contains c=true->g.fi (qaX c "__init__")=some i->∃f fd ps,mg c=some (.ref (clA M.K c))/\Mk M.K (clA M.K c) f/\qdl P w M.K mg base (CXE P w) (8*k) f fd ps (spF M (F i))/\qa0 M.K fd ps []
 fl: ∀f c,(g.fls f).contains c=true->Cls M.K (clA M.K c)/\qbe M.K (clA M.K c) f
 dt: ∀D tbl,g.dt.lookup D=some tbl->PL.TopT M.K mg w D tbl
 td:g.wd.isEmpty=false->∃z st fT fC CA fdT fdC bmA wa,Td z M P w mg base (λc=>g.wd.lookup c) st fT fC CA fdT fdC bmA wa
structure Tp(M:Md)(g:Gx)(X:Cx)(E:XK):Prop where
 st:X.stack=X.env::X.outer
 fr:X.env.frame=some X.env.locals
 ex:X.ex=[]
 xe: ∀a s',wpAny (model X.prog X.w) X.A (leaving X.env (.ref a)) (λ_ s''=>CXE X.prog X.w X.outer X.H₀ X.s₀ E (.ref a) s'') (λ_ _=>False) s'->X.xe (.ref a) s'
 ow:PassesOwn (model X.prog X.w) X.A X.env X.xe
 rs: ∀(x msg:Str)(j:Nat)(np p1 cpos pos:Pos),(g.ex.map (·.1)).contains x=true->Gl X x->(x==("__debug__" :Str))=false->PS X (.Raise (some (.Call (.Name x np) [.Constant (.str msg) j p1] [] cpos)) none pos) (qiW (clA M.K x) E)
structure Cok(M:Md)(g:Gx)(F:Fs)(k:Nat)(C:Cc)(X:Cx)(E:XK):Prop where
 gf:Gf M g F k X.prog X.w X.mg X.base
 K:X.K=M.K
 N:X.N=C.N
 nd:C.N.Nodup
 sc:X.env.scope=C.sc
 fn: ∀x,qq1 C x=true->X.fn x=true\/C.sc.names.lookup x=some .local
 un:X.A.units+8<cLine
 cm:C.calm=true->X.calm=true/\qbb (8*k+1) X.A/\qaI (CXE X.prog X.w) X E
 tp:C.top=true->Tp M g X E
 lm:C.lam=true->qbb (8*k+4) X.A/\∃c P q,Lm M X c P q
 cf:C.cf=true->∀x,X.fn x=true
section
variable{x:Str}
theorem Cok.gl(c:Cok M g F k C X E)(h:qiv C x=true):Gl X x/\(x==("__debug__" :Str))=false:=by unfold qiv at h;rw[Bool.and_eq_true] at h;refine⟨?_,by simpa using h.2⟩;show X.env.scope.names.lookup x=_;rw[c.sc];simp_all
theorem Cok.blt(c:Cok M g F k C X E)(h:qc3 C x=true):Gl X x/\X.mg x=none/\(x==("__debug__" :Str))=false:=by unfold qc3 at h;rw[Bool.and_eq_true] at h;exact⟨(c.gl h.1).1,c.gf.nb x h.2,(c.gl h.1).2⟩
theorem qrc(h:qmm sc x=true):Vis sc x:=by
 unfold qmm at h;split at h
 ·rename_i e;exact .inl e
 ·rename_i e;exact .inr (.inl e)
 ·rename_i e;exact .inr (.inr e)
 ·cases h
theorem qsF(h:qpH sc x=true):Loc sc x:=by
 unfold qpH at h;split at h
 ·rename_i e;exact .inl e
 ·rename_i e;exact .inr e
 ·cases h
theorem qrs(h:qq1 C x=true):Loc C.sc x:=by
 unfold qq1 at h;split at h
 ·rename_i e;exact .inl e
 ·rename_i e;exact .inr e
 ·cases h
theorem qpk(c:Cok M g F k C X E):PE X (.Name x pos) (tE M E (qab F (qqC g C x))):=by
 unfold qqC;split
 ·exact qak
 ·rename_i hd;have h1:(x==("__debug__" :Str))=false/\(x==("__classdict__" :Str))=false:=by simpa using hd
  split
  ·rename_i hv;split
   ·rename_i i hi;exact qtF (qg9 (by rw[c.N];exact qbY hi) (by rw[c.sc];exact qrc hv) h1.1 h1.2)
   ·exact qak
  ·split
   ·rename_i hg;split
    ·rename_i t ht;obtain⟨v,u,m,r,rt⟩:=c.gf.cs x t ht;exact qtK (qcg (c.gl hg).1 m r h1.1) rt
    ·exact qak
   ·exact qak
theorem qba: ∀{es:List Expr},(∀e∈es,PE X e (tE M E (qab F (f e))))->es.all qaq=true->PA X es (tA M E (runA F (es.map f)))
 |[],_,_=>qtO
 |e::es,h,hp=>by rw[List.all_cons,Bool.and_eq_true] at hp;exact qqp (h e Vj) (qba (λe he=>h e (Vk _ he)) hp.2) (qcx hp.1)
theorem qiV(c:Cok M g F k C X E): ∀(n:Nat)(e:Expr),PG X e (tG M E (runG (cG C n e)))
 |0,e=>qkD
 |n+1,e=>by
  have many: ∀es:List Expr,es.all qaq=true->PGs X es (tGs M E (runGs (es.map (cG C n)))):=λes=>by
   induction es with
   |nil=>exactλ_=>qqd
   |cons e es ih=>intro h;rw[List.all_cons,Bool.and_eq_true] at h;exact qmL (qiV c n e) (ih h.2) (qqL h.1)
  cases e with
  |Name y p=>
   show PG X _ (tG M E (runG (if qq1 C y then(match qjZ C.N y with|some i=>.n i|none=>.no) else .no)));split
   ·rename_i hl;split
    ·rename_i i hi;exact qwq (qoV (by rw[c.N];exact c.nd) (by rw[c.N];exact qbY hi) (by rw[c.sc];exact qrs hl) (by rw[c.sc];exact c.fn y hl))
    ·exact qkD
   ·exact qkD
  |Tuple ts kk p=>
   show PG X _ (tG M E (runG (if C.calm&&ts.all qaq then .tup (ts.map (cG C n)) else .no)));split
   ·rename_i h;rw[Bool.and_eq_true] at h;have q:=qtC (k:=kk) (pos:=p) (c.cm h.1).1 (many ts h.2) c.K (n:=ts.length) qdS (qfJ h.2);have e:(ts.map (cG C n)).length=ts.length:=List.length_map _;show PG X _ (tG M E (gT (ts.map (cG C n)).length _));rw[e];exact q
   ·exact qkD
  |_=>exact qkD
end
theorem qcF:OkO M (rB M g) g:=λO H B x y a b n Q h ra rb e k=>⟨O,B,a,b,n,h,ra,rb,e,k⟩
section
theorem bin_ok(hK:X.K=M.K)(h:qvL op=some o):OpR X (binaryOp op) (rB M o.g):=by
 cases op<;>first|(cases h;done)|skip
 ·cases h;exact OpR.ok qpc (qsw hK)
 ·cases h;exact OpR.ok qsc qso
 ·cases h;exact OpR.ok qo8 (qsq hK)
 ·cases h;exact OpR.ok qsg qsr
 ·cases h;exact OpR.ok qpa qsv
theorem qdL(hu:X.A.units+8<cLine)(hK:X.K=M.K)(op:CmpOp):OpR X (compareOp op) (rB M (qn6 op).g):=by
 cases op with
 |Eq=>exact OpR.ok (qsl hu) (qsu hK)
 |NotEq=>exact OpR.ok (qse hu) (qsu hK)
 |Lt=>exact OpR.ok qsh qvG
 |LtE=>exact OpR.ok qsi qvH
 |Gt=>exact OpR.ok qvD qvI
 |GtE=>exact OpR.ok qvE qvJ
 |Is=>exact OpR.ok qo9 (qss)
 |IsNot=>exact OpR.ok qia (qss)
 |In=>exact OpR.ok (qsk hu) (qst hK)
 |NotIn=>exact OpR.ok (qjq hu) (qst hK)
theorem qsp:OkU M (rU λi=>.int (-i)) qs5:=by
 refine⟨λt O c m e=>(by cases t<;>cases e),λO H B x t u μ' Q h r e k=> ?_⟩;cases t with
 |int i=>cases e;exact⟨i,qah r,k _ H B h .refl qaO⟩
 |_=>cases e
theorem qtI(h:PE X a (tE M E da)):PE X (.UnaryOp .USub a pos) (tE M E (dU qs5 da)):=PE.weak (qvs qrf h) λσ H Q q=>qoi qsp q
theorem qdP(cq:Cl Q)(h:tE M E (qn0 o p da db dc) σ H Q):qiX (rB M o.g) (rB M p.g) (tE M E da) (tE M E db) (tE M E dc) σ H Q:=by
 obtain⟨ρ,O,B,ev,w⟩:=h;refine tE.of ev ((Wn.bind w).mono λx af w1 v H1 B1 h1 l1 r1=> ?_);refine tE.of (ev.on h1 l1.le) ((Wn.bind w1).lift l1 λy ah w2 u H2 B2 h2 l2 r2=> ?_);have fK:=l1.trans l2;have w2:=Wn.bind w2;obtain⟨z,m,q,w2⟩:=Wn.pl w2 (λc m=>qid c m);have w2:=Wn.bind w2;obtain⟨kk,m',q',w3⟩:=Wn.pl w2 (λc m e=>by cases z<;>cases e);cases z with
 |bl z=>
  cases q';have kv:KE M H2 B2 (λz H3=> ∃k,z= .bl k/\if k=true then tE M E dc σ H3 λw' H4=>rB M p.g u w' H4 Q else Q _ H3) _ m:=λzv H3 B3 h3 l3 r3=>by
   refine⟨kk,qbu r3,?_⟩;split at w3
   ·rename_i hk;rw[if_pos hk];have fJ:=fK.trans l3;refine tE.of (ev.on h3 fJ.le) ((Wn.bind w3).lift fJ λw' aZ w4 v4 H4 B4 h4 l4 r4=> ?_);obtain⟨c4,m4,q4,w5⟩:=Wn.pl w4 (λc m=>qid c m);obtain⟨n,e,kv⟩:=qic cq q4 (KE.le w5 (fJ.trans l4));exact⟨aZ,B4,y,w',n,h4,(r2.mono l3.le).mono l4.le,r4,e,kv⟩
   ·rename_i hk;rw[if_neg hk];exact w3 _ H3 B3 h3 (fK.trans l3) qa9
  obtain⟨n,e,kv⟩:=qic qqy q kv;exact⟨ah,B2,x,y,n,h2,r1.mono l2.le,r2,e,kv⟩
 |_=>cases q'
theorem qrP(hc:PT X c tc)(ha:PT X a ta)(hb:PT X b tb):PT X (.IfExp c a b pos) (λσ H Q=>tc σ H λk H1=>if k=true then ta σ H1 Q else tb σ H1 Q):=by
 intro Z s σ H Q I h;refine Va (thn (hc _ s σ H _ I h) λk s1 ⟨H1,I1,q⟩=> ?_);cases k with
 |true=>exact ha _ s1 σ H1 Q I1 q
 |false=>exact hb _ s1 σ H1 Q I1 q
theorem qrl:dTB (qmT da)=qxw (dTB da):=by
 funext ρ O
 show R.bind (R.bind (R.bind _ tbO) _) tbO=R.bind (R.bind _ tbO) _;cases da ρ O with
 |no|ex c m=>rfl
 |ok t m=>cases t<;>rfl
theorem qrm:dTB (qmV da db)=qxB (dTB da) (dTB db):=by
 funext ρ O
 show R.bind (R.bind (R.bind _ tbO) _) tbO=R.bind (R.bind _ tbO) _;cases da ρ O with
 |no|ex c m=>rfl
 |ok t m=>cases t<;>first|rfl|(rename_i z;cases z<;>rfl)
theorem quK:dTB (quz da db)=dOr (dTB da) (dTB db):=by
 funext ρ O
 show R.bind (R.bind (R.bind _ tbO) _) tbO=R.bind (R.bind _ tbO) _;cases da ρ O with
 |no|ex c m=>rfl
 |ok t m=>cases t<;>first|rfl|(rename_i z;cases z<;>rfl)
theorem quL:dTB (qiB dt da db)=qiB dt (dTB da) (dTB db):=by
 funext ρ O
 show R.bind (R.bind _ _) tbO=R.bind _ _;cases dt ρ O with
 |no|ex c m=>rfl
 |ok t m=>cases t<;>rfl
theorem qjE{m:Str}(hb:qcq o=true)(hp:es.all qaq=true)(hl:es.length<30)(he:(apos.endLine==pos.line)=true):
  eval (.Call (.Attribute o m apos) es [] pos) env=(do
   let ov <-eval o env
   standAt apos.atName
   let (f,fi) <-holding [ov] (getMethod ov m (do return (<-importBound o env).getD true))
   callWith pos f fi (backTo pos (starEach es env)) (backToKw pos (keywordEach [] env))):=by
 have hf:methodCallForm (es.length+([]:List Keyword).length) (backTo pos (starEach es env)) (backToKw pos (keywordEach [] env))=true:=by have:=qnT (pos:=pos) (env:=env) hp hl;exact this
 show(attributeBase o m env _>>=λov=>standAt _>>=λ_=>methodCall o m _ pos env ov _ _ _)=_;rw[qdh hb];unfold methodCall calleeOf methodCallPos
 simp_all
end
theorem qo4:qaI (CXE X.prog X.w) X E0:=(by rintro Z σ H s e s' I ⟨_,_,_,_,_,_,_,q⟩;exact q.elim)
structure Eo(M:Md)(g:Gx)(F:Fs)(k n:Nat):Prop where
 e: ∀C X E,Cok M g F k C X E->∀e,PE X e (tE M E (qab F (cE g n C e)))
 t: ∀C X E,Cok M g F k C X E->∀e,PT X e (tT M E (dTB (qab F (cE g n C e))))
 c: ∀C X E,Cok M g F k C X E->C.calm=true->∀f es p pp,es.all qaq=true->qiv C f=true->PE X (.Call (.Name f pp) es [] p) (tE M E (qab F (cCall g n C f es p)))
 i: ∀C X E,Cok M g F k C X E->∀tg it,PI X tg it (tI M E (runI F (cI g n C tg it)))
section
theorem qm0:(qai C sc).1.N=(sc.names.filter λy=>decide (y.2= .local)&&y.1 != (".0" :Str)).map (·.1)++(qai C sc).2.map (·.1):=rfl
theorem qcv(h:qhE C sc=true):sc.kind= .function/\(∀y∈sc.names,y.2≠.cell)/\(∀y∈sc.names,y.2= .local->sc.names.lookup y.1=some .local)/\
  (∀y∈sc.names,y.2= .free->(C.sc.names.lookup y.1=some .cell\/C.sc.names.lookup y.1=some .free)/\sc.names.lookup y.1=some .free)/\(qai C sc).1.N.Nodup:=by unfold qhE at h;simp only[Bool.and_eq_true,List.all_eq_true,Bool.or_eq_true,decide_eq_true_eq] at h;obtain⟨⟨⟨⟨h1,h2⟩,h3⟩,h4⟩,h5⟩:=h;exact⟨h1,h2,λy hy e=>(h3 y hy).elim (λz=>absurd e z) id,λy hy e=>(h4 y hy).elim (λz=>absurd e z) id,h5⟩
theorem qm1(c:Cok M g F k C X E)(hc:C.calm=true)(h:qhE C sc=true)(hY: ∃fp s3 H3 xe,Y=(qav X sc ((sc.names.filter λy=>decide (y.2= .local)&&y.1 != (".0" :Str)).map (·.1)) (qai C sc).2 fp s3 H3).wish xe)(hp:qaI (CXE X.prog X.w) Y E'):Cok M g F k (qai C sc).1 Y E':=by
 obtain⟨fp,s3,H3,xe,rfl⟩:=hY;obtain⟨h1,h2,h3,h4,h5⟩:=qcv h;refine⟨c.gf,c.K,rfl,h5,?_,λx hx=> ?_,c.un,λ_=>⟨(c.cm hc).1,(c.cm hc).2.1,hp⟩,(λz=>by cases z),λz=> ?_,λz=>by cases z⟩
 ·show relabel sc _=qum C sc;unfold relabel qum Env.kindOf;rw[c.sc]
 ·have hx:(match(qum C sc).names.lookup x with|some .local=>true|some .cell=>false|_=>false)=true:=hx;split at hx
  ·rename_i e;exact .inr e
  ·cases hx
  ·cases hx
 ·obtain⟨r,cc,P,q,l⟩:=c.lm z;exact⟨r,cc,P,q,l.cd,l.hd,l.bm,l.q,l.t,l.t'⟩
theorem qqq(IH:Eo M g F k n)(c:Cok M g F k C X E)(hx:x=false):
  PE X (.ListComp elt [⟨tg,iter,ifs,0⟩] sc p) (tE M E (qab F (cComp g (n+1) C x elt tg iter ifs sc p)))/\
  ∀(i:Nat)(y:Str)(py spos:Pos),x=false->X.N[i]? =some y->C.sc.names.lookup y=some .local->swapsWith (.ListComp elt [⟨tg,iter,ifs,0⟩] sc p) (some (.Name y py)) spos.line X.env=pure true->
   PS X (.Assign [.Name y py] (.ListComp elt [⟨tg,iter,ifs,0⟩] sc p) spos) (tS M E (qmS i (qab F (cComp g (n+1) C x elt tg iter ifs sc p)))):=by
 have no:PE X (.ListComp elt [⟨tg,iter,ifs,0⟩] sc p) (tE M E (qab F .no))/\∀(i:Nat)(y:Str)(py spos:Pos),x=false->X.N[i]? =some y->C.sc.names.lookup y=some .local->swapsWith (.ListComp elt [⟨tg,iter,ifs,0⟩] sc p) (some (.Name y py)) spos.line X.env=pure true->
   PS X (.Assign [.Name y py] (.ListComp elt [⟨tg,iter,ifs,0⟩] sc p) spos) (tS M E (qmS i (qab F .no))):=⟨qak,(by rintro _ _ _ _ _ _ _ _ _ _ _ _ _ _ ⟨_,_,_,_,w⟩;exact w.elim)⟩
 unfold cComp;split
 case isFalse=>exact no
 rename_i dj;rw[Bool.and_eq_true] at dj;obtain⟨h1,h2,h3,h4,h5⟩:=qcv dj.2;obtain⟨cm,hr,ps⟩:=c.cm dj.1;have aY: ∀q∈(qai C sc).2,X.N[q.2]? =some q.1/\sc.names.lookup q.1=some .free:=λq hq=>by
  obtain⟨y,hy,e⟩:=List.mem_filterMap.mp hq;split at e
  ·rename_i hf;obtain⟨i,hi,rfl⟩:=qar e;exact⟨by rw[c.N];exact qbY hi,(h4 y hy hf).2⟩
  ·cases e
 have ag: ∀y∈sc.names,y.2= .free->X.env.kindOf y.1=some .cell\/X.env.kindOf y.1=some .free:=λy hy e=>by show X.env.scope.names.lookup _=_\/X.env.scope.names.lookup _=_;rw[c.sc];exact(h4 y hy e).1
 have hn:(qai C sc).1.N.length - (qai C sc).2.length=((sc.names.filter λy=>decide (y.2= .local)&&y.1 != (".0" :Str)).map (·.1)).length:=by rw[qm0,List.length_append,List.length_map (f:=λx=>x.1) (as:=(qai C sc).2)];omega
 have go: ∀(tt:Option CE),(∀Y E',Cok M g F k (qai C sc).1 Y E'->qiL Y ifs (tT M E' (runT F tt)))->
   PE X (.ListComp elt [⟨tg,iter,ifs,0⟩] sc p) (tE M E (qab F (.comp (g.own p) x ((qai C sc).1.N.length - (qai C sc).2.length) ((qai C sc).2.map (·.2)) (cG (qai C sc).1 n tg) (cI g n C tg iter) tt (cE g n (qai C sc).1 elt))))/\
   ∀(i:Nat)(y:Str)(py spos:Pos),x=false->X.N[i]? =some y->C.sc.names.lookup y=some .local->swapsWith (.ListComp elt [⟨tg,iter,ifs,0⟩] sc p) (some (.Name y py)) spos.line X.env=pure true->
    PS X (.Assign [.Name y py] (.ListComp elt [⟨tg,iter,ifs,0⟩] sc p) spos) (tS M E (qmS i (qab F (.comp (g.own p) x ((qai C sc).1.N.length - (qai C sc).2.length) ((qai C sc).2.map (·.2)) (cG (qai C sc).1 n tg) (cI g n C tg iter) tt (cE g n (qai C sc).1 elt))))):=λtt ht=>by
  have bR:qbK iter=true\/cI g n C tg iter= .no:=by
   cases n with
   |zero=>exact .inr rfl
   |succ n=>
    cases z:qbK iter with
    |true=>exact .inl rfl
    |false=>exact .inr (by unfold cI;rw[z];exact if_neg (by decide))
  rw[hn]
  rcases bR with bR|bR
  ·have hi:=IH.i C X E c tg iter;have jR: ∀(fp:List Addr)(s3:Shared)(H3:Hp),PG (qav X sc ((sc.names.filter λy=>decide (y.2= .local)&&y.1 != (".0" :Str)).map (·.1)) (qai C sc).2 fp s3 H3) tg (tG M E0 (runG (cG (qai C sc).1 n tg)))/\qiL (qav X sc ((sc.names.filter λy=>decide (y.2= .local)&&y.1 != (".0" :Str)).map (·.1)) (qai C sc).2 fp s3 H3) ifs (tT M E0 (runT F tt))/\PE (qav X sc ((sc.names.filter λy=>decide (y.2= .local)&&y.1 != (".0" :Str)).map (·.1)) (qai C sc).2 fp s3 H3) elt (tE M E0 (qab F (cE g n (qai C sc).1 elt))):=λfp s3 H3=>by have cc:=qm1 (E':=E0) (Y:=qav X sc ((sc.names.filter λy=>decide (y.2= .local)&&y.1 != (".0" :Str)).map (·.1)) (qai C sc).2 fp s3 H3) c dj.1 dj.2 ⟨fp,s3,H3,λ_ _=>False,rfl⟩ qo4;exact⟨qiV cc n tg,ht _ _ cc,IH.e _ _ _ cc elt⟩
   refine⟨?_,λi y py spos hx0 hy hl bQ=> ?_⟩
   ·show PE X _ (tE M E (qiz (g.own p) _));have dn:PE X (.ListComp elt [⟨tg,iter,ifs,0⟩] sc p) (tN M E (qcA x ((sc.names.filter λy=>decide (y.2= .local)&&y.1 != (".0" :Str)).map (·.1)).length ((qai C sc).2.map (·.2)) (runI F (cI g n C tg iter)) (runG (cG (qai C sc).1 n tg)) (runT F tt) (qab F (cE g n (qai C sc).1 elt)))):=by
     cases x with
     |false=>exact qqb cm hi h1 h2 h3 ag aY jR (qeb bR)
     |true=>cases hx
    unfold qiz;split
    ·exact qqj dn
    ·exact qqn dn
   ·subst hx0;have:=qiy (ow:=g.own p) (py:=py) (spos:=spos) cm hi h1 h2 h3 ag aY jR (by rw[c.N];exact c.nd) hy (by rw[c.sc];exact hl) bQ (qeb bR);exact this
  ·rw[bR];have e: ∀ow,(qiz ow (qcA x ((sc.names.filter λy=>decide (y.2= .local)&&y.1 != (".0" :Str)).map (·.1)).length ((qai C sc).2.map (·.2)) dNo (runG (cG (qai C sc).1 n tg)) (runT F tt) (qab F (cE g n (qai C sc).1 elt))))=dNo:=λow=>by
    unfold qiz
    split<;>rfl
   show PE X _ (tE M E (qiz _ (qcA x _ _ dNo _ _ _)))/\∀(i:Nat)(y:Str)(py spos:Pos),_->_->_->_->PS X _ (tS M E (qmS i (qiz _ (qcA x _ _ dNo _ _ _))));rw[e];exact no
 rcases ifs with _|⟨t,_|⟨u,r⟩⟩
 ·exact go none λY E' cc=>qlP
 ·exact go (some (cE g n (qai C sc).1 t)) λY E' cc=>qrY (IH.t _ _ _ cc t)
 ·exact no
end
section
theorem qwJ{x:Str}(h:qq6 x=some b):x=b.nm:=by
 have:=List.find?_some h
 grind
theorem qng{x:Str}{ty:String}(h:qqG x ty=some b):x=b.nm:=by
 have:=List.find?_some h
 simp_all
theorem quH{x:Str}{N:String}(h:qwV x=some N):x=Str.ofString N/\N∈["int", "bool", "str", "tuple", "list"]:=⟨(eq_of_beq (List.find?_some (p:=λN=>Str.ofString N==x) h)).symm,List.mem_of_find?_eq_some h⟩
theorem qvQ{g:Gx}{m c:Str}{i:Nat}(h:(g.ms m).lookup c=some i):(c,i)∈g.ms m:=by
 generalize g.ms m=l at h⊢
 induction l with
 |nil=>cases h
 |cons q l ih=>
  obtain⟨y,j⟩:=q;rw[List.lookup_cons] at h;cases z:c==y with
  |true|false=>simp_all
theorem qeO(h:qbc a=true):a.posonlyargs=[]/\a.vararg=none/\a.kwonlyargs=[]/\a.kw_defaults=[]/\a.kwarg=none/\a.defaults=[]:=by
 unfold qbc at h
 simp_all
theorem qgn(h:qbc a=true):defaultsOf a env=([],[]):=by obtain⟨_,_,_,h4,_,h6⟩:=qeO h;obtain⟨a1,a2,a3,a4,a5,a6,a7⟩:=a;cases h4;cases h6;rfl
theorem qsH(h:qmh C a sc=true):qbc a=true/\sc.kind= .function/\sc.isCoroutine=false/\sc.isGenerator=false/\(∀y∈sc.names,y.2≠.cell)/\C.lam=true/\C.calm=true:=by unfold qmh at h;simp only[Bool.and_eq_true,decide_eq_true_eq,Bool.not_eq_true',List.all_eq_true] at h;exact⟨h.1.1.1.1.1.1,h.1.1.1.1.1.2,h.1.1.1.1.2,h.1.1.1.2,h.1.1.2,h.1.2,h.2⟩
theorem told_ok(IH:Eo M g F k n)(c:Cok M g F k C X E)(h:qiU C a sc=true)(hw:g.wd.isEmpty=false)(gl:Gl X "_law_told"):
  PE X (.Call (.Name "_law_told" pp) [.Lambda a body sc lp] [] p) (tE M E (qab F (.told g.wd ((qjQ C sc).map (·.2)) (cE g n (qmi C sc) body)))):=by
 unfold qiU at h;simp only[Bool.and_eq_true,decide_eq_true_eq,List.all_eq_true,Bool.or_eq_true] at h;obtain⟨⟨⟨⟨h1,h2⟩,h3⟩,h4⟩,h5⟩:=h;obtain⟨s1,s2,s3,s4,s5,s6,s7⟩:=qsH h1;obtain⟨z0,st,fT,fC,CA,fdT,fdC,bmA,wa,D⟩:=c.gf.td hw;obtain⟨hr,cc,P,q,L⟩:=c.lm s6;have ag:=λy hy e=>(h5 y hy).elim (λz=>absurd e z) id;have aY: ∀q∈qjQ C sc,X.N[q.2]? =some q.1/\sc.names.lookup q.1=some .free:=λq hq=>by
  obtain⟨y,hy,e⟩:=List.mem_filterMap.mp hq;split at e
  ·rename_i hf;obtain⟨i,hi,rfl⟩:=qar e;exact⟨by rw[c.N];exact qbY hi,(ag y hy hf).2⟩
  ·cases e
 obtain⟨b1,b2,b3,b4,b5,b6⟩:=qeO s1;refine qqi (k:=8*k+1) c.K D gl L (qgn s1) (c.cf h3) s2 s3 s4 s5 (λy hy e=> ?_) aY (λav pm cv aE=> ?_) hr λA outer s H f c' E' jI=> ?_
 ·show X.env.scope.names.lookup _=_\/X.env.scope.names.lookup _=_;rw[c.sc];exact(ag y hy e).1
 ·have ea:a.args=[]:=List.length_eq_zero_iff.mp h2;have:=qb0 (fd:=W.kla_fn "<lambda>" q a body sc av pm cv aE) (us:=[]) b1 b2 b3 b5 rfl (by show(a.args.map (·.arg)).Nodup;rw[ea];exact List.nodup_nil) (by show _=(a.args.map (·.arg)).length;rw[ea];rfl);rw[this];show pure ((a.args.map (·.arg)).zip [])=_;rw[ea];rfl
 ·refine IH.e (qmi C sc) (qgp X.prog X.w X.K X.mg X.base ((qjQ C sc).map (·.1)) (qb9 sc s.heap.objs.size (clOf X.env sc.names []) q f c') A outer s H E') E' ⟨c.gf,c.K,rfl,h4,rfl,λx hx=> ?_,PL.hu8 jI,λ_=>⟨rfl,jI,PL.passLI⟩,(λz=>by cases z),(λz=>by cases z),λz=>by cases z⟩ body;have hx:(match sc.names.lookup x with|some .local=>true|some .cell=>false|_=>false)=true:=hx;split at hx
  ·rename_i e;exact .inr e
  ·cases hx
  ·cases hx
theorem qqB(IH:Eo M g F k n)(c:Cok M g F k C X E)(hc:C.calm=true){f:Str}(hp:es.all qaq=true)(hg:qiv C f=true):PE X (.Call (.Name f pp) es [] p) (tE M E (qab F (cCall g (n+1) C f es p))):=by
 obtain⟨cm,hr,ps⟩:=c.cm hc;obtain⟨gl,hd⟩:=c.gl hg;have args: ∀es:List Expr,es.all qaq=true->PA X es (tA M E (runA F (es.map (cE g n C)))):=λes h=>qba (λe _=>IH.e C X E c e) h;have bn: ∀{es:List Expr},es.all qaq=true->es≠[]->qc3 C f=true->PE X (.Call (.Name f pp) es [] p) (tE M E (qab F (match qq6 f with|some b=>.bn (g.own p) b (es.map (cE g n C))|none=>.no))):=λ{es} hp hn hb=>by
  split
  ·rename_i b eb;have e:=qwJ eb;subst e;cases es with
   |nil=>exact absurd rfl hn
   |cons e es=>have aj:=hp;rw[List.all_cons,Bool.and_eq_true] at aj;obtain⟨b1,b2,b3⟩:=c.blt hb;exact qwu b c.un cm c.K b1 b2 (args _ hp) (qcx aj.1) (qbr aj.2)
  ·exact qak
 unfold cCall;split
 ·rename_i hf;have hf:=eq_of_beq hf;subst hf;split
  ·rename_i a body sc lp;split
   ·rename_i ht;rw[Bool.and_eq_true,Bool.not_eq_true'] at ht;exact told_ok IH c ht.1 ht.2 gl
   ·exact qak
  ·exact qak
 split
 ·exact qak
 ·rename_i eM;have eM:f.cps.contains 46=false:=by simpa using eM
  split
  ·rename_i i hi;obtain⟨fa,fd,fG,m,kp,bd,fo⟩:=c.gf.fn f i hi eM;have gA:qdl X.prog X.w X.K X.mg X.base (CXE X.prog X.w) (8*k) fa fd fG (spF M (F i)):=by rw[c.K];exact fo
   cases es with
   |nil=>exact qmQ gA (hr.mono (by omega)) gl m (by rw[c.K];exact kp) (by rw[c.K];exact bd) ps hd
   |cons e es=>have aj:=hp;rw[List.all_cons,Bool.and_eq_true] at aj;exact qqo gA (hr.mono (by omega)) gl m (by rw[c.K];exact kp) (by rw[c.K];exact bd) ps (args _ hp) hd (qcx aj.1) (qbr aj.2)
  ·split
   ·rename_i gY;split
    ·rename_i i hi;obtain⟨fa,fd,fG,m,mk,fo,bd⟩:=c.gf.mkc f i gY hi;have gA:qdl X.prog X.w X.K X.mg X.base (CXE X.prog X.w) (8*k) fa fd fG (spF M (F i)):=by rw[c.K];exact fo
     cases es with
     |nil=>exact qmP rfl (by rw[c.K];exact mk) gA hr gl m (by rw[c.K];exact bd) ps hd
     |cons e es=>have aj:=hp;rw[List.all_cons,Bool.and_eq_true] at aj;exact qql rfl (by rw[c.K];exact mk) gA hr gl m (by rw[c.K];exact bd) ps (args _ hp) hd (qcx aj.1) (qbr aj.2)
    ·exact qak
   ·split
    ·rename_i hb;split
     ·rename_i e x xp;split
      ·rename_i hf;have hf:=eq_of_beq hf;subst hf;split
       ·rename_i N hN;split
        ·rename_i eQ;obtain⟨e1,e2⟩:=quH hN;obtain⟨b1,b2,b3⟩:=c.blt hb;obtain⟨d1,d2,d3⟩:=c.blt eQ;rw[List.all_cons,Bool.and_eq_true] at hp;exact qqm e2 e1 c.K b1 b2 d1 d2 (IH.e C X E c e) (qcx hp.1) (qcx rfl) (qbr hp.2)
        ·exact qak
       ·exact qak
      ·exact bn hp (by simp) hb
     ·rename_i s sp a ap;split
      ·rename_i hs;simp only[Bool.and_eq_true] at hs;have es:=eq_of_beq hs.1.1;subst es;obtain⟨d1,d2,d3⟩:=c.blt hs.1.2;obtain⟨b1,b2,b3⟩:=c.blt hb;split
       ·rename_i hf;have hf:=eq_of_beq hf;subst hf;exact qak
       ·split
        ·rename_i hf;have hf:=eq_of_beq hf;subst hf;exact qak
        ·exact qak
      ·exact bn hp (by simp) hb
     ·rename_i o m ap q;split
      ·rename_i hs;simp only[Bool.and_eq_true] at hs;obtain⟨⟨⟨h1,h2⟩,h3⟩,h4⟩:=hs;have h1:=eq_of_beq h1;have h2:=eq_of_beq h2;subst h1;subst h2;obtain⟨b1,b2,b3⟩:=c.blt hb;exact qkF cm b1 b2 (IH.e C X E c o) (qdh h3) h4
      ·exact bn hp (by simp) hb
     ·exact qak
     ·rename_i h1 h2 h3 h4;exact bn hp h4 hb
    ·exact qak
theorem qvZ(IH:Eo M g F k n)(c:Cok M g F k C X E)(tg e:Expr):PI X tg e (tI M E (runI F (cI g (n+1) C tg e))):=by
 have gen:PI X tg e (tI M E (runI F (.gen (cE g n C e)))):=qtB (IH.e C X E c e) c.K;unfold cI;split
 case isFalse=>exact qdp
 split
 ·rename_i f fp es p _;split
  ·rename_i hf;have hf:=eq_of_beq hf;subst hf;split
   ·rename_i hb;rw[Bool.and_eq_true] at hb;obtain⟨b1,b2,b3⟩:=c.blt hb.1;have args:PA X es (tA M E (runA F (es.map (cE g n C)))):=qba (λe _=>IH.e C X E c e) hb.2;have hp:=hb.2;split
    ·rename_i a;rw[List.all_cons,Bool.and_eq_true] at hp;exact qkC b1 b2 args (qcx hp.1)
    ·rename_i a b;rw[List.all_cons,Bool.and_eq_true,List.all_cons,Bool.and_eq_true] at hp;exact qdp
    ·exact qdp
   ·exact qdp
  ·split
   ·rename_i hf;have hf:=eq_of_beq hf;subst hf;split
    ·rename_i hb;simp only[Bool.and_eq_true] at hb;obtain⟨b1,b2,b3⟩:=c.blt hb.1.1;have args:PA X es (tA M E (runA F (es.map (cE g n C)))):=qba (λe _=>IH.e C X E c e) hb.1.2;have hp:=hb.1.2;have ht:=hb.2;cases tg with
     |Tuple ts kk tp=>
      split
      ·rename_i a;rw[List.all_cons,Bool.and_eq_true] at hp;exact qdp
      ·exact qdp
     |_=>cases ht
    ·exact qdp
   ·split
    ·rename_i hf;have hf:=eq_of_beq hf;subst hf;split
     ·rename_i hb;simp only[Bool.and_eq_true] at hb;obtain⟨b1,b2,b3⟩:=c.blt hb.1.1;have args:PA X es (tA M E (runA F (es.map (cE g n C)))):=qba (λe _=>IH.e C X E c e) hb.1.2;have hp:=hb.1.2;have ht:=hb.2;cases tg with
      |Tuple ts kk tp=>
       split
       ·rename_i a b;rw[List.all_cons,Bool.and_eq_true] at hp;exact qtA b1 b2 args c.K (qcx hp.1) (qbr hp.2)
       ·exact qdp
      |_=>cases ht
     ·exact qdp
    ·exact gen
 ·exact gen
end
section
theorem qob(h: ∀e,PE X e (tE M E (qab F (f e)))): ∀es:List Expr,PE X (.BoolOp .And es pos) (tE M E (qab F (qhR (es.map f))))
 |[]=>qak
 |[a]=>h a
 |a::b::r=>qtM (h a) (qob h _)
theorem qsb(h: ∀e,PE X e (tE M E (qab F (f e)))): ∀es:List Expr,PE X (.BoolOp .Or es pos) (tE M E (qab F (ql3 (es.map f))))
 |[]=>qak
 |[a]=>h a
 |a::b::r=>qws (h a) (qsb h _)
theorem qk7(h: ∀e,PT X e (tT M E (dTB (qab F (f e))))): ∀es:List Expr,PW X (.BoolOp .And es pos) (tT M E (dTB (qab F (qhR (es.map f)))))
 |[]=>(by rintro _ _ _ _ _ _ _ ⟨_,_,_,_,w⟩;exact w.elim)
 |[a]=>qp2 (h a)
 |a::b::r=>by show PW X _ (tT M E (dTB (qmV _ _)));rw[qrm];exact qto (h a) (qk7 h _)
theorem qnG(h: ∀e,PT X e (tT M E (dTB (qab F (f e))))): ∀es:List Expr,PW X (.BoolOp .Or es pos) (tT M E (dTB (qab F (ql3 (es.map f)))))
 |[]=>(by rintro _ _ _ _ _ _ _ ⟨_,_,_,_,w⟩;exact w.elim)
 |[a]=>qtn (h a)
 |a::b::r=>by show PW X _ (tT M E (dTB (quz _ _)));rw[quK];exact qwo (h a) (qnG h _)
theorem qnH(h: ∀e,PE X e (tE M E (qab F (f e)))): ∀o:Option Expr,PO X o (tO M E (runO F (o.map f)))
 |none=>qqa
 |some e=>qp9 (h e)
theorem qpo(IH:Eo M g F k n)(c:Cok M g F k C X E){m:Str}(h:(qcq o&&es.all qaq&&decide (es.length<30))=true)(hl:(ap.endLine==p.line)=true):
  PE X (.Call (.Attribute o m ap) es [] p) (tE M E (qab F (match qqG m "list",qqG m "dict" with
     |some b,some d=>.alt (.bm (g.own p) b (cE g n C o) (es.map (cE g n C))) (.bm (g.own p) d (cE g n C o) (es.map (cE g n C)))
     |some b,none=>.bm (g.own p) b (cE g n C o) (es.map (cE g n C))
     |none,some d=>.bm (g.own p) d (cE g n C o) (es.map (cE g n C))
     |none,none=>if C.calm then .mth (g.ms m) m (cE g n C o) (es.map (cE g n C)) else .no))):=by
 simp only[Bool.and_eq_true,decide_eq_true_eq] at h;obtain⟨⟨h1,h2⟩,h3⟩:=h;have args:PA X es (tA M E (runA F (es.map (cE g n C)))):=qba (λe _=>IH.e C X E c e) h2;have bm: ∀b:Bm,m=b.nm->PE X (.Call (.Attribute o m ap) es [] p) (tE M E (qab F (.bm (g.own p) b (cE g n C o) (es.map (cE g n C))))):=λb e=>by
  subst e;cases es with
  |nil=>exact qtL b c.un c.K (IH.e C X E c o) (qdh h1) hl
  |cons e es=>have aj:=h2;rw[List.all_cons,Bool.and_eq_true] at aj;exact qwv b c.un c.K (IH.e C X E c o) args (qdh h1) (qnT h2 h3) hl (qcx aj.1) (qbr aj.2)
 split
 ·rename_i e1 e2;exact qtN (bm _ (qng e1)) (bm _ (qng e2))
 ·rename_i e1 e2;exact bm _ (qng e1)
 ·rename_i e1 e2;exact bm _ (qng e2)
 ·split
  ·rename_i hc;obtain⟨cm,hr,ps⟩:=c.cm hc;have hM: ∀c' f,((g.ms m).lookup c').map F=some f->qdk X (CXE X.prog X.w) (clA M.K c') m (spF M f):=λc' f e=>by obtain⟨i,e1,rfl⟩:=qar e;obtain⟨fa,fd,fG,a1,a2,a3,a4⟩:=c.gf.mt m c' i (qvQ e1);exact⟨fa,fd,fG,8*k,by rw[c.K];exact a1,by rw[c.K];exact a2,by rw[c.K];exact a3,hr.mono (by omega),by rw[c.K];exact a4⟩
   cases es with
   |nil=>exact qmO hM (IH.e C X E c o) ps (qjE h1 h2 h3 hl)
   |cons e es=>have aj:=h2;rw[List.all_cons,Bool.and_eq_true] at aj;exact qqk hM (IH.e C X E c o) ps args (qcx aj.1) (qbr aj.2) (qjE h1 h2 h3 hl)
  ·exact qak
theorem qeF(h:qom g C b=some tbl): ∃D p,b= .Name D p/\qiv C D=true/\g.dt.lookup D=some tbl:=by
 cases b with
 |Name D p=>
  have h:(if qiv C D then g.dt.lookup D else none)=some tbl:=h
  simp_all
 |_=>cases h
theorem qe0(h:qsA o=some neg):o=if neg=true then .NotIn else .In:=by cases o<;>first|(cases h;done)|(cases h;rfl)
theorem qqw(c:Cok M g F k C X E)(ha:PE X a (tE M E (qab F ca)))(hb:PE X b (tE M E (qab F cb)))(h:qbK b=true):PE X (.Compare a [o] [b] pos) (tE M E (qab F (qqD g C o b ca cb))):=by
 unfold qqD;split
 ·rename_i tbl neg e1 e2;obtain⟨D,p,rfl,hg,hd⟩:=qeF e1;obtain⟨gl,aJ⟩:=c.gl hg;rw[qe0 e2];exact qmM (by rw[c.K];exact c.gf.dt D tbl hd) gl ha aJ neg
 ·exact PE.weakF (qfX (qdL c.un c.K _) ha hb (qhg h)) λ_ _ _ cq q=>qd9 qcF.b cq q
theorem qm4(c:Cok M g F k C X E)(ha:PE X a (tE M E (qab F ca)))(hb:PE X b (tE M E (qab F cb)))(h:qbK b=true):PT X (.Compare a [o] [b] pos) (tT M E (dTB (qab F (qqD g C o b ca cb)))):=by
 unfold qqD;split
 ·rename_i tbl neg e1 e2;obtain⟨D,p,rfl,hg,hd⟩:=qeF e1;obtain⟨gl,aJ⟩:=c.gl hg;rw[qe0 e2];exact qmF (by rw[c.K];exact c.gf.dt D tbl hd) gl ha aJ neg
 ·exact PT.weak (qd6 (qdL c.un c.K o) ha hb (qhg h)) λ_ _ _ q=>qd9 qcF.b qqy (qcK q)
theorem qsS(c:Cok M g F k C X E)(ha:PE X a (tE M E (qab F ca)))(hb:PE X b (tE M E (qab F cb)))(h:qjz b=true):PE X (.Subscript a b pos) (tE M E (qab F (cIx g C ow a b ca cb))):=by
 unfold cIx;split
 ·exact qak
 ·exact PE.weakF (qr5 (qyc (by have:=c.un;omega) c.K) ha hb (qif h)) λ_ _ _ cq q=>qd9 qcF.b cq q
theorem qna(IH:Eo M g F k n)(c:Cok M g F k C X E){f:Str}(hp:es.all qaq=true)(hc:C.calm=true):PE X (.Call (.Name f pp) es [] p) (tE M E (qab F (qhK g C f (es.map (cE g n C))))):=by
 unfold qhK;split
 ·exact qak
 ·split<;>exact qak
theorem qyC(IH:Eo M g F k n)(gu: ∀C X E,Cok M g F k C X E->∀(x:Bool),x=false->∀elt tg iter ifs sc p,PE X (.ListComp elt [⟨tg,iter,ifs,0⟩] sc p) (tE M E (qab F (cComp g n C x elt tg iter ifs sc p))))(c:Cok M g F k C X E)(e:Expr):PE X e (tE M E (qab F (cE g (n+1) C e))):=by
 have ih:=IH.e C X E c;have cY:=IH.t C X E c;cases e with
 |Constant cc kk p=>
  cases cc with
  |none=>exact qtK qr4 λB=>qeZ
  |bool b=>exact qtK qo3 λB=>qa9
  |int i=>exact qtK qnD λB=>qaO
  |str s=>exact qtK qha λB=>qcs
  |_=>exact qak
 |Name x p=>exact qpk c
 |Tuple es kk p=>
  show PE X _ (tE M E (qab F (if es.all qaq then .tup (es.map (cE g n C)) else .no)));split
  ·rename_i h;exact qtG (qba (λe _=>ih e) h)
  ·exact qak
 |List es p=>
  show PE X _ (tE M E (qab F (if es.all qaq then .lst (g.own p) (es.map (cE g n C)) else .no)));split
  ·rename_i h;show PE X _ (tE M E (qiz _ _));unfold qiz;split
   ·exact qqj (qnX (qba (λe _=>ih e) h))
   ·exact qqn (qnX (qba (λe _=>ih e) h))
  ·exact qak
 |Dict ks vs p=>
  cases ks with
  |nil=>
   cases vs with
   |nil=>
    show PE X _ (tE M E (qiz _ _));unfold qiz;split
    ·exact qqj qkB
    ·exact qqn qkB
   |cons _ _=>exact qak
  |cons _ _=>exact qak
 |BinOp a op b p=>
  show PE X _ (tE M E (qab F (match qvL op with|some o=>.o2 (g.own p) o (cE g n C a) (cE g n C b)|none=>.no)));split
  ·rename_i o ho;exact PE.weakF (qoX (bin_ok c.K ho) (ih _) (ih _)) λ_ _ _ cq q=>qd9 qcF.b cq q
  ·exact qak
 |UnaryOp op a p=>
  cases op with
  |Not=>exact qtH (ih _)
  |USub=>exact qtI (ih _)
  |_=>exact qak
 |BoolOp op es p=>
  cases op with
  |And=>exact qob ih _
  |Or=>exact qsb ih _
 |IfExp t a b p=>exact qwt (cY _) (ih _) (ih _)
 |Compare a ops bs p=>
  match ops,bs with
  |[o],[b]=>
   show PE X _ (tE M E (qab F (if qbK b then qqD g C o b (cE g n C a) (cE g n C b) else .no)));split
   ·rename_i h;exact qqw c (ih _) (ih _) h
   ·exact qak
  |[o,q],[b,d]=>
   show PE X _ (tE M E (qab F (if qbK d then .chain (qn6 o) (qn6 q) (cE g n C a) (cE g n C b) (cE g n C d) else .no)));split
   ·rename_i h;exact PE.weakF (qlY (qdL c.un c.K _) (qdL c.un c.K _) (ih _) (ih _) (ih _) (qdz h)) λ_ _ _ cq q=>qdP cq q
   ·exact qak
  |[],_=>exact qak
  |[o],[]=>exact qak
  |[o],_::_::_=>exact qak
  |[o,q],[]=>exact qak
  |[o,q],[_]=>exact qak
  |[o,q],_::_::_::_=>exact qak
  |_::_::_::_,_=>exact qak
 |Subscript a b p=>
  cases b with
  |Slice lo hi st q=>
   cases st with
   |none=>exact qmN c.K (ih _) (qnH ih _) (qnH ih _)
   |some st=>exact qak
  |_=>exact qsS c (ih _) (ih _) rfl
 |Attribute a f p=>
  show PE X _ (tE M E (qab F (if qcq a then .fld (g.fls f) f (cE g n C a) else .no)));split
  ·rename_i h;exact qtJ c.K (λc' bS=>c.gf.fl _ c' bS) (ih _) (qdh h)
  ·exact qak
 |Call f es cX p=>
  cases f with
  |Attribute o m ap=>
   cases cX with
   |nil=>
    show PE X _ (tE M E (qab F (if(qcq o&&es.all qaq&&decide (es.length<30))&&ap.endLine==p.line then
    (match qqG m "list",qqG m "dict" with
     |some b,some d=>.alt (.bm (g.own p) b (cE g n C o) (es.map (cE g n C))) (.bm (g.own p) d (cE g n C o) (es.map (cE g n C)))
     |some b,none=>.bm (g.own p) b (cE g n C o) (es.map (cE g n C))
     |none,some d=>.bm (g.own p) d (cE g n C o) (es.map (cE g n C))
     |none,none=>if C.calm then .mth (g.ms m) m (cE g n C o) (es.map (cE g n C)) else .no) else .no)))
    split
    ·rename_i h;rw[Bool.and_eq_true] at h;exact qpo IH c h.1 h.2
    ·exact qak
   |cons _ _=>exact qak
  |Name f fp=>
   cases cX with
   |nil=>
    have go:PE X (.Call (.Name f fp) es [] p) (tE M E (qab F (if(es.all qaq&&C.calm)&&qiv C f then cCall g n C f es p else if es.all qaq&&C.calm then qhK g C f (es.map (cE g n C)) else .no))):=by
     split
     ·rename_i h;simp only[Bool.and_eq_true] at h;exact IH.c C X E c h.1.2 _ _ _ _ h.1.1 h.2
     ·split
      ·rename_i h;rw[Bool.and_eq_true] at h;exact qna IH c h.1 h.2
      ·exact qak
    match es,go with
    |[],go=>exact go
    |[_],go=>exact go
    |_::_::_,go=>exact go
   |cons kw cX=>
    obtain⟨ka,v,kp⟩:=kw
    match es with
    |[]=>exact qak
    |_::_::_=>exact qak
    |[e]=>
     cases ka with
     |none=>cases cX<;>exact qak
     |some kw=>
      cases v with
      |Lambda a body sc lp=>
       cases cX with
       |nil=>
        show PE X _ (tE M E (qab F (if f== "sorted" &&kw== "key" &&qc3 C f&&qaq e then(match qjU C a sc with
    |some x=>(match qxm x body with|some b=>.no|none=>.no)
    | none=>.no) else .no)))
        split
        ·rename_i h;split
         ·rename_i x hx;split
          ·rename_i b hb;exact qak
          ·exact qak
         ·exact qak
        ·exact qak
       |cons _ _=>exact qak
      |_=>cases cX<;>exact qak
  |_=>exact qak
 |ListComp elt gs sc p=>
  cases gs with
  |nil=>exact qak
  |cons gg gs=>
   obtain⟨tg,iter,ifs,as⟩:=gg;cases gs with
   |nil=>
    cases as with
    |ofNat m=>
     cases m with
     |zero=>exact gu C X E c _ rfl _ _ _ _ _ _
     |succ m=>exact qak
    |negSucc m=>exact qak
   |cons _ _=>
    cases as with
    |ofNat m=>cases m<;>exact qak
    |negSucc m=>exact qak
 |_=>exact qak
theorem qxP(IH:Eo M g F k n)(he:PE X e (tE M E (qab F (cE g (n+1) C e))))(c:Cok M g F k C X E):PT X e (tT M E (dTB (qab F (cE g (n+1) C e)))):=by
 have ih:=IH.e C X E c;have cY:=IH.t C X E c;cases e with
 |UnaryOp op a p=>
  cases op with
  |Not=>show PT X _ (tT M E (dTB (qmT _)));rw[qrl];exact qtq (cY a)
  |_=>exact qnV he λ_=>rfl
 |BoolOp op es p=>
  cases op with
  |And=>exact(qk7 cY es).pt
  |Or=>exact(qnG cY es).pt
 |IfExp t a b p=>show PT X _ (tT M E (dTB (qiB _ _ _)));rw[quL];exact PT.weak (qrP (cY t) (cY a) (cY b)) λ_ _ _ q=>qel q
 |Compare a ops bs p=>
  have no:PT X (.Compare a ops bs p) (tT M E (dTB (qab F .no))):=(by rintro _ _ _ _ _ _ ⟨_,_,_,_,w⟩;exact w.elim)
  match ops,bs,no with
  |[o],[b],no=>
   show PT X _ (tT M E (dTB (qab F (if qbK b then qqD g C o b (cE g n C a) (cE g n C b) else .no))));split
   ·rename_i h;exact qm4 c (ih a) (ih b) h
   ·exact no
  |[o,q],[b,d],no=>
   show PT X _ (tT M E (dTB (qab F (if qbK d then .chain (qn6 o) (qn6 q) (cE g n C a) (cE g n C b) (cE g n C d) else .no))));split
   ·rename_i h;exact PT.weak (qlM (qdL c.un c.K o) (qdL c.un c.K q) (ih a) (ih b) (ih d) (qdz h)) λ_ _ _ q=>qdP qqy (qcK q)
   ·exact no
  |[],_,no=>exact no
  |[o],[],no=>exact no
  |[o],_::_::_,no=>exact no
  |[o,q],[],no=>exact no
  |[o,q],[_],no=>exact no
  |[o,q],_::_::_::_,no=>exact no
  |_::_::_::_,_,no=>exact no
 |_=>exact qnV he λ_=>rfl
theorem qkw(M:Md)(g:Gx)(F:Fs)(k:Nat): ∀n,Eo M g F k n/\(∀C X E,Cok M g F k C X E->∀(x:Bool),x=false->∀elt tg iter ifs sc p,PE X (.ListComp elt [⟨tg,iter,ifs,0⟩] sc p) (tE M E (qab F (cComp g n C x elt tg iter ifs sc p)))/\
  ∀(i:Nat)(y:Str)(py spos:Pos),x=false->X.N[i]? =some y->C.sc.names.lookup y=some .local->swapsWith (.ListComp elt [⟨tg,iter,ifs,0⟩] sc p) (some (.Name y py)) spos.line X.env=pure true->
   PS X (.Assign [.Name y py] (.ListComp elt [⟨tg,iter,ifs,0⟩] sc p) spos) (tS M E (qmS i (qab F (cComp g n C x elt tg iter ifs sc p)))))
 |0=>⟨⟨λC X E c e=>qak,(by rintro C X E c e _ _ _ _ _ _ ⟨_,_,_,_,w⟩;exact w.elim),λC X E c _ f es p pp _ _=>qak,λC X E c tg it=>qdp⟩,λC X E c x hx elt tg iter ifs sc p=>⟨qak,(by rintro _ _ _ _ _ _ _ _ _ _ _ _ _ _ ⟨_,_,_,_,w⟩;exact w.elim)⟩⟩
 |n+1=>by obtain⟨IH,hc⟩:=qkw M g F k n;have he: ∀C X E,Cok M g F k C X E->∀e,PE X e _:=λC X E c e=>qyC IH (λC X E c x hx elt tg iter ifs sc p=>(hc C X E c x hx elt tg _ ifs sc p).1) c e;exact⟨⟨he,λC X E c e=>qxP IH (he C X E c e) c,λC X E c hc f es p pp hp hg=>qqB IH c hc hp hg,λC X E c tg it=>qvZ IH c tg it⟩,λC X E c x hx elt tg iter ifs sc p=>qqq IH c hx⟩
end
section
variable{M:Md}{g:Gx}{F:Fs}{k n:Nat}{C:Cc}{X:Cx}{E:XK}
theorem qwm{x:Str}(h:(g.ex.map (·.1)).contains x=true): ∃bs,(x,bs)∈g.ex:=by
 simp_all
theorem qlz{is:List Nat}{ts:List T}{ρ ρ':Ro}(h:qbt is ts ρ=some ρ'):is.length=ts.length:=by
 induction is generalizing ts ρ with
 |nil=>cases ts with
  |nil=>rfl
  |cons _ _=>cases h
 |cons i is ih=>cases ts with
  |nil=>cases h
  |cons t ts=>simp[ih h]
theorem qjX{N:List Str}: ∀{xs:List Str}{is:List Nat},qpB N xs=some is->is.length=xs.length/\∀(j:Nat)(x:Str)(i:Nat),xs[j]? =some x->is[j]? =some i->N[i]? =some x
 |[],is,h=>by cases h;simp
 |x::xs,is,h=>by
  obtain⟨i,e1,e2⟩:=bind_some h;obtain⟨bI,e3,rfl⟩:=qar e2;obtain⟨a,b⟩:=qjX e3;refine⟨by simp[a],λj y q e4 e5=> ?_⟩;cases j with
  |zero=>cases e4;cases e5;exact qbY e1
  |succ j=>exact b j y q (by simpa using e4) (by simpa using e5)
theorem qjK{line:Nat}: ∀{ts:List Expr}{xs:List Str},qbG C line ts=some xs->ts.length=xs.length/\(∀x∈xs,C.sc.names.lookup x=some .local)/\∃ps:List Pos,ps.length=xs.length/\ts=(xs.zip ps).map (λq=>Expr.Name q.1 q.2)/\∀p∈ps,p.line=line
 |[],xs,h=>by cases h;exact⟨rfl,(λ_ h=>nomatch h),[],rfl,rfl,λ_ h=>nomatch h⟩
 |e::ts,xs,h=>by
  cases e with
  |Name x p=>
   have h:(if decide (C.sc.names.lookup x=some .local)&&p.line==line then(qbG C line ts).map (x:: ·) else none)=some xs:=h;split at h
   ·rename_i hc;rw[Bool.and_eq_true] at hc;obtain⟨ys,e1,rfl⟩:=qar h;obtain⟨a,b,ps,d,e,f⟩:=qjK e1;refine⟨by simp[a],λy hy=> ?_,p::ps,by simp[d],by rw[e];rfl,λq hq=> ?_⟩
    ·grind
    grind
   ·cases h
  |_=>cases h
theorem qhL{env:Env}{sc:Scope}(h:env.scope=sc)(hk:sc.kind= .function):env.blockKind= .function:=by unfold Env.blockKind;rw[h,hk];rfl
theorem qcf{vs:List Expr}(hp:vs.all qaq=true)(hv:v∈vs): ∀a b,v≠.Starred a b:=λa b e=>by have:=List.all_eq_true.mp hp v hv;rw[e] at this;cases this
theorem qtd{α β:Type}{f:α->Option β}: ∀{l:List α},(∃a∈l,f a=none)->(l.filterMap f).length<l.length
 |[],⟨_,h,_⟩=>nomatch h
 |b::l,⟨a,h,e⟩=>by
  have le:=List.length_filterMap_le f l
  rcases List.mem_cons.mp h with rfl|h
  ·grind
  ·have:=qtd ⟨a,h,e⟩
   grind
theorem qh0{ts vs:List Expr}{kt kv:Nat}{pt pv:Pos}(fO:X.env.scope=C.sc)(h:ts.any (qjy C)=true):swappedStores [.Tuple ts kt pt] (.Tuple vs kv pv) X.env=pure none:=by
 obtain⟨a,ha,hn⟩:=List.any_eq_true.mp h;unfold swappedStores;dsimp only;split
 ·rfl
 split
 ·rfl
 rw[if_pos];refine Bool.or_eq_true_iff.mpr (.inl (bne_iff_ne.mpr (Vn (qtd ⟨a,ha,?_⟩))));cases a with
 |Name x p=>
  have e:(X.env.kindOf x==some NameKind.local)=false:=by show(X.env.scope.names.lookup x==some NameKind.local)=false;rw[fO];have hn:(!decide (C.sc.names.lookup x=some .local))=true:=hn;simpa using hn
  simp only[e,Bool.false_and,Bool.false_eq_true,if_false]
 |_=>rfl
theorem qlv{x y:Str}{px py pt pv:Pos}{a b:Expr}{kt kv:Nat}(fO:X.env.scope=C.sc)(hk:C.sc.kind= .function)(hp:[a,b].all qaq=true)(hx:C.sc.names.lookup x=some .local)(hy:C.sc.names.lookup y=some .local)(hl:py.line=px.line)(hd:([x,y].eraseDups.length==[x,y].length)=true)(hf:[a,b].all (foldedForSure 8)=false)(hc:[a,b].all (constantsAlone 8)=false):swappedStores [.Tuple [.Name x px,.Name y py] kt pt] (.Tuple [a,b] kv pv) X.env=pure (some [x,y]):=by
 have e1:X.env.kindOf x=some .local:=by unfold Env.kindOf;rw[fO];exact hx
 have e2:X.env.kindOf y=some .local:=by unfold Env.kindOf;rw[fO];exact hy
 have hb:=qhL fO hk;have s1: ∀p q,a≠.Starred p q:=qcf hp (by simp);have s2: ∀p q,b≠.Starred p q:=qcf hp (by simp);have hs:([a,b].any λ| .Starred .. =>true|_=>false)=false:=by rw[List.any_eq_false];intro e he h;have ne:=qcf hp he;cases e<;>first|(cases h;done)|exact absurd rfl (ne _ _)
 unfold swappedStores;simp only[List.head?_cons,Option.map_some,Option.getD_some,Expr.pos,hb,List.length_cons,List.length_nil,List.filterMap_cons,List.filterMap_nil,e1,e2,hl,beq_self_eq_true,Bool.and_self,if_true];have eO:([x,y].eraseDups.length != 2)=false:=by have:([x,y].eraseDups.length==2)=true:=hd;simp only[bne,this,Bool.not_true]
 rw[if_neg (by decide),if_neg (λh=>by have h':([a,b].any λ| .Starred .. =>true|_=>false)=true:=h;rw[hs] at h';cases h'),if_neg (λh=>by
  have h':(false||([x,y].eraseDups.length != 2))=true:=h;rw[eO] at h';cases h'),hf,hc]
 rfl
theorem qei{α:Type}{l:List α}(h:l.length=2): ∃a b,l=[a,b]:=match l,h with|[a,b],_=>⟨a,b,rfl⟩
theorem qr9{is:List Nat}{es:List CE}{ts vs:List Expr}{kt kv:Nat}{pt pv pos:Pos}{cs:CS}(c:Cok M g F k C X E)(he: ∀e,PE X e (tE M E (qab F (cE g n C e))))(h:qt6 g n C ts vs=some cs):PS X (.Assign [.Tuple ts kt pt] (.Tuple vs kv pv) pos) (tS M E (qaC F cs)):=by
 unfold qt6 at h;split at h
 case isFalse=>cases h
 rename_i hc;simp only[Bool.and_eq_true,Bool.not_eq_true'] at hc;obtain⟨⟨⟨⟨⟨⟨h1,h2⟩,h3⟩,h4⟩,h5⟩,h6⟩,h7⟩:=hc;obtain⟨xs,e1,e2⟩:=bind_some h;split at e2
 case isFalse=>cases e2
 rename_i jM;rw[Bool.and_eq_true] at jM;obtain⟨hd,nd⟩:=jM;have nd:xs.Nodup:=of_decide_eq_true nd;obtain⟨is,e3,rfl⟩:=qar e2;obtain⟨l1,ez,ps,l2,rfl,aq⟩:=qjK e1;obtain⟨l3,hN⟩:=qjX e3;have hv:=eq_of_beq h2;have args:PA X vs (tA M E (runA F (vs.map (cE g n C)))):=qba (λe _=>he e) h3;have hnd:X.N.Nodup:=by rw[c.N];exact c.nd
 have inj: ∀{i j:Nat}{x y:Str},X.N[i]? =some x->X.N[j]? =some y->x≠y->i≠j:=λe1 e2 n z=>by subst z;rw[e1] at e2;exact n (Option.some.inj e2)
 have lk: ∀x,x∈xs->X.env.scope.names.lookup x=some .local:=λx hx=>by rw[c.sc];exact ez x hx
 have z2:xs.length=2:=by rw[<-l1];exact eq_of_beq h1
 rw[l1] at hv;obtain⟨cm,_,_⟩:=c.cm h4
 ·obtain⟨x,y,rfl⟩:=qei z2;obtain⟨px,py,rfl⟩:=qei (l2.trans z2);obtain⟨i,j,rfl⟩:=qei (l3.trans z2);obtain⟨a,b,rfl⟩:=qei (hv.trans z2);have nx:X.N[i]? =some x:=by rw[c.N];exact hN 0 x i rfl rfl
  have ny:X.N[j]? =some y:=by rw[c.N];exact hN 1 y j rfl rfl
  have hln:py.line=px.line:=(aq py (by simp)).trans (aq px (by simp)).symm;refine PS.weak (qrS cm hnd nx ny (inj nx ny (by simp at nd;exact nd)) (lk _ (by simp)) (lk _ (by simp)) args (qlv c.sc (of_decide_eq_true h5) h3 (ez x (by simp)) (ez y (by simp)) hln hd h7 h6)) λD σ H ⟨ρ,O,B,ev,w⟩=>⟨ρ,O,B,ev,(Wn.bind w).mono λts m w1 us H1 B1 h1 g1 r1=> ?_⟩
  change Wn M E H B (KS M H B D) (match qbt [i,j] ts ρ with|some ρ'=>.ok (.nx ρ') m|none=>.no) at w1
  split at w1
  ·rename_i ρ' er;have lt:=qlz er
   match ts,lt,er,r1 with
   |[t,u],_,er,r1=>obtain⟨v,v',rfl,a1,a2⟩:=qh6 r1;cases er;exact⟨v,v',rfl,w1 _ H1 B1 (((ev.on h1 g1.le).set a1).set a2) g1⟩
  ·exact w1.elim
end
section
theorem qki(h:PS X st (tS M E (qaC F s))): ∀xs:List Str,PS X st (tS M E (qaC F (qfj C xs s)))
 |[]=>h
 |x::xs=>by
  show PS X st (tS M E (qaC F (match qjZ C.N x with|some i=>.frz i _|none=>qfj C xs s)));split
  ·exact qtu _ (qki h xs)
  ·exact qki h xs
theorem qgN{x:Str}(c:Cok M g F k C X E)(hk:decide (C.sc.kind= .function)=true):
  swapsWith (.ListComp elt gs sc q) (some (.Name x p)) line X.env=pure (qdX C (.ListComp elt gs sc q) x p):=by
 show(pure _)=_;unfold qdX;rw[qhL c.sc (of_decide_eq_true hk),hk];unfold Env.kindOf;rw[c.sc];have hb:(C.sc.names.lookup x==some NameKind.local)=decide (C.sc.names.lookup x=some .local):=by grind
 rw[hb];rfl
theorem qrz(c:Cok M g F k C X E){x:Str}:PS X (.Assign [.Name x p] e pos) (tS M E (qaC F (qwG g n C x p e))):=by
 obtain⟨eo,hc⟩:=qkw M g F k n;unfold qwG;split
 case isFalse=>exact qa6
 rename_i hs;split
 ·exact qa6
 ·rename_i i hi;have hN:X.N[i]? =some x:=by rw[c.N];exact qbY hi
  have st:swapsWith e (some (.Name x p)) pos.line X.env=pure false->PS X (.Assign [.Name x p] e pos) (tS M E (qaC F (.set i (cE g n C e)))):=λh=>
   qtr (by rw[c.N];exact c.nd) hN (by rw[c.sc];exact qrs hs) (eo.e C X E c e) h (by rw[c.sc];exact c.fn x hs)
  split
  ·split
   ·rename_i hk;split
    ·rename_i bQ;refine(hc C X E c false rfl _ _ _ _ _ _).2 i x p pos rfl hN ?_ (by rw[qgN c hk,bQ]);unfold qdX at bQ;simp only[Bool.and_eq_true,decide_eq_true_eq] at bQ;exact bQ.1.1.2
    ·rename_i bQ;exact st (by rw[qgN c hk];simp only[Bool.not_eq_true] at bQ;rw[bQ])
   ·exact qa6
  ·split
   ·rename_i h;exact st (qcD h)
   ·exact qa6
theorem qu4(IH: ∀C X E,Cok M g F k C X E->∀bN,PSs X bN (tS M E (runSs F (cSs g n C bN))))(c:Cok M g F k C X E)(st:Stmt):PS X st (tS M E (qaC F (cS1 g (n+1) C st))):=by
 obtain⟨eo,hc⟩:=qkw M g F k n;have ih:=eo.e C X E c;have hn: ∀e:Expr,PE X e (tE M E (qab F (cE g n C e))):=ih;cases st with
 |Return v p=>
  cases v with
  |none=>exact qp5
  |some e=>exact qts (ih _)
 |Pass p=>exact qp6
 |Break p=>exact qmI
 |Continue p=>exact qgi
 |Expr e p=>
  show PS X _ (tS M E (qaC F (if qgP e then .nx else if qdA e then .exp (cE g n C e) else .no)));split
  ·rename_i h;cases e with
   |Constant cc j q=>
    cases cc with
    |str s=>exact PS.weak qrW (by rintro D σ H ⟨ρ,O,B,ev,w⟩;exact w σ H B ev .refl)
    |_=>cases h
   |_=>cases h
  ·split
   ·rename_i h;exact qp7 (ih _) (qcD h)
   ·exact qa6
 |If t a b p=>exact qwp (eo.t C X E c _) (IH C X E c _) (IH C X E c _)
 |For tg it b els p=>
  cases els with
  |nil=>
   show PS X _ (tS M E (qaC F (if(C.top&&C.calm)&&qbK it then .for_ (cG C n tg) (cI g n C tg it) (cSs g n C b) else .no)));split
   ·rename_i h;simp only[Bool.and_eq_true] at h;exact qtv (c.tp h.1.1).ow (c.cm h.1.2).1 (eo.i C X E c _ _) (qiV c n _) (IH C X E c _) (qeb h.2)
   ·exact qa6
  |cons _ _=>exact qa6
 |Assign ts e p=>
  match ts with
  |[]=>exact qa6
  |t::_::_=>cases t<;>exact qa6
  |[t]=>
   cases t with
   |Name x px=>exact qrz c
   |Attribute o f q=>exact qtw c.K (λc' bS=>c.gf.fl _ c' bS) (ih _) (ih _) (qgO λ_ _ z=>by cases z)
   |Subscript o i q=>exact qtt (by have:=c.un;omega) (ih _) (ih _) (ih _) (qgO λ_ _ z=>by cases z)
   |Tuple ts kt pt=>
    have other:(∀vs kv pv,e≠.Tuple vs kv pv)->PS X (.Assign [.Tuple ts kt pt] e p) (tS M E (qaC F (if qdA e then .asg (cG C n (.Tuple ts kt pt)) (cE g n C e) else .no))):=λd9=>by
     split
     ·rename_i h;refine qnW (ih _) (qiV c n _) (qcD (t:=some (.Tuple ts kt pt)) (l:=p.line) (env:=X.env) h) ?_ rfl;cases e<;>first|rfl|exact(d9 _ _ _ rfl).elim
     ·exact qa6
    cases e with
    |Tuple vs kv pv=>
     show PS X _ (tS M E (qaC F (if ts.any (qjy C) then .asg (cG C n (.Tuple ts kt pt)) (cE g n C (.Tuple vs kv pv)) else(qt6 g n C ts vs).getD .no)));split
     ·rename_i hn;exact qnW (ih _) (qiV c n _) (qcD (e:=.Tuple vs kv pv) (t:=some (.Tuple ts kt pt)) (l:=p.line) (env:=X.env) rfl) (qh0 c.sc hn) rfl
     cases hp:qt6 g n C ts vs with
     |none=>exact qa6
     |some cs=>exact qr9 (is:=[]) (es:=[]) c ih hp
    |_=>exact other λ_ _ _ z=>by cases z
   |_=>exact qa6
 |Raise a b p=>
  cases a with
  |none=>exact qa6
  |some a=>
   cases a with
   |Call f es cX q=>
    cases f with
    |Name x np=>
     match es,cX,b with
     |[a],[],none=>
      show PS X _ (tS M E (qaC F (if C.top&&qiv C x&&(g.ex.map (·.1)).contains x&&qgP a then .raise x else .no)));split
      ·rename_i h;simp only[Bool.and_eq_true] at h;obtain⟨⟨⟨h1,h2⟩,h3⟩,h4⟩:=h;obtain⟨gl,hd⟩:=c.gl h2;cases a with
       |Constant cc j q1=>
        cases cc with
        |str s=>exact qmH ((c.tp h1).rs x s j np q1 q p h3 gl hd)
        |_=>cases h4
       |_=>cases h4
      ·exact qa6
     |[],_,_=>exact qa6
     |_::_::_,_,_=>exact qa6
     |[_],_::_,_=>exact qa6
     |[_],[],some _=>exact qa6
    |_=>exact qa6
   |_=>exact qa6
 |_=>exact qa6
theorem qw3: ∀n,(∀C X E,Cok M g F k C X E->∀st,PS X st (tS M E (qaC F (cS g n C st))))/\(∀C X E,Cok M g F k C X E->∀st,PS X st (tS M E (qaC F (cS1 g n C st))))/\∀C X E,Cok M g F k C X E->∀bN,PSs X bN (tS M E (runSs F (cSs g n C bN)))
 |0=>⟨λC X E c st=>qa6,λC X E c st=>qa6,λC X E c bN=>λ_ _ _ _ _ _ ⟨_,_,_,_,w⟩=>w.elim⟩
 |n+1=>by
  obtain⟨h1,h2,h3⟩:=qw3 n;refine⟨λC X E c st=>qki (h2 C X E c st) _,λC X E c st=>qu4 h3 c st,λC X E c bN=> ?_⟩
  induction bN with
  |nil=>exact qp4
  |cons st bN ih=>exact qmG (h1 C X E c st) ih
end
noncomputable def LmK(M:Md)(g:Gx)(mg:Str->Option Value)(base:Heap)(q:Str)(fd:FuncData):Prop:=g.lm.contains q=true->∃c P,fd.code= .ref c/\W.CodeHd base c P/\qfM mg base/\(∀H,M.G.P H->qgH P (q++(".<locals>." :Str)++("<lambda>" :Str)) H)/\∀H H2,M.G.P H->qfL P H H2->(∀b,H b≠none->H2 b≠none)->qgH P (q++(".<locals>." :Str)++("<lambda>" :Str)) H2->M.G.P H2
structure Kf(M:Md)(g:Gx)(P:Program)(w:World)(mg:Str->Option Value)(base:Heap):Prop where
 fn: ∀(x:Str)(i:Nat)(st:Stmt),g.fi x=some i->x.cps.contains 46=false->g.fs[i]? =some (x,st)->∃f fd,Fun M.K x x st f fd/\mg x=some (.ref f)/\LmK M g mg base x fd
 nb: ∀x,qcJ.contains x=true->mg x=none
 cs: ∀x t,g.cs.lookup x=some t->∃v u,mg x=some u/\RelV v u/\∀B,Rep M.K B t v
 ex: ∀c bs,(c,bs)∈g.ex->mg c=some (.ref (clA M.K c))/\∃bm,qdm base (clA M.K c) bm/\∀x∈bs,(g.ex.map (·.1)).contains x=true->(Value.ref (clA M.K c)::bm).contains (.ref (clA M.K x))=true
 mt: ∀(c m:Str)(i:Nat)(st:Stmt),(g.cl.map (·.1)).contains c=true->g.fi (qaX c m)=some i->g.fs[i]? =some (qaX c m,st)->∃f fd,Fun M.K m (qaX c m) st f fd/\Cls M.K (clA M.K c)/\quh M.K (clA M.K c) m f/\LmK M g mg base (qaX c m) fd
 mkc: ∀c,(g.cl.map (·.1)).contains c=true->mg c=some (.ref (clA M.K c))/\W.makesIn M.K (clA M.K c)=true/\W.keepIn M.K (.ref (clA M.K c))=true
 fl: ∀f c,(g.fls f).contains c=true->Cls M.K (clA M.K c)/\qbe M.K (clA M.K c) f
 ok: ∀p∈g.fs,qfo p.2=true
 dt: ∀D tbl,g.dt.lookup D=some tbl->PL.TopT M.K mg w D tbl
 td:g.wd.isEmpty=false->∃z st fT fC CA fdT fdC bmA wa,Td z M P w mg base (λc=>g.wd.lookup c) st fT fC CA fdT fdC bmA wa
theorem qpW{g:Gx}{x:Str}{i:Nat}(h:g.fi x=some i): ∃st,g.fs[i]? =some (x,st):=by
 have:=qbY h
 simp_all
section
variable{x q:Str}
structure FnB(st:Stmt):Prop where
 sc:qbz (qig st) (qfV st) (qad st)
 po:(qap st).posonlyargs=[]
 va:(qap st).vararg=none
 ko:(qap st).kwonlyargs=[]
 kw:(qap st).kwarg=none
theorem qkt(h:qfo st=true):FnB st:=by
 unfold qfo at h;simp only[Bool.and_eq_true,decide_eq_true_eq,Bool.not_eq_true',Option.isNone_iff_eq_none,List.length_eq_zero_iff] at h;obtain⟨⟨⟨⟨⟨⟨⟨⟨⟨⟨⟨h1,h2⟩,h3⟩,h4⟩,h5⟩,h6⟩,h7⟩,h8⟩,h9⟩,h10⟩,h11⟩,h12⟩:=h;refine⟨⟨h1,h2,h3,h4,?_,λy hy=> ?_,λy hy=> ?_⟩,h7,h8,h9,h11⟩
 ·exact List.take_left
 ·exact qsF (List.all_eq_true.mp h5 y hy)
 ·exact of_decide_eq_true (List.all_eq_true.mp h6 y hy)
theorem qnh{M:Md}(F:Fun M.K x q st f fd)(h:FnB st):qa0 M.K fd (qfV st) []:=F.binds λkV doc pm an cdv ct us hl=>by
 have nd:=by have:=h.sc.nd;exact(List.nodup_append.mp this).1
 exact qb0 h.po h.va h.ko h.kw rfl nd hl
theorem qt0(gf:Gf M g F k P w mg base)(h:FnB st){qual:Str}(eB:lam=true->∃c P,cdv= .ref c/\W.CodeHd base c P/\qfM mg base/\(∀H,M.G.P H->qgH P (qual++(".<locals>." :Str)++("<lambda>" :Str)) H)/\∀H H2,M.G.P H->qfL P H H2->(∀b,H b≠none->H2 b≠none)->qgH P (qual++(".<locals>." :Str)++("<lambda>" :Str)) H2->M.G.P H2)(hr:qbb (8*k+7) (A.deeper (PyProof.Rows.envOfC qual (qad st) s.heap.objs.size f cdv))):
  Cok M g F k (qwF lam st) (qfv (CXE P w) P w M.K mg base (qig st) qual (qad st) f cdv A outer s H E) E:=by
 refine⟨gf,rfl,rfl,h.sc.nd,rfl,λ_ _=>.inl rfl,PL.hu8 hr,λ_=>⟨rfl,hr.mono (by omega),PL.passI⟩,λ_=>⟨rfl,rfl,rfl,λa s' h=>Vc h (λ_ _ x=>x) λ_ _ x=>x.elim,PassesOwn.leaving,λx msg j np p1 cpos pos hx gl hd=> ?_⟩,λz=> ?_,λ_ _=>rfl⟩
 ·obtain⟨bs,hb⟩:=qwm hx;obtain⟨m,bm,e,_⟩:=gf.ex x bs hb;exact qlN e m gl hd
 ·obtain⟨c,P,e1,e2,e3,e4,e5⟩:=eB z;exact⟨hr.mono (by omega),c,P,_,e1,e2,e3,rfl,e4,e5⟩
theorem qtb(lk:LmK M g mg base q fd)(gf:Gf M g (TTf g k) k P w mg base)(F:Fun M.K x q st f fd)(hb:qfo st=true)(e:g.fs[i]? =some (q,st)):qdl P w M.K mg base (CXE P w) (8*(k+1)) f fd (qfV st) (spF M (TTf g (k+1) i)):=by
 have B:=qkt hb;have e1:TTf g (k+1) i=fnR (g.kp.contains q) (qfV st).length (qig st).length (runSs (TTf g k) (cSs g 60 (qwF (g.lm.contains q) st) (qaA st))):=by show(match g.fs[i]? with|some p=>(cFn g p).run _|none=>λ_ _=>.no)=_;rw[e];show(cFn g _).run _=_;unfold cFn;rw[if_pos hb];rfl
 rw[e1];exact qwj F B.sc λcdv hc A outer s H E hr=>(qw3 60).2.2 _ _ _ (qt0 gf B (λz=>by rw[<-hc];exact lk z) hr) _
theorem qpU{ps:List Str}:qdl P w M.K mg base (CXE P w) 0 f fd ps (spF M λ_ _=>.no):=⟨(by rintro vs H Q E ⟨_,_,_,_,_,z⟩;exact z.elim),(by rintro A outer s H args us vs Q E _ _ _ _ ⟨_,_,_,_,_,z⟩;exact z.elim)⟩
theorem qnO{M:Md}{g:Gx}(kf:Kf M g P w mg base): ∀k,Gf M g (TTf g k) k P w mg base
 |k=>by
  have ih: ∀{x q:Str}{st:Stmt}{f:Addr}{fd:FuncData}{i:Nat},Fun M.K x q st f fd->LmK M g mg base q fd->g.fs[i]? =some (q,st)->qdl P w M.K mg base (CXE P w) (8*k) f fd (qfV st) (spF M (TTf g k i))/\qa0 M.K fd (qfV st) []:=λ{x q st f fd i} F lk e=>by
   have hb:=kf.ok _ (Vt e);refine⟨?_,qnh F (qkt hb)⟩;cases k with
   |zero=>exact qpU
   |succ k=>exact qtb lk (qnO kf k) F hb e
  refine⟨λx i hi hd=> ?_,kf.nb,kf.cs,kf.ex,λm c i hm=> ?_,λc i hc hi=> ?_,kf.fl,kf.dt,kf.td⟩
  ·obtain⟨st,e⟩:=qpW hi;obtain⟨f,fd,F,m,lk⟩:=kf.fn x i st hi hd e;obtain⟨a,b⟩:=ih F lk e;exact⟨f,fd,_,m,F.kp,b,a⟩
  ·obtain⟨q,hq,e⟩:=List.mem_filterMap.mp hm;obtain⟨i',e1,e2⟩:=qar e;cases e2;obtain⟨st,e3⟩:=qpW e1;obtain⟨f,fd,F,c1,m1,lk⟩:=kf.mt q.1 m i st (by rw[List.contains_iff_mem];exact List.mem_map.mpr ⟨q,hq,rfl⟩) e1 e3;obtain⟨a,b⟩:=ih F lk e3;exact⟨f,fd,_,c1,m1,a,b⟩
  ·obtain⟨st,e3⟩:=qpW hi;obtain⟨f,fd,F,c1,m1,lk⟩:=kf.mt c "__init__" i st hc hi e3;obtain⟨a,b⟩:=ih F lk e3;obtain⟨z1,z2,z3⟩:=kf.mkc c hc;exact⟨f,fd,_,z1,⟨z2,m1.at_,m1.fn,z3⟩,a,b⟩
end
open HD
noncomputable def qf1(x:Str):Bool:= !x.cps.contains 46
noncomputable def Gx.tb(g:Gx):List (Str×Stmt):=g.fs.filter λp=>qf1 p.1
noncomputable def mOf(c q:Str):Option Str:=if(qaX c "").cps.toList.isPrefixOf q.cps.toList then some ⟨(q.cps.toList.drop (qaX c "").cps.toList.length).toArray⟩ else none
noncomputable def Gx.mtl(g:Gx):List (Str×Str×Str×Stmt):=g.cl.flatMap λc=>g.fs.filterMap λp=>(mOf c.1 p.1).map λm=>(c.1,m,p.1,p.2)
noncomputable def qxj(K:W.Frag)(c:Str×T):Bool:=match W.nsIn K mainGlobals c.1,c.2 with
 |some (some (.int n _)),.int m=>n==m
 |some (some (.str n _)),.str m=>n==m
 |_,_=>false
noncomputable def bmX(K:W.Frag)(bs:List Str):List Value:=(bs.tail.filter λx=>x != ("ValueError" :Str)).map (λx=>Value.ref (clA K x))++bmV
noncomputable def qxi(K:W.Frag)(ns:List Str)(c:Str×List Str):Bool:=nsC K c.1&&qc8 K (clA K c.1) (bmX K c.2)&&c.2.all λx=> !ns.contains x||(Value.ref (clA K c.1)::bmX K c.2).contains (.ref (clA K x))
theorem quW{a b:Str}(h:a.cps.toList=b.cps.toList):a=b:=by cases a;simp_all
theorem qa1(a b:Str):(a++b).cps.toList=a.cps.toList++b.cps.toList:=by show(a.cps++b.cps).toList=_;simp
theorem qil(c m:Str):mOf c (qaX c m)=some m:=by
 have e:(qaX c m).cps.toList=(qaX c "").cps.toList++m.cps.toList:=by unfold qaX;rw[qa1,qa1];rw[qa1];show _=(_++([]))++_;rw[List.append_nil,qa1]
 unfold mOf
 simp_all
noncomputable def gQ(m:List (Addr×Str)):Gam where
 P:=λH=> ∀p∈m,qgH p.1 p.2 H
 st:=λH H' k h p hp=>by obtain⟨ps,h1,h2,h3⟩:=h p hp;refine⟨ps,k _ _ h1 (λ_ z=>by cases z) (λ_ z=>by cases z) (λ_ z=>by cases z) (λ_ _ _ z=>by cases z),h2,λpos v e=> ?_⟩;obtain⟨c,e1,e2⟩:=h3 pos v e;exact⟨c,e1,k _ _ e2 (λ_ z=>by cases z) (λ_ z=>by cases z) (λ_ z=>by cases z) (λ_ _ _ z=>by cases z)⟩
theorem qs4{qual:Str}(h:(P,qual)∈m)(nd:(m.map (·.1)).Nodup): ∀H H2,(gQ m).P H->qfL P H H2->qgH P qual H2->(gQ m).P H2:=λH H2 g same t p hp=>by
 obtain⟨ps,hP,_⟩:=g _ h;by_cases e:p.1=P
 ·have:=PL.nodup_fst nd hp h e;subst this;exact t
 ·exact PL.tabq_same (g p hp) hP e same
theorem qru{qz:List Str}(ht: ∃m,t [.scr ns] ⟨[],[]⟩= .ok (.bl true) m)(hO:qhT Ts H)(hS:SqL K H a (ns.map V.int)):spF ⟨K,gQ (Ts.zip qz)⟩ t [.ref a] H (λv _=>v= .bl true) λ_ _ _=>False:=by
 obtain⟨m,ht⟩:=ht;have tb:(gQ (Ts.zip qz)).P H:=λp hp=>quM hO.1 hp;have fin: ∀B,(∀a o,B a=some o->H a=some o)->(∀a ps,B a≠some _)->SqL K B a _->spF ⟨K,gQ _⟩ t _ H _ λ_ _ _=>False:=λB le bt sq=>by
  refine⟨⟨[],[]⟩,⟨B,λ_=>none⟩,[.scr ns],⟨le,bt,tb,(λk c e=>by simp at e),(λ_ _ _ e=>by cases e),(λ_ _ e=>by cases e),(λk c e=>by simp at e),λ_ h=>nomatch h⟩,.cons (by exact⟨a,rfl,sq⟩) .nil,?_⟩;rw[ht]
  exactλv H' B' _ _ r=>qbu r
 have cut: ∀{o },H a=some o->(∀ps,o≠.tbl ps)->SqL K (λb=>if b=a then H a else none) a _->spF _ t _ H _ _:=λ{o} ho n sq=>
  fin _ (λb o z=>by
   grind) (λb ps z=>by
   grind) sq
 rcases hS with(hS|⟨o,hS⟩)|hS
 ·exact cut hS (λps z=>by cases z) (.inl (.inl (by simp[hS])))
 ·exact cut hS (λps z=>by cases z) (.inl (.inr ⟨o,by simp[hS]⟩))
 ·exact fin (λ_=>none) (λ_ _ z=>by cases z) (λ_ _ z=>by cases z) (.inr hS)
noncomputable def lq(q:Str):Str:=q++(".<locals>." :Str)++("<lambda>" :Str)
structure qwR(K:W.Frag)(g:Gx)(w:World):Prop where
 h1:(g.tb.all λp=>okD K p.1)=true
 h2:g.tb.map (λp=>qpX K p.1)=g.tb.map λp=>(qpX K p.1).map (due p.1 p.2)
 h3:g.cs.all (qxj K)=true
 h4:qcJ.all (okN K)=true
 h5:HD.okT K g.lm=true
 h6:g.ex.all (qxi K (g.ex.map (·.1)))=true
 h7:g.cl.all (λc=>qvK K c.1 c.2)=true
 h8:(g.mtl.all λq=>okM K (clA K q.1) q.2.1 q.2.2.1)=true
 h10:(g.dt.all λp=>PL.topB K p.1 p.2)=true
 h11:g.dt.map (λp=>(PL.esOf K p.1).map λes=>es.map (·.hash))=g.dt.map λp=>some (p.2.map λq=>PyData.keyHash w.params q.1)
 h9:g.mtl.map (λq=>qsE K (clA K q.1) q.2.1)=g.mtl.map λq=>(qsE K (clA K q.1) q.2.1).map (qxq q.2.1 q.2.2.1 q.2.2.2)
theorem qvU(X:K.In h)(G:h.Ns mainGlobals mg)(S:qwR K g w)(hok:(g.fs.all λp=>qfo p.2)=true)(eB:g.lm.all qf1=true)(KI:K.In base)(hb:qfM mg base)(hC: ∀y∈g.lm,∃c,W.tabIn K y=some (c,tOf K y)/\W.CodeHd base c (tOf K y))(nd:(g.lm.map (tOf K)).Nodup)(td:g.wd.isEmpty=false->∃z st fT fC CA fdT fdC bmA wa,Td z ⟨K,gQ ((g.lm.map (tOf K)).zip (g.lm.map lq))⟩ P w mg base (λc=>g.wd.lookup c) st fT fC CA fdT fdC bmA wa):
  Kf ⟨K,gQ ((g.lm.map (tOf K)).zip (g.lm.map lq))⟩ g P w mg base:=by
 have D:=qkE X G S.h1 S.h2;have jk: ∀c fs,(c,fs)∈g.cl->mg c=some (.ref (clA K c))/\Cls K (clA K c)/\W.makesIn K (clA K c)=true/\W.keepIn K (.ref (clA K c))=true/\∀f∈fs,qbe K (clA K c) f:=λc fs hm=>qwD X G (List.all_eq_true.mp S.h7 _ hm);have kq: ∀c,(g.cl.map (·.1)).contains c=true->∃fs,(c,fs)∈g.cl:=λc hc=>by rw[List.contains_iff_mem] at hc;obtain⟨p,hp,rfl⟩:=List.mem_map.mp hc;exact⟨p.2,hp⟩
 have mem: ∀y∈g.lm,(tOf K y,lq y)∈(g.lm.map (tOf K)).zip (g.lm.map lq):=λy hy=>by obtain⟨j,hj,rfl⟩:=List.mem_iff_getElem.mp hy;refine List.mem_iff_getElem?.mpr ⟨j,?_⟩;rw[List.getElem?_zip_eq_some];simp[hj]
 have nd2:(((g.lm.map (tOf K)).zip (g.lm.map lq)).map (·.1)).Nodup:=by
  have:((g.lm.map (tOf K)).zip (g.lm.map lq)).map (·.1)=g.lm.map (tOf K):=by rw[List.map_fst_zip (by simp)]
  rw[this];exact nd
 refine⟨λx i st hi hd e=> ?_,λx hx=>qpj X G S.h4 x (by rwa [List.contains_iff_mem] at hx),λx t hx=> ?_,λc bs hm=> ?_,λc m i st hc hi e=> ?_,λc hc=> ?_,λf c hf=> ?_,λp hp=>List.all_eq_true.mp hok p hp,λD tbl hD=> ?_,td⟩
 ·have hm:(x,st)∈g.tb:=List.mem_filter.mpr ⟨Vt e,by unfold qf1;rw[hd];rfl⟩;obtain⟨j,hj⟩:=List.mem_iff_getElem?.mp hm;obtain⟨f,oc,od,osl,kV,doc,pm,an,cdv,ct,lk,aK,kp,m,n0⟩:=D j _ _ hj;refine⟨f,_,qfi lk aK kp,m,λhl=> ?_⟩;have bZ:x∈g.lm:=by rwa [List.contains_iff_mem] at hl
  obtain⟨c,tc,hc⟩:=hC x bZ;refine⟨c,tOf K x,?_,hc,hb,λH gp=>gp _ (mem x bZ),λH H2 gp same _ t=>qs4 (mem x bZ) nd2 H H2 gp same t⟩;show cdv= .ref c;unfold W.tabIn at tc;rw[n0] at tc;simp only[lk] at tc;cases cdv with
  |ref c'=>
   dsimp only at tc;split at tc
   ·split at tc
    ·cases tc;rfl
    ·cases tc
   ·cases tc
  |_=>cases tc
 ·have hm:(x,t)∈g.cs:=by
   have go: ∀l:List (Str×T),l.lookup x=some t->(x,t)∈l:=λl=>by
    induction l with
    |nil=>intro h;cases h
    |cons p l ih=>
     intro h;obtain⟨y,u⟩:=p;rw[List.lookup_cons] at h;cases q:x==y with
     |true=>rw[q] at h;cases h;rw[eq_of_beq q];exact Vj
     |false=>rw[q] at h;exact Vk _ (ih h)
   exact go _ hx
  have a:=List.all_eq_true.mp S.h3 _ hm;unfold qxj at a;split at a
  ·rename_i n tk m e1 e2;have e2:t= .int m:=e2;have:n=m:=by simpa using a
   subst this e2;exact⟨.int n,_,W.mg_of X G e1,⟨_,rfl⟩,λB=>qaO⟩
  ·rename_i n tk m e1 e2;have e2:t= .str m:=e2;have:n=m:=by simpa using a
   subst this e2;exact⟨.str n,_,W.mg_of X G e1,⟨_,rfl⟩,λB=>qcs⟩
  ·cases a
 ·have a:=List.all_eq_true.mp S.h6 _ hm;unfold qxi at a;simp only[Bool.and_eq_true,List.all_eq_true,Bool.or_eq_true,Bool.not_eq_true'] at a;obtain⟨⟨a1,a2⟩,a3⟩:=a;refine⟨qjx X G a1,_,qci KI a2,λx hx hn=> ?_⟩
  rcases a3 x hx with z|z
  ·rw[hn] at z;cases z
  ·exact z
 ·obtain⟨fs,hm⟩:=kq c hc;have hq:(c,m,qaX c m,st)∈g.mtl:=List.mem_flatMap.mpr ⟨_,hm,List.mem_filterMap.mpr ⟨_,Vt e,by rw[qil];rfl⟩⟩;obtain⟨j,hj⟩:=List.mem_iff_getElem?.mp hq;have e9:=congrArg (λl=>l[j]?) S.h9;simp only[List.getElem?_map,hj,Option.map_some] at e9;obtain⟨f,oc,od,osl,kV,doc,pm,an,cdv,ct,lk,aK,M1⟩:=qtD (List.all_eq_true.mp S.h8 _ hq) (Option.some.inj e9);refine⟨f,_,qfi lk aK M1.kp,(jk c fs hm).2.1,M1,λhl=> ?_⟩;have:=List.all_eq_true.mp eB _ (by rwa [List.contains_iff_mem] at hl);exfalso;unfold qf1 at this;have dt:(qaX c m).cps.contains 46=true:=by rw[Array.contains_iff_mem,<-Array.mem_toList_iff];unfold qaX;rw[qa1,qa1];exact Vr _ (Vs _ (by decide))
  rw[dt] at this;cases this
 ·obtain⟨fs,hm⟩:=kq c hc;obtain⟨z1,z2,z3,z4,z5⟩:=jk c fs hm;exact⟨z1,z3,z4⟩
 ·rw[List.contains_iff_mem] at hf;obtain⟨p,hp,rfl⟩:=List.mem_map.mp hf;obtain⟨gd,dZ⟩:=List.mem_filter.mp hp;obtain⟨z1,z2,z3,z4,z5⟩:=jk p.1 p.2 gd;exact⟨z2,z5 f (by simpa using dZ)⟩
 ·have hm:(D,tbl)∈g.dt:=by
   have go: ∀l:List (Str×List (Str×Str)),l.lookup D=some tbl->(D,tbl)∈l:=λl=>by
    induction l with
    |nil=>intro h;cases h
    |cons p l ih=>
     intro h;obtain⟨y,u⟩:=p;rw[List.lookup_cons] at h;cases q:D==y with
     |true=>rw[q] at h;cases h;rw[eq_of_beq q];exact Vj
     |false=>rw[q] at h;exact Vk _ (ih h)
   exact go _ hD
  obtain⟨j,hj⟩:=List.mem_iff_getElem?.mp hm;have e:=congrArg (λl=>l[j]?) S.h11;simp only[List.getElem?_map,hj,Option.map_some] at e;exact PL.topT_of X G (List.all_eq_true.mp S.h10 _ hm) (Option.some.inj e)
theorem quD{l:W.OpenLaw}{q:Program}{loose:List Str}{XP:(Str->Option Value)->Heap->Prop}{YP:World->Heap->Prop}{d:DefRec}{K:Params->W.Frag}{g:Gx}{kk i:Nat}{sl:Stmt}(hn:l.most=some 63)(eN:d.params.defaults=[])(hd:d.name= "law")(hY: ∀(w:World)(h:Heap),YP w h->(K w.params).In h)(bu: ∀y∈g.lm,∃dx,(PyProof.Rows.recsOf q).find? (λe=>e.name==y)=some dx)(hR:qbb (8*(kk+1)) callerA)(S: ∀w:World,qwR (K w.params) g w)(hok:(g.fs.all λp=>qfo p.2)=true)(eB:g.lm.all qf1=true)(hi:g.fi "law" =some i)(hs:g.fs[i]? =some (("law" :Str),sl))(hp:qfV sl=[("_law_script" :Str)])(td: ∀(w:World)(mg:Str->Option Value)(h base:Heap),(K w.params).In h->h.Ns mainGlobals mg->(K w.params).In base->g.wd.isEmpty=false->∃z st fT fC CA fdT fdC bmA wa,Td z ⟨K w.params,gQ ((g.lm.map (tOf (K w.params))).zip (g.lm.map lq))⟩ l.prog w mg base (λc=>g.wd.lookup c) st fT fC CA fdT fdC bmA wa)(hT: ∀ns:List Int,ns.length<=63->∃m,TTf g (kk+1) i [.scr ns] ⟨[],[]⟩= .ok (.bl true) m):
  W.WalkO q loose XP YP l.row.toRowW d [] (λf vs=>PySem.call f vs):=by
 refine L2.walk_ofTs (n:=63) (k:=8*(kk+1)) (x:= "_law_script") (ys:=g.lm) (CX:=λw=>CXE l.prog w) (sp:=λw aD=>spF ⟨K w.params,gQ ((aD.map (·.2)).zip (g.lm.map lq))⟩ (TTf g (kk+1) i)) hn (by decide) eN hR hY bu ?_ (λ_ _ _ a ns hl hO hS=>qru (hT ns hl) hO hS) λ_ _ _ _ _ ⟨_,_,_,_,_,_,_,z⟩=>z;intro w mg fa h X G hm;have D:=qkE X G (S w).h1 (S w).h2;have hm0:(("law" :Str),sl)∈g.tb:=List.mem_filter.mpr ⟨Vt hs,by show qf1 ("law" :Str)=true;decide+kernel⟩;obtain⟨j,hj⟩:=List.mem_iff_getElem?.mp hm0;obtain⟨f,oc,od,osl,kV,doc,pm,an,cdv,ct,lk,aK,kp,m,n0⟩:=D j _ _ hj;rw[hd] at hm;have e:=hm.symm.trans m;cases e;obtain⟨t1,t2,nd⟩:=qmW (S w).h5;have em:(qgr (K w.params) g.lm).map (·.2)=g.lm.map (tOf (K w.params)):=by unfold qgr;rw[List.map_map];rfl
 have hb:=List.all_eq_true.mp hok _ (Vt hs);have B:=qkt hb;refine⟨W.fnOf "law" "law" (qap sl) (qaA sl) (qad sl) .none kV doc pm an cdv ct,qgr (K w.params) g.lm,t1,t2,λs u=>.of_eq ?_,λbase KI _ hC iZ=> ?_⟩
 ·have nd:(qfV sl).Nodup:=by rw[hp];simp
  have hu:[u].length=(qfV sl).length:=by rw[hp];rfl
  have hbs:=qb0 (fd:=W.fnOf "law" "law" (qap sl) (qaA sl) (qad sl) .none kV doc pm an cdv ct) (us:=[u]) B.po B.va B.ko B.kw rfl nd hu;rw[hbs];show pure ((qfV sl).zip [u])=_;rw[hp];rfl
 ·rw[em];have kf:=qvU (P:=l.prog) (w:=w) X G (S w) hok eB KI iZ (λy hy=>by
   have e1:some ((W.tabIn (K w.params) y).getD (0,0))=W.tabIn (K w.params) y:=by obtain⟨j,hj,ej⟩:=List.mem_iff_getElem.mp hy;have:=congrArg (λl=>l[j]?) t1;unfold qgr at this;simp only[List.getElem?_map,List.getElem?_eq_getElem hj,ej,Option.map_some] at this;exact(Option.some.inj this).symm
   exact⟨((W.tabIn (K w.params) y).getD (0,0)).1,e1.symm,hC _ (List.mem_map.mpr ⟨y,hy,rfl⟩)⟩) nd (td w mg h base X G KI)
  obtain⟨f',fd',F',m',lk'⟩:=kf.fn "law" i sl hi (by decide+kernel) hs;have ef:f'=fa:=by rw[m] at m';cases m';rfl
  subst ef;have F:=qfi lk aK kp;obtain⟨oc2,od2,jD,gC,jv,kB,gD,kn,ir,rfl,iz,_⟩:=F'.ex;have e2:=lk.symm.trans iz;have e3:W.fnOf "law" "law" (qap sl) (qaA sl) (qad sl) .none kV doc pm an cdv ct=W.fnOf "law" "law" (qap sl) (qaA sl) (qad sl) .none jD gC jv kB gD kn:=by
   injection e2 with e2
   injection e2 with _ _ e2
   injection e2
  rw[e3];have:=qtb (i:=i) lk' (qnO kf kk) F' hb hs;rw[hp] at this;exact this
open PL
theorem quJ{z:Str}(nz:(z==("__debug__" :Str))=false/\(z==("__classdict__" :Str))=false)(M:Md)(hM:M.K=K)(be:qq9 K mg)(KI:K.In base)(T:qlc z st)(D:Df K mg "_law_told" st)(D2:Df K mg "_law_class" st2)(hb: ∀(kV doc pm:Value)(an:Option Addr)(cdv ct:Value)(us:List Value),us.length=1->bindArgs (W.fnOf "_law_told" "_law_told" (qap st) (qaA st) (qad st) .none kV doc pm an cdv ct) ⟨us,[]⟩=pure (([z]:List Str).zip us))(eQ: ∀(kV doc pm:Value)(an:Option Addr)(cdv ct:Value)(us:List Value),us.length=1->bindArgs (W.fnOf "_law_class" "_law_class" (qap st2) (qaA st2) (qad st2) .none kV doc pm an cdv ct) ⟨us,[]⟩=pure ((["_law_kept"]:List Str).zip us))(ok: ∀{f:Addr}{fd:FuncData},Fun K "_law_class" "_law_class" st2 f fd->FnN P w K mg base 1 f fd ["_law_kept"] (qh3 base (qoh K)))(hw: ∀c x,wd c=some x->quG c=some x):
  ∃z st fT fC CA fdT fdC bmA wa,Td z M P w mg base wd st fT fC CA fdT fdC bmA wa:=by obtain⟨f,oc,od,osl,kV,doc,pm,an,cdv,ct,lk,aK,kp,m, -⟩:=D;have F:=qfi lk aK kp;obtain⟨f2,oc2,od2,ir,jD,gC,jv,kB,gD,kn,iz,iX,dI,m2, -⟩:=D2;have F2:=qfi iz iX dI;subst hM;refine⟨z,st,_,_,_,_,_,_,qoh M.K,T,F,nz,m,F.binds hb,be.a,qci KI be.ea,ok F2,m2,dI,F2.binds eQ,λc x h=> ?_⟩;obtain⟨j,hj,rfl,rfl⟩:=qlr (hw c x h);exact⟨_,qci KI (be.e j hj),by simp,qog be hj⟩
theorem walkT{z:Str}{l:W.OpenLaw}{q:Program}{loose:List Str}{XP:(Str->Option Value)->Heap->Prop}{YP:World->Heap->Prop}{d:DefRec}{K:Params->W.Frag}{g:Gx}{kk i i1 i2:Nat}{sl st st2:Stmt}(hn:l.most=some 63)(eN:d.params.defaults=[])(hd:d.name= "law")(hY: ∀(w:World)(h:Heap),YP w h->(K w.params).In h)(bu: ∀y∈g.lm,∃dx,(PyProof.Rows.recsOf q).find? (λe=>e.name==y)=some dx)(hR:qbb (8*(kk+1)) callerA)(S: ∀w:World,qwR (K w.params) g w)(hok:(g.fs.all λp=>qfo p.2)=true)(eB:g.lm.all qf1=true)(hi:g.fi "law" =some i)(hs:g.fs[i]? =some (("law" :Str),sl))(hp:qfV sl=[("_law_script" :Str)])(nz:(z==("__debug__" :Str))=false/\(z==("__classdict__" :Str))=false)(zb: ∀w:World,exB (K w.params)=true)(v: ∀w:World,okN (K w.params) "ValueError" =true)(h1:g.tb[i1]? =some (("_law_told" :Str),st))(h2:g.tb[i2]? =some (("_law_class" :Str),st2))(T:qlc z st)(hb: ∀(kV doc pm:Value)(an:Option Addr)(cdv ct:Value)(us:List Value),us.length=1->bindArgs (W.fnOf "_law_told" "_law_told" (qap st) (qaA st) (qad st) .none kV doc pm an cdv ct) ⟨us,[]⟩=pure (([z]:List Str).zip us))(eQ: ∀(kV doc pm:Value)(an:Option Addr)(cdv ct:Value)(us:List Value),us.length=1->bindArgs (W.fnOf "_law_class" "_law_class" (qap st2) (qaA st2) (qad st2) .none kV doc pm an cdv ct) ⟨us,[]⟩=pure ((["_law_kept"]:List Str).zip us))(ok: ∀{P:Program}{w:World}{K:W.Frag}{mg:Str->Option Value}{base:Heap}{f:Addr}{fd:FuncData},Fun K "_law_class" "_law_class" st2 f fd->qq9 K mg->mg "isinstance" =none->mg "ValueError" =none->FnN P w K mg base 1 f fd ["_law_kept"] (qh3 base (qoh K)))(hw:(g.wd.all λp=>quG p.1==some p.2)=true)(hT: ∀ns:List Int,ns.length<=63->∃m,TTf g (kk+1) i [.scr ns] ⟨[],[]⟩= .ok (.bl true) m):
  W.WalkO q loose XP YP l.row.toRowW d [] (λf vs=>PySem.call f vs):=
 quD hn eN hd hY bu hR S hok eB hi hs hp (λw mg h base X G KI _=>by
  have D:=qkE X G (S w).h1 (S w).h2;have be:=qp0 X G (zb w);exact quJ nz _ rfl be KI T (D i1 _ _ h1) (D i2 _ _ h2) hb eQ (λF=>ok F be (qpj X G (S w).h4 _ (by decide)) (qpj (l:=["ValueError"]) X G (by simp[v w]) _ (by simp))) λc x h=>eq_of_beq (List.all_eq_true.mp hw _ (Vu h))) hT
end NV
namespace K88
open PySem
abbrev s_20:Stmt:=top 60
abbrev s_26:Stmt:=top 61
open L2 PL HD
section
variable{P:Program}{w:World}{K:W.Frag}{mg:Str->Option Value}{base:Heap}
theorem qqE:bootBuiltins "ValueError" =some (.type "ValueError"):=by decide+kernel
theorem qli{D:Addr}: ∀u,RelV (.ref D) u->u=Value.ref D:=λu r=>r
theorem qx3{n:String}: ∀u,RelV (.ty n) u->u=Value.type n:=λu r=>r
theorem qgR:qbz ["_law_kept", "_law_kinds", "_law_some"] ["_law_kept"] (qad s_20):=by trivial
theorem told_tx:qlc "_law_deed_here" s_26:=⟨⟨rfl,rfl,rfl,by decide+kernel,rfl,by decide+kernel,by decide+kernel⟩,⟨_,_,_,_,_,_,_,_,_,_,rfl⟩,rfl,rfl,rfl,rfl⟩
abbrev wV:List V:=[V.str "ended",V.str "full",V.str "no ask",V.str "no back",V.str "no name",V.str "no number",V.str "no row",V.str "no text",V.str "too late",V.str "unlike"]
theorem qrZ: ∀j<10,([0==j,1==j,2==j,3==j,4==j,5==j,6==j,7==j,8==j,9==j]:List Bool)[j]? =some true/\(∀i,i<j->([0==j,1==j,2==j,3==j,4==j,5==j,6==j,7==j,8==j,9==j]:List Bool)[i]? =some (!true))/\([0==j,1==j,2==j,3==j,4==j,5==j,6==j,7==j,8==j,9==j]:List Bool).countP (· ==true)=1/\wV[j]? =some (.str (qqR.getD j "")):=by
 intro j hj;have:j=0\/j=1\/j=2\/j=3\/j=4\/j=5\/j=6\/j=7\/j=8\/j=9:=by omega
 rcases this with rfl|rfl|rfl|rfl|rfl|rfl|rfl|rfl|rfl|rfl<;>refine⟨rfl,?_,rfl,rfl⟩<;>decide
theorem qrQ{X:Cx}{b c t}(h:b=c)(k:PSs X c t):PSs X b t:=h▸k
theorem pas{X:Cx}{z j p es t}(h:PA X es t):PA X (.Constant (.str z) j p::es) (qeG (tC (.str z)) t):=qaW qha h
abbrev isR(X:Cx):List V->Hp->VK->Prop:=λxs H Q=> ∃a C bm y c b,xs=[.ref a,y]/\H a=some (ExO a C)/\qdm X.base C bm/\(W.clsIn X.K C).isSome=true/\(∀u,RelV y u->u=c)/\W.kitOne X.K (.ref C) c=some b/\Q (.bl b) H
theorem isx{X:Cx}{x y:Str}{v:V}{p q r s:Pos}(i:X.mg "isinstance" =none)(g:Gl X "isinstance")(hN:X.N[0]? =some y)(hv:Vis X.env.scope y)(h1:(y==("__debug__" :Str))=false)(h2:(y==("__classdict__" :Str))=false)(he:PE X (.Name x r) (tC v)):PE X (.Call (.Name "isinstance" p) [.Name y q,.Name x r] [] s) (tCB (isR X) (qeG (qqT 0) (qeG (tC v) qqU))):=qaS qfE g i PyProof.Rows.boot_isinstance (qaW (pv 0 hN hv h1 h2) (qaW he qbp))
theorem isc{X:Cx}{x y:Str}{A:Addr}{p q r s:Pos} {es t} (h:X.mg "isinstance" =none/\Gl X "isinstance" /\X.N[0]? =some y/\Vis X.env.scope y/\(y==("__debug__" :Str))=false/\(y==("__classdict__" :Str))=false/\Gl X x/\X.mg x=some (.ref A)/\(x==("__debug__" :Str))=false) (hr:PA X es t):PA X (.Call (.Name "isinstance" p) [.Name y q,.Name x r] [] s::es) (qeG (tCB (isR X) (qeG (qqT 0) (qeG (tC (.ref A)) qqU))) t):=
 have ⟨i,g,hN,hv,h1,h2,h3,hm,hd⟩:=h
 qaW (isx i g hN hv h1 h2 (qcg h3 hm rfl hd)) hr
theorem ok_class{f:Addr}{fd:FuncData}(F:Fun K "_law_class" "_law_class" s_20 f fd)(be:qq9 K mg)(i1:mg "isinstance" =none)(v1:mg "ValueError" =none):FnN P w K mg base 1 f fd ["_law_kept"] (qh3 base (qoh K)):=by
 refine qtc F qgR (λvs H Q h=> ?_) (λcdv A outer s H vs Q hr h=> ?_)
 ·obtain⟨a,C,bm,x,rfl,_⟩:=h;rfl
 ·obtain⟨a,C,bm,x,rfl,ha,hX,hw,q⟩:=h;obtain⟨j,hj,rfl,rfl⟩:=qgJ hw;have nd:=qgR.nd;have hc:=be.c j hj;have k:=be.k j hj;have m0:mg "Ended" =some (.ref (clOf K "Ended")):=be.m 0 (by decide);have m1:mg "Full" =some (.ref (clOf K "Full")):=be.m 1 (by decide);have m2:mg "NoAsk" =some (.ref (clOf K "NoAsk")):=be.m 2 (by decide);have m3:mg "NoBack" =some (.ref (clOf K "NoBack")):=be.m 3 (by decide);have m4:mg "NoName" =some (.ref (clOf K "NoName")):=be.m 4 (by decide);have m5:mg "NoNumber" =some (.ref (clOf K "NoNumber")):=be.m 5 (by decide);have m6:mg "NoRow" =some (.ref (clOf K "NoRow")):=be.m 6 (by decide);have m7:mg "NoText" =some (.ref (clOf K "NoText")):=be.m 7 (by decide);have m8:mg "TooLate" =some (.ref (clOf K "TooLate")):=be.m 8 (by decide);have m9:mg "Unlike" =some (.ref (clOf K "Unlike")):=be.m 9 (by decide);refine⟨_,@qrQ _ _ _ _ (rfl:_=_::_::_::_::_::_::[]) (@qbE _ _ _ _ _ (@qeU _ _ 1 _ _ _ _ nd (by exact rfl) (by exact .inl rfl) (@qeX _ _ _ _ (isc (by exact⟨i1,rfl,rfl,Or.inl rfl,rfl,rfl,rfl,m0,rfl⟩) (isc (by exact⟨i1,rfl,rfl,Or.inl rfl,rfl,rfl,rfl,m1,rfl⟩) (isc (by exact⟨i1,rfl,rfl,Or.inl rfl,rfl,rfl,rfl,m2,rfl⟩) (isc (by exact⟨i1,rfl,rfl,Or.inl rfl,rfl,rfl,rfl,m3,rfl⟩) qbp))))) (by exact rfl) (by exact .inl rfl)) (@qbE _ _ _ _ _ (@qeU _ _ 1 _ _ _ _ nd (by exact rfl) (by exact .inl rfl) (@qoX _ _ _ _ _ _ _ _ qjt (@pv _ 1 _ _ (by exact rfl) (by exact .inl rfl) (by exact rfl) (by exact rfl)) (@qeX _ _ _ _ (isc (by exact⟨i1,rfl,rfl,Or.inl rfl,rfl,rfl,rfl,m4,rfl⟩) (isc (by exact⟨i1,rfl,rfl,Or.inl rfl,rfl,rfl,rfl,m5,rfl⟩) (isc (by exact⟨i1,rfl,rfl,Or.inl rfl,rfl,rfl,rfl,m6,rfl⟩) qbp))))) (by exact rfl) (by exact .inl rfl)) (@qbE _ _ _ _ _ (@qeU _ _ 1 _ _ _ _ nd (by exact rfl) (by exact .inl rfl) (@qoX _ _ _ _ _ _ _ _ qjt (@pv _ 1 _ _ (by exact rfl) (by exact .inl rfl) (by exact rfl) (by exact rfl)) (@qeX _ _ _ _ (isc (by exact⟨i1,rfl,rfl,Or.inl rfl,rfl,rfl,rfl,m7,rfl⟩) (isc (by exact⟨i1,rfl,rfl,Or.inl rfl,rfl,rfl,rfl,m8,rfl⟩) (isc (by exact⟨i1,rfl,rfl,Or.inl rfl,rfl,rfl,rfl,m9,rfl⟩) qbp))))) (by exact rfl) (by exact .inl rfl)) (@qbE _ _ _ _ _ (@qrT _ _ _ _ _ _ _ _ (@PW.pt _ _ _ (@qrN _ _ _ _ _ _ _ (@qd6 _ _ _ _ _ _ _ _ qvA (@qo2 _ _ _ _ _ _ _ _ _ _ _ _ PySem.F.plainAttrs_list PySem.F.slot_list_count PySem.F.type_list_count qjC (@pv _ 1 _ _ (by exact rfl) (by exact .inl rfl) (by exact rfl) (by exact rfl)) (@qaW _ _ _ _ _ qo3 qbp (by exact rfl)) (by exact rfl) (by exact rfl) (by exact rfl) (by exact rfl) (by exact rfl)) qnD (qsz _)) (@qnz _ _ _ _ (@qnC _ _ _ _ (@qnB _ _ _ (isx (v:=.ty "ValueError") (by exact i1) (by exact rfl) (by exact rfl) (by exact .inl rfl) (by exact rfl) (by exact rfl) (@qjk _ _ _ _ _ (by exact rfl) (by exact v1) qqE (by exact rfl) (by decide) (by exact rfl))) (by intro _;rfl)))))) (@qcU _ _ _ (@qeV _ _ _ _ qha)) qje) (@qbE _ _ _ _ _ (@qeU _ _ 2 _ _ _ _ nd (by exact rfl) (by exact .inl rfl) (@qeX _ _ _ _ (pas (pas (pas (pas (pas (pas (pas (pas (pas (pas qbp))))))))))) (by exact rfl) (by exact .inl rfl)) (@qcU _ _ _ (@qeV _ _ _ _ (@qr5 _ _ _ _ _ _ _ qjY (@pv _ 2 _ _ (by exact rfl) (by exact .inl rfl) (by exact rfl) (by exact rfl)) (@qo2 _ _ _ _ _ _ _ _ _ _ _ _ PySem.F.plainAttrs_list PySem.F.slot_list_index PySem.F.type_list_index qjB (@pv _ 1 _ _ (by exact rfl) (by exact .inl rfl) (by exact rfl) (by exact rfl)) (@qaW _ _ _ _ _ qo3 qbp (by exact rfl)) (by exact rfl) (by exact rfl) (by exact rfl) (by exact rfl) (by exact rfl)) (λ_ _=>rfl))))))))),?_⟩;have new: ∀{H:Hp}{l:Addr}{o:HO},H l=none->∀b u,H b=some u->upd H l o b=some u:=λh b u e=>by rw[qac (qaj e h)];exact e
  refine⟨_,rfl,a,_,bm,_,_,_,rfl,ha ,hX,hc,qli,k 0 (by decide),_,rfl,a,_,bm,_,_,_,rfl,ha ,hX,hc,qli,k 1 (by decide),_,rfl,a,_,bm,_,_,_,rfl,ha ,hX,hc,qli,k 2 (by decide),_,rfl,a,_,bm,_,_,_,rfl,ha ,hX,hc,qli,k 3 (by decide),by show 4<=sizeLine;decide,λl hl=> ?_⟩;have s1: ∀b u,H b=some u->upd H l (.lst [V.bl (0==j),V.bl (1==j),V.bl (2==j),V.bl (3==j)]) b=some u:=new hl;generalize hH1:upd H l (.lst [V.bl (0==j),V.bl (1==j),V.bl (2==j),V.bl (3==j)])=H1 at s1⊢;have l1:H1 l=some (.lst [V.bl (0==j),V.bl (1==j),V.bl (2==j),V.bl (3==j)]):=by rw[<-hH1];exact qae
  have ia:=s1 _ _ ha;refine⟨_,rfl,_,rfl,a,_,bm,_,_,_,rfl,ia ,hX,hc,qli,k 4 (by decide),_,rfl,a,_,bm,_,_,_,rfl,ia ,hX,hc,qli,k 5 (by decide),_,rfl,a,_,bm,_,_,_,rfl,ia ,hX,hc,qli,k 6 (by decide),by show 3<=sizeLine;decide,λm hm=> ?_⟩;have s2: ∀b u,H1 b=some u->upd H1 m (.lst [V.bl (4==j),V.bl (5==j),V.bl (6==j)]) b=some u:=new hm;generalize jY:upd H1 m (.lst [V.bl (4==j),V.bl (5==j),V.bl (6==j)])=H2 at s2⊢;have m2:H2 m=some (.lst [V.bl (4==j),V.bl (5==j),V.bl (6==j)]):=by rw[<-jY];exact qae
  refine⟨l,m,_,_,rfl,rfl,s2 _ _ l1,m2,by show 7<=sizeLine;decide,λl' bZ=> ?_⟩;have s3: ∀b u,H2 b=some u->upd H2 l' (.lst ([V.bl (0==j),V.bl (1==j),V.bl (2==j),V.bl (3==j)]++[V.bl (4==j),V.bl (5==j),V.bl (6==j)])) b=some u:=new bZ;generalize gz:upd H2 l' (.lst ([V.bl (0==j),V.bl (1==j),V.bl (2==j),V.bl (3==j)]++[V.bl (4==j),V.bl (5==j),V.bl (6==j)]))=H3 at s3⊢;have l3:H3 l'=some (.lst ([V.bl (0==j),V.bl (1==j),V.bl (2==j),V.bl (3==j)]++[V.bl (4==j),V.bl (5==j),V.bl (6==j)])):=by rw[<-gz];exact qae
  have hV:=s3 _ _ (s2 _ _ ia);refine⟨_,rfl,_,rfl,a,_,bm,_,_,_,rfl,hV ,hX,hc,qli,k 7 (by decide),_,rfl,a,_,bm,_,_,_,rfl,hV ,hX,hc,qli,k 8 (by decide),_,rfl,a,_,bm,_,_,_,rfl,hV ,hX,hc,qli,k 9 (by decide),by show 3<=sizeLine;decide,λn hn=> ?_⟩;have s4: ∀b u,H3 b=some u->upd H3 n (.lst [V.bl (7==j),V.bl (8==j),V.bl (9==j)]) b=some u:=new hn;generalize hH4:upd H3 n (.lst [V.bl (7==j),V.bl (8==j),V.bl (9==j)])=H4 at s4⊢;have n4:H4 n=some (.lst [V.bl (7==j),V.bl (8==j),V.bl (9==j)]):=by rw[<-hH4];exact qae
  refine⟨l',n,_,_,rfl,rfl,s4 _ _ l3,n4,by show 10<=sizeLine;decide,λp hp=> ?_⟩;have s5: ∀b u,H4 b=some u->upd H4 p (.lst ([V.bl (0==j),V.bl (1==j),V.bl (2==j),V.bl (3==j)]++[V.bl (4==j),V.bl (5==j),V.bl (6==j)]++[V.bl (7==j),V.bl (8==j),V.bl (9==j)])) b=some u:=new hp;generalize hH5:upd H4 p (.lst ([V.bl (0==j),V.bl (1==j),V.bl (2==j),V.bl (3==j)]++[V.bl (4==j),V.bl (5==j),V.bl (6==j)]++[V.bl (7==j),V.bl (8==j),V.bl (9==j)]))=H5 at s5⊢;have p5:H5 p=some (.lst (([0==j,1==j,2==j,3==j,4==j,5==j,6==j,7==j,8==j,9==j]:List Bool).map V.bl)):=by rw[<-hH5];exact qae
  have aH5:=s5 _ _ (s4 _ _ hV);obtain⟨c1,c2,c4,c3⟩:=qrZ j hj;refine⟨_,rfl,.inl ⟨rfl,_,SqL.of p5⟩,p,_,true,rfl,rfl,p5,rfl,_,rfl,?_⟩;rw[c4];refine qvY ?_;refine⟨_,rfl,a,_,bm,_,_,_,rfl,aH5,hX,hc,qx3,be.v j hj,_,rfl,?_⟩;refine qvY ?_;refine⟨by show 10<=sizeLine;decide,λr hr=> ?_⟩;have s6: ∀b u,H5 b=some u->upd H5 r (.lst wV) b=some u:=new hr;refine⟨_,rfl,_,rfl,.inl ⟨rfl,_,SqL.of (s6 _ _ p5)⟩,p,_,true,j,rfl,rfl,s6 _ _ p5,by show 10<=1000;decide,c1,c2,r,_,_,_,rfl,rfl,SqL.of qae,qqK c3,?_⟩;exact q _ λb u e=>s6 _ _ (s5 _ _ (s4 _ _ (s3 _ _ (s2 _ _ (s1 _ _ e)))))
end
end K88
section
open PySem PySem.W PyProof.Rows
set_option maxRecDepth 100000 in
set_option maxHeartbeats 0 in
theorem K88.said:PySem.Challenge.rw_rowasks_k88_whole_desk_twins.wellSaid=true:=by kernel_rfl
set_option maxRecDepth 100000 in
set_option maxHeartbeats 0 in
theorem PySem.Challenge.cw_rowasks_k88_whole_desk_twins_holds : PySem.Challenge.rw_rowasks_k88_whole_desk_twins.Holds := by
 w_on
 refine holds_law K88.said ?_;intro said;refine holds_open (q:=K88.vq) (loose:=K88.lo) (Xt:=K88.xt) (XP:=XL K88.vq []) (Yf:=Hook.obs K88.hk) (Ya:=Hook.val K88.hk) (YP:=Hook.says K88.hk) (N:=20000) (FR.left_fp "special-get-raises" K88.rXF K88.rYF K88.rXT K88.rYT) (Hook.of K88.hk) (Hook.keeps K88.hk) (λs e=>xl_of s (Bool.and_eq_true_iff.mp e).1) XL.keeps (by rfl) (by rfl) (by rfl) (λs e=>recFacts_of (Bool.and_eq_true_iff.mp e).2) (by rfl) (by first|assumption|decide+kernel) (by decide+kernel) ⟨rfl,rfl,rfl,rfl,rfl,by decide+kernel⟩ ?hw ?hc
 (case hw=>w_witness2)
 k_fill
 refine' NV.walkT (l:=PySem.Challenge.rw_rowasks_k88_whole_desk_twins) (g:=K88.gx) (kk:=7) (i:=51) (i1:=32) (i2:=31) (st:=K88.s_26) (st2:=K88.s_20) rfl rfl rfl (λw h Y=>Y.1) ?_ ⟨rfl,by decide,by decide⟩ (λw=>⟨by kernel_rfl,by kernel_rfl,by kernel_rfl,by kernel_rfl,by kernel_rfl,by kernel_rfl,by kernel_rfl,by kernel_rfl,by kernel_rfl,by kernel_rfl,by kernel_rfl⟩) (by kernel_rfl) (by kernel_rfl) (by kernel_rfl) rfl rfl ⟨by decide,by decide⟩ (λw=>by kernel_rfl) (λw=>by kernel_rfl) (by kernel_rfl) (by kernel_rfl) K88.told_tx (λ_ _ _ _ _ _ us hl=>by obtain⟨a,e⟩:=PL.len1 hl;subst e;rfl) (λ_ _ _ _ _ _ us hl=>by obtain⟨a,e⟩:=PL.len1 hl;subst e;rfl) (λF be i v=>K88.ok_class F be i v) (by kernel_rfl) (λns hl=>K88.law_true ns);intro y hy;have hy:y∈K88.gx.lm:=hy;simp only[K88.gx,List.mem_append,List.mem_cons,List.not_mem_nil,or_false,false_or] at hy
 rcases hy with rfl|rfl<;>exact⟨_,rfl⟩
end
