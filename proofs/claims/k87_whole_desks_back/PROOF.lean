import PyProof.Rows.All
import Wide.All
import OpenK.AllK
import Wide.FinOn
import Lean
import PyProof.EqAt
import PyProof.EqKinds
import PyProof.TupleCall
import KE.KSortTup
import KE.KSortKey
import PyProof.ExcBaseAll.ValueError
import PyProof.ExcAttrAll.ValueError
import KE.KTryOn
import OpenK.KOwn
import PyProof.NeData
import PyProof.SetKind
import PyProof.Rows.SetFrom
import PyProof.CollectWalk
import KE.KDictOf
import KE.KDictList
import KE.KNest
import PyProof.FString5
import KE.KDictSum
import PyProof.WalksEnum
import PyProof.EnumMake
import PyProof.Draws
import PyProof.WalksMore
import KE.KEqDict
import PyProof.AutoSeq1
import PyProof.ListMulRoad
import PyProof.FactsAll.tuple_2
import KE.KDictLaws
import PyProof.Conv_int_bool
import PySem.Challenge.RW_rowasks_k87_whole_desks_back
set_option Elab.async false
set_option linter.all false
set_option genSizeOf false
set_option compiler.extract_closed false
noncomputable section
set_option maxRecDepth 100000
set_option maxHeartbeats 8000000
local macro_rules|`(tactic| trivial)=> `(tactic| first|exact Or.inl rfl|exact Or.inr rfl|exact⟨rfl,rfl,rfl,by decide+kernel,rfl,by decide+kernel,by decide+kernel⟩|(intro p hp;simp only[List.mem_cons,List.not_mem_nil,or_false] at hp;subst hp;exact⟨rfl,rfl⟩))
section
open PySem PySem.Spec PyProof.Rows
abbrev Va:=@wpAny_bind
abbrev Vb:=@wpAny_pure
abbrev Vc:=@wpAny_mono
abbrev Vd:=@wpAny_truthy_bool
abbrev Ve:=@wpAny_loadPart_at
abbrev Vf:=@wpAny_Call_Name_kw
abbrev Vg:=@Heap.get?_push_of_some
abbrev Vh:=@Heap.get?_push_size
abbrev Vi:=@Heap.lt_size
abbrev Vj:=@List.mem_cons_self
abbrev Vk:=@List.mem_cons_of_mem
abbrev Vl:=@Nat.le_refl
abbrev Vm:=@Nat.lt_of_lt_of_le
abbrev Vn:=@Nat.ne_of_lt
abbrev Vo:=@Nat.le_of_lt
abbrev Vp:=@Nat.le_trans
abbrev Vq:=@Bool.false_ne_true
abbrev Vr:=@List.mem_append_left
abbrev Vs:=@List.mem_append_right
abbrev Vt:=@List.mem_of_getElem?
abbrev Vu:=@PySem.mem_of_lookup
abbrev Vv:=@decide_eq_false
abbrev Vw:=@List.getElem?_eq_getElem
abbrev Vx:=@Nat.lt_succ_self
end
namespace HD
open PySem PySem.W
noncomputable def qxG:Stmt->Bool
 |.Assign (targets:=[.Name x _]) .. =>x== "__name__"
 |_=>false
noncomputable def vw(p:Program):Program:={ p with main:={ p.main with body:=p.main.body.filter λs=> !qxG s } }
theorem qlS{p q:Program}{loose:List Str}{Xt:Shared->Bool}{α:Type}{Yf:Shared->α}{Ya:World->α}{N:Nat}(row:String)(hf: ∀w:World,((fencedOpening treeTable p w N).bind (topFrom treeTable p (w.withFollow row false) N)).map (λs=>(openSeen q loose (importedModules p.main.body) Xt true s,Yf s))=some (openGood q loose,Ya (w.withFollow row false)))(ht: ∀w:World,((fencedOpening treeTable p w N).bind (topFrom treeTable p (w.withFollow row true) N)).map (λs=>(openSeen q loose (importedModules p.main.body) Xt true s,Yf s))=some (openGood q loose,Ya (w.withFollow row true))):
  LeftO p q loose Xt Yf Ya N:=λw=>by
 have e:=World.withFollow_self w row;cases hb:w.params.followText row<;>rw[hb] at e
 ·have:=hf w;rw[e] at this;exact this
 ·have:=ht w;rw[e] at this;exact this
noncomputable def qqz(p:Program)(row:String)(N:Nat)(b:Bool)(w:World):Option Shared:=(fencedOpening treeTable p w N).bind (topFrom treeTable p (w.withFollow row b) N)
noncomputable def qlR(p q:Program)(loose:List Str)(Xt:Shared->Bool)(s:Shared):=openSeen q loose (importedModules p.main.body) Xt true s
noncomputable def qm6(p q:Program)(loose:List Str)(Xt:Shared->Bool)(row:String)(N:Nat)(b:Bool):Prop:= ∀w:World,(qqz p row N b w).map (λs=>(qlR p q loose Xt s).2)=some (openGood q loose).2
noncomputable def qm5(p q:Program)(loose:List Str)(Xt:Shared->Bool)(H:Hook)(row:String)(N:Nat)(b:Bool):Prop:= ∀w:World,(qqz p row N b w).map (λs=>((qlR p q loose Xt s).1,H.obs s))=some ((openGood q loose).1,H.val (w.withFollow row b))
theorem parts{p q:Program}{loose:List Str}{Xt:Shared->Bool}{H:Hook}{row:String}{N:Nat}{b:Bool}(hx:qm6 p q loose Xt row N b)(hy:qm5 p q loose Xt H row N b):
  ∀w:World,((fencedOpening treeTable p w N).bind (topFrom treeTable p (w.withFollow row b) N)).map (λs=>(openSeen q loose (importedModules p.main.body) Xt true s,Hook.obs H s))=some (openGood q loose,Hook.val H (w.withFollow row b)):=λw=>by
 have hx:=hx w;have hy:=hy w;have e:((fencedOpening _ p w N).bind _)=qqz p row N b w:=rfl;rw[e];cases r:qqz p row N b w with
 |none=>rw[r] at hx;cases hx
 |some s=>rw[r] at hx hy;have y:=Prod.mk.inj (Option.some.inj hy);exact congrArg some (Prod.ext (Prod.ext y.1 (Option.some.inj hx)) y.2)
theorem qia{p q:Program}{loose:List Str}{Xt:Shared->Bool}{H:Hook}{N:Nat}(row:String)(x0:qm6 p q loose Xt row N false)(y0:qm5 p q loose Xt H row N false)(x1:qm6 p q loose Xt row N true)(y1:qm5 p q loose Xt H row N true):
  LeftO p q loose Xt (Hook.obs H) (Hook.val H) N:=qlS row (parts x0 y0) (parts x1 y1)
end HD
namespace FR
open PySem PySem.W
inductive Tr where
 |e
 |n (l:Tr) (o:Obj) (r:Tr)
noncomputable def Tr.get:Tr->Nat->Option Obj
 |.e,_=>none
 |.n l o r,a=>match Nat.beq a 0 with
  |true=>some o
  |false=>match Nat.beq (a % 2) 1 with
   |true=>l.get (a / 2)
   |false=>r.get (a / 2 - 1)
noncomputable def Tr.mod:Tr->Nat->(Obj->Obj)->Tr
 |.e,_,_=>.e
 |.n l o r,a,f=>match Nat.beq a 0 with
  |true=>.n l (f o) r
  |false=>match Nat.beq (a % 2) 1 with
   |true=>.n (l.mod (a / 2) f) o r
   |false=>.n l o (r.mod (a / 2 - 1) f)
noncomputable def Tr.put:Tr->Nat->Obj->Tr
 |.e,_,o=>.n .e o .e
 |.n l v r,a,o=>match Nat.beq (a % 2) 1 with
  |true=>.n (l.put (a / 2) o) v r
  |false=>.n l v (r.put (a / 2 - 1) o)
theorem bf(h:a≠b):Nat.beq a b=false:=by
 cases q:Nat.beq a b with
 |false=>rfl
 |true=>simp_all
theorem qbT:(Tr.n l o r).get a=if a=0 then some o else if a % 2=1 then l.get (a / 2) else r.get (a / 2 - 1):=by
 show(match Nat.beq a 0 with|true=>some o|false=>match Nat.beq _ 1 with|true=>l.get _|false=>r.get _)=_;by_cases h:a=0
 ·subst h;rfl
 ·rw[if_neg h,bf h];by_cases h2:a % 2=1
  ·rw[if_pos h2,h2]
  simp_all
theorem qvk:(Tr.n l o r).mod a f=if a=0 then .n l (f o) r else if a % 2=1 then .n (l.mod (a / 2) f) o r else .n l o (r.mod (a / 2 - 1) f):=by
 show(match Nat.beq a 0 with|true=>_|false=>match Nat.beq _ 1 with|true=>_|false=>_)=_;by_cases h:a=0
 ·subst h;rfl
 ·rw[if_neg h,bf h];by_cases h2:a % 2=1
  ·rw[if_pos h2,h2]
  simp_all
theorem quU:(Tr.n l v r).put a o=if a % 2=1 then .n (l.put (a / 2) o) v r else .n l v (r.put (a / 2 - 1) o):=by
 show(match Nat.beq _ 1 with|true=>_|false=>_)=_;by_cases h2:a % 2=1
 ·rw[if_pos h2,h2]
 simp_all
theorem qf7: ∀(t:Tr)(a i:Nat),(t.mod a f).get i=if i=a then(t.get i).map f else t.get i
 |.e,a,i=>by
  show none=_
  split<;>rfl
 |.n l o r,a,i=>by
  rw[qvk];by_cases h:a=0
  ·subst h;rw[if_pos rfl,qbT,qbT];by_cases h1:i=0
   ·rw[if_pos h1,if_pos h1,if_pos h1];rfl
   ·rw[if_neg h1,if_neg h1,if_neg h1]
  ·rw[if_neg h];by_cases h2:a % 2=1
   ·rw[if_pos h2,qbT,qbT];by_cases h1:i=0
    ·rw[if_pos h1,if_pos h1,if_neg (by omega)]
    ·rw[if_neg h1,if_neg h1];by_cases h3:i % 2=1
     ·rw[if_pos h3,if_pos h3,qf7 l (a / 2) (i / 2)];by_cases h4:i=a
      ·rw[if_pos h4,if_pos (by omega)]
      ·rw[if_neg h4,if_neg (by omega)]
     ·rw[if_neg h3,if_neg h3,if_neg (by omega)]
   ·rw[if_neg h2,qbT,qbT];by_cases h1:i=0
    ·rw[if_pos h1,if_pos h1,if_neg (by omega)]
    ·rw[if_neg h1,if_neg h1];by_cases h3:i % 2=1
     ·rw[if_pos h3,if_pos h3,if_neg (by omega)]
     ·rw[if_neg h3,if_neg h3,qf7 r (a / 2 - 1) (i / 2 - 1)];by_cases h4:i=a
      ·rw[if_pos h4,if_pos (by omega)]
      ·rw[if_neg h4,if_neg (by omega)]
theorem qf6: ∀(t:Tr)(a i:Nat),(∀k<a,(t.get k).isSome=true)->t.get a=none->(t.put a o).get i=if i=a then some o else t.get i
 |.e,a,i,hf,_=>by
  have h0:a=0:=by
   cases a with
   |zero=>rfl
   |succ a=>exact absurd (hf 0 (Nat.succ_pos _)) (by simp[Tr.get])
  subst h0;show(Tr.n .e o .e).get i=_;rw[qbT];by_cases h:i=0
  ·rw[if_pos h,if_pos h]
  ·rw[if_neg h,if_neg h]
   split<;>rfl
 |.n l v r,a,i,hf,hn=>by
  have ha:a≠0:=λz=>by subst z;rw[qbT,if_pos rfl] at hn;cases hn
  have g:=λk hk=>hf k hk;rw[qbT,if_neg ha] at hn;rw[quU];by_cases h2:a % 2=1
  ·rw[if_pos h2] at hn;rw[if_pos h2,qbT,qbT];by_cases h1:i=0
   ·rw[if_pos h1,if_pos h1,if_neg (by omega)]
   ·rw[if_neg h1,if_neg h1];by_cases h3:i % 2=1
    ·rw[if_pos h3,if_pos h3,qf6 l (a / 2) (i / 2) (λk hk=>by
      have:=hf (2*k+1) (by omega);rw[qbT,if_neg (by omega),if_pos (by omega),show(2*k+1) / 2=k by omega] at this;exact this) hn]
     by_cases h4:i=a
     ·rw[if_pos h4,if_pos (by omega)]
     ·rw[if_neg h4,if_neg (by omega)]
    ·rw[if_neg h3,if_neg h3,if_neg (by omega)]
  ·rw[if_neg h2] at hn;rw[if_neg h2,qbT,qbT];by_cases h1:i=0
   ·rw[if_pos h1,if_pos h1,if_neg (by omega)]
   ·rw[if_neg h1,if_neg h1];by_cases h3:i % 2=1
    ·rw[if_pos h3,if_pos h3,if_neg (by omega)]
    ·rw[if_neg h3,if_neg h3,qf6 r (a / 2 - 1) (i / 2 - 1) (λk hk=>by
      have:=hf (2*k+2) (by omega);rw[qbT,if_neg (by omega),if_neg (by omega),show(2*k+2) / 2 - 1=k by omega] at this;exact this) hn]
     by_cases h4:i=a
     ·rw[if_pos h4,if_pos (by omega)]
     ·rw[if_neg h4,if_neg (by omega)]
noncomputable def Lay(t:Tr)(n:Nat)(xs:Array Obj):Prop:=n=xs.size/\∀i,t.get i=xs[i]?
theorem Lay.mod(h:Lay t n xs)(a:Nat)(f:Obj->Obj):Lay (t.mod a f) n (xs.modify a f):=
 ⟨by rw[Array.size_modify];exact h.1,λi=>by
  rw[qf7,h.2 i,Array.getElem?_modify];by_cases q:i=a
  ·simp_all
  ·rw[if_neg q,if_neg (Ne.symm q)]⟩
theorem Lay.put(h:Lay t n xs)(o:Obj):Lay (t.put n o) (n+1) (xs.push o):=by obtain⟨rfl,h2⟩:=h;refine⟨by rw[Array.size_push],λi=> ?_⟩;rw[qf6 t _ i (λk hk=>by simp_all) (by simp_all),Array.getElem?_push,h2 i]
noncomputable def ofL:List Obj->Nat->Tr->Tr
 |[],_,t=>t
 |o::r,n,t=>ofL r (n+1) (t.put n o)
theorem qjs: ∀(l:List Obj)(n:Nat)(t:Tr)(xs:Array Obj),Lay t n xs->Lay (ofL l n t) (n+l.length) (xs++l.toArray)
 |[],n,t,xs,h=>by exact h
 |o::r,n,t,xs,h=>by have:=qjs r _ _ _ (h.put o);rw[show xs.push o++r.toArray=xs++(o::r).toArray by simp] at this;rw[List.length_cons,show n+(r.length+1)=n+1+r.length by omega];exact this
noncomputable def qqA(t:Tr):Nat->Nat->List Obj
 |0,_=>[]
 |n+1,i=>match t.get i with
  |some o=>o::qqA t n (i+1)
  |none=>[]
theorem qi9{t:Tr}{xs:Array Obj}(h: ∀i,t.get i=xs[i]?): ∀(n i:Nat),i+n=xs.size->qqA t n i=xs.toList.drop i
 |0,i,e=>by rw[List.drop_eq_nil_of_le (by simp;omega)];rfl
 |n+1,i,e=>by
  have hi:i<xs.size:=by omega
  unfold qqA;rw[h i,Array.getElem?_eq_getElem hi];rw[qi9 h n _ (by omega),List.drop_eq_getElem_cons (i:=i) _];rfl
theorem Lay.out{n:Nat}(h:Lay t n xs):(qqA t n 0).toArray=xs:=by obtain⟨rfl,h2⟩:=h;rw[qi9 h2 _ 0 (by omega)];simp
structure FS where
 t:Tr
 n:Nat
 life:Life
 gens:Array GenState
 drawn:Drawn
 toks:Nat
 os:OsState
noncomputable def qm2:Option Obj->Option Obj
 |some ⟨_,_,.freed,_⟩=>none
 |o=>o
noncomputable def qf9(den:Code->Sem Fin)(p:Program)(w:World):FS->Thread->Option (FS×Thread)
 |⟨t,n,life,gens,drawn,toks,os⟩,⟨cur,code,pos,stack⟩=>match cur with
  |.load a _ k=>(match qm2 (t.get a) with
   |some o=>some (⟨t,n,life,gens,drawn,toks,os⟩,⟨k o,code,pos,stack⟩)
   |none=>none)
  |.update a _ f k=>(match qm2 (t.get a) with
   |some _=>some (⟨t.mod a f,n,life,gens,drawn,toks,os⟩,⟨k (),code,pos,stack⟩)
   |none=>none)
  |.alloc o k=>some (⟨t.put n o,n+1,life,gens,drawn,toks,os⟩,⟨k n,code,pos,stack⟩)
  |.loadIfAlive a k=>some (⟨t,n,life,gens,drawn,toks,os⟩,⟨k (qm2 (t.get a)),code,pos,stack⟩)
  |c=>(match step den p w ⟨⟨#[],life⟩,gens,drawn,toks,os⟩ ⟨c,code,pos,stack⟩ with
   |.go ⟨_,g,d,tk,o⟩ th=>some (⟨t,n,life,g,d,tk,o⟩,th)
   |.halt _ _=>none)
noncomputable def qqJ(S:FS)(s:Shared):Prop:=Lay S.t S.n s.heap.objs/\s.heap.life=S.life/\s.gens=S.gens/\s.drawn=S.drawn/\s.toks=S.toks/\s.os=S.os
noncomputable def hOf(c:Sem Fin):Bool:=match c with
 |.load .. =>true
 |.update .. =>true
 |.alloc .. =>true
 |.loadIfAlive .. =>true
 |_=>false
noncomputable def Step.heap(h:Heap):Step->Step
 |.go s t=>.go { s with heap:=h } t
 |.halt o s=>.halt o { s with heap:=h }
theorem qiK{den:Code->Sem Fin}{p:Program}{w:World}{h h':Heap}{gens:Array GenState}{drawn:Drawn}{toks:Nat}{os:OsState}{cur:Sem Fin}{code:Code}{pos:Pos}{stack:List Frame}(hc:hOf cur=false):
  step den p w ⟨h,gens,drawn,toks,os⟩ ⟨cur,code,pos,stack⟩=Step.heap h (step den p w ⟨h',gens,drawn,toks,os⟩ ⟨cur,code,pos,stack⟩):=by
 cases cur<;>first
  |(cases hc;done)
  |(simp only[step,finish];first|rfl|((repeat' split)<;>first|rfl|simp_all [Step.heap]))
theorem qmb(R:qqJ S s)(h:qf9 den p w S t=some (S',t')): ∃s',step den p w s t= .go s' t'/\qqJ S' s':=by
 obtain⟨T,n,life,gens,drawn,toks,os⟩:=S;obtain⟨⟨objs,aG⟩,bB,aV,bw,eI⟩:=s;obtain⟨L,e1,e2,e3,e4,e5⟩:=R;dsimp only at L e1 e2 e3 e4 e5;subst e1 e2 e3 e4 e5;obtain⟨cur,code,pos,stack⟩:=t;have al: ∀a,qm2 (T.get a)=Heap.get? ⟨objs,aG⟩ a:=λa=>by rw[L.2 a];rfl
 by_cases hc:hOf cur=true
 ·cases cur<;>first
   |(cases hc;done)
   |skip
  case load a part k=>
   unfold qf9 at h;dsimp only at h;rw[al] at h;unfold step;dsimp only;cases q:Heap.get? ⟨objs,aG⟩ a with
   |none=>rw[q] at h;cases h
   |some o=>rw[q] at h;cases h;exact⟨_,rfl,L,rfl,rfl,rfl,rfl,rfl⟩
  case update a part f k=>
   unfold qf9 at h;dsimp only at h;rw[al] at h;unfold step;dsimp only;cases q:Heap.get? ⟨objs,aG⟩ a with
   |none=>rw[q] at h;cases h
   |some o=>rw[q] at h;cases h;exact⟨_,rfl,L.mod a f,rfl,rfl,rfl,rfl,rfl⟩
  case alloc o k=>
   unfold qf9 at h;cases h;have e:n=objs.size:=L.1;subst e;exact⟨_,rfl,L.put o,rfl,rfl,rfl,rfl,rfl⟩
  case loadIfAlive a k=>
   unfold qf9 at h;dsimp only at h;rw[al] at h;cases h;exact⟨_,rfl,L,rfl,rfl,rfl,rfl,rfl⟩
 ·have hc:hOf cur=false:=by simpa using hc
  have h:(match step den p w ⟨⟨#[],aG⟩,bB,aV,bw,eI⟩ ⟨cur,code,pos,stack⟩ with
   |.go ⟨_,g,d,tk,o⟩ th=>some ((⟨T,n,aG,g,d,tk,o⟩:FS),th)
   |.halt _ _=>none)=some (S',t'):=by
   cases cur<;>first
    |(cases hc;done)
    |exact h
  rw[qiK (h':=⟨#[],aG⟩) hc];cases q:step den p w ⟨⟨#[],aG⟩,bB,aV,bw,eI⟩ ⟨cur,code,pos,stack⟩ with
  |halt o s=>rw[q] at h;cases h
  |go s th=>rw[q] at h;obtain⟨hh,g,d,tk,o⟩:=s;cases h;exact⟨_,rfl,L,rfl,rfl,rfl,rfl,rfl⟩
noncomputable def qsP(tb:String->Option Builtin)(p:Program)(w:World)(cz:Nat)(ann:Option Value):Nat->FS->Thread->Option FS
 |0,_,_=>none
 |n+1,S,t=>match through t with
  |true=>some S
  |false=>match stepOk cz ann t with
   |false=>none
   |true=>match qf9 (denote tb) p w S t with
    |some (S',t')=>qsP tb p w cz ann n S' t'
    |none=>none
theorem qj8: ∀(n:Nat)(S:FS)(s:Shared)(t:Thread),qqJ S s->qsP tb p w cz ann n S t=some S'->∃s',topRun tb p w cz ann n s t=some s'/\qqJ S' s'
 |0,_,_,_,_,h=>by cases h
 |n+1,S,s,t,R,h=>by
  unfold qsP at h;unfold topRun;cases q:through t with
  |true=>grind
  |false=>
   rw[q] at h;cases q2:stepOk _ ann t with
   |false=>rw[q2] at h;cases h
   |true=>
    rw[q2] at h;cases q3:qf9 _ p w S t with
    |none=>rw[q3] at h;cases h
    |some x=>obtain⟨S1,t1⟩:=x;rw[q3] at h;obtain⟨s1,e,R1⟩:=qmb R q3;rw[e];exact qj8 n S1 s1 t1 R1 h
noncomputable def ofS(s:Shared):FS:=⟨ofL s.heap.objs.toList 0 .e,s.heap.objs.size,s.heap.life,s.gens,s.drawn,s.toks,s.os⟩
noncomputable def toS:FS->Shared
 |⟨t,n,life,gens,drawn,toks,os⟩=>⟨⟨(qqA t n 0).toArray,life⟩,gens,drawn,toks,os⟩
theorem qra(s:Shared):qqJ (ofS s) s:=by refine⟨?_,rfl,rfl,rfl,rfl,rfl⟩;have:=qjs s.heap.objs.toList 0 .e #[] ⟨rfl,λi=>rfl⟩;simpa [ofS] using this
theorem qq9(R:qqJ S s):toS S=s:=by obtain⟨T,n,life,gens,drawn,toks,os⟩:=S;obtain⟨⟨objs,aG⟩,bB,aV,bw,eI⟩:=s;obtain⟨L,e1,e2,e3,e4,e5⟩:=R;dsimp only at L e1 e2 e3 e4 e5;subst e1 e2 e3 e4 e5;show(⟨⟨(qqA T n 0).toArray,aG⟩,bB,aV,bw,eI⟩:Shared)=_;rw[L.out]
noncomputable def qmh(tb:String->Option Builtin)(p:Program)(w:World)(N:Nat)(s₀:Shared):Option Shared:=
 match s₀.heap.isNs mainGlobals&&s₀.gens.size==0 with
 | true=>(qsP tb p w s₀.heap.objs.size (s₀.heap.nsMap mainGlobals "__annotations__") N (ofS s₀) (topStub p)).bind λcj=>match staticsOk (importedModules p.main.body) s₀.heap (toS cj).heap&&namesBound p (toS cj).heap&&gensDone (toS cj)&&laidKept s₀.heap (toS cj).heap with
   |true=>some (toS cj)
   |false=>none
 |false=>none
theorem qmg(h:qmh tb p w N s₀=some s):topFrom tb p w N s₀=some s:=by
 unfold qmh at h;unfold topFrom;cases q:s₀.heap.isNs _&&s₀.gens.size==0 with
 |false=>rw[q] at h;cases h
 |true=>
  rw[q] at h;cases q2:qsP tb p w _ _ N _ _ with
  |none=>rw[q2] at h;cases h
  |some S=>rw[q2] at h;obtain⟨s1,e,R⟩:=qj8 N _ _ _ (qra _) q2;rw[e];have e2:=qq9 R;dsimp only[Option.bind_some] at h⊢;rw[e2] at h;exact h
end FR
namespace HD
open PySem PySem.W
end HD
namespace FR
open PySem PySem.W HD
noncomputable def qqy(p:Program)(row:String)(N:Nat)(b:Bool)(w:World):Option Shared:=(fencedOpening treeTable p w N).bind (qmh treeTable p (w.withFollow row b) N)
noncomputable def runG(p:Program)(N:Nat)(w:World):Option Shared:=(fencedOpening treeTable p w N).bind (qmh treeTable p w N)
theorem qiO{row:String}(h:qqy p row N b w=some s):qqz p row N b w=some s:=by
 unfold qqy at h;unfold qqz;cases q:fencedOpening _ p w N with
 |none=>rw[q] at h;cases h
 |some s0=>rw[q] at h;exact qmg h
noncomputable def LookFX(p q:Program)(loose:List Str)(Xt:Shared->Bool)(row:String)(N:Nat)(b:Bool):Prop:= ∀w:World,(qqy p row N b w).map (λs=>(qlR p q loose Xt s).2)=some (openGood q loose).2
noncomputable def LookFY(p q:Program)(loose:List Str)(Xt:Shared->Bool)(H:Hook)(row:String)(N:Nat)(b:Bool):Prop:= ∀w:World,(qqy p row N b w).map (λs=>((qlR p q loose Xt s).1,H.obs s))=some ((openGood q loose).1,H.val (w.withFollow row b))
theorem qnl{loose:List Str}{row:String}(h:LookFX p q loose Xt row N b):qm6 p q loose Xt row N b:=λw=>by
 have h:=h w;cases r:qqy p row N b w with
 |none=>rw[r] at h;cases h
 |some s=>rw[r] at h;rw[qiO r];exact h
theorem qnk{loose:List Str}{row:String}(h:LookFY p q loose Xt H row N b):qm5 p q loose Xt H row N b:=λw=>by
 have h:=h w;cases r:qqy p row N b w with
 |none=>rw[r] at h;cases h
 |some s=>rw[r] at h;rw[qiO r];exact h
theorem left_fp{loose:List Str}(row:String)(x0:LookFX p q loose Xt row N false)(y0:LookFY p q loose Xt H row N false)(x1:LookFX p q loose Xt row N true)(y1:LookFY p q loose Xt H row N true):
  LeftO p q loose Xt (Hook.obs H) (Hook.val H) N:=qia row (qnl x0) (qnk y0) (qnl x1) (qnk y1)
end FR
section
open PySem PySem.W PyProof.Rows
namespace K87
abbrev vq:Program:=HD.vw PySem.Challenge.pw_rowasks_k87_whole_desks_back
abbrev lo:List Str:=["NUMBER_STEPS", "COUNT_STEPS", "BARE_STEPS"]
abbrev xt:Shared->Bool:=λs=>xlAt vq [] s&&recOk (RowW.records PySem.Challenge.rw_rowasks_k87_whole_desks_back.row.toRowW) s
set_option maxRecDepth 100000 in
set_option maxHeartbeats 0 in
theorem rXF:FR.LookFX PySem.Challenge.pw_rowasks_k87_whole_desks_back vq lo xt "special-get-raises" 20000 false:=λw=>by kernel_rfl
set_option maxRecDepth 100000 in
set_option maxHeartbeats 0 in
theorem rXT:FR.LookFX PySem.Challenge.pw_rowasks_k87_whole_desks_back vq lo xt "special-get-raises" 20000 true:=λw=>by kernel_rfl
section
local macro_rules
 |`(tactic| o_head $H)=> `(tactic| (exact False.elim (by assumption);exact $H))
set_option maxRecDepth 100000 in
set_option maxHeartbeats 0 in
noncomputable def hk:Hook:=by
 refine(λ(_:False->PySem.Challenge.rw_rowasks_k87_whole_desks_back.row.Holds)=> ?H) ?pf
 rotate_left
 intro hp
 k_head
end
set_option maxRecDepth 100000 in
set_option maxHeartbeats 0 in
theorem rYF:FR.LookFY PySem.Challenge.pw_rowasks_k87_whole_desks_back vq lo xt hk "special-get-raises" 20000 false:=λw=>by kernel_rfl
set_option maxRecDepth 100000 in
set_option maxHeartbeats 0 in
theorem rYT:FR.LookFY PySem.Challenge.pw_rowasks_k87_whole_desks_back vq lo xt hk "special-get-raises" 20000 true:=λw=>by kernel_rfl
end K87
end
namespace L2
open PySem PySem.Spec PyProof.Rows
abbrev Key:=Sum Int Str
noncomputable def keyIs:Key->Value->Bool
 |.inl k,v=>Value.isInt k v
 |.inr x,v=>Value.isStrOf x v
noncomputable def qxA(w:World):Key->Int
 |.inl k=>hashInt k
 |.inr x=>hashStr w x
theorem qaC: ∀{k:Key}{v:Value},keyIs k v=true->(∃i t,k=Sum.inl i/\v=Value.int i t)\/(∃x t,k=Sum.inr x/\v=Value.str x t)
 |.inl i,v,h=>by obtain⟨t,e⟩:=Value.isInt_shape h;exact .inl ⟨i,t,rfl,e⟩
 |.inr x,v,h=>by obtain⟨t,e⟩:=Value.isStrOf_shape h;exact .inr ⟨x,t,rfl,e⟩
theorem qjB(i:Int)(t:Tok):keyIs (.inl i) (.int i t)=true:=by simp[keyIs,Value.isInt]
theorem qjA(x:Str)(t:Tok):keyIs (.inr x) (.str x t)=true:=by simp[keyIs,Value.isStrOf]
theorem qso(a b:Int):decide ((Sum.inl a:Key)=Sum.inl b)=(a==b):=by
 grind
theorem qsj(a b:Str):decide ((Sum.inr a:Key)=Sum.inr b)=decide (a=b):=by simp
theorem qsn(a:Int)(b:Str):decide ((Sum.inl a:Key)=Sum.inr b)=false:=Vv (λq=>nomatch q)
theorem qsk(a:Str)(b:Int):decide ((Sum.inr a:Key)=Sum.inl b)=false:=Vv (λq=>nomatch q)
noncomputable def qar(prog:Program)(w:World):PySem.KeyKind prog w Key where
 is:=keyIs
 hash:=qxA w
 inj:=λv a b ha hb=>by
  rcases qaC ha with⟨i,t,rfl,rfl⟩|⟨x,t,rfl,rfl⟩
  ·rcases qaC hb with⟨j,u,rfl,e⟩|⟨y,u,rfl,e⟩
   ·injection e with e1 _;rw[e1]
   ·exact nomatch e
  ·rcases qaC hb with⟨j,u,rfl,e⟩|⟨y,u,rfl,e⟩
   ·exact nomatch e
   ·injection e with e1 _;rw[e1]
 byValue:=λk v h=>by
  rcases qaC h with⟨i,t,rfl,rfl⟩|⟨x,t,rfl,rfl⟩<;>rfl
 pyHash:=λhv h=>by
  rcases qaC hv with⟨i,t,rfl,rfl⟩|⟨x,t,rfl,rfl⟩
  ·exact wpAny_pyHash_int h
  ·exact wpAny_pyHash_str h
 eqBool:=λhu hv h=>by
  rcases qaC hu with⟨i,t,rfl,rfl⟩|⟨x,t,rfl,rfl⟩
  ·rcases qaC hv with⟨j,u,rfl,rfl⟩|⟨y,u,rfl,rfl⟩
   ·rw[qso] at h;exact wpAny_eqBool_int h
   ·rw[qsn] at h;exact SeqAt.EqAt.int_str i t y u _ _ _ _ h
  ·rcases qaC hv with⟨j,u,rfl,rfl⟩|⟨y,u,rfl,rfl⟩
   ·rw[qsk] at h;exact SeqAt.EqAt.str_int x t j u _ _ _ _ h
   ·rw[qsj] at h;exact wpAny_eqBool_str h
 «strs» :=λk x t v h=>by
  rcases qaC h with⟨i,u,rfl,e⟩|⟨y,u,rfl,e⟩
  ·exact nomatch e
  ·injection e with e1 _
   subst e1;cases v<;>rfl
theorem qfZ(prog:Program)(w:World)(i:Int)(t:Tok):(qar prog w).is (.inl i) (.int i t)=true:=qjB i t
theorem qfY(prog:Program)(w:World)(x:Str)(t:Tok):(qar prog w).is (.inr x) (.str x t)=true:=qjA x t
inductive V where
 |non|bl (b:Bool)|int (i:Int)|str (x:Str)|byt (b:Array UInt8)|flt (b:UInt64)|ref (a:Addr)|ty (n:String)
 deriving DecidableEq
noncomputable def RelV:V->Value->Prop
 |.non,u=>u=Value.none
 |.bl b,u=>u=Value.bool b
 |.int i,u=> ∃t,u=Value.int i t
 |.str x,u=> ∃t,u=Value.str x t
 |.byt b,u=> ∃t,u=Value.bytes b t
 |.flt b,u=> ∃t,u=Value.float b t
 |.ref a,u=>u=Value.ref a
 |.ty n,u=>u=Value.type n
abbrev qav:List V->List Value->Prop:=Paired RelV
theorem qav.length(r:qav xs us):xs.length=us.length:=Paired.length r
theorem qav.get: ∀{xs:List V}{us:List Value}{i:Nat}{x:V},qav xs us->xs[i]? =some x->∃u,us[i]? =some u/\RelV x u
 |_,_,_,_,.nil,e=>by simp at e
 |_,_,0,_,.cons r _,e=>by simp_all
 |_,_,i+1,x,.cons _ t,e=>by
  obtain⟨u,h1,h2⟩:=qav.get t (by simpa using e)
  simp_all
theorem qav.set(r:RelV x u): ∀{xs:List V}{us:List Value}(i:Nat),qav xs us->qav (xs.set i x) (us.set i u)
 |_,_,_,.nil=>.nil
 |_,_,0,.cons _ t=>.cons r t
 |_,_,i+1,.cons q t=>.cons q (qav.set r i t)
theorem qav.append: ∀{xs ys:List V}{us ws:List Value},qav xs us->qav ys ws->qav (xs++ys) (us++ws)
 |_,_,_,_,.nil,s=>s
 |_,_,_,_,.cons r t,s=>.cons r (qav.append t s)
theorem qav.take: ∀{xs:List V}{us:List Value}(n:Nat),qav xs us->qav (xs.take n) (us.take n)
 |_,_,0,_=>.nil
 |_,_,_+1,.nil=>.nil
 |_,_,n+1,.cons r t=>.cons r (qav.take n t)
theorem qav.drop: ∀{xs:List V}{us:List Value}(n:Nat),qav xs us->qav (xs.drop n) (us.drop n)
 |_,_,0,r=>r
 |_,_,_+1,.nil=>.nil
 |_,_,n+1,.cons _ t=>qav.drop n t
noncomputable def qev:Option V->Option Value->Prop
 |some v,some u=>RelV v u
 |none,none=>True
 |_,_=>False
noncomputable def KV{κ:Type}:List (κ×V)->List (κ×Value)->Prop:=Paired λ(p:κ×V)(q:κ×Value)=>p.1=q.1/\RelV p.2 q.2
noncomputable def kV:Key->V
 |.inl i=>.int i
 |.inr x=>.str x
inductive HO where
 |lst (xs:List V)
 |tup (xs:List V)
 |dK (kvs:List (Key×V))|dT (kvs:List (List Key×V))
 |set (S:Int->Bool) (n:Nat)
 |ins (C dx:Addr) (fs:List (Str×V))
 |own (x:Addr)
 |xd (fs:List (Str×V))
 |met (f x:Addr)
 |rng (lo hi:Int)
 |frz (o:Obj) (u:HO)
 |tbl (ps:Array Value)
 |ext (φ:Heap->Prop)
abbrev Hp:=Addr->Option HO
noncomputable def upd(H:Hp)(a:Addr)(o:HO):Hp:=λb=>if b=a then some o else H b
theorem qaf:upd H a o a=some o:=by unfold upd;rw[if_pos rfl]
theorem qab(h:b≠a):upd H a o b=H b:=by unfold upd;rw[if_neg h]
theorem qfL:upd (upd H a o) a u=upd H a u:=by
 funext b;unfold upd;split<;>rfl
theorem qvi{H:Hp}{a b:Addr}{o u:HO}(h:H a=some o)(h':H b=some u)(d:o≠u):a≠b:=by
 grind
theorem qak{H:Hp}{a b:Addr}{o:HO}(h:H a=some o)(h':H b=none):a≠b:=by
 grind
section
variable(P:Program)(w:World)
noncomputable def qaE(H:Hp)(h:Heap)(a:Addr):HO->Prop
 |.lst xs=>xs.length<=sizeLine/\∃(its:List Value)(n:Nat),qav xs its/\h.get? a=some { cls:=.type "list",data:=.seq its.toArray n }
 |.tup xs=>xs.length<=sizeLine/\∃its:List Value,qav xs its/\IsTup h a its.toArray
 |.dK kvs=>kvs.length<=sizeLine/\(a==sysModules)=false/\∃vs,KV kvs vs/\h.DictOf (qar P w) a vs
 | .dT kvs=>kvs.length<=sizeLine/\(a==sysModules)=false/\∃xs:List (List Key×Addr×Value),
   Paired (λ(p:List Key×V)(q:List Key×Addr×Value)=>p.1=q.1/\H q.2.1=some (.tup (p.1.map kV))/\RelV p.2 q.2.2) kvs xs/\
   ∃o es ep,h.get? a=some o/\o.ExactDict/\o.data= .dict es ep/\es.toList=xs.map (entryOfKey (tupleKind (qar P w)))/\(xs.map (·.1)).Nodup
 |.set S n=>h.SetOf (intKind P w) a S n
 | .ins C dx fs=>H dx=some (.own a)/\fs.length<=1000/\dx≠a/\h.get? a=some (W.instObj C dx)/\
   ∃mA,h.Ns1 dx mA/\(∀f,qev (fs.lookup f) (mA f))/\PySem.Within mA (fs.map (·.1))
 |.own _=> ∃o,h.get? a=some o
 |.xd fs=> ∃mA,h.Ns1 a mA/\∀f,qev (fs.lookup f) (mA f)
 |.rng lo hi=> ∃t u v,h.get? a=some { cls:=.type "range",data:=.fields #[.int lo t,.int hi u,.int 1 v] }
 |.frz o u=>h.get? a=some o/\qaE H h a u
 |.tbl ps=>h.get? a=some { cls:=.none,data:=.fields ps }
 |.met f x=>h.get? a=some (W.methodObj (.ref f) (.ref x))
 |.ext φ=>φ h/\(∃o,h.get? a=some o)/\∀h1 h2:Heap,φ h1->(∀o,h1.get? a=some o->h2.get? a=some o)->φ h2
noncomputable def HOk(H:Hp)(h:Heap):Prop:= ∀a o,H a=some o->qaE P w H h a o
end
section
variable{P:Program}{w:World}{H H':Hp}{h h':Heap}{a:Addr}{o:HO}
theorem qaE.lt(x:qaE P w H h a o):a<h.objs.size:=by
 cases o with
 |lst xs=>obtain⟨_,_,_,_,e⟩:=x;exact Vi e
 |tup xs=>obtain⟨_,_,_,p⟩:=x;exact p.lt
 |dK kvs|dT kvs=>obtain⟨_,_,_,_,o,_,_,e,_⟩:=x;exact Vi e
 |set S n=>obtain⟨o,_,_,_,e,_⟩:=x;exact Vi e
 |ins C dx fs=>obtain⟨_,_,_,e,_⟩:=x;exact Vi e
 |own y=>obtain⟨_,e⟩:=x;exact Vi e
 |xd fs=>obtain⟨_,⟨_,_,_,e,_⟩,_⟩:=x;exact Vi e
 |rng lo hi=>obtain⟨_,_,_,e⟩:=x;exact Vi e
 |frz ob u=>obtain⟨e,_⟩:=x;exact Vi e
 |tbl ps|met f y=>exact Vi (x)
 |ext φ=>obtain⟨_,⟨_,e⟩,_⟩:=x;exact Vi e
theorem Paired.mapP{α β:Type}{F G:α->β->Prop}: ∀{ff:List α}{l₂:List β},Paired F ff l₂->(∀a b,F a b->G a b)->Paired G ff l₂
 |_,_,.nil,_=>.nil
 |_,_,.cons r t,f=>.cons (f _ _ r) (Paired.mapP t f)
theorem qaE.stay(x:qaE P w H h a o)(k: ∀b u,(b=a\/H b=some (.own a))->h.get? b=some u->h'.get? b=some u)(ho: ∀b,H b=some (.own a)->H' b=some (.own a))(ht: ∀b xs,H b=some (.tup xs)->H' b=some (.tup xs)):qaE P w H' h' a o:=by
 induction o with
 |lst xs=>obtain⟨z,its,n,r,e⟩:=x;exact⟨z,its,n,r,k _ _ (.inl rfl) e⟩
 |tup xs=>obtain⟨z,its,r,ob,e,c⟩:=x;exact⟨z,its,r,ob,k _ _ (.inl rfl) e,c⟩
 |dK kvs=>obtain⟨z,y,vs,r,ob,es,ep,e,c⟩:=x;exact⟨z,y,vs,r,ob,es,ep,k _ _ (.inl rfl) e,c⟩
 |dT kvs=>obtain⟨z,y,xs,r,ob,es,ep,e,c⟩:=x;exact⟨z,y,xs,Paired.mapP r λp q z=>⟨z.1,ht _ _ z.2.1,z.2.2⟩,ob,es,ep,k _ _ (.inl rfl) e,c⟩
 |set S n=>obtain⟨ob,es,ep,t,e,c⟩:=x;exact⟨ob,es,ep,t,k _ _ (.inl rfl) e,c⟩
 |ins C dx fs=>obtain⟨d,z,ne,e,mA,⟨od,es,ep,e2,c⟩,r⟩:=x;exact⟨ho _ d,z,ne,k _ _ (.inl rfl) e,mA,⟨od,es,ep,k _ _ (.inr d) e2,c⟩,r⟩
 |own y=>obtain⟨ob,e⟩:=x;exact⟨ob,k _ _ (.inl rfl) e⟩
 |xd fs=>obtain⟨mA,⟨od,es,ep,e,c⟩,r⟩:=x;exact⟨mA,⟨od,es,ep,k _ _ (.inl rfl) e,c⟩,r⟩
 |rng lo hi=>obtain⟨t,u,v,e⟩:=x;exact⟨t,u,v,k _ _ (.inl rfl) e⟩
 |frz ob u ih=>obtain⟨e,q⟩:=x;exact⟨k _ _ (.inl rfl) e,ih q⟩
 |tbl ps|met f y=>have e:=x;exact k a _ (.inl rfl) e
 |ext φ=>obtain⟨p,⟨o,e⟩,st⟩:=x;exact⟨st _ _ p λo q=>k _ _ (.inl rfl) q,⟨o,k _ _ (.inl rfl) e⟩,st⟩
theorem HOk.lt(x:HOk P w H h)(e:H a=some o):a<h.objs.size:=(x a o e).lt
theorem HOk.fresh(x:HOk P w H h)(e:h.objs.size<=a):H a=none:=by
 cases q:H a with
 |none=>rfl
 |some u=>exact absurd (Vm (x.lt q) e) (Nat.lt_irrefl _)
theorem HOk.kept(x:HOk P w H h)(k: ∀b u,h.get? b=some u->h'.get? b=some u):HOk P w H h':=λa o e=>
 (x a o e).stay (λb u _ q=>k b u q) (λ_ q=>q) λ_ _ q=>q
theorem HOk.laid(x:HOk P w H h)(k: ∀b u,h.get? b=some u->h'.get? b=some u)(hp:h.objs.size<=a)(new:qaE P w (upd H a o) h' a o):HOk P w (upd H a o) h':=λb u e=>by
 have hn:=x.fresh hp;by_cases hb:b=a
 ·subst hb;rw[qaf] at e;cases e;exact new
 ·rw[qab hb] at e;exact(x b u e).stay (λc v _ q=>k c v q) (λc q=>by rw[qab (qak q hn)];exact q) λc xs q=>by rw[qab (qak q hn)];exact q
end
noncomputable def Rd(H:Hp)(a:Addr)(u:HO):Prop:=H a=some u\/∃o,H a=some (.frz o u)
theorem Rd.of{H:Hp}{a:Addr}{u:HO}(h:H a=some u):Rd H a u:=.inl h
theorem Rd.ok(r:Rd H a u)(x:HOk P w H h):qaE P w H h a u:=by
 rcases r with r|⟨o,r⟩
 ·exact x a u r
 ·obtain⟨_,q⟩:=x a _ r;exact q
noncomputable def Mut:Option HO->Prop
 |some (.lst _)=>True
 |some (.dK _)=>True
 |some (.dT _)=>True
 |some (.set _ _)=>True
 |some (.ins _ _ _)=>True
 |some (.ext _)=>True
 |_=>False
section
theorem HOk.write(ok:HOk P w H h)(mu:Mut (H x))(he:e=x\/H e=some (.own x))(k: ∀b u,b≠e->h.get? b=some u->h'.get? b=some u)(eO: ∃u,h'.get? e=some u)(new:qaE P w (upd H x o') h' x o'):HOk P w (upd H x o') h':=λb u q=>by
 have g7: ∀c y,H c=some (.own y)->c≠x:=λc y r z=>by subst z;rw[r] at mu;exact mu
 have g0: ∀c xs,H c=some (.tup xs)->c≠x:=λc xs r z=>by subst z;rw[r] at mu;exact mu
 by_cases hb:b=x
 ·subst hb;rw[qaf] at q;cases q;exact new
 ·rw[qab hb] at q;by_cases gH:b=e
  ·have q':H b=some (.own x):=by
    grind
   rw[q] at q';cases q';obtain⟨v,hv⟩:=eO;exact⟨v,by rw[gH];exact hv⟩
  ·refine(ok b u q).stay (λc v hc r=>k c v ?_ r) (λc r=>by rw[qab (g7 c b r)];exact r) λc xs r=>by rw[qab (g0 c xs r)];exact r
   grind
end
structure Un(fs ex:List Addr)(H H':Hp)(h h':Heap):Prop where
 keep: ∀b o,h.get? b=some o->H b=none->b∉fs->b∉ex->h'.get? b=some o
 slot: ∀b o,h.get? b=some o->H b=none->b∈fs->b∉ex->∃sl,h'.get? b=some { o with slots:=sl }
 free: ∀b o,h.get? b=some o->H b=none->b∉ex->H' b=none
 there: ∀b o,h.get? b=some o->b∉ex->∃o',h'.get? b=some o'
 tups: ∀b xs,H b=some (.tup xs)->H' b=some (.tup xs)
 frzs: ∀b o u,H b=some (.frz o u)->H' b=some (.frz o u)
 tbls: ∀b ps,H b=some (.tbl ps)->∃more,H' b=some (.tbl (ps++more))
section
theorem Un.any(u:Un fs ex H H1 h h1)(q:h.get? b=some ob)(n:H b=none)(hx:b∉ex): ∃sl,h1.get? b=some { ob with slots:=sl }:=by
 by_cases hb:b∈fs
 ·exact u.slot b ob q n hb hx
 ·exact⟨ob.slots,u.keep b ob q n hb hx⟩
theorem Un.kept(k: ∀b u,h.get? b=some u->h'.get? b=some u):Un fs ex H H h h':=
 ⟨λb ob q _ _ _=>k b ob q,λb ob q _ _ _=>⟨ob.slots,k b ob q⟩,λ_ _ _ n _=>n,λb ob q _=>⟨ob,k b ob q⟩,λ_ _ q=>q,λ_ _ _ q=>q,λ_ ps q=>⟨#[],by rw[q];simp⟩⟩
theorem Un.refl:Un fs ex H H h h:=Un.kept λ_ _ q=>q
theorem Un.laid{fs:List Addr}{ex:List Addr}{H:Hp}{h:Heap}{h':Heap}{a:Addr}{o:HO}(k: ∀b u,h.get? b=some u->h'.get? b=some u)(hp:h.objs.size<=a)(hn:H a=none):Un fs ex H (upd H a o) h h' where
 keep:=λb u q _ _ _=>k b u q
 slot:=λb u q _ _ _=>⟨u.slots,k b u q⟩
 free:=λb u q n _=>by rw[qab (Nat.ne_of_lt (Nat.lt_of_lt_of_le (Heap.lt_size q) hp))];exact n
 there:=λb u q _=>⟨u,k b u q⟩
 tups:=λb xs q=>by rw[qab (qak q hn)];exact q
 frzs:=λb u xs q=>by rw[qab (qak q hn)];exact q
 tbls:=λb ps q=>⟨#[],by rw[qab (qak q hn),q];simp⟩
theorem Un.write(mu:Mut (H x))(he:e=x\/H e=some (.own x))(k: ∀b u,b≠e->h.get? b=some u->h'.get? b=some u)(eO: ∃u,h'.get? e=some u):Un fs ex H (upd H x o) h h':=by
 have hx: ∀b,H b=none->b≠x:=λb n z=>by subst z;rw[n] at mu;exact mu
 have hb: ∀b,H b=none->b≠e:=λb n z=>by
  grind
 have hm: ∀b u,H b=some u->¬Mut (some u)->b≠x:=λb u q nm z=>by grind
 refine⟨λb u q n _ _=>k b u (hb b n) q,λb u q n _ _=>⟨u.slots,k b u (hb b n) q⟩,λb u q n _=>by rw[qab (hx b n)];exact n,λb u q _=> ?_,
  λb xs q=>by rw[qab (hm b _ q λz=>z)];exact q,λb u xs q=>by rw[qab (hm b _ q λz=>z)];exact q,λb ps q=>⟨#[],by rw[qab (hm b _ q λz=>z),q];simp⟩⟩
 by_cases gH:b=e
 ·subst gH;exact eO
 ·exact⟨u,k b u gH q⟩
end
noncomputable def trk(h:Heap)(H:Hp):List Addr:=(List.range h.objs.size).filter λa=>(H a).isSome
noncomputable def qjK(h:Heap)(H:Hp):Heap:=W.hideAll h (trk h H)
theorem qjJ(h:Heap)(H:Hp):(qjK h H).objs.size=h.objs.size:=W.hideAll_size _ _
theorem ql5(e:h.get? b=some o)(n:H b=none):(qjK h H).get? b=some o:=
 W.hideAll_get _ e λhm=>by have q:=(List.mem_filter.mp hm).2;rw[n] at q;simp at q
theorem qoU(e:(qjK h H).get? b=some o):h.get? b=some o/\H b=none:=by
 have e':=W.of_hideAll _ e;refine⟨e',?_⟩;cases q:H b with
 |none=>rfl
 |some x=>have hm:b∈trk h H:=List.mem_filter.mpr ⟨List.mem_range.mpr (Vi e'),by simp[q]⟩;have z:(qjK h H).get? b=none:=W.hideAll_none _ hm;rw[z] at e;cases e
noncomputable def qqq(g h:Heap)(L:Addr):List (Addr×Obj):=(List.range h.objs.size).filterMap λa=>if a=L\/(g.get? a).isSome=true then none else(h.get? a).map λo=>(a,o)
noncomputable def qbP(g h:Heap)(L d:Addr):List (Addr×Obj):=(qqq g h L).filter λp=>decide (p.1≠d)
structure Mod(K:W.Frag)(mg:Str->Option Value)(base:Heap):Prop where
 kin:K.In base
 glob:base.Ns mainGlobals mg
 blt: ∃mb,base.Ns builtinsNs mb/\∀x:Str,x≠ "__name__" ->mb x=bootBuiltins x
 nolimit:base.NoLimit
structure Cx where
 prog:Program
 w:World
 K:W.Frag
 mg:Str->Option Value
 base:Heap
 A:Around
 N:List Str
 s₀:Shared
 H₀:Hp
 env:Env
 outer:List Env
 stack:List Env
 ex:List Addr
 fn:Str->Bool
 calm:Bool
 pn:List (Addr×Obj)
 xe:Value->Shared->Prop
noncomputable def frs(l:List Env):List Addr:=l.filterMap (·.frame)
abbrev Cx.fs(X:Cx):List Addr:=frs X.outer
noncomputable def Vis(sc:Scope)(x:Str):Prop:=sc.names.lookup x=some .local\/sc.names.lookup x=some .cell\/sc.names.lookup x=some .free
noncomputable def Loc(sc:Scope)(x:Str):Prop:=sc.names.lookup x=some .local\/sc.names.lookup x=some .cell
noncomputable def qyc(env:Env)(h:Heap)(m:Str->Option Value)(x:Str)(u:Value):Prop:=
 (env.kindOf x=some .local/\m x=some u)\/((env.kindOf x=some .cell\/env.kindOf x=some .free)/\∃c,env.cells.lookup x=some c/\h.IsCell c (some u))
structure Cx.Ok(X:Cx):Prop where
 mod:Mod X.K X.mg X.base
 kind:X.env.scope.kind= .function
 glob:X.env.globals=mainGlobals
 blt:X.env.builtins=builtinsNs
 above:X.s₀.heap.objs.size<=X.env.locals
 inj: ∀x y c,X.env.cells.lookup x=some c->X.env.cells.lookup y=some c->x=y
 has: ∀x,(X.env.kindOf x=some .cell\/X.env.kindOf x=some .free)->∃c,X.env.cells.lookup x=some c
 cab: ∀x c,X.fn x=true->X.env.cells.lookup x=some c->X.s₀.heap.objs.size<=c
 hd:X.calm=true->X.A.handled=none
 frames:X.A.frames=some X.stack
 stk:X.stack=X.outer\/(X.stack=X.env::X.outer/\X.env.frame=some X.env.locals)
 exf: ∀b∈X.ex,b≠X.env.locals/\∀x c,X.env.cells.lookup x=some c->c≠b
 bs: ∀b o,X.base.get? b=some o->X.s₀.heap.get? b=some o/\X.H₀ b=none
 bsz:X.base.objs.size<=X.s₀.heap.objs.size
 noex: ∀b o,X.base.get? b=some o->b∉X.ex
 exfs: ∀b∈X.ex,b∉X.fs
 funs:X.s₀.heap.FunFrames X.base X.outer
 frf: ∀b∈X.fs,X.H₀ b=none
structure Inv(X:Cx)(O:List (Addr×Obj))(Z:List (Option V))(H:Hp)(s:Shared):Prop where
 ok:X.Ok
 os:s.os=X.s₀.os
 bare:AllBare s.gens
 base:Un X.fs X.ex X.H₀ H X.s₀.heap s.heap
 loc: ∃m,s.heap.Ns X.env.locals m/\∀(i:Nat)(x:Str)(v:V),X.N[i]? =some x->Z[i]? =some (some v)->Vis X.env.scope x->∃u,RelV v u/\qyc X.env s.heap m x u
 cell: ∀x c,X.env.cells.lookup x=some c->∃v,s.heap.IsCell c v
 free:H X.env.locals=none
 freeC: ∀x c,X.env.cells.lookup x=some c->H c=none
 pin: ∀p∈X.pn++O,s.heap.get? p.1=some p.2/\H p.1=none/\p.1≠X.env.locals/\p.1∉X.fs/\∀v,p.2.data≠.cell v
 hok:HOk X.prog X.w H s.heap
 len:Z.length=X.N.length
section
theorem Cx.Ok.nofr{X:Cx}(ok:X.Ok)(e:X.base.get? b=some o):b∉X.fs:=λhb=>by
 have:=(ok.funs.mem hb).1
 grind
theorem Inv.bs{X:Cx}{s:Shared}(I:Inv X O Z H s): ∀b o,X.base.get? b=some o->s.heap.get? b=some o/\H b=none:=λb o e=>
 ⟨I.base.keep b o (I.ok.bs b o e).1 (I.ok.bs b o e).2 (I.ok.nofr e) (I.ok.noex b o e),I.base.free b o (I.ok.bs b o e).1 (I.ok.bs b o e).2 (I.ok.noex b o e)⟩
theorem Inv.bk(I:Inv X O Z H s): ∀b o,X.base.get? b=some o->s.heap.get? b=some o:=λb o e=>(I.bs b o e).1
theorem Inv.mod(I:Inv X O Z H s):Mod X.K X.mg X.base:=I.ok.mod
theorem Inv.kIn(I:Inv X O Z H s):X.K.In s.heap:=I.ok.mod.kin.keeps I.bk
theorem Inv.lt(I:Inv X O Z H s):X.env.locals<s.heap.objs.size:=let ⟨_,hn,_⟩:=I.loc;hn.lt
theorem Inv.sz(I:Inv X O Z H s):X.s₀.heap.objs.size<=s.heap.objs.size:=Vp I.ok.above (Vo I.lt)
theorem Inv.nofs(I:Inv X O Z H s)(h:s.heap.objs.size<=a):a∉X.fs:=λhb=>by obtain⟨_,o,ho,_⟩:=I.ok.funs.mem hb;exact absurd (Vm (Vi ho) (Vp I.sz h)) (Nat.lt_irrefl _)
theorem Inv.cne(I:Inv X O Z H s): ∀x c,X.env.cells.lookup x=some c->c≠X.env.locals:=λx c e z=>by
 obtain⟨v,o,ho,hd⟩:=I.cell x c e;obtain⟨m,⟨o',es,ep,bq,fQ,_⟩,_⟩:=I.loc
 grind
theorem Inv.funs(I:Inv X O Z H s):s.heap.FunFrames X.base X.outer:=by
 have all: ∀(l:List Env),(∀b∈frs l,b∈X.fs)->X.s₀.heap.FunFrames X.base l->s.heap.FunFrames X.base l:=by
  intro l
  induction l with
  |nil=>intro _ _;trivial
  |cons env r ih=>intro hs hl;obtain⟨hk,⟨L,o,hf,hn,ho,hd⟩,hr⟩:=hl;have hL:=hs L (by unfold frs;simp_all);obtain⟨sl,e⟩:=I.base.slot L o ho (I.ok.frf L hL) hL λz=>I.ok.exfs L z hL;exact⟨hk,⟨L,_,hf,hn,e,hd⟩,ih (λb hb=>hs b (by unfold frs;rw[List.filterMap_cons,hf];exact Vk _ hb)) hr⟩
 exact all _ (λ_ hb=>hb) I.ok.funs
theorem Inv.stack(I:Inv X O Z H s):s.heap.FunFrames X.base X.stack:=by
 rcases I.ok.stk with e|⟨e,hf⟩
 ·rw[e];exact I.funs
 ·rw[e];obtain⟨m,hn,_⟩:=I.loc;refine .cons (by rw[I.ok.kind];decide) hf hn ?_ I.funs;exact Heap.get?_none_of_le (Vp I.ok.bsz I.ok.above)
theorem Inv.stkSub(I:Inv X O Z H s): ∀b∈frs X.stack,b∈X.env.locals::X.fs:=λb hb=>by
 rcases I.ok.stk with e|⟨e,hf⟩
 ·grind
 ·rw[e] at hb;unfold frs at hb;rw[List.filterMap_cons,hf] at hb;exact hb
theorem Inv.stkFree(I:Inv X O Z H s): ∀b∈frs X.stack,H b=none:=λb hb=>by
 rcases List.mem_cons.mp (I.stkSub b hb) with e|hb
 ·rw[e];exact I.free
 ·obtain⟨_,o,ho,_⟩:=I.ok.funs.mem hb;exact I.base.free b o ho (I.ok.frf b hb) λz=>I.ok.exfs b z hb
theorem Inv.step{X:Cx}{O:List (Addr×Obj)}{Z:List (Option V)}{H:Hp}{H':Hp}{s:Shared}{h':Heap}{g':Array GenState}{t':Nat}{d':Drawn}{ch:List Addr}(I:Inv X O Z H s)(aP: ∀b∈ch,(b∈X.ex\/X.s₀.heap.objs.size<=b)/\b≠X.env.locals/\(∀x c,X.env.cells.lookup x=some c->c≠b)/\∀p∈X.pn++O,p.1≠b)(keep: ∀b o,b≠X.env.locals->b∉X.fs->b∉ch->s.heap.get? b=some o->H b=none->h'.get? b=some o)(slot: ∀b o,b≠X.env.locals->b∈X.fs->b∉ch->s.heap.get? b=some o->H b=none->∃sl,h'.get? b=some { o with slots:=sl })(free: ∀b o,b∉ch->s.heap.get? b=some o->H b=none->H' b=none)(there: ∀b o,b∉ch->s.heap.get? b=some o->∃o',h'.get? b=some o')(tups: ∀b xs,H b=some (.tup xs)->H' b=some (.tup xs))(frzs: ∀b o u,H b=some (.frz o u)->H' b=some (.frz o u))(tbls: ∀b ps,H b=some (.tbl ps)->∃more,H' b=some (.tbl (ps++more)))(ns: ∀m,s.heap.Ns X.env.locals m->h'.Ns X.env.locals m)(hok:HOk X.prog X.w H' h')(hg:AllBare g'):
  Inv X O Z H' { s with heap:=h',gens:=g',drawn:=d',toks:=t' }:=by
 have cZ: ∀b o,X.s₀.heap.get? b=some o->b≠X.env.locals:=λb o e=>Vn (Vm (Vi e) I.ok.above);have gw: ∀b o,X.s₀.heap.get? b=some o->b∉X.ex->b∉ch:=λb o e hx hb=>by
  rcases(aP b hb).1 with z|z
  ·exact hx z
  ·exact absurd (Vm (Vi e) z) (Nat.lt_irrefl _)
 have cellK: ∀x c,X.env.cells.lookup x=some c->∀v,s.heap.IsCell c v->h'.IsCell c v:=λx c e v ⟨o,ho,hd⟩=>by
  have c6:c∉ch:=λz=>(aP c z).2.2.1 x c e rfl;by_cases hc:c∈X.fs
  ·obtain⟨sl,q⟩:=slot c o (I.cne x c e) hc c6 ho (I.freeC x c e);exact⟨_,q,hd⟩
  ·exact⟨o,keep c o (I.cne x c e) hc c6 ho (I.freeC x c e),hd⟩
 refine⟨I.ok,I.os,hg,⟨λb o e n hb hx=> ?_,λb o e n hb hx=> ?_,λb o e n hx=> ?_,λb o e hx=> ?_,λb xs e=>tups b xs (I.base.tups b xs e),λb o xs e=>frzs b o xs (I.base.frzs b o xs e),λb ps e=> ?_⟩,?_,λx c e=> ?_,?_,λx c e=> ?_,λp hp=> ?_,hok,I.len⟩
 ·exact keep b o (cZ b o e) hb (gw b o e hx) (I.base.keep b o e n hb hx) (I.base.free b o e n hx)
 ·obtain⟨sl,e1⟩:=I.base.slot b o e n hb hx;obtain⟨eG,e2⟩:=slot b _ (cZ b o e) hb (gw b o e hx) e1 (I.base.free b o e n hx);exact⟨eG,e2⟩
 ·obtain⟨o',e1⟩:=I.base.there b o e hx;exact free b o' (gw b o e hx) e1 (I.base.free b o e n hx)
 ·obtain⟨o',e1⟩:=I.base.there b o e hx;exact there b o' (gw b o e hx) e1
 ·obtain⟨m1,e1⟩:=I.base.tbls b ps e
  grind
 ·obtain⟨m,hn,hl⟩:=I.loc;refine⟨m,ns m hn,λi x v e1 e2 e3=> ?_⟩;obtain⟨u,r,l⟩:=hl i x v e1 e2 e3;refine⟨u,r,?_⟩
  rcases l with l|⟨k,c,e,z⟩
  ·exact .inl l
  ·exact .inr ⟨k,c,e,cellK x c e _ z⟩
 ·obtain⟨v,z⟩:=I.cell x c e;exact⟨v,cellK x c e v z⟩
 ·obtain⟨m,⟨o,_,_,ho,_⟩,_⟩:=I.loc;exact free _ o (λz=>(aP _ z).2.1 rfl) ho I.free
 ·obtain⟨v,o,ho,hd⟩:=I.cell x c e;exact free c o (λz=>(aP c z).2.2.1 x c e rfl) ho (I.freeC x c e)
 ·obtain⟨e,n,ne,nf,d⟩:=I.pin p hp;have c6:p.1∉ch:=λz=>(aP p.1 z).2.2.2 p hp rfl;exact⟨keep p.1 p.2 ne nf c6 e n,free p.1 p.2 c6 e n,ne,nf,d⟩
theorem Inv.un{X:Cx}{O:List (Addr×Obj)}{Z:List (Option V)}{H:Hp}{H':Hp}{s:Shared}{h':Heap}{t':Nat}(I:Inv X O Z H s)(u:Un X.fs [] H H' s.heap h')(hok:HOk X.prog X.w H' h'):Inv X O Z H' { s with heap:=h',toks:=t' }:=by
 obtain⟨m,⟨o,es,ep,ho,r⟩,_⟩:=id I.loc;obtain⟨sl,hL⟩:=u.any ho I.free (by simp);exact I.step (ch:=[]) (λ_ z=>nomatch z) (λb o _ hb _ e n=>u.keep b o e n hb (by simp)) (λb o _ hb _ e n=>u.slot b o e n hb (by simp)) (λb o _ e n=>u.free b o e n (by simp)) (λb o _ e=>u.there b o e (by simp)) u.tups u.frzs u.tbls (λm' hm=>by
  obtain⟨o',eR,gM,bq,r'⟩:=hm;rw[ho] at bq;cases bq;exact⟨_,eR,gM,hL,r'⟩) hok I.bare
theorem Inv.call{X:Cx}{O:List (Addr×Obj)}{Z:List (Option V)}{H:Hp}{H':Hp}{s:Shared}{h':Heap}{g':Array GenState}{t':Nat}{d':Drawn}{ch:List Addr}(I:Inv X O Z H s)(u:Un (frs X.stack) ch H H' s.heap h')(hok:HOk X.prog X.w H' h')(hg:AllBare g')(aP: ∀b∈ch,(b∈X.ex\/X.s₀.heap.objs.size<=b)/\b≠X.env.locals/\(∀x c,X.env.cells.lookup x=some c->c≠b)/\∀p∈X.pn++O,p.1≠b):
  Inv X O Z H' { s with heap:=h',gens:=g',drawn:=d',toks:=t' }:=by
 obtain⟨m,⟨o,es,ep,ho,r⟩,_⟩:=id I.loc;obtain⟨sl,hL⟩:=u.any ho I.free λz=>(aP _ z).2.1 rfl;exact I.step aP (λb o hL hb hc e n=>u.keep b o e n (λz=>(List.mem_cons.mp (I.stkSub b z)).elim hL hb) hc) (λb o _ _ hc e n=>u.any e n hc) (λb o hc e n=>u.free b o e n hc) (λb o hc e=>u.there b o e hc) u.tups u.frzs u.tbls (λm' hm=>by
  obtain⟨o',eR,gM,bq,r'⟩:=hm;rw[ho] at bq;cases bq;exact⟨_,eR,gM,hL,r'⟩) hok hg
theorem Inv.turned{X:Cx}{O:List (Addr×Obj)}{Z:List (Option V)}{H:Hp}{s:Shared}{h':Heap}{t':Nat}{it:Addr}(I:Inv X O Z H s)(k: ∀b o,b≠it->s.heap.get? b=some o->h'.get? b=some o)(hn:H it=none)(hL:it≠X.env.locals)(h1:it∈X.ex\/X.s₀.heap.objs.size<=it)(h2: ∀x c,X.env.cells.lookup x=some c->c≠it)(h3: ∀p∈X.pn++O,p.1≠it):Inv X O Z H { s with heap:=h',toks:=t' }:=by
 have nit: ∀b u,H b=some u->b≠it:=λb u e z=>by grind
 refine I.step (ch:=[it]) (λb hb=> ?_) (λb o _ _ hc e _=>k b o (λz=>hc (by simp[z])) e) (λb o _ _ hc e _=>⟨o.slots,k b o (λz=>hc (by simp[z])) e⟩) (λ_ _ _ _ n=>n)
  (λb o hc e=>⟨o,k b o (λz=>hc (by simp[z])) e⟩) (λ_ _ e=>e) (λ_ _ _ e=>e) (λb ps e=>⟨#[],by rw[e];simp⟩) (λm hm=> ?_) (λb u e=> ?_) I.bare
 ·have e:=by simpa using hb
  subst e;exact⟨h1,hL,h2,h3⟩
 ·obtain⟨o,es,ep,ho,r⟩:=hm;exact⟨o,es,ep,k _ o (Ne.symm hL) ho,r⟩
 ·refine(I.hok b u e).stay (λc v hc q=>k c v ?_ q) (λ_ q=>q) λ_ _ q=>q
  grind
theorem Inv.tok(I:Inv X O Z H s)(t:Nat):Inv X O Z H { s with toks:=t }:=I.un Un.refl I.hok
theorem Inv.kept(I:Inv X O Z H s)(k: ∀b u,s.heap.get? b=some u->h'.get? b=some u):Inv X O Z H { s with heap:=h',toks:=t' }:=I.un (Un.kept k) (I.hok.kept k)
theorem Inv.laid(I:Inv X O Z H s)(k: ∀b u,s.heap.get? b=some u->h'.get? b=some u)(hp:s.heap.objs.size<=a)(new:qaE X.prog X.w (upd H a o) h' a o):
  Inv X O Z (upd H a o) { s with heap:=h',toks:=t' }:=I.un (Un.laid k hp (I.hok.fresh hp)) (I.hok.laid k hp new)
theorem Inv.write(I:Inv X O Z H s)(mu:Mut (H x))(he:e=x\/H e=some (.own x))(k: ∀b u,b≠e->s.heap.get? b=some u->h'.get? b=some u)(eO: ∃u,h'.get? e=some u)(new:qaE X.prog X.w (upd H x o) h' x o):Inv X O Z (upd H x o) { s with heap:=h',toks:=t' }:=I.un (Un.write mu he k eO) (I.hok.write mu he k eO new)
theorem Inv.pins_of(I:Inv X O Z H s)(h: ∀p∈aZ,s.heap.get? p.1=some p.2/\H p.1=none/\p.1≠X.env.locals/\p.1∉X.fs/\∀v,p.2.data≠.cell v):Inv X aZ Z H s:=
 ⟨I.ok,I.os,I.bare,I.base,I.loc,I.cell,I.free,I.freeC,λp hp=>(List.mem_append.mp hp).elim (λz=>I.pin p (Vr _ z)) (h p),I.hok,I.len⟩
theorem qd6{N:List Str}(hN:N.Nodup){i j:Nat}{x:Str}(a:N[i]? =some x)(b:N[j]? =some x):i=j:=by obtain⟨h1,e1⟩:=List.getElem?_eq_some_iff.mp a;obtain⟨h2,e2⟩:=List.getElem?_eq_some_iff.mp b;exact(List.getElem_inj hN).mp (e1.trans e2.symm)
theorem qeC{X:Cx}{Z:List (Option V)}{s:Shared}{i:Nat}{x:Str}(I:Inv X O Z H s)(hN:X.N.Nodup)(hi:X.N[i]? =some x)(hx:Loc X.env.scope x)(r:RelV v u)(h: ∀s',Inv X O (Z.set i (some v)) H s'->(∃a,Heap.SameBut a s.heap s'.heap/\(a=X.env.locals\/X.env.cells.lookup x=some a))->Q () s')(hf:X.fn x=true\/X.env.scope.names.lookup x=some .local:=by first|exact .inl rfl|exact .inr rfl|assumption):wpAny M A (storeName X.env x u) Q E s:=by
 obtain⟨m,hn,hl⟩:=id I.loc;have d7:(X.env.scope.kind== .class||(X.env.scope.kind== .module&&X.env.locals != X.env.globals))=false:=by rw[I.ok.kind];rfl
 have cF:i<Z.length:=by rw[I.len];exact(List.getElem?_eq_some_iff.mp hi).1
 have cne:=I.cne;have tracked: ∀{a:Addr}{h':Heap},(∃o,s.heap.get? a=some o/\H a=none)->Heap.SameBut a s.heap h'->HOk X.prog X.w H h':=λ{a h'} ha hs b ob e=>by
  obtain⟨_,_,ag⟩:=ha;refine(I.hok b ob e).stay (λc w' hc q=>(hs.2 c ?_).trans q) (λ_ q=>q) λ_ _ q=>q;rintro rfl
  rcases hc with rfl|hc
  ·rw[ag] at e;cases e
  ·rw[ag] at hc;cases hc
 rcases hx with hk|hk
 ·refine wpAny_storeName_local hk hn (λh' il hs=> ?_) d7;obtain⟨oL,_,_,hoL,_⟩:=id hn;refine h _ ⟨I.ok,I.os,I.bare,⟨λb o e n hb hx=> ?_,λb o e n hb hx=> ?_,I.base.free,λb o e hx=> ?_,I.base.tups,I.base.frzs,I.base.tbls⟩,⟨_,il,λj y v' e1 e2 e3=> ?_⟩,λy c e=> ?_,I.free,I.freeC,λp hp=> ?_,tracked ⟨oL,hoL,I.free⟩ hs,by simpa using I.len⟩ ⟨_,hs,.inl rfl⟩
  ·exact(hs.2 b (Vn (Vm (Vi e) I.ok.above))).trans (I.base.keep b o e n hb hx)
  ·obtain⟨sl,e1⟩:=I.base.slot b o e n hb hx;exact⟨sl,(hs.2 b (Vn (Vm (Vi e) I.ok.above))).trans e1⟩
  ·obtain⟨o',e1⟩:=I.base.there b o e hx;exact⟨o',(hs.2 b (Vn (Vm (Vi e) I.ok.above))).trans e1⟩
  ·by_cases hj:j=i
   ·subst hj;rw[hi] at e1;cases e1;rw[List.getElem?_set_self cF] at e2;cases e2;exact⟨u,r,.inl ⟨hk,by simp⟩⟩
   ·rw[List.getElem?_set_ne (Ne.symm hj)] at e2;obtain⟨u',r',q⟩:=hl j y v' e1 e2 e3;refine⟨u',r',?_⟩
    rcases q with⟨k,e⟩|⟨k,c,e,z⟩
    ·refine .inl ⟨k,?_⟩;have:y≠x:=λe=>hj (qd6 hN e1 (e▸hi));simp[this,e]
    ·exact .inr ⟨k,c,e,z.sameBut hs (cne y c e)⟩
  ·obtain⟨w',z⟩:=I.cell y c e;exact⟨w',z.sameBut hs (cne y c e)⟩
  ·obtain⟨e,n,ne,nf,d⟩:=I.pin p hp;exact⟨(hs.2 p.1 ne).trans e,n,ne,nf,d⟩
 ·have dW:X.fn x=true:=by
   rcases hf with z|z
   ·exact z
   ·rw[z] at hk;cases hk
  obtain⟨c,hc⟩:=I.ok.has x (.inl hk);obtain⟨w',z⟩:=I.cell x c hc;refine wpAny_storeName_cell I.ok.kind hk hc z (λh' b9 hs=> ?_);obtain⟨oc,eM,ig⟩:=id z;refine h { s with heap:=h' } ⟨I.ok,I.os,I.bare,⟨λb o e n hb hx=> ?_,λb o e n hb hx=> ?_,I.base.free,λb o e hx=> ?_,I.base.tups,I.base.frzs,I.base.tbls⟩,⟨m,hn.sameBut hs (Ne.symm (cne x c hc)),λj y v' e1 e2 e3=> ?_⟩,λy c' e=> ?_,I.free,I.freeC,λp hp=> ?_,tracked ⟨oc,eM,I.freeC x c hc⟩ hs,by simpa using I.len⟩ ⟨c,hs,.inr hc⟩
  ·exact(hs.2 b (Vn (Vm (Vi e) (I.ok.cab x c dW hc)))).trans (I.base.keep b o e n hb hx)
  ·obtain⟨sl,e1⟩:=I.base.slot b o e n hb hx;exact⟨sl,(hs.2 b (Vn (Vm (Vi e) (I.ok.cab x c dW hc)))).trans e1⟩
  ·obtain⟨o',e1⟩:=I.base.there b o e hx;exact⟨o',(hs.2 b (Vn (Vm (Vi e) (I.ok.cab x c dW hc)))).trans e1⟩
  ·by_cases hj:j=i
   ·subst hj;rw[hi] at e1;cases e1;rw[List.getElem?_set_self cF] at e2;cases e2;exact⟨u,r,.inr ⟨.inl hk,c,hc,b9⟩⟩
   ·rw[List.getElem?_set_ne (Ne.symm hj)] at e2;obtain⟨u',r',q⟩:=hl j y v' e1 e2 e3;refine⟨u',r',?_⟩
    rcases q with q|⟨k,c',e,z'⟩
    ·exact .inl q
    ·refine .inr ⟨k,c',e,z'.sameBut hs ?_⟩;rintro rfl;exact hj (qd6 hN e1 (I.ok.inj _ _ _ e hc▸hi))
  ·by_cases cT:c'=c
   ·subst cT;exact⟨_,b9⟩
   ·obtain⟨w2,z2⟩:=I.cell y c' e;exact⟨w2,z2.sameBut hs cT⟩
  ·obtain⟨e,n,ne,nf,d⟩:=I.pin p hp;refine⟨(hs.2 p.1 ?_).trans e,n,ne,nf,d⟩;intro q;rw[q,eM] at e;have q':oc=p.2:=Option.some.inj e;exact d w' (by rw[<-q'];exact ig)
theorem qdS{X:Cx}{O:List (Addr×Obj)}{Z:List (Option V)}{H:Hp}{s:Shared}{M:Model}{A:Around}{E:Value->Shared->Prop}{i:Nat}{x:Str}{v:V}{u:Value}{Q:Unit->Shared->Prop}(I:Inv X O Z H s)(hN:X.N.Nodup)(hi:X.N[i]? =some x)(hx:Loc X.env.scope x)(r:RelV v u)(h: ∀s',Inv X O (Z.set i (some v)) H s'->Q () s')(hf:X.fn x=true\/X.env.scope.names.lookup x=some .local:=by first|exact .inl rfl|exact .inr rfl|assumption):wpAny M A (storeName X.env x u) Q E s:=
 qeC I hN hi hx r (λs' I' _=>h s' I') hf
theorem Inv.call'(I:Inv X O Z H s)(ho:s'.os=s.os)(u:Un (frs X.stack) ch H H' s.heap s'.heap)(hok:HOk X.prog X.w H' s'.heap)(hg:AllBare s'.gens)(aP: ∀b∈ch,(b∈X.ex\/X.s₀.heap.objs.size<=b)/\b≠X.env.locals/\(∀x c,X.env.cells.lookup x=some c->c≠b)/\∀p∈X.pn++O,p.1≠b):Inv X O Z H' s':=by obtain⟨h',g',d',t',o'⟩:=s';have e:=ho;subst e;exact I.call u hok hg aP
end
abbrev XK:=Value->Option Addr->Hp->Prop
abbrev St:=List (Option V)
abbrev VK:=V->Hp->Prop
abbrev TE:=St->Hp->VK->Prop
abbrev TT:=St->Hp->(Bool->Hp->Prop)->Prop
abbrev TA:=St->Hp->(List V->Hp->Prop)->Prop
structure qqM where
 nx:St->Hp->Prop
 rt:VK
 bk:St->Hp->Prop:=λ_ _=>False
 ct:St->Hp->Prop:=λ_ _=>False
abbrev TS:=qqM->St->Hp->Prop
noncomputable def EP(X:Cx)(O:List (Addr×Obj))(Z:St)(Q:VK)(u:Value)(s':Shared):Prop:= ∃v H',Inv X O Z H' s'/\RelV v u/\Q v H'
noncomputable def TP(X:Cx)(O:List (Addr×Obj))(Z:St)(Q:Bool->Hp->Prop)(b:Bool)(s':Shared):Prop:= ∃H',Inv X O Z H' s'/\Q b H'
noncomputable def AP(X:Cx)(O:List (Addr×Obj))(Z:St)(Q:List V->Hp->Prop)(us:List Value)(s':Shared):Prop:= ∃vs H',Inv X O Z H' s'/\qav vs us/\Q vs H'
noncomputable def SP(X:Cx)(O:List (Addr×Obj))(D:qqM)(f:Flow)(s':Shared):Prop:=
 match f with
 |.next=> ∃ae H',Inv X O ae H' s'/\D.nx ae H'
 |.brk=> ∃ae H',Inv X O ae H' s'/\D.bk ae H'
 |.cont=> ∃ae H',Inv X O ae H' s'/\D.ct ae H'
 |.ret u=> ∃v ae H',Inv X O ae H' s'/\RelV v u/\D.rt v H'
noncomputable def PE(X:Cx)(e:Expr)(t:TE):Prop:=
 ∀(O:List (Addr×Obj))(s:Shared)(Z:St)(H:Hp)(Q:VK),Inv X O Z H s->t Z H Q->wpAny (model X.prog X.w) X.A (eval e X.env) (EP X O Z Q) X.xe s
noncomputable def PT(X:Cx)(e:Expr)(t:TT):Prop:=
 ∀(O:List (Addr×Obj))(s:Shared)(Z:St)(H:Hp)(Q:Bool->Hp->Prop),Inv X O Z H s->t Z H Q->wpAny (model X.prog X.w) X.A (isTrue e X.env (eval e X.env)) (TP X O Z Q) X.xe s
noncomputable def PW(X:Cx)(e:Expr)(t:TT):Prop:=
 ∀(whole:Sem Value)(O:List (Addr×Obj))(s:Shared)(Z:St)(H:Hp)(Q:Bool->Hp->Prop),Inv X O Z H s->t Z H Q->wpAny (model X.prog X.w) X.A (isTrue e X.env whole) (TP X O Z Q) X.xe s
theorem PW.pt{X:Cx}{e:Expr}{t:TT}(h:PW X e t):PT X e t:=h _
noncomputable def PA(X:Cx)(es:List Expr)(t:TA):Prop:=
 ∀(pos:Pos)(O:List (Addr×Obj))(s:Shared)(Z:St)(H:Hp)(Q:List V->Hp->Prop),Inv X O Z H s->t Z H Q->wpAny (model X.prog X.w) X.A (spliced (backTo pos (starEach es X.env))) (AP X O Z Q) X.xe s
noncomputable def PS(X:Cx)(st:Stmt)(t:TS):Prop:=
 ∀(O:List (Addr×Obj))(s:Shared)(Z:St)(H:Hp)(D:qqM),Inv X O Z H s->t D Z H->wpAny (model X.prog X.w) X.A (exec st X.env) (SP X O D) X.xe s
noncomputable def PSs(X:Cx)(st:List Stmt)(t:TS):Prop:=
 ∀(O:List (Addr×Obj))(s:Shared)(Z:St)(H:Hp)(D:qqM),Inv X O Z H s->t D Z H->wpAny (model X.prog X.w) X.A (execs st X.env) (SP X O D) X.xe s
theorem thn{α:Type}{t:Sem α}{Q Q':α->Shared->Prop}{M:Model}{A:Around}{E:Value->Shared->Prop}{s:Shared}(h:wpAny M A t Q E s)(hQ: ∀a s,Q a s->Q' a s):wpAny M A t Q' E s:=Vc h hQ λ_ _ x=>x
section
variable{X:Cx}
theorem bin{a b:Expr}{ta tb:TE}(ha:PE X a ta)(hb:PE X b tb){O:List (Addr×Obj)}{s:Shared}{Z:St}{H:Hp}{R:V->V->Hp->Prop}(I:Inv X O Z H s)(h:ta Z H λx H1=>tb Z H1 λy H2=>R x y H2){α:Type}{Q:α->Shared->Prop}{f:Value->Value->Sem α}(hf: ∀v u s2 x y H2,Inv X O Z H2 s2->RelV x v->RelV y u->R x y H2->wpAny (model X.prog X.w) X.A (f v u) Q X.xe s2):
  wpAny (model X.prog X.w) X.A (eval a X.env) (λv aa=>wpAny (model X.prog X.w) X.A (eval b X.env) (λu bj=>wpAny (model X.prog X.w) X.A (f v u) Q X.xe bj) X.xe aa) X.xe s:=by refine thn (ha _ s Z H _ I h) λv s1 ⟨x,H1,I1,r1,q1⟩=> ?_;refine thn (hb _ s1 Z H1 _ I1 q1) λu s2 ⟨y,H2,I2,r2,q2⟩=> ?_;exact hf v u s2 x y H2 I2 r1 r2 q2
noncomputable def qqw(i:Nat):TE:=λZ H Q=> ∃v,Z[i]? =some (some v)/\Q v H
noncomputable def tC(v:V):TE:=λ_ H Q=>Q v H
theorem qg0{x:Str}(hN:X.N[i]? =some x)(hv:Vis X.env.scope x)(hd:(x==("__debug__" :Str))=false:=by decide)(aI:(x==("__classdict__" :Str))=false:=by decide):PE X (.Name x pos) (qqw i):=by
 intro O s Z H Q I h;obtain⟨v,e,h⟩:=h;obtain⟨m,hn,hl⟩:=I.loc;obtain⟨u,r,l⟩:=hl i x v hN e hv;have fin:EP X O Z Q u s:=⟨v,H,I,r,h⟩
 rcases l with⟨hk,hm⟩|⟨hk,c,hc,ah⟩
 ·exact wpAny_Name (wpAny_loadName_local I.ok.kind hk hn hm fin) hd
 ·rcases hk with hk|hk
  ·exact wpAny_Name (wpAny_loadName_cell I.ok.kind hk hc ah fin) hd
  ·exact wpAny_Name (wpAny_loadName_free I.ok.kind hk hc ah fin aI) hd
theorem qnj{i j pos}:PE X (.Constant (.int i) j pos) (tC (.int i)):=λ_ _ _ H _ I h=>wpAny_Constant_int ⟨.int i,H,I.tok _,⟨_,rfl⟩,h⟩
theorem qoI{b j pos}:PE X (.Constant (.bool b) j pos) (tC (.bl b)):=λ_ _ _ H _ I h=>Constant_bool ⟨.bl b,H,I,rfl,h⟩
theorem qrH{j pos}:PE X (.Constant .none j pos) (tC .non):=λ_ _ _ H _ I h=>Constant_none ⟨.non,H,I,rfl,h⟩
theorem qg1{x j pos}:PE X (.Constant (.str x) j pos) (tC (.str x)):=λ_ _ _ H _ I h=>Calls.Constant_str ⟨.str x,H,I.tok _,⟨_,rfl⟩,h⟩
noncomputable def Gl(X:Cx)(x:Str):Prop:=X.env.kindOf x=some .globalImplicit
theorem qbg{x:Str}(I:Inv X O Z H s)(hg:Gl X x)(hm:X.mg x=some u)(h:Q u s)(hd:(x==("__debug__" :Str))=false:=by decide):wpAny (model X.prog X.w) X.A (eval (.Name x pos) X.env) Q E s:=
 Calls.Name_function_global I.ok.kind hg (Calls.loadGlobal_global (by rw[I.ok.glob];exact I.mod.glob.keeps I.bk) hm h) hd
theorem qdz{E:Value->Shared->Prop}{O:List (Addr×Obj)}{s:Shared}{Z:St}{H:Hp}{x:Str}{u:Value}{pos:Pos}{Q:Value->Shared->Prop}(I:Inv X O Z H s)(hg:Gl X x)(hm:X.mg x=none)(hv:bootBuiltins x=some u)(h:Q u s)(hn:x≠ "__name__" :=by decide)(hd:(x==("__debug__" :Str))=false:=by decide):wpAny (model X.prog X.w) X.A (eval (.Name x pos) X.env) Q E s:=by obtain⟨mb,h1,h2⟩:=I.mod.blt;exact Calls.Name_function_global I.ok.kind hg (Calls.loadGlobal_builtin (by rw[I.ok.glob];exact I.mod.glob.keeps I.bk) hm (by rw[I.ok.blt];exact h1.keeps I.bk) ((h2 x hn).trans hv) h) hd
theorem qb9{x:Str}(hg:Gl X x)(hm:X.mg x=some u)(r:RelV v u)(hd:(x==("__debug__" :Str))=false:=by decide):PE X (.Name x pos) (tC v):=
 λ_ _ _ H _ I h=>qbg I hg hm ⟨v,H,I,r,h⟩ hd
theorem qi6{x:Str}{v:V}{u:Value}{pos:Pos}(hg:Gl X x)(hm:X.mg x=none)(hv:bootBuiltins x=some u)(r:RelV v u)(hn:x≠ "__name__" :=by decide)(hd:(x==("__debug__" :Str))=false:=by decide):PE X (.Name x pos) (tC v):=
 λ_ _ _ H _ I h=>qdz I hg hm hv ⟨v,H,I,r,h⟩ hn hd
variable{a b:Expr}{ta tb:TE}{pos:Pos}
noncomputable def PC(X:Cx)(op:CmpOp)(a b:Expr)(t:TE):Prop:=
 ∀(O:List (Addr×Obj))(s:Shared)(Z:St)(H:Hp)(Q:VK),Inv X O Z H s->t Z H Q->
  wpAny (model X.prog X.w) X.A (eval a X.env) (λv aa=>wpAny (model X.prog X.w) X.A (eval b X.env) (λu bj=>wpAny (model X.prog X.w) X.A (compareOp op v u) (EP X O Z Q) X.xe bj) X.xe aa) X.xe s
noncomputable def tB(t:TE):TT:=λZ H Q=>t Z H λx H1=> ∃c,x= .bl c/\Q c H1
theorem qwF{op:CmpOp}{t:TE}(h:PC X op a b t)(h1:behindInMarks op b=false:=by first|exact nobehind _ (by decide) (by decide)|rfl):PT X (.Compare a [op] [b] pos) (tB t):=by intro O s Z H Q I hw;refine wpAny_isTrue_Compare1 (thn (h _ s Z H _ I hw) λv s1 h1=>thn h1 λu s2 h2=>thn h2 λc s3 ⟨x,H1,I1,r1,q1⟩=> ?_) h1;obtain⟨d,rfl,q⟩:=q1;cases r1;exact Vd ⟨H1,I1,q⟩
theorem qnh{e:Expr}{t:TE}(h:PE X e t)(he: ∀whole,isTrue e X.env whole=(do let v <-whole;standAt e.pos;holding [v] (truthy v)):=by intro _;rfl):PT X e (tB t):=by intro O s Z H Q I hw;refine isTrue_plain (thn (h _ s Z H _ I hw) λv s1 ⟨x,H1,I1,r1,q1⟩=> ?_) (he _);obtain⟨d,rfl,q⟩:=q1;cases r1;exact Vd ⟨H1,I1,q⟩
variable{tA gh:TT}{qbP:List Expr}
noncomputable def qxn(t u:TT):TT:=λZ H Q=>t Z H λc H1=>if c=true then u Z H1 Q else Q false H1
noncomputable def tOr(t u:TT):TT:=λZ H Q=>t Z H λc H1=>if c=true then Q true H1 else u Z H1 Q
noncomputable def qxi(t:TT):TT:=λZ H Q=>t Z H λc H1=>Q (!c) H1
theorem qor(ha:PT X a tA):PW X (.BoolOp .And [a] pos) tA:=by
 intro wh O s Z H Q I h;refine isTrue_and (thn (ha _ s Z H Q I h) λc s1 e=> ?_);cases c with
 |true=>exact isTrue_and_nil e
 |false=>exact e
theorem qnf(ha:PT X a tA):PW X (.BoolOp .Or [a] pos) tA:=by
 intro wh O s Z H Q I h;refine isTrue_or (thn (ha _ s Z H Q I h) λc s1 e=> ?_);cases c with
 |false=>exact isTrue_or_nil e
 |true=>exact e
theorem qrr(ha:PT X a tA)(hb:PW X (.BoolOp .And (b::qbP) pos) gh):PW X (.BoolOp .And (a::b::qbP) pos) (qxn tA gh):=by
 intro wh O s Z H Q I h;refine isTrue_and (thn (ha _ s Z H _ I h) λc s1 ⟨H1,I1,q1⟩=> ?_);cases c with
 |true=>exact hb wh _ s1 Z H1 Q I1 q1
 |false=>exact⟨H1,I1,q1⟩
theorem qrq(ha:PT X a tA)(hb:PW X (.BoolOp .Or (b::qbP) pos) gh):PW X (.BoolOp .Or (a::b::qbP) pos) (tOr tA gh):=by
 intro wh O s Z H Q I h;refine isTrue_or (thn (ha _ s Z H _ I h) λc s1 ⟨H1,I1,q1⟩=> ?_);cases c with
 |true=>exact⟨H1,I1,q1⟩
 |false=>exact hb wh _ s1 Z H1 Q I1 q1
theorem qni(ha:PT X a tA):PT X (.UnaryOp .Not a pos) (qxi tA):=by intro O s Z H Q I h;exact isTrue_not (ha _ s Z H _ I h)
noncomputable def qup(ta tb:TE):TE:=λZ H Q=>ta Z H λx H1=> ∃c,x= .bl c/\if c=true then tb Z H1 Q else Q (.bl false) H1
noncomputable def qxh(ta tb:TE):TE:=λZ H Q=>ta Z H λx H1=> ∃c,x= .bl c/\if c=true then Q (.bl true) H1 else tb Z H1 Q
noncomputable def qum(ta:TE):TE:=λZ H Q=>ta Z H λx H1=> ∃c,x= .bl c/\Q (.bl (!c)) H1
theorem qrL(ha:PE X a ta)(hb:PE X (.BoolOp .And (b::qbP) pos) tb):PE X (.BoolOp .And (a::b::qbP) pos) (qup ta tb):=by
 intro O s Z H Q I h;refine BoolOp_and (thn (ha _ s Z H _ I h) λv s1 ⟨x,H1,I1,r1,q1⟩=> ?_);obtain⟨c,rfl,q1⟩:=q1;cases r1;refine Vd ?_;cases c with
 |true=>exact hb _ s1 Z H1 Q I1 q1
 |false=>exact⟨.bl _,H1,I1,rfl,q1⟩
theorem quW(ha:PE X a ta)(hb:PE X (.BoolOp .Or (b::qbP) pos) tb):PE X (.BoolOp .Or (a::b::qbP) pos) (qxh ta tb):=by
 intro O s Z H Q I h;refine BoolOp_or (thn (ha _ s Z H _ I h) λv s1 ⟨x,H1,I1,r1,q1⟩=> ?_);obtain⟨c,rfl,q1⟩:=q1;cases r1;refine Vd ?_;cases c with
 |false=>exact hb _ s1 Z H1 Q I1 q1
 |true=>exact⟨.bl _,H1,I1,rfl,q1⟩
theorem qrG(ha:PE X a ta):PE X (.UnaryOp .Not a pos) (qum ta):=by intro O s Z H Q I h;refine UnaryOp_ (thn (ha _ s Z H _ I h) λv s1 ⟨x,H1,I1,r1,q1⟩=> ?_);obtain⟨c,rfl,q1⟩:=q1;cases r1;exact not_of (Vd ⟨.bl _,H1,I1,rfl,q1⟩)
noncomputable def tIf(t:TT)(ta tb:TE):TE:=λZ H Q=>t Z H λc H1=>if c=true then ta Z H1 Q else tb Z H1 Q
theorem qlw{c:Expr}(hc:PT X c tA)(ha:PE X a ta)(hb:PE X b tb):PE X (.IfExp c a b pos) (tIf tA ta tb):=by
 intro O s Z H Q I h;refine wpAny_IfExp (thn (hc _ s Z H _ I h) λd s1 ⟨H1,I1,q1⟩=> ?_);cases d with
 |true=>exact ha _ s1 Z H1 Q I1 q1
 |false=>exact hb _ s1 Z H1 Q I1 q1
end
noncomputable def SqL(K:W.Frag)(H:Hp)(a:Addr)(xs:List V):Prop:=
 Rd H a (.lst xs)\/
  ∃(o:Obj)(its:Array Value)(n:Nat),K.lookup a=some o/\o.cls= .type "list" /\o.dict=none/\o.data= .seq its n/\its.size<=sizeLine/\qav xs its.toList
noncomputable def SqT(K:W.Frag)(H:Hp)(a:Addr)(xs:List V):Prop:=
 Rd H a (.tup xs)\/
  ∃(o:Obj)(its:Array Value)(n:Nat),K.lookup a=some o/\o.cls= .type "tuple" /\o.data= .seq its n/\its.size<=sizeLine/\qav xs its.toList
noncomputable def qx8:Value->Option V
 |.none=>some .non
 |.bool b=>some (.bl b)
 |.int i _=>some (.int i)
 |.str x _=>some (.str x)
 |.bytes b _=>some (.byt b)
 |.float b _=>some (.flt b)
 |.ref a=>some (.ref a)
 |.type n=>some (.ty n)
 |_=>none
theorem RelV.abs(r:RelV x u):qx8 u=some x:=by
 cases x with
 |non|bl _=>cases r;rfl
 |int _|str _|byt _|flt _=>obtain⟨t,rfl⟩:=r;rfl
 |ref _|ty _=>cases r;rfl
theorem RelV.inj(r:RelV x u)(q:RelV y u):x=y:=Option.some.inj (r.abs.symm.trans q.abs)
theorem qav.inj: ∀{xs ys:List V}{us:List Value},qav xs us->qav ys us->xs=ys
 |_,_,_,.nil,.nil=>rfl
 |_,_,_,.cons r t,.cons r' t'=>by rw[r.inj r',qav.inj t t']
section
theorem SqL.of{H:Hp}{a:Addr}{xs:List V}{K:W.Frag}(h:H a=some (.lst xs)):SqL K H a xs:=.inl (.inl h)
theorem SqT.of{H:Hp}{a:Addr}{xs:List V}{K:W.Frag}(h:H a=some (.tup xs)):SqT K H a xs:=.inl (.inl h)
theorem Inv.list(I:Inv X O Z H s)(h:SqL X.K H a xs): ∃its:List Value,qav xs its/\PlainL s.heap a its.toArray/\xs.length<=sizeLine:=by
 rcases h with h|⟨o,its,n,hk,hc,hd,hs,hz,r⟩
 ·obtain⟨z,its,n,r,e⟩:=h.ok I.hok;exact⟨its,r,⟨_,n,e,rfl,rfl,rfl⟩,z⟩
 ·refine⟨its.toList,r,⟨o,n,I.kIn a o hk,hc,hd,by simpa using hs⟩,?_⟩;have e:=r.length
  grind
theorem Inv.tuple(I:Inv X O Z H s)(h:SqT X.K H a xs): ∃its:List Value,qav xs its/\IsTup s.heap a its.toArray/\xs.length<=sizeLine:=by
 rcases h with h|⟨o,its,n,hk,hc,hs,hz,r⟩
 ·obtain⟨z,its,r,p⟩:=h.ok I.hok;exact⟨its,r,p,z⟩
 ·refine⟨its.toList,r,⟨o,I.kIn a o hk,hc,n,by simpa using hs⟩,?_⟩;have e:=r.length
  simp_all
theorem Inv.list_inj(I:Inv X O Z H s)(h:SqL X.K H a xs)(h':SqL X.K H a ys):xs=ys:=by
 obtain⟨its,r,⟨o,n,e,_,_,d⟩,_⟩:=I.list h;obtain⟨aK,r',⟨o',n',e',_,_,d'⟩,_⟩:=I.list h';rw[e] at e';have:its=aK:=by grind
 subst this;exact r.inj r'
theorem Inv.tuple_inj(I:Inv X O Z H s)(h:SqT X.K H a xs)(h':SqT X.K H a ys):xs=ys:=by
 obtain⟨its,r,⟨o,e,_,n,d⟩,_⟩:=I.tuple h;obtain⟨aK,r',⟨o',e',_,n',d'⟩,_⟩:=I.tuple h';rw[e] at e';have:its=aK:=by grind
 subst this;exact r.inj r'
end
abbrev Cx.wish(X:Cx)(E:Value->Shared->Prop):Cx:={ X with xe:=E }
abbrev Cx.nox(X:Cx):Cx:=X.wish λ_ _=>False
theorem Cx.Ok.wish{X:Cx}(ok:X.Ok)(E:Value->Shared->Prop):(X.wish E).Ok:=
 ⟨ok.mod,ok.kind,ok.glob,ok.blt,ok.above,ok.inj,ok.has,ok.cab,ok.hd,ok.frames,ok.stk,ok.exf,ok.bs,ok.bsz,ok.noex,ok.exfs,ok.funs,ok.frf⟩
theorem Cx.Ok.unwish{X:Cx}(ok:(X.wish E).Ok):X.Ok:=
 ⟨ok.mod,ok.kind,ok.glob,ok.blt,ok.above,ok.inj,ok.has,ok.cab,ok.hd,ok.frames,ok.stk,ok.exf,ok.bs,ok.bsz,ok.noex,ok.exfs,ok.funs,ok.frf⟩
section
theorem Inv.wish{X:Cx}(I:Inv X O Z H s)(E:Value->Shared->Prop):Inv (X.wish E) O Z H s:=⟨I.ok.wish E,I.os,I.bare,I.base,I.loc,I.cell,I.free,I.freeC,I.pin,I.hok,I.len⟩
theorem Inv.unwish{X:Cx}(I:Inv (X.wish E) O Z H s):Inv X O Z H s:=⟨I.ok.unwish,I.os,I.bare,I.base,I.loc,I.cell,I.free,I.freeC,I.pin,I.hok,I.len⟩
theorem SP.unwish(h:SP (X.wish E) O D f s'):SP X O D f s':=by
 cases f with
 |next|brk|cont=>obtain⟨ae,H',I,q⟩:=h;exact⟨ae,H',I.unwish,q⟩
 |ret u=>obtain⟨v,ae,H',I,r,q⟩:=h;exact⟨v,ae,H',I.unwish,r,q⟩
theorem PSs.nox{X:Cx}{st:List Stmt}{t:TS}(h:PSs X.nox st t):PSs X st t:=λO s Z H D I hw=>
 Vc (h _ s Z H D (I.wish _) hw) (λ_ _ q=>q.unwish) λ_ _ z=>False.elim z
end
section
variable{X:Cx}{st:Stmt}{qbP:List Stmt}{t u:TS}{e:Expr}{te:TE}{pos:Pos}
noncomputable def qn5:TS:=λD Z H=>D.nx Z H
noncomputable def qwo(t u:TS):TS:=λD Z H=>t { D with nx:=u D } Z H
theorem qi0:PSs X [] qn5:=λ_ _ Z H _ I h=>wpAny_execs_nil ⟨Z,H,I,h⟩
theorem qbD(h1:PS X st t)(h2:PSs X qbP u):PSs X (st::qbP) (qwo t u):=by
 intro O s Z H D I h;refine wpAny_execs_cons (thn (h1 _ s Z H _ I h) λf s1 q=> ?_);cases f with
 |next=>obtain⟨ae,H',I',q⟩:=q;exact h2 _ s1 ae H' D I' q
 |ret v|brk|cont=>exact q
theorem qcQ(h1:PS X st t):PSs X [st] t:=by
 intro O s Z H D I h;refine wpAny_execs_cons (thn (h1 _ s Z H D I h) λf s1 q=> ?_);cases f with
 |next=>exact wpAny_execs_nil q
 |ret v|brk|cont=>exact q
noncomputable def qq1:TS:=λD Z H=>D.bk Z H
noncomputable def quo:TS:=λD Z H=>D.ct Z H
theorem qou:PS X (.Pass pos) qn5:=λ_ _ Z H _ I h=>wpAny_Pass ⟨Z,H,I,h⟩
theorem qlo:PS X (.Break pos) qq1:=λ_ _ Z H _ I h=>wpAny_Break ⟨Z,H,I,h⟩
theorem qfP:PS X (.Continue pos) quo:=λ_ _ Z H _ I h=>wpAny_Continue ⟨Z,H,I,h⟩
theorem Inv.quiet(I:Inv X O Z H s):interactive X.env=false:=by simp[interactive,I.ok.kind]
theorem qrz{x j pos pos'}:PS X (.Expr (.Constant (.str x) j pos) pos') qn5:=λ_ s Z H _ I h=>wpAny_Expr (Calls.Constant_str (⟨Z,H,I.tok _,h⟩)) I.quiet
noncomputable def qun(te:TE):TS:=λD Z H=>te Z H λ_ H1=>D.nx Z H1
theorem qov(he:PE X e te)(hs:swapsWith e none pos.line X.env=pure false:=by rfl):PS X (.Expr e pos) (qun te):=by intro O s Z H D I h;exact wpAny_Expr_any (thn (he _ s Z H _ I h) λv s1 ⟨x,H1,I1,r1,q1⟩=>⟨Z,H1,I1,q1⟩) I.quiet hs
noncomputable def qxg(te:TE):TS:=λD Z H=>te Z H D.rt
theorem qeR(he:PE X e te):PS X (.Return (some e) pos) (qxg te):=by intro O s Z H D I h;exact wpAny_Return_some (thn (he _ s Z H _ I h) λv s1 ⟨x,H1,I1,r1,q1⟩=>⟨x,Z,H1,I1,r1,q1⟩)
noncomputable def quk:TS:=λD _ H=>D.rt .non H
theorem qot:PS X (.Return none pos) quk:=λ_ _ Z H _ I h=>wpAny_Return_none ⟨.non,Z,H,I,rfl,h⟩
noncomputable def qxk(c:TT)(t u:TS):TS:=λD Z H=>c Z H λb H1=>if b=true then t D Z H1 else u D Z H1
theorem qrw{c:Expr}{a b:List Stmt}{tc:TT}(hc:PT X c tc)(ha:PSs X a t)(hb:PSs X b u):PS X (.If c a b pos) (qxk tc t u):=by
 intro O s Z H D I h;refine wpAny_If (thn (hc _ s Z H _ I h) λd s1 ⟨H1,I1,q1⟩=> ?_);cases d with
 |true=>exact ha _ s1 Z H1 D I1 q1
 |false=>exact hb _ s1 Z H1 D I1 q1
end
abbrev TG:=V->St->Hp->(St->Hp->Prop)->Prop
abbrev TGs:=List V->St->Hp->(St->Hp->Prop)->Prop
noncomputable def PG(X:Cx)(target:Expr)(t:TG):Prop:=
 ∀(O:List (Addr×Obj))(s:Shared)(Z:St)(H:Hp)(v:V)(u:Value)(Q:St->Hp->Prop),Inv X O Z H s->RelV v u->t v Z H Q->
  wpAny (model X.prog X.w) X.A (assign target X.env u) (λ_ s'=> ∃ae H',Inv X O ae H' s'/\Q ae H') X.xe s
noncomputable def PGs(X:Cx)(ts:List Expr)(t:TGs):Prop:=
 ∀(O:List (Addr×Obj))(s:Shared)(Z:St)(H:Hp)(vs:List V)(us:List Value)(Q:St->Hp->Prop),Inv X O Z H s->qav vs us->t vs Z H Q->
  wpAny (model X.prog X.w) X.A (assignInOrder ((assignEach ts X.env).map (·.2)) us) (λ_ s'=> ∃ae H',Inv X O ae H' s'/\Q ae H') X.xe s
abbrev qwh:=V->V->V->Hp->(Hp->Prop)->Prop
noncomputable def qwj(X:Cx)(t:qwh):Prop:=
 ∀(O:List (Addr×Obj))(s:Shared)(Z:St)(H:Hp)(o i v:V)(ov iv u:Value)(Q:Hp->Prop),Inv X O Z H s->RelV o ov->RelV i iv->RelV v u->t o i v H Q->
  wpAny (model X.prog X.w) X.A (setItem ov iv u) (λ_ s'=> ∃H',Inv X O Z H' s'/\Q H') X.xe s
section
variable{X:Cx}{pos:Pos}
noncomputable def qpr(i:Nat):TG:=λv Z H Q=>Q (Z.set i (some v)) H
theorem qoA{x:Str}(hN:X.N.Nodup)(hi:X.N[i]? =some x)(hx:Loc X.env.scope x)(hf:X.fn x=true\/X.env.scope.names.lookup x=some .local:=by first|exact .inl rfl|exact .inr rfl|assumption):PG X (.Name x pos) (qpr i):=by intro O s Z H v u Q I r h;exact wpAny_assign_Name (qdS I hN hi hx r (λs' I'=>⟨_,H,I',h⟩) hf)
noncomputable def qx0:TGs:=λvs Z H Q=>vs=[]/\Q Z H
noncomputable def qvH(t:TG)(u:TGs):TGs:=λvs Z H Q=> ∃v r,vs=v::r/\t v Z H λae H'=>u r ae H' Q
theorem qoz:PGs X [] qx0:=by intro O s Z H vs us Q I r h;obtain⟨e,h⟩:=h;subst e;exact assignInOrder_nil ⟨Z,H,I,h⟩
theorem qls{e:Expr}{es:List Expr}{t:TG}{u:TGs}(h1:PG X e t)(h2:PGs X es u)(hs:(assignEach (e::es) X.env).map (·.2)=assign e X.env::(assignEach es X.env).map (·.2):=by rfl):PGs X (e::es) (qvH t u):=by
 intro O s Z H vs us Q I r h;obtain⟨v,vr,e1,h⟩:=h;subst e1;cases r with
 |cons r rr=>rw[hs];refine assignInOrder_cons (thn (h1 _ s Z H _ _ _ I r h) λ_ s1 ⟨cK,H1,I1,q1⟩=> ?_);exact h2 _ s1 cK H1 _ _ Q I1 rr q1
noncomputable def qxX(K:W.Frag)(n:Nat)(t:TGs):TG:=λv Z H Q=> ∃a xs,v= .ref a/\SqT K H a xs/\xs.length=n/\t xs Z H Q
theorem qrE(hc:X.calm=true)(h:PGs X es t)(hn:(assignEach es X.env).length=n:=by rfl)(aF:(assignEach es X.env).findIdx? (·.1)=none:=by rfl):PG X (.Tuple es k pos) (qxX X.K n t):=by intro O s Z H v u Q I r hw;obtain⟨a,xs,e1,hq,hl,hw⟩:=hw;subst e1;cases r;obtain⟨its,rv,ht,hz⟩:=I.tuple hq;refine assign_Tuple_tuple (I.ok.hd hc) ht (by simp[hn,<-hl,rv.length]) aF λh' hx=> ?_;have I1:=I.kept (t':=s.toks) λb o e=>hx b o (Vn (Vi e)) e;exact h _ _ Z H xs _ Q I1 (by simpa using rv) hw
noncomputable def gSub(to ti:TE)(t:qwh):TG:=λv Z H Q=>to Z H λo H1=>ti Z H1 λi H2=>t o i v H2 λH3=>Q Z H3
noncomputable def qwr(te:TE)(g:TG):TS:=λD Z H=>te Z H λx H1=>g x Z H1 D.nx
theorem qrA{tg e:Expr}{te:TE}{g:TG}(he:PE X e te)(hg:PG X tg g)(hs:swapsWithSole [tg] e pos.line X.env=pure false:=by rfl)(hw:swappedStores [tg] e X.env=pure none:=by rfl)(h1:(assignEach [tg] X.env).map (·.2)=[assign tg X.env]:=by rfl):PS X (.Assign [tg] e pos) (qwr te g):=by intro O s Z H D I h;refine wpAny_Assign_stores (thn (he _ s Z H _ I h) λv s1 ⟨x,H1,I1,r1,q1⟩=> ?_) hs hw;rw[h1];exact thn (hg _ s1 Z H1 x v _ I1 r1 q1) λ_ s2 q=>q
theorem qeQ{i:Nat}{x:Str}{e:Expr}{te:TE}{pos':Pos}(hN:X.N.Nodup)(hi:X.N[i]? =some x)(hx:Loc X.env.scope x)(he:PE X e te)(hs:swapsWith e (some (.Name x pos')) pos.line X.env=pure false:=by rfl)(hf:X.fn x=true\/X.env.scope.names.lookup x=some .local:=by first | exact .inl rfl | exact .inr rfl | assumption):
  PS X (.Assign [.Name x pos'] e pos) (qwr te (qpr i)):=by intro O s Z H D I h;refine wpAny_Assign_Name (thn (he _ s Z H _ I h) λv s1 ⟨y,H1,I1,r1,q1⟩=> ?_) hs;exact qdS I1 hN hi hx r1 (λs2 I2=>⟨_,H1,I2,q1⟩) hf
end
structure It where
 go:Nat->Hp->Prop
 yld:Nat->Hp->V->Hp->Prop
 stop:Nat->Hp->Prop
noncomputable def qgD(X:Cx)(O:List (Addr×Obj))(H:Hp)(b:Addr):Prop:=
 H b=none/\b≠X.env.locals/\b∉X.fs/\(b∈X.ex\/X.s₀.heap.objs.size<=b)/\(∀x c,X.env.cells.lookup x=some c->c≠b)/\∀p∈X.pn++O,p.1≠b
theorem Inv.fpOk(I:Inv X O Z H s)(hb:s.heap.objs.size<=b)(hn:H' b=none):qgD X O H' b:=by
 refine⟨hn,Nat.ne_of_gt (Vm I.lt hb),I.nofs hb,.inr (Vp I.sz hb),λx c e z=> ?_,λp hp z=> ?_⟩
 ·obtain⟨v,q⟩:=I.cell x c e;exact absurd (Vm q.lt (by rw[z];exact hb)) (Nat.lt_irrefl _)
 ·exact absurd (Vm (Vi (I.pin p hp).1) (by rw[z];exact hb)) (Nat.lt_irrefl _)
structure qqs(P:Program)(w:World)(K:W.Frag)(tg:Expr)(J:It)(fp:List Addr)(it:Addr)(tn:Nat->Heap->Prop):Prop where
 mem:it∈fp
 obj: ∀i h,tn i h->∀b∈fp,∃o,h.get? b=some o/\∀v,o.data≠.cell v
 keep: ∀i h h',tn i h->(∀b∈fp,∀o,h.get? b=some o->h'.get? b=some o)->tn i h'
 item: ∀(X:Cx),X.prog=P->X.w=w->X.K=K->X.calm=true->∀(i:Nat)(O:List (Addr×Obj))(s:Shared)(Z:St)(H:Hp)(E:Value->Shared->Prop),Inv X O Z H s->(∀b∈fp,qgD X O H b)->tn i s.heap->J.go i H->
  wpAny (model P w) X.A (pyNext (.ref it)) (λr s1=> ∃u,r=some u/\
   wpAny (model P w) X.A (letOwnedTupleGo tg (.ref it) u) (λ_ s2=> ∃x H',Inv X O Z H' s2/\RelV x u/\J.yld i H x H'/\tn (i+1) s2.heap/\∀b∈fp,H' b=none) E s1) E s
 done: ∀(X:Cx),X.prog=P->X.w=w->X.K=K->X.calm=true->∀(i:Nat)(O:List (Addr×Obj))(s:Shared)(Z:St)(H:Hp)(E:Value->Shared->Prop),Inv X O Z H s->(∀b∈fp,qgD X O H b)->tn i s.heap->J.stop i H->
  wpAny (model P w) X.A (pyNext (.ref it)) (λr s1=>r=none/\Inv X O Z H s1) E s
 self: ∀(A:Around)(i:Nat)(s:Shared)(Q:Value->Shared->Prop)(E:Value->Shared->Prop),tn i s.heap->Q (.ref it) s->wpAny (model P w) A (pyIter (.ref it)) Q E s
abbrev TI:=St->Hp->(It->Hp->Prop)->Prop
noncomputable def PIE(X:Cx)(O:List (Addr×Obj))(Z:St)(tg:Expr)(R:It->Hp->Prop)(itv:Value)(s2:Shared):Prop:=
 ∃(it:Addr)(fp:List Addr)(tn:Nat->Heap->Prop)(J:It)(H':Hp),itv= .ref it/\Inv X O Z H' s2/\qqs X.prog X.w X.K tg J fp it tn/\tn 0 s2.heap/\(∀b∈fp,qgD X O H' b)/\R J H'
noncomputable def PI(X:Cx)(tg iter:Expr)(wi:TI):Prop:=
 ∀(O:List (Addr×Obj))(s:Shared)(Z:St)(H:Hp)(R:It->Hp->Prop),Inv X O Z H s->wi Z H R->
  wpAny (model X.prog X.w) X.A (eval iter X.env) (λv s1=>wpAny (model X.prog X.w) X.A (pyIter v) (PIE X O Z tg R) X.xe s1) X.xe s
theorem qjN{n:String}(ho:s.heap.get? it=some o)(hc:o.cls= .type n)(hd:o.data= .fields vs)(hn:["enumerate", "zip", "dict_itemiterator", "dict_reverseitemiterator", "odict_iterator", "itertools.zip_longest", "itertools.pairwise"].contains n=false)(hQ:Q () s):wpAny M A (letOwnedTupleGo tg (.ref it) u) Q E s:=by
 unfold letOwnedTupleGo
 cases tg<;>first
  |exact Vb hQ
  | (cases u<;>first
    |exact Vb hQ
    | (refine Va (wpAny_load ho ?_)
       rw[hc,hd];show wpAny M A (if(["enumerate", "zip", "dict_itemiterator", "dict_reverseitemiterator", "odict_iterator", "itertools.zip_longest", "itertools.pairwise"].contains n&&vs[0]? ==some (rawInt _))=true then _ else _) Q E s;rw[if_neg (by intro h;rw[hn,Bool.false_and] at h;cases h)];exact Vb hQ))
noncomputable def Itl(K:W.Frag)(a:Addr):It:=
 ⟨λi H=> ∃xs x,SqL K H a xs/\xs[i]? =some x,λi H x H'=>H'=H/\∀xs,SqL K H a xs->xs[i]? =some x,λi H=> ∃xs,SqL K H a xs/\xs.length<=i⟩
noncomputable def Itt(K:W.Frag)(a:Addr):It:=
 ⟨λi H=> ∃xs x,SqT K H a xs/\xs[i]? =some x,λi H x H'=>H'=H/\∀xs,SqT K H a xs->xs[i]? =some x,λi H=> ∃xs,SqT K H a xs/\xs.length<=i⟩
noncomputable def Itr(lo:Int)(n:Nat):It:=⟨λi _=>i<n,λi H x H'=>H'=H/\x= .int (lo+i),λi _=>n<=i⟩
theorem qiD{P:Program}{w:World}{K:W.Frag}{tg:Expr}(a it:Addr):qqs P w K tg (Itl K a) [it] it (λi h=>h.IsListIter it a i) where
 mem:=by simp
 obj:=λi h st b hb=>by
  have e:b=it:=by simpa using hb
  subst e;obtain⟨o,e,c,d⟩:=st;exact⟨o,e,λv z=>by rw[d] at z;cases z⟩
 keep:=λi h h' st k=>st.at λo e=>k it (by simp) o e
 item:=by intro X hP hw hK hc i O s Z H E I hf st hg;subst hP hw hK;obtain⟨xs,x,hq,hx⟩:=hg;obtain⟨its,rv,p,hz⟩:=I.list hq;obtain⟨u,hu,ru⟩:=rv.get hx;obtain⟨f0,f1,f2,f3,f4,f5⟩:=hf it (by simp);refine wpAny_pyNext_list_item st p.isList (x:=u) (by simpa using hu) λh' aN sb=> ?_;have I1:Inv X O Z H { s with heap:=h' }:=I.turned (t':=s.toks) (λb o hb e=>(sb.2 b hb).trans e) f0 f1 f3 f4 f5;obtain⟨o,e,c,d⟩:=id aN;exact⟨u,rfl,qjN (s:={ s with heap:=h' }) e c d (by decide) ⟨x,H,I1,ru,⟨rfl,λys hy=>by rw[I.list_inj hy hq];exact hx⟩,aN,λb hb=>(hf b hb).1⟩⟩
 done:=by intro X hP hw hK hc i O s Z H E I hf st hg;subst hP hw hK;obtain⟨xs,hq,hx⟩:=hg;obtain⟨its,rv,p,hz⟩:=I.list hq;obtain⟨f0,f1,f2,f3,f4,f5⟩:=hf it (by simp);have hl:=rv.length;exact wpAny_pyNext_list_end (I.ok.hd hc) st p.isList (by simp;omega) λh' eb=>⟨rfl,I.turned (t':=s.toks) (λb o hb e=>eb b o hb e) f0 f1 f3 f4 f5⟩
 self:=λ_ _ _ _ _ st h=>wpAny_pyIter_listiter st h
theorem qhJ{P:Program}{w:World}{K:W.Frag}{tg:Expr}(a it:Addr):qqs P w K tg (Itt K a) [it] it (λi h=>h.IsTupleIter it a i) where
 mem:=by simp
 obj:=λi h st b hb=>by
  have e:b=it:=by simpa using hb
  subst e;obtain⟨o,e,c,d⟩:=st;exact⟨o,e,λv z=>by rw[d] at z;cases z⟩
 keep:=λi h h' st k=>st.at λo e=>k it (by simp) o e
 item:=by intro X hP hw hK hc i O s Z H E I hf st hg;subst hP hw hK;obtain⟨xs,x,hq,hx⟩:=hg;obtain⟨its,rv,p,hz⟩:=I.tuple hq;obtain⟨u,hu,ru⟩:=rv.get hx;obtain⟨f0,f1,f2,f3,f4,f5⟩:=hf it (by simp);refine wpAny_pyNext_tuple_item st (show s.heap.IsTuple a its.toArray from p) (x:=u) (by simpa using hu) λh' aN sb=> ?_;have I1:Inv X O Z H { s with heap:=h' }:=I.turned (t':=s.toks) (λb o hb e=>(sb.2 b hb).trans e) f0 f1 f3 f4 f5;obtain⟨o,e,c,d⟩:=id aN;exact⟨u,rfl,qjN (s:={ s with heap:=h' }) e c d (by decide) ⟨x,H,I1,ru,⟨rfl,λys hy=>by rw[I.tuple_inj hy hq];exact hx⟩,aN,λb hb=>(hf b hb).1⟩⟩
 done:=by intro X hP hw hK hc i O s Z H E I hf st hg;subst hP hw hK;obtain⟨xs,hq,hx⟩:=hg;obtain⟨its,rv,p,hz⟩:=I.tuple hq;obtain⟨f0,f1,f2,f3,f4,f5⟩:=hf it (by simp);have hl:=rv.length;exact wpAny_pyNext_tuple_end (I.ok.hd hc) st (show s.heap.IsTuple a its.toArray from p) (by simp;omega) λh' eb=>⟨rfl,I.turned (t':=s.toks) (λb o hb e=>eb b o hb e) f0 f1 f3 f4 f5⟩
 self:=λ_ _ _ _ _ st h=>wpAny_pyIter_tupleiter st h
theorem qhK{P:Program}{w:World}{K:PySem.W.Frag}{tg:Expr}(it:Addr)(lo:Int)(n:Nat):qqs P w K tg (Itr lo n) [it] it (λi h=>IsRangeIter h it (lo+(i:Nat)*1) ((n:Int) - (i:Nat)) 1) where
 mem:=by simp
 obj:=λi h st b hb=>by
  have e:b=it:=by simpa using hb
  subst e;exact⟨_,st,λv z=>by
   have z':Data.fields _=Data.cell v:=z;cases z'⟩
 keep:=λi h h' st k=>k it (by simp) _ st
 item:=by intro X hP hw hK hc i O s Z H E I hf st hg;subst hP hw hK;obtain⟨f0,f1,f2,f3,f4,f5⟩:=hf it (by simp);have W:=Walks.range (prog:=X.prog) (w:=X.w) (I.ok.hd hc) it lo 1 n;refine W.item i s _ _ hg st λv h' tk hv aN kk=> ?_;obtain⟨t,rfl⟩:=hv;have I1:Inv X O Z H { s with heap:=h',toks:=tk }:=I.turned (λb o hb e=>kk b o (by simpa using hb) e) f0 f1 f3 f4 f5;refine⟨_,rfl,qjN (s:={ s with heap:=h',toks:=tk }) (n:= "range_iterator") aN rfl rfl (by decide) ⟨.int (lo+i),H,I1,⟨t,?_⟩,⟨rfl,rfl⟩,aN,λb hb=>(hf b hb).1⟩⟩;rw[Int.mul_one]
 done:=by intro X hP hw hK hc i O s Z H E I hf st hg;subst hP hw hK;obtain⟨f0,f1,f2,f3,f4,f5⟩:=hf it (by simp);exact wpAny_pyNext_range_end (I.ok.hd hc) st (by have:n<=i:=hg;omega) λh' eb=>⟨rfl,I.turned (t':=s.toks) (λb o hb e=>eb b o hb e) f0 f1 f3 f4 f5⟩
 self:=λ_ _ _ _ _ st h=>wpAny_pyIter_rangeiter st h
section
variable{X:Cx}{tg:Expr}
theorem qlg{O:List (Addr×Obj)}{Z:St}{H:Hp}{s:Shared}{R:It->Hp->Prop}{E:Value->Shared->Prop}{lo hi:Int}{t u v:Tok}{tk:Nat}(I:Inv X O Z H s)(h1: -(2 ^ 62)<=lo)(h2:lo<2 ^ 62)(h3: -(2 ^ 62)<=hi)(h4:hi<2 ^ 62)(q:R (Itr lo (hi - lo).toNat) H):wpAny (model X.prog X.w) X.A (pyIter (.ref s.heap.objs.size)) (PIE X O Z tg R) E { s with heap:=s.heap.push { cls:=.type "range",data:=.fields #[.int lo t,.int hi u,.int 1 v] },toks:=tk }:=by
 refine wpAny_pyIter_range (IsRange.new ..) (small_one h1 h2 h3 h4) ?_;have I1:Inv X _ Z H { s with heap:=s.heap.push { cls:=.type "range",data:=.fields #[.int lo t,.int hi u,.int 1 v] },toks:=tk }:=I.kept λb o e=>Vg _ e
 refine⟨(s.heap.push _).objs.size,[(s.heap.push _).objs.size],_,_,H,rfl,
  I1.kept λb o e=>Vg _ e,qhK _ lo _,?_,λb hb=> ?_,q⟩
 ·have e1:lo+((0:Nat))*1=lo:=by simp
  have e2:(((hi - lo).toNat)) - ((0:Nat))=Builtin.Range.rangeSize lo hi 1:=by rw[rangeSize_one];split<;>omega
  rw[e1,e2];exact Vh _ rfl
 ·have e:b=(s.heap.push { cls:=.type "range",data:=.fields #[.int lo t,.int hi u,.int 1 v] }).objs.size:=by simpa using hb
  subst e;exact I1.fpOk (Vl _) (I1.hok.fresh (Vl _))
noncomputable def qvu(ta:TA):TI:=λZ H R=>ta Z H λvs H1=> ∃j:Int,vs=[.int j]/\ -(2 ^ 62)<=j/\j<2 ^ 62/\R (Itr 0 j.toNat) H1
theorem qi3{a:Expr}{ta:TA}{p pos:Pos}(hg:Gl X "range")(hm:X.mg "range" =none)(ha:PA X [a] ta)(hs:starEach [a] X.env=[(false,eval a X.env)]:=by rfl):PI X tg (.Call (.Name "range" p) [a] [] pos) (qvu ta):=by
 intro O s Z H R I h;refine Call_ (qdz I hg hm boot_range (PyProof.Rows.callWith_type1 (thn (ha pos O s Z H _ I h) λus s1 ⟨vs,H1,I1,r1,q1⟩=> ?_) hs rfl));obtain⟨j,e,q1,q2,q⟩:=q1;subst e;cases r1 with
 |cons r rr=>cases rr;obtain⟨t,rfl⟩:=r;exact call_range_1 (qlg I1 (by omega) (by omega) q1 q2 (by simpa using q))
noncomputable def qxl(wi:TI)(g:TG)(tb:TS):TS:=λD Z H=>wi Z H λJ H1=> ∃W:Nat->Nat->St->Hp->Prop,(∃m,W 0 m Z H1)/\∀i m Z H,W i m Z H->
 (J.stop i H/\D.nx Z H)\/(J.go i H/\∃N:St->Hp->Prop,(∀ae H',N ae H'->∃m',m'<m/\W (i+1) m' ae H')/\∀x H',J.yld i H x H'->g x Z H' λaL H2=>tb { D with nx:=N,ct:=N,bk:=D.nx } aL H2)
noncomputable def qeS(fp:List Addr)(h:Heap):List (Addr×Obj):=fp.filterMap λb=>(h.get? b).map λo=>(b,o)
theorem qbE{fp:List Addr}{h:Heap}{b:Addr}{o:Obj}(hb:b∈fp)(e:h.get? b=some o):(b,o)∈qeS fp h:=List.mem_filterMap.mpr ⟨b,hb,by rw[e];rfl⟩
theorem qjg(hp:p∈qeS fp h):p.1∈fp/\h.get? p.1=some p.2:=by
 obtain⟨b,hb,e⟩:=List.mem_filterMap.mp hp;cases q:h.get? b with
 |none=>rw[q] at e;cases e
 |some o=>rw[q] at e;have e':=Option.some.inj e;subst e';exact⟨hb,q⟩
theorem Inv.pinned(I:Inv X O Z H s)(hf: ∀b∈fp,qgD X O H b)(ho: ∀b∈fp,∃o,s.heap.get? b=some o/\∀v,o.data≠.cell v):Inv X (O++qeS fp s.heap) Z H s:=
 I.pins_of λp hp=>(List.mem_append.mp hp).elim (λz=>I.pin p (Vs _ z)) λz=>by
  obtain⟨hb,e⟩:=qjg z;obtain⟨f0,f1,f2,_⟩:=hf p.1 hb;obtain⟨o,e',d⟩:=ho p.1 hb
  simp_all
theorem Inv.unpinned(I:Inv X (O++pl) Z H s):Inv X O Z H s:=I.pins_of λp hp=>I.pin p (Vs _ (Vr _ hp))
theorem qrx{iter:Expr}{body:List Stmt}{wi:TI}{g:TG}{tb:TS}{pos:Pos}(hp:PassesOwn (model X.prog X.w) X.A X.env X.xe)(hc:X.calm=true)(hi:PI X tg iter wi)(hg:PG X tg g)(hb:PSs X body tb)(hs: ∀x,foldedSetIterable iter X.env x=pure x:=by intro _;rfl):PS X (.For tg iter body [] pos) (qxl wi g tb):=by
 intro O s Z H D I h;refine wpAny_For (thn (hi O s Z H _ I h) λv s1 h1=>thn h1 λitv s2 h2=> ?_) hs;obtain⟨it,fp,tn,J,H2,e,I2,T,st2,f2,W,⟨m0,w0⟩,turn⟩:=h2;subst e;have cW: ∀{H':Hp},(∀b∈fp,H' b=none)->∀b∈fp,qgD X O H' b:=λhn b hb=>⟨hn b hb,(f2 b hb).2⟩
 refine codeAny_forLoop_any (λn s'=> ∃i ae H',Inv X O ae H' s'/\tn i s'.heap/\(∀b∈fp,H' b=none)/\W i n ae H') ?_ m0 ⟨0,Z,H2,I2,st2,λb hb=>(f2 b hb).1,w0⟩;rintro n s3 ⟨i,eU,H3,I3,eY,jE,w3⟩
 rcases turn i n eU H3 w3 with⟨stop,qn⟩|⟨go,N,hN,step⟩
 ·refine wpAny_passesOwn hp (thn (T.done X rfl rfl rfl hc i O s3 eU H3 X.xe I3 (cW jE) eY stop) λr s4 ⟨hr,I4⟩=> ?_);subst hr;exact wpAny_execs_nil ⟨eU,H3,I4,qn⟩
 ·refine wpAny_passesOwn hp (thn (T.item X rfl rfl rfl hc i O s3 eU H3 X.xe I3 (cW jE) eY go) λr s4 ⟨u,hr,h4⟩=> ?_);subst hr;refine wpAny_passesOwn hp (thn h4 λ_ s5 ⟨x,H5,I5,r5,y5,eF,gL⟩=> ?_);have I5':=I5.pinned (cW gL) (T.obj _ _ eF);refine wpAny_passesOwn hp (thn (hg _ s5 eU H5 x u _ I5' r5 (step x H5 y5)) λ_ s6 ⟨σ6,H6,I6,q6⟩=> ?_);refine wpAny_passesOwn hp (thn (hb _ s6 σ6 H6 _ I6 q6) λf s7 q7=> ?_);have again: ∀{bU:St}{H7:Hp},Inv X (O++qeS fp s5.heap) bU H7 s7->N bU H7->∃m,m<n/\∃i ae H',Inv X O ae H' s7/\tn i s7.heap/\(∀b∈fp,H' b=none)/\W i m ae H':=λ{bU H7} I7 n7=>by obtain⟨m',hm,w7⟩:=hN bU H7 n7;refine⟨m',hm,i+1,bU,H7,I7.unpinned,T.keep _ _ _ eF λb hb o e=>(I7.pin (b,o) (Vs _ (Vs _ (qbE hb e)))).1,λb hb=> ?_,w7⟩;obtain⟨o,e,d⟩:=T.obj _ _ eF b hb;exact(I7.pin (b,o) (Vs _ (Vs _ (qbE hb e)))).2.1
  cases f with
  |next|cont=>obtain⟨bU,H7,I7,n7⟩:=q7;exact again I7 n7
  |brk=>obtain⟨bU,H7,I7,q7⟩:=q7;exact⟨bU,H7,I7.unpinned,q7⟩
  |ret v=>obtain⟨x7,bU,H7,I7,r7,q7⟩:=q7;exact⟨x7,bU,H7,I7.unpinned,r7,q7⟩
end
abbrev R2:=V->V->Hp->VK->Prop
noncomputable def OpR(X:Cx)(f:Value->Value->Sem Value)(r:R2):Prop:=
 ∀(O:List (Addr×Obj))(s:Shared)(Z:St)(H:Hp)(x y:V)(v u:Value)(Q:VK),Inv X O Z H s->RelV x v->RelV y u->r x y H Q->
  wpAny (model X.prog X.w) X.A (f v u) (EP X O Z Q) X.xe s
noncomputable def UnR(X:Cx)(f:Value->Sem Value)(r:V->Hp->VK->Prop):Prop:=
 ∀(O:List (Addr×Obj))(s:Shared)(Z:St)(H:Hp)(x:V)(v:Value)(Q:VK),Inv X O Z H s->RelV x v->r x H Q->
  wpAny (model X.prog X.w) X.A (f v) (EP X O Z Q) X.xe s
noncomputable def qau(X:Cx)(f:Value)(r:List V->Hp->VK->Prop):Prop:=
 ∀(O:List (Addr×Obj))(s:Shared)(Z:St)(H:Hp)(xs:List V)(us:List Value)(Q:VK),Inv X O Z H s->qav xs us->r xs H Q->
  wpAny (model X.prog X.w) X.A (call f us) (EP X O Z Q) X.xe s
noncomputable def qya(X:Cx)(r:V->Hp->(Bool->Hp->Prop)->Prop):Prop:=
 ∀(O:List (Addr×Obj))(s:Shared)(Z:St)(H:Hp)(x:V)(v:Value)(Q:Bool->Hp->Prop),Inv X O Z H s->RelV x v->r x H Q->
  wpAny (model X.prog X.w) X.A (truthy v) (TP X O Z Q) X.xe s
noncomputable def tOp(r:R2)(ta tb:TE):TE:=λZ H Q=>ta Z H λx H1=>tb Z H1 λy H2=>r x y H2 Q
noncomputable def tUn(r:V->Hp->VK->Prop)(ta:TE):TE:=λZ H Q=>ta Z H λx H1=>r x H1 Q
noncomputable def rI(C:Int->Int->Prop)(g:Int->Int->V):R2:=λx y H Q=> ∃i j,x= .int i/\y= .int j/\C i j/\Q (g i j) H
noncomputable def rI0(g:Int->Int->V):R2:=λx y H Q=> ∃i j,x= .int i/\y= .int j/\Q (g i j) H
noncomputable def rU(g:Int->V):V->Hp->VK->Prop:=λx H Q=> ∃i,x= .int i/\Q (g i) H
section
variable{X:Cx}{a b c:Expr}{ta tb tc:TE}{pos:Pos}
theorem qwb(ha:PE X a ta)(hb:PE X b tb){O:List (Addr×Obj)}{s:Shared}{Z:St}{H:Hp}{R:V->V->Hp->Prop}(I:Inv X O Z H s)(h:ta Z H λx H1=>tb Z H1 λy H2=>R x y H2){Q:Value->Shared->Prop}{f:Value->Value->Sem Value}(hf: ∀v u s2 x y H2,Inv X O Z H2 s2->RelV x v->RelV y u->R x y H2->wpAny (model X.prog X.w) X.A (f v u) Q X.xe s2):
  wpAny (model X.prog X.w) X.A (eval a X.env) (λv aa=>wpAny (model X.prog X.w) X.A (eval b X.env) (λu bj=>wpAny (model X.prog X.w) X.A (f v u) Q X.xe bj) X.xe aa) X.xe s:=by refine thn (ha _ s Z H _ I h) λv s1 ⟨x,H1,I1,r1,q1⟩=> ?_;refine thn (hb _ s1 Z H1 _ I1 q1) λu s2 ⟨y,H2,I2,r2,q2⟩=> ?_;exact hf v u s2 x y H2 I2 r1 r2 q2
theorem qoC{op:Operator}{r:R2}(ho:OpR X (binaryOp op) r)(ha:PE X a ta)(hb:PE X b tb):PE X (.BinOp a op b pos) (tOp r ta tb):=by intro O s Z H Q I h;exact wpAny_BinOp (qwb ha hb I h λv u s2 x y H2 I2 rx ry q=>ho _ s2 Z H2 x y v u Q I2 rx ry q)
theorem quV{op:UnaryOp}{r:V->Hp->VK->Prop}(ho:UnR X (unaryOp op) r)(ha:PE X a ta):PE X (.UnaryOp op a pos) (tUn r ta):=by intro O s Z H Q I h;exact UnaryOp_ (thn (ha _ s Z H _ I h) λv s1 ⟨x,H1,I1,r1,q1⟩=>ho _ s1 Z H1 x v Q I1 r1 q1)
theorem opI{f:Value->Value->Sem Value}{C:Int->Int->Prop}{g:Int->Int->Int}(rule: ∀(i j:Int)(t u:Tok)(s:Shared)(Q:Value->Shared->Prop)(E:Value->Shared->Prop),C i j->Q (.int (g i j) s.toks) { s with toks:=s.toks+1 }->wpAny (model X.prog X.w) X.A (f (.int i t) (.int j u)) Q E s):
  OpR X f (rI C λi j=>.int (g i j)):=by intro O s Z H x y v u Q I rx ry h;obtain⟨i,j,rfl,rfl,hc,q⟩:=h;obtain⟨t,rfl⟩:=rx;obtain⟨t',rfl⟩:=ry;exact rule i j t t' s _ _ hc ⟨.int _,H,I.tok _,⟨_,rfl⟩,q⟩
theorem qwH{f:Value->Value->Sem Value}{g:Int->Int->Int}(rule: ∀(i j:Int)(t u:Tok)(s:Shared)(Q:Value->Shared->Prop)(E:Value->Shared->Prop),Q (.int (g i j) s.toks) { s with toks:=s.toks+1 }->wpAny (model X.prog X.w) X.A (f (.int i t) (.int j u)) Q E s):
  OpR X f (rI0 λi j=>.int (g i j)):=by intro O s Z H x y v u Q I rx ry h;obtain⟨i,j,rfl,rfl,q⟩:=h;obtain⟨t,rfl⟩:=rx;obtain⟨t',rfl⟩:=ry;exact rule i j t t' s _ _ ⟨.int _,H,I.tok _,⟨_,rfl⟩,q⟩
theorem qtX{f:Value->Value->Sem Value}{g:Int->Int->Bool}(rule: ∀(i j:Int)(t u:Tok)(s:Shared)(Q:Value->Shared->Prop)(E:Value->Shared->Prop),Q (.bool (g i j)) s->wpAny (model X.prog X.w) X.A (f (.int i t) (.int j u)) Q E s):
  OpR X f (rI0 λi j=>.bl (g i j)):=by intro O s Z H x y v u Q I rx ry h;obtain⟨i,j,rfl,rfl,q⟩:=h;obtain⟨t,rfl⟩:=rx;obtain⟨t',rfl⟩:=ry;exact rule i j t t' s _ _ ⟨.bl _,H,I,rfl,q⟩
noncomputable def qxc(i j:Int):Prop:=0<j/\j<1073741824
noncomputable def qt7(i j:Int):Prop:=(-(2 ^ 64)<i/\i<2 ^ 64)\/(-(2 ^ 64)<j/\j<2 ^ 64)
theorem qt7.ok(h:qt7 i j):IntMulOk i j:=by
 rcases h with⟨h1,h2⟩|⟨h1,h2⟩
 ·exact .of_left (intBits_le_64 h1 h2)
 ·exact .of_right (intBits_le_64 h1 h2)
theorem qrX:OpR X (binaryOp .Add) (rI0 λi j=>.int (i+j)):=qwH λ_ _ _ _ _ _ _ q=>add_int q
theorem qrO:OpR X (binaryOp .Sub) (rI0 λi j=>.int (i - j)):=qwH λ_ _ _ _ _ _ _ q=>sub_int q
theorem qrQ:OpR X (binaryOp .Mult) (rI qt7 λi j=>.int (i*j)):=opI λ_ _ _ _ _ _ _ hc q=>mul_int q hc.ok
theorem qoO:OpR X (binaryOp .FloorDiv) (rI qxc λi j=>.int (i / j)):=opI λi j _ _ _ _ _ hc q=>by have h1:(0:Int)<j:=hc.1;have h2:j<1073741824:=hc.2;exact floordiv_int (by omega) (by rw[Int.fdiv_eq_ediv_of_nonneg i (by omega)];exact q) (.inl (PyProof.noPylong_small (by omega)))
theorem qrR:OpR X (binaryOp .Mod) (rI (λ_ j=>0<j) λi j=>.int (i % j)):=opI λi j _ _ _ _ _ hc q=>by have h1:(0:Int)<j:=hc;exact mod_int' (by omega) (by rw[Int.fmod_eq_emod_of_nonneg i (by omega)];exact q)
theorem unI{f:Value->Sem Value}{g:Int->Int}(rule: ∀(i:Int)(t:Tok)(s:Shared)(Q:Value->Shared->Prop)(E:Value->Shared->Prop),Q (.int (g i) s.toks) { s with toks:=s.toks+1 }->wpAny (model X.prog X.w) X.A (f (.int i t)) Q E s):
  UnR X f (rU λi=>.int (g i)):=by intro O s Z H x v Q I rx h;obtain⟨i,rfl,q⟩:=h;obtain⟨t,rfl⟩:=rx;exact rule i t s _ _ ⟨.int _,H,I.tok _,⟨_,rfl⟩,q⟩
theorem qqR:UnR X (unaryOp .USub) (rU λi=>.int (-i)):=unI λ_ _ _ _ _ q=>neg_int q
end
noncomputable def qxp:V->V->Bool
 |.non,.non=>true|.non,.int _=>true|.int _,.non=>true|.non,.bl _=>true|.bl _,.non=>true|.non,.str _=>true|.str _,.non=>true
 |.int _,.int _=>true|.bl _,.bl _=>true|.str _,.str _=>true|.byt _,.byt _=>true
 |.int _,.str _=>true|.str _,.int _=>true|.bl _,.str _=>true|.str _,.bl _=>true
 |_,_=>false
noncomputable def rNe:R2:=λx y H Q=>qxp x y=true/\Q (.bl (!decide (x=y))) H
theorem qpU:decide (V.int i=V.int j)=(i==j):=by rw[Bool.eq_iff_iff];simp
theorem qtb:decide (V.bl i=V.bl j)=(i==j):=by rw[Bool.eq_iff_iff];simp
theorem qpT{i j:Str}:decide (V.str i=V.str j)=(i==j):=by rw[Bool.eq_iff_iff];simp
theorem qpV:decide (V.byt i=V.byt j)=(i.toList==j.toList):=by rw[Bool.eq_iff_iff];simp
section
variable{X:Cx}{a b c:Expr}{ta tb tc:TE}{pos:Pos}
theorem qaN(I:Inv X O Z H s)(q:Q (.bl k) H)(e:k=k'):EP X O Z Q (.bool k') s:=by subst e;exact⟨.bl k,H,I,rfl,q⟩
theorem qu3:OpR X (compareOp .NotEq) rNe:=by
 intro O s Z H x y v u Q I rx ry h;obtain⟨hs,q⟩:=h;cases x with
 |non=>
  cases rx;cases y with
  |non=>cases ry;exact PySem.EqNone.ne_none_none (qaN I q (by simp))
  |bl j=>cases ry;exact PySem.EqNone.ne_none_bool (qaN I q (by simp))
  |int j=>obtain⟨t',rfl⟩:=ry;exact PySem.EqNone.ne_none_int (qaN I q (by simp))
  |str j=>obtain⟨t',rfl⟩:=ry;exact PySem.EqNone.ne_none_str (qaN I q (by simp))
  |_=>exact absurd (show false=true from hs) Vq
 |bl i=>
  cases rx;cases y with
  |non=>cases ry;exact PySem.EqNone.ne_bool_none (qaN I q (by simp))
  |bl j=>cases ry;exact ne_bool (qaN I q (congrArg not qtb))
  |str j=>obtain⟨t',rfl⟩:=ry;exact PySem.EqMixed.ne_bool_str (qaN I q (by simp))
  |_=>exact absurd (show false=true from hs) Vq
 |int i=>
  obtain⟨t,rfl⟩:=rx;cases y with
  |non=>cases ry;exact PySem.EqNone.ne_int_none (qaN I q (by simp))
  |int j=>obtain⟨t',rfl⟩:=ry;exact ne_int (qaN I q (congrArg not qpU))
  |str j=>obtain⟨t',rfl⟩:=ry;exact PySem.EqMixed.ne_int_str (qaN I q (by simp))
  |_=>exact absurd (show false=true from hs) Vq
 |str i=>
  obtain⟨t,rfl⟩:=rx;cases y with
  |non=>cases ry;exact PySem.EqNone.ne_str_none (qaN I q (by simp))
  |bl j=>cases ry;exact PySem.EqMixed.ne_str_bool (qaN I q (by simp))
  |int j=>obtain⟨t',rfl⟩:=ry;exact PySem.EqMixed.ne_str_int (qaN I q (by simp))
  |str j=>obtain⟨t',rfl⟩:=ry;exact ne_str (qaN I q (congrArg not qpT))
  |_=>exact absurd (show false=true from hs) Vq
 |byt i=>
  obtain⟨t,rfl⟩:=rx;cases y with
  |byt j=>obtain⟨t',rfl⟩:=ry;exact W.ne_bytes (qaN I q (congrArg not qpV))
  |_=>exact absurd (show false=true from hs) Vq
 |_=>cases y<;>exact absurd (show false=true from hs) Vq
theorem qu4:OpR X (compareOp .Lt) (rI0 λi j=>.bl (decide (i<j))):=qtX λ_ _ _ _ _ _ _ q=>lt_int q
theorem qu5:OpR X (compareOp .LtE) (rI0 λi j=>.bl (decide (i<=j))):=qtX λ_ _ _ _ _ _ _ q=>le_int q
theorem qu6:OpR X (compareOp .Gt) (rI0 λi j=>.bl (decide (j<i))):=qtX λ_ _ _ _ _ _ _ q=>gt_int q
theorem qu7:OpR X (compareOp .GtE) (rI0 λi j=>.bl (decide (j<=i))):=qtX λ_ _ _ _ _ _ _ q=>ge_int q
theorem qjd:OpR X (compareOp .Lt) (λx y H Q=> ∃i j,x= .str i/\y= .str j/\Q (.bl (decide (i.cps.toList<j.cps.toList))) H):=by intro O s Z H x y v u Q I rx ry h;obtain⟨i,j,rfl,rfl,q⟩:=h;obtain⟨t,rfl⟩:=rx;obtain⟨t',rfl⟩:=ry;exact lt_str (qaN I q rfl)
theorem qrU:OpR X (compareOp .Is) (λx y H Q=>y= .non/\Q (.bl (decide (x= .non))) H):=by
 intro O s Z H x y v u Q I rx ry h;obtain⟨rfl,q⟩:=h;cases ry;refine is_none_gen (qaN I q ?_)
 cases x<;>first
  |(rfl)
  |(obtain⟨t,rfl⟩:=rx;rfl)
theorem qoL:OpR X (compareOp .IsNot) (λx y H Q=>y= .non/\Q (.bl (!decide (x= .non))) H):=by
 intro O s Z H x y v u Q I rx ry h;obtain⟨rfl,q⟩:=h;cases ry;refine isnot_none_gen (qaN I q ?_)
 cases x<;>first
  |(rfl)
  |(obtain⟨t,rfl⟩:=rx;rfl)
theorem qr8(b:Expr)(h:op≠.In:=by decide)(h2:op≠.NotIn:=by decide):behindInMarks op b=false:=by
 have e1:(op==CmpOp.In)=false:=by grind
 have e2:(op==CmpOp.NotIn)=false:=by grind
 cases b<;>simp[behindInMarks,e1,e2]
theorem qfS{op:CmpOp}{r:R2}(ho:OpR X (compareOp op) r)(ha:PE X a ta)(hb:PE X b tb)(hm:behindInMarks op b=false):PE X (.Compare a [op] [b] pos) (tOp r ta tb):=by intro O s Z H Q I h;exact wpAny_Compare1 (qwb ha hb I h λv u s2 x y H2 I2 rx ry q=>ho _ s2 Z H2 x y v u Q I2 rx ry q) hm
noncomputable def qqY(t:TE):TT:=λZ H Q=>t Z H λx H'=> ∃k,x= .bl k/\Q k H'
theorem qdZ{op:CmpOp}{r:R2}(ho:OpR X (compareOp op) r)(ha:PE X a ta)(hb:PE X b tb)(hm:behindInMarks op b=false):PT X (.Compare a [op] [b] pos) (qqY (tOp r ta tb)):=by
 intro O s Z H Q I h;refine wpAny_isTrue_Compare1 (thn (ha _ s Z H _ I h) λv s1 ⟨x,H1,I1,r1,q1⟩=>thn (hb _ s1 Z H1 _ I1 q1) λu s2 ⟨y,H2,I2,r2,q2⟩=>
  thn (ho _ s2 Z H2 x y v u _ I2 r1 r2 q2) λc s3 ⟨z,H3,I3,r3,k,e,q3⟩=> ?_) hm
 subst e;cases r3;exact Vd ⟨H3,I3,q3⟩
noncomputable def qiI(r r':R2)(ta tb tc:TE):TE:=λZ H Q=>ta Z H λx H1=>tb Z H1 λy H2=>r x y H2 λz H3=> ∃k,z= .bl k/\
 (if k=true then tc Z H3 λw' H4=>r' y w' H4 Q else Q (.bl false) H3)
theorem qly{op cY:CmpOp}{r r':R2}(ho:OpR X (compareOp op) r)(bq:OpR X (compareOp cY) r')(ha:PE X a ta)(hb:PE X b tb)(hc:PE X c tc)(hm:lastMarks [op,cY] [b,c]=false:=by with_unfolding_all rfl):PE X (.Compare a [op,cY] [b,c] pos) (qiI r r' ta tb tc):=by
 intro O s Z H Q I h;refine Compare_chain (thn (ha _ s Z H _ I h) λv s1 ⟨x,H1,I1,r1,q1⟩=>chain_link (thn (hb _ s1 Z H1 _ I1 q1) λu s2 ⟨y,H2,I2,r2,q2⟩=>
  thn (ho _ s2 Z H2 x y v u _ I2 r1 r2 q2) λd s3 ⟨z,H3,I3,r3,k,e,q3⟩=> ?_)) hm
 subst e;cases r3;refine Vd ?_;cases k with
 |false=>exact ite_ff ⟨.bl _,H3,I3,rfl,q3⟩
 |true=>exact ite_tt (chain_last (thn (hc _ s3 Z H3 _ I3 q3) λw' s4 ⟨z',H4,I4,r4,q4⟩=>bq _ s4 Z H4 y z' u w' Q I4 r2 r4 q4))
theorem qlm{op cY:CmpOp}{r r':R2}(ho:OpR X (compareOp op) r)(bq:OpR X (compareOp cY) r')(ha:PE X a ta)(hb:PE X b tb)(hc:PE X c tc)(hm:lastMarks [op,cY] [b,c]=false:=by with_unfolding_all rfl):PT X (.Compare a [op,cY] [b,c] pos) (qqY (qiI r r' ta tb tc)):=by
 intro O s Z H Q I h;refine isTrue_chain (thn (ha O s Z H _ I h) λv s1 ⟨x,H1,I1,r1,q1⟩=>test_link (thn (hb O s1 Z H1 _ I1 q1) λu s2 ⟨y,H2,I2,r2,q2⟩=>
  thn (ho O s2 Z H2 x y v u _ I2 r1 r2 q2) λd s3 ⟨z,H3,I3,r3,k,e,q3⟩=> ?_)) hm
 subst e;cases r3;refine Vd ?_;cases k with
 |false=>obtain⟨k',e',q'⟩:=q3;cases e';exact ite_ff ⟨H3,I3,q'⟩
 |true=>refine ite_tt (test_last (thn (hc O s3 Z H3 _ I3 q3) λw' s4 ⟨z',H4,I4,r4,q4⟩=>thn (bq O s4 Z H4 y z' u w' _ I4 r2 r4 q4) λd' s5 ⟨z2,H5,I5,r5,k2,e2,q5⟩=> ?_));subst e2;cases r5;exact Vd ⟨H5,I5,q5⟩
noncomputable def qx9(K:W.Frag)(x:V)(H:Hp)(k:Bool):Prop:=
 match x with
 |.non=>k=false
 |.bl b=>k=b
 |.int i=>k=(i != 0)
 |.str y=>y.length<=sizeLine/\k=((y.length:Int) != 0)
 |.byt y=>y.size<=sizeLine/\k=((y.size:Int) != 0)
 |.ref p=>(∃xs,SqL K H p xs/\k= !xs.isEmpty)\/(∃xs,SqT K H p xs/\k= !xs.isEmpty)\/∃kvs,H p=some (.dK kvs)/\k= !kvs.isEmpty
 |_=>False
theorem qih{κ:Type}{kvs:List (κ×V)}{vs:List (κ×Value)}(r:KV kvs vs):(!vs.isEmpty)= !kvs.isEmpty:=by cases r<;>rfl
theorem qdD{xs:List V}{its:List Value}(r:qav xs its):(!its.toArray.isEmpty)= !xs.isEmpty:=by cases r<;>simp
theorem qe5:(sizeLine:Nat)<2 ^ 63:=by decide
theorem qwn:qya X (λx H Q=> ∃k,qx9 X.K x H k/\Q k H):=by
 intro O s Z H x v Q I rx h;obtain⟨k,e,q⟩:=h;have hl:=qe5;have hs:sizeLine=16777216:=sizeLine_eq;cases x with
 |non=>cases rx;have e':k=false:=e;subst e';exact truthy_none ⟨H,I,q⟩
 |bl b=>cases rx;have e':k=b:=e;subst e';exact Vd ⟨H,I,q⟩
 |int i=>obtain⟨t,rfl⟩:=rx;have e':k=(i != 0):=e;subst e';exact P.truthy_int ⟨H,I,q⟩
 |str y=>obtain⟨t,rfl⟩:=rx;obtain⟨hy,e'⟩:y.length<=sizeLine/\k=((y.length:Int) != 0):=e;subst e';exact P.truthy_str (by omega) ⟨H,I.tok _,q⟩
 |byt y=>obtain⟨t,rfl⟩:=rx;obtain⟨hy,e'⟩:y.size<=sizeLine/\k=((y.size:Int) != 0):=e;subst e';exact W.truthy_bytes (by omega) ⟨H,I.tok _,q⟩
 |ref p=>
  cases rx;have e':(∃xs,SqL X.K H p xs/\k= !xs.isEmpty)\/(∃xs,SqT X.K H p xs/\k= !xs.isEmpty)\/∃kvs,H p=some (.dK kvs)/\k= !kvs.isEmpty:=e
  rcases e' with⟨xs,hx,e'⟩|⟨xs,hx,e'⟩|⟨kvs,hx,e'⟩
  ·subst e';obtain⟨its,r,pl,hz⟩:=I.list hx;have hlen:=r.length;exact wpAny_truthy_list pl.isList (by simp only[List.size_toArray];omega) ⟨H,I.tok _,by rw[qdD r];exact q⟩
  ·subst e';obtain⟨its,r,pl,hz⟩:=I.tuple hx;have hlen:=r.length;exact truthy_tuple pl (by simp only[List.size_toArray];omega) ⟨H,I.tok _,by rw[qdD r];exact q⟩
  ·subst e';obtain⟨hz,hS,vs,r,m⟩:kvs.length<=sizeLine/\(p==sysModules)=false/\∃vs,KV kvs vs/\s.heap.DictOf (qar X.prog X.w) p vs:=I.hok p _ hx;have hlen:kvs.length=vs.length:=Paired.length r;exact wpAny_truthy_dict hS m (by omega) ⟨H,I.tok _,by rw[qih r];exact q⟩
 |_=>exact(show False from e).elim
theorem qhW:OpR X (binaryOp .Add) (λx y H Q=> ∃i j,x= .str i/\y= .str j/\i.length+j.length<=sizeLine/\Q (.str (i++j)) H):=by intro O s Z H x y v u Q I rx ry h;obtain⟨i,j,rfl,rfl,hz,q⟩:=h;obtain⟨t,rfl⟩:=rx;obtain⟨t',rfl⟩:=ry;exact add_str (λt' tk=>⟨.str (i++j),H,I.tok _,⟨_,rfl⟩,q⟩) hz
theorem qcq(r:qav [x] us): ∃u,us=[u]/\RelV x u:=by
 cases r with
 |cons r1 r2=>cases r2;exact⟨_,rfl,r1⟩
theorem qiz(r:qav [x,y] us): ∃u w',us=[u,w']/\RelV x u/\RelV y w':=by
 cases r with
 |cons r1 r2=>
  cases r2 with
  |cons r3 r4=>cases r4;exact⟨_,_,rfl,r1,r3⟩
theorem qkA(hc:X.calm=true):qau X (.builtin "max") (λxs H Q=> ∃i j,xs=[.int i,.int j]/\Q (.int (if j>i then j else i)) H):=by
 intro O s Z H xs us Q I r h;obtain⟨i,j,rfl,q⟩:=h;obtain⟨u,w',rfl,⟨t,rfl⟩,⟨t',rfl⟩⟩:=qiz r;refine max_two_ints (I.ok.hd hc) λh' tk k=>⟨_,H,I.kept k,?_,q⟩
 by_cases hj:j>i
 ·rw[if_pos hj,if_pos hj];exact⟨_,rfl⟩
 ·rw[if_neg hj,if_neg hj];exact⟨_,rfl⟩
theorem qkz(hc:X.calm=true):qau X (.builtin "min") (λxs H Q=> ∃i j,xs=[.int i,.int j]/\Q (.int (if j<i then j else i)) H):=by
 intro O s Z H xs us Q I r h;obtain⟨i,j,rfl,q⟩:=h;obtain⟨u,w',rfl,⟨t,rfl⟩,⟨t',rfl⟩⟩:=qiz r;refine min_two_ints (I.ok.hd hc) λh' tk k=>⟨_,H,I.kept k,?_,q⟩
 by_cases hj:j<i
 ·rw[if_pos hj,if_pos hj];exact⟨_,rfl⟩
 ·rw[if_neg hj,if_neg hj];exact⟨_,rfl⟩
noncomputable def qyd(K:W.Frag)(x:V)(H:Hp)(n:Nat):Prop:=
 match x with
 |.str y=>y.length<=sizeLine/\n=y.length
 |.byt y=>y.size<=sizeLine/\n=y.size
 |.ref p=>(∃xs,SqL K H p xs/\n=xs.length)\/∃xs,SqT K H p xs/\n=xs.length
 |_=>False
theorem qmO:qau X (.builtin "len") (λxs H Q=> ∃x n,xs=[x]/\qyd X.K x H n/\Q (.int n) H):=by
 intro O s Z H xs us Q I r h;obtain⟨x,n,rfl,e,q⟩:=h;obtain⟨u,rfl,rx⟩:=qcq r;have hs:=sizeLine_eq;cases x with
 |str y=>obtain⟨t,rfl⟩:=rx;obtain⟨hy,e'⟩:y.length<=sizeLine/\n=y.length:=e;subst e';exact len_str (by omega) ⟨.int _,H,I.tok _,⟨_,rfl⟩,q⟩
 |byt y=>obtain⟨t,rfl⟩:=rx;obtain⟨hy,e'⟩:y.size<=sizeLine/\n=y.size:=e;subst e';exact W.len_bytes (by omega) ⟨.int _,H,I.tok _,⟨_,rfl⟩,q⟩
 |ref p=>
  cases rx;have e':=e
  rcases e' with⟨xs,hx,e'⟩|⟨xs,hx,e'⟩
  ·subst e';obtain⟨its,r',pl,hz⟩:=I.list hx;have hlen:=r'.length;exact Calls.call_len_list pl.isList (by simp only[List.size_toArray];omega) ⟨.int _,H,I.tok _,⟨_,by simp only[List.size_toArray];rw[hlen]⟩,q⟩
  ·subst e';obtain⟨its,r',pl,hz⟩:=I.tuple hx;have hlen:=r'.length;exact len_tuple pl (by simp only[List.size_toArray];omega) ⟨.int _,H,I.tok _,⟨_,by simp only[List.size_toArray];rw[hlen]⟩,q⟩
 |_=>exact(e).elim
end
structure qqt(h:Heap)(x dx C:Addr)(mA:Str->Option Value):Prop where
 obj:h.get? x=some (W.instObj C dx)
 ns:h.Ns1 dx mA
 ne:dx≠x
theorem qjq{h:Heap}(n:h.Ns1 dx mA): ∃od,h.get? dx=some od/\∀name,W.lookIn name od=some (mA name):=by
 obtain⟨o,es,ep,ho,hd,hk,_,hm⟩:=n;refine⟨o,ho,λname=> ?_⟩;have e:=hm name;unfold nsFind findBy at e;rw[<-Array.find?_toList] at e;unfold W.lookIn;rw[hd];dsimp only;split
 ·simp_all
 ·have a:es.toList.any (·.refKey)=false:=by rw[List.any_eq_false];intro y hy;obtain⟨z,t,iw⟩:=hk y (Array.mem_toList_iff.mp hy);simp[DictEntry.refKey,iw]
  grind
theorem qqt.look(I:qqt h x dx C mA): ∃od,W.InstAt h x (W.instObj C dx) C (some od)/\∀name,W.lookIn name od=some (mA name):=
 let ⟨od,ho,hl⟩:=qjq I.ns
 ⟨od,⟨I.obj,rfl,rfl,ho⟩,hl⟩
section
variable{name:Str}
theorem qpl{s:Shared}{K:W.Frag}{expr:Bool}(X:K.In s.heap)(I:qqt s.heap x dx C mA)(hg:W.plainGet K C name=true)(hh:W.hasDictIn K C=true)(ha:W.findIn K (.ref C) name=some none)(hv:mA name=some v)(dw:W.handedIn v=true)(h:Q v { s with toks:=s.toks+1 }):
  wpAny (model prog w) A (getAttr (.ref x) name expr) Q E s:=by obtain⟨od,J,hl⟩:=I.look;exact W.get_value X J (W.plainGet_of hg).1 (W.findObj_own hh ha rfl (by rw[hl,hv])) dw h
theorem ql7{s:Shared}{K:W.Frag}(X:K.In s.heap)(I:qqt s.heap x dx C mA)(hg:W.plainGet K C name=true)(hf:W.findIn K (.ref C) name=some (some (.ref f)))(ht:W.isFn K (.ref f)=true)(hv:mA name=none)(h:Q (.ref f,[.ref x]) s):
  wpAny (model prog w) A (getMethod (.ref x) name pl) Q E s:=by obtain⟨od,J,hl⟩:=I.look;exact W.method_fn X J (W.plainGet_of hg).1 (W.plainGet_of hg).2 hf (beq_iff_eq.mp ht) (by show(W.lookIn _ od).map _=some _;rw[hl,hv];rfl) h
theorem qof{s:Shared}{K:W.Frag}{ns:List Str}(X:K.In s.heap)(I:qqt s.heap x dx C mA)(hs:W.findIn K (.ref C) "__setattr__" =some (some (.builtin "object.__setattr__")))(hp:W.plainOver K C=true)(ht:W.takerIn K C name=some none)(hh:W.hasDictIn K C=true)(hw:PySem.Within mA ns)(hsz:ns.length<=sizeLine)(h: ∀h',qqt h' x dx C (λy=>if y=name then some v else mA y)->Heap.SameBut dx s.heap h'->Q () { s with heap:=h',toks:=s.toks+2 }):
  wpAny (model prog w) A (setAttr (.ref x) name v) Q E s:=by obtain⟨od,J,hl⟩:=I.look;refine W.set_plain X J hs (W.osa_open (r:=none) X J hp ht λb=> ?_);obtain⟨cd,hc,fQ⟩:=W.any_some hh;have hx:=I.obj;refine Va (Vb (Va (Va (wpAny_loadPart hx (Va (W.Looks.here (W.looks_clsIn X hc) ?_))))));rw[fQ];refine Vb (Va (Vb (Va ?_)));refine wpAny_nsSet1 I.ns λh' gC dE=> ?_;obtain⟨oD,esD,epD,gA,iC,hcD⟩:=gC.count (PySem.Within.cons name v hw);refine Va (wpAny_lookBehind gA (by rw[iC];exact pastItsLine_dict (Vp hcD (by grind))) ?_);exact Vb (h _ ⟨(dE.2 _ (Ne.symm I.ne)).trans I.obj,gC,I.ne⟩ dE)
theorem qlO{A:Around}{s:Shared}{K:W.Frag}(X:K.In s.heap)(hm:W.makesIn K C=true)(hi:W.findIn K (.ref C) "__init__" =some (some (.ref f)))(hf:W.typeIn K (.ref f)=some (.type "function"))(h:codeAny (model prog w) (A.under (.builtin "type.__call__" ⟨.ref C::vs,kw⟩)) (.call (.ref f) ⟨.ref (s.heap.objs.size+1)::vs,kw⟩) (W.InitBack (s.heap.objs.size+1) R)
   { s with heap:=(s.heap.push W.emptyDict).push (W.instObj C s.heap.objs.size) }):
  codeAny (model prog w) A (.call (.ref C) ⟨vs,kw⟩) R s:=by exact W.make_core (W.makes_of X hm) (W.looks_findIn X hi) (λself=>W.bind_fn X _ hf) (.inl rfl) h
end
noncomputable def qeu(f:Str)(v:V):List (Str×V)->List (Str×V)
 |[]=>[(f,v)]
 |(g,x)::r=>if g=f then(g,v)::r else(g,x)::qeu f v r
theorem qcS(f g:Str)(v:V): ∀fs:List (Str×V),(qeu f v fs).lookup g=if g=f then some v else fs.lookup g
 |[]=>by
  show List.lookup g [(f,v)]=_;by_cases h:g=f
  ·simp_all
  simp_all
 |(k,x)::r=>by
  have ih:=qcS f g v r;rw[show qeu f v _=(if k=f then(k,v)::r else(k,x)::qeu f v r) from rfl];by_cases hk:k=f
  ·rw[if_pos hk];by_cases h:g=k
   ·simp_all
   ·have hb:=beq_eq_false_iff_ne.mpr h;simp only[List.lookup,hb,if_neg (λe:g=f=>h (e.trans hk.symm))]
  ·rw[if_neg hk];by_cases h:g=k
   ·simp_all
   ·have hb:=beq_eq_false_iff_ne.mpr h;simp only[List.lookup,hb];exact ih
theorem qcW(f:Str)(v:V): ∀fs:List (Str×V),f∈(qeu f v fs).map (·.1)/\∀g,g∈fs.map (·.1)->g∈(qeu f v fs).map (·.1)
 |[]=>⟨by simp[qeu],λg h=>by simp at h⟩
 |(k,x)::r=>by
  obtain⟨i1,i2⟩:=qcW f v r;rw[show qeu f v _=(if k=f then(k,v)::r else(k,x)::qeu f v r) from rfl]
  grind
theorem qcV(f:Str)(v:V): ∀fs:List (Str×V),(qeu f v fs).length<=fs.length+1
 |[]=>by simp[qeu]
 |(k,x)::r=>by
  have ih:=qcV f v r;rw[show qeu f v _=(if k=f then(k,v)::r else(k,x)::qeu f v r) from rfl]
  grind
theorem qev.some_of(r:qev (some v) o): ∃u,o=some u/\RelV v u:=by
 cases o with
 |none=>exact(r).elim
 |some u=>exact⟨u,rfl,r⟩
theorem qev.none_of(r:qev none o):o=none:=by
 cases o with
 |none=>rfl
 |some u=>exact(r).elim
theorem qjL(r:RelV v u):W.handedIn u=true:=by
 cases v with
 |non|bl b=>cases(r);rfl
 |int i|str x|byt b|flt b=>obtain⟨t,e⟩:=(r);cases e;rfl
 |ref a|ty n=>cases(r);rfl
section
theorem qed(hok:HOk P w H h)(e:H a=some (.ins C dx fs)): ∃mA,qqt h a dx C mA/\(∀f,qev (fs.lookup f) (mA f))/\PySem.Within mA (fs.map (·.1))/\fs.length<=1000/\H dx=some (.own a):=by
 obtain⟨d,z,ne,ob,mA,n,r,q⟩:=(hok a _ e)
 exact⟨mA,⟨ob,n,ne⟩,r,q,z,d⟩
end
structure Cls(K:W.Frag)(C:Addr):Prop where
 pg:W.plainGet K C Str.empty=true
 hd:W.hasDictIn K C=true
 po:W.plainOver K C=true
 sa:W.findIn K (.ref C) "__setattr__" =some (some (.builtin "object.__setattr__"))
theorem Cls.get{K:W.Frag}{C:Addr}(c:Cls K C)(f:Str):W.plainGet K C f=true:=c.pg
noncomputable def qbb(K:W.Frag)(C:Addr)(f:Str):Prop:=W.findIn K (.ref C) f=some none
theorem qbb.taker{K:W.Frag}{C:Addr}{f:Str}(n:qbb K C f):W.takerIn K C f=some none:=by unfold W.takerIn;rw[n];rfl
structure Con(K:W.Frag)(C:Addr)(f:Str)(v:V)(u:Value):Prop where
 at_:W.findIn K (.ref C) f=some (some u)
 rel:RelV v u
 get:W.specialIn K u "__get__" =some none
 cp:W.copiedNames.contains f=false
structure qtO(K:W.Frag)(C:Addr)(m:Str)(f:Addr):Prop where
 at_:W.findIn K (.ref C) m=some (some (.ref f))
 fn:W.isFn K (.ref f)=true
 kp:W.keepIn K (.ref f)=true
section
variable{f:Str}
theorem qii(I:Inv X O Z H s)(e:H a=some (.ins C dx fs))(c:Cls X.K C)(n:qbb X.K C f)(l:fs.lookup f=some v)(h: ∀u s',Inv X O Z H s'->RelV v u->Q u s'):wpAny (model X.prog X.w) A (getAttr (.ref a) f b) Q E s:=by obtain⟨mA,am,r,_,_,_⟩:=qed I.hok e;obtain⟨u,hu,ru⟩:=qev.some_of (by rw[<-l];exact r f);exact qpl I.kIn am (c.get f) c.hd n hu (qjL ru) (h u _ (I.tok _) ru)
theorem qdF{m:Str}(I:Inv X O Z H s)(e:H a=some (.ins C dx fs))(c:Cls X.K C)(k:qtO X.K C m g)(l:fs.lookup m=none)(h:Q (.ref g,[.ref a]) s):wpAny (model X.prog X.w) A (getMethod (.ref a) m pl) Q E s:=by obtain⟨mA,am,r,_,_,_⟩:=qed I.hok e;have hn:=qev.none_of (by rw[<-l];exact r m);exact ql7 I.kIn am (c.get m) k.at_ k.fn hn h
theorem qhR(I:Inv X O Z H s)(e:H a=some (.ins C dx fs))(c:Cls X.K C)(n:qbb X.K C f)(hl:fs.length<1000)(ry:RelV y u)(h: ∀s',Inv X O Z (upd H a (.ins C dx (qeu f y fs))) s'->Q () s'):wpAny (model X.prog X.w) A (setAttr (.ref a) f u) Q E s:=by
 obtain⟨mA,am,r,wi,_,ho⟩:=qed I.hok e;have hz:(fs.map (·.1)).length<=sizeLine:=by rw[List.length_map,sizeLine_eq];omega
 refine qof I.kIn am c.sa c.po n.taker c.hd wi hz λh' O' sb=>h _ ?_;have hd: ∃o,h'.get? dx=some o:=let ⟨o,_,_,e',_⟩:=O'.ns;⟨o,e'⟩
 refine I.write (x:=a) (e:=dx) (by rw[e];exact True.intro) (.inr ho) (λb q hb z=>(sb.2 b hb).trans z) hd ?_;refine⟨by rw[qab am.ne];exact ho,?_,am.ne,O'.obj,_,O'.ns,λg=> ?_,λg hg=> ?_⟩
 ·have:=qcV f y fs;omega
 ·rw[qcS];by_cases q:g=f
  ·rw[if_pos q,if_pos q];exact ry
  grind
 ·by_cases q:g=f
  ·rw[q];exact(qcW f y fs).1
  ·refine(qcW f y fs).2 g (wi g λz=>hg ?_)
   grind
theorem Inv.made(I:Inv X O Z H s):Inv X O Z (upd (upd H s.heap.objs.size (.own (s.heap.objs.size+1))) (s.heap.objs.size+1) (.ins C s.heap.objs.size []))
  { s with heap:=(s.heap.push W.emptyDict).push (W.instObj C s.heap.objs.size) }:=by
 have e1:(s.heap.push W.emptyDict).get? _=some _:=Vh _ rfl;have e2:=by
  have:=Vh (s.heap.push W.emptyDict) (o:=W.instObj C s.heap.objs.size) rfl
  rwa [Heap.size_push] at this
 have e3:(s.heap.push _).Ns _ _:=⟨W.emptyDict, #[],_,e1,rfl,(λe he=>absurd he (by simp)),λ_=>rfl⟩
 have I1:=I.laid (o:=.own (s.heap.objs.size+1)) (t':=s.toks) (λb u q=>Vg _ q) (Vl _) ⟨_,e1⟩;refine I1.laid (λb u q=>Vg _ q) (Nat.le_of_eq (Heap.size_push _ _)) ?_;have ne:s.heap.objs.size≠s.heap.objs.size+1:=Vn (Vx _);refine⟨by rw[qab ne,qaf],Nat.zero_le _,ne,e2,λ_=>none,(Heap.Ns1.of_empty e3).at λo q=>Vg _ q,λ_=>True.intro,λy hy=>absurd rfl hy⟩
theorem qqn{f:Str}(hb:attributeBase e f env (eval e env)=eval e env)(h:wpAny (model prog w) A (eval e env) (λo aa=>wpAny (model prog w) A (getAttr o f true) Q E aa) E s):wpAny (model prog w) A (eval (.Attribute e f pos) env) Q E s:=
 Attribute_any_ h (by rw[arm_eval_Attribute,hb])
end
noncomputable def qwq(K:W.Frag)(ta:TE)(f:Str):TE:=λZ H Q=>ta Z H λx H1=> ∃a C dx fs v,x= .ref a/\H1 a=some (.ins C dx fs)/\Cls K C/\qbb K C f/\fs.lookup f=some v/\Q v H1
noncomputable def qxq(K:W.Frag)(ta tv:TE)(f:Str):TS:=λD Z H=>tv Z H λy H1=>ta Z H1 λx H2=> ∃a C dx fs,x= .ref a/\H2 a=some (.ins C dx fs)/\Cls K C/\qbb K C f/\fs.length<1000/\
 D.nx Z (upd H2 a (.ins C dx (qeu f y fs)))
section
variable{f:Str}
theorem qrJ{X:Cx}{e:Expr}{pos:Pos}{ta:TE}(he:PE X e ta)(hb:attributeBase e f X.env (eval e X.env)=eval e X.env):PE X (.Attribute e f pos) (qwq X.K ta f):=by intro O s Z H Q I h;refine qqn hb (thn (he _ s Z H _ I h) λu s1 ⟨x,H1,I1,rx,a,C,dx,fs,v,ex,ea,c,n,l,q⟩=> ?_);subst ex;obtain rfl:u=Value.ref a:=rx;exact qii I1 ea c n l λu' s2 I2 ru=>⟨v,H1,I2,ru,q⟩
theorem qry{X:Cx}{o:Expr}{value:Expr}{pos:Pos}{pos':Pos}{ta:TE}{tv:TE}(ha:PE X o ta)(hv:PE X value tv)(hs:swapsWith value (some (.Attribute o f pos')) pos.line X.env=pure false):PS X (.Assign [.Attribute o f pos'] value pos) (qxq X.K ta tv f):=by intro O s Z H D I h;refine plainObj_wpAny_Assign_Attribute (thn (hv _ s Z H _ I h) λu s1 ⟨y,H1,I1,ry,q⟩=>thn (ha _ s1 Z H1 _ I1 q) λov s2 ⟨x,H2,I2,rx,a,C,dx,fs,ex,ea,c,n,l,q2⟩=> ?_) hs;subst ex;obtain rfl:ov=Value.ref a:=rx;exact qhR I2 ea c n l ry λs3 I3=>⟨Z,_,I3,q2⟩
noncomputable def rAdd:V->V->Hp->VK->Prop:=λx y H Q=> ∃i j,x= .int i/\y= .int j/\Q (.int (i+j)) H
end
section
inductive qgB(K:W.Frag)(H:Hp):V->Value->Prop where
 |non:qgB K H .non (.type "NoneType")
 |bl (x:Bool):qgB K H (.bl x) (.type "bool")
 |int (i:Int):qgB K H (.int i) (.type "int")
 |str (x:Str):qgB K H (.str x) (.type "str")
 |flt (x:UInt64):qgB K H (.flt x) (.type "float")
 |lst {a:Addr} {xs:List V} (e:H a=some (.lst xs)):qgB K H (.ref a) (.type "list")
 |frz {a:Addr} {o:Obj} {xs:List V} (e:H a=some (.frz o (.lst xs))):qgB K H (.ref a) (.type "list")
 |tup {a:Addr} {xs:List V} (e:H a=some (.tup xs)):qgB K H (.ref a) (.type "tuple")
 |dK {a:Addr} {kvs:List (Key×V)} (e:H a=some (.dK kvs)):qgB K H (.ref a) (.type "dict")
 |dT {a:Addr} {kvs:List (List Key×V)} (e:H a=some (.dT kvs)):qgB K H (.ref a) (.type "dict")
 | ins {a C dx:Addr} {fs:List (Str×V)} (e:H a=some (.ins C dx fs)) (cl:Cls K C) (ha:W.findIn K (.ref C) "__class__" =some (some (.builtin "object.__class__")))
   (hn:W.specialIn K (.builtin "object.__class__") "__get__" =some (some (.builtin "getset_descriptor.__get__"))) (jg:W.takesIn K (.builtin "object.__class__")=some true)
   (hm:W.mroIn K C (.type "object")=some true):qgB K H (.ref a) (.ref C)
theorem qjE(I:Inv X O Z H s)(rx:RelV x u)(ty:qgB X.K H x t)(e:W.kitOne X.K t c=some b)(h: ∀tk,Q (.bool b) { s with toks:=tk }):
  wpAny (model X.prog X.w) A (call (.builtin "isinstance") [u,c]) Q E s:=by
 cases ty with
 |non=>cases(show u=Value.none from rx);exact W.kia_one W.kitx_none I.kIn True.intro e (λz=>nomatch z) h
 |bl y=>cases(show u=Value.bool y from rx);exact W.kia_one W.kitx_bool I.kIn True.intro e (λz=>nomatch z) h
 |int i=>obtain⟨t,q⟩:=(show ∃t,u=Value.int i t from rx);cases q;exact W.kia_one W.kitx_int I.kIn True.intro e (λz=>nomatch z) h
 |str y=>obtain⟨t,q⟩:=(show ∃t,u=Value.str y t from rx);cases q;exact W.kia_one W.kitx_str I.kIn True.intro e (λz=>nomatch z) h
 |flt y=>obtain⟨t,q⟩:=(show ∃t,u=Value.float y t from rx);cases q;exact W.kia_one W.kitx_float I.kIn True.intro e (λz=>nomatch z) h
 |@lst a xs ea=>
  cases(show u=Value.ref a from rx);obtain⟨_,_,n,_,h1⟩:=(show qaE X.prog X.w H s.heap a (.lst xs) from I.hok a _ ea)
  exact W.kia_one W.kitx_list I.kIn ⟨_,h1,rfl⟩ e (λz=>nomatch z) h
 |@frz a ob xs ea=>
  cases(show u=Value.ref a from rx);obtain⟨_,_,_,n,_,h1⟩:=(show qaE X.prog X.w H s.heap a (.frz ob (.lst xs)) from I.hok a _ ea)
  exact W.kia_one W.kitx_list I.kIn ⟨_,h1,rfl⟩ e (λz=>nomatch z) h
 |@tup a xs ea=>
  cases(show u=Value.ref a from rx);obtain⟨_,_,_,p⟩:=(show qaE X.prog X.w H s.heap a (.tup xs) from I.hok a _ ea)
  obtain⟨o,h1,h2,_⟩:=p;exact W.kia_one W.kitx_tuple I.kIn ⟨o,h1,h2⟩ e (λz=>nomatch z) h
 |@dK a kvs ea=>
  cases(show u=Value.ref a from rx);obtain⟨_,_,vs,_,p⟩:=(show qaE X.prog X.w H s.heap a (.dK kvs) from I.hok a _ ea)
  obtain⟨o,es,ep,h1,h2,_⟩:=p;exact W.kia_one W.kitx_dict I.kIn ⟨o,h1,h2.1⟩ e (λz=>nomatch z) h
 |@dT a kvs ea=>
  cases(show u=Value.ref a from rx);obtain⟨_,_,xs,_,o,es,ep,h1,h2,_⟩:=(show qaE X.prog X.w H s.heap a (.dT kvs) from I.hok a _ ea)
  exact W.kia_one W.kitx_dict I.kIn ⟨o,h1,h2.1⟩ e (λz=>nomatch z) h
 |@ins a C dx fs ea cl ha hn jg hm=>cases(show u=Value.ref a from rx);obtain⟨mA,am,_⟩:=qed I.hok ea;obtain⟨od,J,_⟩:=am.look;exact W.kia_one (W.kitx_own (cl.get _) cl.hd ha hn jg hm) I.kIn J e (λz=>nomatch z) h
end
structure qa7(k:Nat)(A:Around):Prop where
 hd:A.handled=none
 dp:A.depth+3*k+5<recursionLimit
 un:A.units+16*k+200<cLine
theorem qa7.mono(r:qa7 k A)(h:j<=k):qa7 j A:=⟨r.hd,by have:=r.dp;omega,by have:=r.un;omega⟩
theorem qa7.deeper(r:qa7 (k+1) A)(env:Env):qa7 k (A.deeper env):=
 ⟨r.hd,by have:=r.dp;show A.depth+1+3*k+5<_;omega,by have:=r.un;show A.units+3+16*k+200<_;omega⟩
theorem qh5{A:Around}:(A.under (.builtin "type.__call__" ⟨.ref C::us,kw⟩)).depth=A.depth+1:=rfl
theorem qh4{A:Around}:(A.under (.builtin "type.__call__" ⟨.ref C::us,kw⟩)).units=A.units+1:=rfl
theorem qa7.make(r:qa7 (k+1) A)(C:Addr)(us:List Value)(kw:List (Str×Value)):qa7 k (A.under (.builtin "type.__call__" ⟨.ref C::us,kw⟩)):=
 ⟨r.hd,by have:=r.dp;rw[qh5];omega,by have:=r.un;rw[qh4];omega⟩
theorem qa7.depth(r:qa7 k A):A.depth<recursionLimit:=by have:=r.dp;omega
theorem qa7.units(r:qa7 k A):A.units+64<cLine:=by have:=r.un;omega
noncomputable def qqx:TA:=λ_ H Q=>Q [] H
noncomputable def qeA(ta:TE)(tr:TA):TA:=λZ H Q=>ta Z H λx H1=>tr Z H1 λxs H2=>Q (x::xs) H2
section
theorem qbn:PA X [] qqx:=λ_ _ _ _ H Q I h=>Calls.spliced_nil ⟨[],H,I,.nil,h⟩
theorem qaS{X:Cx}{e:Expr}{es:List Expr}{te:TE}{t:TA}(ha:PE X e te)(hr:PA X es t)(hs:starEach (e::es) X.env=(false,eval e X.env)::starEach es X.env:=by rfl):PA X (e::es) (qeA te t):=by intro pos O s Z H Q I h;rw[hs];refine Calls.spliced_cons (thn (ha _ s Z H _ I h) λu s1 ⟨x,H1,I1,r1,q1⟩=> ?_);exact thn (hr pos _ s1 Z H1 _ I1 q1) λus s2 ⟨xs,H2,I2,r2,q2⟩=>⟨x::xs,H2,I2,.cons r1 r2,q2⟩
noncomputable def qxf(t:TA):TE:=λZ H Q=>t Z H λxs H1=>xs.length<=sizeLine/\∀p,H1 p=none->Q (.ref p) (upd H1 p (.tup xs))
noncomputable def qxj(t:TA):TE:=λZ H Q=>t Z H λxs H1=>xs.length<=sizeLine/\∀p,H1 p=none->Q (.ref p) (upd H1 p (.lst xs))
theorem qrF{x1}(h:PA X es t):PE X (.Tuple es x1 pos) (qxf t):=by intro O s Z H Q I hq;refine wpAny_Tuple_spliced (thn (h pos _ s Z H _ I hq) λus s1 ⟨xs,H1,I1,r,z,q⟩=>⟨by rw[<-r.length];exact z,?_⟩);have hf:=I1.hok.fresh (Vl _);refine⟨.ref _,upd H1 _ _,I1.laid (λb u e=>Vg _ e) (Vl _) ?_,rfl,q _ hf⟩;exact⟨z,us,r,⟨_,Vh _ rfl,rfl,_,rfl⟩⟩
theorem qeT{X:Cx}{es:List Expr}{t:TA}{pos:Pos}(h:PA X es t):PE X (.List es pos) (qxj t):=by intro O s Z H Q I hq;refine wpAny_List_spliced (thn (h pos _ s Z H _ I hq) λus s1 ⟨xs,H1,I1,r,z,q⟩=>⟨by rw[<-r.length];exact z,?_⟩);have hf:=I1.hok.fresh (Vl _);refine⟨.ref _,upd H1 _ _,I1.laid (λb u e=>Vg _ e) (Vl _) ?_,rfl,q _ hf⟩;exact⟨z,us,0,r,Vh _ rfl⟩
end
abbrev Sp:=List V->Hp->VK->XK->Prop
abbrev CXT:=List Env->Hp->Shared->XK->Value->Shared->Prop
structure qkQ(P:Program)(w:World)(K:W.Frag)(mg:Str->Option Value)(base:Heap)(A:Around)(outer:List Env)(s:Shared)(H:Hp):Prop where
 frames:A.frames=some outer
 mod:Mod K mg base
 bs: ∀b o,base.get? b=some o->s.heap.get? b=some o/\H b=none
 bsz:base.objs.size<=s.heap.objs.size
 funs:s.heap.FunFrames base outer
 frf: ∀b∈frs outer,H b=none
 hok:HOk P w H s.heap
 bare:AllBare s.gens
noncomputable def CE(outer:List Env)(P:Program)(w:World)(H:Hp)(s:Shared)(Q:VK)(u:Value)(s':Shared):Prop:=
 ∃v H',s'.os=s.os/\AllBare s'.gens/\Un (frs outer) [] H H' s.heap s'.heap/\HOk P w H' s'.heap/\RelV v u/\Q v H'
noncomputable def CR(CX:CXT)(outer:List Env)(P:Program)(w:World)(H:Hp)(s:Shared)(Q:VK)(E:XK)(r:Result)(s':Shared):Prop:=
 match r with
 |.ok (.ret u)=>CE outer P w H s Q u s'
 |.ok _=>False
 |.error e=>CX outer H s E e s'
structure qdh(P:Program)(w:World)(K:W.Frag)(mg:Str->Option Value)(base:Heap)(CX:CXT)(k:Nat)(f:Addr)(fd:FuncData)(ps:List Str)(sp:Sp):Prop where
 len: ∀vs H Q E,sp vs H Q E->vs.length=ps.length
 run: ∀(A:Around)(outer:List Env)(s:Shared)(H:Hp)(args:Args)(us:List Value)(vs:List V)(Q:VK)(E:XK),qa7 k A->qkQ P w K mg base A outer s H->BindsTo s fd args (ps.zip us)->qav vs us->sp vs H Q E->
  codeAny (model P w) A (.call (.ref f) args) (CR CX outer P w H s Q E) s
theorem qkQ.make{P:Program}{w:World}{K:W.Frag}{mg:Str->Option Value}{base:Heap}{A:Around}{outer:List Env}{s:Shared}{H:Hp}(e:qkQ P w K mg base A outer s H)(C:Addr)(us:List Value)(kw:List (Str×Value)):
  qkQ P w K mg base (A.under (.builtin "type.__call__" ⟨.ref C::us,kw⟩)) outer s H:=⟨by first|exact e.frames|simp,e.mod,e.bs,e.bsz,e.funs,e.frf,e.hok,e.bare⟩
section
theorem Inv.env0(I:Inv X O Z H s):qkQ X.prog X.w X.K X.mg X.base X.A X.stack s H:=
 ⟨I.ok.frames,I.ok.mod,I.bs,Vp I.ok.bsz I.sz,I.stack,I.stkFree,I.hok,I.bare⟩
theorem Inv.after(I:Inv X O Z H s)(h:CE X.stack X.prog X.w H s Q u s'):EP X O Z Q u s':=by obtain⟨v,H',os,bare,un,hok,r,q⟩:=h;obtain⟨hh,g,d,t,eI⟩:=s';obtain rfl:eI=s.os:=os;exact⟨v,H',I.call un hok bare (λb z=>absurd z (by simp)),r,q⟩
end
noncomputable def qn7(sp:Sp)(bg:List V)(E:XK)(t:TA):TE:=λZ H Q=>t Z H λvs H1=>sp (vs++bg) H1 Q E
noncomputable def qn6(C:Addr)(sp:Sp)(bg:List V)(E:XK)(t:TA):TE:=λZ H Q=>t Z H λvs H1=> ∀x dx,H1 x=none->H1 dx=none->dx≠x->
 sp (.ref x::(vs++bg)) (upd (upd H1 dx (.own x)) x (.ins C dx [])) (λv H2=>v= .non/\Q (.ref x) H2) E
noncomputable def qaY(K:W.Frag)(fd:FuncData)(ps:List Str)(ds:List Value):Prop:=
 ∀(s:Shared)(us:List Value),K.In s.heap->(us++ds).length=ps.length->BindsTo s fd ⟨us,[]⟩ (ps.zip (us++ds))
theorem qaY.all{K:W.Frag}{fd:FuncData}{ps:List Str}(h: ∀us:List Value,us.length=ps.length->bindArgs fd ⟨us,[]⟩=pure (ps.zip us)):qaY K fd ps []:=λs us _ hl=>by rw[List.append_nil] at hl⊢;exact .of_eq (h us hl)
noncomputable def qaH(CX:CXT)(X:Cx)(E:XK):Prop:= ∀(O:List (Addr×Obj))(Z:St)(H:Hp)(s:Shared)(e:Value)(s':Shared),Inv X O Z H s->CX X.stack H s E e s'->X.xe e s'
section
variable{ps:List Str}{x m:Str}
theorem qgN(F:qdh X.prog X.w X.K X.mg X.base CX k f fd ps sp)(hr:qa7 k X.A)(hb:qaY X.K fd ps ds)(hd:qav bg ds)(hx:qaH CX X E)(I:Inv X O Z H s)(r:qav vs us)(h:sp (vs++bg) H Q E):wpAny (model X.prog X.w) X.A (call (.ref f) us) (EP X O Z Q) X.xe s:=by
 have r2:=r.append hd;have hl:(us++ds).length=ps.length:=by rw[<-r2.length];exact F.len _ _ _ _ h
 refine wpAny_call (codeAny_mono (F.run X.A _ s H _ _ _ Q E hr I.env0 (hb s us I.kIn hl) r2 h) λr s' hq=> ?_);cases r with
 |error e=>exact hx _ Z H s e s' I hq
 |ok fl=>
  cases fl with
  |ret u=>exact I.after hq
  |next|brk|cont=>exact False.elim hq
theorem qoG{X:Cx}(F:qdh X.prog X.w X.K X.mg X.base CX k f fd ps sp)(hr:qa7 k X.A)(hg:Gl X x)(hm:X.mg x=some (.ref f))(hk:W.keepIn X.K (.ref f)=true)(hb:qaY X.K fd ps ds)(hd:qav bg ds)(hx:qaH CX X E)(ha:PA X (e::es) t)(aH:(x==("__debug__" :Str))=false:=by decide)(he:starEach (e::es) X.env=(false,eval e X.env)::starEach es X.env:=by rfl)(ay:(backTo pos (starEach es X.env)).any (·.1)=false:=by rfl):
  PE X (.Call (.Name x p) (e::es) [] pos) (qn7 sp bg E t):=by intro O s Z H Q I h;refine Vf (qbg I hg hm ?_ aH);refine W.callWith_K I.ok.mod.kin hk (thn (ha pos _ s Z H _ I h) λus s1 ⟨vs,H1,I1,r,q⟩=>⟨I1.kIn,?_⟩) he ay;exact qgN F hr hb hd hx I1 r q
theorem qlA(F:qdh X.prog X.w X.K X.mg X.base CX k f fd ps sp)(hr:qa7 k X.A)(hg:Gl X x)(hm:X.mg x=some (.ref f))(hk:W.keepIn X.K (.ref f)=true)(hb:qaY X.K fd ps ds)(hd:qav bg ds)(hx:qaH CX X E)(aH:(x==("__debug__" :Str))=false:=by decide):PE X (.Call (.Name x p) [] [] pos) (qn7 sp bg E qqx):=by intro O s Z H Q I h;refine Vf (qbg I hg hm ?_ aH);exact W.callWith_K0 I.kIn hk (qgN F hr hb hd hx I .nil h)
structure Mk(K:W.Frag)(C f:Addr):Prop where
 makes:W.makesIn K C=true
 init:W.findIn K (.ref C) "__init__" =some (some (.ref f))
 fn:W.isFn K (.ref f)=true
 kp:W.keepIn K (.ref C)=true
theorem qgM(M:Mk X.K C f)(F:qdh X.prog X.w X.K X.mg X.base CX k f fd ps sp)(hr:qa7 (k+1) X.A)(hb:qaY X.K fd ps ds)(hd:qav bg ds)(hx:qaH CX X E)(I:Inv X O Z H s)(r:qav vs us)(h: ∀x dx,H x=none->H dx=none->dx≠x->sp (.ref x::(vs++bg)) (upd (upd H dx (.own x)) x (.ins C dx [])) (λv H2=>v= .non/\Q (.ref x) H2) E):
  wpAny (model X.prog X.w) X.A (call (.ref C) us) (EP X O Z Q) X.xe s:=by
 have hq:=h _ _ (I.hok.fresh (Nat.le_succ _)) (I.hok.fresh (Vl _)) (Vn (Vx _));have I2:=Inv.made (C:=C) I;have r2:qav (V.ref (s.heap.objs.size+1)::(vs++bg)) _:=.cons rfl (r.append hd);have hl:=by have e:=r2.length;rw[F.len _ _ _ _ hq] at e;exact e.symm
 refine wpAny_call (qlO I.kIn M.makes M.init (beq_iff_eq.mp M.fn) (codeAny_mono (F.run _ _ _ _ _ _ _ _ E (hr.make C us [])
  (I2.env0.make C us []) (hb _ _ I2.kIn hl) r2 hq) λr s' ba=> ?_))
 cases r with
 |error e=>exact hx _ Z _ _ e s' I2 ba
 |ok fl=>
  cases fl with
  |ret u=>obtain⟨v,H',I3,rv,ev,q3⟩:=I2.after ba;subst ev;exact⟨rv,⟨V.ref _,H',I3,rfl,q3⟩⟩
  |next|brk|cont=>exact False.elim ba
theorem qoD{X:Cx}(M:Mk X.K C f)(F:qdh X.prog X.w X.K X.mg X.base CX k f fd ps sp)(hr:qa7 (k+1) X.A)(hg:Gl X x)(hm:X.mg x=some (.ref C))(hb:qaY X.K fd ps ds)(hd:qav bg ds)(hx:qaH CX X E)(ha:PA X (e::es) t)(aH:(x==("__debug__" :Str))=false:=by decide)(he:starEach (e::es) X.env=(false,eval e X.env)::starEach es X.env:=by rfl)(ay:(backTo pos (starEach es X.env)).any (·.1)=false:=by rfl):
  PE X (.Call (.Name x p) (e::es) [] pos) (qn6 C sp bg E t):=by intro O s Z H Q I h;refine Vf (qbg I hg hm ?_ aH);refine W.callWith_K I.ok.mod.kin M.kp (thn (ha pos _ s Z H _ I h) λus s1 ⟨vs,H1,I1,r,q⟩=>⟨I1.kIn,?_⟩) he ay;exact qgM M F hr hb hd hx I1 r q
theorem qlv(M:Mk X.K C f)(F:qdh X.prog X.w X.K X.mg X.base CX k f fd ps sp)(hr:qa7 (k+1) X.A)(hg:Gl X x)(hm:X.mg x=some (.ref C))(hb:qaY X.K fd ps ds)(hd:qav bg ds)(hx:qaH CX X E)(aH:(x==("__debug__" :Str))=false:=by decide):PE X (.Call (.Name x p) [] [] pos) (qn6 C sp bg E qqx):=by intro O s Z H Q I h;refine Vf (qbg I hg hm ?_ aH);exact W.callWith_K0 I.kIn M.kp (qgM M F hr hb hd hx I .nil h)
end
section
variable{ps ks:List Str}{x m:Str}
structure qxa(K:W.Frag)(fd:FuncData)(ps ks:List Str)(g:List Value->List Value->List Value)(gV:List V->List V->List V):Prop where
 to: ∀(s:Shared)(us ws:List Value),K.In s.heap->(g us ws).length=ps.length->BindsTo s fd ⟨us,ks.zip ws⟩ (ps.zip (g us ws))
 rel: ∀{vs:List V}{us:List Value}{zs:List V}{ws:List Value},qav vs us->qav zs ws->qav (gV vs zs) (g us ws)
end
structure qby(N P:List Str)(sc:Scope):Prop where
 kind:sc.kind= .function
 co:sc.isCoroutine=false
 gen:sc.isGenerator=false
 nd:N.Nodup
 pre:N.take P.length=P
 par: ∀x∈P,sc.names.lookup x=some .local\/sc.names.lookup x=some .cell
 nofree: ∀y∈sc.names,y.2≠.free
theorem qfB{kindOf:Str->Option NameKind}{x:Str}: ∀{binds:List (Str×Value)}{m:Str->Option Value},(∀v,(x,v)∉binds)->bindL kindOf binds m x=m x
 |[],_,_=>rfl
 |(n,v)::r,m,h=>by
  unfold bindL;rw[qfB λw hw=>h w (List.mem_cons_of_mem _ hw)];split
  ·grind
  ·rfl
theorem qfD{kindOf:Str->Option NameKind}{x:Str}: ∀{binds:List (Str×Value)}{m:Str->Option Value},(∀v,(x,v)∉binds)->bindC kindOf binds m x=m x
 |[],_,_=>rfl
 |(n,v)::r,m,h=>by
  unfold bindC;rw[qfD λw hw=>h w (List.mem_cons_of_mem _ hw)];split
  ·rfl
  grind
theorem qfC{kindOf:Str->Option NameKind}{x:Str}{v:Value}: ∀{P:List Str}{vs:List Value}{i:Nat}{m:Str->Option Value},P.Nodup->P[i]? =some x->vs[i]? =some v->kindOf x=some .local->
  bindL kindOf (P.zip vs) m x=some v
 |[],_,_,_,_,h,_,_=>by simp at h
 |_::_,[],_,_,_,_,h,_=>by simp at h
 |p::P,w::vs,0,m,nd,h1,h2,hk=>by simp at h1 h2;subst h1;subst h2;show bindL _ ((p,w)::P.zip vs) m p=_;unfold bindL;rw[qfB λv hv=>(List.nodup_cons.mp nd).1 (List.of_mem_zip hv).1,if_pos hk];simp
 |p::P,w::vs,i+1,m,nd,h1,h2,hk=>by unfold bindL;exact qfC (List.nodup_cons.mp nd).2 (by simpa using h1) (by simpa using h2) hk
theorem qfE{kindOf:Str->Option NameKind}{x:Str}{v:Value}: ∀{P:List Str}{vs:List Value}{i:Nat}{m:Str->Option Value},P.Nodup->P[i]? =some x->vs[i]? =some v->kindOf x≠some .local->
  bindC kindOf (P.zip vs) m x=some v
 |[],_,_,_,_,h,_,_=>by simp at h
 |_::_,[],_,_,_,_,h,_=>by simp at h
 |p::P,w::vs,0,m,nd,h1,h2,hk=>by simp at h1 h2;subst h1;subst h2;show bindC _ ((p,w)::P.zip vs) m p=_;unfold bindC;rw[qfD λv hv=>(List.nodup_cons.mp nd).1 (List.of_mem_zip hv).1,if_neg hk];simp
 |p::P,w::vs,i+1,m,nd,h1,h2,hk=>by unfold bindC;exact qfE (List.nodup_cons.mp nd).2 (by simpa using h1) (by simpa using h2) hk
noncomputable def start(N:List Str)(vs:List V):St:=vs.map some++List.replicate (N.length - vs.length) none
noncomputable def qfr(CX:CXT)(P:Program)(w:World)(K:W.Frag)(mg:Str->Option Value)(base:Heap)(N:List Str)(qual:Str)(scope:Scope)(f:Addr)(cd:Value)(A:Around)(outer:List Env)(s:Shared)(H:Hp)(E:XK):Cx where
 prog:=P
 w:=w
 K:=K
 mg:=mg
 base:=base
 A:=A.deeper (envOfC qual scope s.heap.objs.size f cd)
 N:=N
 s₀:=s
 H₀:=H
 env:=envOfC qual scope s.heap.objs.size f cd
 outer:=outer
 stack:=envOfC qual scope s.heap.objs.size f cd::outer
 ex:=[]
 calm:=true
 fn:=λ_=>true
 pn:=[]
 xe:=λe s'=>wpAny (model P w) (A.deeper (envOfC qual scope s.heap.objs.size f cd)) (leaving (envOfC qual scope s.heap.objs.size f cd) e) (λ_ s''=>CX outer H s E e s'') (λe' s''=>CX outer H s E e' s'') s'
theorem qhv{sc:Scope}{n:Nat}{x:Str}(h:sc.names.lookup x=some .cell): ∃c,(cellsFrom n sc.names []).lookup x=some c:=by have q:=W.cellsFrom_some _ n [] (.inl h);exact Option.isSome_iff_exists.mp q
theorem qc0{CX:CXT}{P:Program}{w:World}{K:W.Frag}{mg:Str->Option Value}{base:Heap}{N ps:List Str}{qual:Str}{scope:Scope}{f:Addr}{cd:Value}{A:Around}{outer:List Env}{s s1:Shared}{H:Hp}{E:XK}{us:List Value}{vs:List V}(S:qby N ps scope)(hd:A.handled=none)(e0:qkQ P w K mg base A outer s H)(hl:vs.length=ps.length)(r:qav vs us)(x:InCallC s s.heap.objs.size (bindL (envOfC qual scope s.heap.objs.size f cd).kindOf (ps.zip us) λ_=>none) (cellsFrom (s.heap.objs.size+1) scope.names []) (bindC (envOfC qual scope s.heap.objs.size f cd).kindOf (ps.zip us) λ_=>none) s1):
  Inv (qfr CX P w K mg base N qual scope f cd A outer s H E) [] (start N vs) H s1:=by
 have ay:ps.length<=N.length:=by have:=congrArg List.length S.pre;rw[List.length_take] at this;omega
 obtain⟨h1,tk,rfl,hk⟩:=x.done;have cA: ∀b:Addr,b∉(qfr CX P w K mg base N qual scope f cd A outer s H E).ex:=λb z=>absurd (show b∈([]:List Addr) from z) (by simp)
 refine⟨⟨e0.mod,S.kind,rfl,rfl,Vl _,λy z c h1 h2=> ?_,λy hy=> ?_,λy c _ h=> ?_,λ_=>hd,Around.frames_deeper e0.frames,.inr ⟨rfl,rfl⟩,λb z=>absurd z (cA b),e0.bs,e0.bsz,λb _ _=>cA b,λb z=>absurd z (cA b),e0.funs,e0.frf⟩,
  rfl,e0.bare,Un.kept hk,⟨_,x.toInCall.ns,λi y v h1 h2 h3=> ?_⟩,λy c h=>⟨_,x.cell y c h⟩,e0.hok.fresh (Vl _),λy c h=> ?_,λp hp=>absurd (show p∈([]:List (Addr×Obj)) from hp) (by simp),e0.hok.kept hk,?_⟩
 ·exact name_of_addr x.apart (Vu h1) (Vu h2)
 ·rcases hy with hy|hy
  ·exact qhv hy
  ·exact absurd rfl (S.nofree _ (Vu hy))
 ·exact Vo (x.above y c (Vu h))
 ·have hi:i<vs.length:=by
   unfold start at h2;by_cases hi:i<vs.length
   ·exact hi
   ·rw[List.getElem?_append_right (by simpa using hi)] at h2;rw[List.getElem?_replicate] at h2;split at h2<;>cases h2
  have ha:vs[i]? =some v:=by
   unfold start at h2;rw[List.getElem?_append_left (by simpa using hi),List.getElem?_map] at h2
   simp_all
  obtain⟨u,hu,rv⟩:=r.get ha;have hp:ps[i]? =some y:=by rw[<-S.pre,List.getElem?_take_of_lt (by omega)];exact h1
  have ja:ps.Nodup:=by rw[<-S.pre];exact S.nd.sublist (List.take_sublist _ _)
  refine⟨u,rv,?_⟩
  rcases S.par y (Vt hp) with k|k
  ·exact .inl ⟨k,qfC ja hp hu k⟩
  ·obtain⟨c,e⟩:=qhv (n:=s.heap.objs.size+1) k;refine .inr ⟨.inl k,c,e,?_⟩;have q:=x.cell y c e;rw[qfE ja hp hu (by show scope.names.lookup y≠_;rw[k];decide)] at q;exact q
 ·exact e0.hok.fresh (Vo (x.above y c (Vu h)))
 ·unfold start;show _=N.length;rw[List.length_append,List.length_map,List.length_replicate];omega
theorem qvM{CX:CXT}{P:Program}{w:World}{K:W.Frag}{mg:Str->Option Value}{base:Heap}{k:Nat}{f:Addr}{name qual:Str}{params:Arguments}{body:List Stmt}{scope:Scope}{dV kV doc pm cdv ct oc:Value}{an od:Option Addr}{osl:Array (Option Value)}{N ps:List Str}{sp:Sp}(lk:K.lookup f=some ⟨oc,od,.func (W.fnOf name qual params body scope dV kV doc pm an cdv ct),osl⟩)(aI:W.codeIn K cdv qual=true)(S:qby N ps scope)(len: ∀vs H Q E,sp vs H Q E->vs.length=ps.length)(aq: ∀(A:Around)(outer:List Env)(s:Shared)(H:Hp)(vs:List V)(Q:VK)(E:XK),qa7 k (A.deeper (envOfC qual scope s.heap.objs.size f cdv))->sp vs H Q E->
   ∃t,PSs (qfr CX P w K mg base N qual scope f cdv A outer s H E) body t/\t { nx:=λ_ H'=>Q .non H',rt:=Q } (start N vs) H):
  qdh P w K mg base CX (k+1) f (W.fnOf name qual params body scope dV kV doc pm an cdv ct) ps sp:=by
 refine⟨len,λA outer s H args us vs Q E hr e0 hb r cB=> ?_⟩;have hl:=len _ _ _ _ cB;have KX:=e0.mod.kin.keeps λb o e=>(e0.bs b o e).1;have lim:=e0.mod.nolimit.keeps λb o e=>(e0.bs b o e).1;have a9: ∀y∈ps.zip us,scope.names.lookup y.1=some _\/(scope.names.lookup y.1=some _/\((cellsFrom (s.heap.objs.size+1) _ []).lookup y.1).isSome=true):=λ⟨n,v⟩ hy=>by
  rcases S.par n (List.of_mem_zip hy).1 with q|q
  ·exact .inl q
  ·exact .inr ⟨q,W.cellsFrom_some _ _ _ (.inl q)⟩
 refine codeAny_call_function hr.depth (KX _ _ lk) rfl S.co S.gen rfl (W.codeRec_of KX aI) (hb _ _ _ _ ?_);refine wpAny_newFunctionEnv_cells S.kind a9 λenv he s1 x=> ?_;subst he;refine⟨lim.keeps x.toInCall.keep,codeAny_func ?_⟩;obtain⟨t,ht,hq⟩:=aq A _ s H vs Q E (hr.deeper _) cB;have I:Inv (qfr CX P w K mg _ N _ _ f cdv A _ s H E) [] _ H s1:=qc0 S hr.hd e0 hl r x;refine Vc (ht [] s1 _ H _ I hq) (λfl s' hs=> ?_) λe s' hs=>hs
 have fin: ∀{ae } {H' } {v } {u },Inv (qfr CX P w K mg base N qual scope f cdv A _ s H E) [] ae H' s'->RelV v u->Q v H'->CE outer P w H s Q u s':=
  λ{ae H' v u} J rv q=>⟨v,H',J.os,J.bare,J.base,J.hok,rv,q⟩
 cases fl with
 |ret u=>obtain⟨v,ae,H',J,rv,q⟩:=hs;exact fin J rv q
 |next=>obtain⟨ae,H',J,q⟩:=hs;exact fin (v:=V.non) J rfl q
 |brk|cont=>obtain⟨_,_,_,q⟩:=hs;exact False.elim q
section
variable{x:Str}{id T:String}
noncomputable def tCB(r:List V->Hp->VK->Prop)(t:TA):TE:=λZ H Q=>t Z H λvs H1=>r vs H1 Q
theorem qaP(hc:qau X (.builtin id) r)(hg:Gl X x)(hm:X.mg x=none)(hv:bootBuiltins x=some (.builtin id))(ha:PA X (e::es) t)(hn:x≠ "__name__" :=by decide)(aH:(x==("__debug__" :Str))=false:=by decide)(he:starEach (e::es) X.env=(false,eval e X.env)::starEach es X.env:=by rfl)(ay:(backTo pos (starEach es X.env)).any (·.1)=false:=by rfl):PE X (.Call (.Name x p) (e::es) [] pos) (tCB r t):=by intro O s Z H Q I h;refine Vf (qdz I hg hm hv ?_ hn aH);exact PyProof.Rows.callWith_builtin1 (thn (ha pos _ s Z H _ I h) λus s1 ⟨vs,H1,I1,r1,q1⟩=>hc _ s1 Z H1 vs us Q I1 r1 q1) he ay
theorem qbZ(hc:qau X (.type T) r)(hg:Gl X x)(hm:X.mg x=none)(hv:bootBuiltins x=some (.type T))(ha:PA X (e::es) t)(hn:x≠ "__name__" :=by decide)(aH:(x==("__debug__" :Str))=false:=by decide)(he:starEach (e::es) X.env=(false,eval e X.env)::starEach es X.env:=by rfl)(ay:(backTo pos (starEach es X.env)).any (·.1)=false:=by rfl):PE X (.Call (.Name x p) (e::es) [] pos) (tCB r t):=by intro O s Z H Q I h;refine Vf (qdz I hg hm hv ?_ hn aH);exact PyProof.Rows.callWith_type1 (thn (ha pos _ s Z H _ I h) λus s1 ⟨vs,H1,I1,r1,q1⟩=>hc _ s1 Z H1 vs us Q I1 r1 q1) he ay
end
end L2
namespace HT
open PySem PyProof.Rows
section
theorem cat_tup(ht:IsTup s.heap t vs.toArray)(hb:IsTup s.heap b ws.toArray)(hv:vs≠[])(h1:ws=[]->Q (.ref t) s)(h2:ws≠[]->Q (.ref s.heap.objs.size) { s with heap:=s.heap.push { cls:=.type "tuple",data:=.seq (vs++ws).toArray } })(hsz:vs.length+ws.length<=sizeLine):wpAny (model prog w) A (binaryOp .Add (.ref t) (.ref b)) Q E s:=by
 obtain⟨⟨cls,dd,data,sl⟩,ho,hc,n,hd⟩:=id ht;obtain⟨⟨iR,eT,data2,gj⟩,aQ,bT,n2,hd2⟩:=id hb;subst hc hd bT hd2;have e:vs.toArray++ws.toArray=(vs++ws).toArray:=by simp
 by_cases hw:ws=[]
 ·exact concat_meets ⟨_,ho,rfl⟩ ⟨_,aQ,rfl⟩ noFill_tuple_add seq_tuple_add F.slot_tuple_add F.entry_tuple_add (F.args_tuple_add_2 _ _)
   (tuple_addW1 t b _ _ n n2 dd eT sl gj (by simpa using hv) (by simp[hw])) ⟨ho,aQ,h1 hw⟩
 ·refine concat_meets ⟨_,ho,rfl⟩ ⟨_,aQ,rfl⟩ noFill_tuple_add seq_tuple_add F.slot_tuple_add F.entry_tuple_add (F.args_tuple_add_2 _ _)
   (tuple_addW2 t b _ _ n n2 dd eT sl gj (by simpa using hv) (by simpa using hw) (by omega)) ⟨ho,aQ,?_⟩
  rw[e];exact h2 hw
noncomputable def sIx(n d:Nat):Option Int->Nat
 |none=>d
 |some v=>if v<0 then(v+(n:Int)).toNat else min v.toNat n
theorem sIx_none(n d:Nat):sIx n d none=d:=rfl
theorem sIx_nat(n d k:Nat):sIx n d (some (k:Int))=min k n:=rfl
end
end HT
namespace L2
open PySem PySem.Spec PyProof.Rows
abbrev TO:=St->Hp->(Option Int->Hp->Prop)->Prop
noncomputable def PO(X:Cx)(e:Option Expr)(t:TO):Prop:=
 ∀(O:List (Addr×Obj))(s:Shared)(Z:St)(H:Hp)(Q:Option Int->Hp->Prop),Inv X O Z H s->t Z H Q->
  wpAny (model X.prog X.w) X.A (evalPart e X.env) (λu s'=> ∃o H',Inv X O Z H' s'/\IsPart u o/\Q o H') X.xe s
noncomputable def qn4:TO:=λ_ H Q=>Q none H
noncomputable def qul(t:TE):TO:=λZ H Q=>t Z H λx H1=> ∃i,x= .int i/\Q (some i) H1
section
theorem qox:PO X none qn4:=by intro O s Z H Q I h;exact Vb ⟨none,H,I,.none,h⟩
theorem qow(h:PE X e te):PO X (some e) (qul te):=by intro O s Z H Q I hw;refine thn (h _ s Z H _ I hw) λu s1 ⟨x,H1,I1,r1,q1⟩=> ?_;obtain⟨i,rfl,q⟩:=q1;obtain⟨t,rfl⟩:=r1;exact⟨some i,H1,I1,.int i t,q⟩
noncomputable def SlR(X:Cx)(r:V->Option Int->Option Int->Hp->VK->Prop):Prop:=
 ∀(O:List (Addr×Obj))(s:Shared)(Z:St)(H:Hp)(x:V)(v vl vu:Value)(lo hi:Option Int)(sl:Addr)(Q:VK),Inv X O Z H s->RelV x v->s.heap.IsSliceOf sl vl vu .none->IsPart vl lo->IsPart vu hi->r x lo hi H Q->
  ∃T id,typeLookup (.type T) "__getitem__" =pure (some (.builtin id))/\s.TypeIs v T/\wpAny (model X.prog X.w) X.A (getItem v (.ref sl)) (EP X O Z Q) X.xe s
noncomputable def tSl(r:V->Option Int->Option Int->Hp->VK->Prop)(te:TE)(tl th:TO):TE:=λZ H Q=>te Z H λx H1=>tl Z H1 λl H2=>th Z H2 λu H3=>r x l u H3 Q
theorem qlt{X:Cx}{e:Expr}{te:TE}{lo:Option Expr}{hi:Option Expr}{tl:TO}{th:TO}{pos:Pos}{p2:Pos}{r:V->Option Int->Option Int->Hp->VK->Prop}(hr:SlR X r)(he:PE X e te)(hl:PO X lo tl)(hu:PO X hi th):PE X (.Subscript e (.Slice lo hi none p2) pos) (tSl r te tl th):=by intro O s Z H Q I h;refine Subscript_ (thn (he _ s Z H _ I h) λv s1 ⟨x,H1,I1,r1,q1⟩=> ?_);refine wpAny_Slice (thn (hl _ s1 Z H1 _ I1 q1) λvl s2 ⟨l,H2,I2,pl,q2⟩=>thn (hu _ s2 Z H2 _ I2 q2) λvu s3 ⟨u,H3,I3,pu,q3⟩=> ?_);refine Vb ?_;have I4:Inv X _ Z H3 { s3 with heap:=s3.heap.push { cls:=.type "slice",data:=.fields #[vl,vu,.none] } }:=I3.kept λb ob q=>Vg _ q;obtain⟨T,id,hT,ht,hg⟩:=hr _ _ Z H3 x v vl vu l u _ Q I4 r1 (Heap.IsSliceOf.new ..) pl pu q3;exact tail_any ht hT hg (rfl)
noncomputable def qts(xs:List V)(lo hi:Option Int):List V:=(xs.drop (HT.sIx xs.length 0 lo)).take (HT.sIx xs.length xs.length hi - HT.sIx xs.length 0 lo)
theorem qgk(xs:List V)(lo hi:Option Int):(qts xs lo hi).length<=xs.length:=by unfold qts;rw[List.length_take,List.length_drop];omega
noncomputable def qrp(K:W.Frag):R2:=λx y H Q=> ∃a b xs ys,x= .ref a/\y= .ref b/\SqT K H a xs/\SqT K H b ys/\xs≠[]/\xs.length+ys.length<=sizeLine/\
 (ys=[]->Q (.ref a) H)/\(ys≠[]->∀p,H p=none->Q (.ref p) (upd H p (.tup (xs++ys))))
theorem qav.nil_iff(r:qav xs us):us=[]↔xs=[]:=by
 cases r with
 |nil|cons _ _=>simp
theorem qoP:OpR X (binaryOp .Add) (qrp X.K):=by intro O s Z H x y v u Q I rx ry h;obtain⟨a,b,xs,ys,rfl,rfl,ha,hb,hx,hz,q1,q2⟩:=h;cases rx;cases ry;obtain⟨its,r1,p1,_⟩:=I.tuple ha;obtain⟨aE,r2,p2,_⟩:=I.tuple hb;refine HT.cat_tup p1 p2 (λz=>hx (r1.nil_iff.mp z)) (λz=>⟨.ref a,H,I,rfl,q1 (r2.nil_iff.mp z)⟩) (λz=> ?_) (by rw[<-r1.length,<-r2.length];exact hz);refine⟨.ref _,_,I.laid (λb ob q=>Vg _ q) (Vl _) ?_,rfl,q2 (λw=>z (r2.nil_iff.mpr w)) _ (I.hok.fresh (Vl _))⟩;exact⟨by simp_all,_,r1.append r2,IsTup.new _ _⟩
end
noncomputable def ixN(n:Nat)(i:Int):Option Nat:=if 0<=i then(if i<n then some i.toNat else none) else if -(n:Int)<=i then some (i+n).toNat else none
noncomputable def atI{α:Type}(xs:List α)(i:Int):Option α:=(ixN xs.length i).bind λj=>xs[j]?
theorem qjD(h:ixN n i=some j):seqIndex? i n=some j/\j<n/\ -(n:Int)<=i/\i<n:=by
 unfold ixN at h;by_cases h0:0<=i
 ·rw[if_pos h0] at h;by_cases h1:i<n
  ·rw[if_pos h1] at h;have e:i.toNat=j:=Option.some.inj h;exact⟨by rw[seqIndex_of h0 h1,e],by omega,by omega,h1⟩
  grind
 ·rw[if_neg h0] at h;by_cases h1: -(n:Int)<=i
  ·rw[if_pos h1] at h;have e:(i+n).toNat=j:=Option.some.inj h;exact⟨by rw[seqIndex_neg (by omega) h1,e],by omega,h1,by omega⟩
  grind
theorem qgz{α:Type}{xs:List α}{i:Int}{v:α}(h:atI xs i=some v): ∃j,seqIndex? i xs.length=some j/\xs[j]? =some v/\j<xs.length/\ -(xs.length:Int)<=i/\i<xs.length:=by
 unfold atI at h;cases e:ixN _ i with
 |none=>rw[e] at h;cases h
 |some j=>
  obtain⟨h1,h2,h3,h4⟩:=qjD e
  simp_all
theorem qqo{j:Nat}(h:xs[j]? =some v):atI xs (j:Int)=some v:=by
 have hj:=(List.getElem?_eq_some_iff.mp h).1;have e:ixN xs.length j=some j:=by
  unfold ixN
  simp_all
 unfold atI;rw[e];exact h
noncomputable def qkO(b:Expr):Prop:= ∀o i,subscripted b false o i=operate [o,i] (getItem o i)
noncomputable def IxR(X:Cx)(r:R2):Prop:=
 ∀(value slice:Expr)(O:List (Addr×Obj))(s:Shared)(Z:St)(H:Hp)(x y:V)(v u:Value)(Q:VK),Inv X O Z H s->RelV x v->RelV y u->r x y H Q->
  subscripted slice false v u=operate [v,u] (getItem v u)->wpAny (model X.prog X.w) X.A (subscriptTail value slice v u) (EP X O Z Q) X.xe s
noncomputable def MtR(X:Cx)(id:String)(r:V->List V->Hp->VK->Prop):Prop:=
 ∀(O:List (Addr×Obj))(s:Shared)(Z:St)(H:Hp)(x:V)(xs:List V)(v:Value)(us:List Value)(Q:VK),Inv X O Z H s->RelV x v->qav xs us->r x xs H Q->
  wpAny (model X.prog X.w) X.A (call (.builtin id) (v::us)) (EP X O Z Q) X.xe s
section
variable{X:Cx}{a b:Expr}{ta tb:TE}{pos:Pos}
theorem IxR.or(h:IxR X r)(h':IxR X r'):IxR X (λx y H Q=>r x y H Q\/r' x y H Q):=by
 intro value slice O s Z H x y v u Q I rx ry q hs
 rcases q with q|q
 ·exact h _ _ _ s Z H x y v u Q I rx ry q hs
 ·exact h' _ _ _ s Z H x y v u Q I rx ry q hs
theorem qrI{r:R2}(hr:IxR X r)(ha:PE X a ta)(hb:PE X b tb)(hs:qkO b):PE X (.Subscript a b pos) (tOp r ta tb):=by intro O s Z H Q I h;exact Subscript_ (qwb ha hb I h λv u s2 x y H2 I2 rx ry q=>hr a b _ s2 Z H2 x y v u Q I2 rx ry q (hs _ _))
noncomputable def qwB(K:W.Frag):R2:=λx y H Q=> ∃p xs i v,x= .ref p/\y= .int i/\SqL K H p xs/\atI xs i=some v/\Q v H
noncomputable def qwz(K:W.Frag):R2:=λx y H Q=> ∃p xs i v,x= .ref p/\y= .int i/\SqT K H p xs/\atI xs i=some v/\Q v H
noncomputable def qwA:R2:=λx y H Q=> ∃z i c,x= .str z/\y= .int i/\z.length<=sizeLine/\atI z.cps.toList i=some c/\Q (.str ⟨#[c]⟩) H
theorem qjC:IxR X (qwB X.K):=by
 intro value slice O s Z H x y v u Q I rx ry h hs;obtain⟨p,xs,i,z,rfl,rfl,hq,he,q⟩:=h;cases rx;obtain⟨t,rfl⟩:=ry;obtain⟨its,r,pl,hz⟩:=I.list hq;obtain⟨j,h1,h2,h3,h4,h5⟩:=qgz he;obtain⟨w,ew,av⟩:=r.get h2;have hl:=r.length;have hn:=qe5;have fin:EP X O Z Q w s:=⟨z,H,I,av,q⟩
 by_cases h0:0<=i
 ·have hj:i.toNat=j:=by rw[seqIndex_of h0 h5] at h1;exact Option.some.inj h1
  exact item_listR pl.isList h0 (by omega) (by rw[hj];simpa using ew) fin hs
 ·have hj:(i+(its.toArray.size:Int)).toNat=j:=by rw[seqIndex_neg (by omega) h4] at h1;rw[List.size_toArray,<-hl];exact Option.some.inj h1
  exact subscriptTail_builtinR (x:=w) pl.isList.typeIs slot_list_getitem.lookup
   (wpAny_getItem_list_neg (Q:=λr s'=>r=w/\EP X O Z Q r s') pl.isList (by omega) (by rw[List.size_toArray]<;>omega) (by omega) (by rw[hj];simpa using ew) ⟨rfl,fin⟩) hs
theorem qsp:IxR X (qwz X.K):=by
 intro value slice O s Z H x y v u Q I rx ry h hs;obtain⟨p,xs,i,z,rfl,rfl,hq,he,q⟩:=h;cases rx;obtain⟨t,rfl⟩:=ry;obtain⟨its,r,pl,hz⟩:=I.tuple hq;obtain⟨j,h1,h2,h3,h4,h5⟩:=qgz he;obtain⟨w,ew,av⟩:=r.get h2;have hl:=r.length;have hn:=qe5;have fin:EP X _ Z Q w s:=⟨z,H,I,av,q⟩
 exact subscriptTail_builtinR pl.typeIs slot_tuple_getitem.lookup
  (getItem_tuple (j:=j) pl (by omega) (by omega) (by simp_all) (by simpa using ew) ⟨rfl,fin⟩) hs
theorem qsq:IxR X qwA:=by
 intro value slice O s Z H x y v u Q I rx ry h hs;obtain⟨z,i,c,rfl,rfl,hz,he,q⟩:=h;obtain⟨t,rfl⟩:=rx;obtain⟨t',rfl⟩:=ry;obtain⟨j,h1,h2,h3,h4,h5⟩:=qgz he;have hl:z.cps.toList.length=z.length:=by simp[Str.length]
 rw[hl] at h1 h4 h5;have hn:=qe5;exact tail_any (typeIs_str s z t) slot_str_getitem.lookup (getItem_str (c:=c) (by
  have e1:decide (i< -(2 ^ 63:Int))=false:=Vv (by omega);have e2:decide (i≥2 ^ 63)=false:=Vv (by omega);rw[e1,e2,Bool.or_false]) (by rw[h1];simpa using h2) ⟨.str ⟨#[c]⟩,H,I.tok _,⟨_,rfl⟩,q⟩) hs
noncomputable def rIx(K:W.Frag):R2:=λx y H Q=>qwB K x y H Q\/qwz K x y H Q\/qwA x y H Q
theorem qsr:IxR X (rIx X.K):=qjC.or (qsp.or qsq)
theorem qh3(its:List Value)(n j:Nat)(u:Value):Obj.mapSeq (·.setIfInBounds j u) { cls:=.type "list",data:=.seq its.toArray n }={ cls:=.type "list",data:=.seq (its.set j u).toArray n }:=by simp[Obj.mapSeq]
theorem Inv.lst{O:List (Addr×Obj)}{Z:St}{H:Hp}{s:Shared}{p:Addr}{xs:List V}(I:Inv X O Z H s)(h:H p=some (.lst xs)):
  ∃(its:List Value)(n:Nat),qav xs its/\s.heap.get? p=some { cls:=.type "list",data:=.seq its.toArray n }/\xs.length<=sizeLine:=by obtain⟨z,its,n,r,e⟩:=I.hok p _ h;exact⟨its,n,r,e,z⟩
theorem Inv.lstUpd{s:Shared}{ys:List V}{its aK:List Value}{n n':Nat}(I:Inv X O Z H s)(h:H p=some (.lst xs))(ho:s.heap.get? p=some { cls:=.type "list",data:=.seq its.toArray n })(hf:f { cls:=.type "list",data:=.seq its.toArray n }={ cls:=.type "list",data:=.seq aK.toArray n' })(r:qav ys aK)(hz:ys.length<=sizeLine)(t:Nat):
  Inv X O Z (upd H p (.lst ys)) { s with heap:=s.heap.update p f,toks:=t }:=by
 have e:(s.heap.update p f).get? p=some { cls:=.type "list",data:=.seq aK.toArray n' }:=by rw[Heap.get?_update_self f ho (by rw[hf]<;>rfl),hf]
 refine I.write (by rw[h];trivial) (.inl rfl) (λb u hb q=>(Heap.get?_update_other _ _ (Ne.symm hb)).trans q) ⟨_,e⟩ ?_;exact⟨hz,aK,n',r,e⟩
noncomputable def quG:V->V->V->Hp->(Hp->Prop)->Prop:=λo i v H Q=> ∃p xs k j,o= .ref p/\i= .int k/\H p=some (.lst xs)/\ixN xs.length k=some j/\Q (upd H p (.lst (xs.set j v)))
theorem qk9:qwj X quG:=by
 intro O s Z H o i v ov iv u Q I ro ri rv h;obtain⟨p,xs,k,j,rfl,rfl,hp,hj,q⟩:=h;cases ro;obtain⟨t,rfl⟩:=ri;obtain⟨its,n,r,ho,hz⟩:=I.lst hp;obtain⟨h1,h2,h3,h4⟩:=qjD hj;have hl:=r.length;have hn:=qe5
 have I':=
  I.lstUpd hp ho (qh3 its n j u) (r.set rv j) (by rw[List.length_set];exact hz) s.toks
 by_cases h0:0<=k
 ·have hk:k.toNat=j:=by rw[seqIndex_of h0 h4] at h1;exact Option.some.inj h1
  exact W.ki_setAt ho h0 (by omega) (by rw[List.size_toArray,<-hl];exact h4) (by rw[hk];exact⟨_,I',q⟩)
 ·have hk:(k+(its.toArray.size:Int)).toNat=j:=by
   rw[seqIndex_neg (by omega) h3] at h1
   grind
  exact W.ki_setBack ho (by omega) (by rw[List.size_toArray,<-hl];exact h3) (by omega) (by rw[hk];exact⟨_,I',q⟩)
theorem qeI(lo hi:Option Int)(n:Nat):(sliceBounds lo hi none n).1=((HT.sIx n 0 lo:Nat):Int)/\(sliceBounds lo hi none n).2.1=((HT.sIx n n hi:Nat):Int)/\(sliceBounds lo hi none n).2.2=1:=by
 refine⟨?_,?_,rfl⟩
 ·cases lo with
  |none=>simp[sliceBounds,HT.sIx]
  |some i=>
   simp only[sliceBounds,HT.sIx,Option.getD_none,show(1:Int)>0 by decide,if_true];by_cases h:i<0
   ·simp only[h,if_true]<;>omega
   ·simp only[h,if_false]<;>omega
 ·cases hi with
  |none=>simp[sliceBounds,HT.sIx]
  |some i=>
   simp only[sliceBounds,HT.sIx,Option.getD_none,show(1:Int)>0 by decide,if_true];by_cases h:i<0
   ·simp only[h,if_true]<;>omega
   ·simp only[h,if_false]<;>omega
theorem qdV(its:List Value)(lo hi:Option Int):slicePick its.toArray lo hi none=((its.drop (HT.sIx its.length 0 lo)).take (HT.sIx its.length its.length hi - HT.sIx its.length 0 lo)).toArray:=by obtain⟨h1,h2,h3⟩:=qeI lo hi _;unfold slicePick;rw[h1,h2,h3];simp only[sliceRange_one,pick_run]<;>rfl
noncomputable def qxs(K:W.Frag):V->Option Int->Option Int->Hp->VK->Prop:=λx lo hi H Q=> ∃a xs,x= .ref a/\SqL K H a xs/\∀p,H p=none->Q (.ref p) (upd H p (.lst (qts xs lo hi)))
theorem qod:SlR X (qxs X.K):=by intro O s Z H x v vl vu lo hi sl Q I rx hs pl pu h;obtain⟨a,xs,rfl,hx,q⟩:=h;cases rx;obtain⟨its,r,ht,hz⟩:=I.list hx;have hlen:=r.length;refine⟨"list",_,slot_list_getitem.lookup,ht.isList.typeIs,?_⟩;refine wpAny_getItem_list_slice ht.isList hs pl pu .none (by simp) ?_ (by grind);rw[qdV,<-hlen];refine⟨.ref _,_,I.laid (λb ob q=>Vg _ q) (Vl _) ?_,rfl,q _ (I.hok.fresh (Vl _))⟩;exact⟨Vp (qgk xs lo hi) hz,_,0,(r.drop _).take _,Vh _ rfl⟩
noncomputable def qgb:V->Bool
 |.non=>true
 |.bl _=>true
 |.int _=>true
 |.str _=>true
 |_=>false
noncomputable def eqV:V->V->Bool
 |.non,.non=>true
 |.bl a,.bl b=>a==b
 |.bl a,.int b=>(if a then 1 else 0)==b
 |.int a,.bl b=>a==(if b then 1 else 0)
 |.int a,.int b=>a==b
 |.str a,.str b=>a==b
 |_,_=>false
theorem qnz{A:Around}{s:Shared}{y x:V}{u v:Value}(ry:RelV y u)(rx:RelV x v)(fy:qgb y=true)(fx:qgb x=true):SeqAt.EqAt A s u v (eqV y x):=by
 cases y with
 |non=>
  cases ry;cases x with
  |non=>cases rx;exact SeqAt.EqAt.same _
  |bl b=>cases rx;exact SeqAt.EqAt.none_bool b
  |int b=>obtain⟨t,rfl⟩:=rx;exact SeqAt.EqAt.none_int b t
  |str b=>obtain⟨t,rfl⟩:=rx;exact SeqAt.EqAt.none_str b t
  |_=>exact absurd (show false=true from fx) Vq
 |bl a=>
  cases ry;cases x with
  |non=>cases rx;exact SeqAt.EqAt.bool_none a
  |bl b=>cases rx;exact SeqAt.EqAt.bool_bool a b
  |int b=>obtain⟨t,rfl⟩:=rx;exact SeqAt.EqAt.bool_int a b t
  |str b=>obtain⟨t,rfl⟩:=rx;exact SeqAt.EqAt.bool_str a b t
  |_=>exact absurd (show false=true from fx) Vq
 |int a=>
  obtain⟨t',rfl⟩:=ry;cases x with
  |non=>cases rx;exact SeqAt.EqAt.int_none a t'
  |bl b=>cases rx;exact SeqAt.EqAt.int_bool a t' b
  |int b=>obtain⟨t,rfl⟩:=rx;exact SeqAt.EqAt.int_int a t' b t
  |str b=>obtain⟨t,rfl⟩:=rx;exact SeqAt.EqAt.int_str a t' b t
  |_=>exact absurd (show false=true from fx) Vq
 |str a=>
  obtain⟨t',rfl⟩:=ry;cases x with
  |non=>cases rx;exact SeqAt.EqAt.str_none a t'
  |bl b=>cases rx;exact SeqAt.EqAt.str_bool a t' b
  |int b=>obtain⟨t,rfl⟩:=rx;exact SeqAt.EqAt.str_int a t' b t
  |str b=>obtain⟨t,rfl⟩:=rx;exact SeqAt.EqAt.str_str a t' b t
  |_=>exact absurd (show false=true from fx) Vq
 |_=>exact absurd (show false=true from fy) Vq
theorem qau.or(h:qau X f r)(h':qau X f r'):qau X f (λxs H Q=>r xs H Q\/r' xs H Q):=by
 intro O s Z H xs us Q I rs q
 rcases q with q|q
 ·exact h _ s Z H xs us Q I rs q
 ·exact h' _ s Z H xs us Q I rs q
theorem qfz:qau X (.type "list") (λxs H Q=> ∃p ys,xs=[.ref p]/\(SqL X.K H p ys\/SqT X.K H p ys)/\∀l,H l=none->Q (.ref l) (upd H l (.lst ys))):=by
 intro O s Z H xs us Q I r h;obtain⟨p,ys,rfl,hq,q⟩:=h;obtain⟨u,rfl,rx⟩:=qcq r;cases rx
 have fin: ∀(its:List _),qav ys its->ys.length<=sizeLine->∀(h':Heap)(c':Nat),(∀b o',s.heap.get? b=some o'->h'.get? b=some o')->
   h'.get? _=some _->EP X _ Z Q _ _:=λits r' hz h' c' kp e=>
  ⟨.ref _,_,I.laid (t':=s.toks) kp (Vl _) (show qaE _ X.w _ h' _ (.lst ys) from⟨hz,its,c',r',e⟩),rfl,q _ (I.hok.fresh (Vl _))⟩
 rcases hq with hq|hq
 ·obtain⟨its,r',pl,hz⟩:=I.list hq;have hlen:=r'.length;obtain⟨o,ho,hc,n,hd⟩:=pl.isList;exact call_list_seq p (.inl rfl) ho hc hd (λh' c' kp e=>fin its r' hz h' c' kp e) (by simp_all)
 ·obtain⟨its,r',pl,hz⟩:=I.tuple hq;have hlen:=r'.length;obtain⟨o,ho,hc,n,hd⟩:=pl;exact call_list_seq p (.inr rfl) ho hc hd (λh' c' kp e=>fin its r' hz h' c' kp e) (by simp_all)
theorem qep:qau X (.type "tuple") (λxs H Q=> ∃p ys,xs=[.ref p]/\((SqL X.K H p ys/\∀l,H l=none->Q (.ref l) (upd H l (.tup ys)))\/(SqT X.K H p ys/\Q (.ref p) H))):=by
 intro O s Z H xs us Q I r h;obtain⟨p,ys,rfl,h⟩:=h;obtain⟨u,rfl,rx⟩:=qcq r;cases rx
 rcases h with⟨hq,q⟩|⟨hq,q⟩
 ·obtain⟨its,r',pl,hz⟩:=I.list hq;have hlen:=r'.length;refine call_tuple_list pl.isList (λh' kp=> ?_) (by simp_all);have I1:=I.kept (t':=s.toks) kp
  have I2:=
   I1.laid (t':=s.toks) (λb o e=>Vg _ e) (Vl _) (show qaE _ X.w _ _ _ (.tup ys) from⟨hz,its,r',IsTup.new _ _⟩)
  exact⟨.ref _,_,I2,rfl,q _ (I1.hok.fresh (Vl _))⟩
 ·obtain⟨its,r',pl,hz⟩:=I.tuple hq;exact call_tuple_same pl ⟨.ref p,H,I,rfl,q⟩
noncomputable def tyV(K:W.Frag)(T:String)(x:V)(H:Hp):Prop:=match x with
 |.str _=>T= "str"
 |.int _=>T= "int"
 | .ref p=>(T= "list" /\∃xs,SqL K H p xs)\/(T= "tuple" /\∃o,K.lookup p=some o/\o.cls= .type "tuple" /\o.dict=none)\/
   (T= "dict" /\((∃kvs,H p=some (.dK kvs))\/∃kvs,H p=some (.dT kvs)))\/(T= "set" /\∃S n,H p=some (.set S n))
 |_=>False
theorem qm9{T:String}(I:Inv X O Z H s)(r:RelV x v)(ty:tyV X.K T x H):
  s.TypeIs v T/\∀a,v= .ref a->∃ob,s.heap.get? a=some ob/\ob.dict=none:=by
 cases x with
 |str z=>obtain⟨t,rfl⟩:=r;cases(show T= "str" from ty);exact⟨typeIs_str s z t,λ_ e=>nomatch e⟩
 |int i=>obtain⟨t,rfl⟩:=r;cases(show T= "int" from ty);exact⟨typeIs_int s i t,λ_ e=>nomatch e⟩
 |ref p=>
  cases r
  rcases ty with⟨rfl,xs,hq⟩|⟨rfl,o,hk,hc,hd⟩|⟨rfl,hk⟩|⟨rfl,S,n,hk⟩
  ·obtain⟨its,_,pl,_⟩:=I.list hq;refine⟨pl.isList.typeIs,λa e=> ?_⟩;cases e;obtain⟨o,n,e,c,hd,_⟩:=pl;exact⟨o,e,hd⟩
  ·refine⟨⟨o,I.kIn p o hk,hc⟩,λa e=> ?_⟩;cases e;exact⟨o,I.kIn _ o hk,hd⟩
  ·have z: ∃o,s.heap.get? p=some o/\o.ExactDict:=by
    rcases hk with⟨kvs,hk⟩|⟨kvs,hk⟩
    ·obtain⟨_,_,_,_,o,_,_,e,ex,_⟩:=I.hok p _ hk;exact⟨o,e,ex⟩
    ·obtain⟨_,_,_,_,o,_,_,e,ex,_⟩:=I.hok p _ hk;exact⟨o,e,ex⟩
   obtain⟨o,e,ex⟩:=z;refine⟨⟨o,e,ex.1⟩,λa e2=> ?_⟩;cases e2;exact⟨o,e,ex.2.1⟩
  ·obtain⟨o,_,_,_,e,ex,_⟩:=I.hok p _ hk;refine⟨⟨o,e,ex.1⟩,λa e2=> ?_⟩;cases e2;exact⟨o,e,ex.2.1⟩
 |_=>exact False.elim ty
noncomputable def qxm(K:W.Frag)(T:String)(r:V->List V->Hp->VK->Prop)(to:TE):TE:=λZ H Q=>to Z H λx H1=>tyV K T x H1/\r x [] H1 Q
noncomputable def tBM(K:W.Frag)(T:String)(r:V->List V->Hp->VK->Prop)(to:TE)(t:TA):TE:=λZ H Q=>to Z H λx H1=>tyV K T x H1/\t Z H1 λxs H2=>r x xs H2 Q
variable{name:Str}{T id:String}
theorem qrK(pa:PlainAttrs T)(slot:Slot T name id)(cy:typeOf (.builtin id)=pure (.type "method_descriptor"))(hm:MtR X id r)(ho:PE X o to)(aB:attributeBase o name X.env (eval o X.env)=eval o X.env:=by rfl)(aA:(apos.endLine==cpos.line)=true:=by rfl):PE X (.Call (.Attribute o name apos) [] [] cpos) (qxm X.K T r to):=by intro O s Z H Q I h;refine wpAny_Call_method0_late aB aA (thn (ho _ s Z H _ I h) λv s1 ⟨x,H1,I1,r1,ty,q1⟩=> ?_);obtain⟨h1,h2⟩:=qm9 I1 r1 ty;exact⟨T,id,pa,slot,cy,h1,h2,Calls.callWith_builtin rfl (PySem.evalArgs_none (hm _ s1 Z H1 x [] v [] Q I1 r1 .nil q1))⟩
theorem qoH{o:Expr}{e:Expr}{es:List Expr}{to:TE}{t:TA}{apos:Pos}{cpos:Pos}{r:V->List V->Hp->VK->Prop}(pa:PlainAttrs T)(slot:Slot T name id)(cy:typeOf (.builtin id)=pure (.type "method_descriptor"))(hm:MtR X id r)(ho:PE X o to)(ha:PA X (e::es) t)(aB:attributeBase o name X.env (eval o X.env)=eval o X.env:=by rfl)(dX:((backTo cpos (starEach (e::es) X.env)).all (λx=> !x.1)&&(backToKw cpos (keywordEach [] X.env)).all (λx=>x.1.isSome)
   &&decide ((e::es).length+([]:List Keyword).length+(if([]:List Keyword).isEmpty then 0 else 1)<30))=true:=by rfl)(aA:(apos.endLine==cpos.line)=true:=by rfl)(hs:starEach (e::es) X.env=(false,eval e X.env)::starEach es X.env:=by rfl)(bo:(backTo cpos (starEach es X.env)).any (·.1)=false:=by rfl):
  PE X (.Call (.Attribute o name apos) (e::es) [] cpos) (tBM X.K T r to t):=by intro O s Z H Q I h;refine wpAny_Call_method_late aB dX aA rfl (thn (ho _ s Z H _ I h) λv s1 ⟨x,H1,I1,r1,ty,q1⟩=> ?_);obtain⟨h1,h2⟩:=qm9 I1 r1 ty;refine⟨T,id,pa,slot,cy,h1,h2,?_⟩;have hA:=ha cpos _ s1 Z H1 _ I1 q1;rw[hs] at hA⊢;refine Calls.callWith_builtin (by show(false||(backTo _ _).any _)=false;rw[bo]<;>rfl) (Calls.evalArgs_plain ?_);exact thn hA λus s2 ⟨vs,H2,I2,r2,q2⟩=>hm _ s2 Z H2 x vs v us Q I2 r1 r2 q2
end
noncomputable def MtM(X:Cx)(id:String)(r:V->List V->Hp->VK->Prop):Prop:=
 ∀(O:List (Addr×Obj))(s:Shared)(Z:St)(H:Hp)(x:V)(xs:List V)(v:Value)(us:List Value)(Q:VK),Inv X O Z H s->RelV x v->qav xs us->r x xs H Q->
  wpAny (model X.prog X.w) X.A (call (.builtin id) (v::us)) (EP X O Z Q) X.xe s
theorem qav.one: ∀{x:V}{us:List Value},qav [x] us->∃u,us=[u]/\RelV x u
 |_,_,.cons r .nil=>⟨_,rfl,r⟩
theorem qav.zero: ∀{us:List Value},qav [] us->us=[]
 |_,.nil=>rfl
theorem qav.dropLast(h:qav xs us):qav xs.dropLast us.dropLast:=by
 induction h with
 |nil=>exact .nil
 |cons r t ih=>
  cases t with
  |nil=>exact .nil
  |cons q t'=>exact .cons r ih
theorem qqE{α:Type}(l:List α):l.eraseIdx (l.length - 1)=l.dropLast:=by simp
section
theorem Inv.lset{s:Shared}{ys:List V}{its aK:List Value}{n:Nat}{t':Nat}(I:Inv X O Z H s)(hH:H l=some (.lst xs))(e:s.heap.get? l=some { cls:=.type "list",data:=.seq its.toArray n })(hf:f its.toArray=aK.toArray)(hv:qav ys aK)(hz:ys.length<=sizeLine):
  Inv X O Z (upd H l (.lst ys)) { s with heap:=s.heap.update l (Obj.mapSeq f),toks:=t' }:=by have q:=PySem.IsL.update e f;rw[hf] at q;refine I.write (by rw[hH];exact trivial) (.inl rfl) (λb' u hb hu=>(Heap.get?_update_other _ _ (Ne.symm hb)).trans hu) ⟨_,q⟩ ?_;exact⟨hz,aK,_,hv,q⟩
theorem Inv.lnew(I:Inv X O Z H s)(hv:qav ys its)(hz:ys.length<=sizeLine):
  Inv X O Z (upd H s.heap.objs.size (.lst ys)) { s with heap:=s.heap.push { cls:=.type "list",data:=.seq its.toArray },toks:=t' }:=
 I.laid (λ_ _ q=>Vg _ q) (Vl _) ⟨hz,its,0,hv,Vh _ rfl⟩
theorem Inv.fresh(I:Inv X O Z H s):H s.heap.objs.size=none:=I.hok.fresh (Vl _)
theorem Inv.lstM(I:Inv X O Z H s)(hH:H l=some (.lst xs)):xs.length<=sizeLine/\∃(its:List Value)(n:Nat),qav xs its/\xs.length=its.length/\s.heap.get? l=some { cls:=.type "list",data:=.seq its.toArray n }:=by obtain⟨z,its,n,r,e⟩:=I.hok l _ hH;exact⟨z,its,n,r,r.length,e⟩
theorem qlG(h:n<=sizeLine):Builtin.List.listTooLong n=false:=by exact Vv (by omega)
end
section
noncomputable def qoq:V->List V->Hp->VK->Prop:=λx vs H Q=> ∃l xs y,x= .ref l/\vs=[y]/\H l=some (.lst xs)/\xs.length<sizeLine/\Q .non (upd H l (.lst (xs++[y])))
theorem qeY:MtM X "list.append" qoq:=by
 intro O s Z H x vs v us Q I rx rv h;obtain⟨l,xs,y,rfl,rfl,hH,hz,q⟩:=h;cases rx;obtain⟨u,rfl,ru⟩:=rv.one;obtain⟨z,its,n,r,hl,e⟩:=I.lstM hH;refine call_meets F.slot_list_append ⟨_,e,rfl⟩ F.entry_list_append (F.args_list_append_2 _ _) (PySem.list_append l _ n u (by grind)) ⟨e,?_⟩;refine⟨.non,_,I.lset hH e (by simp) (r.append (.cons ru .nil)) ?_,rfl,q⟩
 grind
noncomputable def qoo:V->List V->Hp->VK->Prop:=λx vs H Q=> ∃l b xs zs,x= .ref l/\vs=[.ref b]/\H l=some (.lst xs)/\H b=some (.lst zs)/\xs.length+zs.length<=sizeLine/\Q .non (upd H l (.lst (xs++zs)))
theorem qsd:MtM X "list.extend" qoo:=by
 intro O s Z H x vs v us Q I rx rv h;obtain⟨l,b,xs,zs,rfl,rfl,hH,hB,hz,q⟩:=h;cases rx;obtain⟨u,rfl,ru⟩:=rv.one;cases ru;obtain⟨z,its,n,r,hl,e⟩:=I.lstM hH;obtain⟨z2,aE,n2,r2,dP,e2⟩:=I.lstM hB;have hsz:its.toArray.size+aE.toArray.size<=sizeLine:=by grind
 have fO: ¬(!its.toArray.isEmpty&&Builtin.List.listTooLong (its.toArray.size+aE.toArray.size))=true:=by rw[qlG hsz];simp
 refine call_meets F.slot_list_extend ⟨_,e,rfl⟩ F.entry_list_extend (F.args_list_extend_2 _ _)
  (AutoSeq1.list_extend_list_list_0 l _ n b _ n2 fO (by omega) (by omega)) ⟨e,e2,?_⟩
 refine⟨.non,_,I.lset hH e (by simp) (r.append r2) ?_,rfl,q⟩
 grind
noncomputable def qxu:V->List V->Hp->VK->Prop:=λx vs H Q=> ∃l xs y,x= .ref l/\vs=[]/\H l=some (.lst xs)/\xs[xs.length - 1]? =some y/\Q y (upd H l (.lst xs.dropLast))
theorem qsc:MtM X "list.pop" qxu:=by
 intro O s Z H x vs v us Q I rx rv h;obtain⟨l,xs,y,rfl,rfl,hH,hy,q⟩:=h;cases rx;have ib:=rv.zero;subst ib;obtain⟨z,its,n,r,hl,e⟩:=I.lstM hH;obtain⟨u,hu,ru⟩:=r.get hy;have dq:its.toArray[its.toArray.size - 1]? =some u:=by
  simp_all
 refine call_meets F.slot_list_pop ⟨_,e,rfl⟩ F.entry_list_pop (F.args_list_pop_1 _) (MeetsSeq.list_pop_last l _ n u dq (by simp_all)) ⟨e,?_⟩;refine⟨y,_,I.lset hH e ?_ r.dropLast ?_,ru,q⟩
 ·simp
 ·rw[List.length_dropLast];omega
noncomputable def qro:V->List V->Hp->VK->Prop:=λx vs H Q=> ∃l xs,x= .ref l/\vs=[]/\H l=some (.lst xs)/\Q .non (upd H l (.lst []))
theorem qlN:MtM X "list.clear" qro:=by intro O s Z H x vs v us Q I rx rv h;obtain⟨l,xs,rfl,rfl,hH,q⟩:=h;cases rx;have ib:=rv.zero;subst ib;obtain⟨z,its,n,r,hl,e⟩:=I.lstM hH;refine call_meets F.slot_list_clear ⟨_,e,rfl⟩ F.entry_list_clear (F.args_list_clear_1 _) (AutoSeq1.list_clear_list_0 l _ n (by simp_all)) ⟨e,?_⟩;exact⟨.non,_,I.lset hH e rfl .nil (Nat.zero_le _),rfl,q⟩
noncomputable def qwE:R2:=λx y H Q=> ∃l b xs zs,x= .ref l/\y= .ref b/\H l=some (.lst xs)/\H b=some (.lst zs)/\xs.length+zs.length<=sizeLine/\∀p,H p=none->Q (.ref p) (upd H p (.lst (xs++zs)))
theorem qjf:OpR X (binaryOp .Add) qwE:=by
 intro O s Z H x y v u Q I rx ry h;obtain⟨l,b,xs,zs,rfl,rfl,hH,hB,hz,q⟩:=h;cases rx;cases ry;obtain⟨z,its,n,r,hl,e⟩:=I.lstM hH;obtain⟨z2,aE,n2,r2,dP,e2⟩:=I.lstM hB;refine P.add_list e e2 ?_ (by simp_all);have ea:its.toArray++aE.toArray=(its++aE).toArray:=by simp
 rw[ea];exact⟨.ref _,_,I.lnew (r.append r2) (by simp_all),rfl,q _ I.fresh⟩
end
end L2
namespace Att
open PySem PySem.W PySem.Calls PyProof.Rows
theorem qc1: ∀(ns:List Int)(vs:List Value),WellAll P h vs (ns.map WData.int)->IntsAre vs ns:=by
 intro ns
 induction ns with
 |nil=>intro vs w;cases w;exact .nil
 |cons n ns ih=>
  intro vs w;cases w with
  |cons a b=>cases a;exact .cons _ _ (ih _ b)
theorem qiN{l:OpenLaw}{n:Nat}(hn:l.most=some n){h:Heap}(cC:l.row.toRowW.claim.pre args=true)(ia:WellAll P h vals args):
  ∃a vs ns,vals=[Value.ref a]/\args=[WData.list (ns.map WData.int)]/\h.get? a=some { cls:=.type "list",data:=.seq vs.toArray }/\IntsAre vs ns/\ns.length<=n:=by
 have hsh:=(pre_splitW cC).1;have hc:l.pre.holds [] _=true:=(pre_splitW cC).2;obtain⟨d,r,rfl,h1,h2⟩:=hasAllW_cons hsh;obtain rfl:=hasAllW_nil h2;obtain⟨xs,rfl,h3⟩:=hasW_list h1;obtain⟨ns,rfl⟩:=items_int h3;have hlen:ns.length<=n:=by
  have h4:=by have h4:=(holds_andW hc).1;rw[hn] at h4;exact h4
  have h5:=condW_of h4 (w_not (w_lt w_lit (w_len_list (w_arg rfl))))
  simp_all
 cases ia with
 |cons w1 w2=>
  cases w2;cases w1 with
  |list ho iI=>exact⟨_,_,ns,rfl,rfl,ho,qc1 ns _ iI,hlen⟩
theorem qi2(l:OpenLaw)(args:List WData):l.row.toRowW.claim.post args (.bool true) args=true:=
 postW_of
  (show WShape.has [] _ _=true by first|rfl|decide|simp)
  (w_eq_bool (w_res rfl) w_lit) rfl
theorem attach_call{l:OpenLaw}{n:Nat}{loose:List Str}{d:DefRec}(hn:l.most=some n)(dZ:d.params.defaults=[])(call: ∀(w:World)(s₀ aa:Shared)(mg mb:Str->Option Value)(fa:Addr)(o:Obj)(pm cd doc:Value)(a:Addr)(vs:List Value)(ns:List Int),
   Ground q loose [] XP w s₀ mg mb aa.heap->YP w aa.heap->
   aa.heap.get? fa=some o->o.data= .func (docDef d.name d.params d.body d.scope pm cd doc)->aa.heap.CodeRec cd d.name->mg d.name=some (.ref fa)->
   aa.heap.get? a=some { cls:=.type "list",data:=.seq vs.toArray }->IntsAre vs ns->ns.length<=n->aa.gens= #[]->
   codeAny (model l.prog w) callerA (.call (.ref fa) ⟨[.ref a],[]⟩) (λr s'=>r= .ok (.ret (.bool true))/\OldK aa.heap s'.heap/\s'.os=aa.os/\AllBare s'.gens) aa):
  WalkO q loose XP YP l.row.toRowW d [] (λf vs=>PySem.call f vs):=by intro w s₀ aa mg mb G Y fa o pm cd doc dV kV ho hd aI hD ip hg args vals as cC hlay hrd ia hlo;obtain rfl:dV= .none:=Dflts.none hD dZ;obtain rfl:kV= .none:=Dflts.noKw hD;obtain⟨a,vs,ns,rfl,rfl,dI,hints,hlen⟩:=qiN hn cC ia;refine enter_call (codeAny_mono (call w _ _ mg mb fa o pm cd doc a vs ns G Y ho (fd_plain hd) aI ip dI hints hlen hg) λr s' hq=> ?_);obtain⟨rfl,h2,h3,h4⟩:=hq;exact⟨.inl ⟨.bool _,.bool _,[],rfl,λ_=>rfl,.bool _,qi2 l _,λ_=>⟨List.Pairwise.nil,λ_ hm=>(nomatch hm)⟩⟩,h2,h3,h4⟩
section
noncomputable def qwK(h:Heap)(L d:Addr):List (Addr×Obj):=(List.range h.objs.size).filterMap λa=>if a=L\/a=d then none else(h.get? a).map λo=>(a,o)
end
end Att
namespace L2
open PySem PySem.Spec PyProof.Rows
theorem qex: ∀{vs:List Value}{ns:List Int},IntsAre vs ns->qav (ns.map V.int) vs
 |_,_,.nil=>.nil
 |_,_,.cons n t h=>.cons ⟨t,rfl⟩ (qex h)
abbrev KOf{K:W.Frag}{h:Heap}(_:K.In h):W.Frag:=K
noncomputable def qao(s:Stmt):Arguments:=match s with
 |.FunctionDef _ a _ _ _ _ _ _ _ _=>a
 |_=>{ posonlyargs:=[],args:=[],vararg:=none,kwonlyargs:=[],kw_defaults:=[],kwarg:=none,defaults:=[] }
noncomputable def qay(s:Stmt):List Stmt:=match s with
 |.FunctionDef _ _ b _ _ _ _ _ _ _=>b
 |_=>[]
noncomputable def qad(s:Stmt):Scope:=match s with
 |.FunctionDef _ _ _ _ _ _ sc _ _ _=>sc
 |_=>{ kind:=.function,names:=[],isGenerator:=false,isCoroutine:=false }
abbrev CX0:CXT:=λ_ _ _ _ _ _=>False
abbrev E0:XK:=λ_ _ _=>False
structure Fun(K:W.Frag)(x qual:Str)(st:Stmt)(f:Addr)(fd:FuncData):Prop where
 ex: ∃(oc:Value)(od:Option Addr)(kV doc pm:Value)(an:Option Addr)(cdv ct:Value)(osl:Array (Option Value)),
  fd=W.fnOf x qual (qao st) (qay st) (qad st) .none kV doc pm an cdv ct/\K.lookup f=some ⟨oc,od,.func fd,osl⟩/\W.codeIn K cdv qual=true
 kp:W.keepIn K (.ref f)=true
section
theorem Fun.binds{K:W.Frag}{x qual:Str}{st:Stmt}{f:Addr}{fd:FuncData}{ps:List Str}(F:Fun K x qual st f fd)(h: ∀(kV doc pm:Value)(an:Option Addr)(cdv ct:Value)(us:List Value),us.length=ps.length->bindArgs (W.fnOf x qual (qao st) (qay st) (qad st) .none kV doc pm an cdv ct) ⟨us,[]⟩=pure (ps.zip us)):qaY K fd ps []:=by obtain⟨oc,od,kV,doc,pm,an,cdv,ct,osl,rfl,lk,aI⟩:=F.ex;exact .all (h kV doc pm an cdv ct)
theorem qff{K:W.Frag}{x qual:Str}{st:Stmt}{f:Addr}{oc:Value}{od an:Option Addr}{osl:Array (Option Value)}{kV doc pm cdv ct:Value}(l:K.lookup f=some ⟨oc,od,.func (W.fnOf x qual (qao st) (qay st) (qad st) .none kV doc pm an cdv ct),osl⟩)(c:W.codeIn K cdv qual=true)(k:W.keepIn K (.ref f)=true):Fun K x qual st f (W.fnOf x qual (qao st) (qay st) (qad st) .none kV doc pm an cdv ct):=⟨⟨oc,od,kV,doc,pm,an,cdv,ct,osl,rfl,l,c⟩,k⟩
end
theorem qeH(h:n<=1000):n<sizeLine:=Nat.lt_of_le_of_lt h (by decide)
section
theorem pv{X:Cx}(i:Nat){x:Str}{pos:Pos}(hN:X.N[i]? =some x:=by rfl)(hv:Vis X.env.scope x:=by first|exact Or.inl rfl|exact Or.inr (Or.inl rfl)|exact Or.inr (Or.inr rfl))(hd:(x==("__debug__" :Str))=false:=by decide)(aI:(x==("__classdict__" :Str))=false:=by decide):PE X (.Name x pos) (qqw i):=qg0 hN hv hd aI
end
theorem qvr{A B:Prop}(h:B):if false=true then A else B:=by
 grind
theorem qxF{A B:Prop}(h:A):if true=true then A else B:=by
 grind
noncomputable def clOf(env:Env):List (Str×NameKind)->List (Str×Addr)->List (Str×Addr)
 |[],acc=>acc
 |x::r,acc=>clOf env r (if x.2== .free then(match env.cells.lookup x.1 with|some a=>(x.1,a)::acc|none=>acc) else acc)
theorem qdI: ∀(names:List (Str×NameKind))(acc:List (Str×Addr)),(∀x∈names,x.2= .free->∃c,env.cells.lookup x.1=some c)->
  (forIn names acc λx r=>(match x with|(name,kind)=>if(kind==NameKind.free)=true then do let a <-cellOf env name;pure (ForInStep.yield ((name,a)::r)) else pure (ForInStep.yield r):Sem (ForInStep (List (Str×Addr)))))=pure (clOf env names acc)
 |[],acc,_=>rfl
 |(n,k)::r,acc,h=>by
  rw[List.forIn_cons];have ih:=λiU=>qdI r iU λx hx=>h x (Vk _ hx);by_cases hk:(k==NameKind.free)=true
  ·have fP:=by simpa using hk
   obtain⟨c,hc⟩:=h (n,k) Vj fP;simp only[hk,cellOf,hc,clOf];exact ih _
  ·simp only[hk,clOf];exact ih _
theorem qdJ(h: ∀x∈scope.names,x.2= .free->∃c,env.cells.lookup x.1=some c):closureFor scope env=pure (clOf env scope.names []):=by have e:=qdI _ [] h;exact(congrArg (λm=>m>>=λr=>pure r) e)
theorem qem{x:Str}: ∀(names:List (Str×NameKind))(acc:List (Str×Addr)),(∀y d,acc.lookup y=some d->env.cells.lookup y=some d)->
  (clOf env names acc).lookup x=some c->env.cells.lookup x=some c
 |[],acc,ha,h=>ha x c h
 |(n,k)::r,acc,ha,h=>by
  refine qem r _ (λy d hy=> ?_) h;by_cases hk:(k==NameKind.free)=true
  ·rw[if_pos hk] at hy;cases e:env.cells.lookup n with
   |none=>simp_all
   |some a=>
    rw[e] at hy;rw[List.lookup_cons] at hy;cases hb:y==n with
    |true=>
     simp_all
    |false=>simp_all
  simp_all
theorem qbw{x:Str}: ∀(names:List (Str×NameKind))(acc:List (Str×Addr)),env.cells.lookup x=some c->(acc.lookup x=some c\/(x,NameKind.free)∈names)->
  (clOf env names acc).lookup x=some c
 |[],acc,hc,h=>by
  rcases h with h|h
  ·exact h
  ·cases h
 |(n,k)::r,acc,hc,h=>by
  refine qbw r _ hc ?_;by_cases hk:(k==NameKind.free)=true
  ·rw[if_pos hk];by_cases hn:x=n
   ·simp_all
   ·cases e:env.cells.lookup n with
    |none=>
     grind
    |some a=>
     grind
  ·grind
theorem qbs{env:Env}{x:Str}{k:NameKind}: ∀{names:List (Str×NameKind)},(∀y∈names,y.2≠.cell)->k= .cell\/k= .free->
  (names.map λ(n,k)=>if(k==NameKind.free&&env.scope.kind== .function&&env.kindOf n==some .cell) then(n,NameKind.cell) else(n,k)).lookup x=some k->names.lookup x=some .free
 |[],_,_,h=>by simp at h
 |(n,k')::r,hc,hk,h=>by
  have ih:=@qbs env x k r (λy hy=>hc y (Vk _ hy)) hk;rw[List.map_cons] at h;dsimp only at h;by_cases hf:(k'==NameKind.free&&env.scope.kind== .function&&env.kindOf n==some .cell)=true
  ·rw[if_pos hf] at h;have fP:k'= .free:=by
    grind
   subst fP;cases hx:x==n with
   |true=>simp[List.lookup_cons,hx]
   |false=>simp only[List.lookup_cons,hx] at h⊢;exact ih h
  ·rw[if_neg hf] at h;cases hx:x==n with
   |true=>
    simp_all
   |false=>simp only[List.lookup_cons,hx] at h⊢;exact ih h
theorem qcg{env:Env}{x:Str}: ∀{names:List (Str×NameKind)},names.lookup x=some .free->
  let m:=(names.map λ(n,k)=>if(k==NameKind.free&&env.scope.kind== .function&&env.kindOf n==some .cell) then(n,NameKind.cell) else(n,k)).lookup x
  m=some .cell\/m=some .free
 |[],h=>by simp at h
 |(n,k)::r,h=>by
  have ih:=@qcg env x r;dsimp only at ih⊢;rw[List.map_cons];dsimp only;cases hx:x==n with
  |true=>
   simp only[List.lookup_cons,hx] at h;cases h;by_cases hf:(NameKind.free==NameKind.free&&env.scope.kind== .function&&env.kindOf n==some .cell)=true
   ·rw[if_pos hf];exact .inl (by simp[List.lookup_cons,hx])
   ·rw[if_neg hf];exact .inr (by simp[List.lookup_cons,hx])
  |false=>
   simp only[List.lookup_cons,hx] at h;by_cases hf:(k==NameKind.free&&env.scope.kind== .function&&env.kindOf n==some .cell)=true
   ·rw[if_pos hf];simp only[List.lookup_cons,hx];exact ih h
   ·rw[if_neg hf];simp only[List.lookup_cons,hx];exact ih h
noncomputable def qat(X:Cx)(scope:Scope)(own:List Str)(fr:List (Str×Nat))(fp:List Addr)(s3:Shared)(H3:Hp):Cx where
 prog:=X.prog
 w:=X.w
 K:=X.K
 mg:=X.mg
 base:=X.base
 A:=X.A
 N:=own++fr.map (·.1)
 s₀:=s3
 H₀:=H3
 env:=compEnvC scope (clOf X.env scope.names []) s3.heap.objs.size X.env
 outer:=X.stack
 stack:=X.stack
 ex:=fp
 calm:=X.calm
 fn:=λ_=>false
 pn:=[]
 xe:=λ_ _=>False
noncomputable def qbr(own:List Str)(fr:List (Str×Nat))(Z:St):St:=own.map (λ_=>none)++fr.map λp=>(Z[p.2]?).join
noncomputable def qiv(Y:Cx)(ifs:List Expr)(tt:TT):Prop:=
 ∀(O:List (Addr×Obj))(s:Shared)(Z:St)(H:Hp)(Q:Bool->Hp->Prop),Inv Y O Z H s->tt Z H Q->
  wpAny (model Y.prog Y.w) Y.A (forIn ifs true λc r=>if r=true then do let ok <-isTrue c Y.env (eval c Y.env);pure (ForInStep.yield ok) else pure (ForInStep.yield r)) (TP Y O Z Q) Y.xe s
noncomputable def qn8:TT:=λ_ H Q=>Q true H
theorem qlr:qiv Y [] qn8:=λ_ _ _ H _ I h=>wpAny_tests_nil ⟨H,I,h⟩
theorem qlq(h:PT Y c t):qiv Y [c] t:=λO s Z H Q I q=>wpAny_tests_one (h _ s Z H Q I q)
section
theorem qis(hE: ∀e s',Ex e s'->notedBy (model prog w) A env (λe s'=>R (.error e) s') e s')(J:Nat->Shared->Prop)(turn: ∀n s,J n s->wpAny (model prog w) A (pyNext it) (λr s1=>match r with
   |none=>R (.ok .next) s1
   | some v=>wpAny (model prog w) A (letOwnedTupleGo tg it v) (λ_ s2=>wpAny (model prog w) A (assign tg env v) (λ_ s3=>
     wpAny (model prog w) A (forIn ifs true λc r=>if r=true then do let ok <-isTrue c env (eval c env);pure (ForInStep.yield ok) else pure (ForInStep.yield r)) (λok s4=>
      if ok=true then wpAny (model prog w) A (eval elt env) (λx s5=>wpAny (model prog w) A (call (.builtin "list.append") [acc,x]) (λ_ s6=> ∃m,m<n/\J m s6) Ex s5) Ex s4
      else ∃m,m<n/\J m s4) Ex s3) Ex s2) Ex s1) Ex s)(n:Nat)(h:J n s):codeAny (model prog w) A (.compLoop (.ListComp elt [⟨tg,iter,ifs,0⟩] scope pos) 0 it acc env) R s:=by
 refine codeAny_loop rfl J (λn s hJ=> ?_) n h;refine wpAny_noted ?_;rw[compTurn_list];have go: ∀{α:Type}{t:Sem α}{Q Q':α->Shared->Prop}{s:Shared},wpAny (model prog w) A t Q Ex s->(∀a s,Q a s->Q' a s)->wpAny (model prog w) A t Q' (notedBy (model prog w) A env λe s'=>R (.error e) s') s:=λh hQ=>Vc h hQ hE;refine Va (wpAny_standAt (Va (go (turn n s hJ) λr s1 h1=> ?_)));cases r with
 |none=>exact Vb h1
 |some v=>
  refine Va (go h1 λ_ s2 h2=>Va (go h2 λ_ s3 h3=>Va (go h3 λok s4 h4=> ?_)));cases ok with
  |false=>exact Vb ⟨rfl,h4⟩
  |true=>exact Va (Va (go h4 λx s5 h5=>Va (go h5 λ_ s6 h6=>Vb (Vb ⟨rfl,h6⟩))))
end
noncomputable def qwl(J:It)(D:Addr)(g:TG)(tt:TT)(te:TE)(σ0:St)(H0:Hp)(Q:Addr->Hp->Prop):Prop:=
 ∃W:Nat->Nat->St->Hp->Prop,(∃m,W 0 m σ0 H0)/\∀i m cK H2,W i m cK H2->
  (J.stop i H2/\Q D H2)\/(J.go i H2/\∃(Ny:St->V->Hp->Prop)(Nn:St->Hp->Prop),
   (∀aL y H6,Ny aL y H6->∃ys,H6 D=some (.lst ys)/\ys.length<sizeLine/\∃m',m'<m/\W (i+1) m' aL (upd H6 D (.lst (ys++[y]))))/\
   (∀aL H5,Nn aL H5->∃m',m'<m/\W (i+1) m' aL H5)/\
   ∀x H3,J.yld i H2 x H3->g x cK H3 λaL H4=>tt aL H4 λb H5=>if b=true then te aL H5 (Ny aL) else Nn aL H5)
noncomputable def qeB(wi:TI)(g:TG)(tt:TT)(te:TE)(own:List Str)(fr:List (Str×Nat))(Z:St)(H:Hp)(Q:Addr->Hp->Prop):Prop:=
 wi Z H λJ H1=> ∀D,H1 D=none->qwl J D g tt te (qbr own fr Z) (upd H1 D (.lst [])) Q
section
variable{own:List Str}
theorem qmD{X:Cx}{elt:Expr}{tg:Expr}{iter:Expr}{ifs:List Expr}{scope:Scope}{pos:Pos}{fr:List (Str×Nat)}{wi:TI}{g:TG}{tt:TT}{te:TE}{R:Value->Env->Result->Shared->Prop}{xe:List Addr->Shared->Hp->Value->Shared->Prop}{O:List (Addr×Obj)}{Z:St}{H:Hp}{s:Shared}{Q:Addr->Hp->Prop}(hc:X.calm=true)(hi:PI X tg iter wi)(hk:scope.kind= .function)(ah: ∀y∈scope.names,y.2≠.cell)(ag: ∀y∈scope.names,y.2= .free->X.env.kindOf y.1=some .cell\/X.env.kindOf y.1=some .free)(aR: ∀p∈fr,X.N[p.2]? =some p.1/\scope.names.lookup p.1=some .free)(hb: ∀(fp:List Addr)(s3:Shared)(H3:Hp),PG ((qat X scope own fr fp s3 H3).wish (xe fp s3 H3)) tg g/\qiv ((qat X scope own fr fp s3 H3).wish (xe fp s3 H3)) ifs tt/\PE ((qat X scope own fr fp s3 H3).wish (xe fp s3 H3)) elt te)(I:Inv X O Z H s)(h:qeB wi g tt te own fr Z H Q)(fin: ∀(D:Addr)(ce:Env)(H':Hp)(s':Shared)(m:Str->Option Value),Inv X O Z H' s'->qgD X O H' ce.locals->s'.heap.Ns ce.locals m->Q D H'->R (.ref D) ce (.ok .next) s')(iO: ∀(D:Addr)(fp:List Addr)(s3:Shared)(H3:Hp)(e:Value)(s':Shared),Inv X O Z H3 s3->(∀b∈fp,b<s3.heap.objs.size/\qgD X O H3 b)->xe fp s3 H3 e s'->
   notedBy (model X.prog X.w) X.A (compEnvC scope (clOf X.env scope.names []) s3.heap.objs.size X.env) (λx s''=>R (.ref D) (compEnvC scope (clOf X.env scope.names []) s3.heap.objs.size X.env) (.error x) s'') e s'):
  wpAny (model X.prog X.w) X.A (eval iter X.env) (λx s1=>wpAny (model X.prog X.w) X.A (pyIter x) (λit s2=>wpAny (model X.prog X.w) X.A (newList []) (λacc s3=>
   wpAny (model X.prog X.w) X.A (newFunctionEnv scope X.env.globals (clOf X.env scope.names []) [] X.env.qual none .none (some X.env)) (λce s4=>
    codeAny (model X.prog X.w) X.A (.compStart (.ListComp elt [⟨tg,iter,ifs,0⟩] scope pos) 0 it acc { ce with scope:=relabel scope X.env }) (R acc { ce with scope:=relabel scope X.env }) s4) X.xe s3) X.xe s2) X.xe s1) X.xe s:=by
 have iD: ∀x∈scope.names,x.2= .free->∃c,X.env.cells.lookup x.1=some c:=λx hx e=>I.ok.has x.1 (ag x hx e);refine thn (hi O s Z H _ I h) λxv s1 h1=>thn h1 λitv s2 h2=> ?_;obtain⟨it,fp,tn,J,H2,rfl,I2,T,st2,f2,h2⟩:=h2;refine wpAny_newObj_type (hd:=by size_fits) ?_;generalize hD:s2.heap.objs.size=D;have I3:Inv X O Z (upd H2 D (.lst [])) { s2 with heap:=s2.heap.push { cls:=.type "list",dict:=none,data:=.seq ([]:List Value).toArray } }:=by rw[<-hD];exact I2.lnew (its:=[]) (ys:=[]) (t':=s2.toks) .nil (Nat.zero_le _)
 have nD:H2 D=none:=I2.hok.fresh (Nat.le_of_eq hD);obtain⟨W,⟨m0,w0⟩,turn⟩:=h2 D nD;have f3: ∀b∈fp,b<s2.heap.objs.size/\qgD X O (upd H2 D (.lst [])) b:=λb hb=>by obtain⟨o,e,_⟩:=T.obj _ _ st2 b hb;have lt:=Vi e;exact⟨lt,by rw[qab (by rw[<-hD];exact Vn lt)];exact(f2 b hb).1,(f2 b hb).2⟩
 have eY:tn 0 (s2.heap.push { cls:=.type "list",dict:=none,data:=.seq ([]:List Value).toArray }):=T.keep _ _ _ st2 λb _ o e=>Vg _ e;generalize hs3:({ s2 with heap:=s2.heap.push { cls:=.type "list",dict:=none,data:=.seq ([]:List Value).toArray } }:Shared)=s3 at I3⊢;have jm:s3.heap=s2.heap.push { cls:=.type "list",dict:=none,data:=.seq ([]:List Value).toArray }:=by rw[<-hs3]
 rw[<-jm] at eY;have iZ:s3.heap.objs.size=s2.heap.objs.size+1:=by rw[jm,Heap.size_push]
 generalize fW:upd H2 D (.lst [])=H3 at I3 w0 f3;refine wpAny_newFunctionEnv ah (by intro y hy;simp at hy) (λh4 hn4 hs4=> ?_) hk;have bW: ∀b o,s3.heap.get? b=some o->h4.get? b=some o:=λb o e=>
  (hs4.2 b (Vn (Vi e))).trans (Vg _ e)
 generalize dD:({ s3 with heap:=h4,toks:=s3.toks+([]:List (Str×Value)).length }:Shared)=s4;have eN:s4.heap=h4:=by rw[<-dD]
 have ax: ∀x c,(clOf X.env scope.names []).lookup x=some c->X.env.cells.lookup x=some c:=λx c=>qem _ _ (λ_ _ z=>by cases z);have Y0:Inv ((qat X scope own fr fp s3 H3).wish (xe fp s3 H3)) [] (qbr own fr Z) H3 s4:=by
  refine⟨⟨I3.ok.mod,hk,I3.ok.glob,I3.ok.blt,Vl _,λx y c h1 h2=>I3.ok.inj x y c (ax x c h1) (ax y c h2),λx hx=> ?_,λx c z=>absurd (show false=true from z) Vq,I3.ok.hd,I3.ok.frames,.inl rfl,λb hb=>⟨?_,λx c e=>(f3 b hb).2.2.2.2.2.1 x c (ax x c e)⟩,
   I3.bs,Vp I3.ok.bsz I3.sz,λb o e hb=> ?_,λb hb z=> ?_,I3.stack,I3.stkFree⟩,by rw[<-dD];rfl,by rw[<-dD];exact I3.bare,?_,⟨_,by rw[eN];exact hn4,λi x v e1 e2 e3=> ?_⟩,λx c e=> ?_,I3.hok.fresh (Vl _),λx c e=>I3.freeC x c (ax x c e),λp hp=>absurd (show p∈([]:List (Addr×Obj)) from hp) (by simp),?_,?_⟩
  ·have eK:(relabel scope X.env).names.lookup x=some .cell\/(relabel scope X.env).names.lookup x=some .free:=hx;have hf:scope.names.lookup x=some .free:=by
    rcases eK with z|z
    ·exact qbs ah (.inl rfl) z
    ·exact qbs ah (.inr rfl) z
   obtain⟨c,hc⟩:=iD (x,.free) (Vu hf) rfl;exact⟨c,qbw _ _ hc (.inr (Vu hf))⟩
  ·have:=(f3 b hb).1;exact Vn (Vm this (show s2.heap.objs.size<=s3.heap.objs.size by rw[iZ];exact Nat.le_succ _))
  ·rcases(f3 b hb).2.2.2.2.1 with z|z
   ·exact I3.ok.noex b o e z
   ·exact absurd (Vm (Vi (I3.ok.bs b o e).1) z) (Nat.lt_irrefl _)
  ·rcases List.mem_cons.mp (I3.stkSub b z) with q|q
   ·exact(f3 b hb).2.2.1 q
   ·exact(f3 b hb).2.2.2.1 q
  ·exact Un.kept (by rw[eN];exact bW)
  ·
   have bz:own.length<=i:=by
    by_cases q:own.length<=i
    ·exact q
    ·exfalso;have cg:(own.map (λ_=>(none:Option V))++fr.map λp=>(Z[p.2]?).join)[i]? =some (some v):=e2;rw[List.getElem?_append_left (by simpa using q),List.getElem?_map] at cg;cases q2:own[i]? with
     |none|some z=>rw[q2] at cg;cases cg
   have cg:(own.map (λ_=>(none:Option V))++fr.map λp=>(Z[p.2]?).join)[i]? =some (some v):=e2;rw[List.getElem?_append_right (by simpa using bz),List.getElem?_map,List.length_map] at cg;have iP:(own++fr.map (·.1))[i]? =some x:=e1;rw[List.getElem?_append_right bz,List.getElem?_map] at iP;cases q2:fr[i - own.length]? with
   |none=>rw[q2] at cg;cases cg
   |some p=>
    rw[q2] at iP cg;obtain rfl:p.1=x:=Option.some.inj iP;have e4:(Z[p.2]?).join=some v:=Option.some.inj cg;have e5:Z[p.2]? =some (some v):=by
     cases q3:Z[p.2]? with
     |none=>rw[q3] at e4;cases e4
     |some z=>rw[q3] at e4;exact congrArg some e4
    obtain⟨g1,g2⟩:=aR p (Vt q2);have kx:=ag (p.1,.free) (Vu g2) rfl;obtain⟨mX,hnX,hlX⟩:=I3.loc;obtain⟨u,ru,lu⟩:=hlX p.2 p.1 v g1 e5 (kx.elim (λz=>.inr (.inl z)) λz=>.inr (.inr z));refine⟨u,ru,.inr ⟨qcg g2,?_⟩⟩
    rcases lu with⟨z,_⟩|⟨_,c,e6,e7⟩
    ·rcases kx with kx|kx
     ·rw[kx] at z;cases z
     ·rw[kx] at z;cases z
    ·obtain⟨oc,eM,hd⟩:=e7;exact⟨c,qbw _ _ e6 (.inr (Vu g2)),oc,by rw[eN];exact bW _ _ eM,hd⟩
  ·obtain⟨v,oc,eM,hd⟩:=I3.cell x c (ax x c e);exact⟨v,oc,by rw[eN];exact bW _ _ eM,hd⟩
  ·exact I3.hok.kept (by rw[eN];exact bW)
  ·show(own.map (λ_=>(none:Option V))++fr.map λp=>(Z[p.2]?).join).length=(own++fr.map (·.1)).length;simp
 have fY: ∀{H':Hp},(∀b∈fp,H' b=none)->∀b∈fp,qgD ((qat X scope own fr fp s3 H3).wish (xe fp s3 H3)) [] H' b:=λ{H'} hn b hb=>
  ⟨hn b hb,(Y0.ok.exf b hb).1,Y0.ok.exfs b hb,.inl hb,(Y0.ok.exf b hb).2,λp hp=>absurd (show p∈([]:List (Addr×Obj)) from hp) (by simp)⟩
 have i4:tn 0 s4.heap:=T.keep _ _ _ eY (by rw[eN];exactλb _ o e=>bW b o e);have jq:((qat X scope own fr fp s3 H3).wish (xe fp s3 H3)).calm=true:=hc;obtain⟨hg,ht,he⟩:=hb fp s3 H3;have loop:codeAny (model X.prog X.w) X.A (.compLoop (.ListComp elt [⟨tg,iter,ifs,0⟩] scope pos) 0 (.ref it) (.ref D) (compEnvC scope (clOf X.env scope.names []) s3.heap.objs.size X.env)) (R (.ref D) (compEnvC scope (clOf X.env scope.names []) s3.heap.objs.size X.env)) s4:=by
  refine qis (Ex:=xe fp s3 H3) (λe s' q=>iO D fp s3 H3 e s' I3 (λb hb=>⟨Vm (f3 b hb).1 (by rw[iZ];exact Nat.le_succ _),(f3 b hb).2⟩) q) (λn s'=> ∃i ae H',Inv ((qat X scope own fr fp s3 H3).wish (xe fp s3 H3)) [] ae H' s'/\tn i s'.heap/\(∀b∈fp,H' b=none)/\W i n ae H') ?_ m0 ⟨0,_,_,Y0,i4,λb hb=>(f3 b hb).2.1,w0⟩;rintro n s5 ⟨i,cJ,H5,I5,eF,gL,w5⟩
  rcases turn i n cJ H5 w5 with⟨stop,q⟩|⟨go,Ny,Nn,hNy,hNn,step⟩
  ·refine thn (T.done ((qat X scope own fr fp s3 H3).wish (xe fp s3 H3)) rfl rfl rfl jq i [] s5 cJ H5 _ I5 (fY gL) eF stop) λr s6 fH=> ?_;obtain⟨hr,I6⟩:=fH;subst hr;have IX:Inv X O Z H5 s6:=I3.call' (ch:=fp) I6.os I6.base I6.hok I6.bare λb hb=>⟨(f3 b hb).2.2.2.2.1,(f3 b hb).2.2.1,(f3 b hb).2.2.2.2.2.1,(f3 b hb).2.2.2.2.2.2⟩
   obtain⟨m6,hn6,_⟩:=I6.loc;exact fin D _ H5 s6 m6 IX (I3.fpOk (Vl _) I6.free) hn6 q
  ·refine thn (T.item ((qat X scope own fr fp s3 H3).wish (xe fp s3 H3)) rfl rfl rfl jq i [] s5 cJ H5 _ I5 (fY gL) eF go) λr s6 fG=> ?_;obtain⟨u,hr,h6⟩:=fG;subst hr;refine thn h6 λ_ s7 fF=> ?_;obtain⟨x,H7,I7,r7,y7,gU,fr7⟩:=fF;have I7':=I7.pinned (fY fr7) (T.obj _ _ gU);refine thn (hg _ s7 cJ H7 x u _ I7' r7 (step x H7 y7)) λ_ s8 fE=> ?_;obtain⟨bP,H8,I8,q8⟩:=fE;refine thn (ht _ s8 bP H8 _ I8 q8) λb s9 fB=> ?_;obtain⟨H9,I9,q9⟩:=fB;have again: ∀{s':Shared}{H':Hp}{m':Nat},Inv ((qat X scope own fr fp s3 H3).wish (xe fp s3 H3)) ([]++qeS fp s7.heap) bP H' s'->m'<n->W (i+1) m' bP H'->∃m,m<n/\∃i ae H',Inv ((qat X scope own fr fp s3 H3).wish (xe fp s3 H3)) [] ae H' s'/\tn i s'.heap/\(∀b∈fp,H' b=none)/\W i m ae H':=λ{s' H' m'} I' hm w'=>by refine⟨m',hm,i+1,bP,H',I'.unpinned,T.keep _ _ _ gU λb hb o e=>(I'.pin (b,o) (Vs _ (Vs _ (qbE hb e)))).1,λb hb=> ?_,w'⟩;obtain⟨o,e,d⟩:=T.obj _ _ gU b hb;exact(I'.pin (b,o) (Vs _ (Vs _ (qbE hb e)))).2.1
   cases b with
   |false=>obtain⟨m',hm,w'⟩: ∃m',m'<n/\W (i+1) m' bP H9:=hNn bP H9 (by simpa using q9);show ∃m,_;exact again I9 hm w'
   |true=>
    have q9':te bP H9 (Ny bP):=by simpa using q9
    show wpAny _ _ _ _ _ _;refine thn (he _ s9 bP H9 _ I9 q9') λxv s10 fA=> ?_;obtain⟨y,jQ,I10,r10,q10⟩:=fA;obtain⟨ys,hys,hlen,m',hm,w'⟩:=hNy bP y jQ q10;refine thn (qeY _ s10 bP jQ (.ref D) [y] (.ref D) [xv] (λ_ H'=> ∃m',m'<n/\W (i+1) m' bP H') I10 rfl (.cons r10 .nil) ⟨D,ys,y,rfl,rfl,hys,hlen,m',hm,w'⟩) λ_ s11 fw=> ?_;obtain⟨_,H11,I11,_,m2,cQ,w2⟩:=fw;exact again I11 cQ w2
 refine codeAny_compStart_list ?_ ?_
 ·exact loop
 ·exact T.self X.A 0 s4 _ _ i4 loop
theorem comp_core{X:Cx}{elt:Expr}{tg:Expr}{iter:Expr}{ifs:List Expr}{scope:Scope}{pos:Pos}{gW:Pos}{fr:List (Str×Nat)}{wi:TI}{g:TG}{tt:TT}{te:TE}{use:Option (Value->Sem Unit)}{Qf:Value->Shared->Prop}{O:List (Addr×Obj)}{Z:St}{H:Hp}{s:Shared}{Q:Addr->Hp->Prop}(hc:X.calm=true)(hi:PI X tg iter wi)(hk:scope.kind= .function)(ah: ∀y∈scope.names,y.2≠.cell)(aw: ∀y∈scope.names,y.2= .local->scope.names.lookup y.1=some .local)(ag: ∀y∈scope.names,y.2= .free->X.env.kindOf y.1=some .cell\/X.env.kindOf y.1=some .free)(aR: ∀p∈fr,X.N[p.2]? =some p.1/\scope.names.lookup p.1=some .free)(hb: ∀(fp:List Addr)(s3:Shared)(H3:Hp),PG (qat X scope own fr fp s3 H3) tg g/\qiv (qat X scope own fr fp s3 H3) ifs tt/\PE (qat X scope own fr fp s3 H3) elt te)(hs: ∀x,foldedSetIterable iter X.env x=pure x)(I:Inv X O Z H s)(h:qeB wi g tt te own fr Z H Q)(fin: ∀(D C:Addr)(H':Hp)(s':Shared)(m:Str->Option Value),Inv X O Z H' s'->qgD X O H' C->s'.heap.Ns C m->Q D H'->compPost (model X.prog X.w) X.A X.xe use Qf (.ref D) C (.ok .next) s'):
  wpAny (model X.prog X.w) X.A (comprehension (.ListComp elt [⟨tg,iter,ifs,0⟩] scope pos) scope X.env gW (newList []) false (eval iter X.env) use) Qf X.xe s:=
 wpAny_comprehension_free rfl hs (qdJ λx hx e=>I.ok.has x.1 (ag x hx e)) hk aw
  (qmD (R:=λacc ce=>compPost _ X.A _ use Qf acc ce.locals) hc hi hk ah ag aR hb I h (λD ce=>fin D _) λ_ _ _ _ _ _ _ _ z=>z.elim)
theorem qoF(hc:X.calm=true)(hi:PI X tg iter wi)(hk:scope.kind= .function)(ah: ∀y∈scope.names,y.2≠.cell)(aw: ∀y∈scope.names,y.2= .local->scope.names.lookup y.1=some .local)(ag: ∀y∈scope.names,y.2= .free->X.env.kindOf y.1=some .cell\/X.env.kindOf y.1=some .free)(aR: ∀p∈fr,X.N[p.2]? =some p.1/\scope.names.lookup p.1=some .free)(hb: ∀(fp:List Addr)(s3:Shared)(H3:Hp),PG (qat X scope own fr fp s3 H3) tg g/\qiv (qat X scope own fr fp s3 H3) ifs tt/\PE (qat X scope own fr fp s3 H3) elt te)(hs: ∀x,foldedSetIterable iter X.env x=pure x:=by intro _; rfl):
  PE X (.ListComp elt [⟨tg,iter,ifs,0⟩] scope pos) (λZ H Q=>qeB wi g tt te own fr Z H λD H'=>Q (.ref D) H'):=by intro O s Z H Q I h;refine comp_core hc hi hk ah aw ag aR hb hs I h λD C H' s' m I' f' hn q=> ?_;obtain⟨f0,f1,f2,f3,f4,f5⟩:=f';exact⟨m,hn,λh' fm=>⟨.ref D,H',I'.turned (λb o hb e=>(fm.2 b hb).trans e) f0 f1 f3 f4 f5,rfl,q⟩⟩
theorem ps_setcomp{y:Str}(hc:X.calm=true)(hi:PI X tg iter wi)(hk:scope.kind= .function)(ah: ∀y∈scope.names,y.2≠.cell)(aw: ∀y∈scope.names,y.2= .local->scope.names.lookup y.1=some .local)(ag: ∀y∈scope.names,y.2= .free->X.env.kindOf y.1=some .cell\/X.env.kindOf y.1=some .free)(aR: ∀p∈fr,X.N[p.2]? =some p.1/\scope.names.lookup p.1=some .free)(hb: ∀(fp:List Addr)(s3:Shared)(H3:Hp),PG (qat X scope own fr fp s3 H3) tg g/\qiv (qat X scope own fr fp s3 H3) ifs tt/\PE (qat X scope own fr fp s3 H3) elt te)(hN:X.N.Nodup)(iy:X.N[i]? =some y)(hy:X.env.scope.names.lookup y=some .local)(bK:swapsWith (.ListComp elt [⟨tg,iter,ifs,0⟩] scope pos) (some (.Name y py)) spos.line X.env=pure true)(hs: ∀x,foldedSetIterable iter X.env x=pure x:=by intro _; rfl):
  PS X (.Assign [.Name y py] (.ListComp elt [⟨tg,iter,ifs,0⟩] scope pos) spos) (λD Z H=>qeB wi g tt te own fr Z H λd H'=>D.nx (Z.set i (some (.ref d))) H'):=by
 intro O s Z H D I h;rw[exec_Assign_Name_used _ _ _ _ bK];refine Va (wpAny_standAt (Va ?_));refine Va (thn (comp_core (use:=some (assign (.Name y py) X.env)) (Qf:=λ_ s'=>SP X O D .next s') hc hi hk ah aw ag aR hb hs I h λd C H' s' m I' f' hn q=> ?_) λ_ s' hq=>Vb (Vb hq));obtain⟨f0,f1,f2,f3,f4,f5⟩:=id f';show wpAny _ _ (assign (.Name y py) X.env (.ref d)) _ _ s';refine wpAny_assign_Name (qeC I' hN iy (.inl hy) (v:=.ref d) rfl (λs'' I'' ⟨a,sb,ha⟩=> ?_) (.inr hy));have dM:C≠a:=by
  rcases ha with rfl|ha
  ·exact f1
  ·exactλz=>f4 y a ha z.symm
 refine⟨m,hn.sameBut sb dM,λh' fm=>⟨_,H',I''.turned (t':=s''.toks) (λb o hb e=>(fm.2 b hb).trans e) f0 f1 f3 f4 f5,q⟩⟩
end
end L2
namespace St
open PySem.W PyProof.Rows
noncomputable def qdE{α:Type}(N:Nat)(ask:Nat->Nat->Bool):KasT α->(α->Prop)->Prop
 |.ret a,Q=>Q a
 |.ask i j k,Q=>i<N/\j<N/\qdE N ask (k (ask i j)) Q
theorem qba{α β:Type}{N:Nat}{ask:Nat->Nat->Bool}{f:α->KasT β}{Q:β->Prop}: ∀{t:KasT α},qdE N ask t (λa=>qdE N ask (f a) Q)->qdE N ask (t.bind f) Q
 |.ret _,h=>h
 |.ask _ _ _,⟨h1,h2,h⟩=>⟨h1,h2,qba h⟩
theorem qaL{α:Type}{N:Nat}{ask:Nat->Nat->Bool}{Q Q':α->Prop}(hq: ∀a,Q a->Q' a): ∀{t:KasT α},qdE N ask t Q->qdE N ask t Q'
 |.ret _,h=>hq _ h
 |.ask _ _ _,⟨h1,h2,h⟩=>⟨h1,h2,qaL hq h⟩
noncomputable def g(p:Array Nat)(i:Nat):Nat:=p.getD i 0
theorem qsz(h:p[i]? =q[j]?):g p i=g q j:=by
 unfold g
 simp_all
theorem ql9(hj:j<=p.size)(t:Nat):g (kas_rev p i j) t=if i<=t/\t<j then g p (i+j - 1 - t) else g p t:=by
 have e:=getElem?_mirror_all (i:=i) hj t;by_cases h1:i<=t/\t<j
 ·rw[if_pos h1] at e⊢;exact qsz e
 ·rw[if_neg h1] at e⊢;exact qsz e
theorem qvz(hk:k<p.size)(hl:l<=k)(t:Nat):g (bubble p k (k - l)) t=if t=l then g p k else if l<t/\t<=k then g p (t - 1) else g p t:=by
 have e:=getElem?_bubble hk (k - l) (Nat.sub_le _ _) t;rw[show k - (k - l)=l by lia] at e;by_cases h1:t=l
 ·rw[if_pos h1] at e⊢;exact qsz e
 ·rw[if_neg h1] at e⊢;by_cases h2:l<t/\t<=k
  ·rw[if_pos h2] at e⊢;exact qsz e
  ·rw[if_neg h2] at e⊢;exact qsz e
theorem qdX(p:Array Nat)(i j:Nat):(kas_rev p i j).size=p.size:=mirror_size _ _ _ _
section
variable(N:Nat)(k:Nat->Int)
noncomputable def L(a b:Nat):Prop:=k a<k b\/(k a=k b/\a<b)
structure Pre(n:Nat)(p:Array Nat):Prop where
 sz:p.size=N
 lo: ∀i,i<n->g p i<n
 hi: ∀i,n<=i->i<N->g p i=i
noncomputable def Srt(p:Array Nat)(n:Nat):Prop:= ∀i j,i<j->j<n->L k (g p i) (g p j)
noncomputable def Dsc(p:Array Nat)(n:Nat):Prop:= ∀i j,i<j->j<n->L k (g p j) (g p i)
structure qqu(p:Array Nat)(n q:Nat):Prop where
 pre:Pre N n p
 q1:q+1<=n
 a: ∀i j,i<j->j<n - (q+1)->L k (g p j) (g p i)
 b: ∀i j,i<n - (q+1)->n - (q+1)<=j->j<n->k (g p j)<k (g p i)
 c: ∀i j,n - (q+1)<=i->i<j->j<n->k (g p i)=k (g p j)/\g p i<g p j
noncomputable def asks:Nat->Nat->Bool:=λi j=>decide (k i<k j)
end
section
theorem Pre.lt(h:Pre N n p)(hn:n<=N)(hi:i<N):g p i<N:=by
 by_cases q:i<n
 ·exact Vm (h.lo i q) hn
 ·rw[h.hi i (by lia) hi];exact hi
theorem L.le(h:L k a b):k a<=k b:=by
 rcases h with h|h
 ·lia
 ·lia
theorem Pre.more(h:Pre N n p)(hn:n<N):Pre N (n+1) p:=
 ⟨h.sz,λi hi=>by
  by_cases q:i<n
  ·exact Nat.lt_succ_of_lt (h.lo i q)
  ·have e:i=n:=by lia
   subst e;rw[h.hi i (Nat.le_refl _) hn];lia,λi h1 h2=>h.hi i (by lia) h2⟩
theorem qkH{N:Nat}{k:Nat->Int}{p:Array Nat}: ∀(f n:Nat),1<=n->n+f<=N->Pre N n p->Srt k p n->
  qdE N (asks k) (kas_asc p f n) λm=>n<=m/\m<=n+f/\Pre N m p/\Srt k p m/\(m=n+f\/k (g p m)<k (g p (m - 1)))
 |0,n,h1,hf,hp,hs=>⟨Vl _,Vl _,hp,hs,.inl rfl⟩
 |f+1,n,h1,hf,hp,hs=>by
  refine⟨hp.lt (by lia) (by lia),hp.lt (by lia) (by lia),?_⟩;show qdE N (asks k) (if asks k (g p n) (g p (n - 1))=true then .ret n else kas_asc p f (n+1)) _;by_cases hc:k (g p n)<k (g p (n - 1))
  ·rw[if_pos (by simpa [asks] using hc)];exact⟨Vl _,by lia,hp,hs,.inr hc⟩
  ·rw[if_neg (by simpa [asks] using hc)];have fm:Srt k p (n+1):=λi j aS hj=>by
    by_cases q:j<n
    ·exact hs i j aS q
    ·have e:j=n:=by lia
     subst e;have en:=hp.hi j (Vl _) (by lia);have lt:=hp.lo i aS;have le:k (g p i)<=k (g p (j - 1)):=by
      by_cases q2:i=j - 1
      ·rw[q2];exact Int.le_refl _
      ·exact(hs i (j - 1) (by lia) (by lia)).le
     unfold L;rw[en] at hc⊢;lia
   refine qaL (λm h=> ?_) (qkH f (n+1) (by lia) (by lia) (hp.more (by lia)) fm);obtain⟨a,b,c,d,e⟩:=h;exact⟨by lia,by lia,c,d,e.elim (λz=>.inl (by lia)) .inr⟩
noncomputable def fin(p:Array Nat)(n q:Nat):Array Nat:=if q>0 then kas_rev p (n - (q+1)) n else p
theorem qqu.fin(h:qqu N k p n q)(hn:n<=N):Pre N n (fin p n q)/\Dsc k (fin p n q) n:=by
 unfold St.fin;by_cases hq:q>0
 ·rw[if_pos hq];have gr:=ql9 (p:=p) (i:=n - (q+1)) (j:=n) (by rw[h.pre.sz];exact hn);refine⟨⟨by rw[qdX];exact h.pre.sz,λi hi=> ?_,λi h1 h2=> ?_⟩,λi j aS hj=> ?_⟩
  ·rw[gr];split
   ·exact h.pre.lo _ (by lia)
   ·exact h.pre.lo _ hi
  ·rw[gr,if_neg (by lia)];exact h.pre.hi i h1 h2
  ·rw[gr,gr];have jj:=h.q1;by_cases q1:n - (q+1)<=j
   ·rw[if_pos (show n - (q+1)<=j/\j<n from⟨q1,hj⟩)];by_cases q2:n - (q+1)<=i
    ·rw[if_pos (show n - (q+1)<=i/\i<n from⟨q2,by lia⟩)];have e:=h.c (n - (q+1)+n - 1 - j) (n - (q+1)+n - 1 - i) (by lia) (by lia) (by lia);exact .inr e
    ·rw[if_neg (by lia)];exact .inl (h.b i _ (by lia) (by lia) (by lia))
   ·rw[if_neg (by lia),if_neg (by lia)];exact h.a i j aS (by lia)
 ·rw[if_neg hq];have e:q=0:=by lia
  subst e;refine⟨h.pre,λi j aS hj=> ?_⟩;have jj:=h.q1;by_cases q1:j<n - (0+1)
  ·exact h.a i j aS q1
  ·exact .inl (h.b i j (by lia) (by lia) hj)
theorem qgg{N:Nat}{k:Nat->Int}: ∀(f:Nat)(p:Array Nat)(n q:Nat),n+f<=N->qqu N k p n q->
  qdE N (asks k) (kas_desc f p n q) λr=>n<=r.2.1/\r.2.1<=n+f/\qqu N k r.1 r.2.1 r.2.2
 |0,p,n,q,hf,h=>⟨Vl _,Vl _,h⟩
 |f+1,p,n,q,hf,h=>by
  have jj:=h.q1;have lt: ∀{i},i<N->g p i<N:=λhi=>h.pre.lt (by lia) hi;refine⟨lt (by lia),lt (by lia),?_⟩;have en:=h.pre.hi n (Vl _) (by lia)
  show qdE N (asks k) (if asks k (g p n) (g p (n - 1))=true then(if q>0 then kas_desc f (kas_rev p (n - (q+1)) n) (n+1) 0 else kas_desc f p (n+1) 0)
   else .ask (g p (n - 1)) (g p n) λd=>if d=true then .ret (p,n,q) else kas_desc f p (n+1) (q+1)) _
  have kle: ∀i,i<n->k (g p (n - 1))<=k (g p i):=λi hi=>by
   by_cases q1:i<n - (q+1)
   ·exact Int.le_of_lt (h.b i (n - 1) q1 (by lia) (by lia))
   ·by_cases q2:i=n - 1
    ·rw[q2];exact Int.le_refl _
    ·exact Int.le_of_eq (h.c i (n - 1) (by lia) (by lia) (by lia)).1.symm
  by_cases hc:k (g p n)<k (g p (n - 1))
  ·rw[if_pos (by simpa [asks] using hc)];have key:qqu N k (fin p n q) (n+1) 0:=by
    obtain⟨fp,fd⟩:=h.fin (by lia);have e2:=fp.hi n (Vl _) (by lia);refine⟨fp.more (by lia),by lia,λi j aS hj=>fd i j aS (by lia),λi j hi h1 h2=> ?_,λi j h1 h2 h3=>by lia⟩;have ej:j=n:=by lia
    subst ej;rw[e2];rw[en] at hc;refine Int.lt_of_lt_of_le hc ?_;have: ∃i',i'<j/\g (fin p j q) i=g p i':=by
     unfold St.fin;by_cases hq:q>0
     ·rw[if_pos hq,ql9 (by rw[h.pre.sz];lia)];split
      ·exact⟨_,by lia,rfl⟩
      ·exact⟨i,by lia,rfl⟩
     ·rw[if_neg hq];exact⟨i,by lia,rfl⟩
    obtain⟨i',bz,e3⟩:=this;rw[e3];exact kle i' bz
   have e:(if q>0 then kas_desc f (kas_rev p (n - (q+1)) n) (n+1) 0 else kas_desc f p (n+1) 0)=kas_desc f (fin p n q) (n+1) 0:=by
    unfold St.fin
    split<;>rfl
   rw[e];refine qaL (λr hr=>⟨by lia,by lia,hr.2.2⟩) (qgg f (fin p n q) (n+1) 0 (by lia) key)
  ·rw[if_neg (by simpa [asks] using hc)];refine⟨lt (by lia),lt (by lia),?_⟩;show qdE N (asks k) (if asks k (g p (n - 1)) (g p n)=true then .ret (p,n,q) else kas_desc f p (n+1) (q+1)) _;by_cases hd:k (g p (n - 1))<k (g p n)
   ·rw[if_pos (by simpa [asks] using hd)];exact⟨Vl _,Nat.le_add_right _ _,h⟩
   ·rw[if_neg (by simpa [asks] using hd)];have ek:k (g p n)=k (g p (n - 1)):=by lia
    have key:qqu N k p (n+1) (q+1):=by
     refine⟨h.pre.more (by lia),by lia,λi j aS hj=>h.a i j aS (by lia),λi j hi h1 h2=> ?_,λi j h1 h2 h3=> ?_⟩
     ·by_cases e:j=n
      ·subst e;rw[ek];exact h.b i (j - 1) (by lia) (by lia) (by lia)
      ·exact h.b i j (by lia) (by lia) (by lia)
     ·by_cases e:j=n
      ·subst e;refine⟨?_,?_⟩
       ·rw[ek];by_cases e2:i=j - 1
        ·rw[e2]
        ·exact(h.c i (j - 1) (by lia) (by lia) (by lia)).1
       ·rw[en];exact h.pre.lo i h2
      ·exact h.c i j (by lia) h2 (by lia)
    exact qaL (λr hr=>⟨by lia,by lia,hr.2.2⟩) (qgg f p (n+1) (q+1) (by lia) key)
noncomputable def Out(N:Nat)(k:Nat->Int)(r:Nat×Array Nat):Prop:=1<=r.1/\r.1<=N/\Pre N r.1 r.2/\Srt k r.2 r.1
theorem qn3{N:Nat}{k:Nat->Int}{p:Array Nat}{n:Nat}(h1:1<=n)(hn:n<=N)(hp:Pre N n p)(hd:Dsc k p n):qdE N (asks k) (kas_tail3 n N p) (Out N k):=by
 have gr:=ql9 (p:=p) (i:=0) (j:=n) (by rw[hp.sz];exact hn);refine qba (qaL (λm h=> ?_) (qkH (p:=kas_rev p 0 n) (N - n) n h1 (by lia) ⟨by rw[qdX];exact hp.sz,λi hi=> ?_,λi h2 h3=> ?_⟩ λi j aS hj=> ?_))
 ·exact⟨by lia,by lia,h.2.2.1,h.2.2.2.1⟩
 ·rw[gr,if_pos ⟨Nat.zero_le _,hi⟩];exact hp.lo _ (by lia)
 ·rw[gr,if_neg (by lia)];exact hp.hi i h2 h3
 ·rw[gr,gr,if_pos ⟨Nat.zero_le _,by lia⟩,if_pos ⟨Nat.zero_le _,hj⟩];exact hd _ _ (by lia) (by lia)
theorem qc6{N:Nat}{k:Nat->Int}{p:Array Nat}{n:Nat}(hn:n+1<=N)(h:qqu N k p (n+1) 0):qdE N (asks k) (kas_descPart n N p) (Out N k):=by
 refine qba (qaL (λr hr=> ?_) (qgg (N - (n+1)) p (n+1) 0 (by lia) h));obtain⟨h1,h2,h3⟩:=hr;obtain⟨f1,f2⟩:=h3.fin (by lia);have e:(if r.2.2>0 then kas_tail3 r.2.1 N (kas_rev r.1 (r.2.1 - (r.2.2+1)) r.2.1) else kas_tail3 r.2.1 N r.1)=kas_tail3 r.2.1 N (fin r.1 r.2.1 r.2.2):=by
  unfold St.fin
  split<;>rfl
 rw[e];exact qn3 (by lia) (by lia) f1 f2
theorem qmC{N:Nat}{k:Nat->Int}{p:Array Nat}(hN:1<=N)(hp:Pre N 1 p):qdE N (asks k) (kas_count N p) (Out N k):=by
 refine qba (qaL (λn h=> ?_) (qkH (p:=p) (N - 1) 1 (Vl _) (by lia) hp λi j h1 h2=>by lia));obtain⟨h1,h2,h3,h4,h5⟩:=h;by_cases e:n=N
 ·rw[if_pos (by simpa using e)];exact⟨h1,by lia,h3,h4⟩
 ·rw[if_neg (by simpa using e)];have bx:k (g p n)<k (g p (n - 1)):=h5.resolve_left (by lia);by_cases hg:n>1
  ·rw[if_pos hg];refine⟨h3.lt (by lia) (by lia),h3.lt (by lia) (by lia),?_⟩;show qdE N (asks k) (if asks k (g p 0) (g p (n - 1))=true then .ret (n,p) else kas_descPart n N (kas_rev p 0 n)) _;by_cases hc:k (g p 0)<k (g p (n - 1))
   ·rw[if_pos (by simpa [asks] using hc)];exact⟨h1,by lia,h3,h4⟩
   ·rw[if_neg (by simpa [asks] using hc)];have gr:=ql9 (p:=p) (i:=0) (j:=n) (by rw[h3.sz];lia);have g9: ∀i,i<n->k (g p i)=k (g p (n - 1)):=λi hi=>by
     have a1:k (g p 0)<=k (g p i):=by
      by_cases q:i=0
      ·rw[q];exact Int.le_refl _
      ·exact(h4 0 i (by lia) hi).le
     have a2:k (g p i)<=k (g p (n - 1)):=by
      by_cases q:i=n - 1
      ·rw[q];exact Int.le_refl _
      ·exact(h4 i (n - 1) (by lia) (by lia)).le
     lia
    refine qc6 (by lia) ⟨Pre.more ⟨by rw[qdX];exact h3.sz,λi hi=> ?_,λi q1 q2=> ?_⟩ (by lia),by lia,λi j aS hj=> ?_,λi j hi q1 q2=> ?_,λi j q1 q2 q3=>by lia⟩
    ·rw[gr,if_pos ⟨Nat.zero_le _,hi⟩];exact h3.lo _ (by lia)
    ·rw[gr,if_neg (by lia)];exact h3.hi i q1 q2
    ·rw[gr,gr,if_pos ⟨Nat.zero_le _,by lia⟩,if_pos ⟨Nat.zero_le _,by lia⟩];exact h4 _ _ (by lia) (by lia)
    ·have ej:j=n:=by lia
     subst ej;have bz:i<j:=by simpa using hi
     have e1:g (kas_rev p 0 j) j=g p j:=by rw[gr,if_neg (by lia)]
     have e2:g (kas_rev p 0 j) i=g p (0+j - 1 - i):=by rw[gr,if_pos ⟨Nat.zero_le _,bz⟩]
     rw[e1,e2,g9 (0+j - 1 - i) (by lia)];exact bx
  ·rw[if_neg hg];have e1:n=1:=by lia
   subst e1;refine qc6 (by lia) ⟨h3.more (by lia),by lia,λi j aS hj=>by lia,λi j hi q1 q2=> ?_,λi j q1 q2 q3=>by lia⟩;have ei:i=0:=by lia
   have ej:j=1:=by lia
   subst ei ej;exact bx
theorem qd0(hn:n<N)(hp:Pre N n p)(hs:Srt k p n): ∀(f l r:Nat),l<=r->r<=n->r - l<=f->(∀i,i<l->k (g p i)<=k (g p n))->(∀i,r<=i->i<n->k (g p n)<k (g p i))->
  qdE N (asks k) (kas_place p n f l r) λm=>m<=n/\(∀i,i<m->k (g p i)<=k (g p n))/\∀i,m<=i->i<n->k (g p n)<k (g p i)
 |0,l,r,h1,h2,h3,hl,hr=>⟨by lia,hl,λi q1 q2=>hr i (by lia) q2⟩
 |f+1,l,r,h1,h2,h3,hl,hr=>by
  unfold kas_place;by_cases dS:l≥r
  ·rw[if_pos dS];exact⟨by lia,hl,λi q1 q2=>hr i (by lia) q2⟩
  ·rw[if_neg dS];refine⟨hp.lt (by lia) hn,hp.lt (by lia) (by lia),?_⟩;show qdE N (asks k) (if asks k (g p n) (g p ((l+r) / 2))=true then kas_place p n f l ((l+r) / 2) else kas_place p n f ((l+r) / 2+1) r) _;have srt: ∀i j,i<=j->j<n->k (g p i)<=k (g p j):=λi j aS hj=>by
    by_cases q:i=j
    ·rw[q];exact Int.le_refl _
    ·exact(hs i j (by lia) hj).le
   by_cases hc:k (g p n)<k (g p ((l+r) / 2))
   ·rw[if_pos (by simpa [asks] using hc)];exact qd0 hn hp hs f l _ (by lia) (by lia) (by lia) hl λi q1 q2=>Int.lt_of_lt_of_le hc (srt _ _ q1 q2)
   ·rw[if_neg (by simpa [asks] using hc)];refine qd0 hn hp hs f _ r (by lia) (by lia) (by lia) (λi q1=> ?_) hr;have:=srt i ((l+r) / 2) (by lia) (by lia);lia
theorem bin_ok{N:Nat}{k:Nat->Int}: ∀(f:Nat)(p:Array Nat)(n:Nat),n+f=N->Pre N n p->Srt k p n->qdE N (asks k) (kas_bin f p n) λp'=>Pre N N p'/\Srt k p' N
 |0,p,n,hf,hp,hs=>by
  have e:n=N:=by lia
  subst e;exact⟨hp,hs⟩
 |f+1,p,n,hf,hp,hs=>by
  refine qba (qaL (λl h=> ?_) (qd0 (by lia) hp hs n 0 n (by lia) (Vl _) (by lia) (λi q=>by lia) λi q1 q2=>by lia));obtain⟨h1,h2,h3⟩:=h;have gb:=qvz (p:=p) (k:=n) (l:=l) (by rw[hp.sz];lia) h1;have en:=hp.hi n (Vl _) (by lia);refine bin_ok f _ (n+1) (by lia) ⟨by rw[bubble_size];exact hp.sz,λi hi=> ?_,λi q1 q2=> ?_⟩ λi j aS hj=> ?_
  ·rw[gb];split
   ·rw[en];lia
   ·split
    ·exact Nat.lt_succ_of_lt (hp.lo _ (by lia))
    ·exact Nat.lt_succ_of_lt (hp.lo _ (by lia))
  ·rw[gb,if_neg (by lia),if_neg (by lia)];exact hp.hi i (by lia) q2
  ·rw[gb,gb];by_cases c1:j=l
   ·rw[if_pos c1,if_neg (by lia),if_neg (by lia)];have a1:=h2 i (by lia);have a2:=hp.lo i (by lia);unfold L;rw[en] at a1⊢;lia
   ·rw[if_neg c1];by_cases c2:l<j/\j<=n
    ·rw[if_pos c2];by_cases c3:i=l
     ·rw[if_pos c3];exact .inl (h3 _ (by lia) (by lia))
     ·rw[if_neg c3];by_cases c4:l<i/\i<=n
      ·rw[if_pos c4];exact hs _ _ (by lia) (by lia)
      ·rw[if_neg c4];exact hs _ _ (by lia) (by lia)
    ·rw[if_neg c2,if_neg (by lia),if_neg (by lia)];exact hs _ _ aS (by lia)
theorem qoc{N:Nat}{k:Nat->Int}(hN:1<=N):qdE N (asks k) (kas_sort N) λp=>Pre N N p/\Srt k p N:=by
 have gr: ∀i,i<N->g (List.toArray (List.range N)) i=i:=λi hi=>by
  unfold g
  simp_all
 refine qba (qaL (λr h=> ?_) (qmC hN ⟨by simp,λi hi=> ?_,λi h1 h2=>gr i h2⟩))
 ·obtain⟨h1,h2,h3,h4⟩:=h;by_cases c:r.1<N
  ·rw[if_pos c,show max r.1 1=r.1 by lia];exact bin_ok _ _ _ (by lia) h3 h4
  ·rw[if_neg c];have e:r.1=N:=by lia
   rw[e] at h3 h4;exact⟨h3,h4⟩
 ·rw[gr i (by lia)];exact hi
end
open PySem PySem.Calls
theorem qjM{α:Type}{N:Nat}{ask:Nat->Nat->Bool}{cmp:Nat->Nat->(Bool->Shared->Prop)->Shared->Prop}{Q:α->Shared->Prop}{Q':α->Prop}{s:Shared}(hc: ∀i j (C:Bool->Shared->Prop),i<N->j<N->C (ask i j) s->cmp i j C s)(hq: ∀a,Q' a->Q a s): ∀{t:KasT α},qdE N ask t Q'->t.kasWp cmp Q s
 |.ret a,h=>hq a h
 |.ask i j k,⟨h1,h2,h⟩=>hc i j _ h1 h2 (qjM hc hq h)
noncomputable def qdf(kz:List Int)(n:Nat)(p:Array Nat):Prop:=Pre n n p/\Srt (λi=>kz.getD i 0) p n
abbrev Kp(h h':Heap):Prop:= ∀b o,h.get? b=some o->h'.get? b=some o
section
theorem ql6{h:Heap}(x:h.objs.size<=a):h.get? a=none:=Heap.get?_none_of_le x
end
end St
namespace L2
open PySem PySem.Spec PyProof.Rows
theorem Inv.grow(I:Inv X O Z H s)(hP:H P=some (.tbl ps))(hx:Heap.ExtBut P s.heap h')(jx:h'.get? P=some (W.tabObj (ps++more)))(hc:s.heap.objs.size<=c')(hφ:qaE X.prog X.w (upd (upd H P (.tbl (ps++more))) c' (.ext φ)) h' c' (.ext φ)):
  Inv X O Z (upd (upd H P (.tbl (ps++more))) c' (.ext φ)) { s with heap:=h',toks:=t' }:=by
 have nc: ∀b o,s.heap.get? b=some o->b≠c':=λb o e=>Vn (Vm (Vi e) hc);have eJ: ∀b u,H b=some u->b≠c':=λb u e z=>by rw[z,I.hok.fresh hc] at e;cases e
 have nP: ∀b,H b=none->b≠P:=λb e z=>by rw[z,hP] at e;cases e
 have hPl:=(I.hok P _ hP).lt;have cP:P≠c':=eJ P _ hP
 refine I.step (g':=s.gens) (d':=s.drawn) (ch:=[]) (λ_ z=>nomatch z) (λb o _ _ _ e n=>hx b o (nP b n) e) (λb o _ _ _ e n=>⟨o.slots,hx b o (nP b n) e⟩) (λb o _ e n=>by rw[qab (nc b o e),qab (nP b n)];exact n)
  (λb o _ e=> ?_) (λb xs e=> ?_) (λb o u e=> ?_) (λb qs e=> ?_) (λm hm=> ?_) (λb u e=> ?_) I.bare
 ·by_cases z:b=P
  ·exact⟨_,by rw[z];exact jx⟩
  ·exact⟨o,hx b o z e⟩
 ·rw[qab (eJ b _ e),qab (λz=>by rw[z,hP] at e;cases e)];exact e
 ·rw[qab (eJ b _ e),qab (λz=>by rw[z,hP] at e;cases e)];exact e
 ·by_cases z:b=P
  ·subst z;rw[hP] at e;cases e;exact⟨more,by rw[qab cP,qaf]⟩
  ·exact⟨#[],by rw[qab (eJ b _ e),qab z,e];simp⟩
 ·exact hm.extBut hx (nP _ I.free)
 ·by_cases z:b=c'
  ·subst z;rw[qaf] at e;cases e;exact hφ
  ·rw[qab z] at e;by_cases z2:b=P
   ·subst z2;rw[qaf] at e;cases e;exact jx
   ·rw[qab z2] at e;refine(I.hok b u e).stay (λc v bT q=>hx c v ?_ q) (λc q=> ?_) λc xs q=> ?_
    ·grind
    ·rw[qab (eJ c _ q),qab (λz3=>by rw[z3,hP] at q;cases q)];exact q
    ·rw[qab (eJ c _ q),qab (λz3=>by rw[z3,hP] at q;cases q)];exact q
noncomputable def qdl(c:Addr)(qual:Str):HO:=.ext λh=>h.CodeRec (.ref c) qual
theorem qcf(ha:a= .int la ta)(hb:b= .int lb tb): ∀(l:List Value),PySem.TriplesOk l->PySem.TriplesOk (l++[a,b,c])
 |[],_=>by subst ha hb;exact trivial
 |[_],h=>by cases ‹Value› <;>exact h.elim
 |[x,y],h=>by cases x<;>first|exact h.elim|(cases y<;>exact h.elim)
 |x::y::z::r,h=>by
  cases x<;>first|exact h.elim|skip
  cases y<;>first|exact h.elim|skip
  exact qcf ha hb r h
theorem qgm{qual:Str}{h h':Heap}(x:h.CodeRec (.ref c) qual)(k: ∀o,h.get? c=some o->h'.get? c=some o):h'.CodeRec (.ref c) qual:=by obtain⟨c2,oc,vs,tq,e,ho,hd,hq⟩:=x;cases e;exact⟨c,oc,vs,tq,rfl,k _ ho,hd,hq⟩
noncomputable def qfH(P:Addr)(H H':Hp):Prop:= ∀b o,H b=some o->b≠P->H' b=some o
theorem qey(r:qav xs us)(j:Nat):RelV (xs.getD j .non) (us.getD j .none):=by
 induction r generalizing j with
 |nil=>exact rfl
 |cons a t ih=>
  cases j with
  |zero=>exact a
  |succ j=>simpa using ih j
theorem vals_pick(r:qav xs us): ∀l:List Nat,qav (l.map λj=>xs.getD j .non) (l.map λj=>us.getD j .none)
 |[]=>.nil
 |j::l=>.cons (qey r j) (vals_pick r l)
section
theorem qlE:OpR X (compareOp .Is) (λx y H Q=> ∃c d,x= .bl c/\y= .bl d/\Q (.bl (c==d)) H):=by intro O s Z H x y v u Q I rx ry h;obtain⟨c,d,rfl,rfl,q⟩:=h;cases rx;cases ry;exact is_bool ⟨.bl _,H,I,rfl,q⟩
theorem qfU:OpR X (compareOp .IsNot) (λx y H Q=> ∃c d,x= .bl c/\y= .bl d/\Q (.bl (c != d)) H):=by intro O s Z H x y v u Q I rx ry h;obtain⟨c,d,rfl,rfl,q⟩:=h;cases rx;cases ry;exact isnot_bool ⟨.bl _,H,I,rfl,q⟩
theorem qje:OpR X (compareOp .LtE) (λx y H Q=> ∃i j,x= .str i/\y= .str j/\Q (.bl (!decide (j.cps.toList<i.cps.toList))) H):=by intro O s Z H x y v u Q I rx ry h;obtain⟨i,j,rfl,rfl,q⟩:=h;obtain⟨t,rfl⟩:=rx;obtain⟨t',rfl⟩:=ry;exact P.le_str ⟨.bl _,H,I,rfl,q⟩
theorem qgy:qau X (.builtin "isinstance") (λxs H Q=> ∃x t T b,xs=[x,.ty T]/\qgB X.K H x t/\W.kitOne X.K t (.type T)=some b/\Q (.bl b) H):=by intro O s Z H xs us Q I r h;obtain⟨x,t,T,b,rfl,ty,e,q⟩:=h;obtain⟨u,w',rfl,ru,av⟩:=qiz r;cases av;exact qjE I ru ty e λtk=>⟨.bl b,H,I.tok tk,rfl,q⟩
theorem qcx: ∀{bs:List Bool}{us:List Value},qav (bs.map V.bl) us->us=bs.map Value.bool
 |[],_,.nil=>rfl
 |b::bs,_,.cons r t=>by have e:=r;rw[e,qcx t];rfl
theorem qiR(bs:List Bool):(List.range bs.length).all (λi=>bs.getD i false)=bs.all id:=by
 rw[Bool.eq_iff_iff,List.all_eq_true,List.all_eq_true];constructor
 ·intro h b hb;obtain⟨i,hi,rfl⟩:=List.mem_iff_getElem.mp hb
  simp_all
 ·intro h i hi;have bz:=List.mem_range.mp hi;have:=h _ (List.getElem_mem bz)
  simp_all
theorem qmP(hc:X.calm=true):qau X (.builtin "all") (λxs H Q=> ∃(a:Addr)(bs:List Bool),xs=[.ref a]/\SqL X.K H a (bs.map V.bl)/\Q (.bl (bs.all id)) H):=by
 intro O s Z H xs us Q I r h;obtain⟨a,bs,rfl,hS,q⟩:=h;obtain⟨u,rfl,ru⟩:=qcq r;cases ru;obtain⟨its,rv,pl,hz⟩:=I.list hS;have e:=qcx rv;have bx:=Vi pl.isList.choose_spec.1;have hh:X.A.in1.handled=none:=I.ok.hd hc;refine call_all_walk (wpAny_pyIter_list pl.isList ?_);refine⟨s.heap.objs.size,_,_,its.toArray.size,_,_,λi=>bs.getD i false,rfl,Walks.list hh _ a (Vn bx) its.toArray,⟨⟨_,Vh _ rfl,rfl,rfl⟩,pl.isList.at λo e=>Vg _ e⟩,λi v s' Q' E' hv hq=> ?_,λh' tk k=> ?_⟩
 ·rw[e] at hv;have dw:(bs.map Value.bool)[i]? =some v:=by simpa using hv
  rw[List.getElem?_map] at dw;cases z:bs[i]? with
  |none=>simp_all
  |some b=>
   rw[z] at dw;cases dw;have eb:bs.getD i false=b:=by simp[z]
   have ba:Q' (bs.getD i false) s':=hq;rw[eb] at ba;exact Vd ba
 ·have en:its.toArray.size=bs.length:=by rw[e];simp
  rw[en,qiR];refine⟨.bl (bs.all id),H,?_,rfl,q⟩;refine I.kept (t':=tk) λb o eo=>k b o ?_ (Vg _ eo);intro z;have:=by simpa using z
  exact Vn (Vi eo) this
noncomputable def VEq(X:Cx)(H:Hp)(x y:V)(b:Bool):Prop:= ∀(O:List (Addr×Obj))(Z:St)(s:Shared)(u v:Value),Inv X O Z H s->RelV x u->RelV y v->SeqAt.EqAt X.A.in1 s u v b
theorem qfV(hu:X.A.units<cLine):OpR X (compareOp .Eq) (λx y H Q=> ∃a b xs ys,x= .ref a/\y= .ref b/\SqL X.K H a xs/\SqL X.K H b ys/\
  ((xs.length≠ys.length/\Q (.bl false) H)\/(xs.length=ys.length/\∃e:Nat->Bool,(∀i x y,xs[i]? =some x->ys[i]? =some y->VEq X H x y (e i))/\Q (.bl ((List.range xs.length).all e)) H))):=by
 intro O s Z H x y v u Q I rx ry h;obtain⟨a,b,xs,ys,rfl,rfl,ha,hb,h⟩:=h;cases rx;cases ry;obtain⟨i1,r1,p1,z1⟩:=I.list ha;obtain⟨i2,r2,p2,z2⟩:=I.list hb;have l1:=r1.length;have l2:=r2.length
 rcases h with⟨dM,q⟩|⟨heq,e,he,q⟩
 ·exact SeqAt.eq_list_lengthsAt p1.isList p2.isList (by simp;lia) hu ⟨.bl false,H,I,rfl,q⟩
 ·refine SeqAt.eq_listAt (e:=e) p1.isList p2.isList (by simp;lia) hu (λj h1 h2=> ?_) ⟨.bl _,H,I,rfl,?_⟩
  ·have bM:j<i1.length:=by simpa using h1
   have br:j<i2.length:=by simpa using h2
   have hx:xs[j]? =some xs[j]:=Vw (by lia);have hy:ys[j]? =some ys[j]:=Vw (by lia);obtain⟨u1,e1,q1⟩:=r1.get hx;obtain⟨u2,e2,q2⟩:=r2.get hy;have e3:i1.toArray[j]=u1:=by rw[List.getElem?_eq_getElem bM] at e1;simpa using Option.some.inj e1
   have e4:i2.toArray[j]=u2:=by rw[List.getElem?_eq_getElem br] at e2;simpa using Option.some.inj e2
   rw[e3,e4];exact he j _ _ hx hy O Z s u1 u2 I q1 q2
  ·rw[List.size_toArray,<-l1];exact q
end
noncomputable def Its(z:Str):It:=⟨λi _=>i<z.cps.size,λi H x H'=>H'=H/\∃c,z.cps[i]? =some c/\x= .str ⟨#[c]⟩,λi _=>z.cps.size<=i⟩
theorem qk6{P:Program}{w:World}{K:W.Frag}{tg:Expr}{z:Str}{it:Addr}{ty:String}{t:Tok}(cy:ty= "str_ascii_iterator" \/ty= "str_iterator"):qqs P w K tg (Its z) [it] it (λi h=>h.IsStrIter it ty z t i) where
 mem:=by simp
 obj:=λi h st b hb=>by
  have e:b=it:=by simpa using hb
  subst e;obtain⟨o,e,c,d⟩:=st;exact⟨o,e,λv q=>by rw[d] at q;cases q⟩
 keep:=λi h h' st k=>by obtain⟨o,e,r⟩:=st;exact⟨o,k it (by simp) _ e,r⟩
 item:=by
  intro X hP hw hK hc i O s Z H E I hf st hg;subst hP hw hK;obtain⟨f0,f1,f2,f3,f4,f5⟩:=hf it (by simp);have eP:z.cps[i]? =some z.cps[i]:=Array.getElem?_eq_getElem hg;have fin: ∀h',h'.IsStrIter it ty z t (i+1)->Heap.SameBut it s.heap h'->∃u,some (Value.str ⟨#[z.cps[i]]⟩ s.toks)=some u/\wpAny (model X.prog X.w) X.A (letOwnedTupleGo tg (.ref it) u) (λ_ s2=> ∃x H',Inv X O Z H' s2/\RelV x u/\(Its z).yld i H x H'/\s2.heap.IsStrIter it ty z t (i+1)/\∀b∈[it],H' b=none) E { s with heap:=h',toks:=s.toks+1 }:=λh' aN sb=>by
   have I1:Inv X O Z H { s with heap:=h',toks:=s.toks+1 }:=I.turned (λb o hb e=>(sb.2 b hb).trans e) f0 f1 f3 f4 f5;obtain⟨o,e,c,d⟩:=id aN;refine⟨_,rfl,qjN (s:={ s with heap:=h',toks:=s.toks+1 }) e c d ?_ ⟨.str ⟨#[z.cps[i]]⟩,H,I1,⟨_,rfl⟩,⟨rfl,_,eP,rfl⟩,aN,λb hb=>(hf b hb).1⟩⟩
   rcases cy with rfl|rfl<;>decide
  rcases cy with rfl|rfl
  ·exact wpAny_pyNext_ascii_item st eP λh' aN sb=>fin h' aN sb
  ·exact wpAny_pyNext_wide_item st eP λh' aN sb=>fin h' aN sb
 done:=by
  intro X hP hw hK hc i O s Z H E I hf st hg;subst hP hw hK;obtain⟨f0,f1,f2,f3,f4,f5⟩:=hf it (by simp);have eP:z.cps[i]? =none:=Array.getElem?_eq_none hg
  rcases cy with rfl|rfl
  ·exact wpAny_pyNext_ascii_end (I.ok.hd hc) st eP λh' eb=>⟨rfl,I.turned (t':=s.toks) (λb o hb e=>eb b o hb e) f0 f1 f3 f4 f5⟩
  ·exact wpAny_pyNext_wide_end (I.ok.hd hc) st eP λh' eb=>⟨rfl,I.turned (t':=s.toks) (λb o hb e=>eb b o hb e) f0 f1 f3 f4 f5⟩
 self:=λA i s Q E st h=>by
  rcases cy with rfl|rfl
  ·exact wpAny_pyIter_striter_ascii st h
  ·exact wpAny_pyIter_striter_wide st h
noncomputable def qxM(te:TE):TI:=λZ H R=>te Z H λx H1=> ∃z,x= .str z/\R (Its z) H1
theorem qrD{X:Cx}{tg e:Expr}{te:TE}(he:PE X e te):PI X tg e (qxM te):=by
 intro O s Z H R I h;refine thn (he O s Z H _ I h) λv s1 dF=> ?_;obtain⟨x,H1,I1,r1,z,hz,q⟩:=dF;subst hz;obtain⟨t,rfl⟩:=r1;have fin: ∀ty:String,(ty= "str_ascii_iterator" \/ty= "str_iterator")->PIE X O Z tg R (.ref s1.heap.objs.size) { s1 with heap:=s1.heap.push { cls:=.type ty,data:=.fields #[.str z t,.int 0 0] } }:=λty cy=>
  ⟨_,_,_,Its z,H1,rfl,I1.kept (t':=s1.toks) λb o e=>Vg _ e,qk6 (t:=t) cy,⟨_,Vh _ rfl,rfl,rfl⟩,λb hb=>by
   have e:b=s1.heap.objs.size:=by simpa using hb
   subst e;exact I1.fpOk (Vl _) (I1.hok.fresh (Vl _)),q⟩
 cases ha:z.cps.all (· <128)
 ·exact wpAny_pyIter_wide ha (fin _ (.inr rfl))
 ·exact wpAny_pyIter_ascii ha (fin _ (.inl rfl))
theorem Inv.turnT{X:Cx}{O:List (Addr×Obj)}{Z:St}{H:Hp}{s:Shared}{h':Heap}{t':Nat}{ch:List Addr}{T:Addr}{xs:List V}(I:Inv X O Z H s)(aP: ∀b∈ch,qgD X O H b)(k: ∀b o,b∉ch->s.heap.get? b=some o->h'.get? b=some o)(hT:s.heap.objs.size<=T)(new:qaE X.prog X.w (upd H T (.tup xs)) h' T (.tup xs)):Inv X O Z (upd H T (.tup xs)) { s with heap:=h',toks:=t' }:=by
 have nT: ∀b o,s.heap.get? b=some o->b≠T:=λb o e=>Vn (Vm (Vi e) hT);have fe: ∀b u,H b=some u->b≠T:=λb u e z=>by rw[z,I.hok.fresh hT] at e;cases e
 have c6: ∀b u,H b=some u->b∉ch:=λb u e z=>by rw[(aP b z).1] at e;cases e
 refine I.step (λb hb=> ?_) (λb o _ _ hc e _=>k b o hc e) (λb o _ _ hc e _=>⟨o.slots,k b o hc e⟩) (λb o _ e n=>by rw[qab (nT b o e)];exact n) (λb o hc e=>⟨o,k b o hc e⟩)
  (λb ys e=>by rw[qab (fe b _ e)];exact e) (λb o u e=>by rw[qab (fe b _ e)];exact e) (λb ps e=>⟨#[],by rw[qab (fe b _ e),e];simp⟩) (λm hm=> ?_) (λb u e=> ?_) I.bare
 ·obtain⟨_,f1,_,f3,f4,f5⟩:=aP b hb;exact⟨f3,f1,f4,f5⟩
 ·obtain⟨o,es,ep,ho,r⟩:=hm;exact⟨o,es,ep,k _ o (λz=>(aP _ z).2.1 rfl) ho,r⟩
 ·by_cases z:b=T
  ·subst z;rw[qaf] at e;cases e;exact new
  ·rw[qab z] at e;refine(I.hok b u e).stay (λc v hc q=>k c v ?_ q) (λc q=>by rw[qab (fe c _ q)];exact q) λc ys q=>by rw[qab (fe c _ q)];exact q
   grind
theorem Inv.turnL{X:Cx}{O:List (Addr×Obj)}{Z:St}{H:Hp}{s:Shared}{h':Heap}{t':Nat}{ch:List Addr}(I:Inv X O Z H s)(aP: ∀b∈ch,qgD X O H b)(k: ∀b o,b∉ch->s.heap.get? b=some o->h'.get? b=some o):
  Inv X O Z H { s with heap:=h',toks:=t' }:=by
 have c6: ∀b u,H b=some u->b∉ch:=λb u e z=>by rw[(aP b z).1] at e;cases e
 refine I.step (λb hb=> ?_) (λb o _ _ hc e _=>k b o hc e) (λb o _ _ hc e _=>⟨o.slots,k b o hc e⟩) (λb o _ e n=>n) (λb o hc e=>⟨o,k b o hc e⟩)
  (λb ys e=>e) (λb o u e=>e) (λb ps e=>⟨#[],by rw[e];simp⟩) (λm hm=> ?_) (λb u e=> ?_) I.bare
 ·obtain⟨_,f1,_,f3,f4,f5⟩:=aP b hb;exact⟨f3,f1,f4,f5⟩
 ·obtain⟨o,es,ep,ho,r⟩:=hm;exact⟨o,es,ep,k _ o (λz=>(aP _ z).2.1 rfl) ho,r⟩
 ·refine(I.hok b u e).stay (λc v hc q=>k c v ?_ q) (λc q=>q) λc ys q=>q
  grind
noncomputable def Itz(K:W.Frag)(l1 l2:Addr):It:=
 ⟨λi H=> ∃xs ys,SqL K H l1 xs/\SqL K H l2 ys/\i<xs.length/\i<ys.length,
   λi H v H'=> ∃T x y,v= .ref T/\H T=none/\H'=upd H T (.tup [x,y])/\(∀xs,SqL K H l1 xs->xs[i]? =some x)/\∀ys,SqL K H l2 ys->ys[i]? =some y,
   λi H=> ∃xs ys,SqL K H l1 xs/\SqL K H l2 ys/\i=min xs.length ys.length⟩
noncomputable def qwg(z TI TO i1 i2 l1 l2:Addr)(i:Nat)(h:Heap):Prop:=
 IsZip h z TI TO .none/\IsPair h TI (.ref i1) (.ref i2)/\(∃a b,IsPair h TO a b)/\h.IsListIter i1 l1 i/\h.IsListIter i2 l2 i
theorem qk5{P:Program}{w:World}{K:PySem.W.Frag}{elts:List Expr}{k:Nat}{pos:Pos}{z TI TO i1 i2 l1 l2:Addr}(D:ZipApart z TI TO i1 i2 l1 l2):qqs P w K (.Tuple elts k pos) (Itz K l1 l2) [z,TI,TO,i1,i2] z (qwg z TI TO i1 i2 l1 l2) where
 mem:=by simp
 obj:=λi h st b hb=>by
  obtain⟨a1,a2,⟨x,y,a3⟩,⟨o4,a4,c4,d4⟩,⟨o5,a5,c5,d5⟩⟩:=st;have aU:b=z\/b=TI\/b=TO\/b=i1\/b=i2:=by simpa using hb
  rcases aU with rfl|rfl|rfl|rfl|rfl
  ·exact⟨_,a1,λv q=>by have q':Data.fields _=Data.cell v:=q;cases q'⟩
  ·exact⟨_,a2,λv q=>by have q':Data.seq _ _=Data.cell v:=q;cases q'⟩
  ·exact⟨_,a3,λv q=>by have q':Data.seq _ _=Data.cell v:=q;cases q'⟩
  ·exact⟨o4,a4,λv q=>by rw[d4] at q;cases q⟩
  ·exact⟨o5,a5,λv q=>by rw[d5] at q;cases q⟩
 keep:=λi h h' st kk=>by obtain⟨a1,a2,⟨x,y,a3⟩,a4,a5⟩:=st;exact⟨kk z (by simp) _ a1,kk TI (by simp) _ a2,⟨x,y,kk TO (by simp) _ a3⟩,a4.at λo e=>kk i1 (by simp) o e,a5.at λo e=>kk i2 (by simp) o e⟩
 item:=by
  intro X hP hw hK hc i O s Z H E I hf st hg;subst hP hw hK;obtain⟨xs,ys,h1,h2,g1,g2⟩:=hg;obtain⟨bI,r1,p1,z1⟩:=I.list h1;obtain⟨aE,r2,p2,z2⟩:=I.list h2;have e1:=r1.length;have e2:=r2.length;have W:=WalksT.zip2 (prog:=X.prog) (w:=X.w) (I.ok.hd hc) z TI TO i1 i2 l1 l2 D bI.toArray aE.toArray;obtain⟨a1,a2,a3,a4,a5⟩:=st;have aP: ∀b∈[z,TO,i1,i2],qgD X O H b:=λb hb=>hf b (by
   have aU:b=z\/b=TO\/b=i1\/b=i2:=by simpa using hb
   rcases aU with rfl|rfl|rfl|rfl<;>simp)
  refine W.item i s _ E (by simp;lia) ⟨a1,a2,a3,a4,a5,p1.isList,p2.isList⟩ λT vals h' tk hv hT hti fN kp=> ?_;obtain⟨u1,u2,q1,q2,rfl⟩:=hv;refine⟨_,rfl,W.go elts k pos i T _ _ E fN λbr aN c8=> ?_⟩;obtain⟨b1,b2,b3,b4,b5,_,_⟩:=aN;have nT:T∉[z,TO,i1,i2]:=W.apart i T h' fN;obtain⟨ox,hox,rox⟩:=hti;have jf:xs[i]? =some xs[i]:=Vw g1;have je:ys[i]? =some ys[i]:=Vw g2;obtain⟨w1,jH,rw1⟩:=r1.get jf;obtain⟨w2,jG,rw2⟩:=r2.get je;have eu1:bI[i]? =some u1:=by simpa using q1
  have eu2:aE[i]? =some u2:=by simpa using q2
  rw[eu1] at jH;cases jH;rw[eu2] at jG;cases jG;have I1:Inv X O Z (upd H T (.tup [xs[i],ys[i]])) { s with heap:=br,toks:=tk }:=by refine I.turnT aP (λb o hb e=>c8 b o hb (kp b o hb e)) hT ⟨by show 2<=sizeLine;decide,[u1,u2],.cons rw1 (.cons rw2 .nil),ox,c8 T ox nT hox,rox⟩
  refine⟨.ref T,_,I1,rfl,⟨T,_,_,rfl,I.hok.fresh hT,rfl,λxs' eK=>by rw[I.list_inj eK h1];exact jf,λiY dq=>by rw[I.list_inj dq h2];exact je⟩,⟨b1,b2,b3,b4,b5⟩,λb hb=> ?_⟩;obtain⟨o,eo,_⟩: ∃o,s.heap.get? b=some o/\True:=by
   have aU:b=z\/b=TI\/b=TO\/b=i1\/b=i2:=by simpa using hb
   obtain⟨x,y,a3'⟩:=a3;obtain⟨o4,a4',_⟩:=a4;obtain⟨o5,a5',_⟩:=a5
   rcases aU with rfl|rfl|rfl|rfl|rfl
   ·exact⟨_,a1,trivial⟩
   ·exact⟨_,a2,trivial⟩
   ·exact⟨_,a3',trivial⟩
   ·exact⟨_,a4',trivial⟩
   ·exact⟨_,a5',trivial⟩
  rw[qab (Nat.ne_of_lt (Nat.lt_of_lt_of_le (Heap.lt_size eo) hT))];exact(hf b hb).1
 done:=by
  intro X hP hw hK hc i O s Z H E I hf st hg;subst hP hw hK;obtain⟨xs,ys,h1,h2,g1⟩:=hg;obtain⟨bI,r1,p1,z1⟩:=I.list h1;obtain⟨aE,r2,p2,z2⟩:=I.list h2;have e1:=r1.length;have e2:=r2.length;have W:=WalksT.zip2 (prog:=X.prog) (w:=X.w) (I.ok.hd hc) z TI TO i1 i2 l1 l2 D bI.toArray aE.toArray;have aP: ∀b∈[z,TO,i1,i2],qgD X O H b:=λb hb=>hf b (by
   have aU:b=z\/b=TO\/b=i1\/b=i2:=by simpa using hb
   rcases aU with rfl|rfl|rfl|rfl<;>simp)
  obtain⟨a1,a2,a3,a4,a5⟩:=st;have en:min bI.toArray.size aE.toArray.size=i:=by simp;lia
  rw[en] at W;exact W.done s _ E ⟨a1,a2,a3,a4,a5,p1.isList,p2.isList⟩ λh' tk kp=>⟨rfl,I.turnL aP kp⟩
 self:=λA i s Q E st h=>wpAny_pyIter_zip st.1 h
noncomputable def qfI(mg:Str->Option Value)(base:Heap):Prop:= ∃bm ob,mg "__builtins__" =some (.ref bm)/\bm≠builtinsNs/\base.get? bm=some ob/\ob.cls= .type "module" /\ob.dict=some builtinsNs/\ob.data= .plain
open PySem.Calls
theorem qaE.obj(x:qaE P w H h a o): ∃u,h.get? a=some u:=by
 cases o with
 |lst xs=>obtain⟨_,_,_,_,e⟩:=x;exact⟨_,e⟩
 |tup xs=>obtain⟨_,_,_,p⟩:=x;exact p.imp λ_ q=>q.1
 |dK kvs|dT kvs=>obtain⟨_,_,_,_,o,_,_,e,_⟩:=x;exact⟨_,e⟩
 |set S n=>obtain⟨o,_,_,_,e,_⟩:=x;exact⟨_,e⟩
 |ins C dx fs=>obtain⟨_,_,_,e,_⟩:=x;exact⟨_,e⟩
 |own y=>obtain⟨_,e⟩:=x;exact⟨_,e⟩
 |xd fs=>obtain⟨_,⟨_,_,_,e,_⟩,_⟩:=x;exact⟨_,e⟩
 |rng lo hi=>obtain⟨_,_,_,e⟩:=x;exact⟨_,e⟩
 |frz ob u=>obtain⟨e,_⟩:=x;exact⟨_,e⟩
 |tbl ps|met f y=>exact⟨_,(x)⟩
 |ext φ=>obtain⟨_,⟨_,e⟩,_⟩:=x;exact⟨_,e⟩
structure qiu(P:Program)(w:World)(outer:List Env)(H:Hp)(s:Shared)(H':Hp)(B h':Heap):Prop where
 hok:HOk P w H' B
 st:B.StaysIn h'
 bk: ∀b o,s.heap.get? b=some o->H b=none->b∉frs outer->B.get? b=some o
 th: ∀b o,s.heap.get? b=some o->b∉frs outer->∃o',B.get? b=some o'
 sl: ∀b o,s.heap.get? b=some o->b∈frs outer->(∀vs,o.data≠.fields vs)/\∃sl,h'.get? b=some { o with slots:=sl }
 free: ∀b o,s.heap.get? b=some o->H b=none->H' b=none
 tups: ∀b xs,H b=some (.tup xs)->H' b=some (.tup xs)
 frzs: ∀b o u,H b=some (.frz o u)->H' b=some (.frz o u)
 tbls: ∀b ps,H b=some (.tbl ps)->∃more,H' b=some (.tbl (ps++more))
section
theorem qiu.un(L:qiu P w outer H s H' B h'):Un (frs outer) [] H H' s.heap h' where
 keep:=λb o e n nb _=>L.st b o (L.bk b o e n nb)
 slot:=λb o e _ hb _=>(L.sl b o e hb).2
 free:=λb o e n _=>L.free b o e n
 there:=λb o e _=>by
  by_cases hb:b∈frs outer
  ·obtain⟨sl,q⟩:=(L.sl b o e hb).2;exact⟨_,q⟩
  ·obtain⟨o',q⟩:=L.th b o e hb;exact⟨o',L.st b o' q⟩
 tups:=L.tups
 frzs:=L.frzs
 tbls:=L.tbls
theorem qiu.on(L:qiu P w outer H s H' B h')(st:B.StaysIn cV)(up:h'.UpToSlots cV):qiu P w outer H s H' B cV:=
 { L with
  st:=st
  sl:=λb o e hb=>by
   obtain⟨nf,sl,q⟩:=L.sl b o e hb;obtain⟨eG,q'⟩:=up b _ q nf;exact⟨nf,eG,q'⟩ }
end
section
theorem qfh{X:Cx}(aF:X.stack=X.env::X.outer)(hf:X.env.frame=some X.env.locals):frs X.stack=X.env.locals::frs X.outer:=by rw[aF];show((X.env::X.outer).filterMap _)=_;rw[List.filterMap_cons,hf];rfl
theorem qiu.leave{X:Cx}(aF:X.stack=X.env::X.outer)(hf:X.env.frame=some X.env.locals)(hex:X.ex=[])(I:Inv X O Z H s)(L:qiu X.prog X.w X.stack H s H' B h'):qiu X.prog X.w X.outer X.H₀ X.s₀ H' B h':=by
 have nx: ∀b,b∉X.ex:=λb z=>by rw[hex] at z;cases z
 have cZ: ∀b o,X.s₀.heap.get? b=some o->b≠X.env.locals:=λb o e=>Vn (Vm (Vi e) I.ok.above);have out: ∀b o,X.s₀.heap.get? b=some o->b∉frs X.outer->b∉frs _:=λb o e nb z=>by
  rw[qfh aF hf] at z
  grind
 refine⟨L.hok,L.st,λb o e n nb=> ?_,λb o e nb=> ?_,λb o e hb=> ?_,λb o e n=> ?_,λb xs q=>L.tups b xs (I.base.tups b xs q),λb o u q=>L.frzs b o u (I.base.frzs b o u q),λb ps q=> ?_⟩
 ·exact L.bk b o (I.base.keep b o e n nb (nx b)) (I.base.free b o e n (nx b)) (out b o e nb)
 ·obtain⟨o',e'⟩:=I.base.there b o e (nx b);exact L.th b o' e' (out b o e nb)
 ·obtain⟨sl,e1⟩:=I.base.slot b o e (I.ok.frf b hb) hb (nx b);obtain⟨nf,eG,e2⟩:=L.sl b _ e1 (by rw[qfh aF hf];simp_all);exact⟨nf,eG,e2⟩
 ·obtain⟨sl,e1⟩:=I.base.any e n (nx b);exact L.free b _ e1 (I.base.free b o e n (nx b))
 ·obtain⟨m1,e1⟩:=I.base.tbls b ps q;obtain⟨m2,e2⟩:=L.tbls b _ e1;exact⟨m1++m2,by simp_all⟩
theorem qiu.made(I:Inv X O Z H s)(k: ∀b o,s.heap.get? b=some o->h'.get? b=some o):qiu X.prog X.w X.stack H s H (W.hideAll s.heap (frs X.stack)) h' where
 hok:=λa o e=>(I.hok a o e).stay (λb u hb r=>W.hideAll_get _ r λz=>by
   have n:=I.stkFree b z
   rcases hb with q|q
   ·rw[q,e] at n;cases n
   ·rw[q] at n;cases n) (λ_ r=>r) λ_ _ r=>r
 st:=λb o e=>k b o (W.of_hideAll _ e)
 bk:=λb o e n nb=>W.hideAll_get _ e nb
 th:=λb o e nb=>⟨o,W.hideAll_get _ e nb⟩
 sl:=λb o e hb=>by obtain⟨_,o',e',nf⟩:=I.stack.mem hb;rw[e] at e';cases e';exact⟨nf,o.slots,k b o e⟩
 free:=λ_ _ _ n=>n
 tups:=λ_ _ q=>q
 frzs:=λ_ _ _ q=>q
 tbls:=λ_ ps q=>⟨#[],by rw[q];simp⟩
end
structure Fly(P:Program)(w:World)(outer:List Env)(H:Hp)(s:Shared)(C:Addr)(H':Hp)(a t:Addr)(B:Heap)(s':Shared):Prop where
 os:s'.os=s.os
 bare:AllBare s'.gens
 fly:Heap.FlyingW B outer a (.ref C) (.ref t) s'.heap
 lies:qiu P w outer H s H' B s'.heap
 new:H' a=none
structure qyk(P:Program)(w:World)(outer:List Env)(H:Hp)(s:Shared)(C:Addr)(H':Hp)(a t L:Addr)(B:Heap)(s':Shared):Prop where
 os:s'.os=s.os
 bare:AllBare s'.gens
 held:Heap.HeldW B outer a (.ref C) (.ref t) L s'.heap
 lies:qiu P w outer H s H' B s'.heap
 new:H' a=none
section
theorem Fly.leave(aF:X.stack=X.env::X.outer)(hf:X.env.frame=some X.env.locals)(hex:X.ex=[])(I:Inv X O Z H s)(F:Fly X.prog X.w X.stack H s C H' a t B s'):
  wpAny M X.A (leaving X.env (.ref a)) (λ_ s''=>Fly X.prog X.w X.outer X.H₀ X.s₀ C H' a t B s'') E s':=by refine wpAny_leaves_onW (I.ok.frames.trans (congrArg _ aF)) hf (aF▸F.fly) λcV fl up=> ?_;exact⟨F.os.trans I.os,F.bare,fl,(F.lies.on fl.1 up).leave aF hf hex I,F.new⟩
theorem Fly.made(aF:X.stack=X.env::X.outer)(hf:X.env.frame=some X.env.locals)(hex:X.ex=[])(I:Inv X O Z H s)(hm:Heap.MadeExcOf s.heap h' a (.ref C) args):
  wpAny M X.A (leaving X.env (.ref a)) (λ_ s''=> ∃t B,Fly X.prog X.w X.outer X.H₀ X.s₀ C H a t B s'') E { s with heap:=h' }:=by
 have hin: ∀env∈X.stack,∀b,env.frame=some b->b∈frs _:=λenv he b hb=>List.mem_filterMap.mpr ⟨env,he,hb⟩;have L:=qiu.made I hm.keeps;refine wpAny_leaves_madeW (base:=W.hideAll _ (frs X.stack)) (I.ok.frames.trans (congrArg _ aF)) hf (λb o q=>W.of_hideAll _ q) (aF▸W.funFrames_hide I.stack hin) hm λcV t fl _ _ up=> ?_;refine⟨t,_,I.os,I.bare,fl,(L.on fl.1 up).leave aF hf hex I,?_⟩;cases q:H a with
 |none=>rfl
 |some o=>obtain⟨u,hu⟩:=(I.hok a o q).obj;rw[hm.new] at hu;cases hu
theorem Fly.look(aF:X.stack=X.env::X.outer)(hf:X.env.frame=some X.env.locals)(I:Inv X O Z H s)(F:Fly X.prog X.w X.stack H s C H' a t B s')(h: ∀s'',Fly X.prog X.w X.stack H s C H' a t B s''->Q () s''):
  wpAny M X.A (noteFrame (.ref a) X.env) (λ_ bj=>wpAny M X.A (setFlight (.ref a) none) Q E bj) E s':=by refine wpAny_looks_onW (I.ok.frames.trans (congrArg _ aF)) hf (aF▸F.fly) λh4 hh up=> ?_;refine wpAny_landsW hh λh5 fl up5=> ?_;exact h _ ⟨F.os,F.bare,aF▸fl,(F.lies.on (hh.1) up).on fl.1 up5,F.new⟩
theorem Fly.land(F:Fly P w outer H s C H' a t B s')(h: ∀s'',Fly P w outer H s C H' a t B s''->Q () s''):wpAny M A (setFlight (.ref a) none) Q E s':=
 lands_againW F.fly λh5 fl up=>h _ ⟨F.os,F.bare,fl,F.lies.on fl.1 up,F.new⟩
end
noncomputable def CXE(P:Program)(w:World):CXT:=λouter H s E e s'=> ∃C H' a t B,e= .ref a/\Fly P w outer H s C H' a t B s'/\E (.ref C) none H'
theorem quY{P:Program}{w:World}{K:W.Frag}{mg:Str->Option Value}{base:Heap}{N:List Str}{qual:Str}{scope:Scope}{f:Addr}{cd:Value}{A:Around}{outer:List Env}{s:Shared}{H:Hp}{E E1:XK}(h: ∀C H',E1 (.ref C) none H'->E (.ref C) none H'):qaH (CXE P w) (qfr (CXE P w) P w K mg base N qual scope f cd A outer s H E) E1:=
 λO Z H1 s1 e s' I ⟨C,H',a,t,B,he,F,q⟩=>by subst he;exact Vc (Fly.leave rfl rfl rfl I F) (λ_ s'' F'=>⟨C,H',a,t,B,rfl,F',h C H' q⟩) λ_ _ x=>x
noncomputable def bmV:List Value:=[.type "ValueError",.type "Exception",.type "BaseException",.type "object"]
noncomputable def qhU:List Str:=["__init__", "__getattribute__", "__getattr__", "__class__"]
inductive qbx(h:Heap)(bmB:List Value):List Value->Prop
 |base:qbx h bmB bmB
 | own {A:Addr} {c0:Value} {dd:Option Addr} {cd:ClassData} {sl:Array (Option Value)} {mA:Str->Option Value} {tl:List Value}:
   h.get? A=some { cls:=c0,dict:=dd,data:=.cls cd,slots:=sl }->h.Ns cd.ns mA->(∀n∈qhU,mA n=none)->qbx h bmB tl->qbx h bmB (.ref A::tl)
theorem qbx.tail(T:qbx h bmB tl):OwnTail h bmB tl:=by
 induction T with
 |base=>exact .base
 |own hA hN hq _ ih=>exact .own hA hN (hq _ (.head _)) ih
theorem qbx.keeps(T:qbx h bmB tl)(hk: ∀b o,h.get? b=some o->h'.get? b=some o):qbx h' bmB tl:=by
 induction T with
 |base=>exact .base
 |own hA hN hq _ ih=>exact .own (hk _ _ hA) (hN.keeps hk) hq ih
noncomputable def qdi(h:Heap)(C:Addr)(bm:List Value):Prop:=
 ∃N nm q bs hdct sn sub ab col dd k0 k1 k2 k3 k5 mN,h.get? C=some (excClassObj nm q C N bs bm hdct sn sub ab col dd k0 k1 k2 k3 k5 "ValueError.__new__")/\h.Ns N mN/\(∀n∈qhU,mN n=none)/\qbx h bmV bm
theorem qdi.keeps(x:qdi h C bm)(k: ∀b o,h.get? b=some o->h'.get? b=some o):qdi h' C bm:=
 let ⟨N,nm,q,bs,hdct,sn,sub,ab,col,dd,k0,k1,k2,k3,k5,mN,e,n,i,T⟩:=x
 ⟨N,nm,q,bs,hdct,sn,sub,ab,col,dd,k0,k1,k2,k3,k5,mN,k _ _ e,n.keeps k,i,T.keeps k⟩
theorem qdi.base(x:qdi h C bm):bm.contains (.type "BaseException")=true:=
 let ⟨_,_,_,_,_,_,_,_,_,_,_,_,_,_,_,_,_,_,_,T⟩:=x
 T.tail.hasType (rfl)
noncomputable def qiH(C:Addr)(E:XK):TS:=λ_ _ H=>E (.ref C) none H
theorem qln{P:Program}{w:World}{K:W.Frag}{mg:Str->Option Value}{base:Heap}{N:List Str}{qual:Str}{scope:Scope}{f:Addr}{cd:Value}{A:Around}{outer:List Env}{s:Shared}{H:Hp}{E:XK}{x msg:Str}{C:Addr}{bm:List Value} {j np p1 cpos pos} (hC:qdi base C bm) (hm:mg x=some (.ref C)) (hg:Gl (qfr (CXE P w) P w K mg base N qual scope f cd A outer s H E) x) (aH:(x==("__debug__" :Str))=false:=by decide):
  PS (qfr (CXE P w) P w K mg base N qual scope f cd A outer s H E) (.Raise (some (.Call (.Name x np) [.Constant (.str msg) j p1] [] cpos)) none pos) (qiH C E):=by
 intro O s1 Z H1 D I h;obtain⟨Nn,nm,q,bs,hdct,sn,sub,ab,col,dd,k0,k1,k2,k3,k5,mN,e,n,i,T⟩:=id hC;refine wpAny_Raise_call_subT (C:=C) (nm:=nm) (q:=q) (N:=Nn) (bs:=bs) (bm:=bm) (hdct:=hdct) (sn:=sn) (sub:=sub) (ab:=ab) (col:=col) (dd:=dd) (k0:=k0) (k1:=k1) (k2:=k2) (k3:=k3) (k5:=k5) F.excBase_ValueError hC.base (I.ok.hd rfl) (by rfl) (i _ (.head _)) ?_;refine qbg I hg hm ⟨rfl,?_⟩ aH;refine Calls.evalArgs_plain ?_;have hp:PA (qfr (CXE P w) P w K mg base N qual scope f cd A outer s H E) [.Constant (.str msg) j p1] _:=qaS qg1 qbn;refine thn (hp cpos O s1 Z H1 (λvs H2=>H2=H1/\vs.length=1) I ⟨rfl,rfl⟩) λus s2 fv=> ?_;obtain⟨vs,H2,I2,r,eH,el⟩:=fv;subst eH;have ul:us.length=1:=by rw[<-r.length];exact el
 refine⟨rfl,by rw[ul];decide,I2.bk _ _ e,n.keeps I2.bk,T.tail.keeps I2.bk,λh' a hx=> ?_⟩;exact Vc (Fly.made rfl rfl rfl I2 hx) (λ_ s'' ⟨t,B,F'⟩=>⟨C,H2,a,t,B,rfl,F',h⟩) λ_ _ x=>x
abbrev Cx.hold(X:Cx)(O:List (Addr×Obj))(E:Value->Shared->Prop):Cx:={ X with pn:=X.pn++O,xe:=E }
abbrev Cx.within(X:Cx)(a:Addr):Cx:={ X with A:=X.A.mark (some (.ref a)),calm:=false,xe:=λ_ _=>False }
section
theorem Cx.Ok.hold{X:Cx}(ok:X.Ok):(X.hold O E).Ok:=⟨ok.mod,ok.kind,ok.glob,ok.blt,ok.above,ok.inj,ok.has,ok.cab,ok.hd,ok.frames,ok.stk,ok.exf,ok.bs,ok.bsz,ok.noex,ok.exfs,ok.funs,ok.frf⟩
theorem Cx.Ok.unhold{X:Cx}(ok:(X.hold O E).Ok):X.Ok:=⟨ok.mod,ok.kind,ok.glob,ok.blt,ok.above,ok.inj,ok.has,ok.cab,ok.hd,ok.frames,ok.stk,ok.exf,ok.bs,ok.bsz,ok.noex,ok.exfs,ok.funs,ok.frf⟩
theorem Inv.hold{X:Cx}(I:Inv X O Z H s):Inv (X.hold O E) [] Z H s:=⟨I.ok.hold,I.os,I.bare,I.base,I.loc,I.cell,I.free,I.freeC,λp hp=>I.pin p (by simp_all),I.hok,I.len⟩
theorem Inv.unhold{X:Cx}(I:Inv (X.hold O E) aZ Z H s):Inv X O Z H s:=⟨I.ok.unhold,I.os,I.bare,I.base,I.loc,I.cell,I.free,I.freeC,λp hp=>I.pin p (Vr _ hp),I.hok,I.len⟩
theorem SP.unhold(h:SP (X.hold O E) aZ D f s'):SP X O D f s':=by
 cases f with
 |next|brk|cont=>obtain⟨ae,H',I,q⟩:=h;exact⟨ae,H',I.unhold,q⟩
 |ret u=>obtain⟨v,ae,H',I,r,q⟩:=h;exact⟨v,ae,H',I.unhold,r,q⟩
theorem Cx.Ok.within{X:Cx}(ok:X.Ok):(X.within a).Ok:=⟨ok.mod,ok.kind,ok.glob,ok.blt,ok.above,ok.inj,ok.has,ok.cab,(λz=>by cases z),ok.frames,ok.stk,ok.exf,ok.bs,ok.bsz,ok.noex,ok.exfs,ok.funs,ok.frf⟩
theorem Inv.within{X:Cx}(I:Inv X O Z H s):Inv (X.within a) O Z H s:=⟨I.ok.within,I.os,I.bare,I.base,I.loc,I.cell,I.free,I.freeC,I.pin,I.hok,I.len⟩
theorem Inv.unwithin(ok:X.Ok)(I:Inv (X.within a) O Z H s):Inv X O Z H s:=⟨ok,I.os,I.bare,I.base,I.loc,I.cell,I.free,I.freeC,I.pin,I.hok,I.len⟩
theorem Fly.inv(I:Inv X O Z H s)(F:Fly X.prog X.w X.stack H s C H' a t B s'):Inv X O Z H' s':=
 I.call' F.os F.lies.un (F.lies.hok.kept F.lies.st) F.bare λb z=>absurd z (by simp)
noncomputable def ExO(a C:Addr):HO:=.ext λh=> ∃o,h.get? a=some o/\o.cls= .ref C
theorem Fly.gone{X:Cx}{s:Shared}(F:Fly X.prog X.w X.stack H s C H' a t B s'):s.heap.get? a=none:=by
 cases q:s.heap.get? a with
 |none=>rfl
 |some o=>
  by_cases hb:a∈frs X.stack
  ·obtain⟨nf,sl,e⟩:=F.lies.sl a o q hb;obtain⟨oe,ws,he,hc,hd,h0⟩:=F.fly.first
   grind
  ·obtain⟨o',e⟩:=F.lies.th a o q hb;rw[F.fly.2.1] at e;cases e
theorem Fly.invX{X:Cx}(I:Inv X O Z H s)(F:Fly X.prog X.w X.stack H s C H' a t B s'):Inv X O Z (upd H' a (ExO a C)) s':=by
 have u:=F.lies.un;have g:=F.gone;have hok:=F.lies.hok.kept F.lies.st;have ne: ∀b o,H' b=some o->b≠a:=λb o e z=>by rw[z,F.new] at e;cases e
 refine I.call' F.os ⟨u.keep,u.slot,λb o e n hx=> ?_,u.there,λb xs q=> ?_,λb o w q=> ?_,λb ps q=> ?_⟩ (λb o e=> ?_) F.bare λb z=>absurd z (by simp)
 ·rw[qab (λz=>by rw[z,g] at e;cases e)];exact u.free b o e n hx
 ·have q':=u.tups b xs q;rw[qab (ne _ _ q')];exact q'
 ·have q':=u.frzs b o w q;rw[qab (ne _ _ q')];exact q'
 ·obtain⟨m,q'⟩:=u.tbls b ps q;exact⟨m,by rw[qab (ne _ _ q')];exact q'⟩
 ·by_cases z:b=a
  ·subst z;rw[qaf] at e;cases e;obtain⟨oe,ws,he,hc,hd,h0⟩:=F.fly.first;exact⟨⟨oe,he,hc⟩,⟨oe,he⟩,λh1 h2 ⟨o,e1,e2⟩ k=>⟨o,k o e1,e2⟩⟩
  ·rw[qab z] at e;exact(hok b o e).stay (λ_ _ _ r=>r) (λc r=>by rw[qab (ne _ _ r)];exact r) λc xs r=>by rw[qab (ne _ _ r)];exact r
end
section
theorem qdj(hC:qdi s.heap C bm)(hD:qdi s.heap D bmD)(he:s.heap.get? e=some oe)(d7:oe.cls= .ref C)(hq:Q ((Value.ref C::bm).contains (.ref D)) s):wpAny M A (excMatches (.ref e) (.ref D)) Q E s:=by
 have fU:(Value.ref D::bmD).contains (.type "BaseException")=true:=by rw[List.contains_cons,hD.base,Bool.or_true]
 obtain⟨N,nm,q,bs,hdct,sn,sub,ab,col,dd,k0,k1,k2,k3,k5,mN,hC,_⟩:=hC;obtain⟨N',i9,q',bs',jo,sn',sub',ab',col',bO,k0',k1',k2',k3',k5',mN',hD,_⟩:=hD;have f:=tc_notTuple;obtain⟨h,g,d,t,os⟩:=s;unfold excMatches
 repeat (first|(with_reducible refine Ve he ?_;rw[d7])|with_reducible refine Ve hD ?_|(with_reducible refine wpAny_isSubtype_exc hD ?_;rw[fU])|with_reducible refine wpAny_isSubtype_exc hC ?_|wp_step)
 cases hb:(Value.ref C::bm).contains (.ref D)<;>(rw[hb] at hq;first|exact hq|(wp_walk;exact hq))
end
noncomputable def XE(X:Cx)(O:List (Addr×Obj))(W:St->Addr->Hp->Prop):Value->Shared->Prop:=λe s'=>
 ∃Z H s C H' a t B,e= .ref a/\Inv X O Z H s/\Fly X.prog X.w X.stack H s C H' a t B s'/\W Z C H'
noncomputable def eW(W:St->Addr->Hp->Prop)(Z:St):XK:=λv _ H'=> ∃C,v= .ref C/\W Z C H'
noncomputable def qua(base:Heap)(CH:Addr)(i:Nat)(ts:TS)(D:qqM):St->Addr->Hp->Prop:=λZ C H=> ∃bm,qdi base C bm/\(Value.ref C::bm).contains (.ref CH)=true/\
 ∀a,H a=none->ts { nx:=λae H'=>D.nx (ae.set i none) H',rt:=D.rt,bk:=λae H'=>D.bk (ae.set i none) H',ct:=λae H'=>D.ct (ae.set i none) H' } (Z.set i (some (.ref a))) (upd H a (ExO a C))
noncomputable def qui(base:Heap)(CH:Addr)(i:Nat)(tb:(St->Addr->Hp->Prop)->TS)(ts:TS):TS:=λD Z H=>tb (qua base CH i ts D) D Z H
section
variable{x n:Str}
theorem qcy(I:Inv X O Z H s)(hN:X.N.Nodup)(hi:X.N[i]? =some n)(hk:X.env.kindOf n=some .local)(h: ∀s',Inv X O (Z.set i none) H s'->Q () s'):wpAny M A (do bindName X.env n .none;unbindBehindTheSuite X.env n pos) Q Ex s:=by
 obtain⟨m,hn,hl⟩:=id I.loc;refine wpAny_nameGoes_keeps hk hn (by rw[I.ok.kind];rfl) λh' v il hs=> ?_;have cne:=I.cne;have cZ: ∀b o,X.s₀.heap.get? b=some o->b≠X.env.locals:=λb o e=>Vn (Vm (Vi e) I.ok.above);refine h _ ⟨I.ok,I.os,I.bare,⟨λb o e n hb hx=> ?_,λb o e n hb hx=> ?_,I.base.free,λb o e hx=> ?_,I.base.tups,I.base.frzs,I.base.tbls⟩,⟨_,il,λj y v' e1 e2 e3=> ?_⟩,λy c e=> ?_,I.free,I.freeC,λp hp=> ?_,λb ob e=> ?_,?_⟩
 ·exact(hs.2 b (cZ b o e)).trans (I.base.keep b o e n hb hx)
 ·obtain⟨sl,e1⟩:=I.base.slot b o e n hb hx;exact⟨sl,(hs.2 b (cZ b o e)).trans e1⟩
 ·obtain⟨o',e1⟩:=I.base.there b o e hx;exact⟨o',(hs.2 b (cZ b o e)).trans e1⟩
 ·by_cases hj:j=i
  ·subst hj;have cF:j<Z.length:=by rw[I.len];exact(List.getElem?_eq_some_iff.mp hi).1
   rw[List.getElem?_set_self cF] at e2;cases e2
  ·rw[List.getElem?_set_ne (Ne.symm hj)] at e2;obtain⟨u',r',q⟩:=hl j y v' e1 e2 e3;refine⟨u',r',?_⟩
   rcases q with⟨k,e⟩|⟨k,c,e,z⟩
   ·refine .inl ⟨k,?_⟩;have:y≠n:=λe=>hj (qd6 hN e1 (e▸hi));simp[this,e]
   ·exact .inr ⟨k,c,e,z.sameBut hs (cne y c e)⟩
 ·obtain⟨w',z⟩:=I.cell y c e;exact⟨w',z.sameBut hs (cne y c e)⟩
 ·obtain⟨e,n,ne,nf,d⟩:=I.pin p hp;exact⟨(hs.2 p.1 ne).trans e,n,ne,nf,d⟩
 ·refine(I.hok b ob e).stay (λc w' hc q=>(hs.2 c ?_).trans q) (λ_ q=>q) λ_ _ q=>q;intro z
  rcases hc with hc|hc
  ·rw[<-hc,z,I.free] at e;cases e
  ·rw[z,I.free] at hc;cases hc
 ·rw[List.length_set];exact I.len
theorem qos(aF:X.stack=X.env::X.outer)(hf:X.env.frame=some X.env.locals)(hN:X.N.Nodup)(hi:X.N[i]? =some n)(hk:X.env.kindOf n=some .local)(hg:Gl X x)(hm:X.mg x=some (.ref CH))(hH:qdi X.base CH bmH)(hb: ∀O W,PSs (X.hold O (XE X O W)) body (tb W))(hs: ∀a,PSs (X.within a) (iT::suite) ts)(aH:(x==("__debug__" :Str))=false:=by decide):
  PS X (.Try body [.ExceptHandler (some (.Name x np)) (some n) (iT::suite) hpos] [] [] pos) (qui X.base CH i tb ts):=by
 intro O s Z H D I h;refine wpAny_Try_except ?_;refine Vc (hb O _ [] s Z H D I.hold h) (λf s1 hq=> ?_) (λe s1 hq=> ?_)
 ·have ba:=hq.unhold;cases f with
  |next=>exact wpAny_execs_nil ba
  |brk|cont|ret u=>exact ba
 ·obtain⟨cK,H1,s0,C,H',a,t,B,rfl,I1,F,bm,hC,d8,w⟩:=hq;refine F.look aF hf I1 λs2 F2=> ?_;have I2:=F2.inv I1;obtain⟨oe,ws,he,hc,hd,h0⟩:=F2.fly.first;refine wpAny_handleBy_cons (codeAny_handlers_test ?_) (by intro q;cases q);refine qbg (X:=X.within a) I2.within hg hm ?_ aH;refine qdj (hC.keeps I2.bk) (hH.keeps I2.bk) he hc ?_;rw[d8];refine codeAny_handlers_suite_as ?_;refine F2.land λs3 F3=> ?_;refine qdS (X:=X.within a) (v:=.ref a) (F3.invX I1).within hN hi (Or.inl hk) rfl (λs4 I4=> ?_) (.inr hk);refine Vc (hs a O s4 _ _ _ I4 (w a F3.new)) (λf s5 q=> ?_) (λ_ _ z=>z.elim);cases f with
  |next|brk|cont=>obtain⟨ae,H5,J,z⟩:=q;exact qcy (J.unwithin I.ok) hN hi hk λs6 J6=>⟨_,_,J6,z⟩
  |ret u=>obtain⟨v,ae,H5,J,r,z⟩:=q;exact qcy (J.unwithin I.ok) hN hi hk λs6 J6=>⟨v,_,_,J6,r,z⟩
end
section
theorem qd9{M:Model}{A:Around}{E:Value->Shared->Prop}{h:Heap}{g:Array GenState}{d:Drawn}{t:Nat}{os:OsState}{tl:List Value}{n:Str}{y:Option Value}{Q:Option Value->Shared->Prop}(hn:n∈qhU)(T:qbx h bmV tl)(bY:lookupAlong bmV n=pure y)(hq:Q y ⟨h,g,d,t,os⟩):
  wpAny M A (lookupAlong tl n) Q E ⟨h,g,d,t,os⟩:=by
 induction T with
 |base=>rw[bY];exact Vb hq
 |own hA hN hni _ ih=>
  rw[lookupAlong_cons];refine Va (wpAny_classOwn_cls hA hN ?_)
  simp_all
variable{nm q:Str}{sn:List Str}{newId:String}
theorem qbo{M:Model}{A:Around}{E:Value->Shared->Prop}{h:Heap}{g:Array GenState}{d:Drawn}{t:Nat}{os:OsState}{C:Addr}{N:Addr}{bs:List Value}{bm:List Value}{hdct:Bool}{sub:List Value}{ab:Bool}{col:Option Bool}{dd:Option Addr}{k0:Option Value}{k1:Option Value}{k2:Option Value}{k3:Option Value}{k5:Option Value}{mN:Str->Option Value}{n:Str}{y:Option Value}{Q:Option Value->Shared->Prop}(hn:n∈qhU)(hC:h.get? C=some (excClassObj nm q C N bs bm hdct sn sub ab col dd k0 k1 k2 k3 k5 newId))(hN:h.Ns N mN)(bZ: ∀n∈qhU,mN n=none)(T:qbx h bmV bm)(hB:typeLookup (.type "ValueError") n=pure y)(hq:Q y ⟨h,g,d,t,os⟩):wpAny M A (typeLookup (.ref C) n) Q E ⟨h,g,d,t,os⟩:=by
 have bY:lookupAlong bmV n=pure y:=by have e:=F.attrBase_ValueError.mro;rw[typeLookup_eq,e] at hB;exact hB
 rw[typeLookup_eq];refine Va (wpAny_mroOf_exc hC ?_);rw[lookupAlong_cons];refine Va (wpAny_classOwn_exc hC hN ?_);rw[bZ n hn];exact qd9 hn T bY hq
end
theorem qf3:typeLookup (.type "ValueError") "__class__" =pure (some (.builtin "object.__class__")):=by kernel_rfl
section
variable{nm q:Str}{sn:List Str}{newId:String}
theorem qel{prog:Program}{w:World}{A:Around}{h:Heap}{g:Array GenState}{d:Drawn}{t:Nat}{os:OsState}{a:Addr}{o:Obj}{C:Addr}{N:Addr}{bs:List Value}{bm:List Value}{hdct:Bool}{sub:List Value}{ab:Bool}{col:Option Bool}{dd:Option Addr}{k0:Option Value}{k1:Option Value}{k2:Option Value}{k3:Option Value}{k5:Option Value}{R:Result->Shared->Prop}(hC:h.get? C=some (excClassObj nm q C N bs bm hdct sn sub ab col dd k0 k1 k2 k3 k5 newId))(T:qbx h bmV bm)(hx:h.get? a=some o)(hc:o.cls= .ref C)(hq:R (.ok (.ret (.ref C))) ⟨h,g,d,t,os⟩):
  codeAny (model prog w) A (.call (.builtin "getset_descriptor.__get__") ⟨[.builtin "object.__class__",.ref a,.ref C],[]⟩) R ⟨h,g,d,t,os⟩:=by
 have hT5:(⟨h,g,d,t,os⟩:Shared).TypeIs (.builtin "object.__class__") "getset_descriptor" :=F.typeOf_object_class;have fU:(Value.ref C::bm).contains (.type (".".intercalate ("object.__class__".cutAt '.').dropLast))=true:=by rw[F.owner_object_class,List.contains_cons,T.tail.hasType (b:=true) (by decide)];rfl
 refine codeAny_call_builtin F.slot_gs_get.plain F.entry_gs_get (F.slot_gs_get.check _ _ _ _ _ _ _ _ hT5 (F.args_gs_get _ _ _) ?_)
 repeat (any_goals(first|assumption|(with_reducible refine Ve hx ?_;rw[hc])|(with_reducible refine wpAny_isSubtype_exc hC ?_;rw[fU])|wp_step))
 refine⟨Code.quiet_builtin _ (by decide+kernel),codeAny_builtin F.entry_object_class ?_⟩
 repeat (any_goals(first|assumption|(with_reducible refine Ve hx ?_;rw[hc])|wp_step))
theorem qc8{prog:Program}{w:World}{A:Around}{E:Value->Shared->Prop}{h:Heap}{g:Array GenState}{d:Drawn}{t:Nat}{os:OsState}{a:Addr}{o:Obj}{C:Addr}{N:Addr}{bs:List Value}{bm:List Value}{hdct:Bool}{sub:List Value}{ab:Bool}{col:Option Bool}{dd:Option Addr}{k0:Option Value}{k1:Option Value}{k2:Option Value}{k3:Option Value}{k5:Option Value}{mN:Str->Option Value}{tk:Tok}{Q:Fin->Shared->Prop}(hC:h.get? C=some (excClassObj nm q C N bs bm hdct sn sub ab col dd k0 k1 k2 k3 k5 newId))(hN:h.Ns N mN)(bZ: ∀n∈qhU,mN n=none)(T:qbx h bmV bm)(hx:h.get? a=some o)(hc:o.cls= .ref C)(hq:Q (.done (.ret (.ref C))) ⟨h,g,d,t,os⟩):
  wpAny (model prog w) A (Builtin.«object.__getattribute__» ⟨[.ref a,.str "__class__" tk],[]⟩) Q E ⟨h,g,d,t,os⟩:=by
 have f5:=F.typeOf_object_class;have f6:=F.slot_gs_get.lookup;have f7:=F.slot_gs_set.lookup;have hmA:("__class__" :Str)∈qhU:=.tail _ (.tail _ (.tail _ (.head _)))
 repeat (any_goals(first|assumption|(with_reducible refine Ve hx ?_;rw[hc])|with_reducible refine qbo hmA hC hN bZ T qf3 ?_|wp_step))
 refine qel hC T hx hc ?_
 repeat (any_goals(first|assumption|wp_step))
theorem qfw{A:Around}{E:Value->Shared->Prop}{h:Heap}{g:Array GenState}{d:Drawn}{t:Nat}{os:OsState}{a:Addr}{o:Obj}{C:Addr}{N:Addr}{bs:List Value}{bm:List Value}{hdct:Bool}{sub:List Value}{ab:Bool}{col:Option Bool}{dd:Option Addr}{k0:Option Value}{k1:Option Value}{k2:Option Value}{k3:Option Value}{k5:Option Value}{M:Model}{cM:Value}{Q:Unit->Shared->Prop}(hC:h.get? C=some (excClassObj nm q C N bs bm hdct sn sub ab col dd k0 k1 k2 k3 k5 newId))(T:qbx h bmV bm)(hx:h.get? a=some o)(hc:o.cls= .ref C)(hq:Q () ⟨h,g,d,t,os⟩):wpAny M A (checkBuiltinCall "BaseException.__getattribute__" ⟨[.ref a,cM],[]⟩) Q E ⟨h,g,d,t,os⟩:=by
 have hk:builtinKind "BaseException.__getattribute__" =some .slot:=by decide+kernel
 have dA:splitId "BaseException.__getattribute__" =some ("BaseException", "__getattribute__"):=by decide+kernel
 have fU:(Value.ref C::bm).contains (.type "BaseException")=true:=by rw[List.contains_cons,T.tail.hasType (b:=true) (by decide)];rfl
 have ha:=F.args_bexc_ga (.ref a) cM;simp only[checkBuiltinCall,hk,dA];refine Va ?_
 ·unfold isInstance
  repeat (first|(with_reducible refine Ve hx ?_;rw[hc])|(with_reducible refine wpAny_isSubtype_exc hC ?_;rw[fU])|wp_step)
  exact hq
theorem qdm{prog:Program}{w:World}{A:Around}{h:Heap}{g:Array GenState}{d:Drawn}{t:Nat}{os:OsState}{a:Addr}{o:Obj}{C:Addr}{N:Addr}{bs:List Value}{bm:List Value}{hdct:Bool}{sub:List Value}{ab:Bool}{col:Option Bool}{dd:Option Addr}{k0:Option Value}{k1:Option Value}{k2:Option Value}{k3:Option Value}{k5:Option Value}{mN:Str->Option Value}{tk:Tok}{R:Result->Shared->Prop}(hC:h.get? C=some (excClassObj nm q C N bs bm hdct sn sub ab col dd k0 k1 k2 k3 k5 newId))(hN:h.Ns N mN)(bZ: ∀n∈qhU,mN n=none)(T:qbx h bmV bm)(hx:h.get? a=some o)(hc:o.cls= .ref C)(hq:R (.ok (.ret (.ref C))) ⟨h,g,d,t,os⟩):
  codeAny (model prog w) A (.call (.builtin "BaseException.__getattribute__") ⟨[.ref a,.str "__class__" tk],[]⟩) R ⟨h,g,d,t,os⟩:=
 codeAny_call_builtin PySem.F.attrBase_ValueError.ga.plain F.entry_bexc_ga (qfw hC T hx hc (qc8 hC hN bZ T hx hc hq))
theorem qfv{prog:Program}{w:World}{A:Around}{E:Value->Shared->Prop}{h:Heap}{g:Array GenState}{d:Drawn}{t:Nat}{os:OsState}{a:Addr}{o:Obj}{C:Addr}{N:Addr}{bs:List Value}{bm:List Value}{hdct:Bool}{sub:List Value}{ab:Bool}{col:Option Bool}{dd:Option Addr}{k0:Option Value}{k1:Option Value}{k2:Option Value}{k3:Option Value}{k5:Option Value}{mN:Str->Option Value}{tk:Tok}{Q:Value->Shared->Prop}(hC:h.get? C=some (excClassObj nm q C N bs bm hdct sn sub ab col dd k0 k1 k2 k3 k5 newId))(hN:h.Ns N mN)(bZ: ∀n∈qhU,mN n=none)(T:qbx h bmV bm)(hx:h.get? a=some o)(hc:o.cls= .ref C)(hq:Q (.ref C) ⟨h,g,d,t,os⟩):
  wpAny (model prog w) A (getAttrBy (.ref a) (.str "__class__" tk) false) Q E ⟨h,g,d,t,os⟩:=by
 have f3:=F.attrBase_ValueError.ga.bind (.ref a);have gD:("__getattribute__" :Str)∈qhU:=.tail _ (.head _);have cQ:("__getattr__" :Str)∈qhU:=.tail _ (.tail _ (.head _))
 repeat (any_goals(first|assumption|(with_reducible refine Ve hx ?_;rw[hc])|with_reducible refine qbo gD hC hN bZ T F.attrBase_ValueError.ga.lookup ?_|with_reducible refine qbo cQ hC hN bZ T F.attrBase_ValueError.noGetattr ?_|wp_step))
 refine qdm hC hN bZ T hx hc ?_
 repeat (any_goals(first|assumption|wp_step))
theorem qdn{prog:Program}{w:World}{A:Around}{E:Value->Shared->Prop}{h:Heap}{g:Array GenState}{d:Drawn}{t:Nat}{os:OsState}{a:Addr}{o:Obj}{C:Addr}{bm:List Value}{Q:Option Value->Shared->Prop}(hX:qdi h C bm)(hx:h.get? a=some o)(hc:o.cls= .ref C)(hq:Q (some (.ref C)) ⟨h,g,d,t+1,os⟩):
  wpAny (model prog w) A (getAttr? (.ref a) "__class__") Q E ⟨h,g,d,t,os⟩:=by
 obtain⟨N,nm,q,bs,hdct,sn,sub,ab,col,dd,k0,k1,k2,k3,k5,mN,hC,hN,bZ,T⟩:=hX;unfold getAttr? getAttrBy?
 repeat (any_goals(first|assumption|with_reducible apply qfv hC hN bZ T hx hc|wp_step))
end
theorem qlW{K:W.Frag}{a C:Addr}{bm:List Value}(hK:(W.clsIn K C).isSome=true):W.KitX K (.ref a) (.ref C) (λh=>qdi h C bm/\∃o,h.get? a=some o/\o.cls= .ref C) where
 ty:=λM h _ p=>by obtain⟨_,o,h1,h2⟩:=p;exact h2▸(W.Looks.ld h1).andThen .now
 it:=λM h _ p=>by obtain⟨⟨N,nm,q,bs,hdct,sn,sub,ab,col,dd,k0,k1,k2,k3,k5,mN,hC,_⟩,_⟩:=p;intro A' Q' E' s' k q;unfold isType loadHead;exact Va (wpAny_loadPart (k _ _ hC) (Vb q))
 ne:=λh tp dd its n sl X htp=>by
  refine Bool.eq_false_iff.mpr λq=> ?_;have e:C=tp:=Value.ref.inj (beq_iff_eq.mp q);subst e;unfold W.clsIn at hK;split at hK
  ·rename_i c' d' cd' eG ho;have z:=(X _ _ ho).symm.trans htp;cases z
  ·cases hK
 ca:=λ{_ _ _ _ _ s} X p k=>by obtain⟨h,g,d,t,os⟩:=s;obtain⟨hX,o,h1,h2⟩:=p;exact qdn hX h1 h2 k
section
theorem qfA:qau X (.builtin "isinstance") (λxs H Q=> ∃a C bm y c b,xs=[.ref a,y]/\H a=some (ExO a C)/\qdi X.base C bm/\(W.clsIn X.K C).isSome=true/\(∀u,RelV y u->u=c)/\W.kitOne X.K (.ref C) c=some b/\Q (.bl b) H):=by
 intro O s Z H xs us Q I r h;obtain⟨a,C,bm,y,c,b,rfl,ha,hX,hK,hc,e,q⟩:=h;obtain⟨u,w',rfl,ru,av⟩:=qiz r;obtain rfl:=hc _ av;cases(ru);obtain⟨⟨o,e1,e2⟩,_⟩:=(I.hok a _ ha)
 exact W.kia_one (qlW hK) I.kIn ⟨hX.keeps I.bk,o,e1,e2⟩ e (λz=>nomatch z) λtk=>⟨.bl b,H,I.tok tk,rfl,q⟩
end
section
theorem qdG(k:Bool): ∀bs:List Bool,(bs.map Value.bool).countP (PyProof.Rows.isBoolOf k)=bs.countP (· ==k)
 |[]=>rfl
 |b::bs=>by rw[List.map_cons,List.countP_cons,List.countP_cons,qdG k bs];rfl
theorem qjm:MtR X "list.count" (λx vs H Q=> ∃(l:Addr)(bs:List Bool)(k:Bool),x= .ref l/\vs=[.bl k]/\H l=some (.lst (bs.map V.bl))/\Q (.int (bs.countP (· ==k):Nat)) H):=by
 intro O s Z H x vs v us Q I rx rv h;obtain⟨l,bs,k,rfl,rfl,hH,q⟩:=h;cases rx;obtain⟨u,rfl,ru⟩:=qcq rv;cases ru;obtain⟨z,its,n,r,hl,e⟩:=I.lstM hH;have ei:=qcx r;subst ei;refine call_meets F.slot_list_count ⟨_,e,rfl⟩ F.entry_list_count (F.args_list_count_2 _ _) (SeqAt.list_countAt l _ n _ _ _ (PyProof.Rows.isBoolOf k)) ⟨e,λy hy=> ?_,?_⟩
 ·have dq:y∈bs.map Value.bool:=by simpa using hy
  obtain⟨b,_,rfl⟩:=List.mem_map.mp dq;exact SeqAt.EqAt.bool_bool b k
 ·refine⟨.int _,H,I.tok _,⟨_,rfl⟩,?_⟩;rw[qdG];exact q
theorem qjl:MtR X "list.index" (λx vs H Q=> ∃(l:Addr)(bs:List Bool)(k:Bool)(j:Nat),x= .ref l/\vs=[.bl k]/\H l=some (.lst (bs.map V.bl))/\bs.length<=1000/\bs[j]? =some k/\(∀i,i<j->bs[i]? =some (!k))/\Q (.int (j:Nat)) H):=by
 intro O s Z H x vs v us Q I rx rv h;obtain⟨l,bs,k,j,rfl,rfl,hH,hz,hj,hn,q⟩:=h;cases rx;obtain⟨u,rfl,ru⟩:=qcq rv;cases ru;obtain⟨z,its,n,r,hl,e⟩:=I.lstM hH;have ei:=qcx r;subst ei;have dQ:j<bs.length:=(List.getElem?_eq_some_iff.mp hj).1;have at_: ∀i (hi:i<(bs.map Value.bool).toArray.size),(bs.map Value.bool).toArray[i]=Value.bool (bs.getD i false):=λi hi=>by
  have bz:i<bs.length:=by simpa using hi
  simp[List.getD_eq_getElem?_getD,bz]
 refine call_meets F.slot_list_index ⟨_,e,rfl⟩ F.entry_list_index (F.args_list_index_2 _ _) (SeqAt.list_indexAt l _ n _ _ (.bool k) (PyProof.Rows.isBoolOf k) j (by simpa using dQ) (by lia) ?_ ?_) ⟨e,λy hy=> ?_,?_⟩
 ·rw[at_ j (by simpa using dQ)];simp[PyProof.Rows.isBoolOf,List.getD_eq_getElem?_getD,hj]
 ·intro m hm bx;rw[at_ m hm];simp[PyProof.Rows.isBoolOf,List.getD_eq_getElem?_getD,hn m bx]
 ·have dq:y∈bs.map Value.bool:=by simpa using hy
  obtain⟨b,_,rfl⟩:=List.mem_map.mp dq;exact SeqAt.EqAt.bool_bool b k
 ·exact⟨.int _,H,I.tok _,⟨_,rfl⟩,q⟩
end
end L2
namespace L2
open PySem PySem.Spec PyProof.Rows
section
variable{κ:Type}[DecidableEq κ]
noncomputable def qfK(kvs:List (κ×V))(k:κ):Option V:=(kvs.find? λkv=>decide (kv.1=k)).map (·.2)
noncomputable def qgV(kvs:List (κ×V))(k:κ)(v:V):List (κ×V):=
 if(kvs.any λkv=>decide (kv.1=k))=true then kvs.map (λkv=>if kv.1=k then(kv.1,v) else kv) else kvs++[(k,v)]
noncomputable def qgd(kvs:List (κ×V))(k:κ):List (κ×V):=kvs.filter λkv=>decide (kv.1≠k)
theorem qdO{p:κ×V}{r:List (κ×V)}{k:κ}(e:p.1=k):qfK (p::r) k=some p.2:=by simp[qfK,e]
theorem qdP{p:κ×V}{r:List (κ×V)}{k:κ}(e: ¬p.1=k):qfK (p::r) k=qfK r k:=by simp[qfK,e]
theorem qgF(k:κ): ∀kvs:List (κ×V),(kvs.any λkv=>decide (kv.1=k))=(qfK kvs k).isSome
 |[]=>rfl
 |p::r=>by
  rw[List.any_cons];by_cases e:p.1=k
  ·simp only[qdO e,decide_eq_true e,Bool.true_or,Option.isSome_some]
  ·rw[qdP e,decide_eq_false e];exact qgF k r
theorem qbS(kvs:List (κ×V))(k:κ)(v:V):(qgV kvs k v).length<=kvs.length+1:=by
 unfold qgV
 grind
theorem qev.isSome_eq(r:qev o u):o.isSome=u.isSome:=by
 cases o with
 |none=>cases u with
  |none=>rfl
  |some _=>exact(r).elim
 |some _=>cases u with
  |none=>exact(r).elim
  |some _=>rfl
theorem KV.val(r:KV kvs vs)(k:κ):qev (qfK kvs k) (valueAt vs k):=by
 induction r with
 |nil=>exact True.intro
 |@cons p q ps qs h t ih=>
  obtain⟨h1,h2⟩:=h;by_cases e:p.1=k
  ·have e':=h1.symm.trans e;have b:valueAt (q::qs) k=some q.2:=by simp[valueAt,e']
   rw[qdO e,b];exact h2
  ·have e': ¬q.1=k:=λz=>e (h1.trans z);have b:valueAt (q::qs) k=valueAt qs k:=by simp[valueAt,e']
   rw[qdP e,b];exact ih
theorem KV.any(r:KV kvs vs)(k:κ):(kvs.any λkv=>decide (kv.1=k))=vs.any λkv=>decide (kv.1=k):=by
 induction r with
 |nil=>rfl
 |cons h t ih=>simp_all
theorem KV.repl(r:KV kvs vs)(k:κ)(ry:RelV y u):
  KV (kvs.map λkv=>if kv.1=k then(kv.1,y) else kv) (vs.map λkv=>if kv.1=k then(kv.1,u) else kv):=by
 induction r with
 |nil=>exact .nil
 |@cons p q ps qs h t ih=>
  refine .cons ?_ ih;by_cases e:p.1=k
  ·simp_all
  simp_all
theorem KV.put(r:KV kvs vs)(k:κ)(ry:RelV y u):KV (qgV kvs k y) (stored vs k u):=by
 unfold qgV stored;rw[r.any k];by_cases e:(vs.any λkv=>decide (kv.1=k))=true
 ·rw[if_pos e,if_pos e];exact r.repl k ry
 ·rw[if_neg e,if_neg e];exact Paired.snoc r ⟨rfl,ry⟩
theorem KV.drop(r:KV kvs vs)(k:κ):KV (qgd kvs k) (without vs k):=by
 unfold qgd without
 induction r with
 |nil=>exact .nil
 |@cons p q ps qs h t ih=>
  obtain⟨h1,h2⟩:=h;rw[List.filter_cons,List.filter_cons];by_cases e:p.1=k
  ·simp_all
  ·have e': ¬q.1=k:=λz=>e (h1.trans z);have a:decide (p.1≠k)=true:=by simp[e]
   have b:decide (q.1≠k)=true:=by simp[e']
   rw[if_pos a,if_pos b];exact .cons ⟨h1,h2⟩ ih
theorem KV.length(r:KV kvs vs):kvs.length=vs.length:=Paired.length r
theorem qhp(kvs:List (κ×V))(k:κ):(qgd kvs k).length<=kvs.length:=List.length_filter_le _ _
end
theorem qfa(r:RelV (kV k) u):(qar P w).is k u=true:=by
 cases k with
 |inl i=>obtain⟨t,e⟩:=(r);subst e;exact qfZ P w i t
 |inr x=>obtain⟨t,e⟩:=(r);subst e;exact qfY P w x t
theorem qfb: ∀{ks:List Key}{us:List Value},qav (ks.map kV) us->ItemsAre (qar P w) ks us
 |[],_,r=>by cases r;exact .nil
 |k::ks,_,r=>by
  cases r with
  |cons h t=>exact .cons (qfa h) (qfb t)
abbrev KT(H:Hp):List (List Key×V)->List (List Key×Addr×Value)->Prop:=Paired λp q=>p.1=q.1/\H q.2.1=some (.tup (p.1.map kV))/\RelV p.2 q.2.2
theorem KT.val(r:KT H kvs xs)(k:List Key):qev (qfK kvs k) ((atKey xs k).map (·.2)):=by
 induction r with
 |nil=>exact True.intro
 |@cons p q ps qs h t ih=>
  obtain⟨h1,_,h2⟩:=h;by_cases e:p.1=k
  ·have e':=h1.symm.trans e;have b:atKey (q::qs) k=some q.2:=by simp[atKey,e']
   rw[qdO e,b];exact h2
  ·have e': ¬q.1=k:=λz=>e (h1.trans z);have b:atKey (q::qs) k=atKey qs k:=by simp[atKey,e']
   rw[qdP e,b];exact ih
theorem KT.repl(r:KT H kvs xs)(k:List Key)(ry:RelV y u):
  KT H (kvs.map λkv=>if kv.1=k then(kv.1,y) else kv) (xs.map (putAt k u)):=by
 induction r with
 |nil=>exact .nil
 |@cons p q ps qs h t ih=>
  refine .cons ?_ ih;unfold putAt;by_cases e:p.1=k
  ·simp_all
  simp_all
theorem KT.put(r:KT H kvs xs)(k:List Key)(hb:H b=some (.tup (k.map kV)))(ry:RelV y u):
  KT H (qgV kvs k y) (storedH xs k b u):=by
 have e:(kvs.any λkv=>decide (kv.1=k))=(atKey xs k).isSome:=by rw[qgF,(r.val k).isSome_eq,Option.isSome_map]
 unfold qgV storedH;rw[e];by_cases q:(atKey xs k).isSome=true
 ·rw[if_pos q,if_pos q];exact r.repl k ry
 ·rw[if_neg q,if_neg q];exact Paired.snoc r ⟨rfl,hb,ry⟩
theorem KT.keeps(r:KT H kvs xs)(ht: ∀b ys,H b=some (.tup ys)->H' b=some (.tup ys)):KT H' kvs xs:=
 Paired.mapP r λ_ _ z=>⟨z.1,ht _ _ z.2.1,z.2.2⟩
section
theorem qrd(ok:HOk P w H h)(e:Rd H a u):qaE P w H h a u:=e.ok ok
theorem qcv(ok:HOk P w H h)(e:Rd H a (.dK kvs)):kvs.length<=sizeLine/\(a==sysModules)=false/\∃vs,KV kvs vs/\h.DictOf (qar P w) a vs:=
 qrd ok e
theorem qmo(ok:HOk P w H h)(e:H a=some (.dK kvs)):kvs.length<=sizeLine/\(a==sysModules)=false/\∃vs,KV kvs vs/\h.DictOf (qar P w) a vs:=qcv ok (.inl e)
theorem qe8(ok:HOk P w H h)(e:H a=some (.tup (ks.map kV))):(tupleKind (qar P w)).is h ks a:=by
 obtain⟨_,its,r,o,h1,h2,n,h3⟩:=(ok a _ e)
 exact⟨o,its.toArray,n,h1,h2,h3,by simpa using qfb r⟩
theorem qkc(ok:HOk P w H h)(e:Rd H a (.dT kvs)):kvs.length<=sizeLine/\(a==sysModules)=false/\
  ∃xs,KT H kvs xs/\h.DictOfH (tupleKind (qar P w)) a xs:=by
 obtain⟨z,y,xs,r,o,es,ep,h1,h2,h3,h4,h5⟩:=(qrd ok e)
 refine⟨z,y,xs,r,o,es,ep,h1,h2,h3,h4,λx hx=> ?_,h5⟩;have all: ∀{l } {m },KT H l m->∀x∈m,(tupleKind (qar P w)).is h x.1 x.2.1:=by
  intro l m q
  induction q with
  |nil=>simp
  |@cons p q ps qs hq t ih=>
   intro x hx
   rcases List.mem_cons.mp hx with e|hx
   ·exact qe8 ok (by grind)
   ·exact ih x hx
 exact all r x hx
theorem qsW(ok:HOk P w H h)(e:H a=some (.dT kvs)):kvs.length<=sizeLine/\(a==sysModules)=false/\
  ∃xs,KT H kvs xs/\h.DictOfH (tupleKind (qar P w)) a xs:=qkc ok (.inl e)
end
noncomputable def qkR(H:Hp)(a:Addr)(y:V)(r:Option V):Prop:=
 (∃kvs k,Rd H a (.dK kvs)/\y=kV k/\r=qfK kvs k)\/∃kvs k b,Rd H a (.dT kvs)/\y= .ref b/\H b=some (.tup (k.map kV))/\r=qfK kvs k
noncomputable def qye(H:Hp)(a:Addr)(y v:V)(H':Hp):Prop:=
 (∃kvs k,H a=some (.dK kvs)/\y=kV k/\kvs.length<sizeLine/\H'=upd H a (.dK (qgV kvs k v)))\/
 ∃kvs k b,H a=some (.dT kvs)/\y= .ref b/\H b=some (.tup (k.map kV))/\kvs.length<sizeLine/\H'=upd H a (.dT (qgV kvs k v))
section
theorem Inv.big(I:Inv X O Z H s):sysModules<s.heap.objs.size:=by have h:=(I.mod.glob.keeps I.bk).lt;exact Nat.lt_trans (by decide) h
theorem qkm(hu:A.units+1<cLine)(I:Inv X O Z H s)(g:qkR H a y (some v))(ry:RelV y u)(h: ∀w' s',Inv X O Z H s'->RelV v w'->Q w' s'):
  wpAny (model X.prog X.w) A (getItem (.ref a) u) Q E s:=by
 rcases g with⟨kvs,k,e,ey,l⟩|⟨kvs,k,b,e,ey,eb,l⟩
 ·subst ey;obtain⟨z,hd,vs,rel,dd⟩:=qcv I.hok e;obtain⟨w',hw,av⟩:=qev.some_of (by rw[l];exact rel.val k);exact wpAny_getItem_of (qfa ry) dd.mapOf hw (h w' _ (I.tok _) av)
 ·subst ey;cases(ry);obtain⟨z,hd,xs,rel,dd⟩:=qkc I.hok e;obtain⟨w',hw,av⟩:=qev.some_of (by rw[l];exact rel.val k);obtain⟨p,hp,dG⟩:=Option.map_eq_some_iff.mp hw;refine wpAny_getItem_heap (tupleKind_room_in1 hu) (qe8 I.hok eb) dd hp ?_;rw[dG];exact h w' _ (I.tok _) av
theorem qwT(hu:A.units+1<cLine)(I:Inv X O Z H s)(g:qkR H a y o)(ry:RelV y u)(h: ∀s',Inv X O Z H s'->Q (.bool o.isSome) s'):
  wpAny (model X.prog X.w) A (compareOp .In u (.ref a)) Q E s:=by
 rcases g with⟨kvs,k,e,ey,l⟩|⟨kvs,k,b,e,ey,eb,l⟩
 ·subst ey;obtain⟨z,hd,vs,rel,dd⟩:=qcv I.hok e;refine wpAny_in_of (qfa ry) hd dd.mapOf ?_;rw[<-(rel.val k).isSome_eq,<-l];exact h _ (I.tok _)
 ·subst ey;cases(ry);obtain⟨z,hd,xs,rel,dd⟩:=qkc I.hok e;refine wpAny_in_heap (tupleKind_room_in1 hu) (qe8 I.hok eb) hd dd ?_;have q:=(rel.val k).isSome_eq;rw[Option.isSome_map] at q;rw[<-q,<-l];exact h _ (I.tok _)
theorem qkl(hu:A.units+1<cLine)(I:Inv X O Z H s)(g:qkR H a y o)(ry:RelV y u)(h: ∀s',Inv X O Z H s'->Q (.bool (!o.isSome)) s'):
  wpAny (model X.prog X.w) A (compareOp .NotIn u (.ref a)) Q E s:=by
 rcases g with⟨kvs,k,e,ey,l⟩|⟨kvs,k,b,e,ey,eb,l⟩
 ·subst ey;obtain⟨z,hd,vs,rel,dd⟩:=qcv I.hok e;refine wpAny_notIn_of (qfa ry) hd dd.mapOf ?_;rw[<-(rel.val k).isSome_eq,<-l];exact h _ (I.tok _)
 ·subst ey;cases(show u=Value.ref b from ry);obtain⟨z,hd,xs,rel,dd⟩:=qkc I.hok e;refine wpAny_notIn_heap (tupleKind_room_in1 hu) (qe8 I.hok eb) hd dd ?_;have q:=(rel.val k).isSome_eq;rw[Option.isSome_map] at q;rw[<-q,<-l];exact h _ (I.tok _)
theorem qei(I:Inv X O Z H s)(mu:Mut (H a))(hs:Heap.SameBut a s.heap h')(he: ∃q,h'.get? a=some q)(new:qaE X.prog X.w (upd H a ob) h' a ob):
  Inv X O Z (upd H a ob) { s with heap:=h',toks:=t' }:=
 I.write mu (.inl rfl) (λb q hb z=>(hs.2 b hb).trans z) he new
theorem qfq(z:kvs.length<=sizeLine)(hd:(a==sysModules)=false)(rel:KV kvs vs)(dd:h'.DictOf (qar P w) a vs):
  qaE P w H' h' a (.dK kvs):=⟨z,hd,vs,rel,dd⟩
theorem qc7(hu:A.units+1<cLine)(I:Inv X O Z H s)(g:qye H a y v H')(ry:RelV y u)(rv:RelV v r)(h: ∀s',Inv X O Z H' s'->Q () s'):
  wpAny (model X.prog X.w) A (setItem (.ref a) u r) Q E s:=by
 rcases g with⟨kvs,k,e,ey,l,eH⟩|⟨kvs,k,b,e,ey,eb,l,eH⟩
 ·subst ey eH;obtain⟨z,hd,vs,rel,dd⟩:=qmo I.hok e;have hz:vs.length<=sizeLine:=by rw[<-rel.length];exact z
  have hl:(qgV kvs k v).length<=sizeLine:=by have:=qbS kvs k v;omega
  refine wpAny_setItem_pairs (hsz:=hz) (qfa ry) dd λh' bO hs=>h _ ?_;have he: ∃q,h'.get? a=some q:=let ⟨q,_,_,hq,_⟩:=bO;⟨q,hq⟩
  exact qei I (by rw[e];exact True.intro) hs he (qfq hl hd (rel.put k rv) bO)
 ·subst ey eH;cases(show u=Value.ref b from ry);obtain⟨z,hd,xs,rel,dd⟩:=qsW I.hok e;have hz:xs.length<=sizeLine:=by rw[<-Paired.length rel];exact z
  have hl:(qgV kvs k v).length<=sizeLine:=by have:=qbS kvs k v;omega
  refine wpAny_setItem_heap (hsz:=hz) (tupleKind_room_in1 hu) (qe8 I.hok eb) dd λh' bO hs=>h _ ?_;obtain⟨q,es,ep,hq,h2,h3,h4,_,h5⟩:=bO;refine qei I (by rw[e];exact True.intro) hs ⟨q,hq⟩ ⟨hl,hd,_,(rel.put k eb rv).keeps λc ys ec=> ?_,q,es,ep,hq,h2,h3,h4,h5⟩;rw[qab (qvi ec e (λz=>nomatch z))];exact ec
end
section
theorem qtm(I:Inv X O Z H s)(e:H a=some (.dK kvs))(ry:RelV (kV k) u)(l:(qfK kvs k).isSome=true)(h: ∀s',Inv X O Z (upd H a (.dK (qgd kvs k))) s'->Q () s'):
  wpAny (model X.prog X.w) A (delItem (.ref a) u) Q E s:=by
 obtain⟨z,hd,vs,rel,dd⟩:=qmo I.hok e
 refine wpAny_delItem_slot dd.typeIs (by decide) F.slot_dict_delitem
  (call_meetsIn F.slot_dict_delitem dd.typeIs F.entry_dict_delitem (F.args_dict_delitem_2 _ _) (meets_dict_delitem_pairs _ a (qfa ry)) ⟨vs,dd,by rw[<-rel.length];exact z,by rw[<-(rel.val k).isSome_eq];exact l,λh' bO hs=>h _ ?_⟩)
 have he: ∃q,h'.get? a=some q:=let ⟨q,_,_,hq,_⟩:=bO;⟨q,hq⟩
 exact qei I (by rw[e];exact True.intro) hs he (qfq (Vp (qhp kvs k) z) hd (rel.drop k) bO)
theorem qvZ(I:Inv X O Z H s)(e:H a=some (.dK kvs))(ry:RelV (kV k) u)(l:qfK kvs k=some v)(hm:more=[]\/∃x,more=[x])(h: ∀w' s',Inv X O Z (upd H a (.dK (qgd kvs k))) s'->RelV v w'->Q w' s'):wpAny (model X.prog X.w) A (call (.builtin "dict.pop") (.ref a::u::more)) Q E s:=by
 obtain⟨z,hd,vs,rel,dd⟩:=qmo I.hok e;obtain⟨w',hw,av⟩:=qev.some_of (v:=v) (o:=valueAt vs k) (by rw[<-l];exact rel.val k);have hp:(keyPart u).isSome=true:=by
  cases k with
  |inl i|inr x=>obtain⟨t,q⟩:=(ry);subst q;rfl
 have ha:argsOk "dict.pop" ⟨.ref a::u::more,[]⟩:=by
  rcases hm with q|⟨x,q⟩
  ·subst q;exact F.args_dict_pop_2 _ _
  ·subst q;exact F.args_dict_pop_3 _ _ _
 refine call_meetsIn F.slot_dict_pop dd.typeIs F.entry_dict_pop ha (meets_dict_pop_there (qar X.prog X.w) a (qfa ry) more hm hp)
  ⟨vs,w',dd,by rw[<-rel.length];exact z,hw,λh' bO hs=>h w' _ ?_ av⟩
 have he: ∃q,h'.get? a=some q:=let ⟨q,_,_,hq,_⟩:=bO;⟨q,hq⟩
 exact qei I (by rw[e];exact True.intro) hs he (qfq (Vp (qhp kvs k) z) hd (rel.drop k) bO)
theorem qv0(I:Inv X O Z H s)(e:Rd H a (.dK kvs))(h: ∀t s',Inv X O Z H s'->Q (.int kvs.length t) s'):wpAny (model X.prog X.w) A (call (.builtin "len") [.ref a]) Q E s:=by obtain⟨z,hd,vs,rel,dd⟩:=qcv I.hok e;refine call_len_dict hd dd (by rw[<-rel.length];rw[sizeLine_eq] at z;omega) ?_;rw[<-rel.length];exact h _ _ (I.tok _)
end
theorem qge(I:Inv X O Z H s)(g:qkR H a y o):s.TypeIs (.ref a) "dict" :=by
 rcases g with⟨kvs,k,e,_,_⟩|⟨kvs,k,b,e,_,_,_⟩
 ·obtain⟨_,_,vs,_,dd⟩:=qcv I.hok e;exact dd.typeIs
 ·obtain⟨_,_,xs,_,dd⟩:=qkc I.hok e;exact dd.typeIs
theorem qmp(h:Heap)(hb:sysModules<h.objs.size):qaE P w H (h.push { cls:=.type "dict",data:=.dict #[] }) h.objs.size (.dK []):=
 ⟨Nat.zero_le _,beq_eq_false_iff_ne.mpr (Ne.symm (Vn hb)),[],.nil,Heap.DictOf.new h⟩
noncomputable def qq0:TE:=λ_ H Q=> ∀p,H p=none->Q (.ref p) (upd H p (.dK []))
section
theorem qlx:PE X (.Dict [] [] pos) qq0:=λO s Z H Q I h=>
 wpAny_Dict_empty ⟨.ref _,_,I.laid (λ_ _ q=>Vg _ q) (Vl _) (qmp _ I.big),rfl,h _ (I.hok.fresh (Vl _))⟩
end
structure M1(X:Cx)(o:Expr)(m:Str)(apos:Pos)(e:Expr)(cpos:Pos):Prop where
 base:attributeBase o m X.env (eval o X.env)=eval o X.env
 few:((backTo cpos (starEach [e] X.env)).all (λx=> !x.1)&&(backToKw cpos (keywordEach [] X.env)).all (λx=>x.1.isSome)
  &&decide (([e]:List Expr).length+([]:List Keyword).length+(if([]:List Keyword).isEmpty then 0 else 1)<30))=true
 line:(apos.endLine==cpos.line)=true
 trees:backTo cpos (starEach [e] X.env)=[(false,eval e X.env)]
structure M2(X:Cx)(o:Expr)(m:Str)(apos:Pos)(e f:Expr)(cpos:Pos):Prop where
 base:attributeBase o m X.env (eval o X.env)=eval o X.env
 few:((backTo cpos (starEach [e,f] X.env)).all (λx=> !x.1)&&(backToKw cpos (keywordEach [] X.env)).all (λx=>x.1.isSome)
  &&decide (([e,f]:List Expr).length+([]:List Keyword).length+(if([]:List Keyword).isEmpty then 0 else 1)<30))=true
 line:(apos.endLine==cpos.line)=true
 trees:backTo cpos (starEach [e,f] X.env)=[(false,eval e X.env),(false,eval f X.env)]
noncomputable def IsD(H:Hp)(a:Addr):Prop:=(∃kvs,Rd H a (.dK kvs))\/∃kvs,Rd H a (.dT kvs)
section
theorem qmw(I:Inv X O Z H s)(e:Rd H a (.dK kvs))(h: ∀p s',H p=none->Inv X O Z (upd H p (.dK kvs)) s'->Q (.ref p) s'):wpAny (model X.prog X.w) A (call (.type "dict") [.ref a]) Q E s:=by obtain⟨z,hd,vs,rel,dd⟩:=qcv I.hok e;refine kt_call_dict hd dd (by rw[<-rel.length];exact z) λh' bO hs=> ?_;refine h _ _ (I.hok.fresh (Vl _)) (I.laid (λb q hq=> ?_) (Vl _) (qfq z (beq_eq_false_iff_ne.mpr (Ne.symm (Vn I.big))) rel bO));exact(hs.2 b (Vn (Vi hq))).trans (Vg _ hq)
end
end L2
namespace RH
open PySem L2
abbrev Rw:=Int×Str×Int
noncomputable def qx7(rs:List Rw)(k:Str):List Int:=(rs.filter λr=>decide (r.2.1=k)).map (·.2.2)
noncomputable def outT(g:List Int->Rw->Option Rw)(rs:List Rw)(i:Nat):List Rw:=(List.range i).filterMap λj=>(rs[j]?).bind λr=>g (qx7 (rs.take j) r.2.1) r
open PySem.Spec PyProof.Rows
noncomputable def pickL{α:Type}(xs:List α)(lo hi st:Option Int):List α:=(sliceRange (sliceBounds lo hi st xs.length).1 (sliceBounds lo hi st xs.length).2.1 (sliceBounds lo hi st xs.length).2.2).filterMap (xs[·]?)
end RH
namespace L2
open PySem PySem.Spec PyProof.Rows
end L2
namespace RH
open PySem L2
open PySem.Spec PyProof.Rows
end RH
namespace St
open PySem PySem.W PySem.Calls PyProof.Rows
section
theorem qfO(h:n<2):qdf kz n (List.toArray (List.range n)):=by
 refine⟨⟨by simp,λi hi=> ?_,λi q1 q2=>by lia⟩,λi j aS hj=>by lia⟩;unfold g
 simp_all
theorem qo6{s:Shared}{vs:List Value}{kz:List Int}{h0:Heap}{n:Nat}(ho:s.heap.get? D=some (seqObj "list" vs.toArray n))(hlen:kz.length=vs.length)(eQ:vs.length<64)(kp:Kp h0 s.heap)(gJ:h0.get? D=none)(kind: ∀s':Shared,Kp h0 s'.heap->2<=vs.length->∀Q:SortKind->Shared->Prop,Q κ s'->wpAny (model prog w) A (keyKind' vs.toArray) Q E s')(cmp: ∀s':Shared,Kp h0 s'.heap->∀i j,i<vs.length->j<vs.length->∀C:Bool->Shared->Prop,C (decide (kz.getD i 0<kz.getD j 0)) s'->wpAny (model prog w) A (keyLt' κ (vs.getD i Value.none) (vs.getD j Value.none)) C (λ_ _=>False) s')(h: ∀h' tk c (p:Array Nat),Kp h0 h'->qdf kz vs.length p->h'.get? D=some (seqObj "list" (List.toArray (p.toList.map λi=>vs.getD i Value.none)) c)->P (.done (.ret .none)) { s with heap:=h',toks:=tk }):
  wpAny (model prog w) A (Builtin.«list.sort» ⟨[.ref D],[]⟩) P E s:=by
 rw[list_sort_plain];have s1:=Heap.SameBut.update s.heap D (Obj.mapSeq λ_=>(#[]:Array Value));obtain⟨e1,fL⟩: ∃e1,(s.heap.update D (Obj.mapSeq λ_=>(#[]:Array Value))).get? D=some (seqObj "list" #[] e1):=⟨_,get?_update_seq ho λ_=> #[]⟩
 refine Va (listItems_at ho rfl ?_);refine Va (listUpdate_at ho rfl ?_ (by rw[List.size_toArray,sizeLine_eq];lia) (Nat.zero_le _));refine Va (seqEpoch_at fL rfl ?_);generalize jA:s.heap.update D (Obj.mapSeq λ_=>(#[]:Array Value))=H2 at fL s1⊢;have kp3:Kp h0 H2:=λb o z=>(s1.2 b (λq=>by rw[q,gJ] at z;cases z)).trans (kp b o z);refine Va (wpAny_newTuple ?_ (by show vs.length<=_;rw[sizeLine_eq];lia));refine Va (wpAny_newList ?_ (Nat.zero_le _));refine wpAny_holding ?_;generalize fW:(H2.push (seqObj "tuple" vs.toArray 0)).push (seqObj "list" #[] 0)=H3;have iM:H3.get? D=some (seqObj "list" #[] e1):=by rw[<-fW];exact Vg _ (Vg _ fL)
 have hV:Kp h0 H3:=λb o z=>by rw[<-fW];exact Vg _ (Vg _ (kp3 b o z))
 have fin: ∀(st:SortSt)(p:Array Nat),qdf kz vs.length p->(arrOf st).map (·.2)=List.toArray (p.toList.map λi=>vs.getD i Value.none)->failedOf st=none->
   wpAny (model prog w) A (do
    let touched:=(<-seqEpoch D) != e1
    Builtin.List.listUpdate (.ref D) λ_=>(arrOf st).map (·.2)
    if let some e:=failedOf st then rule "list.sort.comparison-raised";throw e
    if touched then rule "list.sort.modified";raiseError "ValueError" "list modified during sort"
    ret .none) P E { s with heap:=H3 }:=λst p bq iH hfl=>by
  have hsz:(p.toList.map λi=>vs.getD i Value.none).length=vs.length:=by rw[List.length_map,Array.length_toList,bq.1.sz]
  refine Va (seqEpoch_at iM rfl ?_);rw[iH];refine Va (listUpdate_at iM rfl ?_ (Nat.zero_le _) (by show(List.toArray _).size<=_;rw[List.size_toArray,hsz,sizeLine_eq];lia));rw[hfl];simp only[bne_self_eq_false,Bool.false_eq_true,if_false];have iA: ∃c,(H3.update D (Obj.mapSeq λ_=>List.toArray (p.toList.map λi=>vs.getD i Value.none))).get? D=some (seqObj "list" (List.toArray (p.toList.map λi=>vs.getD i Value.none)) c):=⟨_,get?_update_seq iM λ_=>List.toArray (p.toList.map λi=>vs.getD i Value.none)⟩
  obtain⟨c,hc⟩:=iA;refine Vb (h _ _ c p (λb o q=> ?_) bq hc);have nD:b≠D:=λz=>by rw[z,gJ] at q;cases q
  exact((Heap.SameBut.update H3 D _).2 b nD).trans (hV b o q)
 by_cases h2:vs.toArray.size<2
 ·rw[if_pos h2,if_pos h2];refine Va (Vb ?_);dsimp only;rw[StateT.run_pure];refine Va (Vb ?_);rw[List.size_toArray] at h2;refine fin _ _ (qfO h2) ?_ rfl;show(vs.toArray.zip vs.toArray).map (·.2)=_;apply Array.toList_inj.mp;rw[Array.toList_map,ksk_zip,List.toList_toArray,List.toList_toArray];rw[show(vs.zip vs).map (λx:Value×Value=>x.2)=vs from List.map_snd_zip (by lia)];apply List.ext_getElem
  ·simp
  ·intro i h3 h4;simp[List.getElem?_eq_getElem h3]
 ·rw[if_neg h2,if_neg h2];rw[List.size_toArray] at h2;refine Va (kind { s with heap:=H3 } hV (by lia) _ ?_)
  have run:=kat_run (prog:=prog) (w:=w) (A:=A) (E:=E) (s:={ s with heap:=H3 }) (κ:=κ) (ks:=vs) (vs:=vs) (Q:=λst s'=>s'={ s with heap:=H3 }/\∃p,qdf kz vs.length p/\(arrOf st).map (·.2)=List.toArray (p.toList.map λi=>vs.getD i Value.none)/\failedOf st=none)
   (G:=λp s'=>s'={ s with heap:=H3 }/\qdf kz vs.length p) rfl (by lia) eQ (λp aN s' a1 a2 a3 a4=>⟨a4.1,p,a4.2,kat_snds rfl a2,a3⟩)
   (qjM (ask:=asks λi=>kz.getD i 0) (N:=vs.length) (λi j C hi hj hc=>cmp { s with heap:=H3 } hV i j hi hj C hc) (λp hp=>⟨rfl,hp⟩) (qoc (by lia)))
  refine Va (Vc run (λr s' hr=> ?_) λ_ _ x=>x);obtain⟨rfl,p,bq,iH,hf⟩:=hr;exact fin _ p bq iH hf
end
end St
namespace SR
section
noncomputable def ins{α:Type}(k:α->Int)(r:α):List α->List α
 |[]=>[r]
 |x::l=>if k x<=k r then x::ins k r l else r::x::l
noncomputable def srt{α:Type}(k:α->Int)(l:List α):List α:=l.foldl (λa r=>ins k r a) []
theorem qdT:srt k (l++[r])=ins k r (srt k l):=by unfold srt;simp
theorem qjG{α:Type}{β:Type}{k:α->Int}{k':β->Int}{f:β->α}(h: ∀b,k' b=k (f b))(r:β): ∀l:List β,(ins k' r l).map f=ins k (f r) (l.map f)
 |[]=>rfl
 |x::l=>by
  show List.map f (if k' x<=k' r then x::ins k' r l else r::x::l)=(if k _<=k _ then f x::ins k _ _ else f r::f x::l.map f)
  rw[h x,h r];by_cases c:k (f x)<=k (f r)
  ·rw[if_pos c,if_pos c,List.map_cons,qjG h r l]
  ·rw[if_neg c,if_neg c,List.map_cons,List.map_cons]
theorem qoa{α:Type}{β:Type}{k:α->Int}{k':β->Int}{f:β->α}(h: ∀b,k' b=k (f b))(l:List β):(srt k' l).map f=srt k (l.map f):=by
 have go: ∀(l a:List β),(l.foldl (λa r=>ins k' r a) a).map f=(l.map f).foldl (λa r=>ins k r a) (a.map f):=by
  intro l
  induction l with
  |nil=>intro a;rfl
  |cons x l ih=>intro a;rw[List.foldl_cons,ih,List.map_cons,List.foldl_cons,qjG h]
 exact go l []
theorem qf0: ∀{l:List α},x∈ins k r l↔x=r\/x∈l
 |[]=>by simp[ins]
 |y::l=>by
  unfold ins;by_cases c:k y<=k r
  ·rw[if_pos c,List.mem_cons,qf0];constructor
   ·grind
   grind
  ·rw[if_neg c,List.mem_cons]
theorem qdx: ∀{l:List α},(ins k r l).length=l.length+1
 |[]=>rfl
 |y::l=>by
  unfold ins;by_cases c:k y<=k r
  ·rw[if_pos c,List.length_cons,qdx,List.length_cons]
  ·rw[if_neg c];rfl
theorem qd8(l:List α):x∈srt k l↔x∈l:=by
 have go: ∀(l a:List α),x∈l.foldl (λa r=>ins k r a) a↔x∈a\/x∈l:=by
  intro l
  induction l with
  |nil=>simp
  |cons y l ih=>
   intro a;rw[List.foldl_cons,ih,qf0,List.mem_cons];constructor
   ·rintro((h|h)|h)
    ·exact .inr (.inl h)
    ·exact .inl h
    ·exact .inr (.inr h)
   ·rintro(h|h|h)
    ·exact .inl (.inr h)
    ·exact .inl (.inl h)
    ·exact .inr h
 rw[show srt k l=l.foldl _ [] from rfl,go];simp
theorem qh9(l:List α):(srt k l).length=l.length:=by
 have go: ∀(l a:List α),(l.foldl (λa r=>ins k r a) a).length=a.length+l.length:=by
  intro l
  induction l with
  |nil=>simp
  |cons y l ih=>intro a;rw[List.foldl_cons,ih,qdx,List.length_cons];lia
 have:=go l [];simpa [srt] using this
noncomputable def Ris{α:Type}(k:α->Int)(l:List α):Prop:=l.Pairwise λa b=>k a<=k b
end
section
structure Ord(lt:α->α->Bool):Prop where
 irr: ∀a,lt a a=false
 tr: ∀a b c,lt a b=true->lt b c=true->lt a c=true
 tot: ∀a b,lt a b=false->lt b a=false->a=b
noncomputable def qhS{α:Type}(lt:α->α->Bool)(as:List α)(a:α):Int:=(as.countP λx=>lt x a:Nat)
theorem qft{α:Type}{p q:α->Bool}(h: ∀x,p x=true->q x=true): ∀l:List α,l.countP p<=l.countP q
 |[]=>Vl _
 |x::l=>by
  have ih:=qft h l;rw[List.countP_cons,List.countP_cons];cases e:p x with
  |true=>simp_all
  |false=>lia
theorem qfs{α:Type}{p q:α->Bool}(h: ∀x,p x=true->q x=true){a:α}(ha:p a=false)(hb:q a=true): ∀{l:List α},a∈l->l.countP p<l.countP q
 |x::l,hm=>by
  rw[List.countP_cons,List.countP_cons];have le:=qft h l
  rcases List.mem_cons.mp hm with rfl|hm
  ·lia
  ·have ih:=qfs h ha hb hm;cases e:p x with
   |true=>simp_all
   |false=>lia
theorem qoj{α:Type}{lt:α->α->Bool}(o:Ord lt){as:List α}{a b:α}(ha:a∈as)(hb:b∈as):decide (qhS lt as a<qhS lt as b)=lt a b:=by
 have up: ∀{a b },a∈as->lt a b=true->qhS lt as a<qhS lt as b:=λ{a b} ha h=>by unfold qhS;have:=qfs (λx hx=>o.tr x a b hx h) (o.irr a) h ha;lia
 cases h:lt a b with
 |true=>simp_all
 |false=>
  cases h2:lt b a with
  |true=>have:=up hb h2;lia
  |false=>have:=o.tot a b h h2;lia
noncomputable def qq5{α:Type}(lt:α->α->Bool)(as:List α):List α:=srt (qhS lt as) as
theorem qgZ: ∀l:List α,List.Perm (ins k r l) (r::l)
 |[]=>List.Perm.refl _
 |x::l=>by
  show List.Perm (if k x<=k r then x::ins k r l else r::x::l) _;by_cases c:k x<=k r
  ·rw[if_pos c];exact((qgZ l).cons x).trans (List.Perm.swap r x l)
  ·rw[if_neg c]
theorem perm_srt(l:List α):List.Perm (srt k l) l:=by
 have go: ∀(l a:List α),List.Perm (l.foldl (λa r=>ins k r a) a) (a++l):=by
  intro l
  induction l with
  |nil=>simp
  |cons x l ih=>intro a;refine(ih _).trans ?_;refine((qgZ a).append_right l).trans ?_;exact List.perm_middle.symm
 exact go l []
end
end SR
namespace L2
open PySem PySem.Spec PySem.Calls PyProof.Rows PySem.W
noncomputable def qdY(K:Frag)(N:Addr):Bool:=nsOkIn K N&&qhU.all λn=>nsIn K N n==some none
theorem qbd{K:Frag}{h:Heap}(X:K.In h)(e:qdY K N=true):h.Ns N (h.nsMap N)/\∀n∈qhU,h.nsMap N n=none:=by unfold qdY at e;rw[Bool.and_eq_true] at e;exact⟨.of_isNs (isNs_of_in X e.1),λn hn=>nsMap_none_of_in X e.1 (beq_iff_eq.mp (List.all_eq_true.mp e.2 n hn))⟩
noncomputable def qfM(K:Frag)(bmB:List Value):List Value->Bool
 |[]=>bmB==[]
 |v::r=>(v::r)==bmB||match v with
  |.ref A=>(match K.lookup A with
   |some ⟨_,_,.cls cd,_⟩=>qdY K cd.ns&&qfM K bmB r
   |_=>false)
  |_=>false
theorem qcI{K:Frag}(X:K.In h): ∀{l:List Value},qfM K bmB l=true->qbx h bmB l
 |[],e=>by rw[<-beq_iff_eq.mp e];exact .base
 |v::r,e=>by
  rcases Bool.or_eq_true_iff.mp e with q|q
  ·rw[beq_iff_eq.mp q];exact .base
  ·split at q
   ·split at q
    ·rename_i ho;rw[Bool.and_eq_true] at q;exact .own (X _ _ ho) (qbd X q.1).1 (qbd X q.1).2 (qcI X q.2)
    ·cases q
   ·cases q
noncomputable def qc4(K:Frag)(C:Addr)(bm:List Value):Bool:=match K.lookup C with
 |some ⟨.type "type",_,.cls cd,sl⟩=>(match cd.mro,sl.toList with
  |.ref C'::jN,[_,_,_,_,some (.builtin n),_]=>C'==C&&jN==bm&&n== "ValueError.__new__" && !cd.hasDel&&qfM K bmV bm&&qdY K cd.ns
  |_,_=>false)
 |_=>false
theorem qcb{K:Frag}(X:K.In h)(q:qc4 K C bm=true):qdi h C bm:=by
 unfold qc4 at q;split at q
 ·rename_i dd cd sl ho;split at q
  ·rename_i C' jN k0 k1 k2 k3 n k5 hm hs;simp only[Bool.and_eq_true,beq_iff_eq,Bool.not_eq_true'] at q;obtain⟨⟨⟨⟨⟨rfl,rfl⟩,rfl⟩,iB⟩,ht⟩,hok⟩:=q;obtain⟨nm,bs,mro,ns,qn,hd,sn,sub,ab,col,del⟩:=cd;subst hm iB;have hsl:sl= #[k0,k1,k2,k3,some (.builtin "ValueError.__new__"),k5]:=by
    obtain⟨l⟩:=sl
    grind
   subst hsl;exact⟨ns,nm,qn,bs,hd,sn,sub,ab,col,dd,k0,k1,k2,k3,k5,_,X _ _ ho,(qbd X hok).1,(qbd X hok).2,qcI X ht⟩
  ·cases q
 ·cases q
end L2
namespace NV
open PySem L2
inductive T where
 |non|bl (b:Bool)|int (i:Int)|str (s:Str)|tup (ts:List T)|lst (ts:List T)|dct (kvs:List (Key×T))|fn (x:Str)|scr (ns:List Int)|obj (k:Nat)|exc (c:Str)
inductive Ct where
 |ls (ts:List T)|dk (kvs:List (Key×T))|du (kvs:List (List Key×T))|ins (c:Str) (fs:List (Str×T))|gone
structure Mu where
 l:List Ct
 k:List (Nat×Nat)
mutual
noncomputable def ub:T->Nat
 |.obj k=>k+1
 |.tup ts=>ubs ts
 |.lst ts=>ubs ts
 |.dct kvs=>ubd kvs
 |_=>0
noncomputable def ubs:List T->Nat
 |[]=>0
 |t::ts=>max (ub t) (ubs ts)
noncomputable def ubd:List (Key×T)->Nat
 |[]=>0
 |(_,t)::ts=>max (ub t) (ubd ts)
end
noncomputable def ubf{κ:Type}:List (κ×T)->Nat
 |[]=>0
 |(_,t)::ts=>max (ub t) (ubf ts)
noncomputable def ubC:Ct->Nat
 |.ls ts=>ubs ts
 |.dk kvs=>ubf kvs
 |.du kvs=>ubf kvs
 |.ins _ fs=>ubf fs
 |.gone=>0
noncomputable def Mu.put(m:Mu)(k:Nat)(c:Ct):Mu:=⟨m.l.set k c,if ubC c<=k then m.k else(k,ubC c)::m.k⟩
noncomputable def Mu.add(m:Mu)(c:Ct):Mu:=⟨m.l++[c],if ubC c<=m.l.length then m.k else(m.l.length,ubC c)::m.k⟩
inductive R(α:Type) where
 |no|ok (a:α) (m:Mu)|ex (c:Str) (m:Mu)
noncomputable def R.bind{α β:Type}:R α->(α->Mu->R β)->R β
 |.no,_=>.no
 |.ok a m,f=>f a m
 |.ex c m,_=>.ex c m
@[simp] theorem qaa{α β:Type}(a:α)(m:Mu)(f:α->Mu->R β):(R.ok a m).bind f=f a m:=rfl
@[simp] theorem qvg{α β:Type}(f:α->Mu->R β):(R.no:R α).bind f= .no:=rfl
@[simp] theorem qvQ{α β:Type}(c:Str)(m:Mu)(f:α->Mu->R β):(R.ex c m:R α).bind f= .ex c m:=rfl
structure qaD where
 hp:Hp
 ad:Nat->Option Addr
instance:CoeFun qaD λ_=>Addr->Option HO:=⟨qaD.hp⟩
noncomputable def clA(K:PySem.W.Frag)(x:Str):Addr:=match PySem.W.nsIn K mainGlobals x with
 |some (some (.ref C))=>C
 |_=>0
mutual
noncomputable def Rep(K:PySem.W.Frag)(B:qaD):T->V->Prop
 |.non,v=>v= .non
 |.bl b,v=>v= .bl b
 |.int i,v=>v= .int i
 |.str s,v=>v= .str s
 |.tup ts,v=> ∃p vs,v= .ref p/\B p=some (.tup vs)/\Reps K B ts vs
 |.lst ts,v=> ∃p vs,v= .ref p/\B p=some (.lst vs)/\Reps K B ts vs
 |.dct kvs,v=> ∃p o us,v= .ref p/\B p=some (.frz o (.dK us))/\RepD K B kvs us
 |.fn x,v=> ∃f,v= .ref f/\PySem.W.nsIn K mainGlobals x=some (some (.ref f))
 |.scr ns,v=> ∃p,v= .ref p/\SqL K B.hp p (ns.map V.int)
 |.obj k,v=> ∃a,v= .ref a/\B.ad k=some a
 |.exc c,v=> ∃a,v= .ref a/\B a=some (ExO a (clA K c))
noncomputable def Reps(K:PySem.W.Frag)(B:qaD):List T->List V->Prop
 |[],vs=>vs=[]
 |t::ts,vs=> ∃v r,vs=v::r/\Rep K B t v/\Reps K B ts r
noncomputable def RepD(K:PySem.W.Frag)(B:qaD):List (Key×T)->List (Key×V)->Prop
 |[],vs=>vs=[]
 |(k,t)::ts,vs=> ∃v r,vs=(k,v)::r/\Rep K B t v/\RepD K B ts r
end
noncomputable def qaV(K:PySem.W.Frag)(B:qaD){κ:Type}:List (κ×T)->List (κ×V)->Prop
 |[],vs=>vs=[]
 |(k,t)::ts,vs=> ∃v r,vs=(k,v)::r/\Rep K B t v/\qaV K B ts r
structure Le(B B':qaD):Prop where
 h: ∀a o,B a=some o->B' a=some o
 d: ∀k a,B.ad k=some a->B'.ad k=some a
theorem Le.refl(B:qaD):Le B B:=⟨λ_ _ h=>h,λ_ _ h=>h⟩
theorem Le.trans(h:Le A B)(h':Le B C):Le A C:=⟨λa o e=>h'.h a o (h.h a o e),λa o e=>h'.d a o (h.d a o e)⟩
theorem qiM(h: ∀a o,B a=some o->B' a=some o)(q:SqL K B p vs):SqL K B' p vs:=by
 rcases q with(q|⟨o,q⟩)|q
 ·exact .inl (.inl (h _ _ q))
 ·exact .inl (.inr ⟨o,h _ _ q⟩)
 ·exact .inr q
mutual
theorem Rep.mono(h:Le B B'): ∀{t:T}{v:V},Rep K B t v->Rep K B' t v
 |.non,_,r=>r
 |.bl _,_,r=>r
 |.int _,_,r=>r
 |.str _,_,r=>r
 |.fn _,_,r=>by unfold Rep at r⊢;exact r
 |.tup _,_,r=>by unfold Rep at r⊢;obtain⟨p,vs,e,q,rs⟩:=r;exact⟨p,vs,e,h.h _ _ q,Reps.mono h rs⟩
 |.lst _,_,r=>by unfold Rep at r⊢;obtain⟨p,vs,e,q,rs⟩:=r;exact⟨p,vs,e,h.h _ _ q,Reps.mono h rs⟩
 |.dct _,_,r=>by unfold Rep at r⊢;obtain⟨p,o,vs,e,q,rs⟩:=r;exact⟨p,o,vs,e,h.h _ _ q,RepD.mono h rs⟩
 |.obj _,_,r=>by unfold Rep at r⊢;obtain⟨a,e,q⟩:=r;exact⟨a,e,h.d _ _ q⟩
 |.exc _,_,r=>by unfold Rep at r⊢;obtain⟨a,e,q⟩:=r;exact⟨a,e,h.h _ _ q⟩
 |.scr _,_,r=>by unfold Rep at r⊢;obtain⟨p,e,q⟩:=r;exact⟨p,e,qiM h.h q⟩
theorem Reps.mono(h:Le B B'): ∀{ts:List T}{vs:List V},Reps K B ts vs->Reps K B' ts vs
 |[],_,r=>r
 |_::_,_,r=>by unfold Reps at r⊢;obtain⟨v,r',e,a,b⟩:=r;exact⟨v,r',e,Rep.mono h a,Reps.mono h b⟩
theorem RepD.mono(h:Le B B'): ∀{ts:List (Key×T)}{vs:List (Key×V)},RepD K B ts vs->RepD K B' ts vs
 |[],_,r=>r
 |(_,_)::_,_,r=>by unfold RepD at r⊢;obtain⟨v,r',e,a,b⟩:=r;exact⟨v,r',e,Rep.mono h a,RepD.mono h b⟩
end
section
theorem qaV.mono{κ:Type}(h:Le B B'): ∀{ts:List (κ×T)}{vs:List (κ×V)},qaV K B ts vs->qaV K B' ts vs
 |[],_,r=>r
 |(_,_)::_,_,⟨v,r',e,a,b⟩=>⟨v,r',e,a.mono h,b.mono h⟩
theorem qgS: ∀{ts:List (Key×T)}{vs:List (Key×V)},qaV K B ts vs↔RepD K B ts vs
 |[],_=>by exact Iff.rfl
 |(_,_)::_,_=>by exact⟨λ⟨v,r,e,a,b⟩=>⟨v,r,e,a,qgS.mp b⟩,λ⟨v,r,e,a,b⟩=>⟨v,r,e,a,qgS.mpr b⟩⟩
theorem Reps.nil:Reps K B [] []:=by unfold Reps;rfl
theorem Reps.cons{K:PySem.W.Frag}{B:qaD}{t:T}{v:V}{ts:List T}{vs:List V}(h:Rep K B t v)(r:Reps K B ts vs):Reps K B (t::ts) (v::vs):=by exact⟨v,vs,rfl,h,r⟩
theorem Reps.inv(h:Reps K B (t::ts) vs): ∃v r,vs=v::r/\Rep K B t v/\Reps K B ts r:=by exact h
theorem Reps.inv0(h:Reps K B [] vs):vs=[]:=by exact h
theorem Reps.length: ∀{ts:List T}{vs:List V},Reps K B ts vs->vs.length=ts.length
 |[],_,h=>by rw[h.inv0];rfl
 |_::_,_,h=>by obtain⟨v,r,rfl,_,h'⟩:=h.inv;simp[Reps.length h']
theorem Reps.get: ∀{ts:List T}{vs:List V}{i:Nat}{t:T},Reps K B ts vs->ts[i]? =some t->∃v,vs[i]? =some v/\Rep K B t v
 |[],_,_,_,_,e=>by simp at e
 |_::_,_,0,_,h,e=>by obtain⟨v,r,rfl,a,_⟩:=h.inv;simp_all
 |_::_,_,i+1,t,h,e=>by
  obtain⟨v,r,rfl,_,h'⟩:=h.inv;obtain⟨u,e1,e2⟩:=Reps.get h' (by simpa using e)
  simp_all
theorem Reps.of_get(hl:vs.length=ts.length)(h: ∀(i:Nat)(t:T)(v:V),ts[i]? =some t->vs[i]? =some v->Rep K B t v):Reps K B ts vs:=by
 induction ts generalizing vs with
 |nil=>cases vs with
  |nil=>exact .nil
  |cons _ _=>cases hl
 |cons t ts ih=>cases vs with
  |nil=>cases hl
  |cons v vs=>exact .cons (h 0 t v rfl rfl) (ih (by simpa using hl) λi t' v' a b=>h (i+1) t' v' (by simpa using a) (by simpa using b))
theorem Reps.append: ∀{ts us:List T}{vs ws:List V},Reps K B ts vs->Reps K B us ws->Reps K B (ts++us) (vs++ws)
 |[],_,_,_,h,h'=>by rw[h.inv0];exact h'
 |_::_,_,_,_,h,h'=>by obtain⟨v,r,rfl,a,b⟩:=h.inv;exact .cons a (Reps.append b h')
theorem Reps.one(r:Rep K B t v):Reps K B [t] [v]:=.cons r .nil
theorem Reps.take(n:Nat)(h:Reps K B ts vs):Reps K B (ts.take n) (vs.take n):=by
 refine .of_get (by simp[h.length]) λi t v a b=> ?_;rw[List.getElem?_take] at a b;split at a
 ·obtain⟨u,e1,e2⟩:=h.get a
  grind
 ·cases a
theorem Reps.drop(n:Nat)(h:Reps K B ts vs):Reps K B (ts.drop n) (vs.drop n):=by
 refine .of_get (by simp[h.length]) λi t v a b=> ?_;rw[List.getElem?_drop] at a b;obtain⟨u,e1,e2⟩:=h.get a
 grind
theorem Reps.set(n:Nat)(h:Reps K B ts vs)(r:Rep K B t v):Reps K B (ts.set n t) (vs.set n v):=by
 refine .of_get (by simp[h.length]) λi t' v' a b=> ?_;rw[List.getElem?_set] at a b;by_cases hi:n=i
 ·grind
 ·rw[if_neg hi] at a b;obtain⟨u,e1,e2⟩:=h.get a
  grind
theorem Reps.getD(h:Reps K B ts vs)(j:Nat)(hj:j<ts.length):Rep K B (ts.getD j .non) (vs.getD j .non):=by
 obtain⟨u,e1,e2⟩:=h.get (Vw hj)
 simp_all
theorem qaV.length{κ:Type}: ∀{ts:List (κ×T)}{vs:List (κ×V)},qaV K B ts vs->vs.length=ts.length
 |[],_,h=>by rw[h];rfl
 |(_,_)::_,_,⟨v,r,e,_,h⟩=>by rw[e];simp[qaV.length h]
theorem qbJ(r:Rep K B (.bl b) v):v= .bl b:=by exact r
theorem qah(r:Rep K B (.int b) v):v= .int b:=by exact r
theorem qaF{b:Str}(r:Rep K B (.str b) v):v= .str b:=by exact r
theorem qcN(r:Rep K B .non v):v= .non:=by exact r
theorem qax(r:Rep K B (.tup ts) v): ∃p vs,v= .ref p/\B p=some (.tup vs)/\Reps K B ts vs:=by exact r
theorem qaz(r:Rep K B (.lst ts) v): ∃p vs,v= .ref p/\B p=some (.lst vs)/\Reps K B ts vs:=by exact r
theorem qcO(r:Rep K B (.dct ts) v): ∃p o vs,v= .ref p/\B p=some (.frz o (.dK vs))/\qaV K B ts vs:=by obtain⟨p,o,vs,a,b,c⟩:=r;exact⟨p,o,vs,a,b,qgS.mpr c⟩
theorem qaB(r:Rep K B (.obj k) v): ∃a,v= .ref a/\B.ad k=some a:=by exact r
theorem qog{c:Str}(r:Rep K B (.exc c) v): ∃a,v= .ref a/\B a=some (ExO a (clA K c)):=by exact r
theorem qa6:Rep K B (.bl b) (.bl b):=rfl
theorem qaR:Rep K B (.int b) (.int b):=rfl
theorem qcm{b:Str}:Rep K B (.str b) (.str b):=rfl
theorem qeV:Rep K B .non .non:=by unfold Rep;rfl
theorem qcl(h:B p=some (.tup vs))(r:Reps K B ts vs):Rep K B (.tup ts) (.ref p):=by unfold Rep;simp_all
theorem qbL(h:B p=some (.lst vs))(r:Reps K B ts vs):Rep K B (.lst ts) (.ref p):=by unfold Rep;simp_all
theorem qjh(h:B p=some (.frz o (.dK vs)))(r:qaV K B ts vs):Rep K B (.dct ts) (.ref p):=by exact⟨p,o,vs,rfl,h,qgS.mp r⟩
theorem qdu(h:B.ad k=some a):Rep K B (.obj k) (.ref a):=by exact⟨a,rfl,h⟩
end
noncomputable def qeb:Key->T
 |.inl i=>.int i
 |.inr s=>.str s
theorem qcY(k:Key):Rep K B (qeb k) (kV k):=by cases k<;>first|exact qaR|exact qcm
section
noncomputable def qaD.cut(B:qaD)(n:Nat):qaD:=⟨B.hp,λj=>if j<n then B.ad j else none⟩
mutual
theorem Rep.cut: ∀{t:T}{v:V},Rep K B t v->ub t<=n->Rep K (B.cut n) t v
 |.non,_,r,_=>r
 |.bl _,_,r,_=>r
 |.int _,_,r,_=>r
 |.str _,_,r,_=>r
 |.fn _,_,r,_=>by unfold Rep at r⊢;exact r
 |.tup _,_,r,h=>by unfold Rep at r⊢;unfold ub at h;obtain⟨p,vs,e,q,rs⟩:=r;exact⟨p,vs,e,q,Reps.cut rs h⟩
 |.lst _,_,r,h=>by unfold Rep at r⊢;unfold ub at h;obtain⟨p,vs,e,q,rs⟩:=r;exact⟨p,vs,e,q,Reps.cut rs h⟩
 |.dct _,_,r,h=>by unfold Rep at r⊢;unfold ub at h;obtain⟨p,o,vs,e,q,rs⟩:=r;exact⟨p,o,vs,e,q,RepD.cut rs h⟩
 |.obj _,_,r,h=>by unfold Rep at r⊢;unfold ub at h;obtain⟨a,e,q⟩:=r;exact⟨a,e,by show(if _ then _ else _)=_;rw[if_pos (show _<n from h)];exact q⟩
 |.exc _,_,r,_=>by unfold Rep at r⊢;exact r
 |.scr _,_,r,_=>by unfold Rep at r⊢;exact r
theorem Reps.cut: ∀{ts:List T}{vs:List V},Reps K B ts vs->ubs ts<=n->Reps K (B.cut n) ts vs
 |[],_,r,_=>r
 |_::_,_,r,h=>by unfold Reps at r⊢;unfold ubs at h;obtain⟨v,r',e,a,b⟩:=r;exact⟨v,r',e,Rep.cut a (Vp (Nat.le_max_left _ _) h),Reps.cut b (Vp (Nat.le_max_right _ _) h)⟩
theorem RepD.cut: ∀{ts:List (Key×T)}{vs:List (Key×V)},RepD K B ts vs->ubd ts<=n->RepD K (B.cut n) ts vs
 |[],_,r,_=>r
 |(_,_)::_,_,r,h=>by unfold RepD at r⊢;unfold ubd at h;obtain⟨v,r',e,a,b⟩:=r;exact⟨v,r',e,Rep.cut a (Vp (Nat.le_max_left _ _) h),RepD.cut b (Vp (Nat.le_max_right _ _) h)⟩
end
theorem qaV.cut{κ:Type}: ∀{ts:List (κ×T)}{vs:List (κ×V)},qaV K B ts vs->ubf ts<=n->qaV K (B.cut n) ts vs
 |[],_,r,_=>r
 |(_,_)::_,_,⟨v,r',e,a,b⟩,h=>by exact⟨v,r',e,Rep.cut a (Vp (Nat.le_max_left _ _) h),qaV.cut b (Vp (Nat.le_max_right _ _) h)⟩
mutual
theorem Rep.ub(hd: ∀k a,B.ad k=some a->k<n): ∀{t:T}{v:V},Rep K B t v->ub t<=n
 |.non,_,_=>Nat.zero_le _
 |.bl _,_,_=>Nat.zero_le _
 |.int _,_,_=>Nat.zero_le _
 |.str _,_,_=>Nat.zero_le _
 |.fn _,_,_=>Nat.zero_le _
 |.tup _,_,r=>by unfold Rep at r;unfold NV.ub;obtain⟨p,vs,e,q,rs⟩:=r;exact Reps.ub hd rs
 |.lst _,_,r=>by unfold NV.ub;obtain⟨p,vs,e,q,rs⟩:=r;exact Reps.ub hd rs
 |.dct _,_,r=>by unfold NV.ub;obtain⟨p,o,vs,e,q,rs⟩:=r;exact RepD.ub hd rs
 |.obj _,_,r=>by unfold Rep at r;unfold NV.ub;obtain⟨a,e,q⟩:=r;exact hd _ _ q
 |.exc _,_,_=>Nat.zero_le _
 |.scr _,_,_=>Nat.zero_le _
theorem Reps.ub(hd: ∀k a,B.ad k=some a->k<n): ∀{ts:List T}{vs:List V},Reps K B ts vs->ubs ts<=n
 |[],_,_=>Nat.zero_le _
 |_::_,_,r=>by unfold ubs;obtain⟨v,r',e,a,b⟩:=r;exact Nat.max_le.mpr ⟨Rep.ub hd a,Reps.ub hd b⟩
theorem RepD.ub(hd: ∀k a,B.ad k=some a->k<n): ∀{ts:List (Key×T)}{vs:List (Key×V)},RepD K B ts vs->ubd ts<=n
 |[],_,_=>Nat.zero_le _
 |(_,_)::_,_,r=>by unfold ubd;obtain⟨v,r',e,a,b⟩:=r;exact Nat.max_le.mpr ⟨Rep.ub hd a,RepD.ub hd b⟩
end
theorem qaV.ub{κ:Type}(hd: ∀k a,B.ad k=some a->k<n): ∀{ts:List (κ×T)}{vs:List (κ×V)},qaV K B ts vs->ubf ts<=n
 |[],_,_=>Nat.zero_le _
 |(_,_)::_,_,⟨v,r',e,a,b⟩=>by exact Nat.max_le.mpr ⟨Rep.ub hd a,qaV.ub hd b⟩
end
end NV
namespace PL
open PySem L2
inductive T where
 |non|bl (b:Bool)|int (i:Int)|str (s:Str)|tup (ts:List T)|lst (ts:List T)|dct (kvs:List (Key×T))|dcf (kvs:List (Key×T))|dtu (kvs:List (List Key×T))|fn (x:Str)|scr (ns:List Int)|obj (a:Addr)
inductive Rs(α:Type) where
 |no|ok (a:α)|ex (c:Str)
structure GX(H H':Hp):Prop where
 hh: ∀a o,H a=some o->(∀ps,o≠.tbl ps)->H' a=some o
 dm: ∀a,H a≠none->H' a≠none
inductive Sl where
 |no|fz (t:T)|ow (ts:List T)|od (kvs:List (Key×T))|ou (kvs:List (List Key×T))|pd (kvs:List (Key×T))|pu (kvs:List (List Key×T))
section
noncomputable def qxN(K:W.Frag)(tl:TE):TI:=λZ H R=>tl Z H λx H1=> ∃a,x= .ref a/\(((∃xs,SqL K H1 a xs/\(xs.length<=sizeLine->R (Itl K a) H1)))\/(∃xs,SqT K H1 a xs/\(xs.length<=sizeLine->R (Itt K a) H1)))
theorem pi_seq(hl:PE X l tl):PI X tg l (qxN X.K tl):=by
 intro O s Z H R I h;refine thn (hl _ s Z H _ I h) λv s1 fq=> ?_;obtain⟨x,H1,I1,r1,q1⟩:=fq;obtain⟨a,e,q⟩:=q1;subst e;cases r1
 rcases q with⟨xs,hq,q⟩|⟨xs,hq,q⟩
 ·obtain⟨its,rv,p,hz⟩:=I1.list hq;have q:=q hz;refine wpAny_pyIter_list p.isList ?_;refine⟨s1.heap.objs.size,[s1.heap.objs.size],_,_,H1,rfl,I1.kept λb o e=>Vg _ e,qiD a _,⟨_,Vh _ rfl,rfl,rfl⟩,λb hb=> ?_,q⟩;have e:=by simpa using hb
  subst e;exact I1.fpOk (Vl _) (I1.hok.fresh (Vl _))
 ·obtain⟨its,rv,p,hz⟩:=I1.tuple hq;have q:=q hz;refine wpAny_pyIter_tuple p ?_;refine⟨s1.heap.objs.size,[s1.heap.objs.size],_,_,H1,rfl,I1.kept λb o e=>Vg _ e,qhJ a _,⟨_,Vh _ rfl,rfl,rfl⟩,λb hb=> ?_,q⟩;have e:=by simpa using hb
  subst e;exact I1.fpOk (Vl _) (I1.hok.fresh (Vl _))
end
theorem line1M:(1000000:Nat)<=sizeLine:=by decide
open PySem.Spec PyProof.Rows in
theorem pi_zipZ(hg:Gl X "zip")(hm:X.mg "zip" =none)(ha:PA X [a,b] ta)(hs:starEach [a,b] X.env=(false,eval a X.env)::starEach [b] X.env:=by rfl)(ay:(backTo pos (starEach [b] X.env)).any (·.1)=false:=by rfl):
  PI X (.Tuple elts kk tpos) (.Call (.Name "zip" p) [a,b] [] pos) (λZ H R=>ta Z H λvs H1=> ∃l1 l2 xs ys,vs=[.ref l1,.ref l2]/\SqL X.K H1 l1 xs/\SqL X.K H1 l2 ys/\(xs.length<=sizeLine->ys.length<=sizeLine->R (Itz X.K l1 l2) H1)):=by
 intro O s Z H R I h;refine Vf (qdz I hg hm PyProof.Rows.boot_zip ?_);refine PyProof.Rows.callWith_type1 (thn (ha pos O s Z H _ I h) λus s1 ⟨vs,H1,I1,r1,l1,l2,xs,ys,e,h1,h2,q⟩=> ?_) hs ay;subst e;obtain⟨u1,u2,rfl,ru1,ru2⟩:=qiz r1;cases ru1;cases ru2;obtain⟨bI,rr1,p1,z1⟩:=I1.list h1;obtain⟨aE,rr2,p2,z2⟩:=I1.list h2;have q:=q z1 z2;obtain⟨o1,fL,_⟩:=p1.isList;obtain⟨o2,aQ,_⟩:=p2.isList;have lt1:l1<s1.heap.objs.size:=Vi fL;have lt2:l2<s1.heap.objs.size:=Vi aQ;refine call_zip_2 p1.isList p2.isList λh' hz hTI hTO hi1 gE hsz kp=>wpAny_pyIter_zip hz ?_;have D:ZipApart (s1.heap.objs.size+4) (s1.heap.objs.size+2) (s1.heap.objs.size+3) s1.heap.objs.size (s1.heap.objs.size+1) l1 l2:=W.ktu_apart _ _ _ lt1 lt2;refine⟨_,_,_,Itz X.K l1 l2,H1,rfl,I1.kept (t':=s1.toks) kp,qk5 D,⟨hz,hTI,⟨_,_,hTO⟩,hi1,gE⟩,λb hb=> ?_,q⟩;have hle:s1.heap.objs.size<=b:=by
  have aU:b=s1.heap.objs.size+4\/b=s1.heap.objs.size+2\/b=s1.heap.objs.size+3\/b=s1.heap.objs.size\/b=s1.heap.objs.size+1:=by simpa using hb
  rcases aU with rfl|rfl|rfl|rfl|rfl
  ·exact Nat.le_add_right _ _
  ·exact Nat.le_add_right _ _
  ·exact Nat.le_add_right _ _
  ·exact Vl _
  ·exact Nat.le_add_right _ _
 exact I1.fpOk hle (I1.hok.fresh hle)
end PL
namespace PL
open PySem L2
end PL
namespace Mir
open St
theorem qea: ∀{l:List Nat}{x:Nat},x∈l->(l.erase x).length+1=l.length
 |[],_,h=>by cases h
 |y::l,x,h=>by
  grind
theorem qe0{l:List Nat}{x y:Nat}(h:y∈l)(dM:y≠x):y∈l.erase x:=by
 grind
theorem qg7: ∀{l l':List Nat},l.Nodup->(∀x∈l,x∈l')->l.length<=l'.length
 |[],_,_,_=>Nat.zero_le _
 |x::l,l',nd,h=>by
  have hx:=h x Vj;have hn:=List.nodup_cons.mp nd;have:=qg7 (l':=l'.erase x) hn.2 λy hy=>qe0 (h y (Vk _ hy)) λz=>hn.1 (z▸hy);have e:=qea hx
  grind
theorem full{l:List Nat}{n:Nat}(nd:l.Nodup)(lt: ∀x∈l,x<n)(hl:l.length=n): ∀j,j<n->j∈l:=by
 intro j hj;by_cases q:j∈l
 ·exact q
 ·have h1:=qg7 (l':=List.range n) (List.nodup_cons.mpr ⟨q,nd⟩) λx hx=>by
   rcases List.mem_cons.mp hx with e|e
   ·simp_all
   simp_all
  grind
theorem qbM(eB: ∀a b,R a b->¬R b a): ∀{l l':List Nat},l.Pairwise R->l'.Pairwise R->(∀x,x∈l↔x∈l')->l=l'
 |[],[],_,_,_=>rfl
 |[],y::l',_,_,h=>by have:=(h y).mpr Vj;cases this
 |x::l,[],_,_,h=>by have:=(h x).mp Vj;cases this
 |x::l,y::l',h1,h2,h=>by
  obtain⟨a1,b1⟩:=List.pairwise_cons.mp h1;obtain⟨a2,b2⟩:=List.pairwise_cons.mp h2;have exy:x=y:=by
   rcases List.mem_cons.mp ((h x).mp Vj) with e|e
   ·exact e
   ·rcases List.mem_cons.mp ((h y).mpr Vj) with e'|e'
    ·exact e'.symm
    grind
  subst exy;have n1:=λq=>eB x x (a1 x q) (a1 x q);have n2:=λq=>eB x x (a2 x q) (a2 x q);rw[qbM eB b1 b2 λz=>⟨λq=>((List.mem_cons.mp ((h z).mp (List.mem_cons_of_mem _ q))).resolve_left λe=>n1 (e▸q)),λq=>((List.mem_cons.mp ((h z).mpr (List.mem_cons_of_mem _ q))).resolve_left λe=>n2 (e▸q))⟩]
theorem qnR(a b:Nat)(h:L k a b): ¬L k b a:=by
 intro h'
 rcases h with h|h<;>rcases h' with h'|h'<;>lia
theorem qbK(h:qdf ms n p):p.toList.Pairwise (L λi=>ms.getD i 0):=by
 rw[List.pairwise_iff_getElem];intro i j hi hj aS;have bz:=by simpa using hi
 have dQ:=by simpa using hj
 have e:=h.2 i j aS (by rw[h.1.sz] at dQ;exact dQ);have e1:g p i=p.toList[i]:=by unfold g;simp_all
 have e2:g p j=p.toList[j]:=by unfold g;simp_all
 simp_all
theorem qg4(h:qdf ms n p): ∀x∈p.toList,x<n:=by
 intro x hx;obtain⟨i,hi,rfl⟩:=List.mem_iff_getElem.mp hx;have bz:=by simpa using hi
 have e:=h.1.lo i (by rw[h.1.sz] at bz;exact bz);have e1:g p i=p.toList[i]:=by unfold g;simp_all
 rw[e1] at e;exact e
theorem qfT(h:qdf ms n p):p.toList.Nodup:=by refine List.Pairwise.imp ?_ (qbK h);intro a b ju e;subst e;exact qnR a a ju ju
theorem qjb{p:Array Nat}(h:qdf ms n p)(x:Nat):x∈p.toList↔x<n:=
 ⟨qg4 h x,full (qfT h) (qg4 h) (by exact h.1.sz) x⟩
noncomputable def qut(ms:List Int)(n:Nat)(m:Int):List Nat:=(List.range n).filter λj=>decide (ms.getD j 0=m)
noncomputable def due(ms:List Int)(n t:Nat):List Nat:=(List.range t).flatMap λm=>qut ms n (m:Nat)
theorem map_range_getD{α:Type}(xs:List α)(d:α):(List.range xs.length).map (λj=>xs.getD j d)=xs:=by
 apply List.ext_getElem
 ·simp
 simp_all
end Mir
namespace SR
open PySem L2 RH St Mir
theorem qsv: ∀{l:List Nat},(∀x∈l,x<n)->l.Pairwise (L k)->(ins k n l).Pairwise (L k)
 |[],_,_=>by simp[ins]
 |y::l,hl,h=>by
  have h':=List.pairwise_cons.mp h;have hy:y<n:=hl y Vj;show(if k y<=k n then y::ins k n l else n::y::l).Pairwise (L k);by_cases c:k y<=k n
  ·rw[if_pos c];refine List.pairwise_cons.mpr ⟨λz hz=> ?_,qsv (λx hx=>hl x (Vk _ hx)) h'.2⟩
   rcases qf0.mp hz with q|q
   ·unfold L;lia
   ·exact h'.1 z q
  ·rw[if_neg c];refine List.pairwise_cons.mpr ⟨λz hz=> ?_,h⟩
   rcases List.mem_cons.mp hz with q|q
   ·exact .inl (by lia)
   ·have:=h'.1 z q;unfold L at this⊢;lia
theorem qeP(k:Nat->Int): ∀n,(srt k (List.range n)).Pairwise (L k)
 |0=>List.Pairwise.nil
 |n+1=>by rw[List.range_succ,qdT];exact qsv (λx hx=>List.mem_range.mp ((qd8 _).mp hx)) (qeP k n)
theorem qja(h:qdf ms n p):p.toList=srt (λi=>ms.getD i 0) (List.range n):=
 qbM qnR (qbK h) (qeP _ _) λx=>by rw[qjb h,qd8,List.mem_range]
end SR
namespace RH
open PySem PySem.Spec PyProof.Rows L2 SR
section
noncomputable def eqT(us vs:List V):Bool:=(List.range us.length).all λj=>eqV (us.getD j .non) (vs.getD j .non)
theorem valsArr(r:qav us is)(h:j<is.toArray.size):RelV (us.getD j .non) is.toArray[j]:=by
 have hj:j<us.length:=by rw[r.length];simpa using h
 obtain⟨u,e,q⟩:=r.get (Vw hj);rw[List.getD_eq_getElem?_getD,List.getElem?_eq_getElem hj];have:is.toArray[j]=u:=by
  rw[List.getElem?_eq_getElem (by simpa using h)] at e
  simp_all
 rw[this];exact q
end
end RH
namespace PL
open PySem L2
section kinds
open SeqAt
variable{A:Around}{s:Shared}{x:V}{u:Value}{l b:Addr}{is js:Array Value}
theorem eq_fl(r:RelV x u)(f:qgb x=true)(h:s.heap.IsList l is)(c:A.units<cLine):EqAt A s u (.ref l) false/\EqAt A s (.ref l) u false/\RcAt A s u (.ref l) false/\RcAt A s (.ref l) u false/\RcNeAt A s u (.ref l) true/\RcNeAt A s (.ref l) u true:=by
 cases x with
 |non=>cases r;exact⟨.none_list h c,.list_none h c,.none_list h c,.list_none h c,.none_list h c,.list_none h c⟩
 |bl k=>cases r;exact⟨.bool_list k h c,.list_bool k h c,.bool_list k h c,.list_bool k h c,.bool_list k h c,.list_bool k h c⟩
 |int k=>obtain⟨t,rfl⟩:=r;exact⟨.int_list k t h c,.list_int k t h c,.int_list k t h c,.list_int k t h c,.int_list k t h c,.list_int k t h c⟩
 |str k=>obtain⟨t,rfl⟩:=r;exact⟨.str_list k t h c,.list_str k t h c,.str_list k t h c,.list_str k t h c,.str_list k t h c,.list_str k t h c⟩
 |_=>cases f
theorem eq_ft(r:RelV x u)(f:qgb x=true)(h:s.heap.IsTuple l is)(c:A.units<cLine):EqAt A s u (.ref l) false/\EqAt A s (.ref l) u false/\RcAt A s u (.ref l) false/\RcAt A s (.ref l) u false/\RcNeAt A s u (.ref l) true/\RcNeAt A s (.ref l) u true:=by
 cases x with
 |non=>cases r;exact⟨.none_tuple h c,.tuple_none h c,.none_tuple h c,.tuple_none h c,.none_tuple h c,.tuple_none h c⟩
 |bl k=>cases r;exact⟨.bool_tuple k h c,.tuple_bool k h c,.bool_tuple k h c,.tuple_bool k h c,.bool_tuple k h c,.tuple_bool k h c⟩
 |int k=>obtain⟨t,rfl⟩:=r;exact⟨.int_tuple k t h c,.tuple_int k t h c,.int_tuple k t h c,.tuple_int k t h c,.int_tuple k t h c,.tuple_int k t h c⟩
 |str k=>obtain⟨t,rfl⟩:=r;exact⟨.str_tuple k t h c,.tuple_str k t h c,.str_tuple k t h c,.tuple_str k t h c,.str_tuple k t h c,.tuple_str k t h c⟩
 |_=>cases f
theorem rc_ff{y:V}{v:Value}(r:RelV x u)(f:qgb x=true)(r':RelV y v)(f':qgb y=true):RcAt A s u v (eqV x y)/\RcNeAt A s u v (!eqV x y):=by
 cases x with
 |non=>
  cases r;cases y with
  |non=>cases r';exact⟨.none_none,.none_none⟩
  |bl k=>cases r';exact⟨.none_bool k,.none_bool k⟩
  |int k=>obtain⟨t,rfl⟩:=r';exact⟨.none_int k t,.none_int k t⟩
  |str k=>obtain⟨t,rfl⟩:=r';exact⟨.none_str k t,.none_str k t⟩
  |_=>cases f'
 |bl i=>
  cases r;cases y with
  |non=>cases r';exact⟨.bool_none i,.bool_none i⟩
  |bl k=>cases r';exact⟨.bool_bool i k,.bool_bool i k⟩
  |int k=>obtain⟨t,rfl⟩:=r';exact⟨.bool_int i k t,.bool_int i k t⟩
  |str k=>obtain⟨t,rfl⟩:=r';exact⟨.bool_str i k t,.bool_str i k t⟩
  |_=>cases f'
 |int i=>
  obtain⟨t0,rfl⟩:=r;cases y with
  |non=>cases r';exact⟨.int_none i t0,.int_none i t0⟩
  |bl k=>cases r';exact⟨.int_bool i t0 k,.int_bool i t0 k⟩
  |int k=>obtain⟨t,rfl⟩:=r';exact⟨.int_int i t0 k t,.int_int i t0 k t⟩
  |str k=>obtain⟨t,rfl⟩:=r';exact⟨.int_str i t0 k t,.int_str i t0 k t⟩
  |_=>cases f'
 |str i=>
  obtain⟨t0,rfl⟩:=r;cases y with
  |non=>cases r';exact⟨.str_none i t0,.str_none i t0⟩
  |bl k=>cases r';exact⟨.str_bool i t0 k,.str_bool i t0 k⟩
  |int k=>obtain⟨t,rfl⟩:=r';exact⟨.str_int i t0 k t,.str_int i t0 k t⟩
  |str k=>obtain⟨t,rfl⟩:=r';exact⟨.str_str i t0 k t,.str_str i t0 k t⟩
  |_=>cases f'
 |_=>cases f
end kinds
end PL
namespace SetL
open PySem
noncomputable def Ri(xs:Array Nat):Prop:=xs.toList.Pairwise (· < ·)
noncomputable def qyb(t:SetTable):Prop:=Ri t.place/\t.dummies= #[]
inductive Way(w:World)(h:Heap)(a:Addr)(es:Array (Int×Value))(ep:Nat)(t:SetTable):List Addr->(Nat->Value)->List Value->Prop
 |drawn {tp:Addr} {ot:Obj} {pl:List Nat} {k:Nat}:h.get? tp=some ot->ot.data= .seq (List.toArray (pl.map λ(i:Nat)=>rawInt i)) k->(∀i∈pl,i<es.size)->Way w h a es ep t [tp] (λ_=>.ref tp) (pl.map λi=>(es.toList.map (·.2)).getD i .none)
 |text:w.params.followText "set-order" =true->Way w h a es ep t [] (λ_=>rawInt 0) ((pickOrder (w.params.setOrder a ep) es).toList.map (·.2))
 |small:w.params.followText "set-order" =false->(!t.plain&&decide (es.size>1))=false->t.led=true->qyb t->Way w h a es ep t [] (λi=>if i=0 then rawInt 0 else rawInt (t.place.getD (i - 1) 0+1:Nat)) (es.toList.map (·.2))
section
variable{K:Type}[DecidableEq K]
noncomputable def mem(key:Nat->K)(i:Nat)(k:K):Bool:=(List.range i).any λj=>decide (k=key j)
noncomputable def cnt(key:Nat->K):Nat->Nat
 |0=>0
 |i+1=>if mem key i (key i)=true then cnt key i else cnt key i+1
end
end SetL
namespace SR
theorem qk8{α:Type}{P:List α->Prop}(h0:P [])(hs: ∀l a,P l->P (l++[a])): ∀l,P l:=by
 intro l;have: ∀r:List α,P r.reverse:=by
  intro r
  induction r with
  |nil=>exact h0
  |cons a r ih=>simp_all
 rw[<-List.reverse_reverse l];exact this _
section
variable{κ:Type}[DecidableEq κ]
abbrev T4(κ:Type):=Int×κ×Int×Int
noncomputable def hit(w:Int)(r a:T4 κ):Bool:=decide (r.1 - a.1<=w)&&(decide (a.2.2.2≠r.2.2.2)&&decide (a.2.1=r.2.1))
end
section
variable{κ:Type}[DecidableEq κ]
abbrev R3(κ:Type):=Int×κ×Int
noncomputable def un(t:T4 κ):R3 κ:=(t.1,t.2.1,t.2.2.1)
noncomputable def mat(w:Int)(a b:R3 κ):Bool:=decide (a.2.1=b.2.1)&&(decide (a.1 - b.1<=w)&&decide (b.1 - a.1<=w))
noncomputable def cp(a b:R3 κ):T4 κ:=(max a.1 b.1,a.2.1,a.2.2,b.2.2)
noncomputable def pr(w:Int)(A B:List (R3 κ)):List (T4 κ):=A.flatMap λa=>(B.filter (mat w a)).map (cp a)
noncomputable def keyIs(k:κ):R3 κ->Bool:=λr=>decide (r.2.1=k)
end
theorem qfd{α:Type}{k k':α->Int}{r:α}(hr:k r=k' r): ∀l:List α,(∀x∈l,k x=k' x)->ins k r l=ins k' r l
 |[],_=>rfl
 |x::l,h=>by
  show(if k x<=k r then x::ins k r l else r::x::l)=(if k' x<=k' r then x::ins k' r l else r::x::l)
  rw[hr,h x List.mem_cons_self,qfd hr l λy hy=>h y (List.mem_cons_of_mem _ hy)]
theorem qeD{α:Type}{k k':α->Int}(l:List α):(∀x∈l,k x=k' x)->srt k l=srt k' l:=by refine qk8 (P:=λl=>(∀x∈l,k x=k' x)->srt k l=srt k' l) (λ_=>rfl) (λl a ih h=> ?_) l;rw[qdT,qdT,ih λx hx=>h x (List.mem_append_left _ hx)];exact qfd (h a (Vs _ Vj)) _ λx hx=>h x (Vr _ ((qd8 _).mp hx))
end SR
namespace RH
open PySem PySem.Spec PyProof.Rows L2 SR
noncomputable def ltS(x y:Str):Bool:=decide (x.cps.toList<y.cps.toList)
theorem qq2{x y:Str}(h:x.cps.toList=y.cps.toList):x=y:=by cases x;simp_all
theorem ordS:Ord ltS where
 irr:=λa=>Vv (List.lt_irrefl _)
 tr:=λa b c h1 h2=>decide_eq_true (List.lt_trans (of_decide_eq_true h1) (of_decide_eq_true h2))
 tot:=λa b h1 h2=>qq2 (List.le_antisymm (List.not_lt.mp (of_decide_eq_false h2)) (List.not_lt.mp (of_decide_eq_false h1)))
end RH
namespace SetL
section
variable{α:Type}[DecidableEq α]
noncomputable def dd:List α->List α
 |[]=>[]
 |x::xs=>if x∈dd xs then dd xs else x::dd xs
noncomputable def dl(key:Nat->α):Nat->List α
 |0=>[]
 |i+1=>if mem key i (key i)=true then dl key i else dl key i++[key i]
end
open PySem PySem.W PySem.Calls PyProof.Rows SR
structure Kd(prog:Program)(w:World)(α:Type)[DecidableEq α] where
 knd:PySem.KeyKind prog w α
 up:α->L2.V
 d:α
 of:Value->α
 lt:α->α->Bool
 ord:Ord lt
 isv: ∀x u,L2.RelV (up x) u->knd.is x u=true/\u.scannable=true
 vis: ∀x u,knd.is x u=true->L2.RelV (up x) u
 ofv: ∀x u,L2.RelV (up x) u->of u=x
 kind: ∀v1 v2 vs,(∀v∈v1::v2::vs,∃x,L2.RelV (up x) v)->keyKind' (v1::v2::vs).toArray=pure oneType'
 lts: ∀{A:Around}{E:Value->Shared->Prop}{s:Shared}{Q:Bool->Shared->Prop}(x y:α)(u v:Value),L2.RelV (up x) u->L2.RelV (up y) v->Q (lt x y) s->wpAny (model prog w) A (keyLt' oneType' u v) Q E s
end SetL
namespace SetL
open PySem L2 SR
theorem boot_sorted:bootBuiltins "sorted" =some (.builtin "sorted"):=by decide+kernel
end SetL
namespace PL
open PySem L2 SR SetL
inductive Ky where
 |i (n:Int)|s (x:Str)
 deriving DecidableEq
noncomputable def qlP:Ky->Ky->Bool
 |.i a,.i b=>decide (a<b)
 |.i _,.s _=>true
 |.s _,.i _=>false
 |.s a,.s b=>RH.ltS a b
theorem qoK:Ord qlP where
 irr:=λa=>by
  cases a with
  |i n=>exact Vv (Int.lt_irrefl n)
  |s x=>exact RH.ordS.irr x
 tr:=λa b c h1 h2=>match a,b,c,h1,h2 with
  |.i _,.i _,.i _,h1,h2=>decide_eq_true (Int.lt_trans (of_decide_eq_true h1) (of_decide_eq_true h2))
  |.i _,.i _,.s _,_,_=>rfl
  |.i _,.s _,.i _,_,h2=>nomatch h2
  |.i _,.s _,.s _,_,_=>rfl
  |.s _,.i _,_,h1,_=>nomatch h1
  |.s _,.s _,.i _,_,h2=>nomatch h2
  |.s _,.s _,.s _,h1,h2=>RH.ordS.tr _ _ _ h1 h2
 tot:=λa b h1 h2=>match a,b,h1,h2 with
  |.i x,.i y,h1,h2=>by
   have e1: ¬x<y:=of_decide_eq_false h1;have e2: ¬y<x:=of_decide_eq_false h2
   congr 1;lia
  |.i _,.s _,h1,_=>nomatch h1
  |.s _,.i _,_,h2=>nomatch h2
  |.s x,.s y,h1,h2=>congrArg Ky.s (RH.ordS.tot x y h1 h2)
noncomputable def ltKs:List Ky->List Ky->Bool
 |[],[]=>false
 |[],_::_=>true
 |_::_,[]=>false
 |a::as,b::bs=>if a=b then ltKs as bs else qlP a b
theorem qg9: ∀a,ltKs a a=false
 |[]=>rfl
 |a::as=>by show(if a=a then ltKs as as else qlP a a)=false;rw[if_pos rfl];exact qg9 as
theorem qjp: ∀a b c,ltKs a b=true->ltKs b c=true->ltKs a c=true
 |[],[],_,h,_=>by cases h
 |[],_::_,[],_,h=>by cases h
 |[],_::_,_::_,_,_=>rfl
 |_::_,[],_,h,_=>by cases h
 |_::_,_::_,[],_,h=>by cases h
 |a::as,b::bs,c::cs,h1,h2=>by
  have bM:(if a=b then ltKs as bs else qlP a b)=true:=h1;have br:(if b=c then ltKs bs cs else qlP b c)=true:=h2;show(if a=c then ltKs as cs else qlP a c)=true;by_cases e1:a=b
  ·subst e1;rw[if_pos rfl] at bM;by_cases e2:a=c
   ·rw[if_pos e2] at br⊢;exact qjp as bs cs bM br
   grind
  ·rw[if_neg e1] at bM;by_cases e2:b=c
   ·grind
   ·rw[if_neg e2] at br;have t:=qoK.tr _ _ _ bM br;by_cases e3:a=c
    ·subst e3;rw[qoK.irr] at t;cases t
    grind
theorem qg8: ∀a b,ltKs a b=false->ltKs b a=false->a=b
 |[],[],_,_=>rfl
 |[],_::_,h,_=>by cases h
 |_::_,[],_,h=>by cases h
 |a::as,b::bs,h1,h2=>by
  have bM:(if a=b then ltKs as bs else qlP a b)=false:=h1;have br:(if b=a then ltKs bs as else qlP b a)=false:=h2;by_cases e:a=b
  ·subst e;rw[if_pos rfl] at bM br;rw[qg8 as bs bM br]
  ·rw[if_neg e] at bM;rw[if_neg (Ne.symm e)] at br;exact absurd (qoK.tot _ _ bM br) e
theorem ordKs:Ord ltKs:=⟨qg9,qjp,qg8⟩
noncomputable def okShape:List Nat->Bool
 |[0]=>true
 |[1]=>true
 |2::x::r=>(x::r).all λn=>n==0||n==1
 |_=>false
noncomputable def sortBy{α:Type}(f:α->List Ky)(ts:List α):List α:=srt (λt=>qhS ltKs (ts.map f) (f t)) ts
section
open PySem.W PyProof.Rows
noncomputable def kyV:Ky->V
 |.i n=>.int n
 |.s x=>.str x
noncomputable def shK:Ky->Nat
 |.i _=>0
 |.s _=>1
theorem qvm: ∀(as bs:List Ky)(us vs:List Value)(i:Nat),qav (as.map kyV) us->qav (bs.map kyV) vs->as.map shK=bs.map shK->C (ltKs as bs) s->KatLex prog w A true false C (us.zip vs) i s
 |[],[],_,_,i,.nil,.nil,_,h=>kat_nil h
 |[],_::_,_,_,_,_,_,hs,_=>by cases hs
 |_::_,[],_,_,_,_,_,hs,_=>by cases hs
 |a::as,b::bs,_,_,i,.cons (l₂:=us) ra rs,.cons (l₂:=vs) rb rt,hs,h=>by
  have jh:shK a=shK b:=(List.cons.inj hs).1;have dE:as.map shK=bs.map shK:=(List.cons.inj hs).2;have h':C (if a=b then ltKs as bs else qlP a b) s:=h;have go: ∀{p q:Value}{rr:List (Value×Value)}{e:Bool},MeetsSeq.EqGives p q e->(e=true->KatLex prog w A true false C rr (i+1) s)->(e=false->wpAny (model prog w) A (oneLt' (true&&i==0) p q) C (λ_ _=>False) s)->KatLex prog w A true false C ((p,q)::rr) i s:=λ{p q rr e} he h1 h2=>by
   refine kat_cons (he prog w A _ s _ ?_);cases e with
   |true=>exact kat_yes (h1 rfl)
   |false=>exact kat_no (h2 rfl)
  cases a with
  |i x=>
   cases b with
   |i y=>
    obtain⟨t1,rfl⟩:=ra;obtain⟨t2,rfl⟩:=rb;refine go (MeetsSeq.EqGives.int _ _ _ _) (λe=> ?_) (λe=> ?_)
    ·have e':=eq_of_beq e;rw[if_pos (by rw[e'])] at h';exact qvm as bs us vs (i+1) rs rt dE h'
    ·have e': ¬Ky.i x=Ky.i y:=λz=>by cases z;rw[beq_self_eq_true] at e;cases e
     rw[if_neg e'] at h';cases z:(i==0) with
     |true=>exact oneLt_int h'
     |false=>exact kat_one _ _ (lt_int (show W.BoolBack C (.bool _) s from h'))
   |s y=>cases jh
  |s x=>
   cases b with
   |i y=>cases jh
   |s y=>
    obtain⟨t1,rfl⟩:=ra;obtain⟨t2,rfl⟩:=rb;have es:MeetsSeq.EqGives (.str x t1) (.str y t2) (decide (x=y)):=λ_ _ _ _ _ _ hq=>wpAny_eqBool_str hq;refine go es (λe=> ?_) (λe=> ?_)
    ·have e':=of_decide_eq_true e;rw[if_pos (by rw[e'])] at h';exact qvm as bs us vs (i+1) rs rt dE h'
    ·have e': ¬Ky.s x=Ky.s y:=λz=>by cases z;simp at e
     rw[if_neg e'] at h';cases z:(i==0) with
     |true=>exact oneLt_str h'
     |false=>exact kat_one _ _ (P.lt_str (show W.BoolBack C (.bool _) s from h'))
end
theorem okShape_cases(h:okShape s0=true):s0=[0]\/s0=[1]\/∃x r,s0=2::x::r/\(x::r).all (λn=>n==0||n==1)=true:=by
 unfold okShape at h;split at h
 ·exact .inl rfl
 ·exact .inr (.inl rfl)
 ·exact .inr (.inr ⟨_,_,rfl,h⟩)
 ·cases h
open PySem.W PyProof.Rows in
theorem kind_strs(its:List Value)(h2:2<=its.length)(hv: ∀v∈its,∃x t,v= .str x t)(hq:Q oneType' s):wpAny (model prog w) A (keyKind' its.toArray) Q E s:=
 match its,h2,hv with
 |v1::v2::cn,_,hv=>by rw[keyKind_strs (strsAre_map _ hv)];exact Vb hq
theorem qdB{h:Heap}{P:Value->Prop}: ∀(l:List Value),(∀v∈l,∃f,(∃a o xs n,v= .ref a/\h.get? a=some o/\o.cls= .type "tuple" /\o.data= .seq xs n/\xs[0]? =some f)/\P f)->∃fs,W.KatTups h l fs/\fs.length=l.length/\∀f∈fs,P f
 |[],_=>⟨[],trivial,rfl,λ_ hf=>nomatch hf⟩
 |v::l,hl=>by
  obtain⟨f,h1,h2⟩:=hl v Vj;obtain⟨fs,h3,h4,h5⟩:=qdB l λu hu=>hl u (Vk _ hu);refine⟨f::fs,⟨h1,h3⟩,by simp[h4],λg hg=> ?_⟩
  grind
end PL
namespace PL
open PySem L2 SR SetL
theorem hu8(r:qa7 k A):A.units+8<cLine:=by have:=r.units;lia
abbrev Row:=Int×Str×Int
noncomputable def keyOk(x:Str):Prop:=(1<=x.length/\x.length<=2)/\∀c∈x.cps.toList,97<=c/\c<=122
noncomputable def rowOk(r:Row):Prop:=(0<=r.1/\r.1<=99)/\keyOk r.2.1/\ -99<=r.2.2/\r.2.2<=99
end PL
namespace PL
open PySem L2
end PL
namespace St
open PySem PySem.W PySem.Calls PyProof.Rows
end St
namespace L2
open PySem PySem.Spec PyProof.Rows
structure qw9(x:Str)(v:Value)(env:Env)(h:Heap):Prop where
 kind:env.scope.kind= .function
 loc:env.kindOf x=some .local
 ns: ∃m,h.Ns env.locals m/\m x=some v
end L2
namespace PL
open PySem L2 SR SetL
section
open PySem.W PyProof.Rows
noncomputable def KeyTup(h:Heap)(kl:List Ky)(v:Value):Prop:= ∃p its,v= .ref p/\IsTup h p (List.toArray its)/\qav (kl.map kyV) its
theorem kind_tups(its:List Value)(hx:x=0\/x=1)(h2:2<=its.length)(hk: ∀v∈its,∃kl,KeyTup s.heap kl v/\kl.map shK=x::r)(hq:Q (tuples' true) s):wpAny (model prog w) A (keyKind' its.toArray) Q E s:=by
 have fst: ∀v∈its,∃f,(∃a o xs n,v= .ref a/\s.heap.get? a=some o/\o.cls= .type "tuple" /\o.data= .seq xs n/\xs[0]? =some f)/\((x=0/\∃i t,f=Value.int i t)\/(x=1/\∃i t,f=Value.str i t)):=λv hv=>by
  obtain⟨kl,⟨p,w1,g1,i1,v1⟩,k1⟩:=hk v hv;obtain⟨o1,e1,c1,n1,d1⟩:=i1;cases kl with
  |nil=>cases k1
  |cons ky kr=>
   cases v1 with
   |cons r0 rr=>
    have ks:shK ky=x:=(List.cons.inj k1).1;cases ky with
    |i n=>obtain⟨tk,rfl⟩:=r0;exact⟨_,⟨p,o1,_,n1,g1,e1,c1,d1,rfl⟩,.inl ⟨ks.symm,n,tk,rfl⟩⟩
    |s n=>obtain⟨tk,rfl⟩:=r0;exact⟨_,⟨p,o1,_,n1,g1,e1,c1,d1,rfl⟩,.inr ⟨ks.symm,n,tk,rfl⟩⟩
 obtain⟨fs,k1,k2,k3⟩:=qdB its fst
 rcases hx with rfl|rfl
 ·refine W.kat_kind k1 (by lia) (T:=.type "int") (λv hv=> ?_) (by decide) ?_
  ·rcases k3 v hv with⟨_,i,t,rfl⟩|⟨z,_⟩
   ·exact W.Looks.of_pure rfl
   ·cases z
  ·exact hq
 ·refine W.kat_kind k1 (by lia) (T:=.type "str") (λv hv=> ?_) (by decide) ?_
  ·rcases k3 v hv with⟨z,_⟩|⟨_,i,t,rfl⟩
   ·cases z
   ·exact W.Looks.of_pure rfl
  ·exact hq
theorem lt_tups(h1:KeyTup s.heap a u)(h2:KeyTup s.heap b v)(hs:a.map shK=b.map shK)(hc:C (ltKs a b) s):wpAny (model prog w) A (keyLt' (tuples' true) u v) C (λ_ _=>False) s:=by
 obtain⟨p1,w1,rfl,i1,v1⟩:=h1;obtain⟨p2,w2,rfl,i2,v2⟩:=h2;obtain⟨o1,e1,_,n1,d1⟩:=i1;obtain⟨o2,e2,_,n2,d2⟩:=i2;refine kat_lt e1 d1 e2 d2 ?_;have hl:w1.length=w2.length:=by
  have h1:=v1.length;have h2:=v2.length;have h3:=congrArg List.length hs
  grind
 rw[show decide _=false by simp[hl]];exact qvm _ _ _ _ 0 v1 v2 hs hc
end
theorem boot_sum':bootBuiltins "sum" =some (.builtin "sum"):=by decide+kernel
end PL
namespace PL
open PySem L2
end PL
namespace St
open PySem PySem.W PySem.Calls PyProof.Rows
section
theorem sorted_c(b8:wpAny (model prog w) A.in1 (collect v) (λvs s1=> ∃(h1:Heap)(t1:Nat)(κ:SortKind)(kz:List Int),s1={ s with heap:=h1,toks:=t1 }/\Kp s.heap h1/\kz.length=vs.length/\vs.length<64/\
   (∀s':Shared,Kp h1 s'.heap->2<=vs.length->∀(Q:SortKind->Shared->Prop)(E:Value->Shared->Prop),Q κ s'->wpAny (model prog w) A.in1.in1 (keyKind' vs.toArray) Q E s')/\
   (∀s':Shared,Kp h1 s'.heap->∀i j,i<vs.length->j<vs.length->∀C:Bool->Shared->Prop,C (decide (kz.getD i 0<kz.getD j 0)) s'->wpAny (model prog w) A.in1.in1 (keyLt' κ (vs.getD i Value.none) (vs.getD j Value.none)) C (λ_ _=>False) s')/\
   ∀D h' tk c (p:Array Nat),h1.objs.size<=D->Kp h1 h'->qdf kz vs.length p->h'.get? D=some (seqObj "list" (List.toArray (p.toList.map λi=>vs.getD i Value.none)) c)->Q (.ref D) { s with heap:=h',toks:=tk }) E s):
  wpAny (model prog w) A (call (.builtin "sorted") [v]) Q E s:=by
 refine Calls.call_function_entry kind_sorted plain_sorted entry_sorted (args_sorted1 _) ?_;unfold Builtin.«sorted»;refine Va (m:=checkCount "sorted" 1 1 _) (Vb ?_);refine Va (Vc b8 (λvs s1 h=> ?_) λ_ _ x=>x);obtain⟨H1,t1,κ,kz,rfl,gy,hlen,eQ,kind,cmp,h⟩:=h;refine Va (wpAny_newList ?_ (by rw[sizeLine_eq];lia));have c8:Kp H1 (H1.push (seqObj "list" vs.toArray 0)):=λb o q=>Vg _ q;have gA:(H1.push (seqObj "list" vs.toArray 0)).get? H1.objs.size=some (seqObj "list" vs.toArray 0):=Vh _ rfl;refine Va (wpAny_holding (wpAny_call_entry slot_list_sort ⟨_,gA,rfl⟩ entry_list_sort ?body (args_list_sort _)))
 case body=>
  refine qo6 (h0:=H1) (kz:=kz) (κ:=κ) gA hlen eQ c8 (ql6 (Vl _)) (λs' k h2 Q hq=>kind s' k h2 Q _ hq) cmp λh' tk c p a1 a2 a3=>⟨_,rfl,?_⟩
  exact Vb ⟨_,rfl,h _ h' tk c p (Vl _) a1 a2 a3⟩
end
end St
namespace L2
open PySem PySem.Spec PyProof.Rows
noncomputable def ovl(F ex:Hp):Hp:=λb=>match ex b with|some o=>some o|none=>F b
theorem qb1(h:ex b=some o):ovl F ex b=some o:=by unfold ovl;rw[h]
theorem qaX(h:ex b=none):ovl F ex b=F b:=by unfold ovl;rw[h]
theorem Inv.laidF(I:Inv X O Z H s)(k: ∀b u,s.heap.get? b=some u->h'.get? b=some u)(hp: ∀b o,ex b=some o->s.heap.objs.size<=b)(new: ∀b o,ex b=some o->qaE X.prog X.w (ovl H ex) h' b o):
  Inv X O Z (ovl H ex) { s with heap:=h',toks:=t' }:=by
 have old: ∀b,b<s.heap.objs.size->ex b=none:=λb hb=>by
  cases e:ex b with
  |none=>rfl
  |some o=>exact absurd (hp b o e) (by exact Nat.not_le_of_lt hb)
 have bV: ∀b o,H b=some o->ovl H ex b=some o:=λb o e=>by rw[qaX (old b (I.hok b o e).lt)];exact e
 refine I.step (ch:=[]) (λ_ z=>nomatch z) (λb o _ _ _ e n=>k b o e) (λb o _ _ _ e n=>⟨o.slots,k b o e⟩) (λb o _ e n=>by rw[qaX (old b (Heap.lt_size e))];exact n)
  (λb o _ e=>⟨o,k b o e⟩) (λb xs e=>bV b _ e) (λb o u e=>bV b _ e) (λb qs e=>⟨#[],by rw[bV b _ e];simp⟩) (λm hm=>hm.keeps k) (λb u e=> ?_) I.bare
 cases z:ex b with
 |some o=>rw[qb1 z] at e;grind
 |none=>rw[qaX z] at e;exact(I.hok b u e).stay (λc v _ q=>k c v q) (λc q=>bV c _ q) λc xs q=>bV c _ q
theorem is_kV(h:(qar P w).is k u=true):RelV (kV k) u:=by
 cases k with
 |inl i=>
  cases u with
  |int j t=>
   have:=by simpa [qar,keyIs,Value.isInt] using h
   subst this;exact⟨t,rfl⟩
  |_=>simp[qar,keyIs,Value.isInt] at h
 |inr x=>
  cases u with
  |str j t=>
   have:=by simpa [qar,keyIs,Value.isStrOf] using h
   subst this;exact⟨t,rfl⟩
  |_=>simp[qar,keyIs,Value.isStrOf] at h
theorem qif(ho:s.heap.get? a=some o)(hx:o.ExactDict)(hs:(a==sysModules)=false)(h:Q (.ref s.heap.objs.size) { s with heap:=s.heap.push { cls:=.type "dict_items",data:=.fields #[.ref a] } }):wpAny (model prog w) A (call (.builtin "dict.items") [.ref a]) Q E s:=by
 refine wpAny_call_entry F.slot_dict_items ⟨o,ho,hx.1⟩ F.entry_dict_items ?_ (F.args_dict_items_1 _);unfold Builtin.«dict.items» Builtin.Dict.noArgs;have ty:s.TypeIs (.ref a) "dict" :=⟨o,ho,hx.1⟩
 repeat (any_goals(first|assumption|wp_step))
 rw[hx.1,if_neg (by decide)];refine Vb ?_;show wpAny _ _ (Builtin.Dict.nameIsSure "items" _ false>>=λ_=>(selfOnly _ _>>=λx=>Builtin.Dict.addrOf x)) _ _ _;have e1:Builtin.Dict.nameIsSure "items" { pos:=[Value.ref a] } false=pure ():=rfl;rw[e1];refine Va (Vb ?_);refine Va (m:=selfOnly _ _) (Vb ?_);refine Vb (?_);have e2:Builtin.Dict.showsAll a=pure ():=by unfold Builtin.Dict.showsAll;rw[if_neg (by rw[hs];decide)]
 rw[e2];refine Va (Vb ?_);refine Va (wpAny_newObj_type ?_);exact Vb ⟨_,rfl,h⟩
theorem KV.get(r:KV us vs): ∀{j:Nat}{k:Key}{x:Value},vs[j]? =some (k,x)->∃v,us[j]? =some (k,v)/\RelV v x:=by
 induction r with
 |nil=>simp
 |cons h t ih=>
  intro j k x e;cases j with
  |zero=>
   rename_i p q _ _;simp at e;obtain⟨p1,p2⟩:=p
   simp_all
  |succ j=>
   simp_all
theorem qhl{α:Type}: ∀{as:List Addr}{us:List α}{j:Nat}{a:Addr}{u:α},as.Pairwise (λx y=>x<y)->as[j]? =some a->us[j]? =some u->(as.zip us).find? (λq=>q.1==a)=some (a,u)
 |[],_,_,_,_,_,e,_=>by simp at e
 |_::_,[],_,_,_,_,_,e=>by simp at e
 |b::as,w::us,0,a,u,_,e1,e2=>by
  simp_all
 |b::as,w::us,j+1,a,u,pw,e1,e2=>by
  have pw:=List.pairwise_cons.mp pw;have bx:=pw.1 a (Vt e1);rw[List.zip_cons_cons,List.find?_cons];have:(b==a)=false:=by grind
  simp only[this];exact qhl pw.2 e1 e2
end L2
namespace PL
open PySem L2 SR SetL
end PL
namespace SetL
open PySem
noncomputable def its(mask:Nat):Nat->Nat×Nat->Nat×Nat
 |0,x=>x
 |t+1,x=>its mask t (SetTable.leap mask x.1 x.2)
end SetL
namespace PL
open PySem L2 SR SetL
end PL
namespace St
open PySem PySem.W PySem.Calls PyProof.Rows
end St
namespace PL
open PySem L2 SR SetL
end PL
namespace L2
open PySem PySem.Spec PyProof.Rows
noncomputable def qhF(Ts:List Addr)(H:Hp):Prop:=(∀T∈Ts,H T=some (.tbl #[]))/\∀b,b∉Ts->H b=none\/∃o xs,H b=some (.frz o (.lst xs))
theorem qid{K:W.Frag}{k:Nat}{aC:List (Addr×Addr)}{x:Str}{aa:Shared}{vs:List Value}{ns:List Int}(KX:K.In aa.heap)(gB:aa.heap.Ns mainGlobals mg)(hb:aa.heap.Ns builtinsNs mb)(hbb: ∀x:Str,x≠ "__name__" ->mb x=bootBuiltins x)(iq:aa.heap.NoLimit)(hg:aa.gens= #[])(ha:aa.heap.get? a=some { cls:=.type "list",data:=.seq vs.toArray })(hi:IntsAre vs ns)(hl:ns.length<=sizeLine)(hr:qa7 k callerA)(hC: ∀p∈aC,W.CodeHd aa.heap p.1 p.2)(hT: ∀T∈aC.map (·.2),aa.heap.get? T=some (W.tabObj #[]))(hKT: ∀T∈aC.map (·.2),K.lookup T=none)(iF:qfI mg aa.heap)(F: ∀base:Heap,K.In base->base.Ns mainGlobals mg->(∀p∈aC,W.CodeHd base p.1 p.2)->qfI mg base->qdh P w K mg base CX k fa fd [x] sp)(fV: ∀(s:Shared)(u:Value),BindsTo s fd ⟨[u],[]⟩ [(x,u)])(cB: ∀H:Hp,qhF (aC.map (·.2)) H->SqL K H a (ns.map V.int)->sp [.ref a] H (λv _=>v= .bl true) λ_ _ _=>False)(iN: ∀H e s',CX [] H aa (λ_ _ _=>False) e s'->False):
  codeAny (model P w) callerA (.call (.ref fa) ⟨[.ref a],[]⟩) (λr s'=>r= .ok (.ret (.bool true))/\OldK aa.heap s'.heap/\s'.os=aa.os/\AllBare s'.gens) aa:=by
 have rv:=qex hi;have hG:=hi.length
 have core: ∀H:Hp,qhF (aC.map (·.2)) H->SqL K H a (ns.map V.int)->HOk P w H aa.heap->(∀b,H b≠none->b=a\/b∈aC.map (·.2))->(H a≠none->K.lookup a=none)->
   codeAny (model P w) callerA (.call (.ref fa) ⟨[.ref a],[]⟩) (λr s'=>r= .ok (.ret (.bool true))/\OldK aa.heap s'.heap/\s'.os=aa.os/\AllBare s'.gens) aa:=by
  intro H hO hS hok hA hK;have aM: ∀{b:Addr}{o:Obj},aa.heap.get? b=some o->H b=none->(qjK aa.heap H).get? b=some o:=λe n=>ql5 e n;have other: ∀{b:Addr}{o:Obj},aa.heap.get? b=some o->(∀xs n,o.data≠.seq xs n)->(o.cls≠.none)->H b=none:=λ{b o} e d d2=>by
   cases q:H b with
   |none=>rfl
   |some u=>
    rcases hA b (by rw[q];simp) with z|z
    ·subst z;rw[ha] at e;cases e;exact absurd rfl (d _ _)
    ·rw[hT b z] at e;cases e;exact absurd rfl d2
  have cA: ∀{b:Addr}{o:Obj}{es:Array DictEntry}{ep:Nat},aa.heap.get? b=some o->o.data= .dict es ep->H b=none:=λ{b o es ep} e d=>by
   cases q:H b with
   |none=>rfl
   |some u=>
    rcases hA b (by rw[q];simp) with z|z
    ·subst z;rw[ha] at e;cases e;have d':Data.seq vs.toArray _=Data.dict es ep:=d;cases d'
    ·rw[hT b z] at e;cases e;have d':Data.fields _=Data.dict es ep:=d;cases d'
  have gv: ∀{b:Addr}{m:Str->Option Value},aa.heap.Ns b m->(qjK aa.heap H).Ns b m:=λ{b m} ⟨o,es,ep,e,d,r⟩=>⟨o,es,ep,aM e (cA e d),d,r⟩
  have jy:K.In (qjK aa.heap H):=λb o e=>aM (KX b o e) (by
   cases q:H b with
   |none=>rfl
   |some u=>
    rcases hA b (by rw[q];simp) with z|z
    ·subst z;rw[hK (by rw[q];simp)] at e;cases e
    ·rw[hKT b z] at e;cases e)
  have hM:Mod K mg (qjK aa.heap H):=⟨jy,gv gB,⟨mb,gv hb,hbb⟩,let ⟨mc,h1,h2⟩:=iq;⟨mc,gv h1,h2⟩⟩
  have hCb: ∀p∈aC,W.CodeHd (qjK aa.heap H) p.1 p.2:=λp hp=>by obtain⟨o,cn,file,tf,flags,tg,inF,text,tt,e1,e2,e3,r⟩:=hC p hp;exact⟨o,cn,file,tf,flags,tg,inF,text,tt,aM e1 (other e1 (λxs n z=>by rw[e3] at z;cases z) (λz=>by rw[e2] at z;cases z)),e2,e3,r⟩
  have hBb:qfI mg (qjK aa.heap H):=by obtain⟨bm,ob,b1,b2,b3,b4,b5,b6⟩:=iF;exact⟨bm,ob,b1,b2,aM b3 (other b3 (λxs n z=>by rw[b6] at z;cases z) (λz=>by rw[b4] at z;cases z)),b4,b5,b6⟩
  have e0:qkQ P w K mg (qjK aa.heap H) callerA [] aa H:=⟨rfl,hM,λb o e=>qoU e,Nat.le_of_eq (qjJ _ _),trivial,λb hb=>absurd (show b∈([]:List Addr) from hb) (by simp),hok,.of_eq hg⟩
  refine codeAny_mono ((F _ jy (gv gB) hCb hBb).run callerA [] aa H ⟨[.ref a],[]⟩ [.ref a] [.ref a] _ _ hr e0 (fV aa (.ref a)) (.cons rfl .nil) (cB H hO hS)) λr s' h=> ?_;cases r with
  |error e=>exact(iN H e s' h).elim
  |ok fl=>
   cases fl with
   |next|brk|cont=>exact False.elim h
   |ret u=>
    obtain⟨v,H',os,bare,un,fK,r',q⟩:=h;have q':v= .bl true:=q;subst q';obtain rfl:u=Value.bool true:=r';have old: ∀b o,b∉aC.map (·.2)->aa.heap.get? b=some o->s'.heap.get? b=some o:=λb o bA e=>by
     cases q:H b with
     |none=>exact un.keep b o e q (by intro z;exact absurd (show b∈([]:List Addr) from z) (by simp)) (by simp)
     |some u=>
      rcases hO.2 b bA with z|⟨ob,xs,z⟩
      ·rw[q] at z;cases z
      ·have z2:=un.frzs b ob _ z;obtain⟨e1,_⟩:=hok b _ z;obtain⟨e2,_⟩:=fK b _ z2;rw[e] at e1;cases e1;exact e2
    have tb: ∀T∈aC.map (·.2),∃more,s'.heap.get? T=some (W.tabObj (#[]++more)):=λT d9=>by obtain⟨more,hT'⟩:=un.tbls T _ (hO.1 T d9);exact⟨more,fK T _ hT'⟩
    refine⟨rfl,⟨λb o e=> ?_,λb o e=> ?_⟩,os,bare⟩
    ·by_cases z:b∈aC.map (·.2)
     ·obtain⟨more,iK⟩:=tb b z;rw[hT b z] at e;cases e;obtain⟨p,hp,rfl⟩:=List.mem_map.mp z;exact .inr (.inl ⟨((hC p hp).tab (hT _ z)).isCodeTable,rfl, #[],more,rfl,iK⟩)
     ·exact .inl (old b o z e)
    ·by_cases z:b∈aC.map (·.2)
     ·obtain⟨more,iK⟩:=tb b z;exact⟨_,iK⟩
     ·exact⟨o,old b o z e⟩
 have aT:a∉aC.map (·.2):=λz=>by rw[hT a z] at ha;cases ha
 cases hk:K.lookup a with
 |some o=>
  have e:=KX a o hk;rw[ha] at e;cases e;refine core (λb=>if b∈aC.map (·.2) then some (.tbl #[]) else none) ⟨λT d9=>if_pos d9,λb hb=>.inl (if_neg hb)⟩ (.inr ⟨_,vs.toArray,_,hk,rfl,rfl,rfl,by rw[List.size_toArray,hG];exact hl,by simpa using rv⟩) (λb u z=> ?_) (λb z=> ?_) λz=>absurd (if_neg aT) z
  ·by_cases hb:b∈aC.map (·.2)
   ·have z':=(if_pos hb).symm.trans z;cases z';exact hT b hb
   ·have z':=(if_neg hb).symm.trans z;cases z'
  ·by_cases hb:b∈aC.map (·.2)
   ·exact .inr hb
   ·exact absurd (if_neg hb) z
 |none=>
  refine core (λb=>if b∈aC.map (·.2) then some (.tbl #[]) else if b=a then some (.frz { cls:=.type "list",data:=.seq vs.toArray } (.lst (ns.map V.int))) else none) ⟨λT d9=>if_pos d9,λb bA=> ?_⟩ (.inl (.inr ⟨{ cls:=.type "list",data:=.seq vs.toArray },(if_neg aT).trans (if_pos rfl)⟩)) (λb u z=> ?_) (λb z=> ?_) λ_=>hk
  ·by_cases hb:b=a
   ·exact .inr ⟨_,_,(if_neg bA).trans (if_pos hb)⟩
   ·exact .inl ((if_neg bA).trans (if_neg hb))
  ·by_cases bA:b∈aC.map (·.2)
   ·have z':=(if_pos bA).symm.trans z;cases z';exact hT b bA
   ·by_cases hb:b=a
    ·have z':=((if_neg bA).trans (if_pos hb)).symm.trans z;cases z';subst hb;exact⟨ha,by rw[List.length_map];exact hl,vs,_,rv,ha⟩
    ·have z':=((if_neg bA).trans (if_neg hb)).symm.trans z;cases z'
  ·by_cases bA:b∈aC.map (·.2)
   ·exact .inr bA
   ·by_cases hb:b=a
    ·exact .inl hb
    ·exact absurd ((if_neg bA).trans (if_neg hb)) z
theorem walk_ofTs{l:W.OpenLaw}{n k:Nat}{q:Program}{loose:List Str}{XP:(Str->Option Value)->Heap->Prop}{YP:World->Heap->Prop}{d:DefRec}{K:Params->W.Frag}{CX:World->CXT}{sp:World->List (Addr×Addr)->Sp}{x:Str}{ys:List Str}(hn:l.most=some n)(gC:n<=sizeLine)(dZ:d.params.defaults=[])(hr:qa7 k callerA)(hY: ∀(w:World)(h:Heap),YP w h->(K w.params).In h)(a8: ∀y∈ys,∃dx,(recsOf q).find? (λe=>e.name==y)=some dx)(F: ∀(w:World)(mg:Str->Option Value)(fa:Addr)(h:Heap),(K w.params).In h->h.Ns mainGlobals mg->mg d.name=some (.ref fa)->
   ∃(fd:FuncData)(aC:List (Addr×Addr)),ys.map (W.tabIn (K w.params))=aC.map some/\(∀T∈aC.map (·.2),(K w.params).lookup T=none)/\(∀(s:Shared)(u:Value),BindsTo s fd ⟨[u],[]⟩ [(x,u)])/\
    (∀base:Heap,(K w.params).In base->base.Ns mainGlobals mg->(∀p∈aC,W.CodeHd base p.1 p.2)->qfI mg base->qdh l.prog w (K w.params) mg base (CX w) k fa fd [x] (sp w aC)))(cB: ∀(w:World)(aC:List (Addr×Addr))(H:Hp)(a:Addr)(ns:List Int),ns.length<=n->qhF (aC.map (·.2)) H->SqL (K w.params) H a (ns.map V.int)->sp w aC [.ref a] H (λv _=>v= .bl true) λ_ _ _=>False)(iN: ∀(w:World)(H:Hp)(s:Shared)(e:Value)(s':Shared),CX w [] H s (λ_ _ _=>False) e s'->False):
  W.WalkO q loose XP YP l.row.toRowW d [] (λf vs=>PySem.call f vs):=by
 refine Att.attach_call hn dZ λw s₀ aa mg mb fa o pm cd doc a vs ns G Y ho hd aI ip dI hints hlen hg=> ?_;have KX:=hY w _ Y;obtain⟨fd,aC,ht,hkt,hb,hF⟩:=F w mg fa _ KX G.T.g ip;have each: ∀p∈aC,W.CodeHd _ p.1 p.2/\aa.heap.get? p.2=some _:=λp hp=>by
  have hm:some p∈ys.map (W.tabIn (K w.params)):=by grind
  obtain⟨y,hy,ey⟩:=List.mem_map.mp hm;obtain⟨dx,gF⟩:=a8 y hy;exact W.tab_of G.T KX gF ey
 have hC:=λp hp=>(each p hp).1;have hT: ∀T∈aC.map (·.2),aa.heap.get? T=some _:=λT d9=>by obtain⟨p,hp,rfl⟩:=List.mem_map.mp d9;exact(each p hp).2
 exact qid KX G.T.g G.T.b G.T.builtins G.T.nolimit hg dI hints (Vp hlen gC) hr hC hT hkt G.T.bmain hF hb (λH hO hS=>cB w aC H a ns hlen hO hS) λH e s'=>iN w H _ e s'
end L2
namespace PL
open PySem L2 SR SetL
theorem len1{α:Type}: ∀{us:List α},us.length=1->∃a,us=[a]
 |[a],_=>⟨a,rfl⟩
theorem nodup_fst{β:Type}: ∀{l:List (Addr×β)},(l.map (·.1)).Nodup->∀{a b:Addr×β},a∈l->b∈l->a.1=b.1->a=b
 |[],_,_,_,h,_,_=>by cases h
 |x::l,nd,a,b,ha,hb,e=>by
  rw[List.map_cons,List.nodup_cons] at nd
  rcases List.mem_cons.mp ha with rfl|jv
  ·grind
  ·rcases List.mem_cons.mp hb with rfl|aU
   ·exact absurd (by rw[<-e];exact List.mem_map.mpr ⟨a,jv,rfl⟩) nd.1
   ·exact nodup_fst nd.2 jv aU e
theorem boot_any':bootBuiltins "any" =some (.builtin "any"):=by decide+kernel
end PL
namespace PySem
section
theorem qe4:typeLookup (.type "list") "keys" =pure none:=by kernel_rfl
theorem qcT:typeLookup (.type "list") "__getattr__" =pure none:=by kernel_rfl
theorem qiJ:isSubtype (.type "AttributeError") (.type "AttributeError")=pure true:=rfl
noncomputable def qwk(h:Heap)(g:Array GenState)(d:Drawn)(os:OsState)(E:Value->Shared->Prop):Prop:= ∀(e:Addr)(h':Heap)(t':Nat),(∀b u,h.get? b=some u->h'.get? b=some u)->(∃o,h'.get? e=some o/\o.cls= .type "AttributeError")->E (.ref e) ⟨h',g,d,t',os⟩
theorem qjx{prog:Program}{w:World}{A:Around}{E:Value->Shared->Prop}{h:Heap}{g:Array GenState}{d:Drawn}{t:Nat}{os:OsState}{a:Addr}{items:Array Value}{c:Nat}{tk:Tok}{Q:Fin->Shared->Prop}(hh:A.handled=none)(hx:h.get? a=some { cls:=.type "list",dict:=none,data:=.seq items c,slots:= #[] })(hE:qwk h g d os E):
  wpAny (model prog w) A (Builtin.«object.__getattribute__» ⟨[.ref a,.str "keys" tk],[]⟩) Q E ⟨h,g,d,t,os⟩:=by
 have hT:(⟨h,g,d,t,os⟩:Shared).TypeIs (.ref a) "list" :=⟨_,hx,rfl⟩
 have f4:=qe4
 repeat (any_goals(first|assumption|wp_step))
 have em:(Str.ofString (toString "'" ++toString ((Manifest.find? "list").elim "list" λx=>x.tpName)++toString "' object has no attribute '")++Str.ofString "keys" ++Str.ofString "'").length<=sizeLine:=by
  have:(Manifest.find? "list").elim "list" (λx=>x.tpName)= "list" :=by decide+kernel
  rw[this]
  decide+kernel
 generalize (Str.ofString (toString "'" ++toString ((Manifest.find? "list").elim "list" λx=>x.tpName)++toString "' object has no attribute '")++Str.ofString "keys" ++Str.ofString "'")=msg at em⊢;unfold raiseAttrError;simp only[newExc,newTuple]
 repeat (any_goals(first|assumption|wp_step))
 have eo:ownMembersOf (Value.type "AttributeError") [Value.str msg t]= #[unsetMember,unsetMember]:=rfl;have ei:((Manifest.find? "AttributeError").elim false λt=>t.mro.contains "StopIteration" ||t.mro.contains "SystemExit")=false:=by decide+kernel
 rw[eo,ei];refine wpAny_of_eq qiJ ?_
 repeat (any_goals(first|assumption|wp_step))
 unfold raiseNew;refine Va (wpAny_handled ?_);rw[hh];refine Va (Vb (wpAny_throw ?_));refine hE _ _ _ (λb u q=> ?_) ⟨_,Heap.get?_update_self _ (Vh _ rfl) rfl,rfl⟩;have q1:=Vg { cls:=Value.type "tuple",data:=Data.seq #[Value.str msg t] } q;rw[Heap.get?_update_other _ _ (Nat.ne_of_gt (Heap.lt_size q1))];exact Vg _ q1
theorem qjy{prog:Program}{w:World}{A:Around}{h:Heap}{g:Array GenState}{d:Drawn}{t:Nat}{os:OsState}{a:Addr}{items:Array Value}{c:Nat}{tk:Tok}{R:Result->Shared->Prop}(hh:A.handled=none)(hx:h.get? a=some { cls:=.type "list",dict:=none,data:=.seq items c,slots:= #[] })(hE:qwk h g d os λe s=>R (.error e) s):
  codeAny (model prog w) A (.call (.builtin "list.__getattribute__") ⟨[.ref a,.str "keys" tk],[]⟩) R ⟨h,g,d,t,os⟩:=
 codeAny_call_builtin F.slot_list_getattribute.plain F.entry_list_ga (F.slot_list_getattribute.check _ _ _ _ _ _ _ _ (⟨_,hx,rfl⟩) (F.args_list_getattribute_2 _ _) (qjx hh hx hE))
theorem qpd{prog:Program}{w:World}{A:Around}{E:Value->Shared->Prop}{h:Heap}{g:Array GenState}{d:Drawn}{t:Nat}{os:OsState}{a:Addr}{items:Array Value}{c:Nat}{tk:Tok}{Q:Value->Shared->Prop}(hh:A.handled=none)(hx:h.get? a=some { cls:=.type "list",dict:=none,data:=.seq items c,slots:= #[] })(hE:qwk h g d os E):wpAny (model prog w) A (getAttrBy (.ref a) (.str "keys" tk) false) Q E ⟨h,g,d,t,os⟩:=by
 have hT:(⟨h,g,d,t,os⟩:Shared).TypeIs (.ref a) "list" :=⟨_,hx,rfl⟩
 have f2:=F.slot_list_getattribute.lookup;have f3:=F.slot_list_getattribute.bind (.ref a)
 repeat (any_goals(first|assumption|wp_step))
 refine qjy hh hx λe h' t' kp dF=> ?_;obtain⟨o,ho,hc⟩:=dF;show wpAny _ _ (getattributeRaised (Value.ref a) (Value.str (Str.ofString "keys") tk) (Value.type "list") (.ref e) none false false) _ _ _;unfold getattributeRaised;refine Va (wpAny_isInstance (b:=true) ⟨o,ho,hc⟩ qiJ ?_);rw[if_pos rfl];unfold hookBehind;refine Va (wpAny_of_eq (show(if onTheHeap (Value.type "list")=true then pure none else typeLookup (Value.type "list") "__getattr__")=pure none from qcT) ?_);exact wpAny_throw (hE e h' t' kp ⟨o,ho,hc⟩)
theorem qjw{prog:Program}{w:World}{A:Around}{E:Value->Shared->Prop}{h:Heap}{g:Array GenState}{d:Drawn}{t:Nat}{os:OsState}{a:Addr}{items:Array Value}{c:Nat}{Q:Option Value->Shared->Prop}(hh:A.handled=none)(hx:h.get? a=some { cls:=.type "list",dict:=none,data:=.seq items c,slots:= #[] })(hq: ∀h' t',(∀b u,h.get? b=some u->h'.get? b=some u)->Q none ⟨h',g,d,t',os⟩):wpAny (model prog w) A (getAttr? (.ref a) "keys") Q E ⟨h,g,d,t,os⟩:=by refine Va (wpAny_mkText ?_);refine Va (wpAny_attempt (qpd hh hx λe h' t' kp ⟨o,ho,hc⟩=> ?_));refine Va (wpAny_isInstance ⟨o,ho,hc⟩ qiJ ?_);exact Vb (hq h' t' kp)
end
section
variable{prog:Program}{w:World}{K:Type}[DecidableEq K]{knd:KeyKind prog w K}{A:Around}{E:Value->Shared->Prop}{s:Shared}
theorem qfl:entryFor table "dict.update.loop" =some Builtin.«dict.update.loop» :=entryFor_of_fast (rfl)
theorem qbY:plainId "dict.update.loop" =true:=by decide+kernel
noncomputable def qkP(knd:KeyKind prog w K)(h:Heap)(p:K×Value)(v:Value):Prop:= ∃a k,v= .ref a/\PyProof.Rows.IsTup h a #[k,p.2]/\knd.is p.1 k=true
noncomputable def qiL(kvs:List (K×Value)):List (K×Value)->List (K×Value)
 |[]=>kvs
 |p::ps=>qiL (stored kvs p.1 p.2) ps
theorem qhO(kvs:List (K×Value))(k:K)(v:Value):(stored kvs k v).length<=kvs.length+1:=by
 unfold stored
 split<;>simp
theorem qmj{h0:Heap}{D I l:Addr}{vs:List Value}{R:Result->Shared->Prop}(hh:A.in1.handled=none)(hl:h0.IsList l vs.toArray)(iL:D≠I)(hDl:D≠l)(hlI:l≠I)(jz:h0.get? I=none)(gJ:h0.get? D=none):
  ∀(ps:List (K×Value))(j:Nat)(h:Heap)(tk:Nat)(kvs:List (K×Value)),j+ps.length=vs.length->(∀i p,ps[i]? =some p->∃v,vs[j+i]? =some v/\qkP knd h0 p v)->kvs.length+ps.length<=1000->(∀b o,h0.get? b=some o->h.get? b=some o)->h.IsListIter I l j->h.DictOf knd D kvs->
   (∀h' cL,(∀b o,h0.get? b=some o->h'.get? b=some o)->h'.DictOf knd D (qiL kvs ps)->R (.ok (.ret .none)) { s with heap:=h',toks:=cL })->
   codeAny (model prog w) A (.builtin "dict.update.loop" ⟨[.ref D,.ref I,rawInt (j:Nat),.none],[]⟩) R { s with heap:=h,toks:=tk }:=by
 have W:=Walks.list (prog:=prog) (w:=w) (A:=A.in1) hh I l hlI vs.toArray;have jc: ∀h:Heap,(∀b o,h0.get? b=some o->h.get? b=some o)->h.IsList l vs.toArray:=λh k=>hl.at λo e=>k _ _ e;intro ps
 induction ps with
 |nil=>
  intro j h tk kvs hj hp hz kp hI hD fin;have dQ:j=vs.toArray.size:=by rw[List.size_toArray];simpa using hj
  refine codeAny_builtin qfl ?_;rw[Around.under_plainId qbY _];unfold Builtin.«dict.update.loop»;show wpAny _ _ (pyNext (.ref I)>>=_) _ _ _;refine Va (W.done _ _ _ (by rw[<-dQ];exact⟨hI,jc h kp⟩) λh' cL k2=> ?_);show wpAny _ _ (Builtin.Dict.addKeywords D []>>=_) _ _ _;refine Va (Vb (Vb ?_));refine fin h' cL (λb o e=>k2 b o (λz=>by rw[List.mem_singleton.mp z,jz] at e;cases e) (kp b o e)) (hD.at λo e=>k2 D o (by simpa using iL) e)
 |cons p ps ih=>
  intro j h tk kvs hj hp hz kp hI hD fin;have bx:j<vs.toArray.size:=by rw[List.size_toArray];rw[List.length_cons] at hj;lia
  refine codeAny_builtin qfl ?_;rw[Around.under_plainId qbY _];unfold Builtin.«dict.update.loop»;show wpAny _ _ (pyNext (.ref I)>>=_) _ _ _;refine Va (W.item j _ _ _ bx ⟨hI,jc h kp⟩ λv h' cL hv st k2=> ?_);have df: ∀b o,h0.get? b=some o->h'.get? b=some o:=λb o e=>k2 b o (λz=>by rw[List.mem_singleton.mp z,jz] at e;cases e) (kp b o e);have ee:h'.DictOf knd D kvs:=hD.at λo e=>k2 D o (by simpa using iL) e;obtain⟨v',ev,a,k,ea,⟨oa,ga,ca,na,da⟩,hk⟩:=hp 0 p rfl;have dw:vs[j]? =some v:=by simpa using hv
  have:v'=v:=by rw[Nat.add_zero,dw] at ev;exact(Option.some.inj ev).symm
  subst this;subst ea;dsimp only;refine Va (wpAny_holding ?_);have ty:({ s with heap:=h',toks:=cL }:Shared).TypeIs (.ref a) "tuple" :=⟨oa,df _ _ ga,ca⟩
  refine Va (wpAny_tryCatch ?_);unfold Builtin.Dict.pairItems;refine Va (wpAny_typeOf ty ?_);rw[if_pos (by decide)];refine Va (wpAny_seqItems (df _ _ ga) da (Vb ?_));show wpAny _ _ (holding [k,p.2] (dictSet D k p.2)) _ _ _;refine wpAny_holding (wpAny_dictSet_pairs (s:={ s with heap:=h',toks:=cL }) hk ee (λh2 cU sb=> ?_) (by rw[List.length_cons] at hz;have:=sizeLine_eq;lia));refine Vb ⟨plainId_quiet qbY _,?_⟩;have hI2:h2.IsListIter I l (j+1):=by obtain⟨oi,gi,ri⟩:=st.1;exact⟨oi,by rw[sb.2 I (Ne.symm iL)];exact gi,ri⟩
  have sl:=qhO kvs p.1 p.2;refine ih (j+1) h2 _ (stored kvs p.1 p.2) (by rw[List.length_cons] at hj;lia) (λi q hq=> ?_) (by rw[List.length_cons] at hz;lia) (λb o e=> ?_) hI2 cU fin
  ·obtain⟨v,e1,e2⟩:=hp (i+1) q (by simpa using hq);exact⟨v,by rw[<-e1];congr 1;lia,e2⟩
  ·rw[sb.2 b (λz=>by rw[z,gJ] at e;cases e)];exact df b o e
theorem qip{l:Addr}{vs:List Value}{c:Nat}{ps:List (K×Value)}{Q:Value->Shared->Prop}(hh:A.handled=none)(hl:s.heap.get? l=some { cls:=.type "list",dict:=none,data:=.seq vs.toArray c,slots:= #[] })(hn:ps.length=vs.length)(hz:ps.length<=1000)(hp: ∀(i:Nat)(p:K×Value),ps[i]? =some p->∃v,vs[i]? =some v/\qkP knd s.heap p v)(h: ∀h' tk,h'.DictOf knd s.heap.objs.size (qiL [] ps)->(∀b o,s.heap.get? b=some o->h'.get? b=some o)->Q (.ref s.heap.objs.size) { s with heap:=h',toks:=tk }):
  wpAny (model prog w) A (call (.type "dict") [.ref l]) Q E s:=by
 refine callType_codes (Q₁:=λobj aa=>obj= .ref s.heap.objs.size/\aa={ s with heap:=s.heap.push { cls:=.type "dict",data:=.dict #[] } }) F.kt_called_dict (F.kt_typeCall_dict_1 _) F.entry_dict_init (kt_code_dict_new _ ⟨rfl,rfl⟩) ?_;rintro obj aa ⟨rfl,rfl⟩;have dJ:(s.heap.push { cls:=.type "dict",data:=.dict #[] }).DictOf knd s.heap.objs.size []:=Heap.DictOf.new s.heap;have cD:(s.heap.push { cls:=.type "dict",data:=.dict #[] }).get? l=some { cls:=.type "list",dict:=none,data:=.seq vs.toArray c,slots:= #[] }:=Vg _ hl;have ll:=Vi hl;refine⟨dJ.typeIs,F.args_dict_init_2 _ _,?_⟩;unfold Builtin.«dict.__init__»;refine Va ?_;unfold Builtin.Dict.selfAndRest;refine Va (wpAny_notOrdered_dict dJ.typeIs ?_);show wpAny _ _ (pure (s.heap.objs.size,[Value.ref l])) _ _ _;refine Vb ?_;show wpAny _ _ (Builtin.Dict.updateFrom "dict.__init__" s.heap.objs.size (.ref l) [] .none) _ _ _;unfold Builtin.Dict.updateFrom;have tl:({ s with heap:=s.heap.push { cls:=.type "dict",data:=.dict #[] } }:Shared).TypeIs (.ref l) "list" :=⟨_,cD,rfl⟩
 refine Va (wpAny_typeOf tl ?_);rw[if_pos (by decide)];refine Va ?_;obtain⟨dH,g,d,tk,os⟩:=s;refine qjw (by exact hh) cD λh1 t1 gy=> ?_;rw[if_pos (show(none:Option Value).isNone=true from rfl)];refine Va (wpAny_rule ?_);have hl1:=gy _ _ cD;refine Va (wpAny_pyIter_list (s:=⟨h1,g,d,t1,os⟩) ⟨_,hl1,rfl,_,rfl⟩ ?_);have jB:h1.DictOf knd dH.objs.size []:=dJ.at λo e=>gy _ _ e;have lD:dH.objs.size<h1.objs.size:=by obtain⟨o,_,_,e,_⟩:=jB;exact Vi e
 have kp0: ∀b o,dH.get? b=some o->h1.get? b=some o:=λb o e=>gy b o (Vg _ e);have gn: ∀{b:Addr},dH.objs.size<=b->dH.get? b=none:=λ{b} hb=>by
  cases q:dH.get? b with
  |none=>rfl
  |some o=>exact absurd (Vi q) (Nat.not_lt.mpr hb)
 refine Vb ⟨plainId_quiet qbY _,?_⟩;refine qmj (A:=A.in1) (knd:=knd) (s:=⟨h1,g,d,t1,os⟩) (h0:=dH) (vs:=vs) (by exact hh) ⟨_,hl,rfl,_,rfl⟩ (Vn lD) (Nat.ne_of_gt ll) (Vn (Nat.lt_trans ll lD)) (gn (Vo lD)) (gn (Vl _)) ps 0 _ t1 [] (by rw[Nat.zero_add];exact hn) (λi p hi=> ?_) (by simpa using hz) (λb o e=>Vg _ (kp0 b o e)) ⟨_,Vh _ rfl,rfl,rfl⟩ (jB.push _) λh' cL k2 cU=>⟨rfl,h h' cL cU k2⟩
 obtain⟨v,e1,e2⟩:=hp i p hi;exact⟨v,by rw[Nat.zero_add];exact e1,e2⟩
end
end PySem
namespace PL
open PySem L2 SR SetL
end PL
namespace PL
open PySem L2
theorem qoV{P:Program}{w:World}{H:Hp}{h:Heap}{p:Addr}(hp:H p=some (.dK [])): ∀(o:HO)(a:Addr),qaE P w H h a o->qaE P w (upd H p (.dT [])) h a o:=by
 intro o
 induction o with
 |lst xs|tup xs|dK kvs=>exactλa h=>h
 |dT kvs=>
  intro a h;obtain⟨z,y,xs,r,qbP⟩:=h;refine⟨z,y,xs,?_,qbP⟩;clear qbP z y
  induction r with
  |nil=>exact .nil
  |cons c _ ih=>refine .cons ⟨c.1,?_,c.2.2⟩ ih;rw[qab (λz=>by rw[z,hp] at c;cases c.2.1)];exact c.2.1
 |set S n=>exactλa h=>h
 |ins C dx fs=>intro a h;obtain⟨h1,r⟩:=h;exact⟨by rw[qab (λz=>by rw[z,hp] at h1;cases h1)];exact h1,r⟩
 |own x|xd fs|rng lo hi=>exactλa h=>h
 |frz o u ih=>exactλa h=>⟨h.1,ih a h.2⟩
 |_=>exactλa h=>h
theorem Inv.asT{X:Cx}{O:List (Addr×Obj)}{Z:St}{H:Hp}{s:Shared}{p:Addr}(I:L2.Inv X O Z H s)(hp:H p=some (.dK [])):L2.Inv X O Z (upd H p (.dT [])) s:=by
 have no: ∀{b:Addr},H b=none->upd H p (.dT []) b=none:=λ{b} h=>by rw[qab (λz=>by rw[z,hp] at h;cases h)];exact h
 have same: ∀{b:Addr}{o:HO},H b=some o->o≠.dK []->upd H p (.dT []) b=some o:=λ{b o} h n=>by rw[qab (λz=>n (by rw[z,hp] at h;exact(Option.some.inj h).symm))];exact h
 refine⟨I.ok,I.os,I.bare,⟨I.base.keep,I.base.slot,λb o a h e=>no (I.base.free b o a h e),I.base.there,λb xs h=>same (I.base.tups b xs h) (by simp),λb o u h=>same (I.base.frzs b o u h) (by simp),λb ps h=> ?_⟩,I.loc,I.cell,no I.free,λx c h=>no (I.freeC x c h),λq hq=> ?_,λa o h=> ?_,I.len⟩
 ·obtain⟨more,e⟩:=I.base.tbls b ps h;exact⟨more,same e (by simp)⟩
 ·obtain⟨a,b,c⟩:=I.pin q hq;exact⟨a,no b,c⟩
 ·by_cases z:a=p
  ·subst z;rw[qaf] at h;cases h;obtain⟨z1,z2,vs,kv,d⟩:=(show qaE X.prog X.w H s.heap a (.dK []) from I.hok a _ hp)
   cases kv;obtain⟨o,es,ep,h1,h2,h3,h4,h5,h6⟩:=d;exact⟨z1,z2,[],.nil,o,es,ep,h1,h2,h3,by generalize es.toList=l at h5⊢;cases h5;rfl,List.nodup_nil⟩
  ·rw[qab z] at h;exact qoV hp o a (I.hok a o h)
open PySem.Spec PyProof.Rows SR SetL
theorem Inv.freeze{X:Cx}{O:List (Addr×Obj)}{Z:L2.St}{H:Hp}{s:Shared}{p:Addr}{us:List (Key×V)}(I:Inv X O Z H s)(e:H p=some (.dK us)): ∃o,Inv X O Z (upd H p (.frz o (.dK us))) s:=by
 obtain⟨hz,hs,vs,kv,o,es,ep,ho,hd⟩:=qmo I.hok e;have nn: ∀b,H b=none->(upd H p (.frz o (.dK us))) b=none:=λb n=>by rw[qab (λz=>by rw[z,e] at n;cases n)];exact n
 have nk: ∀b u,H b=some u->(∀ks,u≠.dK ks)->(upd H p (.frz o (.dK us))) b=some u:=λb u n d=>by rw[qab (λz=>by rw[z,e] at n;cases n;exact d us rfl)];exact n
 have st: ∀b u,qaE X.prog X.w H s.heap b u->qaE X.prog X.w (upd H p (.frz o (.dK us))) s.heap b u:=λb u q=>q.stay (λ_ _ _ q=>q) (λc q=>nk c _ q (by intro _ z;cases z)) λc xs q=>nk c _ q (by intro _ z;cases z)
 refine⟨o,⟨I.ok,I.os,I.bare,⟨I.base.keep,I.base.slot,λb ob a n hx=>nn b (I.base.free b ob a n hx),I.base.there,λb xs q=>nk b _ (I.base.tups b xs q) (by intro _ z;cases z),λb ob u q=>nk b _ (I.base.frzs b ob u q) (by intro _ z;cases z),λb ps q=> ?_⟩,
  I.loc,I.cell,nn _ I.free,λx c q=>nn _ (I.freeC x c q),λq hq=> ?_,λb u q=> ?_,I.len⟩⟩
 ·obtain⟨more,q⟩:=I.base.tbls b ps q;exact⟨more,nk b _ q (by intro _ z;cases z)⟩
 ·obtain⟨a,b,c⟩:=I.pin q hq;exact⟨a,nn _ b,c⟩
 ·by_cases z:b=p
  ·subst z;rw[qaf] at q;cases q;exact⟨ho,st _ _ (I.hok _ _ e)⟩
  ·rw[qab z] at q;exact st _ _ (I.hok b u q)
noncomputable def Itd(a:Addr)(o:Obj)(us:List (Key×V)):It:=
 ⟨λi H=>H a=some (.frz o (.dK us))/\i<us.length,λi H x H'=>H'=H/\∃k v,us[i]? =some (k,v)/\x=kV k,λi H=>H a=some (.frz o (.dK us))/\us.length<=i⟩
theorem qgf{P:Program}{w:World}{H:Hp}{h:Heap}{a:Addr}{o:Obj}{us:List (Key×V)}{es:Array DictEntry}{ep:Nat}(hok:HOk P w H h)(e:H a=some (.frz o (.dK us)))(hd:o.data= .dict es ep):
  ∃vs,KV us vs/\h.DictAt (qar P w) a vs ep/\(a==sysModules)=false/\us.length<=sizeLine:=by obtain⟨h1,hz,hs,vs,kv,o',eR,gM,h2,hx,fQ,r⟩:=hok a _ e;rw[h1] at h2;cases h2;rw[hd] at fQ;cases fQ;exact⟨vs,kv,⟨o,es,h1,hx,hd,r⟩,hs,hz⟩
theorem qiE{P:Program}{w:World}{K:W.Frag}{tg:Expr}{a it:Addr}{o:Obj}{us:List (Key×V)}{es:Array DictEntry}{ep:Nat}(hd:o.data= .dict es ep):qqs P w K tg (Itd a o us) [it] it (λi h=>h.IsKeyIter it a i us.length ep) where
 mem:=by simp
 obj:=λi h st b hb=>by
  have e:b=it:=by simpa using hb
  subst e;obtain⟨o,e,c,d⟩:=st;exact⟨o,e,λv z=>by rw[d] at z;cases z⟩
 keep:=λi h h' st k=>st.at λo e=>k it (by simp) o e
 item:=by
  intro X hP hw hK hc i O s Z H E I hf st hg;subst hP hw hK;obtain⟨ha,hi⟩:=hg;obtain⟨vs,kv,hA,_,_⟩:=qgf I.hok ha hd;have lv:=kv.length;rw[lv] at st;obtain⟨⟨k,x⟩,hx⟩: ∃p,vs[i]? =some p:=⟨vs[i]'(by omega),by simp⟩
  obtain⟨v,hu,_⟩:=kv.get hx;obtain⟨f0,f1,f2,f3,f4,f5⟩:=hf it (by simp);refine wpAny_pyNext_dict_item st hA hx λkey h' hk aN sb=> ?_;have I1:Inv X O Z H { s with heap:=h' }:=I.turned (t':=s.toks) (λb o hb e=>(sb.2 b hb).trans e) f0 f1 f3 f4 f5;obtain⟨o',e,c,d⟩:=id aN;rw[<-lv] at aN;exact⟨key,rfl,qjN (s:={ s with heap:=h' }) e c d (by decide) ⟨kV k,H,I1,is_kV hk,⟨rfl,k,v,hu,rfl⟩,aN,λb hb=>(hf b hb).1⟩⟩
 done:=by intro X hP hw hK hc i O s Z H E I hf st hg;subst hP hw hK;obtain⟨ha,hi⟩:=hg;obtain⟨vs,kv,hA,_,_⟩:=qgf I.hok ha hd;have lv:=kv.length;rw[lv] at st;obtain⟨f0,f1,f2,f3,f4,f5⟩:=hf it (by simp);exact wpAny_pyNext_dict_end (I.ok.hd hc) st hA (by simp;omega) λh' eb=>⟨rfl,I.turned (t':=s.toks) (λb o hb e=>eb b o hb e) f0 f1 f3 f4 f5⟩
 self:=λ_ _ _ _ _ st h=>wpAny_pyIter_keyiter st h
noncomputable def qxO(tl:TE):TI:=λZ H R=>tl Z H λx H1=> ∃a o us,x= .ref a/\H1 a=some (.frz o (.dK us))/\(us.length<=sizeLine->R (Itd a o us) H1)
section
variable{X:Cx}{tg e l:Expr}{tl:TE}
theorem pi_dict(hl:PE X l tl):PI X tg l (qxO tl):=by
 intro O s Z H R I h;refine thn (hl O s Z H _ I h) λv s1 hq=> ?_;obtain⟨x,H1,I1,r1,a,o,us,e,ha,q⟩:=hq;subst e;cases r1;obtain⟨h1,hz,hs,vs0,kv0,o',es,ep,h2,hx,hd,_⟩:=I1.hok a _ ha;rw[h1] at h2;cases h2;obtain⟨vs,kv,hA,_,_⟩:=qgf I1.hok ha hd;refine wpAny_pyIter_dict hs hA ?_;have lv:=kv.length;refine⟨s1.heap.objs.size,[s1.heap.objs.size],_,_,H1,rfl,I1.kept (t':=s1.toks) λb o e=>Vg _ e,qiE hd,⟨_,Vh _ rfl,rfl,by rw[lv];rfl⟩,λb hb=> ?_,q hz⟩;have e:b=s1.heap.objs.size:=by simpa using hb
 subst e;exact I1.fpOk (Vl _) (I1.hok.fresh (Vl _))
end
end PL
namespace NV
open PySem L2
structure Gam where
 P:Hp->Prop
 st: ∀H H':Hp,(∀a o,H a=some o->(∀xs,o≠.lst xs)->(∀xs,o≠.dK xs)->(∀xs,o≠.dT xs)->(∀C dx fs,o≠.ins C dx fs)->H' a=some o)->P H->P H'
structure Md where
 K:W.Frag
 G:Gam
noncomputable def qew(K:W.Frag)(B:qaD):Ct->HO->Prop
 |.ls ts,o=> ∃vs,o= .lst vs/\Reps K B ts vs
 |.dk kvs,o=> ∃us,o= .dK us/\qaV K B kvs us
 |.du kvs,o=> ∃us,o= .dT us/\qaV K B kvs us
 |.ins c fs,o=> ∃dx vs,o= .ins (clA K c) dx vs/\qaV K B fs vs
 |.gone,_=>True
theorem qew.mono(h:qew K B c o)(le:Le B B'):qew K B' c o:=by
 cases c with
 |ls ts|dk ts|du ts=>obtain⟨vs,e,r⟩:=h;exact⟨vs,e,r.mono le⟩
 |ins c ts=>obtain⟨dx,vs,e,r⟩:=h;exact⟨dx,vs,e,r.mono le⟩
 |gone=>trivial
noncomputable def Mb(o:HO):Prop:=(∃xs,o= .lst xs)\/(∃xs,o= .dK xs)\/(∃xs,o= .dT xs)\/∃C dx fs,o= .ins C dx fs
theorem qew.mb(h:qew K B c o)(n:c≠.gone):Mb o:=by
 cases c with
 |ls ts=>obtain⟨vs,e,r⟩:=h;exact .inl ⟨_,e⟩
 |dk ts=>obtain⟨vs,e,r⟩:=h;exact .inr (.inl ⟨_,e⟩)
 |du ts=>obtain⟨vs,e,r⟩:=h;exact .inr (.inr (.inl ⟨_,e⟩))
 |ins c ts=>obtain⟨dx,vs,e,r⟩:=h;exact .inr (.inr (.inr ⟨_,_,_,e⟩))
 |gone=>exact absurd rfl n
structure Hs(M:Md)(U:Mu)(H:Hp)(B:qaD):Prop where
 bh: ∀a o,B a=some o->H a=some o
 bt: ∀a ps,B a≠some (.tbl ps)
 gm:M.G.P H
 st: ∀k c,U.l[k]? =some c->c≠.gone->∃a o,B.ad k=some a/\B a=none/\H a=some o/\qew M.K B c o
 ij: ∀j k a,B.ad j=some a->B.ad k=some a->j=k
 dm: ∀k a,B.ad k=some a->k<U.l.length/\H a≠none
 lk: ∀k c,U.l[k]? =some c->ubC c<=k\/∃p∈U.k,p.1=k/\ubC c<=p.2
 ln: ∀p∈U.k,p.2<=U.l.length
noncomputable def qaD.upd(B:qaD)(p:Addr)(o:HO):qaD:=⟨L2.upd B.hp p o,B.ad⟩
noncomputable def qaD.add(B:qaD)(k:Nat)(p:Addr):qaD:=⟨B.hp,λj=>if j=k then some p else B.ad j⟩
section
theorem Hs.fr(h:Hs M U H B)(hp:H p=none):B p=none:=by
 cases e:B p with
 |none=>rfl
 |some u=>rw[h.bh _ _ e] at hp;cases hp
theorem Hs.upd_le(h:Hs M U H B)(hp:B p=none):Le B (B.upd p o):=⟨λa u e=>by show L2.upd _ p o a=_;rw[qab (qak e hp)];exact e,λ_ _ e=>e⟩
theorem qns{M:Md}(h:M.G.P H)(hp:H p=none):M.G.P (L2.upd H p o):=M.G.st H _ (λa u e _ _ _ _=>by rw[qab (qak e hp)];exact e) h
theorem Hs.more(h:Hs M U H B)(k: ∀a o,H a=some o->H' a=some o):Hs M U H' B:=
 ⟨λa o e=>k a o (h.bh a o e),h.bt,M.G.st H H' (λa o e _ _ _ _=>k a o e) h.gm,λj c e n=>by
  obtain⟨a,o,e1,e2,e3,e4⟩:=h.st j c e n
  simp_all,h.ij,λj a e=>⟨(h.dm j a e).1,λz=>by
  cases q:H a with
  |none=>exact(h.dm j a e).2 q
  |some u=>grind⟩,h.lk,h.ln⟩
theorem Hs.new{B:qaD}(h:Hs M U H B)(hp:H p=none)(ho: ∀ps,o≠.tbl ps):Hs M U (L2.upd H p o) (B.upd p o):=by
 have bp:=h.fr hp;have le:=h.upd_le (o:=o) bp;refine⟨λa u e=> ?_,λa ps e=> ?_,qns h.gm hp,λj c e n=> ?_,h.ij,λj a e=>⟨(h.dm j a e).1,?_⟩,h.lk,h.ln⟩
 ·have e:L2.upd _ p o a=some u:=e;by_cases q:a=p
  ·subst q;rw[qaf] at e⊢;exact e
  ·rw[qab q] at e⊢;exact h.bh _ _ e
 ·have e:L2.upd _ p o a=some _:=e;by_cases q:a=p
  ·subst q;rw[qaf] at e;grind
  ·rw[qab q] at e;exact h.bt a ps e
 ·obtain⟨a,u,e1,e2,e3,e4⟩:=h.st j c e n;have ne:=qak e3 hp;exact⟨a,u,e1,by show L2.upd _ p o a=_;rw[qab ne];exact e2,by rw[qab ne];exact e3,e4.mono le⟩
 ·have:=(h.dm j a e).2;rw[qab (λz=>this (by rw[z];exact hp))];exact this
theorem qew.ub(h:qew K B c o)(hd: ∀k a,B.ad k=some a->k<n):ubC c<=n:=by
 cases c with
 |ls ts|dk ts|du ts=>obtain⟨vs,e,r⟩:=h;exact r.ub hd
 |ins c ts=>obtain⟨dx,vs,e,r⟩:=h;exact r.ub hd
 |gone=>exact Nat.zero_le _
theorem qew.cut(h:qew K B c o)(hu:ubC c<=n):qew K (B.cut n) c o:=by
 cases c with
 |ls ts|dk ts|du ts=>obtain⟨vs,e,r⟩:=h;exact⟨vs,e,r.cut hu⟩
 |ins c ts=>obtain⟨dx,vs,e,r⟩:=h;exact⟨dx,vs,e,r.cut hu⟩
 |gone=>trivial
theorem Hs.own{M:Md}{U:Mu}{B:qaD}(h:Hs M U H B)(hp:H p=none)(hc:qew M.K (B.add U.l.length p) c o):Hs M (U.add c) (L2.upd H p o) (B.add U.l.length p)/\Le B (B.add U.l.length p):=by
 have le:Le B (B.add U.l.length p):=⟨λ_ _ e=>e,λj a e=>by
  show(if j=U.l.length then some p else B.ad j)=_;rw[if_neg (Nat.ne_of_lt (h.dm j a e).1)];exact e⟩
 have i8: ∀j,B.ad j≠some p:=λj e=>(h.dm j p e).2 hp;have ad: ∀{j a},(B.add U.l.length p).ad j=some a->(j=U.l.length/\a=p)\/(B.ad j=some a/\j<U.l.length):=λ{j a} e=>by
  have e:(if j=U.l.length then some p else B.ad j)=some a:=e;split at e
  ·rename_i q;cases e;exact .inl ⟨q,rfl⟩
  ·exact .inr ⟨e,(h.dm j a e).1⟩
 have hd: ∀j a,(B.add U.l.length p).ad j=some a->j<U.l.length+1:=λj a e=>by rcases ad e with⟨z,_⟩|⟨_,z⟩<;>omega
 have uc:=hc.ub hd;have ga: ∀{j:Nat}{d:Ct},(U.l++[c])[j]? =some d->(j<U.l.length/\U.l[j]? =some d)\/(j=U.l.length/\d=c):=λ{j d} e=>by
  by_cases q:j<U.l.length
  ·rw[List.getElem?_append_left q] at e;exact .inl ⟨q,e⟩
  ·rw[List.getElem?_append_right (by omega)] at e;have:=(List.getElem?_eq_some_iff.mp e).1;have q':j=U.l.length:=by simp at this;omega
   subst q';simp at e;exact .inr ⟨rfl,e.symm⟩
 refine⟨⟨λa u e=> ?_,h.bt,qns h.gm hp,λj d e n=> ?_,λi j a e1 e2=> ?_,λj a e=> ?_,λj d e=> ?_,λq hq=> ?_⟩,le⟩
 ·rw[qab (qak (h.bh a u e) hp)];exact h.bh a u e
 ·rcases ga e with⟨q,e⟩|⟨rfl,rfl⟩
  ·obtain⟨a,u,e1,e2,e3,e4⟩:=h.st j d e n;exact⟨a,u,le.d _ _ e1,e2,by rw[qab (qak e3 hp)];exact e3,e4.mono le⟩
  ·exact⟨p,o,by show(if U.l.length=U.l.length then some p else _)=_;rw[if_pos rfl],h.fr hp,qaf,hc⟩
 ·rcases ad e1 with⟨rfl,rfl⟩|⟨e1,l1⟩
  ·rcases ad e2 with⟨rfl,_⟩|⟨e2,l2⟩
   ·rfl
   ·exact absurd e2 (i8 j)
  ·rcases ad e2 with⟨_,z⟩|⟨e2,l2⟩
   ·rw[z] at e1;exact absurd e1 (i8 i)
   ·exact h.ij i j a e1 e2
 ·show j<(U.l++[c]).length/\_;rw[List.length_append,List.length_singleton]
  rcases ad e with⟨z1,z⟩|⟨e,l⟩
  ·rw[z];exact⟨by omega,by rw[qaf];simp⟩
  ·have:=(h.dm j a e).2;exact⟨by omega,by rw[qab (λz=>this (by rw[z];exact hp))];exact this⟩
 ·show ubC d<=j\/∃q∈(if ubC c<=U.l.length then U.k else(U.l.length,ubC c)::U.k),_
  rcases ga e with⟨q,e⟩|⟨rfl,rfl⟩
  ·rcases h.lk j d e with z|⟨q,hq,z⟩
   ·exact .inl z
   ·exact .inr ⟨q,by split<;>simp[hq],z⟩
  ·split
   ·rename_i z;exact .inl z
   ·exact .inr ⟨_,Vj,rfl,Vl _⟩
 ·have hq:q∈(if ubC c<=U.l.length then U.k else(U.l.length,ubC c)::U.k):=hq;show q.2<=(U.l++[c]).length;rw[List.length_append,List.length_singleton];split at hq
  ·exact Nat.le_succ_of_le (h.ln q hq)
  ·rcases List.mem_cons.mp hq with rfl|hq
   ·exact uc
   ·exact Nat.le_succ_of_le (h.ln q hq)
theorem Hs.at(h:Hs M U H B)(e:U.l[k]? =some c)(n:c≠.gone)(ha:B.ad k=some a): ∃o,B a=none/\H a=some o/\qew M.K B c o:=by
 obtain⟨a',o,e1,e2,e3,e4⟩:=h.st k c e n
 simp_all
theorem Hs.put(h:Hs M U H B)(e:U.l[k]? =some c)(n:c≠.gone)(ha:B.ad k=some a)(hc:qew M.K B c' o):Hs M (U.put k c') (L2.upd H a o) B:=by
 obtain⟨u,b0,hu,cu⟩:=h.at e n ha;have mb:=cu.mb n;have hk:k<U.l.length:=(List.getElem?_eq_some_iff.mp e).1;have uc:=hc.ub λj a e=>(h.dm j a e).1;have ga: ∀{j:Nat}{d:Ct},(U.l.set k c')[j]? =some d->(k≠j/\U.l[j]? =some d)\/(k=j/\d=c'):=λ{j d} e=>by
  rw[List.getElem?_set] at e;split at e
  ·rename_i q
   (try rw[if_pos hk] at e);cases e;exact .inr ⟨q,rfl⟩
  ·rename_i q;exact .inl ⟨q,e⟩
 refine⟨λb v z=> ?_,h.bt,M.G.st H _ (λb v z n1 n2 n3 n4=> ?_) h.gm,λj d ej nj=> ?_,h.ij,λj b z=> ?_,λj d ej=> ?_,λq hq=> ?_⟩
 ·rw[qab (λq=>by rw[q,b0] at z;cases z)];exact h.bh b v z
 ·refine(qab λq=> ?_).trans z;rw[q,hu] at z;cases z
  rcases mb with⟨_,rfl⟩|⟨_,rfl⟩|⟨_,rfl⟩|⟨_,_,_,rfl⟩
  ·exact n1 _ rfl
  ·exact n2 _ rfl
  ·exact n3 _ rfl
  ·exact n4 _ _ _ rfl
 ·rcases ga ej with⟨q,ej⟩|⟨rfl,rfl⟩
  ·obtain⟨b,v,e1,e2,e3,e4⟩:=h.st j d ej nj;exact⟨b,v,e1,e2,by rw[qab (λz=>q (h.ij k j a ha (by rw[<-z];exact e1)))];exact e3,e4⟩
  ·exact⟨a,o,ha,b0,qaf,hc⟩
 ·show j<(U.l.set k c').length/\_;rw[List.length_set];refine⟨(h.dm j b z).1,?_⟩;by_cases q:b=a
  ·rw[q,qaf];simp
  ·rw[qab q];exact(h.dm j b z).2
 ·show ubC d<=j\/∃q∈(if ubC c'<=k then U.k else(k,ubC c')::U.k),_
  rcases ga ej with⟨_,ej⟩|⟨rfl,rfl⟩
  ·rcases h.lk j d ej with z|⟨q,hq,z⟩
   ·exact .inl z
   ·exact .inr ⟨q,by split<;>simp[hq],z⟩
  ·split
   ·rename_i z;exact .inl z
   ·exact .inr ⟨_,Vj,rfl,Vl _⟩
 ·have hq:q∈(if ubC c'<=k then U.k else(k,ubC c')::U.k):=hq;show q.2<=(U.l.set k c').length;rw[List.length_set];split at hq
  ·exact h.ln q hq
  ·rcases List.mem_cons.mp hq with rfl|hq
   ·exact uc
   ·exact h.ln q hq
theorem Hs.cut(h:Hs M U H B)(ks:List (Nat×Nat))(hn: ∀q∈U.k,n<=q.1\/(q∈ks/\q.2<=n))(hk: ∀q∈ks,q.2<=n)(hl:n<=U.l.length):Hs M ⟨U.l.take n,ks⟩ H (B.cut n):=by
 have ad: ∀{j a},(B.cut n).ad j=some a->j<n/\B.ad j=some a:=λ{j a} e=>by
  have e:(if j<n then B.ad j else none)=some a:=e;split at e
  ·rename_i q;exact⟨q,e⟩
  ·cases e
 have ga: ∀{j:Nat}{d:Ct},(U.l.take n)[j]? =some d->j<n/\U.l[j]? =some d:=λ{j d} e=>by
  rw[List.getElem?_take] at e;split at e
  ·rename_i q;exact⟨q,e⟩
  ·cases e
 have uu: ∀{j:Nat}{d:Ct},j<n->U.l[j]? =some d->ubC d<=n:=λ{j d} hj e=>by
  rcases h.lk j d e with z|⟨q,hq,z1,z2⟩
  ·omega
  grind
 refine⟨h.bh,h.bt,h.gm,λj d e nj=> ?_,λi j a e1 e2=>h.ij i j a (ad e1).2 (ad e2).2,λj a e=> ?_,λj d e=> ?_,λq hq=> ?_⟩
 ·obtain⟨hj,e⟩:=ga e;obtain⟨a,u,e1,e2,e3,e4⟩:=h.st j d e nj;exact⟨a,u,by show(if j<n then B.ad j else none)=_;rw[if_pos hj];exact e1,e2,e3,e4.cut (uu hj e)⟩
 ·obtain⟨hj,e⟩:=ad e;exact⟨by show j<(U.l.take n).length;rw[List.length_take];omega,(h.dm j a e).2⟩
 ·obtain⟨hj,e⟩:=ga e
  rcases h.lk j d e with z|⟨q,hq,z1,z2⟩
  ·exact .inl z
  ·rcases hn q hq with y|⟨y,_⟩
   ·omega
   ·exact .inr ⟨q,y,z1,z2⟩
 grind
end
structure Go(H:Hp)(B:qaD)(H':Hp)(B':qaD):Prop where
 le:Le B B'
 un: ∀a o,H a=some o->(∀k,B.ad k≠some a)->(∀ps,o≠.tbl ps)->H' a=some o
 nw: ∀k a,B'.ad k=some a->B.ad k=some a\/H a=none
 dm: ∀a,H a≠none->H' a≠none
 nb: ∀a o,H a=some o->(∀k,B.ad k≠some a)->(∀vs,o≠.tup vs)->(∀ps,o≠.tbl ps)->B' a=B a
theorem Go.refl:Go H B H B:=⟨.refl _,λ_ _ e _ _=>e,λ_ _ e=>.inl e,λ_ e=>e,λ_ _ _ _ _ _=>rfl⟩
theorem Go.off(g:Go H B H1 B1)(e:H a≠none)(n: ∀k,B.ad k≠some a): ∀k,B1.ad k≠some a:=λk z=>by
 rcases g.nw k a z with q|q
 ·exact n k q
 ·exact e q
theorem Go.trans(g:Go H B H1 B1)(g':Go H1 B1 H2 B2):Go H B H2 B2:=
 ⟨g.le.trans g'.le,λa o e n t=>g'.un a o (g.un a o e n t) (g.off (by rw[e];simp) n) t,λk a z=>by
  rcases g'.nw k a z with q|q
  ·exact g.nw k a q
  ·exact .inr (by
   cases y:H a with
   |none=>rfl
   |some o=>exact absurd q (g.dm a (by rw[y];simp))),λa e=>g'.dm a (g.dm a e),
  λa o e n t1 t2=>(g'.nb a o (g.un a o e n t2) (g.off (by rw[e];simp) n) t1 t2).trans (g.nb a o e n t1 t2)⟩
section
theorem Go.more(k: ∀a o,H a=some o->H' a=some o):Go H B H' B:=by
 refine⟨.refl _,λa o e _ _=>k a o e,λ_ _ e=>.inl e,λa e z=> ?_,λ_ _ _ _ _ _=>rfl⟩;cases y:H a with
 |none=>exact e y
 |some o=>grind
theorem Hs.gnew(h:Hs M U H B)(hp:H p=none):Go H B (L2.upd H p o) (B.upd p o):=
 ⟨h.upd_le (h.fr hp),λa u e _ _=>by rw[qab (qak e hp)];exact e,λ_ _ e=>.inl e,λa e z=>by
  by_cases q:a=p
  ·subst q;exact e hp
  ·rw[qab q] at z;exact e z,λa u e _ _ _=>by show L2.upd _ p o a=_;rw[qab (qak e hp)]⟩
theorem Hs.gown(h:Hs M U H B)(hp:H p=none):Go H B (L2.upd H p o) (B.add U.l.length p):=
 ⟨(h.own (c:=.gone) (o:=o) hp trivial).2,λa u e _ _=>by rw[qab (qak e hp)];exact e,λj a e=>by
  have e:(if j=U.l.length then some p else B.ad j)=some a:=e
  grind,λa e z=>by
  by_cases q:a=p
  ·subst q;exact e hp
  ·rw[qab q] at z;exact e z,λ_ _ _ _ _ _=>rfl⟩
theorem qsx(ha:B.ad k=some a):Go H B (L2.upd H a o) B:=
 ⟨.refl _,λb u e n _=>by rw[qab (λz=>n k (by rw[z];exact ha))];exact e,λ_ _ e=>.inl e,λb e z=>by
  by_cases q:b=a
  ·rw[q,qaf] at z;cases z
  ·rw[qab q] at z;exact e z,λ_ _ _ _ _ _=>rfl⟩
noncomputable def hid(D:Addr)(H:Hp):Hp:=λa=>if a=D then none else H a
theorem qcn(h:a≠D):hid D H a=H a:=if_neg h
theorem qfe:hid D H D=none:=if_pos rfl
theorem qjI(h:hid D H a=some o):H a=some o/\a≠D:=by
 unfold hid at h
 grind
theorem Go.hid(g:Go H B H' B'):Go (hid D H) B (NV.hid D H') B':=
 ⟨g.le,λa o e n t=>by obtain⟨e,q⟩:=qjI e;rw[qcn q];exact g.un a o e n t,λk a z=>(g.nw k a z).imp id λz=>by unfold NV.hid;grind,
  λa e=>by
   by_cases q:a=D
   ·rw[q,qfe] at e;exact absurd rfl e
   ·rw[qcn q] at e⊢;exact g.dm a e,λa o e n t1 t2=>g.nb a o (qjI e).1 n t1 t2⟩
theorem Hs.loose(h:Hs M U H B)(hb:B D=none)(hn: ∀k,B.ad k≠some D)(ho: ∀a,a≠D->H' a=H a)(hm: ∀u,H D=some u->Mb u):Hs M U H' B:=
 ⟨λa o e=>by rw[ho a (λz=>by grind)];exact h.bh a o e,h.bt,M.G.st H H' (λa o e n1 n2 n3 n4=>by
  rw[ho a (λz=>by
   rw[z] at e
   rcases hm o e with⟨_,rfl⟩|⟨_,rfl⟩|⟨_,rfl⟩|⟨_,_,_,rfl⟩
   ·exact n1 _ rfl
   ·exact n2 _ rfl
   ·exact n3 _ rfl
   ·exact n4 _ _ _ rfl)];exact e) h.gm,λj c e n=>by
  obtain⟨a,o,e1,e2,e3,e4⟩:=h.st j c e n;exact⟨a,o,e1,e2,by grind,e4⟩,h.ij,λj a e=>⟨(h.dm j a e).1,by rw[ho a (λz=>hn j (by rw[<-z];exact e))];exact(h.dm j a e).2⟩,h.lk,h.ln⟩
end
abbrev Ro:=List (Option T)
structure Ev(M:Md)(ρ:Ro)(U:Mu)(Z:St)(H:Hp)(B:qaD):Prop where
 hs:Hs M U H B
 len:ρ.length=Z.length
 sl: ∀(i:Nat)(t:T),ρ[i]? =some (some t)->∃v,Z[i]? =some (some v)/\Rep M.K B t v
section
theorem Ev.on(v:Ev M ρ U Z H B)(h:Hs M μ' H' B')(le:Le B B'):Ev M ρ μ' Z H' B':=
 ⟨h,v.len,λi t e=>by obtain⟨x,a,b⟩:=v.sl i t e;exact⟨x,a,b.mono le⟩⟩
theorem Ev.set(v:Ev M ρ U Z H B)(r:Rep M.K B t x):Ev M (ρ.set i (some t)) U (Z.set i (some x)) H B:=by
 refine⟨v.hs,by simp[v.len],λj u e=> ?_⟩;rw[List.getElem?_set] at e⊢;split at e
 ·rename_i q;split at e
  ·rename_i l;cases e;rw[if_pos q,if_pos (v.len▸l)];exact⟨x,rfl,r⟩
  ·cases e
 ·rename_i q;rw[if_neg q];exact v.sl j u e
end
noncomputable def Wn(M:Md)(E:XK)(H:Hp)(B:qaD){α:Type}(k:α->Mu->Prop):R α->Prop
 |.no=>False
 |.ok a U=>k a U
 |.ex c U=> ∀H' B',Hs M U H' B'->Go H B H' B'->E (.ref (clA M.K c)) none H'
section
theorem Wn.bind(h:Wn M E H B k (r.bind f)):Wn M E H B (λa U=>Wn M E H B k (f a U)) r:=by cases r<;>exact h
theorem Wn.mono(h:Wn M E H B k r)(f: ∀a U,k a U->k' a U):Wn M E H B k' r:=by
 cases r with
 |no=>exact h
 |ok a m=>exact f _ _ h
 |ex c m=>exact h
theorem Wn.le(h:Wn M E H B k r)(g:Go H B H1 B1):Wn M E H1 B1 k r:=by
 cases r with
 |no|ok a m=>exact h
 |ex c m=>exactλH' B' hs l=>h H' B' hs (g.trans l)
theorem Wn.pl(h:Wn M E H B k r)(p: ∀c m,r≠.ex c m): ∃a m,r= .ok a m/\k a m:=by
 cases r with
 |no=>exact h.elim
 |ok a m=>exact⟨a,m,rfl,h⟩
 |ex c m=>simp_all
theorem Wn.imp(h:Wn M E H B k r)(f: ∀v o H',E v o H'->E' v o H'):Wn M E' H B k r:=by
 cases r with
 |no|ok a m=>exact h
 |ex c m=>exactλH' B' hs l=>f _ _ _ (h H' B' hs l)
theorem Wn.lift(h:Wn M E H B k r)(g:Go H B H1 B1)(f: ∀a U,k a U->k' a U):Wn M E H1 B1 k' r:=(h.le g).mono f
end
noncomputable def KE(M:Md)(H:Hp)(B:qaD)(Q:VK):T->Mu->Prop:=λt U=> ∀v H' B',Hs M U H' B'->Go H B H' B'->Rep M.K B' t v->Q v H'
noncomputable def KA(M:Md)(H:Hp)(B:qaD)(Q:List V->Hp->Prop):List T->Mu->Prop:=λt U=> ∀v H' B',Hs M U H' B'->Go H B H' B'->Reps M.K B' t v->Q v H'
noncomputable def KT(M:Md)(H:Hp)(B:qaD)(Q:Bool->Hp->Prop):Bool->Mu->Prop:=λt U=> ∀H' B',Hs M U H' B'->Go H B H' B'->Q t H'
noncomputable def KN(M:Md)(H:Hp)(B:qaD)(Q:VK):Ct->Mu->Prop:=λc U=> ∀p o H' B',Hs M U H' B'->Go H B H' B'->H' p=none->qew M.K B' c o->Q (.ref p) (upd H' p o)
abbrev DS0(α:Type):=Ro->Mu->R α
noncomputable def tE(M:Md)(E:XK)(d:DS0 T):TE:=λZ H Q=> ∃ρ U B,Ev M ρ U Z H B/\Wn M E H B (KE M H B Q) (d ρ U)
noncomputable def tA(M:Md)(E:XK)(d:DS0 (List T)):TA:=λZ H Q=> ∃ρ U B,Ev M ρ U Z H B/\Wn M E H B (KA M H B Q) (d ρ U)
noncomputable def tT(M:Md)(E:XK)(d:DS0 Bool):TT:=λZ H Q=> ∃ρ U B,Ev M ρ U Z H B/\Wn M E H B (KT M H B Q) (d ρ U)
noncomputable def tN(M:Md)(E:XK)(d:DS0 Ct):TE:=λZ H Q=> ∃ρ U B,Ev M ρ U Z H B/\Wn M E H B (KN M H B Q) (d ρ U)
theorem PE.weak(h:PE X e t)(w: ∀Z H Q,t' Z H Q->t Z H Q):PE X e t':=λO s Z H Q I q=>h _ s Z H Q I (w Z H Q q)
theorem PT.weak(h:PT X e t)(w: ∀Z H Q,t' Z H Q->t Z H Q):PT X e t':=λO s Z H Q I q=>h _ s Z H Q I (w Z H Q q)
theorem PW.weak(h:PW X e t)(w: ∀Z H Q,t' Z H Q->t Z H Q):PW X e t':=λwh O s Z H Q I q=>h wh _ s Z H Q I (w Z H Q q)
theorem PA.weak(h:PA X e t)(w: ∀Z H Q,t' Z H Q->t Z H Q):PA X e t':=λpos O s Z H Q I q=>h pos _ s Z H Q I (w Z H Q q)
theorem PS.weak(h:PS X e t)(w: ∀D Z H,t' D Z H->t D Z H):PS X e t':=λO s Z H D I q=>h _ s Z H D I (w D Z H q)
theorem PSs.weak(h:PSs X e t)(w: ∀D Z H,t' D Z H->t D Z H):PSs X e t':=λO s Z H D I q=>h _ s Z H D I (w D Z H q)
theorem PG.weak(h:PG X e t)(w: ∀v Z H Q,t' v Z H Q->t v Z H Q):PG X e t':=λO s Z H v u Q I r q=>h _ s Z H v u Q I r (w v Z H Q q)
theorem PGs.weak(h:PGs X e t)(w: ∀v Z H Q,t' v Z H Q->t v Z H Q):PGs X e t':=λO s Z H v u Q I r q=>h _ s Z H v u Q I r (w v Z H Q q)
theorem PI.weak(h:PI X tg e t)(w: ∀Z H Q,t' Z H Q->t Z H Q):PI X tg e t':=λO s Z H Q I q=>h _ s Z H Q I (w Z H Q q)
theorem PO.weak(h:PO X e t)(w: ∀Z H Q,t' Z H Q->t Z H Q):PO X e t':=λO s Z H Q I q=>h _ s Z H Q I (w Z H Q q)
section
theorem tE.of(ev:Ev M ρ U Z H B)(h:Wn M E H B (KE M H B Q) (d ρ U)):tE M E d Z H Q:=⟨ρ,U,B,ev,h⟩
theorem KE.le(h:KE M H B Q t U)(g:Go H B H1 B1):KE M H1 B1 Q t U:=λv H' B' hs l r=>h v H' B' hs (g.trans l) r
theorem KT.le(h:KT M H B Q t U)(g:Go H B H1 B1):KT M H1 B1 Q t U:=λH' B' hs l=>h H' B' hs (g.trans l)
end
theorem qqQ(h:H a=some o):upd H a o=H:=by
 funext b
 by_cases q:b=a
 ·subst q;rw[qaf,h]
 ·rw[qab q]
noncomputable def FQ(Q:VK):VK:=λv H=>Q v H\/∃p us,v= .ref p/\H p=some (.dK us)/\∀o,Q v (upd H p (.frz o (.dK us)))
noncomputable def Cl(Q:VK):Prop:= ∀H p us,H p=some (.dK us)->(∀o,Q (.ref p) (upd H p (.frz o (.dK us))))->Q (.ref p) H
theorem qv7:Cl (FQ Q):=λH p us e h=>.inr ⟨p,us,rfl,e,λo=>by
 rcases h o with q|⟨p',us',e1,e2,_⟩
 ·exact q
 ·cases e1;rw[qaf] at e2;cases e2⟩
theorem qqb{R:Bool->Hp->Prop}:Cl (λz H=> ∃k,z= .bl k/\R k H):=λH p us e h=>by
 simp_all
theorem PE.cl(h: ∀(O:List (Addr×Obj))(s:Shared)(Z:St)(H:Hp)(Q:VK),Cl Q->Inv X O Z H s->tE M E d Z H Q->wpAny (model X.prog X.w) X.A (eval e X.env) (EP X O Z Q) X.xe s):PE X e (tE M E d):=λO s Z H Q I ⟨ρ,U,B,ev,q⟩=>by
 refine thn (h _ s Z H _ qv7 I ⟨ρ,U,B,ev,q.mono λt U k v H' B' a b c=>.inl (k v H' B' a b c)⟩) λu s1 h1=> ?_;obtain⟨x,H1,I1,r1,q|⟨p,us,rfl,e,q⟩⟩:=h1
 ·exact⟨x,H1,I1,r1,q⟩
 ·obtain⟨o,I2⟩:=PL.Inv.freeze I1 e;exact⟨_,_,I2,r1,q o⟩
theorem PE.weakF(h:PE X e t)(w: ∀Z H Q,Cl Q->tE M E d Z H Q->t Z H Q):PE X e (tE M E d):=PE.cl λO s Z H Q c I q=>h _ s Z H Q I (w Z H Q c q)
noncomputable def dNo{α:Type}:DS0 α:=λ_ _=>.no
noncomputable def dV(i:Nat):DS0 T:=λρ U=>match ρ[i]? with|some (some t)=>.ok t U|_=>.no
noncomputable def dC(t:T):DS0 T:=λ_ U=>.ok t U
noncomputable def dSq{α β:Type}(d:DS0 α)(f:α->DS0 β):DS0 β:=λρ U=>(d ρ U).bind λa μ'=>f a ρ μ'
noncomputable def qqF:DS0 (List T):=λ_ U=>.ok [] U
noncomputable def qtq(da:DS0 T)(ds:DS0 (List T)):DS0 (List T):=dSq da λx=>dSq ds λxs _ U=>.ok (x::xs) U
noncomputable def dB(g:T->T->Mu->R T)(da db:DS0 T):DS0 T:=dSq da λx=>dSq db λy _ U=>g x y U
noncomputable def dU(g:T->Mu->R T)(da:DS0 T):DS0 T:=dSq da λx _ U=>g x U
noncomputable def qwV(ds:DS0 (List T)):DS0 T:=dSq ds λxs _ U=>if xs.length<=1000 then .ok (.tup xs) U else .no
noncomputable def qwY(ds:DS0 (List T)):DS0 Ct:=dSq ds λxs _ U=>if xs.length<=1000 then .ok (.ls xs) U else .no
noncomputable def fzC:Ct->Mu->R T
 |.ls ts,U=>.ok (.lst ts) U
 |.dk kvs,U=>.ok (.dct kvs) U
 |_,_=>.no
noncomputable def dFz(d:DS0 Ct):DS0 T:=dSq d λc _ U=>fzC c U
noncomputable def dOw(d:DS0 Ct):DS0 T:=dSq d λc _ U=>.ok (.obj U.l.length) (U.add c)
noncomputable def tbO:T->Mu->R Bool
 |.bl b,U=>.ok b U
 |_,_=>.no
noncomputable def dTB(da:DS0 T):DS0 Bool:=dSq da λt _ U=>tbO t U
noncomputable def qim{α:Type}(dt:DS0 Bool)(d e:DS0 α):DS0 α:=dSq dt λc=>if c=true then d else e
noncomputable def qwX(d:DS0 Bool):DS0 Bool:=dSq d λc _ U=>.ok (!c) U
noncomputable def qwU:DS0 Bool:=λ_ U=>.ok true U
noncomputable def dBl(b:Bool):DS0 Bool:=λ_ U=>.ok b U
noncomputable def qw2(d e:DS0 Bool):DS0 Bool:=qim d e (dBl false)
noncomputable def dOr(d e:DS0 Bool):DS0 Bool:=qim d (dBl true) e
noncomputable def qmA(d e:DS0 T):DS0 T:=qim (dTB d) e (dC (.bl false))
noncomputable def qt4(d e:DS0 T):DS0 T:=qim (dTB d) (dC (.bl true)) e
noncomputable def qmy(d:DS0 T):DS0 T:=dSq (dTB d) λc _ U=>.ok (.bl (!c)) U
noncomputable def OkB(M:Md)(r:R2)(g:T->T->Mu->R T):Prop:=(∀a b U c m,g a b U≠.ex c m)/\
 ∀(U:Mu)(H:Hp)(B:qaD)(x y:V)(a b t:T)(μ':Mu)(Q:VK),Cl Q->Hs M U H B->Rep M.K B a x->Rep M.K B b y->g a b U= .ok t μ'->KE M H B Q t μ'->r x y H Q
noncomputable def OkU(M:Md)(r:V->Hp->VK->Prop)(g:T->Mu->R T):Prop:=(∀a U c m,g a U≠.ex c m)/\
 ∀(U:Mu)(H:Hp)(B:qaD)(x:V)(a t:T)(μ':Mu)(Q:VK),Hs M U H B->Rep M.K B a x->g a U= .ok t μ'->KE M H B Q t μ'->r x H Q
section
theorem Ev.get(ev:Ev M ρ U Z H B)(w:Wn M E H B k (dV i ρ U)): ∃t v,Z[i]? =some (some v)/\Rep M.K B t v/\ρ[i]? =some (some t)/\k t U:=by
 unfold dV at w;split at w
 ·rename_i t e1;obtain⟨x,e2,r⟩:=ev.sl i t e1;exact⟨t,x,e2,r,e1,w⟩
 ·exact w.elim
theorem qal:PE X e (tE M E dNo):=λ_ _ _ _ _ _ ⟨_,_,_,_,w⟩=>w.elim
theorem qtc(h:PE X e (qqw i)):PE X e (tE M E (dV i)):=PE.weak h λZ H Q ⟨ρ,U,B,ev,w⟩=>by obtain⟨t,x,e2,r,_,w⟩:=ev.get w;exact⟨x,e2,w x H B ev.hs .refl r⟩
theorem qth(h:PE X e (tC v))(r: ∀B,Rep M.K B t v):PE X e (tE M E (dC t)):=
 PE.weak h λZ H Q ⟨ρ,U,B,ev,w⟩=>w v H B ev.hs .refl (r B)
theorem qd2(ho:OkB M r g)(cq:Cl Q)(h:tE M E (dB g da db) Z H Q):tOp r (tE M E da) (tE M E db) Z H Q:=by obtain⟨ρ,U,B,ev,w⟩:=h;refine tE.of ev ((Wn.bind w).mono λx af w1 v H1 B1 h1 l1 r1=> ?_);refine tE.of (ev.on h1 l1.le) ((Wn.bind w1).lift l1 λy ai w2 u H2 B2 h2 l2 r2=> ?_);obtain⟨t,m,q,w2⟩:=Wn.pl w2 (ho.1 x y ai);exact ho.2 ai H2 B2 v u x y t m Q cq h2 (r1.mono l2.le) r2 q (KE.le w2 (l1.trans l2))
theorem qnX(ho:OkU M r g)(h:tE M E (dU g da) Z H Q):tE M E da Z H λx H1=>r x H1 Q:=by obtain⟨ρ,U,B,ev,w⟩:=h;refine tE.of ev ((Wn.bind w).mono λx af w1 v H1 B1 h1 l1 r1=> ?_);obtain⟨t,m,q,w1⟩:=Wn.pl w1 (ho.1 x af);exact ho.2 af H1 B1 v x t m Q h1 r1 q (KE.le w1 l1)
theorem qtl:PA X [] (tA M E qqF):=PA.weak qbn λZ H Q ⟨ρ,U,B,ev,w⟩=>w [] H B ev.hs .refl .nil
theorem qp3(ha:PE X e (tE M E da))(hs:PA X es (tA M E ds))(aF:starEach (e::es) X.env=(false,eval e X.env)::starEach es X.env):PA X (e::es) (tA M E (qtq da ds)):=
 PA.weak (qaS ha hs aF) λZ H Q ⟨ρ,U,B,ev,w⟩=>by refine tE.of ev ((Wn.bind w).mono λx af w1 v H1 B1 h1 l1 r1=> ?_);exact⟨ρ,af,B1,ev.on h1 l1.le,(Wn.bind w1).lift l1 λxs ai w2 vs H2 B2 h2 l2 r2=>w2 _ H2 B2 h2 (l1.trans l2) (.cons (r1.mono l2.le) r2)⟩
theorem qtd{x1}(hs:PA X es (tA M E ds)):PE X (.Tuple es x1 pos) (tE M E (qwV ds)):=PE.weak (qrF hs) λZ H Q ⟨ρ,U,B,ev,w⟩=>by
 refine⟨ρ,U,B,ev,(Wn.bind w).mono λxs af w1 vs H1 B1 h1 l1 r1=> ?_⟩;have w1:Wn M E H B _ (if xs.length<=1000 then _ else _):=w1;split at w1
 ·have l0:1000<=sizeLine:=by decide
  refine⟨by rw[r1.length];omega,λp hp=> ?_⟩;have h2:=h1.new (o:=.tup vs) hp (λps z=>by cases z);exact w1 _ _ _ h2 (l1.trans (h1.gnew hp)) (qcl qaf (r1.mono (h1.upd_le (h1.fr hp))))
 ·exact w1.elim
theorem qnC(hs:PA X es (tA M E ds)):PE X (.List es pos) (tN M E (qwY ds)):=PE.weak (qeT hs) λZ H Q ⟨ρ,U,B,ev,w⟩=>by
 refine⟨ρ,U,B,ev,(Wn.bind w).mono λxs af w1 vs H1 B1 h1 l1 r1=> ?_⟩;have w1:Wn M E H B _ (if xs.length<=1000 then _ else _):=w1;split at w1
 ·have l0:1000<=sizeLine:=by decide
  exact⟨by rw[r1.length];omega,λp hp=>w1 _ _ _ _ h1 l1 hp ⟨_,rfl,r1⟩⟩
 ·exact w1.elim
theorem qpu(cq:Cl Q)(h:tE M E (dFz dn) Z H Q):tN M E dn Z H Q:=by
 obtain⟨ρ,U,B,ev,w⟩:=h;refine⟨ρ,U,B,ev,(Wn.bind w).mono λc af w1 p o H1 B1 h1 l1 hp r1=> ?_⟩;have b1:=h1.fr hp;cases c with
 |ls ts=>obtain⟨vs,rfl,r⟩:=r1;have le:=h1.upd_le (o:=.lst vs) b1;exact w1 _ _ _ (h1.new hp (λps z=>by cases z)) (l1.trans (h1.gnew hp)) (qbL qaf (r.mono le))
 |dk ts=>obtain⟨vs,rfl,r⟩:=r1;refine cq _ p vs qaf λo=> ?_;rw[qfL];have le:=h1.upd_le (o:=.frz o (.dK vs)) b1;exact w1 _ _ _ (h1.new hp (λps z=>by cases z)) (l1.trans (h1.gnew hp)) (qjh qaf (r.mono le))
 |_=>exact w1.elim
theorem qtE{α β:Type}{r:R α}{f:α->Mu->R β}{b:β}{m:Mu}(h:r.bind f= .ok b m): ∃a m1,r= .ok a m1/\f a m1= .ok b m:=by
 cases r with
 |ok a m1=>exact⟨a,m1,rfl,h⟩
 |_=>cases h
theorem qma(hd: ∀ρ U c m,dn ρ U= .ok c m->∃ts,c= .ls ts)(h:tE M E (dFz dn) Z H Q):tN M E dn Z H Q:=by
 obtain⟨ρ,U,B,ev,w⟩:=h;refine⟨ρ,U,B,ev,?_⟩;have w:=Wn.bind w;cases q:dn ρ U with
 |no|ex c m=>rw[q] at w;exact w
 |ok c m=>rw[q] at w;obtain⟨ts,rfl⟩:=hd _ _ _ _ q;intro p o H1 B1 h1 l1 hp ⟨vs,eo,r⟩;subst eo;exact w _ _ _ (h1.new hp (λps z=>by cases z)) (l1.trans (h1.gnew hp)) (qbL qaf (r.mono (h1.upd_le (h1.fr hp))))
theorem qi8(h:tE M E (dOw dn) Z H Q):tN M E dn Z H Q:=by obtain⟨ρ,U,B,ev,w⟩:=h;refine⟨ρ,U,B,ev,(Wn.bind w).mono λc af w1 p o H1 B1 h1 l1 hp r1=> ?_⟩;have le:=(h1.own (c:=.gone) (o:=o) hp trivial).2;obtain⟨h2,_⟩:=h1.own hp (r1.mono le);exact w1 _ _ _ h2 (l1.trans (h1.gown hp)) (qdu (by show(if af.l.length=af.l.length then some p else _)=_;rw[if_pos rfl]))
theorem qp1(h:PE X e (tN M E dn)):PE X e (tE M E (dFz dn)):=PE.weakF h λ_ _ _ c h=>qpu c h
theorem qpX(h:PE X e (tN M E dn)):PE X e (tE M E (dOw dn)):=PE.weak h λ_ _ _ h=>qi8 h
theorem qcH(h:tT M E (dTB da) Z H Q):tE M E da Z H λx H1=> ∃c,x= .bl c/\Q c H1:=by
 obtain⟨ρ,U,B,ev,w⟩:=h;refine tE.of ev ((Wn.bind w).mono λt af w1 v H1 B1 h1 l1 r1=> ?_);cases t with
 |bl b=>exact⟨b,qbJ r1,w1 H1 B1 h1 l1⟩
 |_=>exact w1.elim
theorem qnA(h:PE X e (tE M E da))(he: ∀whole,isTrue e X.env whole=(do let v <-whole;standAt e.pos;holding [v] (truthy v))):PT X e (tT M E (dTB da)):=PT.weak (qnh h he) λZ H Q h=>qcH h
theorem qsX(h:PT X a (tT M E dt)):PT X (.UnaryOp .Not a pos) (tT M E (qwX dt)):=PT.weak (qni h) λZ H Q ⟨ρ,U,B,ev,w⟩=>⟨ρ,U,B,ev,(Wn.bind w).mono λc af w1=>w1⟩
theorem qee(h:tT M E (qim dt d1 d2) Z H Q):tT M E dt Z H λc H1=>if c=true then tT M E d1 Z H1 Q else tT M E d2 Z H1 Q:=by
 obtain⟨ρ,U,B,ev,w⟩:=h;refine⟨ρ,U,B,ev,(Wn.bind w).mono λc af w1 H1 B1 h1 l1=> ?_⟩;cases c with
 |true|false=>exact⟨ρ,af,B1,ev.on h1 l1.le,w1.lift l1 λ_ _ q=>KT.le q l1⟩
theorem ql4(h:tE M E (qim dt d1 d2) Z H Q):tT M E dt Z H λc H1=>if c=true then tE M E d1 Z H1 Q else tE M E d2 Z H1 Q:=by
 obtain⟨ρ,U,B,ev,w⟩:=h;refine⟨ρ,U,B,ev,(Wn.bind w).mono λc af w1 H1 B1 h1 l1=> ?_⟩;cases c with
 |true|false=>exact⟨ρ,af,B1,ev.on h1 l1.le,w1.lift l1 λ_ _ q=>KE.le q l1⟩
theorem qkF(h:tT M E (dBl b) Z H Q):Q b H:=by obtain⟨ρ,U,B,ev,w⟩:=h;exact w H B ev.hs .refl
theorem qgx(h:tE M E (dC (.bl b)) Z H Q):Q (.bl b) H:=by obtain⟨ρ,U,B,ev,w⟩:=h;exact w _ H B ev.hs .refl qa6
theorem qpF(h:PT X a (tT M E dt)):PW X (.BoolOp .And [a] pos) (tT M E dt):=qor h
theorem qsU(h:PT X a (tT M E dt)):PW X (.BoolOp .Or [a] pos) (tT M E dt):=qnf h
theorem qsV{qbP}(h:PT X a (tT M E dt))(h':PW X (.BoolOp .And (b::qbP) pos) (tT M E du)):PW X (.BoolOp .And (a::b::qbP) pos) (tT M E (qw2 dt du)):=PW.weak (qrr h h') λZ H Q q=>by
 have q:=qee q;obtain⟨ρ,U,B,ev,w⟩:=q;refine⟨ρ,U,B,ev,w.mono λc af w1 H1 B1 h1 l1=> ?_⟩;have z:=w1 H1 B1 h1 l1;cases c with
 |true=>exact z
 |false=>exact qkF z
theorem qvR{qbP}(h:PT X a (tT M E dt))(h':PW X (.BoolOp .Or (b::qbP) pos) (tT M E du)):PW X (.BoolOp .Or (a::b::qbP) pos) (tT M E (dOr dt du)):=PW.weak (qrq h h') λZ H Q q=>by
 have q:=qee q;obtain⟨ρ,U,B,ev,w⟩:=q;refine⟨ρ,U,B,ev,w.mono λc af w1 H1 B1 h1 l1=> ?_⟩;have z:=w1 H1 B1 h1 l1;cases c with
 |true=>exact qkF z
 |false=>exact z
theorem qdQ(h:tE M E (dSq (dTB da) f) Z H Q):tE M E da Z H λx H1=> ∃c,x= .bl c/\tE M E (f c) Z H1 Q:=by
 obtain⟨ρ,U,B,ev,w⟩:=h;refine tE.of ev ((Wn.bind (Wn.bind w)).mono λt af w1 v H1 B1 h1 l1 r1=> ?_);cases t with
 |bl b=>exact⟨b,qbJ r1,ρ,af,B1,ev.on h1 l1.le,Wn.lift w1 l1 λ_ _ q=>KE.le q l1⟩
 |_=>exact w1.elim
theorem tE.imp(h:tE M E da Z H Q)(f: ∀v H1,Q v H1->Q' v H1):tE M E da Z H Q':=by obtain⟨ρ,U,B,ev,w⟩:=h;exact⟨ρ,U,B,ev,w.mono λt af w1 v H1 B1 h1 l1 r1=>f _ _ (w1 v H1 B1 h1 l1 r1)⟩
theorem qtj{qbP}(h:PE X a (tE M E da))(h':PE X (.BoolOp .And (b::qbP) pos) (tE M E db)):PE X (.BoolOp .And (a::b::qbP) pos) (tE M E (qmA da db)):=PE.weak (qrL h h') λZ H Q q=>
 (qdQ q).imp λv H1 ⟨c,e,z⟩=>⟨c,e,by cases c with|true=>exact z|false=>exact qgx z⟩
theorem qvV{qbP}(h:PE X a (tE M E da))(h':PE X (.BoolOp .Or (b::qbP) pos) (tE M E db)):PE X (.BoolOp .Or (a::b::qbP) pos) (tE M E (qt4 da db)):=PE.weak (quW h h') λZ H Q q=>
 (qdQ q).imp λv H1 ⟨c,e,z⟩=>⟨c,e,by cases c with|true=>exact qgx z|false=>exact z⟩
theorem qte(h:PE X a (tE M E da)):PE X (.UnaryOp .Not a pos) (tE M E (qmy da)):=PE.weak (qrG h) λZ H Q q=>
 (qdQ q).imp λv H1 ⟨c,e,z⟩=>⟨c,e,qgx z⟩
theorem qvW(hc:PT X c (tT M E dt))(ha:PE X a (tE M E da))(hb:PE X b (tE M E db)):PE X (.IfExp c a b pos) (tE M E (qim dt da db)):=PE.weak (qlw hc ha hb) λZ H Q q=>ql4 q
end
noncomputable def fzT(n:Nat)(l:List Ct):Nat->T->Option T
 |0,t=>if ub t<=n then some t else none
 |d+1,t=>if ub t<=n then some t else match t with
  |.obj k=>(match l[k]? with
   |some (.ls ts)=>(ts.mapM (fzT n l d)).map .lst
   |_=>none)
  |.tup ts=>(ts.mapM (fzT n l d)).map .tup
  |.lst ts=>(ts.mapM (fzT n l d)).map .lst
  |_=>none
noncomputable def Mu.nw(m0 m:Mu):List (Nat×Nat):=m.k.take (m.k.length - m0.k.length)
noncomputable def Mu.back(m0 m:Mu):Mu:=⟨m.l.take m0.l.length,(m0.nw m).filter (λp=>decide (p.1<m0.l.length))++m0.k⟩
noncomputable def Mu.apart(m0 m:Mu):Bool:=decide (m0.l.length<=m.l.length)&&decide (m.k.drop (m.k.length - m0.k.length)=m0.k)&&(m0.nw m).all λp=>decide (m0.l.length<=p.1\/p.2<=m0.l.length)
noncomputable def leave(m0:Mu):R T->R T
 |.ok t m=>if m.l.length=m0.l.length then .ok t m else if m0.apart m=true then(match fzT m0.l.length m.l 3 t with|some t'=>.ok t' (m0.back m)|none=>.no) else .ok t m
 |.ex c m=>if m.l.length=m0.l.length then .ex c m else if m0.apart m=true then .ex c (m0.back m) else .ex c m
 |.no=>.no
open Classical in
noncomputable def qaD.fz(B:qaD)(H:Hp)(l:List Ct)(n:Nat):qaD:=⟨λa=>if ∃k,n<=k/\B.ad k=some a/\(∃ts,l[k]? =some (.ls ts)) then H a else B a,(B.cut n).ad⟩
theorem qe1{α β:Type}{f:α->Option β}: ∀{xs:List α}{ys:List β},xs.mapM f=some ys->xs.length=ys.length/\∀(i:Nat)(x:α)(y:β),xs[i]? =some x->ys[i]? =some y->f x=some y
 |[],ys,h=>by grind
 |x::xs,ys,h=>by
  rw[List.mapM_cons] at h;cases e1:f x with
  |none=>rw[e1] at h;cases h
  |some y=>
   cases e2:xs.mapM f with
   |none=>simp_all
   |some zs=>
    rw[e1,e2] at h;cases h;obtain⟨hl,hi⟩:=qe1 e2;refine⟨by simp[hl],λi a b ea eb=> ?_⟩;cases i with
    |zero=>grind
    |succ i=>exact hi i a b (by simpa using ea) (by simpa using eb)
section
open Classical
theorem qaD.fz_le(h:Hs M U H B):Le (B.cut n) (B.fz H U.l n):=⟨λa o e=>by
 show(if _ then H a else B a)=_;split
 ·exact h.bh a o e
 ·exact e,λ_ _ e=>e⟩
theorem qcA{κ:Type}: ∀{ts:List (κ×T)}{vs:List (κ×V)}{i:Nat}{p:κ×T},qaV K B ts vs->ts[i]? =some p->∃v,vs[i]? =some (p.1,v)/\Rep K B p.2 v
 |[],_,_,_,_,e=>by simp at e
 |(k,t)::ts,_,0,p,⟨v,r,e',a,b⟩,e=>by grind
 |(k,t)::ts,_,i+1,p,⟨v,r,e',a,b⟩,e=>by
  obtain⟨u,e1,e2⟩:=qcA b (by simpa using e)
  simp_all
theorem qsH{M:Md}{U:Mu}{H:Hp}{B:qaD}{n:Nat}(h:Hs M U H B): ∀(d:Nat)(t t':T)(v:V),fzT n U.l d t=some t'->Rep M.K B t v->Rep M.K (B.fz H U.l n) t' v:=by
 intro d
 induction d with
 |zero=>
  intro t t' v e r;unfold fzT at e;split at e
  ·rename_i q;cases e;exact(r.cut q).mono (qaD.fz_le h)
  ·cases e
 |succ d ih=>
  intro t t' v e r;unfold fzT at e;split at e
  ·rename_i q;cases e;exact(r.cut q).mono (qaD.fz_le h)
  rename_i q;have many: ∀{ts eC:List T}{vs:List V},ts.mapM (fzT n U.l d)=some eC->Reps M.K B ts vs->Reps M.K (B.fz H U.l n) eC vs:=λ{ts eC vs} e r=>by
   obtain⟨hl,hi⟩:=qe1 e;refine .of_get (by rw[r.length,hl]) λi t' v e1 e2=> ?_;obtain⟨t,et⟩: ∃t,ts[i]? =some t:=⟨ts[i]'(by rw[hl];exact(List.getElem?_eq_some_iff.mp e1).1),Vw _⟩
   obtain⟨v',ev,rv⟩:=r.get et;rw[e2] at ev;cases ev;exact ih t t' v (hi i t t' et e1) rv
  split at e
  ·rename_i k;obtain⟨a,rfl,ea⟩:=qaB r;have hk:n<=k:=by unfold ub at q;omega
   split at e
   ·rename_i ts el;cases e2:ts.mapM (fzT n U.l d) with
    |none=>rw[e2] at e;cases e
    |some eC=>rw[e2] at e;cases e;obtain⟨o,b0,ho,vs,rfl,rv⟩:=h.at el (by simp) ea;refine qbL ?_ (many e2 rv);show(if _ then H a else B a)=_;rw[if_pos ⟨k,hk,ea,ts,el⟩];exact ho
   ·cases e
  ·rename_i ts;cases e2:ts.mapM (fzT n U.l d) with
   |none=>rw[e2] at e;cases e
   |some eC=>rw[e2] at e;cases e;obtain⟨p,vs,rfl,bp,rv⟩:=qax r;exact qcl ((qaD.fz_le (n:=n) h).h p _ bp) (many e2 rv)
  ·rename_i ts;cases e2:ts.mapM (fzT n U.l d) with
   |none=>rw[e2] at e;cases e
   |some eC=>rw[e2] at e;cases e;obtain⟨p,vs,rfl,bp,rv⟩:=qaz r;exact qbL ((qaD.fz_le (n:=n) h).h p _ bp) (many e2 rv)
  ·cases e
theorem Hs.back(h0:Hs M m0 H0 B0)(h:Hs M U H B)(ha:m0.apart U=true)(g:Go H0 B0 H B):
  Hs M (m0.back U) H (B.fz H U.l m0.l.length)/\Go H0 B0 H (B.fz H U.l m0.l.length):=by
 unfold Mu.apart at ha;simp only[Bool.and_eq_true,decide_eq_true_eq] at ha;obtain⟨⟨hl,hd⟩,ha⟩:=ha;have hk:U.k=m0.nw U++m0.k:=by unfold Mu.nw;conv=>lhs;rw[<-List.take_append_drop (U.k.length - m0.k.length) U.k,hd]
 have new: ∀q∈m0.nw U,m0.l.length<=q.1\/q.2<=m0.l.length:=λq hq=>of_decide_eq_true (List.all_eq_true.mp ha q hq);have hc:Hs M (m0.back U) H (B.cut m0.l.length):=h.cut _ (n:=m0.l.length) (λq hq=>by
  rw[hk] at hq
  rcases List.mem_append.mp hq with hq|hq
  ·grind
  ·exact .inr ⟨Vs _ hq,h0.ln q hq⟩) (λq hq=>by
  rcases List.mem_append.mp hq with hq|hq
  ·obtain⟨hq,z⟩:=List.mem_filter.mp hq
   rcases new q hq with y|y
   ·have:=of_decide_eq_true z;omega
   ·exact y
  ·exact h0.ln q hq) hl
 have at': ∀{a o},(B.fz H U.l m0.l.length) a=some o->H a=some o:=λ{a o} e=>by
  have e:(if _ then H a else B a)=some o:=e;split at e
  ·exact e
  ·exact h.bh a o e
 refine⟨⟨λa o e=>at' e,λa ps e=> ?_,h.gm,λj d e nj=> ?_,hc.ij,hc.dm,hc.lk,hc.ln⟩,⟨⟨λa o e=>(qaD.fz_le h).h a o (g.le.h a o e),λj a e=> ?_⟩,g.un,λj a e=> ?_,g.dm,λa o e n t1 t2=> ?_⟩⟩
 ·have e:(if _ then H a else B a)=some (.tbl ps):=e;split at e
  ·rename_i q;obtain⟨k,_,ek,ts,q⟩:=q;obtain⟨o,_,ho,vs,rfl,_⟩:=h.at q (by simp) ek;rw[ho] at e;cases e
  ·exact h.bt a ps e
 ·obtain⟨a,u,e1,e2,e3,e4⟩:=hc.st j d e nj;refine⟨a,u,e1,?_,e3,e4.mono (qaD.fz_le h)⟩;show(if _ then H a else B a)=_;split
  ·rename_i q;obtain⟨k,hk,ek,_⟩:=q;have e1:(if j<m0.l.length then B.ad j else none)=some a:=e1;split at e1
   ·have:=h.ij j k a e1 ek;omega
   ·cases e1
  ·exact e2
 ·show(if j<m0.l.length then B.ad j else none)=_;rw[if_pos (h0.dm j a e).1];exact g.le.d j a e
 ·have e:(if j<m0.l.length then B.ad j else none)=some a:=e;split at e
  ·exact g.nw j a e
  ·cases e
 ·show(if _ then H a else B a)=_;rw[if_neg (λ⟨k,_,ek,_⟩=>g.off (by rw[e];simp) n k ek)];exact g.nb a o e n t1 t2
end
end NV
namespace NV
open PySem L2
inductive Out where
 |nx (ρ:Ro)|rt (t:T)|bk (ρ:Ro)|ct (ρ:Ro)
noncomputable def KS(M:Md)(H:Hp)(B:qaD)(D:qqM):Out->Mu->Prop
 |.nx ρ,U=> ∀ae H' B',Ev M ρ U ae H' B'->Go H B H' B'->D.nx ae H'
 |.bk ρ,U=> ∀ae H' B',Ev M ρ U ae H' B'->Go H B H' B'->D.bk ae H'
 |.ct ρ,U=> ∀ae H' B',Ev M ρ U ae H' B'->Go H B H' B'->D.ct ae H'
 |.rt t,U=>KE M H B D.rt t U
theorem KS.le(h:KS M H B D o U)(le:Go H B H1 B1):KS M H1 B1 D o U:=by
 cases o with
 |nx ρ|bk ρ|ct ρ=>exactλae H' B' e l=>h ae H' B' e (le.trans l)
 |rt t=>exact KE.le h le
noncomputable def tS(M:Md)(E:XK)(d:DS0 Out):TS:=λD Z H=> ∃ρ U B,Ev M ρ U Z H B/\Wn M E H B (KS M H B D) (d ρ U)
noncomputable def qmz:DS0 Out:=λρ U=>.ok (.nx ρ) U
noncomputable def qhL(e:DS0 Out):Out->Mu->R Out
 |.nx ρ,U=>e ρ U
 |o,U=>.ok o U
noncomputable def qv2(d e:DS0 Out):DS0 Out:=λρ U=>(d ρ U).bind (qhL e)
noncomputable def qv3(da:DS0 T):DS0 Out:=dSq da λt _ U=>.ok (.rt t) U
noncomputable def qmx(i:Nat)(da:DS0 T):DS0 Out:=dSq da λt ρ U=>.ok (.nx (ρ.set i (some t))) U
noncomputable def qtp(da:DS0 T):DS0 Out:=dSq da λ_ ρ U=>.ok (.nx ρ) U
section
variable{x:Str}
theorem qa2:PS X st (tS M E dNo):=λ_ _ _ _ _ _ ⟨_,_,_,_,w⟩=>w.elim
theorem qpH:PSs X [] (tS M E qmz):=PSs.weak qi0 λD Z H ⟨ρ,U,B,ev,w⟩=>w Z H B ev .refl
theorem qla(h:tS M E (qv2 d d') D Z H):qwo (tS M E d) (tS M E d') D Z H:=by
 obtain⟨ρ,U,B,ev,w⟩:=h;refine⟨ρ,U,B,ev,(Wn.bind w).mono λo af w1=> ?_⟩;cases o with
 |nx ρ'=>exactλae H' B' e l=>⟨ρ',af,B',e,Wn.lift w1 l λ_ _ q=>KS.le q l⟩
 |bk ρ'|ct ρ'|rt t=>exact w1
theorem qml{M:Md}{E:XK}{X:Cx}{st:Stmt}{qbP:List Stmt}{d:DS0 Out}{d':DS0 Out}(h:PS X st (tS M E d))(h':PSs X qbP (tS M E d')):PSs X (st::qbP) (tS M E (qv2 d d')):=PSs.weak (qbD h h') λD Z H q=>qla q
theorem qsZ(h:PE X e (tE M E da)):PS X (.Return (some e) pos) (tS M E (qv3 da)):=PS.weak (qeR h) λD Z H ⟨ρ,U,B,ev,w⟩=>tE.of ev ((Wn.bind w).mono λt af w1=>w1)
theorem qpI:PS X (.Return none pos) (tS M E (qv3 (dC .non))):=PS.weak qot λD Z H ⟨ρ,U,B,ev,w⟩=>w _ H B ev.hs .refl qeV
theorem qpJ:PS X (.Pass pos) (tS M E qmz):=PS.weak qou λD Z H ⟨ρ,U,B,ev,w⟩=>w Z H B ev .refl
theorem qmn:PS X (.Break pos) (tS M E λρ U=>.ok (.bk ρ) U):=PS.weak qlo λD Z H ⟨ρ,U,B,ev,w⟩=>w Z H B ev .refl
theorem qgc:PS X (.Continue pos) (tS M E λρ U=>.ok (.ct ρ) U):=PS.weak qfP λD Z H ⟨ρ,U,B,ev,w⟩=>w Z H B ev .refl
theorem qpK(h:PE X e (tE M E da))(hs:swapsWith e none pos.line X.env=pure false):PS X (.Expr e pos) (tS M E (qtp da)):=PS.weak (qov h hs) λD Z H ⟨ρ,U,B,ev,w⟩=>
 tE.of ev ((Wn.bind w).mono λt af w1 v H1 B1 h1 l1 _=>w1 Z H1 B1 (ev.on h1 l1.le) l1)
theorem qvS(hc:PT X c (tT M E dt))(h:PSs X bE (tS M E d))(h':PSs X sts' (tS M E d')):PS X (.If c bE sts' pos) (tS M E (qim dt d d')):=PS.weak (qrw hc h h') λD Z H ⟨ρ,U,B,ev,w⟩=>by
 refine⟨ρ,U,B,ev,(Wn.bind w).mono λc af w1 H1 B1 h1 l1=> ?_⟩;cases c with
 |true|false=>exact⟨ρ,af,B1,ev.on h1 l1.le,Wn.lift w1 l1 λ_ _ q=>KS.le q l1⟩
theorem qsY(hN:X.N.Nodup)(hi:X.N[i]? =some x)(hx:Loc X.env.scope x)(h:PE X e (tE M E da))(hs:swapsWith e (some (.Name x pos')) pos.line X.env=pure false)(hf:X.fn x=true\/X.env.scope.names.lookup x=some .local):
  PS X (.Assign [.Name x pos'] e pos) (tS M E (qmx i da)):=PS.weak (qeQ hN hi hx h hs hf) λD Z H ⟨ρ,U,B,ev,w⟩=>
 tE.of ev ((Wn.bind w).mono λt af w1 v H1 B1 h1 l1 r1=>w1 _ H1 B1 ((ev.on h1 l1.le).set r1) l1)
end
noncomputable def tG(M:Md)(E:XK)(dg:T->DS0 Ro):TG:=λv Z H Q=> ∃ρ U B t,Ev M ρ U Z H B/\Rep M.K B t v/\Wn M E H B (λρ' μ'=> ∀ae H' B',Ev M ρ' μ' ae H' B'->Go H B H' B'->Q ae H') (dg t ρ U)
noncomputable def tGs(M:Md)(E:XK)(dg:List T->DS0 Ro):TGs:=λv Z H Q=> ∃ρ U B t,Ev M ρ U Z H B/\Reps M.K B t v/\Wn M E H B (λρ' μ'=> ∀ae H' B',Ev M ρ' μ' ae H' B'->Go H B H' B'->Q ae H') (dg t ρ U)
noncomputable def gN(i:Nat):T->DS0 Ro:=λt ρ U=>.ok (ρ.set i (some t)) U
noncomputable def gsN:List T->DS0 Ro:=λts ρ U=>match ts with|[]=>.ok ρ U|_=>.no
noncomputable def gsC(dg:T->DS0 Ro)(dr:List T->DS0 Ro):List T->DS0 Ro:=λts ρ U=>match ts with|t::r=>(dg t ρ U).bind (dr r)|[]=>.no
noncomputable def gT(n:Nat)(dr:List T->DS0 Ro):T->DS0 Ro:=λt ρ U=>match t with|.tup ts=>if ts.length=n then dr ts ρ U else .no|_=>.no
noncomputable def qw1(dg:T->DS0 Ro)(da:DS0 T):DS0 Out:=dSq da λt ρ U=>(dg t ρ U).bind λρ' μ'=>.ok (.nx ρ') μ'
section
theorem qkh:PG X e (tG M E λ_=>dNo):=λ_ _ _ _ _ _ _ _ _ ⟨_,_,_,_,_,_,w⟩=>w.elim
theorem qvT(h:PG X e (qpr i)):PG X e (tG M E (gN i)):=PG.weak h λv Z H Q ⟨ρ,U,B,t,ev,r,w⟩=>w _ _ _ (ev.set r) .refl
theorem qpQ:PGs X [] (tGs M E gsN):=PGs.weak qoz λv Z H Q ⟨ρ,U,B,t,ev,r,w⟩=>by
 cases t with
 |nil=>exact⟨r.inv0,w Z H B ev .refl⟩
 |cons _ _=>exact w.elim
theorem qmq(h1:PG X e (tG M E dg))(h2:PGs X es (tGs M E dr))(hs:(assignEach (e::es) X.env).map (·.2)=assign e X.env::(assignEach es X.env).map (·.2)):PGs X (e::es) (tGs M E (gsC dg dr)):=
 PGs.weak (qls h1 h2 hs) λv Z H Q ⟨ρ,U,B,t,ev,r,w⟩=>by
  cases t with
  |nil=>exact w.elim
  |cons t ts=>obtain⟨v',r',rfl,a,b⟩:=r.inv;refine⟨v',r',rfl,ρ,U,B,t,ev,a,(Wn.bind w).mono λau af w1 cK H1 B1 e1 l1=> ?_⟩;exact⟨au,af,B1,ts,e1,b.mono l1.le,Wn.lift w1 l1 λaz ai q aL H2 B2 e2 l2=>q aL H2 B2 e2 (l1.trans l2)⟩
theorem qs9(hc:X.calm=true)(h:PGs X es (tGs M E dr))(hK:X.K=M.K)(hn:(assignEach es X.env).length=n)(aF:(assignEach es X.env).findIdx? (·.1)=none):PG X (.Tuple es k pos) (tG M E (gT n dr)):=
 PG.weak (qrE hc h hn aF) λv Z H Q ⟨ρ,U,B,t,ev,r,w⟩=>by
  cases t with
  |tup ts=>
   obtain⟨p,vs,rfl,bp,rv⟩:=qax r;have w:Wn M E H B _ (if ts.length=n then _ else _):=w;split at w
   ·rename_i hl;exact⟨p,vs,rfl,.inl (.inl (ev.hs.bh _ _ bp)),by rw[rv.length];exact hl,ρ,U,B,ts,ev,rv,w⟩
   ·exact w.elim
  |_=>exact w.elim
theorem qnB(h:PE X e (tE M E da))(hg:PG X tg (tG M E dg))(hs:swapsWithSole [tg] e pos.line X.env=pure false)(hw:swappedStores [tg] e X.env=pure none)(h1:(assignEach [tg] X.env).map (·.2)=[assign tg X.env]):PS X (.Assign [tg] e pos) (tS M E (qw1 dg da)):=
 PS.weak (qrA h hg hs hw h1) λD Z H ⟨ρ,U,B,ev,w⟩=>tE.of ev ((Wn.bind w).mono λt af w1 v H1 B1 h1 l1 r1=>⟨ρ,af,B1,t,ev.on h1 l1.le,r1,(Wn.bind w1).lift l1 λaz ai w2 aL H2 B2 e2 l2=>w2 aL H2 B2 e2 (l1.trans l2)⟩)
end
noncomputable def spF(M:Md)(f:List T->Mu->R T):Sp:=λvs H Q E=> ∃U B ts,Hs M U H B/\Reps M.K B ts vs/\Wn M E H B (KE M H B Q) (f ts U)
noncomputable def outT:Out->Mu->R T
 |.rt t,U=>.ok t U
 |.nx _,U=>.ok .non U
 |_,_=>.no
noncomputable def lv(kp:Bool)(U:Mu)(r:R T):R T:=if kp=true then r else leave U r
noncomputable def fnR(kp:Bool)(n N:Nat)(d:DS0 Out):List T->Mu->R T:=λts U=>if ts.length=n then lv kp U ((d (ts.map some++List.replicate (N - n) none) U).bind outT) else .no
section
theorem qib(h:Hs M U H B)(w:Wn M E H B (KE M H B Q) (leave U r)):Wn M E H B (KE M H B Q) r:=by
 cases r with
 |no=>exact w
 |ok t m=>
  have w:Wn M E H B _ (if m.l.length=U.l.length then .ok t m else if U.apart m=true then(match fzT _ m.l 3 t with|some t'=>.ok t' _|none=>.no) else .ok t m):=w;split at w
  ·exact w
  ·split at w
   ·rename_i ha;split at w
    ·rename_i t' e
     exactλv H' B' h' l r=>w v H' _ (h.back h' ha l).1 (h.back h' ha l).2 (qsH h' 3 t t' v e r)
    ·exact w.elim
   ·exact w
 |ex c m=>
  have w:Wn M E H B _ (if m.l.length=U.l.length then .ex c m else if U.apart m=true then .ex c _ else .ex c m):=w;split at w
  ·exact w
  ·split at w
   ·rename_i ha
    exactλH' B' h' l=>w H' _ (h.back h' ha l).1 (h.back h' ha l).2
   ·exact w
theorem qo4(h:Hs M U H B)(w:Wn M E H B (KE M H B Q) (lv kp U r)):Wn M E H B (KE M H B Q) r:=by
 cases kp with
 |true=>exact w
 |false=>exact qib h w
theorem qmi{N:List Str}(h:Hs M U H B)(r:Reps M.K B ts vs)(hN:ts.length<=N.length):Ev M (ts.map some++List.replicate (N.length - ts.length) none) U (start N vs) H B:=by
 have hl:=r.length;refine⟨h,by unfold L2.start;simp[hl],λi t e=> ?_⟩;by_cases hi:i<ts.length
 ·rw[List.getElem?_append_left (by simpa using hi),List.getElem?_map] at e;cases q:ts[i]? with
  |none=>rw[q] at e;cases e
  |some u=>rw[q] at e;cases e;obtain⟨v,e1,e2⟩:=r.get q;refine⟨v,?_,e2⟩;unfold L2.start;rw[List.getElem?_append_left (by simp_all),List.getElem?_map,e1];rfl
 ·rw[List.getElem?_append_right (by simpa using hi),List.getElem?_replicate] at e;split at e<;>cases e
theorem qvL{x qual:Str}{N ps:List Str}(F:Fun M.K x qual st f fd)(S:qby N ps (qad st))(aq: ∀(cdv:Value),fd.code=cdv->∀(A:Around)(outer:List Env)(s:Shared)(H:Hp)(E:XK),qa7 k (A.deeper (PyProof.Rows.envOfC qual (qad st) s.heap.objs.size f cdv))->
   PSs (qfr (CXE P w) P w M.K mg base N qual (qad st) f cdv A outer s H E) (qay st) (tS M E d)):qdh P w M.K mg base (CXE P w) (k+1) f fd ps (spF M (fnR kp ps.length N.length d)):=by
 have ay:ps.length<=N.length:=by have:=congrArg List.length S.pre;grind
 have len: ∀vs H Q E,spF M (fnR kp _ N.length d) vs H Q E->∃U B ts,Hs M U H B/\Reps M.K B ts vs/\ts.length=ps.length/\Wn M E H B _ _:=λvs H Q E h=>by
  obtain⟨U,B,ts,h1,h2,h3⟩:=h;unfold fnR at h3;split at h3
  ·rename_i hl;exact⟨U,B,ts,h1,h2,hl,h3⟩
  ·exact h3.elim
 obtain⟨oc,od,kV,doc,pm,an,cdv,ct,osl,rfl,lk,aI⟩:=F.ex;refine qvM lk aI S (λvs H Q E h=> ?_) λA outer s H vs Q E hr h=>⟨_,aq cdv rfl A outer s H E hr,?_⟩
 ·obtain⟨U,B,ts,h1,h2,hl,h3⟩:=len vs H Q E h;rw[h2.length];exact hl
 ·obtain⟨U,B,ts,h1,h2,hl,h3⟩:=len vs H Q E h;refine⟨_,U,B,qmi h1 h2 (by omega),?_⟩;rw[hl];refine(Wn.bind (qo4 h1 h3)).mono λo af w1=> ?_;cases o with
  |rt t=>exact w1
  |nx ρ=>exactλae H' B' e l=>w1 .non H' B' e.hs l qeV
  |bk ρ|ct ρ=>exact w1.elim
end
noncomputable def qej(f:List T->Mu->R T)(ds:DS0 (List T)):DS0 T:=dSq ds λts _ U=>f ts U
section
variable{M:Md}{E:XK}{X:Cx}{k:Nat}{f C:Addr}{fd:FuncData}{ps:List Str}{x m:Str}{p pos apos:Pos}{e o:Expr}{es:List Expr}{da:DS0 T}{ds:DS0 (List T)}{fT:List T->Mu->R T}
theorem qky(h:tE M E (qej fT ds) Z H Q):qn7 (spF M fT) [] E (tA M E ds) Z H Q:=by obtain⟨ρ,U,B,ev,w⟩:=h;refine⟨ρ,U,B,ev,(Wn.bind w).mono λts af w1 vs H1 B1 h1 l1 r1=> ?_⟩;show spF M fT _ H1 Q E;rw[List.append_nil];exact⟨af,B1,ts,h1,r1,Wn.lift w1 l1 λ_ _ q=>KE.le q l1⟩
theorem qp2(F:qdh X.prog X.w X.K X.mg X.base (CXE X.prog X.w) k f fd ps (spF M fT))(hr:qa7 k X.A)(hg:Gl X x)(hm:X.mg x=some (.ref f))(hk:W.keepIn X.K (.ref f)=true)(hb:qaY X.K fd ps [])(hx:qaH (CXE X.prog X.w) X E)(ha:PA X (e::es) (tA M E ds))(aH:(x==("__debug__" :Str))=false)(he:starEach (e::es) X.env=(false,eval e X.env)::starEach es X.env)(ay:(backTo pos (starEach es X.env)).any (·.1)=false):
  PE X (.Call (.Name x p) (e::es) [] pos) (tE M E (qej fT ds)):=PE.weak (qoG F hr hg hm hk hb .nil hx ha aH he ay) λ_ _ _ h=>qky h
theorem qmv(F:qdh X.prog X.w X.K X.mg X.base (CXE X.prog X.w) k f fd ps (spF M fT))(hr:qa7 k X.A)(hg:Gl X x)(hm:X.mg x=some (.ref f))(hk:W.keepIn X.K (.ref f)=true)(hb:qaY X.K fd ps [])(hx:qaH (CXE X.prog X.w) X E)(aH:(x==("__debug__" :Str))=false):PE X (.Call (.Name x p) [] [] pos) (tE M E (qej fT qqF)):=PE.weak (qlA F hr hg hm hk hb .nil hx aH) λZ H Q h=>by obtain⟨ρ,U,B,ev,w⟩:=h;exact⟨U,B,[],ev.hs,.nil,w⟩
noncomputable def mkR(c:Str)(fT:List T->Mu->R T)(ts:List T)(U:Mu):R T:=(fT (.obj U.l.length::ts) (U.add (.ins c []))).bind λt m=>match t with|.non=>.ok (.obj U.l.length) m|_=>.no
theorem qe2{c:Str}(hC:C=clA M.K c)(h:tE M E (qej (mkR c fT) ds) Z H Q):qn6 C (spF M fT) [] E (tA M E ds) Z H Q:=by
 obtain⟨ρ,U,B,ev,w⟩:=h;refine⟨ρ,U,B,ev,(Wn.bind w).mono λts af w1 vs H1 B1 h1 l1 r1 x dx hx gF ne=> ?_⟩;rw[List.append_nil];have h2:=h1.more (H':=upd H1 dx (.own x)) λa o e=>by rw[qab (qak e gF)];exact e
 have eK:upd H1 dx (.own x) x=none:=by rw[qab (λz=>ne z.symm)];exact hx
 obtain⟨h3,_⟩:=h2.own (c:=.ins c []) (o:=.ins C dx []) eK ⟨dx,[],by rw[hC],rfl⟩;have l3:Go H1 B1 (upd _ x (.ins C dx [])) _:=(Go.more (λa o e=>by rw[qab (qak e gF)];exact e)).trans (h2.gown eK);have ad:(B1.add af.l.length x).ad af.l.length=some x:=by show(if af.l.length=af.l.length then some x else _)=_;rw[if_pos rfl]
 refine⟨_,_,_::ts,h3,.cons (qdu ad) (r1.mono l3.le),(Wn.bind w1).lift (l1.trans l3) λt ai w2 v H2 B2 h4 l4 r4=> ?_⟩;cases t with
 |non=>exact⟨qcN r4,w2 _ H2 B2 h4 ((l1.trans l3).trans l4) (qdu (l4.le.d _ _ ad))⟩
 |_=>exact w2.elim
theorem qpZ{c:Str}(hC:C=clA M.K c)(iV:Mk X.K C f)(F:qdh X.prog X.w X.K X.mg X.base (CXE X.prog X.w) k f fd ps (spF M fT))(hr:qa7 (k+1) X.A)(hg:Gl X x)(hm:X.mg x=some (.ref C))(hb:qaY X.K fd ps [])(hx:qaH (CXE X.prog X.w) X E)(ha:PA X (e::es) (tA M E ds))(aH:(x==("__debug__" :Str))=false)(he:starEach (e::es) X.env=(false,eval e X.env)::starEach es X.env)(ay:(backTo pos (starEach es X.env)).any (·.1)=false):
  PE X (.Call (.Name x p) (e::es) [] pos) (tE M E (qej (mkR c fT) ds)):=PE.weak (qoD iV F hr hg hm hb .nil hx ha aH he ay) λ_ _ _ h=>qe2 hC h
theorem qmu{c:Str}(hC:C=clA M.K c)(iV:Mk X.K C f)(F:qdh X.prog X.w X.K X.mg X.base (CXE X.prog X.w) k f fd ps (spF M fT))(hr:qa7 (k+1) X.A)(hg:Gl X x)(hm:X.mg x=some (.ref C))(hb:qaY X.K fd ps [])(hx:qaH (CXE X.prog X.w) X E)(aH:(x==("__debug__" :Str))=false):PE X (.Call (.Name x p) [] [] pos) (tE M E (qej (mkR c fT) qqF)):=PE.weak (qlv iV F hr hg hm hb .nil hx aH) λZ H Q h=>by have:=qe2 hC h;obtain⟨ρ,U,B,ev,w⟩:=this;exact w [] H B ev.hs .refl .nil
noncomputable def qnx(ok:Str->Str->Bool)(f:Str):T->Mu->R T
 |.obj k,U=>(match U.l[k]? with
  |some (.ins c fs)=>if ok c f=true then(match fs.lookup f with|some t=>.ok t U|none=>.no) else .no
  |_=>.no)
 |_,_=>.no
theorem qbQ{f:Str}: ∀{fs:List (Str×T)}{vs:List (Str×V)},qaV K B fs vs->(∀t,fs.lookup f=some t->∃v,vs.lookup f=some v/\Rep K B t v)/\(fs.lookup f=none->vs.lookup f=none)
 |[],vs,r=>by have r:vs=[]:=r;grind
 |(g,t)::fs,_,⟨v,r,e,a,b⟩=>by
  have ih:=qbQ (f:=f) b;rw[e,List.lookup_cons,List.lookup_cons];cases q:f==g with
  |true=>grind
  |false=>exact ih
theorem qme{ok:Str->Str->Bool}{f:Str}(hK:X.K=M.K)(hok: ∀c,ok c f=true->Cls M.K (clA M.K c)/\qbb M.K (clA M.K c) f){Z:St}{H:Hp}{Q:VK}(h:tE M E (dU (qnx ok f) da) Z H Q):qwq X.K (tE M E da) f Z H Q:=by
 obtain⟨ρ,U,B,ev,w⟩:=h;refine tE.of ev ((Wn.bind w).mono λx af w1 v H1 B1 h1 l1 r1=> ?_);have w1:Wn M E H B (KE M H B Q) (qnx ok f x af):=w1;unfold qnx at w1;split at w1
 ·rename_i k;obtain⟨a,rfl,ea⟩:=qaB r1;split at w1
  ·rename_i c fs el;split at w1
   ·rename_i hc;obtain⟨h2,h3⟩:=hok c hc;split at w1
    ·rename_i t et;obtain⟨o,b0,ho,dx,vs,rfl,rv⟩:=h1.at el (by simp) ea;obtain⟨v,bN,bS⟩:=(qbQ rv).1 t et;rw[hK];exact⟨a,_,dx,vs,v,rfl,ho,h2,h3,bN,w1 v H1 B1 h1 l1 bS⟩
    ·exact w1.elim
   ·exact w1.elim
  ·exact w1.elim
 ·exact w1.elim
theorem qtg{ok:Str->Str->Bool}{f:Str}(hK:X.K=M.K)(hok: ∀c,ok c f=true->Cls M.K (clA M.K c)/\qbb M.K (clA M.K c) f)(he:PE X e (tE M E da))(hb:attributeBase e f X.env (eval e X.env)=eval e X.env):PE X (.Attribute e f pos) (tE M E (dU (qnx ok f) da)):=
 PE.weak (qrJ he hb) λ_ _ _ h=>qme hK hok h
noncomputable def qrs(f:Str)(t:T):List (Str×T)->List (Str×T)
 |[]=>[(f,t)]
 |(g,u)::r=>if g=f then(g,t)::r else(g,u)::qrs f t r
noncomputable def qsN(ok:Str->Str->Bool)(f:Str)(t:T):T->Mu->R Unit
 |.obj k,U=>(match U.l[k]? with
  |some (.ins c fs)=>if ok c f=true/\fs.length<1000 then .ok () (U.put k (.ins c (qrs f t fs))) else .no
  |_=>.no)
 |_,_=>.no
noncomputable def qto(ok:Str->Str->Bool)(f:Str)(bu dv:DS0 T):DS0 Out:=dSq dv λt=>dSq bu λo ρ U=>(qsN ok f t o U).bind λ_ μ'=>.ok (.nx ρ) μ'
theorem qgP{f:Str}(r:Rep K B t v): ∀{fs:List (Str×T)}{vs:List (Str×V)},qaV K B fs vs->qaV K B (qrs f t fs) (qeu f v vs)
 |[],_,h=>by rw[h];exact⟨v,[],rfl,r,rfl⟩
 |(g,u)::fs,_,⟨w,r',e,a,b⟩=>by
  rw[e];unfold qrs qeu;by_cases q:g=f
  ·rw[if_pos q,if_pos q];exact⟨v,r',rfl,r,b⟩
  ·rw[if_neg q,if_neg q];exact⟨w,_,rfl,a,qgP r b⟩
theorem qs3{ok:Str->Str->Bool}{f:Str}{o value:Expr}{pos':Pos}{dv:DS0 T}(hK:X.K=M.K)(hok: ∀c,ok c f=true->Cls M.K (clA M.K c)/\qbb M.K (clA M.K c) f)(ho:PE X o (tE M E da))(hv:PE X value (tE M E dv))(hs:swapsWith value (some (.Attribute o f pos')) pos.line X.env=pure false):
  PS X (.Assign [.Attribute o f pos'] value pos) (tS M E (qto ok f da dv)):=PS.weak (qry ho hv hs) λD Z H ⟨ρ,U,B,ev,w⟩=>by
 refine tE.of ev ((Wn.bind w).mono λt af w1 v H1 B1 h1 l1 r1=> ?_);refine tE.of (ev.on h1 l1.le) ((Wn.bind w1).lift l1 λx ai w2 u H2 B2 h2 l2 r2=> ?_);have w2:=Wn.bind w2;unfold qsN at w2;split at w2
 ·rename_i k;obtain⟨a,rfl,ea⟩:=qaB r2;split at w2
  ·rename_i c fs el;split at w2
   ·rename_i hc;obtain⟨g2,g3⟩:=hok c hc.1;obtain⟨o,b0,ho,dx,vs,rfl,rv⟩:=h2.at el (by simp) ea;rw[hK];refine⟨a,_,dx,vs,rfl,ho,g2,g3,by rw[rv.length];exact hc.2,?_⟩;have g:=(l1.trans l2).trans (qsx (H:=H2) (o:=.ins (clA M.K c) dx (qeu f v vs)) ea);exact w2 Z _ B2 (ev.on (h2.put el (by simp) ea ⟨dx,_,rfl,qgP (r1.mono l2.le) rv⟩) g.le) g
   ·exact w2.elim
  ·exact w2.elim
 ·exact w2.elim
end
end NV
namespace L2
open PySem PySem.Spec PySem.Calls PyProof.Rows
noncomputable def qgC(P:Addr)(qual:Str)(H:Hp):Prop:=
 ∃ps,H P=some (.tbl ps)/\PySem.TriplesOk ps.toList/\∀pos v,PySem.codeAmong pos ps.toList=some v->∃c,v= .ref c/\H c=some (qdl c qual)
theorem qit(l:List Value)(h:PySem.TriplesOk l)(e:PySem.codeAmong pos (l++[.int a t,.int b u,x])=some v):PySem.codeAmong pos l=some v\/v=x:=by
 fun_induction PySem.TriplesOk l with
 |case1=>
  simp only[List.nil_append,PySem.codeAmong] at e
  simp_all
 |case2 a t b u x qbP ih=>
  simp only[List.cons_append,PySem.codeAmong] at e⊢;split at e
  ·simp_all
  ·rename_i hc;rw[if_neg hc];exact ih h e
 |case3 l h1 h2=>exact h.elim
noncomputable def qqB(f:Addr)(o:Obj):HO:=.ext λh=>h.get? f=some o
theorem qju(e:h.get? f=some o):qaE P w H h f (qqB f o):=⟨e,⟨_,e⟩,λ_ _ p k=>k _ p⟩
noncomputable def qwp(P:Addr)(qual:Str)(ob:Addr->Value->Obj):TE:=λ_ H Q=>qgC P qual H/\∀(f c':Addr)(aD:Value)(H':Hp),qgC P qual H'->qfH P H H'->(∀b,H b≠none->H' b≠none)->H f=none->H' f=some (qqB f (ob c' aD))->H' c'=some (qdl c' qual)->Q (.ref f) H'
theorem qoE{qual:Str}(cR:X.env.code= .ref c)(C:W.CodeHd X.base c P)(hb: ∃bm ob,X.mg "__builtins__" =some (.ref bm)/\bm≠builtinsNs/\X.base.get? bm=some ob/\ob.cls= .type "module" /\ob.dict=some builtinsNs/\ob.data= .plain)(ag: ∀y∈scope.names,y.2= .free->X.env.kindOf y.1=some .cell\/X.env.kindOf y.1=some .free)(hd:defaultsOf params X.env=([],[]))(hq:X.env.qual++("<lambda>" :Str)=qual):
  PE X (.Lambda params body scope pos) (qwp P qual λc' aD=>W.kla_obj "<lambda>" qual params body scope (clOf X.env scope.names []) ((X.mg "__name__").getD .none) c' aD):=by
 intro O s Z H Q I hQ;obtain⟨⟨ps,hP,fj,ie⟩,h⟩:=hQ;have hgP:mainGlobals≠P:=λz=>by obtain⟨o,es,ep,e,jn,_⟩:=I.mod.glob;have:=(I.bs _ _ e).2;rw[z,hP] at this;cases this
 have jw:s.heap.get? P=some (W.tabObj ps):=I.hok P _ hP;have CS:W.CodeHd s.heap c P:=C.keeps I.bk;have jr:s.heap.BuiltinsAt X.mg P:=by
  obtain⟨bm,ob,b1,b2,b3,b4,b5,b6⟩:=hb;refine⟨bm,ob,b1,b2,λz=> ?_,λz=> ?_,I.bk _ _ b3,b4,b5,b6⟩
  ·obtain⟨o,es,ep,e,jn,_⟩:=I.mod.glob;rw[z,e] at b3;cases b3;rw[jn] at b6;cases b6
  ·have:=(I.bs _ _ b3).2;rw[z,hP] at this;cases this
 have hg:s.heap.Ns mainGlobals X.mg:=I.mod.glob.keeps I.bk;have gG:closureFor scope X.env=pure (clOf X.env scope.names []):=qdJ λy hy e=>I.ok.has y.1 (ag y hy e);refine W.kla_eval hd ?_;rw[hq];cases hn:PySem.codeAmong pos ps.toList with
 |none=>
  refine W.kla_makeFunction gG I.ok.glob hg cR CS jw fj hn hgP jr λc' aD h' tk hx dS bx a8 htb=> ?_;have I1:Inv X O Z (upd (upd H P (.tbl (ps++ #[rawInt pos.line,rawInt pos.col,.ref c']))) c' (qdl c' qual)) { s with heap:=h',toks:=tk }:=I.grow hP hx htb dS ⟨a8,by
    obtain⟨c2,oc,vs,tq,e,ho,_⟩:=a8;cases e;exact⟨oc,ho⟩,λh1 h2 p k=>qgm p k⟩
  have nP:P≠c':=Vn (Vm (I.hok P _ hP).lt dS);have I2:=I1.laid (t':=tk) (o:=qqB h'.objs.size (W.kla_obj "<lambda>" qual params body scope (clOf X.env scope.names []) ((X.mg "__name__").getD .none) c' aD)) (λb u e=>Vg _ e) (Vl _) (qju (Vh _ rfl));have nf: ∀b o,(upd (upd H P (.tbl (ps++ #[rawInt pos.line,rawInt pos.col,.ref c']))) c' (qdl c' qual)) b=some o->b≠h'.objs.size:=λb o e=>Vn (I1.hok b _ e).lt;have b9:(upd (upd H P (.tbl (ps++ #[rawInt pos.line,rawInt pos.col,.ref c']))) c' (qdl c' qual)) c'=some (qdl c' qual):=qaf;have gI:(upd (upd H P (.tbl (ps++ #[rawInt pos.line,rawInt pos.col,.ref c']))) c' (qdl c' qual)) P=some (.tbl (ps++ #[rawInt pos.line,rawInt pos.col,.ref c'])):=by rw[qab nP,qaf]
  have old: ∀b o,H b=some o->b≠P->(upd (upd H P (.tbl (ps++ #[rawInt pos.line,rawInt pos.col,.ref c']))) c' (qdl c' qual)) b=some o:=λb o e hb=>by rw[qab (Nat.ne_of_lt (Nat.lt_of_lt_of_le (I.hok b _ e).lt dS)),qab hb];exact e
  refine⟨.ref h'.objs.size,_,I2,rfl,h h'.objs.size c' aD _ ⟨_,by rw[qab (nf _ _ gI)];exact gI,?_,λp v e=> ?_⟩ (λb o e hb=> ?_) (λb e z=> ?_) ?_ qaf (by rw[qab (nf _ _ b9)];exact b9)⟩
  ·rw[Array.toList_append];exact qcf rfl rfl _ fj
  ·rw[Array.toList_append] at e
   rcases qit _ fj e with e|e
   ·obtain⟨c2,rfl,e2⟩:=ie p v e;have e3:=old c2 _ e2 (λz=>by rw[z,hP] at e2;cases e2);exact⟨c2,rfl,by rw[qab (nf _ _ e3)];exact e3⟩
   ·exact⟨c',e,by rw[qab (nf _ _ b9)];exact b9⟩
  ·have e3:=old b o e hb;rw[qab (nf _ _ e3)];exact e3
  ·cases q:H b with
   |none=>exact e q
   |some o=>
    by_cases zb:b=P
    ·subst zb;rw[qab (nf _ _ gI),gI] at z;cases z
    ·have e3:=old b o q zb;rw[qab (nf _ _ e3),e3] at z;cases z
  ·cases q:H h'.objs.size with
   |none=>rfl
   |some o=>exact absurd (Vm (I.hok _ _ q).lt (Vp dS (Vo bx))) (Nat.lt_irrefl _)
 |some cv=>
  obtain⟨c2,rfl,hH⟩:=ie pos cv hn;refine W.kla_makeFunctionHit (cv:=.ref c2) gG I.ok.glob hg cR CS jw fj hn jr λaD h' tk kp sz=> ?_;have I1:Inv X O Z H { s with heap:=h',toks:=tk }:=I.kept (t':=tk) kp;have I2:=I1.laid (t':=tk) (o:=qqB h'.objs.size (W.kla_obj "<lambda>" qual params body scope (clOf X.env scope.names []) ((X.mg "__name__").getD .none) c2 aD)) (λb u e=>Vg _ e) (Vl _) (qju (Vh _ rfl));have nf: ∀b o,H b=some o->b≠h'.objs.size:=λb o e=>Vn (I1.hok b _ e).lt;refine⟨.ref h'.objs.size,_,I2,rfl,h h'.objs.size c2 aD _ ⟨ps,by rw[qab (nf _ _ hP)];exact hP,fj,λp v e=> ?_⟩ (λb o e hb=>by rw[qab (nf _ _ e)];exact e) (λb e z=> ?_) (I1.hok.fresh (Vl _)) qaf (by rw[qab (nf _ _ hH)];exact hH)⟩
  ·obtain⟨c3,rfl,e3⟩:=ie p v e;exact⟨c3,rfl,by rw[qab (nf _ _ e3)];exact e3⟩
  ·cases q:H b with
   |none=>exact e q
   |some o=>rw[qab (nf _ _ q),q] at z;cases z
noncomputable def qgj(P:Program)(w:World)(K:W.Frag)(mg:Str->Option Value)(base:Heap)(N:List Str)(env:Env)(A:Around)(outer:List Env)(s:Shared)(H:Hp)(E:XK):Cx where
 prog:=P
 w:=w
 K:=K
 mg:=mg
 base:=base
 A:=A.deeper env
 N:=N
 s₀:=s
 H₀:=H
 env:=env
 outer:=outer
 stack:=env::outer
 ex:=[]
 calm:=true
 fn:=λ_=>false
 pn:=[]
 xe:=λe s'=>wpAny (model P w) (A.deeper env) (leaving env e) (λ_ s''=>CXE P w outer H s E e s'') (λe' s''=>CXE P w outer H s E e' s'') s'
abbrev qb2(scope:Scope)(L:Addr)(ar:List (Str×Addr))(qual:Str)(f c':Addr):Env:=newEnv scope L mainGlobals ar (qual++ ".<locals>.") (some f) (.ref c') none builtinsNs
theorem quX{P:Program}{w:World}{K:W.Frag}{mg:Str->Option Value}{base:Heap}{N:List Str}{scope:Scope}{L:Addr}{ar:List (Str×Addr)}{qual:Str}{f c':Addr}{A:Around}{outer:List Env}{s:Shared}{H:Hp}{E E1:XK}(h: ∀C H',E1 (.ref C) none H'->E (.ref C) none H'):qaH (CXE P w) (qgj P w K mg base N (qb2 scope L ar qual f c') A outer s H E) E1:=
 λO Z H1 s1 e s' I ⟨C,H',a,t,B,he,F,q⟩=>by subst he;exact Vc (Fly.leave rfl rfl rfl I F) (λ_ s'' F'=>⟨C,H',a,t,B,rfl,F',h C H' q⟩) λ_ _ x=>x
theorem qpb{P:Program}{w:World}{K:W.Frag}{mg:Str->Option Value}{base:Heap}{k:Nat}{A:Around}{outer:List Env}{s:Shared}{H:Hp}{Q:VK}{E:XK}{f c':Addr}{qual:Str}{params:Arguments}{body:Expr}{scope:Scope}{ar:List (Str×Addr)}{pm aD:Value}{N:List Str}{Z:St}{t:TE}(hr:qa7 k A)(e0:qkQ P w K mg base A outer s H)(hf:s.heap.get? f=some (W.kla_obj "<lambda>" qual params body scope ar pm c' aD))(aI:s.heap.CodeRec (.ref c') qual)(hk:scope.kind= .function)(fS:scope.isCoroutine=false)(b7:scope.isGenerator=false)(ah: ∀y∈scope.names,y.2≠.cell)(hb:bindArgs (W.kla_fn "<lambda>" qual params body scope ar pm (.ref c') aD) ⟨[],[]⟩=pure [])(inj: ∀x y c,ar.lookup x=some c->ar.lookup y=some c->x=y)(has: ∀x,scope.names.lookup x=some .free->∃c,ar.lookup x=some c)(cl: ∀x c,ar.lookup x=some c->(∃v,s.heap.IsCell c v)/\H c=none)(val: ∀(i:Nat)(x:Str)(v:V),N[i]? =some x->Z[i]? =some (some v)->scope.names.lookup x=some .free/\∃c u,ar.lookup x=some c/\s.heap.IsCell c (some u)/\RelV v u)(len:Z.length=N.length)(aq:PE (qgj P w K mg base N (qb2 scope s.heap.objs.size ar qual f c') A outer s H E) body t)(ht:t Z H Q):
  codeAny (model P w) A (.call (.ref f) ⟨[],[]⟩) (CR (CXE P w) outer P w H s Q E) s:=by
 have lim:=e0.mod.nolimit.keeps λb o e=>(e0.bs b o e).1;refine W.kla_callFunE hr.depth hf rfl fS b7 rfl aI ?_;rw[hb];refine Vb (wpAny_newFunctionEnv ah (λy hy=>nomatch hy) (λh1 hn hs=> ?_) hk);have kp: ∀b o,s.heap.get? b=some o->h1.get? b=some o:=λb o e=>(hs.2 b (Vn (Vi e))).trans (Vg _ e);refine⟨lim.keeps kp,W.kla_codeExpr ?_⟩;have cA: ∀b:Addr,b∉([]):=λb z=>nomatch z;have I:Inv (qgj P w K mg base N (qb2 scope s.heap.objs.size ar qual f c') A outer s H E) [] Z H { s with heap:=h1,toks:=s.toks+([]:List (Str×Value)).length }:=by
  refine⟨⟨e0.mod,hk,rfl,rfl,Vl _,inj,λy hy=> ?_,λy c z=>(by cases z),λ_=>hr.hd,Around.frames_deeper e0.frames,.inr ⟨rfl,rfl⟩,λb z=>absurd z (cA b),e0.bs,e0.bsz,λb _ _=>cA b,λb z=>absurd z (cA b),e0.funs,e0.frf⟩,
   rfl,e0.bare,Un.kept kp,⟨_,hn,λi y v bM h2 h3=> ?_⟩,λy c h=> ?_,e0.hok.fresh (Vl _),λy c h=>(cl y c h).2,λp hp=>absurd (show p∈([]) from hp) (by simp),e0.hok.kept kp,len⟩
  ·rcases hy with hy|hy
   ·exact absurd rfl (ah _ (Vu hy))
   ·exact has y hy
  ·obtain⟨k1,c,u,k2,k3,k4⟩:=val i y v bM h2;exact⟨u,k4,.inr ⟨.inr k1,c,k2,k3.keeps kp⟩⟩
  ·obtain⟨v,q⟩:=(cl y c h).1;exact⟨v,q.keeps kp⟩
 exact Vc (aq [] _ Z H Q I ht) (λu s' ⟨v,H',J,r,q⟩=>⟨v,H',J.os,J.bare,J.base,J.hok,r,q⟩) λe s' z=>z
theorem qsJ{CX:CXT}{P:Program}{w:World}{K:W.Frag}{mg:Str->Option Value}{base:Heap}{k:Nat}{f:Addr}{name qual:Str}{params:Arguments}{body:List Stmt}{scope:Scope}{dV kV doc pm cdv ct oc:Value}{an od:Option Addr}{osl:Array (Option Value)}{N ps:List Str}(lk:K.lookup f=some ⟨oc,od,.func (W.fnOf name qual params body scope dV kV doc pm an cdv ct),osl⟩)(aI:W.codeIn K cdv qual=true)(S:qby N ps scope){A:Around}{outer:List Env}{s:Shared}{H:Hp}{args:Args}{us:List Value}{vs:List V}{Q:VK}{E:XK}(hr:qa7 (k+1) A)(e0:qkQ P w K mg base A outer s H)(hb:BindsTo s (W.fnOf name qual params body scope dV kV doc pm an cdv ct) args (ps.zip us))(r:qav vs us)(hl:vs.length=ps.length)(aq:qa7 k (A.deeper (envOfC qual scope s.heap.objs.size f cdv))->∃t,PSs (qfr CX P w K mg base N qual scope f cdv A outer s H E) body t/\t { nx:=λ_ H'=>Q .non H',rt:=Q } (start N vs) H):
  codeAny (model P w) A (.call (.ref f) args) (CR CX outer P w H s Q E) s:=by
 have KX:=e0.mod.kin.keeps λb o e=>(e0.bs b o e).1;have lim:=e0.mod.nolimit.keeps λb o e=>(e0.bs b o e).1;have a9: ∀y∈ps.zip us,scope.names.lookup y.1=some _\/(scope.names.lookup y.1=some _/\((cellsFrom (s.heap.objs.size+1) _ []).lookup y.1).isSome=true):=λ⟨n,v⟩ hy=>by
  rcases S.par n (List.of_mem_zip hy).1 with q|q
  ·exact .inl q
  ·exact .inr ⟨q,W.cellsFrom_some _ _ _ (.inl q)⟩
 refine codeAny_call_function hr.depth (KX _ _ lk) rfl S.co S.gen rfl (W.codeRec_of KX aI) (hb _ _ _ _ ?_);refine wpAny_newFunctionEnv_cells S.kind a9 λenv he s1 x=> ?_;subst he;refine⟨lim.keeps x.toInCall.keep,codeAny_func ?_⟩;obtain⟨t,ht,hq⟩:=aq (hr.deeper _);have I:Inv (qfr CX P w K mg _ N _ _ f cdv A _ s H E) [] _ H s1:=qc0 S hr.hd e0 hl r x;refine Vc (ht [] s1 _ H _ I hq) (λfl s' hs=> ?_) λe s' hs=>hs;cases fl with
 |ret u=>obtain⟨v,ae,H',J,rv,q⟩:=hs;exact⟨v,H',J.os,J.bare,J.base,J.hok,rv,q⟩
 |next=>obtain⟨ae,H',J,q⟩:=hs;exact⟨V.non,H',J.os,J.bare,J.base,J.hok,rfl,q⟩
 |brk|cont=>obtain⟨_,_,_,q⟩:=hs;exact False.elim q
structure qm4(k:Nat)(A:Around):Prop where
 dp:A.depth+3*k+5<recursionLimit
 un:A.units+16*k+200<cLine
noncomputable def cxN(P:Program)(w:World)(K:W.Frag)(mg:Str->Option Value)(base:Heap)(N:List Str)(qual:Str)(scope:Scope)(f:Addr)(cd:Value)(A:Around)(outer:List Env)(s:Shared)(H:Hp):Cx:=
 { qfr CX0 P w K mg base N qual scope f cd A outer s H (λ_ _ _=>False) with calm:=false,xe:=λ_ _=>False }
structure FnN(P:Program)(w:World)(K:W.Frag)(mg:Str->Option Value)(base:Heap)(k:Nat)(f:Addr)(fd:FuncData)(ps:List Str)(sp:List V->Hp->VK->Prop):Prop where
 len: ∀vs H Q,sp vs H Q->vs.length=ps.length
 run: ∀(A:Around)(outer:List Env)(s:Shared)(H:Hp)(args:Args)(us:List Value)(vs:List V)(Q:VK),qm4 k A->qkQ P w K mg base A outer s H->BindsTo s fd args (ps.zip us)->qav vs us->sp vs H Q->
  codeAny (model P w) A (.call (.ref f) args) (CR CX0 outer P w H s Q (λ_ _ _=>False)) s
theorem qsL{P:Program}{w:World}{K:W.Frag}{mg:Str->Option Value}{base:Heap}{k:Nat}{x qual:Str}{st:Stmt}{f:Addr}{fd:FuncData}{N ps:List Str}{sp:List V->Hp->VK->Prop}(F:Fun K x qual st f fd)(S:qby N ps (qad st))(len: ∀vs H Q,sp vs H Q->vs.length=ps.length)(aq: ∀(cdv:Value)(A:Around)(outer:List Env)(s:Shared)(H:Hp)(vs:List V)(Q:VK),qm4 k (A.deeper (envOfC qual (qad st) s.heap.objs.size f cdv))->sp vs H Q->
   ∃t,PSs (cxN P w K mg base N qual (qad st) f cdv A outer s H) (qay st) t/\t { nx:=λ_ H'=>Q .non H',rt:=Q } (start N vs) H):FnN P w K mg base (k+1) f fd ps sp:=by
 obtain⟨oc,od,kV,doc,pm,an,cdv,ct,osl,rfl,lk,aI⟩:=F.ex;refine⟨len,λA outer s H args us vs Q hr e0 hb r cB=> ?_⟩;have hl:=len _ _ _ cB;have KX:K.In s.heap:=e0.mod.kin.keeps λb o e=>(e0.bs b o e).1;have lim:s.heap.NoLimit:=e0.mod.nolimit.keeps λb o e=>(e0.bs b o e).1;have a9: ∀y∈ps.zip us,(qad st).names.lookup y.1=some .local\/((qad st).names.lookup y.1=some .cell/\((cellsFrom (s.heap.objs.size+1) (qad st).names []).lookup y.1).isSome=true):=λ⟨n,v⟩ hy=>by
  rcases S.par n (List.of_mem_zip hy).1 with q|q
  ·exact .inl q
  ·exact .inr ⟨q,W.cellsFrom_some _ _ _ (.inl q)⟩
 refine codeAny_call_function (by have:=hr.dp;omega) (KX _ _ lk) rfl S.co S.gen rfl (W.codeRec_of KX aI) (hb _ _ _ _ ?_);refine wpAny_newFunctionEnv_cells S.kind a9 λenv he s1 x=> ?_;subst he;refine⟨lim.keeps x.toInCall.keep,codeAny_func ?_⟩;obtain⟨t,ht,hq⟩:=aq cdv A outer s H vs Q ⟨by have:=hr.dp;show A.depth+1+3*k+5<_;omega,by have:=hr.un;show A.units+3+16*k+200<_;omega⟩ cB;have I0:Inv (qfr CX0 P w K mg base N qual (qad st) f cdv { A with handled:=none } outer s H (λ_ _ _=>False)) [] (start N vs) H s1:=qc0 S rfl ⟨e0.frames,e0.mod,e0.bs,e0.bsz,e0.funs,e0.frf,e0.hok,e0.bare⟩ hl r x;have ok:=I0.ok;have I:Inv (cxN P w K mg base N qual (qad st) f cdv A outer s H) [] (start N vs) H s1:=⟨⟨ok.mod,ok.kind,ok.glob,ok.blt,ok.above,ok.inj,ok.has,ok.cab,(λz=>by cases z),Around.frames_deeper e0.frames,ok.stk,ok.exf,ok.bs,ok.bsz,ok.noex,ok.exfs,ok.funs,ok.frf⟩,I0.os,I0.bare,I0.base,I0.loc,I0.cell,I0.free,I0.freeC,I0.pin,I0.hok,I0.len⟩
 refine Vc (ht [] s1 (start N vs) H _ I hq) (λfl s' hs=> ?_) λe s' hs=>hs.elim;cases fl with
 |ret u=>obtain⟨v,ae,H',J,rv,q⟩:=hs;exact⟨v,H',J.os,J.bare,J.base,J.hok,rv,q⟩
 |next=>obtain⟨ae,H',J,q⟩:=hs;exact⟨V.non,H',J.os,J.bare,J.base,J.hok,rfl,q⟩
 |brk|cont=>obtain⟨_,_,_,q⟩:=hs;exact False.elim q
theorem qlz{ps:List Str}{x:Str}(F:FnN X.prog X.w X.K X.mg X.base k f fd ps sp)(hr:qm4 k X.A)(hg:Gl X x)(hm:X.mg x=some (.ref f))(hk:W.keepIn X.K (.ref f)=true)(hb:qaY X.K fd ps [])(ha:PA X (e::es) t)(aH:(x==("__debug__" :Str))=false:=by decide)(he:starEach (e::es) X.env=(false,eval e X.env)::starEach es X.env:=by rfl)(ay:(backTo pos (starEach es X.env)).any (·.1)=false:=by rfl):
  PE X (.Call (.Name x p) (e::es) [] pos) (λZ H Q=>t Z H λvs H1=>sp vs H1 Q):=by
 intro O s Z H Q I h;refine Vf (qbg I hg hm ?_ aH);refine W.callWith_K I.ok.mod.kin hk (thn (ha pos _ s Z H _ I h) λus s1 ⟨vs,H1,I1,r,q⟩=>⟨I1.kIn,?_⟩) he ay;have hl:us.length=ps.length:=by rw[<-r.length];exact F.len _ _ _ q
 have aU:=hb s1 us I1.kIn (by grind);rw[List.append_nil] at aU;refine wpAny_call (codeAny_mono (F.run X.A _ s1 H1 _ us vs Q hr I1.env0 aU r q) λr s' hq=> ?_);cases r with
 |error e=>exact False.elim hq
 |ok fl=>
  cases fl with
  |ret u=>exact I1.after hq
  |next|brk|cont=>exact False.elim hq
noncomputable def qqN(base:Heap)(CA:Addr)(wd:Addr->Option Str)(Q:VK):XK:=λv _ H'=> ∃C bm x,v= .ref C/\qdi base C bm/\(Value.ref C::bm).contains (.ref CA)=true/\wd C=some x/\∀aW:Hp,(∀b o,H' b=some o->aW b=some o)->Q (.str x) aW
noncomputable def qhP(base:Heap)(wd:Addr->Option Str):List V->Hp->VK->Prop:=λvs H Q=> ∃a C bm x,vs=[.ref a]/\H a=some (ExO a C)/\qdi base C bm/\wd C=some x/\∀H':Hp,(∀b o,H b=some o->H' b=some o)->Q (.str x) H'
noncomputable def quj(P:Addr)(qual:Str)(ob:Addr->Value->Obj)(base:Heap)(CA:Addr)(wd:Addr->Option Str)(fr:List (Str×Nat))(t:XK->TE):TE:=λZ H Q=>qgC P qual H/\
 ∀(f c':Addr)(aD:Value)(H':Hp),qgC P qual H'->qfH P H H'->(∀b,H b≠none->H' b≠none)->H f=none->H' f=some (qqB f (ob c' aD))->H' c'=some (qdl c' qual)->t (qqN base CA wd Q) (qbr [] fr Z) H' Q
structure qkN(z:Str)(st:Stmt):Prop where
 sc:qby [z, "e"] [z] (qad st)
 bd: ∃p1 p2 p3 p4 p5 p6 p7 p8 p9 i6,qay st=[.Try [.Return (some (.Call (.Name z p1) [] [] p2)) p3] [.ExceptHandler (some (.Name "AskError" p4)) (some "e") [.Return (some (.Call (.Name "_law_class" p5) [.Name "e" p6] [] p7)) p8] p9] [] [] i6]
 d:(qad st).names.lookup z=some .local
 e:(qad st).names.lookup ("e" :Str)=some .local
 a:(qad st).names.lookup ("AskError" :Str)=some .globalImplicit
 c:(qad st).names.lookup ("_law_class" :Str)=some .globalImplicit
section
variable{qual:Str}
theorem qoB{X:Cx}{st:Stmt}{fT:Addr}{fC:Addr}{CA:Addr}{P:Addr}{fdT:FuncData}{fdC:FuncData}{bmA:List Value}{wd:Addr->Option Str}{params:Arguments}{body:Expr}{scope:Scope}{bX:Pos}{p:Pos}{pos:Pos}{fr:List (Str×Nat)}{t:XK->TE}{k:Nat}{z:Str}(T:qkN z st)(F:Fun X.K "_law_told" "_law_told" st fT fdT)(hmT:X.mg "_law_told" =some (.ref fT))(bA:qaY X.K fdT [z] [])(iz:Gl X "_law_told")(hA:X.mg "AskError" =some (.ref CA))(hEA:qdi X.base CA bmA)(GC:FnN X.prog X.w X.K X.mg X.base 1 fC fdC ["_law_kept"] (qhP X.base wd))(mC:X.mg "_law_class" =some (.ref fC))(kC:PySem.W.keepIn X.K (.ref fC)=true)(bC:qaY X.K fdC ["_law_kept"] [])(iu:PE X (.Lambda params body scope bX) (qwp P qual λc' aD=>PySem.W.kla_obj "<lambda>" qual params body scope (clOf X.env scope.names []) ((X.mg "__name__").getD .none) c' aD))(dW: ∀x,X.fn x=true)(hk:scope.kind= .function)(fS:scope.isCoroutine=false)(b7:scope.isGenerator=false)(ah: ∀y∈scope.names,y.2≠.cell)(ag: ∀y∈scope.names,y.2= .free->X.env.kindOf y.1=some .cell\/X.env.kindOf y.1=some .free)(aR: ∀p∈fr,X.N[p.2]? =some p.1/\scope.names.lookup p.1=some .free)(hb: ∀(ar:List (Str×Addr))(pm cv aD:Value),bindArgs (PySem.W.kla_fn "<lambda>" qual params body scope ar pm cv aD) ⟨[],[]⟩=pure [])(hr:qa7 (k+3) X.A)(aq: ∀(A:Around)(outer:List Env)(s:Shared)(H:Hp)(f c':Addr)(E:XK),qa7 k (A.deeper (qb2 scope s.heap.objs.size (clOf X.env scope.names []) qual f c'))->
   PE (qgj X.prog X.w X.K X.mg X.base (fr.map (·.1)) (qb2 scope s.heap.objs.size (clOf X.env scope.names []) qual f c') A outer s H E) body (t E))(tm: ∀E E' Z H Q,(∀v o H',E v o H'->E' v o H')->t E Z H Q->t E' Z H Q)(aF:starEach [.Lambda params body scope bX] X.env=(false,eval (.Lambda params body scope bX) X.env)::starEach [] X.env:=by rfl)(hz:(z==("__debug__" :Str))=false/\(z==("__classdict__" :Str))=false:=by decide):
  PE X (.Call (.Name "_law_told" p) [.Lambda params body scope bX] [] pos) (quj P qual (λc' aD=>PySem.W.kla_obj "<lambda>" qual params body scope (clOf X.env scope.names []) ((X.mg "__name__").getD .none) c' aD) X.base CA wd fr t):=by
 intro O s Z H Q I h;obtain⟨tab,h⟩:=h;refine Vf (qbg I iz hmT ?_ (by decide))
 refine PySem.W.callWith_K (h₀:=X.base) I.ok.mod.kin F.kp (thn ((qaS iu qbn aF) pos O s Z H (λvs H1=> ∃f c' aD,vs=[.ref f]/\H1 f=some (qqB f (PySem.W.kla_obj "<lambda>" qual params body scope (clOf X.env scope.names []) ((X.mg "__name__").getD .none) c' aD))/\H1 c'=some (qdl c' qual)/\t (qqN X.base CA wd Q) (qbr [] fr Z) H1 Q) I
  ⟨tab,λf c' aD H' a1 a2 a3 a4 a5 a6=>⟨f,c',aD,rfl,a5,a6,h f c' aD H' a1 a2 a3 a4 a5 a6⟩⟩) λus s1 ⟨vs,H1,I1,r,q⟩=>⟨I1.kIn,?_⟩) aF rfl
 obtain⟨f,c',aD,rfl,hf,hc,q⟩:=q;obtain⟨u,rfl,ru⟩:=qcq r;cases ru;obtain⟨oc,od,kV,doc,pm,an,cdv,ct,osl,rfl,lk,aI⟩:=F.ex;have aU:=bA s1 [.ref f] I1.kIn rfl;rw[List.append_nil] at aU;obtain⟨p1,p2,p3,p4,p5,p6,p7,p8,p9,i6,hbd⟩:=T.bd;refine wpAny_call (codeAny_mono (qsJ (CX:=CX0) (E:=λ_ _ _=>False) (Q:=Q) lk aI T.sc hr I1.env0 aU r rfl λgz=> ?_) λr s' hq=> ?_)
 rotate_left
 ·cases r with
  |error e=>exact False.elim hq
  |ok fl=>
   cases fl with
   |ret u=>exact I1.after hq
   |next|brk|cont=>exact False.elim hq
 rw[hbd];generalize hY:(qfr CX0 X.prog X.w X.K X.mg X.base [z, "e"] "_law_told" (qad st) fT cdv X.A X.stack s1 H1 (λ_ _ _=>False)).nox=Y;have iQ: ∀(aY:List (Addr×Obj))(W:St->Addr->Hp->Prop),PE (Y.hold aY (XE Y aY W)) (.Call (.Name z p1) [] [] p2) (λae H' Q'=>ae[0]? =some (some (.ref f))/\H'=H1/\t (eW W ae) (qbr [] fr Z) H1 Q'):=by
  subst hY;intro aY W aZ s2 ae H2 Q' I2 hq;obtain⟨e0,rfl,ht⟩:=hq;refine Vf (thn (qg0 (i:=0) rfl (.inl T.d) hz.1 hz.2 aZ s2 ae H2 (λv H3=>v= .ref f/\H3=H2) I2 ⟨_,e0,rfl,rfl⟩) λu s3 ⟨v,H3,I3,rv,ev,eH⟩=> ?_);subst ev eH;cases rv;have ho:s3.heap.get? f=some (PySem.W.kla_obj "<lambda>" qual params body scope (clOf X.env scope.names []) ((X.mg "__name__").getD .none) c' aD):=(I3.hok f _ hf).1;have hcr:s3.heap.CodeRec (.ref c') qual:=(I3.hok c' _ hc).1;refine PySem.W.callWith_F0 ⟨_,_,_,_,ho⟩ ?_;have I0:=I3.unhold;have cs: ∀x c,X.env.cells.lookup x=some c->∀v,s1.heap.IsCell c v->s3.heap.IsCell c v:=λx c e v ⟨o,h1,h2⟩=>by
   refine⟨o,I0.base.keep c o h1 (I1.freeC x c e) (λhb=> ?_) (λz=>nomatch z),h2⟩
   rcases List.mem_cons.mp (I1.stkSub c hb) with z|z
   ·exact I1.cne x c e z
   ·obtain⟨_,o',e',_⟩:=I1.ok.funs.mem z;have:=I1.ok.cab x c (dW x) e;exact absurd (Vi e') (Nat.not_lt.mpr this)
  have ax: ∀x c,(clOf X.env scope.names []).lookup x=some c->X.env.cells.lookup x=some c:=λx c=>qem _ _ (λ_ _ z=>by cases z);have hB:=aq (X.A.deeper (envOfC "_law_told" (qad st) s1.heap.objs.size fT cdv)) (envOfC "_law_told" (qad st) s1.heap.objs.size fT cdv::X.stack) s3 H3 f c' (eW W ae) ((qa7.deeper gz _).mono (by omega));have e0:qkQ X.prog X.w X.K X.mg X.base (X.A.deeper (envOfC "_law_told" (qad st) s1.heap.objs.size fT cdv)) (envOfC "_law_told" (qad st) s1.heap.objs.size fT cdv::X.stack) s3 H3:=I3.env0;refine wpAny_call (codeAny_mono (qpb (k:=k) (Z:=qbr [] fr Z) (Q:=Q') (gz.mono (by omega)) e0 ho hcr hk fS b7 ah (hb _ _ _ _) (λx y c h1 h2=>I1.ok.inj x y c (ax _ _ h1) (ax _ _ h2)) (λx hx=> ?_) (λx c h1=> ?_) (λi x v h1 h2=> ?_) ?_ hB ht) λr s' hq=> ?_)
  ·obtain⟨c,hc⟩:=I1.ok.has x (ag _ (Vu hx) rfl);exact⟨c,qbw _ _ hc (.inr (Vu hx))⟩
  ·have e:=ax _ _ h1;obtain⟨v,hv⟩:=I1.cell x c e;exact⟨⟨v,cs x c e v hv⟩,I1.freeC x c e⟩
  ·rw[List.getElem?_map] at h1;cases q1:fr[i]? with
   |none=>rw[q1] at h1;cases h1
   |some pr=>
    rw[q1] at h1;cases h1;obtain⟨g1,g2⟩:=aR pr (Vt q1);unfold qbr at h2;rw[List.map_nil,List.nil_append,List.getElem?_map,q1] at h2;have e2:Z[pr.2]? =some (some v):=by
     have h2:(Z[pr.2]?).join=some v:=Option.some.inj h2;cases q2:Z[pr.2]? with
     |none=>rw[q2] at h2;cases h2
     |some o=>rw[q2] at h2;cases o with
      |none=>cases h2
      |some y=>cases h2;rfl
    have jl:=ag _ (Vu g2) rfl;obtain⟨m,hn,hl⟩:=I1.loc;obtain⟨u,ru,l⟩:=hl pr.2 pr.1 v g1 e2 (.inr jl)
    rcases l with⟨z,_⟩|⟨_,c,e6,hv⟩
    ·rcases jl with y|y<;>(rw[y] at z;cases z)
    ·exact⟨g2,c,u,qbw _ _ e6 (.inr (Vu g2)),cs _ c e6 _ hv,ru⟩
  ·unfold qbr;simp
  ·cases r with
   |error e=>obtain⟨C,H',a,t',B,he,F',C',hC',w⟩:=hq;cases hC';exact⟨ae,_,s3,C,H',a,t',B,he,I0,F',w⟩
   |ok fl=>
    cases fl with
    |ret u=>exact I3.after hq
    |next|brk|cont=>exact False.elim hq
 have cls: ∀a,PE (Y.within a) (.Call (.Name "_law_class" p5) [.Name "e" p6] [] p7) (λae H' Q'=>qeA (qqw 1) qqx ae H' λvs H2=>qhP X.base wd vs H2 Q'):=λa=>by
  subst hY;have e1:((X.A.deeper (envOfC "_law_told" (qad st) s1.heap.objs.size fT cdv)).mark (some (.ref a))).depth=(X.A.deeper (envOfC "_law_told" (qad st) s1.heap.objs.size fT cdv)).depth:=rfl;have e2:((X.A.deeper (envOfC "_law_told" (qad st) s1.heap.objs.size fT cdv)).mark (some (.ref a))).units=(X.A.deeper (envOfC "_law_told" (qad st) s1.heap.objs.size fT cdv)).units:=rfl;have d1:=gz.dp;have d2:=gz.un;have rn:qm4 1 ((X.A.deeper (envOfC "_law_told" (qad st) s1.heap.objs.size fT cdv)).mark (some (.ref a))):=⟨by rw[e1];omega,by rw[e2];omega⟩
  exact qlz GC rn T.c mC kC bC (qaS (qg0 (i:=1) rfl (.inl T.e)) qbn)
 have stk:Y.stack=Y.env::Y.outer:=by subst hY;rfl
 have frm:Y.env.frame=some Y.env.locals:=by subst hY;rfl
 have nd:Y.N.Nodup:=by subst hY;exact T.sc.nd
 have n1:Y.N[1]? =some ("e" :Str):=by subst hY;rfl
 have kd:Y.env.kindOf "e" =some .local:=by subst hY;exact T.e
 have ga:Gl Y "AskError" :=by subst hY;exact T.a
 have ma:Y.mg "AskError" =some (.ref CA):=by subst hY;exact hA
 have ea:qdi Y.base CA bmA:=by subst hY;exact hEA
 have bs:Y.base=X.base:=by subst hY;rfl
 refine⟨_,PSs.nox (by rw[hY];exact qcQ (qos (X:=Y) (i:=1) stk frm nd n1 kd ga ma ea (λaY W=>qcQ (qeR (iQ aY W))) (λa=>qcQ (qeR (cls a))))),?_⟩;refine⟨rfl,rfl,?_⟩;refine tm _ _ _ _ _ (λv o H' hx=> ?_) q;obtain⟨C,bm,x,rfl,h1,h2,h3,h4⟩:=hx;refine⟨C,rfl,bm,bs▸h1,h2,λa ha=>⟨.ref a,rfl,a,C,bm,x,rfl,qaf,h1,h3,λaW s'=>h4 aW λb u e=>s' b u ?_⟩⟩;rw[qab (qak e ha)];exact e
end
end L2
namespace PL
open PySem L2 SR SetL
theorem passI{N:List Str}{qual:Str}:qaH (CXE P w) (qfr (CXE P w) P w K mg base N qual scope f cd A outer s H E) E:=quY λ_ _ h=>h
theorem passLI{N:List Str}{qual:Str}:qaH (CXE P w) (qgj P w K mg base N (qb2 scope L ar qual f c') A outer s H E) E:=quX λ_ _ h=>h
section
variable{qual:Str}
theorem tabq_same(h:qgC Q qual H)(hP:H P=some (.tbl ps))(ne:Q≠P)(s:qfH P H H2):qgC Q qual H2:=by obtain⟨qs,h1,h2,h3⟩:=h;refine⟨qs,s _ _ h1 ne,h2,λpos v e=> ?_⟩;obtain⟨c,e1,e2⟩:=h3 pos v e;exact⟨c,e1,s _ _ e2 λz=>by rw[z,hP] at e2;cases e2⟩
end
end PL
namespace HD
open PySem L2 PL
abbrev e2(x:Str)(s:Stmt):Str×Stmt:=(x,s)
abbrev c2(x:Str)(n:Int):Str×Int:=(x,n)
noncomputable def qvN(K:W.Frag)(x:Str):Option (Addr×Obj):=match W.nsIn K mainGlobals x with
 |some (some (.ref f))=>(match K.lookup f with|some o=>some (f,o)|none=>none)
 |_=>none
noncomputable def qpA(K:W.Frag)(x:Str):Option FuncData:=match qvN K x with
 |some (_,⟨_,_,.func fd,_⟩)=>some fd
 |_=>none
noncomputable def okD(K:W.Frag)(x:Str):Bool:=match qvN K x with
 |some (f,⟨_,_,.func fd,_⟩)=>W.codeIn K fd.code x&&W.keepIn K (.ref f)
 |_=>false
noncomputable def due(x:Str)(st:Stmt)(fd:FuncData):FuncData:=W.fnOf x x (qao st) (qay st) (qad st) .none fd.kwdefaults fd.doc fd.pyModule fd.annotations fd.code fd.closureTuple
noncomputable def okN(K:W.Frag)(x:Str):Bool:=match W.nsIn K mainGlobals x with
 |some none=>true
 |_=>false
noncomputable def Df(K:W.Frag)(mg:Str->Option Value)(x:Str)(st:Stmt):Prop:=
 ∃(f:Addr)(oc:Value)(od:Option Addr)(osl:Array (Option Value))(kV doc pm:Value)(an:Option Addr)(cdv ct:Value),
  K.lookup f=some ⟨oc,od,.func (W.fnOf x x (qao st) (qay st) (qad st) .none kV doc pm an cdv ct),osl⟩/\W.codeIn K cdv x=true/\W.keepIn K (.ref f)=true/\mg x=some (.ref f)/\
   W.nsIn K mainGlobals x=some (some (.ref f))
section
variable{x:Str}
theorem qvU(X:K.In h)(G:h.Ns mainGlobals mg)(a:okD K x=true)(e:qpA K x=(qpA K x).map (due x st)):Df K mg x st:=by
 unfold okD at a;unfold qpA at e;split at a
 ·rename_i f oc od fd osl q;rw[q] at e;have e:=Option.some.inj e;unfold qvN at q;split at q
  ·rename_i f' n;split at q
   ·rename_i o lk;cases q;have a:=Bool.and_eq_true_iff.mp a;exact⟨_,_,_,_,fd.kwdefaults,fd.doc,fd.pyModule,fd.annotations,fd.code,fd.closureTuple,by rw[lk,show W.fnOf x x _ _ _ _ _ _ _ _ _ _=fd from e.symm],a.1,a.2,W.mg_of X G n,n⟩
   ·cases q
  ·cases q
 ·cases a
theorem qki{K:W.Frag}{h:Heap}{tb:List (Str×Stmt)}(X:K.In h)(G:h.Ns mainGlobals mg)(a:(tb.all λp=>okD K p.1)=true)(e:tb.map (λp=>qpA K p.1)=tb.map λp=>(qpA K p.1).map (due p.1 p.2)): ∀(i:Nat)(x:Str)(st:Stmt),tb[i]? =some (x,st)->Df K mg x st:=λi x st hi=>by have a:=List.all_eq_true.mp a _ (Vt hi);have e:=congrArg (λl=>l[i]?) e;simp only[List.getElem?_map,hi] at e;exact qvU X G a (Option.some.inj e)
theorem qoX(X:K.In h)(G:h.Ns mainGlobals mg){l:List Str}(a:l.all (okN K)=true): ∀x∈l,mg x=none:=λx hx=>by
 have a:=List.all_eq_true.mp a x hx;unfold okN at a;split at a
 ·rename_i q;exact W.mg_none_of X G q
 ·cases a
end
noncomputable def tOf(K:W.Frag)(y:Str):Addr:=((W.tabIn K y).getD (0,0)).2
noncomputable def qgl(K:W.Frag)(ys:List Str):List (Addr×Addr):=ys.map λy=>(W.tabIn K y).getD (0,0)
noncomputable def okT(K:W.Frag)(ys:List Str):Bool:=decide (ys.map (tOf K)).Nodup&&ys.all λy=>match W.tabIn K y with
 |some (_,T)=>(match K.lookup T with|none=>true|some _=>false)
 |none=>false
theorem qmB{ys:List Str}(h:okT K ys=true):ys.map (W.tabIn K)=(qgl K ys).map some/\(∀T∈(qgl K ys).map (·.2),K.lookup T=none)/\(ys.map (tOf K)).Nodup:=by
 have h:=Bool.and_eq_true_iff.mp h;have nd:=of_decide_eq_true h.1;have h:=List.all_eq_true.mp h.2;refine⟨?_,?_,nd⟩
 ·unfold qgl;rw[List.map_map];refine List.map_congr_left λy hy=> ?_;have:=h y hy;show W.tabIn K y=some ((W.tabIn K y).getD _);cases q:W.tabIn K y with
  |none=>simp_all
  |some p=>rfl
 ·intro T hT;obtain⟨p,hp,rfl⟩:=List.mem_map.mp hT;obtain⟨y,hy,rfl⟩:=List.mem_map.mp hp;have:=h y hy;cases q:W.tabIn K y with
  |none=>simp_all
  |some p=>
   rw[q] at this;dsimp only at this;split at this
   ·assumption
   ·cases this
end HD
namespace DH
open PySem PySem.Spec PyProof.Rows PySem.W
noncomputable def RawD(h:Heap)(d:Addr)(es:Array DictEntry)(ep:Nat):Prop:= ∃o,h.get? d=some o/\o.ExactDict/\o.data= .dict es ep
theorem RawD.at(x:RawD h d es ep)(k: ∀o,h.get? d=some o->h'.get? d=some o):RawD h' d es ep:=let ⟨o,a,b⟩:=x;⟨o,k o a,b⟩
theorem RawD.lt(x:RawD h d es ep):d<h.objs.size:=let ⟨_,a,_⟩:=x;Vi a
theorem RawD.ty{s:Shared}{ep:Nat}(x:RawD s.heap d es ep):s.TypeIs (.ref d) "dict" :=let ⟨o,a,b,_⟩:=x;⟨o,a,b.1⟩
theorem qvq{s:Shared}{es:Array DictEntry}{ep:Nat}(lo:(d==sysModules)=false)(x:RawD s.heap d es ep)(q:Q (.ref s.heap.objs.size) { s with heap:=s.heap.push { cls:=.type "dict_keyiterator",data:=.fields #[.ref d,.int 0 0,.int es.size 0,.int ep 0] } }):wpAny (model prog w) A (pyIter (.ref d)) Q E s:=by obtain⟨o,ho,hx,hd⟩:=id x;have ty:=x.ty;refine wpAny_pyIter_slot ty F.slot_dict_iter (wpAny_call_entry F.slot_dict_iter ty F.entry_dict_iter ?_ (F.args_dict_iter_1 _));refine Va ?_;refine Va (wpAny_notOrdered_dict ty ?_);refine Vb ?_;show wpAny _ _ (Builtin.Dict.showsAll d>>=_) _ _ s;unfold Builtin.Dict.showsAll;rw[if_neg (by grind)];refine Va (Vb ?_);refine Va (wpAny_dictEntries ho hd (Va (wpAny_dictEpoch ho hd ?_)));exact Va (wpAny_newObj_type (Vb ⟨_,rfl, "dict_keyiterator",_,⟨_,Vh _ rfl,rfl⟩,F.slot_dict_keyiterator_next.lookup,by simpa [rawInt] using q⟩))
theorem qvh(hi:s.heap.IsKeyIter it d i es.size ep)(x:RawD s.heap d es ep)(lt:i<es.size)(q: ∀h',h'.IsKeyIter it d (i+1) es.size ep->Heap.SameBut it s.heap h'->Q (some es[i].key) { s with heap:=h' }):wpAny (model prog w) A (pyNext (.ref it)) Q E s:=by
 obtain⟨o,ho,hc,hd⟩:=id hi;obtain⟨od,aQ,hx2,hd2⟩:=id x;have ty:=hi.typeIs;unfold pyNext;refine Va (wpAny_attempt (wpAny_callSpecial?_slot (name:=Str.ofString "__next__") ty F.slot_dict_keyiterator_next (wpAny_call_entry F.slot_dict_keyiterator_next ty F.entry_dict_keyiterator_next ?_ (F.args_dict_keyiterator_next_1 _))));refine Va (Vb ?_);refine Va ?_;refine Va ?_
 first|refine Va (wpAny_typeNameOfWhole_keyiter ty (Vb ?_))|refine Va (wpAny_typeNameOf_keyiter ty (Vb ?_))
 refine Va (wpAny_fieldsOf ho hd ?_);have ow:Builtin.Dict_items.ownsTuple "dict_keyiterator" =false:=by decide
 simp only[ow,Bool.false_eq_true,if_false];show wpAny _ _ (if(Value.ref d==Value.none)=true then _ else _) _ _ s;rw[if_neg (show ¬((Value.ref d==Value.none)=true) from Bool.false_ne_true)];refine Va (Vb ?_);refine Va (wpAny_dictEntries aQ hd2 ?_);rw[if_neg (by simp)];refine Va (Vb ?_);refine Va (wpAny_dictEpoch aQ hd2 ?_);rw[if_neg (by simp)];refine Vb ?_;simp only[show ¬((i:Int)<0) from by omega,if_false,Int.toNat_natCast,Array.getElem?_eq_getElem lt];refine Va ?_
 first|refine Va (wpAny_typeNameOfWhole_keyiter ty (Vb ?_))|refine Va (wpAny_typeNameOf_keyiter ty (Vb ?_))
 refine Va (wpAny_isOneOf_keyiter ty ?_);show wpAny _ _ (setField (.ref it) 1 (rawInt ((i:Int)+1))>>=_) _ _ s;refine Va (wpAny_setField ho hd (by simp) ?_);have gE:(s.heap.update it (Obj.mapFields (·.setIfInBounds 1 (rawInt ((i:Int)+1))))).IsKeyIter it d (i+1) es.size ep:=⟨_,Heap.get?_update_self _ ho (Obj.isFreed_of_fields (Obj.data_mapFields hd _)),(Obj.cls_mapFields ..).trans hc,by rw[Obj.data_mapFields hd];simp[rawInt]⟩
 refine Va (wpAny_holding ?_);refine Va (wpAny_isOneOf_keyiter (s:={ s with heap:=s.heap.update it (Obj.mapFields (·.setIfInBounds 1 (rawInt ((i:Int)+1)))) }) gE.typeIs ?_);show wpAny _ _ (pure es[i].key) _ _ _;exact Vb (Vb ⟨_,rfl,Vb (q _ gE (Heap.SameBut.update ..))⟩)
theorem qx1(hh:A.handled=none)(hi:s.heap.IsKeyIter it d i es.size ep)(x:RawD s.heap d es ep)(ge:es.size<=i)(q: ∀h',Heap.ExtBut it s.heap h'->Q none { s with heap:=h' }):wpAny (model prog w) A (pyNext (.ref it)) Q E s:=by
 obtain⟨o,ho,hc,hd⟩:=id hi;obtain⟨od,aQ,hx2,hd2⟩:=id x;have ty:=hi.typeIs;unfold pyNext;refine Va (wpAny_attempt (wpAny_callSpecial?_slot (name:=Str.ofString "__next__") ty F.slot_dict_keyiterator_next (wpAny_call_entry F.slot_dict_keyiterator_next ty F.entry_dict_keyiterator_next ?_ (F.args_dict_keyiterator_next_1 _))));refine Va (Vb ?_);refine Va ?_;refine Va ?_
 first|refine Va (wpAny_typeNameOfWhole_keyiter ty (Vb ?_))|refine Va (wpAny_typeNameOf_keyiter ty (Vb ?_))
 refine Va (wpAny_fieldsOf ho hd ?_);have ow:Builtin.Dict_items.ownsTuple "dict_keyiterator" =false:=by decide
 simp only[ow,Bool.false_eq_true,if_false];show wpAny _ _ (if(Value.ref d==Value.none)=true then _ else _) _ _ s;rw[if_neg (show ¬((Value.ref d==Value.none)=true) from Bool.false_ne_true)];refine Va (Vb ?_);refine Va (wpAny_dictEntries aQ hd2 ?_);rw[if_neg (by simp)];refine Va (Vb ?_);refine Va (wpAny_dictEpoch aQ hd2 ?_);rw[if_neg (by simp)];refine Vb ?_;simp only[show ¬((i:Int)<0) from by omega,if_false,Int.toNat_natCast,Array.getElem?_eq_none ge];refine Va ?_
 first|refine Va (wpAny_typeNameOfWhole_keyiter ty (Vb ?_))|refine Va (wpAny_typeNameOf_keyiter ty (Vb ?_))
 show wpAny _ _ (setField (.ref it) 0 .none>>=_) _ _ s;refine Va (wpAny_setField ho hd (by simp) ?_);show wpAny _ _ (newExc (.type "StopIteration") []>>=_) _ _ _;refine Va ?_;simp only[newExc,newTuple];refine Va (wpAny_newObj_type ?_ (by size_fits));refine Va (m:=firstArgMember _ _) (wpAny_of_eq (a:=Value.none) (by first|rfl|(simp only[firstArgMember];rfl)) ?_);refine wpAny_newObj_type ?_ (by size_fits);simp only[raiseNew];refine Va (wpAny_handled ?_);rw[show A.in1.handled=none from hh];refine Va (Vb (wpAny_throw ?_));refine Va (wpAny_isInstance (T:= "StopIteration") (b:=true) ⟨_,Vh _ rfl,rfl⟩ isSubtype_stop ?_);exact Vb (q _ (((Heap.SameBut.update ..).extBut.push _).push _))
theorem qt9(hh:A.handled=none)(I d:Addr)(ne:d≠I)(es:Array DictEntry)(ep:Nat):
  Walks prog w A I [I,d] [I] es.size (λi v=> ∃e,es[i]? =some e/\v=e.key) (λi h=>h.IsKeyIter I d i es.size ep/\RawD h d es ep) where
 sub:=λb hb=>by simp at hb;simp[hb]
 frame:=λ_ _ _ st hk=>⟨st.1.at λo e=>hk I (by simp) o e,st.2.at λo e=>hk d (by simp) o e⟩
 item:=λi s Q E hi st hQ=>qvh st.1 st.2 hi λh' a b=>hQ _ h' s.toks ⟨es[i],by simp[hi],rfl⟩ ⟨a,st.2.at λo e=>b.extBut d o ne e⟩ λc o hc e=>b.extBut c o (λz=>hc (by simp[z])) e
 done:=λs Q E st hQ=>qx1 hh st.1 st.2 (Vl _) λh' b=>hQ h' s.toks λc o hc e=>b c o (λz=>hc (by simp[z])) e
 self:=λ_ _ _ _ st hQ=>wpAny_pyIter_keyiter st.1 hQ
theorem qxo{es:Array DictEntry}{ep:Nat}(lo:(d==sysModules)=false):KdlSrc prog w "dict" d d es.size (λi v=> ∃e,es[i]? =some e/\v=e.key) (λh=>RawD h d es ep) where
 type:=λ_ m=>m.ty
 there:=λ_ m=>⟨m.lt,m.lt⟩
 keep:=λ_ _ m k=>m.at λo e=>k d (.inl rfl) o e
 notList:=by decide
 notTuple:=by decide
 hint:=λ_ _ _ _ m q=>kdl_hint_dict m.ty q
 iter:=λ_ _ hh m=>⟨_,_,λ_ _ q=>qvq lo m q,qt9 hh _ d (Vn m.lt) es ep,⟨⟨_,Vh _ rfl,rfl,rfl⟩,m.at λo e=>Vg _ e⟩⟩
theorem collectD(hh:A.handled=none)(lo:(d==sysModules)=false)(m:RawD s.heap d es ep)(hn:es.size<=sizeLine)(h: ∀(h':Heap)(tk:Nat),(∀b o,s.heap.get? b=some o->h'.get? b=some o)->R (es.toList.map (·.key)) { s with heap:=h',toks:=tk }):wpAny (model prog w) A (collect (.ref d)) R E s:=by
 refine kdu_collect (qxo lo) hh m hn λh' tk acc k hI=> ?_;have:acc.toList=es.toList.map (·.key):=by
  refine List.ext_getElem? λj=> ?_;rw[List.getElem?_map,Array.getElem?_toList];by_cases c:j<acc.size
  ·obtain⟨e,h1,h2⟩:=hI.2 j acc[j] (by simp[c])
   simp_all
  ·have: ¬j<es.size:=by rw[<-hI.1];exact c
   grind
 simp_all
open L2
end DH
namespace PL
open PySem L2
section
theorem dt_keys(I:L2.Inv X O Z H s)(hp:H p=some (.dT us)): ∃(qs:List Addr)(es:Array DictEntry)(ep:Nat),DH.RawD s.heap p es ep/\(p==sysModules)=false/\us.length<=sizeLine/\es.toList.map (·.key)=qs.map Value.ref/\es.size=us.length/\qs.length=us.length/\
  ∀(j:Nat)(q:Addr),qs[j]? =some q->∃k v,us[j]? =some (k,v)/\H q=some (.tup (k.map kV)):=by
 obtain⟨hz,lo,xs,kt,o,es,ep,ho,hx,hd,he,hk,nd⟩:=qsW I.hok hp;have lx:=Paired.length kt;refine⟨xs.map (·.2.1),es,ep,⟨o,ho,hx,hd⟩,lo,hz,by rw[he,List.map_map,List.map_map];rfl,?_,by rw[List.length_map,lx],λj q e=> ?_⟩
 ·have:=congrArg List.length he
  grind
 ·have go: ∀{us:List (List Key×V)} {xs } {j:Nat} {q:Addr},KT H us xs->(xs.map (·.2.1))[j]? =some q->∃k v,us[j]? =some (k,v)/\H q=some (.tup (k.map kV)):=λ{us xs j q} kt=>by
   induction kt generalizing j with
   |nil=>intro e;cases j<;>cases e
   |cons c _ ih=>
    intro e;cases j with
    |zero=>have e:=Option.some.inj e;refine⟨_,_,List.getElem?_cons_zero,?_⟩;rw[<-e];exact c.2.1
    |succ j=>obtain⟨k,v,e1,e2⟩:=ih (j:=j) (by simpa using e);simp_all
  exact go kt e
end
open SR SetL
end PL
namespace PL
open PySem L2
noncomputable def luS{α:Type}(tbl:List (Str×α))(z:Str):Option α:=(tbl.find? λp=>decide (p.1=z)).map (·.2)
noncomputable def TopT(K:W.Frag)(mg:Str->Option Value)(w:World)(D:Str)(tbl:List (Str×Str)):Prop:=
 ∃(a:Addr)(es:Array DictEntry)(n:Nat),mg D=some (.ref a)/\K.lookup a=some ⟨.type "dict",none,.dict es n, #[]⟩/\W.KeysLit w.params es.toList/\(a==sysModules)=false/\
  ∀z,match luS tbl z with|none=>findBy Value.isStrOf es z=none|some g=> ∃f,findBy Value.isStrOf es z=some (.ref f)/\W.nsIn K mainGlobals g=some (some (.ref f))
noncomputable def esOf(K:W.Frag)(D:Str):Option (List DictEntry):=match W.nsIn K mainGlobals D with
 |some (some (.ref a))=>(match K.lookup a with|some ⟨.type "dict",none,.dict es _,sl⟩=>if(a==sysModules)=false/\sl.size=0 then some es.toList else none|_=>none)
 |_=>none
noncomputable def qsT(K:W.Frag):List DictEntry->List (Str×Str)->Bool
 |[],[]=>true
 |e::es,(k,g)::tb=>(match e.key,e.val,W.nsIn K mainGlobals g with|.str x _,.ref f,some (some (.ref f'))=>x==k&&f==f'|_,_,_=>false)&&qsT K es tb
 |_,_=>false
noncomputable def topB(K:W.Frag)(D:Str)(tbl:List (Str×Str)):Bool:=match esOf K D with
 |some es=>qsT K es tbl
 |none=>false
theorem qfm: ∀{es:List DictEntry}{tbl:List (Str×Str)},qsT K es tbl=true->es.map (·.hash)=tbl.map (λp=>PyData.keyHash P p.1)->W.KeysLit P es
 |[],[],_,_=>True.intro
 |e::es,(k,g)::tb,h,hh=>by
  have h:=Bool.and_eq_true_iff.mp h;have h1:=h.1;split at h1
  ·rename_i x t f f' e1 e2 e3;have h1:=Bool.and_eq_true_iff.mp h1;have:=by simpa using h1.1
   subst this;exact⟨⟨x,t,e1,(List.cons.inj hh).1⟩,qfm h.2 (List.cons.inj hh).2⟩
  ·cases h1
 |[],_::_,h,_=>by cases h
 |_::_,[],h,_=>by cases h
theorem qfn(z:Str): ∀{es:List DictEntry}{tbl:List (Str×Str)},qsT K es tbl=true->
  match luS tbl z with|none=>(es.find? λe=>Value.isStrOf z e.key).map (·.val)=none|some g=> ∃f,(es.find? λe=>Value.isStrOf z e.key).map (·.val)=some (.ref f)/\W.nsIn K mainGlobals g=some (some (.ref f))
 |[],[],_=>rfl
 |e::es,(k,g)::tb,h=>by
  unfold qsT at h;have h:=Bool.and_eq_true_iff.mp h;have h1:=h.1;split at h1
  ·rename_i x t f f' e1 e2 e3;have h1:=Bool.and_eq_true_iff.mp h1;have:x=k:=by simpa using h1.1
   subst this;have:f=f':=by simpa using h1.2
   subst this;by_cases c:x=z
   ·subst c;have l:luS ((x,g)::tb) x=some g:=by simp[luS,List.find?_cons]
    rw[l];refine⟨f,?_,e3⟩;have:Value.isStrOf x e.key=true:=by rw[e1];show(x==x)=true;simp
    rw[List.find?_cons,this];exact congrArg some e2
   ·have l:luS ((x,g)::tb) z=luS tb z:=by simp[luS,List.find?_cons,c]
    have n:Value.isStrOf z e.key=false:=by rw[e1];show(x==z)=false;exact beq_eq_false_iff_ne.mpr c
    rw[l,List.find?_cons,n];exact qfn z h.2
  ·cases h1
 |[],_::_,h=>by cases h
 |_::_,[],h=>by cases h
theorem topT_of{D:Str}(X:K.In h)(G:h.Ns mainGlobals mg)(b:topB K D tbl=true)(hh:(esOf K D).map (λes=>es.map (·.hash))=some (tbl.map λp=>PyData.keyHash w.params p.1)):TopT K mg w D tbl:=by
 unfold topB at b;split at b
 ·rename_i es e;rw[e] at hh;have hh:=Option.some.inj hh;unfold esOf at e;split at e
  ·rename_i a n;split at e
   ·rename_i eR m sl l;split at e
    ·rename_i c;cases e;have:=by simpa using c.2
     subst this;refine⟨a,eR,m,W.mg_of X G n,l,qfm b hh,c.1,λz=> ?_⟩;have:=qfn z b;unfold findBy
     simp_all
    ·cases e
   ·cases e
  ·cases e
 ·cases b
section
variable{x D:Str}
theorem op_topin(hl:X.K.lookup a=some ⟨.type "dict",none,.dict es n, #[]⟩)(hk:W.KeysLit X.w.params es.toList)(lo:(a==sysModules)=false)(hz: ∀z,match luS tbl z with | none=>findBy Value.isStrOf es z=none | some g=> ∃f,findBy Value.isStrOf es z=some (.ref f)/\W.nsIn X.K mainGlobals g=some (some (.ref f))):
  OpR X (compareOp .In) (λx y H Q=> ∃z,x= .str z/\y= .ref a/\Q (.bl (luS tbl z).isSome) H):=by
 intro O s Z H x y v u Q I rx ry q;obtain⟨z,rfl,rfl,q⟩:=q;obtain⟨t,rfl⟩:=rx;cases ry;refine PySem.wpAny_in_of (PySem.strKind_is _ X.w z t) lo (W.mapOf_K I.kIn hl hk) ?_;have:(findBy Value.isStrOf es z).isSome=(luS tbl z).isSome:=by
  have:=hz z;split at this
  ·simp_all
  ·rename_i g e;obtain⟨f,h1,_⟩:=this;rw[h1,e];rfl
 rw[this];exact⟨.bl _,H,I.tok _,rfl,q⟩
end
end PL
namespace HD
open PySem L2 PL
noncomputable def clOf(K:W.Frag)(x:Str):Addr:=match W.nsIn K mainGlobals x with
 |some (some (.ref C))=>C
 |_=>0
noncomputable def noB(K:W.Frag)(C:Addr)(f:Str):Bool:=match W.findIn K (.ref C) f with
 |some none=>true
 |_=>false
noncomputable def qve(K:W.Frag)(x:Str)(fs:List Str):Bool:=match W.nsIn K mainGlobals x with
 |some (some (.ref C))=>W.plainGet K C Str.empty&&(W.hasDictIn K C&&(W.plainOver K C&&((match W.findIn K (.ref C) "__setattr__" with|some (some (.builtin n))=>n== "object.__setattr__" | _=>false)&&(W.makesIn K C&&(W.keepIn K (.ref C)&&fs.all (noB K C))))))
 |_=>false
theorem qv6{x:Str}{fs:List Str}(X:K.In h)(G:h.Ns mainGlobals mg)(a:qve K x fs=true):
  mg x=some (.ref (clOf K x))/\Cls K (clOf K x)/\W.makesIn K (clOf K x)=true/\W.keepIn K (.ref (clOf K x))=true/\∀f∈fs,qbb K (clOf K x) f:=by
 unfold qve at a;split at a
 ·rename_i C n;have e:clOf K x=C:=by unfold clOf;rw[n]
  rw[e];simp only[Bool.and_eq_true] at a;obtain⟨a1,a2,a3,a4,a5,a6,a7⟩:=a;refine⟨W.mg_of X G n,⟨a1,a2,a3,?_⟩,a5,a6,λf hf=> ?_⟩
  ·split at a4
   ·grind
   ·cases a4
  ·have:=List.all_eq_true.mp a7 f hf;unfold noB at this;split at this
   ·assumption
   ·cases this
 ·cases a
noncomputable def qvl(K:W.Frag)(C:Addr)(m:Str):Option (Addr×Obj):=match W.findIn K (.ref C) m with
 |some (some (.ref f))=>(match K.lookup f with|some o=>some (f,o)|none=>none)
 |_=>none
noncomputable def qse(K:W.Frag)(C:Addr)(m:Str):Option FuncData:=match qvl K C m with
 |some (_,⟨_,_,.func fd,_⟩)=>some fd
 |_=>none
noncomputable def okM(K:W.Frag)(C:Addr)(m q:Str):Bool:=match qvl K C m with
 |some (f,⟨_,_,.func fd,_⟩)=>W.isFn K (.ref f)&&(W.codeIn K fd.code q&&W.keepIn K (.ref f))
 |_=>false
noncomputable def qwR(m q:Str)(st:Stmt)(fd:FuncData):FuncData:=W.fnOf m q (qao st) (qay st) (qad st) .none fd.kwdefaults fd.doc fd.pyModule fd.annotations fd.code fd.closureTuple
noncomputable def DfM(K:W.Frag)(C:Addr)(m q:Str)(st:Stmt):Prop:=
 ∃(f:Addr)(oc:Value)(od:Option Addr)(osl:Array (Option Value))(kV doc pm:Value)(an:Option Addr)(cdv ct:Value),
  K.lookup f=some ⟨oc,od,.func (W.fnOf m q (qao st) (qay st) (qad st) .none kV doc pm an cdv ct),osl⟩/\W.codeIn K cdv q=true/\qtO K C m f
theorem qta{m q:Str}(a:okM K C m q=true)(e:qse K C m=(qse K C m).map (qwR m q st)):DfM K C m q st:=by
 unfold okM at a;unfold qse at e;split at a
 ·rename_i f oc od fd osl z;rw[z] at e;have e:=Option.some.inj e;unfold qvl at z;split at z
  ·rename_i f' n;split at z
   ·rename_i o lk;cases z;simp only[Bool.and_eq_true] at a;exact⟨_,_,_,_,fd.kwdefaults,fd.doc,fd.pyModule,fd.annotations,fd.code,fd.closureTuple,by rw[lk,show W.fnOf m q _ _ _ _ _ _ _ _ _ _=fd from e.symm],a.2.1,⟨n,a.1,a.2.2⟩⟩
   ·cases z
  ·cases z
 ·cases a
end HD
namespace PL
open PySem L2 SR SetL
end PL
namespace HD
open PySem L2 PL
noncomputable def qdK:List Str:=["Ended", "Full", "NoAsk", "NoBack", "NoName", "NoNumber", "NoRow", "NoText", "TooLate", "Unlike"]
noncomputable def qqv:List Str:=["ended", "full", "no ask", "no back", "no name", "no number", "no row", "no text", "too late", "unlike"]
noncomputable def nsC(K:W.Frag)(x:Str):Bool:=match W.nsIn K mainGlobals x with
 |some (some (.ref _))=>true
 |_=>false
theorem qji{x:Str}(X:K.In h)(G:h.Ns mainGlobals mg)(a:nsC K x=true):mg x=some (.ref (clOf K x)):=by
 unfold nsC at a;split at a
 ·rename_i C n;have e:clOf K x=C:=by unfold clOf;rw[n]
  rw[e];exact W.mg_of X G n
 ·cases a
noncomputable def isB(K:W.Frag)(x:Str)(c:Value)(b:Bool):Bool:=W.kitOne K (.ref (clOf K x)) c==some b
noncomputable def exB(K:W.Frag):Bool:=nsC K "AskError" &&qc4 K (clOf K "AskError") bmV&&(List.range 10).all λj=>
 nsC K (qdK.getD j "")&&qc4 K (clOf K (qdK.getD j "")) (.ref (clOf K "AskError")::bmV)&&(W.clsIn K (clOf K (qdK.getD j ""))).isSome&&isB K (qdK.getD j "") (.type "ValueError") true&&
  (List.range 10).all λi=>isB K (qdK.getD j "") (.ref (clOf K (qdK.getD i ""))) (i==j)
structure qqL(K:W.Frag)(mg:Str->Option Value):Prop where
 a:mg "AskError" =some (.ref (clOf K "AskError"))
 ea:qc4 K (clOf K "AskError") bmV=true
 m: ∀j<10,mg (qdK.getD j "")=some (.ref (clOf K (qdK.getD j "")))
 e: ∀j<10,qc4 K (clOf K (qdK.getD j "")) (.ref (clOf K "AskError")::bmV)=true
 c: ∀j<10,(W.clsIn K (clOf K (qdK.getD j ""))).isSome=true
 v: ∀j<10,W.kitOne K (.ref (clOf K (qdK.getD j ""))) (.type "ValueError")=some true
 k: ∀j<10,∀i<10,W.kitOne K (.ref (clOf K (qdK.getD j ""))) (.ref (clOf K (qdK.getD i "")))=some (i==j)
theorem qpC(X:K.In h)(G:h.Ns mainGlobals mg)(a:exB K=true):qqL K mg:=by
 unfold exB at a;simp only[Bool.and_eq_true,List.all_eq_true,List.mem_range] at a;obtain⟨⟨a1,a2⟩,a3⟩:=a;refine⟨qji X G a1,a2,λj hj=>qji X G (a3 j hj).1.1.1.1,λj hj=>(a3 j hj).1.1.1.2,λj hj=>(a3 j hj).1.1.2,λj hj=> ?_,λj hj i hi=> ?_⟩
 ·have:=(a3 j hj).1.2;exact eq_of_beq this
 ·have:=(a3 j hj).2 i hi;exact eq_of_beq this
noncomputable def qnW(K:W.Frag)(a:Addr):Option Str:=(List.range 10).findSome? λj=>if a=clOf K (qdK.getD j "") then some (qqv.getD j "") else none
noncomputable def qub(c:Str):Option Str:=(List.range 10).findSome? λj=>if c=qdK.getD j "" then some (qqv.getD j "") else none
theorem qgE{x:Str}(h:qnW K a=some x): ∃j<10,a=clOf K (qdK.getD j "")/\x=qqv.getD j "" :=by
 obtain⟨j,hj,e⟩:=List.exists_of_findSome?_eq_some h;rw[List.mem_range] at hj;split at e
 ·rename_i q;cases e;exact⟨j,hj,q,rfl⟩
 ·cases e
theorem qmL(be:qqL K mg)(hi:i<10)(hj:j<10)(e:clOf K (qdK.getD i "")=clOf K (qdK.getD j "")):i=j:=by
 have h1:=be.k j hj i hi;have h2:=be.k j hj j hj
 simp_all
theorem qnV(be:qqL K mg)(hj:j<10):qnW K (clOf K (qdK.getD j ""))=some (qqv.getD j ""):=by
 cases h:qnW K _ with
 |none=>
  have:=List.findSome?_eq_none_iff.mp h j (List.mem_range.mpr hj)
  grind
 |some x=>obtain⟨i,hi,e1,e2⟩:=qgE h;rw[e2,qmL be hj hi e1]
theorem qk3{c x:Str}(h:qub c=some x): ∃j<10,c=qdK.getD j "" /\x=qqv.getD j "" :=by
 obtain⟨j,hj,e⟩:=List.exists_of_findSome?_eq_some h;rw[List.mem_range] at hj;split at e
 ·rename_i q;cases e;exact⟨j,hj,q,rfl⟩
 ·cases e
theorem quh{Ts:List Addr}{qz:List Str}{p:Addr×Str}(h: ∀T∈Ts,H T=some (.tbl #[]))(hp:p∈Ts.zip qz):qgC p.1 p.2 H:=⟨#[],h _ (List.of_mem_zip hp).1,trivial,λpos v e=>by cases e⟩
end HD
namespace L2
open PySem PySem.Spec PySem.Calls PyProof.Rows
end L2
namespace PL
open PySem L2 SR SetL
end PL
namespace L2
open PySem PySem.Spec PyProof.Rows
end L2
namespace PL
open PySem L2
end PL
section
set_option maxHeartbeats 1000000
namespace TM
open PySem Builtin PySem.Spec
end TM
namespace L2
open PySem PySem.Spec PyProof.Rows
end L2
namespace PL
open PySem L2
end PL
end
namespace NV
open PySem L2
inductive Ito where
 |fx (ts:List T)|lv (k:Nat)
noncomputable def nxt:Ito->Mu->Nat->Option (Option T)
 |.fx ts,_,i=>some ts[i]?
 |.lv k,U,i=>match U.l[k]? with|some (.ls ts)=>some ts[i]?|_=>none
noncomputable def qb3:Ito->Mu->Nat
 |.fx ts,_=>ts.length
 |.lv k,U=>match U.l[k]? with|some (.ls ts)=>ts.length|_=>0
noncomputable def qgA(M:Md)(J:It)(B1:qaD)(it:Ito):Prop:= ∀μ' H' B',Hs M μ' H' B'->Le B1 B'->∀i:Nat,
 (∀t,nxt it μ' i=some (some t)->J.go i H'/\∀x aW,J.yld i H' x aW->∃iW,Hs M μ' aW iW/\Go H' B' aW iW/\Rep M.K iW t x)/\((∀ts,it= .fx ts->i<=ts.length)->nxt it μ' i=some none->J.stop i H')
noncomputable def KI(M:Md)(H:Hp)(B:qaD)(R:It->Hp->Prop):Ito->Mu->Prop:=λit U=> ∀J H1 B1,Hs M U H1 B1->Go H B H1 B1->qb3 it U<=sizeLine->qgA M J B1 it->R J H1
noncomputable def tI(M:Md)(E:XK)(d:DS0 Ito):TI:=λZ H R=> ∃ρ U B,Ev M ρ U Z H B/\Wn M E H B (KI M H B R) (d ρ U)
noncomputable def qqC:T->Mu->R Ito
 |.lst ts,U=>.ok (.fx ts) U
 |.tup ts,U=>.ok (.fx ts) U
 |.obj k,U=>(match U.l[k]? with|some (.ls _)=>.ok (.lv k) U|_=>.no)
 |.dct kvs,U=>.ok (.fx (kvs.map λp=>qeb p.1)) U
 |.str z,U=>if z.length<=1000 then .ok (.fx (z.cps.toList.map λc=>.str ⟨#[c]⟩)) U else .no
 |_,_=>.no
noncomputable def dIt(da:DS0 T):DS0 Ito:=dSq da λt _ U=>qqC t U
noncomputable def qxd(lo hi:Int):List T:=(List.range (hi - lo).toNat).map λk=>.int (lo+(k:Nat))
noncomputable def qch:List T->Mu->R Ito
 |[.int n],U=>if n<=1000000/\ -1000000<=n then .ok (.fx ((List.range n.toNat).map λk=>.int (k:Nat))) U else .no
 |_,_=>.no
noncomputable def qrf:List T->Mu->R Ito
 |[.int m,.int n],U=>if(n<=1000000/\ -1000000<=n)/\m<=1000000/\ -1000000<=m then .ok (.fx (qxd m n)) U else .no
 |_,_=>.no
noncomputable def sqv(U:Mu):T->Option (Bool×List T)
 |.lst ts=>some (true,ts)
 |.tup ts=>some (false,ts)
 |.obj k=>(match U.l[k]? with|some (.ls ts)=>some (true,ts)|_=>none)
 |_=>none
noncomputable def qsR(xs:List T):List T:=xs.zipIdx.map λp=>.tup [.int (p.2:Nat),p.1]
noncomputable def qsS:List T->Mu->R Ito
 |[.lst xs],U=>.ok (.fx (qsR xs)) U
 |[.tup xs],U=>.ok (.fx (qsR xs)) U
 |_,_=>.no
noncomputable def dIA(g:List T->Mu->R Ito)(ds:DS0 (List T)):DS0 Ito:=dSq ds λts _ U=>g ts U
section
theorem PI.or(h:PI X tg e t)(h':PI X tg e t'):PI X tg e (λZ H R=>t Z H R\/t' Z H R):=λO s Z H R I q=>q.elim (h _ s Z H R I) (h' _ s Z H R I)
theorem qdk:PI X tg e (tI M E dNo):=λ_ _ _ _ _ _ ⟨_,_,_,_,w⟩=>w.elim
theorem qiy(hp:B1 p=some (.lst vs))(r:Reps M.K B1 ts vs):qgA M (Itl M.K p) B1 (.fx ts):=λμ' H' B' h le i=>by
 have q:SqL M.K H' p vs:=SqL.of (h.bh _ _ (le.h _ _ hp));refine⟨λt et=> ?_,λhl hi=> ?_⟩
 ·obtain⟨x,ex,rx⟩:=r.get (Option.some.inj et);refine⟨⟨vs,x,q,ex⟩,λy aW ⟨e1,e2⟩=> ?_⟩;subst e1;have:=e2 vs q;rw[ex] at this;cases this;exact⟨B',h,.refl,rx.mono le⟩
 ·exact⟨vs,q,by rw[r.length];exact List.getElem?_eq_none_iff.mp (Option.some.inj hi)⟩
theorem qk0(hp:B1 p=some (.tup vs))(r:Reps M.K B1 ts vs):qgA M (Itt M.K p) B1 (.fx ts):=λμ' H' B' h le i=>by
 have q:SqT M.K H' p vs:=SqT.of (h.bh _ _ (le.h _ _ hp));refine⟨λt et=> ?_,λhl hi=> ?_⟩
 ·obtain⟨x,ex,rx⟩:=r.get (Option.some.inj et);refine⟨⟨vs,x,q,ex⟩,λy aW ⟨e1,e2⟩=> ?_⟩;subst e1;have:=e2 vs q;rw[ex] at this;cases this;exact⟨B',h,.refl,rx.mono le⟩
 ·exact⟨vs,q,by rw[r.length];exact List.getElem?_eq_none_iff.mp (Option.some.inj hi)⟩
theorem qnU(hp:B1.ad k=some p):qgA M (Itl M.K p) B1 (.lv k):=λμ' H' B' h le i=>by
 have go: ∀{o:Option T},nxt (.lv k) μ' i=some o->∃ts vs,o=ts[i]? /\SqL M.K H' p vs/\Reps M.K B' ts vs:=λ{o} e=>by
  have e:(match μ'.l[k]? with|some (.ls ts)=>some ts[i]?|_=>none)=some o:=e;split at e
  ·rename_i ts el;cases e;obtain⟨u,_,hu,vs,rfl,rv⟩:=h.at el (by simp) (le.d _ _ hp);exact⟨ts,vs,rfl,SqL.of hu,rv⟩
  ·cases e
 refine⟨λt et=> ?_,λhl hi=> ?_⟩
 ·obtain⟨ts,vs,e,q,r⟩:=go et;obtain⟨x,ex,rx⟩:=r.get e.symm;refine⟨⟨vs,x,q,ex⟩,λy aW ⟨e1,e2⟩=> ?_⟩;subst e1;have:=e2 vs q;rw[ex] at this;cases this;exact⟨B',h,.refl,rx⟩
 ·obtain⟨ts,vs,e,q,r⟩:=go hi;exact⟨vs,q,by rw[r.length];grind⟩
theorem qk1{z:Str}(hJ:J=⟨λi _=>i<z.cps.size,λi H x H'=>H'=H/\∃c,z.cps[i]? =some c/\x= .str ⟨#[c]⟩,λi _=>z.cps.size<=i⟩):qgA M J B1 (.fx (z.cps.toList.map λc=>.str ⟨#[c]⟩)):=λμ' H' B' h le i=>by
 subst hJ;refine⟨λt et=> ?_,λhl hi=> ?_⟩
 ·have et:=Option.some.inj et;rw[List.getElem?_map] at et;cases q:z.cps.toList[i]? with
  |none=>rw[q] at et;cases et
  |some c=>rw[q] at et;cases et;have hi:=(List.getElem?_eq_some_iff.mp q).1;refine⟨show i<z.cps.size by simpa using hi,λy aW ⟨e1,c',e2,e3⟩=> ?_⟩;subst e1 e3;rw[Array.getElem?_toList] at q;rw[q] at e2;cases e2;exact⟨B',h,.refl,qcm⟩
 ·have hi:=List.getElem?_eq_none_iff.mp (Option.some.inj hi)
  simp_all
theorem qk2(hp:B1 p=some (.frz o (.dK us)))(rd:qaV M.K B1 kvs us):qgA M (PL.Itd p o us) B1 (.fx (kvs.map λp=>qeb p.1)):=λμ' H' B' h le i=>by
 have lk:=rd.length;have hH:=h.bh _ _ (le.h _ _ hp);refine⟨λt et=> ?_,λhl hi=> ?_⟩
 ·have et:=Option.some.inj et;rw[List.getElem?_map] at et;obtain⟨pr,q,rfl⟩:=Option.map_eq_some_iff.mp et;obtain⟨v,q2,_⟩:=qcA rd q;have hi:=(List.getElem?_eq_some_iff.mp q2).1;refine⟨⟨hH,hi⟩,λy aW ⟨e1,k,v',e2,e3⟩=> ?_⟩;subst e1 e3;rw[q2] at e2;cases e2;exact⟨B',h,.refl,qcY _⟩
 ·have hi:=List.getElem?_eq_none_iff.mp (Option.some.inj hi);rw[List.length_map] at hi;exact⟨hH,by omega⟩
theorem qs8(h:PE X e (tE M E da))(hK:X.K=M.K):PI X tg e (tI M E (dIt da)):=by
 refine PI.weak (PI.or (PL.pi_seq h) (PI.or (qrD h) (PL.pi_dict h))) λZ H R hq=> ?_;obtain⟨ρ,U,B,ev,w⟩:=hq;rw[hK];have w:Wn M E H B (KI M H B R) ((da ρ U).bind qqC):=w;cases q:da ρ U with
 |no=>rw[q] at w;exact w.elim
 |ex c m=>rw[q] at w;exact .inl ⟨ρ,U,B,ev,by rw[q];exact w⟩
 |ok t m=>
  rw[q] at w;have w:Wn M E H B (KI M H B R) (qqC t m):=w;cases t with
  | lst ts=>exact .inl ⟨ρ,U,B,ev,by
    rw[q];intro v H1 B1 h1 g1 r1;obtain⟨p,vs,rfl,hp,r⟩:=qaz r1;exact⟨p,rfl,.inl ⟨vs,SqL.of (h1.bh _ _ hp),λhz=>w _ H1 B1 h1 g1 (by show ts.length<=_;rw[<-r.length];exact hz) (qiy hp r)⟩⟩⟩
  | tup ts=>exact .inl ⟨ρ,U,B,ev,by
    rw[q];intro v H1 B1 h1 g1 r1;obtain⟨p,vs,rfl,hp,r⟩:=qax r1;exact⟨p,rfl,.inr ⟨vs,SqT.of (h1.bh _ _ hp),λhz=>w _ H1 B1 h1 g1 (by show ts.length<=_;rw[<-r.length];exact hz) (qk0 hp r)⟩⟩⟩
  | obj k=>exact .inl ⟨ρ,U,B,ev,by
    rw[q];intro v H1 B1 h1 g1 r1;obtain⟨p,rfl,ep⟩:=qaB r1;unfold qqC at w;dsimp only at w;split at w
    ·rename_i ts el;obtain⟨u,_,hu,vs,rfl,rv⟩:=h1.at el (by simp) ep;exact⟨p,rfl,.inl ⟨vs,SqL.of hu,λhz=>w _ H1 B1 h1 g1 (by show(match m.l[k]? with|some (.ls ts)=>ts.length|_=>0)<=_;rw[el];show ts.length<=_;rw[<-rv.length];exact hz) (qnU ep)⟩⟩
    ·exact w.elim⟩
  | dct kvs=>exact .inr (.inr ⟨ρ,U,B,ev,by
    rw[q];intro v H1 B1 h1 g1 r1;obtain⟨p,o,us,rfl,hp,rd⟩:=qcO r1;exact⟨p,o,us,rfl,h1.bh _ _ hp,λhz=>w _ H1 B1 h1 g1 (by show(kvs.map _).length<=_;rw[List.length_map,<-rd.length];exact hz) (qk2 hp rd)⟩⟩)
  | str z=>exact .inr (.inl ⟨ρ,U,B,ev,by
    rw[q];intro v H1 B1 h1 g1 r1;cases qaF r1;have w:Wn M E H B (KI M H B R) (if z.length<=1000 then _ else _):=w;split at w
    ·rename_i hz;exact⟨z,rfl,w _ H1 B1 h1 g1 (by show(z.cps.toList.map _).length<=_;rw[List.length_map,Array.length_toList];exact Vo (qeH hz)) (qk1 rfl)⟩
    ·exact w.elim⟩)
  |_=>exact w.elim
theorem qhI:qgA M (L2.Itr lo n) B1 (.fx ((List.range n).map λk=>.int (lo+(k:Nat)))):=λμ' H' B' h le i=>by
 refine⟨λt et=> ?_,λhl hi=> ?_⟩
 ·have et:=Option.some.inj et;rw[List.getElem?_map] at et;cases q:(List.range n)[i]? with
  |none=>rw[q] at et;cases et
  |some j=>rw[q] at et;cases et;obtain⟨hi,ej⟩:=List.getElem?_eq_some_iff.mp q;rw[List.getElem_range] at ej;subst ej;refine⟨show i<n by simpa using hi,λy aW ⟨e1,e2⟩=> ?_⟩;subst e1 e2;exact⟨B',h,.refl,qaR⟩
 ·have hi:=List.getElem?_eq_none_iff.mp (Option.some.inj hi);rw[List.length_map,List.length_range] at hi;exact hi
theorem qkg(hg:Gl X "range")(hm:X.mg "range" =none)(ha:PA X [a] (tA M E ds))(hs:starEach [a] X.env=[(false,eval a X.env)]):PI X tg (.Call (.Name "range" p) [a] [] pos) (tI M E (dIA qch ds)):=by
 refine PI.weak (qi3 hg hm ha hs) λZ H R ⟨ρ,U,B,ev,w⟩=>⟨ρ,U,B,ev,(Wn.bind w).mono λts m w1 vs H1 B1 h1 g1 r1=> ?_⟩
 change Wn M E H B (KI M H B R) (qch ts m) at w1
 unfold qch at w1;split at w1
 ·rename_i n;obtain⟨v,r,rfl,a1,b1⟩:=r1.inv;cases b1.inv0;cases qah a1;split at w1
  ·rename_i hn;have l0:=PL.line1M;refine⟨n,rfl,by omega,by omega,w1 _ H1 B1 h1 g1 (by show(List.map _ _).length<=_;rw[List.length_map,List.length_range];omega) ?_⟩;have:=qhI (M:=M) (lo:=0) (n:=n.toNat) (B1:=B1);simpa using this
  ·exact w1.elim
 ·exact w1.elim
end
noncomputable def qqV(k:DS0 Out):Out->Mu->R Out
 |.nx ρ,U=>k ρ U
 |.ct ρ,U=>k ρ U
 |.bk ρ,U=>.ok (.nx ρ) U
 |.rt t,U=>.ok (.rt t) U
noncomputable def qhi(it:Ito)(dg:T->DS0 Ro)(db:DS0 Out):Nat->Nat->DS0 Out
 |0,i=>λρ U=>match nxt it U i with|some none=>.ok (.nx ρ) U|_=>.no
 |n+1,i=>λρ U=>match nxt it U i with
  |some none=>.ok (.nx ρ) U
  |some (some t)=>(dg t ρ U).bind λau af=>(db au af).bind (qqV (qhi it dg db n (i+1)))
  |none=>.no
noncomputable def qvJ(dg:T->DS0 Ro)(db:DS0 Out):List T->DS0 Out
 |[]=>λρ U=>.ok (.nx ρ) U
 |t::ts=>λρ U=>(dg t ρ U).bind λau af=>(db au af).bind (qqV (qvJ dg db ts))
theorem qj2: ∀(n i:Nat),ts.length<=n+i->qhi (.fx ts) dg db n i=qvJ dg db (ts.drop i)
 |0,i,h=>by
  have e:ts[i]? =none:=List.getElem?_eq_none_iff.mpr (by omega)
  funext ρ U
  rw[List.drop_eq_nil_of_le (by omega)];show(match some ts[i]? with|some none=>R.ok _ U|_=>.no)=_;rw[e];rfl
 |n+1,i,h=>by
  funext ρ U
  show(match some ts[i]? with|some none=>R.ok _ U|some (some t)=>_|none=>.no)=_;cases q:ts[i]? with
  |none=>rw[List.drop_eq_nil_of_le (List.getElem?_eq_none_iff.mp q)];rfl
  |some t=>obtain⟨hi,et⟩:=List.getElem?_eq_some_iff.mp q;rw[List.drop_eq_getElem_cons hi,et];rw[qj2 n _ (by omega)];rfl
noncomputable def qvK(dg:T->DS0 Ro)(db:DS0 Out):Ito->DS0 Out
 |.fx ts=>qvJ dg db ts
 |.lv k=>λρ U=>qhi (.lv k) dg db (qb3 (.lv k) U) 0 ρ U
noncomputable def qw0(di:DS0 Ito)(dg:T->DS0 Ro)(db:DS0 Out):DS0 Out:=dSq di (qvK dg db)
theorem qj3:qvK dg db it ρ U=qhi it dg db (qb3 it U) 0 ρ U:=by
 cases it with
 |fx ts=>rw[qj2 _ 0 (by exact Nat.le_refl _)];rfl
 |lv k=>rfl
section
theorem qs2(hp:PassesOwn (model X.prog X.w) X.A X.env X.xe)(hc:X.calm=true)(hi:PI X tg iter (tI M E di))(hg:PG X tg (tG M E dg))(hb:PSs X body (tS M E db))(hs: ∀x,foldedSetIterable iter X.env x=pure x):PS X (.For tg iter body [] pos) (tS M E (qw0 di dg db)):=by
 refine PS.weak (qrx hp hc hi hg hb hs) λD Z H ⟨ρ,U,B,ev,w⟩=>⟨ρ,U,B,ev,(Wn.bind w).mono λit m w1 J H1 B1 h1 g1 hz wk=> ?_⟩
 rw[qj3] at w1;refine⟨λi n ae H'=> ∃ρ' μ' B',Ev M ρ' μ' ae H' B'/\Go H1 B1 H' B'/\(∀ts,it= .fx ts->i<=ts.length)/\Wn M E H B (KS M H B D) (qhi it dg db n i ρ' μ'),⟨_,ρ,m,B1,ev.on h1 g1.le,.refl,λ_ _=>Nat.zero_le _,w1⟩,?_⟩;rintro i n ae H' ⟨ρ',μ',B',bN,g',hl,w2⟩;have stop:nxt it μ' i=some none->(R.ok (Out.nx ρ') μ'=qhi it dg db n i ρ' μ')->J.stop i H'/\D.nx ae H':=λe q=>by rw[<-q] at w2;exact⟨(wk μ' H' B' bN.hs g'.le i).2 hl e,w2 ae H' B' bN (g1.trans g')⟩
 cases q:nxt it μ' i with
 |none=>cases n<;>(unfold qhi at w2;rw[q] at w2;exact w2.elim)
 |some o=>
  cases o with
  |none=>exact .inl (stop q (by cases n<;>(unfold qhi;rw[q])))
  |some t=>
   cases n with
   |zero=>unfold qhi at w2;rw[q] at w2;exact w2.elim
   |succ n=>
    have w2:=by unfold qhi at w2;rw[q] at w2;exact w2
    obtain⟨go,yl⟩:=(wk μ' H' B' bN.hs g'.le i).1 t q;refine .inr ⟨go,λeV aW=> ∃az ai B2,Ev M az ai eV aW B2/\Go H1 B1 aW B2/\(∀ts,it= .fx ts->i+1<=ts.length)/\Wn M E H B (KS M H B D) (qhi it dg db n (i+1) az ai),λeV aW h=>⟨n,Vx n,h⟩,λx H3 y=> ?_⟩;obtain⟨B3,h3,g3,r3⟩:=yl x H3 y;have gg:=g1.trans (g'.trans g3);have dP: ∀ts,it= .fx ts->i+1<=ts.length:=λts e=>by subst e;exact(List.getElem?_eq_some_iff.mp (Option.some.inj q)).1
    refine⟨ρ',μ',B3,t,bN.on h3 g3.le,r3,(Wn.bind w2).lift gg λau af w3 cK H4 B4 e4 g4=> ?_⟩;refine⟨au,af,B4,e4,(Wn.bind w3).lift (gg.trans g4) λo ai w4=> ?_⟩;cases o with
    |nx az|ct az=>exactλcJ H5 B5 e5 g5=>⟨az,ai,B5,e5,((g'.trans g3).trans g4).trans g5,dP,w4⟩
    |bk az=>exactλcJ H5 B5 e5 g5=>w4 cJ H5 B5 e5 ((gg.trans g4).trans g5)
    |rt t'=>exact KE.le w4 (gg.trans g4)
end
noncomputable def qaQ(n:Nat)(fr:List Nat)(ρ:Ro):Ro:=List.replicate n none++fr.map λi=>(ρ[i]?).join
noncomputable def qbh(it:Ito)(dg:T->DS0 Ro)(dt:DS0 Bool)(de:DS0 T):Nat->Nat->DS0 (List T)
 |0,i=>λρ U=>match nxt it U i with|some none=>.ok [] U|_=>.no
 |n+1,i=>λρ U=>match nxt it U i with
  |some none=>.ok [] U
  |some (some t)=>(dg t ρ U).bind λau af=>(dt au af).bind λc ai=>if c=true then(de au ai).bind λy bQ=>(qbh it dg dt de n (i+1) au bQ).bind λys ck=>.ok (y::ys) ck else qbh it dg dt de n (i+1) au ai
  |none=>.no
noncomputable def qmE(dg:T->DS0 Ro)(dt:DS0 Bool)(de:DS0 T):List T->DS0 (List T)
 |[]=>λρ U=>.ok [] U
 |t::ts=>λρ U=>(dg t ρ U).bind λau af=>(dt au af).bind λc ai=>if c=true then(de au ai).bind λy bQ=>(qmE dg dt de ts au bQ).bind λys ck=>.ok (y::ys) ck else qmE dg dt de ts au ai
theorem qht: ∀(n i:Nat),ts.length<=n+i->qbh (.fx ts) dg dt de n i=qmE dg dt de (ts.drop i)
 |0,i,h=>by
  have e:ts[i]? =none:=List.getElem?_eq_none_iff.mpr (by omega)
  funext ρ U
  rw[List.drop_eq_nil_of_le (by omega)];show(match some ts[i]? with|some none=>R.ok _ U|_=>.no)=_;rw[e];rfl
 |n+1,i,h=>by
  funext ρ U
  show(match some ts[i]? with|some none=>R.ok _ U|some (some t)=>_|none=>.no)=_;cases q:ts[i]? with
  |none=>rw[List.drop_eq_nil_of_le (List.getElem?_eq_none_iff.mp q)];rfl
  |some t=>obtain⟨hi,et⟩:=List.getElem?_eq_some_iff.mp q;rw[List.drop_eq_getElem_cons hi,et];rw[qht n _ (by omega)];rfl
noncomputable def qkp(dg:T->DS0 Ro)(dt:DS0 Bool)(de:DS0 T):Ito->DS0 (List T)
 |.fx ts=>qmE dg dt de ts
 |.lv k=>λρ U=>qbh (.lv k) dg dt de (qb3 (.lv k) U) 0 ρ U
theorem qhu:qkp dg dt de it ρ U=qbh it dg dt de (qb3 it U) 0 ρ U:=by
 cases it with
 |fx ts=>rw[qht _ 0 (by exact Nat.le_refl _)];rfl
 |lv k=>rfl
noncomputable def noX{α:Type}:R α->R α
 |.ok a m=>.ok a m
 |_=>.no
noncomputable def qtt(x:Bool)(n:Nat)(fr:List Nat)(dg:T->DS0 Ro)(dt:DS0 Bool)(de:DS0 T)(it:Ito):DS0 Ct:=λρ U=>
 (if x=true then qkp dg dt de it (qaQ n fr ρ) U else noX (qkp dg dt de it (qaQ n fr ρ) U)).bind λys μ'=>.ok (.ls ys) μ'
noncomputable def qcw(x:Bool)(n:Nat)(fr:List Nat)(di:DS0 Ito)(dg:T->DS0 Ro)(dt:DS0 Bool)(de:DS0 T):DS0 Ct:=dSq di (qtt x n fr dg dt de)
section
variable{own:List Str}
theorem qj9(ev:Ev M ρ U Z H B):Ev M (qaQ own.length (fr.map (·.2)) ρ) U (qbr own fr Z) H B:=by
 refine⟨ev.hs,by unfold qaQ qbr;simp,λi t e=> ?_⟩;unfold qaQ at e;by_cases hi:i<own.length
 ·rw[List.getElem?_append_left (by simpa using hi),List.getElem?_replicate] at e;split at e<;>cases e
 ·rw[List.getElem?_append_right (by simpa using hi),List.length_replicate,List.getElem?_map,List.getElem?_map] at e;cases q:fr[i - own.length]? with
  |none=>rw[q] at e;cases e
  |some p=>
   rw[q] at e;have e:(ρ[p.2]?).join=some t:=Option.some.inj e;have e':ρ[p.2]? =some (some t):=by
    cases z:ρ[p.2]? with
    |none=>rw[z] at e;cases e
    |some o=>simp_all
   obtain⟨v,e1,e2⟩:=ev.sl _ _ e';unfold qbr;rw[List.getElem?_append_right (by simpa using hi),List.length_map,List.getElem?_map]
   simp_all
theorem comp_core(hE:x=true->E'=E)(ev:Ev M ρ U Z H B)(w:Wn M E H B (KN M H B Q) (qcw x own.length (fr.map (·.2)) di dg dt de ρ U)):
  qeB (tI M E di) (tG M E' dg) (tT M E' dt) (tE M E' de) own fr Z H λD H'=>Q (.ref D) H':=by
 refine⟨ρ,U,B,ev,(Wn.bind w).mono λit m w1 J H1 B1 h1 g1 hz wk D hD=> ?_⟩;have w2:Wn M E' H B (λys μ'=>KN M H B Q (.ls ys) μ') (qbh it dg dt de (qb3 it m) 0 (qaQ own.length (fr.map (·.2)) ρ) m):=by
  have w1:Wn M E H B (KN M H B Q) ((if x=true then qkp dg dt de it (qaQ own.length (fr.map (·.2)) ρ) m else noX (qkp dg dt de it (qaQ own.length (fr.map (·.2)) ρ) m)).bind λys μ'=>.ok (.ls ys) μ'):=w1;rw[qhu] at w1;cases x with
  |true=>rw[if_pos rfl] at w1;rw[hE rfl];exact Wn.bind w1
  |false=>
   rw[if_neg (by decide)] at w1;cases q:qbh it dg dt de (qb3 it m) 0 (qaQ own.length (fr.map (·.2)) ρ) m with
   |no|ex c m'=>rw[q] at w1;exact w1.elim
   |ok ys m'=>rw[q] at w1;exact w1
 have bD:=h1.fr hD;have ofD: ∀k,B1.ad k≠some D:=λk e=>(h1.dm k D e).2 hD;have iC:hid D (upd H1 D (.lst []))=H1:=by
  funext a
  by_cases q:a=D
  ·subst q;rw[qfe,hD]
  ·rw[qcn q,qab q]
 have ic:Hs M m (upd H1 D (.lst [])) B1:=h1.more λa o e=>by rw[qab (qak e hD)];exact e
 refine⟨λi n ae H'=> ∃ρ' μ' B' dn ys,Ev M ρ' μ' ae H' B'/\Go H1 B1 (hid D H') B'/\H' D=some (.lst ys)/\B' D=none/\(∀k,B'.ad k≠some D)/\Reps M.K B' dn ys/\ys.length<=i/\n+i=qb3 it m/\(∀ts,it= .fx ts->i<=ts.length)/\
  Wn M E' H B (λrs μ'=>KN M H B Q (.ls (dn++rs)) μ') (qbh it dg dt de n i ρ' μ'),⟨_,_,m,B1,[],[],qj9 (ev.on ic g1.le),by rw[iC];exact .refl,qaf,bD,ofD,.nil,Vl _,Nat.add_zero _,λ_ _=>Nat.zero_le _,w2⟩,?_⟩
 rintro i n ae H' ⟨ρ',μ',B',dn,ys,bN,g',ee,jO,gu,rd,hy,hn,hl,w3⟩;have stop:nxt it μ' i=some none->(R.ok ([]:List T) μ'=qbh it dg dt de n i ρ' μ')->J.stop i H'/\Q (.ref D) H':=λe q=>by
  rw[<-q] at w3;refine⟨(wk μ' H' B' bN.hs g'.le i).2 hl e,?_⟩;have w3:KN M H B Q (.ls (dn++[])) μ':=w3;rw[List.append_nil] at w3;have:=w3 D (.lst ys) (hid D H') B' (bN.hs.loose jO gu (λa q=>qcn q) λu hu=>by rw[ee] at hu;cases hu;exact .inl ⟨_,rfl⟩) (g1.trans g') qfe ⟨ys,rfl,rd⟩;have e2:upd (hid D H') D (.lst ys)=H':=by
   funext a
   by_cases q:a=D
   ·subst q;rw[qaf,ee]
   ·rw[qab q,qcn q]
  rw[e2] at this;exact this
 cases q:nxt it μ' i with
 |none=>cases n<;>(unfold qbh at w3;rw[q] at w3;exact w3.elim)
 |some o=>
  cases o with
  |none=>exact .inl (stop q (by cases n<;>(unfold qbh;rw[q])))
  |some t=>
   cases n with
   |zero=>unfold qbh at w3;rw[q] at w3;exact w3.elim
   |succ n=>
    have w3:Wn M E' H B (λrs μ'=>KN M H B Q (.ls (dn++rs)) μ') ((dg t ρ' μ').bind λau af=>(dt au af).bind λc ai=>if c=true then(de au ai).bind λy bQ=>(qbh it dg dt de n (i+1) au bQ).bind λys ck=>.ok (y::ys) ck else qbh it dg dt de n (i+1) au ai):=by unfold qbh at w3;rw[q] at w3;exact w3
    obtain⟨go,yl⟩:=(wk μ' H' B' bN.hs g'.le i).1 t q;have dP: ∀ts,it= .fx ts->i+1<=ts.length:=λts e=>by subst e;exact(List.getElem?_eq_some_iff.mp (Option.some.inj q)).1
    let NN:List T->List V->St->Hp->Prop:=λjJ iY aL H2=> ∃az ai B2,Ev M az ai aL H2 B2/\Go H1 B1 (hid D H2) B2/\H2 D=some (.lst ys)/\B2 D=none/\(∀k,B2.ad k≠some D)/\Reps M.K B2 jJ iY/\Wn M E' H B (λrs μ'=>KN M H B Q (.ls (jJ++rs)) μ') (qbh it dg dt de n (i+1) az ai);refine .inr ⟨go,λaL v H2=> ∃y,NN (dn++[y]) (ys++[v]) aL H2,λaL H2=>NN dn ys aL H2,λaL v H6 ⟨y,az,ai,B2,e2,g2,cU,gO,gq,r2,w⟩=> ?_,λaL H5 ⟨az,ai,B2,e2,g2,cU,gO,gq,r2,w⟩=> ?_,λy H3 yy=> ?_⟩
    ·have l0:qb3 it m<=sizeLine:=hz;refine⟨ys,cU,by omega,n,Vx n,az,ai,B2,dn++[y],ys++[v],⟨e2.hs.loose gO gq (λa q=>qab q) (λu hu=>by rw[cU] at hu;cases hu;exact .inl ⟨_,rfl⟩),e2.len,e2.sl⟩,?_,qaf,gO,gq,r2,by rw[List.length_append,List.length_singleton];omega,by omega,dP,w⟩;have e3:hid D (upd H6 D (.lst (ys++[v])))=hid D H6:=by
      funext a
      by_cases q:a=D
      ·subst q;rw[qfe,qfe]
      ·rw[qcn q,qcn q,qab q]
     rw[e3];exact g2
    ·exact⟨n,Vx n,az,ai,B2,dn,ys,e2,g2,cU,gO,gq,r2,by omega,by omega,dP,w⟩
    ·obtain⟨B3,h3,g3,r3⟩:=yl y H3 yy;have st: ∀{H4:Hp}{B4:qaD},Go H' B' H4 B4->Go H1 B1 (hid D H4) B4/\H4 D=some (.lst ys)/\B4 D=none/\∀k,B4.ad k≠some D:=λ{H4 B4} g=>by refine⟨g'.trans g.hid,g.un D _ ee gu (by simp),?_,g.off (by rw[ee];simp) gu⟩;rw[g.nb D _ ee gu (by simp) (by simp)];exact jO
     have gb: ∀{H4:Hp}{B4:qaD},Go H' B' H4 B4->∀{H5:Hp}{B5:qaD},Go H4 B4 H5 B5->True:=λ_ _ _ _=>trivial;have up: ∀{H4:Hp}{B4:qaD}{α:Type}{k k':α->Mu->Prop}{r:R α},Go H' B' H4 B4->Wn M E' H B k r->(∀a U,k a U->k' a U)->Wn M E' H4 B4 k' r:=λ{H4 B4 α k k' r} g w f=>by
      cases r with
      |no=>exact w
      |ok a m=>exact f _ _ w
      |ex c m=>
       intro H5 B5 h5 g5;have gg:=g.trans g5;obtain⟨z1,z2,z3,z4⟩:=st gg;have h6:Hs M m (hid D H5) B5:=h5.loose z3 z4 (λa q=>qcn q) λu hu=>by rw[z2] at hu;cases hu;exact .inl ⟨_,rfl⟩
       have:Go H B H5 B5:=(g1.trans z1).trans (Go.more λa o e=>(qjI e).1);exact w H5 B5 h5 this
     refine⟨ρ',μ',B3,t,bN.on h3 g3.le,r3,up g3 (Wn.bind w3) λau af w4 cK H4 B4 e4 g4=> ?_⟩;have jD:=g3.trans g4;refine⟨au,af,B4,e4,up jD (Wn.bind w4) λc ai w5 H5 B5 h5 g5=> ?_⟩;have gK:=jD.trans g5;have e5:=e4.on h5 g5.le;cases c with
     |false=>obtain⟨z1,z2,z3,z4⟩:=st gK;refine qvr ⟨au,ai,B5,e5,z1,z2,z3,z4,rd.mono gK.le,?_⟩;exact w5
     |true=>refine qxF ⟨au,ai,B5,e5,up gK (Wn.bind w5) λy bQ w6 v H6 B6 h6 g6 r6=> ?_⟩;have jC:=gK.trans g6;obtain⟨z1,z2,z3,z4⟩:=st jC;refine⟨y,au,bQ,B6,e5.on h6 g6.le,z1,z2,z3,z4,(rd.mono jC.le).append (.one r6),(Wn.bind w6).mono λrs ck w7=> ?_⟩;have w7:KN M H B Q (.ls (dn++y::rs)) ck:=w7;show KN M H B Q (.ls (dn++[y]++rs)) ck;rw[List.append_assoc];exact w7
theorem qlp:qiv Y [] (tT M E qwU):=λO s Z H Q I ⟨ρ,U,B,ev,w⟩=>qlr _ s Z H Q I (w H B ev.hs .refl)
theorem qrB(h:PT Y c (tT M E dt)):qiv Y [c] (tT M E dt):=qlq h
theorem qpO(hc:X.calm=true)(hi:PI X tg iter (tI M E di))(hk:scope.kind= .function)(ah: ∀y∈scope.names,y.2≠.cell)(aw: ∀y∈scope.names,y.2= .local->scope.names.lookup y.1=some .local)(ag: ∀y∈scope.names,y.2= .free->X.env.kindOf y.1=some .cell\/X.env.kindOf y.1=some .free)(aR: ∀p∈fr,X.N[p.2]? =some p.1/\scope.names.lookup p.1=some .free)(hb: ∀(fp:List Addr)(s3:Shared)(H3:Hp),PG (qat X scope own fr fp s3 H3) tg (tG M E0 dg)/\qiv (qat X scope own fr fp s3 H3) ifs (tT M E0 dt)/\PE (qat X scope own fr fp s3 H3) elt (tE M E0 de))(hs: ∀x,foldedSetIterable iter X.env x=pure x):PE X (.ListComp elt [⟨tg,iter,ifs,0⟩] scope pos) (tN M E (qcw false own.length (fr.map (·.2)) di dg dt de)):=
 PE.weak (qoF hc hi hk ah aw ag aR hb hs) λZ H Q ⟨ρ,U,B,ev,w⟩=>comp_core (λz=>by cases z) ev w
noncomputable def qv1(ow:Bool)(i:Nat)(dn:DS0 Ct):DS0 Out:=qmx i (if ow=true then dOw dn else dFz dn)
theorem qij{y:Str}(hc:X.calm=true)(hi:PI X tg iter (tI M E di))(hk:scope.kind= .function)(ah: ∀y∈scope.names,y.2≠.cell)(aw: ∀y∈scope.names,y.2= .local->scope.names.lookup y.1=some .local)(ag: ∀y∈scope.names,y.2= .free->X.env.kindOf y.1=some .cell\/X.env.kindOf y.1=some .free)(aR: ∀p∈fr,X.N[p.2]? =some p.1/\scope.names.lookup p.1=some .free)(hb: ∀(fp:List Addr)(s3:Shared)(H3:Hp),PG (qat X scope own fr fp s3 H3) tg (tG M E0 dg)/\qiv (qat X scope own fr fp s3 H3) ifs (tT M E0 dt)/\PE (qat X scope own fr fp s3 H3) elt (tE M E0 de))(hN:X.N.Nodup)(iy:X.N[i]? =some y)(hy:X.env.scope.names.lookup y=some .local)(bK:swapsWith (.ListComp elt [⟨tg,iter,ifs,0⟩] scope pos) (some (.Name y py)) spos.line X.env=pure true)(hs: ∀x,foldedSetIterable iter X.env x=pure x):
  PS X (.Assign [.Name y py] (.ListComp elt [⟨tg,iter,ifs,0⟩] scope pos) spos) (tS M E (qv1 ow i (qcw false own.length (fr.map (·.2)) di dg dt de))):=
 PS.weak (L2.ps_setcomp hc hi hk ah aw ag aR hb hN iy hy bK hs) λD Z H ⟨ρ,U,B,ev,w⟩=>by
  have key: ∀{d:DS0 T},tS M E (qmx i d) D Z H->tE M E d Z H _:=λ⟨ρ,U,B,ev,w⟩=>tE.of ev ((Wn.bind w).mono λt af w1 v H1 B1 h1 l1 r1=>w1 _ H1 B1 ((ev.on h1 l1.le).set r1) l1);have h1:=by
   cases ow with
   |true=>exact qi8 (key ⟨ρ,U,B,ev,w⟩)
   |false=>exact qma (λρ U c m e=>by obtain⟨it,m1,_,e⟩:=qtE e;obtain⟨ys,m2,_,e⟩:=qtE e;cases e;exact⟨_,rfl⟩) (key ⟨ρ,U,B,ev,w⟩)
  obtain⟨ρ,U,B,ev,w⟩:=h1;exact comp_core (λz=>by cases z) ev w
end
end NV
namespace PL
open PySem L2 SR SetL
end PL
namespace L2
open PySem PySem.Spec PySem.Calls PyProof.Rows
section
variable{m:Str}
noncomputable def qdg(X:Cx)(CX:CXT)(C:Addr)(m:Str)(sp:Sp):Prop:= ∃(f:Addr)(fd:FuncData)(ps:List Str)(k:Nat),Cls X.K C/\qtO X.K C m f/\qdh X.prog X.w X.K X.mg X.base CX k f fd ps sp/\qa7 k X.A/\qaY X.K fd ps []
theorem qlu(he:PE X o ta)(hx:qaH CX X E)(ha:PA X (e::es) t)(aF:starEach (e::es) X.env=(false,eval e X.env)::starEach es X.env)(ay:(backTo pos (starEach es X.env)).any (·.1)=false)(ht:eval (.Call (.Attribute o m apos) (e::es) [] pos) X.env=(do
   let ov <-eval o X.env
   standAt apos.atName
   let (f,fi) <-holding [ov] (getMethod ov m pl)
   callWith pos f fi (backTo pos (starEach (e::es) X.env)) (backToKw pos (keywordEach [] X.env)))):
  PE X (.Call (.Attribute o m apos) (e::es) [] pos) (λZ H Q=>ta Z H λx H1=> ∃a C dx fs sp,x= .ref a/\H1 a=some (.ins C dx fs)/\fs.lookup m=none/\qdg X CX C m sp/\t Z H1 λvs H2=>sp (x::vs) H2 Q E):=by intro O s Z H Q I h;refine W.methodCall_KW (thn (he _ s Z H _ I h) λu s1 ⟨x,H1,I1,rx,a,C,dx,fs,sp,ex,ea,l,⟨f,fd,ps,k,c,hm,F,hr,hb⟩,q⟩=> ?_) ht;subst ex;obtain rfl:u=Value.ref a:=rx;refine qdF I1 ea c hm l ?_;refine W.callWith_K I.ok.mod.kin hm.kp (thn (ha pos _ s1 Z H1 _ I1 q) λus s2 ⟨vs,H2,I2,r,q2⟩=>⟨I2.kIn,?_⟩) aF ay;exact qgN (vs:=.ref a::vs) F hr hb .nil hx I2 (.cons rfl r) (by grind)
theorem qi4(he:PE X o ta)(hx:qaH CX X E)(ht:eval (.Call (.Attribute o m apos) [] [] pos) X.env=(do
   let ov <-eval o X.env
   standAt apos.atName
   let (f,fi) <-holding [ov] (getMethod ov m pl)
   callWith pos f fi (backTo pos (starEach [] X.env)) (backToKw pos (keywordEach [] X.env)))):
  PE X (.Call (.Attribute o m apos) [] [] pos) (λZ H Q=>ta Z H λx H1=> ∃a C dx fs sp,x= .ref a/\H1 a=some (.ins C dx fs)/\fs.lookup m=none/\qdg X CX C m sp/\sp [x] H1 Q E):=by intro O s Z H Q I h;refine W.methodCall_KW (thn (he _ s Z H _ I h) λu s1 ⟨x,H1,I1,rx,a,C,dx,fs,sp,ex,ea,l,⟨f,fd,ps,k,c,hm,F,hr,hb⟩,q⟩=> ?_) ht;subst ex;obtain rfl:u=Value.ref a:=rx;refine qdF I1 ea c hm l ?_;exact W.callWith_K0 I1.kIn hm.kp (qgN (vs:=[.ref a]) F hr hb .nil hx I1 (.cons rfl .nil) q)
end
end L2
namespace NV
open PySem L2
theorem PE.or(h:PE X e t)(h':PE X e t'):PE X e (λZ H Q=>t Z H Q\/t' Z H Q):=λO s Z H Q I q=>q.elim (h _ s Z H Q I) (h' _ s Z H Q I)
noncomputable def qsw(o:T)(U:Mu):Option (Nat×Str×List (Str×T)):=match o with
 |.obj k=>(match U.l[k]? with|some (.ins c fs)=>some (k,c,fs)|_=>none)
 |_=>none
noncomputable def qil(mt:Str->Option (List T->Mu->R T))(m:Str)(bu:DS0 T)(ds:DS0 (List T)):DS0 T:=dSq bu λo ρ U=>match qsw o U with
 |some (_,c,fs)=>(match mt c with
  |some f=>if(fs.lookup m).isNone=true then(ds ρ U).bind λts μ'=>f (o::ts) μ' else .no
  |none=>.no)
 |none=>.no
section
variable{m:Str}
theorem ql2{c:Str}(h:qsw t U=some (k,c,fs)):t= .obj k/\U.l[k]? =some (.ins c fs):=by
 unfold qsw at h;split at h
 ·split at h
  ·grind
  ·cases h
 ·cases h
theorem qeZ{M:Md}{E:XK}{X:Cx}{da:DS0 T}{ds:DS0 (List T)}{mt:Str->Option (List T->Mu->R T)}(hM: ∀c f,mt c=some f->qdg X (CXE X.prog X.w) (clA M.K c) m (spF M f)){Z:St}{H:Hp}{Q:VK}(h:tE M E (qil mt m da ds) Z H Q):
  tE M E da Z H λx H1=> ∃a C dx fs sp,x= .ref a/\H1 a=some (.ins C dx fs)/\fs.lookup m=none/\qdg X (CXE X.prog X.w) C m sp/\tA M E ds Z H1 λvs H2=>sp (x::vs) H2 Q E:=by
 obtain⟨ρ,U,B,ev,w⟩:=h;refine tE.of ev ((Wn.bind w).mono λx af w1 v H1 B1 h1 g1 r1=> ?_)
 change Wn M E H B _ (match qsw x af with|some (_,c,fs)=>(match mt c with|some f=>if(fs.lookup m).isNone=true then(ds ρ af).bind _ else .no|none=>.no)|none=>.no) at w1
 split at w1
 ·rename_i k c fs e;obtain⟨rfl,el⟩:=ql2 e;split at w1
  ·rename_i f ef;split at w1
   ·rename_i hn;obtain⟨a,rfl,ea⟩:=qaB r1;obtain⟨u,b0,hu,dx,vs,rfl,rv⟩:=h1.at el (by simp) ea;refine⟨a,_,dx,vs,spF M f,rfl,hu,(qbQ rv).2 (Option.isNone_iff_eq_none.mp hn),hM c f ef,ρ,af,B1,ev.on h1 g1.le,(Wn.bind w1).lift g1 λts ai w2 ws H2 B2 h2 g2 r2=> ?_⟩;exact⟨ai,B2,.obj k::ts,h2,.cons (qdu (g2.le.d _ _ ea)) r2,Wn.lift w2 (g1.trans g2) λ_ _ q=>KE.le q (g1.trans g2)⟩
   ·exact w1.elim
  ·exact w1.elim
 ·exact w1.elim
theorem qpY{M:Md}{E:XK}{X:Cx}{pos:Pos}{apos:Pos}{e:Expr}{o:Expr}{es:List Expr}{da:DS0 T}{ds:DS0 (List T)}{mt:Str->Option (List T->Mu->R T)}{pl:Sem Bool}(hM: ∀c f,mt c=some f->qdg X (CXE X.prog X.w) (clA M.K c) m (spF M f))(ho:PE X o (tE M E da))(hx:qaH (CXE X.prog X.w) X E)(ha:PA X (e::es) (tA M E ds))(aF:starEach (e::es) X.env=(false,eval e X.env)::starEach es X.env)(ay:(backTo pos (starEach es X.env)).any (·.1)=false)(ht:eval (.Call (.Attribute o m apos) (e::es) [] pos) X.env=(do
   let ov <-eval o X.env
   standAt apos.atName
   let (f,fi) <-holding [ov] (getMethod ov m pl)
   callWith pos f fi (backTo pos (starEach (e::es) X.env)) (backToKw pos (keywordEach [] X.env)))):
  PE X (.Call (.Attribute o m apos) (e::es) [] pos) (tE M E (qil mt m da ds)):=PE.weak (qlu ho hx ha aF ay ht) λ_ _ _ h=>qeZ hM h
theorem qmt{M:Md}{E:XK}{X:Cx}{pos:Pos}{apos:Pos}{o:Expr}{da:DS0 T}{mt:Str->Option (List T->Mu->R T)}{pl:Sem Bool}(hM: ∀c f,mt c=some f->qdg X (CXE X.prog X.w) (clA M.K c) m (spF M f))(ho:PE X o (tE M E da))(hx:qaH (CXE X.prog X.w) X E)(ht:eval (.Call (.Attribute o m apos) [] [] pos) X.env=(do
   let ov <-eval o X.env
   standAt apos.atName
   let (f,fi) <-holding [ov] (getMethod ov m pl)
   callWith pos f fi (backTo pos (starEach [] X.env)) (backToKw pos (keywordEach [] X.env)))):
  PE X (.Call (.Attribute o m apos) [] [] pos) (tE M E (qil mt m da qqF)):=PE.weak (qi4 ho hx ht) λZ H Q h=>by
 refine(qeZ hM h).imp λv H1 ⟨a,C,dx,fs,sp,e1,e2,e3,e4,q⟩=>⟨a,C,dx,fs,sp,e1,e2,e3,e4,?_⟩
 obtain⟨ρ,U,B,ev,w⟩:=q;exact w [] H1 B ev.hs .refl .nil
end
noncomputable def qnD(x:Str):DS0 Out:=λ_ U=>.ex x U
section
theorem qmm{x:Str}(h:PS X st (qiH (clA M.K x) E)):PS X st (tS M E (qnD x)):=PS.weak h λD Z H ⟨ρ,U,B,ev,w⟩=>w H B ev.hs .refl
noncomputable def unO(i:Nat):Out->Mu->R Out
 |.nx ρ,U=>.ok (.nx (ρ.set i none)) U
 |.bk ρ,U=>.ok (.bk (ρ.set i none)) U
 |.ct ρ,U=>.ok (.ct (ρ.set i none)) U
 |.rt t,U=>.ok (.rt t) U
noncomputable def qx3(cl:Str->Bool)(n:Nat)(nm:Option Nat)(db dh:DS0 Out):DS0 Out:=λρ U=>match db ρ U with
 |.ex c m=>if cl c=true then(match nm with
  |some i=>((noX (dh ((List.replicate n none).set i (some (.exc c))) m))).bind (unO i)
  |none=>noX (dh (List.replicate n none) m)) else .no
 |r=>r
variable{x n:Str}
end
noncomputable def qfJ(i:Nat)(ρ:Ro)(U:Mu):Ro×Mu:=match ρ[i]? with
 |some (some (.obj k))=>(match U.l[k]? with
  |some (.ls ts)=>(ρ.set i (some (.lst ts)),U.put k .gone)
  |some (.dk kvs)=>(ρ.set i (some (.dct kvs)),U.put k .gone)
  |_=>(ρ,U))
 |_=>(ρ,U)
noncomputable def qwZ(i:Nat)(d:DS0 Out):DS0 Out:=λρ U=>d (qfJ i ρ U).1 (qfJ i ρ U).2
section
theorem Hs.frz{M:Md}{U:Mu}{H:Hp}{B:qaD}(h:Hs M U H B){k:Nat}{c:Ct}{a:Addr}{o:HO}(e:U.l[k]? =some c)(n:c≠.gone)(ha:B.ad k=some a)(nt: ∀ps,o≠.tbl ps):Hs M (U.put k .gone) (L2.upd H a o) (B.upd a o)/\Go H B (L2.upd H a o) (B.upd a o):=by
 obtain⟨u,b0,hu,cu⟩:=h.at e n ha;have le:=h.upd_le (o:=o) b0;have hk:=(List.getElem?_eq_some_iff.mp e).1;have h':=h.put (c':=.gone) (o:=o) e n ha trivial;have off: ∀{b:Addr}{j:Nat},k≠j->B.ad j=some b->b≠a:=λ{b j} q e1 z=>q (h.ij k j a ha (by rw[<-z];exact e1));refine⟨⟨λb v z=> ?_,λb ps z=> ?_,h'.gm,λj d ej nj=> ?_,h'.ij,h'.dm,h'.lk,h'.ln⟩,⟨le,(qsx ha).un,λ_ _ e=>.inl e,(qsx (H:=H) (o:=o) ha).dm,λb v e n _ _=> ?_⟩⟩
 ·have z:L2.upd B.hp a o b=some v:=z;by_cases q:b=a
  ·subst q;rw[qaf] at z⊢;exact z
  ·rw[qab q] at z⊢;exact h.bh b v z
 ·have z:L2.upd B.hp a o b=some (.tbl ps):=z;by_cases q:b=a
  ·subst q;rw[qaf] at z;grind
  ·rw[qab q] at z;exact h.bt b ps z
 ·obtain⟨b,v,e1,e2,e3,e4⟩:=h'.st j d ej nj;have q:k≠j:=λz=>by
   subst z;have ej:(U.l.set k .gone)[k]? =some d:=ej
   simp_all
  exact⟨b,v,e1,by show L2.upd B.hp a o b=_;rw[qab (off q e1)];exact e2,e3,e4.mono le⟩
 ·show L2.upd B.hp a o b=_;rw[qab (λz=>n k (by rw[z];exact ha))]
theorem qs1(i:Nat)(h:PS X st (tS M E d)):PS X st (tS M E (qwZ i d)):=λO s Z H D I ⟨ρ,U,B,ev,w⟩=>by
 have go: ∀{H':Hp}{B':qaD}{μ':Mu}{ρ':Ro},Inv X O Z H' s->Ev M ρ' μ' Z H' B'->Go H B H' B'->qfJ i ρ U=(ρ',μ')->wpAny (model X.prog X.w) X.A (exec st X.env) (SP X O D) X.xe s:=λ{H' B' μ' ρ'} I' bN g e=>by have w:Wn M E H B _ (d (qfJ i ρ U).1 (qfJ i ρ U).2):=w;rw[e] at w;exact h O s Z H' D I' ⟨_,_,B',bN,Wn.lift w g λ_ _ q=>KS.le q g⟩
 have eZ: ∀{μ':Mu}{H':Hp}{B':qaD}{t:T}{v:V},Hs M μ' H' B'->Go H B H' B'->Z[i]? =some (some v)->Rep M.K B' t v->Ev M (ρ.set i (some t)) μ' Z H' B':=λ{μ' H' B' t v} h g e r=>by
  have:=(ev.on h g.le).set (i:=i) r;have e2:Z.set i (some v)=Z:=by
   refine List.ext_getElem? λj=> ?_;rw[List.getElem?_set];split
   ·rename_i q;subst q;rw[e,if_pos (List.getElem?_eq_some_iff.mp e).1]
   ·rfl
  rw[e2] at this;exact this
 cases q:ρ[i]? with
 |none=>exact go I ev .refl (by unfold qfJ;rw[q])
 |some x=>
  cases x with
  |none=>exact go I ev .refl (by unfold qfJ;rw[q])
  |some t=>
   cases t with
   |obj k=>
    obtain⟨v,jI,rv⟩:=ev.sl i _ q;obtain⟨a,rfl,ea⟩:=qaB rv;cases el:U.l[k]? with
    |none=>exact go I ev .refl (by unfold qfJ;rw[q];dsimp only;rw[el])
    |some c=>
     cases c with
     |ls ts=>obtain⟨o,b0,ho,vs,rfl,r⟩:=ev.hs.at el (by simp) ea;obtain⟨h,g⟩:=ev.hs.frz (o:=.lst vs) el (by simp) ea (λps z=>by cases z);rw[qqQ ho] at h g;exact go I (eZ h g jI (qbL qaf (r.mono g.le))) g (by unfold qfJ;rw[q];dsimp only;rw[el])
     |dk ts=>obtain⟨o,b0,ho,vs,rfl,r⟩:=ev.hs.at el (by simp) ea;obtain⟨ob,I2⟩:=PL.Inv.freeze I ho;obtain⟨h,g⟩:=ev.hs.frz (o:=.frz ob (.dK vs)) el (by simp) ea (λps z=>by cases z);exact go I2 (eZ h g jI (qjh qaf (r.mono g.le))) g (by unfold qfJ;rw[q];dsimp only;rw[el])
     |_=>exact go I ev .refl (by unfold qfJ;rw[q];dsimp only;rw[el])
   |_=>exact go I ev .refl (by unfold qfJ;rw[q])
end
noncomputable def qtP(kvs:List (Key×T))(k:Key):Option T:=(kvs.find? λkv=>decide (kv.1=k)).map (·.2)
mutual
noncomputable def eqT:T->T->Bool
 |.non,.non=>true
 |.bl a,.bl b=>a==b
 |.bl a,.int b=>(if a then 1 else 0)==b
 |.int a,.bl b=>a==(if b then 1 else 0)
 |.int a,.int b=>a==b
 |.str a,.str b=>a==b
 |.tup xs,.tup ys=>eqTs xs ys
 |.lst xs,.lst ys=>eqTs xs ys
 |.dct xs,.dct ys=>xs.length==ys.length&&eqTd xs ys
 |_,_=>false
noncomputable def eqTs:List T->List T->Bool
 |[],[]=>true
 |x::xs,y::ys=>eqT x y&&eqTs xs ys
 |_,_=>false
noncomputable def eqTd:List (Key×T)->List (Key×T)->Bool
 |[],_=>true
 |(k,x)::xs,ys=>(match qtP ys k with|some y=>eqT x y|none=>false)&&eqTd xs ys
end
noncomputable def okT:Nat->T->Bool
 |_,.non=>true
 |_,.bl _=>true
 |_,.int _=>true
 |_,.str _=>true
 |n+1,.tup ts=>ts.all (okT n)
 |n+1,.lst ts=>ts.all (okT n)
 |_,_=>false
noncomputable def qeh:T->Bool
 |.non=>true
 |.bl _=>true
 |.int _=>true
 |.str _=>true
 |_=>false
noncomputable def vOf:T->V
 |.bl b=>.bl b
 |.int b=>.int b
 |.str b=>.str b
 |_=>.non
noncomputable def LeH(B:qaD)(H:Hp):Prop:= ∀a o,B a=some o->H a=some o
abbrev qi1(xs ys:List T)(j:Nat):Bool:=eqT (xs.getD j .non) (ys.getD j .non)
theorem qb5: ∀xs ys:List T,eqTs xs ys=((List.range (min xs.length ys.length)).all (qi1 xs ys)&&xs.length==ys.length)
 |[],[]=>rfl
 |[],_::_=>rfl
 |_::_,[]=>rfl
 |x::xs,y::ys=>by
  rw[eqTs,qb5 xs ys];have m:min (x::xs).length (y::ys).length=(min xs.length ys.length).succ:=by simp
  rw[m,List.range_succ_eq_map,List.all_cons,List.all_map,<-Bool.and_assoc];have e:(qi1 (x::xs) (y::ys)∘Nat.succ)=qi1 xs ys:=rfl;rw[e,show qi1 _ _ 0=eqT x y from rfl];simp
theorem qhn(h:xs.length=ys.length):eqTs xs ys=(List.range xs.length).all (qi1 xs ys):=by rw[qb5,h,Nat.min_self,beq_self_eq_true,Bool.and_true]
theorem qpD(h:xs.length≠ys.length):eqTs xs ys=false:=by rw[qb5];simp[h]
section
theorem qbk(f:qeh t=true)(r:Rep K B t x):x=vOf t:=by cases t<;>first|exact qcN r|exact qbJ r|exact qah r|exact qaF r|cases f
theorem qa5(f:qeh t=true):qgb (vOf t)=true:=by cases t<;>first|rfl|cases f
theorem qho(ft:qeh t=true)(fu:qeh u=true):eqT t u=eqV (vOf t) (vOf u):=by cases t<;>cases u<;>first|rfl|(cases ft;done)|(cases fu)
theorem qiC(ft:qeh t=true)(fu:qeh u=true)(e:vOf t=vOf u):t=u:=by cases t<;>cases u<;>first|rfl|(cases e;rfl)|(cases e;done)|(cases ft;done)|(cases fu)
theorem qb7(ft:qeh t=true)(e:vOf t= .ref p):False:=by cases t<;>first|cases e|cases ft
theorem qbF(f:qeh t=true):eqT t (.lst ts)=false/\eqT (.lst ts) t=false/\eqT t (.tup ts)=false/\eqT (.tup ts) t=false:=by cases t<;>first|exact⟨rfl,rfl,rfl,rfl⟩|cases f
theorem qbR{n:Nat}{ts:List T}(h:ts.all (okT n)=true){j:Nat}(hj:j<ts.length):okT n (ts.getD j .non)=true:=by
 simp_all
theorem qoS(h:okT n (.lst ts)=true): ∃m,n=m+1/\ts.all (okT m)=true:=by
 cases n with
 |zero=>cases h
 |succ m=>exact⟨m,rfl,h⟩
theorem qoR(h:okT n (.tup ts)=true): ∃m,n=m+1/\ts.all (okT m)=true:=by
 cases n with
 |zero=>cases h
 |succ m=>exact⟨m,rfl,h⟩
theorem qaI(h:okT n t=true):qeh t=true\/(∃ts m,t= .lst ts/\n=m+1/\ts.all (okT m)=true)\/∃ts m,t= .tup ts/\n=m+1/\ts.all (okT m)=true:=by
 cases t with
 |lst ts=>obtain⟨m,a,b⟩:=qoS h;simp_all
 |tup ts=>obtain⟨m,a,b⟩:=qoR h;simp_all
 |_=>first|exact .inl rfl|(cases n<;>cases h)
theorem qbG: ∀(n:Nat)(t:T),okT n t=true->eqT t t=true:=by
 intro n
 induction n with
 |zero=>intro t h;cases t<;>first|(simp[eqT];done)|cases h
 |succ n ih=>
  have many: ∀ts:List T,ts.all (okT n)=true->eqTs ts ts=true:=λts=>by
   induction ts with
   |nil=>intro _;rfl
   |cons t ts it=>intro h;rw[List.all_cons,Bool.and_eq_true] at h;rw[eqTs,ih t h.1,it h.2];rfl
  intro t h;cases t<;>first|(simp[eqT];done)|(rw[eqT];exact many _ h)|cases h
end
section
theorem qcM(I:Inv X O Z H s)(le:LeH B H): ∀(n m:Nat)(t u:T)(x:V),okT n t=true->okT m u=true->Rep X.K B t x->Rep X.K B u x->t=u:=by
 intro n
 induction n with
 |zero=>
  intro m t u x ht hu r r'
  rcases qaI ht with f|⟨_,_,_,e,_⟩|⟨_,_,_,e,_⟩
  ·have e1:=qbk f r
   rcases qaI hu with g|⟨us,m',rfl,_,_⟩|⟨us,m',rfl,_,_⟩
   ·exact qiC f g (e1.symm.trans (qbk g r'))
   ·obtain⟨p,vs,rfl,_⟩:=qaz r';exact(qb7 f e1.symm).elim
   ·obtain⟨p,vs,rfl,_⟩:=qax r';exact(qb7 f e1.symm).elim
  ·cases e
  ·cases e
 |succ n ih=>
  have many: ∀(m:Nat)(ts us:List T)(vs:List V),ts.all (okT n)=true->us.all (okT m)=true->Reps X.K B ts vs->Reps X.K B us vs->ts=us:=λm ts=>by
   induction ts with
   |nil=>
    intro us vs _ _ r r';cases r.inv0;cases us with
    |nil=>rfl
    |cons _ _=>obtain⟨_,_,e,_⟩:=r'.inv;cases e
   |cons t ts it=>
    intro us vs ht hu r r';obtain⟨v,cn,rfl,a,b⟩:=r.inv;cases us with
    |nil=>cases r'.inv0
    |cons u us=>obtain⟨v',vs'',e,a',b'⟩:=r'.inv;cases e;rw[List.all_cons,Bool.and_eq_true] at ht hu;rw[ih m t u v ht.1 hu.1 a a',it us cn ht.2 hu.2 b b']
  intro m t u x ht hu r r'
  rcases qaI ht with f|⟨ts,n',rfl,e,dz⟩|⟨ts,n',rfl,e,dz⟩
  ·have e1:=qbk f r
   rcases qaI hu with g|⟨us,m',rfl,_,_⟩|⟨us,m',rfl,_,_⟩
   ·exact qiC f g (e1.symm.trans (qbk g r'))
   ·obtain⟨p,vs,rfl,_⟩:=qaz r';exact(qb7 f e1.symm).elim
   ·obtain⟨p,vs,rfl,_⟩:=qax r';exact(qb7 f e1.symm).elim
  ·cases e;obtain⟨p,vs,rfl,hp,rs⟩:=qaz r
   rcases qaI hu with g|⟨us,m',rfl,_,dy⟩|⟨us,m',rfl,_,_⟩
   ·exact(qb7 g (qbk g r').symm).elim
   ·obtain⟨p',cn,e,aj,aX⟩:=qaz r';cases e;rw[hp] at aj;cases aj;rw[many m' ts us vs dz dy rs aX]
   ·obtain⟨p',cn,e,aj,_⟩:=qax r';cases e;rw[hp] at aj;cases aj
  ·cases e;obtain⟨p,vs,rfl,hp,rs⟩:=qax r
   rcases qaI hu with g|⟨us,m',rfl,_,_⟩|⟨us,m',rfl,_,dy⟩
   ·exact(qb7 g (qbk g r').symm).elim
   ·obtain⟨p',cn,e,aj,_⟩:=qaz r';cases e;rw[hp] at aj;cases aj
   ·obtain⟨p',cn,e,aj,aX⟩:=qax r';cases e;rw[hp] at aj;cases aj;rw[many m' ts us vs dz dy rs aX]
open SeqAt in
theorem qna(hA:A.units<cLine)(rv:qav vs is)(bS:qav ws bJ)(l3:vs.length=ts.length)(l4:ws.length=us.length)(it: ∀j (a1:j<(List.toArray is).size) (a2:j<(List.toArray bJ).size),EqAt A.in1 s (List.toArray is)[j] (List.toArray bJ)[j] (qi1 ts us j)):
  (s.heap.IsList p (List.toArray is)->s.heap.IsList p' (List.toArray bJ)->RcAt A s (.ref p) (.ref p') (eqTs ts us)/\RcNeAt A s (.ref p) (.ref p') (!eqTs ts us))/\
  (s.heap.IsTuple p (List.toArray is)->s.heap.IsTuple p' (List.toArray bJ)->RcAt A s (.ref p) (.ref p') (eqTs ts us)/\RcNeAt A s (.ref p) (.ref p') (!eqTs ts us)):=by
 have l1:=rv.length;have l2:=bS.length;have e1:(List.toArray is).size=ts.length:=by simp;lia
 have e2:(List.toArray bJ).size=us.length:=by simp;lia
 refine⟨λpl aO=> ?_,λpl aO=> ?_⟩
 ·by_cases hl:ts.length=us.length
  ·rw[qhn hl];have q1:=RcAt.lists (A:=A) (s:=s) (e:=qi1 ts us) pl aO (by simp;lia) hA it;have q2:=RcNeAt.lists (A:=A) (s:=s) (e:=qi1 ts us) pl aO (by simp;lia) hA it;rw[e1] at q1 q2;exact⟨q1,q2⟩
  ·rw[qpD hl];exact⟨RcAt.lists_lengths pl aO (by simp;lia) hA,RcNeAt.lists_lengths pl aO (by simp;lia) hA⟩
 ·rw[qb5];have q1:=RcAt.tuples (A:=A) (s:=s) (e:=qi1 ts us) pl aO hA it;have q2:=RcNeAt.tuples (A:=A) (s:=s) (e:=qi1 ts us) pl aO hA it;rw[e1,e2] at q1 q2;exact⟨q1,q2⟩
open SeqAt in
theorem qeO{X:Cx}(I:Inv X O Z H s)(le:LeH B H): ∀(n m:Nat)(A:Around)(t u:T)(x y:V)(v w:Value),okT n t=true->okT m u=true->A.units+n<cLine->Rep X.K B t x->Rep X.K B u y->RelV x v->RelV y w->
  EqAt A s v w (eqT t u)/\RcAt A s v w (eqT t u)/\RcNeAt A s v w (!eqT t u):=by
 intro n
 induction n with
 |zero=>
  intro m A t u x y v w ht hu hc r r' rv av;have hA:A.units<cLine:=by lia
  rcases qaI ht with f|⟨_,_,_,e,_⟩|⟨_,_,_,e,_⟩
  ·cases qbk f r;have fx:=qa5 f
   rcases qaI hu with g|⟨us,m',rfl,_,_⟩|⟨us,m',rfl,_,_⟩
   ·cases qbk g r';rw[qho f g];exact⟨qnz rv av fx (qa5 g),PL.rc_ff rv fx av (qa5 g)⟩
   ·obtain⟨p,vs,rfl,hp,_⟩:=qaz r';cases av;obtain⟨is,_,pl,_⟩:=I.list (SqL.of (le _ _ hp));have q:=PL.eq_fl rv fx pl.isList hA;rw[(qbF f).1];exact⟨q.1,q.2.2.1,q.2.2.2.2.1⟩
   ·obtain⟨p,vs,rfl,hp,_⟩:=qax r';cases av;obtain⟨is,_,pl,_⟩:=I.tuple (SqT.of (le _ _ hp));have q:=PL.eq_ft rv fx pl hA;rw[(qbF f).2.2.1];exact⟨q.1,q.2.2.1,q.2.2.2.2.1⟩
  ·cases e
  ·cases e
 |succ n ih=>
  intro m A t u x y v w ht hu hc r r' rv av;have hA:A.units<cLine:=by lia
  rcases qaI ht with f|⟨ts,n',rfl,e,dz⟩|⟨ts,n',rfl,e,dz⟩
  ·cases qbk f r;have fx:=qa5 f
   rcases qaI hu with g|⟨us,m',rfl,_,_⟩|⟨us,m',rfl,_,_⟩
   ·cases qbk g r';rw[qho f g];exact⟨qnz rv av fx (qa5 g),PL.rc_ff rv fx av (qa5 g)⟩
   ·obtain⟨p,vs,rfl,hp,_⟩:=qaz r';cases av;obtain⟨is,_,pl,_⟩:=I.list (SqL.of (le _ _ hp));have q:=PL.eq_fl rv fx pl.isList hA;rw[(qbF f).1];exact⟨q.1,q.2.2.1,q.2.2.2.2.1⟩
   ·obtain⟨p,vs,rfl,hp,_⟩:=qax r';cases av;obtain⟨is,_,pl,_⟩:=I.tuple (SqT.of (le _ _ hp));have q:=PL.eq_ft rv fx pl hA;rw[(qbF f).2.2.1];exact⟨q.1,q.2.2.1,q.2.2.2.2.1⟩
  ·cases e;obtain⟨p,vs,rfl,hp,rs⟩:=qaz r;cases rv;obtain⟨is,bR,pl,_⟩:=I.list (SqL.of (le _ _ hp))
   rcases qaI hu with g|⟨us,m',rfl,_,dy⟩|⟨us,m',rfl,_,_⟩
   ·cases qbk g r';have q:=PL.eq_fl av (qa5 g) pl.isList hA;rw[(qbF g).2.1];exact⟨q.2.1,q.2.2.2.1,q.2.2.2.2.2⟩
   ·obtain⟨p',ws,rfl,aj,aX⟩:=qaz r';cases av;obtain⟨bJ,aJ,aO,_⟩:=I.list (SqL.of (le _ _ aj));have q:=(qna (p:=p) (p':=p') hA bR aJ rs.length aX.length λj a1 a2=>by
     have b1:j<ts.length:=by have:=bR.length;have:=rs.length;simp at a1;lia
     have b2:j<us.length:=by have:=aJ.length;have:=aX.length;simp at a2;lia
     exact(ih m' A.in1 _ _ _ _ _ _ (qbR dz b1) (qbR dy b2) (by show A.units+1+n<cLine;lia) (rs.getD j b1) (aX.getD j b2) (RH.valsArr bR a1) (RH.valsArr aJ a2)).1).1 pl.isList aO.isList
    refine⟨?_,q⟩;by_cases z:p=p'
    ·subst z;have e:=qcM I le (n+1) m _ _ _ ht hu r r';rw[<-e,qbG _ _ ht];exact EqAt.same _
    ·exact EqAt.of_refs z q.1
   ·obtain⟨p',ws,rfl,aj,aX⟩:=qax r';cases av;obtain⟨bJ,aJ,aO,_⟩:=I.tuple (SqT.of (le _ _ aj));exact⟨EqAt.list_tuple pl.isList aO hA,RcAt.list_tuple pl.isList aO hA,RcNeAt.list_tuple pl.isList aO hA⟩
  ·cases e;obtain⟨p,vs,rfl,hp,rs⟩:=qax r;cases rv;obtain⟨is,bR,pl,_⟩:=I.tuple (SqT.of (le _ _ hp))
   rcases qaI hu with g|⟨us,m',rfl,_,_⟩|⟨us,m',rfl,_,dy⟩
   ·cases qbk g r';have q:=PL.eq_ft av (qa5 g) pl hA;rw[(qbF g).2.2.2];exact⟨q.2.1,q.2.2.2.1,q.2.2.2.2.2⟩
   ·obtain⟨p',ws,rfl,aj,aX⟩:=qaz r';cases av;obtain⟨bJ,aJ,aO,_⟩:=I.list (SqL.of (le _ _ aj));exact⟨EqAt.tuple_list pl aO.isList hA,RcAt.tuple_list pl aO.isList hA,RcNeAt.tuple_list pl aO.isList hA⟩
   ·obtain⟨p',ws,rfl,aj,aX⟩:=qax r';cases av;obtain⟨bJ,aJ,aO,_⟩:=I.tuple (SqT.of (le _ _ aj));have q:=(qna (p:=p) (p':=p') hA bR aJ rs.length aX.length λj a1 a2=>by
     have b1:j<ts.length:=by have:=bR.length;have:=rs.length;simp at a1;lia
     have b2:j<us.length:=by have:=aJ.length;have:=aX.length;simp at a2;lia
     exact(ih m' A.in1 _ _ _ _ _ _ (qbR dz b1) (qbR dy b2) (by show A.units+1+n<cLine;lia) (rs.getD j b1) (aX.getD j b2) (RH.valsArr bR a1) (RH.valsArr aJ a2)).1).2 pl aO
    refine⟨?_,q⟩;by_cases z:p=p'
    ·subst z;have e:=qcM I le (n+1) m _ _ _ ht hu r r';rw[<-e,qbG _ _ ht];exact EqAt.same _
    ·exact EqAt.of_refs z q.1
end
noncomputable def qiB{κ:Type}[DecidableEq κ](kvs:List (κ×T))(k:κ):Option T:=(kvs.find? λkv=>decide (kv.1=k)).map (·.2)
theorem qbC{κ:Type}[DecidableEq κ](k:κ): ∀{ts:List (κ×T)}{vs:List (κ×V)},qaV K B ts vs->(∀t,qiB ts k=some t->∃v,qfK vs k=some v/\Rep K B t v)/\(qiB ts k=none->qfK vs k=none)
 |[],vs,r=>by have r:vs=[]:=r;rw[r];exact⟨(λt e=>by cases e),λ_=>rfl⟩
 |(k',t)::ts,_,⟨v,r,e,a,b⟩=>by
  have ih:=qbC k b;subst e;unfold qiB qfK;rw[List.find?_cons,List.find?_cons];by_cases c:k'=k
  ·simp_all
  ·rw[decide_eq_false c];exact ih
section
noncomputable def EqW(P:Program)(w:World)(A:Around)(s:Shared)(x y:Value)(b:Bool):Prop:= ∀(E:Value->Shared->Prop)(Q:Bool->Shared->Prop),Q b s->wpAny (model P w) A (eqBool x y) Q E s
noncomputable def RcW(P:Program)(w:World)(op:CmpOp)(A:Around)(s:Shared)(x y:Value)(b:Bool):Prop:= ∀(E:Value->Shared->Prop)(Q:Value->Shared->Prop),Q (.bool b) s->wpAny (model P w) A (richCompare op x y) Q E s
noncomputable def Far(xs ys:Array Value)(e:Nat->Bool)(r:List (Value×Value)):Prop:= ∃i,i<=min xs.size ys.size/\r=(xs.toList.zip ys.toList).drop i/\((List.range (min xs.size ys.size)).take i).all e=true
theorem Far.next(h:Far xs ys e (p::r)): ∃i,∃(h1:i<xs.size)(h2:i<ys.size),p=(xs[i],ys[i])/\(e i=true->Far xs ys e r)/\(e i=false->(List.range (min xs.size ys.size)).all e=false):=by
 obtain⟨i,hi,hr,ha⟩:=h;have hZ:(xs.toList.zip ys.toList).length=min xs.size ys.size:=by simp
 have lt:i<(xs.toList.zip ys.toList).length:=by
  grind
 rw[List.drop_eq_getElem_cons lt] at hr;have h1:i<xs.size:=by omega
 have h2:i<ys.size:=by omega
 refine⟨i,h1,h2,?_,λhe=>⟨i+1,by omega,(List.cons.inj hr).2,?_⟩,λhe=> ?_⟩
 ·rw[(List.cons.inj hr).1];simp
 ·rw[List.take_succ,List.all_append,ha,List.getElem?_range (by omega)];simp[he]
 grind
theorem Far.done(h:Far xs ys e []):(List.range (min xs.size ys.size)).all e=true:=by
 obtain⟨i,hi,hr,ha⟩:=h;have:min xs.size ys.size<=i:=by
  simp_all
 rwa [List.take_of_length_le (by simpa using this)] at ha
theorem Far.start:Far xs ys e (xs.toList.zip ys.toList):=⟨0,Nat.zero_le _,rfl,rfl⟩
theorem qoh(hl:s.heap.IsTuple l xs)(hb:s.heap.IsTuple b ys)(hu:A.units<cLine)(he: ∀j (h1:j<xs.size) (h2:j<ys.size),EqW P w A.in1 s xs[j] ys[j] (e j)):
  RcW P w .Eq A s (.ref l) (.ref b) ((List.range (min xs.size ys.size)).all e&&xs.size==ys.size):=λE Q h=>by
 obtain⟨⟨c1,d1,a1,q1⟩,ho,hc,n,hd⟩:=id hl;obtain⟨⟨c2,d2,a2,q2⟩,aQ,bT,n2,hd2⟩:=id hb;simp only at hc bT hd hd2;subst hc bT hd hd2;have t1:s.TypeIs (.ref l) "tuple" :=⟨_,ho,rfl⟩
 have t2:s.TypeIs (.ref b) "tuple" :=⟨_,aQ,rfl⟩
 refine wpAny_richCompare_same_room (op:=.Eq) t1 t2 F.slot_tuple_eq (wpAny_call_entry F.slot_tuple_eq t1 F.entry_tuple_eq ?_ (F.args_tuple_eq_2 _ _)) hu;obtain⟨hp,g,d,tk,os⟩:=s;have f2:=AutoSeq1.sub_tuple_tuple
 wp_walk using wpAny_loadPart' ho,wpAny_loadPart' aQ,wpAny_forIn_list _ (λr c s'=>c.1=none/\s'=⟨hp,g,d,tk,os⟩/\Far xs ys e r) _
 case turn=>
  rintro p r c s' ⟨hc,rfl,fr⟩;obtain⟨i,h1,h2,rfl,ht,hf⟩:=fr.next;refine Va (he i h1 h2 _ _ ?_);cases q:e i with
  |true=>wp_walk;exact⟨rfl,rfl,ht q⟩
  |false=>wp_walk;exact⟨_,rfl,λz=>(nomatch z),by rw[hf q] at h;exact h⟩
 case fin=>
  rintro⟨c1,c2⟩ s' ⟨hc,rfl,fr⟩;simp only at hc;subst hc;rw[fr.done] at h
  wp_walk
  exact⟨_,rfl,λz=>(nomatch z),by simpa [Builtin.Tuple.tupleCompareSizes,bne] using h⟩
 case h=>exact⟨rfl,rfl,.start⟩
theorem qlf(hl:s.heap.IsTuple l xs)(hb:s.heap.IsTuple b ys)(hu:A.units<cLine)(he: ∀j (h1:j<xs.size) (h2:j<ys.size),EqW P w A.in1 s xs[j] ys[j] (e j)):
  RcW P w .NotEq A s (.ref l) (.ref b) (!((List.range (min xs.size ys.size)).all e&&xs.size==ys.size)):=λE Q h=>by
 obtain⟨⟨c1,d1,a1,q1⟩,ho,hc,n,hd⟩:=id hl;obtain⟨⟨c2,d2,a2,q2⟩,aQ,bT,n2,hd2⟩:=id hb;simp only at hc bT hd hd2;subst hc bT hd hd2;have t1:s.TypeIs (.ref l) "tuple" :=⟨_,ho,rfl⟩
 have t2:s.TypeIs (.ref b) "tuple" :=⟨_,aQ,rfl⟩
 refine wpAny_richCompare_same_room (op:=.NotEq) t1 t2 F.slot_tuple_ne (wpAny_call_entry F.slot_tuple_ne t1 F.entry_tuple_ne ?_ (F.args_tuple_ne_2 _ _)) hu;obtain⟨hp,g,d,tk,os⟩:=s;have f2:=AutoSeq1.sub_tuple_tuple
 wp_walk using wpAny_loadPart' ho,wpAny_loadPart' aQ,wpAny_forIn_list _ (λr c s'=>c.1=none/\s'=⟨hp,g,d,tk,os⟩/\Far xs ys e r) _
 case turn=>
  rintro p r c s' ⟨hc,rfl,fr⟩;obtain⟨i,h1,h2,rfl,ht,hf⟩:=fr.next;refine Va (he i h1 h2 _ _ ?_);cases q:e i with
  |true=>wp_walk;exact⟨rfl,rfl,ht q⟩
  |false=>wp_walk;exact⟨_,rfl,λz=>(nomatch z),by rw[hf q] at h;exact h⟩
 case fin=>
  rintro⟨c1,c2⟩ s' ⟨hc,rfl,fr⟩;simp only at hc;subst hc;rw[fr.done] at h
  wp_walk
  exact⟨_,rfl,λz=>(nomatch z),by simpa [Builtin.Tuple.tupleCompareSizes,bne] using h⟩
 case h=>exact⟨rfl,rfl,.start⟩
theorem qhm(dM:l≠b)(h:RcW P w .Eq A s (.ref l) (.ref b) k):EqW P w A s (.ref l) (.ref b) k:=λE Q hq=>by refine wpAny_holding (wpAny_ite_split (λz=>absurd (by grind) dM) λ_=> ?_);exact Va (h E _ (Vd hq))
theorem qoi{P:Program}{w:World}{A:Around}{s:Shared}{l:Addr}{b:Addr}{K:Type}[DecidableEq K]{knd:KeyKind P w K}{ka kb:List (K×Value)}{r:Bool}(ha:(l==sysModules)=false)(hb:(b==sysModules)=false)(da:s.heap.DictOf knd l ka)(db:s.heap.DictOf knd b kb)(hu:A.units<cLine)(hits:ka.length=kb.length->W.KeqHits A.in1 s kb ka r):
  RcW P w .Eq A s (.ref l) (.ref b) (ka.length==kb.length&&r)/\RcW P w .NotEq A s (.ref l) (.ref b) (!(ka.length==kb.length&&r)):=
 ⟨λE Q h=>W.keq_eq ha hb da db hu hits h,λE Q h=>W.keq_ne ha hb da db hu hits h⟩
end
noncomputable def okP:Nat->T->T->Bool
 |0,_,_=>false
 |n+1,t,u=>(okT 4 t&&okT 4 u)||(match t,u with
  |.tup a,.tup b=>(List.range (min a.length b.length)).all λj=>okP n (a.getD j .non) (b.getD j .non)
  |.dct a,.dct b=>a.all (λp=>okT 3 p.2)&&b.all (λp=>okT 3 p.2)
  |_,_=>false)
section
theorem qqP(kvs:List (Key×T))(k:Key):qtP kvs k=qiB kvs k:=rfl
theorem qjH{X:Cx}{O:List (Addr×Obj)}{Z:St}{H:Hp}{B:qaD}{s:Shared}(I:Inv X O Z H s)(le:LeH B H){A:Around}(hA:A.units+3<cLine){b:List (Key×T)}{ub:List (Key×V)}{kb:List (Key×Value)}(rb:qaV X.K B b ub)(vb:L2.KV ub kb)(ob:b.all (λp=>okT 3 p.2)=true):
  ∀{a:List (Key×T)}{ua:List (Key×V)}{ka:List (Key×Value)},qaV X.K B a ua->L2.KV ua ka->a.all (λp=>okT 3 p.2)=true->W.KeqHits A s kb ka (eqTd a b)
 |[],ua,ka,r,v,_=>by subst r;cases v;rw[eqTd];exact .nil
 |(k,t)::a,ua,ka,⟨x,r,e,ht,h⟩,v,o=>by
  subst e;rw[List.all_cons,Bool.and_eq_true] at o;cases v with
  |cons p q=>
   rename_i y ys;obtain⟨k',vx⟩:=y;have ek:k=k':=p.1;subst ek;have ih:=qjH I le hA rb vb ob h q o.2;have vl:=vb.val k;rw[eqTd,qqP];cases z:qiB b k with
   |none=>have z2:=(qbC k rb).2 z;rw[z2] at vl;exact .miss (qev.none_of vl)
   |some u=>
    obtain⟨w,z2,ru⟩:=(qbC k rb).1 u z;rw[z2] at vl;obtain⟨vw,e1,e2⟩:=qev.some_of vl;have ou:okT 3 u=true:=by obtain⟨kv,e3,e4⟩:=Option.map_eq_some_iff.mp z;rw[<-e4];exact List.all_eq_true.mp ob kv (List.mem_of_find?_eq_some e3)
    exact .hit e1 (qeO I le 3 3 A t u x w vx vw o.1 ou hA ht ru p.2 e2).1 ih
theorem qgQ(I:Inv X O Z H s)(le:LeH B H): ∀{a b:List (Key×T)}{us:List (Key×V)},qaV X.K B a us->qaV X.K B b us->a.all (λp=>okT 3 p.2)=true->b.all (λp=>okT 3 p.2)=true->a=b
 |[],b,us,r,r',_,_=>by
  subst r;cases b with
  |nil=>rfl
  |cons p b=>obtain⟨_,_,e,_⟩:=r';cases e
 |(k,t)::a,b,us,⟨v,r,e,h,h2⟩,r',o,o'=>by
  subst e;cases b with
  |nil=>cases r'
  |cons p b=>obtain⟨k',t'⟩:=p;obtain⟨v',q,e,h',br⟩:=r';cases e;rw[List.all_cons,Bool.and_eq_true] at o o';rw[qcM I le 3 3 t t' v o.1 o'.1 h h',qgQ I le h2 br o.2 o'.2]
theorem qc5(nd:(b.map (·.1)).Nodup)(o:b.all (λp=>okT 3 p.2)=true): ∀{a:List (Key×T)},(∀p∈a,p∈b)->eqTd a b=true
 |[],_=>rfl
 |(k,t)::a,h=>by
  have hm:=h _ Vj;have e:qtP b k=some t:=by
   unfold qtP;have:b.find? (λkv=>decide (kv.1=k))=some (k,t):=by
    clear o h
    induction b with
    |nil=>cases hm
    |cons q b ih=>
     rw[List.map_cons,List.nodup_cons] at nd
     rcases List.mem_cons.mp hm with rfl|hm
     ·simp
     ·rw[List.find?_cons_of_neg (by
       grind)]
      exact ih nd.2 hm
   rw[this];rfl
  rw[eqTd,e,qc5 nd o λp hp=>h p (List.mem_cons_of_mem _ hp)];show(eqT t t&&true)=true;rw[qbG 3 t (List.all_eq_true.mp o _ hm)];rfl
theorem qpc{us:List (Key×V)}{vs:List (Key×Value)}(r:L2.KV us vs):us.map (·.1)=vs.map (·.1):=by
 induction r with
 |nil=>rfl
 |cons p _ ih=>simp_all
theorem qeM: ∀{a:List (Key×T)}{us:List (Key×V)},qaV K B a us->a.map (·.1)=us.map (·.1)
 |[],us,r=>by rw[r];rfl
 |(k,t)::a,us,⟨v,r,e,_,h⟩=>by rw[e,List.map_cons,List.map_cons,qeM h]
theorem qre{X:Cx}{O:List (Addr×Obj)}{Z:St}{H:Hp}{B:qaD}{s:Shared}(I:Inv X O Z H s)(le:LeH B H): ∀(n:Nat)(A:Around)(t u:T)(x y:V)(v w:Value),okP n t u=true->A.units+4+n<cLine->Rep X.K B t x->Rep X.K B u y->RelV x v->RelV y w->
  EqW X.prog X.w A s v w (eqT t u)/\RcW X.prog X.w .Eq A s v w (eqT t u)/\RcW X.prog X.w .NotEq A s v w (!eqT t u)/\(x=y->eqT t u=true):=by
 intro n
 induction n with
 |zero=>intro A t u x y v w h;cases h
 |succ n ih=>
  intro A t u x y v w h hu r r' rv av;unfold okP at h;rw[Bool.or_eq_true] at h
  rcases h with h|h
  ·rw[Bool.and_eq_true] at h;have q:=qeO I le 4 4 A t u x y v w h.1 h.2 (by omega) r r' rv av;refine⟨λE Q k=>q.1 _ _ E Q k,λE Q k=>q.2.1 _ _ E Q k,λE Q k=>q.2.2 _ _ E Q k,λe=> ?_⟩;subst e;rw[qcM I le 4 4 t u x h.1 h.2 r r',qbG 4 u h.2]
  split at h
  ·rename_i ts us;obtain⟨p,vs,rfl,hp,rs⟩:=qax r;obtain⟨p',ws,rfl,aj,aX⟩:=qax r';cases rv;cases av;obtain⟨is,bR,pl,_⟩:=I.tuple (SqT.of (le _ _ hp));obtain⟨bJ,aJ,aO,_⟩:=I.tuple (SqT.of (le _ _ aj));have l1:=bR.length;have l2:=aJ.length;have l3:=rs.length;have l4:=aX.length;have each: ∀j,j<ts.length->j<us.length->okP n (ts.getD j .non) (us.getD j .non)=true:=λj a b=>List.all_eq_true.mp h j (List.mem_range.mpr (by omega));have it: ∀j (a1:j<(List.toArray is).size) (a2:j<(List.toArray bJ).size),EqW X.prog X.w A.in1 s (List.toArray is)[j] (List.toArray bJ)[j] (qi1 ts us j):=λj a1 a2=>by
    have b1:j<ts.length:=by simp at a1;omega
    have b2:j<us.length:=by simp at a2;omega
    exact(ih A.in1 _ _ _ _ _ _ (each j b1 b2) (by show A.units+1+4+n<cLine;omega) (rs.getD j b1) (aX.getD j b2) (RH.valsArr bR a1) (RH.valsArr aJ a2)).1
   have e1:(List.toArray is).size=ts.length:=by simp;omega
   have e2:(List.toArray bJ).size=us.length:=by simp;omega
   have q1:=qoh pl aO (by omega) it;have q2:=qlf pl aO (by omega) it;rw[e1,e2,<-qb5] at q1 q2;have same:p=p'->eqTs ts us=true:=λz=>by
    subst z;rw[hp] at aj;cases aj;rw[qhn (by omega),List.all_eq_true];intro j hj;have hj:=List.mem_range.mp hj;have b2:j<us.length:=by omega
    have a1:j<(List.toArray is).size:=by simp;omega
    exact(ih A.in1 _ _ _ _ _ _ (each j hj b2) (by show A.units+1+4+n<cLine;omega) (rs.getD j hj) (aX.getD j b2) (RH.valsArr bR a1) (RH.valsArr bR a1)).2.2.2 rfl
   refine⟨?_,q1,q2,λz=>same (by cases z;rfl)⟩;by_cases z:p=p'
   ·have e:=same z;subst z;show EqW X.prog X.w A s _ _ (eqTs ts us);rw[e]
    exactλE Q k=>SeqAt.EqAt.same _ _ _ E Q k
   ·exact qhm z q1
  ·rename_i a b;rw[Bool.and_eq_true] at h;obtain⟨p,oa,ua,rfl,hp,ra⟩:=qcO r;obtain⟨p',ob,ub,rfl,aj,rb⟩:=qcO r';cases rv;cases av;obtain⟨z1,hd1,va,cX,jK⟩:=qcv I.hok (.inr ⟨_,le _ _ hp⟩);obtain⟨z2,hd2,vb,fb,eT⟩:=qcv I.hok (.inr ⟨_,le _ _ aj⟩);obtain⟨q1,q2⟩:=qoi hd1 hd2 jK eT (by omega) λ_=>qjH I le (A:=A.in1) (by show A.units+1+3<cLine;omega) rb fb h.2 ra cX h.1;have e:eqT (.dct a) (.dct b)=(va.length==vb.length&&eqTd a b):=by rw[eqT,<-cX.length,<-fb.length,ra.length,rb.length]
   rw[<-e] at q1 q2;have same:p=p'->eqT (.dct a) (.dct b)=true:=λz=>by subst z;rw[hp] at aj;cases aj;have ab:=qgQ I le ra rb h.1 h.2;subst ab;rw[eqT,qc5 ?_ h.1 λ_ h=>h,beq_self_eq_true];rfl;rw[qeM ra,qpc cX];obtain⟨_,_,_,_,_,_,_,_,hn⟩:=jK;exact hn
   refine⟨?_,q1,q2,λz=>same (by cases z;rfl)⟩;by_cases z:p=p'
   ·have e:=same z;subst z;rw[e]
    exactλE Q k=>SeqAt.EqAt.same _ _ _ E Q k
   ·exact qhm z q1
  ·cases h
end
end NV
namespace TM
open PySem Builtin
end TM
namespace PL
open PySem L2 SR SetL PySem.Spec PyProof.Rows
section
noncomputable def rCat0(K:W.Frag):R2:=λx y H Q=> ∃a b ys,x= .ref a/\y= .ref b/\SqT K H a []/\SqT K H b ys/\Q (.ref b) H
theorem op_cat0:OpR X (binaryOp .Add) (rCat0 X.K):=by
 intro O s Z H x y v u Q I rx ry h;obtain⟨a,b,ys,rfl,rfl,ha,hb,q⟩:=h;cases rx;cases ry;obtain⟨its,r1,p1,_⟩:=I.tuple ha;obtain⟨aE,r2,p2,_⟩:=I.tuple hb;cases r1;obtain⟨⟨cls,dd,data,sl⟩,ho,hc,n,hd⟩:=id p1;obtain⟨⟨iR,eT,data2,gj⟩,aQ,bT,n2,hd2⟩:=id p2;subst hc hd bT hd2
 exact concat_meets ⟨_,ho,rfl⟩ ⟨_,aQ,rfl⟩ noFill_tuple_add seq_tuple_add F.slot_tuple_add F.entry_tuple_add (F.args_tuple_add_2 _ _)
  (tuple_addW0 a b _ _ n n2 dd eT sl gj rfl) ⟨ho,aQ,⟨.ref b,H,I,rfl,q⟩⟩
end
end PL
namespace TM
open PySem Builtin
end TM
namespace PL
open PySem L2 SR SetL PySem.Spec PyProof.Rows
end PL
namespace NV
open PySem L2
inductive Nv where
 |v (t:T)|t (ts:List T)|l (ts:List T)|d (kvs:List (Key×T))|p (k:Nat) (c:Ct) (t:T)
noncomputable def Mu.live(U:Mu)(k:Nat):Bool:=match U.l[k]? with
 |some .gone=>false
 |some _=>true
 |none=>false
theorem Mu.live_at{U:Mu}{k:Nat}(h:U.live k=true): ∃c,U.l[k]? =some c/\c≠.gone:=by
 unfold Mu.live at h;split at h
 ·cases h
 ·simp_all
 ·cases h
noncomputable def nvR(ow:Bool):Option Nv->Mu->R T
 |some (.v t),U=>.ok t U
 |some (.t ts),U=>.ok (.tup ts) U
 |some (.l ts),U=>if ow=true then .ok (.obj U.l.length) (U.add (.ls ts)) else .ok (.lst ts) U
 |some (.d ts),U=>if ow=true then .ok (.obj U.l.length) (U.add (.dk ts)) else .ok (.dct ts) U
 |some (.p k c t),U=>if U.live k=true then .ok t (U.put k c) else .no
 |none,_=>.no
noncomputable def KV(M:Md)(U:Mu)(H:Hp)(B:qaD)(Q:VK):Nv->Prop
 |.v t=> ∀B' x,Hs M U H B'->Go H B H B'->Rep M.K B' t x->Q x H
 |.t ts=> ∀B' p vs,Hs M U H B'->Go H B H B'->H p=none->Reps M.K B' ts vs->Q (.ref p) (upd H p (.tup vs))
 |.l ts=> ∀B' p vs,Hs M U H B'->Go H B H B'->H p=none->Reps M.K B' ts vs->Q (.ref p) (upd H p (.lst vs))
 |.d ts=> ∀B' p vs,Hs M U H B'->Go H B H B'->H p=none->qaV M.K B' ts vs->Q (.ref p) (upd H p (.dK vs))
 |.p k c t=>U.live k=true/\∀B' a o x,Hs M U H B'->Go H B H B'->B'.ad k=some a->qew M.K B' c o->Rep M.K B' t x->Q x (upd H a o)
section
theorem qhY(c:Str)(m:Mu):nvR ow o U≠.ex c m:=λe=>by unfold nvR at e;split at e<;>first|cases e|grind
theorem qhX{ow:Bool}(cq:Cl Q)(e:nvR ow o U= .ok t m)(k:KE M H B Q t m): ∃n,o=some n/\KV M U H B Q n:=by
 unfold nvR at e;split at e
 ·cases e;exact⟨_,rfl,λB' x h g r=>k x H B' h g r⟩
 ·cases e;exact⟨_,rfl,λB' p vs h g hp r=>k _ _ _ (h.new hp (λps z=>by cases z)) (g.trans (h.gnew hp)) (qcl qaf (r.mono (h.upd_le (h.fr hp))))⟩
 ·refine⟨_,rfl,λB' p vs h g hp r=> ?_⟩;split at e
  ·cases e;have le:Le B' (B'.add U.l.length p):=(h.gown (o:=.lst vs) hp).le;exact k _ _ _ (h.own (c:=.ls _) (o:=.lst vs) hp ⟨vs,rfl,r.mono le⟩).1 (g.trans (h.gown hp)) (qdu (by show(if U.l.length=U.l.length then some p else _)=_;rw[if_pos rfl]))
  ·cases e;exact k _ _ _ (h.new hp (λps z=>by cases z)) (g.trans (h.gnew hp)) (qbL qaf (r.mono (h.upd_le (h.fr hp))))
 ·refine⟨_,rfl,λB' p vs h g hp r=> ?_⟩;split at e
  ·cases e;have le:Le B' (B'.add U.l.length p):=(h.gown (o:=.dK vs) hp).le;exact k _ _ _ (h.own (c:=.dk _) (o:=.dK vs) hp ⟨vs,rfl,r.mono le⟩).1 (g.trans (h.gown hp)) (qdu (by show(if U.l.length=U.l.length then some p else _)=_;rw[if_pos rfl]))
  ·cases e;refine cq _ p vs qaf λob=> ?_;rw[qfL];exact k _ _ _ (h.new hp (λps z=>by cases z)) (g.trans (h.gnew hp)) (qjh qaf (r.mono (h.upd_le (h.fr hp))))
 ·split at e
  ·rename_i hl;cases e;obtain⟨c0,e0,n0⟩:=Mu.live_at hl;exact⟨_,rfl,hl,λB' a o x h g ha hc r=>k x _ B' (h.put e0 n0 ha hc) (g.trans (qsx ha)) r⟩
  ·cases e
 ·cases e
end
noncomputable def OkO(M:Md)(r:R2)(g:Mu->T->T->Option Nv):Prop:= ∀(U:Mu)(H:Hp)(B:qaD)(x y:V)(a b:T)(n:Nv)(Q:VK),Hs M U H B->Rep M.K B a x->Rep M.K B b y->g U a b=some n->KV M U H B Q n->r x y H Q
noncomputable def OkN(M:Md)(r:List V->Hp->VK->Prop)(g:Mu->List T->Option Nv):Prop:= ∀(U:Mu)(H:Hp)(B:qaD)(vs:List V)(ts:List T)(n:Nv)(Q:VK),Hs M U H B->Reps M.K B ts vs->g U ts=some n->KV M U H B Q n->r vs H Q
theorem OkO.b(h:OkO M r g):OkB M r (λa b U=>nvR ow (g U a b) U):=
 ⟨λ_ _ _ c m=>qhY c m,λU H B x y a b t μ' Q cq hs ra rb e k=>by obtain⟨n,e',kv⟩:=qhX cq e k;exact h U H B x y a b n Q hs ra rb e' kv⟩
noncomputable def dr1(U:Mu):T->T
 |.obj k=>(match U.l[k]? with|some (.ls ts)=>.lst ts|_=>.obj k)
 |t=>t
noncomputable def dr2(U:Mu)(t:T):T:=match dr1 U t with
 |.lst ts=>.lst (ts.map (dr1 U))
 |t=>t
open Classical in
noncomputable def qaD.all(B:qaD)(H:Hp)(U:Mu):qaD:=⟨λa=>if ∃k c,B.ad k=some a/\U.l[k]? =some c/\c≠.gone then H a else B a,B.ad⟩
section
open Classical
theorem qde(h:Hs M U H B):Le B (B.all H U)/\LeH (B.all H U) H:=by
 refine⟨⟨λa o e=> ?_,λ_ _ e=>e⟩,λa o e=> ?_⟩
 ·show(if _ then H a else B a)=_;split
  ·exact h.bh a o e
  ·exact e
 ·have e:(if _ then H a else B a)=some o:=e;split at e
  ·exact e
  ·exact h.bh a o e
theorem qtM(h:Hs M U H B)(e:U.l[k]? =some c)(n:c≠.gone)(ha:B.ad k=some a): ∃o,(B.all H U) a=some o/\qew M.K (B.all H U) c o:=by obtain⟨o,_,ho,hc⟩:=h.at e n ha;refine⟨o,?_,hc.mono (qde h).1⟩;show(if _ then H a else B a)=_;rw[if_pos ⟨k,c,ha,e,n⟩];exact ho
theorem qcd(h:Hs M U H B)(r:Rep M.K B t v):Rep M.K (B.all H U) (dr1 U t) v:=by
 unfold dr1;split
 ·obtain⟨a,rfl,ea⟩:=qaB r;split
  ·rename_i ts el;obtain⟨o,e1,vs,rfl,rv⟩:=qtM h el (by simp) ea;exact qbL e1 rv
  ·exact r.mono (qde h).1
 ·exact r.mono (qde h).1
theorem qke(h:Hs M U H B)(r:Rep M.K B t v):Rep M.K (B.all H U) (dr2 U t) v:=by
 have many: ∀{ts:List T}{vs:List V},Reps M.K B ts vs->Reps M.K (B.all H U) (ts.map (dr1 U)) vs:=λ{ts vs} r=>
  .of_get (by rw[r.length,List.length_map]) λi t' v e1 e2=>by
   rw[List.getElem?_map] at e1;cases q:ts[i]? with
   |none=>rw[q] at e1;cases e1
   |some u=>rw[q] at e1;cases e1;obtain⟨v',ev,rv⟩:=r.get q;rw[e2] at ev;cases ev;exact qcd h rv
 have r0:=qcd h r;unfold dr2;split
 ·rename_i ts e;unfold dr1 at e;split at e
  ·rename_i k;obtain⟨a,rfl,ea⟩:=qaB r;split at e
   ·rename_i us el;cases e;obtain⟨o,_,ho,vs,rfl,rv⟩:=h.at el (by simp) ea;refine qbL (vs:=vs) ?_ (many rv);show(if _ then H a else B a)=_;rw[if_pos ⟨k,_,ea,el,by simp⟩];exact ho
   ·cases e
  ·subst e;obtain⟨p,vs,rfl,hp,rv⟩:=qaz r;exact qbL ((qde h).1.h _ _ hp) (many rv)
 ·exact r0
theorem qbV(h:Hs M U H B)(e:sqv U t=some (b,ts))(r:Rep M.K B t v): ∃p vs,v= .ref p/\Reps M.K B ts vs/\(if b=true then H p=some (.lst vs) else B p=some (.tup vs)/\H p=some (.tup vs)):=by
 unfold sqv at e;split at e
 ·cases e;obtain⟨p,vs,rfl,hp,rv⟩:=qaz r;exact⟨p,vs,rfl,rv,by exact h.bh _ _ hp⟩
 ·cases e;obtain⟨p,vs,rfl,hp,rv⟩:=qax r;exact⟨p,vs,rfl,rv,by exact⟨hp,h.bh _ _ hp⟩⟩
 ·split at e
  ·rename_i k us el;obtain⟨a,rfl,ea⟩:=qaB r;obtain⟨o,_,ho,vs,rfl,rv⟩:=h.at el (by simp) ea
   simp_all
  ·cases e
 ·cases e
end
noncomputable def qsG(U:Mu)(a b:T):Option Nv:=match a,b with
 |.int i,.int j=>some (.v (.int (i+j)))
 |.str i,.str j=>if i.length+j.length<=100000 then some (.v (.str (i++j))) else none
 |a,b=>(match sqv U a,sqv U b with
  |some (true,xs),some (true,ys)=>if xs.length+ys.length<=1000 then some (.l (xs++ys)) else none
  |some (false,[]),some (false,ys)=>some (.v (.tup ys))
  |some (false,x::xs),some (false,[])=>if xs.length<=900 then some (.v (.tup (x::xs))) else none
  |some (false,x::xs),some (false,y::ys)=>if xs.length+ys.length<=900 then some (.t (x::xs++y::ys)) else none
  |_,_=>none)
noncomputable def gSub(_:Mu):T->T->Option Nv
 |.int i,.int j=>some (.v (.int (i - j)))
 |_,_=>none
noncomputable def qvC(U:Mu)(a b:T):Option Nv:=match a,b with
 |.int i,.int j=>if(-4294967296<=i/\i<=4294967296)\/(-4294967296<=j/\j<=4294967296) then some (.v (.int (i*j))) else none
 |_,_=>none
noncomputable def qvG(_:Mu):T->T->Option Nv
 |.int i,.int j=>if 0<j/\j<1073741824 then some (.v (.int (i / j))) else none
 |_,_=>none
noncomputable def qvD(_:Mu):T->T->Option Nv
 |.int i,.int j=>if 0<j then some (.v (.int (i % j))) else none
 |_,_=>none
noncomputable def qxZ(_:Mu):T->T->Option Nv
 |.int i,.int j=>if(0<=j/\j<=100)/\ -1000<=i/\i<=1000 then some (.v (.int (i ^ j.toNat))) else none
 |_,_=>none
theorem OpR.or(h:OpR X f r)(h':OpR X f r'):OpR X f (λx y H Q=>r x y H Q\/r' x y H Q):=λO s Z H x y v u Q I rx ry q=>q.elim (h _ s Z H x y v u Q I rx ry) (h' _ s Z H x y v u Q I rx ry)
section
noncomputable def rAdd(K:W.Frag):R2:=λx y H Q=>(rI0 (λi j=>.int (i+j)) x y H Q\/(∃i j,x= .str i/\y= .str j/\i.length+j.length<=sizeLine/\Q (.str (i++j)) H))\/(qwE x y H Q\/(PL.rCat0 K x y H Q\/qrp K x y H Q))
theorem qoQ:OpR X (binaryOp .Add) (rAdd X.K):=OpR.or (OpR.or qrX qhW) (OpR.or qjf (OpR.or PL.op_cat0 qoP))
theorem qr6{M:Md}{X:Cx}(hK:X.K=M.K):OkO M (rAdd X.K) qsG:=by
 intro U H B x y a b n Q h ra rb e k;rw[hK];unfold qsG at e;split at e
 ·cases e;rw[qah ra,qah rb];exact .inl (.inl ⟨_,_,rfl,rfl,k B _ h .refl qaR⟩)
 ·split at e
  ·rename_i hz;cases e;have l0:100000<=sizeLine:=by decide
   rw[qaF ra,qaF rb];exact .inl (.inr ⟨_,_,rfl,rfl,by omega,k B _ h .refl qcm⟩)
  ·cases e
 ·have l0:1000<=sizeLine:=by decide
  split at e
  ·rename_i xs ys e1 e2;split at e
   ·rename_i hz;cases e;obtain⟨p,vs,rfl,r1,h1⟩:=qbV h e1 ra;obtain⟨q,ws,rfl,r2,h2⟩:=qbV h e2 rb;rw[if_pos rfl] at h1 h2;exact .inr (.inl ⟨p,q,vs,ws,rfl,rfl,h1,h2,by rw[r1.length,r2.length];omega,λd hd=>k B d _ h .refl hd (r1.append r2)⟩)
   ·cases e
  ·rename_i ys e1 e2;cases e;obtain⟨p,vs,rfl,r1,h1⟩:=qbV h e1 ra;obtain⟨q,ws,rfl,r2,h2⟩:=qbV h e2 rb;rw[if_neg (by decide)] at h1 h2;cases r1.inv0;exact .inr (.inr (.inl ⟨p,q,ws,rfl,rfl,SqT.of h1.2,SqT.of h2.2,k B _ h .refl (qcl h2.1 r2)⟩))
  ·rename_i x xs e1 e2;split at e
   ·rename_i hz;cases e;obtain⟨p,vs,rfl,r1,h1⟩:=qbV h e1 ra;obtain⟨q,ws,rfl,r2,h2⟩:=qbV h e2 rb;rw[if_neg (by decide)] at h1 h2;cases r2.inv0;have l1:=r1.length;rw[List.length_cons] at l1;exact .inr (.inr (.inr ⟨p,q,vs,[],rfl,rfl,SqT.of h1.2,SqT.of h2.2,(λz=>by rw[z] at l1;cases l1),by simp;omega,(λ_=>k B _ h .refl (qcl h1.1 r1)),λz=>absurd rfl z⟩))
   ·cases e
  ·rename_i x xs y ys e1 e2;split at e
   ·rename_i hz;cases e;obtain⟨p,vs,rfl,r1,h1⟩:=qbV h e1 ra;obtain⟨q,ws,rfl,r2,h2⟩:=qbV h e2 rb;rw[if_neg (by decide)] at h1 h2;have l1:=r1.length;have l2:=r2.length;rw[List.length_cons] at l1 l2;exact .inr (.inr (.inr ⟨p,q,vs,ws,rfl,rfl,SqT.of h1.2,SqT.of h2.2,(λz=>by rw[z] at l1;cases l1),by omega,(λz=>by rw[z] at l2;cases l2),λ_ d hd=>k B d _ h .refl hd (r1.append r2)⟩))
   ·cases e
  ·cases e
theorem qrY:OkO M (rI0 λi j=>.int (i - j)) gSub:=by
 intro U H B x y a b n Q h ra rb e k;unfold gSub at e;split at e
 ·cases e;exact⟨_,_,qah ra,qah rb,k B _ h .refl qaR⟩
 ·cases e
noncomputable def qwy(K:W.Frag):R2:=λx y H Q=>rI qt7 (λi j=>.int (i*j)) x y H Q
theorem qoM:OpR X (binaryOp .Mult) (qwy X.K):=qrQ
theorem qr0{M:Md}{X:Cx}(hK:X.K=M.K):OkO M (qwy X.K) qvC:=by
 intro U H B x y a b n Q h ra rb e k;unfold qvC at e;split at e
 ·split at e
  ·rename_i hz;cases e;refine⟨_,_,qah ra,qah rb,?_,k B _ h .refl qaR⟩
   rcases hz with hz|hz
   ·exact .inl ⟨by lia,by lia⟩
   ·exact .inr ⟨by lia,by lia⟩
  ·cases e
 ·cases e
theorem qr5:OkO M (rI qxc λi j=>.int (i / j)) qvG:=by
 intro U H B x y a b n Q h ra rb e k;unfold qvG at e;split at e
 ·split at e
  ·rename_i hz;cases e;exact⟨_,_,qah ra,qah rb,hz,k B _ h .refl qaR⟩
  ·cases e
 ·cases e
theorem qr1:OkO M (rI (λ_ j=>0<j) λi j=>.int (i % j)) qvD:=by
 intro U H B x y a b n Q h ra rb e k;unfold qvD at e;split at e
 ·split at e
  ·rename_i hz;cases e;exact⟨_,_,qah ra,qah rb,hz,k B _ h .refl qaR⟩
  ·cases e
 ·cases e
end
noncomputable def qhN(x y:Str):Bool:=decide (x.cps.toList<y.cps.toList)
noncomputable def gLt(_:Mu):T->T->Option Nv
 |.int i,.int j=>some (.v (.bl (decide (i<j))))
 |.str i,.str j=>some (.v (.bl (qhN i j)))
 |_,_=>none
noncomputable def gLe(_:Mu):T->T->Option Nv
 |.int i,.int j=>some (.v (.bl (decide (i<=j))))
 |.str i,.str j=>some (.v (.bl (!qhN j i)))
 |_,_=>none
noncomputable def gGt(_:Mu):T->T->Option Nv
 |.int i,.int j=>some (.v (.bl (decide (j<i))))
 |_,_=>none
noncomputable def gGe(_:Mu):T->T->Option Nv
 |.int i,.int j=>some (.v (.bl (decide (j<=i))))
 |_,_=>none
noncomputable def qkX(neg:Bool)(U:Mu)(a b:T):Option Nv:=
 if okT 8 (dr1 U a)=true/\okT 8 (dr1 U b)=true then some (.v (.bl (if neg then !eqT (dr1 U a) (dr1 U b) else eqT (dr1 U a) (dr1 U b))))
 else if okT 8 (dr2 U a)=true/\okT 8 (dr2 U b)=true then some (.v (.bl (if neg then !eqT (dr2 U a) (dr2 U b) else eqT (dr2 U a) (dr2 U b)))) else(match neg,a,b with
  |false,.scr ns,.lst []=>some (.v (.bl ns.isEmpty))
  |_,_,_=>if okP 3 (dr1 U a) (dr1 U b)=true then some (.v (.bl (if neg then !eqT (dr1 U a) (dr1 U b) else eqT (dr1 U a) (dr1 U b)))) else none)
noncomputable def qpi:T->Option Bool
 |.non=>some true
 |_=>some false
noncomputable def gIs(neg:Bool)(_:Mu):T->T->Option Nv
 |.bl i,.bl j=>some (.v (.bl (if neg then i != j else i==j)))
 |t,.non=>(qpi t).map λb=>.v (.bl (if neg then !b else b))
 |_,_=>none
section
theorem qrS:OpR X (compareOp .Lt) (λx y H Q=>rI0 (λi j=>.bl (decide (i<j))) x y H Q\/∃i j,x= .str i/\y= .str j/\Q (.bl (decide (i.cps.toList<j.cps.toList))) H):=OpR.or qu4 qjd
theorem qrT:OpR X (compareOp .LtE) (λx y H Q=>rI0 (λi j=>.bl (decide (i<=j))) x y H Q\/∃i j,x= .str i/\y= .str j/\Q (.bl (!decide (j.cps.toList<i.cps.toList))) H):=OpR.or qu5 qje
theorem qva:OkO M (λx y H Q=>rI0 (λi j=>.bl (decide (i<j))) x y H Q\/∃i j,x= .str i/\y= .str j/\Q (.bl (decide (i.cps.toList<j.cps.toList))) H) gLt:=by
 intro U H B x y a b n Q h ra rb e k;unfold gLt at e;split at e
 ·cases e;exact .inl ⟨_,_,qah ra,qah rb,k B _ h .refl qa6⟩
 ·cases e;exact .inr ⟨_,_,qaF ra,qaF rb,k B _ h .refl qa6⟩
 ·cases e
theorem qvb:OkO M (λx y H Q=>rI0 (λi j=>.bl (decide (i<=j))) x y H Q\/∃i j,x= .str i/\y= .str j/\Q (.bl (!decide (j.cps.toList<i.cps.toList))) H) gLe:=by
 intro U H B x y a b n Q h ra rb e k;unfold gLe at e;split at e
 ·cases e;exact .inl ⟨_,_,qah ra,qah rb,k B _ h .refl qa6⟩
 ·cases e;exact .inr ⟨_,_,qaF ra,qaF rb,k B _ h .refl qa6⟩
 ·cases e
theorem qvc:OkO M (rI0 λi j=>.bl (decide (j<i))) gGt:=by
 intro U H B x y a b n Q h ra rb e k;unfold gGt at e;split at e
 ·cases e;exact⟨_,_,qah ra,qah rb,k B _ h .refl qa6⟩
 ·cases e
theorem qvd:OkO M (rI0 λi j=>.bl (decide (j<=i))) gGe:=by
 intro U H B x y a b n Q h ra rb e k;unfold gGe at e;split at e
 ·cases e;exact⟨_,_,qah ra,qah rb,k B _ h .refl qa6⟩
 ·cases e
noncomputable def quK(K:W.Frag)(neg:Bool):R2:=λx y H Q=>(∃B t u,LeH B H/\Rep K B t x/\Rep K B u y/\okT 8 t=true/\okT 8 u=true/\Q (.bl (if neg then !eqT t u else eqT t u)) H)\/(neg=false/\∃(a b:Addr)(ns:List Int),x= .ref a/\y= .ref b/\SqL K H a (ns.map V.int)/\SqL K H b []/\Q (.bl ns.isEmpty) H)\/∃B t u,LeH B H/\Rep K B t x/\Rep K B u y/\okP 3 t u=true/\Q (.bl (if neg then !eqT t u else eqT t u)) H
theorem qrW(hu:X.A.units+8<cLine):OpR X (compareOp .Eq) (quK X.K false):=by
 intro O s Z H x y v u Q I rx ry q
 rcases q with⟨B,t,u',le,ra,rb,o1,o2,q⟩|⟨_,a,b,ns,rfl,rfl,h1,h2,q⟩|⟨B,t,u',le,ra,rb,o,q⟩
 ·exact(qeO I le 8 8 X.A t u' x y v u o1 o2 hu ra rb rx ry).2.1 _ _ _ _ ⟨.bl _,H,I,rfl,q⟩
 ·refine qfV (by omega) _ s Z H _ _ v u Q I rx ry ⟨a,b,_,_,rfl,rfl,h1,h2,?_⟩;cases ns with
  |nil|cons n ns=>simp_all
 ·exact(qre I le 3 X.A t u' x y v u o (by omega) ra rb rx ry).2.1 _ _ ⟨.bl _,H,I,rfl,q⟩
theorem qrP(hu:X.A.units+8<cLine):OpR X (compareOp .NotEq) (quK X.K true):=by
 intro O s Z H x y v u Q I rx ry q
 rcases q with⟨B,t,u',le,ra,rb,o1,o2,q⟩|⟨e,_⟩|⟨B,t,u',le,ra,rb,o,q⟩
 ·exact(qeO I le 8 8 X.A t u' x y v u o1 o2 hu ra rb rx ry).2.2 _ _ _ _ ⟨.bl _,H,I,rfl,q⟩
 ·cases e
 ·exact(qre I le 3 X.A t u' x y v u o (by omega) ra rb rx ry).2.2.1 _ _ ⟨.bl _,H,I,rfl,q⟩
theorem qr4{M:Md}{X:Cx}{neg:Bool}(hK:X.K=M.K):OkO M (quK X.K neg) (qkX neg):=by
 intro U H B x y a b n Q h ra rb e k;rw[hK];have le:=(qde h).2;unfold qkX at e;split at e
 ·rename_i o;cases e;exact .inl ⟨_,_,_,le,qcd h ra,qcd h rb,o.1,o.2,k B _ h .refl qa6⟩
 ·split at e
  ·rename_i o;cases e;exact .inl ⟨_,_,_,le,qke h ra,qke h rb,o.1,o.2,k B _ h .refl qa6⟩
  ·split at e
   ·cases e;obtain⟨p,vs,rfl,r1,r2⟩:=qaz rb;cases r2.inv0;unfold Rep at ra;obtain⟨q,rfl,r3⟩:=ra;exact .inr (.inl ⟨rfl,_,_,_,rfl,rfl,qiM (λa o e=>le _ _ ((qde h).1.h a o e)) r3,SqL.of (le _ _ ((qde h).1.h _ _ r1)),k B _ h .refl qa6⟩)
   ·split at e
    ·rename_i o;cases e;exact .inr (.inr ⟨_,_,_,le,qcd h ra,qcd h rb,o,k B _ h .refl qa6⟩)
    ·cases e
theorem qjF(r:Rep K B t v)(e:qpi t=some c):decide (v= .non)=c:=by
 cases t with
 |non=>cases e;rw[qcN r];rfl
 |bl _=>cases e;rw[qbJ r];rfl
 |int _=>cases e;rw[qah r];rfl
 |str _=>cases e;rw[qaF r];rfl
 |tup _=>cases e;obtain⟨_,_,rfl,_⟩:=qax r;rfl
 |lst _=>cases e;obtain⟨_,_,rfl,_⟩:=qaz r;rfl
 |dct _=>cases e;obtain⟨_,_,_,rfl,_⟩:=qcO r;rfl
 |obj _=>cases e;obtain⟨_,rfl,_⟩:=qaB r;rfl
 |exc _=>cases e;obtain⟨_,rfl,_⟩:=qog r;rfl
 |fn _|scr _=>cases e;unfold Rep at r;grind
theorem qoN:OpR X (compareOp .Is) (λx y H Q=>(y= .non/\Q (.bl (decide (x= .non))) H)\/∃c d,x= .bl c/\y= .bl d/\Q (.bl (c==d)) H):=OpR.or qrU qlE
theorem qhV:OpR X (compareOp .IsNot) (λx y H Q=>(y= .non/\Q (.bl (!decide (x= .non))) H)\/∃c d,x= .bl c/\y= .bl d/\Q (.bl (c != d)) H):=OpR.or qoL qfU
theorem qr2:OkO M (λx y H Q=>(y= .non/\Q (.bl (if neg then !decide (x= .non) else decide (x= .non))) H)\/∃c d,x= .bl c/\y= .bl d/\Q (.bl (if neg then c != d else c==d)) H) (gIs neg):=by
 intro U H B x y a b n Q h ra rb e k;unfold gIs at e;split at e
 ·cases e;exact .inr ⟨_,_,qbJ ra,qbJ rb,k B _ h .refl qa6⟩
 ·cases q:qpi a with
  |none=>rw[q] at e;cases e
  |some c=>rw[q] at e;cases e;rw[qjF ra q];exact .inl ⟨qcN rb,k B _ h .refl qa6⟩
 ·cases e
end
end NV
namespace PL
open PySem L2
end PL
namespace HT
open PySem PySem.Spec PyProof.Rows L2
end HT
namespace L2
open PySem PySem.Spec PyProof.Rows
end L2
namespace PL
open PySem L2
end PL
namespace NV
open PySem L2
noncomputable def rB(M:Md)(g:Mu->T->T->Option Nv):R2:=λx y H Q=> ∃U B a b n,Hs M U H B/\Rep M.K B a x/\Rep M.K B b y/\g U a b=some n/\KV M U H B Q n
noncomputable def rN(M:Md)(g:Mu->List T->Option Nv):List V->Hp->VK->Prop:=λvs H Q=> ∃U B ts n,Hs M U H B/\Reps M.K B ts vs/\g U ts=some n/\KV M U H B Q n
theorem OpR.weak(h:OpR X f r)(w: ∀x y H Q,r' x y H Q->r x y H Q):OpR X f r':=λO s Z H x y v u Q I rx ry q=>h _ s Z H x y v u Q I rx ry (w _ _ _ _ q)
theorem qau.weak(h:qau X f r)(w: ∀xs H Q,r' xs H Q->r xs H Q):qau X f r':=λO s Z H xs us Q I r q=>h _ s Z H xs us Q I r (w _ _ _ q)
theorem IxR.weak(h:IxR X r)(w: ∀x y H Q,r' x y H Q->r x y H Q):IxR X r':=λvalue slice O s Z H x y v u Q I rx ry q hs=>h _ _ _ s Z H x y v u Q I rx ry (w _ _ _ _ q) hs
theorem OpR.ok(h:OpR X f r)(o:OkO M r g):OpR X f (rB M g):=OpR.weak h λ_ _ _ Q ⟨_,_,_,_,_,hs,ra,rb,e,k⟩=>o _ _ _ _ _ _ _ _ Q hs ra rb e k
theorem qau.ok(h:qau X f r)(o:OkN M r g):qau X f (rN M g):=qau.weak h λ_ _ Q ⟨_,_,_,_,hs,ra,e,k⟩=>o _ _ _ _ _ _ Q hs ra e k
theorem qle(r:Reps K B ts vs)(h:atI ts i=some t): ∃v,atI vs i=some v/\Rep K B t v:=by
 unfold atI at h⊢;rw[r.length];cases e:ixN _ i with
 |none=>rw[e] at h;cases h
 |some j=>rw[e] at h;exact r.get h
noncomputable def dkv(U:Mu):T->Option (List (Key×T))
 |.dct kvs=>some kvs
 |.obj k=>(match U.l[k]? with|some (.dk kvs)=>some kvs|_=>none)
 |_=>none
noncomputable def duv(U:Mu):T->Option (List (List Key×T))
 |.obj k=>(match U.l[k]? with|some (.du kvs)=>some kvs|_=>none)
 |_=>none
noncomputable def qe9:T->Option Key
 |.int i=>some (.inl i)
 |.str s=>some (.inr s)
 |_=>none
noncomputable def qe7:List T->Option (List Key)
 |[]=>some []
 |t::ts=>(qe9 t).bind λk=>(qe7 ts).map (k:: ·)
noncomputable def qt1:T->Option (List Key)
 |.tup ts=>qe7 ts
 |_=>none
theorem qcX(h:qe9 t=some k)(r:Rep K B t v):v=kV k:=by
 cases t with
 |int i=>cases h;exact qah r
 |str s=>cases h;exact qaF r
 |_=>cases h
theorem qhc: ∀{ts:List T}{ks:List Key}{vs:List V},qe7 ts=some ks->Reps K B ts vs->vs=ks.map kV
 |[],ks,vs,h,r=>by cases h;exact r.inv0
 |t::ts,ks,vs,h,r=>by
  obtain⟨v,cn,rfl,a,b⟩:=r.inv;unfold qe7 at h;cases e:qe9 t with
  |none=>rw[e] at h;cases h
  |some k=>
   cases e2:qe7 ts with
   |none=>grind
   |some ks'=>rw[e,e2] at h;cases h;rw[qcX e a,qhc e2 b];rfl
section
theorem qfp(h:Hs M U H B)(e:dkv U t=some kvs)(r:Rep M.K B t v): ∃p us,v= .ref p/\Rd H p (.dK us)/\qaV M.K B kvs us:=by
 unfold dkv at e;split at e
 ·cases e;obtain⟨p,o,us,rfl,hp,ru⟩:=qcO r;exact⟨p,us,rfl,.inr ⟨o,h.bh _ _ hp⟩,ru⟩
 ·split at e
  ·rename_i hU el;cases e;obtain⟨a,rfl,ea⟩:=qaB r;obtain⟨o,_,ho,us,rfl,ru⟩:=h.at el (by simp) ea;exact⟨a,us,rfl,.inl ho,ru⟩
  ·cases e
 ·cases e
theorem qkb(h:Hs M U H B)(e:duv U t=some kvs)(r:Rep M.K B t v): ∃p us,v= .ref p/\H p=some (.dT us)/\qaV M.K B kvs us:=by
 unfold duv at e;split at e
 ·split at e
  ·rename_i hU el;obtain⟨a,rfl,ea⟩:=qaB r;obtain⟨o,_,ho,us,rfl,ru⟩:=h.at el (by simp) ea
   simp_all
  ·cases e
 ·cases e
theorem qf4(h:Hs M U H B)(e:qt1 t=some ks)(r:Rep M.K B t v): ∃b,v= .ref b/\H b=some (.tup (ks.map kV)):=by
 cases t with
 |tup ts=>obtain⟨p,vs,rfl,hp,rv⟩:=qax r;rw[qhc e rv] at hp;exact⟨p,rfl,h.bh _ _ hp⟩
 |_=>cases e
noncomputable def qqG(U:Mu)(d y:T):Option (Option T):=match dkv U d,qe9 y with
 |some kvs,some k=>some (qiB kvs k)
 |_,_=>(match duv U d,qt1 y with
  |some kvs,some k=>some (qiB kvs k)
  |_,_=>none)
theorem qkn(h:Hs M U H B)(e:qqG U d y=some o)(r:Rep M.K B d x)(ry:Rep M.K B y u): ∃a ov,x= .ref a/\IsD H a/\qkR H a u ov/\(∀t,o=some t->∃v,ov=some v/\Rep M.K B t v)/\(o=none->ov=none):=by
 unfold qqG at e;split at e
 ·rename_i kvs k e1 e2;cases e;obtain⟨p,us,rfl,hp,ru⟩:=qfp h e1 r;have:=qbC k ru;exact⟨p,_,rfl,.inl ⟨us,hp⟩,.inl ⟨us,k,hp,qcX e2 ry,rfl⟩,this.1,this.2⟩
 ·split at e
  ·rename_i kvs k e1 e2;cases e;obtain⟨p,us,rfl,hp,ru⟩:=qkb h e1 r;obtain⟨b,rfl,hb⟩:=qf4 h e2 ry;have:=qbC k ru;exact⟨p,_,rfl,.inr ⟨us,.of hp⟩,.inr ⟨us,k,b,.of hp,rfl,hb,rfl⟩,this.1,this.2⟩
  ·cases e
end
noncomputable def qeK(U:Mu):T->Option (Bool×List T)
 |.scr ns=>some (true,ns.map .int)
 |t=>sqv U t
noncomputable def gDG(U:Mu)(a b:T):Option Nv:=(qqG U a b).bind λo=>o.map .v
noncomputable def gIx(U:Mu)(a b:T):Option Nv:=match b with
 |.int i=>(match a with
  |.str z=>if z.length<=1000 then(atI z.cps.toList i).map λc=>.v (.str ⟨#[c]⟩) else none
  |a=>(match qeK U a with
   |some q=>(atI q.2 i).map .v
   |none=>gDG U a (.int i)))
 |b=>gDG U a b
section
open PySem.Spec PyProof.Rows in
theorem qpf(hu:X.A.units+1<cLine):IxR X (λx y H Q=> ∃a v,x= .ref a/\qkR H a y (some v)/\Q v H):=by intro value slice O s Z H x y v u Q I rx ry h hs;obtain⟨a,z,rfl,g,q⟩:=h;cases rx;exact tail_any (qge I g) F.slot_dict_getitem.lookup (qkm hu I g ry λw' s3 I3 av=>⟨z,H,I3,av,q⟩) hs
theorem qgO: ∀ns:List Int,Reps K B (ns.map T.int) (ns.map V.int)
 |[]=>.nil
 |_::ns=>.cons qaR (qgO ns)
theorem qcK(h:Hs M U H B)(e:qeK U t=some (b,ts))(r:Rep M.K B t v): ∃p vs,v= .ref p/\Reps M.K B ts vs/\(if b=true then SqL M.K H p vs else SqT M.K H p vs):=by
 unfold qeK at e;split at e
 ·cases e;obtain⟨p,rfl,q⟩:=r;exact⟨p,_,rfl,qgO _,by exact qiM h.bh q⟩
 ·obtain⟨p,vs,rfl,rv,q⟩:=qbV h e r;refine⟨p,vs,rfl,rv,?_⟩;cases b with
  |true=>exact SqL.of q
  |false=>exact SqT.of q.2
theorem qdW(h:Hs M U H B)(e:qeK U t=some (b,ts))(r:Rep M.K B t v): ∃p vs,v= .ref p/\Reps M.K B ts vs/\(SqL M.K H p vs\/SqT M.K H p vs):=by
 obtain⟨p,vs,rfl,rv,q⟩:=qcK h e r;refine⟨p,vs,rfl,rv,?_⟩;split at q
 ·exact .inl q
 ·exact .inr q
theorem qxB(hu:X.A.units+1<cLine)(hK:X.K=M.K):IxR X (rB M gIx):=IxR.weak (IxR.or qsr (qpf hu)) λx y H Q ⟨U,B,a,b,n,h,ra,rb,e,k⟩=>by
 rw[hK];have dg:gDG U a b=some n->(rIx M.K x y H Q\/∃a v,x= .ref a/\qkR H a y (some v)/\Q v H):=λe=>by
  unfold gDG at e;cases q:qqG U a b with
  |none=>rw[q] at e;cases e
  |some o=>
   cases o with
   |none=>rw[q] at e;cases e
   |some t=>rw[q] at e;cases e;obtain⟨p,ov,rfl,_,g,h1,_⟩:=qkn h q ra rb;obtain⟨v,rfl,rv⟩:=h1 t rfl;exact .inr ⟨p,v,rfl,g,k B v h .refl rv⟩
 cases b with
 |int i=>
  have sq:(match qeK U a with|some q=>(atI q.2 i).map Nv.v|none=>gDG U a (.int i))=some n->(rIx M.K x y H Q\/∃a v,x= .ref a/\qkR H a y (some v)/\Q v H):=λe=>by
   cases es:qeK U a with
   |none=>rw[es] at e;exact dg e
   |some p=>
    obtain⟨bb,ts⟩:=p;rw[es] at e;have e:(atI ts i).map Nv.v=some n:=e;cases q:atI ts i with
    |none=>rw[q] at e;cases e
    |some t=>
     rw[q] at e;cases e;obtain⟨p,vs,rfl,rv,hs⟩:=qdW h es ra;obtain⟨v,ev,bS⟩:=qle rv q
     rcases hs with hs|hs
     ·exact .inl (.inl ⟨p,vs,i,v,rfl,qah rb,hs,ev,k B v h .refl bS⟩)
     ·exact .inl (.inr (.inl ⟨p,vs,i,v,rfl,qah rb,hs,ev,k B v h .refl bS⟩))
  cases a with
  |str z=>
   have e:(if z.length<=1000 then(atI z.cps.toList i).map λc=>Nv.v (.str ⟨#[c]⟩) else none)=some n:=e;split at e
   ·rename_i hz;cases q:atI z.cps.toList i with
    |none=>rw[q] at e;cases e
    |some c=>rw[q] at e;cases e;rw[qaF ra,qah rb];exact .inl (.inr (.inr ⟨z,i,c,rfl,rfl,Vo (qeH hz),q,k B _ h .refl qcm⟩))
   ·cases e
  |_=>exact sq e
 |_=>exact dg e
noncomputable def tO(M:Md)(E:XK)(d:DS0 (Option Int)):TO:=λZ H Q=> ∃ρ U B,Ev M ρ U Z H B/\Wn M E H B (λo μ'=> ∀H' B',Hs M μ' H' B'->Go H B H' B'->Q o H') (d ρ U)
noncomputable def dON:DS0 (Option Int):=λ_ U=>.ok none U
noncomputable def dOS(da:DS0 T):DS0 (Option Int):=dSq da λt _ U=>match t with|.int i=>.ok (some i) U|_=>.no
theorem qpN:PO X none (tO M E dON):=PO.weak qox λZ H Q ⟨ρ,U,B,ev,w⟩=>w H B ev.hs .refl
theorem qpM(h:PE X e (tE M E da)):PO X (some e) (tO M E (dOS da)):=PO.weak (qow h) λZ H Q ⟨ρ,U,B,ev,w⟩=>tE.of ev ((Wn.bind w).mono λt af w1 v H1 B1 h1 l1 r1=>by
 cases t with
 |int i=>exact⟨i,qah r1,w1 H1 B1 h1 l1⟩
 |_=>exact w1.elim)
noncomputable def qp4(ts:List T)(lo hi:Option Int):List T:=(ts.drop (HT.sIx ts.length 0 lo)).take (HT.sIx ts.length ts.length hi - HT.sIx ts.length 0 lo)
theorem qld(r:Reps K B ts vs)(lo hi:Option Int):Reps K B (qp4 ts lo hi) (qts vs lo hi):=by unfold qp4 qts;rw[r.length];exact(r.drop _).take _
noncomputable def gSl(U:Mu)(a:T)(lo hi:Option Int):Option Nv:=match a with
 |a=>(match qeK U a with
  |some (true,ts)=>some (.l (qp4 ts lo hi))
  |_=>none)
noncomputable def dSl(ow:Bool)(da:DS0 T)(dl dh:DS0 (Option Int)):DS0 T:=dSq da λa=>dSq dl λl=>dSq dh λh _ U=>nvR ow (gSl U a l h) U
theorem qms(hK:X.K=M.K)(ha:PE X a (tE M E da))(hl:PO X lo (tO M E dl))(hh:PO X hi (tO M E dh)):PE X (.Subscript a (.Slice lo hi none p2) pos) (tE M E (dSl ow da dl dh)):=by
 refine PE.weakF (qlt qod ha hl hh) λZ H Q cq ⟨ρ,U,B,ev,w⟩=> ?_;refine tE.of ev ((Wn.bind w).mono λt af w1 v H1 B1 h1 l1 r1=> ?_);refine⟨ρ,af,B1,ev.on h1 l1.le,(Wn.bind w1).lift l1 λl ai w2 H2 B2 h2 l2=> ?_⟩;refine⟨ρ,ai,B2,(ev.on h1 l1.le).on h2 l2.le,(Wn.bind w2).lift (l1.trans l2) λu bQ w3 H3 B3 h3 l3=> ?_⟩;obtain⟨c,m,q,w3⟩:=Wn.pl w3 (λc m=>qhY c m);obtain⟨n,e,kv⟩:=qhX cq q (KE.le w3 ((l1.trans l2).trans l3));have r3:=r1.mono (l2.trans l3).le;rw[hK];unfold gSl at e;dsimp only at e;split at e
 ·rename_i ts es;cases e;obtain⟨p,vs,rfl,rv,hs⟩:=qcK h3 es r3;exact⟨p,vs,rfl,hs,λd hd=>kv B3 d _ h3 .refl hd (qld rv l u)⟩
 ·cases e
noncomputable def qxY(U:Mu)(a:T)(lo hi st:Option Int):Option Nv:=match qeK U a with
 |some (true,ts)=>if st≠some 0 then some (.l (RH.pickL ts lo hi st)) else none
 |_=>none
noncomputable def qx4(ow:Bool)(da:DS0 T)(dl dh dt:DS0 (Option Int)):DS0 T:=dSq da λa=>dSq dl λl=>dSq dh λh=>dSq dt λst _ U=>nvR ow (qxY U a l h st) U
end
end NV
namespace PL
open PySem PySem.Spec L2
end PL
namespace NV
open PySem L2
section
open SeqAt in
theorem qcC(hu:X.A.units+8<cLine)(I:Inv X O Z H s)(le:LeH B H)(ra:Rep X.K B t x)(rx:RelV x v)(ot:okT 7 t=true)(gY:ts.all (okT 7)=true)(rs:Reps X.K B ts vs)(rv:qav vs is):
  is.length=ts.length/\∃e:Value->Bool,(∀y,y∈is.toArray->EqAt X.A.in1 s y v (e y))/\∀(j:Nat)(h:j<is.length),e is[j]=eqT (ts.getD j .non) t:=by
 have l1:=rv.length;have l2:=rs.length;have at_: ∀(j:Nat)(h:j<is.toArray.size),EqAt X.A.in1 s is.toArray[j] v (eqT (ts.getD j .non) t):=λj h=>by
  have hj:j<ts.length:=by simp at h;lia
  exact(qeO I le 7 7 X.A.in1 _ _ _ _ _ _ (qbR gY hj) ot (by show X.A.units+1+7<cLine;lia) (rs.getD j hj) ra (RH.valsArr rv h) rx).1
 have one: ∀(j k:Nat)(h:j<is.toArray.size)(h':k<is.toArray.size),is.toArray[j]=is.toArray[k]->ts.getD j .non=ts.getD k .non:=λj k h h' e=>by
  have hj:j<ts.length:=by simp at h;lia
  have hk:k<ts.length:=by simp at h';lia
  have r1:=RH.valsArr rv h;have r2:=RH.valsArr rv h';rw[<-e] at r2;have:=r1.inj r2;refine qcM I le 7 7 _ _ _ (qbR gY hj) (qbR gY hk) (rs.getD j hj) ?_;rw[this];exact rs.getD k hk
 classical
 have key: ∀(j:Nat)(hj:j<is.toArray.size),decide (∃(j':Nat)(h:j'<is.toArray.size),is.toArray[j']=is.toArray[j]/\eqT (ts.getD j' .non) t=true)=eqT (ts.getD j .non) t:=λj hj=>by
  cases z:eqT (ts.getD j .non) t with
  |true=>exact decide_eq_true ⟨j,hj,rfl,z⟩
  |false=>exact Vv (λ⟨k,hk,e,ek⟩=>by rw[one k j hk hj e,z] at ek;cases ek)
 refine⟨by lia,λy=>decide (∃(j:Nat)(h:j<is.toArray.size),is.toArray[j]=y/\eqT (ts.getD j .non) t=true),λy hy=> ?_,λj hj=> ?_⟩
 ·obtain⟨j,hj,rfl⟩:=Array.mem_iff_getElem.mp hy;show EqAt X.A.in1 s is.toArray[j] v (decide (∃(j':Nat)(h:j'<is.toArray.size),is.toArray[j']=is.toArray[j]/\eqT (ts.getD j' .non) t=true));rw[key j hj];exact at_ j hj
 ·have:=key j (by simpa using hj);simpa using this
theorem qhD{is:List Value}{ts:List T}(hl:is.length=ts.length)(h: ∀(j:Nat)(h:j<is.length),f is[j]=g (ts.getD j .non)):is.map f=ts.map g:=by
 refine List.ext_getElem (by simp[hl]) λj h1 h2=> ?_;have hj:=by simpa using h1
 simp_all
end
theorem qhC{α β:Type}{f:α->Bool}{g:β->Bool}{is:List α}{ts:List β}(h:is.map f=ts.map g):is.any f=ts.any g:=by have:=congrArg (List.any · id) h;simpa [List.any_map] using this
noncomputable def qxv(K:W.Frag)(neg:Bool):R2:=λx y H Q=> ∃B t p vs ts,LeH B H/\Rep K B t x/\y= .ref p/\(SqL K H p vs\/SqT K H p vs)/\Reps K B ts vs/\okT 7 t=true/\ts.all (okT 7)=true/\Q (.bl (if neg then !ts.any (λu=>eqT u t) else ts.any (λu=>eqT u t))) H
noncomputable def qxw(neg:Bool):R2:=λx y H Q=>(∃a o,y= .ref a/\qkR H a x o/\Q (.bl (if neg then !o.isSome else o.isSome)) H)\/∃a b,∃k:List Key,y= .ref a/\H a=some (.dK [])/\x= .ref b/\H b=some (.tup (k.map kV))/\Q (.bl neg) (upd H a (.dT []))
noncomputable def quI(K:W.Frag)(neg:Bool):R2:=λx y H Q=>qxv K neg x y H Q\/qxw neg x y H Q
noncomputable def gIn(neg:Bool)(U:Mu)(t c:T):Option Nv:=match qeK U c with
 |some q=>if okT 7 t=true/\q.2.all (okT 7)=true then some (.v (.bl (if neg then !q.2.any (λu=>eqT u t) else q.2.any (λu=>eqT u t)))) else none
 |none=>(match qqG U c t with
  |some o=>some (.v (.bl (if neg then !o.isSome else o.isSome)))
  |none=>(match c with
   |.obj k=>(match U.l[k]?,qt1 t with
    |some (.dk []),some _=>some (.p k (.du []) (.bl neg))
    |_,_=>none)
   |_=>none))
section
theorem qrV{X:Cx}(hu:X.A.units+8<cLine):OpR X (compareOp .In) (quI X.K false):=by
 intro O s Z H x y v u Q I rx ry hq
 rcases hq with⟨B,t,p,vs,ts,le,ra,ey,hp,rs,o1,o2,q⟩|⟨a,o,rfl,g,q⟩|⟨a,b,k,rfl,ha,rfl,hb,q⟩
 ·subst ey;cases ry
  rcases hp with hp|hp
  ·obtain⟨is,rv,pl,_⟩:=I.list hp;obtain⟨hl,e,h1,h2⟩:=qcC hu I le ra rx o1 o2 rs rv;refine SeqAt.in_listAt e pl.isList h1 ⟨.bl _,H,I,rfl,?_⟩;rw[show is.toArray.any e=is.any e by simp,qhC (qhD (g:=λu=>eqT u t) hl h2)];exact q
  ·obtain⟨is,rv,pl,_⟩:=I.tuple hp;obtain⟨hl,e,h1,h2⟩:=qcC hu I le ra rx o1 o2 rs rv;refine SeqAt.in_tupleAt e pl h1 ⟨.bl _,H,I,rfl,?_⟩;rw[show is.toArray.any e=is.any e by simp,qhC (qhD (g:=λu=>eqT u t) hl h2)];exact q
 ·cases ry;exact qwT (by lia) I g rx λs3 I3=>⟨.bl o.isSome,H,I3,rfl,q⟩
 ·cases ry;have I':=PL.Inv.asT I ha;have g:qkR (upd H a (.dT [])) a (.ref b) none:=.inr ⟨[],k,b,.of qaf,rfl,by rw[qab (λz=>by rw[z,ha] at hb;cases hb)];exact hb,rfl⟩;exact qwT (by lia) I' g rx λs3 I3=>⟨.bl false,_,I3,rfl,q⟩
theorem qjc{X:Cx}(hu:X.A.units+8<cLine):OpR X (compareOp .NotIn) (quI X.K true):=by
 intro O s Z H x y v u Q I rx ry hq
 rcases hq with⟨B,t,p,vs,ts,le,ra,ey,hp,rs,o1,o2,q⟩|⟨a,o,rfl,g,q⟩|⟨a,b,k,rfl,ha,rfl,hb,q⟩
 ·subst ey;cases ry
  rcases hp with hp|hp
  ·obtain⟨is,rv,pl,_⟩:=I.list hp;obtain⟨hl,e,h1,h2⟩:=qcC hu I le ra rx o1 o2 rs rv;refine SeqAt.notIn_listAt e pl.isList h1 ⟨.bl _,H,I,rfl,?_⟩;rw[show is.toArray.any e=is.any e by simp,qhC (qhD (g:=λu=>eqT u t) hl h2)];exact q
  ·obtain⟨is,rv,pl,_⟩:=I.tuple hp;obtain⟨hl,e,h1,h2⟩:=qcC hu I le ra rx o1 o2 rs rv;refine SeqAt.notIn_tupleAt e pl h1 ⟨.bl _,H,I,rfl,?_⟩;rw[show is.toArray.any e=is.any e by simp,qhC (qhD (g:=λu=>eqT u t) hl h2)];exact q
 ·cases ry;exact qkl (by lia) I g rx λs3 I3=>⟨.bl (!o.isSome),H,I3,rfl,q⟩
 ·cases ry;have I':=PL.Inv.asT I ha;have g:qkR (upd H a (.dT [])) a (.ref b) none:=.inr ⟨[],k,b,.of qaf,rfl,by rw[qab (λz=>by rw[z,ha] at hb;cases hb)];exact hb,rfl⟩;exact qkl (by lia) I' g rx λs3 I3=>⟨.bl true,_,I3,rfl,q⟩
theorem qr3{X:Cx}{M:Md}{neg:Bool}(hK:X.K=M.K):OkO M (quI X.K neg) (gIn neg):=by
 intro U H B x y a b n Q h ra rb e k;rw[hK];unfold gIn at e;split at e
 ·rename_i q es;split at e
  ·rename_i o;cases e;obtain⟨p,vs,rfl,rv,hs⟩:=qdW (b:=q.1) (ts:=q.2) h es rb;exact .inl ⟨B,a,p,vs,q.2,h.bh,ra,rfl,hs,rv,o.1,o.2,k B _ h .refl qa6⟩
  ·cases e
 ·split at e
  ·rename_i o eo;cases e;obtain⟨p,ov,rfl,_,g,h1,h2⟩:=qkn h eo rb ra;refine .inr (.inl ⟨p,ov,rfl,g,?_⟩);have:ov.isSome=o.isSome:=by
    cases o with
    |none=>rw[h2 rfl];rfl
    |some t=>obtain⟨v,rfl,_⟩:=h1 t rfl;rfl
   rw[this];exact k B _ h .refl qa6
  ·split at e
   ·rename_i j;split at e
    ·rename_i el ek;cases e;obtain⟨p,rfl,ea⟩:=qaB rb;obtain⟨o,_,ho,us,rfl,ru⟩:=h.at el (by simp) ea;have:us=[]:=ru;subst this;obtain⟨b,rfl,hb⟩:=qf4 h ek ra;exact .inr (.inr ⟨p,b,_,rfl,ho,rfl,hb,k.2 B p _ _ h .refl ea ⟨[],rfl,rfl⟩ qa6⟩)
    ·cases e
   ·cases e
end
noncomputable def dN(ow:Bool)(g:Mu->List T->Option Nv)(ds:DS0 (List T)):DS0 T:=dSq ds λts _ U=>nvR ow (g U ts) U
noncomputable def qsF(U:Mu):List T->Option Nv
 |[.str z]=>if z.length<=100000 then some (.v (.int z.length)) else none
 |[t]=>(match qeK U t with
  |some q=>some (.v (.int q.2.length))
  |none=>(dkv U t).map λkvs=>.v (.int kvs.length))
 |_=>none
noncomputable def qkK:List T->Option (List Int)
 |[]=>some []
 |.int i::ts=>(qkK ts).map (i:: ·)
 |_::_=>none
noncomputable def qkJ:List T->Option (List Str)
 |[]=>some []
 |.str i::ts=>(qkJ ts).map (i:: ·)
 |_::_=>none
noncomputable def qer:List T->Option (List Bool)
 |[]=>some []
 |.bl i::ts=>(qer ts).map (i:: ·)
 |_::_=>none
noncomputable def qe3(U:Mu)(t:T):Option (List T):=match qeK U t with
 |some (true,ts)=>some ts
 |_=>none
noncomputable def qvI(U:Mu):List T->Option Nv
 |[t]=>((qe3 U t).bind qer).map λbs=>.v (.bl (bs.all id))
 |_=>none
noncomputable def qvF(U:Mu):List T->Option Nv
 |[.int i,.int j]=>some (.v (.int (if j>i then j else i)))
 |_=>none
noncomputable def qvE(_:Mu):List T->Option Nv
 |[.int i,.int j]=>some (.v (.int (if j<i then j else i)))
 |_=>none
noncomputable def qps(U:Mu):List T->Option Nv
 |[t]=>(qeK U t).map λq=>.l q.2
 |_=>none
noncomputable def qjQ(U:Mu):List T->Option Nv
 |[t]=>(match qeK U t with
  |some (true,ts)=>some (.t ts)
  |some (false,ts)=>some (.v t)
  |none=>none)
 |_=>none
section
variable{M:Md}{X:Cx}{K:W.Frag}{B:qaD}{U:Mu}{H:Hp}
theorem qfG: ∀{ts:List T}{ns:List Bool}{vs:List V},qer ts=some ns->Reps K B ts vs->vs=ns.map V.bl
 |[],_,_,e,r=>by cases e;exact r.inv0
 |t::ts,ns,vs,e,r=>by
  obtain⟨v,rr,rfl,a,b⟩:=r.inv;cases t with
  |bl i=>
   cases q:qer ts with
   |none=>rw[qer,q] at e;cases e
   |some ms=>rw[qer,q] at e;cases e;rw[qbJ a,qfG q b];rfl
  |_=>cases e
theorem qcL{t:T}{vs:List V}(r:Reps K B [t] vs): ∃v,vs=[v]/\Rep K B t v:=by obtain⟨v,rr,rfl,a,b⟩:=r.inv;cases b.inv0;exact⟨v,rfl,a⟩
theorem qiQ(r:Reps K B [t,u] vs): ∃v w,vs=[v,w]/\Rep K B t v/\Rep K B u w:=by obtain⟨v,rr,rfl,a,b⟩:=r.inv;obtain⟨w,rfl,c⟩:=qcL b;exact⟨v,w,rfl,a,c⟩
theorem qf1(h:Hs M U H B){t:T}{v:V}{ts:List T}(e:qe3 U t=some ts)(r:Rep M.K B t v): ∃p vs,v= .ref p/\Reps M.K B ts vs/\SqL M.K H p vs:=by
 unfold qe3 at e;split at e
 ·rename_i es;cases e;obtain⟨p,vs,rfl,rv,hs⟩:=qcK h es r;exact⟨p,vs,rfl,rv,hs⟩
 ·cases e
theorem bind_some{α β:Type}{o:Option α}{f:α->Option β}{b:β}(e:o.bind f=some b): ∃a,o=some a/\f a=some b:=by
 cases o with
 |none=>cases e
 |some a=>exact⟨a,rfl,e⟩
theorem qaA{α β:Type}{o:Option α}{f:α->β}{b:β}(e:o.map f=some b): ∃a,o=some a/\f a=b:=by
 simp_all
theorem qin:qau X (.builtin "len") (λxs H Q=> ∃a kvs,xs=[V.ref a]/\Rd H a (.dK kvs)/\Q (.int kvs.length) H):=by intro O s Z H xs us Q I r h;obtain⟨a,kvs,rfl,ha,q⟩:=h;obtain⟨u,rfl,ru⟩:=qcq r;cases ru;exact qv0 I ha λt s' I'=>⟨.int _,H,I',⟨t,rfl⟩,q⟩
theorem qtz(hK:X.K=M.K):qau X (.builtin "len") (rN M qsF):=qau.ok (qau.or qmO qin) λU H B vs ts n Q h r e k=>by
 rw[hK];have l0:100000<=sizeLine:=by decide
 unfold qsF at e;split at e
 ·obtain⟨v,rfl,a⟩:=qcL r;split at e
  ·cases e;rw[qaF a];exact .inl ⟨_,_,rfl,⟨by omega,rfl⟩,k B _ h .refl qaR⟩
  ·cases e
 ·obtain⟨v,rfl,a⟩:=qcL r;split at e
  ·rename_i q es;cases e;obtain⟨p,vs,rfl,rv,hs⟩:=qdW (b:=q.1) (ts:=q.2) h es a;refine .inl ⟨_,_,rfl,?_,k B _ h .refl qaR⟩;rw[<-rv.length]
   rcases hs with hs|hs
   ·exact .inl ⟨vs,hs,rfl⟩
   ·exact .inr ⟨vs,hs,rfl⟩
  ·obtain⟨kvs,e1,rfl⟩:=qaA e;obtain⟨p,us,rfl,hp,ru⟩:=qfp h e1 a;exact .inr ⟨p,us,rfl,hp,by rw[ru.length];exact k B _ h .refl qaR⟩
 ·cases e
theorem qtA(hc:X.calm=true)(hK:X.K=M.K):qau X (.builtin "all") (rN M qvI):=qau.ok (qmP hc) λU H B vs ts n Q h r e k=>by
 unfold qvI at e;split at e
 ·obtain⟨v,rfl,a⟩:=qcL r;obtain⟨bs,e1,rfl⟩:=qaA e;obtain⟨ts,e2,e3⟩:=bind_some e1;obtain⟨p,vs,rfl,rv,hs⟩:=qf1 h e2 a;rw[qfG e3 rv] at hs;exact⟨p,bs,rfl,by rw[hK];exact hs,k B _ h .refl qa6⟩
 ·cases e
theorem qty(hc:X.calm=true)(hK:X.K=M.K):qau X (.builtin "max") (rN M qvF):=qau.ok (qkA hc) λU H B vs ts n Q h r e k=>by
 unfold qvF at e;split at e
 ·cases e;obtain⟨v,w,rfl,a,b⟩:=qiQ r;rw[qah a,qah b];exact⟨_,_,rfl,k B _ h .refl qaR⟩
 ·cases e
theorem qtx(hc:X.calm=true):qau X (.builtin "min") (rN M qvE):=qau.ok (qkz hc) λU H B vs ts n Q h r e k=>by
 unfold qvE at e;split at e
 ·cases e;obtain⟨v,w,rfl,a,b⟩:=qiQ r;rw[qah a,qah b];exact⟨_,_,rfl,k B _ h .refl qaR⟩
 ·cases e
theorem qp7(hK:X.K=M.K):qau X (.type "list") (rN M qps):=qau.ok qfz λU H B vs ts n Q h r e k=>by
 rw[hK];unfold qps at e;split at e
 ·obtain⟨v,rfl,a⟩:=qcL r;obtain⟨q,es,rfl⟩:=qaA e;obtain⟨p,vs,rfl,rv,hs⟩:=qdW h es a;exact⟨p,vs,rfl,hs,λl hl=>k B l vs h .refl hl rv⟩
 ·cases e
theorem qmH(hK:X.K=M.K):qau X (.type "tuple") (rN M qjQ):=qau.ok qep λU H B vs ts n Q h r e k=>by
 rw[hK];unfold qjQ at e;split at e
 ·obtain⟨v,rfl,a⟩:=qcL r;split at e
  ·rename_i ts es;cases e;obtain⟨p,vs,rfl,rv,hs⟩:=qcK h es a;exact⟨p,vs,rfl,.inl ⟨hs,λl hl=>k B l vs h .refl hl rv⟩⟩
  ·rename_i ts es;cases e;obtain⟨p,vs,rfl,rv,hs⟩:=qcK h es a;exact⟨p,vs,rfl,.inr ⟨hs,k B _ h .refl a⟩⟩
  ·cases e
 ·cases e
end
open SR SetL
noncomputable def kyN:T->PL.Ky
 |.int i=>.i i
 |.str x=>.s x
 |_=>.i 0
noncomputable def qkU:T->List PL.Ky
 |.int i=>[.i i]
 |.str x=>[.s x]
 |.tup ts=>ts.map kyN
 |_=>[]
noncomputable def shN:T->Nat
 |.int _=>0
 |.str _=>1
 |_=>9
noncomputable def qcJ:T->List Nat
 |.int _=>[0]
 |.str _=>[1]
 |.tup ts=>2::ts.map shN
 |_=>[9]
noncomputable def qbB:List T->Bool
 |[]=>true
 |t::ts=>PL.okShape (qcJ t)&&ts.all λu=>qcJ u==qcJ t
noncomputable def qeG(ts:List T):List T:=PL.sortBy qkU ts
section
open PySem.W PyProof.Rows
noncomputable def qb6(h:Heap)(sh:List Nat)(k:List PL.Ky)(v:Value):Prop:=match sh with
 |[0]=> ∃n t,k=[.i n]/\v= .int n t
 |[1]=> ∃n t,k=[.s n]/\v= .str n t
 |2::r=>PL.KeyTup h k v/\k.map PL.shK=r
 |_=>False
theorem qb6.keep(kp:St.Kp h h')(x:qb6 h sh k v):qb6 h' sh k v:=by
 unfold qb6 at x⊢;split at x
 ·exact x
 ·exact x
 ·obtain⟨⟨p,its,e,⟨o,ho,c⟩,r⟩,s⟩:=x;exact⟨⟨p,its,e,⟨o,kp _ _ ho,c⟩,r⟩,s⟩
 ·exact x.elim
noncomputable def qwt(sh:List Nat):SortKind:=match sh with|2::_=>tuples' true|_=>oneType'
theorem qsm(ok:PL.okShape sh=true)(ki:qb6 s.heap sh a u)(kj:qb6 s.heap sh b v)(hC:C (PL.ltKs a b) s):
  wpAny (model prog w) A (keyLt' (qwt sh) u v) C (λ_ _=>False) s:=by
 rcases PL.okShape_cases ok with rfl|rfl|⟨x,r,rfl,hr⟩
 ·obtain⟨n1,t1,f1,g1⟩:=ki;obtain⟨n2,t2,f2,g2⟩:=kj;rw[g1,g2];rw[f1,f2] at hC;refine kat_lt_int ?_;have e:PL.ltKs [.i n1] [.i n2]=decide (n1<n2):=by
   show(if PL.Ky.i n1=PL.Ky.i n2 then false else decide (n1<n2))=_;by_cases c:n1=n2
   ·subst c;rw[if_pos rfl];exact(Vv (Int.lt_irrefl _)).symm
   ·rw[if_neg (λz=>c (by cases z;rfl))]
  rw[<-e];exact hC
 ·obtain⟨n1,t1,f1,g1⟩:=ki;obtain⟨n2,t2,f2,g2⟩:=kj;rw[g1,g2];rw[f1,f2] at hC;refine kas_lt_str ?_;have e:PL.ltKs [.s n1] [.s n2]=decide (n1.cps.toList<n2.cps.toList):=by
   show(if PL.Ky.s n1=PL.Ky.s n2 then false else RH.ltS n1 n2)=_;by_cases c:n1=n2
   ·subst c;rw[if_pos rfl];exact(RH.ordS.irr n1).symm
   ·rw[if_neg (λz=>c (by cases z;rfl))];rfl
  rw[<-e];exact hC
 ·exact PL.lt_tups ki.1 kj.1 (ki.2.trans kj.2.symm) hC
theorem qfN{A:Around}{s:Shared}{its:List Value}{ks:List (List PL.Ky)}(ok:PL.okShape sh=true)(hl:ks.length=its.length)(eQ:its.length<64)(b8: ∀R:List Value->Shared->Prop,(∀h1 t1,St.Kp s.heap h1->R its { s with heap:=h1,toks:=t1 })->wpAny (model prog w) A.in1 (collect v) R E s)(hk: ∀j,j<its.length->qb6 s.heap sh (ks.getD j []) (its.getD j Value.none))(h: ∀h1 D h' tk c (p:Array Nat),St.Kp s.heap h1->h1.objs.size<=D->St.Kp h1 h'->p.toList=srt (λj=>qhS PL.ltKs ks (ks.getD j [])) (List.range its.length)->h'.get? D=some (seqObj "list" (List.toArray (p.toList.map λi=>its.getD i Value.none)) c)->Q (.ref D) { s with heap:=h',toks:=tk }):
  wpAny (model prog w) A (call (.builtin "sorted") [v]) Q E s:=by
 have dj: ∀{m:Nat},m<its.length->(ks.map (qhS PL.ltKs ks)).getD m 0=qhS PL.ltKs ks (ks.getD m []):=λ{m} hm=>by rw[List.getD_eq_getElem?_getD,List.getElem?_map,List.getElem?_eq_getElem (by omega),List.getD_eq_getElem?_getD,List.getElem?_eq_getElem (by omega)];rfl
 have mem: ∀{m:Nat},m<its.length->ks.getD m []∈ks:=λ{m} hm=>by rw[List.getD_eq_getElem?_getD,List.getElem?_eq_getElem (by omega)];exact List.getElem_mem _
 have kv: ∀{h':Heap},St.Kp s.heap h'->∀u∈its,∃k,qb6 h' sh k u:=λ{h'} kp u hu=>by obtain⟨m,hm,rfl⟩:=List.mem_iff_getElem.mp hu;have:=(hk m hm).keep kp;rw[List.getD_eq_getElem?_getD (l:=its),List.getElem?_eq_getElem hm] at this;exact⟨_,this⟩
 refine St.sorted_c (b8 _ λh1 t1 kp=> ?_);refine⟨h1,t1,qwt sh,ks.map (qhS PL.ltKs ks),rfl,kp,by simp[hl],eQ,λs' k2 h2 Q' E' hq=> ?_,λs' k2 i j hi hj C hC=> ?_,λD h' tk c p hD k2 ho dR=> ?_⟩
 ·have df:St.Kp s.heap s'.heap:=λb o e=>k2 _ _ (kp _ _ e)
  rcases PL.okShape_cases ok with rfl|rfl|⟨x,r,rfl,hr⟩
  ·have hI: ∀l:List Value,(∀v∈l,∃n t,v= .int n t)->∃ns,IntsAre l ns:=λl=>by
    induction l with
    |nil=>exactλ_=>⟨[],.nil⟩
    |cons v l ih=>intro hl;obtain⟨n,t,rfl⟩:=hl v Vj;obtain⟨ns,hn⟩:=ih λu hu=>hl u (Vk _ hu);exact⟨n::ns,.cons n t hn⟩
   obtain⟨ns,gB⟩:=hI its λv hv=>by obtain⟨k,n,t,_,e⟩:=kv df v hv;exact⟨n,t,e⟩
   rw[ksk_kind (keys:=its.toArray) (by simpa using gB) (by simpa using h2)];exact Vb hq
  ·exact PL.kind_strs its h2 (λv hv=>by obtain⟨k,n,t,_,e⟩:=kv df v hv;exact⟨n,t,e⟩) hq
  ·have hx:x=0\/x=1:=by rw[List.all_cons,Bool.and_eq_true] at hr;simpa using hr.1
   exact PL.kind_tups its hx h2 (λv hv=>by obtain⟨k,e1,e2⟩:=kv df v hv;exact⟨k,e1,e2⟩) hq
 ·rw[dj hi,dj hj,qoj PL.ordKs (mem hi) (mem hj)] at hC;have ki:=(hk i hi).keep (λb o e=>k2 _ _ (kp _ _ e));have kj:=(hk j hj).keep (λb o e=>k2 _ _ (kp _ _ e));exact qsm ok ki kj hC
 ·refine h h1 D h' tk c p kp hD k2 ?_ dR;rw[qja ho];exact qeD _ λb hb=>dj (List.mem_range.mp hb)
end
noncomputable def qus(U:Mu)(t:T):Option (List T):=match qe3 U t with
 |some ts=>some ts
 |none=>(match dkv U t with
  |some kvs=>some (kvs.map λp=>qeb p.1)
  |none=>(duv U t).map λkvs=>kvs.map λp=>.tup (p.1.map qeb))
noncomputable def qc2(U:Mu):List T->Option Nv
 |[t]=>(qus U t).bind λts=>if ts.length<64/\qbB ts=true then some (.l (qeG ts)) else none
 |_=>none
theorem qdA: ∀ks:List Key,Reps K B (ks.map qeb) (ks.map kV)
 |[]=>.nil
 |k::ks=>.cons (qcY k) (qdA ks)
open Classical in
noncomputable def qaD.abs(B:qaD)(H:Hp)(qs:List Addr):qaD:=⟨λa=>if a∈qs then H a else B a,B.ad⟩
section
open Classical
theorem Hs.abs(h:Hs M U H B)(ht: ∀q∈qs,∃vs,H q=some (.tup vs)):Hs M U H (B.abs H qs)/\Go H B H (B.abs H qs):=by
 have le:Le B (B.abs H qs):=⟨λa o e=>by
  show(if a∈qs then H a else B a)=_;split
  ·exact h.bh a o e
  ·exact e,λ_ _ e=>e⟩
 refine⟨⟨λa o e=> ?_,λa ps e=> ?_,h.gm,λk c e n=> ?_,h.ij,h.dm,h.lk,h.ln⟩,⟨le,λ_ _ e _ _=>e,λ_ _ e=>.inl e,λ_ e=>e,λa o e n t1 t2=> ?_⟩⟩
 ·have e:(if a∈qs then H a else B a)=some o:=e;split at e
  ·exact e
  ·exact h.bh a o e
 ·have e:(if a∈qs then H a else B a)=some _:=e;split at e
  ·grind
  ·exact h.bt a ps e
 ·obtain⟨a,o,e1,e2,e3,e4⟩:=h.st k c e n;refine⟨a,o,e1,?_,e3,e4.mono le⟩;show(if a∈qs then H a else B a)=_;rw[if_neg (λm=> ?_)]
  ·exact e2
  ·obtain⟨vs,z⟩:=ht a m;rw[e3] at z;cases z
   rcases e4.mb n with⟨_,e⟩|⟨_,e⟩|⟨_,e⟩|⟨_,_,_,e⟩<;>cases e
 ·show(if a∈qs then H a else B a)=_;rw[if_neg (λm=>by grind)]
end
section
theorem qfk: ∀{us:List T}{ws:List V},us.all (λt=>shN t==0||shN t==1)=true->Reps K B us ws->ws=(us.map kyN).map PL.kyV/\(us.map kyN).map PL.shK=us.map shN
 |[],_,_,r=>⟨r.inv0,rfl⟩
 |u::us,_,h,r=>by
  obtain⟨v,rr,rfl,a,b⟩:=r.inv;rw[List.all_cons,Bool.and_eq_true] at h;obtain⟨e1,e2⟩:=qfk h.2 b;cases u with
  |int i=>rw[qah a,e1];exact⟨rfl,by rw[List.map_cons,List.map_cons,e2];rfl⟩
  |str i=>rw[qaF a,e1];exact⟨rfl,by rw[List.map_cons,List.map_cons,e2];rfl⟩
  |_=>cases h.1
theorem qie(I:Inv X O Z H s)(le:LeH B H)(ok:PL.okShape (qcJ t)=true)(r:Rep X.K B t x)(rv:RelV x v):qb6 s.heap (qcJ t) (qkU t) v:=by
 cases t with
 |int i=>rw[qah r] at rv;obtain⟨t,rfl⟩:=rv;exact⟨i,t,rfl,rfl⟩
 |str i=>rw[qaF r] at rv;obtain⟨t,rfl⟩:=rv;exact⟨i,t,rfl,rfl⟩
 |tup us=>
  obtain⟨p,ws,rfl,hp,rs⟩:=qax r;cases rv;obtain⟨its,cx,gX,_⟩:=I.tuple (SqT.of (le _ _ hp));have fl:us.all (λt=>shN t==0||shN t==1)=true:=by
   rcases PL.okShape_cases ok with e|e|⟨x,r,e,ho⟩
   ·cases e
   ·cases e
   ·have e:=(List.cons.inj e).2;rw[<-e,List.all_map] at ho;exact ho
  obtain⟨e1,e2⟩:=qfk fl rs;exact⟨⟨p,its,rfl,gX,e1▸cx⟩,e2⟩
 |_=>cases ok
theorem qeF(h:qbB ts=true): ∃sh,PL.okShape sh=true/\∀t∈ts,qcJ t=sh:=by
 cases ts with
 |nil=>exact⟨[0],rfl,λ_ h=>nomatch h⟩
 |cons t ts=>
  have h:(PL.okShape _&&ts.all _)=true:=h;rw[Bool.and_eq_true] at h;refine⟨_,h.1,λu hu=> ?_⟩
  rcases List.mem_cons.mp hu with rfl|hu
  ·rfl
  simp_all
theorem qdq(r:Reps K B ts vs): ∀l:List Nat,(∀j∈l,j<ts.length)->Reps K B (l.map λj=>ts.getD j .non) (l.map λj=>vs.getD j .non)
 |[],_=>.nil
 |j::l,h=>.cons (r.getD j (h j Vj)) (qdq r l λi hi=>h i (Vk _ hi))
open PySem.W PyProof.Rows in
theorem qbO{X:Cx}{O:List (Addr×Obj)}{s:Shared}{Z:L2.St}{H:Hp}{B:qaD}{u:Value}{Q:VK}{ts:List T}{vs:List V}{its:List Value}(I:Inv X O Z H s)(le:LeH B H)(r:Reps X.K B ts vs)(rv:qav vs its)(eQ:ts.length<64)(so:qbB ts=true)(b8: ∀R:List Value->Shared->Prop,(∀h1 t1,St.Kp s.heap h1->R its { s with heap:=h1,toks:=t1 })->wpAny (model X.prog X.w) X.A.in1 (collect u) R X.xe s)(q: ∀D ys,H D=none->Reps X.K B (qeG ts) ys->Q (.ref D) (upd H D (.lst ys))):wpAny (model X.prog X.w) X.A (call (.builtin "sorted") [u]) (EP X O Z Q) X.xe s:=by
 obtain⟨sh,ok,hs⟩:=qeF so;have l1:=rv.length;have l2:=r.length;have kg: ∀j,j<ts.length->(ts.map qkU).getD j []=qkU (ts.getD j .non)/\ts.getD j .non∈ts:=λj hj=>by
  simp_all
 refine qfN (ks:=ts.map qkU) ok (by simp;omega) (by omega) b8 (λj hj=> ?_) λh1 D h' tk c p kp hD k2 ep dR=> ?_
 ·obtain⟨e1,e2⟩:=kg j (by omega);have e3:=hs _ e2;rw[e1,<-e3];exact qie I le (by rw[e3];exact ok) (r.getD j (by omega)) (qey rv j)
 ·have I2:Inv X O Z H { s with heap:=h1,toks:=s.toks }:=I.kept (t':=s.toks) kp;have fD:H D=none:=I2.hok.fresh hD;have pm: ∀j∈p.toList,j<ts.length:=λj hj=>by rw[ep] at hj;have:=List.mem_range.mp ((qd8 _).mp hj);omega
  have e:qeG ts=p.toList.map λj=>ts.getD j .non:=by
   unfold qeG PL.sortBy;rw[ep,qeD (k':=λj=>qhS PL.ltKs (ts.map qkU) (qkU (ts.getD j .non))),qoa (k:=λt=>qhS PL.ltKs (ts.map qkU) (qkU t)) (f:=λj=>ts.getD j .non) (λb=>rfl),show its.length=ts.length by omega,Mir.map_range_getD]
   grind
  have I3:Inv X O Z (upd H D (.lst (p.toList.map λj=>vs.getD j .non))) { s with heap:=h',toks:=tk }:=by refine I2.laid k2 hD ⟨?_,_,c,L2.vals_pick rv p.toList,dR⟩;rw[List.length_map,ep,qh9,List.length_range,sizeLine_eq];omega
  refine⟨.ref D,_,I3,rfl,q D _ fD ?_⟩;rw[e];exact qdq r _ pm
theorem qpP(I:Inv X O Z H s)(hp:Rd H p (.dK us)): ∃(es:Array DictEntry)(ep:Nat),DH.RawD s.heap p es ep/\(p==sysModules)=false/\es.size<=sizeLine/\qav (us.map λp=>kV p.1) (es.toList.map (·.key)):=by
 obtain⟨hz,lo,vs,kv,o,es,ep,ho,hx,hd,h4,h5,h6⟩:=qcv I.hok hp;have l1:=h5.length;have l2:=kv.length;refine⟨es,ep,⟨o,ho,hx,hd⟩,lo,?_,?_⟩
 ·simp_all
 ·have go: ∀{us } {vs } {es },L2.KV us vs->Pairs (qar X.prog X.w) es vs->qav (us.map λp=>kV p.1) (es.map _):=λ{us vs es} kv=>by
   induction kv generalizing es with
   |nil=>intro h;cases h;exact .nil
   |cons c _ ih=>
    intro h;cases h with
    |cons c2 _ h2=>exact .cons (by show RelV (kV _) _;rw[c.1];exact L2.is_kV c2) (ih h2)
  exact go kv h5
open PySem.W PyProof.Rows in
theorem qkq{M:Md}{X:Cx}(hc:X.calm=true)(hK:X.K=M.K):qau X (.builtin "sorted") (rN M qc2):=by
 intro O s Z H xs us Q I r ⟨U,B,ts,n,h,rt,e,k⟩;unfold qc2 at e;split at e
 case h_2=>cases e
 rename_i t;obtain⟨v,rfl,a⟩:=qcL rt;obtain⟨u,rfl,ru⟩:=qcq r;obtain⟨its,e1,e2⟩:=bind_some e;split at e2
 case isFalse=>cases e2
 rename_i hs;cases e2;have hh:X.A.in1.handled=none:=I.ok.hd hc;unfold qus at e1;split at e1
 ·rename_i ts el;cases e1;obtain⟨p,vs,rfl,rv,sq⟩:=qf1 h el a;cases ru;obtain⟨its,cx,pl,hz⟩:=I.list (by rw[hK];exact sq);have l1:=cx.length;rw[<-hK] at rv;refine qbO I (B:=B) h.bh rv cx hs.1 hs.2 (λR hR=>collect_list pl.isList (hR _ _ λb o q=>by
   have bx:b<s.heap.objs.size:=Vi q;rw[Heap.get?_update_ne _ _ _ _ (Nat.ne_of_lt bx),Heap.get?_push_ne _ _ _ (Nat.ne_of_lt bx)];exact q) (by omega)) λD ys hD ry=>k B D ys h .refl hD (by rw[<-hK];exact ry)
 ·split at e1
  ·rename_i kvs el;cases e1;obtain⟨p,us,rfl,hp,gk⟩:=qfp h el a;cases ru;obtain⟨es,ep,r1,lo,hz,cx⟩:=qpP I hp;have rv:Reps X.K B (kvs.map λp=>qeb p.1) (us.map λp=>kV p.1):=by
    have go: ∀{kvs:List (Key×T)}{us:List (Key×V)},qaV M.K B kvs us->Reps X.K B (kvs.map λp=>qeb p.1) (us.map λp=>kV p.1):=λ{kvs}=>by
     induction kvs with
     |nil=>intro us r;rw[show us=[] from r];exact .nil
     |cons kv kvs ih=>intro us ⟨v,r,e,_,b⟩;rw[e];exact .cons (qcY kv.1) (ih b)
    exact go gk
   exact qbO I (B:=B) h.bh rv cx hs.1 hs.2 (λR hR=>DH.collectD hh lo r1 hz λh' tk kp=>hR h' tk kp) λD ys hD ry=>k B D ys h .refl hD (by rw[<-hK];exact ry)
  ·obtain⟨kvs,el,rfl⟩:=qaA e1;obtain⟨p,us,rfl,hp,gk⟩:=qkb h el a;cases ru;obtain⟨qs,es,ep,r1,lo,hz,hk,h1,h2,h3⟩:=PL.dt_keys I hp;obtain⟨ha,ga⟩:=h.abs (qs:=qs) λq hq=>by obtain⟨j,hj⟩:=List.mem_iff_getElem?.mp hq;obtain⟨k,v,_,z⟩:=h3 j q hj;exact⟨_,z⟩
   have l3:=gk.length;have rv:Reps X.K (B.abs H qs) (kvs.map λp=>.tup (p.1.map qeb)) (qs.map V.ref):=by
    refine .of_get (by simp;omega) λj t' v' z1 z2=> ?_;rw[List.getElem?_map] at z1 z2;cases y:qs[j]? with
    |none=>rw[y] at z2;cases z2
    |some b=>
     rw[y] at z2;cases z2;obtain⟨k,v,y1,y2⟩:=h3 j b y;cases y3:kvs[j]? with
     |none=>rw[y3] at z1;cases z1
     |some kv=>rw[y3] at z1;cases z1;obtain⟨v3,y4,_⟩:=qcA gk y3;rw[y1] at y4;cases y4;refine qcl (vs:=kv.1.map kV) ?_ (qdA _);show(if b∈qs then H b else _)=_;rw[if_pos (List.mem_of_getElem? y)];exact y2
   have cx:qav (qs.map V.ref) (es.toList.map (·.key)):=by
    rw[hk];have go: ∀l:List Addr,qav (l.map V.ref) (l.map Value.ref):=λl=>by
     induction l with
     |nil=>exact .nil
     |cons b l ih=>exact .cons rfl ih
    exact go qs
   exact qbO I (B:=B.abs H qs) ha.bh rv cx hs.1 hs.2 (λR hR=>DH.collectD hh lo r1 (by omega) λh' tk kp=>hR h' tk kp) λD ys hD ry=>k _ D ys ha ga hD (by rw[<-hK];exact ry)
end
end NV
namespace NV
open PySem L2
noncomputable def qg3(U:Mu):T->Option (Nat×List T)
 |.obj k=>(match U.l[k]? with|some (.ls ts)=>some (k,ts)|_=>none)
 |_=>none
noncomputable def qlB(U:Mu):T->Option (Nat×List (Key×T))
 |.obj k=>(match U.l[k]? with|some (.dk ts)=>some (k,ts)|_=>none)
 |_=>none
noncomputable def qwG(U:Mu):T->Option (Nat×List (List Key×T))
 |.obj k=>(match U.l[k]? with|some (.du ts)=>some (k,ts)|some (.dk [])=>some (k,[])|_=>none)
 |_=>none
noncomputable def qll{κ:Type}[DecidableEq κ](kvs:List (κ×T))(k:κ)(t:T):List (κ×T):=if(kvs.any λkv=>decide (kv.1=k))=true then kvs.map (λkv=>if kv.1=k then(kv.1,t) else kv) else kvs++[(k,t)]
noncomputable def qkd(kvs:List (Key×T))(k:Key):List (Key×T):=kvs.filter λkv=>decide (kv.1≠k)
noncomputable def qf8(U:Mu):List T->Option Nv
 |[o,x]=>(qg3 U o).bind λq=>if q.2.length<=1000 then some (.p q.1 (.ls (q.2++[x])) .non) else none
 |_=>none
noncomputable def qvB(U:Mu):List T->Option Nv
 |[o]=>(qg3 U o).bind λq=>(q.2[q.2.length - 1]?).map λt=>.p q.1 (.ls q.2.dropLast) t
 |_=>none
noncomputable def qjU(U:Mu):List T->Option Nv
 |[o]=>(qg3 U o).map λq=>.p q.1 (.ls []) .non
 |_=>none
noncomputable def qpt(U:Mu):List T->Option Nv
 |[d,k]=>(qlB U d).bind λq=>(qe9 k).bind λk=>(qiB q.2 k).map λt=>.p q.1 (.dk (qkd q.2 k)) t
 |_=>none
noncomputable def rM(M:Md)(g:Mu->List T->Option Nv):V->List V->Hp->VK->Prop:=λx vs H Q=>rN M g (x::vs) H Q
theorem MtR.weak{id:String}(h:MtR X id r)(w: ∀x xs H Q,r' x xs H Q->r x xs H Q):MtR X id r':=λO s Z H x xs v us Q I rx rs q=>h _ s Z H x xs v us Q I rx rs (w _ _ _ _ q)
section
theorem qd1(h:Hs M U H B)(e:qg3 U t=some q)(r:Rep M.K B t v): ∃a vs,v= .ref a/\B.ad q.1=some a/\H a=some (.lst vs)/\Reps M.K B q.2 vs:=by
 unfold qg3 at e;split at e
 ·split at e
  ·rename_i el;cases e;obtain⟨a,rfl,ea⟩:=qaB r;obtain⟨o,_,ho,vs,rfl,rv⟩:=h.at el (by simp) ea
   simp_all
  ·cases e
 ·cases e
theorem qi7(h:Hs M U H B)(e:qlB U t=some q)(r:Rep M.K B t v): ∃a vs,v= .ref a/\B.ad q.1=some a/\H a=some (.dK vs)/\qaV M.K B q.2 vs:=by
 unfold qlB at e;split at e
 ·split at e
  ·rename_i el;cases e;obtain⟨a,rfl,ea⟩:=qaB r;obtain⟨o,_,ho,vs,rfl,rv⟩:=h.at el (by simp) ea
   simp_all
  ·cases e
 ·cases e
theorem qh2:MtR X "list.append" (rM M qf8):=MtR.weak qeY λx xs H Q ⟨U,B,ts,n,h,r,e,k⟩=>by
 unfold qf8 at e;split at e
 ·obtain⟨a,b,eq,ra,rb⟩:=qiQ r;cases eq;obtain⟨q,e1,e2⟩:=bind_some e;split at e2
  ·cases e2;obtain⟨p,vs,rfl,ea,hp,rv⟩:=qd1 h e1 ra;have l0:1001<sizeLine:=by decide
   exact⟨p,vs,b,rfl,rfl,hp,by rw[rv.length];omega,k.2 B p _ _ h .refl ea ⟨_,rfl,rv.append (.one rb)⟩ qeV⟩
  ·cases e2
 ·cases e
theorem qo0:MtR X "list.pop" (rM M qvB):=MtR.weak qsc λx xs H Q ⟨U,B,ts,n,h,r,e,k⟩=>by
 unfold qvB at e;split at e
 ·obtain⟨a,eq,ra⟩:=qcL r;cases eq;obtain⟨q,e1,e2⟩:=bind_some e;obtain⟨t,e3,rfl⟩:=qaA e2;obtain⟨p,vs,rfl,ea,hp,rv⟩:=qd1 h e1 ra;obtain⟨v,ev,bS⟩:=rv.get e3;have hl:=rv.length;refine⟨p,vs,v,rfl,rfl,hp,by rw[hl];exact ev,k.2 B p _ _ h .refl ea ⟨_,rfl,?_⟩ bS⟩;rw[List.dropLast_eq_take,List.dropLast_eq_take,hl];exact rv.take _
 ·cases e
theorem qjn:MtR X "list.clear" (rM M qjU):=MtR.weak qlN λx xs H Q ⟨U,B,ts,n,h,r,e,k⟩=>by
 unfold qjU at e;split at e
 ·obtain⟨a,eq,ra⟩:=qcL r;cases eq;obtain⟨q,e1,rfl⟩:=qaA e;obtain⟨p,vs,rfl,ea,hp,rv⟩:=qd1 h e1 ra;exact⟨p,vs,rfl,rfl,hp,k.2 B p _ _ h .refl ea ⟨_,rfl,.nil⟩ qeV⟩
 ·cases e
end
section
variable{K:W.Frag}{B:qaD}{κ:Type}[DecidableEq κ]
theorem qgR(k:κ): ∀{ts:List (κ×T)}{vs:List (κ×V)},qaV K B ts vs->(vs.any λkv=>decide (kv.1=k))=ts.any λkv=>decide (kv.1=k)
 |[],vs,r=>by rw[r];rfl
 |(k',t)::ts,_,⟨v,r,e,_,b⟩=>by rw[e,List.any_cons,List.any_cons,qgR k b]
theorem qeL(h:Rep K B t v): ∀{ts:List (κ×T)}{vs:List (κ×V)},qaV K B ts vs->qaV K B (ts++[(k,t)]) (vs++[(k,v)])
 |[],vs,r=>by rw[r];exact⟨v,[],rfl,h,rfl⟩
 |(k',t')::ts,_,⟨w,r,e,a,b⟩=>by rw[e];exact⟨w,_,rfl,a,qeL h b⟩
theorem qcP(k:κ)(h:Rep K B t v): ∀{ts:List (κ×T)}{vs:List (κ×V)},qaV K B ts vs->qaV K B (ts.map λkv=>if kv.1=k then(kv.1,t) else kv) (vs.map λkv=>if kv.1=k then(kv.1,v) else kv)
 |[],vs,r=>by rw[r];rfl
 |(k',t')::ts,_,⟨w,r,e,a,b⟩=>by
  rw[e,List.map_cons,List.map_cons];by_cases c:k'=k
  ·rw[if_pos c,if_pos c];exact⟨v,_,rfl,h,qcP k h b⟩
  ·rw[if_neg c,if_neg c];exact⟨w,_,rfl,a,qcP k h b⟩
theorem qbW{k:κ}{t:T}{v:V}{ts:List (κ×T)}{vs:List (κ×V)}(r:qaV K B ts vs)(h:Rep K B t v):qaV K B (qll ts k t) (qgV vs k v):=by
 unfold qll qgV;rw[qgR k r];split
 ·exact qcP k h r
 ·exact qeL h r
theorem qeN: ∀{ts:List (Key×T)}{vs:List (Key×V)},qaV K B ts vs->qaV K B (qkd ts k) (qgd vs k)
 |[],vs,r=>by rw[r];rfl
 |(k',t')::ts,_,⟨w,r,e,a,b⟩=>by
  have ih:=qeN (k:=k) b;unfold qkd qgd at ih⊢;rw[e,List.filter_cons,List.filter_cons];by_cases c:k'=k
  ·simp_all
  ·rw[if_pos (by simp[c]),if_pos (by simp[c])];exact⟨w,_,rfl,a,ih⟩
end
section
theorem qlM:MtR X "dict.pop" (rM M qpt):=by
 intro O s Z H x vs v us Q I rx rv ⟨U,B,ts,n,h,r,e,k⟩;unfold qpt at e;split at e
 ·obtain⟨a,b,eq,ra,rb⟩:=qiQ r;cases eq;obtain⟨q,e1,e2⟩:=bind_some e;obtain⟨ky,e3,e4⟩:=bind_some e2;obtain⟨t,e5,rfl⟩:=qaA e4;obtain⟨p,ws,rfl,ea,hp,rw⟩:=qi7 h e1 ra;obtain⟨v,ev,bS⟩:=(qbC ky rw).1 t e5;cases rx;obtain⟨u,rfl,ru⟩:=qcq rv;rw[qcX e3 rb] at ru;exact qvZ I hp ru ev (.inl rfl) λw' s3 I3 av=>⟨v,_,I3,av,k.2 B p _ _ h .refl ea ⟨_,rfl,qeN rw⟩ bS⟩
 ·cases e
noncomputable def qpp(U:Mu)(o i v:T):Option (Nat×Ct):=match qg3 U o,i with
 |some q,.int k=>(ixN q.2.length k).map λj=>(q.1,.ls (q.2.set j v))
 |_,_=>(match qlB U o,qe9 i with
  |some q,some k=>if q.2.length<=1000 then some (q.1,.dk (qll q.2 k v)) else none
  |_,_=>(match qwG U o,qt1 i with
   |some q,some k=>if q.2.length<=1000 then some (q.1,.du (qll q.2 k v)) else none
   |_,_=>none))
noncomputable def quH(M:Md):qwh:=λo i v H Q=> ∃U B to ti tv q,Hs M U H B/\Rep M.K B to o/\Rep M.K B ti i/\Rep M.K B tv v/\qpp U to ti tv=some q/\U.live q.1=true/\∀a ob,B.ad q.1=some a->qew M.K B q.2 ob->Q (upd H a ob)
theorem qux{M:Md}{X:Cx}(hu:X.A.units+1<cLine):qwj X (quH M):=by
 intro O s Z H o i v ov iv u Q I ro ri rv ⟨U,B,to,ti,tv,q,h,r1,r2,r3,e,lv,k⟩;have l0:1001<=sizeLine:=by decide
 unfold qpp at e;split at e
 ·rename_i p kk e1;obtain⟨j,e2,rfl⟩:=qaA e;obtain⟨a,vs,rfl,ea,hp,rw⟩:=qd1 h e1 r1;rw[qah r2] at ri;have hl:=rw.length;exact qk9 O s Z H _ _ v ov iv u Q I ro ri rv ⟨a,vs,kk,j,rfl,rfl,hp,by rw[hl];exact e2,k a _ ea ⟨_,rfl,rw.set j r3⟩⟩
 ·split at e
  ·rename_i p ky e1 e2;split at e
   ·rename_i hz;cases e;obtain⟨a,vs,rfl,ea,hp,rw⟩:=qi7 h e1 r1;have hl:=rw.length;cases ro;exact qc7 hu I (.inl ⟨vs,ky,hp,qcX e2 r2,by omega,rfl⟩) ri rv λs' I'=>⟨_,I',k a _ ea ⟨_,rfl,qbW rw r3⟩⟩
   ·cases e
  ·split at e
   ·rename_i p ky e1 e2;split at e
    ·rename_i hz;cases e;obtain⟨b,rfl,hb⟩:=qf4 h e2 r2;unfold qwG at e1;split at e1
     ·rename_i kk;obtain⟨a,rfl,ea⟩:=qaB r1;cases ro;split at e1
      ·rename_i el;cases e1;obtain⟨ob,_,ho,us,rfl,ru⟩:=h.at el (by simp) ea;have hl:=ru.length;have hz:_<=1000:=hz;dsimp only at hz;exact qc7 hu I (.inr ⟨us,ky,b,ho,rfl,hb,by rw[hl];omega,rfl⟩) ri rv λs' I'=>⟨_,I',k a _ ea ⟨_,rfl,qbW ru r3⟩⟩
      ·rename_i el;cases e1;obtain⟨ob,_,ho,us,rfl,ru⟩:=h.at el (by simp) ea;have:us=[]:=ru;subst this;have I':=PL.Inv.asT I ho;have aU:upd H a (.dT []) b=some (.tup (ky.map kV)):=by rw[qab (λz=>by rw[z,ho] at hb;cases hb)];exact hb
       refine qc7 hu I' (.inr ⟨[],ky,b,qaf,rfl,aU,by show 0<sizeLine;omega,rfl⟩) ri rv λs' I'=>⟨_,I',?_⟩
       rw[qfL];exact k a _ ea ⟨_,rfl,qbW (ts:=[]) (vs:=[]) rfl r3⟩
      ·cases e1
     ·cases e1
    ·cases e
   ·cases e
theorem qrv(ic:qwj X t)(ho:PE X o td)(hi:PE X i ty)(hv:PE X value tv)(hs:swapsWith value (some (.Subscript o i pos')) pos.line X.env=pure false):
  PS X (.Assign [.Subscript o i pos'] value pos) (λD Z H=>tv Z H λv H1=>td Z H1 λx H2=>ty Z H2 λy H3=>t x y v H3 λH4=>D.nx Z H4):=by
 intro O s Z H D I h;exact wpAny_Assign_Subscript (thn (hv _ s Z H _ I h) λr s1 ⟨v,H1,I1,rv,q1⟩=>thn (ho _ s1 Z H1 _ I1 q1) λu s2 ⟨x,H2,I2,rx,q2⟩=>thn (hi _ s2 Z H2 _ I2 q2) λiv s3 ⟨y,H3,I3,ry,q3⟩=>
  thn (ic _ s3 Z H3 x y v u iv r _ I3 rx ry rv q3) λ_ s4 ⟨H4,I4,q4⟩=>⟨Z,H4,I4,q4⟩) hs
noncomputable def qwW(bu di dv:DS0 T):DS0 Out:=dSq dv λv=>dSq bu λo=>dSq di λi ρ U=>match qpp U o i v with
 |some q=>if U.live q.1=true then .ok (.nx ρ) (U.put q.1 q.2) else .no
 |none=>.no
theorem qs0(hu:X.A.units+1<cLine)(ho:PE X o (tE M E bu))(hi:PE X i (tE M E di))(hv:PE X value (tE M E dv))(hs:swapsWith value (some (.Subscript o i pos')) pos.line X.env=pure false):
  PS X (.Assign [.Subscript o i pos'] value pos) (tS M E (qwW bu di dv)):=PS.weak (qrv (qux hu) ho hi hv hs) λD Z H ⟨ρ,U,B,ev,w⟩=>by
 refine tE.of ev ((Wn.bind w).mono λt af w1 v H1 B1 h1 l1 r1=> ?_);refine tE.of (ev.on h1 l1.le) ((Wn.bind w1).lift l1 λx ai w2 u H2 B2 h2 l2 r2=> ?_);have fh:=l1.trans l2;refine tE.of ((ev.on h1 l1.le).on h2 l2.le) ((Wn.bind w2).lift fh λy bQ w3 z H3 B3 h3 l3 r3=> ?_);have fg:=fh.trans l3;have w3:Wn M E H B (KS M H B D) (match qpp bQ x y t with|some q=>if bQ.live q.1=true then .ok _ _ else .no|none=>.no):=w3;split at w3
 ·rename_i q eq;split at w3
  ·rename_i lv;refine⟨bQ,B3,x,y,t,q,h3,r2.mono l3.le,r3,r1.mono (l2.trans l3).le,eq,lv,λa ob ea hc=> ?_⟩;obtain⟨c0,e0,n0⟩:=Mu.live_at lv;have g:=fg.trans (qsx (o:=ob) ea);exact w3 Z _ B3 (ev.on (h3.put e0 n0 ea hc) g.le) g
  ·exact w3.elim
 ·exact w3.elim
theorem qkf:PE X (.Dict [] [] pos) (tN M E λ_ U=>.ok (.dk []) U):=PE.weak qlx λZ H Q ⟨ρ,U,B,ev,w⟩ p hp=>w p _ H B ev.hs .refl hp ⟨[],rfl,rfl⟩
end
noncomputable def gOr(g g':Mu->List T->Option Nv):Mu->List T->Option Nv:=λU ts=>match g U ts with
 |some n=>some n
 |none=>g' U ts
theorem qpq(h:gOr g g' U ts=some n):g U ts=some n\/g' U ts=some n:=by
 unfold gOr at h;split at h
 ·grind
 ·exact .inr h
section
theorem qv5(h:qau X f (rN M g))(h':qau X f (rN M g')):qau X f (rN M (gOr g g')):=λO s Z H xs us Q I r ⟨U,B,ts,n,hs,rr,e,k⟩=>(qpq e).elim (λe=>h _ s Z H xs us Q I r ⟨U,B,ts,n,hs,rr,e,k⟩) λe=>h' _ s Z H xs us Q I r ⟨U,B,ts,n,hs,rr,e,k⟩
end
noncomputable def PrV(H:Hp):List V->List (Key×V)->Prop
 |[],ps=>ps=[]
 |v::vs,ps=> ∃k w r,ps=(k,w)::r/\(∃ta,v= .ref ta/\H ta=some (.tup [kV k,w]))/\PrV H vs r
section
theorem qfR: ∀{vs:List V}{ps:List (Key×V)},PrV H vs ps->ps.length=vs.length
 |[],_,h=>by rw[h];rfl
 |_::_,_,⟨_,_,_,e,_,h⟩=>by rw[e,List.length_cons,List.length_cons,qfR h]
theorem qgX(I:Inv X O Z H s): ∀{vs:List V}{ps:List (Key×V)}{its:List Value},PrV H vs ps->qav vs its->∃pu:List (Key×Value),L2.KV ps pu/\∀(i:Nat)(pp:Key×Value),pu[i]? =some pp->∃v,its[i]? =some v/\qkP (qar X.prog X.w) s.heap pp v
 |[],_,its,h,r=>by have h:_=[]:=h;subst h;cases r;exact⟨[],.nil,λi pp h=>by simp at h⟩
 |_::vs,_,its,⟨k,w,ps,e,⟨ta,ev,ht⟩,h⟩,r=>by
  subst e;subst ev;cases r with
  |cons vy vys=>
   rename_i u us;obtain⟨pu,e2,e4⟩:=qgX I h vys;cases vy;obtain⟨aE,cx,gX,_⟩:=I.tuple (SqT.of ht);cases cx with
   |cons a1 a2=>
    rename_i uk us2;cases a2 with
    |cons b1 b2=>
     rename_i uv us3;cases b2;refine⟨(k,uv)::pu,.cons ⟨rfl,b1⟩ e2,λi qq hi=> ?_⟩;cases i with
     |zero=>simp at hi;subst hi;exact⟨_,rfl,ta,uk,rfl,gX,qfa a1⟩
     |succ i=>
      simp_all
noncomputable def qga(ps:List (Key×V))(d:List (Key×V)):List (Key×V):=ps.foldl (λd p=>qgV d p.1 p.2) d
theorem qfi: ∀(pv dv:List (Key×V)),(qga pv dv).length<=dv.length+pv.length
 |[],dv=>Vl _
 |p::pv,dv=>by
  have h1:=qfi pv (qgV dv p.1 p.2);have h2:=qbS dv p.1 p.2;show(qga pv _).length<=_
  grind
theorem qhk: ∀{pv:List (Key×V)}{pu:List (Key×Value)}{dv:List (Key×V)}{du:List (Key×Value)},L2.KV pv pu->L2.KV dv du->L2.KV (qga pv dv) (qiL du pu)
 |[],_,dv,du,k,kd=>by cases k;exact kd
 |p::pv,_,dv,du,k,kd=>by
  cases k with
  |cons a b=>rename_i qq qs;obtain⟨qk,qv⟩:=qq;obtain⟨kk,vv⟩:=p;have ek:=a.1;subst ek;show L2.KV (qga pv _) (qiL _ qs);exact qhk b (kd.put kk a.2)
theorem qio(hc:X.calm=true):qau X (.type "dict") (λxs H Q=> ∃p vs ps,xs=[V.ref p]/\H p=some (.lst vs)/\PrV H vs ps/\ps.length<=1000/\∀l,H l=none->Q (.ref l) (upd H l (.dK (qga ps [])))):=by
 intro O s Z H xs us Q I r h;obtain⟨p,vs,ps,rfl,hp,pr,hz,q⟩:=h;obtain⟨u,rfl,ru⟩:=qcq r;cases ru;obtain⟨z,its,n,rv,hl,el⟩:=I.lstM hp;have hh:=I.ok.hd hc;have l1:=qfR pr;obtain⟨pu,f2,f4⟩:=qgX I pr rv;have lpu:=f2.length;refine qip hh el (by lia) (by lia) f4 λh' tk hD kp=> ?_;have kD:=qhk f2 .nil;have sm:(s.heap.objs.size==sysModules)=false:=by simpa using Nat.ne_of_gt I.big
 have I3:=by
  refine I.laid (t':=tk) kp (Vl _) (qfq ?_ sm kD hD);have h1:=qfi ps []
  grind
 exact⟨.ref _,_,I3,rfl,q _ (I.hok.fresh (Vl _))⟩
noncomputable def qb0:T->Option (Key×T)
 |.tup [k,v]=>(qe9 k).map λq=>(q,v)
 |_=>none
noncomputable def qt0(U:Mu):T->Option (List T)
 |.lst ts=>some ts
 |.obj k=>(match U.l[k]? with|some (.ls ts)=>some ts|_=>none)
 |_=>none
theorem qo5(h:Hs M U H B)(e:qt0 U t=some ts)(r:Rep M.K B t v): ∃p vs,v= .ref p/\H p=some (.lst vs)/\Reps M.K B ts vs:=by
 unfold qt0 at e;split at e
 ·cases e;obtain⟨p,vs,rfl,hp,rs⟩:=qaz r;exact⟨p,vs,rfl,h.bh _ _ hp,rs⟩
 ·split at e
  ·rename_i el;obtain⟨a,rfl,ea⟩:=qaB r;obtain⟨o,b0,ho,vs,rfl,rv⟩:=h.at el (by simp) ea
   simp_all
  ·cases e
 ·cases e
noncomputable def qj5(ps:List (Key×T))(d:List (Key×T)):List (Key×T):=ps.foldl (λd p=>qll d p.1 p.2) d
noncomputable def qjS(U:Mu):List T->Option Nv
 |[a]=>(qt0 U a).bind λts=>if ts.length<=1000/\(ts.all λt=>(qb0 t).isSome)=true then some (.d (qj5 (ts.filterMap qb0) [])) else none
 |_=>none
theorem qg2{M:Md}(bh: ∀a o,B a=some o->H a=some o): ∀{ts:List T}{vs:List V},(ts.all λt=>(qb0 t).isSome)=true->Reps M.K B ts vs->∃ps,PrV H vs ps/\qaV M.K B (ts.filterMap qb0) ps
 |[],vs,_,r=>by rw[r.inv0];exact⟨[],rfl,rfl⟩
 |t::ts,vs,ha,r=>by
  obtain⟨v,cn,rfl,a,b⟩:=r.inv;rw[List.all_cons,Bool.and_eq_true] at ha;obtain⟨ps,h1,h2⟩:=qg2 bh ha.2 b;have iJ:=ha.1;unfold qb0 at iJ;split at iJ
  ·rename_i k x;cases ek:qe9 k with
   |none=>grind
   |some q=>
    obtain⟨p,ws,rfl,hp,rs⟩:=qax a;obtain⟨wk,r',rfl,rk,rr⟩:=rs.inv;obtain⟨wv,r'',rfl,bS,rr'⟩:=rr.inv;rw[rr'.inv0,qcX ek rk] at hp;refine⟨(q,wv)::ps,⟨q,wv,ps,rfl,⟨p,rfl,bh _ _ hp⟩,h1⟩,?_⟩;have e:qb0 (.tup [k,x])=some (q,x):=by simp only[qb0,ek,Option.map_some]
    rw[List.filterMap_cons,e];exact⟨wv,ps,rfl,bS,h2⟩
  ·cases iJ
theorem qhj: ∀{ps:List (Key×T)}{pv:List (Key×V)}{d:List (Key×T)}{dv:List (Key×V)},qaV K B ps pv->qaV K B d dv->qaV K B (qj5 ps d) (qga pv dv)
 |[],_,_,_,r,rd=>by rw[r];exact rd
 |(k,t)::ps,_,d,dv,⟨v,r,e,a,b⟩,rd=>by rw[e];show qaV K B (qj5 ps _) (qga r _);exact qhj b (qbW rd a)
theorem qmJ{X:Cx}(hc:X.calm=true):qau X (.type "dict") (rN M qjS):=qau.ok (qio hc) λU H B vs ts n Q h r e k=>by
 unfold qjS at e;split at e
 ·obtain⟨v,rfl,a⟩:=qcL r;rename_i t;cases el:qt0 U t with
  |none=>rw[el] at e;cases e
  |some us=>
   rw[el,Option.bind_some] at e;split at e
   ·rename_i bT;cases e;obtain⟨p,ws,rfl,hp,rs⟩:=qo5 h el a;obtain⟨ps,h1,h2⟩:=qg2 (M:=M) (H:=H) h.bh bT.2 rs;refine⟨p,ws,ps,rfl,hp,h1,?_,λl hl=>k B l _ h .refl hl (qhj h2 rfl)⟩;have:=qfR h1;have:=rs.length;omega
   ·cases e
 ·cases e
end
noncomputable def qaD.ovl(B:qaD)(ex:Hp):qaD:=⟨L2.ovl B.hp ex,B.ad⟩
section
theorem Hs.many(h:Hs M U H B)(hn: ∀b o,ex b=some o->H b=none)(ht: ∀b ps,ex b≠some (.tbl ps)):Hs M U (L2.ovl H ex) (B.ovl ex)/\Go H B (L2.ovl H ex) (B.ovl ex):=by
 have old: ∀b o,H b=some o->ex b=none:=λb o e=>by
  cases z:ex b with
  |none=>rfl
  |some u=>grind
 have kp: ∀b o,H b=some o->L2.ovl H ex b=some o:=λb o e=>by rw[qaX (old b o e)];exact e
 have le:Le B (B.ovl ex):=⟨λa o e=>by show L2.ovl _ ex a=_;rw[qaX (old a o (h.bh _ _ e))];exact e,λ_ _ e=>e⟩
 have h2:=h.more kp;refine⟨⟨λa u e=> ?_,λa ps e=> ?_,h2.gm,λj c e n=> ?_,h.ij,h2.dm,h.lk,h.ln⟩,⟨le,λa o e _ _=>kp a o e,λ_ _ e=>.inl e,λa e z=> ?_,λa o e _ _ _=>by show L2.ovl _ ex a=_;rw[qaX (old a o e)]⟩⟩
 ·have e:L2.ovl _ ex a=some u:=e;cases z:ex a with
  |none=>rw[qaX z] at e⊢;exact h.bh _ _ e
  |some w=>rw[qb1 z] at e⊢;exact e
 ·have e:L2.ovl _ ex a=some _:=e;cases z:ex a with
  |none=>rw[qaX z] at e;exact h.bt a ps e
  |some w=>rw[qb1 z] at e;grind
 ·obtain⟨a,u,e1,e2,e3,e4⟩:=h.st j c e n;exact⟨a,u,e1,by show L2.ovl _ ex a=_;rw[qaX (old a u e3)];exact e2,kp a u e3,e4.mono le⟩
 ·cases q:H a with
  |none=>exact e q
  |some o=>simp_all
end
noncomputable def qxb(ex:Hp)(us:List (Key×V))(vs:List V):Prop:=vs.length=us.length/\∀(j:Nat)(k:Key)(v:V),us[j]? =some (k,v)->∃b,vs[j]? =some (.ref b)/\ex b=some (.tup [kV k,v])
noncomputable def qqZ(to:TE):TE:=λZ H Q=>to Z H λx H1=> ∃a us,x= .ref a/\Rd H1 a (.dK us)/\∀(ex:Hp) l vs,(∀b o,ex b=some o->H1 b=none)->(∀b ps,ex b≠some (.tbl ps))->ex l=some (.lst vs)->qxb ex us vs->Q (.ref l) (L2.ovl H1 ex)
section
open PySem.W PyProof.Rows in
theorem qi5(hc:X.calm=true)(gs:Gl X "list")(ms:X.mg "list" =none)(ho:PE X o to)(aB:attributeBase o "items" X.env (eval o X.env)=eval o X.env)(aA:(apos.endLine==cpos.line)=true):
  PE X (.Call (.Name "list" p1) [.Call (.Attribute o "items" apos) [] [] cpos] [] pos) (qqZ to):=by
 intro O s Z H Q I hq;refine Vf (qdz I gs ms (show bootBuiltins "list" =some (.type "list") by decide+kernel) ?_);have inner:wpAny (model X.prog X.w) X.A (eval (.Call (.Attribute o "items" apos) [] [] cpos) X.env) (λv s2=> ∃VA a us H1,v= .ref VA/\s2.heap.IsItemsView VA a/\Inv X O Z H1 s2/\Rd H1 a (.dK us)/\∀(ex:Hp) l vs,(∀b o,ex b=some o->H1 b=none)->(∀b ps,ex b≠some (.tbl ps))->ex l=some (.lst vs)->qxb ex us vs->Q (.ref l) (L2.ovl H1 ex)) X.xe s:=by
  refine wpAny_Call_method0_late aB aA (thn (ho O s Z H _ I hq) λv s1 ⟨x,H1,I1,r1,a,us,ex,hp,w1⟩=> ?_);subst ex;obtain rfl:v=Value.ref a:=r1;obtain⟨z,fk,vs,rel,od,es,ep,d1,d2,d3⟩:=qcv I1.hok hp;have h1:s1.TypeIs (.ref a) "dict" :=⟨od,d1,d2.1⟩
  have h2: ∀b,Value.ref a= .ref b->∃ob,s1.heap.get? b=some ob/\ob.dict=none:=λb e=>by cases e;exact⟨od,d1,d2.2.1⟩
  refine⟨"dict", "dict.items",F.plainAttrs_dict,F.slot_dict_items,F.type_dict_items,h1,h2,Calls.callWith_builtin rfl (PySem.evalArgs_none (qif d1 d2 fk ?_))⟩;exact⟨_,a,us,H1,rfl,⟨_,Vh _ rfl,rfl,rfl⟩,I1.kept (t':=s1.toks) λb o e=>Vg _ e,hp,w1⟩
 refine PyProof.Rows.callWith_type1 (Calls.spliced_cons (thn inner λu s2 ⟨VA,a,us,H1,eu,vw,I2,hp,w1⟩=>Calls.spliced_nil ?_)) rfl rfl;subst eu;obtain⟨z,fk,vs,rel,od,es,ep,d1,d2,d3,d4,d5,d6⟩:=qcv I2.hok hp;have hh:X.A.handled=none:=I2.ok.hd hc;have lv:us.length=vs.length:=rel.length;refine kdx_call (knd:=qar X.prog X.w) (kvs:=vs) (ep:=ep) hh vw ⟨od,es,d1,d2,d3,d4,d5,d6⟩ (by rw[<-lv];exact z) λh' tk acc c as kp hS la G ha=> ?_;have pr: ∀{j:Nat}{b:Addr},as[j]? =some b->∃k v key x,us[j]? =some (k,v)/\RelV (kV k) key/\RelV v x/\h'.get? b=some { cls:=Value.type "tuple",data:=Data.seq #[key,x] }:=λ{j b} hb=>by obtain⟨key,k,x,e1,e2,e3⟩:=G.pairs j b hb;obtain⟨v,e4,e5⟩:=rel.get e1;exact⟨k,v,key,x,e4,is_kV e2,e5,e3⟩
 have hi: ∀b∈as,s2.heap.objs.size<b:=λb hb=>G.above b hb;let ex:Hp:=λb=>if b=s2.heap.objs.size then some (.lst (as.map V.ref)) else((as.zip us).find? λq=>q.1==b).map λq=>HO.tup [kV q.2.1,q.2.2]
 have jF:ex s2.heap.objs.size=some (.lst (as.map V.ref)):=if_pos rfl;have fZ: ∀{j:Nat}{b:Addr}{k:Key}{v:V},as[j]? =some b->us[j]? =some (k,v)->ex b=some (.tup [kV k,v]):=λ{j b k v} h1 h2=>by have:=hi b (Vt h1);show(if b=s2.heap.objs.size then _ else _)=_;rw[if_neg (Nat.ne_of_gt this),qhl G.rise h1 h2];rfl
 have cH: ∀b o,ex b=some o->(b=s2.heap.objs.size/\o= .lst (as.map V.ref))\/∃(j:Nat)(k:Key)(v:V),as[j]? =some b/\us[j]? =some (k,v)/\o= .tup [kV k,v]:=λb o e=>by
  have e:(if b=s2.heap.objs.size then _ else _)=some o:=e;split at e
  ·rename_i q;exact .inl ⟨q,(Option.some.inj e).symm⟩
  ·obtain⟨q,hf,e⟩:=Option.map_eq_some_iff.mp e;have qb:q.1=b:=by simpa using List.find?_some hf
   obtain⟨j,hj,eq⟩:=List.mem_iff_getElem.mp (List.mem_of_find?_eq_some hf);rw[List.getElem_zip] at eq;rw[List.length_zip] at hj;refine .inr ⟨j,q.2.1,q.2.2,?_,?_,e.symm⟩
   ·rw[List.getElem?_eq_getElem (by omega),<-qb,<-eq]
   ·rw[List.getElem?_eq_getElem (by omega),<-eq]
 have ez: ∀b o,ex b=some o->s2.heap.objs.size<=b:=λb o e=>by
  rcases cH b o e with⟨q,_⟩|⟨j,k,v,h1,_,_⟩
  ·rw[q];exact Vl _
  ·exact Vo (hi b (Vt h1))
 have I3:Inv X O Z (L2.ovl H1 ex) { s2 with heap:=h',toks:=tk }:=I2.laidF (t':=tk) kp ez λb o e=>by
  rcases cH b o e with⟨q,rfl⟩|⟨j,k,v,h1,h2,rfl⟩
  ·subst q;have va:qav (as.map V.ref) (as.map Value.ref):=by
    clear la G ha pr hi jF fZ cH ez e
    induction as with
    |nil=>exact .nil
    |cons x as ih=>exact .cons rfl ih
   exact⟨by rw[List.length_map,la,<-lv];exact z,as.map Value.ref,c,va,by rw[hS,<-ha]⟩
  ·obtain⟨k',v',key,x,f1,f4,f5,f6⟩:=pr h1;rw[h2] at f1;cases f1;exact⟨by show 2<=sizeLine;decide,[key,x],.cons f4 (.cons f5 .nil),⟨_,f6,rfl,_,rfl⟩⟩
 refine⟨.ref _,_,I3,rfl,w1 ex _ _ (λb o e=>I2.hok.fresh (ez b o e)) (λb ps e=> ?_) jF ⟨by rw[List.length_map,la,lv],λj k v h2=> ?_⟩⟩
 ·rcases cH b _ e with⟨_,q⟩|⟨_,_,_,_,_,q⟩<;>cases q
 ·have hj:j<as.length:=by rw[la,<-lv];exact(List.getElem?_eq_some_iff.mp h2).1
  have h1:as[j]? =some as[j]:=Vw hj;exact⟨as[j],by rw[List.getElem?_map,h1];rfl,fZ h1 h2⟩
end
noncomputable def kT:Key->T
 |.inl i=>.int i
 |.inr s=>.str s
noncomputable def qrM(p:Key×T):T:=.tup [kT p.1,p.2]
theorem qrc(k:Key):Rep K B (kT k) (kV k):=by cases k<;>first|exact qaR|exact qcm
noncomputable def qnE(d:DS0 T):DS0 T:=dSq d λt _ U=>match dkv U t with
 |some kvs=>.ok (.lst (kvs.map qrM)) U
 |none=>.no
section
theorem qkj(hc:X.calm=true)(gs:Gl X "list")(ms:X.mg "list" =none)(ho:PE X o (tE M E da))(aB:attributeBase o "items" X.env (eval o X.env)=eval o X.env)(aA:(apos.endLine==cpos.line)=true):
  PE X (.Call (.Name "list" p1) [.Call (.Attribute o "items" apos) [] [] cpos] [] pos) (tE M E (qnE da)):=PE.weak (qi5 hc gs ms ho aB aA) λZ H Q ⟨ρ,U,B,ev,w⟩=>by
 refine tE.of ev ((Wn.bind w).mono λt af w1 v H1 B1 h1 l1 r1=> ?_);have w1:Wn M E H B (KE M H B Q) (match dkv af t with|some kvs=>.ok (.lst (kvs.map qrM)) af|none=>.no):=w1;cases e:dkv af t with
 |none=>rw[e] at w1;exact w1.elim
 |some kvs=>rw[e] at w1;obtain⟨p,us,rfl,hp,rv⟩:=qfp h1 e r1;refine⟨p,us,rfl,hp,λex l vs hn ht hl its=> ?_⟩;obtain⟨h2,g2⟩:=h1.many hn ht;refine w1 _ _ _ h2 (l1.trans g2) (qbL (show L2.ovl B1.hp ex l=_ by rw[qb1 hl]) (.of_get (by rw[its.1,List.length_map,rv.length]) λi t' v' e1 e2=> ?_));rw[List.getElem?_map] at e1;obtain⟨q,e3,rfl⟩:=Option.map_eq_some_iff.mp e1;obtain⟨v0,e4,r4⟩:=qcA rv e3;obtain⟨b,e5,e6⟩:=its.2 i _ _ e4;rw[e5] at e2;cases e2;exact qcl (show L2.ovl B1.hp ex b=_ by rw[qb1 e6]) (.cons (qrc _) (.cons (r4.mono g2.le) .nil))
end
noncomputable def qqH{α:Type}(d e:DS0 α):DS0 α:=λρ U=>match d ρ U with|.no=>e ρ U|r=>r
noncomputable def qb4:Mu->List T->Option Nv:=λ_ _=>none
inductive Bm where
 |append|extend|insert|pop|clear|reverse|count|index|get|dpop|dclear|setdef
noncomputable def Bm.ty:Bm->String
 |.get|.dpop|.dclear|.setdef=> "dict"
 |_=> "list"
noncomputable def Bm.nm:Bm->Str
 |.append=> "append" | .extend=> "extend" | .insert=> "insert" | .pop=> "pop" | .clear=> "clear" | .reverse=> "reverse" | .count=> "count" | .index=> "index" | .get=> "get" | .dpop=> "pop" | .dclear=> "clear" | .setdef=> "setdefault"
noncomputable def Bm.id:Bm->String
 |.append=> "list.append" | .extend=> "list.extend" | .insert=> "list.insert" | .pop=> "list.pop" | .clear=> "list.clear" | .reverse=> "list.reverse" | .count=> "list.count" | .index=> "list.index" | .get=> "dict.get" | .dpop=> "dict.pop" | .dclear=> "dict.clear" | .setdef=> "dict.setdefault"
noncomputable def Bm.g:Bm->Mu->List T->Option Nv
 |.append=>qf8|.extend=>qb4|.insert=>qb4|.pop=>qvB|.clear=>qjU|.reverse=>qb4|.count=>qb4|.index=>qb4|.get=>qb4|.dpop=>qpt|.dclear=>qb4|.setdef=>qb4
noncomputable def Bm.all:List Bm:=[.append,.extend,.insert,.pop,.clear,.reverse,.count,.index,.get,.dpop,.dclear,.setdef]
noncomputable def dkO(U:Mu):T->Option (List (Key×T))
 |.obj k=>(match U.l[k]? with|some (.dk kvs)=>some kvs|_=>none)
 |_=>none
noncomputable def qfX(U:Mu)(t:T):String:=if(qe3 U t).isSome=true then "list" else if(dkO U t).isSome=true\/(duv U t).isSome=true then "dict" else ""
noncomputable def dBM(ow:Bool)(b:Bm)(bu:DS0 T)(ds:DS0 (List T)):DS0 T:=dSq bu λo ρ U=>if qfX U o=b.ty then(ds ρ U).bind λts μ'=>nvR ow (b.g μ' (o::ts)) μ' else .no
section
theorem qtk(h:PE X e (tE M E da))(h':PE X e (tE M E db)):PE X e (tE M E (qqH da db)):=PE.weak (PE.or h h') λZ H Q ⟨ρ,U,B,ev,w⟩=>by
 unfold qqH at w;cases q:da ρ U with
 |no=>rw[q] at w;exact .inr ⟨ρ,U,B,ev,w⟩
 |ok a m|ex a m=>rw[q] at w;exact .inl ⟨ρ,U,B,ev,by rw[q];exact w⟩
theorem qmI:qau X f (rN M qb4):=λ_ _ _ _ _ _ _ _ _ ⟨_,_,_,_,_,_,e,_⟩=>nomatch e
theorem qeX{i:String}:MtR X i (rM M qb4):=λ_ _ _ _ _ _ _ _ _ _ _ _ ⟨_,_,_,_,_,_,e,_⟩=>nomatch e
theorem qce(b:Bm):PlainAttrs b.ty/\Slot b.ty b.nm b.id/\typeOf (.builtin b.id)=pure (.type "method_descriptor"):=by
 cases b with
 |append=>exact⟨F.plainAttrs_list,F.slot_list_append,F.type_list_append⟩
 |extend=>exact⟨F.plainAttrs_list,F.slot_list_extend,F.type_list_extend⟩
 |insert=>exact⟨F.plainAttrs_list,F.slot_list_insert,F.type_list_insert⟩
 |pop=>exact⟨F.plainAttrs_list,F.slot_list_pop,F.type_list_pop⟩
 |clear=>exact⟨F.plainAttrs_list,F.slot_list_clear,F.type_list_clear⟩
 |reverse=>exact⟨F.plainAttrs_list,F.slot_list_reverse,F.type_list_reverse⟩
 |count=>exact⟨F.plainAttrs_list,F.slot_list_count,F.type_list_count⟩
 |index=>exact⟨F.plainAttrs_list,F.slot_list_index,F.type_list_index⟩
 |get=>exact⟨F.plainAttrs_dict,F.slot_dict_get,F.type_dict_get⟩
 |dpop=>exact⟨F.plainAttrs_dict,F.slot_dict_pop,F.type_dict_pop⟩
 |dclear=>exact⟨F.plainAttrs_dict,F.slot_dict_clear,F.type_dict_clear⟩
 |setdef=>exact⟨F.plainAttrs_dict,F.slot_dict_setdefault,F.type_dict_setdefault⟩
theorem qtC(hu:X.A.units+8<cLine)(hK:X.K=M.K)(b:Bm):MtR X b.id (rM M b.g):=by
 cases b with
 |append=>exact qh2
 |extend|insert=>exact qeX
 |pop=>exact qo0
 |clear=>exact qjn
 |reverse|count|index|get=>exact qeX
 |dpop=>exact qlM
 |dclear|setdef=>exact qeX
theorem qo2{M:Md}(h:Hs M U H B){b:Bm}(e:qfX U t=b.ty)(r:Rep M.K B t v):tyV M.K b.ty v H:=by
 have nl:b.ty≠ "" :=by cases b<;>decide
 unfold qfX at e;split at e
 ·rename_i hs;obtain⟨ts,hs⟩:=Option.isSome_iff_exists.mp hs;obtain⟨p,vs,rfl,_,sq⟩:=qf1 h hs r;exact .inl ⟨e.symm,vs,sq⟩
 ·split at e
  ·rename_i hs
   rcases hs with hs|hs
   ·obtain ⟨p,vs,rfl,hp⟩: ∃p vs,v= .ref p/\H p=some (.dK vs):=by
     unfold dkO at hs;split at hs
     ·split at hs
      ·rename_i el;obtain⟨a,rfl,ea⟩:=qaB r;obtain⟨o,_,ho,us,rfl,_⟩:=h.at el (by simp) ea;simp_all
      ·cases hs
     ·cases hs
    exact .inr (.inr (.inl ⟨e.symm,.inl ⟨_,hp⟩⟩))
   ·obtain⟨ts,hs⟩:=Option.isSome_iff_exists.mp hs;obtain⟨p,vs,rfl,hp,_⟩:=qkb h hs r;exact .inr (.inr (.inl ⟨e.symm,.inr ⟨_,hp⟩⟩))
  grind
theorem qkE{M:Md}{X:Cx}(b:Bm)(hK:X.K=M.K)(cq:Cl Q)(h:tE M E (dBM ow b bu ds) Z H Q):tBM X.K b.ty (rM M b.g) (tE M E bu) (tA M E ds) Z H Q:=by
 obtain⟨ρ,U,B,ev,w⟩:=h;refine tE.of ev ((Wn.bind w).mono λx af w1 v H1 B1 h1 g1 r1=> ?_)
 change Wn M E H B _ (if qfX af x=b.ty then(ds ρ af).bind _ else .no) at w1
 split at w1
 ·rename_i ht;rw[hK];refine⟨qo2 h1 ht r1,ρ,af,B1,ev.on h1 g1.le,(Wn.bind w1).lift g1 λts ai w2 vs H2 B2 h2 g2 r2=> ?_⟩;obtain⟨c,m,q,w2⟩:=Wn.pl w2 (λc m=>qhY c m);obtain⟨n,e,kv⟩:=qhX cq q (KE.le w2 (g1.trans g2));exact⟨ai,B2,x::ts,n,h2,.cons (r1.mono g2.le) r2,e,kv⟩
 ·exact w1.elim
theorem qvY(b:Bm)(hu:X.A.units+8<cLine)(hK:X.K=M.K)(ho:PE X o (tE M E bu))(ha:PA X (e::es) (tA M E ds))(aB:attributeBase o b.nm X.env (eval o X.env)=eval o X.env)(dX:((backTo cpos (starEach (e::es) X.env)).all (λx=> !x.1)&&(backToKw cpos (keywordEach [] X.env)).all (λx=>x.1.isSome)&&decide ((e::es).length+([]:List Keyword).length+(if ([]:List Keyword).isEmpty then 0 else 1)<30))=true)(aA:(apos.endLine==cpos.line)=true)(hs:starEach (e::es) X.env=(false,eval e X.env)::starEach es X.env)(bo:(backTo cpos (starEach es X.env)).any (·.1)=false):
  PE X (.Call (.Attribute o b.nm apos) (e::es) [] cpos) (tE M E (dBM ow b bu ds)):=
 PE.weakF (qoH (qce b).1 (qce b).2.1 (qce b).2.2 (qtC hu hK b) ho ha aB dX aA hs bo) λ_ _ _ cq h=>qkE b hK cq h
theorem qti(b:Bm)(hu:X.A.units+8<cLine)(hK:X.K=M.K)(ho:PE X o (tE M E bu))(aB:attributeBase o b.nm X.env (eval o X.env)=eval o X.env)(aA:(apos.endLine==cpos.line)=true):
  PE X (.Call (.Attribute o b.nm apos) [] [] cpos) (tE M E (dBM ow b bu qqF)):=
 PE.weakF (qrK (qce b).1 (qce b).2.1 (qce b).2.2 (qtC hu hK b) ho aB aA) λZ H Q cq h=>by refine(qkE b hK cq h).imp λv H1 ⟨a,ρ,U,B,ev,w⟩=>⟨a,w [] H1 B ev.hs .refl .nil⟩
theorem qiq:qau X (.type "dict") (λxs H Q=> ∃a kvs,xs=[V.ref a]/\Rd H a (.dK kvs)/\∀p,H p=none->Q (.ref p) (upd H p (.dK kvs))):=by intro O s Z H xs us Q I r h;obtain⟨a,kvs,rfl,ha,q⟩:=h;obtain⟨u,rfl,ru⟩:=qcq r;cases ru;exact qmw I ha λp s' hp I'=>⟨.ref p,_,I',rfl,q p hp⟩
noncomputable def qjT(U:Mu):List T->Option Nv
 |[a]=>(dkv U a).map .d
 |_=>none
theorem qp8:qau X (.type "dict") (rN M qjT):=qau.ok qiq λU H B vs ts n Q h r e k=>by
 unfold qjT at e;split at e
 ·obtain⟨v,rfl,a⟩:=qcL r;obtain⟨kvs,es,rfl⟩:=qaA e;obtain⟨p,us,rfl,hp,rv⟩:=qfp h es a;exact⟨p,us,rfl,hp,λl hl=>k B l us h .refl hl rv⟩
 ·cases e
inductive Bn where
 |len|all|any|sum|max|min|abs|lst|tup|srt|dct|int
noncomputable def Bn.nm:Bn->Str
 |.len=> "len" | .all=> "all" | .any=> "any" | .sum=> "sum" | .max=> "max" | .min=> "min" | .abs=> "abs" | .lst=> "list" | .tup=> "tuple" | .srt=> "sorted" | .dct=> "dict" | .int=> "int"
noncomputable def Bn.g:Bn->Mu->List T->Option Nv
 |.len=>qsF|.all=>qvI|.any=>qb4|.sum=>qb4|.max=>qvF|.min=>qvE|.abs=>qb4|.lst=>qps|.tup=>qjQ|.srt=>qc2|.dct=>gOr qjT qjS|.int=>qb4
noncomputable def Bn.list:List Bn:=[.len,.all,.any,.sum,.max,.min,.abs,.lst,.tup,.srt,.dct,.int]
theorem qqi(b:Bn)(cq:Cl Q)(h:tE M E (dN ow b.g ds) Z H Q):tCB (rN M b.g) (tA M E ds) Z H Q:=by obtain⟨ρ,U,B,ev,w⟩:=h;refine⟨ρ,U,B,ev,(Wn.bind w).mono λts af w1 vs H1 B1 h1 g1 r1=> ?_⟩;obtain⟨c,m,q,w1⟩:=Wn.pl w1 (λc m=>qhY c m);obtain⟨n,e,kv⟩:=qhX cq q (KE.le w1 g1);exact⟨af,B1,ts,n,h1,r1,e,kv⟩
theorem qmV:bootBuiltins "abs" =some (.builtin "abs"):=by decide+kernel
theorem qkC:bootBuiltins "list" =some (.type "list"):=by decide+kernel
theorem qkD:bootBuiltins "dict" =some (.type "dict"):=by decide+kernel
theorem qmT:bootBuiltins "int" =some (.type "int"):=by decide+kernel
theorem qir:bootBuiltins "tuple" =some (.type "tuple"):=by decide+kernel
theorem qmU:bootBuiltins "all" =some (.builtin "all"):=by decide+kernel
theorem qmS:bootBuiltins "max" =some (.builtin "max"):=by decide+kernel
theorem qmR:bootBuiltins "min" =some (.builtin "min"):=by decide+kernel
theorem qvX(b:Bn)(hu:X.A.units+8<cLine)(hc:X.calm=true)(hK:X.K=M.K)(hg:Gl X b.nm)(hm:X.mg b.nm=none)(ha:PA X (e::es) (tA M E ds))(he:starEach (e::es) X.env=(false,eval e X.env)::starEach es X.env)(ay:(backTo pos (starEach es X.env)).any (·.1)=false):
  PE X (.Call (.Name b.nm p) (e::es) [] pos) (tE M E (dN ow b.g ds)):=by
 have hn:b.nm≠ "__name__" :=by cases b<;>decide
 have hd:(b.nm==("__debug__" :Str))=false:=by cases b<;>decide
 refine PE.weakF ?_ λ_ _ _ cq h=>qqi b cq h;cases b with
 |len=>exact qaP (qtz hK) hg hm PySem.boot_len ha hn hd he ay
 |all=>exact qaP (qtA hc hK) hg hm qmU ha hn hd he ay
 |any=>exact qaP qmI hg hm PL.boot_any' ha hn hd he ay
 |sum=>exact qaP qmI hg hm PL.boot_sum' ha hn hd he ay
 |max=>exact qaP (qty hc hK) hg hm qmS ha hn hd he ay
 |min=>exact qaP (qtx hc) hg hm qmR ha hn hd he ay
 |abs=>exact qaP qmI hg hm qmV ha hn hd he ay
 |lst=>exact qbZ (qp7 hK) hg hm qkC ha hn hd he ay
 |tup=>exact qbZ (qmH hK) hg hm qir ha hn hd he ay
 |srt=>exact qaP (qkq hc hK) hg hm SetL.boot_sorted ha hn hd he ay
 |dct=>exact qbZ (qv5 qp8 (qmJ hc)) hg hm qkD ha hn hd he ay
 |int=>exact qbZ qmI hg hm qmT ha hn hd he ay
end
open SR SetL
noncomputable def tyN(U:Mu):T->Option String
 |.non=>some "NoneType" | .bl _=>some "bool" | .int _=>some "int" | .str _=>some "str" | .tup _=>some "tuple" | .lst _=>some "list"
 |.obj k=>(match U.l[k]? with|some (.ls _)=>some "list" | some (.dk _)=>some "dict" | some (.du _)=>some "dict" | _=>none)
 |_=>none
noncomputable def qkW(N m:String):Bool:=m==N||(N== "int" &&m== "bool")
noncomputable def qc3(N:String)(t:T)(U:Mu):R T:=match tyN U t with
 |some m=>.ok (.bl (qkW N m)) U
 |none=>.no
noncomputable def qtn(N:String)(da:DS0 T):DS0 T:=dU (qc3 N) da
theorem qsi(K:W.Frag){N m:String}(hN:N∈["int", "bool", "str", "tuple", "list"])(hm:m∈["NoneType", "bool", "int", "str", "tuple", "list", "dict"]):W.kitOne K (.type m) (.type N)=some (qkW N m):=by
 simp only[List.mem_cons,List.not_mem_nil,or_false] at hN hm
 rcases hN with rfl|rfl|rfl|rfl|rfl<;>rcases hm with rfl|rfl|rfl|rfl|rfl|rfl|rfl<;>rfl
section
theorem qqU(h:Hs M U H B){m:String}(e:tyN U t=some m)(r:Rep M.K B t v):qgB M.K H v (.type m)/\m∈["NoneType", "bool", "int", "str", "tuple", "list", "dict"]:=by
 unfold tyN at e;split at e
 ·cases e;rw[qcN r];exact⟨.non,by simp⟩
 ·cases e;rw[qbJ r];exact⟨.bl _,by simp⟩
 ·cases e;rw[qah r];exact⟨.int _,by simp⟩
 ·cases e;rw[qaF r];exact⟨.str _,by simp⟩
 ·cases e;obtain⟨p,vs,rfl,hp,_⟩:=qax r;exact⟨.tup (h.bh _ _ hp),by simp⟩
 ·cases e;obtain⟨p,vs,rfl,hp,_⟩:=qaz r;exact⟨.lst (h.bh _ _ hp),by simp⟩
 ·obtain⟨p,rfl,ea⟩:=qaB r;split at e
  ·rename_i el;cases e;obtain⟨o,_,ho,vs,rfl,_⟩:=h.at el (by simp) ea;exact⟨.lst ho,by simp⟩
  ·rename_i el;cases e;obtain⟨o,_,ho,vs,rfl,_⟩:=h.at el (by simp) ea;exact⟨.dK ho,by simp⟩
  ·rename_i el;cases e;obtain⟨o,_,ho,vs,rfl,_⟩:=h.at el (by simp) ea;exact⟨.dT ho,by simp⟩
  ·cases e
 ·cases e
theorem qp0{N:String}{x:Str}(hN:N∈["int", "bool", "str", "tuple", "list"])(hx:x=Str.ofString N)(hK:X.K=M.K)(hg:Gl X "isinstance")(hm:X.mg "isinstance" =none)(hg2:Gl X x)(cQ:X.mg x=none)(he:PE X e (tE M E da))(hs:starEach [e,.Name x p2] X.env=(false,eval e X.env)::starEach [.Name x p2] X.env)(dE:starEach [.Name x p2] X.env=(false,eval (.Name x p2) X.env)::starEach [] X.env)(ay:(backTo pos (starEach [.Name x p2] X.env)).any (·.1)=false):
  PE X (.Call (.Name "isinstance" p) [e,.Name x p2] [] pos) (tE M E (qtn N da)):=by
 have bt:bootBuiltins x=some (.type N)/\x≠ "__name__" /\(x==("__debug__" :Str))=false:=by
  subst hx;simp only[List.mem_cons,List.not_mem_nil,or_false] at hN
  rcases hN with rfl|rfl|rfl|rfl|rfl<;>exact⟨by decide+kernel,by decide,by decide⟩
 refine PE.weak (qaP (r:=λxs H Q=> ∃x t T b,xs=[x,.ty T]/\qgB X.K H x t/\W.kitOne X.K t (.type T)=some b/\Q (.bl b) H) qgy hg hm (by decide+kernel) (qaS he (qaS (qi6 (v:=.ty N) hg2 cQ bt.1 rfl bt.2.1 bt.2.2) qbn dE) hs) (by decide) (by decide) hs ay) λZ H Q ⟨ρ,U,B,ev,w⟩=> ?_;refine tE.of ev ((Wn.bind w).mono λt af w1 v H1 B1 h1 g1 r1=> ?_);have w1:Wn M E H B (KE M H B Q) (qc3 N t af):=w1;unfold qc3 at w1;split at w1
 ·rename_i m em;obtain⟨ty,hm⟩:=qqU h1 em r1;rw[hK];exact⟨v,_,N,_,rfl,ty,qsi M.K hN hm,w1 _ H1 B1 h1 g1 qa6⟩
 ·exact w1.elim
noncomputable def qwQ(U:Mu):T->Option Nv:=λt=>(qe3 U t).bind λts=>if ts.length<64 then(match qkJ ts with
 |some ss=>some (.l ((qq5 RH.ltS (dd ss)).map T.str))
 |none=>(qkK ts).map λss=>.l ((qq5 (λa b=>decide (a<b)) (dd ss)).map T.int)) else none
noncomputable def qjR(U:Mu):T->Option Nv:=λt=>(qe3 U t).bind λts=>if ts.length<64 then(match qkJ ts with
 |some ss=>some (.v (.int (dd ss).length))
 |none=>(qkK ts).map λss=>.v (.int (dd ss).length)) else none
noncomputable def dNu(ow:Bool)(g:Mu->T->Option Nv)(da:DS0 T):DS0 T:=dU (λt U=>nvR ow (g U t) U) da
end
noncomputable def qnS(xs ys:List T):List T:=(xs.zip ys).map λp=>.tup [p.1,p.2]
noncomputable def qhH:List T->Mu->R Ito
 |[.lst xs,.lst ys],U=>.ok (.fx (qnS xs ys)) U
 |_,_=>.no
section
theorem qs7(hg:Gl X "zip")(hm:X.mg "zip" =none)(ha:PA X [a,b] (tA M E ds))(hK:X.K=M.K)(hs:starEach [a,b] X.env=(false,eval a X.env)::starEach [b] X.env)(ay:(backTo pos (starEach [b] X.env)).any (·.1)=false):
  PI X (.Tuple elts kk tpos) (.Call (.Name "zip" p) [a,b] [] pos) (tI M E (dIA qhH ds)):=by
 refine PI.weak (PL.pi_zipZ hg hm ha hs ay) λZ H R ⟨ρ,U,B,ev,w⟩=>⟨ρ,U,B,ev,(Wn.bind w).mono λts m w1 vs H1 B1 h1 g1 r1=> ?_⟩
 change Wn M E H B (KI M H B R) (qhH ts m) at w1
 unfold qhH at w1;split at w1
 ·rename_i xs ys;obtain⟨v,v',rfl,a1,a2⟩:=qiQ r1;obtain⟨p1,us,rfl,fJ,ra⟩:=qaz a1;obtain⟨p2,ws,rfl,dG,rb⟩:=qaz a2;have l1:=ra.length;have l2:=rb.length;have lz:(qnS xs ys).length=min us.length ws.length:=by unfold qnS;rw[List.length_map,List.length_zip,l1,l2]
  refine⟨p1,p2,us,ws,rfl,SqL.of (h1.bh _ _ fJ),SqL.of (h1.bh _ _ dG),λz1 z2=> ?_⟩;rw[hK];refine w1 _ H1 B1 h1 g1 (by show(qnS xs ys).length<=_;omega) λμ' H' B' h' le i=>⟨λt et=> ?_,λhl hi=> ?_⟩
  ·have q1:SqL M.K H' p1 us:=SqL.of (h'.bh _ _ (le.h _ _ fJ));have q2:SqL M.K H' p2 ws:=SqL.of (h'.bh _ _ (le.h _ _ dG));have et:=Option.some.inj et;unfold qnS at et;rw[List.getElem?_map] at et;cases q:(xs.zip ys)[i]? with
   |none=>rw[q] at et;cases et
   |some c=>rw[q] at et;cases et;have hi:=(List.getElem?_eq_some_iff.mp q).1;rw[List.length_zip] at hi;obtain⟨c1,c2⟩:=c;obtain⟨qa,qb⟩:=List.getElem?_zip_eq_some.mp q;obtain⟨u,eu,ru⟩:=ra.get qa;obtain⟨w',ew,av⟩:=rb.get qb;refine⟨⟨us,ws,q1,q2,by omega,by omega⟩,λy aW ⟨T',x,y',e1,e2,e3,e4,e5⟩=> ?_⟩;have z1:=e4 us q1;have z2:=e5 ws q2;rw[eu] at z1;cases z1;rw[ew] at z2;cases z2;subst e1 e3;have jb:=le.trans (h'.upd_le (o:=.tup [u,w']) (h'.fr e2));exact⟨_,h'.new e2 (λps z=>by cases z),h'.gnew e2,qcl qaf (.cons (ru.mono jb) (.cons (av.mono jb) .nil))⟩
  ·have hi:=List.getElem?_eq_none_iff.mp (Option.some.inj hi);have hl:=hl _ rfl;exact⟨us,ws,SqL.of (h'.bh _ _ (le.h _ _ fJ)),SqL.of (h'.bh _ _ (le.h _ _ dG)),by omega⟩
 ·exact w1.elim
end
end NV
namespace NV
open PySem L2
noncomputable def qap:Expr->Bool
 |.Starred _ _=>false
 |_=>true
noncomputable def qdw:Expr->Bool
 |.ListComp _ _ _ _=>false
 |.SetComp _ _ _ _=>false
 |.DictComp _ _ _ _ _=>false
 |_=>true
noncomputable def qck:Expr->Bool
 |.Call (.Name _ _) [] [] _=>false
 |_=>true
noncomputable def qbH:Expr->Bool
 |.Set _ _ _=>false
 |_=>true
noncomputable def qjk:Expr->Bool
 |.Slice _ _ _ _=>false
 |_=>true
section
variable{env:Env}{e:Expr}{es:List Expr}{pos:Pos}
theorem qcr(h:qap e=true):starEach (e::es) env=(false,eval e env)::starEach es env:=by cases e<;>first|rfl|cases h
theorem qbq: ∀{es:List Expr},es.all qap=true->(backTo pos (starEach es env)).any (·.1)=false
 |[],_=>rfl
 |e::es,h=>by rw[List.all_cons,Bool.and_eq_true] at h;rw[qcr h.1];show(false||(backTo pos _).any _)=false;rw[qbq h.2];rfl
theorem qgK: ∀{es:List Expr},es.all qap=true->(backTo pos (starEach es env)).all (λx=> !x.1)=true
 |[],_=>rfl
 |e::es,h=>by rw[List.all_cons,Bool.and_eq_true] at h;rw[qcr h.1];show(!false&&(backTo pos _).all _)=true;rw[qgK h.2];rfl
theorem qny(h:es.all qap=true)(hl:es.length<30):((backTo pos (starEach es env)).all (λx=> !x.1)&&(backToKw pos (keywordEach [] env)).all (λx=>x.1.isSome)&&decide (es.length+([]:List Keyword).length+(if([]:List Keyword).isEmpty then 0 else 1)<30))=true:=by rw[qgK h];show(true&&true&&decide _)=true;simp[hl]
theorem qdd{m:Str}(h:qck o=true):attributeBase o m env w=w:=by
 unfold attributeBase;split
 ·cases h
 ·rfl
theorem qqp(h:qap e=true):(assignEach (e::es) env).map (·.2)=assign e env::(assignEach es env).map (·.2):=by cases e<;>first|rfl|cases h
theorem qdN: ∀{es:List Expr},(assignEach es env).length=es.length
 |[]=>rfl
 |e::es=>by cases e<;>(show _+1=_;rw[qdN];rfl)
theorem qfF: ∀{es:List Expr},es.all qap=true->(assignEach es env).findIdx? (·.1)=none
 |[],_=>rfl
 |e::es,h=>by
  rw[List.all_cons,Bool.and_eq_true] at h;have ih:=qfF h.2;have e1:assignEach (e::es) env=(false,assign e env)::assignEach es env:=by have h1:=h.1;cases e<;>first|rfl|cases h1
  grind
theorem qcz(h:qdw e=true):swapsWith e t l env=pure false:=by cases e<;>first|rfl|cases h
theorem qgI(h: ∀x p,t≠.Name x p):swapsWith e (some t) l env=pure false:=by cases e<;>first|rfl|(cases t<;>first|rfl|simp_all)
theorem qg6(h:qbH e=true):behindInMarks op e=false:=by cases e<;>first|rfl|cases h
theorem qdv(h:qbH c=true):lastMarks [o,p] [b,c]=false:=by cases c<;>first|rfl|cases h
theorem qd5(h:qbH e=true)(x:Value):foldedSetIterable e env x=pure x:=by cases e<;>first|rfl|cases h
theorem qh0(h:qjk e=true):qkO e:=λo i=>by cases e<;>first|rfl|cases h
end
theorem qhG{ns:List Str}(hl:us.length=ns.length)(nd:ns.Nodup):(∀n∈ns,((ns.zip us).lookup n).isNone=false)/\ns.filterMap (λn=>((ns.zip us).lookup n).map (n, ·))=ns.zip us:=by
 induction ns generalizing us with
 |nil=>simp
 |cons x ns ih=>
  cases us with
  |nil=>cases hl
  |cons u us=>
   obtain⟨nx,nd⟩:=List.nodup_cons.mp nd;obtain⟨h1,h2⟩:=ih (us:=us) (by simpa using hl) nd;have ne: ∀n∈ns,(n==x)=false:=λn hn=>by
    grind
   refine⟨λn hn=> ?_,?_⟩
   ·rw[List.zip_cons_cons,List.lookup_cons]
    rcases List.mem_cons.mp hn with rfl|hn
    ·simp
    ·rw[ne n hn];exact h1 n hn
   ·rw[List.zip_cons_cons,List.filterMap_cons,List.lookup_cons];simp only[beq_self_eq_true,Option.map_some]
    congr 1
    refine Eq.trans ?_ h2;have go: ∀l:List Str,(∀n∈l,(n==x)=false)->l.filterMap (λn=>(((x,u)::ns.zip us).lookup n).map (n, ·))=l.filterMap (λn=>((ns.zip us).lookup n).map (n, ·)):=λl=>by
     induction l with
     |nil=>exactλ_=>rfl
     |cons y l ihl=>intro h;rw[List.filterMap_cons,List.filterMap_cons,ihl (λn hn=>h n (List.mem_cons_of_mem _ hn)),List.lookup_cons,h y List.mem_cons_self]
    exact go ns ne
theorem qbU(h1:fd.params.posonlyargs=[])(h2:fd.params.vararg=none)(h3:fd.params.kwonlyargs=[])(h4:fd.params.kwarg=none)(h5:fd.defaults= .none)(nd:(fd.params.args.map (·.arg)).Nodup)(hl:us.length=(fd.params.args.map (·.arg)).length):
  bindArgs fd ⟨us,[]⟩=pure ((fd.params.args.map (·.arg)).zip us):=by
 obtain⟨z1,z2⟩:=qhG hl nd;have e1:seqItems? Value.none=pure none:=rfl;unfold bindArgs;simp only[h1,h2,h3,h4,h5,e1,List.map_nil,List.nil_append,List.forIn_nil,pure_bind,List.append_nil,Option.isNone_none,Bool.and_true,Option.getD_none];have hm:(List.filter (λn=>(List.lookup n ((List.map (λx=>x.arg) fd.params.args).zip us)).isNone) (List.map (λx=>x.arg) fd.params.args))=[]:=by
  simp_all
 rw[if_neg (by simp only[decide_eq_true_eq];omega)];simp only[List.drop_nil,List.length_nil,Nat.sub_zero,List.take_length,hm,List.isEmpty_nil,Bool.not_true,List.zip_nil_right,List.forIn_nil,pure_bind,z2];rfl
open SR SetL
inductive KB where
 |one (i:Nat)|parts (l:List (Bool×Nat))
noncomputable def qu0(us:List T)(p:Bool×Nat):Option T:=(us[p.2]?).bind λt=>if p.1=true then(match t with|.int n=>some (.int (-n))|_=>none) else some t
noncomputable def qwL:KB->T->Option T
 |.one i,.tup us=>us[i]?
 |.parts l,.tup us=>(l.mapM (qu0 us)).map .tup
 |_,_=>none
noncomputable def qnu(b:KB)(U:Mu)(t:T):Option Nv:=(qe3 U t).bind λts=>(ts.mapM (qwL b)).bind λks=>if ts.length<64/\qbB ks=true then some (.l (PL.sortBy (λt=>qkU ((qwL b t).getD .non)) ts)) else none
noncomputable def quq(x:Str):Expr->Option Nat
 |.Subscript (.Name y _) (.Constant (.int i) _ _) _=>if y=x/\0<=i then some i.toNat else none
 |_=>none
noncomputable def quZ(x:Str):Expr->Option (Bool×Nat)
 |.UnaryOp .USub e _=>(quq x e).map λi=>(true,i)
 |e=>(quq x e).map λi=>(false,i)
noncomputable def qwM(x:Str):Expr->Option KB
 |.Tuple es _ _=>if es.length<=100 then(es.mapM (quZ x)).map .parts else none
 |e=>(quq x e).map .one
theorem Hs.sameT(h:Hs M U H B)(hP:H P=some (.tbl ps))(same:qfH P H H2)(ne: ∀b,H b≠none->H2 b≠none)(g:M.G.P H2):Hs M U H2 B/\Go H B H2 B:=by
 have nP: ∀a o,B a=some o->a≠P:=λa o e z=>by subst z;have:=h.bh _ _ e;rw[hP] at this;cases this;exact h.bt _ _ e
 refine⟨⟨λa o e=>same a o (h.bh a o e) (nP a o e),h.bt,g,λk c e n=> ?_,h.ij,λk a e=>⟨(h.dm k a e).1,ne a (h.dm k a e).2⟩,h.lk,h.ln⟩,⟨.refl _,λa o e _ t=>same a o e (λz=>by grind),λ_ _ e=>.inl e,ne,λ_ _ _ _ _ _=>rfl⟩⟩;obtain⟨a,o,e1,e2,e3,e4⟩:=h.st k c e n;refine⟨a,o,e1,e2,same a o e3 (λz=> ?_),e4⟩;rw[z,hP] at e3;cases e3
 rcases e4.mb n with⟨_,e⟩|⟨_,e⟩|⟨_,e⟩|⟨_,_,_,e⟩<;>cases e
structure Lm(M:Md)(X:Cx)(c P:Addr)(qual:Str):Prop where
 cd:X.env.code= .ref c
 hd:W.CodeHd X.base c P
 bm:qfI X.mg X.base
 q:X.env.qual++("<lambda>" :Str)=qual
 t: ∀H,M.G.P H->qgC P qual H
 t': ∀H H2,M.G.P H->qfH P H H2->(∀b,H b≠none->H2 b≠none)->qgC P qual H2->M.G.P H2
end NV
namespace NV
open PySem L2
noncomputable def qgi(wd:Str->Option Str)(fr:List Nat)(d:DS0 T):DS0 T:=λρ U=>match d (qaQ 0 fr ρ) U with
 |.ok t m=>.ok t m
 |.ex c m=>(match wd c with|some x=>.ok (.str x) m|none=>.no)
 |.no=>.no
structure Td(z:Str)(M:Md)(P:Program)(w:World)(mg:Str->Option Value)(base:Heap)(wd:Str->Option Str)(st:Stmt)(fT fC CA:Addr)(fdT fdC:FuncData)(bmA:List Value)(wa:Addr->Option Str):Prop where
 tx:qkN z st
 f:Fun M.K "_law_told" "_law_told" st fT fdT
 nz:(z==("__debug__" :Str))=false/\(z==("__classdict__" :Str))=false
 m:mg "_law_told" =some (.ref fT)
 b:qaY M.K fdT [z] []
 a:mg "AskError" =some (.ref CA)
 e:qdi base CA bmA
 g:FnN P w M.K mg base 1 fC fdC ["_law_kept"] (qhP base wa)
 mc:mg "_law_class" =some (.ref fC)
 kc:W.keepIn M.K (.ref fC)=true
 bc:qaY M.K fdC ["_law_kept"] []
 wd: ∀c x,wd c=some x->∃bm,qdi base (clA M.K c) bm/\(Value.ref (clA M.K c)::bm).contains (.ref CA)=true/\wa (clA M.K c)=some x
section
variable{qual:Str}
theorem qpW{M:Md}{X:Cx}{scope:Scope}{p:Pos}{fr:List (Str×Nat)}(hK:X.K=M.K){z:Str}(D:Td z M X.prog X.w X.mg X.base wd st fT fC CA fdT fdC bmA wa)(iz:Gl X "_law_told")(L:Lm M X c P qual)(hd:defaultsOf params X.env=([],[]))(dW: ∀x,X.fn x=true)(hk:scope.kind= .function)(fS:scope.isCoroutine=false)(b7:scope.isGenerator=false)(ah: ∀y∈scope.names,y.2≠.cell)(ag: ∀y∈scope.names,y.2= .free->X.env.kindOf y.1=some .cell\/X.env.kindOf y.1=some .free)(aR: ∀p∈fr,X.N[p.2]? =some p.1/\scope.names.lookup p.1=some .free)(hb: ∀(ar:List (Str×Addr))(pm cv aD:Value),bindArgs (W.kla_fn "<lambda>" qual params body scope ar pm cv aD) ⟨[],[]⟩=pure [])(hr:qa7 (k+3) X.A)(aq: ∀(A:Around)(outer:List Env)(s:Shared)(H:Hp)(f c':Addr)(E:XK),qa7 k (A.deeper (qb2 scope s.heap.objs.size (clOf X.env scope.names []) qual f c'))->
   PE (qgj X.prog X.w X.K X.mg X.base (fr.map (·.1)) (qb2 scope s.heap.objs.size (clOf X.env scope.names []) qual f c') A outer s H E) body (tE M E d)):
  PE X (.Call (.Name "_law_told" p) [.Lambda params body scope bX] [] pos) (tE M E (qgi wd (fr.map (·.2)) d)):=by
 refine PE.weak (qoB (t:=λE=>tE M E d) D.tx (by rw[hK];exact D.f) D.m (by rw[hK];exact D.b) iz D.a D.e (by rw[hK];exact D.g) D.mc (by rw[hK];exact D.kc) (by rw[hK];exact D.bc) (qoE L.cd L.hd L.bm ag hd L.q) dW hk fS b7 ah ag aR hb hr aq
  (λE E' Z H Q f ⟨ρ,U,B,ev,w⟩=>⟨ρ,U,B,ev,w.imp f⟩) rfl D.nz) λZ H Q ⟨ρ,U,B,ev,w⟩=> ?_
 have tab:=L.t _ ev.hs.gm;obtain⟨ps,hP,_⟩:=id tab;refine⟨tab,λf c' aD H' tq same dm hf0 hf hc=> ?_⟩;obtain⟨h2,l2⟩:=ev.hs.sameT hP same dm (L.t' _ _ ev.hs.gm same dm tq);have ev2:=qj9 (own:=[]) (fr:=fr) (ev.on h2 l2.le);refine⟨_,U,B,ev2,?_⟩;show Wn M _ H' B _ (d (qaQ 0 (fr.map (·.2)) ρ) U);unfold qgi at w;cases q:d (qaQ 0 (fr.map (·.2)) ρ) U with
 |no=>rw[q] at w;exact w
 |ok t m=>rw[q] at w;exact KE.le w l2
 |ex c0 m=>
  rw[q] at w;intro H3 B3 h3 g3;dsimp only at w;cases q2:wd c0 with
  |none=>rw[q2] at w;exact w.elim
  |some x=>rw[q2] at w;obtain⟨bm,b1,b2,b3⟩:=D.wd c0 x q2;exact⟨_,bm,x,rfl,b1,b2,b3,λH4 s4=>w (.str x) H4 B3 (h3.more s4) ((l2.trans g3).trans (Go.more s4)) qcm⟩
end
open PL (luS TopT)
noncomputable def qgG(neg:Bool)(tbl:List (Str×Str)):T->Mu->R T
 |.str z,U=>.ok (.bl (if neg=true then !(luS tbl z).isSome else(luS tbl z).isSome)) U
 |_,_=>.no
noncomputable def qn2(tbl:List (Str×Str)):T->Mu->R T
 |.str z,U=>(match luS tbl z with|some g=>.ok (.fn g) U|none=>.no)
 |_,_=>.no
noncomputable def qtr(Fn:Str->Option (List T->Mu->R T))(i:Nat)(ds:DS0 (List T)):DS0 T:=λρ U=>match ρ[i]? with
 |some (some (.fn g))=>(match Fn g with|some f=>qej f ds ρ U|none=>.no)
 |_=>.no
section
variable{M:Md}{E:XK}{X:Cx}{e a k value:Expr}{es:List Expr}{pos p dp:Pos}{i n:Nat}{x D:Str}{da:DS0 T}{ds:DS0 (List T)}{tbl:List (Str×Str)}
theorem qeU{a:Addr}{es:Array DictEntry}{n:Nat}(hl:X.K.lookup a=some ⟨.type "dict",none,.dict es n, #[]⟩)(hk:W.KeysLit X.w.params es.toList)(lo:(a==sysModules)=false)(hz: ∀z,match luS tbl z with | none=>findBy Value.isStrOf es z=none | some g=> ∃f,findBy Value.isStrOf es z=some (.ref f)/\W.nsIn X.K mainGlobals g=some (some (.ref f))):
  OpR X (compareOp .NotIn) (λx y H Q=> ∃z,x= .str z/\y= .ref a/\Q (.bl (!(luS tbl z).isSome)) H):=by
 intro O s Z H x y v u Q I rx ry q;obtain⟨z,rfl,rfl,q⟩:=q;obtain⟨t,rfl⟩:=rx;cases ry;refine PySem.wpAny_notIn_of (PySem.strKind_is _ X.w z t) lo (W.mapOf_K I.kIn hl hk) ?_;have:(findBy Value.isStrOf es z).isSome=(luS tbl z).isSome:=by
  have:=hz z;split at this
  ·simp_all
  ·rename_i g e;obtain⟨f,h1,_⟩:=this;rw[h1,e];rfl
 rw[this];exact⟨.bl _,H,I.tok _,rfl,q⟩
theorem qbA{neg:Bool}{ad:Addr}{Z:St}{H:Hp}{Q:VK}(h:tE M E (dU (qgG neg tbl) da) Z H Q):tE M E da Z H λx H1=> ∃z,x= .str z/\Q (.bl (if neg=true then !(luS tbl z).isSome else(luS tbl z).isSome)) H1:=by
 obtain⟨ρ,U,B,ev,w⟩:=h;refine tE.of ev ((Wn.bind w).mono λt af w1 v H1 B1 h1 g1 r1=> ?_);cases t with
 |str z=>exact⟨z,qaF r1,w1 _ H1 B1 h1 g1 qa6⟩
 |_=>exact w1.elim
theorem qmr(T0:TopT X.K X.mg X.w D tbl)(hg:Gl X D)(ha:PE X e (tE M E da))(hd:(D==("__debug__" :Str))=false)(neg:Bool):PE X (.Compare e [if neg=true then .NotIn else .In] [.Name D dp] pos) (tE M E (dU (qgG neg tbl) da)):=by
 obtain⟨ad,es,n,mD,hl,hk,lo,hz⟩:=T0;cases neg with
 |false=>refine PE.weak (qfS (PL.op_topin hl hk lo hz) ha (qb9 hg mD (v:=.ref ad) rfl hd) rfl) λZ H Q hq=> ?_;obtain⟨ρ,U,B,ev,w⟩:=qbA (ad:=ad) hq;exact⟨ρ,U,B,ev,w.mono λt af w1 v H1 B1 h1 g1 r1=>let ⟨z,e1,q⟩:=w1 v H1 B1 h1 g1 r1;⟨z,e1,rfl,q⟩⟩
 |true=>refine PE.weak (qfS (qeU hl hk lo hz) ha (qb9 hg mD (v:=.ref ad) rfl hd) rfl) λZ H Q hq=> ?_;obtain⟨ρ,U,B,ev,w⟩:=qbA (ad:=ad) hq;exact⟨ρ,U,B,ev,w.mono λt af w1 v H1 B1 h1 g1 r1=>let ⟨z,e1,q⟩:=w1 v H1 B1 h1 g1 r1;⟨z,e1,rfl,q⟩⟩
theorem qmk(T0:TopT X.K X.mg X.w D tbl)(hg:Gl X D)(ha:PE X e (tE M E da))(hd:(D==("__debug__" :Str))=false)(neg:Bool):PT X (.Compare e [if neg=true then .NotIn else .In] [.Name D dp] pos) (tT M E (dTB (dU (qgG neg tbl) da))):=by
 obtain⟨ad,es,n,mD,hl,hk,lo,hz⟩:=T0;cases neg with
 |false=>refine PT.weak (qdZ (PL.op_topin hl hk lo hz) ha (qb9 hg mD (v:=.ref ad) rfl hd) rfl) λZ H Q hq=> ?_;obtain⟨ρ,U,B,ev,w⟩:=qbA (ad:=ad) (qcH hq);exact⟨ρ,U,B,ev,w.mono λt af w1 v H1 B1 h1 g1 r1=>let ⟨z,e1,q⟩:=w1 v H1 B1 h1 g1 r1;⟨z,e1,rfl,q⟩⟩
 |true=>refine PT.weak (qdZ (qeU hl hk lo hz) ha (qb9 hg mD (v:=.ref ad) rfl hd) rfl) λZ H Q hq=> ?_;obtain⟨ρ,U,B,ev,w⟩:=qbA (ad:=ad) (qcH hq);exact⟨ρ,U,B,ev,w.mono λt af w1 v H1 B1 h1 g1 r1=>let ⟨z,e1,q⟩:=w1 v H1 B1 h1 g1 r1;⟨z,e1,rfl,q⟩⟩
end
end NV
namespace NV
open PySem L2
inductive O2 where
 |add|sub|mul|div|mod|pow|lt|le|gt|ge|eq|ne|is|isn|in_|nin|ix
noncomputable def O2.g:O2->Mu->T->T->Option Nv
 |.add=>qsG|.sub=>gSub|.mul=>qvC|.div=>qvG|.mod=>qvD|.pow=>qxZ|.lt=>gLt|.le=>gLe|.gt=>gGt|.ge=>gGe
 |.eq=>qkX false|.ne=>qkX true|.is=>gIs false|.isn=>gIs true|.in_=>gIn false|.nin=>gIn true|.ix=>gIx
inductive CG where
 |no|n (i:Nat)|tup (gs:List CG)
inductive Iw where
 |rng1|rng2|enum|zip
mutual
inductive CE where
 |no|v (i:Nat)|c (t:T)|tup (es:List CE)|lst (ow:Bool) (es:List CE)|dct (ow:Bool)
 |o2 (ow:Bool) (o:O2) (a b:CE)|neg (a:CE)|nt (a:CE)|and (a b:CE)|or (a b:CE)|ife (t a b:CE)|chain (o p:O2) (a b c:CE)
 |bn (ow:Bool) (b:Bn) (es:List CE)|bm (ow:Bool) (b:Bm) (o:CE) (es:List CE)|alt (a b:CE)|inst (N:String) (a:CE)|sset (ow:Bool) (a:CE)|slen (a:CE)|litems (a:CE)
 |sl (ow:Bool) (a:CE) (lo hi:Option CE)|sl3 (ow:Bool) (a:CE) (lo hi:Option CE) (st:CE)
 |call (i:Nat) (es:List CE)|make (c:Str) (i:Nat) (es:List CE)|mth (ms:List (Str×Nat)) (m:Str) (o:CE) (es:List CE)|fld (cs:List Str) (f:Str) (o:CE)
 |srtK (ow:Bool) (b:KB) (a:CE)|told (wd:List (Str×Str)) (fr:List Nat) (e:CE)
 |topin (neg:Bool) (tbl:List (Str×Str)) (a:CE)|topget (tbl:List (Str×Str)) (a:CE)|callv (fi:List (Str×Nat)) (i:Nat) (es:List CE)
 |comp (ow x:Bool) (n:Nat) (fr:List Nat) (g:CG) (it:CI) (t:Option CE) (e:CE)
inductive CI where
 |no|gen (e:CE)|by_ (w:Iw) (es:List CE)
end
inductive CS where
 |no|nx|ret (e:CE)|set (i:Nat) (e:CE)|asg (g:CG) (e:CE)|par (is:List Nat) (es:List CE)|fld (cs:List Str) (f:Str) (o e:CE)|put (o i e:CE)|exp (e:CE)|ife (t:CE) (a b:List CS)|for_ (g:CG) (it:CI) (b:List CS)
 |brk|cnt|raise (c:Str)|try_ (cl:List Str) (n:Nat) (nm:Option Nat) (b h:List CS)|frz (i:Nat) (s:CS)
noncomputable def Iw.g:Iw->List T->Mu->R Ito
 |.rng1=>qch|.rng2=>qrf|.enum=>qsS|.zip=>qhH
abbrev Fs:=Nat->List T->Mu->R T
mutual
noncomputable def runG:CG->T->DS0 Ro
 |.no=>λ_=>dNo
 |.n i=>gN i
 |.tup gs=>gT gs.length (runGs gs)
noncomputable def runGs:List CG->List T->DS0 Ro
 |[]=>gsN
 |g::gs=>gsC (runG g) (runGs gs)
end
noncomputable def qnF(o p:O2)(da db dc:DS0 T):DS0 T:=dSq da λx=>dSq db λy ρ U=>(nvR false (o.g U x y) U).bind λz μ'=>(tbO z μ').bind λk μ'=>if k=true then(dc ρ μ').bind λw eX=>nvR false (p.g eX y w) eX else .ok (.bl false) μ'
noncomputable def qik(ow:Bool)(d:DS0 Ct):DS0 T:=if ow=true then dOw d else dFz d
noncomputable def qsE:T->Mu->R T
 |.int i,U=>.ok (.int (-i)) U
 |_,_=>.no
mutual
noncomputable def qac(F:Fs):CE->DS0 T
 |.no=>dNo
 |.v i=>dV i
 |.c t=>dC t
 |.tup es=>qwV (runA F es)
 |.lst ow es=>qik ow (qwY (runA F es))
 |.dct ow=>qik ow λ_ U=>.ok (.dk []) U
 |.o2 ow o a b=>dB (λx y U=>nvR ow (o.g U x y) U) (qac F a) (qac F b)
 |.neg a=>dU qsE (qac F a)
 |.nt a=>qmy (qac F a)
 |.and a b=>qmA (qac F a) (qac F b)
 |.or a b=>qt4 (qac F a) (qac F b)
 |.ife t a b=>qim (dTB (qac F t)) (qac F a) (qac F b)
 |.chain o p a b c=>qnF o p (qac F a) (qac F b) (qac F c)
 |.bn ow b es=>dN ow b.g (runA F es)
 |.bm ow b o es=>dBM ow b (qac F o) (runA F es)
 |.alt a b=>qqH (qac F a) (qac F b)
 |.inst N a=>qtn N (qac F a)
 |.sset ow a=>dNu ow qwQ (qac F a)
 |.litems a=>qnE (qac F a)
 |.slen a=>dNu false qjR (qac F a)
 |.sl ow a lo hi=>dSl ow (qac F a) (runO F lo) (runO F hi)
 |.sl3 ow a lo hi st=>qx4 ow (qac F a) (runO F lo) (runO F hi) (dOS (qac F st))
 |.call i es=>qej (F i) (runA F es)
 |.make c i es=>qej (mkR c (F i)) (runA F es)
 |.mth ms m o es=>qil (λc=>(ms.lookup c).map F) m (qac F o) (runA F es)
 |.fld cs f o=>dU (qnx (λc _=>cs.contains c) f) (qac F o)
 |.srtK ow b a=>dNu ow (qnu b) (qac F a)
 |.told wd fr e=>qgi (λc=>wd.lookup c) fr (qac F e)
 |.topin neg tbl a=>dU (qgG neg tbl) (qac F a)
 |.topget tbl a=>dU (qn2 tbl) (qac F a)
 |.callv fi i es=>qtr (λg=>(fi.lookup g).map F) i (runA F es)
 |.comp ow x n fr g it t e=>qik ow (qcw x n fr (runI F it) (runG g) (runT F t) (qac F e))
noncomputable def runA(F:Fs):List CE->DS0 (List T)
 |[]=>qqF
 |e::es=>qtq (qac F e) (runA F es)
noncomputable def runO(F:Fs):Option CE->DS0 (Option Int)
 |none=>dON
 |some e=>dOS (qac F e)
noncomputable def runT(F:Fs):Option CE->DS0 Bool
 |none=>qwU
 |some e=>dTB (qac F e)
noncomputable def runI(F:Fs):CI->DS0 Ito
 |.no=>dNo
 |.gen e=>dIt (qac F e)
 |.by_ w es=>dIA w.g (runA F es)
end
noncomputable def qb8:List Nat->List T->Ro->Option Ro
 |[],[],ρ=>some ρ
 |i::is,t::ts,ρ=>qb8 is ts (ρ.set i (some t))
 |_,_,_=>none
noncomputable def qx5(is:List Nat)(ds:DS0 (List T)):DS0 Out:=dSq ds λts ρ U=>match qb8 is ts ρ with|some ρ'=>.ok (.nx ρ') U|none=>.no
mutual
noncomputable def qaG(F:Fs):CS->DS0 Out
 |.no=>dNo
 |.nx=>qmz
 |.ret e=>qv3 (qac F e)
 |.set i e=>qmx i (qac F e)
 |.asg g e=>qw1 (runG g) (qac F e)
 |.par is es=>qx5 is (runA F es)
 |.fld cs f o e=>qto (λc _=>cs.contains c) f (qac F o) (qac F e)
 |.put o i e=>qwW (qac F o) (qac F i) (qac F e)
 |.exp e=>qtp (qac F e)
 |.ife t a b=>qim (dTB (qac F t)) (runSs F a) (runSs F b)
 |.for_ g it b=>qw0 (runI F it) (runG g) (runSs F b)
 |.brk=>λρ U=>.ok (.bk ρ) U
 |.cnt=>λρ U=>.ok (.ct ρ) U
 |.raise c=>qnD c
 |.try_ cl n nm b h=>qx3 (λc=>cl.contains c) n nm (runSs F b) (runSs F h)
 |.frz i s=>qwZ i (qaG F s)
noncomputable def runSs(F:Fs):List CS->DS0 Out
 |[]=>qmz
 |s::ss=>qv2 (qaG F s) (runSs F ss)
end
structure Gx where
 fs:List (Str×Stmt)
 cs:List (Str×T)
 ex:List (Str×List Str)
 cl:List (Str×List Str)
 ow:List (Nat×Nat)
 fz:List (Nat×Str)
 xc:List (Nat×Nat)
 kp:List Str
 lm:List Str
 wd:List (Str×Str)
 dt:List (Str×List (Str×Str)):=[]
structure Cc where
 N:List Str
 sc:Scope
 calm:Bool
 top:Bool
 cf:Bool
 lam:Bool
noncomputable def qcF:List Str:=["len", "all", "any", "sum", "max", "min", "abs", "list", "tuple", "sorted", "set", "isinstance", "range", "enumerate", "zip", "int", "bool", "str", "dict"]
noncomputable def qkV(N:List Str)(x:Str):Option Nat:=N.findIdx? λy=>decide (y=x)
noncomputable def qig(C:Cc)(x:Str):Bool:=decide (C.sc.names.lookup x=some .globalImplicit)&&x != "__debug__"
noncomputable def qcZ(C:Cc)(x:Str):Bool:=qig C x&&qcF.contains x
noncomputable def qlZ(sc:Scope)(x:Str):Bool:=match sc.names.lookup x with|some .local=>true|some .cell=>true|some .free=>true|_=>false
noncomputable def qpj(sc:Scope)(x:Str):Bool:=match sc.names.lookup x with|some .local=>true|some .cell=>true|_=>false
noncomputable def qqD(C:Cc)(x:Str):Bool:=match C.sc.names.lookup x with|some .local=>true|some .cell=>C.cf|_=>false
noncomputable def Gx.fi(g:Gx)(x:Str):Option Nat:=qkV (g.fs.map (·.1)) x
noncomputable def qaU(c m:Str):Str:=c++("." :Str)++m
noncomputable def Gx.ms(g:Gx)(m:Str):List (Str×Nat):=g.cl.filterMap λc=>(g.fi (qaU c.1 m)).map λi=>(c.1,i)
noncomputable def Gx.fls(g:Gx)(f:Str):List Str:=(g.cl.filter λc=>c.2.contains f).map (·.1)
noncomputable def Gx.own(g:Gx)(p:Pos):Bool:=g.ow.contains (p.line,p.col)
noncomputable def qqf(g:Gx)(C:Cc)(x:Str):CE:=
 if x== "__debug__" ||x== "__classdict__" then .no else
 if qlZ C.sc x then(match qkV C.N x with|some i=>.v i|none=>.no) else
 if qig C x then(match g.cs.lookup x with|some t=>.c t|none=>.no) else .no
noncomputable def qvf:Operator->Option O2
 |.Add=>some .add|.Sub=>some .sub|.Mult=>some .mul|.FloorDiv=>some .div|.Mod=>some .mod|_=>none
noncomputable def qnK:CmpOp->O2
 |.Lt=>.lt|.LtE=>.le|.Gt=>.gt|.GtE=>.ge|.Eq=>.eq|.NotEq=>.ne|.Is=>.is|.IsNot=>.isn|.In=>.in_|.NotIn=>.nin
noncomputable def qqI(x:Str):Option Bn:=Bn.list.find? λb=>b.nm==x
noncomputable def qqj(x:Str)(ty:String):Option Bm:=Bm.all.find? λb=>b.nm==x&&b.ty==ty
noncomputable def qwm(x:Str):Option String:=["int", "bool", "str", "tuple", "list"].find? λN=>Str.ofString N==x
noncomputable def qhE:List CE->CE
 |[]=>.no
 |[a]=>a
 |a::b::r=>.and a (qhE (b::r))
noncomputable def qlD:List CE->CE
 |[]=>.no
 |[a]=>a
 |a::b::r=>.or a (qlD (b::r))
noncomputable def cG(C:Cc):Nat->Expr->CG
 |0,_=>.no
 |n+1,e=>match e with
  |.Name x _=>if qqD C x then(match qkV C.N x with|some i=>.n i|none=>.no) else .no
  |.Tuple ts _ _=>if C.calm&&ts.all qap then .tup (ts.map (cG C n)) else .no
  |_=>.no
noncomputable def qtT(C:Cc)(sc:Scope):Scope:={ sc with names:=sc.names.map λ(n,k)=>if(k==NameKind.free&&C.sc.kind== .function&&C.sc.names.lookup n==some .cell) then(n,NameKind.cell) else(n,k) }
noncomputable def qai(C:Cc)(sc:Scope):Cc×List (Str×Nat):=
 let own:=(sc.names.filter λy=>decide (y.2= .local)&&y.1 != (".0" :Str)).map (·.1);let fr:=sc.names.filterMap λy=>if y.2= .free then(qkV C.N y.1).map λi=>(y.1,i) else none
 (⟨own++fr.map (·.1),qtT C sc,C.calm,false,false,C.lam⟩,fr)
noncomputable def qhs(C:Cc)(sc:Scope):Bool:=
 decide (sc.kind= .function)&&sc.names.all (λy=>decide (y.2≠.cell))&&sc.names.all (λy=>decide (y.2≠.local)||decide (sc.names.lookup y.1=some .local))
  &&sc.names.all (λy=>decide (y.2≠.free)||(decide (C.sc.names.lookup y.1=some .cell)||decide (C.sc.names.lookup y.1=some .free))&&decide (sc.names.lookup y.1=some .free))
  &&decide ((qai C sc).1.N.Nodup)
noncomputable def qjv(C:Cc)(sc:Scope):List (Str×Nat):=sc.names.filterMap λy=>if y.2= .free then(qkV C.N y.1).map λi=>(y.1,i) else none
noncomputable def qlV(C:Cc)(sc:Scope):Cc:=⟨(qjv C sc).map (·.1),sc,true,false,false,false⟩
noncomputable def qa8(a:Arguments):Bool:=decide (a.posonlyargs.length=0)&&a.vararg.isNone&&decide (a.kwonlyargs.length=0)&&decide (a.kw_defaults.length=0)&&a.kwarg.isNone&&decide (a.defaults.length=0)
noncomputable def qlU(C:Cc)(a:Arguments)(sc:Scope):Bool:=qa8 a&&decide (sc.kind= .function)&& !sc.isCoroutine&& !sc.isGenerator&&sc.names.all (λy=>decide (y.2≠.cell))&&C.lam&&C.calm
noncomputable def qiF(C:Cc)(a:Arguments)(sc:Scope):Bool:=qlU C a sc&&decide (a.args.length=0)&&C.cf&&decide ((qlV C sc).N.Nodup)
 &&sc.names.all (λy=>decide (y.2≠.free)||(decide (C.sc.names.lookup y.1=some .cell)||decide (C.sc.names.lookup y.1=some .free))&&decide (sc.names.lookup y.1=some .free))
noncomputable def qjz(C:Cc)(a:Arguments)(sc:Scope):Option Str:=match a.args with
 |[x]=>if qlU C a sc&&decide (sc.names.lookup x.arg=some .local)&&sc.names.all (λy=>decide (y.2≠.free))&&x.arg != "__debug__" then some x.arg else none
 |_=>none
noncomputable def qn1(g:Gx)(C:Cc):Expr->Option (List (Str×Str))
 |.Name D _=>if qig C D then g.dt.lookup D else none
 |_=>none
noncomputable def qsa:CmpOp->Option Bool
 |.In=>some false
 |.NotIn=>some true
 |_=>none
noncomputable def qqg(g:Gx)(C:Cc)(o:CmpOp)(b:Expr)(ca cb:CE):CE:=match qn1 g C b,qsa o with
 |some tbl,some neg=>.topin neg tbl ca
 |_,_=>.o2 false (qnK o) ca cb
noncomputable def cIx(g:Gx)(C:Cc)(ow:Bool)(a b:Expr)(ca cb:CE):CE:=match qn1 g C a with
 |some tbl=>.no
 |none=>.o2 ow .ix ca cb
noncomputable def qhy(g:Gx)(C:Cc)(f:Str)(ces:List CE):CE:=if(f== "__debug__" ||f== "__classdict__")||ces.isEmpty then .no else if qlZ C.sc f then .no else .no
noncomputable def qnr:Expr->Bool
 |.Tuple _ _ _=>true
 |_=>false
mutual
noncomputable def cE(g:Gx):Nat->Cc->Expr->CE
 |0,_,_=>.no
 |n+1,C,e=>match e with
  |.Constant c _ _=>(match c with|.none=>.c .non|.bool b=>.c (.bl b)|.int i=>.c (.int i)|.str s=>.c (.str s)|_=>.no)
  |.Name x _=>qqf g C x
  |.Tuple es _ _=>if es.all qap then .tup (es.map (cE g n C)) else .no
  |.List es p=>if es.all qap then .lst (g.own p) (es.map (cE g n C)) else .no
  |.Dict [] [] p=>.dct (g.own p)
  |.BinOp a op b p=>(match qvf op with|some o=>.o2 (g.own p) o (cE g n C a) (cE g n C b)|none=>.no)
  |.UnaryOp .Not a _=>.nt (cE g n C a)
  |.UnaryOp .USub a _=>.neg (cE g n C a)
  |.BoolOp .And es _=>qhE (es.map (cE g n C))
  |.BoolOp .Or es _=>qlD (es.map (cE g n C))
  |.IfExp t a b _=>.ife (cE g n C t) (cE g n C a) (cE g n C b)
  |.Compare a [o] [b] _=>if qbH b then qqg g C o b (cE g n C a) (cE g n C b) else .no
  |.Compare a [o,p] [b,c] _=>if qbH c then .chain (qnK o) (qnK p) (cE g n C a) (cE g n C b) (cE g n C c) else .no
  |.Subscript a (.Slice lo hi none _) p=>.sl (g.own p) (cE g n C a) (lo.map (cE g n C)) (hi.map (cE g n C))
  |.Subscript a (.Slice lo hi (some st) _) p=>.no
  |.Subscript a b p=>cIx g C (g.own p) a b (cE g n C a) (cE g n C b)
  |.Attribute a f _=>if qck a then .fld (g.fls f) f (cE g n C a) else .no
  | .Call (.Attribute o m ap) es [] p=>if (qck o&&es.all qap&&decide (es.length<30))&&ap.endLine==p.line then
    (match qqj m "list",qqj m "dict" with
     |some b,some d=>.alt (.bm (g.own p) b (cE g n C o) (es.map (cE g n C))) (.bm (g.own p) d (cE g n C o) (es.map (cE g n C)))
     |some b,none=>.bm (g.own p) b (cE g n C o) (es.map (cE g n C))
     |none,some d=>.bm (g.own p) d (cE g n C o) (es.map (cE g n C))
     |none,none=>if C.calm then .mth (g.ms m) m (cE g n C o) (es.map (cE g n C)) else .no) else .no
  | .Call (.Name f _) [e] [⟨some kw,.Lambda a body sc _,_⟩] p=>if f== "sorted" &&kw== "key" &&qcZ C f&&qap e then (match qjz C a sc with
    |some x=>(match qwM x body with|some b=>.no|none=>.no)
    |none=>.no) else .no
  |.Call (.Name f _) es [] p=>if(es.all qap&&C.calm)&&qig C f then cCall g n C f es p else if es.all qap&&C.calm then qhy g C f (es.map (cE g n C)) else .no
  |.ListComp elt [⟨tg,iter,ifs,0⟩] sc p=>cComp g n C false elt tg iter ifs sc p
  |_=>.no
noncomputable def cCall(g:Gx):Nat->Cc->Str->List Expr->Pos->CE
 |0,_,_,_,_=>.no
 | n+1,C,f,es,p=>if f== "_law_told" then (match es with
   |[.Lambda a body sc _]=>if qiF C a sc&& !g.wd.isEmpty then .told g.wd ((qjv C sc).map (·.2)) (cE g n (qlV C sc) body) else .no
   |_=>.no) else if f.cps.contains 46 then .no else match g.fi f with
  |some i=>.call i (es.map (cE g n C))
  |none=>if(g.cl.map (·.1)).contains f then(match g.fi (qaU f "__init__") with|some i=>.make f i (es.map (cE g n C))|none=>.no) else
   if qcZ C f then(match es with
    |[e,.Name x _]=>if f== "isinstance" then(match qwm x with|some N=>if qcZ C x then .inst N (cE g n C e) else .no|none=>.no) else
     (match qqI f with|some b=>.bn (g.own p) b (es.map (cE g n C))|none=>.no)
    |[.Call (.Name s _) [a] [] _]=>if s== "set" &&qcZ C s&&qap a then(if f== "sorted" then .no else if f== "len" then .no else .no) else
     (match qqI f with|some b=>.bn (g.own p) b (es.map (cE g n C))|none=>.no)
    |[.Call (.Attribute o m ap) [] [] q]=>if f== "list" &&m== "items" &&qck o&&ap.endLine==q.line then .litems (cE g n C o) else
     (match qqI f with|some b=>.bn (g.own p) b (es.map (cE g n C))|none=>.no)
    |[]=>.no
    |_=>(match qqI f with|some b=>.bn (g.own p) b (es.map (cE g n C))|none=>.no)) else .no
noncomputable def cI(g:Gx):Nat->Cc->Expr->Expr->CI
 |0,_,_,_=>.no
 |n+1,C,tg,e=>if qbH e then(match e with
  | .Call (.Name f _) es [] _=>if f== "range" then (if qcZ C f&&es.all qap then (match es with
     |[a]=>.by_ .rng1 [cE g n C a]
     |[a,b]=>.no
     |_=>.no) else .no)
    else if f== "enumerate" then(if qcZ C f&&es.all qap&&qnr tg then(match es with|[a]=>.no|_=>.no) else .no)
    else if f== "zip" then(if qcZ C f&&es.all qap&&qnr tg then(match es with|[a,b]=>.by_ .zip [cE g n C a,cE g n C b]|_=>.no) else .no)
    else .gen (cE g n C e)
  |_=>.gen (cE g n C e)) else .no
noncomputable def cComp(g:Gx):Nat->Cc->Bool->Expr->Expr->Expr->List Expr->Scope->Pos->CE
 |0,_,_,_,_,_,_,_,_=>.no
 | n+1,C,x,elt,tg,iter,ifs,sc,p=>if C.calm&&qhs C sc then
   (match ifs with
    |[]=>.comp (g.own p) x ((qai C sc).1.N.length - (qai C sc).2.length) ((qai C sc).2.map (·.2)) (cG (qai C sc).1 n tg) (cI g n C tg iter) none (cE g n (qai C sc).1 elt)
    |[t]=>.comp (g.own p) x ((qai C sc).1.N.length - (qai C sc).2.length) ((qai C sc).2.map (·.2)) (cG (qai C sc).1 n tg) (cI g n C tg iter) (some (cE g n (qai C sc).1 t)) (cE g n (qai C sc).1 elt)
    |_=>.no) else .no
end
noncomputable def qqa:Stmt->List Stmt
 |.ClassDef _ _ _ b _ _ _ _ _ _ _=>b
 |_=>[]
noncomputable def qdR(C:Cc)(e:Expr)(x:Str)(p:Pos):Bool:=match e with
 |.ListComp _ _ s q=>decide (C.sc.kind= .function)&&decide (C.sc.names.lookup x=some .local)&&p.line==q.line&& !(s.names.any λ(n,k)=>n==x&&(k== .local||k== .cell))
 |_=>false
noncomputable def qv9(g:Gx)(n:Nat)(C:Cc)(x:Str)(p:Pos)(e:Expr):CS:=if qqD C x then (match qkV C.N x with
  |none=>.no
  |some i=>(match e with
   |.ListComp elt [⟨tg,iter,ifs,0⟩] sc q=>if decide (C.sc.kind= .function) then(if qdR C (.ListComp elt [⟨tg,iter,ifs,0⟩] sc q) x p then .set i (cComp g n C false elt tg iter ifs sc q) else .set i (cE g n C (.ListComp elt [⟨tg,iter,ifs,0⟩] sc q))) else .no
   |e=>if qdw e then .set i (cE g n C e) else .no)) else .no
noncomputable def qjj(C:Cc):Expr->Bool
 |.Name x _=> !decide (C.sc.names.lookup x=some .local)
 |_=>true
noncomputable def qgJ:Expr->Bool
 |.Constant (.str _) _ _=>true
 |_=>false
noncomputable def qfg(C:Cc):List Str->CS->CS
 |[],s=>s
 |x::r,s=>match qkV C.N x with|some i=>.frz i (qfg C r s)|none=>qfg C r s
mutual
noncomputable def cS(g:Gx):Nat->Cc->Stmt->CS
 |0,_,_=>.no
 |n+1,C,st=>qfg C ((g.fz.filter λp=>p.1==st.pos.line).map (·.2)) (cS1 g n C st)
noncomputable def cS1(g:Gx):Nat->Cc->Stmt->CS
 |0,_,_=>.no
 |n+1,C,st=>match st with
  |.Pass _=>.nx
  |.Break _=>.brk
  |.Continue _=>.cnt
  |.Return none _=>.ret (.c .non)
  |.Return (some e) _=>.ret (cE g n C e)
  |.Expr e _=>if qgJ e then .nx else if qdw e then .exp (cE g n C e) else .no
  |.If t a b _=>.ife (cE g n C t) (cSs g n C a) (cSs g n C b)
  |.For tg it b [] _=>if(C.top&&C.calm)&&qbH it then .for_ (cG C n tg) (cI g n C tg it) (cSs g n C b) else .no
  |.Assign [.Name x p] e _=>qv9 g n C x p e
  |.Assign [.Attribute o f _] e _=>.fld (g.fls f) f (cE g n C o) (cE g n C e)
  |.Assign [.Subscript o i _] e _=>.put (cE g n C o) (cE g n C i) (cE g n C e)
  |.Assign [.Tuple ts k p] e _=>(match e with
   |.Tuple vs kv pv=>if ts.any (qjj C) then .asg (cG C n (.Tuple ts k p)) (cE g n C (.Tuple vs kv pv)) else .no
   |e=>if qdw e then .asg (cG C n (.Tuple ts k p)) (cE g n C e) else .no)
  |.Raise (some (.Call (.Name x _) [a] [] _)) none _=>if C.top&&qig C x&&(g.ex.map (·.1)).contains x&&qgJ a then .raise x else .no
  |_=>.no
noncomputable def cSs(g:Gx):Nat->Cc->List Stmt->List CS
 |0,_,_=>[.no]
 |n+1,C,bE=>bE.map (cS g n C)
end
noncomputable def qfQ(st:Stmt):List Str:=(qao st).args.map (·.arg)
noncomputable def qh1(st:Stmt):List Str:=qfQ st++((qad st).names.filter λy=>(decide (y.2= .local)||decide (y.2= .cell))&& !(qfQ st).contains y.1).map (·.1)
noncomputable def qv8(lam:Bool)(st:Stmt):Cc:=⟨qh1 st,qad st,true,true,true,lam⟩
noncomputable def qfj(st:Stmt):Bool:=decide ((qad st).kind= .function)&& !(qad st).isCoroutine&& !(qad st).isGenerator&&decide ((qh1 st).Nodup)&&(qfQ st).all (qpj (qad st))&&(qad st).names.all (λy=>decide (y.2≠.free))
 &&decide ((qao st).posonlyargs.length=0)&&(qao st).vararg.isNone&&decide ((qao st).kwonlyargs.length=0)&&decide ((qao st).kw_defaults.length=0)&&(qao st).kwarg.isNone&&decide ((qao st).defaults.length=0)
structure Fcd where
 kp:Bool
 n:Nat
 N:Nat
 b:List CS
noncomputable def cFn(g:Gx)(p:Str×Stmt):Fcd:=if qfj p.2 then⟨g.kp.contains p.1,(qfQ p.2).length,(qh1 p.2).length,cSs g 60 (qv8 (g.lm.contains p.1) p.2) (qay p.2)⟩ else⟨true,0,0,[.no]⟩
noncomputable def Fcd.run(F:Fs)(c:Fcd):List T->Mu->R T:=fnR c.kp c.n c.N (runSs F c.b)
noncomputable def TTf(g:Gx):Nat->Fs
 |0,_=>λ_ _=>.no
 |k+1,i=>match g.fs[i]? with
  |some p=>(cFn g p).run (TTf g k)
  |none=>λ_ _=>.no
section
variable{F:Fs}{ρ:Ro}{U:Mu}
noncomputable def lk:Option (Option T)->Mu->R T
 |some (some t),U=>.ok t U
 |_,_=>.no
@[simp] theorem qf2(t:T)(U:Mu):lk (some (some t)) U= .ok t U:=rfl
@[simp] theorem qtD{α β γ:Type}{r:R α}{f:α->Mu->R β}{g:β->Mu->R γ}:(r.bind f).bind g=r.bind λa m=>(f a m).bind g:=by cases r<;>rfl
@[simp] theorem qiU:runSs F [] ρ U= .ok (.nx ρ) U:=rfl
@[simp] theorem qag:runSs F (s::ss) ρ U=(qaG F s ρ U).bind (qhL (runSs F ss)):=rfl
@[simp] theorem qaq:qhL e (.nx ρ) U=e ρ U:=rfl
@[simp] theorem qtQ:qhL e (.rt t) U= .ok (.rt t) U:=rfl
@[simp] theorem qtS:qhL e (.bk ρ) U= .ok (.bk ρ) U:=rfl
@[simp] theorem qtR:qhL e (.ct ρ) U= .ok (.ct ρ) U:=rfl
@[simp] theorem qu1:outT (.rt t) U= .ok t U:=rfl
@[simp] theorem qu2:outT (.nx ρ) U= .ok .non U:=rfl
@[simp] theorem qbp:tbO (.bl b) U= .ok b U:=rfl
@[simp] theorem qxt:qaG F .nx ρ U= .ok (.nx ρ) U:=rfl
@[simp] theorem qa4:qaG F (.ret e) ρ U=(qac F e ρ U).bind λt U=>.ok (.rt t) U:=rfl
@[simp] theorem qaJ:qaG F (.set i e) ρ U=(qac F e ρ U).bind λt U=>.ok (.nx (ρ.set i (some t))) U:=rfl
@[simp] theorem qnb:qaG F (.asg g e) ρ U=(qac F e ρ U).bind λt U=>(runG g t ρ U).bind λρ' μ'=>.ok (.nx ρ') μ':=rfl
@[simp] theorem qds:qaG F (.exp e) ρ U=(qac F e ρ U).bind λ_ U=>.ok (.nx ρ) U:=rfl
theorem qhd{α:Type}{c:Prop}[Decidable c]{f g:Ro->Mu->R α}:(if c then f else g) ρ U=if c then f ρ U else g ρ U:=by split<;>rfl
@[simp] theorem qbX{t:CE}{a b:List CS}:qaG F (.ife t a b) ρ U=(qac F t ρ U).bind λx U=>(tbO x U).bind λc U=>if c=true then runSs F a ρ U else runSs F b ρ U:=by
 show((qac F t ρ U).bind _).bind _=_;cases qac F t ρ U with
 |ok x m=>congr 1;funext c m';exact qhd
 |_=>rfl
@[simp] theorem qwx:qaG F .brk ρ U= .ok (.bk ρ) U:=rfl
@[simp] theorem qww:qaG F .cnt ρ U= .ok (.ct ρ) U:=rfl
@[simp] theorem qtU{c:Str}:qaG F (.raise c) ρ U= .ex c U:=rfl
@[simp] theorem qrj:qaG F (.put o i e) ρ U=(qac F e ρ U).bind λv U=>(qac F o ρ U).bind λo U=>(qac F i ρ U).bind λi U=>match qpp U o i v with
 |some q=>if U.live q.1=true then .ok (.nx ρ) (U.put q.1 q.2) else .no
 |none=>.no:=rfl
@[simp] theorem qwv:qaG F (.par is es) ρ U=(runA F es ρ U).bind λts U=>match qb8 is ts ρ with|some ρ'=>.ok (.nx ρ') U|none=>.no:=rfl
@[simp] theorem qci{cs:List Str}{f:Str}:qaG F (.fld cs f o e) ρ U=(qac F e ρ U).bind λt U=>(qac F o ρ U).bind λo U=>(qsN (λc _=>cs.contains c) f t o U).bind λ_ U=>.ok (.nx ρ) U:=rfl
theorem qrk:qaG F (.for_ g it b) ρ U=(runI F it ρ U).bind λit U=>qvK (runG g) (runSs F b) it ρ U:=rfl
@[simp] theorem qws:qb8 [] [] ρ=some ρ:=rfl
@[simp] theorem quw:qb8 (i::is) (t::ts) ρ=qb8 is ts (ρ.set i (some t)):=rfl
@[simp] theorem qxx:runG (.n i) t ρ U= .ok (ρ.set i (some t)) U:=rfl
@[simp] theorem qwC:runG (.tup gs) (.tup ts) ρ U=if ts.length=gs.length then runGs gs ts ρ U else .no:=rfl
@[simp] theorem quJ:runGs [] [] ρ U= .ok ρ U:=rfl
@[simp] theorem qtV:runGs (g::gs) (t::ts) ρ U=(runG g t ρ U).bind (runGs gs ts):=rfl
@[simp] theorem qaM:runA F [] ρ U= .ok [] U:=rfl
@[simp] theorem qae:runA F (e::es) ρ U=(qac F e ρ U).bind λx U=>(runA F es ρ U).bind λxs U=>.ok (x::xs) U:=rfl
@[simp] theorem qnc{i:Nat}:qac F (.v i) ρ U=lk ρ[i]? U:=by
 show dV i ρ U=_;unfold dV
 rcases ρ[i]? with _|_|_<;>rfl
@[simp] theorem qet:qac F (.c t) ρ U= .ok t U:=rfl
@[simp] theorem qa9:qac F (.tup es) ρ U=(runA F es ρ U).bind λxs U=>if xs.length<=1000 then .ok (.tup xs) U else .no:=rfl
@[simp] theorem quQ:qac F (.lst false es) ρ U=(runA F es ρ U).bind λxs U=>if xs.length<=1000 then .ok (.lst xs) U else .no:=by
 show((runA F es ρ U).bind _).bind fzC=_;cases runA F es ρ U with
 |ok x m=>show(if x.length<=1000 then R.ok _ m else .no).bind fzC=if x.length<=1000 then R.ok _ m else .no;split<;>rfl
 |_=>rfl
@[simp] theorem quP:qac F (.lst true es) ρ U=(runA F es ρ U).bind λxs U=>if xs.length<=1000 then .ok (.obj U.l.length) (U.add (.ls xs)) else .no:=by
 show((runA F es ρ U).bind _).bind _=_;cases runA F es ρ U with
 |ok x m=>show(if x.length<=1000 then R.ok _ m else .no).bind _=if x.length<=1000 then R.ok _ _ else .no;split<;>rfl
 |_=>rfl
@[simp] theorem quS:qac F (.dct true) ρ U= .ok (.obj U.l.length) (U.add (.dk [])):=rfl
@[simp] theorem quT:qac F (.dct false) ρ U= .ok (.dct []) U:=rfl
@[simp] theorem qan:qac F (.o2 ow o a b) ρ U=(qac F a ρ U).bind λx U=>(qac F b ρ U).bind λy U=>nvR ow (o.g U x y) U:=rfl
@[simp] theorem qwD:qac F (.neg a) ρ U=(qac F a ρ U).bind qsE:=rfl
@[simp] theorem qt3:qsE (.int i) U= .ok (.int (-i)) U:=rfl
@[simp] theorem qlk:qac F (.nt a) ρ U=(qac F a ρ U).bind λx U=>(tbO x U).bind λc U=>.ok (.bl (!c)) U:=by show((qac F a ρ U).bind _).bind _=_;simp
@[simp] theorem qnd{a b:CE}:qac F (.and a b) ρ U=(qac F a ρ U).bind λx U=>(tbO x U).bind λc U=>if c=true then qac F b ρ U else .ok (.bl false) U:=by
 show((qac F a ρ U).bind _).bind _=_;cases qac F a ρ U with
 |ok x m=>congr 1;funext c m';exact qhd
 |_=>rfl
@[simp] theorem qrm{a b:CE}:qac F (.or a b) ρ U=(qac F a ρ U).bind λx U=>(tbO x U).bind λc U=>if c=true then .ok (.bl true) U else qac F b ρ U:=by
 show((qac F a ρ U).bind _).bind _=_;cases qac F a ρ U with
 |ok x m=>congr 1;funext c m';exact qhd
 |_=>rfl
@[simp] theorem qcj{t a b:CE}:qac F (.ife t a b) ρ U=(qac F t ρ U).bind λx U=>(tbO x U).bind λc U=>if c=true then qac F a ρ U else qac F b ρ U:=by
 show((qac F t ρ U).bind _).bind _=_;cases qac F t ρ U with
 |ok x m=>congr 1;funext c m';exact qhd
 |_=>rfl
@[simp] theorem qtW:qac F (.chain o p a b c) ρ U=(qac F a ρ U).bind λx U=>(qac F b ρ U).bind λy U=>(nvR false (o.g U x y) U).bind λz U=>(tbO z U).bind λk U=>if k=true then(qac F c ρ U).bind λw U=>nvR false (p.g U y w) U else .ok (.bl false) U:=rfl
@[simp] theorem qbc:qac F (.bn ow b es) ρ U=(runA F es ρ U).bind λts U=>nvR ow (b.g U ts) U:=rfl
@[simp] theorem qhT:qac F (.bm ow b o es) ρ U=(qac F o ρ U).bind λo U=>if qfX U o=b.ty then(runA F es ρ U).bind λts U=>nvR ow (b.g U (o::ts)) U else .no:=rfl
@[simp] theorem quR{N:String}:qac F (.inst N a) ρ U=(qac F a ρ U).bind λx U=>qc3 N x U:=rfl
@[simp] theorem quL:qac F (.sset ow a) ρ U=(qac F a ρ U).bind λx U=>nvR ow (qwQ U x) U:=rfl
@[simp] theorem quN:qac F (.slen a) ρ U=(qac F a ρ U).bind λx U=>nvR false (qjR U x) U:=rfl
@[simp] theorem qrl:qac F (.sl ow a lo hi) ρ U=(qac F a ρ U).bind λx U=>(runO F lo ρ U).bind λl U=>(runO F hi ρ U).bind λh U=>nvR ow (gSl U x l h) U:=rfl
@[simp] theorem qiV:runO F none ρ U= .ok none U:=rfl
noncomputable def asI:T->Mu->R (Option Int)
 |.int i,U=>.ok (some i) U
 |_,_=>.no
@[simp] theorem qwf{i:Int}:asI (.int i) U= .ok (some i) U:=rfl
@[simp] theorem qbt:qac F (.call i es) ρ U=(runA F es ρ U).bind λts U=>F i ts U:=rfl
@[simp] theorem quO{c:Str}:qac F (.make c i es) ρ U=(runA F es ρ U).bind λts U=>mkR c (F i) ts U:=rfl
@[simp] theorem qrn{cs:List Str}{f:Str}:qac F (.fld cs f o) ρ U=(qac F o ρ U).bind λo U=>qnx (λc _=>cs.contains c) f o U:=rfl
@[simp] theorem quM:qac F (.srtK ow b a) ρ U=(qac F a ρ U).bind λx U=>nvR ow (qnu b U x) U:=rfl
theorem qne:qac F (.alt a b) ρ U=qqH (qac F a) (qac F b) ρ U:=rfl
theorem qiW(h:qac F a ρ U= .ok t m):qac F (.alt a b) ρ U= .ok t m:=by rw[qne];unfold qqH;rw[h]
theorem qop(h:qac F a ρ U= .no):qac F (.alt a b) ρ U=qac F b ρ U:=by rw[qne];unfold qqH;rw[h]
@[simp] theorem qd4:nvR ow (some (.v t)) U= .ok t U:=rfl
@[simp] theorem qyf:nvR ow (some (.t ts)) U= .ok (.tup ts) U:=rfl
@[simp] theorem qlF:nvR false (some (.l ts)) U= .ok (.lst ts) U:=rfl
@[simp] theorem qxy:nvR true (some (.l ts)) U= .ok (.obj U.l.length) (U.add (.ls ts)):=rfl
@[simp] theorem qxz:nvR false (some (.d ts)) U= .ok (.dct ts) U:=rfl
theorem qtY(h:U.live k=true):nvR ow (some (.p k c t)) U= .ok t (U.put k c):=by show(if U.live k=true then _ else _)=_;rw[if_pos h]
@[simp] theorem qpo:O2.g .add U (.int i) (.int j)=some (.v (.int (i+j))):=rfl
@[simp] theorem ql8:O2.g .sub U (.int i) (.int j)=some (.v (.int (i - j))):=rfl
@[simp] theorem qvv:O2.g .mul U (.int i) (.int j)=if(-4294967296<=i/\i<=4294967296)\/(-4294967296<=j/\j<=4294967296) then some (.v (.int (i*j))) else none:=rfl
@[simp] theorem qxW:O2.g .div U (.int i) (.int j)=if 0<j/\j<1073741824 then some (.v (.int (i / j))) else none:=rfl
@[simp] theorem qxR:O2.g .mod U (.int i) (.int j)=if 0<j then some (.v (.int (i % j))) else none:=rfl
@[simp] theorem qwO:O2.g .lt U (.int i) (.int j)=some (.v (.bl (decide (i<j)))):=rfl
@[simp] theorem qyh:O2.g .le U (.int i) (.int j)=some (.v (.bl (decide (i<=j)))):=rfl
@[simp] theorem qxV:O2.g .gt U (.int i) (.int j)=some (.v (.bl (decide (j<i)))):=rfl
@[simp] theorem qyi:O2.g .ge U (.int i) (.int j)=some (.v (.bl (decide (j<=i)))):=rfl
@[simp] theorem qxS{i j:Str}:O2.g .lt U (.str i) (.str j)=some (.v (.bl (qhN i j))):=rfl
@[simp] theorem qxT{i j:Str}:O2.g .le U (.str i) (.str j)=some (.v (.bl (!qhN j i))):=rfl
@[simp] theorem qwP{i j:Str}:O2.g .add U (.str i) (.str j)=if i.length+j.length<=100000 then some (.v (.str (i++j))) else none:=rfl
@[simp] theorem qsC:O2.g .add U (.tup (x::xs)) (.tup (y::ys))=if xs.length+ys.length<=900 then some (.t (x::xs++y::ys)) else none:=rfl
@[simp] theorem qvA:O2.g .add U (.tup []) (.tup ys)=some (.v (.tup ys)):=rfl
@[simp] theorem qpn:O2.g .add U (.tup (x::xs)) (.tup [])=if xs.length<=900 then some (.v (.tup (x::xs))) else none:=rfl
theorem qhh(h:sqv U a=some (true,xs))(h':sqv U b=some (true,ys))(hl:xs.length+ys.length<=1000):O2.g .add U a b=some (.l (xs++ys)):=by
 show qsG U a b=_;unfold qsG;split
 ·cases h
 ·cases h
 simp_all
theorem qyj(h:okT 8 (dr1 U a)=true)(h':okT 8 (dr1 U b)=true):O2.g .eq U a b=some (.v (.bl (eqT (dr1 U a) (dr1 U b)))):=by show qkX _ U a b=_;unfold qkX;simp_all
theorem qwN(h:okT 8 (dr1 U a)=true)(h':okT 8 (dr1 U b)=true):O2.g .ne U a b=some (.v (.bl (!eqT (dr1 U a) (dr1 U b)))):=by show qkX _ U a b=_;unfold qkX;simp_all
theorem qsA(h:okT 8 t=true)(ha:dr1 U a=t)(hb:dr1 U b=t):O2.g .ne U a b=some (.v (.bl false)):=by rw[qwN (by rw[ha];exact h) (by rw[hb];exact h),ha,hb,qbG _ _ h];rfl
theorem qwc{α:Type}[BEq α][LawfulBEq α][DecidableEq α](a b:α):(a==b)=decide (a=b):=by grind
@[simp] theorem qsB:O2.g .eq U (.int i) (.int j)=some (.v (.bl (decide (i=j)))):=rfl
@[simp] theorem qxQ:O2.g .ne U (.int i) (.int j)=some (.v (.bl (!decide (i=j)))):=rfl
@[simp] theorem qpm{i j:Str}:O2.g .ne U (.str i) (.str j)=some (.v (.bl (!decide (i=j)))):=rfl
@[simp] theorem qvy:O2.g .eq U (.scr ns) (.lst [])=some (.v (.bl ns.isEmpty)):=rfl
noncomputable def ixT{α:Type}(ts:List α)(i:Int):Option α:=if 0<=i then ts[i.toNat]? else if 0<=(ts.length:Int)+i then ts[((ts.length:Int)+i).toNat]? else none
theorem qeq{α:Type}(ts:List α)(i:Int):atI ts i=ixT ts i:=by
 unfold atI ixN ixT
 grind
@[simp] theorem qxU:O2.g .ix U (.tup ts) (.int i)=(ixT ts i).map .v:=by rw[<-qeq];rfl
@[simp] theorem qjP:O2.g .ix U (.lst ts) (.int i)=(ixT ts i).map .v:=by rw[<-qeq];rfl
@[simp] theorem qvw:O2.g .ix U (.scr ns) (.int i)=(ixT ns i).map λn=>.v (.int n):=by
 show(atI _ i).map _=_;rw[qeq];unfold ixT;simp only[List.getElem?_map,List.length_map];split
 ·rw[Option.map_map];rfl
 ·split
  ·rw[Option.map_map];rfl
  ·rfl
theorem qec{k:Nat}:ixT ts (k:Int)=ts[k]? :=rfl
theorem qbu{α:Type}{ts:List α}{i:Int}(h:0<=i):ixT ts i=ts[i.toNat]? :=by unfold ixT;rw[if_pos h]
@[simp] theorem qxE{α:Type}{ts:List α}:ixT ts 0=ts[0]? :=qbu (by omega)
@[simp] theorem qxD{α:Type}{ts:List α}:ixT ts 1=ts[1]? :=qbu (by omega)
@[simp] theorem qxC{α:Type}{ts:List α}:ixT ts 2=ts[2]? :=qbu (by omega)
@[simp] theorem qt2:ixT ts (-1)=ts.getLast? :=by
 unfold ixT;rw[if_neg (by omega),List.getLast?_eq_getElem?];cases ts with
 |nil=>rfl
 |cons a l=>rw[if_pos (by simp;omega)];congr 1;simp;omega
theorem qvx{z:Str}(h:z.length<=1000):O2.g .ix U (.str z) (.int i)=(ixT z.cps.toList i).map λc=>.v (.str ⟨#[c]⟩):=by show(if z.length<=1000 then _ else _)=_;rw[if_pos h,qeq]
@[simp] theorem qw8:Bn.g .len U [.lst ts]=some (.v (.int ts.length)):=rfl
@[simp] theorem qw7:Bn.g .len U [.tup ts]=some (.v (.int ts.length)):=rfl
@[simp] theorem qt5:Bn.g .len U [.scr ns]=some (.v (.int ns.length)):=by show some _=_;rw[List.length_map]
theorem qtI{z:Str}(h:z.length<=100000):Bn.g .len U [.str z]=some (.v (.int z.length)):=by exact if_pos h
theorem qhz(h:U.l[k]? =some (.ls ts)):Bn.g .len U [.obj k]=some (.v (.int ts.length)):=by
 have e:qeK U (.obj k)=some (true,ts):=by show sqv U (.obj k)=_;simp only[sqv,h]
 show qsF U [.obj k]=_;simp only[qsF,e]
@[simp] theorem qtH:Bn.g .max U [.int i,.int j]=some (.v (.int (max i j))):=by
 show some _=_
 grind
@[simp] theorem qnN:Bn.g .min U [.int i,.int j]=some (.v (.int (min i j))):=by
 show some _=_
 grind
theorem qkL(xs:List Bool):qer (xs.map T.bl)=some xs:=by
 induction xs with
 |nil=>rfl
 |cons x xs ih=>show(qer _).map _=_;rw[ih];rfl
@[simp] theorem qwe{bs:List Bool}:Bn.g .all U [.lst (bs.map T.bl)]=some (.v (.bl (bs.all id))):=by show((qer _)).map _=_;rw[qkL];rfl
@[simp] theorem qw4:Bn.g .tup U [.lst ts]=some (.t ts):=rfl
@[simp] theorem qw3:Bn.g .tup U [.tup ts]=some (.v (.tup ts)):=rfl
@[simp] theorem qw6:Bn.g .lst U [.lst ts]=some (.l ts):=rfl
@[simp] theorem qw5:Bn.g .lst U [.tup ts]=some (.l ts):=rfl
@[simp] theorem qxL{N:String}:qc3 N (.int i) U= .ok (.bl (qkW N "int")) U:=rfl
@[simp] theorem qyg{N:String}:qc3 N (.bl i) U= .ok (.bl (qkW N "bool")) U:=rfl
@[simp] theorem qxI{N:String}{i:Str}:qc3 N (.str i) U= .ok (.bl (qkW N "str")) U:=rfl
@[simp] theorem qxH{N:String}:qc3 N (.tup i) U= .ok (.bl (qkW N "tuple")) U:=rfl
@[simp] theorem qxK{N:String}:qc3 N (.lst i) U= .ok (.bl (qkW N "list")) U:=rfl
@[simp] theorem qxJ{N:String}:qc3 N .non U= .ok (.bl (qkW N "NoneType")) U:=rfl
end
section
theorem qic:leave U (.ok t U)= .ok t U:=if_pos rfl
theorem qaw{c:Fcd}{ts:List T}(hl:ts.length=c.n)(h:(runSs F c.b (ts.map some++List.replicate (c.N - c.n) none) U).bind outT= .ok t U):c.run F ts U= .ok t U:=by
 unfold Fcd.run fnR;rw[if_pos hl,h];unfold lv;split
 ·rfl
 ·exact qic
theorem qnv(h:ub t<=n):fzT n l d t=some t:=by cases d<;>(unfold fzT;rw[if_pos h])
end
section
variable{F:Fs}{ρ:Ro}{U:Mu}
noncomputable def Its(U:Mu)(it:Ito)(ts:List T):Prop:=(∀i,nxt it U i=some ts[i]?)/\qb3 it U=ts.length
noncomputable def qdp(F:Fs)(ci:CI)(ρ:Ro)(U:Mu)(ts:List T):Prop:= ∃it,runI F ci ρ U= .ok it U/\Its U it ts
noncomputable def itv(U:Mu):T->Option (List T)
 |.lst ts=>some ts
 |.tup ts=>some ts
 |.obj k=>(match U.l[k]? with|some (.ls ts)=>some ts|_=>none)
 |.str z=>if z.length<=1000 then some (z.cps.toList.map λc=>.str ⟨#[c]⟩) else none
 |_=>none
@[simp] theorem qvp:itv U (.lst ts)=some ts:=rfl
@[simp] theorem qvo:itv U (.tup ts)=some ts:=rfl
theorem qdC:Its U (.fx ts) ts:=⟨λ_=>rfl,rfl⟩
theorem qst(h:U.l[k]? =some (.ls ts)):Its U (.lv k) ts:=⟨λi=>by simp only[nxt,h],by simp only[qb3,h]⟩
theorem qhe(he:qac F e ρ U= .ok t U)(ht:itv U t=some ts):qdp F (.gen e) ρ U ts:=by
 have e0:runI F (.gen e) ρ U=qqC t U:=by show(qac F e ρ U).bind _=_;rw[he];rfl
 unfold qdp;rw[e0];cases t with
 |lst _|tup _=>cases ht;exact⟨_,rfl,qdC⟩
 |str z=>
  simp only[itv] at ht;split at ht
  ·rename_i hz;cases ht;exact⟨_,if_pos hz,qdC⟩
  ·cases ht
 |obj k=>
  simp only[itv] at ht;split at ht
  ·rename_i q;cases ht;exact⟨.lv k,by simp only[qqC,q],qst q⟩
  ·cases ht
 |_=>cases ht
theorem qph{n:Nat}(he:qac F e ρ U= .ok (.int n) U)(hn:n<=1000000):qdp F (.by_ .rng1 [e]) ρ U ((List.range n).map λk=>.int (k:Nat)):=by refine⟨.fx _,?_,qdC⟩;show(runA F [e] ρ U).bind (λts U=>qch ts U)=_;simp only[qae,qaM,he,qaa,qch];rw[if_pos ⟨by omega,by omega⟩];rfl
theorem qsu(he:qac F e ρ U= .ok (.lst ts) U)(he':qac F e' ρ U= .ok (.lst us) U):qdp F (.by_ .zip [e,e']) ρ U (qnS ts us):=by refine⟨.fx _,?_,qdC⟩;show(runA F _ ρ U).bind (λts U=>qhH ts U)=_;simp only[qae,qaM,he,he',qaa,qhH]
section
variable{α:Type}{l:List α}{f:α->T}{p:α->Bool}{h:α->T}
theorem qek{dg:T->DS0 Ro}{dt:DS0 Bool}{de:DS0 T}{I:Ro->Prop}{it:Ito}(hn: ∀i,nxt it U i=some (l.map f)[i]?)(hs: ∀a∈l,∀ρ,I ρ->∃ρ',I ρ'/\dg (f a) ρ U= .ok ρ' U/\dt ρ' U= .ok (p a) U/\(p a=true->de ρ' U= .ok (h a) U)):
  ∀(n i:Nat)(ρ:Ro),l.length<=n+i->I ρ->qbh it dg dt de n i ρ U= .ok (((l.drop i).filter p).map h) U
 |0,i,ρ,hl,hI=>by have e:(l.map f)[i]? =none:=List.getElem?_eq_none_iff.mpr (by grind);simp only[qbh,hn,e];rw[List.drop_eq_nil_of_le (by omega)];rfl
 |n+1,i,ρ,hl,hI=>by
  simp only[qbh,hn];by_cases hi:i<l.length
  ·rw[List.getElem?_map,List.getElem?_eq_getElem hi];obtain⟨ρ',i1,e1,e2,e3⟩:=hs l[i] (List.getElem_mem hi) ρ hI;simp only[Option.map_some,e1,e2,qaa];rw[List.drop_eq_getElem_cons hi];cases q:p l[i] with
   |true=>rw[e3 q,qaa,qek hn hs n (i+1) ρ' (by omega) i1,List.filter_cons_of_pos q];rfl
   |false=>rw[if_neg (by decide),qek hn hs n (i+1) ρ' (by omega) i1,List.filter_cons_of_neg (by rw[q];decide)]
  ·rw[List.getElem?_eq_none_iff.mpr (by grind),List.drop_eq_nil_of_le (by omega)];rfl
theorem qhr{x:Bool}{n:Nat}{fr:List Nat}{g:CG}{ci:CI}{t:Option CE}{e:CE}{I:Ro->Prop}(hi:qdp F ci ρ U (l.map f))(h0:I (qaQ n fr ρ))(hs: ∀a∈l,∀ρ,I ρ->∃ρ',I ρ'/\runG g (f a) ρ U= .ok ρ' U/\runT F t ρ' U= .ok (p a) U/\(p a=true->qac F e ρ' U= .ok (h a) U)):
  qcw x n fr (runI F ci) (runG g) (runT F t) (qac F e) ρ U= .ok (.ls ((l.filter p).map h)) U:=by obtain⟨it,e1,hn,hl⟩:=hi;unfold qcw dSq;rw[e1,qaa];unfold qtt;rw[qhu,qek hn hs _ 0 _ (by grind) h0];cases x<;>rfl
theorem qnH(h:qcw x n fr (runI F ci) (runG g) (runT F t) (qac F e) ρ U= .ok (.ls ts) U):qac F (.comp false x n fr g ci t e) ρ U= .ok (.lst ts) U:=by show(qcw x n fr _ _ _ _ ρ U).bind _=_;rw[h];rfl
abbrev frO(fr:List Nat)(ρ:Ro):Ro:=fr.map λi=>(ρ[i]?).join
variable (l f p h)
theorem qtv{x:Bool}{fr:List Nat}{ci:CI}{t:Option CE}{e:CE}(hi:qdp F ci ρ U (l.map f))(ht: ∀a∈l,runT F t (some (f a)::frO fr ρ) U= .ok (p a) U)(he: ∀a∈l,p a=true->qac F e (some (f a)::frO fr ρ) U= .ok (h a) U):
  qac F (.comp false x 1 fr (.n 0) ci t e) ρ U= .ok (.lst ((l.filter p).map h)) U:=
 qnH (qhr (I:=λZ=> ∃y,Z=y::frO fr ρ) hi ⟨none,rfl⟩ λa ha Z ⟨y,e⟩=>⟨_,⟨_,rfl⟩,by rw[e];rfl,ht a ha,he a ha⟩)
theorem qfu{x:Bool}{fr:List Nat}{ci:CI}{e:CE}(hi:qdp F ci ρ U (l.map f))(he: ∀a∈l,qac F e (some (f a)::frO fr ρ) U= .ok (h a) U):
  qac F (.comp false x 1 fr (.n 0) ci none e) ρ U= .ok (.lst (l.map h)) U:=by
 have:=qtv l f _ h (x:=x) (t:=none) hi (λ_ _=>rfl) λa ha _=>he a ha
 rwa [List.filter_eq_self.mpr λ_ _=>rfl] at this
theorem qv4{x:Bool}{fr:List Nat}{ci:CI}{t:Option CE}{e:CE}{u v:α->T}(hi:qdp F ci ρ U (l.map λa=>.tup [u a,v a]))(ht: ∀a∈l,runT F t (some (u a)::some (v a)::frO fr ρ) U= .ok (p a) U)(he: ∀a∈l,p a=true->qac F e (some (u a)::some (v a)::frO fr ρ) U= .ok (h a) U):
  qac F (.comp false x 2 fr (.tup [.n 0,.n 1]) ci t e) ρ U= .ok (.lst ((l.filter p).map h)) U:=
 qnH (qhr (I:=λZ=> ∃y z,Z=y::z::frO fr ρ) hi ⟨none,none,rfl⟩ λa ha Z ⟨y,z,e⟩=>⟨_,⟨_,_,rfl⟩,by rw[e];rfl,ht a ha,he a ha⟩)
theorem qtu{x:Bool}{fr:List Nat}{ci:CI}{e:CE}{u v:α->T}(hi:qdp F ci ρ U (l.map λa=>.tup [u a,v a]))(he: ∀a∈l,qac F e (some (u a)::some (v a)::frO fr ρ) U= .ok (h a) U):
  qac F (.comp false x 2 fr (.tup [.n 0,.n 1]) ci none e) ρ U= .ok (.lst (l.map h)) U:=by
 have:=qv4 l _ h (x:=x) (t:=none) hi (λ_ _=>rfl) λa ha _=>he a ha
 rwa [List.filter_eq_self.mpr λ_ _=>rfl] at this
end
@[simp] theorem quF:runT F none ρ U= .ok true U:=rfl
@[simp] theorem qon:runT F (some e) ρ U=(qac F e ρ U).bind tbO:=rfl
noncomputable def qxP:Out->Option Ro
 |.nx ρ=>some ρ
 |.ct ρ=>some ρ
 |_=>none
theorem qj1{α:Type}{l:List α}{f:α->T}{dg:T->DS0 Ro}{db:DS0 Out}{it:Ito}(J:List α->Ro->Mu->Prop)(hn: ∀d r ρ U,l=d++r->J d ρ U->nxt it U d.length=some (r.map f)[0]?)(hs: ∀d a r,l=d++a::r->∀ρ U,J d ρ U->∃au af o ai az,dg (f a) ρ U= .ok au af/\db au af= .ok o ai/\qxP o=some az/\J (d++[a]) az ai):
  ∀(r d:List α)(n:Nat)(ρ:Ro)(U:Mu),l=d++r->r.length<=n->J d ρ U->∃ρ' μ',qhi it dg db n d.length ρ U= .ok (.nx ρ') μ'/\J l ρ' μ'
 |[],d,n,ρ,U,hl,hr,hJ=>by have e:=hn d [] ρ U hl hJ;refine⟨ρ,U,?_,by rw[hl,List.append_nil];exact hJ⟩;cases n<;>(simp only[qhi,e];rfl)
 |a::r,d,n,ρ,U,hl,hr,hJ=>by
  have e:=hn d (a::r) ρ U hl hJ;obtain⟨n,rfl⟩: ∃k,n=k+1:=⟨n - 1,by simp at hr;omega⟩
  obtain⟨au,af,o,ai,az,e1,e2,e3,j2⟩:=hs d a r hl ρ U hJ;obtain⟨ρ',μ',e4,j3⟩:=qj1 J hn hs r (d++[a]) n az ai (by rw[hl];simp) (by simpa using hr) j2;refine⟨ρ',μ',?_,j3⟩;rw[List.length_append] at e4;simp only[qhi,e,List.map_cons,List.getElem?_cons_zero,e1,e2,qaa];cases o with
  |nx _|ct _=>cases e3;exact e4
  |rt _|bk _=>cases e3
theorem qj0{α:Type}(l:List α)(f:α->T)(J:List α->Ro->Mu->Prop){g:CG}{ci:CI}{b:List CS}{β:Type}{k:Out->Mu->R β}{r:R β}{ts:List T}(ht:ts=l.map f)(hi: ∃it,runI F ci ρ U= .ok it U/\(it= .fx ts\/∃q,it= .lv q/\U.l[q]? =some (.ls ts)/\∀d ρ' μ',J d ρ' μ'->μ'.l[q]? =some (.ls ts)))(h0:J [] ρ U)(hs: ∀d a r,l=d++a::r->∀ρ U,J d ρ U->∃az ai,((runG g (f a) ρ U).bind (runSs F b)= .ok (.nx az) ai\/(runG g (f a) ρ U).bind (runSs F b)= .ok (.ct az) ai)/\J (d++[a]) az ai)(hk: ∀ρ' μ',J l ρ' μ'->k (.nx ρ') μ'=r):(qaG F (.for_ g ci b) ρ U).bind k=r:=by
 obtain⟨it,e1,e2⟩:=hi;subst ht;rw[qrk,e1,qaa,qj3];have hlen:qb3 it U=l.length:=by
  rcases e2 with rfl|⟨q,rfl,hq,_⟩
  ·exact List.length_map ..
  ·simp only[qb3,hq,List.length_map]
 obtain⟨ρ',μ',e3,j⟩:=qj1 (l:=l) (f:=f) (it:=it) J (λd r ρ' μ' hl hJ=>by
  have:(l.map f)[d.length]? =(r.map f)[0]? :=by rw[hl];cases r<;>simp
  rcases e2 with rfl|⟨q,rfl,_,hq⟩
  ·show some (l.map f)[d.length]? =_;rw[this]
  ·simp only[nxt,hq d ρ' μ' hJ,this]) (λd a r hl ρ U hJ=>by
  obtain⟨az,ai,e,j⟩:=hs d a r hl ρ U hJ;cases q:runG g (f a) ρ U with
  |ok au af=>
   rw[q,qaa] at e
   rcases e with e|e<;>exact⟨au,af,_,ai,az,q,e,rfl,j⟩
  |no=>simp_all
  |ex c m=>simp_all) l [] (qb3 it U) ρ U rfl (by omega) h0
 simp_all
theorem qef{α:Type}(l:List α)(f:α->T)(J:List α->Ro->Mu->Prop){g:CG}{ci:CI}{b:List CS}{β:Type}{k:Out->Mu->R β}{r:R β}{ts:List T}(ht:ts=l.map f)(hi: ∃it,runI F ci ρ U= .ok it U/\(it= .fx ts\/∃q,it= .lv q/\U.l[q]? =some (.ls ts)/\∀d ρ' μ',J d ρ' μ'->μ'.l[q]? =some (.ls ts)))(h0:J [] ρ U)(hs: ∀d a r,l=d++a::r->∀ρ U,J d ρ U->∃az ai,(runG g (f a) ρ U).bind (runSs F b)= .ok (.nx az) ai/\J (d++[a]) az ai)(hk: ∀ρ' μ',J l ρ' μ'->k (.nx ρ') μ'=r):(qaG F (.for_ g ci b) ρ U).bind k=r:=
 qj0 l f J ht hi h0 (λd a r hl ρ U hJ=>by obtain⟨az,ai,e,j⟩:=hs d a r hl ρ U hJ;exact⟨az,ai,.inl e,j⟩) hk
theorem qpv{e:CE}{n:Nat}(he:qac F e ρ U= .ok (.int n) U)(hn:n<=1000000){Q:Ito->Prop}: ∃it,runI F (.by_ .rng1 [e]) ρ U= .ok it U/\(it= .fx ((List.range n).map λk=>.int (k:Nat))\/Q it):=by refine⟨.fx _,?_,.inl rfl⟩;show(runA F [e] ρ U).bind (λts U=>qch ts U)=_;simp only[qae,qaM,he,qaa,qch];rw[if_pos ⟨by omega,by omega⟩];rfl
@[simp] theorem Mu.add_l{c:Ct}:(U.add c).l=U.l++[c]:=rfl
@[simp] theorem Mu.put_l{c:Ct}{k:Nat}:(U.put k c).l=U.l.set k c:=rfl
theorem Mu.add_k{c:Ct}(h:ubC c<=U.l.length):U.add c=⟨U.l++[c],U.k⟩:=by unfold Mu.add;rw[if_pos h]
theorem Mu.put_k{c:Ct}{k:Nat}(h:ubC c<=k):U.put k c=⟨U.l.set k c,U.k⟩:=by unfold Mu.put;rw[if_pos h]
theorem qcU{k:Nat}{c:Ct}(h:U.l[k]? =some c)(n:c≠.gone):U.live k=true:=by simp only[Mu.live,h]
theorem qk4: ∀{ts:List T},(∀t∈ts,ub t=0)->ubs ts=0
 |[],_=>rfl
 |t::ts,h=>by unfold ubs;rw[h t List.mem_cons_self,qk4 λu hu=>h u (List.mem_cons_of_mem _ hu)];rfl
theorem qqS{κ:Type}: ∀{ts:List (κ×T)},(∀p∈ts,ub p.2=0)->ubf ts=0
 |[],_=>rfl
 |(k,t)::ts,h=>by unfold ubf;rw[h _ List.mem_cons_self,qqS λu hu=>h u (List.mem_cons_of_mem _ hu)];rfl
noncomputable def Mu.on(U:Mu)(c:Ct):Mu:=⟨U.l++[c],U.k⟩
theorem Mu.add_on{c:Ct}(h:ubC c=0):U.add c=U.on c:=Mu.add_k (by omega)
@[simp] theorem Mu.on_at{c:Ct}:(U.on c).l[U.l.length]? =some c:=by show(U.l++[c])[_]? =_;simp
theorem Mu.on_put{c c':Ct}(h:ubC c'=0):(U.on c).put U.l.length c'=U.on c':=by rw[Mu.put_k (by omega)];show Mu.mk _ _=_;simp[Mu.on]
end
abbrev Row:=Int×Str×Int
noncomputable def qaW(r:Row):T:=.tup [.int r.1,.str r.2.1,.int r.2.2]
abbrev keyOk:=PL.keyOk
abbrev rowOk:=PL.rowOk
noncomputable def qmM(ns:List Int)(k:Int):Int:=if k<(ns.length:Int) then ns.getD k.toNat 0 else if ns=[] then 0 else ns.getD (k % (ns.length:Int)).toNat 0*31+k
noncomputable def qco(ns:List Int)(k:Int):Int:=(qmM ns k+6151*(k+1))*40692 % 2147483399
noncomputable def qaj(ns:List Int)(k many:Int):Int:=(qco ns k*qco ns k+qco ns k / 31) % 2147483629 % many
theorem qaO(h:0<many):0<=qaj ns k many:=Int.emod_nonneg _ (by omega)
theorem qaK(h:0<many):qaj ns k many<many:=Int.emod_lt_of_pos _ h
abbrev Oo:=CE.o2 false
abbrev Ci(i:Int):=CE.c (.int i)
abbrev Cs(i:Str):=CE.c (.str i)
abbrev vA0:=CE.v 0
abbrev vA1:=CE.v 1
abbrev vA2:=CE.v 2
abbrev vA3:=CE.v 3
abbrev vA4:=CE.v 4
abbrev v5:=CE.v 5
abbrev v6:=CE.v 6
abbrev v7:=CE.v 7
abbrev v8:=CE.v 8
abbrev v9:=CE.v 9
noncomputable def qfx:Fcd:=⟨false,2,2,[.ife (Oo .lt vA1 (.bn false .len [vA0])) [.ret (Oo .ix vA0 vA1)] [],.ife (Oo .eq vA0 (.lst false [])) [.ret (Ci 0)] [],.ret (Oo .add (Oo .mul (Oo .ix vA0 (Oo .mod vA1 (.bn false .len [vA0]))) (Ci 31)) vA1)]⟩
noncomputable def qkt(c:Nat):Fcd:=⟨false,3,4,[.set 3 (Oo .mod (Oo .mul (Oo .add (.call c [vA0,vA1]) (Oo .mul (Ci 6151) (Oo .add vA1 (Ci 1)))) (Ci 40692)) (Ci 2147483399)),.ret (Oo .mod (Oo .mod (Oo .add (Oo .mul vA3 vA3) (Oo .div vA3 (Ci 31))) (Ci 2147483629)) vA2)]⟩
noncomputable def qku(p:Nat):Fcd:=⟨false,2,5,[.set 2 (Cs "abcdefghijklmnopqrstuvwxyz"),.set 3 (.call p [vA0,vA1,(Ci 16)]),.ife (Oo .gt vA3 (Ci 0)) [.ret (Oo .ix (.lst false [(Cs "a"),(Cs "b"),(Cs "ab")]) (Oo .mod vA3 (Ci 3)))] [],.set 4 (Oo .ix vA2 (.call p [vA0,(Oo .add vA1 (Ci 1)),(Ci 26)])),.ife (Oo .eq (.call p [vA0,(Oo .add vA1 (Ci 2)),(Ci 2)]) (Ci 0)) [.ret vA4] [],.ret (Oo .add vA4 (Oo .ix vA2 (.call p [vA0,(Oo .add vA1 (Ci 3)),(Ci 26)])))]⟩
noncomputable def qcE(p:Nat):Fcd:=⟨false,3,3,[.ife (Oo .eq (.call p [vA0,vA1,(Ci 8)]) (Ci 0)) [.ret (Oo .sub (.call p [vA0,(Oo .add vA1 (Ci 1)),(Oo .add (Oo .mul (Ci 2) vA2) (Ci 1))]) vA2)] [],.ret (Oo .sub (.call p [vA0,(Oo .add vA1 (Ci 1)),(Ci 9)]) (Ci 4))]⟩
section
theorem qqc(h0:0<=k):qfx.run F [.scr ns,.int k] U= .ok (.int (qmM ns k)) U:=by
 refine qaw rfl ?_;unfold qmM;by_cases c1:k<(ns.length:Int)
 ·have e:ixT ns k=some (ns.getD k.toNat 0):=by rw[qbu h0,List.getElem?_eq_getElem (by omega),List.getD_eq_getElem?_getD,List.getElem?_eq_getElem (by omega)];rfl
  simp[qfx,c1,e]
 ·by_cases c2:ns=[]
  ·subst c2;have c1: ¬k<0:=by omega
   simp[qfx,c1]
  ·have hl:=List.length_pos_iff.mpr c2;have m0:0<=k % (ns.length:Int):=Int.emod_nonneg _ (by omega);have m1:k % (ns.length:Int)<(ns.length:Int):=Int.emod_lt_of_pos _ (by omega);have e:ixT ns (k % (ns.length:Int))=some (ns.getD (k % (ns.length:Int)).toNat 0):=by rw[qbu m0,List.getElem?_eq_getElem (by omega),List.getD_eq_getElem?_getD,List.getElem?_eq_getElem (by omega)];rfl
   simp[qfx,c1,c2,e,hl]
theorem qoy(hc:F c [.scr ns,.int k] U= .ok (.int (qmM ns k)) U)(hm:0<m):(qkt c).run F [.scr ns,.int k,.int m] U= .ok (.int (qaj ns k m)) U:=by
 refine qaw rfl ?_;have d0:0<=qco ns k:=Int.emod_nonneg _ (by decide);have d1:qco ns k<2147483399:=Int.emod_lt_of_pos _ (by decide);have d2: -4294967296<=qco ns k/\qco ns k<=4294967296:=⟨by omega,by omega⟩
 unfold qaj;unfold qco at*;simp[qkt,hc,hm,d2]
structure Drw(F:Fs)(p:Nat)(ns:List Int):Prop where
 p: ∀{U:Mu}{k m:Int},0<=k->0<m->F p [.scr ns,.int k,.int m] U= .ok (.int (qaj ns k m)) U
noncomputable def qo9:Str:= "abcdefghijklmnopqrstuvwxyz"
theorem qh8: ∀i:Nat,i<26->qo9.cps.toList[i]? =some (97+i):=by decide+kernel
noncomputable def qbf(i:Int):Str:=⟨#[97+i.toNat]⟩
theorem qhg(h:0<=i/\i<26):O2.g .ix U (.str "abcdefghijklmnopqrstuvwxyz") (.int i)=some (.v (.str (qbf i))):=by rw[qvx (by decide),qbu h.1];rw[show(Str.cps "abcdefghijklmnopqrstuvwxyz").toList[i.toNat]? =some _ from qh8 _ (by omega)];rfl
noncomputable def qnq(ns:List Int)(k:Int):Str:=
 if 0<qaj ns k 16 then(([("a" :Str), "b", "ab"].getD (qaj ns k 16 % 3).toNat "a"))
 else if qaj ns (k+2) 2=0 then qbf (qaj ns (k+1) 26) else qbf (qaj ns (k+1) 26)++qbf (qaj ns (k+3) 26)
noncomputable def qhZ(ns:List Int)(k most:Int):Int:=if qaj ns k 8=0 then qaj ns (k+1) (2*most+1) - most else qaj ns (k+1) 9 - 4
theorem qsl(D:Drw F p ns)(h0:0<=k):(qku p).run F [.scr ns,.int k] U= .ok (.str (qnq ns k)) U:=by
 refine qaw rfl ?_;unfold qnq;have p0:=D.p (U:=U) (k:=k) (m:=16) h0 (by decide);have p1:=D.p (U:=U) (k:=k+1) (m:=26) (by omega) (by decide);have p2:=D.p (U:=U) (k:=k+2) (m:=2) (by omega) (by decide);have p3:=D.p (U:=U) (k:=k+3) (m:=26) (by omega) (by decide);have g1:=qhg (U:=U) ⟨qaO (ns:=ns) (k:=k+1) (many:=26) (by decide),qaK (by decide)⟩;have g3:=qhg (U:=U) ⟨qaO (ns:=ns) (k:=k+3) (many:=26) (by decide),qaK (by decide)⟩;have z: ∀i j:Int,(qbf i).length+(qbf j).length<=100000:=λ_ _=>by show 1+1<=100000;decide
 by_cases c:0<qaj ns k 16
 ·have a0:0<=qaj ns k 16 % 3:=by omega
  have a1:qaj ns k 16 % 3<3:=by omega
  have e:ixT [T.str "a",.str "b",.str "ab"] (qaj ns k 16 % 3)=some (.str ([("a" :Str), "b", "ab"].getD (qaj ns k 16 % 3).toNat "a")):=by
   generalize qaj ns k 16 % 3=v at*;rw[qbu a0];have:v=0\/v=1\/v=2:=by omega
   rcases this with rfl|rfl|rfl<;>rfl
  simp[qku,p0,c,e]
 ·by_cases c2:qaj ns (k+2) 2=0
  ·simp[qku,p0,c,p1,p2,c2,g1]
  ·simp[qku,p0,c,p1,p2,c2,g1,p3,g3,z]
theorem qpe(ns:List Int)(k:Int):keyOk (qnq ns k):=by
 unfold qnq;have b1:=qaO (ns:=ns) (k:=k+1) (many:=26) (by decide);have b2:=qaK (ns:=ns) (k:=k+1) (many:=26) (by decide);have b3:=qaO (ns:=ns) (k:=k+3) (many:=26) (by decide);have b4:=qaK (ns:=ns) (k:=k+3) (many:=26) (by decide);split
 ·have: ∀v:Nat,keyOk ([("a" :Str), "b", "ab"].getD v "a"):=λv=>by
   have a:keyOk "a" :=⟨by decide,λc hc=>by revert c;decide⟩
   have b:keyOk "b" :=⟨by decide,λc hc=>by revert c;decide⟩
   have d:keyOk "ab" :=⟨by decide,λc hc=>by revert c;decide⟩
   match v with
   |0=>exact a
   |1=>exact b
   |2=>exact d
   |_+3=>exact a
  exact this _
 ·split
  ·refine⟨⟨Vl 1,by show 1<=2;decide⟩,λc hc=> ?_⟩;have:c=97+(qaj ns (k+1) 26).toNat:=by simpa [qbf] using hc
   omega
  ·refine⟨⟨by show 1<=2;decide,Vl 2⟩,λc hc=> ?_⟩;have hc:c∈[97+(qaj ns (k+1) 26).toNat,97+(qaj ns (k+3) 26).toNat]:=hc;simp at hc;omega
theorem qr7(D:Drw F p ns)(h0:0<=k)(hm:0<=most):(qcE p).run F [.scr ns,.int k,.int most] U= .ok (.int (qhZ ns k most)) U:=by
 refine qaw rfl ?_;unfold qhZ;have p0:=D.p (U:=U) (k:=k) (m:=8) h0 (by decide);have p1:=D.p (U:=U) (k:=k+1) (m:=2*most+1) (by omega) (by omega);have p2:=D.p (U:=U) (k:=k+1) (m:=9) (by omega) (by decide);by_cases c:qaj ns k 8=0
 ·simp[qcE,p0,p1,c]
 ·simp[qcE,p0,p2,c]
theorem qoW(hm:4<=most): -most<=qhZ ns k most/\qhZ ns k most<=most:=by
 unfold qhZ;have b1:=qaO (ns:=ns) (k:=k+1) (many:=2*most+1) (by omega);have b2:=qaK (ns:=ns) (k:=k+1) (many:=2*most+1) (by omega);have b3:=qaO (ns:=ns) (k:=k+1) (many:=9) (by decide);have b4:=qaK (ns:=ns) (k:=k+1) (many:=9) (by decide)
 split<;>omega
theorem qd7(h:m.l[k]? =some (.ls ts)):qfX m (.obj k)= "list" :=by
 have e:qe3 m (.obj k)=some ts:=by
  have:qeK m (.obj k)=some (true,ts):=by show sqv m (.obj k)=_;simp only[sqv,h]
  simp only[qe3,this]
 unfold qfX;rw[e];rfl
theorem qhA(h:m.l[k]? =some (.ls ts))(hl:ts.length<=1000):nvR ow (Bm.g .append m [.obj k,x]) m= .ok .non (m.put k (.ls (ts++[x]))):=by
 have e:Bm.g .append m [.obj k,x]=some (.p k (.ls (ts++[x])) .non):=by show(qg3 m _).bind _=_;simp only[qg3,h];exact if_pos hl
 rw[e,qtY (qcU h (by simp))]
theorem qqT(r:Row):ub (qaW r)=0:=rfl
end
noncomputable def qks:Fcd:=⟨false,1,1,[.ret (.and (.inst "int" vA0) (.nt (.inst "bool" vA0)))]⟩
noncomputable def qen(w:Nat):Fcd:=⟨false,3,3,[.ret (.and (.call w [vA0]) (.chain .le .le vA1 vA0 vA2))]⟩
noncomputable def qkr:Fcd:=⟨false,2,2,[.ife (.or (.nt (.inst "str" vA0)) (.nt (.chain .le .le (Ci 1) (.bn false .len [vA0]) vA1))) [.ret (.c (.bl false))] [],.ret (.bn false .all [(.comp false false 1 [] (.n 0) (.gen vA0) none (.chain .le .le (Cs "a") vA0 (Cs "z")))])]⟩
noncomputable def qgw(w:Nat):Fcd:=⟨false,1,1,[.ret (.call w [vA0,(Ci 2)])]⟩
noncomputable def qgu(w k:Nat):Fcd:=⟨false,1,1,[.ife (.or (.nt (.inst "tuple" vA0)) (Oo .ne (.bn false .len [vA0]) (Ci 3))) [.ret (.c (.bl false))] [],.ife (.or (.nt (.call w [(Oo .ix vA0 (Ci 0)),(Ci 0),(Ci 99)])) (.nt (.call k [(Oo .ix vA0 (Ci 1))]))) [.ret (.c (.bl false))] [],.ret (.call w [(Oo .ix vA0 (Ci 2)),(.neg (Ci 99)),(Ci 99)])]⟩
noncomputable def qgp(r:Nat):Fcd:=⟨false,1,1,[.ife (.nt (.bn false .all [(.comp false false 1 [] (.n 0) (.gen vA0) none (.call r [vA0]))])) [.raise "NoRow"] []]⟩
section
theorem qhB{U:Mu}{α:Type}{l:List α}{p:α->Bool}:Bn.g .all U [.lst (l.map λa=>.bl (p a))]=some (.v (.bl (l.all p))):=by
 have:(l.map λa=>T.bl (p a))=(l.map p).map T.bl:=by rw[List.map_map];rfl
 rw[this,qwe,List.all_map];rfl
theorem qt6{α:Type}(l:List α):(l.all λ_=>true)=true:=List.all_eq_true.mpr λ_ _=>rfl
theorem qkZ:qks.run F [.int i] U= .ok (.bl true) U:=qaw rfl (rfl)
theorem qix(h:F w [.int i] U= .ok (.bl true) U):(qen w).run F [.int i,.int a,.int b] U= .ok (.bl (decide (a<=i)&&decide (i<=b))) U:=by refine qaw rfl ?_;by_cases c:a<=i<;>simp[qen,h,c]
theorem qoe(h:97<=c/\c<=122):qhN ⟨#[c]⟩ "a" =false/\qhN "z" ⟨#[c]⟩=false:=by
 have e1:("a" :Str).cps.toList=[97]:=rfl;have e2:("z" :Str).cps.toList=[122]:=rfl;have n1: ¬([c])<[97]:=by
  rw[List.cons_lt_cons_iff]
  grind
 have n2: ¬([122])<[c]:=by
  rw[List.cons_lt_cons_iff]
  grind
 constructor
 ·show decide _=_
  grind
 ·show decide _=_
  grind
theorem qnT{F:Fs}{U:Mu}{x:Str}(h:keyOk x):qkr.run F [.str x,.int 2] U= .ok (.bl true) U:=by
 have l1:(1:Int)<=x.length:=by have:=h.1.1;omega
 have l2:(x.length:Int)<=2:=by have:=h.1.2;omega
 have l3:x.length<=1000:=by omega
 refine qaw rfl ?_;have cm:=qfu (F:=F) (U:=U) (ρ:=[some (.str x),some (.int 2)]) (x:=false) (fr:=[]) (ci:=.gen vA0) (e:=.chain .le .le (Cs "a") vA0 (Cs "z")) _ _ (λ_=>.bl true) (qhe (t:=.str x) (by simp) (if_pos l3)) λc hc=>by have:=qoe (h.2 c hc);simp[this]
 simp[qkr,qkW,l1,l2,qtI (show x.length<=100000 by omega),cm,qhB]
theorem ql1{x:Str}(h:F w [.str x,.int 2] U= .ok (.bl true) U):(qgw w).run F [.str x] U= .ok (.bl true) U:=qaw rfl (by simp[qgw,h])
theorem ql0(h:rowOk r)(hw: ∀i a b:Int,F w [.int i,.int a,.int b] U= .ok (.bl (decide (a<=i)&&decide (i<=b))) U)(hk: ∀x:Str,keyOk x->F k [.str x] U= .ok (.bl true) U):(qgu w k).run F [qaW r] U= .ok (.bl true) U:=by obtain⟨⟨h1,h2⟩,h3,h4,h5⟩:=h;exact qaw rfl (by simp[qgu,qaW,qkW,hw,hk _ h3,h1,h2,h4,h5])
theorem qlJ{F:Fs}{U:Mu}{r:Nat}{t:T}{rs:List Row}(ht:itv U t=some (rs.map qaW))(h: ∀x∈rs,rowOk x)(hr: ∀x:Row,rowOk x->F r [qaW x] U= .ok (.bl true) U):(qgp r).run F [t] U= .ok .non U:=by
 refine qaw rfl ?_;have cm:=qfu (F:=F) (ρ:=[some t]) (x:=false) (fr:=[]) (ci:=.gen vA0) (e:=.call r [vA0]) rs _ (λ_=>.bl true) (qhe (by simp) ht) λx hx=>by simp[hr x (h x hx)]
 simp[qgp,cm,qhB]
end
theorem qas(h:qaG F s ρ U= .ok (.nx ρ') μ')(h':(runSs F ss ρ' μ').bind k=r):(runSs F (s::ss) ρ U).bind k=r:=by simp_all
theorem qk7(h:qaG F s ρ U= .ok (.rt t) μ'):(runSs F (s::ss) ρ U).bind outT= .ok t μ':=by simp_all
theorem qsI{α:Type}(l:List α)(f:α->T)(J:List α->Ro->Mu->Prop)(ht:ts=l.map f)(hi: ∃it,runI F ci ρ U= .ok it U/\(it= .fx ts\/∃q,it= .lv q/\U.l[q]? =some (.ls ts)/\∀d ρ' μ',J d ρ' μ'->μ'.l[q]? =some (.ls ts)))(h0:J [] ρ U)(hs: ∀d a r,l=d++a::r->∀ρ U,J d ρ U->∃az ai,(runG g (f a) ρ U).bind (runSs F b)= .ok (.nx az) ai/\J (d++[a]) az ai): ∃ρ' μ',qaG F (.for_ g ci b) ρ U= .ok (.nx ρ') μ'/\J l ρ' μ':=by
 refine Classical.byContradiction λhc=> ?_;cases q:qaG F (.for_ g ci b) ρ U with
 |no=>
  have:=qef (k:=λ_ m=>R.ok () ⟨[],[]⟩) l f J ht hi h0 hs (λρ' μ' j=>rfl)
  simp_all
 |ex c m=>
  have:=qef (k:=λ_ m=>R.ok () ⟨[],[]⟩) l f J ht hi h0 hs (λρ' μ' j=>rfl)
  simp_all
 |ok o m=>
  have:=qef (k:=λo m=>match o with|.nx ρ'=>(open Classical in if J l ρ' m then R.ok () ⟨[],[]⟩ else R.no)|_=>R.no) (r:=R.ok () ⟨[],[]⟩) l f J ht hi h0 hs (λρ' μ' j=>by simp[j]);rw[q] at this;cases o with
  |nx ρ'=>
   simp_all
  |_=>cases this
structure Sto(U m:Mu)(cs:List Ct):Prop where
 l:m.l=U.l++cs
 k: ∃ks,m.k=ks++U.k/\∀p∈ks,U.l.length<=p.1
namespace Sto
end Sto
section
theorem qo1(h:U.l[k]? =some (.dk ts)):qfX U (.obj k)= "dict" :=by
 have e:qe3 U (.obj k)=none:=by
  have:qeK U (.obj k)=none:=by show sqv U (.obj k)=_;simp only[sqv,h]
  simp only[qe3,this]
 have e2:dkO U (.obj k)=some ts:=by simp only[dkO,h]
 unfold qfX;rw[e,e2];rfl
theorem qq8(h:qe3 U t=some ts)(hm:0<=m):gSl U t none (some m)=some (.l (ts.take m.toNat)):=by
 have e:qp4 ts none (some m)=ts.take m.toNat:=by unfold qp4;rw[HT.sIx_none,show(some m)=some (m.toNat:Int) by rw[Int.toNat_of_nonneg hm],HT.sIx_nat,Nat.sub_zero];simp
 have e2:=by
  unfold qe3 at h;split at h
  ·rename_i q;cases h;exact q
  ·cases h
 unfold gSl
 simp_all
theorem qx6(h:xs.length+ys.length<=900):nvR false (O2.g .add U (.tup xs) (.tup ys)) U= .ok (.tup (xs++ys)) U:=by
 cases xs with
 |nil=>rfl
 |cons x xs=>
  cases ys with
  |nil=>rw[qpn,if_pos (by simp at h;omega)];simp
  |cons y ys=>rw[qsC,if_pos (by simp at h;omega)];rfl
@[simp] theorem qtZ:qe3 U (.lst ts)=some ts:=rfl
end
end NV
namespace Wk
open PySem NV L2
theorem qud{g:Gx}{cds:List (Nat×Fcd)}(ok:(cds.map λp=>(g.fs[p.1]?).map (cFn g))=cds.map λp=>some p.2){j i:Nat}{c:Fcd}(h:cds[j]? =some (i,c))(k:Nat):TTf g (k+1) i=c.run (TTf g k):=by have e:=congrArg (λl=>l[j]?) ok;simp only[List.getElem?_map,h,Option.map_some] at e;obtain⟨p,e1,e2⟩:=Option.map_eq_some_iff.mp (Option.some.inj e);show(match g.fs[i]? with|some p=>(cFn g p).run _|none=>λ_ _=>.no)=_;rw[e1,<-e2]
section
theorem kd(a k:Str):decide ((Sum.inr a:Key)= .inr k)=decide (a=k):=decide_eq_decide.mpr ⟨λh=>by injection h,λh=>by rw[h]⟩
theorem qa0{U:Mu}{c:Fcd}{ts:List T}{m:Mu}(hl:ts.length=c.n)(h:(runSs F c.b (ts.map some++List.replicate (c.N - c.n) none) U).bind outT= .ok t m)(hm:m.l.length=U.l.length):c.run F ts U= .ok t m:=by
 unfold Fcd.run fnR;rw[if_pos hl,h];unfold NV.lv;split
 ·rfl
 ·exact if_pos hm
inductive Sp where
 |key (y:Str)|over (n:Int)|under (n:Int)|plus (n:Int)|times (n:Int)
 |first(n:Int)|each (n:Int)|window (n:Int)|running|change|unlike
noncomputable def Sp.T:Sp->T
 |.key y=>.tup [.str "key",.str y]
 |.over n=>.tup [.str "over",.int n]
 |.under n=>.tup [.str "under",.int n]
 |.plus n=>.tup [.str "plus",.int n]
 |.times n=>.tup [.str "times",.int n]
 |.first n=>.tup [.str "first",.int n]
 |.each n=>.tup [.str "each",.int n]
 |.window n=>.tup [.str "window",.int n]
 |.running=>.tup [.str "running"]
 |.change=>.tup [.str "change"]
 |.unlike=>.tup [.str "unlike"]
theorem qcs(h:qac F e ρ U= .ok t μ'):(runSs F (.ret e::ss) ρ U).bind outT= .ok t μ':=qk7 (by rw[qa4,h];rfl)
theorem qbl(h:qac F e ρ U= .ok (.bl true) U):qaG F (.ife e a b) ρ U=runSs F a ρ U:=by rw[qbX,h];rfl
theorem qdr(h:qac F e ρ U= .ok (.bl false) U):qaG F (.ife e a b) ρ U=runSs F b ρ U:=by rw[qbX,h];rfl
theorem qbN(h:qac F e ρ U= .ok (.bl true) U)(h2:runSs F a ρ U= .ok (.rt t) μ'):(runSs F (.ife e a b::ss) ρ U).bind outT= .ok t μ':=qk7 (by rw[qbl h,h2])
theorem qam(h:qac F e ρ U= .ok (.bl false) U)(h2:(runSs F ss ρ U).bind outT= .ok t μ'):(runSs F (.ife e a []::ss) ρ U).bind outT= .ok t μ':=qas (by rw[qdr h];rfl) h2
theorem qm8(rs:List Row):ub (.lst (rs.map qaW))=0:=qk4 λt ht=>by obtain⟨r,_,rfl⟩:=List.mem_map.mp ht;exact qqT r
abbrev Ris(rs:List Row):Prop:=rs.Pairwise λa b=>a.1<=b.1
section
theorem qa1{m c:Str}(ho:qac F o ρ U= .ok (.obj k) U)(hk:U.l[k]? =some (.ins c fs))(hi:ms.lookup c=some i)(hn:fs.lookup m=none):qac F (.mth ms m o es) ρ U=(runA F es ρ U).bind λts U=>F i (.obj k::ts) U:=by show qil _ _ _ _ ρ U=_;unfold qil dSq;rw[ho,qaa];simp only[qsw,hk,hi,hn,Option.map_some,Option.isNone_none,if_true]
theorem qpy{cs:List Str}{f c:Str}(hk:U.l[k]? =some (.ins c fs))(hc:cs.contains c=true)(hf:fs.lookup f=some t):qnx (λc _=>cs.contains c) f (.obj k) U= .ok t U:=by simp only[qnx,hk,hf];rw[if_pos hc]
theorem qbv{cs:List Str}{f c:Str}(hk:U.l[k]? =some (.ins c fs))(hc:cs.contains c=true)(hl:fs.length<1000):qsN (λc _=>cs.contains c) f t (.obj k) U= .ok () (U.put k (.ins c (qrs f t fs))):=by simp only[qsN,hk];simp_all
end
noncomputable def qgv:Fcd:=⟨false,1,1,[.ret (.bn false .all [(.comp false false 2 [] (.tup [(.n 0),(.n 1)]) (.by_ .zip [vA0,(.sl false vA0 (some (Ci 1)) none)]) none (Oo .le (Oo .ix vA0 (Ci 0)) (Oo .ix vA1 (Ci 0))))])]⟩
noncomputable def qgo(l:Nat):Fcd:=⟨false,1,1,[.ife (.nt (.call l [vA0])) [.raise "TooLate"] []]⟩
noncomputable def qgq(r o:Nat):Fcd:=⟨false,1,1,[.exp (.call r [vA0]),.exp (.call o [vA0])]⟩
noncomputable def qf5(rs:List Row):Bool:=(rs.zip (rs.drop 1)).all λp=>decide (p.1.1<=p.2.1)
theorem qfc: ∀{rs:List Row},Ris rs->qf5 rs=true
 |[],_=>rfl
 |[_],_=>rfl
 |a::b::rs,h=>by have h1:=List.pairwise_cons.mp h;have:=qfc h1.2;unfold qf5 at*;simp only[List.drop_succ_cons,List.drop_zero,List.zip_cons_cons,List.all_cons,Bool.and_eq_true,decide_eq_true_eq] at*;exact⟨h1.1 b Vj,this⟩
theorem qq7(h:qe3 U t=some ts):gSl U t (some 1) none=some (.l (ts.drop 1)):=by
 have e:qp4 ts (some 1) none=ts.drop 1:=by
  unfold qp4;rw[HT.sIx_none,show(some 1)=some ((1:Nat):Int) from rfl,HT.sIx_nat];cases ts with
  |nil=>rfl
  |cons x ts=>simp
 have e2:=by
  unfold qe3 at h;split at h
  ·rename_i q;cases h;exact q
  ·cases h
 unfold gSl
 simp_all
theorem qlY(hl:rs.length<=900):qgv.run F [.lst (rs.map qaW)] U= .ok (.bl (qf5 rs)) U:=by
 refine qaw rfl ?_;have sl:qac F (.sl false vA0 (some (Ci 1)) none) [some (.lst (rs.map qaW))] U= .ok (.lst ((rs.drop 1).map qaW)) U:=by rw[List.map_drop];show nvR false (gSl U (.lst _) _ _) U=_;rw[qq7 rfl];rfl
 have z:=by have:=qsu (e:=.v 0) rfl sl;unfold qnS at this;rw[List.zip_map,List.map_map] at this;exact this
 have cm:=qtu (x:=false) (fr:=[]) (e:=Oo .le (Oo .ix vA0 (Ci 0)) (Oo .ix vA1 (Ci 0))) _ (λp=>.bl (decide _)) z λp _=>rfl;simp[qgv,cm,qhB,qf5]
theorem qlC(h:F l [t] U= .ok (.bl true) U):(qgo l).run F [t] U= .ok .non U:=qaw rfl (by simp[qgo,h])
theorem qlH(h:F r [t] U= .ok .non U)(h':F o [t] U= .ok .non U):(qgq r o).run F [t] U= .ok .non U:=qaw rfl (by simp[qgq,h,h'])
noncomputable def Sp.fine:Sp->Prop
 |.key y=>keyOk y
 |.over n|.under n|.plus n|.times n=> -20<=n/\n<=20
 |.first n|.each n|.window n=>1<=n/\n<=20
 |_=>True
noncomputable def qnI(k w:Nat):Fcd:=⟨false,1,2,[.ife (.or (.nt (.inst "tuple" vA0)) (.or (Oo .eq (.bn false .len [vA0]) (Ci 0)) (.nt (.inst "str" (Oo .ix vA0 (Ci 0)))))) [.ret (.c (.bl false))] [],.set 1 (Oo .ix vA0 (Ci 0)),.ife (.topin false [("running", "running"),("change", "change"),("unlike", "unlike")] vA1) [.ret (Oo .eq (.bn false .len [vA0]) (Ci 1))] [],.ife (Oo .ne (.bn false .len [vA0]) (Ci 2)) [.ret (.c (.bl false))] [],.ife (Oo .eq vA1 (Cs "key")) [.ret (.call k [(Oo .ix vA0 (Ci 1))])] [],.ife (.topin false [("over", "over"),("under", "under"),("plus", "plus"),("times", "times")] vA1) [.ret (.call w [(Oo .ix vA0 (Ci 1)),(.neg (Ci 20)),(Ci 20)])] [],.ret (.and (.topin false [("first", "first"),("each", "each"),("window", "window")] vA1) (.call w [(Oo .ix vA0 (Ci 1)),(Ci 1),(Ci 20)]))]⟩
noncomputable def qkv(s:Nat):Fcd:=⟨false,1,1,[.ife (.or (.nt (.inst "tuple" vA0)) (Oo .gt (.bn false .len [vA0]) (Ci 5))) [.ret (.c (.bl false))] [],.ret (.bn false .all [(.comp false false 1 [] (.n 0) (.gen vA0) none (.call s [vA0]))])]⟩
noncomputable def qgr(a:Nat):Fcd:=⟨false,1,1,[.ife (.nt (.call a [vA0])) [.raise "NoAsk"] []]⟩
theorem qn9{k w:Nat}{p:Sp}(h:p.fine)(hw: ∀i a b:Int,F w [.int i,.int a,.int b] U= .ok (.bl (decide (a<=i)&&decide (i<=b))) U)(hk: ∀x:Str,keyOk x->F k [.str x] U= .ok (.bl true) U):(qnI k w).run F [p.T] U= .ok (.bl true) U:=by
 have num: ∀{a b i:Int},a<=i/\i<=b->F w [.int i,.int a,.int b] U= .ok (.bl true) U:=λ{a b i} q=>by rw[hw,decide_eq_true q.1,decide_eq_true q.2];rfl
 refine qaw rfl ?_;cases p with
 |key y=>exact qam rfl (qas rfl (qam rfl (qam rfl (qbN rfl (by rw[qag,qa4,qbt];show R.bind (R.bind (F k [.str y] U) _) _=_;rw[hk y h];rfl)))))
 |over n|under n|plus n|times n=>exact qam rfl (qas rfl (qam rfl (qam rfl (qam rfl (qbN rfl (by rw[qag,qa4,qbt];show R.bind (R.bind (F w [.int n,.int (-20),.int 20] U) _) _=_;rw[num h];rfl))))))
 |first n|each n|window n=>exact qam rfl (qas rfl (qam rfl (qam rfl (qam rfl (qam rfl (qcs (show F w [.int n,.int 1,.int 20] U=_ from num h)))))))
 |running|change|unlike=>exact qam rfl (qas rfl (qbN rfl rfl))
theorem qtK{s:Nat}{ps:List Sp}(hl:ps.length<=5)(h: ∀p∈ps,F s [p.T] U= .ok (.bl true) U):(qkv s).run F [.tup (ps.map Sp.T)] U= .ok (.bl true) U:=by
 refine qaw rfl ?_;have cm:=qfu (F:=F) (U:=U) (ρ:=[some (.tup (ps.map Sp.T))]) (x:=false) (fr:=[]) (ci:=.gen vA0) (e:=.call s [vA0]) ps Sp.T (λ_=>.bl true) (qhe (t:=.tup _) (by simp) rfl) λx hx=>by simp[h x hx]
 change (runSs F _ [some _] U).bind _=_
 refine qam ?_ (qcs (by rw[qbc,qae,cm];simp[qhB]));have: ¬(5:Int)<ps.length:=by omega
 have gi:qc3 "tuple" (.tup (ps.map Sp.T)) U= .ok (.bl true) U:=rfl;simp[this,gi]
theorem qlI(h:F a [t] U= .ok (.bl true) U):(qgr a).run F [t] U= .ok .non U:=qaw rfl (by simp[qgr,h])
end
end Wk
namespace Dk
open PySem NV L2 Wk
abbrev As:=List (Str×NV.T)
abbrev St3:=Str×List Row×As
noncomputable def asT(a:As):NV.T:=.dct (a.map λp=>((.inr p.1:Key),p.2))
noncomputable def qbe(l:List Row):NV.T:=.lst (l.map qaW)
noncomputable def stT(s:St3):NV.T:=.tup [.str s.1,qbe s.2.1,asT s.2.2]
structure Dsk where
 log:List Row
 asks:As
 past:List St3
 coming:List St3
abbrev fD(d:Dsk)(p c:Nat):List (Str×NV.T):=[("log",qbe d.log),("asks",asT d.asks),("past",.obj p),("coming",.obj c)]
structure DS(U:Mu)(x p c:Nat)(d:Dsk):Prop where
 ins:U.l[x]? =some (.ins "Desk" (fD d p c))
 ps:U.l[p]? =some (.ls (d.past.map stT))
 cm:U.l[c]? =some (.ls (d.coming.map stT))
 ne:x≠p/\x≠c/\p≠c
 ua: ∀q∈d.asks,ub q.2=0
 up: ∀s∈d.past,∀q∈s.2.2,ub q.2=0
 uc: ∀s∈d.coming,∀q∈s.2.2,ub q.2=0
structure On(U μ':Mu)(x p c:Nat):Prop where
 len:μ'.l.length=U.l.length
 old: ∀j,j≠x->j≠p->j≠c->μ'.l[j]? =U.l[j]?
 kk: ∃ks,μ'.k=ks++U.k/\∀q∈ks,q.2<=max p c+1
theorem qnZ: ∀{a:As},(∀q∈a,ub q.2=0)->ub (asT a)=0
 |[],_=>rfl
 |q::a,h=>by
  have ih:=qnZ λr hr=>h r (Vk _ hr);show max _ (ub (asT a))=0
  simp_all
theorem qm7{ss:List St3}(h: ∀s∈ss,∀q∈s.2.2,ub q.2=0):ubC (.ls (ss.map stT))=0:=qk4 λt ht=>by obtain⟨s,hs,rfl⟩:=List.mem_map.mp ht;show max 0 (max _ (max _ 0))=0;rw[qnZ (h s hs),show ub (qbe _)=0 from qm8 _];rfl
section
theorem On.refl:On U U x p c:=⟨rfl,λ_ _ _ _=>rfl,[],rfl,λ_ h=>nomatch h⟩
theorem On.trans(a:On U af x p c)(b:On af ai x p c):On U ai x p c:=⟨b.len.trans a.len,λj h1 h2 h3=>(b.old j h1 h2 h3).trans (a.old j h1 h2 h3),by
 obtain⟨k1,e1,q1⟩:=a.kk;obtain⟨k2,e2,q2⟩:=b.kk;refine⟨k2++k1,by simp_all,λq hq=> ?_⟩
 rcases List.mem_append.mp hq with h|h
 ·exact q2 q h
 ·exact q1 q h⟩
theorem qgU{U:Mu}{k:Nat}(h:U.l[k]? =some e):(U.put k f).l[k]? =some f:=by rw[Mu.put_l,List.getElem?_set_self (List.getElem?_eq_some_iff.mp h).1]
theorem qbm{U:Mu}{k j:Nat}(h:k≠j):(U.put k f).l[j]? =U.l[j]? :=by
 simp_all
theorem qiX{U:Mu}{k n:Nat}(h:ubC f<=n): ∃ks,(U.put k f).k=ks++U.k/\∀q∈ks,q.2<=n:=by
 unfold Mu.put;by_cases q:ubC f<=k
 ·simp_all
 ·exact⟨[(k,ubC f)],by simp[q],λr hr=>by simp_all⟩
theorem ubI(ha: ∀q∈a,ub q.2=0):ubC (.ins "Desk" (fD ⟨l,a,ss,tt⟩ p c))<=max p c+1:=by show max _ (max _ (max (p+1) (max (c+1) 0)))<=_;rw[qnZ ha,show ub (qbe l)=0 from qm8 l];omega
theorem DS.put{U:Mu}{d:Dsk}(h:DS U x p c d)(l:List Row)(ha: ∀q∈a,ub q.2=0):DS (U.put x (.ins "Desk" (fD ⟨l,a,d.past,d.coming⟩ p c))) x p c ⟨l,a,d.past,d.coming⟩/\On U (U.put x (.ins "Desk" (fD ⟨l,a,d.past,d.coming⟩ p c))) x p c:=
 ⟨⟨qgU h.ins,(qbm h.ne.1).trans h.ps,(qbm h.ne.2.1).trans h.cm,h.ne,ha,h.up,h.uc⟩,⟨by simp,λj h1 _ _=>qbm (Ne.symm h1),qiX (ubI ha)⟩⟩
theorem DS.putP{U:Mu}(h:DS U x p c d){s:List St3}(hs: ∀y∈s,∀q∈y.2.2,ub q.2=0):DS (U.put p (.ls (s.map stT))) x p c { d with past:=s }/\On U (U.put p (.ls (s.map stT))) x p c:=
 ⟨⟨(qbm h.ne.1.symm).trans h.ins,qgU h.ps,(qbm h.ne.2.2).trans h.cm,h.ne,h.ua,hs,h.uc⟩,⟨by simp,λj _ h2 _=>qbm (Ne.symm h2),qiX (by rw[qm7 hs];exact Nat.zero_le _)⟩⟩
theorem DS.putC{U:Mu}(h:DS U x p c d){s:List St3}(hs: ∀y∈s,∀q∈y.2.2,ub q.2=0):DS (U.put c (.ls (s.map stT))) x p c { d with coming:=s }/\On U (U.put c (.ls (s.map stT))) x p c:=
 ⟨⟨(qbm h.ne.2.1.symm).trans h.ins,(qbm h.ne.2.2.symm).trans h.ps,qgU h.cm,h.ne,h.ua,h.up,hs⟩,⟨by simp,λj _ _ h3=>qbm (Ne.symm h3),qiX (by rw[qm7 hs];exact Nat.zero_le _)⟩⟩
theorem qd3{s:St3}(h: ∀y∈ss,∀q∈y.2.2,ub q.2=0)(h': ∀q∈s.2.2,ub q.2=0): ∀y∈ss++[s],∀q∈y.2.2,ub q.2=0:=λy hy=>by
 rcases List.mem_append.mp hy with z|z
 ·exact h y z
 ·rw[List.mem_singleton.mp z];exact h'
noncomputable def qqd:Fcd:=⟨false,4,4,[.exp (.bm false .append (.fld ["Desk"] "past" vA0) [(.tup [vA1,(.fld ["Desk"] "log" vA0),(.fld ["Desk"] "asks" vA0)])]),.exp (.alt (.bm false .clear (.fld ["Desk"] "coming" vA0) []) (.bm false .dclear (.fld ["Desk"] "coming" vA0) [])),.fld ["Desk"] "log" vA0 vA2,.fld ["Desk"] "asks" vA0 vA3]⟩
theorem flI{f:Str}(h:U.l[x]? =some (.ins "Desk" (fD d p c)))(h0:ρ[0]? =some (some (.obj x)))(hf:(fD d p c).lookup f=some t):qac F (.fld ["Desk"] f vA0) ρ U= .ok t U:=by rw[qrn,qnc,h0,qf2,qaa];exact qpy h rfl hf
theorem fl{f:Str}(h:DS U x p c d)(h0:ρ[0]? =some (some (.obj x)))(hf:(fD d p c).lookup f=some t):qac F (.fld ["Desk"] f vA0) ρ U= .ok t U:=flI h.ins h0 hf
theorem qqm(h:m.l[k]? =some (.ls ts)):nvR ow (Bm.g .clear m [.obj k]) m= .ok .non (m.put k (.ls [])):=by
 have e:Bm.g .clear m [.obj k]=some (.p k (.ls []) .non):=by show(qg3 m _).map _=_;simp[qg3,h]
 rw[e,qtY (qcU h (by simp))]
theorem qwd(h:m.l[k]? =some (.ls (ts++[z]))):nvR ow (Bm.g .pop m [.obj k]) m= .ok z (m.put k (.ls ts)):=by
 have e:Bm.g .pop m [.obj k]=some (.p k (.ls ts) z):=by show(qg3 m _).bind _=_;simp[qg3,h]
 rw[e,qtY (qcU h (by simp))]
theorem qs4{d:Dsk}{w:Str}(h:DS U x p c d)(ha: ∀q∈a,ub q.2=0)(hl:d.past.length<=900): ∃μ',qqd.run F [.obj x,.str w,qbe l,asT a] U= .ok .non μ'/\DS μ' x p c ⟨l,a,d.past++[(w,d.log,d.asks)],[]⟩/\On U μ' x p c:=by
 obtain⟨h1,o1⟩:=h.putP (s:=d.past++[(w,d.log,d.asks)]) (qd3 h.up h.ua);obtain⟨h2,o2⟩:=h1.putC (s:=[]) (λ_ h=>nomatch h);obtain⟨h3,o3⟩:=h2.put l h.ua;obtain⟨h4,o4⟩:=h3.put l ha;refine⟨_,qa0 rfl (qas (ρ':=[some (.obj x),some (.str w),some (qbe l),some (asT a)]) (μ':=U.put p (.ls ((d.past++[(w,d.log,d.asks)]).map stT))) ?_ (qas (ρ':=[some (.obj x),some (.str w),some (qbe l),some (asT a)]) (μ':=(U.put p (.ls ((d.past++[(w,d.log,d.asks)]).map stT))).put c (.ls (([]:List St3).map stT))) ?_ (qas (ρ':=[some (.obj x),some (.str w),some (qbe l),some (asT a)]) (μ':=((U.put p (.ls ((d.past++[(w,d.log,d.asks)]).map stT))).put c (.ls (([]:List St3).map stT))).put x (.ins "Desk" (fD ⟨l,d.asks,d.past++[(w,d.log,d.asks)],[]⟩ p c))) ?_ (qas (ρ':=[some (.obj x),some (.str w),some (qbe l),some (asT a)]) ?_ rfl)))) ?_,h4,o1.trans (o2.trans (o3.trans o4))⟩
 ·change qaG F (.exp (.bm false .append (.fld ["Desk"] "past" vA0) _)) [some (.obj x),some (.str w),some (qbe l),some (asT a)] U=_
  rw[qds,qhT,fl h rfl rfl,qaa,if_pos (show qfX U (.obj p)=Bm.ty .append from qd7 h.ps),qae,qa9,qae,qnc];simp only[List.getElem?_cons_succ,List.getElem?_cons_zero,qf2,qaa];rw[qae,fl h rfl rfl,qaa,qae,fl h rfl rfl];simp only[qaa,qaM];rw[if_pos (by simp),qaa,qaa,qhA h.ps (by rw[List.length_map];omega),List.map_append];rfl
 ·rw[qds,qiW (t:=.non) (m:=(U.put p (.ls ((d.past++[(w,d.log,d.asks)]).map stT))).put c (.ls []))]
  ·rfl
  ·rw[qhT,fl h1 rfl rfl,qaa,if_pos (show qfX _ (.obj c)=Bm.ty .clear from qd7 h1.cm),qaM,qaa,qqm h1.cm]
 ·change qaG F (.fld ["Desk"] "log" vA0 vA2) [some (.obj x),some (.str w),some (qbe l),some (asT a)] _=_
  rw[qci];show R.bind (R.ok (qbe l) _) _=_;rw[qaa];show R.bind (R.ok (NV.T.obj x) _) _=_;rw[qaa,qbv h2.ins rfl (by show 4<1000;decide)];rfl
 ·change qaG F (.fld ["Desk"] "asks" vA0 vA3) [some (.obj x),some (.str w),some (qbe l),some (asT a)] _=_
  rw[qci];show R.bind (R.ok (asT a) _) _=_;rw[qaa];show R.bind (R.ok (NV.T.obj x) _) _=_;rw[qaa,qbv h3.ins rfl (by show 4<1000;decide)];rfl
 ·simp
noncomputable def qdb:Fcd:=⟨false,3,4,[.ife (Oo .eq (.bn false .len [vA1]) (Ci 0)) [.raise "NoBack"] [],.set 3 (.alt (.bm false .pop vA1 []) (.bm false .dpop vA1 [])),.exp (.bm false .append vA2 [(.tup [(Oo .ix vA3 (Ci 0)),(.fld ["Desk"] "log" vA0),(.fld ["Desk"] "asks" vA0)])]),.fld ["Desk"] "log" vA0 (Oo .ix vA3 (Ci 1)),.fld ["Desk"] "asks" vA0 (Oo .ix vA3 (Ci 2)),.ret (Oo .ix vA3 (Ci 0))]⟩
theorem qnL(h:U.l[q]? =some (.ls [])):qdb.run F [.obj x,.obj q,.obj r] U= .ex "NoBack" U:=by
 have e:qaG F (.ife (Oo .eq (.bn false .len [vA1]) (Ci 0)) [.raise "NoBack"] []) [some (.obj x),some (.obj q),some (.obj r),none] U= .ex "NoBack" U:=by
  rw[qbl]
  ·rfl
  ·simp[qhz h]
 change lv false U ((runSs F _ [some _,some _,some _,none] U).bind _)=_
 rw[show qdb.b=_::_ from rfl,qag,e];show leave U (.ex _ U)=_;unfold leave;simp
theorem qkB{U:Mu}{d:Dsk}{q r:Nat}{s:St3}{ss tt:List St3}(hx:U.l[x]? =some (.ins "Desk" (fD d p c)))(hq:U.l[q]? =some (.ls ((ss++[s]).map stT)))(hr:U.l[r]? =some (.ls (tt.map stT)))(xq:x≠q)(xr:x≠r)(qr:q≠r)(hl:tt.length<=900):
  qdb.run F [.obj x,.obj q,.obj r] U= .ok (.str s.1) ((((U.put q (.ls (ss.map stT))).put r (.ls ((tt++[(s.1,d.log,d.asks)]).map stT))).put x (.ins "Desk" (fD ⟨s.2.1,d.asks,[],[]⟩ p c))).put x (.ins "Desk" (fD ⟨s.2.1,s.2.2,[],[]⟩ p c))):=by
 have ln: ¬((ss++[s]).length:Int)=0:=by simp;omega
 let iX:Ro:=[some (.obj x),some (.obj q),some (.obj r),none]
 let au:Ro:=[some (.obj x),some (.obj q),some (.obj r),some (stT s)]
 have x1:=(qbm (U:=U) (f:=.ls (ss.map stT)) xq.symm).trans hx;have r1:=(qbm (U:=U) (f:=.ls (ss.map stT)) qr).trans hr;generalize gD:U.put q (.ls (ss.map stT))=m1 at*;have x2:=(qbm (U:=m1) (f:=.ls ((tt++[(s.1,d.log,d.asks)]).map stT)) xr.symm).trans x1;generalize cQ:m1.put r (.ls ((tt++[(s.1,d.log,d.asks)]).map stT))=m2 at*;have x3:(m2.put x (.ins "Desk" (fD ⟨s.2.1,d.asks,[],[]⟩ p c))).l[x]? =_:=qgU x2;generalize jk:m2.put x (.ins "Desk" (fD ⟨s.2.1,d.asks,[],[]⟩ p c))=m3 at*;refine qa0 rfl (qam (ρ:=iX) ?_ (qas (ρ':=au) (μ':=m1) ?_ (qas (ρ':=au) (μ':=m2) ?_ (qas (ρ':=au) (μ':=m3) ?_ (qas (ρ':=au) (μ':=m3.put x (.ins "Desk" (fD ⟨s.2.1,s.2.2,[],[]⟩ p c))) ?_ (qcs rfl)))))) ?_
 ·have e:=qhz hq;rw[List.length_map] at e;show qac F _ [some (.obj x),some (.obj q),some (.obj r),none] U=_;simp only[qan,qbc,qae,qaM,qnc,qet,List.getElem?_cons_succ,List.getElem?_cons_zero,qf2,qaa,e,qd4,qsB,decide_eq_false ln]
 ·rw[qaJ,qiW (t:=stT s) (m:=m1)]
  ·rfl
  ·have ev:qac F vA1 iX U= .ok (.obj q) U:=rfl;rw[List.map_append] at hq;rw[qhT,ev,qaa,if_pos (show qfX U (.obj q)=Bm.ty .pop from qd7 hq),qaM,qaa,qwd hq,gD]
 ·have ev:qac F vA2 au m1= .ok (.obj r) m1:=rfl;have e0:qac F (Oo .ix vA3 (Ci 0)) au m1= .ok (.str s.1) m1:=rfl;rw[qds,qhT,ev,qaa,if_pos (show qfX m1 (.obj r)=Bm.ty .append from qd7 r1),qae,qa9,qae,e0,qaa,qae,flI x1 rfl rfl,qaa,qae,flI x1 rfl rfl];simp only[qaa,qaM];rw[if_pos (by simp),qaa,qaa,qhA r1 (by rw[List.length_map];omega),<-cQ,List.map_append];rfl
 ·rw[qci];show R.bind (R.ok (qbe s.2.1) m2) _=_;rw[qaa];show R.bind (R.ok (NV.T.obj x) m2) _=_;rw[qaa,qbv x2 rfl (by show 4<1000;decide),<-jk];rfl
 ·rw[qci];show R.bind (R.ok (asT s.2.2) m3) _=_;rw[qaa];show R.bind (R.ok (NV.T.obj x) m3) _=_;rw[qaa,qbv x3 rfl (by show 4<1000;decide)];rfl
 ·rw[<-jk,<-cQ,<-gD];simp
theorem qqk{d:Dsk}{s:St3}(h:DS U x p c d)(hp:d.past=ss++[s])(hl:d.coming.length<=900): ∃μ',qdb.run F [.obj x,.obj p,.obj c] U= .ok (.str s.1) μ'/\DS μ' x p c ⟨s.2.1,s.2.2,ss,d.coming++[(s.1,d.log,d.asks)]⟩/\On U μ' x p c:=by have hu:=h.up;have fI:=h.ps;rw[hp] at hu fI;obtain⟨h1,o1⟩:=h.putP λy hy=>hu y (Vr _ hy);obtain⟨h2,o2⟩:=h1.putC (s:=d.coming++[(s.1,d.log,d.asks)]) (qd3 h.uc h.ua);obtain⟨h3,o3⟩:=h2.put _ h.ua;obtain⟨h4,o4⟩:=h3.put _ (hu s (by simp));exact⟨_,qkB h.ins fI h.cm h.ne.1 h.ne.2.1 h.ne.2.2 hl,h4,o1.trans (o2.trans (o3.trans o4))⟩
theorem qmc{d:Dsk}{s:St3}(h:DS U x p c d)(hp:d.coming=ss++[s])(hl:d.past.length<=900): ∃μ',qdb.run F [.obj x,.obj c,.obj p] U= .ok (.str s.1) μ'/\DS μ' x p c ⟨s.2.1,s.2.2,d.past++[(s.1,d.log,d.asks)],ss⟩/\On U μ' x p c:=by have hu:=h.uc;have fI:=h.cm;rw[hp] at hu fI;obtain⟨h1,o1⟩:=h.putC λy hy=>hu y (Vr _ hy);obtain⟨h2,o2⟩:=h1.putP (s:=d.past++[(s.1,d.log,d.asks)]) (qd3 h.up h.ua);obtain⟨h3,o3⟩:=h2.put _ h.ua;obtain⟨h4,o4⟩:=h3.put _ (hu s (by simp));exact⟨_,qkB h.ins fI h.ps h.ne.2.1 h.ne.1 h.ne.2.2.symm hl,h4,o1.trans (o2.trans (o3.trans o4))⟩
noncomputable def qhx:Fcd:=⟨false,1,1,[.ret (.tup [(.bn false .len [(.fld ["Desk"] "past" vA0)]),(.bn false .len [(.fld ["Desk"] "coming" vA0)])])]⟩
theorem qko(h:DS U x p c d):qhx.run F [.obj x] U= .ok (.tup [.int d.past.length,.int d.coming.length]) U:=by
 refine qaw rfl (qcs ?_);have e1:=qhz h.ps;have e2:=qhz h.cm;rw[qa9,qae,qbc,qae,fl h rfl rfl];simp only[qaa,qaM,e1,qd4];rw[qae,qbc,qae,fl h rfl rfl]
 simp_all
noncomputable def qgn:Fcd:=⟨false,1,1,[.ret (.bn false .lst [(.fld ["Desk"] "log" vA0)])]⟩
theorem qlb(h:DS U x p c d)(hl:d.log.length<=900):qgn.run F [.obj x] U= .ok (qbe d.log) U:=by refine qaw rfl (qcs ?_);rw[qbc,qae,fl h rfl rfl];simp[qbe]
end
section
theorem run_ex{cd:Fcd}{ts:List NV.T}{e:Str}(hl:ts.length=cd.n)(h:(runSs F cd.b (ts.map some++List.replicate (cd.N - cd.n) none) U).bind outT= .ex e U):cd.run F ts U= .ex e U:=by
 unfold Fcd.run fnR;rw[if_pos hl,h];unfold lv;split
 ·rfl
 ·unfold leave;simp
theorem qeE{e:Str}(h:qaG F s ρ U= .ex e U):(runSs F (s::ss) ρ U).bind outT= .ex e U:=by rw[qag,h];rfl
noncomputable def qkx(nl ds:Nat):Fcd:=⟨false,2,3,[.set 2 (Oo .add (.fld ["Desk"] "log" vA0) (.lst false [vA1])),.exp (.call nl [vA2]),.ife (Oo .gt (.bn false .len [vA2]) (Ci 12)) [.raise "Full"] [],.exp (.mth [("Desk",ds)] "do_step" vA0 [(Cs "add"),vA2,(.fld ["Desk"] "asks" vA0)])]⟩
theorem qkM(h:DS U x p c d)(hl:d.log.length<=900):qaG F (.set 2 (Oo .add (.fld ["Desk"] "log" vA0) (.lst false [vA1]))) [some (.obj x),some (qaW r),none] U= .ok (.nx [some (.obj x),some (qaW r),some (qbe (d.log++[r]))]) U:=by
 have e1:qac F (.lst false [vA1]) [some (.obj x),some (qaW r),none] U= .ok _ U:=rfl;have ga:O2.g .add U (qbe d.log) (.lst [qaW r])=some (.l ((d.log++[r]).map qaW)):=by rw[List.map_append];exact qhh rfl rfl (by grind)
 rw[qaJ,qan,fl h rfl rfl,qaa,e1,qaa,ga];rfl
theorem qqr{e:Str}(h:DS U x p c d)(hl:d.log.length<=900)(hn:F nl [qbe (d.log++[r])] U= .ex e U):(qkx nl ds).run F [.obj x,qaW r] U= .ex e U:=by
 refine run_ex rfl (qas (qkM h hl) (qeE ?_))
 simp_all
theorem qm3(h:DS U x p c d)(hn:F nl [qbe (d.log++[r])] U= .ok .non U)(hl:d.log.length=12):(qkx nl ds).run F [.obj x,qaW r] U= .ex "Full" U:=by
 refine run_ex rfl (qas (qkM h (by omega)) (qas (ρ':=[some (.obj x),some (qaW r),some (qbe (d.log++[r]))]) ?_ (qeE ?_)))
 ·simp_all
 ·rw[qbl]
  ·rfl
  ·have:=by omega
   simp[qbe,this]
theorem qtN(h:DS U x p c d)(hn:F nl [qbe (d.log++[r])] U= .ok .non U)(hl:d.log.length<12)(hp:d.past.length<=900)(hD: ∀ts U,F ds ts U=qqd.run F1 ts U):
  ∃μ',(qkx nl ds).run F [.obj x,qaW r] U= .ok .non μ'/\DS μ' x p c ⟨d.log++[r],d.asks,d.past++[((("add" :Str),d.log,d.asks):St3)],[]⟩/\On U μ' x p c:=by
 obtain⟨μ',e,h',o⟩:=qs4 h h.ua hp;refine⟨μ',qa0 rfl (qas (qkM h (by omega)) (qas (ρ':=[some (.obj x),some (qaW r),some (qbe (d.log++[r]))]) (μ':=U) ?_ (qam ?_ (qas (ρ':=[some (.obj x),some (qaW r),some (qbe (d.log++[r]))]) ?_ rfl)))) o.len,h',o⟩
 ·simp_all
 ·have: ¬(12:Int)<d.log.length+1:=by omega
  simp[qbe,this]
 ·have e0:qac F (.fld _ "asks" vA0) [some _,some (qaW r),some (qbe (d.log++[r]))] U= .ok _ U:=fl h rfl rfl;have ea:runA F [(Cs "add"),vA2,(.fld ["Desk"] "asks" vA0)] [some (.obj x),some (qaW r),some (qbe (d.log++[r]))] U= .ok [.str "add",qbe (d.log++[r]),asT d.asks] U:=by
   simp_all
  rw[qds,qa1 rfl h.ins rfl rfl,ea,qaa,hD,e];rfl
end
section
noncomputable def qbI(a:As)(n:Str):Option NV.T:=(a.find? λq=>decide (q.1=n)).map (·.2)
noncomputable def qdt(a:As)(n:Str)(t:NV.T):As:=if(a.any λq=>decide (q.1=n))=true then a.map (λq=>if q.1=n then(q.1,t) else q) else a++[(n,t)]
noncomputable def qcc(a:As)(n:Str):As:=a.filter λq=>decide (q.1≠n)
abbrev kv(a:As):List (Key×NV.T):=a.map λq=>((.inr q.1:Key),q.2)
theorem qiA(a:As)(n:Str):qiB (kv a) (.inr n)=qbI a n:=by unfold qiB qbI;rw[List.find?_map,Option.map_map];have:((λq=>decide (q.1= .inr n))∘λq:Str×NV.T=>((.inr q.1:Key),q.2))=λq=>decide _:=funext λq=>Wk.kd q.1 n;rw[this];rfl
theorem qng(a:As)(n:Str)(t:NV.T):qll (kv a) (.inr n) t=kv (qdt a n t):=by
 have ha:((kv a).any λq=>decide (q.1= .inr n))=a.any λq=>decide (q.1=n):=by rw[List.any_map];congr 1;exact funext λq=>Wk.kd q.1 n
 unfold qll qdt;rw[ha];split
 ·simp only[kv,List.map_map];refine List.map_congr_left λq _=> ?_;show(if(Sum.inr q.1)= .inr n then((.inr q.1),t) else(.inr q.1,q.2))=((.inr (if q.1=n then(q.1,t) else q).1:Key),(if q.1=n then(q.1,t) else q).2)
  by_cases z:q.1=n
  ·simp_all
  simp_all
 ·simp[kv]
theorem ql3(a:As)(n:Str):gIn neg U (.str n) (asT a)=some (.v (.bl (if neg=true then !(qbI a n).isSome else(qbI a n).isSome))):=by
 have e0:qeK U (asT a)=none:=rfl;have e:qqG U (asT a) (.str n)=some (qbI a n):=by rw[<-qiA];rfl
 unfold gIn;rw[e0,e]
theorem qpg(a:As)(n:Str):O2.g .ix U (asT a) (.str n)=(qbI a n).map .v:=by rw[<-qiA];rfl
noncomputable def qdc(nm:Nat):Fcd:=⟨false,2,2,[.ife (.or (.nt (.call nm [vA1])) (Oo .nin vA1 (.fld ["Desk"] "asks" vA0))) [.raise "NoName"] [],.ret (Oo .ix (.fld ["Desk"] "asks" vA0) vA1)]⟩
theorem qnP{n:Str}(h:DS U x p c d)(hn:F nm [.str n] U= .ok (.bl true) U):qac F (.or (.nt (.call nm [vA1])) (Oo .nin vA1 (.fld ["Desk"] "asks" vA0))) [some (.obj x),some (.str n)] U= .ok (.bl (!(qbI d.asks n).isSome)) U:=by have e1:qac F (.call nm [vA1]) [some (.obj x),some _] U= .ok _ U:=hn;have e2:qac F vA1 [some (.obj x),some _] U= .ok (.str n) U:=rfl;rw[qrm,qlk,e1];simp only[qaa,qbp,if_false];rw[qan,e2,qaa,fl h rfl rfl,qaa,show O2.g .nin U (.str n) (asT _)=_ from ql3 (U:=U) _ n];rfl
theorem qnO{n:Str}(h:DS U x p c d)(hn:F nm [.str n] U= .ok (.bl true) U)(hg:qbI d.asks n=some t):(qdc nm).run F [.obj x,.str n] U= .ok t U:=by have e2:qac F vA1 [some (.obj x),some (.str n)] U= .ok _ U:=rfl;refine qaw rfl (qam (ρ:=[some _,some _]) ((qnP h hn).trans (by rw[hg];rfl)) (qcs ?_));rw[qan,fl h rfl rfl,qaa,e2,qaa,qpg,hg];rfl
theorem qtJ{n:Str}(h:DS U x p c d)(hn:F nm [.str n] U= .ok (.bl true) U)(hg:qbI d.asks n=none):(qdc nm).run F [.obj x,.str n] U= .ex "NoName" U:=by
 refine run_ex rfl (qeE ?_);rw[qbl]
 ·rfl
 ·exact(qnP h hn).trans (by rw[hg];rfl)
end
section
theorem DS.lt(h:DS U x p c d):x<U.l.length/\p<U.l.length/\c<U.l.length:=⟨(List.getElem?_eq_some_iff.mp h.ins).1,(List.getElem?_eq_some_iff.mp h.ps).1,(List.getElem?_eq_some_iff.mp h.cm).1⟩
theorem DS.more(h:DS U x p c d):DS ⟨U.l++[e],U.k⟩ x p c d:=by obtain⟨a,b,k⟩:=h.lt;exact⟨by rw[List.getElem?_append_left a];exact h.ins,by rw[List.getElem?_append_left b];exact h.ps,by rw[List.getElem?_append_left k];exact h.cm,h.ne,h.ua,h.up,h.uc⟩
theorem qdy(h:DS U x p c d)(h':DS m x p c d')(o:On ⟨U.l++[e],U.k⟩ m x p c)(ht:ub t<=U.l.length): ∃m',leave U (.ok t m)= .ok t m'/\DS m' x p c d'/\On U m' x p c:=by
 obtain⟨a,b,k⟩:=h.lt;have ln:m.l.length=U.l.length+1:=by have:=o.len;simpa using this
 obtain⟨ks,ek,hk⟩:=o.kk;have ek:m.k=ks++U.k:=ek;have hb: ∀q∈ks,q.2<=U.l.length:=λq hq=>by have:=hk q hq;omega
 have nw:U.nw m=ks:=by unfold Mu.nw;rw[ek];simp
 have ap:U.apart m=true:=by unfold Mu.apart;rw[nw,ek];simp only[Bool.and_eq_true,decide_eq_true_eq];refine⟨⟨by omega,by simp⟩,?_⟩;rw[List.all_eq_true];intro q hq;exact decide_eq_true (.inr (hb q hq))
 refine⟨U.back m,?_,?_,?_⟩
 ·show(if m.l.length=U.l.length then _ else _)=_;rw[if_neg (by omega),if_pos ap,qnv ht]
 ·have tk: ∀j,j<U.l.length->(U.back m).l[j]? =m.l[j]? :=λj hj=>by show(m.l.take U.l.length)[j]? =_;rw[List.getElem?_take,if_pos hj]
  exact⟨(tk x a).trans h'.ins,(tk p b).trans h'.ps,(tk c k).trans h'.cm,h'.ne,h'.ua,h'.up,h'.uc⟩
 ·refine⟨by show(m.l.take U.l.length).length=_;rw[List.length_take];omega,λj h1 h2 h3=> ?_,?_⟩
  ·show(m.l.take U.l.length)[j]? =_;rw[List.getElem?_take];split
   ·rename_i hj;rw[o.old j h1 h2 h3];show(U.l++[e])[j]? =_;rw[List.getElem?_append_left hj]
   ·rename_i hj;rw[List.getElem?_eq_none_iff.mpr (by omega)]
  ·exact⟨(U.nw m).filter (λp=>decide (p.1<U.l.length)),rfl,λq hq=>by rw[nw] at hq;exact hk q (List.mem_filter.mp hq).1⟩
theorem qnw{w:Str}(h:DS U x p c d)(ha: ∀q∈a,ub q.2=0)(hl:d.past.length<=900)(hD: ∀ts U,F ds ts U=qqd.run F1 ts U)(h0:ρ[0]? =some (some (.obj x)))(hi:ρ[i]? =some (some (.obj U.l.length)))(i0:i≠0):
  ∃m,qaG F (.frz i (.exp (.mth [("Desk",ds)] "do_step" vA0 [(.c (.str w)),(.fld ["Desk"] "log" vA0),(.v i)]))) ρ ⟨U.l++[.dk (kv a)],U.k⟩= .ok (.nx (ρ.set i (some (asT a)))) m/\DS m x p c ⟨d.log,a,d.past++[((w,d.log,d.asks):St3)],[]⟩/\On ⟨U.l++[.gone],U.k⟩ m x p c:=by
 have hg:DS ⟨U.l++[.gone],U.k⟩ x p c d:=h.more;obtain⟨m,e,h',o⟩:=qs4 (F:=F1) (w:=w) (l:=d.log) (a:=a) hg ha hl;refine⟨m,?_,h',o⟩;have ef:qfJ i ρ ⟨U.l++[.dk (kv a)],U.k⟩=(ρ.set i (some (asT a)),⟨U.l++[.gone],U.k⟩):=by
  unfold qfJ;rw[hi];have:(U.l++[Ct.dk (kv a)])[U.l.length]? =some (.dk (kv a)):=by simp
  simp only[this];have e2:(⟨U.l++[.dk (kv a)],U.k⟩:Mu).put U.l.length .gone=⟨U.l++[.gone],U.k⟩:=by rw[Mu.put_k (show ubC .gone<=_ from Nat.zero_le _)];simp
  rw[e2];rfl
 have li:i<ρ.length:=(List.getElem?_eq_some_iff.mp hi).1;have r0:(ρ.set i (some (asT a)))[0]? =some (some (.obj x)):=by rw[List.getElem?_set_ne i0];exact h0
 have ri:(ρ.set i (some (asT a)))[i]? =some (some (asT a)):=by rw[List.getElem?_set_self li]
 show qaG F (.exp (.mth [("Desk",ds)] "do_step" vA0 [(.c (.str w)),(.fld ["Desk"] "log" vA0),(.v i)])) (qfJ i ρ ⟨U.l++[.dk (kv a)],U.k⟩).1 (qfJ i ρ ⟨U.l++[.dk (kv a)],U.k⟩).2=_;rw[ef];have ev:qac F vA0 (ρ.set i (some (asT a))) ⟨U.l++[.gone],U.k⟩= .ok (.obj x) ⟨U.l++[.gone],U.k⟩:=by rw[qnc,r0];rfl
 have ei:qac F (.v i) (ρ.set i (some (asT a))) ⟨U.l++[.gone],U.k⟩= .ok (asT a) ⟨U.l++[.gone],U.k⟩:=by rw[qnc,ri];rfl
 have ea:runA F [(.c (.str w)),(.fld ["Desk"] "log" vA0),(.v i)] (ρ.set i (some (asT a))) ⟨U.l++[.gone],U.k⟩= .ok [.str w,qbe d.log,asT a] ⟨U.l++[.gone],U.k⟩:=by rw[qae,qet,qaa,qae,fl hg r0 rfl,qaa,qae,ei];rfl
 show qaG F (.exp _) (ρ.set i (some (asT a))) ⟨U.l++[.gone],U.k⟩=_;rw[qds,qa1 (k:=x) (i:=ds) ev hg.ins rfl rfl,ea,qaa,hD,e];rfl
end
section
noncomputable def qdM(na nm ds:Nat):Fcd:=⟨false,3,5,[.exp (.call na [vA2]),.ife (.nt (.call nm [vA1])) [.raise "NoName"] [],.set 3 (Oo .in_ vA1 (.fld ["Desk"] "asks" vA0)),.ife (.and (.nt vA3) (Oo .ge (.bn false .len [(.fld ["Desk"] "asks" vA0)]) (Ci 6))) [.raise "Full"] [],.set 4 (.bn true .dct [(.fld ["Desk"] "asks" vA0)]),.put vA4 vA1 vA2,.frz 4 (.exp (.mth [("Desk",ds)] "do_step" vA0 [(Cs "hang"),(.fld ["Desk"] "log" vA0),vA4])),.ret vA3]⟩
theorem qiY{n:Str}(h: ∀q∈a,ub q.2=0)(ht:ub t=0): ∀q∈qdt a n t,ub q.2=0:=λq hq=>by
 unfold qdt at hq;split at hq
 ·obtain⟨r,hr,rfl⟩:=List.mem_map.mp hq;split
  ·exact ht
  ·exact h r hr
 ·rcases List.mem_append.mp hq with z|z
  ·exact h q z
  simp_all
theorem qsg(a:As):Bn.g .len U [asT a]=some (.v (.int a.length)):=by show some (Nv.v _)=_;rw[List.length_map]
theorem qnY(h: ∀q∈a,ub q.2=0):ubC (.dk (kv a))=0:=qqS λq hq=>by obtain⟨r,hr,rfl⟩:=List.mem_map.mp hq;exact h r hr
theorem qnG(h:DS U x p c d)(h0:ρ[0]? =some (some (.obj x))):qaG F (.set i (.bn true .dct [(.fld ["Desk"] "asks" vA0)])) ρ U= .ok (.nx (ρ.set i (some (.obj U.l.length)))) ⟨U.l++[.dk (kv d.asks)],U.k⟩:=by have e:Bn.g .dct U [asT d.asks]=some (.d (kv d.asks)):=rfl;rw[qaJ,qbc,qae,fl h h0 rfl];simp only[qaa,qaM,e];show R.ok _ (U.add (.dk (kv d.asks)))=_;rw[Mu.add_on (qnY h.ua)];rfl
theorem qpk{n:Str}(h:DS U x p c d)(hA:F na [t] U= .ok .non U)(hN:F nm [.str n] U= .ok (.bl true) U)(hf:(qbI d.asks n).isSome=true\/d.asks.length<6)(ha:d.asks.length<=900)(ht:ub t=0)(hl:d.past.length<=900)(hD: ∀ts U,F ds ts U=qqd.run F1 ts U):
  ∃μ',(qdM na nm ds).run F [.obj x,.str n,t] U= .ok (.bl (qbI d.asks n).isSome) μ'/\DS μ' x p c ⟨d.log,qdt d.asks n t,d.past++[((("hang" :Str),d.log,d.asks):St3)],[]⟩/\On U μ' x p c:=by
 generalize hb:(qbI d.asks n).isSome=b at*;obtain⟨m,e6,h',o⟩:=qnw (F:=F) (F1:=F1) (ds:=ds) (i:=4) (w:= "hang") (a:=qdt d.asks n t) (ρ:=[some (.obj x),some (.str n),some t,some (.bl b),some (.obj U.l.length)]) h (qiY h.ua ht) hl hD rfl rfl (by decide);obtain⟨m',el,cV,o'⟩:=qdy (t:=.bl b) h h' o (Nat.zero_le _);have fin:(runSs F (qdM na nm ds).b [some (.obj x),some (.str n),some t,none,none] U).bind outT= .ok (.bl b) m:=by
  refine qas (ρ':=[some (.obj x),some (.str n),some t,none,none]) (μ':=U) ?_ (qam ?_ (qas (ρ':=[some (.obj x),some (.str n),some t,some (.bl b),none]) (μ':=U) ?_ (qam ?_ (qas (qnG h rfl) (qas (ρ':=[some (.obj x),some (.str n),some t,some (.bl b),some (.obj U.l.length)]) (μ':=⟨U.l++[.dk (kv (qdt d.asks n t))],U.k⟩) ?_ (qas e6 (qcs rfl)))))))
  ·show R.bind (F na [t] U) _=_;rw[hA];rfl
  ·have e1:qac F (.call nm [vA1]) [some (.obj x),some (.str n),some t,none,none] U= .ok (.bl true) U:=hN;rw[qlk,e1];rfl
  ·have e2:qac F vA1 [some (.obj x),some (.str n),some t,none,none] U= .ok (.str n) U:=rfl;rw[qaJ,qan,e2,qaa,fl h rfl rfl,qaa,show O2.g .in_ U (.str n) (asT d.asks)=_ from ql3 (U:=U) (neg:=false) d.asks n];simp only[hb];rfl
  ·have e3:qac F vA3 [some (.obj x),some (.str n),some t,some (.bl b),none] U= .ok (.bl b) U:=rfl;rw[qnd,qlk,e3];simp only[qaa,qbp];cases b with
   |true=>rfl
   |false=>
    have: ¬(6:Int)<=d.asks.length:=by rcases hf with z|z;cases z;omega
    rw[if_pos (show(!false)=true from rfl),qan,qbc,qae,fl h rfl rfl];simp[qsg,this]
  ·have e2:qac F vA2 [some (.obj x),some (.str n),some t,some (.bl b),some (.obj U.l.length)] ⟨U.l++[.dk (kv d.asks)],U.k⟩= .ok t ⟨U.l++[.dk (kv d.asks)],U.k⟩:=rfl;have at_:(⟨U.l++[.dk (kv d.asks)],U.k⟩:Mu).l[U.l.length]? =some (.dk (kv d.asks)):=by simp
   have g:qpp ⟨U.l++[.dk (kv d.asks)],U.k⟩ (.obj U.l.length) (.str n) t=some (U.l.length,.dk (kv (qdt d.asks n t))):=by
    have e1:qg3 ⟨U.l++[.dk (kv d.asks)],U.k⟩ (.obj U.l.length)=none:=by simp only[qg3,at_]
    have e2:qlB ⟨U.l++[.dk (kv d.asks)],U.k⟩ (.obj U.l.length)=some (U.l.length,kv d.asks):=by simp only[qlB,at_]
    unfold qpp;rw[e1,e2];show(if(kv d.asks).length<=1000 then some (U.l.length,Ct.dk (qll (kv d.asks) (.inr n) t)) else none)=_;rw[if_pos (by rw[List.length_map];omega),qng]
   change qaG F (.put vA4 vA1 vA2) [some (.obj x),some (.str n),some t,some (.bl b),some (.obj U.l.length)] ⟨U.l++[.dk (kv d.asks)],U.k⟩=_
   rw[qrj,e2,qaa];have e1:qac F vA4 [some (.obj x),some (.str n),some t,some (.bl b),some (.obj U.l.length)] ⟨U.l++[.dk (kv d.asks)],U.k⟩= .ok (.obj U.l.length) ⟨U.l++[.dk (kv d.asks)],U.k⟩:=rfl;have e3:qac F vA1 [some (.obj x),some (.str n),some t,some (.bl b),some (.obj U.l.length)] ⟨U.l++[.dk (kv d.asks)],U.k⟩= .ok (.str n) ⟨U.l++[.dk (kv d.asks)],U.k⟩:=rfl;rw[e1,qaa,e3,qaa];rw[g];dsimp only;rw[if_pos (qcU at_ (by simp)),Mu.put_k (by rw[qnY (qiY h.ua ht)];exact Nat.zero_le _)];simp
 refine⟨m',?_,cV,o'⟩;unfold Fcd.run fnR;rw[if_pos (show [NV.T.obj x,.str n,t].length=(qdM na nm ds).n from rfl)]
 change lv false U ((runSs F (qdM na nm ds).b [some (.obj x),some (.str n),some t,none,none] U).bind outT)=_
 rw[fin];exact el
end
section
noncomputable def qc9(ao ds:Nat):Fcd:=⟨false,2,4,[.set 2 (.mth [("Desk",ao)] "ask_of" vA0 [vA1]),.set 3 (.bn true .dct [(.fld ["Desk"] "asks" vA0)]),.exp (.alt (.bm false .pop vA3 [vA1]) (.bm false .dpop vA3 [vA1])),.frz 3 (.exp (.mth [("Desk",ds)] "do_step" vA0 [(Cs "lose"),(.fld ["Desk"] "log" vA0),vA3])),.ret vA2]⟩
theorem qo8{n:Str}{e:Str}(h:DS U x p c d)(hO:F ao [.obj x,.str n] U= .ex e U):(qc9 ao ds).run F [.obj x,.str n] U= .ex e U:=by refine run_ex rfl (qeE ?_);rw[qaJ,qa1 rfl h.ins rfl rfl];show R.bind (F ao _ U) _=_;rw[hO];rfl
theorem qhq{n:Str}(h: ∀q∈a,ub q.2=0): ∀q∈qcc a n,ub q.2=0:=λq hq=>h q (List.mem_filter.mp hq).1
theorem qpL(a:As)(n:Str):qkd (kv a) (.inr n)=kv (qcc a n):=by
 unfold qkd qcc kv;rw[List.filter_map]
 congr 1
 congr 1
 funext q
 simp
theorem qo7{n:Str}(h:DS U x p c d)(hO:F ao [.obj x,.str n] U= .ok t U)(hg:qbI d.asks n=some t)(ht:ub t=0)(hl:d.past.length<=900)(hD: ∀ts U,F ds ts U=qqd.run F1 ts U):
  ∃μ',(qc9 ao ds).run F [.obj x,.str n] U= .ok t μ'/\DS μ' x p c ⟨d.log,qcc d.asks n,d.past++[((("lose" :Str),d.log,d.asks):St3)],[]⟩/\On U μ' x p c:=by
 obtain⟨m,e6,h',o⟩:=qnw (F:=F) (F1:=F1) (ds:=ds) (i:=3) (w:= "lose") (a:=qcc d.asks n) (ρ:=[some (.obj x),some (.str n),some t,some (.obj U.l.length)]) h (qhq h.ua) hl hD rfl rfl (by decide);obtain⟨m',el,cV,o'⟩:=qdy (t:=t) h h' o (by rw[ht];exact Nat.zero_le _);have fin:(runSs F (qc9 ao ds).b [some (.obj x),some (.str n),none,none] U).bind outT= .ok t m:=by
  refine qas (ρ':=[some (.obj x),some (.str n),some t,none]) (μ':=U) ?_ (qas (qnG h rfl) (qas (ρ':=[some (.obj x),some (.str n),some t,some (.obj U.l.length)]) (μ':=⟨U.l++[.dk (kv (qcc d.asks n))],U.k⟩) ?_ (qas e6 (qcs rfl))))
  ·change qaG F (.set 2 (.mth [("Desk",ao)] "ask_of" vA0 [vA1])) [some (.obj x),some (.str n),none,none] U=_
   rw[qaJ,qa1 (k:=x) (i:=ao) rfl h.ins rfl rfl];show R.bind (F ao [.obj x,.str n] U) _=_;rw[hO];rfl
  ·have at_:(⟨U.l++[.dk (kv d.asks)],U.k⟩:Mu).l[U.l.length]? =some (.dk (kv d.asks)):=by simp
   have e1:qac F vA3 [some (.obj x),some (.str n),some t,some (.obj U.l.length)] ⟨U.l++[.dk (kv d.asks)],U.k⟩= .ok (.obj U.l.length) ⟨U.l++[.dk (kv d.asks)],U.k⟩:=rfl;have e2:qac F vA1 [some (.obj x),some (.str n),some t,some (.obj U.l.length)] ⟨U.l++[.dk (kv d.asks)],U.k⟩= .ok (.str n) ⟨U.l++[.dk (kv d.asks)],U.k⟩:=rfl;have mk:qfX ⟨U.l++[.dk (kv d.asks)],U.k⟩ (.obj U.l.length)= "dict" :=qo1 at_;have g:Bm.g .dpop ⟨U.l++[.dk (kv d.asks)],U.k⟩ [.obj U.l.length,.str n]=some (.p U.l.length (.dk (kv (qcc d.asks n))) t):=by
    have e:qlB ⟨U.l++[.dk (kv d.asks)],U.k⟩ (.obj U.l.length)=some (U.l.length,kv d.asks):=by unfold qlB;simp only[at_]
    show(qlB _ _).bind _=_;rw[e];show(qiB (kv d.asks) (.inr n)).map _=_;rw[qiA,hg,<-qpL];rfl
   change qaG F (.exp (.alt (.bm false .pop vA3 [vA1]) (.bm false .dpop vA3 [vA1]))) [some (.obj x),some (.str n),some t,some (.obj U.l.length)] ⟨U.l++[.dk (kv d.asks)],U.k⟩=_
   rw[qds,qop (by rw[qhT,e1,qaa,if_neg (by rw[mk];decide)]),qhT,e1,qaa,if_pos (show qfX _ _=Bm.ty .dpop from mk),qae,e2];simp only[qaa,qaM,g];rw[qtY (qcU at_ (by simp)),Mu.put_k (by rw[qnY (qhq h.ua)];exact Nat.zero_le _)];simp
 refine⟨m',?_,cV,o'⟩;unfold Fcd.run fnR;rw[if_pos (show [NV.T.obj x,.str n].length=(qc9 ao ds).n from rfl)]
 change lv false U ((runSs F (qc9 ao ds).b [some (.obj x),some (.str n),none,none] U).bind outT)=_
 rw[fin];exact el
end
section
noncomputable def qgs:Fcd:=⟨false,1,1,[.fld ["Desk"] "log" vA0 (.lst false []),.fld ["Desk"] "asks" vA0 (.dct false),.fld ["Desk"] "past" vA0 (.lst true []),.fld ["Desk"] "coming" vA0 (.lst true [])]⟩
theorem qr9{F:Fs}{F1:Fs}{U:Mu}{i:Nat}(hI: ∀ts U,F i ts U=qgs.run F1 ts U):
  ∃μ',mkR "Desk" (F i) [] U= .ok (.obj U.l.length) μ'/\DS μ' U.l.length (U.l.length+1) (U.l.length+2) ⟨[],[],[],[]⟩/\μ'.l.length=U.l.length+3/\∀j,j<U.l.length->μ'.l[j]? =U.l[j]? :=by
 let c1:Ct:=.ins "Desk" [("log",.lst [])];let c2:Ct:=.ins "Desk" [("log",.lst []),("asks",.dct [])];let c3:Ct:=.ins "Desk" [("log",.lst []),("asks",.dct []),("past",.obj (U.l.length+1))];let c4:Ct:=.ins "Desk" [("log",.lst []),("asks",.dct []),("past",.obj (U.l.length+1)),("coming",.obj (U.l.length+2))];let m3:Mu:=((U.on c2).on (.ls [])).put U.l.length c3;let m4:Mu:=(m3.on (.ls [])).put U.l.length c4;have l3:m3.l.length=U.l.length+2:=by simp[m3,Mu.on]
 have l4:m4.l.length=U.l.length+3:=by simp[m4,m3,Mu.on]
 have a2:((U.on c2).on (.ls [])).l[U.l.length]? =some c2:=by simp[Mu.on]
 have a3:(m3.on (.ls [])).l[U.l.length]? =some c3:=by show(m3.l++[_])[_]? =_;rw[List.getElem?_append_left (by omega)];show(List.set _ _ _)[_]? =_;rw[List.getElem?_set_self (by simp[Mu.on])]
 have run:(runSs F1 qgs.b [some (.obj U.l.length)] (U.on (.ins "Desk" []))).bind outT= .ok .non m4:=by
  refine qas (ρ':=[some (.obj U.l.length)]) (μ':=U.on c1) ?_ (qas (ρ':=[some (.obj U.l.length)]) (μ':=U.on c2) ?_ (qas (ρ':=[some (.obj U.l.length)]) (μ':=m3) ?_ (qas (ρ':=[some (.obj U.l.length)]) (μ':=m4) ?_ rfl)))
  ·rw[qci];show R.bind (R.ok (NV.T.lst []) _) _=_;rw[qaa];show R.bind (R.ok (NV.T.obj U.l.length) _) _=_;rw[qaa,qbv Mu.on_at rfl (by show 0<1000;decide),qaa];show R.ok _ ((U.on (.ins "Desk" [])).put U.l.length c1)=_;rw[Mu.on_put (c':=c1) rfl]
  ·rw[qci];show R.bind (R.ok (NV.T.dct []) _) _=_;rw[qaa];show R.bind (R.ok (NV.T.obj U.l.length) _) _=_;rw[qaa,qbv Mu.on_at rfl (by show 1<1000;decide),qaa];show R.ok _ ((U.on c1).put U.l.length c2)=_;rw[Mu.on_put (c':=c2) rfl]
  ·have e:qac F1 (.lst true []) [some (.obj U.l.length)] (U.on c2)= .ok (.obj (U.l.length+1)) ((U.on c2).on (.ls [])):=by show R.ok (NV.T.obj (U.on c2).l.length) ((U.on c2).add (.ls []))=_;rw[Mu.add_on rfl];simp[Mu.on]
   rw[qci,e,qaa];show R.bind (R.ok (NV.T.obj U.l.length) _) _=_;rw[qaa,qbv a2 rfl (by show 2<1000;decide)];rfl
  ·have e:qac F1 (.lst true []) [some (.obj U.l.length)] m3= .ok (.obj (U.l.length+2)) (m3.on (.ls [])):=by show R.ok (NV.T.obj m3.l.length) (m3.add (.ls []))=_;rw[Mu.add_on rfl,l3]
   rw[qci,e,qaa];show R.bind (R.ok (NV.T.obj U.l.length) _) _=_;rw[qaa,qbv a3 rfl (by show 3<1000;decide)];rfl
 have lv:leave (U.on (.ins "Desk" [])) (.ok .non m4)= .ok .non m4:=by
  have l0:(U.on (.ins "Desk" [])).l.length=U.l.length+1:=by simp[Mu.on]
  show(if m4.l.length=(U.on (.ins "Desk" [])).l.length then R.ok NV.T.non m4 else _)=_;rw[l4,l0,if_neg (by omega),if_neg];have k3:m3.k=(U.l.length,U.l.length+2)::U.k:=by show(Mu.put _ _ c3).k=_;unfold Mu.put;rw[show ubC c3=U.l.length+2 by show max 0 (max 0 (max (U.l.length+1+1) 0))=_;omega,if_neg (by omega)];rfl
  have k4:m4.k=(U.l.length,U.l.length+3)::(U.l.length,U.l.length+2)::U.k:=by show(Mu.put _ _ c4).k=_;unfold Mu.put;rw[show ubC c4=U.l.length+3 by show max 0 (max 0 (max (U.l.length+1+1) (max (U.l.length+2+1) 0)))=_;omega,if_neg (by omega)];show _::m3.k=_;rw[k3]
  unfold Mu.apart Mu.nw;rw[k4,l0];simp[Mu.on];intro _ _;refine⟨U.l.length,U.l.length+3,?_,by omega,by omega⟩;rw[show U.k.length+1+1 - U.k.length=2 by omega];exact Vj
 refine⟨m4,?_,⟨?_,?_,?_,⟨by omega,by omega,by omega⟩,(λ_ h=>nomatch h),(λ_ h=>nomatch h),(λ_ h=>nomatch h)⟩,l4,λj hj=> ?_⟩
 ·unfold mkR;rw[Mu.add_on rfl,hI];have:qgs.run F1 [.obj U.l.length] (U.on (.ins "Desk" []))= .ok .non m4:=by unfold Fcd.run fnR;rw[if_pos (show [NV.T.obj U.l.length].length=qgs.n from rfl)];show NV.lv false _ ((runSs F1 qgs.b [some (.obj U.l.length)] _).bind outT)=_;rw[run];exact lv
  rw[this];rfl
 ·show(List.set _ _ _)[_]? =_;rw[List.getElem?_set_self (by show _<(m3.l++[_]).length;simp;omega)];rfl
 ·show(List.set (m3.l++[_]) _ _)[_]? =_;rw[List.getElem?_set_ne (by omega),List.getElem?_append_left (by omega)];show(List.set _ _ _)[_]? =_;rw[List.getElem?_set_ne (by omega)];simp[Mu.on]
 ·show(List.set (m3.l++[_]) _ _)[_]? =_;rw[List.getElem?_set_ne (by omega),List.getElem?_append_right (by omega),l3];simp
 ·show(List.set (m3.l++[_]) _ _)[_]? =_;rw[List.getElem?_set_ne (by omega),List.getElem?_append_left (by omega)];show(List.set _ _ _)[_]? =_;rw[List.getElem?_set_ne (by omega)];show((U.l++[_])++[_])[_]? =_;rw[List.getElem?_append_left (by simp;omega),List.getElem?_append_left hj]
end
section
noncomputable def qgt:Fcd:=⟨false,1,1,[.ret (.bn false .srt [(.fld ["Desk"] "asks" vA0)])]⟩
noncomputable def nmT(a:As):List NV.T:=a.map λq=>.str q.1
theorem qdU: ∀ss:List Str,qbB (ss.map NV.T.str)=true
 |[]=>rfl
 |s::ss=>by show(PL.okShape (qcJ (.str s))&&(ss.map _).all _)=true;rw[Bool.and_eq_true];refine⟨rfl,List.all_eq_true.mpr λu hu=> ?_⟩;obtain⟨r,_,rfl⟩:=List.mem_map.mp hu;rfl
theorem qlL(h:DS U x p c d)(hl:d.asks.length<64):qgt.run F [.obj x] U= .ok (.lst (qeG (nmT d.asks))) U:=by
 have hs:=by have:=qdU (d.asks.map λq=>q.1);rw[List.map_map] at this;exact this
 have g:Bn.g .srt U [asT d.asks]=some (.l (qeG (nmT d.asks))):=by
  have e:qus U (asT d.asks)=some (nmT d.asks):=by show some _=_;rw[List.map_map];rfl
  show qc2 U [asT _]=_;unfold qc2;simp only[e];show(if(nmT _).length<64/\qbB _=true then _ else _)=_;rw[if_pos ⟨by show(List.map _ _).length<64;simp_all,hs⟩]
 refine qaw rfl (qcs ?_);rw[qbc,qae,fl h rfl rfl]
 simp_all
end
section
noncomputable def qkY(ns:List Int)(k:Int):Int:=if 1+qaj ns (k+1) 4=4 then 1+qaj ns (k+2) 20 else 1+qaj ns (k+1) 4
noncomputable def qcR(ns:List Int)(k:Int):Wk.Sp:=match(qaj ns k 11).toNat with
 |0=>.key (qnq ns (k+1))
 |1=>.over (qhZ ns (k+1) 20)
 |2=>.under (qhZ ns (k+1) 20)
 |3=>.plus (qhZ ns (k+1) 20)
 |4=>.times (qhZ ns (k+1) 20)
 |5=>.first (qkY ns k)
 |6=>.each (qkY ns k)
 |7=>.window (qkY ns k)
 |8=>.running
 |9=>.change
 |_=>.unlike
theorem qp6(ns:List Int)(k:Int):1<=qkY ns k/\qkY ns k<=20:=by
 have a:=qaO (ns:=ns) (k:=k+1) (many:=4) (by omega);have b:=qaK (ns:=ns) (k:=k+1) (many:=4) (by omega);have c:=qaO (ns:=ns) (k:=k+2) (many:=20) (by omega);have d:=qaK (ns:=ns) (k:=k+2) (many:=20) (by omega);unfold qkY
 split<;>omega
theorem qh7(ns:List Int)(k:Int):(qcR ns k).fine:=by
 have n20:=qoW (ns:=ns) (k:=k+1) (most:=20) (by omega);have c:=qp6 ns k;unfold qcR
 split<;>first|exact qpe _ _|exact n20|exact c|trivial
noncomputable def qbi(p k n:Nat):Fcd:=⟨false,2,4,[.set 2 (.lst false [(Cs "key"),(Cs "over"),(Cs "under"),(Cs "plus"),(Cs "times"),(Cs "first"),(Cs "each"),(Cs "window"),(Cs "running"),(Cs "change"),(Cs "unlike")]),.set 2 (Oo .ix vA2 (.call p [vA0,vA1,(Ci 11)])),.ife (Oo .eq vA2 (Cs "key")) [.ret (.tup [vA2,(.call k [vA0,(Oo .add vA1 (Ci 1))])])] [],.ife (Oo .in_ vA2 (.tup [(Cs "over"),(Cs "under"),(Cs "plus"),(Cs "times")])) [.ret (.tup [vA2,(.call n [vA0,(Oo .add vA1 (Ci 1)),(Ci 20)])])] [],.ife (Oo .in_ vA2 (.tup [(Cs "first"),(Cs "each"),(Cs "window")])) [.set 3 (Oo .add (Ci 1) (.call p [vA0,(Oo .add vA1 (Ci 1)),(Ci 4)])),.ret (.tup [vA2,(.ife (Oo .eq vA3 (Ci 4)) (Oo .add (Ci 1) (.call p [vA0,(Oo .add vA1 (Ci 2)),(Ci 20)])) vA3)])] [],.ret (.tup [vA2])]⟩
theorem qlQ(D:Drw F p ns)(hq: ∀{U:Mu}{k:Int},0<=k->F q [.scr ns,.int k] U= .ok (.str (qnq ns k)) U)(hn: ∀{U:Mu}{k most:Int},0<=k->0<=most->F n [.scr ns,.int k,.int most] U= .ok (.int (qhZ ns k most)) U)(h0:0<=k):(qbi p q n).run F [.scr ns,.int k] U= .ok (qcR ns k).T U:=by
 refine qaw rfl ?_
 change (runSs F (qbi p q n).b [some (.scr ns),some (.int k),none,none] U).bind outT=_
 have key: ∀{w:Str},(w== "key")=true->(runSs F ((qbi p q n).b.drop 2) [some (.scr ns),some (.int k),some (.str w),none] U).bind outT= .ok (.tup [.str w,.str (qnq ns (k+1))]) U:=λ{w} h=>by
  have e:w= "key" :=by simpa using h
  subst e;refine qbN rfl ?_;rw[qag,qa4,qa9];show R.bind (R.bind (R.bind (R.bind (R.bind (F q [.scr ns,.int (k+1)] U) _) _) _) _) _=_;rw[hq (by omega)];rfl
 have num: ∀{w:Str},w∈[("over" :Str), "under", "plus", "times"]->(runSs F ((qbi p q n).b.drop 2) [some (.scr ns),some (.int k),some (.str w),none] U).bind outT= .ok (.tup [.str w,.int (qhZ ns (k+1) 20)]) U:=λ{w} h=>by
  have fin:runSs F [.ret (.tup [vA2,(.call n [vA0,(Oo .add vA1 (Ci 1)),(Ci 20)])])] [some (.scr ns),some (.int k),some (.str w),none] U= .ok (.rt (.tup [.str w,.int (qhZ ns (k+1) 20)])) U:=by rw[qag,qa4,qa9];show R.bind (R.bind (R.bind (R.bind (R.bind (F n [.scr ns,.int (k+1),.int 20] U) _) _) _) _) _=_;rw[hn (by omega) (by omega)];rfl
  simp only[List.mem_cons,List.not_mem_nil,or_false] at h
  rcases h with rfl|rfl|rfl|rfl<;>exact qam rfl (qbN rfl fin)
 have cnt: ∀{w:Str},w∈[("first" :Str), "each", "window"]->(runSs F ((qbi p q n).b.drop 2) [some (.scr ns),some (.int k),some (.str w),none] U).bind outT= .ok (.tup [.str w,.int (qkY ns k)]) U:=λ{w} h=>by
  have s1:qaG F (.set 3 (Oo .add (Ci 1) (.call p [vA0,(Oo .add vA1 (Ci 1)),(Ci 4)]))) [some (.scr ns),some (.int k),some (.str w),none] U= .ok (.nx [some (.scr ns),some (.int k),some (.str w),some (.int (1+qaj ns (k+1) 4))]) U:=by rw[qaJ,qan,qet,qaa];show R.bind (R.bind (F p [.scr ns,.int (k+1),.int 4] U) _) _=_;rw[D.p (by omega) (by omega)];rfl
  have s2:qac F (.ife (Oo .eq vA3 (Ci 4)) (Oo .add (Ci 1) (.call p [vA0,(Oo .add vA1 (Ci 2)),(Ci 20)])) vA3) [some (.scr ns),some (.int k),some (.str w),some (.int (1+qaj ns (k+1) 4))] U= .ok (.int (qkY ns k)) U:=by
   have e3:qac F vA3 [some (.scr ns),some (.int k),some (.str w),some (.int (1+qaj ns (k+1) 4))] U= .ok (.int (1+qaj ns (k+1) 4)) U:=rfl;rw[qcj,qan,e3];simp only[qaa,qet,qsB,qd4,qbp];unfold qkY;by_cases z:1+qaj ns (k+1) 4=4
   ·rw[if_pos (decide_eq_true z),if_pos z,qan,qet,qaa];show R.bind (F p [.scr ns,.int (k+2),.int 20] U) _=_;rw[D.p (by omega) (by omega)];rfl
   ·rw[if_neg (by simp[z]),if_neg z];exact e3
  have fin:runSs F [.set 3 (Oo .add (Ci 1) (.call p [vA0,(Oo .add vA1 (Ci 1)),(Ci 4)])),.ret (.tup [vA2,(.ife (Oo .eq vA3 (Ci 4)) (Oo .add (Ci 1) (.call p [vA0,(Oo .add vA1 (Ci 2)),(Ci 20)])) vA3)])] [some (.scr ns),some (.int k),some (.str w),none] U= .ok (.rt (.tup [.str w,.int (qkY ns k)])) U:=by rw[qag,s1,qaa,qaq,qag,qa4,qa9,qae,qnc];show R.bind (R.bind (R.bind (R.bind (R.ok (NV.T.str w) U) _) _) _) _=_;rw[qaa,qae,s2];rfl
  simp only[List.mem_cons,List.not_mem_nil,or_false] at h
  rcases h with rfl|rfl|rfl<;>exact qam rfl (qam rfl (qbN rfl fin))
 have bare: ∀{w:Str},w∈[("running" :Str), "change", "unlike"]->(runSs F ((qbi p q n).b.drop 2) [some (.scr ns),some (.int k),some (.str w),none] U).bind outT= .ok (.tup [.str w]) U:=λ{w} h=>by
  simp only[List.mem_cons,List.not_mem_nil,or_false] at h
  rcases h with rfl|rfl|rfl<;>exact qam rfl (qam rfl (qam rfl (qcs rfl)))
 have a:=qaO (ns:=ns) (k:=k) (many:=11) (by omega);have b:=qaK (ns:=ns) (k:=k) (many:=11) (by omega);generalize hw:(qaj ns k 11).toNat=w;have pw:qaj ns k 11=(w:Int):=by omega
 have lw:w<11:=by omega
 have st: ∀{z:Str}{r:R NV.T},([("key" :Str), "over", "under", "plus", "times", "first", "each", "window", "running", "change", "unlike"]:List Str)[w]? =some z->(runSs F ((qbi p q n).b.drop 2) [some (.scr ns),some (.int k),some (.str z),none] U).bind outT=r->(runSs F (qbi p q n).b [some (.scr ns),some (.int k),none,none] U).bind outT=r:=λ{z r} hz h=>by refine qas (ρ':=[some (.scr ns),some (.int k),some (.lst (([("key" :Str), "over", "under", "plus", "times", "first", "each", "window", "running", "change", "unlike"]:List Str).map NV.T.str)),none]) (μ':=U) rfl (qas (ρ':=[some (.scr ns),some (.int k),some (.str z),none]) (μ':=U) ?_ h);have e2:qac F vA2 [some (.scr ns),some (.int k),some (.lst (([("key" :Str), "over", "under", "plus", "times", "first", "each", "window", "running", "change", "unlike"]:List Str).map NV.T.str)),none] U= .ok (.lst (([("key" :Str), "over", "under", "plus", "times", "first", "each", "window", "running", "change", "unlike"]:List Str).map NV.T.str)) U:=rfl;rw[qaJ,qan,e2,qaa];show R.bind (R.bind (F p [.scr ns,.int k,.int 11] U) _) _=_;rw[D.p h0 (by omega),qaa,qjP,pw,qec,List.getElem?_map,hz];rfl
 unfold qcR;rw[hw]
 match w,lw with
 |0,_=>exact st rfl (key rfl)
 |1,_=>exact st rfl (num (by simp))
 |2,_=>exact st rfl (num (by simp))
 |3,_=>exact st rfl (num (by simp))
 |4,_=>exact st rfl (num (by simp))
 |5,_=>exact st rfl (cnt (by simp))
 |6,_=>exact st rfl (cnt (by simp))
 |7,_=>exact st rfl (cnt (by simp))
 |8,_=>exact st rfl (bare (by simp))
 |9,_=>exact st rfl (bare (by simp))
 |10,_=>exact st rfl (bare (by simp))
noncomputable def qe6(ns:List Int)(k most:Int):List Wk.Sp:=(List.range (qaj ns (k+60) (most+1)).toNat).map λj=>qcR ns (k+6*(j:Nat))
theorem qjt(ns:List Int)(k most:Int): ∀p∈qe6 ns k most,p.fine:=λp hp=>by obtain⟨j,_,rfl⟩:=List.mem_map.mp hp;exact qh7 _ _
theorem qlT(hm:0<=most):((qe6 ns k most).length:Int)<=most:=by
 have b:=qaK (ns:=ns) (k:=k+60) (many:=most+1) (by omega);unfold qe6
 grind
noncomputable def qnJ(p s:Nat):Fcd:=⟨false,3,3,[.ret (.bn false .tup [(.comp false false 1 [1,0] (.n 0) (.by_ .rng1 [(.call p [vA0,(Oo .add vA1 (Ci 60)),(Oo .add vA2 (Ci 1))])]) none (.call s [vA2,(Oo .add vA1 (Oo .mul (Ci 6) vA0))]))])]⟩
theorem qpa(D:Drw F p ns)(hs: ∀{U:Mu}{k:Int},0<=k->F s [.scr ns,.int k] U= .ok (qcR ns k).T U)(h0:0<=k)(hm:0<=most/\most<=900):(qnJ p s).run F [.scr ns,.int k,.int most] U= .ok (.tup ((qe6 ns k most).map Sp.T)) U:=by
 refine qaw rfl (qcs ?_);have b:=qaK (ns:=ns) (k:=k+60) (many:=most+1) (by omega);have a:=qaO (ns:=ns) (k:=k+60) (many:=most+1) (by omega);generalize hn:(qaj ns (k+60) (most+1)).toNat=n;have pn:qaj ns (k+60) (most+1)=(n:Int):=by omega
 have cm:=qfu (F:=F) (U:=U) (ρ:=[some (.scr ns),some (.int k),some (.int most)]) (x:=false) (fr:=[1,0]) (ci:=.by_ .rng1 [(.call p [vA0,(Oo .add vA1 (Ci 60)),(Oo .add vA2 (Ci 1))])]) (e:=.call s [vA2,(Oo .add vA1 (Oo .mul (Ci 6) vA0))]) (List.range n) _ _
  (qph (n:=n) (by
   show F p _ U=_;rw[D.p (by omega) (by omega),pn]) (by omega)) λj hj=>by have e:qac F (Oo .add vA1 (Oo .mul (Ci 6) vA0)) (some (.int (j:Nat))::frO [1,0] [some (.scr ns),some (.int k),some (.int most)]) U= .ok _ U:=rfl;have e0:qac F vA2 (some (.int (j:Nat))::frO [1,0] [some (.scr ns),some (.int k),some (.int most)]) U= .ok (.scr ns) U:=rfl;exact hs (by omega)
 rw[qbc,qae]
 change R.bind (R.bind (qac F _ [some (.scr ns),some (.int k),some (.int most)] U) _) _=_
 rw[cm];unfold qe6;rw[hn,List.map_map];rfl
end
noncomputable def qbz(t:NV.T):Prop:= ∃ps:List Wk.Sp,t= .tup (ps.map Sp.T)/\ps.length<=3/\∀p∈ps,p.fine
noncomputable def nms:List Str:=["a", "b", "ten", "last"]
structure qkS(a:As):Prop where
 nm: ∀q∈a,q.1∈nms
 nd:(a.map (·.1)).Nodup
 ak: ∀q∈a,qbz q.2
structure qqK(l:List Row):Prop where
 r: ∀x∈l,rowOk x
 s:Ris l
 n:l.length<=12
abbrev Sta:=List Row×As
structure qdo(s:Sta):Prop where
 l:qqK s.1
 a:qkS s.2
noncomputable def qaT(s:Sta):NV.T:=.tup [.tup (s.1.map qaW),asT s.2]
inductive qa3 where
 |add (r:Row)|hang (n:Str) (t:NV.T)|lose (n:Str)
noncomputable def qa3.T:qa3->NV.T
 |.add r=>.tup [.str "add",qaW r]
 |.hang n t=>.tup [.str "hang",.str n,t]
 |.lose n=>.tup [.str "lose",.str n]
noncomputable def qa3.w:qa3->Str
 |.add _=> "add"
 |.hang _ _=> "hang"
 |.lose _=> "lose"
noncomputable def qa3.ok:qa3->Prop
 |.add r=>rowOk r
 |.hang n t=>n∈nms/\qbz t
 |.lose n=>n∈nms
section
variable{F F1 F2:Fs}{U m:Mu}{ns:List Int}
theorem qu9(r:Row):okT (n+1) (qaW r)=true:=by cases n<;>simp[qaW,okT]
theorem qg5(l:List Row):okT (n+2) (.tup (l.map qaW))=true:=by unfold okT;rw[List.all_eq_true];intro t ht;obtain⟨r,_,rfl⟩:=List.mem_map.mp ht;exact qu9 r
theorem qno(l:List Row):O2.g .ne U (.tup (l.map qaW)) (.tup [])=some (.v (.bl (!l.isEmpty))):=by rw[qwN (qg5 l) rfl];cases l<;>rfl
theorem qhb(l:List Row):O2.g .ix U (.tup (l.map qaW)) (.int (-1))=(l.getLast?.map qaW).map .v:=by simp
abbrev rD(ns:List Int)(k:Int)(s:Sta)(a b c:Option NV.T):Ro:=[some (.scr ns),some (.int k),some (qaT s),some (.tup (s.1.map qaW)),some (asT s.2),some (.int (qaj ns k 6)),a,b,c]
abbrev xL:CE:=.ife (Oo .ne vA3 (.tup [])) (Oo .ix (Oo .ix vA3 (.neg (Ci 1))) (Ci 0)) (Ci 1)
abbrev xY:List CE:=[(Cs "a"),(Cs "b"),(Cs "ab")]
abbrev xM:CE:=.bn false .max [(Ci 0),(.bn false .min [(Ci 99),v7])]
noncomputable def qhw(p a:Nat):Fcd:=⟨false,3,9,[.asg (.tup [(.n 3),(.n 4)]) vA2,.set 5 (.call p [vA0,vA1,(Ci 6)]),.set 6 (Oo .ix (.lst false [(Cs "a"),(Cs "b"),(Cs "ten"),(Cs "last")]) (.call p [vA0,(Oo .add vA1 (Ci 1)),(Ci 4)])),.ife (Oo .lt v5 (Ci 3)) [.set 7 (Oo .add (Oo .sub (.call p [vA0,(Oo .add vA1 (Ci 2)),(Ci 5)]) (Ci 1)) xL),.set 8 (Oo .ix (.lst false xY) (.call p [vA0,(Oo .add vA1 (Ci 3)),(Ci 3)])),.ret (.tup [(Cs "add"),(.tup [xM,v8,(Oo .sub (.call p [vA0,(Oo .add vA1 (Ci 4)),(Ci 9)]) (Ci 4))])])] [],.ife (Oo .lt v5 (Ci 5)) [.ret (.tup [(Cs "hang"),v6,(.call a [vA0,(Oo .add vA1 (Ci 10)),(Ci 3)])])] [],.ret (.tup [(Cs "lose"),v6])]⟩
theorem qgY{p:Nat}{k:Int}{ρ:Ro}{es:List CE}{zs:List Str}{e1:CE}{k1:Int}(D:Drw F p ns)(h0:ρ[0]? =some (some (.scr ns)))(he:qac F e1 ρ U= .ok (.int k1) U)(hk:0<=k1)(hl:qac F (.lst false es) ρ U= .ok (.lst (zs.map NV.T.str)) U)(hz:0<zs.length): ∃z∈zs,qac F (Oo .ix (.lst false es) (.call p [vA0,e1,(.c (.int zs.length))])) ρ U= .ok (.str z) U:=by
 have a:=qaO (ns:=ns) (k:=k1) (many:=zs.length) (by omega);have b:=qaK (ns:=ns) (k:=k1) (many:=zs.length) (by omega);have hp:(qaj ns k1 zs.length).toNat<zs.length:=by omega
 refine⟨zs[(qaj ns k1 zs.length).toNat],List.getElem_mem _,?_⟩;have e0:qac F vA0 ρ U= .ok (.scr ns) U:=by rw[qnc,h0];rfl
 rw[qan,hl,qaa,qbt,qae,e0,qaa,qae,he];show R.bind (F p [.scr ns,.int k1,.int zs.length] U) _=_;rw[D.p hk (by omega),qaa,qjP,qbu a,List.getElem?_map,List.getElem?_eq_getElem hp];rfl
theorem qpR{p a:Nat}{s:Sta}(D:Drw F p ns)(ha: ∀{U:Mu}{k:Int},0<=k->F a [.scr ns,.int k,.int 3] U= .ok (.tup ((qe6 ns k 3).map Sp.T)) U)(hs:qdo s){k:Int}(h0:0<=k): ∃d:qa3,d.ok/\(qhw p a).run F [.scr ns,.int k,qaT s] U= .ok d.T U:=by
 obtain⟨n,hn,e6⟩:=qgY (F:=F) (U:=U) (p:=p) (ns:=ns) (k:=0) (ρ:=(rD ns k s none none none)) (es:=[(Cs "a"),(Cs "b"),(Cs "ten"),(Cs "last")]) (zs:=nms) (e1:=Oo .add vA1 (Ci 1)) (k1:=k+1) D rfl rfl (by omega) rfl (by decide);have head: ∀{r:R NV.T},(runSs F ((qhw p a).b.drop 3) (rD ns k s (some (.str n)) none none) U).bind outT=r->(runSs F (qhw p a).b [some (.scr ns),some (.int k),some (qaT s),none,none,none,none,none,none] U).bind outT=r:=λ{r} h=>by
  refine qas (ρ':=[some (.scr ns),some (.int k),some (qaT s),some (.tup (s.1.map qaW)),some (asT s.2),none,none,none,none]) (μ':=U) rfl (qas (ρ':=(rD ns k s none none none)) (μ':=U) ?_ (qas (ρ':=(rD ns k s (some (.str n)) none none)) (μ':=U) ?_ h))
  ·rw[qaJ];show R.bind (F p [.scr ns,.int k,.int 6] U) _=_;rw[D.p h0 (by omega)];rfl
  ·rw[qaJ];exact(congrArg (λx=>R.bind x _) e6).trans rfl
 by_cases w3:qaj ns k 6<3
 ·
  have ⟨L,hL,eL⟩: ∃L:Int,(0<=L/\L<=99)/\qac F xL (rD ns k s (some (.str n)) none none) U= .ok (.int L) U:=by
   have e3:qac F vA3 (rD ns k s (some (.str n)) none none) U= .ok (.tup (s.1.map qaW)) U:=rfl;have e0:qac F (.tup []) (rD ns k s (some (.str n)) none none) U= .ok (.tup []) U:=rfl;rw[qcj,qan,e3,qaa,e0,qaa,qno];cases q:s.1.getLast? with
   |none=>have:s.1=[]:=List.getLast?_eq_none_iff.mp q;rw[this];exact⟨1,by omega,rfl⟩
   |some x=>
    have hx:x∈s.1:=List.mem_of_getLast? q;have ne:s.1.isEmpty=false:=by cases h:s.1 with|nil=>rw[h] at q;cases q|cons _ _=>rfl
    refine⟨x.1,(hs.l.r x hx).1,?_⟩;rw[ne];show qac F (Oo .ix (Oo .ix vA3 (.neg (Ci 1))) (Ci 0)) _ U=_;rw[qan,qan,e3,qaa];show R.bind (nvR false (O2.g .ix U (.tup (s.1.map qaW)) (.int (-1))) U) _=_;rw[qhb,q];rfl
  have p2:=qaO (ns:=ns) (k:=k+2) (many:=5) (by omega);have p2':=qaK (ns:=ns) (k:=k+2) (many:=5) (by omega);have p4:=qaO (ns:=ns) (k:=k+4) (many:=9) (by omega);have p4':=qaK (ns:=ns) (k:=k+4) (many:=9) (by omega);obtain⟨y,hy,e8⟩:=qgY (F:=F) (U:=U) (p:=p) (ns:=ns) (k:=0) (ρ:=(rD ns k s (some (.str n)) (some (.int (qaj ns (k+2) 5 - 1+L))) none)) (es:=xY) (zs:=["a", "b", "ab"]) (e1:=Oo .add vA1 (Ci 3)) (k1:=k+3) D rfl rfl (by omega) rfl (by decide);have ky:keyOk y:=by
   simp only[List.mem_cons,List.not_mem_nil,or_false] at hy
   rcases hy with rfl|rfl|rfl<;>exact⟨by decide+kernel,by decide+kernel⟩
  generalize hM:qaj ns (k+2) 5 - 1+L=M at*;refine⟨.add (max 0 (min 99 M),y,qaj ns (k+4) 9 - 4),⟨⟨by show(0:Int)<=max 0 (min 99 M);omega,by show max 0 (min 99 M)<=(99:Int);omega⟩,ky,by show(-99:Int)<=qaj ns (k+4) 9 - 4;omega,by show qaj ns (k+4) 9 - 4<=(99:Int);omega⟩,qaw rfl (head (qbN ?_ ?_))⟩
  ·rw[qan];show R.ok (NV.T.bl (decide (qaj ns k 6<3))) U=_;rw[decide_eq_true w3]
  ·have c7:qac F (.call p [vA0,(Oo .add vA1 (Ci 2)),(Ci 5)]) (rD ns k s (some (.str n)) none none) U= .ok (.int (qaj ns (k+2) 5)) U:=by show F p [.scr ns,.int (k+2),.int 5] U=_;exact D.p (by omega) (by omega)
   have c9:qac F (.call p [vA0,(Oo .add vA1 (Ci 4)),(Ci 9)]) (rD ns k s (some (.str n)) (some (.int M)) (some (.str y))) U= .ok (.int (qaj ns (k+4) 9)) U:=by show F p [.scr ns,.int (k+4),.int 9] U=_;exact D.p (by omega) (by omega)
   have e7:qaG F (.set 7 (Oo .add (Oo .sub (.call p [vA0,(Oo .add vA1 (Ci 2)),(Ci 5)]) (Ci 1)) xL)) (rD ns k s (some (.str n)) none none) U= .ok (.nx (rD ns k s (some (.str n)) (some (.int M)) none)) U:=by rw[qaJ,qan,qan,c7,qaa,qet,qaa,ql8,qd4,qaa,eL,qaa,qpo,qd4,hM];rfl
   have e9:qac F xM (rD ns k s (some (.str n)) (some (.int M)) (some (.str y))) U= .ok (.int (max 0 (min 99 M))) U:=by simp
   have e8':qac F v8 (rD ns k s (some (.str n)) (some (.int M)) (some (.str y))) U= .ok (.str y) U:=rfl;have e8s:qaG F (.set 8 (Oo .ix (.lst false xY) (.call p [vA0,(Oo .add vA1 (Ci 3)),(Ci 3)]))) (rD ns k s (some (.str n)) (some (.int M)) none) U= .ok (.nx (rD ns k s (some (.str n)) (some (.int M)) (some (.str y)))) U:=(congrArg (λx=>R.bind x _) e8).trans rfl;rw[qag,e7,qaa,qaq,qag,e8s,qaa,qaq,qag,qa4,qa9,qae,qet,qaa,qae,qa9,qae,e9,qaa,qae,e8',qaa,qae,qan,c9];rfl
 ·by_cases w5:qaj ns k 6<5
  ·refine⟨.hang n (.tup ((qe6 ns (k+10) 3).map Sp.T)),⟨hn,_,rfl,by have:=qlT (ns:=ns) (k:=k+10) (most:=3) (by omega);omega,qjt _ _ _⟩,qaw rfl (head (qam ?_ (qbN ?_ ?_)))⟩
   ·rw[qan];show R.ok (NV.T.bl (decide (qaj ns k 6<3))) U=_;rw[decide_eq_false w3]
   ·rw[qan];show R.ok (NV.T.bl (decide (qaj ns k 6<5))) U=_;rw[decide_eq_true w5]
   ·rw[qag,qa4,qa9,qae,qet,qaa,qae];show R.bind (R.bind (R.bind (R.bind (R.bind (R.bind (F a [.scr ns,.int (k+10),.int 3] U) _) _) _) _) _) _=_;rw[ha (by omega)];rfl
  ·refine⟨.lose n,hn,qaw rfl (head (qam ?_ (qam ?_ (qcs rfl))))⟩
   ·rw[qan];show R.ok (NV.T.bl (decide (qaj ns k 6<3))) U=_;rw[decide_eq_false w3]
   ·rw[qan];show R.ok (NV.T.bl (decide (qaj ns k 6<5))) U=_;rw[decide_eq_false w5]
end
noncomputable def late(l:List Row)(r:Row):Bool:=match l.getLast? with
 |some x=>decide (r.1<x.1)
 |none=>false
noncomputable def qa3.go:qa3->Sta->Str ⊕ (Sta×NV.T)
 |.add r,s=>if late s.1 r=true then .inl "too late" else if s.1.length=12 then .inl "full" else .inr ((s.1++[r],s.2),.non)
 |.hang n t,s=>.inr ((s.1,qdt s.2 n t),.bl (qbI s.2 n).isSome)
 |.lose n,s=>match qbI s.2 n with
  |some t=>.inr ((s.1,qcc s.2 n),t)
  |none=>.inl "no name"
noncomputable def qct(s:Sta):Str ⊕ (Sta×NV.T)->Sta
 |.inl _=>s
 |.inr p=>p.1
noncomputable def qcu:Str ⊕ (Sta×NV.T)->NV.T
 |.inl w=>.str w
 |.inr p=>p.2
noncomputable def qeg(b a:As):As:=b.foldl (λd p=>qdt d p.1 p.2) a
noncomputable def prA(q:Str×NV.T):NV.T:=.tup [.str q.1,q.2]
theorem qj4: ∀(b a:As),qj5 (kv b) (kv a)=kv (qeg b a)
 |[],_=>rfl
 |q::b,a=>by show qj5 _ (qll _ _ q.2)=kv _;rw[qng];exact qj4 b _
theorem qgW{n:Str}(h:n∉a.map (·.1)):qdt a n t=a++[(n,t)]:=by
 unfold qdt
 simp_all
theorem qcD: ∀{b a:As},((a++b).map (·.1)).Nodup->qeg b a=a++b
 |[],a,_=>by simp[qeg]
 |q::b,a,h=>by
  have n:=λz=>by rw[List.map_append] at h;exact(List.nodup_append.mp h).2.2 _ z _ Vj rfl
  show qeg b (qdt a q.1 q.2)=_;rw[qgW n,qcD (by simpa using h)];simp
theorem qj6(b c a:As):qeg (b++c) a=qeg c (qeg b a):=List.foldl_append ..
theorem qhf(nd:(a.map (·.1)).Nodup)(h:q∈a):qbI a q.1=some q.2:=by
 unfold qbI
 induction a with
 |nil=>cases h
 |cons x a ih=>
  rw[List.map_cons,List.nodup_cons] at nd
  rcases List.mem_cons.mp h with rfl|h
  ·simp
  ·rw[List.find?_cons_of_neg (by
    intro z
    simp_all)]
   exact ih nd.2 h
theorem qjO{n:Str}(h:qbI a n=some t):(n,t)∈a:=by obtain⟨q,hq,rfl⟩:=Option.map_eq_some_iff.mp h;have:=List.find?_some hq;have e:=of_decide_eq_true this;subst e;exact List.mem_of_find?_eq_some hq
section
theorem qn0(h:qac F a ρ U= .ok x af)(h':qac F b ρ af= .ok y ai):qac F (.tup [a,b]) ρ U= .ok (.tup [x,y]) ai:=by
 simp_all
theorem qkk(hl:b.length<=900):nvR false (Bn.g .dct U [.lst (b.map prA)]) U= .ok (asT (qeg b [])) U:=by
 have e1:(b.map prA).filterMap qb0=kv b:=by rw[List.filterMap_map,kv,<-List.filterMap_eq_map];rfl
 have e2:((b.map prA).all λt=>(qb0 t).isSome)=true:=by rw[List.all_map,List.all_eq_true];intro q _;rfl
 have g:Bn.g .dct U [.lst (b.map prA)]=some (.d (kv (qeg b []))):=by show(if(b.map prA).length<=1000/\((b.map prA).all _)=true then some _ else none)=_;rw[if_pos ⟨by grind,e2⟩,e1];exact congrArg (λx=>some _) (qj4 b [])
 rw[g];rfl
theorem qlX(h:qac F e ρ U= .ok (asT a) U):qac F (.litems e) ρ U= .ok (.lst (a.map prA)) U:=by show R.bind _ _=_;rw[h];show R.ok _ U=_;rw[List.map_map];rfl
theorem qvt(h:qac F e ρ U= .ok (asT a) U):qdp F (.gen e) ρ U (a.map λq=>.str q.1):=by refine⟨.fx _,?_,qdC⟩;show(qac F e ρ U).bind _=_;rw[h];show R.ok _ U=_;rw[List.map_map];rfl
abbrev rH(s:Sta)(d:qa3):Ro:=[some (qaT s),some d.T,some (.tup (s.1.map qaW)),some (asT s.2)]
abbrev xN:CE:=Oo .ix vA1 (Ci 1)
abbrev xE:CE:=Oo .ix (Oo .ix vA2 (.neg (Ci 1))) (Ci 0)
abbrev xH:CE:=.bn false .dct [(Oo .add (.litems vA3) (.lst false [(.tup [xN,(Oo .ix vA1 (Ci 2))])]))]
abbrev xC:CE:=.bn false .dct [(.comp false false 1 [1,3] (.n 0) (.gen vA3) (some (Oo .ne vA0 xN)) (.tup [vA0,(Oo .ix vA2 vA0)]))]
abbrev xB:CE:=.and (Oo .ne vA2 (.tup [])) (Oo .lt (Oo .ix xN (Ci 0)) xE)
noncomputable def qeo:Fcd:=⟨false,2,4,[.asg (.tup [(.n 2),(.n 3)]) vA0,.ife (Oo .eq (Oo .ix vA1 (Ci 0)) (Cs "add")) [.ife xB [.ret (.tup [vA0,(Cs "too late")])] [],.ife (Oo .eq (.bn false .len [vA2]) (Ci 12)) [.ret (.tup [vA0,(Cs "full")])] [],.ret (.tup [(.tup [(Oo .add vA2 (.tup [xN])),vA3]),(.c .non)])] [],.ife (Oo .eq (Oo .ix vA1 (Ci 0)) (Cs "hang")) [.ret (.tup [(.tup [vA2,xH]),(Oo .in_ xN vA3)])] [],.ife (Oo .nin xN vA3) [.ret (.tup [vA0,(Cs "no name")])] [],.ret (.tup [(.tup [vA2,xC]),(Oo .ix vA3 xN)])]⟩
theorem qkG{s:Sta}{d:qa3}(hl:s.1.length<=12)(nd:(s.2.map (·.1)).Nodup)(ha:s.2.length<=800):qeo.run F [qaT s,d.T] U= .ok (.tup [qaT (qct s (d.go s)),qcu (d.go s)]) U:=by
 refine qaw rfl ?_
 change (runSs F qeo.b [some (qaT s),some d.T,none,none] U).bind outT=_
 refine qas (ρ':=rH s d) (μ':=U) rfl ?_;cases d with
 |add r=>
  refine qk7 ?_;rw[qbl rfl];have e2:qac F vA2 (rH s (.add r)) U= .ok (.tup (s.1.map qaW)) U:=rfl;have e0:qac F (.tup []) (rH s (.add r)) U= .ok (.tup []) U:=rfl;have t1:qac F xB (rH s (.add r)) U= .ok (.bl (late s.1 r)) U:=by
   rw[qnd,qan,e2,qaa,e0,qaa,qno];unfold late;cases q:s.1.getLast? with
   |none=>have:s.1=[]:=List.getLast?_eq_none_iff.mp q;rw[this];rfl
   |some x=>
    have ne:s.1.isEmpty=false:=by cases h:s.1 with|nil=>rw[h] at q;cases q|cons _ _=>rfl
    have f1:qac F (Oo .ix xN (Ci 0)) (rH s (.add r)) U= .ok (.int r.1) U:=rfl;have f2:qac F (.neg (Ci 1)) (rH s (.add r)) U= .ok (.int (-1)) U:=rfl;rw[ne,qd4,qaa,qbp,qaa,if_pos (show(!false)=true from rfl),qan,f1,qaa,qan,qan,e2,qaa,f2,qaa,qhb,q];rfl
  by_cases z:late s.1 r=true
  ·rw[qag,qbl (t1.trans (by rw[z]))];simp only[qa3.go,z,if_true,qct,qcu];rfl
  ·have z':late s.1 r=false:=by simpa using z
   rw[qag,qdr (t1.trans (by rw[z'])),qiU,qaa,qaq,qag];have e3:qac F (Oo .eq (.bn false .len [vA2]) (Ci 12)) (rH s (.add r)) U= .ok (.bl (decide (s.1.length=12))) U:=by have:decide ((s.1.length:Int)=12)=decide (s.1.length=12):=decide_eq_decide.mpr (by omega);simp[this]
   by_cases l:s.1.length=12
   ·rw[qbl (e3.trans (by rw[decide_eq_true l]))];simp only[qa3.go,z',l,if_true,qct,qcu,Bool.false_eq_true,if_false];rfl
   ·rw[qdr (e3.trans (by rw[decide_eq_false l])),qiU,qaa,qaq,qag,qa4,qa9,qae,qa9,qae,qan,e2,qaa];rw[show qac F (.tup [xN]) (rH s (.add r)) U= .ok (.tup [qaW r]) U from rfl,qaa,qx6 (by simp;omega)];simp only[qa3.go,z',l,qct,qcu,Bool.false_eq_true,if_false,qaT,List.map_append];rfl
 |hang n t=>
  refine qam rfl (qk7 ?_);have e3:qac F vA3 (rH s (.hang n t)) U= .ok (asT s.2) U:=rfl;have el:qac F (.lst false [(.tup [xN,(Oo .ix vA1 (Ci 2))])]) (rH s (.hang n t)) U= .ok (.lst ([(n,t)].map prA)) U:=rfl;have e5:qac F xH (rH s (.hang n t)) U= .ok (asT (qdt s.2 n t)) U:=by rw[qbc,qae,qan,qlX e3,qaa,el,qaa,qhh (xs:=s.2.map prA) (ys:=[(n,t)].map prA) rfl rfl (by rw[List.length_map];show s.2.length+1<=1000;omega),<-List.map_append];show nvR false (Bn.g .dct U [.lst ((s.2++[(n,t)]).map prA)]) U=_;rw[qkk (by rw[List.length_append];show s.2.length+1<=900;omega),qj6,qcD (a:=[]) (b:=s.2) (by simpa using nd)];rfl
  have e6:qac F (Oo .in_ xN vA3) (rH s (.hang n t)) U= .ok (.bl (qbI s.2 n).isSome) U:=by rw[qan,show qac F xN (rH s (.hang n t)) U= .ok (.str n) U from rfl,qaa,e3,qaa,show O2.g .in_ U (.str n) (asT s.2)=_ from ql3 (U:=U) (neg:=false) s.2 n];rfl
  rw[qbl rfl,qag,qa4,qn0 (qn0 (a:=.v 2) (x:=.tup (s.1.map qaW)) rfl e5) e6];rfl
 |lose n=>
  have e3:qac F vA3 (rH s (.lose n)) U= .ok (asT s.2) U:=rfl;have t1:qac F (Oo .nin xN vA3) (rH s (.lose n)) U= .ok (.bl (!(qbI s.2 n).isSome)) U:=by rw[qan,show qac F xN (rH s (.lose n)) U= .ok (.str n) U from rfl,qaa,e3,qaa,show O2.g .nin U (.str n) (asT s.2)=_ from ql3 (U:=U) (neg:=true) s.2 n];rfl
  refine qam rfl (qam rfl ?_);cases q:qbI s.2 n with
  |none=>rw[q] at t1;refine qbN t1 ?_;simp only[qa3.go,q,qct,qcu];rfl
  |some t=>
   rw[q] at t1;refine qam t1 (qcs ?_);have cm:=qtv (F:=F) (U:=U) (ρ:=(rH s (.lose n))) (x:=false) (fr:=[1,3]) (ci:=.gen vA3) (t:=some (Oo .ne vA0 xN)) (e:=.tup [vA0,(Oo .ix vA2 vA0)]) s.2 (λq=>.str q.1) (λq=>decide (q.1≠n)) prA (qvt e3) (λq hq=>by
     rw[qon,qan];show R.bind (nvR false (O2.g .ne U (.str q.1) (.str n)) U) _=_;rw[qpm,qd4,qaa,qbp];simp) (λq hq hp=>by
     rw[qa9,qae,qnc];show R.bind (R.bind (runA F [(Oo .ix vA2 vA0)] _ U) _) _=_;rw[qae,qan];show R.bind (R.bind (R.bind (nvR false (O2.g .ix U (asT s.2) (.str q.1)) U) _) _) _=_;rw[qpg,qhf nd hq];rfl)
   have e5:qac F xC (rH s (.lose n)) U= .ok (asT (qcc s.2 n)) U:=by
    rw[qbc,qae,cm];show nvR false (Bn.g .dct U [.lst ((s.2.filter λq=>decide (q.1≠n)).map prA)]) U=_;rw[qkk (Nat.le_trans (List.length_filter_le _ _) (by omega:s.2.length<=900)),qcD (a:=[]) (by
     show((s.2.filter _).map _).Nodup;exact(List.Sublist.map _ List.filter_sublist).nodup nd)];rfl
   have e6:qac F (Oo .ix vA3 xN) (rH s (.lose n)) U= .ok t U:=by rw[qan,e3,qaa,show qac F xN (rH s (.lose n)) U= .ok (.str n) U from rfl,qaa,qpg,q];rfl
   rw[qn0 (qn0 (a:=.v 2) (x:=.tup (s.1.map qaW)) rfl e5) e6];simp only[qa3.go,q,qct,qcu];rfl
end
theorem qnp{α:Type}[DecidableEq α]: ∀{l m:List α},l.Nodup->(∀x∈l,x∈m)->l.length<=m.length
 |[],_,_,_=>Nat.zero_le _
 |x::l,m,nd,h=>by
  rw[List.nodup_cons] at nd;have:=qnp nd.2 λy hy=>(List.mem_erase_of_ne (λz:y=x=>nd.1 (by rw[<-z];exact hy))).mpr (h y (Vk _ hy))
  grind
theorem qkS.len(h:qkS a):a.length<=4:=by
 have:=qnp h.nd λn hn=>by obtain⟨q,hq,rfl⟩:=List.mem_map.mp hn;exact h.nm q hq
 rw[List.length_map] at this;exact this
noncomputable def qmN(w:Nat):Fcd:=⟨false,1,1,[.ret (.call w [vA0,(Ci 6)])]⟩
theorem quu(p:Wk.Sp):ub p.T=0:=by cases p<;>simp[Sp.T,ub,ubs]
theorem quv(p:Wk.Sp):okT (n+1) p.T=true:=by cases n<;>cases p<;>simp[Sp.T,okT]
theorem qbz.ub(h:qbz t):NV.ub t=0:=by obtain⟨ps,rfl,_⟩:=h;exact qk4 λt ht=>by obtain⟨p,_,rfl⟩:=List.mem_map.mp ht;exact quu p
theorem qbz.okT(h:qbz t):NV.okT (n+2) t=true:=by obtain⟨ps,rfl,_⟩:=h;unfold NV.okT;rw[List.all_eq_true];intro t ht;obtain⟨p,_,rfl⟩:=List.mem_map.mp ht;exact quv p
theorem qkS.ub(h:qkS a): ∀q∈a,NV.ub q.2=0:=λq hq=>(h.ak q hq).ub
theorem qiZ{n:Str}(h:n∈a.map (·.1)):(qdt a n t).map (·.1)=a.map (·.1):=by
 unfold qdt;obtain⟨q,hq,rfl⟩:=List.mem_map.mp h;rw[if_pos (List.any_eq_true.mpr ⟨q,hq,decide_eq_true rfl⟩),List.map_map];refine List.map_congr_left λr _=> ?_;show(if r.1=q.1 then(r.1,t) else r).1=r.1
 split<;>rfl
theorem qkS.put{n:Str}(h:qkS a)(hn:n∈nms)(ht:qbz t):qkS (qdt a n t):=by
 by_cases z:n∈a.map (·.1)
 ·have e:=qiZ (t:=t) z;refine⟨λq hq=> ?_,by rw[e];exact h.nd,λq hq=> ?_⟩
  ·have:q.1∈(qdt a n t).map (·.1):=List.mem_map.mpr ⟨q,hq,rfl⟩;rw[e] at this;obtain⟨r,hr,er⟩:=List.mem_map.mp this;rw[<-er];exact h.nm r hr
  ·unfold qdt at hq;split at hq
   ·obtain⟨r,hr,rfl⟩:=List.mem_map.mp hq;split
    ·exact ht
    ·exact h.ak r hr
   simp_all
 ·rw[qgW z];refine⟨λq hq=> ?_,?_,λq hq=> ?_⟩
  ·rcases List.mem_append.mp hq with y|y
   ·exact h.nm q y
   ·rw[List.mem_singleton.mp y];exact hn
  ·rw[List.map_append,List.nodup_append];exact⟨h.nd,by simp,λx hx y hy e=>by simp_all⟩
  ·rcases List.mem_append.mp hq with y|y
   ·exact h.ak q y
   ·rw[List.mem_singleton.mp y];exact ht
theorem qkS.drop{n:Str}(h:qkS a):qkS (qcc a n):=
 ⟨λq hq=>h.nm q (List.mem_filter.mp hq).1,(List.Sublist.map _ List.filter_sublist).nodup h.nd,λq hq=>h.ak q (List.mem_filter.mp hq).1⟩
theorem qlc(h:Ris l)(q:l.getLast? =some x): ∀y∈l,y.1<=x.1:=by
 intro y hy;have ne:l≠[]:=λz=>by rw[z] at q;cases q
 have e:=List.dropLast_concat_getLast ne;have ex:=by rw[List.getLast?_eq_some_getLast ne] at q;exact Option.some.inj q
 rw[ex] at e;rw[<-e] at hy h
 rcases List.mem_append.mp hy with z|z
 ·exact(List.pairwise_append.mp h).2.2 y z x (List.mem_singleton.mpr rfl)
 simp_all
theorem qiP(h:Ris l)(hl:late l r=false):Ris (l++[r]):=by
 refine List.pairwise_append.mpr ⟨h,List.pairwise_singleton _ _,λy hy z hz=> ?_⟩;rw[List.mem_singleton.mp hz];cases q:l.getLast? with
 |none=>simp_all
 |some x=>unfold late at hl;rw[q] at hl;have:=of_decide_eq_false hl;have:=qlc h q y hy;omega
theorem qha: ∀{l:List Row}{r:Row},late l r=true->qf5 (l++[r])=false
 |[],_,h=>by cases h
 |[x],r,h=>by
  have h:=h;have h:=of_decide_eq_true h;show(decide _&&true)=false
  grind
 |x::y::l,r,h=>by
  have h':=by exact h
  have ih:=qha (l:=y::l) h';show(decide _&&qf5 (y::l++[r]))=false;rw[ih,Bool.and_false]
theorem qqK.add{l:List Row}{r:Row}(h:qqK l)(hr:rowOk r)(hl:late l r=false)(hn:l.length≠12):qqK (l++[r]):=
 ⟨λx hx=>by
  rcases List.mem_append.mp hx with z|z
  ·exact h.r x z
  grind,qiP h.s hl,by have:=h.n;grind⟩
theorem qsy{s:Sta}{d:qa3}(hs:qdo s)(hd:d.ok):qdo (qct s (d.go s)):=by
 cases d with
 |add r=>
  show qdo (qct s (if late s.1 r=true then .inl _ else if s.1.length=12 then .inl _ else .inr _));by_cases z:late s.1 r=true
  ·rw[if_pos z];exact hs
  ·rw[if_neg z];by_cases l:s.1.length=12
   ·rw[if_pos l];exact hs
   ·rw[if_neg l];exact⟨hs.l.add hd (by simpa using z) l,hs.a⟩
 |hang n t=>exact⟨hs.l,hs.a.put hd.1 hd.2⟩
 |lose n=>
  show qdo (qct s (match qbI s.2 n with|some t=>.inr _|none=>.inl _));cases qbI s.2 n with
  |some t=>exact⟨hs.l,hs.a.drop⟩
  |none=>exact hs
structure qes(d:Dsk):Prop where
 st:qdo (d.log,d.asks)
 ps: ∀s∈d.past,qdo s.2
 cm: ∀s∈d.coming,qdo s.2
noncomputable def qa3.on(D:qa3)(d:Dsk):Dsk:=match D.go (d.log,d.asks) with
 |.inl _=>d
 |.inr p=>⟨p.1.1,p.1.2,d.past++[(D.w,d.log,d.asks)],[]⟩
theorem qu8{D:qa3}(h:qes d)(hd:D.ok):qes (D.on d):=by
 have g:=qsy h.st hd;unfold qa3.on;cases q:D.go _ with
 |inl w=>exact h
 |inr p=>
  rw[q] at g;refine⟨g,λs hs=> ?_,λs hs=>nomatch hs⟩
  rcases List.mem_append.mp hs with z|z
  ·exact h.ps s z
  ·rw[List.mem_singleton.mp z];exact h.st
structure Dks(F:Fs)(hg ad lo:Nat):Prop where
 hang: ∀{U:Mu}{x p c:Nat}{d:Dsk}{n:Str}{t:NV.T},DS U x p c d->qdo (d.log,d.asks)->d.past.length<=900->n∈nms->qbz t->
  ∃μ',F hg [.obj x,.str n,t] U= .ok (.bl (qbI d.asks n).isSome) μ'/\DS μ' x p c ⟨d.log,qdt d.asks n t,d.past++[((("hang" :Str),d.log,d.asks):St3)],[]⟩/\On U μ' x p c
 late: ∀{U:Mu}{x p c:Nat}{d:Dsk}{r:Row},DS U x p c d->qdo (d.log,d.asks)->rowOk r->late d.log r=true->F ad [.obj x,qaW r] U= .ex "TooLate" U
 full: ∀{U:Mu}{x p c:Nat}{d:Dsk}{r:Row},DS U x p c d->qdo (d.log,d.asks)->rowOk r->Dk.late d.log r=false->d.log.length=12->F ad [.obj x,qaW r] U= .ex "Full" U
 add: ∀{U:Mu}{x p c:Nat}{d:Dsk}{r:Row},DS U x p c d->qdo (d.log,d.asks)->d.past.length<=900->rowOk r->Dk.late d.log r=false->d.log.length≠12->
  ∃μ',F ad [.obj x,qaW r] U= .ok .non μ'/\DS μ' x p c ⟨d.log++[r],d.asks,d.past++[((("add" :Str),d.log,d.asks):St3)],[]⟩/\On U μ' x p c
 no: ∀{U:Mu}{x p c:Nat}{d:Dsk}{n:Str},DS U x p c d->n∈nms->qbI d.asks n=none->F lo [.obj x,.str n] U= .ex "NoName" U
 lose: ∀{U:Mu}{x p c:Nat}{d:Dsk}{n:Str}{t:NV.T},DS U x p c d->qdo (d.log,d.asks)->d.past.length<=900->n∈nms->qbI d.asks n=some t->
  ∃μ',F lo [.obj x,.str n] U= .ok t μ'/\DS μ' x p c ⟨d.log,qcc d.asks n,d.past++[((("lose" :Str),d.log,d.asks):St3)],[]⟩/\On U μ' x p c
section
theorem qs5(hH: ∀ts U,F hg ts U=(qdM na nm ds).run F1 ts U)(hA: ∀ts U,F ad ts U=(qkx nl ds).run F1 ts U)(hL: ∀ts U,F lo ts U=(qc9 ao ds).run F1 ts U)(hD: ∀ts U,F1 ds ts U=qqd.run F2 ts U)(hO: ∀ts U,F1 ao ts U=(qdc i9).run F2 ts U)(iG: ∀{t:NV.T}{U:Mu},qbz t->F1 na [t] U= .ok .non U)(ik: ∀{n:Str}{U:Mu},n∈nms->F1 nm [.str n] U= .ok (.bl true) U)(fM: ∀{n:Str}{U:Mu},n∈nms->F2 i9 [.str n] U= .ok (.bl true) U)(ir: ∀{l:List Row}{r:Row}{U:Mu},qqK l->rowOk r->F1 nl [qbe (l++[r])] U=if Dk.late l r=true then .ex "TooLate" U else .ok .non U):Dks F hg ad lo where
 hang {U x p c d n t} h hs hp hn ht:=by have l4:d.asks.length<=4:=hs.a.len;obtain⟨μ',e,a,b⟩:=qpk (F:=F1) (F1:=F2) (na:=na) (nm:=nm) (ds:=ds) (n:=n) (t:=t) h (iG ht) (ik hn) (.inr (by omega)) (by omega) ht.ub hp hD;exact⟨μ',by rw[hH];exact e,a,b⟩
 late {U x p c d r} h hs hr hl:=by rw[hA];exact qqr h (by have:d.log.length<=12:=hs.l.n;omega) (by rw[ir hs.l hr,if_pos hl])
 full {U x p c d r} h hs hr hl hn:=by rw[hA];exact qm3 h (by rw[ir hs.l hr,if_neg (by rw[hl];decide)]) hn
 add {U x p c d r} h hs hp hr hl hn:=by obtain⟨μ',e,a,b⟩:=qtN (F:=F1) (F1:=F2) (nl:=nl) (ds:=ds) (r:=r) h (by rw[ir hs.l hr,if_neg (by rw[hl];decide)]) (by have:=hs.l.n;have:d.log.length<=12:=this;omega) hp hD;exact⟨μ',by rw[hA];exact e,a,b⟩
 no {U x p c d n} h hn hg:=by rw[hL];exact qo8 h (by rw[hO];exact qtJ h (fM hn) hg)
 lose {U x p c d n t} h hs hp hn hg:=by obtain⟨μ',e,a,b⟩:=qo7 (F:=F1) (F1:=F2) (ao:=ao) (ds:=ds) (n:=n) (t:=t) h (by rw[hO];exact qnO h (fM hn) hg) hg (hs.a.ub _ (qjO hg)) hp hD;exact⟨μ',by rw[hL];exact e,a,b⟩
theorem told_ok(h:qac F e (qaQ 0 fr ρ) U= .ok t m):qac F (.told wd fr e) ρ U= .ok t m:=by show qgi _ fr _ ρ U=_;unfold qgi;rw[h]
theorem qcG{k w:Str}(h:qac F e (qaQ 0 fr ρ) U= .ex k m)(hw:wd.lookup k=some w):qac F (.told wd fr e) ρ U= .ok (.str w) m:=by show qgi _ fr _ ρ U=_;unfold qgi;simp_all
noncomputable def qtB(wd:List (Str×Str))(hg ad lo:Nat):Fcd:=⟨false,2,2,[.ife (Oo .eq (Oo .ix vA1 (Ci 0)) (Cs "hang")) [.ret (.told wd [1,0] (.mth [("Desk",hg)] "hang" vA1 [(Oo .ix vA0 (Ci 1)),(Oo .ix vA0 (Ci 2))]))] [],.ret (.told wd [1,0] (.ife (Oo .eq (Oo .ix vA0 (Ci 0)) (Cs "add")) (.mth [("Desk",ad)] "add" vA1 [(Oo .ix vA0 (Ci 1))]) (.mth [("Desk",lo)] "lose" vA1 [(Oo .ix vA0 (Ci 1))])))]⟩
theorem qs6{d:Dsk}{wd:List (Str×Str)}{hg ad lo:Nat}{D:qa3}(K:Dks F hg ad lo)(h:DS U x p c d)(hs:qdo (d.log,d.asks))(hp:d.past.length<=900)(hd:D.ok)(w1:wd.lookup ("TooLate" :Str)=some "too late")(w2:wd.lookup ("Full" :Str)=some "full")(w3:wd.lookup ("NoName" :Str)=some "no name"):
  ∃μ',(qtB wd hg ad lo).run F [.obj x,D.T] U= .ok (qcu (D.go (d.log,d.asks))) μ'/\DS μ' x p c (D.on d)/\On U μ' x p c:=by
 cases D with
 |hang n t=>
  obtain⟨μ',e,a,b⟩:=K.hang h hs hp hd.1 hd.2;refine⟨μ',qa0 rfl (qbN rfl ?_) b.len,a,b⟩;have eh:qac F (.mth [("Desk",hg)] "hang" vA1 [(Oo .ix vA0 (Ci 1)),(Oo .ix vA0 (Ci 2))]) [some (qa3.hang n t).T,some (.obj x)] U= .ok (.bl (qbI d.asks n).isSome) μ':=by rw[qa1 (k:=x) (i:=hg) rfl h.ins rfl rfl];exact e
  rw[qag,qa4,told_ok eh];rfl
 |add r=>
  have em:qac F (.ife (Oo .eq (Oo .ix vA0 (Ci 0)) (Cs "add")) (.mth [("Desk",ad)] "add" vA1 [(Oo .ix vA0 (Ci 1))]) (.mth [("Desk",lo)] "lose" vA1 [(Oo .ix vA0 (Ci 1))])) [some (qa3.add r).T,some (.obj x)] U=F ad [.obj x,qaW r] U:=by rw[qcj,show qac F (Oo .eq (Oo .ix vA0 (Ci 0)) (Cs "add")) [some (qa3.add r).T,some (.obj x)] U= .ok (.bl true) U from rfl,qaa,qbp,qaa,if_pos rfl,qa1 (k:=x) (i:=ad) rfl h.ins rfl rfl];rfl
  by_cases z:late d.log r=true
  ·have eg:(qa3.add r).go (d.log,d.asks)= .inl "too late" :=if_pos z;refine⟨U,qa0 rfl (qam rfl (qcs ?_)) rfl,?_,.refl⟩
   ·rw[qcG (em.trans (K.late h hs hd z)) w1,eg];rfl
   ·unfold qa3.on;rw[eg];exact h
  ·have z':late d.log r=false:=by simpa using z
   by_cases l:d.log.length=12
   ·have eg:(qa3.add r).go (d.log,d.asks)= .inl "full" :=(if_neg z).trans (if_pos l);refine⟨U,qa0 rfl (qam rfl (qcs ?_)) rfl,?_,.refl⟩
    ·rw[qcG (em.trans (K.full h hs hd z' l)) w2,eg];rfl
    ·unfold qa3.on;rw[eg];exact h
   ·have eg:(qa3.add r).go (d.log,d.asks)= .inr ((d.log++[r],d.asks),.non):=(if_neg z).trans (if_neg l);obtain⟨μ',e,a,b⟩:=K.add h hs hp hd z' l;refine⟨μ',qa0 rfl (qam rfl (qcs ?_)) b.len,?_,b⟩
    ·rw[told_ok (em.trans e),eg];rfl
    ·unfold qa3.on;rw[eg];exact a
 |lose n=>
  have em:qac F (.ife (Oo .eq (Oo .ix vA0 (Ci 0)) (Cs "add")) (.mth [("Desk",ad)] "add" vA1 [(Oo .ix vA0 (Ci 1))]) (.mth [("Desk",lo)] "lose" vA1 [(Oo .ix vA0 (Ci 1))])) [some (qa3.lose n).T,some (.obj x)] U=F lo [.obj x,.str n] U:=by rw[qcj,show qac F (Oo .eq (Oo .ix vA0 (Ci 0)) (Cs "add")) [some (qa3.lose n).T,some (.obj x)] U= .ok (.bl false) U from rfl,qaa,qbp,qaa,if_neg (by decide),qa1 (k:=x) (i:=lo) rfl h.ins rfl rfl];rfl
  cases q:qbI d.asks n with
  |none=>
   have eg:(qa3.lose n).go (d.log,d.asks)= .inl "no name" :=by show(match qbI d.asks n with|some t=>_|none=>_)=_;rw[q]
   refine⟨U,qa0 rfl (qam rfl (qcs ?_)) rfl,?_,.refl⟩
   ·rw[qcG (em.trans (K.no h hd q)) w3,eg];rfl
   ·unfold qa3.on;rw[eg];exact h
  |some t=>
   have eg:(qa3.lose n).go (d.log,d.asks)= .inr ((d.log,qcc d.asks n),t):=by show(match qbI d.asks n with|some t=>_|none=>_)=_;rw[q]
   obtain⟨μ',e,a,b⟩:=K.lose h hs hp hd q;refine⟨μ',qa0 rfl (qam rfl (qcs ?_)) b.len,?_,b⟩
   ·rw[told_ok (em.trans e),eg];rfl
   ·unfold qa3.on;rw[eg];exact a
end
section
theorem qhQ(ts:List NV.T):(qeG ts).Perm ts:=SR.perm_srt _
theorem qob(nd:(a.map (·.1)).Nodup): ∃b:As,b.Perm a/\qeG (nmT a)=nmT b:=by
 have key: ∀(l:List _)(a:As),l.Perm (nmT a)->∃b:As,b.Perm a/\l=nmT b:=λl=>by
  induction l with
  |nil=>
   intro a h;have:=h.symm.eq_nil;have:=List.map_eq_nil_iff.mp this
   simp_all
  |cons t l ih=>
   intro a h;have ht:=h.mem_iff.mp Vj;obtain⟨q,hq,rfl⟩:=List.mem_map.mp ht;obtain⟨a1,a2,rfl⟩:=List.append_of_mem hq;have h2:l.Perm (nmT (a1++a2)):=by
    have e:nmT (a1++q::a2)=nmT a1++NV.T.str q.1::nmT a2:=by unfold nmT;simp
    rw[e] at h;have:=(List.perm_cons _).mp (h.trans List.perm_middle);unfold nmT at this⊢
    grind
   obtain⟨b,hb,e⟩:=ih _ h2;exact⟨q::b,((List.perm_cons q).mpr hb).trans List.perm_middle.symm,by rw[e];rfl⟩
 exact key _ a (qhQ _)
noncomputable def qkw(rq_ nm ao:Nat):Fcd:=⟨false,1,1,[.ret (.tup [(.bn false .tup [(.mth [("Desk",rq_)] "rows" vA0 [])]),(.bn false .dct [(.comp false false 1 [0] (.n 0) (.gen (.mth [("Desk",nm)] "names" vA0 [])) none (.tup [vA0,(.mth [("Desk",ao)] "ask_of" vA1 [vA0])]))])])]⟩
theorem qtL(hR: ∀ts U,F rq_ ts U=qgn.run F1 ts U)(hN: ∀ts U,F nm ts U=qgt.run F1 ts U)(hO: ∀ts U,F ao ts U=(qdc nn).run F1 ts U)(ik: ∀{n:Str}{U:Mu},n∈nms->F1 nn [.str n] U= .ok (.bl true) U)(h:DS U x p c d)(hs:qdo (d.log,d.asks)):
  ∃b:As,b.Perm d.asks/\(qkw rq_ nm ao).run F [.obj x] U= .ok (qaT (d.log,b)) U:=by
 have l1:=hs.l.n;have l2:=hs.a.len;have l1:d.log.length<=12:=l1;have l2:d.asks.length<=4:=l2;obtain⟨b,hb,eb⟩:=qob (a:=d.asks) hs.a.nd;refine⟨b,hb,qaw rfl (qcs ?_)⟩;have nd:(b.map (·.1)).Nodup:=(hb.map _).nodup_iff.mpr hs.a.nd;have e1:qac F (.bn false .tup [(.mth [("Desk",rq_)] "rows" vA0 [])]) [some (.obj x)] U= .ok (.tup (d.log.map qaW)) U:=by rw[qbc,qae,qa1 (k:=x) (i:=rq_) rfl h.ins rfl rfl,qaM,qaa,hR,qlb h (by omega)];rfl
 have en:qac F (.mth [("Desk",nm)] "names" vA0 []) [some (.obj x)] U= .ok (.lst (b.map λq=>.str q.1)) U:=by rw[qa1 (k:=x) (i:=nm) rfl h.ins rfl rfl,qaM,qaa,hN,qlL h (by omega),eb];rfl
 have cm:=qfu (F:=F) (U:=U) (ρ:=[some (.obj x)]) (x:=false) (fr:=[0]) (ci:=.gen (.mth [("Desk",nm)] "names" vA0 [])) b (λq=>.str q.1) prA (qhe en rfl) λq hq=>by
  have ba:q∈d.asks:=hb.mem_iff.mp hq;have ea:qac F (.mth [("Desk",ao)] "ask_of" vA1 [vA0]) (some (.str q.1)::frO [0] [some (.obj x)]) U= .ok q.2 U:=by rw[qa1 (k:=x) (i:=ao) rfl h.ins rfl rfl];show F ao [.obj x,.str q.1] U=_;rw[hO];exact qnO h (ik (hs.a.nm q ba)) (qhf hs.a.nd ba)
  exact qn0 (a:=.v 0) (x:=.str q.1) rfl ea
 have e2:qac F (.bn false .dct [(.comp false false 1 [0] (.n 0) (.gen (.mth [("Desk",nm)] "names" vA0 [])) none (.tup [vA0,(.mth [("Desk",ao)] "ask_of" vA1 [vA0])]))]) [some (.obj x)] U= .ok (asT b) U:=by rw[qbc,qae,cm];show nvR false (Bn.g .dct U [.lst (b.map prA)]) U=_;rw[qkk (by rw[hb.length_eq];omega),qcD (a:=[]) (b:=b) nd];rfl
 exact qn0 e1 e2
theorem qoT(ha: ∀q∈a,qbz q.2)(hb: ∀q∈b,qbz q.2):okP 3 (qaT (l,a)) (qaT (l',b))=true:=by
 have o1:okP 2 (.tup (l.map qaW)) (.tup (l'.map qaW))=true:=by show((okT 4 _&&okT 4 _)||_)=true;rw[qg5 l,qg5 l'];rfl
 have o2:okP 2 (asT a) (asT b)=true:=by
  show((okT 4 _&&okT 4 _)||((kv a).all _&&(kv b).all _))=true;have z: ∀{a },(∀q∈a,qbz q.2)->((kv a).all λp=>okT 3 p.2)=true:=λ{a} h=>by
   rw[List.all_map,List.all_eq_true]
   exactλq hq=>(h q hq).okT
  rw[z ha,z hb,Bool.and_self,Bool.or_true]
 show((okT 4 _&&okT 4 _)||([0,1].all _))=true
 simp_all
theorem qsQ(hp:a.Perm b)(nd:(b.map (·.1)).Nodup)(hb: ∀q∈b,qbz q.2):eqT (qaT (l,a)) (qaT (l,b))=true:=by
 have e1:=qbG 8 _ (qg5 l);have nd':((kv b).map (·.1)).Nodup:=by rw[List.map_map];have:((λx=>x.1)∘λq:Str×NV.T=>((.inr q.1),q.2))=(λn=>(.inr n:Key))∘λq=>q.1:=rfl;rw[this,<-List.map_map];exact List.pairwise_map.mpr (nd.imp λh z=>h (by injection z))
 have e2:eqTd (kv a) _=true:=qc5 nd' (by rw[List.all_map,List.all_eq_true];exactλq hq=>(hb q hq).okT) λq hq=>by
  grind
 show(eqT _ _&&(((kv a).length==(kv b).length&&eqTd _ _)&&true))=true;rw[e1,e2,List.length_map,List.length_map,hp.length_eq,beq_self_eq_true];rfl
theorem qsb(hp:a.Perm b)(nd:(b.map (·.1)).Nodup)(hb: ∀q∈b,qbz q.2):O2.g .ne U (qaT (l,a)) (qaT (l,b))=some (.v (.bl false)):=by
 have ha:=λq hq=>hb q (hp.mem_iff.mp hq);have o:=qoT (l:=l) (l':=l) ha hb;have e:=qsQ (l:=l) hp nd hb;have n8: ∀a,okT 8 (qaT (l,a))=false:=λa=>by show(okT 7 _&&(false&&true))=false;simp
 have d1: ∀a,dr1 U (qaT _)=qaT (l,a):=λ_=>rfl;have d2: ∀a,dr2 U (qaT (l,a))=qaT _:=λ_=>rfl;show qkX _ U _ _=_;unfold qkX
 simp_all
end
section
noncomputable def qfy(sb:Nat):Fcd:=⟨false,1,1,[.ret (.mth [("Desk",sb)] "step_between" vA0 [(.fld ["Desk"] "past" vA0),(.fld ["Desk"] "coming" vA0)])]⟩
noncomputable def qda(sb:Nat):Fcd:=⟨false,1,1,[.ret (.mth [("Desk",sb)] "step_between" vA0 [(.fld ["Desk"] "coming" vA0),(.fld ["Desk"] "past" vA0)])]⟩
theorem qnM(h:DS U x p c d):qac F (.mth [("Desk",sb)] "step_between" vA0 [(.fld ["Desk"] "past" vA0),(.fld ["Desk"] "coming" vA0)]) [some (.obj x)] U=F sb [.obj x,.obj p,.obj c] U:=by rw[qa1 rfl h.ins rfl rfl,qae,fl h rfl rfl,qaa,qae,fl h rfl rfl];rfl
theorem qjX(h:DS U x p c d):qac F (.mth [("Desk",sb)] "step_between" vA0 [(.fld ["Desk"] "coming" vA0),(.fld ["Desk"] "past" vA0)]) [some (.obj x)] U=F sb [.obj x,.obj c,.obj p] U:=by rw[qa1 rfl h.ins rfl rfl,qae,fl h rfl rfl,qaa,qae,fl h rfl rfl];rfl
theorem qm1(hS: ∀ts U,F sb ts U=qdb.run F1 ts U)(h:DS U x p c d)(hp:d.past=[]):(qfy sb).run F [.obj x] U= .ex "NoBack" U:=by refine run_ex rfl (qeE ?_);have:=h.ps;rw[hp] at this;exact(congrArg (λz=>R.bind z _) ((qnM h).trans ((hS _ _).trans (qnL this)))).trans rfl
theorem qjZ(hS: ∀ts U,F sb ts U=qdb.run F1 ts U)(h:DS U x p c d)(hp:d.coming=[]):(qda sb).run F [.obj x] U= .ex "NoBack" U:=by refine run_ex rfl (qeE ?_);have:=h.cm;rw[hp] at this;exact(congrArg (λz=>R.bind z _) ((qjX h).trans ((hS _ _).trans (qnL this)))).trans rfl
theorem qm0(hS: ∀ts U,F sb ts U=qdb.run F1 ts U)(h:DS U x p c d)(hp:d.past=ss++[s])(hl:d.coming.length<=900): ∃μ',(qfy sb).run F [.obj x] U= .ok (.str s.1) μ'/\DS μ' x p c ⟨s.2.1,s.2.2,ss,d.coming++[(s.1,d.log,d.asks)]⟩/\On U μ' x p c:=by obtain⟨μ',e,a,b⟩:=qqk h hp hl;exact⟨μ',qa0 rfl (qcs ((qnM h).trans ((hS _ _).trans e))) b.len,a,b⟩
theorem qjY(hS: ∀ts U,F sb ts U=qdb.run F1 ts U)(h:DS U x p c d)(hp:d.coming=ss++[s])(hl:d.past.length<=900): ∃μ',(qda sb).run F [.obj x] U= .ok (.str s.1) μ'/\DS μ' x p c ⟨s.2.1,s.2.2,d.past++[(s.1,d.log,d.asks)],ss⟩/\On U μ' x p c:=by obtain⟨μ',e,a,b⟩:=qmc h hp hl;exact⟨μ',qa0 rfl (qcs ((qjX h).trans ((hS _ _).trans e))) b.len,a,b⟩
end
noncomputable def Sof(d:Dsk):List Sta:=d.past.map (·.2)++(d.log,d.asks)::d.coming.reverse.map (·.2)
noncomputable def Wof(d:Dsk):List Str:=d.past.map (·.1)++d.coming.reverse.map (·.1)
theorem qq6(d:Dsk):(Sof d)[d.past.length]? =some (d.log,d.asks):=by unfold Sof;simp
theorem qiw(d:Dsk):(Wof d).length=d.past.length+d.coming.length:=by simp[Wof]
theorem qtG(h:d.past=ss++[s]):Sof ⟨s.2.1,s.2.2,ss,d.coming++[(s.1,d.log,d.asks)]⟩=Sof d/\Wof ⟨s.2.1,s.2.2,ss,d.coming++[(s.1,d.log,d.asks)]⟩=Wof d:=by
 unfold Sof Wof
 simp_all
theorem qpw(h:d.coming=ss++[s]):Sof ⟨s.2.1,s.2.2,d.past++[(s.1,d.log,d.asks)],ss⟩=Sof d/\Wof ⟨s.2.1,s.2.2,d.past++[(s.1,d.log,d.asks)],ss⟩=Wof d:=by
 unfold Sof Wof
 simp_all
theorem qwS{w:Str}:Sof ⟨q.1,q.2,d.past++[(w,d.log,d.asks)],[]⟩=(Sof d).take (d.past.length+1)++[q]/\Wof ⟨q.1,q.2,d.past++[(w,d.log,d.asks)],[]⟩=(Wof d).take d.past.length++[w]:=by
 unfold Sof Wof;constructor
 ·rw[List.take_append,List.take_of_length_le (by simp)];simp
 simp
theorem qmZ(k:qes d)(h:d.past=ss++[s]):qes ⟨s.2.1,s.2.2,ss,d.coming++[(s.1,d.log,d.asks)]⟩:=
 ⟨k.ps s (by rw[h];simp),λy hy=>k.ps y (by rw[h];simp[hy]),λy hy=>by
  rcases List.mem_append.mp hy with z|z
  ·exact k.cm y z
  ·rw[List.mem_singleton.mp z];exact k.st⟩
theorem qjW(k:qes d)(h:d.coming=ss++[s]):qes ⟨s.2.1,s.2.2,d.past++[(s.1,d.log,d.asks)],ss⟩:=
 ⟨k.cm s (by rw[h];simp),λy hy=>by
  rcases List.mem_append.mp hy with z|z
  ·exact k.ps y z
  ·rw[List.mem_singleton.mp z];exact k.st,λy hy=>k.cm y (by rw[h];simp[hy])⟩
theorem qfo(s:Sta)(d:qa3)(hs:qdo s):(∃w,d.go s= .inl w/\w∈[("too late" :Str), "full", "no name"])\/∃p:Sta×NV.T,d.go s= .inr p/\(p.2= .non\/(∃b,p.2= .bl b)\/qbz p.2):=by
 cases d with
 |add r=>
  by_cases z:late s.1 r=true
  ·exact .inl ⟨_,if_pos z,by simp⟩
  ·by_cases l:s.1.length=12
   ·exact .inl ⟨_,(if_neg z).trans (if_pos l),by simp⟩
   ·exact .inr ⟨_,(if_neg z).trans (if_neg l),.inl rfl⟩
 |hang n t=>exact .inr ⟨_,rfl,.inr (.inl ⟨_,rfl⟩)⟩
 |lose n=>
  cases q:qbI s.2 n with
  |none=>exact .inl ⟨"no name",by show(match qbI s.2 n with|some t=>_|none=>_)=_;rw[q],by simp⟩
  |some t=>exact .inr ⟨((s.1,qcc s.2 n),t),by show(match qbI s.2 n with|some t=>_|none=>_)=_;rw[q],.inr (.inr (hs.a.ak _ (qjO q)))⟩
theorem qpG{d:qa3}(hs:qdo s):okT 8 (qcu (d.go s))=true:=by
 rcases qfo s d hs with⟨w,e,_⟩|⟨p,e,h⟩
 ·rw[e];rfl
 ·rw[e];show okT 8 p.2=true
  rcases h with h|⟨b,h⟩|h
  ·rw[h];rfl
  ·rw[h];rfl
  ·exact h.okT
abbrev qtF:NV.T:=.tup [.str "too late",.str "full",.str "no name"]
theorem qoY{w:Str}(h:w∈[("too late" :Str), "full", "no name"]):O2.g .nin U (.str w) qtF=some (.v (.bl false)):=by
 simp only[List.mem_cons,List.not_mem_nil,or_false] at h
 rcases h with rfl|rfl|rfl<;>rfl
theorem qlK(h:t= .non\/(∃b,t= .bl b)\/qbz t):O2.g .nin U t qtF=some (.v (.bl true)):=by
 rcases h with rfl|⟨b,rfl⟩|h
 ·rfl
 ·rfl
 ·have o:=h.okT (n:=5);obtain⟨ps,rfl,_⟩:=h;have e:gIn true U (.tup (ps.map Sp.T)) qtF=some (.v (.bl true)):=by show(if okT 7 _=true/\_ then some (Nv.v (.bl true)) else none)=_;rw[if_pos ⟨o,rfl⟩]
  exact e
end Dk
namespace K87
open PySem NV
noncomputable def top(i:Nat):Stmt:=PySem.Challenge.pw_rowasks_k87_whole_desks_back.main.body.getD i (.Pass ⟨0,0,0,0⟩)
noncomputable def mth(i j:Nat):Stmt:=(qqa (top i)).getD j (.Pass ⟨0,0,0,0⟩)
noncomputable def gx:Gx where
 fs:=[(("_wall" :Str),top 0),(("is_whole" :Str),top 17),(("is_whole_within" :Str),top 18),(("is_word" :Str),top 19),(("is_key" :Str),top 20),(("is_row" :Str),top 21),(("is_log" :Str),top 22),(("refuse_what_is_no_row" :Str),top 23),(("refuse_out_of_order" :Str),top 24),(("refuse_what_is_no_log" :Str),top 25),(("over" :Str),top 29),(("under" :Str),top 30),(("plus" :Str),top 31),(("times" :Str),top 32),(("first" :Str),top 33),(("each" :Str),top 34),(("window" :Str),top 35),(("window_rows" :Str),top 36),(("running" :Str),top 37),(("change" :Str),top 38),(("unlike" :Str),top 39),(("is_step" :Str),top 43),(("is_ask" :Str),top 44),(("refuse_what_is_no_ask" :Str),top 45),(("is_name" :Str),top 50),(("Desk.__init__" :Str),mth 51 0),(("Desk.add" :Str),mth 51 1),(("Desk.hang" :Str),mth 51 2),(("Desk.lose" :Str),mth 51 3),(("Desk.ask_of" :Str),mth 51 4),(("Desk.answer" :Str),mth 51 5),(("Desk.names" :Str),mth 51 6),(("Desk.rows" :Str),mth 51 7),(("Desk.do_step" :Str),mth 51 8),(("Desk.back" :Str),mth 51 9),(("Desk.forth" :Str),mth 51 10),(("Desk.step_between" :Str),mth 51 11),(("Desk.counts" :Str),mth 51 12),(("Desk.twin" :Str),mth 51 13),(("_law_cell" :Str),top 53),(("_law_pick" :Str),top 54),(("_law_key" :Str),top 55),(("_law_number" :Str),top 56),(("_law_step" :Str),top 58),(("_law_ask" :Str),top 59),(("_law_class" :Str),top 60),(("_law_told" :Str),top 61),(("_law_deed" :Str),top 62),(("_law_behind" :Str),top 63),(("_law_did" :Str),top 64),(("_law_all_of" :Str),top 65),(("law" :Str),top 66)]
 cs:=[("GREATEST_MOMENT",.int (99)),("GREATEST_NUMBER",.int (99)),("LONGEST_KEY",.int (2)),("MOST_STEPS",.int (5)),("GREATEST_STEP_NUMBER",.int (20)),("MOST_ROWS",.int (12)),("MOST_NAMES",.int (6)),("LONGEST_NAME",.int (6))]
 ex:=[("AskError",["AskError", "ValueError"]),("NoRow",["NoRow", "AskError", "ValueError"]),("NoAsk",["NoAsk", "AskError", "ValueError"]),("TooLate",["TooLate", "AskError", "ValueError"]),("Ended",["Ended", "AskError", "ValueError"]),("Unlike",["Unlike", "AskError", "ValueError"]),("NoText",["NoText", "AskError", "ValueError"]),("NoNumber",["NoNumber", "AskError", "ValueError"]),("NoName",["NoName", "AskError", "ValueError"]),("Full",["Full", "AskError", "ValueError"]),("NoBack",["NoBack", "AskError", "ValueError"])]
 cl:=[("Desk",["log", "asks", "past", "coming"])]
 ow:=[(78,11),(89,11),(95,11),(102,11),(142,20),(143,22),(159,15),(166,15)]
 fz:=[(161, "asks"),(168, "asks")]
 xc:=[]
 kp:=[]
 lm:=["law", "_law_did"]
 wd:=[("Ended", "ended"),("Full", "full"),("NoAsk", "no ask"),("NoBack", "no back"),("NoName", "no name"),("NoNumber", "no number"),("NoRow", "no row"),("NoText", "no text"),("TooLate", "too late"),("Unlike", "unlike")]
 dt:=[("NUMBER_STEPS",[("over", "over"),("under", "under"),("plus", "plus"),("times", "times")]),("COUNT_STEPS",[("first", "first"),("each", "each"),("window", "window")]),("BARE_STEPS",[("running", "running"),("change", "change"),("unlike", "unlike")])]
open Wk Dk
abbrev xA:CE:=Oo .ix vA1 vA3
abbrev xB:CE:=.tup [(Cs "too late"),(Cs "full"),(Cs "no name")]
abbrev xC:CE:=Oo .add (.sl false vA1 none (some (Oo .add vA3 (Ci 1)))) (.lst false [v7])
abbrev xE:CE:=Oo .add (.sl false vA2 none (some vA3)) (.lst false [(Oo .ix v6 (Ci 0))])
abbrev xG:CE:=Oo .add (Ci 1000) (Oo .mul (Ci 90) vA4)
abbrev xK:CE:=.told gx.wd [9] (.mth [("Desk",34)] "back" vA0 [])
abbrev xL:CE:=.ife (Oo .gt vA3 (Ci 0)) (Oo .ix vA2 (Oo .sub vA3 (Ci 1))) (Cs "no back")
abbrev xF:CE:=.told gx.wd [9] (.mth [("Desk",35)] "forth" vA0 [])
abbrev xI:CE:=.bn false .len [vA2]
abbrev xJ:CE:=.ife (Oo .lt vA3 xI) (Oo .ix vA2 vA3) (Cs "no back")
abbrev xM:CE:=Oo .ne (.call 50 [v9]) xA
abbrev xO:CE:=Oo .ne (.mth [("Desk",37)] "counts" v9 []) (.tup [vA3,(Oo .sub xI vA3)])
noncomputable def B0:CS:=.set 5 (.call 40 [vA0,(Oo .add (Ci 900) vA4),(Ci 7)])
noncomputable def D0:CS:=.set 6 (.call 47 [vA0,xG,xA])
noncomputable def D1:CS:=.asg (.tup [(.n 7),(.n 8)]) (.call 48 [xA,v6])
noncomputable def D2:CS:=.ife (Oo .ne (.call 49 [v9,v6]) v8) [.ret (.c (.bl false))] []
noncomputable def D3:CS:=.ife (Oo .nin v8 xB) [.set 1 xC,.set 2 xE,.set 3 (Oo .add vA3 (Ci 1))] []
noncomputable def K0:CS:=.ife (Oo .ne xK xL) [.ret (.c (.bl false))] []
noncomputable def K1:CS:=.set 3 (.bn false .max [(Ci 0),(Oo .sub vA3 (Ci 1))])
noncomputable def G0:CS:=.ife (Oo .ne xF xJ) [.ret (.c (.bl false))] []
noncomputable def G1:CS:=.set 3 (.bn false .min [xI,(Oo .add vA3 (Ci 1))])
noncomputable def B1:CS:=.ife (Oo .lt v5 (Ci 4)) [D0,D1,D2,D3] [.ife (Oo .lt v5 (Ci 6)) [K0,K1] [G0,G1]]
noncomputable def B2:CS:=.ife (.or xM xO) [.ret (.c (.bl false))] []
noncomputable def S0:CS:=.asg (.tup [(.n 9),(.n 1),(.n 2),(.n 3)]) (.tup [(.make "Desk" 25 []),(.lst false [(.tup [(.tup []),(.dct false)])]),(.lst false []),(Ci 0)])
noncomputable def S1:CS:=.for_ (.n 4) (.by_ .rng1 [(Ci 20)]) [B0,B1,B2]
noncomputable def S2:CS:=.ret (.c (.bl true))
noncomputable def cds:List (Nat×Fcd):=[(1,qks),(2,qen 1),(3,qkr),(4,qgw 3),(5,qgu 2 4),(6,qgv),(7,qgp 5),(8,qgo 6),(9,qgq 7 8),(21,qnI 4 2),(22,qkv 21),(23,qgr 22),(24,qmN 3),(25,qgs),(26,qkx 9 33),(27,qdM 23 24 33),(28,qc9 29 33),(29,qdc 24),(31,qgt),(32,qgn),(33,qqd),(34,qfy 36),(35,qda 36),(36,qdb),(37,qhx),(39,qfx),(40,qkt 39),(41,qku 40),(42,qcE 40),(43,qbi 40 41 42),(44,qnJ 40 43),(47,qhw 40 44),(48,qeo),(49,qtB gx.wd 27 26 28),(50,qkw 32 31 29),(51,⟨false,1,10,[S0,S1,S2]⟩)]
theorem tt{j i:Nat}{c:Fcd}(h:cds[j]? =some (i,c))(k:Nat):TTf gx (k+1) i=c.run (TTf gx k):=qud (show(cds.map _)=cds.map λp=>some p.2 by kernel_rfl) h k
section
variable{ns:List Int}{k:Nat}{U:Mu}
theorem drw(k:Nat):Drw (TTf gx (k+2)) 40 ns:=⟨λh0 hm=>by
 rw[tt (j:=26) rfl];exact qoy (by rw[tt (j:=25) rfl];exact qqc h0) hm⟩
theorem quB(k:Nat){U:Mu}{i:Int}(h:0<=i):TTf gx (k+3) 41 [.scr ns,.int i] U= .ok (.str (qnq ns i)) U:=by rw[tt (j:=27) rfl];exact qsl (drw k) h
theorem quz(k:Nat){U:Mu}{i m:Int}(h:0<=i)(hm:0<=m):TTf gx (k+3) 42 [.scr ns,.int i,.int m] U= .ok (.int (qhZ ns i m)) U:=by rw[tt (j:=28) rfl];exact qr7 (drw k) h hm
theorem qrh(k:Nat){U:Mu}{i:Int}(h:0<=i):TTf gx (k+4) 43 [.scr ns,.int i] U= .ok (qcR ns i).T U:=by rw[tt (j:=29) rfl];exact qlQ (drw _) (λh=>quB k h) (λh hm=>quz k h hm) h
theorem quD(k:Nat){U:Mu}{i:Int}(h:0<=i):TTf gx (k+5) 44 [.scr ns,.int i,.int 3] U= .ok (.tup ((qe6 ns i 3).map Sp.T)) U:=by rw[tt (j:=30) rfl];exact qpa (drw _) (λh=>qrh k h) h ⟨by omega,by omega⟩
theorem qri(k:Nat){U:Mu}{s:Sta}{i:Int}(hs:qdo s)(h:0<=i): ∃d:qa3,d.ok/\TTf gx (k+6) 47 [.scr ns,.int i,qaT s] U= .ok d.T U:=by rw[tt (j:=31) rfl];exact qpR (drw _) (λh=>quD k h) hs h
theorem qlj(k:Nat){U:Mu}{s:Sta}{d:qa3}(hs:qdo s):TTf gx (k+1) 48 [qaT s,d.T] U= .ok (.tup [qaT (qct s (d.go s)),qcu (d.go s)]) U:=by rw[tt (j:=32) rfl];exact qkG hs.l.n hs.a.nd (by have:=hs.a.len;omega)
theorem qrg{k:Nat}{U:Mu}{x:Str}(h:keyOk x):TTf gx (k+1) 3 [.str x,.int 2] U= .ok (.bl true) U:=by rw[tt (j:=2) rfl];exact qnT h
theorem qiT{k:Nat}{U:Mu}{x:Str}(h:keyOk x):TTf gx (k+2) 4 [.str x] U= .ok (.bl true) U:=by rw[tt (j:=3) rfl];exact ql1 (qrg h)
theorem qgT{k:Nat}{U:Mu}(i a b:Int):TTf gx (k+2) 2 [.int i,.int a,.int b] U= .ok (.bl (decide (a<=i)&&decide (i<=b))) U:=by rw[tt (j:=1) rfl];exact qix (by rw[tt (j:=0) rfl];exact qkZ)
theorem qom{k:Nat}{U:Mu}{r:Row}(h:rowOk r):TTf gx (k+3) 5 [qaW r] U= .ok (.bl true) U:=by rw[tt (j:=4) rfl];exact ql0 h (λi a b=>qgT i a b) λx h=>qiT h
theorem qok{k:Nat}{U:Mu}{t:T}{rs:List Row}(ht:itv U t=some (rs.map qaW))(h: ∀x∈rs,rowOk x):TTf gx (k+4) 7 [t] U= .ok .non U:=by rw[tt (j:=6) rfl];exact qlJ ht h λx h=>qom h
theorem qlh{k:Nat}{U:Mu}{p:Wk.Sp}(h:p.fine):TTf gx (k+3) 21 [p.T] U= .ok (.bl true) U:=by rw[tt (j:=9) rfl];exact qn9 h (λi a b=>qgT i a b) λx h=>qiT h
theorem qol{k:Nat}{U:Mu}{t:T}(h:qbz t):TTf gx (k+5) 23 [t] U= .ok .non U:=by obtain⟨ps,rfl,hl,hf⟩:=h;rw[tt (j:=11) rfl];exact qlI (by rw[tt (j:=10) rfl];exact qtK (by omega) λp hp=>qlh (hf p hp))
theorem qiS{k:Nat}{U:Mu}{n:Str}(h:n∈nms):TTf gx (k+2) 24 [.str n] U= .ok (.bl true) U:=by
 rw[tt (j:=12) rfl];have e:TTf gx (k+1) 3 [.str n,.int 6] U= .ok (.bl true) U:=by
  rw[tt (j:=2) rfl];simp only[nms,List.mem_cons,List.not_mem_nil,or_false] at h
  rcases h with rfl|rfl|rfl|rfl<;>exact qaw rfl rfl
 exact qaw rfl (qcs (show TTf gx (k+1) 3 [.str n,.int 6] U=_ from e))
theorem quA{k:Nat}{U:Mu}{l:List Row}{r:Row}(h:qqK l)(hr:rowOk r):TTf gx (k+5) 9 [qbe (l++[r])] U=if late l r=true then .ex "TooLate" U else .ok .non U:=by
 have h1:TTf gx (k+4) 7 [qbe (l++[r])] U= .ok .non U:=qok (rs:=l++[r]) rfl λx hx=>by
  rcases List.mem_append.mp hx with z|z
  ·exact h.r x z
  ·rw[List.mem_singleton.mp z];exact hr
 have h2:TTf gx (k+3) 6 [qbe (l++[r])] U= .ok (.bl (qf5 (l++[r]))) U:=by rw[tt (j:=5) rfl];exact qlY (by have:=h.n;simp;omega)
 rw[tt (j:=8) rfl];by_cases z:late l r=true
 ·rw[if_pos z];rw[qha z] at h2;have h3:TTf gx (k+4) 8 [qbe (l++[r])] U= .ex "TooLate" U:=by
   rw[tt (j:=7) rfl];refine Dk.run_ex rfl (qeE ?_);rw[qbl]
   ·rfl
   ·have e:qac (TTf gx (k+3)) (.call 6 [vA0]) [some (qbe (l++[r]))] U= .ok (.bl false) U:=h2;rw[qlk];exact(congrArg (λz=>R.bind z _) e).trans rfl
  refine Dk.run_ex rfl (qas (ρ':=[some (qbe (l++[r]))]) (μ':=U) ?_ (qeE ?_))
  ·show R.bind (TTf gx (k+4) 7 [qbe (l++[r])] U) _=_;rw[h1];rfl
  ·show R.bind (TTf gx (k+4) 8 [qbe (l++[r])] U) _=_;rw[h3];rfl
 ·rw[if_neg z];rw[qfc (qiP h.s (by simpa using z))] at h2;exact qlH h1 (by rw[tt (j:=7) rfl];exact qlC h2)
theorem dks(k:Nat):Dks (TTf gx (k+6)) 27 26 28:=
 qs5 (nl:=9)
  (λts U=>by rw[tt (j:=15) rfl]) (λts U=>by rw[tt (j:=14) rfl]) (λts U=>by rw[tt (j:=16) rfl]) (λts U=>rfl) (λts U=>by rw[tt (j:=17) rfl])
  (λh=>qol h) (λh=>qiS h) (λh=>qiS h) (λh hr=>quA h hr)
variable{x p c:Nat}{d:Dsk}
theorem quC(k:Nat){D:qa3}(h:DS U x p c d)(hs:qdo (d.log,d.asks))(hp:d.past.length<=900)(hd:D.ok): ∃μ',TTf gx (k+7) 49 [.obj x,D.T] U= .ok (qcu (D.go (d.log,d.asks))) μ'/\DS μ' x p c (D.on d)/\On U μ' x p c:=by rw[tt (j:=33) rfl];exact qs6 (dks k) h hs hp hd rfl rfl rfl
theorem quE(k:Nat)(h:DS U x p c d)(hs:qdo (d.log,d.asks)): ∃b:As,b.Perm d.asks/\TTf gx (k+5) 50 [.obj x] U= .ok (qaT (d.log,b)) U:=by rw[tt (j:=34) rfl];exact qtL (λts U=>by rw[tt (j:=19) rfl]) (λts U=>by rw[tt (j:=18) rfl]) (λts U=>by rw[tt (j:=17) rfl]) (λh=>qiS h) h hs
theorem qli(k:Nat)(h:DS U x p c d):TTf gx (k+1) 37 [.obj x] U= .ok (.tup [.int d.past.length,.int d.coming.length]) U:=by rw[tt (j:=24) rfl];exact qko h
theorem qsO(k:Nat): ∀ts U,TTf gx (k+1) 34 ts U=(qfy 36).run (TTf gx k) ts U:=λts U=>by rw[tt (j:=21) rfl]
theorem qpB(k:Nat): ∀ts U,TTf gx (k+1) 35 ts U=(qda 36).run (TTf gx k) ts U:=λts U=>by rw[tt (j:=22) rfl]
theorem qmf(k:Nat): ∀ts U,TTf gx (k+1) 36 ts U=qdb.run (TTf gx k) ts U:=λts U=>by rw[tt (j:=23) rfl]
theorem qvO(k:Nat): ∀ts U,TTf gx (k+1) 25 ts U=qgs.run (TTf gx k) ts U:=λts U=>rfl
end
abbrev F7:Fs:=TTf gx 7
section
abbrev ro(ns:List Int)(d:Dsk)(s4 s5 s6 s7 s8:Option T)(x:Nat):Ro:=[some (.scr ns),some (.lst ((Sof d).map qaT)),some (.lst ((Wof d).map T.str)),some (.int d.past.length),s4,s5,s6,s7,s8,some (.obj x)]
abbrev rq_(ns:List Int)(d:Dsk)(k:Int)(s5:Option T)(D:qa3)(nw:Sta)(du:T)(x:Nat):Ro:=ro ns d (some (.int k)) s5 (some D.T) (some (qaT nw)) (some du) x
theorem qpE:qac F7 xA (ro ns d s4 s5 s6 s7 s8 x) U= .ok (qaT (d.log,d.asks)) U:=by have e1:qac F7 vA1 (ro ns d s4 s5 s6 s7 s8 x) U= .ok _ U:=rfl;have e3:qac F7 vA3 (ro ns d s4 s5 s6 s7 s8 x) U= .ok _ U:=rfl;rw[qan,e1,qaa,e3,qaa,qjP,qec,List.getElem?_map,qq6];rfl
theorem qpS(h:DS U x p c d)(hk:qes d)(hl:d.past.length<=100)(h0:0<=k): ∃d' bH bG bF μ',runSs F7 [D0,D1,D2,D3] (ro ns d (some (.int k)) s5 s6 s7 s8 x) U= .ok (.nx (ro ns d' (some (.int k)) s5 bH bG bF x)) μ'/\DS μ' x p c d'/\qes d'/\d'.past.length+d'.coming.length<=d.past.length+d.coming.length+1:=by
 obtain⟨D,hd,eD⟩:=qri 1 (ns:=ns) (U:=U) (s:=(d.log,d.asks)) (i:=1000+90*k) hk.st (by omega);obtain⟨μ',eE,h',o⟩:=quC 0 (D:=D) h hk.st (by omega) hd;have gd:=qsy hk.st hd;have i0:qaG F7 D0 (ro ns d (some (.int k)) s5 s6 s7 s8 x) U= .ok (.nx (ro ns d (some (.int k)) s5 (some D.T) s7 s8 x)) U:=by
  have ek:qac F7 xG (ro ns d (some (.int k)) s5 s6 s7 s8 x) U= .ok (.int (1000+90*k)) U:=by have e4:qac F7 vA4 (ro ns d (some (.int k)) s5 s6 s7 s8 x) U= .ok (.int k) U:=rfl;rw[qan,qet,qaa,qan,qet,qaa,e4,qaa,qvv,if_pos (.inl ⟨by omega,by omega⟩)];rfl
  have ea:runA F7 [vA0,xG,xA] (ro ns d (some (.int k)) s5 s6 s7 s8 x) U= .ok [.scr ns,.int (1000+90*k),qaT (d.log,d.asks)] U:=by have e0:qac F7 vA0 (ro ns d (some (.int k)) s5 s6 s7 s8 x) U= .ok (.scr ns) U:=rfl;rw[qae,e0,qaa,qae,ek,qaa,qae,qpE];rfl
  unfold D0;rw[qaJ,qbt,ea,qaa,show F7 47 _ U=_ from eD];rfl
 have i1:qaG F7 D1 (ro ns d (some (.int k)) s5 (some D.T) s7 s8 x) U= .ok (.nx (ro ns d (some (.int k)) s5 (some D.T) (some (qaT (qct (d.log,d.asks) (D.go (d.log,d.asks))))) (some (qcu (D.go (d.log,d.asks)))) x)) U:=by
  have ea:runA F7 [xA,v6] (ro ns d (some (.int k)) s5 (some D.T) s7 s8 x) U= .ok [qaT (d.log,d.asks),D.T] U:=by rw[qae,qpE];rfl
  unfold D1;rw[qnb,qbt,ea,qaa,show F7 48 [qaT (d.log,d.asks),D.T] U=_ from qlj 6 hk.st];rfl
 have i7:=qpG (d:=D) hk.st;generalize hn:qct (d.log,d.asks) (D.go (d.log,d.asks))=nw at*;generalize hu:qcu (D.go (d.log,d.asks))=du at*;have i2:qaG F7 D2 (rq_ ns d k s5 D nw du x) U= .ok (.nx (rq_ ns d k s5 D nw du x)) μ':=by
  unfold D2;have ec:qac F7 (.call 49 [v9,v6]) (rq_ ns d k s5 D nw du x) U= .ok du μ':=eE;have e8:qac F7 v8 (rq_ ns d k s5 D nw du x) μ'= .ok du μ':=rfl;have dr:dr1 μ' du=du:=by cases du<;>first|rfl|(cases i7;done)
  rw[qbX,qan,ec,qaa,e8,qaa,qsA i7 dr dr];rfl
 rcases qfo (d.log,d.asks) D hk.st with⟨w,eg,hw⟩|⟨q,eg,hq⟩
 ·have e1:nw=(d.log,d.asks):=by rw[<-hn,eg];rfl
  have e2:du= .str w:=by rw[<-hu,eg];rfl
  have e3:D.on d=d:=by unfold qa3.on;rw[eg]
  rw[e3] at h';refine⟨d,some D.T,some (qaT nw),some du,μ',?_,h',hk,by omega⟩;have i3:qaG F7 D3 (rq_ ns d k s5 D nw du x) μ'= .ok (.nx (rq_ ns d k s5 D nw du x)) μ':=by
   unfold D3;have e8:qac F7 v8 (rq_ ns d k s5 D nw du x) μ'= .ok (.str w) μ':=by rw[e2];rfl
   have eb:qac F7 xB (rq_ ns d k s5 D nw du x) μ'= .ok qtF μ':=rfl;rw[qbX,qan,e8,qaa,eb,qaa,qoY hw];rfl
  rw[qag,i0,qaa,qaq,qag,i1,qaa,qaq,qag,i2,qaa,qaq,qag,i3];rfl
 ·have e1:nw=q.1:=by rw[<-hn,eg];rfl
  have e2:du=q.2:=by rw[<-hu,eg];rfl
  have e3:D.on d=⟨q.1.1,q.1.2,d.past++[(D.w,d.log,d.asks)],[]⟩:=by unfold qa3.on;rw[eg]
  have fP:=qu8 hk hd;have hS:Sof (D.on d)=(Sof d).take (d.past.length+1)++[nw]:=by rw[e3,e1];exact qwS.1
  have hW:Wof (D.on d)=(Wof d).take d.past.length++[D.w]:=by rw[e3];exact qwS.2
  have hP:(D.on d).past.length=d.past.length+1:=by rw[e3];simp
  have hC:(D.on d).coming.length=0:=by rw[e3];rfl
  refine⟨D.on d,some D.T,some (qaT nw),some du,μ',?_,h',fP,by omega⟩;have i3:qaG F7 D3 (rq_ ns d k s5 D nw du x) μ'= .ok (.nx (ro ns (D.on d) (some (.int k)) s5 (some D.T) (some (qaT nw)) (some du) x)) μ':=by
   unfold D3;have e8:qac F7 v8 (rq_ ns d k s5 D nw du x) μ'= .ok du μ':=rfl;have eb:qac F7 xB (rq_ ns d k s5 D nw du x) μ'= .ok qtF μ':=rfl;have t1:qac F7 (Oo .nin v8 xB) (rq_ ns d k s5 D nw du x) μ'= .ok (.bl true) μ':=by rw[qan,e8,qaa,eb,qaa,qlK (by rw[e2];exact hq)];rfl
   have a1:qac F7 xC (rq_ ns d k s5 D nw du x) μ'= .ok (.lst ((Sof (D.on d)).map qaT)) μ':=by have f1:qac F7 vA1 (rq_ ns d k s5 D nw du x) μ'= .ok (.lst ((Sof d).map qaT)) μ':=rfl;have f2:runO F7 (some (Oo .add vA3 (Ci 1))) (rq_ ns d k s5 D nw du x) μ'= .ok (some ((d.past.length:Int)+1)) μ':=rfl;have f3:qac F7 (.lst false [v7]) (rq_ ns d k s5 D nw du x) μ'= .ok (.lst [qaT nw]) μ':=rfl;rw[qan,qrl,f1,qaa,qiV,qaa,f2,qaa,qq8 (ts:=(Sof d).map qaT) rfl (by omega),qlF,qaa,f3,qaa,qhh (xs:=((Sof d).map qaT).take ((d.past.length:Int)+1).toNat) (ys:=[qaT nw]) rfl rfl (by rw[List.length_take];show _+1<=1000;omega),qlF,hS,List.map_append,List.map_take];rfl
   have a2: ∀{s1:Option T},qac F7 xE [some (.scr ns),s1,some (.lst ((Wof d).map T.str)),some (.int d.past.length),some (.int k),s5,some D.T,some (qaT nw),some du,some (.obj x)] μ'= .ok (.lst ((Wof (D.on d)).map T.str)) μ':=λ{s1}=>by
    have f1:qac F7 vA2 [some (.scr ns),s1,some (.lst ((Wof d).map T.str)),some (.int d.past.length),some (.int k),s5,some D.T,some (qaT nw),some du,some (.obj x)] μ'= .ok (.lst ((Wof d).map T.str)) μ':=rfl;have f2:runO F7 (some vA3) [some (.scr ns),s1,some (.lst ((Wof d).map T.str)),some (.int d.past.length),some (.int k),s5,some D.T,some (qaT nw),some du,some (.obj x)] μ'= .ok (some (d.past.length:Int)) μ':=rfl;have f3:qac F7 (.lst false [(Oo .ix v6 (Ci 0))]) [some (.scr ns),s1,some (.lst ((Wof d).map T.str)),some (.int d.past.length),some (.int k),s5,some D.T,some (qaT nw),some du,some (.obj x)] μ'= .ok (.lst [.str D.w]) μ':=by cases D<;>rfl
    rw[qan,qrl,f1,qaa,qiV,qaa,f2,qaa,qq8 (ts:=(Wof d).map T.str) rfl (by omega),qlF,qaa,f3,qaa,qhh (xs:=((Wof d).map T.str).take ((d.past.length:Int)).toNat) (ys:=[.str D.w]) rfl rfl (by rw[List.length_take];show _+1<=1000;omega),qlF,hW,List.map_append,List.map_take];rfl
   rw[qbl t1,qag,qaJ,a1,qaa,qaa,qaq,qag,qaJ];show R.bind (R.bind (qac F7 _ [some (.scr ns),some (.lst ((Sof (D.on d)).map qaT)),some (.lst ((Wof d).map T.str)),some (.int d.past.length),some (.int k),s5,some D.T,some (qaT nw),some du,some (.obj x)] μ') _) _=_;rw[a2,qaa,qaa,qaq];show R.ok (Out.nx [some (.scr ns),some (.lst ((Sof (D.on d)).map qaT)),some (.lst ((Wof (D.on d)).map T.str)),some (.int ((d.past.length:Int)+1)),some (.int k),s5,some D.T,some (qaT nw),some du,some (.obj x)]) μ'=_;unfold ro;rw[hP];rfl
  rw[qag,i0,qaa,qaq,qag,i1,qaa,qaq,qag,i2,qaa,qaq,qag,i3];rfl
theorem qql(h:DS U x p c d)(hk:qes d)(hl:d.coming.length<=100): ∃d' μ',runSs F7 [K0,K1] (ro ns d s4 s5 s6 s7 s8 x) U= .ok (.nx (ro ns d' s4 s5 s6 s7 s8 x)) μ'/\DS μ' x p c d'/\qes d'/\d'.past.length+d'.coming.length<=d.past.length+d.coming.length+1:=by
 have e3:qac F7 vA3 (ro ns d s4 s5 s6 s7 s8 x) U= .ok (.int d.past.length) U:=rfl;have em:qac F7 (.mth [("Desk",34)] "back" vA0 []) (qaQ 0 [9] (ro ns d s4 s5 s6 s7 s8 x)) U=(qfy 36).run (TTf gx 6) [.obj x] U:=by rw[qa1 (k:=x) (i:=34) rfl h.ins rfl rfl];exact qsO 6 _ _
 cases hp:d.past.reverse with
 |nil=>
  have hp:d.past=[]:=List.reverse_eq_nil_iff.mp hp;refine⟨d,U,?_,h,hk,by omega⟩;have t1:qac F7 xK (ro ns d s4 s5 s6 s7 s8 x) U= .ok (.str "no back") U:=qcG (em.trans (qm1 (qmf 5) h hp)) rfl;have t2:qac F7 xL (ro ns d s4 s5 s6 s7 s8 x) U= .ok (.str "no back") U:=by rw[qcj,qan,e3,qaa,qet,qaa,hp];rfl
  have i0:qaG F7 K0 (ro ns d s4 s5 s6 s7 s8 x) U= .ok (.nx (ro ns d s4 s5 s6 s7 s8 x)) U:=by unfold K0;rw[qbX,qan,t1,qaa,t2,qaa];rfl
  rw[qag,i0,qaa,qaq,qag];unfold K1;rw[qaJ,qbc,qae,qet,qaa,qae,qan,e3];unfold ro;rw[hp];rfl
 |cons s r=>
  have hp:d.past=r.reverse++[s]:=by rw[<-List.reverse_reverse d.past,hp,List.reverse_cons]
  generalize r.reverse=ss at hp;have hn:d.past.length=ss.length+1:=by rw[hp];simp
  obtain⟨μ',e,a,b⟩:=qm0 (qmf 5) h hp (by omega);obtain⟨eS,eW⟩:=qtG hp;refine⟨⟨s.2.1,s.2.2,ss,d.coming++[(s.1,d.log,d.asks)]⟩,μ',?_,a,qmZ hk hp,by show ss.length+(d.coming++[_]).length<=_;rw[List.length_append];show _+(_+1)<=_;omega⟩;have t1:qac F7 xK (ro ns d s4 s5 s6 s7 s8 x) U= .ok (.str s.1) μ':=told_ok (em.trans e);have t2:qac F7 xL (ro ns d s4 s5 s6 s7 s8 x) μ'= .ok (.str s.1) μ':=by
   have e3:qac F7 vA3 (ro ns d s4 s5 s6 s7 s8 x) μ'= .ok (.int d.past.length) μ':=rfl;have e2:qac F7 vA2 (ro ns d s4 s5 s6 s7 s8 x) μ'= .ok (.lst ((Wof d).map T.str)) μ':=rfl;have hw:(Wof d)[ss.length]? =some s.1:=by unfold Wof;rw[hp];simp
   rw[qcj,qan,e3,qaa,qet,qaa,qxV,qd4,qaa,qbp,qaa,if_pos (decide_eq_true (by omega)),qan,e2,qaa,qan,e3,qaa,qet,qaa,ql8,qd4,qaa,show(d.past.length:Int) - 1=(ss.length:Int) by omega,qjP,qec,List.getElem?_map,hw];rfl
  have i0:qaG F7 K0 (ro ns d s4 s5 s6 s7 s8 x) U= .ok (.nx (ro ns d s4 s5 s6 s7 s8 x)) μ':=by unfold K0;rw[qbX,qan,t1,qaa,t2,qaa,qpm,decide_eq_true rfl];rfl
  rw[qag,i0,qaa,qaq,qag];unfold K1;have e3:qac F7 vA3 (ro ns d s4 s5 s6 s7 s8 x) μ'= .ok (.int d.past.length) μ':=rfl;rw[qaJ,qbc,qae,qet,qaa,qae,qan,e3,qaa,qet,qaa,ql8,qd4,qaa,qaM,qaa,qaa,qaa,qtH,qd4,qaa,show max 0 ((d.past.length:Int) - 1)=(ss.length:Int) by omega];unfold ro;rw[eS,eW];rfl
theorem qmd(h:DS U x p c d)(hk:qes d)(hl:d.past.length<=100): ∃d' μ',runSs F7 [G0,G1] (ro ns d s4 s5 s6 s7 s8 x) U= .ok (.nx (ro ns d' s4 s5 s6 s7 s8 x)) μ'/\DS μ' x p c d'/\qes d'/\d'.past.length+d'.coming.length<=d.past.length+d.coming.length+1:=by
 have e3: ∀U,qac F7 vA3 (ro ns d s4 s5 s6 s7 s8 x) U= .ok (.int d.past.length) U:=λ_=>rfl;have e2: ∀U,qac F7 vA2 (ro ns d s4 s5 s6 s7 s8 x) U= .ok (.lst ((Wof d).map T.str)) U:=λ_=>rfl;have el: ∀U,qac F7 xI (ro ns d s4 s5 s6 s7 s8 x) U= .ok (.int ((d.past.length+d.coming.length:Nat):Int)) U:=λU=>by have g:Bn.g .len U [.lst ((Wof d).map T.str)]=some (.v (.int ((Wof d).map T.str).length)):=rfl;rw[qbc,qae,e2,qaa,qaM,qaa,qaa,g,List.length_map,qiw];rfl
 have em:qac F7 (.mth [("Desk",35)] "forth" vA0 []) (qaQ 0 [9] (ro ns d s4 s5 s6 s7 s8 x)) U=(qda 36).run (TTf gx 6) [.obj x] U:=by rw[qa1 (k:=x) (i:=35) rfl h.ins rfl rfl];exact qpB 6 _ _
 cases hp:d.coming.reverse with
 |nil=>
  have hp:d.coming=[]:=List.reverse_eq_nil_iff.mp hp;have hc:d.coming.length=0:=by rw[hp];rfl
  refine⟨d,U,?_,h,hk,by omega⟩;have t1:qac F7 xF (ro ns d s4 s5 s6 s7 s8 x) U= .ok (.str "no back") U:=qcG (em.trans (qjZ (qmf 5) h hp)) rfl;have t2:qac F7 xJ (ro ns d s4 s5 s6 s7 s8 x) U= .ok (.str "no back") U:=by rw[qcj,qan,e3,qaa,el,qaa,qwO,qd4,qaa,qbp,qaa,if_neg (by rw[decide_eq_false (by omega)];decide)];rfl
  have i0:qaG F7 G0 (ro ns d s4 s5 s6 s7 s8 x) U= .ok (.nx (ro ns d s4 s5 s6 s7 s8 x)) U:=by unfold G0;rw[qbX,qan,t1,qaa,t2,qaa];rfl
  rw[qag,i0,qaa,qaq,qag];unfold G1;rw[qaJ,qbc,qae,el,qaa,qae,qan,e3,qaa,qet,qaa,qpo,qd4,qaa,qaM,qaa,qaa,qaa,qnN,qd4,qaa,show min ((d.past.length+d.coming.length:Nat):Int) ((d.past.length:Int)+1)=(d.past.length:Int) by omega];rfl
 |cons s r=>
  have hp:d.coming=r.reverse++[s]:=by rw[<-List.reverse_reverse d.coming,hp,List.reverse_cons]
  generalize r.reverse=ss at hp;have hn:d.coming.length=ss.length+1:=by rw[hp];simp
  obtain⟨μ',e,a,b⟩:=qjY (qmf 5) h hp (by omega);obtain⟨eS,eW⟩:=qpw hp;refine⟨⟨s.2.1,s.2.2,d.past++[(s.1,d.log,d.asks)],ss⟩,μ',?_,a,qjW hk hp,by show(d.past++[_]).length+ss.length<=_;rw[List.length_append];show _+1+_<=_;omega⟩;have t1:qac F7 xF (ro ns d s4 s5 s6 s7 s8 x) U= .ok (.str s.1) μ':=told_ok (em.trans e);have t2:qac F7 xJ (ro ns d s4 s5 s6 s7 s8 x) μ'= .ok (.str s.1) μ':=by
   have hw:(Wof d)[d.past.length]? =some s.1:=by unfold Wof;rw[hp];simp
   rw[qcj,qan,e3,qaa,el,qaa,qwO,qd4,qaa,qbp,qaa,if_pos (decide_eq_true (by omega)),qan,e2,qaa,e3,qaa,qjP,qec,List.getElem?_map,hw];rfl
  have i0:qaG F7 G0 (ro ns d s4 s5 s6 s7 s8 x) U= .ok (.nx (ro ns d s4 s5 s6 s7 s8 x)) μ':=by unfold G0;rw[qbX,qan,t1,qaa,t2,qaa,qpm,decide_eq_true rfl];rfl
  rw[qag,i0,qaa,qaq,qag];unfold G1;rw[qaJ,qbc,qae,el,qaa,qae,qan,e3,qaa,qet,qaa,qpo,qd4,qaa,qaM,qaa,qaa,qaa,qnN,qd4,qaa,show min ((d.past.length+d.coming.length:Nat):Int) ((d.past.length:Int)+1)=(d.past.length:Int)+1 by omega];unfold ro;rw[eS,eW,show(d.past++[(s.1,d.log,d.asks)]).length=d.past.length+1 by simp];rfl
theorem look(h:DS U x p c d)(hk:qes d):qaG F7 B2 (ro ns d s4 s5 s6 s7 s8 x) U= .ok (.nx (ro ns d s4 s5 s6 s7 s8 x)) U:=by
 obtain⟨b,hb,eA⟩:=quE 2 h hk.st;have e3:qac F7 vA3 (ro ns d s4 s5 s6 s7 s8 x) U= .ok (.int d.past.length) U:=rfl;have e2:qac F7 vA2 (ro ns d s4 s5 s6 s7 s8 x) U= .ok (.lst ((Wof d).map T.str)) U:=rfl;have t1:qac F7 xM (ro ns d s4 s5 s6 s7 s8 x) U= .ok (.bl false) U:=by have ec:qac F7 (.call 50 [v9]) (ro ns d s4 s5 s6 s7 s8 x) U= .ok (qaT (d.log,b)) U:=eA;rw[qan,ec,qaa,qpE,qaa,qsb hb hk.st.a.nd hk.st.a.ak];rfl
 have t2:qac F7 xO (ro ns d s4 s5 s6 s7 s8 x) U= .ok (.bl false) U:=by
  have ec:qac F7 (.mth [("Desk",37)] "counts" v9 []) (ro ns d s4 s5 s6 s7 s8 x) U= .ok (.tup [.int d.past.length,.int d.coming.length]) U:=by rw[qa1 (k:=x) (i:=37) rfl h.ins rfl rfl];exact qli 6 h
  have el:qac F7 (Oo .sub xI vA3) (ro ns d s4 s5 s6 s7 s8 x) U= .ok (.int d.coming.length) U:=by have g:Bn.g .len U [.lst ((Wof d).map T.str)]=some (.v (.int ((Wof d).map T.str).length)):=rfl;rw[qan,qbc,qae,e2,qaa,qaM,qaa,qaa,g,List.length_map,qiw,qd4,qaa,e3,qaa,ql8,qd4,show((d.past.length+d.coming.length:Nat):Int) - (d.past.length:Int)=(d.coming.length:Int) by omega]
  rw[qan,ec,qaa,qn0 e3 el,qaa,qsA (t:=.tup [.int d.past.length,.int d.coming.length]) rfl rfl rfl];rfl
 unfold B2;rw[qbX,qrm,t1,qaa,qbp,qaa,if_neg (by decide),t2];rfl
theorem body(h:DS U x p c d)(hk:qes d)(hl:d.past.length+d.coming.length<=50): ∃d' cw bH bG bF μ',(runG (.n 4) (.int (j:Nat)) (ro ns d s4 s5 s6 s7 s8 x) U).bind (runSs F7 [B0,B1,B2])= .ok (.nx (ro ns d' (some (.int (j:Nat))) cw bH bG bF x)) μ'/\DS μ' x p c d'/\qes d'/\d'.past.length+d'.coming.length<=d.past.length+d.coming.length+1:=by
 rw[qxx,qaa]
 change ∃d' cw bH bG bF μ',runSs F7 [B0,B1,B2] (ro ns d (some (.int (j:Nat))) s5 s6 s7 s8 x) U=_/\_
 have b0:qaG F7 B0 (ro ns d (some (.int (j:Nat))) s5 s6 s7 s8 x) U= .ok (.nx (ro ns d (some (.int (j:Nat))) (some (.int (qaj ns (900+(j:Nat)) 7))) s6 s7 s8 x)) U:=by unfold B0;rw[qaJ];show R.bind (F7 40 [.scr ns,.int (900+(j:Nat)),.int 7] U) _=_;rw[show F7 40 [.scr ns,.int (900+(j:Nat)),.int 7] U=_ from(drw 5).p (by omega) (by omega)];rfl
 have fin: ∀{d':Dsk}{cw bH bG bF:Option T}{μ':Mu},qaG F7 B1 (ro ns d (some (.int (j:Nat))) (some (.int (qaj ns (900+(j:Nat)) 7))) s6 s7 s8 x) U= .ok (.nx (ro ns d' (some (.int (j:Nat))) cw bH bG bF x)) μ'->DS μ' x p c d'->qes d'->d'.past.length+d'.coming.length<=d.past.length+d.coming.length+1->
   ∃d' cw bH bG bF μ',runSs F7 [B0,B1,B2] (ro ns d (some (.int (j:Nat))) s5 s6 s7 s8 x) U= .ok (.nx (ro ns d' (some (.int (j:Nat))) cw bH bG bF x)) μ'/\DS μ' x p c d'/\qes d'/\d'.past.length+d'.coming.length<=d.past.length+d.coming.length+1:=λ{d' cw bH bG bF μ'} e a b l=>
  ⟨d',cw,bH,bG,bF,μ',by rw[qag,b0,qaa,qaq,qag,e,qaa,qaq,qag,look a b];rfl,a,b,l⟩
 have t4:qac F7 (Oo .lt v5 (Ci 4)) (ro ns d (some (.int (j:Nat))) (some (.int (qaj ns (900+(j:Nat)) 7))) s6 s7 s8 x) U= .ok (.bl (decide (qaj ns (900+(j:Nat)) 7<4))) U:=rfl;have t6:qac F7 (Oo .lt v5 (Ci 6)) (ro ns d (some (.int (j:Nat))) (some (.int (qaj ns (900+(j:Nat)) 7))) s6 s7 s8 x) U= .ok (.bl (decide (qaj ns (900+(j:Nat)) 7<6))) U:=rfl;by_cases w4:qaj ns (900+(j:Nat)) 7<4
 ·obtain⟨d',bH,bG,bF,μ',e,a,b,l⟩:=qpS (ns:=ns) (k:=(j:Nat)) (s5:=some (.int (qaj ns (900+(j:Nat)) 7))) (s6:=s6) (s7:=s7) (s8:=s8) h hk (by omega) (by omega);exact fin (by unfold B1;rw[qbl (t4.trans (by rw[decide_eq_true w4]))];exact e) a b l
 ·by_cases w6:qaj ns (900+(j:Nat)) 7<6
  ·obtain⟨d',μ',e,a,b,l⟩:=qql (ns:=ns) (s4:=some (.int (j:Nat))) (s5:=some (.int (qaj ns (900+(j:Nat)) 7))) (s6:=s6) (s7:=s7) (s8:=s8) h hk (by omega);exact fin (by unfold B1;rw[qdr (t4.trans (by rw[decide_eq_false w4])),qag,qbl (t6.trans (by rw[decide_eq_true w6])),e];rfl) a b l
  ·obtain⟨d',μ',e,a,b,l⟩:=qmd (ns:=ns) (s4:=some (.int (j:Nat))) (s5:=some (.int (qaj ns (900+(j:Nat)) 7))) (s6:=s6) (s7:=s7) (s8:=s8) h hk (by omega);exact fin (by unfold B1;rw[qdr (t4.trans (by rw[decide_eq_false w4])),qag,qdr (t6.trans (by rw[decide_eq_false w6])),e];rfl) a b l
theorem qjr(m:Mu): ∃m',leave U (.ok (.bl b) m)= .ok (.bl b) m':=by
 unfold leave;simp only[qnv _];split
 ·exact⟨_,rfl⟩
 ·split<;>exact⟨_,rfl⟩
theorem law_true(ns:List Int): ∃m,TTf gx 8 51 [.scr ns] ⟨[],[]⟩= .ok (.bl true) m:=by
 obtain⟨gS,e0,h0,l0, -⟩:=qr9 (F:=F7) (F1:=TTf gx 6) (i:=25) (U:=⟨[],[]⟩) (qvO 6);have k0:qes ⟨[],[],[],[]⟩:=⟨⟨⟨(λ_ h=>nomatch h),List.Pairwise.nil,by decide⟩,⟨(λ_ h=>nomatch h),List.nodup_nil,(λ_ h=>nomatch h)⟩⟩,(λ_ h=>nomatch h),(λ_ h=>nomatch h)⟩
 obtain⟨ρ',μ',e,d,s4,s5,s6,s7,s8,rfl, -⟩:=qsI (F:=F7) (ρ:=ro ns ⟨[],[],[],[]⟩ none none none none none 0) (U:=gS) (g:=.n 4) (ci:=.by_ .rng1 [(Ci 20)]) (b:=[B0,B1,B2]) (ts:=(List.range 20).map λk=>.int (k:Nat)) (List.range 20) (λk=>.int (k:Nat))
  (λdn ρ U=> ∃d s4 s5 s6 s7 s8,ρ=ro ns d s4 s5 s6 s7 s8 0/\DS U 0 1 2 d/\qes d/\d.past.length+d.coming.length<=dn.length) rfl (qpv (n:=20) rfl (by decide)) ⟨_,_,_,_,_,_,rfl,h0,k0,by decide⟩ (by
   rintro dn j r hq ρ U ⟨d,s4,s5,s6,s7,s8,rfl,h,hk,hl⟩;have hn:dn.length<=20:=by have:=congrArg List.length hq;simp at this;omega
   obtain⟨d',cw,bH,bG,bF,μ',e,a,b,l⟩:=body (ns:=ns) (j:=j) (s4:=s4) (s5:=s5) (s6:=s6) (s7:=s7) (s8:=s8) h hk (by omega);exact⟨_,μ',e,d',_,cw,bH,bG,bF,rfl,a,b,by rw[List.length_append];show _<=_+1;omega⟩)
 obtain⟨m',hm⟩:=qjr (U:=⟨[],[]⟩) (b:=true) μ';refine⟨m',?_⟩;have es:qaG F7 S0 [some (.scr ns),none,none,none,none,none,none,none,none,none] ⟨[],[]⟩= .ok (.nx (ro ns ⟨[],[],[],[]⟩ none none none none none 0)) gS:=by have ed:qac F7 (.make "Desk" 25 []) [some (.scr ns),none,none,none,none,none,none,none,none,none] ⟨[],[]⟩= .ok (.obj 0) gS:=e0;unfold S0;rw[qnb,qa9,qae,ed];rfl
 have fin:(runSs F7 [S0,S1,S2] [some (.scr ns),none,none,none,none,none,none,none,none,none] ⟨[],[]⟩).bind outT= .ok (.bl true) μ':=qas es (qas e (qcs rfl));rw[tt (j:=35) rfl];unfold Fcd.run fnR;rw[if_pos (show [T.scr ns].length=1 from rfl)];show lv false _ ((runSs F7 [S0,S1,S2] [some (.scr ns),none,none,none,none,none,none,none,none,none] ⟨[],[]⟩).bind outT)=_;rw[fin];exact hm
end
end K87
namespace NV
open PySem L2
theorem qca{N:List Str}{x:Str}(h:qkV N x=some i):N[i]? =some x:=by
 obtain⟨hi,h1,_⟩:=List.findIdx?_eq_some_iff_getElem.mp h
 simp_all
structure Gf(M:Md)(g:Gx)(F:Fs)(k:Nat)(P:Program)(w:World)(mg:Str->Option Value)(base:Heap):Prop where
 fn: ∀x i,g.fi x=some i->x.cps.contains 46=false->∃f fd ps,mg x=some (.ref f)/\W.keepIn M.K (.ref f)=true/\qaY M.K fd ps []/\qdh P w M.K mg base (CXE P w) (8*k) f fd ps (spF M (F i))
 nb: ∀x,qcF.contains x=true->mg x=none
 cs: ∀x t,g.cs.lookup x=some t->∃v u,mg x=some u/\RelV v u/\∀B,Rep M.K B t v
 ex: ∀c bs,(c,bs)∈g.ex->mg c=some (.ref (clA M.K c))/\∃bm,qdi base (clA M.K c) bm/\∀x∈bs,(g.ex.map (·.1)).contains x=true->(Value.ref (clA M.K c)::bm).contains (.ref (clA M.K x))=true
 mt: ∀m c i,(c,i)∈g.ms m->∃f fd ps,Cls M.K (clA M.K c)/\qtO M.K (clA M.K c) m f/\qdh P w M.K mg base (CXE P w) (8*k) f fd ps (spF M (F i))/\qaY M.K fd ps []
 mkc: ∀c i,(g.cl.map (·.1)).contains c=true->g.fi (qaU c "__init__")=some i->∃f fd ps,mg c=some (.ref (clA M.K c))/\Mk M.K (clA M.K c) f/\qdh P w M.K mg base (CXE P w) (8*k) f fd ps (spF M (F i))/\qaY M.K fd ps []
 fl: ∀f c,(g.fls f).contains c=true->Cls M.K (clA M.K c)/\qbb M.K (clA M.K c) f
 dt: ∀D tbl,g.dt.lookup D=some tbl->PL.TopT M.K mg w D tbl
 td:g.wd.isEmpty=false->∃z st fT fC CA fdT fdC bmA wa,Td z M P w mg base (λc=>g.wd.lookup c) st fT fC CA fdT fdC bmA wa
structure Tp(M:Md)(g:Gx)(X:Cx)(E:XK):Prop where
 st:X.stack=X.env::X.outer
 fr:X.env.frame=some X.env.locals
 ex:X.ex=[]
 xe: ∀a s',wpAny (model X.prog X.w) X.A (leaving X.env (.ref a)) (λ_ s''=>CXE X.prog X.w X.outer X.H₀ X.s₀ E (.ref a) s'') (λ_ _=>False) s'->X.xe (.ref a) s'
 ow:PassesOwn (model X.prog X.w) X.A X.env X.xe
 rs: ∀(x msg:Str)(j:Nat)(np p1 cpos pos:Pos),(g.ex.map (·.1)).contains x=true->Gl X x->(x==("__debug__" :Str))=false->PS X (.Raise (some (.Call (.Name x np) [.Constant (.str msg) j p1] [] cpos)) none pos) (qiH (clA M.K x) E)
structure Cok(M:Md)(g:Gx)(F:Fs)(k:Nat)(C:Cc)(X:Cx)(E:XK):Prop where
 gf:Gf M g F k X.prog X.w X.mg X.base
 K:X.K=M.K
 N:X.N=C.N
 nd:C.N.Nodup
 sc:X.env.scope=C.sc
 fn: ∀x,qqD C x=true->X.fn x=true\/C.sc.names.lookup x=some .local
 un:X.A.units+8<cLine
 cm:C.calm=true->X.calm=true/\qa7 (8*k+1) X.A/\qaH (CXE X.prog X.w) X E
 tp:C.top=true->Tp M g X E
 lm:C.lam=true->qa7 (8*k+4) X.A/\∃c P q,Lm M X c P q
 cf:C.cf=true->∀x,X.fn x=true
section
variable{x:Str}
theorem Cok.gl(c:Cok M g F k C X E)(h:qig C x=true):Gl X x/\(x==("__debug__" :Str))=false:=by unfold qig at h;rw[Bool.and_eq_true] at h;refine⟨?_,by simpa using h.2⟩;show X.env.scope.names.lookup x=_;rw[c.sc];simp_all
theorem Cok.blt(c:Cok M g F k C X E)(h:qcZ C x=true):Gl X x/\X.mg x=none/\(x==("__debug__" :Str))=false:=by unfold qcZ at h;rw[Bool.and_eq_true] at h;exact⟨(c.gl h.1).1,c.gf.nb x h.2,(c.gl h.1).2⟩
theorem qqO(h:qlZ sc x=true):Vis sc x:=by
 unfold qlZ at h;split at h
 ·rename_i e;exact .inl e
 ·rename_i e;exact .inr (.inl e)
 ·rename_i e;exact .inr (.inr e)
 ·cases h
theorem qsf(h:qpj sc x=true):Loc sc x:=by
 unfold qpj at h;split at h
 ·rename_i e;exact .inl e
 ·rename_i e;exact .inr e
 ·cases h
theorem qq3(h:qqD C x=true):Loc C.sc x:=by
 unfold qqD at h;split at h
 ·rename_i e;exact .inl e
 ·rename_i e;exact .inr e
 ·cases h
theorem qoZ(c:Cok M g F k C X E):PE X (.Name x pos) (tE M E (qac F (qqf g C x))):=by
 unfold qqf;split
 ·exact qal
 ·rename_i hd;have h1:(x==("__debug__" :Str))=false/\(x==("__classdict__" :Str))=false:=by simpa using hd
  split
  ·rename_i hv;split
   ·rename_i i hi;exact qtc (qg0 (by rw[c.N];exact qca hi) (by rw[c.sc];exact qqO hv) h1.1 h1.2)
   ·exact qal
  ·split
   ·rename_i hg;split
    ·rename_i t ht;obtain⟨v,u,m,r,rt⟩:=c.gf.cs x t ht;exact qth (qb9 (c.gl hg).1 m r h1.1) rt
    ·exact qal
   ·exact qal
theorem qbj: ∀{es:List Expr},(∀e∈es,PE X e (tE M E (qac F (f e))))->es.all qap=true->PA X es (tA M E (runA F (es.map f)))
 |[],_,_=>qtl
 |e::es,h,hp=>by rw[List.all_cons,Bool.and_eq_true] at hp;exact qp3 (h e Vj) (qbj (λe he=>h e (Vk _ he)) hp.2) (qcr hp.1)
theorem qiG(c:Cok M g F k C X E): ∀(n:Nat)(e:Expr),PG X e (tG M E (runG (cG C n e)))
 |0,e=>qkh
 |n+1,e=>by
  have many: ∀es:List Expr,es.all qap=true->PGs X es (tGs M E (runGs (es.map (cG C n)))):=λes=>by
   induction es with
   |nil=>exactλ_=>qpQ
   |cons e es ih=>intro h;rw[List.all_cons,Bool.and_eq_true] at h;exact qmq (qiG c n e) (ih h.2) (qqp h.1)
  cases e with
  |Name y p=>
   show PG X _ (tG M E (runG (if qqD C y then(match qkV C.N y with|some i=>.n i|none=>.no) else .no)));split
   ·rename_i hl;split
    ·rename_i i hi;exact qvT (qoA (by rw[c.N];exact c.nd) (by rw[c.N];exact qca hi) (by rw[c.sc];exact qq3 hl) (by rw[c.sc];exact c.fn y hl))
    ·exact qkh
   ·exact qkh
  |Tuple ts kk p=>
   show PG X _ (tG M E (runG (if C.calm&&ts.all qap then .tup (ts.map (cG C n)) else .no)));split
   ·rename_i h;rw[Bool.and_eq_true] at h;have q:=qs9 (k:=kk) (pos:=p) (c.cm h.1).1 (many ts h.2) c.K (n:=ts.length) qdN (qfF h.2);have e:(ts.map (cG C n)).length=ts.length:=List.length_map _;show PG X _ (tG M E (gT (ts.map (cG C n)).length _));rw[e];exact q
   ·exact qkh
  |_=>exact qkh
end
theorem qcB:OkO M (rB M g) g:=λU H B x y a b n Q h ra rb e k=>⟨U,B,a,b,n,h,ra,rb,e,k⟩
section
theorem bin_ok(hK:X.K=M.K)(h:qvf op=some o):OpR X (binaryOp op) (rB M o.g):=by
 cases op<;>first|(cases h;done)|skip
 ·cases h;exact OpR.ok qoQ (qr6 hK)
 ·cases h;exact OpR.ok qrO qrY
 ·cases h;exact OpR.ok qoM (qr0 hK)
 ·cases h;exact OpR.ok qrR qr1
 ·cases h;exact OpR.ok qoO qr5
theorem qdH(hu:X.A.units+8<cLine)(hK:X.K=M.K)(op:CmpOp):OpR X (compareOp op) (rB M (qnK op).g):=by
 cases op with
 |Eq=>exact OpR.ok (qrW hu) (qr4 hK)
 |NotEq=>exact OpR.ok (qrP hu) (qr4 hK)
 |Lt=>exact OpR.ok qrS qva
 |LtE=>exact OpR.ok qrT qvb
 |Gt=>exact OpR.ok qu6 qvc
 |GtE=>exact OpR.ok qu7 qvd
 |Is=>exact OpR.ok qoN (qr2)
 |IsNot=>exact OpR.ok qhV (qr2)
 |In=>exact OpR.ok (qrV hu) (qr3 hK)
 |NotIn=>exact OpR.ok (qjc hu) (qr3 hK)
theorem qrZ:OkU M (rU λi=>.int (-i)) qsE:=by
 refine⟨λt U c m e=>(by cases t<;>cases e),λU H B x t u μ' Q h r e k=> ?_⟩;cases t with
 |int i=>cases e;exact⟨i,qah r,k _ H B h .refl qaR⟩
 |_=>cases e
theorem qtf(h:PE X a (tE M E da)):PE X (.UnaryOp .USub a pos) (tE M E (dU qsE da)):=PE.weak (quV qqR h) λZ H Q q=>qnX qrZ q
theorem qdL(cq:Cl Q)(h:tE M E (qnF o p da db dc) Z H Q):qiI (rB M o.g) (rB M p.g) (tE M E da) (tE M E db) (tE M E dc) Z H Q:=by
 obtain⟨ρ,U,B,ev,w⟩:=h;refine tE.of ev ((Wn.bind w).mono λx af w1 v H1 B1 h1 l1 r1=> ?_);refine tE.of (ev.on h1 l1.le) ((Wn.bind w1).lift l1 λy ai w2 u H2 B2 h2 l2 r2=> ?_);have fh:=l1.trans l2;have w2:=Wn.bind w2;obtain⟨z,m,q,w2⟩:=Wn.pl w2 (λc m=>qhY c m);have w2:=Wn.bind w2;obtain⟨kk,m',q',w3⟩:=Wn.pl w2 (λc m e=>by cases z<;>cases e);cases z with
 |bl z=>
  cases q';have kv:KE M H2 B2 (λz H3=> ∃k,z= .bl k/\if k=true then tE M E dc Z H3 λw' H4=>rB M p.g u w' H4 Q else Q _ H3) _ m:=λzv H3 B3 h3 l3 r3=>by
   refine⟨kk,qbJ r3,?_⟩;split at w3
   ·rename_i hk;rw[if_pos hk];have fg:=fh.trans l3;refine tE.of (ev.on h3 fg.le) ((Wn.bind w3).lift fg λw' ck w4 v4 H4 B4 h4 l4 r4=> ?_);obtain⟨c4,m4,q4,w5⟩:=Wn.pl w4 (λc m=>qhY c m);obtain⟨n,e,kv⟩:=qhX cq q4 (KE.le w5 (fg.trans l4));exact⟨ck,B4,y,w',n,h4,(r2.mono l3.le).mono l4.le,r4,e,kv⟩
   ·rename_i hk;rw[if_neg hk];exact w3 _ H3 B3 h3 (fh.trans l3) qa6
  obtain⟨n,e,kv⟩:=qhX qqb q kv;exact⟨ai,B2,x,y,n,h2,r1.mono l2.le,r2,e,kv⟩
 |_=>cases q'
theorem qrt(hc:PT X c tc)(ha:PT X a ta)(hb:PT X b tb):PT X (.IfExp c a b pos) (λZ H Q=>tc Z H λk H1=>if k=true then ta Z H1 Q else tb Z H1 Q):=by
 intro O s Z H Q I h;refine Va (thn (hc _ s Z H _ I h) λk s1 ⟨H1,I1,q⟩=> ?_);cases k with
 |true=>exact ha _ s1 Z H1 Q I1 q
 |false=>exact hb _ s1 Z H1 Q I1 q
theorem qqW:dTB (qmy da)=qwX (dTB da):=by
 funext ρ U
 show R.bind (R.bind (R.bind _ tbO) _) tbO=R.bind (R.bind _ tbO) _;cases da ρ U with
 |no|ex c m=>rfl
 |ok t m=>cases t<;>rfl
theorem qqX:dTB (qmA da db)=qw2 (dTB da) (dTB db):=by
 funext ρ U
 show R.bind (R.bind (R.bind _ tbO) _) tbO=R.bind (R.bind _ tbO) _;cases da ρ U with
 |no|ex c m=>rfl
 |ok t m=>cases t<;>first|rfl|(rename_i z;cases z<;>rfl)
theorem quf:dTB (qt4 da db)=dOr (dTB da) (dTB db):=by
 funext ρ U
 show R.bind (R.bind (R.bind _ tbO) _) tbO=R.bind (R.bind _ tbO) _;cases da ρ U with
 |no|ex c m=>rfl
 |ok t m=>cases t<;>first|rfl|(rename_i z;cases z<;>rfl)
theorem qug:dTB (qim dt da db)=qim dt (dTB da) (dTB db):=by
 funext ρ U
 show R.bind (R.bind _ _) tbO=R.bind _ _;cases dt ρ U with
 |no|ex c m=>rfl
 |ok t m=>cases t<;>rfl
theorem qjo{m:Str}(hb:qck o=true)(hp:es.all qap=true)(hl:es.length<30)(he:(apos.endLine==pos.line)=true):
  eval (.Call (.Attribute o m apos) es [] pos) env=(do
   let ov <-eval o env
   standAt apos.atName
   let (f,fi) <-holding [ov] (getMethod ov m (do return (<-importBound o env).getD true))
   callWith pos f fi (backTo pos (starEach es env)) (backToKw pos (keywordEach [] env))):=by
 have hf:methodCallForm (es.length+([]:List Keyword).length) (backTo pos (starEach es env)) (backToKw pos (keywordEach [] env))=true:=by have:=qny (pos:=pos) (env:=env) hp hl;exact this
 show(attributeBase o m env _>>=λov=>standAt _>>=λ_=>methodCall o m _ pos env ov _ _ _)=_;rw[qdd hb];unfold methodCall calleeOf methodCallPos
 simp_all
end
theorem qoJ:qaH (CXE X.prog X.w) X E0:=λO Z H s e s' I ⟨_,_,_,_,_,_,_,q⟩=>q.elim
structure Eo(M:Md)(g:Gx)(F:Fs)(k n:Nat):Prop where
 e: ∀C X E,Cok M g F k C X E->∀e,PE X e (tE M E (qac F (cE g n C e)))
 t: ∀C X E,Cok M g F k C X E->∀e,PT X e (tT M E (dTB (qac F (cE g n C e))))
 c: ∀C X E,Cok M g F k C X E->C.calm=true->∀f es p pp,es.all qap=true->qig C f=true->PE X (.Call (.Name f pp) es [] p) (tE M E (qac F (cCall g n C f es p)))
 i: ∀C X E,Cok M g F k C X E->∀tg it,PI X tg it (tI M E (runI F (cI g n C tg it)))
section
theorem qmF:(qai C sc).1.N=(sc.names.filter λy=>decide (y.2= .local)&&y.1 != (".0" :Str)).map (·.1)++(qai C sc).2.map (·.1):=rfl
theorem qcp(h:qhs C sc=true):sc.kind= .function/\(∀y∈sc.names,y.2≠.cell)/\(∀y∈sc.names,y.2= .local->sc.names.lookup y.1=some .local)/\
  (∀y∈sc.names,y.2= .free->(C.sc.names.lookup y.1=some .cell\/C.sc.names.lookup y.1=some .free)/\sc.names.lookup y.1=some .free)/\(qai C sc).1.N.Nodup:=by unfold qhs at h;simp only[Bool.and_eq_true,List.all_eq_true,Bool.or_eq_true,decide_eq_true_eq] at h;obtain⟨⟨⟨⟨h1,h2⟩,h3⟩,h4⟩,h5⟩:=h;exact⟨h1,h2,λy hy e=>(h3 y hy).elim (λz=>absurd e z) id,λy hy e=>(h4 y hy).elim (λz=>absurd e z) id,h5⟩
theorem qmG(c:Cok M g F k C X E)(hc:C.calm=true)(h:qhs C sc=true)(hY: ∃fp s3 H3 xe,Y=(qat X sc ((sc.names.filter λy=>decide (y.2= .local)&&y.1 != (".0" :Str)).map (·.1)) (qai C sc).2 fp s3 H3).wish xe)(hp:qaH (CXE X.prog X.w) Y E'):Cok M g F k (qai C sc).1 Y E':=by
 obtain⟨fp,s3,H3,xe,rfl⟩:=hY;obtain⟨h1,h2,h3,h4,h5⟩:=qcp h;refine⟨c.gf,c.K,rfl,h5,?_,λx hx=> ?_,c.un,λ_=>⟨(c.cm hc).1,(c.cm hc).2.1,hp⟩,(λz=>by cases z),λz=> ?_,λz=>by cases z⟩
 ·show relabel sc _=qtT C sc;unfold relabel qtT Env.kindOf;rw[c.sc]
 ·have hx:(match(qtT C sc).names.lookup x with|some .local=>true|some .cell=>false|_=>false)=true:=hx;split at hx
  ·rename_i e;exact .inr e
  ·cases hx
  ·cases hx
 ·obtain⟨r,cc,P,q,l⟩:=c.lm z;exact⟨r,cc,P,q,l.cd,l.hd,l.bm,l.q,l.t,l.t'⟩
theorem qp5(IH:Eo M g F k n)(c:Cok M g F k C X E)(hx:x=false):
  PE X (.ListComp elt [⟨tg,iter,ifs,0⟩] sc p) (tE M E (qac F (cComp g (n+1) C x elt tg iter ifs sc p)))/\
  ∀(i:Nat)(y:Str)(py spos:Pos),x=false->X.N[i]? =some y->C.sc.names.lookup y=some .local->swapsWith (.ListComp elt [⟨tg,iter,ifs,0⟩] sc p) (some (.Name y py)) spos.line X.env=pure true->
   PS X (.Assign [.Name y py] (.ListComp elt [⟨tg,iter,ifs,0⟩] sc p) spos) (tS M E (qmx i (qac F (cComp g (n+1) C x elt tg iter ifs sc p)))):=by
 have no:PE X (.ListComp elt [⟨tg,iter,ifs,0⟩] sc p) (tE M E (qac F .no))/\∀(i:Nat)(y:Str)(py spos:Pos),x=false->X.N[i]? =some y->C.sc.names.lookup y=some .local->swapsWith (.ListComp elt [⟨tg,iter,ifs,0⟩] sc p) (some (.Name y py)) spos.line X.env=pure true->
   PS X (.Assign [.Name y py] (.ListComp elt [⟨tg,iter,ifs,0⟩] sc p) spos) (tS M E (qmx i (qac F .no))):=⟨qal,λ_ _ _ _ _ _ _ _ _ _ _ _ _ _ ⟨_,_,_,_,w⟩=>w.elim⟩
 unfold cComp;split
 case isFalse=>exact no
 rename_i cT;rw[Bool.and_eq_true] at cT;obtain⟨h1,h2,h3,h4,h5⟩:=qcp cT.2;obtain⟨cm,hr,ps⟩:=c.cm cT.1;have aR: ∀q∈(qai C sc).2,X.N[q.2]? =some q.1/\sc.names.lookup q.1=some .free:=λq hq=>by
  obtain⟨y,hy,e⟩:=List.mem_filterMap.mp hq;split at e
  ·rename_i hf;obtain⟨i,hi,rfl⟩:=qaA e;exact⟨by rw[c.N];exact qca hi,(h4 y hy hf).2⟩
  ·cases e
 have ag: ∀y∈sc.names,y.2= .free->X.env.kindOf y.1=some .cell\/X.env.kindOf y.1=some .free:=λy hy e=>by show X.env.scope.names.lookup _=_\/X.env.scope.names.lookup _=_;rw[c.sc];exact(h4 y hy e).1
 have hn:(qai C sc).1.N.length - (qai C sc).2.length=((sc.names.filter λy=>decide (y.2= .local)&&y.1 != (".0" :Str)).map (·.1)).length:=by rw[qmF,List.length_append,List.length_map (f:=λx=>x.1) (as:=(qai C sc).2)];omega
 have go: ∀(tt:Option CE),(∀Y E',Cok M g F k (qai C sc).1 Y E'->qiv Y ifs (tT M E' (runT F tt)))->
   PE X (.ListComp elt [⟨tg,iter,ifs,0⟩] sc p) (tE M E (qac F (.comp (g.own p) x ((qai C sc).1.N.length - (qai C sc).2.length) ((qai C sc).2.map (·.2)) (cG (qai C sc).1 n tg) (cI g n C tg iter) tt (cE g n (qai C sc).1 elt))))/\
   ∀(i:Nat)(y:Str)(py spos:Pos),x=false->X.N[i]? =some y->C.sc.names.lookup y=some .local->swapsWith (.ListComp elt [⟨tg,iter,ifs,0⟩] sc p) (some (.Name y py)) spos.line X.env=pure true->
    PS X (.Assign [.Name y py] (.ListComp elt [⟨tg,iter,ifs,0⟩] sc p) spos) (tS M E (qmx i (qac F (.comp (g.own p) x ((qai C sc).1.N.length - (qai C sc).2.length) ((qai C sc).2.map (·.2)) (cG (qai C sc).1 n tg) (cI g n C tg iter) tt (cE g n (qai C sc).1 elt))))):=λtt ht=>by
  have bL:qbH iter=true\/cI g n C tg iter= .no:=by
   cases n with
   |zero=>exact .inr rfl
   |succ n=>
    cases z:qbH iter with
    |true=>exact .inl rfl
    |false=>exact .inr (by unfold cI;rw[z];exact if_neg (by decide))
  rw[hn]
  rcases bL with bL|bL
  ·have hi:=IH.i C X E c tg iter;have jt: ∀(fp:List Addr)(s3:Shared)(H3:Hp),PG (qat X sc ((sc.names.filter λy=>decide (y.2= .local)&&y.1 != (".0" :Str)).map (·.1)) (qai C sc).2 fp s3 H3) tg (tG M E0 (runG (cG (qai C sc).1 n tg)))/\qiv (qat X sc ((sc.names.filter λy=>decide (y.2= .local)&&y.1 != (".0" :Str)).map (·.1)) (qai C sc).2 fp s3 H3) ifs (tT M E0 (runT F tt))/\PE (qat X sc ((sc.names.filter λy=>decide (y.2= .local)&&y.1 != (".0" :Str)).map (·.1)) (qai C sc).2 fp s3 H3) elt (tE M E0 (qac F (cE g n (qai C sc).1 elt))):=λfp s3 H3=>by have cc:=qmG (E':=E0) (Y:=qat X sc ((sc.names.filter λy=>decide (y.2= .local)&&y.1 != (".0" :Str)).map (·.1)) (qai C sc).2 fp s3 H3) c cT.1 cT.2 ⟨fp,s3,H3,λ_ _=>False,rfl⟩ qoJ;exact⟨qiG cc n tg,ht _ _ cc,IH.e _ _ _ cc elt⟩
   refine⟨?_,λi y py spos hx0 hy hl bK=> ?_⟩
   ·show PE X _ (tE M E (qik (g.own p) _));have dn:PE X (.ListComp elt [⟨tg,iter,ifs,0⟩] sc p) (tN M E (qcw x ((sc.names.filter λy=>decide (y.2= .local)&&y.1 != (".0" :Str)).map (·.1)).length ((qai C sc).2.map (·.2)) (runI F (cI g n C tg iter)) (runG (cG (qai C sc).1 n tg)) (runT F tt) (qac F (cE g n (qai C sc).1 elt)))):=by
     cases x with
     |false=>exact qpO cm hi h1 h2 h3 ag aR jt (qd5 bL)
     |true=>cases hx
    unfold qik;split
    ·exact qpX dn
    ·exact qp1 dn
   ·subst hx0;have:=qij (ow:=g.own p) (py:=py) (spos:=spos) cm hi h1 h2 h3 ag aR jt (by rw[c.N];exact c.nd) hy (by rw[c.sc];exact hl) bK (qd5 bL);exact this
  ·rw[bL];have e: ∀ow,(qik ow (qcw x ((sc.names.filter λy=>decide (y.2= .local)&&y.1 != (".0" :Str)).map (·.1)).length ((qai C sc).2.map (·.2)) dNo (runG (cG (qai C sc).1 n tg)) (runT F tt) (qac F (cE g n (qai C sc).1 elt))))=dNo:=λow=>by
    unfold qik
    split<;>rfl
   show PE X _ (tE M E (qik _ (qcw x _ _ dNo _ _ _)))/\∀(i:Nat)(y:Str)(py spos:Pos),_->_->_->_->PS X _ (tS M E (qmx i (qik _ (qcw x _ _ dNo _ _ _))));rw[e];exact no
 rcases ifs with _|⟨t,_|⟨u,r⟩⟩
 ·exact go none λY E' cc=>qlp
 ·exact go (some (cE g n (qai C sc).1 t)) λY E' cc=>qrB (IH.t _ _ _ cc t)
 ·exact no
end
section
theorem qwa{x:Str}(h:qqI x=some b):x=b.nm:=by
 have:=List.find?_some h
 grind
theorem qmW{x:Str}{ty:String}(h:qqj x ty=some b):x=b.nm:=by
 have:=List.find?_some h
 simp_all
theorem quc{x:Str}{N:String}(h:qwm x=some N):x=Str.ofString N/\N∈["int", "bool", "str", "tuple", "list"]:=⟨(eq_of_beq (List.find?_some (p:=λN=>Str.ofString N==x) h)).symm,List.mem_of_find?_eq_some h⟩
theorem qvj{g:Gx}{m c:Str}{i:Nat}(h:(g.ms m).lookup c=some i):(c,i)∈g.ms m:=by
 generalize g.ms m=l at h⊢
 induction l with
 |nil=>cases h
 |cons q l ih=>
  obtain⟨y,j⟩:=q;rw[List.lookup_cons] at h;cases z:c==y with
  |true|false=>simp_all
theorem qeJ(h:qa8 a=true):a.posonlyargs=[]/\a.vararg=none/\a.kwonlyargs=[]/\a.kw_defaults=[]/\a.kwarg=none/\a.defaults=[]:=by
 unfold qa8 at h
 simp_all
theorem qgh(h:qa8 a=true):defaultsOf a env=([],[]):=by obtain⟨_,_,_,h4,_,h6⟩:=qeJ h;obtain⟨a1,a2,a3,a4,a5,a6,a7⟩:=a;cases h4;cases h6;rfl
theorem qsh(h:qlU C a sc=true):qa8 a=true/\sc.kind= .function/\sc.isCoroutine=false/\sc.isGenerator=false/\(∀y∈sc.names,y.2≠.cell)/\C.lam=true/\C.calm=true:=by unfold qlU at h;simp only[Bool.and_eq_true,decide_eq_true_eq,Bool.not_eq_true',List.all_eq_true] at h;exact⟨h.1.1.1.1.1.1,h.1.1.1.1.1.2,h.1.1.1.1.2,h.1.1.1.2,h.1.1.2,h.1.2,h.2⟩
theorem told_ok(IH:Eo M g F k n)(c:Cok M g F k C X E)(h:qiF C a sc=true)(hw:g.wd.isEmpty=false)(gl:Gl X "_law_told"):
  PE X (.Call (.Name "_law_told" pp) [.Lambda a body sc lp] [] p) (tE M E (qac F (.told g.wd ((qjv C sc).map (·.2)) (cE g n (qlV C sc) body)))):=by
 unfold qiF at h;simp only[Bool.and_eq_true,decide_eq_true_eq,List.all_eq_true,Bool.or_eq_true] at h;obtain⟨⟨⟨⟨h1,h2⟩,h3⟩,h4⟩,h5⟩:=h;obtain⟨s1,s2,s3,s4,s5,s6,s7⟩:=qsh h1;obtain⟨z0,st,fT,fC,CA,fdT,fdC,bmA,wa,D⟩:=c.gf.td hw;obtain⟨hr,cc,P,q,L⟩:=c.lm s6;have ag:=λy hy e=>(h5 y hy).elim (λz=>absurd e z) id;have aR: ∀q∈qjv C sc,X.N[q.2]? =some q.1/\sc.names.lookup q.1=some .free:=λq hq=>by
  obtain⟨y,hy,e⟩:=List.mem_filterMap.mp hq;split at e
  ·rename_i hf;obtain⟨i,hi,rfl⟩:=qaA e;exact⟨by rw[c.N];exact qca hi,(ag y hy hf).2⟩
  ·cases e
 obtain⟨b1,b2,b3,b4,b5,b6⟩:=qeJ s1;refine qpW (k:=8*k+1) c.K D gl L (qgh s1) (c.cf h3) s2 s3 s4 s5 (λy hy e=> ?_) aR (λar pm cv aD=> ?_) hr λA outer s H f c' E' ji=> ?_
 ·show X.env.scope.names.lookup _=_\/X.env.scope.names.lookup _=_;rw[c.sc];exact(ag y hy e).1
 ·have ea:a.args=[]:=List.length_eq_zero_iff.mp h2;have:=qbU (fd:=W.kla_fn "<lambda>" q a body sc ar pm cv aD) (us:=[]) b1 b2 b3 b5 rfl (by show(a.args.map (·.arg)).Nodup;rw[ea];exact List.nodup_nil) (by show _=(a.args.map (·.arg)).length;rw[ea];rfl);rw[this];show pure ((a.args.map (·.arg)).zip [])=_;rw[ea];rfl
 ·refine IH.e (qlV C sc) (qgj X.prog X.w X.K X.mg X.base ((qjv C sc).map (·.1)) (qb2 sc s.heap.objs.size (clOf X.env sc.names []) q f c') A outer s H E') E' ⟨c.gf,c.K,rfl,h4,rfl,λx hx=> ?_,PL.hu8 ji,λ_=>⟨rfl,ji,PL.passLI⟩,(λz=>by cases z),(λz=>by cases z),λz=>by cases z⟩ body;have hx:(match sc.names.lookup x with|some .local=>true|some .cell=>false|_=>false)=true:=hx;split at hx
  ·rename_i e;exact .inr e
  ·cases hx
  ·cases hx
theorem qqe(IH:Eo M g F k n)(c:Cok M g F k C X E)(hc:C.calm=true){f:Str}(hp:es.all qap=true)(hg:qig C f=true):PE X (.Call (.Name f pp) es [] p) (tE M E (qac F (cCall g (n+1) C f es p))):=by
 obtain⟨cm,hr,ps⟩:=c.cm hc;obtain⟨gl,hd⟩:=c.gl hg;have args: ∀es:List Expr,es.all qap=true->PA X es (tA M E (runA F (es.map (cE g n C)))):=λes h=>qbj (λe _=>IH.e C X E c e) h;have bn: ∀{es:List Expr},es.all qap=true->es≠[]->qcZ C f=true->PE X (.Call (.Name f pp) es [] p) (tE M E (qac F (match qqI f with|some b=>.bn (g.own p) b (es.map (cE g n C))|none=>.no))):=λ{es} hp hn hb=>by
  split
  ·rename_i b eb;have e:=qwa eb;subst e;cases es with
   |nil=>exact absurd rfl hn
   |cons e es=>have aj:=hp;rw[List.all_cons,Bool.and_eq_true] at aj;obtain⟨b1,b2,b3⟩:=c.blt hb;exact qvX b c.un cm c.K b1 b2 (args _ hp) (qcr aj.1) (qbq aj.2)
  ·exact qal
 unfold cCall;split
 ·rename_i hf;have hf:=eq_of_beq hf;subst hf;split
  ·rename_i a body sc lp;split
   ·rename_i ht;rw[Bool.and_eq_true,Bool.not_eq_true'] at ht;exact told_ok IH c ht.1 ht.2 gl
   ·exact qal
  ·exact qal
 split
 ·exact qal
 ·rename_i dY;have dY:f.cps.contains 46=false:=by simpa using dY
  split
  ·rename_i i hi;obtain⟨fa,fd,fc,m,kp,bd,fo⟩:=c.gf.fn f i hi dY;have fX:qdh X.prog X.w X.K X.mg X.base (CXE X.prog X.w) (8*k) fa fd fc (spF M (F i)):=by rw[c.K];exact fo
   cases es with
   |nil=>exact qmv fX (hr.mono (by omega)) gl m (by rw[c.K];exact kp) (by rw[c.K];exact bd) ps hd
   |cons e es=>have aj:=hp;rw[List.all_cons,Bool.and_eq_true] at aj;exact qp2 fX (hr.mono (by omega)) gl m (by rw[c.K];exact kp) (by rw[c.K];exact bd) ps (args _ hp) hd (qcr aj.1) (qbq aj.2)
  ·split
   ·rename_i gG;split
    ·rename_i i hi;obtain⟨fa,fd,fc,m,mk,fo,bd⟩:=c.gf.mkc f i gG hi;have fX:qdh X.prog X.w X.K X.mg X.base (CXE X.prog X.w) (8*k) fa fd fc (spF M (F i)):=by rw[c.K];exact fo
     cases es with
     |nil=>exact qmu rfl (by rw[c.K];exact mk) fX hr gl m (by rw[c.K];exact bd) ps hd
     |cons e es=>have aj:=hp;rw[List.all_cons,Bool.and_eq_true] at aj;exact qpZ rfl (by rw[c.K];exact mk) fX hr gl m (by rw[c.K];exact bd) ps (args _ hp) hd (qcr aj.1) (qbq aj.2)
    ·exact qal
   ·split
    ·rename_i hb;split
     ·rename_i e x xp;split
      ·rename_i hf;have hf:=eq_of_beq hf;subst hf;split
       ·rename_i N hN;split
        ·rename_i d8;obtain⟨e1,e2⟩:=quc hN;obtain⟨b1,b2,b3⟩:=c.blt hb;obtain⟨d1,d2,d3⟩:=c.blt d8;rw[List.all_cons,Bool.and_eq_true] at hp;exact qp0 e2 e1 c.K b1 b2 d1 d2 (IH.e C X E c e) (qcr hp.1) (qcr rfl) (qbq hp.2)
        ·exact qal
       ·exact qal
      ·exact bn hp (by simp) hb
     ·rename_i s sp a ap;split
      ·rename_i hs;simp only[Bool.and_eq_true] at hs;have es:=eq_of_beq hs.1.1;subst es;obtain⟨d1,d2,d3⟩:=c.blt hs.1.2;obtain⟨b1,b2,b3⟩:=c.blt hb;split
       ·rename_i hf;have hf:=eq_of_beq hf;subst hf;exact qal
       ·split
        ·rename_i hf;have hf:=eq_of_beq hf;subst hf;exact qal
        ·exact qal
      ·exact bn hp (by simp) hb
     ·rename_i o m ap q;split
      ·rename_i hs;simp only[Bool.and_eq_true] at hs;obtain⟨⟨⟨h1,h2⟩,h3⟩,h4⟩:=hs;have h1:=eq_of_beq h1;have h2:=eq_of_beq h2;subst h1;subst h2;obtain⟨b1,b2,b3⟩:=c.blt hb;exact qkj cm b1 b2 (IH.e C X E c o) (qdd h3) h4
      ·exact bn hp (by simp) hb
     ·exact qal
     ·rename_i h1 h2 h3 h4;exact bn hp h4 hb
    ·exact qal
theorem qvs(IH:Eo M g F k n)(c:Cok M g F k C X E)(tg e:Expr):PI X tg e (tI M E (runI F (cI g (n+1) C tg e))):=by
 have gen:PI X tg e (tI M E (runI F (.gen (cE g n C e)))):=qs8 (IH.e C X E c e) c.K;unfold cI;split
 case isFalse=>exact qdk
 split
 ·rename_i f fp es p _;split
  ·rename_i hf;have hf:=eq_of_beq hf;subst hf;split
   ·rename_i hb;rw[Bool.and_eq_true] at hb;obtain⟨b1,b2,b3⟩:=c.blt hb.1;have args:PA X es (tA M E (runA F (es.map (cE g n C)))):=qbj (λe _=>IH.e C X E c e) hb.2;have hp:=hb.2;split
    ·rename_i a;rw[List.all_cons,Bool.and_eq_true] at hp;exact qkg b1 b2 args (qcr hp.1)
    ·rename_i a b;rw[List.all_cons,Bool.and_eq_true,List.all_cons,Bool.and_eq_true] at hp;exact qdk
    ·exact qdk
   ·exact qdk
  ·split
   ·rename_i hf;have hf:=eq_of_beq hf;subst hf;split
    ·rename_i hb;simp only[Bool.and_eq_true] at hb;obtain⟨b1,b2,b3⟩:=c.blt hb.1.1;have args:PA X es (tA M E (runA F (es.map (cE g n C)))):=qbj (λe _=>IH.e C X E c e) hb.1.2;have hp:=hb.1.2;have ht:=hb.2;cases tg with
     |Tuple ts kk tp=>
      split
      ·rename_i a;rw[List.all_cons,Bool.and_eq_true] at hp;exact qdk
      ·exact qdk
     |_=>cases ht
    ·exact qdk
   ·split
    ·rename_i hf;have hf:=eq_of_beq hf;subst hf;split
     ·rename_i hb;simp only[Bool.and_eq_true] at hb;obtain⟨b1,b2,b3⟩:=c.blt hb.1.1;have args:PA X es (tA M E (runA F (es.map (cE g n C)))):=qbj (λe _=>IH.e C X E c e) hb.1.2;have hp:=hb.1.2;have ht:=hb.2;cases tg with
      |Tuple ts kk tp=>
       split
       ·rename_i a b;rw[List.all_cons,Bool.and_eq_true] at hp;exact qs7 b1 b2 args c.K (qcr hp.1) (qbq hp.2)
       ·exact qdk
      |_=>cases ht
     ·exact qdk
    ·exact gen
 ·exact gen
end
section
theorem qnQ(h: ∀e,PE X e (tE M E (qac F (f e)))): ∀es:List Expr,PE X (.BoolOp .And es pos) (tE M E (qac F (qhE (es.map f))))
 |[]=>qal
 |[a]=>h a
 |a::b::r=>qtj (h a) (qnQ h _)
theorem qrN(h: ∀e,PE X e (tE M E (qac F (f e)))): ∀es:List Expr,PE X (.BoolOp .Or es pos) (tE M E (qac F (qlD (es.map f))))
 |[]=>qal
 |[a]=>h a
 |a::b::r=>qvV (h a) (qrN h _)
theorem qkI(h: ∀e,PT X e (tT M E (dTB (qac F (f e))))): ∀es:List Expr,PW X (.BoolOp .And es pos) (tT M E (dTB (qac F (qhE (es.map f)))))
 |[]=>λ_ _ _ _ _ _ _ ⟨_,_,_,_,w⟩=>w.elim
 |[a]=>qpF (h a)
 |a::b::r=>by show PW X _ (tT M E (dTB (qmA _ _)));rw[qqX];exact qsV (h a) (qkI h _)
theorem qnm(h: ∀e,PT X e (tT M E (dTB (qac F (f e))))): ∀es:List Expr,PW X (.BoolOp .Or es pos) (tT M E (dTB (qac F (qlD (es.map f)))))
 |[]=>λ_ _ _ _ _ _ _ ⟨_,_,_,_,w⟩=>w.elim
 |[a]=>qsU (h a)
 |a::b::r=>by show PW X _ (tT M E (dTB (qt4 _ _)));rw[quf];exact qvR (h a) (qnm h _)
theorem qnn(h: ∀e,PE X e (tE M E (qac F (f e)))): ∀o:Option Expr,PO X o (tO M E (runO F (o.map f)))
 |none=>qpN
 |some e=>qpM (h e)
theorem qo3(IH:Eo M g F k n)(c:Cok M g F k C X E){m:Str}(h:(qck o&&es.all qap&&decide (es.length<30))=true)(hl:(ap.endLine==p.line)=true):
  PE X (.Call (.Attribute o m ap) es [] p) (tE M E (qac F (match qqj m "list",qqj m "dict" with
     |some b,some d=>.alt (.bm (g.own p) b (cE g n C o) (es.map (cE g n C))) (.bm (g.own p) d (cE g n C o) (es.map (cE g n C)))
     |some b,none=>.bm (g.own p) b (cE g n C o) (es.map (cE g n C))
     |none,some d=>.bm (g.own p) d (cE g n C o) (es.map (cE g n C))
     |none,none=>if C.calm then .mth (g.ms m) m (cE g n C o) (es.map (cE g n C)) else .no))):=by
 simp only[Bool.and_eq_true,decide_eq_true_eq] at h;obtain⟨⟨h1,h2⟩,h3⟩:=h;have args:PA X es (tA M E (runA F (es.map (cE g n C)))):=qbj (λe _=>IH.e C X E c e) h2;have bm: ∀b:Bm,m=b.nm->PE X (.Call (.Attribute o m ap) es [] p) (tE M E (qac F (.bm (g.own p) b (cE g n C o) (es.map (cE g n C))))):=λb e=>by
  subst e;cases es with
  |nil=>exact qti b c.un c.K (IH.e C X E c o) (qdd h1) hl
  |cons e es=>have aj:=h2;rw[List.all_cons,Bool.and_eq_true] at aj;exact qvY b c.un c.K (IH.e C X E c o) args (qdd h1) (qny h2 h3) hl (qcr aj.1) (qbq aj.2)
 split
 ·rename_i e1 e2;exact qtk (bm _ (qmW e1)) (bm _ (qmW e2))
 ·rename_i e1 e2;exact bm _ (qmW e1)
 ·rename_i e1 e2;exact bm _ (qmW e2)
 ·split
  ·rename_i hc;obtain⟨cm,hr,ps⟩:=c.cm hc;have hM: ∀c' f,((g.ms m).lookup c').map F=some f->qdg X (CXE X.prog X.w) (clA M.K c') m (spF M f):=λc' f e=>by obtain⟨i,e1,rfl⟩:=qaA e;obtain⟨fa,fd,fc,a1,a2,a3,a4⟩:=c.gf.mt m c' i (qvj e1);exact⟨fa,fd,fc,8*k,by rw[c.K];exact a1,by rw[c.K];exact a2,by rw[c.K];exact a3,hr.mono (by omega),by rw[c.K];exact a4⟩
   cases es with
   |nil=>exact qmt hM (IH.e C X E c o) ps (qjo h1 h2 h3 hl)
   |cons e es=>have aj:=h2;rw[List.all_cons,Bool.and_eq_true] at aj;exact qpY hM (IH.e C X E c o) ps args (qcr aj.1) (qbq aj.2) (qjo h1 h2 h3 hl)
  ·exact qal
theorem qez(h:qn1 g C b=some tbl): ∃D p,b= .Name D p/\qig C D=true/\g.dt.lookup D=some tbl:=by
 cases b with
 |Name D p=>
  have h:(if qig C D then g.dt.lookup D else none)=some tbl:=h
  simp_all
 |_=>cases h
theorem qeW(h:qsa o=some neg):o=if neg=true then .NotIn else .In:=by cases o<;>first|(cases h;done)|(cases h;rfl)
theorem qp9(c:Cok M g F k C X E)(ha:PE X a (tE M E (qac F ca)))(hb:PE X b (tE M E (qac F cb)))(h:qbH b=true):PE X (.Compare a [o] [b] pos) (tE M E (qac F (qqg g C o b ca cb))):=by
 unfold qqg;split
 ·rename_i tbl neg e1 e2;obtain⟨D,p,rfl,hg,hd⟩:=qez e1;obtain⟨gl,aH⟩:=c.gl hg;rw[qeW e2];exact qmr (by rw[c.K];exact c.gf.dt D tbl hd) gl ha aH neg
 ·exact PE.weakF (qfS (qdH c.un c.K _) ha hb (qg6 h)) λ_ _ _ cq q=>qd2 qcB.b cq q
theorem qmK(c:Cok M g F k C X E)(ha:PE X a (tE M E (qac F ca)))(hb:PE X b (tE M E (qac F cb)))(h:qbH b=true):PT X (.Compare a [o] [b] pos) (tT M E (dTB (qac F (qqg g C o b ca cb)))):=by
 unfold qqg;split
 ·rename_i tbl neg e1 e2;obtain⟨D,p,rfl,hg,hd⟩:=qez e1;obtain⟨gl,aH⟩:=c.gl hg;rw[qeW e2];exact qmk (by rw[c.K];exact c.gf.dt D tbl hd) gl ha aH neg
 ·exact PT.weak (qdZ (qdH c.un c.K o) ha hb (qg6 h)) λ_ _ _ q=>qd2 qcB.b qqb (qcH q)
theorem qss(c:Cok M g F k C X E)(ha:PE X a (tE M E (qac F ca)))(hb:PE X b (tE M E (qac F cb)))(h:qjk b=true):PE X (.Subscript a b pos) (tE M E (qac F (cIx g C ow a b ca cb))):=by
 unfold cIx;split
 ·exact qal
 ·exact PE.weakF (qrI (qxB (by have:=c.un;omega) c.K) ha hb (qh0 h)) λ_ _ _ cq q=>qd2 qcB.b cq q
theorem qmQ(IH:Eo M g F k n)(c:Cok M g F k C X E){f:Str}(hp:es.all qap=true)(hc:C.calm=true):PE X (.Call (.Name f pp) es [] p) (tE M E (qac F (qhy g C f (es.map (cE g n C))))):=by
 unfold qhy;split
 ·exact qal
 ·split<;>exact qal
theorem qx2(IH:Eo M g F k n)(fR: ∀C X E,Cok M g F k C X E->∀(x:Bool),x=false->∀elt tg iter ifs sc p,PE X (.ListComp elt [⟨tg,iter,ifs,0⟩] sc p) (tE M E (qac F (cComp g n C x elt tg iter ifs sc p))))(c:Cok M g F k C X E)(e:Expr):PE X e (tE M E (qac F (cE g (n+1) C e))):=by
 have ih:=IH.e C X E c;have cO:=IH.t C X E c;cases e with
 |Constant cc kk p=>
  cases cc with
  |none=>exact qth qrH λB=>qeV
  |bool b=>exact qth qoI λB=>qa6
  |int i=>exact qth qnj λB=>qaR
  |str s=>exact qth qg1 λB=>qcm
  |_=>exact qal
 |Name x p=>exact qoZ c
 |Tuple es kk p=>
  show PE X _ (tE M E (qac F (if es.all qap then .tup (es.map (cE g n C)) else .no)));split
  ·rename_i h;exact qtd (qbj (λe _=>ih e) h)
  ·exact qal
 |List es p=>
  show PE X _ (tE M E (qac F (if es.all qap then .lst (g.own p) (es.map (cE g n C)) else .no)));split
  ·rename_i h;show PE X _ (tE M E (qik _ _));unfold qik;split
   ·exact qpX (qnC (qbj (λe _=>ih e) h))
   ·exact qp1 (qnC (qbj (λe _=>ih e) h))
  ·exact qal
 |Dict ks vs p=>
  cases ks with
  |nil=>
   cases vs with
   |nil=>
    show PE X _ (tE M E (qik _ _));unfold qik;split
    ·exact qpX qkf
    ·exact qp1 qkf
   |cons _ _=>exact qal
  |cons _ _=>exact qal
 |BinOp a op b p=>
  show PE X _ (tE M E (qac F (match qvf op with|some o=>.o2 (g.own p) o (cE g n C a) (cE g n C b)|none=>.no)));split
  ·rename_i o ho;exact PE.weakF (qoC (bin_ok c.K ho) (ih _) (ih _)) λ_ _ _ cq q=>qd2 qcB.b cq q
  ·exact qal
 |UnaryOp op a p=>
  cases op with
  |Not=>exact qte (ih _)
  |USub=>exact qtf (ih _)
  |_=>exact qal
 |BoolOp op es p=>
  cases op with
  |And=>exact qnQ ih _
  |Or=>exact qrN ih _
 |IfExp t a b p=>exact qvW (cO _) (ih _) (ih _)
 |Compare a ops bs p=>
  match ops,bs with
  |[o],[b]=>
   show PE X _ (tE M E (qac F (if qbH b then qqg g C o b (cE g n C a) (cE g n C b) else .no)));split
   ·rename_i h;exact qp9 c (ih _) (ih _) h
   ·exact qal
  |[o,q],[b,d]=>
   show PE X _ (tE M E (qac F (if qbH d then .chain (qnK o) (qnK q) (cE g n C a) (cE g n C b) (cE g n C d) else .no)));split
   ·rename_i h;exact PE.weakF (qly (qdH c.un c.K _) (qdH c.un c.K _) (ih _) (ih _) (ih _) (qdv h)) λ_ _ _ cq q=>qdL cq q
   ·exact qal
  |[],_=>exact qal
  |[o],[]=>exact qal
  |[o],_::_::_=>exact qal
  |[o,q],[]=>exact qal
  |[o,q],[_]=>exact qal
  |[o,q],_::_::_::_=>exact qal
  |_::_::_::_,_=>exact qal
 |Subscript a b p=>
  cases b with
  |Slice lo hi st q=>
   cases st with
   |none=>exact qms c.K (ih _) (qnn ih _) (qnn ih _)
   |some st=>exact qal
  |_=>exact qss c (ih _) (ih _) rfl
 |Attribute a f p=>
  show PE X _ (tE M E (qac F (if qck a then .fld (g.fls f) f (cE g n C a) else .no)));split
  ·rename_i h;exact qtg c.K (λc' b9=>c.gf.fl _ c' b9) (ih _) (qdd h)
  ·exact qal
 |Call f es cN p=>
  cases f with
  |Attribute o m ap=>
   cases cN with
   |nil=>
    show PE X _ (tE M E (qac F (if(qck o&&es.all qap&&decide (es.length<30))&&ap.endLine==p.line then
    (match qqj m "list",qqj m "dict" with
     |some b,some d=>.alt (.bm (g.own p) b (cE g n C o) (es.map (cE g n C))) (.bm (g.own p) d (cE g n C o) (es.map (cE g n C)))
     |some b,none=>.bm (g.own p) b (cE g n C o) (es.map (cE g n C))
     |none,some d=>.bm (g.own p) d (cE g n C o) (es.map (cE g n C))
     |none,none=>if C.calm then .mth (g.ms m) m (cE g n C o) (es.map (cE g n C)) else .no) else .no)))
    split
    ·rename_i h;rw[Bool.and_eq_true] at h;exact qo3 IH c h.1 h.2
    ·exact qal
   |cons _ _=>exact qal
  |Name f fp=>
   cases cN with
   |nil=>
    have go:PE X (.Call (.Name f fp) es [] p) (tE M E (qac F (if(es.all qap&&C.calm)&&qig C f then cCall g n C f es p else if es.all qap&&C.calm then qhy g C f (es.map (cE g n C)) else .no))):=by
     split
     ·rename_i h;simp only[Bool.and_eq_true] at h;exact IH.c C X E c h.1.2 _ _ _ _ h.1.1 h.2
     ·split
      ·rename_i h;rw[Bool.and_eq_true] at h;exact qmQ IH c h.1 h.2
      ·exact qal
    match es,go with
    |[],go=>exact go
    |[_],go=>exact go
    |_::_::_,go=>exact go
   |cons kw cN=>
    obtain⟨ka,v,kp⟩:=kw
    match es with
    |[]=>exact qal
    |_::_::_=>exact qal
    |[e]=>
     cases ka with
     |none=>cases cN<;>exact qal
     |some kw=>
      cases v with
      |Lambda a body sc lp=>
       cases cN with
       |nil=>
        show PE X _ (tE M E (qac F (if f== "sorted" &&kw== "key" &&qcZ C f&&qap e then(match qjz C a sc with
    |some x=>(match qwM x body with|some b=>.no|none=>.no)
    | none=>.no) else .no)))
        split
        ·rename_i h;split
         ·rename_i x hx;split
          ·rename_i b hb;exact qal
          ·exact qal
         ·exact qal
        ·exact qal
       |cons _ _=>exact qal
      |_=>cases cN<;>exact qal
  |_=>exact qal
 |ListComp elt gs sc p=>
  cases gs with
  |nil=>exact qal
  |cons gg gs=>
   obtain⟨tg,iter,ifs,as⟩:=gg;cases gs with
   |nil=>
    cases as with
    |ofNat m=>
     cases m with
     |zero=>exact fR C X E c _ rfl _ _ _ _ _ _
     |succ m=>exact qal
    |negSucc m=>exact qal
   |cons _ _=>
    cases as with
    |ofNat m=>cases m<;>exact qal
    |negSucc m=>exact qal
 |_=>exact qal
theorem qxe(IH:Eo M g F k n)(he:PE X e (tE M E (qac F (cE g (n+1) C e))))(c:Cok M g F k C X E):PT X e (tT M E (dTB (qac F (cE g (n+1) C e)))):=by
 have ih:=IH.e C X E c;have cO:=IH.t C X E c;cases e with
 |UnaryOp op a p=>
  cases op with
  |Not=>show PT X _ (tT M E (dTB (qmy _)));rw[qqW];exact qsX (cO a)
  |_=>exact qnA he λ_=>rfl
 |BoolOp op es p=>
  cases op with
  |And=>exact(qkI cO es).pt
  |Or=>exact(qnm cO es).pt
 |IfExp t a b p=>show PT X _ (tT M E (dTB (qim _ _ _)));rw[qug];exact PT.weak (qrt (cO t) (cO a) (cO b)) λ_ _ _ q=>qee q
 |Compare a ops bs p=>
  have no:PT X (.Compare a ops bs p) (tT M E (dTB (qac F .no))):=λ_ _ _ _ _ _ ⟨_,_,_,_,w⟩=>w.elim
  match ops,bs,no with
  |[o],[b],no=>
   show PT X _ (tT M E (dTB (qac F (if qbH b then qqg g C o b (cE g n C a) (cE g n C b) else .no))));split
   ·rename_i h;exact qmK c (ih a) (ih b) h
   ·exact no
  |[o,q],[b,d],no=>
   show PT X _ (tT M E (dTB (qac F (if qbH d then .chain (qnK o) (qnK q) (cE g n C a) (cE g n C b) (cE g n C d) else .no))));split
   ·rename_i h;exact PT.weak (qlm (qdH c.un c.K o) (qdH c.un c.K q) (ih a) (ih b) (ih d) (qdv h)) λ_ _ _ q=>qdL qqb (qcH q)
   ·exact no
  |[],_,no=>exact no
  |[o],[],no=>exact no
  |[o],_::_::_,no=>exact no
  |[o,q],[],no=>exact no
  |[o,q],[_],no=>exact no
  |[o,q],_::_::_::_,no=>exact no
  |_::_::_::_,_,no=>exact no
 |_=>exact qnA he λ_=>rfl
theorem qka(M:Md)(g:Gx)(F:Fs)(k:Nat): ∀n,Eo M g F k n/\(∀C X E,Cok M g F k C X E->∀(x:Bool),x=false->∀elt tg iter ifs sc p,PE X (.ListComp elt [⟨tg,iter,ifs,0⟩] sc p) (tE M E (qac F (cComp g n C x elt tg iter ifs sc p)))/\
  ∀(i:Nat)(y:Str)(py spos:Pos),x=false->X.N[i]? =some y->C.sc.names.lookup y=some .local->swapsWith (.ListComp elt [⟨tg,iter,ifs,0⟩] sc p) (some (.Name y py)) spos.line X.env=pure true->
   PS X (.Assign [.Name y py] (.ListComp elt [⟨tg,iter,ifs,0⟩] sc p) spos) (tS M E (qmx i (qac F (cComp g n C x elt tg iter ifs sc p)))))
 |0=>⟨⟨λC X E c e=>qal,λC X E c e _ _ _ _ _ _ ⟨_,_,_,_,w⟩=>w.elim,λC X E c _ f es p pp _ _=>qal,λC X E c tg it=>qdk⟩,λC X E c x hx elt tg iter ifs sc p=>⟨qal,λ_ _ _ _ _ _ _ _ _ _ _ _ _ _ ⟨_,_,_,_,w⟩=>w.elim⟩⟩
 |n+1=>by obtain⟨IH,hc⟩:=qka M g F k n;have he: ∀C X E,Cok M g F k C X E->∀e,PE X e _:=λC X E c e=>qx2 IH (λC X E c x hx elt tg iter ifs sc p=>(hc C X E c x hx elt tg _ ifs sc p).1) c e;exact⟨⟨he,λC X E c e=>qxe IH (he C X E c e) c,λC X E c hc f es p pp hp hg=>qqe IH c hc hp hg,λC X E c tg it=>qvs IH c tg it⟩,λC X E c x hx elt tg iter ifs sc p=>qp5 IH c hx⟩
end
section
theorem qvP{g:Gx}{x:Str}(h:(g.ex.map (·.1)).contains x=true): ∃bs,(x,bs)∈g.ex:=by
 simp_all
theorem qmX{env:Env}{sc:Scope}(h:env.scope=sc)(hk:sc.kind= .function):env.blockKind= .function:=by unfold Env.blockKind;rw[h,hk];rfl
theorem qsM{α β:Type}{f:α->Option β}: ∀{l:List α},(∃a∈l,f a=none)->(l.filterMap f).length<l.length
 |[],⟨_,h,_⟩=>nomatch h
 |b::l,⟨a,h,e⟩=>by
  have le:=List.length_filterMap_le f l
  rcases List.mem_cons.mp h with rfl|h
  ·grind
  ·have:=qsM ⟨a,h,e⟩
   grind
theorem qhM{C:Cc}{X:Cx}{ts vs:List Expr}{kt kv:Nat}{pt pv:Pos}(hsc:X.env.scope=C.sc)(h:ts.any (qjj C)=true):swappedStores [.Tuple ts kt pt] (.Tuple vs kv pv) X.env=pure none:=by
 obtain⟨a,ha,hn⟩:=List.any_eq_true.mp h;unfold swappedStores;dsimp only;split
 ·rfl
 split
 ·rfl
 rw[if_pos];refine Bool.or_eq_true_iff.mpr (.inl (bne_iff_ne.mpr (Vn (qsM ⟨a,ha,?_⟩))));cases a with
 |Name x p=>
  have e:(X.env.kindOf x==some NameKind.local)=false:=by show(X.env.scope.names.lookup x==some NameKind.local)=false;rw[hsc];have hn:(!decide (C.sc.names.lookup x=some .local))=true:=hn;simpa using hn
  simp only[e,Bool.false_and,Bool.false_eq_true,if_false]
 |_=>rfl
end
section
theorem qjV(h:PS X st (tS M E (qaG F s))): ∀xs:List Str,PS X st (tS M E (qaG F (qfg C xs s)))
 |[]=>h
 |x::xs=>by
  show PS X st (tS M E (qaG F (match qkV C.N x with|some i=>.frz i _|none=>qfg C xs s)));split
  ·exact qs1 _ (qjV h xs)
  ·exact qjV h xs
theorem qgH{x:Str}(c:Cok M g F k C X E)(hk:decide (C.sc.kind= .function)=true):
  swapsWith (.ListComp elt gs sc q) (some (.Name x p)) line X.env=pure (qdR C (.ListComp elt gs sc q) x p):=by
 show(pure _)=_;unfold qdR;rw[qmX c.sc (of_decide_eq_true hk),hk];unfold Env.kindOf;rw[c.sc];have hb:(C.sc.names.lookup x==some NameKind.local)=decide (C.sc.names.lookup x=some .local):=by grind
 rw[hb];rfl
theorem qrb(c:Cok M g F k C X E){x:Str}:PS X (.Assign [.Name x p] e pos) (tS M E (qaG F (qv9 g n C x p e))):=by
 obtain⟨eo,hc⟩:=qka M g F k n;unfold qv9;split
 case isFalse=>exact qa2
 rename_i hs;split
 ·exact qa2
 ·rename_i i hi;have hN:X.N[i]? =some x:=by rw[c.N];exact qca hi
  have st:swapsWith e (some (.Name x p)) pos.line X.env=pure false->PS X (.Assign [.Name x p] e pos) (tS M E (qaG F (.set i (cE g n C e)))):=λh=>
   qsY (by rw[c.N];exact c.nd) hN (by rw[c.sc];exact qq3 hs) (eo.e C X E c e) h (by rw[c.sc];exact c.fn x hs)
  split
  ·split
   ·rename_i hk;split
    ·rename_i bK;refine(hc C X E c false rfl _ _ _ _ _ _).2 i x p pos rfl hN ?_ (by rw[qgH c hk,bK]);unfold qdR at bK;simp only[Bool.and_eq_true,decide_eq_true_eq] at bK;exact bK.1.1.2
    ·rename_i bK;exact st (by rw[qgH c hk];simp only[Bool.not_eq_true] at bK;rw[bK])
   ·exact qa2
  ·split
   ·rename_i h;exact st (qcz h)
   ·exact qa2
theorem quy(IH: ∀C X E,Cok M g F k C X E->∀bE,PSs X bE (tS M E (runSs F (cSs g n C bE))))(c:Cok M g F k C X E)(st:Stmt):PS X st (tS M E (qaG F (cS1 g (n+1) C st))):=by
 obtain⟨eo,hc⟩:=qka M g F k n;have ih:=eo.e C X E c;have hn: ∀e:Expr,PE X e (tE M E (qac F (cE g n C e))):=ih;cases st with
 |Return v p=>
  cases v with
  |none=>exact qpI
  |some e=>exact qsZ (ih _)
 |Pass p=>exact qpJ
 |Break p=>exact qmn
 |Continue p=>exact qgc
 |Expr e p=>
  show PS X _ (tS M E (qaG F (if qgJ e then .nx else if qdw e then .exp (cE g n C e) else .no)));split
  ·rename_i h;cases e with
   |Constant cc j q=>
    cases cc with
    |str s=>exact PS.weak qrz λD Z H ⟨ρ,U,B,ev,w⟩=>w Z H B ev .refl
    |_=>cases h
   |_=>cases h
  ·split
   ·rename_i h;exact qpK (ih _) (qcz h)
   ·exact qa2
 |If t a b p=>exact qvS (eo.t C X E c _) (IH C X E c _) (IH C X E c _)
 |For tg it b els p=>
  cases els with
  |nil=>
   show PS X _ (tS M E (qaG F (if(C.top&&C.calm)&&qbH it then .for_ (cG C n tg) (cI g n C tg it) (cSs g n C b) else .no)));split
   ·rename_i h;simp only[Bool.and_eq_true] at h;exact qs2 (c.tp h.1.1).ow (c.cm h.1.2).1 (eo.i C X E c _ _) (qiG c n _) (IH C X E c _) (qd5 h.2)
   ·exact qa2
  |cons _ _=>exact qa2
 |Assign ts e p=>
  match ts with
  |[]=>exact qa2
  |t::_::_=>cases t<;>exact qa2
  |[t]=>
   cases t with
   |Name x px=>exact qrb c
   |Attribute o f q=>exact qs3 c.K (λc' b9=>c.gf.fl _ c' b9) (ih _) (ih _) (qgI λ_ _ z=>by cases z)
   |Subscript o i q=>exact qs0 (by have:=c.un;omega) (ih _) (ih _) (ih _) (qgI λ_ _ z=>by cases z)
   |Tuple ts kt pt=>
    have other:(∀vs kv pv,e≠.Tuple vs kv pv)->PS X (.Assign [.Tuple ts kt pt] e p) (tS M E (qaG F (if qdw e then .asg (cG C n (.Tuple ts kt pt)) (cE g n C e) else .no))):=λdM=>by
     split
     ·rename_i h;refine qnB (ih _) (qiG c n _) (qcz (t:=some (.Tuple ts kt pt)) (l:=p.line) (env:=X.env) h) ?_ rfl;cases e<;>first|rfl|exact(dM _ _ _ rfl).elim
     ·exact qa2
    cases e with
    |Tuple vs kv pv=>
     show PS X _ (tS M E (qaG F (if ts.any (qjj C) then .asg (cG C n (.Tuple ts kt pt)) (cE g n C (.Tuple vs kv pv)) else .no)));split
     ·rename_i hn;exact qnB (ih _) (qiG c n _) (qcz (e:=.Tuple vs kv pv) (t:=some (.Tuple ts kt pt)) (l:=p.line) (env:=X.env) rfl) (qhM c.sc hn) rfl
     exact qa2
    |_=>exact other λ_ _ _ z=>by cases z
   |_=>exact qa2
 |Raise a b p=>
  cases a with
  |none=>exact qa2
  |some a=>
   cases a with
   |Call f es cN q=>
    cases f with
    |Name x np=>
     match es,cN,b with
     |[a],[],none=>
      show PS X _ (tS M E (qaG F (if C.top&&qig C x&&(g.ex.map (·.1)).contains x&&qgJ a then .raise x else .no)));split
      ·rename_i h;simp only[Bool.and_eq_true] at h;obtain⟨⟨⟨h1,h2⟩,h3⟩,h4⟩:=h;obtain⟨gl,hd⟩:=c.gl h2;cases a with
       |Constant cc j q1=>
        cases cc with
        |str s=>exact qmm ((c.tp h1).rs x s j np q1 q p h3 gl hd)
        |_=>cases h4
       |_=>cases h4
      ·exact qa2
     |[],_,_=>exact qa2
     |_::_::_,_,_=>exact qa2
     |[_],_::_,_=>exact qa2
     |[_],[],some _=>exact qa2
    |_=>exact qa2
   |_=>exact qa2
 |_=>exact qa2
theorem qwu: ∀n,(∀C X E,Cok M g F k C X E->∀st,PS X st (tS M E (qaG F (cS g n C st))))/\(∀C X E,Cok M g F k C X E->∀st,PS X st (tS M E (qaG F (cS1 g n C st))))/\∀C X E,Cok M g F k C X E->∀bE,PSs X bE (tS M E (runSs F (cSs g n C bE)))
 |0=>⟨λC X E c st=>qa2,λC X E c st=>qa2,λC X E c bE=>λ_ _ _ _ _ _ ⟨_,_,_,_,w⟩=>w.elim⟩
 |n+1=>by
  obtain⟨h1,h2,h3⟩:=qwu n;refine⟨λC X E c st=>qjV (h2 C X E c st) _,λC X E c st=>quy h3 c st,λC X E c bE=> ?_⟩
  induction bE with
  |nil=>exact qpH
  |cons st bE ih=>exact qml (h1 C X E c st) ih
end
noncomputable def LmK(M:Md)(g:Gx)(mg:Str->Option Value)(base:Heap)(q:Str)(fd:FuncData):Prop:=g.lm.contains q=true->∃c P,fd.code= .ref c/\W.CodeHd base c P/\qfI mg base/\(∀H,M.G.P H->qgC P (q++(".<locals>." :Str)++("<lambda>" :Str)) H)/\∀H H2,M.G.P H->qfH P H H2->(∀b,H b≠none->H2 b≠none)->qgC P (q++(".<locals>." :Str)++("<lambda>" :Str)) H2->M.G.P H2
structure Kf(M:Md)(g:Gx)(P:Program)(w:World)(mg:Str->Option Value)(base:Heap):Prop where
 fn: ∀(x:Str)(i:Nat)(st:Stmt),g.fi x=some i->x.cps.contains 46=false->g.fs[i]? =some (x,st)->∃f fd,Fun M.K x x st f fd/\mg x=some (.ref f)/\LmK M g mg base x fd
 nb: ∀x,qcF.contains x=true->mg x=none
 cs: ∀x t,g.cs.lookup x=some t->∃v u,mg x=some u/\RelV v u/\∀B,Rep M.K B t v
 ex: ∀c bs,(c,bs)∈g.ex->mg c=some (.ref (clA M.K c))/\∃bm,qdi base (clA M.K c) bm/\∀x∈bs,(g.ex.map (·.1)).contains x=true->(Value.ref (clA M.K c)::bm).contains (.ref (clA M.K x))=true
 mt: ∀(c m:Str)(i:Nat)(st:Stmt),(g.cl.map (·.1)).contains c=true->g.fi (qaU c m)=some i->g.fs[i]? =some (qaU c m,st)->∃f fd,Fun M.K m (qaU c m) st f fd/\Cls M.K (clA M.K c)/\qtO M.K (clA M.K c) m f/\LmK M g mg base (qaU c m) fd
 mkc: ∀c,(g.cl.map (·.1)).contains c=true->mg c=some (.ref (clA M.K c))/\W.makesIn M.K (clA M.K c)=true/\W.keepIn M.K (.ref (clA M.K c))=true
 fl: ∀f c,(g.fls f).contains c=true->Cls M.K (clA M.K c)/\qbb M.K (clA M.K c) f
 ok: ∀p∈g.fs,qfj p.2=true
 dt: ∀D tbl,g.dt.lookup D=some tbl->PL.TopT M.K mg w D tbl
 td:g.wd.isEmpty=false->∃z st fT fC CA fdT fdC bmA wa,Td z M P w mg base (λc=>g.wd.lookup c) st fT fC CA fdT fdC bmA wa
theorem qpz{g:Gx}{x:Str}{i:Nat}(h:g.fi x=some i): ∃st,g.fs[i]? =some (x,st):=by
 have:=qca h
 simp_all
section
variable{x q:Str}
structure FnB(st:Stmt):Prop where
 sc:qby (qh1 st) (qfQ st) (qad st)
 po:(qao st).posonlyargs=[]
 va:(qao st).vararg=none
 ko:(qao st).kwonlyargs=[]
 kw:(qao st).kwarg=none
theorem qj7(h:qfj st=true):FnB st:=by
 unfold qfj at h;simp only[Bool.and_eq_true,decide_eq_true_eq,Bool.not_eq_true',Option.isNone_iff_eq_none,List.length_eq_zero_iff] at h;obtain⟨⟨⟨⟨⟨⟨⟨⟨⟨⟨⟨h1,h2⟩,h3⟩,h4⟩,h5⟩,h6⟩,h7⟩,h8⟩,h9⟩,h10⟩,h11⟩,h12⟩:=h;refine⟨⟨h1,h2,h3,h4,?_,λy hy=> ?_,λy hy=> ?_⟩,h7,h8,h9,h11⟩
 ·exact List.take_left
 ·exact qsf (List.all_eq_true.mp h5 y hy)
 ·exact of_decide_eq_true (List.all_eq_true.mp h6 y hy)
theorem qmY{M:Md}(F:Fun M.K x q st f fd)(h:FnB st):qaY M.K fd (qfQ st) []:=F.binds λkV doc pm an cdv ct us hl=>by
 have nd:=by have:=h.sc.nd;exact(List.nodup_append.mp this).1
 exact qbU h.po h.va h.ko h.kw rfl nd hl
theorem qtw(gf:Gf M g F k P w mg base)(h:FnB st){qual:Str}(dO:lam=true->∃c P,cdv= .ref c/\W.CodeHd base c P/\qfI mg base/\(∀H,M.G.P H->qgC P (qual++(".<locals>." :Str)++("<lambda>" :Str)) H)/\∀H H2,M.G.P H->qfH P H H2->(∀b,H b≠none->H2 b≠none)->qgC P (qual++(".<locals>." :Str)++("<lambda>" :Str)) H2->M.G.P H2)(hr:qa7 (8*k+7) (A.deeper (PyProof.Rows.envOfC qual (qad st) s.heap.objs.size f cdv))):
  Cok M g F k (qv8 lam st) (qfr (CXE P w) P w M.K mg base (qh1 st) qual (qad st) f cdv A outer s H E) E:=by
 refine⟨gf,rfl,rfl,h.sc.nd,rfl,λ_ _=>.inl rfl,PL.hu8 hr,λ_=>⟨rfl,hr.mono (by omega),PL.passI⟩,λ_=>⟨rfl,rfl,rfl,λa s' h=>Vc h (λ_ _ x=>x) λ_ _ x=>x.elim,PassesOwn.leaving,λx msg j np p1 cpos pos hx gl hd=> ?_⟩,λz=> ?_,λ_ _=>rfl⟩
 ·obtain⟨bs,hb⟩:=qvP hx;obtain⟨m,bm,e,_⟩:=gf.ex x bs hb;exact qln e m gl hd
 ·obtain⟨c,P,e1,e2,e3,e4,e5⟩:=dO z;exact⟨hr.mono (by omega),c,P,_,e1,e2,e3,rfl,e4,e5⟩
theorem qsK(lk:LmK M g mg base q fd)(gf:Gf M g (TTf g k) k P w mg base)(F:Fun M.K x q st f fd)(hb:qfj st=true)(e:g.fs[i]? =some (q,st)):qdh P w M.K mg base (CXE P w) (8*(k+1)) f fd (qfQ st) (spF M (TTf g (k+1) i)):=by
 have B:=qj7 hb;have e1:TTf g (k+1) i=fnR (g.kp.contains q) (qfQ st).length (qh1 st).length (runSs (TTf g k) (cSs g 60 (qv8 (g.lm.contains q) st) (qay st))):=by show(match g.fs[i]? with|some p=>(cFn g p).run _|none=>λ_ _=>.no)=_;rw[e];show(cFn g _).run _=_;unfold cFn;rw[if_pos hb];rfl
 rw[e1];exact qvL F B.sc λcdv hc A outer s H E hr=>(qwu 60).2.2 _ _ _ (qtw gf B (λz=>by rw[<-hc];exact lk z) hr) _
theorem qpx{ps:List Str}:qdh P w M.K mg base (CXE P w) 0 f fd ps (spF M λ_ _=>.no):=⟨λvs H Q E ⟨_,_,_,_,_,z⟩=>z.elim,λA outer s H args us vs Q E _ _ _ _ ⟨_,_,_,_,_,z⟩=>z.elim⟩
theorem qnt{M:Md}{g:Gx}(kf:Kf M g P w mg base): ∀k,Gf M g (TTf g k) k P w mg base
 |k=>by
  have ih: ∀{x q:Str}{st:Stmt}{f:Addr}{fd:FuncData}{i:Nat},Fun M.K x q st f fd->LmK M g mg base q fd->g.fs[i]? =some (q,st)->qdh P w M.K mg base (CXE P w) (8*k) f fd (qfQ st) (spF M (TTf g k i))/\qaY M.K fd (qfQ st) []:=λ{x q st f fd i} F lk e=>by
   have hb:=kf.ok _ (Vt e);refine⟨?_,qmY F (qj7 hb)⟩;cases k with
   |zero=>exact qpx
   |succ k=>exact qsK lk (qnt kf k) F hb e
  refine⟨λx i hi hd=> ?_,kf.nb,kf.cs,kf.ex,λm c i hm=> ?_,λc i hc hi=> ?_,kf.fl,kf.dt,kf.td⟩
  ·obtain⟨st,e⟩:=qpz hi;obtain⟨f,fd,F,m,lk⟩:=kf.fn x i st hi hd e;obtain⟨a,b⟩:=ih F lk e;exact⟨f,fd,_,m,F.kp,b,a⟩
  ·obtain⟨q,hq,e⟩:=List.mem_filterMap.mp hm;obtain⟨i',e1,e2⟩:=qaA e;cases e2;obtain⟨st,e3⟩:=qpz e1;obtain⟨f,fd,F,c1,m1,lk⟩:=kf.mt q.1 m i st (by rw[List.contains_iff_mem];exact List.mem_map.mpr ⟨q,hq,rfl⟩) e1 e3;obtain⟨a,b⟩:=ih F lk e3;exact⟨f,fd,_,c1,m1,a,b⟩
  ·obtain⟨st,e3⟩:=qpz hi;obtain⟨f,fd,F,c1,m1,lk⟩:=kf.mt c "__init__" i st hc hi e3;obtain⟨a,b⟩:=ih F lk e3;obtain⟨z1,z2,z3⟩:=kf.mkc c hc;exact⟨f,fd,_,z1,⟨z2,m1.at_,m1.fn,z3⟩,a,b⟩
end
open HD
noncomputable def qfW(x:Str):Bool:= !x.cps.contains 46
noncomputable def Gx.tb(g:Gx):List (Str×Stmt):=g.fs.filter λp=>qfW p.1
noncomputable def mOf(c q:Str):Option Str:=if(qaU c "").cps.toList.isPrefixOf q.cps.toList then some ⟨(q.cps.toList.drop (qaU c "").cps.toList.length).toArray⟩ else none
noncomputable def Gx.mtl(g:Gx):List (Str×Str×Str×Stmt):=g.cl.flatMap λc=>g.fs.filterMap λp=>(mOf c.1 p.1).map λm=>(c.1,m,p.1,p.2)
noncomputable def qwJ(K:W.Frag)(c:Str×T):Bool:=match W.nsIn K mainGlobals c.1,c.2 with
 |some (some (.int n _)),.int m=>n==m
 |some (some (.str n _)),.str m=>n==m
 |_,_=>false
noncomputable def bmX(K:W.Frag)(bs:List Str):List Value:=(bs.tail.filter λx=>x != ("ValueError" :Str)).map (λx=>Value.ref (clA K x))++bmV
noncomputable def qwI(K:W.Frag)(ns:List Str)(c:Str×List Str):Bool:=nsC K c.1&&qc4 K (clA K c.1) (bmX K c.2)&&c.2.all λx=> !ns.contains x||(Value.ref (clA K c.1)::bmX K c.2).contains (.ref (clA K x))
theorem qur{a b:Str}(h:a.cps.toList=b.cps.toList):a=b:=by cases a;simp_all
theorem qaZ(a b:Str):(a++b).cps.toList=a.cps.toList++b.cps.toList:=by show(a.cps++b.cps).toList=_;simp
theorem qh6(c m:Str):mOf c (qaU c m)=some m:=by
 have e:(qaU c m).cps.toList=(qaU c "").cps.toList++m.cps.toList:=by unfold qaU;rw[qaZ,qaZ];rw[qaZ];show _=(_++([]))++_;rw[List.append_nil,qaZ]
 unfold mOf
 simp_all
noncomputable def gQ(m:List (Addr×Str)):Gam where
 P:=λH=> ∀p∈m,qgC p.1 p.2 H
 st:=λH H' k h p hp=>by obtain⟨ps,h1,h2,h3⟩:=h p hp;refine⟨ps,k _ _ h1 (λ_ z=>by cases z) (λ_ z=>by cases z) (λ_ z=>by cases z) (λ_ _ _ z=>by cases z),h2,λpos v e=> ?_⟩;obtain⟨c,e1,e2⟩:=h3 pos v e;exact⟨c,e1,k _ _ e2 (λ_ z=>by cases z) (λ_ z=>by cases z) (λ_ z=>by cases z) (λ_ _ _ z=>by cases z)⟩
theorem qsD{qual:Str}(h:(P,qual)∈m)(nd:(m.map (·.1)).Nodup): ∀H H2,(gQ m).P H->qfH P H H2->qgC P qual H2->(gQ m).P H2:=λH H2 g same t p hp=>by
 obtain⟨ps,hP,_⟩:=g _ h;by_cases e:p.1=P
 ·have:=PL.nodup_fst nd hp h e;subst this;exact t
 ·exact PL.tabq_same (g p hp) hP e same
theorem qq4{qz:List Str}(ht: ∃m,t [.scr ns] ⟨[],[]⟩= .ok (.bl true) m)(hO:qhF Ts H)(hS:SqL K H a (ns.map V.int)):spF ⟨K,gQ (Ts.zip qz)⟩ t [.ref a] H (λv _=>v= .bl true) λ_ _ _=>False:=by
 obtain⟨m,ht⟩:=ht;have tb:(gQ (Ts.zip qz)).P H:=λp hp=>quh hO.1 hp;have fin: ∀B,(∀a o,B a=some o->H a=some o)->(∀a ps,B a≠some _)->SqL K B a _->spF ⟨K,gQ _⟩ t _ H _ λ_ _ _=>False:=λB le bt sq=>by
  refine⟨⟨[],[]⟩,⟨B,λ_=>none⟩,[.scr ns],⟨le,bt,tb,(λk c e=>by simp at e),(λ_ _ _ e=>by cases e),(λ_ _ e=>by cases e),(λk c e=>by simp at e),λ_ h=>nomatch h⟩,.cons (by exact⟨a,rfl,sq⟩) .nil,?_⟩;rw[ht]
  exactλv H' B' _ _ r=>qbJ r
 have cut: ∀{o },H a=some o->(∀ps,o≠.tbl ps)->SqL K (λb=>if b=a then H a else none) a _->spF _ t _ H _ _:=λ{o} ho n sq=>
  fin _ (λb o z=>by
   grind) (λb ps z=>by
   grind) sq
 rcases hS with(hS|⟨o,hS⟩)|hS
 ·exact cut hS (λps z=>by cases z) (.inl (.inl (by simp[hS])))
 ·exact cut hS (λps z=>by cases z) (.inl (.inr ⟨o,by simp[hS]⟩))
 ·exact fin (λ_=>none) (λ_ _ z=>by cases z) (λ_ _ z=>by cases z) (.inr hS)
noncomputable def lq(q:Str):Str:=q++(".<locals>." :Str)++("<lambda>" :Str)
structure qwi(K:W.Frag)(g:Gx)(w:World):Prop where
 h1:(g.tb.all λp=>okD K p.1)=true
 h2:g.tb.map (λp=>qpA K p.1)=g.tb.map λp=>(qpA K p.1).map (due p.1 p.2)
 h3:g.cs.all (qwJ K)=true
 h4:qcF.all (okN K)=true
 h5:HD.okT K g.lm=true
 h6:g.ex.all (qwI K (g.ex.map (·.1)))=true
 h7:g.cl.all (λc=>qve K c.1 c.2)=true
 h8:(g.mtl.all λq=>okM K (clA K q.1) q.2.1 q.2.2.1)=true
 h10:(g.dt.all λp=>PL.topB K p.1 p.2)=true
 h11:g.dt.map (λp=>(PL.esOf K p.1).map λes=>es.map (·.hash))=g.dt.map λp=>some (p.2.map λq=>PyData.keyHash w.params q.1)
 h9:g.mtl.map (λq=>qse K (clA K q.1) q.2.1)=g.mtl.map λq=>(qse K (clA K q.1) q.2.1).map (qwR q.2.1 q.2.2.1 q.2.2.2)
theorem qvn(X:K.In h)(G:h.Ns mainGlobals mg)(S:qwi K g w)(hok:(g.fs.all λp=>qfj p.2)=true)(dO:g.lm.all qfW=true)(KI:K.In base)(hb:qfI mg base)(hC: ∀y∈g.lm,∃c,W.tabIn K y=some (c,tOf K y)/\W.CodeHd base c (tOf K y))(nd:(g.lm.map (tOf K)).Nodup)(td:g.wd.isEmpty=false->∃z st fT fC CA fdT fdC bmA wa,Td z ⟨K,gQ ((g.lm.map (tOf K)).zip (g.lm.map lq))⟩ P w mg base (λc=>g.wd.lookup c) st fT fC CA fdT fdC bmA wa):
  Kf ⟨K,gQ ((g.lm.map (tOf K)).zip (g.lm.map lq))⟩ g P w mg base:=by
 have D:=qki X G S.h1 S.h2;have iS: ∀c fs,(c,fs)∈g.cl->mg c=some (.ref (clA K c))/\Cls K (clA K c)/\W.makesIn K (clA K c)=true/\W.keepIn K (.ref (clA K c))=true/\∀f∈fs,qbb K (clA K c) f:=λc fs hm=>qv6 X G (List.all_eq_true.mp S.h7 _ hm);have jM: ∀c,(g.cl.map (·.1)).contains c=true->∃fs,(c,fs)∈g.cl:=λc hc=>by rw[List.contains_iff_mem] at hc;obtain⟨p,hp,rfl⟩:=List.mem_map.mp hc;exact⟨p.2,hp⟩
 have mem: ∀y∈g.lm,(tOf K y,lq y)∈(g.lm.map (tOf K)).zip (g.lm.map lq):=λy hy=>by obtain⟨j,hj,rfl⟩:=List.mem_iff_getElem.mp hy;refine List.mem_iff_getElem?.mpr ⟨j,?_⟩;rw[List.getElem?_zip_eq_some];simp[hj]
 have nd2:(((g.lm.map (tOf K)).zip (g.lm.map lq)).map (·.1)).Nodup:=by
  have:((g.lm.map (tOf K)).zip (g.lm.map lq)).map (·.1)=g.lm.map (tOf K):=by rw[List.map_fst_zip (by simp)]
  rw[this];exact nd
 refine⟨λx i st hi hd e=> ?_,λx hx=>qoX X G S.h4 x (by rwa [List.contains_iff_mem] at hx),λx t hx=> ?_,λc bs hm=> ?_,λc m i st hc hi e=> ?_,λc hc=> ?_,λf c hf=> ?_,λp hp=>List.all_eq_true.mp hok p hp,λD tbl hD=> ?_,td⟩
 ·have hm:(x,st)∈g.tb:=List.mem_filter.mpr ⟨Vt e,by unfold qfW;rw[hd];rfl⟩;obtain⟨j,hj⟩:=List.mem_iff_getElem?.mp hm;obtain⟨f,oc,od,osl,kV,doc,pm,an,cdv,ct,lk,aI,kp,m,n0⟩:=D j _ _ hj;refine⟨f,_,qff lk aI kp,m,λhl=> ?_⟩;have cD:x∈g.lm:=by rwa [List.contains_iff_mem] at hl
  obtain⟨c,tc,hc⟩:=hC x cD;refine⟨c,tOf K x,?_,hc,hb,λH gp=>gp _ (mem x cD),λH H2 gp same _ t=>qsD (mem x cD) nd2 H H2 gp same t⟩;show cdv= .ref c;unfold W.tabIn at tc;rw[n0] at tc;simp only[lk] at tc;cases cdv with
  |ref c'=>
   dsimp only at tc;split at tc
   ·split at tc
    ·cases tc;rfl
    ·cases tc
   ·cases tc
  |_=>cases tc
 ·have hm:(x,t)∈g.cs:=by
   have go: ∀l:List (Str×T),l.lookup x=some t->(x,t)∈l:=λl=>by
    induction l with
    |nil=>intro h;cases h
    |cons p l ih=>
     intro h;obtain⟨y,u⟩:=p;rw[List.lookup_cons] at h;cases q:x==y with
     |true=>rw[q] at h;cases h;rw[eq_of_beq q];exact Vj
     |false=>rw[q] at h;exact Vk _ (ih h)
   exact go _ hx
  have a:=List.all_eq_true.mp S.h3 _ hm;unfold qwJ at a;split at a
  ·rename_i n tk m e1 e2;have e2:t= .int m:=e2;have:n=m:=by simpa using a
   subst this e2;exact⟨.int n,_,W.mg_of X G e1,⟨_,rfl⟩,λB=>qaR⟩
  ·rename_i n tk m e1 e2;have e2:t= .str m:=e2;have:n=m:=by simpa using a
   subst this e2;exact⟨.str n,_,W.mg_of X G e1,⟨_,rfl⟩,λB=>qcm⟩
  ·cases a
 ·have a:=List.all_eq_true.mp S.h6 _ hm;unfold qwI at a;simp only[Bool.and_eq_true,List.all_eq_true,Bool.or_eq_true,Bool.not_eq_true'] at a;obtain⟨⟨a1,a2⟩,a3⟩:=a;refine⟨qji X G a1,_,qcb KI a2,λx hx hn=> ?_⟩
  rcases a3 x hx with z|z
  ·rw[hn] at z;cases z
  ·exact z
 ·obtain⟨fs,hm⟩:=jM c hc;have hq:(c,m,qaU c m,st)∈g.mtl:=List.mem_flatMap.mpr ⟨_,hm,List.mem_filterMap.mpr ⟨_,Vt e,by rw[qh6];rfl⟩⟩;obtain⟨j,hj⟩:=List.mem_iff_getElem?.mp hq;have e9:=congrArg (λl=>l[j]?) S.h9;simp only[List.getElem?_map,hj,Option.map_some] at e9;obtain⟨f,oc,od,osl,kV,doc,pm,an,cdv,ct,lk,aI,M1⟩:=qta (List.all_eq_true.mp S.h8 _ hq) (Option.some.inj e9);refine⟨f,_,qff lk aI M1.kp,(iS c fs hm).2.1,M1,λhl=> ?_⟩;have:=List.all_eq_true.mp dO _ (by rwa [List.contains_iff_mem] at hl);exfalso;unfold qfW at this;have dt:(qaU c m).cps.contains 46=true:=by rw[Array.contains_iff_mem,<-Array.mem_toList_iff];unfold qaU;rw[qaZ,qaZ];exact Vr _ (Vs _ (by decide))
  rw[dt] at this;cases this
 ·obtain⟨fs,hm⟩:=jM c hc;obtain⟨z1,z2,z3,z4,z5⟩:=iS c fs hm;exact⟨z1,z3,z4⟩
 ·rw[List.contains_iff_mem] at hf;obtain⟨p,hp,rfl⟩:=List.mem_map.mp hf;obtain⟨fJ,dG⟩:=List.mem_filter.mp hp;obtain⟨z1,z2,z3,z4,z5⟩:=iS p.1 p.2 fJ;exact⟨z2,z5 f (by simpa using dG)⟩
 ·have hm:(D,tbl)∈g.dt:=by
   have go: ∀l:List (Str×List (Str×Str)),l.lookup D=some tbl->(D,tbl)∈l:=λl=>by
    induction l with
    |nil=>intro h;cases h
    |cons p l ih=>
     intro h;obtain⟨y,u⟩:=p;rw[List.lookup_cons] at h;cases q:D==y with
     |true=>rw[q] at h;cases h;rw[eq_of_beq q];exact Vj
     |false=>rw[q] at h;exact Vk _ (ih h)
   exact go _ hD
  obtain⟨j,hj⟩:=List.mem_iff_getElem?.mp hm;have e:=congrArg (λl=>l[j]?) S.h11;simp only[List.getElem?_map,hj,Option.map_some] at e;exact PL.topT_of X G (List.all_eq_true.mp S.h10 _ hm) (Option.some.inj e)
theorem qt8{l:W.OpenLaw}{q:Program}{loose:List Str}{XP:(Str->Option Value)->Heap->Prop}{YP:World->Heap->Prop}{d:DefRec}{K:Params->W.Frag}{g:Gx}{kk i:Nat}{sl:Stmt}(hn:l.most=some 63)(dZ:d.params.defaults=[])(hd:d.name= "law")(hY: ∀(w:World)(h:Heap),YP w h->(K w.params).In h)(a8: ∀y∈g.lm,∃dx,(PyProof.Rows.recsOf q).find? (λe=>e.name==y)=some dx)(hR:qa7 (8*(kk+1)) callerA)(S: ∀w:World,qwi (K w.params) g w)(hok:(g.fs.all λp=>qfj p.2)=true)(dO:g.lm.all qfW=true)(hi:g.fi "law" =some i)(hs:g.fs[i]? =some (("law" :Str),sl))(hp:qfQ sl=[("_law_script" :Str)])(td: ∀(w:World)(mg:Str->Option Value)(h base:Heap),(K w.params).In h->h.Ns mainGlobals mg->(K w.params).In base->g.wd.isEmpty=false->∃z st fT fC CA fdT fdC bmA wa,Td z ⟨K w.params,gQ ((g.lm.map (tOf (K w.params))).zip (g.lm.map lq))⟩ l.prog w mg base (λc=>g.wd.lookup c) st fT fC CA fdT fdC bmA wa)(hT: ∀ns:List Int,ns.length<=63->∃m,TTf g (kk+1) i [.scr ns] ⟨[],[]⟩= .ok (.bl true) m):
  W.WalkO q loose XP YP l.row.toRowW d [] (λf vs=>PySem.call f vs):=by
 refine L2.walk_ofTs (n:=63) (k:=8*(kk+1)) (x:= "_law_script") (ys:=g.lm) (CX:=λw=>CXE l.prog w) (sp:=λw aC=>spF ⟨K w.params,gQ ((aC.map (·.2)).zip (g.lm.map lq))⟩ (TTf g (kk+1) i)) hn (by decide) dZ hR hY a8 ?_ (λ_ _ _ a ns hl hO hS=>qq4 (hT ns hl) hO hS) λ_ _ _ _ _ ⟨_,_,_,_,_,_,_,z⟩=>z;intro w mg fa h X G hm;have D:=qki X G (S w).h1 (S w).h2;have hm0:(("law" :Str),sl)∈g.tb:=List.mem_filter.mpr ⟨Vt hs,by show qfW ("law" :Str)=true;decide+kernel⟩;obtain⟨j,hj⟩:=List.mem_iff_getElem?.mp hm0;obtain⟨f,oc,od,osl,kV,doc,pm,an,cdv,ct,lk,aI,kp,m,n0⟩:=D j _ _ hj;rw[hd] at hm;have e:=hm.symm.trans m;cases e;obtain⟨t1,t2,nd⟩:=qmB (S w).h5;have em:(qgl (K w.params) g.lm).map (·.2)=g.lm.map (tOf (K w.params)):=by unfold qgl;rw[List.map_map];rfl
 have hb:=List.all_eq_true.mp hok _ (Vt hs);have B:=qj7 hb;refine⟨W.fnOf "law" "law" (qao sl) (qay sl) (qad sl) .none kV doc pm an cdv ct,qgl (K w.params) g.lm,t1,t2,λs u=>.of_eq ?_,λbase KI _ hC iF=> ?_⟩
 ·have nd:(qfQ sl).Nodup:=by rw[hp];simp
  have hu:[u].length=(qfQ sl).length:=by rw[hp];rfl
  have hbs:=qbU (fd:=W.fnOf "law" "law" (qao sl) (qay sl) (qad sl) .none kV doc pm an cdv ct) (us:=[u]) B.po B.va B.ko B.kw rfl nd hu;rw[hbs];show pure ((qfQ sl).zip [u])=_;rw[hp];rfl
 ·rw[em];have kf:=qvn (P:=l.prog) (w:=w) X G (S w) hok dO KI iF (λy hy=>by
   have e1:some ((W.tabIn (K w.params) y).getD (0,0))=W.tabIn (K w.params) y:=by obtain⟨j,hj,ej⟩:=List.mem_iff_getElem.mp hy;have:=congrArg (λl=>l[j]?) t1;unfold qgl at this;simp only[List.getElem?_map,List.getElem?_eq_getElem hj,ej,Option.map_some] at this;exact(Option.some.inj this).symm
   exact⟨((W.tabIn (K w.params) y).getD (0,0)).1,e1.symm,hC _ (List.mem_map.mpr ⟨y,hy,rfl⟩)⟩) nd (td w mg h base X G KI)
  obtain⟨f',fd',F',m',lk'⟩:=kf.fn "law" i sl hi (by decide+kernel) hs;have ef:f'=fa:=by rw[m] at m';cases m';rfl
  subst ef;have F:=qff lk aI kp;obtain⟨oc2,od2,jd,f9,i5,jP,gc,jL,gZ,rfl,g8,_⟩:=F'.ex;have e2:=lk.symm.trans g8;have e3:W.fnOf "law" "law" (qao sl) (qay sl) (qad sl) .none kV doc pm an cdv ct=W.fnOf "law" "law" (qao sl) (qay sl) (qad sl) .none jd f9 i5 jP gc jL:=by
   injection e2 with e2
   injection e2 with _ _ e2
   injection e2
  rw[e3];have:=qsK (i:=i) lk' (qnt kf kk) F' hb hs;rw[hp] at this;exact this
open PL
theorem que{z:Str}(nz:(z==("__debug__" :Str))=false/\(z==("__classdict__" :Str))=false)(M:Md)(hM:M.K=K)(be:qqL K mg)(KI:K.In base)(T:qkN z st)(D:Df K mg "_law_told" st)(D2:Df K mg "_law_class" st2)(hb: ∀(kV doc pm:Value)(an:Option Addr)(cdv ct:Value)(us:List Value),us.length=1->bindArgs (W.fnOf "_law_told" "_law_told" (qao st) (qay st) (qad st) .none kV doc pm an cdv ct) ⟨us,[]⟩=pure (([z]:List Str).zip us))(d8: ∀(kV doc pm:Value)(an:Option Addr)(cdv ct:Value)(us:List Value),us.length=1->bindArgs (W.fnOf "_law_class" "_law_class" (qao st2) (qay st2) (qad st2) .none kV doc pm an cdv ct) ⟨us,[]⟩=pure ((["_law_kept"]:List Str).zip us))(ok: ∀{f:Addr}{fd:FuncData},Fun K "_law_class" "_law_class" st2 f fd->FnN P w K mg base 1 f fd ["_law_kept"] (qhP base (qnW K)))(hw: ∀c x,wd c=some x->qub c=some x):
  ∃z st fT fC CA fdT fdC bmA wa,Td z M P w mg base wd st fT fC CA fdT fdC bmA wa:=by obtain⟨f,oc,od,osl,kV,doc,pm,an,cdv,ct,lk,aI,kp,m, -⟩:=D;have F:=qff lk aI kp;obtain⟨f2,oc2,od2,gZ,jd,f9,i5,jP,gc,jL,g8,iE,c8,m2, -⟩:=D2;have F2:=qff g8 iE c8;subst hM;refine⟨z,st,_,_,_,_,_,_,qnW M.K,T,F,nz,m,F.binds hb,be.a,qcb KI be.ea,ok F2,m2,c8,F2.binds d8,λc x h=> ?_⟩;obtain⟨j,hj,rfl,rfl⟩:=qk3 (hw c x h);exact⟨_,qcb KI (be.e j hj),by simp,qnV be hj⟩
theorem walkT{z:Str}{l:W.OpenLaw}{q:Program}{loose:List Str}{XP:(Str->Option Value)->Heap->Prop}{YP:World->Heap->Prop}{d:DefRec}{K:Params->W.Frag}{g:Gx}{kk i i1 i2:Nat}{sl st st2:Stmt}(hn:l.most=some 63)(dZ:d.params.defaults=[])(hd:d.name= "law")(hY: ∀(w:World)(h:Heap),YP w h->(K w.params).In h)(a8: ∀y∈g.lm,∃dx,(PyProof.Rows.recsOf q).find? (λe=>e.name==y)=some dx)(hR:qa7 (8*(kk+1)) callerA)(S: ∀w:World,qwi (K w.params) g w)(hok:(g.fs.all λp=>qfj p.2)=true)(dO:g.lm.all qfW=true)(hi:g.fi "law" =some i)(hs:g.fs[i]? =some (("law" :Str),sl))(hp:qfQ sl=[("_law_script" :Str)])(nz:(z==("__debug__" :Str))=false/\(z==("__classdict__" :Str))=false)(zb: ∀w:World,exB (K w.params)=true)(v: ∀w:World,okN (K w.params) "ValueError" =true)(h1:g.tb[i1]? =some (("_law_told" :Str),st))(h2:g.tb[i2]? =some (("_law_class" :Str),st2))(T:qkN z st)(hb: ∀(kV doc pm:Value)(an:Option Addr)(cdv ct:Value)(us:List Value),us.length=1->bindArgs (W.fnOf "_law_told" "_law_told" (qao st) (qay st) (qad st) .none kV doc pm an cdv ct) ⟨us,[]⟩=pure (([z]:List Str).zip us))(d8: ∀(kV doc pm:Value)(an:Option Addr)(cdv ct:Value)(us:List Value),us.length=1->bindArgs (W.fnOf "_law_class" "_law_class" (qao st2) (qay st2) (qad st2) .none kV doc pm an cdv ct) ⟨us,[]⟩=pure ((["_law_kept"]:List Str).zip us))(ok: ∀{P:Program}{w:World}{K:W.Frag}{mg:Str->Option Value}{base:Heap}{f:Addr}{fd:FuncData},Fun K "_law_class" "_law_class" st2 f fd->qqL K mg->mg "isinstance" =none->mg "ValueError" =none->FnN P w K mg base 1 f fd ["_law_kept"] (qhP base (qnW K)))(hw:(g.wd.all λp=>qub p.1==some p.2)=true)(hT: ∀ns:List Int,ns.length<=63->∃m,TTf g (kk+1) i [.scr ns] ⟨[],[]⟩= .ok (.bl true) m):
  W.WalkO q loose XP YP l.row.toRowW d [] (λf vs=>PySem.call f vs):=
 qt8 hn dZ hd hY a8 hR S hok dO hi hs hp (λw mg h base X G KI _=>by
  have D:=qki X G (S w).h1 (S w).h2;have be:=qpC X G (zb w);exact que nz _ rfl be KI T (D i1 _ _ h1) (D i2 _ _ h2) hb d8 (λF=>ok F be (qoX X G (S w).h4 _ (by decide)) (qoX (l:=["ValueError"]) X G (by simp[v w]) _ (by simp))) λc x h=>eq_of_beq (List.all_eq_true.mp hw _ (Vu h))) hT
end NV
namespace K87
open PySem
abbrev s_20:Stmt:=top 60
abbrev s_26:Stmt:=top 61
open L2 PL HD
section
variable{P:Program}{w:World}{K:W.Frag}{mg:Str->Option Value}{base:Heap}
theorem qqh:bootBuiltins "ValueError" =some (.type "ValueError"):=by decide+kernel
theorem qkT{D:Addr}: ∀u,RelV (.ref D) u->u=Value.ref D:=λu r=>r
theorem qxr{n:String}: ∀u,RelV (.ty n) u->u=Value.type n:=λu r=>r
theorem qgL:qby ["_law_kept", "_law_kinds", "_law_some"] ["_law_kept"] (qad s_20):=by trivial
theorem told_tx:qkN "_law_deed_here" s_26:=⟨⟨rfl,rfl,rfl,by decide+kernel,rfl,by decide+kernel,by decide+kernel⟩,⟨_,_,_,_,_,_,_,_,_,_,rfl⟩,rfl,rfl,rfl,rfl⟩
abbrev wV:List V:=[V.str "ended",V.str "full",V.str "no ask",V.str "no back",V.str "no name",V.str "no number",V.str "no row",V.str "no text",V.str "too late",V.str "unlike"]
theorem qrC: ∀j<10,([0==j,1==j,2==j,3==j,4==j,5==j,6==j,7==j,8==j,9==j]:List Bool)[j]? =some true/\(∀i,i<j->([0==j,1==j,2==j,3==j,4==j,5==j,6==j,7==j,8==j,9==j]:List Bool)[i]? =some (!true))/\([0==j,1==j,2==j,3==j,4==j,5==j,6==j,7==j,8==j,9==j]:List Bool).countP (· ==true)=1/\wV[j]? =some (.str (qqv.getD j "")):=by
 intro j hj;have:j=0\/j=1\/j=2\/j=3\/j=4\/j=5\/j=6\/j=7\/j=8\/j=9:=by omega
 rcases this with rfl|rfl|rfl|rfl|rfl|rfl|rfl|rfl|rfl|rfl<;>refine⟨rfl,?_,rfl,rfl⟩<;>decide
theorem qru{X:Cx}{b c t}(h:b=c)(k:PSs X c t):PSs X b t:=h▸k
theorem pas{X:Cx}{z j p es t}(h:PA X es t):PA X (.Constant (.str z) j p::es) (qeA (tC (.str z)) t):=qaS qg1 h
abbrev isR(X:Cx):List V->Hp->VK->Prop:=λxs H Q=> ∃a C bm y c b,xs=[.ref a,y]/\H a=some (ExO a C)/\qdi X.base C bm/\(W.clsIn X.K C).isSome=true/\(∀u,RelV y u->u=c)/\W.kitOne X.K (.ref C) c=some b/\Q (.bl b) H
theorem isx{X:Cx}{x y:Str}{v:V}{p q r s:Pos}(i:X.mg "isinstance" =none)(g:Gl X "isinstance")(hN:X.N[0]? =some y)(hv:Vis X.env.scope y)(h1:(y==("__debug__" :Str))=false)(h2:(y==("__classdict__" :Str))=false)(he:PE X (.Name x r) (tC v)):PE X (.Call (.Name "isinstance" p) [.Name y q,.Name x r] [] s) (tCB (isR X) (qeA (qqw 0) (qeA (tC v) qqx))):=qaP qfA g i PyProof.Rows.boot_isinstance (qaS (pv 0 hN hv h1 h2) (qaS he qbn))
theorem isc{X:Cx}{x y:Str}{A:Addr}{p q r s:Pos} {es t} (h:X.mg "isinstance" =none/\Gl X "isinstance" /\X.N[0]? =some y/\Vis X.env.scope y/\(y==("__debug__" :Str))=false/\(y==("__classdict__" :Str))=false/\Gl X x/\X.mg x=some (.ref A)/\(x==("__debug__" :Str))=false) (hr:PA X es t):PA X (.Call (.Name "isinstance" p) [.Name y q,.Name x r] [] s::es) (qeA (tCB (isR X) (qeA (qqw 0) (qeA (tC (.ref A)) qqx))) t):=
 have ⟨i,g,hN,hv,h1,h2,h3,hm,hd⟩:=h
 qaS (isx i g hN hv h1 h2 (qb9 h3 hm rfl hd)) hr
theorem ok_class{f:Addr}{fd:FuncData}(F:Fun K "_law_class" "_law_class" s_20 f fd)(be:qqL K mg)(i1:mg "isinstance" =none)(v1:mg "ValueError" =none):FnN P w K mg base 1 f fd ["_law_kept"] (qhP base (qnW K)):=by
 refine qsL F qgL (λvs H Q h=> ?_) (λcdv A outer s H vs Q hr h=> ?_)
 ·obtain⟨a,C,bm,x,rfl,_⟩:=h;rfl
 ·obtain⟨a,C,bm,x,rfl,ha,hX,hw,q⟩:=h;obtain⟨j,hj,rfl,rfl⟩:=qgE hw;have nd:=qgL.nd;have hc:=be.c j hj;have k:=be.k j hj;have m0:mg "Ended" =some (.ref (clOf K "Ended")):=be.m 0 (by decide);have m1:mg "Full" =some (.ref (clOf K "Full")):=be.m 1 (by decide);have m2:mg "NoAsk" =some (.ref (clOf K "NoAsk")):=be.m 2 (by decide);have m3:mg "NoBack" =some (.ref (clOf K "NoBack")):=be.m 3 (by decide);have m4:mg "NoName" =some (.ref (clOf K "NoName")):=be.m 4 (by decide);have m5:mg "NoNumber" =some (.ref (clOf K "NoNumber")):=be.m 5 (by decide);have m6:mg "NoRow" =some (.ref (clOf K "NoRow")):=be.m 6 (by decide);have m7:mg "NoText" =some (.ref (clOf K "NoText")):=be.m 7 (by decide);have m8:mg "TooLate" =some (.ref (clOf K "TooLate")):=be.m 8 (by decide);have m9:mg "Unlike" =some (.ref (clOf K "Unlike")):=be.m 9 (by decide);refine⟨_,@qru _ _ _ _ (rfl:_=_::_::_::_::_::_::[]) (@qbD _ _ _ _ _ (@qeQ _ _ 1 _ _ _ _ nd (by exact rfl) (by exact .inl rfl) (@qeT _ _ _ _ (isc (by exact⟨i1,rfl,rfl,Or.inl rfl,rfl,rfl,rfl,m0,rfl⟩) (isc (by exact⟨i1,rfl,rfl,Or.inl rfl,rfl,rfl,rfl,m1,rfl⟩) (isc (by exact⟨i1,rfl,rfl,Or.inl rfl,rfl,rfl,rfl,m2,rfl⟩) (isc (by exact⟨i1,rfl,rfl,Or.inl rfl,rfl,rfl,rfl,m3,rfl⟩) qbn))))) (by exact rfl) (by exact .inl rfl)) (@qbD _ _ _ _ _ (@qeQ _ _ 1 _ _ _ _ nd (by exact rfl) (by exact .inl rfl) (@qoC _ _ _ _ _ _ _ _ qjf (@pv _ 1 _ _ (by exact rfl) (by exact .inl rfl) (by exact rfl) (by exact rfl)) (@qeT _ _ _ _ (isc (by exact⟨i1,rfl,rfl,Or.inl rfl,rfl,rfl,rfl,m4,rfl⟩) (isc (by exact⟨i1,rfl,rfl,Or.inl rfl,rfl,rfl,rfl,m5,rfl⟩) (isc (by exact⟨i1,rfl,rfl,Or.inl rfl,rfl,rfl,rfl,m6,rfl⟩) qbn))))) (by exact rfl) (by exact .inl rfl)) (@qbD _ _ _ _ _ (@qeQ _ _ 1 _ _ _ _ nd (by exact rfl) (by exact .inl rfl) (@qoC _ _ _ _ _ _ _ _ qjf (@pv _ 1 _ _ (by exact rfl) (by exact .inl rfl) (by exact rfl) (by exact rfl)) (@qeT _ _ _ _ (isc (by exact⟨i1,rfl,rfl,Or.inl rfl,rfl,rfl,rfl,m7,rfl⟩) (isc (by exact⟨i1,rfl,rfl,Or.inl rfl,rfl,rfl,rfl,m8,rfl⟩) (isc (by exact⟨i1,rfl,rfl,Or.inl rfl,rfl,rfl,rfl,m9,rfl⟩) qbn))))) (by exact rfl) (by exact .inl rfl)) (@qbD _ _ _ _ _ (@qrw _ _ _ _ _ _ _ _ (@PW.pt _ _ _ (@qrq _ _ _ _ _ _ _ (@qdZ _ _ _ _ _ _ _ _ qu3 (@qoH _ _ _ _ _ _ _ _ _ _ _ _ PySem.F.plainAttrs_list PySem.F.slot_list_count PySem.F.type_list_count qjm (@pv _ 1 _ _ (by exact rfl) (by exact .inl rfl) (by exact rfl) (by exact rfl)) (@qaS _ _ _ _ _ qoI qbn (by exact rfl)) (by exact rfl) (by exact rfl) (by exact rfl) (by exact rfl) (by exact rfl)) qnj (qr8 _)) (@qnf _ _ _ _ (@qni _ _ _ _ (@qnh _ _ _ (isx (v:=.ty "ValueError") (by exact i1) (by exact rfl) (by exact rfl) (by exact .inl rfl) (by exact rfl) (by exact rfl) (@qi6 _ _ _ _ _ (by exact rfl) (by exact v1) qqh (by exact rfl) (by decide) (by exact rfl))) (by intro _;rfl)))))) (@qcQ _ _ _ (@qeR _ _ _ _ qg1)) qi0) (@qbD _ _ _ _ _ (@qeQ _ _ 2 _ _ _ _ nd (by exact rfl) (by exact .inl rfl) (@qeT _ _ _ _ (pas (pas (pas (pas (pas (pas (pas (pas (pas (pas qbn))))))))))) (by exact rfl) (by exact .inl rfl)) (@qcQ _ _ _ (@qeR _ _ _ _ (@qrI _ _ _ _ _ _ _ qjC (@pv _ 2 _ _ (by exact rfl) (by exact .inl rfl) (by exact rfl) (by exact rfl)) (@qoH _ _ _ _ _ _ _ _ _ _ _ _ PySem.F.plainAttrs_list PySem.F.slot_list_index PySem.F.type_list_index qjl (@pv _ 1 _ _ (by exact rfl) (by exact .inl rfl) (by exact rfl) (by exact rfl)) (@qaS _ _ _ _ _ qoI qbn (by exact rfl)) (by exact rfl) (by exact rfl) (by exact rfl) (by exact rfl) (by exact rfl)) (λ_ _=>rfl))))))))),?_⟩;have new: ∀{H:Hp}{l:Addr}{o:HO},H l=none->∀b u,H b=some u->upd H l o b=some u:=λh b u e=>by rw[qab (qak e h)];exact e
  refine⟨_,rfl,a,_,bm,_,_,_,rfl,ha ,hX,hc,qkT,k 0 (by decide),_,rfl,a,_,bm,_,_,_,rfl,ha ,hX,hc,qkT,k 1 (by decide),_,rfl,a,_,bm,_,_,_,rfl,ha ,hX,hc,qkT,k 2 (by decide),_,rfl,a,_,bm,_,_,_,rfl,ha ,hX,hc,qkT,k 3 (by decide),by show 4<=sizeLine;decide,λl hl=> ?_⟩;have s1: ∀b u,H b=some u->upd H l (.lst [V.bl (0==j),V.bl (1==j),V.bl (2==j),V.bl (3==j)]) b=some u:=new hl;generalize hH1:upd H l (.lst [V.bl (0==j),V.bl (1==j),V.bl (2==j),V.bl (3==j)])=H1 at s1⊢;have l1:H1 l=some (.lst [V.bl (0==j),V.bl (1==j),V.bl (2==j),V.bl (3==j)]):=by rw[<-hH1];exact qaf
  have gR:=s1 _ _ ha;refine⟨_,rfl,_,rfl,a,_,bm,_,_,_,rfl,gR ,hX,hc,qkT,k 4 (by decide),_,rfl,a,_,bm,_,_,_,rfl,gR ,hX,hc,qkT,k 5 (by decide),_,rfl,a,_,bm,_,_,_,rfl,gR ,hX,hc,qkT,k 6 (by decide),by show 3<=sizeLine;decide,λm hm=> ?_⟩;have s2: ∀b u,H1 b=some u->upd H1 m (.lst [V.bl (4==j),V.bl (5==j),V.bl (6==j)]) b=some u:=new hm;generalize jA:upd H1 m (.lst [V.bl (4==j),V.bl (5==j),V.bl (6==j)])=H2 at s2⊢;have m2:H2 m=some (.lst [V.bl (4==j),V.bl (5==j),V.bl (6==j)]):=by rw[<-jA];exact qaf
  refine⟨l,m,_,_,rfl,rfl,s2 _ _ l1,m2,by show 7<=sizeLine;decide,λl' cD=> ?_⟩;have s3: ∀b u,H2 b=some u->upd H2 l' (.lst ([V.bl (0==j),V.bl (1==j),V.bl (2==j),V.bl (3==j)]++[V.bl (4==j),V.bl (5==j),V.bl (6==j)])) b=some u:=new cD;generalize fW:upd H2 l' (.lst ([V.bl (0==j),V.bl (1==j),V.bl (2==j),V.bl (3==j)]++[V.bl (4==j),V.bl (5==j),V.bl (6==j)]))=H3 at s3⊢;have l3:H3 l'=some (.lst ([V.bl (0==j),V.bl (1==j),V.bl (2==j),V.bl (3==j)]++[V.bl (4==j),V.bl (5==j),V.bl (6==j)])):=by rw[<-fW];exact qaf
  have gP:=s3 _ _ (s2 _ _ gR);refine⟨_,rfl,_,rfl,a,_,bm,_,_,_,rfl,gP ,hX,hc,qkT,k 7 (by decide),_,rfl,a,_,bm,_,_,_,rfl,gP ,hX,hc,qkT,k 8 (by decide),_,rfl,a,_,bm,_,_,_,rfl,gP ,hX,hc,qkT,k 9 (by decide),by show 3<=sizeLine;decide,λn hn=> ?_⟩;have s4: ∀b u,H3 b=some u->upd H3 n (.lst [V.bl (7==j),V.bl (8==j),V.bl (9==j)]) b=some u:=new hn;generalize hH4:upd H3 n (.lst [V.bl (7==j),V.bl (8==j),V.bl (9==j)])=H4 at s4⊢;have n4:H4 n=some (.lst [V.bl (7==j),V.bl (8==j),V.bl (9==j)]):=by rw[<-hH4];exact qaf
  refine⟨l',n,_,_,rfl,rfl,s4 _ _ l3,n4,by show 10<=sizeLine;decide,λp hp=> ?_⟩;have s5: ∀b u,H4 b=some u->upd H4 p (.lst ([V.bl (0==j),V.bl (1==j),V.bl (2==j),V.bl (3==j)]++[V.bl (4==j),V.bl (5==j),V.bl (6==j)]++[V.bl (7==j),V.bl (8==j),V.bl (9==j)])) b=some u:=new hp;generalize hH5:upd H4 p (.lst ([V.bl (0==j),V.bl (1==j),V.bl (2==j),V.bl (3==j)]++[V.bl (4==j),V.bl (5==j),V.bl (6==j)]++[V.bl (7==j),V.bl (8==j),V.bl (9==j)]))=H5 at s5⊢;have p5:H5 p=some (.lst (([0==j,1==j,2==j,3==j,4==j,5==j,6==j,7==j,8==j,9==j]:List Bool).map V.bl)):=by rw[<-hH5];exact qaf
  have aH5:=s5 _ _ (s4 _ _ gP);obtain⟨c1,c2,c4,c3⟩:=qrC j hj;refine⟨_,rfl,.inl ⟨rfl,_,SqL.of p5⟩,p,_,true,rfl,rfl,p5,rfl,_,rfl,?_⟩;rw[c4];refine qvr ?_;refine⟨_,rfl,a,_,bm,_,_,_,rfl,aH5,hX,hc,qxr,be.v j hj,_,rfl,?_⟩;refine qvr ?_;refine⟨by show 10<=sizeLine;decide,λr hr=> ?_⟩;have s6: ∀b u,H5 b=some u->upd H5 r (.lst wV) b=some u:=new hr;refine⟨_,rfl,_,rfl,.inl ⟨rfl,_,SqL.of (s6 _ _ p5)⟩,p,_,true,j,rfl,rfl,s6 _ _ p5,by show 10<=1000;decide,c1,c2,r,_,_,_,rfl,rfl,SqL.of qaf,qqo c3,?_⟩;exact q _ λb u e=>s6 _ _ (s5 _ _ (s4 _ _ (s3 _ _ (s2 _ _ (s1 _ _ e)))))
end
end K87
section
open PySem PySem.W PyProof.Rows
set_option maxRecDepth 100000 in
set_option maxHeartbeats 0 in
theorem K87.said:PySem.Challenge.rw_rowasks_k87_whole_desks_back.wellSaid=true:=by kernel_rfl
set_option maxRecDepth 100000 in
set_option maxHeartbeats 0 in
theorem PySem.Challenge.cw_rowasks_k87_whole_desks_back_holds : PySem.Challenge.rw_rowasks_k87_whole_desks_back.Holds := by
 w_on
 refine holds_law K87.said ?_;intro said;refine holds_open (q:=K87.vq) (loose:=K87.lo) (Xt:=K87.xt) (XP:=XL K87.vq []) (Yf:=Hook.obs K87.hk) (Ya:=Hook.val K87.hk) (YP:=Hook.says K87.hk) (N:=20000) (FR.left_fp "special-get-raises" K87.rXF K87.rYF K87.rXT K87.rYT) (Hook.of K87.hk) (Hook.keeps K87.hk) (λs e=>xl_of s (Bool.and_eq_true_iff.mp e).1) XL.keeps (by rfl) (by rfl) (by rfl) (λs e=>recFacts_of (Bool.and_eq_true_iff.mp e).2) (by rfl) (by first|assumption|decide+kernel) (by decide+kernel) ⟨rfl,rfl,rfl,rfl,rfl,by decide+kernel⟩ ?hw ?hc
 (case hw=>w_witness2)
 k_fill
 refine' NV.walkT (l:=PySem.Challenge.rw_rowasks_k87_whole_desks_back) (g:=K87.gx) (kk:=7) (i:=51) (i1:=32) (i2:=31) (st:=K87.s_26) (st2:=K87.s_20) rfl rfl rfl (λw h Y=>Y.1) ?_ ⟨rfl,by decide,by decide⟩ (λw=>⟨by kernel_rfl,by kernel_rfl,by kernel_rfl,by kernel_rfl,by kernel_rfl,by kernel_rfl,by kernel_rfl,by kernel_rfl,by kernel_rfl,by kernel_rfl,by kernel_rfl⟩) (by kernel_rfl) (by kernel_rfl) (by kernel_rfl) rfl rfl ⟨by decide,by decide⟩ (λw=>by kernel_rfl) (λw=>by kernel_rfl) (by kernel_rfl) (by kernel_rfl) K87.told_tx (λ_ _ _ _ _ _ us hl=>by obtain⟨a,e⟩:=PL.len1 hl;subst e;rfl) (λ_ _ _ _ _ _ us hl=>by obtain⟨a,e⟩:=PL.len1 hl;subst e;rfl) (λF be i v=>K87.ok_class F be i v) (by kernel_rfl) (λns hl=>K87.law_true ns);intro y hy;have hy:y∈K87.gx.lm:=hy;simp only[K87.gx,List.mem_append,List.mem_cons,List.not_mem_nil,or_false,false_or] at hy
 rcases hy with rfl|rfl<;>exact⟨_,rfl⟩
end
