import PyProof.Rows.All
import Wide.All
import OpenK.AllK
import Wide.FinOn
import Lean
import PyProof.EqAt
import PyProof.EqKinds
import PyProof.TupleCall
import KE.KSortTup
import KE.KSortKey
import PyProof.ExcBaseAll.ValueError
import PyProof.ExcAttrAll.ValueError
import KE.KTryOn
import OpenK.KOwn
import PyProof.NeData
import PyProof.SetKind
import PyProof.Rows.SetFrom
import PyProof.CollectWalk
import KE.KNest
import PyProof.FString5
import KE.KDictList
import KE.KDictSum
import PyProof.WalksEnum
import PyProof.EnumMake
import PyProof.Draws
import PyProof.WalksMore
import PyProof.AutoSeq1
import PyProof.ListMulRoad
import PyProof.FactsAll.tuple_2
import KE.KDictOf
import KE.KDictLaws
import PySem.Challenge.RW_rowasks_k89_desks_refused
set_option Elab.async false
set_option linter.all false
set_option genSizeOf false
noncomputable section
set_option maxRecDepth 100000
set_option maxHeartbeats 8000000
local macro_rules|`(tactic| trivial)=> `(tactic| first|exact Or.inl rfl|exact Or.inr rfl|exact⟨rfl,rfl,rfl,by decide+kernel,rfl,by decide+kernel,by decide+kernel⟩|(intro p hp;simp only[List.mem_cons,List.not_mem_nil,or_false] at hp;subst hp;exact⟨rfl,rfl⟩))
section
open PySem PySem.Spec PyProof.Rows
abbrev Va:=@wpAny_bind
abbrev Vb:=@wpAny_pure
abbrev Vc:=@wpAny_mono
abbrev Vd:=@wpAny_truthy_bool
abbrev Ve:=@wpAny_loadPart_at
abbrev Vf:=@wpAny_Call_Name_kw
abbrev Vg:=@wpAny_pyIter_list
abbrev Vh:=@Heap.get?_push_of_some
abbrev Vi:=@Heap.get?_push_size
abbrev Vj:=@Heap.lt_size
abbrev Vk:=@List.mem_cons_self
abbrev Vl:=@List.mem_cons_of_mem
abbrev Vm:=@Nat.le_refl
abbrev Vn:=@Nat.lt_of_lt_of_le
abbrev Vo:=@Nat.ne_of_lt
abbrev Vp:=@Nat.le_of_lt
abbrev Vq:=@Nat.le_trans
abbrev Vr:=@Bool.false_ne_true
abbrev Vs:=@List.mem_append_left
abbrev Vt:=@List.mem_append_right
abbrev Vu:=@List.mem_of_getElem?
abbrev Vv:=@PySem.mem_of_lookup
abbrev Vw:=@decide_eq_false
abbrev Vx:=@List.getElem?_eq_getElem
abbrev Vy:=@call_meets
abbrev Vz:=@Nat.lt_succ_self
end
namespace HD
open PySem PySem.W
noncomputable def qu4:Stmt->Bool
 |.Assign (targets:=[.Name x _]) .. =>x== "__name__"
 |_=>false
noncomputable def vw(p:Program):Program:={ p with main:={ p.main with body:=p.main.body.filter λs=> !qu4 s } }
theorem qkE (row:String) (hf: ∀w:World,((fencedOpening treeTable p w N).bind (topFrom treeTable p (w.withFollow row false) N)).map (λs=>(openSeen q loose (importedModules p.main.body) Xt true s,Yf s))=some (openGood q loose,Ya (w.withFollow row false))) (ht: ∀w:World,((fencedOpening treeTable p w N).bind (topFrom treeTable p (w.withFollow row true) N)).map (λs=>(openSeen q loose (importedModules p.main.body) Xt true s,Yf s))=some (openGood q loose,Ya (w.withFollow row true))):
  LeftO p q loose Xt Yf Ya N:=λw=>by
 have e:=World.withFollow_self w row;unfold openEnds;cases hb:w.params.followText row<;>rw[hb] at e
 ·have:=hf w;rw[e] at this;exact this
 ·have:=ht w;rw[e] at this;exact this
noncomputable def qot(p:Program)(row:String)(N:Nat)(b:Bool)(w:World):Option Shared:=(fencedOpening treeTable p w N).bind (topFrom treeTable p (w.withFollow row b) N)
noncomputable def qkD(p q:Program)(loose:List Str)(Xt:Shared->Bool)(s:Shared):=openSeen q loose (importedModules p.main.body) Xt true s
noncomputable def qlE(p q:Program)(loose:List Str)(Xt:Shared->Bool)(row:String)(N:Nat)(b:Bool):Prop:= ∀w:World,(qot p row N b w).map (λs=>(qkD p q loose Xt s).2)=some (openGood q loose).2
noncomputable def qlD(p q:Program)(loose:List Str)(Xt:Shared->Bool)(H:Hook)(row:String)(N:Nat)(b:Bool):Prop:= ∀w:World,(qot p row N b w).map (λs=>((qkD p q loose Xt s).1,H.obs s))=some ((openGood q loose).1,H.val (w.withFollow row b))
theorem parts (hx:qlE p q loose Xt row N b) (hy:qlD p q loose Xt H row N b):
  ∀w:World,((fencedOpening treeTable p w N).bind (topFrom treeTable p (w.withFollow row b) N)).map (λs=>(openSeen q loose (importedModules p.main.body) Xt true s,Hook.obs H s))=some (openGood q loose,Hook.val H (w.withFollow row b)):=λw=>by
 have hx:=hx w;have hy:=hy w;have e:((fencedOpening treeTable p w N).bind (topFrom treeTable p (w.withFollow row b) N))=qot p row N b w:=rfl;rw[e];cases r:qot p row N b w with
 |none=>rw[r] at hx;cases hx
 |some s=>rw[r] at hx hy;have y:=Prod.mk.inj (Option.some.inj hy);exact congrArg some (Prod.ext (Prod.ext y.1 (Option.some.inj hx)) y.2)
theorem qhy (row:String) (x0:qlE p q loose Xt row N false) (y0:qlD p q loose Xt H row N false) (x1:qlE p q loose Xt row N true) (y1:qlD p q loose Xt H row N true):
  LeftO p q loose Xt (Hook.obs H) (Hook.val H) N:=qkE row (parts x0 y0) (parts x1 y1)
end HD
namespace FR
open PySem PySem.W
inductive Tr where
 |e
 |n (l:Tr) (o:Obj) (r:Tr)
noncomputable def Tr.get:Tr->Nat->Option Obj
 |.e,_=>none
 |.n l o r,a=>match Nat.beq a 0 with
  |true=>some o
  |false=>match Nat.beq (a % 2) 1 with
   |true=>l.get (a / 2)
   |false=>r.get (a / 2 - 1)
noncomputable def Tr.mod:Tr->Nat->(Obj->Obj)->Tr
 |.e,_,_=>.e
 |.n l o r,a,f=>match Nat.beq a 0 with
  |true=>.n l (f o) r
  |false=>match Nat.beq (a % 2) 1 with
   |true=>.n (l.mod (a / 2) f) o r
   |false=>.n l o (r.mod (a / 2 - 1) f)
noncomputable def Tr.put:Tr->Nat->Obj->Tr
 |.e,_,o=>.n .e o .e
 |.n l v r,a,o=>match Nat.beq (a % 2) 1 with
  |true=>.n (l.put (a / 2) o) v r
  |false=>.n l v (r.put (a / 2 - 1) o)
theorem bf(h:a≠b):Nat.beq a b=false:=by
 cases q:Nat.beq a b with
 |false=>rfl
 |true=>exact absurd (Nat.eq_of_beq_eq_true q) h
theorem qbY:(Tr.n l o r).get a=if a=0 then some o else if a % 2=1 then l.get (a / 2) else r.get (a / 2 - 1):=by
 show(match Nat.beq a 0 with|true=>some o|false=>match Nat.beq (a % 2) 1 with|true=>l.get (a / 2)|false=>r.get (a / 2 - 1))=_;by_cases h:a=0
 ·subst h;rfl
 ·rw[if_neg h,bf h];by_cases h2:a % 2=1
  ·rw[if_pos h2,h2]
  ·rw[if_neg h2,bf h2]
theorem qsz:(Tr.n l o r).mod a f=if a=0 then .n l (f o) r else if a % 2=1 then .n (l.mod (a / 2) f) o r else .n l o (r.mod (a / 2 - 1) f):=by
 show(match Nat.beq a 0 with|true=>_|false=>match Nat.beq (a % 2) 1 with|true=>_|false=>_)=_;by_cases h:a=0
 ·subst h;rfl
 ·rw[if_neg h,bf h];by_cases h2:a % 2=1
  ·rw[if_pos h2,h2]
  ·rw[if_neg h2,bf h2]
theorem qsb:(Tr.n l v r).put a o=if a % 2=1 then .n (l.put (a / 2) o) v r else .n l v (r.put (a / 2 - 1) o):=by
 show(match Nat.beq (a % 2) 1 with|true=>_|false=>_)=_;by_cases h2:a % 2=1
 ·rw[if_pos h2,h2]
 ·rw[if_neg h2,bf h2]
theorem qf7: ∀(t:Tr) (a i:Nat),(t.mod a f).get i=if i=a then(t.get i).map f else t.get i
 |.e,a,i=>by
  show none=_
  split<;>rfl
 |.n l o r,a,i=>by
  rw[qsz];by_cases h:a=0
  ·subst h;rw[if_pos rfl,qbY,qbY];by_cases h1:i=0
   ·rw[if_pos h1,if_pos h1,if_pos h1];rfl
   ·rw[if_neg h1,if_neg h1,if_neg h1]
  ·rw[if_neg h];by_cases h2:a % 2=1
   ·rw[if_pos h2,qbY,qbY];by_cases h1:i=0
    ·rw[if_pos h1,if_pos h1,if_neg (by omega)]
    ·rw[if_neg h1,if_neg h1];by_cases h3:i % 2=1
     ·rw[if_pos h3,if_pos h3,qf7 l (a / 2) (i / 2)];by_cases h4:i=a
      ·rw[if_pos h4,if_pos (by omega)]
      ·rw[if_neg h4,if_neg (by omega)]
     ·rw[if_neg h3,if_neg h3,if_neg (by omega)]
   ·rw[if_neg h2,qbY,qbY];by_cases h1:i=0
    ·rw[if_pos h1,if_pos h1,if_neg (by omega)]
    ·rw[if_neg h1,if_neg h1];by_cases h3:i % 2=1
     ·rw[if_pos h3,if_pos h3,if_neg (by omega)]
     ·rw[if_neg h3,if_neg h3,qf7 r (a / 2 - 1) (i / 2 - 1)];by_cases h4:i=a
      ·rw[if_pos h4,if_pos (by omega)]
      ·rw[if_neg h4,if_neg (by omega)]
theorem qf6: ∀(t:Tr) (a i:Nat),(∀k<a,(t.get k).isSome=true)->t.get a=none->(t.put a o).get i=if i=a then some o else t.get i
 |.e,a,i,hf,_=>by
  have h0:a=0:=by
   cases a with
   |zero=>rfl
   |succ a=>exact absurd (hf 0 (Nat.succ_pos _)) (by simp[Tr.get])
  subst h0;show(Tr.n .e o .e).get i=_;rw[qbY];by_cases h:i=0
  ·rw[if_pos h,if_pos h]
  ·rw[if_neg h,if_neg h]
   split<;>rfl
 |.n l v r,a,i,hf,hn=>by
  have ha:a≠0:=λz=>by subst z;rw[qbY,if_pos rfl] at hn;cases hn
  have g:=λk hk=>hf k hk;rw[qbY,if_neg ha] at hn;rw[qsb];by_cases h2:a % 2=1
  ·rw[if_pos h2] at hn;rw[if_pos h2,qbY,qbY];by_cases h1:i=0
   ·rw[if_pos h1,if_pos h1,if_neg (by omega)]
   ·rw[if_neg h1,if_neg h1];by_cases h3:i % 2=1
    ·rw[if_pos h3,if_pos h3,qf6 l (a / 2) (i / 2) (λk hk=>by
      have:=hf (2*k+1) (by omega);rw[qbY,if_neg (by omega),if_pos (by omega),show(2*k+1) / 2=k by omega] at this;exact this) hn]
     by_cases h4:i=a
     ·rw[if_pos h4,if_pos (by omega)]
     ·rw[if_neg h4,if_neg (by omega)]
    ·rw[if_neg h3,if_neg h3,if_neg (by omega)]
  ·rw[if_neg h2] at hn;rw[if_neg h2,qbY,qbY];by_cases h1:i=0
   ·rw[if_pos h1,if_pos h1,if_neg (by omega)]
   ·rw[if_neg h1,if_neg h1];by_cases h3:i % 2=1
    ·rw[if_pos h3,if_pos h3,if_neg (by omega)]
    ·rw[if_neg h3,if_neg h3,qf6 r (a / 2 - 1) (i / 2 - 1) (λk hk=>by
      have:=hf (2*k+2) (by omega);rw[qbY,if_neg (by omega),if_neg (by omega),show(2*k+2) / 2 - 1=k by omega] at this;exact this) hn]
     by_cases h4:i=a
     ·rw[if_pos h4,if_pos (by omega)]
     ·rw[if_neg h4,if_neg (by omega)]
noncomputable def Lay(t:Tr)(n:Nat)(xs:Array Obj):Prop:=n=xs.size/\∀i,t.get i=xs[i]?
theorem Lay.mod(h:Lay t n xs)(a:Nat)(f:Obj->Obj):Lay (t.mod a f) n (xs.modify a f):=
 ⟨by rw[Array.size_modify];exact h.1,λi=>by
  rw[qf7,h.2 i,Array.getElem?_modify];by_cases q:i=a
  ·rw[if_pos q,if_pos q.symm]
  ·rw[if_neg q,if_neg (Ne.symm q)]⟩
theorem Lay.put(h:Lay t n xs)(o:Obj):Lay (t.put n o) (n+1) (xs.push o):=by obtain⟨rfl,h2⟩:=h;refine⟨by rw[Array.size_push],λi=> ?_⟩;rw[qf6 t _ i (λk hk=>by rw[h2 k,Array.getElem?_eq_getElem hk];rfl) (by rw[h2];exact Array.getElem?_eq_none (Vm _)),Array.getElem?_push,h2 i]
noncomputable def ofL:List Obj->Nat->Tr->Tr
 |[],_,t=>t
 |o::r,n,t=>ofL r (n+1) (t.put n o)
theorem qiR: ∀(l:List Obj) (n:Nat) (t:Tr) (xs:Array Obj),Lay t n xs->Lay (ofL l n t) (n+l.length) (xs++l.toArray)
 |[],n,t,xs,h=>by show Lay t (n+0) (xs++ #[]);rw[Array.append_empty];exact h
 |o::r,n,t,xs,h=>by have:=qiR r (n+1) (t.put n o) (xs.push o) (h.put o);rw[show xs.push o++r.toArray=xs++(o::r).toArray by simp] at this;rw[List.length_cons,show n+(r.length+1)=n+1+r.length by omega];exact this
noncomputable def qou(t:Tr):Nat->Nat->List Obj
 |0,_=>[]
 |n+1,i=>match t.get i with
  |some o=>o::qou t n (i+1)
  |none=>[]
theorem qix{t:Tr}{xs:Array Obj}(h: ∀i,t.get i=xs[i]?): ∀(n i:Nat),i+n=xs.size->qou t n i=xs.toList.drop i
 |0,i,e=>by rw[List.drop_eq_nil_of_le (by simp;omega)];rfl
 |n+1,i,e=>by
  have hi:i<xs.size:=by omega
  unfold qou;rw[h i,Array.getElem?_eq_getElem hi];dsimp only;rw[qix h n (i+1) (by omega),show xs.toList.drop i=_ from List.drop_eq_getElem_cons (i:=i) (by simpa using hi)];rfl
theorem Lay.out{n:Nat}(h:Lay t n xs):(qou t n 0).toArray=xs:=by obtain⟨rfl,h2⟩:=h;rw[qix h2 xs.size 0 (by omega)];simp
structure FS where
 t:Tr
 n:Nat
 life:Life
 gens:Array GenState
 drawn:Drawn
 toks:Nat
 os:OsState
noncomputable def qlB:Option Obj->Option Obj
 |some ⟨_,_,.freed,_⟩=>none
 |o=>o
noncomputable def qgb(den:Code->Sem Fin)(p:Program)(w:World):FS->Thread->Option (FS×Thread)
 |⟨t,n,life,gens,drawn,toks,os⟩,⟨cur,code,pos,stack⟩=>match cur with
  |.load a _ k=>(match qlB (t.get a) with
   |some o=>some (⟨t,n,life,gens,drawn,toks,os⟩,⟨k o,code,pos,stack⟩)
   |none=>none)
  |.update a _ f k=>(match qlB (t.get a) with
   |some _=>some (⟨t.mod a f,n,life,gens,drawn,toks,os⟩,⟨k (),code,pos,stack⟩)
   |none=>none)
  |.alloc o k=>some (⟨t.put n o,n+1,life,gens,drawn,toks,os⟩,⟨k n,code,pos,stack⟩)
  |.loadIfAlive a k=>some (⟨t,n,life,gens,drawn,toks,os⟩,⟨k (qlB (t.get a)),code,pos,stack⟩)
  |c=>(match step den p w ⟨⟨#[],life⟩,gens,drawn,toks,os⟩ ⟨c,code,pos,stack⟩ with
   |.go ⟨_,g,d,tk,o⟩ th=>some (⟨t,n,life,g,d,tk,o⟩,th)
   |.halt _ _=>none)
noncomputable def qoA(S:FS)(s:Shared):Prop:=Lay S.t S.n s.heap.objs/\s.heap.life=S.life/\s.gens=S.gens/\s.drawn=S.drawn/\s.toks=S.toks/\s.os=S.os
noncomputable def hOf(c:Sem Fin):Bool:=match c with
 |.load .. =>true
 |.update .. =>true
 |.alloc .. =>true
 |.loadIfAlive .. =>true
 |_=>false
noncomputable def Step.heap(h:Heap):Step->Step
 |.go s t=>.go { s with heap:=h } t
 |.halt o s=>.halt o { s with heap:=h }
theorem qif {den:Code->Sem Fin} {p:Program} {w:World} {h h':Heap} {gens:Array GenState} {drawn:Drawn} {toks:Nat} {os:OsState} {cur:Sem Fin} {code:Code} {pos:Pos} {stack:List Frame} (hc:hOf cur=false):
  step den p w ⟨h,gens,drawn,toks,os⟩ ⟨cur,code,pos,stack⟩=Step.heap h (step den p w ⟨h',gens,drawn,toks,os⟩ ⟨cur,code,pos,stack⟩):=by
 cases cur<;>first
  |(cases hc;done)
  |(simp only[step,finish];first|rfl|((repeat' split)<;>first|rfl|simp_all [Step.heap]))
theorem qkR(R:qoA S s)(h:qgb den p w S t=some (S',t')): ∃s',step den p w s t= .go s' t'/\qoA S' s':=by
 obtain⟨T,n,life,gens,drawn,toks,os⟩:=S;obtain⟨⟨objs,aG⟩,bB,aU,br,dZ⟩:=s;obtain⟨L,e1,e2,e3,e4,e5⟩:=R;dsimp only at L e1 e2 e3 e4 e5;subst e1 e2 e3 e4 e5;obtain⟨cur,code,pos,stack⟩:=t;have al: ∀a,qlB (T.get a)=Heap.get? ⟨objs,aG⟩ a:=λa=>by rw[L.2 a];rfl
 by_cases hc:hOf cur=true
 ·cases cur<;>first
   |(cases hc;done)
   |skip
  case load a part k=>
   unfold qgb at h;dsimp only at h;rw[al] at h;unfold step;dsimp only;cases q:Heap.get? ⟨objs,aG⟩ a with
   |none=>rw[q] at h;cases h
   |some o=>rw[q] at h;cases h;exact⟨_,rfl,L,rfl,rfl,rfl,rfl,rfl⟩
  case update a part f k=>
   unfold qgb at h;dsimp only at h;rw[al] at h;unfold step;dsimp only;cases q:Heap.get? ⟨objs,aG⟩ a with
   |none=>rw[q] at h;cases h
   |some o=>rw[q] at h;cases h;exact⟨_,rfl,L.mod a f,rfl,rfl,rfl,rfl,rfl⟩
  case alloc o k=>
   unfold qgb at h;cases h;have e:n=objs.size:=L.1;subst e;exact⟨_,rfl,L.put o,rfl,rfl,rfl,rfl,rfl⟩
  case loadIfAlive a k=>
   unfold qgb at h;dsimp only at h;rw[al] at h;cases h;exact⟨_,rfl,L,rfl,rfl,rfl,rfl,rfl⟩
 ·have hc:hOf cur=false:=by simpa using hc
  have h:(match step den p w ⟨⟨#[],aG⟩,bB,aU,br,dZ⟩ ⟨cur,code,pos,stack⟩ with
   |.go ⟨_,g,d,tk,o⟩ th=>some ((⟨T,n,aG,g,d,tk,o⟩:FS),th)
   |.halt _ _=>none)=some (S',t'):=by
   cases cur<;>first
    |(cases hc;done)
    |exact h
  rw[qif (h':=⟨#[],aG⟩) hc];cases q:step den p w ⟨⟨#[],aG⟩,bB,aU,br,dZ⟩ ⟨cur,code,pos,stack⟩ with
  |halt o s=>rw[q] at h;cases h
  |go s th=>rw[q] at h;obtain⟨hh,g,d,tk,o⟩:=s;cases h;exact⟨_,rfl,L,rfl,rfl,rfl,rfl,rfl⟩
noncomputable def qqm(tb:String->Option Builtin)(p:Program)(w:World)(bW:Nat)(ann:Option Value):Nat->FS->Thread->Option FS
 |0,_,_=>none
 |n+1,S,t=>match through t with
  |true=>some S
  |false=>match stepOk bW ann t with
   |false=>none
   |true=>match qgb (denote tb) p w S t with
    |some (S',t')=>qqm tb p w bW ann n S' t'
    |none=>none
theorem qjk: ∀(n:Nat) (S:FS) (s:Shared) (t:Thread),qoA S s->qqm tb p w bW ann n S t=some S'->∃s',topRun tb p w bW ann n s t=some s'/\qoA S' s'
 |0,_,_,_,_,h=>by cases h
 |n+1,S,s,t,R,h=>by
  unfold qqm at h;unfold topRun;cases q:through t with
  |true=>rw[q] at h;cases h;exact⟨s,rfl,R⟩
  |false=>
   rw[q] at h;cases q2:stepOk bW ann t with
   |false=>rw[q2] at h;cases h
   |true=>
    rw[q2] at h;cases q3:qgb (denote tb) p w S t with
    |none=>rw[q3] at h;cases h
    |some x=>obtain⟨S1,t1⟩:=x;rw[q3] at h;obtain⟨s1,e,R1⟩:=qkR R q3;rw[e];exact qjk n S1 s1 t1 R1 h
noncomputable def ofS(s:Shared):FS:=⟨ofL s.heap.objs.toList 0 .e,s.heap.objs.size,s.heap.life,s.gens,s.drawn,s.toks,s.os⟩
noncomputable def toS:FS->Shared
 |⟨t,n,life,gens,drawn,toks,os⟩=>⟨⟨(qou t n 0).toArray,life⟩,gens,drawn,toks,os⟩
theorem qoV(s:Shared):qoA (ofS s) s:=by refine⟨?_,rfl,rfl,rfl,rfl,rfl⟩;have:=qiR s.heap.objs.toList 0 .e #[] ⟨rfl,λi=>by simp[Tr.get]⟩;simpa [ofS] using this
theorem qoU(R:qoA S s):toS S=s:=by obtain⟨T,n,life,gens,drawn,toks,os⟩:=S;obtain⟨⟨objs,aG⟩,bB,aU,br,dZ⟩:=s;obtain⟨L,e1,e2,e3,e4,e5⟩:=R;dsimp only at L e1 e2 e3 e4 e5;subst e1 e2 e3 e4 e5;show(⟨⟨(qou T n 0).toArray,aG⟩,bB,aU,br,dZ⟩:Shared)=_;rw[L.out]
noncomputable def qkU(tb:String->Option Builtin)(p:Program)(w:World)(N:Nat)(s₀:Shared):Option Shared:=
 match s₀.heap.isNs mainGlobals&&s₀.gens.size==0 with
 | true=>(qqm tb p w s₀.heap.objs.size (s₀.heap.nsMap mainGlobals "__annotations__") N (ofS s₀) (topStub p)).bind λcq=>match staticsOk (importedModules p.main.body) s₀.heap (toS cq).heap&&namesBound p (toS cq).heap&&gensDone (toS cq)&&laidKept s₀.heap (toS cq).heap with
   |true=>some (toS cq)
   |false=>none
 |false=>none
theorem qkT(h:qkU tb p w N s₀=some s):topFrom tb p w N s₀=some s:=by
 unfold qkU at h;unfold topFrom;cases q:s₀.heap.isNs mainGlobals&&s₀.gens.size==0 with
 |false=>rw[q] at h;cases h
 |true=>
  rw[q] at h;dsimp only at h⊢;cases q2:qqm tb p w s₀.heap.objs.size (s₀.heap.nsMap mainGlobals "__annotations__") N (ofS s₀) (topStub p) with
  |none=>rw[q2] at h;cases h
  |some S=>rw[q2] at h;obtain⟨s1,e,R⟩:=qjk N _ s₀ _ (qoV s₀) q2;rw[e];have e2:=qoU R;dsimp only[Option.bind_some] at h⊢;rw[e2] at h;exact h
end FR
namespace HD
open PySem PySem.W
end HD
namespace FR
open PySem PySem.W HD
noncomputable def qos(p:Program)(row:String)(N:Nat)(b:Bool)(w:World):Option Shared:=(fencedOpening treeTable p w N).bind (qkU treeTable p (w.withFollow row b) N)
noncomputable def runG(p:Program)(N:Nat)(w:World):Option Shared:=(fencedOpening treeTable p w N).bind (qkU treeTable p w N)
theorem qii(h:qos p row N b w=some s):qot p row N b w=some s:=by
 unfold qos at h;unfold qot;cases q:fencedOpening treeTable p w N with
 |none=>rw[q] at h;cases h
 |some s0=>rw[q] at h;exact qkT h
noncomputable def LookFX(p q:Program)(loose:List Str)(Xt:Shared->Bool)(row:String)(N:Nat)(b:Bool):Prop:= ∀w:World,(qos p row N b w).map (λs=>(qkD p q loose Xt s).2)=some (openGood q loose).2
noncomputable def LookFY(p q:Program)(loose:List Str)(Xt:Shared->Bool)(H:Hook)(row:String)(N:Nat)(b:Bool):Prop:= ∀w:World,(qos p row N b w).map (λs=>((qkD p q loose Xt s).1,H.obs s))=some ((openGood q loose).1,H.val (w.withFollow row b))
theorem qlT(h:LookFX p q loose Xt row N b):qlE p q loose Xt row N b:=λw=>by
 have h:=h w;cases r:qos p row N b w with
 |none=>rw[r] at h;cases h
 |some s=>rw[r] at h;rw[qii r];exact h
theorem qlS(h:LookFY p q loose Xt H row N b):qlD p q loose Xt H row N b:=λw=>by
 have h:=h w;cases r:qos p row N b w with
 |none=>rw[r] at h;cases h
 |some s=>rw[r] at h;rw[qii r];exact h
theorem left_fp (row:String) (x0:LookFX p q loose Xt row N false) (y0:LookFY p q loose Xt H row N false) (x1:LookFX p q loose Xt row N true) (y1:LookFY p q loose Xt H row N true):
  LeftO p q loose Xt (Hook.obs H) (Hook.val H) N:=qhy row (qlT x0) (qlS y0) (qlT x1) (qlS y1)
end FR
section
open PySem PySem.W PyProof.Rows
namespace K89
abbrev vq:Program:=HD.vw PySem.Challenge.pw_rowasks_k89_desks_refused
abbrev lo:List Str:=["NUMBER_STEPS", "COUNT_STEPS", "BARE_STEPS"]
abbrev xt:Shared->Bool:=λs=>xlAt vq [] s&&recOk (RowW.records PySem.Challenge.rw_rowasks_k89_desks_refused.row.toRowW) s
set_option maxRecDepth 100000 in
set_option maxHeartbeats 0 in
theorem rXF:FR.LookFX PySem.Challenge.pw_rowasks_k89_desks_refused vq lo xt "special-get-raises" 20000 false:=λw=>by kernel_rfl
set_option maxRecDepth 100000 in
set_option maxHeartbeats 0 in
theorem rXT:FR.LookFX PySem.Challenge.pw_rowasks_k89_desks_refused vq lo xt "special-get-raises" 20000 true:=λw=>by kernel_rfl
section
local macro_rules
 |`(tactic| o_head $H)=> `(tactic| (exact False.elim (by assumption);exact $H))
set_option maxRecDepth 100000 in
set_option maxHeartbeats 0 in
noncomputable def hk:Hook:=by
 refine(λ(_:False->PySem.Challenge.rw_rowasks_k89_desks_refused.Holds)=> ?H) ?pf
 rotate_left
 intro hp
 w_on;o_law;k_head
end
set_option maxRecDepth 100000 in
set_option maxHeartbeats 0 in
theorem rYF:FR.LookFY PySem.Challenge.pw_rowasks_k89_desks_refused vq lo xt hk "special-get-raises" 20000 false:=λw=>by kernel_rfl
set_option maxRecDepth 100000 in
set_option maxHeartbeats 0 in
theorem rYT:FR.LookFY PySem.Challenge.pw_rowasks_k89_desks_refused vq lo xt hk "special-get-raises" 20000 true:=λw=>by kernel_rfl
end K89
end
namespace L2
open PySem PySem.Spec PyProof.Rows
abbrev Key:=Sum Int Str
noncomputable def keyIs:Key->Value->Bool
 |.inl k,v=>Value.isInt k v
 |.inr x,v=>Value.isStrOf x v
noncomputable def qu1(w:World):Key->Int
 |.inl k=>hashInt k
 |.inr x=>hashStr w x
theorem qav: ∀{k:Key} {v:Value},keyIs k v=true->(∃i t,k=Sum.inl i/\v=Value.int i t)\/(∃x t,k=Sum.inr x/\v=Value.str x t)
 |.inl i,v,h=>by obtain⟨t,e⟩:=Value.isInt_shape (k:=i) (v:=v) h;exact .inl ⟨i,t,rfl,e⟩
 |.inr x,v,h=>by obtain⟨t,e⟩:=Value.isStrOf_shape (x:=x) (v:=v) h;exact .inr ⟨x,t,rfl,e⟩
theorem qiX(i:Int)(t:Tok):keyIs (.inl i) (.int i t)=true:=by simp[keyIs,Value.isInt]
theorem qiW(x:Str)(t:Tok):keyIs (.inr x) (.str x t)=true:=by simp[keyIs,Value.isStrOf]
theorem qpZ(a b:Int):decide ((Sum.inl a:Key)=Sum.inl b)=(a==b):=by
 by_cases e:a=b
 ·subst e;simp
 ·have h: ¬(Sum.inl a:Key)=Sum.inl b:=λq=>e (Sum.inl.inj q);rw[decide_eq_false h];exact(beq_eq_false_iff_ne.mpr e).symm
theorem qpV(a b:Str):decide ((Sum.inr a:Key)=Sum.inr b)=decide (a=b):=by
 by_cases e:a=b
 ·subst e;simp
 ·have h: ¬(Sum.inr a:Key)=Sum.inr b:=λq=>e (Sum.inr.inj q);rw[decide_eq_false h,decide_eq_false e]
theorem qpY(a:Int)(b:Str):decide ((Sum.inl a:Key)=Sum.inr b)=false:=Vw (λq=>nomatch q)
theorem qpW(a:Str)(b:Int):decide ((Sum.inr a:Key)=Sum.inl b)=false:=Vw (λq=>nomatch q)
noncomputable def qap(prog:Program)(w:World):PySem.KeyKind prog w Key where
 is:=keyIs
 hash:=qu1 w
 inj:=λv a b ha hb=>by
  rcases qav ha with⟨i,t,rfl,rfl⟩|⟨x,t,rfl,rfl⟩
  ·rcases qav hb with⟨j,u,rfl,e⟩|⟨y,u,rfl,e⟩
   ·injection e with e1 _;rw[e1]
   ·exact nomatch e
  ·rcases qav hb with⟨j,u,rfl,e⟩|⟨y,u,rfl,e⟩
   ·exact nomatch e
   ·injection e with e1 _;rw[e1]
 byValue:=λk v h=>by
  rcases qav h with⟨i,t,rfl,rfl⟩|⟨x,t,rfl,rfl⟩<;>rfl
 pyHash:=λhv h=>by
  rcases qav hv with⟨i,t,rfl,rfl⟩|⟨x,t,rfl,rfl⟩
  ·exact wpAny_pyHash_int h
  ·exact wpAny_pyHash_str h
 eqBool:=λhu hv h=>by
  rcases qav hu with⟨i,t,rfl,rfl⟩|⟨x,t,rfl,rfl⟩
  ·rcases qav hv with⟨j,u,rfl,rfl⟩|⟨y,u,rfl,rfl⟩
   ·rw[qpZ] at h;exact wpAny_eqBool_int h
   ·rw[qpY] at h;exact SeqAt.EqAt.int_str i t y u _ _ _ _ h
  ·rcases qav hv with⟨j,u,rfl,rfl⟩|⟨y,u,rfl,rfl⟩
   ·rw[qpW] at h;exact SeqAt.EqAt.str_int x t j u _ _ _ _ h
   ·rw[qpV] at h;exact wpAny_eqBool_str h
 «strs» :=λk x t v h=>by
  rcases qav h with⟨i,u,rfl,e⟩|⟨y,u,rfl,e⟩
  ·exact nomatch e
  ·injection e with e1 _
   subst e1;cases v<;>rfl
theorem qfY(prog:Program)(w:World)(i:Int)(t:Tok):(qap prog w).is (.inl i) (.int i t)=true:=qiX i t
theorem qfX(prog:Program)(w:World)(x:Str)(t:Tok):(qap prog w).is (.inr x) (.str x t)=true:=qiW x t
inductive V where
 |non|bl (b:Bool)|int (i:Int)|str (x:Str)|byt (b:Array UInt8)|flt (b:UInt64)|ref (a:Addr)|ty (n:String)
 deriving DecidableEq
noncomputable def RelV:V->Value->Prop
 |.non,u=>u=Value.none
 |.bl b,u=>u=Value.bool b
 |.int i,u=> ∃t,u=Value.int i t
 |.str x,u=> ∃t,u=Value.str x t
 |.byt b,u=> ∃t,u=Value.bytes b t
 |.flt b,u=> ∃t,u=Value.float b t
 |.ref a,u=>u=Value.ref a
 |.ty n,u=>u=Value.type n
abbrev qan:List V->List Value->Prop:=Paired RelV
theorem qan.length(r:qan xs us):xs.length=us.length:=Paired.length r
theorem qan.get: ∀{xs:List V} {us:List Value} {i:Nat} {x:V},qan xs us->xs[i]? =some x->∃u,us[i]? =some u/\RelV x u
 |_,_,_,_,.nil,e=>by simp at e
 |_,_,0,_,.cons r _,e=>by simp at e;subst e;exact⟨_,rfl,r⟩
 |_,_,i+1,x,.cons _ t,e=>by obtain⟨u,h1,h2⟩:=qan.get (i:=i) (x:=x) t (by simpa using e);exact⟨u,by simpa using h1,h2⟩
theorem qan.set(r:RelV x u): ∀{xs:List V} {us:List Value} (i:Nat),qan xs us->qan (xs.set i x) (us.set i u)
 |_,_,_,.nil=>.nil
 |_,_,0,.cons _ t=>.cons r t
 |_,_,i+1,.cons q t=>.cons q (qan.set r i t)
theorem qan.append: ∀{xs ys:List V} {us ws:List Value},qan xs us->qan ys ws->qan (xs++ys) (us++ws)
 |_,_,_,_,.nil,s=>s
 |_,_,_,_,.cons r t,s=>.cons r (qan.append t s)
theorem qan.take: ∀{xs:List V} {us:List Value} (n:Nat),qan xs us->qan (xs.take n) (us.take n)
 |_,_,0,_=>.nil
 |_,_,_+1,.nil=>.nil
 |_,_,n+1,.cons r t=>.cons r (qan.take n t)
theorem qan.drop: ∀{xs:List V} {us:List Value} (n:Nat),qan xs us->qan (xs.drop n) (us.drop n)
 |_,_,0,r=>r
 |_,_,_+1,.nil=>.nil
 |_,_,n+1,.cons _ t=>qan.drop n t
noncomputable def qfC:Option V->Option Value->Prop
 |some v,some u=>RelV v u
 |none,none=>True
 |_,_=>False
noncomputable def KV{κ:Type}:List (κ×V)->List (κ×Value)->Prop:=Paired λ(p:κ×V) (q:κ×Value)=>p.1=q.1/\RelV p.2 q.2
noncomputable def kV:Key->V
 |.inl i=>.int i
 |.inr x=>.str x
inductive HO where
 |lst (xs:List V)
 |tup (xs:List V)
 |dK (kvs:List (Key×V))|dT (kvs:List (List Key×V))
 |set (S:Int->Bool) (n:Nat)
 |ins (C dx:Addr) (fs:List (Str×V))
 |own (x:Addr)
 |xd (fs:List (Str×V))
 |met (f x:Addr)
 |rng (lo hi:Int)
 |frz (o:Obj) (u:HO)
 |tbl (ps:Array Value)
 |ext (φ:Heap->Prop)
abbrev Hp:=Addr->Option HO
noncomputable def upd(H:Hp)(a:Addr)(o:HO):Hp:=λb=>if b=a then some o else H b
theorem qac:upd H a o a=some o:=by unfold upd;rw[if_pos rfl]
theorem qaa(h:b≠a):upd H a o b=H b:=by unfold upd;rw[if_neg h]
theorem qmk:upd (upd H a o) a u=upd H a u:=by
 funext b;unfold upd;split<;>rfl
theorem qsx{H:Hp}{a b:Addr}{o u:HO}(h:H a=some o)(h':H b=some u)(d:o≠u):a≠b:=by intro e;subst e;rw[h] at h';exact d (Option.some.inj h')
theorem qag{H:Hp}{a b:Addr}{o:HO}(h:H a=some o)(h':H b=none):a≠b:=by intro e;subst e;rw[h] at h';cases h'
section
variable (P:Program)(w:World)
noncomputable def qaA(H:Hp)(h:Heap)(a:Addr):HO->Prop
 |.lst xs=>xs.length<=sizeLine/\∃(its:List Value) (n:Nat),qan xs its/\h.get? a=some { cls:=.type "list",data:=.seq its.toArray n }
 |.tup xs=>xs.length<=sizeLine/\∃its:List Value,qan xs its/\IsTup h a its.toArray
 |.dK kvs=>kvs.length<=sizeLine/\(a==sysModules)=false/\∃vs,KV kvs vs/\h.DictOf (qap P w) a vs
 | .dT kvs=>kvs.length<=sizeLine/\(a==sysModules)=false/\∃xs:List (List Key×Addr×Value),
   Paired (λ(p:List Key×V) (q:List Key×Addr×Value)=>p.1=q.1/\H q.2.1=some (.tup (p.1.map kV))/\RelV p.2 q.2.2) kvs xs/\
   ∃o es ep,h.get? a=some o/\o.ExactDict/\o.data= .dict es ep/\es.toList=xs.map (entryOfKey (tupleKind (qap P w)))/\(xs.map (·.1)).Nodup
 |.set S n=>h.SetOf (intKind P w) a S n
 | .ins C dx fs=>H dx=some (.own a)/\fs.length<=1000/\dx≠a/\h.get? a=some (W.instObj C dx)/\
   ∃mA,h.Ns1 dx mA/\(∀f,qfC (fs.lookup f) (mA f))/\PySem.Within mA (fs.map (·.1))
 |.own _=> ∃o,h.get? a=some o
 |.xd fs=> ∃mA,h.Ns1 a mA/\∀f,qfC (fs.lookup f) (mA f)
 |.rng lo hi=> ∃t u v,h.get? a=some { cls:=.type "range",data:=.fields #[.int lo t,.int hi u,.int 1 v] }
 |.frz o u=>h.get? a=some o/\qaA H h a u
 |.tbl ps=>h.get? a=some { cls:=.none,data:=.fields ps }
 |.met f x=>h.get? a=some (W.methodObj (.ref f) (.ref x))
 |.ext φ=>φ h/\(∃o,h.get? a=some o)/\∀h1 h2:Heap,φ h1->(∀o,h1.get? a=some o->h2.get? a=some o)->φ h2
noncomputable def HOk(H:Hp)(h:Heap):Prop:= ∀a o,H a=some o->qaA P w H h a o
end
section
theorem qaA.lt(x:qaA P w H h a o):a<h.objs.size:=by
 cases o with
 |lst xs=>obtain⟨_,_,_,_,e⟩:=x;exact Vj e
 |tup xs=>obtain⟨_,_,_,p⟩:=x;exact p.lt
 |dK kvs|dT kvs=>obtain⟨_,_,_,_,o,_,_,e,_⟩:=x;exact Vj e
 |set S n=>obtain⟨o,_,_,_,e,_⟩:=x;exact Vj e
 |ins C dx fs=>obtain⟨_,_,_,e,_⟩:=x;exact Vj e
 |own y=>obtain⟨_,e⟩:=x;exact Vj e
 |xd fs=>obtain⟨_,⟨_,_,_,e,_⟩,_⟩:=x;exact Vj e
 |rng lo hi=>obtain⟨_,_,_,e⟩:=x;exact Vj e
 |frz ob u=>obtain⟨e,_⟩:=x;exact Vj e
 |tbl ps|met f y=>exact Vj (show h.get? a=some _ from x)
 |ext φ=>obtain⟨_,⟨_,e⟩,_⟩:=x;exact Vj e
theorem Paired.mapP: ∀{eE:List α} {l₂:List β},Paired F eE l₂->(∀a b,F a b->G a b)->Paired G eE l₂
 |_,_,.nil,_=>.nil
 |_,_,.cons r t,f=>.cons (f _ _ r) (Paired.mapP t f)
theorem qaA.stay(x:qaA P w H h a o)(k: ∀b u,(b=a\/H b=some (.own a))->h.get? b=some u->h'.get? b=some u)(ho: ∀b,H b=some (.own a)->H' b=some (.own a))(ht: ∀b xs,H b=some (.tup xs)->H' b=some (.tup xs)):qaA P w H' h' a o:=by
 induction o with
 |lst xs=>obtain⟨z,its,n,r,e⟩:=x;exact⟨z,its,n,r,k _ _ (.inl rfl) e⟩
 |tup xs=>obtain⟨z,its,r,ob,e,c⟩:=x;exact⟨z,its,r,ob,k _ _ (.inl rfl) e,c⟩
 |dK kvs=>obtain⟨z,y,vs,r,ob,es,ep,e,c⟩:=x;exact⟨z,y,vs,r,ob,es,ep,k _ _ (.inl rfl) e,c⟩
 |dT kvs=>obtain⟨z,y,xs,r,ob,es,ep,e,c⟩:=x;exact⟨z,y,xs,Paired.mapP r λp q z=>⟨z.1,ht _ _ z.2.1,z.2.2⟩,ob,es,ep,k _ _ (.inl rfl) e,c⟩
 |set S n=>obtain⟨ob,es,ep,t,e,c⟩:=x;exact⟨ob,es,ep,t,k _ _ (.inl rfl) e,c⟩
 |ins C dx fs=>obtain⟨d,z,ne,e,mA,⟨od,es,ep,e2,c⟩,r⟩:=x;exact⟨ho _ d,z,ne,k _ _ (.inl rfl) e,mA,⟨od,es,ep,k _ _ (.inr d) e2,c⟩,r⟩
 |own y=>obtain⟨ob,e⟩:=x;exact⟨ob,k _ _ (.inl rfl) e⟩
 |xd fs=>obtain⟨mA,⟨od,es,ep,e,c⟩,r⟩:=x;exact⟨mA,⟨od,es,ep,k _ _ (.inl rfl) e,c⟩,r⟩
 |rng lo hi=>obtain⟨t,u,v,e⟩:=x;exact⟨t,u,v,k _ _ (.inl rfl) e⟩
 |frz ob u ih=>obtain⟨e,q⟩:=x;exact⟨k _ _ (.inl rfl) e,ih q⟩
 |tbl ps=>have e:h.get? a=some { cls:=.none,data:=.fields ps }:=x;show h'.get? a=some { cls:=.none,data:=.fields ps };exact k a _ (.inl rfl) e
 |met f y=>have e:h.get? a=some (W.methodObj (.ref f) (.ref y)):=x;show h'.get? a=some (W.methodObj (.ref f) (.ref y));exact k a _ (.inl rfl) e
 |ext φ=>obtain⟨p,⟨o,e⟩,st⟩:=x;exact⟨st _ _ p λo q=>k _ _ (.inl rfl) q,⟨o,k _ _ (.inl rfl) e⟩,st⟩
theorem HOk.lt(x:HOk P w H h)(e:H a=some o):a<h.objs.size:=(x a o e).lt
theorem HOk.fresh(x:HOk P w H h)(e:h.objs.size<=a):H a=none:=by
 cases q:H a with
 |none=>rfl
 |some u=>exact absurd (Vn (x.lt q) e) (Nat.lt_irrefl _)
theorem HOk.kept(x:HOk P w H h)(k: ∀b u,h.get? b=some u->h'.get? b=some u):HOk P w H h':=λa o e=>
 (x a o e).stay (λb u _ q=>k b u q) (λ_ q=>q) λ_ _ q=>q
theorem HOk.laid{P:Program}{w:World}{H:Hp}{h:Heap}{h':Heap}{a:Addr}{o:HO}(x:HOk P w H h)(k: ∀b u,h.get? b=some u->h'.get? b=some u)(hp:h.objs.size<=a)(new:qaA P w (upd H a o) h' a o):HOk P w (upd H a o) h':=λb u e=>by
 have hn:=x.fresh hp;by_cases hb:b=a
 ·subst hb;rw[qac] at e;cases e;exact new
 ·rw[qaa hb] at e;exact(x b u e).stay (λc v _ q=>k c v q) (λc q=>by rw[qaa (qag q hn)];exact q) λc xs q=>by rw[qaa (qag q hn)];exact q
end
noncomputable def Rd(H:Hp)(a:Addr)(u:HO):Prop:=H a=some u\/∃o,H a=some (.frz o u)
theorem Rd.of(h:H a=some u):Rd H a u:=.inl h
theorem Rd.ok(r:Rd H a u)(x:HOk P w H h):qaA P w H h a u:=by
 rcases r with r|⟨o,r⟩
 ·exact x a u r
 ·obtain⟨_,q⟩:=x a _ r;exact q
noncomputable def Mut:Option HO->Prop
 |some (.lst _)=>True
 |some (.dK _)=>True
 |some (.dT _)=>True
 |some (.set _ _)=>True
 |some (.ins _ _ _)=>True
 |some (.ext _)=>True
 |_=>False
section
theorem HOk.write(ok:HOk P w H h)(mu:Mut (H x))(he:e=x\/H e=some (.own x))(k: ∀b u,b≠e->h.get? b=some u->h'.get? b=some u)(d7: ∃u,h'.get? e=some u)(new:qaA P w (upd H x o') h' x o'):HOk P w (upd H x o') h':=λb u q=>by
 have eC: ∀c y,H c=some (.own y)->c≠x:=λc y r z=>by subst z;rw[r] at mu;exact mu
 have gj: ∀c xs,H c=some (.tup xs)->c≠x:=λc xs r z=>by subst z;rw[r] at mu;exact mu
 by_cases hb:b=x
 ·subst hb;rw[qac] at q;cases q;exact new
 ·rw[qaa hb] at q;by_cases dR:b=e
  ·have q':H b=some (.own x):=by
    rcases he with z|z
    ·exact absurd (dR.trans z) hb
    ·rw[dR];exact z
   rw[q] at q';cases q';obtain⟨v,hv⟩:=d7;exact⟨v,by rw[dR];exact hv⟩
  ·refine(ok b u q).stay (λc v hc r=>k c v ?_ r) (λc r=>by rw[qaa (eC c b r)];exact r) λc xs r=>by rw[qaa (gj c xs r)];exact r
   rcases hc with rfl|hc
   ·exact dR
   ·rintro rfl
    rcases he with z|z
    ·exact eC c b hc z
    ·rw[hc] at z;cases z;exact hb rfl
end
structure Un(fs ex:List Addr)(H H':Hp)(h h':Heap):Prop where
 keep: ∀b o,h.get? b=some o->H b=none->b∉fs->b∉ex->h'.get? b=some o
 slot: ∀b o,h.get? b=some o->H b=none->b∈fs->b∉ex->∃sl,h'.get? b=some { o with slots:=sl }
 free: ∀b o,h.get? b=some o->H b=none->b∉ex->H' b=none
 there: ∀b o,h.get? b=some o->b∉ex->∃o',h'.get? b=some o'
 tups: ∀b xs,H b=some (.tup xs)->H' b=some (.tup xs)
 frzs: ∀b o u,H b=some (.frz o u)->H' b=some (.frz o u)
 tbls: ∀b ps,H b=some (.tbl ps)->∃more,H' b=some (.tbl (ps++more))
section
theorem Un.any(u:Un fs ex H H1 h h1)(q:h.get? b=some ob)(n:H b=none)(hx:b∉ex): ∃sl,h1.get? b=some { ob with slots:=sl }:=by
 by_cases hb:b∈fs
 ·exact u.slot b ob q n hb hx
 ·exact⟨ob.slots,u.keep b ob q n hb hx⟩
theorem Un.kept(k: ∀b u,h.get? b=some u->h'.get? b=some u):Un fs ex H H h h':=
 ⟨λb ob q _ _ _=>k b ob q,λb ob q _ _ _=>⟨ob.slots,k b ob q⟩,λ_ _ _ n _=>n,λb ob q _=>⟨ob,k b ob q⟩,λ_ _ q=>q,λ_ _ _ q=>q,λ_ ps q=>⟨#[],by rw[q];simp⟩⟩
theorem Un.refl:Un fs ex H H h h:=Un.kept λ_ _ q=>q
theorem Un.laid{fs:List Addr}{ex:List Addr}{H:Hp}{h:Heap}{h':Heap}{a:Addr}{o:HO}(k: ∀b u,h.get? b=some u->h'.get? b=some u)(hp:h.objs.size<=a)(hn:H a=none):Un fs ex H (upd H a o) h h' where
 keep:=λb u q _ _ _=>k b u q
 slot:=λb u q _ _ _=>⟨u.slots,k b u q⟩
 free:=λb u q n _=>by rw[qaa (Nat.ne_of_lt (Nat.lt_of_lt_of_le (Heap.lt_size q) hp))];exact n
 there:=λb u q _=>⟨u,k b u q⟩
 tups:=λb xs q=>by rw[qaa (qag q hn)];exact q
 frzs:=λb u xs q=>by rw[qaa (qag q hn)];exact q
 tbls:=λb ps q=>⟨#[],by rw[qaa (qag q hn),q];simp⟩
theorem Un.write(mu:Mut (H x))(he:e=x\/H e=some (.own x))(k: ∀b u,b≠e->h.get? b=some u->h'.get? b=some u)(d7: ∃u,h'.get? e=some u):Un fs ex H (upd H x o) h h':=by
 have hx: ∀b,H b=none->b≠x:=λb n z=>by subst z;rw[n] at mu;exact mu
 have hb: ∀b,H b=none->b≠e:=λb n z=>by
  subst z
  rcases he with r|r
  ·exact hx b n r
  ·rw[n] at r;cases r
 have hm: ∀b u,H b=some u->¬Mut (some u)->b≠x:=λb u q nm z=>by subst z;rw[q] at mu;exact nm mu
 refine⟨λb u q n _ _=>k b u (hb b n) q,λb u q n _ _=>⟨u.slots,k b u (hb b n) q⟩,λb u q n _=>by rw[qaa (hx b n)];exact n,λb u q _=> ?_,
  λb xs q=>by rw[qaa (hm b _ q λz=>z)];exact q,λb u xs q=>by rw[qaa (hm b _ q λz=>z)];exact q,λb ps q=>⟨#[],by rw[qaa (hm b _ q λz=>z),q];simp⟩⟩
 by_cases dR:b=e
 ·subst dR;exact d7
 ·exact⟨u,k b u dR q⟩
end
noncomputable def trk(h:Heap)(H:Hp):List Addr:=(List.range h.objs.size).filter λa=>(H a).isSome
noncomputable def qi7(h:Heap)(H:Hp):Heap:=W.hideAll h (trk h H)
theorem qi6(h:Heap)(H:Hp):(qi7 h H).objs.size=h.objs.size:=W.hideAll_size _ _
theorem qkL(e:h.get? b=some o)(n:H b=none):(qi7 h H).get? b=some o:=
 W.hideAll_get _ e λhm=>by have q:(H b).isSome=true:=(List.mem_filter.mp hm).2;rw[n] at q;simp at q
theorem qnh(e:(qi7 h H).get? b=some o):h.get? b=some o/\H b=none:=by
 have e':h.get? b=some o:=W.of_hideAll (trk h H) e;refine⟨e',?_⟩;cases q:H b with
 |none=>rfl
 |some x=>have hm:b∈trk h H:=List.mem_filter.mpr ⟨List.mem_range.mpr (Vj e'),by simp[q]⟩;have z:(qi7 h H).get? b=none:=W.hideAll_none (trk h H) hm;rw[z] at e;cases e
noncomputable def qon(g h:Heap)(L:Addr):List (Addr×Obj):=(List.range h.objs.size).filterMap λa=>if a=L\/(g.get? a).isSome=true then none else(h.get? a).map λo=>(a,o)
noncomputable def qbU(g h:Heap)(L d:Addr):List (Addr×Obj):=(qon g h L).filter λp=>decide (p.1≠d)
structure Mod(K:W.Frag)(mg:Str->Option Value)(base:Heap):Prop where
 kin:K.In base
 glob:base.Ns mainGlobals mg
 blt: ∃mb,base.Ns builtinsNs mb/\∀x:Str,x≠ "__name__" ->mb x=bootBuiltins x
 nolimit:base.NoLimit
structure Cx where
 prog:Program
 w:World
 K:W.Frag
 mg:Str->Option Value
 base:Heap
 A:Around
 N:List Str
 s₀:Shared
 H₀:Hp
 env:Env
 outer:List Env
 stack:List Env
 ex:List Addr
 fn:Str->Bool
 calm:Bool
 pn:List (Addr×Obj)
 xe:Value->Shared->Prop
noncomputable def frs(l:List Env):List Addr:=l.filterMap (·.frame)
abbrev Cx.fs(X:Cx):List Addr:=frs X.outer
noncomputable def Vis(sc:Scope)(x:Str):Prop:=sc.names.lookup x=some .local\/sc.names.lookup x=some .cell\/sc.names.lookup x=some .free
noncomputable def Loc(sc:Scope)(x:Str):Prop:=sc.names.lookup x=some .local\/sc.names.lookup x=some .cell
noncomputable def qvz(env:Env)(h:Heap)(m:Str->Option Value)(x:Str)(u:Value):Prop:=
 (env.kindOf x=some .local/\m x=some u)\/((env.kindOf x=some .cell\/env.kindOf x=some .free)/\∃c,env.cells.lookup x=some c/\h.IsCell c (some u))
structure Cx.Ok(X:Cx):Prop where
 mod:Mod X.K X.mg X.base
 kind:X.env.scope.kind= .function
 glob:X.env.globals=mainGlobals
 blt:X.env.builtins=builtinsNs
 above:X.s₀.heap.objs.size<=X.env.locals
 inj: ∀x y c,X.env.cells.lookup x=some c->X.env.cells.lookup y=some c->x=y
 has: ∀x,(X.env.kindOf x=some .cell\/X.env.kindOf x=some .free)->∃c,X.env.cells.lookup x=some c
 cab: ∀x c,X.fn x=true->X.env.cells.lookup x=some c->X.s₀.heap.objs.size<=c
 hd:X.calm=true->X.A.handled=none
 frames:X.A.frames=some X.stack
 stk:X.stack=X.outer\/(X.stack=X.env::X.outer/\X.env.frame=some X.env.locals)
 exf: ∀b∈X.ex,b≠X.env.locals/\∀x c,X.env.cells.lookup x=some c->c≠b
 bs: ∀b o,X.base.get? b=some o->X.s₀.heap.get? b=some o/\X.H₀ b=none
 bsz:X.base.objs.size<=X.s₀.heap.objs.size
 noex: ∀b o,X.base.get? b=some o->b∉X.ex
 exfs: ∀b∈X.ex,b∉X.fs
 funs:X.s₀.heap.FunFrames X.base X.outer
 frf: ∀b∈X.fs,X.H₀ b=none
structure Inv(X:Cx)(pins:List (Addr×Obj))(σ:List (Option V))(H:Hp)(s:Shared):Prop where
 ok:X.Ok
 os:s.os=X.s₀.os
 bare:AllBare s.gens
 base:Un X.fs X.ex X.H₀ H X.s₀.heap s.heap
 loc: ∃m,s.heap.Ns X.env.locals m/\∀(i:Nat) (x:Str) (v:V),X.N[i]? =some x->σ[i]? =some (some v)->Vis X.env.scope x->∃u,RelV v u/\qvz X.env s.heap m x u
 cell: ∀x c,X.env.cells.lookup x=some c->∃v,s.heap.IsCell c v
 free:H X.env.locals=none
 freeC: ∀x c,X.env.cells.lookup x=some c->H c=none
 pin: ∀p∈X.pn++pins,s.heap.get? p.1=some p.2/\H p.1=none/\p.1≠X.env.locals/\p.1∉X.fs/\∀v,p.2.data≠.cell v
 hok:HOk X.prog X.w H s.heap
 len:σ.length=X.N.length
section
theorem Cx.Ok.nofr{X:Cx}(ok:X.Ok)(e:X.base.get? b=some o):b∉X.fs:=λhb=>by have:=(ok.funs.mem hb).1;rw[e] at this;cases this
theorem Inv.bs{X:Cx}{s:Shared}(I:Inv X pins σ H s): ∀b o,X.base.get? b=some o->s.heap.get? b=some o/\H b=none:=λb o e=>
 ⟨I.base.keep b o (I.ok.bs b o e).1 (I.ok.bs b o e).2 (I.ok.nofr e) (I.ok.noex b o e),I.base.free b o (I.ok.bs b o e).1 (I.ok.bs b o e).2 (I.ok.noex b o e)⟩
theorem Inv.bk(I:Inv X pins σ H s): ∀b o,X.base.get? b=some o->s.heap.get? b=some o:=λb o e=>(I.bs b o e).1
theorem Inv.mod(I:Inv X pins σ H s):Mod X.K X.mg X.base:=I.ok.mod
theorem Inv.kIn(I:Inv X pins σ H s):X.K.In s.heap:=I.ok.mod.kin.keeps I.bk
theorem Inv.lt(I:Inv X pins σ H s):X.env.locals<s.heap.objs.size:=let ⟨_,hn,_⟩:=I.loc;hn.lt
theorem Inv.sz(I:Inv X pins σ H s):X.s₀.heap.objs.size<=s.heap.objs.size:=Vq I.ok.above (Vp I.lt)
theorem Inv.nofs(I:Inv X pins σ H s)(h:s.heap.objs.size<=a):a∉X.fs:=λhb=>by obtain⟨_,o,ho,_⟩:=I.ok.funs.mem hb;exact absurd (Vn (Vj ho) (Vq I.sz h)) (Nat.lt_irrefl _)
theorem Inv.cne(I:Inv X pins σ H s): ∀x c,X.env.cells.lookup x=some c->c≠X.env.locals:=λx c e z=>by obtain⟨v,o,ho,hd⟩:=I.cell x c e;obtain⟨m,⟨o',es,ep,bj,dP,_⟩,_⟩:=I.loc;rw[z,bj] at ho;cases ho;rw[dP] at hd;cases hd
theorem Inv.funs(I:Inv X pins σ H s):s.heap.FunFrames X.base X.outer:=by
 have all: ∀(l:List Env),(∀b∈frs l,b∈X.fs)->X.s₀.heap.FunFrames X.base l->s.heap.FunFrames X.base l:=by
  intro l
  induction l with
  |nil=>intro _ _;trivial
  |cons env r ih=>intro hs hl;obtain⟨hk,⟨L,o,hf,hn,ho,hd⟩,hr⟩:=hl;have hL:L∈X.fs:=hs L (by unfold frs;rw[List.filterMap_cons,hf];exact Vk);obtain⟨sl,e⟩:=I.base.slot L o ho (I.ok.frf L hL) hL λz=>I.ok.exfs L z hL;exact⟨hk,⟨L,_,hf,hn,e,hd⟩,ih (λb hb=>hs b (by unfold frs;rw[List.filterMap_cons,hf];exact Vl _ hb)) hr⟩
 exact all X.outer (λ_ hb=>hb) I.ok.funs
theorem Inv.stack(I:Inv X pins σ H s):s.heap.FunFrames X.base X.stack:=by
 rcases I.ok.stk with e|⟨e,hf⟩
 ·rw[e];exact I.funs
 ·rw[e];obtain⟨m,hn,_⟩:=I.loc;refine .cons (by rw[I.ok.kind];decide) hf hn ?_ I.funs;exact Heap.get?_none_of_le (Vq I.ok.bsz I.ok.above)
theorem Inv.stkSub(I:Inv X pins σ H s): ∀b∈frs X.stack,b∈X.env.locals::X.fs:=λb hb=>by
 rcases I.ok.stk with e|⟨e,hf⟩
 ·rw[e] at hb;exact Vl _ hb
 ·rw[e] at hb;unfold frs at hb;rw[List.filterMap_cons,hf] at hb;exact hb
theorem Inv.stkFree(I:Inv X pins σ H s): ∀b∈frs X.stack,H b=none:=λb hb=>by
 rcases List.mem_cons.mp (I.stkSub b hb) with e|hb
 ·rw[e];exact I.free
 ·obtain⟨_,o,ho,_⟩:=I.ok.funs.mem hb;exact I.base.free b o ho (I.ok.frf b hb) λz=>I.ok.exfs b z hb
theorem Inv.step {X:Cx} {pins:List (Addr×Obj)} {σ:List (Option V)} {H:Hp} {H':Hp} {s:Shared} {h':Heap} {g':Array GenState} {t':Nat} {d':Drawn} {ch:List Addr} (I:Inv X pins σ H s) (aN: ∀b∈ch,(b∈X.ex\/X.s₀.heap.objs.size<=b)/\b≠X.env.locals/\(∀x c,X.env.cells.lookup x=some c->c≠b)/\∀p∈X.pn++pins,p.1≠b) (keep: ∀b o,b≠X.env.locals->b∉X.fs->b∉ch->s.heap.get? b=some o->H b=none->h'.get? b=some o) (slot: ∀b o,b≠X.env.locals->b∈X.fs->b∉ch->s.heap.get? b=some o->H b=none->∃sl,h'.get? b=some { o with slots:=sl }) (free: ∀b o,b∉ch->s.heap.get? b=some o->H b=none->H' b=none) (there: ∀b o,b∉ch->s.heap.get? b=some o->∃o',h'.get? b=some o') (tups: ∀b xs,H b=some (.tup xs)->H' b=some (.tup xs)) (frzs: ∀b o u,H b=some (.frz o u)->H' b=some (.frz o u)) (tbls: ∀b ps,H b=some (.tbl ps)->∃more,H' b=some (.tbl (ps++more))) (ns: ∀m,s.heap.Ns X.env.locals m->h'.Ns X.env.locals m) (hok:HOk X.prog X.w H' h') (hg:AllBare g'):
  Inv X pins σ H' { s with heap:=h',gens:=g',drawn:=d',toks:=t' }:=by
 have cQ: ∀b o,X.s₀.heap.get? b=some o->b≠X.env.locals:=λb o e=>Vo (Vn (Vj e) I.ok.above);have fJ: ∀b o,X.s₀.heap.get? b=some o->b∉X.ex->b∉ch:=λb o e hx hb=>by
  rcases(aN b hb).1 with z|z
  ·exact hx z
  ·exact absurd (Vn (Vj e) z) (Nat.lt_irrefl _)
 have cellK: ∀x c,X.env.cells.lookup x=some c->∀v,s.heap.IsCell c v->h'.IsCell c v:=λx c e v ⟨o,ho,hd⟩=>by
  have bX:c∉ch:=λz=>(aN c z).2.2.1 x c e rfl;by_cases hc:c∈X.fs
  ·obtain⟨sl,q⟩:=slot c o (I.cne x c e) hc bX ho (I.freeC x c e);exact⟨_,q,hd⟩
  ·exact⟨o,keep c o (I.cne x c e) hc bX ho (I.freeC x c e),hd⟩
 refine⟨I.ok,I.os,hg,⟨λb o e n hb hx=> ?_,λb o e n hb hx=> ?_,λb o e n hx=> ?_,λb o e hx=> ?_,λb xs e=>tups b xs (I.base.tups b xs e),λb o xs e=>frzs b o xs (I.base.frzs b o xs e),λb ps e=> ?_⟩,?_,λx c e=> ?_,?_,λx c e=> ?_,λp hp=> ?_,hok,I.len⟩
 ·exact keep b o (cQ b o e) hb (fJ b o e hx) (I.base.keep b o e n hb hx) (I.base.free b o e n hx)
 ·obtain⟨sl,e1⟩:=I.base.slot b o e n hb hx;obtain⟨dY,e2⟩:=slot b _ (cQ b o e) hb (fJ b o e hx) e1 (I.base.free b o e n hx);exact⟨dY,e2⟩
 ·obtain⟨o',e1⟩:=I.base.there b o e hx;exact free b o' (fJ b o e hx) e1 (I.base.free b o e n hx)
 ·obtain⟨o',e1⟩:=I.base.there b o e hx;exact there b o' (fJ b o e hx) e1
 ·obtain⟨m1,e1⟩:=I.base.tbls b ps e;obtain⟨m2,e2⟩:=tbls b _ e1;exact⟨m1++m2,by rw[e2,Array.append_assoc]⟩
 ·obtain⟨m,hn,hl⟩:=I.loc;refine⟨m,ns m hn,λi x v e1 e2 e3=> ?_⟩;obtain⟨u,r,l⟩:=hl i x v e1 e2 e3;refine⟨u,r,?_⟩
  rcases l with l|⟨k,c,e,z⟩
  ·exact .inl l
  ·exact .inr ⟨k,c,e,cellK x c e _ z⟩
 ·obtain⟨v,z⟩:=I.cell x c e;exact⟨v,cellK x c e v z⟩
 ·obtain⟨m,⟨o,_,_,ho,_⟩,_⟩:=I.loc;exact free _ o (λz=>(aN _ z).2.1 rfl) ho I.free
 ·obtain⟨v,o,ho,hd⟩:=I.cell x c e;exact free c o (λz=>(aN c z).2.2.1 x c e rfl) ho (I.freeC x c e)
 ·obtain⟨e,n,ne,nf,d⟩:=I.pin p hp;have bX:p.1∉ch:=λz=>(aN p.1 z).2.2.2 p hp rfl;exact⟨keep p.1 p.2 ne nf bX e n,free p.1 p.2 bX e n,ne,nf,d⟩
theorem Inv.un{X:Cx}{pins:List (Addr×Obj)}{σ:List (Option V)}{H:Hp}{H':Hp}{s:Shared}{h':Heap}{t':Nat}(I:Inv X pins σ H s)(u:Un X.fs [] H H' s.heap h')(hok:HOk X.prog X.w H' h'):Inv X pins σ H' { s with heap:=h',toks:=t' }:=by
 obtain⟨m,⟨o,es,ep,ho,r⟩,_⟩:=id I.loc;obtain⟨sl,hL⟩:=u.any ho I.free (by simp);exact I.step (g':=s.gens) (d':=s.drawn) (ch:=[]) (λ_ z=>nomatch z) (λb o _ hb _ e n=>u.keep b o e n hb (by simp)) (λb o _ hb _ e n=>u.slot b o e n hb (by simp)) (λb o _ e n=>u.free b o e n (by simp)) (λb o _ e=>u.there b o e (by simp)) u.tups u.frzs u.tbls (λm' hm=>by
  obtain⟨o',fm,ip,bj,r'⟩:=hm;rw[ho] at bj;cases bj;exact⟨_,fm,ip,hL,r'⟩) hok I.bare
theorem Inv.call {X:Cx} {pins:List (Addr×Obj)} {σ:List (Option V)} {H:Hp} {H':Hp} {s:Shared} {h':Heap} {g':Array GenState} {t':Nat} {d':Drawn} {ch:List Addr} (I:Inv X pins σ H s) (u:Un (frs X.stack) ch H H' s.heap h') (hok:HOk X.prog X.w H' h') (hg:AllBare g') (aN: ∀b∈ch,(b∈X.ex\/X.s₀.heap.objs.size<=b)/\b≠X.env.locals/\(∀x c,X.env.cells.lookup x=some c->c≠b)/\∀p∈X.pn++pins,p.1≠b):
  Inv X pins σ H' { s with heap:=h',gens:=g',drawn:=d',toks:=t' }:=by
 obtain⟨m,⟨o,es,ep,ho,r⟩,_⟩:=id I.loc;obtain⟨sl,hL⟩:=u.any ho I.free λz=>(aN _ z).2.1 rfl;exact I.step (ch:=ch) aN (λb o hL hb hc e n=>u.keep b o e n (λz=>(List.mem_cons.mp (I.stkSub b z)).elim hL hb) hc) (λb o _ _ hc e n=>u.any e n hc) (λb o hc e n=>u.free b o e n hc) (λb o hc e=>u.there b o e hc) u.tups u.frzs u.tbls (λm' hm=>by
  obtain⟨o',fm,ip,bj,r'⟩:=hm;rw[ho] at bj;cases bj;exact⟨_,fm,ip,hL,r'⟩) hok hg
theorem Inv.turned{X:Cx}{pins:List (Addr×Obj)}{σ:List (Option V)}{H:Hp}{s:Shared}{h':Heap}{t':Nat}{it:Addr}(I:Inv X pins σ H s)(k: ∀b o,b≠it->s.heap.get? b=some o->h'.get? b=some o)(hn:H it=none)(hL:it≠X.env.locals)(h1:it∈X.ex\/X.s₀.heap.objs.size<=it)(h2: ∀x c,X.env.cells.lookup x=some c->c≠it)(h3: ∀p∈X.pn++pins,p.1≠it):Inv X pins σ H { s with heap:=h',toks:=t' }:=by
 have iJ: ∀b u,H b=some u->b≠it:=λb u e z=>by rw[z,hn] at e;cases e
 refine I.step (g':=s.gens) (d':=s.drawn) (ch:=[it]) (λb hb=> ?_) (λb o _ _ hc e _=>k b o (λz=>hc (by simp[z])) e) (λb o _ _ hc e _=>⟨o.slots,k b o (λz=>hc (by simp[z])) e⟩) (λ_ _ _ _ n=>n)
  (λb o hc e=>⟨o,k b o (λz=>hc (by simp[z])) e⟩) (λ_ _ e=>e) (λ_ _ _ e=>e) (λb ps e=>⟨#[],by rw[e];simp⟩) (λm hm=> ?_) (λb u e=> ?_) I.bare
 ·have e:b=it:=by simpa using hb
  subst e;exact⟨h1,hL,h2,h3⟩
 ·obtain⟨o,es,ep,ho,r⟩:=hm;exact⟨o,es,ep,k _ o (Ne.symm hL) ho,r⟩
 ·refine(I.hok b u e).stay (λc v hc q=>k c v ?_ q) (λ_ q=>q) λ_ _ q=>q
  rcases hc with z|z
  ·rw[z];exact iJ b u e
  ·exact iJ c _ z
theorem Inv.tok(I:Inv X pins σ H s)(t:Nat):Inv X pins σ H { s with toks:=t }:=I.un (h':=s.heap) (t':=t) Un.refl I.hok
theorem Inv.kept(I:Inv X pins σ H s)(k: ∀b u,s.heap.get? b=some u->h'.get? b=some u):Inv X pins σ H { s with heap:=h',toks:=t' }:=I.un (Un.kept k) (I.hok.kept k)
theorem Inv.laid (I:Inv X pins σ H s) (k: ∀b u,s.heap.get? b=some u->h'.get? b=some u) (hp:s.heap.objs.size<=a) (new:qaA X.prog X.w (upd H a o) h' a o):
  Inv X pins σ (upd H a o) { s with heap:=h',toks:=t' }:=I.un (Un.laid k hp (I.hok.fresh hp)) (I.hok.laid k hp new)
theorem Inv.write(I:Inv X pins σ H s)(mu:Mut (H x))(he:e=x\/H e=some (.own x))(k: ∀b u,b≠e->s.heap.get? b=some u->h'.get? b=some u)(d7: ∃u,h'.get? e=some u)(new:qaA X.prog X.w (upd H x o) h' x o):Inv X pins σ (upd H x o) { s with heap:=h',toks:=t' }:=I.un (Un.write mu he k d7) (I.hok.write mu he k d7 new)
theorem Inv.pins_of(I:Inv X pins σ H s)(h: ∀p∈aZ,s.heap.get? p.1=some p.2/\H p.1=none/\p.1≠X.env.locals/\p.1∉X.fs/\∀v,p.2.data≠.cell v):Inv X aZ σ H s:=
 ⟨I.ok,I.os,I.bare,I.base,I.loc,I.cell,I.free,I.freeC,λp hp=>(List.mem_append.mp hp).elim (λz=>I.pin p (Vs _ z)) (h p),I.hok,I.len⟩
theorem qd9{N:List Str}(hN:N.Nodup){i j:Nat}(a:N[i]? =some x)(b:N[j]? =some x):i=j:=by obtain⟨h1,e1⟩:=List.getElem?_eq_some_iff.mp a;obtain⟨h2,e2⟩:=List.getElem?_eq_some_iff.mp b;exact(List.getElem_inj hN).mp (e1.trans e2.symm)
theorem qeL{X:Cx}{σ:List (Option V)}{s:Shared}{i:Nat}(I:Inv X pins σ H s)(hN:X.N.Nodup)(hi:X.N[i]? =some x)(hx:Loc X.env.scope x)(r:RelV v u)(h: ∀s',Inv X pins (σ.set i (some v)) H s'->(∃a,Heap.SameBut a s.heap s'.heap/\(a=X.env.locals\/X.env.cells.lookup x=some a))->Q () s')(hf:X.fn x=true\/X.env.scope.names.lookup x=some .local:=by first|exact .inl rfl|exact .inr rfl|assumption):wpAny M A (storeName X.env x u) Q E s:=by
 obtain⟨m,hn,hl⟩:=id I.loc;have dQ:(X.env.scope.kind== .class||(X.env.scope.kind== .module&&X.env.locals != X.env.globals))=false:=by rw[I.ok.kind];rfl
 have cK:i<σ.length:=by rw[I.len];exact(List.getElem?_eq_some_iff.mp hi).1
 have cne:=I.cne;have tracked: ∀{a:Addr} {h':Heap},(∃o,s.heap.get? a=some o/\H a=none)->Heap.SameBut a s.heap h'->HOk X.prog X.w H h':=λ{a h'} ha hs b ob e=>by
  obtain⟨_,_,ah⟩:=ha;refine(I.hok b ob e).stay (λc w' hc q=>(hs.2 c ?_).trans q) (λ_ q=>q) λ_ _ q=>q;rintro rfl
  rcases hc with rfl|hc
  ·rw[ah] at e;cases e
  ·rw[ah] at hc;cases hc
 rcases hx with hk|hk
 ·refine wpAny_storeName_local hk hn (λh' gL hs=> ?_) dQ;obtain⟨oL,_,_,hoL,_⟩:=id hn;refine h _ ⟨I.ok,I.os,I.bare,⟨λb o e n hb hx=> ?_,λb o e n hb hx=> ?_,I.base.free,λb o e hx=> ?_,I.base.tups,I.base.frzs,I.base.tbls⟩,⟨_,gL,λj y v' e1 e2 e3=> ?_⟩,λy c e=> ?_,I.free,I.freeC,λp hp=> ?_,tracked ⟨oL,hoL,I.free⟩ hs,by simpa using I.len⟩ ⟨_,hs,.inl rfl⟩
  ·exact(hs.2 b (Vo (Vn (Vj e) I.ok.above))).trans (I.base.keep b o e n hb hx)
  ·obtain⟨sl,e1⟩:=I.base.slot b o e n hb hx;exact⟨sl,(hs.2 b (Vo (Vn (Vj e) I.ok.above))).trans e1⟩
  ·obtain⟨o',e1⟩:=I.base.there b o e hx;exact⟨o',(hs.2 b (Vo (Vn (Vj e) I.ok.above))).trans e1⟩
  ·by_cases hj:j=i
   ·subst hj;rw[hi] at e1;cases e1;rw[List.getElem?_set_self cK] at e2;cases e2;exact⟨u,r,.inl ⟨hk,by simp⟩⟩
   ·rw[List.getElem?_set_ne (Ne.symm hj)] at e2;obtain⟨u',r',q⟩:=hl j y v' e1 e2 e3;refine⟨u',r',?_⟩
    rcases q with⟨k,e⟩|⟨k,c,e,z⟩
    ·refine .inl ⟨k,?_⟩;have:y≠x:=λe=>hj (qd9 hN e1 (e▸hi));simp[this,e]
    ·exact .inr ⟨k,c,e,z.sameBut hs (cne y c e)⟩
  ·obtain⟨w',z⟩:=I.cell y c e;exact⟨w',z.sameBut hs (cne y c e)⟩
  ·obtain⟨e,n,ne,nf,d⟩:=I.pin p hp;exact⟨(hs.2 p.1 ne).trans e,n,ne,nf,d⟩
 ·have dI:X.fn x=true:=by
   rcases hf with z|z
   ·exact z
   ·rw[z] at hk;cases hk
  obtain⟨c,hc⟩:=I.ok.has x (.inl hk);obtain⟨w',z⟩:=I.cell x c hc;refine wpAny_storeName_cell I.ok.kind hk hc z (λh' bM hs=> ?_);obtain⟨oc,d5,gK⟩:=id z;refine h { s with heap:=h' } ⟨I.ok,I.os,I.bare,⟨λb o e n hb hx=> ?_,λb o e n hb hx=> ?_,I.base.free,λb o e hx=> ?_,I.base.tups,I.base.frzs,I.base.tbls⟩,⟨m,hn.sameBut hs (Ne.symm (cne x c hc)),λj y v' e1 e2 e3=> ?_⟩,λy c' e=> ?_,I.free,I.freeC,λp hp=> ?_,tracked ⟨oc,d5,I.freeC x c hc⟩ hs,by simpa using I.len⟩ ⟨c,hs,.inr hc⟩
  ·exact(hs.2 b (Vo (Vn (Vj e) (I.ok.cab x c dI hc)))).trans (I.base.keep b o e n hb hx)
  ·obtain⟨sl,e1⟩:=I.base.slot b o e n hb hx;exact⟨sl,(hs.2 b (Vo (Vn (Vj e) (I.ok.cab x c dI hc)))).trans e1⟩
  ·obtain⟨o',e1⟩:=I.base.there b o e hx;exact⟨o',(hs.2 b (Vo (Vn (Vj e) (I.ok.cab x c dI hc)))).trans e1⟩
  ·by_cases hj:j=i
   ·subst hj;rw[hi] at e1;cases e1;rw[List.getElem?_set_self cK] at e2;cases e2;exact⟨u,r,.inr ⟨.inl hk,c,hc,bM⟩⟩
   ·rw[List.getElem?_set_ne (Ne.symm hj)] at e2;obtain⟨u',r',q⟩:=hl j y v' e1 e2 e3;refine⟨u',r',?_⟩
    rcases q with q|⟨k,c',e,z'⟩
    ·exact .inl q
    ·refine .inr ⟨k,c',e,z'.sameBut hs ?_⟩;rintro rfl;exact hj (qd9 hN e1 (I.ok.inj _ _ _ e hc▸hi))
  ·by_cases cY:c'=c
   ·subst cY;exact⟨_,bM⟩
   ·obtain⟨w2,z2⟩:=I.cell y c' e;exact⟨w2,z2.sameBut hs cY⟩
  ·obtain⟨e,n,ne,nf,d⟩:=I.pin p hp;refine⟨(hs.2 p.1 ?_).trans e,n,ne,nf,d⟩;intro q;rw[q,d5] at e;have q':oc=p.2:=Option.some.inj e;exact d w' (by rw[<-q'];exact gK)
theorem qaV(I:Inv X pins σ H s)(hN:X.N.Nodup)(hi:X.N[i]? =some x)(hx:Loc X.env.scope x)(r:RelV v u)(h: ∀s',Inv X pins (σ.set i (some v)) H s'->Q () s')(hf:X.fn x=true\/X.env.scope.names.lookup x=some .local:=by first|exact .inl rfl|exact .inr rfl|assumption):wpAny M A (storeName X.env x u) Q E s:=
 qeL I hN hi hx r (λs' I' _=>h s' I') hf
theorem Inv.call'(I:Inv X pins σ H s)(ho:s'.os=s.os)(u:Un (frs X.stack) ch H H' s.heap s'.heap)(hok:HOk X.prog X.w H' s'.heap)(hg:AllBare s'.gens)(aN: ∀b∈ch,(b∈X.ex\/X.s₀.heap.objs.size<=b)/\b≠X.env.locals/\(∀x c,X.env.cells.lookup x=some c->c≠b)/\∀p∈X.pn++pins,p.1≠b):Inv X pins σ H' s':=by obtain⟨h',g',d',t',o'⟩:=s';have e:o'=s.os:=ho;subst e;exact I.call (g':=g') (t':=t') (d':=d') u hok hg aN
end
abbrev XK:=Value->Option Addr->Hp->Prop
abbrev St:=List (Option V)
abbrev VK:=V->Hp->Prop
abbrev TE:=St->Hp->VK->Prop
abbrev TT:=St->Hp->(Bool->Hp->Prop)->Prop
abbrev TA:=St->Hp->(List V->Hp->Prop)->Prop
structure qmf where
 nx:St->Hp->Prop
 rt:VK
 bk:St->Hp->Prop:=λ_ _=>False
 ct:St->Hp->Prop:=λ_ _=>False
abbrev TS:=qmf->St->Hp->Prop
noncomputable def EP(X:Cx)(pins:List (Addr×Obj))(σ:St)(Q:VK)(u:Value)(s':Shared):Prop:= ∃v H',Inv X pins σ H' s'/\RelV v u/\Q v H'
noncomputable def TP(X:Cx)(pins:List (Addr×Obj))(σ:St)(Q:Bool->Hp->Prop)(b:Bool)(s':Shared):Prop:= ∃H',Inv X pins σ H' s'/\Q b H'
noncomputable def AP(X:Cx)(pins:List (Addr×Obj))(σ:St)(Q:List V->Hp->Prop)(us:List Value)(s':Shared):Prop:= ∃vs H',Inv X pins σ H' s'/\qan vs us/\Q vs H'
noncomputable def SP(X:Cx)(pins:List (Addr×Obj))(D:qmf)(f:Flow)(s':Shared):Prop:=
 match f with
 |.next=> ∃af H',Inv X pins af H' s'/\D.nx af H'
 |.brk=> ∃af H',Inv X pins af H' s'/\D.bk af H'
 |.cont=> ∃af H',Inv X pins af H' s'/\D.ct af H'
 |.ret u=> ∃v af H',Inv X pins af H' s'/\RelV v u/\D.rt v H'
noncomputable def PE(X:Cx)(e:Expr)(t:TE):Prop:=
 ∀(pins:List (Addr×Obj)) (s:Shared) (σ:St) (H:Hp) (Q:VK),Inv X pins σ H s->t σ H Q->wpAny (model X.prog X.w) X.A (eval e X.env) (EP X pins σ Q) X.xe s
noncomputable def PT(X:Cx)(e:Expr)(t:TT):Prop:=
 ∀(pins:List (Addr×Obj)) (s:Shared) (σ:St) (H:Hp) (Q:Bool->Hp->Prop),Inv X pins σ H s->t σ H Q->wpAny (model X.prog X.w) X.A (isTrue e X.env (eval e X.env)) (TP X pins σ Q) X.xe s
noncomputable def PW(X:Cx)(e:Expr)(t:TT):Prop:=
 ∀(whole:Sem Value) (pins:List (Addr×Obj)) (s:Shared) (σ:St) (H:Hp) (Q:Bool->Hp->Prop),Inv X pins σ H s->t σ H Q->wpAny (model X.prog X.w) X.A (isTrue e X.env whole) (TP X pins σ Q) X.xe s
theorem PW.pt{X:Cx}{e:Expr}{t:TT}(h:PW X e t):PT X e t:=h _
noncomputable def PA(X:Cx)(es:List Expr)(t:TA):Prop:=
 ∀(pos:Pos) (pins:List (Addr×Obj)) (s:Shared) (σ:St) (H:Hp) (Q:List V->Hp->Prop),Inv X pins σ H s->t σ H Q->wpAny (model X.prog X.w) X.A (spliced (backTo pos (starEach es X.env))) (AP X pins σ Q) X.xe s
noncomputable def PS(X:Cx)(st:Stmt)(t:TS):Prop:=
 ∀(pins:List (Addr×Obj)) (s:Shared) (σ:St) (H:Hp) (D:qmf),Inv X pins σ H s->t D σ H->wpAny (model X.prog X.w) X.A (exec st X.env) (SP X pins D) X.xe s
noncomputable def PSs(X:Cx)(st:List Stmt)(t:TS):Prop:=
 ∀(pins:List (Addr×Obj)) (s:Shared) (σ:St) (H:Hp) (D:qmf),Inv X pins σ H s->t D σ H->wpAny (model X.prog X.w) X.A (execs st X.env) (SP X pins D) X.xe s
theorem thn(h:wpAny M A t Q E s)(hQ: ∀a s,Q a s->Q' a s):wpAny M A t Q' E s:=Vc h hQ λ_ _ x=>x
section
theorem bin {X:Cx} {a b:Expr} {ta tb:TE} (ha:PE X a ta) (hb:PE X b tb) {pins:List (Addr×Obj)} {s:Shared} {σ:St} {H:Hp} {R:V->V->Hp->Prop} (I:Inv X pins σ H s) (h:ta σ H λx H1=>tb σ H1 λy H2=>R x y H2) {α:Type} {Q:α->Shared->Prop} {f:Value->Value->Sem α} (hf: ∀v u s2 x y H2,Inv X pins σ H2 s2->RelV x v->RelV y u->R x y H2->wpAny (model X.prog X.w) X.A (f v u) Q X.xe s2):
  wpAny (model X.prog X.w) X.A (eval a X.env) (λv ae=>wpAny (model X.prog X.w) X.A (eval b X.env) (λu aI=>wpAny (model X.prog X.w) X.A (f v u) Q X.xe aI) X.xe ae) X.xe s:=by refine thn (ha pins s σ H _ I h) λv s1 ⟨x,H1,I1,r1,q1⟩=> ?_;refine thn (hb pins s1 σ H1 _ I1 q1) λu s2 ⟨y,H2,I2,r2,q2⟩=> ?_;exact hf v u s2 x y H2 I2 r1 r2 q2
noncomputable def qms(i:Nat):TE:=λσ H Q=> ∃v,σ[i]? =some (some v)/\Q v H
noncomputable def tC(v:V):TE:=λ_ H Q=>Q v H
theorem qeX (hN:X.N[i]? =some x) (hv:Vis X.env.scope x) (hd:(x==("__debug__" :Str))=false:=by decide) (aH:(x==("__classdict__" :Str))=false:=by decide):PE X (.Name x pos) (qms i):=by
 intro pins s σ H Q I h;obtain⟨v,e,h⟩:=h;obtain⟨m,hn,hl⟩:=I.loc;obtain⟨u,r,l⟩:=hl i x v hN e hv;have fin:EP X pins σ Q u s:=⟨v,H,I,r,h⟩
 rcases l with⟨hk,hm⟩|⟨hk,c,hc,aj⟩
 ·exact wpAny_Name (wpAny_loadName_local I.ok.kind hk hn hm fin) hd
 ·rcases hk with hk|hk
  ·exact wpAny_Name (wpAny_loadName_cell I.ok.kind hk hc aj fin) hd
  ·exact wpAny_Name (wpAny_loadName_free I.ok.kind hk hc aj fin aH) hd
theorem qlR{i j pos}:PE X (.Constant (.int i) j pos) (tC (.int i)):=λ_ _ _ H _ I h=>wpAny_Constant_int ⟨.int i,H,I.tok _,⟨_,rfl⟩,h⟩
theorem qm3{b j pos}:PE X (.Constant (.bool b) j pos) (tC (.bl b)):=λ_ _ _ H _ I h=>Constant_bool ⟨.bl b,H,I,rfl,h⟩
theorem qpn{j pos}:PE X (.Constant .none j pos) (tC .non):=λ_ _ _ H _ I h=>Constant_none ⟨.non,H,I,rfl,h⟩
theorem qgL{x j pos}:PE X (.Constant (.str x) j pos) (tC (.str x)):=λ_ _ _ H _ I h=>Calls.Constant_str ⟨.str x,H,I.tok _,⟨_,rfl⟩,h⟩
noncomputable def Gl(X:Cx)(x:Str):Prop:=X.env.kindOf x=some .globalImplicit
theorem qbf (I:Inv X pins σ H s) (hg:Gl X x) (hm:X.mg x=some u) (h:Q u s) (hd:(x==("__debug__" :Str))=false:=by decide):wpAny (model X.prog X.w) X.A (eval (.Name x pos) X.env) Q E s:=
 Calls.Name_function_global I.ok.kind hg (Calls.loadGlobal_global (by rw[I.ok.glob];exact I.mod.glob.keeps I.bk) hm h) hd
theorem qdC (I:Inv X pins σ H s) (hg:Gl X x) (hm:X.mg x=none) (hv:bootBuiltins x=some u) (h:Q u s) (hn:x≠ "__name__" :=by decide) (hd:(x==("__debug__" :Str))=false:=by decide):wpAny (model X.prog X.w) X.A (eval (.Name x pos) X.env) Q E s:=by obtain⟨mb,h1,h2⟩:=I.mod.blt;exact Calls.Name_function_global I.ok.kind hg (Calls.loadGlobal_builtin (by rw[I.ok.glob];exact I.mod.glob.keeps I.bk) hm (by rw[I.ok.blt];exact h1.keeps I.bk) ((h2 x hn).trans hv) h) hd
theorem qbW (hg:Gl X x) (hm:X.mg x=some u) (r:RelV v u) (hd:(x==("__debug__" :Str))=false:=by decide):PE X (.Name x pos) (tC v):=
 λ_ _ _ H _ I h=>qbf I hg hm ⟨v,H,I,r,h⟩ hd
theorem qiu {X:Cx} {x:Str} {v:V} {u:Value} {pos:Pos} (hg:Gl X x) (hm:X.mg x=none) (hv:bootBuiltins x=some u) (r:RelV v u) (hn:x≠ "__name__" :=by decide) (hd:(x==("__debug__" :Str))=false:=by decide):PE X (.Name x pos) (tC v):=
 λ_ _ _ H _ I h=>qdC I hg hm hv ⟨v,H,I,r,h⟩ hn hd
noncomputable def t2I(ta tb:TE)(k:Int->Int->Hp->Prop):St->Hp->Prop:=λσ H=>ta σ H λx H1=>tb σ H1 λy H2=> ∃i j,x= .int i/\y= .int j/\k i j H2
noncomputable def tAdd(ta tb:TE):TE:=λσ H Q=>t2I ta tb (λi j H2=>Q (.int (i+j)) H2) σ H
noncomputable def PC(X:Cx)(op:CmpOp)(a b:Expr)(t:TE):Prop:=
 ∀(pins:List (Addr×Obj)) (s:Shared) (σ:St) (H:Hp) (Q:VK),Inv X pins σ H s->t σ H Q->
  wpAny (model X.prog X.w) X.A (eval a X.env) (λv ae=>wpAny (model X.prog X.w) X.A (eval b X.env) (λu aI=>wpAny (model X.prog X.w) X.A (compareOp op v u) (EP X pins σ Q) X.xe aI) X.xe ae) X.xe s
noncomputable def tB(t:TE):TT:=λσ H Q=>t σ H λx H1=> ∃c,x= .bl c/\Q c H1
theorem qt3(h:PC X op a b t)(h1:behindInMarks op b=false:=by first|exact nobehind _ (by decide) (by decide)|rfl):PT X (.Compare a [op] [b] pos) (tB t):=by intro pins s σ H Q I hw;refine wpAny_isTrue_Compare1 (thn (h pins s σ H _ I hw) λv s1 h1=>thn h1 λu s2 h2=>thn h2 λc s3 ⟨x,H1,I1,r1,q1⟩=> ?_) h1;obtain⟨d,rfl,q⟩:=q1;cases r1;exact Vd ⟨H1,I1,q⟩
theorem qlP{X:Cx}{e:Expr}{t:TE}(h:PE X e t)(he: ∀whole,isTrue e X.env whole=(do let v <-whole;standAt e.pos;holding [v] (truthy v)):=by intro _;rfl):PT X e (tB t):=by intro pins s σ H Q I hw;refine isTrue_plain (thn (h pins s σ H _ I hw) λv s1 ⟨x,H1,I1,r1,q1⟩=> ?_) (he _);obtain⟨d,rfl,q⟩:=q1;cases r1;exact Vd ⟨H1,I1,q⟩
variable {tA fB:TT}{qbU:List Expr}
noncomputable def quI(t u:TT):TT:=λσ H Q=>t σ H λc H1=>if c=true then u σ H1 Q else Q false H1
noncomputable def tOr(t u:TT):TT:=λσ H Q=>t σ H λc H1=>if c=true then Q true H1 else u σ H1 Q
noncomputable def quD(t:TT):TT:=λσ H Q=>t σ H λc H1=>Q (!c) H1
theorem qmM(ha:PT X a tA):PW X (.BoolOp .And [a] pos) tA:=by
 intro wh pins s σ H Q I h;refine isTrue_and (thn (ha pins s σ H Q I h) λc s1 e=> ?_);cases c with
 |true=>exact isTrue_and_nil e
 |false=>exact e
theorem qlO{X:Cx}{a:Expr}{pos:Pos}(ha:PT X a tA):PW X (.BoolOp .Or [a] pos) tA:=by
 intro wh pins s σ H Q I h;refine isTrue_or (thn (ha pins s σ H Q I h) λc s1 e=> ?_);cases c with
 |false=>exact isTrue_or_nil e
 |true=>exact e
theorem qo7(ha:PT X a tA)(hb:PW X (.BoolOp .And (b::qbU) pos) fB):PW X (.BoolOp .And (a::b::qbU) pos) (quI tA fB):=by
 intro wh pins s σ H Q I h;refine isTrue_and (thn (ha pins s σ H _ I h) λc s1 ⟨H1,I1,q1⟩=> ?_);cases c with
 |true=>exact hb wh pins s1 σ H1 Q I1 q1
 |false=>exact⟨H1,I1,q1⟩
theorem qo6{X:Cx}{a:Expr}{b:Expr}{pos:Pos}(ha:PT X a tA)(hb:PW X (.BoolOp .Or (b::qbU) pos) fB):PW X (.BoolOp .Or (a::b::qbU) pos) (tOr tA fB):=by
 intro wh pins s σ H Q I h;refine isTrue_or (thn (ha pins s σ H _ I h) λc s1 ⟨H1,I1,q1⟩=> ?_);cases c with
 |true=>exact⟨H1,I1,q1⟩
 |false=>exact hb wh pins s1 σ H1 Q I1 q1
theorem qlQ{X:Cx}{a:Expr}{pos:Pos}(ha:PT X a tA):PT X (.UnaryOp .Not a pos) (quD tA):=by intro pins s σ H Q I h;exact isTrue_not (ha pins s σ H (λc H1=>Q (!c) H1) I h)
noncomputable def qrJ(ta tb:TE):TE:=λσ H Q=>ta σ H λx H1=> ∃c,x= .bl c/\if c=true then tb σ H1 Q else Q (.bl false) H1
noncomputable def quC(ta tb:TE):TE:=λσ H Q=>ta σ H λx H1=> ∃c,x= .bl c/\if c=true then Q (.bl true) H1 else tb σ H1 Q
noncomputable def qrG(ta:TE):TE:=λσ H Q=>ta σ H λx H1=> ∃c,x= .bl c/\Q (.bl (!c)) H1
theorem qpr(ha:PE X a ta)(hb:PE X (.BoolOp .And (b::qbU) pos) tb):PE X (.BoolOp .And (a::b::qbU) pos) (qrJ ta tb):=by
 intro pins s σ H Q I h;refine BoolOp_and (thn (ha pins s σ H _ I h) λv s1 ⟨x,H1,I1,r1,q1⟩=> ?_);obtain⟨c,rfl,q1⟩:=q1;cases r1;refine Vd ?_;cases c with
 |true=>exact hb pins s1 σ H1 Q I1 q1
 |false=>exact⟨.bl false,H1,I1,rfl,q1⟩
theorem qsd(ha:PE X a ta)(hb:PE X (.BoolOp .Or (b::qbU) pos) tb):PE X (.BoolOp .Or (a::b::qbU) pos) (quC ta tb):=by
 intro pins s σ H Q I h;refine BoolOp_or (thn (ha pins s σ H _ I h) λv s1 ⟨x,H1,I1,r1,q1⟩=> ?_);obtain⟨c,rfl,q1⟩:=q1;cases r1;refine Vd ?_;cases c with
 |false=>exact hb pins s1 σ H1 Q I1 q1
 |true=>exact⟨.bl true,H1,I1,rfl,q1⟩
theorem qpm(ha:PE X a ta):PE X (.UnaryOp .Not a pos) (qrG ta):=by intro pins s σ H Q I h;refine UnaryOp_ (thn (ha pins s σ H _ I h) λv s1 ⟨x,H1,I1,r1,q1⟩=> ?_);obtain⟨c,rfl,q1⟩:=q1;cases r1;exact not_of (Vd ⟨.bl (!c),H1,I1,rfl,q1⟩)
noncomputable def tIf(t:TT)(ta tb:TE):TE:=λσ H Q=>t σ H λc H1=>if c=true then ta σ H1 Q else tb σ H1 Q
theorem qkp(hc:PT X c tA)(ha:PE X a ta)(hb:PE X b tb):PE X (.IfExp c a b pos) (tIf tA ta tb):=by
 intro pins s σ H Q I h;refine wpAny_IfExp (thn (hc pins s σ H _ I h) λd s1 ⟨H1,I1,q1⟩=> ?_);cases d with
 |true=>exact ha pins s1 σ H1 Q I1 q1
 |false=>exact hb pins s1 σ H1 Q I1 q1
end
noncomputable def SqL(K:W.Frag)(H:Hp)(a:Addr)(xs:List V):Prop:=
 Rd H a (.lst xs)\/
  ∃(o:Obj) (its:Array Value) (n:Nat),K.lookup a=some o/\o.cls= .type "list" /\o.dict=none/\o.data= .seq its n/\its.size<=sizeLine/\qan xs its.toList
noncomputable def SqT(K:W.Frag)(H:Hp)(a:Addr)(xs:List V):Prop:=
 Rd H a (.tup xs)\/
  ∃(o:Obj) (its:Array Value) (n:Nat),K.lookup a=some o/\o.cls= .type "tuple" /\o.data= .seq its n/\its.size<=sizeLine/\qan xs its.toList
noncomputable def qvv:Value->Option V
 |.none=>some .non
 |.bool b=>some (.bl b)
 |.int i _=>some (.int i)
 |.str x _=>some (.str x)
 |.bytes b _=>some (.byt b)
 |.float b _=>some (.flt b)
 |.ref a=>some (.ref a)
 |.type n=>some (.ty n)
 |_=>none
theorem RelV.abs(r:RelV x u):qvv u=some x:=by
 cases x with
 |non|bl _=>cases r;rfl
 |int _|str _|byt _|flt _=>obtain⟨t,rfl⟩:=r;rfl
 |ref _|ty _=>cases r;rfl
theorem RelV.inj(r:RelV x u)(q:RelV y u):x=y:=Option.some.inj (r.abs.symm.trans q.abs)
theorem qan.inj: ∀{xs ys:List V} {us:List Value},qan xs us->qan ys us->xs=ys
 |_,_,_,.nil,.nil=>rfl
 |_,_,_,.cons r t,.cons r' t'=>by rw[r.inj r',qan.inj t t']
section
theorem SqL.of{H:Hp}{a:Addr}{xs:List V}{K:W.Frag}(h:H a=some (.lst xs)):SqL K H a xs:=.inl (.inl h)
theorem SqT.of{H:Hp}{a:Addr}{xs:List V}{K:W.Frag}(h:H a=some (.tup xs)):SqT K H a xs:=.inl (.inl h)
theorem Inv.list(I:Inv X pins σ H s)(h:SqL X.K H a xs): ∃its:List Value,qan xs its/\PlainL s.heap a its.toArray/\xs.length<=sizeLine:=by
 rcases h with h|⟨o,its,n,hk,hc,hd,hs,hz,r⟩
 ·obtain⟨z,its,n,r,e⟩:=h.ok I.hok;exact⟨its,r,⟨_,n,e,rfl,rfl,rfl⟩,z⟩
 ·refine⟨its.toList,r,⟨o,n,I.kIn a o hk,hc,hd,by simpa using hs⟩,?_⟩;have e:=r.length;simp only[Array.length_toList] at e;omega
theorem Inv.tuple(I:Inv X pins σ H s)(h:SqT X.K H a xs): ∃its:List Value,qan xs its/\IsTup s.heap a its.toArray/\xs.length<=sizeLine:=by
 rcases h with h|⟨o,its,n,hk,hc,hs,hz,r⟩
 ·obtain⟨z,its,r,p⟩:=h.ok I.hok;exact⟨its,r,p,z⟩
 ·refine⟨its.toList,r,⟨o,I.kIn a o hk,hc,n,by simpa using hs⟩,?_⟩;have e:=r.length;simp only[Array.length_toList] at e;omega
theorem Inv.list_inj(I:Inv X pins σ H s)(h:SqL X.K H a xs)(h':SqL X.K H a ys):xs=ys:=by
 obtain⟨its,r,⟨o,n,e,_,_,d⟩,_⟩:=I.list h;obtain⟨its',r',⟨o',n',e',_,_,d'⟩,_⟩:=I.list h';rw[e] at e';cases e';rw[d] at d';injection d' with d1 _
 have:its=its':=by simpa using congrArg Array.toList d1
 subst this;exact r.inj r'
theorem Inv.tuple_inj(I:Inv X pins σ H s)(h:SqT X.K H a xs)(h':SqT X.K H a ys):xs=ys:=by
 obtain⟨its,r,⟨o,e,_,n,d⟩,_⟩:=I.tuple h;obtain⟨its',r',⟨o',e',_,n',d'⟩,_⟩:=I.tuple h';rw[e] at e';cases e';rw[d] at d';injection d' with d1 _
 have:its=its':=by simpa using congrArg Array.toList d1
 subst this;exact r.inj r'
end
abbrev Cx.wish(X:Cx)(E:Value->Shared->Prop):Cx:={ X with xe:=E }
abbrev Cx.nox(X:Cx):Cx:=X.wish λ_ _=>False
theorem Cx.Ok.wish{X:Cx}(ok:X.Ok)(E:Value->Shared->Prop):(X.wish E).Ok:=
 ⟨ok.mod,ok.kind,ok.glob,ok.blt,ok.above,ok.inj,ok.has,ok.cab,ok.hd,ok.frames,ok.stk,ok.exf,ok.bs,ok.bsz,ok.noex,ok.exfs,ok.funs,ok.frf⟩
theorem Cx.Ok.unwish{X:Cx}(ok:(X.wish E).Ok):X.Ok:=
 ⟨ok.mod,ok.kind,ok.glob,ok.blt,ok.above,ok.inj,ok.has,ok.cab,ok.hd,ok.frames,ok.stk,ok.exf,ok.bs,ok.bsz,ok.noex,ok.exfs,ok.funs,ok.frf⟩
section
theorem Inv.wish{X:Cx}(I:Inv X pins σ H s)(E:Value->Shared->Prop):Inv (X.wish E) pins σ H s:=⟨I.ok.wish E,I.os,I.bare,I.base,I.loc,I.cell,I.free,I.freeC,I.pin,I.hok,I.len⟩
theorem Inv.unwish{X:Cx}(I:Inv (X.wish E) pins σ H s):Inv X pins σ H s:=⟨I.ok.unwish,I.os,I.bare,I.base,I.loc,I.cell,I.free,I.freeC,I.pin,I.hok,I.len⟩
theorem SP.unwish(h:SP (X.wish E) pins D f s'):SP X pins D f s':=by
 cases f with
 |next|brk|cont=>obtain⟨af,H',I,q⟩:=h;exact⟨af,H',I.unwish,q⟩
 |ret u=>obtain⟨v,af,H',I,r,q⟩:=h;exact⟨v,af,H',I.unwish,r,q⟩
theorem PSs.nox{X:Cx}{st:List Stmt}{t:TS}(h:PSs X.nox st t):PSs X st t:=λpins s σ H D I hw=>
 Vc (h pins s σ H D (I.wish _) hw) (λ_ _ q=>q.unwish) λ_ _ z=>False.elim z
end
section
noncomputable def qmv:TS:=λD σ H=>D.nx σ H
noncomputable def qtC(t u:TS):TS:=λD σ H=>t { D with nx:=u D } σ H
theorem qin:PSs X [] qmv:=λ_ _ σ H _ I h=>wpAny_execs_nil ⟨σ,H,I,h⟩
theorem qbG{X:Cx}{st:Stmt}{qbU:List Stmt}{t:TS}{u:TS}(h1:PS X st t)(h2:PSs X qbU u):PSs X (st::qbU) (qtC t u):=by
 intro pins s σ H D I h;refine wpAny_execs_cons (thn (h1 pins s σ H { D with nx:=u D } I h) λf s1 q=> ?_);cases f with
 |next=>obtain⟨af,H',I',q⟩:=q;exact h2 pins s1 af H' D I' q
 |ret v|brk|cont=>exact q
theorem qcM{X:Cx}{st:Stmt}{t:TS}(h1:PS X st t):PSs X [st] t:=by
 intro pins s σ H D I h;refine wpAny_execs_cons (thn (h1 pins s σ H D I h) λf s1 q=> ?_);cases f with
 |next=>exact wpAny_execs_nil q
 |ret v|brk|cont=>exact q
noncomputable def qoM:TS:=λD σ H=>D.bk σ H
noncomputable def qrI:TS:=λD σ H=>D.ct σ H
theorem qmP:PS X (.Pass pos) qmv:=λ_ _ σ H _ I h=>wpAny_Pass ⟨σ,H,I,h⟩
theorem qkg:PS X (.Break pos) qoM:=λ_ _ σ H _ I h=>wpAny_Break ⟨σ,H,I,h⟩
theorem qfQ:PS X (.Continue pos) qrI:=λ_ _ σ H _ I h=>wpAny_Continue ⟨σ,H,I,h⟩
theorem Inv.quiet(I:Inv X pins σ H s):interactive X.env=false:=by simp[interactive,I.ok.kind]
theorem qpf{x j pos pos'}:PS X (.Expr (.Constant (.str x) j pos) pos') qmv:=λ_ s σ H _ I h=>wpAny_Expr (Calls.Constant_str (show SP X _ _ .next { s with toks:=s.toks+1 } from⟨σ,H,I.tok _,h⟩)) I.quiet
noncomputable def qrH(te:TE):TS:=λD σ H=>te σ H λ_ H1=>D.nx σ H1
theorem qmQ(he:PE X e te)(hs:swapsWith e none pos.line X.env=pure false:=by rfl):PS X (.Expr e pos) (qrH te):=by intro pins s σ H D I h;exact wpAny_Expr_any (thn (he pins s σ H _ I h) λv s1 ⟨x,H1,I1,r1,q1⟩=>⟨σ,H1,I1,q1⟩) I.quiet hs
noncomputable def quA(te:TE):TS:=λD σ H=>te σ H D.rt
theorem qeV{X:Cx}{e:Expr}{te:TE}{pos:Pos}(he:PE X e te):PS X (.Return (some e) pos) (quA te):=by intro pins s σ H D I h;exact wpAny_Return_some (thn (he pins s σ H _ I h) λv s1 ⟨x,H1,I1,r1,q1⟩=>⟨x,σ,H1,I1,r1,q1⟩)
noncomputable def qrD:TS:=λD _ H=>D.rt .non H
theorem qmO:PS X (.Return none pos) qrD:=λ_ _ σ H _ I h=>wpAny_Return_none ⟨.non,σ,H,I,rfl,h⟩
noncomputable def quF(c:TT)(t u:TS):TS:=λD σ H=>c σ H λb H1=>if b=true then t D σ H1 else u D σ H1
theorem qpc{X:Cx}{t:TS}{u:TS}{pos:Pos}{c:Expr}{a b:List Stmt}{tc:TT}(hc:PT X c tc)(ha:PSs X a t)(hb:PSs X b u):PS X (.If c a b pos) (quF tc t u):=by
 intro pins s σ H D I h;refine wpAny_If (thn (hc pins s σ H _ I h) λd s1 ⟨H1,I1,q1⟩=> ?_);cases d with
 |true=>exact ha pins s1 σ H1 D I1 q1
 |false=>exact hb pins s1 σ H1 D I1 q1
end
abbrev TG:=V->St->Hp->(St->Hp->Prop)->Prop
abbrev TGs:=List V->St->Hp->(St->Hp->Prop)->Prop
noncomputable def PG(X:Cx)(target:Expr)(t:TG):Prop:=
 ∀(pins:List (Addr×Obj)) (s:Shared) (σ:St) (H:Hp) (v:V) (u:Value) (Q:St->Hp->Prop),Inv X pins σ H s->RelV v u->t v σ H Q->
  wpAny (model X.prog X.w) X.A (assign target X.env u) (λ_ s'=> ∃af H',Inv X pins af H' s'/\Q af H') X.xe s
noncomputable def PGs(X:Cx)(ts:List Expr)(t:TGs):Prop:=
 ∀(pins:List (Addr×Obj)) (s:Shared) (σ:St) (H:Hp) (vs:List V) (us:List Value) (Q:St->Hp->Prop),Inv X pins σ H s->qan vs us->t vs σ H Q->
  wpAny (model X.prog X.w) X.A (assignInOrder ((assignEach ts X.env).map (·.2)) us) (λ_ s'=> ∃af H',Inv X pins af H' s'/\Q af H') X.xe s
abbrev qrq:=V->V->V->Hp->(Hp->Prop)->Prop
noncomputable def qtx(X:Cx)(t:qrq):Prop:=
 ∀(pins:List (Addr×Obj)) (s:Shared) (σ:St) (H:Hp) (o i v:V) (ov iv u:Value) (Q:Hp->Prop),Inv X pins σ H s->RelV o ov->RelV i iv->RelV v u->t o i v H Q->
  wpAny (model X.prog X.w) X.A (setItem ov iv u) (λ_ s'=> ∃H',Inv X pins σ H' s'/\Q H') X.xe s
section
noncomputable def qnB(i:Nat):TG:=λv σ H Q=>Q (σ.set i (some v)) H
theorem qmV(hN:X.N.Nodup)(hi:X.N[i]? =some x)(hx:Loc X.env.scope x)(hf:X.fn x=true\/X.env.scope.names.lookup x=some .local:=by first|exact .inl rfl|exact .inr rfl|assumption):PG X (.Name x pos) (qnB i):=by intro pins s σ H v u Q I r h;exact wpAny_assign_Name (qaV I hN hi hx r (λs' I'=>⟨_,H,I',h⟩) hf)
noncomputable def qvn:TGs:=λvs σ H Q=>vs=[]/\Q σ H
noncomputable def qsY(t:TG)(u:TGs):TGs:=λvs σ H Q=> ∃v r,vs=v::r/\t v σ H λaf H'=>u r af H' Q
theorem qmU:PGs X [] qvn:=by intro pins s σ H vs us Q I r h;obtain⟨e,h⟩:=h;subst e;cases r;exact assignInOrder_nil ⟨σ,H,I,h⟩
theorem qkl(h1:PG X e t)(h2:PGs X es u)(hs:(assignEach (e::es) X.env).map (·.2)=assign e X.env::(assignEach es X.env).map (·.2):=by rfl):PGs X (e::es) (qsY t u):=by
 intro pins s σ H vs us Q I r h;obtain⟨v,vr,e1,h⟩:=h;subst e1;cases r with
 |cons r rr=>rw[hs];refine assignInOrder_cons (thn (h1 pins s σ H _ _ _ I r h) λ_ s1 ⟨cN,H1,I1,q1⟩=> ?_);exact h2 pins s1 cN H1 _ _ Q I1 rr q1
noncomputable def qvk(K:W.Frag)(n:Nat)(t:TGs):TG:=λv σ H Q=> ∃a xs,v= .ref a/\SqT K H a xs/\xs.length=n/\t xs σ H Q
theorem qpk(hc:X.calm=true)(h:PGs X es t)(hn:(assignEach es X.env).length=n:=by rfl)(aE:(assignEach es X.env).findIdx? (·.1)=none:=by rfl):PG X (.Tuple es k pos) (qvk X.K n t):=by intro pins s σ H v u Q I r hw;obtain⟨a,xs,e1,hq,hl,hw⟩:=hw;subst e1;cases r;obtain⟨its,rv,ht,hz⟩:=I.tuple hq;refine assign_Tuple_tuple (I.ok.hd hc) ht (by simp[hn,<-hl,rv.length]) aE λh' hx=> ?_;have I1:Inv X pins σ H { s with heap:=h' }:=I.kept (t':=s.toks) λb o e=>hx b o (Vo (Vj e)) e;exact h pins _ σ H xs _ Q I1 (by simpa using rv) hw
noncomputable def gSub(to ti:TE)(t:qrq):TG:=λv σ H Q=>to σ H λo H1=>ti σ H1 λi H2=>t o i v H2 λH3=>Q σ H3
noncomputable def qtG(te:TE)(g:TG):TS:=λD σ H=>te σ H λx H1=>g x σ H1 D.nx
theorem qpg(he:PE X e te)(hg:PG X tg g)(hs:swapsWithSole [tg] e pos.line X.env=pure false:=by rfl)(hw:swappedStores [tg] e X.env=pure none:=by rfl)(h1:(assignEach [tg] X.env).map (·.2)=[assign tg X.env]:=by rfl):PS X (.Assign [tg] e pos) (qtG te g):=by intro pins s σ H D I h;refine wpAny_Assign_stores (thn (he pins s σ H _ I h) λv s1 ⟨x,H1,I1,r1,q1⟩=> ?_) hs hw;rw[h1];exact thn (hg pins s1 σ H1 x v _ I1 r1 q1) λ_ s2 q=>q
theorem qeU {X:Cx} {pos:Pos} {i:Nat} {x:Str} {e:Expr} {te:TE} {pos':Pos} (hN:X.N.Nodup) (hi:X.N[i]? =some x) (hx:Loc X.env.scope x) (he:PE X e te) (hs:swapsWith e (some (.Name x pos')) pos.line X.env=pure false:=by rfl) (hf:X.fn x=true\/X.env.scope.names.lookup x=some .local:=by first | exact .inl rfl | exact .inr rfl | assumption):
  PS X (.Assign [.Name x pos'] e pos) (qtG te (qnB i)):=by intro pins s σ H D I h;refine wpAny_Assign_Name (thn (he pins s σ H _ I h) λv s1 ⟨y,H1,I1,r1,q1⟩=> ?_) hs;exact qaV I1 hN hi hx r1 (λs2 I2=>⟨_,H1,I2,q1⟩) hf
noncomputable def quB(i j:Nat)(ta:TA):TS:=λD σ H=>ta σ H λvs H1=> ∃v w,vs=[v,w]/\D.nx ((σ.set i (some v)).set j (some w)) H1
theorem qpb {kt k2 pt2} (hc:X.calm=true) (hN:X.N.Nodup) (hi:X.N[i]? =some x) (hj:X.N[j]? =some y) (aL:i≠j) (hx:X.env.scope.names.lookup x=some .local) (hy:X.env.scope.names.lookup y=some .local) (ha:PA X [a,b] ta) (hw:swappedStores [.Tuple [.Name x px,.Name y py] kt pt] (.Tuple [a,b] k2 pt2) X.env=pure (some [x,y])) (hs:swapsWithSole [.Tuple [.Name x px,.Name y py] kt pt] (.Tuple [a,b] k2 pt2) pos.line X.env=pure false:=by rfl):
  PS X (.Assign [.Tuple [.Name x px,.Name y py] kt pt] (.Tuple [a,b] k2 pt2) pos) (quB i j ta):=by
 intro pins s σ H D I h;rw[exec_Assign_arm];refine Va (wpAny_standAt ?_);rw[hs];refine Va (Vb ?_);rw[if_neg (by decide)];refine Va (Tuple_ (thn (ha _ pins s σ H _ I h) λus s1 ⟨vs,H1,I1,r1,q1⟩=> ?_));obtain⟨v,w,e1,q1⟩:=q1;subst e1;obtain⟨u1,u2,rfl,rv,aw⟩: ∃u1 u2,us=[u1,u2]/\RelV v u1/\RelV w u2:=by
  cases r1 with
  |cons p q=>
   cases q with
   |cons p' q'=>cases q';exact⟨_,_,rfl,p,p'⟩
 refine wpAny_newObj_type ?_ (by show 2<=sizeLine;decide);have I2:Inv X pins σ H1 { s1 with heap:=s1.heap.push { cls:=.type "tuple",data:=.seq [u1,u2].toArray } }:=I1.kept (t':=s1.toks) λb o e=>Vh _ e;rw[hw];refine Va (Vb ?_);show wpAny (model X.prog X.w) X.A (do rule "assign.swapped-stores";let items <-unpackItems (.ref s1.heap.objs.size) 2 none;assignInOrder [λv=>bindName X.env y v,λv=>bindName X.env x v] items.reverse;pure Flow.next) _ _ _;refine Va (wpAny_rule (Va (unpackItems_tuple (items:= #[u1,u2]) (I.ok.hd hc) (IsTup.new s1.heap _) λh' cx=> ?_)));have I3:=I2.kept (h':=h') (t':=s1.toks) λb o e=>cx b o (Vo (Vj e)) e;show wpAny _ _ (assignInOrder [λv=>bindName X.env y v,λv=>bindName X.env x v] [u2,u1]>>=λ_=>pure Flow.next) _ _ _;refine Va (assignInOrder_cons (wpAny_bindName (qaV I3 hN hj (.inl hy) aw (λs2 I4=> ?_) (.inr hy))));refine assignInOrder_cons (wpAny_bindName (qaV I4 hN hi (.inl hx) rv (λs3 I5=>assignInOrder_nil (Vb ?_)) (.inr hx)));rw[List.set_comm _ _ (Ne.symm aL)] at I5;exact⟨_,H1,I5,q1⟩
end
structure It where
 go:Nat->Hp->Prop
 yld:Nat->Hp->V->Hp->Prop
 stop:Nat->Hp->Prop
noncomputable def qgt(X:Cx)(pins:List (Addr×Obj))(H:Hp)(b:Addr):Prop:=
 H b=none/\b≠X.env.locals/\b∉X.fs/\(b∈X.ex\/X.s₀.heap.objs.size<=b)/\(∀x c,X.env.cells.lookup x=some c->c≠b)/\∀p∈X.pn++pins,p.1≠b
theorem Inv.fpOk(I:Inv X pins σ H s)(hb:s.heap.objs.size<=b)(hn:H' b=none):qgt X pins H' b:=by
 refine⟨hn,Nat.ne_of_gt (Vn I.lt hb),I.nofs hb,.inr (Vq I.sz hb),λx c e z=> ?_,λp hp z=> ?_⟩
 ·obtain⟨v,q⟩:=I.cell x c e;exact absurd (Vn q.lt (by rw[z];exact hb)) (Nat.lt_irrefl _)
 ·exact absurd (Vn (Vj (I.pin p hp).1) (by rw[z];exact hb)) (Nat.lt_irrefl _)
structure qoz(P:Program)(w:World)(K:W.Frag)(tg:Expr)(J:It)(fp:List Addr)(it:Addr)(tn:Nat->Heap->Prop):Prop where
 mem:it∈fp
 obj: ∀i h,tn i h->∀b∈fp,∃o,h.get? b=some o/\∀v,o.data≠.cell v
 keep: ∀i h h',tn i h->(∀b∈fp,∀o,h.get? b=some o->h'.get? b=some o)->tn i h'
 item: ∀(X:Cx),X.prog=P->X.w=w->X.K=K->X.calm=true->∀(i:Nat) (pins:List (Addr×Obj)) (s:Shared) (σ:St) (H:Hp) (E:Value->Shared->Prop),Inv X pins σ H s->(∀b∈fp,qgt X pins H b)->tn i s.heap->J.go i H->
  wpAny (model P w) X.A (pyNext (.ref it)) (λr s1=> ∃u,r=some u/\
   wpAny (model P w) X.A (letOwnedTupleGo tg (.ref it) u) (λ_ s2=> ∃x H',Inv X pins σ H' s2/\RelV x u/\J.yld i H x H'/\tn (i+1) s2.heap/\∀b∈fp,H' b=none) E s1) E s
 done: ∀(X:Cx),X.prog=P->X.w=w->X.K=K->X.calm=true->∀(i:Nat) (pins:List (Addr×Obj)) (s:Shared) (σ:St) (H:Hp) (E:Value->Shared->Prop),Inv X pins σ H s->(∀b∈fp,qgt X pins H b)->tn i s.heap->J.stop i H->
  wpAny (model P w) X.A (pyNext (.ref it)) (λr s1=>r=none/\Inv X pins σ H s1) E s
 self: ∀(A:Around) (i:Nat) (s:Shared) (Q:Value->Shared->Prop) (E:Value->Shared->Prop),tn i s.heap->Q (.ref it) s->wpAny (model P w) A (pyIter (.ref it)) Q E s
abbrev TI:=St->Hp->(It->Hp->Prop)->Prop
noncomputable def PIE(X:Cx)(pins:List (Addr×Obj))(σ:St)(tg:Expr)(R:It->Hp->Prop)(itv:Value)(s2:Shared):Prop:=
 ∃(it:Addr) (fp:List Addr) (tn:Nat->Heap->Prop) (J:It) (H':Hp),itv= .ref it/\Inv X pins σ H' s2/\qoz X.prog X.w X.K tg J fp it tn/\tn 0 s2.heap/\(∀b∈fp,qgt X pins H' b)/\R J H'
noncomputable def PI(X:Cx)(tg iter:Expr)(wi:TI):Prop:=
 ∀(pins:List (Addr×Obj)) (s:Shared) (σ:St) (H:Hp) (R:It->Hp->Prop),Inv X pins σ H s->wi σ H R->
  wpAny (model X.prog X.w) X.A (eval iter X.env) (λv s1=>wpAny (model X.prog X.w) X.A (pyIter v) (PIE X pins σ tg R) X.xe s1) X.xe s
theorem qkN (ho:s.heap.get? it=some o) (hc:o.cls= .type n) (hd:o.data= .fields vs) (hn:["enumerate", "zip", "dict_itemiterator", "dict_reverseitemiterator", "odict_iterator", "itertools.zip_longest", "itertools.pairwise"].contains n=false) (hQ:Q () s):wpAny M A (letOwnedTupleGo tg (.ref it) u) Q E s:=by
 unfold letOwnedTupleGo
 cases tg<;>first
  |exact Vb hQ
  | (cases u<;>first
    |exact Vb hQ
    | (refine Va (wpAny_load ho ?_)
       rw[hc,hd];show wpAny M A (if(["enumerate", "zip", "dict_itemiterator", "dict_reverseitemiterator", "odict_iterator", "itertools.zip_longest", "itertools.pairwise"].contains n&&vs[0]? ==some (rawInt _))=true then _ else _) Q E s;rw[if_neg (by intro h;rw[hn,Bool.false_and] at h;cases h)];exact Vb hQ))
noncomputable def Itl(K:W.Frag)(a:Addr):It:=
 ⟨λi H=> ∃xs x,SqL K H a xs/\xs[i]? =some x,λi H x H'=>H'=H/\∀xs,SqL K H a xs->xs[i]? =some x,λi H=> ∃xs,SqL K H a xs/\xs.length<=i⟩
noncomputable def Itt(K:W.Frag)(a:Addr):It:=
 ⟨λi H=> ∃xs x,SqT K H a xs/\xs[i]? =some x,λi H x H'=>H'=H/\∀xs,SqT K H a xs->xs[i]? =some x,λi H=> ∃xs,SqT K H a xs/\xs.length<=i⟩
noncomputable def Itr(lo:Int)(n:Nat):It:=⟨λi _=>i<n,λi H x H'=>H'=H/\x= .int (lo+i),λi _=>n<=i⟩
theorem qh1{P:Program}{w:World}{K:W.Frag}{tg:Expr}(a it:Addr):qoz P w K tg (Itl K a) [it] it (λi h=>h.IsListIter it a i) where
 mem:=by simp
 obj:=λi h st b hb=>by
  have e:b=it:=by simpa using hb
  subst e;obtain⟨o,e,c,d⟩:=st;exact⟨o,e,λv z=>by rw[d] at z;cases z⟩
 keep:=λi h h' st k=>st.at λo e=>k it (by simp) o e
 item:=by intro X hP hw hK hc i pins s σ H E I hf st hg;subst hP hw hK;obtain⟨xs,x,hq,hx⟩:=hg;obtain⟨its,rv,p,hz⟩:=I.list hq;obtain⟨u,hu,ru⟩:=rv.get hx;obtain⟨f0,f1,f2,f3,f4,f5⟩:=hf it (by simp);refine wpAny_pyNext_list_item st p.isList (x:=u) (by simpa using hu) λh' bg sb=> ?_;have I1:Inv X pins σ H { s with heap:=h' }:=I.turned (t':=s.toks) (λb o hb e=>(sb.2 b hb).trans e) f0 f1 f3 f4 f5;obtain⟨o,e,c,d⟩:=id bg;exact⟨u,rfl,qkN (s:={ s with heap:=h' }) e c d (by decide) ⟨x,H,I1,ru,⟨rfl,λys hy=>by rw[I.list_inj hy hq];exact hx⟩,bg,λb hb=>(hf b hb).1⟩⟩
 done:=by intro X hP hw hK hc i pins s σ H E I hf st hg;subst hP hw hK;obtain⟨xs,hq,hx⟩:=hg;obtain⟨its,rv,p,hz⟩:=I.list hq;obtain⟨f0,f1,f2,f3,f4,f5⟩:=hf it (by simp);have hl:=rv.length;exact wpAny_pyNext_list_end (I.ok.hd hc) st p.isList (by simp;omega) λh' eb=>⟨rfl,I.turned (t':=s.toks) (λb o hb e=>eb b o hb e) f0 f1 f3 f4 f5⟩
 self:=λ_ _ _ _ _ st h=>wpAny_pyIter_listiter st h
theorem qg9{P:Program}{w:World}{K:W.Frag}{tg:Expr}(a it:Addr):qoz P w K tg (Itt K a) [it] it (λi h=>h.IsTupleIter it a i) where
 mem:=by simp
 obj:=λi h st b hb=>by
  have e:b=it:=by simpa using hb
  subst e;obtain⟨o,e,c,d⟩:=st;exact⟨o,e,λv z=>by rw[d] at z;cases z⟩
 keep:=λi h h' st k=>st.at λo e=>k it (by simp) o e
 item:=by intro X hP hw hK hc i pins s σ H E I hf st hg;subst hP hw hK;obtain⟨xs,x,hq,hx⟩:=hg;obtain⟨its,rv,p,hz⟩:=I.tuple hq;obtain⟨u,hu,ru⟩:=rv.get hx;obtain⟨f0,f1,f2,f3,f4,f5⟩:=hf it (by simp);refine wpAny_pyNext_tuple_item st (show s.heap.IsTuple a its.toArray from p) (x:=u) (by simpa using hu) λh' bg sb=> ?_;have I1:Inv X pins σ H { s with heap:=h' }:=I.turned (t':=s.toks) (λb o hb e=>(sb.2 b hb).trans e) f0 f1 f3 f4 f5;obtain⟨o,e,c,d⟩:=id bg;exact⟨u,rfl,qkN (s:={ s with heap:=h' }) e c d (by decide) ⟨x,H,I1,ru,⟨rfl,λys hy=>by rw[I.tuple_inj hy hq];exact hx⟩,bg,λb hb=>(hf b hb).1⟩⟩
 done:=by intro X hP hw hK hc i pins s σ H E I hf st hg;subst hP hw hK;obtain⟨xs,hq,hx⟩:=hg;obtain⟨its,rv,p,hz⟩:=I.tuple hq;obtain⟨f0,f1,f2,f3,f4,f5⟩:=hf it (by simp);have hl:=rv.length;exact wpAny_pyNext_tuple_end (I.ok.hd hc) st (show s.heap.IsTuple a its.toArray from p) (by simp;omega) λh' eb=>⟨rfl,I.turned (t':=s.toks) (λb o hb e=>eb b o hb e) f0 f1 f3 f4 f5⟩
 self:=λ_ _ _ _ _ st h=>wpAny_pyIter_tupleiter st h
theorem qha{P:Program}{w:World}{K:PySem.W.Frag}{tg:Expr}(it:Addr)(lo:Int)(n:Nat):qoz P w K tg (Itr lo n) [it] it (λi h=>IsRangeIter h it (lo+(i:Nat)*1) ((n:Int) - (i:Nat)) 1) where
 mem:=by simp
 obj:=λi h st b hb=>by
  have e:b=it:=by simpa using hb
  subst e;exact⟨_,st,λv z=>by
   have z':Data.fields _=Data.cell v:=z;cases z'⟩
 keep:=λi h h' st k=>k it (by simp) _ st
 item:=by intro X hP hw hK hc i pins s σ H E I hf st hg;subst hP hw hK;obtain⟨f0,f1,f2,f3,f4,f5⟩:=hf it (by simp);have W:=Walks.range (prog:=X.prog) (w:=X.w) (I.ok.hd hc) it lo 1 n;refine W.item i s _ _ hg st λv h' tk hv bg kk=> ?_;obtain⟨t,rfl⟩:=hv;have I1:Inv X pins σ H { s with heap:=h',toks:=tk }:=I.turned (λb o hb e=>kk b o (by simpa using hb) e) f0 f1 f3 f4 f5;refine⟨_,rfl,qkN (s:={ s with heap:=h',toks:=tk }) (n:= "range_iterator") bg rfl rfl (by decide) ⟨.int (lo+i),H,I1,⟨t,?_⟩,⟨rfl,rfl⟩,bg,λb hb=>(hf b hb).1⟩⟩;rw[Int.mul_one]
 done:=by intro X hP hw hK hc i pins s σ H E I hf st hg;subst hP hw hK;obtain⟨f0,f1,f2,f3,f4,f5⟩:=hf it (by simp);exact wpAny_pyNext_range_end (I.ok.hd hc) st (by have:n<=i:=hg;omega) λh' eb=>⟨rfl,I.turned (t':=s.toks) (λb o hb e=>eb b o hb e) f0 f1 f3 f4 f5⟩
 self:=λ_ _ _ _ _ st h=>wpAny_pyIter_rangeiter st h
section
variable {X:Cx}{tg:Expr}
theorem qgJ{s:Shared}{lo hi:Int}{tk:Nat}(I:Inv X pins σ H s)(h1: -(2 ^ 62)<=lo)(h2:lo<2 ^ 62)(h3: -(2 ^ 62)<=hi)(h4:hi<2 ^ 62)(q:R (Itr lo (hi - lo).toNat) H):wpAny (model X.prog X.w) X.A (pyIter (.ref s.heap.objs.size)) (PIE X pins σ tg R) E { s with heap:=s.heap.push { cls:=.type "range",data:=.fields #[.int lo t,.int hi u,.int 1 v] },toks:=tk }:=by
 refine wpAny_pyIter_range (IsRange.new ..) (small_one h1 h2 h3 h4) ?_;have I1:Inv X pins σ H { s with heap:=s.heap.push { cls:=.type "range",data:=.fields #[.int lo t,.int hi u,.int 1 v] },toks:=tk }:=I.kept λb o e=>Vh _ e
 refine⟨(s.heap.push { cls:=.type "range",data:=.fields #[.int lo t,.int hi u,.int 1 v] }).objs.size,[(s.heap.push { cls:=.type "range",data:=.fields #[.int lo t,.int hi u,.int 1 v] }).objs.size],_,_,H,rfl,
  I1.kept (t':=tk) λb o e=>Vh _ e,qha _ lo (hi - lo).toNat,?_,λb hb=> ?_,q⟩
 ·have e1:lo+((0:Nat):Int)*1=lo:=by simp
  have e2:(((hi - lo).toNat:Nat):Int) - ((0:Nat):Int)=Builtin.Range.rangeSize lo hi 1:=by rw[rangeSize_one];split<;>omega
  show IsRangeIter _ _ (lo+((0:Nat):Int)*1) ((((hi - lo).toNat:Nat):Int) - ((0:Nat):Int)) 1;rw[e1,e2];exact Vi _ rfl
 ·have e:b=(s.heap.push { cls:=.type "range",data:=.fields #[.int lo t,.int hi u,.int 1 v] }).objs.size:=by simpa using hb
  subst e;exact I1.fpOk (Vm _) (I1.hok.fresh (Vm _))
noncomputable def qsL(ta:TA):TI:=λσ H R=>ta σ H λvs H1=> ∃j:Int,vs=[.int j]/\ -(2 ^ 62)<=j/\j<2 ^ 62/\R (Itr 0 j.toNat) H1
noncomputable def qsK(ta:TA):TI:=λσ H R=>ta σ H λvs H1=> ∃i j:Int,vs=[.int i,.int j]/\(-(2 ^ 62)<=i/\i<2 ^ 62/\ -(2 ^ 62)<=j/\j<2 ^ 62)/\R (Itr i (j - i).toNat) H1
theorem qis {a:Expr} {ta:TA} {p pos:Pos} (hg:Gl X "range") (hm:X.mg "range" =none) (ha:PA X [a] ta) (hs:starEach [a] X.env=[(false,eval a X.env)]:=by rfl):PI X tg (.Call (.Name "range" p) [a] [] pos) (qsL ta):=by
 intro pins s σ H R I h;refine Call_ (qdC I hg hm boot_range (PyProof.Rows.callWith_type1 (thn (ha pos pins s σ H _ I h) λus s1 ⟨vs,H1,I1,r1,q1⟩=> ?_) hs rfl));obtain⟨j,e,q1,q2,q⟩:=q1;subst e;cases r1 with
 |cons r rr=>cases rr;obtain⟨t,rfl⟩:=r;exact call_range_1 (qgJ I1 (by omega) (by omega) q1 q2 (by simpa using q))
theorem qir {a b:Expr} {ta:TA} {p pos:Pos} (hg:Gl X "range") (hm:X.mg "range" =none) (ha:PA X [a,b] ta) (hs:starEach [a,b] X.env=[(false,eval a X.env),(false,eval b X.env)]:=by rfl) (bS:starEach [b] X.env=[(false,eval b X.env)]:=by rfl):
  PI X tg (.Call (.Name "range" p) [a,b] [] pos) (qsK ta):=by
 intro pins s σ H R I h;refine Call_ (qdC I hg hm boot_range (PyProof.Rows.callWith_type1 (thn (ha pos pins s σ H _ I h) λus s1 ⟨vs,H1,I1,r1,q1⟩=> ?_) (by rw[hs,bS]) (by rw[bS];rfl)));obtain⟨i,j,e,⟨q1,q2,q3,q4⟩,q⟩:=q1;subst e;cases r1 with
 |cons r rr=>
  cases rr with
  |cons r' rr=>cases rr;obtain⟨t,rfl⟩:=r;obtain⟨t',rfl⟩:=r';exact call_range_2 (qgJ I1 q1 q2 q3 q4 q)
noncomputable def quG(wi:TI)(g:TG)(tb:TS):TS:=λD σ H=>wi σ H λJ H1=> ∃W:Nat->Nat->St->Hp->Prop,(∃m,W 0 m σ H1)/\∀i m σ H,W i m σ H->
 (J.stop i H/\D.nx σ H)\/(J.go i H/\∃N:St->Hp->Prop,(∀af H',N af H'->∃m',m'<m/\W (i+1) m' af H')/\∀x H',J.yld i H x H'->g x σ H' λaJ H2=>tb { D with nx:=N,ct:=N,bk:=D.nx } aJ H2)
noncomputable def qeW(fp:List Addr)(h:Heap):List (Addr×Obj):=fp.filterMap λb=>(h.get? b).map λo=>(b,o)
theorem qbI(hb:b∈fp)(e:h.get? b=some o):(b,o)∈qeW fp h:=List.mem_filterMap.mpr ⟨b,hb,by rw[e];rfl⟩
theorem qiE(hp:p∈qeW fp h):p.1∈fp/\h.get? p.1=some p.2:=by
 obtain⟨b,hb,e⟩:=List.mem_filterMap.mp hp;cases q:h.get? b with
 |none=>rw[q] at e;cases e
 |some o=>rw[q] at e;have e':(b,o)=p:=Option.some.inj e;subst e';exact⟨hb,q⟩
theorem Inv.pinned(I:Inv X pins σ H s)(hf: ∀b∈fp,qgt X pins H b)(ho: ∀b∈fp,∃o,s.heap.get? b=some o/\∀v,o.data≠.cell v):Inv X (pins++qeW fp s.heap) σ H s:=
 I.pins_of λp hp=>(List.mem_append.mp hp).elim (λz=>I.pin p (Vt _ z)) λz=>by obtain⟨hb,e⟩:=qiE z;obtain⟨f0,f1,f2,_⟩:=hf p.1 hb;obtain⟨o,e',d⟩:=ho p.1 hb;rw[e] at e';cases e';exact⟨e,f0,f1,f2,d⟩
theorem Inv.unpinned(I:Inv X (pins++pl) σ H s):Inv X pins σ H s:=I.pins_of λp hp=>I.pin p (Vt _ (Vs _ hp))
theorem qpd(hp:PassesOwn (model X.prog X.w) X.A X.env X.xe)(hc:X.calm=true)(hi:PI X tg iter wi)(hg:PG X tg g)(hb:PSs X body tb)(hs: ∀x,foldedSetIterable iter X.env x=pure x:=by intro _;rfl):PS X (.For tg iter body [] pos) (quG wi g tb):=by
 intro pins s σ H D I h;refine wpAny_For (thn (hi pins s σ H _ I h) λv s1 h1=>thn h1 λitv s2 h2=> ?_) hs;obtain⟨it,fp,tn,J,H2,e,I2,T,st2,f2,W,⟨m0,w0⟩,turn⟩:=h2;subst e;have c6: ∀{H':Hp},(∀b∈fp,H' b=none)->∀b∈fp,qgt X pins H' b:=λhn b hb=>⟨hn b hb,(f2 b hb).2⟩
 refine codeAny_forLoop_any (λn s'=> ∃i af H',Inv X pins af H' s'/\tn i s'.heap/\(∀b∈fp,H' b=none)/\W i n af H') ?_ m0 ⟨0,σ,H2,I2,st2,λb hb=>(f2 b hb).1,w0⟩;rintro n s3 ⟨i,ed,H3,I3,eA,je,w3⟩
 rcases turn i n ed H3 w3 with⟨stop,qn⟩|⟨go,N,hN,step⟩
 ·refine wpAny_passesOwn hp (thn (T.done X rfl rfl rfl hc i pins s3 ed H3 X.xe I3 (c6 je) eA stop) λr s4 ⟨hr,I4⟩=> ?_);subst hr;exact wpAny_execs_nil ⟨ed,H3,I4,qn⟩
 ·refine wpAny_passesOwn hp (thn (T.item X rfl rfl rfl hc i pins s3 ed H3 X.xe I3 (c6 je) eA go) λr s4 ⟨u,hr,h4⟩=> ?_);subst hr;refine wpAny_passesOwn hp (thn h4 λ_ s5 ⟨x,H5,I5,r5,y5,dX,fW⟩=> ?_);have I5':=I5.pinned (c6 fW) (T.obj _ _ dX);refine wpAny_passesOwn hp (thn (hg _ s5 ed H5 x u _ I5' r5 (step x H5 y5)) λ_ s6 ⟨σ6,H6,I6,q6⟩=> ?_);refine wpAny_passesOwn hp (thn (hb _ s6 σ6 H6 _ I6 q6) λf s7 q7=> ?_);have again: ∀{bT:St} {H7:Hp},Inv X (pins++qeW fp s5.heap) bT H7 s7->N bT H7->∃m,m<n/\∃i af H',Inv X pins af H' s7/\tn i s7.heap/\(∀b∈fp,H' b=none)/\W i m af H':=λ{bT H7} I7 n7=>by obtain⟨m',hm,w7⟩:=hN bT H7 n7;refine⟨m',hm,i+1,bT,H7,I7.unpinned,T.keep _ _ _ dX λb hb o e=>(I7.pin (b,o) (Vt _ (Vt _ (qbI hb e)))).1,λb hb=> ?_,w7⟩;obtain⟨o,e,d⟩:=T.obj _ _ dX b hb;exact(I7.pin (b,o) (Vt _ (Vt _ (qbI hb e)))).2.1
  cases f with
  |next|cont=>obtain⟨bT,H7,I7,n7⟩:=q7;exact again I7 n7
  |brk=>obtain⟨bT,H7,I7,q7⟩:=q7;exact⟨bT,H7,I7.unpinned,q7⟩
  |ret v=>obtain⟨x7,bT,H7,I7,r7,q7⟩:=q7;exact⟨x7,bT,H7,I7.unpinned,r7,q7⟩
end
abbrev R2:=V->V->Hp->VK->Prop
noncomputable def OpR(X:Cx)(f:Value->Value->Sem Value)(r:R2):Prop:=
 ∀(pins:List (Addr×Obj)) (s:Shared) (σ:St) (H:Hp) (x y:V) (v u:Value) (Q:VK),Inv X pins σ H s->RelV x v->RelV y u->r x y H Q->
  wpAny (model X.prog X.w) X.A (f v u) (EP X pins σ Q) X.xe s
noncomputable def UnR(X:Cx)(f:Value->Sem Value)(r:V->Hp->VK->Prop):Prop:=
 ∀(pins:List (Addr×Obj)) (s:Shared) (σ:St) (H:Hp) (x:V) (v:Value) (Q:VK),Inv X pins σ H s->RelV x v->r x H Q->
  wpAny (model X.prog X.w) X.A (f v) (EP X pins σ Q) X.xe s
noncomputable def qaC(X:Cx)(f:Value)(r:List V->Hp->VK->Prop):Prop:=
 ∀(pins:List (Addr×Obj)) (s:Shared) (σ:St) (H:Hp) (xs:List V) (us:List Value) (Q:VK),Inv X pins σ H s->qan xs us->r xs H Q->
  wpAny (model X.prog X.w) X.A (call f us) (EP X pins σ Q) X.xe s
noncomputable def qvx(X:Cx)(r:V->Hp->(Bool->Hp->Prop)->Prop):Prop:=
 ∀(pins:List (Addr×Obj)) (s:Shared) (σ:St) (H:Hp) (x:V) (v:Value) (Q:Bool->Hp->Prop),Inv X pins σ H s->RelV x v->r x H Q->
  wpAny (model X.prog X.w) X.A (truthy v) (TP X pins σ Q) X.xe s
noncomputable def tOp(r:R2)(ta tb:TE):TE:=λσ H Q=>ta σ H λx H1=>tb σ H1 λy H2=>r x y H2 Q
noncomputable def tUn(r:V->Hp->VK->Prop)(ta:TE):TE:=λσ H Q=>ta σ H λx H1=>r x H1 Q
noncomputable def rI(C:Int->Int->Prop)(g:Int->Int->V):R2:=λx y H Q=> ∃i j,x= .int i/\y= .int j/\C i j/\Q (g i j) H
noncomputable def rI0(g:Int->Int->V):R2:=λx y H Q=> ∃i j,x= .int i/\y= .int j/\Q (g i j) H
noncomputable def rU(g:Int->V):V->Hp->VK->Prop:=λx H Q=> ∃i,x= .int i/\Q (g i) H
section
variable {X:Cx}{a b c:Expr}{ta tb tc:TE}{pos:Pos}
theorem qtt (ha:PE X a ta) (hb:PE X b tb) {pins:List (Addr×Obj)} {s:Shared} {σ:St} {H:Hp} {R:V->V->Hp->Prop} (I:Inv X pins σ H s) (h:ta σ H λx H1=>tb σ H1 λy H2=>R x y H2) {Q:Value->Shared->Prop} {f:Value->Value->Sem Value} (hf: ∀v u s2 x y H2,Inv X pins σ H2 s2->RelV x v->RelV y u->R x y H2->wpAny (model X.prog X.w) X.A (f v u) Q X.xe s2):
  wpAny (model X.prog X.w) X.A (eval a X.env) (λv ae=>wpAny (model X.prog X.w) X.A (eval b X.env) (λu aI=>wpAny (model X.prog X.w) X.A (f v u) Q X.xe aI) X.xe ae) X.xe s:=by refine thn (ha pins s σ H _ I h) λv s1 ⟨x,H1,I1,r1,q1⟩=> ?_;refine thn (hb pins s1 σ H1 _ I1 q1) λu s2 ⟨y,H2,I2,r2,q2⟩=> ?_;exact hf v u s2 x y H2 I2 r1 r2 q2
theorem qmX{op:Operator}{r:R2}(ho:OpR X (binaryOp op) r)(ha:PE X a ta)(hb:PE X b tb):PE X (.BinOp a op b pos) (tOp r ta tb):=by intro pins s σ H Q I h;exact wpAny_BinOp (qtt ha hb I h λv u s2 x y H2 I2 rx ry q=>ho pins s2 σ H2 x y v u Q I2 rx ry q)
theorem qsc(ho:UnR X (unaryOp op) r)(ha:PE X a ta):PE X (.UnaryOp op a pos) (tUn r ta):=by intro pins s σ H Q I h;exact UnaryOp_ (thn (ha pins s σ H _ I h) λv s1 ⟨x,H1,I1,r1,q1⟩=>ho pins s1 σ H1 x v Q I1 r1 q1)
theorem opI {f:Value->Value->Sem Value} {C:Int->Int->Prop} {g:Int->Int->Int} (rule: ∀(i j:Int) (t u:Tok) (s:Shared) (Q:Value->Shared->Prop) (E:Value->Shared->Prop),C i j->Q (.int (g i j) s.toks) { s with toks:=s.toks+1 }->wpAny (model X.prog X.w) X.A (f (.int i t) (.int j u)) Q E s):
  OpR X f (rI C λi j=>.int (g i j)):=by intro pins s σ H x y v u Q I rx ry h;obtain⟨i,j,rfl,rfl,hc,q⟩:=h;obtain⟨t,rfl⟩:=rx;obtain⟨t',rfl⟩:=ry;exact rule i j t t' s _ _ hc ⟨.int (g i j),H,I.tok _,⟨_,rfl⟩,q⟩
theorem qt5 {f:Value->Value->Sem Value} {g:Int->Int->Int} (rule: ∀(i j:Int) (t u:Tok) (s:Shared) (Q:Value->Shared->Prop) (E:Value->Shared->Prop),Q (.int (g i j) s.toks) { s with toks:=s.toks+1 }->wpAny (model X.prog X.w) X.A (f (.int i t) (.int j u)) Q E s):
  OpR X f (rI0 λi j=>.int (g i j)):=by intro pins s σ H x y v u Q I rx ry h;obtain⟨i,j,rfl,rfl,q⟩:=h;obtain⟨t,rfl⟩:=rx;obtain⟨t',rfl⟩:=ry;exact rule i j t t' s _ _ ⟨.int (g i j),H,I.tok _,⟨_,rfl⟩,q⟩
theorem qrf {f:Value->Value->Sem Value} {g:Int->Int->Bool} (rule: ∀(i j:Int) (t u:Tok) (s:Shared) (Q:Value->Shared->Prop) (E:Value->Shared->Prop),Q (.bool (g i j)) s->wpAny (model X.prog X.w) X.A (f (.int i t) (.int j u)) Q E s):
  OpR X f (rI0 λi j=>.bl (g i j)):=by intro pins s σ H x y v u Q I rx ry h;obtain⟨i,j,rfl,rfl,q⟩:=h;obtain⟨t,rfl⟩:=rx;obtain⟨t',rfl⟩:=ry;exact rule i j t t' s _ _ ⟨.bl (g i j),H,I,rfl,q⟩
noncomputable def quv(i j:Int):Prop:=0<j/\j<1073741824
noncomputable def qrr(i j:Int):Prop:=(-(2 ^ 64)<i/\i<2 ^ 64)\/(-(2 ^ 64)<j/\j<2 ^ 64)
theorem qrr.ok(h:qrr i j):IntMulOk i j:=by
 rcases h with⟨h1,h2⟩|⟨h1,h2⟩
 ·exact .of_left (intBits_le_64 h1 h2)
 ·exact .of_right (intBits_le_64 h1 h2)
theorem qpE:OpR X (binaryOp .Add) (rI0 λi j=>.int (i+j)):=qt5 λ_ _ _ _ _ _ _ q=>add_int q
theorem qpu:OpR X (binaryOp .Sub) (rI0 λi j=>.int (i - j)):=qt5 λ_ _ _ _ _ _ _ q=>sub_int q
theorem qpx:OpR X (binaryOp .Mult) (rI qrr λi j=>.int (i*j)):=opI λ_ _ _ _ _ _ _ hc q=>mul_int q hc.ok
theorem qnc:OpR X (binaryOp .FloorDiv) (rI quv λi j=>.int (i / j)):=opI λi j _ _ _ _ _ hc q=>by have h1:(0:Int)<j:=hc.1;have h2:j<1073741824:=hc.2;exact floordiv_int (by omega) (by rw[Int.fdiv_eq_ediv_of_nonneg i (by omega)];exact q) (.inl (PyProof.noPylong_small (by omega)))
theorem qpy:OpR X (binaryOp .Mod) (rI (λ_ j=>0<j) λi j=>.int (i % j)):=opI λi j _ _ _ _ _ hc q=>by have h1:(0:Int)<j:=hc;exact mod_int' (by omega) (by rw[Int.fmod_eq_emod_of_nonneg i (by omega)];exact q)
theorem unI {f:Value->Sem Value} {g:Int->Int} (rule: ∀(i:Int) (t:Tok) (s:Shared) (Q:Value->Shared->Prop) (E:Value->Shared->Prop),Q (.int (g i) s.toks) { s with toks:=s.toks+1 }->wpAny (model X.prog X.w) X.A (f (.int i t)) Q E s):
  UnR X f (rU λi=>.int (g i)):=by intro pins s σ H x v Q I rx h;obtain⟨i,rfl,q⟩:=h;obtain⟨t,rfl⟩:=rx;exact rule i t s _ _ ⟨.int (g i),H,I.tok _,⟨_,rfl⟩,q⟩
theorem qoD:UnR X (unaryOp .USub) (rU λi=>.int (-i)):=unI λ_ _ _ _ _ q=>neg_int q
end
noncomputable def quL:V->V->Bool
 |.non,.non=>true|.non,.int _=>true|.int _,.non=>true|.non,.bl _=>true|.bl _,.non=>true|.non,.str _=>true|.str _,.non=>true
 |.int _,.int _=>true|.bl _,.bl _=>true|.str _,.str _=>true|.byt _,.byt _=>true
 |.int _,.str _=>true|.str _,.int _=>true|.bl _,.str _=>true|.str _,.bl _=>true
 |_,_=>false
noncomputable def rNe:R2:=λx y H Q=>quL x y=true/\Q (.bl (!decide (x=y))) H
theorem qnW:decide (V.int i=V.int j)=(i==j):=by rw[Bool.eq_iff_iff];simp
theorem qqD:decide (V.bl i=V.bl j)=(i==j):=by rw[Bool.eq_iff_iff];simp
theorem qnV:decide (V.str i=V.str j)=(i==j):=by rw[Bool.eq_iff_iff];simp
theorem qnX:decide (V.byt i=V.byt j)=(i.toList==j.toList):=by rw[Bool.eq_iff_iff];cases i;cases j;simp
section
variable {X:Cx}{a b c:Expr}{ta tb tc:TE}{pos:Pos}
theorem qaJ(I:Inv X pins σ H s)(q:Q (.bl k) H)(e:k=k'):EP X pins σ Q (.bool k') s:=by subst e;exact⟨.bl k,H,I,rfl,q⟩
theorem qsk:OpR X (compareOp .NotEq) rNe:=by
 intro pins s σ H x y v u Q I rx ry h;obtain⟨hs,q⟩:=h;cases x with
 |non=>
  cases rx;cases y with
  |non=>cases ry;exact PySem.EqNone.ne_none_none (qaJ I q (by simp))
  |bl j=>cases ry;exact PySem.EqNone.ne_none_bool (qaJ I q (by simp))
  |int j=>obtain⟨t',rfl⟩:=ry;exact PySem.EqNone.ne_none_int (qaJ I q (by simp))
  |str j=>obtain⟨t',rfl⟩:=ry;exact PySem.EqNone.ne_none_str (qaJ I q (by simp))
  |_=>exact absurd (show false=true from hs) Vr
 |bl i=>
  cases rx;cases y with
  |non=>cases ry;exact PySem.EqNone.ne_bool_none (qaJ I q (by simp))
  |bl j=>cases ry;exact ne_bool (qaJ I q (congrArg not qqD))
  |str j=>obtain⟨t',rfl⟩:=ry;exact PySem.EqMixed.ne_bool_str (qaJ I q (by simp))
  |_=>exact absurd (show false=true from hs) Vr
 |int i=>
  obtain⟨t,rfl⟩:=rx;cases y with
  |non=>cases ry;exact PySem.EqNone.ne_int_none (qaJ I q (by simp))
  |int j=>obtain⟨t',rfl⟩:=ry;exact ne_int (qaJ I q (congrArg not qnW))
  |str j=>obtain⟨t',rfl⟩:=ry;exact PySem.EqMixed.ne_int_str (qaJ I q (by simp))
  |_=>exact absurd (show false=true from hs) Vr
 |str i=>
  obtain⟨t,rfl⟩:=rx;cases y with
  |non=>cases ry;exact PySem.EqNone.ne_str_none (qaJ I q (by simp))
  |bl j=>cases ry;exact PySem.EqMixed.ne_str_bool (qaJ I q (by simp))
  |int j=>obtain⟨t',rfl⟩:=ry;exact PySem.EqMixed.ne_str_int (qaJ I q (by simp))
  |str j=>obtain⟨t',rfl⟩:=ry;exact ne_str (qaJ I q (congrArg not qnV))
  |_=>exact absurd (show false=true from hs) Vr
 |byt i=>
  obtain⟨t,rfl⟩:=rx;cases y with
  |byt j=>obtain⟨t',rfl⟩:=ry;exact W.ne_bytes (qaJ I q (congrArg not qnX))
  |_=>exact absurd (show false=true from hs) Vr
 |_=>cases y<;>exact absurd (show false=true from hs) Vr
theorem qsl:OpR X (compareOp .Lt) (rI0 λi j=>.bl (decide (i<j))):=qrf λ_ _ _ _ _ _ _ q=>lt_int q
theorem qsm:OpR X (compareOp .LtE) (rI0 λi j=>.bl (decide (i<=j))):=qrf λ_ _ _ _ _ _ _ q=>le_int q
theorem qsn:OpR X (compareOp .Gt) (rI0 λi j=>.bl (decide (j<i))):=qrf λ_ _ _ _ _ _ _ q=>gt_int q
theorem qso:OpR X (compareOp .GtE) (rI0 λi j=>.bl (decide (j<=i))):=qrf λ_ _ _ _ _ _ _ q=>ge_int q
theorem qiB:OpR X (compareOp .Lt) (λx y H Q=> ∃i j,x= .str i/\y= .str j/\Q (.bl (decide (i.cps.toList<j.cps.toList))) H):=by intro pins s σ H x y v u Q I rx ry h;obtain⟨i,j,rfl,rfl,q⟩:=h;obtain⟨t,rfl⟩:=rx;obtain⟨t',rfl⟩:=ry;exact lt_str (qaJ I q rfl)
theorem qpB:OpR X (compareOp .Is) (λx y H Q=>y= .non/\Q (.bl (decide (x= .non))) H):=by
 intro pins s σ H x y v u Q I rx ry h;obtain⟨rfl,q⟩:=h;cases ry;refine is_none_gen (qaJ I q ?_)
 cases x<;>first
  |(cases rx;rfl)
  |(obtain⟨t,rfl⟩:=rx;rfl)
theorem qm9:OpR X (compareOp .IsNot) (λx y H Q=>y= .non/\Q (.bl (!decide (x= .non))) H):=by
 intro pins s σ H x y v u Q I rx ry h;obtain⟨rfl,q⟩:=h;cases ry;refine isnot_none_gen (qaJ I q ?_)
 cases x<;>first
  |(cases rx;rfl)
  |(obtain⟨t,rfl⟩:=rx;rfl)
theorem OpR.or(h:OpR X f r)(h':OpR X f r'):OpR X f (λx y H Q=>r x y H Q\/r' x y H Q):=by
 intro pins s σ H x y v u Q I rx ry q
 rcases q with q|q
 ·exact h pins s σ H x y v u Q I rx ry q
 ·exact h' pins s σ H x y v u Q I rx ry q
theorem qpO(b:Expr)(h:op≠.In:=by decide)(h2:op≠.NotIn:=by decide):behindInMarks op b=false:=by
 have e1:(op==CmpOp.In)=false:=by cases op<;>first|rfl|exact absurd rfl h
 have e2:(op==CmpOp.NotIn)=false:=by cases op<;>first|rfl|exact absurd rfl h2
 cases b<;>simp[behindInMarks,e1,e2]
theorem qfR{op:CmpOp}{r:R2}(ho:OpR X (compareOp op) r)(ha:PE X a ta)(hb:PE X b tb)(hm:behindInMarks op b=false):PE X (.Compare a [op] [b] pos) (tOp r ta tb):=by intro pins s σ H Q I h;exact wpAny_Compare1 (qtt ha hb I h λv u s2 x y H2 I2 rx ry q=>ho pins s2 σ H2 x y v u Q I2 rx ry q) hm
noncomputable def qoI(t:TE):TT:=λσ H Q=>t σ H λx H'=> ∃k,x= .bl k/\Q k H'
theorem qd5{op:CmpOp}{r:R2}(ho:OpR X (compareOp op) r)(ha:PE X a ta)(hb:PE X b tb)(hm:behindInMarks op b=false):PT X (.Compare a [op] [b] pos) (qoI (tOp r ta tb)):=by
 intro pins s σ H Q I h;refine wpAny_isTrue_Compare1 (thn (ha pins s σ H _ I h) λv s1 ⟨x,H1,I1,r1,q1⟩=>thn (hb pins s1 σ H1 _ I1 q1) λu s2 ⟨y,H2,I2,r2,q2⟩=>
  thn (ho pins s2 σ H2 x y v u _ I2 r1 r2 q2) λc s3 ⟨z,H3,I3,r3,k,e,q3⟩=> ?_) hm
 subst e;cases r3;exact Vd ⟨H3,I3,q3⟩
noncomputable def qie(r r':R2)(ta tb tc:TE):TE:=λσ H Q=>ta σ H λx H1=>tb σ H1 λy H2=>r x y H2 λz H3=> ∃k,z= .bl k/\
 (if k=true then tc σ H3 λw' H4=>r' y w' H4 Q else Q (.bl false) H3)
theorem qkr(ho:OpR X (compareOp op) r)(bj:OpR X (compareOp op') r')(ha:PE X a ta)(hb:PE X b tb)(hc:PE X c tc)(hm:lastMarks [op,op'] [b,c]=false:=by with_unfolding_all rfl):PE X (.Compare a [op,op'] [b,c] pos) (qie r r' ta tb tc):=by
 intro pins s σ H Q I h;refine Compare_chain (thn (ha pins s σ H _ I h) λv s1 ⟨x,H1,I1,r1,q1⟩=>chain_link (thn (hb pins s1 σ H1 _ I1 q1) λu s2 ⟨y,H2,I2,r2,q2⟩=>
  thn (ho pins s2 σ H2 x y v u _ I2 r1 r2 q2) λd s3 ⟨z,H3,I3,r3,k,e,q3⟩=> ?_)) hm
 subst e;cases r3;refine Vd ?_;cases k with
 |false=>exact ite_ff ⟨.bl false,H3,I3,rfl,q3⟩
 |true=>exact ite_tt (chain_last (thn (hc pins s3 σ H3 _ I3 q3) λw' s4 ⟨z',H4,I4,r4,q4⟩=>bj pins s4 σ H4 y z' u w' Q I4 r2 r4 q4))
theorem qke(ho:OpR X (compareOp op) r)(bj:OpR X (compareOp op') r')(ha:PE X a ta)(hb:PE X b tb)(hc:PE X c tc)(hm:lastMarks [op,op'] [b,c]=false:=by with_unfolding_all rfl):PT X (.Compare a [op,op'] [b,c] pos) (qoI (qie r r' ta tb tc)):=by
 intro pins s σ H Q I h;refine isTrue_chain (thn (ha pins s σ H _ I h) λv s1 ⟨x,H1,I1,r1,q1⟩=>test_link (thn (hb pins s1 σ H1 _ I1 q1) λu s2 ⟨y,H2,I2,r2,q2⟩=>
  thn (ho pins s2 σ H2 x y v u _ I2 r1 r2 q2) λd s3 ⟨z,H3,I3,r3,k,e,q3⟩=> ?_)) hm
 subst e;cases r3;refine Vd ?_;cases k with
 |false=>obtain⟨k',e',q'⟩:=q3;cases e';exact ite_ff ⟨H3,I3,q'⟩
 |true=>refine ite_tt (test_last (thn (hc pins s3 σ H3 _ I3 q3) λw' s4 ⟨z',H4,I4,r4,q4⟩=>thn (bj pins s4 σ H4 y z' u w' _ I4 r2 r4 q4) λd' s5 ⟨z2,H5,I5,r5,k2,e2,q5⟩=> ?_));subst e2;cases r5;exact Vd ⟨H5,I5,q5⟩
noncomputable def qvw(K:W.Frag)(x:V)(H:Hp)(k:Bool):Prop:=
 match x with
 |.non=>k=false
 |.bl b=>k=b
 |.int i=>k=(i != 0)
 |.str y=>y.length<=sizeLine/\k=((y.length:Int) != 0)
 |.byt y=>y.size<=sizeLine/\k=((y.size:Int) != 0)
 |.ref p=>(∃xs,SqL K H p xs/\k= !xs.isEmpty)\/(∃xs,SqT K H p xs/\k= !xs.isEmpty)\/∃kvs,H p=some (.dK kvs)/\k= !kvs.isEmpty
 |_=>False
theorem qhF(r:KV kvs vs):(!vs.isEmpty)= !kvs.isEmpty:=by cases r<;>rfl
theorem qdF(r:qan xs its):(!its.toArray.isEmpty)= !xs.isEmpty:=by cases r<;>simp
theorem qdA:(sizeLine:Nat)<2 ^ 63:=by rw[sizeLine_eq];decide
theorem qtA:qvx X (λx H Q=> ∃k,qvw X.K x H k/\Q k H):=by
 intro pins s σ H x v Q I rx h;obtain⟨k,e,q⟩:=h;have hl:=qdA;have hs:sizeLine=16777216:=sizeLine_eq;cases x with
 |non=>cases rx;have e':k=false:=e;subst e';exact truthy_none ⟨H,I,q⟩
 |bl b=>cases rx;have e':k=b:=e;subst e';exact Vd ⟨H,I,q⟩
 |int i=>obtain⟨t,rfl⟩:=rx;have e':k=(i != 0):=e;subst e';exact P.truthy_int ⟨H,I,q⟩
 |str y=>obtain⟨t,rfl⟩:=rx;obtain⟨hy,e'⟩:y.length<=sizeLine/\k=((y.length:Int) != 0):=e;subst e';exact P.truthy_str (by omega) ⟨H,I.tok _,q⟩
 |byt y=>obtain⟨t,rfl⟩:=rx;obtain⟨hy,e'⟩:y.size<=sizeLine/\k=((y.size:Int) != 0):=e;subst e';exact W.truthy_bytes (by omega) ⟨H,I.tok _,q⟩
 |ref p=>
  cases rx;have e':(∃xs,SqL X.K H p xs/\k= !xs.isEmpty)\/(∃xs,SqT X.K H p xs/\k= !xs.isEmpty)\/∃kvs,H p=some (.dK kvs)/\k= !kvs.isEmpty:=e
  rcases e' with⟨xs,hx,e'⟩|⟨xs,hx,e'⟩|⟨kvs,hx,e'⟩
  ·subst e';obtain⟨its,r,pl,hz⟩:=I.list hx;have hlen:=r.length;exact wpAny_truthy_list pl.isList (by simp only[List.size_toArray];omega) ⟨H,I.tok _,by rw[qdF r];exact q⟩
  ·subst e';obtain⟨its,r,pl,hz⟩:=I.tuple hx;have hlen:=r.length;exact truthy_tuple pl (by simp only[List.size_toArray];omega) ⟨H,I.tok _,by rw[qdF r];exact q⟩
  ·subst e';obtain⟨hz,hS,vs,r,m⟩:kvs.length<=sizeLine/\(p==sysModules)=false/\∃vs,KV kvs vs/\s.heap.DictOf (qap X.prog X.w) p vs:=I.hok p _ hx;have hlen:kvs.length=vs.length:=Paired.length r;exact wpAny_truthy_dict hS m (by omega) ⟨H,I.tok _,by rw[qhF r];exact q⟩
 |_=>exact(show False from e).elim
theorem qhn:OpR X (binaryOp .Add) (λx y H Q=> ∃i j,x= .str i/\y= .str j/\i.length+j.length<=sizeLine/\Q (.str (i++j)) H):=by intro pins s σ H x y v u Q I rx ry h;obtain⟨i,j,rfl,rfl,hz,q⟩:=h;obtain⟨t,rfl⟩:=rx;obtain⟨t',rfl⟩:=ry;exact add_str (λt' tk=>⟨.str (i++j),H,I.tok _,⟨_,rfl⟩,q⟩) hz
theorem qdg(r:qan [x] us): ∃u,us=[u]/\RelV x u:=by
 cases r with
 |cons r1 r2=>cases r2;exact⟨_,rfl,r1⟩
theorem qjY(r:qan [x,y] us): ∃u w',us=[u,w']/\RelV x u/\RelV y w':=by
 cases r with
 |cons r1 r2=>
  cases r2 with
  |cons r3 r4=>cases r4;exact⟨_,_,rfl,r1,r3⟩
theorem qjF(hc:X.calm=true):qaC X (.builtin "min") (λxs H Q=> ∃i j,xs=[.int i,.int j]/\Q (.int (if j<i then j else i)) H):=by
 intro pins s σ H xs us Q I r h;obtain⟨i,j,rfl,q⟩:=h;obtain⟨u,w',rfl,⟨t,rfl⟩,⟨t',rfl⟩⟩:=qjY r;refine min_two_ints (I.ok.hd hc) λh' tk k=>⟨_,H,I.kept k,?_,q⟩
 by_cases hj:j<i
 ·rw[if_pos hj,if_pos hj];exact⟨_,rfl⟩
 ·rw[if_neg hj,if_neg hj];exact⟨_,rfl⟩
noncomputable def qvA(K:W.Frag)(x:V)(H:Hp)(n:Nat):Prop:=
 match x with
 |.str y=>y.length<=sizeLine/\n=y.length
 |.byt y=>y.size<=sizeLine/\n=y.size
 |.ref p=>(∃xs,SqL K H p xs/\n=xs.length)\/∃xs,SqT K H p xs/\n=xs.length
 |_=>False
theorem qls:qaC X (.builtin "len") (λxs H Q=> ∃x n,xs=[x]/\qvA X.K x H n/\Q (.int n) H):=by
 intro pins s σ H xs us Q I r h;obtain⟨x,n,rfl,e,q⟩:=h;obtain⟨u,rfl,rx⟩:=qdg r;have hl:=qdA;have hs:sizeLine=16777216:=sizeLine_eq;cases x with
 |str y=>obtain⟨t,rfl⟩:=rx;obtain⟨hy,e'⟩:y.length<=sizeLine/\n=y.length:=e;subst e';exact len_str (by omega) ⟨.int _,H,I.tok _,⟨_,rfl⟩,q⟩
 |byt y=>obtain⟨t,rfl⟩:=rx;obtain⟨hy,e'⟩:y.size<=sizeLine/\n=y.size:=e;subst e';exact W.len_bytes (by omega) ⟨.int _,H,I.tok _,⟨_,rfl⟩,q⟩
 |ref p=>
  cases rx;have e':(∃xs,SqL X.K H p xs/\n=xs.length)\/∃xs,SqT X.K H p xs/\n=xs.length:=e
  rcases e' with⟨xs,hx,e'⟩|⟨xs,hx,e'⟩
  ·subst e';obtain⟨its,r',pl,hz⟩:=I.list hx;have hlen:=r'.length;exact Calls.call_len_list pl.isList (by simp only[List.size_toArray];omega) ⟨.int xs.length,H,I.tok _,⟨_,by simp only[List.size_toArray];rw[hlen]⟩,q⟩
  ·subst e';obtain⟨its,r',pl,hz⟩:=I.tuple hx;have hlen:=r'.length;exact len_tuple pl (by simp only[List.size_toArray];omega) ⟨.int xs.length,H,I.tok _,⟨_,by simp only[List.size_toArray];rw[hlen]⟩,q⟩
 |_=>exact(show False from e).elim
end
structure qoo(h:Heap)(x dx C:Addr)(mA:Str->Option Value):Prop where
 obj:h.get? x=some (W.instObj C dx)
 ns:h.Ns1 dx mA
 ne:dx≠x
theorem qiP{h:Heap}(n:h.Ns1 dx mA): ∃od,h.get? dx=some od/\∀name,W.lookIn name od=some (mA name):=by
 obtain⟨o,es,ep,ho,hd,hk,_,hm⟩:=n;refine⟨o,ho,λname=> ?_⟩;have e:=hm name;unfold nsFind findBy at e;rw[<-Array.find?_toList] at e;unfold W.lookIn;rw[hd];dsimp only;split
 ·rename_i y q;rw[q] at e;exact congrArg some e
 ·rename_i q;rw[q] at e;have a:es.toList.any (·.refKey)=false:=by rw[List.any_eq_false];intro y hy;obtain⟨z,t,gU⟩:=hk y (Array.mem_toList_iff.mp hy);simp[DictEntry.refKey,gU]
  have a': ¬es.toList.any (·.refKey)=true:=by rw[a];exact Vr
  rw[if_neg a'];exact congrArg some e
theorem qoo.look(I:qoo h x dx C mA): ∃od,W.InstAt h x (W.instObj C dx) C (some od)/\∀name,W.lookIn name od=some (mA name):=
 let ⟨od,ho,hl⟩:=qiP I.ns
 ⟨od,⟨I.obj,rfl,rfl,ho⟩,hl⟩
section
theorem qnA {s:Shared} {K:W.Frag} {expr:Bool} (X:K.In s.heap) (I:qoo s.heap x dx C mA) (hg:W.plainGet K C name=true) (hh:W.hasDictIn K C=true) (ha:W.findIn K (.ref C) name=some none) (hv:mA name=some v) (dq:W.handedIn v=true) (h:Q v { s with toks:=s.toks+1 }):
  wpAny (model prog w) A (getAttr (.ref x) name expr) Q E s:=by obtain⟨od,J,hl⟩:=I.look;exact W.get_value X J (W.plainGet_of hg).1 (W.findObj_own hh ha rfl (by rw[hl,hv])) dq h
theorem qkP {s:Shared} {K:W.Frag} (X:K.In s.heap) (I:qoo s.heap x dx C mA) (hg:W.plainGet K C name=true) (hf:W.findIn K (.ref C) name=some (some (.ref f))) (ht:W.isFn K (.ref f)=true) (hv:mA name=none) (h:Q (.ref f,[.ref x]) s):
  wpAny (model prog w) A (getMethod (.ref x) name pl) Q E s:=by obtain⟨od,J,hl⟩:=I.look;exact W.method_fn X J (W.plainGet_of hg).1 (W.plainGet_of hg).2 hf (beq_iff_eq.mp ht) (by show(W.lookIn name od).map (·.isSome)=some false;rw[hl,hv];rfl) h
theorem qmG {s:Shared} {K:W.Frag} {ns:List Str} (X:K.In s.heap) (I:qoo s.heap x dx C mA) (hs:W.findIn K (.ref C) "__setattr__" =some (some (.builtin "object.__setattr__"))) (hp:W.plainOver K C=true) (ht:W.takerIn K C name=some none) (hh:W.hasDictIn K C=true) (hw:PySem.Within mA ns) (hsz:ns.length<=sizeLine) (h: ∀h',qoo h' x dx C (λy=>if y=name then some v else mA y)->Heap.SameBut dx s.heap h'->Q () { s with heap:=h',toks:=s.toks+2 }):
  wpAny (model prog w) A (setAttr (.ref x) name v) Q E s:=by obtain⟨od,J,hl⟩:=I.look;refine W.set_plain X J hs (W.osa_open (s:={ s with toks:=s.toks+1 }) (r:=none) X J hp ht λb=> ?_);obtain⟨cd,hc,dP⟩:=W.any_some hh;have hx:s.heap.get? x=some ⟨.ref C,some dx,.plain, #[]⟩:=I.obj;refine Va (Vb (Va (Va (wpAny_loadPart hx (Va (W.Looks.here (s:={ s with toks:=s.toks+1 }) (W.looks_clsIn X hc) ?_))))));rw[dP];refine Vb (a:=some dx) (Va (Vb (Va ?_)));refine wpAny_nsSet1 (s:={ s with toks:=s.toks+1 }) I.ns λh' fO bS=> ?_;obtain⟨oD,esD,epD,fM,g9,hcD⟩:=fO.count (PySem.Within.cons name v hw);refine Va (wpAny_lookBehind fM (by rw[g9];exact pastItsLine_dict (Vq hcD (by rw[List.length_cons];omega))) ?_);exact Vb (h _ ⟨(bS.2 _ (Ne.symm I.ne)).trans I.obj,fO,I.ne⟩ bS)
theorem qkA {A:Around} {s:Shared} {K:W.Frag} (X:K.In s.heap) (hm:W.makesIn K C=true) (hi:W.findIn K (.ref C) "__init__" =some (some (.ref f))) (hf:W.typeIn K (.ref f)=some (.type "function")) (h:codeAny (model prog w) (A.under (.builtin "type.__call__" ⟨.ref C::vs,kw⟩)) (.call (.ref f) ⟨.ref (s.heap.objs.size+1)::vs,kw⟩) (W.InitBack (s.heap.objs.size+1) R)
   { s with heap:=(s.heap.push W.emptyDict).push (W.instObj C s.heap.objs.size) }):
  codeAny (model prog w) A (.call (.ref C) ⟨vs,kw⟩) R s:=by obtain⟨hh,g,d,t,os⟩:=s;exact W.make_core (W.makes_of X hm) (W.looks_findIn X hi) (λself=>W.bind_fn X self hf) (.inl rfl) h
end
noncomputable def qd4(f:Str)(v:V):List (Str×V)->List (Str×V)
 |[]=>[(f,v)]
 |(g,x)::r=>if g=f then(g,v)::r else(g,x)::qd4 f v r
theorem qcS(f g:Str)(v:V): ∀fs:List (Str×V),(qd4 f v fs).lookup g=if g=f then some v else fs.lookup g
 |[]=>by
  show List.lookup g [(f,v)]=_;by_cases h:g=f
  ·have hb:(g==f)=true:=beq_iff_eq.mpr h;simp only[List.lookup,hb,if_pos h]
  ·have hb:(g==f)=false:=beq_eq_false_iff_ne.mpr h;simp only[List.lookup,hb,if_neg h]
 |(k,x)::r=>by
  have ih:=qcS f g v r;rw[show qd4 f v ((k,x)::r)=(if k=f then(k,v)::r else(k,x)::qd4 f v r) from rfl];by_cases hk:k=f
  ·rw[if_pos hk];by_cases h:g=k
   ·have hb:(g==k)=true:=beq_iff_eq.mpr h;simp only[List.lookup,hb,if_pos (h.trans hk)]
   ·have hb:(g==k)=false:=beq_eq_false_iff_ne.mpr h;simp only[List.lookup,hb,if_neg (λe:g=f=>h (e.trans hk.symm))]
  ·rw[if_neg hk];by_cases h:g=k
   ·have hb:(g==k)=true:=beq_iff_eq.mpr h;simp only[List.lookup,hb,if_neg (λe:g=f=>hk (h.symm.trans e))]
   ·have hb:(g==k)=false:=beq_eq_false_iff_ne.mpr h;simp only[List.lookup,hb];exact ih
theorem qcV(f:Str)(v:V): ∀fs:List (Str×V),f∈(qd4 f v fs).map (·.1)/\∀g,g∈fs.map (·.1)->g∈(qd4 f v fs).map (·.1)
 |[]=>⟨by simp[qd4],λg h=>by simp at h⟩
 |(k,x)::r=>by
  obtain⟨i1,i2⟩:=qcV f v r;rw[show qd4 f v ((k,x)::r)=(if k=f then(k,v)::r else(k,x)::qd4 f v r) from rfl];by_cases hk:k=f
  ·rw[if_pos hk];subst hk;exact⟨by simp,λg h=>by simpa using h⟩
  ·rw[if_neg hk];refine⟨?_,λg h=> ?_⟩
   ·rw[List.map_cons];exact Vl _ i1
   ·rw[List.map_cons] at h⊢
    rcases List.mem_cons.mp h with e|e
    ·exact List.mem_cons.mpr (.inl e)
    ·exact Vl _ (i2 g e)
theorem qcU(f:Str)(v:V): ∀fs:List (Str×V),(qd4 f v fs).length<=fs.length+1
 |[]=>by simp[qd4]
 |(k,x)::r=>by
  have ih:=qcU f v r;rw[show qd4 f v ((k,x)::r)=(if k=f then(k,v)::r else(k,x)::qd4 f v r) from rfl];by_cases hk:k=f
  ·rw[if_pos hk,List.length_cons,List.length_cons];omega
  ·rw[if_neg hk,List.length_cons,List.length_cons];omega
theorem qfC.some_of(r:qfC (some v) o): ∃u,o=some u/\RelV v u:=by
 cases o with
 |none=>exact(show False from r).elim
 |some u=>exact⟨u,rfl,r⟩
theorem qfC.none_of(r:qfC none o):o=none:=by
 cases o with
 |none=>rfl
 |some u=>exact(show False from r).elim
theorem qi8(r:RelV v u):W.handedIn u=true:=by
 cases v with
 |non=>cases(show u=Value.none from r);rfl
 |bl b=>cases(show u=Value.bool b from r);rfl
 |int i=>obtain⟨t,e⟩:=(show ∃t,u=Value.int i t from r);cases e;rfl
 |str x=>obtain⟨t,e⟩:=(show ∃t,u=Value.str x t from r);cases e;rfl
 |byt b=>obtain⟨t,e⟩:=(show ∃t,u=Value.bytes b t from r);cases e;rfl
 |flt b=>obtain⟨t,e⟩:=(show ∃t,u=Value.float b t from r);cases e;rfl
 |ref a=>cases(show u=Value.ref a from r);rfl
 |ty n=>cases(show u=Value.type n from r);rfl
section
theorem qef(hok:HOk P w H h)(e:H a=some (.ins C dx fs)): ∃mA,qoo h a dx C mA/\(∀f,qfC (fs.lookup f) (mA f))/\PySem.Within mA (fs.map (·.1))/\fs.length<=1000/\H dx=some (.own a):=by
 obtain⟨d,z,ne,ob,mA,n,r,q⟩:=(show qaA P w H h a (.ins C dx fs) from hok a _ e)
 exact⟨mA,⟨ob,n,ne⟩,r,q,z,d⟩
end
structure Cls(K:W.Frag)(C:Addr):Prop where
 pg:W.plainGet K C Str.empty=true
 hd:W.hasDictIn K C=true
 po:W.plainOver K C=true
 sa:W.findIn K (.ref C) "__setattr__" =some (some (.builtin "object.__setattr__"))
theorem Cls.get{K:W.Frag}{C:Addr}(c:Cls K C)(f:Str):W.plainGet K C f=true:=c.pg
noncomputable def qbb(K:W.Frag)(C:Addr)(f:Str):Prop:=W.findIn K (.ref C) f=some none
theorem qbb.taker{K:W.Frag}{C:Addr}{f:Str}(n:qbb K C f):W.takerIn K C f=some none:=by unfold W.takerIn;rw[show W.findIn K (.ref C) f=some none from n];rfl
structure Con(K:W.Frag)(C:Addr)(f:Str)(v:V)(u:Value):Prop where
 at_:W.findIn K (.ref C) f=some (some u)
 rel:RelV v u
 get:W.specialIn K u "__get__" =some none
 cp:W.copiedNames.contains f=false
structure qq4(K:W.Frag)(C:Addr)(m:Str)(f:Addr):Prop where
 at_:W.findIn K (.ref C) m=some (some (.ref f))
 fn:W.isFn K (.ref f)=true
 kp:W.keepIn K (.ref f)=true
section
theorem qhG(I:Inv X pins σ H s)(e:H a=some (.ins C dx fs))(c:Cls X.K C)(n:qbb X.K C f)(l:fs.lookup f=some v)(h: ∀u s',Inv X pins σ H s'->RelV v u->Q u s'):wpAny (model X.prog X.w) A (getAttr (.ref a) f b) Q E s:=by obtain⟨mA,O,r,_,_,_⟩:=qef I.hok e;obtain⟨u,hu,ru⟩:=qfC.some_of (v:=v) (o:=mA f) (by rw[<-l];exact r f);exact qnA I.kIn O (c.get f) c.hd n hu (qi8 ru) (h u _ (I.tok _) ru)
theorem qdG(I:Inv X pins σ H s)(e:H a=some (.ins C dx fs))(c:Cls X.K C)(k:qq4 X.K C m g)(l:fs.lookup m=none)(h:Q (.ref g,[.ref a]) s):wpAny (model X.prog X.w) A (getMethod (.ref a) m pl) Q E s:=by obtain⟨mA,O,r,_,_,_⟩:=qef I.hok e;have hn:mA m=none:=qfC.none_of (by rw[<-l];exact r m);exact qkP I.kIn O (c.get m) k.at_ k.fn hn h
theorem qhj(I:Inv X pins σ H s)(e:H a=some (.ins C dx fs))(c:Cls X.K C)(n:qbb X.K C f)(hl:fs.length<1000)(ry:RelV y u)(h: ∀s',Inv X pins σ (upd H a (.ins C dx (qd4 f y fs))) s'->Q () s'):wpAny (model X.prog X.w) A (setAttr (.ref a) f u) Q E s:=by
 obtain⟨mA,O,r,wi,_,ho⟩:=qef I.hok e;have hz:(fs.map (·.1)).length<=sizeLine:=by rw[List.length_map,sizeLine_eq];omega
 refine qmG I.kIn O c.sa c.po n.taker c.hd wi hz λh' O' sb=>h _ ?_;have hd: ∃o,h'.get? dx=some o:=let ⟨o,_,_,e',_⟩:=O'.ns;⟨o,e'⟩
 refine I.write (x:=a) (e:=dx) (by rw[e];exact True.intro) (.inr ho) (λb q hb z=>(sb.2 b hb).trans z) hd ?_;refine⟨by rw[qaa O.ne];exact ho,?_,O.ne,O'.obj,_,O'.ns,λg=> ?_,λg hg=> ?_⟩
 ·have:=qcU f y fs;omega
 ·show qfC ((qd4 f y fs).lookup g) (if g=f then some u else mA g);rw[qcS];by_cases q:g=f
  ·rw[if_pos q,if_pos q];exact ry
  ·rw[if_neg q,if_neg q];exact r g
 ·by_cases q:g=f
  ·rw[q];exact(qcV f y fs).1
  ·refine(qcV f y fs).2 g (wi g λz=>hg ?_);show(if g=f then some u else mA g)=none;rw[if_neg q];exact z
theorem Inv.made (I:Inv X pins σ H s):Inv X pins σ (upd (upd H s.heap.objs.size (.own (s.heap.objs.size+1))) (s.heap.objs.size+1) (.ins C s.heap.objs.size []))
  { s with heap:=(s.heap.push W.emptyDict).push (W.instObj C s.heap.objs.size) }:=by
 have e1:(s.heap.push W.emptyDict).get? s.heap.objs.size=some W.emptyDict:=Vi s.heap rfl;have e2:((s.heap.push W.emptyDict).push (W.instObj C s.heap.objs.size)).get? (s.heap.objs.size+1)=some (W.instObj C s.heap.objs.size):=by
  have:=Vi (s.heap.push W.emptyDict) (o:=W.instObj C s.heap.objs.size) rfl
  rwa [Heap.size_push] at this
 have e3:(s.heap.push W.emptyDict).Ns s.heap.objs.size (λ_=>none):=⟨W.emptyDict, #[],_,e1,rfl,(λe he=>absurd he (by simp)),λ_=>rfl⟩
 have I1:=I.laid (a:=s.heap.objs.size) (o:=.own (s.heap.objs.size+1)) (h':=s.heap.push W.emptyDict) (t':=s.toks) (λb u q=>Vh _ q) (Vm _) ⟨_,e1⟩;refine I1.laid (a:=s.heap.objs.size+1) (o:=.ins C s.heap.objs.size []) (t':=s.toks) (λb u q=>Vh _ q) (Nat.le_of_eq (Heap.size_push _ _)) ?_;have ne:s.heap.objs.size≠s.heap.objs.size+1:=Vo (Vz _);refine⟨by rw[qaa ne,qac],Nat.zero_le _,ne,e2,λ_=>none,(Heap.Ns1.of_empty e3).at λo q=>Vh _ q,λ_=>True.intro,λy hy=>absurd rfl hy⟩
theorem qok(hb:attributeBase e f env (eval e env)=eval e env)(h:wpAny (model prog w) A (eval e env) (λo ae=>wpAny (model prog w) A (getAttr o f true) Q E ae) E s):wpAny (model prog w) A (eval (.Attribute e f pos) env) Q E s:=
 Attribute_any_ h (by rw[arm_eval_Attribute,hb])
end
noncomputable def qtE(K:W.Frag)(ta:TE)(f:Str):TE:=λσ H Q=>ta σ H λx H1=> ∃a C dx fs v,x= .ref a/\H1 a=some (.ins C dx fs)/\Cls K C/\qbb K C f/\fs.lookup f=some v/\Q v H1
noncomputable def quM(K:W.Frag)(ta tv:TE)(f:Str):TS:=λD σ H=>tv σ H λy H1=>ta σ H1 λx H2=> ∃a C dx fs,x= .ref a/\H2 a=some (.ins C dx fs)/\Cls K C/\qbb K C f/\fs.length<1000/\
 D.nx σ (upd H2 a (.ins C dx (qd4 f y fs)))
section
theorem qpp(he:PE X e ta)(hb:attributeBase e f X.env (eval e X.env)=eval e X.env):PE X (.Attribute e f pos) (qtE X.K ta f):=by intro pins s σ H Q I h;refine qok hb (thn (he pins s σ H _ I h) λu s1 ⟨x,H1,I1,rx,a,C,dx,fs,v,ex,ea,c,n,l,q⟩=> ?_);subst ex;obtain rfl:u=Value.ref a:=rx;exact qhG I1 ea c n l λu' s2 I2 ru=>⟨v,H1,I2,ru,q⟩
theorem qpe(ha:PE X o ta)(hv:PE X value tv)(hs:swapsWith value (some (.Attribute o f pos')) pos.line X.env=pure false):PS X (.Assign [.Attribute o f pos'] value pos) (quM X.K ta tv f):=by intro pins s σ H D I h;refine plainObj_wpAny_Assign_Attribute (thn (hv pins s σ H _ I h) λu s1 ⟨y,H1,I1,ry,q⟩=>thn (ha pins s1 σ H1 _ I1 q) λov s2 ⟨x,H2,I2,rx,a,C,dx,fs,ex,ea,c,n,l,q2⟩=> ?_) hs;subst ex;obtain rfl:ov=Value.ref a:=rx;exact qhj I2 ea c n l ry λs3 I3=>⟨σ,_,I3,q2⟩
noncomputable def rAdd:V->V->Hp->VK->Prop:=λx y H Q=> ∃i j,x= .int i/\y= .int j/\Q (.int (i+j)) H
end
section
inductive qgr(K:W.Frag)(H:Hp):V->Value->Prop where
 |non:qgr K H .non (.type "NoneType")
 |bl (x:Bool):qgr K H (.bl x) (.type "bool")
 |int (i:Int):qgr K H (.int i) (.type "int")
 |str (x:Str):qgr K H (.str x) (.type "str")
 |flt (x:UInt64):qgr K H (.flt x) (.type "float")
 |lst {a:Addr} {xs:List V} (e:H a=some (.lst xs)):qgr K H (.ref a) (.type "list")
 |frz {a:Addr} {o:Obj} {xs:List V} (e:H a=some (.frz o (.lst xs))):qgr K H (.ref a) (.type "list")
 |tup {a:Addr} {xs:List V} (e:H a=some (.tup xs)):qgr K H (.ref a) (.type "tuple")
 |dK {a:Addr} {kvs:List (Key×V)} (e:H a=some (.dK kvs)):qgr K H (.ref a) (.type "dict")
 |dT {a:Addr} {kvs:List (List Key×V)} (e:H a=some (.dT kvs)):qgr K H (.ref a) (.type "dict")
 | ins {a C dx:Addr} {fs:List (Str×V)} (e:H a=some (.ins C dx fs)) (cl:Cls K C) (ha:W.findIn K (.ref C) "__class__" =some (some (.builtin "object.__class__")))
   (hn:W.specialIn K (.builtin "object.__class__") "__get__" =some (some (.builtin "getset_descriptor.__get__"))) (iO:W.takesIn K (.builtin "object.__class__")=some true)
   (hm:W.mroIn K C (.type "object")=some true):qgr K H (.ref a) (.ref C)
theorem qi2 (I:Inv X pins σ H s) (rx:RelV x u) (ty:qgr X.K H x t) (e:W.kitOne X.K t c=some b) (h: ∀tk,Q (.bool b) { s with toks:=tk }):
  wpAny (model X.prog X.w) A (call (.builtin "isinstance") [u,c]) Q E s:=by
 cases ty with
 |non=>cases(show u=Value.none from rx);exact W.kia_one W.kitx_none I.kIn True.intro e (λz=>nomatch z) h
 |bl y=>cases(show u=Value.bool y from rx);exact W.kia_one W.kitx_bool I.kIn True.intro e (λz=>nomatch z) h
 |int i=>obtain⟨t,q⟩:=(show ∃t,u=Value.int i t from rx);cases q;exact W.kia_one W.kitx_int I.kIn True.intro e (λz=>nomatch z) h
 |str y=>obtain⟨t,q⟩:=(show ∃t,u=Value.str y t from rx);cases q;exact W.kia_one W.kitx_str I.kIn True.intro e (λz=>nomatch z) h
 |flt y=>obtain⟨t,q⟩:=(show ∃t,u=Value.float y t from rx);cases q;exact W.kia_one W.kitx_float I.kIn True.intro e (λz=>nomatch z) h
 |@lst a xs ea=>
  cases(show u=Value.ref a from rx);obtain⟨_,_,n,_,h1⟩:=(show qaA X.prog X.w H s.heap a (.lst xs) from I.hok a _ ea)
  exact W.kia_one W.kitx_list I.kIn ⟨_,h1,rfl⟩ e (λz=>nomatch z) h
 |@frz a ob xs ea=>
  cases(show u=Value.ref a from rx);obtain⟨_,_,_,n,_,h1⟩:=(show qaA X.prog X.w H s.heap a (.frz ob (.lst xs)) from I.hok a _ ea)
  exact W.kia_one W.kitx_list I.kIn ⟨_,h1,rfl⟩ e (λz=>nomatch z) h
 |@tup a xs ea=>
  cases(show u=Value.ref a from rx);obtain⟨_,_,_,p⟩:=(show qaA X.prog X.w H s.heap a (.tup xs) from I.hok a _ ea)
  obtain⟨o,h1,h2,_⟩:=p;exact W.kia_one W.kitx_tuple I.kIn ⟨o,h1,h2⟩ e (λz=>nomatch z) h
 |@dK a kvs ea=>
  cases(show u=Value.ref a from rx);obtain⟨_,_,vs,_,p⟩:=(show qaA X.prog X.w H s.heap a (.dK kvs) from I.hok a _ ea)
  obtain⟨o,es,ep,h1,h2,_⟩:=p;exact W.kia_one W.kitx_dict I.kIn ⟨o,h1,h2.1⟩ e (λz=>nomatch z) h
 |@dT a kvs ea=>
  cases(show u=Value.ref a from rx);obtain⟨_,_,xs,_,o,es,ep,h1,h2,_⟩:=(show qaA X.prog X.w H s.heap a (.dT kvs) from I.hok a _ ea)
  exact W.kia_one W.kitx_dict I.kIn ⟨o,h1,h2.1⟩ e (λz=>nomatch z) h
 |@ins a C dx fs ea cl ha hn iO hm=>cases(show u=Value.ref a from rx);obtain⟨mA,O,_⟩:=qef I.hok ea;obtain⟨od,J,_⟩:=O.look;exact W.kia_one (W.kitx_own (cl.get _) cl.hd ha hn iO hm) I.kIn J e (λz=>nomatch z) h
end
structure qaX(k:Nat)(A:Around):Prop where
 hd:A.handled=none
 dp:A.depth+3*k+5<recursionLimit
 un:A.units+16*k+200<cLine
theorem qaX.mono(r:qaX k A)(h:j<=k):qaX j A:=⟨r.hd,by have:=r.dp;omega,by have:=r.un;omega⟩
theorem qaX.deeper(r:qaX (k+1) A)(env:Env):qaX k (A.deeper env):=
 ⟨r.hd,by have:=r.dp;show A.depth+1+3*k+5<_;omega,by have:=r.un;show A.units+3+16*k+200<_;omega⟩
theorem qhv{A:Around}:(A.under (.builtin "type.__call__" ⟨.ref C::us,kw⟩)).depth=A.depth+1:=by
 first|rfl|simp[Around.under,Code.weight,Code.isCreation,Code.isGuard,Code.isCaller,Code.frames,Code.isFrame,guardIds]
theorem qhu{A:Around}:(A.under (.builtin "type.__call__" ⟨.ref C::us,kw⟩)).units=A.units+1:=by
 first|rfl|simp[Around.under,Code.cUnits,Code.frames,Code.isFrame]
theorem qaX.make(r:qaX (k+1) A)(C:Addr)(us:List Value)(kw:List (Str×Value)):qaX k (A.under (.builtin "type.__call__" ⟨.ref C::us,kw⟩)):=
 ⟨r.hd,by have:=r.dp;rw[qhv];omega,by have:=r.un;rw[qhu];omega⟩
theorem qaX.depth(r:qaX k A):A.depth<recursionLimit:=by have:=r.dp;omega
theorem qaX.units(r:qaX k A):A.units+64<cLine:=by have:=r.un;omega
noncomputable def qmu:TA:=λ_ H Q=>Q [] H
noncomputable def qdV(ta:TE)(tr:TA):TA:=λσ H Q=>ta σ H λx H1=>tr σ H1 λxs H2=>Q (x::xs) H2
section
theorem qbn:PA X [] qmu:=λ_ _ _ _ H Q I h=>Calls.spliced_nil ⟨[],H,I,.nil,h⟩
theorem qaM{X:Cx}{e:Expr}{es:List Expr}{te:TE}{t:TA}(ha:PE X e te)(hr:PA X es t)(hs:starEach (e::es) X.env=(false,eval e X.env)::starEach es X.env:=by rfl):PA X (e::es) (qdV te t):=by intro pos pins s σ H Q I h;rw[hs];show wpAny _ _ (spliced ((false,eval e X.env)::backTo pos (starEach es X.env))) _ _ s;refine Calls.spliced_cons (thn (ha pins s σ H _ I h) λu s1 ⟨x,H1,I1,r1,q1⟩=> ?_);exact thn (hr pos pins s1 σ H1 _ I1 q1) λus s2 ⟨xs,H2,I2,r2,q2⟩=>⟨x::xs,H2,I2,.cons r1 r2,q2⟩
noncomputable def quz(t:TA):TE:=λσ H Q=>t σ H λxs H1=>xs.length<=sizeLine/\∀p,H1 p=none->Q (.ref p) (upd H1 p (.tup xs))
noncomputable def quE(t:TA):TE:=λσ H Q=>t σ H λxs H1=>xs.length<=sizeLine/\∀p,H1 p=none->Q (.ref p) (upd H1 p (.lst xs))
theorem qpl{x1}(h:PA X es t):PE X (.Tuple es x1 pos) (quz t):=by intro pins s σ H Q I hq;refine wpAny_Tuple_spliced (thn (h pos pins s σ H _ I hq) λus s1 ⟨xs,H1,I1,r,z,q⟩=>⟨by rw[<-r.length];exact z,?_⟩);have hf:H1 s1.heap.objs.size=none:=I1.hok.fresh (Vm _);refine⟨.ref s1.heap.objs.size,upd H1 s1.heap.objs.size (.tup xs),I1.laid (t':=s1.toks) (λb u e=>Vh _ e) (Vm _) ?_,rfl,q _ hf⟩;exact⟨z,us,r,⟨_,Vi _ rfl,rfl,_,rfl⟩⟩
theorem qeY{X:Cx}{es:List Expr}{t:TA}{pos:Pos}(h:PA X es t):PE X (.List es pos) (quE t):=by intro pins s σ H Q I hq;refine wpAny_List_spliced (thn (h pos pins s σ H _ I hq) λus s1 ⟨xs,H1,I1,r,z,q⟩=>⟨by rw[<-r.length];exact z,?_⟩);have hf:H1 s1.heap.objs.size=none:=I1.hok.fresh (Vm _);refine⟨.ref s1.heap.objs.size,upd H1 s1.heap.objs.size (.lst xs),I1.laid (t':=s1.toks) (λb u e=>Vh _ e) (Vm _) ?_,rfl,q _ hf⟩;exact⟨z,us,0,r,Vi _ rfl⟩
end
abbrev Sp:=List V->Hp->VK->XK->Prop
abbrev CXT:=List Env->Hp->Shared->XK->Value->Shared->Prop
structure qjR(P:Program)(w:World)(K:W.Frag)(mg:Str->Option Value)(base:Heap)(A:Around)(outer:List Env)(s:Shared)(H:Hp):Prop where
 frames:A.frames=some outer
 mod:Mod K mg base
 bs: ∀b o,base.get? b=some o->s.heap.get? b=some o/\H b=none
 bsz:base.objs.size<=s.heap.objs.size
 funs:s.heap.FunFrames base outer
 frf: ∀b∈frs outer,H b=none
 hok:HOk P w H s.heap
 bare:AllBare s.gens
noncomputable def CE(outer:List Env)(P:Program)(w:World)(H:Hp)(s:Shared)(Q:VK)(u:Value)(s':Shared):Prop:=
 ∃v H',s'.os=s.os/\AllBare s'.gens/\Un (frs outer) [] H H' s.heap s'.heap/\HOk P w H' s'.heap/\RelV v u/\Q v H'
noncomputable def CR(CX:CXT)(outer:List Env)(P:Program)(w:World)(H:Hp)(s:Shared)(Q:VK)(E:XK)(r:Result)(s':Shared):Prop:=
 match r with
 |.ok (.ret u)=>CE outer P w H s Q u s'
 |.ok _=>False
 |.error e=>CX outer H s E e s'
structure qcD(P:Program)(w:World)(K:W.Frag)(mg:Str->Option Value)(base:Heap)(CX:CXT)(k:Nat)(f:Addr)(fd:FuncData)(ps:List Str)(sp:Sp):Prop where
 len: ∀vs H Q E,sp vs H Q E->vs.length=ps.length
 run: ∀(A:Around) (outer:List Env) (s:Shared) (H:Hp) (args:Args) (us:List Value) (vs:List V) (Q:VK) (E:XK),qaX k A->qjR P w K mg base A outer s H->BindsTo s fd args (ps.zip us)->qan vs us->sp vs H Q E->
  codeAny (model P w) A (.call (.ref f) args) (CR CX outer P w H s Q E) s
theorem qjR.make {P:Program} {w:World} {K:W.Frag} {mg:Str->Option Value} {base:Heap} {A:Around} {outer:List Env} {s:Shared} {H:Hp} (e:qjR P w K mg base A outer s H) (C:Addr) (us:List Value) (kw:List (Str×Value)):
  qjR P w K mg base (A.under (.builtin "type.__call__" ⟨.ref C::us,kw⟩)) outer s H:=⟨by first|exact e.frames|(simpa [Around.under,Code.envs,Code.isFrame,pushEnvs] using e.frames),e.mod,e.bs,e.bsz,e.funs,e.frf,e.hok,e.bare⟩
section
theorem Inv.env0(I:Inv X pins σ H s):qjR X.prog X.w X.K X.mg X.base X.A X.stack s H:=
 ⟨I.ok.frames,I.ok.mod,I.bs,Vq I.ok.bsz I.sz,I.stack,I.stkFree,I.hok,I.bare⟩
theorem Inv.after(I:Inv X pins σ H s)(h:CE X.stack X.prog X.w H s Q u s'):EP X pins σ Q u s':=by obtain⟨v,H',os,bare,un,hok,r,q⟩:=h;obtain⟨hh,g,d,t,dZ⟩:=s';obtain rfl:dZ=s.os:=os;exact⟨v,H',I.call (h':=hh) (g':=g) (d':=d) (t':=t) (ch:=[]) un hok bare (λb z=>absurd z (by simp)),r,q⟩
end
noncomputable def qmy(sp:Sp)(aP:List V)(E:XK)(t:TA):TE:=λσ H Q=>t σ H λvs H1=>sp (vs++aP) H1 Q E
noncomputable def qmw(C:Addr)(sp:Sp)(aP:List V)(E:XK)(t:TA):TE:=λσ H Q=>t σ H λvs H1=> ∀x dx,H1 x=none->H1 dx=none->dx≠x->
 sp (.ref x::(vs++aP)) (upd (upd H1 dx (.own x)) x (.ins C dx [])) (λv H2=>v= .non/\Q (.ref x) H2) E
noncomputable def qaO(K:W.Frag)(fd:FuncData)(ps:List Str)(ds:List Value):Prop:=
 ∀(s:Shared) (us:List Value),K.In s.heap->(us++ds).length=ps.length->BindsTo s fd ⟨us,[]⟩ (ps.zip (us++ds))
theorem qaO.all{K:W.Frag}{fd:FuncData}{ps:List Str}(h: ∀us:List Value,us.length=ps.length->bindArgs fd ⟨us,[]⟩=pure (ps.zip us)):qaO K fd ps []:=λs us _ hl=>by rw[List.append_nil] at hl⊢;exact .of_eq (h us hl)
noncomputable def qaD(CX:CXT)(X:Cx)(E:XK):Prop:= ∀(pins:List (Addr×Obj)) (σ:St) (H:Hp) (s:Shared) (e:Value) (s':Shared),Inv X pins σ H s->CX X.stack H s E e s'->X.xe e s'
section
theorem qeQ(F:qcD X.prog X.w X.K X.mg X.base CX k f fd ps sp)(hr:qaX k X.A)(hb:qaO X.K fd ps ds)(hd:qan aP ds)(hx:qaD CX X E)(I:Inv X pins σ H s)(r:qan vs us)(h:sp (vs++aP) H Q E):wpAny (model X.prog X.w) X.A (call (.ref f) us) (EP X pins σ Q) X.xe s:=by
 have r2:qan (vs++aP) (us++ds):=r.append hd;have hl:(us++ds).length=ps.length:=by rw[<-r2.length];exact F.len _ _ _ _ h
 refine wpAny_call (codeAny_mono (F.run X.A X.stack s H ⟨us,[]⟩ (us++ds) (vs++aP) Q E hr I.env0 (hb s us I.kIn hl) r2 h) λr s' hq=> ?_);cases r with
 |error e=>exact hx pins σ H s e s' I hq
 |ok fl=>
  cases fl with
  |ret u=>exact I.after hq
  |next|brk|cont=>exact False.elim hq
theorem qm1 (F:qcD X.prog X.w X.K X.mg X.base CX k f fd ps sp) (hr:qaX k X.A) (hg:Gl X x) (hm:X.mg x=some (.ref f)) (hk:W.keepIn X.K (.ref f)=true) (hb:qaO X.K fd ps ds) (hd:qan aP ds) (hx:qaD CX X E) (ha:PA X (e::es) t) (aF:(x==("__debug__" :Str))=false:=by decide) (he:starEach (e::es) X.env=(false,eval e X.env)::starEach es X.env:=by rfl) (ax:(backTo pos (starEach es X.env)).any (·.1)=false:=by rfl):
  PE X (.Call (.Name x p) (e::es) [] pos) (qmy sp aP E t):=by intro pins s σ H Q I h;refine Vf (qbf I hg hm ?_ aF);refine W.callWith_K (h₀:=X.base) I.ok.mod.kin hk (thn (ha pos pins s σ H _ I h) λus s1 ⟨vs,H1,I1,r,q⟩=>⟨I1.kIn,?_⟩) he ax;exact qeQ F hr hb hd hx I1 r q
theorem qkt (F:qcD X.prog X.w X.K X.mg X.base CX k f fd ps sp) (hr:qaX k X.A) (hg:Gl X x) (hm:X.mg x=some (.ref f)) (hk:W.keepIn X.K (.ref f)=true) (hb:qaO X.K fd ps ds) (hd:qan aP ds) (hx:qaD CX X E) (aF:(x==("__debug__" :Str))=false:=by decide):PE X (.Call (.Name x p) [] [] pos) (qmy sp aP E qmu):=by intro pins s σ H Q I h;refine Vf (qbf I hg hm ?_ aF);exact W.callWith_K0 I.kIn hk (qeQ (us:=[]) F hr hb hd hx I .nil h)
structure Mk(K:W.Frag)(C f:Addr):Prop where
 makes:W.makesIn K C=true
 init:W.findIn K (.ref C) "__init__" =some (some (.ref f))
 fn:W.isFn K (.ref f)=true
 kp:W.keepIn K (.ref C)=true
theorem qgC (M:Mk X.K C f) (F:qcD X.prog X.w X.K X.mg X.base CX k f fd ps sp) (hr:qaX (k+1) X.A) (hb:qaO X.K fd ps ds) (hd:qan aP ds) (hx:qaD CX X E) (I:Inv X pins σ H s) (r:qan vs us) (h: ∀x dx,H x=none->H dx=none->dx≠x->sp (.ref x::(vs++aP)) (upd (upd H dx (.own x)) x (.ins C dx [])) (λv H2=>v= .non/\Q (.ref x) H2) E):
  wpAny (model X.prog X.w) X.A (call (.ref C) us) (EP X pins σ Q) X.xe s:=by
 have hq:=h (s.heap.objs.size+1) s.heap.objs.size (I.hok.fresh (Nat.le_succ _)) (I.hok.fresh (Vm _)) (Vo (Vz _));have I2:=Inv.made (C:=C) I;have r2:qan (V.ref (s.heap.objs.size+1)::(vs++aP)) (Value.ref (s.heap.objs.size+1)::(us++ds)):=.cons rfl (r.append hd);have hl:(Value.ref (s.heap.objs.size+1)::us++ds).length=ps.length:=by have e:=r2.length;rw[F.len _ _ _ _ hq] at e;exact e.symm
 refine wpAny_call (qkA (f:=f) I.kIn M.makes M.init (beq_iff_eq.mp M.fn) (codeAny_mono (F.run _ X.stack _ _ ⟨Value.ref (s.heap.objs.size+1)::us,[]⟩ (Value.ref (s.heap.objs.size+1)::(us++ds)) _ _ E (hr.make C us [])
  (I2.env0.make C us []) (hb _ (Value.ref (s.heap.objs.size+1)::us) I2.kIn hl) r2 hq) λr s' bI=> ?_))
 cases r with
 |error e=>exact hx pins σ _ _ e s' I2 bI
 |ok fl=>
  cases fl with
  |ret u=>obtain⟨v,H',I3,rv,ev,q3⟩:=I2.after bI;subst ev;exact⟨rv,⟨V.ref (s.heap.objs.size+1),H',I3,rfl,q3⟩⟩
  |next|brk|cont=>exact False.elim bI
theorem qmY (M:Mk X.K C f) (F:qcD X.prog X.w X.K X.mg X.base CX k f fd ps sp) (hr:qaX (k+1) X.A) (hg:Gl X x) (hm:X.mg x=some (.ref C)) (hb:qaO X.K fd ps ds) (hd:qan aP ds) (hx:qaD CX X E) (ha:PA X (e::es) t) (aF:(x==("__debug__" :Str))=false:=by decide) (he:starEach (e::es) X.env=(false,eval e X.env)::starEach es X.env:=by rfl) (ax:(backTo pos (starEach es X.env)).any (·.1)=false:=by rfl):
  PE X (.Call (.Name x p) (e::es) [] pos) (qmw C sp aP E t):=by intro pins s σ H Q I h;refine Vf (qbf I hg hm ?_ aF);refine W.callWith_K (h₀:=X.base) I.ok.mod.kin M.kp (thn (ha pos pins s σ H _ I h) λus s1 ⟨vs,H1,I1,r,q⟩=>⟨I1.kIn,?_⟩) he ax;exact qgC M F hr hb hd hx I1 r q
theorem qko (M:Mk X.K C f) (F:qcD X.prog X.w X.K X.mg X.base CX k f fd ps sp) (hr:qaX (k+1) X.A) (hg:Gl X x) (hm:X.mg x=some (.ref C)) (hb:qaO X.K fd ps ds) (hd:qan aP ds) (hx:qaD CX X E) (aF:(x==("__debug__" :Str))=false:=by decide):PE X (.Call (.Name x p) [] [] pos) (qmw C sp aP E qmu):=by intro pins s σ H Q I h;refine Vf (qbf I hg hm ?_ aF);exact W.callWith_K0 I.kIn M.kp (qgC (us:=[]) M F hr hb hd hx I .nil h)
end
section
structure quu(K:W.Frag)(fd:FuncData)(ps ks:List Str)(g:List Value->List Value->List Value)(gV:List V->List V->List V):Prop where
 to: ∀(s:Shared) (us ws:List Value),K.In s.heap->(g us ws).length=ps.length->BindsTo s fd ⟨us,ks.zip ws⟩ (ps.zip (g us ws))
 rel: ∀{vs:List V} {us:List Value} {zs:List V} {ws:List Value},qan vs us->qan zs ws->qan (gV vs zs) (g us ws)
end
structure qbE(N P:List Str)(sc:Scope):Prop where
 kind:sc.kind= .function
 co:sc.isCoroutine=false
 gen:sc.isGenerator=false
 nd:N.Nodup
 pre:N.take P.length=P
 par: ∀x∈P,sc.names.lookup x=some .local\/sc.names.lookup x=some .cell
 nofree: ∀y∈sc.names,y.2≠.free
theorem qfu{kindOf:Str->Option NameKind}{x:Str}: ∀{binds:List (Str×Value)} {m:Str->Option Value},(∀v,(x,v)∉binds)->bindL kindOf binds m x=m x
 |[],_,_=>rfl
 |(n,v)::r,m,h=>by
  unfold bindL;rw[qfu λw hw=>h w (List.mem_cons_of_mem _ hw)];split
  ·have:x≠n:=by rintro rfl;exact h v Vk
   simp[this]
  ·rfl
theorem qfw{kindOf:Str->Option NameKind}{x:Str}: ∀{binds:List (Str×Value)} {m:Str->Option Value},(∀v,(x,v)∉binds)->bindC kindOf binds m x=m x
 |[],_,_=>rfl
 |(n,v)::r,m,h=>by
  unfold bindC;rw[qfw λw hw=>h w (List.mem_cons_of_mem _ hw)];split
  ·rfl
  ·have:x≠n:=by rintro rfl;exact h v Vk
   simp[this]
theorem qfv {kindOf:Str->Option NameKind} {x:Str} {v:Value}: ∀{P:List Str} {vs:List Value} {i:Nat} {m:Str->Option Value},P.Nodup->P[i]? =some x->vs[i]? =some v->kindOf x=some .local->
  bindL kindOf (P.zip vs) m x=some v
 |[],_,_,_,_,h,_,_=>by simp at h
 |_::_,[],_,_,_,_,h,_=>by simp at h
 |p::P,w::vs,0,m,nd,h1,h2,hk=>by simp at h1 h2;subst h1;subst h2;show bindL kindOf ((p,w)::P.zip vs) m p=_;unfold bindL;rw[qfu λv hv=>(List.nodup_cons.mp nd).1 (List.of_mem_zip hv).1,if_pos hk];simp
 |p::P,w::vs,i+1,m,nd,h1,h2,hk=>by show bindL kindOf ((p,w)::P.zip vs) m x=_;unfold bindL;exact qfv (i:=i) (List.nodup_cons.mp nd).2 (by simpa using h1) (by simpa using h2) hk
theorem qfx {kindOf:Str->Option NameKind} {x:Str} {v:Value}: ∀{P:List Str} {vs:List Value} {i:Nat} {m:Str->Option Value},P.Nodup->P[i]? =some x->vs[i]? =some v->kindOf x≠some .local->
  bindC kindOf (P.zip vs) m x=some v
 |[],_,_,_,_,h,_,_=>by simp at h
 |_::_,[],_,_,_,_,h,_=>by simp at h
 |p::P,w::vs,0,m,nd,h1,h2,hk=>by simp at h1 h2;subst h1;subst h2;show bindC kindOf ((p,w)::P.zip vs) m p=_;unfold bindC;rw[qfw λv hv=>(List.nodup_cons.mp nd).1 (List.of_mem_zip hv).1,if_neg hk];simp
 |p::P,w::vs,i+1,m,nd,h1,h2,hk=>by show bindC kindOf ((p,w)::P.zip vs) m x=_;unfold bindC;exact qfx (i:=i) (List.nodup_cons.mp nd).2 (by simpa using h1) (by simpa using h2) hk
noncomputable def start(N:List Str)(vs:List V):St:=vs.map some++List.replicate (N.length - vs.length) none
noncomputable def qeo(CX:CXT)(P:Program)(w:World)(K:W.Frag)(mg:Str->Option Value)(base:Heap)(N:List Str)(qual:Str)(scope:Scope)(f:Addr)(cd:Value)(A:Around)(outer:List Env)(s:Shared)(H:Hp)(E:XK):Cx where
 prog:=P
 w:=w
 K:=K
 mg:=mg
 base:=base
 A:=A.deeper (envOfC qual scope s.heap.objs.size f cd)
 N:=N
 s₀:=s
 H₀:=H
 env:=envOfC qual scope s.heap.objs.size f cd
 outer:=outer
 stack:=envOfC qual scope s.heap.objs.size f cd::outer
 ex:=[]
 calm:=true
 fn:=λ_=>true
 pn:=[]
 xe:=λe s'=>wpAny (model P w) (A.deeper (envOfC qual scope s.heap.objs.size f cd)) (leaving (envOfC qual scope s.heap.objs.size f cd) e) (λ_ s''=>CX outer H s E e s'') (λe' s''=>CX outer H s E e' s'') s'
theorem qg1{sc:Scope}{n:Nat}(h:sc.names.lookup x=some .cell): ∃c,(cellsFrom n sc.names []).lookup x=some c:=by have q:=W.cellsFrom_some sc.names n [] (.inl h);exact Option.isSome_iff_exists.mp q
theorem qcX {CX:CXT} {P:Program} {w:World} {K:W.Frag} {mg:Str->Option Value} {base:Heap} {N ps:List Str} {qual:Str} {scope:Scope} {f:Addr} {cd:Value} {A:Around} {outer:List Env} {s s1:Shared} {H:Hp} {E:XK} {us:List Value} {vs:List V} (S:qbE N ps scope) (hd:A.handled=none) (e0:qjR P w K mg base A outer s H) (hl:vs.length=ps.length) (r:qan vs us) (x:InCallC s s.heap.objs.size (bindL (envOfC qual scope s.heap.objs.size f cd).kindOf (ps.zip us) λ_=>none) (cellsFrom (s.heap.objs.size+1) scope.names []) (bindC (envOfC qual scope s.heap.objs.size f cd).kindOf (ps.zip us) λ_=>none) s1):
  Inv (qeo CX P w K mg base N qual scope f cd A outer s H E) [] (start N vs) H s1:=by
 have ax:ps.length<=N.length:=by have:=congrArg List.length S.pre;rw[List.length_take] at this;omega
 obtain⟨h1,tk,rfl,hk⟩:=x.done;have cD: ∀b:Addr,b∉(qeo CX P w K mg base N qual scope f cd A outer s H E).ex:=λb z=>absurd (show b∈([]:List Addr) from z) (by simp)
 refine⟨⟨e0.mod,S.kind,rfl,rfl,Vm _,λy z c h1 h2=> ?_,λy hy=> ?_,λy c _ h=> ?_,λ_=>hd,Around.frames_deeper e0.frames,.inr ⟨rfl,rfl⟩,λb z=>absurd z (cD b),e0.bs,e0.bsz,λb _ _=>cD b,λb z=>absurd z (cD b),e0.funs,e0.frf⟩,
  rfl,e0.bare,Un.kept hk,⟨_,x.toInCall.ns,λi y v h1 h2 h3=> ?_⟩,λy c h=>⟨_,x.cell y c h⟩,e0.hok.fresh (Vm _),λy c h=> ?_,λp hp=>absurd (show p∈([]:List (Addr×Obj)) from hp) (by simp),e0.hok.kept hk,?_⟩
 ·exact name_of_addr x.apart (Vv h1) (Vv h2)
 ·have hy:scope.names.lookup y=some .cell\/scope.names.lookup y=some .free:=hy
  rcases hy with hy|hy
  ·exact qg1 hy
  ·exact absurd rfl (S.nofree _ (Vv hy))
 ·exact Vp (x.above y c (Vv h))
 ·have hi:i<vs.length:=by
   unfold start at h2;by_cases hi:i<vs.length
   ·exact hi
   ·rw[List.getElem?_append_right (by simpa using hi)] at h2;rw[List.getElem?_replicate] at h2;split at h2<;>cases h2
  have ha:vs[i]? =some v:=by
   unfold start at h2;rw[List.getElem?_append_left (by simpa using hi),List.getElem?_map] at h2;cases e:vs[i]? with
   |none=>rw[e] at h2;cases h2
   |some a=>rw[e] at h2;cases h2;rfl
  obtain⟨u,hu,rv⟩:=r.get ha;have hp:ps[i]? =some y:=by rw[<-S.pre,List.getElem?_take_of_lt (by omega)];exact h1
  have iK:ps.Nodup:=by rw[<-S.pre];exact S.nd.sublist (List.take_sublist _ _)
  refine⟨u,rv,?_⟩
  rcases S.par y (Vu hp) with k|k
  ·exact .inl ⟨k,qfv iK hp hu k⟩
  ·obtain⟨c,e⟩:=qg1 (n:=s.heap.objs.size+1) k;refine .inr ⟨.inl k,c,e,?_⟩;have q:=x.cell y c e;rw[qfx iK hp hu (by show scope.names.lookup y≠_;rw[k];decide)] at q;exact q
 ·exact e0.hok.fresh (Vp (x.above y c (Vv h)))
 ·unfold start;show _=N.length;rw[List.length_append,List.length_map,List.length_replicate];omega
theorem qs3 {CX:CXT} {P:Program} {w:World} {K:W.Frag} {mg:Str->Option Value} {base:Heap} {k:Nat} {f:Addr} {name qual:Str} {params:Arguments} {body:List Stmt} {scope:Scope} {dV kV doc pm cdv ct oc:Value} {an od:Option Addr} {osl:Array (Option Value)} {N ps:List Str} {sp:Sp} (lk:K.lookup f=some ⟨oc,od,.func (W.fnOf name qual params body scope dV kV doc pm an cdv ct),osl⟩) (aH:W.codeIn K cdv qual=true) (S:qbE N ps scope) (len: ∀vs H Q E,sp vs H Q E->vs.length=ps.length) (av: ∀(A:Around) (outer:List Env) (s:Shared) (H:Hp) (vs:List V) (Q:VK) (E:XK),qaX k (A.deeper (envOfC qual scope s.heap.objs.size f cdv))->sp vs H Q E->
   ∃t,PSs (qeo CX P w K mg base N qual scope f cdv A outer s H E) body t/\t { nx:=λ_ H'=>Q .non H',rt:=Q } (start N vs) H):
  qcD P w K mg base CX (k+1) f (W.fnOf name qual params body scope dV kV doc pm an cdv ct) ps sp:=by
 refine⟨len,λA outer s H args us vs Q E hr e0 hb r cF=> ?_⟩;have hl:=len _ _ _ _ cF;have KX:K.In s.heap:=e0.mod.kin.keeps λb o e=>(e0.bs b o e).1;have lim:s.heap.NoLimit:=e0.mod.nolimit.keeps λb o e=>(e0.bs b o e).1;have a8: ∀y∈ps.zip us,scope.names.lookup y.1=some .local\/(scope.names.lookup y.1=some .cell/\((cellsFrom (s.heap.objs.size+1) scope.names []).lookup y.1).isSome=true):=λ⟨n,v⟩ hy=>by
  rcases S.par n (List.of_mem_zip hy).1 with q|q
  ·exact .inl q
  ·exact .inr ⟨q,W.cellsFrom_some _ _ _ (.inl q)⟩
 refine codeAny_call_function hr.depth (KX _ _ lk) rfl S.co S.gen rfl (W.codeRec_of KX aH) (hb _ _ _ _ ?_);refine wpAny_newFunctionEnv_cells S.kind a8 λenv he s1 x=> ?_;subst he;refine⟨lim.keeps x.toInCall.keep,codeAny_func ?_⟩;obtain⟨t,ht,hq⟩:=av A outer s H vs Q E (hr.deeper _) cF;have I:Inv (qeo CX P w K mg base N qual scope f cdv A outer s H E) [] (start N vs) H s1:=qcX S hr.hd e0 hl r x;refine Vc (ht [] s1 (start N vs) H _ I hq) (λfl s' hs=> ?_) λe s' hs=>hs
 have fin: ∀{af:St} {H':Hp} {v:V} {u:Value},Inv (qeo CX P w K mg base N qual scope f cdv A outer s H E) [] af H' s'->RelV v u->Q v H'->CE outer P w H s Q u s':=
  λ{af H' v u} J rv q=>⟨v,H',J.os,J.bare,J.base,J.hok,rv,q⟩
 cases fl with
 |ret u=>obtain⟨v,af,H',J,rv,q⟩:=hs;exact fin J rv q
 |next=>obtain⟨af,H',J,q⟩:=hs;exact fin (v:=V.non) (u:=Value.none) J rfl q
 |brk|cont=>obtain⟨_,_,_,q⟩:=hs;exact False.elim q
section
noncomputable def tCB(r:List V->Hp->VK->Prop)(t:TA):TE:=λσ H Q=>t σ H λvs H1=>r vs H1 Q
theorem qaL {X:Cx} {x:Str} {p:Pos} {pos:Pos} {e:Expr} {es:List Expr} {t:TA} {id:String} {r:List V->Hp->VK->Prop} (hc:qaC X (.builtin id) r) (hg:Gl X x) (hm:X.mg x=none) (hv:bootBuiltins x=some (.builtin id)) (ha:PA X (e::es) t) (hn:x≠ "__name__" :=by decide) (aF:(x==("__debug__" :Str))=false:=by decide) (he:starEach (e::es) X.env=(false,eval e X.env)::starEach es X.env:=by rfl) (ax:(backTo pos (starEach es X.env)).any (·.1)=false:=by rfl):PE X (.Call (.Name x p) (e::es) [] pos) (tCB r t):=by intro pins s σ H Q I h;refine Vf (qdC I hg hm hv ?_ hn aF);exact PyProof.Rows.callWith_builtin1 (thn (ha pos pins s σ H _ I h) λus s1 ⟨vs,H1,I1,r1,q1⟩=>hc pins s1 σ H1 vs us Q I1 r1 q1) he ax
theorem qcN (hc:qaC X (.type T) r) (hg:Gl X x) (hm:X.mg x=none) (hv:bootBuiltins x=some (.type T)) (ha:PA X (e::es) t) (hn:x≠ "__name__" :=by decide) (aF:(x==("__debug__" :Str))=false:=by decide) (he:starEach (e::es) X.env=(false,eval e X.env)::starEach es X.env:=by rfl) (ax:(backTo pos (starEach es X.env)).any (·.1)=false:=by rfl):PE X (.Call (.Name x p) (e::es) [] pos) (tCB r t):=by intro pins s σ H Q I h;refine Vf (qdC I hg hm hv ?_ hn aF);exact PyProof.Rows.callWith_type1 (thn (ha pos pins s σ H _ I h) λus s1 ⟨vs,H1,I1,r1,q1⟩=>hc pins s1 σ H1 vs us Q I1 r1 q1) he ax
end
end L2
namespace HT
open PySem PyProof.Rows
section
theorem cat_tup (ht:IsTup s.heap t vs.toArray) (hb:IsTup s.heap b ws.toArray) (hv:vs≠[]) (h1:ws=[]->Q (.ref t) s) (h2:ws≠[]->Q (.ref s.heap.objs.size) { s with heap:=s.heap.push { cls:=.type "tuple",data:=.seq (vs++ws).toArray } }) (hsz:vs.length+ws.length<=sizeLine):wpAny (model prog w) A (binaryOp .Add (.ref t) (.ref b)) Q E s:=by
 obtain⟨⟨cls,dd,data,sl⟩,ho,hc,n,hd⟩:=id ht;obtain⟨⟨iu,fX,data2,fE⟩,bJ,bw,n2,hd2⟩:=id hb;simp only at hc hd bw hd2;subst hc hd bw hd2;have e:vs.toArray++ws.toArray=(vs++ws).toArray:=by simp
 by_cases hw:ws=[]
 ·exact concat_meets ⟨_,ho,rfl⟩ ⟨_,bJ,rfl⟩ noFill_tuple_add seq_tuple_add F.slot_tuple_add F.entry_tuple_add (F.args_tuple_add_2 _ _)
   (tuple_addW1 t b vs.toArray ws.toArray n n2 dd fX sl fE (by simpa using hv) (by simp[hw])) ⟨ho,bJ,h1 hw⟩
 ·refine concat_meets ⟨_,ho,rfl⟩ ⟨_,bJ,rfl⟩ noFill_tuple_add seq_tuple_add F.slot_tuple_add F.entry_tuple_add (F.args_tuple_add_2 _ _)
   (tuple_addW2 t b vs.toArray ws.toArray n n2 dd fX sl fE (by simpa using hv) (by simpa using hw) (by rw[List.size_toArray,List.size_toArray];exact hsz)) ⟨ho,bJ,?_⟩
  rw[e];exact h2 hw
noncomputable def sIx(n d:Nat):Option Int->Nat
 |none=>d
 |some v=>if v<0 then(v+(n:Int)).toNat else min v.toNat n
theorem qoX(n d:Nat)(hd:d<=n)(o:Option Int):sIx n d o<=n:=by
 cases o with
 |none=>exact hd
 |some v=>
  show(if v<0 then(v+(n:Int)).toNat else min v.toNat n)<=n;by_cases hv:v<0
  ·rw[if_pos hv];omega
  ·rw[if_neg hv];exact Nat.min_le_right _ _
theorem qjD(v:Int)(n d:Nat):(if v<0 then max (v+(n:Int)) 0 else min v (n:Int))=((sIx n d (some v):Nat):Int):=by
 show(if v<0 then max (v+(n:Int)) 0 else min v (n:Int))=(((if v<0 then(v+(n:Int)).toNat else min v.toNat n):Nat):Int)
 by_cases hv:v<0
 ·simp only[if_pos hv];omega
 ·simp only[if_neg hv];omega
theorem qhQ(lo hi:Option Int)(n:Nat):Builtin.Slice.sliceAdjust lo hi 1 (n:Int)=(((sIx n 0 lo:Nat):Int),((sIx n n hi:Nat):Int)):=by
 have h1: ¬((1:Int)<0):=by omega
 unfold Builtin.Slice.sliceAdjust;simp only[h1,if_false];refine Prod.ext ?_ ?_
 ·cases lo with
  |none=>rfl
  |some v=>exact qjD v n 0
 ·cases hi with
  |none=>rfl
  |some v=>exact qjD v n n
theorem qhk(i j:Nat):Builtin.Slice.slicePlaces (i:Int) (j:Int) 1=j - i:=by
 unfold Builtin.Slice.slicePlaces;have h1:(1:Int)>0:=by omega
 simp only[h1,if_true,Int.ediv_one]
 split<;>omega
theorem qdu(p:IsPart v o)(h:Q o s):wpAny (model prog w) A (Builtin.Slice.slicePartIndex v) Q E s:=by
 cases p with
 |none=>exact slicePart_none h
 |int i t=>exact slicePart_int h
theorem qbk{prog:Program}{w:World}{A:Around}{E:Value->Shared->Prop}{s:Shared}{sl:Addr}{vl vu:Value}{lo hi:Option Int}{n:Nat}{Q:Int×Int×Nat->Shared->Prop}(hs:s.heap.IsSliceOf sl vl vu .none)(pl:IsPart vl lo)(pu:IsPart vu hi)(h:Q (((sIx n 0 lo:Nat):Int),1,sIx n n hi - sIx n 0 lo) s):wpAny (model prog w) A (Builtin.Slice.sliceApplied (.ref sl) (pure (n:Int))) Q E s:=by obtain⟨os,dD,fQ,eX⟩:=id hs;unfold Builtin.Slice.sliceApplied Builtin.Slice.sliceFields;refine Va (Va (wpAny_field dD eX (x:=vl) rfl (Va (wpAny_field dD eX (x:=vu) rfl (Va (wpAny_field dD eX (x:=.none) rfl (Vb ?_)))))));refine Va (slicePart_none ?_);show wpAny _ _ (if((1:Int)==0)=true then _ else _) _ _ s;rw[if_neg (by decide)];refine Va (qdu pl (Va (qdu pu (Va (Vb ?_)))));show wpAny _ _ (match Builtin.Slice.sliceAdjust lo hi 1 (n:Int) with|(lo,hi)=>pure (lo,(1:Int),Builtin.Slice.slicePlaces lo hi 1)) _ _ s;rw[qhQ lo hi n];show wpAny _ _ (pure (((sIx n 0 lo:Nat):Int),(1:Int),Builtin.Slice.slicePlaces ((sIx n 0 lo:Nat):Int) ((sIx n n hi:Nat):Int) 1)) _ _ s;rw[qhk];exact Vb h
theorem qkk(xs:Array Value)(i k:Nat):((List.range k).filterMap λ(m:Nat)=>xs[((i:Int)+(m:Int)*1).toNat]?).toArray=((xs.toList.drop i).take k).toArray:=by
 have e:(λ(m:Nat)=>xs[((i:Int)+(m:Int)*1).toNat]?)=λm=>xs[i+m]? :=by
  funext m
  have:((i:Int)+(m:Int)*1).toNat=i+m:=by omega
  rw[this]
 rw[e];have:=pick_run xs i k;rw[List.filterMap_map] at this;have e2:((λx=>xs[x]?)∘λx=>i+x)=λm=>xs[i+m]? :=rfl;rw[e2] at this;rw[this]
theorem getItem_tuple_cut {prog:Program} {w:World} {A:Around} {E:Value->Shared->Prop} {s:Shared} {t sl:Addr} {items:Array Value} {vl vu:Value} {lo hi:Option Int} {Q:Value->Shared->Prop} (ht:IsTup s.heap t items) (hs:s.heap.IsSliceOf sl vl vu .none) (pl:IsPart vl lo) (pu:IsPart vu hi) (hw: ¬(sIx items.size 0 lo=0/\sIx items.size items.size hi=items.size)) (h:Q (.ref s.heap.objs.size) { s with heap:=s.heap.push { cls:=.type "tuple",data:=.seq ((items.toList.drop (sIx items.size 0 lo)).take (sIx items.size items.size hi - sIx items.size 0 lo)).toArray } }) (hsz:items.size<=sizeLine):wpAny (model prog w) A (getItem (.ref t) (.ref sl)) Q E s:=by
 have bu:sizeOk (.seq ((items.toList.drop (sIx items.size 0 lo)).take (sIx items.size items.size hi - sIx items.size 0 lo)).toArray):=by show((items.toList.drop (sIx items.size 0 lo)).take (sIx items.size items.size hi - sIx items.size 0 lo)).toArray.size<=sizeLine;rw[List.size_toArray,List.length_take,List.length_drop,Array.length_toList];omega
 have hj:sIx items.size items.size hi<=items.size:=qoX _ _ (Vm _) hi;obtain⟨os,dD,fQ,eX⟩:=id hs;have ic:s.TypeIs (.ref sl) "slice" :=⟨os,dD,fQ⟩
 unfold getItem
 try with_reducible refine wpAny_holding ?_
 first|refine Va (Vb ?_)|skip
 refine Va (wpAny_sequenceKey ht.typeIs (by decide) ?_)
 refine Va (wpAny_callSpecial?_slot (name:=Str.ofString "__getitem__") ht.typeIs PyProof.Rows.slot_tuple_getitem
  (wpAny_call_entry PyProof.Rows.slot_tuple_getitem ht.typeIs entry_tuple_getitem ?_ (args_tuple_getitem _ _)))
 show wpAny _ _ (Builtin.Tuple.tupleItemsOf (.ref t)>>=_) _ _ s;refine Va (tupleItemsOf_ ht ?_);refine Va (wpAny_typeOf ic ?_);rw[if_pos (by decide)];refine Va (qbk hs pl pu ?_);have hno: ¬((((sIx items.size 0 lo:Nat):Int)==0&&(1:Int)==1&&(sIx items.size items.size hi - sIx items.size 0 lo)==items.size)=true):=by intro q;rw[Bool.and_eq_true,Bool.and_eq_true] at q;have q1:((sIx items.size 0 lo:Nat):Int)=0:=eq_of_beq q.1.1;have q2:sIx items.size items.size hi - sIx items.size 0 lo=items.size:=eq_of_beq q.2;exact hw ⟨by omega,by omega⟩
 show wpAny _ _ (if(((sIx items.size 0 lo:Nat):Int)==0&&(1:Int)==1&&(sIx items.size items.size hi - sIx items.size 0 lo)==items.size)=true then _ else _) _ _ s;rw[if_neg hno,qkk]
 first
  |exact Va (m:=Builtin.Tuple.tupleExact _) (wpAny_newObj_type (Vb ⟨_,rfl,Vb h⟩) bu)
  |exact Va (m:=Builtin.Tuple.tupleExact _) (wpAny_newObj_type (Va (Vb (Vb ⟨_,rfl,Vb h⟩))) bu)
  |exact Va (Va (m:=Builtin.Tuple.tupleExact _) (wpAny_newObj_type (Vb (Vb ⟨_,rfl,Vb h⟩)) bu))
  |exact Va (Va (m:=Builtin.Tuple.tupleExact _) (wpAny_newObj_type (Vb ⟨_,rfl,Vb h⟩) bu))
end
end HT
namespace L2
open PySem PySem.Spec PyProof.Rows
abbrev TO:=St->Hp->(Option Int->Hp->Prop)->Prop
noncomputable def PO(X:Cx)(e:Option Expr)(t:TO):Prop:=
 ∀(pins:List (Addr×Obj)) (s:Shared) (σ:St) (H:Hp) (Q:Option Int->Hp->Prop),Inv X pins σ H s->t σ H Q->
  wpAny (model X.prog X.w) X.A (evalPart e X.env) (λu s'=> ∃o H',Inv X pins σ H' s'/\IsPart u o/\Q o H') X.xe s
noncomputable def qmt:TO:=λ_ H Q=>Q none H
noncomputable def qrE(t:TE):TO:=λσ H Q=>t σ H λx H1=> ∃i,x= .int i/\Q (some i) H1
section
theorem qmS:PO X none qmt:=by intro pins s σ H Q I h;rw[evalPart_none];exact Vb ⟨none,H,I,.none,h⟩
theorem qmR(h:PE X e te):PO X (some e) (qrE te):=by intro pins s σ H Q I hw;rw[evalPart_some];refine thn (h pins s σ H _ I hw) λu s1 ⟨x,H1,I1,r1,q1⟩=> ?_;obtain⟨i,rfl,q⟩:=q1;obtain⟨t,rfl⟩:=r1;exact⟨some i,H1,I1,.int i t,q⟩
noncomputable def SlR(X:Cx)(r:V->Option Int->Option Int->Hp->VK->Prop):Prop:=
 ∀(pins:List (Addr×Obj)) (s:Shared) (σ:St) (H:Hp) (x:V) (v vl vu:Value) (lo hi:Option Int) (sl:Addr) (Q:VK),Inv X pins σ H s->RelV x v->s.heap.IsSliceOf sl vl vu .none->IsPart vl lo->IsPart vu hi->r x lo hi H Q->
  ∃T id,typeLookup (.type T) "__getitem__" =pure (some (.builtin id))/\s.TypeIs v T/\wpAny (model X.prog X.w) X.A (getItem v (.ref sl)) (EP X pins σ Q) X.xe s
theorem SlR.or(h:SlR X r)(h':SlR X r'):SlR X (λx lo hi H Q=>r x lo hi H Q\/r' x lo hi H Q):=by
 intro pins s σ H x v vl vu lo hi sl Q I rx hs pl pu q
 rcases q with q|q
 ·exact h pins s σ H x v vl vu lo hi sl Q I rx hs pl pu q
 ·exact h' pins s σ H x v vl vu lo hi sl Q I rx hs pl pu q
noncomputable def tSl(r:V->Option Int->Option Int->Hp->VK->Prop)(te:TE)(tl th:TO):TE:=λσ H Q=>te σ H λx H1=>tl σ H1 λl H2=>th σ H2 λu H3=>r x l u H3 Q
theorem qkm{X:Cx}{e:Expr}{te:TE}{lo:Option Expr}{hi:Option Expr}{tl:TO}{th:TO}{pos:Pos}{p2:Pos}{r:V->Option Int->Option Int->Hp->VK->Prop}(hr:SlR X r)(he:PE X e te)(hl:PO X lo tl)(hu:PO X hi th):PE X (.Subscript e (.Slice lo hi none p2) pos) (tSl r te tl th):=by intro pins s σ H Q I h;refine Subscript_ (thn (he pins s σ H _ I h) λv s1 ⟨x,H1,I1,r1,q1⟩=> ?_);refine wpAny_Slice (thn (hl pins s1 σ H1 _ I1 q1) λvl s2 ⟨l,H2,I2,pl,q2⟩=>thn (hu pins s2 σ H2 _ I2 q2) λvu s3 ⟨u,H3,I3,pu,q3⟩=> ?_);rw[evalPart_none];refine Vb ?_;have I4:Inv X pins σ H3 { s3 with heap:=s3.heap.push { cls:=.type "slice",data:=.fields #[vl,vu,.none] } }:=I3.kept (t':=s3.toks) λb ob q=>Vh _ q;obtain⟨T,id,hT,ht,hg⟩:=hr pins { s3 with heap:=s3.heap.push { cls:=.type "slice",data:=.fields #[vl,vu,.none] } } σ H3 x v vl vu l u s3.heap.objs.size Q I4 r1 (Heap.IsSliceOf.new ..) pl pu q3;show wpAny (model X.prog X.w) X.A (subscriptTail e (.Slice lo hi none p2) v (.ref s3.heap.objs.size)) (EP X pins σ Q) X.xe { s3 with heap:=s3.heap.push { cls:=.type "slice",data:=.fields #[vl,vu,.none] } };exact tail_any (ops:=[.ref s3.heap.objs.size,v]) ht hT hg (by with_unfolding_all rfl)
noncomputable def ql9(xs:List V)(lo hi:Option Int):List V:=(xs.drop (HT.sIx xs.length 0 lo)).take (HT.sIx xs.length xs.length hi - HT.sIx xs.length 0 lo)
theorem qc2(xs:List V)(lo hi:Option Int):(ql9 xs lo hi).length<=xs.length:=by unfold ql9;rw[List.length_take,List.length_drop];omega
noncomputable def quO(K:W.Frag):V->Option Int->Option Int->Hp->VK->Prop:=λx lo hi H Q=> ∃a xs,x= .ref a/\SqT K H a xs/\
 ¬(HT.sIx xs.length 0 lo=0/\HT.sIx xs.length xs.length hi=xs.length)/\∀p,H p=none->Q (.ref p) (upd H p (.tup (ql9 xs lo hi)))
theorem qoS:SlR X (quO X.K):=by
 intro pins s σ H x v vl vu lo hi sl Q I rx hs pl pu h;obtain⟨a,xs,rfl,hx,hw,q⟩:=h;cases rx;obtain⟨its,r,ht,hz⟩:=I.tuple hx;have hlen:its.toArray.size=xs.length:=by rw[List.size_toArray];exact r.length.symm
 refine⟨"tuple",_,PyProof.Rows.slot_tuple_getitem.lookup,ht.typeIs,?_⟩;refine HT.getItem_tuple_cut ht hs pl pu (by rw[hlen];exact hw) ?_ (by rw[hlen];exact hz);rw[hlen];refine⟨.ref s.heap.objs.size,_,I.laid (t':=s.toks) (o:=.tup (ql9 xs lo hi)) (λb ob q=>Vh _ q) (Vm _) ?_,rfl,q _ (I.hok.fresh (Vm _))⟩;exact⟨Vq (qc2 xs lo hi) hz,_,(r.drop (HT.sIx xs.length 0 lo)).take (HT.sIx xs.length xs.length hi - HT.sIx xs.length 0 lo),IsTup.new _ _⟩
noncomputable def qo5(K:W.Frag):R2:=λx y H Q=> ∃a b xs ys,x= .ref a/\y= .ref b/\SqT K H a xs/\SqT K H b ys/\xs≠[]/\xs.length+ys.length<=sizeLine/\
 (ys=[]->Q (.ref a) H)/\(ys≠[]->∀p,H p=none->Q (.ref p) (upd H p (.tup (xs++ys))))
theorem qan.nil_iff(r:qan xs us):us=[]↔xs=[]:=by
 cases r with
 |nil|cons _ _=>simp
theorem qnd:OpR X (binaryOp .Add) (qo5 X.K):=by intro pins s σ H x y v u Q I rx ry h;obtain⟨a,b,xs,ys,rfl,rfl,ha,hb,hx,hz,q1,q2⟩:=h;cases rx;cases ry;obtain⟨its,r1,p1,_⟩:=I.tuple ha;obtain⟨aS,r2,p2,_⟩:=I.tuple hb;refine HT.cat_tup p1 p2 (λz=>hx (r1.nil_iff.mp z)) (λz=>⟨.ref a,H,I,rfl,q1 (r2.nil_iff.mp z)⟩) (λz=> ?_) (by rw[<-r1.length,<-r2.length];exact hz);refine⟨.ref s.heap.objs.size,_,I.laid (t':=s.toks) (o:=.tup (xs++ys)) (λb ob q=>Vh _ q) (Vm _) ?_,rfl,q2 (λw=>z (r2.nil_iff.mpr w)) _ (I.hok.fresh (Vm _))⟩;exact⟨by rw[List.length_append];exact hz,_,r1.append r2,IsTup.new _ _⟩
end
noncomputable def ixN(n:Nat)(i:Int):Option Nat:=if 0<=i then(if i<n then some i.toNat else none) else if -(n:Int)<=i then some (i+n).toNat else none
noncomputable def atI{α:Type}(xs:List α)(i:Int):Option α:=(ixN xs.length i).bind λj=>xs[j]?
theorem qi1(h:ixN n i=some j):seqIndex? i n=some j/\j<n/\ -(n:Int)<=i/\i<n:=by
 unfold ixN at h;by_cases h0:0<=i
 ·rw[if_pos h0] at h;by_cases h1:i<n
  ·rw[if_pos h1] at h;have e:i.toNat=j:=Option.some.inj h;exact⟨by rw[seqIndex_of h0 h1,e],by omega,by omega,h1⟩
  ·rw[if_neg h1] at h;cases h
 ·rw[if_neg h0] at h;by_cases h1: -(n:Int)<=i
  ·rw[if_pos h1] at h;have e:(i+n).toNat=j:=Option.some.inj h;exact⟨by rw[seqIndex_neg (by omega) h1,e],by omega,h1,by omega⟩
  ·rw[if_neg h1] at h;cases h
theorem qgq(h:atI xs i=some v): ∃j,seqIndex? i xs.length=some j/\xs[j]? =some v/\j<xs.length/\ -(xs.length:Int)<=i/\i<xs.length:=by
 unfold atI at h;cases e:ixN xs.length i with
 |none=>rw[e] at h;cases h
 |some j=>rw[e] at h;obtain⟨h1,h2,h3,h4⟩:=qi1 e;exact⟨j,h1,h,h2,h3,h4⟩
theorem qol{j:Nat}(h:xs[j]? =some v):atI xs (j:Int)=some v:=by
 have hj:j<xs.length:=(List.getElem?_eq_some_iff.mp h).1;have e:ixN xs.length (j:Int)=some j:=by unfold ixN;rw[if_pos (by omega),if_pos (by omega)];simp
 unfold atI;rw[e];exact h
noncomputable def qjQ(b:Expr):Prop:= ∀o i,subscripted b false o i=operate [o,i] (getItem o i)
noncomputable def IxR(X:Cx)(r:R2):Prop:=
 ∀(value slice:Expr) (pins:List (Addr×Obj)) (s:Shared) (σ:St) (H:Hp) (x y:V) (v u:Value) (Q:VK),Inv X pins σ H s->RelV x v->RelV y u->r x y H Q->
  subscripted slice false v u=operate [v,u] (getItem v u)->wpAny (model X.prog X.w) X.A (subscriptTail value slice v u) (EP X pins σ Q) X.xe s
noncomputable def MtR(X:Cx)(id:String)(r:V->List V->Hp->VK->Prop):Prop:=
 ∀(pins:List (Addr×Obj)) (s:Shared) (σ:St) (H:Hp) (x:V) (xs:List V) (v:Value) (us:List Value) (Q:VK),Inv X pins σ H s->RelV x v->qan xs us->r x xs H Q->
  wpAny (model X.prog X.w) X.A (call (.builtin id) (v::us)) (EP X pins σ Q) X.xe s
section
variable {X:Cx}{a b:Expr}{ta tb:TE}{pos:Pos}
theorem IxR.or(h:IxR X r)(h':IxR X r'):IxR X (λx y H Q=>r x y H Q\/r' x y H Q):=by
 intro value slice pins s σ H x y v u Q I rx ry q hs
 rcases q with q|q
 ·exact h value slice pins s σ H x y v u Q I rx ry q hs
 ·exact h' value slice pins s σ H x y v u Q I rx ry q hs
theorem qpo{r:R2}(hr:IxR X r)(ha:PE X a ta)(hb:PE X b tb)(hs:qjQ b):PE X (.Subscript a b pos) (tOp r ta tb):=by intro pins s σ H Q I h;exact Subscript_ (qtt ha hb I h λv u s2 x y H2 I2 rx ry q=>hr a b pins s2 σ H2 x y v u Q I2 rx ry q (hs _ _))
noncomputable def qtW(K:W.Frag):R2:=λx y H Q=> ∃p xs i v,x= .ref p/\y= .int i/\SqL K H p xs/\atI xs i=some v/\Q v H
noncomputable def qtU(K:W.Frag):R2:=λx y H Q=> ∃p xs i v,x= .ref p/\y= .int i/\SqT K H p xs/\atI xs i=some v/\Q v H
noncomputable def qtV:R2:=λx y H Q=> ∃z i c,x= .str z/\y= .int i/\z.length<=sizeLine/\atI z.cps.toList i=some c/\Q (.str ⟨#[c]⟩) H
theorem qiZ:IxR X (qtW X.K):=by
 intro value slice pins s σ H x y v u Q I rx ry h hs;obtain⟨p,xs,i,z,rfl,rfl,hq,he,q⟩:=h;cases rx;obtain⟨t,rfl⟩:=ry;obtain⟨its,r,pl,hz⟩:=I.list hq;obtain⟨j,h1,h2,h3,h4,h5⟩:=qgq he;obtain⟨w,ew,aw⟩:=r.get h2;have hl:=r.length;have hn:=qdA;have fin:EP X pins σ Q w s:=⟨z,H,I,aw,q⟩
 by_cases h0:0<=i
 ·have hj:i.toNat=j:=by rw[seqIndex_of h0 h5] at h1;exact Option.some.inj h1
  exact item_listR pl.isList h0 (by omega) (by rw[hj];simpa using ew) fin hs
 ·have hj:(i+(its.toArray.size:Int)).toNat=j:=by rw[seqIndex_neg (by omega) h4] at h1;rw[List.size_toArray,<-hl];exact Option.some.inj h1
  exact subscriptTail_builtinR (x:=w) pl.isList.typeIs slot_list_getitem.lookup
   (wpAny_getItem_list_neg (Q:=λr s'=>r=w/\EP X pins σ Q r s') pl.isList (by omega) (by rw[List.size_toArray]<;>omega) (by omega) (by rw[hj];simpa using ew) ⟨rfl,fin⟩) hs
theorem qp0:IxR X (qtU X.K):=by
 intro value slice pins s σ H x y v u Q I rx ry h hs;obtain⟨p,xs,i,z,rfl,rfl,hq,he,q⟩:=h;cases rx;obtain⟨t,rfl⟩:=ry;obtain⟨its,r,pl,hz⟩:=I.tuple hq;obtain⟨j,h1,h2,h3,h4,h5⟩:=qgq he;obtain⟨w,ew,aw⟩:=r.get h2;have hl:=r.length;have hn:=qdA;have fin:EP X pins σ Q w s:=⟨z,H,I,aw,q⟩
 exact subscriptTail_builtinR (x:=w) pl.typeIs slot_tuple_getitem.lookup
  (getItem_tuple (j:=j) (Q:=λr s'=>r=w/\EP X pins σ Q r s') pl (by omega) (by omega) (by rw[List.size_toArray,<-hl];exact h1) (by simpa using ew) ⟨rfl,fin⟩) hs
theorem qp1:IxR X qtV:=by
 intro value slice pins s σ H x y v u Q I rx ry h hs;obtain⟨z,i,c,rfl,rfl,hz,he,q⟩:=h;obtain⟨t,rfl⟩:=rx;obtain⟨t',rfl⟩:=ry;obtain⟨j,h1,h2,h3,h4,h5⟩:=qgq he;have hl:z.cps.toList.length=z.length:=by simp[Str.length]
 rw[hl] at h1 h4 h5;have hn:=qdA;exact tail_any (typeIs_str s z t) slot_str_getitem.lookup (getItem_str (c:=c) (by
  have e1:decide (i< -(2 ^ 63:Int))=false:=Vw (by omega);have e2:decide (i≥2 ^ 63)=false:=Vw (by omega);rw[e1,e2,Bool.or_false]) (by rw[h1];simpa using h2) ⟨.str ⟨#[c]⟩,H,I.tok _,⟨_,rfl⟩,q⟩) hs
noncomputable def rIx(K:W.Frag):R2:=λx y H Q=>qtW K x y H Q\/qtU K x y H Q\/qtV x y H Q
theorem qp2:IxR X (rIx X.K):=qiZ.or (qp0.or qp1)
theorem qht(its:List Value)(n j:Nat)(u:Value):Obj.mapSeq (·.setIfInBounds j u) { cls:=.type "list",data:=.seq its.toArray n }={ cls:=.type "list",data:=.seq (its.set j u).toArray n }:=by simp[Obj.mapSeq]
theorem Inv.lst {pins:List (Addr×Obj)} {σ:St} {H:Hp} {s:Shared} {p:Addr} {xs:List V} (I:Inv X pins σ H s) (h:H p=some (.lst xs)):
  ∃(its:List Value) (n:Nat),qan xs its/\s.heap.get? p=some { cls:=.type "list",data:=.seq its.toArray n }/\xs.length<=sizeLine:=by obtain⟨z,its,n,r,e⟩:=I.hok p _ h;exact⟨its,n,r,e,z⟩
theorem Inv.lstUpd {s:Shared} {ys:List V} {its its':List Value} {n n':Nat} (I:Inv X pins σ H s) (h:H p=some (.lst xs)) (ho:s.heap.get? p=some { cls:=.type "list",data:=.seq its.toArray n }) (hf:f { cls:=.type "list",data:=.seq its.toArray n }={ cls:=.type "list",data:=.seq its'.toArray n' }) (r:qan ys its') (hz:ys.length<=sizeLine) (t:Nat):
  Inv X pins σ (upd H p (.lst ys)) { s with heap:=s.heap.update p f,toks:=t }:=by
 have e:(s.heap.update p f).get? p=some { cls:=.type "list",data:=.seq its'.toArray n' }:=by rw[Heap.get?_update_self f ho (by rw[hf]<;>rfl),hf]
 refine I.write (x:=p) (e:=p) (by rw[h];trivial) (.inl rfl) (λb u hb q=>(Heap.get?_update_other _ _ (Ne.symm hb)).trans q) ⟨_,e⟩ ?_;exact⟨hz,its',n',r,e⟩
noncomputable def qrV:V->V->V->Hp->(Hp->Prop)->Prop:=λo i v H Q=> ∃p xs k j,o= .ref p/\i= .int k/\H p=some (.lst xs)/\ixN xs.length k=some j/\Q (upd H p (.lst (xs.set j v)))
theorem qkb:qtx X qrV:=by
 intro pins s σ H o i v ov iv u Q I ro ri rv h;obtain⟨p,xs,k,j,rfl,rfl,hp,hj,q⟩:=h;cases ro;obtain⟨t,rfl⟩:=ri;obtain⟨its,n,r,ho,hz⟩:=I.lst hp;obtain⟨h1,h2,h3,h4⟩:=qi1 hj;have hl:=r.length;have hn:=qdA
 have I':Inv X pins σ (upd H p (.lst (xs.set j v))) { s with heap:=s.heap.update p (Obj.mapSeq (·.setIfInBounds j u)) }:=
  I.lstUpd hp ho (qht its n j u) (r.set rv j) (by rw[List.length_set];exact hz) s.toks
 by_cases h0:0<=k
 ·have hk:k.toNat=j:=by rw[seqIndex_of h0 h4] at h1;exact Option.some.inj h1
  exact W.ki_setAt ho h0 (by omega) (by rw[List.size_toArray,<-hl];exact h4) (by rw[hk];exact⟨_,I',q⟩)
 ·have hk:(k+(its.toArray.size:Int)).toNat=j:=by rw[seqIndex_neg (by omega) h3] at h1;rw[List.size_toArray,<-hl];exact Option.some.inj h1
  exact W.ki_setBack ho (by omega) (by rw[List.size_toArray,<-hl];exact h3) (by omega) (by rw[hk];exact⟨_,I',q⟩)
theorem qeO(lo hi:Option Int)(n:Nat):(sliceBounds lo hi none n).1=((HT.sIx n 0 lo:Nat):Int)/\(sliceBounds lo hi none n).2.1=((HT.sIx n n hi:Nat):Int)/\(sliceBounds lo hi none n).2.2=1:=by
 refine⟨?_,?_,rfl⟩
 ·cases lo with
  |none=>simp[sliceBounds,HT.sIx]
  |some i=>
   simp only[sliceBounds,HT.sIx,Option.getD_none,show(1:Int)>0 by decide,if_true];by_cases h:i<0
   ·simp only[h,if_true]<;>omega
   ·simp only[h,if_false]<;>omega
 ·cases hi with
  |none=>simp[sliceBounds,HT.sIx]
  |some i=>
   simp only[sliceBounds,HT.sIx,Option.getD_none,show(1:Int)>0 by decide,if_true];by_cases h:i<0
   ·simp only[h,if_true]<;>omega
   ·simp only[h,if_false]<;>omega
theorem qdY(its:List Value)(lo hi:Option Int):slicePick its.toArray lo hi none=((its.drop (HT.sIx its.length 0 lo)).take (HT.sIx its.length its.length hi - HT.sIx its.length 0 lo)).toArray:=by obtain⟨h1,h2,h3⟩:=qeO lo hi its.toArray.size;unfold slicePick;rw[h1,h2,h3];simp only[sliceRange_one,pick_run,List.size_toArray]<;>rfl
noncomputable def quP(K:W.Frag):V->Option Int->Option Int->Hp->VK->Prop:=λx lo hi H Q=> ∃a xs,x= .ref a/\SqL K H a xs/\∀p,H p=none->Q (.ref p) (upd H p (.lst (ql9 xs lo hi)))
theorem qmF:SlR X (quP X.K):=by intro pins s σ H x v vl vu lo hi sl Q I rx hs pl pu h;obtain⟨a,xs,rfl,hx,q⟩:=h;cases rx;obtain⟨its,r,ht,hz⟩:=I.list hx;have hlen:=r.length;refine⟨"list",_,slot_list_getitem.lookup,ht.isList.typeIs,?_⟩;refine wpAny_getItem_list_slice ht.isList hs pl pu .none (by simp) ?_ (by rw[List.size_toArray]<;>omega);rw[qdY,<-hlen];refine⟨.ref s.heap.objs.size,_,I.laid (t':=s.toks) (o:=.lst (ql9 xs lo hi)) (λb ob q=>Vh _ q) (Vm _) ?_,rfl,q _ (I.hok.fresh (Vm _))⟩;exact⟨Vq (qc2 xs lo hi) hz,_,0,(r.drop (HT.sIx xs.length 0 lo)).take (HT.sIx xs.length xs.length hi - HT.sIx xs.length 0 lo),Vi _ rfl⟩
noncomputable def qgc:V->Bool
 |.non=>true
 |.bl _=>true
 |.int _=>true
 |.str _=>true
 |_=>false
noncomputable def eqV:V->V->Bool
 |.non,.non=>true
 |.bl a,.bl b=>a==b
 |.bl a,.int b=>(if a then 1 else 0)==b
 |.int a,.bl b=>a==(if b then 1 else 0)
 |.int a,.int b=>a==b
 |.str a,.str b=>a==b
 |_,_=>false
theorem ql2{A:Around}{s:Shared}{y x:V}{u v:Value}(ry:RelV y u)(rx:RelV x v)(fy:qgc y=true)(fx:qgc x=true):SeqAt.EqAt A s u v (eqV y x):=by
 cases y with
 |non=>
  cases ry;cases x with
  |non=>cases rx;exact SeqAt.EqAt.same _
  |bl b=>cases rx;exact SeqAt.EqAt.none_bool b
  |int b=>obtain⟨t,rfl⟩:=rx;exact SeqAt.EqAt.none_int b t
  |str b=>obtain⟨t,rfl⟩:=rx;exact SeqAt.EqAt.none_str b t
  |_=>exact absurd (show false=true from fx) Vr
 |bl a=>
  cases ry;cases x with
  |non=>cases rx;exact SeqAt.EqAt.bool_none a
  |bl b=>cases rx;exact SeqAt.EqAt.bool_bool a b
  |int b=>obtain⟨t,rfl⟩:=rx;exact SeqAt.EqAt.bool_int a b t
  |str b=>obtain⟨t,rfl⟩:=rx;exact SeqAt.EqAt.bool_str a b t
  |_=>exact absurd (show false=true from fx) Vr
 |int a=>
  obtain⟨t',rfl⟩:=ry;cases x with
  |non=>cases rx;exact SeqAt.EqAt.int_none a t'
  |bl b=>cases rx;exact SeqAt.EqAt.int_bool a t' b
  |int b=>obtain⟨t,rfl⟩:=rx;exact SeqAt.EqAt.int_int a t' b t
  |str b=>obtain⟨t,rfl⟩:=rx;exact SeqAt.EqAt.int_str a t' b t
  |_=>exact absurd (show false=true from fx) Vr
 |str a=>
  obtain⟨t',rfl⟩:=ry;cases x with
  |non=>cases rx;exact SeqAt.EqAt.str_none a t'
  |bl b=>cases rx;exact SeqAt.EqAt.str_bool a t' b
  |int b=>obtain⟨t,rfl⟩:=rx;exact SeqAt.EqAt.str_int a t' b t
  |str b=>obtain⟨t,rfl⟩:=rx;exact SeqAt.EqAt.str_str a t' b t
  |_=>exact absurd (show false=true from fx) Vr
 |_=>exact absurd (show false=true from fy) Vr
theorem qaC.or(h:qaC X f r)(h':qaC X f r'):qaC X f (λxs H Q=>r xs H Q\/r' xs H Q):=by
 intro pins s σ H xs us Q I rs q
 rcases q with q|q
 ·exact h pins s σ H xs us Q I rs q
 ·exact h' pins s σ H xs us Q I rs q
theorem qfs:qaC X (.type "list") (λxs H Q=> ∃p ys,xs=[.ref p]/\(SqL X.K H p ys\/SqT X.K H p ys)/\∀l,H l=none->Q (.ref l) (upd H l (.lst ys))):=by
 intro pins s σ H xs us Q I r h;obtain⟨p,ys,rfl,hq,q⟩:=h;obtain⟨u,rfl,rx⟩:=qdg r;cases rx
 have fin: ∀(its:List Value),qan ys its->ys.length<=sizeLine->∀(h':Heap) (c':Nat),(∀b o',s.heap.get? b=some o'->h'.get? b=some o')->
   h'.get? s.heap.objs.size=some { cls:=.type "list",dict:=none,data:=.seq its.toArray c',slots:= #[] }->EP X pins σ Q (.ref s.heap.objs.size) { s with heap:=h' }:=λits r' hz h' c' kp e=>
  ⟨.ref s.heap.objs.size,_,I.laid (t':=s.toks) kp (Vm _) (show qaA X.prog X.w _ h' _ (.lst ys) from⟨hz,its,c',r',e⟩),rfl,q _ (I.hok.fresh (Vm _))⟩
 rcases hq with hq|hq
 ·obtain⟨its,r',pl,hz⟩:=I.list hq;have hlen:=r'.length;obtain⟨o,ho,hc,n,hd⟩:=pl.isList;exact call_list_seq p (.inl rfl) ho hc hd (λh' c' kp e=>fin its r' hz h' c' kp e) (by simp only[List.size_toArray]<;>omega)
 ·obtain⟨its,r',pl,hz⟩:=I.tuple hq;have hlen:=r'.length;obtain⟨o,ho,hc,n,hd⟩:=pl;exact call_list_seq p (.inr rfl) ho hc hd (λh' c' kp e=>fin its r' hz h' c' kp e) (by simp only[List.size_toArray]<;>omega)
noncomputable def tyV(K:W.Frag)(T:String)(x:V)(H:Hp):Prop:=match x with
 |.str _=>T= "str"
 |.int _=>T= "int"
 | .ref p=>(T= "list" /\∃xs,SqL K H p xs)\/(T= "tuple" /\∃o,K.lookup p=some o/\o.cls= .type "tuple" /\o.dict=none)\/
   (T= "dict" /\((∃kvs,H p=some (.dK kvs))\/∃kvs,H p=some (.dT kvs)))\/(T= "set" /\∃S n,H p=some (.set S n))
 |_=>False
theorem qlH (I:Inv X pins σ H s) (r:RelV x v) (ty:tyV X.K T x H):
  s.TypeIs v T/\∀a,v= .ref a->∃ob,s.heap.get? a=some ob/\ob.dict=none:=by
 cases x with
 |str z=>obtain⟨t,rfl⟩:=r;cases(show T= "str" from ty);exact⟨typeIs_str s z t,λ_ e=>nomatch e⟩
 |int i=>obtain⟨t,rfl⟩:=r;cases(show T= "int" from ty);exact⟨typeIs_int s i t,λ_ e=>nomatch e⟩
 |ref p=>
  cases r
  rcases ty with⟨rfl,xs,hq⟩|⟨rfl,o,hk,hc,hd⟩|⟨rfl,hk⟩|⟨rfl,S,n,hk⟩
  ·obtain⟨its,_,pl,_⟩:=I.list hq;refine⟨pl.isList.typeIs,λa e=> ?_⟩;cases e;obtain⟨o,n,e,c,hd,_⟩:=pl;exact⟨o,e,hd⟩
  ·refine⟨⟨o,I.kIn p o hk,hc⟩,λa e=> ?_⟩;cases e;exact⟨o,I.kIn _ o hk,hd⟩
  ·have z: ∃o,s.heap.get? p=some o/\o.ExactDict:=by
    rcases hk with⟨kvs,hk⟩|⟨kvs,hk⟩
    ·obtain⟨_,_,_,_,o,_,_,e,ex,_⟩:=I.hok p _ hk;exact⟨o,e,ex⟩
    ·obtain⟨_,_,_,_,o,_,_,e,ex,_⟩:=I.hok p _ hk;exact⟨o,e,ex⟩
   obtain⟨o,e,ex⟩:=z;refine⟨⟨o,e,ex.1⟩,λa e2=> ?_⟩;cases e2;exact⟨o,e,ex.2.1⟩
  ·obtain⟨o,_,_,_,e,ex,_⟩:=I.hok p _ hk;refine⟨⟨o,e,ex.1⟩,λa e2=> ?_⟩;cases e2;exact⟨o,e,ex.2.1⟩
 |_=>exact False.elim ty
noncomputable def quH(K:W.Frag)(T:String)(r:V->List V->Hp->VK->Prop)(to:TE):TE:=λσ H Q=>to σ H λx H1=>tyV K T x H1/\r x [] H1 Q
noncomputable def tBM(K:W.Frag)(T:String)(r:V->List V->Hp->VK->Prop)(to:TE)(t:TA):TE:=λσ H Q=>to σ H λx H1=>tyV K T x H1/\t σ H1 λxs H2=>r x xs H2 Q
theorem qpq {o:Expr} {to:TE} {name:Str} {apos:Pos} {cpos:Pos} {T:String} {id:String} {r:V->List V->Hp->VK->Prop} (pa:PlainAttrs T) (slot:Slot T name id) (cy:typeOf (.builtin id)=pure (.type "method_descriptor")) (hm:MtR X id r) (ho:PE X o to) (aM:attributeBase o name X.env (eval o X.env)=eval o X.env:=by rfl) (ao:(apos.endLine==cpos.line)=true:=by rfl):PE X (.Call (.Attribute o name apos) [] [] cpos) (quH X.K T r to):=by intro pins s σ H Q I h;refine wpAny_Call_method0_late aM ao (thn (ho pins s σ H _ I h) λv s1 ⟨x,H1,I1,r1,ty,q1⟩=> ?_);obtain⟨h1,h2⟩:=qlH I1 r1 ty;exact⟨T,id,pa,slot,cy,h1,h2,Calls.callWith_builtin rfl (PySem.evalArgs_none (hm pins s1 σ H1 x [] v [] Q I1 r1 .nil q1))⟩
theorem qm2 {o:Expr} {e:Expr} {es:List Expr} {to:TE} {t:TA} {name:Str} {apos:Pos} {cpos:Pos} {T:String} {id:String} {r:V->List V->Hp->VK->Prop} (pa:PlainAttrs T) (slot:Slot T name id) (cy:typeOf (.builtin id)=pure (.type "method_descriptor")) (hm:MtR X id r) (ho:PE X o to) (ha:PA X (e::es) t) (aM:attributeBase o name X.env (eval o X.env)=eval o X.env:=by rfl) (dJ:((backTo cpos (starEach (e::es) X.env)).all (λx=> !x.1)&&(backToKw cpos (keywordEach [] X.env)).all (λx=>x.1.isSome)
   &&decide ((e::es).length+([]:List Keyword).length+(if([]:List Keyword).isEmpty then 0 else 1)<30))=true:=by rfl) (ao:(apos.endLine==cpos.line)=true:=by rfl) (hs:starEach (e::es) X.env=(false,eval e X.env)::starEach es X.env:=by rfl) (bq:(backTo cpos (starEach es X.env)).any (·.1)=false:=by rfl):
  PE X (.Call (.Attribute o name apos) (e::es) [] cpos) (tBM X.K T r to t):=by intro pins s σ H Q I h;refine wpAny_Call_method_late aM dJ ao rfl (thn (ho pins s σ H _ I h) λv s1 ⟨x,H1,I1,r1,ty,q1⟩=> ?_);obtain⟨h1,h2⟩:=qlH I1 r1 ty;refine⟨T,id,pa,slot,cy,h1,h2,?_⟩;have hA:=ha cpos pins s1 σ H1 _ I1 q1;rw[hs] at hA⊢;refine Calls.callWith_builtin (by show(false||(backTo cpos (starEach es X.env)).any (·.1))=false;rw[bq]<;>rfl) (Calls.evalArgs_plain ?_);exact thn hA λus s2 ⟨vs,H2,I2,r2,q2⟩=>hm pins s2 σ H2 x vs v us Q I2 r1 r2 q2
end
noncomputable def MtM(X:Cx)(id:String)(r:V->List V->Hp->VK->Prop):Prop:=
 ∀(pins:List (Addr×Obj)) (s:Shared) (σ:St) (H:Hp) (x:V) (xs:List V) (v:Value) (us:List Value) (Q:VK),Inv X pins σ H s->RelV x v->qan xs us->r x xs H Q->
  wpAny (model X.prog X.w) X.A (call (.builtin id) (v::us)) (EP X pins σ Q) X.xe s
theorem qan.one: ∀{x:V} {us:List Value},qan [x] us->∃u,us=[u]/\RelV x u
 |_,_,.cons r .nil=>⟨_,rfl,r⟩
theorem qan.zero: ∀{us:List Value},qan [] us->us=[]
 |_,.nil=>rfl
theorem qan.dropLast(h:qan xs us):qan xs.dropLast us.dropLast:=by
 induction h with
 |nil=>exact .nil
 |cons r t ih=>
  cases t with
  |nil=>exact .nil
  |cons q t'=>exact .cons r ih
theorem qan.rep(h:qan xs us): ∀k:Nat,qan (List.replicate k xs).flatten (List.replicate k us).flatten
 |0=>.nil
 |k+1=>by rw[List.replicate_succ,List.replicate_succ,List.flatten_cons,List.flatten_cons];exact qan.append h (qan.rep h k)
theorem qhH(l:List α):l.eraseIdx (l.length - 1)=l.dropLast:=by
 induction l with
 |nil=>rfl
 |cons a r ih=>
  cases r with
  |nil=>rfl
  |cons b r=>
   have e:(a::b::r).length - 1=((b::r).length - 1)+1:=by have h1:(a::b::r).length=r.length+2:=rfl;have h2:(b::r).length=r.length+1:=rfl;omega
   rw[e,List.eraseIdx_cons_succ,ih]
   all_goals rfl
theorem qfg (its:List Value): ∀(k:Nat) (acc:List Value),
  List.foldl (λx1 x2=>x1++x2) acc.toArray (List.replicate k its.toArray)=(acc++(List.replicate k its).flatten).toArray
 |0,acc=>by simp
 |k+1,acc=>by
  have e:acc.toArray++its.toArray=(acc++its).toArray:=by simp
  have e2:(acc++its)++(List.replicate k its).flatten=acc++(List.replicate (k+1) its).flatten:=by rw[List.replicate_succ,List.flatten_cons,List.append_assoc]
  rw[<-e2,<-qfg its k (acc++its),<-e,List.replicate_succ,List.foldl_cons]
section
theorem Inv.lset {s:Shared} {ys:List V} {its its':List Value} {n:Nat} {t':Nat} (I:Inv X pins σ H s) (hH:H l=some (.lst xs)) (e:s.heap.get? l=some { cls:=.type "list",data:=.seq its.toArray n }) (hf:f its.toArray=its'.toArray) (hv:qan ys its') (hz:ys.length<=sizeLine):
  Inv X pins σ (upd H l (.lst ys)) { s with heap:=s.heap.update l (Obj.mapSeq f),toks:=t' }:=by have q:=PySem.IsL.update e f;rw[hf] at q;refine I.write (x:=l) (e:=l) (by rw[hH];exact trivial) (.inl rfl) (λb' u hb hu=>(Heap.get?_update_other s.heap (Obj.mapSeq f) (Ne.symm hb)).trans hu) ⟨_,q⟩ ?_;exact⟨hz,its',_,hv,q⟩
theorem Inv.lnew (I:Inv X pins σ H s) (hv:qan ys its) (hz:ys.length<=sizeLine):
  Inv X pins σ (upd H s.heap.objs.size (.lst ys)) { s with heap:=s.heap.push { cls:=.type "list",data:=.seq its.toArray },toks:=t' }:=
 I.laid (λ_ _ q=>Vh _ q) (Vm _) ⟨hz,its,0,hv,Vi _ rfl⟩
theorem Inv.fresh(I:Inv X pins σ H s):H s.heap.objs.size=none:=I.hok.fresh (Vm _)
theorem Inv.lstM(I:Inv X pins σ H s)(hH:H l=some (.lst xs)):xs.length<=sizeLine/\∃(its:List Value) (n:Nat),qan xs its/\xs.length=its.length/\s.heap.get? l=some { cls:=.type "list",data:=.seq its.toArray n }:=by obtain⟨z,its,n,r,e⟩:=I.hok l _ hH;exact⟨z,its,n,r,r.length,e⟩
theorem qgN(h:n<=sizeLine):Builtin.List.listTooLong n=false:=by unfold Builtin.List.listTooLong;exact Vw (by omega)
end
section
noncomputable def qmL:V->List V->Hp->VK->Prop:=λx vs H Q=> ∃l xs y,x= .ref l/\vs=[y]/\H l=some (.lst xs)/\xs.length<sizeLine/\Q .non (upd H l (.lst (xs++[y])))
theorem qe3:MtM X "list.append" qmL:=by intro pins s σ H x vs v us Q I rx rv h;obtain⟨l,xs,y,rfl,rfl,hH,hz,q⟩:=h;cases rx;obtain⟨u,rfl,ru⟩:=rv.one;obtain⟨z,its,n,r,hl,e⟩:=I.lstM hH;refine Vy F.slot_list_append ⟨_,e,rfl⟩ F.entry_list_append (F.args_list_append_2 _ _) (PySem.list_append l its.toArray n u (by rw[List.size_toArray];omega)) ⟨e,?_⟩;refine⟨.non,_,I.lset (its':=its++[u]) hH e (by simp) (r.append (.cons ru .nil)) ?_,rfl,q⟩;rw[List.length_append,List.length_singleton];omega
noncomputable def qmJ:V->List V->Hp->VK->Prop:=λx vs H Q=> ∃l b xs zs,x= .ref l/\vs=[.ref b]/\H l=some (.lst xs)/\H b=some (.lst zs)/\xs.length+zs.length<=sizeLine/\Q .non (upd H l (.lst (xs++zs)))
theorem qiK:MtM X "list.extend" qmJ:=by
 intro pins s σ H x vs v us Q I rx rv h;obtain⟨l,b,xs,zs,rfl,rfl,hH,hB,hz,q⟩:=h;cases rx;obtain⟨u,rfl,ru⟩:=rv.one;cases ru;obtain⟨z,its,n,r,hl,e⟩:=I.lstM hH;obtain⟨z2,aS,n2,r2,cJ,e2⟩:=I.lstM hB;have hsz:its.toArray.size+aS.toArray.size<=sizeLine:=by rw[List.size_toArray,List.size_toArray];omega
 have cg: ¬(!its.toArray.isEmpty&&Builtin.List.listTooLong (its.toArray.size+aS.toArray.size))=true:=by rw[qgN hsz,Bool.and_false];exact Vr
 refine Vy F.slot_list_extend ⟨_,e,rfl⟩ F.entry_list_extend (F.args_list_extend_2 _ _)
  (AutoSeq1.list_extend_list_list_0 l its.toArray n b aS.toArray n2 cg (by rw[List.size_toArray];omega) (by omega)) ⟨e,e2,?_⟩
 refine⟨.non,_,I.lset (its':=its++aS) hH e (by simp) (r.append r2) ?_,rfl,q⟩;rw[List.length_append];omega
noncomputable def quR:V->List V->Hp->VK->Prop:=λx vs H Q=> ∃l xs y,x= .ref l/\vs=[]/\H l=some (.lst xs)/\xs[xs.length - 1]? =some y/\Q y (upd H l (.lst xs.dropLast))
theorem qpQ:MtM X "list.pop" quR:=by
 intro pins s σ H x vs v us Q I rx rv h;obtain⟨l,xs,y,rfl,rfl,hH,hy,q⟩:=h;cases rx;have gE:=rv.zero;subst gE;obtain⟨z,its,n,r,hl,e⟩:=I.lstM hH;obtain⟨u,hu,ru⟩:=r.get hy;have dj:its.toArray[its.toArray.size - 1]? =some u:=by show its.toArray[its.length - 1]? =some u;rw[<-Array.getElem?_toList,<-hl];exact hu
 refine Vy F.slot_list_pop ⟨_,e,rfl⟩ F.entry_list_pop (F.args_list_pop_1 _) (MeetsSeq.list_pop_last l its.toArray n u dj (by rw[List.size_toArray];omega)) ⟨e,?_⟩;refine⟨y,_,I.lset (its':=its.dropLast) hH e ?_ r.dropLast ?_,ru,q⟩
 ·show its.toArray.eraseIdxIfInBounds (its.toArray.size - 1)=its.dropLast.toArray;rw[List.size_toArray,List.eraseIdxIfInBounds_toArray,qhH]
 ·rw[List.length_dropLast];omega
noncomputable def qo4:V->List V->Hp->VK->Prop:=λx vs H Q=> ∃l xs,x= .ref l/\vs=[]/\H l=some (.lst xs)/\Q .non (upd H l (.lst []))
theorem qkz:MtM X "list.clear" qo4:=by intro pins s σ H x vs v us Q I rx rv h;obtain⟨l,xs,rfl,rfl,hH,q⟩:=h;cases rx;have gE:=rv.zero;subst gE;obtain⟨z,its,n,r,hl,e⟩:=I.lstM hH;refine Vy F.slot_list_clear ⟨_,e,rfl⟩ F.entry_list_clear (F.args_list_clear_1 _) (AutoSeq1.list_clear_list_0 l its.toArray n (by rw[List.size_toArray];omega)) ⟨e,?_⟩;exact⟨.non,_,I.lset (its':=[]) (ys:=[]) hH e rfl .nil (Nat.zero_le _),rfl,q⟩
noncomputable def qt2:R2:=λx y H Q=> ∃l b xs zs,x= .ref l/\y= .ref b/\H l=some (.lst xs)/\H b=some (.lst zs)/\xs.length+zs.length<=sizeLine/\∀p,H p=none->Q (.ref p) (upd H p (.lst (xs++zs)))
theorem qiD:OpR X (binaryOp .Add) qt2:=by
 intro pins s σ H x y v u Q I rx ry h;obtain⟨l,b,xs,zs,rfl,rfl,hH,hB,hz,q⟩:=h;cases rx;cases ry;obtain⟨z,its,n,r,hl,e⟩:=I.lstM hH;obtain⟨z2,aS,n2,r2,cJ,e2⟩:=I.lstM hB;refine P.add_list e e2 ?_ (by rw[List.size_toArray,List.size_toArray];omega);have ea:its.toArray++aS.toArray=(its++aS).toArray:=by simp
 rw[ea];exact⟨.ref _,_,I.lnew (t':=s.toks) (r.append r2) (by rw[List.length_append];omega),rfl,q _ I.fresh⟩
noncomputable def qtS:R2:=λx y H Q=> ∃l k xs,x= .ref l/\y= .int k/\H l=some (.lst xs)/\ -(2 ^ 63)<=k/\k<2 ^ 63/\xs.length*k.toNat<=sizeLine/\
 ∀p,H p=none->Q (.ref p) (upd H p (.lst (List.replicate k.toNat xs).flatten))
theorem qf2(xs:List α)(k:Nat):(List.replicate k xs).flatten.length=k*xs.length:=by
 induction k with
 |zero=>simp
 |succ k ih=>rw[List.replicate_succ,List.flatten_cons,List.length_append,ih,Nat.succ_mul,Nat.add_comm]
theorem qpv:OpR X (binaryOp .Mult) qtS:=by
 intro pins s σ H x y v u Q I rx ry h;obtain⟨l,k,xs,rfl,rfl,hH,h1,h2,hz,q⟩:=h;cases rx;obtain⟨t,rfl⟩:=ry;obtain⟨z,its,n,r,hl,e⟩:=I.lstM hH;have hlen:its.toArray.size*k.toNat<=sizeLine:=by rw[List.size_toArray,<-hl];exact hz
 have hV: ¬its.toArray.size*k.toNat>(2 ^ 63 - 1) / 8:=by
  have:(sizeLine:Nat)<=(2 ^ 63 - 1) / 8:=by decide
  omega
 have g0: ¬(!Builtin.List.listFitsIndex k)=true:=by rw[fitsIndex_both h1 h2];exact Vr
 have cg: ¬Builtin.List.listTooLong (its.toArray.size*k.toNat)=true:=by rw[qgN hlen];exact Vr
 have b7:List.foldl (λx1 x2=>x1++x2) #[] (List.replicate (if its.toArray.isEmpty=true then 0 else k.toNat) its.toArray)=(List.replicate k.toNat its).flatten.toArray:=by
  have f0: ∀m:Nat,List.foldl (λx1 x2=>x1++x2) #[] (List.replicate m its.toArray)=(List.replicate m its).flatten.toArray:=λm=>by have:=qfg its m [];rw[List.nil_append] at this;exact this
  rw[f0];cases its with
  |nil=>simp
  |cons a r'=>rw[if_neg (by simp)]
 refine wpAny_binaryOp_repeat_ref (T:= "list") (U:= "int") (by decide) ⟨_,e,rfl⟩ (λs'=>typeIs_int s' k t) noFill_list_mul F.fills_int_mul F.slot_int_rmul repeat_list F.slot_int_index.lookup
  (Vy F.slot_int_rmul (typeIs_int s k t) F.entry_int_rmul (F.args_int_rmul_2 _ _) (int___rmul___int_list k t l its.toArray n)
   ⟨e,rfl,⟨_,e,rfl⟩,Vy F.slot_list_mul ⟨_,e,rfl⟩ F.entry_list_mul (F.args_list_mul_2 _ _) (AutoListH.list___mul___list_int_3 l its.toArray n k t g0 hV cg) ⟨e,?_⟩⟩)
 rw[b7];exact⟨.ref _,_,I.lnew (t':=s.toks) (r.rep k.toNat) (by rw[qf2,Nat.mul_comm];exact hz),rfl,q _ I.fresh⟩
end
end L2
namespace Att
open PySem PySem.W PySem.Calls PyProof.Rows
theorem qcY: ∀(ns:List Int) (vs:List Value),WellAll P h vs (ns.map WData.int)->IntsAre vs ns:=by
 intro ns
 induction ns with
 |nil=>intro vs w;rw[List.map_nil] at w;cases w;exact .nil
 |cons n ns ih=>
  intro vs w;rw[List.map_cons] at w;cases w with
  |cons a b=>cases a;exact .cons _ _ (ih _ b)
theorem qih {l:OpenLaw} {n:Nat} (hn:l.most=some n) {h:Heap} (cH:l.row.toRowW.claim.pre args=true) (gD:WellAll P h vals args):
  ∃a vs ns,vals=[Value.ref a]/\args=[WData.list (ns.map WData.int)]/\h.get? a=some { cls:=.type "list",data:=.seq vs.toArray }/\IntsAre vs ns/\ns.length<=n:=by
 have hsh:WShape.hasAll [] args [.list .int]=true:=(pre_splitW cH).1;have hc:l.pre.holds [] { args:=args }=true:=(pre_splitW cH).2;obtain⟨d,r,rfl,h1,h2⟩:=hasAllW_cons hsh;obtain rfl:=hasAllW_nil h2;obtain⟨xs,rfl,h3⟩:=hasW_list h1;obtain⟨ns,rfl⟩:=items_int h3;have hlen:ns.length<=n:=by
  unfold OpenLaw.pre at hc;have h4:(WTm.not (.lt (.lit (.int (n:Int))) (.len (.arg 0)))).holds [] { args:=[.list (ns.map .int)] }=true:=by have h4:=(holds_andW hc).1;rw[hn] at h4;exact h4
  have h5:=condW_of h4 (w_not (w_lt w_lit (w_len_list (w_arg rfl))));rw[List.length_map] at h5;refine Nat.le_of_not_lt λq=> ?_;have q':(n:Int)<((ns.length:Nat):Int):=by omega
  first
   |(rw[decide_eq_true q'] at h5;exact absurd h5 (by decide))
   |(simp at h5;omega)
 cases gD with
 |cons w1 w2=>
  cases w2;cases w1 with
  |list ho ib=>exact⟨_,_,ns,rfl,rfl,ho,qcY ns _ ib,hlen⟩
theorem qip(l:OpenLaw)(args:List WData):l.row.toRowW.claim.post args (.bool true) args=true:=
 postW_of (r:=l.row.toRowW) (X:=(true==true))
  (show WShape.has [] (.bool true) .bool=true by first|rfl|decide|simp[WShape.has,WShape.arms,WShape.armsAll])
  (show(WTm.eq .res (.lit (.bool true))).value [] { args:=args,res:=some (.bool true),after:=args }=some (.bool (true==true)) from w_eq_bool (w_res rfl) w_lit) rfl
theorem attach_call {l:OpenLaw} {n:Nat} {d:DefRec} (hn:l.most=some n) (dO:d.params.defaults=[]) (call: ∀(w:World) (s₀ ae:Shared) (mg mb:Str->Option Value) (fa:Addr) (o:Obj) (pm cd doc:Value) (a:Addr) (vs:List Value) (ns:List Int),
   Ground q loose [] XP w s₀ mg mb ae.heap->YP w ae.heap->
   ae.heap.get? fa=some o->o.data= .func (docDef d.name d.params d.body d.scope pm cd doc)->ae.heap.CodeRec cd d.name->mg d.name=some (.ref fa)->
   ae.heap.get? a=some { cls:=.type "list",data:=.seq vs.toArray }->IntsAre vs ns->ns.length<=n->ae.gens= #[]->
   codeAny (model l.prog w) callerA (.call (.ref fa) ⟨[.ref a],[]⟩) (λr s'=>r= .ok (.ret (.bool true))/\OldK ae.heap s'.heap/\s'.os=ae.os/\AllBare s'.gens) ae):
  WalkO q loose XP YP l.row.toRowW d [] (λf vs=>PySem.call f vs):=by intro w s₀ ae mg mb G Y fa o pm cd doc dV kV ho hd aH hD gM hg args vals as cH hlay hrd gD hlo;obtain rfl:dV= .none:=Dflts.none hD dO;obtain rfl:kV= .none:=Dflts.noKw hD;obtain⟨a,vs,ns,rfl,rfl,dE,hints,hlen⟩:=qih hn cH gD;refine enter_call (codeAny_mono (call w s₀ ae mg mb fa o pm cd doc a vs ns G Y ho (fd_plain hd) aH gM dE hints hlen hg) λr s' hq=> ?_);obtain⟨rfl,h2,h3,h4⟩:=hq;exact⟨.inl ⟨.bool true,.bool true,[],rfl,λ_=>rfl,.bool true,qip l _,λ_=>⟨List.Pairwise.nil,λ_ hm=>(nomatch hm)⟩⟩,h2,h3,h4⟩
section
noncomputable def qt8(h:Heap)(L d:Addr):List (Addr×Obj):=(List.range h.objs.size).filterMap λa=>if a=L\/a=d then none else(h.get? a).map λo=>(a,o)
end
end Att
namespace L2
open PySem PySem.Spec PyProof.Rows
theorem qez: ∀{vs:List Value} {ns:List Int},IntsAre vs ns->qan (ns.map V.int) vs
 |_,_,.nil=>.nil
 |_,_,.cons n t h=>.cons ⟨t,rfl⟩ (qez h)
abbrev KOf{K:W.Frag}{h:Heap}(_:K.In h):W.Frag:=K
noncomputable def qai(s:Stmt):Arguments:=match s with
 |.FunctionDef _ a _ _ _ _ _ _ _ _=>a
 |_=>{ posonlyargs:=[],args:=[],vararg:=none,kwonlyargs:=[],kw_defaults:=[],kwarg:=none,defaults:=[] }
noncomputable def qam(s:Stmt):List Stmt:=match s with
 |.FunctionDef _ _ b _ _ _ _ _ _ _=>b
 |_=>[]
noncomputable def qab(s:Stmt):Scope:=match s with
 |.FunctionDef _ _ _ _ _ _ sc _ _ _=>sc
 |_=>{ kind:=.function,names:=[],isGenerator:=false,isCoroutine:=false }
abbrev CX0:CXT:=λ_ _ _ _ _ _=>False
abbrev E0:XK:=λ_ _ _=>False
structure Fun(K:W.Frag)(x qual:Str)(st:Stmt)(f:Addr)(fd:FuncData):Prop where
 ex: ∃(oc:Value) (od:Option Addr) (kV doc pm:Value) (an:Option Addr) (cdv ct:Value) (osl:Array (Option Value)),
  fd=W.fnOf x qual (qai st) (qam st) (qab st) .none kV doc pm an cdv ct/\K.lookup f=some ⟨oc,od,.func fd,osl⟩/\W.codeIn K cdv qual=true
 kp:W.keepIn K (.ref f)=true
section
theorem Fun.binds{K:W.Frag}{x qual:Str}{st:Stmt}{f:Addr}{fd:FuncData}{ps:List Str}(F:Fun K x qual st f fd)(h: ∀(kV doc pm:Value) (an:Option Addr) (cdv ct:Value) (us:List Value),us.length=ps.length->bindArgs (W.fnOf x qual (qai st) (qam st) (qab st) .none kV doc pm an cdv ct) ⟨us,[]⟩=pure (ps.zip us)):qaO K fd ps []:=by obtain⟨oc,od,kV,doc,pm,an,cdv,ct,osl,rfl,lk,aH⟩:=F.ex;exact .all (h kV doc pm an cdv ct)
theorem qfd{K:W.Frag}{x qual:Str}{st:Stmt}{f:Addr}{oc:Value}{od an:Option Addr}{osl:Array (Option Value)}{kV doc pm cdv ct:Value}(l:K.lookup f=some ⟨oc,od,.func (W.fnOf x qual (qai st) (qam st) (qab st) .none kV doc pm an cdv ct),osl⟩)(c:W.codeIn K cdv qual=true)(k:W.keepIn K (.ref f)=true):Fun K x qual st f (W.fnOf x qual (qai st) (qam st) (qab st) .none kV doc pm an cdv ct):=⟨⟨oc,od,kV,doc,pm,an,cdv,ct,osl,rfl,l,c⟩,k⟩
end
theorem qcI(h:n<=1000):n<sizeLine:=Nat.lt_of_le_of_lt h (by decide)
section
theorem pv {X:Cx} (i:Nat) {x:Str} {pos:Pos} (hN:X.N[i]? =some x:=by rfl) (hv:Vis X.env.scope x:=by first|exact Or.inl rfl|exact Or.inr (Or.inl rfl)|exact Or.inr (Or.inr rfl)) (hd:(x==("__debug__" :Str))=false:=by decide) (aH:(x==("__classdict__" :Str))=false:=by decide):PE X (.Name x pos) (qms i):=qeX hN hv hd aH
end
theorem qsH{A B:Prop}(h:B):if false=true then A else B:=by rw[if_neg Bool.false_ne_true];exact h
theorem qu3{A B:Prop}(h:A):if true=true then A else B:=by rw[if_pos rfl];exact h
noncomputable def clOf(env:Env):List (Str×NameKind)->List (Str×Addr)->List (Str×Addr)
 |[],acc=>acc
 |x::r,acc=>clOf env r (if x.2== .free then(match env.cells.lookup x.1 with|some a=>(x.1,a)::acc|none=>acc) else acc)
theorem qdK: ∀(names:List (Str×NameKind)) (acc:List (Str×Addr)),(∀x∈names,x.2= .free->∃c,env.cells.lookup x.1=some c)->
  (forIn names acc λx r=>(match x with|(name,kind)=>if(kind==NameKind.free)=true then do let a <-cellOf env name;pure (ForInStep.yield ((name,a)::r)) else pure (ForInStep.yield r):Sem (ForInStep (List (Str×Addr)))))=pure (clOf env names acc)
 |[],acc,_=>by rw[List.forIn_nil];rfl
 |(n,k)::r,acc,h=>by
  rw[List.forIn_cons];have ih:=λiy=>qdK (env:=env) r iy λx hx=>h x (Vl _ hx);by_cases hk:(k==NameKind.free)=true
  ·have gW:k= .free:=by simpa using hk
   obtain⟨c,hc⟩:=h (n,k) Vk gW;simp only[hk,if_true,cellOf,hc,clOf];exact ih _
  ·simp only[hk,if_false,clOf];exact ih _
theorem qdL(h: ∀x∈scope.names,x.2= .free->∃c,env.cells.lookup x.1=some c):closureFor scope env=pure (clOf env scope.names []):=by have e:=qdK (env:=env) scope.names [] h;unfold closureFor;exact(congrArg (λm=>m>>=λr=>pure r) e)
theorem qeq: ∀(names:List (Str×NameKind)) (acc:List (Str×Addr)),(∀y d,acc.lookup y=some d->env.cells.lookup y=some d)->
  (clOf env names acc).lookup x=some c->env.cells.lookup x=some c
 |[],acc,ha,h=>ha x c h
 |(n,k)::r,acc,ha,h=>by
  refine qeq r _ (λy d hy=> ?_) h;dsimp only at hy;by_cases hk:(k==NameKind.free)=true
  ·rw[if_pos hk] at hy;cases e:env.cells.lookup n with
   |none=>rw[e] at hy;exact ha y d hy
   |some a=>
    rw[e] at hy;dsimp only at hy;rw[List.lookup_cons] at hy;cases hb:y==n with
    |true=>rw[hb] at hy;have e1:y=n:=eq_of_beq hb;subst e1;rw[e];exact hy
    |false=>rw[hb] at hy;exact ha y d hy
  ·rw[if_neg hk] at hy;exact ha y d hy
theorem qbu: ∀(names:List (Str×NameKind)) (acc:List (Str×Addr)),env.cells.lookup x=some c->(acc.lookup x=some c\/(x,NameKind.free)∈names)->
  (clOf env names acc).lookup x=some c
 |[],acc,hc,h=>by
  rcases h with h|h
  ·exact h
  ·cases h
 |(n,k)::r,acc,hc,h=>by
  refine qbu r _ hc ?_;dsimp only;by_cases hk:(k==NameKind.free)=true
  ·rw[if_pos hk];by_cases hn:x=n
   ·subst hn;rw[hc];exact .inl (by simp[List.lookup_cons])
   ·have hb:(x==n)=false:=by simpa using hn
    cases e:env.cells.lookup n with
    |none=>
     rcases h with h|h
     ·exact .inl h
     ·rcases List.mem_cons.mp h with h|h
      ·cases h;exact absurd rfl hn
      ·exact .inr h
    |some a=>
     dsimp only
     rcases h with h|h
     ·exact .inl (by rw[List.lookup_cons,hb];exact h)
     ·rcases List.mem_cons.mp h with h|h
      ·cases h;exact absurd rfl hn
      ·exact .inr h
  ·rw[if_neg hk]
   rcases h with h|h
   ·exact .inl h
   ·rcases List.mem_cons.mp h with h|h
    ·cases h;exact absurd rfl hk
    ·exact .inr h
theorem qbs {env:Env} {x:Str} {k:NameKind}: ∀{names:List (Str×NameKind)},(∀y∈names,y.2≠.cell)->k= .cell\/k= .free->
  (names.map λ(n,k)=>if(k==NameKind.free&&env.scope.kind== .function&&env.kindOf n==some .cell) then(n,NameKind.cell) else(n,k)).lookup x=some k->names.lookup x=some .free
 |[],_,_,h=>by simp at h
 |(n,k')::r,hc,hk,h=>by
  have ih:=@qbs env x k r (λy hy=>hc y (Vl _ hy)) hk;rw[List.map_cons] at h;dsimp only at h;by_cases hf:(k'==NameKind.free&&env.scope.kind== .function&&env.kindOf n==some .cell)=true
  ·rw[if_pos hf] at h;have gW:k'= .free:=by have:=hf;simp only[Bool.and_eq_true,beq_iff_eq] at this;exact this.1.1
   subst gW;cases hx:x==n with
   |true=>simp[List.lookup_cons,hx]
   |false=>simp only[List.lookup_cons,hx] at h⊢;exact ih h
  ·rw[if_neg hf] at h;cases hx:x==n with
   |true=>
    simp only[List.lookup_cons,hx] at h⊢;cases h;have bK:=hc (n,k) Vk
    rcases hk with e|e
    ·exact absurd e bK
    ·rw[e]
   |false=>simp only[List.lookup_cons,hx] at h⊢;exact ih h
theorem qck {env:Env} {x:Str}: ∀{names:List (Str×NameKind)},names.lookup x=some .free->
  let m:=(names.map λ(n,k)=>if(k==NameKind.free&&env.scope.kind== .function&&env.kindOf n==some .cell) then(n,NameKind.cell) else(n,k)).lookup x
  m=some .cell\/m=some .free
 |[],h=>by simp at h
 |(n,k)::r,h=>by
  have ih:=@qck env x r;dsimp only at ih⊢;rw[List.map_cons];dsimp only;cases hx:x==n with
  |true=>
   simp only[List.lookup_cons,hx] at h;cases h;by_cases hf:(NameKind.free==NameKind.free&&env.scope.kind== .function&&env.kindOf n==some .cell)=true
   ·rw[if_pos hf];exact .inl (by simp[List.lookup_cons,hx])
   ·rw[if_neg hf];exact .inr (by simp[List.lookup_cons,hx])
  |false=>
   simp only[List.lookup_cons,hx] at h;by_cases hf:(k==NameKind.free&&env.scope.kind== .function&&env.kindOf n==some .cell)=true
   ·rw[if_pos hf];simp only[List.lookup_cons,hx];exact ih h
   ·rw[if_neg hf];simp only[List.lookup_cons,hx];exact ih h
noncomputable def qao(X:Cx)(scope:Scope)(own:List Str)(fr:List (Str×Nat))(fp:List Addr)(s3:Shared)(H3:Hp):Cx where
 prog:=X.prog
 w:=X.w
 K:=X.K
 mg:=X.mg
 base:=X.base
 A:=X.A
 N:=own++fr.map (·.1)
 s₀:=s3
 H₀:=H3
 env:=compEnvC scope (clOf X.env scope.names []) s3.heap.objs.size X.env
 outer:=X.stack
 stack:=X.stack
 ex:=fp
 calm:=X.calm
 fn:=λ_=>false
 pn:=[]
 xe:=λ_ _=>False
noncomputable def qbr(own:List Str)(fr:List (Str×Nat))(σ:St):St:=own.map (λ_=>none)++fr.map λp=>(σ[p.2]?).join
noncomputable def qhW(Y:Cx)(ifs:List Expr)(tt:TT):Prop:=
 ∀(pins:List (Addr×Obj)) (s:Shared) (σ:St) (H:Hp) (Q:Bool->Hp->Prop),Inv Y pins σ H s->tt σ H Q->
  wpAny (model Y.prog Y.w) Y.A (forIn ifs true λc r=>if r=true then do let ok <-isTrue c Y.env (eval c Y.env);pure (ForInStep.yield ok) else pure (ForInStep.yield r)) (TP Y pins σ Q) Y.xe s
noncomputable def qmz:TT:=λ_ H Q=>Q true H
theorem qkj:qhW Y [] qmz:=λ_ _ _ H _ I h=>wpAny_tests_nil ⟨H,I,h⟩
theorem qki(h:PT Y c t):qhW Y [c] t:=λpins s σ H Q I q=>wpAny_tests_one (h pins s σ H Q I q)
section
theorem qhN (hE: ∀e s',Ex e s'->notedBy (model prog w) A env (λe s'=>R (.error e) s') e s') (J:Nat->Shared->Prop) (turn: ∀n s,J n s->wpAny (model prog w) A (pyNext it) (λr s1=>match r with
   |none=>R (.ok .next) s1
   | some v=>wpAny (model prog w) A (letOwnedTupleGo tg it v) (λ_ s2=>wpAny (model prog w) A (assign tg env v) (λ_ s3=>
     wpAny (model prog w) A (forIn ifs true λc r=>if r=true then do let ok <-isTrue c env (eval c env);pure (ForInStep.yield ok) else pure (ForInStep.yield r)) (λok s4=>
      if ok=true then wpAny (model prog w) A (eval elt env) (λx s5=>wpAny (model prog w) A (call (.builtin "list.append") [acc,x]) (λ_ s6=> ∃m,m<n/\J m s6) Ex s5) Ex s4
      else ∃m,m<n/\J m s4) Ex s3) Ex s2) Ex s1) Ex s) (n:Nat) (h:J n s):codeAny (model prog w) A (.compLoop (.ListComp elt [⟨tg,iter,ifs,0⟩] scope pos) 0 it acc env) R s:=by
 refine codeAny_loop rfl J (λn s hJ=> ?_) n h;show wpAny _ A ((compTurn (.ListComp elt [⟨tg,iter,ifs,0⟩] scope pos) 0 it acc env).onRaise (λx=>do noteFrame x env;theTreesLotGoes x)) _ _ s;refine wpAny_noted ?_;rw[compTurn_list];have go: ∀{α:Type} {t:Sem α} {Q Q':α->Shared->Prop} {s:Shared},wpAny (model prog w) A t Q Ex s->(∀a s,Q a s->Q' a s)->wpAny (model prog w) A t Q' (notedBy (model prog w) A env λe s'=>R (.error e) s') s:=λh hQ=>Vc h hQ hE;refine Va (wpAny_standAt (Va (go (turn n s hJ) λr s1 h1=> ?_)));cases r with
 |none=>exact Vb h1
 |some v=>
  refine Va (go h1 λ_ s2 h2=>Va (go h2 λ_ s3 h3=>Va (go h3 λok s4 h4=> ?_)));cases ok with
  |false=>exact Vb ⟨rfl,h4⟩
  |true=>exact Va (Va (go h4 λx s5 h5=>Va (go h5 λ_ s6 h6=>Vb (Vb ⟨rfl,h6⟩))))
end
noncomputable def qty(J:It)(D:Addr)(g:TG)(tt:TT)(te:TE)(σ0:St)(H0:Hp)(Q:Addr->Hp->Prop):Prop:=
 ∃W:Nat->Nat->St->Hp->Prop,(∃m,W 0 m σ0 H0)/\∀i m cN H2,W i m cN H2->
  (J.stop i H2/\Q D H2)\/(J.go i H2/\∃(Ny:St->V->Hp->Prop) (Nn:St->Hp->Prop),
   (∀aJ y H6,Ny aJ y H6->∃ys,H6 D=some (.lst ys)/\ys.length<sizeLine/\∃m',m'<m/\W (i+1) m' aJ (upd H6 D (.lst (ys++[y]))))/\
   (∀aJ H5,Nn aJ H5->∃m',m'<m/\W (i+1) m' aJ H5)/\
   ∀x H3,J.yld i H2 x H3->g x cN H3 λaJ H4=>tt aJ H4 λb H5=>if b=true then te aJ H5 (Ny aJ) else Nn aJ H5)
noncomputable def qeK(wi:TI)(g:TG)(tt:TT)(te:TE)(own:List Str)(fr:List (Str×Nat))(σ:St)(H:Hp)(Q:Addr->Hp->Prop):Prop:=
 wi σ H λJ H1=> ∀D,H1 D=none->qty J D g tt te (qbr own fr σ) (upd H1 D (.lst [])) Q
section
theorem qlk {X:Cx} {elt:Expr} {tg:Expr} {iter:Expr} {ifs:List Expr} {scope:Scope} {pos:Pos} {own:List Str} {fr:List (Str×Nat)} {wi:TI} {g:TG} {tt:TT} {te:TE} {R:Value->Env->Result->Shared->Prop} {xe:List Addr->Shared->Hp->Value->Shared->Prop} {pins:List (Addr×Obj)} {σ:St} {H:Hp} {s:Shared} {Q:Addr->Hp->Prop} (hc:X.calm=true) (hi:PI X tg iter wi) (hk:scope.kind= .function) (aj: ∀y∈scope.names,y.2≠.cell) (ah: ∀y∈scope.names,y.2= .free->X.env.kindOf y.1=some .cell\/X.env.kindOf y.1=some .free) (aO: ∀p∈fr,X.N[p.2]? =some p.1/\scope.names.lookup p.1=some .free) (hb: ∀(fp:List Addr) (s3:Shared) (H3:Hp),PG ((qao X scope own fr fp s3 H3).wish (xe fp s3 H3)) tg g/\qhW ((qao X scope own fr fp s3 H3).wish (xe fp s3 H3)) ifs tt/\PE ((qao X scope own fr fp s3 H3).wish (xe fp s3 H3)) elt te) (I:Inv X pins σ H s) (h:qeK wi g tt te own fr σ H Q) (fin: ∀(D:Addr) (ce:Env) (H':Hp) (s':Shared) (m:Str->Option Value),Inv X pins σ H' s'->qgt X pins H' ce.locals->s'.heap.Ns ce.locals m->Q D H'->R (.ref D) ce (.ok .next) s') (il: ∀(D:Addr) (fp:List Addr) (s3:Shared) (H3:Hp) (e:Value) (s':Shared),Inv X pins σ H3 s3->(∀b∈fp,b<s3.heap.objs.size/\qgt X pins H3 b)->xe fp s3 H3 e s'->
   notedBy (model X.prog X.w) X.A (compEnvC scope (clOf X.env scope.names []) s3.heap.objs.size X.env) (λx s''=>R (.ref D) (compEnvC scope (clOf X.env scope.names []) s3.heap.objs.size X.env) (.error x) s'') e s'):
  wpAny (model X.prog X.w) X.A (eval iter X.env) (λx s1=>wpAny (model X.prog X.w) X.A (pyIter x) (λit s2=>wpAny (model X.prog X.w) X.A (newList []) (λacc s3=>
   wpAny (model X.prog X.w) X.A (newFunctionEnv scope X.env.globals (clOf X.env scope.names []) [] X.env.qual none .none (some X.env)) (λce s4=>
    codeAny (model X.prog X.w) X.A (.compStart (.ListComp elt [⟨tg,iter,ifs,0⟩] scope pos) 0 it acc { ce with scope:=relabel scope X.env }) (R acc { ce with scope:=relabel scope X.env }) s4) X.xe s3) X.xe s2) X.xe s1) X.xe s:=by
 have hG: ∀x∈scope.names,x.2= .free->∃c,X.env.cells.lookup x.1=some c:=λx hx e=>I.ok.has x.1 (ah x hx e);refine thn (hi pins s σ H _ I h) λxv s1 h1=>thn h1 λitv s2 h2=> ?_;obtain⟨it,fp,tn,J,H2,rfl,I2,T,st2,f2,h2⟩:=h2;refine wpAny_newObj_type (hd:=by size_fits) ?_;generalize hD:s2.heap.objs.size=D;have I3:Inv X pins σ (upd H2 D (.lst [])) { s2 with heap:=s2.heap.push { cls:=.type "list",dict:=none,data:=.seq ([]:List Value).toArray } }:=by rw[<-hD];exact I2.lnew (its:=[]) (ys:=[]) (t':=s2.toks) .nil (Nat.zero_le _)
 have nD:H2 D=none:=I2.hok.fresh (Nat.le_of_eq hD);obtain⟨W,⟨m0,w0⟩,turn⟩:=h2 D nD;have f3: ∀b∈fp,b<s2.heap.objs.size/\qgt X pins (upd H2 D (.lst [])) b:=λb hb=>by obtain⟨o,e,_⟩:=T.obj _ _ st2 b hb;have lt:=Vj e;exact⟨lt,by rw[qaa (by rw[<-hD];exact Vo lt)];exact(f2 b hb).1,(f2 b hb).2⟩
 have eA:tn 0 (s2.heap.push { cls:=.type "list",dict:=none,data:=.seq ([]:List Value).toArray }):=T.keep _ _ _ st2 λb _ o e=>Vh _ e;generalize hs3:({ s2 with heap:=s2.heap.push { cls:=.type "list",dict:=none,data:=.seq ([]:List Value).toArray } }:Shared)=s3 at I3⊢;have iV:s3.heap=s2.heap.push { cls:=.type "list",dict:=none,data:=.seq ([]:List Value).toArray }:=by rw[<-hs3]
 rw[<-iV] at eA;have iD:s3.heap.objs.size=s2.heap.objs.size+1:=by rw[iV,Heap.size_push]
 generalize fh:upd H2 D (.lst [])=H3 at I3 w0 f3;refine wpAny_newFunctionEnv aj (by intro y hy;simp at hy) (λh4 hn4 hs4=> ?_) hk;have bV: ∀b o,s3.heap.get? b=some o->h4.get? b=some o:=λb o e=>
  (hs4.2 b (Vo (Vj e))).trans (Vh _ e)
 generalize dA:({ s3 with heap:=h4,toks:=s3.toks+([]:List (Str×Value)).length }:Shared)=s4;have d6:s4.heap=h4:=by rw[<-dA]
 have aA: ∀x c,(clOf X.env scope.names []).lookup x=some c->X.env.cells.lookup x=some c:=λx c=>qeq _ _ (λ_ _ z=>by cases z);have Y0:Inv ((qao X scope own fr fp s3 H3).wish (xe fp s3 H3)) [] (qbr own fr σ) H3 s4:=by
  refine⟨⟨I3.ok.mod,hk,I3.ok.glob,I3.ok.blt,Vm _,λx y c h1 h2=>I3.ok.inj x y c (aA x c h1) (aA y c h2),λx hx=> ?_,λx c z=>absurd (show false=true from z) Vr,I3.ok.hd,I3.ok.frames,.inl rfl,λb hb=>⟨?_,λx c e=>(f3 b hb).2.2.2.2.2.1 x c (aA x c e)⟩,
   I3.bs,Vq I3.ok.bsz I3.sz,λb o e hb=> ?_,λb hb z=> ?_,I3.stack,I3.stkFree⟩,by rw[<-dA];rfl,by rw[<-dA];exact I3.bare,?_,⟨_,by rw[d6];exact hn4,λi x v e1 e2 e3=> ?_⟩,λx c e=> ?_,I3.hok.fresh (Vm _),λx c e=>I3.freeC x c (aA x c e),λp hp=>absurd (show p∈([]:List (Addr×Obj)) from hp) (by simp),?_,?_⟩
  ·have cx:(relabel scope X.env).names.lookup x=some .cell\/(relabel scope X.env).names.lookup x=some .free:=hx;have hf:scope.names.lookup x=some .free:=by
    rcases cx with z|z
    ·exact qbs aj (.inl rfl) z
    ·exact qbs aj (.inr rfl) z
   obtain⟨c,hc⟩:=hG (x,.free) (Vv hf) rfl;exact⟨c,qbu _ _ hc (.inr (Vv hf))⟩
  ·have:=(f3 b hb).1;exact Vo (Vn this (show s2.heap.objs.size<=s3.heap.objs.size by rw[iD];exact Nat.le_succ _))
  ·rcases(f3 b hb).2.2.2.2.1 with z|z
   ·exact I3.ok.noex b o e z
   ·exact absurd (Vn (Vj (I3.ok.bs b o e).1) z) (Nat.lt_irrefl _)
  ·rcases List.mem_cons.mp (I3.stkSub b z) with q|q
   ·exact(f3 b hb).2.2.1 q
   ·exact(f3 b hb).2.2.2.1 q
  ·exact Un.kept (by rw[d6];exact bV)
  ·
   have a9:own.length<=i:=by
    by_cases q:own.length<=i
    ·exact q
    ·exfalso;have cn:(own.map (λ_=>(none:Option V))++fr.map λp=>(σ[p.2]?).join)[i]? =some (some v):=e2;rw[List.getElem?_append_left (by simpa using q),List.getElem?_map] at cn;cases q2:own[i]? with
     |none|some z=>rw[q2] at cn;cases cn
   have cn:(own.map (λ_=>(none:Option V))++fr.map λp=>(σ[p.2]?).join)[i]? =some (some v):=e2;rw[List.getElem?_append_right (by simpa using a9),List.getElem?_map,List.length_map] at cn;have iq:(own++fr.map (·.1))[i]? =some x:=e1;rw[List.getElem?_append_right a9,List.getElem?_map] at iq;cases q2:fr[i - own.length]? with
   |none=>rw[q2] at cn;cases cn
   |some p=>
    rw[q2] at iq cn;obtain rfl:p.1=x:=Option.some.inj iq;have e4:(σ[p.2]?).join=some v:=Option.some.inj cn;have e5:σ[p.2]? =some (some v):=by
     cases q3:σ[p.2]? with
     |none=>rw[q3] at e4;cases e4
     |some z=>rw[q3] at e4;exact congrArg some e4
    obtain⟨g1,g2⟩:=aO p (Vu q2);have kx:=ah (p.1,.free) (Vv g2) rfl;obtain⟨mX,hnX,hlX⟩:=I3.loc;obtain⟨u,ru,lu⟩:=hlX p.2 p.1 v g1 e5 (kx.elim (λz=>.inr (.inl z)) λz=>.inr (.inr z));refine⟨u,ru,.inr ⟨qck g2,?_⟩⟩
    rcases lu with⟨z,_⟩|⟨_,c,e6,e7⟩
    ·rcases kx with kx|kx
     ·rw[kx] at z;cases z
     ·rw[kx] at z;cases z
    ·obtain⟨oc,d5,hd⟩:=e7;exact⟨c,qbu _ _ e6 (.inr (Vv g2)),oc,by rw[d6];exact bV _ _ d5,hd⟩
  ·obtain⟨v,oc,d5,hd⟩:=I3.cell x c (aA x c e);exact⟨v,oc,by rw[d6];exact bV _ _ d5,hd⟩
  ·exact I3.hok.kept (by rw[d6];exact bV)
  ·show(own.map (λ_=>(none:Option V))++fr.map λp=>(σ[p.2]?).join).length=(own++fr.map (·.1)).length;simp
 have fY: ∀{H':Hp},(∀b∈fp,H' b=none)->∀b∈fp,qgt ((qao X scope own fr fp s3 H3).wish (xe fp s3 H3)) [] H' b:=λ{H'} hn b hb=>
  ⟨hn b hb,(Y0.ok.exf b hb).1,Y0.ok.exfs b hb,.inl hb,(Y0.ok.exf b hb).2,λp hp=>absurd (show p∈([]:List (Addr×Obj)) from hp) (by simp)⟩
 have iE:tn 0 s4.heap:=T.keep _ _ _ eA (by rw[d6];exactλb _ o e=>bV b o e);have iZ:((qao X scope own fr fp s3 H3).wish (xe fp s3 H3)).calm=true:=hc;obtain⟨hg,ht,he⟩:=hb fp s3 H3;have loop:codeAny (model X.prog X.w) X.A (.compLoop (.ListComp elt [⟨tg,iter,ifs,0⟩] scope pos) 0 (.ref it) (.ref D) (compEnvC scope (clOf X.env scope.names []) s3.heap.objs.size X.env)) (R (.ref D) (compEnvC scope (clOf X.env scope.names []) s3.heap.objs.size X.env)) s4:=by
  refine qhN (Ex:=xe fp s3 H3) (λe s' q=>il D fp s3 H3 e s' I3 (λb hb=>⟨Vn (f3 b hb).1 (by rw[iD];exact Nat.le_succ _),(f3 b hb).2⟩) q) (λn s'=> ∃i af H',Inv ((qao X scope own fr fp s3 H3).wish (xe fp s3 H3)) [] af H' s'/\tn i s'.heap/\(∀b∈fp,H' b=none)/\W i n af H') ?_ m0 ⟨0,_,_,Y0,iE,λb hb=>(f3 b hb).2.1,w0⟩;rintro n s5 ⟨i,cM,H5,I5,dX,fW,w5⟩
  rcases turn i n cM H5 w5 with⟨stop,q⟩|⟨go,Ny,Nn,hNy,hNn,step⟩
  ·refine thn (T.done ((qao X scope own fr fp s3 H3).wish (xe fp s3 H3)) rfl rfl rfl iZ i [] s5 cM H5 _ I5 (fY fW) dX stop) λr s6 eR=> ?_;obtain⟨hr,I6⟩:=eR;subst hr;have IX:Inv X pins σ H5 s6:=I3.call' (ch:=fp) I6.os I6.base I6.hok I6.bare λb hb=>⟨(f3 b hb).2.2.2.2.1,(f3 b hb).2.2.1,(f3 b hb).2.2.2.2.2.1,(f3 b hb).2.2.2.2.2.2⟩
   obtain⟨m6,hn6,_⟩:=I6.loc;exact fin D _ H5 s6 m6 IX (I3.fpOk (Vm _) I6.free) hn6 q
  ·refine thn (T.item ((qao X scope own fr fp s3 H3).wish (xe fp s3 H3)) rfl rfl rfl iZ i [] s5 cM H5 _ I5 (fY fW) dX go) λr s6 eQ=> ?_;obtain⟨u,hr,h6⟩:=eQ;subst hr;refine thn h6 λ_ s7 eP=> ?_;obtain⟨x,H7,I7,r7,y7,st7,fr7⟩:=eP;have I7':=I7.pinned (fY fr7) (T.obj _ _ st7);refine thn (hg _ s7 cM H7 x u _ I7' r7 (step x H7 y7)) λ_ s8 eO=> ?_;obtain⟨bQ,H8,I8,q8⟩:=eO;refine thn (ht _ s8 bQ H8 _ I8 q8) λb s9 eN=> ?_;obtain⟨H9,I9,q9⟩:=eN;have again: ∀{s':Shared} {H':Hp} {m':Nat},Inv ((qao X scope own fr fp s3 H3).wish (xe fp s3 H3)) ([]++qeW fp s7.heap) bQ H' s'->m'<n->W (i+1) m' bQ H'->∃m,m<n/\∃i af H',Inv ((qao X scope own fr fp s3 H3).wish (xe fp s3 H3)) [] af H' s'/\tn i s'.heap/\(∀b∈fp,H' b=none)/\W i m af H':=λ{s' H' m'} I' hm w'=>by refine⟨m',hm,i+1,bQ,H',I'.unpinned,T.keep _ _ _ st7 λb hb o e=>(I'.pin (b,o) (Vt _ (Vt _ (qbI hb e)))).1,λb hb=> ?_,w'⟩;obtain⟨o,e,d⟩:=T.obj _ _ st7 b hb;exact(I'.pin (b,o) (Vt _ (Vt _ (qbI hb e)))).2.1
   cases b with
   |false=>obtain⟨m',hm,w'⟩: ∃m',m'<n/\W (i+1) m' bQ H9:=hNn bQ H9 (by simpa using q9);show ∃m,_;exact again I9 hm w'
   |true=>
    have q9':te bQ H9 (Ny bQ):=by simpa using q9
    show wpAny _ _ _ _ _ _;refine thn (he _ s9 bQ H9 _ I9 q9') λxv s10 eM=> ?_;obtain⟨y,jq,I10,r10,q10⟩:=eM;obtain⟨ys,hys,hlen,m',hm,w'⟩:=hNy bQ y jq q10;refine thn (qe3 _ s10 bQ jq (.ref D) [y] (.ref D) [xv] (λ_ H'=> ∃m',m'<n/\W (i+1) m' bQ H') I10 rfl (.cons r10 .nil) ⟨D,ys,y,rfl,rfl,hys,hlen,m',hm,w'⟩) λ_ s11 eL=> ?_;obtain⟨_,H11,I11,_,m2,eU,w2⟩:=eL;exact again I11 eU w2
 refine codeAny_compStart_list ?_ ?_
 ·exact loop
 ·exact T.self X.A 0 s4 _ _ iE loop
theorem comp_core {X:Cx} {elt:Expr} {tg:Expr} {iter:Expr} {ifs:List Expr} {scope:Scope} {pos:Pos} {gd:Pos} {own:List Str} {fr:List (Str×Nat)} {wi:TI} {g:TG} {tt:TT} {te:TE} {use:Option (Value->Sem Unit)} {Qf:Value->Shared->Prop} {pins:List (Addr×Obj)} {σ:St} {H:Hp} {s:Shared} {Q:Addr->Hp->Prop} (hc:X.calm=true) (hi:PI X tg iter wi) (hk:scope.kind= .function) (aj: ∀y∈scope.names,y.2≠.cell) (ay: ∀y∈scope.names,y.2= .local->scope.names.lookup y.1=some .local) (ah: ∀y∈scope.names,y.2= .free->X.env.kindOf y.1=some .cell\/X.env.kindOf y.1=some .free) (aO: ∀p∈fr,X.N[p.2]? =some p.1/\scope.names.lookup p.1=some .free) (hb: ∀(fp:List Addr) (s3:Shared) (H3:Hp),PG (qao X scope own fr fp s3 H3) tg g/\qhW (qao X scope own fr fp s3 H3) ifs tt/\PE (qao X scope own fr fp s3 H3) elt te) (hs: ∀x,foldedSetIterable iter X.env x=pure x) (I:Inv X pins σ H s) (h:qeK wi g tt te own fr σ H Q) (fin: ∀(D C:Addr) (H':Hp) (s':Shared) (m:Str->Option Value),Inv X pins σ H' s'->qgt X pins H' C->s'.heap.Ns C m->Q D H'->compPost (model X.prog X.w) X.A X.xe use Qf (.ref D) C (.ok .next) s'):
  wpAny (model X.prog X.w) X.A (comprehension (.ListComp elt [⟨tg,iter,ifs,0⟩] scope pos) scope X.env gd (newList []) false (eval iter X.env) use) Qf X.xe s:=
 wpAny_comprehension_free (cl:=clOf X.env scope.names []) rfl hs (qdL λx hx e=>I.ok.has x.1 (ah x hx e)) hk ay
  (qlk (R:=λacc ce=>compPost (model X.prog X.w) X.A X.xe use Qf acc ce.locals) (xe:=λ_ _ _ _ _=>False) hc hi hk aj ah aO hb I h (λD ce=>fin D ce.locals) λ_ _ _ _ _ _ _ _ z=>z.elim)
theorem qm0 (hc:X.calm=true) (hi:PI X tg iter wi) (hk:scope.kind= .function) (aj: ∀y∈scope.names,y.2≠.cell) (ay: ∀y∈scope.names,y.2= .local->scope.names.lookup y.1=some .local) (ah: ∀y∈scope.names,y.2= .free->X.env.kindOf y.1=some .cell\/X.env.kindOf y.1=some .free) (aO: ∀p∈fr,X.N[p.2]? =some p.1/\scope.names.lookup p.1=some .free) (hb: ∀(fp:List Addr) (s3:Shared) (H3:Hp),PG (qao X scope own fr fp s3 H3) tg g/\qhW (qao X scope own fr fp s3 H3) ifs tt/\PE (qao X scope own fr fp s3 H3) elt te) (hs: ∀x,foldedSetIterable iter X.env x=pure x:=by intro _; rfl):
  PE X (.ListComp elt [⟨tg,iter,ifs,0⟩] scope pos) (λσ H Q=>qeK wi g tt te own fr σ H λD H'=>Q (.ref D) H'):=by intro pins s σ H Q I h;rw[eval_ListComp];refine comp_core (use:=none) hc hi hk aj ay ah aO hb hs I h λD C H' s' m I' f' hn q=> ?_;obtain⟨f0,f1,f2,f3,f4,f5⟩:=f';exact⟨m,hn,λh' cV=>⟨.ref D,H',I'.turned (t':=s'.toks) (λb o hb e=>(cV.2 b hb).trans e) f0 f1 f3 f4 f5,rfl,q⟩⟩
theorem ps_setcomp (hc:X.calm=true) (hi:PI X tg iter wi) (hk:scope.kind= .function) (aj: ∀y∈scope.names,y.2≠.cell) (ay: ∀y∈scope.names,y.2= .local->scope.names.lookup y.1=some .local) (ah: ∀y∈scope.names,y.2= .free->X.env.kindOf y.1=some .cell\/X.env.kindOf y.1=some .free) (aO: ∀p∈fr,X.N[p.2]? =some p.1/\scope.names.lookup p.1=some .free) (hb: ∀(fp:List Addr) (s3:Shared) (H3:Hp),PG (qao X scope own fr fp s3 H3) tg g/\qhW (qao X scope own fr fp s3 H3) ifs tt/\PE (qao X scope own fr fp s3 H3) elt te) (hN:X.N.Nodup) (gY:X.N[i]? =some y) (hy:X.env.scope.names.lookup y=some .local) (bG:swapsWith (.ListComp elt [⟨tg,iter,ifs,0⟩] scope pos) (some (.Name y py)) spos.line X.env=pure true) (hs: ∀x,foldedSetIterable iter X.env x=pure x:=by intro _; rfl):
  PS X (.Assign [.Name y py] (.ListComp elt [⟨tg,iter,ifs,0⟩] scope pos) spos) (λD σ H=>qeK wi g tt te own fr σ H λd H'=>D.nx (σ.set i (some (.ref d))) H'):=by
 intro pins s σ H D I h;rw[exec_Assign_Name_used _ _ _ _ bG];refine Va (wpAny_standAt (Va ?_));show wpAny _ _ (do let _ <-comprehension (.ListComp elt [⟨tg,iter,ifs,0⟩] scope pos) scope X.env _ (newList []) false (eval iter X.env) (some (assign (.Name y py) X.env))) _ _ s;refine Va (thn (comp_core (use:=some (assign (.Name y py) X.env)) (Qf:=λ_ s'=>SP X pins D .next s') hc hi hk aj ay ah aO hb hs I h λd C H' s' m I' f' hn q=> ?_) λ_ s' hq=>Vb (Vb hq));obtain⟨f0,f1,f2,f3,f4,f5⟩:=id f';show wpAny _ _ (assign (.Name y py) X.env (.ref d)) _ _ s';refine wpAny_assign_Name (qeL I' hN gY (.inl hy) (v:=.ref d) rfl (λs'' I'' ⟨a,sb,ha⟩=> ?_) (.inr hy));have bK:C≠a:=by
  rcases ha with rfl|ha
  ·exact f1
  ·exactλz=>f4 y a ha z.symm
 refine⟨m,hn.sameBut sb bK,λh' cV=>⟨_,H',I''.turned (t':=s''.toks) (λb o hb e=>(cV.2 b hb).trans e) f0 f1 f3 f4 f5,q⟩⟩
end
end L2
namespace St
open PySem.W PyProof.Rows
noncomputable def qdm{α:Type}(N:Nat)(ask:Nat->Nat->Bool):KasT α->(α->Prop)->Prop
 |.ret a,Q=>Q a
 |.ask i j k,Q=>i<N/\j<N/\qdm N ask (k (ask i j)) Q
theorem qa9: ∀{t:KasT α},qdm N ask t (λa=>qdm N ask (f a) Q)->qdm N ask (t.bind f) Q
 |.ret _,h=>h
 |.ask _ _ _,⟨h1,h2,h⟩=>⟨h1,h2,qa9 h⟩
theorem qaH{α:Type}{N:Nat}{ask:Nat->Nat->Bool}{Q Q':α->Prop}(hq: ∀a,Q a->Q' a): ∀{t:KasT α},qdm N ask t Q->qdm N ask t Q'
 |.ret _,h=>hq _ h
 |.ask _ _ _,⟨h1,h2,h⟩=>⟨h1,h2,qaH hq h⟩
noncomputable def g(p:Array Nat)(i:Nat):Nat:=p.getD i 0
theorem qp8(h:p[i]? =q[j]?):g p i=g q j:=by unfold g;rw[Array.getD_eq_getD_getElem?,Array.getD_eq_getD_getElem?,h]
theorem qkQ(hj:j<=p.size)(t:Nat):g (kas_rev p i j) t=if i<=t/\t<j then g p (i+j - 1 - t) else g p t:=by
 have e:=getElem?_mirror_all (i:=i) hj t;by_cases h1:i<=t/\t<j
 ·rw[if_pos h1] at e⊢;exact qp8 e
 ·rw[if_neg h1] at e⊢;exact qp8 e
theorem qsP(hk:k<p.size)(hl:l<=k)(t:Nat):g (bubble p k (k - l)) t=if t=l then g p k else if l<t/\t<=k then g p (t - 1) else g p t:=by
 have e:=getElem?_bubble hk (k - l) (Nat.sub_le _ _) t;rw[show k - (k - l)=l by lia] at e;by_cases h1:t=l
 ·rw[if_pos h1] at e⊢;exact qp8 e
 ·rw[if_neg h1] at e⊢;by_cases h2:l<t/\t<=k
  ·rw[if_pos h2] at e⊢;exact qp8 e
  ·rw[if_neg h2] at e⊢;exact qp8 e
theorem qd0(p:Array Nat)(i j:Nat):(kas_rev p i j).size=p.size:=mirror_size _ _ _ _
section
variable (N:Nat)(k:Nat->Int)
noncomputable def L(a b:Nat):Prop:=k a<k b\/(k a=k b/\a<b)
structure Pre(n:Nat)(p:Array Nat):Prop where
 sz:p.size=N
 lo: ∀i,i<n->g p i<n
 hi: ∀i,n<=i->i<N->g p i=i
noncomputable def Srt(p:Array Nat)(n:Nat):Prop:= ∀i j,i<j->j<n->L k (g p i) (g p j)
noncomputable def Dsc(p:Array Nat)(n:Nat):Prop:= ∀i j,i<j->j<n->L k (g p j) (g p i)
structure qop(p:Array Nat)(n q:Nat):Prop where
 pre:Pre N n p
 q1:q+1<=n
 a: ∀i j,i<j->j<n - (q+1)->L k (g p j) (g p i)
 b: ∀i j,i<n - (q+1)->n - (q+1)<=j->j<n->k (g p j)<k (g p i)
 c: ∀i j,n - (q+1)<=i->i<j->j<n->k (g p i)=k (g p j)/\g p i<g p j
noncomputable def qb3:Nat->Nat->Bool:=λi j=>decide (k i<k j)
end
section
theorem Pre.lt(h:Pre N n p)(hn:n<=N)(hi:i<N):g p i<N:=by
 by_cases q:i<n
 ·exact Vn (h.lo i q) hn
 ·rw[h.hi i (by lia) hi];exact hi
theorem L.le(h:L k a b):k a<=k b:=by
 rcases h with h|h
 ·lia
 ·lia
theorem Pre.more(h:Pre N n p)(hn:n<N):Pre N (n+1) p:=
 ⟨h.sz,λi hi=>by
  by_cases q:i<n
  ·exact Nat.lt_succ_of_lt (h.lo i q)
  ·have e:i=n:=by lia
   subst e;rw[h.hi i (Nat.le_refl _) hn];lia,λi h1 h2=>h.hi i (by lia) h2⟩
theorem qjM {N:Nat} {k:Nat->Int} {p:Array Nat}: ∀(f n:Nat),1<=n->n+f<=N->Pre N n p->Srt k p n->
  qdm N (qb3 k) (kas_asc p f n) λm=>n<=m/\m<=n+f/\Pre N m p/\Srt k p m/\(m=n+f\/k (g p m)<k (g p (m - 1)))
 |0,n,h1,hf,hp,hs=>⟨Vm _,Vm _,hp,hs,.inl rfl⟩
 |f+1,n,h1,hf,hp,hs=>by
  refine⟨hp.lt (by lia) (by lia),hp.lt (by lia) (by lia),?_⟩;show qdm N (qb3 k) (if qb3 k (g p n) (g p (n - 1))=true then .ret n else kas_asc p f (n+1)) _;by_cases hc:k (g p n)<k (g p (n - 1))
  ·rw[if_pos (by simpa [qb3] using hc)];exact⟨Vm _,by lia,hp,hs,.inr hc⟩
  ·rw[if_neg (by simpa [qb3] using hc)];have cV:Srt k p (n+1):=λi j aL hj=>by
    by_cases q:j<n
    ·exact hs i j aL q
    ·have e:j=n:=by lia
     subst e;have en:=hp.hi j (Vm _) (by lia);have lt:=hp.lo i aL;have le:k (g p i)<=k (g p (j - 1)):=by
      by_cases q2:i=j - 1
      ·rw[q2];exact Int.le_refl _
      ·exact(hs i (j - 1) (by lia) (by lia)).le
     unfold L;rw[en] at hc⊢;lia
   refine qaH (λm h=> ?_) (qjM f (n+1) (by lia) (by lia) (hp.more (by lia)) cV);obtain⟨a,b,c,d,e⟩:=h;exact⟨by lia,by lia,c,d,e.elim (λz=>.inl (by lia)) .inr⟩
noncomputable def fin(p:Array Nat)(n q:Nat):Array Nat:=if q>0 then kas_rev p (n - (q+1)) n else p
theorem qop.fin(h:qop N k p n q)(hn:n<=N):Pre N n (fin p n q)/\Dsc k (fin p n q) n:=by
 unfold St.fin;by_cases hq:q>0
 ·rw[if_pos hq];have gr:=qkQ (p:=p) (i:=n - (q+1)) (j:=n) (by rw[h.pre.sz];exact hn);refine⟨⟨by rw[qd0];exact h.pre.sz,λi hi=> ?_,λi h1 h2=> ?_⟩,λi j aL hj=> ?_⟩
  ·rw[gr];split
   ·exact h.pre.lo _ (by lia)
   ·exact h.pre.lo _ hi
  ·rw[gr,if_neg (by lia)];exact h.pre.hi i h1 h2
  ·rw[gr,gr];have iR:=h.q1;by_cases q1:n - (q+1)<=j
   ·rw[if_pos (show n - (q+1)<=j/\j<n from⟨q1,hj⟩)];by_cases q2:n - (q+1)<=i
    ·rw[if_pos (show n - (q+1)<=i/\i<n from⟨q2,by lia⟩)];have e:=h.c (n - (q+1)+n - 1 - j) (n - (q+1)+n - 1 - i) (by lia) (by lia) (by lia);exact .inr e
    ·rw[if_neg (by lia)];exact .inl (h.b i _ (by lia) (by lia) (by lia))
   ·rw[if_neg (by lia),if_neg (by lia)];exact h.a i j aL (by lia)
 ·rw[if_neg hq];have e:q=0:=by lia
  subst e;refine⟨h.pre,λi j aL hj=> ?_⟩;have iR:=h.q1;by_cases q1:j<n - (0+1)
  ·exact h.a i j aL q1
  ·exact .inl (h.b i j (by lia) (by lia) hj)
theorem qgh {N:Nat} {k:Nat->Int}: ∀(f:Nat) (p:Array Nat) (n q:Nat),n+f<=N->qop N k p n q->
  qdm N (qb3 k) (kas_desc f p n q) λr=>n<=r.2.1/\r.2.1<=n+f/\qop N k r.1 r.2.1 r.2.2
 |0,p,n,q,hf,h=>⟨Vm _,Vm _,h⟩
 |f+1,p,n,q,hf,h=>by
  have iR:=h.q1;have lt: ∀{i},i<N->g p i<N:=λhi=>h.pre.lt (by lia) hi;refine⟨lt (by lia),lt (by lia),?_⟩;have en:=h.pre.hi n (Vm _) (by lia)
  show qdm N (qb3 k) (if qb3 k (g p n) (g p (n - 1))=true then(if q>0 then kas_desc f (kas_rev p (n - (q+1)) n) (n+1) 0 else kas_desc f p (n+1) 0)
   else .ask (g p (n - 1)) (g p n) λd=>if d=true then .ret (p,n,q) else kas_desc f p (n+1) (q+1)) _
  have kle: ∀i,i<n->k (g p (n - 1))<=k (g p i):=λi hi=>by
   by_cases q1:i<n - (q+1)
   ·exact Int.le_of_lt (h.b i (n - 1) q1 (by lia) (by lia))
   ·by_cases q2:i=n - 1
    ·rw[q2];exact Int.le_refl _
    ·exact Int.le_of_eq (h.c i (n - 1) (by lia) (by lia) (by lia)).1.symm
  by_cases hc:k (g p n)<k (g p (n - 1))
  ·rw[if_pos (by simpa [qb3] using hc)];have key:qop N k (fin p n q) (n+1) 0:=by
    obtain⟨fp,fd⟩:=h.fin (by lia);have e2:=fp.hi n (Vm _) (by lia);refine⟨fp.more (by lia),by lia,λi j aL hj=>fd i j aL (by lia),λi j hi h1 h2=> ?_,λi j h1 h2 h3=>by lia⟩;have ej:j=n:=by lia
    subst ej;rw[e2];rw[en] at hc;refine Int.lt_of_lt_of_le hc ?_;have: ∃i',i'<j/\g (fin p j q) i=g p i':=by
     unfold St.fin;by_cases hq:q>0
     ·rw[if_pos hq,qkQ (by rw[h.pre.sz];lia)];split
      ·exact⟨_,by lia,rfl⟩
      ·exact⟨i,by lia,rfl⟩
     ·rw[if_neg hq];exact⟨i,by lia,rfl⟩
    obtain⟨i',a9,e3⟩:=this;rw[e3];exact kle i' a9
   have e:(if q>0 then kas_desc f (kas_rev p (n - (q+1)) n) (n+1) 0 else kas_desc f p (n+1) 0)=kas_desc f (fin p n q) (n+1) 0:=by
    unfold St.fin
    split<;>rfl
   rw[e];refine qaH (λr hr=>⟨by lia,by lia,hr.2.2⟩) (qgh f (fin p n q) (n+1) 0 (by lia) key)
  ·rw[if_neg (by simpa [qb3] using hc)];refine⟨lt (by lia),lt (by lia),?_⟩;show qdm N (qb3 k) (if qb3 k (g p (n - 1)) (g p n)=true then .ret (p,n,q) else kas_desc f p (n+1) (q+1)) _;by_cases hd:k (g p (n - 1))<k (g p n)
   ·rw[if_pos (by simpa [qb3] using hd)];exact⟨Vm _,Nat.le_add_right _ _,h⟩
   ·rw[if_neg (by simpa [qb3] using hd)];have ek:k (g p n)=k (g p (n - 1)):=by lia
    have key:qop N k p (n+1) (q+1):=by
     refine⟨h.pre.more (by lia),by lia,λi j aL hj=>h.a i j aL (by lia),λi j hi h1 h2=> ?_,λi j h1 h2 h3=> ?_⟩
     ·by_cases e:j=n
      ·subst e;rw[ek];exact h.b i (j - 1) (by lia) (by lia) (by lia)
      ·exact h.b i j (by lia) (by lia) (by lia)
     ·by_cases e:j=n
      ·subst e;refine⟨?_,?_⟩
       ·rw[ek];by_cases e2:i=j - 1
        ·rw[e2]
        ·exact(h.c i (j - 1) (by lia) (by lia) (by lia)).1
       ·rw[en];exact h.pre.lo i h2
      ·exact h.c i j (by lia) h2 (by lia)
    exact qaH (λr hr=>⟨by lia,by lia,hr.2.2⟩) (qgh f p (n+1) (q+1) (by lia) key)
noncomputable def Out(N:Nat)(k:Nat->Int)(r:Nat×Array Nat):Prop:=1<=r.1/\r.1<=N/\Pre N r.1 r.2/\Srt k r.2 r.1
theorem qmr{N:Nat}{k:Nat->Int}{p:Array Nat}{n:Nat}(h1:1<=n)(hn:n<=N)(hp:Pre N n p)(hd:Dsc k p n):qdm N (qb3 k) (kas_tail3 n N p) (Out N k):=by
 have gr:=qkQ (p:=p) (i:=0) (j:=n) (by rw[hp.sz];exact hn);refine qa9 (qaH (λm h=> ?_) (qjM (p:=kas_rev p 0 n) (N - n) n h1 (by lia) ⟨by rw[qd0];exact hp.sz,λi hi=> ?_,λi h2 h3=> ?_⟩ λi j aL hj=> ?_))
 ·exact⟨by lia,by lia,h.2.2.1,h.2.2.2.1⟩
 ·rw[gr,if_pos ⟨Nat.zero_le _,hi⟩];exact hp.lo _ (by lia)
 ·rw[gr,if_neg (by lia)];exact hp.hi i h2 h3
 ·rw[gr,gr,if_pos ⟨Nat.zero_le _,by lia⟩,if_pos ⟨Nat.zero_le _,hj⟩];exact hd _ _ (by lia) (by lia)
theorem qc0{N:Nat}{k:Nat->Int}{p:Array Nat}{n:Nat}(hn:n+1<=N)(h:qop N k p (n+1) 0):qdm N (qb3 k) (kas_descPart n N p) (Out N k):=by
 refine qa9 (qaH (λr hr=> ?_) (qgh (N - (n+1)) p (n+1) 0 (by lia) h));obtain⟨h1,h2,h3⟩:=hr;obtain⟨f1,f2⟩:=h3.fin (by lia);have e:(if r.2.2>0 then kas_tail3 r.2.1 N (kas_rev r.1 (r.2.1 - (r.2.2+1)) r.2.1) else kas_tail3 r.2.1 N r.1)=kas_tail3 r.2.1 N (fin r.1 r.2.1 r.2.2):=by
  unfold St.fin
  split<;>rfl
 show qdm N (qb3 k) (if r.2.2>0 then kas_tail3 r.2.1 N (kas_rev r.1 (r.2.1 - (r.2.2+1)) r.2.1) else kas_tail3 r.2.1 N r.1) _;rw[e];exact qmr (by lia) (by lia) f1 f2
theorem qlj{N:Nat}{k:Nat->Int}{p:Array Nat}(hN:1<=N)(hp:Pre N 1 p):qdm N (qb3 k) (kas_count N p) (Out N k):=by
 refine qa9 (qaH (λn h=> ?_) (qjM (p:=p) (N - 1) 1 (Vm _) (by lia) hp λi j h1 h2=>by lia));obtain⟨h1,h2,h3,h4,h5⟩:=h;by_cases e:n=N
 ·rw[if_pos (by simpa using e)];exact⟨h1,by lia,h3,h4⟩
 ·rw[if_neg (by simpa using e)];have b9:k (g p n)<k (g p (n - 1)):=h5.resolve_left (by lia);by_cases hg:n>1
  ·rw[if_pos hg];refine⟨h3.lt (by lia) (by lia),h3.lt (by lia) (by lia),?_⟩;show qdm N (qb3 k) (if qb3 k (g p 0) (g p (n - 1))=true then .ret (n,p) else kas_descPart n N (kas_rev p 0 n)) _;by_cases hc:k (g p 0)<k (g p (n - 1))
   ·rw[if_pos (by simpa [qb3] using hc)];exact⟨h1,by lia,h3,h4⟩
   ·rw[if_neg (by simpa [qb3] using hc)];have gr:=qkQ (p:=p) (i:=0) (j:=n) (by rw[h3.sz];lia);have gn: ∀i,i<n->k (g p i)=k (g p (n - 1)):=λi hi=>by
     have a1:k (g p 0)<=k (g p i):=by
      by_cases q:i=0
      ·rw[q];exact Int.le_refl _
      ·exact(h4 0 i (by lia) hi).le
     have a2:k (g p i)<=k (g p (n - 1)):=by
      by_cases q:i=n - 1
      ·rw[q];exact Int.le_refl _
      ·exact(h4 i (n - 1) (by lia) (by lia)).le
     lia
    refine qc0 (by lia) ⟨Pre.more ⟨by rw[qd0];exact h3.sz,λi hi=> ?_,λi q1 q2=> ?_⟩ (by lia),by lia,λi j aL hj=> ?_,λi j hi q1 q2=> ?_,λi j q1 q2 q3=>by lia⟩
    ·rw[gr,if_pos ⟨Nat.zero_le _,hi⟩];exact h3.lo _ (by lia)
    ·rw[gr,if_neg (by lia)];exact h3.hi i q1 q2
    ·rw[gr,gr,if_pos ⟨Nat.zero_le _,by lia⟩,if_pos ⟨Nat.zero_le _,by lia⟩];exact h4 _ _ (by lia) (by lia)
    ·have ej:j=n:=by lia
     subst ej;have a9:i<j:=by simpa using hi
     have e1:g (kas_rev p 0 j) j=g p j:=by rw[gr,if_neg (by lia)]
     have e2:g (kas_rev p 0 j) i=g p (0+j - 1 - i):=by rw[gr,if_pos ⟨Nat.zero_le _,a9⟩]
     rw[e1,e2,gn (0+j - 1 - i) (by lia)];exact b9
  ·rw[if_neg hg];have e1:n=1:=by lia
   subst e1;refine qc0 (by lia) ⟨h3.more (by lia),by lia,λi j aL hj=>by lia,λi j hi q1 q2=> ?_,λi j q1 q2 q3=>by lia⟩;have ei:i=0:=by lia
   have ej:j=1:=by lia
   subst ei ej;exact b9
theorem qd6 (hn:n<N) (hp:Pre N n p) (hs:Srt k p n): ∀(f l r:Nat),l<=r->r<=n->r - l<=f->(∀i,i<l->k (g p i)<=k (g p n))->(∀i,r<=i->i<n->k (g p n)<k (g p i))->
  qdm N (qb3 k) (kas_place p n f l r) λm=>m<=n/\(∀i,i<m->k (g p i)<=k (g p n))/\∀i,m<=i->i<n->k (g p n)<k (g p i)
 |0,l,r,h1,h2,h3,hl,hr=>⟨by lia,hl,λi q1 q2=>hr i (by lia) q2⟩
 |f+1,l,r,h1,h2,h3,hl,hr=>by
  unfold kas_place;by_cases dH:l≥r
  ·rw[if_pos dH];exact⟨by lia,hl,λi q1 q2=>hr i (by lia) q2⟩
  ·rw[if_neg dH];refine⟨hp.lt (by lia) hn,hp.lt (by lia) (by lia),?_⟩;show qdm N (qb3 k) (if qb3 k (g p n) (g p ((l+r) / 2))=true then kas_place p n f l ((l+r) / 2) else kas_place p n f ((l+r) / 2+1) r) _;have srt: ∀i j,i<=j->j<n->k (g p i)<=k (g p j):=λi j aL hj=>by
    by_cases q:i=j
    ·rw[q];exact Int.le_refl _
    ·exact(hs i j (by lia) hj).le
   by_cases hc:k (g p n)<k (g p ((l+r) / 2))
   ·rw[if_pos (by simpa [qb3] using hc)];exact qd6 hn hp hs f l _ (by lia) (by lia) (by lia) hl λi q1 q2=>Int.lt_of_lt_of_le hc (srt _ _ q1 q2)
   ·rw[if_neg (by simpa [qb3] using hc)];refine qd6 hn hp hs f _ r (by lia) (by lia) (by lia) (λi q1=> ?_) hr;have:=srt i ((l+r) / 2) (by lia) (by lia);lia
theorem bin_ok{N:Nat}{k:Nat->Int}: ∀(f:Nat) (p:Array Nat) (n:Nat),n+f=N->Pre N n p->Srt k p n->qdm N (qb3 k) (kas_bin f p n) λp'=>Pre N N p'/\Srt k p' N
 |0,p,n,hf,hp,hs=>by
  have e:n=N:=by lia
  subst e;exact⟨hp,hs⟩
 |f+1,p,n,hf,hp,hs=>by
  refine qa9 (qaH (λl h=> ?_) (qd6 (by lia) hp hs n 0 n (by lia) (Vm _) (by lia) (λi q=>by lia) λi q1 q2=>by lia));obtain⟨h1,h2,h3⟩:=h;have gb:=qsP (p:=p) (k:=n) (l:=l) (by rw[hp.sz];lia) h1;have en:=hp.hi n (Vm _) (by lia);refine bin_ok f _ (n+1) (by lia) ⟨by rw[bubble_size];exact hp.sz,λi hi=> ?_,λi q1 q2=> ?_⟩ λi j aL hj=> ?_
  ·rw[gb];split
   ·rw[en];lia
   ·split
    ·exact Nat.lt_succ_of_lt (hp.lo _ (by lia))
    ·exact Nat.lt_succ_of_lt (hp.lo _ (by lia))
  ·rw[gb,if_neg (by lia),if_neg (by lia)];exact hp.hi i (by lia) q2
  ·rw[gb,gb];by_cases c1:j=l
   ·rw[if_pos c1,if_neg (by lia),if_neg (by lia)];have a1:=h2 i (by lia);have a2:=hp.lo i (by lia);unfold L;rw[en] at a1⊢;lia
   ·rw[if_neg c1];by_cases c2:l<j/\j<=n
    ·rw[if_pos c2];by_cases c3:i=l
     ·rw[if_pos c3];exact .inl (h3 _ (by lia) (by lia))
     ·rw[if_neg c3];by_cases c4:l<i/\i<=n
      ·rw[if_pos c4];exact hs _ _ (by lia) (by lia)
      ·rw[if_neg c4];exact hs _ _ (by lia) (by lia)
    ·rw[if_neg c2,if_neg (by lia),if_neg (by lia)];exact hs _ _ aL (by lia)
theorem qmD{N:Nat}{k:Nat->Int}(hN:1<=N):qdm N (qb3 k) (kas_sort N) λp=>Pre N N p/\Srt k p N:=by
 have gr: ∀i,i<N->g (List.toArray (List.range N)) i=i:=λi hi=>by unfold g;rw[Array.getD_eq_getD_getElem?];simp[hi]
 refine qa9 (qaH (λr h=> ?_) (qlj hN ⟨by simp,λi hi=> ?_,λi h1 h2=>gr i h2⟩))
 ·obtain⟨h1,h2,h3,h4⟩:=h;by_cases c:r.1<N
  ·rw[if_pos c,show max r.1 1=r.1 by lia];exact bin_ok _ _ _ (by lia) h3 h4
  ·rw[if_neg c];have e:r.1=N:=by lia
   rw[e] at h3 h4;exact⟨h3,h4⟩
 ·rw[gr i (by lia)];exact hi
end
open PySem PySem.Calls
theorem qi9{α:Type}{N:Nat}{ask:Nat->Nat->Bool}{cmp:Nat->Nat->(Bool->Shared->Prop)->Shared->Prop}{Q:α->Shared->Prop}{Q':α->Prop}{s:Shared}(hc: ∀i j (C:Bool->Shared->Prop),i<N->j<N->C (ask i j) s->cmp i j C s)(hq: ∀a,Q' a->Q a s): ∀{t:KasT α},qdm N ask t Q'->t.kasWp cmp Q s
 |.ret a,h=>hq a h
 |.ask i j k,⟨h1,h2,h⟩=>hc i j _ h1 h2 (qi9 hc hq h)
noncomputable def qdd(kz:List Int)(n:Nat)(p:Array Nat):Prop:=Pre n n p/\Srt (λi=>kz.getD i 0) p n
abbrev Kp(h h':Heap):Prop:= ∀b o,h.get? b=some o->h'.get? b=some o
section
theorem qkO{h:Heap}(x:h.objs.size<=a):h.get? a=none:=Heap.get?_none_of_le x
end
end St
namespace L2
open PySem PySem.Spec PyProof.Rows
theorem Inv.grow (I:Inv X pins σ H s) (hP:H P=some (.tbl ps)) (hx:Heap.ExtBut P s.heap h') (i8:h'.get? P=some (W.tabObj (ps++more))) (hc:s.heap.objs.size<=c') (hφ:qaA X.prog X.w (upd (upd H P (.tbl (ps++more))) c' (.ext φ)) h' c' (.ext φ)):
  Inv X pins σ (upd (upd H P (.tbl (ps++more))) c' (.ext φ)) { s with heap:=h',toks:=t' }:=by
 have nc: ∀b o,s.heap.get? b=some o->b≠c':=λb o e=>Vo (Vn (Vj e) hc);have d4: ∀b u,H b=some u->b≠c':=λb u e z=>by rw[z,I.hok.fresh hc] at e;cases e
 have nP: ∀b,H b=none->b≠P:=λb e z=>by rw[z,hP] at e;cases e
 have hPl:=(I.hok P _ hP).lt;have cP:P≠c':=d4 P _ hP
 refine I.step (g':=s.gens) (d':=s.drawn) (ch:=[]) (λ_ z=>nomatch z) (λb o _ _ _ e n=>hx b o (nP b n) e) (λb o _ _ _ e n=>⟨o.slots,hx b o (nP b n) e⟩) (λb o _ e n=>by rw[qaa (nc b o e),qaa (nP b n)];exact n)
  (λb o _ e=> ?_) (λb xs e=> ?_) (λb o u e=> ?_) (λb qs e=> ?_) (λm hm=> ?_) (λb u e=> ?_) I.bare
 ·by_cases z:b=P
  ·exact⟨_,by rw[z];exact i8⟩
  ·exact⟨o,hx b o z e⟩
 ·rw[qaa (d4 b _ e),qaa (λz=>by rw[z,hP] at e;cases e)];exact e
 ·rw[qaa (d4 b _ e),qaa (λz=>by rw[z,hP] at e;cases e)];exact e
 ·by_cases z:b=P
  ·subst z;rw[hP] at e;cases e;exact⟨more,by rw[qaa cP,qac]⟩
  ·exact⟨#[],by rw[qaa (d4 b _ e),qaa z,e];simp⟩
 ·exact hm.extBut hx (nP _ I.free)
 ·by_cases z:b=c'
  ·subst z;rw[qac] at e;cases e;exact hφ
  ·rw[qaa z] at e;by_cases z2:b=P
   ·subst z2;rw[qac] at e;cases e;exact i8
   ·rw[qaa z2] at e;refine(I.hok b u e).stay (λc v bw q=>hx c v ?_ q) (λc q=> ?_) λc xs q=> ?_
    ·rcases bw with rfl|bw
     ·exact z2
     ·intro z3;rw[z3,hP] at bw;cases bw
    ·rw[qaa (d4 c _ q),qaa (λz3=>by rw[z3,hP] at q;cases q)];exact q
    ·rw[qaa (d4 c _ q),qaa (λz3=>by rw[z3,hP] at q;cases q)];exact q
noncomputable def qdp(c:Addr)(qual:Str):HO:=.ext λh=>h.CodeRec (.ref c) qual
theorem qcj(ha:a= .int la ta)(hb:b= .int lb tb): ∀(l:List Value),PySem.TriplesOk l->PySem.TriplesOk (l++[a,b,c])
 |[],_=>by subst ha hb;exact trivial
 |[_],h=>by cases ‹Value› <;>exact h.elim
 |[x,y],h=>by cases x<;>first|exact h.elim|(cases y<;>exact h.elim)
 |x::y::z::r,h=>by
  cases x<;>first|exact h.elim|skip
  cases y<;>first|exact h.elim|skip
  exact qcj ha hb r h
theorem qgk{h h':Heap}(x:h.CodeRec (.ref c) qual)(k: ∀o,h.get? c=some o->h'.get? c=some o):h'.CodeRec (.ref c) qual:=by obtain⟨c2,oc,vs,tq,e,ho,hd,hq⟩:=x;cases e;exact⟨c,oc,vs,tq,rfl,k _ ho,hd,hq⟩
noncomputable def qfB(P:Addr)(H H':Hp):Prop:= ∀b o,H b=some o->b≠P->H' b=some o
theorem qeA(r:qan xs us)(j:Nat):RelV (xs.getD j .non) (us.getD j .none):=by
 induction r generalizing j with
 |nil=>exact rfl
 |cons a t ih=>
  cases j with
  |zero=>exact a
  |succ j=>simpa using ih j
theorem vals_pick(r:qan xs us): ∀l:List Nat,qan (l.map λj=>xs.getD j .non) (l.map λj=>us.getD j .none)
 |[]=>.nil
 |j::l=>.cons (qeA r j) (vals_pick r l)
section
theorem qkv:OpR X (compareOp .Is) (λx y H Q=> ∃c d,x= .bl c/\y= .bl d/\Q (.bl (c==d)) H):=by intro pins s σ H x y v u Q I rx ry h;obtain⟨c,d,rfl,rfl,q⟩:=h;cases rx;cases ry;exact is_bool ⟨.bl (c==d),H,I,rfl,q⟩
theorem qfT:OpR X (compareOp .IsNot) (λx y H Q=> ∃c d,x= .bl c/\y= .bl d/\Q (.bl (c != d)) H):=by intro pins s σ H x y v u Q I rx ry h;obtain⟨c,d,rfl,rfl,q⟩:=h;cases rx;cases ry;exact isnot_bool ⟨.bl (c != d),H,I,rfl,q⟩
theorem qiC:OpR X (compareOp .LtE) (λx y H Q=> ∃i j,x= .str i/\y= .str j/\Q (.bl (!decide (j.cps.toList<i.cps.toList))) H):=by intro pins s σ H x y v u Q I rx ry h;obtain⟨i,j,rfl,rfl,q⟩:=h;obtain⟨t,rfl⟩:=rx;obtain⟨t',rfl⟩:=ry;exact P.le_str ⟨.bl _,H,I,rfl,q⟩
theorem qgp:qaC X (.builtin "isinstance") (λxs H Q=> ∃x t T b,xs=[x,.ty T]/\qgr X.K H x t/\W.kitOne X.K t (.type T)=some b/\Q (.bl b) H):=by intro pins s σ H xs us Q I r h;obtain⟨x,t,T,b,rfl,ty,e,q⟩:=h;obtain⟨u,w',rfl,ru,aw⟩:=qjY r;cases aw;exact qi2 I ru ty e λtk=>⟨.bl b,H,I.tok tk,rfl,q⟩
theorem qct: ∀{bs:List Bool} {us:List Value},qan (bs.map V.bl) us->us=bs.map Value.bool
 |[],_,.nil=>rfl
 |b::bs,_,.cons r t=>by have e:_=Value.bool b:=r;rw[e,qct t];rfl
theorem qil(bs:List Bool):(List.range bs.length).all (λi=>bs.getD i false)=bs.all id:=by
 rw[Bool.eq_iff_iff,List.all_eq_true,List.all_eq_true];constructor
 ·intro h b hb;obtain⟨i,hi,rfl⟩:=List.mem_iff_getElem.mp hb;have:=h i (List.mem_range.mpr hi);simpa [List.getD_eq_getElem?_getD,hi] using this
 ·intro h i hi;have a9:=List.mem_range.mp hi;have:=h bs[i] (List.getElem_mem a9);simpa [List.getD_eq_getElem?_getD,a9] using this
theorem qlt(hc:X.calm=true):qaC X (.builtin "all") (λxs H Q=> ∃(a:Addr) (bs:List Bool),xs=[.ref a]/\SqL X.K H a (bs.map V.bl)/\Q (.bl (bs.all id)) H):=by
 intro pins s σ H xs us Q I r h;obtain⟨a,bs,rfl,hS,q⟩:=h;obtain⟨u,rfl,ru⟩:=qdg r;cases ru;obtain⟨its,rv,pl,hz⟩:=I.list hS;have e:=qct rv;have b9:a<s.heap.objs.size:=Vj pl.isList.choose_spec.1;have hh:X.A.in1.handled=none:=I.ok.hd hc;refine call_all_walk (Vg pl.isList ?_);refine⟨s.heap.objs.size,_,_,its.toArray.size,_,_,λi=>bs.getD i false,rfl,Walks.list hh s.heap.objs.size a (Vo b9) its.toArray,⟨⟨_,Vi _ rfl,rfl,rfl⟩,pl.isList.at λo e=>Vh _ e⟩,λi v s' Q' E' hv hq=> ?_,λh' tk k=> ?_⟩
 ·rw[e] at hv;have dq:(bs.map Value.bool)[i]? =some v:=by simpa using hv
  rw[List.getElem?_map] at dq;cases z:bs[i]? with
  |none=>rw[z] at dq;cases dq
  |some b=>
   rw[z] at dq;cases dq;have eb:bs.getD i false=b:=by simp[List.getD_eq_getElem?_getD,z]
   have bI:Q' (bs.getD i false) s':=hq;rw[eb] at bI;exact Vd bI
 ·have en:its.toArray.size=bs.length:=by rw[e];simp
  rw[en,qil];refine⟨.bl (bs.all id),H,?_,rfl,q⟩;refine I.kept (t':=tk) λb o eo=>k b o ?_ (Vh _ eo);intro z;have:b=s.heap.objs.size:=by simpa using z
  exact Vo (Vj eo) this
noncomputable def VEq(X:Cx)(H:Hp)(x y:V)(b:Bool):Prop:= ∀(pins:List (Addr×Obj)) (σ:St) (s:Shared) (u v:Value),Inv X pins σ H s->RelV x u->RelV y v->SeqAt.EqAt X.A.in1 s u v b
theorem qfU (hu:X.A.units<cLine):OpR X (compareOp .Eq) (λx y H Q=> ∃a b xs ys,x= .ref a/\y= .ref b/\SqL X.K H a xs/\SqL X.K H b ys/\
  ((xs.length≠ys.length/\Q (.bl false) H)\/(xs.length=ys.length/\∃e:Nat->Bool,(∀i x y,xs[i]? =some x->ys[i]? =some y->VEq X H x y (e i))/\Q (.bl ((List.range xs.length).all e)) H))):=by
 intro pins s σ H x y v u Q I rx ry h;obtain⟨a,b,xs,ys,rfl,rfl,ha,hb,h⟩:=h;cases rx;cases ry;obtain⟨i1,r1,p1,z1⟩:=I.list ha;obtain⟨i2,r2,p2,z2⟩:=I.list hb;have l1:=r1.length;have l2:=r2.length
 rcases h with⟨bK,q⟩|⟨heq,e,he,q⟩
 ·exact SeqAt.eq_list_lengthsAt p1.isList p2.isList (by simp;lia) hu ⟨.bl false,H,I,rfl,q⟩
 ·refine SeqAt.eq_listAt (e:=e) p1.isList p2.isList (by simp;lia) hu (λj h1 h2=> ?_) ⟨.bl _,H,I,rfl,?_⟩
  ·have bA:j<i1.length:=by simpa using h1
   have bo:j<i2.length:=by simpa using h2
   have hx:xs[j]? =some xs[j]:=Vx (by lia);have hy:ys[j]? =some ys[j]:=Vx (by lia);obtain⟨u1,e1,q1⟩:=r1.get hx;obtain⟨u2,e2,q2⟩:=r2.get hy;have e3:i1.toArray[j]=u1:=by rw[List.getElem?_eq_getElem bA] at e1;simpa using Option.some.inj e1
   have e4:i2.toArray[j]=u2:=by rw[List.getElem?_eq_getElem bo] at e2;simpa using Option.some.inj e2
   rw[e3,e4];exact he j _ _ hx hy pins σ s u1 u2 I q1 q2
  ·rw[List.size_toArray,<-l1];exact q
end
noncomputable def Its(z:Str):It:=⟨λi _=>i<z.cps.size,λi H x H'=>H'=H/\∃c,z.cps[i]? =some c/\x= .str ⟨#[c]⟩,λi _=>z.cps.size<=i⟩
theorem qjZ {P:Program} {w:World} {K:W.Frag} {tg:Expr} {z:Str} {it:Addr} {ty:String} {t:Tok} (cy:ty= "str_ascii_iterator" \/ty= "str_iterator"):qoz P w K tg (Its z) [it] it (λi h=>h.IsStrIter it ty z t i) where
 mem:=by simp
 obj:=λi h st b hb=>by
  have e:b=it:=by simpa using hb
  subst e;obtain⟨o,e,c,d⟩:=st;exact⟨o,e,λv q=>by rw[d] at q;cases q⟩
 keep:=λi h h' st k=>by obtain⟨o,e,r⟩:=st;exact⟨o,k it (by simp) _ e,r⟩
 item:=by
  intro X hP hw hK hc i pins s σ H E I hf st hg;subst hP hw hK;obtain⟨f0,f1,f2,f3,f4,f5⟩:=hf it (by simp);have d8:z.cps[i]? =some z.cps[i]:=Array.getElem?_eq_getElem hg;have fin: ∀h',h'.IsStrIter it ty z t (i+1)->Heap.SameBut it s.heap h'->∃u,some (Value.str ⟨#[z.cps[i]]⟩ s.toks)=some u/\wpAny (model X.prog X.w) X.A (letOwnedTupleGo tg (.ref it) u) (λ_ s2=> ∃x H',Inv X pins σ H' s2/\RelV x u/\(Its z).yld i H x H'/\s2.heap.IsStrIter it ty z t (i+1)/\∀b∈[it],H' b=none) E { s with heap:=h',toks:=s.toks+1 }:=λh' bg sb=>by
   have I1:Inv X pins σ H { s with heap:=h',toks:=s.toks+1 }:=I.turned (λb o hb e=>(sb.2 b hb).trans e) f0 f1 f3 f4 f5;obtain⟨o,e,c,d⟩:=id bg;refine⟨_,rfl,qkN (s:={ s with heap:=h',toks:=s.toks+1 }) e c d ?_ ⟨.str ⟨#[z.cps[i]]⟩,H,I1,⟨_,rfl⟩,⟨rfl,_,d8,rfl⟩,bg,λb hb=>(hf b hb).1⟩⟩
   rcases cy with rfl|rfl<;>decide
  rcases cy with rfl|rfl
  ·exact wpAny_pyNext_ascii_item st d8 λh' bg sb=>fin h' bg sb
  ·exact wpAny_pyNext_wide_item st d8 λh' bg sb=>fin h' bg sb
 done:=by
  intro X hP hw hK hc i pins s σ H E I hf st hg;subst hP hw hK;obtain⟨f0,f1,f2,f3,f4,f5⟩:=hf it (by simp);have d8:z.cps[i]? =none:=Array.getElem?_eq_none hg
  rcases cy with rfl|rfl
  ·exact wpAny_pyNext_ascii_end (I.ok.hd hc) st d8 λh' eb=>⟨rfl,I.turned (t':=s.toks) (λb o hb e=>eb b o hb e) f0 f1 f3 f4 f5⟩
  ·exact wpAny_pyNext_wide_end (I.ok.hd hc) st d8 λh' eb=>⟨rfl,I.turned (t':=s.toks) (λb o hb e=>eb b o hb e) f0 f1 f3 f4 f5⟩
 self:=λA i s Q E st h=>by
  rcases cy with rfl|rfl
  ·exact wpAny_pyIter_striter_ascii st h
  ·exact wpAny_pyIter_striter_wide st h
noncomputable def qva(te:TE):TI:=λσ H R=>te σ H λx H1=> ∃z,x= .str z/\R (Its z) H1
theorem qpj{X:Cx}{tg e:Expr}{te:TE}(he:PE X e te):PI X tg e (qva te):=by
 intro pins s σ H R I h;refine thn (he pins s σ H _ I h) λv s1 gG=> ?_;obtain⟨x,H1,I1,r1,z,hz,q⟩:=gG;subst hz;obtain⟨t,rfl⟩:=r1;have fin: ∀ty:String,(ty= "str_ascii_iterator" \/ty= "str_iterator")->PIE X pins σ tg R (.ref s1.heap.objs.size) { s1 with heap:=s1.heap.push { cls:=.type ty,data:=.fields #[.str z t,.int 0 0] } }:=λty cy=>
  ⟨_,_,_,Its z,H1,rfl,I1.kept (t':=s1.toks) λb o e=>Vh _ e,qjZ (t:=t) cy,⟨_,Vi _ rfl,rfl,rfl⟩,λb hb=>by
   have e:b=s1.heap.objs.size:=by simpa using hb
   subst e;exact I1.fpOk (Vm _) (I1.hok.fresh (Vm _)),q⟩
 cases ha:z.cps.all (· <128)
 ·exact wpAny_pyIter_wide ha (fin _ (.inr rfl))
 ·exact wpAny_pyIter_ascii ha (fin _ (.inl rfl))
theorem Inv.turnT{X:Cx}{pins:List (Addr×Obj)}{σ:St}{H:Hp}{s:Shared}{h':Heap}{t':Nat}{ch:List Addr}{T:Addr}{xs:List V}(I:Inv X pins σ H s)(aN: ∀b∈ch,qgt X pins H b)(k: ∀b o,b∉ch->s.heap.get? b=some o->h'.get? b=some o)(hT:s.heap.objs.size<=T)(new:qaA X.prog X.w (upd H T (.tup xs)) h' T (.tup xs)):Inv X pins σ (upd H T (.tup xs)) { s with heap:=h',toks:=t' }:=by
 have nT: ∀b o,s.heap.get? b=some o->b≠T:=λb o e=>Vo (Vn (Vj e) hT);have eD: ∀b u,H b=some u->b≠T:=λb u e z=>by rw[z,I.hok.fresh hT] at e;cases e
 have bX: ∀b u,H b=some u->b∉ch:=λb u e z=>by rw[(aN b z).1] at e;cases e
 refine I.step (g':=s.gens) (d':=s.drawn) (ch:=ch) (λb hb=> ?_) (λb o _ _ hc e _=>k b o hc e) (λb o _ _ hc e _=>⟨o.slots,k b o hc e⟩) (λb o _ e n=>by rw[qaa (nT b o e)];exact n) (λb o hc e=>⟨o,k b o hc e⟩)
  (λb ys e=>by rw[qaa (eD b _ e)];exact e) (λb o u e=>by rw[qaa (eD b _ e)];exact e) (λb ps e=>⟨#[],by rw[qaa (eD b _ e),e];simp⟩) (λm hm=> ?_) (λb u e=> ?_) I.bare
 ·obtain⟨_,f1,_,f3,f4,f5⟩:=aN b hb;exact⟨f3,f1,f4,f5⟩
 ·obtain⟨o,es,ep,ho,r⟩:=hm;exact⟨o,es,ep,k _ o (λz=>(aN _ z).2.1 rfl) ho,r⟩
 ·by_cases z:b=T
  ·subst z;rw[qac] at e;cases e;exact new
  ·rw[qaa z] at e;refine(I.hok b u e).stay (λc v hc q=>k c v ?_ q) (λc q=>by rw[qaa (eD c _ q)];exact q) λc ys q=>by rw[qaa (eD c _ q)];exact q
   rcases hc with rfl|hc
   ·exact bX _ _ e
   ·exact bX _ _ hc
theorem Inv.turnL {X:Cx} {pins:List (Addr×Obj)} {σ:St} {H:Hp} {s:Shared} {h':Heap} {t':Nat} {ch:List Addr} (I:Inv X pins σ H s) (aN: ∀b∈ch,qgt X pins H b) (k: ∀b o,b∉ch->s.heap.get? b=some o->h'.get? b=some o):
  Inv X pins σ H { s with heap:=h',toks:=t' }:=by
 have bX: ∀b u,H b=some u->b∉ch:=λb u e z=>by rw[(aN b z).1] at e;cases e
 refine I.step (g':=s.gens) (d':=s.drawn) (ch:=ch) (λb hb=> ?_) (λb o _ _ hc e _=>k b o hc e) (λb o _ _ hc e _=>⟨o.slots,k b o hc e⟩) (λb o _ e n=>n) (λb o hc e=>⟨o,k b o hc e⟩)
  (λb ys e=>e) (λb o u e=>e) (λb ps e=>⟨#[],by rw[e];simp⟩) (λm hm=> ?_) (λb u e=> ?_) I.bare
 ·obtain⟨_,f1,_,f3,f4,f5⟩:=aN b hb;exact⟨f3,f1,f4,f5⟩
 ·obtain⟨o,es,ep,ho,r⟩:=hm;exact⟨o,es,ep,k _ o (λz=>(aN _ z).2.1 rfl) ho,r⟩
 ·refine(I.hok b u e).stay (λc v hc q=>k c v ?_ q) (λc q=>q) λc ys q=>q
  rcases hc with rfl|hc
  ·exact bX _ _ e
  ·exact bX _ _ hc
theorem qoT:SlR X (λx lo hi H Q=> ∃z,x= .str z/\z.length<=1000/\Q (.str (PySem.Txt.slice z lo hi)) H):=by
 intro pins s σ H x v vl vu lo hi sl Q I rx hs pl pu h;obtain⟨z,rfl,hz,q⟩:=h;obtain⟨t,rfl⟩:=rx;refine⟨"str",_,F.slot_str_getitem.lookup,typeIs_str _ _ _,?_⟩;have hsz:(PySem.Txt.slice z lo hi).length<=sizeLine:=Vq (PySem.Txt.slice_le z _ _) (Vp (qcI hz));cases pl with
 |none=>cases pu with
  |none=>exact wpAny_getItem_str_slice (l:=none) (u:=none) (st:=none) hs rfl (post_val_or_str ⟨hsz,λt' k=>⟨.str _,H,I.tok k,⟨_,rfl⟩,q⟩⟩)
  |int j uj=>exact wpAny_getItem_str_slice (l:=none) (u:=some (j,uj)) (st:=none) hs rfl (post_val_or_str ⟨hsz,λt' k=>⟨.str _,H,I.tok k,⟨_,rfl⟩,q⟩⟩)
 |int i ui=>cases pu with
  |none=>exact wpAny_getItem_str_slice (l:=some (i,ui)) (u:=none) (st:=none) hs rfl (post_val_or_str ⟨hsz,λt' k=>⟨.str _,H,I.tok k,⟨_,rfl⟩,q⟩⟩)
  |int j uj=>exact wpAny_getItem_str_slice (l:=some (i,ui)) (u:=some (j,uj)) (st:=none) hs rfl (post_val_or_str ⟨hsz,λt' k=>⟨.str _,H,I.tok k,⟨_,rfl⟩,q⟩⟩)
noncomputable def qfD(mg:Str->Option Value)(base:Heap):Prop:= ∃bm ob,mg "__builtins__" =some (.ref bm)/\bm≠builtinsNs/\base.get? bm=some ob/\ob.cls= .type "module" /\ob.dict=some builtinsNs/\ob.data= .plain
open PySem.Calls
theorem qaA.obj(x:qaA P w H h a o): ∃u,h.get? a=some u:=by
 cases o with
 |lst xs=>obtain⟨_,_,_,_,e⟩:=x;exact⟨_,e⟩
 |tup xs=>obtain⟨_,_,_,p⟩:=x;exact p.imp λ_ q=>q.1
 |dK kvs|dT kvs=>obtain⟨_,_,_,_,o,_,_,e,_⟩:=x;exact⟨_,e⟩
 |set S n=>obtain⟨o,_,_,_,e,_⟩:=x;exact⟨_,e⟩
 |ins C dx fs=>obtain⟨_,_,_,e,_⟩:=x;exact⟨_,e⟩
 |own y=>obtain⟨_,e⟩:=x;exact⟨_,e⟩
 |xd fs=>obtain⟨_,⟨_,_,_,e,_⟩,_⟩:=x;exact⟨_,e⟩
 |rng lo hi=>obtain⟨_,_,_,e⟩:=x;exact⟨_,e⟩
 |frz ob u=>obtain⟨e,_⟩:=x;exact⟨_,e⟩
 |tbl ps|met f y=>exact⟨_,(show h.get? a=some _ from x)⟩
 |ext φ=>obtain⟨_,⟨_,e⟩,_⟩:=x;exact⟨_,e⟩
structure qhS(P:Program)(w:World)(outer:List Env)(H:Hp)(s:Shared)(H':Hp)(B h':Heap):Prop where
 hok:HOk P w H' B
 st:B.StaysIn h'
 bk: ∀b o,s.heap.get? b=some o->H b=none->b∉frs outer->B.get? b=some o
 th: ∀b o,s.heap.get? b=some o->b∉frs outer->∃o',B.get? b=some o'
 sl: ∀b o,s.heap.get? b=some o->b∈frs outer->(∀vs,o.data≠.fields vs)/\∃sl,h'.get? b=some { o with slots:=sl }
 free: ∀b o,s.heap.get? b=some o->H b=none->H' b=none
 tups: ∀b xs,H b=some (.tup xs)->H' b=some (.tup xs)
 frzs: ∀b o u,H b=some (.frz o u)->H' b=some (.frz o u)
 tbls: ∀b ps,H b=some (.tbl ps)->∃more,H' b=some (.tbl (ps++more))
section
theorem qhS.un(L:qhS P w outer H s H' B h'):Un (frs outer) [] H H' s.heap h' where
 keep:=λb o e n nb _=>L.st b o (L.bk b o e n nb)
 slot:=λb o e _ hb _=>(L.sl b o e hb).2
 free:=λb o e n _=>L.free b o e n
 there:=λb o e _=>by
  by_cases hb:b∈frs outer
  ·obtain⟨sl,q⟩:=(L.sl b o e hb).2;exact⟨_,q⟩
  ·obtain⟨o',q⟩:=L.th b o e hb;exact⟨o',L.st b o' q⟩
 tups:=L.tups
 frzs:=L.frzs
 tbls:=L.tbls
theorem qhS.on(L:qhS P w outer H s H' B h')(st:B.StaysIn fU)(up:h'.UpToSlots fU):qhS P w outer H s H' B fU:=
 { L with
  st:=st
  sl:=λb o e hb=>by
   obtain⟨nf,sl,q⟩:=L.sl b o e hb;obtain⟨dY,q'⟩:=up b _ q nf;exact⟨nf,dY,q'⟩ }
end
section
theorem qfe{X:Cx}(aE:X.stack=X.env::X.outer)(hf:X.env.frame=some X.env.locals):frs X.stack=X.env.locals::frs X.outer:=by rw[aE];show((X.env::X.outer).filterMap (·.frame))=_;rw[List.filterMap_cons,hf];rfl
theorem qhS.leave{X:Cx}(aE:X.stack=X.env::X.outer)(hf:X.env.frame=some X.env.locals)(hex:X.ex=[])(I:Inv X pins σ H s)(L:qhS X.prog X.w X.stack H s H' B h'):qhS X.prog X.w X.outer X.H₀ X.s₀ H' B h':=by
 have nx: ∀b:Addr,b∉X.ex:=λb z=>by rw[hex] at z;cases z
 have cQ: ∀b o,X.s₀.heap.get? b=some o->b≠X.env.locals:=λb o e=>Vo (Vn (Vj e) I.ok.above);have out: ∀b o,X.s₀.heap.get? b=some o->b∉frs X.outer->b∉frs X.stack:=λb o e nb z=>by
  rw[qfe aE hf] at z
  rcases List.mem_cons.mp z with q|q
  ·exact cQ b o e q
  ·exact nb q
 refine⟨L.hok,L.st,λb o e n nb=> ?_,λb o e nb=> ?_,λb o e hb=> ?_,λb o e n=> ?_,λb xs q=>L.tups b xs (I.base.tups b xs q),λb o u q=>L.frzs b o u (I.base.frzs b o u q),λb ps q=> ?_⟩
 ·exact L.bk b o (I.base.keep b o e n nb (nx b)) (I.base.free b o e n (nx b)) (out b o e nb)
 ·obtain⟨o',e'⟩:=I.base.there b o e (nx b);exact L.th b o' e' (out b o e nb)
 ·obtain⟨sl,e1⟩:=I.base.slot b o e (I.ok.frf b hb) hb (nx b);obtain⟨nf,dY,e2⟩:=L.sl b _ e1 (by rw[qfe aE hf];exact Vl _ hb);exact⟨nf,dY,e2⟩
 ·obtain⟨sl,e1⟩:=I.base.any e n (nx b);exact L.free b _ e1 (I.base.free b o e n (nx b))
 ·obtain⟨m1,e1⟩:=I.base.tbls b ps q;obtain⟨m2,e2⟩:=L.tbls b _ e1;exact⟨m1++m2,by rw[e2,Array.append_assoc]⟩
theorem qhS.made(I:Inv X pins σ H s)(k: ∀b o,s.heap.get? b=some o->h'.get? b=some o):qhS X.prog X.w X.stack H s H (W.hideAll s.heap (frs X.stack)) h' where
 hok:=λa o e=>(I.hok a o e).stay (λb u hb r=>W.hideAll_get _ r λz=>by
   have n:=I.stkFree b z
   rcases hb with q|q
   ·rw[q,e] at n;cases n
   ·rw[q] at n;cases n) (λ_ r=>r) λ_ _ r=>r
 st:=λb o e=>k b o (W.of_hideAll _ e)
 bk:=λb o e n nb=>W.hideAll_get _ e nb
 th:=λb o e nb=>⟨o,W.hideAll_get _ e nb⟩
 sl:=λb o e hb=>by obtain⟨_,o',e',nf⟩:=I.stack.mem hb;rw[e] at e';cases e';exact⟨nf,o.slots,k b o e⟩
 free:=λ_ _ _ n=>n
 tups:=λ_ _ q=>q
 frzs:=λ_ _ _ q=>q
 tbls:=λ_ ps q=>⟨#[],by rw[q];simp⟩
end
structure Fly(P:Program)(w:World)(outer:List Env)(H:Hp)(s:Shared)(C:Addr)(H':Hp)(a t:Addr)(B:Heap)(s':Shared):Prop where
 os:s'.os=s.os
 bare:AllBare s'.gens
 fly:Heap.FlyingW B outer a (.ref C) (.ref t) s'.heap
 lies:qhS P w outer H s H' B s'.heap
 new:H' a=none
structure qvM(P:Program)(w:World)(outer:List Env)(H:Hp)(s:Shared)(C:Addr)(H':Hp)(a t L:Addr)(B:Heap)(s':Shared):Prop where
 os:s'.os=s.os
 bare:AllBare s'.gens
 held:Heap.HeldW B outer a (.ref C) (.ref t) L s'.heap
 lies:qhS P w outer H s H' B s'.heap
 new:H' a=none
section
theorem Fly.leave (aE:X.stack=X.env::X.outer) (hf:X.env.frame=some X.env.locals) (hex:X.ex=[]) (I:Inv X pins σ H s) (F:Fly X.prog X.w X.stack H s C H' a t B s'):
  wpAny M X.A (leaving X.env (.ref a)) (λ_ s''=>Fly X.prog X.w X.outer X.H₀ X.s₀ C H' a t B s'') E s':=by refine wpAny_leaves_onW (I.ok.frames.trans (congrArg _ aE)) hf (aE▸F.fly) λfU fl up=> ?_;exact⟨F.os.trans I.os,F.bare,fl,(F.lies.on fl.1 up).leave aE hf hex I,F.new⟩
theorem Fly.made (aE:X.stack=X.env::X.outer) (hf:X.env.frame=some X.env.locals) (hex:X.ex=[]) (I:Inv X pins σ H s) (hm:Heap.MadeExcOf s.heap h' a (.ref C) args):
  wpAny M X.A (leaving X.env (.ref a)) (λ_ s''=> ∃t B,Fly X.prog X.w X.outer X.H₀ X.s₀ C H a t B s'') E { s with heap:=h' }:=by
 have hin: ∀env∈X.stack,∀b,env.frame=some b->b∈frs X.stack:=λenv he b hb=>List.mem_filterMap.mpr ⟨env,he,hb⟩;have L:=qhS.made (h':=h') I hm.keeps;refine wpAny_leaves_madeW (base:=W.hideAll s.heap (frs X.stack)) (h:=s.heap) (s:={ s with heap:=h' }) (I.ok.frames.trans (congrArg _ aE)) hf (λb o q=>W.of_hideAll _ q) (aE▸W.funFrames_hide I.stack hin) hm λfU t fl _ _ up=> ?_;refine⟨t,_,I.os,I.bare,fl,(L.on fl.1 up).leave aE hf hex I,?_⟩;cases q:H a with
 |none=>rfl
 |some o=>obtain⟨u,hu⟩:=(I.hok a o q).obj;rw[hm.new] at hu;cases hu
theorem Fly.look (aE:X.stack=X.env::X.outer) (hf:X.env.frame=some X.env.locals) (I:Inv X pins σ H s) (F:Fly X.prog X.w X.stack H s C H' a t B s') (h: ∀s'',Fly X.prog X.w X.stack H s C H' a t B s''->Q () s''):
  wpAny M X.A (noteFrame (.ref a) X.env) (λ_ aI=>wpAny M X.A (setFlight (.ref a) none) Q E aI) E s':=by refine wpAny_looks_onW (I.ok.frames.trans (congrArg _ aE)) hf (aE▸F.fly) λh4 hh up=> ?_;refine wpAny_landsW (s:={ s' with heap:=h4 }) hh λh5 fl up5=> ?_;exact h _ ⟨F.os,F.bare,aE▸fl,(F.lies.on (hh.1) up).on fl.1 up5,F.new⟩
theorem Fly.land(F:Fly P w outer H s C H' a t B s')(h: ∀s'',Fly P w outer H s C H' a t B s''->Q () s''):wpAny M A (setFlight (.ref a) none) Q E s':=
 lands_againW F.fly λh5 fl up=>h _ ⟨F.os,F.bare,fl,F.lies.on fl.1 up,F.new⟩
end
noncomputable def CXE(P:Program)(w:World):CXT:=λouter H s E e s'=> ∃C H' a t B,e= .ref a/\Fly P w outer H s C H' a t B s'/\E (.ref C) none H'
theorem qsf{P:Program}{w:World}{K:W.Frag}{mg:Str->Option Value}{base:Heap}{N:List Str}{qual:Str}{scope:Scope}{f:Addr}{cd:Value}{A:Around}{outer:List Env}{s:Shared}{H:Hp}{E E1:XK}(h: ∀C H',E1 (.ref C) none H'->E (.ref C) none H'):qaD (CXE P w) (qeo (CXE P w) P w K mg base N qual scope f cd A outer s H E) E1:=
 λpins σ H1 s1 e s' I ⟨C,H',a,t,B,he,F,q⟩=>by subst he;exact Vc (Fly.leave (X:=qeo (CXE P w) P w K mg base N qual scope f cd A outer s H E) rfl rfl rfl I F) (λ_ s'' F'=>⟨C,H',a,t,B,rfl,F',h C H' q⟩) λ_ _ x=>x
noncomputable def bmV:List Value:=[.type "ValueError",.type "Exception",.type "BaseException",.type "object"]
noncomputable def qhl:List Str:=["__init__", "__getattribute__", "__getattr__", "__class__"]
inductive qbD(h:Heap)(bmB:List Value):List Value->Prop
 |base:qbD h bmB bmB
 | own {A:Addr} {c0:Value} {dd:Option Addr} {cd:ClassData} {sl:Array (Option Value)} {mA:Str->Option Value} {tl:List Value}:
   h.get? A=some { cls:=c0,dict:=dd,data:=.cls cd,slots:=sl }->h.Ns cd.ns mA->(∀n∈qhl,mA n=none)->qbD h bmB tl->qbD h bmB (.ref A::tl)
theorem qbD.tail(T:qbD h bmB tl):OwnTail h bmB tl:=by
 induction T with
 |base=>exact .base
 |own hA hN hq _ ih=>exact .own hA hN (hq _ (.head _)) ih
theorem qbD.keeps(T:qbD h bmB tl)(hk: ∀b o,h.get? b=some o->h'.get? b=some o):qbD h' bmB tl:=by
 induction T with
 |base=>exact .base
 |own hA hN hq _ ih=>exact .own (hk _ _ hA) (hN.keeps hk) hq ih
noncomputable def qdf(h:Heap)(C:Addr)(bm:List Value):Prop:=
 ∃N nm q bs hdct sn sub ab col dd k0 k1 k2 k3 k5 mN,h.get? C=some (excClassObj nm q C N bs bm hdct sn sub ab col dd k0 k1 k2 k3 k5 "ValueError.__new__")/\h.Ns N mN/\(∀n∈qhl,mN n=none)/\qbD h bmV bm
theorem qdf.keeps(x:qdf h C bm)(k: ∀b o,h.get? b=some o->h'.get? b=some o):qdf h' C bm:=
 let ⟨N,nm,q,bs,hdct,sn,sub,ab,col,dd,k0,k1,k2,k3,k5,mN,e,n,i,T⟩:=x
 ⟨N,nm,q,bs,hdct,sn,sub,ab,col,dd,k0,k1,k2,k3,k5,mN,k _ _ e,n.keeps k,i,T.keeps k⟩
theorem qdf.base(x:qdf h C bm):bm.contains (.type "BaseException")=true:=
 let ⟨_,_,_,_,_,_,_,_,_,_,_,_,_,_,_,_,_,_,_,T⟩:=x
 T.tail.hasType (by decide)
noncomputable def qic(C:Addr)(E:XK):TS:=λ_ _ H=>E (.ref C) none H
theorem qkf {P:Program} {w:World} {K:W.Frag} {mg:Str->Option Value} {base:Heap} {N:List Str} {qual:Str} {scope:Scope} {f:Addr} {cd:Value} {A:Around} {outer:List Env} {s:Shared} {H:Hp} {E:XK} {x msg:Str} {C:Addr} {bm:List Value} {j np p1 cpos pos} (hC:qdf base C bm) (hm:mg x=some (.ref C)) (hg:Gl (qeo (CXE P w) P w K mg base N qual scope f cd A outer s H E) x) (aF:(x==("__debug__" :Str))=false:=by decide):
  PS (qeo (CXE P w) P w K mg base N qual scope f cd A outer s H E) (.Raise (some (.Call (.Name x np) [.Constant (.str msg) j p1] [] cpos)) none pos) (qic C E):=by
 intro pins s1 σ H1 D I h;have hCs:=hC.keeps I.bk;obtain⟨Nn,nm,q,bs,hdct,sn,sub,ab,col,dd,k0,k1,k2,k3,k5,mN,e,n,i,T⟩:=id hC;refine wpAny_Raise_call_subT (C:=C) (nm:=nm) (q:=q) (N:=Nn) (bs:=bs) (bm:=bm) (hdct:=hdct) (sn:=sn) (sub:=sub) (ab:=ab) (col:=col) (dd:=dd) (k0:=k0) (k1:=k1) (k2:=k2) (k3:=k3) (k5:=k5) F.excBase_ValueError hC.base (I.ok.hd rfl) (by rfl) (i _ (.head _)) ?_;refine qbf I hg hm ⟨rfl,?_⟩ aF;refine Calls.evalArgs_plain ?_;have hp:PA (qeo (CXE P w) P w K mg base N qual scope f cd A outer s H E) [.Constant (.str msg) j p1] (qdV (tC (.str msg)) qmu):=qaM qgL qbn;refine thn (hp cpos pins s1 σ H1 (λvs H2=>H2=H1/\vs.length=1) I ⟨rfl,rfl⟩) λus s2 eK=> ?_;obtain⟨vs,H2,I2,r,eH,el⟩:=eK;subst eH;have ul:us.length=1:=by rw[<-r.length];exact el
 refine⟨rfl,by show us.length<=sizeLine;rw[ul];decide,I2.bk _ _ e,n.keeps I2.bk,T.tail.keeps I2.bk,λh' a hx=> ?_⟩;exact Vc (Fly.made (X:=qeo (CXE P w) P w K mg base N qual scope f cd A outer s H E) rfl rfl rfl I2 hx) (λ_ s'' ⟨t,B,F'⟩=>⟨C,H2,a,t,B,rfl,F',h⟩) λ_ _ x=>x
abbrev Cx.hold(X:Cx)(pins:List (Addr×Obj))(E:Value->Shared->Prop):Cx:={ X with pn:=X.pn++pins,xe:=E }
abbrev Cx.within(X:Cx)(a:Addr):Cx:={ X with A:=X.A.mark (some (.ref a)),calm:=false,xe:=λ_ _=>False }
section
theorem Cx.Ok.hold{X:Cx}(ok:X.Ok):(X.hold pins E).Ok:=⟨ok.mod,ok.kind,ok.glob,ok.blt,ok.above,ok.inj,ok.has,ok.cab,ok.hd,ok.frames,ok.stk,ok.exf,ok.bs,ok.bsz,ok.noex,ok.exfs,ok.funs,ok.frf⟩
theorem Cx.Ok.unhold{X:Cx}(ok:(X.hold pins E).Ok):X.Ok:=⟨ok.mod,ok.kind,ok.glob,ok.blt,ok.above,ok.inj,ok.has,ok.cab,ok.hd,ok.frames,ok.stk,ok.exf,ok.bs,ok.bsz,ok.noex,ok.exfs,ok.funs,ok.frf⟩
theorem Inv.hold{X:Cx}(I:Inv X pins σ H s):Inv (X.hold pins E) [] σ H s:=⟨I.ok.hold,I.os,I.bare,I.base,I.loc,I.cell,I.free,I.freeC,λp hp=>I.pin p (by rw[List.append_nil] at hp;exact hp),I.hok,I.len⟩
theorem Inv.unhold{X:Cx}(I:Inv (X.hold pins E) aZ σ H s):Inv X pins σ H s:=⟨I.ok.unhold,I.os,I.bare,I.base,I.loc,I.cell,I.free,I.freeC,λp hp=>I.pin p (Vs _ hp),I.hok,I.len⟩
theorem SP.unhold(h:SP (X.hold pins E) aZ D f s'):SP X pins D f s':=by
 cases f with
 |next|brk|cont=>obtain⟨af,H',I,q⟩:=h;exact⟨af,H',I.unhold,q⟩
 |ret u=>obtain⟨v,af,H',I,r,q⟩:=h;exact⟨v,af,H',I.unhold,r,q⟩
theorem Cx.Ok.within{X:Cx}(ok:X.Ok):(X.within a).Ok:=⟨ok.mod,ok.kind,ok.glob,ok.blt,ok.above,ok.inj,ok.has,ok.cab,(λz=>by cases z),ok.frames,ok.stk,ok.exf,ok.bs,ok.bsz,ok.noex,ok.exfs,ok.funs,ok.frf⟩
theorem Inv.within{X:Cx}(I:Inv X pins σ H s):Inv (X.within a) pins σ H s:=⟨I.ok.within,I.os,I.bare,I.base,I.loc,I.cell,I.free,I.freeC,I.pin,I.hok,I.len⟩
theorem Inv.unwithin(ok:X.Ok)(I:Inv (X.within a) pins σ H s):Inv X pins σ H s:=⟨ok,I.os,I.bare,I.base,I.loc,I.cell,I.free,I.freeC,I.pin,I.hok,I.len⟩
theorem Fly.inv(I:Inv X pins σ H s)(F:Fly X.prog X.w X.stack H s C H' a t B s'):Inv X pins σ H' s':=
 I.call' F.os F.lies.un (F.lies.hok.kept F.lies.st) F.bare λb z=>absurd z (by simp)
noncomputable def ExO(a C:Addr):HO:=.ext λh=> ∃o,h.get? a=some o/\o.cls= .ref C
theorem Fly.gone{X:Cx}{s:Shared}(F:Fly X.prog X.w X.stack H s C H' a t B s'):s.heap.get? a=none:=by
 cases q:s.heap.get? a with
 |none=>rfl
 |some o=>
  by_cases hb:a∈frs X.stack
  ·obtain⟨nf,sl,e⟩:=F.lies.sl a o q hb;obtain⟨oe,ws,he,hc,hd,h0⟩:=F.fly.first;rw[he] at e;cases e;exact absurd hd (nf ws)
  ·obtain⟨o',e⟩:=F.lies.th a o q hb;rw[F.fly.2.1] at e;cases e
theorem Fly.invX{X:Cx}(I:Inv X pins σ H s)(F:Fly X.prog X.w X.stack H s C H' a t B s'):Inv X pins σ (upd H' a (ExO a C)) s':=by
 have u:=F.lies.un;have g:=F.gone;have hok:=F.lies.hok.kept F.lies.st;have ne: ∀b o,H' b=some o->b≠a:=λb o e z=>by rw[z,F.new] at e;cases e
 refine I.call' F.os (ch:=[]) ⟨u.keep,u.slot,λb o e n hx=> ?_,u.there,λb xs q=> ?_,λb o w q=> ?_,λb ps q=> ?_⟩ (λb o e=> ?_) F.bare λb z=>absurd z (by simp)
 ·rw[qaa (λz=>by rw[z,g] at e;cases e)];exact u.free b o e n hx
 ·have q':=u.tups b xs q;rw[qaa (ne _ _ q')];exact q'
 ·have q':=u.frzs b o w q;rw[qaa (ne _ _ q')];exact q'
 ·obtain⟨m,q'⟩:=u.tbls b ps q;exact⟨m,by rw[qaa (ne _ _ q')];exact q'⟩
 ·by_cases z:b=a
  ·subst z;rw[qac] at e;cases e;obtain⟨oe,ws,he,hc,hd,h0⟩:=F.fly.first;exact⟨⟨oe,he,hc⟩,⟨oe,he⟩,λh1 h2 ⟨o,e1,e2⟩ k=>⟨o,k o e1,e2⟩⟩
  ·rw[qaa z] at e;exact(hok b o e).stay (λ_ _ _ r=>r) (λc r=>by rw[qaa (ne _ _ r)];exact r) λc xs r=>by rw[qaa (ne _ _ r)];exact r
end
section
theorem qdo(hC:qdf s.heap C bm)(hD:qdf s.heap D bmD)(he:s.heap.get? e=some oe)(dQ:oe.cls= .ref C)(hq:Q ((Value.ref C::bm).contains (.ref D)) s):wpAny M A (excMatches (.ref e) (.ref D)) Q E s:=by
 have ff:(Value.ref D::bmD).contains (.type "BaseException")=true:=by rw[List.contains_cons,hD.base,Bool.or_true]
 obtain⟨N,nm,q,bs,hdct,sn,sub,ab,col,dd,k0,k1,k2,k3,k5,mN,hC,_⟩:=hC;obtain⟨N',nm',q',bs',iY,sn',sub',ab',col',bP,k0',k1',k2',k3',k5',mN',hD,_⟩:=hD;have f:=tc_notTuple;obtain⟨h,g,d,t,os⟩:=s;unfold excMatches
 repeat (first|(with_reducible refine Ve he ?_;rw[dQ])|with_reducible refine Ve hD ?_|(with_reducible refine wpAny_isSubtype_exc hD ?_;rw[ff])|with_reducible refine wpAny_isSubtype_exc hC ?_|wp_step)
 cases hb:(Value.ref C::bm).contains (.ref D)<;>(rw[hb] at hq;first|exact hq|(wp_walk;exact hq))
end
noncomputable def XE(X:Cx)(pins:List (Addr×Obj))(W:St->Addr->Hp->Prop):Value->Shared->Prop:=λe s'=>
 ∃σ H s C H' a t B,e= .ref a/\Inv X pins σ H s/\Fly X.prog X.w X.stack H s C H' a t B s'/\W σ C H'
noncomputable def eW(W:St->Addr->Hp->Prop)(σ:St):XK:=λv _ H'=> ∃C,v= .ref C/\W σ C H'
noncomputable def qru(base:Heap)(CH:Addr)(i:Nat)(ts:TS)(D:qmf):St->Addr->Hp->Prop:=λσ C H=> ∃bm,qdf base C bm/\(Value.ref C::bm).contains (.ref CH)=true/\
 ∀a,H a=none->ts { nx:=λaf H'=>D.nx (af.set i none) H',rt:=D.rt,bk:=λaf H'=>D.bk (af.set i none) H',ct:=λaf H'=>D.ct (af.set i none) H' } (σ.set i (some (.ref a))) (upd H a (ExO a C))
noncomputable def qrB(base:Heap)(CH:Addr)(i:Nat)(tb:(St->Addr->Hp->Prop)->TS)(ts:TS):TS:=λD σ H=>tb (qru base CH i ts D) D σ H
section
theorem qcu(I:Inv X pins σ H s)(hN:X.N.Nodup)(hi:X.N[i]? =some n)(hk:X.env.kindOf n=some .local)(h: ∀s',Inv X pins (σ.set i none) H s'->Q () s'):wpAny M A (do bindName X.env n .none;unbindBehindTheSuite X.env n pos) Q Ex s:=by
 obtain⟨m,hn,hl⟩:=id I.loc;refine wpAny_nameGoes_keeps hk hn (by rw[I.ok.kind];rfl) λh' v gL hs=> ?_;have cne:=I.cne;have cQ: ∀b o,X.s₀.heap.get? b=some o->b≠X.env.locals:=λb o e=>Vo (Vn (Vj e) I.ok.above);refine h _ ⟨I.ok,I.os,I.bare,⟨λb o e n hb hx=> ?_,λb o e n hb hx=> ?_,I.base.free,λb o e hx=> ?_,I.base.tups,I.base.frzs,I.base.tbls⟩,⟨_,gL,λj y v' e1 e2 e3=> ?_⟩,λy c e=> ?_,I.free,I.freeC,λp hp=> ?_,λb ob e=> ?_,?_⟩
 ·exact(hs.2 b (cQ b o e)).trans (I.base.keep b o e n hb hx)
 ·obtain⟨sl,e1⟩:=I.base.slot b o e n hb hx;exact⟨sl,(hs.2 b (cQ b o e)).trans e1⟩
 ·obtain⟨o',e1⟩:=I.base.there b o e hx;exact⟨o',(hs.2 b (cQ b o e)).trans e1⟩
 ·by_cases hj:j=i
  ·subst hj;have cK:j<σ.length:=by rw[I.len];exact(List.getElem?_eq_some_iff.mp hi).1
   rw[List.getElem?_set_self cK] at e2;cases e2
  ·rw[List.getElem?_set_ne (Ne.symm hj)] at e2;obtain⟨u',r',q⟩:=hl j y v' e1 e2 e3;refine⟨u',r',?_⟩
   rcases q with⟨k,e⟩|⟨k,c,e,z⟩
   ·refine .inl ⟨k,?_⟩;have:y≠n:=λe=>hj (qd9 hN e1 (e▸hi));simp[this,e]
   ·exact .inr ⟨k,c,e,z.sameBut hs (cne y c e)⟩
 ·obtain⟨w',z⟩:=I.cell y c e;exact⟨w',z.sameBut hs (cne y c e)⟩
 ·obtain⟨e,n,ne,nf,d⟩:=I.pin p hp;exact⟨(hs.2 p.1 ne).trans e,n,ne,nf,d⟩
 ·refine(I.hok b ob e).stay (λc w' hc q=>(hs.2 c ?_).trans q) (λ_ q=>q) λ_ _ q=>q;intro z
  rcases hc with hc|hc
  ·rw[<-hc,z,I.free] at e;cases e
  ·rw[z,I.free] at hc;cases hc
 ·rw[List.length_set];exact I.len
theorem qmN (aE:X.stack=X.env::X.outer) (hf:X.env.frame=some X.env.locals) (hN:X.N.Nodup) (hi:X.N[i]? =some n) (hk:X.env.kindOf n=some .local) (hg:Gl X x) (hm:X.mg x=some (.ref CH)) (hH:qdf X.base CH bmH) (hb: ∀pins W,PSs (X.hold pins (XE X pins W)) body (tb W)) (hs: ∀a,PSs (X.within a) (fw::cO) ts) (aF:(x==("__debug__" :Str))=false:=by decide):
  PS X (.Try body [.ExceptHandler (some (.Name x np)) (some n) (fw::cO) gH] [] [] pos) (qrB X.base CH i tb ts):=by
 intro pins s σ H D I h;refine wpAny_Try_except ?_;refine Vc (hb pins _ [] s σ H D I.hold h) (λf s1 hq=> ?_) (λe s1 hq=> ?_)
 ·have bI:=hq.unhold;cases f with
  |next=>exact wpAny_execs_nil bI
  |brk|cont|ret u=>exact bI
 ·obtain⟨cN,H1,s0,C,H',a,t,B,rfl,I1,F,bm,hC,dS,w⟩:=hq;refine F.look aE hf I1 λs2 F2=> ?_;have I2:=F2.inv I1;obtain⟨oe,ws,he,hc,hd,h0⟩:=F2.fly.first;refine wpAny_handleBy_cons (codeAny_handlers_test ?_) (by intro q;cases q);refine qbf (X:=X.within a) I2.within hg hm ?_ aF;refine qdo (hC.keeps I2.bk) (hH.keeps I2.bk) he hc ?_;rw[dS];refine codeAny_handlers_suite_as ?_;refine F2.land λs3 F3=> ?_;refine qaV (X:=X.within a) (v:=.ref a) (F3.invX I1).within hN hi (Or.inl hk) rfl (λs4 I4=> ?_) (.inr hk);refine Vc (hs a pins s4 _ _ _ I4 (w a F3.new)) (λf s5 q=> ?_) (λ_ _ z=>z.elim);cases f with
  |next|brk|cont=>obtain⟨af,H5,J,z⟩:=q;exact qcu (J.unwithin I.ok) hN hi hk λs6 J6=>⟨_,_,J6,z⟩
  |ret u=>obtain⟨v,af,H5,J,r,z⟩:=q;exact qcu (J.unwithin I.ok) hN hi hk λs6 J6=>⟨v,_,_,J6,r,z⟩
end
section
theorem qeb {M:Model} {A:Around} {E:Value->Shared->Prop} {h:Heap} {g:Array GenState} {d:Drawn} {t:Nat} {os:OsState} {tl:List Value} {n:Str} {y:Option Value} {Q:Option Value->Shared->Prop} (hn:n∈qhl) (T:qbD h bmV tl) (bZ:lookupAlong bmV n=pure y) (hq:Q y ⟨h,g,d,t,os⟩):
  wpAny M A (lookupAlong tl n) Q E ⟨h,g,d,t,os⟩:=by
 induction T with
 |base=>rw[bZ];exact Vb hq
 |own hA hN hni _ ih=>rw[lookupAlong_cons];refine Va (wpAny_classOwn_cls hA hN ?_);rw[hni n hn];exact ih
theorem qbq {M:Model} {A:Around} {E:Value->Shared->Prop} {h:Heap} {g:Array GenState} {d:Drawn} {t:Nat} {os:OsState} {nm:Str} {q:Str} {C:Addr} {N:Addr} {bs:List Value} {bm:List Value} {hdct:Bool} {sn:List Str} {sub:List Value} {ab:Bool} {col:Option Bool} {dd:Option Addr} {k0:Option Value} {k1:Option Value} {k2:Option Value} {k3:Option Value} {k5:Option Value} {newId:String} {mN:Str->Option Value} {n:Str} {y:Option Value} {Q:Option Value->Shared->Prop} (hn:n∈qhl) (hC:h.get? C=some (excClassObj nm q C N bs bm hdct sn sub ab col dd k0 k1 k2 k3 k5 newId)) (hN:h.Ns N mN) (b8: ∀n∈qhl,mN n=none) (T:qbD h bmV bm) (hB:typeLookup (.type "ValueError") n=pure y) (hq:Q y ⟨h,g,d,t,os⟩):wpAny M A (typeLookup (.ref C) n) Q E ⟨h,g,d,t,os⟩:=by
 have bZ:lookupAlong bmV n=pure y:=by have e:=F.attrBase_ValueError.mro;rw[typeLookup_eq,e] at hB;exact hB
 rw[typeLookup_eq];refine Va (wpAny_mroOf_exc hC ?_);rw[lookupAlong_cons];refine Va (wpAny_classOwn_exc hC hN ?_);rw[b8 n hn];exact qeb hn T bZ hq
end
theorem qf1:typeLookup (.type "ValueError") "__class__" =pure (some (.builtin "object.__class__")):=by rw[typeLookup_type,builtinLookup_eq_fast];kernel_rfl
section
theorem qep {prog:Program} {w:World} {A:Around} {h:Heap} {g:Array GenState} {d:Drawn} {t:Nat} {os:OsState} {a:Addr} {o:Obj} {nm:Str} {q:Str} {C:Addr} {N:Addr} {bs:List Value} {bm:List Value} {hdct:Bool} {sn:List Str} {sub:List Value} {ab:Bool} {col:Option Bool} {dd:Option Addr} {k0:Option Value} {k1:Option Value} {k2:Option Value} {k3:Option Value} {k5:Option Value} {newId:String} {R:Result->Shared->Prop} (hC:h.get? C=some (excClassObj nm q C N bs bm hdct sn sub ab col dd k0 k1 k2 k3 k5 newId)) (T:qbD h bmV bm) (hx:h.get? a=some o) (hc:o.cls= .ref C) (hq:R (.ok (.ret (.ref C))) ⟨h,g,d,t,os⟩):
  codeAny (model prog w) A (.call (.builtin "getset_descriptor.__get__") ⟨[.builtin "object.__class__",.ref a,.ref C],[]⟩) R ⟨h,g,d,t,os⟩:=by
 have i6:(⟨h,g,d,t,os⟩:Shared).TypeIs (.builtin "object.__class__") "getset_descriptor" :=F.typeOf_object_class;have ff:(Value.ref C::bm).contains (.type (".".intercalate ("object.__class__".cutAt '.').dropLast))=true:=by rw[F.owner_object_class,List.contains_cons,T.tail.hasType (b:=true) (by decide)];rfl
 refine codeAny_call_builtin F.slot_gs_get.plain F.entry_gs_get (F.slot_gs_get.check _ _ _ _ _ _ _ _ i6 (F.args_gs_get _ _ _) ?_)
 repeat (any_goals(first|assumption|(with_reducible refine Ve hx ?_;rw[hc])|(with_reducible refine wpAny_isSubtype_exc hC ?_;rw[ff])|wp_step))
 refine⟨Code.quiet_builtin _ (by decide+kernel),codeAny_builtin F.entry_object_class ?_⟩
 repeat (any_goals(first|assumption|(with_reducible refine Ve hx ?_;rw[hc])|wp_step))
theorem qc3 {prog:Program} {w:World} {A:Around} {E:Value->Shared->Prop} {h:Heap} {g:Array GenState} {d:Drawn} {t:Nat} {os:OsState} {a:Addr} {o:Obj} {nm:Str} {q:Str} {C:Addr} {N:Addr} {bs:List Value} {bm:List Value} {hdct:Bool} {sn:List Str} {sub:List Value} {ab:Bool} {col:Option Bool} {dd:Option Addr} {k0:Option Value} {k1:Option Value} {k2:Option Value} {k3:Option Value} {k5:Option Value} {newId:String} {mN:Str->Option Value} {tk:Tok} {Q:Fin->Shared->Prop} (hC:h.get? C=some (excClassObj nm q C N bs bm hdct sn sub ab col dd k0 k1 k2 k3 k5 newId)) (hN:h.Ns N mN) (b8: ∀n∈qhl,mN n=none) (T:qbD h bmV bm) (hx:h.get? a=some o) (hc:o.cls= .ref C) (hq:Q (.done (.ret (.ref C))) ⟨h,g,d,t,os⟩):
  wpAny (model prog w) A (Builtin.«object.__getattribute__» ⟨[.ref a,.str "__class__" tk],[]⟩) Q E ⟨h,g,d,t,os⟩:=by
 have i6:(⟨h,g,d,t,os⟩:Shared).TypeIs (.builtin "object.__class__") "getset_descriptor" :=F.typeOf_object_class;have f5:=F.typeOf_object_class;have f6:=F.slot_gs_get.lookup;have f7:=F.slot_gs_set.lookup;have hmA:("__class__" :Str)∈qhl:=.tail _ (.tail _ (.tail _ (.head _)))
 repeat (any_goals(first|assumption|(with_reducible refine Ve hx ?_;rw[hc])|with_reducible refine qbq hmA hC hN b8 T qf1 ?_|wp_step))
 refine qep hC T hx hc ?_
 repeat (any_goals(first|assumption|wp_step))
theorem qfq{A:Around}{E:Value->Shared->Prop}{h:Heap}{g:Array GenState}{d:Drawn}{t:Nat}{os:OsState}{a:Addr}{o:Obj}{nm:Str}{q:Str}{C:Addr}{N:Addr}{bs:List Value}{bm:List Value}{hdct:Bool}{sn:List Str}{sub:List Value}{ab:Bool}{col:Option Bool}{dd:Option Addr}{k0:Option Value}{k1:Option Value}{k2:Option Value}{k3:Option Value}{k5:Option Value}{newId:String}{M:Model}{cR:Value}{Q:Unit->Shared->Prop}(hC:h.get? C=some (excClassObj nm q C N bs bm hdct sn sub ab col dd k0 k1 k2 k3 k5 newId))(T:qbD h bmV bm)(hx:h.get? a=some o)(hc:o.cls= .ref C)(hq:Q () ⟨h,g,d,t,os⟩):wpAny M A (checkBuiltinCall "BaseException.__getattribute__" ⟨[.ref a,cR],[]⟩) Q E ⟨h,g,d,t,os⟩:=by
 have hk:builtinKind "BaseException.__getattribute__" =some .slot:=by decide+kernel
 have dz:splitId "BaseException.__getattribute__" =some ("BaseException", "__getattribute__"):=by decide+kernel
 have ff:(Value.ref C::bm).contains (.type "BaseException")=true:=by rw[List.contains_cons,T.tail.hasType (b:=true) (by decide)];rfl
 have ha:=F.args_bexc_ga (.ref a) cR;simp only[checkBuiltinCall,hk,dz];refine Va ?_
 ·unfold isInstance
  repeat (first|(with_reducible refine Ve hx ?_;rw[hc])|(with_reducible refine wpAny_isSubtype_exc hC ?_;rw[ff])|wp_step)
  exact hq
theorem qdq {prog:Program} {w:World} {A:Around} {h:Heap} {g:Array GenState} {d:Drawn} {t:Nat} {os:OsState} {a:Addr} {o:Obj} {nm:Str} {q:Str} {C:Addr} {N:Addr} {bs:List Value} {bm:List Value} {hdct:Bool} {sn:List Str} {sub:List Value} {ab:Bool} {col:Option Bool} {dd:Option Addr} {k0:Option Value} {k1:Option Value} {k2:Option Value} {k3:Option Value} {k5:Option Value} {newId:String} {mN:Str->Option Value} {tk:Tok} {R:Result->Shared->Prop} (hC:h.get? C=some (excClassObj nm q C N bs bm hdct sn sub ab col dd k0 k1 k2 k3 k5 newId)) (hN:h.Ns N mN) (b8: ∀n∈qhl,mN n=none) (T:qbD h bmV bm) (hx:h.get? a=some o) (hc:o.cls= .ref C) (hq:R (.ok (.ret (.ref C))) ⟨h,g,d,t,os⟩):
  codeAny (model prog w) A (.call (.builtin "BaseException.__getattribute__") ⟨[.ref a,.str "__class__" tk],[]⟩) R ⟨h,g,d,t,os⟩:=
 codeAny_call_builtin PySem.F.attrBase_ValueError.ga.plain F.entry_bexc_ga (qfq hC T hx hc (qc3 hC hN b8 T hx hc hq))
theorem qfp {prog:Program} {w:World} {A:Around} {E:Value->Shared->Prop} {h:Heap} {g:Array GenState} {d:Drawn} {t:Nat} {os:OsState} {a:Addr} {o:Obj} {nm:Str} {q:Str} {C:Addr} {N:Addr} {bs:List Value} {bm:List Value} {hdct:Bool} {sn:List Str} {sub:List Value} {ab:Bool} {col:Option Bool} {dd:Option Addr} {k0:Option Value} {k1:Option Value} {k2:Option Value} {k3:Option Value} {k5:Option Value} {newId:String} {mN:Str->Option Value} {tk:Tok} {Q:Value->Shared->Prop} (hC:h.get? C=some (excClassObj nm q C N bs bm hdct sn sub ab col dd k0 k1 k2 k3 k5 newId)) (hN:h.Ns N mN) (b8: ∀n∈qhl,mN n=none) (T:qbD h bmV bm) (hx:h.get? a=some o) (hc:o.cls= .ref C) (hq:Q (.ref C) ⟨h,g,d,t,os⟩):
  wpAny (model prog w) A (getAttrBy (.ref a) (.str "__class__" tk) false) Q E ⟨h,g,d,t,os⟩:=by
 have f3:=F.attrBase_ValueError.ga.bind (.ref a);have gB:(Value.builtin "BaseException.__getattribute__" ==Value.builtin "object.__getattribute__")=false:=by decide+kernel
 have gC:(onTheHeap (Value.ref C)&&Value.builtin "BaseException.__getattribute__" ==Value.builtin "object.__getattribute__")=false:=by rw[gB];rfl
 have hm1:("__getattribute__" :Str)∈qhl:=.tail _ (.head _);have eU:("__getattr__" :Str)∈qhl:=.tail _ (.tail _ (.head _))
 repeat (any_goals(first|assumption|(with_reducible refine Ve hx ?_;rw[hc])|with_reducible refine qbq hm1 hC hN b8 T F.attrBase_ValueError.ga.lookup ?_|with_reducible refine qbq eU hC hN b8 T F.attrBase_ValueError.noGetattr ?_|wp_step))
 refine qdq hC hN b8 T hx hc ?_
 repeat (any_goals(first|assumption|wp_step))
theorem qdr {prog:Program} {w:World} {A:Around} {E:Value->Shared->Prop} {h:Heap} {g:Array GenState} {d:Drawn} {t:Nat} {os:OsState} {a:Addr} {o:Obj} {C:Addr} {bm:List Value} {Q:Option Value->Shared->Prop} (hX:qdf h C bm) (hx:h.get? a=some o) (hc:o.cls= .ref C) (hq:Q (some (.ref C)) ⟨h,g,d,t+1,os⟩):
  wpAny (model prog w) A (getAttr? (.ref a) "__class__") Q E ⟨h,g,d,t,os⟩:=by
 obtain⟨N,nm,q,bs,hdct,sn,sub,ab,col,dd,k0,k1,k2,k3,k5,mN,hC,hN,b8,T⟩:=hX;unfold getAttr? getAttrBy?
 repeat (any_goals(first|assumption|with_reducible apply qfp hC hN b8 T hx hc|wp_step))
end
theorem qkH{K:W.Frag}{a C:Addr}{bm:List Value}(hK:(W.clsIn K C).isSome=true):W.KitX K (.ref a) (.ref C) (λh=>qdf h C bm/\∃o,h.get? a=some o/\o.cls= .ref C) where
 ty:=λM h _ p=>by obtain⟨_,o,h1,h2⟩:=p;exact h2▸(W.Looks.ld h1).andThen .now
 it:=λM h _ p=>by obtain⟨⟨N,nm,q,bs,hdct,sn,sub,ab,col,dd,k0,k1,k2,k3,k5,mN,hC,_⟩,_⟩:=p;intro A' Q' E' s' k q;unfold isType loadHead;exact Va (wpAny_loadPart (k _ _ hC) (Vb q))
 ne:=λh tp dd its n sl X htp=>by
  refine Bool.eq_false_iff.mpr λq=> ?_;have e:C=tp:=Value.ref.inj (beq_iff_eq.mp q);subst e;unfold W.clsIn at hK;split at hK
  ·rename_i c' d' cd' dY ho;have z:=(X _ _ ho).symm.trans htp;cases z
  ·cases hK
 ca:=λ{_ _ _ _ _ s} X p k=>by obtain⟨h,g,d,t,os⟩:=s;obtain⟨hX,o,h1,h2⟩:=p;exact qdr hX h1 h2 k
section
theorem qft:qaC X (.builtin "isinstance") (λxs H Q=> ∃a C bm y c b,xs=[.ref a,y]/\H a=some (ExO a C)/\qdf X.base C bm/\(W.clsIn X.K C).isSome=true/\(∀u,RelV y u->u=c)/\W.kitOne X.K (.ref C) c=some b/\Q (.bl b) H):=by
 intro pins s σ H xs us Q I r h;obtain⟨a,C,bm,y,c,b,rfl,ha,hX,hK,hc,e,q⟩:=h;obtain⟨u,w',rfl,ru,aw⟩:=qjY r;obtain rfl:=hc _ aw;cases(show u=Value.ref a from ru);obtain⟨⟨o,e1,e2⟩,_⟩:=(show qaA X.prog X.w H s.heap a (ExO a C) from I.hok a _ ha)
 exact W.kia_one (qkH hK) I.kIn ⟨hX.keeps I.bk,o,e1,e2⟩ e (λz=>nomatch z) λtk=>⟨.bl b,H,I.tok tk,rfl,q⟩
end
section
theorem qdI(k:Bool): ∀bs:List Bool,(bs.map Value.bool).countP (PyProof.Rows.isBoolOf k)=bs.countP (· ==k)
 |[]=>rfl
 |b::bs=>by rw[List.map_cons,List.countP_cons,List.countP_cons,qdI k bs];rfl
theorem qiL:MtR X "list.count" (λx vs H Q=> ∃(l:Addr) (bs:List Bool) (k:Bool),x= .ref l/\vs=[.bl k]/\H l=some (.lst (bs.map V.bl))/\Q (.int (bs.countP (· ==k):Nat)) H):=by
 intro pins s σ H x vs v us Q I rx rv h;obtain⟨l,bs,k,rfl,rfl,hH,q⟩:=h;cases rx;obtain⟨u,rfl,ru⟩:=qdg rv;cases ru;obtain⟨z,its,n,r,hl,e⟩:=I.lstM hH;have ei:=qct r;subst ei;refine Vy F.slot_list_count ⟨_,e,rfl⟩ F.entry_list_count (F.args_list_count_2 _ _) (SeqAt.list_countAt l _ n _ _ (.bool k) (PyProof.Rows.isBoolOf k)) ⟨e,λy hy=> ?_,?_⟩
 ·have dj:y∈bs.map Value.bool:=by simpa using hy
  obtain⟨b,_,rfl⟩:=List.mem_map.mp dj;exact SeqAt.EqAt.bool_bool b k
 ·refine⟨.int _,H,I.tok _,⟨_,rfl⟩,?_⟩;rw[show(bs.map Value.bool).toArray.toList=bs.map Value.bool from rfl,qdI];exact q
theorem qiJ:MtR X "list.index" (λx vs H Q=> ∃(l:Addr) (bs:List Bool) (k:Bool) (j:Nat),x= .ref l/\vs=[.bl k]/\H l=some (.lst (bs.map V.bl))/\bs.length<=1000/\bs[j]? =some k/\(∀i,i<j->bs[i]? =some (!k))/\Q (.int (j:Nat)) H):=by
 intro pins s σ H x vs v us Q I rx rv h;obtain⟨l,bs,k,j,rfl,rfl,hH,hz,hj,hn,q⟩:=h;cases rx;obtain⟨u,rfl,ru⟩:=qdg rv;cases ru;obtain⟨z,its,n,r,hl,e⟩:=I.lstM hH;have ei:=qct r;subst ei;have cW:j<bs.length:=(List.getElem?_eq_some_iff.mp hj).1;have at_: ∀i (hi:i<(bs.map Value.bool).toArray.size),(bs.map Value.bool).toArray[i]=Value.bool (bs.getD i false):=λi hi=>by
  have a9:i<bs.length:=by simpa using hi
  simp[List.getD_eq_getElem?_getD,a9]
 refine Vy F.slot_list_index ⟨_,e,rfl⟩ F.entry_list_index (F.args_list_index_2 _ _) (SeqAt.list_indexAt l _ n _ _ (.bool k) (PyProof.Rows.isBoolOf k) j (by simpa using cW) (by lia) ?_ ?_) ⟨e,λy hy=> ?_,?_⟩
 ·rw[at_ j (by simpa using cW)];simp[PyProof.Rows.isBoolOf,List.getD_eq_getElem?_getD,hj]
 ·intro m hm b9;rw[at_ m hm];simp[PyProof.Rows.isBoolOf,List.getD_eq_getElem?_getD,hn m b9]
 ·have dj:y∈bs.map Value.bool:=by simpa using hy
  obtain⟨b,_,rfl⟩:=List.mem_map.mp dj;exact SeqAt.EqAt.bool_bool b k
 ·exact⟨.int _,H,I.tok _,⟨_,rfl⟩,q⟩
end
end L2
namespace L2
open PySem PySem.Spec PyProof.Rows
section
variable {κ:Type}[DecidableEq κ]
noncomputable def qfF(kvs:List (κ×V))(k:κ):Option V:=(kvs.find? λkv=>decide (kv.1=k)).map (·.2)
noncomputable def qhU(kvs:List (κ×V))(k:κ)(v:V):List (κ×V):=
 if(kvs.any λkv=>decide (kv.1=k))=true then kvs.map (λkv=>if kv.1=k then(kv.1,v) else kv) else kvs++[(k,v)]
noncomputable def qge(kvs:List (κ×V))(k:κ):List (κ×V):=kvs.filter λkv=>decide (kv.1≠k)
theorem qdO{p:κ×V}{r:List (κ×V)}{k:κ}(e:p.1=k):qfF (p::r) k=some p.2:=by simp[qfF,List.find?_cons,e]
theorem qdP{p:κ×V}{r:List (κ×V)}{k:κ}(e: ¬p.1=k):qfF (p::r) k=qfF r k:=by simp[qfF,List.find?_cons,e]
theorem qgv(k:κ): ∀kvs:List (κ×V),(kvs.any λkv=>decide (kv.1=k))=(qfF kvs k).isSome
 |[]=>rfl
 |p::r=>by
  rw[List.any_cons];by_cases e:p.1=k
  ·simp only[qdO e,decide_eq_true e,Bool.true_or,Option.isSome_some]
  ·rw[qdP e,decide_eq_false e,Bool.false_or];exact qgv k r
theorem qcT(kvs:List (κ×V))(k:κ)(v:V):(qhU kvs k v).length<=kvs.length+1:=by
 unfold qhU;split
 ·rw[List.length_map];omega
 ·rw[List.length_append,List.length_cons,List.length_nil];omega
theorem qfC.isSome_eq(r:qfC o u):o.isSome=u.isSome:=by
 cases o with
 |none=>cases u with
  |none=>rfl
  |some _=>exact(show False from r).elim
 |some _=>cases u with
  |none=>exact(show False from r).elim
  |some _=>rfl
theorem KV.val(r:KV kvs vs)(k:κ):qfC (qfF kvs k) (valueAt vs k):=by
 unfold KV at r
 induction r with
 |nil=>exact True.intro
 |@cons p q ps qs h t ih=>
  obtain⟨h1,h2⟩:=h;by_cases e:p.1=k
  ·have e':q.1=k:=h1.symm.trans e;have b:valueAt (q::qs) k=some q.2:=by simp[valueAt,List.find?_cons,e']
   rw[qdO e,b];exact h2
  ·have e': ¬q.1=k:=λz=>e (h1.trans z);have b:valueAt (q::qs) k=valueAt qs k:=by simp[valueAt,List.find?_cons,e']
   rw[qdP e,b];exact ih
theorem KV.any(r:KV kvs vs)(k:κ):(kvs.any λkv=>decide (kv.1=k))=vs.any λkv=>decide (kv.1=k):=by
 unfold KV at r
 induction r with
 |nil=>rfl
 |cons h t ih=>rw[List.any_cons,List.any_cons,ih,h.1]
theorem KV.repl (r:KV kvs vs) (k:κ) (ry:RelV y u):
  KV (kvs.map λkv=>if kv.1=k then(kv.1,y) else kv) (vs.map λkv=>if kv.1=k then(kv.1,u) else kv):=by
 unfold KV at r⊢
 induction r with
 |nil=>exact .nil
 |@cons p q ps qs h t ih=>
  rw[List.map_cons,List.map_cons];refine .cons ?_ ih;obtain⟨h1,h2⟩:=h;by_cases e:p.1=k
  ·rw[if_pos e,if_pos (h1.symm.trans e)];exact⟨h1,ry⟩
  ·rw[if_neg e,if_neg (λz=>e (h1.trans z))];exact⟨h1,h2⟩
theorem KV.put(r:KV kvs vs)(k:κ)(ry:RelV y u):KV (qhU kvs k y) (stored vs k u):=by
 unfold qhU stored;rw[r.any k];by_cases e:(vs.any λkv=>decide (kv.1=k))=true
 ·rw[if_pos e,if_pos e];exact r.repl k ry
 ·rw[if_neg e,if_neg e];exact Paired.snoc r ⟨rfl,ry⟩
theorem KV.drop(r:KV kvs vs)(k:κ):KV (qge kvs k) (without vs k):=by
 unfold KV at r⊢;unfold qge without
 induction r with
 |nil=>exact .nil
 |@cons p q ps qs h t ih=>
  obtain⟨h1,h2⟩:=h;rw[List.filter_cons,List.filter_cons];by_cases e:p.1=k
  ·have a: ¬decide (p.1≠k)=true:=by simp[e]
   have b: ¬decide (q.1≠k)=true:=by simp[h1.symm.trans e]
   rw[if_neg a,if_neg b];exact ih
  ·have e': ¬q.1=k:=λz=>e (h1.trans z);have a:decide (p.1≠k)=true:=by simp[e]
   have b:decide (q.1≠k)=true:=by simp[e']
   rw[if_pos a,if_pos b];exact .cons ⟨h1,h2⟩ ih
theorem KV.length(r:KV kvs vs):kvs.length=vs.length:=Paired.length r
theorem qgX(kvs:List (κ×V))(k:κ):(qge kvs k).length<=kvs.length:=List.length_filter_le _ _
end
theorem qf5(r:RelV (kV k) u):(qap P w).is k u=true:=by
 cases k with
 |inl i=>obtain⟨t,e⟩:=(show ∃t,u=Value.int i t from r);subst e;exact qfY P w i t
 |inr x=>obtain⟨t,e⟩:=(show ∃t,u=Value.str x t from r);subst e;exact qfX P w x t
theorem qfa: ∀{ks:List Key} {us:List Value},qan (ks.map kV) us->ItemsAre (qap P w) ks us
 |[],_,r=>by rw[List.map_nil] at r;cases r;exact .nil
 |k::ks,_,r=>by
  rw[List.map_cons] at r;cases r with
  |cons h t=>exact .cons (qf5 h) (qfa t)
abbrev KT(H:Hp):List (List Key×V)->List (List Key×Addr×Value)->Prop:=Paired λp q=>p.1=q.1/\H q.2.1=some (.tup (p.1.map kV))/\RelV p.2 q.2.2
theorem KT.val(r:KT H kvs xs)(k:List Key):qfC (qfF kvs k) ((atKey xs k).map (·.2)):=by
 induction r with
 |nil=>exact True.intro
 |@cons p q ps qs h t ih=>
  obtain⟨h1,_,h2⟩:=h;by_cases e:p.1=k
  ·have e':q.1=k:=h1.symm.trans e;have b:atKey (q::qs) k=some q.2:=by simp[atKey,List.find?_cons,e']
   rw[qdO e,b];exact h2
  ·have e': ¬q.1=k:=λz=>e (h1.trans z);have b:atKey (q::qs) k=atKey qs k:=by simp[atKey,List.find?_cons,e']
   rw[qdP e,b];exact ih
theorem KT.repl (r:KT H kvs xs) (k:List Key) (ry:RelV y u):
  KT H (kvs.map λkv=>if kv.1=k then(kv.1,y) else kv) (xs.map (putAt k u)):=by
 induction r with
 |nil=>exact .nil
 |@cons p q ps qs h t ih=>
  rw[List.map_cons,List.map_cons];refine .cons ?_ ih;obtain⟨h1,h2,h3⟩:=h;unfold putAt;by_cases e:p.1=k
  ·rw[if_pos e,if_pos (h1.symm.trans e)];exact⟨h1,h2,ry⟩
  ·rw[if_neg e,if_neg (λz=>e (h1.trans z))];exact⟨h1,h2,h3⟩
theorem KT.put (r:KT H kvs xs) (k:List Key) (hb:H b=some (.tup (k.map kV))) (ry:RelV y u):
  KT H (qhU kvs k y) (storedH xs k b u):=by
 have e:(kvs.any λkv=>decide (kv.1=k))=(atKey xs k).isSome:=by rw[qgv,(r.val k).isSome_eq,Option.isSome_map]
 unfold qhU storedH;rw[e];by_cases q:(atKey xs k).isSome=true
 ·rw[if_pos q,if_pos q];exact r.repl k ry
 ·rw[if_neg q,if_neg q];exact Paired.snoc r ⟨rfl,hb,ry⟩
theorem KT.keeps(r:KT H kvs xs)(ht: ∀b ys,H b=some (.tup ys)->H' b=some (.tup ys)):KT H' kvs xs:=
 Paired.mapP r λ_ _ z=>⟨z.1,ht _ _ z.2.1,z.2.2⟩
section
theorem qoY(ok:HOk P w H h)(e:Rd H a u):qaA P w H h a u:=e.ok ok
theorem qgf(ok:HOk P w H h)(e:Rd H a (.dK kvs)):kvs.length<=sizeLine/\(a==sysModules)=false/\∃vs,KV kvs vs/\h.DictOf (qap P w) a vs:=
 show qaA P w H h a (.dK kvs) from qoY ok e
theorem qk2(ok:HOk P w H h)(e:H a=some (.dK kvs)):kvs.length<=sizeLine/\(a==sysModules)=false/\∃vs,KV kvs vs/\h.DictOf (qap P w) a vs:=qgf ok (.inl e)
theorem qe8(ok:HOk P w H h)(e:H a=some (.tup (ks.map kV))):(tupleKind (qap P w)).is h ks a:=by
 obtain⟨_,its,r,o,h1,h2,n,h3⟩:=(show qaA P w H h a (.tup (ks.map kV)) from ok a _ e)
 exact⟨o,its.toArray,n,h1,h2,h3,by simpa using qfa r⟩
theorem qjo (ok:HOk P w H h) (e:Rd H a (.dT kvs)):kvs.length<=sizeLine/\(a==sysModules)=false/\
  ∃xs,KT H kvs xs/\h.DictOfH (tupleKind (qap P w)) a xs:=by
 obtain⟨z,y,xs,r,o,es,ep,h1,h2,h3,h4,h5⟩:=(show qaA P w H h a (.dT kvs) from qoY ok e)
 refine⟨z,y,xs,r,o,es,ep,h1,h2,h3,h4,λx hx=> ?_,h5⟩;have all: ∀{l:List (List Key×V)} {m:List (List Key×Addr×Value)},KT H l m->∀x∈m,(tupleKind (qap P w)).is h x.1 x.2.1:=by
  intro l m q
  induction q with
  |nil=>intro x hx;exact nomatch hx
  |@cons p q ps qs hq t ih=>
   intro x hx
   rcases List.mem_cons.mp hx with e|hx
   ·subst e;exact qe8 ok (by rw[<-hq.1];exact hq.2.1)
   ·exact ih x hx
 exact all r x hx
theorem qqr (ok:HOk P w H h) (e:H a=some (.dT kvs)):kvs.length<=sizeLine/\(a==sysModules)=false/\
  ∃xs,KT H kvs xs/\h.DictOfH (tupleKind (qap P w)) a xs:=qjo ok (.inl e)
end
noncomputable def qjS(H:Hp)(a:Addr)(y:V)(r:Option V):Prop:=
 (∃kvs k,Rd H a (.dK kvs)/\y=kV k/\r=qfF kvs k)\/∃kvs k b,Rd H a (.dT kvs)/\y= .ref b/\H b=some (.tup (k.map kV))/\r=qfF kvs k
noncomputable def qvB(H:Hp)(a:Addr)(y v:V)(H':Hp):Prop:=
 (∃kvs k,H a=some (.dK kvs)/\y=kV k/\kvs.length<sizeLine/\H'=upd H a (.dK (qhU kvs k v)))\/
 ∃kvs k b,H a=some (.dT kvs)/\y= .ref b/\H b=some (.tup (k.map kV))/\kvs.length<sizeLine/\H'=upd H a (.dT (qhU kvs k v))
section
theorem Inv.big(I:Inv X pins σ H s):sysModules<s.heap.objs.size:=by have h:mainGlobals<s.heap.objs.size:=(I.mod.glob.keeps I.bk).lt;exact Nat.lt_trans (by decide) h
theorem qjx (hu:A.units+1<cLine) (I:Inv X pins σ H s) (g:qjS H a y (some v)) (ry:RelV y u) (h: ∀w' s',Inv X pins σ H s'->RelV v w'->Q w' s'):
  wpAny (model X.prog X.w) A (getItem (.ref a) u) Q E s:=by
 rcases g with⟨kvs,k,e,ey,l⟩|⟨kvs,k,b,e,ey,eb,l⟩
 ·subst ey;obtain⟨z,hd,vs,rel,dd⟩:=qgf I.hok e;obtain⟨w',hw,aw⟩:=qfC.some_of (v:=v) (o:=valueAt vs k) (by rw[l];exact rel.val k);exact wpAny_getItem_of (qf5 ry) dd.mapOf hw (h w' _ (I.tok _) aw)
 ·subst ey;cases(show u=Value.ref b from ry);obtain⟨z,hd,xs,rel,dd⟩:=qjo I.hok e;obtain⟨w',hw,aw⟩:=qfC.some_of (v:=v) (o:=(atKey xs k).map (·.2)) (by rw[l];exact rel.val k);obtain⟨p,hp,cA⟩:=Option.map_eq_some_iff.mp hw;refine wpAny_getItem_heap (tupleKind_room_in1 hu) (qe8 I.hok eb) dd hp ?_;rw[cA];exact h w' _ (I.tok _) aw
theorem que (hu:A.units+1<cLine) (I:Inv X pins σ H s) (g:qjS H a y o) (ry:RelV y u) (h: ∀s',Inv X pins σ H s'->Q (.bool o.isSome) s'):
  wpAny (model X.prog X.w) A (compareOp .In u (.ref a)) Q E s:=by
 rcases g with⟨kvs,k,e,ey,l⟩|⟨kvs,k,b,e,ey,eb,l⟩
 ·subst ey;obtain⟨z,hd,vs,rel,dd⟩:=qgf I.hok e;refine wpAny_in_of (qf5 ry) hd dd.mapOf ?_;rw[<-(rel.val k).isSome_eq,<-l];exact h _ (I.tok _)
 ·subst ey;cases(show u=Value.ref b from ry);obtain⟨z,hd,xs,rel,dd⟩:=qjo I.hok e;refine wpAny_in_heap (tupleKind_room_in1 hu) (qe8 I.hok eb) hd dd ?_;have q:=(rel.val k).isSome_eq;rw[Option.isSome_map] at q;rw[<-q,<-l];exact h _ (I.tok _)
theorem qjw (hu:A.units+1<cLine) (I:Inv X pins σ H s) (g:qjS H a y o) (ry:RelV y u) (h: ∀s',Inv X pins σ H s'->Q (.bool (!o.isSome)) s'):
  wpAny (model X.prog X.w) A (compareOp .NotIn u (.ref a)) Q E s:=by
 rcases g with⟨kvs,k,e,ey,l⟩|⟨kvs,k,b,e,ey,eb,l⟩
 ·subst ey;obtain⟨z,hd,vs,rel,dd⟩:=qgf I.hok e;refine wpAny_notIn_of (qf5 ry) hd dd.mapOf ?_;rw[<-(rel.val k).isSome_eq,<-l];exact h _ (I.tok _)
 ·subst ey;cases(show u=Value.ref b from ry);obtain⟨z,hd,xs,rel,dd⟩:=qjo I.hok e;refine wpAny_notIn_heap (tupleKind_room_in1 hu) (qe8 I.hok eb) hd dd ?_;have q:=(rel.val k).isSome_eq;rw[Option.isSome_map] at q;rw[<-q,<-l];exact h _ (I.tok _)
theorem qel (I:Inv X pins σ H s) (mu:Mut (H a)) (hs:Heap.SameBut a s.heap h') (he: ∃q,h'.get? a=some q) (new:qaA X.prog X.w (upd H a ob) h' a ob):
  Inv X pins σ (upd H a ob) { s with heap:=h',toks:=t' }:=
 I.write (x:=a) (e:=a) mu (.inl rfl) (λb q hb z=>(hs.2 b hb).trans z) he new
theorem qgY (z:kvs.length<=sizeLine) (hd:(a==sysModules)=false) (rel:KV kvs vs) (dd:h'.DictOf (qap P w) a vs):
  qaA P w H' h' a (.dK kvs):=⟨z,hd,vs,rel,dd⟩
theorem qc1 (hu:A.units+1<cLine) (I:Inv X pins σ H s) (g:qvB H a y v H') (ry:RelV y u) (rv:RelV v r) (h: ∀s',Inv X pins σ H' s'->Q () s'):
  wpAny (model X.prog X.w) A (setItem (.ref a) u r) Q E s:=by
 rcases g with⟨kvs,k,e,ey,l,eH⟩|⟨kvs,k,b,e,ey,eb,l,eH⟩
 ·subst ey eH;obtain⟨z,hd,vs,rel,dd⟩:=qk2 I.hok e;have hz:vs.length<=sizeLine:=by rw[<-rel.length];exact z
  have hl:(qhU kvs k v).length<=sizeLine:=by have:=qcT kvs k v;omega
  refine wpAny_setItem_pairs (hsz:=hz) (qf5 ry) dd λh' bP hs=>h _ ?_;have he: ∃q,h'.get? a=some q:=let ⟨q,_,_,hq,_⟩:=bP;⟨q,hq⟩
  exact qel I (by rw[e];exact True.intro) hs he (qgY hl hd (rel.put k rv) bP)
 ·subst ey eH;cases(show u=Value.ref b from ry);obtain⟨z,hd,xs,rel,dd⟩:=qqr I.hok e;have hz:xs.length<=sizeLine:=by rw[<-Paired.length rel];exact z
  have hl:(qhU kvs k v).length<=sizeLine:=by have:=qcT kvs k v;omega
  refine wpAny_setItem_heap (hsz:=hz) (tupleKind_room_in1 hu) (qe8 I.hok eb) dd λh' bP hs=>h _ ?_;obtain⟨q,es,ep,hq,h2,h3,h4,_,h5⟩:=bP;refine qel I (by rw[e];exact True.intro) hs ⟨q,hq⟩ ⟨hl,hd,_,(rel.put k eb rv).keeps λc ys ec=> ?_,q,es,ep,hq,h2,h3,h4,h5⟩;rw[qaa (qsx ec e (λz=>nomatch z))];exact ec
end
section
theorem qqO (I:Inv X pins σ H s) (e:H a=some (.dK kvs)) (ry:RelV (kV k) u) (l:(qfF kvs k).isSome=true) (h: ∀s',Inv X pins σ (upd H a (.dK (qge kvs k))) s'->Q () s'):
  wpAny (model X.prog X.w) A (delItem (.ref a) u) Q E s:=by
 obtain⟨z,hd,vs,rel,dd⟩:=qk2 I.hok e
 refine wpAny_delItem_slot dd.typeIs (by decide) F.slot_dict_delitem
  (call_meetsIn F.slot_dict_delitem dd.typeIs F.entry_dict_delitem (F.args_dict_delitem_2 _ _) (meets_dict_delitem_pairs (qap X.prog X.w) a (qf5 ry)) ⟨vs,dd,by rw[<-rel.length];exact z,by rw[<-(rel.val k).isSome_eq];exact l,λh' bP hs=>h _ ?_⟩)
 have he: ∃q,h'.get? a=some q:=let ⟨q,_,_,hq,_⟩:=bP;⟨q,hq⟩
 exact qel I (by rw[e];exact True.intro) hs he (qgY (Vq (qgX kvs k) z) hd (rel.drop k) bP)
theorem qti(I:Inv X pins σ H s)(e:H a=some (.dK kvs))(ry:RelV (kV k) u)(l:qfF kvs k=some v)(hm:more=[]\/∃x,more=[x])(h: ∀w' s',Inv X pins σ (upd H a (.dK (qge kvs k))) s'->RelV v w'->Q w' s'):wpAny (model X.prog X.w) A (call (.builtin "dict.pop") (.ref a::u::more)) Q E s:=by
 obtain⟨z,hd,vs,rel,dd⟩:=qk2 I.hok e;obtain⟨w',hw,aw⟩:=qfC.some_of (v:=v) (o:=valueAt vs k) (by rw[<-l];exact rel.val k);have hp:(keyPart u).isSome=true:=by
  cases k with
  |inl i=>obtain⟨t,q⟩:=(show ∃t,u=Value.int i t from ry);subst q;rfl
  |inr x=>obtain⟨t,q⟩:=(show ∃t,u=Value.str x t from ry);subst q;rfl
 have ha:argsOk "dict.pop" ⟨.ref a::u::more,[]⟩:=by
  rcases hm with q|⟨x,q⟩
  ·subst q;exact F.args_dict_pop_2 _ _
  ·subst q;exact F.args_dict_pop_3 _ _ _
 refine call_meetsIn F.slot_dict_pop dd.typeIs F.entry_dict_pop ha (meets_dict_pop_there (qap X.prog X.w) a (qf5 ry) more hm hp)
  ⟨vs,w',dd,by rw[<-rel.length];exact z,hw,λh' bP hs=>h w' _ ?_ aw⟩
 have he: ∃q,h'.get? a=some q:=let ⟨q,_,_,hq,_⟩:=bP;⟨q,hq⟩
 exact qel I (by rw[e];exact True.intro) hs he (qgY (Vq (qgX kvs k) z) hd (rel.drop k) bP)
theorem qtj(I:Inv X pins σ H s)(e:Rd H a (.dK kvs))(h: ∀t s',Inv X pins σ H s'->Q (.int kvs.length t) s'):wpAny (model X.prog X.w) A (call (.builtin "len") [.ref a]) Q E s:=by obtain⟨z,hd,vs,rel,dd⟩:=qgf I.hok e;refine call_len_dict hd dd (by rw[<-rel.length];rw[sizeLine_eq] at z;omega) ?_;rw[<-rel.length];exact h _ _ (I.tok _)
end
noncomputable def qus(i:Expr):Prop:= ∀ov iv,subscripted i false ov iv=operate [ov,iv] (getItem ov iv)
theorem qmA {prog:Program} {w:World} {A:Around} {E:Value->Shared->Prop} {s:Shared} {env:Env} {value slice:Expr} {pos:Pos} {T id:String} {Q:Value->Shared->Prop} (hl:typeLookup (.type T) "__getitem__" =pure (some (.builtin id))) (hs:qus slice) (h:wpAny (model prog w) A (eval value env) (λo ae=>wpAny (model prog w) A (eval slice env) (λi aI=>aI.TypeIs o T/\wpAny (model prog w) A (getItem o i) Q E aI) E ae) E s):
  wpAny (model prog w) A (eval (.Subscript value slice pos) env) Q E s:=by
 refine Subscript_ (Vc h (λo ae gA=>Vc gA (λi aI df=> ?_) λ_ _ x=>x) λ_ _ x=>x);obtain⟨hT,df⟩:=df;unfold subscriptTail;refine Va ?_;rw[getitemInPython_of_ne hT.not_modules];refine Va (wpAny_specialOf hT hl ?_);have fin:wpAny (model prog w) A (subscripted slice false o i) (λr eh=>wpAny (model prog w) A (letTemporaryGo value o r>>=λ_=>pure r) Q E eh) E aI:=by rw[hs o i];exact wpAny_operating (Vc df (λr eh gy=>Va (wpAny_letTemporaryGo (Vb gy))) λ_ _ x=>x)
 first
  |exact Vb (Va fin)
  |exact Va (Vb (Va fin))
  |exact Va fin
theorem qgg(I:Inv X pins σ H s)(g:qjS H a y o):s.TypeIs (.ref a) "dict" :=by
 rcases g with⟨kvs,k,e,_,_⟩|⟨kvs,k,b,e,_,_,_⟩
 ·obtain⟨_,_,vs,_,dd⟩:=qgf I.hok e;exact dd.typeIs
 ·obtain⟨_,_,xs,_,dd⟩:=qjo I.hok e;exact dd.typeIs
theorem qk3(h:Heap)(hb:sysModules<h.objs.size):qaA P w H (h.push { cls:=.type "dict",data:=.dict #[] }) h.objs.size (.dK []):=
 ⟨Nat.zero_le _,beq_eq_false_iff_ne.mpr (Ne.symm (Vo hb)),[],.nil,Heap.DictOf.new h⟩
noncomputable def qoL:TE:=λ_ H Q=> ∀p,H p=none->Q (.ref p) (upd H p (.dK []))
section
theorem qkq:PE X (.Dict [] [] pos) qoL:=λpins s σ H Q I h=>
 wpAny_Dict_empty ⟨.ref s.heap.objs.size,_,I.laid (a:=s.heap.objs.size) (o:=.dK []) (t':=s.toks) (λ_ _ q=>Vh _ q) (Vm _) (qk3 s.heap I.big),rfl,h _ (I.hok.fresh (Vm _))⟩
end
structure M1(X:Cx)(o:Expr)(m:Str)(apos:Pos)(e:Expr)(cpos:Pos):Prop where
 base:attributeBase o m X.env (eval o X.env)=eval o X.env
 few:((backTo cpos (starEach [e] X.env)).all (λx=> !x.1)&&(backToKw cpos (keywordEach [] X.env)).all (λx=>x.1.isSome)
  &&decide (([e]:List Expr).length+([]:List Keyword).length+(if([]:List Keyword).isEmpty then 0 else 1)<30))=true
 line:(apos.endLine==cpos.line)=true
 trees:backTo cpos (starEach [e] X.env)=[(false,eval e X.env)]
structure M2(X:Cx)(o:Expr)(m:Str)(apos:Pos)(e f:Expr)(cpos:Pos):Prop where
 base:attributeBase o m X.env (eval o X.env)=eval o X.env
 few:((backTo cpos (starEach [e,f] X.env)).all (λx=> !x.1)&&(backToKw cpos (keywordEach [] X.env)).all (λx=>x.1.isSome)
  &&decide (([e,f]:List Expr).length+([]:List Keyword).length+(if([]:List Keyword).isEmpty then 0 else 1)<30))=true
 line:(apos.endLine==cpos.line)=true
 trees:backTo cpos (starEach [e,f] X.env)=[(false,eval e X.env),(false,eval f X.env)]
noncomputable def IsD(H:Hp)(a:Addr):Prop:=(∃kvs,Rd H a (.dK kvs))\/∃kvs,Rd H a (.dT kvs)
section
theorem qlb(I:Inv X pins σ H s)(e:Rd H a (.dK kvs))(h: ∀p s',H p=none->Inv X pins σ (upd H p (.dK kvs)) s'->Q (.ref p) s'):wpAny (model X.prog X.w) A (call (.type "dict") [.ref a]) Q E s:=by obtain⟨z,hd,vs,rel,dd⟩:=qgf I.hok e;refine kt_call_dict hd dd (by rw[<-rel.length];exact z) λh' bP hs=> ?_;refine h _ _ (I.hok.fresh (Vm _)) (I.laid (a:=s.heap.objs.size) (o:=.dK kvs) (t':=s.toks) (λb q hq=> ?_) (Vm _) (qgY z (beq_eq_false_iff_ne.mpr (Ne.symm (Vo I.big))) rel bP));exact(hs.2 b (Vo (Vj hq))).trans (Vh _ hq)
end
section
theorem qjG:qaC X (.builtin "len") (λxs H Q=> ∃a kvs,xs=[V.ref a]/\H a=some (.dK kvs)/\Q (.int kvs.length) H):=by intro pins s σ H xs us Q I r h;obtain⟨a,kvs,rfl,ha,q⟩:=h;obtain⟨u,rfl,ru⟩:=qdg r;cases ru;exact qtj I (.inl ha) λt s' I'=>⟨.int kvs.length,H,I',⟨t,rfl⟩,q⟩
end
end L2
namespace RH
open PySem L2
abbrev Rw:=Int×Str×Int
noncomputable def qvu(rs:List Rw)(k:Str):List Int:=(rs.filter λr=>decide (r.2.1=k)).map (·.2.2)
noncomputable def outT(g:List Int->Rw->Option Rw)(rs:List Rw)(i:Nat):List Rw:=(List.range i).filterMap λj=>(rs[j]?).bind λr=>g (qvu (rs.take j) r.2.1) r
open PySem.Spec PyProof.Rows
noncomputable def pickL{α:Type}(xs:List α)(lo hi st:Option Int):List α:=(sliceRange (sliceBounds lo hi st xs.length).1 (sliceBounds lo hi st xs.length).2.1 (sliceBounds lo hi st xs.length).2.2).filterMap (xs[·]?)
end RH
namespace L2
open PySem PySem.Spec PyProof.Rows
end L2
namespace RH
open PySem L2
open PySem.Spec PyProof.Rows
end RH
namespace St
open PySem PySem.W PySem.Calls PyProof.Rows
section
theorem qfP(h:n<2):qdd kz n (List.toArray (List.range n)):=by refine⟨⟨by simp,λi hi=> ?_,λi q1 q2=>by lia⟩,λi j aL hj=>by lia⟩;unfold g;rw[Array.getD_eq_getD_getElem?];simp[hi]
theorem qns {s:Shared} {vs:List Value} {kz:List Int} {h0:Heap} {n:Nat} (ho:s.heap.get? D=some (seqObj "list" vs.toArray n)) (hlen:kz.length=vs.length) (d9:vs.length<64) (kp:Kp h0 s.heap) (jb:h0.get? D=none) (kind: ∀s':Shared,Kp h0 s'.heap->2<=vs.length->∀Q:SortKind->Shared->Prop,Q κ s'->wpAny (model prog w) A (keyKind' vs.toArray) Q E s') (cmp: ∀s':Shared,Kp h0 s'.heap->∀i j,i<vs.length->j<vs.length->∀C:Bool->Shared->Prop,C (decide (kz.getD i 0<kz.getD j 0)) s'->wpAny (model prog w) A (keyLt' κ (vs.getD i Value.none) (vs.getD j Value.none)) C (λ_ _=>False) s') (h: ∀h' tk c (p:Array Nat),Kp h0 h'->qdd kz vs.length p->h'.get? D=some (seqObj "list" (List.toArray (p.toList.map λi=>vs.getD i Value.none)) c)->P (.done (.ret .none)) { s with heap:=h',toks:=tk }):
  wpAny (model prog w) A (Builtin.«list.sort» ⟨[.ref D],[]⟩) P E s:=by
 rw[list_sort_plain];have s1:=Heap.SameBut.update s.heap D (Obj.mapSeq λ_=>(#[]:Array Value));obtain⟨e1,ho1⟩: ∃e1,(s.heap.update D (Obj.mapSeq λ_=>(#[]:Array Value))).get? D=some (seqObj "list" #[] e1):=⟨_,get?_update_seq ho λ_=> #[]⟩
 refine Va (listItems_at ho rfl ?_);refine Va (listUpdate_at ho rfl ?_ (by rw[List.size_toArray,sizeLine_eq];lia) (Nat.zero_le _));refine Va (seqEpoch_at ho1 rfl ?_);generalize ja:s.heap.update D (Obj.mapSeq λ_=>(#[]:Array Value))=H2 at ho1 s1⊢;have kp3:Kp h0 H2:=λb o z=>(s1.2 b (λq=>by rw[q,jb] at z;cases z)).trans (kp b o z);refine Va (wpAny_newTuple ?_ (by show vs.length<=_;rw[sizeLine_eq];lia));refine Va (wpAny_newList ?_ (Nat.zero_le _));refine wpAny_holding ?_;generalize fh:(H2.push (seqObj "tuple" vs.toArray 0)).push (seqObj "list" #[] 0)=H3;have ig:H3.get? D=some (seqObj "list" #[] e1):=by rw[<-fh];exact Vh _ (Vh _ ho1)
 have gv:Kp h0 H3:=λb o z=>by rw[<-fh];exact Vh _ (Vh _ (kp3 b o z))
 have fin: ∀(st:SortSt) (p:Array Nat),qdd kz vs.length p->(arrOf st).map (·.2)=List.toArray (p.toList.map λi=>vs.getD i Value.none)->failedOf st=none->
   wpAny (model prog w) A (do
    let touched:=(<-seqEpoch D) != e1
    Builtin.List.listUpdate (.ref D) λ_=>(arrOf st).map (·.2)
    if let some e:=failedOf st then rule "list.sort.comparison-raised";throw e
    if touched then rule "list.sort.modified";raiseError "ValueError" "list modified during sort"
    ret .none) P E { s with heap:=H3 }:=λst p bj ia hfl=>by
  have hsz:(p.toList.map λi=>vs.getD i Value.none).length=vs.length:=by rw[List.length_map,Array.length_toList,bj.1.sz]
  refine Va (seqEpoch_at ig rfl ?_);rw[ia];refine Va (listUpdate_at ig rfl ?_ (Nat.zero_le _) (by show(List.toArray _).size<=_;rw[List.size_toArray,hsz,sizeLine_eq];lia));rw[hfl];simp only[bne_self_eq_false,Bool.false_eq_true,if_false];have g7: ∃c,(H3.update D (Obj.mapSeq λ_=>List.toArray (p.toList.map λi=>vs.getD i Value.none))).get? D=some (seqObj "list" (List.toArray (p.toList.map λi=>vs.getD i Value.none)) c):=⟨_,get?_update_seq ig λ_=>List.toArray (p.toList.map λi=>vs.getD i Value.none)⟩
  obtain⟨c,hc⟩:=g7;refine Vb (h _ _ c p (λb o q=> ?_) bj hc);have nD:b≠D:=λz=>by rw[z,jb] at q;cases q
  exact((Heap.SameBut.update H3 D _).2 b nD).trans (gv b o q)
 by_cases h2:vs.toArray.size<2
 ·rw[if_pos h2,if_pos h2];refine Va (Vb ?_);dsimp only;rw[StateT.run_pure];refine Va (Vb ?_);rw[List.size_toArray] at h2;refine fin _ _ (qfP h2) ?_ rfl;show(vs.toArray.zip vs.toArray).map (·.2)=_;apply Array.toList_inj.mp;rw[Array.toList_map,ksk_zip,List.toList_toArray,List.toList_toArray];rw[show(vs.zip vs).map (λx:Value×Value=>x.2)=vs from List.map_snd_zip (by lia)];apply List.ext_getElem
  ·simp
  ·intro i h3 h4;simp[List.getElem?_eq_getElem h3]
 ·rw[if_neg h2,if_neg h2];rw[List.size_toArray] at h2;refine Va (kind { s with heap:=H3 } gv (by lia) _ ?_)
  have run:=kat_run (prog:=prog) (w:=w) (A:=A) (E:=E) (s:={ s with heap:=H3 }) (κ:=κ) (ks:=vs) (vs:=vs) (Q:=λst s'=>s'={ s with heap:=H3 }/\∃p,qdd kz vs.length p/\(arrOf st).map (·.2)=List.toArray (p.toList.map λi=>vs.getD i Value.none)/\failedOf st=none)
   (G:=λp s'=>s'={ s with heap:=H3 }/\qdd kz vs.length p) rfl (by lia) d9 (λp bg s' a1 a2 a3 a4=>⟨a4.1,p,a4.2,kat_snds rfl a2,a3⟩)
   (qi9 (ask:=qb3 λi=>kz.getD i 0) (N:=vs.length) (λi j C hi hj hc=>cmp { s with heap:=H3 } gv i j hi hj C hc) (λp hp=>⟨rfl,hp⟩) (qmD (by lia)))
  refine Va (Vc run (λr s' hr=> ?_) λ_ _ x=>x);obtain⟨rfl,p,bj,ia,hf⟩:=hr;exact fin _ p bj ia hf
end
end St
namespace SR
section
noncomputable def ins{α:Type}(k:α->Int)(r:α):List α->List α
 |[]=>[r]
 |x::l=>if k x<=k r then x::ins k r l else r::x::l
noncomputable def srt{α:Type}(k:α->Int)(l:List α):List α:=l.foldl (λa r=>ins k r a) []
theorem qdX:srt k (l++[r])=ins k r (srt k l):=by unfold srt;rw[List.foldl_append];rfl
theorem qi4{α:Type}{β:Type}{k:α->Int}{k':β->Int}{f:β->α}(h: ∀b,k' b=k (f b))(r:β): ∀l:List β,(ins k' r l).map f=ins k (f r) (l.map f)
 |[]=>rfl
 |x::l=>by
  show List.map f (if k' x<=k' r then x::ins k' r l else r::x::l)=(if k (f x)<=k (f r) then f x::ins k (f r) (l.map f) else f r::f x::l.map f)
  rw[h x,h r];by_cases c:k (f x)<=k (f r)
  ·rw[if_pos c,if_pos c,List.map_cons,qi4 h r l]
  ·rw[if_neg c,if_neg c,List.map_cons,List.map_cons]
theorem qmC{α:Type}{β:Type}{k:α->Int}{k':β->Int}{f:β->α}(h: ∀b,k' b=k (f b))(l:List β):(srt k' l).map f=srt k (l.map f):=by
 have go: ∀(l a:List β),(l.foldl (λa r=>ins k' r a) a).map f=(l.map f).foldl (λa r=>ins k r a) (a.map f):=by
  intro l
  induction l with
  |nil=>intro a;rfl
  |cons x l ih=>intro a;rw[List.foldl_cons,ih,List.map_cons,List.foldl_cons,qi4 h]
 exact go l []
theorem qfZ: ∀{l:List α},x∈ins k r l↔x=r\/x∈l
 |[]=>by simp[ins]
 |y::l=>by
  unfold ins;by_cases c:k y<=k r
  ·rw[if_pos c,List.mem_cons,qfZ,List.mem_cons];constructor
   ·rintro(h|h|h)
    ·exact .inr (.inl h)
    ·exact .inl h
    ·exact .inr (.inr h)
   ·rintro(h|h|h)
    ·exact .inr (.inl h)
    ·exact .inl h
    ·exact .inr (.inr h)
  ·rw[if_neg c,List.mem_cons]
theorem qdB: ∀{l:List α},(ins k r l).length=l.length+1
 |[]=>rfl
 |y::l=>by
  unfold ins;by_cases c:k y<=k r
  ·rw[if_pos c,List.length_cons,qdB,List.length_cons]
  ·rw[if_neg c];rfl
theorem qea(l:List α):x∈srt k l↔x∈l:=by
 have go: ∀(l a:List α),x∈l.foldl (λa r=>ins k r a) a↔x∈a\/x∈l:=by
  intro l
  induction l with
  |nil=>intro a;simp
  |cons y l ih=>
   intro a;rw[List.foldl_cons,ih,qfZ,List.mem_cons];constructor
   ·rintro((h|h)|h)
    ·exact .inr (.inl h)
    ·exact .inl h
    ·exact .inr (.inr h)
   ·rintro(h|h|h)
    ·exact .inl (.inr h)
    ·exact .inl (.inl h)
    ·exact .inr h
 rw[show srt k l=l.foldl (λa r=>ins k r a) [] from rfl,go];simp
theorem qhx(l:List α):(srt k l).length=l.length:=by
 have go: ∀(l a:List α),(l.foldl (λa r=>ins k r a) a).length=a.length+l.length:=by
  intro l
  induction l with
  |nil=>intro a;simp
  |cons y l ih=>intro a;rw[List.foldl_cons,ih,qdB,List.length_cons];lia
 have:=go l [];simpa [srt] using this
end
section
structure Ord(lt:α->α->Bool):Prop where
 irr: ∀a,lt a a=false
 tr: ∀a b c,lt a b=true->lt b c=true->lt a c=true
 tot: ∀a b,lt a b=false->lt b a=false->a=b
noncomputable def qgI{α:Type}(lt:α->α->Bool)(as:List α)(a:α):Int:=(as.countP λx=>lt x a:Nat)
theorem qfo{α:Type}{p q:α->Bool}(h: ∀x,p x=true->q x=true): ∀l:List α,l.countP p<=l.countP q
 |[]=>Vm _
 |x::l=>by
  have ih:=qfo h l;rw[List.countP_cons,List.countP_cons];cases e:p x with
  |true=>rw[h x e];simp;exact ih
  |false=>simp;lia
theorem qfn{α:Type}{p q:α->Bool}(h: ∀x,p x=true->q x=true){a:α}(ha:p a=false)(hb:q a=true): ∀{l:List α},a∈l->l.countP p<l.countP q
 |x::l,hm=>by
  rw[List.countP_cons,List.countP_cons];have le:=qfo h l
  rcases List.mem_cons.mp hm with rfl|hm
  ·rw[ha,hb];simp;lia
  ·have ih:=qfn h ha hb hm;cases e:p x with
   |true=>rw[h x e];simp;exact ih
   |false=>simp;lia
theorem qmI{α:Type}{lt:α->α->Bool}(o:Ord lt){as:List α}{a b:α}(ha:a∈as)(hb:b∈as):decide (qgI lt as a<qgI lt as b)=lt a b:=by
 have up: ∀{a b:α},a∈as->lt a b=true->qgI lt as a<qgI lt as b:=λ{a b} ha h=>by unfold qgI;have:=qfn (p:=λx=>lt x a) (q:=λx=>lt x b) (λx hx=>o.tr x a b hx h) (o.irr a) h ha;lia
 cases h:lt a b with
 |true=>exact decide_eq_true (up ha h)
 |false=>
  refine Vw ?_;cases h2:lt b a with
  |true=>have:=up hb h2;lia
  |false=>have:=o.tot a b h h2;subst this;lia
noncomputable def qoR{α:Type}(lt:α->α->Bool)(as:List α):List α:=srt (qgI lt as) as
end
end SR
namespace L2
open PySem PySem.Spec PySem.Calls PyProof.Rows PySem.W
noncomputable def qd3(K:Frag)(N:Addr):Bool:=nsOkIn K N&&qhl.all λn=>nsIn K N n==some none
theorem qbe{K:Frag}{h:Heap}(X:K.In h)(e:qd3 K N=true):h.Ns N (h.nsMap N)/\∀n∈qhl,h.nsMap N n=none:=by unfold qd3 at e;rw[Bool.and_eq_true] at e;exact⟨.of_isNs (isNs_of_in X e.1),λn hn=>nsMap_none_of_in X e.1 (beq_iff_eq.mp (List.all_eq_true.mp e.2 n hn))⟩
noncomputable def qdU(K:Frag)(bmB:List Value):List Value->Bool
 |[]=>bmB==[]
 |v::r=>(v::r)==bmB||match v with
  |.ref A=>(match K.lookup A with
   |some ⟨_,_,.cls cd,_⟩=>qd3 K cd.ns&&qdU K bmB r
   |_=>false)
  |_=>false
theorem qcH{K:Frag}(X:K.In h): ∀{l:List Value},qdU K bmB l=true->qbD h bmB l
 |[],e=>by rw[<-beq_iff_eq.mp e];exact .base
 |v::r,e=>by
  unfold qdU at e
  rcases Bool.or_eq_true_iff.mp e with q|q
  ·rw[beq_iff_eq.mp q];exact .base
  ·split at q
   ·split at q
    ·rename_i ho;rw[Bool.and_eq_true] at q;exact .own (X _ _ ho) (qbe X q.1).1 (qbe X q.1).2 (qcH X q.2)
    ·cases q
   ·cases q
noncomputable def qcZ(K:Frag)(C:Addr)(bm:List Value):Bool:=match K.lookup C with
 |some ⟨.type "type",_,.cls cd,sl⟩=>(match cd.mro,sl.toList with
  |.ref C'::jm,[_,_,_,_,some (.builtin n),_]=>C'==C&&jm==bm&&n== "ValueError.__new__" && !cd.hasDel&&qdU K bmV bm&&qd3 K cd.ns
  |_,_=>false)
 |_=>false
theorem qcd{K:Frag}(X:K.In h)(q:qcZ K C bm=true):qdf h C bm:=by
 unfold qcZ at q;split at q
 ·rename_i dd cd sl ho;split at q
  ·rename_i C' jm k0 k1 k2 k3 n k5 hm hs;simp only[Bool.and_eq_true,beq_iff_eq,Bool.not_eq_true'] at q;obtain⟨⟨⟨⟨⟨rfl,rfl⟩,rfl⟩,eY⟩,ht⟩,hok⟩:=q;obtain⟨nm,bs,mro,ns,qn,hd,sn,sub,ab,col,del⟩:=cd;dsimp only at hm eY hok;subst hm eY;have hsl:sl= #[k0,k1,k2,k3,some (.builtin "ValueError.__new__"),k5]:=by obtain⟨l⟩:=sl;simp only at hs;rw[hs]
   subst hsl;exact⟨ns,nm,qn,bs,hd,sn,sub,ab,col,dd,k0,k1,k2,k3,k5,_,X _ _ ho,(qbe X hok).1,(qbe X hok).2,qcH X ht⟩
  ·cases q
 ·cases q
end L2
namespace NV
open PySem L2
inductive T where
 |non|bl (b:Bool)|int (i:Int)|str (s:Str)|tup (ts:List T)|lst (ts:List T)|dct (kvs:List (Key×T))|fn (x:Str)|scr (ns:List Int)|obj (k:Nat)|exc (c:Str)
inductive Ct where
 |ls (ts:List T)|dk (kvs:List (Key×T))|du (kvs:List (List Key×T))|ins (c:Str) (fs:List (Str×T))|gone
structure Mu where
 l:List Ct
 k:List (Nat×Nat)
mutual
noncomputable def ub:T->Nat
 |.obj k=>k+1
 |.tup ts=>ubs ts
 |.lst ts=>ubs ts
 |.dct kvs=>ubd kvs
 |_=>0
noncomputable def ubs:List T->Nat
 |[]=>0
 |t::ts=>max (ub t) (ubs ts)
noncomputable def ubd:List (Key×T)->Nat
 |[]=>0
 |(_,t)::ts=>max (ub t) (ubd ts)
end
noncomputable def ubf{κ:Type}:List (κ×T)->Nat
 |[]=>0
 |(_,t)::ts=>max (ub t) (ubf ts)
noncomputable def ubC:Ct->Nat
 |.ls ts=>ubs ts
 |.dk kvs=>ubf kvs
 |.du kvs=>ubf kvs
 |.ins _ fs=>ubf fs
 |.gone=>0
noncomputable def Mu.put(m:Mu)(k:Nat)(c:Ct):Mu:=⟨m.l.set k c,if ubC c<=k then m.k else(k,ubC c)::m.k⟩
noncomputable def Mu.add(m:Mu)(c:Ct):Mu:=⟨m.l++[c],if ubC c<=m.l.length then m.k else(m.l.length,ubC c)::m.k⟩
inductive R(α:Type) where
 |no|ok (a:α) (m:Mu)|ex (c:Str) (m:Mu)
noncomputable def R.bind{α β:Type}:R α->(α->Mu->R β)->R β
 |.no,_=>.no
 |.ok a m,f=>f a m
 |.ex c m,_=>.ex c m
@[simp] theorem qaq{α β:Type}(a:α)(m:Mu)(f:α->Mu->R β):(R.ok a m).bind f=f a m:=rfl
@[simp] theorem qsv{α β:Type}(f:α->Mu->R β):(R.no:R α).bind f= .no:=rfl
@[simp] theorem qs7{α β:Type}(c:Str)(m:Mu)(f:α->Mu->R β):(R.ex c m:R α).bind f= .ex c m:=rfl
structure qaj where
 hp:Hp
 ad:Nat->Option Addr
instance:CoeFun qaj λ_=>Addr->Option HO:=⟨qaj.hp⟩
noncomputable def clA(K:PySem.W.Frag)(x:Str):Addr:=match PySem.W.nsIn K mainGlobals x with
 |some (some (.ref C))=>C
 |_=>0
mutual
noncomputable def Rep(K:PySem.W.Frag)(B:qaj):T->V->Prop
 |.non,v=>v= .non
 |.bl b,v=>v= .bl b
 |.int i,v=>v= .int i
 |.str s,v=>v= .str s
 |.tup ts,v=> ∃p vs,v= .ref p/\B p=some (.tup vs)/\Reps K B ts vs
 |.lst ts,v=> ∃p vs,v= .ref p/\B p=some (.lst vs)/\Reps K B ts vs
 |.dct kvs,v=> ∃p us,v= .ref p/\B p=some (.dK us)/\RepD K B kvs us
 |.fn x,v=> ∃f,v= .ref f/\PySem.W.nsIn K mainGlobals x=some (some (.ref f))
 |.scr ns,v=> ∃p,v= .ref p/\SqL K B.hp p (ns.map V.int)
 |.obj k,v=> ∃a,v= .ref a/\B.ad k=some a
 |.exc c,v=> ∃a,v= .ref a/\B a=some (ExO a (clA K c))
noncomputable def Reps(K:PySem.W.Frag)(B:qaj):List T->List V->Prop
 |[],vs=>vs=[]
 |t::ts,vs=> ∃v r,vs=v::r/\Rep K B t v/\Reps K B ts r
noncomputable def RepD(K:PySem.W.Frag)(B:qaj):List (Key×T)->List (Key×V)->Prop
 |[],vs=>vs=[]
 |(k,t)::ts,vs=> ∃v r,vs=(k,v)::r/\Rep K B t v/\RepD K B ts r
end
noncomputable def qba(K:PySem.W.Frag)(B:qaj){κ:Type}:List (κ×T)->List (κ×V)->Prop
 |[],vs=>vs=[]
 |(k,t)::ts,vs=> ∃v r,vs=(k,v)::r/\Rep K B t v/\qba K B ts r
structure Le(B B':qaj):Prop where
 h: ∀a o,B a=some o->B' a=some o
 d: ∀k a,B.ad k=some a->B'.ad k=some a
theorem Le.refl(B:qaj):Le B B:=⟨λ_ _ h=>h,λ_ _ h=>h⟩
theorem Le.trans{A B C:qaj}(h:Le A B)(h':Le B C):Le A C:=⟨λa o e=>h'.h a o (h.h a o e),λa o e=>h'.d a o (h.d a o e)⟩
theorem qig{K:PySem.W.Frag}{B B':Hp}{p:Addr}{vs:List V}(h: ∀a o,B a=some o->B' a=some o)(q:SqL K B p vs):SqL K B' p vs:=by
 rcases q with(q|⟨o,q⟩)|q
 ·exact .inl (.inl (h _ _ q))
 ·exact .inl (.inr ⟨o,h _ _ q⟩)
 ·exact .inr q
mutual
theorem Rep.mono{K:PySem.W.Frag}{B B':qaj}(h:Le B B'): ∀{t:T} {v:V},Rep K B t v->Rep K B' t v
 |.non,_,r=>r
 |.bl _,_,r=>r
 |.int _,_,r=>r
 |.str _,_,r=>r
 |.fn _,_,r=>by unfold Rep at r⊢;exact r
 |.tup _,_,r=>by unfold Rep at r⊢;obtain⟨p,vs,e,q,rs⟩:=r;exact⟨p,vs,e,h.h _ _ q,Reps.mono h rs⟩
 |.lst _,_,r=>by unfold Rep at r⊢;obtain⟨p,vs,e,q,rs⟩:=r;exact⟨p,vs,e,h.h _ _ q,Reps.mono h rs⟩
 |.dct _,_,r=>by unfold Rep at r⊢;obtain⟨p,vs,e,q,rs⟩:=r;exact⟨p,vs,e,h.h _ _ q,RepD.mono h rs⟩
 |.obj _,_,r=>by unfold Rep at r⊢;obtain⟨a,e,q⟩:=r;exact⟨a,e,h.d _ _ q⟩
 |.exc _,_,r=>by unfold Rep at r⊢;obtain⟨a,e,q⟩:=r;exact⟨a,e,h.h _ _ q⟩
 |.scr _,_,r=>by unfold Rep at r⊢;obtain⟨p,e,q⟩:=r;exact⟨p,e,qig h.h q⟩
theorem Reps.mono{K:PySem.W.Frag}{B B':qaj}(h:Le B B'): ∀{ts:List T} {vs:List V},Reps K B ts vs->Reps K B' ts vs
 |[],_,r=>r
 |_::_,_,r=>by unfold Reps at r⊢;obtain⟨v,r',e,a,b⟩:=r;exact⟨v,r',e,Rep.mono h a,Reps.mono h b⟩
theorem RepD.mono{K:PySem.W.Frag}{B B':qaj}(h:Le B B'): ∀{ts:List (Key×T)} {vs:List (Key×V)},RepD K B ts vs->RepD K B' ts vs
 |[],_,r=>r
 |(_,_)::_,_,r=>by unfold RepD at r⊢;obtain⟨v,r',e,a,b⟩:=r;exact⟨v,r',e,Rep.mono h a,RepD.mono h b⟩
end
section
variable {K:PySem.W.Frag}{B B':qaj}
theorem qba.mono{κ:Type}(h:Le B B'): ∀{ts:List (κ×T)} {vs:List (κ×V)},qba K B ts vs->qba K B' ts vs
 |[],_,r=>r
 |(_,_)::_,_,⟨v,r',e,a,b⟩=>⟨v,r',e,a.mono h,b.mono h⟩
theorem qgH: ∀{ts:List (Key×T)} {vs:List (Key×V)},qba K B ts vs↔RepD K B ts vs
 |[],_=>by unfold RepD qba;exact Iff.rfl
 |(_,_)::_,_=>by unfold RepD;exact⟨λ⟨v,r,e,a,b⟩=>⟨v,r,e,a,qgH.mp b⟩,λ⟨v,r,e,a,b⟩=>⟨v,r,e,a,qgH.mpr b⟩⟩
theorem Reps.nil:Reps K B [] []:=by unfold Reps;rfl
theorem Reps.cons{t:T}{v:V}{ts:List T}{vs:List V}(h:Rep K B t v)(r:Reps K B ts vs):Reps K B (t::ts) (v::vs):=by unfold Reps;exact⟨v,vs,rfl,h,r⟩
theorem Reps.inv{t:T}{ts:List T}{vs:List V}(h:Reps K B (t::ts) vs): ∃v r,vs=v::r/\Rep K B t v/\Reps K B ts r:=by unfold Reps at h;exact h
theorem Reps.inv0{vs:List V}(h:Reps K B [] vs):vs=[]:=by unfold Reps at h;exact h
theorem Reps.length: ∀{ts:List T} {vs:List V},Reps K B ts vs->vs.length=ts.length
 |[],_,h=>by rw[h.inv0];rfl
 |_::_,_,h=>by obtain⟨v,r,rfl,_,h'⟩:=h.inv;simp[Reps.length h']
theorem Reps.get: ∀{ts:List T} {vs:List V} {i:Nat} {t:T},Reps K B ts vs->ts[i]? =some t->∃v,vs[i]? =some v/\Rep K B t v
 |[],_,_,_,_,e=>by simp at e
 |_::_,_,0,_,h,e=>by obtain⟨v,r,rfl,a,_⟩:=h.inv;simp at e;subst e;exact⟨v,rfl,a⟩
 |_::_,_,i+1,t,h,e=>by obtain⟨v,r,rfl,_,h'⟩:=h.inv;obtain⟨u,e1,e2⟩:=Reps.get (i:=i) h' (by simpa using e);exact⟨u,by simpa using e1,e2⟩
theorem Reps.of_get{ts:List T}{vs:List V}(hl:vs.length=ts.length)(h: ∀(i:Nat) (t:T) (v:V),ts[i]? =some t->vs[i]? =some v->Rep K B t v):Reps K B ts vs:=by
 induction ts generalizing vs with
 |nil=>cases vs with
  |nil=>exact .nil
  |cons _ _=>cases hl
 |cons t ts ih=>cases vs with
  |nil=>cases hl
  |cons v vs=>exact .cons (h 0 t v rfl rfl) (ih (by simpa using hl) λi t' v' a b=>h (i+1) t' v' (by simpa using a) (by simpa using b))
theorem Reps.append: ∀{ts us:List T} {vs ws:List V},Reps K B ts vs->Reps K B us ws->Reps K B (ts++us) (vs++ws)
 |[],_,_,_,h,h'=>by rw[h.inv0];exact h'
 |_::_,_,_,_,h,h'=>by obtain⟨v,r,rfl,a,b⟩:=h.inv;exact .cons a (Reps.append b h')
theorem Reps.one{t:T}{v:V}(r:Rep K B t v):Reps K B [t] [v]:=.cons r .nil
theorem Reps.take{ts:List T}{vs:List V}(n:Nat)(h:Reps K B ts vs):Reps K B (ts.take n) (vs.take n):=by
 refine .of_get (by simp[h.length]) λi t v a b=> ?_;rw[List.getElem?_take] at a b;split at a
 ·rename_i hi;rw[if_pos hi] at b;obtain⟨u,e1,e2⟩:=h.get a;rw[b] at e1;cases e1;exact e2
 ·cases a
theorem Reps.drop{ts:List T}{vs:List V}(n:Nat)(h:Reps K B ts vs):Reps K B (ts.drop n) (vs.drop n):=by refine .of_get (by simp[h.length]) λi t v a b=> ?_;rw[List.getElem?_drop] at a b;obtain⟨u,e1,e2⟩:=h.get a;rw[b] at e1;cases e1;exact e2
theorem Reps.set{ts:List T}{vs:List V}{t:T}{v:V}(n:Nat)(h:Reps K B ts vs)(r:Rep K B t v):Reps K B (ts.set n t) (vs.set n v):=by
 refine .of_get (by simp[h.length]) λi t' v' a b=> ?_;have hl:=h.length;rw[List.getElem?_set] at a b;by_cases hi:n=i
 ·subst hi;rw[if_pos rfl] at a b;split at a
  ·split at b
   ·cases a;cases b;exact r
   ·cases b
  ·cases a
 ·rw[if_neg hi] at a b;obtain⟨u,e1,e2⟩:=h.get a;rw[b] at e1;cases e1;exact e2
theorem Reps.getD{ts:List T}{vs:List V}(h:Reps K B ts vs)(j:Nat)(hj:j<ts.length):Rep K B (ts.getD j .non) (vs.getD j .non):=by obtain⟨u,e1,e2⟩:=h.get (Vx hj);rw[List.getD_eq_getElem?_getD,List.getD_eq_getElem?_getD,e1,List.getElem?_eq_getElem hj];exact e2
theorem qba.length{κ:Type}: ∀{ts:List (κ×T)} {vs:List (κ×V)},qba K B ts vs->vs.length=ts.length
 |[],_,h=>by rw[show _=_ from h];rfl
 |(_,_)::_,_,⟨v,r,e,_,h⟩=>by rw[e];simp[qba.length h]
theorem qbO{b:Bool}{v:V}(r:Rep K B (.bl b) v):v= .bl b:=by unfold Rep at r;exact r
theorem qae{b:Int}{v:V}(r:Rep K B (.int b) v):v= .int b:=by unfold Rep at r;exact r
theorem qaw{b:Str}{v:V}(r:Rep K B (.str b) v):v= .str b:=by unfold Rep at r;exact r
theorem qcJ{v:V}(r:Rep K B .non v):v= .non:=by unfold Rep at r;exact r
theorem qar{ts:List T}{v:V}(r:Rep K B (.tup ts) v): ∃p vs,v= .ref p/\B p=some (.tup vs)/\Reps K B ts vs:=by unfold Rep at r;exact r
theorem qax{ts:List T}{v:V}(r:Rep K B (.lst ts) v): ∃p vs,v= .ref p/\B p=some (.lst vs)/\Reps K B ts vs:=by unfold Rep at r;exact r
theorem qfO{ts:List (Key×T)}{v:V}(r:Rep K B (.dct ts) v): ∃p vs,v= .ref p/\B p=some (.dK vs)/\qba K B ts vs:=by unfold Rep at r;obtain⟨p,vs,a,b,c⟩:=r;exact⟨p,vs,a,b,qgH.mpr c⟩
theorem qaz{k:Nat}{v:V}(r:Rep K B (.obj k) v): ∃a,v= .ref a/\B.ad k=some a:=by unfold Rep at r;exact r
theorem qmH{c:Str}{v:V}(r:Rep K B (.exc c) v): ∃a,v= .ref a/\B a=some (ExO a (clA K c)):=by unfold Rep at r;exact r
theorem qa8{b:Bool}:Rep K B (.bl b) (.bl b):=by unfold Rep;rfl
theorem qaR{b:Int}:Rep K B (.int b) (.int b):=by unfold Rep;rfl
theorem qcm{b:Str}:Rep K B (.str b) (.str b):=by unfold Rep;rfl
theorem qdx:Rep K B .non .non:=by unfold Rep;rfl
theorem qcQ{ts:List T}{p:Addr}{vs:List V}(h:B p=some (.tup vs))(r:Reps K B ts vs):Rep K B (.tup ts) (.ref p):=by unfold Rep;exact⟨p,vs,rfl,h,r⟩
theorem qcn{ts:List T}{p:Addr}{vs:List V}(h:B p=some (.lst vs))(r:Reps K B ts vs):Rep K B (.lst ts) (.ref p):=by unfold Rep;exact⟨p,vs,rfl,h,r⟩
theorem qe0{ts:List (Key×T)}{p:Addr}{vs:List (Key×V)}(h:B p=some (.dK vs))(r:qba K B ts vs):Rep K B (.dct ts) (.ref p):=by unfold Rep;exact⟨p,vs,rfl,h,qgH.mp r⟩
theorem qdw{k:Nat}{a:Addr}(h:B.ad k=some a):Rep K B (.obj k) (.ref a):=by unfold Rep;exact⟨a,rfl,h⟩
end
section
variable {K:PySem.W.Frag}{B:qaj}{n:Nat}
noncomputable def qaj.cut(B:qaj)(n:Nat):qaj:=⟨B.hp,λj=>if j<n then B.ad j else none⟩
mutual
theorem Rep.cut: ∀{t:T} {v:V},Rep K B t v->ub t<=n->Rep K (B.cut n) t v
 |.non,_,r,_=>r
 |.bl _,_,r,_=>r
 |.int _,_,r,_=>r
 |.str _,_,r,_=>r
 |.fn _,_,r,_=>by unfold Rep at r⊢;exact r
 |.tup _,_,r,h=>by unfold Rep at r⊢;unfold ub at h;obtain⟨p,vs,e,q,rs⟩:=r;exact⟨p,vs,e,q,Reps.cut rs h⟩
 |.lst _,_,r,h=>by unfold Rep at r⊢;unfold ub at h;obtain⟨p,vs,e,q,rs⟩:=r;exact⟨p,vs,e,q,Reps.cut rs h⟩
 |.dct _,_,r,h=>by unfold Rep at r⊢;unfold ub at h;obtain⟨p,vs,e,q,rs⟩:=r;exact⟨p,vs,e,q,RepD.cut rs h⟩
 |.obj _,_,r,h=>by unfold Rep at r⊢;unfold ub at h;obtain⟨a,e,q⟩:=r;exact⟨a,e,by show(if _ then _ else _)=_;rw[if_pos (show _<n from h)];exact q⟩
 |.exc _,_,r,_=>by unfold Rep at r⊢;exact r
 |.scr _,_,r,_=>by unfold Rep at r⊢;exact r
theorem Reps.cut: ∀{ts:List T} {vs:List V},Reps K B ts vs->ubs ts<=n->Reps K (B.cut n) ts vs
 |[],_,r,_=>r
 |_::_,_,r,h=>by unfold Reps at r⊢;unfold ubs at h;obtain⟨v,r',e,a,b⟩:=r;exact⟨v,r',e,Rep.cut a (Vq (Nat.le_max_left _ _) h),Reps.cut b (Vq (Nat.le_max_right _ _) h)⟩
theorem RepD.cut: ∀{ts:List (Key×T)} {vs:List (Key×V)},RepD K B ts vs->ubd ts<=n->RepD K (B.cut n) ts vs
 |[],_,r,_=>r
 |(_,_)::_,_,r,h=>by unfold RepD at r⊢;unfold ubd at h;obtain⟨v,r',e,a,b⟩:=r;exact⟨v,r',e,Rep.cut a (Vq (Nat.le_max_left _ _) h),RepD.cut b (Vq (Nat.le_max_right _ _) h)⟩
end
theorem qba.cut{κ:Type}: ∀{ts:List (κ×T)} {vs:List (κ×V)},qba K B ts vs->ubf ts<=n->qba K (B.cut n) ts vs
 |[],_,r,_=>r
 |(_,_)::_,_,⟨v,r',e,a,b⟩,h=>by unfold ubf at h;exact⟨v,r',e,Rep.cut a (Vq (Nat.le_max_left _ _) h),qba.cut b (Vq (Nat.le_max_right _ _) h)⟩
mutual
theorem Rep.ub(hd: ∀k a,B.ad k=some a->k<n): ∀{t:T} {v:V},Rep K B t v->ub t<=n
 |.non,_,_=>Nat.zero_le _
 |.bl _,_,_=>Nat.zero_le _
 |.int _,_,_=>Nat.zero_le _
 |.str _,_,_=>Nat.zero_le _
 |.fn _,_,_=>Nat.zero_le _
 |.tup _,_,r=>by unfold Rep at r;unfold NV.ub;obtain⟨p,vs,e,q,rs⟩:=r;exact Reps.ub hd rs
 |.lst _,_,r=>by unfold Rep at r;unfold NV.ub;obtain⟨p,vs,e,q,rs⟩:=r;exact Reps.ub hd rs
 |.dct _,_,r=>by unfold Rep at r;unfold NV.ub;obtain⟨p,vs,e,q,rs⟩:=r;exact RepD.ub hd rs
 |.obj _,_,r=>by unfold Rep at r;unfold NV.ub;obtain⟨a,e,q⟩:=r;exact hd _ _ q
 |.exc _,_,_=>Nat.zero_le _
 |.scr _,_,_=>Nat.zero_le _
theorem Reps.ub(hd: ∀k a,B.ad k=some a->k<n): ∀{ts:List T} {vs:List V},Reps K B ts vs->ubs ts<=n
 |[],_,_=>Nat.zero_le _
 |_::_,_,r=>by unfold Reps at r;unfold ubs;obtain⟨v,r',e,a,b⟩:=r;exact Nat.max_le.mpr ⟨Rep.ub hd a,Reps.ub hd b⟩
theorem RepD.ub(hd: ∀k a,B.ad k=some a->k<n): ∀{ts:List (Key×T)} {vs:List (Key×V)},RepD K B ts vs->ubd ts<=n
 |[],_,_=>Nat.zero_le _
 |(_,_)::_,_,r=>by unfold RepD at r;unfold ubd;obtain⟨v,r',e,a,b⟩:=r;exact Nat.max_le.mpr ⟨Rep.ub hd a,RepD.ub hd b⟩
end
theorem qba.ub{κ:Type}(hd: ∀k a,B.ad k=some a->k<n): ∀{ts:List (κ×T)} {vs:List (κ×V)},qba K B ts vs->ubf ts<=n
 |[],_,_=>Nat.zero_le _
 |(_,_)::_,_,⟨v,r',e,a,b⟩=>by unfold ubf;exact Nat.max_le.mpr ⟨Rep.ub hd a,qba.ub hd b⟩
end
structure Gam where
 P:Hp->Prop
 st: ∀H H':Hp,(∀a o,H a=some o->(∀xs,o≠.lst xs)->(∀xs,o≠.dK xs)->(∀xs,o≠.dT xs)->(∀C dx fs,o≠.ins C dx fs)->H' a=some o)->P H->P H'
structure Md where
 K:W.Frag
 G:Gam
noncomputable def qey(K:W.Frag)(B:qaj):Ct->HO->Prop
 |.ls ts,o=> ∃vs,o= .lst vs/\Reps K B ts vs
 |.dk kvs,o=> ∃us,o= .dK us/\qba K B kvs us
 |.du kvs,o=> ∃us,o= .dT us/\qba K B kvs us
 |.ins c fs,o=> ∃dx vs,o= .ins (clA K c) dx vs/\qba K B fs vs
 |.gone,_=>True
theorem qey.mono{K:W.Frag}{B B':qaj}{c:Ct}{o:HO}(h:qey K B c o)(le:Le B B'):qey K B' c o:=by
 cases c with
 |ls ts|dk ts|du ts=>obtain⟨vs,e,r⟩:=h;exact⟨vs,e,r.mono le⟩
 |ins c ts=>obtain⟨dx,vs,e,r⟩:=h;exact⟨dx,vs,e,r.mono le⟩
 |gone=>trivial
noncomputable def Mb(o:HO):Prop:=(∃xs,o= .lst xs)\/(∃xs,o= .dK xs)\/(∃xs,o= .dT xs)\/∃C dx fs,o= .ins C dx fs
theorem qey.mb{K:W.Frag}{B:qaj}{c:Ct}{o:HO}(h:qey K B c o)(n:c≠.gone):Mb o:=by
 cases c with
 |ls ts=>obtain⟨vs,e,r⟩:=h;exact .inl ⟨_,e⟩
 |dk ts=>obtain⟨vs,e,r⟩:=h;exact .inr (.inl ⟨_,e⟩)
 |du ts=>obtain⟨vs,e,r⟩:=h;exact .inr (.inr (.inl ⟨_,e⟩))
 |ins c ts=>obtain⟨dx,vs,e,r⟩:=h;exact .inr (.inr (.inr ⟨_,_,_,e⟩))
 |gone=>exact absurd rfl n
structure Hs(M:Md)(μ:Mu)(H:Hp)(B:qaj):Prop where
 bh: ∀a o,B a=some o->H a=some o
 bt: ∀a ps,B a≠some (.tbl ps)
 gm:M.G.P H
 st: ∀k c,μ.l[k]? =some c->c≠.gone->∃a o,B.ad k=some a/\B a=none/\H a=some o/\qey M.K B c o
 ij: ∀j k a,B.ad j=some a->B.ad k=some a->j=k
 dm: ∀k a,B.ad k=some a->k<μ.l.length/\H a≠none
 lk: ∀k c,μ.l[k]? =some c->ubC c<=k\/∃p∈μ.k,p.1=k/\ubC c<=p.2
 ln: ∀p∈μ.k,p.2<=μ.l.length
noncomputable def qaj.upd(B:qaj)(p:Addr)(o:HO):qaj:=⟨L2.upd B.hp p o,B.ad⟩
noncomputable def qaj.add(B:qaj)(k:Nat)(p:Addr):qaj:=⟨B.hp,λj=>if j=k then some p else B.ad j⟩
section
variable {M:Md}{μ:Mu}{H H':Hp}{B B':qaj}{p a:Addr}{o:HO}{c c':Ct}{k n:Nat}
theorem Hs.fr(h:Hs M μ H B)(hp:H p=none):B p=none:=by
 cases e:B p with
 |none=>rfl
 |some u=>rw[h.bh _ _ e] at hp;cases hp
theorem Hs.upd_le(h:Hs M μ H B)(hp:B p=none):Le B (B.upd p o):=⟨λa u e=>by show L2.upd B.hp p o a=_;rw[qaa (qag e hp)];exact e,λ_ _ e=>e⟩
theorem qlY(h:M.G.P H)(hp:H p=none):M.G.P (L2.upd H p o):=M.G.st H _ (λa u e _ _ _ _=>by rw[qaa (qag e hp)];exact e) h
theorem Hs.more(h:Hs M μ H B)(k: ∀a o,H a=some o->H' a=some o):Hs M μ H' B:=
 ⟨λa o e=>k a o (h.bh a o e),h.bt,M.G.st H H' (λa o e _ _ _ _=>k a o e) h.gm,λj c e n=>by
  obtain⟨a,o,e1,e2,e3,e4⟩:=h.st j c e n;exact⟨a,o,e1,e2,k a o e3,e4⟩,h.ij,λj a e=>⟨(h.dm j a e).1,λz=>by
  cases q:H a with
  |none=>exact(h.dm j a e).2 q
  |some u=>rw[k a u q] at z;cases z⟩,h.lk,h.ln⟩
theorem Hs.new(h:Hs M μ H B)(hp:H p=none)(ho: ∀ps,o≠.tbl ps):Hs M μ (L2.upd H p o) (B.upd p o):=by
 have bp:=h.fr hp;have le:=h.upd_le (o:=o) bp;refine⟨λa u e=> ?_,λa ps e=> ?_,qlY h.gm hp,λj c e n=> ?_,h.ij,λj a e=>⟨(h.dm j a e).1,?_⟩,h.lk,h.ln⟩
 ·have e:L2.upd B.hp p o a=some u:=e;by_cases q:a=p
  ·subst q;rw[qac] at e⊢;exact e
  ·rw[qaa q] at e⊢;exact h.bh _ _ e
 ·have e:L2.upd B.hp p o a=some (.tbl ps):=e;by_cases q:a=p
  ·subst q;rw[qac] at e;exact ho ps (Option.some.inj e)
  ·rw[qaa q] at e;exact h.bt a ps e
 ·obtain⟨a,u,e1,e2,e3,e4⟩:=h.st j c e n;have ne:a≠p:=qag e3 hp;exact⟨a,u,e1,by show L2.upd B.hp p o a=_;rw[qaa ne];exact e2,by rw[qaa ne];exact e3,e4.mono le⟩
 ·have:=(h.dm j a e).2;rw[qaa (λz=>this (by rw[z];exact hp))];exact this
theorem qey.ub{K:W.Frag}{c:Ct}(h:qey K B c o)(hd: ∀k a,B.ad k=some a->k<n):ubC c<=n:=by
 cases c with
 |ls ts|dk ts|du ts=>obtain⟨vs,e,r⟩:=h;exact r.ub hd
 |ins c ts=>obtain⟨dx,vs,e,r⟩:=h;exact r.ub hd
 |gone=>exact Nat.zero_le _
theorem qey.cut{K:W.Frag}{c:Ct}(h:qey K B c o)(hu:ubC c<=n):qey K (B.cut n) c o:=by
 cases c with
 |ls ts|dk ts|du ts=>obtain⟨vs,e,r⟩:=h;exact⟨vs,e,r.cut hu⟩
 |ins c ts=>obtain⟨dx,vs,e,r⟩:=h;exact⟨dx,vs,e,r.cut hu⟩
 |gone=>trivial
theorem Hs.own(h:Hs M μ H B)(hp:H p=none)(hc:qey M.K (B.add μ.l.length p) c o):Hs M (μ.add c) (L2.upd H p o) (B.add μ.l.length p)/\Le B (B.add μ.l.length p):=by
 have le:Le B (B.add μ.l.length p):=⟨λ_ _ e=>e,λj a e=>by
  show(if j=μ.l.length then some p else B.ad j)=_;rw[if_neg (Nat.ne_of_lt (h.dm j a e).1)];exact e⟩
 have iI: ∀j,B.ad j≠some p:=λj e=>(h.dm j p e).2 hp;have ad: ∀{j a},(B.add μ.l.length p).ad j=some a->(j=μ.l.length/\a=p)\/(B.ad j=some a/\j<μ.l.length):=λ{j a} e=>by
  have e:(if j=μ.l.length then some p else B.ad j)=some a:=e;split at e
  ·rename_i q;cases e;exact .inl ⟨q,rfl⟩
  ·exact .inr ⟨e,(h.dm j a e).1⟩
 have hd: ∀j a,(B.add μ.l.length p).ad j=some a->j<μ.l.length+1:=λj a e=>by rcases ad e with⟨z,_⟩|⟨_,z⟩<;>omega
 have uc:=hc.ub hd;have ga: ∀{j:Nat} {d:Ct},(μ.l++[c])[j]? =some d->(j<μ.l.length/\μ.l[j]? =some d)\/(j=μ.l.length/\d=c):=λ{j d} e=>by
  by_cases q:j<μ.l.length
  ·rw[List.getElem?_append_left q] at e;exact .inl ⟨q,e⟩
  ·rw[List.getElem?_append_right (by omega)] at e;have:=(List.getElem?_eq_some_iff.mp e).1;have q':j=μ.l.length:=by simp at this;omega
   subst q';simp at e;exact .inr ⟨rfl,e.symm⟩
 refine⟨⟨λa u e=> ?_,h.bt,qlY h.gm hp,λj d e n=> ?_,λi j a e1 e2=> ?_,λj a e=> ?_,λj d e=> ?_,λq hq=> ?_⟩,le⟩
 ·rw[qaa (qag (h.bh a u e) hp)];exact h.bh a u e
 ·rcases ga e with⟨q,e⟩|⟨rfl,rfl⟩
  ·obtain⟨a,u,e1,e2,e3,e4⟩:=h.st j d e n;exact⟨a,u,le.d _ _ e1,e2,by rw[qaa (qag e3 hp)];exact e3,e4.mono le⟩
  ·exact⟨p,o,by show(if μ.l.length=μ.l.length then some p else _)=_;rw[if_pos rfl],h.fr hp,qac,hc⟩
 ·rcases ad e1 with⟨rfl,rfl⟩|⟨e1,l1⟩
  ·rcases ad e2 with⟨rfl,_⟩|⟨e2,l2⟩
   ·rfl
   ·exact absurd e2 (iI j)
  ·rcases ad e2 with⟨_,z⟩|⟨e2,l2⟩
   ·rw[z] at e1;exact absurd e1 (iI i)
   ·exact h.ij i j a e1 e2
 ·show j<(μ.l++[c]).length/\_;rw[List.length_append,List.length_singleton]
  rcases ad e with⟨z1,z⟩|⟨e,l⟩
  ·rw[z];exact⟨by omega,by rw[qac];simp⟩
  ·have:=(h.dm j a e).2;exact⟨by omega,by rw[qaa (λz=>this (by rw[z];exact hp))];exact this⟩
 ·show ubC d<=j\/∃q∈(if ubC c<=μ.l.length then μ.k else(μ.l.length,ubC c)::μ.k),_
  rcases ga e with⟨q,e⟩|⟨rfl,rfl⟩
  ·rcases h.lk j d e with z|⟨q,hq,z⟩
   ·exact .inl z
   ·exact .inr ⟨q,by split<;>simp[hq],z⟩
  ·split
   ·rename_i z;exact .inl z
   ·exact .inr ⟨_,Vk,rfl,Vm _⟩
 ·have hq:q∈(if ubC c<=μ.l.length then μ.k else(μ.l.length,ubC c)::μ.k):=hq;show q.2<=(μ.l++[c]).length;rw[List.length_append,List.length_singleton];split at hq
  ·exact Nat.le_succ_of_le (h.ln q hq)
  ·rcases List.mem_cons.mp hq with rfl|hq
   ·exact uc
   ·exact Nat.le_succ_of_le (h.ln q hq)
theorem Hs.at(h:Hs M μ H B)(e:μ.l[k]? =some c)(n:c≠.gone)(ha:B.ad k=some a): ∃o,B a=none/\H a=some o/\qey M.K B c o:=by obtain⟨a',o,e1,e2,e3,e4⟩:=h.st k c e n;rw[ha] at e1;cases e1;exact⟨o,e2,e3,e4⟩
theorem Hs.put(h:Hs M μ H B)(e:μ.l[k]? =some c)(n:c≠.gone)(ha:B.ad k=some a)(hc:qey M.K B c' o):Hs M (μ.put k c') (L2.upd H a o) B:=by
 obtain⟨u,b0,hu,cu⟩:=h.at e n ha;have mb:=cu.mb n;have hk:k<μ.l.length:=(List.getElem?_eq_some_iff.mp e).1;have uc:=hc.ub λj a e=>(h.dm j a e).1;have ga: ∀{j:Nat} {d:Ct},(μ.l.set k c')[j]? =some d->(k≠j/\μ.l[j]? =some d)\/(k=j/\d=c'):=λ{j d} e=>by
  rw[List.getElem?_set] at e;split at e
  ·rename_i q
   (try rw[if_pos hk] at e);cases e;exact .inr ⟨q,rfl⟩
  ·rename_i q;exact .inl ⟨q,e⟩
 refine⟨λb v z=> ?_,h.bt,M.G.st H _ (λb v z n1 n2 n3 n4=> ?_) h.gm,λj d ej nj=> ?_,h.ij,λj b z=> ?_,λj d ej=> ?_,λq hq=> ?_⟩
 ·rw[qaa (λq=>by rw[q,b0] at z;cases z)];exact h.bh b v z
 ·refine(qaa λq=> ?_).trans z;rw[q,hu] at z;cases z
  rcases mb with⟨_,rfl⟩|⟨_,rfl⟩|⟨_,rfl⟩|⟨_,_,_,rfl⟩
  ·exact n1 _ rfl
  ·exact n2 _ rfl
  ·exact n3 _ rfl
  ·exact n4 _ _ _ rfl
 ·rcases ga ej with⟨q,ej⟩|⟨rfl,rfl⟩
  ·obtain⟨b,v,e1,e2,e3,e4⟩:=h.st j d ej nj;exact⟨b,v,e1,e2,by rw[qaa (λz=>q (h.ij k j a ha (by rw[<-z];exact e1)))];exact e3,e4⟩
  ·exact⟨a,o,ha,b0,qac,hc⟩
 ·show j<(μ.l.set k c').length/\_;rw[List.length_set];refine⟨(h.dm j b z).1,?_⟩;by_cases q:b=a
  ·rw[q,qac];simp
  ·rw[qaa q];exact(h.dm j b z).2
 ·show ubC d<=j\/∃q∈(if ubC c'<=k then μ.k else(k,ubC c')::μ.k),_
  rcases ga ej with⟨_,ej⟩|⟨rfl,rfl⟩
  ·rcases h.lk j d ej with z|⟨q,hq,z⟩
   ·exact .inl z
   ·exact .inr ⟨q,by split<;>simp[hq],z⟩
  ·split
   ·rename_i z;exact .inl z
   ·exact .inr ⟨_,Vk,rfl,Vm _⟩
 ·have hq:q∈(if ubC c'<=k then μ.k else(k,ubC c')::μ.k):=hq;show q.2<=(μ.l.set k c').length;rw[List.length_set];split at hq
  ·exact h.ln q hq
  ·rcases List.mem_cons.mp hq with rfl|hq
   ·exact uc
   ·exact h.ln q hq
theorem Hs.cut(h:Hs M μ H B)(ks:List (Nat×Nat))(hn: ∀q∈μ.k,n<=q.1\/(q∈ks/\q.2<=n))(hk: ∀q∈ks,q.2<=n)(hl:n<=μ.l.length):Hs M ⟨μ.l.take n,ks⟩ H (B.cut n):=by
 have ad: ∀{j a},(B.cut n).ad j=some a->j<n/\B.ad j=some a:=λ{j a} e=>by
  have e:(if j<n then B.ad j else none)=some a:=e;split at e
  ·rename_i q;exact⟨q,e⟩
  ·cases e
 have ga: ∀{j:Nat} {d:Ct},(μ.l.take n)[j]? =some d->j<n/\μ.l[j]? =some d:=λ{j d} e=>by
  rw[List.getElem?_take] at e;split at e
  ·rename_i q;exact⟨q,e⟩
  ·cases e
 have uu: ∀{j:Nat} {d:Ct},j<n->μ.l[j]? =some d->ubC d<=n:=λ{j d} hj e=>by
  rcases h.lk j d e with z|⟨q,hq,z1,z2⟩
  ·omega
  ·rcases hn q hq with y|⟨_,y⟩
   ·omega
   ·omega
 refine⟨h.bh,h.bt,h.gm,λj d e nj=> ?_,λi j a e1 e2=>h.ij i j a (ad e1).2 (ad e2).2,λj a e=> ?_,λj d e=> ?_,λq hq=> ?_⟩
 ·obtain⟨hj,e⟩:=ga e;obtain⟨a,u,e1,e2,e3,e4⟩:=h.st j d e nj;exact⟨a,u,by show(if j<n then B.ad j else none)=_;rw[if_pos hj];exact e1,e2,e3,e4.cut (uu hj e)⟩
 ·obtain⟨hj,e⟩:=ad e;exact⟨by show j<(μ.l.take n).length;rw[List.length_take];omega,(h.dm j a e).2⟩
 ·obtain⟨hj,e⟩:=ga e
  rcases h.lk j d e with z|⟨q,hq,z1,z2⟩
  ·exact .inl z
  ·rcases hn q hq with y|⟨y,_⟩
   ·omega
   ·exact .inr ⟨q,y,z1,z2⟩
 ·show q.2<=(μ.l.take n).length;rw[List.length_take];have:=hk q hq;omega
end
structure Go(H:Hp)(B:qaj)(H':Hp)(B':qaj):Prop where
 le:Le B B'
 un: ∀a o,H a=some o->(∀k,B.ad k≠some a)->(∀ps,o≠.tbl ps)->H' a=some o
 nw: ∀k a,B'.ad k=some a->B.ad k=some a\/H a=none
 dm: ∀a,H a≠none->H' a≠none
 nb: ∀a o,H a=some o->(∀k,B.ad k≠some a)->(∀vs,o≠.tup vs)->(∀ps,o≠.tbl ps)->B' a=B a
theorem Go.refl{H:Hp}{B:qaj}:Go H B H B:=⟨.refl _,λ_ _ e _ _=>e,λ_ _ e=>.inl e,λ_ e=>e,λ_ _ _ _ _ _=>rfl⟩
theorem Go.off{H H1:Hp}{B B1:qaj}(g:Go H B H1 B1){a:Addr}(e:H a≠none)(n: ∀k,B.ad k≠some a): ∀k,B1.ad k≠some a:=λk z=>by
 rcases g.nw k a z with q|q
 ·exact n k q
 ·exact e q
theorem Go.trans{H H1 H2:Hp}{B B1 B2:qaj}(g:Go H B H1 B1)(g':Go H1 B1 H2 B2):Go H B H2 B2:=
 ⟨g.le.trans g'.le,λa o e n t=>g'.un a o (g.un a o e n t) (g.off (by rw[e];simp) n) t,λk a z=>by
  rcases g'.nw k a z with q|q
  ·exact g.nw k a q
  ·exact .inr (by
   cases y:H a with
   |none=>rfl
   |some o=>exact absurd q (g.dm a (by rw[y];simp))),λa e=>g'.dm a (g.dm a e),
  λa o e n t1 t2=>(g'.nb a o (g.un a o e n t2) (g.off (by rw[e];simp) n) t1 t2).trans (g.nb a o e n t1 t2)⟩
section
variable {M:Md}{μ:Mu}{H H':Hp}{B B':qaj}{p a:Addr}{o:HO}{c c':Ct}{k n:Nat}
theorem Go.more(k: ∀a o,H a=some o->H' a=some o):Go H B H' B:=by
 refine⟨.refl _,λa o e _ _=>k a o e,λ_ _ e=>.inl e,λa e z=> ?_,λ_ _ _ _ _ _=>rfl⟩;cases y:H a with
 |none=>exact e y
 |some o=>rw[k a o y] at z;cases z
theorem Hs.gnew(h:Hs M μ H B)(hp:H p=none):Go H B (L2.upd H p o) (B.upd p o):=
 ⟨h.upd_le (h.fr hp),λa u e _ _=>by rw[qaa (qag e hp)];exact e,λ_ _ e=>.inl e,λa e z=>by
  by_cases q:a=p
  ·subst q;exact e hp
  ·rw[qaa q] at z;exact e z,λa u e _ _ _=>by show L2.upd B.hp p o a=_;rw[qaa (qag e hp)]⟩
theorem Hs.gown(h:Hs M μ H B)(hp:H p=none):Go H B (L2.upd H p o) (B.add μ.l.length p):=
 ⟨(h.own (c:=.gone) (o:=o) hp trivial).2,λa u e _ _=>by rw[qaa (qag e hp)];exact e,λj a e=>by
  have e:(if j=μ.l.length then some p else B.ad j)=some a:=e;split at e
  ·cases e;exact .inr hp
  ·exact .inl e,λa e z=>by
  by_cases q:a=p
  ·subst q;exact e hp
  ·rw[qaa q] at z;exact e z,λ_ _ _ _ _ _=>rfl⟩
theorem qsM(ha:B.ad k=some a):Go H B (L2.upd H a o) B:=
 ⟨.refl _,λb u e n _=>by rw[qaa (λz=>n k (by rw[z];exact ha))];exact e,λ_ _ e=>.inl e,λb e z=>by
  by_cases q:b=a
  ·rw[q,qac] at z;cases z
  ·rw[qaa q] at z;exact e z,λ_ _ _ _ _ _=>rfl⟩
noncomputable def hid(D:Addr)(H:Hp):Hp:=λa=>if a=D then none else H a
theorem qco{D:Addr}(h:a≠D):hid D H a=H a:=if_neg h
theorem qfc{D:Addr}:hid D H D=none:=if_pos rfl
theorem qi5{D:Addr}(h:hid D H a=some o):H a=some o/\a≠D:=by
 unfold hid at h;split at h
 ·cases h
 ·rename_i q;exact⟨h,q⟩
theorem Go.hid{D:Addr}(g:Go H B H' B'):Go (hid D H) B (NV.hid D H') B':=
 ⟨g.le,λa o e n t=>by obtain⟨e,q⟩:=qi5 e;rw[qco q];exact g.un a o e n t,λk a z=>(g.nw k a z).imp id λz=>by unfold NV.hid;split<;>first|rfl|exact z,
  λa e=>by
   by_cases q:a=D
   ·rw[q,qfc] at e;exact absurd rfl e
   ·rw[qco q] at e⊢;exact g.dm a e,λa o e n t1 t2=>g.nb a o (qi5 e).1 n t1 t2⟩
theorem Hs.loose(h:Hs M μ H B){D:Addr}{H':Hp}(hb:B D=none)(hn: ∀k,B.ad k≠some D)(ho: ∀a,a≠D->H' a=H a)(hm: ∀u,H D=some u->Mb u):Hs M μ H' B:=
 ⟨λa o e=>by rw[ho a (λz=>by rw[z,hb] at e;cases e)];exact h.bh a o e,h.bt,M.G.st H H' (λa o e n1 n2 n3 n4=>by
  rw[ho a (λz=>by
   rw[z] at e
   rcases hm o e with⟨_,rfl⟩|⟨_,rfl⟩|⟨_,rfl⟩|⟨_,_,_,rfl⟩
   ·exact n1 _ rfl
   ·exact n2 _ rfl
   ·exact n3 _ rfl
   ·exact n4 _ _ _ rfl)];exact e) h.gm,λj c e n=>by
  obtain⟨a,o,e1,e2,e3,e4⟩:=h.st j c e n;exact⟨a,o,e1,e2,by rw[ho a (λz=>hn j (by rw[<-z];exact e1))];exact e3,e4⟩,h.ij,λj a e=>⟨(h.dm j a e).1,by rw[ho a (λz=>hn j (by rw[<-z];exact e))];exact(h.dm j a e).2⟩,h.lk,h.ln⟩
end
abbrev Ro:=List (Option T)
structure Ev(M:Md)(ρ:Ro)(μ:Mu)(σ:St)(H:Hp)(B:qaj):Prop where
 hs:Hs M μ H B
 len:ρ.length=σ.length
 sl: ∀(i:Nat) (t:T),ρ[i]? =some (some t)->∃v,σ[i]? =some (some v)/\Rep M.K B t v
section
variable {M:Md}{ρ:Ro}{σ:St}{μ aa:Mu}{H H':Hp}{B B':qaj}
theorem Ev.on(v:Ev M ρ μ σ H B)(h:Hs M aa H' B')(le:Le B B'):Ev M ρ aa σ H' B':=
 ⟨h,v.len,λi t e=>by obtain⟨x,a,b⟩:=v.sl i t e;exact⟨x,a,b.mono le⟩⟩
theorem Ev.set(v:Ev M ρ μ σ H B){i:Nat}{t:T}{x:V}(r:Rep M.K B t x):Ev M (ρ.set i (some t)) μ (σ.set i (some x)) H B:=by
 refine⟨v.hs,by simp[v.len],λj u e=> ?_⟩;rw[List.getElem?_set] at e⊢;split at e
 ·rename_i q;split at e
  ·rename_i l;cases e;rw[if_pos q,if_pos (v.len▸l)];exact⟨x,rfl,r⟩
  ·cases e
 ·rename_i q;rw[if_neg q];exact v.sl j u e
end
noncomputable def Wn(M:Md)(E:XK)(H:Hp)(B:qaj){α:Type}(k:α->Mu->Prop):R α->Prop
 |.no=>False
 |.ok a μ=>k a μ
 |.ex c μ=> ∀H' B',Hs M μ H' B'->Go H B H' B'->E (.ref (clA M.K c)) none H'
section
variable {M:Md}{E E':XK}{H H1:Hp}{B B1:qaj}{α β:Type}{k k':α->Mu->Prop}{r:R α}
theorem Wn.bind{k:β->Mu->Prop}{f:α->Mu->R β}(h:Wn M E H B k (r.bind f)):Wn M E H B (λa μ=>Wn M E H B k (f a μ)) r:=by cases r<;>exact h
theorem Wn.mono(h:Wn M E H B k r)(f: ∀a μ,k a μ->k' a μ):Wn M E H B k' r:=by
 cases r with
 |no=>exact h
 |ok a m=>exact f _ _ h
 |ex c m=>exact h
theorem Wn.le(h:Wn M E H B k r)(g:Go H B H1 B1):Wn M E H1 B1 k r:=by
 cases r with
 |no|ok a m=>exact h
 |ex c m=>exactλH' B' hs l=>h H' B' hs (g.trans l)
theorem Wn.pl(h:Wn M E H B k r)(p: ∀c m,r≠.ex c m): ∃a m,r= .ok a m/\k a m:=by
 cases r with
 |no=>exact h.elim
 |ok a m=>exact⟨a,m,rfl,h⟩
 |ex c m=>exact absurd rfl (p c m)
theorem Wn.imp(h:Wn M E H B k r)(f: ∀v o H',E v o H'->E' v o H'):Wn M E' H B k r:=by
 cases r with
 |no|ok a m=>exact h
 |ex c m=>exactλH' B' hs l=>f _ _ _ (h H' B' hs l)
theorem Wn.lift(h:Wn M E H B k r)(g:Go H B H1 B1)(f: ∀a μ,k a μ->k' a μ):Wn M E H1 B1 k' r:=(h.le g).mono f
end
noncomputable def KE(M:Md)(H:Hp)(B:qaj)(Q:VK):T->Mu->Prop:=λt μ=> ∀v H' B',Hs M μ H' B'->Go H B H' B'->Rep M.K B' t v->Q v H'
noncomputable def KA(M:Md)(H:Hp)(B:qaj)(Q:List V->Hp->Prop):List T->Mu->Prop:=λt μ=> ∀v H' B',Hs M μ H' B'->Go H B H' B'->Reps M.K B' t v->Q v H'
noncomputable def KT(M:Md)(H:Hp)(B:qaj)(Q:Bool->Hp->Prop):Bool->Mu->Prop:=λt μ=> ∀H' B',Hs M μ H' B'->Go H B H' B'->Q t H'
noncomputable def KN(M:Md)(H:Hp)(B:qaj)(Q:VK):Ct->Mu->Prop:=λc μ=> ∀p o H' B',Hs M μ H' B'->Go H B H' B'->H' p=none->qey M.K B' c o->Q (.ref p) (upd H' p o)
abbrev DS0(α:Type):=Ro->Mu->R α
noncomputable def tE(M:Md)(E:XK)(d:DS0 T):TE:=λσ H Q=> ∃ρ μ B,Ev M ρ μ σ H B/\Wn M E H B (KE M H B Q) (d ρ μ)
noncomputable def tA(M:Md)(E:XK)(d:DS0 (List T)):TA:=λσ H Q=> ∃ρ μ B,Ev M ρ μ σ H B/\Wn M E H B (KA M H B Q) (d ρ μ)
noncomputable def tT(M:Md)(E:XK)(d:DS0 Bool):TT:=λσ H Q=> ∃ρ μ B,Ev M ρ μ σ H B/\Wn M E H B (KT M H B Q) (d ρ μ)
noncomputable def tN(M:Md)(E:XK)(d:DS0 Ct):TE:=λσ H Q=> ∃ρ μ B,Ev M ρ μ σ H B/\Wn M E H B (KN M H B Q) (d ρ μ)
theorem PE.weak{X:Cx}{e:Expr}{t t':TE}(h:PE X e t)(w: ∀σ H Q,t' σ H Q->t σ H Q):PE X e t':=λpins s σ H Q I q=>h pins s σ H Q I (w σ H Q q)
theorem PT.weak{X:Cx}{e:Expr}{t t':TT}(h:PT X e t)(w: ∀σ H Q,t' σ H Q->t σ H Q):PT X e t':=λpins s σ H Q I q=>h pins s σ H Q I (w σ H Q q)
theorem PW.weak{X:Cx}{e:Expr}{t t':TT}(h:PW X e t)(w: ∀σ H Q,t' σ H Q->t σ H Q):PW X e t':=λwh pins s σ H Q I q=>h wh pins s σ H Q I (w σ H Q q)
theorem PA.weak{X:Cx}{e:List Expr}{t t':TA}(h:PA X e t)(w: ∀σ H Q,t' σ H Q->t σ H Q):PA X e t':=λpos pins s σ H Q I q=>h pos pins s σ H Q I (w σ H Q q)
theorem PS.weak{X:Cx}{e:Stmt}{t t':TS}(h:PS X e t)(w: ∀D σ H,t' D σ H->t D σ H):PS X e t':=λpins s σ H D I q=>h pins s σ H D I (w D σ H q)
theorem PSs.weak{X:Cx}{e:List Stmt}{t t':TS}(h:PSs X e t)(w: ∀D σ H,t' D σ H->t D σ H):PSs X e t':=λpins s σ H D I q=>h pins s σ H D I (w D σ H q)
theorem PG.weak{X:Cx}{e:Expr}{t t':TG}(h:PG X e t)(w: ∀v σ H Q,t' v σ H Q->t v σ H Q):PG X e t':=λpins s σ H v u Q I r q=>h pins s σ H v u Q I r (w v σ H Q q)
theorem PGs.weak{X:Cx}{e:List Expr}{t t':TGs}(h:PGs X e t)(w: ∀v σ H Q,t' v σ H Q->t v σ H Q):PGs X e t':=λpins s σ H v u Q I r q=>h pins s σ H v u Q I r (w v σ H Q q)
theorem PI.weak{X:Cx}{tg e:Expr}{t t':TI}(h:PI X tg e t)(w: ∀σ H Q,t' σ H Q->t σ H Q):PI X tg e t':=λpins s σ H Q I q=>h pins s σ H Q I (w σ H Q q)
theorem PO.weak{X:Cx}{e:Option Expr}{t t':TO}(h:PO X e t)(w: ∀σ H Q,t' σ H Q->t σ H Q):PO X e t':=λpins s σ H Q I q=>h pins s σ H Q I (w σ H Q q)
section
variable {M:Md}{E:XK}{ρ:Ro}{σ:St}{μ:Mu}{H H1:Hp}{B B1:qaj}{α:Type}
theorem tE.of{Q:VK}{d:DS0 T}(ev:Ev M ρ μ σ H B)(h:Wn M E H B (KE M H B Q) (d ρ μ)):tE M E d σ H Q:=⟨ρ,μ,B,ev,h⟩
theorem KE.le{Q:VK}{t:T}(h:KE M H B Q t μ)(g:Go H B H1 B1):KE M H1 B1 Q t μ:=λv H' B' hs l r=>h v H' B' hs (g.trans l) r
theorem KT.le{Q:Bool->Hp->Prop}{t:Bool}(h:KT M H B Q t μ)(g:Go H B H1 B1):KT M H1 B1 Q t μ:=λH' B' hs l=>h H' B' hs (g.trans l)
end
noncomputable def dNo{α:Type}:DS0 α:=λ_ _=>.no
noncomputable def dV(i:Nat):DS0 T:=λρ μ=>match ρ[i]? with|some (some t)=>.ok t μ|_=>.no
noncomputable def dC(t:T):DS0 T:=λ_ μ=>.ok t μ
noncomputable def dSq{α β:Type}(d:DS0 α)(f:α->DS0 β):DS0 β:=λρ μ=>(d ρ μ).bind λa aa=>f a ρ aa
noncomputable def ql7:DS0 (List T):=λ_ μ=>.ok [] μ
noncomputable def qqT(da:DS0 T)(ds:DS0 (List T)):DS0 (List T):=dSq da λx=>dSq ds λxs _ μ=>.ok (x::xs) μ
noncomputable def dB(g:T->T->Mu->R T)(da db:DS0 T):DS0 T:=dSq da λx=>dSq db λy _ μ=>g x y μ
noncomputable def dU(g:T->Mu->R T)(da:DS0 T):DS0 T:=dSq da λx _ μ=>g x μ
noncomputable def qug(ds:DS0 (List T)):DS0 T:=dSq ds λxs _ μ=>if xs.length<=1000 then .ok (.tup xs) μ else .no
noncomputable def quj(ds:DS0 (List T)):DS0 Ct:=dSq ds λxs _ μ=>if xs.length<=1000 then .ok (.ls xs) μ else .no
noncomputable def fzC:Ct->Mu->R T
 |.ls ts,μ=>.ok (.lst ts) μ
 |.dk kvs,μ=>.ok (.dct kvs) μ
 |_,_=>.no
noncomputable def dFz(d:DS0 Ct):DS0 T:=dSq d λc _ μ=>fzC c μ
noncomputable def dOw(d:DS0 Ct):DS0 T:=dSq d λc _ μ=>.ok (.obj μ.l.length) (μ.add c)
noncomputable def tbO:T->Mu->R Bool
 |.bl b,μ=>.ok b μ
 |_,_=>.no
noncomputable def dTB(da:DS0 T):DS0 Bool:=dSq da λt _ μ=>tbO t μ
noncomputable def qhK{α:Type}(dt:DS0 Bool)(d e:DS0 α):DS0 α:=dSq dt λc=>if c=true then d else e
noncomputable def qui(d:DS0 Bool):DS0 Bool:=dSq d λc _ μ=>.ok (!c) μ
noncomputable def quf:DS0 Bool:=λ_ μ=>.ok true μ
noncomputable def dBl(b:Bool):DS0 Bool:=λ_ μ=>.ok b μ
noncomputable def qun(d e:DS0 Bool):DS0 Bool:=qhK d e (dBl false)
noncomputable def dOr(d e:DS0 Bool):DS0 Bool:=qhK d (dBl true) e
noncomputable def qlg(d e:DS0 T):DS0 T:=qhK (dTB d) e (dC (.bl false))
noncomputable def qro(d e:DS0 T):DS0 T:=qhK (dTB d) (dC (.bl true)) e
noncomputable def qld(d:DS0 T):DS0 T:=dSq (dTB d) λc _ μ=>.ok (.bl (!c)) μ
noncomputable def OkB(M:Md)(r:R2)(g:T->T->Mu->R T):Prop:=(∀a b μ c m,g a b μ≠.ex c m)/\
 ∀(μ:Mu) (H:Hp) (B:qaj) (x y:V) (a b t:T) (aa:Mu) (Q:VK),Hs M μ H B->Rep M.K B a x->Rep M.K B b y->g a b μ= .ok t aa->KE M H B Q t aa->r x y H Q
noncomputable def OkU(M:Md)(r:V->Hp->VK->Prop)(g:T->Mu->R T):Prop:=(∀a μ c m,g a μ≠.ex c m)/\
 ∀(μ:Mu) (H:Hp) (B:qaj) (x:V) (a t:T) (aa:Mu) (Q:VK),Hs M μ H B->Rep M.K B a x->g a μ= .ok t aa->KE M H B Q t aa->r x H Q
section
variable {M:Md}{E:XK}{X:Cx}{e a b c:Expr}{es:List Expr}{pos:Pos}{da db dc:DS0 T}{ds:DS0 (List T)}{dn:DS0 Ct}{dt du:DS0 Bool}
theorem Ev.get{ρ:Ro}{μ:Mu}{σ:St}{H:Hp}{B:qaj}(ev:Ev M ρ μ σ H B){i:Nat}{k:T->Mu->Prop}(w:Wn M E H B k (dV i ρ μ)): ∃t v,σ[i]? =some (some v)/\Rep M.K B t v/\ρ[i]? =some (some t)/\k t μ:=by
 unfold dV at w;split at w
 ·rename_i t e1;obtain⟨x,e2,r⟩:=ev.sl i t e1;exact⟨t,x,e2,r,e1,w⟩
 ·exact w.elim
theorem qah:PE X e (tE M E dNo):=λ_ _ _ _ _ _ ⟨_,_,_,_,w⟩=>w.elim
theorem qqE{i:Nat}(h:PE X e (qms i)):PE X e (tE M E (dV i)):=PE.weak h λσ H Q ⟨ρ,μ,B,ev,w⟩=>by obtain⟨t,x,e2,r,_,w⟩:=ev.get w;exact⟨x,e2,w x H B ev.hs .refl r⟩
theorem qqJ{v:V}{t:T}(h:PE X e (tC v))(r: ∀B,Rep M.K B t v):PE X e (tE M E (dC t)):=
 PE.weak h λσ H Q ⟨ρ,μ,B,ev,w⟩=>w v H B ev.hs .refl (r B)
theorem qd7{r:R2}{g:T->T->Mu->R T}(ho:OkB M r g){σ:St}{H:Hp}{Q:VK}(h:tE M E (dB g da db) σ H Q):tOp r (tE M E da) (tE M E db) σ H Q:=by obtain⟨ρ,μ,B,ev,w⟩:=h;refine tE.of ev ((Wn.bind w).mono λx ag w1 v H1 B1 h1 l1 r1=> ?_);refine tE.of (ev.on h1 l1.le) ((Wn.bind w1).lift l1 λy ak w2 u H2 B2 h2 l2 r2=> ?_);obtain⟨t,m,q,w2⟩:=Wn.pl w2 (ho.1 x y ak);exact ho.2 ak H2 B2 v u x y t m Q h2 (r1.mono l2.le) r2 q (KE.le w2 (l1.trans l2))
theorem qml{r:V->Hp->VK->Prop}{g:T->Mu->R T}(ho:OkU M r g){σ:St}{H:Hp}{Q:VK}(h:tE M E (dU g da) σ H Q):tE M E da σ H λx H1=>r x H1 Q:=by obtain⟨ρ,μ,B,ev,w⟩:=h;refine tE.of ev ((Wn.bind w).mono λx ag w1 v H1 B1 h1 l1 r1=> ?_);obtain⟨t,m,q,w1⟩:=Wn.pl w1 (ho.1 x ag);exact ho.2 ag H1 B1 v x t m Q h1 r1 q (KE.le w1 l1)
theorem qqN:PA X [] (tA M E ql7):=PA.weak qbn λσ H Q ⟨ρ,μ,B,ev,w⟩=>w [] H B ev.hs .refl .nil
theorem qn5(ha:PE X e (tE M E da))(hs:PA X es (tA M E ds))(aE:starEach (e::es) X.env=(false,eval e X.env)::starEach es X.env):PA X (e::es) (tA M E (qqT da ds)):=
 PA.weak (qaM ha hs aE) λσ H Q ⟨ρ,μ,B,ev,w⟩=>by refine tE.of ev ((Wn.bind w).mono λx ag w1 v H1 B1 h1 l1 r1=> ?_);exact⟨ρ,ag,B1,ev.on h1 l1.le,(Wn.bind w1).lift l1 λxs ak w2 vs H2 B2 h2 l2 r2=>w2 _ H2 B2 h2 (l1.trans l2) (.cons (r1.mono l2.le) r2)⟩
theorem qqF{x1}(hs:PA X es (tA M E ds)):PE X (.Tuple es x1 pos) (tE M E (qug ds)):=PE.weak (qpl hs) λσ H Q ⟨ρ,μ,B,ev,w⟩=>by
 refine⟨ρ,μ,B,ev,(Wn.bind w).mono λxs ag w1 vs H1 B1 h1 l1 r1=> ?_⟩;have w1:Wn M E H B (KE M H B Q) (if xs.length<=1000 then _ else _):=w1;split at w1
 ·rename_i hl;have l0:1000<=sizeLine:=by decide
  refine⟨by rw[r1.length];omega,λp hp=> ?_⟩;have h2:=h1.new (o:=.tup vs) hp (λps z=>by cases z);exact w1 _ _ _ h2 (l1.trans (h1.gnew hp)) (qcQ qac (r1.mono (h1.upd_le (h1.fr hp))))
 ·exact w1.elim
theorem ql5(hs:PA X es (tA M E ds)):PE X (.List es pos) (tN M E (quj ds)):=PE.weak (qeY hs) λσ H Q ⟨ρ,μ,B,ev,w⟩=>by
 refine⟨ρ,μ,B,ev,(Wn.bind w).mono λxs ag w1 vs H1 B1 h1 l1 r1=> ?_⟩;have w1:Wn M E H B (KN M H B Q) (if xs.length<=1000 then _ else _):=w1;split at w1
 ·rename_i hl;have l0:1000<=sizeLine:=by decide
  exact⟨by rw[r1.length];omega,λp hp=>w1 _ _ _ _ h1 l1 hp ⟨_,rfl,r1⟩⟩
 ·exact w1.elim
theorem qjd{σ:St}{H:Hp}{Q:VK}(h:tE M E (dFz dn) σ H Q):tN M E dn σ H Q:=by
 obtain⟨ρ,μ,B,ev,w⟩:=h;refine⟨ρ,μ,B,ev,(Wn.bind w).mono λc ag w1 p o H1 B1 h1 l1 hp r1=> ?_⟩;have b1:=h1.fr hp;cases c with
 |ls ts=>obtain⟨vs,rfl,r⟩:=r1;have le:=h1.upd_le (o:=.lst vs) b1;exact w1 _ _ _ (h1.new hp (λps z=>by cases z)) (l1.trans (h1.gnew hp)) (qcn qac (r.mono le))
 |dk ts=>obtain⟨vs,rfl,r⟩:=r1;have le:=h1.upd_le (o:=.dK vs) b1;exact w1 _ _ _ (h1.new hp (λps z=>by cases z)) (l1.trans (h1.gnew hp)) (qe0 qac (r.mono le))
 |_=>exact w1.elim
theorem qiw{σ:St}{H:Hp}{Q:VK}(h:tE M E (dOw dn) σ H Q):tN M E dn σ H Q:=by obtain⟨ρ,μ,B,ev,w⟩:=h;refine⟨ρ,μ,B,ev,(Wn.bind w).mono λc ag w1 p o H1 B1 h1 l1 hp r1=> ?_⟩;have le:Le B1 (B1.add ag.l.length p):=(h1.own (c:=.gone) (o:=o) hp trivial).2;obtain⟨h2,_⟩:=h1.own hp (r1.mono le);exact w1 _ _ _ h2 (l1.trans (h1.gown hp)) (qdw (by show(if ag.l.length=ag.l.length then some p else _)=_;rw[if_pos rfl]))
theorem qn3(h:PE X e (tN M E dn)):PE X e (tE M E (dFz dn)):=PE.weak h λ_ _ _ h=>qjd h
theorem qnZ(h:PE X e (tN M E dn)):PE X e (tE M E (dOw dn)):=PE.weak h λ_ _ _ h=>qiw h
theorem qcG{σ:St}{H:Hp}{Q:Bool->Hp->Prop}(h:tT M E (dTB da) σ H Q):tE M E da σ H λx H1=> ∃c,x= .bl c/\Q c H1:=by
 obtain⟨ρ,μ,B,ev,w⟩:=h;refine tE.of ev ((Wn.bind w).mono λt ag w1 v H1 B1 h1 l1 r1=> ?_);cases t with
 |bl b=>exact⟨b,qbO r1,w1 H1 B1 h1 l1⟩
 |_=>exact w1.elim
theorem ql3(h:PE X e (tE M E da))(he: ∀whole,isTrue e X.env whole=(do let v <-whole;standAt e.pos;holding [v] (truthy v))):PT X e (tT M E (dTB da)):=PT.weak (qlP h he) λσ H Q h=>qcG h
theorem qqs(h:PT X a (tT M E dt)):PT X (.UnaryOp .Not a pos) (tT M E (qui dt)):=PT.weak (qlQ h) λσ H Q ⟨ρ,μ,B,ev,w⟩=>⟨ρ,μ,B,ev,(Wn.bind w).mono λc ag w1=>w1⟩
theorem qeg{σ:St}{H:Hp}{Q:Bool->Hp->Prop}{d1 d2:DS0 Bool}(h:tT M E (qhK dt d1 d2) σ H Q):tT M E dt σ H λc H1=>if c=true then tT M E d1 σ H1 Q else tT M E d2 σ H1 Q:=by
 obtain⟨ρ,μ,B,ev,w⟩:=h;refine⟨ρ,μ,B,ev,(Wn.bind w).mono λc ag w1 H1 B1 h1 l1=> ?_⟩;cases c with
 |true|false=>exact⟨ρ,ag,B1,ev.on h1 l1.le,w1.lift l1 λ_ _ q=>KT.le q l1⟩
theorem qkK{σ:St}{H:Hp}{Q:VK}{d1 d2:DS0 T}(h:tE M E (qhK dt d1 d2) σ H Q):tT M E dt σ H λc H1=>if c=true then tE M E d1 σ H1 Q else tE M E d2 σ H1 Q:=by
 obtain⟨ρ,μ,B,ev,w⟩:=h;refine⟨ρ,μ,B,ev,(Wn.bind w).mono λc ag w1 H1 B1 h1 l1=> ?_⟩;cases c with
 |true|false=>exact⟨ρ,ag,B1,ev.on h1 l1.le,w1.lift l1 λ_ _ q=>KE.le q l1⟩
theorem qjK{σ:St}{H:Hp}{Q:Bool->Hp->Prop}{b:Bool}(h:tT M E (dBl b) σ H Q):Q b H:=by obtain⟨ρ,μ,B,ev,w⟩:=h;exact w H B ev.hs .refl
theorem qgo{σ:St}{H:Hp}{Q:VK}{b:Bool}(h:tE M E (dC (.bl b)) σ H Q):Q (.bl b) H:=by obtain⟨ρ,μ,B,ev,w⟩:=h;exact w _ H B ev.hs .refl qa8
theorem qnK(h:PT X a (tT M E dt)):PW X (.BoolOp .And [a] pos) (tT M E dt):=qmM h
theorem qqp(h:PT X a (tT M E dt)):PW X (.BoolOp .Or [a] pos) (tT M E dt):=qlO h
theorem qqq{qbU}(h:PT X a (tT M E dt))(h':PW X (.BoolOp .And (b::qbU) pos) (tT M E du)):PW X (.BoolOp .And (a::b::qbU) pos) (tT M E (qun dt du)):=PW.weak (qo7 h h') λσ H Q q=>by
 have q:=qeg q;obtain⟨ρ,μ,B,ev,w⟩:=q;refine⟨ρ,μ,B,ev,w.mono λc ag w1 H1 B1 h1 l1=> ?_⟩;have z:=w1 H1 B1 h1 l1;cases c with
 |true=>exact z
 |false=>exact qjK z
theorem qs8{qbU}(h:PT X a (tT M E dt))(h':PW X (.BoolOp .Or (b::qbU) pos) (tT M E du)):PW X (.BoolOp .Or (a::b::qbU) pos) (tT M E (dOr dt du)):=PW.weak (qo6 h h') λσ H Q q=>by
 have q:=qeg q;obtain⟨ρ,μ,B,ev,w⟩:=q;refine⟨ρ,μ,B,ev,w.mono λc ag w1 H1 B1 h1 l1=> ?_⟩;have z:=w1 H1 B1 h1 l1;cases c with
 |true=>exact qjK z
 |false=>exact z
theorem qdT{σ:St}{H:Hp}{Q:VK}{f:Bool->DS0 T}(h:tE M E (dSq (dTB da) f) σ H Q):tE M E da σ H λx H1=> ∃c,x= .bl c/\tE M E (f c) σ H1 Q:=by
 obtain⟨ρ,μ,B,ev,w⟩:=h;refine tE.of ev ((Wn.bind (Wn.bind w)).mono λt ag w1 v H1 B1 h1 l1 r1=> ?_);cases t with
 |bl b=>exact⟨b,qbO r1,ρ,ag,B1,ev.on h1 l1.le,Wn.lift w1 l1 λ_ _ q=>KE.le q l1⟩
 |_=>exact w1.elim
theorem tE.imp{σ:St}{H:Hp}{Q Q':VK}(h:tE M E da σ H Q)(f: ∀v H1,Q v H1->Q' v H1):tE M E da σ H Q':=by obtain⟨ρ,μ,B,ev,w⟩:=h;exact⟨ρ,μ,B,ev,w.mono λt ag w1 v H1 B1 h1 l1 r1=>f _ _ (w1 v H1 B1 h1 l1 r1)⟩
theorem qqL{qbU}(h:PE X a (tE M E da))(h':PE X (.BoolOp .And (b::qbU) pos) (tE M E db)):PE X (.BoolOp .And (a::b::qbU) pos) (tE M E (qlg da db)):=PE.weak (qpr h h') λσ H Q q=>
 (qdT q).imp λv H1 ⟨c,e,z⟩=>⟨c,e,by cases c with|true=>exact z|false=>exact qgo z⟩
theorem qte{qbU}(h:PE X a (tE M E da))(h':PE X (.BoolOp .Or (b::qbU) pos) (tE M E db)):PE X (.BoolOp .Or (a::b::qbU) pos) (tE M E (qro da db)):=PE.weak (qsd h h') λσ H Q q=>
 (qdT q).imp λv H1 ⟨c,e,z⟩=>⟨c,e,by cases c with|true=>exact qgo z|false=>exact z⟩
theorem qqG(h:PE X a (tE M E da)):PE X (.UnaryOp .Not a pos) (tE M E (qld da)):=PE.weak (qpm h) λσ H Q q=>
 (qdT (f:=λc _ μ=>.ok (.bl (!c)) μ) q).imp λv H1 ⟨c,e,z⟩=>⟨c,e,qgo z⟩
theorem qtf(hc:PT X c (tT M E dt))(ha:PE X a (tE M E da))(hb:PE X b (tE M E db)):PE X (.IfExp c a b pos) (tE M E (qhK dt da db)):=PE.weak (qkp hc ha hb) λσ H Q q=>qkK q
end
noncomputable def fzT(n:Nat)(l:List Ct):Nat->T->Option T
 |0,t=>if ub t<=n then some t else none
 |d+1,t=>if ub t<=n then some t else match t with
  |.obj k=>(match l[k]? with
   |some (.ls ts)=>(ts.mapM (fzT n l d)).map .lst
   |some (.dk kvs)=>(kvs.mapM λp=>(fzT n l d p.2).map λt=>(p.1,t)).map .dct
   |_=>none)
  |.tup ts=>(ts.mapM (fzT n l d)).map .tup
  |.lst ts=>(ts.mapM (fzT n l d)).map .lst
  |_=>none
noncomputable def Mu.nw(m0 m:Mu):List (Nat×Nat):=m.k.take (m.k.length - m0.k.length)
noncomputable def Mu.back(m0 m:Mu):Mu:=⟨m.l.take m0.l.length,(m0.nw m).filter (λp=>decide (p.1<m0.l.length))++m0.k⟩
noncomputable def Mu.apart(m0 m:Mu):Bool:=decide (m0.l.length<=m.l.length)&&decide (m.k.drop (m.k.length - m0.k.length)=m0.k)&&(m0.nw m).all λp=>decide (m0.l.length<=p.1\/p.2<=m0.l.length)
noncomputable def leave(m0:Mu):R T->R T
 |.ok t m=>if m.l.length=m0.l.length then .ok t m else if m0.apart m=true then(match fzT m0.l.length m.l 3 t with|some t'=>.ok t' (m0.back m)|none=>.no) else .ok t m
 |.ex c m=>if m.l.length=m0.l.length then .ex c m else if m0.apart m=true then .ex c (m0.back m) else .ex c m
 |.no=>.no
open Classical in
noncomputable def qaj.fz(B:qaj)(H:Hp)(l:List Ct)(n:Nat):qaj:=⟨λa=>if ∃k,n<=k/\B.ad k=some a/\((∃ts,l[k]? =some (.ls ts))\/∃ts,l[k]? =some (.dk ts)) then H a else B a,(B.cut n).ad⟩
theorem qcR{α β:Type}{f:α->Option β}: ∀{xs:List α} {ys:List β},xs.mapM f=some ys->xs.length=ys.length/\∀(i:Nat) (x:α) (y:β),xs[i]? =some x->ys[i]? =some y->f x=some y
 |[],ys,h=>by simp at h;subst h;exact⟨rfl,λi x y e=>by simp at e⟩
 |x::xs,ys,h=>by
  rw[List.mapM_cons] at h;cases e1:f x with
  |none=>rw[e1] at h;cases h
  |some y=>
   cases e2:xs.mapM f with
   |none=>rw[e1,e2] at h;cases h
   |some zs=>
    rw[e1,e2] at h;cases h;obtain⟨hl,hi⟩:=qcR e2;refine⟨by simp[hl],λi a b ea eb=> ?_⟩;cases i with
    |zero=>cases ea;cases eb;exact e1
    |succ i=>exact hi i a b (by simpa using ea) (by simpa using eb)
section
open Classical
variable {M:Md}{μ:Mu}{H:Hp}{B:qaj}{n:Nat}
theorem qaj.fz_le(h:Hs M μ H B):Le (B.cut n) (B.fz H μ.l n):=⟨λa o e=>by
 show(if _ then H a else B a)=_;split
 ·exact h.bh a o e
 ·exact e,λ_ _ e=>e⟩
theorem qd2{K:W.Frag}{κ:Type}: ∀{ts:List (κ×T)} {vs:List (κ×V)} {i:Nat} {p:κ×T},qba K B ts vs->ts[i]? =some p->∃v,vs[i]? =some (p.1,v)/\Rep K B p.2 v
 |[],_,_,_,_,e=>by simp at e
 |(k,t)::ts,_,0,p,⟨v,r,e',a,b⟩,e=>by simp at e;subst e;exact⟨v,by rw[e'];rfl,a⟩
 |(k,t)::ts,_,i+1,p,⟨v,r,e',a,b⟩,e=>by obtain⟨u,e1,e2⟩:=qd2 (i:=i) b (by simpa using e);exact⟨u,by rw[e'];simpa using e1,e2⟩
theorem qij{K:W.Frag}{κ:Type}: ∀{ts:List (κ×T)} {vs:List (κ×V)},vs.length=ts.length->(∀(i:Nat) (p:κ×T) (q:κ×V),ts[i]? =some p->vs[i]? =some q->p.1=q.1/\Rep K B p.2 q.2)->qba K B ts vs
 |[],[],_,_=>rfl
 |(k,t)::ts,(k',v)::vs,hl,h=>by obtain⟨e,r⟩:=h 0 _ _ rfl rfl;have e:k=k':=e;subst e;exact⟨v,vs,rfl,r,qij (by simpa using hl) λi p q a b=>h (i+1) p q (by simpa using a) (by simpa using b)⟩
theorem qqd(h:Hs M μ H B): ∀(d:Nat) (t t':T) (v:V),fzT n μ.l d t=some t'->Rep M.K B t v->Rep M.K (B.fz H μ.l n) t' v:=by
 intro d
 induction d with
 |zero=>
  intro t t' v e r;unfold fzT at e;split at e
  ·rename_i q;cases e;exact(r.cut q).mono (qaj.fz_le h)
  ·cases e
 |succ d ih=>
  intro t t' v e r;unfold fzT at e;split at e
  ·rename_i q;cases e;exact(r.cut q).mono (qaj.fz_le h)
  rename_i q;have many: ∀{ts cZ:List T} {vs:List V},ts.mapM (fzT n μ.l d)=some cZ->Reps M.K B ts vs->Reps M.K (B.fz H μ.l n) cZ vs:=λ{ts cZ vs} e r=>by
   obtain⟨hl,hi⟩:=qcR e;refine .of_get (by rw[r.length,hl]) λi t' v e1 e2=> ?_;obtain⟨t,et⟩: ∃t,ts[i]? =some t:=⟨ts[i]'(by rw[hl];exact(List.getElem?_eq_some_iff.mp e1).1),Vx _⟩
   obtain⟨v',ev,rv⟩:=r.get et;rw[e2] at ev;cases ev;exact ih t t' v (hi i t t' et e1) rv
  split at e
  ·rename_i k;obtain⟨a,rfl,ea⟩:=qaz r;have hk:n<=k:=by unfold ub at q;omega
   split at e
   ·rename_i ts el;cases e2:ts.mapM (fzT n μ.l d) with
    |none=>rw[e2] at e;cases e
    |some cZ=>rw[e2] at e;cases e;obtain⟨o,b0,ho,vs,rfl,rv⟩:=h.at el (by simp) ea;refine qcn ?_ (many e2 rv);show(if _ then H a else B a)=_;rw[if_pos ⟨k,hk,ea,.inl ⟨ts,el⟩⟩];exact ho
   ·rename_i ts el;cases e2:ts.mapM (λp=>(fzT n μ.l d p.2).map λt=>(p.1,t)) with
    |none=>rw[e2] at e;cases e
    |some cZ=>
     rw[e2] at e;cases e;obtain⟨o,b0,ho,vs,rfl,rv⟩:=h.at el (by simp) ea;refine qe0 (vs:=vs) ?_ ?_
     ·show(if _ then H a else B a)=_;rw[if_pos ⟨k,hk,ea,.inr ⟨ts,el⟩⟩];exact ho
     ·obtain⟨hl,hi⟩:=qcR e2;refine qij (by rw[rv.length,hl]) λi p q e1 e2=> ?_;obtain⟨t,et⟩: ∃t,ts[i]? =some t:=⟨ts[i]'(by rw[hl];exact(List.getElem?_eq_some_iff.mp e1).1),Vx _⟩
      obtain⟨v',ev,rv⟩:=qd2 rv et;rw[e2] at ev;cases ev;have z:=hi i t p et e1;cases e3:fzT n μ.l d t.2 with
      |none=>rw[e3] at z;cases z
      |some u=>rw[e3] at z;cases z;exact⟨rfl,ih _ _ _ e3 rv⟩
   ·cases e
  ·rename_i ts;cases e2:ts.mapM (fzT n μ.l d) with
   |none=>rw[e2] at e;cases e
   |some cZ=>rw[e2] at e;cases e;obtain⟨p,vs,rfl,bp,rv⟩:=qar r;exact qcQ ((qaj.fz_le (n:=n) h).h p _ bp) (many e2 rv)
  ·rename_i ts;cases e2:ts.mapM (fzT n μ.l d) with
   |none=>rw[e2] at e;cases e
   |some cZ=>rw[e2] at e;cases e;obtain⟨p,vs,rfl,bp,rv⟩:=qax r;exact qcn ((qaj.fz_le (n:=n) h).h p _ bp) (many e2 rv)
  ·cases e
theorem Hs.back {m0:Mu} {H0:Hp} {B0:qaj} (h0:Hs M m0 H0 B0) (h:Hs M μ H B) (ha:m0.apart μ=true) (g:Go H0 B0 H B):
  Hs M (m0.back μ) H (B.fz H μ.l m0.l.length)/\Go H0 B0 H (B.fz H μ.l m0.l.length):=by
 unfold Mu.apart at ha;simp only[Bool.and_eq_true,decide_eq_true_eq] at ha;obtain⟨⟨hl,hd⟩,ha⟩:=ha;have hk:μ.k=m0.nw μ++m0.k:=by unfold Mu.nw;conv=>lhs;rw[<-List.take_append_drop (μ.k.length - m0.k.length) μ.k,hd]
 have new: ∀q∈m0.nw μ,m0.l.length<=q.1\/q.2<=m0.l.length:=λq hq=>of_decide_eq_true (List.all_eq_true.mp ha q hq);have hc:Hs M (m0.back μ) H (B.cut m0.l.length):=h.cut _ (n:=m0.l.length) (λq hq=>by
  rw[hk] at hq
  rcases List.mem_append.mp hq with hq|hq
  ·by_cases z:q.1<m0.l.length
   ·rcases new q hq with y|y
    ·omega
    ·exact .inr ⟨Vs _ (List.mem_filter.mpr ⟨hq,by simpa using z⟩),y⟩
   ·exact .inl (by omega)
  ·exact .inr ⟨Vt _ hq,h0.ln q hq⟩) (λq hq=>by
  rcases List.mem_append.mp hq with hq|hq
  ·obtain⟨hq,z⟩:=List.mem_filter.mp hq
   rcases new q hq with y|y
   ·have:=of_decide_eq_true z;omega
   ·exact y
  ·exact h0.ln q hq) hl
 have at': ∀{a o},(B.fz H μ.l m0.l.length) a=some o->H a=some o:=λ{a o} e=>by
  have e:(if _ then H a else B a)=some o:=e;split at e
  ·exact e
  ·exact h.bh a o e
 refine⟨⟨λa o e=>at' e,λa ps e=> ?_,h.gm,λj d e nj=> ?_,hc.ij,hc.dm,hc.lk,hc.ln⟩,⟨⟨λa o e=>(qaj.fz_le h).h a o (g.le.h a o e),λj a e=> ?_⟩,g.un,λj a e=> ?_,g.dm,λa o e n t1 t2=> ?_⟩⟩
 ·have e:(if _ then H a else B a)=some (.tbl ps):=e;split at e
  ·rename_i q;obtain⟨k,_,ek,q⟩:=q
   rcases q with⟨ts,q⟩|⟨ts,q⟩
   ·obtain⟨o,_,ho,vs,rfl,_⟩:=h.at q (by simp) ek;rw[ho] at e;cases e
   ·obtain⟨o,_,ho,vs,rfl,_⟩:=h.at q (by simp) ek;rw[ho] at e;cases e
  ·exact h.bt a ps e
 ·obtain⟨a,u,e1,e2,e3,e4⟩:=hc.st j d e nj;refine⟨a,u,e1,?_,e3,e4.mono (qaj.fz_le h)⟩;show(if _ then H a else B a)=_;split
  ·rename_i q;obtain⟨k,hk,ek,_⟩:=q;have e1:(if j<m0.l.length then B.ad j else none)=some a:=e1;split at e1
   ·have:=h.ij j k a e1 ek;omega
   ·cases e1
  ·exact e2
 ·show(if j<m0.l.length then B.ad j else none)=_;rw[if_pos (h0.dm j a e).1];exact g.le.d j a e
 ·have e:(if j<m0.l.length then B.ad j else none)=some a:=e;split at e
  ·exact g.nw j a e
  ·cases e
 ·show(if _ then H a else B a)=_;rw[if_neg (λ⟨k,_,ek,_⟩=>g.off (by rw[e];simp) n k ek)];exact g.nb a o e n t1 t2
end
end NV
namespace NV
open PySem L2
inductive Out where
 |nx (ρ:Ro)|rt (t:T)|bk (ρ:Ro)|ct (ρ:Ro)
noncomputable def KS(M:Md)(H:Hp)(B:qaj)(D:qmf):Out->Mu->Prop
 |.nx ρ,μ=> ∀af H' B',Ev M ρ μ af H' B'->Go H B H' B'->D.nx af H'
 |.bk ρ,μ=> ∀af H' B',Ev M ρ μ af H' B'->Go H B H' B'->D.bk af H'
 |.ct ρ,μ=> ∀af H' B',Ev M ρ μ af H' B'->Go H B H' B'->D.ct af H'
 |.rt t,μ=>KE M H B D.rt t μ
theorem KS.le{M:Md}{H H1:Hp}{B B1:qaj}{D:qmf}{o:Out}{μ:Mu}(h:KS M H B D o μ)(le:Go H B H1 B1):KS M H1 B1 D o μ:=by
 cases o with
 |nx ρ|bk ρ|ct ρ=>exactλaf H' B' e l=>h af H' B' e (le.trans l)
 |rt t=>exact KE.le h le
noncomputable def tS(M:Md)(E:XK)(d:DS0 Out):TS:=λD σ H=> ∃ρ μ B,Ev M ρ μ σ H B/\Wn M E H B (KS M H B D) (d ρ μ)
noncomputable def qle:DS0 Out:=λρ μ=>.ok (.nx ρ) μ
noncomputable def qhf(e:DS0 Out):Out->Mu->R Out
 |.nx ρ,μ=>e ρ μ
 |o,μ=>.ok o μ
noncomputable def qtl(d e:DS0 Out):DS0 Out:=λρ μ=>(d ρ μ).bind (qhf e)
noncomputable def qtm(da:DS0 T):DS0 Out:=dSq da λt _ μ=>.ok (.rt t) μ
noncomputable def qlc(i:Nat)(da:DS0 T):DS0 Out:=dSq da λt ρ μ=>.ok (.nx (ρ.set i (some t))) μ
noncomputable def qqS(da:DS0 T):DS0 Out:=dSq da λ_ ρ μ=>.ok (.nx ρ) μ
section
variable {M:Md}{E:XK}{X:Cx}{st:Stmt}{ba ez qbU:List Stmt}{e c:Expr}{pos pos':Pos}{d d':DS0 Out}{da:DS0 T}{dt:DS0 Bool}{x:Str}{i:Nat}
theorem qaS:PS X st (tS M E dNo):=λ_ _ _ _ _ _ ⟨_,_,_,_,w⟩=>w.elim
theorem qnL:PSs X [] (tS M E qle):=PSs.weak qin λD σ H ⟨ρ,μ,B,ev,w⟩=>w σ H B ev .refl
theorem qkc{D:qmf}{σ:St}{H:Hp}(h:tS M E (qtl d d') D σ H):qtC (tS M E d) (tS M E d') D σ H:=by
 obtain⟨ρ,μ,B,ev,w⟩:=h;refine⟨ρ,μ,B,ev,(Wn.bind w).mono λo ag w1=> ?_⟩;cases o with
 |nx ai=>exactλaf H' B' e l=>⟨ai,ag,B',e,Wn.lift w1 l λ_ _ q=>KS.le q l⟩
 |bk ai|ct ai|rt t=>exact w1
theorem qkY(h:PS X st (tS M E d))(h':PSs X qbU (tS M E d')):PSs X (st::qbU) (tS M E (qtl d d')):=PSs.weak (qbG h h') λD σ H q=>qkc q
theorem qqu(h:PE X e (tE M E da)):PS X (.Return (some e) pos) (tS M E (qtm da)):=PS.weak (qeV h) λD σ H ⟨ρ,μ,B,ev,w⟩=>tE.of ev ((Wn.bind w).mono λt ag w1=>w1)
theorem qnM:PS X (.Return none pos) (tS M E (qtm (dC .non))):=PS.weak qmO λD σ H ⟨ρ,μ,B,ev,w⟩=>w .non H B ev.hs .refl qdx
theorem qnN:PS X (.Pass pos) (tS M E qle):=PS.weak qmP λD σ H ⟨ρ,μ,B,ev,w⟩=>w σ H B ev .refl
theorem qk0:PS X (.Break pos) (tS M E λρ μ=>.ok (.bk ρ) μ):=PS.weak qkg λD σ H ⟨ρ,μ,B,ev,w⟩=>w σ H B ev .refl
theorem qgd:PS X (.Continue pos) (tS M E λρ μ=>.ok (.ct ρ) μ):=PS.weak qfQ λD σ H ⟨ρ,μ,B,ev,w⟩=>w σ H B ev .refl
theorem qnO(h:PE X e (tE M E da))(hs:swapsWith e none pos.line X.env=pure false):PS X (.Expr e pos) (tS M E (qqS da)):=PS.weak (qmQ h hs) λD σ H ⟨ρ,μ,B,ev,w⟩=>
 tE.of ev ((Wn.bind w).mono λt ag w1 v H1 B1 h1 l1 _=>w1 σ H1 B1 (ev.on h1 l1.le) l1)
theorem qta(hc:PT X c (tT M E dt))(h:PSs X ba (tS M E d))(h':PSs X ez (tS M E d')):PS X (.If c ba ez pos) (tS M E (qhK dt d d')):=PS.weak (qpc hc h h') λD σ H ⟨ρ,μ,B,ev,w⟩=>by
 refine⟨ρ,μ,B,ev,(Wn.bind w).mono λc ag w1 H1 B1 h1 l1=> ?_⟩;cases c with
 |true|false=>exact⟨ρ,ag,B1,ev.on h1 l1.le,Wn.lift w1 l1 λ_ _ q=>KS.le q l1⟩
theorem qqt (hN:X.N.Nodup) (hi:X.N[i]? =some x) (hx:Loc X.env.scope x) (h:PE X e (tE M E da)) (hs:swapsWith e (some (.Name x pos')) pos.line X.env=pure false) (hf:X.fn x=true\/X.env.scope.names.lookup x=some .local):
  PS X (.Assign [.Name x pos'] e pos) (tS M E (qlc i da)):=PS.weak (qeU hN hi hx h hs hf) λD σ H ⟨ρ,μ,B,ev,w⟩=>
 tE.of ev ((Wn.bind w).mono λt ag w1 v H1 B1 h1 l1 r1=>w1 _ H1 B1 ((ev.on h1 l1.le).set r1) l1)
end
noncomputable def tG(M:Md)(E:XK)(dg:T->DS0 Ro):TG:=λv σ H Q=> ∃ρ μ B t,Ev M ρ μ σ H B/\Rep M.K B t v/\Wn M E H B (λai aa=> ∀af H' B',Ev M ai aa af H' B'->Go H B H' B'->Q af H') (dg t ρ μ)
noncomputable def tGs(M:Md)(E:XK)(dg:List T->DS0 Ro):TGs:=λv σ H Q=> ∃ρ μ B t,Ev M ρ μ σ H B/\Reps M.K B t v/\Wn M E H B (λai aa=> ∀af H' B',Ev M ai aa af H' B'->Go H B H' B'->Q af H') (dg t ρ μ)
noncomputable def gN(i:Nat):T->DS0 Ro:=λt ρ μ=>.ok (ρ.set i (some t)) μ
noncomputable def gsN:List T->DS0 Ro:=λts ρ μ=>match ts with|[]=>.ok ρ μ|_=>.no
noncomputable def gsC(dg:T->DS0 Ro)(dr:List T->DS0 Ro):List T->DS0 Ro:=λts ρ μ=>match ts with|t::r=>(dg t ρ μ).bind (dr r)|[]=>.no
noncomputable def gT(n:Nat)(dr:List T->DS0 Ro):T->DS0 Ro:=λt ρ μ=>match t with|.tup ts=>if ts.length=n then dr ts ρ μ else .no|_=>.no
noncomputable def qum(dg:T->DS0 Ro)(da:DS0 T):DS0 Out:=dSq da λt ρ μ=>(dg t ρ μ).bind λai aa=>.ok (.nx ai) aa
section
variable {M:Md}{E:XK}{X:Cx}{e:Expr}{es:List Expr}{pos:Pos}{dg:T->DS0 Ro}{dr:List T->DS0 Ro}
theorem qjt:PG X e (tG M E λ_=>dNo):=λ_ _ _ _ _ _ _ _ _ ⟨_,_,_,_,_,_,w⟩=>w.elim
theorem qtc{i:Nat}(h:PG X e (qnB i)):PG X e (tG M E (gN i)):=PG.weak h λv σ H Q ⟨ρ,μ,B,t,ev,r,w⟩=>w _ _ _ (ev.set r) .refl
theorem qnU:PGs X [] (tGs M E gsN):=PGs.weak qmU λv σ H Q ⟨ρ,μ,B,t,ev,r,w⟩=>by
 cases t with
 |nil=>exact⟨r.inv0,w σ H B ev .refl⟩
 |cons _ _=>exact w.elim
theorem qk4(h1:PG X e (tG M E dg))(h2:PGs X es (tGs M E dr))(hs:(assignEach (e::es) X.env).map (·.2)=assign e X.env::(assignEach es X.env).map (·.2)):PGs X (e::es) (tGs M E (gsC dg dr)):=
 PGs.weak (qkl h1 h2 hs) λv σ H Q ⟨ρ,μ,B,t,ev,r,w⟩=>by
  cases t with
  |nil=>exact w.elim
  |cons t ts=>obtain⟨v',r',rfl,a,b⟩:=r.inv;refine⟨v',r',rfl,ρ,μ,B,t,ev,a,(Wn.bind w).mono λaq ag w1 cN H1 B1 e1 l1=> ?_⟩;exact⟨aq,ag,B1,ts,e1,b.mono l1.le,Wn.lift w1 l1 λaB ak q aJ H2 B2 e2 l2=>q aJ H2 B2 e2 (l1.trans l2)⟩
theorem qqB{k n:Nat}(hc:X.calm=true)(h:PGs X es (tGs M E dr))(hK:X.K=M.K)(hn:(assignEach es X.env).length=n)(aE:(assignEach es X.env).findIdx? (·.1)=none):PG X (.Tuple es k pos) (tG M E (gT n dr)):=
 PG.weak (qpk hc h hn aE) λv σ H Q ⟨ρ,μ,B,t,ev,r,w⟩=>by
  cases t with
  |tup ts=>
   obtain⟨p,vs,rfl,bp,rv⟩:=qar r;have w:Wn M E H B _ (if ts.length=n then _ else _):=w;split at w
   ·rename_i hl;exact⟨p,vs,rfl,.inl (.inl (ev.hs.bh _ _ bp)),by rw[rv.length];exact hl,ρ,μ,B,ts,ev,rv,w⟩
   ·exact w.elim
  |_=>exact w.elim
theorem ql4{tg:Expr}{da:DS0 T}(h:PE X e (tE M E da))(hg:PG X tg (tG M E dg))(hs:swapsWithSole [tg] e pos.line X.env=pure false)(hw:swappedStores [tg] e X.env=pure none)(h1:(assignEach [tg] X.env).map (·.2)=[assign tg X.env]):PS X (.Assign [tg] e pos) (tS M E (qum dg da)):=
 PS.weak (qpg h hg hs hw h1) λD σ H ⟨ρ,μ,B,ev,w⟩=>tE.of ev ((Wn.bind w).mono λt ag w1 v H1 B1 h1 l1 r1=>⟨ρ,ag,B1,t,ev.on h1 l1.le,r1,(Wn.bind w1).lift l1 λaB ak w2 aJ H2 B2 e2 l2=>w2 aJ H2 B2 e2 (l1.trans l2)⟩)
end
noncomputable def spF(M:Md)(f:List T->Mu->R T):Sp:=λvs H Q E=> ∃μ B ts,Hs M μ H B/\Reps M.K B ts vs/\Wn M E H B (KE M H B Q) (f ts μ)
noncomputable def outT:Out->Mu->R T
 |.rt t,μ=>.ok t μ
 |.nx _,μ=>.ok .non μ
 |_,_=>.no
noncomputable def lv(kp:Bool)(μ:Mu)(r:R T):R T:=if kp=true then r else leave μ r
noncomputable def fnR(kp:Bool)(n N:Nat)(d:DS0 Out):List T->Mu->R T:=λts μ=>if ts.length=n then lv kp μ ((d (ts.map some++List.replicate (N - n) none) μ).bind outT) else .no
section
variable {M:Md}{E:XK}{P:Program}{w:World}{mg:Str->Option Value}{base:Heap}
theorem qhz{μ:Mu}{H:Hp}{B:qaj}{Q:VK}{r:R T}(h:Hs M μ H B)(w:Wn M E H B (KE M H B Q) (leave μ r)):Wn M E H B (KE M H B Q) r:=by
 cases r with
 |no=>exact w
 |ok t m=>
  have w:Wn M E H B (KE M H B Q) (if m.l.length=μ.l.length then .ok t m else if μ.apart m=true then(match fzT μ.l.length m.l 3 t with|some t'=>.ok t' (μ.back m)|none=>.no) else .ok t m):=w;split at w
  ·exact w
  ·split at w
   ·rename_i ha;split at w
    ·rename_i t' e
     exactλv H' B' h' l r=>w v H' _ (h.back h' ha l).1 (h.back h' ha l).2 (qqd h' 3 t t' v e r)
    ·exact w.elim
   ·exact w
 |ex c m=>
  have w:Wn M E H B (KE M H B Q) (if m.l.length=μ.l.length then .ex c m else if μ.apart m=true then .ex c (μ.back m) else .ex c m):=w;split at w
  ·exact w
  ·split at w
   ·rename_i ha
    exactλH' B' h' l=>w H' _ (h.back h' ha l).1 (h.back h' ha l).2
   ·exact w
theorem qnr{kp:Bool}{μ:Mu}{H:Hp}{B:qaj}{Q:VK}{r:R T}(h:Hs M μ H B)(w:Wn M E H B (KE M H B Q) (lv kp μ r)):Wn M E H B (KE M H B Q) r:=by
 cases kp with
 |true=>exact w
 |false=>exact qhz h w
theorem qkV{H:Hp}{B:qaj}{μ:Mu}{ts:List T}{vs:List V}{N:List Str}(h:Hs M μ H B)(r:Reps M.K B ts vs)(hN:ts.length<=N.length):Ev M (ts.map some++List.replicate (N.length - ts.length) none) μ (start N vs) H B:=by
 have hl:=r.length;refine⟨h,by unfold L2.start;simp[hl],λi t e=> ?_⟩;by_cases hi:i<ts.length
 ·rw[List.getElem?_append_left (by simpa using hi),List.getElem?_map] at e;cases q:ts[i]? with
  |none=>rw[q] at e;cases e
  |some u=>rw[q] at e;cases e;obtain⟨v,e1,e2⟩:=r.get q;refine⟨v,?_,e2⟩;unfold L2.start;rw[List.getElem?_append_left (by rw[List.length_map,hl];exact hi),List.getElem?_map,e1];rfl
 ·rw[List.getElem?_append_right (by simpa using hi),List.getElem?_replicate] at e;split at e<;>cases e
theorem qs2 {x qual:Str} {st:Stmt} {f:Addr} {fd:FuncData} {N ps:List Str} {k:Nat} {kp:Bool} {d:DS0 Out} (F:Fun M.K x qual st f fd) (S:qbE N ps (qab st))
  (av: ∀(cdv:Value),fd.code=cdv->∀(A:Around) (outer:List Env) (s:Shared) (H:Hp) (E:XK),qaX k (A.deeper (PyProof.Rows.envOfC qual (qab st) s.heap.objs.size f cdv))->
   PSs (qeo (CXE P w) P w M.K mg base N qual (qab st) f cdv A outer s H E) (qam st) (tS M E d)):qcD P w M.K mg base (CXE P w) (k+1) f fd ps (spF M (fnR kp ps.length N.length d)):=by
 have ax:ps.length<=N.length:=by have:=congrArg List.length S.pre;rw[List.length_take] at this;omega
 have len: ∀vs H Q E,spF M (fnR kp ps.length N.length d) vs H Q E->∃μ B ts,Hs M μ H B/\Reps M.K B ts vs/\ts.length=ps.length/\Wn M E H B (KE M H B Q) (lv kp μ ((d (ts.map some++List.replicate (N.length - ps.length) none) μ).bind outT)):=λvs H Q E h=>by
  obtain⟨μ,B,ts,h1,h2,h3⟩:=h;unfold fnR at h3;split at h3
  ·rename_i hl;exact⟨μ,B,ts,h1,h2,hl,h3⟩
  ·exact h3.elim
 obtain⟨oc,od,kV,doc,pm,an,cdv,ct,osl,rfl,lk,aH⟩:=F.ex;refine qs3 lk aH S (λvs H Q E h=> ?_) λA outer s H vs Q E hr h=>⟨_,av cdv rfl A outer s H E hr,?_⟩
 ·obtain⟨μ,B,ts,h1,h2,hl,h3⟩:=len vs H Q E h;rw[h2.length];exact hl
 ·obtain⟨μ,B,ts,h1,h2,hl,h3⟩:=len vs H Q E h;refine⟨_,μ,B,qkV h1 h2 (by omega),?_⟩;rw[hl];refine(Wn.bind (qnr h1 h3)).mono λo ag w1=> ?_;cases o with
  |rt t=>exact w1
  |nx ρ=>exactλaf H' B' e l=>w1 .non H' B' e.hs l qdx
  |bk ρ|ct ρ=>exact w1.elim
end
noncomputable def qen(f:List T->Mu->R T)(ds:DS0 (List T)):DS0 T:=dSq ds λts _ μ=>f ts μ
section
variable {M:Md}{E:XK}{X:Cx}{k:Nat}{f C:Addr}{fd:FuncData}{ps:List Str}{x m:Str}{p pos apos:Pos}{e o:Expr}{es:List Expr}{da:DS0 T}{ds:DS0 (List T)}{fT:List T->Mu->R T}
theorem qfr{σ:St}{H:Hp}{Q:VK}(h:tE M E (qen fT ds) σ H Q):qmy (spF M fT) [] E (tA M E ds) σ H Q:=by obtain⟨ρ,μ,B,ev,w⟩:=h;refine⟨ρ,μ,B,ev,(Wn.bind w).mono λts ag w1 vs H1 B1 h1 l1 r1=> ?_⟩;show spF M fT (vs++[]) H1 Q E;rw[List.append_nil];exact⟨ag,B1,ts,h1,r1,Wn.lift w1 l1 λ_ _ q=>KE.le q l1⟩
theorem qn4 (F:qcD X.prog X.w X.K X.mg X.base (CXE X.prog X.w) k f fd ps (spF M fT)) (hr:qaX k X.A) (hg:Gl X x) (hm:X.mg x=some (.ref f)) (hk:W.keepIn X.K (.ref f)=true) (hb:qaO X.K fd ps []) (hx:qaD (CXE X.prog X.w) X E)
  (ha:PA X (e::es) (tA M E ds)) (aF:(x==("__debug__" :Str))=false) (he:starEach (e::es) X.env=(false,eval e X.env)::starEach es X.env) (ax:(backTo pos (starEach es X.env)).any (·.1)=false):
  PE X (.Call (.Name x p) (e::es) [] pos) (tE M E (qen fT ds)):=PE.weak (qm1 F hr hg hm hk hb .nil hx ha aF he ax) λ_ _ _ h=>qfr h
theorem qla (F:qcD X.prog X.w X.K X.mg X.base (CXE X.prog X.w) k f fd ps (spF M fT)) (hr:qaX k X.A) (hg:Gl X x) (hm:X.mg x=some (.ref f)) (hk:W.keepIn X.K (.ref f)=true) (hb:qaO X.K fd ps []) (hx:qaD (CXE X.prog X.w) X E)
  (aF:(x==("__debug__" :Str))=false):PE X (.Call (.Name x p) [] [] pos) (tE M E (qen fT ql7)):=PE.weak (qkt F hr hg hm hk hb .nil hx aF) λσ H Q h=>by obtain⟨ρ,μ,B,ev,w⟩:=h;exact⟨μ,B,[],ev.hs,.nil,w⟩
noncomputable def mkR(c:Str)(fT:List T->Mu->R T)(ts:List T)(μ:Mu):R T:=(fT (.obj μ.l.length::ts) (μ.add (.ins c []))).bind λt m=>match t with|.non=>.ok (.obj μ.l.length) m|_=>.no
theorem qe6{σ:St}{H:Hp}{Q:VK}{c:Str}(hC:C=clA M.K c)(h:tE M E (qen (mkR c fT) ds) σ H Q):qmw C (spF M fT) [] E (tA M E ds) σ H Q:=by
 obtain⟨ρ,μ,B,ev,w⟩:=h;refine⟨ρ,μ,B,ev,(Wn.bind w).mono λts ag w1 vs H1 B1 h1 l1 r1 x dx hx fP ne=> ?_⟩;rw[List.append_nil];have h2:=h1.more (H':=upd H1 dx (.own x)) λa o e=>by rw[qaa (qag e fP)];exact e
 have cx:upd H1 dx (.own x) x=none:=by rw[qaa (λz=>ne z.symm)];exact hx
 obtain⟨h3,_⟩:=h2.own (p:=x) (c:=.ins c []) (o:=.ins C dx []) cx ⟨dx,[],by rw[hC],rfl⟩;have l3:Go H1 B1 (upd (upd H1 dx (.own x)) x (.ins C dx [])) (B1.add ag.l.length x):=(Go.more (λa o e=>by rw[qaa (qag e fP)];exact e)).trans (h2.gown cx);have ad:(B1.add ag.l.length x).ad ag.l.length=some x:=by show(if ag.l.length=ag.l.length then some x else _)=_;rw[if_pos rfl]
 refine⟨_,_,_::ts,h3,.cons (qdw ad) (r1.mono l3.le),(Wn.bind w1).lift (l1.trans l3) λt ak w2 v H2 B2 h4 l4 r4=> ?_⟩;cases t with
 |non=>exact⟨qcJ r4,w2 _ H2 B2 h4 ((l1.trans l3).trans l4) (qdw (l4.le.d _ _ ad))⟩
 |_=>exact w2.elim
theorem qn1 {c:Str} (hC:C=clA M.K c) (iz:Mk X.K C f) (F:qcD X.prog X.w X.K X.mg X.base (CXE X.prog X.w) k f fd ps (spF M fT)) (hr:qaX (k+1) X.A) (hg:Gl X x) (hm:X.mg x=some (.ref C)) (hb:qaO X.K fd ps []) (hx:qaD (CXE X.prog X.w) X E)
  (ha:PA X (e::es) (tA M E ds)) (aF:(x==("__debug__" :Str))=false) (he:starEach (e::es) X.env=(false,eval e X.env)::starEach es X.env) (ax:(backTo pos (starEach es X.env)).any (·.1)=false):
  PE X (.Call (.Name x p) (e::es) [] pos) (tE M E (qen (mkR c fT) ds)):=PE.weak (qmY iz F hr hg hm hb .nil hx ha aF he ax) λ_ _ _ h=>qe6 hC h
theorem qk8 {c:Str} (hC:C=clA M.K c) (iz:Mk X.K C f) (F:qcD X.prog X.w X.K X.mg X.base (CXE X.prog X.w) k f fd ps (spF M fT)) (hr:qaX (k+1) X.A) (hg:Gl X x) (hm:X.mg x=some (.ref C)) (hb:qaO X.K fd ps []) (hx:qaD (CXE X.prog X.w) X E)
  (aF:(x==("__debug__" :Str))=false):PE X (.Call (.Name x p) [] [] pos) (tE M E (qen (mkR c fT) ql7)):=PE.weak (qko iz F hr hg hm hb .nil hx aF) λσ H Q h=>by have:=qe6 (ds:=ql7) hC h;obtain⟨ρ,μ,B,ev,w⟩:=this;exact w [] H B ev.hs .refl .nil
noncomputable def qox(ok:Str->Str->Bool)(f:Str):T->Mu->R T
 |.obj k,μ=>(match μ.l[k]? with
  |some (.ins c fs)=>if ok c f=true then(match fs.lookup f with|some t=>.ok t μ|none=>.no) else .no
  |_=>.no)
 |_,_=>.no
theorem qbV{K:W.Frag}{B:qaj}{f:Str}: ∀{fs:List (Str×T)} {vs:List (Str×V)},qba K B fs vs->(∀t,fs.lookup f=some t->∃v,vs.lookup f=some v/\Rep K B t v)/\(fs.lookup f=none->vs.lookup f=none)
 |[],vs,r=>by have r:vs=[]:=r;rw[r];exact⟨(λt e=>by simp at e),λ_=>rfl⟩
 |(g,t)::fs,_,⟨v,r,e,a,b⟩=>by
  have ih:=qbV (f:=f) b;rw[e,List.lookup_cons,List.lookup_cons];cases q:f==g with
  |true=>exact⟨λu q=>by cases q;exact⟨v,rfl,a⟩,λq=>by cases q⟩
  |false=>exact ih
theorem qkS{ok:Str->Str->Bool}{f:Str}(hK:X.K=M.K)(hok: ∀c,ok c f=true->Cls M.K (clA M.K c)/\qbb M.K (clA M.K c) f){σ:St}{H:Hp}{Q:VK}(h:tE M E (dU (qox ok f) da) σ H Q):qtE X.K (tE M E da) f σ H Q:=by
 obtain⟨ρ,μ,B,ev,w⟩:=h;refine tE.of ev ((Wn.bind w).mono λx ag w1 v H1 B1 h1 l1 r1=> ?_);have w1:Wn M E H B (KE M H B Q) (qox ok f x ag):=w1;unfold qox at w1;split at w1
 ·rename_i k;obtain⟨a,rfl,ea⟩:=qaz r1;split at w1
  ·rename_i c fs el;split at w1
   ·rename_i hc;obtain⟨h2,h3⟩:=hok c hc;split at w1
    ·rename_i t et;obtain⟨o,b0,ho,dx,vs,rfl,rv⟩:=h1.at el (by simp) ea;obtain⟨v,bO,cw⟩:=(qbV rv).1 t et;rw[hK];exact⟨a,_,dx,vs,v,rfl,ho,h2,h3,bO,w1 v H1 B1 h1 l1 cw⟩
    ·exact w1.elim
   ·exact w1.elim
  ·exact w1.elim
 ·exact w1.elim
theorem qqI{ok:Str->Str->Bool}{f:Str}(hK:X.K=M.K)(hok: ∀c,ok c f=true->Cls M.K (clA M.K c)/\qbb M.K (clA M.K c) f)(he:PE X e (tE M E da))(hb:attributeBase e f X.env (eval e X.env)=eval e X.env):PE X (.Attribute e f pos) (tE M E (dU (qox ok f) da)):=
 PE.weak (qpp he hb) λ_ _ _ h=>qkS hK hok h
noncomputable def qrc(f:Str)(t:T):List (Str×T)->List (Str×T)
 |[]=>[(f,t)]
 |(g,u)::r=>if g=f then(g,t)::r else(g,u)::qrc f t r
noncomputable def qrn(ok:Str->Str->Bool)(f:Str)(t:T):T->Mu->R Unit
 |.obj k,μ=>(match μ.l[k]? with
  |some (.ins c fs)=>if ok c f=true/\fs.length<1000 then .ok () (μ.put k (.ins c (qrc f t fs))) else .no
  |_=>.no)
 |_,_=>.no
noncomputable def qqR(ok:Str->Str->Bool)(f:Str)(aV dv:DS0 T):DS0 Out:=dSq dv λt=>dSq aV λo ρ μ=>(qrn ok f t o μ).bind λ_ aa=>.ok (.nx ρ) aa
theorem qgF{K:W.Frag}{B:qaj}{f:Str}{t:T}{v:V}(r:Rep K B t v): ∀{fs:List (Str×T)} {vs:List (Str×V)},qba K B fs vs->qba K B (qrc f t fs) (qd4 f v vs)
 |[],_,h=>by rw[show _=_ from h];exact⟨v,[],rfl,r,rfl⟩
 |(g,u)::fs,_,⟨w,r',e,a,b⟩=>by
  rw[e];unfold qrc qd4;by_cases q:g=f
  ·rw[if_pos q,if_pos q];exact⟨v,r',rfl,r,b⟩
  ·rw[if_neg q,if_neg q];exact⟨w,_,rfl,a,qgF r b⟩
theorem qqy {ok:Str->Str->Bool} {f:Str} {o value:Expr} {pos':Pos} {dv:DS0 T} (hK:X.K=M.K) (hok: ∀c,ok c f=true->Cls M.K (clA M.K c)/\qbb M.K (clA M.K c) f) (ho:PE X o (tE M E da)) (hv:PE X value (tE M E dv)) (hs:swapsWith value (some (.Attribute o f pos')) pos.line X.env=pure false):
  PS X (.Assign [.Attribute o f pos'] value pos) (tS M E (qqR ok f da dv)):=PS.weak (qpe ho hv hs) λD σ H ⟨ρ,μ,B,ev,w⟩=>by
 refine tE.of ev ((Wn.bind w).mono λt ag w1 v H1 B1 h1 l1 r1=> ?_);refine tE.of (ev.on h1 l1.le) ((Wn.bind w1).lift l1 λx ak w2 u H2 B2 h2 l2 r2=> ?_);have w2:Wn M E H B (KS M H B D) ((qrn ok f t x ak).bind λ_ aa=>.ok (.nx ρ) aa):=w2;have w2:=Wn.bind w2;unfold qrn at w2;split at w2
 ·rename_i k;obtain⟨a,rfl,ea⟩:=qaz r2;split at w2
  ·rename_i c fs el;split at w2
   ·rename_i hc;obtain⟨g2,g3⟩:=hok c hc.1;obtain⟨o,b0,ho,dx,vs,rfl,rv⟩:=h2.at el (by simp) ea;rw[hK];refine⟨a,_,dx,vs,rfl,ho,g2,g3,by rw[rv.length];exact hc.2,?_⟩;have g:=(l1.trans l2).trans (qsM (H:=H2) (o:=.ins (clA M.K c) dx (qd4 f v vs)) ea);exact w2 σ _ B2 (ev.on (h2.put el (by simp) ea ⟨dx,_,rfl,qgF (r1.mono l2.le) rv⟩) g.le) g
   ·exact w2.elim
  ·exact w2.elim
 ·exact w2.elim
end
end NV
namespace PL
open PySem L2
inductive T where
 |non|bl (b:Bool)|int (i:Int)|str (s:Str)|tup (ts:List T)|lst (ts:List T)|dct (kvs:List (Key×T))|dcf (kvs:List (Key×T))|dtu (kvs:List (List Key×T))|fn (x:Str)|scr (ns:List Int)|obj (a:Addr)
inductive Rs(α:Type) where
 |no|ok (a:α)|ex (c:Str)
structure GX(H H':Hp):Prop where
 hh: ∀a o,H a=some o->(∀ps,o≠.tbl ps)->H' a=some o
 dm: ∀a,H a≠none->H' a≠none
inductive Sl where
 |no|fz (t:T)|ow (ts:List T)|od (kvs:List (Key×T))|ou (kvs:List (List Key×T))|pd (kvs:List (Key×T))|pu (kvs:List (List Key×T))
abbrev Ro:=List Sl
inductive Out where
 |nx (ρ:Ro)|rt (t:T)|bk (ρ:Ro)|ct (ρ:Ro)|rs (s:Sl) (ρ:Ro)
section
noncomputable def qvb(K:W.Frag)(tl:TE):TI:=λσ H R=>tl σ H λx H1=> ∃a,x= .ref a/\(((∃xs,SqL K H1 a xs/\(xs.length<=sizeLine->R (Itl K a) H1)))\/(∃xs,SqT K H1 a xs/\(xs.length<=sizeLine->R (Itt K a) H1)))
theorem pi_seq(hl:PE X l tl):PI X tg l (qvb X.K tl):=by
 intro pins s σ H R I h;refine thn (hl pins s σ H _ I h) λv s1 eJ=> ?_;obtain⟨x,H1,I1,r1,q1⟩:=eJ;obtain⟨a,e,q⟩:=q1;subst e;cases r1
 rcases q with⟨xs,hq,q⟩|⟨xs,hq,q⟩
 ·obtain⟨its,rv,p,hz⟩:=I1.list hq;have q:=q hz;refine Vg p.isList ?_;refine⟨s1.heap.objs.size,[s1.heap.objs.size],_,_,H1,rfl,I1.kept (t':=s1.toks) λb o e=>Vh _ e,qh1 a _,⟨_,Vi _ rfl,rfl,rfl⟩,λb hb=> ?_,q⟩;have e:b=s1.heap.objs.size:=by simpa using hb
  subst e;exact I1.fpOk (Vm _) (I1.hok.fresh (Vm _))
 ·obtain⟨its,rv,p,hz⟩:=I1.tuple hq;have q:=q hz;refine wpAny_pyIter_tuple p ?_;refine⟨s1.heap.objs.size,[s1.heap.objs.size],_,_,H1,rfl,I1.kept (t':=s1.toks) λb o e=>Vh _ e,qg9 a _,⟨_,Vi _ rfl,rfl,rfl⟩,λb hb=> ?_,q⟩;have e:b=s1.heap.objs.size:=by simpa using hb
  subst e;exact I1.fpOk (Vm _) (I1.hok.fresh (Vm _))
end
theorem line1M:(1000000:Nat)<=sizeLine:=by decide
end PL
namespace Mir
open St
theorem qb6: ∀{l:List Nat} {x:Nat},x∈l->(l.erase x).length+1=l.length
 |[],_,h=>by cases h
 |y::l,x,h=>by
  by_cases e:y=x
  ·subst e;simp
  ·have hb:(y==x)=false:=by simpa using e
   rw[List.erase_cons,hb];simp only[Bool.false_eq_true,if_false,List.length_cons];have:=qb6 (l:=l) (x:=x) ((List.mem_cons.mp h).resolve_left λz=>e z.symm);lia
theorem qe5{l:List Nat}{x y:Nat}(h:y∈l)(bK:y≠x):y∈l.erase x:=by
 induction l with
 |nil=>cases h
 |cons z l ih=>
  rw[List.erase_cons];by_cases e:z=x
  ·have hb:(z==x)=true:=by simpa using e
   rw[hb,if_pos rfl];exact(List.mem_cons.mp h).resolve_left λq=>bK (q.trans e)
  ·have hb:(z==x)=false:=by simpa using e
   rw[hb];simp only[Bool.false_eq_true,if_false]
   rcases List.mem_cons.mp h with q|q
   ·rw[q];exact Vk
   ·exact Vl _ (ih q)
theorem qgP: ∀{l l':List Nat},l.Nodup->(∀x∈l,x∈l')->l.length<=l'.length
 |[],_,_,_=>Nat.zero_le _
 |x::l,l',nd,h=>by have hx:x∈l':=h x Vk;have hn:=List.nodup_cons.mp nd;have:=qgP (l:=l) (l':=l'.erase x) hn.2 λy hy=>qe5 (h y (Vl _ hy)) λz=>hn.1 (z▸hy);have e:=qb6 hx;rw[List.length_cons];lia
theorem qvo{l:List Nat}{n:Nat}(nd:l.Nodup)(lt: ∀x∈l,x<n)(hl:l.length=n): ∀j,j<n->j∈l:=by
 intro j hj;by_cases q:j∈l
 ·exact q
 ·have h1:=qgP (l:=j::l) (l':=List.range n) (List.nodup_cons.mpr ⟨q,nd⟩) λx hx=>by
   rcases List.mem_cons.mp hx with e|e
   ·rw[e];exact List.mem_range.mpr hj
   ·exact List.mem_range.mpr (lt x e)
  rw[List.length_cons,List.length_range] at h1;lia
theorem qbR(cL: ∀a b,R a b->¬R b a): ∀{l l':List Nat},l.Pairwise R->l'.Pairwise R->(∀x,x∈l↔x∈l')->l=l'
 |[],[],_,_,_=>rfl
 |[],y::l',_,_,h=>by have:=(h y).mpr Vk;cases this
 |x::l,[],_,_,h=>by have:=(h x).mp Vk;cases this
 |x::l,y::l',h1,h2,h=>by
  obtain⟨a1,b1⟩:=List.pairwise_cons.mp h1;obtain⟨a2,b2⟩:=List.pairwise_cons.mp h2;have exy:x=y:=by
   rcases List.mem_cons.mp ((h x).mp Vk) with e|e
   ·exact e
   ·rcases List.mem_cons.mp ((h y).mpr Vk) with e'|e'
    ·exact e'.symm
    ·exact absurd (a2 x e) (cL x y (a1 y e'))
  subst exy;have n1:x∉l:=λq=>cL x x (a1 x q) (a1 x q);have n2:x∉l':=λq=>cL x x (a2 x q) (a2 x q);rw[qbR cL b1 b2 λz=>⟨λq=>((List.mem_cons.mp ((h z).mp (List.mem_cons_of_mem _ q))).resolve_left λe=>n1 (e▸q)),λq=>((List.mem_cons.mp ((h z).mpr (List.mem_cons_of_mem _ q))).resolve_left λe=>n2 (e▸q))⟩]
theorem qme(a b:Nat)(h:L k a b): ¬L k b a:=by
 intro h'
 rcases h with h|h<;>rcases h' with h'|h'<;>lia
theorem qbP(h:qdd ms n p):p.toList.Pairwise (L λi=>ms.getD i 0):=by
 rw[List.pairwise_iff_getElem];intro i j hi hj aL;have a9:i<p.size:=by simpa using hi
 have cW:j<p.size:=by simpa using hj
 have e:=h.2 i j aL (by rw[h.1.sz] at cW;exact cW);have e1:g p i=p.toList[i]:=by unfold g;rw[Array.getD_eq_getD_getElem?];simp[a9]
 have e2:g p j=p.toList[j]:=by unfold g;rw[Array.getD_eq_getD_getElem?];simp[cW]
 rw[e1,e2] at e;exact e
theorem qgM(h:qdd ms n p): ∀x∈p.toList,x<n:=by
 intro x hx;obtain⟨i,hi,rfl⟩:=List.mem_iff_getElem.mp hx;have a9:i<p.size:=by simpa using hi
 have e:=h.1.lo i (by rw[h.1.sz] at a9;exact a9);have e1:g p i=p.toList[i]:=by unfold g;rw[Array.getD_eq_getD_getElem?];simp[a9]
 rw[e1] at e;exact e
theorem qfS(h:qdd ms n p):p.toList.Nodup:=by refine List.Pairwise.imp ?_ (qbP h);intro a b i4 e;subst e;exact qme a a i4 i4
theorem qiz{p:Array Nat}(h:qdd ms n p)(x:Nat):x∈p.toList↔x<n:=
 ⟨qgM h x,qvo (qfS h) (qgM h) (by rw[Array.length_toList];exact h.1.sz) x⟩
noncomputable def qrN(ms:List Int)(n:Nat)(m:Int):List Nat:=(List.range n).filter λj=>decide (ms.getD j 0=m)
noncomputable def due(ms:List Int)(n t:Nat):List Nat:=(List.range t).flatMap λm=>qrN ms n (m:Nat)
theorem map_range_getD(xs:List α)(d:α):(List.range xs.length).map (λj=>xs.getD j d)=xs:=by
 apply List.ext_getElem
 ·simp
 ·intro i h1 h2;simp[h2]
end Mir
namespace SR
open PySem L2 RH St Mir
theorem qp7: ∀{l:List Nat},(∀x∈l,x<n)->l.Pairwise (L k)->(ins k n l).Pairwise (L k)
 |[],_,_=>by simp[ins]
 |y::l,hl,h=>by
  have h':=List.pairwise_cons.mp h;have hy:y<n:=hl y Vk;show(if k y<=k n then y::ins k n l else n::y::l).Pairwise (L k);by_cases c:k y<=k n
  ·rw[if_pos c];refine List.pairwise_cons.mpr ⟨λz hz=> ?_,qp7 (λx hx=>hl x (Vl _ hx)) h'.2⟩
   rcases qfZ.mp hz with q|q
   ·subst q;unfold L;lia
   ·exact h'.1 z q
  ·rw[if_neg c];refine List.pairwise_cons.mpr ⟨λz hz=> ?_,h⟩
   rcases List.mem_cons.mp hz with q|q
   ·subst q;exact .inl (by lia)
   ·have:=h'.1 z q;unfold L at this⊢;lia
theorem qeT(k:Nat->Int): ∀n,(srt k (List.range n)).Pairwise (L k)
 |0=>List.Pairwise.nil
 |n+1=>by rw[List.range_succ,qdX];exact qp7 (λx hx=>List.mem_range.mp ((qea _).mp hx)) (qeT k n)
theorem qiy(h:qdd ms n p):p.toList=srt (λi=>ms.getD i 0) (List.range n):=
 qbR qme (qbP h) (qeT _ _) λx=>by rw[qiz h,qea,List.mem_range]
end SR
namespace RH
open PySem PySem.Spec PyProof.Rows L2 SR
section
noncomputable def eqT(us vs:List V):Bool:=(List.range us.length).all λj=>eqV (us.getD j .non) (vs.getD j .non)
theorem valsArr(r:qan us is)(h:j<is.toArray.size):RelV (us.getD j .non) is.toArray[j]:=by
 have hj:j<us.length:=by rw[r.length];simpa using h
 obtain⟨u,e,q⟩:=r.get (Vx hj);rw[List.getD_eq_getElem?_getD,List.getElem?_eq_getElem hj];have:is.toArray[j]=u:=by rw[List.getElem?_eq_getElem (by simpa using h)] at e;simpa using Option.some.inj e
 rw[this];exact q
end
end RH
namespace PL
open PySem L2
section kinds
open SeqAt
variable {A:Around}{s:Shared}{x:V}{u:Value}{l b:Addr}{is js:Array Value}
theorem eq_fl(r:RelV x u)(f:qgc x=true)(h:s.heap.IsList l is)(c:A.units<cLine):EqAt A s u (.ref l) false/\EqAt A s (.ref l) u false/\RcAt A s u (.ref l) false/\RcAt A s (.ref l) u false/\RcNeAt A s u (.ref l) true/\RcNeAt A s (.ref l) u true:=by
 cases x with
 |non=>cases r;exact⟨.none_list h c,.list_none h c,.none_list h c,.list_none h c,.none_list h c,.list_none h c⟩
 |bl k=>cases r;exact⟨.bool_list k h c,.list_bool k h c,.bool_list k h c,.list_bool k h c,.bool_list k h c,.list_bool k h c⟩
 |int k=>obtain⟨t,rfl⟩:=r;exact⟨.int_list k t h c,.list_int k t h c,.int_list k t h c,.list_int k t h c,.int_list k t h c,.list_int k t h c⟩
 |str k=>obtain⟨t,rfl⟩:=r;exact⟨.str_list k t h c,.list_str k t h c,.str_list k t h c,.list_str k t h c,.str_list k t h c,.list_str k t h c⟩
 |_=>cases f
theorem eq_ft(r:RelV x u)(f:qgc x=true)(h:s.heap.IsTuple l is)(c:A.units<cLine):EqAt A s u (.ref l) false/\EqAt A s (.ref l) u false/\RcAt A s u (.ref l) false/\RcAt A s (.ref l) u false/\RcNeAt A s u (.ref l) true/\RcNeAt A s (.ref l) u true:=by
 cases x with
 |non=>cases r;exact⟨.none_tuple h c,.tuple_none h c,.none_tuple h c,.tuple_none h c,.none_tuple h c,.tuple_none h c⟩
 |bl k=>cases r;exact⟨.bool_tuple k h c,.tuple_bool k h c,.bool_tuple k h c,.tuple_bool k h c,.bool_tuple k h c,.tuple_bool k h c⟩
 |int k=>obtain⟨t,rfl⟩:=r;exact⟨.int_tuple k t h c,.tuple_int k t h c,.int_tuple k t h c,.tuple_int k t h c,.int_tuple k t h c,.tuple_int k t h c⟩
 |str k=>obtain⟨t,rfl⟩:=r;exact⟨.str_tuple k t h c,.tuple_str k t h c,.str_tuple k t h c,.tuple_str k t h c,.str_tuple k t h c,.tuple_str k t h c⟩
 |_=>cases f
theorem rc_ff{y:V}{v:Value}(r:RelV x u)(f:qgc x=true)(r':RelV y v)(f':qgc y=true):RcAt A s u v (eqV x y)/\RcNeAt A s u v (!eqV x y):=by
 cases x with
 |non=>
  cases r;cases y with
  |non=>cases r';exact⟨.none_none,.none_none⟩
  |bl k=>cases r';exact⟨.none_bool k,.none_bool k⟩
  |int k=>obtain⟨t,rfl⟩:=r';exact⟨.none_int k t,.none_int k t⟩
  |str k=>obtain⟨t,rfl⟩:=r';exact⟨.none_str k t,.none_str k t⟩
  |_=>cases f'
 |bl i=>
  cases r;cases y with
  |non=>cases r';exact⟨.bool_none i,.bool_none i⟩
  |bl k=>cases r';exact⟨.bool_bool i k,.bool_bool i k⟩
  |int k=>obtain⟨t,rfl⟩:=r';exact⟨.bool_int i k t,.bool_int i k t⟩
  |str k=>obtain⟨t,rfl⟩:=r';exact⟨.bool_str i k t,.bool_str i k t⟩
  |_=>cases f'
 |int i=>
  obtain⟨t0,rfl⟩:=r;cases y with
  |non=>cases r';exact⟨.int_none i t0,.int_none i t0⟩
  |bl k=>cases r';exact⟨.int_bool i t0 k,.int_bool i t0 k⟩
  |int k=>obtain⟨t,rfl⟩:=r';exact⟨.int_int i t0 k t,.int_int i t0 k t⟩
  |str k=>obtain⟨t,rfl⟩:=r';exact⟨.int_str i t0 k t,.int_str i t0 k t⟩
  |_=>cases f'
 |str i=>
  obtain⟨t0,rfl⟩:=r;cases y with
  |non=>cases r';exact⟨.str_none i t0,.str_none i t0⟩
  |bl k=>cases r';exact⟨.str_bool i t0 k,.str_bool i t0 k⟩
  |int k=>obtain⟨t,rfl⟩:=r';exact⟨.str_int i t0 k t,.str_int i t0 k t⟩
  |str k=>obtain⟨t,rfl⟩:=r';exact⟨.str_str i t0 k t,.str_str i t0 k t⟩
  |_=>cases f'
 |_=>cases f
end kinds
end PL
namespace SetL
open PySem
noncomputable def Ri(xs:Array Nat):Prop:=xs.toList.Pairwise (· < ·)
noncomputable def qvy(t:SetTable):Prop:=Ri t.place/\t.dummies= #[]
inductive Way(w:World)(h:Heap)(a:Addr)(es:Array (Int×Value))(ep:Nat)(t:SetTable):List Addr->(Nat->Value)->List Value->Prop
 |drawn {tp:Addr} {ot:Obj} {pl:List Nat} {k:Nat}:h.get? tp=some ot->ot.data= .seq (List.toArray (pl.map λ(i:Nat)=>rawInt i)) k->(∀i∈pl,i<es.size)->Way w h a es ep t [tp] (λ_=>.ref tp) (pl.map λi=>(es.toList.map (·.2)).getD i .none)
 |text:w.params.followText "set-order" =true->Way w h a es ep t [] (λ_=>rawInt 0) ((pickOrder (w.params.setOrder a ep) es).toList.map (·.2))
 |small:w.params.followText "set-order" =false->(!t.plain&&decide (es.size>1))=false->t.led=true->qvy t->Way w h a es ep t [] (λi=>if i=0 then rawInt 0 else rawInt (t.place.getD (i - 1) 0+1:Nat)) (es.toList.map (·.2))
section
variable {K:Type}[DecidableEq K]
noncomputable def mem(key:Nat->K)(i:Nat)(k:K):Bool:=(List.range i).any λj=>decide (k=key j)
noncomputable def cnt(key:Nat->K):Nat->Nat
 |0=>0
 |i+1=>if mem key i (key i)=true then cnt key i else cnt key i+1
end
end SetL
namespace SR
theorem qka{α:Type}{P:List α->Prop}(h0:P [])(hs: ∀l a,P l->P (l++[a])): ∀l,P l:=by
 intro l;have: ∀r:List α,P r.reverse:=by
  intro r
  induction r with
  |nil=>exact h0
  |cons a r ih=>rw[List.reverse_cons];exact hs _ _ ih
 rw[<-List.reverse_reverse l];exact this _
section
variable {κ:Type}[DecidableEq κ]
abbrev T4(κ:Type):=Int×κ×Int×Int
noncomputable def hit(w:Int)(r a:T4 κ):Bool:=decide (r.1 - a.1<=w)&&(decide (a.2.2.2≠r.2.2.2)&&decide (a.2.1=r.2.1))
end
section
variable {κ:Type}[DecidableEq κ]
abbrev R3(κ:Type):=Int×κ×Int
noncomputable def un(t:T4 κ):R3 κ:=(t.1,t.2.1,t.2.2.1)
noncomputable def mat(w:Int)(a b:R3 κ):Bool:=decide (a.2.1=b.2.1)&&(decide (a.1 - b.1<=w)&&decide (b.1 - a.1<=w))
noncomputable def cp(a b:R3 κ):T4 κ:=(max a.1 b.1,a.2.1,a.2.2,b.2.2)
noncomputable def pr(w:Int)(A B:List (R3 κ)):List (T4 κ):=A.flatMap λa=>(B.filter (mat w a)).map (cp a)
noncomputable def keyIs(k:κ):R3 κ->Bool:=λr=>decide (r.2.1=k)
end
theorem qfb{α:Type}{k k':α->Int}{r:α}(hr:k r=k' r): ∀l:List α,(∀x∈l,k x=k' x)->ins k r l=ins k' r l
 |[],_=>rfl
 |x::l,h=>by
  show(if k x<=k r then x::ins k r l else r::x::l)=(if k' x<=k' r then x::ins k' r l else r::x::l)
  rw[hr,h x List.mem_cons_self,qfb hr l λy hy=>h y (List.mem_cons_of_mem _ hy)]
theorem qeM{α:Type}{k k':α->Int}(l:List α):(∀x∈l,k x=k' x)->srt k l=srt k' l:=by refine qka (P:=λl=>(∀x∈l,k x=k' x)->srt k l=srt k' l) (λ_=>rfl) (λl a ih h=> ?_) l;rw[qdX,qdX,ih λx hx=>h x (List.mem_append_left _ hx)];exact qfb (h a (Vt _ Vk)) _ λx hx=>h x (Vs _ ((qea _).mp hx))
end SR
namespace RH
open PySem PySem.Spec PyProof.Rows L2 SR
noncomputable def ltS(x y:Str):Bool:=decide (x.cps.toList<y.cps.toList)
theorem qoN{x y:Str}(h:x.cps.toList=y.cps.toList):x=y:=by
 cases x;cases y
 congr 1
 exact Array.toList_inj.mp h
theorem ordS:Ord ltS where
 irr:=λa=>Vw (List.lt_irrefl _)
 tr:=λa b c h1 h2=>decide_eq_true (List.lt_trans (of_decide_eq_true h1) (of_decide_eq_true h2))
 tot:=λa b h1 h2=>qoN (List.le_antisymm (List.not_lt.mp (of_decide_eq_false h2)) (List.not_lt.mp (of_decide_eq_false h1)))
end RH
namespace SetL
section
variable {α:Type}[DecidableEq α]
noncomputable def dd:List α->List α
 |[]=>[]
 |x::xs=>if x∈dd xs then dd xs else x::dd xs
noncomputable def dl(key:Nat->α):Nat->List α
 |0=>[]
 |i+1=>if mem key i (key i)=true then dl key i else dl key i++[key i]
end
open PySem PySem.W PySem.Calls PyProof.Rows SR
structure Kd(prog:Program)(w:World)(α:Type)[DecidableEq α] where
 knd:PySem.KeyKind prog w α
 up:α->L2.V
 d:α
 of:Value->α
 lt:α->α->Bool
 ord:Ord lt
 isv: ∀x u,L2.RelV (up x) u->knd.is x u=true/\u.scannable=true
 vis: ∀x u,knd.is x u=true->L2.RelV (up x) u
 ofv: ∀x u,L2.RelV (up x) u->of u=x
 kind: ∀v1 v2 vs,(∀v∈v1::v2::vs,∃x,L2.RelV (up x) v)->keyKind' (v1::v2::vs).toArray=pure oneType'
 lts: ∀{A:Around} {E:Value->Shared->Prop} {s:Shared} {Q:Bool->Shared->Prop} (x y:α) (u v:Value),L2.RelV (up x) u->L2.RelV (up y) v->Q (lt x y) s->wpAny (model prog w) A (keyLt' oneType' u v) Q E s
end SetL
namespace SetL
open PySem L2 SR
theorem boot_sorted:bootBuiltins "sorted" =some (.builtin "sorted"):=by decide+kernel
end SetL
namespace PL
open PySem L2 SR SetL
inductive Ky where
 |i (n:Int)|s (x:Str)
 deriving DecidableEq
noncomputable def qkB:Ky->Ky->Bool
 |.i a,.i b=>decide (a<b)
 |.i _,.s _=>true
 |.s _,.i _=>false
 |.s a,.s b=>RH.ltS a b
theorem qm6:Ord qkB where
 irr:=λa=>by
  cases a with
  |i n=>exact Vw (Int.lt_irrefl n)
  |s x=>exact RH.ordS.irr x
 tr:=λa b c h1 h2=>match a,b,c,h1,h2 with
  |.i _,.i _,.i _,h1,h2=>decide_eq_true (Int.lt_trans (of_decide_eq_true h1) (of_decide_eq_true h2))
  |.i _,.i _,.s _,_,_=>rfl
  |.i _,.s _,.i _,_,h2=>nomatch h2
  |.i _,.s _,.s _,_,_=>rfl
  |.s _,.i _,_,h1,_=>nomatch h1
  |.s _,.s _,.i _,_,h2=>nomatch h2
  |.s _,.s _,.s _,h1,h2=>RH.ordS.tr _ _ _ h1 h2
 tot:=λa b h1 h2=>match a,b,h1,h2 with
  |.i x,.i y,h1,h2=>by
   have e1: ¬x<y:=of_decide_eq_false h1;have e2: ¬y<x:=of_decide_eq_false h2
   congr 1;lia
  |.i _,.s _,h1,_=>nomatch h1
  |.s _,.i _,_,h2=>nomatch h2
  |.s x,.s y,h1,h2=>congrArg Ky.s (RH.ordS.tot x y h1 h2)
noncomputable def ltKs:List Ky->List Ky->Bool
 |[],[]=>false
 |[],_::_=>true
 |_::_,[]=>false
 |a::as,b::bs=>if a=b then ltKs as bs else qkB a b
theorem qgR: ∀a,ltKs a a=false
 |[]=>rfl
 |a::as=>by show(if a=a then ltKs as as else qkB a a)=false;rw[if_pos rfl];exact qgR as
theorem qiO: ∀a b c,ltKs a b=true->ltKs b c=true->ltKs a c=true
 |[],[],_,h,_=>by cases h
 |[],_::_,[],_,h=>by cases h
 |[],_::_,_::_,_,_=>rfl
 |_::_,[],_,h,_=>by cases h
 |_::_,_::_,[],_,h=>by cases h
 |a::as,b::bs,c::cs,h1,h2=>by
  have bA:(if a=b then ltKs as bs else qkB a b)=true:=h1;have bo:(if b=c then ltKs bs cs else qkB b c)=true:=h2;show(if a=c then ltKs as cs else qkB a c)=true;by_cases e1:a=b
  ·subst e1;rw[if_pos rfl] at bA;by_cases e2:a=c
   ·rw[if_pos e2] at bo⊢;exact qiO as bs cs bA bo
   ·rw[if_neg e2] at bo⊢;exact bo
  ·rw[if_neg e1] at bA;by_cases e2:b=c
   ·subst e2;rw[if_neg e1];exact bA
   ·rw[if_neg e2] at bo;have t:=qm6.tr _ _ _ bA bo;by_cases e3:a=c
    ·subst e3;rw[qm6.irr] at t;cases t
    ·rw[if_neg e3];exact t
theorem qgQ: ∀a b,ltKs a b=false->ltKs b a=false->a=b
 |[],[],_,_=>rfl
 |[],_::_,h,_=>by cases h
 |_::_,[],_,h=>by cases h
 |a::as,b::bs,h1,h2=>by
  have bA:(if a=b then ltKs as bs else qkB a b)=false:=h1;have bo:(if b=a then ltKs bs as else qkB b a)=false:=h2;by_cases e:a=b
  ·subst e;rw[if_pos rfl] at bA bo;rw[qgQ as bs bA bo]
  ·rw[if_neg e] at bA;rw[if_neg (Ne.symm e)] at bo;exact absurd (qm6.tot _ _ bA bo) e
theorem ordKs:Ord ltKs:=⟨qgR,qiO,qgQ⟩
noncomputable def okShape:List Nat->Bool
 |[0]=>true
 |[1]=>true
 |2::x::r=>(x::r).all λn=>n==0||n==1
 |_=>false
noncomputable def sortBy{α:Type}(f:α->List Ky)(ts:List α):List α:=srt (λt=>qgI ltKs (ts.map f) (f t)) ts
section
open PySem.W PyProof.Rows
noncomputable def kyV:Ky->V
 |.i n=>.int n
 |.s x=>.str x
noncomputable def shK:Ky->Nat
 |.i _=>0
 |.s _=>1
theorem qsC: ∀(as bs:List Ky) (us vs:List Value) (i:Nat),qan (as.map kyV) us->qan (bs.map kyV) vs->as.map shK=bs.map shK->C (ltKs as bs) s->KatLex prog w A true false C (us.zip vs) i s
 |[],[],_,_,i,.nil,.nil,_,h=>kat_nil h
 |[],_::_,_,_,_,_,_,hs,_=>by cases hs
 |_::_,[],_,_,_,_,_,hs,_=>by cases hs
 |a::as,b::bs,_,_,i,.cons (l₂:=us) ra rs,.cons (l₂:=vs) rb rt,hs,h=>by
  have iP:shK a=shK b:=(List.cons.inj hs).1;have bS:as.map shK=bs.map shK:=(List.cons.inj hs).2;have h':C (if a=b then ltKs as bs else qkB a b) s:=h;have go: ∀{p q:Value} {rr:List (Value×Value)} {e:Bool},MeetsSeq.EqGives p q e->(e=true->KatLex prog w A true false C rr (i+1) s)->(e=false->wpAny (model prog w) A (oneLt' (true&&i==0) p q) C (λ_ _=>False) s)->KatLex prog w A true false C ((p,q)::rr) i s:=λ{p q rr e} he h1 h2=>by
   refine kat_cons (he prog w A _ s _ ?_);cases e with
   |true=>exact kat_yes (h1 rfl)
   |false=>exact kat_no (h2 rfl)
  cases a with
  |i x=>
   cases b with
   |i y=>
    obtain⟨t1,rfl⟩:=ra;obtain⟨t2,rfl⟩:=rb;refine go (MeetsSeq.EqGives.int _ _ _ _) (λe=> ?_) (λe=> ?_)
    ·have e':=eq_of_beq e;rw[if_pos (by rw[e'])] at h';exact qsC as bs us vs (i+1) rs rt bS h'
    ·have e': ¬Ky.i x=Ky.i y:=λz=>by cases z;rw[beq_self_eq_true] at e;cases e
     rw[if_neg e'] at h';cases z:(i==0) with
     |true=>exact oneLt_int h'
     |false=>exact kat_one _ _ (lt_int (show W.BoolBack C (.bool _) s from h'))
   |s y=>cases iP
  |s x=>
   cases b with
   |i y=>cases iP
   |s y=>
    obtain⟨t1,rfl⟩:=ra;obtain⟨t2,rfl⟩:=rb;have es:MeetsSeq.EqGives (.str x t1) (.str y t2) (decide (x=y)):=λ_ _ _ _ _ _ hq=>wpAny_eqBool_str hq;refine go es (λe=> ?_) (λe=> ?_)
    ·have e':=of_decide_eq_true e;rw[if_pos (by rw[e'])] at h';exact qsC as bs us vs (i+1) rs rt bS h'
    ·have e': ¬Ky.s x=Ky.s y:=λz=>by cases z;simp at e
     rw[if_neg e'] at h';cases z:(i==0) with
     |true=>exact oneLt_str h'
     |false=>exact kat_one _ _ (P.lt_str (show W.BoolBack C (.bool _) s from h'))
end
theorem okShape_cases(h:okShape s0=true):s0=[0]\/s0=[1]\/∃x r,s0=2::x::r/\(x::r).all (λn=>n==0||n==1)=true:=by
 unfold okShape at h;split at h
 ·exact .inl rfl
 ·exact .inr (.inl rfl)
 ·exact .inr (.inr ⟨_,_,rfl,h⟩)
 ·cases h
open PySem.W PyProof.Rows in
theorem kind_strs(its:List Value)(h2:2<=its.length)(hv: ∀v∈its,∃x t,v= .str x t)(hq:Q oneType' s):wpAny (model prog w) A (keyKind' its.toArray) Q E s:=
 match its,h2,hv with
 |v1::v2::cC,_,hv=>by rw[keyKind_strs (strsAre_map _ hv)];exact Vb hq
theorem qdE{h:Heap}{P:Value->Prop}: ∀(l:List Value),(∀v∈l,∃f,(∃a o xs n,v= .ref a/\h.get? a=some o/\o.cls= .type "tuple" /\o.data= .seq xs n/\xs[0]? =some f)/\P f)->∃fs,W.KatTups h l fs/\fs.length=l.length/\∀f∈fs,P f
 |[],_=>⟨[],trivial,rfl,λ_ hf=>nomatch hf⟩
 |v::l,hl=>by
  obtain⟨f,h1,h2⟩:=hl v Vk;obtain⟨fs,h3,h4,h5⟩:=qdE l λu hu=>hl u (Vl _ hu);refine⟨f::fs,⟨h1,h3⟩,by simp[h4],λg hg=> ?_⟩
  rcases List.mem_cons.mp hg with rfl|hg
  ·exact h2
  ·exact h5 g hg
end PL
namespace PL
open PySem L2 SR SetL
theorem hu8(r:qaX k A):A.units+8<cLine:=by have:=r.units;lia
end PL
namespace PL
open PySem L2
end PL
namespace St
open PySem PySem.W PySem.Calls PyProof.Rows
end St
namespace L2
open PySem PySem.Spec PyProof.Rows
structure qut(x:Str)(v:Value)(env:Env)(h:Heap):Prop where
 kind:env.scope.kind= .function
 loc:env.kindOf x=some .local
 ns: ∃m,h.Ns env.locals m/\m x=some v
end L2
namespace PL
open PySem L2 SR SetL
section
open PySem.W PyProof.Rows
noncomputable def KeyTup(h:Heap)(kl:List Ky)(v:Value):Prop:= ∃p its,v= .ref p/\IsTup h p (List.toArray its)/\qan (kl.map kyV) its
theorem kind_tups(its:List Value)(hx:x=0\/x=1)(h2:2<=its.length)(hk: ∀v∈its,∃kl,KeyTup s.heap kl v/\kl.map shK=x::r)(hq:Q (tuples' true) s):wpAny (model prog w) A (keyKind' its.toArray) Q E s:=by
 have fst: ∀v∈its,∃f,(∃a o xs n,v= .ref a/\s.heap.get? a=some o/\o.cls= .type "tuple" /\o.data= .seq xs n/\xs[0]? =some f)/\((x=0/\∃i t,f=Value.int i t)\/(x=1/\∃i t,f=Value.str i t)):=λv hv=>by
  obtain⟨kl,⟨p,w1,g1,i1,v1⟩,k1⟩:=hk v hv;obtain⟨o1,e1,c1,n1,d1⟩:=i1;cases kl with
  |nil=>cases k1
  |cons ky kr=>
   cases v1 with
   |cons r0 rr=>
    have ks:shK ky=x:=(List.cons.inj k1).1;cases ky with
    |i n=>obtain⟨tk,rfl⟩:=r0;exact⟨_,⟨p,o1,_,n1,g1,e1,c1,d1,rfl⟩,.inl ⟨ks.symm,n,tk,rfl⟩⟩
    |s n=>obtain⟨tk,rfl⟩:=r0;exact⟨_,⟨p,o1,_,n1,g1,e1,c1,d1,rfl⟩,.inr ⟨ks.symm,n,tk,rfl⟩⟩
 obtain⟨fs,k1,k2,k3⟩:=qdE its fst
 rcases hx with rfl|rfl
 ·refine W.kat_kind k1 (by lia) (T:=.type "int") (λv hv=> ?_) (by decide) ?_
  ·rcases k3 v hv with⟨_,i,t,rfl⟩|⟨z,_⟩
   ·exact W.Looks.of_pure rfl
   ·cases z
  ·exact hq
 ·refine W.kat_kind k1 (by lia) (T:=.type "str") (λv hv=> ?_) (by decide) ?_
  ·rcases k3 v hv with⟨z,_⟩|⟨_,i,t,rfl⟩
   ·cases z
   ·exact W.Looks.of_pure rfl
  ·exact hq
theorem lt_tups(h1:KeyTup s.heap a u)(h2:KeyTup s.heap b v)(hs:a.map shK=b.map shK)(hc:C (ltKs a b) s):wpAny (model prog w) A (keyLt' (tuples' true) u v) C (λ_ _=>False) s:=by
 obtain⟨p1,w1,rfl,i1,v1⟩:=h1;obtain⟨p2,w2,rfl,i2,v2⟩:=h2;obtain⟨o1,e1,_,n1,d1⟩:=i1;obtain⟨o2,e2,_,n2,d2⟩:=i2;refine kat_lt e1 d1 e2 d2 ?_;have hl:w1.length=w2.length:=by have h1:=v1.length;have h2:=v2.length;have h3:=congrArg List.length hs;simp only[List.length_map] at h1 h2 h3;lia
 rw[show decide ((List.toArray w1).size<(List.toArray w2).size)=false by simp[hl]];exact qsC _ _ _ _ 0 v1 v2 hs hc
end
theorem boot_sum':bootBuiltins "sum" =some (.builtin "sum"):=by decide+kernel
noncomputable def qrF(i j k:Nat)(ta:TA):TS:=λD σ H=>ta σ H λvs H1=> ∃u v w,vs=[u,v,w]/\D.nx (((σ.set i (some u)).set j (some v)).set k (some w)) H1
section
open PySem.Spec PyProof.Rows in
theorem ps_par3 (hc:X.calm=true) (hN:X.N.Nodup) (hi:X.N[i]? =some x) (hj:X.N[j]? =some y) (hk:X.N[k]? =some z) (aL:i≠j) (hik:i≠k) (hjk:j≠k) (hx:X.env.scope.names.lookup x=some .local) (hy:X.env.scope.names.lookup y=some .local) (hz:X.env.scope.names.lookup z=some .local) (ha:PA X [a,b,c] ta) (hw:swappedStores [.Tuple [.Name x px,.Name y py,.Name z pz] kt pt] (.Tuple [a,b,c] k2 pt2) X.env=pure (some [x,y,z])) (hs:swapsWithSole [.Tuple [.Name x px,.Name y py,.Name z pz] kt pt] (.Tuple [a,b,c] k2 pt2) pos.line X.env=pure false:=by rfl):
  PS X (.Assign [.Tuple [.Name x px,.Name y py,.Name z pz] kt pt] (.Tuple [a,b,c] k2 pt2) pos) (qrF i j k ta):=by
 intro pins s σ H D I h;rw[exec_Assign_arm];refine Va (wpAny_standAt ?_);rw[hs];refine Va (Vb ?_);rw[if_neg (by decide)];refine Va (Tuple_ (thn (ha _ pins s σ H _ I h) λus s1 ⟨vs,H1,I1,r1,q1⟩=> ?_));obtain⟨v,w,t,e1,q1⟩:=q1;subst e1;obtain⟨u1,u2,u3,rfl,rv,aw,rt⟩: ∃u1 u2 u3,us=[u1,u2,u3]/\RelV v u1/\RelV w u2/\RelV t u3:=by
  cases r1 with
  |cons p q=>
   cases q with
   |cons p' q'=>
    cases q' with
    |cons p'' q''=>cases q'';exact⟨_,_,_,rfl,p,p',p''⟩
 refine wpAny_newObj_type ?_ (by show 3<=sizeLine;decide);have I2:Inv X pins σ H1 { s1 with heap:=s1.heap.push { cls:=.type "tuple",data:=.seq [u1,u2,u3].toArray } }:=I1.kept (t':=s1.toks) λb o e=>Vh _ e;rw[hw];refine Va (Vb ?_);show wpAny (model X.prog X.w) X.A (do rule "assign.swapped-stores";let items <-unpackItems (.ref s1.heap.objs.size) 3 none;assignInOrder [λv=>bindName X.env z v,λv=>bindName X.env y v,λv=>bindName X.env x v] items.reverse;pure Flow.next) _ _ _;refine Va (wpAny_rule (Va (unpackItems_tuple (items:= #[u1,u2,u3]) (I.ok.hd hc) (IsTup.new s1.heap _) λh' cx=> ?_)));have I3:=I2.kept (h':=h') (t':=s1.toks) λb o e=>cx b o (Vo (Vj e)) e;show wpAny _ _ (assignInOrder [λv=>bindName X.env z v,λv=>bindName X.env y v,λv=>bindName X.env x v] [u3,u2,u1]>>=λ_=>pure Flow.next) _ _ _;refine Va (assignInOrder_cons (wpAny_bindName (qaV I3 hN hk (.inl hz) rt (λs2 I4=> ?_) (.inr hz))));refine assignInOrder_cons (wpAny_bindName (qaV I4 hN hj (.inl hy) aw (λs3 I5=> ?_) (.inr hy)));refine assignInOrder_cons (wpAny_bindName (qaV I5 hN hi (.inl hx) rv (λs4 I6=>assignInOrder_nil (Vb ?_)) (.inr hx)));have e:((σ.set k (some t)).set j (some w)).set i (some v)=((σ.set i (some v)).set j (some w)).set k (some t):=by rw[List.set_comm _ _ (Ne.symm aL),List.set_comm _ _ (Ne.symm hik),List.set_comm _ _ (Ne.symm hjk)]
 rw[e] at I6;exact⟨_,H1,I6,q1⟩
end
end PL
namespace St
open PySem PySem.W PySem.Calls PyProof.Rows
end St
namespace PL
open PySem L2 SR SetL
end PL
namespace L2
open PySem PySem.Spec PyProof.Rows
noncomputable def qg7(Ts:List Addr)(H:Hp):Prop:=(∀T∈Ts,H T=some (.tbl #[]))/\∀b,b∉Ts->H b=none\/∃o xs,H b=some (.frz o (.lst xs))
theorem qhB {K:W.Frag} {k:Nat} {aC:List (Addr×Addr)} {ae:Shared} {vs:List Value} {ns:List Int} (KX:K.In ae.heap) (fN:ae.heap.Ns mainGlobals mg) (hb:ae.heap.Ns builtinsNs mb) (hbb: ∀x:Str,x≠ "__name__" ->mb x=bootBuiltins x) (gR:ae.heap.NoLimit) (hg:ae.gens= #[]) (ha:ae.heap.get? a=some { cls:=.type "list",data:=.seq vs.toArray }) (hi:IntsAre vs ns) (hl:ns.length<=sizeLine) (hr:qaX k callerA) (hC: ∀p∈aC,W.CodeHd ae.heap p.1 p.2) (hT: ∀T∈aC.map (·.2),ae.heap.get? T=some (W.tabObj #[])) (hKT: ∀T∈aC.map (·.2),K.lookup T=none) (hZ:qfD mg ae.heap) (F: ∀base:Heap,K.In base->base.Ns mainGlobals mg->(∀p∈aC,W.CodeHd base p.1 p.2)->qfD mg base->qcD P w K mg base CX k fa fd [x] sp) (fg: ∀(s:Shared) (u:Value),BindsTo s fd ⟨[u],[]⟩ [(x,u)]) (cF: ∀H:Hp,qg7 (aC.map (·.2)) H->SqL K H a (ns.map V.int)->sp [.ref a] H (λv _=>v= .bl true) λ_ _ _=>False) (ik: ∀H e s',CX [] H ae (λ_ _ _=>False) e s'->False):
  codeAny (model P w) callerA (.call (.ref fa) ⟨[.ref a],[]⟩) (λr s'=>r= .ok (.ret (.bool true))/\OldK ae.heap s'.heap/\s'.os=ae.os/\AllBare s'.gens) ae:=by
 have rv:=qez hi;have gq:=hi.length
 have core: ∀H:Hp,qg7 (aC.map (·.2)) H->SqL K H a (ns.map V.int)->HOk P w H ae.heap->(∀b,H b≠none->b=a\/b∈aC.map (·.2))->(H a≠none->K.lookup a=none)->
   codeAny (model P w) callerA (.call (.ref fa) ⟨[.ref a],[]⟩) (λr s'=>r= .ok (.ret (.bool true))/\OldK ae.heap s'.heap/\s'.os=ae.os/\AllBare s'.gens) ae:=by
  intro H hO hS hok hA hK;have aK: ∀{b:Addr} {o:Obj},ae.heap.get? b=some o->H b=none->(qi7 ae.heap H).get? b=some o:=λe n=>qkL e n;have other: ∀{b:Addr} {o:Obj},ae.heap.get? b=some o->(∀xs n,o.data≠.seq xs n)->(o.cls≠.none)->H b=none:=λ{b o} e d d2=>by
   cases q:H b with
   |none=>rfl
   |some u=>
    rcases hA b (by rw[q];simp) with z|z
    ·subst z;rw[ha] at e;cases e;exact absurd rfl (d _ _)
    ·rw[hT b z] at e;cases e;exact absurd rfl d2
  have cD: ∀{b:Addr} {o:Obj} {es:Array DictEntry} {ep:Nat},ae.heap.get? b=some o->o.data= .dict es ep->H b=none:=λ{b o es ep} e d=>by
   cases q:H b with
   |none=>rfl
   |some u=>
    rcases hA b (by rw[q];simp) with z|z
    ·subst z;rw[ha] at e;cases e;have d':Data.seq vs.toArray _=Data.dict es ep:=d;cases d'
    ·rw[hT b z] at e;cases e;have d':Data.fields _=Data.dict es ep:=d;cases d'
  have fI: ∀{b:Addr} {m:Str->Option Value},ae.heap.Ns b m->(qi7 ae.heap H).Ns b m:=λ{b m} ⟨o,es,ep,e,d,r⟩=>⟨o,es,ep,aK e (cD e d),d,r⟩
  have i9:K.In (qi7 ae.heap H):=λb o e=>aK (KX b o e) (by
   cases q:H b with
   |none=>rfl
   |some u=>
    rcases hA b (by rw[q];simp) with z|z
    ·subst z;rw[hK (by rw[q];simp)] at e;cases e
    ·rw[hKT b z] at e;cases e)
  have hM:Mod K mg (qi7 ae.heap H):=⟨i9,fI fN,⟨mb,fI hb,hbb⟩,let ⟨mc,h1,h2⟩:=gR;⟨mc,fI h1,h2⟩⟩
  have hCb: ∀p∈aC,W.CodeHd (qi7 ae.heap H) p.1 p.2:=λp hp=>by obtain⟨o,cC,file,tf,flags,tg,inF,text,tt,e1,e2,e3,r⟩:=hC p hp;exact⟨o,cC,file,tf,flags,tg,inF,text,tt,aK e1 (other e1 (λxs n z=>by rw[e3] at z;cases z) (λz=>by rw[e2] at z;cases z)),e2,e3,r⟩
  have hBb:qfD mg (qi7 ae.heap H):=by obtain⟨bm,ob,b1,b2,b3,b4,b5,b6⟩:=hZ;exact⟨bm,ob,b1,b2,aK b3 (other b3 (λxs n z=>by rw[b6] at z;cases z) (λz=>by rw[b4] at z;cases z)),b4,b5,b6⟩
  have e0:qjR P w K mg (qi7 ae.heap H) callerA [] ae H:=⟨rfl,hM,λb o e=>qnh e,Nat.le_of_eq (qi6 _ _),trivial,λb hb=>absurd (show b∈([]:List Addr) from hb) (by simp),hok,.of_eq hg⟩
  refine codeAny_mono ((F _ i9 (fI fN) hCb hBb).run callerA [] ae H ⟨[.ref a],[]⟩ [.ref a] [.ref a] _ _ hr e0 (fg ae (.ref a)) (.cons rfl .nil) (cF H hO hS)) λr s' h=> ?_;cases r with
  |error e=>exact(ik H e s' h).elim
  |ok fl=>
   cases fl with
   |next|brk|cont=>exact False.elim h
   |ret u=>
    obtain⟨v,H',os,bare,un,eT,r',q⟩:=h;have q':v= .bl true:=q;subst q';obtain rfl:u=Value.bool true:=r';have old: ∀b o,b∉aC.map (·.2)->ae.heap.get? b=some o->s'.heap.get? b=some o:=λb o bx e=>by
     cases q:H b with
     |none=>exact un.keep b o e q (by intro z;exact absurd (show b∈([]:List Addr) from z) (by simp)) (by simp)
     |some u=>
      rcases hO.2 b bx with z|⟨ob,xs,z⟩
      ·rw[q] at z;cases z
      ·have z2:=un.frzs b ob _ z;obtain⟨e1,_⟩:=hok b _ z;obtain⟨e2,_⟩:=eT b _ z2;rw[e] at e1;cases e1;exact e2
    have tb: ∀T∈aC.map (·.2),∃more,s'.heap.get? T=some (W.tabObj (#[]++more)):=λT dW=>by obtain⟨more,hT'⟩:=un.tbls T _ (hO.1 T dW);exact⟨more,eT T _ hT'⟩
    refine⟨rfl,⟨λb o e=> ?_,λb o e=> ?_⟩,os,bare⟩
    ·by_cases z:b∈aC.map (·.2)
     ·obtain⟨more,ie⟩:=tb b z;rw[hT b z] at e;cases e;obtain⟨p,hp,rfl⟩:=List.mem_map.mp z;exact .inr (.inl ⟨((hC p hp).tab (hT _ z)).isCodeTable,rfl, #[],more,rfl,ie⟩)
     ·exact .inl (old b o z e)
    ·by_cases z:b∈aC.map (·.2)
     ·obtain⟨more,ie⟩:=tb b z;exact⟨_,ie⟩
     ·exact⟨o,old b o z e⟩
 have aT:a∉aC.map (·.2):=λz=>by rw[hT a z] at ha;cases ha
 cases hk:K.lookup a with
 |some o=>
  have e:=KX a o hk;rw[ha] at e;cases e;refine core (λb=>if b∈aC.map (·.2) then some (.tbl #[]) else none) ⟨λT dW=>if_pos dW,λb hb=>.inl (if_neg hb)⟩ (.inr ⟨_,vs.toArray,_,hk,rfl,rfl,rfl,by rw[List.size_toArray,gq];exact hl,by simpa using rv⟩) (λb u z=> ?_) (λb z=> ?_) λz=>absurd (if_neg aT) z
  ·by_cases hb:b∈aC.map (·.2)
   ·have z':=(if_pos hb).symm.trans z;cases z';exact hT b hb
   ·have z':=(if_neg hb).symm.trans z;cases z'
  ·by_cases hb:b∈aC.map (·.2)
   ·exact .inr hb
   ·exact absurd (if_neg hb) z
 |none=>
  refine core (λb=>if b∈aC.map (·.2) then some (.tbl #[]) else if b=a then some (.frz { cls:=.type "list",data:=.seq vs.toArray } (.lst (ns.map V.int))) else none) ⟨λT dW=>if_pos dW,λb bx=> ?_⟩ (.inl (.inr ⟨{ cls:=.type "list",data:=.seq vs.toArray },(if_neg aT).trans (if_pos rfl)⟩)) (λb u z=> ?_) (λb z=> ?_) λ_=>hk
  ·by_cases hb:b=a
   ·exact .inr ⟨_,_,(if_neg bx).trans (if_pos hb)⟩
   ·exact .inl ((if_neg bx).trans (if_neg hb))
  ·by_cases bx:b∈aC.map (·.2)
   ·have z':=(if_pos bx).symm.trans z;cases z';exact hT b bx
   ·by_cases hb:b=a
    ·have z':=((if_neg bx).trans (if_pos hb)).symm.trans z;cases z';subst hb;exact⟨ha,by rw[List.length_map];exact hl,vs,_,rv,ha⟩
    ·have z':=((if_neg bx).trans (if_neg hb)).symm.trans z;cases z'
  ·by_cases bx:b∈aC.map (·.2)
   ·exact .inr bx
   ·by_cases hb:b=a
    ·exact .inl hb
    ·exact absurd ((if_neg bx).trans (if_neg hb)) z
theorem walk_ofTs {l:W.OpenLaw} {n k:Nat} {q:Program} {loose:List Str} {XP:(Str->Option Value)->Heap->Prop} {YP:World->Heap->Prop} {d:DefRec} {K:Params->W.Frag} {CX:World->CXT} {sp:World->List (Addr×Addr)->Sp} {x:Str} {ys:List Str} (hn:l.most=some n) (fO:n<=sizeLine) (dO:d.params.defaults=[]) (hr:qaX k callerA) (hY: ∀(w:World) (h:Heap),YP w h->(K w.params).In h) (a0: ∀y∈ys,∃dx,(recsOf q).find? (λe=>e.name==y)=some dx) (F: ∀(w:World) (mg:Str->Option Value) (fa:Addr) (h:Heap),(K w.params).In h->h.Ns mainGlobals mg->mg d.name=some (.ref fa)->
   ∃(fd:FuncData) (aC:List (Addr×Addr)),ys.map (W.tabIn (K w.params))=aC.map some/\(∀T∈aC.map (·.2),(K w.params).lookup T=none)/\(∀(s:Shared) (u:Value),BindsTo s fd ⟨[u],[]⟩ [(x,u)])/\
    (∀base:Heap,(K w.params).In base->base.Ns mainGlobals mg->(∀p∈aC,W.CodeHd base p.1 p.2)->qfD mg base->qcD l.prog w (K w.params) mg base (CX w) k fa fd [x] (sp w aC))) (cF: ∀(w:World) (aC:List (Addr×Addr)) (H:Hp) (a:Addr) (ns:List Int),ns.length<=n->qg7 (aC.map (·.2)) H->SqL (K w.params) H a (ns.map V.int)->sp w aC [.ref a] H (λv _=>v= .bl true) λ_ _ _=>False) (ik: ∀(w:World) (H:Hp) (s:Shared) (e:Value) (s':Shared),CX w [] H s (λ_ _ _=>False) e s'->False):
  W.WalkO q loose XP YP l.row.toRowW d [] (λf vs=>PySem.call f vs):=by
 refine Att.attach_call hn dO λw s₀ ae mg mb fa o pm cd doc a vs ns G Y ho hd aH gM dE hints hlen hg=> ?_;have KX:=hY w _ Y;obtain⟨fd,aC,ht,hkt,hb,hF⟩:=F w mg fa _ KX G.T.g gM;have each: ∀p∈aC,W.CodeHd ae.heap p.1 p.2/\ae.heap.get? p.2=some (W.tabObj #[]):=λp hp=>by
  have hm:some p∈ys.map (W.tabIn (K w.params)):=by rw[ht];exact List.mem_map.mpr ⟨p,hp,rfl⟩
  obtain⟨y,hy,ey⟩:=List.mem_map.mp hm;obtain⟨dx,fP⟩:=a0 y hy;exact W.tab_of G.T KX fP ey
 have hC:=λp hp=>(each p hp).1;have hT: ∀T∈aC.map (·.2),ae.heap.get? T=some (W.tabObj #[]):=λT dW=>by obtain⟨p,hp,rfl⟩:=List.mem_map.mp dW;exact(each p hp).2
 exact qhB KX G.T.g G.T.b G.T.builtins G.T.nolimit hg dE hints (Vq hlen fO) hr hC hT hkt G.T.bmain hF hb (λH hO hS=>cF w aC H a ns hlen hO hS) λH e s'=>ik w H ae e s'
end L2
namespace PL
open PySem L2 SR SetL
theorem len1: ∀{us:List α},us.length=1->∃a,us=[a]
 |[a],_=>⟨a,rfl⟩
theorem nodup_fst: ∀{l:List (Addr×β)},(l.map (·.1)).Nodup->∀{a b:Addr×β},a∈l->b∈l->a.1=b.1->a=b
 |[],_,_,_,h,_,_=>by cases h
 |x::l,nd,a,b,ha,hb,e=>by
  rw[List.map_cons,List.nodup_cons] at nd
  rcases List.mem_cons.mp ha with rfl|i5
  ·rcases List.mem_cons.mp hb with rfl|bN
   ·rfl
   ·exact absurd (by rw[e];exact List.mem_map.mpr ⟨b,bN,rfl⟩) nd.1
  ·rcases List.mem_cons.mp hb with rfl|bN
   ·exact absurd (by rw[<-e];exact List.mem_map.mpr ⟨a,i5,rfl⟩) nd.1
   ·exact nodup_fst nd.2 i5 bN e
end PL
namespace L2
open PySem PySem.Spec PySem.Calls PyProof.Rows
noncomputable def qgs(P:Addr)(qual:Str)(H:Hp):Prop:=
 ∃ps,H P=some (.tbl ps)/\PySem.TriplesOk ps.toList/\∀pos v,PySem.codeAmong pos ps.toList=some v->∃c,v= .ref c/\H c=some (qdp c qual)
theorem qhO(l:List Value)(h:PySem.TriplesOk l)(e:PySem.codeAmong pos (l++[.int a t,.int b u,x])=some v):PySem.codeAmong pos l=some v\/v=x:=by
 fun_induction PySem.TriplesOk l with
 |case1=>
  simp only[List.nil_append,PySem.codeAmong] at e;split at e
  ·exact .inr (Option.some.inj e).symm
  ·cases e
 |case2 a t b u x qbU ih=>
  simp only[List.cons_append,PySem.codeAmong] at e⊢;split at e
  ·rename_i hc;rw[if_pos hc];exact .inl e
  ·rename_i hc;rw[if_neg hc];exact ih h e
 |case3 l h1 h2=>exact h.elim
noncomputable def qov(f:Addr)(o:Obj):HO:=.ext λh=>h.get? f=some o
theorem qiS(e:h.get? f=some o):qaA P w H h f (qov f o):=⟨e,⟨_,e⟩,λ_ _ p k=>k _ p⟩
noncomputable def qtD(P:Addr)(qual:Str)(ob:Addr->Value->Obj):TE:=λ_ H Q=>qgs P qual H/\∀(f c':Addr) (aD:Value) (H':Hp),qgs P qual H'->qfB P H H'->(∀b,H b≠none->H' b≠none)->H f=none->H' f=some (qov f (ob c' aD))->H' c'=some (qdp c' qual)->Q (.ref f) H'
theorem qmZ (cX:X.env.code= .ref c) (C:W.CodeHd X.base c P) (hb: ∃bm ob,X.mg "__builtins__" =some (.ref bm)/\bm≠builtinsNs/\X.base.get? bm=some ob/\ob.cls= .type "module" /\ob.dict=some builtinsNs/\ob.data= .plain) (ah: ∀y∈scope.names,y.2= .free->X.env.kindOf y.1=some .cell\/X.env.kindOf y.1=some .free) (hd:defaultsOf params X.env=([],[])) (hq:X.env.qual++("<lambda>" :Str)=qual):
  PE X (.Lambda params body scope pos) (qtD P qual λc' aD=>W.kla_obj "<lambda>" qual params body scope (clOf X.env scope.names []) ((X.mg "__name__").getD .none) c' aD):=by
 intro pins s σ H Q I hQ;obtain⟨⟨ps,hP,eI,gI⟩,h⟩:=hQ;have hgP:mainGlobals≠P:=λz=>by obtain⟨o,es,ep,e,iX,_⟩:=I.mod.glob;have:=(I.bs _ _ e).2;rw[z,hP] at this;cases this
 have i7:s.heap.get? P=some (W.tabObj ps):=I.hok P _ hP;have CS:W.CodeHd s.heap c P:=C.keeps I.bk;have i0:s.heap.BuiltinsAt X.mg P:=by
  obtain⟨bm,ob,b1,b2,b3,b4,b5,b6⟩:=hb;refine⟨bm,ob,b1,b2,λz=> ?_,λz=> ?_,I.bk _ _ b3,b4,b5,b6⟩
  ·obtain⟨o,es,ep,e,iX,_⟩:=I.mod.glob;rw[z,e] at b3;cases b3;rw[iX] at b6;cases b6
  ·have:=(I.bs _ _ b3).2;rw[z,hP] at this;cases this
 have hg:s.heap.Ns mainGlobals X.mg:=I.mod.glob.keeps I.bk;have cB:closureFor scope X.env=pure (clOf X.env scope.names []):=qdL λy hy e=>I.ok.has y.1 (ah y hy e);refine W.kla_eval hd ?_;rw[hq];cases hn:PySem.codeAmong pos ps.toList with
 |none=>
  refine W.kla_makeFunction cB I.ok.glob hg cX CS i7 eI hn hgP i0 λc' aD h' tk hx dH b9 a0 htb=> ?_;have I1:Inv X pins σ (upd (upd H P (.tbl (ps++ #[rawInt pos.line,rawInt pos.col,.ref c']))) c' (qdp c' qual)) { s with heap:=h',toks:=tk }:=I.grow hP hx htb dH ⟨a0,by
    obtain⟨c2,oc,vs,tq,e,ho,_⟩:=a0;cases e;exact⟨oc,ho⟩,λh1 h2 p k=>qgk p k⟩
  have nP:P≠c':=Vo (Vn (I.hok P _ hP).lt dH);have I2:=I1.laid (t':=tk) (o:=qov h'.objs.size (W.kla_obj "<lambda>" qual params body scope (clOf X.env scope.names []) ((X.mg "__name__").getD .none) c' aD)) (λb u e=>Vh _ e) (Vm _) (qiS (Vi _ rfl));have nf: ∀b o,(upd (upd H P (.tbl (ps++ #[rawInt pos.line,rawInt pos.col,.ref c']))) c' (qdp c' qual)) b=some o->b≠h'.objs.size:=λb o e=>Vo (I1.hok b _ e).lt;have bM:(upd (upd H P (.tbl (ps++ #[rawInt pos.line,rawInt pos.col,.ref c']))) c' (qdp c' qual)) c'=some (qdp c' qual):=qac;have fR:(upd (upd H P (.tbl (ps++ #[rawInt pos.line,rawInt pos.col,.ref c']))) c' (qdp c' qual)) P=some (.tbl (ps++ #[rawInt pos.line,rawInt pos.col,.ref c'])):=by rw[qaa nP,qac]
  have old: ∀b o,H b=some o->b≠P->(upd (upd H P (.tbl (ps++ #[rawInt pos.line,rawInt pos.col,.ref c']))) c' (qdp c' qual)) b=some o:=λb o e hb=>by rw[qaa (Nat.ne_of_lt (Nat.lt_of_lt_of_le (I.hok b _ e).lt dH)),qaa hb];exact e
  refine⟨.ref h'.objs.size,_,I2,rfl,h h'.objs.size c' aD _ ⟨_,by rw[qaa (nf _ _ fR)];exact fR,?_,λp v e=> ?_⟩ (λb o e hb=> ?_) (λb e z=> ?_) ?_ qac (by rw[qaa (nf _ _ bM)];exact bM)⟩
  ·rw[Array.toList_append];exact qcj rfl rfl _ eI
  ·rw[Array.toList_append] at e
   rcases qhO _ eI e with e|e
   ·obtain⟨c2,rfl,e2⟩:=gI p v e;have e3:=old c2 _ e2 (λz=>by rw[z,hP] at e2;cases e2);exact⟨c2,rfl,by rw[qaa (nf _ _ e3)];exact e3⟩
   ·exact⟨c',e,by rw[qaa (nf _ _ bM)];exact bM⟩
  ·have e3:=old b o e hb;rw[qaa (nf _ _ e3)];exact e3
  ·cases q:H b with
   |none=>exact e q
   |some o=>
    by_cases zb:b=P
    ·subst zb;rw[qaa (nf _ _ fR),fR] at z;cases z
    ·have e3:=old b o q zb;rw[qaa (nf _ _ e3),e3] at z;cases z
  ·cases q:H h'.objs.size with
   |none=>rfl
   |some o=>exact absurd (Vn (I.hok _ _ q).lt (Vq dH (Vp b9))) (Nat.lt_irrefl _)
 |some cv=>
  obtain⟨c2,rfl,hH⟩:=gI pos cv hn;refine W.kla_makeFunctionHit (cv:=.ref c2) cB I.ok.glob hg cX CS i7 eI hn i0 λaD h' tk kp sz=> ?_;have I1:Inv X pins σ H { s with heap:=h',toks:=tk }:=I.kept (t':=tk) kp;have I2:=I1.laid (t':=tk) (o:=qov h'.objs.size (W.kla_obj "<lambda>" qual params body scope (clOf X.env scope.names []) ((X.mg "__name__").getD .none) c2 aD)) (λb u e=>Vh _ e) (Vm _) (qiS (Vi _ rfl));have nf: ∀b o,H b=some o->b≠h'.objs.size:=λb o e=>Vo (I1.hok b _ e).lt;refine⟨.ref h'.objs.size,_,I2,rfl,h h'.objs.size c2 aD _ ⟨ps,by rw[qaa (nf _ _ hP)];exact hP,eI,λp v e=> ?_⟩ (λb o e hb=>by rw[qaa (nf _ _ e)];exact e) (λb e z=> ?_) (I1.hok.fresh (Vm _)) qac (by rw[qaa (nf _ _ hH)];exact hH)⟩
  ·obtain⟨c3,rfl,e3⟩:=gI p v e;exact⟨c3,rfl,by rw[qaa (nf _ _ e3)];exact e3⟩
  ·cases q:H b with
   |none=>exact e q
   |some o=>rw[qaa (nf _ _ q),q] at z;cases z
noncomputable def qfm(P:Program)(w:World)(K:W.Frag)(mg:Str->Option Value)(base:Heap)(N:List Str)(env:Env)(A:Around)(outer:List Env)(s:Shared)(H:Hp)(E:XK):Cx where
 prog:=P
 w:=w
 K:=K
 mg:=mg
 base:=base
 A:=A.deeper env
 N:=N
 s₀:=s
 H₀:=H
 env:=env
 outer:=outer
 stack:=env::outer
 ex:=[]
 calm:=true
 fn:=λ_=>false
 pn:=[]
 xe:=λe s'=>wpAny (model P w) (A.deeper env) (leaving env e) (λ_ s''=>CXE P w outer H s E e s'') (λe' s''=>CXE P w outer H s E e' s'') s'
abbrev qbQ(scope:Scope)(L:Addr)(au:List (Str×Addr))(qual:Str)(f c':Addr):Env:=newEnv scope L mainGlobals au (qual++ ".<locals>.") (some f) (.ref c') none builtinsNs
theorem qse{P:Program}{w:World}{K:W.Frag}{mg:Str->Option Value}{base:Heap}{N:List Str}{scope:Scope}{L:Addr}{au:List (Str×Addr)}{qual:Str}{f c':Addr}{A:Around}{outer:List Env}{s:Shared}{H:Hp}{E E1:XK}(h: ∀C H',E1 (.ref C) none H'->E (.ref C) none H'):qaD (CXE P w) (qfm P w K mg base N (qbQ scope L au qual f c') A outer s H E) E1:=
 λpins σ H1 s1 e s' I ⟨C,H',a,t,B,he,F,q⟩=>by subst he;exact Vc (Fly.leave (X:=qfm P w K mg base N (qbQ scope L au qual f c') A outer s H E) rfl rfl rfl I F) (λ_ s'' F'=>⟨C,H',a,t,B,rfl,F',h C H' q⟩) λ_ _ x=>x
theorem qnu {P:Program} {w:World} {K:W.Frag} {mg:Str->Option Value} {base:Heap} {k:Nat} {A:Around} {outer:List Env} {s:Shared} {H:Hp} {Q:VK} {E:XK} {f c':Addr} {qual:Str} {params:Arguments} {body:Expr} {scope:Scope} {au:List (Str×Addr)} {pm aD:Value} {N:List Str} {σ:St} {t:TE} (hr:qaX k A) (e0:qjR P w K mg base A outer s H) (hf:s.heap.get? f=some (W.kla_obj "<lambda>" qual params body scope au pm c' aD)) (aH:s.heap.CodeRec (.ref c') qual) (hk:scope.kind= .function) (fe:scope.isCoroutine=false) (cj:scope.isGenerator=false) (aj: ∀y∈scope.names,y.2≠.cell) (hb:bindArgs (W.kla_fn "<lambda>" qual params body scope au pm (.ref c') aD) ⟨[],[]⟩=pure []) (inj: ∀x y c,au.lookup x=some c->au.lookup y=some c->x=y) (has: ∀x,scope.names.lookup x=some .free->∃c,au.lookup x=some c) (cl: ∀x c,au.lookup x=some c->(∃v,s.heap.IsCell c v)/\H c=none) (val: ∀(i:Nat) (x:Str) (v:V),N[i]? =some x->σ[i]? =some (some v)->scope.names.lookup x=some .free/\∃c u,au.lookup x=some c/\s.heap.IsCell c (some u)/\RelV v u) (len:σ.length=N.length) (av:PE (qfm P w K mg base N (qbQ scope s.heap.objs.size au qual f c') A outer s H E) body t) (ht:t σ H Q):
  codeAny (model P w) A (.call (.ref f) ⟨[],[]⟩) (CR (CXE P w) outer P w H s Q E) s:=by
 have lim:s.heap.NoLimit:=e0.mod.nolimit.keeps λb o e=>(e0.bs b o e).1;refine W.kla_callFunE hr.depth hf rfl fe cj rfl aH ?_;rw[hb];refine Vb (wpAny_newFunctionEnv aj (λy hy=>nomatch hy) (λh1 hn hs=> ?_) hk);have kp: ∀b o,s.heap.get? b=some o->h1.get? b=some o:=λb o e=>(hs.2 b (Vo (Vj e))).trans (Vh _ e);refine⟨lim.keeps kp,W.kla_codeExpr ?_⟩;have cD: ∀b:Addr,b∉([]:List Addr):=λb z=>nomatch z;have I:Inv (qfm P w K mg base N (qbQ scope s.heap.objs.size au qual f c') A outer s H E) [] σ H { s with heap:=h1,toks:=s.toks+([]:List (Str×Value)).length }:=by
  refine⟨⟨e0.mod,hk,rfl,rfl,Vm _,inj,λy hy=> ?_,λy c z=>(by cases z),λ_=>hr.hd,Around.frames_deeper e0.frames,.inr ⟨rfl,rfl⟩,λb z=>absurd z (cD b),e0.bs,e0.bsz,λb _ _=>cD b,λb z=>absurd z (cD b),e0.funs,e0.frf⟩,
   rfl,e0.bare,Un.kept kp,⟨_,hn,λi y v bA h2 h3=> ?_⟩,λy c h=> ?_,e0.hok.fresh (Vm _),λy c h=>(cl y c h).2,λp hp=>absurd (show p∈([]:List (Addr×Obj)) from hp) (by simp),e0.hok.kept kp,len⟩
  ·have hy:scope.names.lookup y=some .cell\/scope.names.lookup y=some .free:=hy
   rcases hy with hy|hy
   ·exact absurd rfl (aj _ (Vv hy))
   ·exact has y hy
  ·obtain⟨k1,c,u,k2,k3,k4⟩:=val i y v bA h2;exact⟨u,k4,.inr ⟨.inr k1,c,k2,k3.keeps kp⟩⟩
  ·obtain⟨v,q⟩:=(cl y c h).1;exact⟨v,q.keeps kp⟩
 exact Vc (av [] _ σ H Q I ht) (λu s' ⟨v,H',J,r,q⟩=>⟨v,H',J.os,J.bare,J.base,J.hok,r,q⟩) λe s' z=>z
theorem qqi {CX:CXT} {P:Program} {w:World} {K:W.Frag} {mg:Str->Option Value} {base:Heap} {k:Nat} {f:Addr} {name qual:Str} {params:Arguments} {body:List Stmt} {scope:Scope} {dV kV doc pm cdv ct oc:Value} {an od:Option Addr} {osl:Array (Option Value)} {N ps:List Str} (lk:K.lookup f=some ⟨oc,od,.func (W.fnOf name qual params body scope dV kV doc pm an cdv ct),osl⟩) (aH:W.codeIn K cdv qual=true) (S:qbE N ps scope) {A:Around} {outer:List Env} {s:Shared} {H:Hp} {args:Args} {us:List Value} {vs:List V} {Q:VK} {E:XK} (hr:qaX (k+1) A) (e0:qjR P w K mg base A outer s H) (hb:BindsTo s (W.fnOf name qual params body scope dV kV doc pm an cdv ct) args (ps.zip us)) (r:qan vs us) (hl:vs.length=ps.length) (av:qaX k (A.deeper (envOfC qual scope s.heap.objs.size f cdv))->∃t,PSs (qeo CX P w K mg base N qual scope f cdv A outer s H E) body t/\t { nx:=λ_ H'=>Q .non H',rt:=Q } (start N vs) H):
  codeAny (model P w) A (.call (.ref f) args) (CR CX outer P w H s Q E) s:=by
 have KX:K.In s.heap:=e0.mod.kin.keeps λb o e=>(e0.bs b o e).1;have lim:s.heap.NoLimit:=e0.mod.nolimit.keeps λb o e=>(e0.bs b o e).1;have a8: ∀y∈ps.zip us,scope.names.lookup y.1=some .local\/(scope.names.lookup y.1=some .cell/\((cellsFrom (s.heap.objs.size+1) scope.names []).lookup y.1).isSome=true):=λ⟨n,v⟩ hy=>by
  rcases S.par n (List.of_mem_zip hy).1 with q|q
  ·exact .inl q
  ·exact .inr ⟨q,W.cellsFrom_some _ _ _ (.inl q)⟩
 refine codeAny_call_function hr.depth (KX _ _ lk) rfl S.co S.gen rfl (W.codeRec_of KX aH) (hb _ _ _ _ ?_);refine wpAny_newFunctionEnv_cells S.kind a8 λenv he s1 x=> ?_;subst he;refine⟨lim.keeps x.toInCall.keep,codeAny_func ?_⟩;obtain⟨t,ht,hq⟩:=av (hr.deeper _);have I:Inv (qeo CX P w K mg base N qual scope f cdv A outer s H E) [] (start N vs) H s1:=qcX S hr.hd e0 hl r x;refine Vc (ht [] s1 (start N vs) H _ I hq) (λfl s' hs=> ?_) λe s' hs=>hs;cases fl with
 |ret u=>obtain⟨v,af,H',J,rv,q⟩:=hs;exact⟨v,H',J.os,J.bare,J.base,J.hok,rv,q⟩
 |next=>obtain⟨af,H',J,q⟩:=hs;exact⟨V.non,H',J.os,J.bare,J.base,J.hok,rfl,q⟩
 |brk|cont=>obtain⟨_,_,_,q⟩:=hs;exact False.elim q
structure qlC(k:Nat)(A:Around):Prop where
 dp:A.depth+3*k+5<recursionLimit
 un:A.units+16*k+200<cLine
noncomputable def cxN(P:Program)(w:World)(K:W.Frag)(mg:Str->Option Value)(base:Heap)(N:List Str)(qual:Str)(scope:Scope)(f:Addr)(cd:Value)(A:Around)(outer:List Env)(s:Shared)(H:Hp):Cx:=
 { qeo CX0 P w K mg base N qual scope f cd A outer s H (λ_ _ _=>False) with calm:=false,xe:=λ_ _=>False }
structure FnN(P:Program)(w:World)(K:W.Frag)(mg:Str->Option Value)(base:Heap)(k:Nat)(f:Addr)(fd:FuncData)(ps:List Str)(sp:List V->Hp->VK->Prop):Prop where
 len: ∀vs H Q,sp vs H Q->vs.length=ps.length
 run: ∀(A:Around) (outer:List Env) (s:Shared) (H:Hp) (args:Args) (us:List Value) (vs:List V) (Q:VK),qlC k A->qjR P w K mg base A outer s H->BindsTo s fd args (ps.zip us)->qan vs us->sp vs H Q->
  codeAny (model P w) A (.call (.ref f) args) (CR CX0 outer P w H s Q (λ_ _ _=>False)) s
theorem qqk {P:Program} {w:World} {K:W.Frag} {mg:Str->Option Value} {base:Heap} {k:Nat} {x qual:Str} {st:Stmt} {f:Addr} {fd:FuncData} {N ps:List Str} {sp:List V->Hp->VK->Prop} (F:Fun K x qual st f fd) (S:qbE N ps (qab st)) (len: ∀vs H Q,sp vs H Q->vs.length=ps.length) (av: ∀(cdv:Value) (A:Around) (outer:List Env) (s:Shared) (H:Hp) (vs:List V) (Q:VK),qlC k (A.deeper (envOfC qual (qab st) s.heap.objs.size f cdv))->sp vs H Q->
   ∃t,PSs (cxN P w K mg base N qual (qab st) f cdv A outer s H) (qam st) t/\t { nx:=λ_ H'=>Q .non H',rt:=Q } (start N vs) H):FnN P w K mg base (k+1) f fd ps sp:=by
 obtain⟨oc,od,kV,doc,pm,an,cdv,ct,osl,rfl,lk,aH⟩:=F.ex;refine⟨len,λA outer s H args us vs Q hr e0 hb r cF=> ?_⟩;have hl:=len _ _ _ cF;have KX:K.In s.heap:=e0.mod.kin.keeps λb o e=>(e0.bs b o e).1;have lim:s.heap.NoLimit:=e0.mod.nolimit.keeps λb o e=>(e0.bs b o e).1;have a8: ∀y∈ps.zip us,(qab st).names.lookup y.1=some .local\/((qab st).names.lookup y.1=some .cell/\((cellsFrom (s.heap.objs.size+1) (qab st).names []).lookup y.1).isSome=true):=λ⟨n,v⟩ hy=>by
  rcases S.par n (List.of_mem_zip hy).1 with q|q
  ·exact .inl q
  ·exact .inr ⟨q,W.cellsFrom_some _ _ _ (.inl q)⟩
 refine codeAny_call_function (by have:=hr.dp;omega) (KX _ _ lk) rfl S.co S.gen rfl (W.codeRec_of KX aH) (hb _ _ _ _ ?_);refine wpAny_newFunctionEnv_cells S.kind a8 λenv he s1 x=> ?_;subst he;refine⟨lim.keeps x.toInCall.keep,codeAny_func ?_⟩;obtain⟨t,ht,hq⟩:=av cdv A outer s H vs Q ⟨by have:=hr.dp;show A.depth+1+3*k+5<_;omega,by have:=hr.un;show A.units+3+16*k+200<_;omega⟩ cF;have I0:Inv (qeo CX0 P w K mg base N qual (qab st) f cdv { A with handled:=none } outer s H (λ_ _ _=>False)) [] (start N vs) H s1:=qcX S rfl ⟨e0.frames,e0.mod,e0.bs,e0.bsz,e0.funs,e0.frf,e0.hok,e0.bare⟩ hl r x;have ok:=I0.ok;have I:Inv (cxN P w K mg base N qual (qab st) f cdv A outer s H) [] (start N vs) H s1:=⟨⟨ok.mod,ok.kind,ok.glob,ok.blt,ok.above,ok.inj,ok.has,ok.cab,(λz=>by cases z),Around.frames_deeper e0.frames,ok.stk,ok.exf,ok.bs,ok.bsz,ok.noex,ok.exfs,ok.funs,ok.frf⟩,I0.os,I0.bare,I0.base,I0.loc,I0.cell,I0.free,I0.freeC,I0.pin,I0.hok,I0.len⟩
 refine Vc (ht [] s1 (start N vs) H _ I hq) (λfl s' hs=> ?_) λe s' hs=>hs.elim;cases fl with
 |ret u=>obtain⟨v,af,H',J,rv,q⟩:=hs;exact⟨v,H',J.os,J.bare,J.base,J.hok,rv,q⟩
 |next=>obtain⟨af,H',J,q⟩:=hs;exact⟨V.non,H',J.os,J.bare,J.base,J.hok,rfl,q⟩
 |brk|cont=>obtain⟨_,_,_,q⟩:=hs;exact False.elim q
theorem qks (F:FnN X.prog X.w X.K X.mg X.base k f fd ps sp) (hr:qlC k X.A) (hg:Gl X x) (hm:X.mg x=some (.ref f)) (hk:W.keepIn X.K (.ref f)=true) (hb:qaO X.K fd ps []) (ha:PA X (e::es) t) (aF:(x==("__debug__" :Str))=false:=by decide) (he:starEach (e::es) X.env=(false,eval e X.env)::starEach es X.env:=by rfl) (ax:(backTo pos (starEach es X.env)).any (·.1)=false:=by rfl):
  PE X (.Call (.Name x p) (e::es) [] pos) (λσ H Q=>t σ H λvs H1=>sp vs H1 Q):=by
 intro pins s σ H Q I h;refine Vf (qbf I hg hm ?_ aF);refine W.callWith_K (h₀:=X.base) I.ok.mod.kin hk (thn (ha pos pins s σ H _ I h) λus s1 ⟨vs,H1,I1,r,q⟩=>⟨I1.kIn,?_⟩) he ax;have hl:us.length=ps.length:=by rw[<-r.length];exact F.len _ _ _ q
 have bN:=hb s1 us I1.kIn (by rw[List.append_nil];exact hl);rw[List.append_nil] at bN;refine wpAny_call (codeAny_mono (F.run X.A X.stack s1 H1 ⟨us,[]⟩ us vs Q hr I1.env0 bN r q) λr s' hq=> ?_);cases r with
 |error e=>exact False.elim hq
 |ok fl=>
  cases fl with
  |ret u=>exact I1.after hq
  |next|brk|cont=>exact False.elim hq
noncomputable def qoC(base:Heap)(CA:Addr)(wd:Addr->Option Str)(Q:VK):XK:=λv _ H'=> ∃C bm x,v= .ref C/\qdf base C bm/\(Value.ref C::bm).contains (.ref CA)=true/\wd C=some x/\∀aW:Hp,(∀b o,H' b=some o->aW b=some o)->Q (.str x) aW
noncomputable def qhi(base:Heap)(wd:Addr->Option Str):List V->Hp->VK->Prop:=λvs H Q=> ∃a C bm x,vs=[.ref a]/\H a=some (ExO a C)/\qdf base C bm/\wd C=some x/\∀H':Hp,(∀b o,H b=some o->H' b=some o)->Q (.str x) H'
noncomputable def qrC(P:Addr)(qual:Str)(ob:Addr->Value->Obj)(base:Heap)(CA:Addr)(wd:Addr->Option Str)(fr:List (Str×Nat))(t:XK->TE):TE:=λσ H Q=>qgs P qual H/\
 ∀(f c':Addr) (aD:Value) (H':Hp),qgs P qual H'->qfB P H H'->(∀b,H b≠none->H' b≠none)->H f=none->H' f=some (qov f (ob c' aD))->H' c'=some (qdp c' qual)->t (qoC base CA wd Q) (qbr [] fr σ) H' Q
structure qfA(st:Stmt):Prop where
 sc:qbE ["_law_deed", "e"] ["_law_deed"] (qab st)
 bd: ∃p1 p2 p3 p4 p5 p6 p7 p8 p9 iH,qam st=[.Try [.Return (some (.Call (.Name "_law_deed" p1) [] [] p2)) p3] [.ExceptHandler (some (.Name "AskError" p4)) (some "e") [.Return (some (.Call (.Name "_law_class" p5) [.Name "e" p6] [] p7)) p8] p9] [] [] iH]
 d:(qab st).names.lookup ("_law_deed" :Str)=some .local
 e:(qab st).names.lookup ("e" :Str)=some .local
 a:(qab st).names.lookup ("AskError" :Str)=some .globalImplicit
 c:(qab st).names.lookup ("_law_class" :Str)=some .globalImplicit
section
theorem qmW {X:Cx} {st:Stmt} {fT:Addr} {fC:Addr} {CA:Addr} {P:Addr} {fdT:FuncData} {fdC:FuncData} {bmA:List Value} {wd:Addr->Option Str} {params:Arguments} {body:Expr} {scope:Scope} {bF:Pos} {p:Pos} {pos:Pos} {qual:Str} {fr:List (Str×Nat)} {t:XK->TE} {k:Nat} (T:qfA st) (F:Fun X.K "_law_told" "_law_told" st fT fdT) (hmT:X.mg "_law_told" =some (.ref fT)) (bx:qaO X.K fdT ["_law_deed"] []) (gZ:Gl X "_law_told") (hA:X.mg "AskError" =some (.ref CA)) (hEA:qdf X.base CA bmA) (GC:FnN X.prog X.w X.K X.mg X.base 1 fC fdC ["_law_kept"] (qhi X.base wd)) (mC:X.mg "_law_class" =some (.ref fC)) (kC:PySem.W.keepIn X.K (.ref fC)=true) (bC:qaO X.K fdC ["_law_kept"] []) (gS:PE X (.Lambda params body scope bF) (qtD P qual λc' aD=>PySem.W.kla_obj "<lambda>" qual params body scope (clOf X.env scope.names []) ((X.mg "__name__").getD .none) c' aD)) (dI: ∀x,X.fn x=true) (hk:scope.kind= .function) (fe:scope.isCoroutine=false) (cj:scope.isGenerator=false) (aj: ∀y∈scope.names,y.2≠.cell) (ah: ∀y∈scope.names,y.2= .free->X.env.kindOf y.1=some .cell\/X.env.kindOf y.1=some .free) (aO: ∀p∈fr,X.N[p.2]? =some p.1/\scope.names.lookup p.1=some .free) (hb: ∀(au:List (Str×Addr)) (pm cv aD:Value),bindArgs (PySem.W.kla_fn "<lambda>" qual params body scope au pm cv aD) ⟨[],[]⟩=pure []) (hr:qaX (k+3) X.A) (av: ∀(A:Around) (outer:List Env) (s:Shared) (H:Hp) (f c':Addr) (E:XK),qaX k (A.deeper (qbQ scope s.heap.objs.size (clOf X.env scope.names []) qual f c'))->
   PE (qfm X.prog X.w X.K X.mg X.base (fr.map (·.1)) (qbQ scope s.heap.objs.size (clOf X.env scope.names []) qual f c') A outer s H E) body (t E)) (tm: ∀E E' σ H Q,(∀v o H',E v o H'->E' v o H')->t E σ H Q->t E' σ H Q) (aE:starEach [.Lambda params body scope bF] X.env=(false,eval (.Lambda params body scope bF) X.env)::starEach [] X.env:=by rfl):
  PE X (.Call (.Name "_law_told" p) [.Lambda params body scope bF] [] pos) (qrC P qual (λc' aD=>PySem.W.kla_obj "<lambda>" qual params body scope (clOf X.env scope.names []) ((X.mg "__name__").getD .none) c' aD) X.base CA wd fr t):=by
 intro pins s σ H Q I h;obtain⟨tab,h⟩:=h;refine Vf (qbf I gZ hmT ?_ (by decide))
 refine PySem.W.callWith_K (h₀:=X.base) I.ok.mod.kin F.kp (thn ((qaM gS qbn aE) pos pins s σ H (λvs H1=> ∃f c' aD,vs=[.ref f]/\H1 f=some (qov f (PySem.W.kla_obj "<lambda>" qual params body scope (clOf X.env scope.names []) ((X.mg "__name__").getD .none) c' aD))/\H1 c'=some (qdp c' qual)/\t (qoC X.base CA wd Q) (qbr [] fr σ) H1 Q) I
  ⟨tab,λf c' aD H' a1 a2 a3 a4 a5 a6=>⟨f,c',aD,rfl,a5,a6,h f c' aD H' a1 a2 a3 a4 a5 a6⟩⟩) λus s1 ⟨vs,H1,I1,r,q⟩=>⟨I1.kIn,?_⟩) aE rfl
 obtain⟨f,c',aD,rfl,hf,hc,q⟩:=q;obtain⟨u,rfl,ru⟩:=qdg r;cases ru;obtain⟨oc,od,kV,doc,pm,an,cdv,ct,osl,rfl,lk,aH⟩:=F.ex;have bN:=bx s1 [.ref f] I1.kIn rfl;rw[List.append_nil] at bN;obtain⟨p1,p2,p3,p4,p5,p6,p7,p8,p9,iH,hbd⟩:=T.bd;refine wpAny_call (codeAny_mono (qqi (CX:=CX0) (E:=λ_ _ _=>False) (Q:=Q) lk aH T.sc hr I1.env0 bN r rfl λfL=> ?_) λr s' hq=> ?_)
 rotate_left
 ·cases r with
  |error e=>exact False.elim hq
  |ok fl=>
   cases fl with
   |ret u=>exact I1.after hq
   |next|brk|cont=>exact False.elim hq
 rw[hbd];generalize hY:(qeo CX0 X.prog X.w X.K X.mg X.base ["_law_deed", "e"] "_law_told" (qab st) fT cdv X.A X.stack s1 H1 (λ_ _ _=>False)).nox=Y;have ir: ∀(aY:List (Addr×Obj)) (W:St->Addr->Hp->Prop),PE (Y.hold aY (XE Y aY W)) (.Call (.Name "_law_deed" p1) [] [] p2) (λaf H' Q'=>af[0]? =some (some (.ref f))/\H'=H1/\t (eW W af) (qbr [] fr σ) H1 Q'):=by
  subst hY;intro aY W aZ s2 af H2 Q' I2 hq;obtain⟨e0,rfl,ht⟩:=hq;refine Vf (thn (qeX (i:=0) rfl (.inl T.d) (by decide) (by decide) aZ s2 af H2 (λv H3=>v= .ref f/\H3=H2) I2 ⟨_,e0,rfl,rfl⟩) λu s3 ⟨v,H3,I3,rv,ev,eH⟩=> ?_);subst ev eH;cases rv;have ho:s3.heap.get? f=some (PySem.W.kla_obj "<lambda>" qual params body scope (clOf X.env scope.names []) ((X.mg "__name__").getD .none) c' aD):=(I3.hok f _ hf).1;have hcr:s3.heap.CodeRec (.ref c') qual:=(I3.hok c' _ hc).1;refine PySem.W.callWith_F0 ⟨_,_,_,_,ho⟩ ?_;have I0:=I3.unhold;have cs: ∀x c,X.env.cells.lookup x=some c->∀v,s1.heap.IsCell c v->s3.heap.IsCell c v:=λx c e v ⟨o,h1,h2⟩=>by
   refine⟨o,I0.base.keep c o h1 (I1.freeC x c e) (λhb=> ?_) (λz=>nomatch z),h2⟩
   rcases List.mem_cons.mp (I1.stkSub c hb) with z|z
   ·exact I1.cne x c e z
   ·obtain⟨_,o',e',_⟩:=I1.ok.funs.mem z;have:=I1.ok.cab x c (dI x) e;exact absurd (Vj e') (Nat.not_lt.mpr this)
  have aA: ∀x c,(clOf X.env scope.names []).lookup x=some c->X.env.cells.lookup x=some c:=λx c=>qeq _ _ (λ_ _ z=>by cases z);have hB:=av (X.A.deeper (envOfC "_law_told" (qab st) s1.heap.objs.size fT cdv)) (envOfC "_law_told" (qab st) s1.heap.objs.size fT cdv::X.stack) s3 H3 f c' (eW W af) ((qaX.deeper fL _).mono (by omega));have e0:qjR X.prog X.w X.K X.mg X.base (X.A.deeper (envOfC "_law_told" (qab st) s1.heap.objs.size fT cdv)) (envOfC "_law_told" (qab st) s1.heap.objs.size fT cdv::X.stack) s3 H3:=I3.env0;refine wpAny_call (codeAny_mono (qnu (k:=k) (σ:=qbr [] fr σ) (Q:=Q') (fL.mono (by omega)) e0 ho hcr hk fe cj aj (hb _ _ _ _) (λx y c h1 h2=>I1.ok.inj x y c (aA _ _ h1) (aA _ _ h2)) (λx hx=> ?_) (λx c h1=> ?_) (λi x v h1 h2=> ?_) ?_ hB ht) λr s' hq=> ?_)
  ·obtain⟨c,hc⟩:=I1.ok.has x (ah _ (Vv hx) rfl);exact⟨c,qbu _ _ hc (.inr (Vv hx))⟩
  ·have e:=aA _ _ h1;obtain⟨v,hv⟩:=I1.cell x c e;exact⟨⟨v,cs x c e v hv⟩,I1.freeC x c e⟩
  ·rw[List.getElem?_map] at h1;cases q1:fr[i]? with
   |none=>rw[q1] at h1;cases h1
   |some pr=>
    rw[q1] at h1;cases h1;obtain⟨g1,g2⟩:=aO pr (Vu q1);unfold qbr at h2;rw[List.map_nil,List.nil_append,List.getElem?_map,q1] at h2;have e2:σ[pr.2]? =some (some v):=by
     have h2:(σ[pr.2]?).join=some v:=Option.some.inj h2;cases q2:σ[pr.2]? with
     |none=>rw[q2] at h2;cases h2
     |some o=>rw[q2] at h2;cases o with
      |none=>cases h2
      |some y=>cases h2;rfl
    have iT:=ah _ (Vv g2) rfl;obtain⟨m,hn,hl⟩:=I1.loc;obtain⟨u,ru,l⟩:=hl pr.2 pr.1 v g1 e2 (.inr iT)
    rcases l with⟨z,_⟩|⟨_,c,e6,hv⟩
    ·rcases iT with y|y<;>(rw[y] at z;cases z)
    ·exact⟨g2,c,u,qbu _ _ e6 (.inr (Vv g2)),cs _ c e6 _ hv,ru⟩
  ·unfold qbr;simp
  ·cases r with
   |error e=>obtain⟨C,H',a,t',B,he,F',C',hC',w⟩:=hq;cases hC';exact⟨af,_,s3,C,H',a,t',B,he,I0,F',w⟩
   |ok fl=>
    cases fl with
    |ret u=>exact I3.after hq
    |next|brk|cont=>exact False.elim hq
 have cls: ∀a,PE (Y.within a) (.Call (.Name "_law_class" p5) [.Name "e" p6] [] p7) (λaf H' Q'=>qdV (qms 1) qmu af H' λvs H2=>qhi X.base wd vs H2 Q'):=λa=>by
  subst hY;have e1:((X.A.deeper (envOfC "_law_told" (qab st) s1.heap.objs.size fT cdv)).mark (some (.ref a))).depth=(X.A.deeper (envOfC "_law_told" (qab st) s1.heap.objs.size fT cdv)).depth:=rfl;have e2:((X.A.deeper (envOfC "_law_told" (qab st) s1.heap.objs.size fT cdv)).mark (some (.ref a))).units=(X.A.deeper (envOfC "_law_told" (qab st) s1.heap.objs.size fT cdv)).units:=rfl;have d1:=fL.dp;have d2:=fL.un;have rn:qlC 1 ((X.A.deeper (envOfC "_law_told" (qab st) s1.heap.objs.size fT cdv)).mark (some (.ref a))):=⟨by rw[e1];omega,by rw[e2];omega⟩
  exact qks GC rn T.c mC kC bC (qaM (qeX (i:=1) rfl (.inl T.e)) qbn)
 have stk:Y.stack=Y.env::Y.outer:=by subst hY;rfl
 have frm:Y.env.frame=some Y.env.locals:=by subst hY;rfl
 have nd:Y.N.Nodup:=by subst hY;exact T.sc.nd
 have n1:Y.N[1]? =some ("e" :Str):=by subst hY;rfl
 have kd:Y.env.kindOf "e" =some .local:=by subst hY;exact T.e
 have ga:Gl Y "AskError" :=by subst hY;exact T.a
 have ma:Y.mg "AskError" =some (.ref CA):=by subst hY;exact hA
 have ea:qdf Y.base CA bmA:=by subst hY;exact hEA
 have bs:Y.base=X.base:=by subst hY;rfl
 refine⟨_,PSs.nox (by rw[hY];exact qcM (qmN (X:=Y) (i:=1) stk frm nd n1 kd ga ma ea (λaY W=>qcM (qeV (ir aY W))) (λa=>qcM (qeV (cls a))))),?_⟩;refine⟨rfl,rfl,?_⟩;refine tm _ _ _ _ _ (λv o H' hx=> ?_) q;obtain⟨C,bm,x,rfl,h1,h2,h3,h4⟩:=hx;refine⟨C,rfl,bm,bs▸h1,h2,λa ha=>⟨.ref a,rfl,a,C,bm,x,rfl,qac,h1,h3,λaW s'=>h4 aW λb u e=>s' b u ?_⟩⟩;rw[qaa (qag e ha)];exact e
end
end L2
namespace PL
open PySem L2 SR SetL
theorem passI:qaD (CXE P w) (qeo (CXE P w) P w K mg base N qual scope f cd A outer s H E) E:=qsf λ_ _ h=>h
theorem passLI:qaD (CXE P w) (qfm P w K mg base N (qbQ scope L au qual f c') A outer s H E) E:=qse λ_ _ h=>h
section
theorem tabq_same(h:qgs Q qual H)(hP:H P=some (.tbl ps))(ne:Q≠P)(s:qfB P H H2):qgs Q qual H2:=by obtain⟨qs,h1,h2,h3⟩:=h;refine⟨qs,s _ _ h1 ne,h2,λpos v e=> ?_⟩;obtain⟨c,e1,e2⟩:=h3 pos v e;exact⟨c,e1,s _ _ e2 λz=>by rw[z,hP] at e2;cases e2⟩
end
end PL
namespace HD
open PySem L2 PL
abbrev e2(x:Str)(s:Stmt):Str×Stmt:=(x,s)
abbrev c2(x:Str)(n:Int):Str×Int:=(x,n)
noncomputable def qs4(K:W.Frag)(x:Str):Option (Addr×Obj):=match W.nsIn K mainGlobals x with
 |some (some (.ref f))=>(match K.lookup f with|some o=>some (f,o)|none=>none)
 |_=>none
noncomputable def qnH(K:W.Frag)(x:Str):Option FuncData:=match qs4 K x with
 |some (_,⟨_,_,.func fd,_⟩)=>some fd
 |_=>none
noncomputable def okD(K:W.Frag)(x:Str):Bool:=match qs4 K x with
 |some (f,⟨_,_,.func fd,_⟩)=>W.codeIn K fd.code x&&W.keepIn K (.ref f)
 |_=>false
noncomputable def due(x:Str)(st:Stmt)(fd:FuncData):FuncData:=W.fnOf x x (qai st) (qam st) (qab st) .none fd.kwdefaults fd.doc fd.pyModule fd.annotations fd.code fd.closureTuple
noncomputable def okN(K:W.Frag)(x:Str):Bool:=match W.nsIn K mainGlobals x with
 |some none=>true
 |_=>false
noncomputable def Df(K:W.Frag)(mg:Str->Option Value)(x:Str)(st:Stmt):Prop:=
 ∃(f:Addr) (oc:Value) (od:Option Addr) (osl:Array (Option Value)) (kV doc pm:Value) (an:Option Addr) (cdv ct:Value),
  K.lookup f=some ⟨oc,od,.func (W.fnOf x x (qai st) (qam st) (qab st) .none kV doc pm an cdv ct),osl⟩/\W.codeIn K cdv x=true/\W.keepIn K (.ref f)=true/\mg x=some (.ref f)/\
   W.nsIn K mainGlobals x=some (some (.ref f))
section
theorem qtd(X:K.In h)(G:h.Ns mainGlobals mg)(a:okD K x=true)(e:qnH K x=(qnH K x).map (due x st)):Df K mg x st:=by
 unfold okD at a;unfold qnH at e;split at a
 ·rename_i f oc od fd osl q;rw[q] at e;have e:fd=due x st fd:=Option.some.inj e;unfold qs4 at q;split at q
  ·rename_i f' n;split at q
   ·rename_i o lk;cases q;have a:=Bool.and_eq_true_iff.mp a;exact⟨_,_,_,_,fd.kwdefaults,fd.doc,fd.pyModule,fd.annotations,fd.code,fd.closureTuple,by rw[lk,show W.fnOf x x (qai st) (qam st) (qab st) .none fd.kwdefaults fd.doc fd.pyModule fd.annotations fd.code fd.closureTuple=fd from e.symm],a.1,a.2,W.mg_of X G n,n⟩
   ·cases q
  ·cases q
 ·cases a
theorem qju{K:W.Frag}{h:Heap}{tb:List (Str×Stmt)}(X:K.In h)(G:h.Ns mainGlobals mg)(a:(tb.all λp=>okD K p.1)=true)(e:tb.map (λp=>qnH K p.1)=tb.map λp=>(qnH K p.1).map (due p.1 p.2)): ∀(i:Nat) (x:Str) (st:Stmt),tb[i]? =some (x,st)->Df K mg x st:=λi x st hi=>by have a:=List.all_eq_true.mp a _ (Vu hi);have e:=congrArg (λl=>l[i]?) e;simp only[List.getElem?_map,hi,Option.map_some] at e;exact qtd X G a (Option.some.inj e)
theorem qnk{K:W.Frag}{h:Heap}(X:K.In h)(G:h.Ns mainGlobals mg){l:List Str}(a:l.all (okN K)=true): ∀x∈l,mg x=none:=λx hx=>by
 have a:=List.all_eq_true.mp a x hx;unfold okN at a;split at a
 ·rename_i q;exact W.mg_none_of X G q
 ·cases a
end
noncomputable def tOf(K:W.Frag)(y:Str):Addr:=((W.tabIn K y).getD (0,0)).2
noncomputable def qgj(K:W.Frag)(ys:List Str):List (Addr×Addr):=ys.map λy=>(W.tabIn K y).getD (0,0)
noncomputable def okT(K:W.Frag)(ys:List Str):Bool:=decide (ys.map (tOf K)).Nodup&&ys.all λy=>match W.tabIn K y with
 |some (_,T)=>(match K.lookup T with|none=>true|some _=>false)
 |none=>false
theorem qli(h:okT K ys=true):ys.map (W.tabIn K)=(qgj K ys).map some/\(∀T∈(qgj K ys).map (·.2),K.lookup T=none)/\(ys.map (tOf K)).Nodup:=by
 have h:=Bool.and_eq_true_iff.mp h;have nd:=of_decide_eq_true h.1;have h:=List.all_eq_true.mp h.2;refine⟨?_,?_,nd⟩
 ·unfold qgj;rw[List.map_map];refine List.map_congr_left λy hy=> ?_;have:=h y hy;show W.tabIn K y=some ((W.tabIn K y).getD (0,0));cases q:W.tabIn K y with
  |none=>rw[q] at this;cases this
  |some p=>rfl
 ·intro T hT;obtain⟨p,hp,rfl⟩:=List.mem_map.mp hT;obtain⟨y,hy,rfl⟩:=List.mem_map.mp hp;have:=h y hy;cases q:W.tabIn K y with
  |none=>rw[q] at this;cases this
  |some p=>
   rw[q] at this;dsimp only at this;show K.lookup p.2=none;split at this
   ·assumption
   ·cases this
end HD
namespace PL
open PySem L2
end PL
namespace St
open PySem PySem.W PySem.Calls PyProof.Rows
section
theorem sorted_c (ck:wpAny (model prog w) A.in1 (collect v) (λvs s1=> ∃(h1:Heap) (t1:Nat) (κ:SortKind) (kz:List Int),s1={ s with heap:=h1,toks:=t1 }/\Kp s.heap h1/\kz.length=vs.length/\vs.length<64/\
   (∀s':Shared,Kp h1 s'.heap->2<=vs.length->∀(Q:SortKind->Shared->Prop) (E:Value->Shared->Prop),Q κ s'->wpAny (model prog w) A.in1.in1 (keyKind' vs.toArray) Q E s')/\
   (∀s':Shared,Kp h1 s'.heap->∀i j,i<vs.length->j<vs.length->∀C:Bool->Shared->Prop,C (decide (kz.getD i 0<kz.getD j 0)) s'->wpAny (model prog w) A.in1.in1 (keyLt' κ (vs.getD i Value.none) (vs.getD j Value.none)) C (λ_ _=>False) s')/\
   ∀D h' tk c (p:Array Nat),h1.objs.size<=D->Kp h1 h'->qdd kz vs.length p->h'.get? D=some (seqObj "list" (List.toArray (p.toList.map λi=>vs.getD i Value.none)) c)->Q (.ref D) { s with heap:=h',toks:=tk }) E s):
  wpAny (model prog w) A (call (.builtin "sorted") [v]) Q E s:=by
 refine Calls.call_function_entry kind_sorted plain_sorted entry_sorted (args_sorted1 _) ?_;unfold Builtin.«sorted»;refine Va (m:=checkCount "sorted" 1 1 _) (Vb ?_);refine Va (Vc ck (λvs s1 h=> ?_) λ_ _ x=>x);obtain⟨H1,t1,κ,kz,rfl,kp1,hlen,d9,kind,cmp,h⟩:=h;refine Va (wpAny_newList ?_ (by rw[sizeLine_eq];lia));have fK:Kp H1 (H1.push (seqObj "list" vs.toArray 0)):=λb o q=>Vh _ q;have fM:(H1.push (seqObj "list" vs.toArray 0)).get? H1.objs.size=some (seqObj "list" vs.toArray 0):=Vi _ rfl;refine Va (wpAny_holding (wpAny_call_entry slot_list_sort ⟨_,fM,rfl⟩ entry_list_sort ?body (args_list_sort _)))
 case body=>
  refine qns (h0:=H1) (kz:=kz) (κ:=κ) (s:={ s with heap:=H1.push (seqObj "list" vs.toArray 0),toks:=t1 }) fM hlen d9 fK (qkO (Vm _)) (λs' k h2 Q hq=>kind s' k h2 Q _ hq) cmp λh' tk c p a1 a2 a3=>⟨_,rfl,?_⟩
  exact Vb ⟨_,rfl,h _ h' tk c p (Vm _) a1 a2 a3⟩
end
end St
namespace L2
open PySem PySem.Spec PyProof.Rows
theorem is_kV(h:(qap P w).is k u=true):RelV (kV k) u:=by
 cases k with
 |inl i=>
  cases u with
  |int j t=>
   have:j=i:=by simpa [qap,keyIs,Value.isInt,Value.isStrOf] using h
   subst this;exact⟨t,rfl⟩
  |_=>simp[qap,keyIs,Value.isInt,Value.isStrOf] at h
 |inr x=>
  cases u with
  |str j t=>
   have:j=x:=by simpa [qap,keyIs,Value.isInt,Value.isStrOf] using h
   subst this;exact⟨t,rfl⟩
  |_=>simp[qap,keyIs,Value.isInt,Value.isStrOf] at h
end L2
namespace PL
open PySem L2 SR SetL
end PL
namespace PL
open PySem L2
theorem qni{P:Program}{w:World}{H:Hp}{h:Heap}{p:Addr}(hp:H p=some (.dK [])): ∀(o:HO) (a:Addr),qaA P w H h a o->qaA P w (upd H p (.dT [])) h a o:=by
 intro o
 induction o with
 |lst xs|tup xs|dK kvs=>exactλa h=>h
 |dT kvs=>
  intro a h;obtain⟨z,y,xs,r,qbU⟩:=h;refine⟨z,y,xs,?_,qbU⟩;clear qbU z y
  induction r with
  |nil=>exact .nil
  |cons c _ ih=>refine .cons ⟨c.1,?_,c.2.2⟩ ih;rw[qaa (λz=>by rw[z,hp] at c;cases c.2.1)];exact c.2.1
 |set S n=>exactλa h=>h
 |ins C dx fs=>intro a h;obtain⟨h1,r⟩:=h;exact⟨by rw[qaa (λz=>by rw[z,hp] at h1;cases h1)];exact h1,r⟩
 |own x|xd fs|rng lo hi=>exactλa h=>h
 |frz o u ih=>exactλa h=>⟨h.1,ih a h.2⟩
 |_=>exactλa h=>h
theorem Inv.asT{X:Cx}{pins:List (Addr×Obj)}{σ:St}{H:Hp}{s:Shared}{p:Addr}(I:L2.Inv X pins σ H s)(hp:H p=some (.dK [])):L2.Inv X pins σ (upd H p (.dT [])) s:=by
 have no: ∀{b:Addr},H b=none->upd H p (.dT []) b=none:=λ{b} h=>by rw[qaa (λz=>by rw[z,hp] at h;cases h)];exact h
 have same: ∀{b:Addr} {o:HO},H b=some o->o≠.dK []->upd H p (.dT []) b=some o:=λ{b o} h n=>by rw[qaa (λz=>n (by rw[z,hp] at h;exact(Option.some.inj h).symm))];exact h
 refine⟨I.ok,I.os,I.bare,⟨I.base.keep,I.base.slot,λb o a h e=>no (I.base.free b o a h e),I.base.there,λb xs h=>same (I.base.tups b xs h) (by simp),λb o u h=>same (I.base.frzs b o u h) (by simp),λb ps h=> ?_⟩,I.loc,I.cell,no I.free,λx c h=>no (I.freeC x c h),λq hq=> ?_,λa o h=> ?_,I.len⟩
 ·obtain⟨more,e⟩:=I.base.tbls b ps h;exact⟨more,same e (by simp)⟩
 ·obtain⟨a,b,c⟩:=I.pin q hq;exact⟨a,no b,c⟩
 ·by_cases z:a=p
  ·subst z;rw[qac] at h;cases h;obtain⟨z1,z2,vs,kv,d⟩:=(show qaA X.prog X.w H s.heap a (.dK []) from I.hok a _ hp)
   cases kv;obtain⟨o,es,ep,h1,h2,h3,h4,h5,h6⟩:=d;exact⟨z1,z2,[],.nil,o,es,ep,h1,h2,h3,by generalize es.toList=l at h5⊢;cases h5;rfl,List.nodup_nil⟩
  ·rw[qaa z] at h;exact qni hp o a (I.hok a o h)
open SR SetL
end PL
namespace DH
open PySem PySem.Spec PyProof.Rows PySem.W
noncomputable def RawD(h:Heap)(d:Addr)(es:Array DictEntry)(ep:Nat):Prop:= ∃o,h.get? d=some o/\o.ExactDict/\o.data= .dict es ep
theorem RawD.at(x:RawD h d es ep)(k: ∀o,h.get? d=some o->h'.get? d=some o):RawD h' d es ep:=let ⟨o,a,b⟩:=x;⟨o,k o a,b⟩
theorem RawD.lt(x:RawD h d es ep):d<h.objs.size:=let ⟨_,a,_⟩:=x;Vj a
theorem RawD.ty{s:Shared}{ep:Nat}(x:RawD s.heap d es ep):s.TypeIs (.ref d) "dict" :=let ⟨o,a,b,_⟩:=x;⟨o,a,b.1⟩
theorem qsG {s:Shared} {es:Array DictEntry} {ep:Nat} (lo:(d==sysModules)=false) (x:RawD s.heap d es ep) (q:Q (.ref s.heap.objs.size) { s with heap:=s.heap.push { cls:=.type "dict_keyiterator",data:=.fields #[.ref d,.int 0 0,.int es.size 0,.int ep 0] } }):wpAny (model prog w) A (pyIter (.ref d)) Q E s:=by obtain⟨o,ho,hx,hd⟩:=id x;have ty:=x.ty;refine wpAny_pyIter_slot ty F.slot_dict_iter (wpAny_call_entry F.slot_dict_iter ty F.entry_dict_iter ?_ (F.args_dict_iter_1 _));unfold Builtin.«dict.__iter__»;refine Va ?_;unfold Builtin.Dict.dictSlotNone;refine Va (wpAny_notOrdered_dict ty ?_);refine Vb (a:=Value.ref d) ?_;show wpAny _ _ (Builtin.Dict.showsAll d>>=_) _ _ s;unfold Builtin.Dict.showsAll;rw[if_neg (by rw[lo];exact Vr)];refine Va (Vb ?_);refine Va (wpAny_dictEntries ho hd (Va (wpAny_dictEpoch ho hd ?_)));exact Va (wpAny_newObj_type (Vb ⟨_,rfl, "dict_keyiterator",_,⟨_,Vi _ rfl,rfl⟩,F.slot_dict_keyiterator_next.lookup,by simpa [rawInt] using q⟩))
theorem qsw(hi:s.heap.IsKeyIter it d i es.size ep)(x:RawD s.heap d es ep)(lt:i<es.size)(q: ∀h',h'.IsKeyIter it d (i+1) es.size ep->Heap.SameBut it s.heap h'->Q (some es[i].key) { s with heap:=h' }):wpAny (model prog w) A (pyNext (.ref it)) Q E s:=by
 obtain⟨o,ho,hc,hd⟩:=id hi;obtain⟨od,bJ,gB,hd2⟩:=id x;have ty:=hi.typeIs;unfold pyNext;refine Va (wpAny_attempt (wpAny_callSpecial?_slot (name:=Str.ofString "__next__") ty F.slot_dict_keyiterator_next (wpAny_call_entry F.slot_dict_keyiterator_next ty F.entry_dict_keyiterator_next ?_ (F.args_dict_keyiterator_next_1 _))));refine Va (Vb ?_);refine Va ?_;refine Va ?_
 first|refine Va (wpAny_typeNameOfWhole_keyiter ty (Vb ?_))|refine Va (wpAny_typeNameOf_keyiter ty (Vb ?_))
 refine Va (wpAny_fieldsOf ho hd ?_);have ow:Builtin.Dict_items.ownsTuple "dict_keyiterator" =false:=by decide
 simp only[ow,Bool.false_eq_true,if_false];show wpAny _ _ (if(Value.ref d==Value.none)=true then _ else _) _ _ s;rw[if_neg (show ¬((Value.ref d==Value.none)=true) from Bool.false_ne_true)];refine Va (Vb ?_);refine Va (wpAny_dictEntries bJ hd2 ?_);rw[if_neg (by simp)];refine Va (Vb ?_);refine Va (wpAny_dictEpoch bJ hd2 ?_);rw[if_neg (by simp)];refine Vb ?_;simp only[show ¬((i:Int)<0) from by omega,if_false,Int.toNat_natCast,Array.getElem?_eq_getElem lt];refine Va ?_
 first|refine Va (wpAny_typeNameOfWhole_keyiter ty (Vb ?_))|refine Va (wpAny_typeNameOf_keyiter ty (Vb ?_))
 refine Va (wpAny_isOneOf_keyiter ty ?_);show wpAny _ _ (setField (.ref it) 1 (rawInt ((i:Int)+1))>>=_) _ _ s;refine Va (wpAny_setField ho hd (by simp) ?_);have iU:(s.heap.update it (Obj.mapFields (·.setIfInBounds 1 (rawInt ((i:Int)+1))))).IsKeyIter it d (i+1) es.size ep:=⟨_,Heap.get?_update_self _ ho (Obj.isFreed_of_fields (Obj.data_mapFields hd _)),(Obj.cls_mapFields ..).trans hc,by rw[Obj.data_mapFields hd];simp[rawInt]⟩
 refine Va (wpAny_holding ?_);refine Va (wpAny_isOneOf_keyiter (s:={ s with heap:=s.heap.update it (Obj.mapFields (·.setIfInBounds 1 (rawInt ((i:Int)+1)))) }) iU.typeIs ?_);show wpAny _ _ (pure es[i].key) _ _ _;exact Vb (Vb ⟨_,rfl,Vb (q _ iU (Heap.SameBut.update ..))⟩)
theorem qvp(hh:A.handled=none)(hi:s.heap.IsKeyIter it d i es.size ep)(x:RawD s.heap d es ep)(ge:es.size<=i)(q: ∀h',Heap.ExtBut it s.heap h'->Q none { s with heap:=h' }):wpAny (model prog w) A (pyNext (.ref it)) Q E s:=by
 obtain⟨o,ho,hc,hd⟩:=id hi;obtain⟨od,bJ,gB,hd2⟩:=id x;have ty:=hi.typeIs;unfold pyNext;refine Va (wpAny_attempt (wpAny_callSpecial?_slot (name:=Str.ofString "__next__") ty F.slot_dict_keyiterator_next (wpAny_call_entry F.slot_dict_keyiterator_next ty F.entry_dict_keyiterator_next ?_ (F.args_dict_keyiterator_next_1 _))));refine Va (Vb ?_);refine Va ?_;refine Va ?_
 first|refine Va (wpAny_typeNameOfWhole_keyiter ty (Vb ?_))|refine Va (wpAny_typeNameOf_keyiter ty (Vb ?_))
 refine Va (wpAny_fieldsOf ho hd ?_);have ow:Builtin.Dict_items.ownsTuple "dict_keyiterator" =false:=by decide
 simp only[ow,Bool.false_eq_true,if_false];show wpAny _ _ (if(Value.ref d==Value.none)=true then _ else _) _ _ s;rw[if_neg (show ¬((Value.ref d==Value.none)=true) from Bool.false_ne_true)];refine Va (Vb ?_);refine Va (wpAny_dictEntries bJ hd2 ?_);rw[if_neg (by simp)];refine Va (Vb ?_);refine Va (wpAny_dictEpoch bJ hd2 ?_);rw[if_neg (by simp)];refine Vb ?_;simp only[show ¬((i:Int)<0) from by omega,if_false,Int.toNat_natCast,Array.getElem?_eq_none ge];refine Va ?_
 first|refine Va (wpAny_typeNameOfWhole_keyiter ty (Vb ?_))|refine Va (wpAny_typeNameOf_keyiter ty (Vb ?_))
 show wpAny _ _ (setField (.ref it) 0 .none>>=_) _ _ s;refine Va (wpAny_setField ho hd (by simp) ?_);show wpAny _ _ (newExc (.type "StopIteration") []>>=_) _ _ _;refine Va ?_;simp only[newExc,newTuple];refine Va (wpAny_newObj_type ?_ (by size_fits));refine Va (m:=firstArgMember _ _) (wpAny_of_eq (a:=Value.none) (by first|rfl|(simp only[firstArgMember];rfl)) ?_);refine wpAny_newObj_type ?_ (by size_fits);simp only[raiseNew];refine Va (wpAny_handled ?_);rw[show A.in1.handled=none from hh];refine Va (Vb (wpAny_throw ?_));refine Va (wpAny_isInstance (T:= "StopIteration") (b:=true) ⟨_,Vi _ rfl,rfl⟩ isSubtype_stop ?_);exact Vb (q _ (((Heap.SameBut.update ..).extBut.push _).push _))
theorem qrt (hh:A.handled=none) (I d:Addr) (ne:d≠I) (es:Array DictEntry) (ep:Nat):
  Walks prog w A I [I,d] [I] es.size (λi v=> ∃e,es[i]? =some e/\v=e.key) (λi h=>h.IsKeyIter I d i es.size ep/\RawD h d es ep) where
 sub:=λb hb=>by simp at hb;simp[hb]
 frame:=λ_ _ _ st hk=>⟨st.1.at λo e=>hk I (by simp) o e,st.2.at λo e=>hk d (by simp) o e⟩
 item:=λi s Q E hi st hQ=>qsw st.1 st.2 hi λh' a b=>hQ _ h' s.toks ⟨es[i],by simp[hi],rfl⟩ ⟨a,st.2.at λo e=>b.extBut d o ne e⟩ λc o hc e=>b.extBut c o (λz=>hc (by simp[z])) e
 done:=λs Q E st hQ=>qvp hh st.1 st.2 (Vm _) λh' b=>hQ h' s.toks λc o hc e=>b c o (λz=>hc (by simp[z])) e
 self:=λ_ _ _ _ st hQ=>wpAny_pyIter_keyiter st.1 hQ
theorem quK{es:Array DictEntry}{ep:Nat}(lo:(d==sysModules)=false):KdlSrc prog w "dict" d d es.size (λi v=> ∃e,es[i]? =some e/\v=e.key) (λh=>RawD h d es ep) where
 type:=λ_ m=>m.ty
 there:=λ_ m=>⟨m.lt,m.lt⟩
 keep:=λ_ _ m k=>m.at λo e=>k d (.inl rfl) o e
 notList:=by decide
 notTuple:=by decide
 hint:=λ_ _ _ _ m q=>kdl_hint_dict m.ty q
 iter:=λ_ _ hh m=>⟨_,_,λ_ _ q=>qsG lo m q,qrt hh _ d (Vo m.lt) es ep,⟨⟨_,Vi _ rfl,rfl,rfl⟩,m.at λo e=>Vh _ e⟩⟩
theorem collectD(hh:A.handled=none)(lo:(d==sysModules)=false)(m:RawD s.heap d es ep)(hn:es.size<=sizeLine)(h: ∀(h':Heap) (tk:Nat),(∀b o,s.heap.get? b=some o->h'.get? b=some o)->R (es.toList.map (·.key)) { s with heap:=h',toks:=tk }):wpAny (model prog w) A (collect (.ref d)) R E s:=by
 refine kdu_collect (quK lo) hh m hn λh' tk acc k hI=> ?_;have:acc.toList=es.toList.map (·.key):=by
  refine List.ext_getElem? λj=> ?_;rw[List.getElem?_map,Array.getElem?_toList,Array.getElem?_toList];by_cases c:j<acc.size
  ·obtain⟨e,h1,h2⟩:=hI.2 j acc[j] (by simp[c]);rw[h1,Array.getElem?_eq_getElem c,h2];rfl
  ·have: ¬j<es.size:=by rw[<-hI.1];exact c
   rw[Array.getElem?_eq_none (by omega),Array.getElem?_eq_none (by omega)];rfl
 rw[this];exact h h' tk k
open L2
end DH
namespace PL
open PySem L2
section
theorem dt_keys (I:L2.Inv X pins σ H s) (hp:H p=some (.dT us)): ∃(qs:List Addr) (es:Array DictEntry) (ep:Nat),DH.RawD s.heap p es ep/\(p==sysModules)=false/\us.length<=sizeLine/\es.toList.map (·.key)=qs.map Value.ref/\es.size=us.length/\qs.length=us.length/\
  ∀(j:Nat) (q:Addr),qs[j]? =some q->∃k v,us[j]? =some (k,v)/\H q=some (.tup (k.map kV)):=by
 obtain⟨hz,lo,xs,kt,o,es,ep,ho,hx,hd,he,hk,nd⟩:=qqr I.hok hp;have lx:us.length=xs.length:=Paired.length kt;refine⟨xs.map (·.2.1),es,ep,⟨o,ho,hx,hd⟩,lo,hz,by rw[he,List.map_map,List.map_map];rfl,?_,by rw[List.length_map,lx],λj q e=> ?_⟩
 ·have:=congrArg List.length he;rw[List.length_map] at this;rw[lx,<-this];simp
 ·have go: ∀{us:List (List Key×V)} {xs:List (List Key×Addr×Value)} {j:Nat} {q:Addr},KT H us xs->(xs.map (·.2.1))[j]? =some q->∃k v,us[j]? =some (k,v)/\H q=some (.tup (k.map kV)):=λ{us xs j q} kt=>by
   induction kt generalizing j with
   |nil=>intro e;cases j<;>cases e
   |cons c _ ih=>
    intro e;cases j with
    |zero=>rw[List.map_cons,List.getElem?_cons_zero] at e;have e:=Option.some.inj e;refine⟨_,_,List.getElem?_cons_zero,?_⟩;rw[<-e];exact c.2.1
    |succ j=>obtain⟨k,v,e1,e2⟩:=ih (j:=j) (by simpa using e);exact⟨k,v,by simpa using e1,e2⟩
  exact go kt e
end
open SR SetL
end PL
namespace PL
open PySem L2
noncomputable def luS{α:Type}(tbl:List (Str×α))(z:Str):Option α:=(tbl.find? λp=>decide (p.1=z)).map (·.2)
noncomputable def TopT(K:W.Frag)(mg:Str->Option Value)(w:World)(D:Str)(tbl:List (Str×Str)):Prop:=
 ∃(a:Addr) (es:Array DictEntry) (n:Nat),mg D=some (.ref a)/\K.lookup a=some ⟨.type "dict",none,.dict es n, #[]⟩/\W.KeysLit w.params es.toList/\(a==sysModules)=false/\
  ∀z,match luS tbl z with|none=>findBy Value.isStrOf es z=none|some g=> ∃f,findBy Value.isStrOf es z=some (.ref f)/\W.nsIn K mainGlobals g=some (some (.ref f))
noncomputable def esOf(K:W.Frag)(D:Str):Option (List DictEntry):=match W.nsIn K mainGlobals D with
 |some (some (.ref a))=>(match K.lookup a with|some ⟨.type "dict",none,.dict es _,sl⟩=>if(a==sysModules)=false/\sl.size=0 then some es.toList else none|_=>none)
 |_=>none
noncomputable def qoy(K:W.Frag):List DictEntry->List (Str×Str)->Bool
 |[],[]=>true
 |e::es,(k,g)::tb=>(match e.key,e.val,W.nsIn K mainGlobals g with|.str x _,.ref f,some (some (.ref f'))=>x==k&&f==f'|_,_,_=>false)&&qoy K es tb
 |_,_=>false
noncomputable def topB(K:W.Frag)(D:Str)(tbl:List (Str×Str)):Bool:=match esOf K D with
 |some es=>qoy K es tbl
 |none=>false
theorem qfj: ∀{es:List DictEntry} {tbl:List (Str×Str)},qoy K es tbl=true->es.map (·.hash)=tbl.map (λp=>PyData.keyHash P p.1)->W.KeysLit P es
 |[],[],_,_=>True.intro
 |e::es,(k,g)::tb,h,hh=>by
  unfold qoy at h;have h:=Bool.and_eq_true_iff.mp h;have h1:=h.1;split at h1
  ·rename_i x t f f' e1 e2 e3;have h1:=Bool.and_eq_true_iff.mp h1;have:x=k:=by simpa using h1.1
   subst this;exact⟨⟨x,t,e1,(List.cons.inj hh).1⟩,qfj h.2 (List.cons.inj hh).2⟩
  ·cases h1
 |[],_::_,h,_=>by cases h
 |_::_,[],h,_=>by cases h
theorem qfk (z:Str): ∀{es:List DictEntry} {tbl:List (Str×Str)},qoy K es tbl=true->
  match luS tbl z with|none=>(es.find? λe=>Value.isStrOf z e.key).map (·.val)=none|some g=> ∃f,(es.find? λe=>Value.isStrOf z e.key).map (·.val)=some (.ref f)/\W.nsIn K mainGlobals g=some (some (.ref f))
 |[],[],_=>rfl
 |e::es,(k,g)::tb,h=>by
  unfold qoy at h;have h:=Bool.and_eq_true_iff.mp h;have h1:=h.1;split at h1
  ·rename_i x t f f' e1 e2 e3;have h1:=Bool.and_eq_true_iff.mp h1;have:x=k:=by simpa using h1.1
   subst this;have:f=f':=by simpa using h1.2
   subst this;by_cases c:x=z
   ·subst c;have l:luS ((x,g)::tb) x=some g:=by simp[luS,List.find?_cons]
    rw[l];refine⟨f,?_,e3⟩;have:Value.isStrOf x e.key=true:=by rw[e1];show(x==x)=true;simp
    rw[List.find?_cons,this];exact congrArg some e2
   ·have l:luS ((x,g)::tb) z=luS tb z:=by simp[luS,List.find?_cons,c]
    have n:Value.isStrOf z e.key=false:=by rw[e1];show(x==z)=false;exact beq_eq_false_iff_ne.mpr c
    rw[l,List.find?_cons,n];exact qfk z h.2
  ·cases h1
 |[],_::_,h=>by cases h
 |_::_,[],h=>by cases h
theorem topT_of(X:K.In h)(G:h.Ns mainGlobals mg)(b:topB K D tbl=true)(hh:(esOf K D).map (λes=>es.map (·.hash))=some (tbl.map λp=>PyData.keyHash w.params p.1)):TopT K mg w D tbl:=by
 unfold topB at b;split at b
 ·rename_i es e;rw[e] at hh;have hh:=Option.some.inj hh;unfold esOf at e;split at e
  ·rename_i a n;split at e
   ·rename_i fm m sl l;split at e
    ·rename_i c;cases e;have:sl= #[]:=by simpa using c.2
     subst this;refine⟨a,fm,m,W.mg_of X G n,l,qfj b hh,c.1,λz=> ?_⟩;have:=qfk z b;unfold findBy;rw[<-Array.find?_toList];exact this
    ·cases e
   ·cases e
  ·cases e
 ·cases b
section
theorem op_topin (hl:X.K.lookup a=some ⟨.type "dict",none,.dict es n, #[]⟩) (hk:W.KeysLit X.w.params es.toList) (lo:(a==sysModules)=false) (hz: ∀z,match luS tbl z with | none=>findBy Value.isStrOf es z=none | some g=> ∃f,findBy Value.isStrOf es z=some (.ref f)/\W.nsIn X.K mainGlobals g=some (some (.ref f))):
  OpR X (compareOp .In) (λx y H Q=> ∃z,x= .str z/\y= .ref a/\Q (.bl (luS tbl z).isSome) H):=by
 intro pins s σ H x y v u Q I rx ry q;obtain⟨z,rfl,rfl,q⟩:=q;obtain⟨t,rfl⟩:=rx;cases ry;refine PySem.wpAny_in_of (PySem.strKind_is X.prog X.w z t) lo (W.mapOf_K (prog:=X.prog) I.kIn hl hk) ?_;have:(findBy Value.isStrOf es z).isSome=(luS tbl z).isSome:=by
  have:=hz z;split at this
  ·rename_i e;rw[this,e];rfl
  ·rename_i g e;obtain⟨f,h1,_⟩:=this;rw[h1,e];rfl
 rw[this];exact⟨.bl _,H,I.tok _,rfl,q⟩
end
section
theorem fn_same(I:L2.Inv X pins σ H s)(h:W.nsIn X.K mainGlobals g=some (some (.ref f)))(m:X.mg g=some (.ref f')):f=f':=by have:=W.mg_of I.ok.mod.kin I.ok.mod.glob h;rw[m] at this;cases this;rfl
end
end PL
namespace HD
open PySem L2 PL
noncomputable def clOf(K:W.Frag)(x:Str):Addr:=match W.nsIn K mainGlobals x with
 |some (some (.ref C))=>C
 |_=>0
noncomputable def noB(K:W.Frag)(C:Addr)(f:Str):Bool:=match W.findIn K (.ref C) f with
 |some none=>true
 |_=>false
noncomputable def qst(K:W.Frag)(x:Str)(fs:List Str):Bool:=match W.nsIn K mainGlobals x with
 |some (some (.ref C))=>W.plainGet K C Str.empty&&(W.hasDictIn K C&&(W.plainOver K C&&((match W.findIn K (.ref C) "__setattr__" with|some (some (.builtin n))=>n== "object.__setattr__" | _=>false)&&(W.makesIn K C&&(W.keepIn K (.ref C)&&fs.all (noB K C))))))
 |_=>false
theorem qtp (X:K.In h) (G:h.Ns mainGlobals mg) (a:qst K x fs=true):
  mg x=some (.ref (clOf K x))/\Cls K (clOf K x)/\W.makesIn K (clOf K x)=true/\W.keepIn K (.ref (clOf K x))=true/\∀f∈fs,qbb K (clOf K x) f:=by
 unfold qst at a;split at a
 ·rename_i C n;have e:clOf K x=C:=by unfold clOf;rw[n]
  rw[e];simp only[Bool.and_eq_true] at a;obtain⟨a1,a2,a3,a4,a5,a6,a7⟩:=a;refine⟨W.mg_of X G n,⟨a1,a2,a3,?_⟩,a5,a6,λf hf=> ?_⟩
  ·split at a4
   ·rename_i m q;have:m= "object.__setattr__" :=by simpa using a4
    rw[q,this]
   ·cases a4
  ·have:=List.all_eq_true.mp a7 f hf;unfold noB at this;split at this
   ·assumption
   ·cases this
 ·cases a
noncomputable def qsA(K:W.Frag)(C:Addr)(m:Str):Option (Addr×Obj):=match W.findIn K (.ref C) m with
 |some (some (.ref f))=>(match K.lookup f with|some o=>some (f,o)|none=>none)
 |_=>none
noncomputable def qpR(K:W.Frag)(C:Addr)(m:Str):Option FuncData:=match qsA K C m with
 |some (_,⟨_,_,.func fd,_⟩)=>some fd
 |_=>none
noncomputable def okM(K:W.Frag)(C:Addr)(m q:Str):Bool:=match qsA K C m with
 |some (f,⟨_,_,.func fd,_⟩)=>W.isFn K (.ref f)&&(W.codeIn K fd.code q&&W.keepIn K (.ref f))
 |_=>false
noncomputable def qs9(m q:Str)(st:Stmt)(fd:FuncData):FuncData:=W.fnOf m q (qai st) (qam st) (qab st) .none fd.kwdefaults fd.doc fd.pyModule fd.annotations fd.code fd.closureTuple
noncomputable def DfM(K:W.Frag)(C:Addr)(m q:Str)(st:Stmt):Prop:=
 ∃(f:Addr) (oc:Value) (od:Option Addr) (osl:Array (Option Value)) (kV doc pm:Value) (an:Option Addr) (cdv ct:Value),
  K.lookup f=some ⟨oc,od,.func (W.fnOf m q (qai st) (qam st) (qab st) .none kV doc pm an cdv ct),osl⟩/\W.codeIn K cdv q=true/\qq4 K C m f
theorem qqC(a:okM K C m q=true)(e:qpR K C m=(qpR K C m).map (qs9 m q st)):DfM K C m q st:=by
 unfold okM at a;unfold qpR at e;split at a
 ·rename_i f oc od fd osl z;rw[z] at e;have e:fd=qs9 m q st fd:=Option.some.inj e;unfold qsA at z;split at z
  ·rename_i f' n;split at z
   ·rename_i o lk;cases z;simp only[Bool.and_eq_true] at a;exact⟨_,_,_,_,fd.kwdefaults,fd.doc,fd.pyModule,fd.annotations,fd.code,fd.closureTuple,by rw[lk,show W.fnOf m q (qai st) (qam st) (qab st) .none fd.kwdefaults fd.doc fd.pyModule fd.annotations fd.code fd.closureTuple=fd from e.symm],a.2.1,⟨n,a.1,a.2.2⟩⟩
   ·cases z
  ·cases z
 ·cases a
end HD
namespace PL
open PySem L2 SR SetL
end PL
namespace HD
open PySem L2 PL
noncomputable def qds:List Str:=["Ended", "Full", "NoAsk", "NoBack", "NoName", "NoNumber", "NoRow", "NoText", "TooLate", "Unlike"]
noncomputable def qoq:List Str:=["ended", "full", "no ask", "no back", "no name", "no number", "no row", "no text", "too late", "unlike"]
noncomputable def nsC(K:W.Frag)(x:Str):Bool:=match W.nsIn K mainGlobals x with
 |some (some (.ref _))=>true
 |_=>false
theorem qiF(X:K.In h)(G:h.Ns mainGlobals mg)(a:nsC K x=true):mg x=some (.ref (clOf K x)):=by
 unfold nsC at a;split at a
 ·rename_i C n;have e:clOf K x=C:=by unfold clOf;rw[n]
  rw[e];exact W.mg_of X G n
 ·cases a
noncomputable def isB(K:W.Frag)(x:Str)(c:Value)(b:Bool):Bool:=W.kitOne K (.ref (clOf K x)) c==some b
noncomputable def exB(K:W.Frag):Bool:=nsC K "AskError" &&qcZ K (clOf K "AskError") bmV&&(List.range 10).all λj=>
 nsC K (qds.getD j "")&&qcZ K (clOf K (qds.getD j "")) (.ref (clOf K "AskError")::bmV)&&(W.clsIn K (clOf K (qds.getD j ""))).isSome&&isB K (qds.getD j "") (.type "ValueError") true&&
  (List.range 10).all λi=>isB K (qds.getD j "") (.ref (clOf K (qds.getD i ""))) (i==j)
structure qoB(K:W.Frag)(mg:Str->Option Value):Prop where
 a:mg "AskError" =some (.ref (clOf K "AskError"))
 ea:qcZ K (clOf K "AskError") bmV=true
 m: ∀j<10,mg (qds.getD j "")=some (.ref (clOf K (qds.getD j "")))
 e: ∀j<10,qcZ K (clOf K (qds.getD j "")) (.ref (clOf K "AskError")::bmV)=true
 c: ∀j<10,(W.clsIn K (clOf K (qds.getD j ""))).isSome=true
 v: ∀j<10,W.kitOne K (.ref (clOf K (qds.getD j ""))) (.type "ValueError")=some true
 k: ∀j<10,∀i<10,W.kitOne K (.ref (clOf K (qds.getD j ""))) (.ref (clOf K (qds.getD i "")))=some (i==j)
theorem qnI(X:K.In h)(G:h.Ns mainGlobals mg)(a:exB K=true):qoB K mg:=by
 unfold exB at a;simp only[Bool.and_eq_true,List.all_eq_true,List.mem_range] at a;obtain⟨⟨a1,a2⟩,a3⟩:=a;refine⟨qiF X G a1,a2,λj hj=>qiF X G (a3 j hj).1.1.1.1,λj hj=>(a3 j hj).1.1.1.2,λj hj=>(a3 j hj).1.1.2,λj hj=> ?_,λj hj i hi=> ?_⟩
 ·have:=(a3 j hj).1.2;unfold isB at this;exact eq_of_beq this
 ·have:=(a3 j hj).2 i hi;unfold isB at this;exact eq_of_beq this
noncomputable def qmj(K:W.Frag)(a:Addr):Option Str:=(List.range 10).findSome? λj=>if a=clOf K (qds.getD j "") then some (qoq.getD j "") else none
noncomputable def qrv(c:Str):Option Str:=(List.range 10).findSome? λj=>if c=qds.getD j "" then some (qoq.getD j "") else none
theorem qgu(h:qmj K a=some x): ∃j<10,a=clOf K (qds.getD j "")/\x=qoq.getD j "" :=by
 obtain⟨j,hj,e⟩:=List.exists_of_findSome?_eq_some h;rw[List.mem_range] at hj;split at e
 ·rename_i q;cases e;exact⟨j,hj,q,rfl⟩
 ·cases e
theorem qlq (Z:qoB K mg) (hi:i<10) (hj:j<10) (e:clOf K (qds.getD i "")=clOf K (qds.getD j "")):i=j:=by have h1:=Z.k j hj i hi;have h2:=Z.k j hj j hj;rw[e,h2] at h1;have:=Option.some.inj h1;simp at this;exact this
theorem qmi(Z:qoB K mg)(hj:j<10):qmj K (clOf K (qds.getD j ""))=some (qoq.getD j ""):=by
 cases h:qmj K (clOf K (qds.getD j "")) with
 |none=>have:=List.findSome?_eq_none_iff.mp h j (List.mem_range.mpr hj);rw[if_pos rfl] at this;cases this
 |some x=>obtain⟨i,hi,e1,e2⟩:=qgu h;rw[e2,qlq Z hj hi e1]
theorem qjX(h:qrv c=some x): ∃j<10,c=qds.getD j "" /\x=qoq.getD j "" :=by
 obtain⟨j,hj,e⟩:=List.exists_of_findSome?_eq_some h;rw[List.mem_range] at hj;split at e
 ·rename_i q;cases e;exact⟨j,hj,q,rfl⟩
 ·cases e
theorem qrA{Ts:List Addr}{p:Addr×Str}(h: ∀T∈Ts,H T=some (.tbl #[]))(hp:p∈Ts.zip qz):qgs p.1 p.2 H:=⟨#[],h _ (List.of_mem_zip hp).1,trivial,λpos v e=>by cases e⟩
end HD
namespace L2
open PySem PySem.Spec PySem.Calls PyProof.Rows
end L2
namespace PL
open PySem L2 SR SetL
end PL
namespace L2
open PySem PySem.Spec PyProof.Rows
end L2
namespace PL
open PySem L2
end PL
section
set_option maxHeartbeats 1000000
namespace TM
open PySem Builtin PySem.Spec
section
theorem qiI(hit:s.heap.IsTupleIter it t i)(ht:s.heap.IsTuple t items)(hx:items[i]? =some x)(hQ: ∀h',h'.IsTupleIter it t (i+1)->Heap.SameBut it s.heap h'->Q x { s with heap:=h' }):wpAny (model prog w) A (SmallTypes.nextOf (.ref it)) Q E s:=by obtain⟨o,ho,hc,hd⟩:=id hit;obtain⟨ol,gJ,_,nl,g8⟩:=ht;unfold SmallTypes.nextOf;refine Va (wpAny_callSpecial?_slot (name:=Str.ofString "__next__") hit.typeIs F.slot_tuple_iterator_next (wpAny_call_entry F.slot_tuple_iterator_next hit.typeIs F.entry_tuple_iterator_next ?_ (F.args_tuple_iterator_next_1 _)));show wpAny _ _ (field (.ref it) 0>>=_) _ _ s;refine Va (wpAny_field ho hd (x:=.ref t) rfl ?_);show wpAny _ _ (if(Value.ref t==Value.none)=true then _ else _) _ _ s;rw[if_neg (show ¬((Value.ref t==Value.none)=true) from Bool.false_ne_true)];refine Va (m:=field (.ref it) 1) (wpAny_field ho hd (x:=.int i 0) rfl ?_);refine Va (m:=seqItems? (.ref t)) (wpAny_seqItems gJ g8 ?_);simp only[Int.toNat_natCast,hx];refine Va (wpAny_setField ho hd (by simp) ?_);refine Vb ⟨x,rfl,Vb (hQ _ ⟨_,Heap.get?_update_self _ ho (Obj.isFreed_of_fields (Obj.data_mapFields hd _)),(Obj.cls_mapFields ..).trans hc,?_⟩ (Heap.SameBut.update ..))⟩;rw[Obj.data_mapFields hd];simp[rawInt]
theorem qkx (hh:A.handled=none) (hit:s.heap.IsTupleIter it t i) (ht:s.heap.IsTuple t items) (hx:items[i]? =none) (hE: ∀h' e,Heap.ExtBut it s.heap h'->(∃o,h'.get? e=some o/\o.cls= .type "StopIteration")->E (.ref e) { s with heap:=h' }):wpAny (model prog w) A (SmallTypes.nextOf (.ref it)) Q E s:=by
 obtain⟨o,ho,hc,hd⟩:=id hit;obtain⟨ol,gJ,_,nl,g8⟩:=ht;unfold SmallTypes.nextOf;refine Va (wpAny_callSpecial?_slot (name:=Str.ofString "__next__") hit.typeIs F.slot_tuple_iterator_next (wpAny_call_entry F.slot_tuple_iterator_next hit.typeIs F.entry_tuple_iterator_next ?_ (F.args_tuple_iterator_next_1 _)));show wpAny _ _ (field (.ref it) 0>>=_) _ _ s;refine Va (wpAny_field ho hd (x:=.ref t) rfl ?_);show wpAny _ _ (if(Value.ref t==Value.none)=true then _ else _) _ _ s;rw[if_neg (show ¬((Value.ref t==Value.none)=true) from Bool.false_ne_true)];refine Va (m:=field (.ref it) 1) (wpAny_field ho hd (x:=.int i 0) rfl ?_);refine Va (m:=seqItems? (.ref t)) (wpAny_seqItems gJ g8 ?_);simp only[Int.toNat_natCast,hx];refine Va (wpAny_rule ?_);refine Va (wpAny_setField ho hd (by simp) ?_);obtain⟨hp,g,d,tk,os⟩:=s;unfold SmallTypes.stopIteration
 wp_walk
 refine wpAny_raiseNew_none hh (hE _ _ (λb o' hb e=>Vh _ (Vh _ (((Heap.SameBut.update ..).2 b hb).trans e))) ⟨_,Vi _ rfl,rfl⟩)
theorem draws_tup(hh:A.handled=none)(it t:Addr)(bK:t≠it)(items:Array Value):Draws prog w A it [it,t] items.size (λi v=>items[i]? =some v) (λi h=>h.IsTupleIter it t i/\h.IsTuple t items) where
 live:=λ_ _ st=>let ⟨o,ho,_⟩:=st.1;⟨o,ho⟩
 frame:=λ_ _ _ st hk=>⟨let ⟨o,ho,r⟩:=st.1;⟨o,hk it (by simp) o ho,r⟩,let ⟨o,ho,r⟩:=st.2;⟨o,hk t (by simp) o ho,r⟩⟩
 item:=λi s Q E hi st hQ=>by refine qiI st.1 st.2 (x:=items[i]) (by simp[hi]) λh' gX cV=> ?_;exact hQ _ h' s.toks (by simp[hi]) ⟨gX,st.2.extBut cV.extBut bK⟩ cV
 done:=λs Q E st hE=>qkx hh st.1 st.2 (by simp) hE
end
end TM
namespace L2
open PySem PySem.Spec PyProof.Rows
end L2
namespace PL
open PySem L2
end PL
end
namespace NV
open PySem L2
inductive Ito where
 |fx (ts:List T)|lv (k:Nat)
noncomputable def nxt:Ito->Mu->Nat->Option (Option T)
 |.fx ts,_,i=>some ts[i]?
 |.lv k,μ,i=>match μ.l[k]? with|some (.ls ts)=>some ts[i]?|_=>none
noncomputable def qb7:Ito->Mu->Nat
 |.fx ts,_=>ts.length
 |.lv k,μ=>match μ.l[k]? with|some (.ls ts)=>ts.length|_=>0
noncomputable def qhR(M:Md)(J:It)(B1:qaj)(it:Ito):Prop:= ∀aa H' B',Hs M aa H' B'->Le B1 B'->∀i:Nat,
 (∀t,nxt it aa i=some (some t)->J.go i H'/\∀x aW,J.yld i H' x aW->∃iA,Hs M aa aW iA/\Go H' B' aW iA/\Rep M.K iA t x)/\((∀ts,it= .fx ts->i<=ts.length)->nxt it aa i=some none->J.stop i H')
noncomputable def KI(M:Md)(H:Hp)(B:qaj)(R:It->Hp->Prop):Ito->Mu->Prop:=λit μ=> ∀J H1 B1,Hs M μ H1 B1->Go H B H1 B1->qb7 it μ<=sizeLine->qhR M J B1 it->R J H1
noncomputable def tI(M:Md)(E:XK)(d:DS0 Ito):TI:=λσ H R=> ∃ρ μ B,Ev M ρ μ σ H B/\Wn M E H B (KI M H B R) (d ρ μ)
noncomputable def qri:T->Mu->R Ito
 |.lst ts,μ=>.ok (.fx ts) μ
 |.tup ts,μ=>.ok (.fx ts) μ
 |.obj k,μ=>(match μ.l[k]? with|some (.ls _)=>.ok (.lv k) μ|_=>.no)
 |.str z,μ=>if z.length<=1000 then .ok (.fx (z.cps.toList.map λc=>.str ⟨#[c]⟩)) μ else .no
 |_,_=>.no
noncomputable def dIt(da:DS0 T):DS0 Ito:=dSq da λt _ μ=>qri t μ
noncomputable def qux(lo hi:Int):List T:=(List.range (hi - lo).toNat).map λk=>.int (lo+(k:Nat))
noncomputable def qcl:List T->Mu->R Ito
 |[.int n],μ=>if n<=1000000/\ -1000000<=n then .ok (.fx ((List.range n.toNat).map λk=>.int (k:Nat))) μ else .no
 |_,_=>.no
noncomputable def qgK:List T->Mu->R Ito
 |[.int m,.int n],μ=>if(n<=1000000/\ -1000000<=n)/\m<=1000000/\ -1000000<=m then .ok (.fx (qux m n)) μ else .no
 |_,_=>.no
noncomputable def sqv(μ:Mu):T->Option (Bool×List T)
 |.lst ts=>some (true,ts)
 |.tup ts=>some (false,ts)
 |.obj k=>(match μ.l[k]? with|some (.ls ts)=>some (true,ts)|_=>none)
 |_=>none
noncomputable def qqn(xs:List T):List T:=xs.zipIdx.map λp=>.tup [.int (p.2:Nat),p.1]
noncomputable def qqo:List T->Mu->R Ito
 |[.lst xs],μ=>.ok (.fx (qqn xs)) μ
 |[.tup xs],μ=>.ok (.fx (qqn xs)) μ
 |_,_=>.no
noncomputable def dIA(g:List T->Mu->R Ito)(ds:DS0 (List T)):DS0 Ito:=dSq ds λts _ μ=>g ts μ
section
variable {M:Md}{E:XK}{X:Cx}{tg e a b:Expr}{da:DS0 T}{ds:DS0 (List T)}
theorem PI.or{t t':TI}(h:PI X tg e t)(h':PI X tg e t'):PI X tg e (λσ H R=>t σ H R\/t' σ H R):=λpins s σ H R I q=>q.elim (h pins s σ H R I) (h' pins s σ H R I)
theorem qek:PI X tg e (tI M E dNo):=λ_ _ _ _ _ _ ⟨_,_,_,_,w⟩=>w.elim
theorem qhY{p:Addr}{vs:List V}{ts:List T}{B1:qaj}(hp:B1 p=some (.lst vs))(r:Reps M.K B1 ts vs):qhR M (Itl M.K p) B1 (.fx ts):=λaa H' B' h le i=>by
 have q:SqL M.K H' p vs:=SqL.of (h.bh _ _ (le.h _ _ hp));refine⟨λt et=> ?_,λhl hi=> ?_⟩
 ·obtain⟨x,ex,rx⟩:=r.get (Option.some.inj et);refine⟨⟨vs,x,q,ex⟩,λy aW ⟨e1,e2⟩=> ?_⟩;subst e1;have:=e2 vs q;rw[ex] at this;cases this;exact⟨B',h,.refl,rx.mono le⟩
 ·exact⟨vs,q,by rw[r.length];exact List.getElem?_eq_none_iff.mp (Option.some.inj hi)⟩
theorem qjV{p:Addr}{vs:List V}{ts:List T}{B1:qaj}(hp:B1 p=some (.tup vs))(r:Reps M.K B1 ts vs):qhR M (Itt M.K p) B1 (.fx ts):=λaa H' B' h le i=>by
 have q:SqT M.K H' p vs:=SqT.of (h.bh _ _ (le.h _ _ hp));refine⟨λt et=> ?_,λhl hi=> ?_⟩
 ·obtain⟨x,ex,rx⟩:=r.get (Option.some.inj et);refine⟨⟨vs,x,q,ex⟩,λy aW ⟨e1,e2⟩=> ?_⟩;subst e1;have:=e2 vs q;rw[ex] at this;cases this;exact⟨B',h,.refl,rx.mono le⟩
 ·exact⟨vs,q,by rw[r.length];exact List.getElem?_eq_none_iff.mp (Option.some.inj hi)⟩
theorem qmh{k:Nat}{p:Addr}{B1:qaj}(hp:B1.ad k=some p):qhR M (Itl M.K p) B1 (.lv k):=λaa H' B' h le i=>by
 have go: ∀{o:Option T},nxt (.lv k) aa i=some o->∃ts vs,o=ts[i]? /\SqL M.K H' p vs/\Reps M.K B' ts vs:=λ{o} e=>by
  have e:(match aa.l[k]? with|some (.ls ts)=>some ts[i]?|_=>none)=some o:=e;split at e
  ·rename_i ts el;cases e;obtain⟨u,_,hu,vs,rfl,rv⟩:=h.at el (by simp) (le.d _ _ hp);exact⟨ts,vs,rfl,SqL.of hu,rv⟩
  ·cases e
 refine⟨λt et=> ?_,λhl hi=> ?_⟩
 ·obtain⟨ts,vs,e,q,r⟩:=go et;obtain⟨x,ex,rx⟩:=r.get e.symm;refine⟨⟨vs,x,q,ex⟩,λy aW ⟨e1,e2⟩=> ?_⟩;subst e1;have:=e2 vs q;rw[ex] at this;cases this;exact⟨B',h,.refl,rx⟩
 ·obtain⟨ts,vs,e,q,r⟩:=go hi;exact⟨vs,q,by rw[r.length];exact List.getElem?_eq_none_iff.mp e.symm⟩
theorem qjW{z:Str}{B1:qaj}{J:It}(hJ:J=⟨λi _=>i<z.cps.size,λi H x H'=>H'=H/\∃c,z.cps[i]? =some c/\x= .str ⟨#[c]⟩,λi _=>z.cps.size<=i⟩):qhR M J B1 (.fx (z.cps.toList.map λc=>.str ⟨#[c]⟩)):=λaa H' B' h le i=>by
 subst hJ;refine⟨λt et=> ?_,λhl hi=> ?_⟩
 ·have et:=Option.some.inj et;rw[List.getElem?_map] at et;cases q:z.cps.toList[i]? with
  |none=>rw[q] at et;cases et
  |some c=>rw[q] at et;cases et;have hi:=(List.getElem?_eq_some_iff.mp q).1;refine⟨show i<z.cps.size by simpa using hi,λy aW ⟨e1,c',e2,e3⟩=> ?_⟩;subst e1 e3;rw[Array.getElem?_toList] at q;rw[q] at e2;cases e2;exact⟨B',h,.refl,qcm⟩
 ·have hi:=List.getElem?_eq_none_iff.mp (Option.some.inj hi);rw[List.length_map,Array.length_toList] at hi;exact hi
theorem qqA(h:PE X e (tE M E da))(hK:X.K=M.K):PI X tg e (tI M E (dIt da)):=by
 refine PI.weak (PI.or (PL.pi_seq h) (qpj h)) λσ H R hq=> ?_;obtain⟨ρ,μ,B,ev,w⟩:=hq;rw[hK];have w:Wn M E H B (KI M H B R) ((da ρ μ).bind qri):=w;cases q:da ρ μ with
 |no=>rw[q] at w;exact w.elim
 |ex c m=>rw[q] at w;exact .inl ⟨ρ,μ,B,ev,by rw[q];exact w⟩
 |ok t m=>
  rw[q] at w;have w:Wn M E H B (KI M H B R) (qri t m):=w;cases t with
  | lst ts=>exact .inl ⟨ρ,μ,B,ev,by
    rw[q];intro v H1 B1 h1 g1 r1;obtain⟨p,vs,rfl,hp,r⟩:=qax r1;exact⟨p,rfl,.inl ⟨vs,SqL.of (h1.bh _ _ hp),λhz=>w _ H1 B1 h1 g1 (by show ts.length<=_;rw[<-r.length];exact hz) (qhY hp r)⟩⟩⟩
  | tup ts=>exact .inl ⟨ρ,μ,B,ev,by
    rw[q];intro v H1 B1 h1 g1 r1;obtain⟨p,vs,rfl,hp,r⟩:=qar r1;exact⟨p,rfl,.inr ⟨vs,SqT.of (h1.bh _ _ hp),λhz=>w _ H1 B1 h1 g1 (by show ts.length<=_;rw[<-r.length];exact hz) (qjV hp r)⟩⟩⟩
  | obj k=>exact .inl ⟨ρ,μ,B,ev,by
    rw[q];intro v H1 B1 h1 g1 r1;obtain⟨p,rfl,ep⟩:=qaz r1;unfold qri at w;dsimp only at w;split at w
    ·rename_i ts el;obtain⟨u,_,hu,vs,rfl,rv⟩:=h1.at el (by simp) ep;exact⟨p,rfl,.inl ⟨vs,SqL.of hu,λhz=>w _ H1 B1 h1 g1 (by show(match m.l[k]? with|some (.ls ts)=>ts.length|_=>0)<=_;rw[el];show ts.length<=_;rw[<-rv.length];exact hz) (qmh ep)⟩⟩
    ·exact w.elim⟩
  | str z=>exact .inr ⟨ρ,μ,B,ev,by
    rw[q];intro v H1 B1 h1 g1 r1;cases qaw r1;have w:Wn M E H B (KI M H B R) (if z.length<=1000 then _ else _):=w;split at w
    ·rename_i hz;exact⟨z,rfl,w _ H1 B1 h1 g1 (by show(z.cps.toList.map _).length<=_;rw[List.length_map,Array.length_toList];exact Vp (qcI hz)) (qjW rfl)⟩
    ·exact w.elim⟩
  |_=>exact w.elim
theorem qdt{lo:Int}{n:Nat}{B1:qaj}:qhR M (L2.Itr lo n) B1 (.fx ((List.range n).map λk=>.int (lo+(k:Nat)))):=λaa H' B' h le i=>by
 refine⟨λt et=> ?_,λhl hi=> ?_⟩
 ·have et:=Option.some.inj et;rw[List.getElem?_map] at et;cases q:(List.range n)[i]? with
  |none=>rw[q] at et;cases et
  |some j=>rw[q] at et;cases et;obtain⟨hi,ej⟩:=List.getElem?_eq_some_iff.mp q;rw[List.getElem_range] at ej;subst ej;refine⟨show i<n by simpa using hi,λy aW ⟨e1,e2⟩=> ?_⟩;subst e1 e2;exact⟨B',h,.refl,qaR⟩
 ·have hi:=List.getElem?_eq_none_iff.mp (Option.some.inj hi);rw[List.length_map,List.length_range] at hi;exact hi
theorem qjs {p pos:Pos} (hg:Gl X "range") (hm:X.mg "range" =none) (ha:PA X [a] (tA M E ds)) (hs:starEach [a] X.env=[(false,eval a X.env)]):PI X tg (.Call (.Name "range" p) [a] [] pos) (tI M E (dIA qcl ds)):=by
 refine PI.weak (qis hg hm ha hs) λσ H R ⟨ρ,μ,B,ev,w⟩=>⟨ρ,μ,B,ev,(Wn.bind w).mono λts m w1 vs H1 B1 h1 g1 r1=> ?_⟩
 change Wn M E H B (KI M H B R) (qcl ts m) at w1
 unfold qcl at w1;split at w1
 ·rename_i n;obtain⟨v,r,rfl,a1,b1⟩:=r1.inv;cases b1.inv0;cases qae a1;split at w1
  ·rename_i hn;have l0:=PL.line1M;refine⟨n,rfl,by omega,by omega,w1 _ H1 B1 h1 g1 (by show(List.map _ _).length<=_;rw[List.length_map,List.length_range];omega) ?_⟩;have:=qdt (M:=M) (lo:=0) (n:=n.toNat) (B1:=B1);simpa using this
  ·exact w1.elim
 ·exact w1.elim
theorem qjr {p pos:Pos} (hg:Gl X "range") (hm:X.mg "range" =none) (ha:PA X [a,b] (tA M E ds)) (hs:starEach [a,b] X.env=[(false,eval a X.env),(false,eval b X.env)]) (bS:starEach [b] X.env=[(false,eval b X.env)]):PI X tg (.Call (.Name "range" p) [a,b] [] pos) (tI M E (dIA qgK ds)):=by
 refine PI.weak (qir hg hm ha hs bS) λσ H R ⟨ρ,μ,B,ev,w⟩=>⟨ρ,μ,B,ev,(Wn.bind w).mono λts m w1 vs H1 B1 h1 g1 r1=> ?_⟩
 change Wn M E H B (KI M H B R) (qgK ts m) at w1
 unfold qgK at w1;split at w1
 ·rename_i i n;obtain⟨v,r,rfl,a1,b1⟩:=r1.inv;obtain⟨v2,r2,rfl,a2,b2⟩:=b1.inv;cases b2.inv0;cases qae a1;cases qae a2;split at w1
  ·rename_i hn;have l0:(1000000:Nat)<=sizeLine:=by decide
   have l1:2000000<=sizeLine:=by decide
   exact⟨i,n,rfl,by omega,w1 _ H1 B1 h1 g1 (by show(List.map _ _).length<=_;rw[List.length_map,List.length_range];omega) qdt⟩
  ·exact w1.elim
 ·exact w1.elim
end
noncomputable def qj0(k:DS0 Out):Out->Mu->R Out
 |.nx ρ,μ=>k ρ μ
 |.ct ρ,μ=>k ρ μ
 |.bk ρ,μ=>.ok (.nx ρ) μ
 |.rt t,μ=>.ok (.rt t) μ
noncomputable def qff(it:Ito)(dg:T->DS0 Ro)(db:DS0 Out):Nat->Nat->DS0 Out
 |0,i=>λρ μ=>match nxt it μ i with|some none=>.ok (.nx ρ) μ|_=>.no
 |n+1,i=>λρ μ=>match nxt it μ i with
  |some none=>.ok (.nx ρ) μ
  |some (some t)=>(dg t ρ μ).bind λaq ag=>(db aq ag).bind (qj0 (qff it dg db n (i+1)))
  |none=>.no
noncomputable def qs1(dg:T->DS0 Ro)(db:DS0 Out):List T->DS0 Out
 |[]=>λρ μ=>.ok (.nx ρ) μ
 |t::ts=>λρ μ=>(dg t ρ μ).bind λaq ag=>(db aq ag).bind (qj0 (qs1 dg db ts))
theorem qjh{dg:T->DS0 Ro}{db:DS0 Out}{ts:List T}: ∀(n i:Nat),ts.length<=n+i->qff (.fx ts) dg db n i=qs1 dg db (ts.drop i)
 |0,i,h=>by
  have e:ts[i]? =none:=List.getElem?_eq_none_iff.mpr (by omega)
  funext ρ μ
  rw[List.drop_eq_nil_of_le (by omega)];show(match some ts[i]? with|some none=>R.ok (Out.nx ρ) μ|_=>.no)=_;rw[e];rfl
 |n+1,i,h=>by
  funext ρ μ
  show(match some ts[i]? with|some none=>R.ok (Out.nx ρ) μ|some (some t)=>_|none=>.no)=_;cases q:ts[i]? with
  |none=>rw[List.drop_eq_nil_of_le (List.getElem?_eq_none_iff.mp q)];rfl
  |some t=>obtain⟨hi,et⟩:=List.getElem?_eq_some_iff.mp q;rw[List.drop_eq_getElem_cons hi,et];show(dg t ρ μ).bind (λaq ag=>(db aq ag).bind (qj0 (qff (.fx ts) dg db n (i+1))))=_;rw[qjh n (i+1) (by omega)];rfl
noncomputable def qrm(dg:T->DS0 Ro)(db:DS0 Out):Ito->DS0 Out
 |.fx ts=>qs1 dg db ts
 |.lv k=>λρ μ=>qff (.lv k) dg db (qb7 (.lv k) μ) 0 ρ μ
noncomputable def qul(di:DS0 Ito)(dg:T->DS0 Ro)(db:DS0 Out):DS0 Out:=dSq di (qrm dg db)
theorem qji{dg:T->DS0 Ro}{db:DS0 Out}{it:Ito}{ρ:Ro}{μ:Mu}:qrm dg db it ρ μ=qff it dg db (qb7 it μ) 0 ρ μ:=by
 cases it with
 |fx ts=>rw[qjh _ 0 (by exact Nat.le_refl _)];rfl
 |lv k=>rfl
section
variable {M:Md}{E:XK}{X:Cx}{tg iter:Expr}{body:List Stmt}{pos:Pos}{di:DS0 Ito}{dg:T->DS0 Ro}{db:DS0 Out}
theorem qqx (hp:PassesOwn (model X.prog X.w) X.A X.env X.xe) (hc:X.calm=true) (hi:PI X tg iter (tI M E di)) (hg:PG X tg (tG M E dg)) (hb:PSs X body (tS M E db))
  (hs: ∀x,foldedSetIterable iter X.env x=pure x):PS X (.For tg iter body [] pos) (tS M E (qul di dg db)):=by
 refine PS.weak (qpd hp hc hi hg hb hs) λD σ H ⟨ρ,μ,B,ev,w⟩=>⟨ρ,μ,B,ev,(Wn.bind w).mono λit m w1 J H1 B1 h1 g1 hz wk=> ?_⟩
 have w1:Wn M E H B (KS M H B D) (qrm dg db it ρ m):=w1;rw[qji] at w1;refine⟨λi n af H'=> ∃ai aa B',Ev M ai aa af H' B'/\Go H1 B1 H' B'/\(∀ts,it= .fx ts->i<=ts.length)/\Wn M E H B (KS M H B D) (qff it dg db n i ai aa),⟨_,ρ,m,B1,ev.on h1 g1.le,.refl,λ_ _=>Nat.zero_le _,w1⟩,?_⟩;rintro i n af H' ⟨ai,aa,B',bO,g',hl,w2⟩;have stop:nxt it aa i=some none->(R.ok (Out.nx ai) aa=qff it dg db n i ai aa)->J.stop i H'/\D.nx af H':=λe q=>by rw[<-q] at w2;exact⟨(wk aa H' B' bO.hs g'.le i).2 hl e,w2 af H' B' bO (g1.trans g')⟩
 cases q:nxt it aa i with
 |none=>cases n<;>(unfold qff at w2;rw[q] at w2;exact w2.elim)
 |some o=>
  cases o with
  |none=>exact .inl (stop q (by cases n<;>(unfold qff;rw[q])))
  |some t=>
   cases n with
   |zero=>unfold qff at w2;rw[q] at w2;exact w2.elim
   |succ n=>
    have w2:Wn M E H B (KS M H B D) ((dg t ai aa).bind λaq ag=>(db aq ag).bind (qj0 (qff it dg db n (i+1)))):=by unfold qff at w2;rw[q] at w2;exact w2
    obtain⟨go,yl⟩:=(wk aa H' B' bO.hs g'.le i).1 t q;refine .inr ⟨go,λee aW=> ∃aB ak B2,Ev M aB ak ee aW B2/\Go H1 B1 aW B2/\(∀ts,it= .fx ts->i+1<=ts.length)/\Wn M E H B (KS M H B D) (qff it dg db n (i+1) aB ak),λee aW h=>⟨n,Vz n,h⟩,λx H3 y=> ?_⟩;obtain⟨B3,h3,g3,r3⟩:=yl x H3 y;have gg:=g1.trans (g'.trans g3);have cJ: ∀ts,it= .fx ts->i+1<=ts.length:=λts e=>by subst e;exact(List.getElem?_eq_some_iff.mp (Option.some.inj q)).1
    refine⟨ai,aa,B3,t,bO.on h3 g3.le,r3,(Wn.bind w2).lift gg λaq ag w3 cN H4 B4 e4 g4=> ?_⟩;refine⟨aq,ag,B4,e4,(Wn.bind w3).lift (gg.trans g4) λo ak w4=> ?_⟩;cases o with
    |nx aB|ct aB=>exactλcM H5 B5 e5 g5=>⟨aB,ak,B5,e5,((g'.trans g3).trans g4).trans g5,cJ,w4⟩
    |bk aB=>exactλcM H5 B5 e5 g5=>w4 cM H5 B5 e5 ((gg.trans g4).trans g5)
    |rt t'=>exact KE.le w4 (gg.trans g4)
end
noncomputable def qbl(n:Nat)(fr:List Nat)(ρ:Ro):Ro:=List.replicate n none++fr.map λi=>(ρ[i]?).join
noncomputable def qbp(it:Ito)(dg:T->DS0 Ro)(dt:DS0 Bool)(de:DS0 T):Nat->Nat->DS0 (List T)
 |0,i=>λρ μ=>match nxt it μ i with|some none=>.ok [] μ|_=>.no
 |n+1,i=>λρ μ=>match nxt it μ i with
  |some none=>.ok [] μ
  |some (some t)=>(dg t ρ μ).bind λaq ag=>(dt aq ag).bind λc ak=>if c=true then(de aq ak).bind λy aX=>(qbp it dg dt de n (i+1) aq aX).bind λys bR=>.ok (y::ys) bR else qbp it dg dt de n (i+1) aq ak
  |none=>.no
noncomputable def qll(dg:T->DS0 Ro)(dt:DS0 Bool)(de:DS0 T):List T->DS0 (List T)
 |[]=>λρ μ=>.ok [] μ
 |t::ts=>λρ μ=>(dg t ρ μ).bind λaq ag=>(dt aq ag).bind λc ak=>if c=true then(de aq ak).bind λy aX=>(qll dg dt de ts aq aX).bind λys bR=>.ok (y::ys) bR else qll dg dt de ts aq ak
theorem qg0{dg:T->DS0 Ro}{dt:DS0 Bool}{de:DS0 T}{ts:List T}: ∀(n i:Nat),ts.length<=n+i->qbp (.fx ts) dg dt de n i=qll dg dt de (ts.drop i)
 |0,i,h=>by
  have e:ts[i]? =none:=List.getElem?_eq_none_iff.mpr (by omega)
  funext ρ μ
  rw[List.drop_eq_nil_of_le (by omega)];show(match some ts[i]? with|some none=>R.ok ([]:List T) μ|_=>.no)=_;rw[e];rfl
 |n+1,i,h=>by
  funext ρ μ
  show(match some ts[i]? with|some none=>R.ok ([]:List T) μ|some (some t)=>_|none=>.no)=_;cases q:ts[i]? with
  |none=>rw[List.drop_eq_nil_of_le (List.getElem?_eq_none_iff.mp q)];rfl
  |some t=>obtain⟨hi,et⟩:=List.getElem?_eq_some_iff.mp q;rw[List.drop_eq_getElem_cons hi,et];show(dg t ρ μ).bind (λaq ag=>(dt aq ag).bind λc ak=>if c=true then(de aq ak).bind λy aX=>(qbp (.fx ts) dg dt de n (i+1) aq aX).bind λys bR=>.ok (y::ys) bR else qbp (.fx ts) dg dt de n (i+1) aq ak)=_;rw[qg0 n (i+1) (by omega)];rfl
noncomputable def qjA(dg:T->DS0 Ro)(dt:DS0 Bool)(de:DS0 T):Ito->DS0 (List T)
 |.fx ts=>qll dg dt de ts
 |.lv k=>λρ μ=>qbp (.lv k) dg dt de (qb7 (.lv k) μ) 0 ρ μ
theorem qlm{dg:T->DS0 Ro}{dt:DS0 Bool}{de:DS0 T}{it:Ito}{ρ:Ro}{μ:Mu}:qjA dg dt de it ρ μ=qbp it dg dt de (qb7 it μ) 0 ρ μ:=by
 cases it with
 |fx ts=>rw[qg0 _ 0 (by exact Nat.le_refl _)];rfl
 |lv k=>rfl
noncomputable def noX{α:Type}:R α->R α
 |.ok a m=>.ok a m
 |_=>.no
noncomputable def qto(x:Bool)(n:Nat)(fr:List Nat)(dg:T->DS0 Ro)(dt:DS0 Bool)(de:DS0 T)(it:Ito):DS0 Ct:=λρ μ=>
 (if x=true then qjA dg dt de it (qbl n fr ρ) μ else noX (qjA dg dt de it (qbl n fr ρ) μ)).bind λys aa=>.ok (.ls ys) aa
noncomputable def qem(x:Bool)(n:Nat)(fr:List Nat)(di:DS0 Ito)(dg:T->DS0 Ro)(dt:DS0 Bool)(de:DS0 T):DS0 Ct:=dSq di (qto x n fr dg dt de)
section
variable {M:Md}{E E':XK}{X:Cx}{tg elt iter:Expr}{ifs:List Expr}{scope:Scope}{pos:Pos}{own:List Str}{fr:List (Str×Nat)}{di:DS0 Ito}{dg:T->DS0 Ro}{dt:DS0 Bool}{de:DS0 T}
theorem qjl{ρ:Ro}{μ:Mu}{σ:St}{H:Hp}{B:qaj}(ev:Ev M ρ μ σ H B):Ev M (qbl own.length (fr.map (·.2)) ρ) μ (qbr own fr σ) H B:=by
 refine⟨ev.hs,by unfold qbl qbr;simp,λi t e=> ?_⟩;unfold qbl at e;by_cases hi:i<own.length
 ·rw[List.getElem?_append_left (by simpa using hi),List.getElem?_replicate] at e;split at e<;>cases e
 ·rw[List.getElem?_append_right (by simpa using hi),List.length_replicate,List.getElem?_map,List.getElem?_map] at e;cases q:fr[i - own.length]? with
  |none=>rw[q] at e;cases e
  |some p=>
   rw[q] at e;have e:(ρ[p.2]?).join=some t:=Option.some.inj e;have e':ρ[p.2]? =some (some t):=by
    cases z:ρ[p.2]? with
    |none=>rw[z] at e;cases e
    |some o=>rw[z] at e;exact congrArg some e
   obtain⟨v,e1,e2⟩:=ev.sl _ _ e';refine⟨v,?_,e2⟩;unfold qbr;rw[List.getElem?_append_right (by simpa using hi),List.length_map,List.getElem?_map,q];show some (σ[p.2]?).join=_;rw[e1];rfl
theorem comp_core {x:Bool} (hE:x=true->E'=E) {σ:St} {H:Hp} {B:qaj} {ρ:Ro} {μ:Mu} {Q:VK} (ev:Ev M ρ μ σ H B) (w:Wn M E H B (KN M H B Q) (qem x own.length (fr.map (·.2)) di dg dt de ρ μ)):
  qeK (tI M E di) (tG M E' dg) (tT M E' dt) (tE M E' de) own fr σ H λD H'=>Q (.ref D) H':=by
 refine⟨ρ,μ,B,ev,(Wn.bind w).mono λit m w1 J H1 B1 h1 g1 hz wk D hD=> ?_⟩;have w2:Wn M E' H B (λys aa=>KN M H B Q (.ls ys) aa) (qbp it dg dt de (qb7 it m) 0 (qbl own.length (fr.map (·.2)) ρ) m):=by
  have w1:Wn M E H B (KN M H B Q) ((if x=true then qjA dg dt de it (qbl own.length (fr.map (·.2)) ρ) m else noX (qjA dg dt de it (qbl own.length (fr.map (·.2)) ρ) m)).bind λys aa=>.ok (.ls ys) aa):=w1;rw[qlm] at w1;cases x with
  |true=>rw[if_pos rfl] at w1;rw[hE rfl];exact Wn.bind w1
  |false=>
   rw[if_neg (by decide)] at w1;cases q:qbp it dg dt de (qb7 it m) 0 (qbl own.length (fr.map (·.2)) ρ) m with
   |no|ex c m'=>rw[q] at w1;exact w1.elim
   |ok ys m'=>rw[q] at w1;exact w1
 have bD:=h1.fr hD;have ofD: ∀k,B1.ad k≠some D:=λk e=>(h1.dm k D e).2 hD;have g9:hid D (upd H1 D (.lst []))=H1:=by
  funext a
  by_cases q:a=D
  ·subst q;rw[qfc,hD]
  ·rw[qco q,qaa q]
 have gF:Hs M m (upd H1 D (.lst [])) B1:=h1.more λa o e=>by rw[qaa (qag e hD)];exact e
 refine⟨λi n af H'=> ∃ai aa B' dn ys,Ev M ai aa af H' B'/\Go H1 B1 (hid D H') B'/\H' D=some (.lst ys)/\B' D=none/\(∀k,B'.ad k≠some D)/\Reps M.K B' dn ys/\ys.length<=i/\n+i=qb7 it m/\(∀ts,it= .fx ts->i<=ts.length)/\
  Wn M E' H B (λrs aa=>KN M H B Q (.ls (dn++rs)) aa) (qbp it dg dt de n i ai aa),⟨_,_,m,B1,[],[],qjl (ev.on gF g1.le),by rw[g9];exact .refl,qac,bD,ofD,.nil,Vm _,Nat.add_zero _,λ_ _=>Nat.zero_le _,w2⟩,?_⟩
 rintro i n af H' ⟨ai,aa,B',dn,ys,bO,g',fj,jn,fH,rd,hy,hn,hl,w3⟩;have stop:nxt it aa i=some none->(R.ok ([]:List T) aa=qbp it dg dt de n i ai aa)->J.stop i H'/\Q (.ref D) H':=λe q=>by
  rw[<-q] at w3;refine⟨(wk aa H' B' bO.hs g'.le i).2 hl e,?_⟩;have w3:KN M H B Q (.ls (dn++[])) aa:=w3;rw[List.append_nil] at w3;have:=w3 D (.lst ys) (hid D H') B' (bO.hs.loose jn fH (λa q=>qco q) λu hu=>by rw[fj] at hu;cases hu;exact .inl ⟨_,rfl⟩) (g1.trans g') qfc ⟨ys,rfl,rd⟩;have e2:upd (hid D H') D (.lst ys)=H':=by
   funext a
   by_cases q:a=D
   ·subst q;rw[qac,fj]
   ·rw[qaa q,qco q]
  rw[e2] at this;exact this
 cases q:nxt it aa i with
 |none=>cases n<;>(unfold qbp at w3;rw[q] at w3;exact w3.elim)
 |some o=>
  cases o with
  |none=>exact .inl (stop q (by cases n<;>(unfold qbp;rw[q])))
  |some t=>
   cases n with
   |zero=>unfold qbp at w3;rw[q] at w3;exact w3.elim
   |succ n=>
    have w3:Wn M E' H B (λrs aa=>KN M H B Q (.ls (dn++rs)) aa) ((dg t ai aa).bind λaq ag=>(dt aq ag).bind λc ak=>if c=true then(de aq ak).bind λy aX=>(qbp it dg dt de n (i+1) aq aX).bind λys bR=>.ok (y::ys) bR else qbp it dg dt de n (i+1) aq ak):=by unfold qbp at w3;rw[q] at w3;exact w3
    obtain⟨go,yl⟩:=(wk aa H' B' bO.hs g'.le i).1 t q;have cJ: ∀ts,it= .fx ts->i+1<=ts.length:=λts e=>by subst e;exact(List.getElem?_eq_some_iff.mp (Option.some.inj q)).1
    let NN:List T->List V->St->Hp->Prop:=λji iB aJ H2=> ∃aB ak B2,Ev M aB ak aJ H2 B2/\Go H1 B1 (hid D H2) B2/\H2 D=some (.lst ys)/\B2 D=none/\(∀k,B2.ad k≠some D)/\Reps M.K B2 ji iB/\Wn M E' H B (λrs aa=>KN M H B Q (.ls (ji++rs)) aa) (qbp it dg dt de n (i+1) aB ak);refine .inr ⟨go,λaJ v H2=> ∃y,NN (dn++[y]) (ys++[v]) aJ H2,λaJ H2=>NN dn ys aJ H2,λaJ v H6 ⟨y,aB,ak,B2,e2,g2,fS,fZ,fG,r2,w⟩=> ?_,λaJ H5 ⟨aB,ak,B2,e2,g2,fS,fZ,fG,r2,w⟩=> ?_,λy H3 yy=> ?_⟩
    ·have l0:qb7 it m<=sizeLine:=hz;refine⟨ys,fS,by omega,n,Vz n,aB,ak,B2,dn++[y],ys++[v],⟨e2.hs.loose fZ fG (λa q=>qaa q) (λu hu=>by rw[fS] at hu;cases hu;exact .inl ⟨_,rfl⟩),e2.len,e2.sl⟩,?_,qac,fZ,fG,r2,by rw[List.length_append,List.length_singleton];omega,by omega,cJ,w⟩;have e3:hid D (upd H6 D (.lst (ys++[v])))=hid D H6:=by
      funext a
      by_cases q:a=D
      ·subst q;rw[qfc,qfc]
      ·rw[qco q,qco q,qaa q]
     rw[e3];exact g2
    ·exact⟨n,Vz n,aB,ak,B2,dn,ys,e2,g2,fS,fZ,fG,r2,by omega,by omega,cJ,w⟩
    ·obtain⟨B3,h3,g3,r3⟩:=yl y H3 yy;have st: ∀{H4:Hp} {B4:qaj},Go H' B' H4 B4->Go H1 B1 (hid D H4) B4/\H4 D=some (.lst ys)/\B4 D=none/\∀k,B4.ad k≠some D:=λ{H4 B4} g=>by refine⟨g'.trans g.hid,g.un D _ fj fH (by simp),?_,g.off (by rw[fj];simp) fH⟩;rw[g.nb D _ fj fH (by simp) (by simp)];exact jn
     have gb: ∀{H4:Hp} {B4:qaj},Go H' B' H4 B4->∀{H5:Hp} {B5:qaj},Go H4 B4 H5 B5->True:=λ_ _ _ _=>trivial;have up: ∀{H4:Hp} {B4:qaj} {α:Type} {k k':α->Mu->Prop} {r:R α},Go H' B' H4 B4->Wn M E' H B k r->(∀a μ,k a μ->k' a μ)->Wn M E' H4 B4 k' r:=λ{H4 B4 α k k' r} g w f=>by
      cases r with
      |no=>exact w
      |ok a m=>exact f _ _ w
      |ex c m=>
       intro H5 B5 h5 g5;have gg:=g.trans g5;obtain⟨z1,z2,z3,z4⟩:=st gg;have h6:Hs M m (hid D H5) B5:=h5.loose z3 z4 (λa q=>qco q) λu hu=>by rw[z2] at hu;cases hu;exact .inl ⟨_,rfl⟩
       have:Go H B H5 B5:=(g1.trans z1).trans (Go.more λa o e=>(qi5 e).1);exact w H5 B5 h5 this
     refine⟨ai,aa,B3,t,bO.on h3 g3.le,r3,up g3 (Wn.bind w3) λaq ag w4 cN H4 B4 e4 g4=> ?_⟩;have jd:=g3.trans g4;refine⟨aq,ag,B4,e4,up jd (Wn.bind w4) λc ak w5 H5 B5 h5 g5=> ?_⟩;have fV:=jd.trans g5;have e5:=e4.on h5 g5.le;cases c with
     |false=>obtain⟨z1,z2,z3,z4⟩:=st fV;refine qsH ⟨aq,ak,B5,e5,z1,z2,z3,z4,rd.mono fV.le,?_⟩;exact w5
     |true=>refine qu3 ⟨aq,ak,B5,e5,up fV (Wn.bind w5) λy aX w6 v H6 B6 h6 g6 r6=> ?_⟩;have jc:=fV.trans g6;obtain⟨z1,z2,z3,z4⟩:=st jc;refine⟨y,aq,aX,B6,e5.on h6 g6.le,z1,z2,z3,z4,(rd.mono jc.le).append (.one r6),(Wn.bind w6).mono λrs bR w7=> ?_⟩;have w7:KN M H B Q (.ls (dn++y::rs)) bR:=w7;show KN M H B Q (.ls (dn++[y]++rs)) bR;rw[List.append_assoc];exact w7
theorem qkh{Y:Cx}:qhW Y [] (tT M E quf):=λpins s σ H Q I ⟨ρ,μ,B,ev,w⟩=>qkj pins s σ H Q I (w H B ev.hs .refl)
theorem qph{Y:Cx}{c:Expr}(h:PT Y c (tT M E dt)):qhW Y [c] (tT M E dt):=qki h
theorem qnS (hc:X.calm=true) (hi:PI X tg iter (tI M E di)) (hk:scope.kind= .function) (aj: ∀y∈scope.names,y.2≠.cell) (ay: ∀y∈scope.names,y.2= .local->scope.names.lookup y.1=some .local)
  (ah: ∀y∈scope.names,y.2= .free->X.env.kindOf y.1=some .cell\/X.env.kindOf y.1=some .free) (aO: ∀p∈fr,X.N[p.2]? =some p.1/\scope.names.lookup p.1=some .free)
  (hb: ∀(fp:List Addr) (s3:Shared) (H3:Hp),PG (qao X scope own fr fp s3 H3) tg (tG M E0 dg)/\qhW (qao X scope own fr fp s3 H3) ifs (tT M E0 dt)/\PE (qao X scope own fr fp s3 H3) elt (tE M E0 de))
  (hs: ∀x,foldedSetIterable iter X.env x=pure x):PE X (.ListComp elt [⟨tg,iter,ifs,0⟩] scope pos) (tN M E (qem false own.length (fr.map (·.2)) di dg dt de)):=
 PE.weak (qm0 hc hi hk aj ay ah aO hb hs) λσ H Q ⟨ρ,μ,B,ev,w⟩=>comp_core (λz=>by cases z) ev w
noncomputable def qtk(ow:Bool)(i:Nat)(dn:DS0 Ct):DS0 Out:=qlc i (if ow=true then dOw dn else dFz dn)
theorem qhI {i:Nat} {y:Str} {py spos:Pos} {ow:Bool} (hc:X.calm=true) (hi:PI X tg iter (tI M E di)) (hk:scope.kind= .function) (aj: ∀y∈scope.names,y.2≠.cell) (ay: ∀y∈scope.names,y.2= .local->scope.names.lookup y.1=some .local)
  (ah: ∀y∈scope.names,y.2= .free->X.env.kindOf y.1=some .cell\/X.env.kindOf y.1=some .free) (aO: ∀p∈fr,X.N[p.2]? =some p.1/\scope.names.lookup p.1=some .free)
  (hb: ∀(fp:List Addr) (s3:Shared) (H3:Hp),PG (qao X scope own fr fp s3 H3) tg (tG M E0 dg)/\qhW (qao X scope own fr fp s3 H3) ifs (tT M E0 dt)/\PE (qao X scope own fr fp s3 H3) elt (tE M E0 de))
  (hN:X.N.Nodup) (gY:X.N[i]? =some y) (hy:X.env.scope.names.lookup y=some .local)
  (bG:swapsWith (.ListComp elt [⟨tg,iter,ifs,0⟩] scope pos) (some (.Name y py)) spos.line X.env=pure true) (hs: ∀x,foldedSetIterable iter X.env x=pure x):
  PS X (.Assign [.Name y py] (.ListComp elt [⟨tg,iter,ifs,0⟩] scope pos) spos) (tS M E (qtk ow i (qem false own.length (fr.map (·.2)) di dg dt de))):=
 PS.weak (L2.ps_setcomp hc hi hk aj ay ah aO hb hN gY hy bG hs) λD σ H ⟨ρ,μ,B,ev,w⟩=>by
  have key: ∀{d:DS0 T},tS M E (qlc i d) D σ H->tE M E d σ H λv H1=>D.nx (σ.set i (some v)) H1:=λ⟨ρ,μ,B,ev,w⟩=>tE.of ev ((Wn.bind w).mono λt ag w1 v H1 B1 h1 l1 r1=>w1 _ H1 B1 ((ev.on h1 l1.le).set r1) l1);have h1:tN M E (qem false own.length (fr.map (·.2)) di dg dt de) σ H λv H1=>D.nx (σ.set i (some v)) H1:=by
   cases ow with
   |true=>exact qiw (key ⟨ρ,μ,B,ev,w⟩)
   |false=>exact qjd (key ⟨ρ,μ,B,ev,w⟩)
  obtain⟨ρ,μ,B,ev,w⟩:=h1;exact comp_core (λz=>by cases z) ev w
end
end NV
namespace PL
open PySem L2 SR SetL
end PL
namespace L2
open PySem PySem.Spec PySem.Calls PyProof.Rows
section
variable {X:Cx}{CX:CXT}{E:XK}{m:Str}{pos apos:Pos}{e o:Expr}{es:List Expr}{ta:TE}{t:TA}
noncomputable def qde(X:Cx)(CX:CXT)(C:Addr)(m:Str)(sp:Sp):Prop:= ∃(f:Addr) (fd:FuncData) (ps:List Str) (k:Nat),Cls X.K C/\qq4 X.K C m f/\qcD X.prog X.w X.K X.mg X.base CX k f fd ps sp/\qaX k X.A/\qaO X.K fd ps []
theorem qkn {pl:Sem Bool} (he:PE X o ta) (hx:qaD CX X E) (ha:PA X (e::es) t)
  (aE:starEach (e::es) X.env=(false,eval e X.env)::starEach es X.env) (ax:(backTo pos (starEach es X.env)).any (·.1)=false)
  (ht:eval (.Call (.Attribute o m apos) (e::es) [] pos) X.env=(do
   let ov <-eval o X.env
   standAt apos.atName
   let (f,fi) <-holding [ov] (getMethod ov m pl)
   callWith pos f fi (backTo pos (starEach (e::es) X.env)) (backToKw pos (keywordEach [] X.env)))):
  PE X (.Call (.Attribute o m apos) (e::es) [] pos) (λσ H Q=>ta σ H λx H1=> ∃a C dx fs sp,x= .ref a/\H1 a=some (.ins C dx fs)/\fs.lookup m=none/\qde X CX C m sp/\t σ H1 λvs H2=>sp (x::vs) H2 Q E):=by intro pins s σ H Q I h;refine W.methodCall_KW (pl:=pl) (thn (he pins s σ H _ I h) λu s1 ⟨x,H1,I1,rx,a,C,dx,fs,sp,ex,ea,l,⟨f,fd,ps,k,c,hm,F,hr,hb⟩,q⟩=> ?_) ht;subst ex;obtain rfl:u=Value.ref a:=rx;refine qdG I1 ea c hm l ?_;refine W.callWith_K (first:=[.ref a]) (h₀:=X.base) I.ok.mod.kin hm.kp (thn (ha pos pins s1 σ H1 _ I1 q) λus s2 ⟨vs,H2,I2,r,q2⟩=>⟨I2.kIn,?_⟩) aE ax;exact qeQ (us:=.ref a::us) (vs:=.ref a::vs) (aP:=[]) F hr hb .nil hx I2 (.cons rfl r) (by rw[List.append_nil];exact q2)
theorem qit {pl:Sem Bool} (he:PE X o ta) (hx:qaD CX X E)
  (ht:eval (.Call (.Attribute o m apos) [] [] pos) X.env=(do
   let ov <-eval o X.env
   standAt apos.atName
   let (f,fi) <-holding [ov] (getMethod ov m pl)
   callWith pos f fi (backTo pos (starEach [] X.env)) (backToKw pos (keywordEach [] X.env)))):
  PE X (.Call (.Attribute o m apos) [] [] pos) (λσ H Q=>ta σ H λx H1=> ∃a C dx fs sp,x= .ref a/\H1 a=some (.ins C dx fs)/\fs.lookup m=none/\qde X CX C m sp/\sp [x] H1 Q E):=by intro pins s σ H Q I h;refine W.methodCall_KW (pl:=pl) (thn (he pins s σ H _ I h) λu s1 ⟨x,H1,I1,rx,a,C,dx,fs,sp,ex,ea,l,⟨f,fd,ps,k,c,hm,F,hr,hb⟩,q⟩=> ?_) ht;subst ex;obtain rfl:u=Value.ref a:=rx;refine qdG I1 ea c hm l ?_;exact W.callWith_K0 (first:=[.ref a]) I1.kIn hm.kp (qeQ (us:=[.ref a]) (vs:=[.ref a]) (aP:=[]) F hr hb .nil hx I1 (.cons rfl .nil) q)
end
end L2
namespace NV
open PySem L2
theorem PE.or{X:Cx}{e:Expr}{t t':TE}(h:PE X e t)(h':PE X e t'):PE X e (λσ H Q=>t σ H Q\/t' σ H Q):=λpins s σ H Q I q=>q.elim (h pins s σ H Q I) (h' pins s σ H Q I)
noncomputable def qrj(o:T)(μ:Mu):Option (Nat×Str×List (Str×T)):=match o with
 |.obj k=>(match μ.l[k]? with|some (.ins c fs)=>some (k,c,fs)|_=>none)
 |_=>none
noncomputable def qlf(mt:Str->Option (List T->Mu->R T))(m:Str)(aV:DS0 T)(ds:DS0 (List T)):DS0 T:=dSq aV λo ρ μ=>match qrj o μ with
 |some (_,c,fs)=>(match mt c with
  |some f=>if(fs.lookup m).isNone=true then(ds ρ μ).bind λts aa=>f (o::ts) aa else .no
  |none=>.no)
 |none=>.no
section
variable {M:Md}{E:XK}{X:Cx}{m:Str}{pos apos:Pos}{e o:Expr}{es:List Expr}{da:DS0 T}{ds:DS0 (List T)}{mt:Str->Option (List T->Mu->R T)}
theorem qkJ{t:T}{μ:Mu}{k:Nat}{c:Str}{fs:List (Str×T)}(h:qrj t μ=some (k,c,fs)):t= .obj k/\μ.l[k]? =some (.ins c fs):=by
 unfold qrj at h;split at h
 ·split at h
  ·rename_i e;cases h;exact⟨rfl,e⟩
  ·cases h
 ·cases h
theorem qe4 (hM: ∀c f,mt c=some f->qde X (CXE X.prog X.w) (clA M.K c) m (spF M f)) {σ:St} {H:Hp} {Q:VK} (h:tE M E (qlf mt m da ds) σ H Q):
  tE M E da σ H λx H1=> ∃a C dx fs sp,x= .ref a/\H1 a=some (.ins C dx fs)/\fs.lookup m=none/\qde X (CXE X.prog X.w) C m sp/\tA M E ds σ H1 λvs H2=>sp (x::vs) H2 Q E:=by
 obtain⟨ρ,μ,B,ev,w⟩:=h;refine tE.of ev ((Wn.bind w).mono λx ag w1 v H1 B1 h1 g1 r1=> ?_)
 change Wn M E H B (KE M H B Q) (match qrj x ag with|some (_,c,fs)=>(match mt c with|some f=>if(fs.lookup m).isNone=true then(ds ρ ag).bind λts aa=>f (x::ts) aa else .no|none=>.no)|none=>.no) at w1
 split at w1
 ·rename_i k c fs e;obtain⟨rfl,el⟩:=qkJ e;split at w1
  ·rename_i f ef;split at w1
   ·rename_i hn;obtain⟨a,rfl,ea⟩:=qaz r1;obtain⟨u,b0,hu,dx,vs,rfl,rv⟩:=h1.at el (by simp) ea;refine⟨a,_,dx,vs,spF M f,rfl,hu,(qbV rv).2 (Option.isNone_iff_eq_none.mp hn),hM c f ef,ρ,ag,B1,ev.on h1 g1.le,(Wn.bind w1).lift g1 λts ak w2 ws H2 B2 h2 g2 r2=> ?_⟩;exact⟨ak,B2,.obj k::ts,h2,.cons (qdw (g2.le.d _ _ ea)) r2,Wn.lift w2 (g1.trans g2) λ_ _ q=>KE.le q (g1.trans g2)⟩
   ·exact w1.elim
  ·exact w1.elim
 ·exact w1.elim
theorem qn0 {pl:Sem Bool} (hM: ∀c f,mt c=some f->qde X (CXE X.prog X.w) (clA M.K c) m (spF M f)) (ho:PE X o (tE M E da)) (hx:qaD (CXE X.prog X.w) X E) (ha:PA X (e::es) (tA M E ds))
  (aE:starEach (e::es) X.env=(false,eval e X.env)::starEach es X.env) (ax:(backTo pos (starEach es X.env)).any (·.1)=false)
  (ht:eval (.Call (.Attribute o m apos) (e::es) [] pos) X.env=(do
   let ov <-eval o X.env
   standAt apos.atName
   let (f,fi) <-holding [ov] (getMethod ov m pl)
   callWith pos f fi (backTo pos (starEach (e::es) X.env)) (backToKw pos (keywordEach [] X.env)))):
  PE X (.Call (.Attribute o m apos) (e::es) [] pos) (tE M E (qlf mt m da ds)):=PE.weak (qkn ho hx ha aE ax ht) λ_ _ _ h=>qe4 hM h
theorem qk7 {pl:Sem Bool} (hM: ∀c f,mt c=some f->qde X (CXE X.prog X.w) (clA M.K c) m (spF M f)) (ho:PE X o (tE M E da)) (hx:qaD (CXE X.prog X.w) X E)
  (ht:eval (.Call (.Attribute o m apos) [] [] pos) X.env=(do
   let ov <-eval o X.env
   standAt apos.atName
   let (f,fi) <-holding [ov] (getMethod ov m pl)
   callWith pos f fi (backTo pos (starEach [] X.env)) (backToKw pos (keywordEach [] X.env)))):
  PE X (.Call (.Attribute o m apos) [] [] pos) (tE M E (qlf mt m da ql7)):=PE.weak (qit ho hx ht) λσ H Q h=>by
 refine(qe4 hM h).imp λv H1 ⟨a,C,dx,fs,sp,e1,e2,e3,e4,q⟩=>⟨a,C,dx,fs,sp,e1,e2,e3,e4,?_⟩
 obtain⟨ρ,μ,B,ev,w⟩:=q;exact w [] H1 B ev.hs .refl .nil
end
noncomputable def ql6(x:Str):DS0 Out:=λ_ μ=>.ex x μ
section
variable {M:Md}{E:XK}{X:Cx}{st:Stmt}
theorem qkZ{x:Str}(h:PS X st (qic (clA M.K x) E)):PS X st (tS M E (ql6 x)):=PS.weak h λD σ H ⟨ρ,μ,B,ev,w⟩=>w H B ev.hs .refl
noncomputable def unO(i:Nat):Out->Mu->R Out
 |.nx ρ,μ=>.ok (.nx (ρ.set i none)) μ
 |.bk ρ,μ=>.ok (.bk (ρ.set i none)) μ
 |.ct ρ,μ=>.ok (.ct (ρ.set i none)) μ
 |.rt t,μ=>.ok (.rt t) μ
noncomputable def qvr(cl:Str->Bool)(n:Nat)(nm:Option Nat)(db dh:DS0 Out):DS0 Out:=λρ μ=>match db ρ μ with
 |.ex c m=>if cl c=true then(match nm with
  |some i=>((noX (dh ((List.replicate n none).set i (some (.exc c))) m))).bind (unO i)
  |none=>noX (dh (List.replicate n none) m)) else .no
 |r=>r
variable {body cO:List Stmt}{fw:Stmt}{x n:Str}{np gH pos:Pos}{CH:Addr}{bmH:List Value}{db dh:DS0 Out}{cl:Str->Bool}{i:Nat}
end
noncomputable def qqf(i:Nat)(ρ:Ro)(μ:Mu):Ro×Mu:=match ρ[i]? with
 |some (some (.obj k))=>(match μ.l[k]? with
  |some (.ls ts)=>(ρ.set i (some (.lst ts)),μ.put k .gone)
  |some (.dk kvs)=>(ρ.set i (some (.dct kvs)),μ.put k .gone)
  |_=>(ρ,μ))
 |_=>(ρ,μ)
noncomputable def quk(i:Nat)(d:DS0 Out):DS0 Out:=λρ μ=>d (qqf i ρ μ).1 (qqf i ρ μ).2
section
variable {M:Md}{E:XK}{X:Cx}{st:Stmt}{d:DS0 Out}{μ:Mu}{H:Hp}{B:qaj}
theorem Hs.frz(h:Hs M μ H B){k:Nat}{c:Ct}{a:Addr}{o:HO}(e:μ.l[k]? =some c)(n:c≠.gone)(ha:B.ad k=some a)(ho:H a=some o)(nt: ∀ps,o≠.tbl ps):Hs M (μ.put k .gone) H (B.upd a o)/\Go H B H (B.upd a o):=by
 obtain⟨u,b0,hu,cu⟩:=h.at e n ha;have le:=h.upd_le (o:=o) b0;have hk:k<μ.l.length:=(List.getElem?_eq_some_iff.mp e).1;have ga: ∀{j:Nat} {d:Ct},(μ.l.set k .gone)[j]? =some d->(k≠j/\μ.l[j]? =some d)\/d= .gone:=λ{j d} e=>by
  rw[List.getElem?_set] at e;split at e
  ·(try rw[if_pos hk] at e);cases e;exact .inr rfl
  ·rename_i q;exact .inl ⟨q,e⟩
 refine⟨⟨λb v z=> ?_,λb ps z=> ?_,h.gm,λj d ej nj=> ?_,h.ij,λj b z=> ?_,λj d ej=> ?_,λq hq=> ?_⟩,⟨le,λ_ _ e _ _=>e,λ_ _ e=>.inl e,λ_ e=>e,λb v e n _ _=> ?_⟩⟩
 ·have z:L2.upd B.hp a o b=some v:=z;by_cases q:b=a
  ·subst q;rw[qac] at z;cases z;exact ho
  ·rw[qaa q] at z;exact h.bh b v z
 ·have z:L2.upd B.hp a o b=some (.tbl ps):=z;by_cases q:b=a
  ·subst q;rw[qac] at z;exact nt ps (Option.some.inj z)
  ·rw[qaa q] at z;exact h.bt b ps z
 ·rcases ga ej with⟨q,ej⟩|rfl
  ·obtain⟨b,v,e1,e2,e3,e4⟩:=h.st j d ej nj;exact⟨b,v,e1,by show L2.upd B.hp a o b=_;rw[qaa (λz=>q (h.ij k j a ha (by rw[<-z];exact e1)))];exact e2,e3,e4.mono le⟩
  ·exact absurd rfl nj
 ·exact⟨by show j<(μ.l.set k .gone).length;rw[List.length_set];exact(h.dm j b z).1,(h.dm j b z).2⟩
 ·show ubC d<=j\/∃q∈(if ubC .gone<=k then μ.k else(k,ubC .gone)::μ.k),_;rw[if_pos (show ubC .gone<=k from Nat.zero_le _)]
  rcases ga ej with⟨_,ej⟩|rfl
  ·exact h.lk j d ej
  ·exact .inl (Nat.zero_le _)
 ·have hq:q∈(if ubC .gone<=k then μ.k else(k,ubC .gone)::μ.k):=hq;rw[if_pos (show ubC .gone<=k from Nat.zero_le _)] at hq;show q.2<=(μ.l.set k .gone).length;rw[List.length_set];exact h.ln q hq
 ·show L2.upd B.hp a o b=_;rw[qaa (λz=>n k (by rw[z];exact ha))]
theorem Ev.frz{ρ:Ro}{σ:St}(i:Nat)(ev:Ev M ρ μ σ H B): ∃B',Ev M (qqf i ρ μ).1 (qqf i ρ μ).2 σ H B'/\Go H B H B':=by
 have same: ∃B',Ev M ρ μ σ H B'/\Go H B H B':=⟨B,ev,.refl⟩
 have eB: ∀{aa:Mu} {B':qaj} {t:T} {v:V},Hs M aa H B'->Go H B H B'->σ[i]? =some (some v)->Rep M.K B' t v->Ev M (ρ.set i (some t)) aa σ H B':=λ{aa B' t v} h g e r=>by
  have:=(ev.on h g.le).set (i:=i) r;have e2:σ.set i (some v)=σ:=by
   refine List.ext_getElem? λj=> ?_;rw[List.getElem?_set];split
   ·rename_i q;subst q;rw[e,if_pos (List.getElem?_eq_some_iff.mp e).1]
   ·rfl
  rw[e2] at this;exact this
 unfold qqf;split
 ·rename_i k ek;obtain⟨v,jh,rv⟩:=ev.sl i _ ek;obtain⟨a,rfl,ea⟩:=qaz rv;split
  ·rename_i ts el;obtain⟨o,b0,ho,vs,rfl,r⟩:=ev.hs.at el (by simp) ea;obtain⟨h,g⟩:=ev.hs.frz el (by simp) ea ho (λps z=>by cases z);exact⟨_,eB h g jh (qcn qac (r.mono g.le)),g⟩
  ·rename_i ts el;obtain⟨o,b0,ho,vs,rfl,r⟩:=ev.hs.at el (by simp) ea;obtain⟨h,g⟩:=ev.hs.frz el (by simp) ea ho (λps z=>by cases z);exact⟨_,eB h g jh (qe0 qac (r.mono g.le)),g⟩
  ·exact same
 ·exact same
theorem qqw(i:Nat)(h:PS X st (tS M E d)):PS X st (tS M E (quk i d)):=PS.weak h λD σ H ⟨ρ,μ,B,ev,w⟩=>by obtain⟨B',bO,g⟩:=ev.frz i;exact⟨_,_,B',bO,Wn.lift w g λ_ _ q=>KS.le q g⟩
end
noncomputable def quw(kvs:List (Key×T))(k:Key):Option T:=(kvs.find? λkv=>decide (kv.1=k)).map (·.2)
mutual
noncomputable def eqT:T->T->Bool
 |.non,.non=>true
 |.bl a,.bl b=>a==b
 |.bl a,.int b=>(if a then 1 else 0)==b
 |.int a,.bl b=>a==(if b then 1 else 0)
 |.int a,.int b=>a==b
 |.str a,.str b=>a==b
 |.tup xs,.tup ys=>eqTs xs ys
 |.lst xs,.lst ys=>eqTs xs ys
 |.dct xs,.dct ys=>xs.length==ys.length&&eqTd xs ys
 |_,_=>false
noncomputable def eqTs:List T->List T->Bool
 |[],[]=>true
 |x::xs,y::ys=>eqT x y&&eqTs xs ys
 |_,_=>false
noncomputable def eqTd:List (Key×T)->List (Key×T)->Bool
 |[],_=>true
 |(k,x)::xs,ys=>(match quw ys k with|some y=>eqT x y|none=>false)&&eqTd xs ys
end
noncomputable def okT:Nat->T->Bool
 |_,.non=>true
 |_,.bl _=>true
 |_,.int _=>true
 |_,.str _=>true
 |n+1,.tup ts=>ts.all (okT n)
 |n+1,.lst ts=>ts.all (okT n)
 |_,_=>false
noncomputable def qei:T->Bool
 |.non=>true
 |.bl _=>true
 |.int _=>true
 |.str _=>true
 |_=>false
noncomputable def vOf:T->V
 |.bl b=>.bl b
 |.int b=>.int b
 |.str b=>.str b
 |_=>.non
noncomputable def LeH(B:qaj)(H:Hp):Prop:= ∀a o,B a=some o->H a=some o
abbrev qio(xs ys:List T)(j:Nat):Bool:=eqT (xs.getD j .non) (ys.getD j .non)
theorem qcB: ∀xs ys:List T,eqTs xs ys=((List.range (min xs.length ys.length)).all (qio xs ys)&&xs.length==ys.length)
 |[],[]=>by simp[eqTs]
 |[],_::_=>by simp[eqTs]
 |_::_,[]=>by simp[eqTs]
 |x::xs,y::ys=>by
  rw[eqTs,qcB xs ys];have m:min (x::xs).length (y::ys).length=(min xs.length ys.length).succ:=by simp only[List.length_cons];lia
  rw[m,List.range_succ_eq_map,List.all_cons,List.all_map,<-Bool.and_assoc];have e:(qio (x::xs) (y::ys)∘Nat.succ)=qio xs ys:=by funext j;simp[qio]
  rw[e,show qio (x::xs) (y::ys) 0=eqT x y from rfl];simp
theorem qkW{xs ys:List T}(h:xs.length=ys.length):eqTs xs ys=(List.range xs.length).all (qio xs ys):=by rw[qcB,h,Nat.min_self,beq_self_eq_true,Bool.and_true]
theorem qnJ{xs ys:List T}(h:xs.length≠ys.length):eqTs xs ys=false:=by rw[qcB];simp[h]
section
variable {K:PySem.W.Frag}{B:qaj}{t u:T}{x y:V}
theorem qbm(f:qei t=true)(r:Rep K B t x):x=vOf t:=by cases t<;>first|exact qcJ r|exact qbO r|exact qae r|exact qaw r|cases f
theorem qaW(f:qei t=true):qgc (vOf t)=true:=by cases t<;>first|rfl|cases f
theorem qgW(ft:qei t=true)(fu:qei u=true):eqT t u=eqV (vOf t) (vOf u):=by cases t<;>cases u<;>first|rfl|(cases ft;done)|(cases fu;done)
theorem qhZ(ft:qei t=true)(fu:qei u=true)(e:vOf t=vOf u):t=u:=by cases t<;>cases u<;>first|rfl|(cases e;rfl)|(cases e;done)|(cases ft;done)|(cases fu;done)
theorem qca{p:Addr}(ft:qei t=true)(e:vOf t= .ref p):False:=by cases t<;>first|cases e|cases ft
theorem qbK{ts:List T}(f:qei t=true):eqT t (.lst ts)=false/\eqT (.lst ts) t=false/\eqT t (.tup ts)=false/\eqT (.tup ts) t=false:=by cases t<;>first|exact⟨rfl,rfl,rfl,rfl⟩|cases f
theorem qbX{n:Nat}{ts:List T}(h:ts.all (okT n)=true){j:Nat}(hj:j<ts.length):okT n (ts.getD j .non)=true:=by rw[List.getD_eq_getElem?_getD,List.getElem?_eq_getElem hj];exact List.all_eq_true.mp h _ (List.getElem_mem hj)
theorem qng{n:Nat}{ts:List T}(h:okT n (.lst ts)=true): ∃m,n=m+1/\ts.all (okT m)=true:=by
 cases n with
 |zero=>cases h
 |succ m=>exact⟨m,rfl,h⟩
theorem qnf{n:Nat}{ts:List T}(h:okT n (.tup ts)=true): ∃m,n=m+1/\ts.all (okT m)=true:=by
 cases n with
 |zero=>cases h
 |succ m=>exact⟨m,rfl,h⟩
theorem qaF{n:Nat}(h:okT n t=true):qei t=true\/(∃ts m,t= .lst ts/\n=m+1/\ts.all (okT m)=true)\/∃ts m,t= .tup ts/\n=m+1/\ts.all (okT m)=true:=by
 cases t with
 |lst ts=>obtain⟨m,a,b⟩:=qng h;exact .inr (.inl ⟨ts,m,rfl,a,b⟩)
 |tup ts=>obtain⟨m,a,b⟩:=qnf h;exact .inr (.inr ⟨ts,m,rfl,a,b⟩)
 |_=>first|exact .inl rfl|(cases n<;>cases h)
theorem qgV: ∀(n:Nat) (t:T),okT n t=true->eqT t t=true:=by
 intro n
 induction n with
 |zero=>intro t h;cases t<;>first|(simp[eqT];done)|cases h
 |succ n ih=>
  have many: ∀ts:List T,ts.all (okT n)=true->eqTs ts ts=true:=λts=>by
   induction ts with
   |nil=>intro _;rfl
   |cons t ts it=>intro h;rw[List.all_cons,Bool.and_eq_true] at h;rw[eqTs,ih t h.1,it h.2];rfl
  intro t h;cases t<;>first|(simp[eqT];done)|(rw[eqT];exact many _ h)|cases h
end
section
variable {X:Cx}{pins:List (Addr×Obj)}{σ:St}{H:Hp}{B:qaj}{s:Shared}
theorem qfN(I:Inv X pins σ H s)(le:LeH B H): ∀(n m:Nat) (t u:T) (x:V),okT n t=true->okT m u=true->Rep X.K B t x->Rep X.K B u x->t=u:=by
 intro n
 induction n with
 |zero=>
  intro m t u x ht hu r r'
  rcases qaF ht with f|⟨_,_,_,e,_⟩|⟨_,_,_,e,_⟩
  ·have e1:=qbm f r
   rcases qaF hu with g|⟨us,m',rfl,_,_⟩|⟨us,m',rfl,_,_⟩
   ·exact qhZ f g (e1.symm.trans (qbm g r'))
   ·obtain⟨p,vs,rfl,_⟩:=qax r';exact(qca f e1.symm).elim
   ·obtain⟨p,vs,rfl,_⟩:=qar r';exact(qca f e1.symm).elim
  ·cases e
  ·cases e
 |succ n ih=>
  have many: ∀(m:Nat) (ts us:List T) (vs:List V),ts.all (okT n)=true->us.all (okT m)=true->Reps X.K B ts vs->Reps X.K B us vs->ts=us:=λm ts=>by
   induction ts with
   |nil=>
    intro us vs _ _ r r';cases r.inv0;cases us with
    |nil=>rfl
    |cons _ _=>obtain⟨_,_,e,_⟩:=r'.inv;cases e
   |cons t ts it=>
    intro us vs ht hu r r';obtain⟨v,cC,rfl,a,b⟩:=r.inv;cases us with
    |nil=>cases r'.inv0
    |cons u us=>obtain⟨v',vs'',e,a',b'⟩:=r'.inv;cases e;rw[List.all_cons,Bool.and_eq_true] at ht hu;rw[ih m t u v ht.1 hu.1 a a',it us cC ht.2 hu.2 b b']
  intro m t u x ht hu r r'
  rcases qaF ht with f|⟨ts,n',rfl,e,dy⟩|⟨ts,n',rfl,e,dy⟩
  ·have e1:=qbm f r
   rcases qaF hu with g|⟨us,m',rfl,_,_⟩|⟨us,m',rfl,_,_⟩
   ·exact qhZ f g (e1.symm.trans (qbm g r'))
   ·obtain⟨p,vs,rfl,_⟩:=qax r';exact(qca f e1.symm).elim
   ·obtain⟨p,vs,rfl,_⟩:=qar r';exact(qca f e1.symm).elim
  ·cases e;obtain⟨p,vs,rfl,hp,rs⟩:=qax r
   rcases qaF hu with g|⟨us,m',rfl,_,dw⟩|⟨us,m',rfl,_,_⟩
   ·exact(qca g (qbm g r').symm).elim
   ·obtain⟨p',cC,e,ar,bE⟩:=qax r';cases e;rw[hp] at ar;cases ar;rw[many m' ts us vs dy dw rs bE]
   ·obtain⟨p',cC,e,ar,_⟩:=qar r';cases e;rw[hp] at ar;cases ar
  ·cases e;obtain⟨p,vs,rfl,hp,rs⟩:=qar r
   rcases qaF hu with g|⟨us,m',rfl,_,_⟩|⟨us,m',rfl,_,dw⟩
   ·exact(qca g (qbm g r').symm).elim
   ·obtain⟨p',cC,e,ar,_⟩:=qax r';cases e;rw[hp] at ar;cases ar
   ·obtain⟨p',cC,e,ar,bE⟩:=qar r';cases e;rw[hp] at ar;cases ar;rw[many m' ts us vs dy dw rs bE]
open SeqAt in
theorem qlL {A:Around} {ts us:List T} {p p':Addr} {is bY:List Value} {vs ws:List V} (hA:A.units<cLine) (rv:qan vs is) (cw:qan ws bY) (l3:vs.length=ts.length) (l4:ws.length=us.length)
  (it: ∀j (a1:j<(List.toArray is).size) (a2:j<(List.toArray bY).size),EqAt A.in1 s (List.toArray is)[j] (List.toArray bY)[j] (qio ts us j)):
  (s.heap.IsList p (List.toArray is)->s.heap.IsList p' (List.toArray bY)->RcAt A s (.ref p) (.ref p') (eqTs ts us)/\RcNeAt A s (.ref p) (.ref p') (!eqTs ts us))/\
  (s.heap.IsTuple p (List.toArray is)->s.heap.IsTuple p' (List.toArray bY)->RcAt A s (.ref p) (.ref p') (eqTs ts us)/\RcNeAt A s (.ref p) (.ref p') (!eqTs ts us)):=by
 have l1:=rv.length;have l2:=cw.length;have e1:(List.toArray is).size=ts.length:=by simp;lia
 have e2:(List.toArray bY).size=us.length:=by simp;lia
 refine⟨λpl aR=> ?_,λpl aR=> ?_⟩
 ·by_cases hl:ts.length=us.length
  ·rw[qkW hl];have q1:=RcAt.lists (A:=A) (s:=s) (e:=qio ts us) pl aR (by simp;lia) hA it;have q2:=RcNeAt.lists (A:=A) (s:=s) (e:=qio ts us) pl aR (by simp;lia) hA it;rw[e1] at q1 q2;exact⟨q1,q2⟩
  ·rw[qnJ hl];exact⟨RcAt.lists_lengths pl aR (by simp;lia) hA,RcNeAt.lists_lengths pl aR (by simp;lia) hA⟩
 ·rw[qcB];have q1:=RcAt.tuples (A:=A) (s:=s) (e:=qio ts us) pl aR hA it;have q2:=RcNeAt.tuples (A:=A) (s:=s) (e:=qio ts us) pl aR hA it;rw[e1,e2] at q1 q2;exact⟨q1,q2⟩
open SeqAt in
theorem qik (I:Inv X pins σ H s) (le:LeH B H): ∀(n m:Nat) (A:Around) (t u:T) (x y:V) (v w:Value),okT n t=true->okT m u=true->A.units+n<cLine->Rep X.K B t x->Rep X.K B u y->RelV x v->RelV y w->
  EqAt A s v w (eqT t u)/\RcAt A s v w (eqT t u)/\RcNeAt A s v w (!eqT t u):=by
 intro n
 induction n with
 |zero=>
  intro m A t u x y v w ht hu hc r r' rv aw;have hA:A.units<cLine:=by lia
  rcases qaF ht with f|⟨_,_,_,e,_⟩|⟨_,_,_,e,_⟩
  ·cases qbm f r;have fx:=qaW f
   rcases qaF hu with g|⟨us,m',rfl,_,_⟩|⟨us,m',rfl,_,_⟩
   ·cases qbm g r';rw[qgW f g];exact⟨ql2 rv aw fx (qaW g),PL.rc_ff rv fx aw (qaW g)⟩
   ·obtain⟨p,vs,rfl,hp,_⟩:=qax r';cases aw;obtain⟨is,_,pl,_⟩:=I.list (SqL.of (le _ _ hp));have q:=PL.eq_fl rv fx pl.isList hA;rw[(qbK f).1];exact⟨q.1,q.2.2.1,q.2.2.2.2.1⟩
   ·obtain⟨p,vs,rfl,hp,_⟩:=qar r';cases aw;obtain⟨is,_,pl,_⟩:=I.tuple (SqT.of (le _ _ hp));have q:=PL.eq_ft rv fx pl hA;rw[(qbK f).2.2.1];exact⟨q.1,q.2.2.1,q.2.2.2.2.1⟩
  ·cases e
  ·cases e
 |succ n ih=>
  intro m A t u x y v w ht hu hc r r' rv aw;have hA:A.units<cLine:=by lia
  rcases qaF ht with f|⟨ts,n',rfl,e,dy⟩|⟨ts,n',rfl,e,dy⟩
  ·cases qbm f r;have fx:=qaW f
   rcases qaF hu with g|⟨us,m',rfl,_,_⟩|⟨us,m',rfl,_,_⟩
   ·cases qbm g r';rw[qgW f g];exact⟨ql2 rv aw fx (qaW g),PL.rc_ff rv fx aw (qaW g)⟩
   ·obtain⟨p,vs,rfl,hp,_⟩:=qax r';cases aw;obtain⟨is,_,pl,_⟩:=I.list (SqL.of (le _ _ hp));have q:=PL.eq_fl rv fx pl.isList hA;rw[(qbK f).1];exact⟨q.1,q.2.2.1,q.2.2.2.2.1⟩
   ·obtain⟨p,vs,rfl,hp,_⟩:=qar r';cases aw;obtain⟨is,_,pl,_⟩:=I.tuple (SqT.of (le _ _ hp));have q:=PL.eq_ft rv fx pl hA;rw[(qbK f).2.2.1];exact⟨q.1,q.2.2.1,q.2.2.2.2.1⟩
  ·cases e;obtain⟨p,vs,rfl,hp,rs⟩:=qax r;cases rv;obtain⟨is,c7,pl,_⟩:=I.list (SqL.of (le _ _ hp))
   rcases qaF hu with g|⟨us,m',rfl,_,dw⟩|⟨us,m',rfl,_,_⟩
   ·cases qbm g r';have q:=PL.eq_fl aw (qaW g) pl.isList hA;rw[(qbK g).2.1];exact⟨q.2.1,q.2.2.2.1,q.2.2.2.2.2⟩
   ·obtain⟨p',ws,rfl,ar,bE⟩:=qax r';cases aw;obtain⟨bY,aQ,aR,_⟩:=I.list (SqL.of (le _ _ ar));have q:=(qlL (p:=p) (p':=p') hA c7 aQ rs.length bE.length λj a1 a2=>by
     have b1:j<ts.length:=by have:=c7.length;have:=rs.length;simp at a1;lia
     have b2:j<us.length:=by have:=aQ.length;have:=bE.length;simp at a2;lia
     exact(ih m' A.in1 _ _ _ _ _ _ (qbX dy b1) (qbX dw b2) (by show A.units+1+n<cLine;lia) (rs.getD j b1) (bE.getD j b2) (RH.valsArr c7 a1) (RH.valsArr aQ a2)).1).1 pl.isList aR.isList
    refine⟨?_,q⟩;by_cases z:p=p'
    ·subst z;have e:=qfN I le (n+1) m _ _ _ ht hu r r';rw[<-e,qgV _ _ ht];exact EqAt.same _
    ·exact EqAt.of_refs z q.1
   ·obtain⟨p',ws,rfl,ar,bE⟩:=qar r';cases aw;obtain⟨bY,aQ,aR,_⟩:=I.tuple (SqT.of (le _ _ ar));exact⟨EqAt.list_tuple pl.isList aR hA,RcAt.list_tuple pl.isList aR hA,RcNeAt.list_tuple pl.isList aR hA⟩
  ·cases e;obtain⟨p,vs,rfl,hp,rs⟩:=qar r;cases rv;obtain⟨is,c7,pl,_⟩:=I.tuple (SqT.of (le _ _ hp))
   rcases qaF hu with g|⟨us,m',rfl,_,_⟩|⟨us,m',rfl,_,dw⟩
   ·cases qbm g r';have q:=PL.eq_ft aw (qaW g) pl hA;rw[(qbK g).2.2.2];exact⟨q.2.1,q.2.2.2.1,q.2.2.2.2.2⟩
   ·obtain⟨p',ws,rfl,ar,bE⟩:=qax r';cases aw;obtain⟨bY,aQ,aR,_⟩:=I.list (SqL.of (le _ _ ar));exact⟨EqAt.tuple_list pl aR.isList hA,RcAt.tuple_list pl aR.isList hA,RcNeAt.tuple_list pl aR.isList hA⟩
   ·obtain⟨p',ws,rfl,ar,bE⟩:=qar r';cases aw;obtain⟨bY,aQ,aR,_⟩:=I.tuple (SqT.of (le _ _ ar));have q:=(qlL (p:=p) (p':=p') hA c7 aQ rs.length bE.length λj a1 a2=>by
     have b1:j<ts.length:=by have:=c7.length;have:=rs.length;simp at a1;lia
     have b2:j<us.length:=by have:=aQ.length;have:=bE.length;simp at a2;lia
     exact(ih m' A.in1 _ _ _ _ _ _ (qbX dy b1) (qbX dw b2) (by show A.units+1+n<cLine;lia) (rs.getD j b1) (bE.getD j b2) (RH.valsArr c7 a1) (RH.valsArr aQ a2)).1).2 pl aR
    refine⟨?_,q⟩;by_cases z:p=p'
    ·subst z;have e:=qfN I le (n+1) m _ _ _ ht hu r r';rw[<-e,qgV _ _ ht];exact EqAt.same _
    ·exact EqAt.of_refs z q.1
end
end NV
namespace TM
open PySem Builtin
theorem noFill_tuple_mul:fillsNumberSlot (.type "tuple") "mul" =pure false:=
 fillsNumberSlot_seq (id:= "tuple.__mul__") (r:=some (.builtin "tuple.__rmul__")) F.slot_tuple_mul.lookup (by decide+kernel) F.slot_tuple_rmul.lookup (by decide+kernel)
theorem repeat_tuple:seqRepeat? (.type "tuple")=pure (some (.builtin "tuple.__mul__")):=by unfold seqRepeat?;rw[seqSlot_of (T:= "tuple") (name:= "__mul__") (id:= "tuple.__mul__") F.slot_tuple_mul.lookup (by decide+kernel),seqSlot_of (T:= "tuple") (name:= "__rmul__") (id:= "tuple.__rmul__") F.slot_tuple_rmul.lookup (by decide+kernel)];rfl
theorem rmul_tuple (a:Int) (t:Tok) (l:Addr) (items:Array Value) (n:Nat) (od:Option Addr) (sl:Array (Option Value)):
  Meets (Builtin.«int.__rmul__» ⟨[.int a t,.ref l],[]⟩) (λ_ R s=>s.heap.get? l=some ⟨.type "tuple",od,.seq items n,sl⟩/\R (.ok (.ret Value.notImplemented)) s):=
 .of_wp λprog w A R s h=>by obtain⟨hp,g,d,tk,os⟩:=s;obtain⟨hl,h⟩:=h;wp_walk;exact⟨_,rfl,h⟩
theorem mul_tuple6 (l:Addr) (items:Array Value) (n:Nat) (od:Option Addr) (sl:Array (Option Value)) (u:Tok) (hc0: ¬items.isEmpty=true) (hz:items.size<=10):
  Meets (Builtin.«tuple.__mul__» ⟨[.ref l,.int 6 u],[]⟩) (λ_ R s=>s.heap.get? l=some ⟨.type "tuple",od,.seq items n,sl⟩/\R (.ok (.ret (Value.ref s.heap.objs.size))) { s with heap:=s.heap.push { cls:=Value.type "tuple",data:=Data.seq (List.foldl (λx1 x2=>x1++x2) #[] (List.replicate 6 items)) },toks:=s.toks }):=
 .of_wp λprog w A R s h=>by
  obtain⟨hp,g,d,tk,os⟩:=s;obtain⟨hl,h⟩:=h;have hW: ¬((items.size:Int)*6>(2 ^ 63 - 1) / 8):=by omega
  wp_walk
  rw[if_neg hW];have bw:Tuple.tupleTooMany ((items.size:Int)*6)=false:=by
   unfold Tuple.tupleTooMany;have:(60:Nat)<sizeLine:=by decide
   simp only[decide_eq_false_iff_not];omega
  have hsz:(List.foldl (λx1 x2=>x1++x2) #[] (List.replicate 6 items)).size<=sizeLine:=by
   have:(60:Nat)<=sizeLine:=by decide
   simp only[List.replicate,List.foldl_cons,List.foldl_nil,Array.size_append,Array.size_empty,List.size_toArray,List.length_nil];omega
  simp only[bw]
  wp_walk
  refine wpAny_ite_false (Vw (Nat.not_lt.mpr hsz)) ?_
  wp_walk
  exact⟨_,rfl,h⟩
end TM
namespace PL
open PySem L2 SR SetL PySem.Spec PyProof.Rows
section
noncomputable def rRep6(K:W.Frag):R2:=λx y H Q=> ∃a xs,x= .ref a/\y= .int 6/\SqT K H a xs/\xs≠[]/\xs.length<=10/\∀p,H p=none->Q (.ref p) (upd H p (.tup (List.replicate 6 xs).flatten))
theorem qm7:OpR X (binaryOp .Mult) (rRep6 X.K):=by
 intro pins s σ H x y v u Q I rx ry h;obtain⟨a,xs,rfl,rfl,ha,hx,hz,q⟩:=h;cases rx;obtain⟨t,rfl⟩:=ry;obtain⟨its,r1,p1,_⟩:=I.tuple ha;obtain⟨⟨cl,od,da,sl⟩,e,cB,n,eZ⟩:=p1;dsimp only at cB eZ;subst cB eZ;have hl:=r1.length;have b7:List.foldl (λx1 x2=>x1++x2) #[] (List.replicate 6 its.toArray)=(List.replicate 6 its).flatten.toArray:=by simp[List.replicate]
 refine wpAny_binaryOp_repeat_ref (T:= "tuple") (U:= "int") (by decide) ⟨_,e,rfl⟩ (λs'=>typeIs_int s' 6 t) TM.noFill_tuple_mul F.fills_int_mul F.slot_int_rmul TM.repeat_tuple F.slot_int_index.lookup
  (Vy F.slot_int_rmul (typeIs_int s 6 t) F.entry_int_rmul (F.args_int_rmul_2 _ _) (TM.rmul_tuple 6 t a its.toArray n od sl)
   ⟨e,rfl,⟨_,e,rfl⟩,Vy F.slot_tuple_mul ⟨_,e,rfl⟩ F.entry_tuple_mul (F.args_tuple_mul_2 _ _) (TM.mul_tuple6 a its.toArray n od sl t (λz=>hx (r1.nil_iff.mp (by simpa using z))) (by rw[List.size_toArray,<-hl];exact hz)) ⟨e,?_⟩⟩)
 rw[b7];refine⟨.ref s.heap.objs.size,_,I.laid (t':=s.toks) (o:=.tup (List.replicate 6 xs).flatten) (λb ob q=>Vh _ q) (Vm _) ?_,rfl,q _ (I.hok.fresh (Vm _))⟩;exact⟨by rw[qf2];(have:(60:Nat)<=sizeLine:=by decide);omega,_,r1.rep 6,IsTup.new _ _⟩
end
section
noncomputable def rCat0(K:W.Frag):R2:=λx y H Q=> ∃a b ys,x= .ref a/\y= .ref b/\SqT K H a []/\SqT K H b ys/\Q (.ref b) H
theorem op_cat0:OpR X (binaryOp .Add) (rCat0 X.K):=by
 intro pins s σ H x y v u Q I rx ry h;obtain⟨a,b,ys,rfl,rfl,ha,hb,q⟩:=h;cases rx;cases ry;obtain⟨its,r1,p1,_⟩:=I.tuple ha;obtain⟨aS,r2,p2,_⟩:=I.tuple hb;cases r1;obtain⟨⟨cls,dd,data,sl⟩,ho,hc,n,hd⟩:=id p1;obtain⟨⟨iu,fX,data2,fE⟩,bJ,bw,n2,hd2⟩:=id p2;simp only at hc hd bw hd2;subst hc hd bw hd2
 exact concat_meets ⟨_,ho,rfl⟩ ⟨_,bJ,rfl⟩ noFill_tuple_add seq_tuple_add F.slot_tuple_add F.entry_tuple_add (F.args_tuple_add_2 _ _)
  (tuple_addW0 a b _ _ n n2 dd fX sl fE rfl) ⟨ho,bJ,⟨.ref b,H,I,rfl,q⟩⟩
end
end PL
namespace TM
open PySem Builtin
theorem mul_tuple5 (l:Addr) (items:Array Value) (n:Nat) (od:Option Addr) (sl:Array (Option Value)) (u:Tok) (hc0: ¬items.isEmpty=true) (hz:items.size<=10):
  Meets (Builtin.«tuple.__mul__» ⟨[.ref l,.int 5 u],[]⟩) (λ_ R s=>s.heap.get? l=some ⟨.type "tuple",od,.seq items n,sl⟩/\R (.ok (.ret (Value.ref s.heap.objs.size))) { s with heap:=s.heap.push { cls:=Value.type "tuple",data:=Data.seq (List.foldl (λx1 x2=>x1++x2) #[] (List.replicate 5 items)) },toks:=s.toks }):=
 .of_wp λprog w A R s h=>by
  obtain⟨hp,g,d,tk,os⟩:=s;obtain⟨hl,h⟩:=h;have hW: ¬((items.size:Int)*5>(2 ^ 63 - 1) / 8):=by omega
  wp_walk
  rw[if_neg hW];have bw:Tuple.tupleTooMany ((items.size:Int)*5)=false:=by
   unfold Tuple.tupleTooMany;have:(50:Nat)<sizeLine:=by decide
   simp only[decide_eq_false_iff_not];omega
  have hsz:(List.foldl (λx1 x2=>x1++x2) #[] (List.replicate 5 items)).size<=sizeLine:=by
   have:(50:Nat)<=sizeLine:=by decide
   simp only[List.replicate,List.foldl_cons,List.foldl_nil,Array.size_append,Array.size_empty,List.size_toArray,List.length_nil];omega
  simp only[bw]
  wp_walk
  refine wpAny_ite_false (Vw (Nat.not_lt.mpr hsz)) ?_
  wp_walk
  exact⟨_,rfl,h⟩
end TM
namespace PL
open PySem L2 SR SetL PySem.Spec PyProof.Rows
section
noncomputable def rRep5(K:W.Frag):R2:=λx y H Q=> ∃a xs,x= .ref a/\y= .int 5/\SqT K H a xs/\xs≠[]/\xs.length<=10/\∀p,H p=none->Q (.ref p) (upd H p (.tup (List.replicate 5 xs).flatten))
theorem qm8:OpR X (binaryOp .Mult) (rRep5 X.K):=by
 intro pins s σ H x y v u Q I rx ry h;obtain⟨a,xs,rfl,rfl,ha,hx,hz,q⟩:=h;cases rx;obtain⟨t,rfl⟩:=ry;obtain⟨its,r1,p1,_⟩:=I.tuple ha;obtain⟨⟨cl,od,da,sl⟩,e,cB,n,eZ⟩:=p1;dsimp only at cB eZ;subst cB eZ;have hl:=r1.length;have b7:List.foldl (λx1 x2=>x1++x2) #[] (List.replicate 5 its.toArray)=(List.replicate 5 its).flatten.toArray:=by simp[List.replicate]
 refine wpAny_binaryOp_repeat_ref (T:= "tuple") (U:= "int") (by decide) ⟨_,e,rfl⟩ (λs'=>typeIs_int s' 5 t) TM.noFill_tuple_mul F.fills_int_mul F.slot_int_rmul TM.repeat_tuple F.slot_int_index.lookup
  (Vy F.slot_int_rmul (typeIs_int s 5 t) F.entry_int_rmul (F.args_int_rmul_2 _ _) (TM.rmul_tuple 5 t a its.toArray n od sl)
   ⟨e,rfl,⟨_,e,rfl⟩,Vy F.slot_tuple_mul ⟨_,e,rfl⟩ F.entry_tuple_mul (F.args_tuple_mul_2 _ _) (TM.mul_tuple5 a its.toArray n od sl t (λz=>hx (r1.nil_iff.mp (by simpa using z))) (by rw[List.size_toArray,<-hl];exact hz)) ⟨e,?_⟩⟩)
 rw[b7];refine⟨.ref s.heap.objs.size,_,I.laid (t':=s.toks) (o:=.tup (List.replicate 5 xs).flatten) (λb ob q=>Vh _ q) (Vm _) ?_,rfl,q _ (I.hok.fresh (Vm _))⟩;exact⟨by rw[qf2];(have:(50:Nat)<=sizeLine:=by decide);omega,_,r1.rep 5,IsTup.new _ _⟩
theorem op_rep56:OpR X (binaryOp .Mult) (λx y H Q=>rRep5 X.K x y H Q\/rRep6 X.K x y H Q):=qm8.or qm7
end
end PL
namespace NV
open PySem L2
inductive Nv where
 |v (t:T)|t (ts:List T)|l (ts:List T)|d (kvs:List (Key×T))|p (k:Nat) (c:Ct) (t:T)
noncomputable def Mu.live(μ:Mu)(k:Nat):Bool:=match μ.l[k]? with
 |some .gone=>false
 |some _=>true
 |none=>false
theorem Mu.live_at{μ:Mu}{k:Nat}(h:μ.live k=true): ∃c,μ.l[k]? =some c/\c≠.gone:=by
 unfold Mu.live at h;split at h
 ·cases h
 ·rename_i c n e;exact⟨c,e,λz=>n z⟩
 ·cases h
noncomputable def nvR(ow:Bool):Option Nv->Mu->R T
 |some (.v t),μ=>.ok t μ
 |some (.t ts),μ=>.ok (.tup ts) μ
 |some (.l ts),μ=>if ow=true then .ok (.obj μ.l.length) (μ.add (.ls ts)) else .ok (.lst ts) μ
 |some (.d ts),μ=>if ow=true then .ok (.obj μ.l.length) (μ.add (.dk ts)) else .ok (.dct ts) μ
 |some (.p k c t),μ=>if μ.live k=true then .ok t (μ.put k c) else .no
 |none,_=>.no
noncomputable def KV(M:Md)(μ:Mu)(H:Hp)(B:qaj)(Q:VK):Nv->Prop
 |.v t=> ∀B' x,Hs M μ H B'->Go H B H B'->Rep M.K B' t x->Q x H
 |.t ts=> ∀B' p vs,Hs M μ H B'->Go H B H B'->H p=none->Reps M.K B' ts vs->Q (.ref p) (upd H p (.tup vs))
 |.l ts=> ∀B' p vs,Hs M μ H B'->Go H B H B'->H p=none->Reps M.K B' ts vs->Q (.ref p) (upd H p (.lst vs))
 |.d ts=> ∀B' p vs,Hs M μ H B'->Go H B H B'->H p=none->qba M.K B' ts vs->Q (.ref p) (upd H p (.dK vs))
 |.p k c t=>μ.live k=true/\∀B' a o x,Hs M μ H B'->Go H B H B'->B'.ad k=some a->qey M.K B' c o->Rep M.K B' t x->Q x (upd H a o)
section
variable {M:Md}{μ:Mu}{H:Hp}{B:qaj}{Q:VK}
theorem qhp{ow:Bool}{o:Option Nv}(c:Str)(m:Mu):nvR ow o μ≠.ex c m:=λe=>by unfold nvR at e;split at e<;>first|cases e|(split at e<;>cases e)
theorem qho{ow:Bool}{o:Option Nv}{t:T}{m:Mu}(e:nvR ow o μ= .ok t m)(k:KE M H B Q t m): ∃n,o=some n/\KV M μ H B Q n:=by
 unfold nvR at e;split at e
 ·cases e;exact⟨_,rfl,λB' x h g r=>k x H B' h g r⟩
 ·cases e;exact⟨_,rfl,λB' p vs h g hp r=>k _ _ _ (h.new hp (λps z=>by cases z)) (g.trans (h.gnew hp)) (qcQ qac (r.mono (h.upd_le (h.fr hp))))⟩
 ·refine⟨_,rfl,λB' p vs h g hp r=> ?_⟩;split at e
  ·cases e;have le:Le B' (B'.add μ.l.length p):=(h.gown (o:=.lst vs) hp).le;exact k _ _ _ (h.own (c:=.ls _) (o:=.lst vs) hp ⟨vs,rfl,r.mono le⟩).1 (g.trans (h.gown hp)) (qdw (by show(if μ.l.length=μ.l.length then some p else _)=_;rw[if_pos rfl]))
  ·cases e;exact k _ _ _ (h.new hp (λps z=>by cases z)) (g.trans (h.gnew hp)) (qcn qac (r.mono (h.upd_le (h.fr hp))))
 ·refine⟨_,rfl,λB' p vs h g hp r=> ?_⟩;split at e
  ·cases e;have le:Le B' (B'.add μ.l.length p):=(h.gown (o:=.dK vs) hp).le;exact k _ _ _ (h.own (c:=.dk _) (o:=.dK vs) hp ⟨vs,rfl,r.mono le⟩).1 (g.trans (h.gown hp)) (qdw (by show(if μ.l.length=μ.l.length then some p else _)=_;rw[if_pos rfl]))
  ·cases e;exact k _ _ _ (h.new hp (λps z=>by cases z)) (g.trans (h.gnew hp)) (qe0 qac (r.mono (h.upd_le (h.fr hp))))
 ·split at e
  ·rename_i hl;cases e;obtain⟨c0,e0,n0⟩:=Mu.live_at hl;exact⟨_,rfl,hl,λB' a o x h g ha hc r=>k x _ B' (h.put e0 n0 ha hc) (g.trans (qsM ha)) r⟩
  ·cases e
 ·cases e
end
noncomputable def OkO(M:Md)(r:R2)(g:Mu->T->T->Option Nv):Prop:= ∀(μ:Mu) (H:Hp) (B:qaj) (x y:V) (a b:T) (n:Nv) (Q:VK),Hs M μ H B->Rep M.K B a x->Rep M.K B b y->g μ a b=some n->KV M μ H B Q n->r x y H Q
noncomputable def OkN(M:Md)(r:List V->Hp->VK->Prop)(g:Mu->List T->Option Nv):Prop:= ∀(μ:Mu) (H:Hp) (B:qaj) (vs:List V) (ts:List T) (n:Nv) (Q:VK),Hs M μ H B->Reps M.K B ts vs->g μ ts=some n->KV M μ H B Q n->r vs H Q
theorem OkO.b{M:Md}{r:R2}{g:Mu->T->T->Option Nv}{ow:Bool}(h:OkO M r g):OkB M r (λa b μ=>nvR ow (g μ a b) μ):=
 ⟨λ_ _ _ c m=>qhp c m,λμ H B x y a b t aa Q hs ra rb e k=>by obtain⟨n,e',kv⟩:=qho e k;exact h μ H B x y a b n Q hs ra rb e' kv⟩
noncomputable def dr1(μ:Mu):T->T
 |.obj k=>(match μ.l[k]? with|some (.ls ts)=>.lst ts|some (.dk kvs)=>.dct kvs|_=>.obj k)
 |t=>t
noncomputable def dr2(μ:Mu)(t:T):T:=match dr1 μ t with
 |.lst ts=>.lst (ts.map (dr1 μ))
 |t=>t
open Classical in
noncomputable def qaj.all(B:qaj)(H:Hp)(μ:Mu):qaj:=⟨λa=>if ∃k c,B.ad k=some a/\μ.l[k]? =some c/\c≠.gone then H a else B a,B.ad⟩
section
open Classical
variable {M:Md}{μ:Mu}{H:Hp}{B:qaj}
theorem qdc(h:Hs M μ H B):Le B (B.all H μ)/\LeH (B.all H μ) H:=by
 refine⟨⟨λa o e=> ?_,λ_ _ e=>e⟩,λa o e=> ?_⟩
 ·show(if _ then H a else B a)=_;split
  ·exact h.bh a o e
  ·exact e
 ·have e:(if _ then H a else B a)=some o:=e;split at e
  ·exact e
  ·exact h.bh a o e
theorem qmd(h:Hs M μ H B){k:Nat}{c:Ct}{a:Addr}(e:μ.l[k]? =some c)(n:c≠.gone)(ha:B.ad k=some a): ∃o,(B.all H μ) a=some o/\qey M.K (B.all H μ) c o:=by obtain⟨o,_,ho,hc⟩:=h.at e n ha;refine⟨o,?_,hc.mono (qdc h).1⟩;show(if _ then H a else B a)=_;rw[if_pos ⟨k,c,ha,e,n⟩];exact ho
theorem qej(h:Hs M μ H B){t:T}{v:V}(r:Rep M.K B t v):Rep M.K (B.all H μ) (dr1 μ t) v:=by
 unfold dr1;split
 ·rename_i k;obtain⟨a,rfl,ea⟩:=qaz r;split
  ·rename_i ts el;obtain⟨o,e1,vs,rfl,rv⟩:=qmd h el (by simp) ea;exact qcn e1 rv
  ·rename_i ts el;obtain⟨o,e1,vs,rfl,rv⟩:=qmd h el (by simp) ea;exact qe0 e1 rv
  ·exact r.mono (qdc h).1
 ·exact r.mono (qdc h).1
theorem qjp(h:Hs M μ H B){t:T}{v:V}(r:Rep M.K B t v):Rep M.K (B.all H μ) (dr2 μ t) v:=by
 have many: ∀{ts:List T} {vs:List V},Reps M.K B ts vs->Reps M.K (B.all H μ) (ts.map (dr1 μ)) vs:=λ{ts vs} r=>
  .of_get (by rw[r.length,List.length_map]) λi t' v e1 e2=>by
   rw[List.getElem?_map] at e1;cases q:ts[i]? with
   |none=>rw[q] at e1;cases e1
   |some u=>rw[q] at e1;cases e1;obtain⟨v',ev,rv⟩:=r.get q;rw[e2] at ev;cases ev;exact qej h rv
 have r0:=qej h r;unfold dr2;split
 ·rename_i ts e;unfold dr1 at e;split at e
  ·rename_i k;obtain⟨a,rfl,ea⟩:=qaz r;split at e
   ·rename_i us el;cases e;obtain⟨o,_,ho,vs,rfl,rv⟩:=h.at el (by simp) ea;refine qcn (vs:=vs) ?_ (many rv);show(if _ then H a else B a)=_;rw[if_pos ⟨k,_,ea,el,by simp⟩];exact ho
   ·cases e
   ·cases e
  ·subst e;obtain⟨p,vs,rfl,hp,rv⟩:=qax r;exact qcn ((qdc h).1.h _ _ hp) (many rv)
 ·exact r0
theorem qbj(h:Hs M μ H B){t:T}{v:V}{b:Bool}{ts:List T}(e:sqv μ t=some (b,ts))(r:Rep M.K B t v): ∃p vs,v= .ref p/\Reps M.K B ts vs/\(if b=true then H p=some (.lst vs) else B p=some (.tup vs)/\H p=some (.tup vs)):=by
 unfold sqv at e;split at e
 ·cases e;obtain⟨p,vs,rfl,hp,rv⟩:=qax r;exact⟨p,vs,rfl,rv,by rw[if_pos rfl];exact h.bh _ _ hp⟩
 ·cases e;obtain⟨p,vs,rfl,hp,rv⟩:=qar r;exact⟨p,vs,rfl,rv,by rw[if_neg (by decide)];exact⟨hp,h.bh _ _ hp⟩⟩
 ·split at e
  ·rename_i k us el;cases e;obtain⟨a,rfl,ea⟩:=qaz r;obtain⟨o,_,ho,vs,rfl,rv⟩:=h.at el (by simp) ea;exact⟨a,vs,rfl,rv,by rw[if_pos rfl];exact ho⟩
  ·cases e
 ·cases e
end
noncomputable def qs0(μ:Mu)(a b:T):Option Nv:=match a,b with
 |.int i,.int j=>some (.v (.int (i+j)))
 |.str i,.str j=>if i.length+j.length<=100000 then some (.v (.str (i++j))) else none
 |a,b=>(match sqv μ a,sqv μ b with
  |some (true,xs),some (true,ys)=>if xs.length+ys.length<=1000 then some (.l (xs++ys)) else none
  |some (false,[]),some (false,ys)=>some (.v (.tup ys))
  |some (false,x::xs),some (false,[])=>if xs.length<=900 then some (.v (.tup (x::xs))) else none
  |some (false,x::xs),some (false,y::ys)=>if xs.length+ys.length<=900 then some (.t (x::xs++y::ys)) else none
  |_,_=>none)
noncomputable def gSub(_:Mu):T->T->Option Nv
 |.int i,.int j=>some (.v (.int (i - j)))
 |_,_=>none
noncomputable def qsT(μ:Mu)(a b:T):Option Nv:=match a,b with
 |.int i,.int j=>if(-4294967296<=i/\i<=4294967296)\/(-4294967296<=j/\j<=4294967296) then some (.v (.int (i*j))) else none
 |a,.int k=>(match sqv μ a with
  |some (true,xs)=>if(0<=k/\k<=100)/\xs.length<=10 then some (.l (List.replicate k.toNat xs).flatten) else none
  |some (false,x::xs)=>if xs.length<=9/\(k=5\/k=6) then some (.t (List.replicate k.toNat (x::xs)).flatten) else none
  |_=>none)
 |_,_=>none
noncomputable def qsX(_:Mu):T->T->Option Nv
 |.int i,.int j=>if 0<j/\j<1073741824 then some (.v (.int (i / j))) else none
 |_,_=>none
noncomputable def qsU(_:Mu):T->T->Option Nv
 |.int i,.int j=>if 0<j then some (.v (.int (i % j))) else none
 |_,_=>none
noncomputable def qvm(_:Mu):T->T->Option Nv
 |.int i,.int j=>if(0<=j/\j<=100)/\ -1000<=i/\i<=1000 then some (.v (.int (i ^ j.toNat))) else none
 |_,_=>none
theorem OpR.or{X:Cx}{f:Value->Value->Sem Value}{r r':R2}(h:OpR X f r)(h':OpR X f r'):OpR X f (λx y H Q=>r x y H Q\/r' x y H Q):=λpins s σ H x y v u Q I rx ry q=>q.elim (h pins s σ H x y v u Q I rx ry) (h' pins s σ H x y v u Q I rx ry)
section
variable {M:Md}{X:Cx}
theorem qcx{K:W.Frag}{B:qaj}{ts:List T}{vs:List V}(r:Reps K B ts vs): ∀k:Nat,Reps K B (List.replicate k ts).flatten (List.replicate k vs).flatten
 |0=>.nil
 |k+1=>by rw[List.replicate_succ,List.replicate_succ,List.flatten_cons,List.flatten_cons];exact r.append (qcx r k)
noncomputable def rAdd(K:W.Frag):R2:=λx y H Q=>(rI0 (λi j=>.int (i+j)) x y H Q\/(∃i j,x= .str i/\y= .str j/\i.length+j.length<=sizeLine/\Q (.str (i++j)) H))\/(qt2 x y H Q\/(PL.rCat0 K x y H Q\/qo5 K x y H Q))
theorem qne:OpR X (binaryOp .Add) (rAdd X.K):=OpR.or (OpR.or qpE qhn) (OpR.or qiD (OpR.or PL.op_cat0 qnd))
theorem qpN(hK:X.K=M.K):OkO M (rAdd X.K) qs0:=by
 intro μ H B x y a b n Q h ra rb e k;rw[hK];unfold qs0 at e;split at e
 ·cases e;rw[qae ra,qae rb];exact .inl (.inl ⟨_,_,rfl,rfl,k B _ h .refl qaR⟩)
 ·split at e
  ·rename_i hz;cases e;have l0:100000<=sizeLine:=by decide
   rw[qaw ra,qaw rb];exact .inl (.inr ⟨_,_,rfl,rfl,by omega,k B _ h .refl qcm⟩)
  ·cases e
 ·have l0:1000<=sizeLine:=by decide
  split at e
  ·rename_i xs ys e1 e2;split at e
   ·rename_i hz;cases e;obtain⟨p,vs,rfl,r1,h1⟩:=qbj h e1 ra;obtain⟨q,ws,rfl,r2,h2⟩:=qbj h e2 rb;rw[if_pos rfl] at h1 h2;exact .inr (.inl ⟨p,q,vs,ws,rfl,rfl,h1,h2,by rw[r1.length,r2.length];omega,λd hd=>k B d _ h .refl hd (r1.append r2)⟩)
   ·cases e
  ·rename_i ys e1 e2;cases e;obtain⟨p,vs,rfl,r1,h1⟩:=qbj h e1 ra;obtain⟨q,ws,rfl,r2,h2⟩:=qbj h e2 rb;rw[if_neg (by decide)] at h1 h2;cases r1.inv0;exact .inr (.inr (.inl ⟨p,q,ws,rfl,rfl,SqT.of h1.2,SqT.of h2.2,k B _ h .refl (qcQ h2.1 r2)⟩))
  ·rename_i x xs e1 e2;split at e
   ·rename_i hz;cases e;obtain⟨p,vs,rfl,r1,h1⟩:=qbj h e1 ra;obtain⟨q,ws,rfl,r2,h2⟩:=qbj h e2 rb;rw[if_neg (by decide)] at h1 h2;cases r2.inv0;have l1:=r1.length;rw[List.length_cons] at l1;exact .inr (.inr (.inr ⟨p,q,vs,[],rfl,rfl,SqT.of h1.2,SqT.of h2.2,(λz=>by rw[z] at l1;cases l1),by simp;omega,(λ_=>k B _ h .refl (qcQ h1.1 r1)),λz=>absurd rfl z⟩))
   ·cases e
  ·rename_i x xs y ys e1 e2;split at e
   ·rename_i hz;cases e;obtain⟨p,vs,rfl,r1,h1⟩:=qbj h e1 ra;obtain⟨q,ws,rfl,r2,h2⟩:=qbj h e2 rb;rw[if_neg (by decide)] at h1 h2;have l1:=r1.length;have l2:=r2.length;rw[List.length_cons] at l1 l2;exact .inr (.inr (.inr ⟨p,q,vs,ws,rfl,rfl,SqT.of h1.2,SqT.of h2.2,(λz=>by rw[z] at l1;cases l1),by omega,(λz=>by rw[z] at l2;cases l2),λ_ d hd=>k B d _ h .refl hd (r1.append r2)⟩))
   ·cases e
  ·cases e
theorem qpF:OkO M (rI0 λi j=>.int (i - j)) gSub:=by
 intro μ H B x y a b n Q h ra rb e k;unfold gSub at e;split at e
 ·cases e;exact⟨_,_,qae ra,qae rb,k B _ h .refl qaR⟩
 ·cases e
noncomputable def qtT(K:W.Frag):R2:=λx y H Q=>rI qrr (λi j=>.int (i*j)) x y H Q\/(qtS x y H Q\/(PL.rRep5 K x y H Q\/PL.rRep6 K x y H Q))
theorem qna:OpR X (binaryOp .Mult) (qtT X.K):=OpR.or qpx (OpR.or qpv PL.op_rep56)
theorem qpH(hK:X.K=M.K):OkO M (qtT X.K) qsT:=by
 intro μ H B x y a b n Q h ra rb e k;rw[hK];have l0:1000<=sizeLine:=by decide
 unfold qsT at e;split at e
 ·split at e
  ·rename_i hz;cases e;refine .inl ⟨_,_,qae ra,qae rb,?_,k B _ h .refl qaR⟩
   rcases hz with hz|hz
   ·exact .inl ⟨by lia,by lia⟩
   ·exact .inr ⟨by lia,by lia⟩
  ·cases e
 ·split at e
  ·rename_i j _ _ xs e1;split at e
   ·rename_i hz;cases e;obtain⟨p,vs,rfl,r1,h1⟩:=qbj h e1 ra;rw[if_pos rfl] at h1;have l1:vs.length*j.toNat<=10*100:=Nat.mul_le_mul (by rw[r1.length];exact hz.2) (by omega);exact .inr (.inl ⟨p,_,vs,rfl,qae rb,h1,by omega,by omega,by omega,λd hd=>k B d _ h .refl hd (qcx r1 _)⟩)
   ·cases e
  ·rename_i x xs e1;split at e
   ·rename_i hz;cases e;obtain⟨p,vs,rfl,r1,h1⟩:=qbj h e1 ra;rw[if_neg (by decide)] at h1;have l1:=r1.length;rw[List.length_cons] at l1;have nv:vs≠[]:=λz=>by rw[z] at l1;cases l1
    rcases hz.2 with rfl|rfl
    ·exact .inr (.inr (.inl ⟨p,vs,rfl,qae rb,SqT.of h1.2,nv,by omega,λd hd=>k B d _ h .refl hd (qcx r1 5)⟩))
    ·exact .inr (.inr (.inr ⟨p,vs,rfl,qae rb,SqT.of h1.2,nv,by omega,λd hd=>k B d _ h .refl hd (qcx r1 6)⟩))
   ·cases e
  ·cases e
 ·cases e
theorem qpM:OkO M (rI quv λi j=>.int (i / j)) qsX:=by
 intro μ H B x y a b n Q h ra rb e k;unfold qsX at e;split at e
 ·split at e
  ·rename_i hz;cases e;exact⟨_,_,qae ra,qae rb,hz,k B _ h .refl qaR⟩
  ·cases e
 ·cases e
theorem qpI:OkO M (rI (λ_ j=>0<j) λi j=>.int (i % j)) qsU:=by
 intro μ H B x y a b n Q h ra rb e k;unfold qsU at e;split at e
 ·split at e
  ·rename_i hz;cases e;exact⟨_,_,qae ra,qae rb,hz,k B _ h .refl qaR⟩
  ·cases e
 ·cases e
end
noncomputable def qj8(x y:Str):Bool:=decide (x.cps.toList<y.cps.toList)
noncomputable def gLt(_:Mu):T->T->Option Nv
 |.int i,.int j=>some (.v (.bl (decide (i<j))))
 |.str i,.str j=>some (.v (.bl (qj8 i j)))
 |_,_=>none
noncomputable def gLe(_:Mu):T->T->Option Nv
 |.int i,.int j=>some (.v (.bl (decide (i<=j))))
 |.str i,.str j=>some (.v (.bl (!qj8 j i)))
 |_,_=>none
noncomputable def gGt(_:Mu):T->T->Option Nv
 |.int i,.int j=>some (.v (.bl (decide (j<i))))
 |_,_=>none
noncomputable def gGe(_:Mu):T->T->Option Nv
 |.int i,.int j=>some (.v (.bl (decide (j<=i))))
 |_,_=>none
noncomputable def qrl(neg:Bool)(μ:Mu)(a b:T):Option Nv:=
 if okT 8 (dr1 μ a)=true/\okT 8 (dr1 μ b)=true then some (.v (.bl (if neg then !eqT (dr1 μ a) (dr1 μ b) else eqT (dr1 μ a) (dr1 μ b))))
 else if okT 8 (dr2 μ a)=true/\okT 8 (dr2 μ b)=true then some (.v (.bl (if neg then !eqT (dr2 μ a) (dr2 μ b) else eqT (dr2 μ a) (dr2 μ b)))) else(match neg,a,b with
  |false,.scr ns,.lst []=>some (.v (.bl ns.isEmpty))
  |_,_,_=>none)
noncomputable def qnx:T->Option Bool
 |.non=>some true
 |_=>some false
noncomputable def gIs(neg:Bool)(_:Mu):T->T->Option Nv
 |.bl i,.bl j=>some (.v (.bl (if neg then i != j else i==j)))
 |t,.non=>(qnx t).map λb=>.v (.bl (if neg then !b else b))
 |_,_=>none
section
variable {M:Md}{X:Cx}
theorem qpz:OpR X (compareOp .Lt) (λx y H Q=>rI0 (λi j=>.bl (decide (i<j))) x y H Q\/∃i j,x= .str i/\y= .str j/\Q (.bl (decide (i.cps.toList<j.cps.toList))) H):=OpR.or qsl qiB
theorem qpA:OpR X (compareOp .LtE) (λx y H Q=>rI0 (λi j=>.bl (decide (i<=j))) x y H Q\/∃i j,x= .str i/\y= .str j/\Q (.bl (!decide (j.cps.toList<i.cps.toList))) H):=OpR.or qsm qiC
theorem qsp:OkO M (λx y H Q=>rI0 (λi j=>.bl (decide (i<j))) x y H Q\/∃i j,x= .str i/\y= .str j/\Q (.bl (decide (i.cps.toList<j.cps.toList))) H) gLt:=by
 intro μ H B x y a b n Q h ra rb e k;unfold gLt at e;split at e
 ·cases e;exact .inl ⟨_,_,qae ra,qae rb,k B _ h .refl qa8⟩
 ·cases e;exact .inr ⟨_,_,qaw ra,qaw rb,k B _ h .refl qa8⟩
 ·cases e
theorem qsq:OkO M (λx y H Q=>rI0 (λi j=>.bl (decide (i<=j))) x y H Q\/∃i j,x= .str i/\y= .str j/\Q (.bl (!decide (j.cps.toList<i.cps.toList))) H) gLe:=by
 intro μ H B x y a b n Q h ra rb e k;unfold gLe at e;split at e
 ·cases e;exact .inl ⟨_,_,qae ra,qae rb,k B _ h .refl qa8⟩
 ·cases e;exact .inr ⟨_,_,qaw ra,qaw rb,k B _ h .refl qa8⟩
 ·cases e
theorem qsr:OkO M (rI0 λi j=>.bl (decide (j<i))) gGt:=by
 intro μ H B x y a b n Q h ra rb e k;unfold gGt at e;split at e
 ·cases e;exact⟨_,_,qae ra,qae rb,k B _ h .refl qa8⟩
 ·cases e
theorem qss:OkO M (rI0 λi j=>.bl (decide (j<=i))) gGe:=by
 intro μ H B x y a b n Q h ra rb e k;unfold gGe at e;split at e
 ·cases e;exact⟨_,_,qae ra,qae rb,k B _ h .refl qa8⟩
 ·cases e
noncomputable def qr0(K:W.Frag)(neg:Bool):R2:=λx y H Q=>(∃B t u,LeH B H/\Rep K B t x/\Rep K B u y/\okT 8 t=true/\okT 8 u=true/\Q (.bl (if neg then !eqT t u else eqT t u)) H)\/(neg=false/\∃(a b:Addr) (ns:List Int),x= .ref a/\y= .ref b/\SqL K H a (ns.map V.int)/\SqL K H b []/\Q (.bl ns.isEmpty) H)
theorem qpD(hu:X.A.units+8<cLine):OpR X (compareOp .Eq) (qr0 X.K false):=by
 intro pins s σ H x y v u Q I rx ry q
 rcases q with⟨B,t,u',le,ra,rb,o1,o2,q⟩|⟨_,a,b,ns,rfl,rfl,h1,h2,q⟩
 ·exact(qik I le 8 8 X.A t u' x y v u o1 o2 hu ra rb rx ry).2.1 _ _ _ _ ⟨.bl _,H,I,rfl,q⟩
 ·refine qfU (by omega) pins s σ H _ _ v u Q I rx ry ⟨a,b,_,_,rfl,rfl,h1,h2,?_⟩;cases ns with
  |nil=>exact .inr ⟨rfl,λ_=>true,λi x y hx=>by simp at hx,q⟩
  |cons n ns=>exact .inl ⟨by simp,q⟩
theorem qpw(hu:X.A.units+8<cLine):OpR X (compareOp .NotEq) (qr0 X.K true):=by
 intro pins s σ H x y v u Q I rx ry q
 rcases q with⟨B,t,u',le,ra,rb,o1,o2,q⟩|⟨e,_⟩
 ·exact(qik I le 8 8 X.A t u' x y v u o1 o2 hu ra rb rx ry).2.2 _ _ _ _ ⟨.bl _,H,I,rfl,q⟩
 ·cases e
theorem qpL{neg:Bool}(hK:X.K=M.K):OkO M (qr0 X.K neg) (qrl neg):=by
 intro μ H B x y a b n Q h ra rb e k;rw[hK];have le:=(qdc h).2;unfold qrl at e;split at e
 ·rename_i o;cases e;exact .inl ⟨_,_,_,le,qej h ra,qej h rb,o.1,o.2,k B _ h .refl qa8⟩
 ·split at e
  ·rename_i o;cases e;exact .inl ⟨_,_,_,le,qjp h ra,qjp h rb,o.1,o.2,k B _ h .refl qa8⟩
  ·split at e
   ·cases e;obtain⟨p,vs,rfl,r1,r2⟩:=qax rb;cases r2.inv0;unfold Rep at ra;obtain⟨q,rfl,r3⟩:=ra;exact .inr ⟨rfl,_,_,_,rfl,rfl,qig (λa o e=>le _ _ ((qdc h).1.h a o e)) r3,SqL.of (le _ _ ((qdc h).1.h _ _ r1)),k B _ h .refl qa8⟩
   ·cases e
theorem qi3{K:W.Frag}{B:qaj}{t:T}{v:V}{c:Bool}(r:Rep K B t v)(e:qnx t=some c):decide (v= .non)=c:=by
 cases t with
 |non=>cases e;rw[qcJ r];rfl
 |bl _=>cases e;rw[qbO r];rfl
 |int _=>cases e;rw[qae r];rfl
 |str _=>cases e;rw[qaw r];rfl
 |tup _=>cases e;obtain⟨_,_,rfl,_⟩:=qar r;rfl
 |lst _=>cases e;obtain⟨_,_,rfl,_⟩:=qax r;rfl
 |dct _=>cases e;obtain⟨_,_,rfl,_⟩:=qfO r;rfl
 |obj _=>cases e;obtain⟨_,rfl,_⟩:=qaz r;rfl
 |exc _=>cases e;obtain⟨_,rfl,_⟩:=qmH r;rfl
 |fn _|scr _=>cases e;unfold Rep at r;obtain⟨_,rfl,_⟩:=r;rfl
theorem qnb:OpR X (compareOp .Is) (λx y H Q=>(y= .non/\Q (.bl (decide (x= .non))) H)\/∃c d,x= .bl c/\y= .bl d/\Q (.bl (c==d)) H):=OpR.or qpB qkv
theorem qhm:OpR X (compareOp .IsNot) (λx y H Q=>(y= .non/\Q (.bl (!decide (x= .non))) H)\/∃c d,x= .bl c/\y= .bl d/\Q (.bl (c != d)) H):=OpR.or qm9 qfT
theorem qpJ{neg:Bool}:OkO M (λx y H Q=>(y= .non/\Q (.bl (if neg then !decide (x= .non) else decide (x= .non))) H)\/∃c d,x= .bl c/\y= .bl d/\Q (.bl (if neg then c != d else c==d)) H) (gIs neg):=by
 intro μ H B x y a b n Q h ra rb e k;unfold gIs at e;split at e
 ·cases e;exact .inr ⟨_,_,qbO ra,qbO rb,k B _ h .refl qa8⟩
 ·cases q:qnx a with
  |none=>rw[q] at e;cases e
  |some c=>rw[q] at e;cases e;rw[qi3 ra q];exact .inl ⟨qcJ rb,k B _ h .refl qa8⟩
 ·cases e
end
end NV
namespace PL
open PySem L2 SR SetL
theorem boot_any':bootBuiltins "any" =some (.builtin "any"):=by decide+kernel
end PL
namespace SetL
open PySem
noncomputable def its(mask:Nat):Nat->Nat×Nat->Nat×Nat
 |0,x=>x
 |t+1,x=>its mask t (SetTable.leap mask x.1 x.2)
end SetL
namespace PL
open PySem L2 SR SetL
end PL
namespace PySem
end PySem
namespace PL
open PySem L2 SR SetL
end PL
namespace PL
open PySem L2
end PL
namespace HT
open PySem PySem.Spec PyProof.Rows L2
theorem getItem_tuple_all{prog:Program}{w:World}{A:Around}{E:Value->Shared->Prop}{s:Shared}{t sl:Addr}{items:Array Value}{vl vu:Value}{lo hi:Option Int}{Q:Value->Shared->Prop}(ht:IsTup s.heap t items)(hs:s.heap.IsSliceOf sl vl vu .none)(pl:IsPart vl lo)(pu:IsPart vu hi)(hw:sIx items.size 0 lo=0/\sIx items.size items.size hi=items.size)(h:Q (.ref t) s):wpAny (model prog w) A (getItem (.ref t) (.ref sl)) Q E s:=by
 obtain⟨os,dD,fQ,eX⟩:=id hs;have ic:s.TypeIs (.ref sl) "slice" :=⟨os,dD,fQ⟩
 unfold getItem
 try with_reducible refine wpAny_holding ?_
 first|refine Va (Vb ?_)|skip
 refine Va (wpAny_sequenceKey ht.typeIs (by decide) ?_)
 refine Va (wpAny_callSpecial?_slot (name:=Str.ofString "__getitem__") ht.typeIs PyProof.Rows.slot_tuple_getitem
  (wpAny_call_entry PyProof.Rows.slot_tuple_getitem ht.typeIs entry_tuple_getitem ?_ (args_tuple_getitem _ _)))
 show wpAny _ _ (Builtin.Tuple.tupleItemsOf (.ref t)>>=_) _ _ s;refine Va (tupleItemsOf_ ht ?_);refine Va (wpAny_typeOf ic ?_);rw[if_pos (by decide)];refine Va (qbk hs pl pu ?_);show wpAny _ _ (if(((sIx items.size 0 lo:Nat):Int)==0&&(1:Int)==1&&(sIx items.size items.size hi - sIx items.size 0 lo)==items.size)=true then _ else _) _ _ s;rw[if_pos (by rw[hw.1,hw.2];simp)];unfold Builtin.Tuple.tupleIsExact;refine Va (Va (wpAny_typeOf ht.typeIs (Vb ?_)));rw[if_pos (by decide)];refine Va (wpAny_rule ?_);exact Vb ⟨_,rfl,Vb h⟩
end HT
namespace L2
open PySem PySem.Spec PyProof.Rows
theorem qmE:SlR X (λx lo hi H Q=> ∃a xs,x= .ref a/\SqT X.K H a xs/\(HT.sIx xs.length 0 lo=0/\HT.sIx xs.length xs.length hi=xs.length)/\Q (.ref a) H):=by
 intro pins s σ H x v vl vu lo hi sl Q I rx hs pl pu h;obtain⟨a,xs,rfl,hx,hw,q⟩:=h;cases rx;obtain⟨its,r,ht,hz⟩:=I.tuple hx;have hlen:its.toArray.size=xs.length:=by rw[List.size_toArray];exact r.length.symm
 exact⟨"tuple",_,PyProof.Rows.slot_tuple_getitem.lookup,ht.typeIs,HT.getItem_tuple_all ht hs pl pu (by rw[hlen];exact hw) ⟨.ref a,H,I,rfl,q⟩⟩
end L2
namespace PL
open PySem L2
end PL
namespace NV
open PySem L2
noncomputable def rB(M:Md)(g:Mu->T->T->Option Nv):R2:=λx y H Q=> ∃μ B a b n,Hs M μ H B/\Rep M.K B a x/\Rep M.K B b y/\g μ a b=some n/\KV M μ H B Q n
noncomputable def rN(M:Md)(g:Mu->List T->Option Nv):List V->Hp->VK->Prop:=λvs H Q=> ∃μ B ts n,Hs M μ H B/\Reps M.K B ts vs/\g μ ts=some n/\KV M μ H B Q n
theorem OpR.weak{X:Cx}{f:Value->Value->Sem Value}{r r':R2}(h:OpR X f r)(w: ∀x y H Q,r' x y H Q->r x y H Q):OpR X f r':=λpins s σ H x y v u Q I rx ry q=>h pins s σ H x y v u Q I rx ry (w _ _ _ _ q)
theorem qaC.weak{X:Cx}{f:Value}{r r':List V->Hp->VK->Prop}(h:qaC X f r)(w: ∀xs H Q,r' xs H Q->r xs H Q):qaC X f r':=λpins s σ H xs us Q I r q=>h pins s σ H xs us Q I r (w _ _ _ q)
theorem IxR.weak{X:Cx}{r r':R2}(h:IxR X r)(w: ∀x y H Q,r' x y H Q->r x y H Q):IxR X r':=λvalue slice pins s σ H x y v u Q I rx ry q hs=>h value slice pins s σ H x y v u Q I rx ry (w _ _ _ _ q) hs
theorem OpR.ok{M:Md}{X:Cx}{f:Value->Value->Sem Value}{r:R2}{g:Mu->T->T->Option Nv}(h:OpR X f r)(o:OkO M r g):OpR X f (rB M g):=OpR.weak h λ_ _ _ Q ⟨_,_,_,_,_,hs,ra,rb,e,k⟩=>o _ _ _ _ _ _ _ _ Q hs ra rb e k
theorem qaC.ok{M:Md}{X:Cx}{f:Value}{r:List V->Hp->VK->Prop}{g:Mu->List T->Option Nv}(h:qaC X f r)(o:OkN M r g):qaC X f (rN M g):=qaC.weak h λ_ _ Q ⟨_,_,_,_,hs,ra,e,k⟩=>o _ _ _ _ _ _ Q hs ra e k
theorem qkd{K:W.Frag}{B:qaj}{ts:List T}{vs:List V}(r:Reps K B ts vs){i:Int}{t:T}(h:atI ts i=some t): ∃v,atI vs i=some v/\Rep K B t v:=by
 unfold atI at h⊢;rw[r.length];cases e:ixN ts.length i with
 |none=>rw[e] at h;cases h
 |some j=>rw[e] at h;exact r.get h
noncomputable def dkv(μ:Mu):T->Option (List (Key×T))
 |.dct kvs=>some kvs
 |.obj k=>(match μ.l[k]? with|some (.dk kvs)=>some kvs|_=>none)
 |_=>none
noncomputable def duv(μ:Mu):T->Option (List (List Key×T))
 |.obj k=>(match μ.l[k]? with|some (.du kvs)=>some kvs|_=>none)
 |_=>none
noncomputable def qhD:T->Option Key
 |.int i=>some (.inl i)
 |.str s=>some (.inr s)
 |_=>none
noncomputable def qe7:List T->Option (List Key)
 |[]=>some []
 |t::ts=>(qhD t).bind λk=>(qe7 ts).map (k:: ·)
noncomputable def qrh:T->Option (List Key)
 |.tup ts=>qe7 ts
 |_=>none
noncomputable def qor{κ:Type}[DecidableEq κ](kvs:List (κ×T))(k:κ):Option T:=(kvs.find? λkv=>decide (kv.1=k)).map (·.2)
theorem qcy{K:W.Frag}{B:qaj}{κ:Type}[DecidableEq κ](k:κ): ∀{ts:List (κ×T)} {vs:List (κ×V)},qba K B ts vs->(∀t,qor ts k=some t->∃v,qfF vs k=some v/\Rep K B t v)/\(qor ts k=none->qfF vs k=none)
 |[],vs,r=>by have r:vs=[]:=r;rw[r];exact⟨(λt e=>by cases e),λ_=>rfl⟩
 |(k',t)::ts,_,⟨v,r,e,a,b⟩=>by
  have ih:=qcy k b;subst e;unfold qor qfF;rw[List.find?_cons,List.find?_cons];by_cases c:k'=k
  ·rw[decide_eq_true c];exact⟨λu e=>by cases e;exact⟨v,rfl,a⟩,λe=>by cases e⟩
  ·rw[decide_eq_false c];exact ih
theorem qee{K:W.Frag}{B:qaj}{t:T}{k:Key}{v:V}(h:qhD t=some k)(r:Rep K B t v):v=kV k:=by
 cases t with
 |int i=>cases h;exact qae r
 |str s=>cases h;exact qaw r
 |_=>cases h
theorem qgS{K:W.Frag}{B:qaj}: ∀{ts:List T} {ks:List Key} {vs:List V},qe7 ts=some ks->Reps K B ts vs->vs=ks.map kV
 |[],ks,vs,h,r=>by cases h;exact r.inv0
 |t::ts,ks,vs,h,r=>by
  obtain⟨v,cC,rfl,a,b⟩:=r.inv;unfold qe7 at h;cases e:qhD t with
  |none=>rw[e] at h;cases h
  |some k=>
   cases e2:qe7 ts with
   |none=>rw[e,e2] at h;cases h
   |some ks'=>rw[e,e2] at h;cases h;rw[qee e a,qgS e2 b];rfl
section
variable {M:Md}{μ:Mu}{H:Hp}{B:qaj}
theorem qfl(h:Hs M μ H B){t:T}{v:V}{kvs:List (Key×T)}(e:dkv μ t=some kvs)(r:Rep M.K B t v): ∃p us,v= .ref p/\H p=some (.dK us)/\qba M.K B kvs us:=by
 unfold dkv at e;split at e
 ·cases e;obtain⟨p,us,rfl,hp,ru⟩:=qfO r;exact⟨p,us,rfl,h.bh _ _ hp,ru⟩
 ·rename_i k;split at e
  ·rename_i gu el;cases e;obtain⟨a,rfl,ea⟩:=qaz r;obtain⟨o,_,ho,us,rfl,ru⟩:=h.at el (by simp) ea;exact⟨a,us,rfl,ho,ru⟩
  ·cases e
 ·cases e
theorem qjn(h:Hs M μ H B){t:T}{v:V}{kvs:List (List Key×T)}(e:duv μ t=some kvs)(r:Rep M.K B t v): ∃p us,v= .ref p/\H p=some (.dT us)/\qba M.K B kvs us:=by
 unfold duv at e;split at e
 ·rename_i k;split at e
  ·rename_i gu el;cases e;obtain⟨a,rfl,ea⟩:=qaz r;obtain⟨o,_,ho,us,rfl,ru⟩:=h.at el (by simp) ea;exact⟨a,us,rfl,ho,ru⟩
  ·cases e
 ·cases e
theorem qf3(h:Hs M μ H B){t:T}{v:V}{ks:List Key}(e:qrh t=some ks)(r:Rep M.K B t v): ∃b,v= .ref b/\H b=some (.tup (ks.map kV)):=by
 cases t with
 |tup ts=>obtain⟨p,vs,rfl,hp,rv⟩:=qar r;rw[qgS e rv] at hp;exact⟨p,rfl,h.bh _ _ hp⟩
 |_=>cases e
noncomputable def qqQ(μ:Mu)(d y:T):Option (Option T):=match dkv μ d,qhD y with
 |some kvs,some k=>some (qor kvs k)
 |_,_=>(match duv μ d,qrh y with
  |some kvs,some k=>some (qor kvs k)
  |_,_=>none)
theorem qjy(h:Hs M μ H B){d y:T}{x u:V}{o:Option T}(e:qqQ μ d y=some o)(r:Rep M.K B d x)(ry:Rep M.K B y u): ∃a ov,x= .ref a/\IsD H a/\qjS H a u ov/\(∀t,o=some t->∃v,ov=some v/\Rep M.K B t v)/\(o=none->ov=none):=by
 unfold qqQ at e;split at e
 ·rename_i kvs k e1 e2;cases e;obtain⟨p,us,rfl,hp,ru⟩:=qfl h e1 r;have:=qcy k ru;exact⟨p,_,rfl,.inl ⟨us,.of hp⟩,.inl ⟨us,k,.of hp,qee e2 ry,rfl⟩,this.1,this.2⟩
 ·split at e
  ·rename_i kvs k e1 e2;cases e;obtain⟨p,us,rfl,hp,ru⟩:=qjn h e1 r;obtain⟨b,rfl,hb⟩:=qf3 h e2 ry;have:=qcy k ru;exact⟨p,_,rfl,.inr ⟨us,.of hp⟩,.inr ⟨us,k,b,.of hp,rfl,hb,rfl⟩,this.1,this.2⟩
  ·cases e
end
noncomputable def qhT(μ:Mu):T->Option (Bool×List T)
 |.scr ns=>some (true,ns.map .int)
 |t=>sqv μ t
noncomputable def gDG(μ:Mu)(a b:T):Option Nv:=(qqQ μ a b).bind λo=>o.map .v
noncomputable def gIx(μ:Mu)(a b:T):Option Nv:=match b with
 |.int i=>(match a with
  |.str z=>if z.length<=1000 then(atI z.cps.toList i).map λc=>.v (.str ⟨#[c]⟩) else none
  |a=>(match qhT μ a with
   |some q=>(atI q.2 i).map .v
   |none=>gDG μ a (.int i)))
 |b=>gDG μ a b
section
variable {M:Md}{X:Cx}{μ:Mu}{H:Hp}{B:qaj}
open PySem.Spec PyProof.Rows in
theorem qnw(hu:X.A.units+1<cLine):IxR X (λx y H Q=> ∃a v,x= .ref a/\qjS H a y (some v)/\Q v H):=by intro value slice pins s σ H x y v u Q I rx ry h hs;obtain⟨a,z,rfl,g,q⟩:=h;cases rx;exact tail_any (qgg I g) F.slot_dict_getitem.lookup (qjx hu I g ry λw' s3 I3 aw=>⟨z,H,I3,aw,q⟩) hs
theorem qgD{K:W.Frag}{B:qaj}: ∀ns:List Int,Reps K B (ns.map T.int) (ns.map V.int)
 |[]=>.nil
 |_::ns=>.cons qaR (qgD ns)
theorem qfL(h:Hs M μ H B){t:T}{v:V}{b:Bool}{ts:List T}(e:qhT μ t=some (b,ts))(r:Rep M.K B t v): ∃p vs,v= .ref p/\Reps M.K B ts vs/\(if b=true then SqL M.K H p vs else SqT M.K H p vs):=by
 unfold qhT at e;split at e
 ·cases e;unfold Rep at r;obtain⟨p,rfl,q⟩:=r;exact⟨p,_,rfl,qgD _,by rw[if_pos rfl];exact qig h.bh q⟩
 ·obtain⟨p,vs,rfl,rv,q⟩:=qbj h e r;refine⟨p,vs,rfl,rv,?_⟩;cases b with
  |true=>rw[if_pos rfl] at q⊢;exact SqL.of q
  |false=>rw[if_neg (by decide)] at q⊢;exact SqT.of q.2
theorem qdZ(h:Hs M μ H B){t:T}{v:V}{b:Bool}{ts:List T}(e:qhT μ t=some (b,ts))(r:Rep M.K B t v): ∃p vs,v= .ref p/\Reps M.K B ts vs/\(SqL M.K H p vs\/SqT M.K H p vs):=by
 obtain⟨p,vs,rfl,rv,q⟩:=qfL h e r;refine⟨p,vs,rfl,rv,?_⟩;split at q
 ·exact .inl q
 ·exact .inr q
theorem qu2(hu:X.A.units+1<cLine)(hK:X.K=M.K):IxR X (rB M gIx):=IxR.weak (IxR.or qp2 (qnw hu)) λx y H Q ⟨μ,B,a,b,n,h,ra,rb,e,k⟩=>by
 rw[hK];have dg:gDG μ a b=some n->(rIx M.K x y H Q\/∃a v,x= .ref a/\qjS H a y (some v)/\Q v H):=λe=>by
  unfold gDG at e;cases q:qqQ μ a b with
  |none=>rw[q] at e;cases e
  |some o=>
   cases o with
   |none=>rw[q] at e;cases e
   |some t=>rw[q] at e;cases e;obtain⟨p,ov,rfl,_,g,h1,_⟩:=qjy h q ra rb;obtain⟨v,rfl,rv⟩:=h1 t rfl;exact .inr ⟨p,v,rfl,g,k B v h .refl rv⟩
 cases b with
 |int i=>
  have sq:(match qhT μ a with|some q=>(atI q.2 i).map Nv.v|none=>gDG μ a (.int i))=some n->(rIx M.K x y H Q\/∃a v,x= .ref a/\qjS H a y (some v)/\Q v H):=λe=>by
   cases es:qhT μ a with
   |none=>rw[es] at e;exact dg e
   |some p=>
    obtain⟨bb,ts⟩:=p;rw[es] at e;have e:(atI ts i).map Nv.v=some n:=e;cases q:atI ts i with
    |none=>rw[q] at e;cases e
    |some t=>
     rw[q] at e;cases e;obtain⟨p,vs,rfl,rv,hs⟩:=qdZ h es ra;obtain⟨v,ev,cw⟩:=qkd rv q
     rcases hs with hs|hs
     ·exact .inl (.inl ⟨p,vs,i,v,rfl,qae rb,hs,ev,k B v h .refl cw⟩)
     ·exact .inl (.inr (.inl ⟨p,vs,i,v,rfl,qae rb,hs,ev,k B v h .refl cw⟩))
  cases a with
  |str z=>
   have e:(if z.length<=1000 then(atI z.cps.toList i).map λc=>Nv.v (.str ⟨#[c]⟩) else none)=some n:=e;split at e
   ·rename_i hz;cases q:atI z.cps.toList i with
    |none=>rw[q] at e;cases e
    |some c=>rw[q] at e;cases e;rw[qaw ra,qae rb];exact .inl (.inr (.inr ⟨z,i,c,rfl,rfl,Vp (qcI hz),q,k B _ h .refl qcm⟩))
   ·cases e
  |_=>exact sq e
 |_=>exact dg e
noncomputable def tO(M:Md)(E:XK)(d:DS0 (Option Int)):TO:=λσ H Q=> ∃ρ μ B,Ev M ρ μ σ H B/\Wn M E H B (λo aa=> ∀H' B',Hs M aa H' B'->Go H B H' B'->Q o H') (d ρ μ)
noncomputable def dON:DS0 (Option Int):=λ_ μ=>.ok none μ
noncomputable def dOS(da:DS0 T):DS0 (Option Int):=dSq da λt _ μ=>match t with|.int i=>.ok (some i) μ|_=>.no
theorem qnR{E:XK}:PO X none (tO M E dON):=PO.weak qmS λσ H Q ⟨ρ,μ,B,ev,w⟩=>w H B ev.hs .refl
theorem qnQ{E:XK}{e:Expr}{da:DS0 T}(h:PE X e (tE M E da)):PO X (some e) (tO M E (dOS da)):=PO.weak (qmR h) λσ H Q ⟨ρ,μ,B,ev,w⟩=>tE.of ev ((Wn.bind w).mono λt ag w1 v H1 B1 h1 l1 r1=>by
 cases t with
 |int i=>exact⟨i,qae r1,w1 H1 B1 h1 l1⟩
 |_=>exact w1.elim)
noncomputable def qn7(ts:List T)(lo hi:Option Int):List T:=(ts.drop (HT.sIx ts.length 0 lo)).take (HT.sIx ts.length ts.length hi - HT.sIx ts.length 0 lo)
theorem qgE{K:W.Frag}{B:qaj}{ts:List T}{vs:List V}(r:Reps K B ts vs)(lo hi:Option Int):Reps K B (qn7 ts lo hi) (ql9 vs lo hi):=by unfold qn7 ql9;rw[r.length];exact(r.drop _).take _
theorem qlh{ts:List T}{l h:Option Int}(c:HT.sIx ts.length 0 l=0/\HT.sIx ts.length ts.length h=ts.length):qn7 ts l h=ts:=by unfold qn7;rw[c.1,c.2];simp
noncomputable def gSl(μ:Mu)(a:T)(lo hi:Option Int):Option Nv:=match a with
 |.str z=>if z.length<=1000 then some (.v (.str (PySem.Txt.slice z lo hi))) else none
 |.tup ts=>if HT.sIx ts.length 0 lo=0/\HT.sIx ts.length ts.length hi=ts.length then some (.v (.tup (qn7 ts lo hi))) else some (.t (qn7 ts lo hi))
 |a=>(match qhT μ a with
  |some (true,ts)=>some (.l (qn7 ts lo hi))
  |_=>none)
noncomputable def dSl(ow:Bool)(da:DS0 T)(dl dh:DS0 (Option Int)):DS0 T:=dSq da λa=>dSq dl λl=>dSq dh λh _ μ=>nvR ow (gSl μ a l h) μ
theorem qk6{E:XK}{a:Expr}{lo hi:Option Expr}{p2 pos:Pos}{ow:Bool}{da:DS0 T}{dl dh:DS0 (Option Int)}(hK:X.K=M.K)(ha:PE X a (tE M E da))(hl:PO X lo (tO M E dl))(hh:PO X hi (tO M E dh)):PE X (.Subscript a (.Slice lo hi none p2) pos) (tE M E (dSl ow da dl dh)):=by
 refine PE.weak (qkm (SlR.or (SlR.or qoS qmE) (SlR.or qmF qoT)) ha hl hh) λσ H Q ⟨ρ,μ,B,ev,w⟩=> ?_;refine tE.of ev ((Wn.bind w).mono λt ag w1 v H1 B1 h1 l1 r1=> ?_);refine⟨ρ,ag,B1,ev.on h1 l1.le,(Wn.bind w1).lift l1 λl ak w2 H2 B2 h2 l2=> ?_⟩;refine⟨ρ,ak,B2,(ev.on h1 l1.le).on h2 l2.le,(Wn.bind w2).lift (l1.trans l2) λu aX w3 H3 B3 h3 l3=> ?_⟩;have w3:Wn M E H B (KE M H B Q) (nvR ow (gSl aX t l u) aX):=w3;obtain⟨c,m,q,w3⟩:=Wn.pl w3 (λc m=>qhp c m);obtain⟨n,e,kv⟩:=qho q (KE.le w3 ((l1.trans l2).trans l3));have r3:=r1.mono (l2.trans l3).le;rw[hK];unfold gSl at e;split at e
 ·split at e
  ·rename_i hz;cases e;rw[qaw r3];exact .inr (.inr ⟨_,rfl,hz,kv B3 _ h3 .refl qcm⟩)
  ·cases e
 ·rename_i ts;obtain⟨p,vs,rfl,hp,rv⟩:=qar r3;have hl:=rv.length;split at e
  ·rename_i hc;cases e;refine .inl (.inr ⟨p,vs,rfl,SqT.of (h3.bh _ _ hp),by rw[hl];exact hc,?_⟩);rw[qlh hc] at kv;exact kv B3 _ h3 .refl r3
  ·rename_i hc;cases e;exact .inl (.inl ⟨p,vs,rfl,SqT.of (h3.bh _ _ hp),by rw[hl];exact hc,λd hd=>kv B3 d _ h3 .refl hd (qgE rv l u)⟩)
 ·split at e
  ·rename_i ts es;cases e;obtain⟨p,vs,rfl,rv,hs⟩:=qfL h3 es r3;rw[if_pos rfl] at hs;exact .inr (.inl ⟨p,vs,rfl,hs,λd hd=>kv B3 d _ h3 .refl hd (qgE rv l u)⟩)
  ·cases e
noncomputable def qvl(μ:Mu)(a:T)(lo hi st:Option Int):Option Nv:=match qhT μ a with
 |some (true,ts)=>if st≠some 0 then some (.l (RH.pickL ts lo hi st)) else none
 |_=>none
noncomputable def qvs(ow:Bool)(da:DS0 T)(dl dh dt:DS0 (Option Int)):DS0 T:=dSq da λa=>dSq dl λl=>dSq dh λh=>dSq dt λst _ μ=>nvR ow (qvl μ a l h st) μ
end
end NV
namespace PL
open PySem PySem.Spec PyProof.Rows L2 SR SetL
end PL
namespace PL
open PySem PySem.Spec L2
end PL
namespace NV
open PySem L2
section
variable {X:Cx}{pins:List (Addr×Obj)}{σ:St}{H:Hp}{B:qaj}{s:Shared}
open SeqAt in
theorem qcA (hu:X.A.units+8<cLine) (I:Inv X pins σ H s) (le:LeH B H) {t:T} {x:V} {v:Value} {ts:List T} {vs:List V} {is:List Value} (ra:Rep X.K B t x) (rx:RelV x v) (ot:okT 7 t=true) (gh:ts.all (okT 7)=true) (rs:Reps X.K B ts vs) (rv:qan vs is):
  is.length=ts.length/\∃e:Value->Bool,(∀y,y∈is.toArray->EqAt X.A.in1 s y v (e y))/\∀(j:Nat) (h:j<is.length),e is[j]=eqT (ts.getD j .non) t:=by
 have l1:=rv.length;have l2:=rs.length;have at_: ∀(j:Nat) (h:j<is.toArray.size),EqAt X.A.in1 s is.toArray[j] v (eqT (ts.getD j .non) t):=λj h=>by
  have hj:j<ts.length:=by simp at h;lia
  exact(qik I le 7 7 X.A.in1 _ _ _ _ _ _ (qbX gh hj) ot (by show X.A.units+1+7<cLine;lia) (rs.getD j hj) ra (RH.valsArr rv h) rx).1
 have one: ∀(j k:Nat) (h:j<is.toArray.size) (h':k<is.toArray.size),is.toArray[j]=is.toArray[k]->ts.getD j .non=ts.getD k .non:=λj k h h' e=>by
  have hj:j<ts.length:=by simp at h;lia
  have hk:k<ts.length:=by simp at h';lia
  have r1:=RH.valsArr rv h;have r2:=RH.valsArr rv h';rw[<-e] at r2;have:=r1.inj r2;refine qfN I le 7 7 _ _ _ (qbX gh hj) (qbX gh hk) (rs.getD j hj) ?_;rw[this];exact rs.getD k hk
 classical
 have key: ∀(j:Nat) (hj:j<is.toArray.size),decide (∃(j':Nat) (h:j'<is.toArray.size),is.toArray[j']=is.toArray[j]/\eqT (ts.getD j' .non) t=true)=eqT (ts.getD j .non) t:=λj hj=>by
  cases z:eqT (ts.getD j .non) t with
  |true=>exact decide_eq_true ⟨j,hj,rfl,z⟩
  |false=>exact Vw (λ⟨k,hk,e,ek⟩=>by rw[one k j hk hj e,z] at ek;cases ek)
 refine⟨by lia,λy=>decide (∃(j:Nat) (h:j<is.toArray.size),is.toArray[j]=y/\eqT (ts.getD j .non) t=true),λy hy=> ?_,λj hj=> ?_⟩
 ·obtain⟨j,hj,rfl⟩:=Array.mem_iff_getElem.mp hy;show EqAt X.A.in1 s is.toArray[j] v (decide (∃(j':Nat) (h:j'<is.toArray.size),is.toArray[j']=is.toArray[j]/\eqT (ts.getD j' .non) t=true));rw[key j hj];exact at_ j hj
 ·have:=key j (by simpa using hj);simpa using this
theorem qg5{f:Value->Bool}{g:T->Bool}{is:List Value}{ts:List T}(hl:is.length=ts.length)(h: ∀(j:Nat) (h:j<is.length),f is[j]=g (ts.getD j .non)):is.map f=ts.map g:=by
 refine List.ext_getElem (by simp[hl]) λj h1 h2=> ?_;have hj:j<is.length:=by simpa using h1
 have cW:j<ts.length:=by lia
 rw[List.getElem_map,List.getElem_map,h j hj,List.getD_eq_getElem?_getD,List.getElem?_eq_getElem cW];rfl
end
theorem qg4{α β:Type}{f:α->Bool}{g:β->Bool}{is:List α}{ts:List β}(h:is.map f=ts.map g):is.any f=ts.any g:=by have:=congrArg (List.any · id) h;simpa [List.any_map,Function.comp_def] using this
noncomputable def quS(K:W.Frag)(neg:Bool):R2:=λx y H Q=> ∃B t p vs ts,LeH B H/\Rep K B t x/\y= .ref p/\(SqL K H p vs\/SqT K H p vs)/\Reps K B ts vs/\okT 7 t=true/\ts.all (okT 7)=true/\Q (.bl (if neg then !ts.any (λu=>eqT u t) else ts.any (λu=>eqT u t))) H
noncomputable def quT(neg:Bool):R2:=λx y H Q=>(∃a o,y= .ref a/\qjS H a x o/\Q (.bl (if neg then !o.isSome else o.isSome)) H)\/∃a b,∃k:List Key,y= .ref a/\H a=some (.dK [])/\x= .ref b/\H b=some (.tup (k.map kV))/\Q (.bl neg) (upd H a (.dT []))
noncomputable def qrY(K:W.Frag)(neg:Bool):R2:=λx y H Q=>quS K neg x y H Q\/quT neg x y H Q
noncomputable def gIn(neg:Bool)(μ:Mu)(t c:T):Option Nv:=match qhT μ c with
 |some q=>if okT 7 t=true/\q.2.all (okT 7)=true then some (.v (.bl (if neg then !q.2.any (λu=>eqT u t) else q.2.any (λu=>eqT u t)))) else none
 |none=>(match qqQ μ c t with
  |some o=>some (.v (.bl (if neg then !o.isSome else o.isSome)))
  |none=>(match c with
   |.obj k=>(match μ.l[k]?,qrh t with
    |some (.dk []),some _=>some (.p k (.du []) (.bl neg))
    |_,_=>none)
   |_=>none))
section
variable {X:Cx}{M:Md}
theorem qpC(hu:X.A.units+8<cLine):OpR X (compareOp .In) (qrY X.K false):=by
 intro pins s σ H x y v u Q I rx ry hq
 rcases hq with⟨B,t,p,vs,ts,le,ra,ey,hp,rs,o1,o2,q⟩|⟨a,o,rfl,g,q⟩|⟨a,b,k,rfl,ha,rfl,hb,q⟩
 ·subst ey;cases ry
  rcases hp with hp|hp
  ·obtain⟨is,rv,pl,_⟩:=I.list hp;obtain⟨hl,e,h1,h2⟩:=qcA hu I le ra rx o1 o2 rs rv;refine SeqAt.in_listAt e pl.isList h1 ⟨.bl _,H,I,rfl,?_⟩;rw[show is.toArray.any e=is.any e by simp,qg4 (qg5 (g:=λu=>eqT u t) hl h2)];exact q
  ·obtain⟨is,rv,pl,_⟩:=I.tuple hp;obtain⟨hl,e,h1,h2⟩:=qcA hu I le ra rx o1 o2 rs rv;refine SeqAt.in_tupleAt e pl h1 ⟨.bl _,H,I,rfl,?_⟩;rw[show is.toArray.any e=is.any e by simp,qg4 (qg5 (g:=λu=>eqT u t) hl h2)];exact q
 ·cases ry;exact que (by lia) I g rx λs3 I3=>⟨.bl o.isSome,H,I3,rfl,q⟩
 ·cases ry;have I':=PL.Inv.asT I ha;have g:qjS (upd H a (.dT [])) a (.ref b) none:=.inr ⟨[],k,b,.of qac,rfl,by rw[qaa (λz=>by rw[z,ha] at hb;cases hb)];exact hb,rfl⟩;exact que (by lia) I' g rx λs3 I3=>⟨.bl false,_,I3,rfl,q⟩
theorem qiA(hu:X.A.units+8<cLine):OpR X (compareOp .NotIn) (qrY X.K true):=by
 intro pins s σ H x y v u Q I rx ry hq
 rcases hq with⟨B,t,p,vs,ts,le,ra,ey,hp,rs,o1,o2,q⟩|⟨a,o,rfl,g,q⟩|⟨a,b,k,rfl,ha,rfl,hb,q⟩
 ·subst ey;cases ry
  rcases hp with hp|hp
  ·obtain⟨is,rv,pl,_⟩:=I.list hp;obtain⟨hl,e,h1,h2⟩:=qcA hu I le ra rx o1 o2 rs rv;refine SeqAt.notIn_listAt e pl.isList h1 ⟨.bl _,H,I,rfl,?_⟩;rw[show is.toArray.any e=is.any e by simp,qg4 (qg5 (g:=λu=>eqT u t) hl h2)];exact q
  ·obtain⟨is,rv,pl,_⟩:=I.tuple hp;obtain⟨hl,e,h1,h2⟩:=qcA hu I le ra rx o1 o2 rs rv;refine SeqAt.notIn_tupleAt e pl h1 ⟨.bl _,H,I,rfl,?_⟩;rw[show is.toArray.any e=is.any e by simp,qg4 (qg5 (g:=λu=>eqT u t) hl h2)];exact q
 ·cases ry;exact qjw (by lia) I g rx λs3 I3=>⟨.bl (!o.isSome),H,I3,rfl,q⟩
 ·cases ry;have I':=PL.Inv.asT I ha;have g:qjS (upd H a (.dT [])) a (.ref b) none:=.inr ⟨[],k,b,.of qac,rfl,by rw[qaa (λz=>by rw[z,ha] at hb;cases hb)];exact hb,rfl⟩;exact qjw (by lia) I' g rx λs3 I3=>⟨.bl true,_,I3,rfl,q⟩
theorem qpK{neg:Bool}(hK:X.K=M.K):OkO M (qrY X.K neg) (gIn neg):=by
 intro μ H B x y a b n Q h ra rb e k;rw[hK];unfold gIn at e;split at e
 ·rename_i q es;split at e
  ·rename_i o;cases e;obtain⟨p,vs,rfl,rv,hs⟩:=qdZ (b:=q.1) (ts:=q.2) h es rb;exact .inl ⟨B,a,p,vs,q.2,h.bh,ra,rfl,hs,rv,o.1,o.2,k B _ h .refl qa8⟩
  ·cases e
 ·split at e
  ·rename_i o eo;cases e;obtain⟨p,ov,rfl,_,g,h1,h2⟩:=qjy h eo rb ra;refine .inr (.inl ⟨p,ov,rfl,g,?_⟩);have:ov.isSome=o.isSome:=by
    cases o with
    |none=>rw[h2 rfl];rfl
    |some t=>obtain⟨v,rfl,_⟩:=h1 t rfl;rfl
   rw[this];exact k B _ h .refl qa8
  ·split at e
   ·rename_i j;split at e
    ·rename_i el ek;cases e;obtain⟨p,rfl,ea⟩:=qaz rb;obtain⟨o,_,ho,us,rfl,ru⟩:=h.at el (by simp) ea;have:us=[]:=ru;subst this;obtain⟨b,rfl,hb⟩:=qf3 h ek ra;exact .inr (.inr ⟨p,b,_,rfl,ho,rfl,hb,k.2 B p _ _ h .refl ea ⟨[],rfl,rfl⟩ qa8⟩)
    ·cases e
   ·cases e
end
noncomputable def dN(ow:Bool)(g:Mu->List T->Option Nv)(ds:DS0 (List T)):DS0 T:=dSq ds λts _ μ=>nvR ow (g μ ts) μ
noncomputable def qsW(μ:Mu):List T->Option Nv
 |[.str z]=>if z.length<=100000 then some (.v (.int z.length)) else none
 |[t]=>(match qhT μ t with
  |some q=>some (.v (.int q.2.length))
  |none=>(dkv μ t).map λkvs=>.v (.int kvs.length))
 |_=>none
noncomputable def qjP:List T->Option (List Int)
 |[]=>some []
 |.int i::ts=>(qjP ts).map (i:: ·)
 |_::_=>none
noncomputable def qjO:List T->Option (List Str)
 |[]=>some []
 |.str i::ts=>(qjO ts).map (i:: ·)
 |_::_=>none
noncomputable def qhP:List T->Option (List Bool)
 |[]=>some []
 |.bl i::ts=>(qhP ts).map (i:: ·)
 |_::_=>none
noncomputable def qkC(μ:Mu)(t:T):Option (List T):=match qhT μ t with
 |some (true,ts)=>some ts
 |_=>none
noncomputable def qsZ(μ:Mu):List T->Option Nv
 |[t]=>((qkC μ t).bind qhP).map λbs=>.v (.bl (bs.all id))
 |_=>none
noncomputable def qsV(_:Mu):List T->Option Nv
 |[.int i,.int j]=>some (.v (.int (if j<i then j else i)))
 |_=>none
noncomputable def qnC(μ:Mu):List T->Option Nv
 |[t]=>(qhT μ t).map λq=>.l q.2
 |_=>none
section
variable {M:Md}{X:Cx}{K:W.Frag}{B:qaj}{μ:Mu}{H:Hp}
theorem qfz: ∀{ts:List T} {ns:List Bool} {vs:List V},qhP ts=some ns->Reps K B ts vs->vs=ns.map V.bl
 |[],_,_,e,r=>by cases e;exact r.inv0
 |t::ts,ns,vs,e,r=>by
  obtain⟨v,rr,rfl,a,b⟩:=r.inv;cases t with
  |bl i=>
   cases q:qhP ts with
   |none=>rw[qhP,q] at e;cases e
   |some ms=>rw[qhP,q] at e;cases e;rw[qbO a,qfz q b];rfl
  |_=>cases e
theorem qd1{t:T}{vs:List V}(r:Reps K B [t] vs): ∃v,vs=[v]/\Rep K B t v:=by obtain⟨v,rr,rfl,a,b⟩:=r.inv;cases b.inv0;exact⟨v,rfl,a⟩
theorem qfM{t u:T}{vs:List V}(r:Reps K B [t,u] vs): ∃v w,vs=[v,w]/\Rep K B t v/\Rep K B u w:=by obtain⟨v,rr,rfl,a,b⟩:=r.inv;obtain⟨w,rfl,c⟩:=qd1 b;exact⟨v,w,rfl,a,c⟩
theorem qf0(h:Hs M μ H B){t:T}{v:V}{ts:List T}(e:qkC μ t=some ts)(r:Rep M.K B t v): ∃p vs,v= .ref p/\Reps M.K B ts vs/\SqL M.K H p vs:=by
 unfold qkC at e;split at e
 ·rename_i es;cases e;obtain⟨p,vs,rfl,rv,hs⟩:=qfL h es r;rw[if_pos rfl] at hs;exact⟨p,vs,rfl,rv,hs⟩
 ·cases e
theorem bind_some{α β:Type}{o:Option α}{f:α->Option β}{b:β}(e:o.bind f=some b): ∃a,o=some a/\f a=some b:=by
 cases o with
 |none=>cases e
 |some a=>exact⟨a,rfl,e⟩
theorem qal{α β:Type}{o:Option α}{f:α->β}{b:β}(e:o.map f=some b): ∃a,o=some a/\f a=b:=by
 cases o with
 |none=>cases e
 |some a=>exact⟨a,rfl,Option.some.inj e⟩
theorem qqW(hK:X.K=M.K):qaC X (.builtin "len") (rN M qsW):=qaC.ok (qaC.or qls qjG) λμ H B vs ts n Q h r e k=>by
 rw[hK];have l0:100000<=sizeLine:=by decide
 unfold qsW at e;split at e
 ·obtain⟨v,rfl,a⟩:=qd1 r;split at e
  ·cases e;rw[qaw a];exact .inl ⟨_,_,rfl,⟨by omega,rfl⟩,k B _ h .refl qaR⟩
  ·cases e
 ·obtain⟨v,rfl,a⟩:=qd1 r;split at e
  ·rename_i q es;cases e;obtain⟨p,vs,rfl,rv,hs⟩:=qdZ (b:=q.1) (ts:=q.2) h es a;refine .inl ⟨_,_,rfl,?_,k B _ h .refl qaR⟩;rw[<-rv.length]
   rcases hs with hs|hs
   ·exact .inl ⟨vs,hs,rfl⟩
   ·exact .inr ⟨vs,hs,rfl⟩
  ·obtain⟨kvs,e1,rfl⟩:=qal e;obtain⟨p,us,rfl,hp,ru⟩:=qfl h e1 a;exact .inr ⟨p,us,rfl,hp,by rw[ru.length];exact k B _ h .refl qaR⟩
 ·cases e
theorem qqX(hc:X.calm=true)(hK:X.K=M.K):qaC X (.builtin "all") (rN M qsZ):=qaC.ok (qlt hc) λμ H B vs ts n Q h r e k=>by
 unfold qsZ at e;split at e
 ·obtain⟨v,rfl,a⟩:=qd1 r;obtain⟨bs,e1,rfl⟩:=qal e;obtain⟨ts,e2,e3⟩:=bind_some e1;obtain⟨p,vs,rfl,rv,hs⟩:=qf0 h e2 a;rw[qfz e3 rv] at hs;exact⟨p,bs,rfl,by rw[hK];exact hs,k B _ h .refl qa8⟩
 ·cases e
theorem qqV(hc:X.calm=true):qaC X (.builtin "min") (rN M qsV):=qaC.ok (qjF hc) λμ H B vs ts n Q h r e k=>by
 unfold qsV at e;split at e
 ·cases e;obtain⟨v,w,rfl,a,b⟩:=qfM r;rw[qae a,qae b];exact⟨_,_,rfl,k B _ h .refl qaR⟩
 ·cases e
theorem qn9(hK:X.K=M.K):qaC X (.type "list") (rN M qnC):=qaC.ok qfs λμ H B vs ts n Q h r e k=>by
 rw[hK];unfold qnC at e;split at e
 ·obtain⟨v,rfl,a⟩:=qd1 r;obtain⟨q,es,rfl⟩:=qal e;obtain⟨p,vs,rfl,rv,hs⟩:=qdZ (b:=q.1) (ts:=q.2) h es a;exact⟨p,vs,rfl,hs,λl hl=>k B l vs h .refl hl rv⟩
 ·cases e
end
open SR SetL
noncomputable def kyN:T->PL.Ky
 |.int i=>.i i
 |.str x=>.s x
 |_=>.i 0
noncomputable def qiV:T->List PL.Ky
 |.int i=>[.i i]
 |.str x=>[.s x]
 |.tup ts=>ts.map kyN
 |_=>[]
noncomputable def shN:T->Nat
 |.int _=>0
 |.str _=>1
 |_=>9
noncomputable def qb5:T->List Nat
 |.int _=>[0]
 |.str _=>[1]
 |.tup ts=>2::ts.map shN
 |_=>[9]
noncomputable def qcw:List T->Bool
 |[]=>true
 |t::ts=>PL.okShape (qb5 t)&&ts.all λu=>qb5 u==qb5 t
noncomputable def qj9(ts:List T):List T:=PL.sortBy qiV ts
section
open PySem.W PyProof.Rows
noncomputable def qb9(h:Heap)(sh:List Nat)(k:List PL.Ky)(v:Value):Prop:=match sh with
 |[0]=> ∃n t,k=[.i n]/\v= .int n t
 |[1]=> ∃n t,k=[.s n]/\v= .str n t
 |2::r=>PL.KeyTup h k v/\k.map PL.shK=r
 |_=>False
theorem qb9.keep{h h':Heap}{sh:List Nat}{k:List PL.Ky}{v:Value}(kp:St.Kp h h')(x:qb9 h sh k v):qb9 h' sh k v:=by
 unfold qb9 at x⊢;split at x
 ·exact x
 ·exact x
 ·obtain⟨⟨p,its,e,⟨o,ho,c⟩,r⟩,s⟩:=x;exact⟨⟨p,its,e,⟨o,kp _ _ ho,c⟩,r⟩,s⟩
 ·exact x.elim
noncomputable def qtK(sh:List Nat):SortKind:=match sh with|2::_=>tuples' true|_=>oneType'
theorem qpX {prog:Program} {w:World} {A:Around} {s:Shared} {sh:List Nat} {a b:List PL.Ky} {u v:Value} {C:Bool->Shared->Prop} (ok:PL.okShape sh=true) (ki:qb9 s.heap sh a u) (kj:qb9 s.heap sh b v) (hC:C (PL.ltKs a b) s):
  wpAny (model prog w) A (keyLt' (qtK sh) u v) C (λ_ _=>False) s:=by
 rcases PL.okShape_cases ok with rfl|rfl|⟨x,r,rfl,hr⟩
 ·obtain⟨n1,t1,f1,g1⟩:=ki;obtain⟨n2,t2,f2,g2⟩:=kj;rw[g1,g2];rw[f1,f2] at hC;refine kat_lt_int ?_;have e:PL.ltKs [.i n1] [.i n2]=decide (n1<n2):=by
   show(if PL.Ky.i n1=PL.Ky.i n2 then false else decide (n1<n2))=_;by_cases c:n1=n2
   ·subst c;rw[if_pos rfl];exact(Vw (Int.lt_irrefl _)).symm
   ·rw[if_neg (λz=>c (by cases z;rfl))]
  rw[<-e];exact hC
 ·obtain⟨n1,t1,f1,g1⟩:=ki;obtain⟨n2,t2,f2,g2⟩:=kj;rw[g1,g2];rw[f1,f2] at hC;refine kas_lt_str ?_;have e:PL.ltKs [.s n1] [.s n2]=decide (n1.cps.toList<n2.cps.toList):=by
   show(if PL.Ky.s n1=PL.Ky.s n2 then false else RH.ltS n1 n2)=_;by_cases c:n1=n2
   ·subst c;rw[if_pos rfl];exact(RH.ordS.irr n1).symm
   ·rw[if_neg (λz=>c (by cases z;rfl))];rfl
  rw[<-e];exact hC
 ·exact PL.lt_tups ki.1 kj.1 (ki.2.trans kj.2.symm) hC
theorem qfK {prog:Program} {w:World} {A:Around} {E:Value->Shared->Prop} {s:Shared} {v:Value} {its:List Value} {ks:List (List PL.Ky)} {sh:List Nat} {Q:Value->Shared->Prop} (ok:PL.okShape sh=true) (hl:ks.length=its.length) (d9:its.length<64)
  (ck: ∀R:List Value->Shared->Prop,(∀h1 t1,St.Kp s.heap h1->R its { s with heap:=h1,toks:=t1 })->wpAny (model prog w) A.in1 (collect v) R E s)
  (hk: ∀j,j<its.length->qb9 s.heap sh (ks.getD j []) (its.getD j Value.none))
  (h: ∀h1 D h' tk c (p:Array Nat),St.Kp s.heap h1->h1.objs.size<=D->St.Kp h1 h'->p.toList=srt (λj=>qgI PL.ltKs ks (ks.getD j [])) (List.range its.length)->h'.get? D=some (seqObj "list" (List.toArray (p.toList.map λi=>its.getD i Value.none)) c)->Q (.ref D) { s with heap:=h',toks:=tk }):
  wpAny (model prog w) A (call (.builtin "sorted") [v]) Q E s:=by
 have c9: ∀{m:Nat},m<its.length->(ks.map (qgI PL.ltKs ks)).getD m 0=qgI PL.ltKs ks (ks.getD m []):=λ{m} hm=>by rw[List.getD_eq_getElem?_getD,List.getElem?_map,List.getElem?_eq_getElem (by omega),List.getD_eq_getElem?_getD,List.getElem?_eq_getElem (by omega)];rfl
 have mem: ∀{m:Nat},m<its.length->ks.getD m []∈ks:=λ{m} hm=>by rw[List.getD_eq_getElem?_getD,List.getElem?_eq_getElem (by omega)];exact List.getElem_mem _
 have kv: ∀{h':Heap},St.Kp s.heap h'->∀u∈its,∃k,qb9 h' sh k u:=λ{h'} kp u hu=>by obtain⟨m,hm,rfl⟩:=List.mem_iff_getElem.mp hu;have:=(hk m hm).keep kp;rw[List.getD_eq_getElem?_getD (l:=its),List.getElem?_eq_getElem hm] at this;exact⟨_,this⟩
 refine St.sorted_c (ck _ λh1 t1 kp=> ?_);refine⟨h1,t1,qtK sh,ks.map (qgI PL.ltKs ks),rfl,kp,by simp[hl],d9,λs' k2 h2 Q' E' hq=> ?_,λs' k2 i j hi hj C hC=> ?_,λD h' tk c p hD k2 ho dG=> ?_⟩
 ·have gw:St.Kp s.heap s'.heap:=λb o e=>k2 _ _ (kp _ _ e)
  rcases PL.okShape_cases ok with rfl|rfl|⟨x,r,rfl,hr⟩
  ·have hI: ∀l:List Value,(∀v∈l,∃n t,v= .int n t)->∃ns,IntsAre l ns:=λl=>by
    induction l with
    |nil=>exactλ_=>⟨[],.nil⟩
    |cons v l ih=>intro hl;obtain⟨n,t,rfl⟩:=hl v Vk;obtain⟨ns,hn⟩:=ih λu hu=>hl u (Vl _ hu);exact⟨n::ns,.cons n t hn⟩
   obtain⟨ns,fN⟩:=hI its λv hv=>by obtain⟨k,n,t,_,e⟩:=kv gw v hv;exact⟨n,t,e⟩
   rw[ksk_kind (keys:=its.toArray) (by simpa using fN) (by simpa using h2)];exact Vb hq
  ·exact PL.kind_strs its h2 (λv hv=>by obtain⟨k,n,t,_,e⟩:=kv gw v hv;exact⟨n,t,e⟩) hq
  ·have hx:x=0\/x=1:=by rw[List.all_cons,Bool.and_eq_true] at hr;simpa using hr.1
   exact PL.kind_tups its hx h2 (λv hv=>by obtain⟨k,e1,e2⟩:=kv gw v hv;exact⟨k,e1,e2⟩) hq
 ·rw[c9 hi,c9 hj,qmI PL.ordKs (mem hi) (mem hj)] at hC;have ki:=(hk i hi).keep (λb o e=>k2 _ _ (kp _ _ e));have kj:=(hk j hj).keep (λb o e=>k2 _ _ (kp _ _ e));exact qpX ok ki kj hC
 ·refine h h1 D h' tk c p kp hD k2 ?_ dG;rw[qiy ho];exact qeM _ λb hb=>c9 (List.mem_range.mp hb)
end
noncomputable def qf4:Key->T
 |.inl i=>.int i
 |.inr s=>.str s
noncomputable def qtI(μ:Mu)(t:T):Option (List T):=match qkC μ t with
 |some ts=>some ts
 |none=>(match dkv μ t with
  |some kvs=>some (kvs.map λp=>qf4 p.1)
  |none=>(duv μ t).map λkvs=>kvs.map λp=>.tup (p.1.map qf4))
noncomputable def qf8(μ:Mu):List T->Option Nv
 |[t]=>(qtI μ t).bind λts=>if ts.length<64/\qcw ts=true then some (.l (qj9 ts)) else none
 |_=>none
theorem qe9{K:W.Frag}{B:qaj}(k:Key):Rep K B (qf4 k) (kV k):=by
 cases k with
 |inl i=>exact qaR
 |inr s=>exact qcm
theorem qdD{K:W.Frag}{B:qaj}: ∀ks:List Key,Reps K B (ks.map qf4) (ks.map kV)
 |[]=>.nil
 |k::ks=>.cons (qe9 k) (qdD ks)
open Classical in
noncomputable def qaj.abs(B:qaj)(H:Hp)(qs:List Addr):qaj:=⟨λa=>if a∈qs then H a else B a,B.ad⟩
section
open Classical
variable {M:Md}{μ:Mu}{H:Hp}{B:qaj}{qs:List Addr}
theorem Hs.abs(h:Hs M μ H B)(ht: ∀q∈qs,∃vs,H q=some (.tup vs)):Hs M μ H (B.abs H qs)/\Go H B H (B.abs H qs):=by
 have le:Le B (B.abs H qs):=⟨λa o e=>by
  show(if a∈qs then H a else B a)=_;split
  ·exact h.bh a o e
  ·exact e,λ_ _ e=>e⟩
 refine⟨⟨λa o e=> ?_,λa ps e=> ?_,h.gm,λk c e n=> ?_,h.ij,h.dm,h.lk,h.ln⟩,⟨le,λ_ _ e _ _=>e,λ_ _ e=>.inl e,λ_ e=>e,λa o e n t1 t2=> ?_⟩⟩
 ·have e:(if a∈qs then H a else B a)=some o:=e;split at e
  ·exact e
  ·exact h.bh a o e
 ·have e:(if a∈qs then H a else B a)=some (.tbl ps):=e;split at e
  ·rename_i m;obtain⟨vs,z⟩:=ht a m;rw[z] at e;cases e
  ·exact h.bt a ps e
 ·obtain⟨a,o,e1,e2,e3,e4⟩:=h.st k c e n;refine⟨a,o,e1,?_,e3,e4.mono le⟩;show(if a∈qs then H a else B a)=_;rw[if_neg (λm=> ?_)]
  ·exact e2
  ·obtain⟨vs,z⟩:=ht a m;rw[e3] at z;cases z
   rcases e4.mb n with⟨_,e⟩|⟨_,e⟩|⟨_,e⟩|⟨_,_,_,e⟩<;>cases e
 ·show(if a∈qs then H a else B a)=_;rw[if_neg (λm=>by obtain⟨vs,z⟩:=ht a m;rw[z] at e;exact t1 vs (Option.some.inj e).symm)]
end
section
variable {M:Md}{X:Cx}
theorem qfi{K:W.Frag}{B:qaj}: ∀{us:List T} {ws:List V},us.all (λt=>shN t==0||shN t==1)=true->Reps K B us ws->ws=(us.map kyN).map PL.kyV/\(us.map kyN).map PL.shK=us.map shN
 |[],_,_,r=>⟨r.inv0,rfl⟩
 |u::us,_,h,r=>by
  obtain⟨v,rr,rfl,a,b⟩:=r.inv;rw[List.all_cons,Bool.and_eq_true] at h;obtain⟨e1,e2⟩:=qfi h.2 b;cases u with
  |int i=>rw[qae a,e1];exact⟨rfl,by rw[List.map_cons,List.map_cons,e2];rfl⟩
  |str i=>rw[qaw a,e1];exact⟨rfl,by rw[List.map_cons,List.map_cons,e2];rfl⟩
  |_=>cases h.1
theorem qhC{pins:List (Addr×Obj)}{σ:St}{H:Hp}{B:qaj}{s:Shared}(I:Inv X pins σ H s)(le:LeH B H){t:T}{x:V}{v:Value}(ok:PL.okShape (qb5 t)=true)(r:Rep X.K B t x)(rv:RelV x v):qb9 s.heap (qb5 t) (qiV t) v:=by
 cases t with
 |int i=>rw[qae r] at rv;obtain⟨t,rfl⟩:=rv;exact⟨i,t,rfl,rfl⟩
 |str i=>rw[qaw r] at rv;obtain⟨t,rfl⟩:=rv;exact⟨i,t,rfl,rfl⟩
 |tup us=>
  obtain⟨p,ws,rfl,hp,rs⟩:=qar r;cases rv;obtain⟨its,bU,pl2,_⟩:=I.tuple (SqT.of (le _ _ hp));have fl:us.all (λt=>shN t==0||shN t==1)=true:=by
   rcases PL.okShape_cases ok with e|e|⟨x,r,e,ho⟩
   ·cases e
   ·cases e
   ·have e:=(List.cons.inj e).2;rw[<-e,List.all_map] at ho;exact ho
  obtain⟨e1,e2⟩:=qfi fl rs;exact⟨⟨p,its,rfl,pl2,e1▸bU⟩,e2⟩
 |_=>cases ok
theorem qeN{ts:List T}(h:qcw ts=true): ∃sh,PL.okShape sh=true/\∀t∈ts,qb5 t=sh:=by
 cases ts with
 |nil=>exact⟨[0],rfl,λ_ h=>nomatch h⟩
 |cons t ts=>
  have h:(PL.okShape (qb5 t)&&ts.all λu=>qb5 u==qb5 t)=true:=h;rw[Bool.and_eq_true] at h;refine⟨_,h.1,λu hu=> ?_⟩
  rcases List.mem_cons.mp hu with rfl|hu
  ·rfl
  ·exact eq_of_beq (List.all_eq_true.mp h.2 u hu)
theorem qdv{K:W.Frag}{B:qaj}{ts:List T}{vs:List V}(r:Reps K B ts vs): ∀l:List Nat,(∀j∈l,j<ts.length)->Reps K B (l.map λj=>ts.getD j .non) (l.map λj=>vs.getD j .non)
 |[],_=>.nil
 |j::l,h=>.cons (r.getD j (h j Vk)) (qdv r l λi hi=>h i (Vl _ hi))
open PySem.W PyProof.Rows in
theorem qbT {pins:List (Addr×Obj)} {s:Shared} {σ:L2.St} {H:Hp} {B:qaj} {u:Value} {Q:VK} {ts:List T} {vs:List V} {its:List Value} (I:Inv X pins σ H s) (le:LeH B H) (r:Reps X.K B ts vs) (rv:qan vs its) (d9:ts.length<64) (so:qcw ts=true)
  (ck: ∀R:List Value->Shared->Prop,(∀h1 t1,St.Kp s.heap h1->R its { s with heap:=h1,toks:=t1 })->wpAny (model X.prog X.w) X.A.in1 (collect u) R X.xe s)
  (q: ∀D ys,H D=none->Reps X.K B (qj9 ts) ys->Q (.ref D) (upd H D (.lst ys))):wpAny (model X.prog X.w) X.A (call (.builtin "sorted") [u]) (EP X pins σ Q) X.xe s:=by
 obtain⟨sh,ok,hs⟩:=qeN so;have l1:=rv.length;have l2:=r.length;have kg: ∀j,j<ts.length->(ts.map qiV).getD j []=qiV (ts.getD j .non)/\ts.getD j .non∈ts:=λj hj=>by rw[List.getD_eq_getElem?_getD,List.getElem?_map,List.getElem?_eq_getElem hj,List.getD_eq_getElem?_getD,List.getElem?_eq_getElem hj];exact⟨rfl,List.getElem_mem hj⟩
 refine qfK (ks:=ts.map qiV) ok (by simp;omega) (by omega) ck (λj hj=> ?_) λh1 D h' tk c p kp hD k2 ep dG=> ?_
 ·obtain⟨e1,e2⟩:=kg j (by omega);have e3:=hs _ e2;rw[e1,<-e3];exact qhC I le (by rw[e3];exact ok) (r.getD j (by omega)) (qeA rv j)
 ·have I2:Inv X pins σ H { s with heap:=h1,toks:=s.toks }:=I.kept (t':=s.toks) kp;have fD:H D=none:=I2.hok.fresh hD;have pm: ∀j∈p.toList,j<ts.length:=λj hj=>by rw[ep] at hj;have:=List.mem_range.mp ((qea _).mp hj);omega
  have e:qj9 ts=p.toList.map λj=>ts.getD j .non:=by
   unfold qj9 PL.sortBy;rw[ep,qeM (k':=λj=>qgI PL.ltKs (ts.map qiV) (qiV (ts.getD j .non))),qmC (k:=λt=>qgI PL.ltKs (ts.map qiV) (qiV t)) (f:=λj=>ts.getD j .non) (λb=>rfl),show its.length=ts.length by omega,Mir.map_range_getD];intro b hb;have bN:b<ts.length:=by have:=List.mem_range.mp hb;omega
   show qgI _ _ ((ts.map qiV).getD b [])=_;rw[(kg b bN).1]
  have I3:Inv X pins σ (upd H D (.lst (p.toList.map λj=>vs.getD j .non))) { s with heap:=h',toks:=tk }:=by refine I2.laid k2 hD ⟨?_,_,c,L2.vals_pick rv p.toList,dG⟩;rw[List.length_map,ep,qhx,List.length_range,sizeLine_eq];omega
  refine⟨.ref D,_,I3,rfl,q D _ fD ?_⟩;rw[e];exact qdv r _ pm
theorem qnT{pins:List (Addr×Obj)}{s:Shared}{σ:L2.St}{H:Hp}{p:Addr}{us:List (Key×V)}(I:Inv X pins σ H s)(hp:H p=some (.dK us)): ∃(es:Array DictEntry) (ep:Nat),DH.RawD s.heap p es ep/\(p==sysModules)=false/\es.size<=sizeLine/\qan (us.map λp=>kV p.1) (es.toList.map (·.key)):=by
 obtain⟨hz,lo,vs,kv,o,es,ep,ho,hx,hd,h4,h5,h6⟩:=qk2 I.hok hp;have l1:=h5.length;have l2:us.length=vs.length:=kv.length;refine⟨es,ep,⟨o,ho,hx,hd⟩,lo,?_,?_⟩
 ·rw[<-Array.length_toList,l1,<-l2];exact hz
 ·have go: ∀{us:List (Key×V)} {vs:List (Key×Value)} {es:List DictEntry},L2.KV us vs->Pairs (qap X.prog X.w) es vs->qan (us.map λp=>kV p.1) (es.map (·.key)):=λ{us vs es} kv=>by
   unfold L2.KV at kv
   induction kv generalizing es with
   |nil=>intro h;cases h;exact .nil
   |cons c _ ih=>
    intro h;cases h with
    |cons c2 _ h2=>exact .cons (by show RelV (kV _) _;rw[c.1];exact L2.is_kV c2) (ih h2)
  exact go kv h5
open PySem.W PyProof.Rows in
theorem qjB(hc:X.calm=true)(hK:X.K=M.K):qaC X (.builtin "sorted") (rN M qf8):=by
 intro pins s σ H xs us Q I r ⟨μ,B,ts,n,h,rt,e,k⟩;unfold qf8 at e;split at e
 case h_2=>cases e
 rename_i t;obtain⟨v,rfl,a⟩:=qd1 rt;obtain⟨u,rfl,ru⟩:=qdg r;obtain⟨its,e1,e2⟩:=bind_some e;split at e2
 case isFalse=>cases e2
 rename_i hs;cases e2;have hh:X.A.in1.handled=none:=I.ok.hd hc;unfold qtI at e1;split at e1
 ·rename_i ts el;cases e1;obtain⟨p,vs,rfl,rv,sq⟩:=qf0 h el a;cases ru;obtain⟨its,bU,pl,hz⟩:=I.list (by rw[hK];exact sq);have l1:=bU.length;rw[<-hK] at rv;refine qbT I (B:=B) h.bh rv bU hs.1 hs.2 (λR hR=>collect_list pl.isList (hR _ _ λb o q=>by
   have b9:b<s.heap.objs.size:=Vj q;rw[Heap.get?_update_ne _ _ _ _ (Nat.ne_of_lt b9),Heap.get?_push_ne _ _ _ (Nat.ne_of_lt b9)];exact q) (by omega)) λD ys hD ry=>k B D ys h .refl hD (by rw[<-hK];exact ry)
 ·split at e1
  ·rename_i kvs el;cases e1;obtain⟨p,us,rfl,hp,fF⟩:=qfl h el a;cases ru;obtain⟨es,ep,r1,lo,hz,bU⟩:=qnT I hp;have rv:Reps X.K B (kvs.map λp=>qf4 p.1) (us.map λp=>kV p.1):=by
    have go: ∀{kvs:List (Key×T)} {us:List (Key×V)},qba M.K B kvs us->Reps X.K B (kvs.map λp=>qf4 p.1) (us.map λp=>kV p.1):=λ{kvs}=>by
     induction kvs with
     |nil=>intro us r;rw[show us=[] from r];exact .nil
     |cons kv kvs ih=>intro us ⟨v,r,e,_,b⟩;rw[e];exact .cons (qe9 kv.1) (ih b)
    exact go fF
   exact qbT I (B:=B) h.bh rv bU hs.1 hs.2 (λR hR=>DH.collectD hh lo r1 hz λh' tk kp=>hR h' tk kp) λD ys hD ry=>k B D ys h .refl hD (by rw[<-hK];exact ry)
  ·obtain⟨kvs,el,rfl⟩:=qal e1;obtain⟨p,us,rfl,hp,fF⟩:=qjn h el a;cases ru;obtain⟨qs,es,ep,r1,lo,hz,hk,h1,h2,h3⟩:=PL.dt_keys I hp;obtain⟨ha,ga⟩:=h.abs (qs:=qs) λq hq=>by obtain⟨j,hj⟩:=List.mem_iff_getElem?.mp hq;obtain⟨k,v,_,z⟩:=h3 j q hj;exact⟨_,z⟩
   have l3:=fF.length;have rv:Reps X.K (B.abs H qs) (kvs.map λp=>.tup (p.1.map qf4)) (qs.map V.ref):=by
    refine .of_get (by simp;omega) λj t' v' z1 z2=> ?_;rw[List.getElem?_map] at z1 z2;cases y:qs[j]? with
    |none=>rw[y] at z2;cases z2
    |some b=>
     rw[y] at z2;cases z2;obtain⟨k,v,y1,y2⟩:=h3 j b y;cases y3:kvs[j]? with
     |none=>rw[y3] at z1;cases z1
     |some kv=>rw[y3] at z1;cases z1;obtain⟨v3,y4,_⟩:=qd2 fF y3;rw[y1] at y4;cases y4;refine qcQ (vs:=kv.1.map kV) ?_ (qdD _);show(if b∈qs then H b else _)=_;rw[if_pos (List.mem_of_getElem? y)];exact y2
   have bU:qan (qs.map V.ref) (es.toList.map (·.key)):=by
    rw[hk];have go: ∀l:List Addr,qan (l.map V.ref) (l.map Value.ref):=λl=>by
     induction l with
     |nil=>exact .nil
     |cons b l ih=>exact .cons rfl ih
    exact go qs
   exact qbT I (B:=B.abs H qs) ha.bh rv bU hs.1 hs.2 (λR hR=>DH.collectD hh lo r1 (by omega) λh' tk kp=>hR h' tk kp) λD ys hD ry=>k _ D ys ha ga hD (by rw[<-hK];exact ry)
end
end NV
namespace NV
open PySem L2
noncomputable def qm5(μ:Mu):T->Option (Nat×List T)
 |.obj k=>(match μ.l[k]? with|some (.ls ts)=>some (k,ts)|_=>none)
 |_=>none
noncomputable def qre(μ:Mu):T->Option (Nat×List (Key×T))
 |.obj k=>(match μ.l[k]? with|some (.dk ts)=>some (k,ts)|_=>none)
 |_=>none
noncomputable def qt4(μ:Mu):T->Option (Nat×List (List Key×T))
 |.obj k=>(match μ.l[k]? with|some (.du ts)=>some (k,ts)|some (.dk [])=>some (k,[])|_=>none)
 |_=>none
noncomputable def qrd{κ:Type}[DecidableEq κ](kvs:List (κ×T))(k:κ)(t:T):List (κ×T):=if(kvs.any λkv=>decide (kv.1=k))=true then kvs.map (λkv=>if kv.1=k then(kv.1,t) else kv) else kvs++[(k,t)]
noncomputable def qnP(kvs:List (Key×T))(k:Key):List (Key×T):=kvs.filter λkv=>decide (kv.1≠k)
noncomputable def qga(μ:Mu):List T->Option Nv
 |[o,x]=>(qm5 μ o).bind λq=>if q.2.length<=1000 then some (.p q.1 (.ls (q.2++[x])) .non) else none
 |_=>none
noncomputable def qf9(μ:Mu):List T->Option Nv
 |[o,y]=>(qm5 μ o).bind λq=>(match sqv μ y with
  |some (true,ys)=>if q.2.length<=1000/\ys.length<=1000 then some (.p q.1 (.ls (q.2++ys)) .non) else none
  |_=>none)
 |_=>none
noncomputable def qsS(μ:Mu):List T->Option Nv
 |[o]=>(qm5 μ o).bind λq=>(q.2[q.2.length - 1]?).map λt=>.p q.1 (.ls q.2.dropLast) t
 |_=>none
noncomputable def qjc(μ:Mu):List T->Option Nv
 |[o]=>(qm5 μ o).map λq=>.p q.1 (.ls []) .non
 |_=>none
noncomputable def qnD(μ:Mu):List T->Option Nv
 |[d,k]=>(qre μ d).bind λq=>(qhD k).bind λk=>(qor q.2 k).map λt=>.p q.1 (.dk (qnP q.2 k)) t
 |_=>none
noncomputable def rM(M:Md)(g:Mu->List T->Option Nv):V->List V->Hp->VK->Prop:=λx vs H Q=>rN M g (x::vs) H Q
theorem MtR.weak{X:Cx}{id:String}{r r':V->List V->Hp->VK->Prop}(h:MtR X id r)(w: ∀x xs H Q,r' x xs H Q->r x xs H Q):MtR X id r':=λpins s σ H x xs v us Q I rx rs q=>h pins s σ H x xs v us Q I rx rs (w _ _ _ _ q)
section
variable {M:Md}{X:Cx}{μ:Mu}{H:Hp}{B:qaj}
theorem qcO(h:Hs M μ H B){t:T}{v:V}{q:Nat×List T}(e:qm5 μ t=some q)(r:Rep M.K B t v): ∃a vs,v= .ref a/\B.ad q.1=some a/\H a=some (.lst vs)/\Reps M.K B q.2 vs:=by
 unfold qm5 at e;split at e
 ·split at e
  ·rename_i el;cases e;obtain⟨a,rfl,ea⟩:=qaz r;obtain⟨o,_,ho,vs,rfl,rv⟩:=h.at el (by simp) ea;exact⟨a,vs,rfl,ea,ho,rv⟩
  ·cases e
 ·cases e
theorem qiv(h:Hs M μ H B){t:T}{v:V}{q:Nat×List (Key×T)}(e:qre μ t=some q)(r:Rep M.K B t v): ∃a vs,v= .ref a/\B.ad q.1=some a/\H a=some (.dK vs)/\qba M.K B q.2 vs:=by
 unfold qre at e;split at e
 ·split at e
  ·rename_i el;cases e;obtain⟨a,rfl,ea⟩:=qaz r;obtain⟨o,_,ho,vs,rfl,rv⟩:=h.at el (by simp) ea;exact⟨a,vs,rfl,ea,ho,rv⟩
  ·cases e
 ·cases e
theorem qrR{K:W.Frag}{t u w:T}{vs:List V}(r:Reps K B [t,u,w] vs): ∃a b c,vs=[a,b,c]/\Rep K B t a/\Rep K B u b/\Rep K B w c:=by obtain⟨v,rr,rfl,a,b⟩:=r.inv;obtain⟨x,y,rfl,c,d⟩:=qfM b;exact⟨v,x,y,rfl,a,c,d⟩
theorem qhs:MtR X "list.append" (rM M qga):=MtR.weak (X:=X) qe3 λx xs H Q ⟨μ,B,ts,n,h,r,e,k⟩=>by
 unfold qga at e;split at e
 ·obtain⟨a,b,eq,ra,rb⟩:=qfM r;cases eq;obtain⟨q,e1,e2⟩:=bind_some e;split at e2
  ·rename_i hz;cases e2;obtain⟨p,vs,rfl,ea,hp,rv⟩:=qcO h e1 ra;have l0:1001<sizeLine:=by decide
   exact⟨p,vs,b,rfl,rfl,hp,by rw[rv.length];omega,k.2 B p _ _ h .refl ea ⟨_,rfl,rv.append (.one rb)⟩ qdx⟩
  ·cases e2
 ·cases e
theorem qhr:MtR X "list.extend" (rM M qf9):=MtR.weak (X:=X) qiK λx xs H Q ⟨μ,B,ts,n,h,r,e,k⟩=>by
 unfold qf9 at e;split at e
 ·obtain⟨a,b,eq,ra,rb⟩:=qfM r;cases eq;obtain⟨q,e1,e2⟩:=bind_some e;split at e2
  ·rename_i ys es;split at e2
   ·rename_i hz;cases e2;obtain⟨p,vs,rfl,ea,hp,rv⟩:=qcO h e1 ra;obtain⟨p2,vs2,rfl,bU,cA⟩:=qbj h es rb;rw[if_pos rfl] at cA;have l0:2001<sizeLine:=by decide
    exact⟨p,p2,vs,vs2,rfl,rfl,hp,cA,by rw[rv.length,bU.length];omega,k.2 B p _ _ h .refl ea ⟨_,rfl,rv.append bU⟩ qdx⟩
   ·cases e2
  ·cases e2
 ·cases e
theorem qnn:MtR X "list.pop" (rM M qsS):=MtR.weak (X:=X) qpQ λx xs H Q ⟨μ,B,ts,n,h,r,e,k⟩=>by
 unfold qsS at e;split at e
 ·obtain⟨a,eq,ra⟩:=qd1 r;cases eq;obtain⟨q,e1,e2⟩:=bind_some e;obtain⟨t,e3,rfl⟩:=qal e2;obtain⟨p,vs,rfl,ea,hp,rv⟩:=qcO h e1 ra;obtain⟨v,ev,cw⟩:=rv.get e3;have hl:=rv.length;refine⟨p,vs,v,rfl,rfl,hp,by rw[hl];exact ev,k.2 B p _ _ h .refl ea ⟨_,rfl,?_⟩ cw⟩;rw[List.dropLast_eq_take,List.dropLast_eq_take,hl];exact rv.take _
 ·cases e
theorem qiM:MtR X "list.clear" (rM M qjc):=MtR.weak (X:=X) qkz λx xs H Q ⟨μ,B,ts,n,h,r,e,k⟩=>by
 unfold qjc at e;split at e
 ·obtain⟨a,eq,ra⟩:=qd1 r;cases eq;obtain⟨q,e1,rfl⟩:=qal e;obtain⟨p,vs,rfl,ea,hp,rv⟩:=qcO h e1 ra;exact⟨p,vs,rfl,rfl,hp,k.2 B p _ _ h .refl ea ⟨_,rfl,.nil⟩ qdx⟩
 ·cases e
end
section
variable {K:W.Frag}{B:qaj}{κ:Type}[DecidableEq κ]
theorem qgG(k:κ): ∀{ts:List (κ×T)} {vs:List (κ×V)},qba K B ts vs->(vs.any λkv=>decide (kv.1=k))=ts.any λkv=>decide (kv.1=k)
 |[],vs,r=>by rw[show vs=[] from r];rfl
 |(k',t)::ts,_,⟨v,r,e,_,b⟩=>by rw[e,List.any_cons,List.any_cons,qgG k b]
theorem qeR{k:κ}{t:T}{v:V}(h:Rep K B t v): ∀{ts:List (κ×T)} {vs:List (κ×V)},qba K B ts vs->qba K B (ts++[(k,t)]) (vs++[(k,v)])
 |[],vs,r=>by rw[show vs=[] from r];exact⟨v,[],rfl,h,rfl⟩
 |(k',t')::ts,_,⟨w,r,e,a,b⟩=>by rw[e];exact⟨w,_,rfl,a,qeR h b⟩
theorem qcK(k:κ){t:T}{v:V}(h:Rep K B t v): ∀{ts:List (κ×T)} {vs:List (κ×V)},qba K B ts vs->qba K B (ts.map λkv=>if kv.1=k then(kv.1,t) else kv) (vs.map λkv=>if kv.1=k then(kv.1,v) else kv)
 |[],vs,r=>by rw[show vs=[] from r];rfl
 |(k',t')::ts,_,⟨w,r,e,a,b⟩=>by
  rw[e,List.map_cons,List.map_cons];by_cases c:k'=k
  ·rw[if_pos c,if_pos c];exact⟨v,_,rfl,h,qcK k h b⟩
  ·rw[if_neg c,if_neg c];exact⟨w,_,rfl,a,qcK k h b⟩
theorem qcL{k:κ}{t:T}{v:V}{ts:List (κ×T)}{vs:List (κ×V)}(r:qba K B ts vs)(h:Rep K B t v):qba K B (qrd ts k t) (qhU vs k v):=by
 unfold qrd qhU;rw[qgG k r];split
 ·exact qcK k h r
 ·exact qeR h r
theorem qeS{k:Key}: ∀{ts:List (Key×T)} {vs:List (Key×V)},qba K B ts vs->qba K B (qnP ts k) (qge vs k)
 |[],vs,r=>by rw[show vs=[] from r];rfl
 |(k',t')::ts,_,⟨w,r,e,a,b⟩=>by
  have ih:=qeS (k:=k) b;unfold qnP qge at ih⊢;rw[e,List.filter_cons,List.filter_cons];by_cases c:k'=k
  ·rw[if_neg (by simp[c]),if_neg (by simp[c])];exact ih
  ·rw[if_pos (by simp[c]),if_pos (by simp[c])];exact⟨w,_,rfl,a,ih⟩
end
section
variable {M:Md}{X:Cx}
theorem qky:MtR X "dict.pop" (rM M qnD):=by
 intro pins s σ H x vs v us Q I rx rv ⟨μ,B,ts,n,h,r,e,k⟩;unfold qnD at e;split at e
 ·obtain⟨a,b,eq,ra,rb⟩:=qfM r;cases eq;obtain⟨q,e1,e2⟩:=bind_some e;obtain⟨ky,e3,e4⟩:=bind_some e2;obtain⟨t,e5,rfl⟩:=qal e4;obtain⟨p,ws,rfl,ea,hp,rw⟩:=qiv h e1 ra;obtain⟨v,ev,cw⟩:=(qcy ky rw).1 t e5;cases rx;obtain⟨u,rfl,ru⟩:=qdg rv;rw[qee e3 rb] at ru;exact qti I hp ru ev (.inl rfl) λw' s3 I3 aw=>⟨v,_,I3,aw,k.2 B p _ _ h .refl ea ⟨_,rfl,qeS rw⟩ cw⟩
 ·cases e
noncomputable def qqb(μ:Mu)(o i v:T):Option (Nat×Ct):=match qm5 μ o,i with
 |some q,.int k=>(ixN q.2.length k).map λj=>(q.1,.ls (q.2.set j v))
 |_,_=>(match qre μ o,qhD i with
  |some q,some k=>if q.2.length<=1000 then some (q.1,.dk (qrd q.2 k v)) else none
  |_,_=>(match qt4 μ o,qrh i with
   |some q,some k=>if q.2.length<=1000 then some (q.1,.du (qrd q.2 k v)) else none
   |_,_=>none))
noncomputable def qrW(M:Md):qrq:=λo i v H Q=> ∃μ B to ti tv q,Hs M μ H B/\Rep M.K B to o/\Rep M.K B ti i/\Rep M.K B tv v/\qqb μ to ti tv=some q/\μ.live q.1=true/\∀a ob,B.ad q.1=some a->qey M.K B q.2 ob->Q (upd H a ob)
theorem qrP(hu:X.A.units+1<cLine):qtx X (qrW M):=by
 intro pins s σ H o i v ov iv u Q I ro ri rv ⟨μ,B,to,ti,tv,q,h,r1,r2,r3,e,lv,k⟩;have l0:1001<=sizeLine:=by decide
 unfold qqb at e;split at e
 ·rename_i p kk e1;obtain⟨j,e2,rfl⟩:=qal e;obtain⟨a,vs,rfl,ea,hp,rw⟩:=qcO h e1 r1;rw[qae r2] at ri;have hl:=rw.length;exact qkb pins s σ H _ _ v ov iv u Q I ro ri rv ⟨a,vs,kk,j,rfl,rfl,hp,by rw[hl];exact e2,k a _ ea ⟨_,rfl,rw.set j r3⟩⟩
 ·split at e
  ·rename_i p ky e1 e2;split at e
   ·rename_i hz;cases e;obtain⟨a,vs,rfl,ea,hp,rw⟩:=qiv h e1 r1;have hl:=rw.length;cases ro;exact qc1 hu I (.inl ⟨vs,ky,hp,qee e2 r2,by omega,rfl⟩) ri rv λs' I'=>⟨_,I',k a _ ea ⟨_,rfl,qcL rw r3⟩⟩
   ·cases e
  ·split at e
   ·rename_i p ky e1 e2;split at e
    ·rename_i hz;cases e;obtain⟨b,rfl,hb⟩:=qf3 h e2 r2;unfold qt4 at e1;split at e1
     ·rename_i kk;obtain⟨a,rfl,ea⟩:=qaz r1;cases ro;split at e1
      ·rename_i el;cases e1;obtain⟨ob,_,ho,us,rfl,ru⟩:=h.at el (by simp) ea;have hl:=ru.length;have hz:_<=1000:=hz;dsimp only at hz;exact qc1 hu I (.inr ⟨us,ky,b,ho,rfl,hb,by rw[hl];omega,rfl⟩) ri rv λs' I'=>⟨_,I',k a _ ea ⟨_,rfl,qcL ru r3⟩⟩
      ·rename_i el;cases e1;obtain⟨ob,_,ho,us,rfl,ru⟩:=h.at el (by simp) ea;have:us=[]:=ru;subst this;have I':=PL.Inv.asT I ho;have bN:upd H a (.dT []) b=some (.tup (ky.map kV)):=by rw[qaa (λz=>by rw[z,ho] at hb;cases hb)];exact hb
       refine qc1 hu I' (.inr ⟨[],ky,b,qac,rfl,bN,by show 0<sizeLine;omega,rfl⟩) ri rv λs' I'=>⟨_,I',?_⟩
       rw[qmk];exact k a _ ea ⟨_,rfl,qcL (ts:=[]) (vs:=[]) rfl r3⟩
      ·cases e1
     ·cases e1
    ·cases e
   ·cases e
theorem qpa {o i value:Expr} {pos pos':Pos} {td ty tv:TE} {t:qrq} (gF:qtx X t) (ho:PE X o td) (hi:PE X i ty) (hv:PE X value tv) (hs:swapsWith value (some (.Subscript o i pos')) pos.line X.env=pure false):
  PS X (.Assign [.Subscript o i pos'] value pos) (λD σ H=>tv σ H λv H1=>td σ H1 λx H2=>ty σ H2 λy H3=>t x y v H3 λH4=>D.nx σ H4):=by
 intro pins s σ H D I h;exact wpAny_Assign_Subscript (thn (hv pins s σ H _ I h) λr s1 ⟨v,H1,I1,rv,q1⟩=>thn (ho pins s1 σ H1 _ I1 q1) λu s2 ⟨x,H2,I2,rx,q2⟩=>thn (hi pins s2 σ H2 _ I2 q2) λiv s3 ⟨y,H3,I3,ry,q3⟩=>
  thn (gF pins s3 σ H3 x y v u iv r _ I3 rx ry rv q3) λ_ s4 ⟨H4,I4,q4⟩=>⟨σ,H4,I4,q4⟩) hs
noncomputable def quh(aV di dv:DS0 T):DS0 Out:=dSq dv λv=>dSq aV λo=>dSq di λi ρ μ=>match qqb μ o i v with
 |some q=>if μ.live q.1=true then .ok (.nx ρ) (μ.put q.1 q.2) else .no
 |none=>.no
theorem qqv {E:XK} {o i value:Expr} {pos pos':Pos} {aV di dv:DS0 T} (hu:X.A.units+1<cLine) (ho:PE X o (tE M E aV)) (hi:PE X i (tE M E di)) (hv:PE X value (tE M E dv)) (hs:swapsWith value (some (.Subscript o i pos')) pos.line X.env=pure false):
  PS X (.Assign [.Subscript o i pos'] value pos) (tS M E (quh aV di dv)):=PS.weak (qpa (qrP (M:=M) hu) ho hi hv hs) λD σ H ⟨ρ,μ,B,ev,w⟩=>by
 refine tE.of ev ((Wn.bind w).mono λt ag w1 v H1 B1 h1 l1 r1=> ?_);refine tE.of (ev.on h1 l1.le) ((Wn.bind w1).lift l1 λx ak w2 u H2 B2 h2 l2 r2=> ?_);have eG:=l1.trans l2;refine tE.of ((ev.on h1 l1.le).on h2 l2.le) ((Wn.bind w2).lift eG λy aX w3 z H3 B3 h3 l3 r3=> ?_);have eF:=eG.trans l3;have w3:Wn M E H B (KS M H B D) (match qqb aX x y t with|some q=>if aX.live q.1=true then .ok (.nx ρ) (aX.put q.1 q.2) else .no|none=>.no):=w3;split at w3
 ·rename_i q eq;split at w3
  ·rename_i lv;refine⟨aX,B3,x,y,t,q,h3,r2.mono l3.le,r3,r1.mono (l2.trans l3).le,eq,lv,λa ob ea hc=> ?_⟩;obtain⟨c0,e0,n0⟩:=Mu.live_at lv;have g:=eF.trans (qsM (H:=H3) (o:=ob) ea);exact w3 σ _ B3 (ev.on (h3.put e0 n0 ea hc) g.le) g
  ·exact w3.elim
 ·exact w3.elim
theorem qjq{E:XK}{pos:Pos}:PE X (.Dict [] [] pos) (tN M E λ_ μ=>.ok (.dk []) μ):=PE.weak qkq λσ H Q ⟨ρ,μ,B,ev,w⟩ p hp=>w p _ H B ev.hs .refl hp ⟨[],rfl,rfl⟩
end
noncomputable def qtn{α:Type}(d e:DS0 α):DS0 α:=λρ μ=>match d ρ μ with|.no=>e ρ μ|r=>r
noncomputable def qb8:Mu->List T->Option Nv:=λ_ _=>none
inductive Bm where
 |append|extend|insert|pop|clear|reverse|count|index|get|dpop|dclear|setdef
noncomputable def Bm.ty:Bm->String
 |.get|.dpop|.dclear|.setdef=> "dict"
 |_=> "list"
noncomputable def Bm.nm:Bm->Str
 |.append=> "append" | .extend=> "extend" | .insert=> "insert" | .pop=> "pop" | .clear=> "clear" | .reverse=> "reverse" | .count=> "count" | .index=> "index" | .get=> "get" | .dpop=> "pop" | .dclear=> "clear" | .setdef=> "setdefault"
noncomputable def Bm.id:Bm->String
 |.append=> "list.append" | .extend=> "list.extend" | .insert=> "list.insert" | .pop=> "list.pop" | .clear=> "list.clear" | .reverse=> "list.reverse" | .count=> "list.count" | .index=> "list.index" | .get=> "dict.get" | .dpop=> "dict.pop" | .dclear=> "dict.clear" | .setdef=> "dict.setdefault"
noncomputable def Bm.g:Bm->Mu->List T->Option Nv
 |.append=>qga|.extend=>qf9|.insert=>qb8|.pop=>qsS|.clear=>qjc|.reverse=>qb8|.count=>qb8|.index=>qb8|.get=>qb8|.dpop=>qnD|.dclear=>qb8|.setdef=>qb8
noncomputable def Bm.all:List Bm:=[.append,.extend,.insert,.pop,.clear,.reverse,.count,.index,.get,.dpop,.dclear,.setdef]
noncomputable def qnp(μ:Mu)(t:T):String:=if(qkC μ t).isSome=true then "list" else if(dkv μ t).isSome=true\/(duv μ t).isSome=true then "dict" else ""
noncomputable def dBM(ow:Bool)(b:Bm)(aV:DS0 T)(ds:DS0 (List T)):DS0 T:=dSq aV λo ρ μ=>if qnp μ o=b.ty then(ds ρ μ).bind λts aa=>nvR ow (b.g aa (o::ts)) aa else .no
section
variable {M:Md}{E:XK}{X:Cx}{e o:Expr}{es:List Expr}{da db aV:DS0 T}{ds:DS0 (List T)}{apos cpos pos p:Pos}{ow:Bool}
theorem qqM(h:PE X e (tE M E da))(h':PE X e (tE M E db)):PE X e (tE M E (qtn da db)):=PE.weak (PE.or h h') λσ H Q ⟨ρ,μ,B,ev,w⟩=>by
 unfold qtn at w;cases q:da ρ μ with
 |no=>rw[q] at w;exact .inr ⟨ρ,μ,B,ev,w⟩
 |ok a m|ex a m=>rw[q] at w;exact .inl ⟨ρ,μ,B,ev,by rw[q];exact w⟩
theorem qjC{f:Value}:qaC X f (rN M qb8):=λ_ _ _ _ _ _ _ _ _ ⟨_,_,_,_,_,_,e,_⟩=>nomatch e
theorem qfW{i:String}:MtR X i (rM M qb8):=λ_ _ _ _ _ _ _ _ _ _ _ _ ⟨_,_,_,_,_,_,e,_⟩=>nomatch e
theorem qci(b:Bm):PlainAttrs b.ty/\Slot b.ty b.nm b.id/\typeOf (.builtin b.id)=pure (.type "method_descriptor"):=by
 cases b with
 |append=>exact⟨F.plainAttrs_list,F.slot_list_append,F.type_list_append⟩
 |extend=>exact⟨F.plainAttrs_list,F.slot_list_extend,F.type_list_extend⟩
 |insert=>exact⟨F.plainAttrs_list,F.slot_list_insert,F.type_list_insert⟩
 |pop=>exact⟨F.plainAttrs_list,F.slot_list_pop,F.type_list_pop⟩
 |clear=>exact⟨F.plainAttrs_list,F.slot_list_clear,F.type_list_clear⟩
 |reverse=>exact⟨F.plainAttrs_list,F.slot_list_reverse,F.type_list_reverse⟩
 |count=>exact⟨F.plainAttrs_list,F.slot_list_count,F.type_list_count⟩
 |index=>exact⟨F.plainAttrs_list,F.slot_list_index,F.type_list_index⟩
 |get=>exact⟨F.plainAttrs_dict,F.slot_dict_get,F.type_dict_get⟩
 |dpop=>exact⟨F.plainAttrs_dict,F.slot_dict_pop,F.type_dict_pop⟩
 |dclear=>exact⟨F.plainAttrs_dict,F.slot_dict_clear,F.type_dict_clear⟩
 |setdef=>exact⟨F.plainAttrs_dict,F.slot_dict_setdefault,F.type_dict_setdefault⟩
theorem qq0(hu:X.A.units+8<cLine)(hK:X.K=M.K)(b:Bm):MtR X b.id (rM M b.g):=by
 cases b with
 |append=>exact qhs
 |extend=>exact qhr
 |insert=>exact qfW
 |pop=>exact qnn
 |clear=>exact qiM
 |reverse|count|index|get=>exact qfW
 |dpop=>exact qky
 |dclear|setdef=>exact qfW
theorem qno{μ:Mu}{H:Hp}{B:qaj}(h:Hs M μ H B){b:Bm}{t:T}{v:V}(e:qnp μ t=b.ty)(r:Rep M.K B t v):tyV M.K b.ty v H:=by
 have nl:b.ty≠ "" :=by cases b<;>decide
 unfold qnp at e;split at e
 ·rename_i hs;obtain⟨ts,hs⟩:=Option.isSome_iff_exists.mp hs;obtain⟨p,vs,rfl,_,sq⟩:=qf0 h hs r;exact .inl ⟨e.symm,vs,sq⟩
 ·split at e
  ·rename_i hs
   rcases hs with hs|hs
   ·obtain⟨ts,hs⟩:=Option.isSome_iff_exists.mp hs;obtain⟨p,vs,rfl,hp,_⟩:=qfl h hs r;exact .inr (.inr (.inl ⟨e.symm,.inl ⟨_,hp⟩⟩))
   ·obtain⟨ts,hs⟩:=Option.isSome_iff_exists.mp hs;obtain⟨p,vs,rfl,hp,_⟩:=qjn h hs r;exact .inr (.inr (.inl ⟨e.symm,.inr ⟨_,hp⟩⟩))
  ·exact absurd e.symm nl
theorem qjJ(b:Bm)(hK:X.K=M.K){σ:St}{H:Hp}{Q:VK}(h:tE M E (dBM ow b aV ds) σ H Q):tBM X.K b.ty (rM M b.g) (tE M E aV) (tA M E ds) σ H Q:=by
 obtain⟨ρ,μ,B,ev,w⟩:=h;refine tE.of ev ((Wn.bind w).mono λx ag w1 v H1 B1 h1 g1 r1=> ?_)
 change Wn M E H B (KE M H B Q) (if qnp ag x=b.ty then(ds ρ ag).bind λts aa=>nvR ow (b.g aa (x::ts)) aa else .no) at w1
 split at w1
 ·rename_i ht;rw[hK];refine⟨qno h1 ht r1,ρ,ag,B1,ev.on h1 g1.le,(Wn.bind w1).lift g1 λts ak w2 vs H2 B2 h2 g2 r2=> ?_⟩;obtain⟨c,m,q,w2⟩:=Wn.pl w2 (λc m=>qhp c m);obtain⟨n,e,kv⟩:=qho q (KE.le w2 (g1.trans g2));exact⟨ak,B2,x::ts,n,h2,.cons (r1.mono g2.le) r2,e,kv⟩
 ·exact w1.elim
theorem qth (b:Bm) (hu:X.A.units+8<cLine) (hK:X.K=M.K) (ho:PE X o (tE M E aV)) (ha:PA X (e::es) (tA M E ds)) (aM:attributeBase o b.nm X.env (eval o X.env)=eval o X.env)
  (dJ:((backTo cpos (starEach (e::es) X.env)).all (λx=> !x.1)&&(backToKw cpos (keywordEach [] X.env)).all (λx=>x.1.isSome)&&decide ((e::es).length+([]:List Keyword).length+(if([]:List Keyword).isEmpty then 0 else 1)<30))=true)
  (ao:(apos.endLine==cpos.line)=true) (hs:starEach (e::es) X.env=(false,eval e X.env)::starEach es X.env) (bq:(backTo cpos (starEach es X.env)).any (·.1)=false):
  PE X (.Call (.Attribute o b.nm apos) (e::es) [] cpos) (tE M E (dBM ow b aV ds)):=
 PE.weak (qm2 (qci b).1 (qci b).2.1 (qci b).2.2 (qq0 hu hK b) ho ha aM dJ ao hs bq) λ_ _ _ h=>qjJ b hK h
theorem qqK (b:Bm) (hu:X.A.units+8<cLine) (hK:X.K=M.K) (ho:PE X o (tE M E aV)) (aM:attributeBase o b.nm X.env (eval o X.env)=eval o X.env) (ao:(apos.endLine==cpos.line)=true):
  PE X (.Call (.Attribute o b.nm apos) [] [] cpos) (tE M E (dBM ow b aV ql7)):=
 PE.weak (qpq (qci b).1 (qci b).2.1 (qci b).2.2 (qq0 hu hK b) ho aM ao) λσ H Q h=>by refine(show tE M E aV σ H λx H1=>tyV X.K b.ty x H1/\tA M E ql7 σ H1 λxs H2=>rM M b.g x xs H2 Q from qjJ b hK h).imp λv H1 ⟨a,ρ,μ,B,ev,w⟩=>⟨a,w [] H1 B ev.hs .refl .nil⟩
theorem qhL:qaC X (.type "dict") (λxs H Q=> ∃a kvs,xs=[V.ref a]/\H a=some (.dK kvs)/\∀p,H p=none->Q (.ref p) (upd H p (.dK kvs))):=by intro pins s σ H xs us Q I r h;obtain⟨a,kvs,rfl,ha,q⟩:=h;obtain⟨u,rfl,ru⟩:=qdg r;cases ru;exact qlb I (.inl ha) λp s' hp I'=>⟨.ref p,_,I',rfl,q p hp⟩
noncomputable def qjb(μ:Mu):List T->Option Nv
 |[a]=>(dkv μ a).map .d
 |_=>none
theorem qoa:qaC X (.type "dict") (rN M qjb):=qaC.ok qhL λμ H B vs ts n Q h r e k=>by
 unfold qjb at e;split at e
 ·obtain⟨v,rfl,a⟩:=qd1 r;obtain⟨kvs,es,rfl⟩:=qal e;obtain⟨p,us,rfl,hp,rv⟩:=qfl h es a;exact⟨p,us,rfl,hp,λl hl=>k B l us h .refl hl rv⟩
 ·cases e
inductive Bn where
 |len|all|any|sum|max|min|abs|lst|tup|srt|dct
noncomputable def Bn.nm:Bn->Str
 |.len=> "len" | .all=> "all" | .any=> "any" | .sum=> "sum" | .max=> "max" | .min=> "min" | .abs=> "abs" | .lst=> "list" | .tup=> "tuple" | .srt=> "sorted" | .dct=> "dict"
noncomputable def Bn.g:Bn->Mu->List T->Option Nv
 |.len=>qsW|.all=>qsZ|.any=>qb8|.sum=>qb8|.max=>qb8|.min=>qsV|.abs=>qb8|.lst=>qnC|.tup=>qb8|.srt=>qf8|.dct=>qjb
noncomputable def Bn.list:List Bn:=[.len,.all,.any,.sum,.max,.min,.abs,.lst,.tup,.srt,.dct]
theorem qoi(b:Bn){σ:St}{H:Hp}{Q:VK}(h:tE M E (dN ow b.g ds) σ H Q):tCB (rN M b.g) (tA M E ds) σ H Q:=by obtain⟨ρ,μ,B,ev,w⟩:=h;refine⟨ρ,μ,B,ev,(Wn.bind w).mono λts ag w1 vs H1 B1 h1 g1 r1=> ?_⟩;obtain⟨c,m,q,w1⟩:=Wn.pl w1 (λc m=>qhp c m);obtain⟨n,e,kv⟩:=qho q (KE.le w1 g1);exact⟨ag,B1,ts,n,h1,r1,e,kv⟩
theorem qly:bootBuiltins "abs" =some (.builtin "abs"):=by decide+kernel
theorem qjH:bootBuiltins "list" =some (.type "list"):=by decide+kernel
theorem qjI:bootBuiltins "dict" =some (.type "dict"):=by decide+kernel
theorem qhM:bootBuiltins "tuple" =some (.type "tuple"):=by decide+kernel
theorem qlx:bootBuiltins "all" =some (.builtin "all"):=by decide+kernel
theorem qlw:bootBuiltins "max" =some (.builtin "max"):=by decide+kernel
theorem qlv:bootBuiltins "min" =some (.builtin "min"):=by decide+kernel
theorem qtg (b:Bn) (hu:X.A.units+8<cLine) (hc:X.calm=true) (hK:X.K=M.K) (hg:Gl X b.nm) (hm:X.mg b.nm=none) (ha:PA X (e::es) (tA M E ds)) (he:starEach (e::es) X.env=(false,eval e X.env)::starEach es X.env) (ax:(backTo pos (starEach es X.env)).any (·.1)=false):
  PE X (.Call (.Name b.nm p) (e::es) [] pos) (tE M E (dN ow b.g ds)):=by
 have hn:b.nm≠ "__name__" :=by cases b<;>decide
 have hd:(b.nm==("__debug__" :Str))=false:=by cases b<;>decide
 refine PE.weak ?_ λ_ _ _ h=>qoi b h;cases b with
 |len=>exact qaL (qqW hK) hg hm PySem.boot_len ha hn hd he ax
 |all=>exact qaL (qqX hc hK) hg hm qlx ha hn hd he ax
 |any=>exact qaL qjC hg hm PL.boot_any' ha hn hd he ax
 |sum=>exact qaL qjC hg hm PL.boot_sum' ha hn hd he ax
 |max=>exact qaL qjC hg hm qlw ha hn hd he ax
 |min=>exact qaL (qqV hc) hg hm qlv ha hn hd he ax
 |abs=>exact qaL qjC hg hm qly ha hn hd he ax
 |lst=>exact qcN (qn9 hK) hg hm qjH ha hn hd he ax
 |tup=>exact qcN qjC hg hm qhM ha hn hd he ax
 |srt=>exact qaL (qjB hc hK) hg hm SetL.boot_sorted ha hn hd he ax
 |dct=>exact qcN qoa hg hm qjI ha hn hd he ax
end
end NV
section
set_option maxHeartbeats 1000000
namespace ZP
open PySem Builtin PySem.Spec
section
variable {prog:Program}{w:World}{A:Around}
structure Apt(z TI TO a b:Addr)(f g:List Addr):Prop where
 tiz:TI≠z
 toz:TO≠z
 az:a≠z
 bz:b≠z
 tito:TI≠TO
 tia:TI≠a
 tib:TI≠b
 toa:TO≠a
 tob:TO≠b
 ab:a≠b
 fz:z∉f
 fo:TO∉f
 fb:b∉f
 gz:z∉g
 go:TO∉g
 ga:a∉g
variable {z TI TO a b:Addr}{f g:List Addr}{n m:Nat}{P R:Nat->Value->Prop}{S U:Nat->Heap->Prop}{s:Shared}
theorem qcc{it:Addr}{fp:List Addr}{n:Nat}{P:Nat->Value->Prop}{S:Nat->Heap->Prop}(D:Draws prog w A it fp n P S){i:Nat}{h h':Heap}{c:Addr}(st:S i h)(hc:c∉fp)(x:Heap.ExtBut c h h'):S i h':=
 D.frame i h h' st λq hq o e=>x q o (λz=>hc (z▸hq)) e
theorem qkw (D:Draws prog w A a f n P S) (G:Draws prog w A b g m R U) (p:Apt z TI TO a b f g) {k:Nat} (hn:k<n) (hm:k<m) {u v:Value} {Q:Value->Shared->Prop} {E:Value->Shared->Prop} (hz:IsZip s.heap z TI TO .none) (ti:IsPair s.heap TI (.ref a) (.ref b)) (to:IsPair s.heap TO u v) (sd:S k s.heap) (sg:U k s.heap)
  (hQ: ∀h' tk x y,P k x->R k y->IsZip h' z TI TO (rawInt s.heap.objs.size)->IsPair h' TO x y->S (k+1) h'->U (k+1) h'->IsPair h' s.heap.objs.size x y->(∀c o,c∉[z,TO,a,b]->s.heap.get? c=some o->h'.get? c=some o)->Q (.ref s.heap.objs.size) { s with heap:=h',toks:=tk }):
  wpAny (model prog w) A (Builtin.«zip.__next__» ⟨[.ref z],[]⟩) (λfin s'=> ∃v,fin= .done (.ret v)/\Q v s') E s:=by
 show wpAny _ _ (field (.ref z) 2>>=_) _ _ _;refine Va (wpAny_field hz rfl (x:=.bool false) rfl ?_);show wpAny _ _ (field (.ref z) 3>>=_) _ _ _;refine Va (wpAny_field hz rfl (x:=.ref TI) rfl (Va (wpAny_seqItems ti rfl ?_)));show wpAny _ _ (SmallTypes.ownedTupleIsFree (.ref z)>>=_) _ _ _;refine Va ?_;unfold SmallTypes.ownedTupleIsFree;refine Va (wpAny_field hz rfl (x:=.none) rfl (Vb ?_));simp only[if_true];refine Va (wpAny_rule (Va (wpAny_field hz rfl (x:=.ref TO) rfl (Va (wpAny_setField_rec hz (by simp) λy1 z1 x1=> ?_)))));have z1:IsZip y1 z TI TO .ellipsis:=z1;refine Va ?_;simp only[List.zipIdx_cons,List.zipIdx_nil,List.forIn_cons,List.forIn_nil];refine Va (Va (wpAny_onRaise ?_));show wpAny _ _ (SmallTypes.nextOf (.ref a)>>=_) _ _ _;refine Va (D.item k _ _ _ hn (qcc D sd p.fz x1.extBut) λx y2 t2 px iF x2=>Vb ?_);have to2:IsPair y2 TO u v:=x2.extBut _ _ p.toa (x1.extBut _ _ p.toz to);refine Va (wpAny_seqItems to2 rfl (Va (wpAny_updateSeq_pair to2 λy3 to3 x3=> ?_)));have to3:IsPair y3 TO x v:=to3;refine Va (wpAny_letGo (Vb ?_));refine Va (Va (wpAny_onRaise ?_));show wpAny _ _ (SmallTypes.nextOf (.ref b)>>=_) _ _ _;refine Va (G.item k _ _ _ hm (qcc G (qcc G (qcc G sg p.gz x1.extBut) p.ga x2.extBut) p.go x3.extBut) λy y4 t4 py sg4 x4=>Vb ?_);have iC:IsPair y4 TO x v:=x4.extBut _ _ p.tob to3;refine Va (wpAny_seqItems iC rfl (Va (wpAny_updateSeq_pair iC λy5 fA x5=> ?_)));have fA:IsPair y5 TO x y:=fA;refine Va (wpAny_letGo (Vb (Vb ?_)));refine Va (wpAny_seqItems fA rfl (Va (wpAny_newTuple ?_)));have sz:y5.objs.size=s.heap.objs.size:=by rw[x5.1,x4.1,x3.1,x2.1,x1.1]
 have z5:IsZip y5 z TI TO .ellipsis:=x5.extBut _ _ p.toz.symm (x4.extBut _ _ p.bz.symm (x3.extBut _ _ p.toz.symm (x2.extBut _ _ p.az.symm z1)));have sd5:S (k+1) y5:=qcc D (qcc D (qcc D iF p.fo x3.extBut) p.fb x4.extBut) p.fo x5.extBut;have sg5:U (k+1) y5:=qcc G sg4 p.go x5.extBut;have zl:z<y5.objs.size:=Vj z5;show wpAny _ _ (SmallTypes.ownedTupleHandOut (.ref z) (.ref y5.objs.size)>>=_) _ _ _;refine Va ?_;unfold SmallTypes.ownedTupleHandOut;have z6:IsZip (y5.push { cls:=.type "tuple",data:=.seq #[x,y] }) z TI TO .ellipsis:=Vh _ z5;refine Va (wpAny_setField_rec z6 (by simp) λy7 z7 x7=> ?_);have z7:IsZip y7 z TI TO (rawInt y5.objs.size):=z7;refine wpAny_setField_rec z7 (by simp) λy8 z8 x8=> ?_;have z8:IsZip y8 z TI TO (rawInt y5.objs.size):=z8;have up: ∀c o,c≠z->y5.get? c=some o->y8.get? c=some o:=λc o n e=>x8.extBut _ _ n (x7.extBut _ _ n (Vh _ e));have nw:IsPair y8 y5.objs.size x y:=x8.extBut _ _ (Nat.ne_of_gt zl) (x7.extBut _ _ (Nat.ne_of_gt zl) (Vi _ rfl));rw[sz] at z8 nw;refine Vb ⟨_,rfl,?_⟩;show Q (.ref y5.objs.size) _;rw[sz];refine hQ y8 t4 x y px py z8 (up _ _ p.toz fA) (D.frame _ _ _ sd5 λq hq o e=>up q o (λi=>p.fz (i▸hq)) e) (G.frame _ _ _ sg5 λq hq o e=>up q o (λi=>p.gz (i▸hq)) e) nw λc o hc e=> ?_;have c1:c≠z:=λi=>hc (by simp[i]);have c2:c≠TO:=λi=>hc (by simp[i]);have c3:c≠a:=λi=>hc (by simp[i]);have c4:c≠b:=λi=>hc (by simp[i]);exact up c o c1 (x5.extBut _ _ c2 (x4.extBut _ _ c4 (x3.extBut _ _ c2 (x2.extBut _ _ c3 (x1.extBut _ _ c1 e)))))
theorem qnj (D:Draws prog w A a f n P S) (G:Draws prog w A b g m R U) (p:Apt z TI TO a b f g) {u v:Value} {Q:Fin->Shared->Prop} {E:Value->Shared->Prop} (hz:IsZip s.heap z TI TO .none) (ti:IsPair s.heap TI (.ref a) (.ref b)) (to:IsPair s.heap TO u v) (sd:S (min n m) s.heap) (sg:U (min n m) s.heap)
  (hE: ∀h' tk e,(∀c o,c∉[z,TO,a,b]->s.heap.get? c=some o->h'.get? c=some o)->(∃o,h'.get? e=some o/\o.cls= .type "StopIteration")->E (.ref e) { s with heap:=h',toks:=tk }):wpAny (model prog w) A (Builtin.«zip.__next__» ⟨[.ref z],[]⟩) Q E s:=by
 show wpAny _ _ (field (.ref z) 2>>=_) _ _ _;refine Va (wpAny_field hz rfl (x:=.bool false) rfl ?_);show wpAny _ _ (field (.ref z) 3>>=_) _ _ _;refine Va (wpAny_field hz rfl (x:=.ref TI) rfl (Va (wpAny_seqItems ti rfl ?_)));show wpAny _ _ (SmallTypes.ownedTupleIsFree (.ref z)>>=_) _ _ _;refine Va ?_;unfold SmallTypes.ownedTupleIsFree;refine Va (wpAny_field hz rfl (x:=.none) rfl (Vb ?_));simp only[if_true];refine Va (wpAny_rule (Va (wpAny_field hz rfl (x:=.ref TO) rfl (Va (wpAny_setField_rec hz (by simp) λy1 z1 x1=> ?_)))));have z1:IsZip y1 z TI TO .ellipsis:=z1;refine Va ?_;simp only[List.zipIdx_cons,List.zipIdx_nil,List.forIn_cons,List.forIn_nil];refine Va (Va (wpAny_onRaise ?_));show wpAny _ _ (SmallTypes.nextOf (.ref a)>>=_) _ _ _;have ne: ∀{h:Heap} {e:Addr} {f0:Value},IsZip h z TI TO f0->(∃o,h.get? e=some o/\o.cls= .type "StopIteration")->e≠z:=λ{h e f0} hz ⟨o,ho,hc⟩ q=>by rw[q] at ho;rw[show h.get? z=_ from hz] at ho;cases ho;simp at hc
 by_cases c:n<=m
 ·rw[Nat.min_eq_left c] at sd;refine Va (D.done _ _ _ (qcc D sd p.fz x1.extBut) λy2 e x2 he=> ?_);have z2:IsZip y2 z TI TO .ellipsis:=x2 _ _ p.az.symm z1;have nz:=ne z2 he;obtain⟨o,ho,hc⟩:=he;refine wpAny_setField_rec z2 (by simp) λy3 _ x3=>hE y3 _ e (λq o hq i=> ?_) ⟨o,x3.extBut _ _ nz ho,hc⟩;have q1:q≠z:=λi=>hq (by simp[i]);have q3:q≠a:=λi=>hq (by simp[i]);exact x3.extBut _ _ q1 (x2 _ _ q3 (x1.extBut _ _ q1 i))
 ·rw[Nat.min_eq_right (Nat.le_of_not_le c)] at sd sg;refine Va (D.item m _ _ _ (by omega) (qcc D sd p.fz x1.extBut) λx y2 t2 px iF x2=>Vb ?_);have to2:IsPair y2 TO u v:=x2.extBut _ _ p.toa (x1.extBut _ _ p.toz to);refine Va (wpAny_seqItems to2 rfl (Va (wpAny_updateSeq_pair to2 λy3 to3 x3=> ?_)));refine Va (wpAny_letGo (Vb ?_));refine Va (Va (wpAny_onRaise ?_));show wpAny _ _ (SmallTypes.nextOf (.ref b)>>=_) _ _ _;refine Va (G.done _ _ _ (qcc G (qcc G (qcc G sg p.gz x1.extBut) p.ga x2.extBut) p.go x3.extBut) λy4 e x4 he=> ?_);have z4:IsZip y4 z TI TO .ellipsis:=x4 _ _ p.bz.symm (x3.extBut _ _ p.toz.symm (x2.extBut _ _ p.az.symm z1));have nz:=ne z4 he;obtain⟨o,ho,hc⟩:=he;refine wpAny_setField_rec z4 (by simp) λy5 _ x5=>hE y5 _ e (λq o hq i=> ?_) ⟨o,x5.extBut _ _ nz ho,hc⟩;have q1:q≠z:=λi=>hq (by simp[i]);have q2:q≠TO:=λi=>hq (by simp[i]);have q3:q≠a:=λi=>hq (by simp[i]);have q4:q≠b:=λi=>hq (by simp[i]);exact x5.extBut _ _ q1 (x4 _ _ q4 (x3.extBut _ _ q2 (x2.extBut _ _ q3 (x1.extBut _ _ q1 i))))
end
end ZP
end
section
set_option maxHeartbeats 1000000
namespace ZP
open PySem Builtin PySem.Spec L2
noncomputable def Sq(K:W.Frag)(t:Bool)(H:Hp)(l:Addr)(xs:List V):Prop:=match t with|true=>SqL K H l xs|false=>SqT K H l xs
noncomputable def qlF(t:Bool)(h:Heap)(it l:Addr)(k:Nat):Prop:=match t with|true=>h.IsListIter it l k|false=>h.IsTupleIter it l k
noncomputable def qhX(t:Bool)(h:Heap)(l:Addr)(xs:Array Value):Prop:=match t with|true=>h.IsList l xs|false=>h.IsTuple l xs
theorem qlF.at_{t:Bool}{h h':Heap}{it l:Addr}{k:Nat}(x:qlF t h it l k)(e: ∀o,h.get? it=some o->h'.get? it=some o):qlF t h' it l k:=by
 cases t with
 |true=>exact Heap.IsListIter.at x e
 |false=>obtain⟨o,ho,r⟩:=x;exact⟨o,e o ho,r⟩
theorem qlF.obj{t:Bool}{h:Heap}{it l:Addr}{k:Nat}(x:qlF t h it l k): ∃o,h.get? it=some o/\∀v,o.data≠.cell v:=by
 cases t with
 |true|false=>obtain⟨o,ho,_,d⟩:=x;exact⟨o,ho,λv q=>by rw[d] at q;cases q⟩
theorem qk1{prog:Program}{w:World}{A:Around}(hh:A.handled=none)(t:Bool)(it l:Addr)(bK:l≠it)(items:Array Value):Draws prog w A it [it,l] items.size (λi v=>items[i]? =some v) (λi h=>qlF t h it l i/\qhX t h l items):=by
 cases t with
 |true=>exact Draws.list hh it l bK items
 |false=>exact TM.draws_tup hh it l bK items
theorem qhh{X:Cx}{pins:List (Addr×Obj)}{σ:St}{H:Hp}{s:Shared}{t:Bool}{l:Addr}{xs:List V}(I:L2.Inv X pins σ H s)(h:Sq X.K t H l xs): ∃its:List Value,qan xs its/\qhX t s.heap l its.toArray/\xs.length<=sizeLine:=by
 cases t with
 |true=>obtain⟨its,r,p,z⟩:=I.list h;exact⟨its,r,p.isList,z⟩
 |false=>obtain⟨its,r,p,z⟩:=I.tuple h;exact⟨its,r,p,z⟩
theorem qlI{X:Cx}{pins:List (Addr×Obj)}{σ:St}{H:Hp}{s:Shared}{t:Bool}{l:Addr}{xs ys:List V}(I:L2.Inv X pins σ H s)(h:Sq X.K t H l xs)(h':Sq X.K t H l ys):xs=ys:=by
 cases t with
 |true=>exact I.list_inj h h'
 |false=>exact I.tuple_inj h h'
theorem qhX.lt{t:Bool}{h:Heap}{l:Addr}{xs:Array Value}(x:qhX t h l xs):l<h.objs.size:=by
 cases t with
 |true|false=>obtain⟨o,ho,_⟩:=x;exact Vj ho
noncomputable def Itx(K:W.Frag)(t u:Bool)(l m:Addr):It:=
 ⟨λi H=> ∃xs ys,Sq K t H l xs/\Sq K u H m ys/\i<xs.length/\i<ys.length,
   λi H v H'=> ∃T x y,v= .ref T/\H T=none/\H'=upd H T (.tup [x,y])/\(∀xs,Sq K t H l xs->xs[i]? =some x)/\∀ys,Sq K u H m ys->ys[i]? =some y,
   λi H=> ∃xs ys,Sq K t H l xs/\Sq K u H m ys/\i=min xs.length ys.length⟩
noncomputable def ZAt(t u:Bool)(z TI TO a b l m:Addr)(i:Nat)(h:Heap):Prop:=IsZip h z TI TO .none/\IsPair h TI (.ref a) (.ref b)/\(∃x y,IsPair h TO x y)/\qlF t h a l i/\qlF u h b m i
structure Far(z TI TO a b l m:Addr):Prop where
 p:Apt z TI TO a b [a,l] [b,m]
 la:l≠a
 mb:m≠b
theorem qs5{P:Addr->Prop}{z TI TO a b:Addr}(h1:P z)(h2:P TI)(h3:P TO)(h4:P a)(h5:P b): ∀c∈[z,TI,TO,a,b],P c:=λc hc=>by
 have hc:c=z\/c=TI\/c=TO\/c=a\/c=b:=by simpa using hc
 rcases hc with rfl|rfl|rfl|rfl|rfl<;>assumption
theorem qh0{P:Program}{w:World}{K:W.Frag}{elts:List Expr}{kk:Nat}{pos:Pos}{t u:Bool}{z TI TO a b l m:Addr}(D:Far z TI TO a b l m):qoz P w K (.Tuple elts kk pos) (Itx K t u l m) [z,TI,TO,a,b] z (ZAt t u z TI TO a b l m) where
 mem:=by simp
 obj:=λi h ⟨q1,q2,⟨x,y,q3⟩,q4,q5⟩=>qs5 ⟨_,q1,λv q=>by have q':Data.fields _=Data.cell v:=q;cases q'⟩ ⟨_,q2,λv q=>by have q':Data.seq _ _=Data.cell v:=q;cases q'⟩ ⟨_,q3,λv q=>by have q':Data.seq _ _=Data.cell v:=q;cases q'⟩ q4.obj q5.obj
 keep:=λi h h' ⟨q1,q2,⟨x,y,q3⟩,q4,q5⟩ k=>⟨k z (by simp) _ q1,k TI (by simp) _ q2,⟨x,y,k TO (by simp) _ q3⟩,q4.at_ λo e=>k a (by simp) o e,q5.at_ λo e=>k b (by simp) o e⟩
 item:=by
  intro X hP hw hK hc i pins s σ H E I hf ⟨q1,q2,⟨x0,y0,q3⟩,q4,q5⟩ ⟨xs,ys,h1,h2,g1,g2⟩;subst hP hw hK;obtain⟨is,r1,p1,_⟩:=qhh I h1;obtain⟨js,r2,p2,_⟩:=qhh I h2;have e1:=r1.length;have e2:=r2.length;have hh:=I.ok.hd hc;have hT:s.TypeIs (.ref z) "zip" :=⟨_,q1,rfl⟩
  unfold pyNext;refine Va (wpAny_attempt (wpAny_callSpecial?_slot (name:=Str.ofString "__next__") hT F.slot_zip_next (wpAny_call_entry F.slot_zip_next hT F.entry_zip_next (qkw (qk1 (A:=X.A.in1) hh t a l D.la is.toArray) (qk1 (A:=X.A.in1) hh u b m D.mb js.toArray) D.p (k:=i) (by simp;omega) (by simp;omega) q1 q2 q3 ⟨q4,p1⟩ ⟨q5,p2⟩ λh' tk x y px py z' to' s' g' nw kp=>Vb ?_) (F.args_zip_next_1 _))));have lt: ∀{c:Addr} {o:Obj},s.heap.get? c=some o->s.heap.objs.size≠c:=λe=>Nat.ne_of_gt (Vj e);have ti':IsPair h' TI (.ref a) (.ref b):=kp _ _ (by simp[D.p.tiz,D.p.tito,D.p.tia,D.p.tib]) q2;refine⟨_,rfl,wpAny_letOwnedTupleGo_zip z' λbo z2 x2=> ?_⟩;have gC:xs[i]? =some xs[i]:=Vx g1;have iN:ys[i]? =some ys[i]:=Vx g2;obtain⟨w1,jg,rw1⟩:=r1.get gC;obtain⟨w2,jf,rw2⟩:=r2.get iN;have eu1:is[i]? =some x:=by simpa using px
  have eu2:js[i]? =some y:=by simpa using py
  rw[eu1] at jg;cases jg;rw[eu2] at jf;cases jf;obtain⟨oa,ha,_⟩:=q4.obj;obtain⟨ob,hb,_⟩:=q5.obj;have nw2:IsPair bo s.heap.objs.size x y:=x2.extBut _ _ (lt q1) nw;have aN: ∀c∈[z,TO,a,b],qgt X pins H c:=λc hc=>hf c (by
   have hc:c=z\/c=TO\/c=a\/c=b:=by simpa using hc
   rcases hc with rfl|rfl|rfl|rfl<;>simp)
  have I1:L2.Inv X pins σ (upd H s.heap.objs.size (.tup [xs[i],ys[i]])) { s with heap:=bo,toks:=tk }:=
   I.turnT aN (λc o hc e=>x2.extBut _ _ (λq=>hc (by simp[q])) (kp c o hc e)) (Vm _) ⟨by show 2<=sizeLine;decide,[x,y],.cons rw1 (.cons rw2 .nil),_,nw2,rfl,_,rfl⟩
  refine⟨.ref s.heap.objs.size,_,I1,rfl,⟨_,_,_,rfl,I.hok.fresh (Vm _),rfl,λxs' cx=>by rw[qlI I cx h1];exact gC,λiB dj=>by rw[qlI I dj h2];exact iN⟩,⟨z2,x2.extBut _ _ D.p.tiz ti',⟨x,y,x2.extBut _ _ D.p.toz to'⟩,s'.1.at_ λo e=>x2.extBut _ _ D.p.az e,g'.1.at_ λo e=>x2.extBut _ _ D.p.bz e⟩,λc hc=> ?_⟩;rw[qaa (qs5 (P:=λc=>c≠s.heap.objs.size) (lt q1).symm (lt q2).symm (lt q3).symm (lt ha).symm (lt hb).symm c hc)];exact(hf c hc).1
 done:=by
  intro X hP hw hK hc i pins s σ H E I hf ⟨q1,q2,⟨x0,y0,q3⟩,q4,q5⟩ ⟨xs,ys,h1,h2,g1⟩;subst hP hw hK;obtain⟨is,r1,p1,_⟩:=qhh I h1;obtain⟨js,r2,p2,_⟩:=qhh I h2;have e1:=r1.length;have e2:=r2.length;have hh:=I.ok.hd hc;have hT:s.TypeIs (.ref z) "zip" :=⟨_,q1,rfl⟩
  have en:i=min is.toArray.size js.toArray.size:=by simp;omega
  subst en;have aN: ∀c∈[z,TO,a,b],qgt X pins H c:=λc hc=>hf c (by
   have hc:c=z\/c=TO\/c=a\/c=b:=by simpa using hc
   rcases hc with rfl|rfl|rfl|rfl<;>simp)
  unfold pyNext;refine Va (wpAny_attempt (wpAny_callSpecial?_slot (name:=Str.ofString "__next__") hT F.slot_zip_next (wpAny_call_entry F.slot_zip_next hT F.entry_zip_next (qnj (qk1 (A:=X.A.in1) hh t a l D.la is.toArray) (qk1 (A:=X.A.in1) hh u b m D.mb js.toArray) D.p q1 q2 q3 ⟨q4,p1⟩ ⟨q5,p2⟩ λh' tk e kp he=> ?_) (F.args_zip_next_1 _))));obtain⟨o,ho,bM⟩:=he;exact Va (wpAny_isInstance (T:= "StopIteration") (b:=true) ⟨o,ho,bM⟩ isSubtype_stop (Vb ⟨rfl,I.turnL aN kp⟩))
 self:=λA i s Q E st h=>wpAny_pyIter_zip st.1 h
end ZP
end
section
set_option maxHeartbeats 1000000
namespace ZP
open PySem Builtin PySem.Spec L2
noncomputable def nmI:Bool->String
 |true=> "list_iterator"
 |false=> "tuple_iterator"
abbrev obI(t:Bool)(l:Addr):Obj:={ cls:=.type (nmI t),data:=.fields #[.ref l,.int 0 0] }
abbrev g1(h:Heap)(t:Bool)(l:Addr):Heap:=h.push (obI t l)
abbrev g2(h:Heap)(t u:Bool)(l m:Addr):Heap:=(g1 h t l).push (obI u m)
abbrev g3(h:Heap)(t u:Bool)(l m:Addr):Heap:=(g2 h t u l m).push { cls:=.type "tuple",data:=.seq #[.ref h.objs.size,.ref (g1 h t l).objs.size] }
abbrev g4(h:Heap)(t u:Bool)(l m:Addr):Heap:=(g3 h t u l m).push { cls:=.type "tuple",data:=.seq #[.none,.none] }
abbrev g5(h:Heap)(t u:Bool)(l m:Addr):Heap:=(g4 h t u l m).push { cls:=.type "zip",data:=.fields #[.none,.bool false,.bool false,.ref (g2 h t u l m).objs.size,.ref (g3 h t u l m).objs.size] }
theorem qhX.psh{t:Bool}{h:Heap}{l:Addr}{xs:Array Value}(x:qhX t h l xs)(o:Obj):qhX t (h.push o) l xs:=by
 cases t with
 |true=>exact Heap.IsList.push x o
 |false=>obtain⟨q,hq,r⟩:=x;exact⟨q,Vh _ hq,r⟩
theorem made(t u:Bool)(l m:Addr)(xs ys:Array Value):Meets (Builtin.«zip.__new__» ⟨[.type "zip",.ref l,.ref m],[]⟩) (λ_ R s=>qhX t s.heap l xs/\qhX u s.heap m ys/\R (.ok (.ret (.ref (g4 s.heap t u l m).objs.size))) { s with heap:=g5 s.heap t u l m }):=
 .of_wp λprog w A R s h=>by
  obtain⟨hp,gg,d,tk,os⟩:=s;obtain⟨a1,a2,h⟩:=h;have hsub:=sub_zip;have a3:qhX u (hp.push (obI t l)) m ys:=a2.psh _;cases t with
  |true=>
   have b1:Heap.IsList (Shared.heap ⟨hp,gg,d,tk,os⟩) l xs:=a1;cases u with
   |true=>
    have b2:Heap.IsList (Shared.heap ⟨hp.push { cls:=.type "list_iterator",data:=.fields #[.ref l,.int 0 0] },gg,d,tk,os⟩) m ys:=a3
    wp_walk using Vg b1,Vg b2
    exact⟨_,rfl,h⟩
   |false=>
    have b2:Heap.IsTuple (Shared.heap ⟨hp.push { cls:=.type "list_iterator",data:=.fields #[.ref l,.int 0 0] },gg,d,tk,os⟩) m ys:=a3
    wp_walk using Vg b1,wpAny_pyIter_tuple b2
    exact⟨_,rfl,h⟩
  |false=>
   have b1:Heap.IsTuple (Shared.heap ⟨hp,gg,d,tk,os⟩) l xs:=a1;cases u with
   |true=>
    have b2:Heap.IsList (Shared.heap ⟨hp.push { cls:=.type "tuple_iterator",data:=.fields #[.ref l,.int 0 0] },gg,d,tk,os⟩) m ys:=a3
    wp_walk using wpAny_pyIter_tuple b1,Vg b2
    exact⟨_,rfl,h⟩
   |false=>
    have b2:Heap.IsTuple (Shared.heap ⟨hp.push { cls:=.type "tuple_iterator",data:=.fields #[.ref l,.int 0 0] },gg,d,tk,os⟩) m ys:=a3
    wp_walk using wpAny_pyIter_tuple b1,wpAny_pyIter_tuple b2
    exact⟨_,rfl,h⟩
section
variable {prog:Program}{w:World}{A:Around}{E:Value->Shared->Prop}{s:Shared}
theorem qgU{t:Bool}{h:Heap}{a l:Addr}(e:h.get? a=some (obI t l)):qlF t h a l 0:=by
 cases t with
 |true|false=>exact⟨_,e,rfl,rfl⟩
theorem qjE {t u:Bool} {l m:Addr} {xs ys:Array Value} {Q:Value->Shared->Prop} (a1:qhX t s.heap l xs) (a2:qhX u s.heap m ys)
  (h: ∀h',ZAt t u (s.heap.objs.size+4) (s.heap.objs.size+2) (s.heap.objs.size+3) s.heap.objs.size (s.heap.objs.size+1) l m 0 h'->(∀c o,s.heap.get? c=some o->h'.get? c=some o)->Q (.ref (s.heap.objs.size+4)) { s with heap:=h' }):wpAny (model prog w) A (call (.type "zip") [.ref l,.ref m]) Q E s:=by
 refine callType_new F.called_zip (by decide) (F.typeCall_zip_2 _ _) (F.newCall_zip_2 _ _) (λobj=>F.args_object_init_3 obj _ _) F.entry_zip_new (made t u l m xs ys) ⟨a1,a2,?_⟩;have z1:(g1 s.heap t l).objs.size=s.heap.objs.size+1:=Heap.size_push ..;have z2:(g2 s.heap t u l m).objs.size=s.heap.objs.size+2:=by rw[Heap.size_push,z1]
 have z3:(g3 s.heap t u l m).objs.size=s.heap.objs.size+3:=by rw[Heap.size_push,z2]
 have z4:(g4 s.heap t u l m).objs.size=s.heap.objs.size+4:=by rw[Heap.size_push,z3]
 have up: ∀{h:Heap} {c:Addr} {o q:Obj},h.get? c=some o->(h.push q).get? c=some o:=λe=>Vh _ e;have e5:(g5 s.heap t u l m).get? (g4 s.heap t u l m).objs.size=some _:=Vi _ rfl;have e4:(g5 s.heap t u l m).get? (g3 s.heap t u l m).objs.size=some _:=up (Vi _ rfl);have e3:(g5 s.heap t u l m).get? (g2 s.heap t u l m).objs.size=some _:=up (up (Vi _ rfl));have e2:(g5 s.heap t u l m).get? (g1 s.heap t l).objs.size=some (obI u m):=up (up (up (Vi _ rfl)));have e1:(g5 s.heap t u l m).get? s.heap.objs.size=some (obI t l):=up (up (up (up (Vi _ rfl))));show _/\_;rw[z2,z3,z4] at e5;rw[z1,z2] at e3;rw[z3] at e4;rw[z1] at e2;rw[z4];exact⟨⟨_,e5,rfl⟩,h _ ⟨e5,e3,⟨_,_,e4⟩,qgU e1,qgU e2⟩ λc o x=>up (up (up (up (up x))))⟩
end
theorem far{n l m:Addr}(hl:l<n)(hm:m<n):Far (n+4) (n+2) (n+3) n (n+1) l m:=by
 have e: ∀{i j:Nat},i≠j->(show Addr from n+i)≠n+j:=λ{i j} h q=>h (Nat.add_left_cancel q);have ol: ∀i:Nat,(show Addr from n+i)≠l:=λi q=>Nat.not_le_of_lt hl (by rw[<-q];exact Nat.le_add_right _ _);have om: ∀i:Nat,(show Addr from n+i)≠m:=λi q=>Nat.not_le_of_lt hm (by rw[<-q];exact Nat.le_add_right _ _);have nn: ∀{c x y:Addr},c≠x->c≠y->c∉[x,y]:=λh h' q=>by simp at q;exact q.elim h h'
 exact⟨⟨e (i:=2) (j:=4) (by decide),e (i:=3) (j:=4) (by decide),e (i:=0) (j:=4) (by decide),e (i:=1) (j:=4) (by decide),e (i:=2) (j:=3) (by decide),e (i:=2) (j:=0) (by decide),e (i:=2) (j:=1) (by decide),e (i:=3) (j:=0) (by decide),e (i:=3) (j:=1) (by decide),e (i:=0) (j:=1) (by decide),
  nn (e (i:=4) (j:=0) (by decide)) (ol 4),nn (e (i:=3) (j:=0) (by decide)) (ol 3),nn (e (i:=1) (j:=0) (by decide)) (ol 1),nn (e (i:=4) (j:=1) (by decide)) (om 4),nn (e (i:=3) (j:=1) (by decide)) (om 3),nn (e (i:=0) (j:=1) (by decide)) (om 0)⟩,(ol 0).symm,(om 1).symm⟩
theorem pi_zipX {X:Cx} {elts:List Expr} {kk:Nat} {c5:Pos} {a b:Expr} {ta:TA} {p pos:Pos} (hg:Gl X "zip") (hm:X.mg "zip" =none) (ha:PA X [a,b] ta) (hs:starEach [a,b] X.env=(false,eval a X.env)::starEach [b] X.env) (ax:(backTo pos (starEach [b] X.env)).any (·.1)=false):
  PI X (.Tuple elts kk c5) (.Call (.Name "zip" p) [a,b] [] pos) (λσ H R=>ta σ H λvs H1=> ∃t u l1 l2 xs ys,vs=[.ref l1,.ref l2]/\Sq X.K t H1 l1 xs/\Sq X.K u H1 l2 ys/\(xs.length<=sizeLine->ys.length<=sizeLine->R (Itx X.K t u l1 l2) H1)):=by intro pins s σ H R I h;refine Vf (qdC I hg hm PyProof.Rows.boot_zip ?_);refine PyProof.Rows.callWith_type1 (thn (ha pos pins s σ H _ I h) λus s1 hq=> ?_) hs ax;obtain⟨vs,H1,I1,r1,t,u,l1,l2,xs,ys,e,h1,h2,q⟩:=hq;subst e;obtain⟨u1,u2,rfl,ru1,ru2⟩:=qjY r1;cases ru1;cases ru2;obtain⟨is,_,p1,z1⟩:=qhh I1 h1;obtain⟨js,_,p2,z2⟩:=qhh I1 h2;refine qjE p1 p2 λh' za kp=>wpAny_pyIter_zip za.1 ?_;refine⟨_,_,_,Itx X.K t u l1 l2,H1,rfl,I1.kept (t':=s1.toks) kp,qh0 (far p1.lt p2.lt),za,λc hc=> ?_,q z1 z2⟩;have hle:s1.heap.objs.size<=c:=qs5 (P:=λc=>s1.heap.objs.size<=c) (Nat.le_add_right _ _) (Nat.le_add_right _ _) (Nat.le_add_right _ _) (Vm _) (Nat.le_add_right _ _) c hc;exact I1.fpOk hle (I1.hok.fresh hle)
end ZP
end
namespace NV
open PySem L2 SR SetL
noncomputable def tyN(μ:Mu):T->Option String
 |.non=>some "NoneType" | .bl _=>some "bool" | .int _=>some "int" | .str _=>some "str" | .tup _=>some "tuple" | .lst _=>some "list" | .dct _=>some "dict"
 |.obj k=>(match μ.l[k]? with|some (.ls _)=>some "list" | some (.dk _)=>some "dict" | some (.du _)=>some "dict" | _=>none)
 |_=>none
noncomputable def qlW(N m:String):Bool:=m==N||(N== "int" &&m== "bool")
noncomputable def qdn(N:String)(t:T)(μ:Mu):R T:=match tyN μ t with
 |some m=>.ok (.bl (qlW N m)) μ
 |none=>.no
noncomputable def qqP(N:String)(da:DS0 T):DS0 T:=dU (qdn N) da
theorem qpU (K:W.Frag) {N m:String} (hN:N∈["int", "bool", "str", "tuple", "list"]) (hm:m∈["NoneType", "bool", "int", "str", "tuple", "list", "dict"]):W.kitOne K (.type m) (.type N)=some (qlW N m):=by
 simp only[List.mem_cons,List.not_mem_nil,or_false] at hN hm
 rcases hN with rfl|rfl|rfl|rfl|rfl<;>rcases hm with rfl|rfl|rfl|rfl|rfl|rfl|rfl<;>rfl
section
variable {M:Md}{E:XK}{X:Cx}{e a:Expr}{da:DS0 T}{p p1 p2 p3 pos:Pos}
theorem qoE{μ:Mu}{H:Hp}{B:qaj}(h:Hs M μ H B){t:T}{v:V}{m:String}(e:tyN μ t=some m)(r:Rep M.K B t v):qgr M.K H v (.type m)/\m∈["NoneType", "bool", "int", "str", "tuple", "list", "dict"]:=by
 unfold tyN at e;split at e
 ·cases e;rw[qcJ r];exact⟨.non,by simp⟩
 ·cases e;rw[qbO r];exact⟨.bl _,by simp⟩
 ·cases e;rw[qae r];exact⟨.int _,by simp⟩
 ·cases e;rw[qaw r];exact⟨.str _,by simp⟩
 ·cases e;obtain⟨p,vs,rfl,hp,_⟩:=qar r;exact⟨.tup (h.bh _ _ hp),by simp⟩
 ·cases e;obtain⟨p,vs,rfl,hp,_⟩:=qax r;exact⟨.lst (h.bh _ _ hp),by simp⟩
 ·cases e;obtain⟨p,vs,rfl,hp,_⟩:=qfO r;exact⟨.dK (h.bh _ _ hp),by simp⟩
 ·obtain⟨p,rfl,ea⟩:=qaz r;split at e
  ·rename_i el;cases e;obtain⟨o,_,ho,vs,rfl,_⟩:=h.at el (by simp) ea;exact⟨.lst ho,by simp⟩
  ·rename_i el;cases e;obtain⟨o,_,ho,vs,rfl,_⟩:=h.at el (by simp) ea;exact⟨.dK ho,by simp⟩
  ·rename_i el;cases e;obtain⟨o,_,ho,vs,rfl,_⟩:=h.at el (by simp) ea;exact⟨.dT ho,by simp⟩
  ·cases e
 ·cases e
theorem qn2 {N:String} {x:Str} (hN:N∈["int", "bool", "str", "tuple", "list"]) (hx:x=Str.ofString N) (hK:X.K=M.K) (hg:Gl X "isinstance") (hm:X.mg "isinstance" =none) (hg2:Gl X x) (eU:X.mg x=none) (he:PE X e (tE M E da))
  (hs:starEach [e,.Name x p2] X.env=(false,eval e X.env)::starEach [.Name x p2] X.env) (bS:starEach [.Name x p2] X.env=(false,eval (.Name x p2) X.env)::starEach [] X.env) (ax:(backTo pos (starEach [.Name x p2] X.env)).any (·.1)=false):
  PE X (.Call (.Name "isinstance" p) [e,.Name x p2] [] pos) (tE M E (qqP N da)):=by
 have bt:bootBuiltins x=some (.type N)/\x≠ "__name__" /\(x==("__debug__" :Str))=false:=by
  subst hx;simp only[List.mem_cons,List.not_mem_nil,or_false] at hN
  rcases hN with rfl|rfl|rfl|rfl|rfl<;>exact⟨by decide+kernel,by decide,by decide⟩
 refine PE.weak (qaL (r:=λxs H Q=> ∃x t T b,xs=[x,.ty T]/\qgr X.K H x t/\W.kitOne X.K t (.type T)=some b/\Q (.bl b) H) qgp hg hm (by decide+kernel) (qaM he (qaM (qiu (v:=.ty N) hg2 eU bt.1 rfl bt.2.1 bt.2.2) qbn bS) hs) (by decide) (by decide) hs ax) λσ H Q ⟨ρ,μ,B,ev,w⟩=> ?_;refine tE.of ev ((Wn.bind w).mono λt ag w1 v H1 B1 h1 g1 r1=> ?_);have w1:Wn M E H B (KE M H B Q) (qdn N t ag):=w1;unfold qdn at w1;split at w1
 ·rename_i m em;obtain⟨ty,hm⟩:=qoE h1 em r1;rw[hK];exact⟨v,_,N,_,rfl,ty,qpU M.K hN hm,w1 _ H1 B1 h1 g1 qa8⟩
 ·exact w1.elim
noncomputable def qud(μ:Mu):T->Option Nv:=λt=>(qkC μ t).bind λts=>if ts.length<64 then(match qjO ts with
 |some ss=>some (.l ((qoR RH.ltS (dd ss)).map T.str))
 |none=>(qjP ts).map λss=>.l ((qoR (λa b=>decide (a<b)) (dd ss)).map T.int)) else none
noncomputable def qja(μ:Mu):T->Option Nv:=λt=>(qkC μ t).bind λts=>if ts.length<64 then(match qjO ts with
 |some ss=>some (.v (.int (dd ss).length))
 |none=>(qjP ts).map λss=>.v (.int (dd ss).length)) else none
noncomputable def dNu(ow:Bool)(g:Mu->T->Option Nv)(da:DS0 T):DS0 T:=dU (λt μ=>nvR ow (g μ t) μ) da
end
noncomputable def qmg(xs ys:List T):List T:=(xs.zip ys).map λp=>.tup [p.1,p.2]
noncomputable def sq2:T->Option (Bool×List T)
 |.lst xs=>some (true,xs)
 |.tup xs=>some (false,xs)
 |_=>none
noncomputable def sqO(t:Bool)(vs:List V):HO:=match t with|true=>.lst vs|false=>.tup vs
theorem qlJ{K:W.Frag}{B:qaj}{a:T}{t:Bool}{xs:List T}{v:V}(e:sq2 a=some (t,xs))(r:Rep K B a v): ∃p us,v= .ref p/\B p=some (sqO t us)/\Reps K B xs us:=by
 cases a with
 |lst _=>cases e;exact qax r
 |tup _=>cases e;exact qar r
 |_=>cases e
noncomputable def qjU:List T->Mu->R Ito
 |[a,b],μ=>(match sq2 a,sq2 b with|some p,some q=>.ok (.fx (qmg p.2 q.2)) μ|_,_=>.no)
 |_,_=>.no
section
variable {M:Md}{E:XK}{X:Cx}{a b:Expr}{ds:DS0 (List T)}
theorem qqz {elts:List Expr} {kk:Nat} {c5 p pos:Pos} (hg:Gl X "zip") (hm:X.mg "zip" =none) (ha:PA X [a,b] (tA M E ds)) (hK:X.K=M.K) (hs:starEach [a,b] X.env=(false,eval a X.env)::starEach [b] X.env) (ax:(backTo pos (starEach [b] X.env)).any (·.1)=false):
  PI X (.Tuple elts kk c5) (.Call (.Name "zip" p) [a,b] [] pos) (tI M E (dIA qjU ds)):=by
 refine PI.weak (ZP.pi_zipX hg hm ha hs ax) λσ H R ⟨ρ,μ,B,ev,w⟩=>⟨ρ,μ,B,ev,(Wn.bind w).mono λts m w1 vs H1 B1 h1 g1 r1=> ?_⟩
 change Wn M E H B (KI M H B R) (qjU ts m) at w1
 unfold qjU at w1;split at w1
 ·rename_i x0 y0;split at w1
  case h_2=>exact w1.elim
  rename_i p q ea eb;obtain⟨t,xs⟩:=p;obtain⟨u,ys⟩:=q;obtain⟨v,v',rfl,a1,a2⟩:=qfM r1;obtain⟨p1,us,rfl,eS,ra⟩:=qlJ ea a1;obtain⟨p2,ws,rfl,cA,rb⟩:=qlJ eb a2;have sq: ∀{H':Hp} {B':qaj} {t:Bool} {p:Addr} {us:List V},(∀a o,B' a=some o->H' a=some o)->B' p=some (sqO t us)->ZP.Sq M.K t H' p us:=λ{H' B' t p us} le e=>by
   cases t with
   |true=>exact SqL.of (le _ _ e)
   |false=>exact SqT.of (le _ _ e)
  have l1:=ra.length;have l2:=rb.length;have lz:(qmg xs ys).length=min us.length ws.length:=by unfold qmg;rw[List.length_map,List.length_zip,l1,l2]
  rw[hK];refine⟨t,u,p1,p2,us,ws,rfl,sq h1.bh eS,sq h1.bh cA,λz1 z2=> ?_⟩;refine w1 _ H1 B1 h1 g1 (by show(qmg xs ys).length<=_;omega) λaa H' B' h' le i=>⟨λt et=> ?_,λhl hi=> ?_⟩
  ·have q1:=sq h'.bh (le.h _ _ eS);have q2:=sq h'.bh (le.h _ _ cA);have et:=Option.some.inj et;unfold qmg at et;rw[List.getElem?_map] at et;cases q:(xs.zip ys)[i]? with
   |none=>rw[q] at et;cases et
   |some c=>rw[q] at et;cases et;have hi:=(List.getElem?_eq_some_iff.mp q).1;rw[List.length_zip] at hi;obtain⟨c1,c2⟩:=c;obtain⟨qa,qb⟩:=List.getElem?_zip_eq_some.mp q;obtain⟨u,eu,ru⟩:=ra.get qa;obtain⟨w',ew,aw⟩:=rb.get qb;refine⟨⟨us,ws,q1,q2,by omega,by omega⟩,λy aW ⟨T',x,y',e1,e2,e3,e4,e5⟩=> ?_⟩;have z1:=e4 us q1;have z2:=e5 ws q2;rw[eu] at z1;cases z1;rw[ew] at z2;cases z2;subst e1 e3;have iL:=le.trans (h'.upd_le (o:=.tup [u,w']) (h'.fr e2));exact⟨_,h'.new e2 (λps z=>by cases z),h'.gnew e2,qcQ qac (.cons (ru.mono iL) (.cons (aw.mono iL) .nil))⟩
  ·have hi:=List.getElem?_eq_none_iff.mp (Option.some.inj hi);have hl:=hl _ rfl;have hi:(qmg xs ys).length<=i:=hi;have hl:i<=(qmg xs ys).length:=hl;exact⟨us,ws,sq h'.bh (le.h _ _ eS),sq h'.bh (le.h _ _ cA),by omega⟩
 ·exact w1.elim
end
end NV
namespace NV
open PySem L2
noncomputable def qak:Expr->Bool
 |.Starred _ _=>false
 |_=>true
noncomputable def qdz:Expr->Bool
 |.ListComp _ _ _ _=>false
 |.SetComp _ _ _ _=>false
 |.DictComp _ _ _ _ _=>false
 |_=>true
noncomputable def qcP:Expr->Bool
 |.Call (.Name _ _) [] [] _=>false
 |_=>true
noncomputable def qbN:Expr->Bool
 |.Set _ _ _=>false
 |_=>true
noncomputable def qiH:Expr->Bool
 |.Slice _ _ _ _=>false
 |_=>true
section
variable {env:Env}{e:Expr}{es:List Expr}{pos:Pos}
theorem qbM(h:qak e=true):starEach (e::es) env=(false,eval e env)::starEach es env:=by cases e<;>first|rfl|cases h
theorem qbc: ∀{es:List Expr},es.all qak=true->(backTo pos (starEach es env)).any (·.1)=false
 |[],_=>rfl
 |e::es,h=>by rw[List.all_cons,Bool.and_eq_true] at h;rw[qbM h.1];show(false||(backTo pos (starEach es env)).any (·.1))=false;rw[qbc h.2];rfl
theorem qgz: ∀{es:List Expr},es.all qak=true->(backTo pos (starEach es env)).all (λx=> !x.1)=true
 |[],_=>rfl
 |e::es,h=>by rw[List.all_cons,Bool.and_eq_true] at h;rw[qbM h.1];show(!false&&(backTo pos (starEach es env)).all (λx=> !x.1))=true;rw[qgz h.2];rfl
theorem ql1(h:es.all qak=true)(hl:es.length<30):((backTo pos (starEach es env)).all (λx=> !x.1)&&(backToKw pos (keywordEach [] env)).all (λx=>x.1.isSome)&&decide (es.length+([]:List Keyword).length+(if([]:List Keyword).isEmpty then 0 else 1)<30))=true:=by rw[qgz h];show(true&&true&&decide (es.length+0+0<30))=true;simp[hl]
theorem qex{o:Expr}{m:Str}{w:Sem Value}(h:qcP o=true):attributeBase o m env w=w:=by
 unfold attributeBase;split
 ·cases h
 ·rfl
theorem qom(h:qak e=true):(assignEach (e::es) env).map (·.2)=assign e env::(assignEach es env).map (·.2):=by cases e<;>first|rfl|cases h
theorem qdN: ∀{es:List Expr},(assignEach es env).length=es.length
 |[]=>rfl
 |e::es=>by cases e<;>(show _+1=_;rw[qdN];rfl)
theorem qfy: ∀{es:List Expr},es.all qak=true->(assignEach es env).findIdx? (·.1)=none
 |[],_=>rfl
 |e::es,h=>by
  rw[List.all_cons,Bool.and_eq_true] at h;have ih:=qfy h.2;have e1:assignEach (e::es) env=(false,assign e env)::assignEach es env:=by have h1:=h.1;cases e<;>first|rfl|cases h1
  rw[e1,List.findIdx?_cons,ih];rfl
theorem qcv{t:Option Expr}{l:Nat}(h:qdz e=true):swapsWith e t l env=pure false:=by cases e<;>first|rfl|cases h
theorem qgx{t:Expr}{l:Nat}(h: ∀x p,t≠.Name x p):swapsWith e (some t) l env=pure false:=by cases e<;>first|rfl|(cases t<;>first|rfl|exact absurd rfl (h _ _))
theorem qgO{op:CmpOp}(h:qbN e=true):behindInMarks op e=false:=by cases e<;>first|rfl|cases h
theorem qdy{o p:CmpOp}{b c:Expr}(h:qbN c=true):lastMarks [o,p] [b,c]=false:=by cases c<;>first|rfl|cases h
theorem qd8(h:qbN e=true)(x:Value):foldedSetIterable e env x=pure x:=by cases e<;>first|rfl|cases h
theorem qhq(h:qiH e=true):qjQ e:=λo i=>by cases e<;>first|rfl|cases h
end
theorem qg8{ns:List Str}{us:List Value}(hl:us.length=ns.length)(nd:ns.Nodup):(∀n∈ns,((ns.zip us).lookup n).isNone=false)/\ns.filterMap (λn=>((ns.zip us).lookup n).map (n, ·))=ns.zip us:=by
 induction ns generalizing us with
 |nil=>exact⟨(λ_ h=>nomatch h),rfl⟩
 |cons x ns ih=>
  cases us with
  |nil=>cases hl
  |cons u us=>
   obtain⟨nx,nd⟩:=List.nodup_cons.mp nd;obtain⟨h1,h2⟩:=ih (us:=us) (by simpa using hl) nd;have ne: ∀n∈ns,(n==x)=false:=λn hn=>by simp only[beq_eq_false_iff_ne];rintro rfl;exact nx hn
   refine⟨λn hn=> ?_,?_⟩
   ·rw[List.zip_cons_cons,List.lookup_cons]
    rcases List.mem_cons.mp hn with rfl|hn
    ·simp
    ·rw[ne n hn];exact h1 n hn
   ·rw[List.zip_cons_cons,List.filterMap_cons,List.lookup_cons];simp only[beq_self_eq_true,Option.map_some]
    congr 1
    refine Eq.trans ?_ h2;clear h1 h2 ih;have go: ∀l:List Str,(∀n∈l,(n==x)=false)->l.filterMap (λn=>(((x,u)::ns.zip us).lookup n).map (n, ·))=l.filterMap (λn=>((ns.zip us).lookup n).map (n, ·)):=λl=>by
     induction l with
     |nil=>exactλ_=>rfl
     |cons y l ihl=>intro h;rw[List.filterMap_cons,List.filterMap_cons,ihl (λn hn=>h n (List.mem_cons_of_mem _ hn)),List.lookup_cons,h y List.mem_cons_self]
    exact go ns ne
theorem qb2 {fd:FuncData} {us:List Value} (h1:fd.params.posonlyargs=[]) (h2:fd.params.vararg=none) (h3:fd.params.kwonlyargs=[]) (h4:fd.params.kwarg=none) (h5:fd.defaults= .none) (nd:(fd.params.args.map (·.arg)).Nodup) (hl:us.length=(fd.params.args.map (·.arg)).length):
  bindArgs fd ⟨us,[]⟩=pure ((fd.params.args.map (·.arg)).zip us):=by
 obtain⟨z1,z2⟩:=qg8 hl nd;have e1:seqItems? Value.none=pure none:=rfl;unfold bindArgs;simp only[h1,h2,h3,h4,h5,e1,List.map_nil,List.nil_append,List.forIn_nil,pure_bind,List.append_nil,Option.isNone_none,Bool.and_true,Option.getD_none];have hm:(List.filter (λn=>(List.lookup n ((List.map (λx=>x.arg) fd.params.args).zip us)).isNone) (List.map (λx=>x.arg) fd.params.args))=[]:=by rw[List.filter_eq_nil_iff];intro n hn;rw[z1 n hn];decide
 rw[if_neg (by simp only[decide_eq_true_eq];omega)];simp only[List.drop_nil,List.length_nil,Nat.sub_zero,List.take_length,hm,List.isEmpty_nil,Bool.not_true,List.zip_nil_right,List.forIn_nil,pure_bind,z2];rfl
open SR SetL
inductive KB where
 |one (i:Nat)|parts (l:List (Bool×Nat))
noncomputable def qsh(us:List T)(p:Bool×Nat):Option T:=(us[p.2]?).bind λt=>if p.1=true then(match t with|.int n=>some (.int (-n))|_=>none) else some t
noncomputable def qt9:KB->T->Option T
 |.one i,.tup us=>us[i]?
 |.parts l,.tup us=>(l.mapM (qsh us)).map .tup
 |_,_=>none
noncomputable def ql0(b:KB)(μ:Mu)(t:T):Option Nv:=(qkC μ t).bind λts=>(ts.mapM (qt9 b)).bind λks=>if ts.length<64/\qcw ks=true then some (.l (PL.sortBy (λt=>qiV ((qt9 b t).getD .non)) ts)) else none
noncomputable def qrK(x:Str):Expr->Option Nat
 |.Subscript (.Name y _) (.Constant (.int i) _ _) _=>if y=x/\0<=i then some i.toNat else none
 |_=>none
noncomputable def qsg(x:Str):Expr->Option (Bool×Nat)
 |.UnaryOp .USub e _=>(qrK x e).map λi=>(true,i)
 |e=>(qrK x e).map λi=>(false,i)
noncomputable def qua(x:Str):Expr->Option KB
 |.Tuple es _ _=>if es.length<=100 then(es.mapM (qsg x)).map .parts else none
 |e=>(qrK x e).map .one
theorem Hs.sameT{M:Md}{μ:Mu}{H H2:Hp}{B:qaj}{P:Addr}{ps:Array Value}(h:Hs M μ H B)(hP:H P=some (.tbl ps))(same:qfB P H H2)(ne: ∀b,H b≠none->H2 b≠none)(g:M.G.P H2):Hs M μ H2 B/\Go H B H2 B:=by
 have nP: ∀a o,B a=some o->a≠P:=λa o e z=>by subst z;have:=h.bh _ _ e;rw[hP] at this;cases this;exact h.bt _ _ e
 refine⟨⟨λa o e=>same a o (h.bh a o e) (nP a o e),h.bt,g,λk c e n=> ?_,h.ij,λk a e=>⟨(h.dm k a e).1,ne a (h.dm k a e).2⟩,h.lk,h.ln⟩,⟨.refl _,λa o e _ t=>same a o e (λz=>by rw[z,hP] at e;cases e;exact t _ rfl),λ_ _ e=>.inl e,ne,λ_ _ _ _ _ _=>rfl⟩⟩;obtain⟨a,o,e1,e2,e3,e4⟩:=h.st k c e n;refine⟨a,o,e1,e2,same a o e3 (λz=> ?_),e4⟩;rw[z,hP] at e3;cases e3
 rcases e4.mb n with⟨_,e⟩|⟨_,e⟩|⟨_,e⟩|⟨_,_,_,e⟩<;>cases e
structure Lm(M:Md)(X:Cx)(c P:Addr)(qual:Str):Prop where
 cd:X.env.code= .ref c
 hd:W.CodeHd X.base c P
 bm:qfD X.mg X.base
 q:X.env.qual++("<lambda>" :Str)=qual
 t: ∀H,M.G.P H->qgs P qual H
 t': ∀H H2,M.G.P H->qfB P H H2->(∀b,H b≠none->H2 b≠none)->qgs P qual H2->M.G.P H2
end NV
namespace NV
open PySem L2
noncomputable def qn6(wd:Str->Option Str)(fr:List Nat)(d:DS0 T):DS0 T:=λρ μ=>match d (qbl 0 fr ρ) μ with
 |.ok t m=>.ok t m
 |.ex c m=>(match wd c with|some x=>.ok (.str x) m|none=>.no)
 |.no=>.no
structure Td(M:Md)(P:Program)(w:World)(mg:Str->Option Value)(base:Heap)(wd:Str->Option Str)(st:Stmt)(fT fC CA:Addr)(fdT fdC:FuncData)(bmA:List Value)(wa:Addr->Option Str):Prop where
 tx:qfA st
 f:Fun M.K "_law_told" "_law_told" st fT fdT
 m:mg "_law_told" =some (.ref fT)
 b:qaO M.K fdT ["_law_deed"] []
 a:mg "AskError" =some (.ref CA)
 e:qdf base CA bmA
 g:FnN P w M.K mg base 1 fC fdC ["_law_kept"] (qhi base wa)
 mc:mg "_law_class" =some (.ref fC)
 kc:W.keepIn M.K (.ref fC)=true
 bc:qaO M.K fdC ["_law_kept"] []
 wd: ∀c x,wd c=some x->∃bm,qdf base (clA M.K c) bm/\(Value.ref (clA M.K c)::bm).contains (.ref CA)=true/\wa (clA M.K c)=some x
section
variable {M:Md}{E:XK}{X:Cx}{st:Stmt}{fT fC CA P c:Addr}{fdT fdC:FuncData}{bmA:List Value}{wa:Addr->Option Str}{wd:Str->Option Str}{params:Arguments}{body:Expr}{scope:Scope}{bF p pos:Pos}{qual:Str}{fr:List (Str×Nat)}{d:DS0 T}{k:Nat}
theorem qnY (hK:X.K=M.K) (D:Td M X.prog X.w X.mg X.base wd st fT fC CA fdT fdC bmA wa) (gZ:Gl X "_law_told") (L:Lm M X c P qual) (hd:defaultsOf params X.env=([],[]))
  (dI: ∀x,X.fn x=true) (hk:scope.kind= .function) (fe:scope.isCoroutine=false) (cj:scope.isGenerator=false) (aj: ∀y∈scope.names,y.2≠.cell)
  (ah: ∀y∈scope.names,y.2= .free->X.env.kindOf y.1=some .cell\/X.env.kindOf y.1=some .free) (aO: ∀p∈fr,X.N[p.2]? =some p.1/\scope.names.lookup p.1=some .free)
  (hb: ∀(au:List (Str×Addr)) (pm cv aD:Value),bindArgs (W.kla_fn "<lambda>" qual params body scope au pm cv aD) ⟨[],[]⟩=pure []) (hr:qaX (k+3) X.A)
  (av: ∀(A:Around) (outer:List Env) (s:Shared) (H:Hp) (f c':Addr) (E:XK),qaX k (A.deeper (qbQ scope s.heap.objs.size (clOf X.env scope.names []) qual f c'))->
   PE (qfm X.prog X.w X.K X.mg X.base (fr.map (·.1)) (qbQ scope s.heap.objs.size (clOf X.env scope.names []) qual f c') A outer s H E) body (tE M E d)):
  PE X (.Call (.Name "_law_told" p) [.Lambda params body scope bF] [] pos) (tE M E (qn6 wd (fr.map (·.2)) d)):=by
 refine PE.weak (qmW (t:=λE=>tE M E d) D.tx (by rw[hK];exact D.f) D.m (by rw[hK];exact D.b) gZ D.a D.e (by rw[hK];exact D.g) D.mc (by rw[hK];exact D.kc) (by rw[hK];exact D.bc) (qmZ L.cd L.hd L.bm ah hd L.q) dI hk fe cj aj ah aO hb hr av
  (λE E' σ H Q f ⟨ρ,μ,B,ev,w⟩=>⟨ρ,μ,B,ev,w.imp f⟩) rfl) λσ H Q ⟨ρ,μ,B,ev,w⟩=> ?_
 have tab:=L.t _ ev.hs.gm;obtain⟨ps,hP,_⟩:=id tab;refine⟨tab,λf c' aD H' tq same dm hf0 hf hc=> ?_⟩;obtain⟨h2,l2⟩:=ev.hs.sameT hP same dm (L.t' _ _ ev.hs.gm same dm tq);have ev2:=qjl (own:=[]) (fr:=fr) (ev.on h2 l2.le);refine⟨_,μ,B,ev2,?_⟩;show Wn M _ H' B _ (d (qbl 0 (fr.map (·.2)) ρ) μ);unfold qn6 at w;cases q:d (qbl 0 (fr.map (·.2)) ρ) μ with
 |no=>rw[q] at w;exact w
 |ok t m=>rw[q] at w;exact KE.le w l2
 |ex c0 m=>
  rw[q] at w;intro H3 B3 h3 g3;dsimp only at w;cases q2:wd c0 with
  |none=>rw[q2] at w;exact w.elim
  |some x=>rw[q2] at w;obtain⟨bm,b1,b2,b3⟩:=D.wd c0 x q2;exact⟨_,bm,x,rfl,b1,b2,b3,λH4 s4=>w (.str x) H4 B3 (h3.more s4) ((l2.trans g3).trans (Go.more s4)) qcm⟩
end
open PL (luS TopT)
noncomputable def qeJ(neg:Bool)(tbl:List (Str×Str)):T->Mu->R T
 |.str z,μ=>.ok (.bl (if neg=true then !(luS tbl z).isSome else(luS tbl z).isSome)) μ
 |_,_=>.no
noncomputable def qfJ(tbl:List (Str×Str)):T->Mu->R T
 |.str z,μ=>(match luS tbl z with|some g=>.ok (.fn g) μ|none=>.no)
 |_,_=>.no
noncomputable def qjz(Fn:Str->Option (List T->Mu->R T))(i:Nat)(ds:DS0 (List T)):DS0 T:=λρ μ=>match ρ[i]? with
 |some (some (.fn g))=>(match Fn g with|some f=>qen f ds ρ μ|none=>.no)
 |_=>.no
section
variable {M:Md}{E:XK}{X:Cx}{e a k value:Expr}{es:List Expr}{pos p dp:Pos}{i n:Nat}{x D:Str}{da:DS0 T}{ds:DS0 (List T)}{tbl:List (Str×Str)}
theorem qeZ {a:Addr} {es:Array DictEntry} {n:Nat} (hl:X.K.lookup a=some ⟨.type "dict",none,.dict es n, #[]⟩) (hk:W.KeysLit X.w.params es.toList) (lo:(a==sysModules)=false)
  (hz: ∀z,match luS tbl z with|none=>findBy Value.isStrOf es z=none|some g=> ∃f,findBy Value.isStrOf es z=some (.ref f)/\W.nsIn X.K mainGlobals g=some (some (.ref f))):
  OpR X (compareOp .NotIn) (λx y H Q=> ∃z,x= .str z/\y= .ref a/\Q (.bl (!(luS tbl z).isSome)) H):=by
 intro pins s σ H x y v u Q I rx ry q;obtain⟨z,rfl,rfl,q⟩:=q;obtain⟨t,rfl⟩:=rx;cases ry;refine PySem.wpAny_notIn_of (PySem.strKind_is X.prog X.w z t) lo (W.mapOf_K (prog:=X.prog) I.kIn hl hk) ?_;have:(findBy Value.isStrOf es z).isSome=(luS tbl z).isSome:=by
  have:=hz z;split at this
  ·rename_i e;rw[this,e];rfl
  ·rename_i g e;obtain⟨f,h1,_⟩:=this;rw[h1,e];rfl
 rw[this];exact⟨.bl _,H,I.tok _,rfl,q⟩
theorem qbF{neg:Bool}{ad:Addr}{σ:St}{H:Hp}{Q:VK}(h:tE M E (dU (qeJ neg tbl) da) σ H Q):tE M E da σ H λx H1=> ∃z,x= .str z/\Q (.bl (if neg=true then !(luS tbl z).isSome else(luS tbl z).isSome)) H1:=by
 obtain⟨ρ,μ,B,ev,w⟩:=h;refine tE.of ev ((Wn.bind w).mono λt ag w1 v H1 B1 h1 g1 r1=> ?_);have w1:Wn M E H B (KE M H B Q) (qeJ neg tbl t ag):=w1;cases t with
 |str z=>exact⟨z,qaw r1,w1 _ H1 B1 h1 g1 qa8⟩
 |_=>exact w1.elim
theorem qk5 (T0:TopT X.K X.mg X.w D tbl) (hg:Gl X D) (ha:PE X e (tE M E da)) (hd:(D==("__debug__" :Str))=false) (neg:Bool):PE X (.Compare e [if neg=true then .NotIn else .In] [.Name D dp] pos) (tE M E (dU (qeJ neg tbl) da)):=by
 obtain⟨ad,es,n,mD,hl,hk,lo,hz⟩:=T0;cases neg with
 |false=>refine PE.weak (qfR (PL.op_topin hl hk lo hz) ha (qbW hg mD (v:=.ref ad) rfl hd) rfl) λσ H Q hq=> ?_;obtain⟨ρ,μ,B,ev,w⟩:=qbF (ad:=ad) hq;exact⟨ρ,μ,B,ev,w.mono λt ag w1 v H1 B1 h1 g1 r1=>let ⟨z,e1,q⟩:=w1 v H1 B1 h1 g1 r1;⟨z,e1,rfl,q⟩⟩
 |true=>refine PE.weak (qfR (qeZ hl hk lo hz) ha (qbW hg mD (v:=.ref ad) rfl hd) rfl) λσ H Q hq=> ?_;obtain⟨ρ,μ,B,ev,w⟩:=qbF (ad:=ad) hq;exact⟨ρ,μ,B,ev,w.mono λt ag w1 v H1 B1 h1 g1 r1=>let ⟨z,e1,q⟩:=w1 v H1 B1 h1 g1 r1;⟨z,e1,rfl,q⟩⟩
theorem qkX (T0:TopT X.K X.mg X.w D tbl) (hg:Gl X D) (ha:PE X e (tE M E da)) (hd:(D==("__debug__" :Str))=false) (neg:Bool):PT X (.Compare e [if neg=true then .NotIn else .In] [.Name D dp] pos) (tT M E (dTB (dU (qeJ neg tbl) da))):=by
 obtain⟨ad,es,n,mD,hl,hk,lo,hz⟩:=T0;cases neg with
 |false=>refine PT.weak (qd5 (PL.op_topin hl hk lo hz) ha (qbW hg mD (v:=.ref ad) rfl hd) rfl) λσ H Q hq=> ?_;obtain⟨ρ,μ,B,ev,w⟩:=qbF (ad:=ad) (qcG hq);exact⟨ρ,μ,B,ev,w.mono λt ag w1 v H1 B1 h1 g1 r1=>let ⟨z,e1,q⟩:=w1 v H1 B1 h1 g1 r1;⟨z,e1,rfl,q⟩⟩
 |true=>refine PT.weak (qd5 (qeZ hl hk lo hz) ha (qbW hg mD (v:=.ref ad) rfl hd) rfl) λσ H Q hq=> ?_;obtain⟨ρ,μ,B,ev,w⟩:=qbF (ad:=ad) (qcG hq);exact⟨ρ,μ,B,ev,w.mono λt ag w1 v H1 B1 h1 g1 r1=>let ⟨z,e1,q⟩:=w1 v H1 B1 h1 g1 r1;⟨z,e1,rfl,q⟩⟩
theorem qjv (T0:TopT X.K X.mg X.w D tbl) (hg:Gl X D) (ha:PE X k (tE M E da)) (hK:X.K=M.K) (hs:qus k) (hd:(D==("__debug__" :Str))=false):PE X (.Subscript (.Name D dp) k pos) (tE M E (dU (qfJ tbl) da)):=by
 obtain⟨ad,es,n,mD,hl,hk,lo,hz⟩:=T0;intro pins s σ H Q I hq;have pa:tE M E da σ H λy H1=> ∃z g f,y=V.str z/\luS tbl z=some g/\findBy Value.isStrOf es z=some (.ref f)/\Q (.ref f) H1:=by
  obtain⟨ρ,μ,B,ev,w⟩:=hq;refine tE.of ev ((Wn.bind w).mono λt ag w1 v H1 B1 h1 g1 r1=> ?_);have w1:Wn M E H B (KE M H B Q) (qfJ tbl t ag):=w1;cases t with
  |str z=>
   have w1:Wn M E H B (KE M H B Q) (match luS tbl z with|some g=>.ok (.fn g) ag|none=>.no):=w1;cases q:luS tbl z with
   |none=>rw[q] at w1;exact w1.elim
   |some g=>rw[q] at w1;have:=hz z;rw[q] at this;obtain⟨f,e1,e2⟩:=this;exact⟨z,g,f,qaw r1,q,e1,w1 _ H1 B1 h1 g1 (by unfold Rep;exact⟨f,rfl,by rw[<-hK];exact e2⟩)⟩
  |_=>exact w1.elim
 refine qmA F.slot_dict_getitem.lookup hs (thn (qbW hg mD (v:=.ref ad) rfl hd pins s σ H (λx H1=>x= .ref ad/\H1=H) I ⟨rfl,rfl⟩) λu s1 hu=> ?_);obtain⟨x,H1,I1,rx,rfl,rfl⟩:=hu;obtain rfl:u=Value.ref ad:=rx;refine thn (ha pins s1 σ H1 _ I1 pa) λiv s2 hv=> ?_;obtain⟨y,H2,I2,ry,z,g,f,rfl,_,hf,q⟩:=hv;obtain⟨t,rfl⟩:=ry;have hm:=W.mapOf_K (prog:=X.prog) (w:=X.w) I2.kIn hl hk;exact⟨hm.typeIs,PySem.wpAny_getItem_of (PySem.strKind_is X.prog X.w z t) hm hf ⟨.ref f,H2,I2.tok _,rfl,q⟩⟩
theorem qk9 {Fn:Str->Option (List T->Mu->R T)} {kk:Nat} (hF: ∀g fT,Fn g=some fT->∃f fd ps,X.mg g=some (.ref f)/\W.keepIn X.K (.ref f)=true/\qaO X.K fd ps []/\qcD X.prog X.w X.K X.mg X.base (CXE X.prog X.w) kk f fd ps (spF M fT)) (hK:X.K=M.K) (hr:qaX kk X.A) (hv:PE X (.Name x p) (qms i)) (hx:qaD (CXE X.prog X.w) X E) (ha:PA X (e::es) (tA M E ds))
  (he:starEach (e::es) X.env=(false,eval e X.env)::starEach es X.env) (ax:(backTo pos (starEach es X.env)).any (·.1)=false):PE X (.Call (.Name x p) (e::es) [] pos) (tE M E (qjz Fn i ds)):=by
 intro pins s σ H Q I hq;obtain⟨ρ,μ,B,ev,w⟩:=hq;unfold qjz at w;split at w
 ·rename_i g e1;split at w
  ·rename_i fT e2;obtain⟨f,fd,ps,m,kp,bd,fo⟩:=hF g fT e2;obtain⟨v,e3,r⟩:=ev.sl i _ e1;unfold Rep at r;obtain⟨f',rfl,hn⟩:=r;have:f'=f:=PL.fn_same I (by rw[hK];exact hn) m;subst this;refine Vf (thn (hv pins s σ H (λv H1=>v= .ref f'/\H1=H) I ⟨.ref f',e3,rfl,rfl⟩) λu s1 hu=> ?_);obtain⟨v,H1,I1,rv,rfl,rfl⟩:=hu;obtain rfl:u=Value.ref f':=rv;refine W.callWith_K (h₀:=X.base) I1.ok.mod.kin kp (thn (ha pos pins s1 σ H1 _ I1 (qfr (E:=E) (fT:=fT) ⟨ρ,μ,B,ev,w⟩)) λus s2 hq=> ?_) he ax;obtain⟨vs,H2,I2,r,q⟩:=hq;exact⟨I2.kIn,qeQ fo hr bd .nil hx I2 r q⟩
  ·exact w.elim
 ·exact w.elim
end
end NV
namespace NV
open PySem L2
inductive O2 where
 |add|sub|mul|div|mod|pow|lt|le|gt|ge|eq|ne|is|isn|in_|nin|ix
noncomputable def O2.g:O2->Mu->T->T->Option Nv
 |.add=>qs0|.sub=>gSub|.mul=>qsT|.div=>qsX|.mod=>qsU|.pow=>qvm|.lt=>gLt|.le=>gLe|.gt=>gGt|.ge=>gGe
 |.eq=>qrl false|.ne=>qrl true|.is=>gIs false|.isn=>gIs true|.in_=>gIn false|.nin=>gIn true|.ix=>gIx
inductive CG where
 |no|n (i:Nat)|tup (gs:List CG)
inductive Iw where
 |rng1|rng2|enum|zip
mutual
inductive CE where
 |no|v (i:Nat)|c (t:T)|tup (es:List CE)|lst (ow:Bool) (es:List CE)|dct (ow:Bool)
 |o2 (ow:Bool) (o:O2) (a b:CE)|neg (a:CE)|nt (a:CE)|and (a b:CE)|or (a b:CE)|ife (t a b:CE)|chain (o p:O2) (a b c:CE)
 |bn (ow:Bool) (b:Bn) (es:List CE)|bm (ow:Bool) (b:Bm) (o:CE) (es:List CE)|alt (a b:CE)|inst (N:String) (a:CE)|sset (ow:Bool) (a:CE)|slen (a:CE)
 |sl (ow:Bool) (a:CE) (lo hi:Option CE)|sl3 (ow:Bool) (a:CE) (lo hi:Option CE) (st:CE)
 |call (i:Nat) (es:List CE)|make (c:Str) (i:Nat) (es:List CE)|mth (ms:List (Str×Nat)) (m:Str) (o:CE) (es:List CE)|fld (cs:List Str) (f:Str) (o:CE)
 |srtK (ow:Bool) (b:KB) (a:CE)|told (wd:List (Str×Str)) (fr:List Nat) (e:CE)
 |topin (neg:Bool) (tbl:List (Str×Str)) (a:CE)|topget (tbl:List (Str×Str)) (a:CE)|callv (fi:List (Str×Nat)) (i:Nat) (es:List CE)
 |comp (ow x:Bool) (n:Nat) (fr:List Nat) (g:CG) (it:CI) (t:Option CE) (e:CE)
inductive CI where
 |no|gen (e:CE)|by_ (w:Iw) (es:List CE)
end
inductive CS where
 |no|nx|ret (e:CE)|set (i:Nat) (e:CE)|asg (g:CG) (e:CE)|par (is:List Nat) (es:List CE)|fld (cs:List Str) (f:Str) (o e:CE)|put (o i e:CE)|exp (e:CE)|ife (t:CE) (a b:List CS)|for_ (g:CG) (it:CI) (b:List CS)
 |brk|cnt|raise (c:Str)|try_ (cl:List Str) (n:Nat) (nm:Option Nat) (b h:List CS)|frz (i:Nat) (s:CS)
noncomputable def Iw.g:Iw->List T->Mu->R Ito
 |.rng1=>qcl|.rng2=>qgK|.enum=>qqo|.zip=>qjU
abbrev Fs:=Nat->List T->Mu->R T
mutual
noncomputable def runG:CG->T->DS0 Ro
 |.no=>λ_=>dNo
 |.n i=>gN i
 |.tup gs=>gT gs.length (runGs gs)
noncomputable def runGs:List CG->List T->DS0 Ro
 |[]=>gsN
 |g::gs=>gsC (runG g) (runGs gs)
end
noncomputable def ql8(o p:O2)(da db dc:DS0 T):DS0 T:=dSq da λx=>dSq db λy ρ μ=>(nvR false (o.g μ x y) μ).bind λz aa=>(tbO z aa).bind λk aa=>if k=true then(dc ρ aa).bind λw eg=>nvR false (p.g eg y w) eg else .ok (.bl false) aa
noncomputable def qhJ(ow:Bool)(d:DS0 Ct):DS0 T:=if ow=true then dOw d else dFz d
noncomputable def qqc:T->Mu->R T
 |.int i,μ=>.ok (.int (-i)) μ
 |_,_=>.no
mutual
noncomputable def qad(F:Fs):CE->DS0 T
 |.no=>dNo
 |.v i=>dV i
 |.c t=>dC t
 |.tup es=>qug (runA F es)
 |.lst ow es=>qhJ ow (quj (runA F es))
 |.dct ow=>qhJ ow λ_ μ=>.ok (.dk []) μ
 |.o2 ow o a b=>dB (λx y μ=>nvR ow (o.g μ x y) μ) (qad F a) (qad F b)
 |.neg a=>dU qqc (qad F a)
 |.nt a=>qld (qad F a)
 |.and a b=>qlg (qad F a) (qad F b)
 |.or a b=>qro (qad F a) (qad F b)
 |.ife t a b=>qhK (dTB (qad F t)) (qad F a) (qad F b)
 |.chain o p a b c=>ql8 o p (qad F a) (qad F b) (qad F c)
 |.bn ow b es=>dN ow b.g (runA F es)
 |.bm ow b o es=>dBM ow b (qad F o) (runA F es)
 |.alt a b=>qtn (qad F a) (qad F b)
 |.inst N a=>qqP N (qad F a)
 |.sset ow a=>dNu ow qud (qad F a)
 |.slen a=>dNu false qja (qad F a)
 |.sl ow a lo hi=>dSl ow (qad F a) (runO F lo) (runO F hi)
 |.sl3 ow a lo hi st=>qvs ow (qad F a) (runO F lo) (runO F hi) (dOS (qad F st))
 |.call i es=>qen (F i) (runA F es)
 |.make c i es=>qen (mkR c (F i)) (runA F es)
 |.mth ms m o es=>qlf (λc=>(ms.lookup c).map F) m (qad F o) (runA F es)
 |.fld cs f o=>dU (qox (λc _=>cs.contains c) f) (qad F o)
 |.srtK ow b a=>dNu ow (ql0 b) (qad F a)
 |.told wd fr e=>qn6 (λc=>wd.lookup c) fr (qad F e)
 |.topin neg tbl a=>dU (qeJ neg tbl) (qad F a)
 |.topget tbl a=>dU (qfJ tbl) (qad F a)
 |.callv fi i es=>qjz (λg=>(fi.lookup g).map F) i (runA F es)
 |.comp ow x n fr g it t e=>qhJ ow (qem x n fr (runI F it) (runG g) (runT F t) (qad F e))
noncomputable def runA(F:Fs):List CE->DS0 (List T)
 |[]=>ql7
 |e::es=>qqT (qad F e) (runA F es)
noncomputable def runO(F:Fs):Option CE->DS0 (Option Int)
 |none=>dON
 |some e=>dOS (qad F e)
noncomputable def runT(F:Fs):Option CE->DS0 Bool
 |none=>quf
 |some e=>dTB (qad F e)
noncomputable def runI(F:Fs):CI->DS0 Ito
 |.no=>dNo
 |.gen e=>dIt (qad F e)
 |.by_ w es=>dIA w.g (runA F es)
end
noncomputable def qbd:List Nat->List T->Ro->Option Ro
 |[],[],ρ=>some ρ
 |i::is,t::ts,ρ=>qbd is ts (ρ.set i (some t))
 |_,_,_=>none
noncomputable def qvt(is:List Nat)(ds:DS0 (List T)):DS0 Out:=dSq ds λts ρ μ=>match qbd is ts ρ with|some ai=>.ok (.nx ai) μ|none=>.no
mutual
noncomputable def qa3(F:Fs):CS->DS0 Out
 |.no=>dNo
 |.nx=>qle
 |.ret e=>qtm (qad F e)
 |.set i e=>qlc i (qad F e)
 |.asg g e=>qum (runG g) (qad F e)
 |.par is es=>qvt is (runA F es)
 |.fld cs f o e=>qqR (λc _=>cs.contains c) f (qad F o) (qad F e)
 |.put o i e=>quh (qad F o) (qad F i) (qad F e)
 |.exp e=>qqS (qad F e)
 |.ife t a b=>qhK (dTB (qad F t)) (runSs F a) (runSs F b)
 |.for_ g it b=>qul (runI F it) (runG g) (runSs F b)
 |.brk=>λρ μ=>.ok (.bk ρ) μ
 |.cnt=>λρ μ=>.ok (.ct ρ) μ
 |.raise c=>ql6 c
 |.try_ cl n nm b h=>qvr (λc=>cl.contains c) n nm (runSs F b) (runSs F h)
 |.frz i s=>quk i (qa3 F s)
noncomputable def runSs(F:Fs):List CS->DS0 Out
 |[]=>qle
 |s::ss=>qtl (qa3 F s) (runSs F ss)
end
structure Gx where
 fs:List (Str×Stmt)
 cs:List (Str×T)
 ex:List (Str×List Str)
 cl:List (Str×List Str)
 ow:List (Nat×Nat)
 fz:List (Nat×Str)
 xc:List (Nat×Nat)
 kp:List Str
 lm:List Str
 wd:List (Str×Str)
 dt:List (Str×List (Str×Str)):=[]
structure Cc where
 N:List Str
 sc:Scope
 calm:Bool
 top:Bool
 cf:Bool
 lam:Bool
noncomputable def qcC:List Str:=["len", "all", "any", "sum", "max", "min", "abs", "list", "tuple", "sorted", "set", "isinstance", "range", "enumerate", "zip", "int", "bool", "str", "dict"]
noncomputable def qhV(N:List Str)(x:Str):Option Nat:=N.findIdx? λy=>decide (y=x)
noncomputable def qhE(C:Cc)(x:Str):Bool:=decide (C.sc.names.lookup x=some .globalImplicit)&&x != "__debug__"
noncomputable def qcW(C:Cc)(x:Str):Bool:=qhE C x&&qcC.contains x
noncomputable def qkI(sc:Scope)(x:Str):Bool:=match sc.names.lookup x with|some .local=>true|some .cell=>true|some .free=>true|_=>false
noncomputable def qny(sc:Scope)(x:Str):Bool:=match sc.names.lookup x with|some .local=>true|some .cell=>true|_=>false
noncomputable def qow(C:Cc)(x:Str):Bool:=match C.sc.names.lookup x with|some .local=>true|some .cell=>C.cf|_=>false
noncomputable def Gx.fi(g:Gx)(x:Str):Option Nat:=qhV (g.fs.map (·.1)) x
noncomputable def qaP(c m:Str):Str:=c++("." :Str)++m
noncomputable def Gx.ms(g:Gx)(m:Str):List (Str×Nat):=g.cl.filterMap λc=>(g.fi (qaP c.1 m)).map λi=>(c.1,i)
noncomputable def Gx.fls(g:Gx)(f:Str):List Str:=(g.cl.filter λc=>c.2.contains f).map (·.1)
noncomputable def Gx.own(g:Gx)(p:Pos):Bool:=g.ow.contains (p.line,p.col)
noncomputable def qof(g:Gx)(C:Cc)(x:Str):CE:=
 if x== "__debug__" ||x== "__classdict__" then .no else
 if qkI C.sc x then(match qhV C.N x with|some i=>.v i|none=>.no) else
 if qhE C x then(match g.cs.lookup x with|some t=>.c t|none=>.no) else .no
noncomputable def qsu:Operator->Option O2
 |.Add=>some .add|.Sub=>some .sub|.Mult=>some .mul|.FloorDiv=>some .div|.Mod=>some .mod|_=>none
noncomputable def qmb:CmpOp->O2
 |.Lt=>.lt|.LtE=>.le|.Gt=>.gt|.GtE=>.ge|.Eq=>.eq|.NotEq=>.ne|.Is=>.is|.IsNot=>.isn|.In=>.in_|.NotIn=>.nin
noncomputable def qqZ(x:Str):Option Bn:=Bn.list.find? λb=>b.nm==x
noncomputable def qoj(x:Str)(ty:String):Option Bm:=Bm.all.find? λb=>b.nm==x&&b.ty==ty
noncomputable def qtz(x:Str):Option String:=["int", "bool", "str", "tuple", "list"].find? λN=>Str.ofString N==x
noncomputable def qg6:List CE->CE
 |[]=>.no
 |[a]=>a
 |a::b::r=>.and a (qg6 (b::r))
noncomputable def qku:List CE->CE
 |[]=>.no
 |[a]=>a
 |a::b::r=>.or a (qku (b::r))
noncomputable def cG(C:Cc):Nat->Expr->CG
 |0,_=>.no
 |n+1,e=>match e with
  |.Name x _=>if qow C x then(match qhV C.N x with|some i=>.n i|none=>.no) else .no
  |.Tuple ts _ _=>if C.calm&&ts.all qak then .tup (ts.map (cG C n)) else .no
  |_=>.no
noncomputable def qq8(C:Cc)(sc:Scope):Scope:={ sc with names:=sc.names.map λ(n,k)=>if(k==NameKind.free&&C.sc.kind== .function&&C.sc.names.lookup n==some .cell) then(n,NameKind.cell) else(n,k) }
noncomputable def qaf(C:Cc)(sc:Scope):Cc×List (Str×Nat):=
 let own:=(sc.names.filter λy=>decide (y.2= .local)&&y.1 != (".0" :Str)).map (·.1);let fr:=sc.names.filterMap λy=>if y.2= .free then(qhV C.N y.1).map λi=>(y.1,i) else none
 (⟨own++fr.map (·.1),qq8 C sc,C.calm,false,false,C.lam⟩,fr)
noncomputable def qgZ(C:Cc)(sc:Scope):Bool:=
 decide (sc.kind= .function)&&sc.names.all (λy=>decide (y.2≠.cell))&&sc.names.all (λy=>decide (y.2≠.local)||decide (sc.names.lookup y.1=some .local))
  &&sc.names.all (λy=>decide (y.2≠.free)||(decide (C.sc.names.lookup y.1=some .cell)||decide (C.sc.names.lookup y.1=some .free))&&decide (sc.names.lookup y.1=some .free))
  &&decide ((qaf C sc).1.N.Nodup)
noncomputable def qiT(C:Cc)(sc:Scope):List (Str×Nat):=sc.names.filterMap λy=>if y.2= .free then(qhV C.N y.1).map λi=>(y.1,i) else none
noncomputable def qkG(C:Cc)(sc:Scope):Cc:=⟨(qiT C sc).map (·.1),sc,true,false,false,false⟩
noncomputable def qa7(a:Arguments):Bool:=decide (a.posonlyargs.length=0)&&a.vararg.isNone&&decide (a.kwonlyargs.length=0)&&decide (a.kw_defaults.length=0)&&a.kwarg.isNone&&decide (a.defaults.length=0)
noncomputable def qkF(C:Cc)(a:Arguments)(sc:Scope):Bool:=qa7 a&&decide (sc.kind= .function)&& !sc.isCoroutine&& !sc.isGenerator&&sc.names.all (λy=>decide (y.2≠.cell))&&C.lam&&C.calm
noncomputable def qia(C:Cc)(a:Arguments)(sc:Scope):Bool:=qkF C a sc&&decide (a.args.length=0)&&C.cf&&decide ((qkG C sc).N.Nodup)
 &&sc.names.all (λy=>decide (y.2≠.free)||(decide (C.sc.names.lookup y.1=some .cell)||decide (C.sc.names.lookup y.1=some .free))&&decide (sc.names.lookup y.1=some .free))
noncomputable def qiU(C:Cc)(a:Arguments)(sc:Scope):Option Str:=match a.args with
 |[x]=>if qkF C a sc&&decide (sc.names.lookup x.arg=some .local)&&sc.names.all (λy=>decide (y.2≠.free))&&x.arg != "__debug__" then some x.arg else none
 |_=>none
noncomputable def qmp(g:Gx)(C:Cc):Expr->Option (List (Str×Str))
 |.Name D _=>if qhE C D then g.dt.lookup D else none
 |_=>none
noncomputable def qpP:CmpOp->Option Bool
 |.In=>some false
 |.NotIn=>some true
 |_=>none
noncomputable def qog(g:Gx)(C:Cc)(o:CmpOp)(b:Expr)(ca cb:CE):CE:=match qmp g C b,qpP o with
 |some tbl,some neg=>.topin neg tbl ca
 |_,_=>.o2 false (qmb o) ca cb
noncomputable def cIx(g:Gx)(C:Cc)(ow:Bool)(a b:Expr)(ca cb:CE):CE:=match qmp g C a with
 |some tbl=>.topget tbl cb
 |none=>.o2 ow .ix ca cb
noncomputable def Gx.fns(g:Gx):List (Str×Nat):=((List.range g.fs.length).filterMap λi=>(g.fs[i]?).bind λp=>if p.1.cps.contains 46 then none else if g.fi p.1=some i then some (p.1,i) else none)
noncomputable def qg3(g:Gx)(C:Cc)(f:Str)(jl:List CE):CE:=if(f== "__debug__" ||f== "__classdict__")||jl.isEmpty then .no else if qkI C.sc f then(match qhV C.N f with|some i=>.callv g.fns i jl|none=>.no) else .no
noncomputable def qlX:Expr->Bool
 |.Tuple _ _ _=>true
 |_=>false
mutual
noncomputable def cE(g:Gx):Nat->Cc->Expr->CE
 |0,_,_=>.no
 |n+1,C,e=>match e with
  |.Constant c _ _=>(match c with|.none=>.c .non|.bool b=>.c (.bl b)|.int i=>.c (.int i)|.str s=>.c (.str s)|_=>.no)
  |.Name x _=>qof g C x
  |.Tuple es _ _=>if es.all qak then .tup (es.map (cE g n C)) else .no
  |.List es p=>if es.all qak then .lst (g.own p) (es.map (cE g n C)) else .no
  |.Dict [] [] p=>.dct (g.own p)
  |.BinOp a op b p=>(match qsu op with|some o=>.o2 (g.own p) o (cE g n C a) (cE g n C b)|none=>.no)
  |.UnaryOp .Not a _=>.nt (cE g n C a)
  |.UnaryOp .USub a _=>.neg (cE g n C a)
  |.BoolOp .And es _=>qg6 (es.map (cE g n C))
  |.BoolOp .Or es _=>qku (es.map (cE g n C))
  |.IfExp t a b _=>.ife (cE g n C t) (cE g n C a) (cE g n C b)
  |.Compare a [o] [b] _=>if qbN b then qog g C o b (cE g n C a) (cE g n C b) else .no
  |.Compare a [o,p] [b,c] _=>if qbN c then .chain (qmb o) (qmb p) (cE g n C a) (cE g n C b) (cE g n C c) else .no
  |.Subscript a (.Slice lo hi none _) p=>.sl (g.own p) (cE g n C a) (lo.map (cE g n C)) (hi.map (cE g n C))
  |.Subscript a (.Slice lo hi (some st) _) p=>.no
  |.Subscript a b p=>cIx g C (g.own p) a b (cE g n C a) (cE g n C b)
  |.Attribute a f _=>if qcP a then .fld (g.fls f) f (cE g n C a) else .no
  | .Call (.Attribute o m ap) es [] p=>if (qcP o&&es.all qak&&decide (es.length<30))&&ap.endLine==p.line then
    (match qoj m "list",qoj m "dict" with
     |some b,some d=>.alt (.bm (g.own p) b (cE g n C o) (es.map (cE g n C))) (.bm (g.own p) d (cE g n C o) (es.map (cE g n C)))
     |some b,none=>.bm (g.own p) b (cE g n C o) (es.map (cE g n C))
     |none,some d=>.bm (g.own p) d (cE g n C o) (es.map (cE g n C))
     |none,none=>if C.calm then .mth (g.ms m) m (cE g n C o) (es.map (cE g n C)) else .no) else .no
  | .Call (.Name f _) [e] [⟨some kw,.Lambda a body sc _,_⟩] p=>if f== "sorted" &&kw== "key" &&qcW C f&&qak e then (match qiU C a sc with
    |some x=>(match qua x body with|some b=>.no|none=>.no)
    |none=>.no) else .no
  |.Call (.Name f _) es [] p=>if(es.all qak&&C.calm)&&qhE C f then cCall g n C f es p else if es.all qak&&C.calm then qg3 g C f (es.map (cE g n C)) else .no
  |.ListComp elt [⟨tg,iter,ifs,0⟩] sc p=>cComp g n C false elt tg iter ifs sc p
  |_=>.no
noncomputable def cCall(g:Gx):Nat->Cc->Str->List Expr->Pos->CE
 |0,_,_,_,_=>.no
 | n+1,C,f,es,p=>if f== "_law_told" then (match es with
   |[.Lambda a body sc _]=>if qia C a sc&& !g.wd.isEmpty then .told g.wd ((qiT C sc).map (·.2)) (cE g n (qkG C sc) body) else .no
   |_=>.no) else if f.cps.contains 46 then .no else match g.fi f with
  |some i=>.call i (es.map (cE g n C))
  |none=>if(g.cl.map (·.1)).contains f then(match g.fi (qaP f "__init__") with|some i=>.make f i (es.map (cE g n C))|none=>.no) else
   if qcW C f then(match es with
    |[e,.Name x _]=>if f== "isinstance" then(match qtz x with|some N=>if qcW C x then .inst N (cE g n C e) else .no|none=>.no) else
     (match qqZ f with|some b=>.bn (g.own p) b (es.map (cE g n C))|none=>.no)
    |[.Call (.Name s _) [a] [] _]=>if s== "set" &&qcW C s&&qak a then(if f== "sorted" then .no else if f== "len" then .no else .no) else
     (match qqZ f with|some b=>.bn (g.own p) b (es.map (cE g n C))|none=>.no)
    |[]=>.no
    |_=>(match qqZ f with|some b=>.bn (g.own p) b (es.map (cE g n C))|none=>.no)) else .no
noncomputable def cI(g:Gx):Nat->Cc->Expr->Expr->CI
 |0,_,_,_=>.no
 |n+1,C,tg,e=>if qbN e then(match e with
  | .Call (.Name f _) es [] _=>if f== "range" then (if qcW C f&&es.all qak then (match es with
     |[a]=>.by_ .rng1 [cE g n C a]
     |[a,b]=>.by_ .rng2 [cE g n C a,cE g n C b]
     |_=>.no) else .no)
    else if f== "enumerate" then(if qcW C f&&es.all qak&&qlX tg then(match es with|[a]=>.no|_=>.no) else .no)
    else if f== "zip" then(if qcW C f&&es.all qak&&qlX tg then(match es with|[a,b]=>.by_ .zip [cE g n C a,cE g n C b]|_=>.no) else .no)
    else .gen (cE g n C e)
  |_=>.gen (cE g n C e)) else .no
noncomputable def cComp(g:Gx):Nat->Cc->Bool->Expr->Expr->Expr->List Expr->Scope->Pos->CE
 |0,_,_,_,_,_,_,_,_=>.no
 | n+1,C,x,elt,tg,iter,ifs,sc,p=>if C.calm&&qgZ C sc then
   (match ifs with
    |[]=>.comp (g.own p) x ((qaf C sc).1.N.length - (qaf C sc).2.length) ((qaf C sc).2.map (·.2)) (cG (qaf C sc).1 n tg) (cI g n C tg iter) none (cE g n (qaf C sc).1 elt)
    |[t]=>.comp (g.own p) x ((qaf C sc).1.N.length - (qaf C sc).2.length) ((qaf C sc).2.map (·.2)) (cG (qaf C sc).1 n tg) (cI g n C tg iter) (some (cE g n (qaf C sc).1 t)) (cE g n (qaf C sc).1 elt)
    |_=>.no) else .no
end
noncomputable def qoc:Stmt->List Stmt
 |.ClassDef _ _ _ b _ _ _ _ _ _ _=>b
 |_=>[]
noncomputable def qbJ(C:Cc)(line:Nat):List Expr->Option (List Str)
 |[]=>some []
 |.Name x p::r=>if decide (C.sc.names.lookup x=some .local)&&p.line==line then(qbJ C line r).map (x:: ·) else none
 |_::_=>none
noncomputable def qnv(N:List Str):List Str->Option (List Nat)
 |[]=>some []
 |x::r=>(qhV N x).bind λi=>(qnv N r).map (i:: ·)
noncomputable def qdW(C:Cc)(e:Expr)(x:Str)(p:Pos):Bool:=match e with
 |.ListComp _ _ s q=>decide (C.sc.kind= .function)&&decide (C.sc.names.lookup x=some .local)&&p.line==q.line&& !(s.names.any λ(n,k)=>n==x&&(k== .local||k== .cell))
 |_=>false
noncomputable def qtr (g:Gx) (n:Nat) (C:Cc) (x:Str) (p:Pos) (e:Expr):CS:=if qow C x then (match qhV C.N x with
  |none=>.no
  |some i=>(match e with
   |.ListComp elt [⟨tg,iter,ifs,0⟩] sc q=>if decide (C.sc.kind= .function) then(if qdW C (.ListComp elt [⟨tg,iter,ifs,0⟩] sc q) x p then .set i (cComp g n C false elt tg iter ifs sc q) else .set i (cE g n C (.ListComp elt [⟨tg,iter,ifs,0⟩] sc q))) else .no
   |e=>if qdz e then .set i (cE g n C e) else .no)) else .no
noncomputable def qqY (g:Gx) (n:Nat) (C:Cc) (ts vs:List Expr):Option CS:=if (ts.length==2||ts.length==3)&&vs.length==ts.length&&vs.all qak&&C.calm&&decide (C.sc.kind= .function)&& !vs.all (constantsAlone 8)&& !vs.all (foldedForSure 8) then
  (qbJ C ((ts.head?.map (·.pos.line)).getD 0) ts).bind λxs=>if xs.eraseDups.length==xs.length&&decide xs.Nodup then(qnv C.N xs).map λis=>.par is (vs.map (cE g n C)) else none else none
noncomputable def qiG(C:Cc):Expr->Bool
 |.Name x _=> !decide (C.sc.names.lookup x=some .local)
 |_=>true
noncomputable def qgy:Expr->Bool
 |.Constant (.str _) _ _=>true
 |_=>false
noncomputable def qdH(C:Cc):List Str->CS->CS
 |[],s=>s
 |x::r,s=>match qhV C.N x with|some i=>.frz i (qdH C r s)|none=>qdH C r s
mutual
noncomputable def cS(g:Gx):Nat->Cc->Stmt->CS
 |0,_,_=>.no
 |n+1,C,st=>qdH C ((g.fz.filter λp=>p.1==st.pos.line).map (·.2)) (cS1 g n C st)
noncomputable def cS1(g:Gx):Nat->Cc->Stmt->CS
 |0,_,_=>.no
 |n+1,C,st=>match st with
  |.Pass _=>.nx
  |.Break _=>.brk
  |.Continue _=>.cnt
  |.Return none _=>.ret (.c .non)
  |.Return (some e) _=>.ret (cE g n C e)
  |.Expr e _=>if qgy e then .nx else if qdz e then .exp (cE g n C e) else .no
  |.If t a b _=>.ife (cE g n C t) (cSs g n C a) (cSs g n C b)
  |.For tg it b [] _=>if(C.top&&C.calm)&&qbN it then .for_ (cG C n tg) (cI g n C tg it) (cSs g n C b) else .no
  |.Assign [.Name x p] e _=>qtr g n C x p e
  |.Assign [.Attribute o f _] e _=>.fld (g.fls f) f (cE g n C o) (cE g n C e)
  |.Assign [.Subscript o i _] e _=>.put (cE g n C o) (cE g n C i) (cE g n C e)
  |.Assign [.Tuple ts k p] e _=>(match e with
   |.Tuple vs kv pv=>if ts.any (qiG C) then .asg (cG C n (.Tuple ts k p)) (cE g n C (.Tuple vs kv pv)) else(qqY g n C ts vs).getD .no
   |e=>if qdz e then .asg (cG C n (.Tuple ts k p)) (cE g n C e) else .no)
  |.Raise (some (.Call (.Name x _) [a] [] _)) none _=>if C.top&&qhE C x&&(g.ex.map (·.1)).contains x&&qgy a then .raise x else .no
  |_=>.no
noncomputable def cSs(g:Gx):Nat->Cc->List Stmt->List CS
 |0,_,_=>[.no]
 |n+1,C,ba=>ba.map (cS g n C)
end
noncomputable def qfE(st:Stmt):List Str:=(qai st).args.map (·.arg)
noncomputable def qe1(st:Stmt):List Str:=qfE st++((qab st).names.filter λy=>(decide (y.2= .local)||decide (y.2= .cell))&& !(qfE st).contains y.1).map (·.1)
noncomputable def qtq(lam:Bool)(st:Stmt):Cc:=⟨qe1 st,qab st,true,true,true,lam⟩
noncomputable def qfh(st:Stmt):Bool:=decide ((qab st).kind= .function)&& !(qab st).isCoroutine&& !(qab st).isGenerator&&decide ((qe1 st).Nodup)&&(qfE st).all (qny (qab st))&&(qab st).names.all (λy=>decide (y.2≠.free))
 &&decide ((qai st).posonlyargs.length=0)&&(qai st).vararg.isNone&&decide ((qai st).kwonlyargs.length=0)&&decide ((qai st).kw_defaults.length=0)&&(qai st).kwarg.isNone&&decide ((qai st).defaults.length=0)
structure Fcd where
 kp:Bool
 n:Nat
 N:Nat
 b:List CS
noncomputable def cFn(g:Gx)(p:Str×Stmt):Fcd:=if qfh p.2 then⟨g.kp.contains p.1,(qfE p.2).length,(qe1 p.2).length,cSs g 60 (qtq (g.lm.contains p.1) p.2) (qam p.2)⟩ else⟨true,0,0,[.no]⟩
noncomputable def Fcd.run(F:Fs)(c:Fcd):List T->Mu->R T:=fnR c.kp c.n c.N (runSs F c.b)
noncomputable def TTf(g:Gx):Nat->Fs
 |0,_=>λ_ _=>.no
 |k+1,i=>match g.fs[i]? with
  |some p=>(cFn g p).run (TTf g k)
  |none=>λ_ _=>.no
end NV
namespace K89
open PySem NV
noncomputable def top(i:Nat):Stmt:=PySem.Challenge.pw_rowasks_k89_desks_refused.main.body.getD i (.Pass ⟨0,0,0,0⟩)
noncomputable def mth(i j:Nat):Stmt:=(qoc (top i)).getD j (.Pass ⟨0,0,0,0⟩)
noncomputable def gx:Gx where
 fs:=[(("_wall" :Str),top 0),(("is_whole" :Str),top 17),(("is_whole_within" :Str),top 18),(("is_word" :Str),top 19),(("is_key" :Str),top 20),(("is_row" :Str),top 21),(("is_log" :Str),top 22),(("refuse_what_is_no_row" :Str),top 23),(("refuse_out_of_order" :Str),top 24),(("refuse_what_is_no_log" :Str),top 25),(("of_key" :Str),top 29),(("over" :Str),top 30),(("under" :Str),top 31),(("plus" :Str),top 32),(("times" :Str),top 33),(("first" :Str),top 34),(("each" :Str),top 35),(("window" :Str),top 36),(("window_rows" :Str),top 37),(("running" :Str),top 38),(("change" :Str),top 39),(("unlike" :Str),top 40),(("is_step" :Str),top 44),(("is_ask" :Str),top 45),(("refuse_what_is_no_ask" :Str),top 46),(("behind_step" :Str),top 47),(("behind_last_rows" :Str),top 48),(("asked" :Str),top 49),(("is_name" :Str),top 54),(("Desk.__init__" :Str),mth 55 0),(("Desk.add" :Str),mth 55 1),(("Desk.hang" :Str),mth 55 2),(("Desk.lose" :Str),mth 55 3),(("Desk.ask_of" :Str),mth 55 4),(("Desk.answer" :Str),mth 55 5),(("Desk.names" :Str),mth 55 6),(("Desk.rows" :Str),mth 55 7),(("Desk.do_step" :Str),mth 55 8),(("Desk.back" :Str),mth 55 9),(("Desk.forth" :Str),mth 55 10),(("Desk.step_between" :Str),mth 55 11),(("Desk.counts" :Str),mth 55 12),(("Desk.twin" :Str),mth 55 13),(("_law_cell" :Str),top 57),(("_law_pick" :Str),top 58),(("_law_class" :Str),top 59),(("_law_told" :Str),top 60),(("_law_odd" :Str),top 61),(("law" :Str),top 62)]
 cs:=[("GREATEST_MOMENT",.int (99)),("GREATEST_NUMBER",.int (99)),("LONGEST_KEY",.int (2)),("MOST_STEPS",.int (5)),("GREATEST_STEP_NUMBER",.int (20)),("MOST_ROWS",.int (12)),("MOST_NAMES",.int (6)),("LONGEST_NAME",.int (6))]
 ex:=[("AskError",["AskError", "ValueError"]),("NoRow",["NoRow", "AskError", "ValueError"]),("NoAsk",["NoAsk", "AskError", "ValueError"]),("TooLate",["TooLate", "AskError", "ValueError"]),("Ended",["Ended", "AskError", "ValueError"]),("Unlike",["Unlike", "AskError", "ValueError"]),("NoText",["NoText", "AskError", "ValueError"]),("NoNumber",["NoNumber", "AskError", "ValueError"]),("NoName",["NoName", "AskError", "ValueError"]),("Full",["Full", "AskError", "ValueError"]),("NoBack",["NoBack", "AskError", "ValueError"])]
 cl:=[("Desk",["log", "asks", "past", "coming"])]
 ow:=[(80,11),(91,11),(97,11),(104,11),(155,44),(168,20),(169,22),(185,15),(192,15),(261,20),(263,15),(277,25),(296,21)]
 fz:=[(187, "asks"),(194, "asks")]
 xc:=[]
 kp:=[]
 lm:=["law"]
 wd:=[("Ended", "ended"),("Full", "full"),("NoAsk", "no ask"),("NoBack", "no back"),("NoName", "no name"),("NoNumber", "no number"),("NoRow", "no row"),("NoText", "no text"),("TooLate", "too late"),("Unlike", "unlike")]
 dt:=[("NUMBER_STEPS",[("over", "over"),("under", "under"),("plus", "plus"),("times", "times")]),("COUNT_STEPS",[("first", "first"),("each", "each"),("window", "window")]),("BARE_STEPS",[("running", "running"),("change", "change"),("unlike", "unlike")])]
noncomputable def qev:Fcd:=⟨false,1,1,[.no]⟩
theorem qj5(k:Nat):TTf gx (k+1) 0=qev.run (TTf gx k):=congrArg (Fcd.run (TTf gx k)) (show cFn gx ("_wall",top 0)=qev by kernel_rfl)
noncomputable def qbZ:Fcd:=⟨false,1,1,[.ret (.and (.inst "int" (.v 0)) (.nt (.inst "bool" (.v 0))))]⟩
theorem qfG(k:Nat):TTf gx (k+1) 1=qbZ.run (TTf gx k):=congrArg (Fcd.run (TTf gx k)) (show cFn gx ("is_whole",top 17)=qbZ by kernel_rfl)
noncomputable def qaI:Fcd:=⟨false,3,3,[.ret (.and (.call 1 [(.v 0)]) (.chain .le .le (.v 1) (.v 0) (.v 2)))]⟩
theorem qb4(k:Nat):TTf gx (k+1) 2=qaI.run (TTf gx k):=congrArg (Fcd.run (TTf gx k)) (show cFn gx ("is_whole_within",top 18)=qaI by kernel_rfl)
noncomputable def qcf:Fcd:=⟨false,2,2,[.ife (.or (.nt (.inst "str" (.v 0))) (.nt (.chain .le .le (.c (.int 1)) (.bn false .len [(.v 0)]) (.v 1)))) [.ret (.c (.bl false))] [],.ret (.bn false .all [(.comp false false 1 [] (.n 0) (.gen (.v 0)) none (.chain .le .le (.c (.str "a")) (.v 0) (.c (.str "z"))))])]⟩
theorem qhc(k:Nat):TTf gx (k+1) 3=qcf.run (TTf gx k):=congrArg (Fcd.run (TTf gx k)) (show cFn gx ("is_word",top 19)=qcf by kernel_rfl)
noncomputable def qc9:Fcd:=⟨false,1,1,[.ret (.call 3 [(.v 0),(.c (.int 2))])]⟩
theorem qh7(k:Nat):TTf gx (k+1) 4=qc9.run (TTf gx k):=congrArg (Fcd.run (TTf gx k)) (show cFn gx ("is_key",top 20)=qc9 by kernel_rfl)
noncomputable def qc7:Fcd:=⟨false,1,1,[.ife (.or (.nt (.inst "tuple" (.v 0))) (.o2 false .ne (.bn false .len [(.v 0)]) (.c (.int 3)))) [.ret (.c (.bl false))] [],.ife (.or (.nt (.call 2 [(.o2 false .ix (.v 0) (.c (.int 0))),(.c (.int 0)),(.c (.int 99))])) (.nt (.call 4 [(.o2 false .ix (.v 0) (.c (.int 1)))]))) [.ret (.c (.bl false))] [],.ret (.call 2 [(.o2 false .ix (.v 0) (.c (.int 2))),(.neg (.c (.int 99))),(.c (.int 99))])]⟩
theorem qh5(k:Nat):TTf gx (k+1) 5=qc7.run (TTf gx k):=congrArg (Fcd.run (TTf gx k)) (show cFn gx ("is_row",top 21)=qc7 by kernel_rfl)
noncomputable def qc8:Fcd:=⟨false,1,1,[.ret (.bn false .all [(.comp false false 2 [] (.tup [(.n 0),(.n 1)]) (.by_ .zip [(.v 0),(.sl false (.v 0) (some (.c (.int 1))) none)]) none (.o2 false .le (.o2 false .ix (.v 0) (.c (.int 0))) (.o2 false .ix (.v 1) (.c (.int 0)))))])]⟩
theorem qh6(k:Nat):TTf gx (k+1) 6=qc8.run (TTf gx k):=congrArg (Fcd.run (TTf gx k)) (show cFn gx ("is_log",top 22)=qc8 by kernel_rfl)
noncomputable def qas:Fcd:=⟨false,1,1,[.ife (.nt (.bn false .all [(.comp false false 1 [] (.n 0) (.gen (.v 0)) none (.call 5 [(.v 0)]))])) [.raise "NoRow"] []]⟩
theorem qa4(k:Nat):TTf gx (k+1) 7=qas.run (TTf gx k):=congrArg (Fcd.run (TTf gx k)) (show cFn gx ("refuse_what_is_no_row",top 23)=qas by kernel_rfl)
noncomputable def qay:Fcd:=⟨false,1,1,[.ife (.nt (.call 6 [(.v 0)])) [.raise "TooLate"] []]⟩
theorem qbo(k:Nat):TTf gx (k+1) 8=qay.run (TTf gx k):=congrArg (Fcd.run (TTf gx k)) (show cFn gx ("refuse_out_of_order",top 24)=qay by kernel_rfl)
noncomputable def qat:Fcd:=⟨false,1,1,[.exp (.call 7 [(.v 0)]),.exp (.call 8 [(.v 0)])]⟩
theorem qa5(k:Nat):TTf gx (k+1) 9=qat.run (TTf gx k):=congrArg (Fcd.run (TTf gx k)) (show cFn gx ("refuse_what_is_no_log",top 25)=qat by kernel_rfl)
noncomputable def qc6:Fcd:=⟨false,2,2,[.ret (.comp false false 1 [1] (.n 0) (.gen (.v 0)) (some (.o2 false .eq (.o2 false .ix (.v 0) (.c (.int 1))) (.v 1))) (.v 0))]⟩
theorem qh4(k:Nat):TTf gx (k+1) 10=qc6.run (TTf gx k):=congrArg (Fcd.run (TTf gx k)) (show cFn gx ("of_key",top 29)=qc6 by kernel_rfl)
noncomputable def qgm:Fcd:=⟨false,2,2,[.ret (.comp false false 1 [1] (.n 0) (.gen (.v 0)) (some (.o2 false .gt (.o2 false .ix (.v 0) (.c (.int 2))) (.v 1))) (.v 0))]⟩
theorem qmn(k:Nat):TTf gx (k+1) 11=qgm.run (TTf gx k):=congrArg (Fcd.run (TTf gx k)) (show cFn gx ("over",top 30)=qgm by kernel_rfl)
noncomputable def qer:Fcd:=⟨false,2,2,[.ret (.comp false false 1 [1] (.n 0) (.gen (.v 0)) (some (.o2 false .lt (.o2 false .ix (.v 0) (.c (.int 2))) (.v 1))) (.v 0))]⟩
theorem qj1(k:Nat):TTf gx (k+1) 12=qer.run (TTf gx k):=congrArg (Fcd.run (TTf gx k)) (show cFn gx ("under",top 31)=qer by kernel_rfl)
noncomputable def qgl:Fcd:=⟨false,2,2,[.ret (.comp false false 3 [1] (.tup [(.n 0),(.n 1),(.n 2)]) (.gen (.v 0)) none (.tup [(.v 0),(.v 1),(.o2 false .add (.v 2) (.v 3))]))]⟩
theorem qmm(k:Nat):TTf gx (k+1) 13=qgl.run (TTf gx k):=congrArg (Fcd.run (TTf gx k)) (show cFn gx ("plus",top 32)=qgl by kernel_rfl)
noncomputable def qes:Fcd:=⟨false,2,2,[.ret (.comp false false 3 [1] (.tup [(.n 0),(.n 1),(.n 2)]) (.gen (.v 0)) none (.tup [(.v 0),(.v 1),(.o2 false .mul (.v 2) (.v 3))]))]⟩
theorem qj2(k:Nat):TTf gx (k+1) 14=qes.run (TTf gx k):=congrArg (Fcd.run (TTf gx k)) (show cFn gx ("times",top 33)=qes by kernel_rfl)
noncomputable def qet:Fcd:=⟨false,3,4,[.set 3 (.bm false .get (.v 2) [(.c (.str "came")),(.c (.int 0))]),.put (.v 2) (.c (.str "came")) (.o2 false .add (.v 3) (.bn false .len [(.v 0)])),.ret (.sl false (.v 0) none (some (.bn false .max [(.o2 false .sub (.v 1) (.v 3)),(.c (.int 0))])))]⟩
theorem qj3(k:Nat):TTf gx (k+1) 15=qet.run (TTf gx k):=congrArg (Fcd.run (TTf gx k)) (show cFn gx ("first",top 34)=qet by kernel_rfl)
noncomputable def qgn:Fcd:=⟨false,3,4,[.set 3 (.bm false .get (.v 2) [(.c (.str "came")),(.c (.int 0))]),.put (.v 2) (.c (.str "came")) (.o2 false .mod (.o2 false .add (.v 3) (.bn false .len [(.v 0)])) (.v 1)),.ret .no]⟩
theorem qmo(k:Nat):TTf gx (k+1) 16=qgn.run (TTf gx k):=congrArg (Fcd.run (TTf gx k)) (show cFn gx ("each",top 35)=qgn by kernel_rfl)
noncomputable def qc4:Fcd:=⟨false,3,8,[.set 3 (.lst true []),.for_ (.tup [(.n 4),(.n 5),(.n 6)]) (.gen (.v 0)) [.set 7 (.tup [(.o2 false .div (.v 4) (.v 1)),(.v 5)]),.ife (.and (.o2 false .gt (.bn false .len [(.v 2)]) (.c (.int 0))) (.o2 false .lt (.o2 false .ix (.bn false .max [(.v 2)]) (.c (.int 0))) (.o2 false .ix (.v 7) (.c (.int 0))))) [.exp (.bm false .extend (.v 3) [(.call 18 [(.v 1),(.v 2)])]),.exp (.alt (.bm false .clear (.v 2) []) (.bm false .dclear (.v 2) []))] [],.put (.v 2) (.v 7) (.o2 false .add (.bm false .get (.v 2) [(.v 7),(.c (.int 0))]) (.v 6))],.ret (.v 3)]⟩
theorem qh2(k:Nat):TTf gx (k+1) 17=qc4.run (TTf gx k):=congrArg (Fcd.run (TTf gx k)) (show cFn gx ("window",top 36)=qc4 by kernel_rfl)
noncomputable def qaY:Fcd:=⟨false,2,2,[.ret (.comp false false 1 [0,1] (.n 0) (.gen (.bn false .srt [(.v 1)])) none (.tup [(.o2 false .sub (.o2 false .mul (.o2 false .add (.o2 false .ix (.v 0) (.c (.int 0))) (.c (.int 1))) (.v 1)) (.c (.int 1))),(.o2 false .ix (.v 0) (.c (.int 1))),(.o2 false .ix (.v 2) (.v 0))]))]⟩
theorem qdh(k:Nat):TTf gx (k+1) 18=qaY.run (TTf gx k):=congrArg (Fcd.run (TTf gx k)) (show cFn gx ("window_rows",top 37)=qaY by kernel_rfl)
noncomputable def qce:Fcd:=⟨false,2,6,[.set 2 (.lst true []),.for_ (.tup [(.n 3),(.n 4),(.n 5)]) (.gen (.v 0)) [.put (.v 1) (.v 4) (.o2 false .add (.bm false .get (.v 1) [(.v 4),(.c (.int 0))]) (.v 5)),.exp (.bm false .append (.v 2) [(.tup [(.v 3),(.v 4),(.o2 false .ix (.v 1) (.v 4))])])],.ret (.v 2)]⟩
theorem qhb(k:Nat):TTf gx (k+1) 19=qce.run (TTf gx k):=congrArg (Fcd.run (TTf gx k)) (show cFn gx ("running",top 38)=qce by kernel_rfl)
noncomputable def qdb:Fcd:=⟨false,2,6,[.set 2 (.lst true []),.for_ (.tup [(.n 3),(.n 4),(.n 5)]) (.gen (.v 0)) [.ife (.o2 false .in_ (.v 4) (.v 1)) [.exp (.bm false .append (.v 2) [(.tup [(.v 3),(.v 4),(.o2 false .sub (.v 5) (.o2 false .ix (.v 1) (.v 4)))])])] [],.put (.v 1) (.v 4) (.v 5)],.ret (.v 2)]⟩
theorem qh9(k:Nat):TTf gx (k+1) 20=qdb.run (TTf gx k):=congrArg (Fcd.run (TTf gx k)) (show cFn gx ("change",top 39)=qdb by kernel_rfl)
noncomputable def qc5:Fcd:=⟨false,2,6,[.set 2 (.lst true []),.for_ (.tup [(.n 3),(.n 4),(.n 5)]) (.gen (.v 0)) [.ife (.or (.o2 false .nin (.v 4) (.v 1)) (.o2 false .ne (.o2 false .ix (.v 1) (.v 4)) (.v 5))) [.exp (.bm false .append (.v 2) [(.tup [(.v 3),(.v 4),(.v 5)])])] [],.put (.v 1) (.v 4) (.v 5)],.ret (.v 2)]⟩
theorem qh3(k:Nat):TTf gx (k+1) 21=qc5.run (TTf gx k):=congrArg (Fcd.run (TTf gx k)) (show cFn gx ("unlike",top 40)=qc5 by kernel_rfl)
noncomputable def qcg:Fcd:=⟨false,1,2,[.ife (.or (.nt (.inst "tuple" (.v 0))) (.or (.o2 false .eq (.bn false .len [(.v 0)]) (.c (.int 0))) (.nt (.inst "str" (.o2 false .ix (.v 0) (.c (.int 0))))))) [.ret (.c (.bl false))] [],.set 1 (.o2 false .ix (.v 0) (.c (.int 0))),.ife (.topin false [("running", "running"),("change", "change"),("unlike", "unlike")] (.v 1)) [.ret (.o2 false .eq (.bn false .len [(.v 0)]) (.c (.int 1)))] [],.ife (.o2 false .ne (.bn false .len [(.v 0)]) (.c (.int 2))) [.ret (.c (.bl false))] [],.ife (.o2 false .eq (.v 1) (.c (.str "key"))) [.ret (.call 4 [(.o2 false .ix (.v 0) (.c (.int 1)))])] [],.ife (.topin false [("over", "over"),("under", "under"),("plus", "plus"),("times", "times")] (.v 1)) [.ret (.call 2 [(.o2 false .ix (.v 0) (.c (.int 1))),(.neg (.c (.int 20))),(.c (.int 20))])] [],.ret (.and (.topin false [("first", "first"),("each", "each"),("window", "window")] (.v 1)) (.call 2 [(.o2 false .ix (.v 0) (.c (.int 1))),(.c (.int 1)),(.c (.int 20))]))]⟩
theorem qhd(k:Nat):TTf gx (k+1) 22=qcg.run (TTf gx k):=congrArg (Fcd.run (TTf gx k)) (show cFn gx ("is_step",top 44)=qcg by kernel_rfl)
noncomputable def qda:Fcd:=⟨false,1,1,[.ife (.or (.nt (.inst "tuple" (.v 0))) (.o2 false .gt (.bn false .len [(.v 0)]) (.c (.int 5)))) [.ret (.c (.bl false))] [],.ret (.bn false .all [(.comp false false 1 [] (.n 0) (.gen (.v 0)) none (.call 22 [(.v 0)]))])]⟩
theorem qh8(k:Nat):TTf gx (k+1) 23=qda.run (TTf gx k):=congrArg (Fcd.run (TTf gx k)) (show cFn gx ("is_ask",top 45)=qda by kernel_rfl)
noncomputable def qau:Fcd:=⟨false,1,1,[.ife (.nt (.call 23 [(.v 0)])) [.raise "NoAsk"] []]⟩
theorem qa6(k:Nat):TTf gx (k+1) 24=qau.run (TTf gx k):=congrArg (Fcd.run (TTf gx k)) (show cFn gx ("refuse_what_is_no_ask",top 46)=qau by kernel_rfl)
noncomputable def qaZ:Fcd:=⟨false,3,5,[.set 3 (.o2 false .ix (.v 0) (.c (.int 0))),.ife (.o2 false .eq (.v 3) (.c (.str "key"))) [.ret (.call 10 [(.v 1),(.o2 false .ix (.v 0) (.c (.int 1)))])] [],.ife (.topin false [("over", "over"),("under", "under"),("plus", "plus"),("times", "times")] (.v 3)) [.set 4 (.topget [("over", "over"),("under", "under"),("plus", "plus"),("times", "times")] (.v 3)),.ret (.callv gx.fns 4 [(.v 1),(.o2 false .ix (.v 0) (.c (.int 1)))])] [],.ife (.topin false [("first", "first"),("each", "each"),("window", "window")] (.v 3)) [.set 4 (.topget [("first", "first"),("each", "each"),("window", "window")] (.v 3)),.ret (.callv gx.fns 4 [(.v 1),(.o2 false .ix (.v 0) (.c (.int 1))),(.v 2)])] [],.set 4 (.topget [("running", "running"),("change", "change"),("unlike", "unlike")] (.v 3)),.ret (.callv gx.fns 4 [(.v 1),(.v 2)])]⟩
theorem qdi(k:Nat):TTf gx (k+1) 25=qaZ.run (TTf gx k):=congrArg (Fcd.run (TTf gx k)) (show cFn gx ("behind_step",top 47)=qaZ by kernel_rfl)
noncomputable def qaG:Fcd:=⟨false,3,4,[.set 3 (.call 25 [(.v 0),(.v 1),(.v 2)]),.ife (.o2 false .eq (.o2 false .ix (.v 0) (.c (.int 0))) (.c (.str "window"))) [.ret (.o2 false .add (.v 3) (.call 18 [(.o2 false .ix (.v 0) (.c (.int 1))),(.v 2)]))] [],.ret (.v 3)]⟩
theorem qbS(k:Nat):TTf gx (k+1) 26=qaG.run (TTf gx k):=congrArg (Fcd.run (TTf gx k)) (show cFn gx ("behind_last_rows",top 48)=qaG by kernel_rfl)
noncomputable def qeu:Fcd:=⟨false,2,4,[.exp (.call 24 [(.v 0)]),.exp (.call 9 [(.v 1)]),.set 2 (.bn false .lst [(.v 1)]),.for_ (.n 3) (.gen (.v 0)) [.set 2 (.call 26 [(.v 3),(.v 2),(.dct true)])],.ret (.v 2)]⟩
theorem qj4(k:Nat):TTf gx (k+1) 27=qeu.run (TTf gx k):=congrArg (Fcd.run (TTf gx k)) (show cFn gx ("asked",top 49)=qeu by kernel_rfl)
noncomputable def qch:Fcd:=⟨false,1,1,[.ret (.call 3 [(.v 0),(.c (.int 6))])]⟩
theorem qhe(k:Nat):TTf gx (k+1) 28=qch.run (TTf gx k):=congrArg (Fcd.run (TTf gx k)) (show cFn gx ("is_name",top 54)=qch by kernel_rfl)
noncomputable def qaN:Fcd:=⟨false,1,1,[.fld ["Desk"] "log" (.v 0) (.lst false []),.fld ["Desk"] "asks" (.v 0) (.dct false),.fld ["Desk"] "past" (.v 0) (.lst true []),.fld ["Desk"] "coming" (.v 0) (.lst true [])]⟩
theorem qcs(k:Nat):TTf gx (k+1) 29=qaN.run (TTf gx k):=congrArg (Fcd.run (TTf gx k)) (show cFn gx ("Desk.__init__",mth 55 0)=qaN by kernel_rfl)
noncomputable def qb1:Fcd:=⟨false,2,3,[.set 2 (.o2 false .add (.fld ["Desk"] "log" (.v 0)) (.lst false [(.v 1)])),.exp (.call 9 [(.v 2)]),.ife (.o2 false .gt (.bn false .len [(.v 2)]) (.c (.int 12))) [.raise "Full"] [],.exp (.mth [("Desk",37)] "do_step" (.v 0) [(.c (.str "add")),(.v 2),(.fld ["Desk"] "asks" (.v 0))])]⟩
theorem qfI(k:Nat):TTf gx (k+1) 30=qb1.run (TTf gx k):=congrArg (Fcd.run (TTf gx k)) (show cFn gx ("Desk.add",mth 55 1)=qb1 by kernel_rfl)
noncomputable def qbB:Fcd:=⟨false,3,5,[.exp (.call 24 [(.v 2)]),.ife (.nt (.call 28 [(.v 1)])) [.raise "NoName"] [],.set 3 (.o2 false .in_ (.v 1) (.fld ["Desk"] "asks" (.v 0))),.ife (.and (.nt (.v 3)) (.o2 false .ge (.bn false .len [(.fld ["Desk"] "asks" (.v 0))]) (.c (.int 6)))) [.raise "Full"] [],.set 4 (.bn true .dct [(.fld ["Desk"] "asks" (.v 0))]),.put (.v 4) (.v 1) (.v 2),.frz 4 (.exp (.mth [("Desk",37)] "do_step" (.v 0) [(.c (.str "hang")),(.fld ["Desk"] "log" (.v 0)),(.v 4)])),.ret (.v 3)]⟩
theorem qeH(k:Nat):TTf gx (k+1) 31=qbB.run (TTf gx k):=congrArg (Fcd.run (TTf gx k)) (show cFn gx ("Desk.hang",mth 55 2)=qbB by kernel_rfl)
noncomputable def qbA:Fcd:=⟨false,2,4,[.set 2 (.mth [("Desk",33)] "ask_of" (.v 0) [(.v 1)]),.set 3 (.bn true .dct [(.fld ["Desk"] "asks" (.v 0))]),.exp (.alt (.bm false .pop (.v 3) [(.v 1)]) (.bm false .dpop (.v 3) [(.v 1)])),.frz 3 (.exp (.mth [("Desk",37)] "do_step" (.v 0) [(.c (.str "lose")),(.fld ["Desk"] "log" (.v 0)),(.v 3)])),.ret (.v 2)]⟩
theorem qeG(k:Nat):TTf gx (k+1) 32=qbA.run (TTf gx k):=congrArg (Fcd.run (TTf gx k)) (show cFn gx ("Desk.lose",mth 55 3)=qbA by kernel_rfl)
noncomputable def qa1:Fcd:=⟨false,2,2,[.ife (.or (.nt (.call 28 [(.v 1)])) (.o2 false .nin (.v 1) (.fld ["Desk"] "asks" (.v 0)))) [.raise "NoName"] [],.ret (.o2 false .ix (.fld ["Desk"] "asks" (.v 0)) (.v 1))]⟩
theorem qdk(k:Nat):TTf gx (k+1) 33=qa1.run (TTf gx k):=congrArg (Fcd.run (TTf gx k)) (show cFn gx ("Desk.ask_of",mth 55 4)=qa1 by kernel_rfl)
noncomputable def qa2:Fcd:=⟨false,2,2,[.ret (.call 27 [(.mth [("Desk",33)] "ask_of" (.v 0) [(.v 1)]),(.fld ["Desk"] "log" (.v 0))])]⟩
theorem qdl(k:Nat):TTf gx (k+1) 34=qa2.run (TTf gx k):=congrArg (Fcd.run (TTf gx k)) (show cFn gx ("Desk.answer",mth 55 5)=qa2 by kernel_rfl)
noncomputable def qbh:Fcd:=⟨false,1,1,[.ret (.bn false .srt [(.fld ["Desk"] "asks" (.v 0))])]⟩
theorem qdR(k:Nat):TTf gx (k+1) 35=qbh.run (TTf gx k):=congrArg (Fcd.run (TTf gx k)) (show cFn gx ("Desk.names",mth 55 6)=qbh by kernel_rfl)
noncomputable def qbz:Fcd:=⟨false,1,1,[.ret (.bn false .lst [(.fld ["Desk"] "log" (.v 0))])]⟩
theorem qeF(k:Nat):TTf gx (k+1) 36=qbz.run (TTf gx k):=congrArg (Fcd.run (TTf gx k)) (show cFn gx ("Desk.rows",mth 55 7)=qbz by kernel_rfl)
noncomputable def qaT:Fcd:=⟨false,4,4,[.exp (.bm false .append (.fld ["Desk"] "past" (.v 0)) [(.tup [(.v 1),(.fld ["Desk"] "log" (.v 0)),(.fld ["Desk"] "asks" (.v 0))])]),.exp (.alt (.bm false .clear (.fld ["Desk"] "coming" (.v 0)) []) (.bm false .dclear (.fld ["Desk"] "coming" (.v 0)) [])),.fld ["Desk"] "log" (.v 0) (.v 2),.fld ["Desk"] "asks" (.v 0) (.v 3)]⟩
theorem qcE(k:Nat):TTf gx (k+1) 37=qaT.run (TTf gx k):=congrArg (Fcd.run (TTf gx k)) (show cFn gx ("Desk.do_step",mth 55 8)=qaT by kernel_rfl)
noncomputable def qbC:Fcd:=⟨false,1,1,[.ret (.mth [("Desk",40)] "step_between" (.v 0) [(.fld ["Desk"] "past" (.v 0)),(.fld ["Desk"] "coming" (.v 0))])]⟩
theorem qeI(k:Nat):TTf gx (k+1) 38=qbC.run (TTf gx k):=congrArg (Fcd.run (TTf gx k)) (show cFn gx ("Desk.back",mth 55 9)=qbC by kernel_rfl)
noncomputable def qbi:Fcd:=⟨false,1,1,[.ret (.mth [("Desk",40)] "step_between" (.v 0) [(.fld ["Desk"] "coming" (.v 0)),(.fld ["Desk"] "past" (.v 0))])]⟩
theorem qdS(k:Nat):TTf gx (k+1) 39=qbi.run (TTf gx k):=congrArg (Fcd.run (TTf gx k)) (show cFn gx ("Desk.forth",mth 55 10)=qbi by kernel_rfl)
noncomputable def qaE:Fcd:=⟨false,3,4,[.ife (.o2 false .eq (.bn false .len [(.v 1)]) (.c (.int 0))) [.raise "NoBack"] [],.set 3 (.alt (.bm false .pop (.v 1) []) (.bm false .dpop (.v 1) [])),.exp (.bm false .append (.v 2) [(.tup [(.o2 false .ix (.v 3) (.c (.int 0))),(.fld ["Desk"] "log" (.v 0)),(.fld ["Desk"] "asks" (.v 0))])]),.fld ["Desk"] "log" (.v 0) (.o2 false .ix (.v 3) (.c (.int 1))),.fld ["Desk"] "asks" (.v 0) (.o2 false .ix (.v 3) (.c (.int 2))),.ret (.o2 false .ix (.v 3) (.c (.int 0)))]⟩
theorem qbL(k:Nat):TTf gx (k+1) 40=qaE.run (TTf gx k):=congrArg (Fcd.run (TTf gx k)) (show cFn gx ("Desk.step_between",mth 55 11)=qaE by kernel_rfl)
noncomputable def qa0:Fcd:=⟨false,1,1,[.ret (.tup [(.bn false .len [(.fld ["Desk"] "past" (.v 0))]),(.bn false .len [(.fld ["Desk"] "coming" (.v 0))])])]⟩
theorem qdj(k:Nat):TTf gx (k+1) 41=qa0.run (TTf gx k):=congrArg (Fcd.run (TTf gx k)) (show cFn gx ("Desk.counts",mth 55 12)=qa0 by kernel_rfl)
noncomputable def qby:Fcd:=⟨false,1,1,[.exp (.call 0 [(.c (.int 0))])]⟩
theorem qeE(k:Nat):TTf gx (k+1) 42=qby.run (TTf gx k):=congrArg (Fcd.run (TTf gx k)) (show cFn gx ("Desk.twin",mth 55 13)=qby by kernel_rfl)
noncomputable def qbx:Fcd:=⟨false,2,2,[.ife (.o2 false .lt (.v 1) (.bn false .len [(.v 0)])) [.ret (.o2 false .ix (.v 0) (.v 1))] [],.ife (.o2 false .eq (.v 0) (.lst false [])) [.ret (.c (.int 0))] [],.ret (.o2 false .add (.o2 false .mul (.o2 false .ix (.v 0) (.o2 false .mod (.v 1) (.bn false .len [(.v 0)]))) (.c (.int 31))) (.v 1))]⟩
theorem qeD(k:Nat):TTf gx (k+1) 43=qbx.run (TTf gx k):=congrArg (Fcd.run (TTf gx k)) (show cFn gx ("_law_cell",top 57)=qbx by kernel_rfl)
noncomputable def qbw:Fcd:=⟨false,3,4,[.set 3 (.o2 false .mod (.o2 false .mul (.o2 false .add (.call 43 [(.v 0),(.v 1)]) (.o2 false .mul (.c (.int 6151)) (.o2 false .add (.v 1) (.c (.int 1))))) (.c (.int 40692))) (.c (.int 2147483399))),.ret (.o2 false .mod (.o2 false .mod (.o2 false .add (.o2 false .mul (.v 3) (.v 3)) (.o2 false .div (.v 3) (.c (.int 31)))) (.c (.int 2147483629))) (.v 2))]⟩
theorem qeC(k:Nat):TTf gx (k+1) 44=qbw.run (TTf gx k):=congrArg (Fcd.run (TTf gx k)) (show cFn gx ("_law_pick",top 58)=qbw by kernel_rfl)
noncomputable def qbg:Fcd:=⟨false,1,3,[.set 1 (.lst false [.no,.no,.no,.no]),.set 1 (.o2 false .add (.v 1) (.lst false [.no,.no,.no])),.set 1 (.o2 false .add (.v 1) (.lst false [.no,.no,.no])),.ife (.or (.o2 false .ne (.bm false .count (.v 1) [(.c (.bl true))]) (.c (.int 1))) (.nt .no)) [.ret (.c (.str "wrong"))] [],.set 2 (.lst false [(.c (.str "ended")),(.c (.str "full")),(.c (.str "no ask")),(.c (.str "no back")),(.c (.str "no name")),(.c (.str "no number")),(.c (.str "no row")),(.c (.str "no text")),(.c (.str "too late")),(.c (.str "unlike"))]),.ret (.o2 false .ix (.v 2) (.bm false .index (.v 1) [(.c (.bl true))]))]⟩
theorem qdQ(k:Nat):TTf gx (k+1) 45=qbg.run (TTf gx k):=congrArg (Fcd.run (TTf gx k)) (show cFn gx ("_law_class",top 59)=qbg by kernel_rfl)
noncomputable def qbv:Fcd:=⟨false,1,2,[.no]⟩
theorem qeB(k:Nat):TTf gx (k+1) 46=qbv.run (TTf gx k):=congrArg (Fcd.run (TTf gx k)) (show cFn gx ("_law_told",top 60)=qbv by kernel_rfl)
noncomputable def qb0:Fcd:=⟨false,0,2,[.set 0 (.lst true [(.c .non),(.tup []),(.tup [(.c (.int 0)),(.c (.str "a"))]),(.tup [(.c (.int 100)),(.c (.str "a")),(.c (.int 0))]),(.tup [(.neg (.c (.int 1))),(.c (.str "a")),(.c (.int 0))]),(.tup [(.c (.int 0)),(.c (.str "A")),(.c (.int 0))]),(.tup [(.c (.int 0)),(.c (.str "abc")),(.c (.int 0))]),(.tup [(.c (.int 0)),(.c (.str "a")),(.c (.int 100))])]),.exp (.bm false .extend (.v 0) [(.lst false [(.lst false [(.c (.int 0)),(.c (.str "a")),(.c (.int 0))]),(.tup [(.c (.bl true)),(.c (.str "a")),(.c (.int 0))])])]),.set 1 (.lst true [(.c .non),(.lst false []),(.tup [(.tup [(.c (.str "key")),(.c (.str "A"))])]),(.tup [(.tup [(.c (.str "over")),(.c (.int 21))])]),(.tup [(.tup [(.c (.str "first")),(.c (.int 0))])]),(.tup [(.tup [(.c (.str "sum"))])])]),.exp (.bm false .extend (.v 1) [(.lst false [(.o2 false .mul (.tup [(.tup [(.c (.str "running"))])]) (.c (.int 6))),(.c (.int 5)),(.c (.str "running"))])]),.ret (.tup [(.v 0),(.v 1)])]⟩
theorem qfH(k:Nat):TTf gx (k+1) 47=qb0.run (TTf gx k):=congrArg (Fcd.run (TTf gx k)) (show cFn gx ("_law_odd",top 61)=qb0 by kernel_rfl)
noncomputable def qcr:Fcd:=⟨false,1,10,[.asg (.tup [(.n 1),(.n 2)]) (.call 47 []),.set 3 (.lst false [(.c .non),(.c (.str "")),(.c (.str "A")),(.c (.str "abcdefg")),(.c (.int 5)),(.tup [(.c (.str "a"))]),(.c (.str "a b")),(.c (.str "a1"))]),.set 6 (.make "Desk" 29 []),.exp (.mth [("Desk",31)] "hang" (.v 6) [(.c (.str "a")),(.tup [(.tup [(.c (.str "running"))])])]),.exp (.mth [("Desk",30)] "add" (.v 6) [(.tup [(.c (.int 5)),(.c (.str "a")),(.c (.int 1))])]),.exp (.mth [("Desk",32)] "lose" (.v 6) [(.c (.str "a"))]),.exp (.mth [("Desk",38)] "back" (.v 6) []),.for_ (.n 7) (.by_ .rng1 [(.c (.int 4))]) [.asg (.tup [(.n 9),(.n 5)]) (.tup [(.o2 false .ix (.v 1) (.o2 false .mod (.o2 false .add (.call 44 [(.v 0),(.c (.int 0)),(.c (.int 10))]) (.o2 false .mul (.c (.int 3)) (.v 7))) (.c (.int 10)))),(.o2 false .ix (.v 2) (.o2 false .mod (.o2 false .add (.call 44 [(.v 0),(.c (.int 1)),(.c (.int 9))]) (.o2 false .mul (.c (.int 2)) (.v 7))) (.c (.int 9))))]),.set 8 (.o2 false .ix (.v 3) (.o2 false .mod (.o2 false .add (.call 44 [(.v 0),(.c (.int 2)),(.c (.int 8))]) (.o2 false .mul (.c (.int 3)) (.v 7))) (.c (.int 8)))),.set 4 (.lst true [(.told gx.wd [6,9] (.mth [("Desk",30)] "add" (.v 0) [(.v 1)])),(.c (.int 0)),(.c (.int 0))]),.put (.v 4) (.c (.int 1)) (.told gx.wd [5,6,8] (.mth [("Desk",31)] "hang" (.v 1) [(.v 2),(.v 0)])),.put (.v 4) (.c (.int 2)) (.told gx.wd [6,8] (.mth [("Desk",31)] "hang" (.v 0) [(.v 1),(.tup [])])),.exp (.bm false .append (.v 4) [(.told gx.wd [6,7,8] (.mth [("Desk",32)] "lose" (.v 0) [(.o2 false .ix (.lst false [(.v 2),(.c (.str "b"))]) (.o2 false .mod (.v 1) (.c (.int 2))))]))]),.exp (.bm false .append (.v 4) [(.told gx.wd [6,7,8] (.mth [("Desk",34)] "answer" (.v 0) [(.o2 false .ix (.lst false [(.v 2),(.c (.str "b"))]) (.o2 false .mod (.v 1) (.c (.int 2))))]))]),.exp (.bm false .append (.v 4) [(.told gx.wd [6,7,8] (.mth [("Desk",33)] "ask_of" (.v 0) [(.o2 false .ix (.lst false [(.v 2),(.c (.str "b"))]) (.o2 false .mod (.v 1) (.c (.int 2))))]))]),.exp (.bm false .append (.v 4) [(.told gx.wd [6] (.mth [("Desk",30)] "add" (.v 0) [(.tup [(.c (.int 4)),(.c (.str "a")),(.c (.int 1))])]))]),.ife (.o2 false .ne (.v 4) (.o2 false .add (.o2 false .add (.lst false [(.c (.str "no row")),(.c (.str "no ask"))]) (.o2 false .mul (.lst false [(.c (.str "no name"))]) (.c (.int 4)))) (.lst false [(.c (.str "too late"))]))) [.ret (.c (.bl false))] []],.ife (.or (.o2 false .ne (.mth [("Desk",36)] "rows" (.v 6) []) (.lst false [(.tup [(.c (.int 5)),(.c (.str "a")),(.c (.int 1))])])) (.or (.o2 false .ne (.mth [("Desk",35)] "names" (.v 6) []) (.lst false [(.c (.str "a"))])) (.or (.o2 false .ne (.mth [("Desk",41)] "counts" (.v 6) []) (.tup [(.c (.int 2)),(.c (.int 1))])) (.o2 false .ne (.mth [("Desk",39)] "forth" (.v 6) []) (.c (.str "lose")))))) [.ret (.c (.bl false))] [],.for_ (.n 7) (.by_ .rng1 [(.c (.int 11))]) [.exp (.mth [("Desk",30)] "add" (.v 6) [(.tup [(.c (.int 6)),(.c (.str "b")),(.v 7)])])],.for_ (.n 8) (.gen (.c (.str "abcdef"))) [.exp (.mth [("Desk",31)] "hang" (.v 6) [(.v 8),(.tup [])])],.ife (.o2 false .ne (.told gx.wd [6] (.mth [("Desk",30)] "add" (.v 0) [(.tup [(.c (.int 6)),(.c (.str "a")),(.c (.int 1))])])) (.c (.str "full"))) [.ret (.c (.bl false))] [],.ife (.o2 false .ne (.told gx.wd [6] (.mth [("Desk",30)] "add" (.v 0) [(.tup [(.c (.int 4)),(.c (.str "a")),(.c (.int 1))])])) (.c (.str "too late"))) [.ret (.c (.bl false))] [],.set 4 (.lst true [(.told gx.wd [6] (.mth [("Desk",31)] "hang" (.v 0) [(.c (.str "g")),(.tup [])]))]),.exp (.bm false .append (.v 4) [(.told gx.wd [6] (.mth [("Desk",31)] "hang" (.v 0) [(.c (.str "g")),(.c .non)]))]),.exp (.bm false .append (.v 4) [(.told gx.wd [6] (.mth [("Desk",31)] "hang" (.v 0) [(.c (.str "G")),(.tup [])]))]),.ife (.or (.o2 false .ne (.v 4) (.lst false [(.c (.str "full")),(.c (.str "no ask")),(.c (.str "no name"))])) (.o2 false .isn (.mth [("Desk",31)] "hang" (.v 6) [(.c (.str "f")),(.tup [(.tup [(.c (.str "running"))])])]) (.c (.bl true)))) [.ret (.c (.bl false))] [],.ret (.and (.o2 false .eq (.mth [("Desk",34)] "answer" (.v 6) [(.c (.str "a"))]) (.mth [("Desk",36)] "rows" (.v 6) [])) (.and (.o2 false .eq (.bn false .len [(.mth [("Desk",36)] "rows" (.v 6) [])]) (.c (.int 12))) (.o2 false .eq (.mth [("Desk",33)] "ask_of" (.v 6) [(.c (.str "f"))]) (.tup [(.tup [(.c (.str "running"))])]))))]⟩
theorem qoF(k:Nat):TTf gx (k+1) 48=qcr.run (TTf gx k):=congrArg (Fcd.run (TTf gx k)) (show cFn gx ("law",top 62)=qcr by kernel_rfl)
end K89
namespace NV
open PySem L2
section
variable {F:Fs}{ρ:Ro}{μ:Mu}
noncomputable def lk:Option (Option T)->Mu->R T
 |some (some t),μ=>.ok t μ
 |_,_=>.no
@[simp] theorem qsB(t:T)(μ:Mu):lk (some (some t)) μ= .ok t μ:=rfl
@[simp] theorem qq1{α β γ:Type}{r:R α}{f:α->Mu->R β}{g:β->Mu->R γ}:(r.bind f).bind g=r.bind λa m=>(f a m).bind g:=by cases r<;>rfl
@[simp] theorem qrU:runSs F [] ρ μ= .ok (.nx ρ) μ:=rfl
@[simp] theorem qaB{s:CS}{ss:List CS}:runSs F (s::ss) ρ μ=(qa3 F s ρ μ).bind (qhf (runSs F ss)):=rfl
@[simp] theorem qaK{e:DS0 Out}{ρ:Ro}{μ:Mu}:qhf e (.nx ρ) μ=e ρ μ:=rfl
@[simp] theorem qq5{e:DS0 Out}{t:T}{μ:Mu}:qhf e (.rt t) μ= .ok (.rt t) μ:=rfl
@[simp] theorem qq7{e:DS0 Out}{ρ:Ro}{μ:Mu}:qhf e (.bk ρ) μ= .ok (.bk ρ) μ:=rfl
@[simp] theorem qq6{e:DS0 Out}{ρ:Ro}{μ:Mu}:qhf e (.ct ρ) μ= .ok (.ct ρ) μ:=rfl
@[simp] theorem qsi{t:T}{μ:Mu}:outT (.rt t) μ= .ok t μ:=rfl
@[simp] theorem qsj{ρ:Ro}{μ:Mu}:outT (.nx ρ) μ= .ok .non μ:=rfl
@[simp] theorem qtB{b:Bool}{μ:Mu}:tbO (.bl b) μ= .ok b μ:=rfl
@[simp] theorem quQ:qa3 F .nx ρ μ= .ok (.nx ρ) μ:=rfl
@[simp] theorem qtM{e:CE}:qa3 F (.ret e) ρ μ=(qad F e ρ μ).bind λt μ=>.ok (.rt t) μ:=rfl
@[simp] theorem qlM{i:Nat}{e:CE}:qa3 F (.set i e) ρ μ=(qad F e ρ μ).bind λt μ=>.ok (.nx (ρ.set i (some t))) μ:=rfl
@[simp] theorem qo2{g:CG}{e:CE}:qa3 F (.asg g e) ρ μ=(qad F e ρ μ).bind λt μ=>(runG g t ρ μ).bind λai aa=>.ok (.nx ai) aa:=rfl
@[simp] theorem qo1{e:CE}:qa3 F (.exp e) ρ μ=(qad F e ρ μ).bind λ_ μ=>.ok (.nx ρ) μ:=rfl
theorem qgT{α:Type}{c:Prop}[Decidable c]{f g:Ro->Mu->R α}:(if c then f else g) ρ μ=if c then f ρ μ else g ρ μ:=by split<;>rfl
@[simp] theorem qtO{t:CE}{a b:List CS}:qa3 F (.ife t a b) ρ μ=(qad F t ρ μ).bind λx μ=>(tbO x μ).bind λc μ=>if c=true then runSs F a ρ μ else runSs F b ρ μ:=by
 show((qad F t ρ μ).bind λt μ=>tbO t μ).bind _=_;cases qad F t ρ μ with
 |ok x m=>show(tbO x m).bind _=(tbO x m).bind _;congr 1;funext c m';exact qgT
 |_=>rfl
@[simp] theorem qtR:qa3 F .brk ρ μ= .ok (.bk ρ) μ:=rfl
@[simp] theorem qtQ:qa3 F .cnt ρ μ= .ok (.ct ρ) μ:=rfl
@[simp] theorem qq9{c:Str}:qa3 F (.raise c) ρ μ= .ex c μ:=rfl
@[simp] theorem qlN{o i e:CE}:qa3 F (.put o i e) ρ μ=(qad F e ρ μ).bind λv μ=>(qad F o ρ μ).bind λo μ=>(qad F i ρ μ).bind λi μ=>match qqb μ o i v with
 |some q=>if μ.live q.1=true then .ok (.nx ρ) (μ.put q.1 q.2) else .no
 |none=>.no:=rfl
@[simp] theorem qtN{is:List Nat}{es:List CE}:qa3 F (.par is es) ρ μ=(runA F es ρ μ).bind λts μ=>match qbd is ts ρ with|some ai=>.ok (.nx ai) μ|none=>.no:=rfl
@[simp] theorem qtP{cs:List Str}{f:Str}{o e:CE}:qa3 F (.fld cs f o e) ρ μ=(qad F e ρ μ).bind λt μ=>(qad F o ρ μ).bind λo μ=>(qrn (λc _=>cs.contains c) f t o μ).bind λ_ μ=>.ok (.nx ρ) μ:=rfl
theorem qo0{g:CG}{it:CI}{b:List CS}:qa3 F (.for_ g it b) ρ μ=(runI F it ρ μ).bind λit μ=>qrm (runG g) (runSs F b) it ρ μ:=rfl
@[simp] theorem qtJ:qbd [] [] ρ=some ρ:=rfl
@[simp] theorem qrO{i:Nat}{is:List Nat}{t:T}{ts:List T}:qbd (i::is) (t::ts) ρ=qbd is ts (ρ.set i (some t)):=rfl
@[simp] theorem qvC{i:Nat}{t:T}:runG (.n i) t ρ μ= .ok (ρ.set i (some t)) μ:=rfl
@[simp] theorem qtX{gs:List CG}{ts:List T}:runG (.tup gs) (.tup ts) ρ μ=if ts.length=gs.length then runGs gs ts ρ μ else .no:=rfl
@[simp] theorem qrZ:runGs [] [] ρ μ= .ok ρ μ:=rfl
@[simp] theorem qra{g:CG}{gs:List CG}{t:T}{ts:List T}:runGs (g::gs) (t::ts) ρ μ=(runG g t ρ μ).bind (runGs gs ts):=rfl
@[simp] theorem qim:runA F [] ρ μ= .ok [] μ:=rfl
@[simp] theorem qcb{e:CE}{es:List CE}:runA F (e::es) ρ μ=(qad F e ρ μ).bind λx μ=>(runA F es ρ μ).bind λxs μ=>.ok (x::xs) μ:=rfl
@[simp] theorem qvD{i:Nat}:qad F (.v i) ρ μ=lk ρ[i]? μ:=by
 show dV i ρ μ=_;unfold dV
 rcases ρ[i]? with _|_|_<;>rfl
@[simp] theorem qvE{t:T}:qad F (.c t) ρ μ= .ok t μ:=rfl
@[simp] theorem qo3{es:List CE}:qad F (.tup es) ρ μ=(runA F es ρ μ).bind λxs μ=>if xs.length<=1000 then .ok (.tup xs) μ else .no:=rfl
@[simp] theorem qr5{es:List CE}:qad F (.lst false es) ρ μ=(runA F es ρ μ).bind λxs μ=>if xs.length<=1000 then .ok (.lst xs) μ else .no:=by
 show((runA F es ρ μ).bind λxs μ=>if xs.length<=1000 then R.ok (Ct.ls xs) μ else .no).bind fzC=_;cases runA F es ρ μ with
 |ok x m=>show(if x.length<=1000 then R.ok (Ct.ls x) m else .no).bind fzC=if x.length<=1000 then R.ok (T.lst x) m else .no;split<;>rfl
 |_=>rfl
@[simp] theorem qmK{es:List CE}:qad F (.lst true es) ρ μ=(runA F es ρ μ).bind λxs μ=>if xs.length<=1000 then .ok (.obj μ.l.length) (μ.add (.ls xs)) else .no:=by
 show((runA F es ρ μ).bind λxs μ=>if xs.length<=1000 then R.ok (Ct.ls xs) μ else .no).bind (λc μ=>R.ok (T.obj μ.l.length) (μ.add c))=_;cases runA F es ρ μ with
 |ok x m=>show(if x.length<=1000 then R.ok (Ct.ls x) m else .no).bind (λc μ=>R.ok (T.obj μ.l.length) (μ.add c))=if x.length<=1000 then R.ok (T.obj m.l.length) (m.add (.ls x)) else .no;split<;>rfl
 |_=>rfl
@[simp] theorem qr7:qad F (.dct true) ρ μ= .ok (.obj μ.l.length) (μ.add (.dk [])):=rfl
@[simp] theorem qr8:qad F (.dct false) ρ μ= .ok (.dct []) μ:=rfl
@[simp] theorem quW{ow:Bool}{o:O2}{a b:CE}:qad F (.o2 ow o a b) ρ μ=(qad F a ρ μ).bind λx μ=>(qad F b ρ μ).bind λy μ=>nvR ow (o.g μ x y) μ:=rfl
@[simp] theorem qtY{a:CE}:qad F (.neg a) ρ μ=(qad F a ρ μ).bind qqc:=rfl
@[simp] theorem qrk{i:Int}{μ:Mu}:qqc (.int i) μ= .ok (.int (-i)) μ:=rfl
@[simp] theorem qt1{a b:CE}:qad F (.and a b) ρ μ=(qad F a ρ μ).bind λx μ=>(tbO x μ).bind λc μ=>if c=true then qad F b ρ μ else .ok (.bl false) μ:=by
 show((qad F a ρ μ).bind λt μ=>tbO t μ).bind _=_;cases qad F a ρ μ with
 |ok x m=>show(tbO x m).bind _=(tbO x m).bind _;congr 1;funext c m';exact qgT
 |_=>rfl
@[simp] theorem quV{a b:CE}:qad F (.or a b) ρ μ=(qad F a ρ μ).bind λx μ=>(tbO x μ).bind λc μ=>if c=true then .ok (.bl true) μ else qad F b ρ μ:=by
 show((qad F a ρ μ).bind λt μ=>tbO t μ).bind _=_;cases qad F a ρ μ with
 |ok x m=>show(tbO x m).bind _=(tbO x m).bind _;congr 1;funext c m';exact qgT
 |_=>rfl
@[simp] theorem qtZ{t a b:CE}:qad F (.ife t a b) ρ μ=(qad F t ρ μ).bind λx μ=>(tbO x μ).bind λc μ=>if c=true then qad F a ρ μ else qad F b ρ μ:=by
 show((qad F t ρ μ).bind λt μ=>tbO t μ).bind _=_;cases qad F t ρ μ with
 |ok x m=>show(tbO x m).bind _=(tbO x m).bind _;congr 1;funext c m';exact qgT
 |_=>rfl
@[simp] theorem qrb{o p:O2}{a b c:CE}:qad F (.chain o p a b c) ρ μ=(qad F a ρ μ).bind λx μ=>(qad F b ρ μ).bind λy μ=>(nvR false (o.g μ x y) μ).bind λz μ=>(tbO z μ).bind λk μ=>if k=true then(qad F c ρ μ).bind λw μ=>nvR false (p.g μ y w) μ else .ok (.bl false) μ:=rfl
@[simp] theorem quX{ow:Bool}{b:Bn}{es:List CE}:qad F (.bn ow b es) ρ μ=(runA F es ρ μ).bind λts μ=>nvR ow (b.g μ ts) μ:=rfl
@[simp] theorem qsa{ow:Bool}{b:Bm}{o:CE}{es:List CE}:qad F (.bm ow b o es) ρ μ=(qad F o ρ μ).bind λo μ=>if qnp μ o=b.ty then(runA F es ρ μ).bind λts μ=>nvR ow (b.g μ (o::ts)) μ else .no:=rfl
@[simp] theorem qr6{N:String}{a:CE}:qad F (.inst N a) ρ μ=(qad F a ρ μ).bind λx μ=>qdn N x μ:=rfl
@[simp] theorem qr1{ow:Bool}{a:CE}:qad F (.sset ow a) ρ μ=(qad F a ρ μ).bind λx μ=>nvR ow (qud μ x) μ:=rfl
@[simp] theorem qr3{a:CE}:qad F (.slen a) ρ μ=(qad F a ρ μ).bind λx μ=>nvR false (qja μ x) μ:=rfl
@[simp] theorem quU{ow:Bool}{a:CE}{lo hi:Option CE}:qad F (.sl ow a lo hi) ρ μ=(qad F a ρ μ).bind λx μ=>(runO F lo ρ μ).bind λl μ=>(runO F hi ρ μ).bind λh μ=>nvR ow (gSl μ x l h) μ:=rfl
@[simp] theorem qrX:runO F none ρ μ= .ok none μ:=rfl
noncomputable def asI:T->Mu->R (Option Int)
 |.int i,μ=>.ok (some i) μ
 |_,_=>.no
@[simp] theorem qtu{i:Int}:asI (.int i) μ= .ok (some i) μ:=rfl
@[simp] theorem qr9{i:Nat}{es:List CE}:qad F (.call i es) ρ μ=(runA F es ρ μ).bind λts μ=>F i ts μ:=rfl
@[simp] theorem qr4{c:Str}{i:Nat}{es:List CE}:qad F (.make c i es) ρ μ=(runA F es ρ μ).bind λts μ=>mkR c (F i) ts μ:=rfl
@[simp] theorem qt0{cs:List Str}{f:Str}{o:CE}:qad F (.fld cs f o) ρ μ=(qad F o ρ μ).bind λo μ=>qox (λc _=>cs.contains c) f o μ:=rfl
@[simp] theorem qr2{ow:Bool}{b:KB}{a:CE}:qad F (.srtK ow b a) ρ μ=(qad F a ρ μ).bind λx μ=>nvR ow (ql0 b μ x) μ:=rfl
@[simp] theorem qvF{ow:Bool}{t:T}{μ:Mu}:nvR ow (some (.v t)) μ= .ok t μ:=rfl
@[simp] theorem qvG{ow:Bool}{ts:List T}{μ:Mu}:nvR ow (some (.t ts)) μ= .ok (.tup ts) μ:=rfl
@[simp] theorem quZ{ts:List T}{μ:Mu}:nvR false (some (.l ts)) μ= .ok (.lst ts) μ:=rfl
@[simp] theorem quY{ts:List T}{μ:Mu}:nvR true (some (.l ts)) μ= .ok (.obj μ.l.length) (μ.add (.ls ts)):=rfl
@[simp] theorem qu0{ts:List (Key×T)}{μ:Mu}:nvR false (some (.d ts)) μ= .ok (.dct ts) μ:=rfl
@[simp] theorem qvj{i j:Int}:O2.g .add μ (.int i) (.int j)=some (.v (.int (i+j))):=rfl
@[simp] theorem qvd{i j:Int}:O2.g .sub μ (.int i) (.int j)=some (.v (.int (i - j))):=rfl
@[simp] theorem qp9{i j:Int}:O2.g .mul μ (.int i) (.int j)=if(-4294967296<=i/\i<=4294967296)\/(-4294967296<=j/\j<=4294967296) then some (.v (.int (i*j))) else none:=rfl
@[simp] theorem qvi{i j:Int}:O2.g .div μ (.int i) (.int j)=if 0<j/\j<1073741824 then some (.v (.int (i / j))) else none:=rfl
@[simp] theorem qve{i j:Int}:O2.g .mod μ (.int i) (.int j)=if 0<j then some (.v (.int (i % j))) else none:=rfl
@[simp] theorem qvI{i j:Int}:O2.g .lt μ (.int i) (.int j)=some (.v (.bl (decide (i<j)))):=rfl
@[simp] theorem qvJ{i j:Int}:O2.g .le μ (.int i) (.int j)=some (.v (.bl (decide (i<=j)))):=rfl
@[simp] theorem qvK{i j:Int}:O2.g .gt μ (.int i) (.int j)=some (.v (.bl (decide (j<i)))):=rfl
@[simp] theorem qvL{i j:Int}:O2.g .ge μ (.int i) (.int j)=some (.v (.bl (decide (j<=i)))):=rfl
@[simp] theorem qvf{i j:Str}:O2.g .lt μ (.str i) (.str j)=some (.v (.bl (qj8 i j))):=rfl
@[simp] theorem qvg{i j:Str}:O2.g .le μ (.str i) (.str j)=some (.v (.bl (!qj8 j i))):=rfl
@[simp] theorem quc{i j:Str}:O2.g .add μ (.str i) (.str j)=if i.length+j.length<=100000 then some (.v (.str (i++j))) else none:=rfl
@[simp] theorem qub{x:T}{xs:List T}{y:T}{ys:List T}:O2.g .add μ (.tup (x::xs)) (.tup (y::ys))=if xs.length+ys.length<=900 then some (.t (x::xs++y::ys)) else none:=rfl
@[simp] theorem qsR{ys:List T}:O2.g .add μ (.tup []) (.tup ys)=some (.v (.tup ys)):=rfl
@[simp] theorem qsQ{x:T}{xs:List T}:O2.g .add μ (.tup (x::xs)) (.tup [])=if xs.length<=900 then some (.v (.tup (x::xs))) else none:=rfl
@[simp] theorem qsO{ns:List Int}:O2.g .eq μ (.scr ns) (.lst [])=some (.v (.bl ns.isEmpty)):=rfl
noncomputable def ixT{α:Type}(ts:List α)(i:Int):Option α:=if 0<=i then ts[i.toNat]? else if 0<=(ts.length:Int)+i then ts[((ts.length:Int)+i).toNat]? else none
theorem qjL{α:Type}(ts:List α)(i:Int):atI ts i=ixT ts i:=by
 unfold atI ixN ixT;by_cases h:0<=i
 ·rw[if_pos h,if_pos h];split
  ·rfl
  ·rw[List.getElem?_eq_none_iff.mpr (by omega)];rfl
 ·rw[if_neg h,if_neg h];by_cases h2:0<=(ts.length:Int)+i
  ·rw[if_pos (by omega),if_pos h2,Int.add_comm];rfl
  ·rw[if_neg (by omega),if_neg h2];rfl
@[simp] theorem qvh{ts:List T}{i:Int}:O2.g .ix μ (.lst ts) (.int i)=(ixT ts i).map .v:=by rw[<-qjL];rfl
@[simp] theorem qsN{ns:List Int}{i:Int}:O2.g .ix μ (.scr ns) (.int i)=(ixT ns i).map λn=>.v (.int n):=by
 show(atI (ns.map T.int) i).map Nv.v=_;rw[qjL];unfold ixT;simp only[List.getElem?_map,List.length_map];split
 ·rw[Option.map_map];rfl
 ·split
  ·rw[Option.map_map];rfl
  ·rfl
theorem qi0{α:Type}{ts:List α}{i:Int}(h:0<=i):ixT ts i=ts[i.toNat]? :=by unfold ixT;rw[if_pos h]
@[simp] theorem qur{ts:List T}:Bn.g .len μ [.lst ts]=some (.v (.int ts.length)):=rfl
@[simp] theorem quq{ts:List T}:Bn.g .len μ [.tup ts]=some (.v (.int ts.length)):=rfl
@[simp] theorem qrp{ns:List Int}:Bn.g .len μ [.scr ns]=some (.v (.int ns.length)):=by show some (Nv.v (.int (ns.map T.int).length))=_;rw[List.length_map]
@[simp] theorem qup{ts:List T}:Bn.g .lst μ [.lst ts]=some (.l ts):=rfl
@[simp] theorem quo{ts:List T}:Bn.g .lst μ [.tup ts]=some (.l ts):=rfl
@[simp] theorem qu9{N:String}{i:Int}:qdn N (.int i) μ= .ok (.bl (qlW N "int")) μ:=rfl
@[simp] theorem qvH{N:String}{i:Bool}:qdn N (.bl i) μ= .ok (.bl (qlW N "bool")) μ:=rfl
@[simp] theorem qu6{N:String}{i:Str}:qdn N (.str i) μ= .ok (.bl (qlW N "str")) μ:=rfl
@[simp] theorem qu5{N:String}{i:List T}:qdn N (.tup i) μ= .ok (.bl (qlW N "tuple")) μ:=rfl
@[simp] theorem qu8{N:String}{i:List T}:qdn N (.lst i) μ= .ok (.bl (qlW N "list")) μ:=rfl
@[simp] theorem qu7{N:String}:qdn N .non μ= .ok (.bl (qlW N "NoneType")) μ:=rfl
end
section
variable {F:Fs}{μ:Mu}
theorem qhA{t:T}:leave μ (.ok t μ)= .ok t μ:=if_pos rfl
theorem qlK{c:Fcd}{ts:List T}{t:T}(hl:ts.length=c.n)(h:(runSs F c.b (ts.map some++List.replicate (c.N - c.n) none) μ).bind outT= .ok t μ):c.run F ts μ= .ok t μ:=by
 unfold Fcd.run fnR;rw[if_pos hl,h];unfold lv;split
 ·rfl
 ·exact qhA
theorem qqe{n:Nat}{l:List Ct}{d:Nat}{t:T}(h:ub t<=n):fzT n l d t=some t:=by cases d<;>(unfold fzT;rw[if_pos h])
end
section
variable {F:Fs}{ρ:Ro}{μ:Mu}
noncomputable def Its(μ:Mu)(it:Ito)(ts:List T):Prop:=(∀i,nxt it μ i=some ts[i]?)/\qb7 it μ=ts.length
noncomputable def qtw(F:Fs)(ci:CI)(ρ:Ro)(μ:Mu)(ts:List T):Prop:= ∃it,runI F ci ρ μ= .ok it μ/\Its μ it ts
noncomputable def itv(μ:Mu):T->Option (List T)
 |.lst ts=>some ts
 |.tup ts=>some ts
 |.obj k=>(match μ.l[k]? with|some (.ls ts)=>some ts|_=>none)
 |.str z=>if z.length<=1000 then some (z.cps.toList.map λc=>.str ⟨#[c]⟩) else none
 |_=>none
@[simp] theorem qsF{ts:List T}:itv μ (.lst ts)=some ts:=rfl
@[simp] theorem qsE{ts:List T}:itv μ (.tup ts)=some ts:=rfl
theorem qp5{ts:List T}:Its μ (.fx ts) ts:=⟨λ_=>rfl,rfl⟩
theorem qsJ{e:CE}{n:Nat}(he:qad F e ρ μ= .ok (.int n) μ)(hn:n<=1000000):qtw F (.by_ .rng1 [e]) ρ μ ((List.range n).map λk=>.int (k:Nat)):=by refine⟨.fx ((List.range n).map λk=>.int (k:Nat)),?_,qp5⟩;show(runA F [e] ρ μ).bind (λts μ=>qcl ts μ)=_;simp only[qcb,qim,he,qaq,qcl];rw[if_pos ⟨by omega,by omega⟩];rfl
@[simp] theorem qrT:runT F none ρ μ= .ok true μ:=rfl
@[simp] theorem qrS{e:CE}:runT F (some e) ρ μ=(qad F e ρ μ).bind tbO:=rfl
noncomputable def qvc:Out->Option Ro
 |.nx ρ=>some ρ
 |.ct ρ=>some ρ
 |_=>none
theorem qjg {α:Type} {l:List α} {f:α->T} {dg:T->DS0 Ro} {db:DS0 Out} {it:Ito} (J:List α->Ro->Mu->Prop) (hn: ∀d r ρ μ,l=d++r->J d ρ μ->nxt it μ d.length=some (r.map f)[0]?)
  (hs: ∀d a r,l=d++a::r->∀ρ μ,J d ρ μ->∃aq ag o ak aB,dg (f a) ρ μ= .ok aq ag/\db aq ag= .ok o ak/\qvc o=some aB/\J (d++[a]) aB ak):
  ∀(r d:List α) (n:Nat) (ρ:Ro) (μ:Mu),l=d++r->r.length<=n->J d ρ μ->∃ai aa,qff it dg db n d.length ρ μ= .ok (.nx ai) aa/\J l ai aa
 |[],d,n,ρ,μ,hl,hr,hJ=>by have e:=hn d [] ρ μ hl hJ;refine⟨ρ,μ,?_,by rw[hl,List.append_nil];exact hJ⟩;cases n<;>(simp only[qff,e];rfl)
 |a::r,d,n,ρ,μ,hl,hr,hJ=>by
  have e:=hn d (a::r) ρ μ hl hJ;obtain⟨n,rfl⟩: ∃k,n=k+1:=⟨n - 1,by simp at hr;omega⟩
  obtain⟨aq,ag,o,ak,aB,e1,e2,e3,j2⟩:=hs d a r hl ρ μ hJ;obtain⟨ai,aa,e4,j3⟩:=qjg J hn hs r (d++[a]) n aB ak (by rw[hl];simp) (by simpa using hr) j2;refine⟨ai,aa,?_,j3⟩;rw[List.length_append] at e4;simp only[qff,e,List.map_cons,List.getElem?_cons_zero,e1,e2,qaq];cases o with
  |nx _|ct _=>cases e3;exact e4
  |rt _|bk _=>cases e3
theorem qjf {α:Type} (l:List α) (f:α->T) (J:List α->Ro->Mu->Prop) {g:CG} {ci:CI} {b:List CS} {β:Type} {k:Out->Mu->R β} {r:R β} {ts:List T} (ht:ts=l.map f) (hi: ∃it,runI F ci ρ μ= .ok it μ/\(it= .fx ts\/∃q,it= .lv q/\μ.l[q]? =some (.ls ts)/\∀d ai aa,J d ai aa->aa.l[q]? =some (.ls ts))) (h0:J [] ρ μ)
  (hs: ∀d a r,l=d++a::r->∀ρ μ,J d ρ μ->∃aB ak,((runG g (f a) ρ μ).bind (runSs F b)= .ok (.nx aB) ak\/(runG g (f a) ρ μ).bind (runSs F b)= .ok (.ct aB) ak)/\J (d++[a]) aB ak)
  (hk: ∀ai aa,J l ai aa->k (.nx ai) aa=r):(qa3 F (.for_ g ci b) ρ μ).bind k=r:=by
 obtain⟨it,e1,e2⟩:=hi;subst ht;rw[qo0,e1,qaq,qji];have hlen:qb7 it μ=l.length:=by
  rcases e2 with rfl|⟨q,rfl,hq,_⟩
  ·exact List.length_map ..
  ·simp only[qb7,hq,List.length_map]
 obtain⟨ai,aa,e3,j⟩:=qjg (l:=l) (f:=f) (it:=it) J (λd r ai aa hl hJ=>by
  have:(l.map f)[d.length]? =(r.map f)[0]? :=by rw[hl];cases r<;>simp
  rcases e2 with rfl|⟨q,rfl,_,hq⟩
  ·show some (l.map f)[d.length]? =_;rw[this]
  ·simp only[nxt,hq d ai aa hJ,this]) (λd a r hl ρ μ hJ=>by
  obtain⟨aB,ak,e,j⟩:=hs d a r hl ρ μ hJ;cases q:runG g (f a) ρ μ with
  |ok aq ag=>
   rw[q,qaq] at e
   rcases e with e|e<;>exact⟨aq,ag,_,ak,aB,q,e,rfl,j⟩
  |no=>rw[q] at e;rcases e with e|e<;>cases e
  |ex c m=>rw[q] at e;rcases e with e|e<;>cases e) l [] (qb7 it μ) ρ μ rfl (by omega) h0
 rw[show qff it (runG g) (runSs F b) (qb7 it μ) 0 ρ μ=_ from e3];exact hk ai aa j
theorem qeh {α:Type} (l:List α) (f:α->T) (J:List α->Ro->Mu->Prop) {g:CG} {ci:CI} {b:List CS} {β:Type} {k:Out->Mu->R β} {r:R β} {ts:List T} (ht:ts=l.map f) (hi: ∃it,runI F ci ρ μ= .ok it μ/\(it= .fx ts\/∃q,it= .lv q/\μ.l[q]? =some (.ls ts)/\∀d ai aa,J d ai aa->aa.l[q]? =some (.ls ts))) (h0:J [] ρ μ)
  (hs: ∀d a r,l=d++a::r->∀ρ μ,J d ρ μ->∃aB ak,(runG g (f a) ρ μ).bind (runSs F b)= .ok (.nx aB) ak/\J (d++[a]) aB ak)
  (hk: ∀ai aa,J l ai aa->k (.nx ai) aa=r):(qa3 F (.for_ g ci b) ρ μ).bind k=r:=
 qjf l f J ht hi h0 (λd a r hl ρ μ hJ=>by obtain⟨aB,ak,e,j⟩:=hs d a r hl ρ μ hJ;exact⟨aB,ak,.inl e,j⟩) hk
theorem qnE{e:CE}{n:Nat}(he:qad F e ρ μ= .ok (.int n) μ)(hn:n<=1000000){Q:Ito->Prop}: ∃it,runI F (.by_ .rng1 [e]) ρ μ= .ok it μ/\(it= .fx ((List.range n).map λk=>.int (k:Nat))\/Q it):=by refine⟨.fx ((List.range n).map λk=>.int (k:Nat)),?_,.inl rfl⟩;show(runA F [e] ρ μ).bind (λts μ=>qcl ts μ)=_;simp only[qcb,qim,he,qaq,qcl];rw[if_pos ⟨by omega,by omega⟩];rfl
@[simp] theorem Mu.add_l{c:Ct}:(μ.add c).l=μ.l++[c]:=rfl
@[simp] theorem Mu.put_l{c:Ct}{k:Nat}:(μ.put k c).l=μ.l.set k c:=rfl
noncomputable def Mu.on(μ:Mu)(c:Ct):Mu:=⟨μ.l++[c],μ.k⟩
end
noncomputable def qlr(ns:List Int)(k:Int):Int:=if k<(ns.length:Int) then ns.getD k.toNat 0 else if ns=[] then 0 else ns.getD (k % (ns.length:Int)).toNat 0*31+k
noncomputable def qcp(ns:List Int)(k:Int):Int:=(qlr ns k+6151*(k+1))*40692 % 2147483399
noncomputable def qiq(ns:List Int)(k many:Int):Int:=(qcp ns k*qcp ns k+qcp ns k / 31) % 2147483629 % many
noncomputable def qg2:Fcd:=⟨false,2,2,[.ife (.o2 false .lt (.v 1) (.bn false .len [(.v 0)])) [.ret (.o2 false .ix (.v 0) (.v 1))] [],.ife (.o2 false .eq (.v 0) (.lst false [])) [.ret (.c (.int 0))] [],.ret (.o2 false .add (.o2 false .mul (.o2 false .ix (.v 0) (.o2 false .mod (.v 1) (.bn false .len [(.v 0)]))) (.c (.int 31))) (.v 1))]⟩
noncomputable def qma(c:Nat):Fcd:=⟨false,3,4,[.set 3 (.o2 false .mod (.o2 false .mul (.o2 false .add (.call c [(.v 0),(.v 1)]) (.o2 false .mul (.c (.int 6151)) (.o2 false .add (.v 1) (.c (.int 1))))) (.c (.int 40692))) (.c (.int 2147483399))),.ret (.o2 false .mod (.o2 false .mod (.o2 false .add (.o2 false .mul (.v 3) (.v 3)) (.o2 false .div (.v 3) (.c (.int 31)))) (.c (.int 2147483629))) (.v 2))]⟩
section
variable {F:Fs}{μ:Mu}{ns:List Int}
theorem qod{k:Int}(h0:0<=k):qg2.run F [.scr ns,.int k] μ= .ok (.int (qlr ns k)) μ:=by
 refine qlK rfl ?_;unfold qlr;by_cases c1:k<(ns.length:Int)
 ·have e:ixT ns k=some (ns.getD k.toNat 0):=by rw[qi0 h0,List.getElem?_eq_getElem (by omega),List.getD_eq_getElem?_getD,List.getElem?_eq_getElem (by omega)];rfl
  simp[qg2,c1,e]
 ·by_cases c2:ns=[]
  ·subst c2;have c1: ¬k<0:=by omega
   simp[qg2,c1]
  ·have hl:=List.length_pos_iff.mpr c2;have m0:0<=k % (ns.length:Int):=Int.emod_nonneg _ (by omega);have m1:k % (ns.length:Int)<(ns.length:Int):=Int.emod_lt_of_pos _ (by omega);have e:ixT ns (k % (ns.length:Int))=some (ns.getD (k % (ns.length:Int)).toNat 0):=by rw[qi0 m0,List.getElem?_eq_getElem (by omega),List.getD_eq_getElem?_getD,List.getElem?_eq_getElem (by omega)];rfl
   simp[qg2,c1,c2,e,hl]
theorem qmT{c:Nat}{k m:Int}(hc:F c [.scr ns,.int k] μ= .ok (.int (qlr ns k)) μ)(hm:0<m):(qma c).run F [.scr ns,.int k,.int m] μ= .ok (.int (qiq ns k m)) μ:=by
 refine qlK rfl ?_;have d0:0<=qcp ns k:=Int.emod_nonneg _ (by decide);have d1:qcp ns k<2147483399:=Int.emod_lt_of_pos _ (by decide);have d2: -4294967296<=qcp ns k/\qcp ns k<=4294967296:=⟨by omega,by omega⟩
 unfold qiq;unfold qcp at*;simp[qma,hc,hm,d2]
structure Drw(F:Fs)(p:Nat)(ns:List Int):Prop where
 p: ∀{μ:Mu} {k m:Int},0<=k->0<m->F p [.scr ns,.int k,.int m] μ= .ok (.int (qiq ns k m)) μ
end
theorem qrM{F:Fs}{s:CS}{ss:List CS}{ρ ai:Ro}{μ aa:Mu}{β:Type}{k:Out->Mu->R β}{r:R β}(h:qa3 F s ρ μ= .ok (.nx ai) aa)(h':(runSs F ss ai aa).bind k=r):(runSs F (s::ss) ρ μ).bind k=r:=by rw[qaB,h,qaq,qaK];exact h'
theorem qqg {F:Fs} {ρ:Ro} {μ:Mu} {α:Type} (l:List α) (f:α->T) (J:List α->Ro->Mu->Prop) {g:CG} {ci:CI} {b:List CS} {ts:List T} (ht:ts=l.map f) (hi: ∃it,runI F ci ρ μ= .ok it μ/\(it= .fx ts\/∃q,it= .lv q/\μ.l[q]? =some (.ls ts)/\∀d ai aa,J d ai aa->aa.l[q]? =some (.ls ts))) (h0:J [] ρ μ)
  (hs: ∀d a r,l=d++a::r->∀ρ μ,J d ρ μ->∃aB ak,(runG g (f a) ρ μ).bind (runSs F b)= .ok (.nx aB) ak/\J (d++[a]) aB ak): ∃ai aa,qa3 F (.for_ g ci b) ρ μ= .ok (.nx ai) aa/\J l ai aa:=by
 refine Classical.byContradiction λhc=> ?_;cases q:qa3 F (.for_ g ci b) ρ μ with
 |no|ex c m=>have:=qeh (β:=Unit) (k:=λ_ m=>R.ok () ⟨[],[]⟩) (r:=R.ok () ⟨[],[]⟩) l f J ht hi h0 hs (λai aa j=>rfl);rw[q] at this;cases this
 |ok o m=>
  have:=qeh (β:=Unit) (k:=λo m=>match o with|.nx ai=>(open Classical in if J l ai m then R.ok () ⟨[],[]⟩ else R.no)|_=>R.no) (r:=R.ok () ⟨[],[]⟩) l f J ht hi h0 hs (λai aa j=>by simp[j]);rw[q] at this;cases o with
  |nx ai=>
   simp only[qaq] at this;split at this
   ·rename_i j;exact hc ⟨ai,m,q,j⟩
   ·cases this
  |_=>cases this
structure Sto(μ m:Mu)(cs:List Ct):Prop where
 l:m.l=μ.l++cs
 k: ∃ks,m.k=ks++μ.k/\∀p∈ks,μ.l.length<=p.1
namespace Sto
variable {μ m:Mu}{cs:List Ct}
end Sto
section
variable {μ:Mu}
@[simp] theorem qrg{ts:List T}:qkC μ (.lst ts)=some ts:=rfl
end
end NV
namespace K89
open PySem NV
noncomputable def CD:Nat->Option Fcd
 |0=>some qev
 |1=>some qbZ
 |2=>some qaI
 |3=>some qcf
 |4=>some qc9
 |5=>some qc7
 |6=>some qc8
 |7=>some qas
 |8=>some qay
 |9=>some qat
 |10=>some qc6
 |11=>some qgm
 |12=>some qer
 |13=>some qgl
 |14=>some qes
 |15=>some qet
 |16=>some qgn
 |17=>some qc4
 |18=>some qaY
 |19=>some qce
 |20=>some qdb
 |21=>some qc5
 |22=>some qcg
 |23=>some qda
 |24=>some qau
 |25=>some qaZ
 |26=>some qaG
 |27=>some qeu
 |28=>some qch
 |29=>some qaN
 |30=>some qb1
 |31=>some qbB
 |32=>some qbA
 |33=>some qa1
 |34=>some qa2
 |35=>some qbh
 |36=>some qbz
 |37=>some qaT
 |38=>some qbC
 |39=>some qbi
 |40=>some qaE
 |41=>some qa0
 |42=>some qby
 |43=>some qbx
 |44=>some qbw
 |45=>some qbg
 |46=>some qbv
 |47=>some qb0
 |48=>some qcr
 |_=>none
noncomputable def RR:Nat->Fs
 |0,_=>λ_ _=>.no
 |k+1,i=>match CD i with
  |some c=>c.run (RR k)
  |none=>λ_ _=>.no
theorem rr(k:Nat):TTf gx k=RR k:=by
 induction k with
 |zero=>rfl
 |succ k ih=>
  funext i
  match i with
  |0=>rw[qj5,ih];rfl
  |1=>rw[qfG,ih];rfl
  |2=>rw[qb4,ih];rfl
  |3=>rw[qhc,ih];rfl
  |4=>rw[qh7,ih];rfl
  |5=>rw[qh5,ih];rfl
  |6=>rw[qh6,ih];rfl
  |7=>rw[qa4,ih];rfl
  |8=>rw[qbo,ih];rfl
  |9=>rw[qa5,ih];rfl
  |10=>rw[qh4,ih];rfl
  |11=>rw[qmn,ih];rfl
  |12=>rw[qj1,ih];rfl
  |13=>rw[qmm,ih];rfl
  |14=>rw[qj2,ih];rfl
  |15=>rw[qj3,ih];rfl
  |16=>rw[qmo,ih];rfl
  |17=>rw[qh2,ih];rfl
  |18=>rw[qdh,ih];rfl
  |19=>rw[qhb,ih];rfl
  |20=>rw[qh9,ih];rfl
  |21=>rw[qh3,ih];rfl
  |22=>rw[qhd,ih];rfl
  |23=>rw[qh8,ih];rfl
  |24=>rw[qa6,ih];rfl
  |25=>rw[qdi,ih];rfl
  |26=>rw[qbS,ih];rfl
  |27=>rw[qj4,ih];rfl
  |28=>rw[qhe,ih];rfl
  |29=>rw[qcs,ih];rfl
  |30=>rw[qfI,ih];rfl
  |31=>rw[qeH,ih];rfl
  |32=>rw[qeG,ih];rfl
  |33=>rw[qdk,ih];rfl
  |34=>rw[qdl,ih];rfl
  |35=>rw[qdR,ih];rfl
  |36=>rw[qeF,ih];rfl
  |37=>rw[qcE,ih];rfl
  |38=>rw[qeI,ih];rfl
  |39=>rw[qdS,ih];rfl
  |40=>rw[qbL,ih];rfl
  |41=>rw[qdj,ih];rfl
  |42=>rw[qeE,ih];rfl
  |43=>rw[qeD,ih];rfl
  |44=>rw[qeC,ih];rfl
  |45=>rw[qdQ,ih];rfl
  |46=>rw[qeB,ih];rfl
  |47=>rw[qfH,ih];rfl
  |48=>rw[qoF,ih];rfl
  |i+49=>rfl
noncomputable def S0:CS:=.asg (.tup [(.n 1),(.n 2)]) (.call 47 [])
noncomputable def S1:CS:=.set 3 (.lst false [(.c .non),(.c (.str "")),(.c (.str "A")),(.c (.str "abcdefg")),(.c (.int 5)),(.tup [(.c (.str "a"))]),(.c (.str "a b")),(.c (.str "a1"))])
noncomputable def S2:CS:=.set 6 (.make "Desk" 29 [])
noncomputable def S3:CS:=.exp (.mth [("Desk",31)] "hang" (.v 6) [(.c (.str "a")),(.tup [(.tup [(.c (.str "running"))])])])
noncomputable def S4:CS:=.exp (.mth [("Desk",30)] "add" (.v 6) [(.tup [(.c (.int 5)),(.c (.str "a")),(.c (.int 1))])])
noncomputable def S5:CS:=.exp (.mth [("Desk",32)] "lose" (.v 6) [(.c (.str "a"))])
noncomputable def S6:CS:=.exp (.mth [("Desk",38)] "back" (.v 6) [])
noncomputable def S7:CS:=.for_ (.n 7) (.by_ .rng1 [(.c (.int 4))]) [.asg (.tup [(.n 9),(.n 5)]) (.tup [(.o2 false .ix (.v 1) (.o2 false .mod (.o2 false .add (.call 44 [(.v 0),(.c (.int 0)),(.c (.int 10))]) (.o2 false .mul (.c (.int 3)) (.v 7))) (.c (.int 10)))),(.o2 false .ix (.v 2) (.o2 false .mod (.o2 false .add (.call 44 [(.v 0),(.c (.int 1)),(.c (.int 9))]) (.o2 false .mul (.c (.int 2)) (.v 7))) (.c (.int 9))))]),.set 8 (.o2 false .ix (.v 3) (.o2 false .mod (.o2 false .add (.call 44 [(.v 0),(.c (.int 2)),(.c (.int 8))]) (.o2 false .mul (.c (.int 3)) (.v 7))) (.c (.int 8)))),.set 4 (.lst true [(.told gx.wd [6,9] (.mth [("Desk",30)] "add" (.v 0) [(.v 1)])),(.c (.int 0)),(.c (.int 0))]),.put (.v 4) (.c (.int 1)) (.told gx.wd [5,6,8] (.mth [("Desk",31)] "hang" (.v 1) [(.v 2),(.v 0)])),.put (.v 4) (.c (.int 2)) (.told gx.wd [6,8] (.mth [("Desk",31)] "hang" (.v 0) [(.v 1),(.tup [])])),.exp (.bm false .append (.v 4) [(.told gx.wd [6,7,8] (.mth [("Desk",32)] "lose" (.v 0) [(.o2 false .ix (.lst false [(.v 2),(.c (.str "b"))]) (.o2 false .mod (.v 1) (.c (.int 2))))]))]),.exp (.bm false .append (.v 4) [(.told gx.wd [6,7,8] (.mth [("Desk",34)] "answer" (.v 0) [(.o2 false .ix (.lst false [(.v 2),(.c (.str "b"))]) (.o2 false .mod (.v 1) (.c (.int 2))))]))]),.exp (.bm false .append (.v 4) [(.told gx.wd [6,7,8] (.mth [("Desk",33)] "ask_of" (.v 0) [(.o2 false .ix (.lst false [(.v 2),(.c (.str "b"))]) (.o2 false .mod (.v 1) (.c (.int 2))))]))]),.exp (.bm false .append (.v 4) [(.told gx.wd [6] (.mth [("Desk",30)] "add" (.v 0) [(.tup [(.c (.int 4)),(.c (.str "a")),(.c (.int 1))])]))]),.ife (.o2 false .ne (.v 4) (.o2 false .add (.o2 false .add (.lst false [(.c (.str "no row")),(.c (.str "no ask"))]) (.o2 false .mul (.lst false [(.c (.str "no name"))]) (.c (.int 4)))) (.lst false [(.c (.str "too late"))]))) [.ret (.c (.bl false))] []]
noncomputable def S8:CS:=.ife (.or (.o2 false .ne (.mth [("Desk",36)] "rows" (.v 6) []) (.lst false [(.tup [(.c (.int 5)),(.c (.str "a")),(.c (.int 1))])])) (.or (.o2 false .ne (.mth [("Desk",35)] "names" (.v 6) []) (.lst false [(.c (.str "a"))])) (.or (.o2 false .ne (.mth [("Desk",41)] "counts" (.v 6) []) (.tup [(.c (.int 2)),(.c (.int 1))])) (.o2 false .ne (.mth [("Desk",39)] "forth" (.v 6) []) (.c (.str "lose")))))) [.ret (.c (.bl false))] []
noncomputable def S9:CS:=.for_ (.n 7) (.by_ .rng1 [(.c (.int 11))]) [.exp (.mth [("Desk",30)] "add" (.v 6) [(.tup [(.c (.int 6)),(.c (.str "b")),(.v 7)])])]
noncomputable def S10:CS:=.for_ (.n 8) (.gen (.c (.str "abcdef"))) [.exp (.mth [("Desk",31)] "hang" (.v 6) [(.v 8),(.tup [])])]
noncomputable def S11:CS:=.ife (.o2 false .ne (.told gx.wd [6] (.mth [("Desk",30)] "add" (.v 0) [(.tup [(.c (.int 6)),(.c (.str "a")),(.c (.int 1))])])) (.c (.str "full"))) [.ret (.c (.bl false))] []
noncomputable def S12:CS:=.ife (.o2 false .ne (.told gx.wd [6] (.mth [("Desk",30)] "add" (.v 0) [(.tup [(.c (.int 4)),(.c (.str "a")),(.c (.int 1))])])) (.c (.str "too late"))) [.ret (.c (.bl false))] []
noncomputable def S13:CS:=.set 4 (.lst true [(.told gx.wd [6] (.mth [("Desk",31)] "hang" (.v 0) [(.c (.str "g")),(.tup [])]))])
noncomputable def S14:CS:=.exp (.bm false .append (.v 4) [(.told gx.wd [6] (.mth [("Desk",31)] "hang" (.v 0) [(.c (.str "g")),(.c .non)]))])
noncomputable def S15:CS:=.exp (.bm false .append (.v 4) [(.told gx.wd [6] (.mth [("Desk",31)] "hang" (.v 0) [(.c (.str "G")),(.tup [])]))])
noncomputable def S16:CS:=.ife (.or (.o2 false .ne (.v 4) (.lst false [(.c (.str "full")),(.c (.str "no ask")),(.c (.str "no name"))])) (.o2 false .isn (.mth [("Desk",31)] "hang" (.v 6) [(.c (.str "f")),(.tup [(.tup [(.c (.str "running"))])])]) (.c (.bl true)))) [.ret (.c (.bl false))] []
noncomputable def S17:CS:=.ret (.and (.o2 false .eq (.mth [("Desk",34)] "answer" (.v 6) [(.c (.str "a"))]) (.mth [("Desk",36)] "rows" (.v 6) [])) (.and (.o2 false .eq (.bn false .len [(.mth [("Desk",36)] "rows" (.v 6) [])]) (.c (.int 12))) (.o2 false .eq (.mth [("Desk",33)] "ask_of" (.v 6) [(.c (.str "f"))]) (.tup [(.tup [(.c (.str "running"))])]))))
abbrev F7:Fs:=RR 7
noncomputable def M0:Mu:=⟨[],[]⟩
noncomputable def odd:List T:=[.non,.tup [],.tup [.int 0,.str "a"],.tup [.int 100,.str "a",.int 0],.tup [.int (-1),.str "a",.int 0],.tup [.int 0,.str "A",.int 0],.tup [.int 0,.str "abc",.int 0],.tup [.int 0,.str "a",.int 100],.lst [.int 0,.str "a",.int 0],.tup [.bl true,.str "a",.int 0]]
noncomputable def bad:List T:=[.non,.lst [],.tup [.tup [.str "key",.str "A"]],.tup [.tup [.str "over",.int 21]],.tup [.tup [.str "first",.int 0]],.tup [.tup [.str "sum"]],.tup [.tup [.str "running"],.tup [.str "running"],.tup [.str "running"],.tup [.str "running"],.tup [.str "running"],.tup [.str "running"]],.int 5,.str "running"]
noncomputable def nms:List T:=[.non,.str "",.str "A",.str "abcdefg",.int 5,.tup [.str "a"],.str "a b",.str "a1"]
noncomputable def l6:List Ct:=[.ins "Desk" [("log",.lst [.tup [.int 5,.str "a",.int 1]]),("asks",.dct [(.inr "a",.tup [.tup [.str "running"]])]),("past",.obj 1),("coming",.obj 2)],.ls [.tup [.str "hang",.lst [],.dct []],.tup [.str "add",.lst [],.dct [(.inr "a",.tup [.tup [.str "running"]])]]],.ls [.tup [.str "lose",.lst [.tup [.int 5,.str "a",.int 1]],.dct []]]]
noncomputable def k6:List (Nat×Nat):=[(0,3),(0,3),(0,3),(0,3),(0,3),(0,3),(0,3),(0,3),(0,3),(0,2)]
abbrev ro(ns:List Int)(x4 x5 x7 x8 x9:Option T):Ro:=[some (.scr ns),some (.lst odd),some (.lst bad),some (.lst nms),x4,x5,some (.obj 0),x7,x8,x9]
noncomputable def W7:List T:=[.str "no row",.str "no ask",.str "no name",.str "no name",.str "no name",.str "no name",.str "too late"]
noncomputable def mu(d:Nat)(L:List Ct):Mu:=⟨l6++(List.replicate d (.ls W7)++L),k6⟩
theorem quJ(ns:List Int):runSs F7 [S0,S1,S2,S3,S4,S5,S6] [some (.scr ns),none,none,none,none,none,none,none,none,none] M0= .ok (.nx (ro ns none none none none none)) (mu 0 []):=by kernel_rfl
section
variable {x0 x1 x2 x3 x4 x5 x7 x8 x9:Option T}{t:T}
abbrev rw9(x0 x1 x2 x3 x4 x5 x7 x8 x9:Option T):Ro:=[x0,x1,x2,x3,x4,x5,some (.obj 0),x7,x8,x9]
abbrev tAdd:CE:=.told gx.wd [6,9] (.mth [("Desk",30)] "add" (.v 0) [(.v 1)])
theorem qq3(d:Nat)(hd:d<4)(h:t∈odd):qad F7 tAdd (rw9 x0 x1 x2 x3 x4 x5 x7 x8 (some t)) (mu d [])= .ok (.str "no row") (mu d []):=by
 have:d=0\/d=1\/d=2\/d=3:=by omega
 simp only[odd,List.mem_cons,List.not_mem_nil,or_false] at h
 rcases this with rfl|rfl|rfl|rfl<;>rcases h with rfl|rfl|rfl|rfl|rfl|rfl|rfl|rfl|rfl|rfl<;>kernel_rfl
abbrev qmx:CE:=.told gx.wd [5,6,8] (.mth [("Desk",31)] "hang" (.v 1) [(.v 2),(.v 0)])
abbrev qid:CE:=.told gx.wd [6,8] (.mth [("Desk",31)] "hang" (.v 0) [(.v 1),(.tup [])])
abbrev tIx:CE:=.o2 false .ix (.lst false [(.v 2),(.c (.str "b"))]) (.o2 false .mod (.v 1) (.c (.int 2)))
abbrev qoJ:CE:=.told gx.wd [6,7,8] (.mth [("Desk",32)] "lose" (.v 0) [tIx])
abbrev qtH:CE:=.told gx.wd [6,7,8] (.mth [("Desk",34)] "answer" (.v 0) [tIx])
abbrev qtF:CE:=.told gx.wd [6,7,8] (.mth [("Desk",33)] "ask_of" (.v 0) [tIx])
abbrev qoK:CE:=.told gx.wd [6] (.mth [("Desk",30)] "add" (.v 0) [(.tup [(.c (.int 4)),(.c (.str "a")),(.c (.int 1))])])
abbrev L0:List Ct:=[.ls [.str "no row",.int 0,.int 0]]
abbrev L1:List Ct:=[.ls [.str "no row",.str "no ask",.int 0]]
abbrev L2:List Ct:=[.ls [.str "no row",.str "no ask",.str "no name"]]
abbrev L3:List Ct:=[.ls [.str "no row",.str "no ask",.str "no name",.str "no name"]]
abbrev L4:List Ct:=[.ls [.str "no row",.str "no ask",.str "no name",.str "no name",.str "no name"]]
abbrev L5:List Ct:=[.ls [.str "no row",.str "no ask",.str "no name",.str "no name",.str "no name",.str "no name"]]
theorem qnz(d:Nat)(hd:d<4){u:T}(h:t∈bad):qad F7 qmx (rw9 x0 x1 x2 x3 x4 (some t) x7 (some u) x9) (mu d L0)= .ok (.str "no ask") (mu d L0):=by
 have:d=0\/d=1\/d=2\/d=3:=by omega
 simp only[bad,List.mem_cons,List.not_mem_nil,or_false] at h
 rcases this with rfl|rfl|rfl|rfl<;>rcases h with rfl|rfl|rfl|rfl|rfl|rfl|rfl|rfl|rfl<;>kernel_rfl
theorem qkM(d:Nat)(hd:d<4)(h:t∈nms):qad F7 qid (rw9 x0 x1 x2 x3 x4 x5 x7 (some t) x9) (mu d L1)= .ok (.str "no name") (mu d L1):=by
 have:d=0\/d=1\/d=2\/d=3:=by omega
 simp only[nms,List.mem_cons,List.not_mem_nil,or_false] at h
 rcases this with rfl|rfl|rfl|rfl<;>rcases h with rfl|rfl|rfl|rfl|rfl|rfl|rfl|rfl<;>kernel_rfl
theorem qnm(d:Nat)(hd:d<4)(h:t∈nms):qad F7 qoJ (rw9 x0 x1 x2 x3 x4 x5 (some (.int d)) (some t) x9) (mu d L2)= .ok (.str "no name") (mu d L2)/\qad F7 qtH (rw9 x0 x1 x2 x3 x4 x5 (some (.int d)) (some t) x9) (mu d L3)= .ok (.str "no name") (mu d L3)/\qad F7 qtF (rw9 x0 x1 x2 x3 x4 x5 (some (.int d)) (some t) x9) (mu d L4)= .ok (.str "no name") (mu d L4):=by
 have:d=0\/d=1\/d=2\/d=3:=by omega
 simp only[nms,List.mem_cons,List.not_mem_nil,or_false] at h
 rcases this with rfl|rfl|rfl|rfl<;>rcases h with rfl|rfl|rfl|rfl|rfl|rfl|rfl|rfl<;>refine⟨?_,?_,?_⟩<;>kernel_rfl
theorem qnt(d:Nat)(hd:d<4):qad F7 qoK (rw9 x0 x1 x2 x3 x4 x5 x7 x8 x9) (mu d L5)= .ok (.str "too late") (mu d L5):=by
 have:d=0\/d=1\/d=2\/d=3:=by omega
 rcases this with rfl|rfl|rfl|rfl<;>kernel_rfl
end
abbrev qq2:List CS:=[.set 4 (.lst true [tAdd,(.c (.int 0)),(.c (.int 0))]),.put (.v 4) (.c (.int 1)) qmx,.put (.v 4) (.c (.int 2)) qid,.exp (.bm false .append (.v 4) [qoJ]),.exp (.bm false .append (.v 4) [qtH]),.exp (.bm false .append (.v 4) [qtF]),.exp (.bm false .append (.v 4) [qoK]),.ife (.o2 false .ne (.v 4) (.o2 false .add (.o2 false .add (.lst false [(.c (.str "no row")),(.c (.str "no ask"))]) (.o2 false .mul (.lst false [(.c (.str "no name"))]) (.c (.int 4)))) (.lst false [(.c (.str "too late"))]))) [.ret (.c (.bl false))] []]
theorem turn {ns:List Int} {x4:Option T} {r a n:T} (d:Nat) (hd:d<4) (hr:r∈odd) (ha:a∈bad) (hn:n∈nms):
  runSs F7 qq2 (ro ns x4 (some a) (some (.int d)) (some n) (some r)) (mu d [])= .ok (.nx (ro ns (some (.obj (3+d))) (some a) (some (.int d)) (some n) (some r))) (mu (d+1) []):=by
 have e1:=qq3 (x0:=some (.scr ns)) (x1:=some (.lst odd)) (x2:=some (.lst bad)) (x3:=some (.lst nms)) (x4:=x4) (x5:=some a) (x7:=some (.int d)) (x8:=some n) d hd hr;have e2:=qnz (x0:=some (.scr ns)) (x1:=some (.lst odd)) (x2:=some (.lst bad)) (x3:=some (.lst nms)) (x4:=some (.obj (3+d))) (x7:=some (.int d)) (x9:=some r) d hd (u:=n) ha;have e3:=qkM (x0:=some (.scr ns)) (x1:=some (.lst odd)) (x2:=some (.lst bad)) (x3:=some (.lst nms)) (x4:=some (.obj (3+d))) (x5:=some a) (x7:=some (.int d)) (x9:=some r) d hd hn;obtain⟨e4,e5,e6⟩:=qnm (x0:=some (.scr ns)) (x1:=some (.lst odd)) (x2:=some (.lst bad)) (x3:=some (.lst nms)) (x4:=some (.obj (3+d))) (x5:=some a) (x9:=some r) d hd hn;have e7:=qnt (x0:=some (.scr ns)) (x1:=some (.lst odd)) (x2:=some (.lst bad)) (x3:=some (.lst nms)) (x4:=some (.obj (3+d))) (x5:=some a) (x7:=some (.int d)) (x8:=some n) (x9:=some r) d hd;have s1:qa3 F7 (.set 4 (.lst true [tAdd,(.c (.int 0)),(.c (.int 0))])) (ro ns x4 (some a) (some (.int d)) (some n) (some r)) (mu d [])= .ok (.nx (ro ns (some (.obj (3+d))) (some a) (some (.int d)) (some n) (some r))) (mu d L0):=by
  rw[qlM,qmK,qcb,e1];have:d=0\/d=1\/d=2\/d=3:=by omega
  rcases this with rfl|rfl|rfl|rfl<;>kernel_rfl
 have s2:qa3 F7 (.put (.v 4) (.c (.int 1)) qmx) (ro ns (some (.obj (3+d))) (some a) (some (.int d)) (some n) (some r)) (mu d L0)= .ok (.nx (ro ns (some (.obj (3+d))) (some a) (some (.int d)) (some n) (some r))) (mu d L1):=by
  rw[qlN,e2];have:d=0\/d=1\/d=2\/d=3:=by omega
  rcases this with rfl|rfl|rfl|rfl<;>kernel_rfl
 have s3:qa3 F7 (.put (.v 4) (.c (.int 2)) qid) (ro ns (some (.obj (3+d))) (some a) (some (.int d)) (some n) (some r)) (mu d L1)= .ok (.nx (ro ns (some (.obj (3+d))) (some a) (some (.int d)) (some n) (some r))) (mu d L2):=by
  rw[qlN,e3];have:d=0\/d=1\/d=2\/d=3:=by omega
  rcases this with rfl|rfl|rfl|rfl<;>kernel_rfl
 have ap: ∀{e:CE} {L L':List Ct} {w:Str},qad F7 e (ro ns (some (.obj (3+d))) (some a) (some (.int d)) (some n) (some r)) (mu d L)= .ok (.str w) (mu d L)->(∀d,d=0\/d=1\/d=2\/d=3->nvR false (Bm.g .append (mu d L) [.obj (3+d),.str w]) (mu d L)= .ok .non (mu d L')/\qnp (mu d L) (.obj (3+d))= "list")->qa3 F7 (.exp (.bm false .append (.v 4) [e])) (ro ns (some (.obj (3+d))) (some a) (some (.int d)) (some n) (some r)) (mu d L)= .ok (.nx (ro ns (some (.obj (3+d))) (some a) (some (.int d)) (some n) (some r))) (mu d L'):=λ{e L L' w} he hL=>by obtain⟨h1,h2⟩:=hL d (by omega);have ev:qad F7 (.v 4) (ro ns (some (.obj (3+d))) (some a) (some (.int d)) (some n) (some r)) (mu d L)= .ok (.obj (3+d)) (mu d L):=rfl;rw[qo1,qsa,ev,qaq,if_pos (show qnp (mu d L) (.obj (3+d))=Bm.ty .append from h2),qcb,he];simp only[qaq,qim,h1]
 have s4:=ap (L':=L3) e4 (λd h=>by rcases h with rfl|rfl|rfl|rfl<;>refine⟨?_,?_⟩<;>kernel_rfl);have s5:=ap (L':=L4) e5 (λd h=>by rcases h with rfl|rfl|rfl|rfl<;>refine⟨?_,?_⟩<;>kernel_rfl);have s6:=ap (L':=L5) e6 (λd h=>by rcases h with rfl|rfl|rfl|rfl<;>refine⟨?_,?_⟩<;>kernel_rfl);have s7:=ap (L':=[.ls W7]) e7 (λd h=>by rcases h with rfl|rfl|rfl|rfl<;>refine⟨?_,?_⟩<;>kernel_rfl);have s8:qa3 F7 (.ife (.o2 false .ne (.v 4) (.o2 false .add (.o2 false .add (.lst false [(.c (.str "no row")),(.c (.str "no ask"))]) (.o2 false .mul (.lst false [(.c (.str "no name"))]) (.c (.int 4)))) (.lst false [(.c (.str "too late"))]))) [.ret (.c (.bl false))] []) (ro ns (some (.obj (3+d))) (some a) (some (.int d)) (some n) (some r)) (mu d [.ls W7])= .ok (.nx (ro ns (some (.obj (3+d))) (some a) (some (.int d)) (some n) (some r))) (mu (d+1) []):=by
  have:d=0\/d=1\/d=2\/d=3:=by omega
  rcases this with rfl|rfl|rfl|rfl<;>kernel_rfl
 rw[qaB,s1,qaq,qaK,qaB,s2,qaq,qaK,qaB,s3,qaq,qaK,qaB,s4,qaq,qaK,qaB,s5,qaq,qaK,qaB,s6,qaq,qaK,qaB,s7,qaq,qaK,qaB,s8];rfl
theorem qoZ{k:Nat}{ns:List Int}{μ:Mu}{i m:Int}(h0:0<=i)(hm:0<m):RR (k+2) 44 [.scr ns,.int i,.int m] μ= .ok (.int (qiq ns i m)) μ:=qmT (F:=RR (k+1)) (c:=43) (qod h0) hm
theorem qp3{l:List T}{i:Int}(h:0<=i/\i<l.length): ∃t∈l,ixT l i=some t:=by
 have:i.toNat<l.length:=by omega
 exact⟨l[i.toNat],List.getElem_mem _,by unfold ixT;rw[if_pos h.1,List.getElem?_eq_getElem this]⟩
theorem qtb {ns:List Int} {ρ:Ro} {μ:Mu} {l:List T} {s:Nat} {i m c:Int} {d:Nat} (h0:ρ[0]? =some (some (.scr ns))) (hs:ρ[s]? =some (some (.lst l))) (h7:ρ[7]? =some (some (.int d))) (hi:0<=i) (hm:0<m) (hl:(l.length:Int)=m) (hc:0<=c/\c<10):
  ∃t∈l,qad F7 (.o2 false .ix (.v s) (.o2 false .mod (.o2 false .add (.call 44 [(.v 0),(.c (.int i)),(.c (.int m))]) (.o2 false .mul (.c (.int c)) (.v 7))) (.c (.int m)))) ρ μ= .ok t μ:=by
 obtain⟨t,ht,e⟩:=qp3 (l:=l) (i:=(qiq ns i m+c*d) % m) ⟨Int.emod_nonneg _ (by omega),by rw[hl];exact Int.emod_lt_of_pos _ (by omega)⟩;refine⟨t,ht,?_⟩;have pk:F7 44 [.scr ns,.int i,.int m] μ=_:=qoZ (k:=5) hi hm;have b:(-4294967296<=c/\c<=4294967296)\/(-4294967296<=(d:Int)/\(d:Int)<=4294967296):=by omega
 have gm:O2.g .mul μ (.int c) (.int d)=some (.v (.int (c*d))):=by rw[qp9,if_pos b]
 simp[-qp9,gm,h0,hs,h7,pk,hm,e]
theorem st7(ns:List Int): ∃x4 x5 x7 x8 x9,qa3 F7 S7 (ro ns none none none none none) (mu 0 [])= .ok (.nx (ro ns x4 x5 x7 x8 x9)) (mu 4 []):=by
 obtain⟨ai,aa,e,x4,x5,x7,x8,x9,rfl,rfl⟩:=qqg (F:=F7) (ρ:=ro ns none none none none none) (μ:=mu 0 []) (g:=.n 7) (ci:=.by_ .rng1 [(.c (.int 4))]) (b:=.asg (.tup [(.n 9),(.n 5)]) (.tup [(.o2 false .ix (.v 1) (.o2 false .mod (.o2 false .add (.call 44 [(.v 0),(.c (.int 0)),(.c (.int 10))]) (.o2 false .mul (.c (.int 3)) (.v 7))) (.c (.int 10)))),(.o2 false .ix (.v 2) (.o2 false .mod (.o2 false .add (.call 44 [(.v 0),(.c (.int 1)),(.c (.int 9))]) (.o2 false .mul (.c (.int 2)) (.v 7))) (.c (.int 9))))])::.set 8 (.o2 false .ix (.v 3) (.o2 false .mod (.o2 false .add (.call 44 [(.v 0),(.c (.int 2)),(.c (.int 8))]) (.o2 false .mul (.c (.int 3)) (.v 7))) (.c (.int 8))))::qq2) (List.range 4) (λk:Nat=>.int (k:Int))
  (λd ai aa=> ∃x4 x5 x7 x8 x9,ai=ro ns x4 x5 x7 x8 x9/\aa=mu d.length []) rfl (qnE (n:=4) rfl (by decide)) ⟨none,none,none,none,none,rfl,rfl⟩ (by
   rintro d k r hq ai aa ⟨x4,x5,x7,x8,x9,rfl,rfl⟩;have hk:k=d.length/\d.length<4:=by have h1:=congrArg List.length hq;simp at h1;have h2:=congrArg (λl:List Nat=>l[d.length]?) hq;simp only[List.getElem?_append_right (Nat.le_refl d.length),Nat.sub_self,List.getElem?_cons_zero] at h2;rw[List.getElem?_range (by omega)] at h2;exact⟨(Option.some.inj h2).symm,by omega⟩
   obtain⟨rfl,hd⟩:=hk;obtain⟨z,hr,er⟩:=qtb (ns:=ns) (ρ:=ro ns x4 x5 (some (.int d.length)) x8 x9) (μ:=mu d.length []) (l:=odd) (s:=1) (i:=0) (m:=10) (c:=3) (d:=d.length) rfl rfl rfl (by decide) (by decide) rfl (by decide);obtain⟨a,ha,ea⟩:=qtb (ns:=ns) (ρ:=ro ns x4 x5 (some (.int d.length)) x8 x9) (μ:=mu d.length []) (l:=bad) (s:=2) (i:=1) (m:=9) (c:=2) (d:=d.length) rfl rfl rfl (by decide) (by decide) rfl (by decide);obtain⟨n,hn,en⟩:=qtb (ns:=ns) (ρ:=ro ns x4 (some a) (some (.int d.length)) x8 (some z)) (μ:=mu d.length []) (l:=nms) (s:=3) (i:=2) (m:=8) (c:=3) (d:=d.length) rfl rfl rfl (by decide) (by decide) rfl (by decide);refine⟨_,_,?_,some (.obj (3+d.length)),some a,some (.int d.length),some n,some z,rfl,rfl⟩;show R.bind (R.ok (ro ns x4 x5 (some (.int d.length)) x8 x9) _) _=_;rw[qaq,qaB,qo2,qo3,qcb,show qad F7 _ _ _=_ from er,qaq,qcb,show qad F7 _ _ _=_ from ea];show R.bind (R.ok (Out.nx (ro ns x4 (some a) (some (.int d.length)) x8 (some z))) (mu d.length [])) _=_;rw[qaq,qaK,qaB,qlM,show qad F7 _ _ _=_ from en];rw[qaq,qaq,qaK,show(d++[d.length]).length=d.length+1 by simp];exact turn d.length hd hr ha hn)
 exact⟨x4,x5,x7,x8,x9,e⟩
noncomputable def isT:R T->Bool
 |.ok (.bl true) _=>true
 |_=>false
theorem qp6{r:R T}(h:isT r=true): ∃m,r= .ok (.bl true) m:=by
 unfold isT at h;split at h
 ·exact⟨_,rfl⟩
 ·cases h
theorem qrL{ns:List Int}{x4 x5 x7 x8 x9:Option T}:isT ((runSs F7 [S8,S9,S10,S11,S12,S13,S14,S15,S16,S17] (ro ns x4 x5 x7 x8 x9) (mu 4 [])).bind outT)=true:=by kernel_rfl
theorem qoP{F:Fs}{ss r:List CS}{ρ ai:Ro}{μ aa:Mu}{β:Type}{k:Out->Mu->R β}(h:runSs F ss ρ μ= .ok (.nx ai) aa):(runSs F (ss++r) ρ μ).bind k=(runSs F r ai aa).bind k:=by
 induction ss generalizing ρ μ with
 |nil=>cases h;rfl
 |cons s ss ih=>
  rw[List.cons_append,qaB];rw[qaB] at h;cases e:qa3 F s ρ μ with
  |no|ex c m=>rw[e] at h;cases h
  |ok o m=>
   rw[e] at h;cases o with
   |nx aq=>exact ih h
   |_=>cases h
theorem law_true(ns:List Int): ∃m,TTf gx 8 48 [.scr ns] ⟨[],[]⟩= .ok (.bl true) m:=by
 obtain⟨x4,x5,x7,x8,x9,e7⟩:=st7 ns;obtain⟨m,e8⟩:=qp6 (qrL (ns:=ns) (x4:=x4) (x5:=x5) (x7:=x7) (x8:=x8) (x9:=x9));have fin:(runSs F7 qcr.b [some (.scr ns),none,none,none,none,none,none,none,none,none] M0).bind outT= .ok (.bl true) m:=by have hb:qcr.b=[S0,S1,S2,S3,S4,S5,S6]++S7::[S8,S9,S10,S11,S12,S13,S14,S15,S16,S17]:=rfl;rw[hb,qoP (quJ ns)];exact qrM e7 e8
 rw[rr];have hz:fzT 0 m.l 3 (.bl true)=some (.bl true):=qqe (Nat.zero_le _);have hR:RR 8 48=qcr.run (RR 7):=rfl;rw[hR];unfold Fcd.run fnR;rw[if_pos (show [T.scr ns].length=qcr.n from rfl)]
 change ∃m',lv false M0 ((runSs F7 qcr.b [some (.scr ns),none,none,none,none,none,none,none,none,none] M0).bind outT)= .ok (.bl true) m'
 rw[fin];unfold lv leave;rw[if_neg (by decide)];dsimp only;split
 ·exact⟨_,rfl⟩
 ·split
  ·rw[show fzT M0.l.length m.l 3 (.bl true)=_ from hz];exact⟨_,rfl⟩
  ·exact⟨_,rfl⟩
end K89
namespace NV
open PySem L2
theorem qbt{N:List Str}{x:Str}{i:Nat}(h:qhV N x=some i):N[i]? =some x:=by obtain⟨hi,h1,_⟩:=List.findIdx?_eq_some_iff_getElem.mp h;rw[List.getElem?_eq_getElem hi,of_decide_eq_true h1]
structure Gf(M:Md)(g:Gx)(F:Fs)(k:Nat)(P:Program)(w:World)(mg:Str->Option Value)(base:Heap):Prop where
 fn: ∀x i,g.fi x=some i->x.cps.contains 46=false->∃f fd ps,mg x=some (.ref f)/\W.keepIn M.K (.ref f)=true/\qaO M.K fd ps []/\qcD P w M.K mg base (CXE P w) (8*k) f fd ps (spF M (F i))
 nb: ∀x,qcC.contains x=true->mg x=none
 cs: ∀x t,g.cs.lookup x=some t->∃v u,mg x=some u/\RelV v u/\∀B,Rep M.K B t v
 ex: ∀c bs,(c,bs)∈g.ex->mg c=some (.ref (clA M.K c))/\∃bm,qdf base (clA M.K c) bm/\∀x∈bs,(g.ex.map (·.1)).contains x=true->(Value.ref (clA M.K c)::bm).contains (.ref (clA M.K x))=true
 mt: ∀m c i,(c,i)∈g.ms m->∃f fd ps,Cls M.K (clA M.K c)/\qq4 M.K (clA M.K c) m f/\qcD P w M.K mg base (CXE P w) (8*k) f fd ps (spF M (F i))/\qaO M.K fd ps []
 mkc: ∀c i,(g.cl.map (·.1)).contains c=true->g.fi (qaP c "__init__")=some i->∃f fd ps,mg c=some (.ref (clA M.K c))/\Mk M.K (clA M.K c) f/\qcD P w M.K mg base (CXE P w) (8*k) f fd ps (spF M (F i))/\qaO M.K fd ps []
 fl: ∀f c,(g.fls f).contains c=true->Cls M.K (clA M.K c)/\qbb M.K (clA M.K c) f
 dt: ∀D tbl,g.dt.lookup D=some tbl->PL.TopT M.K mg w D tbl
 td:g.wd.isEmpty=false->∃st fT fC CA fdT fdC bmA wa,Td M P w mg base (λc=>g.wd.lookup c) st fT fC CA fdT fdC bmA wa
structure Tp(M:Md)(g:Gx)(X:Cx)(E:XK):Prop where
 st:X.stack=X.env::X.outer
 fr:X.env.frame=some X.env.locals
 ex:X.ex=[]
 xe: ∀a s',wpAny (model X.prog X.w) X.A (leaving X.env (.ref a)) (λ_ s''=>CXE X.prog X.w X.outer X.H₀ X.s₀ E (.ref a) s'') (λ_ _=>False) s'->X.xe (.ref a) s'
 ow:PassesOwn (model X.prog X.w) X.A X.env X.xe
 rs: ∀(x msg:Str) (j:Nat) (np p1 cpos pos:Pos),(g.ex.map (·.1)).contains x=true->Gl X x->(x==("__debug__" :Str))=false->PS X (.Raise (some (.Call (.Name x np) [.Constant (.str msg) j p1] [] cpos)) none pos) (qic (clA M.K x) E)
structure Cok(M:Md)(g:Gx)(F:Fs)(k:Nat)(C:Cc)(X:Cx)(E:XK):Prop where
 gf:Gf M g F k X.prog X.w X.mg X.base
 K:X.K=M.K
 N:X.N=C.N
 nd:C.N.Nodup
 sc:X.env.scope=C.sc
 fn: ∀x,qow C x=true->X.fn x=true\/C.sc.names.lookup x=some .local
 un:X.A.units+8<cLine
 cm:C.calm=true->X.calm=true/\qaX (8*k+1) X.A/\qaD (CXE X.prog X.w) X E
 tp:C.top=true->Tp M g X E
 lm:C.lam=true->qaX (8*k+4) X.A/\∃c P q,Lm M X c P q
 cf:C.cf=true->∀x,X.fn x=true
section
variable {M:Md}{g:Gx}{F:Fs}{k n:Nat}{C:Cc}{X:Cx}{E:XK}{x:Str}{pos p:Pos}
theorem Cok.gl(c:Cok M g F k C X E)(h:qhE C x=true):Gl X x/\(x==("__debug__" :Str))=false:=by unfold qhE at h;rw[Bool.and_eq_true] at h;refine⟨?_,by simpa using h.2⟩;show X.env.scope.names.lookup x=_;rw[c.sc];exact of_decide_eq_true h.1
theorem Cok.blt(c:Cok M g F k C X E)(h:qcW C x=true):Gl X x/\X.mg x=none/\(x==("__debug__" :Str))=false:=by unfold qcW at h;rw[Bool.and_eq_true] at h;exact⟨(c.gl h.1).1,c.gf.nb x h.2,(c.gl h.1).2⟩
theorem qlG{sc:Scope}(h:qkI sc x=true):Vis sc x:=by
 unfold qkI at h;split at h
 ·rename_i e;exact .inl e
 ·rename_i e;exact .inr (.inl e)
 ·rename_i e;exact .inr (.inr e)
 ·cases h
theorem qpS{sc:Scope}(h:qny sc x=true):Loc sc x:=by
 unfold qny at h;split at h
 ·rename_i e;exact .inl e
 ·rename_i e;exact .inr e
 ·cases h
theorem qoO(h:qow C x=true):Loc C.sc x:=by
 unfold qow at h;split at h
 ·rename_i e;exact .inl e
 ·rename_i e;exact .inr e
 ·cases h
theorem qnl(c:Cok M g F k C X E):PE X (.Name x pos) (tE M E (qad F (qof g C x))):=by
 unfold qof;split
 ·exact qah
 ·rename_i hd;have h1:(x==("__debug__" :Str))=false/\(x==("__classdict__" :Str))=false:=by simpa using hd
  split
  ·rename_i hv;split
   ·rename_i i hi;exact qqE (qeX (by rw[c.N];exact qbt hi) (by rw[c.sc];exact qlG hv) h1.1 h1.2)
   ·exact qah
  ·split
   ·rename_i hg;split
    ·rename_i t ht;obtain⟨v,u,m,r,rt⟩:=c.gf.cs x t ht;exact qqJ (qbW (c.gl hg).1 m r h1.1) rt
    ·exact qah
   ·exact qah
theorem qaU{f:Expr->CE}: ∀{es:List Expr},(∀e∈es,PE X e (tE M E (qad F (f e))))->es.all qak=true->PA X es (tA M E (runA F (es.map f)))
 |[],_,_=>qqN
 |e::es,h,hp=>by rw[List.all_cons,Bool.and_eq_true] at hp;exact qn5 (h e Vk) (qaU (λe he=>h e (Vl _ he)) hp.2) (qbM hp.1)
theorem qib(c:Cok M g F k C X E): ∀(n:Nat) (e:Expr),PG X e (tG M E (runG (cG C n e)))
 |0,e=>qjt
 |n+1,e=>by
  have many: ∀es:List Expr,es.all qak=true->PGs X es (tGs M E (runGs (es.map (cG C n)))):=λes=>by
   induction es with
   |nil=>exactλ_=>qnU
   |cons e es ih=>intro h;rw[List.all_cons,Bool.and_eq_true] at h;exact qk4 (qib c n e) (ih h.2) (qom h.1)
  cases e with
  |Name y p=>
   show PG X _ (tG M E (runG (if qow C y then(match qhV C.N y with|some i=>.n i|none=>.no) else .no)));split
   ·rename_i hl;split
    ·rename_i i hi;exact qtc (qmV (by rw[c.N];exact c.nd) (by rw[c.N];exact qbt hi) (by rw[c.sc];exact qoO hl) (by rw[c.sc];exact c.fn y hl))
    ·exact qjt
   ·exact qjt
  |Tuple ts kk p=>
   show PG X _ (tG M E (runG (if C.calm&&ts.all qak then .tup (ts.map (cG C n)) else .no)));split
   ·rename_i h;rw[Bool.and_eq_true] at h;have q:=qqB (k:=kk) (pos:=p) (c.cm h.1).1 (many ts h.2) c.K (n:=ts.length) qdN (qfy h.2);have e:(ts.map (cG C n)).length=ts.length:=List.length_map _;show PG X _ (tG M E (gT (ts.map (cG C n)).length _));rw[e];exact q
   ·exact qjt
  |_=>exact qjt
end
theorem qcz{M:Md}{g:Mu->T->T->Option Nv}:OkO M (rB M g) g:=λμ H B x y a b n Q h ra rb e k=>⟨μ,B,a,b,n,h,ra,rb,e,k⟩
section
variable {M:Md}{E:XK}{X:Cx}{a b c:Expr}{da db dc:DS0 T}{pos:Pos}{ow:Bool}
theorem bin_ok(hK:X.K=M.K){op:Operator}{o:O2}(h:qsu op=some o):OpR X (binaryOp op) (rB M o.g):=by
 cases op<;>first|(cases h;done)|skip
 ·cases h;exact OpR.ok qne (qpN hK)
 ·cases h;exact OpR.ok qpu qpF
 ·cases h;exact OpR.ok qna (qpH hK)
 ·cases h;exact OpR.ok qpy qpI
 ·cases h;exact OpR.ok qnc qpM
theorem qdJ(hu:X.A.units+8<cLine)(hK:X.K=M.K)(op:CmpOp):OpR X (compareOp op) (rB M (qmb op).g):=by
 cases op with
 |Eq=>exact OpR.ok (qpD hu) (qpL hK)
 |NotEq=>exact OpR.ok (qpw hu) (qpL hK)
 |Lt=>exact OpR.ok qpz qsp
 |LtE=>exact OpR.ok qpA qsq
 |Gt=>exact OpR.ok qsn qsr
 |GtE=>exact OpR.ok qso qss
 |Is=>exact OpR.ok qnb (qpJ (neg:=false))
 |IsNot=>exact OpR.ok qhm (qpJ (neg:=true))
 |In=>exact OpR.ok (qpC hu) (qpK hK)
 |NotIn=>exact OpR.ok (qiA hu) (qpK hK)
theorem qpG:OkU M (rU λi=>.int (-i)) qqc:=by
 refine⟨λt μ c m e=>(by cases t<;>cases e),λμ H B x t u aa Q h r e k=> ?_⟩;cases t with
 |int i=>cases e;exact⟨i,qae r,k _ H B h .refl qaR⟩
 |_=>cases e
theorem qqH(h:PE X a (tE M E da)):PE X (.UnaryOp .USub a pos) (tE M E (dU qqc da)):=PE.weak (qsc qoD h) λσ H Q q=>qml qpG q
theorem qdM{o p:O2}{σ:St}{H:Hp}{Q:VK}(h:tE M E (ql8 o p da db dc) σ H Q):qie (rB M o.g) (rB M p.g) (tE M E da) (tE M E db) (tE M E dc) σ H Q:=by
 obtain⟨ρ,μ,B,ev,w⟩:=h;refine tE.of ev ((Wn.bind w).mono λx ag w1 v H1 B1 h1 l1 r1=> ?_);refine tE.of (ev.on h1 l1.le) ((Wn.bind w1).lift l1 λy ak w2 u H2 B2 h2 l2 r2=> ?_);have eG:=l1.trans l2;have w2:=Wn.bind w2;obtain⟨z,m,q,w2⟩:=Wn.pl w2 (λc m=>qhp c m);have w2:=Wn.bind w2;obtain⟨kk,m',q',w3⟩:=Wn.pl w2 (λc m e=>by cases z<;>cases e);cases z with
 |bl z=>
  cases q';have kv:KE M H2 B2 (λz H3=> ∃k,z= .bl k/\if k=true then tE M E dc σ H3 λw' H4=>rB M p.g u w' H4 Q else Q (.bl false) H3) (.bl kk) m:=λzv H3 B3 h3 l3 r3=>by
   refine⟨kk,qbO r3,?_⟩;have w3:Wn M E H B (KE M H B Q) (if kk=true then _ else _):=w3;split at w3
   ·rename_i hk;rw[if_pos hk];have eF:=eG.trans l3;refine tE.of (ev.on h3 eF.le) ((Wn.bind w3).lift eF λw' bR w4 v4 H4 B4 h4 l4 r4=> ?_);obtain⟨c4,m4,q4,w5⟩:=Wn.pl w4 (λc m=>qhp c m);obtain⟨n,e,kv⟩:=qho q4 (KE.le w5 (eF.trans l4));exact⟨bR,B4,y,w',n,h4,(r2.mono l3.le).mono l4.le,r4,e,kv⟩
   ·rename_i hk;rw[if_neg hk];exact w3 _ H3 B3 h3 (eG.trans l3) qa8
  obtain⟨n,e,kv⟩:=qho q kv;exact⟨ak,B2,x,y,n,h2,r1.mono l2.le,r2,e,kv⟩
 |_=>cases q'
theorem qo8{tc ta tb:TT}(hc:PT X c tc)(ha:PT X a ta)(hb:PT X b tb):PT X (.IfExp c a b pos) (λσ H Q=>tc σ H λk H1=>if k=true then ta σ H1 Q else tb σ H1 Q):=by
 intro pins s σ H Q I h;show wpAny _ _ (isTrue c X.env (eval c X.env)>>=λk=>if k=true then isTrue a X.env (eval a X.env) else isTrue b X.env (eval b X.env)) _ _ _;refine Va (thn (hc pins s σ H _ I h) λk s1 ⟨H1,I1,q⟩=> ?_);cases k with
 |true=>exact ha pins s1 σ H1 Q I1 q
 |false=>exact hb pins s1 σ H1 Q I1 q
theorem qoG:dTB (qld da)=qui (dTB da):=by
 funext ρ μ
 show R.bind (R.bind (R.bind (da ρ μ) tbO) λc μ=>.ok (.bl (!c)) μ) tbO=R.bind (R.bind (da ρ μ) tbO) λc μ=>.ok (!c) μ;cases da ρ μ with
 |no|ex c m=>rfl
 |ok t m=>cases t<;>rfl
theorem qoH:dTB (qlg da db)=qun (dTB da) (dTB db):=by
 funext ρ μ
 show R.bind (R.bind (R.bind (da ρ μ) tbO) λc μ=>(if c=true then db else dC (.bl false)) ρ μ) tbO=R.bind (R.bind (da ρ μ) tbO) λc μ=>(if c=true then dTB db else dBl false) ρ μ;cases da ρ μ with
 |no|ex c m=>rfl
 |ok t m=>cases t<;>first|rfl|(rename_i z;cases z<;>rfl)
theorem qry:dTB (qro da db)=dOr (dTB da) (dTB db):=by
 funext ρ μ
 show R.bind (R.bind (R.bind (da ρ μ) tbO) λc μ=>(if c=true then dC (.bl true) else db) ρ μ) tbO=R.bind (R.bind (da ρ μ) tbO) λc μ=>(if c=true then dBl true else dTB db) ρ μ;cases da ρ μ with
 |no|ex c m=>rfl
 |ok t m=>cases t<;>first|rfl|(rename_i z;cases z<;>rfl)
theorem qrz{dt:DS0 Bool}:dTB (qhK dt da db)=qhK dt (dTB da) (dTB db):=by
 funext ρ μ
 show R.bind (R.bind (dt ρ μ) λc μ=>(if c=true then da else db) ρ μ) tbO=R.bind (dt ρ μ) λc μ=>(if c=true then dTB da else dTB db) ρ μ;cases dt ρ μ with
 |no|ex c m=>rfl
 |ok t m=>cases t<;>rfl
theorem qiN {env:Env} {o:Expr} {es:List Expr} {m:Str} {apos pos:Pos} (hb:qcP o=true) (hp:es.all qak=true) (hl:es.length<30) (he:(apos.endLine==pos.line)=true):
  eval (.Call (.Attribute o m apos) es [] pos) env=(do
   let ov <-eval o env
   standAt apos.atName
   let (f,fi) <-holding [ov] (getMethod ov m (do return (<-importBound o env).getD true))
   callWith pos f fi (backTo pos (starEach es env)) (backToKw pos (keywordEach [] env))):=by
 have hf:methodCallForm (es.length+([]:List Keyword).length) (backTo pos (starEach es env)) (backToKw pos (keywordEach [] env))=true:=by have:=ql1 (pos:=pos) (env:=env) hp hl;unfold methodCallForm;exact this
 show(attributeBase o m env (eval o env)>>=λov=>standAt apos.atName>>=λ_=>methodCall o m apos pos env ov (es.length+([]:List Keyword).length) (backTo pos (starEach es env)) (backToKw pos (keywordEach [] env)))=_;rw[qex hb];unfold methodCall calleeOf methodCallPos;rw[hf];simp only[he,Bool.not_true,Bool.false_or,if_true];rfl
end
theorem qm4{X:Cx}:qaD (CXE X.prog X.w) X E0:=λpins σ H s e s' I ⟨_,_,_,_,_,_,_,q⟩=>q.elim
structure Eo(M:Md)(g:Gx)(F:Fs)(k n:Nat):Prop where
 e: ∀C X E,Cok M g F k C X E->∀e,PE X e (tE M E (qad F (cE g n C e)))
 t: ∀C X E,Cok M g F k C X E->∀e,PT X e (tT M E (dTB (qad F (cE g n C e))))
 c: ∀C X E,Cok M g F k C X E->C.calm=true->∀f es p pp,es.all qak=true->qhE C f=true->PE X (.Call (.Name f pp) es [] p) (tE M E (qad F (cCall g n C f es p)))
 i: ∀C X E,Cok M g F k C X E->∀tg it,PI X tg it (tI M E (runI F (cI g n C tg it)))
section
variable {M:Md}{g:Gx}{F:Fs}{k n:Nat}{C:Cc}{X:Cx}{E:XK}
theorem qln{C:Cc}{sc:Scope}:(qaf C sc).1.N=(sc.names.filter λy=>decide (y.2= .local)&&y.1 != (".0" :Str)).map (·.1)++(qaf C sc).2.map (·.1):=rfl
theorem qcq {sc:Scope} (h:qgZ C sc=true):sc.kind= .function/\(∀y∈sc.names,y.2≠.cell)/\(∀y∈sc.names,y.2= .local->sc.names.lookup y.1=some .local)/\
  (∀y∈sc.names,y.2= .free->(C.sc.names.lookup y.1=some .cell\/C.sc.names.lookup y.1=some .free)/\sc.names.lookup y.1=some .free)/\(qaf C sc).1.N.Nodup:=by unfold qgZ at h;simp only[Bool.and_eq_true,List.all_eq_true,Bool.or_eq_true,decide_eq_true_eq] at h;obtain⟨⟨⟨⟨h1,h2⟩,h3⟩,h4⟩,h5⟩:=h;exact⟨h1,h2,λy hy e=>(h3 y hy).elim (λz=>absurd e z) id,λy hy e=>(h4 y hy).elim (λz=>absurd e z) id,h5⟩
theorem qlo {E':XK} {Y:Cx} {sc:Scope} (c:Cok M g F k C X E) (hc:C.calm=true) (h:qgZ C sc=true) (hY: ∃fp s3 H3 xe,Y=(qao X sc ((sc.names.filter λy=>decide (y.2= .local)&&y.1 != (".0" :Str)).map (·.1)) (qaf C sc).2 fp s3 H3).wish xe) (hp:qaD (CXE X.prog X.w) Y E'):Cok M g F k (qaf C sc).1 Y E':=by
 obtain⟨fp,s3,H3,xe,rfl⟩:=hY;obtain⟨h1,h2,h3,h4,h5⟩:=qcq h;refine⟨c.gf,c.K,rfl,h5,?_,λx hx=> ?_,c.un,λ_=>⟨(c.cm hc).1,(c.cm hc).2.1,hp⟩,(λz=>by cases z),λz=> ?_,λz=>by cases z⟩
 ·show relabel sc X.env=qq8 C sc;unfold relabel qq8 Env.kindOf;rw[c.sc]
 ·have hx:(match(qq8 C sc).names.lookup x with|some .local=>true|some .cell=>false|_=>false)=true:=hx;split at hx
  ·rename_i e;exact .inr e
  ·cases hx
  ·cases hx
 ·obtain⟨r,cc,P,q,l⟩:=c.lm z;exact⟨r,cc,P,q,l.cd,l.hd,l.bm,l.q,l.t,l.t'⟩
theorem qn8 (IH:Eo M g F k n) (c:Cok M g F k C X E) {x:Bool} (hx:x=false) {elt tg iter:Expr} {ifs:List Expr} {sc:Scope} {p:Pos}:
  PE X (.ListComp elt [⟨tg,iter,ifs,0⟩] sc p) (tE M E (qad F (cComp g (n+1) C x elt tg iter ifs sc p)))/\
  ∀(i:Nat) (y:Str) (py spos:Pos),x=false->X.N[i]? =some y->C.sc.names.lookup y=some .local->swapsWith (.ListComp elt [⟨tg,iter,ifs,0⟩] sc p) (some (.Name y py)) spos.line X.env=pure true->
   PS X (.Assign [.Name y py] (.ListComp elt [⟨tg,iter,ifs,0⟩] sc p) spos) (tS M E (qlc i (qad F (cComp g (n+1) C x elt tg iter ifs sc p)))):=by
 have no:PE X (.ListComp elt [⟨tg,iter,ifs,0⟩] sc p) (tE M E (qad F .no))/\∀(i:Nat) (y:Str) (py spos:Pos),x=false->X.N[i]? =some y->C.sc.names.lookup y=some .local->swapsWith (.ListComp elt [⟨tg,iter,ifs,0⟩] sc p) (some (.Name y py)) spos.line X.env=pure true->
   PS X (.Assign [.Name y py] (.ListComp elt [⟨tg,iter,ifs,0⟩] sc p) spos) (tS M E (qlc i (qad F .no))):=⟨qah,λ_ _ _ _ _ _ _ _ _ _ _ _ _ _ ⟨_,_,_,_,w⟩=>w.elim⟩
 unfold cComp;split
 case isFalse=>exact no
 rename_i cY;rw[Bool.and_eq_true] at cY;obtain⟨h1,h2,h3,h4,h5⟩:=qcq cY.2;obtain⟨cm,hr,ps⟩:=c.cm cY.1;have aO: ∀q∈(qaf C sc).2,X.N[q.2]? =some q.1/\sc.names.lookup q.1=some .free:=λq hq=>by
  obtain⟨y,hy,e⟩:=List.mem_filterMap.mp hq;split at e
  ·rename_i hf;obtain⟨i,hi,rfl⟩:=qal e;exact⟨by rw[c.N];exact qbt hi,(h4 y hy hf).2⟩
  ·cases e
 have ah: ∀y∈sc.names,y.2= .free->X.env.kindOf y.1=some .cell\/X.env.kindOf y.1=some .free:=λy hy e=>by show X.env.scope.names.lookup _=_\/X.env.scope.names.lookup _=_;rw[c.sc];exact(h4 y hy e).1
 have hn:(qaf C sc).1.N.length - (qaf C sc).2.length=((sc.names.filter λy=>decide (y.2= .local)&&y.1 != (".0" :Str)).map (·.1)).length:=by rw[qln,List.length_append,List.length_map (f:=λx=>x.1) (as:=(qaf C sc).2)];omega
 have go: ∀(tt:Option CE),(∀Y E',Cok M g F k (qaf C sc).1 Y E'->qhW Y ifs (tT M E' (runT F tt)))->
   PE X (.ListComp elt [⟨tg,iter,ifs,0⟩] sc p) (tE M E (qad F (.comp (g.own p) x ((qaf C sc).1.N.length - (qaf C sc).2.length) ((qaf C sc).2.map (·.2)) (cG (qaf C sc).1 n tg) (cI g n C tg iter) tt (cE g n (qaf C sc).1 elt))))/\
   ∀(i:Nat) (y:Str) (py spos:Pos),x=false->X.N[i]? =some y->C.sc.names.lookup y=some .local->swapsWith (.ListComp elt [⟨tg,iter,ifs,0⟩] sc p) (some (.Name y py)) spos.line X.env=pure true->
    PS X (.Assign [.Name y py] (.ListComp elt [⟨tg,iter,ifs,0⟩] sc p) spos) (tS M E (qlc i (qad F (.comp (g.own p) x ((qaf C sc).1.N.length - (qaf C sc).2.length) ((qaf C sc).2.map (·.2)) (cG (qaf C sc).1 n tg) (cI g n C tg iter) tt (cE g n (qaf C sc).1 elt))))):=λtt ht=>by
  have bH:qbN iter=true\/cI g n C tg iter= .no:=by
   cases n with
   |zero=>exact .inr rfl
   |succ n=>
    cases z:qbN iter with
    |true=>exact .inl rfl
    |false=>exact .inr (by unfold cI;rw[z];exact if_neg (by decide))
  rw[hn]
  rcases bH with bH|bH
  ·have hi:=IH.i C X E c tg iter;have i3: ∀(fp:List Addr) (s3:Shared) (H3:Hp),PG (qao X sc ((sc.names.filter λy=>decide (y.2= .local)&&y.1 != (".0" :Str)).map (·.1)) (qaf C sc).2 fp s3 H3) tg (tG M E0 (runG (cG (qaf C sc).1 n tg)))/\qhW (qao X sc ((sc.names.filter λy=>decide (y.2= .local)&&y.1 != (".0" :Str)).map (·.1)) (qaf C sc).2 fp s3 H3) ifs (tT M E0 (runT F tt))/\PE (qao X sc ((sc.names.filter λy=>decide (y.2= .local)&&y.1 != (".0" :Str)).map (·.1)) (qaf C sc).2 fp s3 H3) elt (tE M E0 (qad F (cE g n (qaf C sc).1 elt))):=λfp s3 H3=>by have cc:=qlo (E':=E0) (Y:=qao X sc ((sc.names.filter λy=>decide (y.2= .local)&&y.1 != (".0" :Str)).map (·.1)) (qaf C sc).2 fp s3 H3) c cY.1 cY.2 ⟨fp,s3,H3,λ_ _=>False,rfl⟩ qm4;exact⟨qib cc n tg,ht _ _ cc,IH.e _ _ _ cc elt⟩
   refine⟨?_,λi y py spos hx0 hy hl bG=> ?_⟩
   ·show PE X _ (tE M E (qhJ (g.own p) _));have dn:PE X (.ListComp elt [⟨tg,iter,ifs,0⟩] sc p) (tN M E (qem x ((sc.names.filter λy=>decide (y.2= .local)&&y.1 != (".0" :Str)).map (·.1)).length ((qaf C sc).2.map (·.2)) (runI F (cI g n C tg iter)) (runG (cG (qaf C sc).1 n tg)) (runT F tt) (qad F (cE g n (qaf C sc).1 elt)))):=by
     cases x with
     |false=>exact qnS cm hi h1 h2 h3 ah aO i3 (qd8 bH)
     |true=>cases hx
    unfold qhJ;split
    ·exact qnZ dn
    ·exact qn3 dn
   ·subst hx0;have:=qhI (ow:=g.own p) (py:=py) (spos:=spos) cm hi h1 h2 h3 ah aO i3 (by rw[c.N];exact c.nd) hy (by rw[c.sc];exact hl) bG (qd8 bH);exact this
  ·rw[bH];have e: ∀ow,(qhJ ow (qem x ((sc.names.filter λy=>decide (y.2= .local)&&y.1 != (".0" :Str)).map (·.1)).length ((qaf C sc).2.map (·.2)) dNo (runG (cG (qaf C sc).1 n tg)) (runT F tt) (qad F (cE g n (qaf C sc).1 elt))))=dNo:=λow=>by
    unfold qhJ
    split<;>rfl
   show PE X _ (tE M E (qhJ _ (qem x _ _ dNo _ _ _)))/\∀(i:Nat) (y:Str) (py spos:Pos),_->_->_->_->PS X _ (tS M E (qlc i (qhJ _ (qem x _ _ dNo _ _ _))));rw[e];exact no
 rcases ifs with _|⟨t,_|⟨u,r⟩⟩
 ·exact go none λY E' cc=>qkh
 ·exact go (some (cE g n (qaf C sc).1 t)) λY E' cc=>qph (IH.t _ _ _ cc t)
 ·exact no
end
section
variable {M:Md}{g:Gx}{F:Fs}{k n:Nat}{C:Cc}{X:Cx}{E:XK}
theorem qts{x:Str}{b:Bn}(h:qqZ x=some b):x=b.nm:=by have:=List.find?_some h;exact(eq_of_beq this).symm
theorem qlz{x:Str}{ty:String}{b:Bm}(h:qoj x ty=some b):x=b.nm:=by have:=List.find?_some h;rw[Bool.and_eq_true] at this;exact(eq_of_beq this.1).symm
theorem qrw{x:Str}{N:String}(h:qtz x=some N):x=Str.ofString N/\N∈["int", "bool", "str", "tuple", "list"]:=⟨(eq_of_beq (List.find?_some (p:=λN=>Str.ofString N==x) h)).symm,List.mem_of_find?_eq_some h⟩
theorem qsy{m c:Str}{i:Nat}(h:(g.ms m).lookup c=some i):(c,i)∈g.ms m:=by
 generalize g.ms m=l at h⊢
 induction l with
 |nil=>cases h
 |cons q l ih=>
  obtain⟨y,j⟩:=q;rw[List.lookup_cons] at h;cases z:c==y with
  |true=>rw[z] at h;cases h;rw[eq_of_beq z];exact Vk
  |false=>rw[z] at h;exact Vl _ (ih h)
theorem qeP{a:Arguments}(h:qa7 a=true):a.posonlyargs=[]/\a.vararg=none/\a.kwonlyargs=[]/\a.kw_defaults=[]/\a.kwarg=none/\a.defaults=[]:=by unfold qa7 at h;simp only[Bool.and_eq_true,decide_eq_true_eq,Option.isNone_iff_eq_none,List.length_eq_zero_iff] at h;exact⟨h.1.1.1.1.1,h.1.1.1.1.2,h.1.1.1.2,h.1.1.2,h.1.2,h.2⟩
theorem qgi{a:Arguments}{env:Env}(h:qa7 a=true):defaultsOf a env=([],[]):=by obtain⟨_,_,_,h4,_,h6⟩:=qeP h;obtain⟨a1,a2,a3,a4,a5,a6,a7⟩:=a;cases h4;cases h6;rfl
theorem qpT{a:Arguments}{sc:Scope}(h:qkF C a sc=true):qa7 a=true/\sc.kind= .function/\sc.isCoroutine=false/\sc.isGenerator=false/\(∀y∈sc.names,y.2≠.cell)/\C.lam=true/\C.calm=true:=by unfold qkF at h;simp only[Bool.and_eq_true,decide_eq_true_eq,Bool.not_eq_true',List.all_eq_true] at h;exact⟨h.1.1.1.1.1.1,h.1.1.1.1.1.2,h.1.1.1.1.2,h.1.1.1.2,h.1.1.2,h.1.2,h.2⟩
theorem qmq (IH:Eo M g F k n) (c:Cok M g F k C X E) {a:Arguments} {body:Expr} {sc:Scope} {lp p pp:Pos} (h:qia C a sc=true) (hw:g.wd.isEmpty=false) (gl:Gl X "_law_told"):
  PE X (.Call (.Name "_law_told" pp) [.Lambda a body sc lp] [] p) (tE M E (qad F (.told g.wd ((qiT C sc).map (·.2)) (cE g n (qkG C sc) body)))):=by
 unfold qia at h;simp only[Bool.and_eq_true,decide_eq_true_eq,List.all_eq_true,Bool.or_eq_true] at h;obtain⟨⟨⟨⟨h1,h2⟩,h3⟩,h4⟩,h5⟩:=h;obtain⟨s1,s2,s3,s4,s5,s6,s7⟩:=qpT h1;obtain⟨st,fT,fC,CA,fdT,fdC,bmA,wa,D⟩:=c.gf.td hw;obtain⟨hr,cc,P,q,L⟩:=c.lm s6;have ah: ∀y∈sc.names,y.2= .free->(C.sc.names.lookup y.1=some .cell\/C.sc.names.lookup y.1=some .free)/\sc.names.lookup y.1=some .free:=λy hy e=>(h5 y hy).elim (λz=>absurd e z) id;have aO: ∀q∈qiT C sc,X.N[q.2]? =some q.1/\sc.names.lookup q.1=some .free:=λq hq=>by
  obtain⟨y,hy,e⟩:=List.mem_filterMap.mp hq;split at e
  ·rename_i hf;obtain⟨i,hi,rfl⟩:=qal e;exact⟨by rw[c.N];exact qbt hi,(ah y hy hf).2⟩
  ·cases e
 obtain⟨b1,b2,b3,b4,b5,b6⟩:=qeP s1;refine qnY (k:=8*k+1) c.K D gl L (qgi s1) (c.cf h3) s2 s3 s4 s5 (λy hy e=> ?_) aO (λau pm cv aD=> ?_) hr λA outer s H f c' E' iQ=> ?_
 ·show X.env.scope.names.lookup _=_\/X.env.scope.names.lookup _=_;rw[c.sc];exact(ah y hy e).1
 ·have ea:a.args=[]:=List.length_eq_zero_iff.mp h2;have:=qb2 (fd:=W.kla_fn "<lambda>" q a body sc au pm cv aD) (us:=[]) b1 b2 b3 b5 rfl (by show(a.args.map (·.arg)).Nodup;rw[ea];exact List.nodup_nil) (by show _=(a.args.map (·.arg)).length;rw[ea];rfl);rw[this];show pure ((a.args.map (·.arg)).zip [])=_;rw[ea];rfl
 ·refine IH.e (qkG C sc) (qfm X.prog X.w X.K X.mg X.base ((qiT C sc).map (·.1)) (qbQ sc s.heap.objs.size (clOf X.env sc.names []) q f c') A outer s H E') E' ⟨c.gf,c.K,rfl,h4,rfl,λx hx=> ?_,PL.hu8 iQ,λ_=>⟨rfl,iQ,PL.passLI⟩,(λz=>by cases z),(λz=>by cases z),λz=>by cases z⟩ body;have hx:(match sc.names.lookup x with|some .local=>true|some .cell=>false|_=>false)=true:=hx;split at hx
  ·rename_i e;exact .inr e
  ·cases hx
  ·cases hx
theorem qoe(IH:Eo M g F k n)(c:Cok M g F k C X E)(hc:C.calm=true){f:Str}{es:List Expr}{p pp:Pos}(hp:es.all qak=true)(hg:qhE C f=true):PE X (.Call (.Name f pp) es [] p) (tE M E (qad F (cCall g (n+1) C f es p))):=by
 obtain⟨cm,hr,ps⟩:=c.cm hc;obtain⟨gl,hd⟩:=c.gl hg;have args: ∀es:List Expr,es.all qak=true->PA X es (tA M E (runA F (es.map (cE g n C)))):=λes h=>qaU (λe _=>IH.e C X E c e) h;have bn: ∀{es:List Expr},es.all qak=true->es≠[]->qcW C f=true->PE X (.Call (.Name f pp) es [] p) (tE M E (qad F (match qqZ f with|some b=>.bn (g.own p) b (es.map (cE g n C))|none=>.no))):=λ{es} hp hn hb=>by
  split
  ·rename_i b eb;have e:=qts eb;subst e;cases es with
   |nil=>exact absurd rfl hn
   |cons e es=>have ar:=hp;rw[List.all_cons,Bool.and_eq_true] at ar;obtain⟨b1,b2,b3⟩:=c.blt hb;exact qtg b c.un cm c.K b1 b2 (args _ hp) (qbM ar.1) (qbc ar.2)
  ·exact qah
 unfold cCall;split
 ·rename_i hf;have hf:=eq_of_beq hf;subst hf;split
  ·rename_i a body sc lp;split
   ·rename_i ht;rw[Bool.and_eq_true,Bool.not_eq_true'] at ht;exact qmq IH c ht.1 ht.2 gl
   ·exact qah
  ·exact qah
 split
 ·exact qah
 ·rename_i dM;have dM:f.cps.contains 46=false:=by simpa using dM
  split
  ·rename_i i hi;obtain⟨fa,fd,c8,m,kp,bd,fo⟩:=c.gf.fn f i hi dM;have fk:qcD X.prog X.w X.K X.mg X.base (CXE X.prog X.w) (8*k) fa fd c8 (spF M (F i)):=by rw[c.K];exact fo
   cases es with
   |nil=>exact qla fk (hr.mono (by omega)) gl m (by rw[c.K];exact kp) (by rw[c.K];exact bd) ps hd
   |cons e es=>have ar:=hp;rw[List.all_cons,Bool.and_eq_true] at ar;exact qn4 fk (hr.mono (by omega)) gl m (by rw[c.K];exact kp) (by rw[c.K];exact bd) ps (args _ hp) hd (qbM ar.1) (qbc ar.2)
  ·split
   ·rename_i cB;split
    ·rename_i i hi;obtain⟨fa,fd,c8,m,mk,fo,bd⟩:=c.gf.mkc f i cB hi;have fk:qcD X.prog X.w X.K X.mg X.base (CXE X.prog X.w) (8*k) fa fd c8 (spF M (F i)):=by rw[c.K];exact fo
     cases es with
     |nil=>exact qk8 rfl (by rw[c.K];exact mk) fk hr gl m (by rw[c.K];exact bd) ps hd
     |cons e es=>have ar:=hp;rw[List.all_cons,Bool.and_eq_true] at ar;exact qn1 rfl (by rw[c.K];exact mk) fk hr gl m (by rw[c.K];exact bd) ps (args _ hp) hd (qbM ar.1) (qbc ar.2)
    ·exact qah
   ·split
    ·rename_i hb;split
     ·rename_i e x xp;split
      ·rename_i hf;have hf:=eq_of_beq hf;subst hf;split
       ·rename_i N hN;split
        ·rename_i dS;obtain⟨e1,e2⟩:=qrw hN;obtain⟨b1,b2,b3⟩:=c.blt hb;obtain⟨d1,d2,d3⟩:=c.blt dS;rw[List.all_cons,Bool.and_eq_true] at hp;exact qn2 e2 e1 c.K b1 b2 d1 d2 (IH.e C X E c e) (qbM hp.1) (qbM rfl) (qbc hp.2)
        ·exact qah
       ·exact qah
      ·exact bn hp (by simp) hb
     ·rename_i s sp a ap;split
      ·rename_i hs;simp only[Bool.and_eq_true] at hs;have es:=eq_of_beq hs.1.1;subst es;obtain⟨d1,d2,d3⟩:=c.blt hs.1.2;obtain⟨b1,b2,b3⟩:=c.blt hb;split
       ·rename_i hf;have hf:=eq_of_beq hf;subst hf;exact qah
       ·split
        ·rename_i hf;have hf:=eq_of_beq hf;subst hf;exact qah
        ·exact qah
      ·exact bn hp (by simp) hb
     ·exact qah
     ·rename_i h1 h2 h3;exact bn hp h3 hb
    ·exact qah
theorem qsI(IH:Eo M g F k n)(c:Cok M g F k C X E)(tg e:Expr):PI X tg e (tI M E (runI F (cI g (n+1) C tg e))):=by
 have gen:PI X tg e (tI M E (runI F (.gen (cE g n C e)))):=qqA (IH.e C X E c e) c.K;unfold cI;split
 case isFalse=>exact qek
 split
 ·rename_i f fp es p _;split
  ·rename_i hf;have hf:=eq_of_beq hf;subst hf;split
   ·rename_i hb;rw[Bool.and_eq_true] at hb;obtain⟨b1,b2,b3⟩:=c.blt hb.1;have args:PA X es (tA M E (runA F (es.map (cE g n C)))):=qaU (λe _=>IH.e C X E c e) hb.2;have hp:=hb.2;split
    ·rename_i a;rw[List.all_cons,Bool.and_eq_true] at hp;exact qjs b1 b2 args (qbM hp.1)
    ·rename_i a b;rw[List.all_cons,Bool.and_eq_true,List.all_cons,Bool.and_eq_true] at hp;exact qjr b1 b2 args (by rw[qbM hp.1,qbM hp.2.1];rfl) (by rw[qbM hp.2.1];rfl)
    ·exact qek
   ·exact qek
  ·split
   ·rename_i hf;have hf:=eq_of_beq hf;subst hf;split
    ·rename_i hb;simp only[Bool.and_eq_true] at hb;obtain⟨b1,b2,b3⟩:=c.blt hb.1.1;have args:PA X es (tA M E (runA F (es.map (cE g n C)))):=qaU (λe _=>IH.e C X E c e) hb.1.2;have hp:=hb.1.2;have ht:=hb.2;cases tg with
     |Tuple ts kk tp=>
      split
      ·rename_i a;rw[List.all_cons,Bool.and_eq_true] at hp;exact qek
      ·exact qek
     |_=>cases ht
    ·exact qek
   ·split
    ·rename_i hf;have hf:=eq_of_beq hf;subst hf;split
     ·rename_i hb;simp only[Bool.and_eq_true] at hb;obtain⟨b1,b2,b3⟩:=c.blt hb.1.1;have args:PA X es (tA M E (runA F (es.map (cE g n C)))):=qaU (λe _=>IH.e C X E c e) hb.1.2;have hp:=hb.1.2;have ht:=hb.2;cases tg with
      |Tuple ts kk tp=>
       split
       ·rename_i a b;rw[List.all_cons,Bool.and_eq_true] at hp;exact qqz b1 b2 args c.K (qbM hp.1) (qbc hp.2)
       ·exact qek
      |_=>cases ht
     ·exact qek
    ·exact gen
 ·exact gen
end
section
variable {M:Md}{g:Gx}{F:Fs}{k n:Nat}{C:Cc}{X:Cx}{E:XK}
theorem qmc{f:Expr->CE}{pos:Pos}(h: ∀e,PE X e (tE M E (qad F (f e)))): ∀es:List Expr,PE X (.BoolOp .And es pos) (tE M E (qad F (qg6 (es.map f))))
 |[]=>qah
 |[a]=>h a
 |a::b::r=>qqL (h a) (qmc h (b::r))
theorem qpt{f:Expr->CE}{pos:Pos}(h: ∀e,PE X e (tE M E (qad F (f e)))): ∀es:List Expr,PE X (.BoolOp .Or es pos) (tE M E (qad F (qku (es.map f))))
 |[]=>qah
 |[a]=>h a
 |a::b::r=>qte (h a) (qpt h (b::r))
theorem qjN{f:Expr->CE}{pos:Pos}(h: ∀e,PT X e (tT M E (dTB (qad F (f e))))): ∀es:List Expr,PW X (.BoolOp .And es pos) (tT M E (dTB (qad F (qg6 (es.map f)))))
 |[]=>λ_ _ _ _ _ _ _ ⟨_,_,_,_,w⟩=>w.elim
 |[a]=>qnK (h a)
 |a::b::r=>by show PW X _ (tT M E (dTB (qlg _ _)));rw[qoH];exact qqq (h a) (qjN h (b::r))
theorem qlU{f:Expr->CE}{pos:Pos}(h: ∀e,PT X e (tT M E (dTB (qad F (f e))))): ∀es:List Expr,PW X (.BoolOp .Or es pos) (tT M E (dTB (qad F (qku (es.map f)))))
 |[]=>λ_ _ _ _ _ _ _ ⟨_,_,_,_,w⟩=>w.elim
 |[a]=>qqp (h a)
 |a::b::r=>by show PW X _ (tT M E (dTB (qro _ _)));rw[qry];exact qs8 (h a) (qlU h (b::r))
theorem qlV{f:Expr->CE}(h: ∀e,PE X e (tE M E (qad F (f e)))): ∀o:Option Expr,PO X o (tO M E (runO F (o.map f)))
 |none=>qnR
 |some e=>qnQ (h e)
theorem qnq (IH:Eo M g F k n) (c:Cok M g F k C X E) {o:Expr} {m:Str} {ap p:Pos} {es:List Expr} (h:(qcP o&&es.all qak&&decide (es.length<30))=true) (hl:(ap.endLine==p.line)=true):
  PE X (.Call (.Attribute o m ap) es [] p) (tE M E (qad F (match qoj m "list",qoj m "dict" with
     |some b,some d=>.alt (.bm (g.own p) b (cE g n C o) (es.map (cE g n C))) (.bm (g.own p) d (cE g n C o) (es.map (cE g n C)))
     |some b,none=>.bm (g.own p) b (cE g n C o) (es.map (cE g n C))
     |none,some d=>.bm (g.own p) d (cE g n C o) (es.map (cE g n C))
     |none,none=>if C.calm then .mth (g.ms m) m (cE g n C o) (es.map (cE g n C)) else .no))):=by
 simp only[Bool.and_eq_true,decide_eq_true_eq] at h;obtain⟨⟨h1,h2⟩,h3⟩:=h;have args:PA X es (tA M E (runA F (es.map (cE g n C)))):=qaU (λe _=>IH.e C X E c e) h2;have bm: ∀b:Bm,m=b.nm->PE X (.Call (.Attribute o m ap) es [] p) (tE M E (qad F (.bm (g.own p) b (cE g n C o) (es.map (cE g n C))))):=λb e=>by
  subst e;cases es with
  |nil=>exact qqK b c.un c.K (IH.e C X E c o) (qex h1) hl
  |cons e es=>have ar:=h2;rw[List.all_cons,Bool.and_eq_true] at ar;exact qth b c.un c.K (IH.e C X E c o) args (qex h1) (ql1 h2 h3) hl (qbM ar.1) (qbc ar.2)
 split
 ·rename_i e1 e2;exact qqM (bm _ (qlz e1)) (bm _ (qlz e2))
 ·rename_i e1 e2;exact bm _ (qlz e1)
 ·rename_i e1 e2;exact bm _ (qlz e2)
 ·split
  ·rename_i hc;obtain⟨cm,hr,ps⟩:=c.cm hc;have hM: ∀c' f,((g.ms m).lookup c').map F=some f->qde X (CXE X.prog X.w) (clA M.K c') m (spF M f):=λc' f e=>by obtain⟨i,e1,rfl⟩:=qal e;obtain⟨fa,fd,c8,a1,a2,a3,a4⟩:=c.gf.mt m c' i (qsy e1);exact⟨fa,fd,c8,8*k,by rw[c.K];exact a1,by rw[c.K];exact a2,by rw[c.K];exact a3,hr.mono (by omega),by rw[c.K];exact a4⟩
   cases es with
   |nil=>exact qk7 hM (IH.e C X E c o) ps (qiN h1 h2 h3 hl)
   |cons e es=>have ar:=h2;rw[List.all_cons,Bool.and_eq_true] at ar;exact qn0 hM (IH.e C X E c o) ps args (qbM ar.1) (qbc ar.2) (qiN h1 h2 h3 hl)
  ·exact qah
theorem qcF{b:Expr}{tbl:List (Str×Str)}(h:qmp g C b=some tbl): ∃D p,b= .Name D p/\qhE C D=true/\g.dt.lookup D=some tbl:=by
 cases b with
 |Name D p=>
  have h:(if qhE C D then g.dt.lookup D else none)=some tbl:=h;split at h
  ·rename_i q;exact⟨D,p,rfl,q,h⟩
  ·cases h
 |_=>cases h
theorem qe2{o:CmpOp}{neg:Bool}(h:qpP o=some neg):o=if neg=true then .NotIn else .In:=by cases o<;>first|(cases h;done)|(cases h;rfl)
theorem qob(c:Cok M g F k C X E){o:CmpOp}{a b:Expr}{ca cb:CE}{pos:Pos}(ha:PE X a (tE M E (qad F ca)))(hb:PE X b (tE M E (qad F cb)))(h:qbN b=true):PE X (.Compare a [o] [b] pos) (tE M E (qad F (qog g C o b ca cb))):=by
 unfold qog;split
 ·rename_i tbl neg e1 e2;obtain⟨D,p,rfl,hg,hd⟩:=qcF e1;obtain⟨gl,aF⟩:=c.gl hg;rw[qe2 e2];exact qk5 (by rw[c.K];exact c.gf.dt D tbl hd) gl ha aF neg
 ·exact PE.weak (qfR (qdJ c.un c.K _) ha hb (qgO h)) λ_ _ _ q=>qd7 qcz.b q
theorem qlp(c:Cok M g F k C X E){o:CmpOp}{a b:Expr}{ca cb:CE}{pos:Pos}(ha:PE X a (tE M E (qad F ca)))(hb:PE X b (tE M E (qad F cb)))(h:qbN b=true):PT X (.Compare a [o] [b] pos) (tT M E (dTB (qad F (qog g C o b ca cb)))):=by
 unfold qog;split
 ·rename_i tbl neg e1 e2;obtain⟨D,p,rfl,hg,hd⟩:=qcF e1;obtain⟨gl,aF⟩:=c.gl hg;rw[qe2 e2];exact qkX (by rw[c.K];exact c.gf.dt D tbl hd) gl ha aF neg
 ·exact PT.weak (qd5 (qdJ c.un c.K o) ha hb (qgO h)) λ_ _ _ q=>qd7 qcz.b (qcG q)
theorem qp4(c:Cok M g F k C X E){ow:Bool}{a b:Expr}{ca cb:CE}{pos:Pos}(ha:PE X a (tE M E (qad F ca)))(hb:PE X b (tE M E (qad F cb)))(h:qiH b=true):PE X (.Subscript a b pos) (tE M E (qad F (cIx g C ow a b ca cb))):=by
 unfold cIx;split
 ·rename_i tbl e1;obtain⟨D,p,rfl,hg,hd⟩:=qcF e1;obtain⟨gl,aF⟩:=c.gl hg;exact qjv (by rw[c.K];exact c.gf.dt D tbl hd) gl hb c.K (λ_ _=>by cases b<;>first|rfl|cases h) aF
 ·exact PE.weak (qpo (qu2 (by have:=c.un;omega) c.K) ha hb (qhq h)) λ_ _ _ q=>qd7 qcz.b q
theorem qqh{x:Str}{i:Nat}(h:g.fns.lookup x=some i):g.fi x=some i/\x.cps.contains 46=false:=by
 have hm:(x,i)∈g.fns:=by
  generalize g.fns=l at h
  induction l with
  |nil=>cases h
  |cons q l ih=>
   obtain⟨y,j⟩:=q;rw[List.lookup_cons] at h;cases z:x==y with
   |true=>rw[z] at h;cases h;rw[eq_of_beq z];exact Vk
   |false=>rw[z] at h;exact Vl _ (ih h)
 obtain⟨j,_,e⟩:=List.mem_filterMap.mp hm;obtain⟨p,e1,e2⟩:=bind_some e;split at e2
 ·cases e2
 ·rename_i hn;split at e2
  ·rename_i hf;cases e2;exact⟨hf,by simpa using hn⟩
  ·cases e2
theorem qlu(IH:Eo M g F k n)(c:Cok M g F k C X E){f:Str}{es:List Expr}{p pp:Pos}(hp:es.all qak=true)(hc:C.calm=true):PE X (.Call (.Name f pp) es [] p) (tE M E (qad F (qg3 g C f (es.map (cE g n C))))):=by
 obtain⟨cm,hr,ps⟩:=c.cm hc;unfold qg3;split
 ·exact qah
 ·rename_i hd;have hd:((f==("__debug__" :Str))=false/\(f==("__classdict__" :Str))=false)/\(es.map (cE g n C)).isEmpty=false:=by simpa only[Bool.or_eq_true,not_or,Bool.not_eq_true] using hd
  split
  ·rename_i hv;split
   ·rename_i i hi;cases es with
    |nil=>cases hd.2
    |cons e es=>have ar:=hp;rw[List.all_cons,Bool.and_eq_true] at ar;refine qk9 (kk:=8*k) (λy fT e=> ?_) c.K (hr.mono (by omega)) (qeX (by rw[c.N];exact qbt hi) (by rw[c.sc];exact qlG hv) hd.1.1 hd.1.2) ps (qaU (λe _=>IH.e C X E c e) hp) (qbM ar.1) (qbc ar.2);obtain⟨j,e1,rfl⟩:=qal e;obtain⟨h1,h2⟩:=qqh e1;obtain⟨fa,fd,c8,m,kp,bd,fo⟩:=c.gf.fn y j h1 h2;exact⟨fa,fd,c8,m,by rw[c.K];exact kp,by rw[c.K];exact bd,by rw[c.K];exact fo⟩
   ·exact qah
  ·exact qah
theorem qvq(IH:Eo M g F k n)(fc: ∀C X E,Cok M g F k C X E->∀(x:Bool),x=false->∀elt tg iter ifs sc p,PE X (.ListComp elt [⟨tg,iter,ifs,0⟩] sc p) (tE M E (qad F (cComp g n C x elt tg iter ifs sc p))))(c:Cok M g F k C X E)(e:Expr):PE X e (tE M E (qad F (cE g (n+1) C e))):=by
 have ih:=IH.e C X E c;have cU:=IH.t C X E c;cases e with
 |Constant cc kk p=>
  cases cc with
  |none=>exact qqJ qpn λB=>qdx
  |bool b=>exact qqJ qm3 λB=>qa8
  |int i=>exact qqJ qlR λB=>qaR
  |str s=>exact qqJ qgL λB=>qcm
  |_=>exact qah
 |Name x p=>exact qnl c
 |Tuple es kk p=>
  show PE X _ (tE M E (qad F (if es.all qak then .tup (es.map (cE g n C)) else .no)));split
  ·rename_i h;exact qqF (qaU (λe _=>ih e) h)
  ·exact qah
 |List es p=>
  show PE X _ (tE M E (qad F (if es.all qak then .lst (g.own p) (es.map (cE g n C)) else .no)));split
  ·rename_i h;show PE X _ (tE M E (qhJ _ _));unfold qhJ;split
   ·exact qnZ (ql5 (qaU (λe _=>ih e) h))
   ·exact qn3 (ql5 (qaU (λe _=>ih e) h))
  ·exact qah
 |Dict ks vs p=>
  cases ks with
  |nil=>
   cases vs with
   |nil=>
    show PE X _ (tE M E (qhJ _ _));unfold qhJ;split
    ·exact qnZ qjq
    ·exact qn3 qjq
   |cons _ _=>exact qah
  |cons _ _=>exact qah
 |BinOp a op b p=>
  show PE X _ (tE M E (qad F (match qsu op with|some o=>.o2 (g.own p) o (cE g n C a) (cE g n C b)|none=>.no)));split
  ·rename_i o ho;exact PE.weak (qmX (bin_ok c.K ho) (ih _) (ih _)) λ_ _ _ q=>qd7 qcz.b q
  ·exact qah
 |UnaryOp op a p=>
  cases op with
  |Not=>exact qqG (ih _)
  |USub=>exact qqH (ih _)
  |_=>exact qah
 |BoolOp op es p=>
  cases op with
  |And=>exact qmc ih _
  |Or=>exact qpt ih _
 |IfExp t a b p=>exact qtf (cU _) (ih _) (ih _)
 |Compare a ops bs p=>
  match ops,bs with
  |[o],[b]=>
   show PE X _ (tE M E (qad F (if qbN b then qog g C o b (cE g n C a) (cE g n C b) else .no)));split
   ·rename_i h;exact qob c (ih _) (ih _) h
   ·exact qah
  |[o,q],[b,d]=>
   show PE X _ (tE M E (qad F (if qbN d then .chain (qmb o) (qmb q) (cE g n C a) (cE g n C b) (cE g n C d) else .no)));split
   ·rename_i h;exact PE.weak (qkr (qdJ c.un c.K _) (qdJ c.un c.K _) (ih _) (ih _) (ih _) (qdy h)) λ_ _ _ q=>qdM q
   ·exact qah
  |[],_=>exact qah
  |[o],[]=>exact qah
  |[o],_::_::_=>exact qah
  |[o,q],[]=>exact qah
  |[o,q],[_]=>exact qah
  |[o,q],_::_::_::_=>exact qah
  |_::_::_::_,_=>exact qah
 |Subscript a b p=>
  cases b with
  |Slice lo hi st q=>
   cases st with
   |none=>exact qk6 c.K (ih _) (qlV ih _) (qlV ih _)
   |some st=>exact qah
  |_=>exact qp4 c (ih _) (ih _) rfl
 |Attribute a f p=>
  show PE X _ (tE M E (qad F (if qcP a then .fld (g.fls f) f (cE g n C a) else .no)));split
  ·rename_i h;exact qqI c.K (λc' bM=>c.gf.fl _ c' bM) (ih _) (qex h)
  ·exact qah
 |Call f es cT p=>
  cases f with
  |Attribute o m ap=>
   cases cT with
   |nil=>
    show PE X _ (tE M E (qad F (if(qcP o&&es.all qak&&decide (es.length<30))&&ap.endLine==p.line then
    (match qoj m "list",qoj m "dict" with
     |some b,some d=>.alt (.bm (g.own p) b (cE g n C o) (es.map (cE g n C))) (.bm (g.own p) d (cE g n C o) (es.map (cE g n C)))
     |some b,none=>.bm (g.own p) b (cE g n C o) (es.map (cE g n C))
     |none,some d=>.bm (g.own p) d (cE g n C o) (es.map (cE g n C))
     |none,none=>if C.calm then .mth (g.ms m) m (cE g n C o) (es.map (cE g n C)) else .no) else .no)))
    split
    ·rename_i h;rw[Bool.and_eq_true] at h;exact qnq IH c h.1 h.2
    ·exact qah
   |cons _ _=>exact qah
  |Name f fp=>
   cases cT with
   |nil=>
    have go:PE X (.Call (.Name f fp) es [] p) (tE M E (qad F (if(es.all qak&&C.calm)&&qhE C f then cCall g n C f es p else if es.all qak&&C.calm then qg3 g C f (es.map (cE g n C)) else .no))):=by
     split
     ·rename_i h;simp only[Bool.and_eq_true] at h;exact IH.c C X E c h.1.2 _ _ _ _ h.1.1 h.2
     ·split
      ·rename_i h;rw[Bool.and_eq_true] at h;exact qlu IH c h.1 h.2
      ·exact qah
    match es,go with
    |[],go=>exact go
    |[_],go=>exact go
    |_::_::_,go=>exact go
   |cons kw cT=>
    obtain⟨ka,v,kp⟩:=kw
    match es with
    |[]=>exact qah
    |_::_::_=>exact qah
    |[e]=>
     cases ka with
     |none=>cases cT<;>exact qah
     |some kw=>
      cases v with
      |Lambda a body sc lp=>
       cases cT with
       |nil=>
        show PE X _ (tE M E (qad F (if f== "sorted" &&kw== "key" &&qcW C f&&qak e then(match qiU C a sc with
    |some x=>(match qua x body with|some b=>.no|none=>.no)
    | none=>.no) else .no)))
        split
        ·rename_i h;split
         ·rename_i x hx;split
          ·rename_i b hb;exact qah
          ·exact qah
         ·exact qah
        ·exact qah
       |cons _ _=>exact qah
      |_=>cases cT<;>exact qah
  |_=>exact qah
 |ListComp elt gs sc p=>
  cases gs with
  |nil=>exact qah
  |cons gg gs=>
   obtain⟨tg,iter,ifs,as⟩:=gg;cases gs with
   |nil=>
    cases as with
    |ofNat m=>
     cases m with
     |zero=>exact fc C X E c _ rfl _ _ _ _ _ _
     |succ m=>exact qah
    |negSucc m=>exact qah
   |cons _ _=>
    cases as with
    |ofNat m=>cases m<;>exact qah
    |negSucc m=>exact qah
 |_=>exact qah
theorem quy(IH:Eo M g F k n)(he:PE X e (tE M E (qad F (cE g (n+1) C e))))(c:Cok M g F k C X E):PT X e (tT M E (dTB (qad F (cE g (n+1) C e)))):=by
 have ih:=IH.e C X E c;have cU:=IH.t C X E c;cases e with
 |UnaryOp op a p=>
  cases op with
  |Not=>show PT X _ (tT M E (dTB (qld _)));rw[qoG];exact qqs (cU a)
  |_=>exact ql3 he λ_=>rfl
 |BoolOp op es p=>
  cases op with
  |And=>exact(qjN cU es).pt
  |Or=>exact(qlU cU es).pt
 |IfExp t a b p=>show PT X _ (tT M E (dTB (qhK _ _ _)));rw[qrz];exact PT.weak (qo8 (cU t) (cU a) (cU b)) λ_ _ _ q=>qeg q
 |Compare a ops bs p=>
  have no:PT X (.Compare a ops bs p) (tT M E (dTB (qad F .no))):=λ_ _ _ _ _ _ ⟨_,_,_,_,w⟩=>w.elim
  match ops,bs,no with
  |[o],[b],no=>
   show PT X _ (tT M E (dTB (qad F (if qbN b then qog g C o b (cE g n C a) (cE g n C b) else .no))));split
   ·rename_i h;exact qlp c (ih a) (ih b) h
   ·exact no
  |[o,q],[b,d],no=>
   show PT X _ (tT M E (dTB (qad F (if qbN d then .chain (qmb o) (qmb q) (cE g n C a) (cE g n C b) (cE g n C d) else .no))));split
   ·rename_i h;exact PT.weak (qke (qdJ c.un c.K o) (qdJ c.un c.K q) (ih a) (ih b) (ih d) (qdy h)) λ_ _ _ q=>qdM (qcG q)
   ·exact no
  |[],_,no=>exact no
  |[o],[],no=>exact no
  |[o],_::_::_,no=>exact no
  |[o,q],[],no=>exact no
  |[o,q],[_],no=>exact no
  |[o,q],_::_::_::_,no=>exact no
  |_::_::_::_,_,no=>exact no
 |_=>exact ql3 he λ_=>rfl
theorem qjm (M:Md) (g:Gx) (F:Fs) (k:Nat): ∀n,Eo M g F k n/\(∀C X E,Cok M g F k C X E->∀(x:Bool),x=false->∀elt tg iter ifs sc p,PE X (.ListComp elt [⟨tg,iter,ifs,0⟩] sc p) (tE M E (qad F (cComp g n C x elt tg iter ifs sc p)))/\
  ∀(i:Nat) (y:Str) (py spos:Pos),x=false->X.N[i]? =some y->C.sc.names.lookup y=some .local->swapsWith (.ListComp elt [⟨tg,iter,ifs,0⟩] sc p) (some (.Name y py)) spos.line X.env=pure true->
   PS X (.Assign [.Name y py] (.ListComp elt [⟨tg,iter,ifs,0⟩] sc p) spos) (tS M E (qlc i (qad F (cComp g n C x elt tg iter ifs sc p)))))
 |0=>⟨⟨λC X E c e=>qah,λC X E c e _ _ _ _ _ _ ⟨_,_,_,_,w⟩=>w.elim,λC X E c _ f es p pp _ _=>qah,λC X E c tg it=>qek⟩,λC X E c x hx elt tg iter ifs sc p=>⟨qah,λ_ _ _ _ _ _ _ _ _ _ _ _ _ _ ⟨_,_,_,_,w⟩=>w.elim⟩⟩
 |n+1=>by obtain⟨IH,hc⟩:=qjm M g F k n;have he: ∀C X E,Cok M g F k C X E->∀e,PE X e (tE M E (qad F (cE g (n+1) C e))):=λC X E c e=>qvq IH (λC X E c x hx elt tg iter ifs sc p=>(hc C X E c x hx elt tg iter ifs sc p).1) c e;exact⟨⟨he,λC X E c e=>quy IH (he C X E c e) c,λC X E c hc f es p pp hp hg=>qoe IH c hc hp hg,λC X E c tg it=>qsI IH c tg it⟩,λC X E c x hx elt tg iter ifs sc p=>qn8 IH c hx⟩
end
section
variable {M:Md}{g:Gx}{F:Fs}{k n:Nat}{C:Cc}{X:Cx}{E:XK}
theorem qs6{x:Str}(h:(g.ex.map (·.1)).contains x=true): ∃bs,(x,bs)∈g.ex:=by rw[List.contains_iff_mem] at h;obtain⟨p,hp,rfl⟩:=List.mem_map.mp h;exact⟨p.2,hp⟩
theorem qgA{is:List Nat}{ts:List T}{ρ ai:Ro}(h:qbd is ts ρ=some ai):is.length=ts.length:=by
 induction is generalizing ts ρ with
 |nil=>cases ts with
  |nil=>rfl
  |cons _ _=>cases h
 |cons i is ih=>cases ts with
  |nil=>cases h
  |cons t ts=>simp[ih h]
theorem qiY{N:List Str}: ∀{xs:List Str} {is:List Nat},qnv N xs=some is->is.length=xs.length/\∀(j:Nat) (x:Str) (i:Nat),xs[j]? =some x->is[j]? =some i->N[i]? =some x
 |[],is,h=>by cases h;exact⟨rfl,λj x i e=>by simp at e⟩
 |x::xs,is,h=>by
  obtain⟨i,e1,e2⟩:=bind_some h;obtain⟨bY,e3,rfl⟩:=qal e2;obtain⟨a,b⟩:=qiY e3;refine⟨by simp[a],λj y q e4 e5=> ?_⟩;cases j with
  |zero=>cases e4;cases e5;exact qbt e1
  |succ j=>exact b j y q (by simpa using e4) (by simpa using e5)
theorem qiQ{line:Nat}: ∀{ts:List Expr} {xs:List Str},qbJ C line ts=some xs->ts.length=xs.length/\(∀x∈xs,C.sc.names.lookup x=some .local)/\∃ps:List Pos,ps.length=xs.length/\ts=(xs.zip ps).map (λq=>Expr.Name q.1 q.2)/\∀p∈ps,p.line=line
 |[],xs,h=>by cases h;exact⟨rfl,(λ_ h=>nomatch h),[],rfl,rfl,λ_ h=>nomatch h⟩
 |e::ts,xs,h=>by
  cases e with
  |Name x p=>
   have h:(if decide (C.sc.names.lookup x=some .local)&&p.line==line then(qbJ C line ts).map (x:: ·) else none)=some xs:=h;split at h
   ·rename_i hc;rw[Bool.and_eq_true] at hc;obtain⟨ys,e1,rfl⟩:=qal h;obtain⟨a,b,ps,d,e,f⟩:=qiQ e1;refine⟨by simp[a],λy hy=> ?_,p::ps,by simp[d],by rw[e];rfl,λq hq=> ?_⟩
    ·rcases List.mem_cons.mp hy with rfl|hy
     ·exact of_decide_eq_true hc.1
     ·exact b y hy
    ·rcases List.mem_cons.mp hq with rfl|hq
     ·exact eq_of_beq hc.2
     ·exact f q hq
   ·cases h
  |_=>cases h
theorem qew{env:Env}{sc:Scope}(h:env.scope=sc)(hk:sc.kind= .function):env.blockKind= .function:=by unfold Env.blockKind;rw[h,hk];rfl
theorem qbH{vs:List Expr}(hp:vs.all qak=true){v:Expr}(hv:v∈vs): ∀a b,v≠.Starred a b:=λa b e=>by have:=List.all_eq_true.mp hp v hv;rw[e] at this;cases this
theorem qql{α β:Type}{f:α->Option β}: ∀{l:List α},(∃a∈l,f a=none)->(l.filterMap f).length<l.length
 |[],⟨_,h,_⟩=>nomatch h
 |b::l,⟨a,h,e⟩=>by
  have le:=List.length_filterMap_le f l;rw[List.filterMap_cons]
  rcases List.mem_cons.mp h with rfl|h
  ·rw[e];simp only[List.length_cons];omega
  ·have:=qql ⟨a,h,e⟩
   split<;>simp only[List.length_cons]<;>omega
theorem qhg{ts vs:List Expr}{kt kv:Nat}{pt pv:Pos}(cz:X.env.scope=C.sc)(h:ts.any (qiG C)=true):swappedStores [.Tuple ts kt pt] (.Tuple vs kv pv) X.env=pure none:=by
 obtain⟨a,ha,hn⟩:=List.any_eq_true.mp h;unfold swappedStores;dsimp only;split
 ·rfl
 split
 ·rfl
 rw[if_pos];refine Bool.or_eq_true_iff.mpr (.inl (bne_iff_ne.mpr (Vo (qql ⟨a,ha,?_⟩))));cases a with
 |Name x p=>
  have e:(X.env.kindOf x==some NameKind.local)=false:=by show(X.env.scope.names.lookup x==some NameKind.local)=false;rw[cz];have hn:(!decide (C.sc.names.lookup x=some .local))=true:=hn;simpa using hn
  simp only[e,Bool.false_and,Bool.false_eq_true,if_false]
 |_=>rfl
theorem qj7 {x y:Str} {px py pt pv:Pos} {a b:Expr} {kt kv:Nat} (cz:X.env.scope=C.sc) (hk:C.sc.kind= .function) (hp:[a,b].all qak=true) (hx:C.sc.names.lookup x=some .local) (hy:C.sc.names.lookup y=some .local) (hl:py.line=px.line) (hd:([x,y].eraseDups.length==[x,y].length)=true)
  (hf:[a,b].all (foldedForSure 8)=false) (hc:[a,b].all (constantsAlone 8)=false):swappedStores [.Tuple [.Name x px,.Name y py] kt pt] (.Tuple [a,b] kv pv) X.env=pure (some [x,y]):=by
 have e1:X.env.kindOf x=some .local:=by unfold Env.kindOf;rw[cz];exact hx
 have e2:X.env.kindOf y=some .local:=by unfold Env.kindOf;rw[cz];exact hy
 have hb:=qew cz hk;have s1: ∀p q,a≠.Starred p q:=qbH hp (by simp);have s2: ∀p q,b≠.Starred p q:=qbH hp (by simp);have hs:([a,b].any λ| .Starred .. =>true|_=>false)=false:=by rw[List.any_eq_false];intro e he h;have ne:=qbH hp he;cases e<;>first|(cases h;done)|exact absurd rfl (ne _ _)
 unfold swappedStores;simp only[List.head?_cons,Option.map_some,Option.getD_some,Expr.pos,hb,List.length_cons,List.length_nil,List.filterMap_cons,List.filterMap_nil,e1,e2,hl,beq_self_eq_true,Bool.and_self,if_true];have dP:([x,y].eraseDups.length != 2)=false:=by have:([x,y].eraseDups.length==2)=true:=hd;simp only[bne,this,Bool.not_true]
 rw[if_neg (by decide),if_neg (λh=>by have h':([a,b].any λ| .Starred .. =>true|_=>false)=true:=h;rw[hs] at h';cases h'),if_neg (λh=>by
  have h':(false||([x,y].eraseDups.length != 2))=true:=h;rw[dP] at h';cases h'),hf,hc]
 rfl
theorem qj6 {x y z:Str} {px py pz pt pv:Pos} {a b d:Expr} {kt kv:Nat} (cz:X.env.scope=C.sc) (hk:C.sc.kind= .function) (hp:[a,b,d].all qak=true) (hx:C.sc.names.lookup x=some .local) (hy:C.sc.names.lookup y=some .local) (hz:C.sc.names.lookup z=some .local) (hl:py.line=px.line) (cJ:pz.line=px.line) (hd:([x,y,z].eraseDups.length==[x,y,z].length)=true)
  (hf:[a,b,d].all (foldedForSure 8)=false) (hc:[a,b,d].all (constantsAlone 8)=false):swappedStores [.Tuple [.Name x px,.Name y py,.Name z pz] kt pt] (.Tuple [a,b,d] kv pv) X.env=pure (some [x,y,z]):=by
 have e1:X.env.kindOf x=some .local:=by unfold Env.kindOf;rw[cz];exact hx
 have e2:X.env.kindOf y=some .local:=by unfold Env.kindOf;rw[cz];exact hy
 have e3:X.env.kindOf z=some .local:=by unfold Env.kindOf;rw[cz];exact hz
 have hb:=qew cz hk;have st: ∀v:Expr,v∈[a,b,d]->(match v with|.Starred .. =>true|_=>false)=false:=λv hv=>by have:=qbH hp hv;cases v<;>first|rfl|exact absurd rfl (this _ _)
 have hs:([a,b,d].any λ| .Starred .. =>true|_=>false)=false:=by rw[List.any_eq_false];intro v hv;rw[st v hv];decide
 unfold swappedStores;simp only[List.head?_cons,Option.map_some,Option.getD_some,Expr.pos,hb,List.length_cons,List.length_nil,List.filterMap_cons,List.filterMap_nil,e1,e2,e3,hl,cJ,beq_self_eq_true,Bool.and_self,if_true];have dP:([x,y,z].eraseDups.length != 3)=false:=by have:([x,y,z].eraseDups.length==3)=true:=hd;simp only[bne,this,Bool.not_true]
 rw[if_neg (by decide),if_neg (λh=>by have h':([a,b,d].any λ| .Starred .. =>true|_=>false)=true:=h;rw[hs] at h';cases h'),if_neg (λh=>by
  have h':(false||([x,y,z].eraseDups.length != 3))=true:=h;rw[dP] at h';cases h'),hf,hc]
 rfl
theorem qed{α:Type}{l:List α}(h:l.length=2): ∃a b,l=[a,b]:=match l,h with|[a,b],_=>⟨a,b,rfl⟩
theorem qec{α:Type}{l:List α}(h:l.length=3): ∃a b c,l=[a,b,c]:=match l,h with|[a,b,c],_=>⟨a,b,c,rfl⟩
theorem qps{is:List Nat}{es:List CE}{ts vs:List Expr}{kt kv:Nat}{pt pv pos:Pos}{cs:CS}(c:Cok M g F k C X E)(he: ∀e,PE X e (tE M E (qad F (cE g n C e))))(h:qqY g n C ts vs=some cs):PS X (.Assign [.Tuple ts kt pt] (.Tuple vs kv pv) pos) (tS M E (qa3 F cs)):=by
 unfold qqY at h;split at h
 case isFalse=>cases h
 rename_i hc;simp only[Bool.and_eq_true,Bool.not_eq_true'] at hc;obtain⟨⟨⟨⟨⟨⟨h1,h2⟩,h3⟩,h4⟩,h5⟩,h6⟩,h7⟩:=hc;obtain⟨xs,e1,e2⟩:=bind_some h;split at e2
 case isFalse=>cases e2
 rename_i iW;rw[Bool.and_eq_true] at iW;obtain⟨hd,nd⟩:=iW;have nd:xs.Nodup:=of_decide_eq_true nd;obtain⟨is,e3,rfl⟩:=qal e2;obtain⟨l1,bL,ps,l2,rfl,ao⟩:=qiQ e1;obtain⟨l3,hN⟩:=qiY e3;have hv:=eq_of_beq h2;have args:PA X vs (tA M E (runA F (vs.map (cE g n C)))):=qaU (λe _=>he e) h3;have iS:X.N.Nodup:=by rw[c.N];exact c.nd
 have inj: ∀{i j:Nat} {x y:Str},X.N[i]? =some x->X.N[j]? =some y->x≠y->i≠j:=λe1 e2 n z=>by subst z;rw[e1] at e2;exact n (Option.some.inj e2)
 have lk: ∀x,x∈xs->X.env.scope.names.lookup x=some .local:=λx hx=>by rw[c.sc];exact bL x hx
 have h23:xs.length=2\/xs.length=3:=by rw[Bool.or_eq_true] at h1;rw[<-l1];exact h1.imp eq_of_beq eq_of_beq
 rw[l1] at hv;obtain⟨cm,_,_⟩:=c.cm h4
 rcases h23 with z2|z2
 ·obtain⟨x,y,rfl⟩:=qed z2;obtain⟨px,py,rfl⟩:=qed (l2.trans z2);obtain⟨i,j,rfl⟩:=qed (l3.trans z2);obtain⟨a,b,rfl⟩:=qed (hv.trans z2);have nx:X.N[i]? =some x:=by rw[c.N];exact hN 0 x i rfl rfl
  have ny:X.N[j]? =some y:=by rw[c.N];exact hN 1 y j rfl rfl
  have gP:py.line=px.line:=(ao py (by simp)).trans (ao px (by simp)).symm;refine PS.weak (qpb cm iS nx ny (inj nx ny (by simp at nd;exact nd)) (lk _ (by simp)) (lk _ (by simp)) args (qj7 c.sc (of_decide_eq_true h5) h3 (bL x (by simp)) (bL y (by simp)) gP hd h7 h6)) λD σ H ⟨ρ,μ,B,ev,w⟩=>⟨ρ,μ,B,ev,(Wn.bind w).mono λts m w1 us H1 B1 h1 g1 r1=> ?_⟩
  change Wn M E H B (KS M H B D) (match qbd [i,j] ts ρ with|some ai=>.ok (.nx ai) m|none=>.no) at w1
  split at w1
  ·rename_i ai er;have lt:=qgA er
   match ts,lt,er,r1 with
   |[t,u],_,er,r1=>obtain⟨v,v',rfl,a1,a2⟩:=qfM r1;cases er;exact⟨v,v',rfl,w1 _ H1 B1 (((ev.on h1 g1.le).set a1).set a2) g1⟩
  ·exact w1.elim
 ·obtain⟨x,y,z,rfl⟩:=qec z2;obtain⟨px,py,pz,rfl⟩:=qec (l2.trans z2);obtain⟨i,j,q,rfl⟩:=qec (l3.trans z2);obtain⟨a,b,d,rfl⟩:=qec (hv.trans z2);have nx:X.N[i]? =some x:=by rw[c.N];exact hN 0 x i rfl rfl
  have ny:X.N[j]? =some y:=by rw[c.N];exact hN 1 y j rfl rfl
  have nz:X.N[q]? =some z:=by rw[c.N];exact hN 2 z q rfl rfl
  have gP:py.line=px.line:=(ao py (by simp)).trans (ao px (by simp)).symm;have gO:pz.line=px.line:=(ao pz (by simp)).trans (ao px (by simp)).symm;have n3:x≠y/\x≠z/\y≠z:=by simp at nd;exact⟨nd.1.1,nd.1.2,nd.2⟩
  refine PS.weak (PL.ps_par3 cm iS nx ny nz (inj nx ny n3.1) (inj nx nz n3.2.1) (inj ny nz n3.2.2) (lk _ (by simp)) (lk _ (by simp)) (lk _ (by simp)) args (qj6 c.sc (of_decide_eq_true h5) h3 (bL x (by simp)) (bL y (by simp)) (bL z (by simp)) gP gO hd h7 h6)) λD σ H ⟨ρ,μ,B,ev,w⟩=>⟨ρ,μ,B,ev,(Wn.bind w).mono λts m w1 us H1 B1 h1 g1 r1=> ?_⟩
  change Wn M E H B (KS M H B D) (match qbd [i,j,q] ts ρ with|some ai=>.ok (.nx ai) m|none=>.no) at w1
  split at w1
  ·rename_i ai er;have lt:=qgA er
   match ts,lt,er,r1 with
   |[t,u,v0],_,er,r1=>obtain⟨v,v',v'',rfl,a1,a2,a3⟩:=qrR r1;cases er;exact⟨v,v',v'',rfl,w1 _ H1 B1 ((((ev.on h1 g1.le).set a1).set a2).set a3) g1⟩
  ·exact w1.elim
end
section
variable {M:Md}{g:Gx}{F:Fs}{k n:Nat}{C:Cc}{X:Cx}{E:XK}
theorem qje{st:Stmt}{s:CS}(h:PS X st (tS M E (qa3 F s))): ∀xs:List Str,PS X st (tS M E (qa3 F (qdH C xs s)))
 |[]=>h
 |x::xs=>by
  show PS X st (tS M E (qa3 F (match qhV C.N x with|some i=>.frz i (qdH C xs s)|none=>qdH C xs s)));split
  ·exact qqw _ (qje h xs)
  ·exact qje h xs
theorem qgw {elt:Expr} {gs:List Comprehension} {sc:Scope} {q p:Pos} {x:Str} {line:Nat} (c:Cok M g F k C X E) (hk:decide (C.sc.kind= .function)=true):
  swapsWith (.ListComp elt gs sc q) (some (.Name x p)) line X.env=pure (qdW C (.ListComp elt gs sc q) x p):=by
 show(pure (X.env.blockKind== .function&&X.env.kindOf x==some .local&&p.line==q.line&& !(sc.names.any λ(n,k)=>n==x&&(k== .local||k== .cell))):Sem Bool)=_;unfold qdW;rw[qew c.sc (of_decide_eq_true hk),hk];unfold Env.kindOf;rw[c.sc];have hb:(C.sc.names.lookup x==some NameKind.local)=decide (C.sc.names.lookup x=some .local):=by rw[Bool.eq_iff_iff];simp
 rw[hb];rfl
theorem qoW(c:Cok M g F k C X E){x:Str}{p pos:Pos}{e:Expr}:PS X (.Assign [.Name x p] e pos) (tS M E (qa3 F (qtr g n C x p e))):=by
 obtain⟨eo,hc⟩:=qjm M g F k n;unfold qtr;split
 case isFalse=>exact qaS
 rename_i hs;split
 ·exact qaS
 ·rename_i i hi;have hN:X.N[i]? =some x:=by rw[c.N];exact qbt hi
  have st:swapsWith e (some (.Name x p)) pos.line X.env=pure false->PS X (.Assign [.Name x p] e pos) (tS M E (qa3 F (.set i (cE g n C e)))):=λh=>
   qqt (by rw[c.N];exact c.nd) hN (by rw[c.sc];exact qoO hs) (eo.e C X E c e) h (by rw[c.sc];exact c.fn x hs)
  split
  ·split
   ·rename_i hk;split
    ·rename_i bG;refine(hc C X E c false rfl _ _ _ _ _ _).2 i x p pos rfl hN ?_ (by rw[qgw c hk,bG]);unfold qdW at bG;simp only[Bool.and_eq_true,decide_eq_true_eq] at bG;exact bG.1.1.2
    ·rename_i bG;exact st (by rw[qgw c hk];simp only[Bool.not_eq_true] at bG;rw[bG])
   ·exact qaS
  ·split
   ·rename_i h;exact st (qcv h)
   ·exact qaS
theorem qrQ(IH: ∀C X E,Cok M g F k C X E->∀ba,PSs X ba (tS M E (runSs F (cSs g n C ba))))(c:Cok M g F k C X E)(st:Stmt):PS X st (tS M E (qa3 F (cS1 g (n+1) C st))):=by
 obtain⟨eo,hc⟩:=qjm M g F k n;have ih:=eo.e C X E c;have hn: ∀e:Expr,PE X e (tE M E (qad F (cE g n C e))):=ih;cases st with
 |Return v p=>
  cases v with
  |none=>exact qnM
  |some e=>exact qqu (ih _)
 |Pass p=>exact qnN
 |Break p=>exact qk0
 |Continue p=>exact qgd
 |Expr e p=>
  show PS X _ (tS M E (qa3 F (if qgy e then .nx else if qdz e then .exp (cE g n C e) else .no)));split
  ·rename_i h;cases e with
   |Constant cc j q=>
    cases cc with
    |str s=>exact PS.weak qpf λD σ H ⟨ρ,μ,B,ev,w⟩=>w σ H B ev .refl
    |_=>cases h
   |_=>cases h
  ·split
   ·rename_i h;exact qnO (ih _) (qcv h)
   ·exact qaS
 |If t a b p=>exact qta (eo.t C X E c _) (IH C X E c _) (IH C X E c _)
 |For tg it b els p=>
  cases els with
  |nil=>
   show PS X _ (tS M E (qa3 F (if(C.top&&C.calm)&&qbN it then .for_ (cG C n tg) (cI g n C tg it) (cSs g n C b) else .no)));split
   ·rename_i h;simp only[Bool.and_eq_true] at h;exact qqx (c.tp h.1.1).ow (c.cm h.1.2).1 (eo.i C X E c _ _) (qib c n _) (IH C X E c _) (qd8 h.2)
   ·exact qaS
  |cons _ _=>exact qaS
 |Assign ts e p=>
  match ts with
  |[]=>exact qaS
  |t::_::_=>cases t<;>exact qaS
  |[t]=>
   cases t with
   |Name x px=>exact qoW c
   |Attribute o f q=>exact qqy c.K (λc' bM=>c.gf.fl _ c' bM) (ih _) (ih _) (qgx λ_ _ z=>by cases z)
   |Subscript o i q=>exact qqv (by have:=c.un;omega) (ih _) (ih _) (ih _) (qgx λ_ _ z=>by cases z)
   |Tuple ts kt pt=>
    have other:(∀vs kv pv,e≠.Tuple vs kv pv)->PS X (.Assign [.Tuple ts kt pt] e p) (tS M E (qa3 F (if qdz e then .asg (cG C n (.Tuple ts kt pt)) (cE g n C e) else .no))):=λbK=>by
     split
     ·rename_i h;refine ql4 (ih _) (qib c n _) (qcv (t:=some (.Tuple ts kt pt)) (l:=p.line) (env:=X.env) h) ?_ rfl;cases e<;>first|rfl|exact(bK _ _ _ rfl).elim
     ·exact qaS
    cases e with
    |Tuple vs kv pv=>
     show PS X _ (tS M E (qa3 F (if ts.any (qiG C) then .asg (cG C n (.Tuple ts kt pt)) (cE g n C (.Tuple vs kv pv)) else(qqY g n C ts vs).getD .no)));split
     ·rename_i hn;exact ql4 (ih _) (qib c n _) (qcv (e:=.Tuple vs kv pv) (t:=some (.Tuple ts kt pt)) (l:=p.line) (env:=X.env) rfl) (qhg c.sc hn) rfl
     cases hp:qqY g n C ts vs with
     |none=>exact qaS
     |some cs=>exact qps (is:=[]) (es:=[]) c ih hp
    |_=>exact other λ_ _ _ z=>by cases z
   |_=>exact qaS
 |Raise a b p=>
  cases a with
  |none=>exact qaS
  |some a=>
   cases a with
   |Call f es cT q=>
    cases f with
    |Name x np=>
     match es,cT,b with
     |[a],[],none=>
      show PS X _ (tS M E (qa3 F (if C.top&&qhE C x&&(g.ex.map (·.1)).contains x&&qgy a then .raise x else .no)));split
      ·rename_i h;simp only[Bool.and_eq_true] at h;obtain⟨⟨⟨h1,h2⟩,h3⟩,h4⟩:=h;obtain⟨gl,hd⟩:=c.gl h2;cases a with
       |Constant cc j q1=>
        cases cc with
        |str s=>exact qkZ ((c.tp h1).rs x s j np q1 q p h3 gl hd)
        |_=>cases h4
       |_=>cases h4
      ·exact qaS
     |[],_,_=>exact qaS
     |_::_::_,_,_=>exact qaS
     |[_],_::_,_=>exact qaS
     |[_],[],some _=>exact qaS
    |_=>exact qaS
   |_=>exact qaS
 |_=>exact qaS
theorem qtL: ∀n,(∀C X E,Cok M g F k C X E->∀st,PS X st (tS M E (qa3 F (cS g n C st))))/\(∀C X E,Cok M g F k C X E->∀st,PS X st (tS M E (qa3 F (cS1 g n C st))))/\∀C X E,Cok M g F k C X E->∀ba,PSs X ba (tS M E (runSs F (cSs g n C ba)))
 |0=>⟨λC X E c st=>qaS,λC X E c st=>qaS,λC X E c ba=>λ_ _ _ _ _ _ ⟨_,_,_,_,w⟩=>w.elim⟩
 |n+1=>by
  obtain⟨h1,h2,h3⟩:=qtL n;refine⟨λC X E c st=>qje (h2 C X E c st) _,λC X E c st=>qrQ h3 c st,λC X E c ba=> ?_⟩;show PSs X ba (tS M E (runSs F (ba.map (cS g n C))))
  induction ba with
  |nil=>exact qnL
  |cons st ba ih=>exact qkY (h1 C X E c st) ih
end
noncomputable def LmK(M:Md)(g:Gx)(mg:Str->Option Value)(base:Heap)(q:Str)(fd:FuncData):Prop:=g.lm.contains q=true->∃c P,fd.code= .ref c/\W.CodeHd base c P/\qfD mg base/\(∀H,M.G.P H->qgs P (q++(".<locals>." :Str)++("<lambda>" :Str)) H)/\∀H H2,M.G.P H->qfB P H H2->(∀b,H b≠none->H2 b≠none)->qgs P (q++(".<locals>." :Str)++("<lambda>" :Str)) H2->M.G.P H2
structure Kf(M:Md)(g:Gx)(P:Program)(w:World)(mg:Str->Option Value)(base:Heap):Prop where
 fn: ∀(x:Str) (i:Nat) (st:Stmt),g.fi x=some i->x.cps.contains 46=false->g.fs[i]? =some (x,st)->∃f fd,Fun M.K x x st f fd/\mg x=some (.ref f)/\LmK M g mg base x fd
 nb: ∀x,qcC.contains x=true->mg x=none
 cs: ∀x t,g.cs.lookup x=some t->∃v u,mg x=some u/\RelV v u/\∀B,Rep M.K B t v
 ex: ∀c bs,(c,bs)∈g.ex->mg c=some (.ref (clA M.K c))/\∃bm,qdf base (clA M.K c) bm/\∀x∈bs,(g.ex.map (·.1)).contains x=true->(Value.ref (clA M.K c)::bm).contains (.ref (clA M.K x))=true
 mt: ∀(c m:Str) (i:Nat) (st:Stmt),(g.cl.map (·.1)).contains c=true->g.fi (qaP c m)=some i->g.fs[i]? =some (qaP c m,st)->∃f fd,Fun M.K m (qaP c m) st f fd/\Cls M.K (clA M.K c)/\qq4 M.K (clA M.K c) m f/\LmK M g mg base (qaP c m) fd
 mkc: ∀c,(g.cl.map (·.1)).contains c=true->mg c=some (.ref (clA M.K c))/\W.makesIn M.K (clA M.K c)=true/\W.keepIn M.K (.ref (clA M.K c))=true
 fl: ∀f c,(g.fls f).contains c=true->Cls M.K (clA M.K c)/\qbb M.K (clA M.K c) f
 ok: ∀p∈g.fs,qfh p.2=true
 dt: ∀D tbl,g.dt.lookup D=some tbl->PL.TopT M.K mg w D tbl
 td:g.wd.isEmpty=false->∃st fT fC CA fdT fdC bmA wa,Td M P w mg base (λc=>g.wd.lookup c) st fT fC CA fdT fdC bmA wa
theorem qnG{g:Gx}{x:Str}{i:Nat}(h:g.fi x=some i): ∃st,g.fs[i]? =some (x,st):=by have:=qbt h;rw[List.getElem?_map] at this;obtain⟨p,e1,e2⟩:=qal this;exact⟨p.2,by rw[e1,<-e2]⟩
section
variable {M:Md}{g:Gx}{P:Program}{w:World}{mg:Str->Option Value}{base:Heap}{st:Stmt}{f:Addr}{fd:FuncData}{x q:Str}{k i:Nat}
structure FnB(st:Stmt):Prop where
 sc:qbE (qe1 st) (qfE st) (qab st)
 po:(qai st).posonlyargs=[]
 va:(qai st).vararg=none
 ko:(qai st).kwonlyargs=[]
 kw:(qai st).kwarg=none
theorem qjj(h:qfh st=true):FnB st:=by
 unfold qfh at h;simp only[Bool.and_eq_true,decide_eq_true_eq,Bool.not_eq_true',Option.isNone_iff_eq_none,List.length_eq_zero_iff] at h;obtain⟨⟨⟨⟨⟨⟨⟨⟨⟨⟨⟨h1,h2⟩,h3⟩,h4⟩,h5⟩,h6⟩,h7⟩,h8⟩,h9⟩,h10⟩,h11⟩,h12⟩:=h;refine⟨⟨h1,h2,h3,h4,?_,λy hy=> ?_,λy hy=> ?_⟩,h7,h8,h9,h11⟩
 ·unfold qe1;exact List.take_left
 ·exact qpS (List.all_eq_true.mp h5 y hy)
 ·exact of_decide_eq_true (List.all_eq_true.mp h6 y hy)
theorem qlA(F:Fun M.K x q st f fd)(h:FnB st):qaO M.K fd (qfE st) []:=F.binds λkV doc pm an cdv ct us hl=>by
 have nd:(qfE st).Nodup:=by have:=h.sc.nd;unfold qe1 at this;exact(List.nodup_append.mp this).1
 exact qb2 (fd:=W.fnOf x q (qai st) (qam st) (qab st) .none kV doc pm an cdv ct) h.po h.va h.ko h.kw rfl nd hl
theorem qqU {lam:Bool} (gf:Gf M g F k P w mg base) (h:FnB st) {qual:Str} {cdv:Value} (dF:lam=true->∃c P,cdv= .ref c/\W.CodeHd base c P/\qfD mg base/\(∀H,M.G.P H->qgs P (qual++(".<locals>." :Str)++("<lambda>" :Str)) H)/\∀H H2,M.G.P H->qfB P H H2->(∀b,H b≠none->H2 b≠none)->qgs P (qual++(".<locals>." :Str)++("<lambda>" :Str)) H2->M.G.P H2) {A:Around} {outer:List Env} {s:Shared} {H:Hp} {E:XK} (hr:qaX (8*k+7) (A.deeper (PyProof.Rows.envOfC qual (qab st) s.heap.objs.size f cdv))):
  Cok M g F k (qtq lam st) (qeo (CXE P w) P w M.K mg base (qe1 st) qual (qab st) f cdv A outer s H E) E:=by
 refine⟨gf,rfl,rfl,h.sc.nd,rfl,λ_ _=>.inl rfl,PL.hu8 hr,λ_=>⟨rfl,hr.mono (by omega),PL.passI⟩,λ_=>⟨rfl,rfl,rfl,λa s' h=>Vc h (λ_ _ x=>x) λ_ _ x=>x.elim,PassesOwn.leaving,λx msg j np p1 cpos pos hx gl hd=> ?_⟩,λz=> ?_,λ_ _=>rfl⟩
 ·obtain⟨bs,hb⟩:=qs6 hx;obtain⟨m,bm,e,_⟩:=gf.ex x bs hb;exact qkf e m gl hd
 ·obtain⟨c,P,e1,e2,e3,e4,e5⟩:=dF z;exact⟨hr.mono (by omega),c,P,_,e1,e2,e3,rfl,e4,e5⟩
theorem qqj(lk:LmK M g mg base q fd)(gf:Gf M g (TTf g k) k P w mg base)(F:Fun M.K x q st f fd)(hb:qfh st=true)(e:g.fs[i]? =some (q,st)):qcD P w M.K mg base (CXE P w) (8*(k+1)) f fd (qfE st) (spF M (TTf g (k+1) i)):=by
 have B:=qjj hb;have e1:TTf g (k+1) i=fnR (g.kp.contains q) (qfE st).length (qe1 st).length (runSs (TTf g k) (cSs g 60 (qtq (g.lm.contains q) st) (qam st))):=by show(match g.fs[i]? with|some p=>(cFn g p).run (TTf g k)|none=>λ_ _=>.no)=_;rw[e];show(cFn g (q,st)).run (TTf g k)=_;unfold cFn;rw[if_pos hb];rfl
 rw[e1];exact qs2 (k:=8*k+7) F B.sc λcdv hc A outer s H E hr=>(qtL 60).2.2 _ _ _ (qqU gf B (λz=>by rw[<-hc];exact lk z) hr) _
theorem qnF{ps:List Str}:qcD P w M.K mg base (CXE P w) 0 f fd ps (spF M λ_ _=>.no):=⟨λvs H Q E ⟨_,_,_,_,_,z⟩=>z.elim,λA outer s H args us vs Q E _ _ _ _ ⟨_,_,_,_,_,z⟩=>z.elim⟩
theorem qlZ(kf:Kf M g P w mg base): ∀k,Gf M g (TTf g k) k P w mg base
 |k=>by
  have ih: ∀{x q:Str} {st:Stmt} {f:Addr} {fd:FuncData} {i:Nat},Fun M.K x q st f fd->LmK M g mg base q fd->g.fs[i]? =some (q,st)->qcD P w M.K mg base (CXE P w) (8*k) f fd (qfE st) (spF M (TTf g k i))/\qaO M.K fd (qfE st) []:=λ{x q st f fd i} F lk e=>by
   have hb:=kf.ok _ (Vu e);refine⟨?_,qlA F (qjj hb)⟩;cases k with
   |zero=>exact qnF
   |succ k=>exact qqj lk (qlZ kf k) F hb e
  refine⟨λx i hi hd=> ?_,kf.nb,kf.cs,kf.ex,λm c i hm=> ?_,λc i hc hi=> ?_,kf.fl,kf.dt,kf.td⟩
  ·obtain⟨st,e⟩:=qnG hi;obtain⟨f,fd,F,m,lk⟩:=kf.fn x i st hi hd e;obtain⟨a,b⟩:=ih F lk e;exact⟨f,fd,_,m,F.kp,b,a⟩
  ·obtain⟨q,hq,e⟩:=List.mem_filterMap.mp hm;obtain⟨i',e1,e2⟩:=qal e;cases e2;obtain⟨st,e3⟩:=qnG e1;obtain⟨f,fd,F,c1,m1,lk⟩:=kf.mt q.1 m i st (by rw[List.contains_iff_mem];exact List.mem_map.mpr ⟨q,hq,rfl⟩) e1 e3;obtain⟨a,b⟩:=ih F lk e3;exact⟨f,fd,_,c1,m1,a,b⟩
  ·obtain⟨st,e3⟩:=qnG hi;obtain⟨f,fd,F,c1,m1,lk⟩:=kf.mt c "__init__" i st hc hi e3;obtain⟨a,b⟩:=ih F lk e3;obtain⟨z1,z2,z3⟩:=kf.mkc c hc;exact⟨f,fd,_,z1,⟨z2,m1.at_,m1.fn,z3⟩,a,b⟩
end
open HD
noncomputable def qfV(x:Str):Bool:= !x.cps.contains 46
noncomputable def Gx.tb(g:Gx):List (Str×Stmt):=g.fs.filter λp=>qfV p.1
noncomputable def mOf(c q:Str):Option Str:=if(qaP c "").cps.toList.isPrefixOf q.cps.toList then some ⟨(q.cps.toList.drop (qaP c "").cps.toList.length).toArray⟩ else none
noncomputable def Gx.mtl(g:Gx):List (Str×Str×Str×Stmt):=g.cl.flatMap λc=>g.fs.filterMap λp=>(mOf c.1 p.1).map λm=>(c.1,m,p.1,p.2)
noncomputable def qt7(K:W.Frag)(c:Str×T):Bool:=match W.nsIn K mainGlobals c.1,c.2 with
 |some (some (.int n _)),.int m=>n==m
 |some (some (.str n _)),.str m=>n==m
 |_,_=>false
noncomputable def bmX(K:W.Frag)(bs:List Str):List Value:=(bs.tail.filter λx=>x != ("ValueError" :Str)).map (λx=>Value.ref (clA K x))++bmV
noncomputable def qt6(K:W.Frag)(ns:List Str)(c:Str×List Str):Bool:=nsC K c.1&&qcZ K (clA K c.1) (bmX K c.2)&&c.2.all λx=> !ns.contains x||(Value.ref (clA K c.1)::bmX K c.2).contains (.ref (clA K x))
theorem qmB{a b:Str}(h:a.cps.toList=b.cps.toList):a=b:=by cases a;cases b;simp only[Str.mk.injEq];exact Array.toList_inj.mp h
theorem qaQ(a b:Str):(a++b).cps.toList=a.cps.toList++b.cps.toList:=by show(a.cps++b.cps).toList=_;simp
theorem qhw(c m:Str):mOf c (qaP c m)=some m:=by
 have e:(qaP c m).cps.toList=(qaP c "").cps.toList++m.cps.toList:=by unfold qaP;rw[qaQ,qaQ];show _=(c++("." :Str)++("" :Str)).cps.toList++_;rw[qaQ];show _=(_++([]:List Nat))++_;rw[List.append_nil,qaQ]
 unfold mOf;rw[e];rw[if_pos (by simp)]
 congr 1
 exact qmB (by simp)
noncomputable def gQ(m:List (Addr×Str)):Gam where
 P:=λH=> ∀p∈m,qgs p.1 p.2 H
 st:=λH H' k h p hp=>by obtain⟨ps,h1,h2,h3⟩:=h p hp;refine⟨ps,k _ _ h1 (λ_ z=>by cases z) (λ_ z=>by cases z) (λ_ z=>by cases z) (λ_ _ _ z=>by cases z),h2,λpos v e=> ?_⟩;obtain⟨c,e1,e2⟩:=h3 pos v e;exact⟨c,e1,k _ _ e2 (λ_ z=>by cases z) (λ_ z=>by cases z) (λ_ z=>by cases z) (λ_ _ _ z=>by cases z)⟩
theorem qqa{m:List (Addr×Str)}{P:Addr}{qual:Str}(h:(P,qual)∈m)(nd:(m.map (·.1)).Nodup): ∀H H2,(gQ m).P H->qfB P H H2->qgs P qual H2->(gQ m).P H2:=λH H2 g same t p hp=>by
 obtain⟨ps,hP,_⟩:=g _ h;by_cases e:p.1=P
 ·have:=PL.nodup_fst nd hp h e;subst this;exact t
 ·exact PL.tabq_same (g p hp) hP e same
theorem qoQ{K:W.Frag}{qz:List Str}{Ts:List Addr}{H:Hp}{a:Addr}{ns:List Int}{t:List T->Mu->R T}(ht: ∃m,t [.scr ns] ⟨[],[]⟩= .ok (.bl true) m)(hO:qg7 Ts H)(hS:SqL K H a (ns.map V.int)):spF ⟨K,gQ (Ts.zip qz)⟩ t [.ref a] H (λv _=>v= .bl true) λ_ _ _=>False:=by
 obtain⟨m,ht⟩:=ht;have tb:(gQ (Ts.zip qz)).P H:=λp hp=>qrA hO.1 hp;have fin: ∀B:Hp,(∀a o,B a=some o->H a=some o)->(∀a ps,B a≠some (.tbl ps))->SqL K B a (ns.map V.int)->spF ⟨K,gQ (Ts.zip qz)⟩ t [.ref a] H (λv _=>v= .bl true) λ_ _ _=>False:=λB le bt sq=>by
  refine⟨⟨[],[]⟩,⟨B,λ_=>none⟩,[.scr ns],⟨le,bt,tb,(λk c e=>by simp at e),(λ_ _ _ e=>by cases e),(λ_ _ e=>by cases e),(λk c e=>by simp at e),λ_ h=>nomatch h⟩,.cons (by unfold Rep;exact⟨a,rfl,sq⟩) .nil,?_⟩;rw[ht]
  exactλv H' B' _ _ r=>qbO r
 have cut: ∀{o:HO},H a=some o->(∀ps,o≠.tbl ps)->SqL K (λb=>if b=a then H a else none) a (ns.map V.int)->spF ⟨K,gQ (Ts.zip qz)⟩ t [.ref a] H (λv _=>v= .bl true) λ_ _ _=>False:=λ{o} ho n sq=>
  fin _ (λb o z=>by
   by_cases c:b=a
   ·subst c;simpa using z
   ·simp[c] at z) (λb ps z=>by
   by_cases c:b=a
   ·subst c;simp[ho] at z;exact n ps z
   ·simp[c] at z) sq
 rcases hS with(hS|⟨o,hS⟩)|hS
 ·exact cut hS (λps z=>by cases z) (.inl (.inl (by simp[hS])))
 ·exact cut hS (λps z=>by cases z) (.inl (.inr ⟨o,by simp[hS]⟩))
 ·exact fin (λ_=>none) (λ_ _ z=>by cases z) (λ_ _ z=>by cases z) (.inr hS)
noncomputable def lq(q:Str):Str:=q++(".<locals>." :Str)++("<lambda>" :Str)
structure qtv(K:W.Frag)(g:Gx)(w:World):Prop where
 h1:(g.tb.all λp=>okD K p.1)=true
 h2:g.tb.map (λp=>qnH K p.1)=g.tb.map λp=>(qnH K p.1).map (due p.1 p.2)
 h3:g.cs.all (qt7 K)=true
 h4:qcC.all (okN K)=true
 h5:HD.okT K g.lm=true
 h6:g.ex.all (qt6 K (g.ex.map (·.1)))=true
 h7:g.cl.all (λc=>qst K c.1 c.2)=true
 h8:(g.mtl.all λq=>okM K (clA K q.1) q.2.1 q.2.2.1)=true
 h10:(g.dt.all λp=>PL.topB K p.1 p.2)=true
 h11:g.dt.map (λp=>(PL.esOf K p.1).map λes=>es.map (·.hash))=g.dt.map λp=>some (p.2.map λq=>PyData.keyHash w.params q.1)
 h9:g.mtl.map (λq=>qpR K (clA K q.1) q.2.1)=g.mtl.map λq=>(qpR K (clA K q.1) q.2.1).map (qs9 q.2.1 q.2.2.1 q.2.2.2)
theorem qsD {K:W.Frag} {h base:Heap} {g:Gx} {P:Program} {w:World} {mg:Str->Option Value} (X:K.In h) (G:h.Ns mainGlobals mg) (S:qtv K g w) (hok:(g.fs.all λp=>qfh p.2)=true) (dF:g.lm.all qfV=true) (KI:K.In base) (hb:qfD mg base)
  (hC: ∀y∈g.lm,∃c,W.tabIn K y=some (c,tOf K y)/\W.CodeHd base c (tOf K y)) (nd:(g.lm.map (tOf K)).Nodup)
  (td:g.wd.isEmpty=false->∃st fT fC CA fdT fdC bmA wa,Td ⟨K,gQ ((g.lm.map (tOf K)).zip (g.lm.map lq))⟩ P w mg base (λc=>g.wd.lookup c) st fT fC CA fdT fdC bmA wa):
  Kf ⟨K,gQ ((g.lm.map (tOf K)).zip (g.lm.map lq))⟩ g P w mg base:=by
 have D:=qju X G S.h1 S.h2;have iw: ∀c fs,(c,fs)∈g.cl->mg c=some (.ref (clA K c))/\Cls K (clA K c)/\W.makesIn K (clA K c)=true/\W.keepIn K (.ref (clA K c))=true/\∀f∈fs,qbb K (clA K c) f:=λc fs hm=>qtp X G (List.all_eq_true.mp S.h7 _ hm);have jk: ∀c,(g.cl.map (·.1)).contains c=true->∃fs,(c,fs)∈g.cl:=λc hc=>by rw[List.contains_iff_mem] at hc;obtain⟨p,hp,rfl⟩:=List.mem_map.mp hc;exact⟨p.2,hp⟩
 have mem: ∀y∈g.lm,(tOf K y,lq y)∈(g.lm.map (tOf K)).zip (g.lm.map lq):=λy hy=>by obtain⟨j,hj,rfl⟩:=List.mem_iff_getElem.mp hy;refine List.mem_iff_getElem?.mpr ⟨j,?_⟩;rw[List.getElem?_zip_eq_some];simp[hj]
 have nd2:(((g.lm.map (tOf K)).zip (g.lm.map lq)).map (·.1)).Nodup:=by
  have:((g.lm.map (tOf K)).zip (g.lm.map lq)).map (·.1)=g.lm.map (tOf K):=by rw[List.map_fst_zip (by simp)]
  rw[this];exact nd
 refine⟨λx i st hi hd e=> ?_,λx hx=>qnk X G S.h4 x (by rwa [List.contains_iff_mem] at hx),λx t hx=> ?_,λc bs hm=> ?_,λc m i st hc hi e=> ?_,λc hc=> ?_,λf c hf=> ?_,λp hp=>List.all_eq_true.mp hok p hp,λD tbl hD=> ?_,td⟩
 ·have hm:(x,st)∈g.tb:=List.mem_filter.mpr ⟨Vu e,by unfold qfV;rw[hd];rfl⟩;obtain⟨j,hj⟩:=List.mem_iff_getElem?.mp hm;obtain⟨f,oc,od,osl,kV,doc,pm,an,cdv,ct,lk,aH,kp,m,n0⟩:=D j _ _ hj;refine⟨f,_,qfd lk aH kp,m,λhl=> ?_⟩;have eV:x∈g.lm:=by rwa [List.contains_iff_mem] at hl
  obtain⟨c,tc,hc⟩:=hC x eV;refine⟨c,tOf K x,?_,hc,hb,λH gp=>gp _ (mem x eV),λH H2 gp same _ t=>qqa (mem x eV) nd2 H H2 gp same t⟩;show cdv= .ref c;unfold W.tabIn at tc;rw[n0] at tc;simp only[lk] at tc;cases cdv with
  |ref c'=>
   dsimp only at tc;split at tc
   ·split at tc
    ·cases tc;rfl
    ·cases tc
   ·cases tc
  |_=>cases tc
 ·have hm:(x,t)∈g.cs:=by
   have go: ∀l:List (Str×T),l.lookup x=some t->(x,t)∈l:=λl=>by
    induction l with
    |nil=>intro h;cases h
    |cons p l ih=>
     intro h;obtain⟨y,u⟩:=p;rw[List.lookup_cons] at h;cases q:x==y with
     |true=>rw[q] at h;cases h;rw[eq_of_beq q];exact Vk
     |false=>rw[q] at h;exact Vl _ (ih h)
   exact go _ hx
  have a:=List.all_eq_true.mp S.h3 _ hm;unfold qt7 at a;split at a
  ·rename_i n tk m e1 e2;have e2:t= .int m:=e2;have:n=m:=by simpa using a
   subst this e2;exact⟨.int n,_,W.mg_of X G e1,⟨_,rfl⟩,λB=>qaR⟩
  ·rename_i n tk m e1 e2;have e2:t= .str m:=e2;have:n=m:=by simpa using a
   subst this e2;exact⟨.str n,_,W.mg_of X G e1,⟨_,rfl⟩,λB=>qcm⟩
  ·cases a
 ·have a:=List.all_eq_true.mp S.h6 _ hm;unfold qt6 at a;simp only[Bool.and_eq_true,List.all_eq_true,Bool.or_eq_true,Bool.not_eq_true'] at a;obtain⟨⟨a1,a2⟩,a3⟩:=a;refine⟨qiF X G a1,_,qcd KI a2,λx hx hn=> ?_⟩
  rcases a3 x hx with z|z
  ·rw[hn] at z;cases z
  ·exact z
 ·obtain⟨fs,hm⟩:=jk c hc;have hq:(c,m,qaP c m,st)∈g.mtl:=List.mem_flatMap.mpr ⟨_,hm,List.mem_filterMap.mpr ⟨_,Vu e,by rw[qhw];rfl⟩⟩;obtain⟨j,hj⟩:=List.mem_iff_getElem?.mp hq;have e9:=congrArg (λl=>l[j]?) S.h9;simp only[List.getElem?_map,hj,Option.map_some] at e9;obtain⟨f,oc,od,osl,kV,doc,pm,an,cdv,ct,lk,aH,M1⟩:=qqC (List.all_eq_true.mp S.h8 _ hq) (Option.some.inj e9);refine⟨f,_,qfd lk aH M1.kp,(iw c fs hm).2.1,M1,λhl=> ?_⟩;have:=List.all_eq_true.mp dF _ (by rwa [List.contains_iff_mem] at hl);exfalso;unfold qfV at this;have dt:(qaP c m).cps.contains 46=true:=by rw[Array.contains_iff_mem,<-Array.mem_toList_iff];unfold qaP;rw[qaQ,qaQ];exact Vs _ (Vt _ (by decide))
  rw[dt] at this;cases this
 ·obtain⟨fs,hm⟩:=jk c hc;obtain⟨z1,z2,z3,z4,z5⟩:=iw c fs hm;exact⟨z1,z3,z4⟩
 ·rw[List.contains_iff_mem] at hf;obtain⟨p,hp,rfl⟩:=List.mem_map.mp hf;obtain⟨eS,cA⟩:=List.mem_filter.mp hp;obtain⟨z1,z2,z3,z4,z5⟩:=iw p.1 p.2 eS;exact⟨z2,z5 f (by simpa using cA)⟩
 ·have hm:(D,tbl)∈g.dt:=by
   have go: ∀l:List (Str×List (Str×Str)),l.lookup D=some tbl->(D,tbl)∈l:=λl=>by
    induction l with
    |nil=>intro h;cases h
    |cons p l ih=>
     intro h;obtain⟨y,u⟩:=p;rw[List.lookup_cons] at h;cases q:D==y with
     |true=>rw[q] at h;cases h;rw[eq_of_beq q];exact Vk
     |false=>rw[q] at h;exact Vl _ (ih h)
   exact go _ hD
  obtain⟨j,hj⟩:=List.mem_iff_getElem?.mp hm;have e:=congrArg (λl=>l[j]?) S.h11;simp only[List.getElem?_map,hj,Option.map_some] at e;exact PL.topT_of X G (List.all_eq_true.mp S.h10 _ hm) (Option.some.inj e)
theorem qrs {l:W.OpenLaw} {q:Program} {loose:List Str} {XP:(Str->Option Value)->Heap->Prop} {YP:World->Heap->Prop} {d:DefRec} {K:Params->W.Frag} {g:Gx} {kk i:Nat} {sl:Stmt}
  (hn:l.most=some 63) (dO:d.params.defaults=[]) (hd:d.name= "law") (hY: ∀(w:World) (h:Heap),YP w h->(K w.params).In h) (a0: ∀y∈g.lm,∃dx,(PyProof.Rows.recsOf q).find? (λe=>e.name==y)=some dx) (hR:qaX (8*(kk+1)) callerA)
  (S: ∀w:World,qtv (K w.params) g w) (hok:(g.fs.all λp=>qfh p.2)=true) (dF:g.lm.all qfV=true) (hi:g.fi "law" =some i) (hs:g.fs[i]? =some (("law" :Str),sl)) (hp:qfE sl=[("_law_script" :Str)])
  (td: ∀(w:World) (mg:Str->Option Value) (h base:Heap),(K w.params).In h->h.Ns mainGlobals mg->(K w.params).In base->g.wd.isEmpty=false->∃st fT fC CA fdT fdC bmA wa,Td ⟨K w.params,gQ ((g.lm.map (tOf (K w.params))).zip (g.lm.map lq))⟩ l.prog w mg base (λc=>g.wd.lookup c) st fT fC CA fdT fdC bmA wa)
  (hT: ∀ns:List Int,ns.length<=63->∃m,TTf g (kk+1) i [.scr ns] ⟨[],[]⟩= .ok (.bl true) m):
  W.WalkO q loose XP YP l.row.toRowW d [] (λf vs=>PySem.call f vs):=by
 refine L2.walk_ofTs (n:=63) (k:=8*(kk+1)) (x:= "_law_script") (ys:=g.lm) (CX:=λw=>CXE l.prog w) (sp:=λw aC=>spF ⟨K w.params,gQ ((aC.map (·.2)).zip (g.lm.map lq))⟩ (TTf g (kk+1) i)) hn (by decide) dO hR hY a0 ?_ (λ_ _ _ a ns hl hO hS=>qoQ (hT ns hl) hO hS) λ_ _ _ _ _ ⟨_,_,_,_,_,_,_,z⟩=>z;intro w mg fa h X G hm;have D:=qju X G (S w).h1 (S w).h2;have hm0:(("law" :Str),sl)∈g.tb:=List.mem_filter.mpr ⟨Vu hs,by show qfV ("law" :Str)=true;decide+kernel⟩;obtain⟨j,hj⟩:=List.mem_iff_getElem?.mp hm0;obtain⟨f,oc,od,osl,kV,doc,pm,an,cdv,ct,lk,aH,kp,m,n0⟩:=D j _ _ hj;rw[hd] at hm;have e:=hm.symm.trans m;cases e;obtain⟨t1,t2,nd⟩:=qli (S w).h5;have em:(qgj (K w.params) g.lm).map (·.2)=g.lm.map (tOf (K w.params)):=by unfold qgj;rw[List.map_map];rfl
 have hb:=List.all_eq_true.mp hok _ (Vu hs);have B:=qjj hb;refine⟨W.fnOf "law" "law" (qai sl) (qam sl) (qab sl) .none kV doc pm an cdv ct,qgj (K w.params) g.lm,t1,t2,λs u=>.of_eq ?_,λbase KI _ hC hZ=> ?_⟩
 ·have nd:(qfE sl).Nodup:=by rw[hp];simp
  have hu:[u].length=(qfE sl).length:=by rw[hp];rfl
  have hbs:=qb2 (fd:=W.fnOf "law" "law" (qai sl) (qam sl) (qab sl) .none kV doc pm an cdv ct) (us:=[u]) B.po B.va B.ko B.kw rfl nd hu;rw[hbs];show pure ((qfE sl).zip [u])=_;rw[hp];rfl
 ·rw[em];have kf:=qsD (P:=l.prog) (w:=w) X G (S w) hok dF KI hZ (λy hy=>by
   have e1:some ((W.tabIn (K w.params) y).getD (0,0))=W.tabIn (K w.params) y:=by obtain⟨j,hj,ej⟩:=List.mem_iff_getElem.mp hy;have:=congrArg (λl=>l[j]?) t1;unfold qgj at this;simp only[List.getElem?_map,List.getElem?_eq_getElem hj,ej,Option.map_some] at this;exact(Option.some.inj this).symm
   exact⟨((W.tabIn (K w.params) y).getD (0,0)).1,e1.symm,hC _ (List.mem_map.mpr ⟨y,hy,rfl⟩)⟩) nd (td w mg h base X G KI)
  obtain⟨f',fd',F',m',lk'⟩:=kf.fn "law" i sl hi (by decide+kernel) hs;have ef:f'=fa:=by rw[m] at m';cases m';rfl
  subst ef;have F:=qfd lk aH kp;obtain⟨oc2,od2,iM,fq,iG,jo,fv,jj,gi,rfl,gk,_⟩:=F'.ex;have e2:=lk.symm.trans gk;have e3:W.fnOf "law" "law" (qai sl) (qam sl) (qab sl) .none kV doc pm an cdv ct=W.fnOf "law" "law" (qai sl) (qam sl) (qab sl) .none iM fq iG jo fv jj:=by
   injection e2 with e2
   injection e2 with _ _ e2
   injection e2
  rw[e3];have:=qqj (i:=i) lk' (qlZ kf kk) F' hb hs;rw[hp] at this;exact this
open PL
theorem qrx {P:Program} {w:World} {K:W.Frag} {mg:Str->Option Value} {base:Heap} {st st2:Stmt} {wd:Str->Option Str} (M:Md) (hM:M.K=K) (Z:qoB K mg) (KI:K.In base) (T:qfA st) (D:Df K mg "_law_told" st) (D2:Df K mg "_law_class" st2)
  (hb: ∀(kV doc pm:Value) (an:Option Addr) (cdv ct:Value) (us:List Value),us.length=1->bindArgs (W.fnOf "_law_told" "_law_told" (qai st) (qam st) (qab st) .none kV doc pm an cdv ct) ⟨us,[]⟩=pure ((["_law_deed"]:List Str).zip us))
  (dS: ∀(kV doc pm:Value) (an:Option Addr) (cdv ct:Value) (us:List Value),us.length=1->bindArgs (W.fnOf "_law_class" "_law_class" (qai st2) (qam st2) (qab st2) .none kV doc pm an cdv ct) ⟨us,[]⟩=pure ((["_law_kept"]:List Str).zip us))
  (ok: ∀{f:Addr} {fd:FuncData},Fun K "_law_class" "_law_class" st2 f fd->FnN P w K mg base 1 f fd ["_law_kept"] (qhi base (qmj K))) (hw: ∀c x,wd c=some x->qrv c=some x):
  ∃st fT fC CA fdT fdC bmA wa,Td M P w mg base wd st fT fC CA fdT fdC bmA wa:=by obtain⟨f,oc,od,osl,kV,doc,pm,an,cdv,ct,lk,aH,kp,m, -⟩:=D;have F:=qfd lk aH kp;obtain⟨f2,oc2,od2,gi,iM,fq,iG,jo,fv,jj,gk,hU,fK,m2, -⟩:=D2;have F2:=qfd gk hU fK;subst hM;refine⟨st,_,_,_,_,_,_,qmj M.K,T,F,m,F.binds hb,Z.a,qcd KI Z.ea,ok F2,m2,fK,F2.binds dS,λc x h=> ?_⟩;obtain⟨j,hj,rfl,rfl⟩:=qjX (hw c x h);exact⟨_,qcd KI (Z.e j hj),by simp,qmi Z hj⟩
theorem walkT {l:W.OpenLaw} {q:Program} {loose:List Str} {XP:(Str->Option Value)->Heap->Prop} {YP:World->Heap->Prop} {d:DefRec} {K:Params->W.Frag} {g:Gx} {kk i i1 i2:Nat} {sl st st2:Stmt}
  (hn:l.most=some 63) (dO:d.params.defaults=[]) (hd:d.name= "law") (hY: ∀(w:World) (h:Heap),YP w h->(K w.params).In h) (a0: ∀y∈g.lm,∃dx,(PyProof.Rows.recsOf q).find? (λe=>e.name==y)=some dx) (hR:qaX (8*(kk+1)) callerA)
  (S: ∀w:World,qtv (K w.params) g w) (hok:(g.fs.all λp=>qfh p.2)=true) (dF:g.lm.all qfV=true) (hi:g.fi "law" =some i) (hs:g.fs[i]? =some (("law" :Str),sl)) (hp:qfE sl=[("_law_script" :Str)])
  (z: ∀w:World,exB (K w.params)=true) (v: ∀w:World,okN (K w.params) "ValueError" =true) (h1:g.tb[i1]? =some (("_law_told" :Str),st)) (h2:g.tb[i2]? =some (("_law_class" :Str),st2)) (T:qfA st)
  (hb: ∀(kV doc pm:Value) (an:Option Addr) (cdv ct:Value) (us:List Value),us.length=1->bindArgs (W.fnOf "_law_told" "_law_told" (qai st) (qam st) (qab st) .none kV doc pm an cdv ct) ⟨us,[]⟩=pure ((["_law_deed"]:List Str).zip us))
  (dS: ∀(kV doc pm:Value) (an:Option Addr) (cdv ct:Value) (us:List Value),us.length=1->bindArgs (W.fnOf "_law_class" "_law_class" (qai st2) (qam st2) (qab st2) .none kV doc pm an cdv ct) ⟨us,[]⟩=pure ((["_law_kept"]:List Str).zip us))
  (ok: ∀{P:Program} {w:World} {K:W.Frag} {mg:Str->Option Value} {base:Heap} {f:Addr} {fd:FuncData},Fun K "_law_class" "_law_class" st2 f fd->qoB K mg->mg "isinstance" =none->mg "ValueError" =none->FnN P w K mg base 1 f fd ["_law_kept"] (qhi base (qmj K)))
  (hw:(g.wd.all λp=>qrv p.1==some p.2)=true)
  (hT: ∀ns:List Int,ns.length<=63->∃m,TTf g (kk+1) i [.scr ns] ⟨[],[]⟩= .ok (.bl true) m):
  W.WalkO q loose XP YP l.row.toRowW d [] (λf vs=>PySem.call f vs):=
 qrs hn dO hd hY a0 hR S hok dF hi hs hp (λw mg h base X G KI _=>by
  have D:=qju X G (S w).h1 (S w).h2;have Z:=qnI X G (z w);exact qrx _ rfl Z KI T (D i1 _ _ h1) (D i2 _ _ h2) hb dS (λF=>ok F Z (qnk X G (S w).h4 "isinstance" (by decide)) (qnk (l:=["ValueError"]) X G (by simp[v w]) "ValueError" (by simp))) λc x h=>eq_of_beq (List.all_eq_true.mp hw (c,x) (Vv h))) hT
end NV
namespace K89
open PySem
abbrev s_19:Stmt:=top 59
abbrev s_23:Stmt:=top 60
open L2 PL HD
section
variable {P:Program}{w:World}{K:W.Frag}{mg:Str->Option Value}{base:Heap}
theorem qoh:bootBuiltins "ValueError" =some (.type "ValueError"):=by decide+kernel
theorem qjT{D:Addr}: ∀u,RelV (.ref D) u->u=Value.ref D:=λu r=>r
theorem quN{n:String}: ∀u,RelV (.ty n) u->u=Value.type n:=λu r=>r
theorem qgB:qbE ["_law_kept", "_law_kinds", "_law_some"] ["_law_kept"] (qab s_19):=by trivial
theorem told_tx:qfA s_23:=⟨⟨rfl,rfl,rfl,by decide+kernel,rfl,by decide+kernel,by decide+kernel⟩,⟨_,_,_,_,_,_,_,_,_,_,rfl⟩,rfl,rfl,rfl,rfl⟩
abbrev wV:List V:=[V.str "ended",V.str "full",V.str "no ask",V.str "no back",V.str "no name",V.str "no number",V.str "no row",V.str "no text",V.str "too late",V.str "unlike"]
theorem qpi: ∀j<10,([0==j,1==j,2==j,3==j,4==j,5==j,6==j,7==j,8==j,9==j]:List Bool)[j]? =some true/\(∀i,i<j->([0==j,1==j,2==j,3==j,4==j,5==j,6==j,7==j,8==j,9==j]:List Bool)[i]? =some (!true))/\([0==j,1==j,2==j,3==j,4==j,5==j,6==j,7==j,8==j,9==j]:List Bool).countP (· ==true)=1/\wV[j]? =some (.str (qoq.getD j "")):=by
 intro j hj;have:j=0\/j=1\/j=2\/j=3\/j=4\/j=5\/j=6\/j=7\/j=8\/j=9:=by omega
 rcases this with rfl|rfl|rfl|rfl|rfl|rfl|rfl|rfl|rfl|rfl<;>refine⟨rfl,?_,rfl,rfl⟩<;>decide
theorem qo9{X:Cx}{b c t}(h:b=c)(k:PSs X c t):PSs X b t:=h▸k
theorem pas{X:Cx}{z j p es t}(h:PA X es t):PA X (.Constant (.str z) j p::es) (qdV (tC (.str z)) t):=qaM qgL h
abbrev isR(X:Cx):List V->Hp->VK->Prop:=λxs H Q=> ∃a C bm y c b,xs=[.ref a,y]/\H a=some (ExO a C)/\qdf X.base C bm/\(W.clsIn X.K C).isSome=true/\(∀u,RelV y u->u=c)/\W.kitOne X.K (.ref C) c=some b/\Q (.bl b) H
theorem isx {X:Cx} {x y:Str} {v:V} {p q r s:Pos} (i:X.mg "isinstance" =none) (g:Gl X "isinstance") (hN:X.N[0]? =some y) (hv:Vis X.env.scope y) (h1:(y==("__debug__" :Str))=false) (h2:(y==("__classdict__" :Str))=false) (he:PE X (.Name x r) (tC v)):PE X (.Call (.Name "isinstance" p) [.Name y q,.Name x r] [] s) (tCB (isR X) (qdV (qms 0) (qdV (tC v) qmu))):=qaL qft g i PyProof.Rows.boot_isinstance (qaM (pv 0 hN hv h1 h2) (qaM he qbn))
theorem isc {X:Cx} {x y:Str} {A:Addr} {p q r s:Pos} {es t} (h:X.mg "isinstance" =none/\Gl X "isinstance" /\X.N[0]? =some y/\Vis X.env.scope y/\(y==("__debug__" :Str))=false/\(y==("__classdict__" :Str))=false/\Gl X x/\X.mg x=some (.ref A)/\(x==("__debug__" :Str))=false) (hr:PA X es t):PA X (.Call (.Name "isinstance" p) [.Name y q,.Name x r] [] s::es) (qdV (tCB (isR X) (qdV (qms 0) (qdV (tC (.ref A)) qmu))) t):=
 have ⟨i,g,hN,hv,h1,h2,h3,hm,hd⟩:=h
 qaM (isx i g hN hv h1 h2 (qbW h3 hm rfl hd)) hr
theorem ok_class {f:Addr} {fd:FuncData} (F:Fun K "_law_class" "_law_class" s_19 f fd) (Z:qoB K mg) (i1:mg "isinstance" =none) (v1:mg "ValueError" =none):FnN P w K mg base 1 f fd ["_law_kept"] (qhi base (qmj K)):=by
 refine qqk F qgB (λvs H Q h=> ?_) (λcdv A outer s H vs Q hr h=> ?_)
 ·obtain⟨a,C,bm,x,rfl,_⟩:=h;rfl
 ·obtain⟨a,C,bm,x,rfl,ha,hX,hw,q⟩:=h;obtain⟨j,hj,rfl,rfl⟩:=qgu hw;have nd:=qgB.nd;have hc:=Z.c j hj;have k:=Z.k j hj;have m0:mg "Ended" =some (.ref (clOf K "Ended")):=Z.m 0 (by decide);have m1:mg "Full" =some (.ref (clOf K "Full")):=Z.m 1 (by decide);have m2:mg "NoAsk" =some (.ref (clOf K "NoAsk")):=Z.m 2 (by decide);have m3:mg "NoBack" =some (.ref (clOf K "NoBack")):=Z.m 3 (by decide);have m4:mg "NoName" =some (.ref (clOf K "NoName")):=Z.m 4 (by decide);have m5:mg "NoNumber" =some (.ref (clOf K "NoNumber")):=Z.m 5 (by decide);have m6:mg "NoRow" =some (.ref (clOf K "NoRow")):=Z.m 6 (by decide);have m7:mg "NoText" =some (.ref (clOf K "NoText")):=Z.m 7 (by decide);have m8:mg "TooLate" =some (.ref (clOf K "TooLate")):=Z.m 8 (by decide);have m9:mg "Unlike" =some (.ref (clOf K "Unlike")):=Z.m 9 (by decide);refine⟨_,@qo9 _ _ _ _ (rfl:_=_::_::_::_::_::_::[]) (@qbG _ _ _ _ _ (@qeU _ _ 1 _ _ _ _ nd (by exact rfl) (by exact .inl rfl) (@qeY _ _ _ _ (isc (by exact⟨i1,rfl,rfl,Or.inl rfl,rfl,rfl,rfl,m0,rfl⟩) (isc (by exact⟨i1,rfl,rfl,Or.inl rfl,rfl,rfl,rfl,m1,rfl⟩) (isc (by exact⟨i1,rfl,rfl,Or.inl rfl,rfl,rfl,rfl,m2,rfl⟩) (isc (by exact⟨i1,rfl,rfl,Or.inl rfl,rfl,rfl,rfl,m3,rfl⟩) qbn))))) (by exact rfl) (by exact .inl rfl)) (@qbG _ _ _ _ _ (@qeU _ _ 1 _ _ _ _ nd (by exact rfl) (by exact .inl rfl) (@qmX _ _ _ _ _ _ _ _ qiD (@pv _ 1 _ _ (by exact rfl) (by exact .inl rfl) (by exact rfl) (by exact rfl)) (@qeY _ _ _ _ (isc (by exact⟨i1,rfl,rfl,Or.inl rfl,rfl,rfl,rfl,m4,rfl⟩) (isc (by exact⟨i1,rfl,rfl,Or.inl rfl,rfl,rfl,rfl,m5,rfl⟩) (isc (by exact⟨i1,rfl,rfl,Or.inl rfl,rfl,rfl,rfl,m6,rfl⟩) qbn))))) (by exact rfl) (by exact .inl rfl)) (@qbG _ _ _ _ _ (@qeU _ _ 1 _ _ _ _ nd (by exact rfl) (by exact .inl rfl) (@qmX _ _ _ _ _ _ _ _ qiD (@pv _ 1 _ _ (by exact rfl) (by exact .inl rfl) (by exact rfl) (by exact rfl)) (@qeY _ _ _ _ (isc (by exact⟨i1,rfl,rfl,Or.inl rfl,rfl,rfl,rfl,m7,rfl⟩) (isc (by exact⟨i1,rfl,rfl,Or.inl rfl,rfl,rfl,rfl,m8,rfl⟩) (isc (by exact⟨i1,rfl,rfl,Or.inl rfl,rfl,rfl,rfl,m9,rfl⟩) qbn))))) (by exact rfl) (by exact .inl rfl)) (@qbG _ _ _ _ _ (@qpc _ _ _ _ _ _ _ _ (@PW.pt _ _ _ (@qo6 _ _ _ _ _ _ _ (@qd5 _ _ _ _ _ _ _ _ qsk (@qm2 _ _ _ _ _ _ _ _ _ _ _ _ PySem.F.plainAttrs_list PySem.F.slot_list_count PySem.F.type_list_count qiL (@pv _ 1 _ _ (by exact rfl) (by exact .inl rfl) (by exact rfl) (by exact rfl)) (@qaM _ _ _ _ _ qm3 qbn (by exact rfl)) (by exact rfl) (by exact rfl) (by exact rfl) (by exact rfl) (by exact rfl)) qlR (qpO _)) (@qlO _ _ _ _ (@qlQ _ _ _ _ (@qlP _ _ _ (isx (v:=.ty "ValueError") (by exact i1) (by exact rfl) (by exact rfl) (by exact .inl rfl) (by exact rfl) (by exact rfl) (@qiu _ _ _ _ _ (by exact rfl) (by exact v1) qoh (by exact rfl) (by decide) (by exact rfl))) (by intro _;rfl)))))) (@qcM _ _ _ (@qeV _ _ _ _ qgL)) qin) (@qbG _ _ _ _ _ (@qeU _ _ 2 _ _ _ _ nd (by exact rfl) (by exact .inl rfl) (@qeY _ _ _ _ (pas (pas (pas (pas (pas (pas (pas (pas (pas (pas qbn))))))))))) (by exact rfl) (by exact .inl rfl)) (@qcM _ _ _ (@qeV _ _ _ _ (@qpo _ _ _ _ _ _ _ qiZ (@pv _ 2 _ _ (by exact rfl) (by exact .inl rfl) (by exact rfl) (by exact rfl)) (@qm2 _ _ _ _ _ _ _ _ _ _ _ _ PySem.F.plainAttrs_list PySem.F.slot_list_index PySem.F.type_list_index qiJ (@pv _ 1 _ _ (by exact rfl) (by exact .inl rfl) (by exact rfl) (by exact rfl)) (@qaM _ _ _ _ _ qm3 qbn (by exact rfl)) (by exact rfl) (by exact rfl) (by exact rfl) (by exact rfl) (by exact rfl)) (λ_ _=>rfl))))))))),?_⟩;have new: ∀{H:Hp} {l:Addr} {o:HO},H l=none->∀b u,H b=some u->upd H l o b=some u:=λh b u e=>by rw[qaa (qag e h)];exact e
  refine⟨_,rfl,a,_,bm,_,_,_,rfl,ha ,hX,hc,qjT,k 0 (by decide),_,rfl,a,_,bm,_,_,_,rfl,ha ,hX,hc,qjT,k 1 (by decide),_,rfl,a,_,bm,_,_,_,rfl,ha ,hX,hc,qjT,k 2 (by decide),_,rfl,a,_,bm,_,_,_,rfl,ha ,hX,hc,qjT,k 3 (by decide),by show 4<=sizeLine;decide,λl hl=> ?_⟩;have s1: ∀b u,H b=some u->upd H l (.lst [V.bl (0==j),V.bl (1==j),V.bl (2==j),V.bl (3==j)]) b=some u:=new hl;generalize hH1:upd H l (.lst [V.bl (0==j),V.bl (1==j),V.bl (2==j),V.bl (3==j)])=H1 at s1⊢;have l1:H1 l=some (.lst [V.bl (0==j),V.bl (1==j),V.bl (2==j),V.bl (3==j)]):=by rw[<-hH1];exact qac
  have gc:=s1 _ _ ha;refine⟨_,rfl,_,rfl,a,_,bm,_,_,_,rfl,gc ,hX,hc,qjT,k 4 (by decide),_,rfl,a,_,bm,_,_,_,rfl,gc ,hX,hc,qjT,k 5 (by decide),_,rfl,a,_,bm,_,_,_,rfl,gc ,hX,hc,qjT,k 6 (by decide),by show 3<=sizeLine;decide,λm hm=> ?_⟩;have s2: ∀b u,H1 b=some u->upd H1 m (.lst [V.bl (4==j),V.bl (5==j),V.bl (6==j)]) b=some u:=new hm;generalize ja:upd H1 m (.lst [V.bl (4==j),V.bl (5==j),V.bl (6==j)])=H2 at s2⊢;have m2:H2 m=some (.lst [V.bl (4==j),V.bl (5==j),V.bl (6==j)]):=by rw[<-ja];exact qac
  refine⟨l,m,_,_,rfl,rfl,s2 _ _ l1,m2,by show 7<=sizeLine;decide,λl' eV=> ?_⟩;have s3: ∀b u,H2 b=some u->upd H2 l' (.lst ([V.bl (0==j),V.bl (1==j),V.bl (2==j),V.bl (3==j)]++[V.bl (4==j),V.bl (5==j),V.bl (6==j)])) b=some u:=new eV;generalize fh:upd H2 l' (.lst ([V.bl (0==j),V.bl (1==j),V.bl (2==j),V.bl (3==j)]++[V.bl (4==j),V.bl (5==j),V.bl (6==j)]))=H3 at s3⊢;have l3:H3 l'=some (.lst ([V.bl (0==j),V.bl (1==j),V.bl (2==j),V.bl (3==j)]++[V.bl (4==j),V.bl (5==j),V.bl (6==j)])):=by rw[<-fh];exact qac
  have f9:=s3 _ _ (s2 _ _ gc);refine⟨_,rfl,_,rfl,a,_,bm,_,_,_,rfl,f9 ,hX,hc,qjT,k 7 (by decide),_,rfl,a,_,bm,_,_,_,rfl,f9 ,hX,hc,qjT,k 8 (by decide),_,rfl,a,_,bm,_,_,_,rfl,f9 ,hX,hc,qjT,k 9 (by decide),by show 3<=sizeLine;decide,λn hn=> ?_⟩;have s4: ∀b u,H3 b=some u->upd H3 n (.lst [V.bl (7==j),V.bl (8==j),V.bl (9==j)]) b=some u:=new hn;generalize hH4:upd H3 n (.lst [V.bl (7==j),V.bl (8==j),V.bl (9==j)])=H4 at s4⊢;have n4:H4 n=some (.lst [V.bl (7==j),V.bl (8==j),V.bl (9==j)]):=by rw[<-hH4];exact qac
  refine⟨l',n,_,_,rfl,rfl,s4 _ _ l3,n4,by show 10<=sizeLine;decide,λp hp=> ?_⟩;have s5: ∀b u,H4 b=some u->upd H4 p (.lst ([V.bl (0==j),V.bl (1==j),V.bl (2==j),V.bl (3==j)]++[V.bl (4==j),V.bl (5==j),V.bl (6==j)]++[V.bl (7==j),V.bl (8==j),V.bl (9==j)])) b=some u:=new hp;generalize hH5:upd H4 p (.lst ([V.bl (0==j),V.bl (1==j),V.bl (2==j),V.bl (3==j)]++[V.bl (4==j),V.bl (5==j),V.bl (6==j)]++[V.bl (7==j),V.bl (8==j),V.bl (9==j)]))=H5 at s5⊢;have p5:H5 p=some (.lst (([0==j,1==j,2==j,3==j,4==j,5==j,6==j,7==j,8==j,9==j]:List Bool).map V.bl)):=by rw[<-hH5];exact qac
  have aH5:=s5 _ _ (s4 _ _ f9);obtain⟨c1,c2,c4,c3⟩:=qpi j hj;refine⟨_,rfl,.inl ⟨rfl,_,SqL.of p5⟩,p,_,true,rfl,rfl,p5,rfl,_,rfl,?_⟩;rw[c4];refine qsH ?_;refine⟨_,rfl,a,_,bm,_,_,_,rfl,aH5,hX,hc,quN,Z.v j hj,_,rfl,?_⟩;refine qsH ?_;refine⟨by show 10<=sizeLine;decide,λr hr=> ?_⟩;have s6: ∀b u,H5 b=some u->upd H5 r (.lst wV) b=some u:=new hr;refine⟨_,rfl,_,rfl,.inl ⟨rfl,_,SqL.of (s6 _ _ p5)⟩,p,_,true,j,rfl,rfl,s6 _ _ p5,by show 10<=1000;decide,c1,c2,r,_,_,_,rfl,rfl,SqL.of qac,qol c3,?_⟩;exact q _ λb u e=>s6 _ _ (s5 _ _ (s4 _ _ (s3 _ _ (s2 _ _ (s1 _ _ e)))))
end
end K89
section
open PySem PySem.W PyProof.Rows
set_option maxRecDepth 100000 in
set_option maxHeartbeats 0 in
theorem PySem.Challenge.cw_rowasks_k89_desks_refused_holds : PySem.Challenge.rw_rowasks_k89_desks_refused.Holds := by
 w_on;o_law
 refine holds_open (q:=K89.vq) (loose:=K89.lo) (Xt:=K89.xt) (XP:=XL K89.vq []) (Yf:=Hook.obs K89.hk) (Ya:=Hook.val K89.hk) (YP:=Hook.says K89.hk) (N:=20000) (FR.left_fp "special-get-raises" K89.rXF K89.rYF K89.rXT K89.rYT) (Hook.of K89.hk) (Hook.keeps K89.hk) (λs e=>xl_of s (Bool.and_eq_true_iff.mp e).1) XL.keeps (by rfl) (by rfl) (by rfl) (λs e=>recFacts_of (Bool.and_eq_true_iff.mp e).2) (by rfl) (by first|assumption|decide+kernel) (by decide+kernel) ⟨rfl,rfl,rfl,rfl,rfl,by decide+kernel⟩ ?hw ?hc
 (case hw=>w_witness2)
 k_fill
 refine' NV.walkT (l:=PySem.Challenge.rw_rowasks_k89_desks_refused) (g:=K89.gx) (kk:=7) (i:=48) (i1:=32) (i2:=31) (st:=K89.s_23) (st2:=K89.s_19) rfl rfl rfl (λw h Y=>Y.1) ?_ ⟨rfl,by decide,by decide⟩ (λw=>⟨by kernel_rfl,by kernel_rfl,by kernel_rfl,by kernel_rfl,by kernel_rfl,by kernel_rfl,by kernel_rfl,by kernel_rfl,by kernel_rfl,by kernel_rfl,by kernel_rfl⟩) (by kernel_rfl) (by kernel_rfl) (by kernel_rfl) rfl rfl (λw=>by kernel_rfl) (λw=>by kernel_rfl) (by kernel_rfl) (by kernel_rfl) K89.told_tx (λ_ _ _ _ _ _ us hl=>by obtain⟨a,e⟩:=PL.len1 hl;subst e;rfl) (λ_ _ _ _ _ _ us hl=>by obtain⟨a,e⟩:=PL.len1 hl;subst e;rfl) (λF Z i v=>K89.ok_class F Z i v) (by kernel_rfl) (λns hl=>K89.law_true ns);intro y hy;have hy:y∈K89.gx.lm:=hy;simp only[K89.gx,List.mem_append,List.mem_cons,List.not_mem_nil,or_false,false_or] at hy
 rcases hy with rfl<;>exact⟨_,rfl⟩
end
